import PyProof.Rows.All
import Wide.All
import OpenK.AllK
import Wide.FinOn
import Lean
import PyProof.EqAt
import PyProof.EqKinds
import PyProof.TupleCall
import PySem.Challenge.RW_formgrove_k39_all_small_ends
set_option Elab.async false
set_option linter.all false
set_option maxRecDepth 100000
theorem ah:type_of% @if_neg:=@if_neg
theorem aj:type_of% @if_pos:=@if_pos
theorem aP:type_of% @decide_eq_true:=@decide_eq_true
theorem bx:type_of% @decide_eq_false:=@decide_eq_false
theorem bK:type_of% @of_decide_eq_true:=@of_decide_eq_true
theorem eV:type_of% @if_false:=@if_false
theorem fB:type_of% @decide_eq_true_eq:=@decide_eq_true_eq
theorem gF:type_of% @if_true:=@if_true
theorem l_:type_of% @of_decide_eq_false:=@of_decide_eq_false
theorem nG:type_of% @beq_eq_false_iff_ne:=@beq_eq_false_iff_ne
theorem pZ:type_of% @beq_iff_eq:=@beq_iff_eq
theorem p5:type_of% @or_false:=@or_false
open PySem renaming Value->aa,wpAny_bind->ae,Shared->af,wpAny_pure->ai,World->ay,Program->aC,Around->aI,Paired->aN,sizeLine_eq->bB,SetTable->bQ,Scope->cY,wpAny_mono->dz,Builtin->dG,FuncData->dP,PyData->dQ,wpAny_holding->eW,codeAny_builtin->gb,wpAny_newObj_type->gG,DictEntry->jO,boot_len->jT,plainId_quiet->jV,wpAny_call_entry->jW,Drawn->mZ,IsPart->ng,Result->pX,wpAny_Call_Name_kw->p6,wpAny_rule->p7,wpAny_updateSeq->p8,IsItemIter->rR,wpAny_fieldsOf->si,wpAny_newList->sk,wpAny_of_eq->so,wpAny_setState_of->sq,wpAny_tryCatch->su,Arguments->uF,mem_of_lookup->uP,wpAny_attempt->uS,wpAny_callSpecial?_slot->uT,wpAny_field->uU,wpAny_passesOwn->uV,wpAny_typeOf->uW,BindsTo->xn,CmpOp->xp,Keyword->xw,NameKind->xH,call_meets->xQ,codeAny_mono->xR,wpAny_dictEntries->xY,wpAny_dictEpoch->xZ,wpAny_eqBool_int->x9,wpAny_isInstance->x_,wpAny_letGo->ya,wpAny_standAt->yb,wpAny_truthy_bool->yc,ItemsOf->Ba,Meets->Bk,tupleKind_room_in1->Bw,wpAny_ite_split->Bx,wpAny_pyIter_list->By,wpAny_seqItems->Bz,wpAny_setField_rec->BB,wpAny_throw->BC,Model->Fy,Params->FJ,builtinLookup_eq_fast->FX,isSubtype_type->FY,typeLookup_type->Ga,wpAny_call->Gb,wpAny_comprehension_free->Gd,wpAny_execs_nil->Ge,wpAny_load->Gf,wpAny_newTuple->Gg,wpAny_pyIter_slot->Gh,wpAny_setField->Gi,wpAny_typeNameOfWhole_itemiter->Gj,wpAny_typeNameOfWhole_keyiter->Gk,wpAny_typeNameOf_itemiter->Gm,wpAny_typeNameOf_keyiter->Gn,ElemsOf->Mu,GenState->Mw,IsItemIterOut->MA,Fin->M6,Within->Nd,call->Nf,ReadsAll->Ng,TriplesOk->Nk,call_meetsIn->Nn,concat_meets->Np,isSubtype_stop->Nq,noFill_tuple_add->Nt,seqIndex_of->Nv,seq_tuple_add->Nw,typeIs_int->Nz,wpAny_Name->NA,wpAny_askSetting->NB,wpAny_assign_Name->NC,wpAny_handled->ND,wpAny_isOneOf_itemiter->NE,wpAny_isOneOf_keyiter->NF,wpAny_lt_int->NG,wpAny_newFunctionEnv->NH,wpAny_notOrdered_dict->NI,wpAny_runValue->NJ,IsRangeIter->V3,IsPair->Xb,Pairs->Xc,evalArgs_none->Xn,call_list_seq->XF,codeAny_call_builtin->XG,codeAny_compStart_list->XH,codeAny_loop->XI,codeAny_of_tree->XJ,entryFor_alias->XO,entryFor_of_tree->XQ,evalPart_none->XU,eval_ListComp->XW,exec_Assign_Name_used->XX,intBits_le_64->XY,richCompare_meets_room->X1,signature?_of->X2,slot_list_getitem->X3,wpAny_Call_method->X6,wpAny_Call_method0_late->X7,wpAny_Compare1->X8,wpAny_Dict_empty->X9,wpAny_Slice->X',wpAny_eqBool_str->X_,wpAny_execs_cons->Ya,wpAny_isTrue_Compare1->Yb,wpAny_noted->Yc,wpAny_pyIter_keyiter->Yd,wpAny_pyIter_revIter->Ye,wpAny_pyIter_zip->Yf,wpAny_pyNext_list_end->Yg,wpAny_pyNext_list_item->Yh,wpAny_specialOf->Yi,wpAny_storeSet_of->Yj
open List renaming mem_singleton->ao,length_map->ar,length_append->aH,mem_append->aS,mem_cons->aV,mem_cons_self->aZ,mem_map->a6,mem_append_right->a9,size_toArray->bp,length_cons->bI,mem_cons_of_mem->bM,getElem?_eq_getElem->bO,map_append->bP,getElem?_map->bW,mem_of_getElem?->bY,mem_append_left->cb,map_cons->ck,replicate->cE,length_singleton->cL,getElem?_eq_some_iff->cT,take_length->cU,range->c_,forall_mem_cons->dU,forall_mem_nil->dW,length->fA,append_nil->fN,map_map->gB,getD_eq_getElem?_getD->iw,length_eq_zero_iff->ix,length_take->iy,mem_range->iY,cons_append->jP,pairwise_map->jQ,mem_filter->kQ,append_assoc->lW,length_nil->lX,length_replicate->lY,filter_append->nh,find?_cons_of_neg->nj,length_filter_le->nk,length_range->nq,not_mem_nil->ny,pairwise_iff_getElem->nA,Nodup->pM,filter_cons->pO,length_reverse->pP,map_congr_left->pQ,nodup_nil->pR,reverse_append->pS,append_inj'->rO,filter_cons_of_pos->rS,filter_nil->rT,length_drop->rV,length_set->rW,nodup_cons->rX,reverse_cons->rY,any_eq_true->uH,filterMap_cons_some->uJ,find?_cons_of_pos->uK,lookup->uL,mem_iff_getElem?->uM,nil_append->uN,concat_eq_append->xx,eq_nil_or_concat->xy,filterMap_cons_none->xA,filter_cons_of_neg->xB,find?_cons->xC,getElem?_replicate->xD,nodup_append->xE,replicate_succ->xF,take_of_length_le->xG,any_cons->Be,ext_getElem?->Bf,flatten_cons->Bg,getElem?_eq_none->Bh,pairwise_cons->Bi,sum_cons->Bj,any_map->Ff,dropLast_concat->Fh,drop_eq_getElem_cons->Fi,eq_nil_of_length_eq_zero->Fj,filterMap_cons->Fl,foldl->Fn,foldl_append->Fp,getElem?_append_left->Fq,getElem?_append_right->Fs,getElem_mem->Ft,mem_iff_getElem->Fu,of_mem_zip->Fv,take_sublist->Fw,Perm->MC,all_eq_true->ME,append_eq_nil_iff->MF,cons_lt_cons_iff->MG,find?_some->MH,foldl_cons->MI,getElem?_set->MJ,length_pos_of_mem->MK,lookup_cons->ML,lt_irrefl->MM,nil_lt_cons->MN,nodup_range->MO,pairwise_singleton->MP,range_succ->MQ,zip_cons_cons->MR,all_cons->V7,drop_length->V9,drop_of_length_le->V',drop_sublist->V_,drop_zero->Wa,getElem?_set_ne->Wb,getElem?_set_self->Wc,getElem_drop->Wd,lt_trans->We,map->Wf,map_eq_nil_iff->Wg,map_id->Wh,map_nil->Wi,map_set->Wj,mem_filterMap->Wk,mem_of_find?_eq_some->Wl,mem_of_mem_take->Wm,mem_reverse->Wn,pairwise_append->Wo,perm_append_comm->Wq,reverse_eq_nil_iff->Wr,reverse_nil->Ws,take_add_one->Wt,take_append_drop->Wu,take_succ_eq_append_getElem->Wv,toArray->Ww,zip_nil_left->Wx
open PySem.W renaming Frag->au,mg_of->dH,kia_one->l9,findIn->nF,emptyDict->pW,instObj->se,fnOf->xN,keepIn->xO,kat_cons->xT,kat_go->xU,kat_no->xV,kat_yes->xW,lookIn->FL,plainGet->FN,kat_one->FZ,OpenLaw->MX,callWith_K->M7,codeHdIn->M8,codeIn->M9,hasDictIn->M',isFn->M_,methodObj->Na,plainGet_of->Nb,takerIn->Nc,OpenLaw->Xd,WalkO->Xe,cellsFrom_some->Xf,handedIn->Xg,kitOne->Xh,kitx_dict->Xi,kitx_list->Xj,makesIn->Xk,methodCall_KW->Xl,plainOver->Xm,codeHd_of_K->XM
open Nat renaming le_refl->ax,ne_of_lt->bc,zero_le->bz,le_trans->cm,lt_of_lt_of_le->cW,lt_irrefl->eU,lt_or_ge->iz,ne_of_gt->jR,le_of_lt->lZ,lt_trans->nB,zero_add->nD,lt_succ_self->pT,le_succ->rZ,not_lt_zero->r6,lt_of_le_of_lt->xI,lt_succ_of_lt->xJ,le_of_eq->Bm,add_le_add_right->Fz,add_right_comm->FA,le_succ_of_le->FC,mod_lt->FD,pow_succ->FE,succ_pos->FF,lt_succ_iff_lt_or_eq->MS,lt_trichotomy->MT,min_self->MU,pow_le_pow_right->MV,sub_self->MW,div_eq_of_lt->Wz,eq_zero_or_pos->WA,le_of_lt_succ->WB,min_eq_left->WC,min_eq_right->WD,min_le_left->WE,mul_comm->WG,sub_zero->WH,succ_lt_succ->WL
open Sum renaming inl->aA,inr->br
open PySem.Heap renaming get?_push_of_some->aG,lt_size->aM,get?_push_size->bE,SameBut->fz,get?_update_other->iu,size_push->iX,get?_update_self->m_,size_update->xt,ExtBut->Fb,get?_push_ne->Fc
open PySem.Value renaming ref->aO,none->bg,type->dy,str->gE,int->iZ,bool->jU,float->Nl,bytes->Xx,isInt->Xz,isStrOf->XA,notImplemented->XB
open Array renaming length_toList->aU,getElem?_toList->jM,getD->kO,getElem?_eq_getElem->lT,size_push->pL,getElem?_eq_none->rP,size_map->xk,toList_map->xm,getD_eq_getD_getElem?->EZ,getElem?_eq_none_iff->E2,replicate->Mj,size_append->Ml,size_zip->Mm,toList->Mn,toList_push->Mo,forIn_toList->Vp,mem_toList_iff->Vq,pop_push->Vs,size_setIfInBounds->Vt,toList_append->Vu,toList_inj->Vv
open PySem.Obj renaming mapSeq->a7,putSet->Bn,data_mapFields->FG,cls_mapFields->WM,isFreed_of_fields->WN,mapFields->WO
open PySem.Str renaming ofString->bw,empty->FV
open PySem.SetTable renaming below->cf,Probe->f_,insertAt->gT,sizeAbove->gU,bits->pY,turns->sh,runEnd->uQ,grown->xP,fill->FO,fits->FP,insertAt_perm->FR,advance->Nh,slot->Ni,laid->Xs,layClean->Xt
open PySem.Paired renaming length->cw,snoc->r8
open PySem.PassesOwn renaming never->cN
open Bool renaming false_ne_true->cS,and_eq_true->gA,false_eq_true->jN,eq_iff_iff->mY,or_eq_true->E3,eq_false_iff->Vy
open PyProof.Rows renaming Keyed->cX,IntsAre->kP,mem_zip_self->kU,AllBare->pJ,envOfC->pU,listUpdate_at->uR,get?_update_seq->xS,pairsOf_toList->xX,size_push'->A4,KskOut->Bc,callWith_type1->Bp,pairsOf_size->Bu,seqEpoch_at->Bv,Subscript_->FW,oneLt_int->F0,keyLt'_oneType->Mi,slot_tuple_getitem->M0,SortKind->Nj,callWith_kw->Nm,listItems_at->Nr,tail_any->Ny,entry_list_iadd'->Vm,entry_proto_collect'->Vn,callWith_builtin1->WU,kmk_tree->WV,collect_list->XN,entry_list_sort->XS,entry_sorted->XT,kind_sorted->XZ,plain_sorted->X0,slot_list_sort->X4,subscriptTail_builtinR->X5,lt_str->ZCf
open Option renaming map_eq_some_iff->dv,isSome_map->FH,map_some->FI,isSome_iff_exists->MY,getD_none->WQ,isNone_some->WR,none->WT
open PySem.F renaming plainAttrs_list->dX,slot_list_append->gC,type_list_append->gD,plain_min_loop->pV,called_set->r_,slot_dict_itemiterator_next->A_,slot_dict_keyiterator_next->Bq,slot_list_pop->Br,type_list_pop->Bs,slot_list_getattribute->E_,entry_min_loop->FK,args_tuple_add_2->M1,entry_tuple_add->M3,slot_dict_get->M4,slot_tuple_add->M5,args_dict_itemiterator_next_1->VO,args_list_extend_2->VP,entry_dict_itemiterator_next->VQ,entry_extend_loop->VR,entry_list_extend->VS,slot_dict_items->VU,slot_dict_items_iter->VV,slot_int_rmul->VW,slot_list_extend->VX,args_dict_get_3->WW,args_dict_keyiterator_next_1->WX,entry_dict_get->WY,entry_dict_keyiterator_next->WZ,entry_min->W0,kind_min->W2,plainAttrs_dict->W3,plain_extend_loop->W4,plain_min->W5,plain_set_new->W6,slot_dict_iter->W7,slot_dict_setdefault->W8,slot_list_extend->W9,slot_set_iter->W_,type_list_extend->Xa
open Option.some renaming inj->ed
open Int renaming toNat_of_nonneg->fM,toNat_natCast->lV,emod_nonneg->uG,emod_lt_of_pos->xu,eq_ofNat_of_zero_le->Mx,toNat->Mz,zero_add->V2
open PySem.PyData renaming str->f',canLayAll0->jS,depthAll->kR,strOk->nE,eqv->uO,eqvAll->xM
open Ne renaming symm->gS
open True renaming intro->kT
open PySem.Around renaming under_plainId->lS,under->EY,frames_deeper->Vo
open PySem.Heap.SameBut renaming update->lU
open False renaming elim->m9
open List.Perm renaming refl->pN,of_eq->Fe,swap->MD
open Iff renaming rfl->rQ,trans->Fd
open List.cons renaming inj->uI,injEq->V8
open PySem.Calls renaming spliced_cons->xo,callWith_builtin->A8,spliced_nil->E9,evalArgs_plain->Mq,Name_function_global->VH
open PySem.Data renaming fields->xr,seq->Mt
open Prod renaming snd->xK,fst->Bo,ext->MZ
open PySem.Builtin.Dict_items renaming ownsTuple->A5,ownedTupleFields->VC,ownedTupleIsFree->VD,pairFromOwner->VE,dictOf->ZBP,newIterator->ZBQ
open PySem.Builtin.List renaming listExtendWith->A6,listTooLong->A7,listSameRef->E6,listLengthHint->VF,listFitsIndex->ZBV,listTouch->ZBW
open PySem.Code renaming quiet_builtin->A9,isFrame->Ms,compStart->VI,frames->VJ,isGuard->VL
open PySem.W.KasT renaming kasWp_bind->Bb,ask->V5
open List.Pairwise renaming sublist->Bd,nil->MB,filter->ZB6,imp_of_mem->ZB7,map->ZB8
open Sum.inl renaming inj->Bt
open PySem.Builtin.Builtins renaming bindParams->E4
open PySem.Builtin.Dict renaming showsAll->E5,addKeywords->Vz,pairItems->VA,updateFrom->VB,dictSlotNone->ZBM,noArgs->ZBN,selfAndRest->ZBO
open PySem.Builtin.Slice renaming slicePlaces->E7,sliceAdjust->Mp,sliceApplied->VG,sliceFields->ZBY,slicePartIndex->ZBZ
open PySem.Builtin.Tuple renaming tupleExact->E8,tupleCompareSizes->ZB0,tupleItemsOf->ZB1
open PySem.W.Looks renaming of_pure->Fx,here->ZCL
open PySem.SetTable.layClean renaming free->FT
open PySem.Shared renaming TypeIs->FU
open PySem.MeetsSeq3 renaming plain_eq_loop->F_,entry_eq_loop->XR
open PyProof.Rows.SortSt renaming mk'->Mh
open Classical renaming byContradiction->Mr
open PyProof.Rows.F renaming plain_set_update_loop->Mv,entry_set_update_loop->VT
open PySem.SeqAt renaming room_head->Nu,EqAt->Xo,compareEq_reads->ZCI,compareNe_reads->ZCJ,eqv_refl->ZCK
open PySem.AutoSeq1 renaming wpAny_loadPart'->Vl,sub_list_list->Vw,sub_tuple_tuple->Vx
open Array.mk renaming injEq->Vr
open PySem.Data.seq renaming injEq->VM
open Exists renaming choose_spec->VN
open PySem.Fin renaming done->VY
open PySem.Flow renaming ret->VZ
open PySem.Heap.DictOf renaming new->V0
open PySem.Heap.IsSliceOf renaming new->V1
open PyProof.Rows.IsTup renaming new->V4
open PySem.W.KatTups renaming cons->V6
open PySem.NameKind renaming free->Wy
open Nat.succ renaming inj->WJ
open PySem.SeqAt.EqAt renaming int_str->Xp,str_int->Xq,bool_bool->ZCN,bool_int->ZCO,bool_none->ZCP,bool_str->ZCQ,int_bool->ZCR,int_int->ZCS,int_none->ZCT,none_bool->ZCU,none_int->ZCV,none_str->ZCW,same->ZCX,str_bool->ZCY,str_none->ZCZ,str_str->ZC0
open PySem.SetTable.below renaming go->Xr
open PySem.SetTable.probe renaming go->Xu
open StateT renaming run_pure->Xv
open PySem.Txt renaming join->Xw
open PySem.Value.int renaming injEq->Xy
open PySem.W.WData renaming int->XC
open PySem.W.WShape renaming has->XD
open PySem.Walks renaming list->XE
open PySem.Builtin.Frozenset renaming newClass->ZBR,sizeOf->ZBS,slot0->ZBT,updateFrom->ZBU
open PySem.Builtin.Range renaming rangeSize->ZBX
open List.Nodup renaming sublist->ZB5
open List.Sublist renaming slnil->ZCa
open PySem.Challenge renaming pw_formgrove_k39_all_small_ends->ZCg,rw_formgrove_k39_all_small_ends->ZCh
open PySem.EqMixed renaming eq_bool_str->ZCi,eq_int_str->ZCj,eq_str_bool->ZCk,eq_str_int->ZCl,ne_bool_str->ZCm,ne_int_str->ZCn,ne_str_bool->ZCo,ne_str_int->ZCp
open PySem.EqNone renaming eq_bool_none->ZCq,eq_int_none->ZCr,eq_none_bool->ZCs,eq_none_int->ZCt,eq_none_none->ZCu,eq_none_str->ZCv,eq_str_none->ZCw,ne_bool_none->ZCx,ne_int_none->ZCy,ne_none_bool->ZCz,ne_none_int->ZCA,ne_none_none->ZCB,ne_none_str->ZCC,ne_str_none->ZCD
open PySem.SeqAt.RcAt renaming lists_lengths->ZCF,tuple_str->ZCG
open PySem.SeqAt.RcNeAt renaming lists_lengths->ZCH
open PySem.Within renaming cons->ZCM
open PySem.SetTable.Slot renaming noConfusion->ZC1
namespace L2
open PySem PySem.Spec PyProof.Rows
abbrev Key:=Sum Int Str
def oo:Key->aa->Bool
 | .inl k,v=>Xz k v
 | .inr x,v=>XA x v
def ZpW(w:ay):Key->Int
 | .inl k=>hashInt k
 | .inr x=>hashStr w x
theorem ZZ:∀{k:Key}{v:aa},oo k v=true->(∃i t,k=aA i/\v=iZ i t)\/(∃x t,k=br x/\v=gE x t)
 | .inl i,v,h=>by
  obtain⟨t,e⟩:=aa.isInt_shape (k:=i) (v:=v) h;exact .inl ⟨i,t,rfl,e⟩
 | .inr x,v,h=>by
  obtain⟨t,e⟩:=aa.isStrOf_shape (x:=x) (v:=v) h;exact .inr ⟨x,t,rfl,e⟩
theorem Zke(i:Int)(t:Tok):oo (.inl i) (.int i t)=true:=by simp[oo,Xz]
theorem ZjC(x:Str)(t:Tok):oo (.inr x) (.str x t)=true:=by simp[oo,XA]
theorem ZoG(a b:Int):decide ((aA a:Key)=aA b)=(a == b):=by
 by_cases e:a=b
 ·subst e;simp
 ·have h : ¬ (aA a:Key)=aA b:=λq=>e (Bt q);rw[bx h];exact(nG.mpr e).symm
theorem ZnZ(a b:Str):decide ((br a:Key)=br b)=decide (a=b):=by
 by_cases e:a=b
 ·subst e;simp
 ·have h : ¬ (br a:Key)=br b:=λq=>e (br.inj q);rw[bx h,bx e]
theorem ZoA(a:Int)(b:Str):decide ((aA a:Key)=br b)=false:=bx (λq=>nomatch q)
theorem Zon(a:Str)(b:Int):decide ((br a:Key)=aA b)=false:=bx (λq=>nomatch q)
def ZF(prog:aC)(w:ay):PySem.KeyKind prog w Key where
 is:=oo
 hash:=ZpW w
 inj:=λv a b ha hb=>by
  rcases ZZ ha with⟨i,t,rfl,rfl⟩|⟨x,t,rfl,rfl⟩
  ·rcases ZZ hb with⟨j,u,rfl,e⟩|⟨y,u,rfl,e⟩
   ·injection e with e1 _;rw[e1]
   ·exact nomatch e
  ·rcases ZZ hb with⟨j,u,rfl,e⟩|⟨y,u,rfl,e⟩
   ·exact nomatch e
   ·injection e with e1 _;rw[e1]
 byValue:=λk v h=>by
  rcases ZZ h with⟨i,t,rfl,rfl⟩|⟨x,t,rfl,rfl⟩ <;> rfl
 pyHash:=λhv h=>by
  rcases ZZ hv with⟨i,t,rfl,rfl⟩|⟨x,t,rfl,rfl⟩
  ·exact wpAny_pyHash_int h
  ·exact wpAny_pyHash_str h
 eqBool:=λhu hv h=>by
  rcases ZZ hu with⟨i,t,rfl,rfl⟩|⟨x,t,rfl,rfl⟩
  ·rcases ZZ hv with⟨j,u,rfl,rfl⟩|⟨y,u,rfl,rfl⟩
   ·rw[ZoG] at h;exact x9 h
   ·rw[ZoA] at h;exact Xp i t y u _ _ _ _ h
  ·rcases ZZ hv with⟨j,u,rfl,rfl⟩|⟨y,u,rfl,rfl⟩
   ·rw[Zon] at h;exact Xq x t j u _ _ _ _ h
   ·rw[ZnZ] at h;exact X_ h
 «strs» := λk x t v h=>by
  rcases ZZ h with⟨i,u,rfl,e⟩|⟨y,u,rfl,e⟩
  ·exact nomatch e
  ·injection e with e1 _;subst e1;cases v <;> rfl
theorem ZgT(prog:aC)(w:ay)(i:Int)(t:Tok):(ZF prog w).is (.inl i) (.int i t)=true:=Zke i t
theorem ZgP(prog:aC)(w:ay)(x:Str)(t:Tok):(ZF prog w).is (.inr x) (.str x t)=true:=ZjC x t
inductive V where
 | aD|bl (b:Bool)|int (i:Int)|str (x:Str)|iK (b:Array UInt8)|tO (b:UInt64)|ref (a:Addr)|ty (n:String)
 deriving DecidableEq
def RelV:V->aa->Prop
 | .aD,u=>u=bg
 | .bl b,u=>u=jU b
 | .int i,u=>∃t,u=iZ i t
 | .str x,u=>∃t,u=gE x t
 | .iK b,u=>∃t,u=Xx b t
 | .tO b,u=>∃t,u=Nl b t
 | .ref a,u=>u=aO a
 | .ty n,u=>u=dy n
abbrev Vals:List V->List aa->Prop:=aN RelV
theorem Vals.length{xs:List V}{us:List aa}(r:Vals xs us):xs.length=us.length:=cw r
theorem Vals.get:∀{xs:List V}{us:List aa}{i:Nat}{x:V},Vals xs us->xs[i]?= some x->∃u,us[i]?= some u/\RelV x u
 | _,_,_,_,.nil,e=>by simp at e
 | _,_,0,_,.cons r _,e=>by simp at e;subst e;exact⟨_,rfl,r⟩
 | _,_,i+1,x,.cons _ t,e=>by
  obtain⟨u,h1,h2⟩:=Vals.get (i:=i) (x:=x) t (by simpa using e);exact⟨u,by simpa using h1,h2⟩
theorem Vals.set{x:V}{u:aa}(r:RelV x u):∀{xs:List V}{us:List aa}(i:Nat),Vals xs us->Vals (xs.set i x) (us.set i u)
 | _,_,_,.nil=>.nil
 | _,_,0,.cons _ t=>.cons r t
 | _,_,i+1,.cons q t=>.cons q (Vals.set r i t)
theorem Vals.append:∀{xs ys:List V}{us ws:List aa},Vals xs us->Vals ys ws->Vals (xs++ys) (us++ws)
 | _,_,_,_,.nil,s=>s
 | _,_,_,_,.cons r t,s=>.cons r (Vals.append t s)
theorem Vals.take:∀{xs:List V}{us:List aa}(n:Nat),Vals xs us->Vals (xs.take n) (us.take n)
 | _,_,0,_=>.nil
 | _,_,_+1,.nil=>.nil
 | _,_,n+1,.cons r t=>.cons r (Vals.take n t)
theorem Vals.drop:∀{xs:List V}{us:List aa}(n:Nat),Vals xs us->Vals (xs.drop n) (us.drop n)
 | _,_,0,r=>r
 | _,_,_+1,.nil=>.nil
 | _,_,n+1,.cons _ t=>Vals.drop n t
def fT:Option V->Option aa->Prop
 | some v,some u=>RelV v u
 | none,none=>True
 | _,_=>False
def KV{κ : Type}:List (κ × V)->List (κ × aa)->Prop:=aN λ(p : κ × V)(q : κ × aa)=>p.1=q.1/\RelV p.2 q.2
def kV:Key->V
 | .inl i=>.int i
 | .inr x=>.str x
inductive HO where
 | lst (xs:List V)
 | tup (xs:List V)
 | dK (ab:List (Key×V))|dT (ab:List (List Key×V))
 | set (S:Int->Bool) (n:Nat)
 | ins (C dx:Addr) (fs:List (Str×V))
 | own (x:Addr)
 | xd (fs:List (Str×V))
 | met (f x:Addr)
 | LW (lo hi:Int)
 | aR (o:Obj) (u:HO)
 | cK (ps:Array aa)
 | ext (φ : Heap->Prop)
abbrev Hp:=Addr->Option HO
def upd(H:Hp)(a:Addr)(o:HO):Hp:=λb=>if b=a then some o else H b
variable{H:Hp}{a:Addr}{o:HO}
theorem Za:upd H a o a=some o:=by unfold upd;rw[aj rfl]
variable{b:Addr}
theorem Zc(h:b≠a):upd H a o b=H b:=by unfold upd;rw[ah h]
variable{u:HO}
theorem ZnA:upd (upd H a o) a u=upd H a u:=by
 funext b;unfold upd;split <;> rfl
theorem ZoT(h:H a=some o)(h':H b=some u)(d:o≠u):a≠b:=by
 intro e;subst e;rw[h] at h';exact d (ed h')
theorem Zd(h:H a=some o)(h':H b=none):a≠b:=by
 intro e;subst e;rw[h] at h';cases h'
section
variable(P:aC)(w:ay)
def Z7(H:Hp)(h:Heap)(a:Addr):HO->Prop
 | .lst xs=>xs.length<=sizeLine/\∃(its:List aa)(n:Nat),Vals xs its/\h.get? a=some { cls:=.type "list",data:=.seq its.toArray n }
 | .tup xs=>xs.length<=sizeLine/\∃its:List aa,Vals xs its/\IsTup h a its.toArray
 | .dK ab=>ab.length<=sizeLine/\(a == sysModules)=false/\∃vs,KV ab vs/\h.DictOf (ZF P w) a vs
 | .dT ab=>ab.length<=sizeLine/\(a == sysModules)=false/\∃xs:List (List Key×Addr×aa),
   aN (λ(p:List Key×V)(q:List Key×Addr×aa)=>p.1=q.1/\H q.2.1=some (.tup (p.1.map kV))/\RelV p.2 q.2.2) ab xs /\
   ∃o es ep,h.get? a=some o/\o.ExactDict/\o.data=.dict es ep/\es.toList=xs.map (entryOfKey (tupleKind (ZF P w)))/\(xs.map (·.1)).Nodup
 | .set S n=>h.SetOf (intKind P w) a S n
 | .ins C dx fs=>H dx=some (.own a)/\fs.length<=1000/\dx≠a/\h.get? a=some (se C dx) /\
   ∃mA,h.Ns1 dx mA/\(∀f,fT (fs.lookup f) (mA f))/\Nd mA (fs.map (·.1))
 | .own _=>∃o,h.get? a=some o
 | .xd fs=>∃mA,h.Ns1 a mA/\∀f,fT (fs.lookup f) (mA f)
 | .LW lo hi=>∃t u v,h.get? a=some { cls:=.type "range",data:=.fields #[.int lo t,.int hi u,.int 1 v] }
 | .aR o u=>h.get? a=some o/\Z7 H h a u
 | .cK ps=>h.get? a=some { cls:=.none,data:=.fields ps }
 | .met f x=>h.get? a=some (Na (.ref f) (.ref x))
 | .ext φ=>φ h/\(∃o,h.get? a=some o)/\∀h1 h2:Heap,φ h1->(∀o,h1.get? a=some o->h2.get? a=some o) -> φ h2
def bJ(H:Hp)(h:Heap):Prop := ∀a o,H a=some o->Z7 P w H h a o
end
section
variable{P:aC}{w:ay}{H H':Hp}{h h':Heap}{a:Addr}{o:HO}
theorem Z7.lt(x:Z7 P w H h a o):a<h.objs.size:=by
 cases o with
 | lst xs=>obtain⟨_,_,_,_,e⟩:=x;exact aM e
 | tup xs=>obtain⟨_,_,_,p⟩:=x;exact p.lt
 | dK ab=>obtain⟨_,_,_,_,o,_,_,e,_⟩:=x;exact aM e
 | dT ab=>obtain⟨_,_,_,_,o,_,_,e,_⟩:=x;exact aM e
 | set S n=>obtain⟨o,_,_,_,e,_⟩:=x;exact aM e
 | ins C dx fs=>obtain⟨_,_,_,e,_⟩:=x;exact aM e
 | own y=>obtain⟨_,e⟩:=x;exact aM e
 | xd fs=>obtain⟨_,⟨_,_,_,e,_⟩,_⟩:=x;exact aM e
 | LW lo hi=>obtain⟨_,_,_,e⟩:=x;exact aM e
 | aR ob u=>obtain⟨e,_⟩:=x;exact aM e
 | cK ps=>exact aM (show h.get? a=some _ from x)
 | met f y=>exact aM (show h.get? a=some _ from x)
 | ext φ=>obtain⟨_,⟨_,e⟩,_⟩:=x;exact aM e
theorem aN.cM{α β : Type}{F G : α -> β -> Prop}:∀{l₁ : List α}{l₂ : List β},aN F l₁ l₂ -> (∀a b,F a b->G a b)->aN G l₁ l₂
 | _,_,.nil,_=>.nil
 | _,_,.cons r t,f=>.cons (f _ _ r) (aN.cM t f)
theorem Z7.jJ(x:Z7 P w H h a o)(k:∀b u,(b=a\/H b=some (.own a))->h.get? b=some u->h'.get? b=some u)
  (ho:∀b,H b=some (.own a)->H' b=some (.own a)) (ht:∀b xs,H b=some (.tup xs)->H' b=some (.tup xs)):Z7 P w H' h' a o:=by
 induction o with
 | lst xs=>obtain⟨z,its,n,r,e⟩:=x;exact⟨z,its,n,r,k _ _ (.inl rfl) e⟩
 | tup xs=>obtain⟨z,its,r,ob,e,c⟩:=x;exact⟨z,its,r,ob,k _ _ (.inl rfl) e,c⟩
 | dK ab=>obtain⟨z,y,vs,r,ob,es,ep,e,c⟩:=x;exact⟨z,y,vs,r,ob,es,ep,k _ _ (.inl rfl) e,c⟩
 | dT ab =>
  obtain⟨z,y,xs,r,ob,es,ep,e,c⟩:=x;exact⟨z,y,xs,aN.cM r λp q z=>⟨z.1,ht _ _ z.2.1,z.2.2⟩,ob,es,ep,k _ _ (.inl rfl) e,c⟩
 | set S n=>obtain⟨ob,es,ep,t,e,c⟩:=x;exact⟨ob,es,ep,t,k _ _ (.inl rfl) e,c⟩
 | ins C dx fs =>
  obtain⟨d,z,ne,e,mA,⟨od,es,ep,e2,c⟩,r⟩:=x;exact⟨ho _ d,z,ne,k _ _ (.inl rfl) e,mA,⟨od,es,ep,k _ _ (.inr d) e2,c⟩,r⟩
 | own y=>obtain⟨ob,e⟩:=x;exact⟨ob,k _ _ (.inl rfl) e⟩
 | xd fs=>obtain⟨mA,⟨od,es,ep,e,c⟩,r⟩:=x;exact⟨mA,⟨od,es,ep,k _ _ (.inl rfl) e,c⟩,r⟩
 | LW lo hi=>obtain⟨t,u,v,e⟩:=x;exact⟨t,u,v,k _ _ (.inl rfl) e⟩
 | aR ob u ih=>obtain⟨e,q⟩:=x;exact⟨k _ _ (.inl rfl) e,ih q⟩
 | cK ps =>
  have e:h.get? a=some { cls:=.none,data:=.fields ps }:=x;show h'.get? a=some { cls:=.none,data:=.fields ps };exact k a _ (.inl rfl) e
 | met f y =>
  have e:h.get? a=some (Na (.ref f) (.ref y)):=x;show h'.get? a=some (Na (.ref f) (.ref y));exact k a _ (.inl rfl) e
 | ext φ=>obtain⟨p,⟨o,e⟩,st⟩:=x;exact⟨st _ _ p λo q=>k _ _ (.inl rfl) q,⟨o,k _ _ (.inl rfl) e⟩,st⟩
theorem bJ.lt(x:bJ P w H h)(e:H a=some o):a<h.objs.size:=(x a o e).lt
theorem bJ.fresh(x:bJ P w H h)(e:h.objs.size<=a):H a=none:=by
 cases q:H a with
 | none=>rfl
 | some u=>exact absurd (cW (x.lt q) e) (eU _)
theorem bJ.kept(x:bJ P w H h)(k:∀b u,h.get? b=some u->h'.get? b=some u):bJ P w H h':=λa o e =>
 (x a o e).jJ (λb u _ q=>k b u q) (λ_ q=>q) λ_ _ q=>q
theorem bJ.laid(x:bJ P w H h)(k:∀b u,h.get? b=some u->h'.get? b=some u)(hp:h.objs.size<=a)(new:Z7 P w (upd H a o) h' a o):bJ P w (upd H a o) h':=λb u e=>by
 have hn:=x.fresh hp;by_cases hb:b=a
 ·subst hb;rw[Za] at e;cases e;exact new
 ·rw[Zc hb] at e;exact(x b u e).jJ (λc v _ q=>k c v q) (λc q=>by rw[Zc (Zd q hn)];exact q) λc xs q=>by rw[Zc (Zd q hn)];exact q
end
def Rd(H:Hp)(a:Addr)(u:HO):Prop:=H a=some u\/∃o,H a=some (.aR o u)
variable{P:aC}{w:ay}{h:Heap}
theorem Rd.ok(r:Rd H a u)(x:bJ P w H h):Z7 P w H h a u:=by
 rcases r with r|⟨o,r⟩
 ·exact x a u r
 ·obtain⟨_,q⟩:=x a _ r;exact q
def yA:Option HO->Prop
 | some (.lst _)=>True
 | some (.dK _)=>True
 | some (.dT _)=>True
 | some (.set _ _)=>True
 | some (.ins _ _ _)=>True
 | some (.ext _)=>True
 | _=>False
variable{h':Heap}{x e:Addr}{o':HO}
theorem bJ.write(ok:bJ P w H h)(mu:yA (H x))(he:e=x\/H e=some (.own x))(k:∀b u,b≠e->h.get? b=some u->h'.get? b=some u)(vT:∃u,h'.get? e=some u)
  (new:Z7 P w (upd H x o') h' x o'):bJ P w (upd H x o') h':=λb u q=>by
 have UQ:∀c y,H c=some (.own y)->c≠x:=λc y r z=>by subst z;rw[r] at mu;exact mu
 have ZAF:∀c xs,H c=some (.tup xs)->c≠x:=λc xs r z=>by subst z;rw[r] at mu;exact mu
 by_cases hb:b=x
 ·subst hb;rw[Za] at q;cases q;exact new
 ·rw[Zc hb] at q;by_cases tR:b=e
  ·have q':H b=some (.own x):=by
    rcases he with z|z
    ·exact absurd (tR.trans z) hb
    ·rw[tR];exact z
   rw[q] at q';cases q';obtain⟨v,hv⟩:=vT;exact⟨v,by rw[tR];exact hv⟩
  ·refine(ok b u q).jJ (λc v hc r=>k c v ?_ r) (λc r=>by rw[Zc (UQ c b r)];exact r) λc xs r=>by rw[Zc (ZAF c xs r)];exact r
   rcases hc with rfl|hc
   ·exact tR
   ·rintro rfl;rcases he with z|z
    ·exact UQ c b hc z
    ·rw[hc] at z;cases z;exact hb rfl
structure Un(fs ex:List Addr)(H H':Hp)(h h':Heap):Prop where
 keep:∀b o,h.get? b=some o->H b=none->b∉fs->b∉ex->h'.get? b=some o
 slot:∀b o,h.get? b=some o->H b=none->b∈fs->b∉ex->∃sl,h'.get? b=some { o with slots:=sl }
 free:∀b o,h.get? b=some o->H b=none->b∉ex->H' b=none
 there:∀b o,h.get? b=some o->b∉ex->∃o',h'.get? b=some o'
 fZ:∀b xs,H b=some (.tup xs)->H' b=some (.tup xs)
 jq:∀b o u,H b=some (.aR o u)->H' b=some (.aR o u)
 jK:∀b ps,H b=some (.cK ps)->∃more,H' b=some (.cK (ps++more))
section
variable{fs Yq ex fP:List Addr}{H H1 H2:Hp}{h h1 h2 h':Heap}{a x e:Addr}{o:HO}
theorem Un.any(u:Un fs ex H H1 h h1){b:Addr}{ob:Obj}(q:h.get? b=some ob)(n:H b=none)(hx:b∉ex):∃sl,h1.get? b=some { ob with slots:=sl }:=by
 by_cases hb:b∈fs
 ·exact u.slot b ob q n hb hx
 ·exact⟨ob.slots,u.keep b ob q n hb hx⟩
theorem Un.kept(k:∀b u,h.get? b=some u->h'.get? b=some u):Un fs ex H H h h' :=
 ⟨λb ob q _ _ _=>k b ob q,λb ob q _ _ _=>⟨ob.slots,k b ob q⟩,λ_ _ _ n _=>n,λb ob q _=>⟨ob,k b ob q⟩,λ_ _ q=>q,λ_ _ _ q=>q,λ_ ps q=>⟨#[],by rw[q];simp⟩⟩
theorem Un.refl:Un fs ex H H h h:=Un.kept λ_ _ q=>q
theorem Un.laid(k:∀b u,h.get? b=some u->h'.get? b=some u)(hp:h.objs.size<=a)(hn:H a=none):Un fs ex H (upd H a o) h h' where
 keep:=λb u q _ _ _=>k b u q
 slot:=λb u q _ _ _=>⟨u.slots,k b u q⟩
 free:=λb u q n _=>by rw[Zc (bc (cW (aM q) hp))];exact n
 there:=λb u q _=>⟨u,k b u q⟩
 fZ:=λb xs q=>by rw[Zc (Zd q hn)];exact q
 jq:=λb u xs q=>by rw[Zc (Zd q hn)];exact q
 jK:=λb ps q=>⟨#[],by rw[Zc (Zd q hn),q];simp⟩
theorem Un.write(mu:yA (H x))(he:e=x\/H e=some (.own x))(k:∀b u,b≠e->h.get? b=some u->h'.get? b=some u)(vT:∃u,h'.get? e=some u):Un fs ex H (upd H x o) h h':=by
 have hx:∀b,H b=none->b≠x:=λb n z=>by subst z;rw[n] at mu;exact mu
 have hb:∀b,H b=none->b≠e:=λb n z=>by
  subst z;rcases he with r|r
  ·exact hx b n r
  ·rw[n] at r;cases r
 have hm:∀b u,H b=some u -> ¬ yA (some u)->b≠x:=λb u q nm z=>by subst z;rw[q] at mu;exact nm mu
 refine⟨λb u q n _ _=>k b u (hb b n) q,λb u q n _ _=>⟨u.slots,k b u (hb b n) q⟩,λb u q n _=>by rw[Zc (hx b n)];exact n,λb u q _=>?_,
  λb xs q=>by rw[Zc (hm b _ q λz=>z)];exact q,λb u xs q=>by rw[Zc (hm b _ q λz=>z)];exact q,λb ps q=>⟨#[],by rw[Zc (hm b _ q λz=>z),q];simp⟩⟩
 by_cases tR:b=e
 ·subst tR;exact vT
 ·exact⟨u,k b u tR q⟩
end
def EU(h:Heap)(H:Hp):List Addr:=(c_ h.objs.size).filter λa=>(H a).isSome
def mC(h:Heap)(H:Hp):Heap:=PySem.W.hideAll h (EU h H)
theorem ZiS(h:Heap)(H:Hp):(mC h H).objs.size=h.objs.size:=PySem.W.hideAll_size _ _
variable{o:Obj}
theorem Zls(e:h.get? b=some o)(n:H b=none):(mC h H).get? b=some o :=
 PySem.W.hideAll_get _ e λhm=>by
  have q:(H b).isSome=true:=(kQ.mp hm).2;rw[n] at q;simp at q
theorem ZnH(e:(mC h H).get? b=some o):h.get? b=some o/\H b=none:=by
 have e':h.get? b=some o:=PySem.W.of_hideAll (EU h H) e;refine⟨e',?_⟩;cases q:H b with
 | none=>rfl
 | some x =>
  have hm:b∈EU h H:=kQ.mpr ⟨iY.mpr (aM e'),by simp[q]⟩;have z:(mC h H).get? b=none:=PySem.W.hideAll_none (EU h H) hm;rw[z] at e;cases e
structure Mod(K:au)(mg:Str->Option aa)(base:Heap):Prop where
 AJ:K.In base
 glob:base.Ns mainGlobals mg
 blt:∃mb,base.Ns builtinsNs mb/\∀x:Str,x ≠ "__name__" -> mb x=bootBuiltins x
 nolimit:base.NoLimit
/-- kN context: a Ym body (or a NM block) running. base: fixed through kN whole law;dt,kZ: kN entry;outer: kN frames ZBE slots others may change (a Ym ZDp);stack: all frames ES run;
   ex: ZEd ES ZBD made ahead of kN entry and are walked here (a NM);fn: kN names ZBE cells ZBD made at kN entry (a def: all;a NM block: its own);calm: not within an except ZEu;pn: pins ES ZDt state bears;xe: ZED is wanted of an exception ES ZEg kN code -/
structure Cx where
 prog:aC
 w:ay
 K:au
 mg:Str->Option aa
 base:Heap
 A:aI
 N:List Str
 dt : af
 kZ : Hp
 env:Env
 outer:List Env
 stack:List Env
 ex:List Addr
 fn:Str->Bool
 calm:Bool
 pn:List (Addr×Obj)
 xe:aa->af->Prop
def iL(l:List Env):List Addr:=l.filterMap (·.frame)
abbrev Cx.fs(X:Cx):List Addr:=iL X.outer
def He(sc:cY)(x:Str):Prop:=sc.names.lookup x=some .local\/sc.names.lookup x=some .cell\/sc.names.lookup x=some .free
def Loc(sc:cY)(x:Str):Prop:=sc.names.lookup x=some .local\/sc.names.lookup x=some .cell
def Look(env:Env)(h:Heap)(m:Str->Option aa)(x:Str)(u:aa):Prop :=
 (env.kindOf x=some .local/\m x=some u)\/((env.kindOf x=some .cell\/env.kindOf x=some .free)/\∃c,env.cells.lookup x=some c/\h.IsCell c (some u))
structure Cx.Ok(X:Cx):Prop where
 mod:Mod X.K X.mg X.base
 kind:X.env.scope.kind=.function
 glob:X.env.globals=mainGlobals
 blt:X.env.builtins=builtinsNs
 above:X.dt.heap.objs.size<=X.env.locals
 inj:∀x y c,X.env.cells.lookup x=some c->X.env.cells.lookup y=some c->x=y
 has:∀x,(X.env.kindOf x=some .cell\/X.env.kindOf x=some .free)->∃c,X.env.cells.lookup x=some c
 qJ:∀x c,X.fn x=true->X.env.cells.lookup x=some c->X.dt.heap.objs.size<=c
 hd:X.calm=true->X.A.handled=none
 frames:X.A.frames=some X.stack
 uB:X.stack=X.outer\/(X.stack=X.env::X.outer/\X.env.frame=some X.env.locals)
 oC:∀b∈X.ex,b≠X.env.locals/\∀x c,X.env.cells.lookup x=some c->c≠b
 bs:∀b o,X.base.get? b=some o->X.dt.heap.get? b=some o/\X.kZ b=none
 jm:X.base.objs.size<=X.dt.heap.objs.size
 rE:∀b o,X.base.get? b=some o->b∉X.ex
 oE:∀b∈X.ex,b∉X.fs
 ie:X.dt.heap.FunFrames X.base X.outer
 mJ:∀b∈X.fs,X.kZ b=none
structure Inv(X:Cx)(pins:List (Addr×Obj))(σ : List (Option V))(H:Hp)(s:af):Prop where
 ok:X.Ok
 os:s.os=X.dt.os
 bare:pJ s.gens
 base:Un X.fs X.ex X.kZ H X.dt.heap s.heap
 loc:∃m,s.heap.Ns X.env.locals m/\∀(i:Nat)(x:Str)(v:V),X.N[i]?= some x -> σ[i]?= some (some v)->He X.env.scope x->∃u,RelV v u/\Look X.env s.heap m x u
 cell:∀x c,X.env.cells.lookup x=some c->∃v,s.heap.IsCell c v
 free:H X.env.locals=none
 fI:∀x c,X.env.cells.lookup x=some c->H c=none
 pin:∀p∈X.pn++pins,s.heap.get? p.1=some p.2/\H p.1=none/\p.1≠X.env.locals/\p.1∉X.fs/\∀v,p.2.data ≠ .cell v
 ak:bJ X.prog X.w H s.heap
 len : σ.length=X.N.length
section
variable{X:Cx}{pins:List (Addr×Obj)}{σ : List (Option V)}{H H':Hp}{s:af}{h':Heap}
theorem Cx.Ok.ZAp(ok:X.Ok){b:Addr}{o:Obj}(e:X.base.get? b=some o):b∉X.fs:=λhb=>by
 have:=(ok.ie.mem hb).1;rw[e] at this;cases this
theorem Inv.bs(I:Inv X pins σ H s):∀b o,X.base.get? b=some o->s.heap.get? b=some o/\H b=none:=λb o e =>
 ⟨I.base.keep b o (I.ok.bs b o e).1 (I.ok.bs b o e).2 (I.ok.ZAp e) (I.ok.rE b o e),I.base.free b o (I.ok.bs b o e).1 (I.ok.bs b o e).2 (I.ok.rE b o e)⟩
theorem Inv.bk(I:Inv X pins σ H s):∀b o,X.base.get? b=some o->s.heap.get? b=some o:=λb o e=>(I.bs b o e).1
theorem Inv.mod(I:Inv X pins σ H s):Mod X.K X.mg X.base:=I.ok.mod
theorem Inv.dD(I:Inv X pins σ H s):X.K.In s.heap:=I.ok.mod.AJ.keeps I.bk
theorem Inv.nolimit(I:Inv X pins σ H s):s.heap.NoLimit:=I.ok.mod.nolimit.keeps I.bk
theorem Inv.lt(I:Inv X pins σ H s):X.env.locals<s.heap.objs.size:=let ⟨_,hn,_⟩:=I.loc;hn.lt
theorem Inv.sz(I:Inv X pins σ H s):X.dt.heap.objs.size<=s.heap.objs.size:=cm I.ok.above (lZ I.lt)
theorem Inv.EB(I:Inv X pins σ H s){a:Addr}(h:s.heap.objs.size<=a):a∉X.fs:=λhb=>by
 obtain⟨_,o,ho,_⟩:=I.ok.ie.mem hb;exact absurd (cW (aM ho) (cm I.sz h)) (eU _)
theorem Inv.tK(I:Inv X pins σ H s):∀x c,X.env.cells.lookup x=some c->c≠X.env.locals:=λx c e z=>by
 obtain⟨v,o,ho,hd⟩:=I.cell x c e;obtain⟨m,⟨o',es,ep,i_,i9,_⟩,_⟩:=I.loc;rw[z,i_] at ho;cases ho;rw[i9] at hd;cases hd
theorem Inv.ie(I:Inv X pins σ H s):s.heap.FunFrames X.base X.outer:=by
 have all:∀(l:List Env),(∀b∈iL l,b∈X.fs)->X.dt.heap.FunFrames X.base l->s.heap.FunFrames X.base l:=by
  intro l
  induction l with
  | nil=>intro _ _;trivial
  | cons env r ih =>
   intro hs hl;obtain⟨hk,⟨L,o,hf,hn,ho,hd⟩,hr⟩:=hl;have hL:L∈X.fs:=hs L (by unfold iL;rw[Fl,hf];exact aZ);obtain⟨sl,e⟩:=I.base.slot L o ho (I.ok.mJ L hL) hL λz=>I.ok.oE L z hL;exact⟨hk,⟨L,_,hf,hn,e,hd⟩,ih (λb hb=>hs b (by unfold iL;rw[Fl,hf];exact bM _ hb)) hr⟩
 exact all X.outer (λ_ hb=>hb) I.ok.ie
theorem Inv.stack(I:Inv X pins σ H s):s.heap.FunFrames X.base X.stack:=by
 rcases I.ok.uB with e|⟨e,hf⟩
 ·rw[e];exact I.ie
 ·rw[e];obtain⟨m,hn,_⟩:=I.loc;refine .cons (by rw[I.ok.kind];decide) hf hn ?_ I.ie;exact Heap.get?_none_of_le (cm I.ok.jm I.ok.above)
theorem Inv.L5(I:Inv X pins σ H s):∀b∈iL X.stack,b∈X.env.locals::X.fs:=λb hb=>by
 rcases I.ok.uB with e|⟨e,hf⟩
 ·rw[e] at hb;exact bM _ hb
 ·rw[e] at hb;unfold iL at hb;rw[Fl,hf] at hb;exact hb
theorem Inv.L4(I:Inv X pins σ H s):∀b∈iL X.stack,H b=none:=λb hb=>by
 rcases aV.mp (I.L5 b hb) with e|hb
 ·rw[e];exact I.free
 ·obtain⟨_,o,ho,_⟩:=I.ok.ie.mem hb;exact I.base.free b o ho (I.ok.mJ b hb) λz=>I.ok.oE b z hb
variable{g':Array Mw}{t':Nat}{d':mZ}{ch:List Addr}
theorem Inv.step(I:Inv X pins σ H s)
  (mM:∀b∈ch,(b∈X.ex\/X.dt.heap.objs.size<=b)/\b≠X.env.locals/\(∀x c,X.env.cells.lookup x=some c->c≠b)/\∀p∈X.pn++pins,p.1≠b)
  (keep:∀b o,b≠X.env.locals->b∉X.fs->b∉ch->s.heap.get? b=some o->H b=none->h'.get? b=some o)
  (slot:∀b o,b≠X.env.locals->b∈X.fs->b∉ch->s.heap.get? b=some o->H b=none->∃sl,h'.get? b=some { o with slots:=sl }) (free:∀b o,b∉ch->s.heap.get? b=some o->H b=none->H' b=none)
  (there:∀b o,b∉ch->s.heap.get? b=some o->∃o',h'.get? b=some o')
  (fZ:∀b xs,H b=some (.tup xs)->H' b=some (.tup xs)) (jq:∀b o u,H b=some (.aR o u)->H' b=some (.aR o u)) (jK:∀b ps,H b=some (.cK ps)->∃more,H' b=some (.cK (ps++more)))
  (ns:∀m,s.heap.Ns X.env.locals m->h'.Ns X.env.locals m) (ak:bJ X.prog X.w H' h') (hg:pJ g') :
  Inv X pins σ H' { s with heap:=h',gens:=g',drawn:=d',toks:=t' }:=by
 have UN:∀b o,X.dt.heap.get? b=some o->b≠X.env.locals:=λb o e=>bc (cW (aM e) I.ok.above);have EA:∀b o,X.dt.heap.get? b=some o->b∉X.ex->b∉ch:=λb o e hx hb=>by
  rcases(mM b hb).1 with z|z
  ·exact hx z
  ·exact absurd (cW (aM e) z) (eU _)
 have cellK:∀x c,X.env.cells.lookup x=some c->∀v,s.heap.IsCell c v->h'.IsCell c v:=λx c e v ⟨o,ho,hd⟩=>by
  have AO:c∉ch:=λz=>(mM c z).2.2.1 x c e rfl;by_cases hc:c∈X.fs
  ·obtain⟨sl,q⟩:=slot c o (I.tK x c e) hc AO ho (I.fI x c e);exact⟨_,q,hd⟩
  ·exact⟨o,keep c o (I.tK x c e) hc AO ho (I.fI x c e),hd⟩
 refine⟨I.ok,I.os,hg,⟨λb o e n hb hx=>?_,λb o e n hb hx=>?_,λb o e n hx=>?_,λb o e hx=>?_,λb xs e=>fZ b xs (I.base.fZ b xs e),λb o xs e=>jq b o xs (I.base.jq b o xs e),λb ps e=>?_⟩,?_,λx c e=>?_,?_,λx c e=>?_,λp hp=>?_,ak,I.len⟩
 ·exact keep b o (UN b o e) hb (EA b o e hx) (I.base.keep b o e n hb hx) (I.base.free b o e n hx)
 ·obtain⟨sl,e1⟩:=I.base.slot b o e n hb hx;obtain⟨YA,e2⟩:=slot b _ (UN b o e) hb (EA b o e hx) e1 (I.base.free b o e n hx);exact⟨YA,e2⟩
 ·obtain⟨o',e1⟩:=I.base.there b o e hx;exact free b o' (EA b o e hx) e1 (I.base.free b o e n hx)
 ·obtain⟨o',e1⟩:=I.base.there b o e hx;exact there b o' (EA b o e hx) e1
 ·obtain⟨m1,e1⟩:=I.base.jK b ps e;obtain⟨m2,e2⟩:=jK b _ e1;exact⟨m1++m2,by rw[e2,Array.append_assoc]⟩
 ·obtain⟨m,hn,hl⟩:=I.loc;refine⟨m,ns m hn,λi x v e1 e2 e3=>?_⟩;obtain⟨u,r,l⟩:=hl i x v e1 e2 e3;refine⟨u,r,?_⟩;rcases l with l|⟨k,c,e,z⟩
  ·exact .inl l
  ·exact .inr ⟨k,c,e,cellK x c e _ z⟩
 ·obtain⟨v,z⟩:=I.cell x c e;exact⟨v,cellK x c e v z⟩
 ·obtain⟨m,⟨o,_,_,ho,_⟩,_⟩:=I.loc;exact free _ o (λz=>(mM _ z).2.1 rfl) ho I.free
 ·obtain⟨v,o,ho,hd⟩:=I.cell x c e;exact free c o (λz=>(mM c z).2.2.1 x c e rfl) ho (I.fI x c e)
 ·obtain⟨e,n,ne,nf,d⟩:=I.pin p hp;have AO:p.1∉ch:=λz=>(mM p.1 z).2.2.2 p hp rfl;exact⟨keep p.1 p.2 ne nf AO e n,free p.1 p.2 AO e n,ne,nf,d⟩
theorem Inv.un(I:Inv X pins σ H s)(u:Un X.fs [] H H' s.heap h')(ak:bJ X.prog X.w H' h'):Inv X pins σ H' { s with heap:=h',toks:=t' }:=by
 obtain⟨m,⟨o,es,ep,ho,r⟩,_⟩:=id I.loc;obtain⟨sl,hL⟩:=u.any ho I.free (by simp);exact I.step (g':=s.gens) (d':=s.drawn) (ch:=[]) (λ_ z=>nomatch z) (λb o _ hb _ e n=>u.keep b o e n hb (by simp)) (λb o _ hb _ e n=>u.slot b o e n hb (by simp)) (λb o _ e n=>u.free b o e n (by simp)) (λb o _ e=>u.there b o e (by simp)) u.fZ u.jq u.jK (λm' hm=>by
  obtain⟨o',gW,yf,i_,r'⟩:=hm;rw[ho] at i_;cases i_;exact⟨_,gW,yf,hL,r'⟩) ak I.bare
theorem Inv.call(I:Inv X pins σ H s)(u:Un (iL X.stack) ch H H' s.heap h')(ak:bJ X.prog X.w H' h')(hg:pJ g')
  (mM:∀b∈ch,(b∈X.ex\/X.dt.heap.objs.size<=b)/\b≠X.env.locals/\(∀x c,X.env.cells.lookup x=some c->c≠b)/\∀p∈X.pn++pins,p.1≠b) :
  Inv X pins σ H' { s with heap:=h',gens:=g',drawn:=d',toks:=t' }:=by
 obtain⟨m,⟨o,es,ep,ho,r⟩,_⟩:=id I.loc;obtain⟨sl,hL⟩:=u.any ho I.free λz=>(mM _ z).2.1 rfl;exact I.step (ch:=ch) mM (λb o hL hb hc e n=>u.keep b o e n (λz=>(aV.mp (I.L5 b z)).elim hL hb) hc) (λb o _ _ hc e n=>u.any e n hc) (λb o hc e n=>u.free b o e n hc) (λb o hc e=>u.there b o e hc) u.fZ u.jq u.jK (λm' hm=>by
  obtain⟨o',gW,yf,i_,r'⟩:=hm;rw[ho] at i_;cases i_;exact⟨_,gW,yf,hL,r'⟩) ak hg
theorem Inv.turned{it:Addr}(I:Inv X pins σ H s)(k:∀b o,b≠it->s.heap.get? b=some o->h'.get? b=some o)(hn:H it=none)(hL:it≠X.env.locals)
  (h1:it∈X.ex\/X.dt.heap.objs.size<=it) (h2:∀x c,X.env.cells.lookup x=some c->c≠it) (h3:∀p∈X.pn++pins,p.1≠it):Inv X pins σ H { s with heap:=h',toks:=t' }:=by
 have UP:∀b u,H b=some u->b≠it:=λb u e z=>by rw[z,hn] at e;cases e
 refine I.step (g':=s.gens) (d':=s.drawn) (ch:=[it]) (λb hb=>?_) (λb o _ _ hc e _=>k b o (λz=>hc (by simp[z])) e) (λb o _ _ hc e _=>⟨o.slots,k b o (λz=>hc (by simp[z])) e⟩) (λ_ _ _ _ n=>n)
  (λb o hc e=>⟨o,k b o (λz=>hc (by simp[z])) e⟩) (λ_ _ e=>e) (λ_ _ _ e=>e) (λb ps e=>⟨#[],by rw[e];simp⟩) (λm hm=>?_) (λb u e=>?_) I.bare
 ·have e:b=it:=by simpa using hb
  subst e;exact⟨h1,hL,h2,h3⟩
 ·obtain⟨o,es,ep,ho,r⟩:=hm;exact⟨o,es,ep,k _ o (gS hL) ho,r⟩
 ·refine(I.ak b u e).jJ (λc v hc q=>k c v ?_ q) (λ_ q=>q) λ_ _ q=>q;rcases hc with z|z
  ·rw[z];exact UP b u e
  ·exact UP c _ z
theorem Inv.tok(I:Inv X pins σ H s)(t:Nat):Inv X pins σ H { s with toks:=t }:=I.un (h':=s.heap) (t':=t) Un.refl I.ak
theorem Inv.kept{t':Nat}(I:Inv X pins σ H s)(k:∀b u,s.heap.get? b=some u->h'.get? b=some u):Inv X pins σ H { s with heap:=h',toks:=t' }:=I.un (Un.kept k) (I.ak.kept k)
theorem Inv.laid{a:Addr}{o:HO}{t':Nat}(I:Inv X pins σ H s)(k:∀b u,s.heap.get? b=some u->h'.get? b=some u)(hp:s.heap.objs.size<=a)(new:Z7 X.prog X.w (upd H a o) h' a o) :
  Inv X pins σ (upd H a o) { s with heap:=h',toks:=t' }:=I.un (Un.laid k hp (I.ak.fresh hp)) (I.ak.laid k hp new)
theorem Inv.write{x e:Addr}{o:HO}{t':Nat}(I:Inv X pins σ H s)(mu:yA (H x))(he:e=x\/H e=some (.own x))(k:∀b u,b≠e->s.heap.get? b=some u->h'.get? b=some u)(vT:∃u,h'.get? e=some u)
  (new:Z7 X.prog X.w (upd H x o) h' x o):Inv X pins σ (upd H x o) { s with heap:=h',toks:=t' }:=I.un (Un.write mu he k vT) (I.ak.write mu he k vT new)
theorem Inv.EG{GC:List (Addr×Obj)}(I:Inv X pins σ H s)(h:∀p∈GC,s.heap.get? p.1=some p.2/\H p.1=none/\p.1≠X.env.locals/\p.1∉X.fs/\∀v,p.2.data ≠ .cell v):Inv X GC σ H s :=
 ⟨I.ok,I.os,I.bare,I.base,I.loc,I.cell,I.free,I.fI,λp hp=>(aS.mp hp).elim (λz=>I.pin p (cb _ z)) (h p),I.ak,I.len⟩
theorem Pz{N:List Str}(hN:N.Nodup){i j:Nat}{x:Str}(a:N[i]?= some x)(b:N[j]?= some x):i=j:=by
 obtain⟨h1,e1⟩:=cT.mp a;obtain⟨h2,e2⟩:=cT.mp b;exact(List.getElem_inj hN).mp (e1.trans e2.symm)
variable{E:aa->af->Prop}{i:Nat}{x:Str}{Q:Unit->af->Prop}
theorem HW{M:Fy}{A:aI}{v:V}{u:aa}(I:Inv X pins σ H s)(hN:X.N.Nodup)(hi:X.N[i]?= some x)(hx:Loc X.env.scope x)(r:RelV v u)
  (h:∀s',Inv X pins (σ.set i (some v)) H s'->(∃a,fz a s.heap s'.heap/\(a=X.env.locals\/X.env.cells.lookup x=some a))->Q () s') (hf:X.fn x=true\/X.env.scope.names.lookup x=some .local:=by first|exact .inl rfl|exact .inr rfl|assumption):wpAny M A (storeName X.env x u) Q E s:=by
 obtain⟨m,hn,hl⟩:=id I.loc;have Zyl:(X.env.scope.kind ==.class || (X.env.scope.kind ==.module&&X.env.locals != X.env.globals))=false:=by rw[I.ok.kind];rfl
 have Tj : i < σ.length:=by rw[I.len];exact(cT.mp hi).1
 have tK:=I.tK;have tracked:∀{a:Addr}{h':Heap},(∃o,s.heap.get? a=some o/\H a=none)->fz a s.heap h'->bJ X.prog X.w H h':=λ{a h'} ha hs b ob e=>by
  obtain⟨_,_,S_⟩:=ha;refine(I.ak b ob e).jJ (λc w' hc q=>(hs.2 c ?_).trans q) (λ_ q=>q) λ_ _ q=>q;rintro rfl;rcases hc with rfl|hc
  ·rw[S_] at e;cases e
  ·rw[S_] at hc;cases hc
 rcases hx with hk|hk
 ·refine wpAny_storeName_local hk hn (λh' BG hs=>?_) Zyl;obtain⟨oL,_,_,oY,_⟩:=id hn;refine h _ ⟨I.ok,I.os,I.bare,⟨λb o e n hb hx=>?_,λb o e n hb hx=>?_,I.base.free,λb o e hx=>?_,I.base.fZ,I.base.jq,I.base.jK⟩,⟨_,BG,λj y v' e1 e2 e3=>?_⟩,λy c e=>?_,I.free,I.fI,λp hp=>?_,tracked ⟨oL,oY,I.free⟩ hs,by simpa using I.len⟩ ⟨_,hs,.inl rfl⟩
  ·exact(hs.2 b (bc (cW (aM e) I.ok.above))).trans (I.base.keep b o e n hb hx)
  ·obtain⟨sl,e1⟩:=I.base.slot b o e n hb hx;exact⟨sl,(hs.2 b (bc (cW (aM e) I.ok.above))).trans e1⟩
  ·obtain⟨o',e1⟩:=I.base.there b o e hx;exact⟨o',(hs.2 b (bc (cW (aM e) I.ok.above))).trans e1⟩
  ·by_cases hj:j=i
   ·subst hj;rw[hi] at e1;cases e1;rw[Wc Tj] at e2;cases e2;exact⟨u,r,.inl ⟨hk,by simp⟩⟩
   ·rw[Wb (gS hj)] at e2;obtain⟨u',r',q⟩:=hl j y v' e1 e2 e3;refine⟨u',r',?_⟩;rcases q with⟨k,e⟩|⟨k,c,e,z⟩
    ·refine .inl ⟨k,?_⟩;have:y≠x:=λe=>hj (Pz hN e1 (e ▸ hi));simp[this,e]
    ·exact .inr ⟨k,c,e,z.sameBut hs (tK y c e)⟩
  ·obtain⟨w',z⟩:=I.cell y c e;exact⟨w',z.sameBut hs (tK y c e)⟩
  ·obtain⟨e,n,ne,nf,d⟩:=I.pin p hp;exact⟨(hs.2 p.1 ne).trans e,n,ne,nf,d⟩
 ·have KG:X.fn x=true:=by
   rcases hf with z|z
   ·exact z
   ·rw[z] at hk;cases hk
  obtain⟨c,hc⟩:=I.ok.has x (.inl hk);obtain⟨w',z⟩:=I.cell x c hc;refine wpAny_storeName_cell I.ok.kind hk hc z (λh' gX hs=>?_);obtain⟨oc,qZ,Zy6⟩:=id z;refine h { s with heap:=h' } ⟨I.ok,I.os,I.bare,⟨λb o e n hb hx=>?_,λb o e n hb hx=>?_,I.base.free,λb o e hx=>?_,I.base.fZ,I.base.jq,I.base.jK⟩,⟨m,hn.sameBut hs (gS (tK x c hc)),λj y v' e1 e2 e3=>?_⟩,λy c' e=>?_,I.free,I.fI,λp hp=>?_,tracked ⟨oc,qZ,I.fI x c hc⟩ hs,by simpa using I.len⟩ ⟨c,hs,.inr hc⟩
  ·exact(hs.2 b (bc (cW (aM e) (I.ok.qJ x c KG hc)))).trans (I.base.keep b o e n hb hx)
  ·obtain⟨sl,e1⟩:=I.base.slot b o e n hb hx;exact⟨sl,(hs.2 b (bc (cW (aM e) (I.ok.qJ x c KG hc)))).trans e1⟩
  ·obtain⟨o',e1⟩:=I.base.there b o e hx;exact⟨o',(hs.2 b (bc (cW (aM e) (I.ok.qJ x c KG hc)))).trans e1⟩
  ·by_cases hj:j=i
   ·subst hj;rw[hi] at e1;cases e1;rw[Wc Tj] at e2;cases e2;exact⟨u,r,.inr ⟨.inl hk,c,hc,gX⟩⟩
   ·rw[Wb (gS hj)] at e2;obtain⟨u',r',q⟩:=hl j y v' e1 e2 e3;refine⟨u',r',?_⟩;rcases q with q|⟨k,c',e,z'⟩
    ·exact .inl q
    ·refine .inr ⟨k,c',e,z'.sameBut hs ?_⟩;rintro rfl;exact hj (Pz hN e1 (I.ok.inj _ _ _ e hc ▸ hi))
  ·by_cases qN:c'=c
   ·subst qN;exact⟨_,gX⟩
   ·obtain⟨w2,z2⟩:=I.cell y c' e;exact⟨w2,z2.sameBut hs qN⟩
  ·obtain⟨e,n,ne,nf,d⟩:=I.pin p hp;refine⟨(hs.2 p.1 ?_).trans e,n,ne,nf,d⟩;intro q;rw[q,qZ] at e;have q':oc=p.2:=ed e;exact d w' (by rw[<- q'];exact Zy6)
theorem O9{M:Fy}{A:aI}{v:V}{u:aa}(I:Inv X pins σ H s)(hN:X.N.Nodup)(hi:X.N[i]?= some x)(hx:Loc X.env.scope x)(r:RelV v u)
  (h:∀s',Inv X pins (σ.set i (some v)) H s'->Q () s') (hf:X.fn x=true\/X.env.scope.names.lookup x=some .local:=by first|exact .inl rfl|exact .inr rfl|assumption):wpAny M A (storeName X.env x u) Q E s :=
 HW I hN hi hx r (λs' I' _=>h s' I') hf
theorem Inv.NL{s':af}(I:Inv X pins σ H s)(ho:s'.os=s.os)(u:Un (iL X.stack) ch H H' s.heap s'.heap)(ak:bJ X.prog X.w H' s'.heap)(hg:pJ s'.gens)
  (mM:∀b∈ch,(b∈X.ex\/X.dt.heap.objs.size<=b)/\b≠X.env.locals/\(∀x c,X.env.cells.lookup x=some c->c≠b)/\∀p∈X.pn++pins,p.1≠b):Inv X pins σ H' s':=by
 obtain⟨h',g',d',t',o'⟩:=s';have e:o'=s.os:=ho;subst e;exact I.call (g':=g') (t':=t') (d':=d') u ak hg mM
end
abbrev XK:=aa->Option Addr->Hp->Prop
abbrev St:=List (Option V)
abbrev VK:=V->Hp->Prop
abbrev TE:=St->Hp->VK->Prop
abbrev TT:=St->Hp->(Bool->Hp->Prop)->Prop
abbrev TA:=St->Hp->(List V->Hp->Prop)->Prop
structure Ends where
 nx:St->Hp->Prop
 rt:VK
 bk:St->Hp->Prop:=λ_ _=>False
 ct:St->Hp->Prop:=λ_ _=>False
abbrev TS:=Ends->St->Hp->Prop
def EP(X:Cx)(pins:List (Addr×Obj))(σ : St)(Q:VK)(u:aa)(s':af):Prop := ∃v H',Inv X pins σ H' s'/\RelV v u/\Q v H'
def TP(X:Cx)(pins:List (Addr×Obj))(σ : St)(Q:Bool->Hp->Prop)(b:Bool)(s':af):Prop := ∃H',Inv X pins σ H' s'/\Q b H'
def AP(X:Cx)(pins:List (Addr×Obj))(σ : St)(Q:List V->Hp->Prop)(us:List aa)(s':af):Prop := ∃vs H',Inv X pins σ H' s'/\Vals vs us/\Q vs H'
def SP(X:Cx)(pins:List (Addr×Obj))(D:Ends)(f:Flow)(s':af):Prop :=
 match f with
 | .next=>∃ aq H',Inv X pins aq H' s'/\D.nx aq H'
 | .brk=>∃ aq H',Inv X pins aq H' s'/\D.bk aq H'
 | .cont=>∃ aq H',Inv X pins aq H' s'/\D.ct aq H'
 | .ret u=>∃v aq H',Inv X pins aq H' s'/\RelV v u/\D.rt v H'
def PE(X:Cx)(e:Expr)(t:TE):Prop :=
 ∀(pins:List (Addr×Obj))(s:af)(σ : St)(H:Hp)(Q:VK),Inv X pins σ H s->t σ H Q->wpAny (model X.prog X.w) X.A (eval e X.env) (EP X pins σ Q) X.xe s
def PT(X:Cx)(e:Expr)(t:TT):Prop :=
 ∀(pins:List (Addr×Obj))(s:af)(σ : St)(H:Hp)(Q:Bool->Hp->Prop),Inv X pins σ H s->t σ H Q->wpAny (model X.prog X.w) X.A (isTrue e X.env (eval e X.env)) (TP X pins σ Q) X.xe s
def PW(X:Cx)(e:Expr)(t:TT):Prop :=
 ∀(whole:Sem aa)(pins:List (Addr×Obj))(s:af)(σ : St)(H:Hp)(Q:Bool->Hp->Prop),Inv X pins σ H s->t σ H Q->wpAny (model X.prog X.w) X.A (isTrue e X.env whole) (TP X pins σ Q) X.xe s
variable{e:Expr}{X:Cx}
theorem PW.pt{t:TT}(h:PW X e t):PT X e t:=h _
def PA(X:Cx)(es:List Expr)(t:TA):Prop :=
 ∀(pos:Pos)(pins:List (Addr×Obj))(s:af)(σ : St)(H:Hp)(Q:List V->Hp->Prop),Inv X pins σ H s->t σ H Q->wpAny (model X.prog X.w) X.A (spliced (backTo pos (starEach es X.env))) (AP X pins σ Q) X.xe s
def PS(X:Cx)(st:Stmt)(t:TS):Prop :=
 ∀(pins:List (Addr×Obj))(s:af)(σ : St)(H:Hp)(D:Ends),Inv X pins σ H s->t D σ H->wpAny (model X.prog X.w) X.A (exec st X.env) (SP X pins D) X.xe s
def dB(X:Cx)(st:List Stmt)(t:TS):Prop :=
 ∀(pins:List (Addr×Obj))(s:af)(σ : St)(H:Hp)(D:Ends),Inv X pins σ H s->t D σ H->wpAny (model X.prog X.w) X.A (execs st X.env) (SP X pins D) X.xe s
variable{A:aI}{E:aa->af->Prop}{s:af}
theorem aw{α : Type}{t:Sem α}{Q Q' : α -> af->Prop}{M:Fy}(h:wpAny M A t Q E s)(hQ:∀a s,Q a s->Q' a s):wpAny M A t Q' E s:=dz h hQ λ_ _ x=>x
def C1(i:Nat):TE:=λσ H Q=>∃v,σ[i]?= some (some v)/\Q v H
def tC(v:V):TE:=λ_ H Q=>Q v H
variable{x:Str}{i:Nat}{pos:Pos}
theorem Zoz(hN:X.N[i]?= some x)(hv:He X.env.scope x)(hd:(x == ("__debug__" : Str))=false:=by decide) (fh:(x == ("__classdict__" : Str))=false:=by decide):PE X (.Name x pos) (C1 i):=by
 intro pins s σ H Q I h;obtain⟨v,e,h⟩:=h;obtain⟨m,hn,hl⟩:=I.loc;obtain⟨u,r,l⟩:=hl i x v hN e hv;have fin:EP X pins σ Q u s:=⟨v,H,I,r,h⟩;rcases l with⟨hk,hm⟩|⟨hk,c,hc,iM⟩
 ·exact NA (wpAny_loadName_local I.ok.kind hk hn hm fin) hd
 ·rcases hk with hk|hk
  ·exact NA (wpAny_loadName_cell I.ok.kind hk hc iM fin) hd
  ·exact NA (wpAny_loadName_free I.ok.kind hk hc iM fin fh) hd
theorem Zj{i j pos}:PE X (.Constant (.int i) j pos) (tC (.int i)):=λ_ _ _ H _ I h=>wpAny_Constant_int ⟨.int i,H,I.tok _,⟨_,rfl⟩,h⟩
theorem eJ{b j pos}:PE X (.Constant (.bool b) j pos) (tC (.bl b)):=λ_ _ _ H _ I h=>Constant_bool ⟨.bl b,H,I,rfl,h⟩
theorem fS{j pos}:PE X (.Constant .none j pos) (tC .aD):=λ_ _ _ H _ I h=>Constant_none ⟨.aD,H,I,rfl,h⟩
theorem jj{x j pos}:PE X (.Constant (.str x) j pos) (tC (.str x)):=λ_ _ _ H _ I h=>Calls.Constant_str ⟨.str x,H,I.tok _,⟨_,rfl⟩,h⟩
def Gl(X:Cx)(x:Str):Prop:=X.env.kindOf x=some .globalImplicit
variable{u:aa}{pins:List (Addr×Obj)}{σ:St}{Q:aa->af->Prop}
theorem IX(I:Inv X pins σ H s)(hg:Gl X x)(hm:X.mg x=some u)(h:Q u s)
  (hd:(x == ("__debug__" : Str))=false:=by decide):wpAny (model X.prog X.w) X.A (eval (.Name x pos) X.env) Q E s :=
 VH I.ok.kind hg (Calls.loadGlobal_global (by rw[I.ok.glob];exact I.mod.glob.keeps I.bk) hm h) hd
theorem lx(I:Inv X pins σ H s)(hg:Gl X x)(hm:X.mg x=none)(hv:bootBuiltins x=some u)(h:Q u s)
  (hn:x ≠ "__name__" := by decide) (hd:(x == ("__debug__" : Str))=false:=by decide):wpAny (model X.prog X.w) X.A (eval (.Name x pos) X.env) Q E s:=by
 obtain⟨mb,h1,h2⟩:=I.mod.blt;exact VH I.ok.kind hg (Calls.loadGlobal_builtin (by rw[I.ok.glob];exact I.mod.glob.keeps I.bk) hm (by rw[I.ok.blt];exact h1.keeps I.bk) ((h2 x hn).trans hv) h) hd
theorem Cr{v:V}(hg:Gl X x)(hm:X.mg x=some u)(r:RelV v u)(hd:(x == ("__debug__" : Str))=false:=by decide):PE X (.Name x pos) (tC v) :=
 λ_ _ _ H _ I h=>IX I hg hm ⟨v,H,I,r,h⟩ hd
theorem Znh{v:V}(hg:Gl X x)(hm:X.mg x=none)(hv:bootBuiltins x=some u)(r:RelV v u)(hn:x ≠ "__name__" := by decide) (hd:(x == ("__debug__" : Str))=false:=by decide):PE X (.Name x pos) (tC v) :=
 λ_ _ _ H _ I h=>lx I hg hm hv ⟨v,H,I,r,h⟩ hn hd
def PC(X:Cx)(op:xp)(a b:Expr)(t:TE):Prop :=
 ∀(pins:List (Addr×Obj))(s:af)(σ : St)(H:Hp)(Q:VK),Inv X pins σ H s->t σ H Q ->
  wpAny (model X.prog X.w) X.A (eval a X.env) (λv aT=>wpAny (model X.prog X.w) X.A (eval b X.env) (λu s₂=>wpAny (model X.prog X.w) X.A (compareOp op v u) (EP X pins σ Q) X.xe s₂) X.xe aT) X.xe s
def tB(t:TE):TT:=λσ H Q=>t σ H λx H1=>∃c,x=.bl c/\Q c H1
variable{a b:Expr}{op:xp}
theorem Zoq{t:TE}(h:PC X op a b t)(h1:behindInMarks op b=false:=by first|exact ZAo _ (by decide) (by decide)|rfl):PE X (.Compare a [op] [b] pos) t:=λpins s σ H Q I hw=>X8 (h pins s σ H Q I hw) h1
theorem og{t:TE}(h:PC X op a b t)(h1:behindInMarks op b=false:=by first|exact ZAo _ (by decide) (by decide)|rfl):PT X (.Compare a [op] [b] pos) (tB t):=by
 intro pins s σ H Q I hw;refine Yb (aw (h pins s σ H _ I hw) λv s1 h1=>aw h1 λu s2 h2=>aw h2 ?_) h1;rintro c s3 ⟨x,H1,I1,r1,q1⟩;obtain⟨d,rfl,q⟩:=q1;cases r1;exact yc ⟨H1,I1,q⟩
def Zp1(t u:TT):TT:=λσ H Q=>t σ H λc H1=>if c=true then u σ H1 Q else Q false H1
def tOr(t u:TT):TT:=λσ H Q=>t σ H λc H1=>if c=true then Q true H1 else u σ H1 Q
def Zp9(t:TT):TT:=λσ H Q=>t σ H λc H1=>Q (!c) H1
variable{tA:TT}
theorem qw(ha:PT X a tA):PW X (.BoolOp .And [a] pos) tA:=by
 intro wh pins s σ H Q I h;refine isTrue_and (aw (ha pins s σ H Q I h) λc s1 e=>?_);cases c with
 | true=>exact isTrue_and_nil e
 | false=>exact e
theorem CJ(ha:PT X a tA):PW X (.BoolOp .Or [a] pos) tA:=by
 intro wh pins s σ H Q I h;refine isTrue_or (aw (ha pins s σ H Q I h) λc s1 e=>?_);cases c with
 | false=>exact isTrue_or_nil e
 | true=>exact e
variable{BK:TT}{rest:List Expr}
theorem mr(ha:PT X a tA)(hb:PW X (.BoolOp .And (b::rest) pos) BK):PW X (.BoolOp .And (a::b::rest) pos) (Zp1 tA BK):=by
 intro wh pins s σ H Q I h;refine isTrue_and (aw (ha pins s σ H _ I h) ?_);rintro c s1 ⟨H1,I1,q1⟩;cases c with
 | true=>exact hb wh pins s1 σ H1 Q I1 q1
 | false=>exact⟨H1,I1,q1⟩
theorem CV(ha:PT X a tA)(hb:PW X (.BoolOp .Or (b::rest) pos) BK):PW X (.BoolOp .Or (a::b::rest) pos) (tOr tA BK):=by
 intro wh pins s σ H Q I h;refine isTrue_or (aw (ha pins s σ H _ I h) ?_);rintro c s1 ⟨H1,I1,q1⟩;cases c with
 | true=>exact⟨H1,I1,q1⟩
 | false=>exact hb wh pins s1 σ H1 Q I1 q1
theorem zb(ha:PT X a tA):PT X (.UnaryOp .Not a pos) (Zp9 tA):=by
 intro pins s σ H Q I h;exact isTrue_not (ha pins s σ H (λc H1=>Q (!c) H1) I h)
def Zo1(ta tb:TE):TE:=λσ H Q=>ta σ H λx H1=>∃c,x=.bl c/\if c=true then tb σ H1 Q else Q (.bl false) H1
def ZpN(ta tb:TE):TE:=λσ H Q=>ta σ H λx H1=>∃c,x=.bl c/\if c=true then Q (.bl true) H1 else tb σ H1 Q
theorem yY{op}{t:TE}(h:PE X a t):PE X (.BoolOp op [a] pos) t:=λpins s σ H Q I hw=>BoolOp_one (h pins s σ H Q I hw)
variable{ta tb:TE}
theorem CB(ha:PE X a ta)(hb:PE X (.BoolOp .And (b::rest) pos) tb):PE X (.BoolOp .And (a::b::rest) pos) (Zo1 ta tb):=by
 intro pins s σ H Q I h;refine BoolOp_and (aw (ha pins s σ H _ I h) ?_);rintro v s1 ⟨x,H1,I1,r1,q1⟩;obtain⟨c,rfl,q1⟩:=q1;cases r1;refine yc ?_;cases c with
 | true=>exact hb pins s1 σ H1 Q I1 q1
 | false=>exact⟨.bl false,H1,I1,rfl,q1⟩
theorem ZoW(ha:PE X a ta)(hb:PE X (.BoolOp .Or (b::rest) pos) tb):PE X (.BoolOp .Or (a::b::rest) pos) (ZpN ta tb):=by
 intro pins s σ H Q I h;refine BoolOp_or (aw (ha pins s σ H _ I h) ?_);rintro v s1 ⟨x,H1,I1,r1,q1⟩;obtain⟨c,rfl,q1⟩:=q1;cases r1;refine yc ?_;cases c with
 | false=>exact hb pins s1 σ H1 Q I1 q1
 | true=>exact⟨.bl true,H1,I1,rfl,q1⟩
def tIf(t:TT)(ta tb:TE):TE:=λσ H Q=>t σ H λc H1=>if c=true then ta σ H1 Q else tb σ H1 Q
variable{c:Expr}
theorem Cj(hc:PT X c tA)(ha:PE X a ta)(hb:PE X b tb):PE X (.IfExp c a b pos) (tIf tA ta tb):=by
 intro pins s σ H Q I h;refine wpAny_IfExp (aw (hc pins s σ H _ I h) ?_);rintro d s1 ⟨H1,I1,q1⟩;cases d with
 | true=>exact ha pins s1 σ H1 Q I1 q1
 | false=>exact hb pins s1 σ H1 Q I1 q1
def ag(K:au)(H:Hp)(a:Addr)(xs:List V):Prop :=
 Rd H a (.lst xs) \/
  ∃(o:Obj)(its:Array aa)(n:Nat),K.lookup a=some o/\o.cls=.type "list" /\ o.dict=none/\o.data=.seq its n/\its.size<=sizeLine/\Vals xs its.toList
def az(K:au)(H:Hp)(a:Addr)(xs:List V):Prop :=
 Rd H a (.tup xs) \/
  ∃(o:Obj)(its:Array aa)(n:Nat),K.lookup a=some o/\o.cls=.type "tuple" /\ o.data=.seq its n/\its.size<=sizeLine/\Vals xs its.toList
def Zp4:aa->Option V
 | .none=>some .aD
 | .bool b=>some (.bl b)
 | .int i _=>some (.int i)
 | .str x _=>some (.str x)
 | .bytes b _=>some (.iK b)
 | .float b _=>some (.tO b)
 | .ref a=>some (.ref a)
 | .type n=>some (.ty n)
 | _=>none
theorem RelV.abs{x:V}(r:RelV x u):Zp4 u=some x:=by
 cases x with
 | aD=>cases r;rfl
 | bl _=>cases r;rfl
 | int _=>obtain⟨t,rfl⟩:=r;rfl
 | str _=>obtain⟨t,rfl⟩:=r;rfl
 | iK _=>obtain⟨t,rfl⟩:=r;rfl
 | tO _=>obtain⟨t,rfl⟩:=r;rfl
 | ref _=>cases r;rfl
 | ty _=>cases r;rfl
theorem RelV.inj{x y:V}(r:RelV x u)(q:RelV y u):x=y:=ed (r.abs.symm.trans q.abs)
theorem Vals.inj:∀{xs ys:List V}{us:List aa},Vals xs us->Vals ys us->xs=ys
 | _,_,_,.nil,.nil=>rfl
 | _,_,_,.cons r t,.cons r' t'=>by rw[r.inj r',Vals.inj t t']
variable{a:Addr}{xs:List V}{K:au}
theorem ag.of(h:H a=some (.lst xs)):ag K H a xs:=.inl (.inl h)
theorem az.of(h:H a=some (.tup xs)):az K H a xs:=.inl (.inl h)
theorem Inv.list(I:Inv X pins σ H s)(h:ag X.K H a xs):∃its:List aa,Vals xs its/\PlainL s.heap a its.toArray/\xs.length<=sizeLine:=by
 rcases h with h|⟨o,its,n,hk,hc,hd,hs,hz,r⟩
 ·obtain⟨z,its,n,r,e⟩:=h.ok I.ak;exact⟨its,r,⟨_,n,e,rfl,rfl,rfl⟩,z⟩
 ·refine⟨its.toList,r,⟨o,n,I.dD a o hk,hc,hd,by simpa using hs⟩,?_⟩;have e:=r.length;simp only[aU] at e;lia
theorem Inv.tuple(I:Inv X pins σ H s)(h:az X.K H a xs):∃its:List aa,Vals xs its/\IsTup s.heap a its.toArray/\xs.length<=sizeLine:=by
 rcases h with h|⟨o,its,n,hk,hc,hs,hz,r⟩
 ·obtain⟨z,its,r,p⟩:=h.ok I.ak;exact⟨its,r,p,z⟩
 ·refine⟨its.toList,r,⟨o,I.dD a o hk,hc,n,by simpa using hs⟩,?_⟩;have e:=r.length;simp only[aU] at e;lia
variable{ys:List V}
theorem Inv.Es(I:Inv X pins σ H s)(h:ag X.K H a xs)(h':ag X.K H a ys):xs=ys:=by
 obtain⟨its,r,⟨o,n,e,_,_,d⟩,_⟩:=I.list h;obtain⟨its',r',⟨o',n',e',_,_,d'⟩,_⟩:=I.list h';rw[e] at e';cases e';rw[d] at d';injection d' with d1 _;have:its=its':=by simpa using congrArg Mn d1
 subst this;exact r.inj r'
theorem Inv.ZBd(I:Inv X pins σ H s)(h:az X.K H a xs)(h':az X.K H a ys):xs=ys:=by
 obtain⟨its,r,⟨o,e,_,n,d⟩,_⟩:=I.tuple h;obtain⟨its',r',⟨o',e',_,n',d'⟩,_⟩:=I.tuple h';rw[e] at e';cases e';rw[d] at d';injection d' with d1 _;have:its=its':=by simpa using congrArg Mn d1
 subst this;exact r.inj r'
abbrev Cx.mX(X:Cx)(E:aa->af->Prop):Cx:={ X with xe:=E }
abbrev Cx.wK(X:Cx):Cx:=X.mX λ_ _=>False
theorem Cx.Ok.mX{X:Cx}(ok:X.Ok)(E:aa->af->Prop):(X.mX E).Ok :=
 ⟨ok.mod,ok.kind,ok.glob,ok.blt,ok.above,ok.inj,ok.has,ok.qJ,ok.hd,ok.frames,ok.uB,ok.oC,ok.bs,ok.jm,ok.rE,ok.oE,ok.ie,ok.mJ⟩
theorem Cx.Ok.rN(ok:(X.mX E).Ok):X.Ok :=
 ⟨ok.mod,ok.kind,ok.glob,ok.blt,ok.above,ok.inj,ok.has,ok.qJ,ok.hd,ok.frames,ok.uB,ok.oC,ok.bs,ok.jm,ok.rE,ok.oE,ok.ie,ok.mJ⟩
theorem Inv.mX(I:Inv X pins σ H s)(E:aa->af->Prop):Inv (X.mX E) pins σ H s:=⟨I.ok.mX E,I.os,I.bare,I.base,I.loc,I.cell,I.free,I.fI,I.pin,I.ak,I.len⟩
theorem Inv.rN(I:Inv (X.mX E) pins σ H s):Inv X pins σ H s:=⟨I.ok.rN,I.os,I.bare,I.base,I.loc,I.cell,I.free,I.fI,I.pin,I.ak,I.len⟩
theorem SP.rN{D:Ends}{f:Flow}{s':af}(h:SP (X.mX E) pins D f s'):SP X pins D f s':=by
 cases f with
 | next=>obtain⟨aq,H',I,q⟩:=h;exact⟨aq,H',I.rN,q⟩
 | brk=>obtain⟨aq,H',I,q⟩:=h;exact⟨aq,H',I.rN,q⟩
 | cont=>obtain⟨aq,H',I,q⟩:=h;exact⟨aq,H',I.rN,q⟩
 | ret u=>obtain⟨v,aq,H',I,r,q⟩:=h;exact⟨v,aq,H',I.rN,r,q⟩
theorem dB.wK{st:List Stmt}{t:TS}(h:dB X.wK st t):dB X st t:=λpins s σ H D I hw =>
 dz (h pins s σ H D (I.mX _) hw) (λ_ _ q=>q.rN) λ_ _ z=>m9 z
section
variable{X:Cx}{st:Stmt}{rest:List Stmt}{t u:TS}{e:Expr}{te:TE}{pos:Pos}
def Zo2:TS:=λD σ H=>D.nx σ H
def ZpF(t u:TS):TS:=λD σ H=>t { D with nx:=u D } σ H
theorem ZV:dB X [] Zo2:=λ_ _ σ H _ I h=>Ge ⟨σ,H,I,h⟩
theorem Ze(h1:PS X st t)(h2:dB X rest u):dB X (st::rest) (ZpF t u):=by
 intro pins s σ H D I h;refine Ya (aw (h1 pins s σ H { D with nx:=u D } I h) λf s1 q=>?_);cases f with
 | next =>
  obtain⟨aq,H',I',q⟩:=q;exact h2 pins s1 aq H' D I' q
 | ret v=>exact q
 | brk=>exact q
 | cont=>exact q
theorem Zg(h1:PS X st t):dB X [st] t:=by
 intro pins s σ H D I h;refine Ya (aw (h1 pins s σ H D I h) λf s1 q=>?_);cases f with
 | next=>exact Ge q
 | ret v=>exact q
 | brk=>exact q
 | cont=>exact q
def Zpf:TS:=λD σ H=>D.ct σ H
theorem ZgZ:PS X (.Continue pos) Zpf:=λ_ _ σ H _ I h=>wpAny_Continue ⟨σ,H,I,h⟩
theorem Inv.quiet{pins:List (Addr×Obj)}{σ : St}{H:Hp}{s:af}(I:Inv X pins σ H s):interactive X.env=false:=by simp[interactive,I.ok.kind]
def Zo5(te:TE):TS:=λD σ H=>te σ H λ_ H1=>D.nx σ H1
theorem Z2(he:PE X e te)(hs:swapsWith e none pos.line X.env=pure false:=by rfl):PS X (.Expr e pos) (Zo5 te):=by
 intro pins s σ H D I h;exact wpAny_Expr_any (aw (he pins s σ H _ I h) λv s1 ⟨x,H1,I1,r1,q1⟩=>⟨σ,H1,I1,q1⟩) I.quiet hs
def ZpX(te:TE):TS:=λD σ H=>te σ H D.rt
theorem ZD(he:PE X e te):PS X (.Return (some e) pos) (ZpX te):=by
 intro pins s σ H D I h;exact wpAny_Return_some (aw (he pins s σ H _ I h) λv s1 ⟨x,H1,I1,r1,q1⟩=>⟨x,σ,H1,I1,r1,q1⟩)
def ZpI(c:TT)(t u:TS):TS:=λD σ H=>c σ H λb H1=>if b=true then t D σ H1 else u D σ H1
theorem c6{c:Expr}{a b:List Stmt}{tc:TT}(hc:PT X c tc)(ha:dB X a t)(hb:dB X b u):PS X (.If c a b pos) (ZpI tc t u):=by
 intro pins s σ H D I h;refine wpAny_If (aw (hc pins s σ H _ I h) ?_);rintro d s1 ⟨H1,I1,q1⟩;cases d with
 | true=>exact ha pins s1 σ H1 D I1 q1
 | false=>exact hb pins s1 σ H1 D I1 q1
def Zn0:TS:=λ_ _ _=>False
theorem Zlj:PS X st Zn0:=λ_ _ _ _ _ _ h=>h.elim
end
abbrev TG:=V->St->Hp->(St->Hp->Prop)->Prop
abbrev qo:=List V->St->Hp->(St->Hp->Prop)->Prop
def PG(X:Cx)(target:Expr)(t:TG):Prop :=
 ∀(pins:List (Addr×Obj))(s:af)(σ : St)(H:Hp)(v:V)(u:aa)(Q:St->Hp->Prop),Inv X pins σ H s->RelV v u->t v σ H Q ->
  wpAny (model X.prog X.w) X.A (assign target X.env u) (λ_ s'=>∃ aq H',Inv X pins aq H' s'/\Q aq H') X.xe s
def yB(X:Cx)(ts:List Expr)(t:qo):Prop :=
 ∀(pins:List (Addr×Obj))(s:af)(σ : St)(H:Hp)(vs:List V)(us:List aa)(Q:St->Hp->Prop),Inv X pins σ H s->Vals vs us->t vs σ H Q ->
  wpAny (model X.prog X.w) X.A (assignInOrder ((assignEach ts X.env).map (·.2)) us) (λ_ s'=>∃ aq H',Inv X pins aq H' s'/\Q aq H') X.xe s
abbrev JC:=V->V->V->Hp->(Hp->Prop)->Prop
def RP(X:Cx)(t:JC):Prop :=
 ∀(pins:List (Addr×Obj))(s:af)(σ : St)(H:Hp)(o i v:V)(ov iv u:aa)(Q:Hp->Prop),Inv X pins σ H s->RelV o ov->RelV i iv->RelV v u->t o i v H Q ->
  wpAny (model X.prog X.w) X.A (setItem ov iv u) (λ_ s'=>∃H',Inv X pins σ H' s'/\Q H') X.xe s
def vF(i:Nat):TG:=λv σ H Q=>Q (σ.set i (some v)) H
theorem Zm(hN:X.N.Nodup)(hi:X.N[i]?= some x)(hx:Loc X.env.scope x)(hf:X.fn x=true\/X.env.scope.names.lookup x=some .local:=by first|exact .inl rfl|exact .inr rfl|assumption):PG X (.Name x pos) (vF i):=by
 intro pins s σ H v u Q I r h;exact NC (O9 I hN hi hx r (λs' I'=>⟨_,H,I',h⟩) hf)
def Zp0:qo:=λvs σ H Q=>vs=[]/\Q σ H
def ZoP(t:TG)(u:qo):qo:=λvs σ H Q=>∃v r,vs=v::r/\t v σ H λaq H'=>u r aq H' Q
theorem gi:yB X [] Zp0:=by
 intro pins s σ H vs us Q I r h;obtain⟨e,h⟩:=h;subst e;cases r;exact assignInOrder_nil ⟨σ,H,I,h⟩
variable{es:List Expr}
theorem Zo{t:TG}{u:qo}(h1:PG X e t)(h2:yB X es u)
  (hs:(assignEach (e::es) X.env).map (·.2)=assign e X.env::(assignEach es X.env).map (·.2):=by rfl):yB X (e::es) (ZoP t u):=by
 intro pins s σ H vs us Q I r h;obtain⟨v,vr,e1,h⟩:=h;subst e1;cases r with
 | cons r rr =>
  rw[hs];refine assignInOrder_cons (aw (h1 pins s σ H _ _ _ I r h) ?_);rintro _ s1 ⟨pG,H1,I1,q1⟩;exact h2 pins s1 pG H1 _ _ Q I1 rr q1
def RW(K:au)(n:Nat)(t:qo):TG:=λv σ H Q=>∃a xs,v=.ref a/\az K H a xs/\xs.length=n/\t xs σ H Q
variable{n:Nat}
theorem gJ{k:Nat}{t:qo}(hc:X.calm=true)(h:yB X es t)
  (hn:(assignEach es X.env).length=n:=by rfl) (bu:(assignEach es X.env).findIdx? (·.1)=none:=by rfl):PG X (.Tuple es k pos) (RW X.K n t):=by
 intro pins s σ H v u Q I r hw;obtain⟨a,xs,e1,hq,hl,hw⟩:=hw;subst e1;cases r;obtain⟨its,rv,ht,hz⟩:=I.tuple hq;refine assign_Tuple_tuple (I.ok.hd hc) ht (by simp[hn,<- hl,rv.length]) bu λh' hx=>?_;have I1:Inv X pins σ H { s with heap:=h' }:=I.kept (t':=s.toks) λb o e=>hx b o (bc (aM e)) e;exact h pins _ σ H xs _ Q I1 (by simpa using rv) hw
def ZpK(to ti:TE)(t:JC):TG:=λv σ H Q=>to σ H λo H1=>ti σ H1 λi H2=>t o i v H2 λH3=>Q σ H3
theorem CM{o i:Expr}{to ti:TE}{t:JC}(ho:PE X o to)(hi:PE X i ti)(hs:RP X t)
  (ha:∀v,assign (.Subscript o i pos) X.env v=(do
   let ov <- holding [v] (eval o X.env)
   let iv <- holding [v,ov] (eval i X.env)
   standAt pos
   holding [v,ov,iv] (setItem ov iv v)
   release [v,ov,iv] []):=by intro _;rfl):PG X (.Subscript o i pos) (ZpK to ti t):=by
 intro pins s σ H v u Q I r h;rw[ha];refine ae (eW (aw (ho pins s σ H _ I h) ?_));rintro ov s1 ⟨x,H1,I1,r1,q1⟩;refine ae (eW (aw (hi pins s1 σ H1 _ I1 q1) ?_));rintro iv s2 ⟨y,H2,I2,r2,q2⟩;refine ae (yb (ae (eW (aw (hs pins s2 σ H2 x y v ov iv u _ I2 r1 r2 r q2) ?_))));rintro _ s3 ⟨H3,I3,q3⟩;exact wpAny_release ⟨σ,H3,I3,q3⟩
def C0(te:TE)(g:TG):TS:=λD σ H=>te σ H λx H1=>g x σ H1 D.nx
variable{tg:Expr}{te:TE}{g:TG}
theorem CL(he:PE X e te)(hg:PG X tg g)(hs:swapsWithSole [tg] e pos.line X.env=pure false:=by rfl)(hw:swappedStores [tg] e X.env=pure none:=by rfl)
  (h1:(assignEach [tg] X.env).map (·.2)=[assign tg X.env]:=by rfl):PS X (.Assign [tg] e pos) (C0 te g):=by
 intro pins s σ H D I h;refine wpAny_Assign_stores (aw (he pins s σ H _ I h) ?_) hs hw;rintro v s1 ⟨x,H1,I1,r1,q1⟩;rw[h1];exact aw (hg pins s1 σ H1 x v _ I1 r1 q1) λ_ s2 q=>q
variable{pos':Pos}
theorem Zt(hN:X.N.Nodup)(hi:X.N[i]?= some x)(hx:Loc X.env.scope x)(he:PE X e te)(hs:swapsWith e (some (.Name x pos')) pos.line X.env=pure false:=by rfl)(hf:X.fn x=true\/X.env.scope.names.lookup x=some .local:=by first|exact .inl rfl|exact .inr rfl|assumption) :
  PS X (.Assign [.Name x pos'] e pos) (C0 te (vF i)):=by
 intro pins s σ H D I h;refine wpAny_Assign_Name (aw (he pins s σ H _ I h) ?_) hs;rintro v s1 ⟨y,H1,I1,r1,q1⟩;exact O9 I1 hN hi hx r1 (λs2 I2=>⟨_,H1,I2,q1⟩) hf
def ZoB(c:TT)(tb:TS):TS:=λD σ H=>∃W:Nat->St->Hp->Prop,(∃m,W m σ H)/\∀m σ H,W m σ H ->
 c σ H λb H1=>if b=true then ∃N:St->Hp->Prop,(∀ aq H',N aq H'->∃m',m'<m/\W m' aq H')/\tb { D with nx:=N,ct:=N,bk:=D.nx } σ H1 else D.nx σ H1
variable{tb:TS}{body:List Stmt}
theorem Iz{tc:TT}(hp:PassesOwn (model X.prog X.w) X.A X.env X.xe)(hc:PT X c tc)(hb:dB X body tb):PS X (.While c body [] pos) (ZoB tc tb):=by
 intro pins s σ H D I h;obtain⟨W,⟨m0,w0⟩,turn⟩:=h;refine wpAny_While (codeAny_whileLoop (λn s'=>∃ aq H',Inv X pins aq H' s'/\W n aq H') ?_ m0 ⟨σ,H,I,w0⟩);rintro n s1 ⟨pG,H1,I1,w1⟩;refine uV hp (aw (hc pins s1 pG H1 _ I1 (turn n pG H1 w1)) ?_);rintro b s2 ⟨H2,I2,q2⟩;cases b with
 | true =>
  obtain⟨N,hN,q2⟩:=q2;rw[aj rfl];refine uV hp (aw (hb pins s2 pG H2 _ I2 q2) λf s3 q3=>?_);cases f with
  | next =>
   obtain⟨aL,H3,I3,n3⟩:=q3;obtain⟨m',hm,w3⟩:=hN aL H3 n3;exact⟨m',hm,aL,H3,I3,w3⟩
  | cont =>
   obtain⟨aL,H3,I3,n3⟩:=q3;obtain⟨m',hm,w3⟩:=hN aL H3 n3;exact⟨m',hm,aL,H3,I3,w3⟩
  | brk=>exact q3
  | ret v=>exact q3
 | false =>
  rw[ah cS];exact Ge ⟨pG,H2,I2,q2⟩
structure It where
 go:Nat->Hp->Prop
 fw:Nat->Hp->V->Hp->Prop
 stop:Nat->Hp->Prop
def bG(X:Cx)(pins:List (Addr×Obj))(H:Hp)(b:Addr):Prop :=
 H b=none/\b≠X.env.locals/\b∉X.fs/\(b∈X.ex\/X.dt.heap.objs.size<=b)/\(∀x c,X.env.cells.lookup x=some c->c≠b)/\∀p∈X.pn++pins,p.1≠b
theorem Inv.jo{H':Hp}{b:Addr}(I:Inv X pins σ H s)(hb:s.heap.objs.size<=b)(hn:H' b=none):bG X pins H' b:=by
 refine⟨hn,jR (cW I.lt hb),I.EB hb,.inr (cm I.sz hb),λx c e z=>?_,λp hp z=>?_⟩
 ·obtain⟨v,q⟩:=I.cell x c e;exact absurd (cW q.lt (by rw[z];exact hb)) (eU _)
 ·exact absurd (cW (aM (I.pin p hp).1) (by rw[z];exact hb)) (eU _)
structure Turn(P:aC)(w:ay)(K:au)(tg:Expr)(J:It)(fp:List Addr)(it:Addr)(tn:Nat->Heap->Prop):Prop where
 mem:it∈fp
 obj:∀i h,tn i h->∀b∈fp,∃o,h.get? b=some o/\∀v,o.data ≠ .cell v
 keep:∀i h h',tn i h->(∀b∈fp,∀o,h.get? b=some o->h'.get? b=some o)->tn i h'
 item:∀(X:Cx),X.prog=P->X.w=w->X.K=K->X.calm=true->∀(i:Nat)(pins:List (Addr×Obj))(s:af)(σ : St)(H:Hp)(E:aa->af->Prop),Inv X pins σ H s->(∀b∈fp,bG X pins H b)->tn i s.heap->J.go i H ->
  wpAny (model P w) X.A (pyNext (.ref it)) (λr s1=>∃u,r=some u /\
   wpAny (model P w) X.A (letOwnedTupleGo tg (.ref it) u) (λ_ s2=>∃x H',Inv X pins σ H' s2/\RelV x u/\J.fw i H x H'/\tn (i+1) s2.heap/\∀b∈fp,H' b=none) E s1) E s
 done:∀(X:Cx),X.prog=P->X.w=w->X.K=K->X.calm=true->∀(i:Nat)(pins:List (Addr×Obj))(s:af)(σ : St)(H:Hp)(E:aa->af->Prop),Inv X pins σ H s->(∀b∈fp,bG X pins H b)->tn i s.heap->J.stop i H ->
  wpAny (model P w) X.A (pyNext (.ref it)) (λr s1=>r=none/\Inv X pins σ H s1) E s
 self:∀(A:aI)(i:Nat)(s:af)(Q:aa->af->Prop)(E:aa->af->Prop),tn i s.heap->Q (.ref it) s->wpAny (model P w) A (pyIter (.ref it)) Q E s
abbrev TI:=St->Hp->(It->Hp->Prop)->Prop
def N4(X:Cx)(pins:List (Addr×Obj))(σ : St)(tg:Expr)(R:It->Hp->Prop)(wC:aa)(s2:af):Prop :=
 ∃(it:Addr)(fp:List Addr)(tn:Nat->Heap->Prop)(J:It)(H':Hp),wC=.ref it/\Inv X pins σ H' s2/\Turn X.prog X.w X.K tg J fp it tn/\tn 0 s2.heap/\(∀b∈fp,bG X pins H' b)/\R J H'
def PI(X:Cx)(tg iter:Expr)(wi:TI):Prop :=
 ∀(pins:List (Addr×Obj))(s:af)(σ : St)(H:Hp)(R:It->Hp->Prop),Inv X pins σ H s->wi σ H R ->
  wpAny (model X.prog X.w) X.A (eval iter X.env) (λv s1=>wpAny (model X.prog X.w) X.A (pyIter v) (N4 X pins σ tg R) X.xe s1) X.xe s
theorem zj{M:Fy}{it:Addr}{n:String}{vs:Array aa}{Q:Unit->af->Prop}(ho:s.heap.get? it=some o)(hc:o.cls=.type n)(hd:o.data=.fields vs)
    (hn:["enumerate","zip","dict_itemiterator","dict_reverseitemiterator","odict_iterator","itertools.zip_longest","itertools.pairwise"].contains n=false) (hQ:Q () s):wpAny M A (letOwnedTupleGo tg (.ref it) u) Q E s:=by
  unfold letOwnedTupleGo;cases tg <;> first
    | exact ai hQ
    | (cases u <;> first
        | exact ai hQ
        | (refine ae (Gf ho ?_)
           rw[hc,hd];show wpAny M A (if(["enumerate","zip","dict_itemiterator","dict_reverseitemiterator","odict_iterator","itertools.zip_longest","itertools.pairwise"].contains n&&vs[0]? == some (rawInt _))=true then _ else _) Q E s
           rw[ah (by intro h;rw[hn,Bool.false_and] at h;cases h)];exact ai hQ))
def g8(K:au)(a:Addr):It :=
 ⟨λi H=>∃xs x,ag K H a xs/\xs[i]?= some x,λi H x H'=>H'=H/\∀xs,ag K H a xs->xs[i]?= some x,λi H=>∃xs,ag K H a xs/\xs.length<=i⟩
def g9(K:au)(a:Addr):It :=
 ⟨λi H=>∃xs x,az K H a xs/\xs[i]?= some x,λi H x H'=>H'=H/\∀xs,az K H a xs->xs[i]?= some x,λi H=>∃xs,az K H a xs/\xs.length<=i⟩
def nR(lo:Int)(n:Nat):It:=⟨λi _=>i<n,λi H x H'=>H'=H/\x=.int (lo+i),λi _=>n<=i⟩
theorem ZiY(a it:Addr):Turn P w K tg (g8 K a) [it] it (λi h=>h.IsListIter it a i) where
 mem:=by simp
 obj:=λi h st b hb=>by
  have e:b=it:=by simpa using hb
  subst e;obtain⟨o,e,c,d⟩:=st;exact⟨o,e,λv z=>by rw[d] at z;cases z⟩
 keep:=λi h h' st k=>st.at λo e=>k it (by simp) o e
 item:=by
  intro X hP hw hK hc i pins s σ H E I hf st hg;subst hP hw hK;obtain⟨xs,x,hq,hx⟩:=hg;obtain⟨its,rv,p,hz⟩:=I.list hq;obtain⟨u,hu,ru⟩:=rv.get hx;obtain⟨f0,f1,f2,f3,f4,f5⟩:=hf it (by simp);refine Yh st p.isList (x:=u) (by simpa using hu) λh' a_ sb=>?_;have I1:Inv X pins σ H { s with heap:=h' }:=I.turned (t':=s.toks) (λb o hb e=>(sb.2 b hb).trans e) f0 f1 f3 f4 f5;obtain⟨o,e,c,d⟩:=id a_;exact⟨u,rfl,zj (s:={ s with heap:=h' }) e c d (by decide) ⟨x,H,I1,ru,⟨rfl,λys hy=>by rw[I.Es hy hq];exact hx⟩,a_,λb hb=>(hf b hb).1⟩⟩
 done:=by
  intro X hP hw hK hc i pins s σ H E I hf st hg;subst hP hw hK;obtain⟨xs,hq,hx⟩:=hg;obtain⟨its,rv,p,hz⟩:=I.list hq;obtain⟨f0,f1,f2,f3,f4,f5⟩:=hf it (by simp);have hl:=rv.length;exact Yg (I.ok.hd hc) st p.isList (by simp;lia) λh' eb=>⟨rfl,I.turned (t':=s.toks) (λb o hb e=>eb b o hb e) f0 f1 f3 f4 f5⟩
 self:=λ_ _ _ _ _ st h=>wpAny_pyIter_listiter st h
theorem Zis(a it:Addr):Turn P w K tg (g9 K a) [it] it (λi h=>h.IsTupleIter it a i) where
 mem:=by simp
 obj:=λi h st b hb=>by
  have e:b=it:=by simpa using hb
  subst e;obtain⟨o,e,c,d⟩:=st;exact⟨o,e,λv z=>by rw[d] at z;cases z⟩
 keep:=λi h h' st k=>st.at λo e=>k it (by simp) o e
 item:=by
  intro X hP hw hK hc i pins s σ H E I hf st hg;subst hP hw hK;obtain⟨xs,x,hq,hx⟩:=hg;obtain⟨its,rv,p,hz⟩:=I.tuple hq;obtain⟨u,hu,ru⟩:=rv.get hx;obtain⟨f0,f1,f2,f3,f4,f5⟩:=hf it (by simp);refine wpAny_pyNext_tuple_item st (show s.heap.IsTuple a its.toArray from p) (x:=u) (by simpa using hu) λh' a_ sb=>?_;have I1:Inv X pins σ H { s with heap:=h' }:=I.turned (t':=s.toks) (λb o hb e=>(sb.2 b hb).trans e) f0 f1 f3 f4 f5;obtain⟨o,e,c,d⟩:=id a_;exact⟨u,rfl,zj (s:={ s with heap:=h' }) e c d (by decide) ⟨x,H,I1,ru,⟨rfl,λys hy=>by rw[I.ZBd hy hq];exact hx⟩,a_,λb hb=>(hf b hb).1⟩⟩
 done:=by
  intro X hP hw hK hc i pins s σ H E I hf st hg;subst hP hw hK;obtain⟨xs,hq,hx⟩:=hg;obtain⟨its,rv,p,hz⟩:=I.tuple hq;obtain⟨f0,f1,f2,f3,f4,f5⟩:=hf it (by simp);have hl:=rv.length;exact wpAny_pyNext_tuple_end (I.ok.hd hc) st (show s.heap.IsTuple a its.toArray from p) (by simp;lia) λh' eb=>⟨rfl,I.turned (t':=s.toks) (λb o hb e=>eb b o hb e) f0 f1 f3 f4 f5⟩
 self:=λ_ _ _ _ _ st h=>wpAny_pyIter_tupleiter st h
theorem Zix(it:Addr)(lo:Int)(n:Nat):Turn P w K tg (nR lo n) [it] it (λi h=>V3 h it (lo+(i:Nat)*1) ((n:Int)-(i:Nat)) 1) where
 mem:=by simp
 obj:=λi h st b hb=>by
  have e:b=it:=by simpa using hb
  subst e;exact⟨_,st,λv z=>by
   have z':xr _=Data.cell v:=z;cases z'⟩
 keep:=λi h h' st k=>k it (by simp) _ st
 item:=by
  intro X hP hw hK hc i pins s σ H E I hf st hg;subst hP hw hK;obtain⟨f0,f1,f2,f3,f4,f5⟩:=hf it (by simp);have W:=Walks.range (prog:=X.prog) (w:=X.w) (I.ok.hd hc) it lo 1 n;refine W.item i s _ _ hg st λv h' tk hv a_ kk=>?_;obtain⟨t,rfl⟩:=hv;have I1:Inv X pins σ H { s with heap:=h',toks:=tk }:=I.turned (λb o hb e=>kk b o (by simpa using hb) e) f0 f1 f3 f4 f5;refine⟨_,rfl,zj (s:={ s with heap:=h',toks:=tk }) (n := "range_iterator") a_ rfl rfl (by decide) ⟨.int (lo+i),H,I1,⟨t,?_⟩,⟨rfl,rfl⟩,a_,λb hb=>(hf b hb).1⟩⟩;rw[Int.mul_one]
 done:=by
  intro X hP hw hK hc i pins s σ H E I hf st hg;subst hP hw hK;obtain⟨f0,f1,f2,f3,f4,f5⟩:=hf it (by simp);exact wpAny_pyNext_range_end (I.ok.hd hc) st (by have:n<=i:=hg;lia) λh' eb=>⟨rfl,I.turned (t':=s.toks) (λb o hb e=>eb b o hb e) f0 f1 f3 f4 f5⟩
 self:=λ_ _ _ _ _ st h=>wpAny_pyIter_rangeiter st h
def ZoO(K:au)(tl:TE):TI:=λσ H R=>tl σ H λx H1=>∃a,x=.ref a/\(∃xs,ag K H1 a xs)/\R (g8 K a) H1
def Zp2(K:au)(tl:TE):TI:=λσ H R=>tl σ H λx H1=>∃a,x=.ref a/\(∃xs,az K H1 a xs)/\R (g9 K a) H1
variable{l:Expr}{tl:TE}
theorem fc(hl:PE X l tl):PI X tg l (ZoO X.K tl):=by
 intro pins s σ H R I h;refine aw (hl pins s σ H _ I h) ?_;rintro v s1 ⟨x,H1,I1,r1,q1⟩;obtain⟨a,e,⟨xs,hq⟩,q⟩:=q1;subst e;cases r1;obtain⟨its,rv,p,hz⟩:=I1.list hq;refine By p.isList ?_;refine⟨s1.heap.objs.size,[s1.heap.objs.size],_,_,H1,rfl,I1.kept (t':=s1.toks) λb o e=>aG _ e,ZiY a _,⟨_,bE _ rfl,rfl,rfl⟩,λb hb=>?_,q⟩;have e:b=s1.heap.objs.size:=by simpa using hb
 subst e;exact I1.jo (ax _) (I1.ak.fresh (ax _))
theorem mv(hl:PE X l tl):PI X tg l (Zp2 X.K tl):=by
 intro pins s σ H R I h;refine aw (hl pins s σ H _ I h) ?_;rintro v s1 ⟨x,H1,I1,r1,q1⟩;obtain⟨a,e,⟨xs,hq⟩,q⟩:=q1;subst e;cases r1;obtain⟨its,rv,p,hz⟩:=I1.tuple hq;refine wpAny_pyIter_tuple (show s1.heap.IsTuple a its.toArray from p) ?_;refine⟨s1.heap.objs.size,[s1.heap.objs.size],_,_,H1,rfl,I1.kept (t':=s1.toks) λb o e=>aG _ e,Zis a _,⟨_,bE _ rfl,rfl,rfl⟩,λb hb=>?_,q⟩;have e:b=s1.heap.objs.size:=by simpa using hb
 subst e;exact I1.jo (ax _) (I1.ak.fresh (ax _))
variable{lo:Int}
theorem Zlh{R:It->Hp->Prop}{hi:Int}{t u v:Tok}{tk:Nat}(I:Inv X pins σ H s)(h1 : -(2 ^ 62)<=lo)(h2:lo<2 ^ 62)(h3 : -(2 ^ 62)<=hi)(h4:hi<2 ^ 62)
  (q:R (nR lo (hi-lo).toNat) H):wpAny (model X.prog X.w) X.A (pyIter (.ref s.heap.objs.size)) (N4 X pins σ tg R) E { s with heap:=s.heap.push { cls:=.type "range",data:=.fields #[.int lo t,.int hi u,.int 1 v] },toks:=tk }:=by
 refine wpAny_pyIter_range (IsRange.new ..) (small_one h1 h2 h3 h4) ?_;have I1:Inv X pins σ H { s with heap:=s.heap.push { cls:=.type "range",data:=.fields #[.int lo t,.int hi u,.int 1 v] },toks:=tk }:=I.kept λb o e=>aG _ e;refine⟨(s.heap.push { cls:=.type "range",data:=.fields #[.int lo t,.int hi u,.int 1 v] }).objs.size,[(s.heap.push { cls:=.type "range",data:=.fields #[.int lo t,.int hi u,.int 1 v] }).objs.size],_,_,H,rfl,
  I1.kept (t':=tk) λb o e=>aG _ e,Zix _ lo (hi-lo).toNat,?_,λb hb=>?_,q⟩
 ·have e1:lo+((0:Nat):Int)*1=lo:=by simp
  have e2:(((hi-lo).toNat:Nat):Int)-((0:Nat):Int)=ZBX lo hi 1:=by rw[rangeSize_one];split <;> lia
  show V3 _ _ (lo+((0:Nat):Int)*1) ((((hi-lo).toNat:Nat):Int)-((0:Nat):Int)) 1;rw[e1,e2];exact bE _ rfl
 ·have e:b=(s.heap.push { cls:=.type "range",data:=.fields #[.int lo t,.int hi u,.int 1 v] }).objs.size:=by simpa using hb
  subst e;exact I1.jo (ax _) (I1.ak.fresh (ax _))
def Zo4(ta:TA):TI:=λσ H R=>ta σ H λvs H1=>∃j:Int,vs=[.int j] /\ -(2 ^ 62)<=j/\j<2 ^ 62/\R (nR 0 j.toNat) H1
theorem vj{a:Expr}{ta:TA}{p:Pos}(hg:Gl X "range") (hm:X.mg "range" = none) (ha:PA X [a] ta) (hs:starEach [a] X.env=[(false,eval a X.env)]:=by rfl):PI X tg (.Call (.Name "range" p) [a] [] pos) (Zo4 ta):=by
 intro pins s σ H R I h;refine Call_ (lx I hg hm boot_range (Bp (aw (ha pos pins s σ H _ I h) ?_) hs rfl));rintro us s1 ⟨vs,H1,I1,r1,q1⟩;obtain⟨j,e,q1,q2,q⟩:=q1;subst e;cases r1 with
 | cons r rr =>
  cases rr;obtain⟨t,rfl⟩:=r;exact call_range_1 (Zlh I1 (by lia) (by lia) q1 q2 (by simpa using q))
def Zp5(wi:TI)(g:TG)(tb:TS):TS:=λD σ H=>wi σ H λJ H1=>∃W:Nat->Nat->St->Hp->Prop,(∃m,W 0 m σ H1)/\∀i m σ H,W i m σ H ->
 (J.stop i H/\D.nx σ H)\/(J.go i H/\∃N:St->Hp->Prop,(∀ aq H',N aq H'->∃m',m'<m/\W (i+1) m' aq H')/\∀x H',J.fw i H x H'->g x σ H' λbV H2=>tb { D with nx:=N,ct:=N,bk:=D.nx } bV H2)
def CD(fp:List Addr)(h:Heap):List (Addr×Obj):=fp.filterMap λb=>(h.get? b).map λo=>(b,o)
variable{fp:List Addr}
theorem qp{b:Addr}(hb:b∈fp)(e:h.get? b=some o):(b,o)∈CD fp h:=Wk.mpr ⟨b,hb,by rw[e];rfl⟩
theorem Zjz{p:Addr×Obj}(hp:p∈CD fp h):p.1∈fp/\h.get? p.1=some p.2:=by
 obtain⟨b,hb,e⟩:=Wk.mp hp;cases q:h.get? b with
 | none=>rw[q] at e;cases e
 | some o =>
  rw[q] at e;have e':(b,o)=p:=ed e;subst e';exact⟨hb,q⟩
theorem Inv.pinned(I:Inv X pins σ H s)(hf:∀b∈fp,bG X pins H b)(ho:∀b∈fp,∃o,s.heap.get? b=some o/\∀v,o.data ≠ .cell v):Inv X (pins++CD fp s.heap) σ H s :=
 I.EG λp hp=>(aS.mp hp).elim (λz=>I.pin p (a9 _ z)) λz=>by
  obtain⟨hb,e⟩:=Zjz z;obtain⟨f0,f1,f2,_⟩:=hf p.1 hb;obtain⟨o,e',d⟩:=ho p.1 hb;rw[e] at e';cases e';exact⟨e,f0,f1,f2,d⟩
theorem Inv.rM{pl:List (Addr×Obj)}(I:Inv X (pins++pl) σ H s):Inv X pins σ H s:=I.EG λp hp=>I.pin p (a9 _ (cb _ hp))
theorem c7{iter:Expr}{wi:TI}(hp:PassesOwn (model X.prog X.w) X.A X.env X.xe)(hc:X.calm=true)(hi:PI X tg iter wi)(hg:PG X tg g)(hb:dB X body tb)
  (hs:∀x,foldedSetIterable iter X.env x=pure x:=by intro _;rfl):PS X (.For tg iter body [] pos) (Zp5 wi g tb):=by
 intro pins s σ H D I h;refine wpAny_For (aw (hi pins s σ H _ I h) λv s1 h1=>aw h1 λwC s2 h2=>?_) hs;obtain⟨it,fp,tn,J,H2,e,I2,T,dq,f2,W,⟨m0,w0⟩,turn⟩:=h2;subst e;have lP:∀{H':Hp},(∀b∈fp,H' b=none)->∀b∈fp,bG X pins H' b:=λhn b hb=>⟨hn b hb,(f2 b hb).2⟩;refine codeAny_forLoop_any (λn s'=>∃i aq H',Inv X pins aq H' s'/\tn i s'.heap/\(∀b∈fp,H' b=none)/\W i n aq H') ?_ m0 ⟨0,σ,H2,I2,dq,λb hb=>(f2 b hb).1,w0⟩;rintro n s3 ⟨i,aL,H3,I3,mW,Sm,w3⟩;rcases turn i n aL H3 w3 with⟨stop,qn⟩|⟨go,N,hN,step⟩
 ·refine uV hp (aw (T.done X rfl rfl rfl hc i pins s3 aL H3 X.xe I3 (lP Sm) mW stop) ?_);rintro r s4 ⟨hr,I4⟩;subst hr;exact Ge ⟨aL,H3,I4,qn⟩
 ·refine uV hp (aw (T.item X rfl rfl rfl hc i pins s3 aL H3 X.xe I3 (lP Sm) mW go) ?_);rintro r s4 ⟨u,hr,h4⟩;subst hr;refine uV hp (aw h4 ?_);rintro _ s5 ⟨x,H5,I5,r5,y5,pC,tP⟩;have Yl:=I5.pinned (lP tP) (T.obj _ _ pC);refine uV hp (aw (hg _ s5 aL H5 x u _ Yl r5 (step x H5 y5)) ?_);rintro _ s6 ⟨pH,H6,I6,q6⟩;refine uV hp (aw (hb _ s6 pH H6 _ I6 q6) λf s7 q7=>?_);have again:∀{lR:St}{H7:Hp},Inv X (pins++CD fp s5.heap) lR H7 s7->N lR H7->∃m,m<n/\∃i aq H',Inv X pins aq H' s7/\tn i s7.heap/\(∀b∈fp,H' b=none)/\W i m aq H':=λ{lR H7} I7 n7=>by
   obtain⟨m',hm,w7⟩:=hN lR H7 n7;refine⟨m',hm,i+1,lR,H7,I7.rM,T.keep _ _ _ pC λb hb o e=>(I7.pin (b,o) (a9 _ (a9 _ (qp hb e)))).1,λb hb=>?_,w7⟩;obtain⟨o,e,d⟩:=T.obj _ _ pC b hb;exact(I7.pin (b,o) (a9 _ (a9 _ (qp hb e)))).2.1
  cases f with
  | next=>obtain⟨lR,H7,I7,n7⟩:=q7;exact again I7 n7
  | cont=>obtain⟨lR,H7,I7,n7⟩:=q7;exact again I7 n7
  | brk=>obtain⟨lR,H7,I7,q7⟩:=q7;exact⟨lR,H7,I7.rM,q7⟩
  | ret v=>obtain⟨x7,lR,H7,I7,r7,q7⟩:=q7;exact⟨x7,lR,H7,I7.rM,r7,q7⟩
variable{D:Ends}
theorem iG(Pv:Nat->St->Hp->Prop)(h0:Pv 0 σ H)(hl:∀i σ H,i<=xs.length->Pv i σ H->ag K H a xs)
  (hs:∀i x σ H,xs[i]?= some x->Pv i σ H->g x σ H λbV H2=>tb { D with nx:=Pv (i+1),ct:=Pv (i+1),bk:=D.nx } bV H2) (hd:∀ σ H,Pv xs.length σ H->D.nx σ H) :
  ∃W:Nat->Nat->St->Hp->Prop,(∃m,W 0 m σ H)/\∀i m σ H,W i m σ H ->
   ((g8 K a).stop i H/\D.nx σ H)\/((g8 K a).go i H/\∃N:St->Hp->Prop,(∀ aq H',N aq H'->∃m',m'<m/\W (i+1) m' aq H')/\∀x H',(g8 K a).fw i H x H'->g x σ H' λbV H2=>tb { D with nx:=N,ct:=N,bk:=D.nx } bV H2):=by
 refine⟨λi m σ H=>m=xs.length-i/\i<=xs.length/\Pv i σ H,⟨xs.length,by simp,bz _,h0⟩,?_⟩;rintro i m σ H ⟨rfl,hi,p⟩;have q:=hl i σ H hi p;by_cases aB:i<xs.length
 ·refine .inr ⟨⟨xs,xs[i],q,by simp[aB]⟩,Pv (i+1),λaq H' p'=>⟨xs.length-(i+1),by lia,rfl,aB,p'⟩,λx H' y=>?_⟩;obtain⟨e,y⟩:=y;subst e;exact hs i x σ _ (y xs q) p
 ·have e:i=xs.length:=by lia
  subst e;exact .inl ⟨⟨xs,q,ax _⟩,hd σ H p⟩
theorem vw(Pv:Nat->St->Hp->Prop)(h0:Pv 0 σ H)(hl:∀i σ H,i<=xs.length->Pv i σ H->az K H a xs)
  (hs:∀i x σ H,xs[i]?= some x->Pv i σ H->g x σ H λbV H2=>tb { D with nx:=Pv (i+1),ct:=Pv (i+1),bk:=D.nx } bV H2) (hd:∀ σ H,Pv xs.length σ H->D.nx σ H) :
  ∃W:Nat->Nat->St->Hp->Prop,(∃m,W 0 m σ H)/\∀i m σ H,W i m σ H ->
   ((g9 K a).stop i H/\D.nx σ H)\/((g9 K a).go i H/\∃N:St->Hp->Prop,(∀ aq H',N aq H'->∃m',m'<m/\W (i+1) m' aq H')/\∀x H',(g9 K a).fw i H x H'->g x σ H' λbV H2=>tb { D with nx:=N,ct:=N,bk:=D.nx } bV H2):=by
 refine⟨λi m σ H=>m=xs.length-i/\i<=xs.length/\Pv i σ H,⟨xs.length,by simp,bz _,h0⟩,?_⟩;rintro i m σ H ⟨rfl,hi,p⟩;have q:=hl i σ H hi p;by_cases aB:i<xs.length
 ·refine .inr ⟨⟨xs,xs[i],q,by simp[aB]⟩,Pv (i+1),λaq H' p'=>⟨xs.length-(i+1),by lia,rfl,aB,p'⟩,λx H' y=>?_⟩;obtain⟨e,y⟩:=y;subst e;exact hs i x σ _ (y xs q) p
 ·have e:i=xs.length:=by lia
  subst e;exact .inl ⟨⟨xs,q,ax _⟩,hd σ H p⟩
theorem HZ(Pv:Nat->St->Hp->Prop)(h0:Pv 0 σ H)
  (hs:∀i σ H,i<n->Pv i σ H->g (.int (lo+i)) σ H λbV H2=>tb { D with nx:=Pv (i+1),ct:=Pv (i+1),bk:=D.nx } bV H2) (hd:∀ σ H,Pv n σ H->D.nx σ H) :
  ∃W:Nat->Nat->St->Hp->Prop,(∃m,W 0 m σ H)/\∀i m σ H,W i m σ H ->
   ((nR lo n).stop i H/\D.nx σ H)\/((nR lo n).go i H/\∃N:St->Hp->Prop,(∀ aq H',N aq H'->∃m',m'<m/\W (i+1) m' aq H')/\∀x H',(nR lo n).fw i H x H'->g x σ H' λbV H2=>tb { D with nx:=N,ct:=N,bk:=D.nx } bV H2):=by
 refine⟨λi m σ H=>m=n-i/\i<=n/\Pv i σ H,⟨n,by simp,bz _,h0⟩,?_⟩;rintro i m σ H ⟨rfl,hi,p⟩;by_cases aB:i<n
 ·refine .inr ⟨aB,Pv (i+1),λaq H' p'=>⟨n-(i+1),by lia,rfl,aB,p'⟩,λx H' y=>?_⟩;obtain⟨e,y⟩:=y;subst e y;exact hs i σ _ aB p
 ·have e:i=n:=by lia
  subst e;exact .inl ⟨ax _,hd σ H p⟩
abbrev R2:=V->V->Hp->VK->Prop
def bZ(X:Cx)(f:aa->aa->Sem aa)(r:R2):Prop :=
 ∀(pins:List (Addr×Obj))(s:af)(σ : St)(H:Hp)(x y:V)(v u:aa)(Q:VK),Inv X pins σ H s->RelV x v->RelV y u->r x y H Q ->
  wpAny (model X.prog X.w) X.A (f v u) (EP X pins σ Q) X.xe s
def Hc(X:Cx)(f:aa->Sem aa)(r:V->Hp->VK->Prop):Prop :=
 ∀(pins:List (Addr×Obj))(s:af)(σ : St)(H:Hp)(x:V)(v:aa)(Q:VK),Inv X pins σ H s->RelV x v->r x H Q ->
  wpAny (model X.prog X.w) X.A (f v) (EP X pins σ Q) X.xe s
def hX(X:Cx)(f:aa)(r:List V->Hp->VK->Prop):Prop :=
 ∀(pins:List (Addr×Obj))(s:af)(σ : St)(H:Hp)(xs:List V)(us:List aa)(Q:VK),Inv X pins σ H s->Vals xs us->r xs H Q ->
  wpAny (model X.prog X.w) X.A (call f us) (EP X pins σ Q) X.xe s
def ZpU(X:Cx)(r:V->Hp->(Bool->Hp->Prop)->Prop):Prop :=
 ∀(pins:List (Addr×Obj))(s:af)(σ : St)(H:Hp)(x:V)(v:aa)(Q:Bool->Hp->Prop),Inv X pins σ H s->RelV x v->r x H Q ->
  wpAny (model X.prog X.w) X.A (truthy v) (TP X pins σ Q) X.xe s
def ER(r:R2)(ta tb:TE):TE:=λσ H Q=>ta σ H λx H1=>tb σ H1 λy H2=>r x y H2 Q
def Va(r:V->Hp->VK->Prop)(ta:TE):TE:=λσ H Q=>ta σ H λx H1=>r x H1 Q
def rI(C:Int->Int->Prop)(g:Int->Int->V):R2:=λx y H Q=>∃i j,x=.int i/\y=.int j/\C i j/\Q (g i j) H
def uw(g:Int->Int->V):R2:=λx y H Q=>∃i j,x=.int i/\y=.int j/\Q (g i j) H
def rU(g:Int->V):V->Hp->VK->Prop:=λx H Q=>∃i,x=.int i/\Q (g i) H
variable{a:Expr}{tb:TE}
theorem JD(ha:PE X a ta)(hb:PE X b tb){pins:List (Addr×Obj)}{s:af}{σ : St}{H:Hp}{R:V->V->Hp->Prop}(I:Inv X pins σ H s)
  (h:ta σ H λx H1=>tb σ H1 λy H2=>R x y H2) {Q:aa->af->Prop} {f:aa->aa->Sem aa}
  (hf:∀v u s2 x y H2,Inv X pins σ H2 s2->RelV x v->RelV y u->R x y H2->wpAny (model X.prog X.w) X.A (f v u) Q X.xe s2) :
  wpAny (model X.prog X.w) X.A (eval a X.env) (λv aT=>wpAny (model X.prog X.w) X.A (eval b X.env) (λu s₂=>wpAny (model X.prog X.w) X.A (f v u) Q X.xe s₂) X.xe aT) X.xe s:=by
 refine aw (ha pins s σ H _ I h) ?_;rintro v s1 ⟨x,H1,I1,r1,q1⟩;refine aw (hb pins s1 σ H1 _ I1 q1) ?_;rintro u s2 ⟨y,H2,I2,r2,q2⟩;exact hf v u s2 x y H2 I2 r1 r2 q2
variable{r:R2}
theorem Zx{op:Operator}(ho:bZ X (binaryOp op) r)(ha:PE X a ta)(hb:PE X b tb):PE X (.BinOp a op b pos) (ER r ta tb):=by
 intro pins s σ H Q I h;exact wpAny_BinOp (JD ha hb I h λv u s2 x y H2 I2 rx ry q=>ho pins s2 σ H2 x y v u Q I2 rx ry q)
theorem oq{op:UnaryOp}{r:V->Hp->VK->Prop}(ho:Hc X (unaryOp op) r)(ha:PE X a ta):PE X (.UnaryOp op a pos) (Va r ta):=by
 intro pins s σ H Q I h;exact UnaryOp_ (aw (ha pins s σ H _ I h) λv s1 ⟨x,H1,I1,r1,q1⟩=>ho pins s1 σ H1 x v Q I1 r1 q1)
variable{g:Int->Int->Int}{f:aa->aa->Sem aa}
theorem LR{C:Int->Int->Prop}
  (rule:∀(i j:Int)(t u:Tok)(s:af)(Q:aa->af->Prop)(E:aa->af->Prop),C i j->Q (.int (g i j) s.toks) { s with toks:=s.toks+1 }->wpAny (model X.prog X.w) X.A (f (.int i t) (.int j u)) Q E s) :
  bZ X f (rI C λi j=>.int (g i j)):=by
 intro pins s σ H x y v u Q I rx ry h;obtain⟨i,j,rfl,rfl,hc,q⟩:=h;obtain⟨t,rfl⟩:=rx;obtain⟨t',rfl⟩:=ry;exact rule i j t t' s _ _ hc ⟨.int (g i j),H,I.tok _,⟨_,rfl⟩,q⟩
theorem RT
  (rule:∀(i j:Int)(t u:Tok)(s:af)(Q:aa->af->Prop)(E:aa->af->Prop),Q (.int (g i j) s.toks) { s with toks:=s.toks+1 }->wpAny (model X.prog X.w) X.A (f (.int i t) (.int j u)) Q E s) :
  bZ X f (uw λi j=>.int (g i j)):=by
 intro pins s σ H x y v u Q I rx ry h;obtain⟨i,j,rfl,rfl,q⟩:=h;obtain⟨t,rfl⟩:=rx;obtain⟨t',rfl⟩:=ry;exact rule i j t t' s _ _ ⟨.int (g i j),H,I.tok _,⟨_,rfl⟩,q⟩
theorem Jv{g:Int->Int->Bool}
  (rule:∀(i j:Int)(t u:Tok)(s:af)(Q:aa->af->Prop)(E:aa->af->Prop),Q (.bool (g i j)) s->wpAny (model X.prog X.w) X.A (f (.int i t) (.int j u)) Q E s) :
  bZ X f (uw λi j=>.bl (g i j)):=by
 intro pins s σ H x y v u Q I rx ry h;obtain⟨i,j,rfl,rfl,q⟩:=h;obtain⟨t,rfl⟩:=rx;obtain⟨t',rfl⟩:=ry;exact rule i j t t' s _ _ ⟨.bl (g i j),H,I,rfl,q⟩
def Zp3(i j:Int):Prop:=0<j/\j<1073741824
def Ju(i j:Int):Prop:=(-(2 ^ 64)<i/\i<2 ^ 64)\/(-(2 ^ 64)<j/\j<2 ^ 64)
variable{i j:Int}
theorem Ju.ok(h:Ju i j):IntMulOk i j:=by
 rcases h with⟨h1,h2⟩|⟨h1,h2⟩
 ·exact .of_left (XY h1 h2)
 ·exact .of_right (XY h1 h2)
theorem gc:bZ X (binaryOp .Add) (uw λi j=>.int (i+j)):=RT λ_ _ _ _ _ _ _ q=>add_int q
theorem Jp:bZ X (binaryOp .Sub) (uw λi j=>.int (i-j)):=RT λ_ _ _ _ _ _ _ q=>sub_int q
theorem oj:bZ X (binaryOp .Mult) (rI Ju λi j=>.int (i*j)):=LR λ_ _ _ _ _ _ _ hc q=>mul_int q hc.ok
theorem sU:bZ X (binaryOp .FloorDiv) (rI Zp3 λi j=>.int (i / j)):=LR λi j _ _ _ _ _ hc q=>by
 have h1:(0:Int)<j:=hc.1;have h2:j<1073741824:=hc.2;exact floordiv_int (by lia) (by rw[Int.fdiv_eq_ediv_of_nonneg i (by lia)];exact q) (.inl (PyProof.noPylong_small (by lia)))
theorem eG:bZ X (binaryOp .Mod) (rI (λ_ j=>0<j) λi j=>.int (i % j)):=LR λi j _ _ _ _ _ hc q=>by
 have h1:(0:Int)<j:=hc;exact mod_int' (by lia) (by rw[Int.fmod_eq_emod_of_nonneg i (by lia)];exact q)
theorem unI{f:aa->Sem aa}{g:Int->Int}
  (rule:∀(i:Int)(t:Tok)(s:af)(Q:aa->af->Prop)(E:aa->af->Prop),Q (.int (g i) s.toks) { s with toks:=s.toks+1 }->wpAny (model X.prog X.w) X.A (f (.int i t)) Q E s) :
  Hc X f (rU λi=>.int (g i)):=by
 intro pins s σ H x v Q I rx h;obtain⟨i,rfl,q⟩:=h;obtain⟨t,rfl⟩:=rx;exact rule i t s _ _ ⟨.int (g i),H,I.tok _,⟨_,rfl⟩,q⟩
theorem oh:Hc X (unaryOp .USub) (rU λi=>.int (-i)):=unI λ_ _ _ _ _ q=>neg_int q
def Jw:V->V->Bool
 | .aD,.aD=>true | .aD,.int _=>true | .int _,.aD=>true | .aD,.bl _=>true | .bl _,.aD=>true | .aD,.str _=>true | .str _,.aD=>true
 | .int _,.int _=>true | .bl _,.bl _=>true | .str _,.str _=>true | .iK _,.iK _=>true
 | .int _,.str _=>true | .str _,.int _=>true | .bl _,.str _=>true | .str _,.bl _=>true
 | _,_=>false
def U3:R2:=λx y H Q=>Jw x y=true/\Q (.bl (decide (x=y))) H
def rNe:R2:=λx y H Q=>Jw x y=true/\Q (.bl (!decide (x=y))) H
theorem Qj:decide (V.int i=V.int j)=(i == j):=by
 rw[mY];simp
theorem Rw{i j:Bool}:decide (V.bl i=V.bl j)=(i == j):=by
 rw[mY];simp
theorem QA{i j:Str}:decide (V.str i=V.str j)=(i == j):=by
 rw[mY];simp
theorem Qs{i j:Array UInt8}:decide (V.iK i=V.iK j)=(i.toList == j.toList):=by
 rw[mY];cases i;cases j;simp
theorem Z4{Q:VK}{k k':Bool}(I:Inv X pins σ H s)(q:Q (.bl k) H)(e:k=k'):EP X pins σ Q (.bool k') s:=by
 subst e;exact⟨.bl k,H,I,rfl,q⟩
theorem j9:bZ X (compareOp .Eq) U3:=by
 intro pins s σ H x y v u Q I rx ry h;obtain⟨hs,q⟩:=h;cases x with
 | aD =>
  cases rx;cases y with
  | aD=>cases ry;exact ZCu (Z4 I q (by simp))
  | bl j=>cases ry;exact ZCs (Z4 I q (by simp))
  | int j=>obtain⟨t',rfl⟩:=ry;exact ZCt (Z4 I q (by simp))
  | str j=>obtain⟨t',rfl⟩:=ry;exact ZCv (Z4 I q (by simp))
  | _=>exact absurd (show false=true from hs) cS
 | bl i =>
  cases rx;cases y with
  | aD=>cases ry;exact ZCq (Z4 I q (by simp))
  | bl j=>cases ry;exact eq_bool (Z4 I q Rw)
  | str j=>obtain⟨t',rfl⟩:=ry;exact ZCi (Z4 I q (by simp))
  | _=>exact absurd (show false=true from hs) cS
 | int i =>
  obtain⟨t,rfl⟩:=rx;cases y with
  | aD=>cases ry;exact ZCr (Z4 I q (by simp))
  | int j=>obtain⟨t',rfl⟩:=ry;exact eq_int (Z4 I q Qj)
  | str j=>obtain⟨t',rfl⟩:=ry;exact ZCj (Z4 I q (by simp))
  | _=>exact absurd (show false=true from hs) cS
 | str i =>
  obtain⟨t,rfl⟩:=rx;cases y with
  | aD=>cases ry;exact ZCw (Z4 I q (by simp))
  | bl j=>cases ry;exact ZCk (Z4 I q (by simp))
  | int j=>obtain⟨t',rfl⟩:=ry;exact ZCl (Z4 I q (by simp))
  | str j=>obtain⟨t',rfl⟩:=ry;exact eq_str (Z4 I q QA)
  | _=>exact absurd (show false=true from hs) cS
 | iK i =>
  obtain⟨t,rfl⟩:=rx;cases y with
  | iK j=>obtain⟨t',rfl⟩:=ry;exact PySem.W.eq_bytes (Z4 I q Qs)
  | _=>exact absurd (show false=true from hs) cS
 | _=>cases y <;> exact absurd (show false=true from hs) cS
theorem Jt:bZ X (compareOp .NotEq) rNe:=by
 intro pins s σ H x y v u Q I rx ry h;obtain⟨hs,q⟩:=h;cases x with
 | aD =>
  cases rx;cases y with
  | aD=>cases ry;exact ZCB (Z4 I q (by simp))
  | bl j=>cases ry;exact ZCz (Z4 I q (by simp))
  | int j=>obtain⟨t',rfl⟩:=ry;exact ZCA (Z4 I q (by simp))
  | str j=>obtain⟨t',rfl⟩:=ry;exact ZCC (Z4 I q (by simp))
  | _=>exact absurd (show false=true from hs) cS
 | bl i =>
  cases rx;cases y with
  | aD=>cases ry;exact ZCx (Z4 I q (by simp))
  | bl j=>cases ry;exact ne_bool (Z4 I q (congrArg not Rw))
  | str j=>obtain⟨t',rfl⟩:=ry;exact ZCm (Z4 I q (by simp))
  | _=>exact absurd (show false=true from hs) cS
 | int i =>
  obtain⟨t,rfl⟩:=rx;cases y with
  | aD=>cases ry;exact ZCy (Z4 I q (by simp))
  | int j=>obtain⟨t',rfl⟩:=ry;exact ne_int (Z4 I q (congrArg not Qj))
  | str j=>obtain⟨t',rfl⟩:=ry;exact ZCn (Z4 I q (by simp))
  | _=>exact absurd (show false=true from hs) cS
 | str i =>
  obtain⟨t,rfl⟩:=rx;cases y with
  | aD=>cases ry;exact ZCD (Z4 I q (by simp))
  | bl j=>cases ry;exact ZCo (Z4 I q (by simp))
  | int j=>obtain⟨t',rfl⟩:=ry;exact ZCp (Z4 I q (by simp))
  | str j=>obtain⟨t',rfl⟩:=ry;exact ne_str (Z4 I q (congrArg not QA))
  | _=>exact absurd (show false=true from hs) cS
 | iK i =>
  obtain⟨t,rfl⟩:=rx;cases y with
  | iK j=>obtain⟨t',rfl⟩:=ry;exact PySem.W.ne_bytes (Z4 I q (congrArg not Qs))
  | _=>exact absurd (show false=true from hs) cS
 | _=>cases y <;> exact absurd (show false=true from hs) cS
theorem CQ:bZ X (compareOp .Lt) (uw λi j=>.bl (decide (i<j))):=Jv λ_ _ _ _ _ _ _ q=>lt_int q
theorem RD:bZ X (compareOp .LtE) (uw λi j=>.bl (decide (i<=j))):=Jv λ_ _ _ _ _ _ _ q=>le_int q
theorem RA:bZ X (compareOp .Gt) (uw λi j=>.bl (decide (j<i))):=Jv λ_ _ _ _ _ _ _ q=>gt_int q
theorem tm:bZ X (compareOp .Is) (λx y H Q=>y=.aD/\Q (.bl (decide (x=.aD))) H):=by
 intro pins s σ H x y v u Q I rx ry h;obtain⟨rfl,q⟩:=h;cases ry;refine is_none_gen (Z4 I q ?_);cases x <;> first
  | (cases rx;rfl)
  | (obtain⟨t,rfl⟩:=rx;rfl)
theorem Cv:bZ X (compareOp .IsNot) (λx y H Q=>y=.aD/\Q (.bl (!decide (x=.aD))) H):=by
 intro pins s σ H x y v u Q I rx ry h;obtain⟨rfl,q⟩:=h;cases ry;refine isnot_none_gen (Z4 I q ?_);cases x <;> first
  | (cases rx;rfl)
  | (obtain⟨t,rfl⟩:=rx;rfl)
theorem bZ.or{r':R2}(h:bZ X f r)(h':bZ X f r'):bZ X f (λx y H Q=>r x y H Q\/r' x y H Q):=by
 intro pins s σ H x y v u Q I rx ry q;rcases q with q|q
 ·exact h pins s σ H x y v u Q I rx ry q
 ·exact h' pins s σ H x y v u Q I rx ry q
theorem ZK(b:Expr){op:xp}(h:op ≠ .In:=by decide)(h2:op ≠ .NotIn:=by decide):behindInMarks op b=false:=by
 have e1:(op == xp.In)=false:=by cases op <;> first|rfl|exact absurd rfl h
 have e2:(op == xp.NotIn)=false:=by cases op <;> first|rfl|exact absurd rfl h2
 cases b <;> simp[behindInMarks,e1,e2]
theorem mx(ho:bZ X (compareOp op) r)(ha:PE X a ta)(hb:PE X b tb)(hm:behindInMarks op b=false):PE X (.Compare a [op] [b] pos) (ER r ta tb):=by
 intro pins s σ H Q I h;exact X8 (JD ha hb I h λv u s2 x y H2 I2 rx ry q=>ho pins s2 σ H2 x y v u Q I2 rx ry q) hm
def Zpn(t:TE):TT:=λσ H Q=>t σ H λx H'=>∃k,x=.bl k/\Q k H'
theorem Zy(ho:bZ X (compareOp op) r)(ha:PE X a ta)(hb:PE X b tb)(hm:behindInMarks op b=false):PT X (.Compare a [op] [b] pos) (Zpn (ER r ta tb)):=by
 intro pins s σ H Q I h;refine Yb (aw (ha pins s σ H _ I h) λv s1 ⟨x,H1,I1,r1,q1⟩=>aw (hb pins s1 σ H1 _ I1 q1) λu s2 ⟨y,H2,I2,r2,q2⟩ =>
  aw (ho pins s2 σ H2 x y v u _ I2 r1 r2 q2) λc s3 ⟨z,H3,I3,r3,k,e,q3⟩=>?_) hm
 subst e;cases r3;exact yc ⟨H3,I3,q3⟩
def CZ(K:au)(x:V)(H:Hp)(k:Bool):Prop :=
 match x with
 | .aD=>k=false
 | .bl b=>k=b
 | .int i=>k=(i != 0)
 | .str y=>y.length<=sizeLine/\k=((y.length:Int) != 0)
 | .iK y=>y.size<=sizeLine/\k=((y.size:Int) != 0)
 | .ref p=>(∃xs,ag K H p xs/\k= !xs.isEmpty)\/(∃xs,az K H p xs/\k= !xs.isEmpty)\/∃ab,H p=some (.dK ab)/\k= !ab.isEmpty
 | _=>False
theorem Zij{κ : Type}{ab:List (κ × V)}{vs:List (κ × aa)}(r:KV ab vs):(!vs.isEmpty)= !ab.isEmpty:=by
 cases r <;> rfl
theorem Oy{its:List aa}(r:Vals xs its):(!its.toArray.isEmpty)= !xs.isEmpty:=by
 cases r <;> simp
theorem vB:(sizeLine:Nat)<2 ^ 63:=by rw[bB];decide
theorem Rk:ZpU X (λx H Q=>∃k,CZ X.K x H k/\Q k H):=by
 intro pins s σ H x v Q I rx h;obtain⟨k,e,q⟩:=h;have hl:=vB;have hs:sizeLine=16777216:=bB;cases x with
 | aD =>
  cases rx;have e':k=false:=e;subst e';exact truthy_none ⟨H,I,q⟩
 | bl b =>
  cases rx;have e':k=b:=e;subst e';exact yc ⟨H,I,q⟩
 | int i =>
  obtain⟨t,rfl⟩:=rx;have e':k=(i != 0):=e;subst e';exact PySem.P.truthy_int ⟨H,I,q⟩
 | str y =>
  obtain⟨t,rfl⟩:=rx;obtain⟨hy,e'⟩:y.length<=sizeLine/\k=((y.length:Int) != 0):=e;subst e';exact PySem.P.truthy_str (by lia) ⟨H,I.tok _,q⟩
 | iK y =>
  obtain⟨t,rfl⟩:=rx;obtain⟨hy,e'⟩:y.size<=sizeLine/\k=((y.size:Int) != 0):=e;subst e';exact PySem.W.truthy_bytes (by lia) ⟨H,I.tok _,q⟩
 | ref p =>
  cases rx;have e':(∃xs,ag X.K H p xs/\k= !xs.isEmpty)\/(∃xs,az X.K H p xs/\k= !xs.isEmpty)\/∃ab,H p=some (.dK ab)/\k= !ab.isEmpty:=e;rcases e' with⟨xs,hx,e'⟩|⟨xs,hx,e'⟩|⟨ab,hx,e'⟩
  ·subst e';obtain⟨its,r,pl,hz⟩:=I.list hx;have hlen:=r.length;exact wpAny_truthy_list pl.isList (by simp only[bp];lia) ⟨H,I.tok _,by rw[Oy r];exact q⟩
  ·subst e';obtain⟨its,r,pl,hz⟩:=I.tuple hx;have hlen:=r.length;exact truthy_tuple pl (by simp only[bp];lia) ⟨H,I.tok _,by rw[Oy r];exact q⟩
  ·subst e';obtain⟨hz,hS,vs,r,m⟩:ab.length<=sizeLine/\(p == sysModules)=false/\∃vs,KV ab vs/\s.heap.DictOf (ZF X.prog X.w) p vs:=I.ak p _ hx;have hlen:ab.length=vs.length:=cw r;exact wpAny_truthy_dict hS m (by lia) ⟨H,I.tok _,by rw[Zij r];exact q⟩
 | _=>exact(show False from e).elim
theorem iH(ha:PE X a ta)(he:∀whole,isTrue a X.env whole=(do let v <- whole;standAt a.pos;holding [v] (truthy v))) :
  PT X a (λσ H Q=>ta σ H λx H'=>∃k,CZ X.K x H' k/\Q k H'):=by
 intro pins s σ H Q I h;exact isTrue_plain (aw (ha pins s σ H _ I h) λv s1 ⟨x,H1,I1,r1,q1⟩=>Rk pins s1 σ H1 x v Q I1 r1 q1) (he _)
theorem HB:bZ X (binaryOp .Add) (λx y H Q=>∃i j,x=.str i/\y=.str j/\i.length+j.length<=sizeLine/\Q (.str (i++j)) H):=by
 intro pins s σ H x y v u Q I rx ry h;obtain⟨i,j,rfl,rfl,hz,q⟩:=h;obtain⟨t,rfl⟩:=rx;obtain⟨t',rfl⟩:=ry;exact add_str (λt' tk=>⟨.str (i++j),H,I.tok _,⟨_,rfl⟩,q⟩) hz
variable{us:List aa}
theorem vals1{x:V}(r:Vals [x] us):∃u,us=[u]/\RelV x u:=by
 cases r with
 | cons r1 r2=>cases r2;exact⟨_,rfl,r1⟩
theorem vals2{x y:V}(r:Vals [x,y] us):∃u w',us=[u,w']/\RelV x u/\RelV y w':=by
 cases r with
 | cons r1 r2 =>
  cases r2 with
  | cons r3 r4=>cases r4;exact⟨_,_,rfl,r1,r3⟩
theorem ZjM(hc:X.calm=true):hX X (.builtin "max") (λxs H Q=>∃i j,xs=[.int i,.int j]/\Q (.int (if j > i then j else i)) H):=by
 intro pins s σ H xs us Q I r h;obtain⟨i,j,rfl,q⟩:=h;obtain⟨u,w',rfl,⟨t,rfl⟩,⟨t',rfl⟩⟩:=vals2 r;refine max_two_ints (I.ok.hd hc) λh' tk k=>⟨_,H,I.kept k,?_,q⟩;by_cases hj:j > i
 ·rw[aj hj,aj hj];exact⟨_,rfl⟩
 ·rw[ah hj,ah hj];exact⟨_,rfl⟩
structure sM(h:Heap)(x dx C:Addr)(mA:Str->Option aa):Prop where
 obj:h.get? x=some (se C dx)
 ns:h.Ns1 dx mA
 ne:dx≠x
variable{dx:Addr}{mA:Str->Option aa}
theorem Zj4(n:h.Ns1 dx mA):∃od,h.get? dx=some od/\∀name,FL name od=some (mA name):=by
 obtain⟨o,es,ep,ho,hd,hk,_,hm⟩:=n;refine⟨o,ho,λname=>?_⟩;have e:=hm name;unfold nsFind findBy at e;rw[<- Array.find?_toList] at e;unfold FL;rw[hd];dsimp only
 split
 ·rename_i y q
  rw[q] at e;exact congrArg some e
 ·rename_i q
  rw[q] at e;have a:es.toList.any (·.refKey)=false:=by
   rw[List.any_eq_false];intro y hy;obtain⟨z,t,z7⟩:=hk y (Vq.mp hy);simp[jO.refKey,z7]
  have a' : ¬ es.toList.any (·.refKey)=true:=by rw[a];exact cS
  rw[ah a'];exact congrArg some e
variable{x C:Addr}
theorem sM.look(I:sM h x dx C mA):∃od,PySem.W.InstAt h x (se C dx) C (some od)/\∀name,FL name od=some (mA name) :=
 let ⟨od,ho,hl⟩:=Zj4 I.ns
 ⟨od,⟨I.obj,rfl,rfl,ho⟩,hl⟩
variable{v:aa}{prog:aC}{name:Str}
theorem Zng{expr:Bool}(X:K.In s.heap)(I:sM s.heap x dx C mA)(hg:FN K C name=true)(hh:M' K C=true)
  (ha:nF K (.ref C) name=some none) (hv:mA name=some v) (nK:Xg v=true) (h:Q v { s with toks:=s.toks+1 }) :
  wpAny (model prog w) A (getAttr (.ref x) name expr) Q E s:=by
 obtain⟨od,J,hl⟩:=I.look;exact PySem.W.get_value X J (Nb hg).1 (PySem.W.findObj_own hh ha rfl (by rw[hl,hv])) nK h
variable{f:Addr}
theorem Zlw{pl:Sem Bool}{Q:aa×List aa->af->Prop}(X:K.In s.heap)(I:sM s.heap x dx C mA)(hg:FN K C name=true)
  (hf:nF K (.ref C) name=some (some (.ref f))) (ht:M_ K (.ref f)=true) (hv:mA name=none) (h:Q (.ref f,[.ref x]) s) :
  wpAny (model prog w) A (getMethod (.ref x) name pl) Q E s:=by
 obtain⟨od,J,hl⟩:=I.look;exact PySem.W.method_fn X J (Nb hg).1 (Nb hg).2 hf (pZ.mp ht) (by show(FL name od).map (·.isSome)=some false;rw[hl,hv];rfl) h
theorem Zna{ns:List Str}{Q:Unit->af->Prop}(X:K.In s.heap)(I:sM s.heap x dx C mA)
  (hs:nF K (.ref C) "__setattr__" = some (some (.builtin "object.__setattr__"))) (hp:Xm K C=true) (ht:Nc K C name=some none) (hh:M' K C=true)
  (hw:Nd mA ns) (hsz:ns.length<=sizeLine)
  (h:∀h',sM h' x dx C (λy=>if y=name then some v else mA y)->fz dx s.heap h'->Q () { s with heap:=h',toks:=s.toks+2 }) :
  wpAny (model prog w) A (setAttr (.ref x) name v) Q E s:=by
 obtain⟨od,J,hl⟩:=I.look;refine PySem.W.set_plain X J hs (PySem.W.osa_open (s:={ s with toks:=s.toks+1 }) (r:=none) X J hp ht λb=>?_);obtain⟨cd,hc,i9⟩:=PySem.W.any_some hh;have hx:s.heap.get? x=some ⟨.ref C,some dx,.plain,#[]⟩:=I.obj;refine ae (ai (ae (ae (wpAny_loadPart hx (ae (ZCL (s:={ s with toks:=s.toks+1 }) (PySem.W.looks_clsIn X hc) ?_))))));rw[i9];refine ai (a:=some dx) (ae (ai (ae ?_)));refine wpAny_nsSet1 (s:={ s with toks:=s.toks+1 }) I.ns λh' DU gr=>?_;obtain⟨oD,esD,epD,hoD,hdD,hcD⟩:=DU.count (ZCM name v hw);refine ae (wpAny_lookBehind hoD (by rw[hdD];exact pastItsLine_dict (cm hcD (by rw[bI];lia))) ?_);exact ai (h _ ⟨(gr.2 _ (gS I.ne)).trans I.obj,DU,I.ne⟩ gr)
variable{kw:List (Str×aa)}
theorem Zk8{R:pX->af->Prop}{vs:List aa}(X:K.In s.heap)(hm:Xk K C=true)
  (hi:nF K (.ref C) "__init__" = some (some (.ref f))) (hf:PySem.W.typeIn K (.ref f)=some (.type "function"))
  (h:codeAny (model prog w) (A.under (.builtin "type.__call__" ⟨.ref C::vs,kw⟩)) (.call (.ref f) ⟨.ref (s.heap.objs.size+1)::vs,kw⟩) (PySem.W.InitBack (s.heap.objs.size+1) R)
   { s with heap:=(s.heap.push pW).push (se C s.heap.objs.size) }) :
  codeAny (model prog w) A (.call (.ref C) ⟨vs,kw⟩) R s:=by
 obtain⟨hh,g,d,t,os⟩:=s;exact PySem.W.make_core (PySem.W.makes_of X hm) (PySem.W.looks_findIn X hi) (λself=>PySem.W.bind_fn X self hf) (.inl rfl) h
def cD(f:Str)(v:V):List (Str×V)->List (Str×V)
 | []=>[(f,v)]
 | (g,x)::r=>if g=f then(g,v)::r else(g,x)::cD f v r
theorem OE(f g:Str)(v:V):∀fs:List (Str×V),(cD f v fs).lookup g=if g=f then some v else fs.lookup g
 | []=>by
  show uL g [(f,v)]=_;by_cases h:g=f
  ·have hb:(g == f)=true:=pZ.mpr h;simp only[uL,hb,aj h]
  ·have hb:(g == f)=false:=nG.mpr h;simp only[uL,hb,ah h]
 | (k,x)::r=>by
  have ih:=OE f g v r;rw[show cD f v ((k,x)::r)=(if k=f then(k,v)::r else(k,x)::cD f v r) from rfl]
  by_cases hk:k=f
  ·rw[aj hk];by_cases h:g=k
   ·have hb:(g == k)=true:=pZ.mpr h;simp only[uL,hb,aj (h.trans hk)]
   ·have hb:(g == k)=false:=nG.mpr h;simp only[uL,hb,ah (λe:g=f=>h (e.trans hk.symm))]
  ·rw[ah hk];by_cases h:g=k
   ·have hb:(g == k)=true:=pZ.mpr h;simp only[uL,hb,ah (λe:g=f=>hk (h.symm.trans e))]
   ·have hb:(g == k)=false:=nG.mpr h;simp only[uL,hb];exact ih
theorem HU(f:Str)(v:V):∀fs:List (Str×V),f∈(cD f v fs).map (·.1)/\∀g,g∈fs.map (·.1)->g∈(cD f v fs).map (·.1)
 | []=>⟨by simp[cD],λg h=>by simp at h⟩
 | (k,x)::r=>by
  obtain⟨i1,i2⟩:=HU f v r;rw[show cD f v ((k,x)::r)=(if k=f then(k,v)::r else(k,x)::cD f v r) from rfl]
  by_cases hk:k=f
  ·rw[aj hk];subst hk;exact⟨by simp,λg h=>by simpa using h⟩
  ·rw[ah hk];refine⟨?_,λg h=>?_⟩
   ·rw[ck];exact bM _ i1
   ·rw[ck] at h ⊢;rcases aV.mp h with e|e
    ·exact aV.mpr (.inl e)
    ·exact bM _ (i2 g e)
theorem Ol(f:Str)(v:V):∀fs:List (Str×V),(cD f v fs).length<=fs.length+1
 | []=>by simp[cD]
 | (k,x)::r=>by
  have ih:=Ol f v r;rw[show cD f v ((k,x)::r)=(if k=f then(k,v)::r else(k,x)::cD f v r) from rfl]
  by_cases hk:k=f
  ·rw[aj hk,bI,bI];lia
  ·rw[ah hk,bI,bI];lia
variable{o:Option aa}
theorem fT.some_of{v:V}(r:fT (some v) o):∃u,o=some u/\RelV v u:=by
 cases o with
 | none=>exact(show False from r).elim
 | some u=>exact⟨u,rfl,r⟩
theorem fT.none_of(r:fT none o):o=none:=by
 cases o with
 | none=>rfl
 | some u=>exact(show False from r).elim
theorem Zka{v:V}(r:RelV v u):Xg u=true:=by
 cases v with
 | aD=>cases (show u=bg from r);rfl
 | bl b=>cases (show u=jU b from r);rfl
 | int i=>obtain⟨t,e⟩:=(show ∃t,u=iZ i t from r);cases e;rfl
 | str x=>obtain⟨t,e⟩:=(show ∃t,u=gE x t from r);cases e;rfl
 | iK b=>obtain⟨t,e⟩:=(show ∃t,u=Xx b t from r);cases e;rfl
 | tO b=>obtain⟨t,e⟩:=(show ∃t,u=Nl b t from r);cases e;rfl
 | ref a=>cases (show u=aO a from r);rfl
 | ty n=>cases (show u=dy n from r);rfl
section
variable{P:aC}{w:ay}{H H':Hp}{h h':Heap}{a C dx:Addr}{fs Yq:List (Str×V)}
theorem Cp(ak:bJ P w H h)(e:H a=some (.ins C dx fs)):∃mA,sM h a dx C mA/\(∀f,fT (fs.lookup f) (mA f))/\Nd mA (fs.map (·.1))/\fs.length<=1000/\H dx=some (.own a):=by
 obtain⟨d,z,ne,ob,mA,n,r,q⟩:=(show Z7 P w H h a (.ins C dx fs) from ak a _ e);exact⟨mA,⟨ob,n,ne⟩,r,q,z,d⟩
end
structure jc(K:au)(C:Addr):Prop where
 pg:FN K C FV=true
 hd:M' K C=true
 po:Xm K C=true
 sa:nF K (.ref C) "__setattr__" = some (some (.builtin "object.__setattr__"))
theorem jc.get(c:jc K C)(f:Str):FN K C f=true:=c.pg
def lq(K:au)(C:Addr)(f:Str):Prop:=nF K (.ref C) f=some none
variable{f:Str}
theorem lq.ZBa(n:lq K C f):Nc K C f=some none:=by
 unfold Nc;rw[show nF K (.ref C) f=some none from n];rfl
structure Meth(K:au)(C:Addr)(m:Str)(f:Addr):Prop where
 at_:nF K (.ref C) m=some (some (.ref f))
 fn:M_ K (.ref f)=true
 kp:xO K (.ref f)=true
section
variable{X:Cx}{pins:List (Addr×Obj)}{σ : St}{H:Hp}{s:af}{a C dx:Addr}{fs:List (Str×V)}{f:Str}{v:V}{A:aI}{E:aa->af->Prop}
variable{Q:aa->af->Prop}
theorem Zil{b:Bool}(I:Inv X pins σ H s)(e:H a=some (.ins C dx fs))(c:jc X.K C)(n:lq X.K C f)(l:fs.lookup f=some v)
  (h:∀u s',Inv X pins σ H s'->RelV v u->Q u s'):wpAny (model X.prog X.w) A (getAttr (.ref a) f b) Q E s:=by
 obtain⟨mA,O,r,_,_,_⟩:=Cp I.ak e;obtain⟨u,hu,ru⟩:=fT.some_of (v:=v) (o:=mA f) (by rw[<- l];exact r f);exact Zng I.dD O (c.get f) c.hd n hu (Zka ru) (h u _ (I.tok _) ru)
theorem Ot{m:Str}{g:Addr}{pl:Sem Bool}{Q:aa×List aa->af->Prop}(I:Inv X pins σ H s)(e:H a=some (.ins C dx fs))(c:jc X.K C)(k:Meth X.K C m g)(l:fs.lookup m=none)
  (h:Q (.ref g,[.ref a]) s):wpAny (model X.prog X.w) A (getMethod (.ref a) m pl) Q E s:=by
 obtain⟨mA,O,r,_,_,_⟩:=Cp I.ak e;have hn:mA m=none:=fT.none_of (by rw[<- l];exact r m);exact Zlw I.dD O (c.get m) k.at_ k.fn hn h
theorem Zio{y:V}{u:aa}{Q:Unit->af->Prop}(I:Inv X pins σ H s)(e:H a=some (.ins C dx fs))(c:jc X.K C)(n:lq X.K C f)(hl:fs.length<1000)(ry:RelV y u)
  (h:∀s',Inv X pins σ (upd H a (.ins C dx (cD f y fs))) s'->Q () s'):wpAny (model X.prog X.w) A (setAttr (.ref a) f u) Q E s:=by
 obtain⟨mA,O,r,wi,_,ho⟩:=Cp I.ak e;have hz:(fs.map (·.1)).length<=sizeLine:=by rw[ar,bB];lia
 refine Zna I.dD O c.sa c.po n.ZBa c.hd wi hz λh' O' sb=>h _ ?_;have hd:∃o,h'.get? dx=some o:=let ⟨o,_,_,e',_⟩:=O'.ns;⟨o,e'⟩;refine I.write (x:=a) (e:=dx) (by rw[e];exact kT) (.inr ho) (λb q hb z=>(sb.2 b hb).trans z) hd ?_;refine⟨by rw[Zc O.ne];exact ho,?_,O.ne,O'.obj,_,O'.ns,λg=>?_,λg hg=>?_⟩
 ·have:=Ol f y fs;lia
 ·show fT ((cD f y fs).lookup g) (if g=f then some u else mA g)
  rw[OE];by_cases q:g=f
  ·rw[aj q,aj q];exact ry
  ·rw[ah q,ah q];exact r g
 ·by_cases q:g=f
  ·rw[q];exact(HU f y fs).1
  ·refine(HU f y fs).2 g (wi g λz=>hg ?_);show(if g=f then some u else mA g)=none
   rw[ah q];exact z
theorem Inv.made(I:Inv X pins σ H s):Inv X pins σ (upd (upd H s.heap.objs.size (.own (s.heap.objs.size+1))) (s.heap.objs.size+1) (.ins C s.heap.objs.size []))
  { s with heap:=(s.heap.push pW).push (se C s.heap.objs.size) }:=by
 have e1:(s.heap.push pW).get? s.heap.objs.size=some pW:=bE s.heap rfl;have e2:((s.heap.push pW).push (se C s.heap.objs.size)).get? (s.heap.objs.size+1)=some (se C s.heap.objs.size):=by
  have:=bE (s.heap.push pW) (o:=se C s.heap.objs.size) rfl
  rwa [iX] at this
 have e3:(s.heap.push pW).Ns s.heap.objs.size (λ_=>none):=⟨pW,#[],_,e1,rfl,(λe he=>absurd he (by simp)),λ_=>rfl⟩;have I1:=I.laid (a:=s.heap.objs.size) (o:=.own (s.heap.objs.size+1)) (h':=s.heap.push pW) (t':=s.toks) (λb u q=>aG _ q) (ax _) ⟨_,e1⟩;refine I1.laid (a:=s.heap.objs.size+1) (o:=.ins C s.heap.objs.size []) (t':=s.toks) (λb u q=>aG _ q) (Bm (iX _ _)) ?_;have ne:s.heap.objs.size≠s.heap.objs.size+1:=bc (pT _);refine⟨by rw[Zc ne,Za],bz _,ne,e2,λ_=>none,(Heap.Ns1.of_empty e3).at λo q=>aG _ q,λ_=>kT,λy hy=>absurd rfl hy⟩
theorem ZnB{prog:aC}{w:ay}{env:Env}{e:Expr}{f:Str}{pos:Pos}{s:af}(hb:attributeBase e f env (eval e env)=eval e env)
  (h:wpAny (model prog w) A (eval e env) (λo aT=>wpAny (model prog w) A (getAttr o f true) Q E aT) E s):wpAny (model prog w) A (eval (.Attribute e f pos) env) Q E s :=
 Attribute_any_ h (by rw[arm_eval_Attribute,hb])
end
def RV(K:au)(ta:TE)(f:Str):TE:=λσ H Q=>ta σ H λx H1=>∃a C dx fs v,x=.ref a/\H1 a=some (.ins C dx fs)/\jc K C/\lq K C f/\fs.lookup f=some v/\Q v H1
def ZpY(K:au)(ta tv:TE)(f:Str):TS:=λD σ H=>tv σ H λy H1=>ta σ H1 λx H2=>∃a C dx fs,x=.ref a/\H2 a=some (.ins C dx fs)/\jc K C/\lq K C f/\fs.length<1000 /\
 D.nx σ (upd H2 a (.ins C dx (cD f y fs)))
theorem dR(he:PE X e ta)(hb:attributeBase e f X.env (eval e X.env)=eval e X.env):PE X (.Attribute e f pos) (RV X.K ta f):=by
 intro pins s σ H Q I h;refine ZnB hb (aw (he pins s σ H _ I h) ?_);rintro u s1 ⟨x,H1,I1,rx,a,C,dx,fs,v,ex,ea,c,n,l,q⟩;subst ex;obtain rfl:u=aO a:=rx;exact Zil I1 ea c n l λu' s2 I2 ru=>⟨v,H1,I2,ru,q⟩
variable{o value:Expr}{tv:TE}
theorem y_(ha:PE X o ta)(hv:PE X value tv)(hs:swapsWith value (some (.Attribute o f pos')) pos.line X.env=pure false):PS X (.Assign [.Attribute o f pos'] value pos) (ZpY X.K ta tv f):=by
 intro pins s σ H D I h;refine plainObj_wpAny_Assign_Attribute (aw (hv pins s σ H _ I h) ?_) hs;rintro u s1 ⟨y,H1,I1,ry,q⟩;refine aw (ha pins s1 σ H1 _ I1 q) ?_;rintro ov s2 ⟨x,H2,I2,rx,a,C,dx,fs,ex,ea,c,n,l,q2⟩;subst ex;obtain rfl:ov=aO a:=rx;exact Zio I2 ea c n l ry λs3 I3=>⟨σ,_,I3,q2⟩
inductive jg(K:au)(H:Hp):V->aa->Prop where
 | aD:jg K H .aD (.type "NoneType")
 | bl (x:Bool):jg K H (.bl x) (.type "bool")
 | int (i:Int):jg K H (.int i) (.type "int")
 | str (x:Str):jg K H (.str x) (.type "str")
 | tO (x:UInt64):jg K H (.tO x) (.type "float")
 | lst {a:Addr} {xs:List V} (e:H a=some (.lst xs)):jg K H (.ref a) (.type "list")
 | aR {a:Addr} {o:Obj} {xs:List V} (e:H a=some (.aR o (.lst xs))):jg K H (.ref a) (.type "list")
 | tup {a:Addr} {xs:List V} (e:H a=some (.tup xs)):jg K H (.ref a) (.type "tuple")
 | dK {a:Addr} {ab:List (Key×V)} (e:H a=some (.dK ab)):jg K H (.ref a) (.type "dict")
 | dT {a:Addr} {ab:List (List Key×V)} (e:H a=some (.dT ab)):jg K H (.ref a) (.type "dict")
 | ins {a C dx:Addr} {fs:List (Str×V)} (e:H a=some (.ins C dx fs)) (cl:jc K C) (ha:nF K (.ref C) "__class__" = some (some (.builtin "object.__class__")))
   (hn:PySem.W.specialIn K (.builtin "object.__class__") "__get__" = some (some (.builtin "getset_descriptor.__get__"))) (D_:PySem.W.takesIn K (.builtin "object.__class__")=some true)
   (hm:PySem.W.mroIn K C (.type "object")=some true):jg K H (.ref a) (.ref C)
variable{b:Bool}{c:aa}
theorem ZjF{x:V}{t:aa}(I:Inv X pins σ H s)(rx:RelV x u)(ty:jg X.K H x t)(e:Xh X.K t c=some b)(h:∀tk,Q (.bool b) { s with toks:=tk }) :
  wpAny (model X.prog X.w) A (call (.builtin "isinstance") [u,c]) Q E s:=by
 cases ty with
 | aD=>cases (show u=bg from rx);exact l9 PySem.W.kitx_none I.dD kT e (λz=>nomatch z) h
 | bl y=>cases (show u=jU y from rx);exact l9 PySem.W.kitx_bool I.dD kT e (λz=>nomatch z) h
 | int i=>obtain⟨t,q⟩:=(show ∃t,u=iZ i t from rx);cases q;exact l9 PySem.W.kitx_int I.dD kT e (λz=>nomatch z) h
 | str y=>obtain⟨t,q⟩:=(show ∃t,u=gE y t from rx);cases q;exact l9 PySem.W.kitx_str I.dD kT e (λz=>nomatch z) h
 | tO y=>obtain⟨t,q⟩:=(show ∃t,u=Nl y t from rx);cases q;exact l9 PySem.W.kitx_float I.dD kT e (λz=>nomatch z) h
 | @lst a xs ea =>
  cases (show u=aO a from rx);obtain⟨_,_,n,_,h1⟩:=(show Z7 X.prog X.w H s.heap a (.lst xs) from I.ak a _ ea);exact l9 Xj I.dD ⟨_,h1,rfl⟩ e (λz=>nomatch z) h
 | @aR a ob xs ea =>
  cases (show u=aO a from rx);obtain⟨_,_,_,n,_,h1⟩:=(show Z7 X.prog X.w H s.heap a (.aR ob (.lst xs)) from I.ak a _ ea);exact l9 Xj I.dD ⟨_,h1,rfl⟩ e (λz=>nomatch z) h
 | @tup a xs ea =>
  cases (show u=aO a from rx);obtain⟨_,_,_,p⟩:=(show Z7 X.prog X.w H s.heap a (.tup xs) from I.ak a _ ea);obtain⟨o,h1,h2,_⟩:=p;exact l9 PySem.W.kitx_tuple I.dD ⟨o,h1,h2⟩ e (λz=>nomatch z) h
 | @dK a ab ea =>
  cases (show u=aO a from rx);obtain⟨_,_,vs,_,p⟩:=(show Z7 X.prog X.w H s.heap a (.dK ab) from I.ak a _ ea);obtain⟨o,es,ep,h1,h2,_⟩:=p;exact l9 Xi I.dD ⟨o,h1,h2.1⟩ e (λz=>nomatch z) h
 | @dT a ab ea =>
  cases (show u=aO a from rx);obtain⟨_,_,xs,_,o,es,ep,h1,h2,_⟩:=(show Z7 X.prog X.w H s.heap a (.dT ab) from I.ak a _ ea);exact l9 Xi I.dD ⟨o,h1,h2.1⟩ e (λz=>nomatch z) h
 | @ins a C dx fs ea cl ha hn D_ hm =>
  cases (show u=aO a from rx);obtain⟨mA,O,_⟩:=Cp I.ak ea;obtain⟨od,J,_⟩:=O.look;exact l9 (PySem.W.kitx_own (cl.get _) cl.hd ha hn D_ hm) I.dD J e (λz=>nomatch z) h
structure bL(k:Nat)(A:aI):Prop where
 hd:A.handled=none
 dp:A.depth+2*k+5<recursionLimit
 un:A.units+16*k+200<cLine
 gd:A.guards=some []
theorem bL.mono{j k:Nat}(r:bL k A)(h:j<=k):bL j A:=⟨r.hd,by have:=r.dp;lia,by have:=r.un;lia,r.gd⟩
theorem bL.deeper{k:Nat}{A:aI}(r:bL (k+1) A)(env:Env):bL k (A.deeper env) :=
 ⟨r.hd,by have:=r.dp;show A.depth+1+2*k+5<_;lia,by have:=r.un;show A.units+3+16*k+200<_;lia,r.gd⟩
theorem bL.in1{k:Nat}{A:aI}(r:bL (k+1) A):bL k A.in1 :=
 ⟨r.hd,by have:=r.dp;show A.depth+2*k+5<_;lia,by have:=r.un;show A.units+1+16*k+200<_;lia,r.gd⟩
theorem Ziz:(A.under (.builtin "type.__call__" ⟨.ref C::us,kw⟩)).depth=A.depth+1:=by
 first|rfl|simp[EY,Code.weight,Code.isCreation,VL,Code.isCaller,VJ,Ms,guardIds]
theorem ZiB:(A.under (.builtin "type.__call__" ⟨.ref C::us,kw⟩)).units=A.units+1:=by
 first|rfl|simp[EY,Code.cUnits,VJ,Ms]
theorem ZgI:(A.under (.builtin "type.__call__" ⟨.ref C::us,kw⟩)).guards=A.guards:=by
 have h:(Code.builtin "type.__call__" ⟨.ref C::us,kw⟩).guards=[]:=by first|rfl|simp[Code.guards,VL,guardIds]
 unfold EY;dsimp only;rw[h];cases A.guards <;> rfl
theorem bL.make{k:Nat}(r:bL (k+1) A)(C:Addr)(us:List aa)(kw:List (Str×aa)):bL k (A.under (.builtin "type.__call__" ⟨.ref C::us,kw⟩)) :=
 ⟨r.hd,by have:=r.dp;rw[Ziz];lia,by have:=r.un;rw[ZiB];lia,by rw[ZgI];exact r.gd⟩
theorem bL.depth{k:Nat}{A:aI}(r:bL k A):A.depth<recursionLimit:=by have:=r.dp;lia
theorem bL.units{k:Nat}{A:aI}(r:bL k A):A.units+64<cLine:=by have:=r.un;lia
def mD:TA:=λ_ H Q=>Q [] H
def om(ta:TE)(tr:TA):TA:=λσ H Q=>ta σ H λx H1=>tr σ H1 λxs H2=>Q (x::xs) H2
section
variable{X:Cx}{e:Expr}{es:List Expr}{te:TE}{t:TA}{pos:Pos}
theorem Zf:PA X [] mD:=λ_ _ _ _ H Q I h=>E9 ⟨[],H,I,.nil,h⟩
theorem Zb(ha:PE X e te)(hr:PA X es t)(hs:starEach (e::es) X.env=(false,eval e X.env)::starEach es X.env:=by rfl):PA X (e::es) (om te t):=by
 intro pos pins s σ H Q I h;rw[hs];show wpAny _ _ (spliced ((false,eval e X.env)::backTo pos (starEach es X.env))) _ _ s;refine xo (aw (ha pins s σ H _ I h) ?_);rintro u s1 ⟨x,H1,I1,r1,q1⟩;exact aw (hr pos pins s1 σ H1 _ I1 q1) λus s2 ⟨xs,H2,I2,r2,q2⟩=>⟨x::xs,H2,I2,.cons r1 r2,q2⟩
def ZpM(t:TA):TE:=λσ H Q=>t σ H λxs H1=>xs.length<=sizeLine/\∀p,H1 p=none->Q (.ref p) (upd H1 p (.tup xs))
def ZpE(t:TA):TE:=λσ H Q=>t σ H λxs H1=>xs.length<=sizeLine/\∀p,H1 p=none->Q (.ref p) (upd H1 p (.lst xs))
theorem gh{x1}(h:PA X es t):PE X (.Tuple es x1 pos) (ZpM t):=by
 intro pins s σ H Q I hq;refine wpAny_Tuple_spliced (aw (h pos pins s σ H _ I hq) ?_);rintro us s1 ⟨xs,H1,I1,r,z,q⟩;refine⟨by rw[<- r.length];exact z,?_⟩;have hf:H1 s1.heap.objs.size=none:=I1.ak.fresh (ax _);refine⟨.ref s1.heap.objs.size,upd H1 s1.heap.objs.size (.tup xs),I1.laid (t':=s1.toks) (λb u e=>aG _ e) (ax _) ?_,rfl,q _ hf⟩;exact⟨z,us,r,⟨_,bE _ rfl,rfl,_,rfl⟩⟩
theorem Z9(h:PA X es t):PE X (.List es pos) (ZpE t):=by
 intro pins s σ H Q I hq;refine wpAny_List_spliced (aw (h pos pins s σ H _ I hq) ?_);rintro us s1 ⟨xs,H1,I1,r,z,q⟩;refine⟨by rw[<- r.length];exact z,?_⟩;have hf:H1 s1.heap.objs.size=none:=I1.ak.fresh (ax _);refine⟨.ref s1.heap.objs.size,upd H1 s1.heap.objs.size (.lst xs),I1.laid (t':=s1.toks) (λb u e=>aG _ e) (ax _) ?_,rfl,q _ hf⟩;exact⟨z,us,0,r,bE _ rfl⟩
end
abbrev Sp:=List V->Hp->VK->XK->Prop
abbrev mf:=List Env->Hp->af->XK->aa->af->Prop
structure sF(P:aC)(w:ay)(K:au)(mg:Str->Option aa)(base:Heap)(A:aI)(outer:List Env)(s:af)(H:Hp):Prop where
 frames:A.frames=some outer
 mod:Mod K mg base
 bs:∀b o,base.get? b=some o->s.heap.get? b=some o/\H b=none
 jm:base.objs.size<=s.heap.objs.size
 ie:s.heap.FunFrames base outer
 mJ:∀b∈iL outer,H b=none
 ak:bJ P w H s.heap
 bare:pJ s.gens
def CE(outer:List Env)(P:aC)(w:ay)(H:Hp)(s:af)(Q:VK)(u:aa)(s':af):Prop :=
 ∃v H',s'.os=s.os/\pJ s'.gens/\Un (iL outer) [] H H' s.heap s'.heap/\bJ P w H' s'.heap/\RelV v u/\Q v H'
def CR(CX:mf)(outer:List Env)(P:aC)(w:ay)(H:Hp)(s:af)(Q:VK)(E:XK)(r:pX)(s':af):Prop :=
 match r with
 | .ok (.ret u)=>CE outer P w H s Q u s'
 | .ok _=>False
 | .error e=>CX outer H s E e s'
structure aX(P:aC)(w:ay)(K:au)(mg:Str->Option aa)(base:Heap)(CX:mf)(k:Nat)(f:Addr)(fd:dP)(ps:List Str)(sp:Sp):Prop where
 len:∀vs H Q E,sp vs H Q E->vs.length=ps.length
 run:∀(A:aI)(outer:List Env)(s:af)(H:Hp)(args:Args)(us:List aa)(vs:List V)(Q:VK)(E:XK),bL k A->sF P w K mg base A outer s H->xn s fd args (ps.zip us)->Vals vs us->sp vs H Q E ->
  codeAny (model P w) A (.call (.ref f) args) (CR CX outer P w H s Q E) s
variable{mg:Str->Option aa}{base:Heap}{outer:List Env}
theorem sF.make(e:sF P w K mg base A outer s H)(C:Addr)(us:List aa)(kw:List (Str×aa)) :
  sF P w K mg base (A.under (.builtin "type.__call__" ⟨.ref C::us,kw⟩)) outer s H:=⟨by first|exact e.frames|(simpa[EY,Code.envs,Ms,pushEnvs] using e.frames),e.mod,e.bs,e.jm,e.ie,e.mJ,e.ak,e.bare⟩
theorem Inv.Sa(I:Inv X pins σ H s):sF X.prog X.w X.K X.mg X.base X.A X.stack s H :=
 ⟨I.ok.frames,I.ok.mod,I.bs,cm I.ok.jm I.sz,I.stack,I.L4,I.ak,I.bare⟩
variable{s':af}
theorem Inv.after{Q:VK}(I:Inv X pins σ H s)(h:CE X.stack X.prog X.w H s Q u s'):EP X pins σ Q u s':=by
 obtain⟨v,H',os,bare,un,ak,r,q⟩:=h;obtain⟨hh,g,d,t,Yx⟩:=s';obtain rfl:Yx=s.os:=os;exact⟨v,H',I.call (h':=hh) (g':=g) (d':=d) (t':=t) (ch:=[]) un ak bare (λb z=>absurd z (by simp)),r,q⟩
def RG(sp:Sp)(dvs:List V)(E:XK)(t:TA):TE:=λσ H Q=>t σ H λvs H1=>sp (vs++dvs) H1 Q E
def CT(C:Addr)(m:Str)(sp:Sp)(dvs:List V)(E:XK)(ta:TE)(t:TA):TE:=λσ H Q=>ta σ H λx H1=>∃a dx fs,x=.ref a/\H1 a=some (.ins C dx fs)/\fs.lookup m=none /\
 t σ H1 λvs H2=>sp (x::(vs++dvs)) H2 Q E
def RH(C:Addr)(sp:Sp)(dvs:List V)(E:XK)(t:TA):TE:=λσ H Q=>t σ H λvs H1=>∀x dx,H1 x=none->H1 dx=none->dx≠x ->
 sp (.ref x::(vs++dvs)) (upd (upd H1 dx (.own x)) x (.ins C dx [])) (λv H2=>v=.aD/\Q (.ref x) H2) E
def Binds(K:au)(fd:dP)(ps:List Str)(ds:List aa):Prop :=
 ∀(s:af)(us:List aa),K.In s.heap->(us++ds).length=ps.length->xn s fd ⟨us,[]⟩ (ps.zip (us++ds))
variable{ps:List Str}
theorem Binds.all{fd:dP}(h:∀us:List aa,us.length=ps.length->bindArgs fd ⟨us,[]⟩=pure (ps.zip us)):Binds K fd ps []:=λs us _ hl=>by
 rw[fN] at hl ⊢;exact .of_eq (h us hl)
def s_(CX:mf)(X:Cx)(E:XK):Prop := ∀(pins:List (Addr×Obj))(σ : St)(H:Hp)(s:af)(e:aa)(s':af),Inv X pins σ H s->CX X.stack H s E e s'->X.xe e s'
section
variable{X:Cx}{CX:mf}{k:Nat}{f C:Addr}{fd:dP}{ps:List Str}{sp:Sp}{dvs:List V}{ds:List aa}{E:XK}{x m:Str}{p pos apos:Pos}{e o:Expr}{es:List Expr}{ta:TE}{t:TA}
variable{pins:List (Addr×Obj)}{σ:St}{us:List aa}{vs:List V}
theorem zd{H:Hp}{s:af}{Q:VK}(F:aX X.prog X.w X.K X.mg X.base CX k f fd ps sp)(hr:bL k X.A)(hb:Binds X.K fd ps ds)(hd:Vals dvs ds)(hx:s_ CX X E)
  (I:Inv X pins σ H s) (r:Vals vs us) (h:sp (vs++dvs) H Q E):wpAny (model X.prog X.w) X.A (call (.ref f) us) (EP X pins σ Q) X.xe s:=by
 have r2:Vals (vs++dvs) (us++ds):=r.append hd;have hl:(us++ds).length=ps.length:=by rw[<- r2.length];exact F.len _ _ _ _ h
 refine Gb (xR (F.run X.A X.stack s H ⟨us,[]⟩ (us++ds) (vs++dvs) Q E hr I.Sa (hb s us I.dD hl) r2 h) λr s' hq=>?_);cases r with
 | error e=>exact hx pins σ H s e s' I hq
 | ok fl =>
  cases fl with
  | ret u=>exact I.after hq
  | next=>exact m9 hq
  | brk=>exact m9 hq
  | cont=>exact m9 hq
theorem ZnI(F:aX X.prog X.w X.K X.mg X.base CX k f fd ps sp)(hr:bL k X.A)(hg:Gl X x)(hm:X.mg x=some (.ref f))(hk:xO X.K (.ref f)=true)(hb:Binds X.K fd ps ds)(hd:Vals dvs ds)(hx:s_ CX X E)
  (ha:PA X (e::es) t) (eR:(x == ("__debug__" : Str))=false:=by decide) (he:starEach (e::es) X.env=(false,eval e X.env)::starEach es X.env:=by rfl) (bD:(backTo pos (starEach es X.env)).any (·.1)=false:=by rfl) :
  PE X (.Call (.Name x p) (e::es) [] pos) (RG sp dvs E t):=by
 intro pins s σ H Q I h;refine p6 (IX I hg hm ?_ eR);refine M7 (h₀ := X.base) I.ok.mod.AJ hk (aw (ha pos pins s σ H _ I h) ?_) he bD;rintro us s1 ⟨vs,H1,I1,r,q⟩;refine⟨I1.dD,?_⟩;exact zd F hr hb hd hx I1 r q
variable{pl:Sem Bool}
theorem Znf(he:PE X o ta)(c:jc X.K C)(hm:Meth X.K C m f)(F:aX X.prog X.w X.K X.mg X.base CX k f fd ps sp)(hr:bL k X.A)(hb:Binds X.K fd ps ds)(hd:Vals dvs ds)(hx:s_ CX X E)(ha:PA X (e::es) t)
  (bu:starEach (e::es) X.env=(false,eval e X.env)::starEach es X.env:=by rfl) (bD:(backTo pos (starEach es X.env)).any (·.1)=false:=by rfl)
  (ht:eval (.Call (.Attribute o m apos) (e::es) [] pos) X.env=(do
   let ov <- eval o X.env
   standAt apos.atName
   let (f,first) <- holding [ov] (getMethod ov m pl)
   callWith pos f first (backTo pos (starEach (e::es) X.env)) (backToKw pos (keywordEach [] X.env))):=by rfl) :
  PE X (.Call (.Attribute o m apos) (e::es) [] pos) (CT C m sp dvs E ta t):=by
 intro pins s σ H Q I h;refine Xl (pl:=pl) (aw (he pins s σ H _ I h) ?_) ht;rintro u s1 ⟨x,H1,I1,rx,a,dx,fs,ex,ea,l,q⟩;subst ex;obtain rfl:u=aO a:=rx;refine Ot I1 ea c hm l ?_;refine M7 (first:=[.ref a]) (h₀ := X.base) I.ok.mod.AJ hm.kp (aw (ha pos pins s1 σ H1 _ I1 q) ?_) bu bD
 rintro us s2 ⟨vs,H2,I2,r,q2⟩;refine⟨I2.dD,?_⟩;exact zd (us:=.ref a::us) (vs:=.ref a::vs) F hr hb hd hx I2 (.cons rfl r) q2
theorem ZkW(he:PE X o ta)(c:jc X.K C)(hm:Meth X.K C m f)(F:aX X.prog X.w X.K X.mg X.base CX k f fd ps sp)(hr:bL k X.A)(hb:Binds X.K fd ps ds)(hd:Vals dvs ds)(hx:s_ CX X E)
  (ht:eval (.Call (.Attribute o m apos) [] [] pos) X.env=(do
   let ov <- eval o X.env
   standAt apos.atName
   let (f,first) <- holding [ov] (getMethod ov m pl)
   callWith pos f first (backTo pos (starEach [] X.env)) (backToKw pos (keywordEach [] X.env))):=by rfl) :
  PE X (.Call (.Attribute o m apos) [] [] pos) (CT C m sp dvs E ta mD):=by
 intro pins s σ H Q I h;refine Xl (pl:=pl) (aw (he pins s σ H _ I h) ?_) ht;rintro u s1 ⟨x,H1,I1,rx,a,dx,fs,ex,ea,l,q⟩;subst ex;obtain rfl:u=aO a:=rx;refine Ot I1 ea c hm l ?_;exact PySem.W.callWith_K0 (first:=[.ref a]) I1.dD hm.kp (zd (us:=[.ref a]) (vs:=[.ref a]) F hr hb hd hx I1 (.cons rfl .nil) q)
structure Mk(K:au)(C f:Addr):Prop where
 makes:Xk K C=true
 init:nF K (.ref C) "__init__" = some (some (.ref f))
 fn:M_ K (.ref f)=true
 kp:xO K (.ref C)=true
theorem Zle{H:Hp}{s:af}{Q:VK}(M:Mk X.K C f)(F:aX X.prog X.w X.K X.mg X.base CX k f fd ps sp)(hr:bL (k+1) X.A)(hb:Binds X.K fd ps ds)(hd:Vals dvs ds)
  (hx:s_ CX X E) (I:Inv X pins σ H s) (r:Vals vs us)
  (h:∀x dx,H x=none->H dx=none->dx≠x->sp (.ref x::(vs++dvs)) (upd (upd H dx (.own x)) x (.ins C dx [])) (λv H2=>v=.aD/\Q (.ref x) H2) E) :
  wpAny (model X.prog X.w) X.A (call (.ref C) us) (EP X pins σ Q) X.xe s:=by
 have hq:=h (s.heap.objs.size+1) s.heap.objs.size (I.ak.fresh (rZ _)) (I.ak.fresh (ax _)) (bc (pT _));have I2:=Inv.made (C:=C) I;have r2:Vals (V.ref (s.heap.objs.size+1)::(vs++dvs)) (aO (s.heap.objs.size+1)::(us++ds)):=.cons rfl (r.append hd);have hl:(aO (s.heap.objs.size+1)::us++ds).length=ps.length:=by
  have e:=r2.length;rw[F.len _ _ _ _ hq] at e;exact e.symm
 refine Gb (Zk8 (f:=f) I.dD M.makes M.init (pZ.mp M.fn) (xR (F.run _ X.stack _ _ ⟨aO (s.heap.objs.size+1)::us,[]⟩ (aO (s.heap.objs.size+1)::(us++ds)) _ _ E (hr.make C us [])
  (I2.Sa.make C us []) (hb _ (aO (s.heap.objs.size+1)::us) I2.dD hl) r2 hq) λr s' fE=>?_))
 cases r with
 | error e=>exact hx pins σ _ _ e s' I2 fE
 | ok fl =>
  cases fl with
  | ret u =>
   obtain⟨v,H',I3,rv,ev,q3⟩:=I2.after fE;subst ev;exact⟨rv,⟨V.ref (s.heap.objs.size+1),H',I3,rfl,q3⟩⟩
  | next=>exact m9 fE
  | brk=>exact m9 fE
  | cont=>exact m9 fE
theorem ZnD(M:Mk X.K C f)(F:aX X.prog X.w X.K X.mg X.base CX k f fd ps sp)(hr:bL (k+1) X.A)(hg:Gl X x)(hm:X.mg x=some (.ref C))(hb:Binds X.K fd ps ds)(hd:Vals dvs ds)(hx:s_ CX X E)
  (ha:PA X (e::es) t) (eR:(x == ("__debug__" : Str))=false:=by decide) (he:starEach (e::es) X.env=(false,eval e X.env)::starEach es X.env:=by rfl) (bD:(backTo pos (starEach es X.env)).any (·.1)=false:=by rfl) :
  PE X (.Call (.Name x p) (e::es) [] pos) (RH C sp dvs E t):=by
 intro pins s σ H Q I h;refine p6 (IX I hg hm ?_ eR);refine M7 (h₀ := X.base) I.ok.mod.AJ M.kp (aw (ha pos pins s σ H _ I h) ?_) he bD;rintro us s1 ⟨vs,H1,I1,r,q⟩;refine⟨I1.dD,?_⟩;exact Zle M F hr hb hd hx I1 r q
end
def PK(X:Cx)(AM:List xw)(t:TA):Prop :=
 ∀(pos:Pos)(pins:List (Addr×Obj))(s:af)(σ : St)(H:Hp)(Q:List V->Hp->Prop),Inv X pins σ H s->t σ H Q->wpAny (model X.prog X.w) X.A (evalAll ((backToKw pos (keywordEach AM X.env)).map (·.2))) (AP X pins σ Q) X.xe s
section
variable{X:Cx}{CX:mf}{k:Nat}{f C:Addr}{fd:dP}{ps ks:List Str}{sp:Sp}{E:XK}{x m:Str}{p pos apos ZzU:Pos}{e o:Expr}{es:List Expr}{AM:List xw}{te ta:TE}{t tk:TA}{nm:Option Str}
theorem Rt:PK X [] mD:=λ_ _ _ _ H Q I h=>wpAny_evalAll_nil ⟨[],H,I,.nil,h⟩
theorem Jc(ha:PE X e te)(hr:PK X AM t):PK X (⟨nm,e,ZzU⟩::AM) (om te t):=by
 intro pos pins s σ H Q I h;show wpAny _ _ (evalAll ((do let v <- eval e X.env;standAt pos;pure v)::(backToKw pos (keywordEach AM X.env)).map (·.2))) _ _ s;refine wpAny_evalAll_cons (ae (aw (ha pins s σ H _ I h) ?_));rintro u s1 ⟨x,H1,I1,r1,q1⟩;refine ae (yb (ai ?_));exact aw (hr pos pins s1 σ H1 _ I1 q1) λus s2 ⟨xs,H2,I2,r2,q2⟩=>⟨x::xs,H2,I2,.cons r1 r2,q2⟩
variable{g:List aa->List aa->List aa}{gV:List V->List V->List V}
end
structure bS(N P:List Str)(sc:cY):Prop where
 kind:sc.kind=.function
 co:sc.isCoroutine=false
 gen:sc.isGenerator=false
 nd:N.Nodup
 pre:N.take P.length=P
 rG:∀x∈P,sc.names.lookup x=some .local\/sc.names.lookup x=some .cell
 lj:∀y∈sc.names,y.2 ≠ .free
theorem ON{kindOf:Str->Option xH}{x:Str}:∀{binds:List (Str×aa)}{m:Str->Option aa},(∀v,(x,v)∉binds)->bindL kindOf binds m x=m x
 | [],_,_=>rfl
 | (n,v)::r,m,h=>by
  unfold bindL;rw[ON λw hw=>h w (bM _ hw)]
  split
  ·have:x≠n:=by rintro rfl;exact h v aZ
   simp[this]
  ·rfl
theorem OQ{kindOf:Str->Option xH}{x:Str}:∀{binds:List (Str×aa)}{m:Str->Option aa},(∀v,(x,v)∉binds)->bindC kindOf binds m x=m x
 | [],_,_=>rfl
 | (n,v)::r,m,h=>by
  unfold bindC;rw[OQ λw hw=>h w (bM _ hw)]
  split
  ·rfl
  ·have:x≠n:=by rintro rfl;exact h v aZ
   simp[this]
theorem OW{kindOf:Str->Option xH}{x:Str}{v:aa}:∀{P:List Str}{vs:List aa}{i:Nat}{m:Str->Option aa},P.Nodup->P[i]?= some x->vs[i]?= some v->kindOf x=some .local ->
  bindL kindOf (P.zip vs) m x=some v
 | [],_,_,_,_,h,_,_=>by simp at h
 | _::_,[],_,_,_,_,h,_=>by simp at h
 | p::P,w::vs,0,m,nd,h1,h2,hk=>by
  simp at h1 h2;subst h1;subst h2;show bindL kindOf ((p,w)::P.zip vs) m p=_;unfold bindL;rw[ON λv hv=>(rX.mp nd).1 (Fv hv).1,aj hk];simp
 | p::P,w::vs,i+1,m,nd,h1,h2,hk=>by
  show bindL kindOf ((p,w)::P.zip vs) m x=_;unfold bindL;exact OW (i:=i) (rX.mp nd).2 (by simpa using h1) (by simpa using h2) hk
theorem OL{kindOf:Str->Option xH}{x:Str}{v:aa}:∀{P:List Str}{vs:List aa}{i:Nat}{m:Str->Option aa},P.Nodup->P[i]?= some x->vs[i]?= some v->kindOf x≠some .local ->
  bindC kindOf (P.zip vs) m x=some v
 | [],_,_,_,_,h,_,_=>by simp at h
 | _::_,[],_,_,_,_,h,_=>by simp at h
 | p::P,w::vs,0,m,nd,h1,h2,hk=>by
  simp at h1 h2;subst h1;subst h2;show bindC kindOf ((p,w)::P.zip vs) m p=_;unfold bindC;rw[OQ λv hv=>(rX.mp nd).1 (Fv hv).1,ah hk];simp
 | p::P,w::vs,i+1,m,nd,h1,h2,hk=>by
  show bindC kindOf ((p,w)::P.zip vs) m x=_;unfold bindC;exact OL (i:=i) (rX.mp nd).2 (by simpa using h1) (by simpa using h2) hk
def start(N:List Str)(vs:List V):St:=vs.map some++cE (N.length-vs.length) none
def tG(CX:mf)(P:aC)(w:ay)(K:au)(mg:Str->Option aa)(base:Heap)(N:List Str)(qual:Str)(scope:cY)(f:Addr)(cd:aa)(A:aI)(outer:List Env)(s:af)(H:Hp)(E:XK):Cx where
 prog:=P
 w:=w
 K:=K
 mg:=mg
 base:=base
 A:=A.deeper (envOfC qual scope s.heap.objs.size f cd)
 N:=N
 dt := s
 kZ := H
 env:=envOfC qual scope s.heap.objs.size f cd
 outer:=outer
 stack:=envOfC qual scope s.heap.objs.size f cd::outer
 ex:=[]
 calm:=true
 fn:=λ_=>true
 pn:=[]
 xe:=λe s'=>wpAny (model P w) (A.deeper (envOfC qual scope s.heap.objs.size f cd)) (leaving (envOfC qual scope s.heap.objs.size f cd) e) (λ_ GD=>CX outer H s E e GD) (λe' GD=>CX outer H s E e' GD) s'
theorem Pj{sc:cY}{x:Str}(h:sc.names.lookup x=some .cell):∃c,(cellsFrom n sc.names []).lookup x=some c:=by
 have q:=Xf sc.names n [] (.inl h);exact MY.mp q
variable{f:Addr}{CX:mf}{N:List Str}{qual:Str}{scope:cY}
theorem ZjB{cd:aa}{s1:af}{E:XK}{vs:List V}
  (S:bS N ps scope) (hd:A.handled=none) (e0:sF P w K mg base A outer s H) (hl:vs.length=ps.length) (r:Vals vs us)
  (x:InCallC s s.heap.objs.size (bindL (envOfC qual scope s.heap.objs.size f cd).kindOf (ps.zip us) λ_=>none) (cellsFrom (s.heap.objs.size+1) scope.names []) (bindC (envOfC qual scope s.heap.objs.size f cd).kindOf (ps.zip us) λ_=>none) s1) :
  Inv (tG CX P w K mg base N qual scope f cd A outer s H E) [] (start N vs) H s1:=by
 have bD:ps.length<=N.length:=by have:=congrArg fA S.pre;rw[iy] at this;lia
 obtain⟨h1,tk,rfl,hk⟩:=x.done;have LH:∀b:Addr,b∉(tG CX P w K mg base N qual scope f cd A outer s H E).ex:=λb z=>absurd (show b∈([]:List Addr) from z) (by simp);refine⟨⟨e0.mod,S.kind,rfl,rfl,ax _,λy z c h1 h2=>?_,λy hy=>?_,λy c _ h=>?_,λ_=>hd,Vo e0.frames,.inr ⟨rfl,rfl⟩,λb z=>absurd z (LH b),e0.bs,e0.jm,λb _ _=>LH b,λb z=>absurd z (LH b),e0.ie,e0.mJ⟩,
  rfl,e0.bare,Un.kept hk,⟨_,x.toInCall.ns,λi y v h1 h2 h3=>?_⟩,λy c h=>⟨_,x.cell y c h⟩,e0.ak.fresh (ax _),λy c h=>?_,λp hp=>absurd (show p∈([]:List (Addr×Obj)) from hp) (by simp),e0.ak.kept hk,?_⟩
 ·exact name_of_addr x.apart (uP h1) (uP h2)
 ·have hy:scope.names.lookup y=some .cell\/scope.names.lookup y=some .free:=hy;rcases hy with hy|hy
  ·exact Pj hy
  ·exact absurd rfl (S.lj _ (uP hy))
 ·exact lZ (x.above y c (uP h))
 ·have hi:i<vs.length:=by
   unfold start at h2;by_cases hi:i<vs.length
   ·exact hi
   ·rw[Fs (by simpa using hi)] at h2;rw[xD] at h2
    split at h2 <;> cases h2
  have ha:vs[i]?= some v:=by
   unfold start at h2;rw[Fq (by simpa using hi),bW] at h2;cases e:vs[i]? with
   | none=>rw[e] at h2;cases h2
   | some a=>rw[e] at h2;cases h2;rfl
  obtain⟨u,hu,rv⟩:=r.get ha;have hp:ps[i]?= some y:=by
   rw[<- S.pre,List.getElem?_take_of_lt (by lia)];exact h1
  have UL:ps.Nodup:=by rw[<- S.pre];exact S.nd.sublist (Fw _ _)
  refine⟨u,rv,?_⟩;rcases S.rG y (bY hp) with k|k
  ·exact .inl ⟨k,OW UL hp hu k⟩
  ·obtain⟨c,e⟩:=Pj (n:=s.heap.objs.size+1) k;refine .inr ⟨.inl k,c,e,?_⟩;have q:=x.cell y c e;rw[OL UL hp hu (by show scope.names.lookup y≠_;rw[k];decide)] at q;exact q
 ·exact e0.ak.fresh (lZ (x.above y c (uP h)))
 ·unfold start;show _=N.length;rw[aH,ar,lY];lia
theorem Ry{k:Nat}{params:uF}{dV kV doc pm aK ct oc:aa}{an od:Option Addr}
  {pe:Array (Option aa)}  {sp:Sp} (lk:K.lookup f=some ⟨oc,od,.func (xN name qual params body scope dV kV doc pm an aK ct),pe⟩) (fh:M9 K aK qual=true) (S:bS N ps scope)
  (len:∀vs H Q E,sp vs H Q E->vs.length=ps.length)
  (tS:∀(A:aI)(outer:List Env)(s:af)(H:Hp)(vs:List V)(Q:VK)(E:XK),bL k (A.deeper (envOfC qual scope s.heap.objs.size f aK))->sp vs H Q E ->
   ∃t,dB (tG CX P w K mg base N qual scope f aK A outer s H E) body t/\t { nx:=λ_ H'=>Q .aD H',rt:=Q } (start N vs) H) :
  aX P w K mg base CX (k+1) f (xN name qual params body scope dV kV doc pm an aK ct) ps sp:=by
 refine⟨len,λA outer s H args us vs Q E hr e0 hb r jB=>?_⟩;have hl:=len _ _ _ _ jB;have KX:K.In s.heap:=e0.mod.AJ.keeps λb o e=>(e0.bs b o e).1;have lim:s.heap.NoLimit:=e0.mod.nolimit.keeps λb o e=>(e0.bs b o e).1;have ZyO:∀y∈ps.zip us,scope.names.lookup y.1=some .local\/(scope.names.lookup y.1=some .cell/\((cellsFrom (s.heap.objs.size+1) scope.names []).lookup y.1).isSome=true):=λ⟨n,v⟩ hy=>by
  rcases S.rG n (Fv hy).1 with q|q
  ·exact .inl q
  ·exact .inr ⟨q,Xf _ _ _ (.inl q)⟩
 refine codeAny_call_function hr.depth (KX _ _ lk) rfl S.co S.gen rfl (PySem.W.codeRec_of KX fh) (hb _ _ _ _ ?_);refine wpAny_newFunctionEnv_cells S.kind ZyO λenv he s1 x=>?_;subst he;refine⟨lim.keeps x.toInCall.keep,codeAny_func ?_⟩;obtain⟨t,ht,hq⟩:=tS A outer s H vs Q E (hr.deeper _) jB;have I:Inv (tG CX P w K mg base N qual scope f aK A outer s H E) [] (start N vs) H s1:=ZjB S hr.hd e0 hl r x;refine dz (ht [] s1 (start N vs) H _ I hq) (λfl s' hs=>?_) λe s' hs=>hs;have fin:∀{aq:St}{H':Hp}{v:V}{u:aa},Inv (tG CX P w K mg base N qual scope f aK A outer s H E) [] aq H' s'->RelV v u->Q v H'->CE outer P w H s Q u s' :=
  λ{aq H' v u} J rv q=>⟨v,H',J.os,J.bare,J.base,J.ak,rv,q⟩
 cases fl with
 | ret u =>
  obtain⟨v,aq,H',J,rv,q⟩:=hs;exact fin J rv q
 | next =>
  obtain⟨aq,H',J,q⟩:=hs;exact fin (v:=V.aD) (u:=bg) J rfl q
 | brk =>
  obtain⟨_,_,_,q⟩:=hs;exact m9 q
 | cont =>
  obtain⟨_,_,_,q⟩:=hs;exact m9 q
section
variable{X:Cx}{x:Str}{p pos:Pos}{e:Expr}{es:List Expr}{t:TA}{id T:String}{r:List V->Hp->VK->Prop}
def U_(r:List V->Hp->VK->Prop)(t:TA):TE:=λσ H Q=>t σ H λvs H1=>r vs H1 Q
theorem Z0(hc:hX X (.builtin id) r)(hg:Gl X x)(hm:X.mg x=none)(hv:bootBuiltins x=some (.builtin id))(ha:PA X (e::es) t)(hn:x ≠ "__name__" := by decide) (eR:(x == ("__debug__" : Str))=false:=by decide)
  (he:starEach (e::es) X.env=(false,eval e X.env)::starEach es X.env:=by rfl) (bD:(backTo pos (starEach es X.env)).any (·.1)=false:=by rfl):PE X (.Call (.Name x p) (e::es) [] pos) (U_ r t):=by
 intro pins s σ H Q I h;refine p6 (lx I hg hm hv ?_ hn eR);exact WU (aw (ha pos pins s σ H _ I h) λus s1 ⟨vs,H1,I1,r1,q1⟩=>hc pins s1 σ H1 vs us Q I1 r1 q1) he bD
theorem Z8(hc:hX X (.type T) r)(hg:Gl X x)(hm:X.mg x=none)(hv:bootBuiltins x=some (.type T))(ha:PA X (e::es) t)(hn:x ≠ "__name__" := by decide) (eR:(x == ("__debug__" : Str))=false:=by decide)
  (he:starEach (e::es) X.env=(false,eval e X.env)::starEach es X.env:=by rfl) (bD:(backTo pos (starEach es X.env)).any (·.1)=false:=by rfl):PE X (.Call (.Name x p) (e::es) [] pos) (U_ r t):=by
 intro pins s σ H Q I h;refine p6 (lx I hg hm hv ?_ hn eR);exact Bp (aw (ha pos pins s σ H _ I h) λus s1 ⟨vs,H1,I1,r1,q1⟩=>hc pins s1 σ H1 vs us Q I1 r1 q1) he bD
end
end L2
namespace HT
open PySem PyProof.Rows
def gw(n d:Nat):Option Int->Nat
 | none=>d
 | some v=>if v<0 then(v+(n:Int)).toNat else min v.toNat n
theorem PY(n d:Nat):gw n d none=d:=rfl
theorem P6(n d k:Nat):gw n d (some (k:Int))=min k n:=by
 show(if(k:Int)<0 then((k:Int)+(n:Int)).toNat else min (k:Int).toNat n)=min k n
 rw[ah (by lia),lV]
variable{prog:aC}{w:ay}{A:aI}{E:aa->af->Prop}{s:af}
theorem Hz{v:aa}{o:Option Int}{Q:Option Int->af->Prop}(p:ng v o)(h:Q o s):wpAny (model prog w) A (ZBZ v) Q E s:=by
 cases p with
 | none=>exact slicePart_none h
 | int i t=>exact slicePart_int h
end HT
namespace L2
open PySem PySem.Spec PyProof.Rows
abbrev TO:=St->Hp->(Option Int->Hp->Prop)->Prop
def PO(X:Cx)(e:Option Expr)(t:TO):Prop :=
 ∀(pins:List (Addr×Obj))(s:af)(σ : St)(H:Hp)(Q:Option Int->Hp->Prop),Inv X pins σ H s->t σ H Q ->
  wpAny (model X.prog X.w) X.A (evalPart e X.env) (λu s'=>∃o H',Inv X pins σ H' s'/\ng u o/\Q o H') X.xe s
def ZmK:TO:=λ_ H Q=>Q none H
def ZoY(t:TE):TO:=λσ H Q=>t σ H λx H1=>∃i,x=.int i/\Q (some i) H1
variable{X:Cx}
theorem Cu:PO X none ZmK:=by
 intro pins s σ H Q I h;rw[XU];exact ai ⟨none,H,I,.none,h⟩
variable{e:Expr}{te:TE}
theorem IK(h:PE X e te):PO X (some e) (ZoY te):=by
 intro pins s σ H Q I hw;rw[evalPart_some];refine aw (h pins s σ H _ I hw) ?_;rintro u s1 ⟨x,H1,I1,r1,q1⟩;obtain⟨i,rfl,q⟩:=q1;obtain⟨t,rfl⟩:=r1;exact⟨some i,H1,I1,.int i t,q⟩
variable{lo hi:Option Expr}
def N5(X:Cx)(r:V->Option Int->Option Int->Hp->VK->Prop):Prop :=
 ∀(pins:List (Addr×Obj))(s:af)(σ : St)(H:Hp)(x:V)(v vl vu:aa)(lo hi:Option Int)(sl:Addr)(Q:VK),Inv X pins σ H s->RelV x v->s.heap.IsSliceOf sl vl vu .none->ng vl lo->ng vu hi->r x lo hi H Q ->
  ∃T id,typeLookup (.type T) "__getitem__" = pure (some (.builtin id))/\s.TypeIs v T/\wpAny (model X.prog X.w) X.A (getItem v (.ref sl)) (EP X pins σ Q) X.xe s
def tSl(r:V->Option Int->Option Int->Hp->VK->Prop)(te:TE)(tl th:TO):TE:=λσ H Q=>te σ H λx H1=>tl σ H1 λl H2=>th σ H2 λu H3=>r x l u H3 Q
variable{tl th:TO}{pos p2:Pos}
theorem Py{r:V->Option Int->Option Int->Hp->VK->Prop}(hr:N5 X r)(he:PE X e te)(hl:PO X lo tl)(hu:PO X hi th):PE X (.Subscript e (.Slice lo hi none p2) pos) (tSl r te tl th):=by
 intro pins s σ H Q I h;refine FW (aw (he pins s σ H _ I h) ?_);rintro v s1 ⟨x,H1,I1,r1,q1⟩;refine X' (aw (hl pins s1 σ H1 _ I1 q1) ?_);rintro vl s2 ⟨l,H2,I2,pl,q2⟩;refine aw (hu pins s2 σ H2 _ I2 q2) ?_;rintro vu s3 ⟨u,H3,I3,pu,q3⟩;rw[XU];refine ai ?_;have I4:Inv X pins σ H3 { s3 with heap:=s3.heap.push { cls:=.type "slice",data:=.fields #[vl,vu,.none] } }:=I3.kept (t':=s3.toks) λb ob q=>aG _ q;obtain⟨T,id,hT,ht,hg⟩:=hr pins { s3 with heap:=s3.heap.push { cls:=.type "slice",data:=.fields #[vl,vu,.none] } } σ H3 x v vl vu l u s3.heap.objs.size Q I4 r1 (V1 ..) pl pu q3;show wpAny (model X.prog X.w) X.A (subscriptTail e (.Slice lo hi none p2) v (.ref s3.heap.objs.size)) (EP X pins σ Q) X.xe { s3 with heap:=s3.heap.push { cls:=.type "slice",data:=.fields #[vl,vu,.none] } };exact Ny (ops:=[.ref s3.heap.objs.size,v]) ht hT hg (by with_unfolding_all rfl)
def kf(xs:List V)(lo hi:Option Int):List V:=(xs.drop (HT.gw xs.length 0 lo)).take (HT.gw xs.length xs.length hi-HT.gw xs.length 0 lo)
theorem ZgM(xs:List V)(lo hi:Option Int):(kf xs lo hi).length<=xs.length:=by
 unfold kf;rw[iy,rV];lia
def iS(n:Nat)(i:Int):Option Nat:=if 0<=i then(if i<n then some i.toNat else none) else if -(n:Int)<=i then some (i+n).toNat else none
def fH{α : Type}(xs:List α)(i:Int):Option α := (iS xs.length i).bind λj=>xs[j]?
variable{n j:Nat}{i:Int}
theorem P4(h:iS n i=some j):seqIndex? i n=some j/\j<n /\ -(n:Int)<=i/\i<n:=by
 unfold iS at h;by_cases h0:0<=i
 ·rw[aj h0] at h;by_cases h1:i<n
  ·rw[aj h1] at h;have e:i.toNat=j:=ed h;exact⟨by rw[Nv h0 h1,e],by lia,by lia,h1⟩
  ·rw[ah h1] at h;cases h
 ·rw[ah h0] at h;by_cases h1 : -(n:Int)<=i
  ·rw[aj h1] at h;have e:(i+n).toNat=j:=ed h;exact⟨by rw[seqIndex_neg (by lia) h1,e],by lia,h1,by lia⟩
  ·rw[ah h1] at h;cases h
variable{α:Type}
theorem II{xs:List α}{v : α}(h:fH xs i=some v):∃j,seqIndex? i xs.length=some j/\xs[j]?= some v/\j<xs.length /\ -(xs.length:Int)<=i/\i<xs.length:=by
 unfold fH at h;cases e:iS xs.length i with
 | none=>rw[e] at h;cases h
 | some j =>
  rw[e] at h;obtain⟨h1,h2,h3,h4⟩:=P4 e;exact⟨j,h1,h,h2,h3,h4⟩
theorem j7{xs:List α}{v : α}(h:xs[j]?= some v):fH xs (j:Int)=some v:=by
 have hj:j<xs.length:=(cT.mp h).1;have e:iS xs.length (j:Int)=some j:=by
  unfold iS;rw[aj (by lia),aj (by lia)];simp
 unfold fH;rw[e];exact h
theorem sP(xs:List α)(v : α):fH (xs ++ [v]) (-1)=some v:=by
 have hl:(xs ++ [v]).length=xs.length+1:=by simp
 have e:iS (xs ++ [v]).length (-1)=some xs.length:=by
  unfold iS;rw[hl,ah (by decide),aj (by lia)]
  congr 1
  lia
 unfold fH;rw[e];show(xs ++ [v])[xs.length]?= some v;simp
def ZmA(b:Expr):Prop := ∀o i,subscripted b false o i=operate [o,i] (getItem o i)
def yw(X:Cx)(r:R2):Prop :=
 ∀(value slice:Expr)(pins:List (Addr×Obj))(s:af)(σ : St)(H:Hp)(x y:V)(v u:aa)(Q:VK),Inv X pins σ H s->RelV x v->RelV y u->r x y H Q ->
  subscripted slice false v u=operate [v,u] (getItem v u)->wpAny (model X.prog X.w) X.A (subscriptTail value slice v u) (EP X pins σ Q) X.xe s
def Hb(X:Cx)(id:String)(r:V->List V->Hp->VK->Prop):Prop :=
 ∀(pins:List (Addr×Obj))(s:af)(σ : St)(H:Hp)(x:V)(xs:List V)(v:aa)(us:List aa)(Q:VK),Inv X pins σ H s->RelV x v->Vals xs us->r x xs H Q ->
  wpAny (model X.prog X.w) X.A (call (.builtin id) (v::us)) (EP X pins σ Q) X.xe s
section
variable{X:Cx}{a b:Expr}{ta tb:TE}{pos:Pos}
theorem ZR{r:R2}(hr:yw X r)(ha:PE X a ta)(hb:PE X b tb)(hs:ZmA b):PE X (.Subscript a b pos) (ER r ta tb):=by
 intro pins s σ H Q I h;exact FW (JD ha hb I h λv u s2 x y H2 I2 rx ry q=>hr a b pins s2 σ H2 x y v u Q I2 rx ry q (hs _ _))
def RR(K:au):R2:=λx y H Q=>∃p xs i v,x=.ref p/\y=.int i/\ag K H p xs/\fH xs i=some v/\Q v H
def ZpP(K:au):R2:=λx y H Q=>∃p xs i v,x=.ref p/\y=.int i/\az K H p xs/\fH xs i=some v/\Q v H
def Zp6:R2:=λx y H Q=>∃z i c,x=.str z/\y=.int i/\z.length<=sizeLine/\fH z.cps.toList i=some c/\Q (.str ⟨#[c]⟩) H
theorem ZQ:yw X (RR X.K):=by
 intro value slice pins s σ H x y v u Q I rx ry h hs;obtain⟨p,xs,i,z,rfl,rfl,hq,he,q⟩:=h;cases rx;obtain⟨t,rfl⟩:=ry;obtain⟨its,r,pl,hz⟩:=I.list hq;obtain⟨j,h1,h2,h3,h4,h5⟩:=II he;obtain⟨w,ew,kW⟩:=r.get h2;have hl:=r.length;have hn:=vB;have fin:EP X pins σ Q w s:=⟨z,H,I,kW,q⟩;by_cases h0:0<=i
 ·have hj:i.toNat=j:=by
   rw[Nv h0 h5] at h1;exact ed h1
  exact item_listR pl.isList h0 (by lia) (by rw[hj];simpa using ew) fin hs
 ·have hj:(i+(its.toArray.size:Int)).toNat=j:=by
   rw[seqIndex_neg (by lia) h4] at h1;rw[bp,<- hl];exact ed h1
  exact X5 (x:=w) pl.isList.typeIs X3.lookup
   (wpAny_getItem_list_neg (Q:=λr s'=>r=w/\EP X pins σ Q r s') pl.isList (by lia) (by rw[bp] <;> lia) (by lia) (by rw[hj];simpa using ew) ⟨rfl,fin⟩) hs
theorem eI:yw X (ZpP X.K):=by
 intro value slice pins s σ H x y v u Q I rx ry h hs;obtain⟨p,xs,i,z,rfl,rfl,hq,he,q⟩:=h;cases rx;obtain⟨t,rfl⟩:=ry;obtain⟨its,r,pl,hz⟩:=I.tuple hq;obtain⟨j,h1,h2,h3,h4,h5⟩:=II he;obtain⟨w,ew,kW⟩:=r.get h2;have hl:=r.length;have hn:=vB;have fin:EP X pins σ Q w s:=⟨z,H,I,kW,q⟩;exact X5 (x:=w) pl.typeIs slot_tuple_getitem.lookup
  (getItem_tuple (j:=j) (Q:=λr s'=>r=w/\EP X pins σ Q r s') pl (by lia) (by lia) (by rw[bp,<- hl];exact h1) (by simpa using ew) ⟨rfl,fin⟩) hs
theorem Ru:yw X Zp6:=by
 intro value slice pins s σ H x y v u Q I rx ry h hs;obtain⟨z,i,c,rfl,rfl,hz,he,q⟩:=h;obtain⟨t,rfl⟩:=rx;obtain⟨t',rfl⟩:=ry;obtain⟨j,h1,h2,h3,h4,h5⟩:=II he;have hl:z.cps.toList.length=z.length:=by simp[Str.length]
 rw[hl] at h1 h4 h5;have hn:=vB;exact Ny (typeIs_str s z t) slot_str_getitem.lookup (getItem_str (c:=c) (by
  have e1:decide (i < -(2 ^ 63:Int))=false:=bx (by lia);have e2:decide (i>=2 ^ 63)=false:=bx (by lia);rw[e1,e2,Bool.or_false]) (by rw[h1];simpa using h2) ⟨.str ⟨#[c]⟩,H,I.tok _,⟨_,rfl⟩,q⟩) hs
theorem Ziv(its:List aa)(n j:Nat)(u:aa):a7 (·.setIfInBounds j u) { cls:=.type "list",data:=.seq its.toArray n }= { cls:=.type "list",data:=.seq (its.set j u).toArray n }:=by
 simp[a7]
theorem Inv.lst{pins:List (Addr×Obj)}{σ : St}{H:Hp}{s:af}{p:Addr}{xs:List V}(I:Inv X pins σ H s)(h:H p=some (.lst xs)) :
  ∃(its:List aa)(n:Nat),Vals xs its/\s.heap.get? p=some { cls:=.type "list",data:=.seq its.toArray n }/\xs.length<=sizeLine:=by
 obtain⟨z,its,n,r,e⟩:=I.ak p _ h;exact⟨its,n,r,e,z⟩
variable{pins:List (Addr×Obj)}{σ:St}{s:af}
theorem Inv.ZzZ{H:Hp}{p:Addr}{xs ys:List V}{its its':List aa}{n n':Nat}{f:Obj->Obj}(I:Inv X pins σ H s)(h:H p=some (.lst xs))
  (ho:s.heap.get? p=some { cls:=.type "list",data:=.seq its.toArray n }) (hf:f { cls:=.type "list",data:=.seq its.toArray n }= { cls:=.type "list",data:=.seq its'.toArray n' }) (r:Vals ys its') (hz:ys.length<=sizeLine) (t:Nat) :
  Inv X pins σ (upd H p (.lst ys)) { s with heap:=s.heap.update p f,toks:=t }:=by
 have e:(s.heap.update p f).get? p=some { cls:=.type "list",data:=.seq its'.toArray n' }:=by
  rw[m_ f ho (by rw[hf] <;> rfl),hf]
 refine I.write (x:=p) (e:=p) (by rw[h];trivial) (.inl rfl) (λb u hb q=>(iu _ _ (gS hb)).trans q) ⟨_,e⟩ ?_;exact⟨hz,its',n',r,e⟩
def Zpa:V->V->V->Hp->(Hp->Prop)->Prop:=λo i v H Q=>∃p xs k j,o=.ref p/\i=.int k/\H p=some (.lst xs)/\iS xs.length k=some j/\Q (upd H p (.lst (xs.set j v)))
theorem set_list:RP X Zpa:=by
 intro pins s σ H o i v ov iv u Q I ro ri rv h;obtain⟨p,xs,k,j,rfl,rfl,hp,hj,q⟩:=h;cases ro;obtain⟨t,rfl⟩:=ri;obtain⟨its,n,r,ho,hz⟩:=I.lst hp;obtain⟨h1,h2,h3,h4⟩:=P4 hj;have hl:=r.length;have hn:=vB;have I':Inv X pins σ (upd H p (.lst (xs.set j v))) { s with heap:=s.heap.update p (a7 (·.setIfInBounds j u)) } :=
  I.ZzZ hp ho (Ziv its n j u) (r.set rv j) (by rw[rW];exact hz) s.toks
 by_cases h0:0<=k
 ·have hk:k.toNat=j:=by
   rw[Nv h0 h4] at h1;exact ed h1
  exact PySem.W.ki_setAt ho h0 (by lia) (by rw[bp,<- hl];exact h4) (by rw[hk];exact⟨_,I',q⟩)
 ·have hk:(k+(its.toArray.size:Int)).toNat=j:=by
   rw[seqIndex_neg (by lia) h3] at h1;rw[bp,<- hl];exact ed h1
  exact PySem.W.ki_setBack ho (by lia) (by rw[bp,<- hl];exact h3) (by lia) (by rw[hk];exact⟨_,I',q⟩)
theorem Zfr(lo hi:Option Int)(n:Nat):(sliceBounds lo hi none n).1=((HT.gw n 0 lo:Nat):Int)/\(sliceBounds lo hi none n).2.1=((HT.gw n n hi:Nat):Int)/\(sliceBounds lo hi none n).2.2=1:=by
 refine⟨?_,?_,rfl⟩
 ·cases lo with
  | none=>simp[sliceBounds,HT.gw]
  | some i =>
   simp only[sliceBounds,HT.gw,WQ,show(1:Int) > 0 by decide,gF];by_cases h:i<0
   ·simp only[h,gF] <;> lia
   ·simp only[h,eV] <;> lia
 ·cases hi with
  | none=>simp[sliceBounds,HT.gw]
  | some i =>
   simp only[sliceBounds,HT.gw,WQ,show(1:Int) > 0 by decide,gF];by_cases h:i<0
   ·simp only[h,gF] <;> lia
   ·simp only[h,eV] <;> lia
theorem Zl(its:List aa)(lo hi:Option Int):slicePick its.toArray lo hi none=((its.drop (HT.gw its.length 0 lo)).take (HT.gw its.length its.length hi-HT.gw its.length 0 lo)).toArray:=by
 obtain⟨h1,h2,h3⟩:=Zfr lo hi its.toArray.size;unfold slicePick;rw[h1,h2,h3];simp only[sliceRange_one,pick_run,bp] <;> rfl
def ZpH(K:au):V->Option Int->Option Int->Hp->VK->Prop:=λx lo hi H Q=>∃a xs,x=.ref a/\ag K H a xs/\∀p,H p=none->Q (.ref p) (upd H p (.lst (kf xs lo hi)))
theorem Qk:N5 X (ZpH X.K):=by
 intro pins s σ H x v vl vu lo hi sl Q I rx hs pl pu h;obtain⟨a,xs,rfl,hx,q⟩:=h;cases rx;obtain⟨its,r,ht,hz⟩:=I.list hx;have hlen:=r.length;refine⟨"list",_,X3.lookup,ht.isList.typeIs,?_⟩;refine wpAny_getItem_list_slice ht.isList hs pl pu .none (by simp) ?_ (by rw[bp] <;> lia)
 rw[Zl,<- hlen];refine⟨.ref s.heap.objs.size,_,I.laid (t':=s.toks) (o:=.lst (kf xs lo hi)) (λb ob q=>aG _ q) (ax _) ?_,rfl,q _ (I.ak.fresh (ax _))⟩;exact⟨cm (ZgM xs lo hi) hz,_,0,(r.drop (HT.gw xs.length 0 lo)).take (HT.gw xs.length xs.length hi-HT.gw xs.length 0 lo),bE _ rfl⟩
def mz:V->Bool
 | .aD=>true
 | .bl _=>true
 | .int _=>true
 | .str _=>true
 | _=>false
def ki:V->V->Bool
 | .aD,.aD=>true
 | .bl a,.bl b=>a == b
 | .bl a,.int b=>(if a then 1 else 0) == b
 | .int a,.bl b=>a == (if b then 1 else 0)
 | .int a,.int b=>a == b
 | .str a,.str b=>a == b
 | _,_=>false
variable{x:V}
theorem ZoD{A:aI}{y:V}{u v:aa}(ry:RelV y u)(rx:RelV x v)(fy:mz y=true)(fx:mz x=true):Xo A s u v (ki y x):=by
 cases y with
 | aD =>
  cases ry;cases x with
  | aD=>cases rx;exact ZCX _
  | bl b=>cases rx;exact ZCU b
  | int b=>obtain⟨t,rfl⟩:=rx;exact ZCV b t
  | str b=>obtain⟨t,rfl⟩:=rx;exact ZCW b t
  | _=>exact absurd (show false=true from fx) cS
 | bl a =>
  cases ry;cases x with
  | aD=>cases rx;exact ZCP a
  | bl b=>cases rx;exact ZCN a b
  | int b=>obtain⟨t,rfl⟩:=rx;exact ZCO a b t
  | str b=>obtain⟨t,rfl⟩:=rx;exact ZCQ a b t
  | _=>exact absurd (show false=true from fx) cS
 | int a =>
  obtain⟨t',rfl⟩:=ry;cases x with
  | aD=>cases rx;exact ZCT a t'
  | bl b=>cases rx;exact ZCR a t' b
  | int b=>obtain⟨t,rfl⟩:=rx;exact ZCS a t' b t
  | str b=>obtain⟨t,rfl⟩:=rx;exact Xp a t' b t
  | _=>exact absurd (show false=true from fx) cS
 | str a =>
  obtain⟨t',rfl⟩:=ry;cases x with
  | aD=>cases rx;exact ZCZ a t'
  | bl b=>cases rx;exact ZCY a t' b
  | int b=>obtain⟨t,rfl⟩:=rx;exact Xq a t' b t
  | str b=>obtain⟨t,rfl⟩:=rx;exact ZC0 a t' b t
  | _=>exact absurd (show false=true from fx) cS
 | _=>exact absurd (show false=true from fy) cS
def h_(x:V)(u:aa):Bool:=match u with
 | .none=>ki .aD x
 | .bool b=>ki (.bl b) x
 | .int i _=>ki (.int i) x
 | .str z _=>ki (.str z) x
 | _=>false
theorem Rm{y:V}{u:aa}(r:RelV y u)(f:mz y=true):h_ x u=ki y x:=by
 cases y with
 | aD=>cases r;rfl
 | bl b=>cases r;rfl
 | int i=>obtain⟨t,rfl⟩:=r;rfl
 | str z=>obtain⟨t,rfl⟩:=r;rfl
 | _=>exact absurd (show false=true from f) cS
theorem yW{x:V}:∀{xs:List V}{us:List aa},Vals xs us->xs.all mz=true->us.any (h_ x)=xs.any λy=>ki y x
 | _,_,.nil,_=>rfl
 | y::xs,u::us,.cons r t,f=>by
  rw[V7,gA] at f;rw[Be,Be,Rm r f.1,yW t f.2]
theorem yO{A:aI}{s:af}{x:V}{v:aa}(rx:RelV x v)(fx:mz x=true):∀{xs:List V}{us:List aa},Vals xs us->xs.all mz=true->∀u∈us,Xo A s u v (h_ x u)
 | _,_,.nil,_=>λu hu=>by cases hu
 | y::xs,u::us,.cons r t,f=>λu' hu=>by
  rw[V7,gA] at f;rcases aV.mp hu with rfl|hu
  ·rw[Rm r f.1];exact ZoD r rx f.1 fx
  ·exact yO rx fx t f.2 u' hu
def wB(x:V)(xs:List V):Bool:=xs.any λy=>ki y x
def LS(K:au)(neg:Bool):R2:=λx y H Q=>∃p xs,y=.ref p/\(ag K H p xs\/az K H p xs)/\mz x=true/\xs.all mz=true/\Q (.bl (if neg then !wB x xs else wB x xs)) H
theorem Ib:bZ X (compareOp .In) (LS X.K false):=by
 intro pins s σ H x y v u Q I rx ry h;obtain⟨p,xs,rfl,hq,fx,fs,q⟩:=h;cases ry;rcases hq with hq|hq
 ·obtain⟨its,r,pl,hz⟩:=I.list hq;refine SeqAt.in_listAt (h_ x) pl.isList (λw hw=>yO rx fx r fs w (by simpa using hw)) ⟨.bl _,H,I,rfl,?_⟩;rw[show its.toArray.any (h_ x)=its.any (h_ x) by simp,yW r fs];exact q
 ·obtain⟨its,r,pl,hz⟩:=I.tuple hq;refine SeqAt.in_tupleAt (h_ x) pl (λw hw=>yO rx fx r fs w (by simpa using hw)) ⟨.bl _,H,I,rfl,?_⟩;rw[show its.toArray.any (h_ x)=its.any (h_ x) by simp,yW r fs];exact q
theorem Zgk:bZ X (compareOp .NotIn) (LS X.K true):=by
 intro pins s σ H x y v u Q I rx ry h;obtain⟨p,xs,rfl,hq,fx,fs,q⟩:=h;cases ry;rcases hq with hq|hq
 ·obtain⟨its,r,pl,hz⟩:=I.list hq;refine SeqAt.notIn_listAt (h_ x) pl.isList (λw hw=>yO rx fx r fs w (by simpa using hw)) ⟨.bl _,H,I,rfl,?_⟩;rw[show its.toArray.any (h_ x)=its.any (h_ x) by simp,yW r fs];exact q
 ·obtain⟨its,r,pl,hz⟩:=I.tuple hq;refine SeqAt.notIn_tupleAt (h_ x) pl (λw hw=>yO rx fx r fs w (by simpa using hw)) ⟨.bl _,H,I,rfl,?_⟩;rw[show its.toArray.any (h_ x)=its.any (h_ x) by simp,yW r fs];exact q
theorem ZP:hX X (.builtin "len") (λxs H Q=>∃p ys,xs=[.ref p]/\(ag X.K H p ys\/az X.K H p ys)/\Q (.int ys.length) H):=by
 intro pins s σ H xs us Q I r h;obtain⟨p,ys,rfl,hq,q⟩:=h;obtain⟨u,rfl,rx⟩:=vals1 r;cases rx;have hn:=vB;rcases hq with hq|hq
 ·obtain⟨its,r',pl,hz⟩:=I.list hq;have hlen:=r'.length;exact Calls.call_len_list pl.isList (by simp only[bp] <;> lia) ⟨.int ys.length,H,I.tok _,⟨s.toks+1,by rw[bp,hlen]⟩,q⟩
 ·obtain⟨its,r',pl,hz⟩:=I.tuple hq;have hlen:=r'.length;exact len_tuple pl (by simp only[bp] <;> lia) ⟨.int ys.length,H,I.tok _,⟨s.toks+1,by rw[bp,hlen]⟩,q⟩
theorem yE:hX X (.type "list") (λxs H Q=>∃p ys,xs=[.ref p]/\(ag X.K H p ys\/az X.K H p ys)/\∀l,H l=none->Q (.ref l) (upd H l (.lst ys))):=by
 intro pins s σ H xs us Q I r h;obtain⟨p,ys,rfl,hq,q⟩:=h;obtain⟨u,rfl,rx⟩:=vals1 r;cases rx;have fin:∀(its:List aa),Vals ys its->ys.length<=sizeLine->∀(h':Heap)(c':Nat),(∀b o',s.heap.get? b=some o'->h'.get? b=some o') ->
   h'.get? s.heap.objs.size=some { cls:=.type "list",dict:=none,data:=.seq its.toArray c',slots :=#[] }->EP X pins σ Q (.ref s.heap.objs.size) { s with heap:=h' }:=λits r' hz h' c' kp e =>
  ⟨.ref s.heap.objs.size,_,I.laid (t':=s.toks) kp (ax _) (show Z7 X.prog X.w _ h' _ (.lst ys) from⟨hz,its,c',r',e⟩),rfl,q _ (I.ak.fresh (ax _))⟩
 rcases hq with hq|hq
 ·obtain⟨its,r',pl,hz⟩:=I.list hq;have hlen:=r'.length;obtain⟨o,ho,hc,n,hd⟩:=pl.isList;exact XF p (.inl rfl) ho hc hd (λh' c' kp e=>fin its r' hz h' c' kp e) (by simp only[bp] <;> lia)
 ·obtain⟨its,r',pl,hz⟩:=I.tuple hq;have hlen:=r'.length;obtain⟨o,ho,hc,n,hd⟩:=pl;exact XF p (.inr rfl) ho hc hd (λh' c' kp e=>fin its r' hz h' c' kp e) (by simp only[bp] <;> lia)
theorem Hw:hX X (.type "tuple") (λxs H Q=>∃p ys,xs=[.ref p]/\((ag X.K H p ys/\∀l,H l=none->Q (.ref l) (upd H l (.tup ys)))\/(az X.K H p ys/\Q (.ref p) H))):=by
 intro pins s σ H xs us Q I r h;obtain⟨p,ys,rfl,h⟩:=h;obtain⟨u,rfl,rx⟩:=vals1 r;cases rx;rcases h with⟨hq,q⟩|⟨hq,q⟩
 ·obtain⟨its,r',pl,hz⟩:=I.list hq;have hlen:=r'.length;refine call_tuple_list pl.isList (λh' kp=>?_) (by simp only[bp] <;> lia)
  have I1:Inv X pins σ H { s with heap:=h' }:=I.kept (t':=s.toks) kp;have I2:Inv X pins σ (upd H h'.objs.size (.tup ys)) { s with heap:=h'.push { cls:=.type "tuple",data:=.seq its.toArray } } :=
   I1.laid (t':=s.toks) (λb o e=>aG _ e) (ax _) (show Z7 X.prog X.w _ _ _ (.tup ys) from⟨hz,its,r',V4 _ _⟩)
  exact⟨.ref h'.objs.size,_,I2,rfl,q _ (I1.ak.fresh (ax _))⟩
 ·obtain⟨its,r',pl,hz⟩:=I.tuple hq;exact call_tuple_same pl ⟨.ref p,H,I,rfl,q⟩
def Ma(K:au)(T:String)(x:V)(H:Hp):Prop:=match x with
 | .str _=>T= "str"
 | .int _=>T= "int"
 | .ref p=>(T= "list" /\ ∃xs,ag K H p xs)\/(T= "tuple" /\ ∃o,K.lookup p=some o/\o.cls=.type "tuple" /\ o.dict=none) \/
   (T= "dict" /\ ((∃ab,H p=some (.dK ab))\/∃ab,H p=some (.dT ab)))\/(T= "set" /\ ∃S n,H p=some (.set S n))
 | _=>False
theorem Ra{H:Hp}{T:String}{v:aa}(I:Inv X pins σ H s)(r:RelV x v)(ty:Ma X.K T x H) :
  s.TypeIs v T/\∀a,v=.ref a->∃ob,s.heap.get? a=some ob/\ob.dict=none:=by
 cases x with
 | str z =>
  obtain⟨t,rfl⟩:=r;cases (show T= "str" from ty);exact⟨typeIs_str s z t,λ_ e=>nomatch e⟩
 | int i =>
  obtain⟨t,rfl⟩:=r;cases (show T= "int" from ty);exact⟨Nz s i t,λ_ e=>nomatch e⟩
 | ref p =>
  cases r;rcases ty with⟨rfl,xs,hq⟩|⟨rfl,o,hk,hc,hd⟩|⟨rfl,hk⟩|⟨rfl,S,n,hk⟩
  ·obtain⟨its,_,pl,_⟩:=I.list hq;refine⟨pl.isList.typeIs,λa e=>?_⟩;cases e;obtain⟨o,n,e,c,hd,_⟩:=pl;exact⟨o,e,hd⟩
  ·refine⟨⟨o,I.dD p o hk,hc⟩,λa e=>?_⟩;cases e;exact⟨o,I.dD _ o hk,hd⟩
  ·have z:∃o,s.heap.get? p=some o/\o.ExactDict:=by
    rcases hk with⟨ab,hk⟩|⟨ab,hk⟩
    ·obtain⟨_,_,_,_,o,_,_,e,ex,_⟩:=I.ak p _ hk;exact⟨o,e,ex⟩
    ·obtain⟨_,_,_,_,o,_,_,e,ex,_⟩:=I.ak p _ hk;exact⟨o,e,ex⟩
   obtain⟨o,e,ex⟩:=z;refine⟨⟨o,e,ex.1⟩,λa e2=>?_⟩;cases e2;exact⟨o,e,ex.2.1⟩
  ·obtain⟨o,_,_,_,e,ex,_⟩:=I.ak p _ hk;refine⟨⟨o,e,ex.1⟩,λa e2=>?_⟩;cases e2;exact⟨o,e,ex.2.1⟩
 | _=>exact m9 ty
def Zp8(K:au)(T:String)(r:V->List V->Hp->VK->Prop)(to:TE):TE:=λσ H Q=>to σ H λx H1=>Ma K T x H1/\r x [] H1 Q
def tBM(K:au)(T:String)(r:V->List V->Hp->VK->Prop)(to:TE)(t:TA):TE:=λσ H Q=>to σ H λx H1=>Ma K T x H1/\t σ H1 λxs H2=>r x xs H2 Q
variable{o e:Expr}{es:List Expr}{to:TE}{t:TA}{name:Str}{apos eN:Pos}{T id:String}{r:V->List V->Hp->VK->Prop}
theorem yX(pa:PlainAttrs T)(slot:Slot T name id)(rh:typeOf (.builtin id)=pure (.type "method_descriptor")) (hm:Hb X id r) (ho:PE X o to)
  (zJ:attributeBase o name X.env (eval o X.env)=eval o X.env:=by rfl) (z9:(apos.endLine == eN.line)=true:=by rfl):PE X (.Call (.Attribute o name apos) [] [] eN) (Zp8 X.K T r to):=by
 intro pins s σ H Q I h;refine X7 zJ z9 (aw (ho pins s σ H _ I h) ?_);rintro v s1 ⟨x,H1,I1,r1,ty,q1⟩;obtain⟨h1,h2⟩:=Ra I1 r1 ty;exact⟨T,id,pa,slot,rh,h1,h2,A8 rfl (Xn (hm pins s1 σ H1 x [] v [] Q I1 r1 .nil q1))⟩
theorem ff(pa:PlainAttrs T)(slot:Slot T name id)(rh:typeOf (.builtin id)=pure (.type "method_descriptor")) (hm:Hb X id r) (ho:PE X o to) (ha:PA X (e::es) t)
  (zJ:attributeBase o name X.env (eval o X.env)=eval o X.env:=by rfl)
  (Zyy:((backTo eN (starEach (e::es) X.env)).all (λx=>!x.1)&&(backToKw eN (keywordEach [] X.env)).all (λx=>x.1.isSome)
   && decide ((e::es).length+([]:List xw).length+(if([]:List xw).isEmpty then 0 else 1)<30))=true:=by rfl)
  (z9:(apos.endLine == eN.line)=true:=by rfl) (hs:starEach (e::es) X.env=(false,eval e X.env)::starEach es X.env:=by rfl) (Zzf:(backTo eN (starEach es X.env)).any (·.1)=false:=by rfl) :
  PE X (.Call (.Attribute o name apos) (e::es) [] eN) (tBM X.K T r to t):=by
 intro pins s σ H Q I h;refine wpAny_Call_method_late zJ Zyy z9 rfl (aw (ho pins s σ H _ I h) ?_);rintro v s1 ⟨x,H1,I1,r1,ty,q1⟩;obtain⟨h1,h2⟩:=Ra I1 r1 ty;refine⟨T,id,pa,slot,rh,h1,h2,?_⟩;have hA:=ha eN pins s1 σ H1 _ I1 q1;rw[hs] at hA ⊢;refine A8 (by show(false || (backTo eN (starEach es X.env)).any (·.1))=false;rw[Zzf] <;> rfl) (Mq ?_)
 exact aw hA λus s2 ⟨vs,H2,I2,r2,q2⟩=>hm pins s2 σ H2 x vs v us Q I2 r1 r2 q2
/- xs.append(e),list.index on a ZDd tuple .. are Hb facts of 06m -/
end
def yz(X:Cx)(id:String)(r:V->List V->Hp->VK->Prop):Prop :=
 ∀(pins:List (Addr×Obj))(s:af)(σ : St)(H:Hp)(x:V)(xs:List V)(v:aa)(us:List aa)(Q:VK),Inv X pins σ H s->RelV x v->Vals xs us->r x xs H Q ->
  wpAny (model X.prog X.w) X.A (call (.builtin id) (v::us)) (EP X pins σ Q) X.xe s
theorem Vals.one:∀{x:V}{us:List aa},Vals [x] us->∃u,us=[u]/\RelV x u:=by
 intro x us h;cases h with
 | cons r t =>
  cases t;exact⟨_,rfl,r⟩
theorem Vals.two:∀{x y:V}{us:List aa},Vals [x,y] us->∃u v,us=[u,v]/\RelV x u/\RelV y v:=by
 intro x y us h;cases h with
 | cons r t =>
  obtain⟨v,rfl,q⟩:=Vals.one t;exact⟨_,v,rfl,r,q⟩
theorem Vals.zero:∀{us:List aa},Vals [] us->us=[]
 | _,.nil=>rfl
theorem Vals.dropLast{xs:List V}{us:List aa}(h:Vals xs us):Vals xs.dropLast us.dropLast:=by
 induction h with
 | nil=>exact .nil
 | cons r t ih =>
  cases t with
  | nil=>exact .nil
  | cons q t'=>exact .cons r ih
theorem Vals.reverse{xs:List V}{us:List aa}(h:Vals xs us):Vals xs.reverse us.reverse:=by
 induction h with
 | nil=>exact .nil
 | cons r t ih=>rw[rY,rY];exact Vals.append ih (.cons r .nil)
theorem Vals.rep{xs:List V}{us:List aa}(h:Vals xs us):∀k:Nat,Vals (cE k xs).flatten (cE k us).flatten
 | 0=>.nil
 | k+1=>by
  rw[xF,xF,Bg,Bg];exact Vals.append h (Vals.rep h k)
theorem Zid(l:List α):l.eraseIdx (l.length-1)=l.dropLast:=by
 induction l with
 | nil=>rfl
 | cons a r ih =>
  cases r with
  | nil=>rfl
  | cons b r =>
   have e:(a::b::r).length-1=((b::r).length-1)+1:=by
    have h1:(a::b::r).length=r.length+2:=rfl;have h2:(b::r).length=r.length+1:=rfl;lia
   rw[e,List.eraseIdx_cons_succ,ih]
   all_goals rfl
theorem foldl_rep(its:List aa):∀(k:Nat)(acc:List aa),
  Fn (λx1 x2=>x1++x2) acc.toArray (cE k its.toArray)=(acc++(cE k its).flatten).toArray
 | 0,acc=>by simp
 | k+1,acc=>by
  have e:acc.toArray++its.toArray=(acc++its).toArray:=by simp
  have e2:(acc++its)++(cE k its).flatten=acc++(cE (k+1) its).flatten:=by
   rw[xF,Bg,lW]
  rw[<- e2,<- foldl_rep its k (acc++its),<- e,xF,MI]
variable{pins:List (Addr×Obj)}{σ:St}{H:Hp}{s:af}{l:Addr}{xs ys:List V}{its:List aa}{t':Nat}
theorem Inv.wH{its':List aa}{f:Array aa->Array aa}(I:Inv X pins σ H s)(hH:H l=some (.lst xs))
  (e:s.heap.get? l=some { cls:=.type "list",data:=.seq its.toArray n }) (hf:f its.toArray=its'.toArray) (hv:Vals ys its') (hz:ys.length<=sizeLine) :
  Inv X pins σ (upd H l (.lst ys)) { s with heap:=s.heap.update l (a7 f),toks:=t' }:=by
 have q:=PySem.IsL.update e f;rw[hf] at q;refine I.write (x:=l) (e:=l) (by rw[hH];exact trivial) (.inl rfl) (λb' u hb hu=>(iu s.heap (a7 f) (gS hb)).trans hu) ⟨_,q⟩ ?_;exact⟨hz,its',_,hv,q⟩
theorem Inv.wG(I:Inv X pins σ H s)(hv:Vals ys its)(hz:ys.length<=sizeLine) :
  Inv X pins σ (upd H s.heap.objs.size (.lst ys)) { s with heap:=s.heap.push { cls:=.type "list",data:=.seq its.toArray },toks:=t' } :=
 I.laid (λ_ _ q=>aG _ q) (ax _) ⟨hz,its,0,hv,bE _ rfl⟩
theorem Inv.fresh(I:Inv X pins σ H s):H s.heap.objs.size=none:=I.ak.fresh (ax _)
theorem Inv.iT(I:Inv X pins σ H s)(hH:H l=some (.lst xs)):xs.length<=sizeLine/\∃(its:List aa)(n:Nat),Vals xs its/\xs.length=its.length/\s.heap.get? l=some { cls:=.type "list",data:=.seq its.toArray n }:=by
 obtain⟨z,its,n,r,e⟩:=I.ak l _ hH;exact⟨z,its,n,r,r.length,e⟩
theorem Pd(h:n<=sizeLine):A7 n=false:=by
 unfold A7;exact bx (by lia)
def ZnE:V->List V->Hp->VK->Prop:=λx vs H Q=>∃l xs y,x=.ref l/\vs=[y]/\H l=some (.lst xs)/\xs.length<sizeLine/\Q .aD (upd H l (.lst (xs ++ [y])))
theorem ZG:yz X "list.append" ZnE:=by
 intro pins s σ H x vs v us Q I rx rv h;obtain⟨l,xs,y,rfl,rfl,hH,hz,q⟩:=h;cases rx;obtain⟨u,rfl,ru⟩:=rv.one;obtain⟨z,its,n,r,hl,e⟩:=I.iT hH;refine xQ F.slot_list_append ⟨_,e,rfl⟩ F.entry_list_append (F.args_list_append_2 _ _) (PySem.list_append l its.toArray n u (by rw[bp];lia)) ⟨e,?_⟩;refine⟨.aD,_,I.wH (its':=its ++ [u]) hH e (by simp) (r.append (.cons ru .nil)) ?_,rfl,q⟩;rw[aH,cL];lia
def ZpQ:V->List V->Hp->VK->Prop:=λx vs H Q=>∃l xs y,x=.ref l/\vs=[]/\H l=some (.lst xs)/\xs[xs.length-1]?= some y/\Q y (upd H l (.lst xs.dropLast))
theorem yZ:yz X "list.pop" ZpQ:=by
 intro pins s σ H x vs v us Q I rx rv h;obtain⟨l,xs,y,rfl,rfl,hH,hy,q⟩:=h;cases rx;have Lg:=rv.zero;subst Lg;obtain⟨z,its,n,r,hl,e⟩:=I.iT hH;obtain⟨u,hu,ru⟩:=r.get hy;have Gz:its.toArray[its.toArray.size-1]?= some u:=by
  show its.toArray[its.length-1]?= some u;rw[<- jM,<- hl];exact hu
 refine xQ F.slot_list_pop ⟨_,e,rfl⟩ F.entry_list_pop (F.args_list_pop_1 _) (MeetsSeq.list_pop_last l its.toArray n u Gz (by rw[bp];lia)) ⟨e,?_⟩;refine⟨y,_,I.wH (its':=its.dropLast) hH e ?_ r.dropLast ?_,ru,q⟩
 ·show its.toArray.eraseIdxIfInBounds (its.toArray.size-1)=its.dropLast.toArray;rw[bp,List.eraseIdxIfInBounds_toArray,Zid]
 ·rw[List.length_dropLast];lia
def ZpR:R2:=λx y H Q=>∃l b xs zs,x=.ref l/\y=.ref b/\H l=some (.lst xs)/\H b=some (.lst zs)/\xs.length+zs.length<=sizeLine/\∀p,H p=none->Q (.ref p) (upd H p (.lst (xs++zs)))
theorem ze:bZ X (binaryOp .Add) ZpR:=by
 intro pins s σ H x y v u Q I rx ry h;obtain⟨l,b,xs,zs,rfl,rfl,hH,hB,hz,q⟩:=h;cases rx;cases ry;obtain⟨z,its,n,r,hl,e⟩:=I.iT hH;obtain⟨z2,fJ,n2,r2,vX,e2⟩:=I.iT hB;refine PySem.P.add_list e e2 ?_ (by rw[bp,bp];lia);have ea:its.toArray++fJ.toArray=(its++fJ).toArray:=by simp
 rw[ea];exact⟨.ref _,_,I.wG (t':=s.toks) (r.append r2) (by rw[aH];lia),rfl,q _ I.fresh⟩
def ZpJ:R2:=λx y H Q=>∃l k xs,x=.ref l/\y=.int k/\H l=some (.lst xs) /\ -(2 ^ 63)<=k/\k<2 ^ 63/\xs.length*k.toNat<=sizeLine /\
 ∀p,H p=none->Q (.ref p) (upd H p (.lst (cE k.toNat xs).flatten))
theorem len_rep(xs:List α)(k:Nat):(cE k xs).flatten.length=k*xs.length:=by
 induction k with
 | zero=>simp
 | succ k ih=>rw[xF,Bg,aH,ih,Nat.succ_mul,Nat.add_comm]
theorem QX:bZ X (binaryOp .Mult) ZpJ:=by
 intro pins s σ H x y v u Q I rx ry h;obtain⟨l,k,xs,rfl,rfl,hH,h1,h2,hz,q⟩:=h;cases rx;obtain⟨t,rfl⟩:=ry;obtain⟨z,its,n,r,hl,e⟩:=I.iT hH;have hlen:its.toArray.size*k.toNat<=sizeLine:=by rw[bp,<- hl];exact hz
 have ij : ¬ its.toArray.size*k.toNat > (2 ^ 63-1) / 8:=by
  have:(sizeLine:Nat)<=(2 ^ 63-1) / 8:=by decide
  lia
 have Zyz : ¬ (!ZBV k)=true:=by
  rw[fitsIndex_both h1 h2];exact cS
 have KU : ¬ A7 (its.toArray.size*k.toNat)=true:=by
  rw[Pd hlen];exact cS
 have oX:Fn (λx1 x2=>x1++x2) #[] (cE (if its.toArray.isEmpty=true then 0 else k.toNat) its.toArray)=(cE k.toNat its).flatten.toArray:=by
  have f0:∀m:Nat,Fn (λx1 x2=>x1++x2) #[] (cE m its.toArray)=(cE m its).flatten.toArray:=λm=>by
   have:=foldl_rep its m [];rw[uN] at this;exact this
  rw[f0];cases its with
  | nil=>simp
  | cons a r'=>rw[ah (by simp)]
 refine wpAny_binaryOp_repeat_ref (T := "list") (U := "int") (by decide) ⟨_,e,rfl⟩ (λs'=>Nz s' k t) noFill_list_mul F.fills_int_mul VW repeat_list F.slot_int_index.lookup
  (xQ VW (Nz s k t) F.entry_int_rmul (F.args_int_rmul_2 _ _) (int___rmul___int_list k t l its.toArray n)
   ⟨e,rfl,⟨_,e,rfl⟩,xQ F.slot_list_mul ⟨_,e,rfl⟩ F.entry_list_mul (F.args_list_mul_2 _ _) (AutoListH.list___mul___list_int_3 l its.toArray n k t Zyz ij KU) ⟨e,?_⟩⟩)
 rw[oX];exact⟨.ref _,_,I.wG (t':=s.toks) (r.rep k.toNat) (by rw[len_rep,WG];exact hz),rfl,q _ I.fresh⟩
end L2
namespace N0
open PySem PySem.W PySem.Calls PyProof.Rows
theorem ZE{P:FJ}{h:Heap}:∀(ns:List Int)(vs:List aa),WellAll P h vs (ns.map XC)->kP vs ns:=by
 intro ns
 induction ns with
 | nil =>
  intro vs w;rw[Wi] at w;cases w;exact .nil
 | cons n ns ih =>
  intro vs w;rw[ck] at w;cases w with
  | cons a b =>
   cases a;exact .cons _ _ (ih _ b)
variable{n:Nat}
theorem ZkL{l:MX}(hn:l.most=some n){P:FJ}{h:Heap}{args:List WData}{vals:List aa}
  (DZ:l.row.toRowW.claim.pre args=true) (ip:WellAll P h vals args) :
  ∃a vs ns,vals=[aO a]/\args=[WData.list (ns.map XC)]/\h.get? a=some { cls:=.type "list",data:=.seq vs.toArray }/\kP vs ns/\ns.length<=n:=by
 have K':WShape.hasAll [] args [.list .int]=true:=(pre_splitW DZ).1;have hc:l.pre.holds [] { args:=args }=true:=(pre_splitW DZ).2;obtain⟨d,r,rfl,h1,h2⟩:=hasAllW_cons K';obtain rfl:=hasAllW_nil h2;obtain⟨xs,rfl,h3⟩:=hasW_list h1;obtain⟨ns,rfl⟩:=items_int h3;have hlen:ns.length<=n:=by
  unfold MX.pre at hc;have h4:(WTm.not (.lt (.lit (.int (n:Int))) (.len (.arg 0)))).holds [] { args:=[.list (ns.map .int)] }=true:=by
   have h4:=(holds_andW hc).1;rw[hn] at h4;exact h4
  have h5:=condW_of h4 (w_not (w_lt w_lit (w_len_list (w_arg rfl))));rw[ar] at h5;refine Nat.le_of_not_lt λq=>?_;have q':(n:Int)<((ns.length:Nat):Int):=by lia
  first
   | (rw[aP q'] at h5;exact absurd h5 (by decide))
   | (simp at h5;lia)
 cases ip with
 | cons w1 w2 =>
  cases w2;cases w1 with
  | list ho ig=>exact⟨_,_,ns,rfl,rfl,ho,ZE ns _ ig,hlen⟩
theorem Zkc(l:MX)(args:List WData):l.row.toRowW.claim.post args (.bool true) args=true :=
 postW_of (r:=l.row.toRowW) (X:=(true == true))
  (show XD [] (.bool true) .bool=true by first|rfl|decide|simp[XD,WShape.arms,WShape.armsAll])
  (show(WTm.eq .res (.lit (.bool true))).value [] { args:=args,res:=some (.bool true),after:=args }=some (.bool (true == true)) from w_eq_bool (w_res rfl) w_lit) rfl
theorem Zg9{l:MX}{q:aC}{loose:List Str}{XP:(Str->Option aa)->Heap->Prop}{YP:ay->Heap->Prop}{d:DefRec}
  (hn:l.most=some n) (qP:d.params.defaults=[])
  (call:∀(w:ay)(dt aT : af)(mg mb:Str->Option aa)(fa:Addr)(o:Obj)(pm cd doc:aa)(a:Addr)(vs:List aa)(ns:List Int),
   Ground q loose [] XP w dt mg mb aT.heap->YP w aT.heap ->
   aT.heap.get? fa=some o->o.data=.func (docDef d.name d.params d.body d.scope pm cd doc)->aT.heap.CodeRec cd d.name->mg d.name=some (.ref fa) ->
   aT.heap.get? a=some { cls:=.type "list",data:=.seq vs.toArray }->kP vs ns->ns.length<=n->aT.gens=#[] ->
   codeAny (model l.prog w) callerA (.call (.ref fa) ⟨[.ref a],[]⟩) (λr s'=>r=.ok (.ret (.bool true))/\OldK aT.heap s'.heap/\s'.os=aT.os/\pJ s'.gens) aT) :
  WalkO q loose XP YP l.row.toRowW d [] (λf vs=>Nf f vs):=by
 intro w dt aT mg mb G Y fa o pm cd doc dV kV ho hd fh hD ua hg args vals as DZ ZDM hrd ip hlo;obtain rfl:dV=.none:=Dflts.none hD qP;obtain rfl:kV=.none:=Dflts.noKw hD;obtain⟨a,vs,ns,rfl,rfl,K2,hints,hlen⟩:=ZkL hn DZ ip;refine enter_call (xR (call w dt aT mg mb fa o pm cd doc a vs ns G Y ho (fd_plain hd) fh ua K2 hints hlen hg) λr s' hq=>?_);obtain⟨rfl,h2,h3,h4⟩:=hq;exact⟨.inl ⟨.bool true,.bool true,[],rfl,λ_=>rfl,.bool true,Zkc l _,λ_=>⟨MB,λ_ hm=>(nomatch hm)⟩⟩,h2,h3,h4⟩
end N0
namespace L2
open PySem PySem.Spec PyProof.Rows
theorem OY:∀{vs:List aa}{ns:List Int},kP vs ns->Vals (ns.map V.int) vs
 | _,_,.nil=>.nil
 | _,_,.cons n t h=>.cons ⟨t,rfl⟩ (OY h)
end L2
/- THE ZDj ZDm (shape;LID,My.* are ZEH):
   My.Adr: a structure of kN addresses ES ZEG ZEf names (classes,ZDu);My.Txt K t: a structure (Prop) of kN equations over K;
   My.ZBe:{K} {implicit addresses ..} (e1:nsIn K mainGlobals "law" = some (some (.ref f))) (e2:K.lookup f=some ⟨oc,od,.func (fnOf "law" "law" params body scope dV kV doc pm an aK ct),sl⟩) (e3:codeIn K aK "law" = true) .. : ∃t,My.Txt K t
set_option maxRecDepth 100000 in
set_option maxHeartbeats 0 in
theorem PySem.Challenge.cw_LID_holds : PySem.Challenge.rw_LID.Holds := by
 w_on;o_law;k_head;(case hw=>w_witness2)
 k_fill
 refine L2.ZEC (l:=PySem.Challenge.rw_LID) (n:=63) (k:=40) (x := "script") (CX:=λw=>..) (sp:=λ_=>My.ZEs) rfl (by decide) rfl ⟨rfl,by decide,by decide⟩ (λw h Y=>PySem.W.kIn_of Y) ?F ?S ?C
 case F =>
  intro w mg fa h KX G ua;have T:∃t,My.Txt (L2.YG KX) t:=by
   dsimp only[L2.YG]                          -- K ZEm ZEt as «<heap const> w.params» for k_is
   refine' My.ZBe ?e1 ?e2 ?e3 ..
   (case e1=>PySem.W.k_is)                    -- in kN order: a name->its address->its object->its parts
   (case e2=>PySem.W.k_is)
   ..
  obtain⟨t,T⟩:=T;have e0:=ua.symm.trans (dH KX G T.law);cases e0                                       -- fa is kN ZDc own address
  exact⟨_,λs u=>.of_eq rfl,λbase kb nb=>My.ZzX T kb nb⟩     -- if «.of_eq rfl» comes too early: refine' ⟨_,?b,λbase kb nb=>My.ZzX T kb nb⟩;exact λs u=>.of_eq rfl
 case S=>exact λw H a ns hl hO hS=>..
 case C=>exact ..
(kN tactic k_is has no namespace: write k_is) -/
namespace L2
open PySem PySem.Spec PyProof.Rows
def inClass(s:Stmt)(j:Nat):Stmt:=match s with
 | .ClassDef _ _ _ body _ _ _ _ _ _ _=>body.getD j (.Pass ⟨0,0,0,0⟩)
 | _=>.Pass ⟨0,0,0,0⟩
def yR(s:Stmt):uF:=match s with
 | .FunctionDef _ a _ _ _ _ _ _ _ _=>a
 | _=>{ posonlyargs:=[],args:=[],vararg:=none,kwonlyargs:=[],kw_defaults:=[],kwarg:=none,defaults:=[] }
def Zn(s:Stmt):List Stmt:=match s with
 | .FunctionDef _ _ b _ _ _ _ _ _ _=>b
 | _=>[]
def Zk(s:Stmt):cY:=match s with
 | .FunctionDef _ _ _ _ _ _ sc _ _ _=>sc
 | _=>{ kind:=.function,names:=[],isGenerator:=false,isCoroutine:=false }
abbrev bq:mf:=λ_ _ _ _ _ _=>False
abbrev E0:XK:=λ_ _ _=>False
variable{X:Cx}
theorem vG:s_ bq X E0:=λ_ _ _ _ _ _ _ h=>h.elim
structure bC(K:au)(x qual:Str)(st:Stmt)(f:Addr)(fd:dP):Prop where
 ex:∃(oc:aa)(od:Option Addr)(kV doc pm:aa)(an:Option Addr)(aK ct:aa)(pe:Array (Option aa)),
  fd=xN x qual (yR st) (Zn st) (Zk st) .none kV doc pm an aK ct/\K.lookup f=some ⟨oc,od,.func fd,pe⟩/\M9 K aK qual=true
 kp:xO K (.ref f)=true
variable{P:aC}{w:ay}{K:au}{mg:Str->Option aa}{base:Heap}{x qual:Str}{st:Stmt}{f:Addr}{fd:dP}{ps:List Str}
theorem bC.ok{N:List Str}{k:Nat}{sp:Sp}(F:bC K x qual st f fd)(S:bS N ps (Zk st))(len:∀vs H Q E,sp vs H Q E->vs.length=ps.length)
  (tS:∀(aK:aa)(A:aI)(outer:List Env)(s:af)(H:Hp)(vs:List V)(Q:VK)(E:XK),bL k (A.deeper (envOfC qual (Zk st) s.heap.objs.size f aK))->sp vs H Q E ->
   ∃t,dB (tG bq P w K mg base N qual (Zk st) f aK A outer s H E).wK (Zn st) t/\t { nx:=λ_ H'=>Q .aD H',rt:=Q } (start N vs) H):aX P w K mg base bq (k+1) f fd ps sp:=by
 obtain⟨oc,od,kV,doc,pm,an,aK,ct,pe,rfl,lk,fh⟩:=F.ex;refine Ry lk fh S len λA outer s H vs Q E hr jB=>?_;obtain⟨t,h,q⟩:=tS aK A outer s H vs Q E hr jB;exact⟨t,h.wK,q⟩
theorem bC.binds(F:bC K x qual st f fd)
  (h:∀(kV doc pm:aa)(an:Option Addr)(aK ct:aa)(us:List aa),us.length=ps.length->bindArgs (xN x qual (yR st) (Zn st) (Zk st) .none kV doc pm an aK ct) ⟨us,[]⟩=pure (ps.zip us)):Binds K fd ps []:=by
 obtain⟨oc,od,kV,doc,pm,an,aK,ct,pe,rfl,lk,fh⟩:=F.ex;exact .all (h kV doc pm an aK ct)
theorem ZS{oc:aa}{od an:Option Addr}{pe:Array (Option aa)}{kV doc pm aK ct:aa}(l:K.lookup f=some ⟨oc,od,.func (xN x qual (yR st) (Zn st) (Zk st) .none kV doc pm an aK ct),pe⟩)
  (c:M9 K aK qual=true) (k:xO K (.ref f)=true):bC K x qual st f (xN x qual (yR st) (Zn st) (Zk st) .none kV doc pm an aK ct):=⟨⟨oc,od,kV,doc,pm,an,aK,ct,pe,rfl,l,c⟩,k⟩
theorem vE{A:aI}{k:Nat}(hr:bL k A):A.units+1<cLine:=xI (Nat.add_le_add_left (by decide:1<=64) _) hr.units
theorem pv(i:Nat){x:Str}{pos:Pos}(hN:X.N[i]?= some x:=by rfl)(hv:He X.env.scope x:=by first|exact Or.inl rfl|exact Or.inr (Or.inl rfl)|exact Or.inr (Or.inr rfl))(hd:(x == ("__debug__" : Str))=false:=by decide)
  (fh:(x == ("__classdict__" : Str))=false:=by decide):PE X (.Name x pos) (C1 i):=Zoz hN hv hd fh
variable{A B:Prop}
theorem b9(h:B):if false=true then A else B:=by
 rw[ah cS];exact h
theorem cA(h:A):if true=true then A else B:=by
 rw[aj rfl];exact h
theorem cC{c:Prop}[Decidable c](h1:c->A)(h2 : ¬ c->B):if c then A else B:=by
 by_cases h:c
 ·rw[aj h];exact h1 h
 ·rw[ah h];exact h2 h
def Zh(H H':Hp):Prop := ∀b o,H b=some o->H' b=some o
theorem Zh.refl(H:Hp):Zh H H:=λ_ _ h=>h
variable{H:Hp}
theorem Zh.trans{H1 H2:Hp}(a:Zh H H1)(b:Zh H1 H2):Zh H H2:=λc o h=>b c o (a c o h)
variable{H':Hp}
theorem Zh.free(e:Zh H H'){l:Addr}(h:H' l=WT):H l=WT:=by
 cases q:H l with
 | none=>rfl
 | some o =>
  rw[e l o q] at h;cases h
theorem Zh.seq{a:Addr}{xs:List V}(e:Zh H H')(h:ag K H a xs):ag K H' a xs:=by
 rcases h with(h|⟨o,h⟩)|h
 ·exact .inl (.inl (e _ _ h))
 ·exact .inl (.inr ⟨o,e _ _ h⟩)
 ·exact .inr h
end L2
namespace g6
inductive Gr(A:Type) where
 | nil
 | cons (t:A) (w o:Gr A)
section
variable{A:Type}
def words(sl:A):Gr A->List A
 | .nil=>[]
 | .cons t w o=>t::(words sl w++sl::words sl o)
section
variable[DecidableEq A]
def dA(sl:A):Nat->List A->Prop
 | h,[]=>h=0
 | h,w::ws=>if w=sl then 1<=h/\dA sl (h-1) ws else dA sl (h+1) ws
theorem sV{sl w:A}(hw:w≠sl){h:Nat}{ws:List A}:dA sl h (w::ws)↔dA sl (h+1) ws:=by
 simp[dA,hw]
theorem yS{sl:A}{h:Nat}{ws:List A}:dA sl h (sl::ws)↔1<=h/\dA sl (h-1) ws:=by
 simp[dA]
def gj(sl:A):Gr A->Prop
 | .nil=>True
 | .cons t w o=>t≠sl/\gj sl w/\gj sl o
def zW(sl:A):List A->Int
 | []=>0
 | w::ws=>(if w=sl then -1 else 1)+zW sl ws
end
abbrev Item(A:Type):=Option (A×Gr A)
def wi(sl:A):Item A->List A
 | none=>[sl]
 | some (t,w)=>t::(words sl w ++ [sl])
def items:Gr A->List (Item A)
 | .nil=>[]
 | .cons t w o=>some (t,w)::items o
theorem HN(sl:A):∀g:Gr A,(items g).flatMap (wi sl)=words sl g
 | .nil=>rfl
 | .cons t w o=>by simp[items,wi,words,HN sl o]
def gf(sl:A)(st:List (Item A)):List A:=st.reverse.flatMap (wi sl)
theorem ZiD(sl:A):gf sl ([]:List (Item A))=[]:=rfl
theorem Hm(sl:A)(st:List (Item A))(x:Item A):gf sl (st ++ [x])=wi sl x++gf sl st:=by
 simp[gf]
theorem ZfD(sl:A)(g:Gr A):gf sl (items g).reverse=words sl g:=by
 simp[gf,HN]
theorem OD(sl:A)(st:List (Item A))(w:Gr A):gf sl (st ++ [none]++(items w).reverse)=words sl w++sl::gf sl st:=by
 simp[gf,HN,wi]
theorem Zif(sl:A):∀st:List (Item A),st.length<=(gf sl st).length:=by
 intro st;have h:∀l:List (Item A),l.length<=(l.flatMap (wi sl)).length:=by
  intro l
  induction l with
  | nil=>exact ax _
  | cons x l ih =>
   rw[List.flatMap_cons,aH,bI];have:1<=(wi sl x).length:=by cases x with
    | none=>exact ax _
    | some p=>obtain⟨t,w⟩:=p;simp[wi]
   lia
 have:=h st.reverse;rw[pP] at this;exact this
end
end g6
namespace L2
open PySem PySem.Spec PyProof.Rows
theorem n_:bootBuiltins "list" = some (.type "list"):=by decide +kernel
theorem Ik:bootBuiltins "tuple" = some (.type "tuple"):=by decide +kernel
theorem Cw:bootBuiltins "dict" = some (.type "dict"):=by decide +kernel
theorem Zn3:bootBuiltins "max" = some (.builtin "max"):=by decide +kernel
theorem QZ:bootBuiltins "min" = some (.builtin "min"):=by decide +kernel
theorem Of:bootBuiltins "isinstance" = some (.builtin "isinstance"):=by decide +kernel
variable{X:Cx}
theorem RI{x:Str}{n:String}{pos:Pos}(hg:Gl X x)(hm:X.mg x=none)(hv:bootBuiltins x=some (.type n))(hn:x ≠ "__name__" := by decide) (hd:(x == ("__debug__" : Str))=false:=by decide):PE X (.Name x pos) (tC (.ty n)) :=
 Znh (v:=.ty n) hg hm hv rfl hn hd
theorem Oj:hX X (.builtin "isinstance") (λxs H Q=>∃x n t b,xs=[x,.ty n]/\jg X.K H x t/\Xh X.K t (.type n)=some b/\Q (.bl b) H):=by
 intro pins s σ H xs us Q I r h;obtain⟨x,n,t,b,rfl,ty,e,q⟩:=h;obtain⟨u,v,rfl,rx,ry⟩:=Vals.two r;obtain rfl:v=dy n:=ry;exact ZjF I rx ty e λtk=>⟨.bl b,H,I.tok tk,rfl,q⟩
structure cx(P:aC)(w:ay)(K:au)(mg:Str->Option aa)(base:Heap)(x:Str)(ps:List Str)(k:Nat)(sp:Sp):Prop where
 ex:∃(f:Addr)(fd:dP),aX P w K mg base bq k f fd ps sp/\Binds K fd ps []/\xO K (.ref f)=true/\mg x=some (.ref f)
section
variable{X:Cx}{x:Str}{ps:List Str}{j k:Nat}{sp:Sp}{e:Expr}{es:List Expr}{t:TA}{p pos:Pos}
theorem aX.room{P:aC}{w:ay}{K:au}{mg:Str->Option aa}{base:Heap}{CX:mf}{f:Addr}{fd:dP}(F:aX P w K mg base CX j f fd ps sp)(h:j<=k):aX P w K mg base CX k f fd ps sp :=
 ⟨F.len,λA outer s H args us vs Q E hr=>F.run A outer s H args us vs Q E (hr.mono h)⟩
theorem c8(G:cx X.prog X.w X.K X.mg X.base x ps j sp)(hr:bL k X.A)(hg:Gl X x)(ha:PA X (e::es) t)(hk:j<=k:=by decide)(eR:(x == ("__debug__" : Str))=false:=by decide)
  (he:starEach (e::es) X.env=(false,eval e X.env)::starEach es X.env:=by rfl) (bD:(backTo pos (starEach es X.env)).any (·.1)=false:=by rfl) :
  PE X (.Call (.Name x p) (e::es) [] pos) (RG sp [] E0 t):=by
 obtain⟨f,fd,F,b,kp,m⟩:=G.ex;exact ZnI (F.room hk) hr hg m kp b .nil vG ha eR he bD
end
theorem Y0(l:Addr)(items:Array aa)(n:Nat)(b:Addr)(bU:Array aa)(n2:Nat)(kh:Option Addr)(kM:Array (Option aa))
  (rc : ¬(!items.isEmpty&&A7 (items.size+bU.size))=true) (ui:items.size<=sizeLine) (gr:items.size+bU.size<=sizeLine+1) :
  Bk (dG.«list.extend» ⟨[.ref l,.ref b],[]⟩) (λ_ R s=>s.heap.get? l=some { cls:=.type "list",dict:=none,data:=.seq items n,slots :=#[] }
   /\ s.heap.get? b=some { cls:=.type "tuple",dict:=kh,data:=.seq bU n2,slots:=kM }/\R (.ok (.ret bg)) { s with heap:=s.heap.update l (a7 λx=>x++bU),toks:=s.toks }) :=
 .of_wp λprog w A R s h=>by
  obtain⟨hp,g,d,tk,os⟩:=s;obtain⟨hl,hb,h⟩:=h;have f2:=Vx;have f3:=Vw;have f4:=AutoSeq1.sub_tuple_list;have f5:=AutoSeq1.sub_list_tuple;have Yw:(items++bU).size<=sizeLine+1:=by
   rw[Ml];exact gr
  wp_walk using (p8 hl rfl (hz:=ui) (_hz':=Yw)),Vl hl,Vl hb
  exact⟨_,rfl,h⟩
def ZlX(K:au):V->List V->Hp->VK->Prop:=λx vs H Q=>∃l b xs zs,x=.ref l/\vs=[.ref b]/\H l=some (.lst xs)/\az K H b zs/\xs.length+zs.length<=sizeLine/\Q .aD (upd H l (.lst (xs++zs)))
theorem Zim:yz X "list.extend" (ZlX X.K):=by
 intro pins s σ H x vs v us Q I rx rv h;obtain⟨l,b,xs,zs,rfl,rfl,hH,hB,hz,q⟩:=h;cases rx;obtain⟨u,rfl,ru⟩:=rv.one;cases ru;obtain⟨z,its,n,r,hl,e⟩:=I.iT hH;obtain⟨fJ,r2,tup,z2⟩:=I.tuple hB;obtain⟨⟨cls,dd,data,sl⟩,ho,hc,n2,hd⟩:=tup;simp only at hc hd;subst hc hd;have vX:=r2.length;have hsz:its.toArray.size+fJ.toArray.size<=sizeLine:=by
  rw[bp,bp,<- hl,<- vX];exact hz
 have KU : ¬ (!its.toArray.isEmpty&&A7 (its.toArray.size+fJ.toArray.size))=true:=by
  rw[Pd hsz,Bool.and_false];exact cS
 refine xQ VX ⟨_,e,rfl⟩ VS (VP _ _)
  (Y0 l its.toArray n b fJ.toArray n2 dd sl KU (by rw[bp];lia) (by lia)) ⟨e,ho,?_⟩
 refine⟨.aD,_,I.wH (its':=its++fJ) hH e (by simp) (r.append r2) ?_,rfl,q⟩;rw[aH];lia
end L2
namespace HT
open PySem PyProof.Rows
theorem Zir(n:Nat):Mp none none (-1) (n:Int)=((n:Int)-1,-1):=by
 unfold Mp;rfl
theorem ZiH(n:Nat):E7 ((n:Int)-1) (-1) (-1)=n:=by
 unfold E7;have h1 : ¬ ((-1:Int) > 0):=by lia
 have h2:(-(-1:Int))=1:=rfl;simp only[h1,eV,h2,Int.ediv_one]
 split <;> lia
variable{prog:aC}{w:ay}{A:aI}{E:aa->af->Prop}{s:af}{sl:Addr}{vl vu vs:aa}
theorem Y6{n:Nat}{Q:Int×Int×Nat->af->Prop}(hs:s.heap.IsSliceOf sl vl vu vs)(pl:ng vl none)(pu:ng vu none)(ps:ng vs (some (-1)))
  (h:Q ((n:Int)-1,-1,n) s):wpAny (model prog w) A (VG (.ref sl) (pure (n:Int))) Q E s:=by
 obtain⟨os,kH,zN,Dz⟩:=id hs;unfold VG ZBY;refine ae (ae (uU kH Dz (x:=vl) rfl (ae (uU kH Dz (x:=vu) rfl (ae (uU kH Dz (x:=vs) rfl (ai ?_)))))));refine ae (Hz ps ?_);show wpAny _ _ (if((-1:Int) == 0)=true then _ else _) _ _ s
 rw[ah (by decide)];refine ae (Hz pl (ae (Hz pu (ae (ai ?_)))));show wpAny _ _ (match Mp none none (-1) (n:Int) with|(lo,hi)=>pure (lo,(-1:Int),E7 lo hi (-1))) _ _ s
 rw[Zir n];show wpAny _ _ (pure ((n:Int)-1,(-1:Int),E7 ((n:Int)-1) (-1) (-1))) _ _ s;rw[ZiH];exact ai h
theorem PH{α : Type}(l:List α):∀k:Nat,k<=l.length->((c_ k).filterMap λ(m:Nat)=>l.toArray[((l.length:Int)-1+(m:Int)*(-1)).toNat]?)=l.reverse.take k
 | 0,_=>by simp
 | k+1,hk=>by
  rw[MQ,List.filterMap_append,PH l k (by lia),List.take_succ]
  congr 1
  have e:((l.length:Int)-1+(k:Int)*(-1)).toNat=l.length-1-k:=by lia
  simp only[Fl,List.filterMap_nil,e,List.getElem?_toArray];rw[List.getElem?_reverse (by lia)];cases l[l.length-1-k]? <;> rfl
theorem YL{t:Addr}{its:List aa}{Q:aa->af->Prop}(ht:IsTup s.heap t its.toArray)(hs:s.heap.IsSliceOf sl vl vu vs)(pl:ng vl none)(pu:ng vu none)(ps:ng vs (some (-1)))
  (h:Q (.ref s.heap.objs.size) { s with heap:=s.heap.push { cls:=.type "tuple",data:=.seq its.reverse.toArray } })
  (hsz:its.length<=sizeLine):wpAny (model prog w) A (getItem (.ref t) (.ref sl)) Q E s:=by
 have ak:sizeOk (.seq its.reverse.toArray):=by
  show its.reverse.toArray.size<=sizeLine;rw[bp,pP];exact hsz
 obtain⟨os,kH,zN,Dz⟩:=id hs;have hTs:s.TypeIs (.ref sl) "slice" := ⟨os,kH,zN⟩;unfold getItem
 try with_reducible refine eW ?_
 first|refine ae (ai ?_)|skip
 refine ae (wpAny_sequenceKey ht.typeIs (by decide) ?_);refine ae (uT (name:=bw "__getitem__") ht.typeIs M0
  (jW M0 ht.typeIs entry_tuple_getitem ?_ (args_tuple_getitem _ _)))
 show wpAny _ _ (ZB1 (.ref t) >>= _) _ _ s;refine ae (tupleItemsOf_ ht ?_);refine ae (uW hTs ?_);rw[aj (by decide)];refine ae (Y6 (n:=its.toArray.size) hs pl pu ps ?_);have dS : ¬ (((its.toArray.size:Int)-1 == 0&&(-1:Int) == 1&&its.toArray.size == its.toArray.size)=true):=by
  intro q;rw[gA,gA] at q;exact absurd q.1.2 (by decide)
 show wpAny _ _ (if((its.toArray.size:Int)-1 == 0&&(-1:Int) == 1&&its.toArray.size == its.toArray.size)=true then _ else _) _ _ s
 have hp:=PH its its.length (ax _);rw[xG (by simp)] at hp;rw[ah dS];simp only[bp];rw[hp]
 first
  | exact ae (m:=E8 _) (gG (ai ⟨_,rfl,ai h⟩) ak)
  | exact ae (m:=E8 _) (gG (ae (ai (ai ⟨_,rfl,ai h⟩))) ak)
  | exact ae (ae (m:=E8 _) (gG (ai (ai ⟨_,rfl,ai h⟩)) ak))
  | exact ae (ae (m:=E8 _) (gG (ai ⟨_,rfl,ai h⟩) ak))
end HT
namespace L2
open PySem PySem.Spec PyProof.Rows
mutual
inductive Dp(K:au)(H:Hp):V->dQ->Prop
 | aD:Dp K H .aD .none
 | bl (b:Bool):Dp K H (.bl b) (.bool b)
 | int (i:Int):Dp K H (.int i) (.int i)
 | str (x:Str):Dp K H (.str x) (.str x)
 | lst {a:Addr} {xs:List V} {ds:List dQ}:ag K H a xs->kX K H xs ds->Dp K H (.ref a) (.list ds)
 | tup {a:Addr} {xs:List V} {ds:List dQ}:az K H a xs->kX K H xs ds->Dp K H (.ref a) (.tuple ds)
inductive kX(K:au)(H:Hp):List V->List dQ->Prop
 | nil:kX K H [] []
 | cons {v:V} {vs:List V} {d:dQ} {ds:List dQ}:Dp K H v d->kX K H vs ds->kX K H (v::vs) (d::ds)
end
mutual
variable{X:Cx}{pins:List (Addr×Obj)}{σ:St}{H:Hp}{s:af}
theorem Dp.reads(I:Inv X pins σ H s):∀{v:V}{d:dQ}{u:aa},Dp X.K H v d->RelV v u->∃as,Reads s.heap u d as
 | _,_,u,.aD,r=>by
  obtain rfl:u=bg:=r;exact⟨_,.none⟩
 | _,_,u,.bl b,r=>by
  obtain rfl:u=jU b:=r;exact⟨_,.bool b⟩
 | _,_,_,.int i,⟨t,e⟩=>by
  subst e;exact⟨_,.int i t⟩
 | _,_,_,.str x,⟨t,e⟩=>by
  subst e;exact⟨_,.str x t⟩
 | _,_,u,@Dp.lst _ _ a xs ds hq ig,r=>by
  obtain rfl:u=aO a:=r;obtain⟨its,rv,⟨o,n,e,hc,_,hd⟩,_⟩:=I.list hq;obtain⟨as,ha⟩:=kX.reads I ig rv;exact⟨_,.list e hc hd (by simpa using ha)⟩
 | _,_,u,@Dp.tup _ _ a xs ds hq ig,r=>by
  obtain rfl:u=aO a:=r;obtain⟨its,rv,⟨o,e,hc,n,hd⟩,_⟩:=I.tuple hq;obtain⟨as,ha⟩:=kX.reads I ig rv;exact⟨_,.tuple e hc hd (by simpa using ha)⟩
theorem kX.reads(I:Inv X pins σ H s):∀{vs:List V}{ds:List dQ}{us:List aa},kX X.K H vs ds->Vals vs us->∃as,Ng s.heap us ds as
 | _,_,_,.nil,.nil=>⟨_,.nil⟩
 | _,_,_,.cons h t,.cons r rs=>by
  obtain⟨as,ha⟩:=Dp.reads I h r;obtain⟨bs,hb⟩:=kX.reads I t rs;exact⟨_,.cons ha hb⟩
end
def JA(K:au)(neg:Bool):R2:=λx y H Q=>∃d e,Dp K H x d/\Dp K H y e/\d.canLay0=true/\e.canLay0=true/\min d.depth e.depth<=200/\Q (.bl (if neg then !uO d e else uO d e)) H
theorem Rj(hu:X.A.units+200<cLine):bZ X (compareOp .Eq) (JA X.K false):=by
 intro pins s σ H x y v u Q I rx ry h;obtain⟨d,e,hx,hy,h1,h2,hd,q⟩:=h;obtain⟨as,ra⟩:=hx.reads I rx;obtain⟨bs,rb⟩:=hy.reads I ry;exact ZCI ra rb h1 h2 (by lia) ⟨.bl _,H,I,rfl,q⟩
theorem Zog(hu:X.A.units+200<cLine):bZ X (compareOp .NotEq) (JA X.K true):=by
 intro pins s σ H x y v u Q I rx ry h;obtain⟨d,e,hx,hy,h1,h2,hd,q⟩:=h;obtain⟨as,ra⟩:=hx.reads I rx;obtain⟨bs,rb⟩:=hy.reads I ry;exact ZCJ ra rb h1 h2 (by lia) ⟨.bl _,H,I,rfl,q⟩
theorem oe{A:aI}{k:Nat}(hr:bL k A):A.units+200<cLine:=by
 have:=hr.un;lia
def Zpb(K:au):V->Hp->VK->Prop:=λx H Q=>∃a xs,x=.ref a/\az K H a xs/\∀p,H p=none->Q (.ref p) (upd H p (.tup xs.reverse))
variable{e:Expr}{te:TE}{pos p2 p3 p4:Pos}{j:Nat}
theorem P2(he:PE X e te):PE X (.Subscript e (.Slice none none (some (.UnaryOp .USub (.Constant (.int 1) j p4) p3)) p2) pos) (Va (Zpb X.K) te):=by
 intro pins s σ H Q I h;refine FW (aw (he pins s σ H _ I h) ?_);rintro v s1 ⟨x,H1,I1,r1,q1⟩;obtain⟨a,xs,rfl,hx,q⟩:=q1;cases r1;refine X' (aw (Cu pins s1 σ H1 (λo H'=>o=none/\H'=H1) I1 ⟨rfl,rfl⟩) ?_);rintro vl s2 ⟨l,H2,I2,pl,el,eh⟩;subst el eh;refine aw (Cu pins s2 σ H2 (λo H'=>o=none/\H'=H2) I2 ⟨rfl,rfl⟩) ?_;rintro vu s3 ⟨u,H3,I3,pu,el,eh⟩;subst el eh;refine aw (IK (oq oh Zj) pins s3 σ H3 (λo H'=>o=some (-1)/\H'=H3) I3 ⟨1,rfl,-1,rfl,rfl,rfl⟩) ?_;rintro vt s4 ⟨o,H4,I4,pt,el,eh⟩;subst el eh;have I5:Inv X pins σ H4 { s4 with heap:=s4.heap.push { cls:=.type "slice",data:=.fields #[vl,vu,vt] } }:=I4.kept (t':=s4.toks) λb ob q=>aG _ q;obtain⟨its,r,ht,hz⟩:=I5.tuple hx;have hlen:=r.length;show wpAny (model X.prog X.w) X.A (subscriptTail e (.Slice none none (some (.UnaryOp .USub (.Constant (.int 1) j p4) p3)) p2) (.ref a) (.ref s4.heap.objs.size)) (EP X pins σ Q) X.xe { s4 with heap:=s4.heap.push { cls:=.type "slice",data:=.fields #[vl,vu,vt] } };refine Ny (ops:=[.ref a,.ref s4.heap.objs.size]) ht.typeIs M0.lookup (HT.YL ht (V1 ..) pl pu pt ?_ (by lia)) (by with_unfolding_all rfl)
 refine⟨.ref _,_,I5.laid (t':=s4.toks) (o:=.tup xs.reverse) (λb ob q=>aG _ q) (ax _) ?_,rfl,q _ (I5.ak.fresh (ax _))⟩;exact⟨by rw[pP];exact hz,_,r.reverse,V4 _ _⟩
def TK(H H':Hp):Prop := ∀b xs,H b=some (.tup xs)->H' b=some (.tup xs)
theorem TK.trans{H1 H2:Hp}(a:TK H H1)(b:TK H1 H2):TK H H2:=λc xs h=>b c xs (a c xs h)
variable{p:Addr}{o:HO}
theorem TK.new(h:H p=none):TK H (upd H p o):=λb xs q=>by
 rw[Zc (Zd q h)];exact q
theorem TK.lst{H:Hp}{p:Addr}{xs:List V}{o:HO}(h:H p=some (.lst xs)):TK H (upd H p o):=λb ys q=>by
 by_cases e:b=p
 ·subst e;rw[h] at q;cases q
 ·rw[Zc e];exact q
variable{H':Hp}
theorem Zh.tk(h:Zh H H'):TK H H':=λb xs q=>h b _ q
theorem Zh.new(h:H p=none):Zh H (upd H p o):=λb u q=>by
 rw[Zc (Zd q h)];exact q
theorem Zh.bA(h:Zh H H')(hp:H p=none):Zh H (upd H' p o):=λb u q=>by
 rw[Zc (Zd q hp)];exact h b u q
theorem Zh.U8{K:au}{a:Addr}{xs:List V}(e:Zh H H')(h:az K H a xs):az K H' a xs:=by
 rcases h with(h|⟨o,h⟩)|h
 ·exact .inl (.inl (e _ _ h))
 ·exact .inl (.inr ⟨o,e _ _ h⟩)
 ·exact .inr h
theorem qz{b:Addr}(h:upd H p o b=none):b≠p/\H b=none:=by
 by_cases e:b=p
 ·subst e;rw[Za] at h;cases h
 ·rw[Zc e] at h;exact⟨e,h⟩
theorem cut{body:List Stmt}{D:Ends}(n:Nat)(R:St->Hp->Prop)(h2:∃u,dB X (body.drop n) u/\∀ aq H',R aq H'->u D aq H')
  (h1:∀u,dB X (body.drop n) u->(∀ aq H',R aq H'->u D aq H')->∃t,dB X body t/\t D σ H):∃t,dB X body t/\t D σ H :=
 let ⟨u,a,b⟩:=h2
 h1 u a b
theorem ZfR(hu:X.A.units+200<cLine):bZ X (compareOp .Eq) (λx y H Q=>∃a xs z,x=.ref a/\y=.str z/\az X.K H a xs/\Q (.bl false) H):=by
 intro pins s σ H x y v u Q I rx ry h;obtain⟨a,xs,z,rfl,rfl,hx,q⟩:=h;cases rx;obtain⟨t,rfl⟩:=ry;obtain⟨its,r,⟨o,e,hc,n,hd⟩,_⟩:=I.tuple hx;exact ZCG z t ⟨o,e,hc,n,hd⟩ (by lia) X.prog X.w X.xe _ ⟨.bl false,H,I,rfl,q⟩
theorem Znc(hu:X.A.units+200<cLine):bZ X (compareOp .Eq) (λx y H Q=>(∃a xs z,x=.ref a/\y=.str z/\az X.K H a xs/\Q (.bl false) H)\/U3 x y H Q):=(ZfR hu).or j9
theorem aN.app{α β : Type}{F : α -> β -> Prop}:∀{l₁ Uz : List α}{l₂ UA : List β},aN F l₁ l₂ -> aN F Uz UA -> aN F (l₁ ++ Uz) (l₂ ++ UA)
 | _,_,_,_,.nil,s=>s
 | _,_,_,_,.cons r t,s=>.cons r (aN.app t s)
theorem aN.Md{α β : Type}{F : α -> β -> Prop}:∀{l:List α}{a : α}{l₂ : List β},aN F (l ++ [a]) l₂ -> ∃k b,l₂ = k ++ [b]/\aN F l k/\F a b
 | [],_,_,.cons r .nil=>⟨[],_,rfl,.nil,r⟩
 | x::l,a,_,.cons r t=>by
  obtain⟨k,b,e,p,f⟩:=aN.Md (l:=l) t;exact⟨_::k,b,by rw[e];rfl,.cons r p,f⟩
variable{α β:Type}
theorem aN.UB{F : α -> β -> Prop}{k:List β}{b : β}:∀{l:List α},aN F l (k ++ [b])->∃l' a,l=l' ++ [a]/\aN F l' k/\F a b:=by
 induction k with
 | nil =>
  intro l h;cases h with
  | cons r t =>
   cases t;exact⟨[],_,rfl,.nil,r⟩
 | cons y k ih =>
  intro l h;cases h with
  | cons r t =>
   obtain⟨l',a,rfl,p,f⟩:=ih t;exact⟨_::l',a,rfl,.cons r p,f⟩
theorem aN.qK{F : α -> β -> Prop}{l:List α}{k:List β}(h:aN F l k):∀{i:Nat}{a : α},l[i]?= some a->∃b,k[i]?= some b/\F a b:=by
 induction h with
 | nil =>
  intro i a e;cases e
 | cons r t ih =>
  intro i a e;cases i with
  | zero =>
   injection e with e;subst e;exact⟨_,rfl,r⟩
  | succ i=>exact ih e
theorem aN.Sq{F : α -> β -> Prop}{l:List α}{k:List β}(h:aN F l k):∀{i:Nat}{b : β},k[i]?= some b->∃a,l[i]?= some a/\F a b:=by
 induction h with
 | nil =>
  intro i a e;cases e
 | cons r t ih =>
  intro i a e;cases i with
  | zero =>
   injection e with e;subst e;exact⟨_,rfl,r⟩
  | succ i=>exact ih e
theorem aN.LB{F : α -> β -> Prop}{l:List α}{k:List β}(h:aN F l k){a : α}(m:a∈l):∃b∈k,F a b:=by
 obtain⟨i,e⟩:=uM.mp m;obtain⟨b,h1,h2⟩:=aN.qK h e;exact⟨b,bY h1,h2⟩
theorem aN.Zz1{F : α -> β -> Prop}{l:List α}{k:List β}(h:aN F l k){b : β}(m:b∈k):∃a∈l,F a b:=by
 obtain⟨i,e⟩:=uM.mp m;obtain⟨a,h1,h2⟩:=aN.Sq h e;exact⟨a,bY h1,h2⟩
theorem ZmF{l:List α}(h:l ≠ []):∃k a,l=k ++ [a]:=⟨l.dropLast,l.getLast h,(List.dropLast_concat_getLast h).symm⟩
theorem yG(l:List α)(a : α):(l ++ [a])[(l ++ [a]).length-1]?= some a:=by
 simp
theorem Zjp(l:List α)(a : α):(l ++ [a]).dropLast=l:=by
 simp
end L2
namespace Fg
open PySem L2 g6
abbrev SL:Str := "/"
inductive e_(H:Hp):List V->Gr Str->Prop
 | nil:e_ H [] .nil
 | cons {p q:Addr} {t:Str} {ys vs:List V} {w o:Gr Str}:H p=some (.tup [.str t,.ref q])->H q=some (.tup ys)->e_ H ys w->e_ H vs o->e_ H (.ref p::vs) (.cons t w o)
variable{H H':Hp}
theorem e_.mono(k:TK H H'):∀{vs:List V}{g:Gr Str},e_ H vs g->e_ H' vs g:=by
 intro vs g h
 induction h with
 | nil=>exact .nil
 | cons h1 h2 _ _ h3 h4=>exact .cons (k _ _ h1) (k _ _ h2) h3 h4
theorem e_.length{H:Hp}:∀{vs:List V}{g:Gr Str},e_ H vs g->vs.length<=(words SL g).length
 | _,_,.nil=>ax _
 | _,_,.cons _ _ _ d=>by
  have:=d.length;simp only[bI,words,aH];lia
def tF(H:Hp)(v:V):Item Str->Prop
 | none=>v=.str SL
 | some (t,w)=>∃p q ys,v=.ref p/\H p=some (.tup [.str t,.ref q])/\H q=some (.tup ys)/\e_ H ys w
theorem tF.mono{H H':Hp}(k:TK H H'){v:V}:∀{x:Item Str},tF H v x->tF H' v x
 | none,h=>h
 | some _,⟨p,q,ys,e,a,b,c⟩=>⟨p,q,ys,e,k _ _ a,k _ _ b,c.mono k⟩
theorem e_.items{H:Hp}:∀{vs:List V}{g:Gr Str},e_ H vs g->aN (tF H) vs (items g)
 | _,_,.nil=>.nil
 | _,_,.cons a b c d=>.cons ⟨_,_,_,rfl,a,b,c⟩ d.items
theorem HF{α β : Type}{F : α -> β -> Prop}:∀{l₁ : List α}{l₂ : List β},aN F l₁ l₂ -> aN F l₁.reverse l₂.reverse
 | _,_,.nil=>.nil
 | _,_,.cons r t=>by
  rw[rY,rY];exact aN.app (HF t) (.cons r .nil)
theorem yK(k:TK H H'){vs:List V}{st:List (Item Str)}(h:aN (tF H) vs st):aN (tF H') vs st:=aN.cM h λ_ _ r=>r.mono k
def fG(t:Str):Prop:=t.cps.toList ≠ []/\∀c∈t.cps.toList,97<=c/\c<=122
def ly(t:Str):Prop := ∀c∈t.cps.toList,97<=c/\c<=122
theorem Ja(x y:Str):(x++y).cps.toList=x.cps.toList++y.cps.toList:=by
 show(x.cps++y.cps).toList=_;simp
variable{x y:Str}
theorem ID(hx:ly x)(hy:ly y):ly (x++y):=λc hc=>by
 rw[Ja] at hc;exact(aS.mp hc).elim (hx c) (hy c)
theorem fG.Er{t:Str}(h:fG t):ly t:=h.2
theorem Zn6(hx:fG x)(hy:ly y):fG (x++y):=⟨by rw[Ja];intro z;exact hx.1 (MF.mp z).1,ID hx.2 hy⟩
theorem Zok(hx:ly x)(hy:fG y):fG (x++y):=⟨by rw[Ja];intro z;exact hy.1 (MF.mp z).2,ID hx hy.2⟩
theorem Ii{c:Nat}(h1:97<=c)(h2:c<=122):fG ⟨#[c]⟩:=⟨by simp,λd hd=>by simp at hd;lia⟩
theorem fG.ne{t:Str}(h:fG t):t≠SL:=λe=>by
 subst e;have:=h.2 47 (by decide);lia
theorem ly.ok{t:Str}(h:ly t):nE t=true:=by
 unfold nE;rw[Array.all_eq_true_iff_forall_mem];intro c hc;have:=h c (by simpa using hc);exact aP (by lia)
theorem Js:nE SL=true:=by decide +kernel
def yr:Str := "abcdefghijklmnopqrstuvwxyz"
theorem ZmO:∀n:_root_.Fin 26,97<=yr.cps.toList.getD n.val 0/\yr.cps.toList.getD n.val 0<=122/\n.val<yr.cps.toList.length:=by decide
theorem QV{i:Int}(h0:0<=i)(h1:i<26):∃c,fH yr.cps.toList i=some c/\97<=c/\c<=122:=by
 obtain⟨n,rfl⟩:=Mx h0;obtain⟨a,b,c⟩:=ZmO ⟨n,by lia⟩;refine⟨_,j7 (bO c),?_,?_⟩
 ·rw[iw,bO c] at a;exact a
 ·rw[iw,bO c] at b;exact b
theorem ZmN{ns:List Int}{k:Int}(h0:0<=k)(h:k<(ns.length:Int)):∃v:Int,fH (ns.map V.int) k=some (.int v):=by
 obtain⟨n,rfl⟩:=Mx h0;have hn:n<ns.length:=by lia
 exact⟨ns[n],j7 (by rw[bW,bO hn];rfl)⟩
variable{ws:List Str}{n:Nat}
theorem QR(h:n<ws.length):fH (ws.map V.str) ((n:Nat):Int)=some (.str ws[n]):=j7 (by rw[bW,bO h];rfl)
def Cz(K:au):Sp:=λvs H Q _=>∃(a:Addr)(ns:List Int)(k:Int),vs=[.ref a,.int k]/\ag K H a (ns.map V.int)/\ns.length<=63/\0<=k/\∀v:Int,Q (.int v) H
def IZ(K:au):Sp:=λvs H Q _=>∃(a:Addr)(xs:List V)(g:Gr Str),vs=[.ref a]/\az K H a xs/\e_ H xs g/\(words SL g).length<=1000 /\
 ∀(r:Addr)(H':Hp),Zh H H'->H r=none->H' r=some (.lst ((words SL g).map V.str))->Q (.ref r) H'
theorem sX(h:n<=100000):n<=sizeLine:=cm h (by decide)
theorem Zr(h:n<=100000):n<sizeLine:=xI h (by decide)
theorem IV(x y:Str):(x++y).length=x.length+y.length:=by
 show(x.cps++y.cps).size=_;rw[Ml];rfl
theorem P7(j:Int):(0:Int)<if j > 1 then j else 1:=by
 split
 ·rename_i h
  exact Int.lt_trans (by decide) h
 ·decide
theorem ZlI(xs:List V)(n:Nat):kf xs (some (n:Int)) none=xs.drop n:=by
 unfold kf;rw[HT.P6,HT.PY];rw[xG (by rw[rV];exact ax _)];by_cases h:n<=xs.length
 ·rw[WC h]
 ·rw[WD (by lia),V9,List.drop_eq_nil_of_le (by lia)]
theorem vy{K:au}{H:Hp}:∀ws:List Str,kX K H (ws.map V.str) (ws.map f')
 | []=>.nil
 | w::ws=>.cons (.str w) (vy ws)
theorem yL:∀{ws:List Str},(∀w∈ws,nE w=true)->jS (ws.map f')=true
 | [],_=>rfl
 | w::ws,h=>by
  show(nE w&&jS (ws.map f'))=true;rw[h w (aZ ..),yL λx hx=>h x (bM _ hx)];rfl
theorem B5:∀ws:List Str,kR (ws.map f')=0
 | []=>rfl
 | w::ws=>by
  show max (dQ.depth (.str w)) (kR (ws.map f'))=0;rw[B5 ws];rfl
theorem ZmZ{K:au}{a b:Addr}{Q:VK}(ha:ag K H a (ws.map V.str))(hb:ag K H b (ws.map V.str))(ak:∀w∈ws,nE w=true)(q:Q (.bl true) H):JA K false (.ref a) (.ref b) H Q:=by
 have hl:(dQ.list (ws.map f')).canLay0=true:=yL ak;refine⟨.list (ws.map .str),.list (ws.map .str),.lst ha (vy ws),.lst hb (vy ws),hl,hl,?_,?_⟩
 ·show min (kR (ws.map f')+1) (kR (ws.map f')+1)<=200;rw[B5]
  decide
 ·show Q (.bl (uO _ _)) H;rw[ZCK _ hl];exact q
theorem Zlc(xs:List V)(n:Nat):kf xs none (some (n:Int))=xs.take n:=by
 unfold kf;rw[HT.P6,HT.PY,Wa,WH];by_cases h:n<=xs.length
 ·rw[WC h]
 ·rw[WD (by lia),cU,xG (by lia)]
end Fg
namespace L2
open PySem PySem.Spec PyProof.Rows
theorem Oo:∀{ys:List Str}{us:List aa},Vals (ys.map V.str) us->StrsAre us ys
 | [],_,.nil=>.nil
 | y::ys,_,.cons r t=>by
  obtain⟨tk,e⟩:=r;subst e;exact .cons y tk (Oo t)
def rJoin(K:au):V->List V->Hp->VK->Prop:=λx vs H Q=>∃z a ys,x=.str z/\vs=[.ref a]/\ag K H a (ys.map V.str)/\(ys.map (·.length)).sum+ys.length*z.length<=16777216/\Q (.str (Xw z ys)) H
variable{X:Cx}
theorem ZnF:yz X "str.join" (rJoin X.K):=by
 intro pins s σ H x vs v us Q I rx rv h;obtain⟨z,a,ys,rfl,rfl,hS,hz,q⟩:=h;obtain⟨t,rfl⟩:=rx;obtain⟨u,rfl,ru⟩:=rv.one;cases ru;obtain⟨its,r,pl,_⟩:=I.list hS;exact join_list pl.isList (by simpa using Oo r) hz λt' k=>⟨.str _,H,I.tok _,⟨_,rfl⟩,q⟩
theorem OM(hu:X.A.units+200<cLine):bZ X (compareOp .NotEq) (λx y H Q=>∃a b xs,x=.ref a/\y=.ref b/\ag X.K H a xs/\ag X.K H b []/\Q (.bl (!xs.isEmpty)) H):=by
 intro pins s σ H x y v u Q I rx ry h;obtain⟨a,b,xs,rfl,rfl,ha,hb,q⟩:=h;cases xs with
 | nil=>exact Zog hu pins s σ H _ _ v u Q I rx ry ⟨.list [],.list [],.lst ha .nil,.lst hb .nil,rfl,rfl,by decide,q⟩
 | cons x xs =>
  cases rx;cases ry;obtain⟨its,r,pl,_⟩:=I.list ha;obtain⟨fJ,r2,mU,_⟩:=I.list hb;have l1:=r.length;have l2:=r2.length;refine ZCH pl.isList mU.isList ?_ (by lia) X.prog X.w X.xe _ ⟨.bl _,H,I,rfl,q⟩;rw[bp,bp,<- l1,<- l2];rfl
theorem Zkg(hu:X.A.units+200<cLine):bZ X (compareOp .Eq) (λx y H Q=>∃a b xs,x=.ref a/\y=.ref b/\ag X.K H a xs/\ag X.K H b []/\Q (.bl xs.isEmpty) H):=by
 intro pins s σ H x y v u Q I rx ry h;obtain⟨a,b,xs,rfl,rfl,ha,hb,q⟩:=h;cases xs with
 | nil=>exact Rj hu pins s σ H _ _ v u Q I rx ry ⟨.list [],.list [],.lst ha .nil,.lst hb .nil,rfl,rfl,by decide,q⟩
 | cons x xs =>
  cases rx;cases ry;obtain⟨its,r,pl,_⟩:=I.list ha;obtain⟨fJ,r2,mU,_⟩:=I.list hb;have l1:=r.length;have l2:=r2.length;refine ZCF pl.isList mU.isList ?_ (by lia) X.prog X.w X.xe _ ⟨.bl _,H,I,rfl,q⟩;rw[bp,bp,<- l1,<- l2];rfl
end L2
namespace Fg
open PySem L2 g6
def cs(x:Str):List Nat:=x.cps.toList
theorem Zop{x y:Str}(h:cs x=cs y):x=y:=by
 cases x with
 | mk a =>
  cases y with
  | mk b=>exact congrArg Str.mk (Vv.mp h)
end Fg
namespace L2
open PySem PySem.Spec PyProof.Rows
abbrev dE:aa->af->Prop:=λ_ _=>False
variable{prog:aC}{w:ay}{A:aI}{s:af}{R:pX->af->Prop}{elt target:Expr}{scope:cY}{pos:Pos}{it acc:aa}{env:Env}
theorem Ziu{iter:Expr}(I:Nat->af->Prop)
  (turn:∀n s,I n s->wpAny (model prog w) A (pyNext it) (λr s1=>match r with
   | none=>R (.ok .next) s1
   | some v=>wpAny (model prog w) A (letOwnedTupleGo target it v) (λ_ s2=>wpAny (model prog w) A (assign target env v) (λ_ s3=>wpAny (model prog w) A (eval elt env) (λx s4 =>
     wpAny (model prog w) A (call (.builtin "list.append") [acc,x]) (λ_ s5=>∃m,m<n/\I m s5) dE s4) dE s3) dE s2) dE s1) dE s)
  (n:Nat) (h:I n s):codeAny (model prog w) A (.compLoop (.ListComp elt [⟨target,iter,[],0⟩] scope pos) 0 it acc env) R s:=by
 refine XI rfl I (λn s hI=>?_) n h;show wpAny _ _ ((compTurn (.ListComp elt [⟨target,iter,[],0⟩] scope pos) 0 it acc env).onRaise (λx=>do noteFrame x env;theTreesLotGoes x)) _ _ s;refine Yc ?_;rw[compTurn_list1];refine ae (yb (ae (dz (turn n s hI) (λr s1 h1=>?_) λ_ _ h'=>h'.elim)));cases r with
 | none=>exact ai h1
 | some v =>
  refine ae (dz h1 (λ_ s2 h2=>?_) λ_ _ h'=>h'.elim);refine ae (dz h2 (λ_ s3 h3=>?_) λ_ _ h'=>h'.elim);refine ae (ae (dz h3 (λx s4 h4=>?_) λ_ _ h'=>h'.elim));exact ae (dz h4 (λ_ s5 h5=>ai (ai ⟨rfl,h5⟩)) λ_ _ h'=>h'.elim)
def dj(X:Cx)(N:List Str)(scope:cY)(cl:List (Str×Addr))(C:Addr)(fp:List Addr)(s:af)(H:Hp):Cx where
 prog:=X.prog
 w:=X.w
 K:=X.K
 mg:=X.mg
 base:=X.base
 A:=X.A
 N:=N
 dt := s
 kZ := H
 env:=compEnvC scope cl C X.env
 outer:=X.stack
 stack:=X.stack
 ex:=fp
 fn:=λ_=>false
 calm:=X.calm
 pn:=[]
 xe:=dE
variable{X:Cx}{pins:List (Addr×Obj)}{σ:St}{H:Hp}{cl:List (Str×Addr)}{fp:List Addr}
theorem ZjU{N:List Str}{C:Addr}(I:Inv X pins σ H s)(hk:scope.kind=.function)(hC:s.heap.objs.size<=C)(aY:∀x c,cl.lookup x=some c->X.env.cells.lookup x=some c)
  (d_:∀x,((compEnvC scope cl C X.env).kindOf x=some .cell\/(compEnvC scope cl C X.env).kindOf x=some .free)->∃c,cl.lookup x=some c)
  (hf:∀b∈fp,bG X pins H b) (aB:∀b∈fp,b<s.heap.objs.size):(dj X N scope cl C fp s H).Ok where
 mod:=I.ok.mod
 kind:=hk
 glob:=I.ok.glob
 blt:=I.ok.blt
 above:=hC
 inj:=λx y c e1 e2=>I.ok.inj x y c (aY x c e1) (aY y c e2)
 has:=d_
 qJ:=λx c e=>by cases e
 hd:=I.ok.hd
 frames:=I.ok.frames
 uB:=.inl rfl
 oC:=λb hb=>⟨λz=>absurd (cW (aB b hb) hC) (by rw[show b=C from z];exact eU _),λx c e=>(hf b hb).2.2.2.2.1 x c (aY x c e)⟩
 bs:=λb o e=>⟨(I.bs b o e).1,(I.bs b o e).2⟩
 jm:=cm I.ok.jm I.sz
 rE:=λb o e hb=>by
  rcases(hf b hb).2.2.2.1 with z|z
  ·exact I.ok.rE b o e z
  ·exact absurd (cW (aM e) (cm I.ok.jm z)) (eU _)
 oE:=λb hb hm=>by
  rcases aV.mp (I.L5 b hm) with z|z
  ·exact(hf b hb).2.1 z
  ·exact(hf b hb).2.2.1 z
 ie:=I.stack
 mJ:=I.L4
def tJ(σ : St)(k:Nat)(aE:List (Str×Nat)):St:=cE k none++aE.map λp=>(σ[p.2]?).getD none
theorem N'{tn:List Str}{aE:List (Str×Nat)}{h1:Heap}(I:Inv X pins σ H s)(hk:scope.kind=.function)(aY:∀x c,cl.lookup x=some c->X.env.cells.lookup x=some c)
  (d_:∀x,((compEnvC scope cl s.heap.objs.size X.env).kindOf x=some .cell\/(compEnvC scope cl s.heap.objs.size X.env).kindOf x=some .free)->∃c,cl.lookup x=some c)
  (hf:∀b∈fp,bG X pins H b) (aB:∀b∈fp,b<s.heap.objs.size)
  (ij:∀p∈aE,X.N[p.2]?= some p.1/\X.env.scope.names.lookup p.1=some .cell/\((compEnvC scope cl s.heap.objs.size X.env).kindOf p.1=some .cell\/(compEnvC scope cl s.heap.objs.size X.env).kindOf p.1=some .free))
  (jy:h1.Ns s.heap.objs.size (λ_=>none)) (gP:∀b o,s.heap.get? b=some o->h1.get? b=some o) :
  Inv (dj X (tn++aE.map (·.1)) scope cl s.heap.objs.size fp s H) [] (tJ σ tn.length aE) H { s with heap:=h1 } where
 ok:=ZjU I hk (ax _) aY d_ hf aB
 os:=rfl
 bare:=I.bare
 base:=Un.kept gP
 loc:=by
  refine⟨λ_=>none,jy,λi x v e1 e2 hv=>?_⟩;unfold tJ at e2;by_cases hi:i<tn.length
  ·rw[Fq (by rw[lY];exact hi),xD,aj hi] at e2;cases e2
  ·have hN:(aE.map (·.1))[i-tn.length]?= some x:=by
    have:(tn++aE.map (·.1))[i]?= some x:=e1;rw[Fs (by lia)] at this;exact this
   rw[Fs (by rw[lY];lia),lY,bW] at e2;rw[bW] at hN;cases hp:aE[i-tn.length]? with
   | none=>rw[hp] at hN;cases hN
   | some p =>
    rw[hp] at hN e2;have hx:p.1=x:=ed hN;have he:(σ[p.2]?).getD none=some v:=ed e2;obtain⟨c1,c2,c3⟩:=ij p (bY hp);subst hx;have hs : σ[p.2]?= some (some v):=by
     cases q : σ[p.2]? with
     | none=>rw[q] at he;cases he
     | some z=>rw[q] at he;rw[show z=some v from he]
    obtain⟨m,hn,hl⟩:=I.loc;obtain⟨u,r,l⟩:=hl p.2 p.1 v c1 hs (.inr (.inl c2));refine⟨u,r,.inr ⟨c3,?_⟩⟩;obtain⟨c,hc⟩:=d_ p.1 c3;refine⟨c,hc,?_⟩;rcases l with⟨l1,_⟩|⟨_,c',l2,o,ho,hd⟩
    ·have:X.env.kindOf p.1=some .cell:=c2;rw[this] at l1;cases l1
    ·have:c=c':=ed ((aY p.1 c hc).symm.trans l2);subst this;exact⟨o,gP _ _ ho,hd⟩
 cell:=λx c e=>by
  obtain⟨v,o,ho,hd⟩:=I.cell x c (aY x c e);exact⟨v,o,gP _ _ ho,hd⟩
 free:=I.ak.fresh (ax _)
 fI:=λx c e=>I.fI x c (aY x c e)
 pin:=λp hp=>by cases hp
 ak:=I.ak.kept gP
 len:=by
  unfold tJ;show _=(tn++aE.map (·.1)).length;rw[aH,aH,lY,ar,ar]
def RB(wi:TI)(k:Nat)(aE:List (Str×Nat))(g:TG)(te:TE):TE:=λσ H Q=>wi σ H λJ H1=>∀p,H1 p=none->∃W:Nat->Nat->List V->St->Hp->Prop,(∃m,W 0 m [] (tJ σ k aE) (upd H1 p (.lst []))) /\
 ∀i m ys dF H2,W i m ys dF H2->H2 p=some (.lst ys)/\((J.stop i H2/\Q (.ref p) H2)\/(J.go i H2/\∀x H3,J.fw i H2 x H3->g x dF H3 λaL H4=>te aL H4 λv H5 =>
  H5 p=some (.lst ys)/\ys.length<sizeLine/\∃m',m'<m/\W (i+1) m' (ys ++ [v]) aL (upd H5 p (.lst (ys ++ [v])))))
section
variable{X:Cx}{elt iter tg:Expr}{scope:cY}{pos:Pos}{wi:TI}{g:TG}{te:TE}{cl:List (Str×Addr)}
theorem Ou{pins:List (Addr×Obj)}{σ : St}{H2:Hp}{s2:af}{it:Addr}{fp:List Addr}{jL:Nat->Heap->Prop}{J:It}{R:Addr->Hp->Prop}{use:Option (aa->Sem Unit)}{Qp:aa->af->Prop}(tn:List Str)(aE:List (Str×Nat))(hg:∀C fp s H,PG (dj X (tn++aE.map (·.1)) scope cl C fp s H) tg g)(he:∀C fp s H,PE (dj X (tn++aE.map (·.1)) scope cl C fp s H) elt te)(hc:X.calm=true)(iM:∀y∈scope.names,y.2 ≠ .cell)(hk:scope.kind=.function)(aY:∀x c,cl.lookup x=some c->X.env.cells.lookup x=some c)(d_:∀C x,((compEnvC scope cl C X.env).kindOf x=some .cell\/(compEnvC scope cl C X.env).kindOf x=some .free)->∃c,cl.lookup x=some c)(ij:∀C,∀p∈aE,X.N[p.2]?= some p.1/\X.env.scope.names.lookup p.1=some .cell/\((compEnvC scope cl C X.env).kindOf p.1=some .cell\/(compEnvC scope cl C X.env).kindOf p.1=some .free))
  (I2:Inv X pins σ H2 s2) (T:Turn X.prog X.w X.K tg J fp it jL) (dq:jL 0 s2.heap) (f2:∀b∈fp,bG X pins H2 b) (q2:∀p,H2 p=none->∃W:Nat->Nat->List V->St->Hp->Prop,(∃m,W 0 m [] (tJ σ tn.length aE) (upd H2 p (.lst []))) /\
 ∀i m ys dF H2,W i m ys dF H2->H2 p=some (.lst ys)/\((J.stop i H2/\R p H2)\/(J.go i H2/\∀x H3,J.fw i H2 x H3->g x dF H3 λaL H4=>te aL H4 λv H5=>H5 p=some (.lst ys)/\ys.length<sizeLine/\∃m',m'<m/\W (i+1) m' (ys ++ [v]) aL (upd H5 p (.lst (ys ++ [v]))))))
  (KC:∀(s3:af)(H3:Hp),Inv X pins σ H3 s3->(∀b∈fp,bG X pins H3 b)->∀(acc:Addr)(pH:St)(H6:Hp)(s6:af),Inv (dj X (tn++aE.map (·.1)) scope cl s3.heap.objs.size fp s3 H3) [] pH H6 s6->R acc H6->compPost (model X.prog X.w) X.A X.xe use Qp (.ref acc) s3.heap.objs.size (.ok .next) s6) :
  wpAny (model X.prog X.w) X.A (newList []) (λacc wU=>wpAny (model X.prog X.w) X.A (newFunctionEnv scope X.env.globals cl [] X.env.qual none bg (some X.env)) (λzu L8=>codeAny (model X.prog X.w) X.A (VI (.ListComp elt [⟨tg,iter,[],0⟩] scope pos) 0 (aO it) acc { zu with scope:=relabel scope X.env }) (compPost (model X.prog X.w) X.A X.xe use Qp acc zu.locals) L8) X.xe wU) X.xe s2:=by
 have fresh:H2 s2.heap.objs.size=none:=I2.fresh;obtain⟨W,⟨m0,w0⟩,turn⟩:=q2 s2.heap.objs.size fresh;have mT:∀b∈fp,b<s2.heap.objs.size:=λb hb=>by
  obtain⟨o,ho,_⟩:=T.obj _ _ dq b hb;exact aM ho
 have I3:Inv X pins σ (upd H2 s2.heap.objs.size (.lst [])) { s2 with heap:=s2.heap.push { cls:=.type "list",data:=.seq ([]:List aa).toArray } }:=I2.wG (its:=[]) (t':=s2.toks) .nil (bz _);refine gG (NH iM (by intro y hy;simp at hy) (λh1 ug uj=>?_) hk);dsimp only at ug uj ⊢;generalize zI:({ s2 with heap:=s2.heap.push { cls:=.type "list",dict:=none,data:=.seq ([]:List aa).toArray } }:af)=s3 at I3;have tY:s2.heap.push { cls:=.type "list",dict:=none,data:=.seq ([]:List aa).toArray }=s3.heap:=by rw[<- zI]
 rw[tY] at ug uj ⊢;have L7:s3.heap.objs.size=s2.heap.objs.size+1:=by rw[<- tY,iX]
 have LA:∀b∈fp,b<s3.heap.objs.size:=λb hb=>cW (mT b hb) (by rw[L7];exact rZ _);have f3:∀b∈fp,bG X pins (upd H2 s2.heap.objs.size (.lst [])) b:=λb hb=>⟨by rw[Zc (bc (mT b hb))];exact(f2 b hb).1,(f2 b hb).2⟩;have AI:∀b o,s3.heap.get? b=some o->h1.get? b=some o:=λb o q=>uj.extBut b o (bc (aM q)) (aG _ q);have mW:jL 0 h1:=T.keep _ _ _ dq λb hb o q=>AI b o (by rw[<- tY];exact aG _ q);have I4:=(N' (tn:=tn) I3 hk aY (d_ _) f3 LA (ij _) ug AI).tok (s2.toks+([]:List (Str×aa)).length);have loop:codeAny (model X.prog X.w) X.A (.compLoop (.ListComp elt [⟨tg,iter,[],0⟩] scope pos) 0 (.ref it) (.ref s2.heap.objs.size) (compEnvC scope cl s3.heap.objs.size X.env))
   (compPost (model X.prog X.w) X.A X.xe use Qp (.ref s2.heap.objs.size) s3.heap.objs.size) { s3 with heap:=h1,toks:=s2.toks+([]:List (Str×aa)).length }:=by
  refine Ziu (λn s'=>∃i ys aq H',Inv (dj X (tn++aE.map (·.1)) scope cl s3.heap.objs.size fp s3 (upd H2 s2.heap.objs.size (.lst []))) [] aq H' s'/\jL i s'.heap/\(∀b∈fp,H' b=none)/\W i n ys aq H') ?_ m0
   ⟨0,[],_,_,I4,mW,λb hb=>(f3 b hb).1,w0⟩
  rintro n s5 ⟨i,ys,lQ,H5,I5,pC,tP,w5⟩;obtain⟨hD,alt⟩:=turn i n ys lQ H5 w5;have lP:∀{H':Hp},(∀b∈fp,H' b=none)->∀b∈fp,bG (dj X (tn++aE.map (·.1)) scope cl s3.heap.objs.size fp s3 (upd H2 s2.heap.objs.size (.lst []))) [] H' b :=
   λhn b hb=>⟨hn b hb,(I4.ok.oC b hb).1,I4.ok.oE b hb,.inl hb,(I4.ok.oC b hb).2,λp hp=>by cases hp⟩
  rcases alt with⟨stop,qn⟩|⟨go,step⟩
  ·refine aw (T.done (dj X (tn++aE.map (·.1)) scope cl s3.heap.objs.size fp s3 (upd H2 s2.heap.objs.size (.lst []))) rfl rfl rfl hc i [] s5 lQ H5 dE I5 (lP tP) pC stop) ?_;rintro r s6 ⟨hr,I6⟩;subst hr;exact KC s3 _ I3 f3 _ lQ H5 s6 I6 qn
  ·refine aw (T.item (dj X (tn++aE.map (·.1)) scope cl s3.heap.objs.size fp s3 (upd H2 s2.heap.objs.size (.lst []))) rfl rfl rfl hc i [] s5 lQ H5 dE I5 (lP tP) pC go) ?_;rintro r s6 ⟨u,hr,h6⟩;subst hr;refine aw h6 ?_;rintro _ s7 ⟨x,H7,I7,r7,y7,pD,JL⟩;have Gp:=I7.pinned (lP JL) (T.obj _ _ pD);refine aw (hg _ _ _ _ _ s7 lQ H7 x u _ Gp r7 (step x H7 y7)) ?_;rintro _ s8 ⟨pI,H8,I8,q8⟩;refine aw (he _ _ _ _ _ s8 pI H8 _ I8 q8) ?_;rintro xv s9 ⟨v9,H9,I9,r9,q9⟩;obtain⟨Kb,DP,m',gZ,w9⟩:=q9;refine aw (ZG _ s9 pI H9 (.ref s2.heap.objs.size) [v9] (.ref s2.heap.objs.size) [xv] (λz H'=>z=.aD/\H'=upd H9 s2.heap.objs.size (.lst (ys ++ [v9]))) I9 rfl (.cons r9 .nil)
    ⟨s2.heap.objs.size,ys,v9,rfl,rfl,Kb,DP,rfl,rfl⟩) λz fX ⟨zv,jY,sJ,_,_,eH⟩=>?_
   subst eH;refine⟨m',gZ,i+1,ys ++ [v9],pI,_,sJ.rM,T.keep _ _ _ pD λb hb o q=>(sJ.pin (b,o) (a9 _ (a9 _ (qp hb q)))).1,λb hb=>?_,w9⟩;obtain⟨o,q,d⟩:=T.obj _ _ pD b hb;exact(sJ.pin (b,o) (a9 _ (a9 _ (qp hb q)))).2.1
 subst zI;exact XH loop (T.self X.A 0 _ _ _ mW loop)
theorem yT(tn:List Str)(aE:List (Str×Nat))(hi:PI X tg iter wi)(hg:∀C fp s H,PG (dj X (tn++aE.map (·.1)) scope cl C fp s H) tg g)(he:∀C fp s H,PE (dj X (tn++aE.map (·.1)) scope cl C fp s H) elt te)
  (hc:X.calm=true) (tT:closureFor scope X.env=pure cl) (iM:∀y∈scope.names,y.2 ≠ .cell) (hk:scope.kind=.function) (ue:∀y∈scope.names,y.2=.local->scope.names.lookup y.1=some .local)
  (aY:∀x c,cl.lookup x=some c->X.env.cells.lookup x=some c)
  (d_:∀C x,((compEnvC scope cl C X.env).kindOf x=some .cell\/(compEnvC scope cl C X.env).kindOf x=some .free)->∃c,cl.lookup x=some c)
  (ij:∀C,∀p∈aE,X.N[p.2]?= some p.1/\X.env.scope.names.lookup p.1=some .cell/\((compEnvC scope cl C X.env).kindOf p.1=some .cell\/(compEnvC scope cl C X.env).kindOf p.1=some .free))
  (hs:∀v,foldedSetIterable iter X.env v=pure v):PE X (.ListComp elt [⟨tg,iter,[],0⟩] scope pos) (RB wi tn.length aE g te):=by
 intro pins s σ H Q I h;rw[XW];refine Gd (use:=none) rfl hs tT hk ue (aw (hi pins s σ H _ I h) λv s1 h1=>aw h1 λwC s2 h2=>?_);obtain⟨it,fp,jL,J,H2,e,I2,T,dq,f2,q2⟩:=h2;subst e;refine Ou (R:=λp H6=>Q (.ref p) H6) tn aE hg he hc iM hk aY d_ ij I2 T dq f2 q2 λs3 H3 I3 f3 acc pH H6 s6 I6 q6=>?_;obtain⟨m,hn,_⟩:=I6.loc;refine⟨m,hn,λh' sb=>?_⟩;have nC:∀b o,s3.heap.get? b=some o->b≠s3.heap.objs.size:=λb o q=>bc (aM q);have u:Un (iL X.stack) fp H3 H6 s3.heap h':=by
  have u0:=I6.base;refine⟨λb o q n hb hx=>(sb.2 b (nC b o q)).trans (u0.keep b o q n hb hx),λb o q n hb hx=>?_,u0.free,λb o q hx=>?_,u0.fZ,u0.jq,u0.jK⟩
  ·obtain⟨sl,e⟩:=u0.slot b o q n hb hx;exact⟨sl,(sb.2 b (nC b o q)).trans e⟩
  ·obtain⟨o',e⟩:=u0.there b o q hx;exact⟨o',(sb.2 b (nC b o q)).trans e⟩
 have zC:H6 s3.heap.objs.size=none:=I6.free;have LQ:bJ X.prog X.w H6 h':=λb o q=>(I6.ak b o q).jJ (λc v gM r=>(sb.2 c (by
  rcases gM with z|z
  ·rw[z];exact Zd q zC
  ·exact Zd z zC)).trans r) (λ_ q=>q) λ_ _ q=>q
 have I':=I3.call (g':=s6.gens) (d':=s6.drawn) (t':=s6.toks) (ch:=fp) u LQ I6.bare λb hb=>⟨(f3 b hb).2.2.2.1,(f3 b hb).2.1,(f3 b hb).2.2.2.2.1,(f3 b hb).2.2.2.2.2⟩;have e:({ s6 with heap:=h' }:af)= { s3 with heap:=h',gens:=s6.gens,drawn:=s6.drawn,toks:=s6.toks }:=by
  have ho:s6.os=s3.os:=I6.os;obtain⟨a1,a2,a3,a4,a5⟩:=s6;obtain⟨b1,b2,b3,b4,b5⟩:=s3;simp only at ho;subst ho;rfl
 rw[e];exact⟨.ref _,H6,I',rfl,q6⟩
end
theorem ZiI{ct iter:Expr}(I:Nat->af->Prop)
  (turn:∀n s,I n s->wpAny (model prog w) A (pyNext it) (λr s1=>match r with
   | none=>R (.ok .next) s1
   | some v=>wpAny (model prog w) A (letOwnedTupleGo target it v) (λ_ s2=>wpAny (model prog w) A (assign target env v) (λ_ s3=>wpAny (model prog w) A (isTrue ct env (eval ct env)) (λok GF =>
     if ok=true then wpAny (model prog w) A (eval elt env) (λx s4 =>
     wpAny (model prog w) A (call (.builtin "list.append") [acc,x]) (λ_ s5=>∃m,m<n/\I m s5) dE s4) dE GF else ∃m,m<n/\I m GF) dE s3) dE s2) dE s1) dE s)
  (n:Nat) (h:I n s):codeAny (model prog w) A (.compLoop (.ListComp elt [⟨target,iter,[ct],0⟩] scope pos) 0 it acc env) R s:=by
 refine XI rfl I (λn s hI=>?_) n h;show wpAny _ _ ((compTurn (.ListComp elt [⟨target,iter,[ct],0⟩] scope pos) 0 it acc env).onRaise (λx=>do noteFrame x env;theTreesLotGoes x)) _ _ s;refine Yc ?_;rw[compTurn_list];refine ae (yb (ae (dz (turn n s hI) (λr s1 h1=>?_) λ_ _ h'=>h'.elim)));cases r with
 | none=>exact ai h1
 | some v =>
  refine ae (dz h1 (λ_ s2 h2=>?_) λ_ _ h'=>h'.elim);refine ae (dz h2 (λ_ s3 h3=>?_) λ_ _ h'=>h'.elim);refine ae (wpAny_tests_one (dz h3 (λok GF eX=>?_) λ_ _ h'=>h'.elim));cases ok with
  | true =>
   simp only[gF] at eX ⊢;refine ae (ae (dz eX (λx s4 h4=>?_) λ_ _ h'=>h'.elim));exact ae (dz h4 (λ_ s5 h5=>ai (ai ⟨rfl,h5⟩)) λ_ _ h'=>h'.elim)
  | false =>
   simp only[jN,eV] at eX ⊢;exact ai ⟨rfl,eX⟩
def Rn(wi:TI)(k:Nat)(aE:List (Str×Nat))(g:TG)(tt:TT)(te:TE):TE:=λσ H Q=>wi σ H λJ H1=>∀p,H1 p=none->∃W:Nat->Nat->List V->St->Hp->Prop,(∃m,W 0 m [] (tJ σ k aE) (upd H1 p (.lst []))) /\
 ∀i m ys dF H2,W i m ys dF H2->H2 p=some (.lst ys)/\((J.stop i H2/\Q (.ref p) H2)\/(J.go i H2/\∀x H3,J.fw i H2 x H3->g x dF H3 λaL H4=>tt aL H4 λb dY=>if b=true then te aL dY λv H5 =>
  H5 p=some (.lst ys)/\ys.length<sizeLine/\∃m',m'<m/\W (i+1) m' (ys ++ [v]) aL (upd H5 p (.lst (ys ++ [v])))
  else ∃m',m'<m/\W (i+1) m' ys aL dY))
section
variable{X:Cx}{elt ct iter tg:Expr}{scope:cY}{pos:Pos}{wi:TI}{g:TG}{tt:TT}{te:TE}{cl:List (Str×Addr)}
theorem OA{pins:List (Addr×Obj)}{σ : St}{H2:Hp}{s2:af}{it:Addr}{fp:List Addr}{jL:Nat->Heap->Prop}{J:It}{R:Addr->Hp->Prop}{use:Option (aa->Sem Unit)}{Qp:aa->af->Prop}(tn:List Str)(aE:List (Str×Nat))(hg:∀C fp s H,PG (dj X (tn++aE.map (·.1)) scope cl C fp s H) tg g)(ht:∀C fp s H,PT (dj X (tn++aE.map (·.1)) scope cl C fp s H) ct tt)(he:∀C fp s H,PE (dj X (tn++aE.map (·.1)) scope cl C fp s H) elt te)(hc:X.calm=true)(iM:∀y∈scope.names,y.2 ≠ .cell)(hk:scope.kind=.function)(aY:∀x c,cl.lookup x=some c->X.env.cells.lookup x=some c)(d_:∀C x,((compEnvC scope cl C X.env).kindOf x=some .cell\/(compEnvC scope cl C X.env).kindOf x=some .free)->∃c,cl.lookup x=some c)(ij:∀C,∀p∈aE,X.N[p.2]?= some p.1/\X.env.scope.names.lookup p.1=some .cell/\((compEnvC scope cl C X.env).kindOf p.1=some .cell\/(compEnvC scope cl C X.env).kindOf p.1=some .free))
  (I2:Inv X pins σ H2 s2) (T:Turn X.prog X.w X.K tg J fp it jL) (dq:jL 0 s2.heap) (f2:∀b∈fp,bG X pins H2 b) (q2:∀p,H2 p=none->∃W:Nat->Nat->List V->St->Hp->Prop,(∃m,W 0 m [] (tJ σ tn.length aE) (upd H2 p (.lst []))) /\
 ∀i m ys dF H2,W i m ys dF H2->H2 p=some (.lst ys)/\((J.stop i H2/\R p H2)\/(J.go i H2/\∀x H3,J.fw i H2 x H3->g x dF H3 λaL H4=>tt aL H4 λb dY=>if b=true then te aL dY λv H5=>H5 p=some (.lst ys)/\ys.length<sizeLine/\∃m',m'<m/\W (i+1) m' (ys ++ [v]) aL (upd H5 p (.lst (ys ++ [v]))) else ∃m',m'<m/\W (i+1) m' ys aL dY)))
  (KC:∀(s3:af)(H3:Hp),Inv X pins σ H3 s3->(∀b∈fp,bG X pins H3 b)->∀(acc:Addr)(pH:St)(H6:Hp)(s6:af),Inv (dj X (tn++aE.map (·.1)) scope cl s3.heap.objs.size fp s3 H3) [] pH H6 s6->R acc H6->compPost (model X.prog X.w) X.A X.xe use Qp (.ref acc) s3.heap.objs.size (.ok .next) s6) :
  wpAny (model X.prog X.w) X.A (newList []) (λacc wU=>wpAny (model X.prog X.w) X.A (newFunctionEnv scope X.env.globals cl [] X.env.qual none bg (some X.env)) (λzu L8=>codeAny (model X.prog X.w) X.A (VI (.ListComp elt [⟨tg,iter,[ct],0⟩] scope pos) 0 (aO it) acc { zu with scope:=relabel scope X.env }) (compPost (model X.prog X.w) X.A X.xe use Qp acc zu.locals) L8) X.xe wU) X.xe s2:=by
 have fresh:H2 s2.heap.objs.size=none:=I2.fresh;obtain⟨W,⟨m0,w0⟩,turn⟩:=q2 s2.heap.objs.size fresh;have mT:∀b∈fp,b<s2.heap.objs.size:=λb hb=>by
  obtain⟨o,ho,_⟩:=T.obj _ _ dq b hb;exact aM ho
 have I3:Inv X pins σ (upd H2 s2.heap.objs.size (.lst [])) { s2 with heap:=s2.heap.push { cls:=.type "list",data:=.seq ([]:List aa).toArray } }:=I2.wG (its:=[]) (t':=s2.toks) .nil (bz _);refine gG (NH iM (by intro y hy;simp at hy) (λh1 ug uj=>?_) hk);dsimp only at ug uj ⊢;generalize zI:({ s2 with heap:=s2.heap.push { cls:=.type "list",dict:=none,data:=.seq ([]:List aa).toArray } }:af)=s3 at I3;have tY:s2.heap.push { cls:=.type "list",dict:=none,data:=.seq ([]:List aa).toArray }=s3.heap:=by rw[<- zI]
 rw[tY] at ug uj ⊢;have L7:s3.heap.objs.size=s2.heap.objs.size+1:=by rw[<- tY,iX]
 have LA:∀b∈fp,b<s3.heap.objs.size:=λb hb=>cW (mT b hb) (by rw[L7];exact rZ _);have f3:∀b∈fp,bG X pins (upd H2 s2.heap.objs.size (.lst [])) b:=λb hb=>⟨by rw[Zc (bc (mT b hb))];exact(f2 b hb).1,(f2 b hb).2⟩;have AI:∀b o,s3.heap.get? b=some o->h1.get? b=some o:=λb o q=>uj.extBut b o (bc (aM q)) (aG _ q);have mW:jL 0 h1:=T.keep _ _ _ dq λb hb o q=>AI b o (by rw[<- tY];exact aG _ q);have I4:=(N' (tn:=tn) I3 hk aY (d_ _) f3 LA (ij _) ug AI).tok (s2.toks+([]:List (Str×aa)).length);have loop:codeAny (model X.prog X.w) X.A (.compLoop (.ListComp elt [⟨tg,iter,[ct],0⟩] scope pos) 0 (.ref it) (.ref s2.heap.objs.size) (compEnvC scope cl s3.heap.objs.size X.env))
   (compPost (model X.prog X.w) X.A X.xe use Qp (.ref s2.heap.objs.size) s3.heap.objs.size) { s3 with heap:=h1,toks:=s2.toks+([]:List (Str×aa)).length }:=by
  refine ZiI (λn s'=>∃i ys aq H',Inv (dj X (tn++aE.map (·.1)) scope cl s3.heap.objs.size fp s3 (upd H2 s2.heap.objs.size (.lst []))) [] aq H' s'/\jL i s'.heap/\(∀b∈fp,H' b=none)/\W i n ys aq H') ?_ m0
   ⟨0,[],_,_,I4,mW,λb hb=>(f3 b hb).1,w0⟩
  rintro n s5 ⟨i,ys,lQ,H5,I5,pC,tP,w5⟩;obtain⟨hD,alt⟩:=turn i n ys lQ H5 w5;have lP:∀{H':Hp},(∀b∈fp,H' b=none)->∀b∈fp,bG (dj X (tn++aE.map (·.1)) scope cl s3.heap.objs.size fp s3 (upd H2 s2.heap.objs.size (.lst []))) [] H' b :=
   λhn b hb=>⟨hn b hb,(I4.ok.oC b hb).1,I4.ok.oE b hb,.inl hb,(I4.ok.oC b hb).2,λp hp=>by cases hp⟩
  rcases alt with⟨stop,qn⟩|⟨go,step⟩
  ·refine aw (T.done (dj X (tn++aE.map (·.1)) scope cl s3.heap.objs.size fp s3 (upd H2 s2.heap.objs.size (.lst []))) rfl rfl rfl hc i [] s5 lQ H5 dE I5 (lP tP) pC stop) ?_;rintro r s6 ⟨hr,I6⟩;subst hr;exact KC s3 _ I3 f3 _ lQ H5 s6 I6 qn
  ·refine aw (T.item (dj X (tn++aE.map (·.1)) scope cl s3.heap.objs.size fp s3 (upd H2 s2.heap.objs.size (.lst []))) rfl rfl rfl hc i [] s5 lQ H5 dE I5 (lP tP) pC go) ?_;rintro r s6 ⟨u,hr,h6⟩;subst hr;refine aw h6 ?_;rintro _ s7 ⟨x,H7,I7,r7,y7,pD,JL⟩;have Gp:=I7.pinned (lP JL) (T.obj _ _ pD);refine aw (hg _ _ _ _ _ s7 lQ H7 x u _ Gp r7 (step x H7 y7)) ?_;rintro _ s8 ⟨pI,H8,I8,q8⟩;refine aw (ht _ _ _ _ _ s8 pI H8 _ I8 q8) ?_;rintro ok Yz ⟨Yk,BD,BJ⟩;cases ok with
   | true =>
    simp only[gF] at BJ ⊢;refine aw (he _ _ _ _ _ Yz pI Yk _ BD BJ) ?_;rintro xv s9 ⟨v9,H9,I9,r9,q9⟩;obtain⟨Kb,DP,m',gZ,w9⟩:=q9;refine aw (ZG _ s9 pI H9 (.ref s2.heap.objs.size) [v9] (.ref s2.heap.objs.size) [xv] (λz H'=>z=.aD/\H'=upd H9 s2.heap.objs.size (.lst (ys ++ [v9]))) I9 rfl (.cons r9 .nil)
     ⟨s2.heap.objs.size,ys,v9,rfl,rfl,Kb,DP,rfl,rfl⟩) λz fX ⟨zv,jY,sJ,_,_,eH⟩=>?_
    subst eH;refine⟨m',gZ,i+1,ys ++ [v9],pI,_,sJ.rM,T.keep _ _ _ pD λb hb o q=>(sJ.pin (b,o) (a9 _ (a9 _ (qp hb q)))).1,λb hb=>?_,w9⟩;obtain⟨o,q,d⟩:=T.obj _ _ pD b hb;exact(sJ.pin (b,o) (a9 _ (a9 _ (qp hb q)))).2.1
   | false =>
    simp only[jN,eV] at BJ ⊢;obtain⟨m',gZ,w9⟩:=BJ;refine⟨m',gZ,i+1,ys,pI,_,BD.rM,T.keep _ _ _ pD λb hb o q=>(BD.pin (b,o) (a9 _ (a9 _ (qp hb q)))).1,λb hb=>?_,w9⟩;obtain⟨o,q,d⟩:=T.obj _ _ pD b hb;exact(BD.pin (b,o) (a9 _ (a9 _ (qp hb q)))).2.1
 subst zI;exact XH loop (T.self X.A 0 _ _ _ mW loop)
theorem HL(tn:List Str)(aE:List (Str×Nat))(hi:PI X tg iter wi)(hg:∀C fp s H,PG (dj X (tn++aE.map (·.1)) scope cl C fp s H) tg g)(ht:∀C fp s H,PT (dj X (tn++aE.map (·.1)) scope cl C fp s H) ct tt)(he:∀C fp s H,PE (dj X (tn++aE.map (·.1)) scope cl C fp s H) elt te)
  (hc:X.calm=true) (tT:closureFor scope X.env=pure cl) (iM:∀y∈scope.names,y.2 ≠ .cell) (hk:scope.kind=.function) (ue:∀y∈scope.names,y.2=.local->scope.names.lookup y.1=some .local)
  (aY:∀x c,cl.lookup x=some c->X.env.cells.lookup x=some c)
  (d_:∀C x,((compEnvC scope cl C X.env).kindOf x=some .cell\/(compEnvC scope cl C X.env).kindOf x=some .free)->∃c,cl.lookup x=some c)
  (ij:∀C,∀p∈aE,X.N[p.2]?= some p.1/\X.env.scope.names.lookup p.1=some .cell/\((compEnvC scope cl C X.env).kindOf p.1=some .cell\/(compEnvC scope cl C X.env).kindOf p.1=some .free))
  (hs:∀v,foldedSetIterable iter X.env v=pure v):PE X (.ListComp elt [⟨tg,iter,[ct],0⟩] scope pos) (Rn wi tn.length aE g tt te):=by
 intro pins s σ H Q I h;rw[XW];refine Gd (use:=none) rfl hs tT hk ue (aw (hi pins s σ H _ I h) λv s1 h1=>aw h1 λwC s2 h2=>?_);obtain⟨it,fp,jL,J,H2,e,I2,T,dq,f2,q2⟩:=h2;subst e;refine OA (R:=λp H6=>Q (.ref p) H6) tn aE hg ht he hc iM hk aY d_ ij I2 T dq f2 q2 λs3 H3 I3 f3 acc pH H6 s6 I6 q6=>?_;obtain⟨m,hn,_⟩:=I6.loc;refine⟨m,hn,λh' sb=>?_⟩;have nC:∀b o,s3.heap.get? b=some o->b≠s3.heap.objs.size:=λb o q=>bc (aM q);have u:Un (iL X.stack) fp H3 H6 s3.heap h':=by
  have u0:=I6.base;refine⟨λb o q n hb hx=>(sb.2 b (nC b o q)).trans (u0.keep b o q n hb hx),λb o q n hb hx=>?_,u0.free,λb o q hx=>?_,u0.fZ,u0.jq,u0.jK⟩
  ·obtain⟨sl,e⟩:=u0.slot b o q n hb hx;exact⟨sl,(sb.2 b (nC b o q)).trans e⟩
  ·obtain⟨o',e⟩:=u0.there b o q hx;exact⟨o',(sb.2 b (nC b o q)).trans e⟩
 have zC:H6 s3.heap.objs.size=none:=I6.free;have LQ:bJ X.prog X.w H6 h':=λb o q=>(I6.ak b o q).jJ (λc v gM r=>(sb.2 c (by
  rcases gM with z|z
  ·rw[z];exact Zd q zC
  ·exact Zd z zC)).trans r) (λ_ q=>q) λ_ _ q=>q
 have I':=I3.call (g':=s6.gens) (d':=s6.drawn) (t':=s6.toks) (ch:=fp) u LQ I6.bare λb hb=>⟨(f3 b hb).2.2.2.1,(f3 b hb).2.1,(f3 b hb).2.2.2.2.1,(f3 b hb).2.2.2.2.2⟩;have e:({ s6 with heap:=h' }:af)= { s3 with heap:=h',gens:=s6.gens,drawn:=s6.drawn,toks:=s6.toks }:=by
  have ho:s6.os=s3.os:=I6.os;obtain⟨a1,a2,a3,a4,a5⟩:=s6;obtain⟨b1,b2,b3,b4,b5⟩:=s3;simp only at ho;subst ho;rfl
 rw[e];exact⟨.ref _,H6,I',rfl,q6⟩
end
end L2
namespace PySem.SeqAt
open AutoSeq1 (wpAny_loadPart')
open MeetsSeq MeetsSeq2 MeetsSeq3 SeqRoads2
def qH(A:aI)(s:af)(y x:aa)(b:Bool):Prop :=
 ∀(prog:aC)(w:ay)(E:aa->af->Prop)(Q:aa->af->Prop),Q (.bool b) s->wpAny (model prog w) A (richCompare .Lt y x) Q E s
inductive g_(A:aI)(s:af):List aa->List aa->Bool->Prop
 | nn:g_ A s [] [] false
 | nc {y:aa} {ys:List aa}:g_ A s [] (y::ys) true
 | cn {x:aa} {xs:List aa}:g_ A s (x::xs) [] false
 | eq {x y:aa} {xs ys:List aa} {b:Bool}:EqAt A s x y true->g_ A s xs ys b->g_ A s (x::xs) (y::ys) b
 | lt {x y:aa} {xs ys:List aa} {b:Bool}:EqAt A s x y false->qH A s x y b->g_ A s (x::xs) (y::ys) b
theorem g_.fin{A:aI}{s:af}{xs ys:List aa}{b:Bool}(h:g_ A s xs ys b)(h0:xs=[]\/ys=[]):b=decide (xs.length<ys.length):=by
 cases h with
 | nn=>rfl
 | nc=>simp
 | cn=>simp
 | eq _ _=>rcases h0 with q|q <;> cases q
 | lt _ _=>rcases h0 with q|q <;> cases q
theorem Zjh(l b:Addr)(items bU:Array aa)(n n2:Nat)(dd kh:Option Addr)(sl kM:Array (Option aa))(v:Bool)(k:Nat) :
  ∀i:Nat,i+k=min items.size bU.size->Bk (dG.«list.__eq__.loop» ⟨[.ref l,.ref b,rawInt i,rawInt 0],[]⟩)
   (λA R s=>s.heap.get? l=some { cls:=.type "list",dict:=dd,data:=.seq items n,slots:=sl }/\s.heap.get? b=some { cls:=.type "list",dict:=kh,data:=.seq bU n2,slots:=kM } /\
    g_ A.in1 s (items.toList.drop i) (bU.toList.drop i) v/\R (.ok (.ret (.bool v))) s):=by
 induction k with
 | zero =>
  intro i hk prog w A R s h;obtain⟨hp,g,d,tk,os⟩:=s;obtain⟨hl,hb,he,h⟩:=h;have hv:v=decide (items.size<bU.size):=by
   have h0:items.toList.drop i=[]\/bU.toList.drop i=[]:=by
    rcases Nat.le_total items.size bU.size with q|q
    ·exact .inl (V' (by rw[aU];lia))
    ·exact .inr (V' (by rw[aU];lia))
   rw[he.fin h0,rV,rV,aU,aU];by_cases q:items.size<bU.size
   ·rw[aP q];exact aP (by lia)
   ·rw[bx q];exact bx (by lia)
  subst hv
  wp_walk using wpAny_loadPart' hl,wpAny_loadPart' hb
  by_cases h1:i<items.size
  ·have ku:items[((i:Nat):Int).toNat]?= some items[i]:=by simp[h1]
   have DM:bU[((i:Nat):Int).toNat]?= none:=by simp;lia
   rw[ku,DM]
   wp_walk using wpAny_loadPart' hl,wpAny_loadPart' hb
   exact h
  ·have ku:items[((i:Nat):Int).toNat]?= none:=by simp;lia
   rw[ku]
   wp_walk using wpAny_loadPart' hl,wpAny_loadPart' hb
   exact h
 | succ k ih =>
  intro i hk prog w A R s h;obtain⟨hp,g,d,tk,os⟩:=s;obtain⟨hl,hb,he,h⟩:=h
  wp_walk using wpAny_loadPart' hl,wpAny_loadPart' hb
  have aB:i<items.size:=by lia
  have Tx:i<bU.size:=by lia
  have ku:items[((i:Nat):Int).toNat]?= some items[i]:=by simp[aB]
  have DM:bU[((i:Nat):Int).toNat]?= some bU[i]:=by simp[Tx]
  have hc:((i:Int)+1)=((i+1:Nat):Int):=by push_cast;rfl
  have d1:items.toList.drop i=items[i]::items.toList.drop (i+1):=by rw[Fi (by rw[aU];exact aB)];simp
  have d2:bU.toList.drop i=bU[i]::bU.toList.drop (i+1):=by rw[Fi (by rw[aU];exact Tx)];simp
  rw[d1,d2] at he;rw[ku,DM];cases he with
  | eq h1 h2 =>
   refine ae (h1 prog w _ _ ?_)
   wp_walk
   rw[hc];exact⟨jV F_ _,gb XR (by
    rw[lS F_ _];exact ih (i+1) (by lia) prog w A R _ ⟨hl,hb,h2,h⟩)⟩
  | lt h1 h2 =>
   refine ae (h1 prog w _ _ ?_)
   wp_walk using wpAny_loadPart' hl,wpAny_loadPart' hb
   rw[ku,DM];refine ae (h2 prog w _ _ ?_)
   wp_walk
   exact h
theorem ZkB(l b:Addr)(items bU:Array aa)(n n2:Nat)(dd kh:Option Addr)(sl kM:Array (Option aa))(v:Bool) :
  Bk (dG.«list.__lt__» ⟨[.ref l,.ref b],[]⟩)
   (λA R s=>s.heap.get? l=some { cls:=.type "list",dict:=dd,data:=.seq items n,slots:=sl }/\s.heap.get? b=some { cls:=.type "list",dict:=kh,data:=.seq bU n2,slots:=kM } /\
    g_ A.in1 s items.toList bU.toList v/\R (.ok (.ret (.bool v))) s):=by
 intro prog w A R s h;obtain⟨hp,g,d,tk,os⟩:=s;obtain⟨hl,hb,he,h⟩:=h;have f3:=Vw
 wp_walk using wpAny_loadPart' hl,wpAny_loadPart' hb
 exact⟨jV F_ _,gb XR (by
  rw[lS F_ _];exact Zjh l b items bU n n2 dd kh sl kM v _ 0 (nD _) prog w A R _ ⟨hl,hb,by simpa using he,h⟩)⟩
theorem Zic(l b:Addr)(items bU:Array aa)(n n2:Nat)(dd kh:Option Addr)(sl kM:Array (Option aa))(v:Bool) :
  Bk (dG.«tuple.__lt__» ⟨[.ref l,.ref b],[]⟩)
   (λA R s=>s.heap.get? l=some { cls:=.type "tuple",dict:=dd,data:=.seq items n,slots:=sl }/\s.heap.get? b=some { cls:=.type "tuple",dict:=kh,data:=.seq bU n2,slots:=kM } /\
    g_ A.in1 s items.toList bU.toList v/\R (.ok (.ret (.bool v))) s) :=
 .of_wp λprog w A R s h=>by
  obtain⟨hp,g,d,tk,os⟩:=s;obtain⟨hl,hb,he,h⟩:=h;have f2:=Vx
  wp_walk using wpAny_loadPart' hl,wpAny_loadPart' hb,wpAny_forIn_list _ (λrest b s'=>b.1=none/\s'=⟨hp,g,d,tk,os⟩/\∃(vs ws:List aa),rest=vs.zip ws /\
   vs.length+bU.size=ws.length+items.size/\g_ A.in1 ⟨hp,g,d,tk,os⟩ vs ws v) _
  case turn =>
   rintro⟨y,x⟩ rest b s' ⟨cg,rfl,vs,ws,hz,hlen,hL⟩;cases hL with
   | nn=>rw[Wx] at hz;cases hz
   | nc=>rw[Wx] at hz;cases hz
   | cn=>rw[List.zip_nil_right] at hz;cases hz
   | eq h1 h2 =>
    rw[MR] at hz;injection hz with Lp T8;injection Lp with hy hx;subst hy hx;simp only[bI] at hlen;refine ae (h1 prog w _ _ ?_)
    wp_walk
    exact⟨rfl,rfl,_,_,T8,by lia,h2⟩
   | lt h1 h2 =>
    rw[MR] at hz;injection hz with Lp T8;injection Lp with hy hx;subst hy hx;refine ae (h1 prog w _ _ ?_);have T9:=h2 prog w
    wp_walk using T9
    exact⟨_,rfl,h⟩
  case fin =>
   rintro⟨b1,b2⟩ s' ⟨cg,rfl,vs,ws,hz,hlen,hL⟩;simp only at cg;subst cg;have hv:v=decide (items.size<bU.size):=by
    rw[hL.fin (by
     cases vs with
     | nil=>exact .inl rfl
     | cons a t=>cases ws with
      | nil=>exact .inr rfl
      | cons c u=>rw[MR] at hz;cases hz)]
    by_cases q:items.size<bU.size
    ·rw[aP q];exact aP (by lia)
    ·rw[bx q];exact bx (by lia)
   subst hv
   wp_walk
   exact⟨_,rfl,by simpa[ZB0] using h⟩
  case h =>
   exact⟨rfl,rfl,items.toList,bU.toList,rfl,by simp;lia,he⟩
variable{A:aI}{s:af}{l b:Addr}{bU:Array aa}{v:Bool}
theorem qH.lists{items:Array aa}(hl:s.heap.IsList l items)(hb:s.heap.IsList b bU)(hu:A.units<cLine)(he:g_ A.in1 s items.toList bU.toList v) :
  qH A s (.ref l) (.ref b) v:=λprog w E Q h=>by
 obtain⟨⟨cls,dd,data,sl⟩,ho,hc,n,hd⟩:=id hl;obtain⟨⟨Zv4,kh,data2,kM⟩,cJ,ii,n2,hd2⟩:=id hb;simp only at hc hd ii hd2;subst hc hd ii hd2;exact X1 (op:=.Lt) ⟨_,ho,rfl⟩ ⟨_,cJ,rfl⟩ F.slot_list_lt F.entry_list_lt (F.args_list_lt_2 _ _) (ZkB l b items bU n n2 dd kh sl kM v)
  ⟨ho,cJ,he,show jU v≠XB/\Q (.bool v) s from⟨(λx=>nomatch x),h⟩⟩ hu
theorem qH.tuples{items:Array aa}(hl:s.heap.IsTuple l items)(hb:s.heap.IsTuple b bU)(hu:A.units<cLine)(he:g_ A.in1 s items.toList bU.toList v) :
  qH A s (.ref l) (.ref b) v:=λprog w E Q h=>by
 obtain⟨⟨cls,dd,data,sl⟩,ho,hc,n,hd⟩:=id hl;obtain⟨⟨Zv4,kh,data2,kM⟩,cJ,ii,n2,hd2⟩:=id hb;simp only at hc hd ii hd2;subst hc hd ii hd2;exact X1 (op:=.Lt) ⟨_,ho,rfl⟩ ⟨_,cJ,rfl⟩ F.slot_tuple_lt F.entry_tuple_lt (F.args_tuple_lt_2 _ _) (Zic l b items bU n n2 dd kh sl kM v)
  ⟨ho,cJ,he,show jU v≠XB/\Q (.bool v) s from⟨(λx=>nomatch x),h⟩⟩ hu
end PySem.SeqAt
namespace L2
open PySem PySem.Spec PyProof.Rows PySem.SeqAt
mutual
inductive k9:dQ->dQ->Bool->Prop
 | int (i j:Int):k9 (.int i) (.int j) (decide (i<j))
 | str (x y:Str):k9 (.str x) (.str y) (decide (x.cps.toList<y.cps.toList))
 | lst {xs ys:List dQ} {b:Bool}:gI xs ys b->k9 (.list xs) (.list ys) b
 | tup {xs ys:List dQ} {b:Bool}:gI xs ys b->k9 (.tuple xs) (.tuple ys) b
inductive gI:List dQ->List dQ->Bool->Prop
 | nn:gI [] [] false
 | nc {y:dQ} {ys:List dQ}:gI [] (y::ys) true
 | cn {x:dQ} {xs:List dQ}:gI (x::xs) [] false
 | eq {x y:dQ} {xs ys:List dQ} {b:Bool}:uO x y=true->gI xs ys b->gI (x::xs) (y::ys) b
 | lt {x y:dQ} {xs ys:List dQ} {b:Bool}:uO x y=false->k9 x y b->gI (x::xs) (y::ys) b
end
mutual
theorem k9.at{s:af}:∀{da db:dQ}{v:Bool},k9 da db v->∀(A:aI){a b:aa}{as bs:List Addr},Reads s.heap a da as->Reads s.heap b db bs->da.canLay0=true->db.canLay0=true->A.units+min da.depth db.depth<cLine->qH A s a b v
 | _,_,_,.int i j=>λA _ _ _ _ ra rb _ _ _=>by
  cases ra;cases rb;exact λprog w E Q h=>(lt_int h:wpAny (model prog w) A (compareOp .Lt (.int _ _) (.int _ _)) Q E s)
 | _,_,_,.str x y=>λA _ _ _ _ ra rb _ _ _=>by
  cases ra;cases rb;exact λprog w E Q h=>(lt_str h:wpAny (model prog w) A (compareOp .Lt (.str _ _) (.str _ _)) Q E s)
 | _,_,_,.lst h=>λA _ _ _ _ ra rb ha hb hu=>by
  cases ra with
  | list h1 h2 h3 h4 =>
   cases rb with
   | list k1 k2 k3 k4=>exact qH.lists ⟨_,h1,h2,_,h3⟩ ⟨_,k1,k2,_,k3⟩ (room_here hu) (gI.at h A.in1 h4 k4 ha hb (room_in hu))
 | _,_,_,.tup h=>λA _ _ _ _ ra rb ha hb hu=>by
  cases ra with
  | tuple h1 h2 h3 h4 =>
   cases rb with
   | tuple k1 k2 k3 k4=>exact qH.tuples ⟨_,h1,h2,_,h3⟩ ⟨_,k1,k2,_,k3⟩ (room_here hu) (gI.at h A.in1 h4 k4 ha hb (room_in hu))
theorem gI.at{s:af}:∀{xs ys:List dQ}{v:Bool},gI xs ys v->∀(A:aI){vs ws:List aa}{as bs:List Addr},Ng s.heap vs xs as->Ng s.heap ws ys bs->jS xs=true->jS ys=true ->
  A.units+min (kR xs) (kR ys)<cLine->g_ A s vs ws v
 | _,_,_,.nn=>λA _ _ _ _ ra rb _ _ _=>by
  cases ra;cases rb;exact .nn
 | _,_,_,.nc=>λA _ _ _ _ ra rb _ _ _=>by
  cases ra;cases rb;exact .nc
 | _,_,_,.cn=>λA _ _ _ _ ra rb _ _ _=>by
  cases ra;cases rb;exact .cn
 | _,_,_,@gI.eq x y xs ys b e h=>λA _ _ _ _ ra rb ha hb hu=>by
  have yj:x.canLay0=true/\jS xs=true:=by simpa[jS] using ha
  have cg:y.canLay0=true/\jS ys=true:=by simpa[jS] using hb
  cases ra with
  | cons r rs =>
   cases rb with
   | cons r' NX =>
    refine .eq (e ▸ eqAt_reads x y A s _ _ _ _ r r' yj.1 cg.1 (Nu hu)) (gI.at h A rs NX yj.2 cg.2 ?_);have:kR (x::xs)=max x.depth (kR xs):=rfl;have:kR (y::ys)=max y.depth (kR ys):=rfl;lia
 | _,_,_,@gI.lt x y xs ys b e h=>λA _ _ _ _ ra rb ha hb hu=>by
  have yj:x.canLay0=true/\jS xs=true:=by simpa[jS] using ha
  have cg:y.canLay0=true/\jS ys=true:=by simpa[jS] using hb
  cases ra with
  | cons r rs =>
   cases rb with
   | cons r' NX=>exact .lt (e ▸ eqAt_reads x y A s _ _ _ _ r r' yj.1 cg.1 (Nu hu)) (k9.at h A r r' yj.1 cg.1 (Nu hu))
end
def ZpT(K:au):R2:=λx y H Q=>∃d e v,Dp K H x d/\Dp K H y e/\d.canLay0=true/\e.canLay0=true/\min d.depth e.depth<=200/\k9 d e v/\Q (.bl v) H
theorem Zn8(hu:X.A.units+200<cLine):bZ X (compareOp .Lt) (ZpT X.K):=by
 intro pins s σ H x y v u Q I rx ry h;obtain⟨d,e,v,hx,hy,h1,h2,hd,hl,q⟩:=h;obtain⟨as,ra⟩:=hx.reads I rx;obtain⟨bs,rb⟩:=hy.reads I ry;exact hl.at X.A ra rb h1 h2 (by lia) X.prog X.w _ _ ⟨.bl _,H,I,rfl,q⟩
def bF(X:Cx):Cx where
 prog:=X.prog
 w:=X.w
 K:=X.K
 mg:=X.mg
 base:=X.base
 A:=X.A.in1
 N:=X.N
 dt := X.dt
 kZ := X.kZ
 env:=X.env
 outer:=X.outer
 stack:=X.stack
 ex:=X.ex
 fn:=X.fn
 calm:=X.calm
 pn:=X.pn
 xe:=dE
theorem Cx.Ok.in1(o:X.Ok):(bF X).Ok :=
 ⟨o.mod,o.kind,o.glob,o.blt,o.above,o.inj,o.has,o.qJ,o.hd,o.frames,o.uB,o.oC,o.bs,o.jm,o.rE,o.oE,o.ie,o.mJ⟩
theorem Inv.in1(I:Inv X pins σ H s):Inv (bF X) pins σ H s:=⟨I.ok.in1,I.os,I.bare,I.base,I.loc,I.cell,I.free,I.fI,I.pin,I.ak,I.len⟩
theorem Inv.EF(o:X.Ok)(I:Inv (bF X) pins σ H s):Inv X pins σ H s:=⟨o,I.os,I.bare,I.base,I.loc,I.cell,I.free,I.fI,I.pin,I.ak,I.len⟩
def RX(K:au)(H:Hp)(x y:V)(v:Bool):Prop := ∃d e,Dp K H x d/\Dp K H y e/\d.canLay0=true/\e.canLay0=true/\min d.depth e.depth<=200/\k9 d e v
section
variable{X:Cx}{pins:List (Addr×Obj)}{σ : St}{H:Hp}{s:af}{k:Nat}{f:Addr}{fd:dP}{ps:List Str}{sp:Sp}{Q:VK}{l p it:Addr}{xs:List V}{W:Nat->V->V->Hp->Prop}
abbrev RU(X:Cx)(pins:List (Addr×Obj))(σ : St)(Q:VK):pX->af->Prop:=λr s'=>match r with | .ok (.ret v)=>EP X pins σ Q v s' | .ok _=>False | .error e=>X.xe e s'
variable{i:Nat}{Q':Option aa->af->Prop}{E:aa->af->Prop}
theorem Zlv{x:V}(I:Inv (bF X) pins σ H s)(st:s.heap.IsListIter it l i)(hq:ag X.K H l xs)(hx:xs[i]?= some x)(hf:bG (bF X) pins H it)
  (h:∀u s',Inv (bF X) pins σ H s'->s'.heap.IsListIter it l (i+1)->RelV x u->Q' (some u) s'):wpAny (model X.prog X.w) X.A.in1 (pyNext (.ref it)) Q' E s:=by
 obtain⟨its,rv,p,hz⟩:=I.list hq;obtain⟨u,hu,ru⟩:=rv.get hx;obtain⟨f0,f1,f2,f3,f4,f5⟩:=hf;exact Yh st p.isList (x:=u) (by simpa using hu) λh' a_ sb=>h u _ (I.turned (t':=s.toks) (λb o hb e=>(sb.2 b hb).trans e) f0 f1 f3 f4 f5) a_ ru
theorem QT(hc:X.calm=true)(I:Inv (bF X) pins σ H s)(st:s.heap.IsListIter it l i)(hq:ag X.K H l xs)(hx:xs.length<=i)(hf:bG (bF X) pins H it)
  (h:∀s',Inv (bF X) pins σ H s'->Q' none s'):wpAny (model X.prog X.w) X.A.in1 (pyNext (.ref it)) Q' E s:=by
 obtain⟨its,rv,p,hz⟩:=I.list hq;obtain⟨f0,f1,f2,f3,f4,f5⟩:=hf;have hl:=rv.length;exact Yg (I.ok.hd hc) st p.isList (by simp;lia) λh' eb=>h _ (I.turned (t':=s.toks) (λb o hb e=>eb b o hb e) f0 f1 f3 f4 f5)
end
section
variable{X:Cx}{pins:List (Addr×Obj)}{σ : St}{H:Hp}{s:af}{k:Nat}{f:Addr}{fd:dP}{ps:List Str}{sp:Sp}{Q:VK}{l p it:Addr}{xs:List V}{W:Nat->V->V->Hp->Prop}{ud:aa}
theorem Rg{o:HO}(h:bG X pins H it)(hp:∃u,H p=some u):bG X pins (upd H p o) it:=by
 refine⟨?_,h.2⟩;obtain⟨u,hu⟩:=hp;rw[Zc (Zd hu h.1).symm];exact h.1
theorem Zky{h:Heap}{i:Nat}(st:h.IsListIter it l i):∃o,h.get? it=some o/\(∀v,o.data ≠ .cell v)/\∀h':Heap,h'.get? it=some o->h'.IsListIter it l i:=by
 obtain⟨o,e,c,d⟩:=st;exact⟨o,e,λv z=>(by rw[d] at z;cases z),λh' e'=>⟨o,e',c,d⟩⟩
end
theorem Zgt(a v d:aa):argsOk "min" ⟨[a],[(bw "key",v),(bw "default",d)]⟩:=by unfold argsOk;kernel_rfl
end L2
namespace Fg
open PySem L2 g6 PySem.SeqAt
def eM:List Str->List Str->Bool
 | [],[]=>false
 | [],_::_=>true
 | _::_,[]=>false
 | x::xs,y::ys=>if x=y then eM xs ys else decide (x.cps.toList<y.cps.toList)
def aQ(xs ys:List Str):Bool:=if xs.length=ys.length then eM xs ys else decide (xs.length<ys.length)
theorem Ca:∀xs:List Str,eM xs xs=false
 | []=>rfl
 | x::xs=>by rw[eM,aj rfl];exact Ca xs
theorem Jb(x y:Str):uO (.str x) (.str y)=decide (x=y):=by
 show(x == y)=_;by_cases e:x=y
 ·subst e;simp
 ·rw[bx e];exact nG.mpr e
theorem Io:∀xs ys:List Str,xM (xs.map f') (ys.map f')=decide (xs=ys)
 | [],[]=>rfl
 | [],_::_=>by simp[xM]
 | _::_,[]=>by simp[xM]
 | x::xs,y::ys=>by
  show(uO (.str x) (.str y)&&xM (xs.map f') (ys.map f'))=_;rw[Jb,Io xs ys];by_cases e:x=y <;> by_cases e2:xs=ys <;> simp[e,e2]
theorem Ie:∀xs ys:List Str,gI (xs.map f') (ys.map f') (eM xs ys)
 | [],[]=>.nn
 | [],_::_=>.nc
 | _::_,[]=>.cn
 | x::xs,y::ys=>by
  by_cases e:x=y
  ·rw[eM,aj e];exact .eq (by rw[Jb];exact aP e) (Ie xs ys)
  ·rw[eM,ah e];exact .lt (by rw[Jb];exact bx e) (.str x y)
abbrev zh(xs:List Str):dQ:=.tuple [.int (xs.length:Nat),.list (xs.map f')]
theorem Zlf(xs ys:List Str):k9 (zh xs) (zh ys) (aQ xs ys):=by
 refine .tup ?_;by_cases hn:xs.length=ys.length
 ·refine .eq (by show((xs.length:Int) == (ys.length:Int))=true;rw[hn];simp) ?_;rw[aQ,aj hn];by_cases e:xs=ys
  ·subst e;rw[Ca];exact .eq (by show xM _ _=true;rw[Io];simp) .nn
  ·exact .lt (by show xM _ _=false;rw[Io];exact bx e) (.lst (Ie xs ys))
 ·rw[aQ,ah hn];have e:decide (xs.length<ys.length)=decide ((xs.length:Int)<(ys.length:Int)):=by
   by_cases q:xs.length<ys.length
   ·rw[aP q];exact(aP (by lia)).symm
   ·rw[bx q];exact(bx (by lia)).symm
  rw[e];exact .lt (by show((xs.length:Int) == (ys.length:Int))=false;exact nG.mpr (by lia)) (.int _ _)
def tj(H:Hp)(r p:Addr)(xs:List Str):Prop:=H p=some (.lst (xs.map V.str))/\H r=some (.tup [.int (xs.length:Nat),.ref p])
variable{K:au}{H:Hp}{r p:Addr}{xs:List Str}
theorem tj.dp(h:tj H r p xs):Dp K H (.ref r) (zh xs) :=
 .tup (az.of h.2) (.cons (.int _) (.cons (.lst (ag.of h.1) (vy xs)) .nil))
theorem Ph(h:∀x∈xs,nE x=true):(zh xs).canLay0=true:=by
 show(true&&(jS (xs.map f')&&true))=true;rw[yL h];rfl
theorem Zh7(xs:List Str):(zh xs).depth<=2:=by
 show max 0 (max (kR (xs.map f')+1) 0)+1<=2;rw[B5];decide
def eZ(ws:List Str):Prop := ∀x∈ws,nE x=true
theorem ZmJ{r' p':Addr}{ys:List Str}(h1:tj H r p xs)(h2:tj H r' p' ys)(o1:eZ xs)(o2:eZ ys):RX K H (.ref r) (.ref r') (aQ xs ys) :=
 ⟨_,_,h1.dp,h2.dp,Ph o1,Ph o2,cm (WE _ _) (cm (Zh7 xs) (by decide)),Zlf xs ys⟩
def Jo(K:au):Sp:=λvs H Q _=>∃(a:Addr)(xs:List V)(g:Gr Str),vs=[.ref a]/\az K H a xs/\e_ H xs g/\(words SL g).length<=1000 /\
 ∀(r p:Addr)(H':Hp),Zh H H'->H r=none->H p=none->tj H' r p (words SL g)->Q (.ref r) H'
def C2(K:au)(H:Hp)(a:Addr)(ws:List Str):Prop := ∃xs g,az K H a xs/\e_ H xs g/\words SL g=ws/\ws.length<=1000/\eZ ws
theorem C2.same{H':Hp}{a:Addr}{ws:List Str}(h:C2 K H a ws)(s:Zh H H'):C2 K H' a ws:=by
 obtain⟨xs,g,h1,h2,h3⟩:=h;exact⟨xs,g,s.U8 h1,h2.mono s.tk,h3⟩
end Fg
namespace L2
open PySem PySem.Spec PyProof.Rows PySem.SeqAt
theorem ZgG:bootBuiltins "reversed" = some (.type "reversed"):=by decide +kernel
end L2
namespace L2
open PySem PySem.Spec PyProof.Rows
def CW(n:Nat)(Pv:Nat->List V->St->Hp->Prop):Nat->Nat->List V->St->Hp->Prop:=λi m ys σ H=>m=n-i/\i<=n/\Pv i ys σ H
theorem CW.next{n i:Nat}{Pv:Nat->List V->St->Hp->Prop}{ys:List V}{σ : St}{H:Hp}(hi:i<n)(h:Pv (i+1) ys σ H):∃m',m'<n-i/\CW n Pv (i+1) m' ys σ H:=⟨_,by lia,rfl,hi,h⟩
theorem wI{x:Str}:[x].Nodup:=by simp
theorem B_{K:au}{a p:Addr}{xs:List V}{g:TG}{te:TE}{R:Hp->Prop}{gz:St}{H0:Hp}(Pv:Nat->List V->St->Hp->Prop)(h0:Pv 0 [] gz H0)
  (hl:∀i ys σ H,i<=xs.length->Pv i ys σ H->ag K H a xs/\H p=some (.lst ys))
  (hs:∀i ys x σ H,i<xs.length->xs[i]?= some x->Pv i ys σ H->g x σ H λaL H4=>te aL H4 λv H5=>H5 p=some (.lst ys)/\ys.length<sizeLine/\∃m',m'<xs.length-i/\CW xs.length Pv (i+1) m' (ys ++ [v]) aL (upd H5 p (.lst (ys ++ [v]))))
  (hd:∀ys σ H,Pv xs.length ys σ H->R H) :
  ∃W:Nat->Nat->List V->St->Hp->Prop,(∃m,W 0 m [] gz H0)/\∀i m ys dF H2,W i m ys dF H2->H2 p=some (.lst ys)/\(((g8 K a).stop i H2/\R H2)\/((g8 K a).go i H2/\∀x H3,(g8 K a).fw i H2 x H3->g x dF H3 λaL H4=>te aL H4 λv H5 =>
   H5 p=some (.lst ys)/\ys.length<sizeLine/\∃m',m'<m/\W (i+1) m' (ys ++ [v]) aL (upd H5 p (.lst (ys ++ [v]))))):=by
 refine⟨CW xs.length Pv,⟨_,rfl,bz _,h0⟩,?_⟩;rintro i m ys σ H ⟨rfl,hi,hp⟩;obtain⟨h1,h2⟩:=hl i ys σ H hi hp;refine⟨h2,?_⟩;by_cases aB:i<xs.length
 ·refine .inr ⟨⟨xs,xs[i],h1,bO aB⟩,?_⟩;rintro x H3 ⟨rfl,hx⟩;exact hs i ys x σ _ aB (hx xs h1) hp
 ·refine .inl ⟨⟨xs,h1,by lia⟩,hd ys σ H ?_⟩;have e:i=xs.length:=by lia
  rw[<- e];exact hp
theorem lj{scope:cY}{env:Env}(h:∀y∈scope.names,y.2 ≠ .cell/\y.2 ≠ .free){cl:List (Str×Addr)}:∀(C:Addr)(x:Str),((compEnvC scope cl C env).kindOf x=some .cell\/(compEnvC scope cl C env).kindOf x=some .free)->∃c,cl.lookup x=some c:=by
 have key:∀(l:List (Str×xH))(x:Str),(∀y∈l,y.2 ≠ .cell/\y.2 ≠ .free)->∀k,(l.map λ(n,k)=>if(k ==.free&&env.scope.kind ==.function&&env.kindOf n == some .cell) then(n,.cell) else(n,k)).lookup x=some k->k ≠ .cell/\k ≠ .free:=by
  intro l
  induction l with
  | nil=>intro x _ k e;simp at e
  | cons y l ih =>
   intro x hy k e;obtain⟨n,kd⟩:=y;have hk:=hy _ (aZ ..);have e0:(kd == Wy&&env.scope.kind ==.function&&env.kindOf n == some .cell)=false:=by
    have:(kd == Wy)=false:=by
     cases kd <;> first|rfl|exact absurd rfl hk.2
    rw[this];rfl
   simp only[ck,e0,jN,eV,ML] at e;cases hx:x == n with
   | true =>
    rw[hx] at e;cases e;exact hk
   | false =>
    rw[hx] at e;exact ih x (λy hm=>hy y (bM _ hm)) k e
 intro C x hx;rcases hx with e|e
 ·exact absurd rfl (key _ x h _ e).1
 ·exact absurd rfl (key _ x h _ e).2
end L2
namespace g6
theorem Cb{A:Type}[DecidableEq A]{sl:A}:∀{g:Gr A}{n:Nat}{ws:List A},gj sl g->dA sl n ws->dA sl n (words sl g++ws)
 | .nil,_,_,_,h=>h
 | .cons t w o,n,ws,⟨h1,h2,h3⟩,h=>by
  have e:words sl (.cons t w o)++ws=t::(words sl w++sl::(words sl o++ws)):=by simp[words]
  rw[e,sV h1];exact Cb h2 (yS.mpr ⟨by lia,Cb h3 (by simpa using h)⟩)
end g6
namespace L2
open PySem PySem.Spec PyProof.Rows
section
variable{X:Cx}{elt iter tg:Expr}{scope:cY}{pos:Pos}{wi:TI}{g:TG}{te:TE}{cl:List (Str×Addr)}
theorem Zgr{y:Str}{py AY:Pos}{n0:Nat}(hN:X.N.Nodup)(KN:X.N[n0]?= some y)(hx:Loc X.env.scope y)(tn:List Str)(aE:List (Str×Nat))(hi:PI X tg iter wi)(hg:∀C fp s H,PG (dj X (tn++aE.map (·.1)) scope cl C fp s H) tg g)(he:∀C fp s H,PE (dj X (tn++aE.map (·.1)) scope cl C fp s H) elt te)
  (hc:X.calm=true) (tT:closureFor scope X.env=pure cl) (iM:∀y∈scope.names,y.2 ≠ .cell) (hk:scope.kind=.function) (ue:∀y∈scope.names,y.2=.local->scope.names.lookup y.1=some .local)
  (aY:∀x c,cl.lookup x=some c->X.env.cells.lookup x=some c)
  (d_:∀C x,((compEnvC scope cl C X.env).kindOf x=some .cell\/(compEnvC scope cl C X.env).kindOf x=some .free)->∃c,cl.lookup x=some c)
  (ij:∀C,∀p∈aE,X.N[p.2]?= some p.1/\X.env.scope.names.lookup p.1=some .cell/\((compEnvC scope cl C X.env).kindOf p.1=some .cell\/(compEnvC scope cl C X.env).kindOf p.1=some .free))
  (hs:∀v,foldedSetIterable iter X.env v=pure v) (La:swapsWith (.ListComp elt [⟨tg,iter,[],0⟩] scope pos) (some (.Name y py)) AY.line X.env=pure true) (hf:X.fn y=true\/X.env.scope.names.lookup y=some .local:=by first|exact .inl rfl|exact .inr rfl|assumption) :
  PS X (.Assign [.Name y py] (.ListComp elt [⟨tg,iter,[],0⟩] scope pos) AY) (C0 (RB wi tn.length aE g te) (vF n0)):=by
 intro pins s σ H D I h;rw[XX _ _ _ _ La];refine ae (yb (ae ?_));show wpAny _ X.A (do let _ <- comprehension (.ListComp elt [⟨tg,iter,[],0⟩] scope pos) scope X.env _ (newList []) false (eval iter X.env) (some (assign (.Name y py) X.env))) _ _ s;refine ae (dz (Gd (use:=some (assign (.Name y py) X.env)) (Q:=λ_ s'=>SP X pins D .next s') rfl hs tT hk ue (aw (hi pins s σ H _ I h) λv s1 h1=>aw h1 λwC s2 h2=>?_)) (λ_ s' hq=>ai (ai hq)) λ_ _ e=>e)
 obtain⟨it,fp,jL,J,H2,e,I2,T,dq,f2,q2⟩:=h2;subst e;refine Ou (R:=λp H6=>vF n0 (.ref p) σ H6 (λaq H'=>D.nx aq H')) tn aE hg he hc iM hk aY d_ ij I2 T dq f2 q2 λs3 H3 I3 f3 acc pH H6 s6 I6 q6=>?_;obtain⟨m,hn,_⟩:=I6.loc;have I':Inv X pins σ H6 s6:=I3.NL (ch:=fp) I6.os I6.base I6.ak I6.bare λb hb=>⟨(f3 b hb).2.2.2.1,(f3 b hb).2.1,(f3 b hb).2.2.2.2.1,(f3 b hb).2.2.2.2.2⟩;have fC:bG X pins H6 s3.heap.objs.size:=I3.jo (ax _) I6.free;show wpAny _ X.A (assign (.Name y py) X.env (.ref acc)) _ _ s6;refine NC (HW (v:=.ref acc) I' hN KN hx rfl (?_) hf);rintro s7 I7 ⟨a,sb,ha⟩;have LC:s3.heap.objs.size≠a:=by
  rcases ha with z|z
  ·rw[z];exact fC.2.1
  ·exact(fC.2.2.2.2.1 _ _ z).symm
 exact⟨m,hn.sameBut sb LC,λh' GG=>⟨_,H6,I7.turned (t':=s7.toks) (λb o hb e=>(GG.2 b hb).trans e) fC.1 fC.2.1 fC.2.2.2.1 fC.2.2.2.2.1 fC.2.2.2.2.2,q6⟩⟩
end
section
variable{X:Cx}{elt ct iter tg:Expr}{scope:cY}{pos:Pos}{wi:TI}{g:TG}{tt:TT}{te:TE}{cl:List (Str×Addr)}
theorem BW{y:Str}{py AY:Pos}{n0:Nat}(hN:X.N.Nodup)(KN:X.N[n0]?= some y)(hx:Loc X.env.scope y)(tn:List Str)(aE:List (Str×Nat))(hi:PI X tg iter wi)(hg:∀C fp s H,PG (dj X (tn++aE.map (·.1)) scope cl C fp s H) tg g)(ht:∀C fp s H,PT (dj X (tn++aE.map (·.1)) scope cl C fp s H) ct tt)(he:∀C fp s H,PE (dj X (tn++aE.map (·.1)) scope cl C fp s H) elt te)
  (hc:X.calm=true) (tT:closureFor scope X.env=pure cl) (iM:∀y∈scope.names,y.2 ≠ .cell) (hk:scope.kind=.function) (ue:∀y∈scope.names,y.2=.local->scope.names.lookup y.1=some .local)
  (aY:∀x c,cl.lookup x=some c->X.env.cells.lookup x=some c)
  (d_:∀C x,((compEnvC scope cl C X.env).kindOf x=some .cell\/(compEnvC scope cl C X.env).kindOf x=some .free)->∃c,cl.lookup x=some c)
  (ij:∀C,∀p∈aE,X.N[p.2]?= some p.1/\X.env.scope.names.lookup p.1=some .cell/\((compEnvC scope cl C X.env).kindOf p.1=some .cell\/(compEnvC scope cl C X.env).kindOf p.1=some .free))
  (hs:∀v,foldedSetIterable iter X.env v=pure v) (La:swapsWith (.ListComp elt [⟨tg,iter,[ct],0⟩] scope pos) (some (.Name y py)) AY.line X.env=pure true) (hf:X.fn y=true\/X.env.scope.names.lookup y=some .local:=by first|exact .inl rfl|exact .inr rfl|assumption) :
  PS X (.Assign [.Name y py] (.ListComp elt [⟨tg,iter,[ct],0⟩] scope pos) AY) (C0 (Rn wi tn.length aE g tt te) (vF n0)):=by
 intro pins s σ H D I h;rw[XX _ _ _ _ La];refine ae (yb (ae ?_));show wpAny _ X.A (do let _ <- comprehension (.ListComp elt [⟨tg,iter,[ct],0⟩] scope pos) scope X.env _ (newList []) false (eval iter X.env) (some (assign (.Name y py) X.env))) _ _ s;refine ae (dz (Gd (use:=some (assign (.Name y py) X.env)) (Q:=λ_ s'=>SP X pins D .next s') rfl hs tT hk ue (aw (hi pins s σ H _ I h) λv s1 h1=>aw h1 λwC s2 h2=>?_)) (λ_ s' hq=>ai (ai hq)) λ_ _ e=>e)
 obtain⟨it,fp,jL,J,H2,e,I2,T,dq,f2,q2⟩:=h2;subst e;refine OA (R:=λp H6=>vF n0 (.ref p) σ H6 (λaq H'=>D.nx aq H')) tn aE hg ht he hc iM hk aY d_ ij I2 T dq f2 q2 λs3 H3 I3 f3 acc pH H6 s6 I6 q6=>?_;obtain⟨m,hn,_⟩:=I6.loc;have I':Inv X pins σ H6 s6:=I3.NL (ch:=fp) I6.os I6.base I6.ak I6.bare λb hb=>⟨(f3 b hb).2.2.2.1,(f3 b hb).2.1,(f3 b hb).2.2.2.2.1,(f3 b hb).2.2.2.2.2⟩;have fC:bG X pins H6 s3.heap.objs.size:=I3.jo (ax _) I6.free;show wpAny _ X.A (assign (.Name y py) X.env (.ref acc)) _ _ s6;refine NC (HW (v:=.ref acc) I' hN KN hx rfl (?_) hf);rintro s7 I7 ⟨a,sb,ha⟩;have LC:s3.heap.objs.size≠a:=by
  rcases ha with z|z
  ·rw[z];exact fC.2.1
  ·exact(fC.2.2.2.2.1 _ _ z).symm
 exact⟨m,hn.sameBut sb LC,λh' GG=>⟨_,H6,I7.turned (t':=s7.toks) (λb o hb e=>(GG.2 b hb).trans e) fC.1 fC.2.1 fC.2.2.2.1 fC.2.2.2.2.1 fC.2.2.2.2.2,q6⟩⟩
end
section
variable{κ : Type}[DecidableEq κ]
def bj(ab:List (κ × V))(k : κ):Option V:=(ab.find? λkv=>decide (kv.1=k)).map (·.2)
def putK(ab:List (κ × V))(k : κ)(v:V):List (κ × V) :=
 if(ab.any λkv=>decide (kv.1=k))=true then ab.map (λkv=>if kv.1=k then(kv.1,v) else kv) else ab ++ [(k,v)]
theorem lh{p : κ × V}{r:List (κ × V)}{k : κ}(e:p.1=k):bj (p::r) k=some p.2:=by simp[bj,xC,e]
theorem lg{p : κ × V}{r:List (κ × V)}{k : κ}(e : ¬ p.1=k):bj (p::r) k=bj r k:=by simp[bj,xC,e]
theorem ji(k : κ):∀ab:List (κ × V),(ab.any λkv=>decide (kv.1=k))=(bj ab k).isSome
 | []=>rfl
 | p::r=>by
  rw[Be];by_cases e:p.1=k
  ·simp only[lh e,aP e,Bool.true_or,Option.isSome_some]
  ·rw[lg e,bx e,Bool.false_or];exact ji k r
theorem Po(k j : κ)(y:V):∀ab:List (κ × V),bj (ab.map λkv=>if kv.1=k then(kv.1,y) else kv) j=(bj ab j).map λx=>if j=k then y else x
 | []=>rfl
 | p::r=>by
  have ih:=Po k j y r;rw[ck];by_cases h:p.1=k
  ·rw[aj h];by_cases e:p.1=j
   ·rw[lh (p:=(p.1,y)) e,lh e,FI,aj (e.symm.trans h)]
   ·rw[lg (p:=(p.1,y)) e,lg e,ih]
  ·rw[ah h];by_cases e:p.1=j
   ·rw[lh (p:=p) e,lh e,FI,ah (λz=>h (e.trans z))]
   ·rw[lg (p:=p) e,lg e,ih]
theorem O0(k j : κ)(y:V):∀ab:List (κ × V),bj ab k=none->bj (ab ++ [(k,y)]) j=if j=k then some y else bj ab j
 | [],_=>by
  by_cases e:k=j
  ·rw[aj e.symm];exact lh (p:=(k,y)) e
  ·rw[ah (λz=>e z.symm)];exact lg (p:=(k,y)) e
 | p::r,hn=>by
  rw[jP];have hk : ¬ p.1=k:=λz=>by rw[lh z] at hn;cases hn
  rw[lg hk] at hn;have ih:=O0 k j y r hn;by_cases e:p.1=j
  ·rw[lh e,lh e,ah (λz=>hk (e.trans z))]
  ·rw[lg e,lg e,ih]
theorem O7(ab:List (κ × V))(k j : κ)(y:V):bj (putK ab k y) j=if j=k then some y else bj ab j:=by
 unfold putK;by_cases a:(ab.any λkv=>decide (kv.1=k))=true
 ·rw[aj a,Po];rw[ji] at a;by_cases e:j=k
  ·obtain⟨x,hx⟩:=MY.mp a;rw[aj e,e,hx,FI,aj rfl]
  ·rw[ah e];cases bj ab j with
   | none=>rfl
   | some x=>rw[FI,ah e]
 ·rw[ah a];refine O0 k j y ab ?_;rw[ji] at a;cases q:bj ab k with
  | none=>rfl
  | some x=>rw[q] at a;exact(a rfl).elim
theorem yH(ab:List (κ × V))(k : κ)(v:V):(putK ab k v).length<=ab.length+1:=by
 unfold putK
 split
 ·rw[ar];lia
 ·rw[aH,bI,lX];lia
theorem Cf{ab:List (κ × V)}{k : κ}(v:V)(h:bj ab k=none):putK ab k v=ab ++ [(k,v)]:=by
 unfold putK;rw[ji,h];exact ah (by decide)
theorem fT.AD{o:Option V}{u:Option aa}(r:fT o u):o.isSome=u.isSome:=by
 cases o with
 | none=>cases u with
  | none=>rfl
  | some _=>exact(show False from r).elim
 | some _=>cases u with
  | none=>exact(show False from r).elim
  | some _=>rfl
theorem fT.getD{o:Option V}{u:Option aa}{d:V}{d':aa}(r:fT o u)(rd:RelV d d'):RelV (o.getD d) (u.getD d'):=by
 cases o with
 | none=>cases u with
  | none=>exact rd
  | some _=>exact(show False from r).elim
 | some _=>cases u with
  | none=>exact(show False from r).elim
  | some _=>exact r
theorem KV.val{ab:List (κ × V)}{vs:List (κ × aa)}(r:KV ab vs)(k : κ):fT (bj ab k) (valueAt vs k):=by
 unfold KV at r
 induction r with
 | nil=>exact kT
 | @cons p q ps qs h t ih =>
  obtain⟨h1,h2⟩:=h;by_cases e:p.1=k
  ·have e':q.1=k:=h1.symm.trans e;have b:valueAt (q::qs) k=some q.2:=by simp[valueAt,xC,e']
   rw[lh e,b];exact h2
  ·have e' : ¬ q.1=k:=λz=>e (h1.trans z);have b:valueAt (q::qs) k=valueAt qs k:=by simp[valueAt,xC,e']
   rw[lg e,b];exact ih
theorem KV.any{ab:List (κ × V)}{vs:List (κ × aa)}(r:KV ab vs)(k : κ):(ab.any λkv=>decide (kv.1=k))=vs.any λkv=>decide (kv.1=k):=by
 unfold KV at r
 induction r with
 | nil=>rfl
 | cons h t ih=>rw[Be,Be,ih,h.1]
theorem KV.LV{ab:List (κ × V)}{vs:List (κ × aa)}(r:KV ab vs)(k : κ){y:V}{u:aa}(ry:RelV y u) :
  KV (ab.map λkv=>if kv.1=k then(kv.1,y) else kv) (vs.map λkv=>if kv.1=k then(kv.1,u) else kv):=by
 unfold KV at r ⊢
 induction r with
 | nil=>exact .nil
 | @cons p q ps qs h t ih =>
  rw[ck,ck];refine .cons ?_ ih;obtain⟨h1,h2⟩:=h;by_cases e:p.1=k
  ·rw[aj e,aj (h1.symm.trans e)];exact⟨h1,ry⟩
  ·rw[ah e,ah (λz=>e (h1.trans z))];exact⟨h1,h2⟩
theorem KV.put{ab:List (κ × V)}{vs:List (κ × aa)}(r:KV ab vs)(k : κ){y:V}{u:aa}(ry:RelV y u):KV (putK ab k y) (stored vs k u):=by
 unfold putK stored;rw[r.any k];by_cases e:(vs.any λkv=>decide (kv.1=k))=true
 ·rw[aj e,aj e];exact r.LV k ry
 ·rw[ah e,ah e];exact r8 r ⟨rfl,ry⟩
theorem KV.length{ab:List (κ × V)}{vs:List (κ × aa)}(r:KV ab vs):ab.length=vs.length:=cw r
end
variable{P:aC}{w:ay}{u:aa}
theorem qA{k:Key}(r:RelV (kV k) u):(ZF P w).is k u=true:=by
 cases k with
 | inl i=>obtain⟨t,e⟩:=(show ∃t,u=iZ i t from r);subst e;exact ZgT P w i t
 | inr x=>obtain⟨t,e⟩:=(show ∃t,u=gE x t from r);subst e;exact ZgP P w x t
theorem OV{P:aC}{w:ay}:∀{ks:List Key}{us:List aa},Vals (ks.map kV) us->ItemsAre (ZF P w) ks us
 | [],_,r=>by rw[Wi] at r;cases r;exact .nil
 | k::ks,_,r=>by
  rw[ck] at r;cases r with
  | cons h t=>exact .cons (qA h) (OV t)
abbrev KT(H:Hp):List (List Key×V)->List (List Key×Addr×aa)->Prop:=aN λp q=>p.1=q.1/\H q.2.1=some (.tup (p.1.map kV))/\RelV p.2 q.2.2
variable{H:Hp}{ab:List (List Key×V)}{xs:List (List Key×Addr×aa)}
theorem KT.val(r:KT H ab xs)(k:List Key):fT (bj ab k) ((atKey xs k).map (·.2)):=by
 induction r with
 | nil=>exact kT
 | @cons p q ps qs h t ih =>
  obtain⟨h1,_,h2⟩:=h;by_cases e:p.1=k
  ·have e':q.1=k:=h1.symm.trans e;have b:atKey (q::qs) k=some q.2:=by simp[atKey,xC,e']
   rw[lh e,b];exact h2
  ·have e' : ¬ q.1=k:=λz=>e (h1.trans z);have b:atKey (q::qs) k=atKey qs k:=by simp[atKey,xC,e']
   rw[lg e,b];exact ih
theorem KT.LV(r:KT H ab xs)(k:List Key){y:V}{u:aa}(ry:RelV y u) :
  KT H (ab.map λkv=>if kv.1=k then(kv.1,y) else kv) (xs.map (putAt k u)):=by
 induction r with
 | nil=>exact .nil
 | @cons p q ps qs h t ih =>
  rw[ck,ck];refine .cons ?_ ih;obtain⟨h1,h2,h3⟩:=h;unfold putAt;by_cases e:p.1=k
  ·rw[aj e,aj (h1.symm.trans e)];exact⟨h1,h2,ry⟩
  ·rw[ah e,ah (λz=>e (h1.trans z))];exact⟨h1,h2,h3⟩
theorem KT.put(r:KT H ab xs)(k:List Key){b:Addr}{y:V}{u:aa}(hb:H b=some (.tup (k.map kV)))(ry:RelV y u) :
  KT H (putK ab k y) (storedH xs k b u):=by
 have e:(ab.any λkv=>decide (kv.1=k))=(atKey xs k).isSome:=by
  rw[ji,(r.val k).AD,FH]
 unfold putK storedH;rw[e];by_cases q:(atKey xs k).isSome=true
 ·rw[aj q,aj q];exact r.LV k ry
 ·rw[ah q,ah q];exact r8 r ⟨rfl,hb,ry⟩
variable{H':Hp}
theorem KT.keeps(r:KT H ab xs)(ht:∀b ys,H b=some (.tup ys)->H' b=some (.tup ys)):KT H' ab xs :=
 aN.cM r λ_ _ z=>⟨z.1,ht _ _ z.2.1,z.2.2⟩
variable{h:Heap}{a:Addr}
theorem RF{u:HO}(ok:bJ P w H h)(e:Rd H a u):Z7 P w H h a u:=e.ok ok
theorem qB{ab:List (Key×V)}(ok:bJ P w H h)(e:Rd H a (.dK ab)):ab.length<=sizeLine/\(a == sysModules)=false/\∃vs,KV ab vs/\h.DictOf (ZF P w) a vs :=
 show Z7 P w H h a (.dK ab) from RF ok e
theorem zg{ab:List (Key×V)}(ok:bJ P w H h)(e:H a=some (.dK ab)):ab.length<=sizeLine/\(a == sysModules)=false/\∃vs,KV ab vs/\h.DictOf (ZF P w) a vs:=qB ok (.inl e)
theorem sY{ks:List Key}(ok:bJ P w H h)(e:H a=some (.tup (ks.map kV))):(tupleKind (ZF P w)).is h ks a:=by
 obtain⟨_,its,r,o,h1,h2,n,h3⟩:=(show Z7 P w H h a (.tup (ks.map kV)) from ok a _ e);exact⟨o,its.toArray,n,h1,h2,h3,by simpa using OV r⟩
theorem tD(ok:bJ P w H h)(e:Rd H a (.dT ab)):ab.length<=sizeLine/\(a == sysModules)=false /\
  ∃xs,KT H ab xs/\h.DictOfH (tupleKind (ZF P w)) a xs:=by
 obtain⟨z,y,xs,r,o,es,ep,h1,h2,h3,h4,h5⟩:=(show Z7 P w H h a (.dT ab) from RF ok e);refine⟨z,y,xs,r,o,es,ep,h1,h2,h3,h4,λx hx=>?_,h5⟩;have all:∀{l:List (List Key×V)}{m:List (List Key×Addr×aa)},KT H l m->∀x∈m,(tupleKind (ZF P w)).is h x.1 x.2.1:=by
  intro l m q
  induction q with
  | nil=>intro x hx;exact nomatch hx
  | @cons p q ps qs hq t ih =>
   intro x hx;rcases aV.mp hx with e|hx
   ·subst e;exact sY ok (by rw[<- hq.1];exact hq.2.1)
   ·exact ih x hx
 exact all r x hx
theorem Zpl(ok:bJ P w H h)(e:H a=some (.dT ab)):ab.length<=sizeLine/\(a == sysModules)=false /\
  ∃xs,KT H ab xs/\h.DictOfH (tupleKind (ZF P w)) a xs:=tD ok (.inl e)
def dO(H:Hp)(a:Addr)(y:V)(r:Option V):Prop :=
 (∃ab k,Rd H a (.dK ab)/\y=kV k/\r=bj ab k)\/∃ab k b,Rd H a (.dT ab)/\y=.ref b/\H b=some (.tup (k.map kV))/\r=bj ab k
def jk(H:Hp)(a:Addr)(y v:V)(H':Hp):Prop :=
 (∃ab k,H a=some (.dK ab)/\y=kV k/\ab.length<sizeLine/\H'=upd H a (.dK (putK ab k v))) \/
 ∃ab k b,H a=some (.dT ab)/\y=.ref b/\H b=some (.tup (k.map kV))/\ab.length<sizeLine/\H'=upd H a (.dT (putK ab k v))
theorem dO.k{H:Hp}{a:Addr}{ab:List (Key×V)}{k:Key}(e:H a=some (.dK ab)):dO H a (kV k) (bj ab k):=.inl ⟨ab,k,.inl e,rfl,rfl⟩
theorem jk.k{H:Hp}{a:Addr}{ab:List (Key×V)}{k:Key}{v:V}(e:H a=some (.dK ab))(hl:ab.length<sizeLine):jk H a (kV k) v (upd H a (.dK (putK ab k v))):=.inl ⟨ab,k,e,rfl,hl,rfl⟩
variable{v:V}
theorem jk.t{b:Addr}{k:List Key}(e:H a=some (.dT ab))(eb:H b=some (.tup (k.map kV)))(hl:ab.length<sizeLine) :
  jk H a (.ref b) v (upd H a (.dT (putK ab k v))):=.inr ⟨ab,k,b,e,rfl,eb,hl,rfl⟩
variable{X:Cx}{pins:List (Addr×Obj)}{σ:St}{s:af}
theorem Inv.big(I:Inv X pins σ H s):sysModules<s.heap.objs.size:=by
 have h:mainGlobals<s.heap.objs.size:=(I.mod.glob.keeps I.bk).lt;exact nB (by decide) h
variable{y:V}{A:aI}{E Q:aa->af->Prop}
theorem Zjk(hu:A.units+1<cLine)(I:Inv X pins σ H s)(g:dO H a y (some v))(ry:RelV y u)(h:∀w' s',Inv X pins σ H s'->RelV v w'->Q w' s') :
  wpAny (model X.prog X.w) A (getItem (.ref a) u) Q E s:=by
 rcases g with⟨ab,k,e,ey,l⟩|⟨ab,k,b,e,ey,eb,l⟩
 ·subst ey;obtain⟨z,hd,vs,rel,dd⟩:=qB I.ak e;obtain⟨w',hw,kW⟩:=fT.some_of (v:=v) (o:=valueAt vs k) (by rw[l];exact rel.val k);exact wpAny_getItem_of (qA ry) dd.mapOf hw (h w' _ (I.tok _) kW)
 ·subst ey;cases (show u=aO b from ry);obtain⟨z,hd,xs,rel,dd⟩:=tD I.ak e;obtain⟨w',hw,kW⟩:=fT.some_of (v:=v) (o:=(atKey xs k).map (·.2)) (by rw[l];exact rel.val k);obtain⟨p,hp,dC⟩:=dv.mp hw;refine wpAny_getItem_heap (Bw hu) (sY I.ak eb) dd hp ?_;rw[dC];exact h w' _ (I.tok _) kW
variable{o:Option V}
theorem Zqa(hu:A.units+1<cLine)(I:Inv X pins σ H s)(g:dO H a y o)(ry:RelV y u)(h:∀s',Inv X pins σ H s'->Q (.bool o.isSome) s') :
  wpAny (model X.prog X.w) A (compareOp .In u (.ref a)) Q E s:=by
 rcases g with⟨ab,k,e,ey,l⟩|⟨ab,k,b,e,ey,eb,l⟩
 ·subst ey;obtain⟨z,hd,vs,rel,dd⟩:=qB I.ak e;refine wpAny_in_of (qA ry) hd dd.mapOf ?_;rw[<- (rel.val k).AD,<- l];exact h _ (I.tok _)
 ·subst ey;cases (show u=aO b from ry);obtain⟨z,hd,xs,rel,dd⟩:=tD I.ak e;refine wpAny_in_heap (Bw hu) (sY I.ak eb) hd dd ?_;have q:=(rel.val k).AD;rw[FH] at q;rw[<- q,<- l];exact h _ (I.tok _)
theorem ZmU(hu:A.units+1<cLine)(I:Inv X pins σ H s)(g:dO H a y o)(ry:RelV y u)(h:∀s',Inv X pins σ H s'->Q (.bool (!o.isSome)) s') :
  wpAny (model X.prog X.w) A (compareOp .NotIn u (.ref a)) Q E s:=by
 rcases g with⟨ab,k,e,ey,l⟩|⟨ab,k,b,e,ey,eb,l⟩
 ·subst ey;obtain⟨z,hd,vs,rel,dd⟩:=qB I.ak e;refine wpAny_notIn_of (qA ry) hd dd.mapOf ?_;rw[<- (rel.val k).AD,<- l];exact h _ (I.tok _)
 ·subst ey;cases (show u=aO b from ry);obtain⟨z,hd,xs,rel,dd⟩:=tD I.ak e;refine wpAny_notIn_heap (Bw hu) (sY I.ak eb) hd dd ?_;have q:=(rel.val k).AD;rw[FH] at q;rw[<- q,<- l];exact h _ (I.tok _)
variable{h':Heap}
theorem IQ{t':Nat}{ob:HO}(I:Inv X pins σ H s)(mu:yA (H a))(hs:fz a s.heap h')(he:∃q,h'.get? a=some q)(new:Z7 X.prog X.w (upd H a ob) h' a ob) :
  Inv X pins σ (upd H a ob) { s with heap:=h',toks:=t' } :=
 I.write (x:=a) (e:=a) mu (.inl rfl) (λb q hb z=>(hs.2 b hb).trans z) he new
theorem Rb{ab:List (Key×V)}{vs:List (Key×aa)}(z:ab.length<=sizeLine)(hd:(a == sysModules)=false)(rel:KV ab vs)(dd:h'.DictOf (ZF P w) a vs) :
  Z7 P w H' h' a (.dK ab):=⟨z,hd,vs,rel,dd⟩
variable{r:aa}
theorem ZjQ{Q:Unit->af->Prop}(hu:A.units+1<cLine)(I:Inv X pins σ H s)(g:jk H a y v H')(ry:RelV y u)(rv:RelV v r)(h:∀s',Inv X pins σ H' s'->Q () s') :
  wpAny (model X.prog X.w) A (setItem (.ref a) u r) Q E s:=by
 rcases g with⟨ab,k,e,ey,l,eH⟩|⟨ab,k,b,e,ey,eb,l,eH⟩
 ·subst ey eH;obtain⟨z,hd,vs,rel,dd⟩:=zg I.ak e;have hz:vs.length<=sizeLine:=by rw[<- rel.length];exact z
  have hl:(putK ab k v).length<=sizeLine:=by have:=yH ab k v;lia
  refine wpAny_setItem_pairs (hsz:=hz) (qA ry) dd λh' sx hs=>h _ ?_;have he:∃q,h'.get? a=some q:=let ⟨q,_,_,hq,_⟩:=sx;⟨q,hq⟩;exact IQ I (by rw[e];exact kT) hs he (Rb hl hd (rel.put k rv) sx)
 ·subst ey eH;cases (show u=aO b from ry);obtain⟨z,hd,xs,rel,dd⟩:=Zpl I.ak e;have hz:xs.length<=sizeLine:=by rw[<- cw rel];exact z
  have hl:(putK ab k v).length<=sizeLine:=by have:=yH ab k v;lia
  refine wpAny_setItem_heap (hsz:=hz) (Bw hu) (sY I.ak eb) dd λh' sx hs=>h _ ?_;obtain⟨q,es,ep,hq,h2,h3,h4,_,h5⟩:=sx;refine IQ I (by rw[e];exact kT) hs ⟨q,hq⟩ ⟨hl,hd,_,(rel.put k eb rv).keeps λc ys ec=>?_,q,es,ep,hq,h2,h3,h4,h5⟩;rw[Zc (ZoT ec e (λz=>nomatch z))]
  exact ec
section
variable{X:Cx}{pins:List (Addr×Obj)}{σ : St}{H:Hp}{s:af}{a:Addr}{ab:List (Key×V)}{k:Key}{u:aa}{A:aI}{E:aa->af->Prop}
theorem ZoQ{Q:aa->af->Prop}(I:Inv X pins σ H s)(e:Rd H a (.dK ab))(h:∀t s',Inv X pins σ H s'->Q (.int ab.length t) s'):wpAny (model X.prog X.w) A (call (.builtin "len") [.ref a]) Q E s:=by
 obtain⟨z,hd,vs,rel,dd⟩:=qB I.ak e;refine call_len_dict hd dd (by rw[<- rel.length];rw[bB] at z;lia) ?_;rw[<- rel.length];exact h _ _ (I.tok _)
end
def RO(i:Expr):Prop := ∀ov iv,subscripted i false ov iv=operate [ov,iv] (getItem ov iv)
variable{pos:Pos}
theorem ZmR{prog:aC}{env:Env}{value slice:Expr}{T id:String}
  (hl:typeLookup (.type T) "__getitem__" = pure (some (.builtin id))) (hs:RO slice)
  (h:wpAny (model prog w) A (eval value env) (λo aT=>wpAny (model prog w) A (eval slice env) (λi s₂=>s₂.TypeIs o T/\wpAny (model prog w) A (getItem o i) Q E s₂) E aT) E s) :
  wpAny (model prog w) A (eval (.Subscript value slice pos) env) Q E s:=by
 refine FW (dz h (λo aT jE=>dz jE (λi s₂ o6=>?_) λ_ _ x=>x) λ_ _ x=>x);obtain⟨hT,o6⟩:=o6;unfold subscriptTail;refine ae ?_;rw[getitemInPython_of_ne hT.not_modules];refine ae (Yi hT hl ?_);have fin:wpAny (model prog w) A (subscripted slice false o i) (λr wU=>wpAny (model prog w) A (letTemporaryGo value o r >>= λ_=>pure r) Q E wU) E s₂ := by
  rw[hs o i];exact wpAny_operating (dz o6 (λr wU Az=>ae (wpAny_letTemporaryGo (ai Az))) λ_ _ x=>x)
 first
  | exact ai (ae fin)
  | exact ae (ai (ae fin))
  | exact ae fin
theorem Zgs(I:Inv X pins σ H s)(g:dO H a y o):s.TypeIs (.ref a) "dict" := by
 rcases g with⟨ab,k,e,_,_⟩|⟨ab,k,b,e,_,_,_⟩
 ·obtain⟨_,_,vs,_,dd⟩:=qB I.ak e;exact dd.typeIs
 ·obtain⟨_,_,xs,_,dd⟩:=tD I.ak e;exact dd.typeIs
def Zpd(td ty:TE):TE:=λσ H Q=>td σ H λx H1=>ty σ H1 λy H2=>∃a v,x=.ref a/\dO H2 a y (some v)/\Q v H2
def ZpZ(ty td:TE):TE:=λσ H Q=>ty σ H λy H1=>td σ H1 λx H2=>∃a o,x=.ref a/\dO H2 a y o/\Q (.bl o.isSome) H2
def Zm5(ty td:TE):TE:=λσ H Q=>ty σ H λy H1=>td σ H1 λx H2=>∃a o,x=.ref a/\dO H2 a y o/\Q (.bl (!o.isSome)) H2
def Zo7(td ty tv:TE):TS:=λD σ H=>tv σ H λv H1=>td σ H1 λx H2=>ty σ H2 λy H3=>∃a H4,x=.ref a/\jk H3 a y v H4/\D.nx σ H4
section
variable{X:Cx}{o i e value:Expr}{pos pos' ZBc:Pos}{td ty tv:TE}
theorem Je(hu:X.A.units+1<cLine)(ho:PE X o td)(hi:PE X i ty)(hs:RO i):PE X (.Subscript o i pos) (Zpd td ty):=by
 intro pins s σ H Q I h;refine ZmR PySem.F.slot_dict_getitem.lookup hs (aw (ho pins s σ H _ I h) ?_);rintro u s1 ⟨x,H1,I1,rx,q1⟩;refine aw (hi pins s1 σ H1 _ I1 q1) ?_;rintro iv s2 ⟨y,H2,I2,ry,a,v,ex,g,q2⟩;subst ex;obtain rfl:u=aO a:=rx;exact⟨Zgs I2 g,Zjk hu I2 g ry λw' s3 I3 kW=>⟨v,H2,I3,kW,q2⟩⟩
theorem oi(hu:X.A.units+1<cLine)(hi:PE X i ty)(ho:PE X o td):PC X .In i o (ZpZ ty td):=by
 intro pins s σ H Q I h;refine aw (hi pins s σ H _ I h) ?_;rintro iv s1 ⟨y,H1,I1,ry,q1⟩;refine aw (ho pins s1 σ H1 _ I1 q1) ?_;rintro u s2 ⟨x,H2,I2,rx,a,ov,ex,g,q2⟩;subst ex;obtain rfl:u=aO a:=rx;exact Zqa hu I2 g ry λs3 I3=>⟨.bl ov.isSome,H2,I3,rfl,q2⟩
theorem Zi0(hu:X.A.units+1<cLine)(hi:PE X i ty)(ho:PE X o td):PC X .NotIn i o (Zm5 ty td):=by
 intro pins s σ H Q I h;refine aw (hi pins s σ H _ I h) ?_;rintro iv s1 ⟨y,H1,I1,ry,q1⟩;refine aw (ho pins s1 σ H1 _ I1 q1) ?_;rintro u s2 ⟨x,H2,I2,rx,a,ov,ex,g,q2⟩;subst ex;obtain rfl:u=aO a:=rx;exact ZmU hu I2 g ry λs3 I3=>⟨.bl (!ov.isSome),H2,I3,rfl,q2⟩
theorem qu(hu:X.A.units+1<cLine)(ho:PE X o td)(hi:PE X i ty)(hv:PE X value tv)(hs:swapsWith value (some (.Subscript o i pos')) pos.line X.env=pure false) :
  PS X (.Assign [.Subscript o i pos'] value pos) (Zo7 td ty tv):=by
 intro pins s σ H D I h;refine wpAny_Assign_Subscript (aw (hv pins s σ H _ I h) ?_) hs;rintro r s1 ⟨v,H1,I1,rv,q1⟩;refine aw (ho pins s1 σ H1 _ I1 q1) ?_;rintro u s2 ⟨x,H2,I2,rx,q2⟩;refine aw (hi pins s2 σ H2 _ I2 q2) ?_;rintro iv s3 ⟨y,H3,I3,ry,a,H4,ex,g,q3⟩;subst ex;obtain rfl:u=aO a:=rx;exact ZjQ hu I3 g ry rv λs4 I4=>⟨σ,H4,I4,q3⟩
end
theorem ZlK(h:Heap)(hb:sysModules<h.objs.size):Z7 P w H (h.push { cls:=.type "dict",data:=.dict #[] }) h.objs.size (.dK []) :=
 ⟨bz _,nG.mpr (gS (bc hb)),[],.nil,V0 h⟩
theorem Zk3(h:Heap)(hb:sysModules<h.objs.size):Z7 P w H (h.push { cls:=.type "dict",data:=.dict #[] }) h.objs.size (.dT []) :=
 ⟨bz _,nG.mpr (gS (bc hb)),[],.nil,_,#[],0,bE _ rfl,⟨rfl,rfl,rfl⟩,rfl,rfl,pR⟩
def ZnV:TE:=λ_ H Q=>∀p,H p=none->Q (.ref p) (upd H p (.dK []))
def ZnO:TE:=λ_ H Q=>∀p,H p=none->Q (.ref p) (upd H p (.dT []))
theorem mn:PE X (.Dict [] [] pos) ZnV:=λpins s σ H Q I h =>
 X9 ⟨.ref s.heap.objs.size,_,I.laid (a:=s.heap.objs.size) (o:=.dK []) (t':=s.toks) (λ_ _ q=>aG _ q) (ax _) (ZlK s.heap I.big),rfl,h _ (I.ak.fresh (ax _))⟩
theorem PF:PE X (.Dict [] [] pos) ZnO:=λpins s σ H Q I h =>
 X9 ⟨.ref s.heap.objs.size,_,I.laid (a:=s.heap.objs.size) (o:=.dT []) (t':=s.toks) (λ_ _ q=>aG _ q) (ax _) (Zk3 s.heap I.big),rfl,h _ (I.ak.fresh (ax _))⟩
structure M2(X:Cx)(o:Expr)(m:Str)(apos:Pos)(e f:Expr)(eN:Pos):Prop where
 base:attributeBase o m X.env (eval o X.env)=eval o X.env
 jn:((backTo eN (starEach [e,f] X.env)).all (λx=>!x.1)&&(backToKw eN (keywordEach [] X.env)).all (λx=>x.1.isSome)
  && decide (([e,f]:List Expr).length+([]:List xw).length+(if([]:List xw).isEmpty then 0 else 1)<30))=true
 line:(apos.endLine == eN.line)=true
 Ve:backTo eN (starEach [e,f] X.env)=[(false,eval e X.env),(false,eval f X.env)]
def G_(H:Hp)(a:Addr):Prop:=(∃ab,Rd H a (.dK ab))\/∃ab,Rd H a (.dT ab)
theorem Rf(I:Inv X pins σ H s)(d:G_ H a) :
  s.TypeIs (.ref a) "dict" /\ (∀b,aO a=.ref b->∃ob,s.heap.get? b=some ob/\ob.dict=none)/\(a == sysModules)=false:=by
 rcases d with⟨ab,e⟩|⟨ab,e⟩
 ·obtain⟨_,hd,vs,_,dd⟩:=qB I.ak e;refine⟨dd.typeIs,λb q=>?_,hd⟩;cases q;obtain⟨ob,_,_,h1,h2,_⟩:=dd;exact⟨ob,h1,h2.2.1⟩
 ·obtain⟨_,hd,xs,_,dd⟩:=tD I.ak e;refine⟨dd.typeIs,λb q=>?_,hd⟩;cases q;obtain⟨ob,_,_,h1,h2,_⟩:=dd;exact⟨ob,h1,h2.2.1⟩
variable{d:V}
theorem Zol(hu:A.units+1<cLine)(I:Inv X pins σ H s)(g:dO H a y o)(ry:RelV y u)(rd:RelV d r)(h:∀w' s',Inv X pins σ H s'->RelV (o.getD d) w'->Q w' s') :
  wpAny (model X.prog X.w) A (call (.builtin "dict.get") [.ref a,u,r]) Q E s:=by
 rcases g with⟨ab,k,e,ey,l⟩|⟨ab,k,b,e,ey,eb,l⟩
 ·subst ey;obtain⟨z,hd,vs,rel,dd⟩:=qB I.ak e;refine Nn M4 dd.typeIs WY (WW _ _ _) (meets_dict_get_default (ZF X.prog X.w) a (qA ry) hd r) ⟨_,dd.mapOf,h _ _ (I.tok _) ?_⟩;rw[l];exact(rel.val k).getD rd
 ·subst ey;cases (show u=aO b from ry);obtain⟨z,hd,xs,rel,dd⟩:=tD I.ak e;refine Nn M4 dd.typeIs WY (WW _ _ _) (meetsH_dict_get_default (tupleKind (ZF X.prog X.w)) a b hd r) ⟨Bw hu,k,xs,sY I.ak eb,dd,h _ _ (I.tok _) ?_⟩;rw[l];exact(rel.val k).getD rd
def Zot(td ty tx:TE):TE:=λσ H Q=>td σ H λx H1=>∃a,x=.ref a/\G_ H1 a/\ty σ H1 λy H2=>tx σ H2 λz H3=>∃o,dO H3 a y o/\Q (o.getD z) H3
section
variable{X:Cx}{o e f:Expr}{apos eN:Pos}{td ty tx:TE}
theorem Cn(hu:X.A.units+1<cLine)(ho:PE X o td)(he:PE X e ty)(hf:PE X f tx)(m:M2 X o "get" apos e f eN):PE X (.Call (.Attribute o "get" apos) [e,f] [] eN) (Zot td ty tx):=by
 intro pins s σ H Q I h;refine X6 m.base m.jn m.line W3 M4 PySem.F.type_dict_get (aw (ho pins s σ H _ I h) ?_);rintro u s1 ⟨x,H1,I1,rx,a,ex,d,q1⟩;subst ex;obtain rfl:u=aO a:=rx;obtain⟨t1,t2,_⟩:=Rf I1 d;refine⟨t1,t2,?_⟩;rw[m.Ve];refine A8 rfl (Mq (xo (aw (he pins s1 σ H1 _ I1 q1) λiv s2 ⟨y,H2,I2,ry,q2⟩ =>
  xo (aw (hf pins s2 σ H2 _ I2 q2) λfv s3 ⟨z,H3,I3,rz,ov,g,q3⟩=>E9 ?_))))
 exact Zol hu I3 g ry rz λw' s4 I4 kW=>⟨_,H3,I4,kW,q3⟩
end
section
variable{κ : Type}[DecidableEq κ]
theorem O8{ab:List (κ × V)}{k : κ}(h:bj ab k=none) : ¬ k∈ab.map (·.1):=by
 intro m;obtain⟨p,hp,e⟩:=a6.mp m;have q:(ab.any λkv=>decide (kv.1=k))=true:=uH.mpr ⟨p,hp,aP e⟩;rw[ji,h] at q;exact absurd q (by simp)
theorem P'{ab:List (κ × V)}{k : κ}{v:V}(h:bj ab k=some v):k∈ab.map (·.1):=by
 have q:(ab.any λkv=>decide (kv.1=k))=true:=by
  rw[ji,h]
  all_goals rfl
 obtain⟨p,hp,e⟩:=uH.mp q;exact a6.mpr ⟨p,hp,bK e⟩
end
structure cZ(P:aC)(w:ay)(K:au)(mg:Str->Option aa)(base:Heap)(C:Addr)(m:Str)(ps:List Str)(j:Nat)(sp:Sp):Prop where
 ex:∃f fd,aX P w K mg base bq j f fd ps sp/\Binds K fd ps []/\Meth K C m f
structure G9(P:aC)(w:ay)(K:au)(mg:Str->Option aa)(base:Heap)(C:Addr)(x:Str)(ps:List Str)(j:Nat)(sp:Sp):Prop where
 ex:∃f fd,aX P w K mg base bq j f fd ps sp/\Binds K fd ps []/\Mk K C f/\mg x=some (.ref C)
section
variable{X:Cx}{C:Addr}{m x:Str}{ps:List Str}{j k:Nat}{sp:Sp}{o e:Expr}{es:List Expr}{ta:TE}{t:TA}{p pos apos:Pos}
variable{pl:Sem Bool}
theorem vp(G:cZ X.prog X.w X.K X.mg X.base C m ps j sp)(hr:bL k X.A)(he:PE X o ta)(c:jc X.K C)(ha:PA X (e::es) t)(hk:j<=k:=by decide)
  (bu:starEach (e::es) X.env=(false,eval e X.env)::starEach es X.env:=by rfl) (bD:(backTo pos (starEach es X.env)).any (·.1)=false:=by rfl)
  (ht:eval (.Call (.Attribute o m apos) (e::es) [] pos) X.env=(do
   let ov <- eval o X.env
   standAt apos.atName
   let (f,first) <- holding [ov] (getMethod ov m pl)
   callWith pos f first (backTo pos (starEach (e::es) X.env)) (backToKw pos (keywordEach [] X.env))):=by rfl):PE X (.Call (.Attribute o m apos) (e::es) [] pos) (CT C m sp [] E0 ta t):=by
 obtain⟨f,fd,F,b,hm⟩:=G.ex;exact Znf (pl:=pl) he c hm (F.room hk) hr b .nil vG ha bu bD ht
theorem j6(G:cZ X.prog X.w X.K X.mg X.base C m ps j sp)(hr:bL k X.A)(he:PE X o ta)(c:jc X.K C)(hk:j<=k:=by decide)
  (ht:eval (.Call (.Attribute o m apos) [] [] pos) X.env=(do
   let ov <- eval o X.env
   standAt apos.atName
   let (f,first) <- holding [ov] (getMethod ov m pl)
   callWith pos f first (backTo pos (starEach [] X.env)) (backToKw pos (keywordEach [] X.env))):=by rfl):PE X (.Call (.Attribute o m apos) [] [] pos) (CT C m sp [] E0 ta mD):=by
 obtain⟨f,fd,F,b,hm⟩:=G.ex;exact ZkW (pl:=pl) he c hm (F.room hk) hr b .nil vG ht
end
def Zo8(K:au):R2:=λx y H Q=>∃l b xs zs,x=.ref l/\y=.ref b/\H l=some (.tup xs)/\H b=some (.tup zs)/\xs.length+zs.length<=sizeLine/\∀p H',Zh H H'->H' p=some (.tup (xs++zs))->Q (.ref p) H'
theorem Znv:bZ X (binaryOp .Add) (Zo8 X.K):=by
 intro pins s σ H x y v u Q I rx ry h;obtain⟨l,b,xs,zs,rfl,rfl,hl,hb,hz,q⟩:=h;cases rx;cases ry;obtain⟨its,r,p1,z1⟩:=I.tuple (az.of hl);obtain⟨fJ,r2,p2,z2⟩:=I.tuple (az.of hb);obtain⟨⟨c1,d1,t1,s1⟩,ho,hc,n,hd⟩:=p1;obtain⟨⟨c2,d2,t2,s2⟩,cJ,ii,n2,hd2⟩:=p2;simp only at hc hd ii hd2;subst hc hd ii hd2;have k1:=r.length;have k2:=r2.length;by_cases e1:its=[]
 ·subst e1;cases r;refine Np ⟨_,ho,rfl⟩ ⟨_,cJ,rfl⟩ Nt Nw M5 M3 (M1 _ _) (tuple_addW0 l b _ _ n n2 d1 d2 s1 s2 rfl) ⟨ho,cJ,?_⟩;exact⟨.ref b,H,I.tok _,rfl,q b H (Zh.refl H) hb⟩
 by_cases e2:fJ=[]
 ·subst e2;cases r2;refine Np ⟨_,ho,rfl⟩ ⟨_,cJ,rfl⟩ Nt Nw M5 M3 (M1 _ _) (tuple_addW1 l b _ _ n n2 d1 d2 s1 s2 (by simpa using e1) rfl) ⟨ho,cJ,?_⟩;exact⟨.ref l,H,I.tok _,rfl,q l H (Zh.refl H) (by rw[fN];exact hl)⟩
 ·refine Np ⟨_,ho,rfl⟩ ⟨_,cJ,rfl⟩ Nt Nw M5 M3 (M1 _ _) (tuple_addW2 l b _ _ n n2 d1 d2 s1 s2 (by simpa using e1) (by simpa using e2) (by rw[bp,bp];lia)) ⟨ho,cJ,?_⟩;have ea:its.toArray++fJ.toArray=(its++fJ).toArray:=by simp
  rw[ea];have hf:H s.heap.objs.size=none:=I.ak.fresh (ax _);refine⟨.ref s.heap.objs.size,upd H s.heap.objs.size (.tup (xs++zs)),I.laid (t':=s.toks) (λb u e=>aG _ e) (ax _) ?_,rfl,q _ _ (Zh.new hf) Za⟩;exact⟨by rw[aH];exact hz,its++fJ,r.append r2,_,bE _ rfl,rfl,_,rfl⟩
end L2
namespace g6
section
variable{A:Type}
def tH:Gr A->Gr A->Gr A
 | .nil,h=>h
 | .cons t w o,h=>.cons t w (tH o h)
theorem HH(sl:A):∀g h:Gr A,words sl (tH g h)=words sl g++words sl h
 | .nil,h=>rfl
 | .cons t w o,h=>by simp[tH,words,HH sl o h]
theorem HC{sl:A}:∀{g h:Gr A},gj sl g->gj sl h->gj sl (tH g h)
 | .nil,_,_,k=>k
 | .cons _ _ _,_,⟨a,b,c⟩,k=>⟨a,b,HC c k⟩
variable[DecidableEq A]
end
end g6
namespace Fg
open PySem L2 g6
theorem Zne(x y:Str)(h:x≠y):decide (x.cps.toList<y.cps.toList)= !decide (y.cps.toList<x.cps.toList):=by
 have bt:x.cps.toList≠y.cps.toList:=λe=>h (Zop e);by_cases h1:x.cps.toList<y.cps.toList
 ·rw[aP h1,bx (λh2=>MM _ (We h1 h2))];rfl
 ·rw[bx h1];have h2:y.cps.toList<x.cps.toList:=by
   have:=List.not_lt.mp h1;rcases List.le_iff_lt_or_eq.mp this with z|z
   ·exact z
   ·exact absurd z.symm bt
  rw[aP h2];rfl
theorem PD:∀{xs ys:List Str},xs.length=ys.length->xs≠ys->eM xs ys= !eM ys xs
 | [],[],_,h=>absurd rfl h
 | [],_::_,h,_=>by simp at h
 | _::_,[],h,_=>by simp at h
 | x::xs,y::ys,hl,hn=>by
  rw[eM,eM];by_cases e:x=y
  ·subst e;rw[aj rfl,aj rfl];exact PD (by simpa using hl) λz=>hn (by rw[z])
  ·rw[ah e,ah (gS e)];exact Zne x y e
theorem PX{xs ys:List Str}(h:xs≠ys):aQ xs ys= !aQ ys xs:=by
 unfold aQ;by_cases e:xs.length=ys.length
 ·rw[aj e,aj e.symm];exact PD e h
 ·rw[ah e,ah (gS e)];by_cases q:xs.length<ys.length
  ·rw[aP q,bx (by lia)];rfl
  ·rw[bx q,aP (by lia)];rfl
theorem Pg:∀{xs ys:List Str}(zs:List Str),xs.length=ys.length->eM (xs++zs) (ys++zs)=eM xs ys
 | [],[],zs,_=>Ca zs
 | [],_::_,_,h=>by simp at h
 | _::_,[],_,h=>by simp at h
 | x::xs,y::ys,zs,h=>by
  show(if x=y then eM (xs++zs) (ys++zs) else _)=(if x=y then eM xs ys else _)
  rw[Pg zs (by simpa using h)]
theorem OG(t:Str)(xs ys zs:List Str):aQ (t::(xs++zs)) (t::(ys++zs))=aQ xs ys:=by
 unfold aQ;by_cases e:xs.length=ys.length
 ·rw[aj e,aj (by simp[e]),eM,aj rfl];exact Pg zs e
 ·rw[ah e,ah (by simpa using e)];by_cases q:xs.length<ys.length
  ·rw[aP q,aP (by simpa using q)]
  ·rw[bx q,bx (by simpa using q)]
end Fg
namespace L2
open PySem PySem.Spec PyProof.Rows
theorem lookup_mem{β : Type}{x:Str}{c : β}:∀{l:List (Str × β)},l.lookup x=some c->(x,c)∈l
 | [],h=>by cases h
 | (y,d)::l,h=>by
  rw[ML] at h;cases e:x == y with
  | true =>
   rw[e] at h;cases h;rw[pZ.mp e];exact aZ ..
  | false =>
   rw[e] at h;exact bM _ (lookup_mem h)
variable{env:Env}{cl:List (Str×Addr)}
theorem sZ(h:∀p∈cl,env.cells.lookup p.1=some p.2):∀x c,cl.lookup x=some c->env.cells.lookup x=some c:=λx c e=>h (x,c) (lookup_mem e)
theorem vq{scope:cY}(h:∀y∈scope.names,(y.2=.cell\/y.2=.free)->∃c,cl.lookup y.1=some c):∀(C:Addr)(x:Str),((compEnvC scope cl C env).kindOf x=some .cell\/(compEnvC scope cl C env).kindOf x=some .free)->∃c,cl.lookup x=some c:=by
 have key:∀(k:xH)(x:Str),(k=.cell\/k=.free)->(scope.names.map λ(n,k)=>if(k ==.free&&env.scope.kind ==.function&&env.kindOf n == some .cell) then(n,.cell) else(n,k)).lookup x=some k->∃c,cl.lookup x=some c:=by
  intro k x hk e;obtain⟨⟨n,k0⟩,hy,he⟩:=a6.mp (lookup_mem e);by_cases hc:(k0 ==.free&&env.scope.kind ==.function&&env.kindOf n == some .cell)=true
  ·simp only[hc,gF] at he;have h0:k0=.free:=by
    simp only[gA] at hc;have:=hc.1.1;cases k0 <;> first|rfl|exact absurd this (by decide)
   injection he with e1 e2;subst e1;exact h _ hy (.inr h0)
  ·simp only[hc] at he;injection he with e1 e2;subst e1 e2;exact h _ hy hk
 intro C x hx;rcases hx with e|e
 ·exact key _ x (.inl rfl) e
 ·exact key _ x (.inr rfl) e
def bX:Stmt->List Stmt
 | .For _ _ b _ _=>b
 | .While _ b _ _=>b
 | .If _ b _ _=>b
 | _=>[]
theorem ZM{X:Cx}{b:List Stmt}{D:Ends}{σ : St}{H:Hp}(s:List Stmt){t:TS}(h:dB X s t)(k:∀u,dB X s u->u=t->∃t,dB X b t/\t D σ H):∃t,dB X b t/\t D σ H:=k t h rfl
theorem ZL{u t:TS}(e:u=t){D:Ends}{σ : St}{H:Hp}(h:t D σ H):u D σ H:=e ▸ h
variable{α:Type}
theorem RN:∀{us:List α},us.length=1->∃a,us=[a]
 | [a],_=>⟨a,rfl⟩
theorem JB{n:Nat}:∀{us:List α},us.length=n+1->∃a vs,us=a::vs/\vs.length=n
 | a::vs,h=>⟨a,vs,rfl,WJ h⟩
theorem RY{us:List α}(h:us.length=2):∃a b,us=[a,b]:=by
 obtain⟨a,vs,rfl,h2⟩:=JB h;obtain⟨b,rfl⟩:=RN h2;exact⟨a,b,rfl⟩
theorem RM{us:List α}(h:us.length=3):∃a b c,us=[a,b,c]:=by
 obtain⟨a,vs,rfl,h2⟩:=JB h;obtain⟨b,c,rfl⟩:=RY h2;exact⟨a,b,c,rfl⟩
theorem ZpG{us:List α}(h:us.length=4):∃a b c d,us=[a,b,c,d]:=by
 obtain⟨a,vs,rfl,h2⟩:=JB h;obtain⟨b,c,d,rfl⟩:=RM h2;exact⟨a,b,c,d,rfl⟩
variable{us:List aa}
theorem Vals.inv{v:V}{vs:List V}(h:Vals (v::vs) us):∃u qc,us=u::qc/\RelV v u/\Vals vs qc:=by
 cases h with
 | cons r t=>exact⟨_,_,rfl,r,t⟩
theorem Vals.end_(h:Vals [] us):us=[]:=by
 cases h;rfl
end L2
namespace L2
open PySem PySem.Spec PyProof.Rows PySem.W
variable{X:Cx}
end L2
namespace sN
open PySem PyProof.Rows
theorem O3{vs:List aa}{xs:Array cX}(h:xs.toList.Perm (pairsOf vs).toList):(xs.map (·.2)).toList.Perm vs:=by
 rw[xm];refine(h.map (·.2)).trans (Fe ?_);rw[xX,show(λp:cX=>p.2)=xK from rfl,List.map_snd_zip (ax _)]
end sN
namespace L2
open PySem PySem.Spec PyProof.Rows
theorem Zjf{us qc:List aa}(h:qc.Perm us):∀{vs:List V},Vals vs us->∃eE,eE.Perm vs/\Vals eE qc:=by
 induction h with
 | nil=>exact λr=>⟨_,pN _,r⟩
 | cons x _ ih =>
  intro vs r;cases r with
  | cons a t =>
   obtain⟨ws,p,r'⟩:=ih t;exact⟨_::ws,p.cons _,.cons a r'⟩
 | swap x y l =>
  intro vs r;cases r with
  | cons a t =>
   cases t with
   | cons b t=>exact⟨_,MD ..,.cons b (.cons a t)⟩
 | trans _ _ AA AB =>
  intro vs r;obtain⟨ws,p,r1⟩:=AB r;obtain⟨fF,p',r2⟩:=AA r1;exact⟨fF,p'.trans p,r2⟩
theorem Ck:∀{vs:List V}{us:List aa},Vals vs us->∀u∈us,∃v∈vs,RelV v u:=λh u hu=>aN.Zz1 h hu
end L2
namespace L2
open PySem PySem.Spec PyProof.Rows PySem.W
def hZ(h:Heap)(d:Addr)(es:Array jO)(ep:Nat):Prop := ∃o,h.get? d=some o/\o.ExactDict/\o.data=.dict es ep
variable{s:af}{d:Addr}{es:Array jO}{ep:Nat}
theorem hZ.L_(x:hZ s.heap d es ep):s.TypeIs (.ref d) "dict" := let ⟨o,ho,hc,_⟩:=x;⟨o,ho,hc.1⟩
theorem hZ.to{h h':Heap}(x:hZ h d es ep)(e:∀o,h.get? d=some o->h'.get? d=some o):hZ h' d es ep:=let ⟨o,ho,r⟩:=x;⟨o,e _ ho,r⟩
variable{prog:aC}{w:ay}{A:aI}{E:aa->af->Prop}
theorem Zlz{Q:aa->af->Prop}(lo:(d == sysModules)=false)(x:hZ s.heap d es ep)
  (q:Q (.ref s.heap.objs.size) { s with heap:=s.heap.push { cls:=.type "dict_keyiterator",data:=.fields #[.ref d,.int 0 0,.int es.size 0,.int ep 0] } }):wpAny (model prog w) A (pyIter (.ref d)) Q E s:=by
 obtain⟨o,ho,hx,fU⟩:=id x;have hT:=x.L_;refine Gh hT W7 (jW W7 hT PySem.F.entry_dict_iter ?_ (PySem.F.args_dict_iter_1 _));unfold dG.«dict.__iter__»;refine ae ?_;unfold ZBM;refine ae (NI hT ?_);refine ai (?_:wpAny _ _ (E5 d >>= _) _ _ s);unfold E5;rw[ah (by rw[lo];exact cS)];refine ae (ai (ae (xY ho fU (ae (xZ ho fU ?_)))));exact ae (gG (ai ⟨_,rfl,"dict_keyiterator",_,⟨_,bE _ rfl,rfl⟩,Bq.lookup,q⟩))
variable{Q:Option aa->af->Prop}{it:Addr}{i:Nat}
theorem Zlp(st:s.heap.IsKeyIter it d i es.size ep)(x:hZ s.heap d es ep)(hi:i<es.size)
  (q:∀h',h'.IsKeyIter it d (i+1) es.size ep->fz it s.heap h'->Q (some es[i].key) { s with heap:=h' }):wpAny (model prog w) A (pyNext (.ref it)) Q E s:=by
 obtain⟨o,ho,hc,hd⟩:=id st;obtain⟨od,gn,hxd,fj⟩:=id x;unfold pyNext;refine ae (uS (uT (name:=bw "__next__") st.typeIs Bq (jW Bq st.typeIs WZ ?_ (WX _))));refine ae (ai (ae (ae ?_)))
 first|refine ae (Gk st.typeIs (ai (ae (si ho hd ?_))))|refine ae (Gn st.typeIs (ai (ae (si ho hd ?_))))
 have own:A5 "dict_keyiterator" = false:=by decide
 simp only[own,jN,eV];change wpAny _ _ (if(aO d == bg)=true then _ else _) _ _ s
 rw[ah (λz:(aO d == bg)=true=>cS z)];refine ae (ai (ae (xY gn fj ?_)));rw[ah (by simp)];refine ae (ai (ae (xZ gn fj ?_)));rw[ah (by simp)];refine ai ?_;simp only[show ¬ ((i:Int)<0) by lia,eV,lV,lT hi];refine ae ?_;first|refine ae (Gk st.typeIs (ai (ae (NF st.typeIs ?_))))|refine ae (Gn st.typeIs (ai (ae (NF st.typeIs ?_))))
 change wpAny _ _ (setField (.ref it) 1 (rawInt ((i:Int)+1)) >>= _) _ _ s;refine ae (Gi ho hd (by simp) ?_);have dq:(s.heap.update it (WO (·.setIfInBounds 1 (rawInt ((i:Int)+1))))).IsKeyIter it d (i+1) es.size ep:=⟨_,m_ _ ho (WN (FG hd _)),(WM ..).trans hc,by rw[FG hd];simp[rawInt]⟩;refine ae (eW (ae (NF (s:={ s with heap:=s.heap.update it (WO (·.setIfInBounds 1 (rawInt ((i:Int)+1)))) }) dq.typeIs ?_)));change wpAny _ _ (pure es[i].key) _ _ _;exact ai (ai ⟨_,rfl,ai (q _ dq (lU ..))⟩)
theorem ZmI(hh:A.handled=none)(st:s.heap.IsKeyIter it d i es.size ep)(x:hZ s.heap d es ep)(hi:es.size<=i)
  (q:∀h',Fb it s.heap h'->Q none { s with heap:=h' }):wpAny (model prog w) A (pyNext (.ref it)) Q E s:=by
 obtain⟨o,ho,hc,hd⟩:=id st;obtain⟨od,gn,hxd,fj⟩:=id x;unfold pyNext;refine ae (uS (uT (name:=bw "__next__") st.typeIs Bq (jW Bq st.typeIs WZ ?_ (WX _))));refine ae (ai (ae (ae ?_)))
 first|refine ae (Gk st.typeIs (ai (ae (si ho hd ?_))))|refine ae (Gn st.typeIs (ai (ae (si ho hd ?_))))
 have own:A5 "dict_keyiterator" = false:=by decide
 simp only[own,jN,eV];change wpAny _ _ (if(aO d == bg)=true then _ else _) _ _ s
 rw[ah (λz:(aO d == bg)=true=>cS z)];refine ae (ai (ae (xY gn fj ?_)));rw[ah (by simp)];refine ae (ai (ae (xZ gn fj ?_)));rw[ah (by simp)];refine ai ?_;simp only[show ¬ ((i:Int)<0) by lia,eV,lV,rP hi];refine ae ?_;first|refine ae (Gk st.typeIs (ai ?_))|refine ae (Gn st.typeIs (ai ?_))
 change wpAny _ _ (setField (.ref it) 0 .none >>= _) _ _ s;refine ae (Gi ho hd (by simp) ?_);change wpAny _ _ (newExc (.type "StopIteration") [] >>= _) _ _ _;refine ae ?_;simp only[newExc,newTuple];refine ae (gG (ae (m:=firstArgMember _ _) (so (a:=bg) (by first|rfl|(simp only[firstArgMember];rfl)) (gG ?_ (by size_fits)))) (by size_fits))
 simp only[raiseNew];refine ae (ND ?_);rw[show A.in1.handled=none from hh];refine ae (ai (BC ?_));refine ae (x_ (T := "StopIteration") (b:=true) (v:=.ref _) (by exact⟨_,bE _ rfl,rfl⟩) Nq ?_);exact ai (q _ (((lU ..).extBut.push _).push _))
theorem ZkO(hh:A.handled=none)(bt:d≠it):Walks prog w A it [it,d] [it] es.size (λi v=>∃e,es[i]?= some e/\v=e.key) (λi h=>h.IsKeyIter it d i es.size ep/\hZ h d es ep) where
 sub:=λb hb=>aV.mpr (.inl (ao.mp hb))
 frame:=λ_ _ _ st hk=>⟨st.1.at λo e=>hk it (aZ ..) o e,st.2.to λo e=>hk d (bM _ (aZ ..)) o e⟩
 item:=λj s Q E hj st hQ=>Zlp st.1 st.2 hj λh' a_ sb=>hQ _ h' s.toks ⟨_,lT hj,rfl⟩ ⟨a_,st.2.to λo e=>sb.extBut d o bt e⟩ λb o hb e=>sb.extBut b o (λz=>hb (ao.mpr z)) e
 done:=λs Q E st hQ=>ZmI hh st.1 st.2 (ax _) λh' he=>hQ h' s.toks λb o hb e=>he b o (λz=>hb (ao.mpr z)) e
 self:=λ_ _ _ _ st hQ=>Yd st.1 hQ
theorem yV(lo:(d == sysModules)=false):KdlSrc prog w "dict" d d es.size (λi v=>∃e,es[i]?= some e/\v=e.key) (λh=>hZ h d es ep) where
 type:=λ_ x=>x.L_
 there:=λ_ ⟨o,ho,_⟩=>⟨aM ho,aM ho⟩
 keep:=λ_ _ x hk=>x.to λo e=>hk d (.inl rfl) o e
 notList:=by decide
 notTuple:=by decide
 hint:=λ_ _ _ _ x hq=>kdl_hint_dict x.L_ hq
 iter:=λ_ _ hh x=>⟨_,_,(λ_ _ hq=>Zlz lo x hq),ZkO hh (let ⟨o,ho,_⟩:=x;bc (aM ho)),⟨⟨_,bE _ rfl,rfl,rfl⟩,x.to λ_ e=>aG _ e⟩⟩
end L2
namespace k_
open PySem
def nx(m i:Nat):Nat:=(i*5+1) % (m+1)
def mS(m:Nat):Nat->Nat->Nat
 | 0,i=>i
 | n+1,i=>mS m n (nx m i)
theorem Co(m:Nat):∀a b i,mS m (a+b) i=mS m b (mS m a i)
 | 0,b,i=>by rw[nD];rfl
 | a+1,b,i=>by rw[FA];exact Co m a b (nx m i)
def seen(m:Nat):Nat->Nat->Nat->Nat
 | 0,_,acc=>acc
 | n+1,i,acc=>seen m n (nx m i) (acc ||| (1 <<< i))
theorem Pk(m:Nat):∀n i acc j,(seen m n i acc).testBit j=true->acc.testBit j=true\/∃k,k<n/\mS m k i=j
 | 0,_,_,_,h=>.inl h
 | n+1,i,acc,j,h=>by
  rcases Pk m n (nx m i) _ j h with h|⟨k,hk,e⟩
  ·rw[Nat.testBit_or,E3] at h;rcases h with h|h
   ·exact .inl h
   ·rw[Nat.testBit_shiftLeft] at h;have h2:i<=j/\(1:Nat).testBit (j-i)=true:=by simpa using h
    have h3:j-i=0:=by
     have:=h2.2;rw[Nat.testBit_one_eq_true_iff_self_eq_zero] at this;exact this
    exact .inr ⟨0,FF _,by show i=j;lia⟩
  ·exact .inr ⟨k+1,WL hk,e⟩
def Good(m:Nat):Prop:=m=7\/m=15\/m=31\/m=63\/m=127\/m=255\/m=511\/m=1023\/m=2047\/m=4095
def Jz(m:Nat):Bool:=seen m (m+1) 0 0 == 2 ^ (m+1)-1&&mS m (m+1) 0 == 0
variable{m:Nat}
theorem QM(h:Good m):Jz m=true:=by
 rcases h with h|h|h|h|h|h|h|h|h|h <;> subst h <;> decide +kernel
variable{j:Nat}
theorem Sn(h:Good m)(hj:j<=m):∃n,n<=m/\mS m n 0=j:=by
 have hc:=QM h;unfold Jz at hc;rw[gA] at hc;have h1:=eq_of_beq hc.1;have hb:(seen m (m+1) 0 0).testBit j=true:=by
  rw[h1,Nat.testBit_two_pow_sub_one];exact aP (by lia)
 rcases Pk m (m+1) 0 0 j hb with h|⟨k,hk,e⟩
 ·simp at h
 ·exact⟨k,by lia,e⟩
theorem Zpm(h:Good m):mS m (m+1) 0=0:=by
 have hc:=QM h;unfold Jz at hc;rw[gA] at hc;exact eq_of_beq hc.2
theorem reach{i:Nat}(h:Good m)(hi:i<=m)(hj:j<=m):∃n,n<=m/\mS m n i=j:=by
 obtain⟨a,ha,ea⟩:=Sn h hi;obtain⟨b,hb,eb⟩:=Sn h hj;by_cases eu:a<=b
 ·refine⟨b-a,by lia,?_⟩;rw[<- ea,<- Co,Nat.add_sub_cancel' eu];exact eb
 ·refine⟨m+1-a+b,by lia,?_⟩;rw[<- ea,<- Co,show a+(m+1-a+b)=(m+1)+b by lia,Co,Zpm h];exact eb
def lz(t:bQ):Nat->f_->f_
 | 0,p=>p
 | n+1,p=>lz t n (t.advance p)
theorem PU(t:bQ):∀a b p,lz t (a+b) p=lz t b (lz t a p)
 | 0,b,p=>by rw[nD];rfl
 | a+1,b,p=>by rw[FA];exact PU t a b (t.advance p)
def lp(t:bQ)(p:f_):f_:={ p with j:=(p.i*5+1+p.perturb / 32) % (t.mask+1),more:=uQ t.mask ((p.i*5+1+p.perturb / 32) % (t.mask+1))-(p.i*5+1+p.perturb / 32) % (t.mask+1),i:=(p.i*5+1+p.perturb / 32) % (t.mask+1),perturb:=p.perturb / 32 }
theorem Q9(t:bQ):∀(n:Nat)(p:f_),p.more=n->lz t (n+1) p=lp t p
 | 0,p,h=>by
  show t.advance p=lp t p;unfold Nh;rw[ah (by lia)];rfl
 | n+1,p,h=>by
  show lz t (n+1) (t.advance p)=lp t p;have e:t.advance p= { p with j:=p.j+1,more:=p.more-1 }:=by
   unfold Nh;rw[aj (by lia)]
  rw[e,Q9 t n { p with j:=p.j+1,more:=p.more-1 } (by show p.more-1=n;lia)];rfl
def cR(t:bQ):Nat->f_->f_
 | 0,p=>p
 | n+1,p=>cR t n (lp t p)
theorem Znz(t:bQ)(p:f_):(lp t p).more<=9:=by
 show uQ t.mask _-_<=9;unfold uQ
 split <;> lia
theorem Qh(t:bQ):∀(k:Nat)(p:f_),p.more<=9->∃n,n<=10*k/\lz t n p=cR t k p
 | 0,p,_=>⟨0,ax _,rfl⟩
 | k+1,p,h=>by
  obtain⟨n,hn,e⟩:=Qh t k (lp t p) (Znz t p);refine⟨p.more+1+n,by lia,?_⟩;rw[PU,Q9 t p.more p rfl,e];rfl
theorem Cd(t:bQ):∀(k:Nat)(p:f_),cR t (k+1) p=lp t (cR t k p)
 | 0,_=>rfl
 | k+1,p=>Cd t k (lp t p)
theorem I_(t:bQ):∀(k:Nat)(p:f_),(cR t k p).perturb=p.perturb / 32 ^ k
 | 0,p=>by simp[cR]
 | k+1,p=>by
  show(cR t k (lp t p)).perturb=_;rw[I_ t k (lp t p)];show p.perturb / 32 / 32 ^ k=_;rw[Nat.div_div_eq_div_mul,FE,WG]
theorem IF(t:bQ):∀(n:Nat)(p:f_),p.perturb=0->(cR t n p).i=mS t.mask n p.i/\(1<=n->(cR t n p).j=(cR t n p).i)/\(cR t n p).perturb=0
 | 0,p,h=>⟨rfl,λz=>absurd z (by decide),h⟩
 | n+1,p,h=>by
  have h0:(lp t p).perturb=0:=by show p.perturb / 32=0;rw[h]
  have hi:(lp t p).i=nx t.mask p.i:=by show(p.i*5+1+p.perturb / 32) % (t.mask+1)=_;rw[h];rfl
  obtain⟨a,b,c⟩:=IF t n (lp t p) h0;refine⟨?_,λ_=>?_,c⟩
  ·show(cR t n (lp t p)).i=_;rw[a,hi];rfl
  ·cases n with
   | zero=>rfl
   | succ n=>exact b (by lia)
theorem meets{t:bQ}{p:f_}(hg:Good t.mask)(hm:p.more<=9)(hp:p.perturb<2 ^ 64){j:Nat}(hj:j<=t.mask):∃n,n<10*sh t.mask/\(lz t n p).j=j:=by
 have h0:(cR t 13 p).perturb=0:=by
  rw[I_];exact Wz (cW hp (by decide))
 have hi:(cR t 13 p).i<=t.mask:=by
  rw[Cd];exact WB (FD _ (FF _))
 have hji:(cR t 13 p).j=(cR t 13 p).i:=by
  rw[Cd];rfl
 obtain⟨n,hn,e⟩:=reach hg hi hj;obtain⟨a,b,_⟩:=IF t n (cR t 13 p) h0;have hl:(cR t n (cR t 13 p)).j=j:=by
  cases n with
  | zero=>exact hji.trans e
  | succ n=>rw[b (by lia),a,e]
 have Ko:∀(a b:Nat)(p:f_),cR t (a+b) p=cR t b (cR t a p):=by
  intro a
  induction a with
  | zero=>intro b p;rw[nD];rfl
  | succ a ih=>intro b p;rw[FA];exact ih b (lp t p)
 obtain⟨c,hc,ec⟩:=Qh t (13+n) p hm;refine⟨c,?_,?_⟩
 ·unfold sh;lia
 ·rw[ec,Ko];exact hl
theorem Ip(t:bQ)(h:Int):(t.probeStart h).more<=9/\(t.probeStart h).perturb<2 ^ 64/\(t.probeStart h).dummy=none:=by
 refine⟨?_,?_,rfl⟩
 ·show uQ t.mask _-_<=9;unfold uQ
  split <;> lia
 ·show pY h<2 ^ 64;unfold pY;have h1:=uG h (by decide:((2:Int) ^ 64)≠0);have h2:=xu h (by decide:(0:Int)<2 ^ 64);lia
theorem Zit{t:bQ}(hd:t.dummies=#[])(hf:t.fill<=t.mask):∃j,j<=t.mask/\t.slot j=.empty:=by
 apply Mr;intro hn;have ig:∀j,j<=t.mask->j∈t.place.toList:=λj hj=>by
  have h1:t.slot j ≠ .empty:=λz=>hn ⟨j,hj,z⟩;unfold Ni at h1;dsimp only at h1
  split at h1
  ·rename_i h2
   have h3:=eq_of_beq h2;rw[<- jM] at h3;exact bY h3
  ·exfalso;rw[hd] at h1;exact h1 rfl
 have D8:(c_ (t.mask+1)) ⊆ t.place.toList:=λj hj=>ig j (by have:=iY.mp hj;lia);have hlen:=(MO (n:=t.mask+1)).length_le_of_subset D8;rw[nq,aU] at hlen;unfold FO at hf;lia
theorem Zkr{t:bQ}{p:f_}(hg:Good t.mask)(hp:p.perturb<2 ^ 64){j:Nat}(hj:j<=t.mask):∃k,k<=13+t.mask/\(cR t k p).i=j:=by
 have h0:(cR t 13 p).perturb=0:=by
  rw[I_];exact Wz (cW hp (by decide))
 have hi:(cR t 13 p).i<=t.mask:=by
  rw[Cd];exact WB (FD _ (FF _))
 obtain⟨n,hn,e⟩:=reach hg hi hj;obtain⟨a,_,_⟩:=IF t n (cR t 13 p) h0;have Ko:∀(a b:Nat)(p:f_),cR t (a+b) p=cR t b (cR t a p):=by
  intro a
  induction a with
  | zero=>intro b p;rw[nD];rfl
  | succ a ih=>intro b p;rw[FA];exact ih b (lp t p)
 exact⟨13+n,by lia,by rw[Ko,a,e]⟩
theorem OO{t:bQ}{owner:Array (Option Nat)}{j:Nat}(ho:owner.getD j (some 0)=none):∀(k ic:Nat)(p:f_),k<ic->(cR t k p).i=j ->
  ∃j',FT t.mask owner ic p.i p.perturb=some j'/\owner.getD j' (some 0)=none
 | k,0,_,h,_=>absurd h (r6 _)
 | k,ic+1,p,hk,e=>by
  unfold FT;cases hf:(c_ (uQ t.mask p.i+1-p.i)).find? λk=>(owner.getD (p.i+k) (some 0)).isNone with
  | some k' =>
   have h1:=MH hf;exact⟨p.i+k',rfl,Option.isNone_iff_eq_none.mp h1⟩
  | none =>
   cases k with
   | zero =>
    exfalso;have e':p.i=j:=e;have h1:=List.find?_eq_none.mp hf 0 (iY.mpr (by unfold uQ;split <;> lia))
    rw[Nat.add_zero,e',ho] at h1;exact h1 rfl
   | succ k =>
    exact OO ho k ic (lp t p) (by lia) e
theorem N8{β : Type}{g g':Nat->Option β}:∀l:List Nat,(∀k∈l,g' k=g k)->l.filterMap g'=l.filterMap g
 | [],_=>rfl
 | y::l,h=>by
  have ih:=N8 l λk hk=>h k (bM _ hk);have hy:=h y (aZ ..);cases hg:g y with
  | none=>rw[xA (by rw[hy,hg]),xA hg,ih]
  | some z=>rw[uJ (by rw[hy,hg]),uJ hg,ih]
theorem Oa{β : Type}{g g':Nat->Option β}{j:Nat}{x : β}(h0:g j=none)(h1:g' j=some x)(h2:∀k,k≠j->g' k=g k):∀l:List Nat,l.Nodup->j∈l->(l.filterMap g').Perm (x::l.filterMap g)
 | y::l,hn,hj=>by
  obtain⟨hy,hl⟩:=rX.mp hn;by_cases e:y=j
  ·subst e;rw[uJ h1,xA h0];have:l.filterMap g'=l.filterMap g:=N8 l λk hk=>h2 k λz=>hy (z ▸ hk);rw[this]
  ·have yk:j∈l:=(aV.mp hj).resolve_left (gS e);have ih:=Oa h0 h1 h2 l hl yk;cases hg:g y with
   | none =>
    rw[xA (by rw[h2 y e,hg]),xA hg];exact ih
   | some z =>
    rw[uJ (by rw[h2 y e,hg]),uJ hg];exact(ih.cons z).trans (MD ..)
def hU(m:Nat)(owner:Array (Option Nat)):List (Nat×Nat):=(c_ (m+1)).filterMap λj=>(owner.getD j none).map (j,·)
structure Own(m:Nat)(owner:Array (Option Nat))(k:Nat):Prop where
 size:owner.size=m+1
 perm:((hU m owner).map (·.2)).Perm (c_ k)
variable{owner:Array (Option Nat)}
theorem Qu{k:Nat}(h:Own m owner k):(hU m owner).length=k:=by
 have:=h.perm.length_eq;rw[ar,nq] at this;exact this
theorem Zlx{k:Nat}(h:Own m owner k)(hk:k<=m):∃j,j<=m/\owner.getD j (some 0)=none:=by
 apply Mr;intro hn;have ig:∀j∈c_ (m+1),((owner.getD j none).map (Prod.mk j)).isSome=true:=λj hj=>by
  have yk:=iY.mp hj;cases ho:owner.getD j none with
  | some v=>rfl
  | none =>
   exfalso;refine hn ⟨j,by lia,?_⟩;have hs:j<owner.size:=by rw[h.size];exact yk
   simp only[kO,hs,dif_pos] at ho ⊢;exact ho
 have hl:(hU m owner).length=m+1:=by
  unfold hU;have:∀(l:List Nat)(g:Nat->Option (Nat×Nat)),(∀j∈l,(g j).isSome=true)->(l.filterMap g).length=l.length:=by
   intro l g
   induction l with
   | nil=>exact λ_=>rfl
   | cons y l ih =>
    intro hg;obtain⟨z,hz⟩:=MY.mp (hg y (aZ ..));rw[uJ hz,bI,bI,ih λj hj=>hg j (bM _ hj)]
  rw[this _ _ ig,nq]
 have:=Qu h;lia
theorem Znl{k:Nat}(h:Own m owner k)(hj:owner.getD j (some 0)=none):Own m (owner.setIfInBounds j (some k)) (k+1):=by
 have hs:j<owner.size:=by
  apply Mr;intro hn;rw[kO,dif_neg hn] at hj;cases hj
 refine⟨by rw[Vt];exact h.size,?_⟩;have hp:(hU m (owner.setIfInBounds j (some k))).Perm ((j,k)::hU m owner):=by
  refine Oa ?_ ?_ (λy hy=>?_) _ MO (iY.mpr (by rw[<- h.size];exact hs))
  ·have:owner.getD j none=none:=by
    simp only[kO,hs,dif_pos] at hj ⊢;exact hj
   rw[this];rfl
  ·have:(owner.setIfInBounds j (some k)).getD j none=some k:=by
    simp[kO,hs]
   rw[this];rfl
  ·have:(owner.setIfInBounds j (some k)).getD y none=owner.getD y none:=by
    simp only[kO,Vt]
    split
    ·rename_i Ln
     exact Array.getElem_setIfInBounds_ne (by simpa using Ln) (gS hy)
    ·rfl
   rw[this]
 refine(hp.map (·.2)).trans ?_;rw[ck];refine((h.perm.cons k)).trans ?_;rw[MQ];exact Wq (l₁ :=[k]) (l₂ := c_ k)
theorem Pl{m:Nat}(hg:Good m):∀(hs:List Int)(owner:Array (Option Nat))(k:Nat),Own m owner k->k+hs.length<=m ->
  ∃BI,hs.foldl (λ(acc:Option (Array (Option Nat)×Nat)) h=>do
   let (owner,k) <- acc
   let j <- FT m owner (sh m) (pY h % (m+1)) (pY h)
   pure (owner.setIfInBounds j (some k),k+1)) (some (owner,k))=some (BI,k+hs.length)/\Own m BI (k+hs.length)
 | [],owner,k,h,_=>⟨owner,rfl,h⟩
 | x::hs,owner,k,h,hl=>by
  rw[bI] at hl;obtain⟨j,hj,ho⟩:=Zlx h (by lia);have t:bQ:={ mask:=m,place :=#[],dummies :=#[],finger:=0,led:=true,moves:=0,plain:=true };have hb:pY x<2 ^ 64:=(Ip (bQ.fresh 0 0 true) x).2.1;obtain⟨n,hn,e⟩:=Zkr (t:={ mask:=m,place :=#[],dummies :=#[],finger:=0,led:=true,moves:=0,plain:=true }) (p:={ j:=0,more:=0,i:=pY x % (m+1),perturb:=pY x,dummy:=none }) hg hb hj;obtain⟨j',hf,i_⟩:=OO ho n (sh m) _ (by unfold sh;have:n<=13+m:=hn;lia) e;have Yt:FT m owner (sh m) (pY x % (m+1)) (pY x)=some j':=hf;obtain⟨BI,h1,h2⟩:=Pl hg hs _ (k+1) (Znl h i_) (by lia);refine⟨BI,?_,by rw[bI,show k+(hs.length+1)=k+1+hs.length by lia];exact h2⟩;rw[MI];simp only[Option.bind_eq_bind,Option.bind_some,Yt,Option.pure_def];rw[bI,show k+(hs.length+1)=k+1+hs.length by lia];exact h1
theorem ZmT(hg:Good m)(fi mo:Nat)(led plain:Bool)(hs:Array Int)(hl:hs.size<=m):∃t order,Xs m fi mo led plain hs=some (t,order)/\t.mask=m/\t.dummies=#[]/\t.place.size=hs.size/\order.toList.Perm (c_ hs.size)/\t.led=led/\t.plain=plain/\t.moves=mo/\t.place.toList.Pairwise (· < ·):=by
 have h0:Own m (Mj (m+1) none) 0:=by
  refine⟨Array.size_replicate,?_⟩;have:hU m (Mj (m+1) none)=[]:=by
   unfold hU;rw[List.filterMap_eq_nil_iff];intro j hj;have:(Mj (m+1) (none:Option Nat)).getD j none=none:=by
    simp[kO]
   rw[this];rfl
  rw[this];exact pN _
 obtain⟨owner,h1,h2⟩:=Pl hg hs.toList _ 0 h0 (by rw[aU];lia);rw[nD,aU] at h1 h2;have hc:Xt m hs=some owner:=by
  unfold Xt;rw[<- Array.foldl_toList];have:=congrArg (Option.map (·.1)) h1;exact this
 refine⟨{ mask:=m,place:=((hU m owner).map (·.1)).toArray,dummies :=#[],finger:=fi,led:=led,moves:=mo,plain:=plain },((hU m owner).map (·.2)).toArray,?_,rfl,rfl,?_,?_,rfl,rfl,rfl,?_⟩
 ·unfold Xs;rw[hc];rfl
 ·show((hU m owner).map (·.1)).toArray.size=_;rw[bp,ar,Qu h2]
 ·show((hU m owner).map (·.2)).toArray.toList.Perm _;exact h2.perm
 ·show((hU m owner).map (·.1)).toArray.toList.Pairwise (· < ·);have D8:((hU m owner).map (·.1)).Sublist (c_ (m+1)):=by
   unfold hU;generalize c_ (m+1)=l
   induction l with
   | nil=>exact ZCa
   | cons y l ih =>
    cases hy:owner.getD y none with
    | none =>
     rw[xA (by rw[hy];rfl)];exact ih.cons _
    | some v =>
     rw[uJ (b:=(y,v)) (by rw[hy];rfl)];exact ih.cons_cons y
  exact Bd D8 List.pairwise_lt_range
def jf(xs:Array Nat):Prop:=xs.toList.Pairwise (· < ·)
variable{xs:Array Nat}
theorem Cy(h:jf xs){i j:Nat}(kD:i<j)(hj:j<xs.size):xs[i]'(nB kD hj)<xs[j]:=by
 have:=nA.mp h i j (by rw[aU];lia) (by rw[aU];exact hj) kD
 simpa using this
theorem IE{xs:Array Nat}(h:jf xs)(j:Nat):∀(ic lo hi:Nat),lo<=hi->hi<=xs.size->hi-lo<=ic->(∀i (gY:i<xs.size),i<lo->xs[i]<j)->(∀i (gY:i<xs.size),hi<=i -> ¬ xs[i]<j) ->
  ∀r,Xr xs j ic lo hi=r->r<=xs.size/\(∀i (gY:i<xs.size),i<r->xs[i]<j)/\(∀i (gY:i<xs.size),r<=i -> ¬ xs[i]<j)
 | 0,lo,hi,h1,h2,h3,a,b,r,e=>by
  have e':lo=r:=e;subst e';have:lo=hi:=by lia
  subst this;exact⟨h2,a,b⟩
 | ic+1,lo,hi,h1,h2,h3,a,b,r,e=>by
  unfold Xr at e;by_cases hl:lo<hi
  ·rw[aj hl] at e;dsimp only at e;have hm:(lo+hi) / 2<xs.size:=by lia
   have hgd:xs.getD ((lo+hi) / 2) j=xs[(lo+hi) / 2]:=by simp[kO,hm]
   rw[hgd] at e;by_cases hx:xs[(lo+hi) / 2]<j
   ·rw[aj hx] at e;refine IE h j ic ((lo+hi) / 2+1) hi (by lia) h2 (by lia) (λi gY aB=>?_) b r e;by_cases e2:i=(lo+hi) / 2
    ·subst e2;exact hx
    ·exact nB (Cy h (show i<(lo+hi) / 2 by lia) hm) hx
   ·rw[ah hx] at e;refine IE h j ic lo ((lo+hi) / 2) (by lia) (by lia) (by lia) a (λi gY hle=>?_) r e;by_cases e2:i=(lo+hi) / 2
    ·subst e2;exact hx
    ·have:=Cy h (show(lo+hi) / 2<i by lia) gY;lia
  ·rw[ah hl] at e;subst e;have:lo=hi:=by lia
   subst this;exact⟨h2,a,b⟩
theorem B4(h:jf xs)(j:Nat):cf xs j<=xs.size/\(∀i (gY:i<xs.size),i<cf xs j->xs[i]<j)/\(∀i (gY:i<xs.size),cf xs j<=i -> ¬ xs[i]<j) :=
 IE h j xs.size 0 xs.size (bz _) (ax _) (by lia) (λ_ _ z=>absurd z (r6 _)) (λi gY z=>by lia) _ rfl
theorem Zfn{α : Type}(xs:Array α)(p:Nat)(x : α):(gT xs p x).toList=xs.toList.take p++x::xs.toList.drop p:=by
 unfold gT;simp[Array.toList_extract,List.extract];rw[xG];simp
theorem Zib(h:jf xs){j:Nat}(hj:j∉xs.toList):jf (gT xs (cf xs j) j):=by
 obtain⟨h1,h2,h3⟩:=B4 h j;unfold jf;rw[Zfn,Wo];refine⟨Bd (Fw _ _) h,?_,?_⟩
 ·rw[Bi];refine⟨λy hy=>?_,Bd (V_ _ _) h⟩;obtain⟨i,hi,e⟩:=Fu.mp hy;rw[rV,aU] at hi;rw[Wd] at e;have:=h3 (cf xs j+i) (by lia) (by lia);have e2:y=xs[cf xs j+i]'(by lia):=by rw[<- e];simp
  have bt:y≠j:=λz=>hj (z ▸ List.mem_of_mem_drop hy);lia
 ·intro a ha b hb;obtain⟨i,hi,e⟩:=Fu.mp ha;rw[iy,aU] at hi;rw[List.getElem_take] at e;have h4:=h2 i (by lia) (by lia);have e2:a=xs[i]'(by lia):=by rw[<- e];simp
  rcases aV.mp hb with rfl|hb
  ·lia
  ·obtain⟨k,hk,ek⟩:=Fu.mp hb;rw[rV,aU] at hk;rw[Wd] at ek;have h5:=h3 (cf xs j+k) (by lia) (by lia);have e3:b=xs[cf xs j+k]'(by lia):=by rw[<- ek];simp
   lia
theorem Ziq(h:jf xs){i:Nat}(hi:i<xs.size):cf xs (xs[i]+1)=i+1:=by
 obtain⟨h1,h2,h3⟩:=B4 h (xs[i]+1);rcases MT (cf xs (xs[i]+1)) (i+1) with z|z|z
 ·exact absurd (pT xs[i]) (h3 i hi (by lia))
 ·exact z
 ·exfalso;have h4:=h2 (i+1) (by lia) (by lia);have h5:=Cy h (show i<i+1 by lia) (show i+1<xs.size by lia);lia
theorem ZiJ(h:jf xs):cf xs 0=0:=by
 obtain⟨h1,h2,h3⟩:=B4 h 0;rcases WA (cf xs 0) with z|z
 ·exact z
 ·exact absurd (h2 0 (by lia) z) (r6 _)
theorem ZkI{t:bQ}(h:jf t.place){j:Nat}(he:t.slot j=.empty):j∉t.place.toList:=λhm=>by
 obtain⟨i,hi,e⟩:=Fu.mp hm;rw[aU] at hi;have e2:t.place[i]=j:=by rw[<- e];simp
 obtain⟨h1,h2,h3⟩:=B4 h j;have hb:cf t.place j=i:=by
  rcases MT (cf t.place j) i with z|z|z
  ·have h4:=Cy h z hi;have h5:=h3 (cf t.place j) (by lia) (ax _);lia
  ·exact z
  ·have h4:=h2 i hi z;lia
 unfold Ni at he;dsimp only at he;rw[hb,Array.getElem?_eq_getElem hi,e2] at he;simp at he
section
variable{prog:aC}{w:ay}{K:Type}[DecidableEq K]{knd:KeyKind prog w K}{A:aI}{E:aa->af->Prop}{s:af}
structure Tab(es:Array (Int×aa))(t:bQ):Prop where
 size:t.place.size=es.size
 none:t.dummies=#[]
 good:Good t.mask
 room:t.fill*5<t.mask*3
 EJ:jf t.place
theorem Tab.fill_eq{es:Array (Int×aa)}{t:bQ}(h:Tab es t):t.fill=es.size:=by
 unfold FO;rw[h.size,h.none];rfl
theorem Tab.fits{es:Array (Int×aa)}{t:bQ}(h:Tab es t):t.fits es.size=true:=by
 have:=h.room;unfold FP;rw[h.size];simp;lia
end
def Q5(n:Nat):Bool:=(gU n-1 == 7 || gU n-1 == 15 || gU n-1 == 31 || gU n-1 == 63 || gU n-1 == 127 || gU n-1 == 255 || gU n-1 == 511 || gU n-1 == 1023 || gU n-1 == 2047 || gU n-1 == 4095)&&decide (n<gU n)&&decide (gU n<=4096)
theorem Zku:(c_ 4096).all Q5=true:=by decide +kernel
theorem above{n:Nat}(h:n<4096):Good (gU n-1)/\n<gU n/\gU n<=4096:=by
 have:=ME.mp Zku n (iY.mpr h);unfold Q5 at this;simp only[gA,E3,pZ,fB] at this;obtain⟨⟨h1,h2⟩,h3⟩:=this;refine⟨?_,h2,h3⟩;unfold Good
 simpa only[or_assoc] using h1
section
variable{prog:aC}{w:ay}{K:Type}[DecidableEq K]{knd:KeyKind prog w K}{A:aI}{E:aa->af->Prop}{s:af}
variable{es:Array (Int×aa)}
theorem stored{h:Heap}{S:Addr}{o:Obj}{ep:Nat}{t:bQ}(ho:h.get? S=some o)(hd:o.data=.set es ep t)(gW:Array (Int×aa))(t':bQ) :
  (h.update S (Bn gW t')).get? S=some { o with data:=.set gW (ep+1) t' }:=by
 have:=m_ (Bn gW t') ho (by rw[putSet_of gW t' hd];rfl);rw[putSet_of gW t' hd] at this;exact this
theorem Zgx{t:bQ}(hT:Tab es t)(h:Int):∃n,n<10*sh t.mask/\t.slot (lz t n (t.probeStart h)).j=.empty:=by
 obtain⟨a,b,c⟩:=Ip t h;have hr:=hT.room;obtain⟨j,hj,he⟩:=Zit hT.none (by lia);obtain⟨n,hn,e⟩:=meets hT.good a b hj;exact⟨n,hn,by rw[e];exact he⟩
theorem QQ{t:bQ}(hd:t.dummies=#[])(ha:Nat->Int)(h:Int)(bt:∀i,(ha i == h)=false):∀(n ic:Nat)(p:f_),p.dummy=none->n<ic->t.slot (lz t n p).j=.empty ->
  ∃j,Xu t ha h ic p=some (.empty j none)/\t.slot j=.empty
 | n,0,_,_,hn,_=>absurd hn (r6 _)
 | n,ic+1,p,hp,hn,he=>by
  unfold Xu;cases hs:t.slot p.j with
  | empty=>exact⟨p.j,by rw[hp],hs⟩
  | dummy =>
   exfalso;unfold Ni at hs;dsimp only at hs
   split at hs
   ·cases hs
   ·rw[hd] at hs;exact ZC1 hs
  | live i =>
   dsimp only;cases n with
   | zero =>
    rw[show(lz t 0 p).j=p.j from rfl,hs] at he;cases he
   | succ n =>
    rw[ah (by rw[bt i];decide)];have Dy:(t.advance p).dummy=none:=by
     unfold Nh
     split
     ·exact hp
     ·exact hp
    exact QQ hd ha h bt n ic (t.advance p) Dy (by lia) he
theorem Zkz{t:bQ}(hT:Tab es t)(h:Int):∃j,t.freeSlot h=some (j,false)/\t.slot j=.empty:=by
 obtain⟨n,hn,he⟩:=Zgx hT h;obtain⟨j,e,hj⟩:=QQ hT.none (λ_=>h+1) h (λ_=>by simp;lia) n (10*sh t.mask) (t.probeStart h) (Ip t h).2.2 hn he;refine⟨j,?_,hj⟩;unfold bQ.freeSlot bQ.probe;rw[e];rfl
theorem Zm4{t:bQ}(hT:Tab es t)(h:Int)(x:aa):∃j,t.slot j=.empty/\layNew t es h x=(gT es (cf t.place j) (h,x),{ t with place:=gT t.place (cf t.place j) j },false,false):=by
 obtain⟨j,e,hj⟩:=Zkz hT h;refine⟨j,hj,?_⟩;have d_:bQ.has t.dummies j=false:=by rw[hT.none];rfl
 have Zzi:t.put j=({ t with place:=gT t.place (cf t.place j) j },cf t.place j):=by
  unfold bQ.put;rw[d_];rfl
 have ui:(gT es (cf t.place j) (h,x)).size=es.size+1:=by
  rw[<- aU,(FR es (cf t.place j) (h,x)).length_eq,aU,pL]
 have bo:(gT t.place (cf t.place j) j).size=es.size+1:=by
  rw[<- aU,(FR t.place (cf t.place j) j).length_eq,aU,pL,hT.size]
 have hr:=hT.room;have hfe:=hT.fill_eq;have KD:({ t with place:=gT t.place (cf t.place j) j }:bQ).fits (gT es (cf t.place j) (h,x)).size=true:=by
  unfold FP FO;rw[ui];dsimp only;rw[bo,hT.none];simp;lia
 unfold layNew;rw[e];dsimp only;rw[Zzi];dsimp only;unfold SetTable.orStandIn;rw[KD];rfl
theorem ZiR{t:bQ}(h1:1<=es.size)(hn:es.size<=1000):∃gW t' g,relayAll t es (xP es.size)=(gW,t',g)/\gW.toList.Perm es.toList/\Tab gW t'/\t'.led=t.led:=by
 have hgr:xP es.size=es.size*4:=by unfold xP;rw[ah (by lia)]
 rw[hgr];obtain⟨g1,g2,g3⟩:=above (n:=es.size*4) (by lia);obtain⟨t',order,e,m1,m2,m3,m4,m5,m6,m7,m8⟩:=ZmT g1 t.finger (t.movedTo (gU (es.size*4)-1)) t.led t.plain (es.map (·.1)) (by rw[xk];lia);rw[xk] at m3 m4;have e2:t.relaid (es.map (·.1)) (es.size*4)=some (t',order):=e;have c9:(order.filterMap (es[·]?)).toList.Perm es.toList:=by
  rw[Array.toList_filterMap];exact(m4.filterMap _).trans (Fe (filterMap_getElem?_range es))
 have hsz:(order.filterMap (es[·]?)).size=es.size:=by
  rw[<- aU,c9.length_eq,aU]
 have S7:t'.fill=es.size:=by
  unfold FO;rw[m2,m3];rfl
 have KD:t'.fits (order.filterMap (es[·]?)).size=true:=by
  unfold FP;rw[hsz,m3,S7,m1];simp;lia
 have Zyp:coversAll order es.size=true:=by
  unfold coversAll;exact List.isPerm_iff.mpr m4
 refine⟨order.filterMap (es[·]?),t',false,?_,c9,⟨by rw[m3,hsz],m2,by rw[m1];exact g1,?_,m8⟩,m5⟩
 ·unfold relayAll;rw[e2];dsimp only;rw[Zyp,KD];rfl
 ·rw[S7,m1];lia
end
end k_
namespace k_
open PySem PyProof.Rows
section
variable{prog:aC}{w:ay}{K:Type}[DecidableEq K]{knd:KeyKind prog w K}{A:aI}{E:aa->af->Prop}{s:af}
abbrev CS(w:ay):Bool := !w.params.followText "set-order"
abbrev jh(w:ay):Obj:={ cls:=.type "set",dict:=none,data:=.set #[] 0 (.fresh 0 0 (CS w)) }
theorem ZlW(a:aa){Q₁ : aa->af->Prop}(h:Q₁ (.ref s.heap.objs.size) { s with heap:=s.heap.push (jh w) }) :
  codeAny (model prog w) A (.call (.builtin "set.__new__") ⟨[.type "set",a],[]⟩) (wants Q₁ E) s:=by
 refine XJ ?_;change wpAny _ A.in1 (do checkBuiltinCall "set.__new__" ⟨[.type "set",a],[]⟩;again (.builtin "set.__new__" ⟨[.type "set",a],[]⟩)) _ _ s;refine ae (so (PySem.F.newCall_set_1 a) (ai ⟨jV W6 _,gb PySem.F.entry_set_new ?_⟩));rw[lS W6 _];unfold dG.«set.__new__» ZBR;have ZEc:=sub_set_self;obtain⟨hp,g,d,tk,os⟩:=s;dsimp only
 wp_walk
 refine NB (ai ?_);dsimp only;simp only[newObj];exact ae (wpAny_alloc (ai (ai h)))
end
theorem sO:Slot "set_iterator" "__next__" "set_iterator.__next__" :=
 .of (owner := "set_iterator") (n := "__next__") (by rw[Ga,FX];kernel_rfl) (by decide +kernel) (by decide +kernel) (by decide +kernel) (by first|exact .inl (by decide +kernel)|exact .inr (by decide +kernel)) (by rw[FY];kernel_rfl)
theorem Oe:entryFor table "set_iterator.__next__" = some dG.«set_iterator.__next__» := XQ (by kernel_rfl)
theorem PB:Manifest.owners.lookup (String.ofList ['r','o','t','a','r','e','t','i','_','t','e','s'].reverse)=some Manifest.sig_set_iterator:=by kernel_rfl
theorem Ob(a:aa):argsOk "set_iterator.__next__" ⟨[a],[]⟩:=by
 unfold argsOk;rw[X2 (id := "set_iterator.__next__") (n:=['_','_','t','x','e','n','_','_']) (o:=['r','o','t','a','r','e','t','i','_','t','e','s']) (by kernel_rfl) PB];kernel_rfl
theorem N_:Slot "set_iterator" "__iter__" "set_iterator.__iter__" :=
 .of (owner := "set_iterator") (n := "__iter__") (by rw[Ga,FX];kernel_rfl) (by decide +kernel) (by decide +kernel) (by decide +kernel) (by first|exact .inl (by decide +kernel)|exact .inr (by decide +kernel)) (by rw[FY];kernel_rfl)
theorem Zfa:entryFor table "set_iterator.__iter__" = some dG.«dict_keyiterator.__iter__» := XO (id' := "dict_keyiterator.__iter__") (by kernel_rfl) rfl (by decide +kernel) (by kernel_rfl)
theorem ZfX(a:aa):argsOk "set_iterator.__iter__" ⟨[a],[]⟩:=by
 unfold argsOk;rw[X2 (id := "set_iterator.__iter__") (n:=['_','_','r','e','t','i','_','_']) (o:=['r','o','t','a','r','e','t','i','_','t','e','s']) (by kernel_rfl) PB];kernel_rfl
theorem ZfO:entryFor table "set.__iter__" = some dG.«frozenset.__iter__» := XO (id' := "frozenset.__iter__") (by kernel_rfl) rfl (by decide +kernel) (by kernel_rfl)
theorem HA{α : Type}:∀{l:List α}{i:Nat}(hi:i<l.length),(l[i]::l.eraseIdx i).Perm l
 | x::l,0,_=>pN _
 | x::l,i+1,hi=>by
  have gY:i<l.length:=by simpa using hi
  show(l[i]::x::l.eraseIdx i).Perm (x::l);exact(MD ..).trans ((HA gY).cons x)
variable{prog:aC}{w:ay}{A:aI}{E:aa->af->Prop}{s:af}
theorem wp_choose{src:Source}{n:Nat}{Q:Nat->af->Prop}(hn:n≠0)(h:∀i d,i<n->Q i { s with drawn:=d }):wpAny (model prog w) A (choose src n) Q E s:=λ_ _ _=>⟨hn,h _ _ (FD _ (Nat.pos_of_ne_zero hn))⟩
theorem QF{α : Type}:∀(n:Nat)(xs:List α)(s:af){Q:List α -> af->Prop},xs.length=n->(∀ys d,ys.Perm xs->Q ys { s with drawn:=d })->wpAny (model prog w) A (drawOrder n xs) Q E s
 | 0,xs,s,Q,hl,h=>by
  obtain rfl:=Fj hl;unfold drawOrder;exact ai (h [] s.drawn (pN _))
 | n+1,[],s,Q,hl,h=>by simp at hl
 | n+1,x::xs,s,Q,hl,h=>by
  unfold drawOrder;refine ae (wp_choose (by simp) λi d hi=>?_);rw[bO hi];dsimp only;refine wpAny_bind (QF n ((x::xs).eraseIdx i) { s with drawn:=d } (by rw[List.length_eraseIdx_of_lt hi,hl];rfl) λys d' hp=>ai (h _ d' ?_));refine(hp.cons _).trans ?_;exact(HA hi)
theorem OX{α : Type}(next:Nat->Nat):∀(n k:Nat)(left:List α)(out:Array α),left.length=n->(pickOrder.go next n k left out).toList.Perm (out.toList++left)
 | 0,k,left,out,hl=>by
  obtain rfl:=Fj hl;unfold pickOrder.go;rw[fN]
 | n+1,k,left,out,hl=>by
  unfold pickOrder.go;have hi:next k % left.length<left.length:=FD _ (by lia)
  rw[bO hi];dsimp only;refine(OX next n (k+1) _ _ (by rw[List.length_eraseIdx_of_lt hi,hl];rfl)).trans ?_
  rw[Mo,lW];exact MC.append_left _ (HA hi)
structure nV(w:ay)(h:Heap)(I S T:Addr)(es:Array (Int×aa))(ep:Nat)(t:bQ)(ys:List aa)(i:Nat):Prop where
  set:∃o,h.get? S=some o/\o.data=.set es ep t
  tab:t.fits es.size=true
  at_:∃first o,h.get? I=some o/\o.cls=.type "set_iterator" /\ o.data=.fields #[first,.int i 0,.ref S,.int es.size 0,.int ep 0] /\
    ((∃sl:Nat,first=iZ sl 0/\w.params.followText "set-order" = true/\ys=(pickOrder (w.params.setOrder S ep) es).toList.map (·.2)) \/
     (∃sl:Nat,first=iZ sl 0/\w.params.followText "set-order" = false/\(!t.plain&&decide (es.size > 1))=false/\t.led=true/\cf t.place sl=i/\jf t.place/\ys=es.toList.map (·.2)) \/
     (∃places n oT,first=aO T/\h.get? T=some oT/\oT.data=.seq places n/\places.toList.length=es.size/\∀(k:Nat)(v:aa),places[k]?= some v->∃(j:Nat)(tk:Tok),v=iZ (j:Nat) tk/\(es[j]?).map (·.2)=ys[k]? /\ j<es.size))
variable{I S T:Addr}{es:Array (Int×aa)}{ep i:Nat}{ys:List aa}
theorem nV.ty{h:Heap}{t:bQ}(x:nV w s.heap I S T es ep t ys i):s.TypeIs (.ref I) "set_iterator" := let ⟨_,o,ho,hc,_⟩:=x.at_;⟨o,ho,hc⟩
variable{o:Obj}
theorem IL{t:bQ}{Q:Array (Int×aa)->af->Prop}(ho:s.heap.get? S=some o)(hd:o.data=.set es ep t)(hf:t.fits es.size=true)(h:Q es s):wpAny (model prog w) A (setEntries S) Q E s:=by
 unfold setEntries;exact ae (sq ho hd hf (ai h))
theorem C4{Q:Bool->af->Prop}(h:Q (w.params.followText "set-order") s):wpAny (model prog w) A setsByText Q E s:=by
 unfold setsByText;exact ae (NB (ai h))
theorem fld{fs:Array aa}{k:Nat}{v:aa}{Q:Unit->af->Prop}(ho:s.heap.get? I=some o)(hd:o.data=.fields fs)(hk:k<fs.size)(hc:o.cls=.type "set_iterator")
  (h:∀h' o',h'.get? I=some o'->o'.cls=.type "set_iterator" -> o'.data=.fields (fs.setIfInBounds k v)->fz I s.heap h'->Q () { s with heap:=h' }):wpAny (model prog w) A (setField (.ref I) k v) Q E s :=
 Gi ho hd hk (h _ _ (m_ _ ho (WN (FG hd _))) ((WM ..).trans hc) (FG hd _) (lU ..))
variable{Q:Option (aa×Nat)->af->Prop}{sl:Nat}
theorem O4{t:bQ}(hT:w.params.followText "set-order" = true) (ho:s.heap.get? S=some o) (hd:o.data=.set es ep t) (hf:t.fits es.size=true)
  (h:Q (((pickOrder (w.params.setOrder S ep) es)[i]?).map λe=>(e.2,sl)) s):wpAny (model prog w) A (setNext S sl i ep) Q E s:=by
 unfold setNext;refine ae (sq ho hd hf ?_);dsimp only;refine wpAny_bind (C4 ?_);rw[hT,if_pos rfl,if_neg (by simp)];unfold setWalk;refine ae (ae (sq ho hd hf ?_));dsimp only;refine wpAny_bind (C4 ?_);rw[hT,if_pos rfl];exact ae (NB (ai (ai h)))
theorem OJ{t:bQ}(hT:w.params.followText "set-order" = false) (hp:(!t.plain&&decide (es.size > 1))=false) (hl:t.led=true) (ho:s.heap.get? S=some o) (hd:o.data=.set es ep t) (hf:t.fits es.size=true)
  (h:Q (match es[cf t.place sl]?,t.place[cf t.place sl]? with|some (_,x),some j=>some (x,j+1)|_,_=>none) s):wpAny (model prog w) A (setNext S sl i ep) Q E s:=by
 unfold setNext;refine ae (sq ho hd hf ?_);dsimp only;refine wpAny_bind (C4 ?_);rw[hT,if_neg (by decide)];change wpAny _ _ (if(!t.plain&&decide (es.size > 1))=true then _ else _) _ _ _
 rw[hp,ah (by decide)];refine ae ?_;change wpAny _ _ (if(!t.led && !es.isEmpty)=true then _ else _) _ _ _
 rw[hl,ah (by simp)];exact ai (ai h)
variable{Q:Option aa->af->Prop}
set_option maxHeartbeats 1000000 in
theorem ZmH{t:bQ}(x:nV w s.heap I S T es ep t ys i)(hy:ys.length=es.size)(hi:i<ys.length)
  (q:∀h',nV w h' I S T es ep t ys (i+1)->fz I s.heap h'->Q (some ys[i]) { s with heap:=h' }):wpAny (model prog w) A (pyNext (.ref I)) Q E s:=by
 have hT:=x.ty (h:=s.heap);obtain⟨⟨oS,fV,js⟩,hf,first,o,ho,hc,hd,Ac⟩:=id x
 have SD:S≠I:=λz=>by
  rw[z,ho] at fV;cases fV;rw[hd] at js;cases js
 unfold pyNext;refine ae (uS (uT (name:=bw "__next__") hT sO (jW sO hT Oe ?_ (Ob _))));unfold dG.«set_iterator.__next__»;refine ae (ai (ae (si ho hd ?_)));dsimp only;refine wpAny_bind (IL fV js hf ?_);rw[if_neg (by simp)];have key:∀nx:Nat,(∀h',(∃o',h'.get? I=some o'/\o'.cls=.type "set_iterator" /\ o'.data=.fields #[iZ nx 0,.int (i+1:Nat) 0,.ref S,.int es.size 0,.int ep 0])->fz I s.heap h'->nV w h' I S T es ep t ys (i+1)) ->
   wpAny (model prog w) A.in1 (do
     setField (aO I) 0 (rawInt nx)
     setField (aO I) 1 (rawInt ((i:Int)+1))
     ret ys[i]) (λfin s'=>∃v,fin=VY (VZ v)/\wpAny (model prog w) A (pure (some v)) Q E s')
    (λe s'=>wpAny (model prog w) A (do
     let __do_lift <- isInstance e (dy "StopIteration")
     if __do_lift=true then pure none else throw e) Q E s') s:=λnx hS=>by
  refine ae (fld ho hd (by simp) hc λh1 o1 dm lE lF mV=>ae (fld (s:={ s with heap:=h1 }) dm lF (by simp) lE λh2 o2 cJ ii hd2 rJ=>ai ⟨_,rfl,ai (q h2 (hS h2 ⟨o2,cJ,ii,?_⟩ (mV.trans rJ)) (mV.trans rJ))⟩));rw[hd2];rfl
 have Kf:∀h',fz I s.heap h'->∃o,h'.get? S=some o/\o.data=.set es ep t:=λh' sb=>⟨oS,(sb.2 S SD).trans fV,js⟩;have ZDW:t.place.size=es.size:=by
  unfold FP at hf;rw[gA] at hf;exact eq_of_beq hf.1
 rcases Ac with⟨sl,rfl,oJ,e⟩|⟨sl,rfl,oJ,bD,DQ,zK,hr,e⟩|⟨places,n,oT,rfl,qX,vR,gQ,K4⟩
 ·dsimp only;rw[Int.toNat_natCast,Int.toNat_natCast,Int.toNat_natCast];refine ae (O4 oJ fV js hf ?_);have q5:((pickOrder (w.params.setOrder S ep) es)[i]?).map (λe=>(e.2,sl))=some (ys[i],sl):=by
   have h1:((pickOrder (w.params.setOrder S ep) es).toList.map (·.2))[i]?= some ys[i]:=by rw[<- e];exact bO hi
   rw[bW,jM] at h1;obtain⟨x,hx,rn⟩:=dv.mp h1;rw[hx];show some (x.2,sl)=_;rw[rn]
  rw[q5];dsimp only;exact key sl λh' ⟨o',a1,a2,a3⟩ sb=>⟨Kf h' sb,hf,_,o',a1,a2,a3,.inl ⟨sl,rfl,oJ,e⟩⟩
 ·dsimp only;rw[Int.toNat_natCast,Int.toNat_natCast,Int.toNat_natCast];refine ae (OJ oJ bD DQ fV js hf ?_);have Tg:i<es.size:=by lia
  rw[zK,lT Tg,lT (show i<t.place.size by lia)];have Lo:ys[i]=es[i].2:=by
   have h1:ys[i]?= some es[i].2:=by rw[e,bW,jM,lT Tg];rfl
   rw[bO hi] at h1;exact ed h1
  dsimp only;rw[<- Lo];exact key (t.place[i]+1) λh' ⟨o',a1,a2,a3⟩ sb=>⟨Kf h' sb,hf,_,o',a1,a2,a3,.inr (.inl ⟨_,rfl,oJ,bD,DQ,Ziq hr _,hr,e⟩)⟩
 ·dsimp only;refine wpAny_bind (wpAny_seqItems qX vR ?_);dsimp only;rw[Int.toNat_natCast,Int.toNat_natCast];have q5:i<places.size:=by rw[<- aU];lia
  obtain⟨j,tk,hv,hj,tZ⟩:=K4 i _ (lT q5);rw[lT q5,hv];dsimp only;rw[Int.toNat_natCast];rw[bO hi,lT tZ] at hj;have Lo:es[j].2=ys[i]:=ed hj;unfold setNextDrawn;refine ae (ae (sq fV js hf ?_));dsimp only;rw[if_neg (by simp),Array.getElem?_eq_getElem tZ];refine ai ?_;rw[show(es.toList.get ⟨j,tZ⟩).snd=ys[i] from Lo];have SR:T≠I:=λz=>by
   rw[z,ho] at qX;cases qX;rw[hd] at vR;cases vR
  refine ae (fld ho hd (by simp) hc λh2 o2 cJ ii hd2 rJ=>ai ⟨_,rfl,ai (q h2 ⟨Kf h2 rJ,hf,_,o2,cJ,ii,?_,.inr (.inr ⟨places,n,oT,rfl,(rJ.2 T SR).trans qX,vR,gQ,K4⟩)⟩ rJ)⟩);rw[hd2];rfl
theorem IP{fs:Array aa}(hh:A.handled=none)(ho:s.heap.get? I=some o)(hd:o.data=.fields fs)(hk:2<fs.size)(hc:o.cls=.type "set_iterator") (q:∀h',Fb I s.heap h'->Q none { s with heap:=h' }) :
  wpAny (model prog w) A.in1 (do
    setField (aO I) 2 bg
    let __do_lift <- newExc (dy "StopIteration") []
    raiseNew __do_lift) (λfin s'=>∃v,fin=VY (VZ v)/\wpAny (model prog w) A (pure (some v)) Q E s')
   (λe s'=>wpAny (model prog w) A (do
    let __do_lift <- isInstance e (dy "StopIteration")
    if __do_lift=true then pure none else throw e) Q E s') s:=by
 refine ae (fld ho hd hk hc λh1 o1 dm lE lF mV=>?_);refine ae ?_;simp only[newExc,newTuple];refine ae (gG (ae (m:=firstArgMember _ _) (so (a:=bg) (by first|rfl|(simp only[firstArgMember];rfl)) (gG ?_ (by size_fits)))) (by size_fits))
 simp only[raiseNew];refine ae (ND ?_);rw[show A.in1.handled=none from hh];refine ae (ai (BC ?_));refine ae (x_ (T := "StopIteration") (b:=true) (v:=.ref _) (by exact⟨_,bE _ rfl,rfl⟩) Nq ?_);exact ai (q _ ((mV.extBut.push _).push _))
set_option maxHeartbeats 1000000 in
theorem Zou{t:bQ}(hh:A.handled=none)(x:nV w s.heap I S T es ep t ys ys.length)(hy:ys.length=es.size)
  (q:∀h',Fb I s.heap h'->Q none { s with heap:=h' }):wpAny (model prog w) A (pyNext (.ref I)) Q E s:=by
 have hT:=x.ty (h:=s.heap);obtain⟨⟨oS,fV,js⟩,hf,first,o,ho,hc,hd,Ac⟩:=id x
 unfold pyNext;refine ae (uS (uT (name:=bw "__next__") hT sO (jW sO hT Oe ?_ (Ob _))));unfold dG.«set_iterator.__next__»;refine ae (ai (ae (si ho hd ?_)));dsimp only;refine wpAny_bind (IL fV js hf ?_);rw[if_neg (by simp)];rcases Ac with⟨sl,rfl,oJ,e⟩|⟨sl,rfl,oJ,bD,DQ,zK,hr,e⟩|⟨places,n,oT,rfl,qX,vR,gQ,K4⟩
 ·dsimp only;rw[Int.toNat_natCast,Int.toNat_natCast,Int.toNat_natCast];refine ae (O4 oJ fV js hf ?_);have q5:(pickOrder (w.params.setOrder S ep) es)[ys.length]?= none:=by
   have h1:ys.length=(pickOrder (w.params.setOrder S ep) es).size:=by
    rw[e,ar,aU]
   exact rP (Bm h1.symm)
  rw[q5];exact IP hh ho hd (by simp) hc q
 ·dsimp only;rw[Int.toNat_natCast,Int.toNat_natCast,Int.toNat_natCast];refine ae (OJ oJ bD DQ fV js hf ?_);rw[zK,rP (show es.size<=ys.length by lia)];exact IP hh ho hd (by simp) hc q
 ·dsimp only;refine wpAny_bind (wpAny_seqItems qX vR ?_);dsimp only;rw[Int.toNat_natCast];have q5:places.size<=ys.length:=by rw[<- aU];lia
  rw[rP q5];dsimp only;refine ae (fld ho hd (by simp) hc λh1 o1 dm lE lF mV=>IP (s:={ s with heap:=h1 }) hh dm lF (by simp) lE λh' eb=>q h' λb o2 hb e2=>eb b o2 hb ((mV.2 b hb).trans e2))
theorem Zlb{t:bQ}(hh:A.handled=none)(SD:S≠I)(SR:T≠I)(hy:ys.length=es.size):Walks prog w A I [I,S,T] [I] ys.length (λi v=>ys[i]?= some v) (λi h=>nV w h I S T es ep t ys i) where
 sub:=λb hb=>aV.mpr (.inl (ao.mp hb))
 frame:=λi h h' x hk=>by
  obtain⟨⟨oS,fV,js⟩,hf,first,o,ho,hc,hd,Ac⟩:=x
  refine⟨⟨oS,hk S (by simp) oS fV,js⟩,hf,first,o,hk I (by simp) o ho,hc,hd,?_⟩
  rcases Ac with h1|h1|⟨places,n,oT,e,qX,r⟩
  ·exact .inl h1
  ·exact .inr (.inl h1)
  ·exact .inr (.inr ⟨places,n,oT,e,hk T (by simp) oT qX,r⟩)
 item:=λi s Q E hi x hQ=>ZmH x hy hi λh' x' sb=>hQ _ h' s.toks (bO hi) x' λb o hb e=>(sb.2 b (λz=>hb (ao.mpr z))).trans e
 done:=λs Q E x hQ=>Zou hh x hy λh' eb=>hQ h' s.toks λb o hb e=>eb b o (λz=>hb (ao.mpr z)) e
 self:=λi s Q E x hQ=>by
  have hT:=x.ty (h:=s.heap);refine Gh hT N_ (jW N_ hT Zfa ?_ (ZfX _));change wpAny _ _ (ret (.ref I)) _ _ s;exact ai ⟨_,rfl,"set_iterator",_,hT,sO.lookup,hQ⟩
section
variable{prog:aC}{w:ay}{K:Type}[DecidableEq K]{knd:KeyKind prog w K}{A:aI}{E:aa->af->Prop}{s:af}
theorem Znp{S:Addr}{o:Obj}{es:Array (Int×aa)}{ep:Nat}{t:bQ}{Q:Bool->af->Prop}(ho:s.heap.get? S=some o)(hd:o.data=.set es ep t)(hf:t.fits es.size=true)(h:Q (!w.params.followText "set-order" && (!t.plain&&decide (es.size > 1))) s):wpAny (model prog w) A (setDrawn S) Q E s:=by
 unfold setDrawn;refine ae (sq ho hd hf ?_);dsimp only;exact ae (C4 (ai h))
end
end k_
namespace k_
open PySem PyProof.Rows PySem.W
section
variable{prog:aC}{w:ay}{K:Type}[DecidableEq K]{knd:KeyKind prog w K}{A:aI}{E:aa->af->Prop}{s:af}
theorem Zlg{r:Addr}{Q:Bool->af->Prop}(hT:s.TypeIs (.ref r) "set") (h:Q false s):wpAny (model prog w) A (VF (.ref r)) Q E s:=by
 unfold VF;refine ae (Yi hT PySem.F.slot_set_len.lookup ?_);generalize Tf:("set.__len__" : String)=id0
 wp_delta
 rw[show splitId id0=some ("set","__len__") from by subst Tf;decide +kernel];subst Tf;refine ae (x_ (T := "set") (b:=true) hT (by rw[FY];kernel_rfl) (Bx (λeu=>absurd eu (by decide)) (λ_=>Bx (λ_=>?_) (λeu=>absurd (by decide +kernel) eu))));exact ae (uW hT (ai h))
end
end k_
namespace L2
open PySem PySem.Spec PyProof.Rows PySem.W
variable{X:Cx}
theorem Inv.draws{pins:List (Addr×Obj)}{σ : St}{H:Hp}{s:af}{d:mZ}(I:Inv X pins σ H s):Inv X pins σ H { s with drawn:=d } :=
 I.step (g':=s.gens) (d':=d) (t':=s.toks) (ch:=[]) (λ_ z=>nomatch z) (λ_ _ _ _ _ e _=>e) (λ_ o _ _ _ e _=>⟨o.slots,e⟩) (λ_ _ _ _ n=>n) (λ_ o _ e=>⟨o,e⟩) (λ_ _ h=>h) (λ_ _ _ h=>h) (λ_ ps h=>⟨#[],by simpa using h⟩) (λ_ h=>h) I.ak I.bare
theorem ZnQ:bootBuiltins "set" = some (.type "set"):=by decide +kernel
theorem Ox:bootBuiltins "sorted" = some (.builtin "sorted"):=by decide +kernel
theorem Pp{ns:List Int}:∀zs:List V,(∀z∈zs,z∈ns.map V.int)->∃ms:List Int,zs=ms.map V.int/\∀m∈ms,m∈ns
 | [],_=>⟨[],rfl,λ_ h=>nomatch h⟩
 | z::zs,h=>by
  obtain⟨m,hm,rfl⟩:=a6.mp (h z (aZ ..));obtain⟨ms,rfl,hms⟩:=Pp zs λx hx=>h x (bM _ hx);refine⟨m::ms,rfl,λx hx=>?_⟩;rcases aV.mp hx with rfl|hx
  ·exact hm
  ·exact hms x hx
end L2
namespace av
open PySem PyProof.Rows sN
structure yC(lt:cX->cX->Bool):Prop where
 mI:∀x y,lt x y=true->lt y x=false
 neg:∀x y z,lt x y=false->lt y z=false->lt x z=false
def Le(lt:cX->cX->Bool)(x y:cX):Prop:=lt y x=false
def Jy(prog:aC)(w:ay)(A:aI)(s:af)(κ : Nj)(Ok:cX->Prop)(lt:cX->cX->Bool):Prop :=
 ∀x y,Ok x->Ok y->∀E:aa->af->Prop,wpAny (model prog w) A (keyLt' κ x.1 y.1) (λb s'=>s'=s/\b=lt x y) E s
section
variable{lt:cX->cX->Bool}{a b out:Array cX}{ia ib k:Nat}{p q:cX}
abbrev So(lt:cX->cX->Bool)(l:List cX):Prop:=l.Pairwise (Le lt)
end
end av
namespace av
open PySem PyProof.Rows sN PySem.W
variable{E:aa->af->Prop}
def sS(prog:aC)(w:ay)(A:aI)(lv:aa->aa->Bool)(vs:List aa)(s:af):Prop :=
 ∃ κ,(∀(Q:Nj->af->Prop)(E:aa->af->Prop),Q κ s->wpAny (model prog w) A (keyKind' vs.toArray) Q E s)/\Jy prog w A s κ (λp=>p∈(pairsOf vs).toList) λx y=>lv x.1 y.1
variable{vs:List aa}
theorem Oi{p:cX}(h:p∈(pairsOf vs).toList):p.1=p.2:=by
 rw[xX] at h;obtain⟨i,hi⟩:=uM.mp h;rw[List.getElem?_zip_eq_some] at hi;have:=hi.1.symm.trans hi.2;exact ed this
theorem ZlP{lt:cX->cX->Bool}(h:vs.length<2):So lt (pairsOf vs).toList:=nA.mpr λi j hi hj kD=>by
 rw[aU,Bu] at hi hj;lia
variable{lv:aa->aa->Bool}
theorem Qf{xs:Array cX}(hp:xs.toList.Perm (pairsOf vs).toList)(h:So (λx y=>lv x.1 y.1) xs.toList):(xs.map (·.2)).toList.Pairwise (λu v=>lv v u=false):=by
 rw[xm,jQ];refine ZB7 (λ{x y} hx hy Ul=>?_) h;have NV:lv y.1 x.1=false:=Ul;rw[Oi (hp.mem_iff.mp hx),Oi (hp.mem_iff.mp hy)] at NV;exact NV
def j_:aa->Int
 | .int i _=>i
 | _=>0
def rp(u v:aa):Bool:=decide (j_ u<j_ v)
theorem Qm:yC λx y=>rp x.1 y.1:=⟨λx y h=>bx (by have:=bK h;lia),λx y z h1 h2=>bx (by have:=l_ h1;have:=l_ h2;lia)⟩
variable{prog:aC}{w:ay}{A:aI}{s:af}
theorem N7(hv:∀v∈vs,∃i t,v=iZ i t)(h2:2<=vs.length):sS prog w A rp vs s:=by
 refine⟨oneType',λQ E hq=>kas_kind (T:=.type "int") h2 (λv hm=>?_) rfl rfl hq,?_⟩
 ·obtain⟨i,t,rfl⟩:=hv v hm;exact Fx rfl
 ·intro x y hx hy E;rw[xX] at hx hy;obtain⟨i,t,e⟩:=hv _ (kU hx).2;obtain⟨i',t',e'⟩:=hv _ (kU hy).2;rw[e,e',Mi];refine F0 ⟨rfl,?_⟩;show decide (i<i')=decide (j_ x.1<j_ y.1);rw[e,e'];rfl
variable{T:String}{r d:Addr}{n:Nat}{P:Nat->aa->Prop}{OK:Heap->Prop}
theorem Oh{Q:List aa->af->Prop}(K:KdlSrc prog w T r d n P OK)(hh:A.handled=none)(ak:OK s.heap)(hn:n<=sizeLine)
  (q:∀(acc:Array aa)(h':Heap)(tk:Nat),(∀b o,s.heap.get? b=some o->h'.get? b=some o)->Ba P acc n->s.heap.objs.size<=h'.objs.size->Q acc.toList { s with heap:=h',toks:=tk }):wpAny (model prog w) A (collect (.ref r)) Q E s:=by
 unfold collect;refine ae (NJ (gb Vn ?_));change wpAny _ _ (do again (.builtin "list.__iadd__" ⟨[<- newList [],.ref r],[]⟩)) _ _ s;refine ae (sk (ai ⟨A9 _ (by decide +kernel),gb Vm ?_⟩));change wpAny _ A.in1 (A6 (.ref s.heap.objs.size) (.ref r) (.ref s.heap.objs.size)) _ _ { s with heap:=s.heap.push (seqObj "list" #[] 0) };have aB:=K.there _ ak;refine kdl_extend (R:=wants (λv s'=>wpAny (model prog w) A (match v with
     | aO a=>do
      let o <- load a
      match o.data with
      | .seq xs _=>pure xs.toList
      | _=>unsupported "internal:collect"
     | _=>unsupported "internal:collect") Q E s') E) (s:={ s with heap:=s.heap.push (seqObj "list" #[] 0) }) K hh (K.keep _ _ ak λb _ o e=>aG _ e) s.heap.objs.size (jR aB.1) (jR aB.2) _ 0 (bE _ rfl) (λh' tk acc c kp hS hit=>?_) hn
 refine ae (Gf hS ?_);refine ai ?_;exact q acc h' tk (λb o e=>kp b o (bc (aM e)) (aG _ e)) hit (lZ (aM hS))
structure Fo(f:Nat->Nat->Bool):Prop where
 mI:∀x y,f x y=true->f y x=false
 neg:∀{x} y {z},f x y=false->f y z=false->f x z=false
abbrev aJ(p:Array Nat)(i:Nat):Nat:=p.getD i 0
def j5(f:Nat->Nat->Bool)(p:Array Nat)(n:Nat):Prop := ∀x y,x<y->y<n->f (aJ p y) (aJ p x)=false
def mh(f:Nat->Nat->Bool)(p:Array Nat)(n:Nat):Prop := ∀x y,x<y->y<n->f (aJ p x) (aJ p y)=false
def nO(f:Nat->Nat->Bool)(p:Array Nat)(m n:Nat):Prop := ∀x y,m<=x->x<n->m<=y->y<n->f (aJ p x) (aJ p y)=false
def dg(N:Nat)(p:Array Nat):Prop:=p.toList.Perm (c_ N)
section
variable{f:Nat->Nat->Bool}{N:Nat}{cmp:Nat->Nat->(Bool->af->Prop)->af->Prop}{s:af}{p:Array Nat}
theorem dg.size(h:dg N p):p.size=N:=by
 have:=h.length_eq
 simpa using this
theorem dg.lt(h:dg N p){i:Nat}(hi:i<N):aJ p i<N:=by
 have hs:=h.size;have e:aJ p i=p[i]:=by simp[aJ,kO,show i<p.size by lia]
 rw[e];exact iY.mp (h.mem_iff.mp (by simp))
theorem dg.rev(h:dg N p)(i j:Nat):dg N (kas_rev p i j):=(mirror_perm p i j _).toList.trans h
theorem dg.bub(h:dg N p)(i j:Nat):dg N (bubble p i j):=(bubble_perm p i j).toList.trans h
theorem mw{j:Nat}(h:dg N p)(hj:j<=N)(i k:Nat):aJ (kas_rev p i j) k=if i<=k/\k<j then aJ p (i+j-1-k) else aJ p k:=by
 have e:=getElem?_mirror_all (i:=i) (show j<=p.size by rw[h.size];exact hj) k;show(kas_rev p i j).getD k 0=_;rw[EZ];show((mirror p i j ((j-i) / 2))[k]?).getD 0=_;rw[e]
 split <;> exact(EZ ..).symm
theorem Q4{k l:Nat}(h:dg N p)(hk:k<N)(hl:l<=k)(i:Nat):aJ (bubble p k (k-l)) i=if i=l then aJ p k else if l<i/\i<=k then aJ p (i-1) else aJ p i:=by
 have e:=getElem?_bubble (show k<p.size by rw[h.size];exact hk) (k-l) (by lia) i;show(bubble p k (k-l)).getD i 0=_;rw[EZ,e,show k-(k-l)=l by lia]
 repeat' split
 all_goals exact(EZ ..).symm
variable(o:Fo f)
include o
theorem Fo.uq(x:Nat):f x x=false:=by
 cases h:f x x with
 | false=>rfl
 | true=>exact(o.mI _ _ h).symm.trans h |>.symm
variable{n:Nat}
theorem j5.ext(h:j5 f p n)(e:f (aJ p n) (aJ p (n-1))=false):j5 f p (n+1):=λx y h1 h2=>by
 rcases iz y n with c|c
 ·exact h x y h1 c
 ·obtain rfl:y=n:=by lia
  rcases iz x (y-1) with c|c
  ·exact o.neg _ e (h x (y-1) c (by lia))
  ·rw[show x=y-1 by lia];exact e
theorem mh.ext(h:mh f p n)(e:f (aJ p (n-1)) (aJ p n)=false):mh f p (n+1):=λx y h1 h2=>by
 rcases iz y n with c|c
 ·exact h x y h1 c
 ·obtain rfl:y=n:=by lia
  rcases iz x (y-1) with c|c
  ·exact o.neg _ (h x (y-1) c (by lia)) e
  ·rw[show x=y-1 by lia];exact e
theorem nO.ext{m:Nat}(h:nO f p m n)(hn:m<n)(e1:f (aJ p (n-1)) (aJ p n)=false)(e2:f (aJ p n) (aJ p (n-1))=false):nO f p m (n+1):=λx y h1 h2 h3 h4=>by
 have k1:∀x,m<=x->x<n+1->f (aJ p x) (aJ p (n-1))=false:=λx h1 h2=>by
  rcases iz x n with c|c
  ·exact h x _ h1 c (by lia) (by lia)
  ·rw[show x=n by lia];exact e2
 have k2:∀x,m<=x->x<n+1->f (aJ p (n-1)) (aJ p x)=false:=λx h1 h2=>by
  rcases iz x n with c|c
  ·exact h _ x (by lia) (by lia) h1 c
  ·rw[show x=n by lia];exact e1
 exact o.neg _ (k1 x h1 h2) (k2 y h3 h4)
theorem nO.one(n:Nat):nO f p (n+1-(0+1)) (n+1):=λx y h1 h2 h3 h4=>by
 rw[show x=y by lia];exact o.uq _
variable(hc:∀i j C,i<N->j<N->C (f i j) s->cmp i j C s)
include hc
theorem Jq(hp:dg N p){G:Nat->af->Prop}:∀k n,1<=n->n+k<=N->j5 f p n->(∀m,n<=m->m<=n+k->j5 f p m->(m<n+k->f (aJ p m) (aJ p (m-1))=true)->G m s)->(kas_asc p k n).kasWp cmp G s
 | 0,n,_,_,u,h=>h n (ax _) (ax _) u λz=>absurd z (eU _)
 | k+1,n,h1,hn,u,h=>hc _ _ _ (hp.lt (by lia)) (hp.lt (by lia)) (by
  show(if f (aJ p n) (aJ p (n-1))=true then _ else _:KasT Nat).kasWp cmp G s
  by_cases c:f (aJ p n) (aJ p (n-1))=true
  ·rw[aj c];exact h n (ax _) (by lia) u λ_=>c
  ·rw[ah c];exact Jq hp k (n+1) (by lia) (by lia) (u.ext o (by simpa using c)) λm a b u' e=>h m (by lia) (by lia) u' λz=>e (by lia))
theorem IH{G:Array Nat×Nat×Nat->af->Prop}:∀k p n q,dg N p->q+1<=n->n+k<=N->mh f p n->nO f p (n-(q+1)) n->(∀p' n' q',dg N p'->n<=n'->n'<=n+k->q'+1<=n'->mh f p' n'->nO f p' (n'-(q'+1)) n'->G (p',n',q') s)->(kas_desc k p n q).kasWp cmp G s
 | 0,p,n,q,hp,hq,_,d,e,h=>h p n q hp (ax _) (ax _) hq d e
 | k+1,p,n,q,hp,hq,hn,d,e,h=>hc _ _ _ (hp.lt (by lia)) (hp.lt (by lia)) (by
  show(if f (aJ p n) (aJ p (n-1))=true then(if q > 0 then _ else _) else V5 _ _ _:KasT (Array Nat×Nat×Nat)).kasWp cmp G s
  have go:∀p',dg N p'->mh f p' n->f (aJ p' (n-1)) (aJ p' n)=false->(kas_desc k p' (n+1) 0).kasWp cmp G s:=λp' uY d' e'=>IH k p' (n+1) 0 uY (by lia) (by lia) (d'.ext o e') (nO.one o n) λp2 n2 q2 a b c=>h p2 n2 q2 a (by lia) (by lia);by_cases c:f (aJ p n) (aJ p (n-1))=true
  ·rw[aj c];by_cases cq:q > 0
   ·rw[aj cq];have at_:∀x,x<n->∃y,aJ (kas_rev p (n-(q+1)) n) x=aJ p y/\y<n/\(x<n-(q+1)->y=x)/\(n-(q+1)<=x->n-(q+1)<=y):=λx hx=>by
     rw[mw hp (by lia)]
     split
     ·exact⟨_,rfl,by lia,by lia,by lia⟩
     ·exact⟨_,rfl,by lia,by lia,by lia⟩
    refine go _ (hp.rev _ _) (λx y h1 h2=>?_) ?_
    ·obtain⟨x',ex,x1,x2,x3⟩:=at_ x (by lia);obtain⟨y',ey,y1,y2,y3⟩:=at_ y h2;rw[ex,ey];rcases iz x (n-(q+1)) with z|z
     ·have:=x2 z;rcases iz y (n-(q+1)) with w|w
      ·have:=y2 w;exact d _ _ (by lia) y1
      ·have:=y3 w;exact d _ _ (by lia) y1
     ·exact e _ _ (x3 z) x1 (y3 (by lia)) y1
    ·obtain⟨y,ey,y1,_,y3⟩:=at_ (n-1) (by lia);have y3:=y3 (by lia);rw[ey,mw hp (by lia),ah (by lia)];refine o.mI _ _ ?_;cases c2:f (aJ p n) (aJ p y) with
     | true=>rfl
     | false=>exact absurd c (by rw[o.neg _ c2 (e y (n-1) y3 y1 (by lia) (by lia))];decide)
   ·rw[ah cq];exact go p hp d (o.mI _ _ c)
  ·rw[ah c];refine hc _ _ _ (hp.lt (by lia)) (hp.lt (by lia)) ?_;show(if f (aJ p (n-1)) (aJ p n)=true then _ else _:KasT (Array Nat×Nat×Nat)).kasWp cmp G s
   by_cases c2:f (aJ p (n-1)) (aJ p n)=true
   ·rw[aj c2];exact h p n q hp (ax _) (by lia) hq d e
   ·rw[ah c2];refine IH k p (n+1) (q+1) hp (by lia) (by lia) (d.ext o (by simpa using c2)) ?_ λp2 n2 q2 a b c=>h p2 n2 q2 a (by lia) (by lia);rw[show n+1-(q+1+1)=n-(q+1) by lia];exact e.ext o (by lia) (by simpa using c2) (by simpa using c))
variable{G:Nat×Array Nat->af->Prop}
theorem QP(hp:dg N p)(hn:n+1<=N)(d:mh f p (n+1))(h:∀m p',dg N p'->1<=m->m<=N->j5 f p' m->G (m,p') s):(kas_descPart n N p).kasWp cmp G s:=by
 have tl:∀p n,dg N p->1<=n->n<=N->mh f p n->(kas_tail3 n N p).kasWp cmp G s:=λp n hp h1 hn d=>by
  unfold kas_tail3;rw[Bb];refine Jq o hc (hp.rev _ _) _ _ h1 (by lia) (λx y hx hy=>?_) λm a b u _=>h m _ (hp.rev _ _) (by lia) (by lia) u;rw[mw hp hn,mw hp hn,aj (by lia),aj (by lia)];exact d _ _ (by lia) (by lia)
 unfold kas_descPart;rw[Bb];refine IH o hc _ _ _ _ hp (by lia) (by lia) d (nO.one o n) λp' n' q' a b c hq d' e'=>?_;show(if q' > 0 then _ else _:KasT (Nat×Array Nat)).kasWp cmp G s
 by_cases cq:q' > 0
 ·rw[aj cq];show(kas_tail3 n' N (kas_rev p' (n'-(q'+1)) n')).kasWp cmp G s;refine tl _ _ (a.rev _ _) (by lia) (by lia) λx y h1 h2=>?_;rw[mw a (by lia),mw a (by lia)]
  split
  ·rw[aj (by lia)];exact e' _ _ (by lia) (by lia) (by lia) (by lia)
  ·split
   ·exact d' _ _ (by lia) (by lia)
   ·exact d' _ _ h1 h2
 ·rw[ah cq];exact tl p' n' a (by lia) (by lia) d'
theorem ZlQ(hp:dg N p)(h2:1<=N)(h:∀m p',dg N p'->1<=m->m<=N->j5 f p' m->G (m,p') s):(kas_count N p).kasWp cmp G s:=by
 unfold kas_count;rw[Bb];refine Jq o hc hp _ _ (ax _) (by lia) (λx y h1 h2=>by lia) λn a b u e=>?_;show(if(n == N)=true then KasT.ret (n,p) else if n > 1 then _ else _:KasT (Nat×Array Nat)).kasWp cmp G s
 by_cases c:(n == N)=true
 ·rw[aj c];exact h n p hp a (by lia) u
 ·rw[ah c];have hn:n<N:=by
   have:n≠N:=by simpa using c
   lia
  have e:=e (by lia);by_cases c1:n > 1
  ·rw[aj c1];refine hc _ _ _ (hp.lt (by lia)) (hp.lt (by lia)) ?_;show(if f (aJ p 0) (aJ p (n-1))=true then _ else _:KasT (Nat×Array Nat)).kasWp cmp G s
   by_cases c2:f (aJ p 0) (aJ p (n-1))=true
   ·rw[aj c2];exact h n p hp a (by lia) u
   ·rw[ah c2];have c2:f (aJ p 0) (aJ p (n-1))=false:=by simpa using c2
    refine QP o hc (hp.rev _ _) (by lia) (mh.ext o (λx y hx hy=>?_) ?_) h
    ·rw[mw hp (by lia),mw hp (by lia),aj (by lia),aj (by lia)];exact u _ _ (by lia) (by lia)
    ·rw[mw hp (by lia),mw hp (by lia),aj (by lia),ah (by lia),show 0+n-1-(n-1)=0 by lia];refine o.mI _ _ ?_;cases c3:f (aJ p n) (aJ p 0) with
     | true=>rfl
     | false=>exact absurd e (by rw[o.neg _ c3 c2];decide)
  ·rw[ah c1];obtain rfl:n=1:=by lia
   exact QP o hc hp (by lia) (mh.ext o (λx y h1 h2=>by lia) (o.mI _ _ e)) h
theorem IA{k:Nat}(hp:dg N p)(hk:k<N)(u:j5 f p k){G:Nat->af->Prop}:∀r l m,l<=m->m<=k->m<=l+r->(∀i,i<l->f (aJ p k) (aJ p i)=false)->(∀i,m<=i->i<k->f (aJ p k) (aJ p i)=true)->(∀l,l<=k->(∀i,i<l->f (aJ p k) (aJ p i)=false)->(∀i,l<=i->i<k->f (aJ p k) (aJ p i)=true)->G l s)->(kas_place p k r l m).kasWp cmp G s
 | 0,l,m,a,b,c,h1,h2,h=>h l (by lia) h1 λi x y=>h2 i (by lia) y
 | r+1,l,m,a,b,c,h1,h2,h=>by
  show(if l>=m then _ else V5 _ _ _:KasT Nat).kasWp cmp G s
  by_cases z:l>=m
  ·rw[aj z];exact h l (by lia) h1 λi x y=>h2 i (by lia) y
  ·rw[ah z];refine hc _ _ _ (hp.lt hk) (hp.lt (by lia)) ?_;show(if f (aJ p k) (aJ p ((l+m) / 2))=true then _ else _:KasT Nat).kasWp cmp G s
   by_cases w:f (aJ p k) (aJ p ((l+m) / 2))=true
   ·rw[aj w];refine IA hp hk u r l _ (by lia) (by lia) (by lia) h1 (λi x y=>?_) h;rcases iz ((l+m) / 2) i with v|v
    ·cases t:f (aJ p k) (aJ p i) with
     | true=>rfl
     | false=>exact absurd w (by rw[o.neg _ t (u _ _ v y)];decide)
    ·rw[show i=(l+m) / 2 by lia];exact w
   ·rw[ah w];have w:f (aJ p k) (aJ p ((l+m) / 2))=false:=by simpa using w
    refine IA hp hk u r _ m (by lia) (by lia) (by lia) (λi x=>?_) h2 h;rcases iz i ((l+m) / 2) with v|v
    ·exact o.neg _ w (u _ _ v (by lia))
    ·rw[show i=(l+m) / 2 by lia];exact w
theorem Rq{G:Array Nat->af->Prop}:∀r p k,dg N p->k+r=N->j5 f p k->(∀p',dg N p'->j5 f p' N->G p' s)->(kas_bin r p k).kasWp cmp G s
 | 0,p,k,hp,hk,u,h=>h p hp (by rw[<- hk];exact u)
 | r+1,p,k,hp,hk,u,h=>by
  show((kas_place p k k 0 k).bind λl=>kas_bin r (bubble p k (k-l)) (k+1)).kasWp cmp G s;rw[Bb];refine IA o hc hp (by lia) u _ _ _ (bz _) (ax _) (by lia) (λi h=>by lia) (λi h1 h2=>by lia) λl hl h1 h2=>Rq r _ _ (hp.bub _ _) (by lia) (λx y hx hy=>?_) h;rw[Q4 hp (by lia) hl,Q4 hp (by lia) hl];by_cases a:y=l
  ·rw[aj a,ah (by lia),ah (by lia)];exact h1 x (by lia)
  ·rw[ah a];by_cases b:x=l
   ·rw[aj b,aj (by lia)];exact o.mI _ _ (h2 (y-1) (by lia) (by lia))
   ·rw[ah b]
    repeat' split
    all_goals exact u _ _ (by lia) (by lia)
theorem Zm0{G:Array Nat->af->Prop}(h2:1<=N)(h:∀p',dg N p'->j5 f p' N->G p' s):(kas_sort N).kasWp cmp G s:=by
 unfold kas_sort;rw[Bb];refine ZlQ o hc (show dg N (Ww (c_ N)) from pN _) h2 λm p' a b c u=>?_;show(if m<N then _ else _:KasT (Array Nat)).kasWp cmp G s
 by_cases z:m<N
 ·rw[aj z,show max m 1=m by lia];exact Rq o hc _ _ _ a (by lia) u h
 ·rw[ah z];exact h p' a (by rw[show N=m by lia];exact u)
end
section
variable{prog:aC}{w:ay}{A:aI}{E:aa->af->Prop}{s:af}{κ : Nj}{lt:cX->cX->Bool}
theorem OS{a₀ : Array cX}{Q:Unit->SortSt->Prop}(o:yC lt)(hc:Jy prog w A s κ (λp=>p∈a₀.toList) lt)(hn:2<=a₀.size)(lC:a₀.size<=63)(h:∀a_,(arrOf a_).toList.Perm a₀.toList->So lt (arrOf a_).toList->failedOf a_=none->Q () a_):wpS (model prog w) A E s sortRuns' Q (Mh κ a₀ #[] 7 none):=by
 have it:∀i,i<a₀.size->kas_item a₀ i∈a₀.toList:=λi hi=>by
  unfold kas_item;simp[kO,hi]
 have e0:Mh κ a₀ #[] 7 none=kas_st κ a₀ (Ww (c_ a₀.size)):=by
  unfold kas_st;rw[kas_range]
 rw[e0];show kasC (model prog w) A E sortRuns' (λa a_ s'=>s'=s/\Q a a_) _ s;refine kas_runs (prog:=prog) (w:=w) (A:=A) (κ := κ) (it:=a₀) (G:=λp s'=>s'=s/\dg a₀.size p/\j5 (λi j=>lt (kas_item a₀ i) (kas_item a₀ j)) p a₀.size) hn (by lia) (λp' a_ s' hs ha hf hg=>?_) (Zm0 (f:=λi j=>lt (kas_item a₀ i) (kas_item a₀ j)) ⟨λx y=>o.mI _ _,λy=>o.neg _ _ _⟩ (λi j C hi hj q=>?_) (by lia) λp' a b=>⟨rfl,a,b⟩)
 ·obtain⟨rfl,g1,g2⟩:=hg;refine⟨rfl,h a_ ?_ ?_ hf⟩
  ·rw[ha,xm];refine(g1.map _).trans ?_;have e:=congrArg Mn (kas_range a₀);rw[xm] at e;rw[show Wf (kas_item a₀) (c_ a₀.size)=a₀.toList from e]
  ·rw[ha,xm,So,jQ];refine nA.mpr λi j hi hj kD=>?_;rw[aU] at hi hj;have:=g2 i j kD (by lia)
   simpa[Le,aJ,kO,hi,hj] using this
 ·exact dz (hc _ _ (it i hi) (it j hj) _) (λb s' ⟨h1,h2⟩=>by subst h1;subst h2;exact q) λ_ _ e=>e
end
theorem ZgA(o:yC λx y=>lv x.1 y.1){a:Addr}{vs:List aa}{n:Nat}{P:Fin->af->Prop}(ho:s.heap.get? a=some (seqObj "list" vs.toArray n)) (hlen:vs.length<=63)
  (hc:∀h6:Heap,(∀b o,b≠a->s.heap.get? b=some o->h6.get? b=some o)->2<=vs.length->sS prog w A lv vs { s with heap:=h6 })
  (h:∀out:Array aa,out.toList.Perm vs->out.toList.Pairwise (λu v=>lv v u=false)->P (.done (.ret .none)) { s with heap:=sortedHeap s.heap a vs out }):wpAny (model prog w) A (dG.«list.sort» ⟨[.ref a],[]⟩) P E s:=by
 have hv:vs.toArray.size<=sizeLine:=by rw[bp,bB];lia
 have ha:a<s.heap.objs.size:=aM ho;obtain⟨e1,dm⟩:∃e1,(s.heap.update a (a7 λ_=>#[])).get? a=some (seqObj "list" #[] e1):=⟨_,xS ho (λ_=>#[])⟩;rw[list_sort_plain];refine ae (Nr ho rfl (ae (uR ho rfl (ae (Bv dm rfl (ae (Gg (ae (sk (eW ?_)))))))  hv (bz _))));have nT:a≠(s.heap.update a (a7 λ_=>#[])).objs.size:=by rw[xt];exact bc ha
 have nL:a≠((s.heap.update a (a7 λ_=>#[])).push (seqObj "tuple" vs.toArray 0)).objs.size:=by rw[A4,xt];exact bc (xJ ha)
 have wj:(((s.heap.update a (a7 λ_=>#[])).push (seqObj "tuple" vs.toArray 0)).push (seqObj "list" #[] 0)).get? a=some (seqObj "list" #[] e1):=by
  rw[Fc _ _ _ nL,Fc _ _ _ nT];exact dm
 have t7:∀b o,b≠a->s.heap.get? b=some o->(((s.heap.update a (a7 λ_=>#[])).push (seqObj "tuple" vs.toArray 0)).push (seqObj "list" #[] 0)).get? b=some o:=λb o hb e=>by
  refine aG _ (aG _ ?_);rw[iu _ _ hb.symm];exact e
 show wpAny (model prog w) A _ P E { s with heap:=((s.heap.update a (a7 λ_=>#[])).push (seqObj "tuple" vs.toArray 0)).push (seqObj "list" #[] 0) };dsimp only;by_cases h2:vs.toArray.size<2
 ·rw[aj h2,aj h2];refine ae (ai ?_);rw[Xv];refine ae (ai (ae (Bv wj rfl (ae (uR wj rfl ?_ (bz _) ?_)))))
  ·simp only[bne_self_eq_false,jN,eV];exact ai (h _ (O3 (xs:=pairsOf vs) (pN _)) (Qf (xs:=pairsOf vs) (pN _) (ZlP (by rw[bp] at h2;exact h2))))
  ·show((pairsOf vs).map (·.2)).size<=_;rw[xk,Bu,bB];lia
 ·rw[ah h2,ah h2];rw[bp] at h2;obtain⟨κ,t9,zM⟩:=hc _ t7 (by lia);refine ae (t9 _ _ ?_);refine ae (dz (OS (a₀ := pairsOf vs) (Q:=λ_ a_=>(arrOf a_).toList.Perm (pairsOf vs).toList/\So (λx y=>lv x.1 y.1) (arrOf a_).toList/\failedOf a_=none) o zM (by rw[Bu];lia) (by rw[Bu];exact hlen) λa_ a1 a3 a2=>⟨a1,a3,a2⟩) ?_ λ_ _ e=>e);rintro⟨⟨⟩,a_⟩ s' ⟨rfl,hp,eA,hf⟩;dsimp only;refine ae (Bv wj rfl (ae (uR wj rfl ?_ (bz _) ?_)))
  ·rw[hf];simp only[bne_self_eq_false,jN,eV];exact ai (h _ (O3 hp) (Qf hp eA))
  ·have uY:(arrOf a_).toList.Perm (pairsOf vs).toList:=hp;have:=uY.length_eq;rw[aU,aU,Bu] at this;show((arrOf a_).map (·.2)).size<=_;rw[xk,bB];lia
theorem B2(o:yC λx y=>lv x.1 y.1){v:aa}{C:List aa->Prop}{Q:aa->af->Prop}
  (Zyo:∀(Q':List aa->af->Prop)(E':aa->af->Prop),(∀(ys:List aa)(h':Heap)(tk:Nat)(d:mZ),(∀b o,s.heap.get? b=some o->h'.get? b=some o)->C ys->ys.length<=63->s.heap.objs.size<=h'.objs.size->Q' ys { s with heap:=h',toks:=tk,drawn:=d })->wpAny (model prog w) A.in1 (collect v) Q' E' s)
  (hc:∀(ys:List aa)(h6:Heap)(tk:Nat)(d:mZ),C ys->(∀b o,s.heap.get? b=some o->h6.get? b=some o)->2<=ys.length->sS prog w A.in1.in1 lv ys { s with heap:=h6,toks:=tk,drawn:=d })
  (q:∀(p:Addr)(ys:List aa)(out:Array aa)(h':Heap)(tk:Nat)(d:mZ)(c:Nat),C ys->out.toList.Perm ys->out.toList.Pairwise (λu v=>lv v u=false)->(∀b o,s.heap.get? b=some o->h'.get? b=some o)->h'.get? p=some (seqObj "list" out c)->s.heap.objs.size<=p->out.size<=63->Q (.ref p) { s with heap:=h',toks:=tk,drawn:=d }) :
  wpAny (model prog w) A (call (.builtin "sorted") [v]) Q E s:=by
 refine Calls.call_function_entry XZ X0 XT (args_sorted1 _) ?_;unfold dG.«sorted»;refine ae (m:=checkCount "sorted" 1 1 _) (ai (ae (Zyo _ _ λys h1 tk d k1 hC jD hle=>ae (sk ?_ (by rw[bB];lia)))));have oY:(h1.push (seqObj "list" ys.toArray 0)).get? h1.objs.size=some (seqObj "list" ys.toArray 0):=bE _ rfl;have keep:∀b o,s.heap.get? b=some o->(h1.push (seqObj "list" ys.toArray 0)).get? b=some o:=λb o e=>aG _ (k1 b o e);have Km:∀b o,s.heap.get? b=some o->h1.objs.size≠b:=λb o e=>jR (cW (aM e) hle);change wpAny _ _ _ _ _ { s with heap:=h1.push (seqObj "list" ys.toArray 0),toks:=tk,drawn:=d };refine ae (eW (jW X4 ⟨_,oY,rfl⟩ XS (ZgA (s:={ s with heap:=h1.push (seqObj "list" ys.toArray 0),toks:=tk,drawn:=d }) o oY (by lia) (λh6 k6 h2=>hc ys h6 tk d hC (λb o e=>k6 b o (Km b o e).symm (keep b o e)) h2) λout hp eA=>⟨_,rfl,?_⟩) (args_list_sort _)));generalize h1.push (seqObj "list" ys.toArray 0)=h5 at oY keep;obtain⟨e1,dm⟩:∃e1,(h5.update h1.objs.size (a7 λ_=>#[])).get? h1.objs.size=some (seqObj "list" #[] e1):=⟨_,xS oY (λ_=>#[])⟩;have wj:=aG (seqObj "list" #[] 0) (aG (seqObj "tuple" ys.toArray 0) dm);have wl:out.size<=63:=by rw[<- aU,hp.length_eq];exact jD
 refine ai ⟨_,rfl,q h1.objs.size ys out (sortedHeap h5 h1.objs.size ys out) tk d _ hC hp eA (λb o e=>?_) (xS wj (λ_=>out)) hle wl⟩;unfold sortedHeap;rw[iu _ _ (Km b o e)];refine aG _ (aG _ ?_);rw[iu _ _ (Km b o e)];exact keep b o e
end av
namespace av
open PySem PyProof.Rows
theorem ZfS:typeLookup (.type "list") "keys" = pure none:=by rw[Ga,FX];kernel_rfl
theorem Hv:isSubtype (.type "AttributeError") (.type "AttributeError")=pure true:=by rw[FY];kernel_rfl
section
variable{prog:aC}{w:ay}{A:aI}{E:aa->af->Prop}{h:Heap}{g:Array Mw}{d:mZ}{t:Nat}{os:OsState}{a:Addr}
theorem Zin{α : Type}{Q : α -> af->Prop}{o:aa}{name msg:Str}(hh:A.handled=none)(hm:msg.length<=sizeLine)(hq:∀(x:Addr) (h':Heap) (tk:Nat),(∀b u,h.get? b=some u->h'.get? b=some u)->(∃ob,h'.get? x=some ob/\ob.cls=.type "AttributeError")->h.objs.size<=h'.objs.size->E (.ref x) ⟨h',g,d,tk,os⟩) :
  wpAny (model prog w) A (raiseAttrError o name msg:Sem α) Q E ⟨h,g,d,t,os⟩:=by
 unfold raiseAttrError
 repeat (any_goals (first|assumption|wp_step))
 refine so Hv ?_;rw[ah (by decide)];generalize S5:(if((Manifest.find? "AttributeError").elim false λt=>t.mro.contains "StopIteration" || t.mro.contains "SystemExit")=true then [gE msg t].headD bg else bg)=fa
 have k1:∀b u,h.get? b=some u->(h.push { cls:=dy "tuple",data:=Mt #[gE msg t] }).get? b=some u:=λb u e=>aG _ e;have z1:(h.push { cls:=dy "tuple",data:=Mt #[gE msg t] }).objs.size=h.objs.size+1:=iX ..;generalize h.push { cls:=dy "tuple",data:=Mt #[gE msg t] }=h1 at k1 z1;have e1:(h1.push { cls:=dy "AttributeError",data:=xr (#[aO h.objs.size,bg,bg,bg,jU false,fa]++ownMembersOf (dy "AttributeError") [gE msg t]) }).get? h1.objs.size=some { cls:=dy "AttributeError",data:=xr (#[aO h.objs.size,bg,bg,bg,jU false,fa]++ownMembersOf (dy "AttributeError") [gE msg t]) }:=bE _ rfl;have k2:∀b u,h.get? b=some u->(h1.push { cls:=dy "AttributeError",data:=xr (#[aO h.objs.size,bg,bg,bg,jU false,fa]++ownMembersOf (dy "AttributeError") [gE msg t]) }).get? b=some u:=λb u e=>aG _ (k1 b u e);have z2:(h1.push { cls:=dy "AttributeError",data:=xr (#[aO h.objs.size,bg,bg,bg,jU false,fa]++ownMembersOf (dy "AttributeError") [gE msg t]) }).objs.size=h1.objs.size+1:=iX ..;generalize h1.push { cls:=dy "AttributeError",data:=xr (#[aO h.objs.size,bg,bg,bg,jU false,fa]++ownMembersOf (dy "AttributeError") [gE msg t]) }=h2 at e1 k2 z2;refine ae (Gf e1 ?_);dsimp only;have v6:(#[Value.ref h.objs.size,Value.none,Value.none,Value.none,Value.bool false,fa]++ownMembersOf (dy "AttributeError") [gE msg t])[6]?= some unsetMember:=rfl;have v7:(#[aO h.objs.size,bg,bg,bg,jU false,fa]++ownMembersOf (dy "AttributeError") [gE msg t])[7]?= some unsetMember:=rfl;refine Bx (λeu=>absurd eu (by rw[v6,v7];decide)) (λ_=>Bx (λeu=>absurd eu (by rw[v6,v7];decide)) (λ_=>ai ?_));rw[aj rfl];refine ae (p7 (ae (uW (T := "AttributeError") ⟨_,e1,rfl⟩ ?_)));dsimp only;unfold layMembers;refine wpAny_bind (wpAny_load e1 ?_);dsimp only;refine wpAny_update e1 ?_;unfold raiseNew;refine wpAny_bind (wpAny_handled ?_);rw[hh];refine BC (hq _ _ _ (λb u e=>?_) ?_ ?_)
 ·rw[iu _ _ (show h1.objs.size≠b from λz=>?_)]
  ·exact k2 b u e
  ·have:=aM e;have h3:h1.objs.size<h.objs.size:=z ▸ this;lia
 ·exact⟨_,m_ _ e1 rfl,rfl⟩
 ·rw[xt];show h.objs.size<=h2.objs.size;lia
variable{its:Array aa}{n:Nat}{sl:Array (Option aa)}
theorem YV{tk:Tok}{Q:Fin->af->Prop}(hh:A.handled=none)(hx:h.get? a=some { cls:=.type "list",dict:=none,data:=.seq its n,slots:=sl }) (hq:∀(x:Addr)(h':Heap)(tk:Nat),(∀b u,h.get? b=some u->h'.get? b=some u)->(∃ob,h'.get? x=some ob/\ob.cls=.type "AttributeError")->h.objs.size<=h'.objs.size->E (.ref x) ⟨h',g,d,tk,os⟩) :
  wpAny (model prog w) A (dG.«object.__getattribute__» ⟨[.ref a,.str "keys" tk],[]⟩) Q E ⟨h,g,d,t,os⟩:=by
 have hT:(⟨h,g,d,t,os⟩:af).TypeIs (.ref a) "list" := ⟨_,hx,rfl⟩;have f4:=ZfS
 repeat (any_goals (first|assumption|with_reducible apply Zin hh|wp_step))
 decide +kernel
theorem Y2:typeLookup (.type "list") "__getattr__" = pure none:=by rw[Ga,FX];kernel_rfl
theorem Zeu{tk:Tok}{R:pX->af->Prop}(hh:A.handled=none)(hx:h.get? a=some { cls:=.type "list",dict:=none,data:=.seq its n,slots:=sl }) (hq:∀(x:Addr)(h':Heap)(tk:Nat),(∀b u,h.get? b=some u->h'.get? b=some u)->(∃ob,h'.get? x=some ob/\ob.cls=.type "AttributeError")->h.objs.size<=h'.objs.size->R (.error (.ref x)) ⟨h',g,d,tk,os⟩) :
  codeAny (model prog w) A (.call (.builtin "list.__getattribute__") ⟨[.ref a,.str "keys" tk],[]⟩) R ⟨h,g,d,t,os⟩ :=
 XG E_.plain F.entry_list_ga (E_.check _ _ _ _ _ _ _ _ (show(⟨h,g,d,t,os⟩:af).TypeIs (.ref a) "list" from⟨_,hx,rfl⟩) (F.args_list_getattribute_2 _ _) (YV hh hx hq))
theorem ZfQ{tk:Tok}{Q:aa->af->Prop}(hh:A.handled=none)(hx:h.get? a=some { cls:=.type "list",dict:=none,data:=.seq its n,slots:=sl }) (hq:∀(x:Addr)(h':Heap)(tk:Nat),(∀b u,h.get? b=some u->h'.get? b=some u)->(∃ob,h'.get? x=some ob/\ob.cls=.type "AttributeError")->h.objs.size<=h'.objs.size->E (.ref x) ⟨h',g,d,tk,os⟩) :
  wpAny (model prog w) A (getAttrBy (.ref a) (.str "keys" tk) false) Q E ⟨h,g,d,t,os⟩:=by
 have hT:(⟨h,g,d,t,os⟩:af).TypeIs (.ref a) "list" := ⟨_,hx,rfl⟩;have f2:=E_.lookup;have f3:=E_.bind (.ref a);have f4:=Y2
 repeat (any_goals (first|assumption|wp_step))
 refine Zeu hh hx λx h' yp k1 k2 k3=>?_;obtain⟨ob,e2,c2⟩:=k2;dsimp only;unfold getattributeRaised;refine ae (x_ (T := "AttributeError") (b:=true) ⟨ob,e2,c2⟩ Hv ?_);rw[aj rfl];unfold hookBehind;rw[ah (by decide)];refine ae (so f4 ?_);unfold hookOrError attributeErrorLeaves;dsimp only;rw[if_pos (by decide)];exact ae (BC (hq x h' yp k1 ⟨ob,e2,c2⟩ k3))
theorem ZH{Q:Option aa->af->Prop}(hh:A.handled=none)(hx:h.get? a=some { cls:=.type "list",dict:=none,data:=.seq its n,slots:=sl }) (hq:∀(h':Heap)(tk:Nat),(∀b u,h.get? b=some u->h'.get? b=some u)->h.objs.size<=h'.objs.size->Q none ⟨h',g,d,tk,os⟩) :
  wpAny (model prog w) A (getAttr? (.ref a) "keys") Q E ⟨h,g,d,t,os⟩:=by
 unfold getAttr? getAttrBy?
 repeat (any_goals (first|assumption|with_reducible apply ZfQ hh hx|wp_step))
 intro x h' yp k1 k2 k3;obtain⟨ob,e2,c2⟩:=k2;dsimp only;refine ae (x_ (T := "AttributeError") (b:=true) ⟨ob,e2,c2⟩ Hv ?_);rw[aj rfl];exact ai (hq h' yp k1 k3)
end
theorem N6:entryFor table "dict.update.loop" = some dG.«dict.update.loop» := XQ (by kernel_rfl)
theorem Z6:plainId "dict.update.loop" = true:=by decide +kernel
section
variable{prog:aC}{w:ay}{K:Type}[DecidableEq K]{knd:KeyKind prog w K}{A:aI}{E:aa->af->Prop}{R:pX->af->Prop}
def Jg(knd:KeyKind prog w K)(h:Heap)(v:aa)(k:K)(u:aa):Prop := ∃b o n uk,v=.ref b/\h.get? b=some o/\o.cls=.type "tuple" /\ o.data=.seq #[uk,u] n/\knd.is k uk=true
def Qc(knd:KeyKind prog w K)(h0:Heap)(d:Addr)(items:Array aa)(ps:List (K×aa)):Prop:=items.size=ps.length/\∀(i:Nat) v p,items[i]?= some v->ps[i]?= some p->∀h:Heap,(∀b o,b<d->h0.get? b=some o->h.get? b=some o)->Jg knd h v p.1 p.2
theorem pair_items{s:af}{v:aa}{k:K}{u:aa}{Q:List aa->af->Prop}(hp:Jg knd s.heap v k u)(q:∀uk,knd.is k uk=true->Q [uk,u] s):wpAny (model prog w) A (VA v) Q E s:=by
 obtain⟨b,o,n,uk,rfl,ho,hc,hd,hk⟩:=hp;unfold VA;refine ae (uW (T := "tuple") ⟨o,ho,hc⟩ ?_);rw[aj (by decide)];refine ae (Bz ho hd (ai (q uk hk)))
variable{l:Addr}
set_option maxHeartbeats 1000000 in
theorem Zkn{h0:Heap}{D I:Addr}{items:Array aa}{ps:List (K×aa)}(hh:A.in1.handled=none)(ht:Qc knd h0 D items ps)(zF:D<I)(KQ:l≠I)(hn:items.size<=100000):∀(k i:Nat)(j:Int)(jt:Tok)(s:af),items.size-i=k->i<=items.size->(s.heap.IsListIter I l i/\s.heap.IsList l items)->l<D->s.heap.DictOf knd D (merged [] (ps.take i))->(∀b o,b<D->h0.get? b=some o->s.heap.get? b=some o) ->
   (∀h' tk,h'.DictOf knd D (merged [] ps)->(∀b o,b<D->h0.get? b=some o->h'.get? b=some o)->R (.ok (.ret .none)) { s with heap:=h',toks:=tk })->codeAny (model prog w) A (.builtin "dict.update.loop" ⟨[.ref D,.ref I,.int j jt,.none],[]⟩) R s:=by
 have W:=XE (prog:=prog) (w:=w) (A:=A.in1) hh I l KQ items;have DK:∀{h h':Heap}{ab:List (K×aa)},h.DictOf knd D ab->(∀b o,b<=D->h.get? b=some o->h'.get? b=some o)->h'.DictOf knd D ab:=λ{h h' ab} ⟨o,es,ep,ho,r⟩ hk=>⟨o,es,ep,hk D o (ax _) ho,r⟩;intro k
 induction k with
 | zero =>
  intro i j jt s hk hi bu vZ hd hb hR;obtain rfl:i=items.size:=by lia
  refine gb N6 ?_;rw[lS Z6 _];change wpAny _ A.in1 (pyNext (.ref I) >>= _) _ _ s;refine ae (W.done s _ _ bu λh' tk hm=>?_);change wpAny _ A.in1 (Vz D [] >>= λ_=>ret bg) _ _ _;refine ae ?_;unfold Vz;refine ai (ai ?_);rw[ht.1,cU] at hd;exact hR h' tk (DK hd λb o cg e=>hm b o (λz=>eU _ (xI (ao.mp z ▸ cg) zF)) e) λb o cg e=>hm b o (λz=>eU _ (nB (ao.mp z ▸ cg) zF)) (hb b o cg e)
 | succ k ih =>
  intro i j jt s hk hi bu vZ hd hb hR;have aB:i<items.size:=by lia
  refine gb N6 ?_;rw[lS Z6 _];change wpAny _ A.in1 (pyNext (.ref I) >>= _) _ _ s;refine ae (W.item i s _ _ aB bu λv h' tk hP qa hm=>?_);have i9:h'.DictOf knd D (merged [] (ps.take i)):=DK hd λb o cg e=>hm b o (λz=>eU _ (xI (ao.mp z ▸ cg) zF)) e;have eO:∀b o,b<D->h0.get? b=some o->h'.get? b=some o:=λb o cg e=>hm b o (λz=>eU _ (nB (ao.mp z ▸ cg) zF)) (hb b o cg e);have bD:i<ps.length:=by have:=ht.1;lia
  have hp:=ht.2 i v ps[i] hP (bO bD) h' eO;refine ae (eW (ae (su (pair_items (s:={ s with heap:=h',toks:=tk }) hp λuk huk=>?_))));dsimp only;have uc:(merged [] (ps.take i)).length<=sizeLine:=by
   have:=merged_length_le ([]:List (K×aa)) (ps.take i);rw[iy] at this;have h0l:([]:List (K×aa)).length=0:=rfl;have:=ht.1;rw[bB];lia
  refine eW (wpAny_dictSet_pairs (s:={ s with heap:=h',toks:=tk }) (hsz:=uc) huk i9 λh2 hd2 sb=>?_);have gN:∀b o,b≠D->h'.get? b=some o->h2.get? b=some o:=λb o hb e=>(sb.2 b hb).trans e;refine ai ⟨jV Z6 _,ih (i+1) (j+1) 0 _ (by lia) aB ?_ vZ ?_ (λb o cg e=>gN b o (bc cg) (eO b o cg e)) λh3 pE Li Kj=>hR h3 pE Li Kj⟩
  ·refine W.frame _ h' h2 qa λb hb o e=>gN b o (λz=>?_) e;simp only[aV,ny,p5] at hb;rcases hb with rfl|rfl
   ·exact eU _ (z ▸ zF)
   ·exact eU _ (z ▸ vZ)
  ·rw[merged_take_succ [] ps i ps[i] (bO bD)];exact hd2
set_option maxHeartbeats 1000000 in
theorem YW{s:af}{items:Array aa}{n:Nat}{sl:Array (Option aa)}{ps:List (K×aa)}{Q:aa->af->Prop}(hh:A.handled=none)(hl:s.heap.get? l=some { cls:=.type "list",dict:=none,data:=.seq items n,slots:=sl }) (ht:Qc knd s.heap s.heap.objs.size items ps) (hn:items.size<=100000)
  (q:∀(h':Heap)(tk:Nat),h'.DictOf knd s.heap.objs.size (merged [] ps)->(∀b o,s.heap.get? b=some o->h'.get? b=some o)->Q (.ref s.heap.objs.size) { s with heap:=h',toks:=tk }) :
  wpAny (model prog w) A (call (.type "dict") [.ref l]) Q E s:=by
 refine callType_codes (Q₁ := λobj aT=>obj=.ref s.heap.objs.size/\aT = { s with heap:=s.heap.push { cls:=.type "dict",data:=.dict #[] } }) F.kt_called_dict (F.kt_typeCall_dict_1 _) F.entry_dict_init (kt_code_dict_new _ ⟨rfl,rfl⟩) ?_;rintro obj aT ⟨rfl,rfl⟩;have oX:(s.heap.push { cls:=.type "dict",data:=.dict #[] }).DictOf knd s.heap.objs.size []:=V0 s.heap;have b_:(s.heap.push { cls:=.type "dict",data:=.dict #[] }).get? l=some { cls:=.type "list",dict:=none,data:=.seq items n,slots:=sl }:=aG _ hl;have vZ:l<s.heap.objs.size:=aM hl;have k0:∀b o,b<s.heap.objs.size->s.heap.get? b=some o->(s.heap.push { cls:=.type "dict",data:=.dict #[] }).get? b=some o:=λb o _ e=>aG _ e;have z0:(s.heap.push { cls:=.type "dict",data:=.dict #[] }).objs.size=s.heap.objs.size+1:=iX ..;refine⟨oX.typeIs,F.args_dict_init_2 _ _,?_⟩;generalize s.heap.push { cls:=.type "dict",data:=.dict #[] }=h1 at oX b_ k0 z0;unfold dG.«dict.__init__»;refine ae ?_;unfold ZBO;refine ae (NI oX.typeIs ?_);show wpAny _ _ (pure (s.heap.objs.size,[aO l])) _ _ _;refine ai ?_;show wpAny _ _ (VB "dict.__init__" s.heap.objs.size (.ref l) [] .none) _ _ _;unfold VB;refine ae (uW (T := "list") ⟨_,b_,rfl⟩ ?_);rw[aj (by decide)];refine ae (ZH hh b_ λh2 L' k2 z2=>?_);rw[aj (show(none:Option aa).isNone=true from rfl)];refine ae (p7 ?_);have vX:=k2 _ _ b_;have oH:h2.IsList l items:=⟨_,vX,rfl,n,rfl⟩;refine ae (By oH ?_);have hd2:h2.DictOf knd s.heap.objs.size []:=let ⟨o,es,ep,ho,r⟩:=oX;⟨o,es,ep,k2 _ _ ho,r⟩;have S1:(h2.push { cls:=.type "list_iterator",data:=.fields #[.ref l,.int 0 0] }).DictOf knd s.heap.objs.size []:=hd2.push _;have hsz:s.heap.objs.size<h2.objs.size:=by lia
 refine ai ⟨jV Z6 _,?_⟩;refine Zkn (knd:=knd) (h0:=s.heap) (by simpa using hh) ht hsz (bc (nB vZ hsz)) hn (items.size-0) 0 0 0 _ rfl (bz _) ⟨⟨_,bE _ rfl,rfl,rfl⟩,oH.push _⟩ vZ S1 (λb o hb e=>aG _ (k2 _ _ (k0 b o hb e))) λh' tk i9 cg=>?_;exact⟨rfl,q h' tk i9 λb o e=>cg b o (aM e) e⟩
end
end av
namespace L2
open PySem PySem.Spec PyProof.Rows PySem.W
def putAll(ab:List (Key×V)):List (Key×V):=ab.foldl (λm kv=>putK m kv.1 kv.2) []
theorem N9:∀(ab m:List (Key×V)),(ab.foldl (λm kv=>putK m kv.1 kv.2) m).length<=m.length+ab.length
 | [],m=>ax _
 | kv::ab,m=>by
  have h1:=N9 ab (putK m kv.1 kv.2);have h2:=yH m kv.1 kv.2;rw[bI,MI];lia
theorem HK(ab:List (Key×V)):(putAll ab).length<=ab.length:=by
 have:=N9 ab [];rw[lX,nD] at this;exact this
theorem Q0:∀{ab:List (Key×V)}{ps:List (Key×aa)}{m:List (Key×V)}{m':List (Key×aa)},KV ab ps->KV m m'->KV (ab.foldl (λm kv=>putK m kv.1 kv.2) m) (merged m' ps)
 | _,_,_,_,.nil,h=>h
 | _,_,m,m',.cons (a:=kv) (b:=p) r t,h=>by
  have e:p.1=kv.1:=r.1.symm;have h1:=h.put kv.1 r.2;have h2:=Q0 t h1;show KV (Fn _ (putK m kv.1 kv.2) _) (merged (stored m' p.1 p.2) _);rw[e];exact h2
variable{X:Cx}
theorem BV(hc:X.calm=true):hX X (.type "dict") (λxs H Q=>∃l ys ab,xs=[.ref l]/\ag X.K H l ys/\ys.length<=90000/\aN (λ(y:V)(kv:Key×V)=>∃t,y=.ref t/\H t=some (.tup [kV kv.1,kv.2])) ys ab/\∀d,H d=none->Q (.ref d) (upd H d (.dK (putAll ab)))):=by
 intro pins s σ H xs us Q I r h;obtain⟨l,ys,ab,rfl,hq,hlen,hp,q⟩:=h;obtain⟨u,rfl,ru⟩:=vals1 r;cases ru;obtain⟨its,rv,⟨o,n,ho,UX,UZ,UY⟩,hz⟩:=I.list hq;have hl:=rv.length;obtain⟨ZAJ,U0,ZAK,U1⟩:=o;simp only at UX UZ UY;subst UX UZ UY;have key:∀{ys:List V}{ab:List (Key×V)}{its:List aa},aN (λ(y:V)(kv:Key×V)=>∃t,y=.ref t/\H t=some (.tup [kV kv.1,kv.2])) ys ab->Vals ys its->∃ps:List (Key×aa),KV ab ps/\its.length=ps.length/\∀(i:Nat) v p,its[i]?= some v->ps[i]?= some p->av.Jg (ZF X.prog X.w) s.heap v p.1 p.2:=by
  intro ys ab its hp
  induction hp generalizing its with
  | nil =>
   intro rv;cases rv;exact⟨[],.nil,rfl,λi v p h=>(nomatch h)⟩
  | @cons y kv ys ab r t ih =>
   intro rv;cases rv with
   | @cons _ v _ its ry rr =>
    obtain⟨ps,h1,h2,h3⟩:=ih rr;obtain⟨ta,rfl,ht⟩:=r;obtain rfl:v=aO ta:=ry;obtain⟨_,us,gu,o,ho,gX,n,hd⟩:=I.ak ta _ ht;obtain⟨u1,u2,rfl,r1,r2⟩:=Vals.two gu;refine⟨(kv.1,u2)::ps,.cons ⟨rfl,r2⟩ h1,by rw[bI,bI,h2],λi v p e1 e2=>?_⟩;cases i with
    | zero =>
     injection e1 with e1;injection e2 with e2;subst e1 e2;exact⟨ta,o,n,u1,rfl,ho,gX,hd,qA r1⟩
    | succ i=>exact h3 i v p e1 e2
 obtain⟨ps,h1,h2,h3⟩:=key hp rv;refine av.YW (knd:=ZF X.prog X.w) (ps:=ps) (I.ok.hd hc) ho ⟨by rw[bp];exact h2,λi v p e1 e2 h' hk=>?_⟩ (by rw[bp];lia) λh' tk i9 hk=>?_
 ·obtain⟨b,o,n,uk,e,cJ,r⟩:=h3 i v p (by rw[<- e1];simp) e2;exact⟨b,o,n,uk,e,hk b o (aM cJ) cJ,r⟩
 ·have cO:ab.length=ps.length:=h1.length;have bD:=HK ab;exact⟨.ref _,_,I.laid (t':=tk) (λb o e=>hk b o e) (ax _) (show Z7 X.prog X.w _ h' _ (.dK (putAll ab)) from⟨by rw[bB];lia,nG.mpr (gS (bc I.big)),_,Q0 h1 .nil,i9⟩),rfl,q _ (I.ak.fresh (ax _))⟩
theorem Zi9{zs:List V}{ns:List Int}(h:zs.Perm (ns.map V.int)):∃ms:List Int,zs=ms.map V.int/\ms.Perm ns:=by
 obtain⟨ms,rfl,_⟩:=Pp zs λz hz=>h.mem_iff.mp hz;refine⟨ms,rfl,?_⟩;have h2:=h.filterMap (λv=>match v with|V.int i=>some i|_=>none)
 simpa[List.filterMap_map,Function.comp_def] using h2
theorem ZkM:∀{vs:List V}{us:List aa},Vals vs us->∀v∈vs,∃u∈us,RelV v u:=λh u hu=>aN.LB h hu
theorem rising:∀{ms:List Int}{us:List aa},Vals (ms.map V.int) us->us.Pairwise (λu v=>av.rp v u=false)->ms.Pairwise (· <= ·)
 | [],_,_,_=>.nil
 | m::ms,us,r,h=>by
  cases r with
  | cons r rr =>
   obtain⟨t,rfl⟩:=r;obtain⟨h1,h2⟩:=Bi.mp h;refine Bi.mpr ⟨λm' hm=>?_,rising rr h2⟩;obtain⟨u,hu,ru⟩:=ZkM rr (V.int m') (a6.mpr ⟨m',hm,rfl⟩);obtain⟨t',rfl⟩:=ru;have:=l_ (h1 _ hu);have h3 : ¬ m'<m:=this;lia
theorem ZA5{ms:List Int}(h:ms.Pairwise (· <= ·))(hn:ms.Nodup):ms.Pairwise (· < ·):=by
 refine nA.mpr λi j hi hj kD=>?_;have h1:=(nA.mp h) i j hi hj kD;have h2:=(nA.mp hn) i j hi hj kD;lia
theorem Zj3{P:aC}{w:ay}{ab:List (Key×V)}{ps:List (Key×aa)}(h:KV ab ps):∀{es:List jO}{ns:List Int},Xc (ZF P w) es ps->ab.map (·.1)=ns.map aA->Vals (ns.map V.int) (es.map (·.key)):=by
 have h':aN (λ(p:Key×V)(q:Key×aa)=>p.1=q.1/\RelV p.2 q.2) ab ps:=h;clear h
 induction h' with
 | nil =>
  intro es ns h2 e;cases h2;cases ns with
  | nil=>exact .nil
  | cons n ns=>cases e
 | cons r t ih =>
  intro es ns h2 e;cases h2 with
  | cons h1 h2 h3 =>
   cases ns with
   | nil=>cases e
   | cons n ns =>
    rw[ck,ck] at e;obtain⟨e1,e2⟩:=uI e;refine .cons ?_ (ih h3 e2);rw[<- r.1,e1] at h1;have nJ:oo (aA n) _=true:=h1;rcases ZZ nJ with⟨i,t,he,hk⟩|⟨x,t,he,hk⟩
    ·cases he;exact⟨t,hk⟩
    ·cases he
theorem QH:∀{ab:List (Key×V)}{vs:List (Key×aa)},KV ab vs->ab.map (·.1)=vs.map (·.1)
 | _,_,.nil=>rfl
 | _,_,.cons r t=>by rw[ck,ck,r.1,QH t]
theorem Y3(hc:X.calm=true):hX X (.builtin "sorted") (λxs H Q=>∃(d:Addr)(ab:List (Key×V))(ns:List Int),xs=[.ref d]/\H d=some (.dK ab)/\ab.length<=63/\ab.map (·.1)=ns.map aA/\∀(p:Addr)(ms:List Int),H p=none->ms.Perm ns->ms.Pairwise (· < ·)->Q (.ref p) (upd H p (.lst (ms.map V.int)))):=by
 intro pins s σ H xs us Q I r h;obtain⟨d,ab,ns,rfl,hd,hlen,iQ,q⟩:=h;obtain⟨u,rfl,rx⟩:=vals1 r;obtain rfl:u=.ref d:=rx;obtain⟨hl,lo,vs,kv,o,es,ep,ho,hx,fU,Tp,q_,cI⟩:=zg I.ak hd;have rj:=Zj3 kv q_ iQ;have cO:ab.length=vs.length:=kv.length;have TL:ab.length=ns.length:=by have:=congrArg fA iQ;simpa using this
 have mN:es.size=ns.length:=by
  have:=rj.length
  simpa using this.symm
 have Zy2:ns.Nodup:=by
  rw[<- QH kv,iQ] at cI;exact(jQ.mp cI).imp λh e=>h (by rw[e])
 refine av.B2 (C:=λys=>Vals (ns.map V.int) ys) av.Qm (λQ' E' hq=>?_) (λys h6 tk d6 hC k6 h2=>av.N7 (λv hv=>?_) h2) λp ys out h' tk d6 c hC c9 eA kp e3 hle kH=>?_
 ·refine av.Oh (yV lo) (I.ok.hd hc) (⟨o,ho,hx,fU⟩:hZ s.heap d es ep) (by rw[bB];lia) λacc h' tk kp hit hle=>?_;have jr:acc.toList=es.toList.map (·.key):=by
   refine Bf λj=>?_;rw[jM,bW,jM];cases hj:acc[j]? with
   | none =>
    have h3:acc.size<=j:=E2.mp hj;rw[hit.1] at h3;rw[rP h3];rfl
   | some v =>
    obtain⟨e,h1,rfl⟩:=hit.2 j v hj;rw[h1];rfl
  rw[jr];exact hq _ h' tk s.drawn kp rj (by rw[ar,aU];lia) hle
 ·obtain⟨y,hy,ry⟩:=Ck hC v hv;obtain⟨i,_,rfl⟩:=a6.mp hy;obtain⟨t,rfl⟩:=ry;exact⟨i,t,rfl⟩
 ·obtain⟨zs,pz,rz⟩:=Zjf c9 hC;obtain⟨ms,rfl,pm⟩:=Zi9 pz;have iR:=rz.length;have I2:=I.laid (h':=h') (t':=tk) (a:=p) (o:=.lst (ms.map V.int)) (λb o e=>kp b o e) hle (show Z7 X.prog X.w _ h' _ (.lst (ms.map V.int)) from⟨by rw[iR,aU,bB];lia,out.toList,c,rz,e3⟩);exact⟨.ref p,_,I2.draws (d:=d6),rfl,q p ms (I.ak.fresh hle) pm (ZA5 (rising rz eA) ((pm.nodup_iff).mpr Zy2))⟩
end L2
namespace av
open PySem PyProof.Rows sN PySem.W
structure fR{α : Type}(lt : α -> α -> Bool):Prop where
 uq:∀a,lt a a=false
 trans:∀a b c,lt a b=true->lt b c=true->lt a c=true
 A0:∀a b,lt a b=false->lt b a=false->a=b
section
variable{α β : Type}{lt : α -> α -> Bool}{mT : β -> β -> Bool}
theorem fR.mI(o:fR lt){a b : α}(h:lt a b=true):lt b a=false:=by
 cases e:lt b a with
 | false=>rfl
 | true =>
  have:=o.trans a b a h e;rw[o.uq] at this;cases this
theorem fR.neg(o:fR lt){x y z : α}(h1:lt x y=false)(h2:lt y z=false):lt x z=false:=by
 cases e:lt x z with
 | false=>rfl
 | true =>
  cases e2:lt y x with
  | true=>rw[o.trans y x z e2 e] at h2;cases h2
  | false =>
   have:=o.A0 x y h1 e2;subst this;rw[e] at h2;cases h2
theorem fR.L6(o:fR lt)(f:aa -> α):yC λx y=>lt (f x.1) (f y.1):=⟨λ_ _ h=>o.mI h,λ_ _ _ h1 h2=>o.neg h1 h2⟩
def ox[DecidableEq α](lt : α -> α -> Bool)(mT : β -> β -> Bool)(x y : α × β):Bool:=lt x.1 y.1 || (decide (x.1=y.1)&&mT x.2 y.2)
theorem fR.lex[DecidableEq α](o:fR lt)(o2:fR mT):fR (ox lt mT) where
 uq:=λa=>by unfold ox;rw[o.uq,o2.uq];simp
 trans:=λa b c h1 h2=>by
  unfold ox at *;simp only[E3,gA,fB] at *;rcases h1 with h1|⟨e1,h1⟩
  ·rcases h2 with h2|⟨e2,h2⟩
   ·exact .inl (o.trans _ _ _ h1 h2)
   ·exact .inl (e2 ▸ h1)
  ·rcases h2 with h2|⟨e2,h2⟩
   ·exact .inl (e1.symm ▸ h2)
   ·exact .inr ⟨e1.trans e2,o2.trans _ _ _ h1 h2⟩
 A0:=λa b h1 h2=>by
  unfold ox at *;simp only[Bool.or_eq_false_iff,Bool.and_eq_false_imp,fB] at *;have e1:=o.A0 _ _ h1.1 h2.1;have e2:=o2.A0 _ _ (h1.2 e1) (h2.2 e1.symm);exact MZ e1 e2
theorem vn:fR λa b:Int=>decide (a<b):=⟨λa=>by simp,λa b c h1 h2=>by simp only[fB] at *;lia,λa b h1 h2=>by simp only[decide_eq_false_iff_not] at *;lia⟩
theorem Om:∀a b:List Nat,¬ a<b -> ¬ b<a->a=b
 | [],[],_,_=>rfl
 | [],b::bs,h,_=>absurd (MN b bs) h
 | a::as,[],_,h=>absurd (MN a as) h
 | a::as,b::bs,h1,h2=>by
  rw[MG] at h1 h2;have e:a=b:=by
   rcases MT a b with z|z|z
   ·exact absurd (.inl z) h1
   ·exact z
   ·exact absurd (.inl z) h2
  subst e;rw[Om as bs (λz=>h1 (.inr ⟨rfl,z⟩)) (λz=>h2 (.inr ⟨rfl,z⟩))]
theorem yI:∀a:List Nat,¬ a<a
 | [],h=>by cases h
 | a::as,h=>by
  rw[MG] at h;rcases h with h|⟨_,h⟩
  ·lia
  ·exact yI as h
theorem Oc:∀a b c:List Nat,a<b->b<c->a<c
 | [],_,[],_,h2=>by cases h2
 | [],_,c::cs,_,_=>MN c cs
 | a::as,[],_,h1,_=>by cases h1
 | a::as,b::bs,[],_,h2=>by cases h2
 | a::as,b::bs,c::cs,h1,h2=>by
  rw[MG] at *;rcases h1 with h1|⟨e1,h1⟩
  ·rcases h2 with h2|⟨e2,h2⟩
   ·exact .inl (by lia)
   ·exact .inl (by lia)
  ·rcases h2 with h2|⟨e2,h2⟩
   ·exact .inl (by lia)
   ·exact .inr ⟨by lia,Oc as bs cs h1 h2⟩
theorem Zm8{x y:Str}(h:x.cps.toList=y.cps.toList):x=y:=by
 cases x;cases y
 congr 1
 exact Vv.mp h
theorem Qn:fR λa b:Str=>decide (a.cps.toList<b.cps.toList):=⟨λa=>bx (yI _),λa b c h1 h2=>aP (Oc _ _ _ (bK h1) (bK h2)),λa b h1 h2=>Zm8 (Om _ _ (l_ h1) (l_ h2))⟩
end
abbrev Qd:=Int×Str×Int×Int
def ph:Qd->Qd->Bool:=ox (λa b:Int=>decide (a<b)) (ox (λa b:Str=>decide (a.cps.toList<b.cps.toList)) (ox (λa b:Int=>decide (a<b)) λa b:Int=>decide (a<b)))
theorem Qg:fR ph:=vn.lex (Qn.lex (vn.lex vn))
def g7(h:Heap)(v:aa)(q:Qd):Prop := ∃a o t u t2 t3 n,v=.ref a/\h.get? a=some o/\o.cls=.type "tuple" /\ o.data=.seq #[.int q.1 t,.str q.2.1 u,.int q.2.2.1 t2,.int q.2.2.2 t3] n
variable{h:Heap}{v:aa}{q:Qd}
theorem g7.inj{q':Qd}(x:g7 h v q)(y:g7 h v q'):q=q':=by
 obtain⟨a,o,t,u,t2,t3,n,rfl,h1,_,h3⟩:=x;obtain⟨a',o',t',u',uZ,YB,n',e,nJ,_,eX⟩:=y;cases e;rw[h1] at nJ;cases nJ;rw[h3] at eX;obtain⟨q1,q2,q3,q4⟩:=q;obtain⟨r1,r2,r3,r4⟩:=q';simp only[VM,Vr,V8,Xy,gE.injEq,and_true] at eX;obtain⟨⟨⟨e1,_⟩,⟨e2,_⟩,⟨e3,_⟩,⟨e4,_⟩⟩,_⟩:=eX;rw[e1,e2,e3,e4]
theorem g7.keep{h':Heap}(x:g7 h v q)(k:∀b o,h.get? b=some o->h'.get? b=some o):g7 h' v q:=by
 obtain⟨a,o,t,u,t2,t3,n,rfl,h1,r⟩:=x;exact⟨a,o,t,u,t2,t3,n,rfl,k _ _ h1,r⟩
open Classical in
noncomputable def kq(h:Heap)(v:aa):Qd:=if x:∃q,g7 h v q then x.choose else(0,FV,0,0)
theorem CY(x:g7 h v q):kq h v=q:=by
 unfold kq;rw[dif_pos ⟨q,x⟩];exact(VN (⟨q,x⟩:∃q,g7 h v q)).inj x
theorem Qa{h:Heap}:∀{vs:List aa},(∀v∈vs,∃q,g7 h v q)->∃fs,KatTups h vs fs/\fs.length=vs.length/\∀f∈fs,∃i t,f=.int i t
 | [],_=>⟨[],trivial,rfl,λ_ h=>nomatch h⟩
 | v::vs,hv=>by
  obtain⟨q,a,o,t,u,t2,t3,n,rfl,ho,hc,hd⟩:=hv v (aZ ..);obtain⟨fs,kt,hl,hf⟩:=Qa (vs:=vs) λx hx=>hv x (bM _ hx);refine⟨.int q.1 t::fs,V6 ho hc hd rfl kt,by simp[hl],λf hm=>?_⟩;rcases aV.mp hm with rfl|hm
  ·exact⟨_,t,rfl⟩
  ·exact hf f hm
variable{prog:aC}{w:ay}{A:aI}{s:af}
theorem Zf5{h0:Heap}{vs:List aa}(hv:∀v∈vs,∃q,g7 h0 v q)(k0:∀b o,h0.get? b=some o->s.heap.get? b=some o)(h2:2<=vs.length):sS prog w A (λu v=>ph (kq h0 u) (kq h0 v)) vs s:=by
 have nK:∀v∈vs,∃q,g7 s.heap v q:=λv hm=>let ⟨q,x⟩:=hv v hm;⟨q,x.keep k0⟩;obtain⟨fs,k,hl,hf⟩:=Qa nK;refine⟨tuples' true,λQ E hq=>?_,?_⟩
 ·refine kat_kind (T:=.type "int") k (by lia) (λv hm=>?_) rfl hq;obtain⟨i,t,rfl⟩:=hf v hm;exact Fx rfl
 ·intro x y hx hy E;rw[xX] at hx hy;obtain⟨q,xq⟩:=hv _ (kU hx).2;obtain⟨q',yq⟩:=hv _ (kU hy).2;have e1:(λx y:cX=>ph (kq h0 x.1) (kq h0 y.1)) x y=ph q q':=by
   show ph (kq h0 x.1) (kq h0 y.1)=_;have Eg:=(kU hx);have hy1:=(kU hy);rw[CY xq,CY yq]
  rw[e1];obtain⟨a,o,t,u,t2,t3,n,e,ho,hc,hd⟩:=xq.keep k0;obtain⟨a',o',t',u',uZ,YB,n',e',i_,gX,i9⟩:=yq.keep k0;rw[e,e'];obtain⟨q1,q2,q3,q4⟩:=q;obtain⟨r1,r2,r3,r4⟩:=q';refine kat_lt ho hd i_ i9 ?_;have Mc:ph (q1,q2,q3,q4) (r1,r2,r3,r4)=(decide (q1<r1) || (decide (q1=r1)&&(decide (q2.cps.toList<r2.cps.toList) || (decide (q2=r2)&&(decide (q3<r3) || (decide (q3=r3)&&decide (q4<r4))))))):=rfl;rw[Mc];refine xT (x9 (xU (λc1=>xW ?_) (λc1=>xV ?_)))
  ·have i0:q1=r1:=eq_of_beq c1;refine xT (X_ (xU (λc2=>xW ?_) (λc2=>xV ?_)))
   ·have yd:q2=r2:=bK c2;refine xT (x9 (xU (λc3=>xW ?_) (λc3=>xV ?_)))
    ·have BE:q3=r3:=eq_of_beq c3;refine xT (x9 (xU (λc4=>xW (kat_nil ⟨rfl,?_⟩)) (λc4=>xV ?_)))
     ·have Gv:q4=r4:=eq_of_beq c4;subst i0 yd BE Gv;rw[bx (yI q2.cps.toList)];simp
     ·refine FZ _ _ (NG ⟨rfl,?_⟩);subst i0 yd BE;rw[bx (yI q2.cps.toList)];simp
    ·refine FZ _ _ (NG ⟨rfl,?_⟩);have BE : ¬ q3=r3:=λz=>by rw[z] at c3;simp at c3
     subst i0 yd;rw[bx (yI q2.cps.toList)];simp[BE]
   ·refine FZ _ _ (ZCf ⟨rfl,?_⟩);have yd : ¬ q2=r2:=l_ c2;subst i0;simp[yd]
  ·refine F0 ⟨rfl,?_⟩;have i0 : ¬ q1=r1:=λz=>by rw[z] at c1;simp at c1
   simp[i0]
end av
namespace qj
open PySem PyProof.Rows PySem.W k_
theorem Zje(es:Array (Int×aa)):(c_ es.size).map (λj=>(es.getD j (0,.none)).2)=es.toList.map (·.2):=by
 refine Bf λi=>?_;rw[bW,bW];by_cases hi:i<es.size
 ·rw[List.getElem?_range hi,jM,lT hi];simp[kO,hi]
 ·rw[Bh (by rw[nq];lia),Bh (by rw[aU];lia)];rfl
variable{prog:aC}{w:ay}{A:aI}{E:aa->af->Prop}{s:af}{S:Addr}{es:Array (Int×aa)}{ep:Nat}
set_option maxHeartbeats 1000000 in
theorem ZmC{o:Obj}{t:bQ}{Q:aa->af->Prop}(ho:s.heap.get? S=some o)(hx:o.ExactSet)(hd:o.data=.set es ep t)(hT:Tab es t)(kF:t.led=CS w)(hn:es.size<=900)
  (q:∀(I T:Addr)(ys:List aa)(h':Heap)(d:mZ),(∀b o,s.heap.get? b=some o->h'.get? b=some o)->nV w h' I S T es ep t ys 0->ys.length=es.size->S≠I->T≠I->ys.Perm (es.toList.map (·.2))->s.heap.objs.size<=I->(T=S\/s.heap.objs.size<=T)->Q (.ref I) { s with heap:=h',drawn:=d }) :
  wpAny (model prog w) A (pyIter (.ref S)) Q E s:=by
 have rh:s.TypeIs (.ref S) "set" := ⟨o,ho,hx.1⟩;have hf:=hT.fits;refine Gh rh W_ (jW W_ rh ZfO ?_ (PySem.F.args_set_iter_1 _));unfold dG.«frozenset.__iter__»;refine ae ?_;unfold ZBT;refine ae (ai ?_);change wpAny _ A.in1 (pure S) _ _ s;refine ai (ae ?_);unfold ZBS;refine ae (IL ho hd hf (ai (ae (Znp ho hd hf ?_))));have Sd:∀{s1:af}{Q1:Nat->af->Prop}{E1:aa->af->Prop},s1.heap.get? S=some o->Q1 ep s1->wpAny (model prog w) A.in1 (setEpoch S) Q1 E1 s1:=λdm h=>by
  unfold setEpoch;exact ae (sq dm hd hf (ai h))
 cases tW:(!w.params.followText "set-order" && (!t.plain&&decide (es.size > 1))) with
 | true =>
  rw[aj rfl];have Kz:w.params.followText "set-order" = false:=by
   cases hc:w.params.followText "set-order" with
   | false=>rfl
   | true=>rw[hc] at tW;cases tW
  refine ae (QF es.size (c_ es.size) s nq λperm d hp=>?_);have bD:perm.length=es.size:=by rw[hp.length_eq,nq]
  refine ae (Gg ?_ (by rw[ar,bD,bB];lia));dsimp only;refine ae (Sd (aG _ ho) ?_);unfold newFields;refine ae (gG (ai ⟨_,rfl,"set_iterator",_,⟨_,bE _ rfl,rfl⟩,sO.lookup,?_⟩));have D9:(s.heap.push { cls:=.type "tuple",data:=.seq (perm.map λ(i:Nat)=>rawInt (i:Int)).toArray }).objs.size=s.heap.objs.size+1:=iX ..;refine q _ s.heap.objs.size (perm.map λj=>(es.getD j (0,.none)).2) _ d (λb o e=>aG _ (aG _ e)) ⟨⟨o,aG _ (aG _ ho),hd⟩,hf,_,_,bE _ rfl,rfl,rfl,.inr (.inr ⟨_,_,_,rfl,aG _ (bE _ rfl),rfl,?_,λk v hk=>?_⟩)⟩ (by rw[ar,bD]) ?_ ?_ ?_ ?_ (.inr (ax _))
  ·rw[ar,bD]
  ·have p9:(perm.map λ(i:Nat)=>rawInt (i:Int))[k]?= some v:=by rw[<- hk];simp
   rw[bW] at p9;obtain⟨j,hj,rfl⟩:=dv.mp p9;have tZ:j<es.size:=iY.mp (hp.mem_iff.mp (bY hj));refine⟨j,0,rfl,?_,tZ⟩;rw[bW,hj,lT tZ];simp[kO,tZ]
  ·rw[D9];exact bc (xJ (aM ho))
  ·rw[D9];exact bc (pT _)
  ·exact(hp.map _).trans (Fe (Zje es))
  ·rw[D9];exact rZ _
 | false =>
  rw[ah (by decide)];refine ae (ai ?_);dsimp only;refine ae (Sd ho ?_);unfold newFields;refine ae (gG (ai ⟨_,rfl,"set_iterator",_,⟨_,bE _ rfl,rfl⟩,sO.lookup,?_⟩));have nI:S≠s.heap.objs.size:=bc (aM ho);cases DF:w.params.followText "set-order" with
  | true =>
   have TX:(pickOrder (w.params.setOrder S ep) es).toList.Perm es.toList:=by
    have:=OX (w.params.setOrder S ep) es.size 0 es.toList #[] (aU)
    simpa[pickOrder] using this
   refine q _ S ((pickOrder (w.params.setOrder S ep) es).toList.map (·.2)) _ s.drawn (λb o e=>aG _ e) ⟨⟨o,aG _ ho,hd⟩,hf,_,_,bE _ rfl,rfl,rfl,.inl ⟨0,rfl,DF,rfl⟩⟩ (by rw[ar,TX.length_eq,aU]) nI nI (TX.map _) (ax _) (.inl rfl)
  | false =>
   rw[DF] at tW;have b_:t.led=true:=by rw[kF];show(!w.params.followText "set-order")=true;rw[DF];rfl
   refine q _ S (es.toList.map (·.2)) _ s.drawn (λb o e=>aG _ e) ⟨⟨o,aG _ ho,hd⟩,hf,_,_,bE _ rfl,rfl,rfl,.inr (.inl ⟨0,rfl,DF,tW,b_,ZiJ hT.EJ,hT.EJ,rfl⟩)⟩ (by rw[ar,aU]) nI nI (pN _) (ax _) (.inl rfl)
set_option maxHeartbeats 1000000 in
theorem ZfM{oS:Obj}{t:bQ}{Q:List aa->af->Prop}(hh:A.handled=none)(fV:s.heap.get? S=some oS)(Lk:oS.ExactSet)(hd:oS.data=.set es ep t)(hT:Tab es t)(kF:t.led=CS w)(hn:es.size<=900)
  (q:∀(ys:List aa)(h':Heap)(tk:Nat)(d:mZ),(∀b o,s.heap.get? b=some o->h'.get? b=some o)->ys.Perm (es.toList.map (·.2))->s.heap.objs.size<=h'.objs.size->Q ys { s with heap:=h',toks:=tk,drawn:=d }):wpAny (model prog w) A (collect (.ref S)) Q E s:=by
 unfold collect;refine ae (NJ (gb Vn ?_));change wpAny _ _ (do again (.builtin "list.__iadd__" ⟨[<- newList [],.ref S],[]⟩)) _ _ s;refine ae (sk (ai ⟨A9 _ (by decide +kernel),gb Vm ?_⟩));change wpAny _ _ (A6 (.ref s.heap.objs.size) (.ref S) (.ref s.heap.objs.size)) _ _ { s with heap:=s.heap.push (seqObj "list" #[] 0) };have Zx1:=aM fV;have hL:(s.heap.push (seqObj "list" #[] 0)).get? s.heap.objs.size=some (seqObj "list" #[] 0):=bE _ rfl;have rh:FU { s with heap:=s.heap.push (seqObj "list" #[] 0) } (.ref S) "set" := ⟨oS,aG _ fV,Lk.1⟩;unfold A6;refine ae (uW (T := "set") rh ?_);have LD:s.heap.objs.size≠S:=jR Zx1;have h1:E6 (.ref s.heap.objs.size) (.ref S)=false:=by simp[E6,LD]
 rw[h1,ah (by decide)];refine ae (ZmC (s:={ s with heap:=s.heap.push (seqObj "list" #[] 0) }) (aG _ fV) Lk hd hT kF hn λI T ys h2 d k2 x hy nSI nTI uo hI Kg=>?_);have SE:s.heap.objs.size<I:=by
  refine cW ?_ hI;show s.heap.objs.size<(s.heap.push (seqObj "list" #[] 0)).objs.size;rw[iX];exact pT _
 have oH:=k2 _ _ hL;have nTL:s.heap.objs.size≠T:=by
  rcases Kg with rfl|Kg
  ·exact LD
  ·refine bc (cW ?_ Kg);show s.heap.objs.size<(s.heap.push (seqObj "list" #[] 0)).objs.size;rw[iX];exact pT _
 have SG:s.heap.objs.size ∉ [I,S,T]:=by
  simp only[aV,ny,p5,not_or];exact⟨bc SE,LD,nTL⟩
 have W:=Zlb (prog:=prog) (w:=w) (A:=A.in1) (t:=t) (ep:=ep) hh nSI nTI hy;have ZzS:∀b o,s.heap.get? b=some o->h2.get? b=some o:=λb o e=>k2 b o (aG _ e);have eO:∀b o,s.heap.get? b=some o->b≠s.heap.objs.size:=λb o e=>bc (aM e);have hbI:∀b o,s.heap.get? b=some o->b≠I:=λb o e=>bc (nB (aM e) SE);have key:∀(h:Heap)(JG tk:Nat),nV w h I S T es ep t ys 0->(∀b o,b≠s.heap.objs.size->h2.get? b=some o->h.get? b=some o)->h.get? s.heap.objs.size=some { cls:=.type "list",data:=.seq #[] JG } ->
   codeAny (model prog w) A (.builtin "list.extend.loop" ⟨[.ref s.heap.objs.size,.ref I,.ref s.heap.objs.size],[]⟩) (wants (λv s'=>wpAny (model prog w) A (match v with
     | aO a=>do
      let o <- load a
      match o.data with
      | .seq xs _=>pure xs.toList
      | _=>unsupported "internal:collect"
     | _=>unsupported "internal:collect") Q E s') E) { s with heap:=h,drawn:=d,toks:=tk }:=by
  intro h JG tk bu hk mL;refine codeAny_extend_loopS W.toS (by rw[bB];lia) s.heap.objs.size SG _ ys.length 0 _ #[] JG rfl (bz _) bu mL (Ba.nil _) λs' uX c' hm Df jr=>?_;rw[Moved.eq_with hm];refine ae (Gf Df ?_);refine ai ?_;have Zx6:uX.toList=ys:=by
   refine Bf λj=>?_;rw[jM];cases hj:uX[j]? with
   | none =>
    have h3:uX.size<=j:=E2.mp hj;rw[jr.1] at h3;rw[Bh h3]
   | some v=>rw[jr.2 j v hj]
  rw[Zx6];refine q ys s'.heap s'.toks d (λb o e=>hm.heap b o (λcH=>?_) (hk b o (eO b o e) (ZzS b o e))) uo (lZ (aM Df));rcases aV.mp cH with z|z
  ·exact eO b o e z
  ·exact hbI b o e (ao.mp z)
 refine ae (eW (Zlg ⟨oS,k2 S oS (aG _ fV),Lk.1⟩ ?_));refine Bx (λ_=>?_) (λ_=>ai ⟨jV W4 _,key h2 0 _ x (λb o _ e=>e) oH⟩);refine ae (p7 (ae ?_));change wpAny _ _ (updateSeq s.heap.objs.size (·.push .none) >>= λ_=>updateSeq s.heap.objs.size (·.pop)) _ _ _;refine ae (p8 oH rfl ?_);have mL:=m_ (a7 (·.push bg)) oH rfl;refine p8 (hz:=by seq_fits) mL rfl ?_;have Df:=m_ (a7 (·.pop)) mL rfl;have U2:∀b o,b≠s.heap.objs.size->h2.get? b=some o->((h2.update s.heap.objs.size (a7 (·.push bg))).update s.heap.objs.size (a7 (·.pop))).get? b=some o:=λb o hb e=>(iu _ _ (gS hb)).trans ((iu _ _ (gS hb)).trans e);exact ai ⟨jV W4 _,key _ _ _ (W.frame 0 _ _ x λb hb o e=>U2 b o (λz=>SG (z ▸ hb)) e) U2 Df⟩
end qj
namespace qj
open PySem PyProof.Rows k_
structure Goes(prog:aC)(w:ay)(A:aI)(S:Addr)(items:Array aa)(J:Nat->Heap->Prop):Prop where
 keep:∀i h h',J i h->(∀b o,b<=S->h.get? b=some o->h'.get? b=some o)->J i h'
 add:∀(i:Nat) v (s:af) (Q:Bool->af->Prop) (E:aa->af->Prop),items[i]?= some v->J i s.heap->(∀b h' tk,fz S s.heap h'->J (i+1) h'->Q b { s with heap:=h',toks:=tk })->wpAny (model prog w) A (setAdd S v) Q E s
variable{prog:aC}{w:ay}{A:aI}{R:pX->af->Prop}{l:Addr}{J:Nat->Heap->Prop}
theorem ZjX{S I:Addr}{items:Array aa}(hh:A.in1.handled=none)(g:Goes prog w A.in1 S items J)(Ke:S<I)(KQ:l≠I):∀(k i:Nat)(s:af),items.size-i=k->i<=items.size->(s.heap.IsListIter I l i/\s.heap.IsList l items)->l<S->J i s.heap ->
   (∀h' tk,J items.size h'->(∀b o,b<S->s.heap.get? b=some o->h'.get? b=some o)->R (.ok (.ret .none)) { s with heap:=h',toks:=tk })->codeAny (model prog w) A (.builtin "set.update.loop" ⟨[.ref S,.ref I],[]⟩) R s:=by
 have W:=XE (prog:=prog) (w:=w) (A:=A.in1) hh I l KQ items;intro k
 induction k with
 | zero =>
  intro i s hk hi bu v_ hw hR;obtain rfl:i=items.size:=by lia
  refine gb VT ?_;rw[lS Mv _];change wpAny _ A.in1 (pyNext (.ref I) >>= _) _ _ s;refine ae (W.done s _ _ bu λh' tk hm=>?_);change wpAny _ A.in1 (ret bg) _ _ _;have t9:∀b o,b<=S->s.heap.get? b=some o->h'.get? b=some o:=λb o hb e=>hm b o (λz=>eU _ (xI (ao.mp z ▸ hb) Ke)) e;exact ai (hR h' tk (g.keep _ _ _ hw t9) λb o hb e=>t9 b o (lZ hb) e)
 | succ k ih =>
  intro i s hk hi bu v_ hw hR;have aB:i<items.size:=by lia
  refine gb VT ?_;rw[lS Mv _];change wpAny _ A.in1 (pyNext (.ref I) >>= _) _ _ s;refine ae (W.item i s _ _ aB bu λv h' tk hP qa hm=>?_);have t9:∀b o,b<=S->s.heap.get? b=some o->h'.get? b=some o:=λb o hb e=>hm b o (λz=>eU _ (xI (ao.mp z ▸ hb) Ke)) e;have Yv:=g.keep _ _ _ hw t9;change wpAny _ A.in1 (holding [v] (setAdd S v) >>= _) _ _ _;refine ae (eW (g.add i v { s with heap:=h',toks:=tk } _ _ hP Yv λb1 h2 L' sb Kd=>?_));have gN:∀b o,b≠S->h'.get? b=some o->h2.get? b=some o:=λb o hb e=>(sb.2 b hb).trans e;refine ai ⟨jV Mv _,ih (i+1) _ (by lia) aB ?_ v_ Kd λh3 pE Li Kj=>hR h3 pE Li λb o hb e=>Kj b o hb (gN b o (bc hb) (t9 b o (lZ hb) e))⟩;refine W.frame _ h' h2 qa λb hb o e=>gN b o (λz=>?_) e;simp only[aV,ny,p5] at hb;rcases hb with rfl|rfl
  ·exact eU _ (z ▸ Ke)
  ·exact eU _ (z ▸ v_)
variable{E:aa->af->Prop}{s:af}
set_option maxRecDepth 100000 in
set_option maxHeartbeats 3200000 in
theorem ZiQ{items:Array aa}{Q:aa->af->Prop}(hh:A.handled=none)(hu:A.units+100<cLine)(hl:s.heap.IsList l items)(g:∀B:aI,B.units<cLine->Goes prog w B s.heap.objs.size items J)(j0:∀h:Heap,h.get? s.heap.objs.size=some (jh w)->(∀b o,b<s.heap.objs.size->s.heap.get? b=some o->h.get? b=some o)->J 0 h)
  (q:∀(h':Heap)(tk:Nat),J items.size h'->(∀b o,b<s.heap.objs.size->s.heap.get? b=some o->h'.get? b=some o)->Q (.ref s.heap.objs.size) { s with heap:=h',toks:=tk }) :
  wpAny (model prog w) A (call (.type "set") [.ref l]) Q E s:=by
 obtain⟨c,tl,ZDS⟩:=r_.mro;have ZDR:=r_.made;have D8:=r_.sub;refine Gb (XJ ?_);change wpAny _ _ (callAny (.type "set") _) _ _ _;refine ai ⟨A9 _ (by decide +kernel),gb PySem.F.entry_type_call ?_⟩;rw[aI.under_plain (weight_type_call_type "set" [.ref l] []) rfl];have ZEp:=r_.notType;have canMake:=r_.canCreate;have ZDq:=PySem.F.typeCall_set_1 (.ref l)
 repeat (any_goals (first|assumption|wp_step))
 refine xR (ZlW (.ref l) (E:=E) (Q₁ := λobj aT=>obj=.ref s.heap.objs.size/\aT = { s with heap:=s.heap.push (jh w) }) ⟨rfl,rfl⟩) λr aT hr=>?_;cases r with
 | error e=>exact hr
 | ok fl =>
  cases fl with
  | ret obj =>
   obtain⟨rfl,rfl⟩:=hr;have hS:(s.heap.push (jh w)).get? s.heap.objs.size=some (jh w):=bE _ rfl;have hT:FU { s with heap:=s.heap.push (jh w) } (.ref s.heap.objs.size) "set" := ⟨_,hS,rfl⟩;have hli:=r_.init.lookup;have hbi:=r_.init.bind (.ref s.heap.objs.size)
   repeat (any_goals (first|assumption|wp_step))
   refine xR (XG (R:=wants (λr s₂=>r=.none/\∃h' tk,s₂ = { s with heap:=h',toks:=tk }/\J items.size h'/\∀b o,b<s.heap.objs.size->s.heap.get? b=some o->h'.get? b=some o) E) r_.init.plain PySem.F.entry_set_init (check_set_init_1 hT ?_)) λZAT s₂ K8=>?_
   ·obtain⟨ol,wl,aY,nl,zO⟩:=hl;obtain⟨ZAJ,U0,ZAK,U1⟩:=ol;simp only at aY zO;subst aY;subst zO;have Zy7:(s.heap.push (jh w)).get? l=some { cls:=.type "list",dict:=U0,data:=.seq items nl,slots:=U1 }:=aG _ wl;have ZDZ:=PySem.F.sub_list_set;have ZDY:=PySem.F.sub_list_frozenset;have bt:(dy "list" == dy "dict")=false:=by decide
    have b_:(s.heap.push (jh w)).IsList l items:=⟨_,Zy7,rfl,nl,rfl⟩;unfold dG.«set.__init__» noKeywords ZBU;generalize hPI:pyIter=PI
    wp_walk
    subst hPI;refine By b_ (ae (NJ ?_));have v_:l<s.heap.objs.size:=aM wl;have hsz:(s.heap.push (jh w)).objs.size=s.heap.objs.size+1:=iX ..;have lD:((s.heap.push (jh w)).push { cls:=.type "list_iterator",data:=.fields #[.ref l,.int 0 0] }).get? s.heap.objs.size=some (jh w):=aG _ hS;have kk:∀b o,b<s.heap.objs.size->s.heap.get? b=some o->((s.heap.push (jh w)).push { cls:=.type "list_iterator",data:=.fields #[.ref l,.int 0 0] }).get? b=some o:=λb o hb e=>aG _ (aG _ e);refine ZjX (J:=J) (by simp[hh]) (g _ (by simp only[aI.in1_units];lia)) (by rw[hsz];exact pT _) (by rw[hsz];exact bc (xJ v_)) (items.size-0) 0 _ rfl (bz _)
     ⟨⟨_,bE _ rfl,rfl,rfl⟩,b_.push _⟩ v_ (j0 _ lD kk) λh' tk hw hb=>?_
    change wpAny _ _ _ _ _ _;refine ai ?_;change wpAny _ _ (ret bg) _ _ _;exact ai ⟨rfl,h',tk,rfl,hw,λb o aB e=>hb b o aB (kk b o aB e)⟩
   ·cases ZAT with
    | error e=>exact K8
    | ok Zxg =>
     cases Zxg with
     | ret r =>
      obtain⟨rfl,h',tk,rfl,hw⟩:=K8
      repeat (any_goals (first|assumption|wp_step))
      exact q _ _ hw.1 hw.2
     | _=>exact K8.elim
  | _=>exact hr.elim
end qj
namespace av
theorem fR.strict{α : Type}{lt : α -> α -> Bool}(o:fR lt){l:List α}(h:l.Pairwise (λa b=>lt b a=false))(hn:l.Nodup):l.Pairwise (λa b=>lt a b=true):=by
 refine nA.mpr λi j hi hj kD=>?_;have h1:=(nA.mp h) i j hi hj kD;have h2:=(nA.mp hn) i j hi hj kD;cases e:lt l[i] l[j] with
 | true=>rfl
 | false=>exact absurd (o.A0 _ _ e h1) h2
end av
namespace L2
open PySem PySem.Spec PyProof.Rows PySem.W av k_ qj
def tq(q:Qd):HO:=.tup [.int q.1,.str q.2.1,.int q.2.2.1,.int q.2.2.2]
def QL(H:Hp)(zs:List V)(qs:List Qd):Prop:=aN (λz q=>∃p,z=V.ref p/\H p=some (tq q)) zs qs
def jF(q:Qd):List Key:=[aA q.1,br q.2.1,aA q.2.2.1,aA q.2.2.2]
variable{H:Hp}
theorem QL.mem:∀{zs:List V}{qs:List Qd},QL H zs qs->∀z∈zs,∃p,∃q∈qs,z=V.ref p/\H p=some (tq q):=by
 intro zs qs h z hz;obtain⟨q,e,p,r⟩:=aN.LB h hz;exact⟨p,q,e,r⟩
theorem QL.length{H:Hp}:∀{zs:List V}{qs:List Qd},QL H zs qs->zs.length=qs.length:=λh=>cw h
theorem QL.get:∀{zs:List V}{qs:List Qd},QL H zs qs->∀(i:Nat) z,zs[i]?= some z->∃p q,qs[i]?= some q/\z=V.ref p/\H p=some (tq q):=by
 intro zs qs h i z hz;obtain⟨q,e,p,r⟩:=aN.qK h hz;exact⟨p,q,e,r⟩
theorem QL.keep{H':Hp}:∀{zs:List V}{qs:List Qd},QL H zs qs->(∀b xs,H b=some (.tup xs)->H' b=some (.tup xs))->QL H' zs qs:=by
 intro zs qs h k;refine aN.cM h λ_ _ z=>?_;obtain⟨p,e1,e2⟩:=z;exact⟨p,e1,k _ _ e2⟩
theorem Pw:∀{vs:List V}{us:List aa},Vals vs us->∀(i:Nat) u,us[i]?= some u->∃v,vs[i]?= some v/\RelV v u:=λh i u e=>aN.Sq h e
variable{P:aC}{w:ay}{h:Heap}
theorem Jm{t:Addr}{q:Qd}(ok:bJ P w H h)(e:H t=some (tq q)):g7 h (.ref t) q:=by
 obtain⟨_,us,gu,o,ho,gX,n,hd⟩:=ok t _ e;obtain⟨u1,us,rfl,r1,gu⟩:=Vals.inv gu;obtain⟨u2,us,rfl,r2,gu⟩:=Vals.inv gu;obtain⟨u3,us,rfl,r3,gu⟩:=Vals.inv gu;obtain⟨u4,us,rfl,r4,gu⟩:=Vals.inv gu;obtain rfl:=Vals.end_ gu;obtain⟨t1,rfl⟩:=r1;obtain⟨t2,rfl⟩:=r2;obtain⟨t3,rfl⟩:=r3;obtain⟨t4,rfl⟩:=r4;exact⟨t,o,t1,t2,t3,t4,n,rfl,ho,gX,hd⟩
def vd(P:aC)(w:ay)(h0:Heap)(items:List aa)(qs:List Qd):Prop:=items.length=qs.length/\∀(i:Nat) v q,items[i]?= some v->qs[i]?= some q->∃t,v=.ref t/\IsTupleKey (ZF P w) h0 (jF q) t/\g7 h0 v q
variable{qs:List Qd}
theorem vd.of{zs:List V}{us:List aa}(ok:bJ P w H h)(r:Vals zs us)(ql:QL H zs qs):vd P w h us qs:=by
 refine⟨by rw[<- r.length,ql.length],λi v q hv hq=>?_⟩;obtain⟨z,hz,rz⟩:=Pw r i v hv;obtain⟨t,q',h1,rfl,h3⟩:=ql.get i z hz;rw[hq] at h1;cases h1;obtain rfl:v=aO t:=rz;exact⟨t,rfl,sY ok (ks:=jF q) h3,Jm ok h3⟩
theorem vd.mem{h0:Heap}{items:List aa}(x:vd P w h0 items qs){v:aa}(hv:v∈items):∃t,∃q∈qs,v=.ref t/\IsTupleKey (ZF P w) h0 (jF q) t/\g7 h0 v q:=by
 obtain⟨i,hi⟩:=uM.mp hv;have aB:=(cT.mp hi).1;rw[x.1] at aB;obtain⟨t,h1,h2,h3⟩:=x.2 i v qs[i] hi (bO aB);exact⟨t,qs[i],Ft aB,h1,h2,h3⟩
theorem Q_{P:aC}{w:ay}{H:Hp}{h0:Heap}(ok:bJ P w H h0){ys:List V}{its:List aa}{qs:List Qd}(rv:Vals ys its)(ql:QL H ys qs):∀us:List aa,(∀u∈us,u∈its)->∃zs,Vals zs us/\QL H zs (us.map (kq h0))
 | [],_=>⟨[],.nil,.nil⟩
 | u::us,h=>by
  obtain⟨y,hy,ry⟩:=Ck rv u (h u (aZ ..));obtain⟨zs,rz,hz⟩:=Q_ ok rv ql us λx hx=>h x (bM _ hx);obtain⟨t,q,_,rfl,e2⟩:=ql.mem y hy;have hu:u=aO t:=ry;subst hu;exact⟨_,.cons ry rz,.cons ⟨t,rfl,by rw[CY (Jm ok e2)];exact e2⟩ hz⟩
end L2
namespace L2
open PySem PySem.Spec PyProof.Rows PySem.W av
theorem ZlE{prog:aC}{w:ay}{A:aI}{s:af}{l:Addr}{vs:List aa}(hl:s.heap.IsList l vs.toArray)(hn:vs.length<=90000){Q':List aa->af->Prop}{E':aa->af->Prop}
  (hq:∀(ys:List aa)(h':Heap)(tk:Nat)(d:mZ),(∀b o,s.heap.get? b=some o->h'.get? b=some o)->ys=vs->ys.length<=90000->s.heap.objs.size<=h'.objs.size->Q' ys { s with heap:=h',toks:=tk,drawn:=d }):wpAny (model prog w) A (collect (.ref l)) Q' E' s:=by
 refine XN hl ?_ (by rw[bB];lia);refine hq _ _ s.toks s.drawn (λb o e=>?_) rfl hn ?_
 ·rw[iu _ _ (jR (aM e))];exact aG _ e
 ·rw[xt,iX];exact rZ _
theorem Zom{P:aC}{w:ay}{H:Hp}{h0:Heap}(ok:bJ P w H h0):∀{ys:List V}{its:List aa}{qs:List Qd},Vals ys its->QL H ys qs->its.map (kq h0)=qs:=by
 intro ys its qs h
 induction h generalizing qs with
 | nil =>
  intro g;cases g;rfl
 | cons r _ ih =>
  intro g;cases g with
  | cons g gs =>
   obtain⟨p,rfl,e2⟩:=g;have hu:_=aO p:=r;subst hu;rw[ck,ih gs,CY (Jm ok e2)]
end L2
namespace L2
open PySem PySem.Spec PyProof.Rows PySem.W av k_ qj
def zo:aa->Str
 | .str x _=>x
 | _=>FV
def AX(a b:Str):Bool:=decide (a.cps.toList<b.cps.toList)
theorem QS:fR AX:=Qn
theorem ZO{prog:aC}{w:ay}{A:aI}{s:af}{vs:List aa}(hv:∀v∈vs,∃i t,v=gE i t)(h2:2<=vs.length):sS prog w A (λu v=>AX (zo u) (zo v)) vs s:=by
 refine⟨oneType',λQ E hq=>kas_kind (T:=.type "str") h2 (λv hm=>?_) rfl rfl hq,?_⟩
 ·obtain⟨i,t,rfl⟩:=hv v hm;exact Fx rfl
 ·intro x y hx hy E;rw[xX] at hx hy;obtain⟨i,t,e⟩:=hv _ (kU hx).2;obtain⟨i',t',e'⟩:=hv _ (kU hy).2;rw[e,e',Mi];refine oneLt_str ⟨rfl,?_⟩;show decide (i.cps.toList<i'.cps.toList)=AX (zo x.1) (zo y.1);rw[e,e'];rfl
end L2
namespace L2
open PySem PySem.Spec PyProof.Rows
def yv(K:au)(a:Addr)(n:Nat):It :=
 ⟨λi H=>i<n/\∃xs,ag K H a xs/\xs.length=n,λi H x H'=>H'=H/\∀xs,ag K H a xs->xs[n-1-i]?= some x,λi _=>n<=i⟩
variable{tg:Expr}
theorem ZlU{P:aC}{w:ay}{K:au}(a it:Addr)(n:Nat):Turn P w K tg (yv K a n) [it] it (λi h=>i<=n/\h.IsRevIter it a ((n:Int)-1-(i:Int))) where
 mem:=by simp
 obj:=λi h st b hb=>by
  have e:b=it:=by simpa using hb
  subst e;obtain⟨_,o,e,c,d⟩:=st;exact⟨o,e,λv z=>by rw[d] at z;cases z⟩
 keep:=λi h h' st k=>⟨st.1,st.2.at λo e=>k it (by simp) o e⟩
 item:=by
  intro X hP hw hK hc i pins s σ H E I hf st hg;subst hP hw hK;obtain⟨hi,xs,hq,hn⟩:=hg;obtain⟨its,rv,p,hz⟩:=I.list hq;have hx:xs[n-1-i]?= some (xs[n-1-i]'(by lia)):=bO (by lia);obtain⟨u,hu,ru⟩:=rv.get hx;obtain⟨f0,f1,f2,f3,f4,f5⟩:=hf it (by simp);have e:(n:Int)-1-(i:Int)=((n-1-i:Nat):Int):=by lia
  have hit:=st.2;rw[e] at hit;refine wpAny_pyNext_rev_item hit p.isList (x:=u) (by simpa using hu) λh' a_ sb=>?_;have I1:Inv X pins σ H { s with heap:=h' }:=I.turned (t':=s.toks) (λb o hb e=>(sb.2 b hb).trans e) f0 f1 f3 f4 f5;obtain⟨o,e',c,d⟩:=id a_;refine⟨u,rfl,zj (s:={ s with heap:=h' }) e' c d (by decide) ⟨_,H,I1,ru,⟨rfl,λys hy=>by rw[I.Es hy hq];exact hx⟩,⟨hi,?_⟩,λb hb=>(hf b hb).1⟩⟩;have e2:(n:Int)-1-((i+1:Nat):Int)=((n-1-i:Nat):Int)-1:=by lia
  rw[e2];exact a_
 done:=by
  intro X hP hw hK hc i pins s σ H E I hf st hg;subst hP hw hK;have sC:n<=i:=hg;obtain⟨f0,f1,f2,f3,f4,f5⟩:=hf it (by simp);have hit:=st.2;have e:(n:Int)-1-(i:Int)= -1:=by have:=st.1;lia
  rw[e] at hit;exact wpAny_pyNext_rev_end (I.ok.hd hc) hit λh' eb=>⟨rfl,I.turned (t':=s.toks) (λb o hb e=>eb b o hb e) f0 f1 f3 f4 f5⟩
 self:=λ_ _ _ _ _ st h=>Ye st.2 h
def Zp7(K:au)(ta:TA):TI:=λσ H R=>ta σ H λvs H1=>∃a xs,vs=[.ref a]/\ag K H1 a xs/\R (yv K a xs.length) H1
variable{X:Cx}
theorem ZnW{l:Expr}{ta:TA}{p pos:Pos}(hg:Gl X "reversed") (hm:X.mg "reversed" = none) (ha:PA X [l] ta) (hs:starEach [l] X.env=[(false,eval l X.env)]:=by rfl) :
  PI X tg (.Call (.Name "reversed" p) [l] [] pos) (Zp7 X.K ta):=by
 intro pins s σ H R I h;refine Call_ (lx I hg hm ZgG (Bp (aw (ha pos pins s σ H _ I h) ?_) hs rfl));rintro us s1 ⟨vs,H1,I1,r1,q1⟩;obtain⟨a,xs,e,hq,q⟩:=q1;subst e;obtain⟨u,rfl,ru⟩:=Vals.one r1;cases ru;obtain⟨its,rv,pl,hz⟩:=I1.list hq;refine call_reversed_list pl.isList (Ye (l:=a) (i:=(its.toArray.size:Int)-1) ⟨_,bE _ rfl,rfl,rfl⟩ ?_);have hl:its.toArray.size=xs.length:=by rw[bp,rv.length]
 refine⟨s1.heap.objs.size,[s1.heap.objs.size],_,_,H1,rfl,I1.kept (t':=s1.toks) λb o e=>aG _ e,ZlU a _ xs.length,⟨bz _,?_⟩,λb hb=>?_,q⟩
 ·rw[hl];refine⟨_,bE _ rfl,rfl,?_⟩;simp[revObj]
 have e:b=s1.heap.objs.size:=by simpa using hb
 subst e;exact I1.jo (ax _) (I1.ak.fresh (ax _))
theorem ZmG{K:au}{a:Addr}{xs:List V}{g:TG}{tb:TS}{D:Ends}{σ : St}{H:Hp}(Pv:Nat->St->Hp->Prop)(h0:Pv 0 σ H)(hl:∀i σ H,i<=xs.length->Pv i σ H->ag K H a xs)
  (hs:∀i y σ H,i<xs.length->xs[xs.length-1-i]?= some y->Pv i σ H->g y σ H λbV H2=>tb { D with nx:=Pv (i+1),ct:=Pv (i+1),bk:=D.nx } bV H2) (hd:∀ σ H,Pv xs.length σ H->D.nx σ H) :
  ∃W:Nat->Nat->St->Hp->Prop,(∃m,W 0 m σ H)/\∀i m σ H,W i m σ H ->
   ((yv K a xs.length).stop i H/\D.nx σ H)\/((yv K a xs.length).go i H/\∃N:St->Hp->Prop,(∀ aq H',N aq H'->∃m',m'<m/\W (i+1) m' aq H')/\∀x H',(yv K a xs.length).fw i H x H'->g x σ H' λbV H2=>tb { D with nx:=N,ct:=N,bk:=D.nx } bV H2):=by
 refine⟨λi m σ H=>m=xs.length-i/\i<=xs.length/\Pv i σ H,⟨xs.length,by simp,bz _,h0⟩,?_⟩;rintro i m σ H ⟨rfl,hi,p⟩;by_cases aB:i<xs.length
 ·refine .inr ⟨⟨aB,xs,hl i σ H hi p,rfl⟩,Pv (i+1),λaq H' p'=>⟨xs.length-(i+1),by lia,rfl,aB,p'⟩,λx H' y=>?_⟩;obtain⟨e,hx⟩:=y;subst e;exact hs i x σ _ aB (hx xs (hl i σ _ hi p)) p
 ·have e:i=xs.length:=by lia
  subst e;exact .inl ⟨ax _,hd σ H p⟩
end L2
namespace Fg
open PySem L2 g6
variable{X:Cx}{K:au}
theorem QG{es:List Expr}{k:Nat}{t:qo}{n:Nat}{pos:Pos}(hK:X.K=K)(hc:X.calm=true)(h:yB X es t)(hn:(assignEach es X.env).length=n:=by rfl)(bu:(assignEach es X.env).findIdx? (·.1)=none:=by rfl):PG X (.Tuple es k pos) (RW K n t):=by
 subst hK;exact gJ hc h hn bu
theorem H_:bootBuiltins "sorted" = some (.builtin "sorted"):=by decide +kernel
variable{a p:Addr}{xs:List V}{te:TE}{R:Hp->Prop}{gz:St}{H0:Hp}
theorem Pn{g:TG}(Pv:Nat->List V->St->Hp->Prop)(h0:Pv 0 [] gz H0)
  (hl:∀i ys σ H,i<=xs.length->Pv i ys σ H->az K H a xs/\H p=some (.lst ys))
  (hs:∀i ys x σ H,i<xs.length->xs[i]?= some x->Pv i ys σ H->g x σ H λaL H4=>te aL H4 λv H5=>H5 p=some (.lst ys)/\ys.length<sizeLine/\∃m',m'<xs.length-i/\CW xs.length Pv (i+1) m' (ys ++ [v]) aL (upd H5 p (.lst (ys ++ [v]))))
  (hd:∀ys σ H,Pv xs.length ys σ H->R H) :
  ∃W:Nat->Nat->List V->St->Hp->Prop,(∃m,W 0 m [] gz H0)/\∀i m ys dF H2,W i m ys dF H2->H2 p=some (.lst ys)/\(((g9 K a).stop i H2/\R H2)\/((g9 K a).go i H2/\∀x H3,(g9 K a).fw i H2 x H3->g x dF H3 λaL H4=>te aL H4 λv H5 =>
   H5 p=some (.lst ys)/\ys.length<sizeLine/\∃m',m'<m/\W (i+1) m' (ys ++ [v]) aL (upd H5 p (.lst (ys ++ [v]))))):=by
 refine⟨CW xs.length Pv,⟨_,rfl,bz _,h0⟩,?_⟩;rintro i m ys σ H ⟨rfl,hi,hp⟩;obtain⟨h1,h2⟩:=hl i ys σ H hi hp;refine⟨h2,?_⟩;by_cases aB:i<xs.length
 ·refine .inr ⟨⟨xs,xs[i],h1,bO aB⟩,?_⟩;rintro x H3 ⟨rfl,hx⟩;exact hs i ys x σ _ aB (hx xs h1) hp
 ·refine .inl ⟨⟨xs,h1,by lia⟩,hd ys σ H ?_⟩;have e:i=xs.length:=by lia
  rw[<- e];exact hp
variable{i:Nat}
theorem Zi{α : Type}{l:List α}{x : α}(h:l[i]?= some x):l.take (i+1)=l.take i ++ [x]:=by
 rw[Wt,h];rfl
theorem yM(h:X.K=K):yw X (RR K):=h ▸ ZQ
theorem Zik(h:X.K=K):bZ X (compareOp .In) (LS K false):=h ▸ Ib
def Zo0(K:au)(ta:TE):TT:=λσ H Q=>ta σ H λx H'=>∃k,CZ K x H' k/\Q k H'
theorem ZjN{a:Expr}{ta:TE}(h:X.K=K)(ha:PE X a ta)(he:∀whole,isTrue a X.env whole=(do let v <- whole;standAt a.pos;holding [v] (truthy v))) :
  PT X a (Zo0 K ta):=by
 subst h;exact iH ha he
theorem iF{H:Hp}{ys zs:List V}(hp:H p=some (.lst ys)):∀b xs,H b=some (.tup xs)->(upd H p (.lst zs)) b=some (.tup xs):=λb xs h=>by
 rw[Zc (λe=>by rw[e,hp] at h;cases h)];exact h
theorem RL{body:List Stmt}{D:Ends}(R0:St->Hp->Prop)(n:Nat)(R:St->Hp->Prop)(h2:∃u,dB X (body.drop n) u/\∀ aq H',R aq H'->u D aq H')
  (h1:∀u,dB X (body.drop n) u->(∀ aq H',R aq H'->u D aq H')->∃t,dB X body t/\∀ σ H,R0 σ H->t D σ H):∃t,dB X body t/\∀ σ H,R0 σ H->t D σ H :=
 let ⟨u,a,b⟩:=h2
 h1 u a b
theorem RS(x:Int){n:Nat}(h:0<n):∃k:Nat,x % (n:Int)=(k:Int)/\k<n:=by
 have h1:=uG x (by lia:(n:Int)≠0);have h2:=xu x (by lia:(0:Int)<(n:Int));obtain⟨k,hk⟩:=Mx h1;exact⟨k,hk,by lia⟩
structure FQ where
 n:Int
 hs:List Int
 ts:List Int
 qs:List av.Qd
abbrev qG(l:List Int):Prop:=l.Pairwise (· < ·)
abbrev Zo9(l:List av.Qd):Prop:=l.Pairwise (λa b=>av.ph a b=true)
def jX(H:Hp)(a:Addr)(f:FQ):Prop := ∃(h1 h2 h3:Addr)(zs:List V),H a=some (.tup [.int f.n,.ref h1,.ref h2,.ref h3])/\H h1=some (.tup (f.hs.map V.int))/\H h2=some (.tup (f.ts.map V.int))/\H h3=some (.tup zs)/\QL H zs f.qs
theorem jX.same{H H':Hp}{f:FQ}(h:jX H a f)(s:Zh H H'):jX H' a f:=by
 obtain⟨h1,h2,h3,zs,e1,e2,e3,e4,e5⟩:=h;exact⟨h1,h2,h3,zs,s _ _ e1,s _ _ e2,s _ _ e3,s _ _ e4,e5.keep λb xs e=>s _ _ e⟩
theorem nX{α : Type}[DecidableEq α]:∀{l m:List α},l.Nodup->(∀x∈l,x∈m)->l.length<=m.length
 | [],_,_,_=>bz _
 | a::l,m,hn,h=>by
  obtain⟨h1,h2⟩:=rX.mp hn;have ha:=h a (aZ ..);have h3:=nX (m:=m.erase a) h2 λx hx=>(List.mem_erase_of_ne (λ(e:x=a)=>h1 (e ▸ hx))).mpr (h x (bM _ hx));rw[List.length_erase_of_mem ha] at h3;have:=MK ha;rw[bI];lia
theorem Oz{l:List Int}(h:qG l):l.Nodup:=h.imp λ{a b} eu e=>by lia
theorem oz(x:Int){n:Int}(h:1<=n):0<=x % n/\x % n<n:=⟨uG _ (by lia),xu _ (by lia)⟩
def QB(n:Int)(qs:List av.Qd):Prop := ∀q∈qs,(0<=q.1/\q.1<n)/\(0<=q.2.2.1/\q.2.2.1<n)/\0<=q.2.2.2/\q.2.2.2<n
def IB(n:Int)(xs:List Int):Prop := ∀x∈xs,0<=x/\x<n
theorem IB.snoc{n x:Int}{xs:List Int}(h:IB n xs)(hx:0<=x/\x<n):IB n (xs ++ [x]):=λy hy=>by
 rcases aS.mp hy with hy|hy
 ·exact h y hy
 ·rw[ao.mp hy];exact hx
theorem OR{g:TG}{tt:TT}(Pv:Nat->List V->St->Hp->Prop)(h0:Pv 0 [] gz H0)
  (hl:∀i ys σ H,i<=xs.length->Pv i ys σ H->az K H a xs/\H p=some (.lst ys))
  (hs:∀i ys x σ H,i<xs.length->xs[i]?= some x->Pv i ys σ H->g x σ H λaL H4=>tt aL H4 λb dY=>if b=true then te aL dY λv H5=>H5 p=some (.lst ys)/\ys.length<sizeLine/\∃m',m'<xs.length-i/\CW xs.length Pv (i+1) m' (ys ++ [v]) aL (upd H5 p (.lst (ys ++ [v])))
   else ∃m',m'<xs.length-i/\CW xs.length Pv (i+1) m' ys aL dY)
  (hd:∀ys σ H,Pv xs.length ys σ H->R H) :
  ∃W:Nat->Nat->List V->St->Hp->Prop,(∃m,W 0 m [] gz H0)/\∀i m ys dF H2,W i m ys dF H2->H2 p=some (.lst ys)/\(((g9 K a).stop i H2/\R H2)\/((g9 K a).go i H2/\∀x H3,(g9 K a).fw i H2 x H3->g x dF H3 λaL H4=>tt aL H4 λb dY=>if b=true then te aL dY λv H5 =>
   H5 p=some (.lst ys)/\ys.length<sizeLine/\∃m',m'<m/\W (i+1) m' (ys ++ [v]) aL (upd H5 p (.lst (ys ++ [v]))) else ∃m',m'<m/\W (i+1) m' ys aL dY)):=by
 refine⟨CW xs.length Pv,⟨_,rfl,bz _,h0⟩,?_⟩;rintro i m ys σ H ⟨rfl,hi,hp⟩;obtain⟨h1,h2⟩:=hl i ys σ H hi hp;refine⟨h2,?_⟩;by_cases aB:i<xs.length
 ·refine .inr ⟨⟨xs,xs[i],h1,bO aB⟩,?_⟩;rintro x H3 ⟨rfl,hx⟩;exact hs i ys x σ _ aB (hx xs h1) hp
 ·have e:i=xs.length:=by lia
  subst e;exact .inl ⟨⟨xs,h1,ax _⟩,hd ys σ H hp⟩
theorem Il{x:Int}{xs:List Int}:wB (.int x) (xs.map V.int)=decide (x∈xs):=by
 unfold wB;rw[mY,uH,fB];constructor
 ·rintro⟨y,hy,h⟩;obtain⟨z,hz,rfl⟩:=a6.mp hy;have:z=x:=by
   have h':(z == x)=true:=by simpa[ki] using h
   exact eq_of_beq h'
  exact this ▸ hz
 ·intro h;exact⟨V.int x,a6.mpr ⟨x,h,rfl⟩,by simp[ki]⟩
theorem HR(xs:List Int):(xs.map V.int).all mz=true:=by
 rw[ME];intro y hy;obtain⟨z,_,rfl⟩:=a6.mp hy;rfl
def iU(f:FQ):Gr Str->Int->Prop
 | .nil,q=>q∈f.ts
 | .cons t w o,q=>∃p r,(q,t,p,r)∈f.qs/\iU f w p/\iU f o r
def bk:List Str->Gr Str×List (Gr Str)
 | []=>(.nil,[])
 | w::ws=>if w=SL then(.nil,(bk ws).1::(bk ws).2) else
  match (bk ws).2 with
  | []=>(.nil,[])
  | b::pl=>(.cons w (bk ws).1 b,pl)
theorem CO(ws:List Str):bk (SL::ws)=(.nil,(bk ws).1::(bk ws).2):=by
 rw[bk,aj rfl]
variable{ws:List Str}
theorem CC{w:Str}(hw:w≠SL){b:Gr Str}{pl:List (Gr Str)}(h:(bk ws).2=b::pl):bk (w::ws)=(.cons w (bk ws).1 b,pl):=by
 rw[bk,ah hw,h]
theorem yU:∀{ws:List Str}{n:Nat},dA SL n ws->(bk ws).2.length=n
 | [],n,h=>by
  have h':n=0:=h;subst h';rfl
 | w::ws,n,h=>by
  by_cases e:w=SL
  ·subst e;obtain⟨h1,h2⟩:=yS.mp h;rw[CO,bI,yU h2];lia
  ·have h2:=yU ((sV e).mp h);cases hb:(bk ws).2 with
   | nil =>
    rw[hb] at h2;cases h2
   | cons b pl =>
    rw[CC e hb];rw[hb] at h2
    simpa using h2
def wW:List (Gr Str)->List Str
 | []=>[]
 | g::gs=>SL::(words SL g++wW gs)
theorem Jf:∀{ws:List Str}{n:Nat},dA SL n ws->ws=words SL (bk ws).1++wW (bk ws).2/\gj SL (bk ws).1/\∀g∈(bk ws).2,gj SL g
 | [],n,_=>⟨rfl,trivial,λ_ h=>nomatch h⟩
 | w::ws,n,h=>by
  by_cases e:w=SL
  ·subst e;obtain⟨h1,h2⟩:=yS.mp h;obtain⟨a,b,c⟩:=Jf h2;rw[CO];refine⟨?_,trivial,λg hg=>?_⟩
   ·show SL::ws=SL::(words SL (bk ws).1++wW (bk ws).2);rw[<- a]
   ·rcases aV.mp hg with rfl|hg
    ·exact b
    ·exact c g hg
  ·have h2:=(sV e).mp h;have h3:=yU h2;obtain⟨a,b,c⟩:=Jf h2;cases hb:(bk ws).2 with
   | nil =>
    rw[hb] at h3;cases h3
   | cons g pl =>
    rw[CC e hb];rw[hb] at a c;refine⟨?_,⟨e,b,c g (aZ ..)⟩,λx hx=>c x (bM _ hx)⟩;show w::ws=words SL (.cons w (bk ws).1 g)++wW pl;have a':ws=words SL (bk ws).1++(SL::(words SL g++wW pl)):=a
    conv=>lhs;rw[a']
    simp[words]
theorem Zjo(h:dA SL 0 ws):words SL (bk ws).1=ws/\gj SL (bk ws).1:=by
 obtain⟨a,b,_⟩:=Jf h;have:=yU h;rw[Fj this] at a;refine⟨?_,b⟩;rw[show wW [] =[] from rfl,fN] at a;exact a.symm
theorem HS:∀{xs ys:List Str}{n:Nat},dA SL n (xs++ys)->∃k:Nat,(k:Int)=n+zW SL xs/\dA SL k ys
 | [],ys,n,h=>⟨n,by simp[zW],h⟩
 | x::xs,ys,n,h=>by
  by_cases e:x=SL
  ·subst e;obtain⟨h1,h2⟩:=yS.mp h;obtain⟨k,hk,hc⟩:=HS h2;refine⟨k,?_,hc⟩;simp only[zW,gF];lia
  ·obtain⟨k,hk,hc⟩:=HS ((sV e).mp h);refine⟨k,?_,hc⟩;simp only[zW,ah e];lia
theorem O1(h:i<ws.length):ws.drop (ws.length-(i+1))=(ws[ws.length-1-i]'(by lia))::ws.drop (ws.length-i):=by
 rw[Fi (by lia)]
 congr 2 <;> lia
theorem Zk0(h:dA SL 0 ws)(i:Nat):∃k,dA SL k (ws.drop i):=by
 have h':dA SL 0 (ws.take i++ws.drop i):=by rw[Wu];exact h
 obtain⟨k,_,hk⟩:=HS h';exact⟨k,hk⟩
theorem ZkY(h:dA SL 0 ws){i:Nat}(hi:i<ws.length)(hw:ws[ws.length-1-i]'(by lia)≠SL):∃b pl,(bk (ws.drop (ws.length-i))).2=b::pl/\bk (ws.drop (ws.length-(i+1)))=(.cons (ws[ws.length-1-i]'(by lia)) (bk (ws.drop (ws.length-i))).1 b,pl):=by
 obtain⟨k,hk⟩:=Zk0 h (ws.length-(i+1));rw[O1 hi] at hk ⊢;have p9:=yU ((sV hw).mp hk);cases e:(bk (ws.drop (ws.length-i))).2 with
 | nil =>
  rw[e] at p9;cases p9
 | cons b pl=>exact⟨b,pl,rfl,CC hw e⟩
theorem ZlR(hi:i<ws.length)(hw:ws[ws.length-1-i]'(by lia)=SL):bk (ws.drop (ws.length-(i+1)))=(.nil,(bk (ws.drop (ws.length-i))).1::(bk (ws.drop (ws.length-i))).2):=by
 rw[O1 hi,hw,CO]
theorem Qv:∀ws:List Str,(bk ws).2.length<=ws.length
 | []=>ax _
 | w::ws=>by
  have h:=Qv ws;by_cases e:w=SL
  ·rw[e,CO,bI,bI];lia
  ·cases hb:(bk ws).2 with
   | nil =>
    rw[bk,ah e,hb];exact bz _
   | cons b pl =>
    rw[CC e hb,bI];rw[hb,bI] at h;show pl.length<=_;lia
end Fg
namespace L2
open PySem PySem.Spec PyProof.Rows
def Zor(td ty tx:TE):TE:=λσ H Q=>td σ H λx H1=>∃a,x=.ref a/\G_ H1 a/\ty σ H1 λy H2=>tx σ H2 λz H3=>∃ab k,H3 a=some (.dK ab)/\y=kV k/\ab.length<sizeLine /\
 (∀v,bj ab k=some v->Q v H3)/\(bj ab k=none->Q z (upd H3 a (.dK (putK ab k z))))
section
variable{X:Cx}{o e f:Expr}{apos eN:Pos}{td ty tx:TE}
theorem Ir(ho:PE X o td)(he:PE X e ty)(hf:PE X f tx)(m:M2 X o "setdefault" apos e f eN):PE X (.Call (.Attribute o "setdefault" apos) [e,f] [] eN) (Zor td ty tx):=by
 intro pins s σ H Q I h;refine X6 m.base m.jn m.line W3 W8 PySem.F.type_dict_setdefault (aw (ho pins s σ H _ I h) ?_);rintro u s1 ⟨x,H1,I1,rx,a,ex,d,q1⟩;subst ex;obtain rfl:u=aO a:=rx;obtain⟨t1,t2,_⟩:=Rf I1 d;refine⟨t1,t2,?_⟩;rw[m.Ve];refine A8 rfl (Mq (xo (aw (he pins s1 σ H1 _ I1 q1) λiv s2 ⟨y,H2,I2,ry,q2⟩ =>
  xo (aw (hf pins s2 σ H2 _ I2 q2) λfv s3 ⟨z,H3,I3,rz,ab,k,e3,ey,hl,g1,g2⟩=>E9 ?_))))
 subst ey;obtain⟨zz,hd,vs,rel,dd⟩:=zg I3.ak e3;have hz:vs.length<=sizeLine:=by rw[<- rel.length];exact zz
 have rv:=rel.val k;refine Nn W8 dd.typeIs PySem.F.entry_dict_setdefault (PySem.F.args_dict_setdefault_3 _ _ _) (kt_meets_setdefault (ZF X.prog X.w) a (qA ry) hd fv) ⟨vs,dd,hz,λv hv=>?_,λhn h' sx hs=>?_⟩
 ·rw[hv] at rv;cases hk:bj ab k with
  | none =>
   rw[hk] at rv;exact(show False from rv).elim
  | some x =>
   rw[hk] at rv;exact⟨x,H3,I3.tok _,rv,g1 x hk⟩
 ·rw[hn] at rv;cases hk:bj ab k with
  | some x =>
   rw[hk] at rv;exact(show False from rv).elim
  | none =>
   have he:∃q,h'.get? a=some q:=let ⟨q,_,_,hq,_⟩:=sx;⟨q,hq⟩;have vX:(putK ab k z).length<=sizeLine:=by have:=yH ab k z;lia
   exact⟨z,_,IQ I3 (by rw[e3];exact kT) hs he (Rb vX hd (rel.put k rz) sx),rz,g2 hk⟩
end
end L2
namespace Fg
open PySem L2 g6
def DI(H:Hp)(p:Addr)(ns:List Int):Prop := ∃m:List (Key×V),H p=some (.dK m)/\m.map (·.1)=ns.map aA
variable{ns:List Int}
theorem DI.same{H H':Hp}{p:Addr}(h:DI H p ns)(s:Zh H H'):DI H' p ns:=by
 obtain⟨m,h1,h2⟩:=h;exact⟨m,s _ _ h1,h2⟩
variable{m:List (Key×V)}
theorem DI.has(h:m.map (·.1)=ns.map aA)(x:Int):(bj m (aA x)).isSome=decide (x∈ns):=by
 rw[<- ji];have e1:(m.any λkv=>decide (kv.1=(aA x:Key)))=(m.map (·.1)).any (λy=>decide (y=(aA x:Key))):=by rw[Ff];rfl
 rw[e1,h,Ff,mY,uH,fB];constructor
 ·rintro⟨y,hy,h⟩;have:=bK h;injection this with this;rw[<- this];exact hy
 ·intro hx;exact⟨x,hx,aP rfl⟩
theorem DI.put(h:m.map (·.1)=ns.map aA)(x:Int)(v:V):(putK m (aA x) v).map (·.1)=(if x∈ns then ns else ns ++ [x]).map aA:=by
 have hh:=DI.has h x;unfold putK;rw[ji,hh];by_cases hx:x∈ns
 ·rw[aP hx,aj rfl,aj hx,gB,<- h];refine pQ λkv _=>?_;show(if kv.1=aA x then(kv.1,v) else kv).1=kv.1
  split <;> rfl
 ·rw[bx hx,ah (by decide),ah hx,bP,bP,h];rfl
end Fg
namespace L2
open PySem PySem.Spec PyProof.Rows
theorem Oq{K:au}{a p:Addr}{xs:List V}{g:TG}{tt:TT}{te:TE}{R:Hp->Prop}{gz:St}{H0:Hp}(Pv:Nat->List V->St->Hp->Prop)(h0:Pv 0 [] gz H0)
  (hl:∀i ys σ H,i<=xs.length->Pv i ys σ H->ag K H a xs/\H p=some (.lst ys))
  (hs:∀i ys x σ H,i<xs.length->xs[i]?= some x->Pv i ys σ H->g x σ H λaL H4=>tt aL H4 λb dY=>if b=true then te aL dY λv H5=>H5 p=some (.lst ys)/\ys.length<sizeLine/\∃m',m'<xs.length-i/\CW xs.length Pv (i+1) m' (ys ++ [v]) aL (upd H5 p (.lst (ys ++ [v])))
   else ∃m',m'<xs.length-i/\CW xs.length Pv (i+1) m' ys aL dY)
  (hd:∀ys σ H,Pv xs.length ys σ H->R H) :
  ∃W:Nat->Nat->List V->St->Hp->Prop,(∃m,W 0 m [] gz H0)/\∀i m ys dF H2,W i m ys dF H2->H2 p=some (.lst ys)/\(((g8 K a).stop i H2/\R H2)\/((g8 K a).go i H2/\∀x H3,(g8 K a).fw i H2 x H3->g x dF H3 λaL H4=>tt aL H4 λb dY=>if b=true then te aL dY λv H5 =>
   H5 p=some (.lst ys)/\ys.length<sizeLine/\∃m',m'<m/\W (i+1) m' (ys ++ [v]) aL (upd H5 p (.lst (ys ++ [v]))) else ∃m',m'<m/\W (i+1) m' ys aL dY)):=by
 refine⟨CW xs.length Pv,⟨_,rfl,bz _,h0⟩,?_⟩;rintro i m ys σ H ⟨rfl,hi,hp⟩;obtain⟨h1,h2⟩:=hl i ys σ H hi hp;refine⟨h2,?_⟩;by_cases aB:i<xs.length
 ·refine .inr ⟨⟨xs,xs[i],h1,bO aB⟩,?_⟩;rintro x H3 ⟨rfl,hx⟩;exact hs i ys x σ _ aB (hx xs h1) hp
 ·have e:i=xs.length:=by lia
  subst e;exact .inl ⟨⟨xs,h1,ax _⟩,hd ys σ H hp⟩
end L2
namespace L2
open PySem PySem.Spec PyProof.Rows PySem.W
section
variable{X:Cx}
def ZoM:List V->Hp->VK->Prop:=λvs H Q=>∃(d:Addr)(m:List (Key×V)),vs=[V.ref d]/\H d=some (.dK m)/\Q (.int (m.length:Int)) H
theorem Zji:hX X (.builtin "len") ZoM:=by
 rintro pins s σ H vs us Q I r ⟨d,m,rfl,hd,q⟩;obtain⟨u,rfl,ru⟩:=vals1 r;cases ru;refine ZoQ I (.inl hd) ?_;intro t s2 I2;exact⟨.int (m.length:Int),H,I2,⟨t,rfl⟩,q⟩
variable{o e:Expr}{es:List Expr}{to:TE}{t:TA}{name:Str}{apos eN:Pos}{T id:String}{r:V->List V->Hp->VK->Prop}
end
end L2
namespace av
open PySem PyProof.Rows sN PySem.W
abbrev Pr:=Int×Int
def lN:Pr->Pr->Bool:=ox (λa b:Int=>decide (a<b)) λa b:Int=>decide (a<b)
theorem Qz:fR lN:=vn.lex vn
def jd(h:Heap)(v:aa)(q:Pr):Prop := ∃a o t u n,v=.ref a/\h.get? a=some o/\o.cls=.type "tuple" /\ o.data=.seq #[.int q.1 t,.int q.2 u] n
variable{h:Heap}{v:aa}{q:Pr}
theorem jd.inj{q':Pr}(x:jd h v q)(y:jd h v q'):q=q':=by
 obtain⟨a,o,t,u,n,rfl,h1,_,h3⟩:=x;obtain⟨a',o',t',u',n',e,nJ,_,eX⟩:=y;cases e;rw[h1] at nJ;cases nJ;rw[h3] at eX;obtain⟨q1,q2⟩:=q;obtain⟨r1,r2⟩:=q';simp only[VM,Vr,V8,Xy,and_true] at eX;obtain⟨⟨⟨e1,_⟩,⟨e2,_⟩⟩,_⟩:=eX;rw[e1,e2]
theorem jd.keep{h':Heap}(x:jd h v q)(k:∀b o,h.get? b=some o->h'.get? b=some o):jd h' v q:=by
 obtain⟨a,o,t,u,n,rfl,h1,r⟩:=x;exact⟨a,o,t,u,n,rfl,k _ _ h1,r⟩
open Classical in
noncomputable def jG(h:Heap)(v:aa):Pr:=if x:∃q,jd h v q then x.choose else(0,0)
theorem CI(x:jd h v q):jG h v=q:=by
 unfold jG;rw[dif_pos ⟨q,x⟩];exact(VN (⟨q,x⟩:∃q,jd h v q)).inj x
theorem Qw{h:Heap}:∀{vs:List aa},(∀v∈vs,∃q,jd h v q)->∃fs,KatTups h vs fs/\fs.length=vs.length/\∀f∈fs,∃i t,f=.int i t
 | [],_=>⟨[],trivial,rfl,λ_ h=>nomatch h⟩
 | v::vs,hv=>by
  obtain⟨q,a,o,t,u,n,rfl,ho,hc,hd⟩:=hv v (aZ ..);obtain⟨fs,kt,hl,hf⟩:=Qw (vs:=vs) λx hx=>hv x (bM _ hx);refine⟨.int q.1 t::fs,V6 ho hc hd rfl kt,by simp[hl],λf hm=>?_⟩;rcases aV.mp hm with rfl|hm
  ·exact⟨_,t,rfl⟩
  ·exact hf f hm
variable{prog:aC}{w:ay}{A:aI}{s:af}
theorem ZfE{h0:Heap}{vs:List aa}(hv:∀v∈vs,∃q,jd h0 v q)(k0:∀b o,h0.get? b=some o->s.heap.get? b=some o)(h2:2<=vs.length):sS prog w A (λu v=>lN (jG h0 u) (jG h0 v)) vs s:=by
 have nK:∀v∈vs,∃q,jd s.heap v q:=λv hm=>let ⟨q,x⟩:=hv v hm;⟨q,x.keep k0⟩;obtain⟨fs,k,hl,hf⟩:=Qw nK;refine⟨tuples' true,λQ E hq=>?_,?_⟩
 ·refine kat_kind (T:=.type "int") k (by lia) (λv hm=>?_) rfl hq;obtain⟨i,t,rfl⟩:=hf v hm;exact Fx rfl
 ·intro x y hx hy E;rw[xX] at hx hy;obtain⟨q,xq⟩:=hv _ (kU hx).2;obtain⟨q',yq⟩:=hv _ (kU hy).2;have e1:(λx y:cX=>lN (jG h0 x.1) (jG h0 y.1)) x y=lN q q':=by
   show lN (jG h0 x.1) (jG h0 y.1)=_;have Eg:=(kU hx);have hy1:=(kU hy);rw[CI xq,CI yq]
  rw[e1];obtain⟨a,o,t,u,n,e,ho,hc,hd⟩:=xq.keep k0;obtain⟨a',o',t',u',n',e',i_,gX,i9⟩:=yq.keep k0;rw[e,e'];obtain⟨q1,q2⟩:=q;obtain⟨r1,r2⟩:=q';refine kat_lt ho hd i_ i9 ?_;have Mc:lN (q1,q2) (r1,r2)=(decide (q1<r1) || (decide (q1=r1)&&decide (q2<r2))):=rfl;rw[Mc];refine xT (x9 (xU (λc1=>xW ?_) (λc1=>xV ?_)))
  ·have i0:q1=r1:=eq_of_beq c1;refine xT (x9 (xU (λc4=>xW (kat_nil ⟨rfl,?_⟩)) (λc4=>xV ?_)))
   ·have Gv:q2=r2:=eq_of_beq c4;subst i0 Gv;simp
   ·refine FZ _ _ (NG ⟨rfl,?_⟩);subst i0;simp
  ·refine F0 ⟨rfl,?_⟩;have i0 : ¬ q1=r1:=λz=>by rw[z] at c1;simp at c1
   simp[i0]
end av
namespace L2
open PySem PySem.Spec PyProof.Rows PySem.W av
def tp(q:Pr):HO:=.tup [.int q.1,.int q.2]
def pK(q:Pr):List Key:=[aA q.1,aA q.2]
def PL(H:Hp)(zs:List V)(qs:List Pr):Prop:=aN (λz q=>∃p,z=V.ref p/\H p=some (tp q)) zs qs
variable{H:Hp}
theorem PL.mem:∀{zs:List V}{qs:List Pr},PL H zs qs->∀z∈zs,∃p,∃q∈qs,z=V.ref p/\H p=some (tp q):=by
 intro zs qs h z hz;obtain⟨q,e,p,r⟩:=aN.LB h hz;exact⟨p,q,e,r⟩
theorem PL.length{H:Hp}:∀{zs:List V}{qs:List Pr},PL H zs qs->zs.length=qs.length:=λh=>cw h
theorem PL.get:∀{zs:List V}{qs:List Pr},PL H zs qs->∀(i:Nat) z,zs[i]?= some z->∃p q,qs[i]?= some q/\z=V.ref p/\H p=some (tp q):=by
 intro zs qs h i z hz;obtain⟨q,e,p,r⟩:=aN.qK h hz;exact⟨p,q,e,r⟩
theorem PL.keep{H':Hp}:∀{zs:List V}{qs:List Pr},PL H zs qs->(∀b xs,H b=some (.tup xs)->H' b=some (.tup xs))->PL H' zs qs:=by
 intro zs qs h k;refine aN.cM h λ_ _ z=>?_;obtain⟨p,e1,e2⟩:=z;exact⟨p,e1,k _ _ e2⟩
theorem PL.snoc{H:Hp}{q:Pr}{p:Addr}(e:H p=some (tp q)):∀{zs:List V}{qs:List Pr},PL H zs qs->PL H (zs ++ [.ref p]) (qs ++ [q]):=λh=>r8 h ⟨p,rfl,e⟩
variable{P:aC}{w:ay}
theorem Jj{h:Heap}{t:Addr}{q:Pr}(ok:bJ P w H h)(e:H t=some (tp q)):jd h (.ref t) q:=by
 obtain⟨_,us,gu,o,ho,gX,n,hd⟩:=ok t _ e;obtain⟨u1,us,rfl,r1,gu⟩:=Vals.inv gu;obtain⟨u2,us,rfl,r2,gu⟩:=Vals.inv gu;obtain rfl:=Vals.end_ gu;obtain⟨t1,rfl⟩:=r1;obtain⟨t2,rfl⟩:=r2;exact⟨t,o,t1,t2,n,rfl,ho,gX,hd⟩
theorem Q8{P:aC}{w:ay}{H:Hp}{h0:Heap}(ok:bJ P w H h0){ys:List V}{its:List aa}{qs:List Pr}(rv:Vals ys its)(ql:PL H ys qs):∀us:List aa,(∀u∈us,u∈its)->∃zs,Vals zs us/\PL H zs (us.map (jG h0))
 | [],_=>⟨[],.nil,.nil⟩
 | u::us,h=>by
  obtain⟨y,hy,ry⟩:=Ck rv u (h u (aZ ..));obtain⟨zs,rz,hz⟩:=Q8 ok rv ql us λx hx=>h x (bM _ hx);obtain⟨t,q,_,rfl,e2⟩:=ql.mem y hy;have hu:u=aO t:=ry;subst hu;exact⟨_,.cons ry rz,.cons ⟨t,rfl,by rw[CI (Jj ok e2)];exact e2⟩ hz⟩
theorem ZmD{h0:Heap}(ok:bJ P w H h0):∀{ys:List V}{its:List aa}{qs:List Pr},Vals ys its->PL H ys qs->its.map (jG h0)=qs:=by
 intro ys its qs h
 induction h generalizing qs with
 | nil =>
  intro g;cases g;rfl
 | cons r _ ih =>
  intro g;cases g with
  | cons g gs =>
   obtain⟨p,rfl,e2⟩:=g;have hu:_=aO p:=r;subst hu;rw[ck,ih gs,CI (Jj ok e2)]
variable{ab:List (List Key×V)}{xs:List (List Key×Addr×aa)}
theorem Znj(h:aN (λ(p:List Key×V)(q:List Key×Addr×aa)=>p.1=q.1/\H q.2.1=some (.tup (p.1.map kV))/\RelV p.2 q.2.2) ab xs):∀{ps:List Pr},ab.map (·.1)=ps.map pK->∃ys,Vals ys (xs.map λx=>aO x.2.1)/\PL H ys ps:=by
 induction h with
 | nil =>
  intro ps e;cases ps with
  | nil=>exact⟨[],.nil,.nil⟩
  | cons n ns=>cases e
 | @cons p q l m r t ih =>
  intro ps e;cases ps with
  | nil=>cases e
  | cons n ns =>
   rw[ck,ck] at e;obtain⟨e1,e2⟩:=uI e;obtain⟨ys,h1,h2⟩:=ih e2;refine⟨.ref q.2.1::ys,.cons rfl h1,.cons ⟨q.2.1,rfl,?_⟩ h2⟩;have h3:=r.2.1;rw[e1] at h3;exact h3
theorem OC{ab:List (Key×V)}{ps:List (Key×aa)}(h:KV ab ps):∀{es:List jO},Xc (ZF P w) es ps->Vals (ab.map λp=>kV p.1) (es.map (·.key)):=by
 have h':aN (λ(p:Key×V)(q:Key×aa)=>p.1=q.1/\RelV p.2 q.2) ab ps:=h;clear h
 induction h' with
 | nil =>
  intro es h2;cases h2;exact .nil
 | @cons a b l m r t ih =>
  intro es h2;cases h2 with
  | cons h1 h2 h3 =>
   refine .cons ?_ (ih h3);rw[<- r.1] at h1;have nJ:oo a.1 _=true:=h1;rcases ZZ nJ with⟨i,t,he,hk⟩|⟨x,t,he,hk⟩
   ·show RelV (kV a.1) _;rw[he];exact⟨t,hk⟩
   ·show RelV (kV a.1) _;rw[he];exact⟨t,hk⟩
def KL(H:Hp)(ys:List V)(ks:List (List Key)):Prop:=aN (λz k=>∃b,z=V.ref b/\H b=some (.tup (k.map kV))) ys ks
theorem Zm1(h:aN (λ(p:List Key×V)(q:List Key×Addr×aa)=>p.1=q.1/\H q.2.1=some (.tup (p.1.map kV))/\RelV p.2 q.2.2) ab xs):∃ys,Vals ys (xs.map λx=>aO x.2.1)/\KL H ys (ab.map (·.1)):=by
 induction h with
 | nil=>exact⟨[],.nil,.nil⟩
 | @cons p q l m r t ih =>
  obtain⟨ys,h1,h2⟩:=ih;exact⟨.ref q.2.1::ys,.cons rfl h1,.cons ⟨q.2.1,rfl,r.2.1⟩ h2⟩
theorem KL.ZAR:∀{ys:List V}{qs:List Qd},KL H ys (qs.map jF)->QL H ys qs:=by
 intro ys qs h
 induction qs generalizing ys with
 | nil =>
  cases h;exact .nil
 | cons q qs ih =>
  rw[ck] at h;cases h with
  | cons r t =>
   obtain⟨b,e1,e2⟩:=r;exact .cons ⟨b,e1,e2⟩ (ih t)
theorem HG{es:Array jO}{acc:Array aa}(hit:Ba (λi v=>∃e,es[i]?= some e/\v=e.key) acc es.size):acc.toList=es.toList.map (·.key):=by
 refine Bf λj=>?_;rw[jM,bW,jM];cases hj:acc[j]? with
 | none =>
  have h3:acc.size<=j:=E2.mp hj;rw[hit.1] at h3;rw[rP h3];rfl
 | some v =>
  obtain⟨e,h1,rfl⟩:=hit.2 j v hj;rw[h1];rfl
variable{X:Cx}
theorem ZfN(hc:X.calm=true):hX X (.type "list") (λxs H Q=>∃(d:Addr)(ab:List (Key×V)),xs=[.ref d]/\H d=some (.dK ab)/\∀l,H l=none->Q (.ref l) (upd H l (.lst (ab.map λp=>kV p.1)))):=by
 intro pins s σ H xs us Q I r h;obtain⟨d,ab,rfl,hd,q⟩:=h;obtain⟨u,rfl,rx⟩:=vals1 r;obtain rfl:u=.ref d:=rx;obtain⟨hl,lo,vs,kv,o,es,ep,ho,hx,fU,Tp,q_,cI⟩:=zg I.ak hd;have rj:=OC kv q_;have mN:es.size=ab.length:=by
  have:=rj.length
  simpa using this.symm
 refine kdl_call (yV lo) (I.ok.hd hc) (⟨o,ho,hx,fU⟩:hZ s.heap d es ep) (by rw[mN];exact hl) λh' tk acc c k e hit=>?_;have jr:=HG hit;have I2:=I.laid (h':=h') (t':=tk) (a:=s.heap.objs.size) (o:=.lst (ab.map λp=>kV p.1)) k (ax _) (show Z7 X.prog X.w _ h' _ (.lst (ab.map λp=>kV p.1)) from⟨by rw[ar];exact hl,acc.toList,c,by rw[jr];exact rj,e⟩);exact⟨.ref s.heap.objs.size,_,I2,rfl,q _ (I.ak.fresh (ax _))⟩
theorem Zs(hc:X.calm=true):hX X (.type "list") (λxs H Q=>∃(d:Addr)(ab:List (List Key×V)),xs=[.ref d]/\H d=some (.dT ab)/\∀l ys,H l=none->KL H ys (ab.map (·.1))->Q (.ref l) (upd H l (.lst ys))):=by
 intro pins s σ H xs us Q I r h;obtain⟨d,ab,rfl,hd,q⟩:=h;obtain⟨u,rfl,rx⟩:=vals1 r;obtain rfl:u=.ref d:=rx;obtain⟨hl,lo,xs,rel,o,es,ep,ho,hx,fU,mN,cI⟩:=(show Z7 X.prog X.w H s.heap d (.dT ab) from I.ak d _ hd);obtain⟨ys,rv,kl⟩:=Zm1 rel;have Kt:es.toList.map (·.key)=xs.map λx=>aO x.2.1:=by
  rw[mN,gB];rfl
 have fu:ab.length=xs.length:=rel.length;have zQ:es.size=xs.length:=by rw[<- aU,mN,ar]
 have jD:=rv.length;rw[ar] at jD;refine kdl_call (yV lo) (I.ok.hd hc) (⟨o,ho,hx,fU⟩:hZ s.heap d es ep) (by rw[zQ,<- fu];exact hl) λh' tk acc c k e hit=>?_;have jr:=HG hit;have I2:=I.laid (h':=h') (t':=tk) (a:=s.heap.objs.size) (o:=.lst ys) k (ax _) (show Z7 X.prog X.w _ h' _ (.lst ys) from⟨by rw[jD,<- fu];exact hl,acc.toList,c,by rw[jr,Kt];exact rv,e⟩);exact⟨.ref s.heap.objs.size,_,I2,rfl,q _ _ (I.ak.fresh (ax _)) kl⟩
section
variable{prog:aC}{w:ay}{A:aI}{I S:Addr}{fp wr:List Addr}{n:Nat}{P:Nat->aa->Prop}{St:Nat->Heap->Prop}{R:pX->af->Prop}{res:aa}
theorem Zf8(W:Walks prog w A.in1 I fp wr n P St)(hS:S∉fp)(pre:Array aa)(hz:pre.size+n<=sizeLine):∀(k i:Nat)(s:af)(acc:Array aa)(c:Nat),n-i=k->i<=n->St i s.heap->s.heap.get? S=some { cls:=.type "list",data:=.seq (pre++acc) c }->Ba P acc i ->
  (∀(h':Heap)(tk:Nat)(uX:Array aa)(c':Nat),(∀b o,b≠S->b∉wr->s.heap.get? b=some o->h'.get? b=some o)->h'.get? S=some { cls:=.type "list",data:=.seq (pre++uX) c' }->Ba P uX n->R (.ok (.ret res)) { s with heap:=h',toks:=tk }) ->
  codeAny (model prog w) A (.builtin "list.extend.loop" ⟨[.ref S,.ref I,res],[]⟩) R s:=by
 intro k
 induction k with
 | zero =>
  intro i s acc c hk hi bu hl hit q;refine gb VR ?_;unfold dG.«list.extend.loop»;refine ae ?_;have hw:S∉wr:=λz=>hS (W.sub _ z);have ei:i=n:=by lia
  subst ei;refine W.done s _ _ bu λh' tk t7=>?_;exact ai (q h' tk acc c (λb o _ Du e=>t7 b o Du e) (t7 _ _ hw hl) hit)
 | succ k ih =>
  intro i s acc c hk hi bu hl hit q;refine gb VR ?_;unfold dG.«list.extend.loop»;refine ae ?_;have hw:S∉wr:=λz=>hS (W.sub _ z);have aB:i<n:=by lia
  refine W.item i s _ _ aB bu λv h' tk hP qa t7=>?_;have sD:=t7 _ _ hw hl;have hsz:(pre++acc).size=pre.size+i:=by rw[Ml,hit.1]
  refine ae (p8 (s:={ s with heap:=h',toks:=tk }) sD rfl ?_ (by lia) (by rw[pL];lia));refine ai ⟨A9 _ (by decide +kernel),?_⟩;obtain⟨c2,e2⟩:∃c2,(h'.update S (a7 λx=>x.push v)).get? S=some { cls:=.type "list",data:=.seq (pre++acc.push v) c2 }:=by
   refine⟨if(((pre++acc).push v).size == (pre++acc).size)=true then c else c+1,(m_ _ sD rfl).trans ?_⟩
   rw[Array.append_push];rfl
  refine ih (i+1) { s with heap:=h'.update S (a7 λx=>x.push v),toks:=tk } (acc.push v) c2 (by lia) aB (W.frame (i+1) h' _ qa λb hb o e=>?_) e2 ⟨by rw[pL,hit.1],λj u hj=>?_⟩ λh2 L' ZvX c3 gN e3 qS=>q h2 L' ZvX c3 (λb o hb Du e=>?_) e3 qS
  ·rw[iu _ _ (show S≠b from λz=>hS (by rw[z];exact hb))];exact e
  ·rw[Array.getElem?_push] at hj
   split at hj
   ·rename_i ej
    cases hj;rw[ej,hit.1];exact hP
   ·exact hit.2 j u hj
  ·refine gN b o hb Du ?_;show(h'.update S _).get? b=some o;rw[iu _ _ (show S≠b from λz=>hb z.symm)];exact t7 b o Du e
end
theorem ZfP(l d:Addr)(items:Array aa)(n:Nat)(es:Array jO)(ep:Nat)(lo:(d == sysModules)=false)(bt:l≠d)(hsz:items.size+es.size<sizeLine) :
  Bk (dG.«list.extend» ⟨[.ref l,.ref d],[]⟩) (λA R s=>A.handled=none/\s.heap.get? l=some { cls:=.type "list",data:=.seq items n }/\hZ s.heap d es ep/\∀h' tk acc c,(∀b o,b≠l->s.heap.get? b=some o->h'.get? b=some o)->h'.get? l=some { cls:=.type "list",data:=.seq (items++acc) c }->Ba (λi v=>∃e,es[i]?= some e/\v=e.key) acc es.size->R (.ok (.ret .none)) { s with heap:=h',toks:=tk }):=by
 intro prog w A R s h;obtain⟨hh,hl,hr,q⟩:=h;have K:=yV (prog:=prog) (w:=w) (es:=es) (ep:=ep) lo;obtain⟨oI,St,hit,W,st0⟩:=K.iter A.in1 s hh hr;have ht:=K.type s hr;have aB:=aM hl;unfold dG.«list.extend»;change wpAny _ A.in1 (A6 (.ref l) (.ref d) .none) _ _ s;unfold A6;refine ae (uW ht ?_);have h1:(E6 (.ref l) (.ref d) || (dy "dict" == dy "list") || (dy "dict" == dy "tuple"))=false:=by
  have:E6 (.ref l) (.ref d)=(l == d):=rfl;rw[this,nG.mpr bt];rfl
 rw[ah (by rw[h1];decide)];refine ae (hit _ _ ?_);refine ae (eW (K.hint _ _ _ _ (K.keep _ _ hr λb _ o e=>aG _ e) ?_));dsimp only;rw[if_pos (by decide)];refine ae (p7 ?_);unfold ZBW;have b_:(s.heap.push oI).get? l=some { cls:=.type "list",data:=.seq items n }:=aG _ hl;refine ae (ae (p8 (s:={ s with heap:=s.heap.push oI }) b_ rfl ?_ (by lia) (by rw[pL];lia)));have e1:((s.heap.push oI).update l (a7 λx=>x.push .none)).get? l=some { cls:=.type "list",data:=.seq (items.push .none) (if((items.push bg).size == items.size)=true then n else n+1) }:=m_ _ b_ rfl
 have k1:∀b o,b≠l->(s.heap.push oI).get? b=some o->((s.heap.push oI).update l (a7 λx=>x.push .none)).get? b=some o:=λb o hb e=>by
  rw[iu _ _ (show l≠b from λz=>hb z.symm)];exact e
 generalize (if((items.push bg).size == items.size)=true then n else n+1)=c1 at e1
 generalize (s.heap.push oI).update l (a7 λx=>x.push .none)=h1 at e1 k1;refine p8 (s:={ s with heap:=h1 }) e1 rfl ?_ (by rw[pL];lia) (by rw[Vs];lia);have e2:(h1.update l (a7 λx=>x.pop)).get? l=some { cls:=.type "list",data:=.seq (items.push bg).pop (if((items.push bg).pop.size == (items.push bg).size)=true then c1 else c1+1) }:=m_ _ e1 rfl
 rw[Vs] at e2;have k2:∀b o,b≠l->(s.heap.push oI).get? b=some o->(h1.update l (a7 λx=>x.pop)).get? b=some o:=λb o hb e=>by
  rw[iu _ _ (show l≠b from λz=>hb z.symm)];exact k1 b o hb e
 generalize (if(items.size == (items.push bg).size)=true then c1 else c1+1)=c2 at e2
 generalize h1.update l (a7 λx=>x.pop)=h2 at e2 k2;refine ai ⟨A9 _ (by decide +kernel),?_⟩;have hS:l ∉ [s.heap.objs.size,d]:=by
  simp only[aV,ny,p5,not_or];exact⟨bc aB,bt⟩
 refine Zf8 (res:=.none) (R:=R) W hS items (by lia) es.size 0 { s with heap:=h2 } #[] c2 rfl (bz _) (W.frame 0 _ h2 st0 λb hb o e=>k2 b o (λz=>hS (z ▸ hb)) e) (by rw[Array.append_empty];exact e2) ⟨rfl,λj v hj=>by simp at hj⟩ λh' tk acc c k e hi=>?_;refine q h' tk acc c (λb o hb eb=>k b o hb ?_ (k2 b o hb (aG _ eb))) e hi;intro z;rw[ao] at z;exact absurd (aM eb) (by rw[z];exact eU _)
def PJ:V->List V->Hp->VK->Prop:=λx vs H Q=>∃(l d:Addr)(xs:List V)(m:List (Key×V)),x=.ref l/\vs=[.ref d]/\H l=some (.lst xs)/\H d=some (.dK m)/\xs.length+m.length<sizeLine/\Q .aD (upd H l (.lst (xs++m.map λp=>kV p.1)))
theorem Ziw(hc:X.calm=true):yz X "list.extend" PJ:=by
 intro pins s σ H x vs v us Q I rx rv h;obtain⟨l,d,xs,m,rfl,rfl,hH,hD,hz,q⟩:=h;cases rx;obtain⟨u,rfl,ru⟩:=rv.one;cases ru;obtain⟨z,its,n,r,hl,e⟩:=I.iT hH;obtain⟨zl,lo,ws,kv,o,es,ep,ho,hx,fU,Tp,q_,cI⟩:=zg I.ak hD;have rj:=OC kv q_;have mN:es.size=m.length:=by
  have:=rj.length
  simpa using this.symm
 have bt:l≠d:=λz=>by
  rw[z,hD] at hH;cases hH
 refine xQ VX ⟨_,e,rfl⟩ VS (VP _ _)
  (ZfP l d its.toArray n es ep lo bt (by rw[bp,mN,<- hl];exact hz)) ⟨I.ok.hd hc,e,⟨o,ho,hx,fU⟩,λh' tk acc c k e' hi=>?_⟩
 have jr:=HG hi;have ea:its.toArray++acc=(its++es.toList.map (·.key)).toArray:=by
  rw[<- jr];simp
 rw[ea] at e';refine⟨.aD,_,I.write (x:=l) (e:=l) (t':=tk) (by rw[hH];exact trivial) (.inl rfl) k ⟨_,e'⟩ (show Z7 X.prog X.w _ h' l (.lst (xs++m.map λp=>kV p.1)) from⟨?_,_,c,r.append rj,e'⟩),rfl,q⟩;rw[aH,ar];lia
end L2
namespace L2
open PySem PySem.Spec PyProof.Rows
section
variable{X:Cx}{C:Addr}{m x:Str}{ps:List Str}{j k:Nat}{sp:Sp}{o e:Expr}{es:List Expr}{ta:TE}{t:TA}{p pos apos:Pos}
theorem Zm7(G:G9 X.prog X.w X.K X.mg X.base C x ps j sp)(hr:bL k X.A)(hg:Gl X x)(ha:PA X (e::es) t)(hk:j+1<=k:=by decide)(eR:(x == ("__debug__" : Str))=false:=by decide)
  (he:starEach (e::es) X.env=(false,eval e X.env)::starEach es X.env:=by rfl) (bD:(backTo pos (starEach es X.env)).any (·.1)=false:=by rfl):PE X (.Call (.Name x p) (e::es) [] pos) (RH C sp [] E0 t):=by
 obtain⟨f,fd,F,b,M,hm⟩:=G.ex;exact ZnD M F (hr.mono hk) hg hm b .nil vG ha eR he bD
end
variable{pos:Pos}{ta:TE}
theorem ZmQ{X:Cx}{K:au}{e:Expr}{f:Str}(hK:X.K=K)(he:PE X e ta)(hb:attributeBase e f X.env (eval e X.env)=eval e X.env):PE X (.Attribute e f pos) (RV K ta f):=hK ▸ dR he hb
def Zpc(K:au)(ta:TE):TE:=λσ H Q=>ta σ H λx H1=>∃k,CZ K x H1 k/\Q (.bl (!k)) H1
theorem Zm3{X:Cx}{a:Expr}(ha:PE X a ta):PE X (.UnaryOp .Not a pos) (Zpc X.K ta):=by
 intro pins s σ H Q I h;refine UnaryOp_ (aw (ha pins s σ H _ I h) ?_);rintro v s1 ⟨x,H1,I1,r1,q1⟩;obtain⟨c,ht,q1⟩:=q1;refine not_of (aw (Rk pins s1 σ H1 x v (λk H'=>Q (.bl (!k)) H') I1 r1 ⟨c,ht,q1⟩) λb s2 ⟨H2,I2,q2⟩=>⟨.bl (!b),H2,I2,rfl,q2⟩)
end L2
namespace Fg
open PySem L2 g6
inductive dM(f:FQ):Int->Prop
 | e {x:Int}:x∈f.ts->dM f x
 | r {q:av.Qd}:q∈f.qs->dM f q.2.2.1->dM f q.2.2.2->dM f q.1
variable{f:FQ}
theorem tu:∀(G:Gr Str){x:Int},iU f G x->dM f x
 | .nil,_,h=>.e h
 | .cons t w o,x,⟨p,r,hm,hw,ho⟩=>.r (q:=(x,t,p,r)) hm (tu w hw) (tu o ho)
def Zip(n:Nat)(S:List Int):Nat:=((c_ n).map λk:Nat=>if(k:Int)∈S then 0 else 1).sum
theorem Q6{g g':Nat->Nat}:∀{l:List Nat},(∀x∈l,g' x<=g x)->(l.map g').sum<=(l.map g).sum
 | [],_=>ax _
 | y::l,h=>by
  rw[ck,ck,Bj,Bj];have h1:=h y (aZ ..);have h2:=Q6 λx hx=>h x (bM (a:=x) y hx);lia
theorem Pm{g g':Nat->Nat}{k:Nat}(hs:g' k+1<=g k):∀{l:List Nat},(∀x∈l,g' x<=g x)->k∈l->(l.map g').sum+1<=(l.map g).sum
 | [],_,hk=>nomatch hk
 | y::l,h,hk=>by
  rw[ck,ck,Bj,Bj];have hy:=h y (aZ ..);have hl:=λx hx=>h x (bM (a:=x) y hx);rcases aV.mp hk with rfl|hk
  ·have:=Q6 hl;lia
  ·have:=Pm hs hl hk;lia
variable{S:List Int}
theorem Zli{n:Nat}{k:Int}(h0:0<=k)(hk:k<(n:Int))(h:k∉S):Zip n (S ++ [k])+1<=Zip n S:=by
 unfold Zip;have ek:((k.toNat:Nat):Int)=k:=fM h0;refine Pm (k:=k.toNat) ?_ (λx _=>?_) (iY.mpr (by lia))
 ·rw[ek,aj (a9 _ (ao.mpr rfl)),ah h];exact ax _
 ·by_cases hx:(x:Int)∈S
  ·rw[aj (cb _ hx),aj hx];exact ax _
  ·rw[ah hx]
   split <;> lia
theorem ZmB(n:Nat)(S:List Int):Zip n S<=n:=by
 have h:∀l:List Nat,(l.map λk:Nat=>if(k:Int)∈S then 0 else 1).sum<=l.length:=by
  intro l
  induction l with
  | nil=>exact ax _
  | cons a l ih =>
   rw[ck,Bj,bI]
   split <;> lia
 have:=h (c_ n);rw[nq] at this;exact this
def PT(H:Hp)(ys:List V)(es:List Int):Prop:=aN (λ(y:V)(e:Int)=>∃t,y=V.ref t/\H t=some (.tup [.int e,.bl true])) ys es
variable{H H':Hp}
theorem PT.keep:∀{ys:List V}{es:List Int},PT H ys es->(∀b xs,H b=some (.tup xs)->H' b=some (.tup xs))->PT H' ys es:=by
 intro ys es h k;refine aN.cM h λ_ _ z=>?_;obtain⟨p,e1,e2⟩:=z;exact⟨p,e1,k _ _ e2⟩
theorem PT.snoc{H:Hp}{e:Int}{p:Addr}(h:H p=some (.tup [.int e,.bl true])):∀{ys:List V}{es:List Int},PT H ys es->PT H (ys ++ [.ref p]) (es ++ [e]):=λh'=>r8 h' ⟨p,rfl,h⟩
theorem PT.length{H:Hp}:∀{ys:List V}{es:List Int},PT H ys es->ys.length=es.length:=λh=>cw h
def kB(e:Int):Key×V:=(aA e,V.bl true)
theorem PT.pairs:∀{ys:List V}{es:List Int},PT H ys es->aN (λ(y:V)(kv:Key×V)=>∃t,y=.ref t/\H t=some (.tup [kV kv.1,kv.2])) ys (es.map kB):=by
 intro ys es h
 induction h with
 | nil=>exact .nil
 | cons r _ ih =>
  obtain⟨p,e1,e2⟩:=r;exact .cons ⟨p,e1,e2⟩ ih
def ot(S:List Int)(x:Int):List Int:=if x∈S then S else S ++ [x]
theorem Ci{x y:Int}:y∈ot S x↔y∈S\/y=x:=by
 unfold ot
 split
 ·rename_i h
  exact⟨.inl,λz=>z.elim id λz=>z ▸ h⟩
 ·rw[aS,ao]
theorem CA:∀(es:List Int)(m:List (Key×V))(S:List Int),m.map (·.1)=S.map aA->∃S':List Int,((es.map kB).foldl (λm kv=>putK m kv.1 kv.2) m).map (·.1)=S'.map aA/\∀x,x∈S'↔x∈S\/x∈es
 | [],m,S,h=>⟨S,h,λx=>⟨.inl,λz=>z.elim id λz=>nomatch z⟩⟩
 | e::es,m,S,h=>by
  obtain⟨S',h1,h2⟩:=CA es (putK m (aA e) (V.bl true)) (ot S e) (DI.put h e (V.bl true));refine⟨S',h1,λx=>(h2 x).trans ?_⟩;rw[Ci,aV,or_assoc]
variable{m:List (Key×V)}
theorem nZ(h:m.map (·.1)=S.map aA):m.length=S.length:=by
 have:=congrArg fA h
 simpa using this
def CU(qs:List av.Qd)(S:List Int):Prop := ∀q∈qs,q.2.2.1∈S->q.2.2.2∈S->q.1∈S
theorem Zln(he:∀e∈f.ts,e∈S)(hs:CU f.qs S){k:Int}(h:dM f k):k∈S:=by
 induction h with
 | e h=>exact he _ h
 | r h _ _ h1 h2=>exact hs _ h h1 h2
abbrev Pr:=av.Pr
abbrev zm(l:List Pr):Prop:=l.Pairwise (λa b=>av.lN a b=true)
structure mj(f:FQ):Prop where
 n0:0<=f.n
 n8:f.n<=7
 hs:qG f.hs
 ts:qG f.ts
 qs:Zo9 f.qs
 hb:IB f.n f.hs
 tb:IB f.n f.ts
 qb:QB f.n f.qs
 hl:f.hs.length<=70
 tl:f.ts.length<=70
 ql:f.qs.length<=60
 lt:∀q∈f.qs,q.2.1≠SL
def QI(K:au):Sp:=λvs H Q _=>∃(a:Addr)(f:FQ),vs=[.ref a]/\jX H a f/\mj f/\∀(d:Addr)(S:List Int)(H':Hp),Zh H H'->H d=none->DI H' d S->S.length<=200->(∀x,x∈S↔dM f x)->Q (.ref d) H'
def fQ(f:FQ)(R:List av.Qd):Prop := ∀q,q∈R↔q∈f.qs/\dM f q.2.2.1/\dM f q.2.2.2
def eC(A:List Int)(qs:List av.Qd):List av.Qd:=qs.filter λq=>decide (q.2.2.1∈A)&&decide (q.2.2.2∈A)
theorem ZnX{A:List Int}(h:∀x,x∈A↔dM f x):fQ f (eC A f.qs):=λq=>by
 unfold eC;rw[kQ,gA,fB,fB,h,h]
def EI(q:av.Qd):Pr:=(q.2.2.1,q.2.2.2)
def cG(R:List av.Qd)(k:Int)(t:Str):List Pr:=(R.filter λq=>decide (q.1=k)&&decide (q.2.1=t)).map EI
variable{R:List av.Qd}
theorem lc{k:Int}{t:Str}{p:Pr}:p∈cG R k t↔(k,t,p.1,p.2)∈R:=by
 unfold cG;rw[a6];constructor
 ·rintro⟨⟨q1,q2,q3,q4⟩,hq,rfl⟩;obtain⟨h1,h2⟩:=kQ.mp hq;rw[gA,fB,fB] at h2;obtain⟨e1,e2⟩:=h2;have e1:q1=k:=e1;have e2:q2=t:=e2;subst e1 e2;exact h1
 ·intro h;refine⟨_,kQ.mpr ⟨h,?_⟩,rfl⟩;rw[aP rfl,aP rfl];rfl
theorem Zj0(R:List av.Qd)(q:av.Qd)(k:Int)(t:Str):cG (R ++ [q]) k t=cG R k t++if q.1=k/\q.2.1=t then [EI q] else []:=by
 unfold cG;rw[nh,bP]
 congr 1
 rw[pO];by_cases h:q.1=k/\q.2.1=t
 ·rw[aj (by rw[aP h.1,aP h.2];rfl),aj h];rfl
 ·rw[ah (by rw[gA,fB,fB];exact h),ah h];rfl
theorem Zlo(R:List av.Qd)(k:Int)(t:Str):(cG R k t).length<=R.length:=by
 unfold cG;rw[ar];exact nk ..
def dup(x:Int):Pr:=(x,x)
def u_(R:List av.Qd)(l:List Pr)(w:Str)(x:Int):Prop := ∃p∈l,∃r,(p.2,w,x,r)∈R
def kY(ts:List Int)(l:List Pr)(b:Int):Prop := ∃n,(b,n)∈l/\n∈ts
def BQ(ts:List Int)(R:List av.Qd)(l1 l:List Pr)(w:Str)(p:Pr):Prop := ∃n i,(p.1,n)∈l1/\(n,w,i,p.2)∈R/\kY ts l i
inductive iE(ts:List Int)(R:List av.Qd):List (List Pr)->List Str->Str->List (List Pr)->List Str->Prop
 | tag {lv:List (List Pr)} {l:List Pr} {tg:List Str} {w:Str} {ks:List Int}:w≠SL->qG ks->(∀x,x∈ks↔u_ R l w x)->ks ≠ []->iE ts R (lv ++ [l]) tg w ((lv ++ [l]) ++ [ks.map dup]) (tg ++ [w])
 | fin {lv:List (List Pr)} {l1 l l2:List Pr} {tg:List Str} {w:Str}:(∃b,kY ts l b)->zm l2->(∀p,p∈l2↔BQ ts R l1 l w p)->iE ts R ((lv ++ [l1]) ++ [l]) (tg ++ [w]) SL (lv ++ [l2]) tg
def BO(ts:List Int)(R:List av.Qd)(l:List Pr)(tg:List Str)(w:Str):Prop:=(w≠SL/\∀x,¬ u_ R l w x)\/(w=SL/\(tg=[]\/∀b,¬ kY ts l b))
def BM(ts:List Int)(R:List av.Qd)(l:List Pr)(tg:List Str)(w:Str):Prop:=(w=SL/\tg ≠ []/\∃b,kY ts l b)\/∃p∈l,∃i r,(p.2,w,i,r)∈R
structure qg(n:Int)(lv:List (List Pr))(tg:List Str):Prop where
 len:lv.length=tg.length+1
 ri:∀l∈lv,zm l
 bd:∀l∈lv,∀p∈l,(0<=p.1/\p.1<n)/\0<=p.2/\p.2<n
theorem Qq{a b:Pr}:av.lN a b=true↔a.1<b.1\/(a.1=b.1/\a.2<b.2):=by
 simp only[av.lN,av.ox,E3,gA,fB]
theorem OP{ks:List Int}(h:qG ks):zm (ks.map dup):=jQ.mpr (h.imp λeu=>Qq.mpr (.inl eu))
variable{l:List Pr}
theorem ZgO(h:zm l):l.Nodup:=h.imp λ{a b} eu e=>by
 rw[Qq,e] at eu;lia
variable{lv cF:List (List Pr)}{tg bR:List Str}
theorem qg.wQ{w:Str}(h:qg f.n lv tg)(hR:QB f.n R)(s:iE f.ts R lv tg w cF bR):qg f.n cF bR:=by
 obtain⟨h1,h2,h3⟩:=h;cases s with
 | @tag lv l tg w ks hw r m e =>
  refine⟨?_,λx hx=>?_,λx hx p hp=>?_⟩
  ·rw[aH,h1,aH];rfl
  ·rcases aS.mp hx with hx|hx
   ·exact h2 x hx
   ·rw[ao.mp hx];exact OP r
  ·rcases aS.mp hx with hx|hx
   ·exact h3 x hx p hp
   ·rw[ao.mp hx] at hp;obtain⟨k,hk,rfl⟩:=a6.mp hp;obtain⟨p',_,r',hq⟩:=(m k).mp hk;have:=(hR _ hq).2.1;exact⟨this,this⟩
 | @fin lv l1 l l2 tg w hb r m =>
  refine⟨?_,λx hx=>?_,λx hx p hp=>?_⟩
  ·rw[aH,aH,aH,cL,cL,cL] at h1;rw[aH,cL];lia
  ·rcases aS.mp hx with hx|hx
   ·exact h2 x (cb _ (cb _ hx))
   ·rw[ao.mp hx];exact r
  ·rcases aS.mp hx with hx|hx
   ·exact h3 x (cb _ (cb _ hx)) p hp
   ·rw[ao.mp hx] at hp;obtain⟨n,i,e1,e2,_⟩:=(m p).mp hp;exact⟨(h3 l1 (cb _ (a9 _ (ao.mpr rfl))) _ e1).1,(hR _ e2).2.2⟩
def ZpL:List Pr:=(c_ 7).flatMap λa:Nat=>(c_ 7).map λb:Nat=>((a:Int),(b:Int))
theorem Zlr:ZpL.length=49:=by decide +kernel
variable{n:Int}
theorem HV(hn:n<=7)(h:l.Nodup)(hb:∀p∈l,(0<=p.1/\p.1<n)/\0<=p.2/\p.2<n):l.length<=49:=by
 rw[<- Zlr];refine nX h λp hp=>?_;obtain⟨⟨a1,a2⟩,b1,b2⟩:=hb p hp;refine List.mem_flatMap.mpr ⟨p.1.toNat,iY.mpr (by lia),a6.mpr ⟨p.2.toNat,iY.mpr (by lia),?_⟩⟩;rw[fM a1,fM b1]
theorem qg.jn(h:qg n lv tg)(hn:n<=7){l:List Pr}(hl:l∈lv):l.length<=49:=HV hn (ZgO (h.ri l hl)) (h.bd l hl)
def cy(ex:List Addr)(H H':Hp):Prop := ∀b o,b∉ex->H b=some o->H' b=some o
variable{ex:List Addr}
theorem Zh.rq(s:Zh H H'):cy ex H H':=λb o _ h=>s b o h
theorem cy.upd{ex:List Addr}{H H':Hp}{a:Addr}{o:HO}(k:cy ex H H')(h:a∈ex):cy ex H (L2.upd H' a o):=λb u hb e=>by
 have bt:b≠a:=λz=>hb (by rw[z];exact h);rw[Zc bt];exact k b u hb e
def WK(ex:List Addr)(H:Hp)(a:Addr)(W:Str->List Pr):Prop:=a∉ex/\∃(mk:List (Key×V))(ts:List Str),H a=some (.dK mk)/\mk.map (·.1)=ts.map br/\ts.length<=900/\∀t,(bj mk (br t)=none/\W t=[])\/∃l zs,bj mk (br t)=some (.ref l)/\l∉ex/\H l=some (.lst zs)/\PL H zs (W t)/\W t ≠ []
def WI(ex:List Addr)(H:Hp)(d:Addr)(R:List av.Qd):Prop:=d∉ex/\∃(m:List (Key×V))(D:Int->Option Addr),H d=some (.dK m)/\(∀k,bj m (aA k)=(D k).map V.ref)/\(∀k,D k=none->∀t,cG R k t=[])/\∀k a,D k=some a->WK ex H a λt=>cG R k t
def mG(H H':Hp):Prop := ∀b xs,H b=some (.tup xs)->H' b=some (.tup xs)
theorem WK.keep{ex:List Addr}{H H':Hp}{a:Addr}{W:Str->List Pr}(h:WK ex H a W)(k:cy ex H H')(kt:mG H H'):WK ex H' a W:=by
 obtain⟨h1,mk,ts,h2,h3,h4,h5⟩:=h;refine⟨h1,mk,ts,k _ _ h1 h2,h3,h4,λt=>?_⟩;rcases h5 t with h|⟨l,zs,e1,e2,e3,e4,e5⟩
 ·exact .inl h
 ·exact .inr ⟨l,zs,e1,e2,k _ _ e2 e3,e4.keep kt,e5⟩
theorem WI.keep{ex:List Addr}{H H':Hp}{d:Addr}{R:List av.Qd}(h:WI ex H d R)(k:cy ex H H')(kt:mG H H'):WI ex H' d R:=by
 obtain⟨h1,m,D,h2,h3,h4,h5⟩:=h;exact⟨h1,m,D,k _ _ h1 h2,h3,h4,λx a e=>(h5 x a e).keep k kt⟩
variable{ts:List Str}
theorem KS.has(h:m.map (·.1)=ts.map br)(x:Str):(bj m (br x)).isSome=decide (x∈ts):=by
 rw[<- ji];have e1:(m.any λkv=>decide (kv.1=(br x:Key)))=(m.map (·.1)).any (λy=>decide (y=(br x:Key))):=by rw[Ff];rfl
 rw[e1,h,Ff,mY,uH,fB];constructor
 ·rintro⟨y,hy,h⟩;have:=bK h;injection this with this;rw[<- this];exact hy
 ·intro hx;exact⟨x,hx,aP rfl⟩
theorem KS.new(h:m.map (·.1)=ts.map br){x:Str}(v:V)(hn:bj m (br x)=none):(putK m (br x) v).map (·.1)=(ts ++ [x]).map br:=by
 rw[Cf v hn,bP,bP,h];rfl
def eY(ex:List Addr)(H:Hp)(zs:List V)(lv:List (List Pr)):Prop:=aN (λz l=>∃p xs,z=V.ref p/\p∉ex/\H p=some (.lst xs)/\PL H xs l) zs lv
theorem eY.keep{ex:List Addr}{H H':Hp}(k:cy ex H H')(kt:mG H H'):∀{zs:List V}{lv:List (List Pr)},eY ex H zs lv->eY ex H' zs lv:=by
 intro zs lv h;refine aN.cM h λ_ _ z=>?_;obtain⟨p,xs,e1,e2,e3,e4⟩:=z;exact⟨p,xs,e1,e2,k _ _ e2 e3,e4.keep kt⟩
theorem eY.length{ex:List Addr}{H:Hp}{zs:List V}{lv:List (List Pr)}(h:eY ex H zs lv):zs.length=lv.length:=cw h
theorem eY.last:∀{lv:List (List Pr)}{zs:List V}{l:List Pr},eY ex H zs (lv ++ [l])->∃zs' p xs,zs=zs' ++ [V.ref p]/\eY ex H zs' lv/\p∉ex/\H p=some (.lst xs)/\PL H xs l:=by
 intro lv zs l h;obtain⟨zs',z,rfl,h',p,xs,rfl,r⟩:=aN.UB h;exact⟨zs',p,xs,rfl,h',r⟩
theorem eY.snoc{ex:List Addr}{H:Hp}{p:Addr}{xs:List V}{l:List Pr}(h1:p∉ex)(h2:H p=some (.lst xs))(h3:PL H xs l){zs:List V}{lv:List (List Pr)}(h:eY ex H zs lv):eY ex H (zs ++ [.ref p]) (lv ++ [l]):=r8 h ⟨p,xs,rfl,h1,h2,h3⟩
def LU(p df dw L T:Addr):List (Str×V):=[("form",.ref p),("final",.ref df),("ways",.ref dw),("levels",.ref L),("tags",.ref T)]
structure iC(K:au)(C:Addr):Prop where
 cls:jc K C
 n1:lq K C "form"
 n2:lq K C "final"
 n3:lq K C "ways"
 n4:lq K C "levels"
 n5:lq K C "tags"
structure bT(C:Addr)(H:Hp)(a L T:Addr)(ex:List Addr)(f:FQ)(R:List av.Qd)(lv:List (List Pr))(tg:List Str):Prop where
 ok:mj f
 rk:fQ f R
 st:qg f.n lv tg
 ne:L≠T
 al:∀x∈ex,x ∉ [L,T]/\∃xs,H x=some (.lst xs)
 ho:∃(dx p df dw:Addr)(ns:List Int)(zs:List V),H a=some (.ins C dx (LU p df dw L T))/\jX H p f/\DI H df ns/\(∀x,x∈ns↔x∈f.ts)/\WI (L::T::ex) H dw R/\H L=some (.lst zs)/\eY (L::T::ex) H zs lv/\H T=some (.lst (tg.map V.str))
theorem fQ.qb{f:FQ}{R:List av.Qd}(h:fQ f R)(ok:mj f):QB f.n R:=λq hq=>ok.qb q ((h q).mp hq).1
variable{b L T:Addr}
theorem j8(h1:b≠L)(h2:b≠T):b ∉ [L,T]:=λh=>by
 rcases aV.mp h with h|h
 ·exact h1 h
 ·exact h2 (ao.mp h)
variable{ys:List V}
theorem cy.fZ{xs:List V}(k:cy [L,T] H H')(hL:H L=some (.lst xs))(hT:H T=some (.lst ys)):mG H H':=λb zs e=>k b _ (j8 (λz=>by rw[z,hL] at e;cases e) (λz=>by rw[z,hT] at e;cases e)) e
theorem cy.less{fP:List Addr}(k:cy ex H H')(h:∀b∈ex,b∈fP):cy fP H H':=λb o hb e=>k b o (λz=>hb (h b z)) e
theorem sW:∀b ∈ [L,T],b∈L::T::ex:=λb hb=>by
 rcases aV.mp hb with rfl|hb
 ·exact aZ ..
 ·rw[ao.mp hb];exact bM _ (aZ ..)
variable{a C:Addr}
theorem bT.same(h:bT C H a L T ex f R lv tg)(s:Zh H H'):bT C H' a L T ex f R lv tg:=by
 obtain⟨ok,rk,st,ne,al,dx,p,df,dw,ns,zs,h1,h2,h3,h4,h5,h6,h7,h8⟩:=h;have kt:mG H H':=λb xs e=>s _ _ e;exact⟨ok,rk,st,ne,λx hx=>⟨(al x hx).1,let ⟨xs,e⟩:=(al x hx).2;⟨xs,s _ _ e⟩⟩,dx,p,df,dw,ns,zs,s _ _ h1,h2.same s,h3.same s,h4,h5.keep (Zh.rq s) kt,s _ _ h6,h7.keep (Zh.rq s) kt,s _ _ h8⟩
theorem bT.fresh(h:bT C H a L T ex f R lv tg){b:Addr}(hb:H b=none):b∉L::T::ex:=λhm=>by
 obtain⟨dx,p,df,dw,ns,zs,h1,h2,h3,h4,h5,h6,h7,h8⟩:=h.ho;rcases aV.mp hm with rfl|hm
 ·rw[hb] at h6;cases h6
 ·rcases aV.mp hm with rfl|hm
  ·rw[hb] at h8;cases h8
  ·obtain⟨xs,e⟩:=(h.al b hm).2;rw[hb] at e;cases e
theorem bT.move{zs':List V}(h:bT C H a L T ex f R lv tg)(k:cy [L,T] H H')(st:qg f.n cF bR)(e1:H' L=some (.lst zs'))(e2:eY (L::T::ex) H' zs' cF)(e3:H' T=some (.lst (bR.map V.str))):bT C H' a L T ex f R cF bR:=by
 obtain⟨ok,rk,_,ne,al,dx,p,df,dw,ns,zs,h1,h2,⟨m,h3,eX⟩,h4,h5,h6,h7,h8⟩:=h;have kt:=k.fZ h6 h8;have no:∀b o,H b=some o->(∀xs,o ≠ .lst xs)->b ∉ [L,T]:=λb o e n=>j8 (λz=>by rw[z,h6] at e;injection e with e;exact n _ e.symm) (λz=>by rw[z,h8] at e;injection e with e;exact n _ e.symm);refine⟨ok,rk,st,ne,λx hx=>⟨(al x hx).1,let ⟨xs,e⟩:=(al x hx).2;⟨xs,k _ _ (al x hx).1 e⟩⟩,dx,p,df,dw,ns,zs',k _ _ (no _ _ h1 λ_ z=>nomatch z) h1,?_,⟨m,k _ _ (no _ _ h3 λ_ z=>nomatch z) h3,eX⟩,h4,h5.keep (k.less sW) kt,e1,e2,e3⟩
 obtain⟨f1,f2,f3,zf,a1,a2,a3,a4,a5⟩:=h2;exact⟨f1,f2,f3,zf,kt _ _ a1,kt _ _ a2,kt _ _ a3,kt _ _ a4,a5.keep kt⟩
theorem bT.more(h:bT C H a L T ex f R lv tg)(hb:H b=none):bT C (upd H b (.lst ys)) a L T (b::ex) f R lv tg:=by
 have s:Zh H (upd H b (.lst ys)):=Zh.new hb;have hf:=h.fresh hb;obtain⟨ok,rk,st,ne,al,dx,p,df,dw,ns,zs,h1,h2,h3,h4,⟨w1,m,D,w2,w3,w4,w5⟩,h6,h7,h8⟩:=h;have kt:mG H (upd H b (.lst ys)):=λb xs e=>s _ _ e;have uC:∀c o,H c=some o->c∉L::T::ex->c∉L::T::b::ex:=λc o e hc hm=>by
  rcases aV.mp hm with rfl|hm
  ·exact hc (aZ ..)
  ·rcases aV.mp hm with rfl|hm
   ·exact hc (bM _ (aZ ..))
   ·rcases aV.mp hm with rfl|hm
    ·rw[hb] at e;cases e
    ·exact hc (bM _ (bM _ hm))
 have oV:∀{zs:List V}{lv:List (List Pr)},eY (L::T::ex) H zs lv->eY (L::T::b::ex) (upd H b (.lst ys)) zs lv:=λ{zs lv} h=>by
  induction h with
  | nil=>exact .nil
  | cons r t ih =>
   obtain⟨p,xs,e1,e2,e3,e4⟩:=r;exact .cons ⟨p,xs,e1,uC _ _ e3 e2,s _ _ e3,e4.keep kt⟩ ih
 refine⟨ok,rk,st,ne,λx hx=>?_,dx,p,df,dw,ns,zs,s _ _ h1,h2.same s,h3.same s,h4,⟨uC _ _ w2 w1,m,D,s _ _ w2,w3,w4,λk a' e=>?_⟩,s _ _ h6,oV h7,s _ _ h8⟩
 ·rcases aV.mp hx with rfl|hx
  ·exact⟨λz=>hf (sW _ z),ys,Za⟩
  ·obtain⟨z1,xs,z2⟩:=al x hx;exact⟨z1,xs,s _ _ z2⟩
 ·obtain⟨u1,mk,ts,u2,u3,u4,u5⟩:=w5 k a' e;refine⟨uC _ _ u2 u1,mk,ts,s _ _ u2,u3,u4,λt=>?_⟩;rcases u5 t with h|⟨l,zs,g1,g2,g3,g4,g5⟩
  ·exact .inl h
  ·exact .inr ⟨l,zs,g1,uC _ _ g3 g2,s _ _ g3,g4.keep kt,g5⟩
theorem bT.put(h:bT C H a L T ex f R lv tg)(hb:b∈ex):bT C (upd H b (.lst ys)) a L T ex f R lv tg:=by
 obtain⟨ok,rk,st,ne,al,dx,p,df,dw,ns,zs,h1,h2,⟨md,h3,eX⟩,h4,h5,h6,h7,h8⟩:=h;obtain⟨nb,xb,eb⟩:=al b hb;have k:cy (L::T::ex) H (upd H b (.lst ys)):=cy.upd (Zh.rq (Zh.refl H)) (bM _ (bM _ hb));have kt:mG H (upd H b (.lst ys)):=iF eb;have kn:∀c o,H c=some o->(∀xs,o ≠ .lst xs)->(upd H b (.lst ys)) c=some o:=λc o e n=>by
  rw[Zc (λz=>by rw[z,eb] at e;injection e with e;exact n _ e.symm)];exact e
 refine⟨ok,rk,st,ne,λx hx=>⟨(al x hx).1,?_⟩,dx,p,df,dw,ns,zs,kn _ _ h1 (λ_ z=>nomatch z),?_,⟨md,kn _ _ h3 (λ_ z=>nomatch z),eX⟩,h4,h5.keep k kt,?_,h7.keep k kt,?_⟩
 ·by_cases e:x=b
  ·rw[e];exact⟨ys,Za⟩
  ·obtain⟨xs,z⟩:=(al x hx).2;exact⟨xs,by rw[Zc e];exact z⟩
 ·obtain⟨f1,f2,f3,zf,a1,a2,a3,a4,a5⟩:=h2;exact⟨f1,f2,f3,zf,kt _ _ a1,kt _ _ a2,kt _ _ a3,kt _ _ a4,a5.keep kt⟩
 ·rw[Zc (λz=>nb (by rw[<- z];exact aZ ..))];exact h6
 ·rw[Zc (λz=>nb (by rw[<- z];exact bM _ (aZ ..)))];exact h8
theorem bT.UC(h:bT C H a L T ex f R lv tg):∃lv0 l,lv=lv0 ++ [l]:=by
 have:=h.st.len;rcases xy lv with rfl|⟨lv0,l,rfl⟩
 ·rw[lX] at this;lia
 ·exact⟨lv0,l,xx ..⟩
structure WS(H5 H:Hp)(d:Addr)(m:List (Key×V))(D:Int->Option Addr)(mk:Int->List (Key×V))(tf:Int->List Str)(Lf:Int->Str->Option Addr)(W:Int->Str->List Pr)(c:Nat):Prop where
 kp:∀b o,b≠d->H5 b=some o->H b=some o
 h5:∃o,H5 d=some o
 hm:H d=some (.dK m)
 ml:m.length<=c
 vm:∀k,bj m (aA k)=(D k).map V.ref
 dk:∀k a,D k=some a->H5 a=none/\H a=some (.dK (mk k))/\(mk k).map (·.1)=(tf k).map br/\(tf k).length<=c/\∀t,bj (mk k) (br t)=(Lf k t).map V.ref
 dn:∀k t,D k=none->Lf k t=none
 ln:∀k t,Lf k t=none->W k t=[]
 ls:∀k t l,Lf k t=some l->H5 l=none/\∃zs,H l=some (.lst zs)/\PL H zs (W k t)
 di:∀k k' a,D k=some a->D k'=some a->k=k'
 li:∀k t k' t' l,Lf k t=some l->Lf k' t'=some l->k=k'/\t=t'
variable{H5:Hp}{d:Addr}{D:Int->Option Addr}{mk:Int->List (Key×V)}{tf:Int->List Str}{Lf:Int->Str->Option Addr}{W:Int->Str->List Pr}{c:Nat}
theorem WS.same(h:WS H5 H d m D mk tf Lf W c)(s:Zh H H'):WS H5 H' d m D mk tf Lf W c where
 kp:=λb o hb e=>s _ _ (h.kp b o hb e)
 h5:=h.h5
 hm:=s _ _ h.hm
 ml:=h.ml
 vm:=h.vm
 dk:=λk a e=>by
  obtain⟨a1,a2,a3⟩:=h.dk k a e;exact⟨a1,s _ _ a2,a3⟩
 dn:=h.dn
 ln:=h.ln
 ls:=λk t l e=>by
  obtain⟨a1,zs,a2,a3⟩:=h.ls k t l e;exact⟨a1,zs,s _ _ a2,a3.keep λb xs e=>s _ _ e⟩
 di:=h.di
 li:=h.li
theorem WS.AR(h:WS H5 H d m D mk tf Lf W c){b:Addr}(hb:H5 b=none):b≠d:=λz=>by
 obtain⟨o,ho⟩:=h.h5;rw[z,ho] at hb;cases hb
theorem WS.ZAi(h:WS H5 H d m D mk tf Lf W c){k:Int}{d0:Addr}(hk:D k=none)(e0:H d0=some (.dK []))(f0:H5 d0=none)(hf:∀k',D k'≠some d0) :
  WS H5 (upd H d (.dK (putK m (aA k) (.ref d0)))) d (putK m (aA k) (.ref d0)) (λk'=>if k'=k then some d0 else D k') (λk'=>if k'=k then [] else mk k') (λk'=>if k'=k then [] else tf k') Lf W (c+1) where
 kp:=λb o hb e=>by rw[Zc hb];exact h.kp b o hb e
 h5:=h.h5
 hm:=Za
 ml:=by have:=yH m (aA k) (.ref d0);have:=h.ml;lia
 vm:=λk'=>by
  rw[O7];by_cases e:k'=k
  ·subst e;rw[aj rfl,aj rfl];rfl
  ·rw[ah (λz=>e (by injection z)),ah e];exact h.vm k'
 dk:=λk' a e=>by
  by_cases e1:k'=k
  ·subst e1;simp only[aj] at e ⊢;injection e with e;subst e;refine⟨f0,by rw[Zc (h.AR f0)];exact e0,rfl,bz _,λt=>?_⟩;rw[h.dn k' t hk];rfl
  ·simp only[ah e1] at e ⊢;obtain⟨a1,a2,a3,a4,a5⟩:=h.dk k' a e;exact⟨a1,by rw[Zc (h.AR a1)];exact a2,a3,by lia,a5⟩
 dn:=λk' t e=>by
  by_cases e1:k'=k
  ·subst e1;simp only[aj] at e;cases e
  ·simp only[ah e1] at e;exact h.dn k' t e
 ln:=h.ln
 ls:=λk' t l e=>by
  obtain⟨a1,zs,a2,a3⟩:=h.ls k' t l e;refine⟨a1,zs,by rw[Zc (h.AR a1)];exact a2,a3.keep λb xs z=>?_⟩;rw[Zc (λy=>by rw[y,h.hm] at z;cases z)];exact z
 di:=λk1 k2 a e1 e2=>by
  by_cases c1:k1=k
  ·by_cases c2:k2=k
   ·rw[c1,c2]
   ·simp only[aj c1,ah c2] at e1 e2;injection e1 with e1;rw[<- e1] at e2;exact absurd e2 (hf k2)
  ·by_cases c2:k2=k
   ·simp only[ah c1,aj c2] at e1 e2;injection e2 with e2;rw[<- e2] at e1;exact absurd e1 (hf k1)
   ·simp only[ah c1,ah c2] at e1 e2;exact h.di k1 k2 a e1 e2
 li:=h.li
theorem WS.ZAj(h:WS H5 H d m D mk tf Lf W c){k:Int}{t:Str}{a l0:Addr}(hk:D k=some a)(hl:Lf k t=none)(e0:H l0=some (.lst []))(f0:H5 l0=none)(hf:∀k' t',Lf k' t'≠some l0) :
  WS H5 (upd H a (.dK (putK (mk k) (br t) (.ref l0)))) d m D (λk'=>if k'=k then putK (mk k) (br t) (.ref l0) else mk k') (λk'=>if k'=k then tf k ++ [t] else tf k') (λk' t'=>if k'=k/\t'=t then some l0 else Lf k' t') W (c+1):=by
 obtain⟨b1,b2,b3,b4,b5⟩:=h.dk k a hk;have hv:bj (mk k) (br t)=none:=by rw[b5,hl];rfl
 have nl:l0≠a:=λz=>by rw[z,b2] at e0;cases e0
 have kt:∀b xs,H b=some (.tup xs)->(upd H a (.dK (putK (mk k) (br t) (.ref l0)))) b=some (.tup xs):=λb xs z=>by
  rw[Zc (λy=>by rw[y,b2] at z;cases z)];exact z
 refine⟨λb o hb e=>?_,h.h5,?_,?_,h.vm,λk' a' e=>?_,λk' t' e=>?_,λk' t' e=>?_,λk' t' l e=>?_,h.di,λk1 t1 k2 t2 l e1 e2=>?_⟩
 ·rw[Zc (Zd e b1)];exact h.kp b o hb e
 ·rw[Zc (h.AR b1).symm];exact h.hm
 ·have:=h.ml;lia
 ·by_cases e1:k'=k
  ·subst e1;rw[hk] at e;injection e with e;subst e;simp only[aj];refine⟨b1,Za,KS.new b3 _ hv,by rw[aH,cL];lia,λt'=>?_⟩;rw[O7];by_cases e2:t'=t
   ·subst e2;simp only[gF,true_and];rfl
   ·rw[ah (λz=>e2 (by injection z))];simp only[e2,and_false,eV];exact b5 t'
  ·simp only[ah e1];obtain⟨a1,a2,a3,a4,a5⟩:=h.dk k' a' e;have na:a'≠a:=λz=>by
    subst z;exact e1 (h.di k' k _ e hk)
   refine⟨a1,by rw[Zc na];exact a2,a3,by lia,λt'=>?_⟩;rw[ah (λz=>e1 z.1)];exact a5 t'
 ·have dS : ¬ (k'=k/\t'=t):=λz=>by rw[z.1,hk] at e;cases e
  simp only[ah dS];exact h.dn k' t' e
 ·by_cases hh:k'=k/\t'=t
  ·simp only[aj hh] at e;cases e
  ·simp only[ah hh] at e;exact h.ln k' t' e
 ·by_cases hh:k'=k/\t'=t
  ·obtain⟨rfl,rfl⟩:=hh;simp only[and_self,gF] at e;injection e with e;subst e;exact⟨f0,[],by rw[Zc nl];exact e0,by rw[h.ln _ _ hl];exact .nil⟩
  ·simp only[ah hh] at e;obtain⟨a1,zs,a2,a3⟩:=h.ls k' t' l e;exact⟨a1,zs,by rw[Zc (λy=>by rw[y,b2] at a2;cases a2)];exact a2,a3.keep kt⟩
 ·by_cases c1:k1=k/\t1=t
  ·by_cases c2:k2=k/\t2=t
   ·exact⟨c1.1.trans c2.1.symm,c1.2.trans c2.2.symm⟩
   ·simp only[aj c1,ah c2] at e1 e2;injection e1 with e1;rw[<- e1] at e2;exact absurd e2 (hf k2 t2)
  ·by_cases c2:k2=k/\t2=t
   ·simp only[ah c1,aj c2] at e1 e2;injection e2 with e2;rw[<- e2] at e1;exact absurd e1 (hf k1 t1)
   ·simp only[ah c1,ah c2] at e1 e2;exact h.li _ _ _ _ l e1 e2
theorem WS.app(h:WS H5 H d m D mk tf Lf W c){k:Int}{t:Str}{l pt:Addr}{zs:List V}{p:Pr}{W':Int->Str->List Pr}(hl:Lf k t=some l)(e1:H l=some (.lst zs))(ep:H pt=some (tp p))(hW:∀k' t',W' k' t'=W k' t'++if k=k'/\t=t' then [p] else []) :
  WS H5 (upd H l (.lst (zs ++ [.ref pt]))) d m D mk tf Lf W' c:=by
 obtain⟨b1,zs',b2,b3⟩:=h.ls k t l hl;rw[e1] at b2;injection b2 with b2;injection b2 with b2;subst b2;have kt:=iF (zs:=zs ++ [.ref pt]) e1;refine⟨λb o hb e=>?_,h.h5,?_,h.ml,h.vm,λk' a' e=>?_,h.dn,λk' t' e=>?_,λk' t' l' e=>?_,h.di,h.li⟩
 ·rw[Zc (Zd e b1)];exact h.kp b o hb e
 ·rw[Zc (h.AR b1).symm];exact h.hm
 ·obtain⟨a1,a2,a3⟩:=h.dk k' a' e;exact⟨a1,by rw[Zc (λy=>by rw[y,e1] at a2;cases a2)];exact a2,a3⟩
 ·have dS : ¬ (k=k'/\t=t'):=λz=>by rw[<- z.1,<- z.2,hl] at e;cases e
  rw[hW,ah dS,h.ln k' t' e];rfl
 ·by_cases hh:k=k'/\t=t'
  ·obtain⟨rfl,rfl⟩:=hh;rw[hl] at e;injection e with e;subst e;refine⟨b1,_,Za,?_⟩;rw[hW,aj ⟨rfl,rfl⟩];exact(PL.snoc ep b3).keep kt
  ·obtain⟨a1,zs',a2,a3⟩:=h.ls k' t' l' e;have nl:l'≠l:=λy=>by
    subst y;have:=h.li k' t' k t _ e hl;exact hh ⟨this.1.symm,this.2.symm⟩
   refine⟨a1,zs',by rw[Zc nl];exact a2,?_⟩;rw[hW,ah hh,fN];exact a3.keep kt
theorem WS.out(h:WS H5 H d m D mk tf Lf (cG R) c)(hex:∀b∈ex,H b=none)(hc:c<=900)(bt:∀k t l,Lf k t=some l->cG R k t ≠ []):WI ex H d R:=by
 have no:∀b o,H b=some o->b∉ex:=λb o e hb=>by
  rw[hex b hb] at e;cases e
 refine⟨no _ _ h.hm,m,D,h.hm,h.vm,λk e t=>h.ln k t (h.dn k t e),λk a e=>?_⟩;obtain⟨a1,a2,a3,a4,a5⟩:=h.dk k a e;refine⟨no _ _ a2,mk k,tf k,a2,a3,by lia,λt=>?_⟩;cases hl:Lf k t with
 | none=>exact .inl ⟨by rw[a5,hl];rfl,h.ln k t hl⟩
 | some l =>
  obtain⟨b1,zs,b2,b3⟩:=h.ls k t l hl;exact .inr ⟨l,zs,by rw[a5,hl];rfl,no _ _ b2,b2,b3,bt k t l hl⟩
def yP(C:Addr):Sp:=λvs H Q _=>∃(a L T:Addr)(ex:List Addr)(f:FQ)(R:List av.Qd)(lv:List (List Pr))(tg:List Str)(k:Int)(t:Str),vs=[.ref a,.int k,.str t]/\bT C H a L T ex f R lv tg/\∀(r:Addr)(zs:List V)(H':Hp),Zh H H'->H' r=some (.lst zs)->PL H' zs (cG R k t)->Q (.ref r) H'
def yN(C:Addr):Sp:=λvs H Q _=>∃(a L T:Addr)(ex:List Addr)(f:FQ)(R:List av.Qd)(lv:List (List Pr))(l:List Pr)(tg:List Str),vs=[.ref a]/\bT C H a L T ex f R (lv ++ [l]) tg/\∀(d:Addr)(ns:List Int)(H':Hp),Zh H H'->H d=none->DI H' d ns->ns.length<=5000->(∀x,x∈ns↔kY f.ts l x)->Q (.ref d) H'
def Jl(C:Addr):Sp:=λvs H Q _=>∃(a L T:Addr)(ex:List Addr)(f:FQ)(R:List av.Qd)(lv:List (List Pr))(l:List Pr)(tg:List Str)(w:Str),vs=[.ref a,.str w]/\bT C H a L T ex f R (lv ++ [l]) tg/\tg.length<=900/\w≠SL /\
 (∀H',Zh H H'->BO f.ts R l tg w->Q (.bl false) H')/\∀(H':Hp)(cF:List (List Pr))(bR:List Str),cy [L,T] H H'->bT C H' a L T ex f R cF bR->iE f.ts R (lv ++ [l]) tg w cF bR->Q (.bl true) H'
def Jh(C:Addr):Sp:=λvs H Q _=>∃(a L T:Addr)(ex:List Addr)(f:FQ)(R:List av.Qd)(lv:List (List Pr))(l:List Pr)(tg:List Str),vs=[.ref a]/\bT C H a L T ex f R (lv ++ [l]) tg/\tg.length<=900 /\
 (∀H',Zh H H'->BO f.ts R l tg SL->Q (.bl false) H')/\∀(H':Hp)(cF:List (List Pr))(bR:List Str),cy [L,T] H H'->bT C H' a L T ex f R cF bR->iE f.ts R (lv ++ [l]) tg SL cF bR->Q (.bl true) H'
def IM(C:Addr):Sp:=λvs H Q _=>∃(a L T:Addr)(ex:List Addr)(f:FQ)(R:List av.Qd)(lv:List (List Pr))(l:List Pr)(tg:List Str)(w:Str),vs=[.ref a,.str w]/\bT C H a L T ex f R (lv ++ [l]) tg/\tg.length<=900 /\
 (∀H',Zh H H'->BO f.ts R l tg w->Q (.bl false) H')/\∀(H':Hp)(cF:List (List Pr))(bR:List Str),cy [L,T] H H'->bT C H' a L T ex f R cF bR->iE f.ts R (lv ++ [l]) tg w cF bR->Q (.bl true) H'
def IT(C:Addr):Sp:=λvs H Q _=>∃(a L T:Addr)(ex:List Addr)(f:FQ)(R:List av.Qd)(lv:List (List Pr))(l:List Pr)(tg:List Str),vs=[.ref a]/\bT C H a L T ex f R (lv ++ [l]) tg/\∀(b:Bool)(H':Hp),Zh H H'->(b=true↔tg=[]/\∃x,kY f.ts l x)->Q (.bl b) H'
def Jd(C:Addr):Sp:=λvs H Q _=>∃(a L T:Addr)(ex:List Addr)(f:FQ)(R:List av.Qd)(lv:List (List Pr))(l:List Pr)(tg:List Str),vs=[.ref a]/\bT C H a L T ex f R (lv ++ [l]) tg/\∀(r:Addr)(ws:List Str)(H':Hp),Zh H H'->H r=none->H' r=some (.lst (ws.map V.str))->ws.Pairwise (λa b=>AX a b=true)->ws.length<=200->(∀w,w∈ws↔BM f.ts R l tg w)->Q (.ref r) H'
def Ji(K:au):Sp:=λvs H Q _=>∃(a:Addr)(ns:List Int)(fi m:Int),vs=[.ref a,.int fi,.int m]/\ag K H a (ns.map V.int)/\ns.length<=63/\0<=fi/\fi<=1000/\0<=m/\m<=1000/\∀(r:Addr)(xs:List Int)(H':Hp),Zh H H'->H r=none->H' r=some (.lst (xs.map V.int))->(xs.length:Int)=m->(∀x∈xs,0<=x/\x<2147483647)->Q (.ref r) H'
def QC:Sp:=λvs H Q _=>∃c:Int,vs=[.int c]/\∀(r:Addr)(ts:List Str)(H':Hp),Zh H H'->H r=none->H' r=some (.lst (ts.map V.str))->ts.length=3->(∀t∈ts,fG t/\t.length<=8)->Q (.ref r) H'
theorem ZnJ{t:Str}(h:fG t):t≠SL:=λe=>by
 have:=h.2 47 (by rw[e];decide);lia
theorem Znn{a b:av.Qd}(e:jF a=jF b):a=b:=by
 obtain⟨a1,a2,a3,a4⟩:=a;obtain⟨b1,b2,b3,b4⟩:=b;injection e with e1 e;injection e with e2 e;injection e with e3 e;injection e with e4 e;injection e1 with e1;injection e2 with e2;injection e3 with e3;injection e4 with e4;have e1:a1=b1:=e1;have e2:a2=b2:=e2;have e3:a3=b3:=e3;have e4:a4=b4:=e4;rw[e1,e2,e3,e4]
theorem ZoF{m:List (List Key×V)}{S:List av.Qd}(h:m.map (·.1)=S.map jF)(x:av.Qd)(v:V):(putK m (jF x) v).map (·.1)=(if x∈S then S else S ++ [x]).map jF:=by
 cases hv:bj m (jF x) with
 | none =>
  have hn:=O8 hv;have hx:x∉S:=λhx=>hn (by rw[h];exact a6.mpr ⟨x,hx,rfl⟩);rw[Cf v hv,ah hx,bP,bP,h];rfl
 | some y =>
  have hi:=P' hv;rw[h] at hi;obtain⟨z,hz,e⟩:=a6.mp hi;have e:=Znn e;subst e;rw[aj hz,<- h];unfold putK;rw[ji,hv,aj (show(some y).isSome=true from rfl),gB];refine pQ λkv _=>?_;show(if kv.1=jF z then(kv.1,v) else kv).1=kv.1
  split <;> rfl
end Fg
namespace L2
open PySem PySem.Spec PyProof.Rows
theorem Hq{lo:Int}{n:Nat}{p:Addr}{g:TG}{tt:TT}{te:TE}{R:Hp->Prop}{gz:St}{H0:Hp}(Pv:Nat->List V->St->Hp->Prop)(h0:Pv 0 [] gz H0)
  (hl:∀i ys σ H,i<=n->Pv i ys σ H->H p=some (.lst ys))
  (hs:∀i ys σ H,i<n->Pv i ys σ H->g (.int (lo+i)) σ H λaL H4=>tt aL H4 λb dY=>if b=true then te aL dY λv H5=>H5 p=some (.lst ys)/\ys.length<sizeLine/\∃m',m'<n-i/\CW n Pv (i+1) m' (ys ++ [v]) aL (upd H5 p (.lst (ys ++ [v])))
   else ∃m',m'<n-i/\CW n Pv (i+1) m' ys aL dY)
  (hd:∀ys σ H,Pv n ys σ H->R H) :
  ∃W:Nat->Nat->List V->St->Hp->Prop,(∃m,W 0 m [] gz H0)/\∀i m ys dF H2,W i m ys dF H2->H2 p=some (.lst ys)/\(((nR lo n).stop i H2/\R H2)\/((nR lo n).go i H2/\∀x H3,(nR lo n).fw i H2 x H3->g x dF H3 λaL H4=>tt aL H4 λb dY=>if b=true then te aL dY λv H5 =>
   H5 p=some (.lst ys)/\ys.length<sizeLine/\∃m',m'<m/\W (i+1) m' (ys ++ [v]) aL (upd H5 p (.lst (ys ++ [v]))) else ∃m',m'<m/\W (i+1) m' ys aL dY)):=by
 refine⟨CW n Pv,⟨_,rfl,bz _,h0⟩,?_⟩;rintro i m ys σ H ⟨rfl,hi,hp⟩;refine⟨hl i ys σ H hi hp,?_⟩;by_cases aB:i<n
 ·refine .inr ⟨aB,?_⟩;rintro x H3 ⟨rfl,rfl⟩;exact hs i ys σ _ aB hp
 ·have e:i=n:=by lia
  subst e;exact .inl ⟨ax _,hd ys σ H hp⟩
end L2
namespace Fg
open PySem L2 g6
variable{f:FQ}{R:List av.Qd}{l:List Pr}{tg:List Str}{w:Str}
theorem BM.nst(h:BM f.ts R l tg w)(ok:mj f)(rk:fQ f R)(n:BO f.ts R l tg w):False:=by
 rcases h with⟨h1,h2,b,hb⟩|⟨p,hp,i,r,h⟩
 ·rcases n with⟨n1,_⟩|⟨_,n1|n1⟩
  ·exact n1 h1
  ·exact h2 n1
  ·exact n1 b hb
 ·rcases n with⟨_,n1⟩|⟨n1,_⟩
  ·exact n1 i ⟨p,hp,r,h⟩
  ·exact ok.lt _ ((rk _).mp h).1 n1
def nU(f:FQ)(R:List av.Qd):Gr Str->Int->Int->Prop
 | .nil,b,n=>b=n
 | .cons t g o,b,n=>∃i r,(b,t,i,r)∈R/\iU f g i/\nU f R o r n
theorem Ct:∀(g h:Gr Str)(b n:Int),nU f R (tH g h) b n↔∃m,nU f R g b m/\nU f R h m n
 | .nil,h,b,n=>⟨λz=>⟨b,rfl,z⟩,λ⟨m,e,z⟩=>by
  have e:b=m:=e;rw[e];exact z⟩
 | .cons t g o,h,b,n=>by
  constructor
  ·rintro⟨i,r,h1,h2,h3⟩;obtain⟨m,h4,h5⟩:=(Ct o h r n).mp h3;exact⟨m,⟨i,r,h1,h2,h4⟩,h5⟩
  ·rintro⟨m,⟨i,r,h1,h2,h4⟩,h5⟩;exact⟨i,r,h1,h2,(Ct o h r n).mpr ⟨m,h4,h5⟩⟩
theorem CH(rk:fQ f R):∀(g:Gr Str)(b:Int),(∃n∈f.ts,nU f R g b n)↔iU f g b
 | .nil,b=>⟨λ⟨n,h1,e⟩=>by
  have e:b=n:=e;rw[e];exact h1,λh=>⟨b,h,rfl⟩⟩
 | .cons t g o,b=>by
  constructor
  ·rintro⟨n,hn,i,r,h1,h2,h3⟩;exact⟨i,r,((rk _).mp h1).1,h2,(CH rk o r).mp ⟨n,hn,h3⟩⟩
  ·rintro⟨i,r,h1,h2,h3⟩;obtain⟨n,hn,h4⟩:=(CH rk o r).mpr h3;exact⟨n,hn,i,r,(rk _).mpr ⟨h1,tu g h2,tu o h3⟩,h2,h4⟩
variable{lv:List (List Pr)}
inductive je(f:FQ)(R:List av.Qd)(hs:List Int):List Str->List Str->List (List Pr)->Prop
 | one {g:Gr Str} {l:List Pr}:gj SL g->(∀p:Pr,p∈l↔p.1∈hs/\nU f R g p.1 p.2)->je f R hs (words SL g) [] [l]
 | snoc {ws tg:List Str} {lv:List (List Pr)} {l l':List Pr} {t:Str} {g:Gr Str}:je f R hs ws tg (lv ++ [l])->t≠SL->gj SL g->(∀p:Pr,p∈l'↔u_ R l t p.1/\nU f R g p.1 p.2)->je f R hs (ws++t::words SL g) (tg ++ [t]) ((lv ++ [l]) ++ [l'])
variable{hs:List Int}
theorem je.start:je f R hs [] [] [hs.map dup]:=by
 refine .one (g:=.nil) trivial λp=>?_;rw[a6];constructor
 ·rintro⟨x,hx,rfl⟩;exact⟨hx,rfl⟩
 ·rintro⟨h1,h2⟩;have h2:p.1=p.2:=h2;exact⟨p.1,h1,MZ rfl h2⟩
theorem ZmP(rk:fQ f R){l1 l l2:List Pr}{t:Str}{g:Gr Str}(m:∀p,p∈l2↔BQ f.ts R l1 l t p)(ml:∀p:Pr,p∈l↔u_ R l1 t p.1/\nU f R g p.1 p.2)(p:Pr):p∈l2↔∃n,(p.1,n)∈l1/\nU f R (.cons t g .nil) n p.2:=by
 rw[m];constructor
 ·rintro⟨n,i,h1,h2,n',h3,h4⟩;exact⟨n,h1,i,p.2,h2,(CH rk g i).mp ⟨n',h4,((ml _).mp h3).2⟩,rfl⟩
 ·rintro⟨n,h1,i,r,h2,h3,h4⟩;have h4:r=p.2:=h4;subst h4;obtain⟨n',h5,h6⟩:=(CH rk g i).mpr h3;exact⟨n,i,h1,h2,n',(ml _).mpr ⟨⟨_,h1,_,h2⟩,h6⟩,h5⟩
theorem ZlF{α : Type}{a : α}{l:List α}:l ++ [a] ≠ []:=λz=>by
 have:=congrArg fA z;rw[aH] at this;exact nomatch this
variable{cF:List (List Pr)}{bR:List Str}
theorem je.wQ{ws:List Str}(rk:fQ f R)(h:je f R hs ws tg lv)(s:iE f.ts R lv tg w cF bR):je f R hs (ws ++ [w]) bR cF:=by
 cases s with
 | @tag lv l tg w ks hw r m e =>
  refine .snoc (g:=.nil) h hw trivial λp=>?_;rw[a6];constructor
  ·rintro⟨x,hx,rfl⟩;exact⟨(m x).mp hx,rfl⟩
  ·rintro⟨h1,h2⟩;have h2:p.1=p.2:=h2;exact⟨p.1,(m _).mpr h1,MZ rfl h2⟩
 | @fin lv0 l1 l l2 _ t hb r m =>
  generalize e1:bR ++ [t]=L9 at h;generalize e2:(lv0 ++ [l1]) ++ [l]=Et at h;cases h with
  | one _ _=>exact absurd e1 ZlF
  | @snoc wsx tgx lvx l1' l' t' g h0 ht hg mg =>
   obtain⟨a1,a2⟩:=rO e1 rfl;injection a2 with a2;obtain⟨b1,b2⟩:=rO e2 rfl;injection b2 with b2;subst a1 a2 b2;obtain⟨b3,b4⟩:=rO b1 rfl;injection b4 with b4;subst b3 b4;have key:=ZmP rk m mg;have aY:gj SL (Gr.cons t g .nil):=⟨ht,hg,trivial⟩;have Ui:words SL (Gr.cons t g .nil)=t::(words SL g ++ [SL]):=by
    show t::(words SL g++SL::words SL Gr.nil)=_;rfl
   generalize e3:lv0 ++ [l1]=lv2 at h0;cases h0 with
   | @one g1 l0 lG m1 =>
    have e4:lv0=[]/\l1=l0:=by
     obtain⟨x1,x2⟩:=rO (s₂ :=[]) (t₂ :=[l0]) e3 rfl;injection x2 with x2;exact⟨x1,x2⟩
    obtain⟨rfl,rfl⟩:=e4;have:=je.one (f:=f) (R:=R) (hs:=hs) (g:=tH g1 (Gr.cons t g .nil)) (l:=l2) (HC lG aY) λp=>by
     rw[key,Ct];constructor
     ·rintro⟨n,h1,h2⟩;exact⟨((m1 _).mp h1).1,n,((m1 _).mp h1).2,h2⟩
     ·rintro⟨h1,n,h2,h3⟩;exact⟨n,(m1 _).mpr ⟨h1,h2⟩,h3⟩
    rw[HH,Ui] at this;rw[lW];exact this
   | @snoc EV ir lv3 l3 l4 t3 g1 h1 wy lG m1 =>
    obtain⟨x1,x2⟩:=rO e3 rfl;injection x2 with x2;subst x1 x2;have:=je.snoc (f:=f) (R:=R) (hs:=hs) (g:=tH g1 (Gr.cons t g .nil)) (l':=l2) h1 wy (HC lG aY) λp=>by
     rw[key,Ct];constructor
     ·rintro⟨n,h1,h2⟩;exact⟨((m1 _).mp h1).1,n,((m1 _).mp h1).2,h2⟩
     ·rintro⟨h1,n,h2,h3⟩;exact⟨n,(m1 _).mpr ⟨h1,h2⟩,h3⟩
    rw[HH,Ui] at this;have e5:(EV++t3::words SL g1++t::words SL g) ++ [SL]=EV++t3::(words SL g1++t::(words SL g ++ [SL])):=by
     simp only[lW,jP]
    rw[e5];exact this
theorem Zk7{x:Str}{xs:List Str}:wB (.str x) (xs.map V.str)=decide (x∈xs):=by
 unfold wB;rw[mY,uH,fB];constructor
 ·rintro⟨y,hy,h⟩;obtain⟨z,hz,rfl⟩:=a6.mp hy;have:z=x:=by simpa[ki] using h
  exact this ▸ hz
 ·intro h;exact⟨V.str x,a6.mpr ⟨x,h,rfl⟩,by simp[ki]⟩
theorem Zi7(xs:List Str):(xs.map V.str).all mz=true:=by
 rw[ME];intro y hy;obtain⟨z,_,rfl⟩:=a6.mp hy;rfl
variable{H:Hp}
theorem via{u t:TS}{D:Ends}{σ : St}(R:St->Hp->Prop)(h2:∀ aq H',R aq H'->t D aq H')(h1:(∀ aq H',R aq H'->t D aq H')->u D σ H):u D σ H:=h1 h2
variable{x dx C:Addr}
theorem made{H':Hp}(hx:H x=none)(Ks:H dx=none)(kb:∀b o,b≠x->(upd (upd H dx (.own x)) x (.ins C dx [])) b=some o->H' b=some o):Zh H H':=λb o e=>kb b o (Zd e hx) (by
 rw[Zc (Zd e hx),Zc (Zd e Ks)];exact e)
theorem making(hx:H x=none)(Ks:H dx=none)(bt:dx≠x):Zh H (upd (upd H dx (.own x)) x (.ins C dx [])):=(Zh.new Ks).trans (Zh.new (by
 rw[Zc bt.symm];exact hx))
theorem Og{b:Addr}(h:(upd (upd H dx (.own x)) x (.ins C dx [])) b=none):H b=none:=by
 by_cases h1:b=x
 ·rw[h1,Za] at h;cases h
 ·rw[Zc h1] at h;by_cases h2:b=dx
  ·rw[h2,Za] at h;cases h
  ·rw[Zc h2] at h;exact h
theorem iE.len{ts:List Int}(s:iE ts R lv tg w cF bR):(w=SL/\tg.length=bR.length+1)\/(w≠SL/\bR.length=tg.length+1):=by
 cases s with
 | tag hw _ _ _=>exact .inr ⟨hw,by rw[aH];rfl⟩
 | fin _ _ _=>exact .inl ⟨rfl,by rw[aH];rfl⟩
theorem KS.put{m:List (Key×V)}{ns:List Str}(h:m.map (·.1)=ns.map br)(x:Str)(v:V):(putK m (br x) v).map (·.1)=(if x∈ns then ns else ns ++ [x]).map br:=by
 have hh:=KS.has h x;unfold putK;rw[ji,hh];by_cases hx:x∈ns
 ·rw[aP hx,aj rfl,aj hx,gB,<- h];refine pQ λkv _=>?_;show(if kv.1=br x then(kv.1,v) else kv).1=kv.1
  split <;> rfl
 ·rw[bx hx,ah (by decide),ah hx,bP,bP,h];rfl
theorem ZiF{t:Str}(h:ly t):nE t=true:=by
 unfold nE;rw[Array.all_eq_true'];intro c hc;have:=h c (Vq.mpr hc);exact aP (by lia)
end Fg
namespace L2
open PySem PySem.Spec PyProof.Rows
theorem Zp{X:Cx}{K:au}(hK:X.K=K):hX X (.type "list") (λxs H Q=>∃p ys,xs=[.ref p]/\(ag K H p ys\/az K H p ys)/\∀l,H l=none->Q (.ref l) (upd H l (.lst ys))):=hK ▸ yE
end L2
namespace Fg
open PySem L2 g6
def iB(P:Addr->Prop)(H:Hp)(zs:List V)(lv:List (List Pr)):Prop:=aN (λz l=>∃p xs,z=V.ref p/\P p/\H p=some (.lst xs)/\PL H xs l) zs lv
theorem iB.keep{P:Addr->Prop}{H H':Hp}(k:∀b o,P b->H b=some o->H' b=some o)(kt:mG H H'):∀{zs:List V}{lv:List (List Pr)},iB P H zs lv->iB P H' zs lv:=by
 intro zs lv h;refine aN.cM h λ_ _ z=>?_;obtain⟨p,xs,e1,e2,e3,e4⟩:=z;exact⟨p,xs,e1,e2,k _ _ e2 e3,e4.keep kt⟩
theorem iB.get{P:Addr->Prop}{H:Hp}:∀{zs:List V}{lv:List (List Pr)},iB P H zs lv->∀(i:Nat) z,zs[i]?= some z->∃p xs l,lv[i]?= some l/\z=V.ref p/\P p/\H p=some (.lst xs)/\PL H xs l:=by
 intro zs lv h i z e;obtain⟨l,e1,p,xs,r⟩:=aN.qK h e;exact⟨p,xs,l,e1,r⟩
theorem iB.length{P:Addr->Prop}{H:Hp}{zs:List V}{lv:List (List Pr)}(h:iB P H zs lv):zs.length=lv.length:=cw h
def bH:Gr Str->Nat
 | .nil=>0
 | .cons _ w o=>1+bH w+bH o
theorem B8:∀g:Gr Str,(words SL g).length=2*bH g
 | .nil=>rfl
 | .cons t w o=>by
  have h1:=B8 w;have h2:=B8 o;simp only[words,bH,bI,aH];lia
namespace Pa
end Pa
end Fg
namespace L2
open PySem PySem.Spec PyProof.Rows PySem.W
variable{X:Cx}{pins:List (Addr×Obj)}{σ:St}{H:Hp}{s:af}{d:Addr}{ob:Obj}{ab:List (Key×V)}
theorem Inv.freeze(I:Inv X pins σ H s)(hd:H d=some (.dK ab))(ho:s.heap.get? d=some ob):Inv X pins σ (upd H d (.aR ob (.dK ab))) s:=by
 have q:=I.ak d _ hd;exact I.write (x:=d) (e:=d) (h':=s.heap) (t':=s.toks) (by rw[hd];trivial) (.inl rfl) (λb u _ q=>q) ⟨ob,ho⟩ ⟨ho,q⟩
theorem Inv.ZBb(I:Inv X pins σ H s)(hd:H d=some (.aR ob (.dK ab)))(nf:∀o u,X.kZ d≠some (.aR o u)):Inv X pins σ (upd H d (.dK ab)) s:=by
 obtain⟨qY,q⟩:=(show Z7 X.prog X.w H s.heap d (.aR ob (.dK ab)) from I.ak d _ hd);have nn:∀b,H b=none->b≠d:=λb e z=>by rw[z,hd] at e;cases e
 refine⟨I.ok,I.os,I.bare,⟨I.base.keep,I.base.slot,λb o e n hx=>?_,I.base.there,λb xs e=>?_,λb o u e=>?_,λb ps e=>?_⟩,I.loc,I.cell,?_,λx c e=>?_,λp hp=>?_,λb u e=>?_,I.len⟩
 ·have:=I.base.free b o e n hx;rw[Zc (nn b this)];exact this
 ·have:=I.base.fZ b xs e;rw[Zc (λz=>by rw[z,hd] at this;cases this)];exact this
 ·have:=I.base.jq b o u e;rw[Zc (λz=>nf o u (by rw[<- z];exact e))];exact this
 ·obtain⟨m,this⟩:=I.base.jK b ps e;exact⟨m,by rw[Zc (λz=>by rw[z,hd] at this;cases this)];exact this⟩
 ·rw[Zc (nn _ I.free)];exact I.free
 ·rw[Zc (nn _ (I.fI x c e))];exact I.fI x c e
 ·obtain⟨e,n,r⟩:=I.pin p hp;exact⟨e,by rw[Zc (nn _ n)];exact n,r⟩
 ·by_cases hb:b=d
  ·subst hb;rw[Za] at e;cases e;exact q
  ·rw[Zc hb] at e;exact(I.ak b u e).jJ (λc v _ q=>q) (λc q=>by rw[Zc (λz=>by rw[z,hd] at q;cases q)];exact q) λc xs q=>by rw[Zc (λz=>by rw[z,hd] at q;cases q)];exact q
def yt(d:Addr)(ob:Obj)(ab:List (Key×V)):It:=⟨λi H=>H d=some (.aR ob (.dK ab))/\i<ab.length,λi H x H'=>H'=H/\∃k v,ab[i]?= some (k,v)/\x=kV k,λi H=>H d=some (.aR ob (.dK ab))/\ab.length<=i⟩
variable{u:aa}
theorem QJ{P:aC}{w:ay}{k:Key}(h:(ZF P w).is k u=true):RelV (kV k) u:=by
 rcases ZZ (show oo k u=true from h) with⟨i,t,rfl,rfl⟩|⟨x,t,rfl,rfl⟩
 ·exact⟨t,rfl⟩
 ·exact⟨t,rfl⟩
theorem CN{vs:List (Key×aa)}(h:KV ab vs):ab.length=vs.length/\∀(i:Nat) k v,ab[i]?= some (k,v)->∃u,vs[i]?= some (k,u):=by
 have h':aN (λ(p:Key×V)(q:Key×aa)=>p.1=q.1/\RelV p.2 q.2) ab vs:=h;clear h
 induction h' with
 | nil=>exact⟨rfl,λi k v e=>by cases i <;> cases e⟩
 | @cons a b l m r t ih =>
  refine⟨congrArg (· + 1) ih.1,λi k v e=>?_⟩;cases i with
  | zero =>
   injection e with e;subst e;exact⟨b.2,by rw[show k=b.1 from r.1];rfl⟩
  | succ i=>exact ih.2 i k v e
variable{tg:Expr}
theorem Zjt{P:aC}{w:ay}{K:au}(d:Addr)(ob:Obj)(ab:List (Key×V))(vs:List (Key×aa))(ep:Nat)(rel:KV ab vs)(fU:∀h:Heap,h.get? d=some ob->h.DictAt (ZF P w) d vs ep)(it:Addr) :
  Turn P w K tg (yt d ob ab) [it] it (λi h=>h.IsKeyIter it d i vs.length ep) where
 mem:=by simp
 obj:=λi h st b hb=>by
  have e:b=it:=by simpa using hb
  subst e;obtain⟨o,e,c,dd⟩:=st;exact⟨o,e,λv z=>by rw[dd] at z;cases z⟩
 keep:=λi h h' st k=>st.at λo e=>k it (by simp) o e
 item:=by
  intro X hP hw hK hc i pins s σ H E I hf st hg;subst hP hw hK;obtain⟨hH,hi⟩:=hg;obtain⟨qY,_⟩:=(show Z7 X.prog X.w H s.heap d (.aR ob (.dK ab)) from I.ak d _ hH);obtain⟨hl,gL⟩:=CN rel;obtain⟨k,v,hx⟩:∃k v,ab[i]?= some (k,v):=⟨ab[i].1,ab[i].2,by simp[hi]⟩;obtain⟨u,hu⟩:=gL i k v hx;obtain⟨f0,f1,f2,f3,f4,f5⟩:=hf it (by simp);refine wpAny_pyNext_dict_item st (fU _ qY) hu λkey h' z7 a_ sb=>?_;have I1:Inv X pins σ H { s with heap:=h' }:=I.turned (t':=s.toks) (λb o hb e=>(sb.2 b hb).trans e) f0 f1 f3 f4 f5;obtain⟨o,e,c,dd⟩:=id a_;exact⟨key,rfl,zj (s:={ s with heap:=h' }) e c dd (by decide) ⟨kV k,H,I1,QJ z7,⟨rfl,k,v,hx,rfl⟩,a_,λb hb=>(hf b hb).1⟩⟩
 done:=by
  intro X hP hw hK hc i pins s σ H E I hf st hg;subst hP hw hK;obtain⟨hH,hi⟩:=hg;obtain⟨qY,_⟩:=(show Z7 X.prog X.w H s.heap d (.aR ob (.dK ab)) from I.ak d _ hH);obtain⟨hl,gL⟩:=CN rel;obtain⟨f0,f1,f2,f3,f4,f5⟩:=hf it (by simp);exact wpAny_pyNext_dict_end (I.ok.hd hc) st (fU _ qY) (by simp;lia) λh' eb=>⟨rfl,I.turned (t':=s.toks) (λb o hb e=>eb b o hb e) f0 f1 f3 f4 f5⟩
 self:=λ_ _ _ _ _ st h=>Yd st h
def ZoN(tl:TE):TI:=λσ H R=>tl σ H λx H1=>∃d ab,x=.ref d/\H1 d=some (.dK ab)/\∀ob,R (yt d ob ab) (upd H1 d (.aR ob (.dK ab)))
theorem Qt{l:Expr}{tl:TE}(hl:PE X l tl):PI X tg l (ZoN tl):=by
 intro pins s σ H R I h;refine aw (hl pins s σ H _ I h) ?_;rintro v s1 ⟨x,H1,I1,r1,q1⟩;obtain⟨d,ab,e,hq,q⟩:=q1;subst e;cases r1;obtain⟨hz,hS,vs,rel,hm⟩:ab.length<=sizeLine/\(d == sysModules)=false/\∃vs,KV ab vs/\s1.heap.DictOf (ZF X.prog X.w) d vs:=I1.ak d _ hq;obtain⟨ob,es,ep,ho,hx,fj,hk,hp,hn⟩:=hm;have I2:=I1.freeze hq ho;refine wpAny_pyIter_dict hS ⟨ob,es,ho,hx,fj,hk,hp,hn⟩ ?_;refine⟨s1.heap.objs.size,[s1.heap.objs.size],_,_,_,rfl,I2.kept (t':=s1.toks) λb o e=>aG _ e,Zjt d ob ab vs ep rel (λh e=>⟨ob,es,e,hx,fj,hk,hp,hn⟩) _,⟨_,bE _ rfl,rfl,rfl⟩,λb hb=>?_,q ob⟩;have e:b=s1.heap.objs.size:=by simpa using hb
 subst e;exact I2.jo (ax _) (I2.ak.fresh (ax _))
def Zpi(X:Cx)(t:TS):TS:=λD σ H=>t { D with nx:=λaq H'=>∃d ob ab,H' d=some (.aR ob (.dK ab))/\(∀o u,X.kZ d≠some (.aR o u))/\D.nx aq (upd H' d (.dK ab)) } σ H
theorem Cq{st:Stmt}{t:TS}(h:PS X st t):PS X st (Zpi X t):=by
 intro pins s σ H D I hq;refine aw (h pins s σ H _ I hq) λf s1 z=>?_;cases f with
 | next =>
  obtain⟨aq,H',I',d,ob,ab,e,nf,q⟩:=z;exact⟨aq,_,I'.ZBb e nf,q⟩
 | brk=>exact z
 | cont=>exact z
 | ret u=>exact z
theorem Pf{g:TG}{tb:TS}{D:Ends}(Pv:Nat->St->Hp->Prop)(h0:Pv 0 σ H)(hl:∀i σ H,i<=ab.length->Pv i σ H->H d=some (.aR ob (.dK ab)))
  (hs:∀i k v σ H,ab[i]?= some (k,v)->Pv i σ H->g (kV k) σ H λbV H2=>tb { D with nx:=Pv (i+1),ct:=Pv (i+1),bk:=D.nx } bV H2) (hd:∀ σ H,Pv ab.length σ H->D.nx σ H) :
  ∃W:Nat->Nat->St->Hp->Prop,(∃m,W 0 m σ H)/\∀i m σ H,W i m σ H ->
   ((yt d ob ab).stop i H/\D.nx σ H)\/((yt d ob ab).go i H/\∃N:St->Hp->Prop,(∀ aq H',N aq H'->∃m',m'<m/\W (i+1) m' aq H')/\∀x H',(yt d ob ab).fw i H x H'->g x σ H' λbV H2=>tb { D with nx:=N,ct:=N,bk:=D.nx } bV H2):=by
 refine⟨λi m σ H=>m=ab.length-i/\i<=ab.length/\Pv i σ H,⟨ab.length,by simp,bz _,h0⟩,?_⟩;rintro i m σ H ⟨rfl,hi,p⟩;have q:=hl i σ H hi p;by_cases aB:i<ab.length
 ·refine .inr ⟨⟨q,aB⟩,Pv (i+1),λaq H' p'=>⟨ab.length-(i+1),by lia,rfl,aB,p'⟩,λx H' y=>?_⟩;obtain⟨e,k,v,hk,hx⟩:=y;subst e hx;exact hs i k v σ _ hk p
 ·have e:i=ab.length:=by lia
  subst e;exact .inl ⟨⟨q,ax _⟩,hd σ H p⟩
def zk(X:Cx)(N:List Str)(scope:cY)(cl:List (Str×Addr))(qual:Str)(f:Addr)(cd:aa)(s:af)(H:Hp):Cx where
 prog:=X.prog
 w:=X.w
 K:=X.K
 mg:=X.mg
 base:=X.base
 A:=X.A.deeper (envX qual scope s.heap.objs.size f cd cl)
 N:=N
 dt := s
 kZ := H
 env:=envX qual scope s.heap.objs.size f cd cl
 outer:=X.stack
 stack:=envX qual scope s.heap.objs.size f cd cl::X.stack
 ex:=[]
 fn:=λ_=>false
 calm:=true
 pn:=[]
 xe:=dE
def AN(v:V)(σ : St)(aE:List (Str×Nat)):St:=some v::aE.map λp=>(σ[p.2]?).getD none
structure sL(X:Cx)(scope:cY)(cl:List (Str×Addr))(p:Str)(aE:List (Str×Nat)):Prop where
 kind:scope.kind=.function
 co:scope.isCoroutine=false
 gen:scope.isGenerator=false
 LJ:∀x∈scope.names,x.2 ≠ .cell
 rG:scope.names.lookup p=some .local
 own:∀x c,cl.lookup x=some c->X.env.cells.lookup x=some c
 has:∀x,scope.names.lookup x=some .free->∃c,cl.lookup x=some c
 R4:∀q∈aE,X.N[q.2]?= some q.1/\X.env.scope.names.lookup q.1=some .cell/\scope.names.lookup q.1=some .free
variable{scope:cY}{cl:List (Str×Addr)}{p qual:Str}{aE:List (Str×Nat)}{f:Addr}{cd:aa}
theorem ZlG{N:List Str}(I:Inv X pins σ H s)(hc:X.calm=true)(S:sL X scope cl p aE):(zk X N scope cl qual f cd s H).Ok where
 mod:=I.ok.mod
 kind:=S.kind
 glob:=rfl
 blt:=rfl
 above:=ax _
 inj:=λx y c e1 e2=>I.ok.inj x y c (S.own x c e1) (S.own y c e2)
 has:=λx hx=>by
  rcases hx with hx|hx
  ·exact absurd rfl (S.LJ _ (uP (show scope.names.lookup x=some .cell from hx)))
  ·exact S.has x hx
 qJ:=λx c e=>by cases e
 hd:=λ_=>I.ok.hd hc
 frames:=Vo I.ok.frames
 uB:=.inr ⟨rfl,rfl⟩
 oC:=λb hb=>absurd (show b∈([]:List Addr) from hb) (by simp)
 bs:=λb o e=>I.bs b o e
 jm:=cm I.ok.jm I.sz
 rE:=λb o e hb=>absurd (show b∈([]:List Addr) from hb) (by simp)
 oE:=λb hb=>absurd (show b∈([]:List Addr) from hb) (by simp)
 ie:=I.stack
 mJ:=I.L4
variable{v:V}{h1:Heap}
theorem ZgR{tk:Nat}(I:Inv X pins σ H s)(hc:X.calm=true)(S:sL X scope cl p aE)(r:RelV v u)(jy:h1.Ns s.heap.objs.size (λx=>([(p,u)]:List (Str×aa)).reverse.lookup x))(gP:∀b o,s.heap.get? b=some o->h1.get? b=some o) :
  Inv (zk X (p::aE.map (·.1)) scope cl qual f cd s H) [] (AN v σ aE) H { s with heap:=h1,toks:=tk } where
 ok:=ZlG I hc S
 os:=rfl
 bare:=I.bare
 base:=Un.kept gP
 loc:=by
  refine⟨_,jy,λi x v' e1 e2 hv=>?_⟩;cases i with
  | zero =>
   have e1:p=x:=ed e1;have e2:v=v':=ed (ed e2);subst e1 e2;refine⟨u,r,.inl ⟨S.rG,?_⟩⟩;show([(p,u)]:List (Str×aa)).reverse.lookup p=some u;simp[ML]
  | succ i =>
   have hN:(aE.map (·.1))[i]?= some x:=e1;have e2:(aE.map λp=>(σ[p.2]?).getD none)[i]?= some (some v'):=e2;rw[bW] at hN e2;cases hp:aE[i]? with
   | none=>rw[hp] at hN;cases hN
   | some q =>
    rw[hp] at hN e2;have hx:q.1=x:=ed hN;have he:(σ[q.2]?).getD none=some v':=ed e2;obtain⟨c1,c2,c3⟩:=S.R4 q (bY hp);subst hx;have hs : σ[q.2]?= some (some v'):=by
     cases z0 : σ[q.2]? with
     | none=>rw[z0] at he;cases he
     | some z=>rw[z0] at he;rw[show z=some v' from he]
    obtain⟨m,hn,hl⟩:=I.loc;obtain⟨u',r',l⟩:=hl q.2 q.1 v' c1 hs (.inr (.inl c2));refine⟨u',r',.inr ⟨.inr c3,?_⟩⟩;obtain⟨c,hc⟩:=S.has q.1 c3;refine⟨c,hc,?_⟩;rcases l with⟨l1,_⟩|⟨_,c',l2,o,ho,hd⟩
    ·have:X.env.kindOf q.1=some .cell:=c2;rw[this] at l1;cases l1
    ·have:c=c':=ed ((S.own q.1 c hc).symm.trans l2);subst this;exact⟨o,gP _ _ ho,hd⟩
 cell:=λx c e=>by
  obtain⟨v,o,ho,hd⟩:=I.cell x c (S.own x c e);exact⟨v,o,gP _ _ ho,hd⟩
 free:=I.ak.fresh (ax _)
 fI:=λx c e=>I.fI x c (S.own x c e)
 pin:=λp hp=>by cases hp
 ak:=I.ak.kept gP
 len:=by
  unfold AN;show _=(p::aE.map (·.1)).length;rw[bI,bI,ar,ar]
variable{params:uF}{body:Expr}{c':Addr}{oc:Obj}
theorem Znb{name:Str}{pm gm:aa}{vs:Array aa}{tq:Tok}{t:TE}{Q:VK}{k:Nat}(I:Inv X pins σ H s)(hc:X.calm=true)(hr:bL (k+1) X.A)(S:sL X scope cl p aE)
  (hf:H f=some (.aR (kla_obj name qual params body scope cl pm c' gm) (.own f))) (ho:H c'=some (.aR oc (.own c'))) (hd:oc.data=.fields vs) (hv:vs[1]?= some (.str qual tq))
  (hb:bindArgs (kla_fn name qual params body scope cl pm (.ref c') gm) ⟨[u],[]⟩=pure [(p,u)]) (r:RelV v u)
  (tS:PE (zk X (p::aE.map (·.1)) scope cl qual f (.ref c') s H) body t) (h:t (AN v σ aE) H Q):wpAny (model X.prog X.w) X.A (call (.ref f) [u]) (EP X pins σ Q) dE s:=by
 have hfo:s.heap.get? f=some (kla_obj name qual params body scope cl pm c' gm):=(I.ak f _ hf).1;have hco:s.heap.get? c'=some oc:=(I.ak c' _ ho).1;refine Gb (kla_callFunE hr.depth hfo rfl S.co S.gen rfl ⟨c',oc,vs,tq,rfl,hco,hd,hv⟩ ?_);rw[hb];refine ai (NH S.LJ (λx hx=>?_) (λjE jy T_=>⟨(I.nolimit).fresh _ T_,?_⟩) S.kind)
 ·rw[ao.mp hx];exact S.rG
 have gP:∀b o,s.heap.get? b=some o->jE.get? b=some o:=λb o e=>T_.extBut b o (bc (aM e)) (aG _ e);have J:Inv (zk X (p::aE.map (·.1)) scope cl qual f (.ref c') s H) [] (AN v σ aE) H { s with heap:=jE,toks:=s.toks+1 }:=ZgR I hc S r jy gP;show codeAny _ _ (.expr body (envX qual scope s.heap.objs.size f (.ref c') cl)) _ _;refine kla_codeExpr (dz (tS [] _ _ H Q J h) (λu' s' hs=>?_) λ_ _ z=>z.elim);obtain⟨v',H',J',rv,q⟩:=hs;exact I.after ⟨v',H',J'.os,J'.bare,J'.base,J'.ak,rv,q⟩
variable{P:Addr}
theorem Inv.lam{h':Heap}{fo:Obj}{ps more:Array aa}{tk:Nat}(I:Inv X pins σ H s)(hP:H P=some (.cK ps))(hx:∀b o,b≠P->s.heap.get? b=some o->h'.get? b=some o)(hg:s.heap.objs.size<=c')(qZ:h'.get? c'=some oc)(Di:h'.get? P=some (tabObj (ps++more)))(DE:fo.isFreed=false) :
  Inv X pins σ (upd (upd (upd H P (.cK (ps++more))) c' (.aR oc (.own c'))) h'.objs.size (.aR fo (.own h'.objs.size))) { s with heap:=h'.push fo,toks:=tk }:=by
 have gX:c'<h'.objs.size:=aM qZ;have old:∀b o,s.heap.get? b=some o->b≠c'/\b≠h'.objs.size:=λb o e=>⟨bc (cW (aM e) hg),bc (nB (cW (aM e) hg) gX)⟩;have o_:∀b u,H b=some u->b≠c'/\b≠h'.objs.size:=λb u e=>⟨bc (cW (I.ak b u e).lt hg),bc (nB (cW (I.ak b u e).lt hg) gX)⟩;have at_:∀b,b≠c'->b≠h'.objs.size->b≠P->(upd (upd (upd H P (.cK (ps++more))) c' (.aR oc (.own c'))) h'.objs.size (.aR fo (.own h'.objs.size))) b=H b:=λb h1 h2 h3=>by rw[Zc h2,Zc h1,Zc h3]
 have nP:∀b u,H b=some u->(∀ps,u ≠ .cK ps)->b≠P:=λb u e n z=>by
  rw[z,hP] at e;injection e with e;exact n _ e.symm
 have Em:∀b u,H b=some u->(∀ps,u ≠ .cK ps)->(upd (upd (upd H P (.cK (ps++more))) c' (.aR oc (.own c'))) h'.objs.size (.aR fo (.own h'.objs.size))) b=some u:=λb u e n=>by
  rw[at_ b (o_ b u e).1 (o_ b u e).2 (nP b u e n)];exact e
 have gP:∀b o,b≠P->s.heap.get? b=some o->(h'.push fo).get? b=some o:=λb o n e=>aG _ (hx b o n e);have LI:∀b,H b=none->b≠P:=λb e z=>by rw[z,hP] at e;cases e
 have zH:P≠c'/\P≠h'.objs.size:=o_ P _ hP;have eP:(upd (upd (upd H P (.cK (ps++more))) c' (.aR oc (.own c'))) h'.objs.size (.aR fo (.own h'.objs.size))) P=some (.cK (ps++more)):=by rw[Zc zH.2,Zc zH.1,Za]
 refine I.un ⟨λb o e n _ _=>gP b o (LI b n) e,λb o e n _ _=>⟨o.slots,gP b o (LI b n) e⟩,λb o e n _=>?_,λb o e _=>?_,λb xs e=>Em b _ e (λ_ z=>nomatch z),λb o u e=>Em b _ e (λ_ z=>nomatch z),λb qs e=>?_⟩ ?_
 ·rw[at_ b (old b o e).1 (old b o e).2 (LI b n)];exact n
 ·by_cases hb:b=P
  ·exact⟨_,hb ▸ aG _ Di⟩
  ·exact⟨o,gP b o hb e⟩
 ·by_cases hb:b=P
  ·subst hb;rw[hP] at e;injection e with e;injection e with e;subst e;exact⟨more,eP⟩
  ·refine⟨#[],?_⟩;rw[at_ b (o_ b _ e).1 (o_ b _ e).2 hb,e];simp
 ·intro b u e;by_cases hf:b=h'.objs.size
  ·subst hf;rw[Za] at e;injection e with e;subst e;exact⟨bE _ DE,_,bE _ DE⟩
  ·rw[Zc hf] at e;by_cases hc:b=c'
   ·subst hc;rw[Za] at e;injection e with e;subst e;exact⟨aG _ qZ,_,aG _ qZ⟩
   ·rw[Zc hc] at e;by_cases hb:b=P
    ·subst hb;rw[Za] at e;injection e with e;subst e;exact aG _ Di
    ·rw[Zc hb] at e;refine(I.ak b u e).jJ (λc v qN r=>gP c v ?_ r) (λc r=>Em c _ r (λ_ z=>nomatch z)) λc xs r=>Em c _ r (λ_ z=>nomatch z)
     rcases qN with rfl|qN
     ·exact hb
     ·exact nP c _ qN (λ_ z=>nomatch z)
theorem Od{pos:Pos}{m:List aa}{cv:aa}:∀(l:List aa),codeAmong pos l=some cv->codeAmong pos (l++m)=some cv
 | [],h=>by unfold codeAmong at h;cases h
 | [_],h=>by unfold codeAmong at h;split at h <;> simp_all
 | [_,_],h=>by unfold codeAmong at h;split at h <;> simp_all
 | a::b::c::l,h=>by
  unfold codeAmong at h ⊢;rw[jP,jP,jP]
  split at h
  ·rename_i oO
   injection oO with e1 oO;injection oO with e2 oO;injection oO with e3 oO;subst e1 e2 e3 oO;dsimp only
   split at h
   ·rename_i hc
    rw[aj hc];exact h
   ·rename_i hc
    rw[ah hc];exact Od l h
  ·cases h
variable{pos:Pos}
theorem Zgh{pos':Pos}{c:aa}(bt : ¬ (pos'.line=pos.line/\pos'.col=pos.col)):∀{l:List aa},Nk l->codeAmong pos' l=none->codeAmong pos' (l ++ [rawInt pos.line,rawInt pos.col,c])=none:=by
 intro l h hn
 fun_induction Nk l with
 | case1 =>
  simp only[uN,codeAmong,rawInt];rw[ah];intro z;rw[gA,pZ,pZ] at z;exact bt ⟨by lia,by lia⟩
 | case2 a t b u x rest ih =>
  simp only[jP,codeAmong] at hn ⊢
  split at hn
  ·cases hn
  ·rename_i hc;rw[ah hc];exact ih h hn
 | case3 l h1 h2=>exact h.elim
def ZpV(H:Hp)(f:Addr)(name qual:Str)(params:uF)(body:Expr)(scope:cY)(cl:List (Str×Addr)):Prop :=
 ∃pm gm c' oc vs tq,H f=some (.aR (kla_obj name qual params body scope cl pm c' gm) (.own f))/\H c'=some (.aR oc (.own c'))/\oc.data=.fields vs/\vs[1]?= some (.str qual tq)
def dN(H:Hp)(P:Addr)(L:List (Pos×Str)):Prop :=
 ∃ps:Array aa,H P=some (.cK ps)/\Nk ps.toList/\∀q∈L,codeAmong q.1 ps.toList=none\/∃c' oc vs tq,codeAmong q.1 ps.toList=some (.ref c')/\H c'=some (.aR oc (.own c'))/\oc.data=.fields vs/\vs[1]?= some (.str q.2 tq)
def zi(P:Addr)(H H':Hp):Prop := ∀b o,b≠P->H b=some o->H' b=some o
def qD(base:Heap)(mg:Str->Option aa):Prop := ∃bm o,mg "__builtins__" = some (.ref bm)/\bm≠builtinsNs/\bm≠mainGlobals/\base.get? bm=some o/\o.cls=.type "module" /\ o.dict=some builtinsNs/\o.data=.plain
theorem dN.new(L:List (Pos×Str))(h:H P=some (.cK #[])):dN H P L:=⟨#[],h,trivial,λ_ _=>.inl rfl⟩
variable{H':Hp}{L:List (Pos×Str)}
theorem dN.same(h:dN H P L)(s:∀b o,H b=some o->H' b=some o):dN H' P L:=by
 obtain⟨ps,h1,h2,h3⟩:=h;exact⟨ps,s _ _ h1,h2,λq hq=>(h3 q hq).imp id λ⟨c',oc,vs,tq,k1,k2,k3,k4⟩=>⟨c',oc,vs,tq,k1,s _ _ k2,k3,k4⟩⟩
theorem dN.keep(h:dN H P L)(s1:∀ps,H P=some (.cK ps)->H' P=some (.cK ps))(s2:∀b o u,H b=some (.aR o u)->H' b=some (.aR o u)):dN H' P L:=by
 obtain⟨ps,h1,h2,h3⟩:=h;exact⟨ps,s1 _ h1,h2,λq hq=>(h3 q hq).imp id λ⟨c',oc,vs,tq,k1,k2,k3,k4⟩=>⟨c',oc,vs,tq,k1,s2 _ _ _ k2,k3,k4⟩⟩
theorem Zly{c:Addr}{gK:List (Str×Addr)}{Q':aa->af->Prop}{E:aa->af->Prop}(I:Inv X pins σ H s)(bm:qD X.base X.mg)(Dw:X.env.code=.ref c)(KJ:codeHdIn X.K c P=true)(T:dN H P L)
  (hm:(pos,X.env.qual ++ "<lambda>")∈L) (hu:∀q∈L,q.1.line=pos.line->q.1.col=pos.col->q.2=X.env.qual ++ "<lambda>") (aY:closureFor scope X.env=pure gK) (Zys:defaultsOf params X.env=([],[]))
  (h:∀f H' s',Inv X pins σ H' s'->H f=none->zi P H H'->dN H' P L->ZpV H' f "<lambda>" (X.env.qual ++ "<lambda>") params body scope gK->Q' (.ref f) s') :
  wpAny (model X.prog X.w) X.A (eval (.Lambda params body scope pos) X.env) Q' E s:=by
 obtain⟨ps,hP,ht,hL⟩:=T;have Dh:s.heap.get? P=some (tabObj ps):=I.ak P _ hP;have C:CodeHd s.heap c P:=XM I.dD KJ;have hg:s.heap.Ns mainGlobals X.mg:=I.mod.glob.keeps I.bk;have hgP:mainGlobals≠P:=λq=>by
  obtain⟨o,es,ep,e,hd,_⟩:=hg;rw[q,Dh] at e;cases e;cases hd
 obtain⟨R1,ob,b1,b2,b3,b4,b5,b6,b7⟩:=bm;have Gs:=I.bk _ _ b4;have hbP:R1≠P:=λq=>by
  rw[q,Dh] at Gs;cases Gs;cases b5
 have BA:s.heap.BuiltinsAt X.mg P:=⟨R1,ob,b1,b2,b3,hbP,Gs,b5,b6,b7⟩;refine kla_eval Zys ?_;rcases hL _ hm with hn|⟨c',oc,vs,tq,k1,k2,k3,k4⟩
 ·refine kla_makeFunction (mg:=X.mg) aY I.ok.glob hg Dw C Dh ht hn hgP BA λc' gm h' tk hx iP aB Zzm htb=>?_;obtain⟨c2,oc,vs,tq,e2,qZ,hd,hv⟩:=Zzm;cases e2;have J:=I.lam (tk:=tk) (fo:=kla_obj "<lambda>" (X.env.qual ++ "<lambda>") params body scope gK ((X.mg "__name__").getD .none) c' gm) hP (λb o n e=>hx b o n e) iP qZ htb rfl;have o_:∀b u,H b=some u->b≠c'/\b≠h'.objs.size:=λb u e=>⟨bc (cW (I.ak b u e).lt iP),bc (nB (cW (I.ak b u e).lt iP) aB)⟩;have nc:c'≠h'.objs.size:=bc aB;have zH:=o_ P _ hP;have sT:zi P H (upd (upd (upd H P (.cK (ps ++ #[rawInt pos.line,rawInt pos.col,.ref c']))) c' (.aR oc (.own c'))) h'.objs.size (.aR (kla_obj "<lambda>" (X.env.qual ++ "<lambda>") params body scope gK ((X.mg "__name__").getD .none) c' gm) (.own h'.objs.size))):=λb o n e=>by
   rw[Zc (o_ b o e).2,Zc (o_ b o e).1,Zc n];exact e
  refine h _ _ _ J (I.ak.fresh (cm iP (lZ aB))) sT ⟨ps ++ #[rawInt pos.line,rawInt pos.col,.ref c'],?_,?_,λq hq=>?_⟩ ⟨_,_,c',oc,vs,tq,Za,?_,hd,hv⟩
  ·rw[Zc zH.2,Zc zH.1,Za]
  ·rw[Vu];exact TriplesOk_snoc _ _ _ _ ht
  ·have kc:∀{q:Str},q=X.env.qual ++ "<lambda>" -> vs[1]?= some (.str q tq):=λe=>by rw[e];exact hv
   have qN:(upd (upd (upd H P (.cK (ps ++ #[rawInt pos.line,rawInt pos.col,.ref c']))) c' (.aR oc (.own c'))) h'.objs.size (.aR (kla_obj "<lambda>" (X.env.qual ++ "<lambda>") params body scope gK ((X.mg "__name__").getD .none) c' gm) (.own h'.objs.size))) c'=some (.aR oc (.own c')):=by rw[Zc nc,Za]
   rw[Vu];rcases hL q hq with BG|⟨c2,oc2,vs2,t2,j1,j2,j3,j4⟩
   ·by_cases z:q.1.line=pos.line/\q.1.col=pos.col
    ·refine .inr ⟨c',oc,vs,tq,?_,qN,hd,kc (hu q hq z.1 z.2)⟩;have:=codeAmong_snoc (pos:=q.1) (c:=.ref c') ps.toList ht BG;rw[z.1,z.2] at this;exact this
    ·exact .inl (Zgh z ht BG)
   ·refine .inr ⟨c2,oc2,vs2,t2,Od _ j1,sT c2 _ (λz=>?_) j2,j3,j4⟩;rw[z,hP] at j2;cases j2
  ·rw[Zc nc,Za]
 ·refine kla_makeFunctionHit (mg:=X.mg) aY I.ok.glob hg Dw C Dh ht k1 BA λgm h' tk hk hsz=>?_;have hn:H h'.objs.size=none:=I.ak.fresh hsz;have J:Inv X pins σ (upd H h'.objs.size (.aR (kla_obj "<lambda>" (X.env.qual ++ "<lambda>") params body scope gK ((X.mg "__name__").getD .none) c' gm) (.own h'.objs.size))) { s with heap:=h'.push (kla_obj "<lambda>" (X.env.qual ++ "<lambda>") params body scope gK ((X.mg "__name__").getD .none) c' gm),toks:=tk } :=
   I.laid (λb u e=>aG _ (hk b u e)) hsz ⟨bE _ rfl,_,bE _ rfl⟩
  have sm:∀b o,H b=some o->(upd H h'.objs.size (.aR (kla_obj "<lambda>" (X.env.qual ++ "<lambda>") params body scope gK ((X.mg "__name__").getD .none) c' gm) (.own h'.objs.size))) b=some o:=λb o e=>by
   rw[Zc (Zd e hn)];exact e
  exact h _ _ _ J hn (λb o _ e=>sm b o e) (dN.same ⟨ps,hP,ht,hL⟩ sm) ⟨_,_,c',oc,vs,tq,Za,sm _ _ k2,k3,k4⟩
end L2
namespace av
open PySem PyProof.Rows sN PySem.W
variable{prog:aC}{w:ay}{A:aI}{s:af}
theorem Zkd:Jy prog w A s oneType' (λp=>∃i t,p.1=iZ i t) λx y=>rp x.1 y.1:=by
 intro x y hx hy E;obtain⟨i,t,e⟩:=hx;obtain⟨i',t',e'⟩:=hy;rw[e,e',Mi];refine F0 ⟨rfl,?_⟩;show decide (i<i')=decide (j_ x.1<j_ y.1);rw[e,e'];rfl
variable{vs:List aa}{kz:List Int}
theorem Zkl{keys:Array aa}(hk:kP keys.toList kz){xs:Array cX}(hp:xs.toList.Perm (keys.zip vs.toArray).toList)(hs:So (λx y=>rp x.1 y.1) xs.toList):Bc false kz vs (xs.map (·.2)).toList:=by
 rw[ksk_zip] at hp;have ek:∀l:List aa,∀z:List Int,kP l z->l.map j_=z:=λl z h=>by
  induction h with
  | nil=>rfl
  | cons n t _ ih=>rw[ck,ih];rfl
 refine⟨xs.toList.map λp:cX=>(j_ p.1,p.2),?_,?_,?_⟩
 ·have e2:(keys.toList.zip vs).map (λp:cX=>(j_ p.1,p.2))=kz.zip vs:=by
   rw[<- ek _ _ hk,List.zip_map_left];exact pQ λ⟨x,y⟩ _=>rfl
  rw[<- e2];exact hp.map _
 ·rw[xm,gB];rfl
 ·rw[jQ];refine hs.imp λ{x y} h=>?_;have h:rp y.1 x.1=false:=h;have h:=l_ h;show j_ x.1<=j_ y.1;lia
variable{E:aa->af->Prop}
theorem PV{a kS:Addr}{e e1:Nat}{keys:Array aa}{st:SortSt}{P:M6->af->Prop}(hk:kP keys.toList kz)(hl:keys.size=vs.length)(h9:vs.length<=90000)
  (oK:s.heap.get? kS=some (seqObj "list" keys e)) (oA:s.heap.get? a=some (seqObj "list" #[] e1)) (ne:kS≠a) (hp:(arrOf st).toList.Perm (keys.zip vs.toArray).toList) (hs:So (λx y=>rp x.1 y.1) (arrOf st).toList) (hf:failedOf st=none)
  (h:∀out:Array aa,Bc false kz vs out.toList->out.size=vs.length->P (.done (.ret .none)) { s with heap:=(s.heap.update kS (a7 λ_=>#[])).update a (a7 λ_=>out) }) :
  wpAny (model prog w) A (ksk_tail a false e1 (.ref kS) st) P E s:=by
 have hsz:(arrOf st).size=vs.length:=by
  have hz:(keys.zip vs.toArray).toList.length=vs.length:=by rw[aU,Mm,hl,bp,MU]
  have:=hp.length_eq.trans hz;rw[aU] at this;exact this
 have s1:=lU s.heap kS (a7 λ_=>(#[]:Array aa));have Ex:(s.heap.update kS (a7 λ_=>(#[]:Array aa))).get? a=some (seqObj "list" #[] e1):=(s1.2 a ne.symm).trans oA;unfold ksk_tail
 try dsimp only
 refine ae (uR oK rfl ?_ (by rw[hl,bB];lia) (bz _));refine ae (ya ?_);refine ae (Bv Ex rfl ?_);refine ae (uR Ex rfl ?_ (bz _) ?_)
 ·rw[hf];simp only[bne_self_eq_false,jN,eV];exact ai (h _ (Zkl hk hp hs) (by rw[xk];exact hsz))
 ·show((arrOf st).map (·.2)).size<=_;rw[xk,bB];lia
end av
namespace L2
open PySem PySem.Spec PyProof.Rows PySem.W
variable{X:Cx}{pins:List (Addr×Obj)}{σ:St}{H:Hp}{s:af}{a:Addr}
theorem Inv.adopt{o:HO}(I:Inv X pins σ H s)(f:bG X pins H a)(new:Z7 X.prog X.w (upd H a o) s.heap a o):Inv X pins σ (upd H a o) s where
 ok:=I.ok
 os:=I.os
 bare:=I.bare
 base:=⟨I.base.keep,I.base.slot,λb ob e n hx=>by
   rw[Zc (λz=>?_)]
   ·exact I.base.free b ob e n hx
   ·subst z;rcases f.2.2.2.1 with z|z
    ·exact hx z
    ·exact absurd (cW (aM e) z) (eU _),I.base.there,λb xs e=>by
   have e:=I.base.fZ b xs e;rw[Zc (Zd e f.1)];exact e,λb ob u e=>by
   have e:=I.base.jq b ob u e;rw[Zc (Zd e f.1)];exact e,λb ps e=>by
   obtain⟨more,e⟩:=I.base.jK b ps e;refine⟨more,?_⟩;rw[Zc (Zd e f.1)];exact e⟩
 loc:=I.loc
 cell:=I.cell
 free:=by
  rw[Zc f.2.1.symm];exact I.free
 fI:=λx c e=>by
  rw[Zc (f.2.2.2.2.1 x c e)];exact I.fI x c e
 pin:=λp hp=>by
  obtain⟨h1,h2,h3⟩:=I.pin p hp;refine⟨h1,?_,h3⟩;rw[Zc (f.2.2.2.2.2 p hp)];exact h2
 ak:=λb u e=>by
  by_cases hb:b=a
  ·subst hb;rw[Za] at e;injection e with e;subst e;exact new
  ·rw[Zc hb] at e;exact(I.ak b u e).jJ (λc v _ r=>r) (λc r=>by rw[Zc (Zd r f.1)];exact r) λc xs r=>by rw[Zc (Zd r f.1)];exact r
 len:=I.len
theorem ZlB{b:Addr}{oa ob:Obj}{u:aa}{f:aa}{Q2:VK}{Q':aa->af->Prop}(I:Inv X pins σ H s)(fa:bG X pins H a)(fb:bG X pins H b)(ha:s.heap.get? a=some oa)(hb:s.heap.get? b=some ob)(da:∀v,oa.data ≠ .cell v)(db:∀v,ob.data ≠ .cell v)
  (turn:∀(pins:List (Addr×Obj))(s:af),Inv X pins σ H s->wpAny (model X.prog X.w) X.A (call f [u]) (EP X pins σ Q2) dE s)
  (hQ:∀v kx s' H',Inv X pins σ H' s'->s'.heap.get? a=some oa->s'.heap.get? b=some ob->H' a=none->H' b=none->RelV kx v->Q2 kx H'->Q' v s'):wpAny (model X.prog X.w) X.A (call f [u]) Q' dE s:=by
 have I':Inv X (pins ++ [(a,oa),(b,ob)]) σ H s:=I.EG λq hq=>(aS.mp hq).elim (λz=>I.pin q (a9 _ z)) λz=>by
  rcases aV.mp z with rfl|z
  ·exact⟨ha,fa.1,fa.2.1,fa.2.2.1,da⟩
  ·rw[ao.mp z];exact⟨hb,fb.1,fb.2.1,fb.2.2.1,db⟩
 refine aw (turn _ s I') ?_;rintro v s' ⟨kx,H',I2,rk,q⟩;have pa:=I2.pin (a,oa) (a9 _ (a9 _ (.head _)));have pb:=I2.pin (b,ob) (a9 _ (a9 _ (.tail _ (.head _))));exact hQ v kx s' H' I2.rM pa.1 pb.1 pa.2.1 pb.2.1 rk q
def C3(ks:List Int)(xs zs:List V):Prop := ∃ps:List (Int×V),ps.Perm (ks.zip xs)/\zs=ps.map xK/\ps.Pairwise (λp q=>p.1<=q.1)
variable{xs:List V}{us:List aa}
theorem ZiE(rv:Vals xs us):∀{ps:List (Int×aa)}{ks:List Int},ps.Perm (ks.zip us)->∃qs:List (Int×V),qs.Perm (ks.zip xs)/\qs.map Bo=ps.map Bo/\Vals (qs.map xK) (ps.map xK):=by
 have pd:∀{xs:List V}{us:List aa}{ks:List Int},Vals xs us->aN (λ(p:Int×V)(q:Int×aa)=>p.1=q.1/\RelV p.2 q.2) (ks.zip xs) (ks.zip us):=by
  intro xs us ks r
  induction r generalizing ks with
  | nil=>cases ks <;> exact .nil
  | cons r t ih =>
   cases ks with
   | nil=>exact .nil
   | cons k ks=>exact .cons ⟨rfl,r⟩ ih
 have perm:∀{l l':List (Int×aa)},l.Perm l'->∀{m:List (Int×V)},aN (λ(p:Int×V)(q:Int×aa)=>p.1=q.1/\RelV p.2 q.2) m l->∃m':List (Int×V),m'.Perm m/\aN (λ(p:Int×V)(q:Int×aa)=>p.1=q.1/\RelV p.2 q.2) m' l':=by
  intro l l' h
  induction h with
  | nil=>exact λ{m} z=>⟨m,.refl _,z⟩
  | cons x _ ih =>
   intro m z;cases z with
   | cons r t =>
    obtain⟨m',h1,h2⟩:=ih t;exact⟨_::m',h1.cons _,.cons r h2⟩
  | swap x y l =>
   intro m z;cases z with
   | cons r t =>
    cases t with
    | cons r2 t2=>exact⟨_::_::_,.swap ..,.cons r2 (.cons r t2)⟩
  | trans _ _ AA AB =>
   intro m z;obtain⟨m1,h1,h2⟩:=AA z;obtain⟨m2,h3,h4⟩:=AB h2;exact⟨m2,h3.trans h1,h4⟩
 intro ps ks h;obtain⟨qs,h1,h2⟩:=perm h.symm (pd (ks:=ks) rv);refine⟨qs,h1,?_,?_⟩
 ·clear h h1
  induction h2 with
  | nil=>rfl
  | cons r _ ih=>rw[ck,ck,ih,r.1]
 ·clear h h1
  induction h2 with
  | nil=>exact .nil
  | cons r _ ih=>exact .cons r.2 ih
theorem ZmE{out:List aa}{ks:List Int}(rv:Vals xs us)(h:Bc false ks us out):∃zs,C3 ks xs zs/\Vals zs out:=by
 obtain⟨ps,h1,rfl,h3⟩:=h;obtain⟨qs,k1,k2,k3⟩:=ZiE rv h1;refine⟨_,⟨qs,k1,rfl,?_⟩,k3⟩;have h3:(ps.map Bo).Pairwise (· <= ·):=jQ.mpr (h3.imp λh=>h);rw[<- k2] at h3;exact jQ.mp h3
variable{K:au}
theorem ag.ZAZ{H':Hp}{P l:Addr}{L:List (Pos×Str)}(h:ag K H l xs)(T:dN H P L)(s:zi P H H'):ag K H' l xs:=by
 obtain⟨ps,hP,_⟩:=T;have ne:∀o,H l=some o->(∀qs,o ≠ .cK qs)->l≠P:=λo e n z=>by
  rw[z,hP] at e;injection e with e;exact n _ e.symm
 rcases h with(h|⟨o,h⟩)|h
 ·exact .inl (.inl (s _ _ (ne _ h λ_ z=>nomatch z) h))
 ·exact .inl (.inr ⟨o,s _ _ (ne _ h λ_ z=>nomatch z) h⟩)
 ·exact .inr h
variable{scope:cY}{cl:List (Str×Addr)}
theorem sL.in1{p:Str}{aE:List (Str×Nat)}(h:sL X scope cl p aE):sL (bF X) scope cl p aE:=⟨h.kind,h.co,h.gen,h.LJ,h.rG,h.own,h.has,h.R4⟩
structure N3(X:Cx)(P:Addr)(L:List (Pos×Str))(params:uF)(scope:cY)(body:Expr)(rB:Pos)(gK:List (Str×Addr))(px:Str)(aE:List (Str×Nat))(kb:Nat)(t:TE):Prop where
 bm:qD X.base X.mg
 code:∃c,X.env.code=.ref c/\codeHdIn X.K c P=true
 mem:(rB,X.env.qual ++ "<lambda>")∈L
 one:∀q∈L,q.1.line=rB.line->q.1.col=rB.col->q.2=X.env.qual ++ "<lambda>"
 cl:closureFor scope X.env=pure gK
 df:defaultsOf params X.env=([],[])
 sc:sL X scope gK px aE
 bind:∀pm c' gm u,bindArgs (kla_fn "<lambda>" (X.env.qual ++ "<lambda>") params body scope gK pm (.ref c') gm) ⟨[u],[]⟩=pure [(px,u)]
 body:∀A' f cd s H,bL kb (A'.deeper (envX (X.env.qual ++ "<lambda>") scope s.heap.objs.size f cd gK))->PE (zk { X with A:=A',xe:=dE } (px::aE.map (·.1)) scope gK (X.env.qual ++ "<lambda>") f cd s H) body t
theorem ZnG(h:∀p∈scope.names,p.2=.free->∃c,cl.lookup p.1=some c):∀x,scope.names.lookup x=some .free->∃c,cl.lookup x=some c:=λx e=>h (x,.free) (uP e) rfl
variable{P:aC}{w:ay}{mg:Str->Option aa}{base:Heap}{x:Str}{fd:dP}{sp:Sp}
theorem bC.okL{qual:Str}{st:Stmt}{f c:Addr}{N ps:List Str}{k:Nat}(F:bC K x qual st f fd)(fh:fd.code=.ref c)(S:bS N ps (Zk st))(len:∀vs H Q E,sp vs H Q E->vs.length=ps.length)
  (tS:∀(A:aI)(outer:List Env)(s:af)(H:Hp)(vs:List V)(Q:VK)(E:XK),bL k (A.deeper (envOfC qual (Zk st) s.heap.objs.size f (.ref c)))->sp vs H Q E ->
   ∃t,dB (tG bq P w K mg base N qual (Zk st) f (.ref c) A outer s H E).wK (Zn st) t/\t { nx:=λ_ H'=>Q .aD H',rt:=Q } (start N vs) H):aX P w K mg base bq (k+1) f fd ps sp:=by
 obtain⟨oc,od,kV,doc,pm,an,aK,ct,pe,rfl,lk,hc⟩:=F.ex;have e:aK=.ref c:=fh;subst e;refine Ry lk hc S len λA outer s H vs Q E hr jB=>?_;obtain⟨t,h,q⟩:=tS A outer s H vs Q E hr jB;exact⟨t,h.wK,q⟩
structure YI(ts:List Addr)(a:Addr)(H:Hp):Prop where
 tab:∀p∈ts,H p=some (.cK #[])
 no:∀b,b∉ts->b≠a->H b=none
 scr:a∉ts->H a=none\/∃o xs,H a=some (.aR o (.lst xs))
variable{ts:List Addr}
theorem ZjR{mb:Str->Option aa}{k:Nat}{fa:Addr}{aT : af}{vs:List aa}{ns:List Int}
  (KX:K.In aT.heap) (jy:aT.heap.Ns mainGlobals mg) (hb:aT.heap.Ns builtinsNs mb) (hbb:∀x:Str,x ≠ "__name__" -> mb x=bootBuiltins x) (DR:aT.heap.NoLimit) (hg:aT.gens=#[])
  (hbm:∃bm o,mg "__builtins__" = some (.ref bm)/\bm≠builtinsNs/\aT.heap.get? bm=some o/\o.cls=.type "module" /\ o.dict=some builtinsNs/\o.data=.plain)
  (um:∀p∈ts,aT.heap.get? p=some (tabObj #[])) (D_:∀p∈ts,K.lookup p=none) (htc:∀p∈ts,∃c,codeHdIn K c p=true)
  (ha:aT.heap.get? a=some { cls:=.type "list",data:=.seq vs.toArray }) (hi:kP vs ns) (hl:ns.length<=sizeLine) (hr:bL k callerA)
  (F:∀base:Heap,K.In base->base.Ns mainGlobals mg->qD base mg->aX P w K mg base bq k fa fd [x] sp) (Zye:∀(s:af)(u:aa),xn s fd ⟨[u],[]⟩ [(x,u)])
  (jB:∀H:Hp,(∀p∈ts,H p=some (.cK #[]))->ag K H a (ns.map V.int)->sp [.ref a] H (λv _=>v=.bl true) λ_ _ _=>False) :
  codeAny (model P w) callerA (.call (.ref fa) ⟨[.ref a],[]⟩) (λr s'=>r=.ok (.ret (.bool true))/\OldK aT.heap s'.heap/\s'.os=aT.os/\pJ s'.gens) aT := by
 have rv:=OY hi;have ZzY:=hi.length;have gL:a∉ts:=λz=>by
  have:=um a z;rw[ha] at this;cases this
 have core:∀H:Hp,YI ts a H->ag K H a (ns.map V.int)->bJ P w H aT.heap->(H a≠none->K.lookup a=none) ->
   codeAny (model P w) callerA (.call (.ref fa) ⟨[.ref a],[]⟩) (λr s'=>r=.ok (.ret (.bool true))/\OldK aT.heap s'.heap/\s'.os=aT.os/\pJ s'.gens) aT := by
  intro H hO hS ak hK;have JF:∀{b:Addr}{o:Obj},aT.heap.get? b=some o->H b=none->(mC aT.heap H).get? b=some o:=λe n=>Zls e n;have other:∀{b:Addr}{o:Obj},aT.heap.get? b=some o->(∀z n,o.data ≠ .seq z n)->(∀z,o.data ≠ .fields z)->H b=none:=λ{b o} e n1 n2=>by
   refine hO.no b (λz=>?_) λz=>?_
   ·have:=um b z;rw[e] at this;cases this;exact n2 _ rfl
   ·subst z;rw[ha] at e;cases e;exact n1 _ _ rfl
  have EC:∀{b:Addr}{m:Str->Option aa},aT.heap.Ns b m->(mC aT.heap H).Ns b m:=λ{b m} ⟨o,es,ep,e,d,r⟩=>⟨o,es,ep,JF e (other e (λ_ _ z=>by rw[d] at z;cases z) λ_ z=>by rw[d] at z;cases z),d,r⟩;have SF:K.In (mC aT.heap H):=λb o e=>JF (KX b o e) (by
   by_cases hb:b∈ts
   ·rw[D_ b hb] at e;cases e
   ·by_cases oM:b=a
    ·subst oM;cases q:H b with
     | none=>rfl
     | some u =>
      rw[hK (by rw[q];simp)] at e;cases e
    ·exact hO.no b hb oM)
  have hM:Mod K mg (mC aT.heap H):=⟨SF,EC jy,⟨mb,EC hb,hbb⟩,let ⟨mc,h1,h2⟩:=DR;⟨mc,EC h1,h2⟩⟩;obtain⟨bm,ob,b1,b2,b3,b4,b5,b6⟩:=hbm;have hbG:bm≠mainGlobals:=λq=>by
   obtain⟨o,es,ep,e,hd,_⟩:=jy;rw[q,e] at b3;cases b3;rw[hd] at b6;cases b6
  have hB:qD (mC aT.heap H) mg:=⟨bm,ob,b1,b2,hbG,JF b3 (other b3 (λ_ _ z=>by rw[b6] at z;cases z) λ_ z=>by rw[b6] at z;cases z),b4,b5,b6⟩;have e0:sF P w K mg (mC aT.heap H) callerA [] aT H:=⟨rfl,hM,λb o e=>ZnH e,Bm (ZiS _ _),trivial,λb hb=>absurd (show b∈([]:List Addr) from hb) (by simp),ak,.of_eq hg⟩;refine xR ((F _ SF (EC jy) hB).run callerA [] aT H ⟨[.ref a],[]⟩ [.ref a] [.ref a] _ _ hr e0 (Zye aT (.ref a)) (.cons rfl .nil) (jB H hO.tab hS)) λr s' h=>?_
  match r,h with
  | .ok (.ret u),h =>
   obtain⟨v,H',os,bare,un,NU,r',q⟩:=h;have q':v=.bl true:=q;subst q';obtain rfl:u=jU true:=r';have EB:∀b,b∉iL []:=λb z=>absurd (show b∈([]:List Addr) from z) (by simp);have Vb:∀b∈ts,∃ps,s'.heap.get? b=some (tabObj ps):=λb hb=>by
    obtain⟨more,e⟩:=un.jK b _ (hO.tab b hb);exact⟨_,NU b _ e⟩
   have Ut:∀b o,b∉ts->aT.heap.get? b=some o->s'.heap.get? b=some o:=λb o hb e=>by
    by_cases oM:b=a
    ·subst oM;rcases hO.scr hb with z|⟨ob,xs,z⟩
     ·exact un.keep b o e z (EB b) (by simp)
     ·have z2:=un.jq b ob _ z;obtain⟨e1,_⟩:=ak b _ z;obtain⟨e2,_⟩:=NU b _ z2;rw[e] at e1;cases e1;exact e2
    ·exact un.keep b o e (hO.no b hb oM) (EB b) (by simp)
   refine⟨rfl,⟨λb o e=>?_,λb o e=>?_⟩,os,bare⟩
   ·by_cases hb:b∈ts
    ·obtain⟨ps,e2⟩:=Vb b hb;obtain⟨c,hc⟩:=htc b hb;have ht:=um b hb;rw[e] at ht;cases ht;exact .inr (.inl ⟨((XM KX hc).tab (um b hb)).isCodeTable,rfl,#[],ps,rfl,by rw[Array.empty_append];exact e2⟩)
    ·exact .inl (Ut b o hb e)
   ·by_cases hb:b∈ts
    ·obtain⟨ps,e2⟩:=Vb b hb;exact⟨_,e2⟩
    ·exact⟨o,Ut b o hb e⟩
 have Vc:∀{H:Hp}(p:Addr),p∈ts->Z7 P w H aT.heap p (.cK #[]):=λp hp=>um p hp;cases hk:K.lookup a with
 | some o =>
  have e:=KX a o hk;rw[ha] at e;cases e;refine core (λb=>if b∈ts then some (.cK #[]) else none) ⟨λp hp=>aj hp,λb hb _=>ah hb,λh=>.inl (ah h)⟩ (.inr ⟨_,vs.toArray,_,hk,rfl,rfl,rfl,by rw[bp,ZzY];exact hl,by simpa using rv⟩) (λb u z=>?_) λz=>absurd (ah gL) z
  by_cases hb:b∈ts
  ·have z:=(aj hb).symm.trans z;cases z;exact Vc b hb
  ·have z:=(ah hb).symm.trans z;cases z
 | none =>
  refine core (λb=>if b∈ts then some (.cK #[]) else if b=a then some (.aR { cls:=.type "list",data:=.seq vs.toArray } (.lst (ns.map V.int))) else none)
   ⟨λp hp=>aj hp,λb hb hn=>(ah hb).trans (ah hn),λh=>.inr ⟨_,_,(ah h).trans (aj rfl)⟩⟩ (.inl (.inr ⟨{ cls:=.type "list",data:=.seq vs.toArray },(ah gL).trans (aj rfl)⟩)) (λb u z=>?_) λ_=>hk
  by_cases hb:b∈ts
  ·have z:=(aj hb).symm.trans z;cases z;exact Vc b hb
  ·have z:=(ah hb).symm.trans z;by_cases oM:b=a
   ·have z:=(aj oM).symm.trans z;cases z;subst oM;exact⟨ha,by rw[ar];exact hl,vs,_,rv,ha⟩
   ·have z:=(ah oM).symm.trans z;cases z
theorem ZlV{l:Xd}{n k:Nat}{q:aC}{loose:List Str}{XP:(Str->Option aa)->Heap->Prop}{YP:ay->Heap->Prop}{d:DefRec}{K:FJ->au}{sp:ay->Sp}
  (hn:l.most=some n) (DU:n<=sizeLine) (qP:d.params.defaults=[]) (hr:bL k callerA)
  (hY:∀(w:ay)(h:Heap),YP w h->(K w.params).In h/\∀p∈ts,h.get? p=some (tabObj #[]))
  (F:∀(w:ay)(mg:Str->Option aa)(fa:Addr)(h:Heap),(K w.params).In h->h.Ns mainGlobals mg->mg d.name=some (.ref fa) ->
   ∃fd:dP,(∀(s:af)(u:aa),xn s fd ⟨[u],[]⟩ [(x,u)])/\(∀p∈ts,(K w.params).lookup p=none/\∃c,codeHdIn (K w.params) c p=true)/\∀base:Heap,(K w.params).In base->base.Ns mainGlobals mg->qD base mg->aX l.prog w (K w.params) mg base bq k fa fd [x] (sp w))
  (jB:∀(w:ay)(H:Hp)(a:Addr)(ns:List Int),ns.length<=n->(∀p∈ts,H p=some (.cK #[]))->ag (K w.params) H a (ns.map V.int)->sp w [.ref a] H (λv _=>v=.bl true) λ_ _ _=>False) :
  Xe q loose XP YP l.row.toRowW d [] (λf vs=>Nf f vs):=by
 refine N0.Zg9 hn qP λw dt aT mg mb fa o pm cd doc a vs ns G Y ho hd fh ua K2 hints hlen hg=>?_;obtain⟨KX,um⟩:=hY w _ Y;obtain⟨fd,hb,ht,hF⟩:=F w mg fa _ KX G.T.g ua;exact ZjR KX G.T.g G.T.b G.T.builtins G.T.nolimit hg (let ⟨bm,ob,b1,b2,b3,b4,b5,b6⟩:=G.T.bmain;⟨bm,ob,b1,b2,b3,b4,b5,b6⟩) um (λp hp=>(ht p hp).1) (λp hp=>(ht p hp).2) K2 hints (cm hlen DU) hr hF hb λH hO hS=>jB w H a ns hlen hO hS
end L2
namespace Fg
open PySem L2
def CG(K:au)(ts:List Addr):Sp:=λvs H Q _=>∃(a:Addr)(ns:List Int),vs=[.ref a]/\ag K H a (ns.map V.int)/\ns.length<=63/\(∀p∈ts,H p=some (.cK #[]))/\∀H',Q (.bl true) H'
end Fg
namespace L2
open PySem PySem.Spec PyProof.Rows PySem.SeqAt
def eK(bf:Nat->Nat->Bool):Nat->Nat
 | 0=>0
 | n+1=>if bf (n+1) (eK bf n)=true then n+1 else eK bf n
end L2
namespace L2
open PySem PySem.Spec PyProof.Rows
variable{prog:aC}{w:ay}{A:aI}{E:aa->af->Prop}{s:af}{d:Addr}{o:Obj}
theorem Zgl(hd:(d == sysModules)=false)(ho:s.heap.get? d=some o)(hc:o.cls=.type "dict") {Q:aa->af->Prop}
  (q:Q (.ref s.heap.objs.size) { s with heap:=s.heap.push { cls:=.type "dict_items",data:=.fields #[.ref d] } }) {pos:Pos}:wpAny (model prog w) A (callWith pos (.builtin "dict.items") [.ref d] [] []) Q E s:=by
 have hT:s.TypeIs (.ref d) "dict" := ⟨o,ho,hc⟩;refine A8 rfl (Xn ?_);refine jW VU hT F.entry_dict_items ?_ (F.args_dict_items_1 _);unfold dG.«dict.items»;refine ae ?_;unfold ZBN;refine ae (NI hT ?_);show wpAny _ _ (pure d) _ _ s;refine ai ?_;show wpAny _ _ (E5 d >>= _) _ _ s;unfold E5;rw[ah (by rw[hd];exact cS)];refine ae (ai ?_);exact ae (gG (ai ⟨_,rfl,q⟩))
variable{es:Array jO}{ep:Nat}
theorem Zg7{v:Addr}{Q:aa->af->Prop}(hv:s.heap.IsItemsView v d)(ho:s.heap.get? d=some o)(fU:o.data=.dict es ep)
  (hQ:Q (.ref s.heap.objs.size) { s with heap:=s.heap.push { cls:=.type "dict_itemiterator",data:=.fields #[.none,.bool false,.ref d,.int 0 0,.int es.size 0,.int ep 0,.none,.none] } }) :
  wpAny (model prog w) A (pyIter (.ref v)) Q E s:=by
 obtain⟨ov,hov,gM,hdv⟩:=id hv;refine Gh hv.typeIs VV (jW VV hv.typeIs F.entry_dict_items_iter ?_ (F.args_dict_items_iter_1 _));unfold dG.«dict_items.__iter__»;refine ae (ai (ae ?_));unfold ZBP;refine ae (uU hov hdv (x:=.ref d) rfl (ai (ae ?_)));unfold ZBQ;refine ae (xY ho fU (ae (xZ ho fU ?_)));have Ah:A5 "dict_itemiterator" = true:=by decide
 simp only[Ah,gF];refine gG (ai ⟨_,rfl,"dict_itemiterator",_,⟨_,bE _ rfl,rfl⟩,A_.lookup,?_⟩)
  (by simp only[sizeOk,VC,bp,aH,bI,lX,bB];lia)
 simpa[rawInt,VC] using hQ
variable{Q:Option aa->af->Prop}{it:Addr}{od:Obj}{i:Nat}{ov:aa}
set_option maxHeartbeats 1000000 in
theorem ZgY{ok:aa}(hit:rR s.heap it d i es.size ep ok ov)(gn:s.heap.get? d=some od)(fj:od.data=.dict es ep)(Yu:i<es.size)
  (hQ:∀h',MA h' it d (i+1) es.size ep es[i].key es[i].val s.heap.objs.size->h'.get? s.heap.objs.size=some { cls:=.type "tuple",data:=.seq #[es[i].key,es[i].val] }->h'.objs.size=s.heap.objs.size+1 ->
   (∀b o,b≠it->s.heap.get? b=some o->h'.get? b=some o)->Q (some (.ref s.heap.objs.size)) { s with heap:=h' }) :
  wpAny (model prog w) A (pyNext (.ref it)) Q E s:=by
 obtain⟨hp,g,dr,tk,os⟩:=s;have hT:FU ⟨hp,g,dr,tk,os⟩ (.ref it) "dict_itemiterator" := ⟨_,hit,rfl⟩;unfold pyNext;refine ae (uS (uT (name:=bw "__next__") hT A_ (jW A_ hT VQ ?_ (VO _))));refine ae (ai (ae (ae ?_)))
 first|refine ae (Gj hT (ai ?_))|refine ae (Gm hT (ai ?_))
 refine ae (si hit rfl ?_);have Ah:A5 "dict_itemiterator" = true:=by decide
 simp only[Ah,gF];show wpAny _ _ (if(aO d == bg)=true then _ else _) _ _ _
 rw[ah (show ¬ ((aO d == bg)=true) from cS)];refine ae (ai (ae (xY gn fj ?_)));rw[ah (by simp)];refine ae (ai (ae (xZ gn fj ?_)));rw[ah (by simp)];refine ai ?_;simp only[show ¬ ((i:Int)<0) from by lia,eV,lV,lT Yu];refine ae ?_
 first|refine ae (Gj hT (ai ?_))|refine ae (Gm hT (ai ?_))
 refine ae (NE hT ?_);show wpAny _ _ (setField (.ref it) 3 (rawInt ((i:Int)+1)) >>= _) _ _ ⟨hp,g,dr,tk,os⟩;refine ae (BB hit (by simp) λjE zR Ao=>?_)
 replace Ao : fz it hp jE := Ao
 replace zR : rR jE it d (i+1) es.size ep ok ov:=by
  have e:((i+1:Nat):Int)=(i:Int)+1:=by lia
  unfold rR;rw[e];simpa[rawInt] using zR
 have Kh : FU ⟨jE,g,dr,tk,os⟩ (.ref it) "dict_itemiterator" := ⟨_,zR,rfl⟩;refine ae (eW (ae (NE Kh (ae (NE Kh ?_)))));show wpAny _ _ (VE (.ref it) 6 es[i].key es[i].val) _ _ ⟨jE,g,dr,tk,os⟩;unfold VE;refine ae (Gg ?_);have zS : rR (jE.push { cls:=.type "tuple",data:=.seq #[es[i].key,es[i].val] }) it d (i+1) es.size ep ok ov:=aG _ zR;generalize DJ : jE.push { cls:=.type "tuple",data:=.seq #[es[i].key,es[i].val] }=o6 at zS;have Ej : jE.objs.size=hp.objs.size:=Ao.1;have ik:it<hp.objs.size:=aM hit;have Zzu : o6.get? hp.objs.size=some { cls:=.type "tuple",data:=.seq #[es[i].key,es[i].val] }:=by rw[<- DJ,<- Ej];exact bE _ rfl
 have ZzL : o6.objs.size=hp.objs.size+1:=by rw[<- DJ,iX,Ej]
 have ZyQ : ∀b o,b≠it->hp.get? b=some o->o6.get? b=some o:=λb o hb e=>by rw[<- DJ];exact aG _ (Ao.extBut b o hb e)
 show wpAny _ _ (VD (.ref it) >>= _) _ _ ⟨o6,g,dr,tk,os⟩;rw[Ej];clear DJ zR Ao Kh Ej jE;refine ae ?_;unfold VD;refine ae (uU zS rfl (x:=.none) rfl (ai ?_));simp only[gF];refine ae (uU zS rfl (x:=ok) rfl (ae (uU zS rfl (x:=ov) rfl ?_)));refine ae (BB zS (by simp) λAz Kv Ap=>?_)
 replace Ap : fz it o6 Az := Ap
 replace Kv : rR Az it d (i+1) es.size ep es[i].key ov:=Kv
 refine ae (BB Kv (by simp) λLu Kw Aq=>?_)
 replace Aq : fz it Az Lu := Aq
 replace Kw : rR Lu it d (i+1) es.size ep es[i].key es[i].val:=Kw
 refine ae (BB Kw (by simp) λLv Kx Ar=>?_)
 replace Ar : fz it Lu Lv := Ar
 replace Kx : MA Lv it d (i+1) es.size ep es[i].key es[i].val hp.objs.size:=Kx
 refine ae (BB Kx (by simp) λEk Ky As=>?_)
 replace As : fz it Lv Ek := As
 replace Ky : MA Ek it d (i+1) es.size ep es[i].key es[i].val hp.objs.size:=Ky
 refine ae (ya (ai (ai ⟨_,rfl,ai (hQ Ek Ky ?_ ?_ ?_)⟩)))
 ·exact As.extBut _ _ (jR ik) (Ar.extBut _ _ (jR ik) (Aq.extBut _ _ (jR ik) (Ap.extBut _ _ (jR ik) Zzu)))
 ·show Ek.objs.size=hp.objs.size+1;rw[As.1,Ar.1,Aq.1,Ap.1,ZzL]
 ·exact λb o hb e=>As.extBut b o hb (Ar.extBut b o hb (Aq.extBut b o hb (Ap.extBut b o hb (ZyQ b o hb e))))
set_option maxHeartbeats 1000000 in
theorem Zig{ok:aa}(hh:A.handled=none)(hit:rR s.heap it d i es.size ep ok ov)(gn:s.heap.get? d=some od)(fj:od.data=.dict es ep)(iP:es.size<=i)
  (hQ:∀h',Fb it s.heap h'->Q none { s with heap:=h' }):wpAny (model prog w) A (pyNext (.ref it)) Q E s:=by
 have hT:s.TypeIs (.ref it) "dict_itemiterator" := ⟨_,hit,rfl⟩;unfold pyNext;refine ae (uS (uT (name:=bw "__next__") hT A_ (jW A_ hT VQ ?_ (VO _))));refine ae (ai (ae (ae ?_)))
 first|refine ae (Gj hT (ai ?_))|refine ae (Gm hT (ai ?_))
 refine ae (si hit rfl ?_);have Ah:A5 "dict_itemiterator" = true:=by decide
 simp only[Ah,gF];show wpAny _ _ (if(aO d == bg)=true then _ else _) _ _ s
 rw[ah (show ¬ ((aO d == bg)=true) from cS)];refine ae (ai (ae (xY gn fj ?_)));rw[ah (by simp)];refine ae (ai (ae (xZ gn fj ?_)));rw[ah (by simp)];refine ai ?_;simp only[show ¬ ((i:Int)<0) from by lia,eV,lV,rP iP];refine ae ?_
 first|refine ae (Gj hT (ai ?_))|refine ae (Gm hT (ai ?_))
 show wpAny _ _ (setField (.ref it) 2 .none >>= _) _ _ s;refine ae (Gi hit rfl (by simp) ?_);show wpAny _ _ (newExc (.type "StopIteration") [] >>= _) _ _ _;refine ae ?_;simp only[newExc,newTuple];refine ae (gG ?_ (by size_fits));refine ae (m:=firstArgMember _ _) (so (a:=bg) (by first|rfl|(simp only[firstArgMember];rfl)) ?_)
 refine gG ?_ (by size_fits);simp only[raiseNew];refine ae (ND ?_);rw[show A.in1.handled=none from hh];refine ae (ai (BC ?_));refine ae (x_ (T := "StopIteration") (b:=true) ⟨_,bE _ rfl,rfl⟩ Nq ?_);exact ai (hQ _ (((lU ..).extBut.push _).push _))
end L2
namespace L2
open PySem PySem.Spec PyProof.Rows PySem.SeqAt PySem.W
structure BR(X:Cx)(pins:List (Addr×Obj))(σ : St)(it:Addr)(xs:List V)(S:Nat->Heap->Prop)(Src:Hp->Prop):Prop where
 data:∀{i h},S i h->∃o,h.get? it=some o/\(∀v,o.data ≠ .cell v)/\∀h':Heap,h'.get? it=some o->S i h'
 item:∀{i x H s}{Q':Option aa->af->Prop}{E:aa->af->Prop},Inv (bF X) pins σ H s->S i s.heap->Src H->xs[i]?= some x->bG (bF X) pins H it->(∀u s',Inv (bF X) pins σ H s'->S (i+1) s'.heap->RelV x u->Q' (some u) s')->wpAny (model X.prog X.w) X.A.in1 (pyNext (.ref it)) Q' E s
 done:∀{i H s}{Q':Option aa->af->Prop}{E:aa->af->Prop},Inv (bF X) pins σ H s->S i s.heap->Src H->xs.length<=i->bG (bF X) pins H it->(∀s',Inv (bF X) pins σ H s'->Q' none s')->wpAny (model X.prog X.w) X.A.in1 (pyNext (.ref it)) Q' E s
def Jx(X:Cx)(σ : St)(f:Addr)(KF:V->Hp->VK->Prop):Prop := ∀{pins:List (Addr×Obj)}{x:V}{u:aa}{H:Hp}{s:af}{Q2:VK},Inv (bF X) pins σ H s->RelV x u->KF x H Q2->wpAny (model X.prog X.w) X.A.in1 (call (.ref f) [u]) (EP (bF X) pins σ Q2) dE s
structure yx(K:au)(H1:Hp)(p:Addr)(xs:List V)(bf:Nat->Nat->Bool)(KA:Nat->V->Hp->Prop)(KF:V->Hp->VK->Prop):Prop where
 keep:∀i k H H',KA i k H->(∀b o,b≠p->H b=some o->H' b=some o)->KA i k H'
 lt:∀i j k k' H,KA i k H->KA j k' H->RX K H k k' (bf i j)
 ev:∀i x H,xs[i]?= some x->Zh H1 H->H p≠none->KF x H λkv H'=>Zh H H'/\KA i kv H'
variable{X:Cx}{pins:List (Addr×Obj)}{σ:St}{H:Hp}{s:af}{f it:Addr}{xs:List V}{S:Nat->Heap->Prop}{Src:Hp->Prop}{KF:V->Hp->VK->Prop}
theorem PN{x:V}{u:aa}{i:Nat}{Q2:VK}{Q':aa->af->Prop}(hK:Jx X σ f KF)(wk:BR X pins σ it xs S Src)(I:Inv (bF X) pins σ H s)(st:S i s.heap)(hf:bG (bF X) pins H it)
  (r:RelV x u) (h:KF x H Q2) (hQ:∀v kx s' H',Inv (bF X) pins σ H' s'->S i s'.heap->bG (bF X) pins H' it->RelV kx v->Q2 kx H'->Q' v s') :
  wpAny (model X.prog X.w) X.A.in1 (call (.ref f) [u]) Q' dE s:=by
 obtain⟨o,e,hd,back⟩:=wk.data st;have I':Inv (bF X) (pins ++ [(it,o)]) σ H s:=I.EG λq hq=>(aS.mp hq).elim (λz=>I.pin q (a9 _ z)) λz=>by
  rw[ao.mp z];exact⟨e,hf.1,hf.2.1,hf.2.2.1,hd⟩
 refine aw (hK I' r h) ?_;rintro v s' ⟨kx,H',I2,rk,q⟩;have pn:=I2.pin (it,o) (a9 _ (a9 _ (ao.mpr rfl)));exact hQ v kx s' H' I2.rM (back _ pn.1) ⟨pn.2.1,hf.2⟩ rk q
variable{H1:Hp}{p:Addr}
theorem HE{o:HO}(hn:H1 p=none)(s:Zh H1 H):Zh H1 (upd H p o):=λb u e=>by
 rw[Zc (λz=>by rw[z,hn] at e;cases e)];exact s b u e
theorem OF{o:HO}:∀b u,b≠p->H b=some u->(upd H p o) b=some u:=λb u hb e=>by
 rw[Zc hb];exact e
variable{KA:Nat->V->Hp->Prop}{bf:Nat->Nat->Bool}{Q:VK}{kw:List (Str×aa)}
theorem Zkm(hu:X.A.in1.units+200<cLine)(hK:Jx X σ f KF)(wk:BR X pins σ it xs S Src)(ok:X.Ok)(hn:H1 p=none)(hs:∀H,Zh H1 H->Src H)(kb:yx X.K H1 p xs bf KA KF)
  (q:∀x H',xs[eK bf (xs.length-1)]?= some x->Zh H1 H'->Q x H') :
  ∀(r i:Nat)(bi bk:V)(H:Hp)(s:af),xs.length-(i+1)=r->i<xs.length->xs[eK bf i]?= some bi->KA (eK bf i) bk H->Zh H1 H->H p=some (.lst [bi,bk])->Inv (bF X) pins σ H s->S (i+1) s.heap->bG (bF X) pins H it ->
   codeAny (model X.prog X.w) X.A (.builtin "min.loop" ⟨[.ref it,.ref f,.ref p],kw⟩) (RU X pins σ Q) s:=by
 have qW:(toString "min" ++ toString ".loop" : String)= "min.loop" := by decide
 intro r
 induction r with
 | zero =>
  intro i bi bk H s hr0 hi hb ka sm hp I st hf;obtain⟨_,its,n,rv,_,e⟩:=I.iT hp;obtain⟨ub,uk,rfl,rb,rk⟩:=vals2 rv;refine gb FK ?_;rw[lS pV _];show wpAny _ X.A.in1 (seqItems? (.ref p) >>= _) _ _ _;refine ae (Bz e rfl ?_);show wpAny _ X.A.in1 (tryCatch (pyNext (.ref it)) _ >>= _) _ _ _;refine ae (su (wk.done I st (hs _ sm) (by lia) hf λs1 I1=>?_));obtain⟨_,its,n,rv,_,e⟩:=I1.iT hp;show wpAny _ X.A.in1 (updateSeq p (λ_=>#[]) >>= _) _ _ _;refine ae (p8 e rfl (ae (ya (ai ?_))));exact⟨bi,_,Inv.EF ok (I1.wH (its':=[]) hp e rfl .nil (bz _)),rb,q bi _ (by rw[show xs.length-1=i by lia];exact hb) (HE hn sm)⟩
 | succ r ih =>
  intro i bi bk H s hr0 hi hb ka sm hp I st hf;obtain⟨_,its,n,rv,_,e⟩:=I.iT hp;obtain⟨ub,uk,rfl,rb,rk⟩:=vals2 rv;have ku:i+1<xs.length:=by lia
  have hx:xs[i+1]?= some (xs[i+1]' ku):=bO ku;generalize xs[i+1]' ku=xi at hx;refine gb FK ?_;rw[lS pV _];show wpAny _ X.A.in1 (seqItems? (.ref p) >>= _) _ _ _;refine ae (Bz e rfl ?_);show wpAny _ X.A.in1 (tryCatch (pyNext (.ref it)) _ >>= _) _ _ _;refine ae (su (wk.item I st (hs _ sm) hx hf λu s1 I1 L3 ru=>?_));show wpAny _ X.A.in1 (tryCatch (holding [u] (call (.ref f) [u])) _ >>= _) _ _ _;refine ae (su (eW (dz (PN hK wk I1 L3 hf ru (kb.ev (i+1) xi H hx sm (by rw[hp];exact λz=>nomatch z)) (Q':=λv s'=>∃kx H',Inv (bF X) pins σ H' s'/\S (i+1+1) s'.heap/\bG (bF X) pins H' it/\RelV kx v/\Zh H H'/\KA (i+1) kx H')
   λv kx s' H' a b c d e'=>⟨kx,H',a,b,c,d,e'⟩) (λv s2 h2=>?_) λ_ _ hF=>hF.elim)))
  obtain⟨kx,H2,I2,dq,ju,EK,fY,El⟩:=h2;have dC:=fY _ _ hp;have Us:=kb.keep _ _ _ H2 ka λb o _ e=>fY b o e;obtain⟨d1,d2,D1,D2,c1,c2,hd,aB⟩:=kb.lt _ _ _ _ _ El Us;obtain⟨as,ra⟩:=D1.reads I2 EK;obtain⟨bs,Yy⟩:=D2.reads I2 rk;show wpAny _ X.A.in1 (tryCatch (holding [u,v] (richCompare .Lt v uk >>= _)) _ >>= _) _ _ _;refine ae (su (eW (ae (aB.at X.A.in1 ra Yy c1 c2 (by lia) X.prog X.w _ _ ?_))));refine ae (eW (yc ?_));refine ae (ya (ai ?_));obtain⟨_,fJ,n2,wM,_,e2⟩:=I2.iT dC;cases c:bf (i+1) (eK bf i) with
  | true =>
   simp only[gF];refine ae (p8 e2 rfl (ae (ya ?_)));rw[qW];have e4:eK bf (i+1)=i+1:=by
    show(if bf (i+1) (eK bf i)=true then i+1 else eK bf i)=_
    rw[aj c]
   refine ai ⟨jV pV _,ih (i+1) xi kx (upd H2 p (.lst [xi,kx])) _ (by lia) ku (by rw[e4];exact hx) (by rw[e4];exact kb.keep _ _ _ _ El OF) (HE hn (sm.trans fY)) Za (I2.wH (t':=s2.toks) (its':=[u,v]) dC e2 rfl (.cons ru (.cons EK .nil)) (by show 2<=sizeLine;decide)) ?_ (Rg ju ⟨_,dC⟩)⟩;obtain⟨o,eo,_,back⟩:=wk.data dq;exact back _ ((iu _ _ (Zd dC ju.1)).trans eo)
  | false =>
   simp only[jN,eV];refine ae (ya ?_);rw[qW];have e4:eK bf (i+1)=eK bf i:=by
    show(if bf (i+1) (eK bf i)=true then i+1 else eK bf i)=_
    rw[ah (by rw[c];decide)]
   exact ai ⟨jV pV _,ih (i+1) bi bk H2 _ (by lia) ku (by rw[e4];exact hb) (by rw[e4];exact Us) (sm.trans fY) dC I2 dq ju⟩
theorem OH(hu:X.A.in1.units+200<cLine)(hK:Jx X σ f KF)(wk:BR X pins σ it xs S Src)(ok:X.Ok)(hn:H1 p=none)(hs:∀H,Zh H1 H->Src H)(kb:yx X.K H1 p xs bf KA KF)(bt:xs ≠ [])
  (q:∀x H',xs[eK bf (xs.length-1)]?= some x->Zh H1 H'->Q x H') (I:Inv (bF X) pins σ (upd H1 p (.lst [])) s) (st:S 0 s.heap) (hf:bG (bF X) pins (upd H1 p (.lst [])) it) :
  codeAny (model X.prog X.w) X.A (.builtin "min.loop" ⟨[.ref it,.ref f,.ref p],kw⟩) (RU X pins σ Q) s:=by
 have qW:(toString "min" ++ toString ".loop" : String)= "min.loop" := by decide
 have il:(upd H1 p (.lst [])) p=some (.lst []):=Za;have L1:Zh H1 (upd H1 p (.lst [])):=Zh.new hn;obtain⟨_,ZzP,n0,LY,_,e0⟩:=I.iT il;cases LY;refine gb FK ?_;rw[lS pV _];show wpAny _ X.A.in1 (seqItems? (.ref _) >>= _) _ _ _;refine ae (Bz e0 rfl ?_);show wpAny _ X.A.in1 (tryCatch (pyNext (.ref it)) _ >>= _) _ _ _;have hlen:0<xs.length:=List.length_pos_iff.mpr bt;have hx:xs[0]?= some (xs[0]' hlen):=bO hlen;generalize xs[0]' hlen=x0 at hx;refine ae (su (wk.item I st (hs _ L1) hx hf λu s1 I2 L3 ru=>?_));show wpAny _ X.A.in1 (tryCatch (holding [u] (call (.ref f) [u])) _ >>= _) _ _ _;refine ae (su (eW (dz (PN hK wk I2 L3 hf ru (kb.ev 0 x0 _ hx L1 (by rw[il];exact λz=>nomatch z)) (Q':=λv s'=>∃kx H',Inv (bF X) pins σ H' s'/\S (0+1) s'.heap/\bG (bF X) pins H' it/\RelV kx v/\Zh (upd H1 p (.lst [])) H'/\KA 0 kx H')
  λv kx s' H' a b c d e'=>⟨kx,H',a,b,c,d,e'⟩) (λv s2 h2=>?_) λ_ _ hF=>hF.elim)))
 obtain⟨kx,H2,I3,dq,ju,EK,fY,El⟩:=h2;have dC:=fY _ _ il;obtain⟨_,fJ,n2,wM,_,e2⟩:=I3.iT dC;refine ae (p8 e2 rfl ?_);rw[qW];refine ai ⟨jV pV _,Zkm hu hK wk ok hn hs kb q _ 0 x0 kx (upd H2 p (.lst [x0,kx])) _ rfl hlen hx (kb.keep _ _ _ _ El OF) (HE hn (L1.trans fY)) Za (I3.wH (t':=s2.toks) (its':=[u,v]) dC e2 rfl (.cons ru (.cons EK .nil)) (by show 2<=sizeLine;decide)) ?_ (Rg ju ⟨_,dC⟩)⟩;obtain⟨o,eo,_,back⟩:=wk.data dq;exact back _ ((iu _ _ (Zd dC ju.1)).trans eo)
theorem Zh6(a v:aa):argsOk "min" ⟨[a],[(bw "key",v)]⟩:=by unfold argsOk;kernel_rfl
def vA(K:au)(sp:Sp)(x:V)(H:Hp)(Q:VK):Prop := ∃l xs bf,x=.ref l/\ag K H l xs/\xs ≠ []/\∀p,H p=none->(∃KA,yx K H p xs bf KA (λx H Q2=>sp [x] H Q2 E0))/\∀x H',xs[eK bf (xs.length-1)]?= some x->Zh H H'->Q x H'
theorem ag.sm{K:au}{H':Hp}{l:Addr}(h:ag K H l xs)(s:Zh H H'):ag K H' l xs:=by
 rcases h with(h|⟨o,h⟩)|h
 ·exact .inl (.inl (s _ _ h))
 ·exact .inl (.inr ⟨o,s _ _ h⟩)
 ·exact .inr h
section
variable{X:Cx}{pins:List (Addr×Obj)}{σ : St}{H:Hp}{s:af}{k:Nat}{f:Addr}{fd:dP}{ps:List Str}{sp:Sp}{Q:VK}
theorem Pu{it l:Addr}{xs:List V}(hc:X.calm=true):BR X pins σ it xs (λi h=>h.IsListIter it l i) (λH=>ag X.K H l xs) where
 data:=λst=>Zky st
 item:=λI st hq hx hf h=>Zlv I st hq hx hf h
 done:=λI st hq hx hf h=>QT hc I st hq hx hf h
theorem Zg1{x:V}{u:aa}(hc:X.calm=true)(hu:X.A.in1.units+200<cLine)(F:aX X.prog X.w X.K X.mg X.base bq k f fd ps sp)(hb:Binds X.K fd ps [])(hr:bL k X.A.in1)(I:Inv X pins σ H s)(rx:RelV x u)(h:vA X.K sp x H Q) :
  wpAny (model X.prog X.w) X.A (call (.builtin "min") [u] [(bw "key",.ref f)]) (EP X pins σ Q) X.xe s:=by
 have qW:(toString "min" ++ toString ".loop" : String)= "min.loop" := by decide
 obtain⟨l,xs,bf,rfl,hq,bt,alt⟩:=h;cases rx;obtain⟨its,rv,pl,hz⟩:=I.list hq;refine WV W2 W5 W0 (Zh6 _ _) ?_;show wpAny _ X.A.in1 (E4 "min" ["key","default"] 0 ⟨[],[(bw "key",.ref f)]⟩ >>= _) _ _ s;refine ae (so (show E4 "min" ["key","default"] 0 ⟨[],[(bw "key",.ref f)]⟩=pure [some (.ref f),none] from rfl) ?_);refine ae (ai ?_);refine ae (By pl.isList ?_);refine ae (sk ?_ (bz _));rw[qW];refine ai ⟨jV pV _,?_⟩;have hS:(s.heap.push { cls:=.type "list_iterator",data:=.fields #[.ref l,.int 0 0] }).objs.size=s.heap.objs.size+1:=A4 ..;have I0:Inv (bF X) pins σ H { s with heap:=s.heap.push { cls:=.type "list_iterator",data:=.fields #[.ref l,.int 0 0] },toks:=s.toks }:=I.in1.kept λb o e=>aG _ e;have I1:=I0.wG (its:=[]) (t':=s.toks) .nil (bz _);have fr:H (s.heap.push { cls:=.type "list_iterator",data:=.fields #[.ref l,.int 0 0] }).objs.size=none:=I0.fresh;have ne:s.heap.objs.size≠(s.heap.push { cls:=.type "list_iterator",data:=.fields #[.ref l,.int 0 0] }).objs.size:=by rw[hS];exact bc (pT _)
 have hf:bG (bF X) pins (upd H (s.heap.push { cls:=.type "list_iterator",data:=.fields #[.ref l,.int 0 0] }).objs.size (.lst [])) s.heap.objs.size:=I.in1.jo (ax _) (by rw[Zc ne];exact I.fresh);have st:((s.heap.push { cls:=.type "list_iterator",data:=.fields #[.ref l,.int 0 0] }).push { cls:=.type "list",data:=.seq ([]:List aa).toArray }).IsListIter s.heap.objs.size l 0:=⟨_,aG _ (bE _ rfl),rfl,rfl⟩;obtain⟨⟨KA,kb⟩,q⟩:=alt _ fr;exact OH hu (λI' r h=>zd (X:=bF X) (ds:=[]) (dvs:=[]) (E:=E0) F hr hb .nil vG I' (.cons r .nil) h) (Pu hc) I.ok fr (λH' sm=>hq.sm sm) kb bt q I1 st hf
end
section
variable{X:Cx}{x:Str}{ps:List Str}{j k:Nat}{sp:Sp}{e:Expr}{te:TE}{p p2 pos kp:Pos}
theorem Ih(G:cx X.prog X.w X.K X.mg X.base x ps j sp)(hr:bL (k+1) X.A)(hc:X.calm=true)(KI:Gl X (bw "min")) (mP:X.mg (bw "min")=none) (hg:Gl X x) (pa:PA X [e] (om te mD)) (hk:j<=k:=by decide) (eR:(x == ("__debug__" : Str))=false:=by decide)
  (bu:backTo pos (starEach [e] X.env)=(false,eval e X.env)::backTo pos (starEach [] X.env):=by rfl) (bD:(backTo pos (starEach [e] X.env)).any (·.1)=false:=by rfl) :
  PE X (.Call (.Name (bw "min") p) [e] [⟨some (bw "key"),.Name x p2,kp⟩] pos) (λσ H Q=>te σ H λv H1=>vA X.K sp v H1 Q):=by
 obtain⟨f,fd,F,b,kpn,m⟩:=G.ex;intro pins s σ H Q I h;refine p6 (lx I KI mP QZ ?_);refine Nm (aw (pa pos pins s σ H (λvs H1=>match vs with | [v]=>vA X.K sp v H1 Q|_=>False) I h) ?_) bu bD
 rintro us s1 ⟨vs,H1,I1,r,q⟩
 match vs,r,q with
 | [v],r,q =>
  obtain⟨u,rfl,ru⟩:=r.one;have pk:PK X [⟨some (bw "key"),.Name x p2,kp⟩] (om (tC (.ref f)) mD):=Jc (Cr hg m (v:=.ref f) rfl eR) Rt;refine aw (pk pos pins s1 σ H1 (λzs H2=>match zs with | [z]=>z=.ref f/\vA X.K sp v H2 Q|_=>False) I1 ?_) λws s2 ⟨zs,H2,I2,rz,q2⟩=>?_
  ·show V.ref f=.ref f/\vA X.K sp v H1 Q;exact⟨rfl,q⟩
  ·match zs,rz,q2 with
   | [z],rz,q2 =>
    obtain⟨rfl,q2⟩:=q2;obtain⟨uf,rfl,rf⟩:=rz.one;cases rf;exact Zg1 hc (by have:=(hr.in1).un;lia) (F.room hk) b hr.in1 I2 ru q2
end
end L2
namespace L2
open PySem PySem.Spec PyProof.Rows PySem.W
section
variable{P:aC}{w:ay}{K:Frag}{mg:Str->Option aa}{base h:Heap}{x m q:Str}{st:Stmt}{f C:Addr}{d:dP}{ps:List Str}{k:Nat}{sp:Sp}
def dZ(K:Frag)(mg:Str->Option aa)(x:Str)(st:Stmt)(f:Addr)(d:dP):Prop:=mg x=some (.ref f)/\bC K x x st f d
def jZ(K:Frag)(C:Addr)(m q:Str)(st:Stmt)(f:Addr)(d:dP):Prop:=Meth K C m f/\bC K m q st f d
def YF(K:Frag)(mg:Str->Option aa)(x:Str)(C:Addr):Prop:=mg x=some (.ref C)/\makesIn K C=true/\keepIn K (.ref C)=true
def YH(K:Frag)(d:dP)(c p:Addr):Prop:=d.code=.ref c/\(∃lo ld lv ls,K.lookup c=some ⟨lo,ld,.fields lv,ls⟩/\lv[11]?= some (.ref p))/\codeHdIn K c p=true/\K.lookup p=none
theorem Rv(X:K.In h)(G:h.Ns mainGlobals mg){l:List Str}(Z:∀x∈l,nsIn K mainGlobals x=some none):∀x∈l,mg x=none:=λ_ hx=>mg_none_of X G (Z _ hx)
theorem bC.bn(F:bC K x q st f d)(b:∀(kV doc pm:aa) (an:Option Addr) (aK ct:aa) (us:List aa),us.length=ps.length->bindArgs (fnOf x q (yR st) (Zn st) (Zk st) .none kV doc pm an aK ct) ⟨us,[]⟩=pure (ps.zip us):=by
  intro _ _ _ _ _ _ us hl
  first
   | (obtain⟨_,_,rfl⟩:=RY hl;rfl)
   | (obtain⟨_,rfl⟩:=RN hl;rfl)
   | (obtain⟨_,_,_,rfl⟩:=RM hl;rfl)
   | (obtain⟨_,_,_,_,rfl⟩:=ZpG hl;rfl)
   | (obtain⟨_,_,_,_,_,rfl⟩:=ZEh hl;rfl)
   | (obtain⟨_,_,_,_,_,_,rfl⟩:=ZEi hl;rfl)):Binds K d ps []:=F.binds b
theorem cB{N P:List Str}{sc:cY}(kind:sc.kind=.function:=by rfl)(co:sc.isCoroutine=false:=by rfl)(gen:sc.isGenerator=false:=by rfl)(nd:N.Nodup:=by decide +kernel)(pre:N.take P.length=P:=by rfl)(rG:∀x∈P,sc.names.lookup x=some .local\/sc.names.lookup x=some .cell:=by decide +kernel)(lj:∀y∈sc.names,y.2 ≠ .free:=by decide +kernel):bS N P sc:=⟨kind,co,gen,nd,pre,rG,lj⟩
variable(P w base)
theorem eF(F:dZ K mg x st f d)(ok:aX P w K mg base bq k f d ps sp)(b:Binds K d ps []):cx P w K mg base x ps k sp:=⟨⟨f,d,ok,b,F.2.kp,F.1⟩⟩
end
def yu(d:Addr)(ob:Obj)(ab:List (Key×V)):It :=
 ⟨λi H=>H d=some (.aR ob (.dK ab))/\i<ab.length,λi H x H'=>∃p k v,H p=none/\x=.ref p/\ab[i]?= some (k,v)/\H'=upd H p (.tup [kV k,v]),λi H=>H d=some (.aR ob (.dK ab))/\ab.length<=i⟩
variable{vs:List (Key×aa)}
theorem pairs_at{P:aC}{w:ay}{es:List jO}(h:Pairs (ZF P w) es vs):es.length=vs.length/\∀(i:Nat) e,es[i]?= some e->∃k,vs[i]?= some (k,e.val)/\(ZF P w).is k e.key=true:=by
 refine⟨h.length,?_⟩
 induction h with
 | nil=>intro i e h;cases i <;> cases h
 | @cons e kv es ab h1 h2 _ ih =>
  intro i e' h;cases i with
  | zero =>
   injection h with h;subst h;exact⟨kv.1,by rw[h2];rfl,h1⟩
  | succ i=>exact ih i e' h
variable{ab:List (Key×V)}
theorem Zov(h:KV ab vs):∀(i:Nat) k u,vs[i]?= some (k,u)->∃v,ab[i]?= some (k,v)/\RelV v u:=by
 have h':aN (λ(p:Key×V)(q:Key×aa)=>p.1=q.1/\RelV p.2 q.2) ab vs:=h;clear h
 induction h' with
 | nil=>exact λi k v e=>by cases i <;> cases e
 | @cons a b l m r t ih =>
  intro i k u e;cases i with
  | zero =>
   injection e with e;subst e;exact⟨a.2,by rw[<- show a.1=k from r.1];rfl,r.2⟩
  | succ i=>exact ih i k u e
theorem ZgL{P:aC}{w:ay}{K:au}{tN:List Expr}{x1}{tp:Pos}(d:Addr)(ob:Obj)(ab:List (Key×V))(vs:List (Key×aa))(es:Array jO)(ep:Nat)(rel:KV ab vs)(fj:ob.data=.dict es ep)(hp:Pairs (ZF P w) es.toList vs)(it:Addr) :
  Turn P w K (.Tuple tN x1 tp) (yu d ob ab) [it] it (λi h=>∃ok ov,rR h it d i es.size ep ok ov) where
 mem:=by simp
 obj:=λi h st b hb=>by
  obtain⟨ok,ov,he⟩:=st;obtain rfl:=ao.mp hb;exact⟨_,he,λv z=>by cases z⟩
 keep:=λi h h' st k=>by
  obtain⟨ok,ov,he⟩:=st;exact⟨ok,ov,k it (by simp) _ he⟩
 item:=by
  intro X hP hw hK hc i pins s σ H E I hf st hg;subst hP hw hK;obtain⟨hH,hi⟩:=hg;obtain⟨qY,hq⟩:=(show Z7 X.prog X.w H s.heap d (.aR ob (.dK ab)) from I.ak d _ hH);obtain⟨ok,ov,he⟩:=st;obtain⟨hl,gL⟩:=pairs_at hp;have cO:ab.length=vs.length:=(CN rel).1;have aB:i<es.size:=by rw[<- aU,hl,<- cO];exact hi
  obtain⟨k,hk,z7⟩:=gL i es[i] (by simp[aB]);obtain⟨v,hv,Ec⟩:=Zov rel i k _ hk;have fe:=hf it (by simp);refine ZgY he qY fj aB λh1 he1 Lc kL jw=>⟨_,rfl,wpAny_letOwnedTupleGo_items he1 λh2 he2 gr=>?_⟩;have jv:H s.heap.objs.size=none:=I.ak.fresh (ax _);have UO:s.heap.objs.size≠it:=jR (aM he);have kp:∀b o,b ∉ [it]->s.heap.get? b=some o->h2.get? b=some o:=λb o hb q=>by
   have b1:b≠it:=λz=>hb (by rw[z];simp);exact(gr.2 b b1).trans (jw b o b1 q)
  have dC:h2.get? s.heap.objs.size=some { cls:=.type "tuple",data:=.seq #[es[i].key,es[i].val] }:=(gr.2 _ UO).trans Lc;have nb:∀b o,s.heap.get? b=some o->b≠s.heap.objs.size:=λb o q=>bc (aM q);have tracked:∀b o,H b=some o->b ∉ [it]:=λb o q hb=>by
   obtain rfl:=ao.mp hb;rw[fe.1] at q;cases q
  have Ag:bJ X.prog X.w (upd H s.heap.objs.size (.tup [kV k,v])) h2:=λb o q=>by
   by_cases hb:b=s.heap.objs.size
   ·subst hb;rw[Za] at q;cases q;exact⟨by show 2<=sizeLine;decide,[es[i].key,es[i].val],.cons (QJ z7) (.cons Ec .nil),_,dC,rfl,_,rfl⟩
   ·rw[Zc hb] at q;refine(I.ak b o q).jJ (λc v gM r=>kp c v ?_ r) (λc r=>by rw[Zc (Zd r jv)];exact r) λc ys r=>by rw[Zc (Zd r jv)];exact r
    rcases gM with rfl|gM
    ·exact tracked _ _ q
    ·exact tracked _ _ gM
  have I2:Inv X pins σ (upd H s.heap.objs.size (.tup [kV k,v])) { s with heap:=h2,gens:=s.gens,drawn:=s.drawn,toks:=s.toks }:=by
   refine I.step (ch:=[it]) (λb hb=>?_) (λb o _ _ hb q _=>kp b o hb q) (λb o _ _ hb q _=>⟨o.slots,kp b o hb q⟩) (λb o _ q n=>by rw[Zc (nb b o q)];exact n) (λb o hb q=>⟨o,kp b o hb q⟩)
    (λb ys q=>by rw[Zc (Zd q jv)];exact q) (λb o ys q=>by rw[Zc (Zd q jv)];exact q) (λb ps q=>⟨#[],by rw[Zc (Zd q jv),q];simp⟩) (λm hm=>?_) Ag I.bare
   ·have f:bG X pins H b:=hf b hb;exact⟨f.2.2.2.1,f.2.1,f.2.2.2.2.1,f.2.2.2.2.2⟩
   ·obtain⟨o,gW,yf,ho,r⟩:=hm;refine⟨o,gW,yf,kp _ o (λhb=>?_) ho,r⟩;exact(hf _ hb).2.1 rfl
  refine⟨.ref s.heap.objs.size,_,I2,rfl,⟨_,k,v,jv,rfl,hv,rfl⟩,⟨_,_,he2⟩,λb hb=>?_⟩;obtain rfl:=ao.mp hb;rw[Zc UO.symm];exact fe.1
 done:=by
  intro X hP hw hK hc i pins s σ H E I hf st hg;subst hP hw hK;obtain⟨hH,hi⟩:=hg;obtain⟨qY,hq⟩:=(show Z7 X.prog X.w H s.heap d (.aR ob (.dK ab)) from I.ak d _ hH);obtain⟨ok,ov,he⟩:=st;have cO:ab.length=vs.length:=(CN rel).1;obtain⟨f0,f1,f2,f3,f4,f5⟩:=hf it (by simp);have hle:es.size<=i:=by rw[<- aU,hp.length,<- cO];exact hi
  exact Zig (I.ok.hd hc) he qY fj hle λh' eb=>⟨rfl,I.turned (t':=s.toks) (λb o hb q=>eb b o hb q) f0 f1 f3 f4 f5⟩
 self:=λ_ _ _ _ _ st h=>by
  obtain⟨ok,ov,he⟩:=st;exact PySem.W.kcp_self he h
section
variable{X:Cx}{tN:List Expr}{x1:Nat}{tp:Pos}
def ZnK(to:TE):TI:=λσ H R=>to σ H λx H1=>∃d ab,x=.ref d/\H1 d=some (.dK ab)/\∀ob,R (yu d ob ab) (upd H1 d (.aR ob (.dK ab)))
theorem OZ{o:Expr}{to:TE}{apos pos:Pos}(ho:PE X o to)(zJ:attributeBase o "items" X.env (eval o X.env)=eval o X.env:=by rfl) (z9:(apos.endLine == pos.line)=true:=by rfl) :
  PI X (.Tuple tN x1 tp) (.Call (.Attribute o "items" apos) [] [] pos) (ZnK to):=by
 intro pins s σ H R I h;refine X7 zJ z9 (aw (ho pins s σ H _ I h) ?_);rintro v s1 ⟨x,H1,I1,r1,d,ab,ex,hq,q⟩;subst ex;obtain rfl:v=aO d:=r1;obtain⟨hz,hS,vs,rel,hm⟩:ab.length<=sizeLine/\(d == sysModules)=false/\∃vs,KV ab vs/\s1.heap.DictOf (ZF X.prog X.w) d vs:=I1.ak d _ hq;obtain⟨ob,es,ep,gn,hx,fj,hk,hp,hn⟩:=hm;have I2:=I1.freeze hq gn;refine⟨"dict","dict.items",F.plainAttrs_dict,VU,F.type_dict_items,⟨_,gn,hx.1⟩,λa e=>by cases e;exact⟨_,gn,hx.2.1⟩,Zgl hS gn hx.1 ?_⟩;have jw:∀b o,s1.heap.get? b=some o->(s1.heap.push { cls:=.type "dict_items",data:=.fields #[.ref d] }).get? b=some o:=λb o e=>aG _ e;refine Zg7 (es:=es) (ep:=ep) ⟨_,bE _ rfl,rfl,rfl⟩ (jw d _ gn) fj ?_;have gN:∀b o,s1.heap.get? b=some o->((s1.heap.push { cls:=.type "dict_items",data:=.fields #[.ref d] }).push { cls:=.type "dict_itemiterator",data:=.fields #[.none,.bool false,.ref d,.int 0 0,.int es.size 0,.int ep 0,.none,.none] }).get? b=some o:=λb o e=>aG _ (jw b o e);refine⟨(s1.heap.push { cls:=.type "dict_items",data:=.fields #[.ref d] }).objs.size,[(s1.heap.push { cls:=.type "dict_items",data:=.fields #[.ref d] }).objs.size],_,_,_,rfl,I2.kept (t':=s1.toks) gN,ZgL d ob ab vs es ep rel fj hp _,⟨_,_,bE _ rfl⟩,λb hb=>?_,q ob⟩;have cg:s1.heap.objs.size<=b:=by
  rw[ao.mp hb,iX];exact rZ _
 exact I2.jo cg (I2.ak.fresh cg)
end
theorem Ov{d:Addr}{ob:Obj}{g:TG}{tb:TS}{D:Ends}{σ : St}{H:Hp}(Pv:Nat->St->Hp->Prop)(h0:Pv 0 σ H)(hl:∀i σ H,i<=ab.length->Pv i σ H->H d=some (.aR ob (.dK ab)))
  (hs:∀i k v p σ H,ab[i]?= some (k,v)->Pv i σ H->H p=none->g (.ref p) σ (upd H p (.tup [kV k,v])) λbV H2=>tb { D with nx:=Pv (i+1),ct:=Pv (i+1),bk:=D.nx } bV H2) (hd:∀ σ H,Pv ab.length σ H->D.nx σ H) :
  ∃W:Nat->Nat->St->Hp->Prop,(∃m,W 0 m σ H)/\∀i m σ H,W i m σ H ->
   ((yu d ob ab).stop i H/\D.nx σ H)\/((yu d ob ab).go i H/\∃N:St->Hp->Prop,(∀ aq H',N aq H'->∃m',m'<m/\W (i+1) m' aq H')/\∀x H',(yu d ob ab).fw i H x H'->g x σ H' λbV H2=>tb { D with nx:=N,ct:=N,bk:=D.nx } bV H2):=by
 refine⟨λi m σ H=>m=ab.length-i/\i<=ab.length/\Pv i σ H,⟨ab.length,by simp,bz _,h0⟩,?_⟩;rintro i m σ H ⟨rfl,hi,p⟩;have q:=hl i σ H hi p;by_cases aB:i<ab.length
 ·refine .inr ⟨⟨q,aB⟩,Pv (i+1),λaq H' p'=>⟨ab.length-(i+1),by lia,rfl,aB,p'⟩,λx H' y=>?_⟩;obtain⟨b,k,v,hb,hx,hy,hH⟩:=y;subst hx hH;exact hs i k v b σ H hy p hb
 ·have e:i=ab.length:=by lia
  subst e;exact .inl ⟨⟨q,ax _⟩,hd σ H p⟩
end L2
namespace L2
open PySem PySem.Spec PyProof.Rows
def zq(K:au)(l l2:Addr):It :=
 ⟨λi H=>∃xs x ys y,ag K H l xs/\xs[i]?= some x/\ag K H l2 ys/\ys[i]?= some y,λi H x H'=>∃p,H p=none/\x=.ref p/\∀xs ys,ag K H l xs->ag K H l2 ys->∃x y,xs[i]?= some x/\ys[i]?= some y/\H'=upd H p (.tup [x,y]),λi H=>∃xs ys,ag K H l xs/\ag K H l2 ys/\(xs.length<=i\/i<xs.length/\ys.length<=i)⟩
theorem ZiZ{P:aC}{w:ay}{K:au}{tN:List Expr}{x1}{tp:Pos}(l l2 z TI TO i1 i2:Addr)(ap:ZipApart z TI TO i1 i2 l l2) :
  Turn P w K (.Tuple tN x1 tp) (zq K l l2) [z,TI,TO,i1,i2] z (λi h=>IsZip h z TI TO .none/\Xb h TI (.ref i1) (.ref i2)/\(∃a b,Xb h TO a b)/\h.IsListIter i1 l i/\h.IsListIter i2 l2 i) where
 mem:=by simp
 obj:=λi h st b hb=>by
  obtain⟨hz,hI,⟨a,b',hO⟩,⟨o1,dm,lE,lF⟩,o2,cJ,ii,hd2⟩:=st;simp only[aV,ny,p5] at hb;rcases hb with rfl|rfl|rfl|rfl|rfl
  ·exact⟨_,hz,λv z=>by cases z⟩
  ·exact⟨_,hI,λv z=>by cases z⟩
  ·exact⟨_,hO,λv z=>by cases z⟩
  ·exact⟨o1,dm,λv z=>by rw[lF] at z;cases z⟩
  ·exact⟨o2,cJ,λv z=>by rw[hd2] at z;cases z⟩
 keep:=λi h h' st k=>by
  obtain⟨hz,hI,⟨a,b',hO⟩,⟨o1,dm,r1⟩,o2,cJ,r2⟩:=st;exact⟨k z (by simp) _ hz,k TI (by simp) _ hI,⟨a,b',k TO (by simp) _ hO⟩,⟨o1,k i1 (by simp) o1 dm,r1⟩,o2,k i2 (by simp) o2 cJ,r2⟩
 item:=by
  intro X hP hw hK hc i pins s σ H E I hf st hg;subst hP hw hK;obtain⟨gR,hI,⟨a,b',hO⟩,hit,qS⟩:=st;obtain⟨xs,x,ys,y,hq,hx,jA,hy⟩:=hg;obtain⟨its,rv,pl,hzz⟩:=I.list hq;obtain⟨fJ,wM,mU,ZzJ⟩:=I.list jA;obtain⟨u,hu,ru⟩:=rv.get hx;obtain⟨u2,lJ,LX⟩:=wM.get hy;refine wpAny_pyNext_zip_item ap gR hI hO hit qS pl.isList mU.isList (x:=u) (y:=u2) (by simpa using hu) (by simpa using lJ) λh1 kL qM ZyJ ZyK Lc D9 jw=>⟨_,rfl,wpAny_letOwnedTupleGo_zip kL λh2 eB gr=>?_⟩;have jv:H s.heap.objs.size=none:=I.ak.fresh (ax _);have nz:s.heap.objs.size≠z:=jR (aM gR);have kp:∀b o,b ∉ [z,TI,TO,i1,i2]->s.heap.get? b=some o->h2.get? b=some o:=λb o hb q=>by
   have b1:b≠z:=λz=>hb (by rw[z];simp);have b3:b≠TO:=λz=>hb (by rw[z];simp);have b4:b≠i1:=λz=>hb (by rw[z];simp);have b5:b≠i2:=λz=>hb (by rw[z];simp);exact(gr.2 b b1).trans (jw b o b1 b3 b4 b5 q)
  have dC:h2.get? s.heap.objs.size=some { cls:=.type "tuple",data:=.seq #[u,u2] }:=(gr.2 _ nz).trans Lc;have nb:∀b o,s.heap.get? b=some o->b≠s.heap.objs.size:=λb o q=>bc (aM q);have tracked:∀b o,H b=some o->b ∉ [z,TI,TO,i1,i2]:=λb o q hb=>by
   have f:bG X pins H b:=hf b hb;rw[f.1] at q;cases q
  have fpf:∀b ∈ [z,TI,TO,i1,i2],∃o,s.heap.get? b=some o:=λb hb=>by
   obtain⟨o1,dm,_⟩:=id hit;obtain⟨o2,cJ,_⟩:=id qS;simp only[aV,ny,p5] at hb;rcases hb with rfl|rfl|rfl|rfl|rfl
   ·exact⟨_,gR⟩
   ·exact⟨_,hI⟩
   ·exact⟨_,hO⟩
   ·exact⟨o1,dm⟩
   ·exact⟨o2,cJ⟩
  have Ag:bJ X.prog X.w (upd H s.heap.objs.size (.tup [x,y])) h2:=λb o q=>by
   by_cases hb:b=s.heap.objs.size
   ·subst hb;rw[Za] at q;cases q;exact⟨by show 2<=sizeLine;decide,[u,u2],.cons ru (.cons LX .nil),_,dC,rfl,_,rfl⟩
   ·rw[Zc hb] at q;refine(I.ak b o q).jJ (λc v gM r=>kp c v ?_ r) (λc r=>by rw[Zc (Zd r jv)];exact r) λc ys r=>by rw[Zc (Zd r jv)];exact r
    rcases gM with rfl|gM
    ·exact tracked _ _ q
    ·exact tracked _ _ gM
  have I2:Inv X pins σ (upd H s.heap.objs.size (.tup [x,y])) { s with heap:=h2,gens:=s.gens,drawn:=s.drawn,toks:=s.toks }:=by
   refine I.step (ch:=[z,TI,TO,i1,i2]) (λb hb=>?_) (λb o _ _ hb q _=>kp b o hb q) (λb o _ _ hb q _=>⟨o.slots,kp b o hb q⟩) (λb o _ q n=>by rw[Zc (nb b o q)];exact n) (λb o hb q=>⟨o,kp b o hb q⟩)
    (λb ys q=>by rw[Zc (Zd q jv)];exact q) (λb o ys q=>by rw[Zc (Zd q jv)];exact q) (λb ps q=>⟨#[],by rw[Zc (Zd q jv),q];simp⟩) (λm hm=>?_) Ag I.bare
   ·have f:bG X pins H b:=hf b hb;exact⟨f.2.2.2.1,f.2.1,f.2.2.2.2.1,f.2.2.2.2.2⟩
   ·obtain⟨o,es,ep,ho,r⟩:=hm;refine⟨o,es,ep,kp _ o (λhb=>?_) ho,r⟩;exact(hf _ hb).2.1 rfl
  refine⟨.ref s.heap.objs.size,_,I2,rfl,⟨_,jv,rfl,λNZ qd nM Gz=>⟨x,y,by rw[I.Es nM hq];exact hx,by rw[I.Es Gz jA];exact hy,rfl⟩⟩,⟨eB,?_,⟨u,u2,(gr.2 TO ap.TOz).trans qM⟩,?_,?_⟩,λb hb=>?_⟩
  ·exact(gr.2 TI ap.TIz).trans (jw TI _ ap.TIz ap.TITO ap.TIi1 ap.TIi2 hI)
  ·obtain⟨o,ho,r⟩:=ZyJ;exact⟨o,(gr.2 i1 ap.i1z).trans ho,r⟩
  ·obtain⟨o,ho,r⟩:=ZyK;exact⟨o,(gr.2 i2 ap.i2z).trans ho,r⟩
  ·obtain⟨o,ho⟩:=fpf b hb;rw[Zc (nb b o ho)];exact(hf b hb).1
 done:=by
  intro X hP hw hK hc i pins s σ H E I hf st hg;subst hP hw hK;obtain⟨gR,hI,⟨a,b',hO⟩,hit,qS⟩:=st;obtain⟨xs,ys,hq,jA,hx⟩:=hg;obtain⟨its,rv,pl,hzz⟩:=I.list hq;obtain⟨fJ,wM,mU,ZzJ⟩:=I.list jA;have hlen:=rv.length;have ZDN:=wM.length;refine wpAny_pyNext_zip_end (I.ok.hd hc) ap gR hI hO hit qS pl.isList mU.isList (hx.elim (λz=>.inl (by simp;lia)) λz=>.inr (by have:=z;simp;lia)) λh' hk=>⟨rfl,?_⟩;have kp:∀b o,b ∉ [z,TI,TO,i1,i2]->s.heap.get? b=some o->h'.get? b=some o:=λb o hb q=>by
   have b1:b≠z:=λz=>hb (by rw[z];simp);have b3:b≠TO:=λz=>hb (by rw[z];simp);have b4:b≠i1:=λz=>hb (by rw[z];simp);have b5:b≠i2:=λz=>hb (by rw[z];simp);exact hk b o b1 b3 b4 b5 q
  have tracked:∀b o,H b=some o->b ∉ [z,TI,TO,i1,i2]:=λb o q hb=>by
   have f:bG X pins H b:=hf b hb;rw[f.1] at q;cases q
  have Ag:bJ X.prog X.w H h':=λb o q=>(I.ak b o q).jJ (λc v gM r=>kp c v (by
    rcases gM with rfl|gM
    ·exact tracked _ _ q
    ·exact tracked _ _ gM) r) (λc r=>r) λc ys r=>r
  refine I.step (t':=s.toks) (d':=s.drawn) (g':=s.gens) (ch:=[z,TI,TO,i1,i2]) (λb hb=>?_) (λb o _ _ hb q _=>kp b o hb q) (λb o _ _ hb q _=>⟨o.slots,kp b o hb q⟩) (λb o _ q n=>n) (λb o hb q=>⟨o,kp b o hb q⟩)
    (λb ys q=>q) (λb o ys q=>q) (λb ps q=>⟨#[],by rw[q];simp⟩) (λm hm=>?_) Ag I.bare
  ·have f:bG X pins H b:=hf b hb;exact⟨f.2.2.2.1,f.2.1,f.2.2.2.2.1,f.2.2.2.2.2⟩
  ·obtain⟨o,es,ep,ho,r⟩:=hm;refine⟨o,es,ep,kp _ o (λhb=>?_) ho,r⟩;exact(hf _ hb).2.1 rfl
 self:=λ_ _ _ _ _ st h=>Yf st.1 h
section
variable{X:Cx}{tN:List Expr}{x1:Nat}{tp:Pos}
def ZoR(K:au)(tl:TA):TI:=λσ H R=>tl σ H λvs H1=>∃a b xs ys,vs=[.ref a,.ref b]/\ag K H1 a xs/\ag K H1 b ys/\R (zq K a b) H1
theorem Znq{a b:Expr}{ta:TA}{p pos:Pos}(hg:Gl X "zip") (hm:X.mg "zip" = none) (ha:PA X [a,b] ta) (hs:starEach [a,b] X.env=[(false,eval a X.env),(false,eval b X.env)]:=by rfl) (gr:starEach [b] X.env=[(false,eval b X.env)]:=by rfl) :
  PI X (.Tuple tN x1 tp) (.Call (.Name "zip" p) [a,b] [] pos) (ZoR X.K ta):=by
 intro pins s σ H R I h;refine Call_ (lx I hg hm boot_zip (Bp (aw (ha pos pins s σ H _ I h) ?_) (by rw[hs,gr]) (by rw[gr];rfl)));rintro us s1 ⟨vs,H1,I1,r1,q1⟩;obtain⟨a,b,xs,ys,e,hq,jA,q⟩:=q1;subst e;obtain⟨u,u2,rfl,ru,LX⟩:=Vals.two r1;cases ru;cases LX;obtain⟨its,rv,pl,hz⟩:=I1.list hq;obtain⟨fJ,wM,mU,eB⟩:=I1.list jA;have la:a<s1.heap.objs.size:=by
  obtain⟨o,ho,_⟩:=pl.isList;exact aM ho
 have lb:b<s1.heap.objs.size:=by
  obtain⟨o,ho,_⟩:=mU.isList;exact aM ho
 refine call_zip_2 pl.isList mU.isList λh' gR hI hO hit qS hsz hk=>Yf gR ?_;refine⟨s1.heap.objs.size+4,[s1.heap.objs.size+4,s1.heap.objs.size+2,s1.heap.objs.size+3,s1.heap.objs.size,s1.heap.objs.size+1],_,_,H1,rfl,I1.kept (t':=s1.toks) hk,ZiZ a b _ _ _ _ _ (zipApart_new la lb),⟨gR,hI,⟨_,_,hO⟩,hit,qS⟩,λb hb=>?_,q⟩;have cg:s1.heap.objs.size<=b:=by
  simp only[aV,ny,p5] at hb;rcases hb with rfl|rfl|rfl|rfl|rfl <;> lia
 exact I1.jo cg (I1.ak.fresh cg)
end
theorem Zll{K:au}{a b:Addr}{xs ys:List V}{g:TG}{tb:TS}{D:Ends}{σ : St}{H:Hp}(hlen:ys.length<xs.length)(Pv:Nat->St->Hp->Prop)(h0:Pv 0 σ H)(hl:∀i σ H,i<=ys.length->Pv i σ H->ag K H a xs/\ag K H b ys)
  (hs:∀i x y p σ H,xs[i]?= some x->ys[i]?= some y->Pv i σ H->H p=none->g (.ref p) σ (upd H p (.tup [x,y])) λbV H2=>tb { D with nx:=Pv (i+1),ct:=Pv (i+1),bk:=D.nx } bV H2) (hd:∀ σ H,Pv ys.length σ H->D.nx σ H) :
  ∃W:Nat->Nat->St->Hp->Prop,(∃m,W 0 m σ H)/\∀i m σ H,W i m σ H ->
   ((zq K a b).stop i H/\D.nx σ H)\/((zq K a b).go i H/\∃N:St->Hp->Prop,(∀ aq H',N aq H'->∃m',m'<m/\W (i+1) m' aq H')/\∀x H',(zq K a b).fw i H x H'->g x σ H' λbV H2=>tb { D with nx:=N,ct:=N,bk:=D.nx } bV H2):=by
 refine⟨λi m σ H=>m=ys.length-i/\i<=ys.length/\Pv i σ H,⟨ys.length,by simp,bz _,h0⟩,?_⟩;rintro i m σ H ⟨rfl,hi,p⟩;obtain⟨q1,q2⟩:=hl i σ H hi p;by_cases aB:i<ys.length
 ·have hx:xs[i]?= some xs[i]:=bO (by lia);have hy:ys[i]?= some ys[i]:=bO aB;refine .inr ⟨⟨xs,xs[i],ys,ys[i],q1,hx,q2,hy⟩,Pv (i+1),λaq H' p'=>⟨ys.length-(i+1),by lia,rfl,aB,p'⟩,λx H' y=>?_⟩;obtain⟨c,hc,rfl,z⟩:=y;obtain⟨x,y,ex,ey,rfl⟩:=z xs ys q1 q2;exact hs i x y c σ H ex ey p hc
 ·have e:i=ys.length:=by lia
  subst e;exact .inl ⟨⟨xs,ys,q1,q2,.inr ⟨hlen,ax _⟩⟩,hd σ H p⟩
end L2
namespace L2
open PySem PySem.Spec PyProof.Rows PySem.W av
variable{X:Cx}
theorem Y_(hc:X.calm=true):hX X (.builtin "sorted") (λxs H Q=>∃(d:Addr)(ab:List (List Key×V))(ps:List Pr),xs=[.ref d]/\H d=some (.dT ab)/\ab.length<=63/\ab.map (·.1)=ps.map pK/\∀(r:Addr)(zs:List V)(ms:List Pr),H r=none->ms.Perm ps->ms.Pairwise (λa b=>lN b a=false)->PL H zs ms->Q (.ref r) (upd H r (.lst zs))):=by
 intro pins s σ H xs us Q I r h;obtain⟨d,ab,ps,rfl,hd,hlen,iQ,q⟩:=h;obtain⟨u,rfl,rx⟩:=vals1 r;obtain rfl:u=.ref d:=rx;obtain⟨z,lo,xs,rel,o,es,ep,ho,hx,fU,mN,cI⟩:=(show Z7 X.prog X.w H s.heap d (.dT ab) from I.ak d _ hd);obtain⟨ys,rv,pl⟩:=Znj rel iQ;have Kt:es.toList.map (·.key)=xs.map λx=>aO x.2.1:=by
  rw[mN,gB];rfl
 have fu:ab.length=xs.length:=rel.length;have zQ:es.size=xs.length:=by rw[<- aU,mN,ar]
 refine B2 (lv:=λu v=>lN (jG s.heap u) (jG s.heap v)) (C:=λys=>ys=xs.map λx=>aO x.2.1) (Qz.L6 (jG s.heap)) (λQ' E' hq=>?_) (λqd h6 ET d6 hC k6 zE=>?_) λpa qd out h3 pE d3 c hC c9 eA k3 e3 hle kH=>?_
 ·refine Oh (yV lo) (I.ok.hd hc) (⟨o,ho,hx,fU⟩:hZ s.heap d es ep) (by rw[bB];lia) λacc h' tk kp hit hle=>?_;have jr:acc.toList=es.toList.map (·.key):=by
   refine Bf λj=>?_;rw[jM,bW,jM];cases hj:acc[j]? with
   | none =>
    have h3:acc.size<=j:=E2.mp hj;rw[hit.1] at h3;rw[rP h3];rfl
   | some v =>
    obtain⟨e,h1,rfl⟩:=hit.2 j v hj;rw[h1];rfl
  rw[jr,Kt];exact hq _ h' tk s.drawn kp rfl (by rw[ar];lia) hle
 ·subst hC;refine ZfE (h0:=s.heap) (λv hv=>?_) k6 zE;obtain⟨y,hy,ry⟩:=Ck rv v hv;obtain⟨t,q1,_,rfl,e2⟩:=pl.mem y hy;obtain rfl:v=aO t:=ry;exact⟨q1,Jj I.ak e2⟩
 ·subst hC;obtain⟨zs,rz,Ls⟩:=Q8 I.ak rv pl out.toList λu hu=>c9.mem_iff.mp hu;have iR:zs.length=out.size:=rz.length.trans (aU ..);have wl:out.size=xs.length:=by
   have:=c9.length_eq;rw[aU,ar] at this;exact this
  have I2:=I.laid (h':=h3) (t':=pE) (a:=pa) (o:=.lst zs) (λb o e=>k3 b o e) hle (show Z7 X.prog X.w _ h3 _ (.lst zs) from⟨by rw[bB];lia,out.toList,c,rz,e3⟩);refine⟨.ref pa,_,I2.draws (d:=d3),rfl,q pa zs _ (I.ak.fresh hle) ?_ (jQ.mpr eA) Ls⟩;rw[<- ZmD I.ak rv pl];exact c9.map _
def ZmY(K:au)(xs:List V)(H:Hp)(Q:VK):Prop :=
 ∃l ys qs,xs=[.ref l]/\ag K H l ys/\ys.length<=63/\QL H ys qs/\∀r zs ms,H r=none->ms.Pairwise (λa b=>ph b a=false)->ms.Perm qs->QL H zs ms->Q (.ref r) (upd H r (.lst zs))
theorem Zfo(hc:X.calm=true):hX X (.builtin "sorted") (ZmY X.K):=by
 intro pins s σ H xs us Q I r h;obtain⟨l,ys,qs,rfl,hq,hlen,kJ,q⟩:=h;obtain⟨u,rfl,ru⟩:=vals1 r;obtain rfl:u=.ref l:=ru;obtain⟨its,rv,pl,hz⟩:=I.list hq;have hl:=rv.length;have x:vd X.prog X.w s.heap its qs:=vd.of I.ak rv kJ;refine B2 (lv:=λu v=>ph (kq s.heap u) (kq s.heap v)) (C:=λys=>ys=its) (Qg.L6 (kq s.heap)) (λQ' E' fE=>?_) (λqd h6 ET d6 hC k6 zE=>?_) λpa qd out h3 pE d3 c hC c9 eA k3 e3 hle kH=>?_
 ·exact ZlE pl.isList (by lia) λys h' tk d k e hle hs=>fE ys h' tk d k e (by rw[e];lia) hs
 ·subst hC;exact Zf5 (h0:=s.heap) (λv nK=>let ⟨_,q,_,_,_,h3⟩:=x.mem nK;⟨q,h3⟩) k6 zE
 ·subst hC;obtain⟨zs,rz,Ls⟩:=Q_ I.ak rv kJ out.toList λu hu=>c9.mem_iff.mp hu;have iR:zs.length=out.size:=rz.length.trans (aU ..);have I2:=I.laid (h':=h3) (t':=pE) (a:=pa) (o:=.lst zs) (λb o e=>k3 b o e) hle (show Z7 X.prog X.w _ h3 _ (.lst zs) from⟨by rw[bB];lia,out.toList,c,rz,e3⟩);refine⟨.ref pa,_,I2.draws (d:=d3),rfl,q pa zs _ (I.ak.fresh hle) (jQ.mpr eA) ?_ Ls⟩;rw[<- Zom I.ak rv kJ];exact c9.map _
end L2
namespace av
open PySem PyProof.Rows sN PySem.W
variable{vs:List aa}{kz:List Int}
theorem Qb{keys:Array aa}(hk:kP keys.toList kz):∀p∈(keys.zip vs.toArray).toList,∃i t,p.1=iZ i t:=λp hp=>by
 obtain⟨x,y⟩:=p;rw[ksk_zip] at hp;exact hk.all _ (Fv hp).1
variable{prog:aC}{w:ay}{A:aI}{E:aa->af->Prop}{s:af}
theorem Zk6{a kS:Addr}{e e1:Nat}{keys:Array aa}{P:M6->af->Prop}(hk:kP keys.toList kz)(hl:keys.size=vs.length)(h9:vs.length<=63)
  (oK:s.heap.get? kS=some (seqObj "list" keys e)) (oA:s.heap.get? a=some (seqObj "list" #[] e1)) (ne:kS≠a)
  (h:∀out:Array aa,Bc false kz vs out.toList->out.size=vs.length->P (.done (.ret .none)) { s with heap:=(s.heap.update kS (a7 λ_=>#[])).update a (a7 λ_=>out) }) :
  wpAny (model prog w) A (ksk_end a false vs.toArray e1 (.ref kS) keys) P E s:=by
 unfold ksk_end;simp only[jN,eV];by_cases h2:vs.toArray.size<2
 ·rw[aj h2,aj h2];refine ae (ai ?_);rw[Xv];refine ae (ai ?_)
  try dsimp only
  refine PV (st:=Mh general' (keys.zip vs.toArray) #[] 7 none) hk hl (cm h9 (by decide)) oK oA ne (pN _) ?_ rfl h;show List.Pairwise _ (keys.zip vs.toArray).toList;refine nA.mpr λi j hi hj kD=>?_;rw[aU,Mm,hl,bp,MU] at hi hj;rw[bp] at h2;lia
 ·rw[ah h2,ah h2];rw[bp] at h2;rw[ksk_kind hk (by rw[hl];lia)];refine ae (ai ?_);have eB:(keys.zip vs.toArray).size=vs.length:=by rw[Mm,hl,bp,MU]
  refine ae (dz (OS (a₀ := keys.zip vs.toArray) (Q:=λ_ a_=>(arrOf a_).toList.Perm (keys.zip vs.toArray).toList/\So (λx y=>rp x.1 y.1) (arrOf a_).toList/\failedOf a_=none) Qm (λp q hp hq=>Zkd p q (Qb hk p hp) (Qb hk q hq)) (by rw[eB];lia) (by rw[eB];exact h9) λa_ a1 a2 a3=>⟨a1,a2,a3⟩) ?_ λ_ _ e=>e);rintro⟨⟨⟩,a_⟩ s' ⟨rfl,hp,eA,hf⟩
  try dsimp only
  exact PV hk hl (cm h9 (by decide)) oK oA ne hp eA hf h
end av
namespace L2
open PySem PySem.Spec PyProof.Rows PySem.W
variable{X:Cx}{pins:List (Addr×Obj)}{σ:St}{H:Hp}{s:af}
theorem Zju{a:Addr}{f:aa}{n:Nat}{vs:List aa}{ks:List Int}{P:M6->af->Prop}(I:Inv X pins σ H s)(ho:s.heap.get? a=some (seqObj "list" vs.toArray n)) (fa:bG X pins H a) (hl:ks.length=vs.length) (h9:vs.length<=63)
  (turn:∀(i:Nat)(u:aa)(k:Int),vs[i]?= some u->ks[i]?= some k->∀(pins:List (Addr×Obj))(s:af),Inv X pins σ H s->wpAny (model X.prog X.w) X.A (call f [u]) (EP X pins σ λkv H'=>H'=H/\kv=.int k) dE s)
  (h:∀(s':af)(out:Array aa)(c:Nat),Inv X pins σ H s'->s'.heap.get? a=some (seqObj "list" out c)->Bc false ks vs out.toList->out.size=vs.length->P (.done (.ret .none)) s') :
  wpAny (model X.prog X.w) X.A (ksk_tree a f false) P dE s:=by
 have ha:a<s.heap.objs.size:=aM ho;obtain⟨e1,dm⟩:∃e1,(s.heap.update a (a7 λ_=>(#[]:Array aa))).get? a=some (seqObj "list" #[] e1):=⟨_,xS ho λ_=>#[]⟩;have sb:=lU s.heap a (a7 λ_=>(#[]:Array aa));unfold ksk_tree;refine ae (Nr ho rfl ?_);refine ae (uR ho rfl ?_ (by rw[bp,bB];lia) (bz _));refine ae (Bv dm rfl ?_);refine ae (Gg ?_ (by show vs.length<=_;rw[bB];lia));refine ae (sk ?_ (bz _));refine eW ?_;have I1:Inv X pins σ H { s with heap:=s.heap.update a (a7 λ_=>(#[]:Array aa)),toks:=s.toks }:=I.turned (λb o hb e=>(sb.2 b hb).trans e) fa.1 fa.2.1 fa.2.2.2.1 fa.2.2.2.2.1 fa.2.2.2.2.2;have I2:Inv X pins σ H { s with heap:=(s.heap.update a (a7 λ_=>(#[]:Array aa))).push (seqObj "tuple" vs.toArray 0),toks:=s.toks }:=I1.kept λb u e=>aG _ e;have I3:Inv X pins σ H { s with heap:=((s.heap.update a (a7 λ_=>(#[]:Array aa))).push (seqObj "tuple" vs.toArray 0)).push (seqObj "list" #[] 0),toks:=s.toks }:=I2.kept λb u e=>aG _ e;obtain⟨kS,zA⟩:∃kS,kS=((s.heap.update a (a7 λ_=>(#[]:Array aa))).push (seqObj "tuple" vs.toArray 0)).objs.size:=⟨_,rfl⟩;have fk:bG X pins H kS:=I2.jo (Bm zA.symm) (by rw[zA];exact I2.ak.fresh (ax _));have ok:(((s.heap.update a (a7 λ_=>(#[]:Array aa))).push (seqObj "tuple" vs.toArray 0)).push (seqObj "list" #[] 0)).get? kS=some (seqObj "list" #[] 0):=by rw[zA];exact bE _ rfl
 have oa:(((s.heap.update a (a7 λ_=>(#[]:Array aa))).push (seqObj "tuple" vs.toArray 0)).push (seqObj "list" #[] 0)).get? a=some (seqObj "list" #[] e1):=aG _ (aG _ dm);have ne:kS≠a:=by
  rw[zA,A4,xt];exact jR (xJ ha)
 show wpAny _ _ (ksk_rest a f false vs.toArray e1 (.ref ((s.heap.update a (a7 λ_=>(#[]:Array aa))).push (seqObj "tuple" vs.toArray 0)).objs.size)) _ _ _;rw[<- zA];unfold ksk_rest;refine ae (p7 ?_)
 first
  | rw[List.forIn_toArray]
  | (rw[<- Vp];simp only[List.toList_toArray])
  | rw[<- Vp]
 refine ae (ksk_fold (λi s'=>∃kA e,Inv X pins σ H s'/\s'.heap.get? kS=some (seqObj "list" kA e)/\s'.heap.get? a=some (seqObj "list" #[] e1)/\kP kA.toList (ks.take i)) vs 0 _
  ⟨#[],0,I3,ok,oa,by simpa using kP.nil⟩ ?step ?done)
 case step =>
  rintro j x s' hx ⟨kA,e,J,k1,k2,hk⟩;simp only[nD] at hk ⊢;have hj:j<vs.length:=(cT.mp hx).1;obtain⟨k,Tn⟩:∃k,ks[j]?= some k:=⟨_,bO (by lia)⟩;have hz:kA.size<=vs.length:=by
   have h1:=hk.length;rw[aU,iy] at h1;lia
  refine ae (uS (dz (ZlB J fk fa k1 k2 (λv z=>nomatch z) (λv z=>nomatch z) (turn j x k hx Tn) (Q':=λv s2=>∃t2,v=.int k t2/\Inv X pins σ H s2/\s2.heap.get? kS=some (seqObj "list" kA e)/\s2.heap.get? a=some (seqObj "list" #[] e1)) λv kx s2 H' J2 g1 g2 _ _ rk q=>?_) (λv s2 he=>?_) λ_ _ hF=>hF.elim))
  ·obtain⟨rfl,rfl⟩:=q;obtain⟨t2,rfl⟩:=rk;exact⟨t2,rfl,J2,g1,g2⟩
  obtain⟨t2,rfl,J2,g1,g2⟩:=he
  try dsimp only
  have s1:=lU s2.heap kS (a7 (·.push (.int k t2)));obtain⟨c2,ii⟩:∃c2,(s2.heap.update kS (a7 (·.push (.int k t2)))).get? kS=some (seqObj "list" (kA.push (.int k t2)) c2):=⟨_,xS g1 (·.push (.int k t2))⟩;have ek:ks.take (j+1)=ks.take j ++ [k]:=by rw[Wt,Tn];simp
  have ea:(kA.push (iZ k t2)).toList=kA.toList ++ [iZ k t2]:=by simp
  refine ae (uR g1 rfl ?_ (by rw[bB];lia) (cm (Bm (pL ..)) (by rw[bB];lia)));exact ai ⟨rfl,kA.push (.int k t2),c2,J2.turned (t':=s2.toks) (λb o hb e=>(s1.2 b hb).trans e) fk.1 fk.2.1 fk.2.2.2.1 fk.2.2.2.2.1 fk.2.2.2.2.2,ii,(s1.2 a ne.symm).trans g2,by rw[ea,ek];exact ksk_snoc hk⟩
 case done =>
  rintro s' ⟨kA,e,J,k1,k2,hk⟩;have p9:kP kA.toList ks:=by
   have e3:ks.take (0+vs.length)=ks:=xG (by lia);rw[e3] at hk;exact hk
  have hsz:kA.size=vs.length:=by
   have h1:=p9.length;rw[aU] at h1;lia
  try dsimp only
  refine ae (Nr k1 rfl ?_);refine av.Zk6 p9 hsz h9 k1 k2 ne λout cJ kH=>?_;have s1:=lU s'.heap kS (a7 λ_=>(#[]:Array aa));have J1:Inv X pins σ H { s' with heap:=s'.heap.update kS (a7 λ_=>(#[]:Array aa)),toks:=s'.toks }:=J.turned (λb o hb e=>(s1.2 b hb).trans e) fk.1 fk.2.1 fk.2.2.2.1 fk.2.2.2.2.1 fk.2.2.2.2.2;have Ex:(s'.heap.update kS (a7 λ_=>(#[]:Array aa))).get? a=some (seqObj "list" #[] e1):=(s1.2 a ne.symm).trans k2;have s2:=lU (s'.heap.update kS (a7 λ_=>(#[]:Array aa))) a (a7 λ_=>out);have J2:=J1.turned (t':=s'.toks) (h':=(s'.heap.update kS (a7 λ_=>(#[]:Array aa))).update a (a7 λ_=>out)) (λb o hb e=>(s2.2 b hb).trans e) fa.1 fa.2.1 fa.2.2.2.1 fa.2.2.2.2.1 fa.2.2.2.2.2;exact h _ out _ J2 (xS Ex λ_=>out) cJ kH
section
variable{X:Cx}{P:Addr}{L:List (Pos×Str)}{params:uF}{scope:cY}{body e:Expr}{rB p pos kp:Pos}{gK:List (Str×Addr)}{px:Str}{aE:List (Str×Nat)}{t te:TE}{k kb:Nat}
def O5(K:au)(P:Addr)(L:List (Pos×Str))(aE:List (Str×Nat))(t:TE)(v:V)(σ : St)(H:Hp)(Q:VK):Prop :=
 dN H P L/\∃l xs ks,v=.ref l/\ag K H l xs/\xs.length<=63/\ks.length=xs.length/\∀f H2,H f=none->zi P H H2->dN H2 P L ->
  (∀(i:Nat) x kx,xs[i]?= some x->ks[i]?= some kx->t (AN x σ aE) H2 λkv H'=>H'=H2/\kv=.int kx)/\∀p zs,H2 p=none->C3 ks xs zs->Q (.ref p) (upd H2 p (.lst zs))
theorem ZN(Z:N3 X P L params scope body rB gK px aE kb t)(hc:X.calm=true)(hr:bL k X.A)(hg:Gl X "sorted") (hm:X.mg "sorted" = none) (pa:PA X [e] (om te mD)) (hk:kb+3<=k:=by decide)
  (bu:backTo pos (starEach [e] X.env)=(false,eval e X.env)::backTo pos (starEach [] X.env):=by rfl) (bD:(backTo pos (starEach [e] X.env)).any (·.1)=false:=by rfl) :
  PE X (.Call (.Name "sorted" p) [e] [⟨some (bw "key"),.Lambda params body scope rB,kp⟩] pos) (λσ H Q=>te σ H λv H1=>O5 X.K P L aE t v σ H1 Q):=by
 intro pins s σ H Q I h;refine p6 (lx I hg hm Ox ?_);refine Nm (aw (pa pos pins s σ H (λvs H1=>match vs with | [v]=>O5 X.K P L aE t v σ H1 Q|_=>False) I h) ?_) bu bD
 rintro us s1 ⟨vs,H1,I1,r,q⟩
 match vs,r,q with
 | [v],r,q =>
  obtain⟨u,rfl,ru⟩:=r.one;obtain⟨T,l,xs,ks,rfl,hq,h9,cO,q⟩:=q;obtain rfl:u=.ref l:=ru;obtain⟨c,Dw,KJ⟩:=Z.code;refine kws_cons (Zly I1 Z.bm Dw KJ T Z.mem Z.one Z.cl Z.df λf H2 s2 I2 hn sT T2 LF=>kws_nil ?_);obtain⟨q1,q2⟩:=q f H2 hn sT T2;have jA:=hq.ZAZ T sT;obtain⟨its,rv,pl,hz⟩:=I2.list jA;have hlen:=rv.length;show wpAny _ _ (call (.builtin "sorted") [.ref l] [(bw "key",.ref f)]) _ _ _;refine call_function_entry_kw XZ X0 XT (ksk_s1 _ _) ?_;unfold dG.«sorted»;refine ae (m:=checkCount "sorted" 1 1 _) (ai ?_);refine ae (XN pl.isList ?_ (by rw[bB];lia));refine ae (sk ?_ (by rw[bB];lia));have hsz:((s2.heap.push (seqObj "list" #[] 0)).update s2.heap.objs.size (a7 (· ++ its.toArray))).objs.size=s2.heap.objs.size+1:=by
   rw[xt,A4]
  have oY:(((s2.heap.push (seqObj "list" #[] 0)).update s2.heap.objs.size (a7 (· ++ its.toArray))).push (seqObj "list" its.toArray 0)).get? (s2.heap.objs.size+1)=some (seqObj "list" its.toArray 0):=by
   rw[<- hsz];exact bE _ rfl
  have keep:∀b o,s2.heap.get? b=some o->(((s2.heap.push (seqObj "list" #[] 0)).update s2.heap.objs.size (a7 (· ++ its.toArray))).push (seqObj "list" its.toArray 0)).get? b=some o:=λb o q=>by
   have aB:b<s2.heap.objs.size:=aM q;rw[Fc _ _ _ (by rw[hsz];exact bc (xJ aB)),Heap.get?_update_ne _ _ _ _ (bc aB),Fc _ _ _ (bc aB)];exact q
  show wpAny _ _ _ _ _ { s2 with heap:=((s2.heap.push (seqObj "list" #[] 0)).update s2.heap.objs.size (a7 (· ++ its.toArray))).push (seqObj "list" its.toArray 0) };rw[hsz];have Kz:H2 (s2.heap.objs.size+1)=none:=I2.ak.fresh (rZ _);have fa:bG (bF (bF X)) pins H2 (s2.heap.objs.size+1):=I2.in1.in1.jo (rZ _) Kz;have I3:Inv (bF (bF X)) pins σ H2 { s2 with heap:=((s2.heap.push (seqObj "list" #[] 0)).update s2.heap.objs.size (a7 (· ++ its.toArray))).push (seqObj "list" its.toArray 0),toks:=s2.toks }:=I2.in1.in1.kept keep;refine ae (eW (wpAny_call_entry_kw X4 ⟨_,oY,rfl⟩ XS ?body (ksk_l1 _ _)))
  case body =>
   show wpAny (model X.prog X.w) X.A.in1.in1 (dG.«list.sort» ⟨[.ref (s2.heap.objs.size+1)],[(bw "key",.ref f)]⟩) _ _ _;rw[ksk_t1];refine dz (Zju (ks:=ks) (P:=λfl s'=>fl=.done (.ret .none)/\∃zs,C3 ks xs zs/\Inv X pins σ (upd H2 (s2.heap.objs.size+1) (.lst zs)) s') I3 oY fa (by lia) (by lia) (λi u' kx ja oR GC s' J=>?_) λs' out cc J ho hk kH=>?_) (λfl s' hs=>?_) λ_ _ z=>z.elim
   ·obtain⟨x,hx,rx⟩:∃x,xs[i]?= some x/\RelV x u':=by
     have hi:=(cT.mp ja).1;obtain⟨u2,e2,r2⟩:=rv.get (bO (show i<xs.length by lia));rw[ja] at e2;cases e2;exact⟨_,bO (by lia),r2⟩
    obtain⟨pm,gm,c',oc,vs,tq,g1,g2,g3,g4⟩:=LF;exact Znb (X:=bF (bF X)) (k:=kb) J hc (((hr.mono hk).in1).in1) Z.sc.in1.in1 g1 g2 g3 g4 (Z.bind pm c' gm u') rx (Z.body _ f (.ref c') s' H2 ((((hr.mono hk).in1).in1).deeper _)) (q1 i x kx hx oR)
   ·obtain⟨zs,kL,eB⟩:=ZmE rv hk;refine⟨rfl,zs,kL,?_⟩;have iR:zs.length=out.size:=by rw[eB.length,aU]
    have J':Inv X pins σ H2 s':=Inv.EF I2.ok (Inv.EF I2.in1.ok J);exact J'.adopt fa ⟨by rw[bB];lia,out.toList,cc,eB,by rw[Array.toArray_toList];exact ho⟩
   ·obtain⟨rfl,zs,kL,J⟩:=hs;exact⟨_,rfl,ai ⟨_,rfl,.ref _,_,J,rfl,q2 _ zs Kz kL⟩⟩
end
end L2
namespace qj
open PySem PyProof.Rows k_ av L2
section
variable{prog:aC}{w:ay}{K:Type}[DecidableEq K]{knd:KeyKind prog w K}{A:aI}{E:aa->af->Prop}{s:af}
def vD(knd:KeyKind prog w K)(h:Heap)(S:Addr)(G:List (Int×aa)->Prop)(n:Nat)(led:Bool):Prop :=
 ∃o es ep t,h.get? S=some o/\o.ExactSet/\o.data=.set es ep t/\Mu knd es.toList/\Tab es t/\es.size<=n/\t.led=led/\G es.toList
set_option maxHeartbeats 1000000 in
theorem PZ{g:Bool->Sem Unit}(hg:∀(b:Bool)(aT : af)(Q':Unit->af->Prop),Q' () aT -> wpAny (model prog w) A (g b) Q' E aT)
  {S:Addr} {o:Obj} {es ee:Array (Int×aa)} {ep:Nat} {t t2:bQ} {G:List (Int×aa)->Prop} (gp:∀l l',MC l' l->G l->G l') {n:Nat} {led:Bool} {Q:Option Bool->af->Prop} (ho:s.heap.get? S=some o) (hx:o.ExactSet) (hd:o.data=.set es ep t)
  (hE:Mu knd ee.toList) (uo:G ee.toList) (h1:1<=ee.size) (hn:ee.size<=1000) (hsz:ee.size<=n) (hp:t2.place.size=ee.size) (hd2:t2.dummies=#[]) (DG:Good t2.mask) (D5:jf t2.place) (kF:t2.led=led)
  (q:∀h',fz S s.heap h'->vD knd h' S G n led->Q (some true) { s with heap:=h' }) :
  wpAny (model prog w) A (do
   storeSet S ee t2
   if(!false&&t2.tooFull)=true then do
     g (relayAll t2 ee (xP ee.size)).2.2
     storeSet S (relayAll t2 ee (xP ee.size)).1 (relayAll t2 ee (xP ee.size)).2.1
     pure (some true)
    else pure (some true)) Q E s:=by
 refine ae (Yj ho hd ?_ (by rw[bB];lia));have dm:=stored ho hd ee t2;have mV:fz S s.heap (s.heap.update S (Bn ee t2)):=lU ..;generalize s.heap.update S (Bn ee t2)=bo at dm mV;by_cases Ta:t2.tooFull=true
 ·rw[Ta,aj (by decide)];obtain⟨C6,t3,gv,e,jz,vQ,qU⟩:=ZiR (t:=t2) h1 hn;rw[e];dsimp only;have eB:C6.size=ee.size:=by rw[<- Array.length_toList,jz.length_eq,Array.length_toList]
  refine ae (hg _ _ _ (ae (Yj (s:={ s with heap:=bo }) dm rfl ?_ (by rw[eB,bB];lia))));have cJ:=stored dm rfl C6 t3;have rJ:fz S bo (bo.update S (Bn C6 t3)):=lU ..;exact ai (q _ (mV.trans rJ) ⟨_,C6,_,t3,cJ,hx,rfl,λe he=>hE e (jz.mem_iff.mp he),vQ,by lia,by rw[qU,kF],gp _ _ jz uo⟩)
 ·have K1:t2.tooFull=false:=by
   cases hc:t2.tooFull with
   | true=>exact absurd hc Ta
   | false=>rfl
  rw[K1,ah (by decide)];refine ai (q bo mV ⟨_,ee,_,t2,dm,hx,rfl,hE,⟨hp,hd2,DG,?_,D5⟩,hsz,kF,uo⟩);unfold bQ.tooFull at K1;have:=l_ K1;lia
variable{S:Addr}
set_option maxHeartbeats 2000000 in
theorem ZiG{G G':List (Int×aa)->Prop}(gp:∀l l',MC l' l->G' l->G' l'){n i:Nat}{k:K}{v:aa}(hv:knd.is k v=true)(Am:v.scannable=true){led:Bool}{Q:Bool->af->Prop}(hS:vD knd s.heap S G n led)(hn:n<=900)(g0:∀l,G l->(∃e∈l,knd.is k e.2=true)->G' l)(g1:∀l x,G l->(∀e∈l,knd.is k e.2=false)->G' ((x,v)::l))
  (q:∀b h',fz S s.heap h'->vD knd h' S G' (n+1) led->Q b { s with heap:=h' }):wpAny (model prog w) A (setAddHashed S v (knd.hash k)) Q E s:=by
 obtain⟨o,es,ep,t,ho,hx,hd,hE,hT,hsz,kF,uo⟩:=hS;have hb:es.size<scanBound:=by show es.size<4096;lia
 unfold setAddHashed setAddHashedIn;refine eW (ae (sq ho hd hT.fits ?_));dsimp only;rw[byScan_of (knd:=knd) Am hb hE];simp only[↓reduceIte];unfold setAddByScan;refine ae ?_;refine ae (p7 ?_);refine ae (wpAny_setScan_of (knd:=knd) hv ho hd hT.fits hE ?_);cases hr:List.findIdx? (λe=>knd.is k e.2) es.toList with
 | some j =>
  dsimp only;obtain⟨hj,mQ,_⟩:=List.findIdx?_eq_some_iff_getElem.mp hr;exact wpAny_pure (wpAny_pure (q false s.heap (Heap.SameBut.refl ..) ⟨o,es,ep,t,ho,hx,hd,hE,hT,by lia,kF,g0 _ uo ⟨es.toList[j],Ft hj,mQ⟩⟩))
 | none =>
  dsimp only;obtain⟨j,hj,eL⟩:=Zm4 hT (knd.hash k) v;rw[eL];dsimp only;have KO:=FR es (cf t.place j) (knd.hash k,v);have cH:∀e∈(gT es (cf t.place j) (knd.hash k,v)).toList,e∈es.toList\/e=(knd.hash k,v):=λe he=>by
   have:=KO.mem_iff.mp he;rw[Mo] at this;rcases aS.mp this with z|z
   ·exact .inl z
   ·exact .inr (ao.mp z)
  have C_:G' (gT es (cf t.place j) (knd.hash k,v)).toList:=by
   refine gp _ _ ?_ (g1 es.toList (knd.hash k) uo λe he=>?_)
   ·refine KO.trans ?_;rw[Mo];exact Wq (l₁ := es.toList) (l₂ :=[_])
   ·exact List.findIdx?_eq_none_iff.mp hr e he
  have ui:(gT es (cf t.place j) (knd.hash k,v)).size=es.size+1:=by
   rw[<- aU,KO.length_eq,aU,pL]
  have bo:(gT t.place (cf t.place j) j).size=es.size+1:=by
   rw[<- aU,(FR t.place (cf t.place j) j).length_eq,aU,pL,hT.size]
  have D5:jf (gT t.place (cf t.place j) j):=Zib hT.EJ (ZkI hT.EJ hj);generalize gT es (cf t.place j) (knd.hash k,v)=ee at cH ui C_;have Sx:Mu knd ee.toList:=λe he=>by
   rcases cH e he with z|z
   ·exact hE e z
   ·subst z;exact⟨⟨k,hv,rfl⟩,Am⟩
  refine ae (ai ?_)
  split
  ·refine ae ?_;rw[hashByValue_scannable 8 Am];refine ai ?_;generalize plainKind v=c;cases c <;> (simp only[jN,gF,eV];refine PZ (gp:=gp) (λb aT Q' hq=>by cases b <;> first|exact ai hq|exact p7 hq) ho hx hd Sx C_ (by lia) (by lia) (show ee.size<=n+1 by lia) (by rw[ui];exact bo) hT.none hT.good D5 kF λh' sb yi=>?_;exact ai (q true h' sb yi))
  ·refine ae (ai ?_);refine PZ (gp:=gp) (λb aT Q' hq=>by cases b <;> first|exact ai hq|exact p7 hq) ho hx hd Sx C_ (by lia) (by lia) (show ee.size<=n+1 by lia) (by rw[ui];exact bo) hT.none hT.good D5 kF λh' sb yi=>?_
   exact ai (q true h' sb yi)
theorem ZpS{k:K}{v:aa}(hv:knd.is k v=true)(Am:v.scannable=true){G G':List (Int×aa)->Prop}(gp:∀l l',MC l' l->G' l->G' l'){n:Nat}{led:Bool}{Q:Bool->af->Prop}(hS:vD knd s.heap S G n led)(hn:n<=900)(g0:∀l,G l->(∃e∈l,knd.is k e.2=true)->G' l)(g1:∀l x,G l->(∀e∈l,knd.is k e.2=false)->G' ((x,v)::l))
  (q:∀r h' tk,s.toks<=tk->fz S s.heap h'->vD knd h' S G' (n+1) led->Q r { s with heap:=h',toks:=tk }):wpAny (model prog w) A (setAdd S v) Q E s:=by
 unfold setAdd;refine eW (ae (knd.pyHash hv ?_));exact ZiG gp (i:=0) hv Am (s:={ s with toks:=_ }) hS hn g0 g1 λb h' sb yi=>q b h' _ (Nat.le_add_right _ _) sb yi
end
end qj
namespace L2
open PySem PySem.Spec PyProof.Rows PySem.W av k_ qj
section
structure vb{P:aC}{w:ay}{K:Type}[DecidableEq K](knd:KeyKind P w K)(vk:K->V)(key:aa->K)(lt:K->K->Bool):Prop where
 rel:∀{k v},RelV (vk k) v->knd.is k v=true/\v.scannable=true/\key v=k
 U':fR lt
 srt:∀{A:aI}{s:af}{vs:List aa},(∀v∈vs,RelV (vk (key v)) v)->2<=vs.length->sS P w A (λu v=>lt (key u) (key v)) vs s
variable{K:Type}{vk:K->V}{key:aa->K}
def nQ(key:aa->K)(P:K->Prop)(l:List (Int×aa)):Prop:=l.Pairwise (λe e'=>key e.2≠key e'.2)/\∀i,(∃e∈l,key e.2=i)↔P i
theorem nQ.perm{P:K->Prop}(l l':List (Int×aa))(p:l'.Perm l)(h:nQ key P l):nQ key P l' :=
 ⟨(p.pairwise_iff λ{a b} eu e=>eu e.symm).mpr h.1,λi=>Fd ⟨λ⟨e,h1,h2⟩=>⟨e,p.mem_iff.mp h1,h2⟩,λ⟨e,h1,h2⟩=>⟨e,p.mem_iff.mpr h1,h2⟩⟩ (h.2 i)⟩
def N1(vk:K->V)(key:aa->K)(l:List (Int×aa)):Prop := ∀e∈l,RelV (vk (key e.2)) e.2
theorem QE[DecidableEq K]{P:K->Prop}{l:List (Int×aa)}{D:List K}(h:nQ key P l)(hD:∀k,P k->k∈D):l.length<=D.length:=by
 have hn:(l.map λe=>key e.2).Nodup:=jQ.mpr h.1;have:=Fg.nX hn λk hk=>by
  obtain⟨e,he,rfl⟩:=a6.mp hk;exact hD _ ((h.2 _).mp ⟨e,he,rfl⟩)
 rw[ar] at this;exact this
end
section
variable{κ : Type}[DecidableEq κ]{vk : κ -> V}{key:aa -> κ}{lt : κ -> κ -> Bool}
def JE{P:aC}{w:ay}(knd:KeyKind P w κ)(vk : κ -> V)(key:aa -> κ)(h0:Heap)(S:Addr)(D ns:List κ)(i:Nat)(h:Heap):Prop :=
 vD knd h S (λl=>N1 vk key l/\nQ key (λk=>∃j:Nat,j<i/\ns[j]?= some k) l) D.length (CS w)/\∀b o,b<S->h0.get? b=some o->h.get? b=some o
variable{P:aC}{w:ay}
theorem vb.iff{knd:KeyKind P w κ}(ex:vb knd vk key lt){k : κ}{v:aa}(h:RelV (vk (key v)) v):knd.is k v=true↔key v=k :=
 ⟨λz=>knd.inj _ _ _ (ex.rel h).1 z,λz=>z ▸ (ex.rel h).1⟩
theorem JE.Zxk{knd:KeyKind P w κ}(ex:vb knd vk key lt){A:aI}{h0:Heap}{S:Addr}{items:Array aa}{D ns:List κ}(hD:∀k∈ns,k∈D)(hn:D.length<=900)(x:Vals (ns.map vk) items.toList):Goes P w A S items (JE knd vk key h0 S D ns) where
 keep:=λi h h' z k=>by
  obtain⟨⟨o,es,ep,t,ho,z⟩,hb⟩:=z;exact⟨⟨o,es,ep,t,k S o (ax _) ho,z⟩,λb o aB e=>k b o (lZ aB) (hb b o aB e)⟩
 add:=λi v s Q E hi z q=>by
  obtain⟨Dq,hb⟩:=z;have gY:items.toList[i]?= some v:=by rw[jM];exact hi
  obtain⟨z,hz,rz⟩:=Pw x i v gY;rw[bW] at hz;obtain⟨k,hk,rfl⟩:=dv.mp hz;obtain⟨x1,x2,x3⟩:=ex.rel rz;have eP:∀m : κ,(∃j:Nat,j<i+1/\ns[j]?= some m)↔((∃j:Nat,j<i/\ns[j]?= some m)\/m=k):=λm=>by
   constructor
   ·rintro⟨j,h1,h2⟩;by_cases c:j<i
    ·exact .inl ⟨j,c,h2⟩
    ·have:j=i:=by lia
     subst this;rw[hk] at h2;cases h2;exact .inr rfl
   ·rintro(⟨j,h1,h2⟩|rfl)
    ·exact⟨j,by lia,h2⟩
    ·exact⟨i,by lia,hk⟩
  have eQ:=λm=>Fd (or_congr rQ rQ) (eP m).symm;refine ZpS x1 x2 (G':=λl=>(N1 vk key l/\nQ key (λk=>∃j:Nat,j<i+1/\ns[j]?= some k) l)/\l.length<=D.length) (λl l' pp z=>⟨⟨λe he=>z.1.1 e (pp.mem_iff.mp he),nQ.perm l l' pp z.1.2⟩,by rw[pp.length_eq];exact z.2⟩) Dq hn (λl z hex=>?_) (λl x z dS=>?_) λb h' tk _ sb Kd=>q b h' tk sb ⟨?_,λb o aB e=>(sb.2 b (bc aB)).trans (hb b o aB e)⟩
  ·obtain⟨hN,g1,g2⟩:=z;have g:nQ key (λk=>∃j:Nat,j<i+1/\ns[j]?= some k) l:=⟨g1,λm=>((or_iff_left_of_imp ?_).symm.trans (or_congr (g2 m) rQ)).trans (eP m).symm⟩
   ·exact⟨⟨hN,g⟩,QE g λk ⟨j,_,h⟩=>hD k (bY h)⟩
   ·rintro rfl;obtain⟨e,he,h1⟩:=hex;exact⟨e,he,(ex.iff (hN e he)).mp h1⟩
  ·obtain⟨hN,g1,g2⟩:=z;have g:nQ key (λk=>∃j:Nat,j<i+1/\ns[j]?= some k) ((x,v)::l):=by
    refine⟨Bi.mpr ⟨λe he z=>?_,g1⟩,λm=>Fd ?_ ((or_congr (g2 m) rQ).trans (eP m).symm)⟩
    ·have:=dS e he;rw[(ex.iff (hN e he)).mpr (z.symm.trans x3)] at this;cases this
    ·constructor
     ·rintro⟨e,he,h1⟩;rcases aV.mp he with rfl|he
      ·exact .inr (h1.symm.trans x3)
      ·exact .inl ⟨e,he,h1⟩
     ·rintro(⟨e,he,h1⟩|rfl)
      ·exact⟨e,bM _ he,h1⟩
      ·exact⟨_,aZ ..,x3⟩
   refine⟨⟨λe he=>?_,g⟩,QE g λk ⟨j,_,h⟩=>hD k (bY h)⟩;rcases aV.mp he with rfl|he
   ·show RelV (vk (key v)) v;rw[x3];exact rz
   ·exact hN e he
  ·obtain⟨o,es,ep,t,h1,h2,h3,h4,h5,h6,h7,h8,h9⟩:=Kd;rw[aU] at h9;exact⟨o,es,ep,t,h1,h2,h3,h4,h5,h9,h7,h8⟩
theorem JE.zero{knd:KeyKind P w κ}{h0 h:Heap}{S:Addr}{D ns:List κ}(hS:h.get? S=some (jh w))(k:∀b o,b<S->h0.get? b=some o->h.get? b=some o):JE knd vk key h0 S D ns 0 h :=
 ⟨⟨_,#[],0,_,hS,⟨rfl,rfl,rfl⟩,rfl,(λ_ h=>(nomatch h)),⟨rfl,rfl,.inl rfl,(by show(0:Nat)*5<7*3;decide),MB⟩,bz _,rfl,⟨(λ_ h=>(nomatch h)),MB,λks=>⟨λ⟨_,h,_⟩=>(nomatch h),λ⟨_,h,_⟩=>absurd h (r6 _)⟩⟩⟩,k⟩
def QW(vk : κ -> V)(lt : κ -> κ -> Bool)(K:au)(v:V)(H:Hp)(Q:VK):Prop :=
 ∃(l:Addr)(D ns:List κ),v=.ref l/\ag K H l (ns.map vk)/\(∀k∈ns,k∈D)/\D.length<=63/\∀r (ms:List κ),H r=none->ms.Pairwise (λa b=>lt a b=true)->(∀i,i∈ms↔i∈ns)->Q (.ref r) (upd H r (.lst (ms.map vk)))
variable{X:Cx}{e:Expr}{te:TE}{p p' pos pos':Pos}
set_option maxHeartbeats 1000000 in
theorem B6{knd:KeyKind X.prog X.w κ}(ex:vb knd vk key lt)(hc:X.calm=true)(hu:X.A.units+200<cLine)(hg:Gl X "sorted") (hm:X.mg "sorted" = none) (sC:Gl X "set") (gZ:X.mg "set" = none) (pa:PA X [e] (om te mD))
  (hs:starEach [e] X.env=[(false,eval e X.env)]:=by rfl) (p_:starEach [.Call (.Name "set" p') [e] [] pos'] X.env=[(false,eval (.Call (.Name "set" p') [e] [] pos') X.env)]:=by rfl) :
  PE X (.Call (.Name "sorted" p) [.Call (.Name "set" p') [e] [] pos'] [] pos) (λσ H Q=>te σ H λv H1=>QW vk lt X.K v H1 Q):=by
 intro pins s σ H Q I h;refine p6 (lx I hg hm Ox ?_);refine WU ?_ p_ rfl;rw[p_];refine xo ?_;refine p6 (lx I sC gZ ZnQ ?_);refine Bp (aw (pa pos' pins s σ H (λvs H1=>match vs with | [v]=>QW vk lt X.K v H1 Q|_=>False) I h) ?_) hs rfl
 rintro us s1 ⟨vs,H1,I1,r,q⟩
 match vs,r,q with
 | [v],r,q =>
  obtain⟨u,rfl,ru⟩:=r.one;obtain⟨l,D,ns,rfl,hq,hD,DP,q⟩:=q;cases ru;obtain⟨its,rv,pl,hz⟩:=I1.list hq;have hlen:=rv.length;rw[ar] at hlen;refine ZiQ (J:=JE knd vk key s1.heap s1.heap.objs.size D ns) (I1.ok.hd hc) (by lia) pl.isList (λB hB=>JE.Zxk ex hD (by lia) rv) (λh h1 h2=>JE.zero h1 h2) λh2 tk hJ k2=>?_;refine E9 ?_;have GA:∀b o,s1.heap.get? b=some o->h2.get? b=some o:=λb o e=>k2 b o (aM e) e;obtain⟨⟨o,es,ep,t,ho,hx,hd,hE,hT,hsz,kF,hN,cI,cH⟩,hb⟩:=hJ;refine B2 (lv:=λu v=>lt (key u) (key v)) (s:={ s1 with heap:=h2,toks:=tk }) (C:=λys=>ys.Perm (es.toList.map (·.2))) (ex.U'.L6 key) (λQ' E' fE=>?_) (λqd h6 ET d6 hC k6 zE=>?_) λpa qd out h3 pE d3 c hC c9 eA k3 e3 hle kH=>?_
  ·refine ZfM (I1.ok.hd hc) ho hx hd hT kF (by lia) λqd h' yp d' k' hp hle=>fE qd h' yp d' k' hp ?_ hle;rw[hp.length_eq,ar,aU];lia
  ·refine ex.srt (λv nK=>?_) zE;obtain⟨e,he,rfl⟩:=a6.mp (hC.mem_iff.mp nK);exact hN e he
  ·have jz:out.toList.Perm (es.toList.map (·.2)):=c9.trans hC;have hon:∀us:List aa,(∀u∈us,RelV (vk (key u)) u)->Vals ((us.map key).map vk) us:=λus=>by
    induction us with
    | nil=>exact λ_=>.nil
    | cons u us ih=>exact λhu=>.cons (hu u (aZ ..)) (ih λx hx=>hu x (bM _ hx))
   have rz:=hon out.toList λu hu=>by
    obtain⟨e,he,rfl⟩:=a6.mp (jz.mem_iff.mp hu);exact hN e he
   have lD:s1.heap.objs.size<=pa:=cm (lZ (aM ho)) hle;have TH:(out.toList.map key).Perm (es.toList.map λe=>key e.2):=by
    have:=jz.map key;rw[gB] at this;exact this
   have wl:out.size=es.size:=by
    have:=jz.length_eq
    rwa [ar,aU,aU] at this
   have I2:=I1.laid (h':=h3) (t':=pE) (a:=pa) (o:=.lst ((out.toList.map key).map vk)) (λb o e=>k3 b o (GA b o e)) lD (show Z7 X.prog X.w _ h3 _ (.lst ((out.toList.map key).map vk)) from⟨by rw[ar,ar,aU,bB];lia,out.toList,c,rz,e3⟩);refine⟨.ref pa,_,I2.draws (d:=d3),rfl,q pa _ (I1.ak.fresh lD) (ex.U'.strict (jQ.mpr eA) (TH.nodup_iff.mpr (jQ.mpr cI))) (λi=>TH.mem_iff.trans (Fd ⟨λhi=>?_,λ⟨e,he,z⟩=>z ▸ a6.mpr ⟨e,he,rfl⟩⟩ ((cH i).trans ⟨λ⟨j,_,h2⟩=>bY h2,λhi=>?_⟩)))⟩
   ·obtain⟨e,he,rfl⟩:=a6.mp hi;exact⟨e,he,rfl⟩
   ·obtain⟨j,hj⟩:=uM.mp hi;exact⟨j,by have:=(cT.mp hj).1;simp;lia,hj⟩
theorem P5:vb (PySem.strKind P w) V.str zo AX :=
 ⟨λ{k v} h=>by
  obtain⟨t,rfl⟩:=h;exact⟨PySem.strKind_is _ _ _ _,rfl,rfl⟩,QS,λh=>ZO λv hv=>⟨_,h v hv⟩⟩
theorem P9:vb (intKind P w) V.int j_ λa b=>decide (a<b) :=
 ⟨λ{k v} h=>by
  obtain⟨t,rfl⟩:=h;exact⟨intKind_is _ _ _ _,rfl,rfl⟩,vn,λh=>N7 λv hv=>⟨_,h v hv⟩⟩
end
end L2
namespace L2
open PySem PySem.Spec PyProof.Rows PySem.SeqAt PySem.W
def zc(K:au)(sp:Sp)(x d:V)(H:Hp)(Q:VK):Prop := ∃l xs,x=.ref l/\ag K H l xs/\∀p,H p=none->(xs=[]->Q d (upd H p (.lst [])))/\(xs ≠ []->∃bf KA,yx K H p xs bf KA (λx H Q2=>sp [x] H Q2 E0)/\∀x H',xs[eK bf (xs.length-1)]?= some x->Zh H H'->Q x H')
section
variable{X:Cx}{pins:List (Addr×Obj)}{σ : St}{H:Hp}{s:af}{k:Nat}{f:Addr}{fd:dP}{ps:List Str}{sp:Sp}{Q:VK}
theorem Zf4{x d:V}{u ud:aa}(hc:X.calm=true)(hu:X.A.in1.units+200<cLine)(F:aX X.prog X.w X.K X.mg X.base bq k f fd ps sp)(hb:Binds X.K fd ps [])(hr:bL k X.A.in1)(I:Inv X pins σ H s)(rx:RelV x u)(rd:RelV d ud)(h:zc X.K sp x d H Q) :
  wpAny (model X.prog X.w) X.A (call (.builtin "min") [u] [(bw "key",.ref f),(bw "default",ud)]) (EP X pins σ Q) X.xe s:=by
 have qW:(toString "min" ++ toString ".loop" : String)= "min.loop" := by decide
 obtain⟨l,xs,rfl,hq,alt⟩:=h;cases rx;obtain⟨its,rv,pl,hz⟩:=I.list hq;refine WV W2 W5 W0 (Zgt _ _ _) ?_;show wpAny _ X.A.in1 (E4 "min" ["key","default"] 0 ⟨[],[(bw "key",.ref f),(bw "default",ud)]⟩ >>= _) _ _ s;refine ae (so (show E4 "min" ["key","default"] 0 ⟨[],[(bw "key",.ref f),(bw "default",ud)]⟩=pure [some (.ref f),some ud] from rfl) ?_);refine ae (ai ?_);refine ae (By pl.isList ?_);refine ae (sk ?_ (bz _));rw[qW];refine ai ⟨jV pV _,?_⟩;have hS:(s.heap.push { cls:=.type "list_iterator",data:=.fields #[.ref l,.int 0 0] }).objs.size=s.heap.objs.size+1:=A4 ..;have I0:Inv (bF X) pins σ H { s with heap:=s.heap.push { cls:=.type "list_iterator",data:=.fields #[.ref l,.int 0 0] },toks:=s.toks }:=I.in1.kept λb o e=>aG _ e;have I1:=I0.wG (its:=[]) (t':=s.toks) .nil (bz _);have fr:H (s.heap.push { cls:=.type "list_iterator",data:=.fields #[.ref l,.int 0 0] }).objs.size=none:=I0.fresh;have ne:s.heap.objs.size≠(s.heap.push { cls:=.type "list_iterator",data:=.fields #[.ref l,.int 0 0] }).objs.size:=by rw[hS];exact bc (pT _)
 have hf:bG (bF X) pins (upd H (s.heap.push { cls:=.type "list_iterator",data:=.fields #[.ref l,.int 0 0] }).objs.size (.lst [])) s.heap.objs.size:=I.in1.jo (ax _) (by rw[Zc ne];exact I.fresh);have st:((s.heap.push { cls:=.type "list_iterator",data:=.fields #[.ref l,.int 0 0] }).push { cls:=.type "list",data:=.seq ([]:List aa).toArray }).IsListIter s.heap.objs.size l 0:=⟨_,aG _ (bE _ rfl),rfl,rfl⟩;obtain⟨a0,a1⟩:=alt _ fr;by_cases hx:xs=[]
 ·subst hx;have il:(upd H (s.heap.push { cls:=.type "list_iterator",data:=.fields #[.ref l,.int 0 0] }).objs.size (.lst [])) (s.heap.push { cls:=.type "list_iterator",data:=.fields #[.ref l,.int 0 0] }).objs.size=some (.lst []):=Za;obtain⟨_,ZzP,n0,LY,_,e0⟩:=I1.iT il;cases LY;refine gb FK ?_;rw[lS pV _];show wpAny _ X.A.in1 (seqItems? (.ref _) >>= _) _ _ _;refine ae (Bz e0 rfl ?_);show wpAny _ X.A.in1 (tryCatch (pyNext (.ref s.heap.objs.size)) _ >>= _) _ _ _;refine ae (su (QT hc I1 st (hq.sm (Zh.new fr)) (bz _) hf λs1 I2=>?_));refine ae (p7 (ai ?_));exact⟨d,_,Inv.EF I.ok I2,rd,a0 rfl⟩
 ·obtain⟨bf,KA,kb,q⟩:=a1 hx;exact OH hu (λI' r h=>zd (X:=bF X) (ds:=[]) (dvs:=[]) (E:=E0) F hr hb .nil vG I' (.cons r .nil) h) (Pu hc) I.ok fr (λH' sm=>hq.sm sm) kb hx q I1 st hf
end
section
variable{X:Cx}{x:Str}{ps:List Str}{j k:Nat}{sp:Sp}{e dx:Expr}{te td:TE}{p p2 pos kp Ux:Pos}
theorem ZiC(G:cx X.prog X.w X.K X.mg X.base x ps j sp)(hr:bL (k+1) X.A)(hc:X.calm=true)(KI:Gl X (bw "min")) (mP:X.mg (bw "min")=none) (hg:Gl X x) (pa:PA X [e] (om te mD)) (S2:PE X dx td) (hk:j<=k:=by decide) (eR:(x == ("__debug__" : Str))=false:=by decide)
  (bu:backTo pos (starEach [e] X.env)=(false,eval e X.env)::backTo pos (starEach [] X.env):=by rfl) (bD:(backTo pos (starEach [e] X.env)).any (·.1)=false:=by rfl) :
  PE X (.Call (.Name (bw "min") p) [e] [⟨some (bw "key"),.Name x p2,kp⟩,⟨some (bw "default"),dx,Ux⟩] pos) (λσ H Q=>te σ H λv H1=>td σ H1 λd H2=>zc X.K sp v d H2 Q):=by
 obtain⟨f,fd,F,b,kpn,m⟩:=G.ex;intro pins s σ H Q I h;refine p6 (lx I KI mP QZ ?_);refine Nm (aw (pa pos pins s σ H (λvs H1=>match vs with | [v]=>td σ H1 λd H2=>zc X.K sp v d H2 Q|_=>False) I h) ?_) bu bD
 rintro us s1 ⟨vs,H1,I1,r,q⟩
 match vs,r,q with
 | [v],r,q =>
  obtain⟨u,rfl,ru⟩:=r.one;have pk:PK X [⟨some (bw "key"),.Name x p2,kp⟩,⟨some (bw "default"),dx,Ux⟩] (om (tC (.ref f)) (om td mD)):=Jc (Cr hg m (v:=.ref f) rfl eR) (Jc S2 Rt);refine aw (pk pos pins s1 σ H1 (λzs H2=>match zs with | [z,d]=>z=.ref f/\zc X.K sp v d H2 Q|_=>False) I1 ?_) λws s2 ⟨zs,H2,I2,rz,q2⟩=>?_
  ·show td σ H1 λd H2=>V.ref f=.ref f/\zc X.K sp v d H2 Q
   simpa using q
  ·match zs,rz,q2 with
   | [z,d],rz,q2 =>
    obtain⟨rfl,q2⟩:=q2;obtain⟨uf,ud,rfl,rf,rd⟩:=vals2 rz;cases rf;exact Zf4 hc (by have:=(hr.in1).un;lia) (F.room hk) b hr.in1 I2 ru rd q2
end
end L2
namespace qf
open PySem L2 g6 Fg
def top(i:Nat):Stmt:=ZCg.main.body.getD i (.Pass ⟨0,0,0,0⟩)
abbrev HJ:Stmt:=top 4
abbrev B7:Stmt:=top 6
abbrev Jk:Stmt:=top 8
abbrev Hf:Stmt:=top 9
abbrev Hs:Stmt:=top 10
abbrev Im:Stmt:=top 13
abbrev IY:Stmt:=top 14
abbrev Hr:Stmt:=top 15
abbrev HD:Stmt:=top 16
abbrev IG:Stmt:=top 17
abbrev Hu:Stmt:=top 18
abbrev Hl:Stmt:=top 19
abbrev B1:Stmt:=inClass (top 22) 0
abbrev BX:Stmt:=inClass (top 22) 1
abbrev Hx:Stmt:=inClass (top 22) 2
abbrev B0:Stmt:=inClass (top 22) 3
abbrev BZ:Stmt:=inClass (top 22) 4
abbrev BU:Stmt:=inClass (top 22) 5
abbrev Hh:Stmt:=inClass (top 22) 6
abbrev Hi:Stmt:=inClass (top 22) 7
abbrev yF:Stmt:=inClass (top 22) 8
abbrev Hy:Stmt:=inClass (top 22) 9
abbrev Zv:Stmt:=inClass (top 22) 10
abbrev Zq:Stmt:=inClass (top 22) 11
abbrev n9:Stmt:=top 23
abbrev Ht:Stmt:=top 24
abbrev HQ:Stmt:=top 26
abbrev Ho:Stmt:=top 27
abbrev Iq:Stmt:=top 28
abbrev Ia:Stmt:=top 29
abbrev Cm:Stmt:=top 30
abbrev ZJ:Stmt:=top 31
abbrev HI:Stmt:=top 32
abbrev dh:Stmt:=top 33
theorem B3:bS ["grove","words","waiting","tree"] ["grove"] (Zk HJ):=cB
theorem Z1:bS ["form","found","grown","kind","tag","inner","rest"] ["form"] (Zk B7):=cB
theorem Znk:bS ["grove"] ["grove"] (Zk Jk):=cB
theorem Y5:bS ["words"] ["words"] (Zk Hf):=cB
theorem ZU:bS ["groves"] ["groves"] (Zk Hs):=cB
theorem HX:bS ["form","counts","end"] ["form"] (Zk Im):=cB
theorem nY:bS ["rules","inners","counts","fallen","kind","tag","inner","rest","count"] ["rules","inners","counts"] (Zk IY):=cB
theorem ZI:bS ["inner","rest"] ["inner","rest"] (Zk Hr):=cB
theorem ZgB:bS ["count"] ["count"] (Zk HD):=cB
theorem ZlO:bS ["form"] ["form"] (Zk IG):=cB
theorem BS:bS ["form","counts","groves","small","kind"] ["form","counts"] (Zk Hu):=cB
theorem Z5:bS ["form","kind","counts","groves","found","above","tag","inner","rest"] ["form","kind","counts","groves"] (Zk Hl):=cB
theorem ZW:bS ["self","form","alive","kind","tag","inner","rest"] ["self","form"] (Zk B1):=cB
theorem YN:bS ["self","kind","tag"] ["self","kind","tag"] (Zk BX):=cB
theorem Zes:bS ["self","word"] ["self","word"] (Zk Hx):=cB
theorem ZX:bS ["self","tag","begins","begin","now","inner","rest"] ["self","tag"] (Zk B0):=cB
theorem Zz:bS ["self","ended","tag","pairs","begin","now","inner","rest"] ["self"] (Zk BZ):=cB
theorem Y1:bS ["self"] ["self"] (Zk BU):=cB
theorem Y9:bS ["self"] ["self"] (Zk Hh):=cB
theorem YO:bS ["self"] ["self"] (Zk Hi):=cB
theorem BY:bS ["self","found","begin","now"] ["self"] (Zk yF):=cB
theorem Z_:bS ["self"] ["self"] (Zk Hy):=cB
theorem ZC:bS ["self","rows","behind","level","tag","lists","now","words"] ["self"] (Zk Zv):=cB
theorem Zu:bS ["self","rows","behind","tag","lists","kind","words","inner","rest","found"] ["self","rows","behind","tag"] (Zk Zq):=cB
theorem yD:bS ["level","behind","found","begin","now","words"] ["level","behind"] (Zk n9):=cB
theorem YZ:bS ["lists","row","words"] ["lists","row","words"] (Zk Ht):=cB
theorem Zfz:bS ["_law_script","_law_k"] ["_law_script","_law_k"] (Zk HQ):=cB
theorem vg:bS ["_law_script","_law_first","_law_many","_law_found","_law_number","_law_k","_law_cell"] ["_law_script","_law_first","_law_many"] (Zk Ho):=cB
theorem qr:bS ["_law_cell","_law_some","_law_number","_law_stem","_law_k","_law_one"] ["_law_cell"] (Zk Iq):=cB
theorem mq:bS ["_law_script","_law_tags_here","_law_first","_law_many","_law_numbers_here","_law_begins","_law_finals","_law_paths","_law_number","_law_tag","_law_inner"] ["_law_script","_law_tags_here"] (Zk Ia):=cB
theorem sQ:bS ["_law_shape_here","_law_words","_law_rows","_law_word","_law_kids","_law_others","_law_found","_law_rule"] ["_law_shape_here","_law_words"] (Zk Cm):=cB
theorem Z3:bS ["_law_opened","_law_tags_here","_law_ready","_law_some","_law_turn","_law_fresh","_law_row","_law_left","_law_used","_law_tag"] ["_law_opened","_law_tags_here"] (Zk ZJ):=cB
theorem Zgu:bS ["_law_row","_law_other"] ["_law_row","_law_other"] (Zk HI):=cB
theorem hV:bS ["_law_script","_law_tags_here","_law_shape_here","_law_reader","_law_words","_law_number","_law_coming","_law_lowest","_law_openers","_law_row","_law_word","_law_left"] ["_law_script"] (Zk dh):=cB
abbrev Zw:List (Pos×Str):=[(⟨65,34,65,59⟩,"least_groves.<locals>.<lambda>")]
abbrev cj:List Str:=["dict","isinstance","len","list","max","min","range","reversed","set","sorted","tuple","zip"]
section
variable{P:aC}{w:ay}{K:au}{mg:Str->Option aa}{base:Heap}{f:Addr}{fd:dP}
theorem Zg8(B:∀x∈cj,mg x=none)(F:bC K "words_of" "words_of" HJ f fd):aX P w K mg base bq 1 f fd ["grove"] (IZ K):=by
 refine F.ok B3 (λvs H Q E h=>?_) (λaK A outer s H vs Q E hr h=>?_)
 ·obtain⟨a,xs,g,rfl,_⟩:=h;rfl
 obtain⟨a,xs,g,rfl,hT,hG,hlen,q⟩:=h;have hu:=oe hr;refine⟨_,(Ze (Zt (i:=1) B3.nd rfl (Or.inl rfl) (Z9 Zf))
  (Ze (Zt (i:=2) B3.nd rfl (Or.inl rfl) (Z8 yE rfl (B "list" (by decide)) n_ (Zb (P2 (pv 0)) Zf)))
  (Ze (Iz cN (iH (pv 2) (λ_=>rfl))
   (Ze (Zt (i:=3) B3.nd rfl (Or.inl rfl) (yX dX Br Bs yZ (pv 2)))
    (Zg (c6 (Zy (Znc hu) (pv 3) jj (ZK _))
     (Zg (Z2 (ff dX gC gD ZG (pv 1) (Zb (pv 3) Zf))))
     (Ze (Z2 (ff dX gC gD ZG (pv 1) (Zb (ZR eI (pv 3) Zj (λ_ _=>rfl)) Zf)))
      (Ze (Z2 (ff dX gC gD ZG (pv 2) (Zb jj Zf)))
      (Zg (Z2 (ff dX W9 Xa Zim (pv 2) (Zb (P2 (ZR eI (pv 3) Zj (λ_ _=>rfl))) Zf))))))))))
  (Zg (ZD (pv 1)))))),?_⟩
 refine⟨by decide,λp hp=>?_⟩;refine⟨_,rfl,a,xs,rfl,(Zh.new hp).U8 hT,λt ht=>⟨t,_,rfl,.inr (az.of Za),λl hl=>?_⟩⟩;obtain⟨LN,jC⟩:=qz ht;obtain⟨nlt,cP⟩:=qz hl;obtain⟨wJ,b_⟩:=qz cP
 let W:Nat->St->Hp->Prop:=λm σ H1=>∃(acc:List Str)(st:List (Item Str))(vs:List V)(v3:Option V),σ =[some (.ref a),some (.ref p),some (.ref l),v3]/\Zh H H1 /\
  H1 p=some (.lst (acc.map V.str))/\H1 l=some (.lst vs)/\aN (tF H1) vs st/\acc++gf SL st=words SL g/\m=(gf SL st).length
 have s3:Zh H (upd (upd (upd H p (.lst [])) t (.tup xs.reverse)) l (.lst xs.reverse)):=((Zh.new hp).bA jC).bA b_;refine⟨W,⟨_,[],(items g).reverse,xs.reverse,none,rfl,s3,?_,Za,?_,?_,rfl⟩,?_⟩
 ·rw[Zc wJ.symm,Zc LN.symm];exact Za
 ·exact yK s3.tk (HF hG.items)
 ·rw[ZfD];rfl
 rintro m σ H1 ⟨acc,st,vs,v3,rfl,sm,bo,BF,bu,hw,rfl⟩;have jr:acc.length<=1000:=by
  have:=congrArg fA hw;rw[aH] at this;lia
 refine⟨_,rfl,!vs.isEmpty,.inl ⟨vs,ag.of BF,rfl⟩,?_⟩;by_cases e:vs=[]
 ·subst e;cases bu;refine b9 ?_;rw[ZiD,fN] at hw;subst hw;exact⟨_,rfl,q p H1 sm hp bo⟩
 ·obtain⟨eE,v,rfl⟩:=ZmF e;obtain⟨a_,x,rfl,qa,hx⟩:=aN.Md bu;have ne:(!(eE ++ [v]).isEmpty)=true:=by simp
  rw[ne];refine cA ?_;rw[Hm] at hw;refine⟨λaq H'=>∃m',m'<(gf SL (a_ ++ [x])).length/\W m' aq H',λ_ _ h=>h,?_⟩;refine⟨_,rfl,.inl ⟨rfl,_,ag.of BF⟩,l,_,v,rfl,rfl,BF,yG _ _,?_⟩;rw[Zjp];have k1:TK H1 (upd H1 l (.lst eE)):=TK.lst BF;have dC:(upd H1 l (.lst eE)) p=some (.lst (acc.map V.str)):=by
   rw[Zc wJ.symm];exact bo
  have Uc:=yK k1 qa;have rn:=hx.mono k1;have fY:Zh H (upd H1 l (.lst eE)):=sm.bA b_;have hvl:eE.length=a_.length:=cw qa;have D7:a_.length<=1000:=by
   have:=congrArg fA hw;rw[aH,aH] at this;have h2:=Zif SL a_;lia
  cases x with
  | none =>
   have hv:v=.str SL:=hx;subst hv;refine⟨_,rfl,.inr ⟨rfl,_,rfl,?_⟩⟩;refine cC (λ_=>?_) (λc=>absurd (aP rfl) c);refine⟨_,rfl,.inl ⟨rfl,_,ag.of dC⟩,_,rfl,p,_,_,rfl,rfl,dC,Zr (by rw[ar];lia),?_⟩;refine⟨(gf SL a_).length,?_,acc ++ [SL],a_,eE,_,rfl,fY.bA hp,?_,?_,yK (TK.lst dC) Uc,?_,rfl⟩
   ·rw[Hm,aH];show _<1+_;lia
   ·rw[Za,bP];rfl
   ·rw[Zc wJ];exact Za
   ·rw[lW];exact hw
  | some tw =>
   obtain⟨t',w'⟩:=tw;obtain⟨p',q',ys,rfl,h1,h2,h3⟩:=rn;refine⟨_,rfl,.inl ⟨p',_,_,rfl,rfl,az.of h1,_,rfl,?_⟩⟩;refine b9 ?_;refine⟨_,rfl,.inl ⟨rfl,_,ag.of dC⟩,_,rfl,p',_,0,_,rfl,rfl,az.of h1,rfl,p,_,_,rfl,rfl,dC,Zr (by rw[ar];lia),?_⟩;have k3:TK (upd H1 l (.lst eE)) (upd (upd H1 l (.lst eE)) p (.lst (acc.map V.str ++ [.str t']))):=TK.lst dC;have qU:(upd (upd H1 l (.lst eE)) p (.lst (acc.map V.str ++ [.str t']))) l=some (.lst eE):=by
    rw[Zc wJ];exact Za
   refine⟨_,rfl,.inl ⟨rfl,_,ag.of qU⟩,l,_,_,rfl,rfl,qU,Zr (by lia),?_⟩;have k4:=TK.lst (o:=.lst (eE ++ [.str SL])) qU;have vY:(upd (upd (upd H1 l (.lst eE)) p (.lst (acc.map V.str ++ [.str t']))) l (.lst (eE ++ [.str SL]))) l=some (.lst (eE ++ [.str SL])):=Za;refine⟨_,rfl,.inl ⟨rfl,_,ag.of vY⟩,_,rfl,p',_,1,_,rfl,rfl,az.of (k4 _ _ (k3 _ _ h1)),rfl,q',ys,rfl,az.of (k4 _ _ (k3 _ _ h2)),λt2 Ud=>?_⟩;obtain⟨n2l,wy⟩:=qz Ud;obtain⟨n2p,ht4⟩:=qz wy;obtain⟨_,ht5⟩:=qz ht4;have Tr:(upd (upd (upd (upd H1 l (.lst eE)) p (.lst (acc.map V.str ++ [.str t']))) l (.lst (eE ++ [.str SL]))) t2 (.tup ys.reverse)) l=some (.lst (eE ++ [.str SL])):=by
    rw[Zc n2l.symm];exact Za
   have hys:=h3.length;have ip:(words SL w').length<=1000:=by
    have:=congrArg fA hw;rw[aH,aH] at this;have e2:(wi SL (some (t',w'))).length=(words SL w').length+2:=by
     show(t'::(words SL w' ++ [SL])).length=_;rw[bI,aH];rfl
    lia
   refine⟨l,t2,_,_,rfl,rfl,Tr,az.of Za,sX (by rw[aH,pP,cL];lia),?_⟩;have k6:=(k3.trans k4).trans ((TK.new (o:=.tup ys.reverse) Ud).trans (TK.lst (o:=.lst ((eE ++ [.str SL])++ys.reverse)) Tr));refine⟨(gf SL (a_ ++ [none]++(items w').reverse)).length,?_,acc ++ [t'],a_ ++ [none]++(items w').reverse,_,_,rfl,?_,?_,Za,?_,?_,rfl⟩
   ·rw[OD,Hm];show _<(t'::(words SL w' ++ [SL])++gf SL a_).length;simp only[aH,bI,lX];lia
   ·exact(((fY.bA hp).bA b_).bA (sm.free ht5)).bA b_
   ·rw[Zc wJ.symm,Zc n2p.symm,Zc wJ.symm,Za,bP];rfl
   ·exact aN.app (aN.app (yK k6 Uc) (.cons rfl .nil)) (yK k6 (HF h3.items))
   ·rw[OD,<- hw];show _=acc++(t'::(words SL w' ++ [SL])++gf SL a_);simp
def vv:Sp:=λvs H Q _=>∃(p:Addr)(ws:List Str),vs=[.ref p]/\H p=some (.lst (ws.map V.str))/\∀r,H r=none->Q (.ref r) (upd H r (.tup [.int (ws.length:Nat),.ref p]))
theorem Y8(B:∀x∈cj,mg x=none)(F:bC K "rank_of_words" "rank_of_words" Hf f fd):aX P w K mg base bq 1 f fd ["words"] vv:=by
 refine F.ok Y5 (λvs H Q E h=>?_) (λaK A outer s H vs Q E hr h=>?_)
 ·obtain⟨p,ws,rfl,_⟩:=h;rfl
 obtain⟨p,ws,rfl,e1,q⟩:=h;refine⟨_,(Zg (ZD (gh (Zb (Z0 ZP rfl (B "len" (by decide)) jT (Zb (pv 0) Zf)) (Zb (pv 0) Zf))))),?_⟩;refine⟨_,rfl,p,_,rfl,.inl (ag.of e1),_,rfl,(by show 2<=sizeLine;decide),λr ft=>?_⟩;rw[ar];exact q r ft
theorem Znr(B:∀x∈cj,mg x=none)(km:cx P w K mg base "rank_of_words" ["words"] 1 vv) (vN:cx P w K mg base "words_of" ["grove"] 1 (IZ K)) (F:bC K "rank" "rank" Jk f fd):aX P w K mg base bq 2 f fd ["grove"] (Jo K):=by
 refine F.ok Znk (λvs H Q E h=>?_) (λaK A outer s H vs Q E hr h=>?_)
 ·obtain⟨a,xs,g,rfl,_⟩:=h;rfl
 obtain⟨a,xs,g,rfl,hT,hG,hlen,q⟩:=h;refine⟨_,(Zg (ZD (c8 km hr rfl (Zb (c8 vN hr rfl (Zb (pv 0) Zf)) Zf)))),?_⟩;refine⟨_,rfl,a,xs,g,rfl,hT,hG,hlen,λp H1 s1 n1 e1=>?_⟩;refine⟨p,_,rfl,e1,λr ft=>?_⟩;have n2:H r=none:=s1.free ft;refine q r p _ (s1.bA n2) n2 n1 ⟨?_,?_⟩
 ·rw[Zc (Zd e1 ft)];exact e1
 ·exact Za
structure Rl where
 k:Nat
 t:Str
 i:Nat
 r:Nat
abbrev Cs:=List (Option Nat)
def above:Option Nat->Option Nat->Option Nat
 | some x,some y=>some (1+x+y)
 | _,_=>none
def better:Option Nat->Option Nat->Bool
 | none,_=>false
 | some _,none=>true
 | some c,some d=>decide (c<d)
def at_(cs:Cs)(k:Nat):Option Nat:=cs.getD k none
def low(I:Cs->Cs)(cs:Cs)(q:Rl):Option Nat:=above (at_ (I cs) q.i) (at_ cs q.r)
def eD(I:Cs->Cs)(cs:Cs)(q:Rl):Cs:=if better (low I cs q) (at_ cs q.k)=true then cs.set q.k (low I cs q) else cs
def eT(I:Cs->Cs)(rs:List Rl)(cs:Cs):Cs:=rs.foldl (eD I) cs
def iter(I:Cs->Cs)(rs:List Rl):Nat->Cs->Cs
 | 0,cs=>cs
 | n+1,cs=>iter I rs n (eT I rs cs)
def iI(I:Cs->Cs)(rs:List Rl)(cs:Cs):Prop := ∀q∈rs,better (low I cs q) (at_ cs q.k)=false
section
variable{I:Cs->Cs}
theorem OI(rs:List Rl):∀n cs,iter I rs (n+1) cs=eT I rs (iter I rs n cs)
 | 0,_=>rfl
 | n+1,cs=>OI rs n (eT I rs cs)
theorem PQ(cs:Cs)(q:Rl):(eD I cs q).length=cs.length:=by
 unfold eD
 split
 ·rw[rW]
 ·rfl
theorem Cg:∀(rs:List Rl)(cs:Cs),(eT I rs cs).length=cs.length
 | [],_=>rfl
 | q::rs,cs=>(Cg rs (eD I cs q)).trans (PQ cs q)
theorem P1(rs:List Rl):∀n cs,(iter I rs n cs).length=cs.length
 | 0,_=>rfl
 | n+1,cs=>(P1 rs n _).trans (Cg rs cs)
theorem B9:∀{rs:List Rl}{cs:Cs},iI I rs cs->eT I rs cs=cs
 | [],_,_=>rfl
 | q::rs,cs,h=>by
  show eT I rs (eD I cs q)=cs;have e:eD I cs q=cs:=by
   unfold eD;rw[h q (aZ ..),ah (by decide)]
  rw[e];exact B9 λp hp=>h p (bM _ hp)
def rF(cs:Cs):Nat:=(cs.map λc=>if c.isNone then 1 else 0).sum
def wR(cs:Cs):Nat:=(cs.map λc=>c.getD 0).sum
theorem sum_set{f:Option Nat->Nat}:∀{cs:Cs}{k:Nat}(x:Option Nat),k<cs.length->((cs.set k x).map f).sum+f (at_ cs k)=(cs.map f).sum+f x
 | [],_,_,h=>absurd h (r6 _)
 | c::cs,0,x,_=>by
  show(f x+(cs.map f).sum)+f c=(f c+(cs.map f).sum)+f x;lia
 | c::cs,k+1,x,h=>by
  have:=sum_set (f:=f) x (Nat.lt_of_succ_lt_succ h);show(f c+((cs.set k x).map f).sum)+f (at_ cs k)=(f c+(cs.map f).sum)+f x;lia
abbrev Lx(a b:Cs):Prop:=Prod.Lex (· < ·) (· < ·) (rF a,wR a) (rF b,wR b)
theorem Rr{a b:Cs}:Lx a b↔rF a<rF b\/rF a=rF b/\wR a<wR b:=Prod.lex_def
theorem Lx.trans{a b c:Cs}(h1:Lx a b)(h2:Lx b c):Lx a c:=by
 rw[Rr] at *;lia
theorem Zjn{cs:Cs}{q:Rl}(hk:q.k<cs.length)(h:better (low I cs q) (at_ cs q.k)=true):Lx (eD I cs q) cs:=by
 unfold eD;rw[aj h];have h1:=sum_set (f:=λc=>if c.isNone then 1 else 0) (low I cs q) hk
 have h2:=sum_set (f:=λc=>c.getD 0) (low I cs q) hk;rw[Rr];unfold rF wR;cases hl:low I cs q with
 | none=>rw[hl] at h;cases h
 | some c =>
  rw[hl] at h h1 h2;cases ho:at_ cs q.k with
  | none =>
   rw[ho] at h1
   left
   simp only[WR,Option.isNone_none,gF,jN,eV] at h1;omega
  | some d =>
   rw[ho] at h h1 h2;have fh:c<d:=bK h
   right
   simp only[WR,jN,eV,Option.getD_some] at h1 h2;omega
theorem QO:∀(rs:List Rl)(cs:Cs),(∀q∈rs,q.k<cs.length)->iI I rs cs\/Lx (eT I rs cs) cs
 | [],_,_=>.inl λ_ h=>nomatch h
 | q::rs,cs,h=>by
  have hk:=h q (aZ ..);have ih:=QO rs (eD I cs q) λp hp=>by rw[PQ];exact h p (bM _ hp)
  cases hb:better (low I cs q) (at_ cs q.k) with
  | true =>
   right
   have hs:=Zjn hk hb;rcases ih with ih|ih
   ·show Lx (eT I rs (eD I cs q)) cs;rw[B9 ih];exact hs
   ·exact Lx.trans ih hs
  | false =>
   have e:eD I cs q=cs:=by
    unfold eD;rw[hb,ah (by decide)]
   rw[e] at ih;rcases ih with ih|ih
   ·left
    intro p hp;rcases aV.mp hp with rfl|hp
    ·exact hb
    ·exact ih p hp
   ·right
    show Lx (eT I rs (eD I cs q)) cs;rw[e];exact ih
theorem RJ(rs:List Rl)(cs:Cs)(h:∀q∈rs,q.k<cs.length):∃m,iI I rs (iter I rs m cs):=by
 by_cases hs:iI I rs cs
 ·exact⟨0,hs⟩
 ·have lt:Lx (eT I rs cs) cs:=(QO rs cs h).resolve_left hs;obtain⟨m,hm⟩:=RJ rs (eT I rs cs) λq hq=>by rw[Cg];exact h q hq
  exact⟨m+1,hm⟩
termination_by (rF cs,wR cs)
decreasing_by exact lt
end
abbrev iD:Cs->Cs:=λc=>c
structure Fm where
 n:Nat
 ends:List Nat
 rules:List Rl
structure Fm.Ok(f:Fm):Prop where
 e:∀x∈f.ends,x<f.n
 q:∀q∈f.rules,q.k<f.n/\q.i<f.n/\q.r<f.n
def qx(cs:Cs)(es:List Nat):Cs:=es.foldl (λcs e=>cs.set e (some 0)) cs
theorem HP:∀(es:List Nat)(cs:Cs),(qx cs es).length=cs.length
 | [],_=>rfl
 | e::es,cs=>(HP es (cs.set e (some 0))).trans rW
def Fm.init(f:Fm):Cs:=qx (cE f.n none) f.ends
theorem Fm.Up(f:Fm):f.init.length=f.n:=by
 unfold Fm.init;rw[HP,lY]
variable{j:Nat}
theorem vC{cs:Cs}{k:Nat}{x:Option Nat}(h:k<cs.length):at_ (cs.set k x) j=if k=j then x else at_ cs j:=by
 unfold at_;rw[iw,iw,MJ];by_cases e:k=j
 ·rw[aj e,aj e,aj h];rfl
 ·rw[ah e,ah e]
structure Fm.Inv(f:Fm)(cs:Cs):Prop where
 len:cs.length=f.n
 zero:∀e∈f.ends,at_ cs e=some 0
 got:∀k c,at_ cs k=some c->k∈f.ends\/∃q∈f.rules,q.k=k/\∃x y,at_ cs q.i=some x/\at_ cs q.r=some y/\1+x+y<=c
theorem OB{n:Nat}:∀(es:List Nat)(cs:Cs),cs.length=n->(∀e∈es,e<n)->∀k,at_ (qx cs es) k=if k∈es then some 0 else at_ cs k
 | [],_,_,_,k=>by rw[ah (by simp)];rfl
 | e::es,cs,hl,h,k=>by
  show at_ (qx (cs.set e (some 0)) es) k=_;rw[OB es _ (by rw[rW];exact hl) (λx hx=>h x (bM _ hx)),vC (by rw[hl];exact h e (aZ ..))];by_cases h1:k∈es
  ·rw[aj h1,aj (bM _ h1)]
  ·rw[ah h1];by_cases h2:e=k
   ·rw[aj h2,aj (by rw[h2];exact aZ ..)]
   ·rw[ah h2,ah (λhm=>(aV.mp hm).elim (λz=>h2 z.symm) h1)]
variable{n:Nat}
theorem ZoE{k:Nat}:at_ (cE n none) k=none:=by
 unfold at_;rw[iw,xD]
 split <;> rfl
theorem Fm.ZzN{f:Fm}(ok:f.Ok):f.Inv f.init:=by
 have key:=OB f.ends (cE f.n none) lY ok.e;refine⟨f.Up,λe he=>?_,λk c hc=>?_⟩
 ·unfold Fm.init;rw[key,aj he]
 ·unfold Fm.init at hc;rw[key] at hc;by_cases h:k∈f.ends
  ·exact .inl h
  ·rw[ah h,ZoE] at hc;cases hc
theorem Fm.ZzO{f:Fm}(ok:f.Ok){cs:Cs}(v:f.Inv cs){q:Rl}(hq:q∈f.rules):f.Inv (eD iD cs q):=by
 unfold eD
 split
 ·rename_i hb
  have hk:q.k<cs.length:=by rw[v.len];exact(ok.q q hq).1
  cases hx:at_ cs q.i with
  | none=>unfold low above at hb;rw[hx] at hb;cases hb
  | some x =>
  cases hy:at_ cs q.r with
  | none=>unfold low above at hb;rw[hx,hy] at hb;cases hb
  | some y =>
  have hl:low iD cs q=some (1+x+y):=by unfold low above;rw[hx,hy]
  rw[hl] at hb ⊢;have less:∀z,at_ cs q.k=some z->1+x+y<z:=λz hz=>by
   rw[hz] at hb;exact bK hb
  have ni:q.k≠q.i:=λe=>by have:=less x (by rw[e];exact hx);lia
  have nr:q.k≠q.r:=λe=>by have:=less y (by rw[e];exact hy);lia
  refine⟨by rw[rW];exact v.len,λe he=>?_,λk c hc=>?_⟩
  ·rw[vC hk];by_cases e1:q.k=e
   ·have:=less 0 (by rw[e1];exact v.zero e he);lia
   ·rw[ah e1];exact v.zero e he
  ·rw[vC hk] at hc;by_cases e1:q.k=k
   ·rw[aj e1] at hc;injection hc with hc;refine .inr ⟨q,hq,e1,x,y,?_,?_,by lia⟩
    ·rw[vC hk,ah ni];exact hx
    ·rw[vC hk,ah nr];exact hy
   ·rw[ah e1] at hc;rcases v.got k c hc with h|⟨p,hp,e2,x2,y2,rn,Ln,hle⟩
    ·exact .inl h
    ·have UD:∀j z,at_ cs j=some z->∃z',at_ (cs.set q.k (some (1+x+y))) j=some z'/\z'<=z:=λj z hz=>by
      rw[vC hk];by_cases e3:q.k=j
      ·rw[aj e3];exact⟨_,rfl,lZ (less z (by rw[e3];exact hz))⟩
      ·rw[ah e3];exact⟨z,hz,ax _⟩
     obtain⟨x3,hx3,hx4⟩:=UD _ _ rn;obtain⟨y3,hy3,hy4⟩:=UD _ _ Ln;exact .inr ⟨p,hp,e2,x3,y3,hx3,hy3,by lia⟩
 ·exact v
theorem Fm.Uq{f:Fm}(ok:f.Ok):∀(rs:List Rl)(cs:Cs),(∀q∈rs,q∈f.rules)->f.Inv cs->f.Inv (eT iD rs cs)
 | [],_,_,v=>v
 | q::rs,cs,h,v=>Fm.Uq ok rs (eD iD cs q) (λp hp=>h p (bM _ hp)) (Fm.ZzO ok v (h q (aZ ..)))
theorem Fm.Ur{f:Fm}(ok:f.Ok):∀(m:Nat)(cs:Cs),f.Inv cs->f.Inv (iter iD f.rules m cs)
 | 0,_,v=>v
 | m+1,cs,v=>Fm.Ur ok m _ (Fm.Uq ok f.rules cs (λ_ h=>h) v)
def Fm.Res(f:Fm)(cs:Cs):Prop := ∃m,cs=iter iD f.rules m f.init/\iI iD f.rules cs
theorem Fm.Res.inv{f:Fm}(ok:f.Ok){cs:Cs}(h:f.Res cs):f.Inv cs:=by
 obtain⟨m,rfl,_⟩:=h;exact Fm.Ur ok m _ (Fm.ZzN ok)
theorem Fm.Res.rule{f:Fm}{cs:Cs}(h:f.Res cs){q:Rl}(hq:q∈f.rules){x y:Nat}(hx:at_ cs q.i=some x)(hy:at_ cs q.r=some y):∃c,at_ cs q.k=some c/\c<=1+x+y:=by
 obtain⟨m,_,st⟩:=h;have:=st q hq;unfold low at this;rw[hx,hy] at this;cases hk:at_ cs q.k with
 | none=>rw[hk] at this;cases this
 | some c =>
  rw[hk] at this;have h2 : ¬ 1+x+y<c:=l_ this;exact⟨c,rfl,by lia⟩
theorem Fm.Res.got{f:Fm}(ok:f.Ok){cs:Cs}(h:f.Res cs){k c:Nat}(hk:at_ cs k=some c):k∈f.ends\/∃q∈f.rules,q.k=k/\∃x y,at_ cs q.i=some x/\at_ cs q.r=some y/\c=1+x+y:=by
 rcases(h.inv ok).got k c hk with h1|⟨q,hq,e,x,y,hx,hy,hle⟩
 ·exact .inl h1
 ·obtain⟨c2,h2,h3⟩:=h.rule hq hx hy;rw[e,hk] at h2;injection h2 with h2;exact .inr ⟨q,hq,e,x,y,hx,hy,by lia⟩
theorem Zjc{I:Cs->Cs}(rs:List Rl)(q:Rl)(cs:Cs):eT I (rs ++ [q]) cs=eD I (eT I rs cs) q:=by
 unfold eT;rw[Fp];rfl
theorem Ow:∀{xs ys zs:List Str},xs.length=ys.length->ys.length=zs.length->eM xs ys=true->eM ys zs=true->eM xs zs=true
 | [],[],_,_,_,h,_=>by
  unfold eM at h;cases h
 | [],_::_,_,h,_,_,_=>by simp at h
 | _::_,[],_,h,_,_,_=>by simp at h
 | _::_,_::_,[],_,h,_,_=>by simp at h
 | x::xs,y::ys,z::zs,h1,h2,k1,k2=>by
  rw[eM] at k1 k2 ⊢;by_cases e1:x=y
  ·subst e1;rw[aj rfl] at k1;by_cases e2:x=z
   ·rw[aj e2] at k2 ⊢;exact Ow (by simpa using h1) (by simpa using h2) k1 k2
   ·rw[ah e2] at k2 ⊢;exact k2
  ·rw[ah e1] at k1;have l1:=bK k1;by_cases e2:y=z
   ·subst e2;rw[ah e1];exact k1
   ·rw[ah e2] at k2;have l2:=bK k2;have l3:=We l1 l2;rw[ah (λe=>by subst e;exact MM _ l3)];exact aP l3
variable{xs ys zs:List Str}
theorem HM(h1:aQ xs ys=true)(h2:aQ ys zs=true):aQ xs zs=true:=by
 unfold aQ at *;by_cases e1:xs.length=ys.length
 ·rw[aj e1] at h1;by_cases e2:ys.length=zs.length
  ·rw[aj e2] at h2;rw[aj (e1.trans e2)];exact Ow e1 e2 h1 h2
  ·rw[ah e2] at h2;have:=bK h2;rw[ah (by lia)];exact aP (by lia)
 ·rw[ah e1] at h1;have:=bK h1;by_cases e2:ys.length=zs.length
  ·rw[ah (by lia)];exact aP (by lia)
  ·rw[ah e2] at h2;have:=bK h2;rw[ah (by lia)];exact aP (by lia)
theorem qt(xs:List Str):aQ xs xs=false:=by
 unfold aQ;rw[aj rfl];exact Ca xs
theorem Zj1(h1:aQ xs ys=false)(h2:aQ ys xs=false):xs=ys:=by
 by_cases e:xs=ys
 ·exact e
 ·have:=PX e;rw[h1,h2] at this;cases this
def jH(g:Gr Str):Prop:=gj SL g/\eZ (words SL g)
theorem jH.nil:jH .nil:=⟨trivial,λ_ h=>(nomatch h)⟩
theorem jH.cons{t:Str}{a b:Gr Str}(ht:fG t)(ha:jH a)(hb:jH b):jH (.cons t a b):=⟨⟨ht.ne,ha.1,hb.1⟩,λx hx=>by
 have hx:x∈t::(words SL a++SL::words SL b):=hx;rcases aV.mp hx with rfl|hx
 ·exact ly.ok ht.Er
 ·rcases aS.mp hx with hx|hx
  ·exact ha.2 x hx
  ·rcases aV.mp hx with rfl|hx
   ·exact Js
   ·exact hb.2 x hx⟩
def gO(G:List (Option (Gr Str)))(k:Nat):Option (Gr Str):=G.getD k none
variable{G:List (Option (Gr Str))}
theorem Rp{k:Nat}{x:Option (Gr Str)}(h:k<G.length):gO (G.set k x) j=if k=j then x else gO G j:=by
 unfold gO;rw[iw,iw,MJ];by_cases e:k=j
 ·rw[aj e,aj e,aj h];rfl
 ·rw[ah e,ah e]
structure nS(f:Fm)(c:Cs)(G:List (Option (Gr Str)))(D:List Nat):Prop where
 len:G.length=f.n
 sz:∀k g,gO G k=some g->k∈D/\at_ c k=some (bH g)/\bH g<=300/\jH g
 has:∀k∈D,∃g,gO G k=some g
 way:∀k g,gO G k=some g->k∈f.ends\/∃q∈f.rules,q.k=k/\∃a b,gO G q.i=some a/\gO G q.r=some b/\g=.cons q.t a b
 min:∀k g,gO G k=some g->∀q∈f.rules,q.k=k->∀a b,gO G q.i=some a->gO G q.r=some b->1+bH a+bH b=bH g->aQ (words SL (.cons q.t a b)) (words SL g)=false
structure Ha(f:Fm)(G:List (Option (Gr Str)))(k n:Nat)(g:Gr Str):Prop where
 sz:bH g=n
 ok:jH g
 way:k∈f.ends\/∃q∈f.rules,q.k=k/\∃a b,gO G q.i=some a/\gO G q.r=some b/\g=.cons q.t a b
 min:∀q∈f.rules,q.k=k->∀a b,gO G q.i=some a->gO G q.r=some b->1+bH a+bH b=n->aQ (words SL (.cons q.t a b)) (words SL g)=false
variable{c:Cs}
theorem nS.next{f:Fm}{D:List Nat}{k:Nat}{g:Gr Str}(h:nS f c G D)(hk:k<f.n)(hD:k∉D)(hc:at_ c k=some n)(hn:n<=300)(hle:∀j∈D,∀m,at_ c j=some m->m<=n)(hg:Ha f G k n g):nS f c (G.set k (some g)) (D ++ [k]):=by
 have lA:∀j,gO (G.set k (some g)) j=if k=j then some g else gO G j:=λj=>Rp (by rw[h.len];exact hk)
 have old:∀j a,gO G j=some a->k≠j:=λj a e z=>hD (by rw[z];exact(h.sz j a e).1);have up:∀j a,gO G j=some a->gO (G.set k (some g)) j=some a:=λj a e=>by rw[lA,ah (old j a e)];exact e
 have EQ:∀j a,gO (G.set k (some g)) j=some a->at_ c j=some (bH a):=λj a e=>by
  rw[lA] at e
  split at e
  ·rename_i z
   subst z;injection e with e;subst e;rw[hc,hg.sz]
  ·exact(h.sz j a e).2.1
 refine⟨by rw[rW];exact h.len,λj a e=>?_,λj hj=>?_,λj a e=>?_,λj a e q hq fq x y ex ey kj=>?_⟩
 ·have e0:=e;rw[lA] at e
  split at e
  ·rename_i z
   subst z;injection e with e;subst e;exact⟨by simp,EQ _ _ e0,by rw[hg.sz];exact hn,hg.ok⟩
  ·obtain⟨k1,k2,k3,k4⟩:=h.sz j a e;exact⟨cb _ k1,k2,k3,k4⟩
 ·rcases aS.mp hj with hj|hj
  ·obtain⟨a,e⟩:=h.has j hj;exact⟨a,up j a e⟩
  ·rw[ao.mp hj,lA,aj rfl];exact⟨g,rfl⟩
 ·rw[lA] at e
  split at e
  ·rename_i z
   subst z;injection e with e;subst e;rcases hg.way with w|⟨q,hq,fq,x,y,ex,ey,rfl⟩
   ·exact .inl w
   ·exact .inr ⟨q,hq,fq,x,y,up _ _ ex,up _ _ ey,rfl⟩
  ·rcases h.way j a e with w|⟨q,hq,fq,x,y,ex,ey,rfl⟩
   ·exact .inl w
   ·exact .inr ⟨q,hq,fq,x,y,up _ _ ex,up _ _ ey,rfl⟩
 ·have kx:=EQ _ _ ex;have ky:=EQ _ _ ey;have ka:=EQ _ _ e;have down:bH a<=n->gO G q.i=some x/\gO G q.r=some y:=λZC9=>by
   refine⟨?_,?_⟩
   ·rw[lA,ah (λz=>?_)] at ex
    ·exact ex
    ·rw[<- z,hc] at kx;injection kx with kx;lia
   ·rw[lA,ah (λz=>?_)] at ey
    ·exact ey
    ·rw[<- z,hc] at ky;injection ky with ky;lia
  rw[lA] at e
  split at e
  ·rename_i z
   subst z;injection e with e;subst e;obtain⟨d1,d2⟩:=down (by rw[hg.sz];exact ax _);exact hg.min q hq fq x y d1 d2 (by rw[<- hg.sz];exact kj)
  ·obtain⟨d1,d2⟩:=down (hle j (h.sz j a e).1 _ ka);exact h.min j a e q hq fq x y d1 d2 kj
theorem nS.start(f:Fm)(c:Cs):nS f c (cE f.n none) []:=by
 have no:∀k,gO (cE f.n none) k=none:=λk=>by
  unfold gO;rw[iw,xD]
  split <;> rfl
 exact⟨lY,λk g e=>(by rw[no] at e;cases e),λ_ h=>(nomatch h),λk g e=>(by rw[no] at e;cases e),λk g e=>(by rw[no] at e;cases e)⟩
def LG(f:Fm)(c:Cs)(G:List (Option (Gr Str))):Prop := ∃D,nS f c G D/\∀k n,at_ c k=some n->n<=300->k∈D
theorem LG.got{f:Fm}(h:LG f c G){k n:Nat}(hc:at_ c k=some n)(hn:n<=300):∃g,gO G k=some g/\bH g=n:=by
 obtain⟨D,h1,h2⟩:=h;obtain⟨g,e⟩:=h1.has k (h2 k n hc hn);have:=(h1.sz k g e).2.1;rw[hc] at this;injection this with this;exact⟨g,e,this.symm⟩
theorem Pq:∀{g:Gr Str},bH g=0->g=.nil
 | .nil,_=>rfl
 | .cons t w o,h=>by
  have h:1+bH w+bH o=0:=h;lia
theorem Qi(h:ys.length<xs.length):aQ xs ys=false:=by
 unfold aQ;rw[ah (by lia)];exact bx (by lia)
theorem qy(h1:aQ xs ys=false)(h2:aQ ys zs=false):aQ xs zs=false:=by
 cases e:aQ xs zs with
 | false=>rfl
 | true =>
  by_cases e2:xs=ys
  ·subst e2;rw[h2] at e;cases e
  ·have h3:=PX e2;rw[h1] at h3;have h4:aQ ys xs=true:=by
    cases z:aQ ys xs with
    | true=>rfl
    | false=>rw[z] at h3;cases h3
   rw[HM h4 e] at h2;cases h2
variable{α β:Type}
theorem vz{F : α -> β -> Prop}:∀{l:List α}{k:List β},aN F l k->∀(i:Nat) a b,l[i]?= some a->k[i]?= some b->F a b:=by
 intro l k h i a b e1 e2;obtain⟨b',e,r⟩:=aN.qK h e1;rw[e2] at e;injection e with e;subst e;exact r
theorem Ic(ws:Nat->List Str):∀n j,j<=n->aQ (ws j) (ws (eK (λi j=>aQ (ws i) (ws j)) n))=false
 | 0,j,h=>by
  obtain rfl:j=0:=by lia
  exact qt _
 | n+1,j,h=>by
  show aQ (ws j) (ws (if _ then _ else _))=false
  by_cases c:aQ (ws (n+1)) (ws (eK (λi j=>aQ (ws i) (ws j)) n))=true
  ·rw[aj c];rcases iz j (n+1) with h1|h1
   ·refine qy (Ic ws n j (by lia)) ?_;cases e:aQ (ws (eK (λi j=>aQ (ws i) (ws j)) n)) (ws (n+1)) with
    | false=>rfl
    | true =>
     have:=HM c e;rw[qt] at this;cases this
   ·rw[show j=n+1 by lia];exact qt _
  ·rw[ah c];rcases iz j (n+1) with h1|h1
   ·exact Ic ws n j (by lia)
   ·rw[show j=n+1 by lia]
    simpa using c
variable{H:Hp}{ws:List (List Str)}
theorem PR{K:au}{sp:Sp}{cs:List Addr}(item:∀(i:Nat) c w,cs[i]?= some c->ws[i]?= some w->eZ w/\∀H1,Zh H H1->∀Q:VK,(∀r c' H2,Zh H1 H2->H1 r=none->((∃u,H c'=some u)\/H1 c'=none)->tj H2 r c' w->Q (.ref r) H2)->sp [.ref c] H1 Q E0)(hlen:cs.length=ws.length){p:Addr}(hp:H p=none) :
  ∃KA,yx K H p (cs.map V.ref) (λi j=>aQ (ws.getD i []) (ws.getD j [])) KA (λx H Q2=>sp [x] H Q2 E0):=by
 refine⟨λi k H=>∃r c,k=.ref r/\tj H r c (ws.getD i [])/\r≠p/\c≠p/\eZ (ws.getD i []),?_,?_,?_⟩
 ·rintro i k H H' ⟨r,c,rfl,h,n1,n2,ok⟩ kp;exact⟨r,c,rfl,⟨kp _ _ n2 h.1,kp _ _ n1 h.2⟩,n1,n2,ok⟩
 ·rintro i j k k' H ⟨r,c,rfl,h,n1,n2,ok⟩ ⟨r',c',rfl,h',n1',n2',jb⟩;exact ZmJ h h' ok jb
 ·intro i x H1 hx sm uY;rw[bW] at hx;obtain⟨c,hc,rfl⟩:=dv.mp hx;have hw:ws[i]?= some (ws.getD i []):=by
   have h:=(cT.mp hc).1;rw[iw,bO (by lia)];rfl
  obtain⟨h1,h3⟩:=item i c _ hc hw;refine h3 H1 sm _ λr c' H2 s2 hr gX k=>⟨s2,r,c',rfl,k,λz=>uY (z ▸ hr),λz=>?_,h1⟩;rcases gX with⟨u,e⟩|e
  ·rw[z,hp] at e;cases e
  ·exact uY (z ▸ e)
theorem Pc{cs:List Addr}(hlen:cs.length=ws.length){x:V}(hx:(cs.map V.ref)[eK (λi j=>aQ (ws.getD i []) (ws.getD j [])) ((cs.map V.ref).length-1)]?= some x):∃(i:Nat)(c:Addr)(w:List Str),x=.ref c/\cs[i]?= some c/\ws[i]?= some w/\∀v∈ws,aQ v w=false:=by
 have hm:=Ic (λi=>ws.getD i []) ((cs.map V.ref).length-1);generalize eK (λi j=>aQ (ws.getD i []) (ws.getD j [])) ((cs.map V.ref).length-1)=i at hx hm;rw[bW] at hx;obtain⟨c,hc,rfl⟩:=dv.mp hx;have h:=(cT.mp hc).1;have hw:ws[i]?= some (ws.getD i []):=by
  rw[iw,bO (by lia)];rfl
 refine⟨i,c,_,rfl,hc,hw,λv hv=>?_⟩;obtain⟨j,hj⟩:=uM.mp hv;have DO:=(cT.mp hj).1;have:=hm j (by rw[ar];lia)
 rwa [show ws.getD j []=v by rw[iw,hj];rfl] at this
def P0(K:au):Sp:=λvs H Q _=>∃(l:Addr)(as:List Addr)(wY:List (List Str)),vs=[.ref l]/\H l=some (.lst (as.map V.ref))/\as.length<=1000/\aN (C2 K H) as wY /\
 (as=[]->∀H',Zh H H'->Q .aD H')/\∀(i:Nat)(a:Addr)(w:List Str)(H':Hp),as[i]?= some a->wY[i]?= some w->(∀v∈wY,aQ v w=false)->Zh H H'->Q (.ref a) H'
theorem Z'(B:∀x∈cj,mg x=none)(J8:cx P w K mg base "rank" ["grove"] 2 (Jo K)) (F:bC K "least_among" "least_among" Hs f fd):aX P w K mg base bq 4 f fd ["groves"] (P0 K):=by
 refine F.ok ZU (λvs H Q E h=>?_) (λaK A outer s H vs Q E hr h=>?_)
 ·obtain⟨l,as,wY,rfl,_⟩:=h;rfl
 obtain⟨l,as,wY,rfl,hL,hlen,hP,q0,q1⟩:=h;refine⟨_,(Zg (ZD (ZiC J8 hr rfl rfl (B "min" (by decide)) rfl (Zb (pv 0) Zf) fS))),?_⟩;refine⟨_,rfl,l,as.map V.ref,rfl,ag.of hL,λp hp=>⟨λe=>q0 (by simpa using e) _ (Zh.new hp),λ_=>?_⟩⟩;obtain⟨KA,kb⟩:=PR (K:=K) (sp:=Jo K) (H:=H) (cs:=as) (ws:=wY) (λi c w hc hw=>by
  have hg:=vz hP i c w hc hw;obtain⟨_,_,_,_,_,_,ok⟩:=id hg;refine⟨ok,λH1 sm Q hq=>?_⟩;obtain⟨xs,g,hT,hG,rfl,hl,ok⟩:=hg.same sm;exact⟨c,xs,g,rfl,hT,hG,hl,λr c' H2 s2 n1 n2 k=>hq r c' H2 s2 n1 (.inr n2) k⟩) (cw hP) hp
 refine⟨_,KA,kb,λx H' hx sm=>?_⟩;obtain⟨i,c,w,rfl,hc,hw,hm⟩:=Pc (cw hP) hx;exact q1 i c w H' hc hw hm sm
def cV:Option Nat->V
 | none=>.aD
 | some c=>.int (c:Int)
theorem Q3{a:Option Nat}:decide (cV a=V.aD)=a.isNone:=by
 cases a with
 | none=>rfl
 | some c=>exact bx (λh=>by cases h)
theorem my{cs:Cs}{k:Nat}(h:k<cs.length):fH (cs.map cV) ((k:Nat):Int)=some (cV (at_ cs k)):=by
 refine j7 ?_;rw[bW,bO h];unfold at_;rw[iw,bO h];rfl
theorem CF{k:Nat}(h:k<n):iS n ((k:Nat):Int)=some k:=by
 unfold iS;rw[aj (by lia),aj (by lia)];rfl
variable{a:Addr}{o:HO}
theorem Zn4(h:H a=some o):upd H a o=H:=by
 funext b
 by_cases e:b=a
 ·rw[e,Za,h]
 ·rw[Zc e]
def BP(H:Hp)(a:Addr)(qs:List Addr)(rs:List Rl):Prop:=H a=some (.tup (qs.map V.ref))/\qs.length=rs.length/\∀(i:Nat) p q,qs[i]?= some p->rs[i]?= some q->H p=some (.tup [.int q.k,.str q.t,.int q.i,.int q.r])
variable{H':Hp}
theorem BP.keep{qs:List Addr}{rs:List Rl}(h:BP H a qs rs)(k:∀b xs,H b=some (.tup xs)->H' b=some (.tup xs)):BP H' a qs rs:=⟨k _ _ h.1,h.2.1,λi p q e1 e2=>k _ _ (h.2.2 i p q e1 e2)⟩
variable{zs:List V}{p:Addr}
theorem iF{ys:List V}(hp:H p=some (.lst ys)):∀b xs,H b=some (.tup xs)->(upd H p (.lst zs)) b=some (.tup xs):=λb xs h=>by
 rw[Zc (λe=>by rw[e,hp] at h;cases h)];exact h
structure Form(H:Hp)(a:Addr)(f:Fm):Prop where
 ok:f.Ok
 ex:∃(h1 h2 h3:Addr)(qs:List Addr),H a=some (.tup [.int f.n,.ref h1,.ref h2,.ref h3])/\H h2=some (.tup (f.ends.map λ(e:Nat)=>V.int (e:Int)))/\BP H h3 qs f.rules
theorem Form.same{f:Fm}(h:Form H a f)(s:Zh H H'):Form H' a f:=by
 obtain⟨h1,h2,h3,qs,e1,e2,e3⟩:=h.ex;exact⟨h.ok,h1,h2,h3,qs,s _ _ e1,s _ _ e2,e3.keep λb xs e=>s _ _ e⟩
def IU:Sp:=λvs H Q _=>∃a b:Option Nat,vs=[cV a,cV b]/\Q (cV (above a b)) H
section
variable{X:Cx}{tg:Expr}
theorem Zpe{l:Expr}{i:Nat}(hl:PE X l (C1 i)):PI X tg l (λσ H R=>C1 i σ H λx H1=>(∃a,x=.ref a/\(∃xs,az X.K H1 a xs)/\R (g9 X.K a) H1)\/∃a,x=.ref a/\(∃xs,ag X.K H1 a xs)/\R (g8 X.K a) H1):=λpins s σ H R I h=>by
 obtain⟨v,e,h|h⟩:=h
 ·exact mv hl pins s σ H R I ⟨v,e,h⟩
 ·exact fc hl pins s σ H R I ⟨v,e,h⟩
end
variable{D:Ends}{tb:TS}
theorem ZnU{K:au}{xs:List V}{g:TG}{σ : St}(Pv:Nat->St->Hp->Prop)(h0:Pv 0 σ H)(hk:(az K H a xs/\∀i σ H1,i<=xs.length->Pv i σ H1->az K H1 a xs)\/(ag K H a xs/\∀i σ H1,i<=xs.length->Pv i σ H1->ag K H1 a xs))
  (hs:∀i x σ H,xs[i]?= some x->Pv i σ H->g x σ H λbV H2=>tb { D with nx:=Pv (i+1),ct:=Pv (i+1),bk:=D.nx } bV H2) (hd:∀ σ H,Pv xs.length σ H->D.nx σ H) :
  (∃b,V.ref a=.ref b/\(∃xs,az K H b xs)/\∃W:Nat->Nat->St->Hp->Prop,(∃m,W 0 m σ H)/\∀i m σ H,W i m σ H ->
   ((g9 K b).stop i H/\D.nx σ H)\/((g9 K b).go i H/\∃N:St->Hp->Prop,(∀ aq H',N aq H'->∃m',m'<m/\W (i+1) m' aq H')/\∀x H',(g9 K b).fw i H x H'->g x σ H' λbV H2=>tb { D with nx:=N,ct:=N,bk:=D.nx } bV H2)) \/
  ∃b,V.ref a=.ref b/\(∃xs,ag K H b xs)/\∃W:Nat->Nat->St->Hp->Prop,(∃m,W 0 m σ H)/\∀i m σ H,W i m σ H ->
   ((g8 K b).stop i H/\D.nx σ H)\/((g8 K b).go i H/\∃N:St->Hp->Prop,(∀ aq H',N aq H'->∃m',m'<m/\W (i+1) m' aq H')/\∀x H',(g8 K b).fw i H x H'->g x σ H' λbV H2=>tb { D with nx:=N,ct:=N,bk:=D.nx } bV H2):=by
 rcases hk with⟨h,hl⟩|⟨h,hl⟩
 ·exact .inl ⟨a,rfl,⟨xs,h⟩,vw Pv h0 hl hs hd⟩
 ·exact .inr ⟨a,rfl,⟨xs,h⟩,iG Pv h0 hl hs hd⟩
def Qy(K:au):Sp:=λvs H Q _=>∃(a pi p:Addr)(rs:List Rl)(qs:List Addr)(cs:Cs)(I:Cs->Cs),vs=[.ref a,.ref pi,.ref p]/\(H a=some (.tup (qs.map V.ref))\/H a=some (.lst (qs.map V.ref)))/\a≠p/\qs.length=rs.length/\(∀(i:Nat) p q,qs[i]?= some p->rs[i]?= some q->H p=some (.tup [.int q.k,.str q.t,.int q.i,.int q.r]))/\H p=some (.lst (cs.map cV))/\(∀ds:Cs,ds.length=cs.length->(I ds).length=cs.length/\(upd H p (.lst (ds.map cV))) pi=some (.lst ((I ds).map cV)))/\(∀q∈rs,q.k<cs.length/\q.i<cs.length/\q.r<cs.length) /\
 ∀m,iI I rs (iter I rs m cs)->Q .aD (upd H p (.lst ((iter I rs m cs).map cV)))
def Pe(K:au):Sp:=λvs H Q _=>∃(a:Addr)(f:Fm),vs=[.ref a]/\Form H a f/\f.n<=64/\∀(r:Addr)(cs:Cs)(H':Hp),Zh H H'->H r=none->H' r=some (.lst (cs.map cV))->f.Res cs->Q (.ref r) H'
theorem ZT(B:∀x∈cj,mg x=none)(F:bC K "count_above" "count_above" Hr f fd):aX P w K mg base bq 1 f fd ["inner","rest"] IU:=by
 refine F.ok ZI (λvs H Q E h=>?_) (λaK A outer s H vs Q E hr h=>?_)
 ·obtain⟨a,b,rfl,_⟩:=h;rfl
 obtain⟨a,b,rfl,q⟩:=h;refine⟨_,(Ze (c6 (PW.pt (CV (Zy tm (pv 0) fS (ZK _)) (CJ (Zy tm (pv 1) fS (ZK _)))))
   (Zg (ZD fS))
   ZV)
  (Zg (ZD (Zx gc (Zx gc Zj (pv 0)) (pv 1))))),?_⟩
 cases a with
 | none=>exact⟨_,rfl,rfl,_,rfl,cA (cA q)⟩
 | some x =>
  cases b with
  | none=>exact⟨_,rfl,rfl,_,rfl,b9 ⟨_,rfl,rfl,_,rfl,cA q⟩⟩
  | some y =>
   refine⟨_,rfl,rfl,_,rfl,b9 ⟨_,rfl,rfl,_,rfl,b9 ?_⟩⟩;refine⟨_,rfl,_,_,rfl,rfl,_,rfl,_,_,rfl,rfl,?_⟩;have e:cV (above (some x) (some y))=V.int (1+(x:Int)+(y:Int)):=by
    show V.int ((1+x+y:Nat):Int)=_
    congr 1
   rw[e] at q;exact q
theorem ZlL(B:∀x∈cj,mg x=none)(vK:cx P w K mg base "count_above" ["inner","rest"] 1 IU) (F:bC K "lower" "lower" IY f fd):aX P w K mg base bq 2 f fd ["rules","inners","counts"] (Qy K):=by
 refine F.ok nY (λvs H Q E h=>?_) (λaK A outer s H vs Q E hr h=>?_)
 ·obtain⟨a,pi,p,rs,qs,cs,I,rfl,_⟩:=h;rfl
 obtain⟨a,pi,p,rs,qs,cs,I,rfl,hA,UI,kJ,hR,hp,hI,DN,q⟩:=h;obtain⟨T,hT⟩:=RJ (I:=I) rs cs λq hq=>(DN q hq).1;refine⟨_,(Ze (Zt (i:=3) nY.nd rfl (Or.inl rfl) eJ)
  (Zg (Iz cN (iH (pv 3) (λ_=>rfl))
   (Ze (Zt (i:=3) nY.nd rfl (Or.inl rfl) eJ)
    (Zg (c7 cN rfl (Zpe (pv 0)) (gJ rfl (Zo (Zm (i:=4) nY.nd rfl (Or.inl rfl)) (Zo (Zm (i:=5) nY.nd rfl (Or.inl rfl)) (Zo (Zm (i:=6) nY.nd rfl (Or.inl rfl)) (Zo (Zm (i:=7) nY.nd rfl (Or.inl rfl)) gi)))))
     (Ze (Zt (i:=8) nY.nd rfl (Or.inl rfl) (c8 vK hr rfl (Zb (ZR ZQ (pv 1) (pv 6) (λ_ _=>rfl)) (Zb (ZR ZQ (pv 2) (pv 7) (λ_ _=>rfl)) Zf))))
      (Zg (c6 (PW.pt (mr (Zy Cv (pv 8) fS (ZK _)) (qw (PW.pt (CV (Zy tm (ZR ZQ (pv 2) (pv 4) (λ_ _=>rfl)) fS (ZK _)) (CJ (Zy CQ (pv 8) (ZR ZQ (pv 2) (pv 4) (λ_ _=>rfl)) (ZK _))))))))
       (Ze (CL (pv 8) (CM (pv 2) (pv 4) set_list))
        (Zg (Zt (i:=3) nY.nd rfl (Or.inl rfl) eJ)))
       ZV))))))))),?_⟩
 let W:Nat->St->Hp->Prop:=λj σ H1=>∃(t:Nat)(fl:Bool)(v4 v5 v6 v7 v8:Option V),σ =[some (.ref a),some (.ref pi),some (.ref p),some (.bl fl),v4,v5,v6,v7,v8] /\
  H1=upd H p (.lst ((iter I rs t cs).map cV))/\t+j=T+1/\(fl=true->t<=T)/\(fl=false->iI I rs (iter I rs t cs))
 refine⟨W,⟨T+1,0,true,none,none,none,none,none,rfl,(Zn4 hp).symm,nD _,λ_=>bz _,λh=>nomatch h⟩,?_⟩
 rintro j σ H1 ⟨t,fl,v4,v5,v6,v7,v8,rfl,rfl,htj,qQ,ju⟩;cases fl with
 | false=>exact⟨_,rfl,false,rfl,b9 (q t (ju rfl))⟩
 | true =>
  have htT:=qQ rfl;refine⟨_,rfl,true,rfl,cA ⟨W (j-1),λaq H' h=>⟨j-1,by lia,h⟩,?_⟩⟩;generalize Dx:iter I rs t cs=ct;have aY:ct.length=cs.length:=by rw[<- Dx,P1]
  have hRu:∀zs (i:Nat) p' q,qs[i]?= some p'->rs[i]?= some q->(upd H p (.lst zs)) p'=some (.tup [.int q.k,.str q.t,.int q.i,.int q.r]):=λzs i p' q e1 e2=>iF hp _ _ (hR i p' q e1 e2);refine⟨_,rfl,ZnU (K:=K) (a:=a) (xs:=qs.map V.ref) (λi σ H1=>∃(fl:Bool)(v4 v5 v6 v7 v8:Option V),σ =[some (.ref a),some (.ref pi),some (.ref p),some (.bl fl),v4,v5,v6,v7,v8] /\
   H1=upd H p (.lst ((eT I (rs.take i) ct).map cV))/\(fl=false->iI I (rs.take i) ct)/\(fl=true -> ¬ iI I rs ct)) ⟨false,v4,v5,v6,v7,v8,rfl,rfl,λ_ _ h=>(nomatch h),λh=>(nomatch h)⟩ ?_ ?_ ?_⟩
  ·rcases hA with h|h
   ·refine .inl ⟨az.of (iF hp _ _ h),?_⟩;rintro i σ H1 _ ⟨fl,v4,v5,v6,v7,v8,_,rfl,_⟩;exact az.of (iF hp _ _ h)
   ·refine .inr ⟨ag.of (by rw[Zc UI];exact h),?_⟩;rintro i σ H1 _ ⟨fl,v4,v5,v6,v7,v8,_,rfl,_⟩;exact ag.of (by rw[Zc UI];exact h)
  ·rintro i x σ H1 hi ⟨fl,v4,v5,v6,v7,v8,rfl,rfl,bu,jy⟩;rw[bW] at hi;obtain⟨pq,wu,rfl⟩:=dv.mp hi;obtain⟨q1,ez⟩:∃q1,rs[i]?= some q1:=⟨_,bO (by have:=(cT.mp wu).1;have:=kJ;lia)⟩;have oZ:q1∈rs:=bY ez;obtain⟨k1,k2,k3⟩:=DN q1 oZ;rw[Zi ez,Zjc];have Kp:(eT I (rs.take i) ct).length=cs.length:=by rw[Cg,aY]
   have K9:iI I (rs.take i) ct->eT I (rs.take i) ct=ct:=λh=>B9 h;have D0:=hRu ((eT I (rs.take i) ct).map cV) i pq q1 wu ez;generalize eT I (rs.take i) ct=ci at Kp K9 D0;have hl:∀{zs:List V},ag K (upd H p (.lst zs)) p zs:=ag.of Za;obtain⟨hI1,hI2⟩:=hI ci Kp;have GA:q1.i<(I ci).length:=by rw[hI1];exact k2
   rw[<- Kp] at k1 k3;refine⟨pq,_,rfl,az.of D0,rfl,_,_,rfl,_,_,rfl,_,_,rfl,_,_,rfl,rfl,?_⟩;refine⟨_,rfl,_,rfl,pi,_,_,_,rfl,rfl,ag.of hI2,my GA,_,rfl,_,rfl,p,_,_,_,rfl,rfl,hl,my k3,at_ (I ci) q1.i,at_ ci q1.r,rfl,?_⟩;have lH:above (at_ (I ci) q1.i) (at_ ci q1.r)=low I ci q1:=rfl;rw[lH];have no:better (low I ci q1) (at_ ci q1.k)=false->∃(fD:Bool)(w4 w5 w6 w7 w8:Option V),[some (V.ref a),some (.ref pi),some (.ref p),some (.bl fl),some (.int q1.k),some (.str q1.t),some (.int q1.i),some (.int q1.r),some (cV (low I ci q1))] =[some (V.ref a),some (.ref pi),some (.ref p),some (.bl fD),w4,w5,w6,w7,w8]/\upd H p (.lst (ci.map cV))=upd H p (.lst ((eD I ci q1).map cV))/\(fD=false->iI I (rs.take i ++ [q1]) ct)/\(fD=true -> ¬ iI I rs ct):=λhb=>by
    refine⟨fl,_,_,_,_,_,rfl,?_,λhf=>?_,jy⟩
    ·unfold eD;rw[hb,ah (by decide)]
    ·intro z hz;rcases aS.mp hz with hz|hz
     ·exact bu hf z hz
     ·rw[ao.mp hz,<- K9 (bu hf)];exact hb
   have yes:better (low I ci q1) (at_ ci q1.k)=true->∃(fD:Bool)(w4 w5 w6 w7 w8:Option V),[some (V.ref a),some (.ref pi),some (.ref p),some (.bl true),some (.int q1.k),some (.str q1.t),some (.int q1.i),some (.int q1.r),some (cV (low I ci q1))] =[some (V.ref a),some (.ref pi),some (.ref p),some (.bl fD),w4,w5,w6,w7,w8]/\upd (upd H p (.lst (ci.map cV))) p (.lst ((ci.map cV).set q1.k (cV (low I ci q1))))=upd H p (.lst ((eD I ci q1).map cV))/\(fD=false->iI I (rs.take i ++ [q1]) ct)/\(fD=true -> ¬ iI I rs ct):=λhb=>by
    refine⟨true,_,_,_,_,_,rfl,?_,λhf=>(nomatch hf),λ_ hS=>?_⟩
    ·unfold eD;rw[hb,aj rfl,ZnA,Wj]
    ·rw[K9 (λz hz=>hS z (Wm hz)),hS q1 oZ] at hb;cases hb
   have Ti:iS (ci.map cV).length ((q1.k:Nat):Int)=some q1.k:=CF (by rw[ar];exact k1);refine⟨_,rfl,rfl,_,rfl,?_⟩;rw[Q3];cases jx:low I ci q1 with
   | none =>
    rw[jx] at no;exact b9 (b9 (no rfl))
   | some c =>
    rw[jx] at no yes;refine cA ⟨_,rfl,_,rfl,p,_,_,_,rfl,rfl,hl,my k1,rfl,_,rfl,?_⟩;rw[Q3];cases gL:at_ ci q1.k with
    | none =>
     rw[gL] at yes;exact cA (cA ⟨_,rfl,_,rfl,_,rfl,p,_,_,_,rfl,rfl,Za,Ti,yes rfl⟩)
    | some d =>
     rw[gL] at no yes;refine b9 ⟨_,rfl,_,rfl,_,rfl,p,_,_,_,rfl,rfl,hl,my k1,?_⟩;rw[gL];refine⟨_,_,rfl,rfl,_,rfl,?_⟩;refine cC (λhc=>?_) (λhc=>?_)
     ·have fh:c<d:=by
       have:=bK hc;lia
      exact⟨_,rfl,_,rfl,_,rfl,p,_,_,_,rfl,rfl,Za,Ti,yes (aP fh)⟩
     ·have fh : ¬ c<d:=λh=>hc (aP (by lia));exact no (bx fh)
  ·rintro σ H1 ⟨fl,v4,v5,v6,v7,v8,rfl,rfl,bu,jy⟩;rw[ar,kJ,cU] at bu ⊢;have TJ:eT I rs ct=iter I rs (t+1) cs:=by rw[OI,Dx]
   refine⟨t+1,fl,v4,v5,v6,v7,v8,rfl,by rw[TJ],by lia,λhf=>?_,λhf=>?_⟩
   ·rcases iz t T with h|h
    ·exact h
    ·exfalso;have e:t=T:=by lia
     rw[e] at Dx;rw[Dx] at hT;exact jy hf hT
   ·rw[<- TJ,B9 (bu hf)];exact bu hf
theorem Zfs(cs:Cs)(es:List Nat)(e:Nat):qx cs (es ++ [e])=(qx cs es).set e (some 0):=by
 unfold qx;rw[Fp];rfl
theorem Zlm(n:Nat):(cE n [V.aD]).flatten=(cE n (none:Option Nat)).map cV:=by
 rw[List.map_replicate,List.flatten_replicate_singleton];rfl
theorem ZkJ(B:∀x∈cj,mg x=none)(J7:cx P w K mg base "lower" ["rules","inners","counts"] 2 (Qy K)) (F:bC K "fewest" "fewest" Im f fd):aX P w K mg base bq 3 f fd ["form"] (Pe K):=by
 refine F.ok HX (λvs H Q E h=>?_) (λaK A outer s H vs Q E hr h=>?_)
 ·obtain⟨a,fm,rfl,_⟩:=h;rfl
 obtain⟨a,fm,rfl,hF,hn,q⟩:=h;obtain⟨h1,h2,h3,qs,ea,e2,hR⟩:=hF.ex;have ok:=hF.ok;refine⟨_,(Ze (Zt (i:=1) HX.nd rfl (Or.inl rfl) (Zx QX (Z9 (Zb fS Zf)) (ZR eI (pv 0) Zj (λ_ _=>rfl))))
  (Ze (c7 cN rfl (mv (ZR eI (pv 0) Zj (λ_ _=>rfl))) (Zm (i:=2) HX.nd rfl (Or.inl rfl))
   (Zg (CL Zj (CM (pv 1) (pv 2) set_list))))
  (Ze (Z2 (c8 J7 hr rfl (Zb (ZR eI (pv 0) Zj (λ_ _=>rfl)) (Zb (pv 1) (Zb (pv 1) Zf)))))
  (Zg (ZD (pv 1)))))),?_⟩
 refine⟨by decide,λl hl=>?_⟩;have sl:Zh H (upd H l (.lst [.aD])):=Zh.new hl;refine⟨_,rfl,a,_,0,_,rfl,rfl,az.of (sl _ _ ea),rfl,l,(fm.n:Int),_,rfl,rfl,Za,by lia,by lia,?_,λp hp=>?_⟩
 ·show 1*(fm.n:Int).toNat<=sizeLine;exact sX (by lia)
 obtain⟨npl,il⟩:=qz hp;have s2:Zh H (upd (upd H l (.lst [.aD])) p (.lst (cE (fm.n:Int).toNat [V.aD]).flatten)):=sl.bA il;refine⟨_,rfl,a,_,2,_,rfl,rfl,az.of (s2 _ _ ea),rfl,h2,rfl,⟨_,az.of (s2 _ _ e2)⟩,vw (K:=K) (a:=h2) (xs:=fm.ends.map λ(e:Nat)=>V.int (e:Int)) (λi σ H1=>∃v2:Option V,σ =[some (.ref a),some (.ref p),v2]/\Zh H H1 /\
  H1 p=some (.lst ((qx (cE fm.n none) (fm.ends.take i)).map cV))) ⟨none,rfl,s2,?_⟩ ?_ ?_ ?_⟩
 ·rw[Za,lV,Zlm];rfl
 ·rintro i σ H1 _ ⟨v2,_,sm,_⟩;exact az.of (sm _ _ e2)
 ·rintro i x σ H1 hi ⟨v2,rfl,sm,bo⟩;rw[bW] at hi;obtain⟨e,he,rfl⟩:=dv.mp hi;have DC:=ok.e e (bY he);refine⟨_,rfl,_,rfl,p,_,_,_,rfl,rfl,bo,CF (by rw[ar,HP,lY];exact DC),?_⟩;refine⟨_,rfl,sm.bA il,?_⟩;rw[Za,Zi he,Zfs,Wj];rfl
 ·rintro σ H1 ⟨v2,rfl,sm,bo⟩;rw[ar,cU] at bo;have DN:∀q∈fm.rules,q.k<fm.init.length/\q.i<fm.init.length/\q.r<fm.init.length:=λq hq=>by
   rw[fm.Up];exact ok.q q hq
  refine⟨_,rfl,a,_,3,_,rfl,rfl,az.of (sm _ _ ea),rfl,_,rfl,_,rfl,h3,p,p,fm.rules,qs,fm.init,iD,rfl,.inl (sm _ _ hR.1),λz=>?_,hR.2.1,λi p q e1 e2=>sm _ _ (hR.2.2 i p q e1 e2),bo,λds hd=>⟨hd,Za⟩,DN,λm hS=>?_⟩
  ·have:=sm _ _ hR.1;rw[z,bo] at this;cases this
  ·exact⟨_,rfl,q p _ _ (sm.bA il) il Za ⟨m,rfl,hS⟩⟩
def KT(H H':Hp):Prop := ∀b o,H b=some o->(∀ps,o ≠ .cK ps)->H' b=some o
theorem KT.of(s:Zh H H'):KT H H':=λb o h _=>s b o h
variable{H1:Hp}
theorem KT.trans{H2:Hp}(a:KT H H1)(b:KT H1 H2):KT H H2:=λc o h n=>b c o (a c o h n) n
theorem KT.tab{P:Addr}{L:List (Pos×Str)}(T:dN H P L)(s:zi P H H'):KT H H':=λb o h n=>s b o (λz=>by
 obtain⟨ps,hP,_⟩:=T;rw[z,hP] at h;injection h with h;exact n _ h.symm) h
theorem KT.tk(k:KT H H'):TK H H':=λb xs e=>k b _ e λ_ z=>nomatch z
theorem KT.lst{H H':Hp}(k:KT H H'){b:Addr}{xs:List V}(h:H b=some (.lst xs)):H' b=some (.lst xs):=k b _ h λ_ z=>nomatch z
theorem Form.kt{f:Fm}(h:Form H a f)(k:TK H H'):Form H' a f:=by
 obtain⟨h1,h2,h3,qs,e1,e2,e3⟩:=h.ex;exact⟨h.ok,h1,h2,h3,qs,k _ _ e1,k _ _ e2,e3.keep λb xs e=>k _ _ e⟩
def gV(H:Hp)(v:V):Option (Gr Str)->Prop
 | none=>v=.aD
 | some g=>∃a xs,v=.ref a/\H a=some (.tup xs)/\e_ H xs g
def gH(H:Hp)(vs:List V)(G:List (Option (Gr Str))):Prop:=vs.length=G.length/\∀(k:Nat) v,vs[k]?= some v->gV H v (gO G k)
theorem gV.mono{H H':Hp}(k:TK H H'){v:V}:∀{o:Option (Gr Str)},gV H v o->gV H' v o
 | none,h=>h
 | some _,⟨a,xs,e,h1,h2⟩=>⟨a,xs,e,k _ _ h1,h2.mono k⟩
theorem gH.mono{H H':Hp}{vs:List V}{G:List (Option (Gr Str))}(h:gH H vs G)(k:TK H H'):gH H' vs G:=⟨h.1,λi v e=>(h.2 i v e).mono k⟩
theorem gH.at{vs:List V}(h:gH H vs G){k:Nat}(hk:k<G.length):∃v,vs[k]?= some v/\fH vs ((k:Nat):Int)=some v/\gV H v (gO G k):=by
 have e:vs[k]?= some (vs[k]'(by rw[h.1];exact hk)):=bO _;exact⟨_,e,j7 e,h.2 k _ e⟩
theorem gH.set{H:Hp}{vs:List V}{G:List (Option (Gr Str))}(h:gH H vs G){k:Nat}{v:V}{o:Option (Gr Str)}(hk:k<G.length)(hv:gV H v o):gH H (vs.set k v) (G.set k o):=by
 refine⟨by rw[rW,rW];exact h.1,λj w e=>?_⟩;rw[Rp hk];rw[MJ] at e
 split at e
 ·rename_i z
  rw[aj z]
  split at e
  ·injection e with e;subst e;exact hv
  ·cases e
 ·rename_i z
  rw[ah z];exact h.2 j w e
theorem gH.new(H:Hp)(n:Nat):gH H (cE n V.aD) (cE n none):=by
 refine⟨by rw[lY,lY],λk v e=>?_⟩;rw[xD] at e;have no:gO (cE n none) k=none:=by
  unfold gO;rw[iw,xD]
  split <;> rfl
 rw[no]
 split at e
 ·injection e with e;exact e.symm
 ·cases e
def uz:Option Nat->Bool
 | none=>false
 | some n=>decide (n<=300)
def Qe:Sp:=λvs H Q _=>∃o:Option Nat,vs=[cV o]/\Q (.bl (uz o)) H
theorem Zgp(B:∀x∈cj,mg x=none)(Cc:∃t:Tok,mg "MOST_TAGS" = some (.int 300 t)) (F:bC K "is_small" "is_small" HD f fd):aX P w K mg base bq 1 f fd ["count"] Qe:=by
 refine F.ok ZgB (λvs H Q E h=>?_) (λaK A outer s H vs Q E hr h=>?_)
 ·obtain⟨o,rfl,_⟩:=h;rfl
 obtain⟨o,rfl,q⟩:=h;obtain⟨t1,Zv1⟩:=Cc;refine⟨_,(Zg (ZD (CB (mx Cv (pv 0) fS (ZK _)) (yY (mx RD (pv 0) (Cr (v:=.int 300) rfl Zv1 ⟨_,rfl⟩) (ZK _)))))),?_⟩;cases o with
 | none=>exact⟨_,rfl,rfl,false,rfl,b9 q⟩
 | some n =>
  refine⟨_,rfl,rfl,true,rfl,cA ⟨_,rfl,_,_,rfl,rfl,?_⟩⟩;have e:decide ((n:Int)<=300)=uz (some n):=by
   show decide ((n:Int)<=300)=decide (n<=300);by_cases c:n<=300
   ·rw[aP c,aP (by lia)]
   ·rw[bx c,bx (by lia)]
  show Q (.bl (decide ((n:Int)<=300))) H;rw[e];exact q
def Rz(K:au):Sp:=λvs H Q _=>∃(a cl gl:Addr)(f:Fm)(c:Cs)(k n:Nat)(us:List V)(G:List (Option (Gr Str))),vs=[.ref a,.int (k:Int),.ref cl,.ref gl]/\Form H a f/\f.rules.length<=900/\(∀q∈f.rules,fG q.t)/\f.Res c/\H cl=some (.lst (c.map cV))/\H gl=some (.lst us)/\gH H us G/\G.length=f.n/\k<f.n/\at_ c k=some n/\0<n/\n<=300 /\
 (∀j g,gO G j=some g->at_ c j=some (bH g)/\jH g)/\(∀j m,at_ c j=some m->m<n->∃g,gO G j=some g)/\∀(r:Addr)(xs:List V)(g:Gr Str)(H':Hp),Zh H H'->H' r=some (.tup xs)->e_ H' xs g->Ha f G k n g->Q (.ref r) H'
variable{b:Option Nat}
theorem RE{a:Option Nat}:decide (cV a=cV b)=decide (a=b):=by
 cases a with
 | none=>cases b <;> simp[cV]
 | some x =>
  cases b with
  | none=>simp[cV]
  | some y =>
   by_cases e:x=y
   ·subst e;simp
   ·rw[bx (λz=>e (by injection z with z;lia)),bx (λz=>e (by injection z))]
theorem Znd{a:Option Nat}:Jw (cV a) (cV b)=true:=by cases a <;> cases b <;> rfl
theorem Zih{F : α -> β -> Prop}:∀{l:List α}{m:List β},aN F l m->∀{i:Nat}{a : α}{b : β},l[i]?= some a->m[i]?= some b->F a b:=by
 intro l m h i a b e1 e2;obtain⟨b',e,r⟩:=aN.qK h e1;rw[e2] at e;injection e with e;subst e;exact r
theorem ZgD{γ:Type}{F : α -> β -> Prop}{F' : α -> γ -> Prop}{g : β -> γ}(h:∀a b,F a b->F' a (g b)):∀{l:List α}{m:List β},aN F l m->aN F' l (m.map g):=by
 intro l m h1
 induction h1 with
 | nil=>exact .nil
 | cons r _ ih=>exact .cons (h _ _ r) ih
set_option maxHeartbeats 2000000 in
theorem YM(B:∀x∈cj,mg x=none)(vK:cx P w K mg base "count_above" ["inner","rest"] 1 IU) (J3:cx P w K mg base "least_among" ["groves"] 4 (P0 K)) (F:bC K "least_by_rules" "least_by_rules" Hl f fd):aX P w K mg base bq 5 f fd ["form","kind","counts","groves"] (Rz K):=by
 refine F.ok Z5 (λvs H Q E h=>?_) (λaK A outer s H vs Q E hr h=>?_)
 ·obtain⟨a,cl,gl,fm,c,k,n,us,G,rfl,_⟩:=h;rfl
 obtain⟨a,cl,gl,fm,c,k,n,us,G,rfl,hF,r9,t_,res,aY,zV,hG,Sy,hk,iN,n0,n3,hsz,d_,q⟩:=h;obtain⟨h1,h2,h3,qs,ea,e2,hR⟩:=hF.ex;have ok:=hF.ok;have tU:c.length=fm.n:=(res.inv ok).len;refine⟨_,(Ze (Zt (i:=4) Z5.nd rfl (Or.inl rfl) (Z9 Zf))
  (Ze (c7 cN rfl (mv (ZR eI (pv 0) Zj (λ_ _=>rfl))) (gJ rfl (Zo (Zm (i:=5) Z5.nd rfl (Or.inl rfl)) (Zo (Zm (i:=6) Z5.nd rfl (Or.inl rfl)) (Zo (Zm (i:=7) Z5.nd rfl (Or.inl rfl)) (Zo (Zm (i:=8) Z5.nd rfl (Or.inl rfl)) gi)))))
   (Zg (c6 (PW.pt (mr (Zy j9 (pv 5) (pv 1) (ZK _)) (qw (Zy j9 (c8 vK hr rfl (Zb (ZR ZQ (pv 2) (pv 7) (λ_ _=>rfl)) (Zb (ZR ZQ (pv 2) (pv 8) (λ_ _=>rfl)) Zf))) (ZR ZQ (pv 2) (pv 1) (λ_ _=>rfl)) (ZK _)))))
     (Zg (Z2 (ff dX gC gD ZG (pv 4) (Zb (Zx Znv (gh (Zb (gh (Zb (pv 6) (Zb (ZR ZQ (pv 3) (pv 7) (λ_ _=>rfl)) Zf))) Zf)) (ZR ZQ (pv 3) (pv 8) (λ_ _=>rfl))) Zf))))
     ZV)))
  (Zg (ZD (c8 J3 hr rfl (Zb (pv 4) Zf)))))),?_⟩
 refine⟨by decide,λfl eS=>?_⟩;have k0:Zh H (upd H fl (.lst [])):=Zh.new eS;refine⟨_,rfl,a,_,3,_,rfl,rfl,az.of (k0 _ _ ea),rfl,h3,rfl,⟨_,az.of (k0 _ _ hR.1)⟩,vw (K:=K) (a:=h3) (xs:=qs.map V.ref) (λi σ H1=>∃(v5 v6 v7 v8:Option V)(as:List Addr)(gs:List (Gr Str)),σ =[some (.ref a),some (.int (k:Int)),some (.ref cl),some (.ref gl),some (.ref fl),v5,v6,v7,v8]/\Zh H H1/\H1 fl=some (.lst (as.map V.ref))/\as.length<=i/\aN (λb g=>∃xs,H1 b=some (.tup xs)/\e_ H1 xs g/\bH g=n/\jH g) as gs /\
   (∀g∈gs,∃q∈fm.rules,q.k=k/\∃x y,gO G q.i=some x/\gO G q.r=some y/\g=.cons q.t x y)/\∀q∈fm.rules.take i,q.k=k->∀x y,gO G q.i=some x->gO G q.r=some y->1+bH x+bH y=n -> .cons q.t x y∈gs)
  ⟨none,none,none,none,[],[],rfl,k0,Za,ax _,.nil,λ_ h=>(nomatch h),λ_ h=>(nomatch h)⟩ ?_ ?_ ?_⟩
 ·rintro i σ H1 _ ⟨_,_,_,_,_,_,_,sm,_⟩;exact az.of (sm _ _ hR.1)
 ·rintro i x σ H1 hx ⟨v5,v6,v7,v8,as,gs,rfl,sm,zT,SS,hP,Ee,ig⟩;rw[bW] at hx;obtain⟨p,hp,rfl⟩:=dv.mp hx;have hi:=(cT.mp hp).1;have Th:i<fm.rules.length:=by rw[<- hR.2.1];exact hi
  obtain⟨q0,K5⟩:∃q0,fm.rules[i]?= some q0:=⟨_,bO Th⟩;have oZ:=bY K5;have ept:=hR.2.2 i p q0 hp K5;obtain⟨b1,b2,b3⟩:=ok.q q0 oZ;have wV:fm.rules.take (i+1)=fm.rules.take i ++ [q0]:=by
   rw[Wv Th,(cT.mp K5).2]
  refine⟨p,_,rfl,az.of (sm _ _ ept),rfl,_,_,rfl,_,_,rfl,_,_,rfl,_,_,rfl,rfl,?_⟩;have skip:(∀x y,q0.k=k->gO G q0.i=some x->gO G q0.r=some y->1+bH x+bH y=n->False)->∀w5 w6 w7 w8:Option V,∃(v5 v6 v7 v8:Option V)(Gq:List Addr)(Gy:List (Gr Str)),[some (V.ref a),some (.int (k:Int)),some (.ref cl),some (.ref gl),some (.ref fl),w5,w6,w7,w8] =[some (.ref a),some (.int (k:Int)),some (.ref cl),some (.ref gl),some (.ref fl),v5,v6,v7,v8]/\Zh H H1/\H1 fl=some (.lst (Gq.map V.ref))/\Gq.length<=i+1/\aN (λb g=>∃xs,H1 b=some (.tup xs)/\e_ H1 xs g/\bH g=n/\jH g) Gq Gy /\
   (∀g∈Gy,∃q∈fm.rules,q.k=k/\∃x y,gO G q.i=some x/\gO G q.r=some y/\g=.cons q.t x y)/\∀q∈fm.rules.take (i+1),q.k=k->∀x y,gO G q.i=some x->gO G q.r=some y->1+bH x+bH y=n -> .cons q.t x y∈Gy:=λno w5 w6 w7 w8=>⟨w5,w6,w7,w8,as,gs,rfl,sm,zT,by lia,hP,Ee,λq hq fq x y ex ey kj=>by
    rw[wV] at hq;rcases aS.mp hq with hq|hq
    ·exact ig q hq fq x y ex ey kj
    ·rw[ao.mp hq] at fq ex ey ⊢;exact(no x y fq ex ey kj).elim⟩
  refine⟨_,rfl,_,rfl,rfl,_,rfl,cC (λd1=>?_) (λd1=>?_)⟩;rotate_left
  ·exact skip (λx y fq _ _ _=>d1 (aP (by rw[fq]))) _ _ _ _
  have d1:q0.k=k:=by
   have:=bK d1;injection this with this;lia
  refine⟨_,rfl,_,rfl,cl,_,_,_,rfl,rfl,ag.of (sm _ _ aY),my (by lia),_,rfl,_,rfl,cl,_,_,_,rfl,rfl,ag.of (sm _ _ aY),my (by lia),_,_,rfl,?_⟩;refine⟨_,rfl,_,rfl,cl,_,_,_,rfl,rfl,ag.of (sm _ _ aY),my (by lia),?_⟩;refine⟨Znd,_,rfl,cC (λd2=>?_) (λd2=>?_)⟩;rotate_left
  ·refine skip (λx y _ ex ey kj=>d2 ?_) _ _ _ _;rw[RE,iN,(hsz _ _ ex).1,(hsz _ _ ey).1];exact aP (by show some (1+bH x+bH y)=some n;rw[kj])
  rw[RE,iN] at d2;have d2:=bK d2;obtain⟨x',y',fP,yg,Ul⟩:∃x' y',at_ c q0.i=some x'/\at_ c q0.r=some y'/\1+x'+y'=n:=by
   cases fP:at_ c q0.i with
   | none=>rw[fP] at d2;cases d2
   | some x' =>
    cases yg:at_ c q0.r with
    | none=>rw[fP,yg] at d2;cases d2
    | some y' =>
     rw[fP,yg] at d2;injection d2 with d2;exact⟨x',y',rfl,rfl,d2⟩
  obtain⟨gx,tL⟩:=d_ q0.i x' fP (by lia);obtain⟨gy,tM⟩:=d_ q0.r y' yg (by lia);obtain⟨zx,okx⟩:=hsz _ _ tL;obtain⟨zy,oky⟩:=hsz _ _ tM;rw[fP] at zx;rw[yg] at zy;injection zx with zx;injection zy with zy;obtain⟨w1,_,mR,lG⟩:=hG.at (k:=q0.i) (by rw[Sy];exact b2);obtain⟨w2,_,o4,DG⟩:=hG.at (k:=q0.r) (by rw[Sy];exact b3);rw[tL] at lG;rw[tM] at DG;obtain⟨a1,pF,rfl,ha1,ft⟩:=lG;obtain⟨a2,xs2,rfl,Ds,ww⟩:=DG;have l2:=ww.length;rw[B8] at l2;refine⟨_,rfl,.inl ⟨rfl,_,ag.of zT⟩,_,rfl,_,rfl,_,rfl,gl,_,_,_,rfl,rfl,ag.of (sm _ _ zV),mR,(show(2:Nat)<=sizeLine from by decide),λp1 bo=>⟨(show(1:Nat)<=sizeLine from by decide),λp2 dC=>?_⟩⟩;have s2:Zh H1 (upd (upd H1 p1 (.tup [.str q0.t,.ref a1])) p2 (.tup [.ref p1])):=(Zh.new bo).trans (Zh.new dC);refine⟨_,rfl,_,rfl,gl,_,_,_,rfl,rfl,ag.of (s2 _ _ (sm _ _ zV)),o4,p2,a2,_,_,rfl,rfl,Za,s2 _ _ (sm _ _ Ds),by rw[bB,cL];lia,λp3 H4 s4 e4=>?_⟩;have ux:Zh H1 H4:=s2.trans s4;have S8:=ux _ _ zT;have tk:∀b xs,H4 b=some (.tup xs)->(upd H4 fl (.lst (as.map V.ref ++ [.ref p3]))) b=some (.tup xs):=iF S8;have ep1:H4 p1=some (.tup [.str q0.t,.ref a1]):=s4 _ _ ((Zh.new dC) _ _ Za);refine⟨fl,_,_,rfl,rfl,S8,by rw[bB,ar];lia,some (.int (q0.k:Int)),some (.str q0.t),some (.int (q0.i:Int)),some (.int (q0.r:Int)),as ++ [p3],gs ++ [.cons q0.t gx gy],rfl,(sm.trans ux).bA eS,by rw[Za,bP];rfl,by rw[aH,cL];lia,?_,?_,?_⟩
  ·refine aN.app (aN.cM hP λb g ⟨xs,h1,h2,h3⟩=>⟨xs,tk _ _ (ux _ _ h1),(h2.mono ux.tk).mono tk,h3⟩) (.cons ⟨_,tk _ _ e4,e_.cons (tk _ _ ep1) (tk _ _ (ux _ _ (sm _ _ ha1))) (((ft.mono sm.tk).mono ux.tk).mono tk) (((ww.mono sm.tk).mono ux.tk).mono tk),?_,jH.cons (t_ q0 oZ) okx oky⟩ .nil);show 1+bH gx+bH gy=n;lia
  ·intro g hg;rcases aS.mp hg with hg|hg
   ·exact Ee g hg
   ·rw[ao.mp hg];exact⟨q0,oZ,d1,gx,gy,tL,tM,rfl⟩
  ·intro q hq fq x y ex ey kj;rw[wV] at hq;rcases aS.mp hq with hq|hq
   ·exact cb _ (ig q hq fq x y ex ey kj)
   ·rw[ao.mp hq] at ex ey ⊢;rw[tL] at ex;rw[tM] at ey;injection ex with ex;injection ey with ey;subst ex ey;exact a9 _ (ao.mpr rfl)
 ·rintro σ H1 ⟨v5,v6,v7,v8,as,gs,rfl,sm,zT,SS,hP,Ee,ig⟩;have NR:∀q∈fm.rules,q.k=k->∀x y,gO G q.i=some x->gO G q.r=some y->1+bH x+bH y=n -> .cons q.t x y∈gs:=by
   rw[xG (by rw[ar,hR.2.1];exact ax _)] at ig;exact ig
  refine⟨_,rfl,fl,as,gs.map (words SL),rfl,zT,by rw[ar,hR.2.1] at SS;lia,ZgD (λb g ⟨xs,h1,h2,h3,h4⟩=>⟨xs,g,az.of h1,h2,rfl,by rw[B8,h3];lia,h4.2⟩) hP,λe=>?_,λi b w H2 hb hw kG s2=>?_⟩
  ·have Tc:gs=[]:=Fj (by rw[<- cw hP,e];rfl);rcases res.got ok iN with hz|⟨q,hq,fq,x,y,ex,ey,kj⟩
   ·have:=(res.inv ok).zero k hz;rw[iN] at this;injection this with this;lia
   ·obtain⟨gx,tL⟩:=d_ q.i x ex (by lia);obtain⟨gy,tM⟩:=d_ q.r y ey (by lia);have zx:=(hsz _ _ tL).1;have zy:=(hsz _ _ tM).1;rw[ex] at zx;rw[ey] at zy;injection zx with zx;injection zy with zy;have:=NR q hq fq gx gy tL tM (by lia);rw[Tc] at this;cases this
  ·rw[bW] at hw;obtain⟨g,hg,hgw⟩:=dv.mp hw;obtain⟨xs,h1,h2,h3,h4⟩:=Zih hP hb hg;refine q b xs g H2 (sm.trans s2) (s2 _ _ h1) (h2.mono s2.tk) ⟨h3,h4,.inr (Ee g (bY hg)),λq hq fq x y ex ey kj=>?_⟩;have hm:=List.mem_map_of_mem (f:=words SL) (NR q hq fq x y ex ey kj);rw[hgw];exact kG _ hm
theorem KT.bA(k:KT H H1)(h:H p=none):KT H (upd H1 p o):=λb u e n=>by
 rw[Zc (λz=>by rw[z,h] at e;cases e)];exact k b u e n
def rK(n:Nat)(c:Cs):List Nat:=(c_ n).filter λk=>uz (at_ c k)
theorem Px(n:Nat)(c:Cs):rK (n+1) c=rK n c++if uz (at_ c n)=true then [n] else []:=by
 unfold rK;rw[MQ,nh];refine congrArg (List.filter (λk=>uz (at_ c k)) (c_ n) ++ ·) ?_;cases h:uz (at_ c n) with
 | true=>exact rS h
 | false=>exact xB (by rw[h];decide)
theorem QK(n:Nat)(c:Cs):(rK n c).length<=n:=by
 have:=nk (λk=>uz (at_ c k)) (c_ n);rw[nq] at this;exact this
theorem QU{k:Nat}:k∈rK n c↔k<n/\∃m,at_ c k=some m/\m<=300:=by
 unfold rK;rw[kQ,iY];constructor
 ·rintro⟨h1,h2⟩;cases e:at_ c k with
  | none=>rw[e] at h2;cases h2
  | some m =>
   rw[e] at h2;exact⟨h1,m,rfl,bK h2⟩
 ·rintro⟨h1,m,e,h2⟩;rw[e];exact⟨h1,aP h2⟩
def jl(c:Cs)(k:Nat):Int:=(((at_ c k).getD 0:Nat):Int)
def kg(k:Nat):V:=.int (k:Int)
theorem ZkV{l:List Nat}(h:C3 (l.map (jl c)) (l.map kg) zs):∃D:List Nat,zs=D.map kg/\D.Perm l/\D.Pairwise λa b=>jl c a<=jl c b:=by
 obtain⟨ps,hp,rfl,hw⟩:=h;have hz:(l.map (jl c)).zip (l.map kg)=l.map λk=>(jl c k,kg k):=by
  rw[List.zip_map']
 rw[hz] at hp;have dec:∀p∈ps,p=(λk:Nat=>(jl c k,kg k)) ((λp:Int×V=>match p.2 with | .int i=>i.toNat|_=>0) p):=λp jz=>by
  obtain⟨k,_,rfl⟩:=a6.mp (hp.mem_iff.mp jz);rfl
 have e:ps=(ps.map λp:Int×V=>match p.2 with | .int i=>i.toNat|_=>0).map λk=>(jl c k,kg k):=by
  rw[gB];exact(Wh ps).symm.trans (pQ dec)
 refine⟨ps.map λp:Int×V=>match p.2 with | .int i=>i.toNat|_=>0,?_,?_,?_⟩
 ·refine(congrArg (Wf xK) e).trans ?_;rw[gB];rfl
 ·have:=hp.map λp:Int×V=>match p.2 with | .int i=>i.toNat|_=>0
  rw[gB] at this;refine this.trans (Fe ?_);exact(pQ (g:=id) λk _=>rfl).trans (Wh l)
 ·rw[e] at hw;exact(jQ (R:=λp q:Int×V=>p.1<=q.1)).mp hw
def RQ(K:au)(Pt:Addr):Sp:=λvs H Q _=>∃(a cl:Addr)(f:Fm)(c:Cs),vs=[.ref a,.ref cl]/\Form H a f/\f.n<=63/\f.rules.length<=900/\(∀q∈f.rules,fG q.t)/\f.Res c/\H cl=some (.lst (c.map cV))/\dN H Pt Zw /\
 ∀(r:Addr)(us:List V)(G:List (Option (Gr Str)))(H':Hp),KT H H'->dN H' Pt Zw->H r=none->H' r=some (.lst us)->gH H' us G->LG f c G->Q (.ref r) H'
theorem ZmL(n:Nat):(cE n [V.aD]).flatten=cE n V.aD:=by
 induction n with
 | zero=>rfl
 | succ n ih=>rw[xF,Bg,ih];rfl
set_option maxHeartbeats 2000000 in
theorem Y4(B:∀x∈cj,mg x=none)(bm:qD base mg)(fh:fd.code=.ref cc)(hw:M8 K cc Pt=true)(JV:cx P w K mg base "is_small" ["count"] 1 Qe) (J4:cx P w K mg base "least_by_rules" ["form","kind","counts","groves"] 5 (Rz K)) (F:bC K "least_groves" "least_groves" Hu f fd):aX P w K mg base bq 6 f fd ["form","counts"] (RQ K Pt):=by
 refine F.okL fh BS (λvs H Q E h=>?_) (λA outer s H vs Q E hr h=>?_)
 ·obtain⟨a,cl,fm,c,rfl,_⟩:=h;rfl
 obtain⟨a,cl,fm,c,rfl,hF,hn,r9,t_,res,aY,T0,q⟩:=h;obtain⟨h1,h2,h3,qs,ea,e2,hR⟩:=hF.ex;have ok:=hF.ok;have tU:c.length=fm.n:=(res.inv ok).len;refine⟨_,(Ze (Zt (i:=2) BS.nd rfl (Or.inl rfl) (Zx QX (Z9 (Zb fS Zf)) (ZR eI (pv 0) Zj (λ_ _=>rfl))))
  (Ze (BW (cl:=_) (n0:=3) BS.nd rfl (Or.inl rfl) ["kind"] [("counts",1)] (vj rfl (B "range" (by decide)) (Zb (ZR eI (pv 0) Zj (λ_ _=>rfl)) Zf)) (λ_ _ _ _=>(Zm (i:=0) (show pM (["kind","counts"]:List Str) by decide) rfl (Or.inl rfl))) (λ_ _ _ _=>(ZjN (K:=K) rfl (c8 JV hr rfl (Zb (ZR (yM (K:=K) rfl) (pv 1) (pv 0) (λ_ _=>rfl)) Zf)) (λ_=>rfl))) (λ_ _ _ _=>(pv 0)) rfl rfl (by decide) rfl (by decide) (sZ (by(repeat' first|exact dW _|refine dU.mpr ⟨?_,?_⟩) <;> rfl)) (vq (by(repeat' first|exact dW _|refine dU.mpr ⟨?_,?_⟩) <;> first|(intro h;exact⟨_,rfl⟩)|(intro h;exact absurd h (by decide)))) (λ_=>by(repeat' first|exact dW _|refine dU.mpr ⟨?_,?_⟩) <;> exact⟨rfl,rfl,Or.inl rfl⟩) (λ_=>rfl) rfl)
  (Ze (c7 cN rfl (fc (ZN (show N3 _ _ Zw _ _ _ _ _ "each" [("counts",1)] 1 _ from⟨bm,⟨_,rfl,hw⟩,(by first|exact .head _|exact .tail _ (.head _)|exact .tail _ (.tail _ (.head _))),λq hq _ _=>(show ∀q∈Zw,q.2=_ from by(repeat' first|exact dW _|refine dU.mpr ⟨?_,?_⟩) <;> rfl) q hq,rfl,rfl,⟨rfl,rfl,rfl,by decide,rfl,sZ (by(repeat' first|exact dW _|refine dU.mpr ⟨?_,?_⟩) <;> rfl),ZnG (by(repeat' first|exact dW _|refine dU.mpr ⟨?_,?_⟩) <;> first|(intro h;exact⟨_,rfl⟩)|(intro h;exact absurd h (by decide))),by(repeat' first|exact dW _|refine dU.mpr ⟨?_,?_⟩) <;> exact⟨rfl,rfl,rfl⟩⟩,λ_ _ _ _=>rfl,λ_ _ _ _ _ hr=>(ZR (yM (K:=K) rfl) (pv 1) (pv 0) (λ_ _=>rfl))⟩) rfl hr rfl (B "sorted" (by decide)) (Zb (pv 3) Zf))) (Zm (i:=4) BS.nd rfl (Or.inl rfl))
   (Zg (CL (Cj (Zy j9 (ZR ZQ (pv 1) (pv 4) (λ_ _=>rfl)) Zj (ZK _)) (gh Zf) (c8 J4 hr rfl (Zb (pv 0) (Zb (pv 4) (Zb (pv 1) (Zb (pv 2) Zf)))))) (CM (pv 2) (pv 4) set_list))))
  (Zg (ZD (pv 2)))))),?_⟩
 refine⟨by decide,λl hl=>?_⟩;have sl:Zh H (upd H l (.lst [.aD])):=Zh.new hl;refine⟨_,rfl,a,_,0,_,rfl,rfl,az.of (sl _ _ ea),rfl,l,(fm.n:Int),_,rfl,rfl,Za,by lia,by lia,?_,λgl zV=>?_⟩
 ·show 1*(fm.n:Int).toNat<=sizeLine;exact sX (by lia)
 obtain⟨_,KH⟩:=qz zV;have s2:Zh H (upd (upd H l (.lst [.aD])) gl (.lst (cE (fm.n:Int).toNat [V.aD]).flatten)):=sl.bA KH;have R8:(upd (upd H l (.lst [.aD])) gl (.lst (cE (fm.n:Int).toNat [V.aD]).flatten)) gl=some (.lst (cE fm.n V.aD)):=by
  rw[Za,lV,ZmL]
 generalize upd (upd H l (.lst [.aD])) gl (.lst (cE (fm.n:Int).toNat [V.aD]).flatten)=H2 at s2 R8;refine⟨_,rfl,a,_,0,_,rfl,rfl,az.of (s2 _ _ ea),rfl,(fm.n:Int),rfl,?_⟩;refine⟨by lia,by lia,λsp jB=>Hq (lo:=0) (n:=(fm.n:Int).toNat) (p:=sp) (λi ys σ H4=>∃v0:Option V,σ =[v0,some (.ref cl)]/\Zh H2 H4/\H4 sp=some (.lst ys)/\ys=(rK i c).map kg)
  ⟨none,rfl,Zh.new jB,Za,rfl⟩ ?_ ?_ ?_⟩
 ·rintro i ys σ H4 _ ⟨v0,_,_,h,_⟩;exact h
 ·rintro i ys σ H4 hi ⟨v0,rfl,sm,hp,rfl⟩;rw[lV] at hi;have sl4:=QK i c;refine⟨_,rfl,_,rfl,cl,_,_,_,rfl,rfl,ag.of (sm _ _ (s2 _ _ aY)),by rw[V2];exact my (by lia),at_ c i,rfl,_,rfl,cC (λd=>?_) (λd=>?_)⟩
  ·refine⟨_,rfl,hp,Zr (by rw[ar];lia),CW.next (by rw[lV];exact hi) ⟨_,rfl,sm.bA jB,Za,?_⟩⟩
   rw[Px,aj d,bP,V2];rfl
  ·refine CW.next (by rw[lV];exact hi) ⟨_,rfl,sm,hp,?_⟩
   rw[Px,ah d,fN]
 rintro ys σ H4 ⟨v0,rfl,sm,Ub,rfl⟩;rw[lV] at Ub;have s4:Zh H H4:=s2.trans sm;have sl4:=QK fm.n c;refine⟨_,rfl,T0.same s4,sp,_,(rK fm.n c).map (jl c),rfl,ag.of Ub,by rw[ar];lia,by rw[ar,ar],λlf H5 hlf sT T5=>⟨λi x kx hx oR=>?_,λzp zs Lr ko=>?_⟩⟩
 ·rw[bW] at hx oR;obtain⟨k,hk,rfl⟩:=dv.mp hx;rw[hk] at oR;injection oR with oR;subst oR;obtain⟨iQ,m,hm,_⟩:=QU.mp (bY hk);refine⟨_,rfl,_,rfl,cl,_,_,_,rfl,rfl,ag.of (KT.lst (KT.tab (T0.same s4) sT) (s4 _ _ aY)),my (by lia),rfl,?_⟩;unfold jl;rw[hm];rfl
 have Ep:KT H H5:=(KT.of s4).trans (KT.tab (T0.same s4) sT);have Tb:H5 gl=some (.lst (cE fm.n V.aD)):=KT.lst (KT.tab (T0.same s4) sT) (sm _ _ R8);obtain⟨D,rfl,hD,Sw⟩:=ZkV ko;have nzg:zp≠gl:=λz=>by rw[z,Tb] at Lr;cases Lr
 have s6:Zh H5 (upd H5 zp (.lst (D.map kg))):=Zh.new Lr;have ndD:D.Nodup:=hD.nodup_iff.mpr (ZB6 _ MO);have memD:∀k,k∈D↔k<fm.n/\∃m,at_ c k=some m/\m<=300:=λk=>hD.mem_iff.trans QU;refine⟨zp,rfl,⟨_,ag.of Za⟩,iG (K:=K) (a:=zp) (xs:=D.map kg) (λi σ H1=>∃(v4:Option V)(us:List V)(G:List (Option (Gr Str))),σ =[some (.ref a),some (.ref cl),some (.ref gl),some (.ref sp),v4]/\KT H H1/\dN H1 Pt Zw/\H1 zp=some (.lst (D.map kg))/\H1 gl=some (.lst us)/\gH H1 us G/\nS fm c G (D.take i))
  ⟨none,_,_,rfl,Ep.trans (KT.of s6),T5.same s6,Za,s6 _ _ Tb,gH.new _ _,nS.start fm c⟩ ?_ ?_ ?_⟩
 ·rintro i σ H1 _ ⟨v4,us,G,_,_,_,h,_⟩;exact ag.of h
 ·rintro i x σ H1 hx ⟨v4,us,G,rfl,kt,T1,kL,qR,zG,qL⟩;rw[bW] at hx;obtain⟨k,hk,rfl⟩:=dv.mp hx;obtain⟨iQ,n,iN,n3⟩:=(memD k).mp (bY hk);have Te:i<D.length:=(cT.mp hk).1;have R9:D[i]=k:=(cT.mp hk).2;have wV:D.take (i+1)=D.take i ++ [k]:=by
   rw[Wv Te,R9]
  have ZAq:k∉D.take i:=λz=>by
   have nd:=ZB5 (Fw (i+1) D) ndD;rw[wV,xE] at nd;exact nd.2.2 k z k (ao.mpr rfl) rfl
  have Uu:jl c k=(n:Int):=by unfold jl;rw[iN];rfl
  have ple:∀j m,j∈D.take i->at_ c j=some m->m<=n:=λj m hj hm=>by
   have nd:=Bd (Fw (i+1) D) Sw;rw[wV,Wo] at nd;have:=nd.2.2 j hj k (ao.mpr rfl);rw[Uu] at this;unfold jl at this;rw[hm] at this;have:(m:Int)<=n:=this;lia
  have ZAP:∀j m,at_ c j=some m->m<n->j∈D.take i:=λj m hm aB=>by
   have hjn:j<fm.n:=by
    rcases iz j c.length with z|z
    ·lia
    ·unfold at_ at hm;rw[iw,Bh z] at hm;cases hm
   have hj:j∈D:=(memD j).mpr ⟨hjn,m,hm,by lia⟩;rw[<- Wu i D] at hj;rcases aS.mp hj with hj|hj
   ·exact hj
   ·have hd:D.drop i=k::D.drop (i+1):=by rw[Fi Te,R9]
    have nd:=Bd (V_ i D) Sw;rw[hd] at hj nd;rcases aV.mp hj with rfl|hj
    ·rw[iN] at hm;injection hm with hm;lia
    ·have:=(Bi.mp nd).1 j hj;rw[Uu] at this;unfold jl at this;rw[hm] at this;have:(n:Int)<=m:=this;lia
  have ZEx:=kt.tk;have C_:=zG.1;have Sz:=qL.len;have fin:∀(g:Gr Str)(v:V)(H7:Hp),Zh H1 H7->gV H7 v (some g)->Ha fm G k n g->∃(v4:Option V)(qc:List V)(G':List (Option (Gr Str))),[some (V.ref a),some (.ref cl),some (.ref gl),some (.ref sp),some (kg k)] =[some (.ref a),some (.ref cl),some (.ref gl),some (.ref sp),v4]/\KT H (upd H7 gl (.lst (us.set k v)))/\dN (upd H7 gl (.lst (us.set k v))) Pt Zw/\(upd H7 gl (.lst (us.set k v))) zp=some (.lst (D.map kg))/\(upd H7 gl (.lst (us.set k v))) gl=some (.lst qc)/\gH (upd H7 gl (.lst (us.set k v))) qc G'/\nS fm c G' (D.take (i+1)):=by
   intro g v H7 s7 hv kG;have Vd:TK H7 (upd H7 gl (.lst (us.set k v))):=iF (s7 _ _ qR);refine⟨_,us.set k v,G.set k (some g),rfl,(kt.trans (KT.of s7)).bA KH,?_,by rw[Zc nzg];exact s7 _ _ kL,Za,((zG.mono s7.tk).mono Vd).set (by rw[Sz];exact iQ) (hv.mono Vd),?_⟩
   ·refine(T1.same s7).keep (λps e=>?_) λb o u e=>?_
    ·rw[Zc (λz=>by rw[z,s7 _ _ qR] at e;cases e)];exact e
    ·rw[Zc (λz=>by rw[z,s7 _ _ qR] at e;cases e)];exact e
   ·rw[wV];exact qL.next iQ ZAq iN n3 (λj hj m hm=>ple j m hj hm) kG
  refine⟨_,rfl,_,rfl,cl,_,_,_,rfl,rfl,ag.of (KT.lst kt aY),my (by lia),?_⟩;rw[iN];refine⟨rfl,_,rfl,cC (λd=>?_) (λd=>?_)⟩
  ·have KY:n=0:=by
    have:=bK d;injection this with this;lia
   subst KY;refine⟨by decide,λr ft=>?_⟩;have s7:Zh H1 (upd H1 r (.tup [])):=Zh.new ft;refine⟨_,rfl,_,rfl,gl,_,_,_,rfl,rfl,s7 _ _ qR,CF (by lia),fin .nil _ _ s7 ⟨r,[],rfl,Za,.nil⟩ ⟨rfl,jH.nil,?_,λq _ _ x y _ _ h=>by lia⟩⟩;rcases res.got ok iN with z|⟨q,_,_,x,y,_,_,h⟩
   ·exact .inl z
   ·lia
  ·have KY:0<n:=by
    rcases WA n with z|z
    ·exact(d (by rw[z];rfl)).elim
    ·exact z
   refine⟨_,rfl,_,rfl,_,rfl,_,rfl,a,cl,gl,fm,c,k,n,us,G,rfl,Form.kt hF kt.tk,r9,t_,res,KT.lst kt aY,qR,zG,Sz,iQ,iN,KY,n3,λj g e=>⟨(qL.sz j g e).2.1,(qL.sz j g e).2.2.2⟩,λj m hm aB=>qL.has j (ZAP j m hm aB),λr xs g H7 s7 hr7 hG7 kG=>?_⟩;exact⟨_,rfl,_,rfl,gl,_,_,_,rfl,rfl,s7 _ _ qR,CF (by lia),fin g _ _ s7 ⟨r,xs,rfl,hr7,hG7⟩ kG⟩
 ·rintro σ H1 ⟨v4,us,G,rfl,kt,T1,kL,qR,zG,qL⟩;rw[ar,cU] at qL;refine⟨_,rfl,q gl us G H1 kt T1 KH qR zG ⟨D,qL,λk n hk Ae=>(memD k).mpr ⟨?_,n,hk,Ae⟩⟩⟩;rcases iz k c.length with z|z
  ·lia
  ·unfold at_ at hk;rw[iw,Bh z] at hk;cases hk
def Rx(K:au)(Pt:Addr):Sp:=λvs H Q _=>∃(a:Addr)(f:Fm),vs=[.ref a]/\Form H a f/\f.n<=63/\f.rules.length<=900/\(∀q∈f.rules,fG q.t)/\dN H Pt Zw /\
 ∀(r:Addr)(c:Cs)(us:List V)(G:List (Option (Gr Str)))(H':Hp),KT H H'->dN H' Pt Zw->H r=none->H' r=some (.lst us)->gH H' us G->f.Res c->LG f c G->Q (.ref r) H'
theorem Zlu(B:∀x∈cj,mg x=none)(J5:cx P w K mg base "least_groves" ["form","counts"] 6 (RQ K Pt)) (JU:cx P w K mg base "fewest" ["form"] 3 (Pe K)) (F:bC K "least" "least" IG f fd):aX P w K mg base bq 7 f fd ["form"] (Rx K Pt):=by
 refine F.ok ZlO (λvs H Q E h=>?_) (λaK A outer s H vs Q E hr h=>?_)
 ·obtain⟨a,fm,rfl,_⟩:=h;rfl
 obtain⟨a,fm,rfl,hF,hn,r9,t_,T0,q⟩:=h;refine⟨_,(Zg (ZD (c8 J5 hr rfl (Zb (pv 0) (Zb (c8 JU hr rfl (Zb (pv 0) Zf)) Zf))))),?_⟩;refine⟨_,rfl,_,rfl,a,fm,rfl,hF,cm hn (by decide),λcl c H1 s1 _ e1 res=>?_⟩;exact⟨a,cl,fm,c,rfl,hF.same s1,hn,r9,t_,res,e1,T0.same s1,λr us G H2 k2 T2 n2 e2 hG hL=>q r c us G H2 ((KT.of s1).trans k2) T2 (s1.free n2) e2 hG res hL⟩
theorem Zgg(B:∀x∈cj,mg x=none)(F:bC K "_law_cell_at" "_law_cell_at" HQ f fd):aX P w K mg base bq 1 f fd ["_law_script","_law_k"] (Cz K):=by
 refine F.ok Zfz (λvs H Q E h=>?_) (λaK A outer s H vs Q E hr h=>?_)
 ·obtain⟨a,ns,k,rfl,_⟩:=h;rfl
 obtain⟨a,ns,k,rfl,hS,lC,h0,q⟩:=h;refine⟨_,(Ze (c6 (Zy CQ (pv 1) (Z0 ZP rfl (B "len" (by decide)) jT (Zb (pv 0) Zf)) (ZK _))
   (Zg (ZD (ZR ZQ (pv 0) (pv 1) (λ_ _=>rfl))))
   ZV)
  (Zg (ZD Zj))),?_⟩
 refine⟨_,rfl,_,rfl,a,_,rfl,.inl hS,_,_,rfl,rfl,_,rfl,?_⟩;refine cC (λc=>?_) (λc=>?_)
 ·have c':=bK c;rw[ar] at c';obtain⟨v,hv⟩:=ZmN (ns:=ns) h0 c';exact⟨_,rfl,_,rfl,a,_,k,_,rfl,rfl,hS,hv,q v⟩
 ·exact q 0
theorem Zfy(B:∀x∈cj,mg x=none)(mK:cx P w K mg base "_law_cell_at" ["_law_script","_law_k"] 1 (Cz K)) (F:bC K "_law_numbers" "_law_numbers" Ho f fd) :
  aX P w K mg base bq 2 f fd ["_law_script","_law_first","_law_many"] (Ji K):=by
 refine F.ok vg (λvs H Q E h=>?_) (λaK A outer s H vs Q E hr h=>?_)
 ·obtain⟨a,ns,fi,m,rfl,_⟩:=h;rfl
 obtain⟨a,ns,fi,m,rfl,hS,lC,f0,f1,h0,h1,q⟩:=h;refine⟨_,(Ze (Zt (i:=3) vg.nd rfl (Or.inl rfl) (Z9 Zf))
  (Ze (Zt (i:=4) vg.nd rfl (Or.inl rfl) (Zx gc Zj (pv 1)))
  (Ze (c7 cN rfl (vj rfl (B "range" (by decide)) (Zb (pv 2) Zf)) (Zm (i:=5) vg.nd rfl (Or.inl rfl))
   (Ze (Zt (i:=6) vg.nd rfl (Or.inl rfl) (c8 mK hr rfl (Zb (pv 0) (Zb (Zx gc Zj (Zx eG (Zx gc (pv 1) (pv 5)) (Z0 (ZjM rfl) rfl (B "max" (by decide)) Zn3 (Zb Zj (Zb (Zx Jp (Z0 ZP rfl (B "len" (by decide)) jT (Zb (pv 0) Zf)) Zj) Zf))))) Zf))))
    (Ze (Zt (i:=4) vg.nd rfl (Or.inl rfl) (Zx eG (Zx gc (Zx gc (Zx oj (pv 4) Zj) (pv 6)) (Zx oj (pv 5) (pv 5))) Zj))
    (Zg (Z2 (ff dX gC gD ZG (pv 3) (Zb (pv 4) Zf)))))))
  (Zg (ZD (pv 3)))))),?_⟩
 refine⟨by decide,λp hp=>?_⟩;refine⟨_,rfl,_,_,rfl,rfl,?_⟩;refine⟨_,rfl,m,rfl,by lia,by lia,HZ (lo:=0) (n:=m.toNat) (λi σ H1=>∃(xs:List Int)(num:Int)(v4 v5:Option V),σ =[some (.ref a),some (.int fi),some (.int m),some (.ref p),some (.int num),v4,v5] /\
  Zh H H1/\H1 p=some (.lst (xs.map V.int))/\xs.length=i/\(∀x∈xs,0<=x/\x<2147483647)) ⟨[],_,none,none,rfl,Zh.new hp,Za,rfl,λ_ h=>nomatch h⟩ ?_ ?_⟩
 ·rintro i σ H1 hi ⟨xs,num,v4,v5,rfl,sm,bo,hl,hx⟩;have Dq:=sm.seq hS;refine⟨_,rfl,_,rfl,_,rfl,_,_,rfl,rfl,_,rfl,a,_,rfl,.inl Dq,_,_,rfl,rfl,_,_,rfl,_,_,rfl,rfl,?_,_,_,rfl,rfl,a,ns,_,rfl,Dq,lC,?_,λv=>?_⟩
  ·exact P7 _
  ·have:=uG (fi+(0+(i:Int))) (Int.ne_of_gt (P7 (((ns.map V.int).length:Int)-2)));lia
  refine⟨_,rfl,_,_,rfl,rfl,.inr ⟨by decide,by decide⟩,_,rfl,_,_,rfl,rfl,_,rfl,_,rfl,_,_,rfl,rfl,.inl ⟨by lia,by lia⟩,_,_,rfl,rfl,_,_,rfl,rfl,(by show(0:Int)<2147483647;decide),?_⟩;refine⟨_,rfl,.inl ⟨rfl,_,ag.of bo⟩,_,rfl,p,_,_,rfl,rfl,bo,Zr (by rw[ar];lia),?_⟩;refine⟨xs ++ [(num*48271+v+(0+(i:Int))*(0+(i:Int))) % 2147483647],_,_,_,rfl,sm.bA hp,?_,?_,?_⟩
  ·rw[Za,bP];rfl
  ·rw[aH,hl];rfl
  ·intro x nM;rcases aS.mp nM with nM|nM
   ·exact hx x nM
   ·obtain rfl:=ao.mp nM;exact⟨uG _ (by decide),xu _ (by decide)⟩
 ·rintro σ H1 ⟨xs,num,v4,v5,rfl,sm,bo,hl,hx⟩;exact⟨_,rfl,q p xs H1 sm hp bo (by lia) hx⟩
theorem Zjd(B:∀x∈cj,mg x=none)(F:bC K "_law_tags" "_law_tags" Iq f fd):aX P w K mg base bq 1 f fd ["_law_cell"] QC:=by
 refine F.ok qr (λvs H Q E h=>?_) (λaK A outer s H vs Q E hr h=>?_)
 ·obtain⟨c,rfl,_⟩:=h;rfl
 obtain⟨c,rfl,q⟩:=h;refine⟨_,(Ze (Zt (i:=1) qr.nd rfl (Or.inl rfl) jj)
  (Ze (Zt (i:=2) qr.nd rfl (Or.inl rfl) (Zx gc (Zx eG (pv 0) Zj) Zj))
  (Ze (Zt (i:=3) qr.nd rfl (Or.inl rfl) jj)
  (Ze (c7 cN rfl (vj rfl (B "range" (by decide)) (Zb (Zx gc Zj (Zx eG (pv 2) Zj)) Zf)) (Zm (i:=4) qr.nd rfl (Or.inl rfl))
   (Ze (Zt (i:=2) qr.nd rfl (Or.inl rfl) (Zx eG (Zx gc (Zx oj (pv 2) Zj) (pv 4)) Zj))
    (Zg (Zt (i:=3) qr.nd rfl (Or.inl rfl) (Zx HB (pv 3) (ZR Ru (pv 1) (Zx eG (pv 2) Zj) (λ_ _=>rfl)))))))
  (Ze (Zt (i:=5) qr.nd rfl (Or.inl rfl) (ZR Ru (pv 1) (Zx eG (Zx sU (pv 2) Zj) Zj) (λ_ _=>rfl)))
  (Zg (ZD (Z9 (Zb (pv 3) (Zb (Zx HB (pv 3) (pv 5)) (Zb (Zx HB (pv 5) (pv 3)) Zf))))))))))),?_⟩
 refine⟨_,rfl,_,_,rfl,rfl,(by show(0:Int)<1000003;decide),_,_,rfl,rfl,?_⟩;have m0:=oz (c % 1000003+11) (n:=7) (by decide);refine⟨_,rfl,_,_,rfl,rfl,(by show(0:Int)<7;decide),_,_,rfl,rfl,_,rfl,by lia,by lia,HZ (lo:=0) (n:=(1+(c % 1000003+11) % 7).toNat) (λi σ H1=>∃(t:Str)(nu:Int)(v4 v5:Option V),σ =[some (.int c),some (.str yr),some (.int nu),some (.str t),v4,v5]/\H1=H/\t.length=i/\ly t) ⟨FV,_,none,none,rfl,rfl,rfl,λ_ h=>(nomatch h)⟩ ?_ ?_⟩
 ·rintro i σ H1 hi ⟨t,nu,v4,v5,rfl,rfl,hl,aB⟩;refine⟨_,rfl,_,_,rfl,rfl,.inr ⟨by decide,by decide⟩,_,rfl,_,_,rfl,rfl,_,_,rfl,rfl,(by show(0:Int)<2147483629;decide),?_⟩;obtain⟨ch,hc,c1,c2⟩:=QV (i:=((nu*69621+(0+(i:Int))) % 2147483629) % 26) (uG _ (by decide)) (xu _ (by decide));refine⟨_,rfl,_,rfl,_,rfl,_,_,rfl,rfl,(by show(0:Int)<26;decide),_,_,ch,rfl,rfl,(by decide),hc,_,_,rfl,rfl,?_,?_⟩
  ·show t.length+1<=sizeLine;exact sX (by lia)
  ·refine⟨t++⟨#[ch]⟩,_,_,_,rfl,rfl,?_,ID aB (Ii c1 c2).Er⟩;rw[IV,hl];rfl
 ·rintro σ H1 ⟨t,nu,v4,v5,rfl,rfl,hl,aB⟩;obtain⟨ch,hc,c1,c2⟩:=QV (i:=nu / 26 % 26) (uG _ (by decide)) (xu _ (by decide));have hT:fG t:=⟨λz=>by
   have e:t.cps.toList.length=t.length:=aU;rw[z] at e;have e0:(0:Nat)=t.length:=e;lia,aB⟩
  have h1:(⟨#[ch]⟩:Str).length=1:=rfl;refine⟨_,rfl,_,rfl,_,_,rfl,rfl,⟨by decide,by decide⟩,_,_,rfl,rfl,(by show(0:Int)<26;decide),_,_,ch,rfl,rfl,(by decide),hc,?_⟩;refine⟨_,rfl,_,rfl,_,rfl,_,_,rfl,rfl,?_,_,rfl,_,rfl,_,_,rfl,rfl,?_,by show(3:Nat)<=sizeLine;decide,λr hr=>q r [t,t++⟨#[ch]⟩,⟨#[ch]⟩++t] _ (Zh.new hr) hr Za rfl λx hx=>?_⟩
  ·rw[h1];exact sX (by lia)
  ·rw[h1];exact sX (by lia)
  ·rcases aV.mp hx with rfl|hx
   ·exact⟨hT,by lia⟩
   ·rcases aV.mp hx with rfl|hx
    ·exact⟨Zn6 hT (Ii c1 c2).Er,by rw[IV,h1];lia⟩
    ·rw[ao.mp hx];exact⟨Zok (Ii c1 c2).Er hT,by rw[IV,h1];lia⟩
set_option maxHeartbeats 2000000 in
theorem ZA(B:∀x∈cj,mg x=none)(F:bC K "live_kinds" "live_kinds" B7 f fd):aX P w K mg base bq 1 f fd ["form"] (QI K):=by
 refine F.ok Z1 (λvs H Q E h=>?_) (λaK A outer s H vs Q E hr h=>?_)
 ·obtain⟨a,fm,rfl,_⟩:=h;rfl
 obtain⟨a,fm,rfl,hF,ok,q⟩:=h;obtain⟨f1,f2,f3,zf,a1,a2,a3,a4,a5⟩:=id hF;have n0:=ok.n0;have n64:=ok.n8;have rg:=ok.tl;have zfl:=a5.length;obtain⟨N,hN⟩:∃N:Nat,fm.n=(N:Int):=⟨fm.n.toNat,(fM n0).symm⟩;have bN:(A.deeper (pU (bw "live_kinds") (Zk B7) s.heap.objs.size f aK)).units+1<cLine:=by have:=hr.un;lia
 refine⟨_,(Ze (Zt (i:=1) Z1.nd rfl (Or.inl rfl) (Z8 (BV rfl) rfl (B "dict" (by decide)) Cw (Zb (yT (cl:=[]) ["end"] [] (mv (ZR eI (pv 0) Zj (λ_ _=>rfl))) (λ_ _ _ _=>(Zm (i:=0) wI rfl (Or.inl rfl))) (λ_ _ _ _=>(gh (Zb (pv 0) (Zb eJ Zf)))) rfl rfl (by decide) rfl (by decide) (λ_ _ h=>nomatch h) (lj (by decide)) (λ_ _ h=>nomatch h) (λ_=>rfl)) Zf)))
  (Ze (Zt (i:=2) Z1.nd rfl (Or.inl rfl) eJ)
  (Ze (Iz cN (iH (pv 2) (λ_=>rfl))
   (Ze (Zt (i:=2) Z1.nd rfl (Or.inl rfl) eJ)
    (Zg (c7 cN rfl (mv (ZR eI (pv 0) Zj (λ_ _=>rfl))) (gJ rfl (Zo (Zm (i:=3) Z1.nd rfl (Or.inl rfl)) (Zo (Zm (i:=4) Z1.nd rfl (Or.inl rfl)) (Zo (Zm (i:=5) Z1.nd rfl (Or.inl rfl)) (Zo (Zm (i:=6) Z1.nd rfl (Or.inl rfl)) gi)))))
     (Zg (c6 (PW.pt (mr (og (Zi0 bN (pv 3) (pv 1))) (mr (og (oi bN (pv 5) (pv 1))) (qw (og (oi bN (pv 6) (pv 1)))))))
       (Ze (qu bN (pv 1) (pv 3) eJ rfl)
        (Zg (Zt (i:=2) Z1.nd rfl (Or.inl rfl) eJ)))
       ZV))))))
  (Zg (ZD (pv 1)))))),?_⟩
 refine⟨_,rfl,a,_,2,_,rfl,rfl,az.of a1,rfl,f2,rfl,⟨_,az.of a3⟩,λpl bD=>Pn (K:=K) (a:=f2) (p:=pl) (xs:=fm.ts.map V.int) (λi ys σ H2=>∃v0:Option V,σ =[v0]/\Zh H H2/\H2 pl=some (.lst ys)/\PT H2 ys (fm.ts.take i))
  ⟨none,rfl,Zh.new bD,Za,.nil⟩ ?_ ?_ ?_⟩
 ·rintro i ys σ H2 _ ⟨v0,_,sm,h,_⟩;exact⟨az.of (sm _ _ a3),h⟩
 ·rintro i ys x σ H2 hi hx ⟨v0,rfl,sm,hp,hz⟩;rw[bW] at hx;obtain⟨e,he,rfl⟩:=dv.mp hx;refine⟨_,rfl,by show(2:Nat)<=sizeLine;decide,λt jC=>?_⟩;have s2:Zh H2 (upd H2 t (.tup [V.int e,.bl true])):=Zh.new jC;refine⟨s2 _ _ hp,Zr (by rw[hz.length,iy];lia),CW.next hi ⟨_,rfl,(sm.trans s2).bA bD,Za,?_⟩⟩
  rw[Zi he];have eB:PT (upd H2 t (.tup [V.int e,.bl true])) (ys ++ [.ref t]) (fm.ts.take i ++ [e]):=PT.snoc Za (hz.keep λb xs e=>s2 _ _ e);exact eB.keep (iF (s2 _ _ hp))
 rintro ys σ H2 ⟨v0,rfl,sm,hp,hz⟩;rw[ar,cU] at hz;refine⟨pl,_,fm.ts.map kB,rfl,ag.of hp,by rw[hz.length];lia,hz.pairs,λd hd=>?_⟩;have iO:=sm.free hd;obtain⟨S0,AK,lD⟩:=CA fm.ts [] [] rfl;have oW:(putAll (fm.ts.map kB)).length<=fm.ts.length:=by
  have:=HK (fm.ts.map kB);rw[ar] at this;exact this
 have nN:(putAll (fm.ts.map kB)).map (·.1)=S0.map aA:=AK;generalize putAll (fm.ts.map kB)=m0 at nN oW;have ZDx:S0.length<=fm.ts.length:=by rw[<- nZ nN];exact oW
 have sm1:Zh H (upd H2 d (.dK m0)):=sm.bA iO
 let W:Nat->St->Hp->Prop:=λj σ H1=>∃(S:List Int)(m:List (Key×V))(fl:Bool)(v3 v4 v5 v6:Option V),σ =[some (.ref a),some (.ref d),some (.bl fl),v3,v4,v5,v6]/\Zh H H1/\H1 d=some (.dK m)/\m.map (·.1)=S.map aA /\
  (∀e∈fm.ts,e∈S)/\(∀k∈S,dM fm k)/\S.length+Zip N S<=70+N/\j=2*Zip N S+(if fl=true then 1 else 0)/\(fl=false->CU fm.qs S)
 have ho0:=ZmB N S0;refine⟨W,⟨_,S0,m0,true,none,none,none,none,rfl,sm1,Za,nN,λe he=>(lD e).mpr (.inr he),λk hk=>.e (((lD k).mp hk).resolve_left (λz=>nomatch z)),by lia,rfl,λz=>nomatch z⟩,?_⟩
 rintro j σ H1 ⟨S,m,fl,v3,v4,v5,v6,rfl,EN,Dy,kn,DC,Ua,hsz,rfl,K'⟩;cases fl with
 | false =>
  refine⟨_,rfl,false,rfl,b9 ⟨_,rfl,q d S H1 EN iO ⟨m,Dy,kn⟩ ?_ λk=>⟨Ua k,λhk=>Zln DC (K' rfl) hk⟩⟩⟩;lia
 | true =>
  refine⟨_,rfl,true,rfl,cA ⟨λaq H'=>∃m',m'<2*Zip N S+(if true=true then 1 else 0)/\W m' aq H',λ_ _ h=>h,?_⟩⟩
  refine⟨_,rfl,a,_,3,_,rfl,rfl,az.of (EN _ _ a1),rfl,f3,rfl,⟨_,az.of (EN _ _ a4)⟩,vw (K:=K) (a:=f3) (xs:=zf) (λi σ H2=>∃(S':List Int)(m':List (Key×V))(fD:Bool)(v3 v4 v5 v6:Option V),σ =[some (.ref a),some (.ref d),some (.bl fD),v3,v4,v5,v6]/\Zh H H2/\H2 d=some (.dK m')/\m'.map (·.1)=S'.map aA /\
   (∀e∈fm.ts,e∈S')/\(∀k∈S',dM fm k)/\S'.length+Zip N S'<=70+N/\(fD=false->S'=S/\CU (fm.qs.take i) S)/\(fD=true->Zip N S'+1<=Zip N S)) ⟨S,m,false,v3,v4,v5,v6,rfl,EN,Dy,kn,DC,Ua,hsz,λ_=>⟨rfl,λ_ h=>nomatch h⟩,λz=>nomatch z⟩ ?_ ?_ ?_⟩
  ·rintro i σ H2 _ ⟨S',m',fD,v3,v4,v5,v6,_,fY,_⟩;exact az.of (fY _ _ a4)
  ·rintro i x σ H2 hi ⟨S',m',fD,v3,v4,v5,v6,rfl,fY,zP,rA,DD,wx,Lb,qQ,ju⟩;obtain⟨pq,q1,ez,rfl,e4⟩:=a5.get i x hi;have oZ:q1∈fm.qs:=bY ez;have iQ:=(ok.qb q1 oZ).1;rw[hN] at iQ;have D0:=fY _ _ e4;rw[Zi ez];have hg:=λk:Int=>dO.k (k:=aA k) zP;have no:(q1.2.2.1∈S'->q1.2.2.2∈S'->q1.1∈S')->∃(sv:List Int)(yn:List (Key×V))(Gx:Bool)(w3 w4 w5 w6:Option V),[some (V.ref a),some (.ref d),some (.bl fD),some (.int q1.1),some (.str q1.2.1),some (.int q1.2.2.1),some (.int q1.2.2.2)] =[some (.ref a),some (.ref d),some (.bl Gx),w3,w4,w5,w6]/\Zh H H2/\H2 d=some (.dK yn)/\yn.map (·.1)=sv.map aA /\
     (∀e∈fm.ts,e∈sv)/\(∀k∈sv,dM fm k)/\sv.length+Zip N sv<=70+N/\(Gx=false->sv=S/\CU (fm.qs.take i ++ [q1]) S)/\(Gx=true->Zip N sv+1<=Zip N S):=λhc=>by
    refine⟨S',m',fD,_,_,_,_,rfl,fY,zP,rA,DD,wx,Lb,λhf=>?_,ju⟩;obtain⟨rfl,h2⟩:=qQ hf;refine⟨rfl,λz hz=>?_⟩;rcases aS.mp hz with hz|hz
    ·exact h2 z hz
    ·rw[ao.mp hz];exact hc
   refine⟨pq,_,rfl,az.of D0,rfl,_,_,rfl,_,_,rfl,_,_,rfl,_,_,rfl,rfl,?_⟩;refine⟨_,rfl,_,rfl,d,_,rfl,hg q1.1,_,rfl,?_⟩;rw[DI.has rA];by_cases k1:q1.1∈S'
   ·rw[aP k1];exact b9 (b9 (no λ_ _=>k1))
   rw[bx k1];refine cA ⟨_,rfl,_,rfl,d,_,rfl,hg q1.2.2.1,_,rfl,?_⟩;rw[DI.has rA];by_cases k2:q1.2.2.1∈S'
   ·rw[aP k2];refine cA ⟨_,rfl,_,rfl,d,_,rfl,hg q1.2.2.2,_,rfl,?_⟩;rw[DI.has rA];by_cases k3:q1.2.2.2∈S'
    ·rw[aP k3];have uc:m'.length<sizeLine:=by
      rw[nZ rA];exact Zr (by lia)
     refine cA ⟨_,rfl,_,rfl,d,_,rfl,jk.k (k:=aA q1.1) zP uc,?_⟩;have ZyU:=Zli iQ.1 iQ.2 k1;have Uv:=DI.put rA q1.1 (V.bl true);rw[ah k1] at Uv;refine⟨S' ++ [q1.1],_,true,_,_,_,_,rfl,fY.bA iO,Za,Uv,λe he=>cb _ (DD e he),λk hk=>?_,?_,λz=>(nomatch z),λ_=>?_⟩
     ·rcases aS.mp hk with hk|hk
      ·exact wx k hk
      ·rw[ao.mp hk];exact .r oZ (wx _ k2) (wx _ k3)
     ·rw[aH,cL];lia
     ·cases fD with
      | true=>have:=ju rfl;lia
      | false=>obtain⟨rfl,_⟩:=qQ rfl;exact ZyU
    ·rw[bx k3];exact b9 (no λ_ z=>absurd z k3)
   ·rw[bx k2];exact b9 (b9 (no λz=>absurd z k2))
  ·rintro σ H2 ⟨S',m',fD,v3,v4,v5,v6,rfl,fY,zP,rA,DD,wx,Lb,qQ,ju⟩;rw[zfl,cU] at qQ;refine⟨_,?_,S',m',fD,v3,v4,v5,v6,rfl,fY,zP,rA,DD,wx,Lb,rfl,λhf=>?_⟩
   ·cases fD with
    | true=>have:=ju rfl;rw[aj rfl];lia
    | false=>obtain⟨rfl,_⟩:=qQ rfl;rw[ah (by decide),aj rfl];lia
   ·obtain⟨rfl,h⟩:=qQ hf;exact h
def Ij(K:au)(C:Addr):Sp:=λvs H Q _=>∃(a p dx:Addr)(f:FQ),vs=[.ref a,.ref p]/\H a=some (.ins C dx [])/\jX H p f/\mj f/\∀(H':Hp)(L T:Addr)(R:List av.Qd)(hs:List Int),R.length<=f.qs.length->(∀b o,b≠a->H b=some o->H' b=some o)->H L=none->H T=none->qG hs->(∀x,x∈hs↔x∈f.hs/\dM f x)->bT C H' a L T [] f R [hs.map dup] []->Q .aD H'
def zt(a p0 dl:Addr)(H7:Hp)(dw:Addr)(R:List av.Qd)(cc:Nat)(σ : St)(H:Hp):Prop := ∃(v3 v4 v5 v6:Option V)(m:List (Key×V))(D:Int->Option Addr)(mk:Int->List (Key×V))(tf:Int->List Str)(Lf:Int->Str->Option Addr),σ =[some (.ref a),some (.ref p0),some (.ref dl),v3,v4,v5,v6]/\WS H7 H dw m D mk tf Lf (cG R) cc/\∀k t l,Lf k t=some l->cG R k t ≠ []
variable{C:Addr}
set_option maxHeartbeats 4000000 in
theorem YS(B:∀x∈cj,mg x=none)(c:iC K C)(J6:cx P w K mg base "live_kinds" ["form"] 1 (QI K)) (F:bC K "__init__" "Reader.__init__" B1 f fd):aX P w K mg base bq 2 f fd ["self","form"] (Ij K C):=by
 refine F.ok ZW (λvs H Q E h=>?_) (λaK A outer s H vs Q E hr h=>?_)
 ·obtain⟨a,p,dx,fm,rfl,_⟩:=h;rfl
 obtain⟨a,p0,dx,fm,rfl,hA,hF,ok,q⟩:=h;obtain⟨f1,f2,f3,zf,a1,a2,a3,a4,a5⟩:=id hF;have bN:(A.deeper (pU (bw "Reader.__init__") (Zk B1) s.heap.objs.size f aK)).units+1<cLine:=by have:=hr.un;lia
 have na:∀b xs,H b=some (.tup xs)->b≠a:=λb xs e z=>by rw[z,hA] at e;cases e
 have rg:=ok.tl;have Td:=ok.hl;have kJ:=ok.ql;have Ay:=a5.length;refine⟨_,(Ze (Zt (i:=2) ZW.nd rfl (Or.inr rfl) (c8 J6 hr rfl (Zb (pv 1) Zf)))
  (Ze (y_ (pv 0) (pv 1) rfl)
  (Ze (y_ (pv 0) (Z8 (BV rfl) rfl (B "dict" (by decide)) Cw (Zb (yT (cl:=[]) ["end"] [] (mv (ZR eI (pv 1) Zj (λ_ _=>rfl))) (λ_ _ _ _=>(Zm (i:=0) wI rfl (Or.inl rfl))) (λ_ _ _ _=>(gh (Zb (pv 0) (Zb eJ Zf)))) rfl rfl (by decide) rfl (by decide) (λ_ _ h=>nomatch h) (lj (by decide)) (λ_ _ h=>nomatch h) (λ_=>rfl)) Zf)) rfl)
  (Ze (y_ (pv 0) mn rfl)
  (Ze (c7 cN rfl (mv (ZR eI (pv 1) Zj (λ_ _=>rfl))) (gJ rfl (Zo (Zm (i:=3) ZW.nd rfl (Or.inl rfl)) (Zo (Zm (i:=4) ZW.nd rfl (Or.inl rfl)) (Zo (Zm (i:=5) ZW.nd rfl (Or.inl rfl)) (Zo (Zm (i:=6) ZW.nd rfl (Or.inl rfl)) gi)))))
   (Zg (c6 (PW.pt (mr (og (oi bN (pv 5) (pv 2))) (qw (og (oi bN (pv 6) (pv 2))))))
     (Zg (Z2 (ff dX gC gD ZG (Ir (Ir (dR (pv 0) rfl) (pv 3) mn ⟨rfl,rfl,rfl,rfl⟩) (pv 4) (Z9 Zf) ⟨rfl,rfl,rfl,rfl⟩) (Zb (gh (Zb (pv 5) (Zb (pv 6) Zf))) Zf))))
     ZV)))
  (Ze (y_ (pv 0) (Z9 (Zb (HL (cl:=_) ["start"] [("alive",2)] (mv (ZR eI (pv 1) Zj (λ_ _=>rfl))) (λ_ _ _ _=>(Zm (i:=0) (show pM (["start","alive"]:List Str) by decide) rfl (Or.inl rfl))) (λ_ _ _ _=>(og (oi bN (pv 0) (pv 1)))) (λ_ _ _ _=>(gh (Zb (pv 0) (Zb (pv 0) Zf)))) rfl rfl (by decide) rfl (by decide) (sZ (by(repeat' first|exact dW _|refine dU.mpr ⟨?_,?_⟩) <;> rfl)) (vq (by(repeat' first|exact dW _|refine dU.mpr ⟨?_,?_⟩) <;> first|(intro h;exact⟨_,rfl⟩)|(intro h;exact absurd h (by decide)))) (λ_=>by(repeat' first|exact dW _|refine dU.mpr ⟨?_,?_⟩) <;> exact⟨rfl,rfl,Or.inl rfl⟩) (λ_=>rfl)) Zf)) rfl)
  (Zg (y_ (pv 0) (Z9 Zf) rfl)))))))),?_⟩
 refine⟨_,rfl,p0,fm,rfl,hF,ok,?_⟩;rintro dl S H1 s1 zO ⟨ml,e1,kl⟩ hSl hS;have AQ:dl≠a:=λz=>by rw[z,hA] at zO;cases zO
 refine⟨_,rfl,_,rfl,a,C,dx,_,rfl,s1 _ _ hA,c.cls,c.n1,by decide,?_⟩;have k2:∀b o,b≠a->H1 b=some o->(upd H1 a (.ins C dx (cD "form" (V.ref p0) []))) b=some o:=λb o hb e=>by rw[Zc hb];exact e
 have x2:(upd H1 a (.ins C dx (cD "form" (V.ref p0) []))) a=some (.ins C dx [("form",.ref p0)]):=by rw[Za];rfl
 generalize upd H1 a (.ins C dx (cD "form" (V.ref p0) []))=H2 at k2 x2 ⊢;have AE:∀b o,b≠a->H b=some o->H2 b=some o:=λb o hb e=>k2 b o hb (s1 _ _ e);refine⟨_,rfl,p0,_,2,_,rfl,rfl,az.of (AE _ _ (na _ _ a1) a1),rfl,f2,rfl,⟨_,az.of (AE _ _ (na _ _ a3) a3)⟩,λpl bD=>Pn (K:=K) (a:=f2) (p:=pl) (xs:=fm.ts.map V.int) (λi ys σ H3=>∃v0:Option V,σ =[v0]/\Zh H2 H3/\H3 pl=some (.lst ys)/\PT H3 ys (fm.ts.take i))
  ⟨none,rfl,Zh.new bD,Za,.nil⟩ ?_ ?_ ?_⟩
 ·rintro i ys σ H3 _ ⟨v0,_,sm,h,_⟩;exact⟨az.of (sm _ _ (AE _ _ (na _ _ a3) a3)),h⟩
 ·rintro i ys x σ H3 hi hx ⟨v0,rfl,sm,hp,hz⟩;rw[bW] at hx;obtain⟨e,he,rfl⟩:=dv.mp hx;refine⟨_,rfl,by show(2:Nat)<=sizeLine;decide,λt jC=>?_⟩;have s2:Zh H3 (upd H3 t (.tup [V.int e,.bl true])):=Zh.new jC;refine⟨s2 _ _ hp,Zr (by rw[hz.length,iy];lia),CW.next hi ⟨_,rfl,(sm.trans s2).bA bD,Za,?_⟩⟩
  rw[Zi he];have eB:PT (upd H3 t (.tup [V.int e,.bl true])) (ys ++ [.ref t]) (fm.ts.take i ++ [e]):=PT.snoc Za (hz.keep λb xs e=>s2 _ _ e);exact eB.keep (iF (s2 _ _ hp))
 rintro ys σ H3 ⟨v0,rfl,s3,hp,hz⟩;rw[ar,cU] at hz;refine⟨pl,_,fm.ts.map kB,rfl,ag.of hp,by rw[hz.length];lia,hz.pairs,λdf qP=>?_⟩;obtain⟨S0,AK,lD⟩:=CA fm.ts [] [] rfl;have nN:(putAll (fm.ts.map kB)).map (·.1)=S0.map aA:=AK;generalize putAll (fm.ts.map kB)=m0 at nN ⊢;have Yr:∀x,x∈S0↔x∈fm.ts:=λx=>(lD x).trans ⟨λz=>z.elim (λz=>nomatch z) id,.inr⟩
 have s4:Zh H2 (upd H3 df (.dK m0)):=s3.bA (s3.free qP);have x4:(upd H3 df (.dK m0)) df=some (.dK m0):=Za;have Ez:df≠a:=λz=>by
  have:=s3.free qP;rw[z,x2] at this;cases this
 generalize upd H3 df (.dK m0)=H4 at s4 x4 ⊢;refine⟨_,rfl,a,C,dx,_,rfl,s4 _ _ x2,c.cls,c.n2,(show 1<1000 by decide),?_⟩;have k5:∀b o,b≠a->H4 b=some o->(upd H4 a (.ins C dx (cD "final" (V.ref df) [("form",.ref p0)]))) b=some o:=λb o hb e=>by rw[Zc hb];exact e
 have x5:(upd H4 a (.ins C dx (cD "final" (V.ref df) [("form",.ref p0)]))) a=some (.ins C dx [("form",.ref p0),("final",.ref df)]):=by rw[Za];rfl
 generalize upd H4 a (.ins C dx (cD "final" (V.ref df) [("form",.ref p0)]))=H5 at k5 x5 ⊢;refine λdw vS=>?_;have uv:dw≠a:=λz=>by rw[z,x5] at vS;cases vS
 refine⟨_,rfl,a,C,dx,[("form",.ref p0),("final",.ref df)],rfl,(by rw[Zc uv.symm];exact x5),c.cls,c.n3,(show 2<1000 by decide),?_⟩;have k7:∀b o,b≠a->H5 b=some o->(upd (upd H5 dw (.dK [])) a (.ins C dx (cD "ways" (V.ref dw) [("form",.ref p0),("final",.ref df)]))) b=some o:=λb o hb e=>by
  rw[Zc hb,Zc (Zd e vS)];exact e
 have x7:(upd (upd H5 dw (.dK [])) a (.ins C dx (cD "ways" (V.ref dw) [("form",.ref p0),("final",.ref df)]))) a=some (.ins C dx [("form",.ref p0),("final",.ref df),("ways",.ref dw)]):=by rw[Za];rfl
 have y7:(upd (upd H5 dw (.dK [])) a (.ins C dx (cD "ways" (V.ref dw) [("form",.ref p0),("final",.ref df)]))) dw=some (.dK []):=by rw[Zc uv];exact Za
 generalize upd (upd H5 dw (.dK [])) a (.ins C dx (cD "ways" (V.ref dw) [("form",.ref p0),("final",.ref df)]))=H7 at k7 x7 y7 ⊢;have wD:∀b o,b≠a->H b=some o->H7 b=some o:=λb o hb e=>k7 b o hb (k5 b o hb (s4 _ _ (AE b o hb e)));have e7:H7 dl=some (.dK ml):=k7 _ _ AQ (k5 _ _ AQ (s4 _ _ (k2 _ _ AQ e1)));have d7:H7 df=some (.dK m0):=k7 _ _ Ez (k5 _ _ Ez x4);have UM:dl≠dw:=λz=>by
  have:=k5 _ _ AQ (s4 _ _ (k2 _ _ AQ e1));rw[z,vS] at this;cases this
 have nfd:df≠dw:=λz=>by
  have:=k5 _ _ Ez x4;rw[z,vS] at this;cases this
 have nt:∀b xs,H b=some (.tup xs)->b≠dw:=λb xs e z=>by
  have:=wD _ _ (na _ _ e) e;rw[z,y7] at this;cases this
 have b1:=wD _ _ (na _ _ a1) a1;have b2:=wD _ _ (na _ _ a2) a2;have b4:=wD _ _ (na _ _ a4) a4;have b5:QL H7 zf fm.qs:=a5.keep λb xs e=>wD _ _ (na _ _ e) e;have ED:∀b xs,H7 b=some (.tup xs)->b≠dw:=λb xs e z=>by rw[z,y7] at e;cases e
 have EV:WS H7 H7 dw [] (λ_=>none) (λ_=>[]) (λ_=>[]) (λ_ _=>none) (cG (eC S (fm.qs.take 0))) (2*0):=⟨λb o _ e=>e,⟨_,y7⟩,y7,bz _,λ_=>rfl,(λ_ _ z=>nomatch z),λ_ _ _=>rfl,λ_ _ _=>rfl,(λ_ _ _ z=>nomatch z),(λ_ _ _ z=>nomatch z),(λ_ _ _ _ _ z=>nomatch z)⟩
 refine⟨_,rfl,p0,_,3,_,rfl,rfl,az.of b1,rfl,f3,rfl,⟨_,az.of b4⟩,vw (K:=K) (a:=f3) (xs:=zf) (λi σ H8=>zt a p0 dl H7 dw (eC S (fm.qs.take i)) (2*i) σ H8)
  ⟨none,none,none,none,[],_,_,_,_,rfl,EV,λ_ _ _ z=>nomatch z⟩ ?_ ?_ ?_⟩
 ·rintro i σ H8 _ ⟨_,_,_,_,_,_,_,_,_,_,ws,_⟩;exact az.of (ws.kp _ _ (ED _ _ b4) b4)
 ·rintro i x σ H8 hx ⟨v3,v4,v5,v6,m,D,mk,tf,Lf,rfl,ws,bt⟩;obtain⟨tq,q1,x1,rfl,BL⟩:=b5.get i x hx;have ik:=(cT.mp x1).1;have t2:=ws.kp _ _ (ED _ _ BL) BL;have e8:=ws.kp _ _ UM e7;have x8:=ws.kp _ _ uv.symm x7;have uc:=ws.ml;have skip : ¬ (q1.2.2.1∈S/\q1.2.2.2∈S)->eC S (fm.qs.take (i+1))=eC S (fm.qs.take i):=λdS=>by
   unfold eC;rw[Zi x1,nh,pO,ah (by rw[gA,fB,fB];exact dS),rT,fN]
  have no : ¬ (q1.2.2.1∈S/\q1.2.2.2∈S)->zt a p0 dl H7 dw (eC S (fm.qs.take (i+1))) (2*(i+1)) [some (V.ref a),some (.ref p0),some (.ref dl),some (V.int q1.1),some (V.str q1.2.1),some (V.int q1.2.2.1),some (V.int q1.2.2.2)] H8:=λdS=>by
   rw[skip dS];exact⟨_,_,_,_,m,D,mk,tf,Lf,rfl,{ ws with ml:=by lia,dk:=λk a e=>by obtain⟨z1,z2,z3,z4,z5⟩:=ws.dk k a e;exact⟨z1,z2,z3,by lia,z5⟩ },bt⟩
  refine⟨tq,_,rfl,az.of t2,rfl,_,_,rfl,_,_,rfl,_,_,rfl,_,_,rfl,rfl,?_⟩;refine⟨_,rfl,_,rfl,dl,_,rfl,dO.k (k:=aA q1.2.2.1) e8,_,rfl,?_⟩;rw[DI.has kl];refine cC (λc1=>?_) (λc1=>b9 (no λz=>c1 (aP z.1)));refine⟨_,rfl,_,rfl,dl,_,rfl,dO.k (k:=aA q1.2.2.2) e8,_,rfl,?_⟩;rw[DI.has kl];refine cC (λc2=>?_) (λc2=>no λz=>c2 (aP z.2));have Ak:eC S (fm.qs.take (i+1))=eC S (fm.qs.take i) ++ [q1]:=by
   unfold eC;rw[Zi x1,nh,pO,aj (by rw[gA];exact⟨c1,c2⟩),rT]
  rw[Ak];have oX:∀k t,cG (eC S (fm.qs.take i) ++ [q1]) k t=cG (eC S (fm.qs.take i)) k t++if q1.1=k/\q1.2.1=t then [EI q1] else []:=Zj0 _ _
  have last:∀(H9:Hp)(m:List (Key×V))(D:Int->Option Addr)(mk:Int->List (Key×V))(tf:Int->List Str)(Lf:Int->Str->Option Addr)(l:Addr),WS H7 H9 dw m D mk tf Lf (cG (eC S (fm.qs.take i))) (2*(i+1))->Lf q1.1 q1.2.1=some l->(∀k t l,Lf k t=some l->(k=q1.1/\t=q1.2.1)\/cG (eC S (fm.qs.take i)) k t ≠ [])->∃zs,H9 l=some (.lst zs)/\zs.length<1000/\∀pt,H9 pt=none->zt a p0 dl H7 dw (eC S (fm.qs.take i) ++ [q1]) (2*(i+1)) [some (V.ref a),some (.ref p0),some (.ref dl),some (V.int q1.1),some (V.str q1.2.1),some (V.int q1.2.2.1),some (V.int q1.2.2.2)] (upd (upd H9 pt (.tup [.int q1.2.2.1,.int q1.2.2.2])) l (.lst (zs ++ [.ref pt]))):=by
   intro H9 m D mk tf Lf l iW hl DV;obtain⟨_,zs,z1,z2⟩:=iW.ls _ _ _ hl;have iR:zs.length<=100:=by
    rw[z2.length];refine cm (Zlo ..) (cm (nk ..) ?_);rw[iy];lia
   refine⟨zs,z1,by lia,λpt gq=>?_⟩;have s9:Zh H9 (upd H9 pt (.tup [.int q1.2.2.1,.int q1.2.2.2])):=Zh.new gq;refine⟨_,_,_,_,m,D,mk,tf,Lf,rfl,(iW.same s9).app (p:=EI q1) hl (s9 _ _ z1) Za oX,λk t l' h=>?_⟩;rw[oX];rcases DV k t l' h with⟨rfl,rfl⟩|h
   ·rw[aj ⟨rfl,rfl⟩];intro z;have:=congrArg fA z;rw[aH] at this;simp at this
   ·intro z;exact h (MF.mp z).1
  have mid:∀(H9:Hp)(m:List (Key×V))(D:Int->Option Addr)(mk:Int->List (Key×V))(tf:Int->List Str)(Lf:Int->Str->Option Addr)(d1:Addr),WS H7 H9 dw m D mk tf Lf (cG (eC S (fm.qs.take i))) (2*i+1)->D q1.1=some d1->(∀k t l,Lf k t=some l->cG (eC S (fm.qs.take i)) k t ≠ [])->H9 d1=some (.dK (mk q1.1))/\(mk q1.1).length<1000/\∀l0,H9 l0=none ->
    (∀v,bj (mk q1.1) (br q1.2.1)=some v->∃l,v=.ref l/\∃zs,(upd H9 l0 (.lst [])) l=some (.lst zs)/\zs.length<1000/\∀pt,(upd H9 l0 (.lst [])) pt=none->zt a p0 dl H7 dw (eC S (fm.qs.take i) ++ [q1]) (2*(i+1)) [some (V.ref a),some (.ref p0),some (.ref dl),some (V.int q1.1),some (V.str q1.2.1),some (V.int q1.2.2.1),some (V.int q1.2.2.2)] (upd (upd (upd H9 l0 (.lst [])) pt (.tup [.int q1.2.2.1,.int q1.2.2.2])) l (.lst (zs ++ [.ref pt])))) /\
    (bj (mk q1.1) (br q1.2.1)=none->∃zs,(upd (upd H9 l0 (.lst [])) d1 (.dK (putK (mk q1.1) (br q1.2.1) (.ref l0)))) l0=some (.lst zs)/\zs.length<1000/\∀pt,(upd (upd H9 l0 (.lst [])) d1 (.dK (putK (mk q1.1) (br q1.2.1) (.ref l0)))) pt=none->zt a p0 dl H7 dw (eC S (fm.qs.take i) ++ [q1]) (2*(i+1)) [some (V.ref a),some (.ref p0),some (.ref dl),some (V.int q1.1),some (V.str q1.2.1),some (V.int q1.2.2.1),some (V.int q1.2.2.2)] (upd (upd (upd (upd H9 l0 (.lst [])) d1 (.dK (putK (mk q1.1) (br q1.2.1) (.ref l0)))) pt (.tup [.int q1.2.2.1,.int q1.2.2.2])) l0 (.lst (zs ++ [.ref pt])))):=by
   intro H9 m D mk tf Lf d1 iW lF DV;obtain⟨z1,z2,z3,z4,z5⟩:=iW.dk _ _ lF;have cO:(mk q1.1).length=(tf q1.1).length:=by have:=congrArg fA z3;simpa using this
   refine⟨z2,by lia,λl0 cP=>?_⟩;have s9:Zh H9 (upd H9 l0 (.lst [])):=Zh.new cP;have Me:=iW.same s9;constructor
   ·intro v hv;rw[z5] at hv;obtain⟨l,hl,rfl⟩:=dv.mp hv;exact⟨l,rfl,last _ m D mk tf Lf l { Me with ml:=by have:=iW.ml;lia,dk:=λk a e=>by obtain⟨z1,z2,z3,z4,z5⟩:=Me.dk k a e;exact⟨z1,z2,z3,by lia,z5⟩ } hl (λk t l h=>.inr (DV k t l h))⟩
   ·intro hv;rw[z5] at hv;have hl:Lf q1.1 q1.2.1=none:=by
     cases h:Lf q1.1 q1.2.1 with
     | none=>rfl
     | some l =>
      rw[h] at hv;cases hv
    have f0:H7 l0=none:=by
     cases h:H7 l0 with
     | none=>rfl
     | some o =>
      by_cases hz:l0=dw
      ·rw[hz,iW.hm] at cP;cases cP
      ·rw[iW.kp _ _ hz h] at cP;cases cP
    have wsC:=Me.ZAj lF hl Za f0 (λk' t' h=>by
     obtain⟨_,zs,y1,_⟩:=iW.ls k' t' l0 h;rw[cP] at y1;cases y1)
    refine last _ _ _ _ _ _ l0 wsC ?_ (λk t l h=>?_)
    ·rw[aj ⟨rfl,rfl⟩]
    ·by_cases hh:k=q1.1/\t=q1.2.1
     ·exact .inl hh
     ·rw[ah hh] at h;exact .inr (DV k t l h)
  refine⟨_,rfl,a,C,dx,_,_,rfl,x8,c.cls,c.n3,rfl,dw,rfl,.inl ⟨m,.inl ws.hm⟩,_,rfl,λd0 iO=>?_⟩;have s8:Zh H8 (upd H8 d0 (.dK [])):=Zh.new iO;have y8:(upd H8 d0 (.dK [])) d0=some (.dK []):=Za;generalize upd H8 d0 (.dK [])=H9 at s8 y8 ⊢;have iW:=ws.same s8;refine⟨m,aA q1.1,iW.hm,rfl,Zr (by lia),λv hv=>?_,λhn=>?_⟩
  ·rw[ws.vm] at hv;obtain⟨d1,lF,rfl⟩:=dv.mp hv;obtain⟨m1,m2,m3⟩:=mid H9 m D mk tf Lf d1 { iW with ml:=by lia,dk:=λk a e=>by obtain⟨z1,z2,z3,z4,z5⟩:=iW.dk k a e;exact⟨z1,z2,z3,by lia,z5⟩ } lF bt;refine⟨d1,rfl,.inl ⟨_,.inl m1⟩,_,rfl,by decide,λl0 cP=>⟨_,br q1.2.1,by rw[Zc (Zd m1 cP)];exact m1,rfl,Zr (by lia),λv hv=>?_,λhn=>?_⟩⟩
   ·obtain⟨l,rfl,zs,y1,y2,y3⟩:=(m3 l0 cP).1 v hv;exact⟨.inl ⟨rfl,_,ag.of y1⟩,_,rfl,_,rfl,by show(2:Nat)<=sizeLine;decide,λpt gq=>⟨l,_,_,rfl,rfl,by rw[Zc (Zd y1 gq)];exact y1,Zr (by lia),y3 pt gq⟩⟩
   ·obtain⟨zs,y1,y2,y3⟩:=(m3 l0 cP).2 hn;exact⟨.inl ⟨rfl,_,ag.of y1⟩,_,rfl,_,rfl,by show(2:Nat)<=sizeLine;decide,λpt gq=>⟨l0,_,_,rfl,rfl,by rw[Zc (Zd y1 gq)];exact y1,Zr (by lia),y3 pt gq⟩⟩
  ·have hD:D q1.1=none:=by
    cases h:D q1.1 with
    | none=>rfl
    | some l =>
     rw[ws.vm,h] at hn;cases hn
   have f0:H7 d0=none:=by
    cases h:H7 d0 with
    | none=>rfl
    | some o =>
     by_cases hz:d0=dw
     ·rw[hz,ws.hm] at iO;cases iO
     ·rw[ws.kp _ _ hz h] at iO;cases iO
   have wsN:=iW.ZAi hD y8 f0 (λk' h=>by
    obtain⟨_,y1,_⟩:=ws.dk k' d0 h;rw[iO] at y1;cases y1)
   obtain⟨m1,m2,m3⟩:=mid _ _ _ _ _ _ d0 wsN (by rw[aj rfl]) bt;refine⟨d0,rfl,.inl ⟨_,.inl m1⟩,_,rfl,by decide,λl0 cP=>⟨_,br q1.2.1,by rw[Zc (Zd m1 cP)];exact m1,rfl,Zr (by lia),λv hv=>?_,λhn=>?_⟩⟩
   ·obtain⟨l,rfl,zs,y1,y2,y3⟩:=(m3 l0 cP).1 v hv;exact⟨.inl ⟨rfl,_,ag.of y1⟩,_,rfl,_,rfl,by show(2:Nat)<=sizeLine;decide,λpt gq=>⟨l,_,_,rfl,rfl,by rw[Zc (Zd y1 gq)];exact y1,Zr (by lia),y3 pt gq⟩⟩
   ·obtain⟨zs,y1,y2,y3⟩:=(m3 l0 cP).2 hn;exact⟨.inl ⟨rfl,_,ag.of y1⟩,_,rfl,_,rfl,by show(2:Nat)<=sizeLine;decide,λpt gq=>⟨l0,_,_,rfl,rfl,by rw[Zc (Zd y1 gq)];exact y1,Zr (by lia),y3 pt gq⟩⟩
 ·rintro σ H8 ⟨v3,v4,v5,v6,m,D,mk,tf,Lf,rfl,ws,bt⟩;rw[Ay,cU] at ws bt;have x8:=ws.kp _ _ uv.symm x7;have e8:=ws.kp _ _ UM e7;have d8:=ws.kp _ _ nfd d7;have AF:∀b o,b≠a->b≠dw->H b=some o->H8 b=some o:=λb o h1 h2 e=>ws.kp _ _ h2 (wD b o h1 e);have c1:=ws.kp _ _ (ED _ _ b1) b1;have c2:=ws.kp _ _ (ED _ _ b2) b2;refine⟨_,rfl,p0,_,1,_,rfl,rfl,az.of c1,rfl,f1,rfl,⟨_,az.of c2⟩,λpc cQ=>OR (K:=K) (a:=f1) (p:=pc) (xs:=fm.hs.map V.int) (λi ys σ H9=>∃v0:Option V,σ =[v0,some (.ref dl)]/\Zh H8 H9/\H9 pc=some (.lst ys)/\PL H9 ys (((fm.hs.take i).filter λx=>decide (x∈S)).map dup))
   ⟨none,rfl,Zh.new cQ,Za,.nil⟩ ?_ ?_ ?_⟩
  ·rintro i ys σ H9 _ ⟨v0,_,sm,h,_⟩;exact⟨az.of (sm _ _ c2),h⟩
  ·rintro i ys x σ H9 hi hx ⟨v0,rfl,sm,hp,hz⟩;rw[bW] at hx;obtain⟨e,he,rfl⟩:=dv.mp hx;have hlen:((fm.hs.take i).filter λx=>decide (x∈S)).length<=70:=cm (nk ..) (by rw[iy];lia);refine⟨_,rfl,_,rfl,dl,_,rfl,dO.k (k:=aA e) (sm _ _ e8),_,rfl,?_⟩;rw[DI.has kl];by_cases ce:e∈S
   ·rw[aP ce];refine cA ⟨_,rfl,_,rfl,by show(2:Nat)<=sizeLine;decide,λt jC=>?_⟩;have s4:Zh H9 (upd H9 t (.tup [V.int e,V.int e])):=Zh.new jC;refine⟨s4 _ _ hp,Zr (by rw[hz.length,ar];lia),CW.next hi ⟨_,rfl,(sm.trans s4).bA cQ,Za,?_⟩⟩
    rw[Zi he,nh,pO,aj (aP ce),rT,bP];have eB:PL (upd H9 t (.tup [V.int e,V.int e])) (ys ++ [.ref t]) (((fm.hs.take i).filter λx=>decide (x∈S)).map dup ++ [dup e]):=PL.snoc (q:=dup e) (show _=some (tp (dup e)) from Za) (hz.keep λb xs e=>s4 _ _ e);exact eB.keep (iF (s4 _ _ hp))
   ·rw[bx ce];refine b9 (CW.next hi ⟨_,rfl,sm,hp,?_⟩)
    rw[Zi he,nh,pO,ah (by rw[bx ce];decide),rT,fN];exact hz
  rintro ys σ H9 ⟨v0,rfl,s9,hp,hz⟩;rw[ar,cU] at hz;have ZDU:=cQ;refine⟨by show(1:Nat)<=sizeLine;decide,λL hL=>?_⟩;have vO:H8 L=none:=s9.free hL;have Eu:L≠a:=λz=>by rw[z,x8] at vO;cases vO
  have nLp:L≠pc:=λz=>by rw[z,hp] at hL;cases hL
  have LL:pc≠a:=λz=>by rw[z,x8] at cQ;cases cQ
  have fX:Zh H9 (upd H9 L (.lst [.ref pc])):=Zh.new hL;have wZ:(upd H9 L (.lst [.ref pc])) L=some (.lst [.ref pc]):=Za;generalize upd H9 L (.lst [.ref pc])=jY at fX wZ ⊢;have rL:=s9.trans fX;refine⟨_,rfl,a,C,dx,_,rfl,rL _ _ x8,c.cls,c.n4,(show 3<1000 by decide),?_⟩;have fW:∀b o,b≠a->jY b=some o->(upd jY a (.ins C dx (cD "levels" (V.ref L) [("form",.ref p0),("final",.ref df),("ways",.ref dw)]))) b=some o:=λb o hb e=>by rw[Zc hb];exact e
  have A2:(upd jY a (.ins C dx (cD "levels" (V.ref L) [("form",.ref p0),("final",.ref df),("ways",.ref dw)]))) a=some (.ins C dx [("form",.ref p0),("final",.ref df),("ways",.ref dw),("levels",.ref L)]):=by rw[Za];rfl
  generalize upd jY a (.ins C dx (cD "levels" (V.ref L) [("form",.ref p0),("final",.ref df),("ways",.ref dw)]))=dI at fW A2 ⊢;refine⟨by decide,λT hT=>?_⟩;have Ew:T≠a:=λz=>by rw[z,A2] at hT;cases hT
  have rC:L≠T:=λz=>by
   have:=fW _ _ Eu wZ;rw[z,hT] at this;cases this
  have xa:(upd dI T (.lst [])) a=some (.ins C dx [("form",.ref p0),("final",.ref df),("ways",.ref dw),("levels",.ref L)]):=by
   rw[Zc Ew.symm];exact A2
  refine⟨_,rfl,a,C,dx,_,rfl,xa,c.cls,c.n5,(show 4<1000 by decide),?_⟩;have AG:∀b o,b≠a->dI b=some o->(upd (upd dI T (.lst [])) a (.ins C dx (cD "tags" (V.ref T) [("form",.ref p0),("final",.ref df),("ways",.ref dw),("levels",.ref L)]))) b=some o:=λb o hb e=>by
   rw[Zc hb,Zc (Zd e hT)];exact e
  have Vh:(upd (upd dI T (.lst [])) a (.ins C dx (cD "tags" (V.ref T) [("form",.ref p0),("final",.ref df),("ways",.ref dw),("levels",.ref L)]))) a=some (.ins C dx (LU p0 df dw L T)):=by rw[Za];rfl
  have Vk:(upd (upd dI T (.lst [])) a (.ins C dx (cD "tags" (V.ref T) [("form",.ref p0),("final",.ref df),("ways",.ref dw),("levels",.ref L)]))) T=some (.lst []):=by rw[Zc Ew];exact Za
  generalize upd (upd dI T (.lst [])) a (.ins C dx (cD "tags" (V.ref T) [("form",.ref p0),("final",.ref df),("ways",.ref dw),("levels",.ref L)]))=qe at AG Vh Vk ⊢;have lL:∀b o,b≠a->H8 b=some o->qe b=some o:=λb o hb e=>AG b o hb (fW b o hb (rL _ _ e));have Dr:H8 T=none:=by
   cases h:H8 T with
   | none=>rfl
   | some o =>
    rw[fW _ _ Ew (rL _ _ h)] at hT;cases hT
  have nta:∀b xs,H8 b=some (.tup xs)->b≠a:=λb xs e z=>by rw[z,x8] at e;cases e
  have wi:=ws.out (ex:=[L,T]) (λb hb=>by
   rcases aV.mp hb with rfl|hb
   ·exact vO
   ·rw[ao.mp hb];exact Dr) (by lia) bt
  have free:∀b,b≠a->H8 b=none->b≠dw->H b=none:=λb hb h hd=>by
   cases e:H b with
   | none=>rfl
   | some o =>
    rw[AF b o hb hd e] at h;cases h
  have nLd:L≠dw:=λz=>by rw[z,ws.hm] at vO;cases vO
  have nTd:T≠dw:=λz=>by rw[z,ws.hm] at Dr;cases Dr
  have Zyu:H dw=none:=by
   cases e:H dw with
   | none=>rfl
   | some o =>
    have:=k5 dw o uv (s4 _ _ (AE dw o uv e));rw[vS] at this;cases this
  have DA:∀b o,H b=some o->b≠dw:=λb o e=>Zd e Zyu;refine q qe L T (eC S fm.qs) (fm.hs.filter λx=>decide (x∈S)) (by unfold eC;exact nk ..) (λb o hb e=>lL b o hb (AF b o hb (DA b o e) e)) (free L Eu vO nLd) (free T Ew Dr nTd) (ok.hs.filter _) (λx=>?_) ⟨ok,ZnX hS,⟨rfl,λl hl=>?_,λl hl p hp=>?_⟩,rC,(λ_ h=>nomatch h),dx,p0,df,dw,S0,[.ref pc],Vh,?_,⟨m0,lL _ _ Ez d8,nN⟩,Yr,?_,AG _ _ Eu (fW _ _ Eu wZ),?_,Vk⟩
  ·rw[kQ,fB,hS]
  ·rw[ao.mp hl];exact OP (ok.hs.filter _)
  ·rw[ao.mp hl] at hp;obtain⟨x,hx,rfl⟩:=a6.mp hp;have:=ok.hb x (kQ.mp hx).1;exact⟨this,this⟩
  ·exact⟨f1,f2,f3,zf,lL _ _ (na _ _ a1) c1,lL _ _ (na _ _ a2) c2,lL _ _ (na _ _ a3) (AF _ _ (na _ _ a3) (DA _ _ a3) a3),lL _ _ (na _ _ a4) (AF _ _ (na _ _ a4) (DA _ _ a4) a4),a5.keep λb xs e=>lL _ _ (na _ _ e) (AF _ _ (na _ _ e) (DA _ _ e) e)⟩
  ·obtain⟨w1,m',D',w2,w3,w4,w5⟩:=wi;refine⟨w1,m',D',lL _ _ uv w2,w3,w4,λk a' e=>?_⟩;obtain⟨u1,mk',YC,u2,u3,u4,u5⟩:=w5 k a' e;refine⟨u1,mk',YC,lL _ _ (λz=>by rw[z,x8] at u2;cases u2) u2,u3,u4,λt=>?_⟩;rcases u5 t with h|⟨l,zs,g1,g2,g3,g4,g5⟩
   ·exact .inl h
   ·exact .inr ⟨l,zs,g1,g2,lL _ _ (λz=>by rw[z,x8] at g3;cases g3) g3,g4.keep λb xs e=>lL _ _ (nta _ _ e) e,g5⟩
  ·have LK:pc≠T:=λz=>by
    have:=fW _ _ LL (fX _ _ hp);rw[z,hT] at this;cases this
   refine .cons ⟨pc,ys,rfl,j8 nLp.symm LK,AG _ _ LL (fW _ _ LL (fX _ _ hp)),hz.keep λb xs e=>?_⟩ .nil;have nb:b≠a:=λz=>by rw[z,s9 _ _ x8] at e;cases e
   exact AG _ _ nb (fW _ _ nb (fX _ _ e))
set_option maxHeartbeats 1000000 in
theorem YQ(B:∀x∈cj,mg x=none)(aF:iC K C)(F:bC K "ways_from" "Reader.ways_from" BX f fd):aX P w K mg base bq 1 f fd ["self","kind","tag"] (yP C):=by
 refine F.ok YN (λvs H Q E h=>?_) (λaK A outer s H vs Q E hr h=>?_)
 ·obtain⟨a,L,T,ex,fm,R,lv,tg,k,t,rfl,_⟩:=h;rfl
 obtain⟨a,L,T,ex,fm,R,lv,tg,k,t,rfl,hR,q⟩:=h;have bN:(A.deeper (pU (bw "Reader.ways_from") (Zk BX) s.heap.objs.size f aK)).units+1<cLine:=by have:=hr.un;lia
 obtain⟨dx,p,df,dw,ns,zs,h1,h2,h3,h4,⟨nw,m,D,w1,w2,w3,w4⟩,h6,h7,h8⟩:=hR.ho;refine⟨_,(Zg (ZD (Cn bN (Cn bN (dR (pv 0) rfl) (pv 1) mn ⟨rfl,rfl,rfl,rfl⟩) (pv 2) (Z9 Zf) ⟨rfl,rfl,rfl,rfl⟩))),?_⟩;refine⟨_,rfl,a,C,dx,_,_,rfl,h1,aF.cls,aF.n3,rfl,dw,rfl,.inl ⟨m,.inl w1⟩,_,rfl,λd0 iO=>?_⟩;have s1:Zh H (upd H d0 (.dK [])):=Zh.new iO;have e1:(upd H d0 (.dK [])) d0=some (.dK []):=Za;generalize upd H d0 (.dK [])=H1 at s1 e1 ⊢;refine⟨_,dO.k (k:=aA k) (s1 _ _ w1),?_⟩;rw[w2];cases hD:D k with
 | none =>
  refine⟨d0,rfl,.inl ⟨[],.inl e1⟩,_,rfl,by decide,λl0 cP=>⟨_,dO.k (k:=br t) (by rw[Zc (Zd e1 cP)];exact e1),?_⟩⟩;exact q l0 [] _ (s1.trans (Zh.new cP)) Za (by rw[w3 k hD t];exact .nil)
 | some a' =>
  obtain⟨n1,mk,ts,k1,k2,k3,k4⟩:=w4 k a' hD;refine⟨a',rfl,.inl ⟨mk,.inl (s1 _ _ k1)⟩,_,rfl,by decide,λl0 cP=>⟨_,dO.k (k:=br t) (by rw[Zc (Zd (s1 _ _ k1) cP)];exact s1 _ _ k1),?_⟩⟩;have s2:=s1.trans (Zh.new (o:=.lst []) cP);rcases k4 t with⟨e,ew⟩|⟨l,zs',e,e2,e3,e4,e5⟩
  ·rw[e];exact q l0 [] _ s2 Za (by have ew:cG R k t=[]:=ew;rw[ew];exact .nil)
  ·rw[e];exact q l zs' _ s2 (s2 _ _ e3) (e4.keep λb xs z=>s2 _ _ z)
set_option maxHeartbeats 2000000 in
theorem YY(B:∀x∈cj,mg x=none)(aF:iC K C)(F:bC K "ended" "Reader.ended" BU f fd):aX P w K mg base bq 1 f fd ["self"] (yN C):=by
 refine F.ok Y1 (λvs H Q E h=>?_) (λaK A outer s H vs Q E hr h=>?_)
 ·obtain⟨a,L,T,ex,fm,R,lv,l,tg,rfl,_⟩:=h;rfl
 obtain⟨a,L,T,ex,fm,R,lv,l,tg,rfl,hR,q⟩:=h;have bN:(A.deeper (pU (bw "Reader.ended") (Zk BU) s.heap.objs.size f aK)).units+1<cLine:=by have:=hr.un;lia
 obtain⟨dx,p,df,dw,ns,zs,h1,h2,⟨m,h3,eX⟩,h4,h5,h6,h7,h8⟩:=hR.ho;obtain⟨zs',pl,xs,rfl,g1,g2,g3,g4⟩:=h7.last;have qV:=hR.st.jn hR.ok.n8 (a9 lv (ao.mpr rfl));have fu:=g4.length;refine⟨_,(Zg (ZD (Z8 (BV rfl) rfl (B "dict" (by decide)) Cw (Zb (HL (cl:=_) ["begin","now"] [("self",0)] (fc (ZR ZQ (dR (pv 0) rfl) (oq oh Zj) (λ_ _=>rfl))) (λ_ _ _ _=>(QG (K:=K) (n:=2) rfl rfl (Zo (Zm (i:=0) (show pM (["begin","now","self"]:List Str) by decide) rfl (Or.inl rfl)) (Zo (Zm (i:=1) (show pM (["begin","now","self"]:List Str) by decide) rfl (Or.inl rfl)) gi)))) (λ_ _ _ _=>(og (oi bN (pv 1) (ZmQ (K:=K) rfl (pv 2) rfl)))) (λ_ _ _ _=>(gh (Zb (pv 0) (Zb eJ Zf)))) rfl rfl (by decide) rfl (by decide) (sZ (by(repeat' first|exact dW _|refine dU.mpr ⟨?_,?_⟩) <;> rfl)) (vq (by(repeat' first|exact dW _|refine dU.mpr ⟨?_,?_⟩) <;> first|(intro h;exact⟨_,rfl⟩)|(intro h;exact absurd h (by decide)))) (λ_=>by(repeat' first|exact dW _|refine dU.mpr ⟨?_,?_⟩) <;> exact⟨rfl,rfl,Or.inl rfl⟩) (λ_=>rfl)) Zf)))),?_⟩
 refine⟨_,rfl,a,C,dx,_,_,rfl,h1,aF.cls,aF.n4,rfl,1,rfl,L,_,-1,.ref pl,rfl,rfl,ag.of h6,sP _ _,pl,rfl,⟨_,ag.of g3⟩,λpc cQ=>Oq (K:=K) (a:=pl) (p:=pc) (xs:=xs) (λi ys σ H2=>∃v0 v1:Option V,σ =[v0,v1,some (.ref a)]/\Zh H H2/\H2 pc=some (.lst ys)/\PT H2 ys (((l.take i).filter λp=>decide (p.2∈fm.ts)).map (·.1)))
  ⟨none,none,rfl,Zh.new cQ,Za,.nil⟩ ?_ ?_ ?_⟩
 ·rintro i ys σ H2 _ ⟨v0,v1,_,sm,h,_⟩;exact⟨ag.of (sm _ _ g3),h⟩
 ·rintro i ys x σ H2 hi hx ⟨v0,v1,rfl,sm,hp,hz⟩;obtain⟨tp,pr,x1,rfl,x2⟩:=g4.get i x hx;have hlen:(((l.take i).filter λp=>decide (p.2∈fm.ts)).map (·.1)).length<=49:=by
   rw[ar];exact cm (nk ..) (by rw[iy];lia)
  refine⟨tp,_,rfl,az.of (sm _ _ x2),rfl,_,_,rfl,_,_,rfl,rfl,?_⟩;refine⟨_,rfl,_,rfl,a,C,dx,_,_,rfl,sm _ _ h1,aF.cls,aF.n2,rfl,df,_,rfl,dO.k (k:=aA pr.2) (sm _ _ h3),_,rfl,?_⟩;rw[DI.has eX];by_cases c:pr.2∈fm.ts
  ·rw[aP ((h4 _).mpr c)];refine cA ⟨_,rfl,by show(2:Nat)<=sizeLine;decide,λt jC=>?_⟩;have s2:Zh H2 (upd H2 t (.tup [V.int pr.1,.bl true])):=Zh.new jC;refine⟨s2 _ _ hp,Zr (by rw[hz.length];lia),CW.next hi ⟨_,_,rfl,(sm.trans s2).bA cQ,Za,?_⟩⟩
   rw[Zi x1,nh,pO,aj (aP c),rT,bP];have eB:PT (upd H2 t (.tup [V.int pr.1,.bl true])) (ys ++ [.ref t]) ((((l.take i).filter λp=>decide (p.2∈fm.ts)).map (·.1)) ++ [pr.1]):=PT.snoc Za (hz.keep λb xs e=>s2 _ _ e);exact eB.keep (iF (s2 _ _ hp))
  ·rw[bx (λz=>c ((h4 _).mp z))];refine b9 (CW.next hi ⟨_,_,rfl,sm,hp,?_⟩)
   rw[Zi x1,nh,pO,ah (by rw[bx c];decide),rT,fN];exact hz
 rintro ys σ H2 ⟨v0,v1,rfl,sm,hp,hz⟩;rw[fu,cU] at hz;have hlen:((l.filter λp=>decide (p.2∈fm.ts)).map (·.1)).length<=49:=by
  rw[ar];exact cm (nk ..) qV
 have cH:∀x,x∈((l.filter λp=>decide (p.2∈fm.ts)).map (·.1))↔kY fm.ts l x:=λx=>by
  rw[a6];constructor
  ·rintro⟨⟨b,n⟩,hb,rfl⟩;obtain⟨e1,e2⟩:=kQ.mp hb;exact⟨n,e1,bK e2⟩
  ·rintro⟨n,e1,e2⟩;exact⟨_,kQ.mpr ⟨e1,aP e2⟩,rfl⟩
 generalize ((l.filter λp=>decide (p.2∈fm.ts)).map (·.1))=es at hz hlen cH;refine⟨pc,_,es.map kB,rfl,ag.of hp,by rw[hz.length];lia,hz.pairs,λd hd=>?_⟩;obtain⟨S0,AK,lD⟩:=CA es [] [] rfl;have oW:(putAll (es.map kB)).length<=es.length:=by
  have:=HK (es.map kB);rw[ar] at this;exact this
 have nN:(putAll (es.map kB)).map (·.1)=S0.map aA:=AK;refine q d S0 _ (sm.bA (sm.free hd)) (sm.free hd) ⟨_,Za,nN⟩ (by have:=nZ nN;lia) λx=>?_;rw[lD,<- cH];exact⟨λz=>z.elim (λz=>nomatch z) id,.inr⟩
set_option maxHeartbeats 1000000 in
theorem Zev(B:∀x∈cj,mg x=none)(aF:iC K C)(JS:cZ P w K mg base C "take_end" ["self"] 2 (Jh C)) (JT:cZ P w K mg base C "take_tag" ["self","tag"] 2 (Jl C)) (F:bC K "take" "Reader.take" Hx f fd):aX P w K mg base bq 3 f fd ["self","word"] (IM C):=by
 refine F.ok Zes (λvs H Q E h=>?_) (λaK A outer s H vs Q E hr h=>?_)
 ·obtain⟨a,L,T,ex,fm,R,lv,l,tg,w,rfl,_⟩:=h;rfl
 obtain⟨a,L,T,ex,fm,R,lv,l,tg,w,rfl,hR,lI,q1,q2⟩:=h;obtain⟨dx,p,df,dw,ns,zs,h1,_⟩:=id hR.ho;refine⟨_,(Zg (ZD (Cj (Zy j9 (pv 1) jj (ZK _)) (j6 JS hr (pv 0) aF.cls) (vp JT hr (pv 0) aF.cls (Zb (pv 1) Zf))))),?_⟩;refine⟨_,rfl,rfl,_,rfl,cC (λc=>?_) (λc=>?_)⟩
 ·have e:w=SL:=by
   have:=bK c;injection this
  subst e;exact⟨_,rfl,a,dx,_,rfl,h1,rfl,a,L,T,ex,fm,R,lv,l,tg,rfl,hR,lI,q1,q2⟩
 ·have e:w≠SL:=λe=>c (aP (congrArg V.str e));exact⟨_,rfl,a,dx,_,rfl,h1,rfl,_,rfl,a,L,T,ex,fm,R,lv,l,tg,w,rfl,hR,lI,e,q1,q2⟩
set_option maxHeartbeats 2000000 in
theorem YU(B:∀x∈cj,mg x=none)(aF:iC K C)(oG:cZ P w K mg base C "ways_from" ["self","kind","tag"] 1 (yP C)) (F:bC K "take_tag" "Reader.take_tag" B0 f fd):aX P w K mg base bq 2 f fd ["self","tag"] (Jl C):=by
 refine F.ok ZX (λvs H Q E h=>?_) (λaK A outer s H vs Q E hr h=>?_)
 ·obtain⟨a,L,T,ex,fm,R,lv,l,tg,w,rfl,_⟩:=h;rfl
 obtain⟨a,L,T,ex,fm,R,lv,l,tg,w,rfl,hR,lI,hw,q1,q2⟩:=h;have bN:(A.deeper (pU (bw "Reader.take_tag") (Zk B0) s.heap.objs.size f aK)).units+1<cLine:=by have:=hr.un;lia
 obtain⟨dx,p,df,dw,ns,zs,h1,h2,h3,h4,h5,h6,h7,h8⟩:=id hR.ho;obtain⟨zs',pl,xs,rfl,g1,g2,g3,g4⟩:=h7.last;have qV:=hR.st.jn hR.ok.n8 (a9 lv (ao.mpr rfl));have fu:=g4.length;have n8:=hR.ok.n8;have kI:=hR.rk.qb hR.ok;refine⟨_,(Ze (Zt (i:=2) ZX.nd rfl (Or.inl rfl) mn)
  (Ze (c7 cN rfl (fc (ZR ZQ (dR (pv 0) rfl) (oq oh Zj) (λ_ _=>rfl))) (gJ rfl (Zo (Zm (i:=3) ZX.nd rfl (Or.inl rfl)) (Zo (Zm (i:=4) ZX.nd rfl (Or.inl rfl)) gi)))
   (Zg (c7 cN rfl (fc (vp oG hr (pv 0) aF.cls (Zb (pv 4) (Zb (pv 1) Zf)))) (gJ rfl (Zo (Zm (i:=5) ZX.nd rfl (Or.inl rfl)) (Zo (Zm (i:=6) ZX.nd rfl (Or.inl rfl)) gi)))
     (Zg (qu bN (pv 2) (pv 5) eJ rfl)))))
  (Ze (c6 (zb (iH (pv 2) (λ_=>rfl)))
   (Zg (ZD eJ))
   ZV)
  (Ze (Z2 (ff dX gC gD ZG (dR (pv 0) rfl) (Zb (yT (cl:=[]) ["begin"] [] (fc (Z0 (Y3 rfl) rfl (B "sorted" (by decide)) H_ (Zb (pv 2) Zf))) (λ_ _ _ _=>(Zm (i:=0) wI rfl (Or.inl rfl))) (λ_ _ _ _=>(gh (Zb (pv 0) (Zb (pv 0) Zf)))) rfl rfl (by decide) rfl (by decide) (λ_ _ h=>nomatch h) (lj (by decide)) (λ_ _ h=>nomatch h) (λ_=>rfl)) Zf)))
  (Ze (Z2 (ff dX gC gD ZG (dR (pv 0) rfl) (Zb (pv 1) Zf)))
  (Zg (ZD eJ))))))),?_⟩
 refine λd hd=>?_;have s0:Zh H (upd H d (.dK [])):=Zh.new hd;have jn:∀{S:List Int},S.Nodup->IB fm.n S->S.length<=7:=λ{S} hn hb=>by
  have h64:((c_ 7).map λx:Nat=>(x:Int)).length=7:=by rw[ar,nq]
  rw[<- h64];refine nX hn λx hx=>a6.mpr ⟨x.toNat,iY.mpr ?_,?_⟩
  ·have:=hb x hx;lia
  ·exact fM (hb x hx).1
 refine⟨_,rfl,a,C,dx,_,_,rfl,s0 _ _ h1,aF.cls,aF.n4,rfl,1,rfl,L,_,-1,.ref pl,rfl,rfl,ag.of (s0 _ _ h6),sP _ _,pl,rfl,⟨_,ag.of (s0 _ _ g3)⟩,iG (K:=K) (a:=pl) (xs:=xs) (λi σ H1=>∃(v3 v4 v5 v6:Option V)(m:List (Key×V))(S:List Int),σ =[some (.ref a),some (.str w),some (.ref d),v3,v4,v5,v6]/\Zh H H1/\H1 d=some (.dK m)/\m.map (·.1)=S.map aA/\S.Nodup/\IB fm.n S/\∀x,x∈S↔u_ R (l.take i) w x)
  ⟨none,none,none,none,[],[],rfl,s0,Za,rfl,pR,(λ_ h=>nomatch h),λx=>⟨λh=>(nomatch h),λ⟨_,h,_⟩=>(nomatch h)⟩⟩ ?_ ?_ ?_⟩
 ·rintro i σ H1 _ ⟨_,_,_,_,_,_,_,s1,_⟩;exact ag.of (s1 _ _ g3)
 ·rintro i x σ H1 hx ⟨v3,v4,v5,v6,m,S,rfl,s1,hm,hk,cI,kC,cH⟩;obtain⟨tp,pr,x1,rfl,x2⟩:=g4.get i x hx;refine⟨tp,_,rfl,az.of (s1 _ _ x2),rfl,_,_,rfl,_,_,rfl,rfl,?_⟩;refine⟨_,rfl,a,dx,_,rfl,s1 _ _ h1,rfl,_,rfl,_,rfl,a,L,T,ex,fm,R,_,tg,pr.2,w,rfl,hR.same s1,λr ys H2 s2 e2 e3=>?_⟩;have iV:=s1.trans s2;have jD:=e3.length;refine⟨r,rfl,⟨_,ag.of e2⟩,iG (K:=K) (a:=r) (xs:=ys) (λj σ H3=>∃(v5 v6:Option V)(m:List (Key×V))(S':List Int),σ =[some (.ref a),some (.str w),some (.ref d),some (.int pr.1),some (.int pr.2),v5,v6]/\Zh H H3/\(∀b o,b≠d->H2 b=some o->H3 b=some o)/\H3 d=some (.dK m)/\m.map (·.1)=S'.map aA/\S'.Nodup/\IB fm.n S'/\∀x,x∈S'↔x∈S\/∃p∈(cG R pr.2 w).take j,p.1=x)
   ⟨v5,v6,m,S,rfl,iV,(λb o _ h=>h),s2 _ _ hm,hk,cI,kC,λx=>⟨.inl,λz=>z.elim id λ⟨_,z,_⟩=>nomatch z⟩⟩ ?_ ?_ ?_⟩
  ·rintro j σ H3 _ ⟨_,_,_,_,_,_,kp,S1,_⟩;refine ag.of (kp _ _ (λz=>?_) e2);rw[z,s2 _ _ hm] at e2;cases e2
  ·rintro j y σ H3 hy ⟨v5,v6,m3,S3,rfl,s3,kp,Aa,kE,Af,oP,DT⟩;obtain⟨tq,pq,y1,rfl,y2⟩:=e3.get j y hy;have GH:=kp _ _ (λz=>by rw[z,s2 _ _ hm] at y2;cases y2) y2;have wu:=lc.mp (bY y1);have qU:=jn Af oP;refine⟨tq,_,rfl,az.of GH,rfl,_,_,rfl,_,_,rfl,rfl,?_⟩;refine⟨_,rfl,_,rfl,d,_,rfl,jk.k (k:=aA pq.1) Aa (Zr (by have:=nZ kE;lia)),?_⟩;have KP:(putK m3 (aA pq.1) (V.bl true)).map (·.1)=(ot S3 pq.1).map aA:=DI.put kE pq.1 (V.bl true);refine⟨_,_,_,ot S3 pq.1,rfl,s3.bA hd,λb o hb h=>by rw[Zc hb];exact kp b o hb h,Za,KP,?_,?_,λx=>?_⟩
   ·unfold ot
    split
    ·exact Af
    ·rename_i dS
     exact xE.mpr ⟨Af,MP _ _,λx hx y hy e=>dS (by rw[<- ao.mp hy,<- e];exact hx)⟩
   ·intro x hx;rcases Ci.mp hx with hx|rfl
    ·exact oP x hx
    ·exact(kI _ wu).2.1
   ·rw[Ci,DT,Zi y1];constructor
    ·rintro((h|⟨p,hp,z⟩)|rfl)
     ·exact .inl h
     ·exact .inr ⟨p,cb _ hp,z⟩
     ·exact .inr ⟨pq,a9 _ (ao.mpr rfl),rfl⟩
    ·rintro(h|⟨p,hp,z⟩)
     ·exact .inl (.inl h)
     ·rcases aS.mp hp with hp|hp
      ·exact .inl (.inr ⟨p,hp,z⟩)
      ·rw[ao.mp hp] at z;exact .inr z.symm
  ·rintro σ H3 ⟨v5,v6,m3,S3,rfl,s3,kp,Aa,kE,Af,oP,DT⟩;rw[jD,cU] at DT;refine⟨_,_,_,_,m3,S3,rfl,s3,Aa,kE,Af,oP,λx=>?_⟩;rw[DT,cH,Zi x1];constructor
   ·rintro(⟨p,hp,r',z⟩|⟨p,hp,rfl⟩)
    ·exact⟨p,cb _ hp,r',z⟩
    ·exact⟨pr,a9 _ (ao.mpr rfl),p.2,lc.mp hp⟩
   ·rintro⟨p,hp,r',z⟩;rcases aS.mp hp with hp|hp
    ·exact .inl ⟨p,hp,r',z⟩
    ·rw[ao.mp hp] at z;exact .inr ⟨(x,r'),lc.mpr z,rfl⟩
 ·rintro σ H1 ⟨v3,v4,v5,v6,m,S,rfl,s1,hm,hk,cI,kC,cH⟩;rw[fu,cU] at cH;have b_:=jn cI kC;have cO:=nZ hk;refine⟨_,rfl,_,.inr (.inr ⟨m,hm,rfl⟩),?_⟩;cases m with
  | nil =>
   have hS:S=[]:=ix.mp cO.symm;subst hS;exact cA (q1 H1 s1 (.inl ⟨hw,λx hx=>nomatch (cH x).mpr hx⟩))
  | cons kv m =>
   refine b9 ?_;have t6:=s1 _ _ h6;have t8:=s1 _ _ h8;refine⟨_,rfl,a,C,dx,_,_,rfl,s1 _ _ h1,aF.cls,aF.n4,rfl,.inl ⟨rfl,_,ag.of t6⟩,_,rfl,d,_,S,rfl,hm,by lia,hk,λps ks hps c9 K6=>?_⟩;have s2:Zh H1 (upd H1 ps (.lst (ks.map V.int))):=Zh.new hps;have x2:(upd H1 ps (.lst (ks.map V.int))) ps=some (.lst (ks.map V.int)):=Za;generalize upd H1 ps (.lst (ks.map V.int))=H2 at s2 x2 ⊢;have ZDK:ks.length<=7:=by rw[c9.length_eq];exact b_
   refine⟨ps,rfl,⟨_,ag.of x2⟩,λpc cQ=>B_ (K:=K) (a:=ps) (p:=pc) (xs:=ks.map V.int) (λi ys σ H3=>∃v0:Option V,σ =[v0]/\Zh H2 H3/\H3 pc=some (.lst ys)/\PL H3 ys ((ks.take i).map dup))
    ⟨none,rfl,Zh.new cQ,Za,.nil⟩ ?_ ?_ ?_⟩
   ·rintro i ys σ H3 _ ⟨v0,_,sm,h,_⟩;exact⟨ag.of (sm _ _ x2),h⟩
   ·rintro i ys x σ H3 hi hx ⟨v0,rfl,sm,hp,hz⟩;rw[bW] at hx;obtain⟨e,he,rfl⟩:=dv.mp hx;refine⟨_,rfl,_,rfl,by show(2:Nat)<=sizeLine;decide,λt jC=>?_⟩;have s4:Zh H3 (upd H3 t (.tup [V.int e,V.int e])):=Zh.new jC;refine⟨s4 _ _ hp,Zr (by rw[hz.length,ar,iy];lia),CW.next hi ⟨_,rfl,(sm.trans s4).bA cQ,Za,?_⟩⟩
    rw[Zi he,bP];have eB:PL (upd H3 t (.tup [V.int e,V.int e])) (ys ++ [.ref t]) ((ks.take i).map dup ++ [dup e]):=PL.snoc (q:=dup e) (show _=some (tp (dup e)) from Za) (hz.keep λb xs e=>s4 _ _ e);exact eB.keep (iF (s4 _ _ hp))
   rintro ys σ H3 ⟨v0,rfl,sm,hp,hz⟩;rw[ar,cU] at hz;have rH:Zh H1 H3:=s2.trans sm;have iq:=s1.trans rH;have ZDQ:=h7.length;have bu:=hR.st.len;refine⟨L,_,_,rfl,rfl,iq _ _ h6,Zr (by rw[h7.length,bu];lia),?_⟩;have rC:=hR.ne;have npL:pc≠L:=λz=>by
    have:=s2.free cQ;rw[z,t6] at this;cases this
   have LK:pc≠T:=λz=>by
    have:=s2.free cQ;rw[z,t8] at this;cases this
   have x8:(upd H3 L (.lst ((zs' ++ [.ref pl]) ++ [.ref pc]))) T=some (.lst (tg.map V.str)):=by
    rw[Zc rC.symm];exact iq _ _ h8
   have xa:(upd H3 L (.lst ((zs' ++ [.ref pl]) ++ [.ref pc]))) a=some (.ins C dx (LU p df dw L T)):=by
    rw[Zc (λz=>by rw[z,h6] at h1;cases h1)];exact iq _ _ h1
   refine⟨_,rfl,a,C,dx,_,_,rfl,xa,aF.cls,aF.n5,rfl,.inl ⟨rfl,_,ag.of x8⟩,_,rfl,T,_,_,rfl,rfl,x8,Zr (by rw[ar];lia),?_⟩;have kx:cy [L,T] H (upd (upd H3 L (.lst ((zs' ++ [.ref pl]) ++ [.ref pc]))) T (.lst (tg.map V.str ++ [.str w]))):=(cy.upd (cy.upd (Zh.rq iq) (aZ ..)) (bM _ (aZ ..)));have Ly:cy [L,T] H3 (upd (upd H3 L (.lst ((zs' ++ [.ref pl]) ++ [.ref pc]))) T (.lst (tg.map V.str ++ [.str w]))):=(cy.upd (cy.upd (Zh.rq (Zh.refl H3)) (aZ ..)) (bM _ (aZ ..)));have Uy:=Ly.fZ (iq _ _ h6) (iq _ _ h8);have An:iE fm.ts R (lv ++ [l]) tg w ((lv ++ [l]) ++ [ks.map dup]) (tg ++ [w]):=by
    refine .tag hw K6 (λx=>?_) ?_
    ·rw[c9.mem_iff];exact cH x
    ·intro z;rw[z] at c9;have:S=[]:=ix.mp (by rw[<- c9.length_eq];rfl);rw[this] at cO;exact nomatch cO
   refine q2 _ _ _ kx (hR.move kx (hR.st.wQ kI An) (zs':=(zs' ++ [.ref pl]) ++ [.ref pc]) ?_ ?_ ?_) An
   ·rw[Zc rC];exact Za
   ·refine eY.snoc (hR.fresh ((s1.trans s2).free cQ)) (Ly _ _ (j8 npL LK) hp) (hz.keep Uy) ?_;exact(eY.keep (Zh.rq iq) (λb xs e=>iq _ _ e) h7).keep (Ly.less sW) Uy
   ·rw[Za,bP];rfl
theorem ZnY{m:List (List Key×V)}{S:List Pr}(h:m.map (·.1)=S.map L2.pK)(x:Pr)(v:V):(putK m (L2.pK x) v).map (·.1)=(if x∈S then S else S ++ [x]).map L2.pK:=by
 have inj:∀{a b:Pr},L2.pK a=L2.pK b->a=b:=λ{a b} e=>by
  obtain⟨a1,a2⟩:=a;obtain⟨b1,b2⟩:=b;injection e with e1 e2;injection e2 with e2 _;injection e1 with e1;injection e2 with e2;have e1:a1=b1:=e1;have e2:a2=b2:=e2;rw[e1,e2]
 cases hv:bj m (L2.pK x) with
 | none =>
  have hn:=O8 hv;have hx:x∉S:=λhx=>hn (by rw[h];exact a6.mpr ⟨x,hx,rfl⟩);rw[Cf v hv,ah hx,bP,bP,h];rfl
 | some y =>
  have hi:=P' hv;rw[h] at hi;obtain⟨z,hz,e⟩:=a6.mp hi;have e:=inj e;subst e;rw[aj hz,<- h];unfold putK;rw[ji,hv,aj (show(some y).isSome=true from rfl),gB];refine pQ λkv _=>?_;show(if kv.1=L2.pK z then(kv.1,v) else kv).1=kv.1
  split <;> rfl
set_option maxHeartbeats 4000000 in
theorem YT(B:∀x∈cj,mg x=none)(aF:iC K C)(oF:cZ P w K mg base C "ended" ["self"] 1 (yN C)) (oG:cZ P w K mg base C "ways_from" ["self","kind","tag"] 1 (yP C)) (F:bC K "take_end" "Reader.take_end" BZ f fd):aX P w K mg base bq 2 f fd ["self"] (Jh C):=by
 refine F.ok Zz (λvs H Q E h=>?_) (λaK A outer s H vs Q E hr h=>?_)
 ·obtain⟨a,L,T,ex,fm,R,lv,l,tg,rfl,_⟩:=h;rfl
 obtain⟨a,L,T,ex,fm,R,lv,l,tg,rfl,hR,lI,q1,q2⟩:=h;have bN:(A.deeper (pU (bw "Reader.take_end") (Zk BZ) s.heap.objs.size f aK)).units+1<cLine:=by have:=hr.un;lia
 obtain⟨dx,p,df,dw,ns,zs,h1,h2,h3,h4,h5,h6,h7,h8⟩:=id hR.ho;have n8:=hR.ok.n8;have kI:=hR.rk.qb hR.ok;refine⟨_,(Ze (Zt (i:=1) Zz.nd rfl (Or.inl rfl) (j6 oF hr (pv 0) aF.cls))
  (Ze (c6 (PW.pt (CV (zb (iH (dR (pv 0) rfl) (λ_=>rfl))) (CJ (zb (iH (pv 1) (λ_=>rfl))))))
   (Zg (ZD eJ))
   ZV)
  (Ze (Zt (i:=2) Zz.nd rfl (Or.inl rfl) (yX dX Br Bs yZ (dR (pv 0) rfl)))
  (Ze (Z2 (yX dX Br Bs yZ (dR (pv 0) rfl)))
  (Ze (Zt (i:=3) Zz.nd rfl (Or.inl rfl) PF)
  (Ze (c7 cN rfl (fc (ZR ZQ (dR (pv 0) rfl) (oq oh Zj) (λ_ _=>rfl))) (gJ rfl (Zo (Zm (i:=4) Zz.nd rfl (Or.inl rfl)) (Zo (Zm (i:=5) Zz.nd rfl (Or.inl rfl)) gi)))
   (Zg (c7 cN rfl (fc (vp oG hr (pv 0) aF.cls (Zb (pv 5) (Zb (pv 2) Zf)))) (gJ rfl (Zo (Zm (i:=6) Zz.nd rfl (Or.inl rfl)) (Zo (Zm (i:=7) Zz.nd rfl (Or.inl rfl)) gi)))
     (Zg (c6 (og (oi bN (pv 6) (pv 1)))
       (Zg (qu bN (pv 3) (gh (Zb (pv 4) (Zb (pv 7) Zf))) eJ rfl))
       ZV)))))
  (Ze (CL (Z0 (Y_ rfl) rfl (B "sorted" (by decide)) H_ (Zb (pv 3) Zf)) (CM (dR (pv 0) rfl) (oq oh Zj) set_list))
  (Zg (ZD eJ))))))))),?_⟩
 refine⟨_,rfl,a,dx,_,rfl,h1,rfl,a,L,T,ex,fm,R,lv,l,tg,rfl,hR,?_⟩;rintro de es H1 s1 S2 ⟨me,e1,ek⟩ zQ DB;refine⟨_,rfl,a,C,dx,_,_,rfl,s1 _ _ h1,aF.cls,aF.n5,rfl,_,.inl ⟨_,ag.of (s1 _ _ h8),rfl⟩,?_⟩;rcases xy tg with rfl|⟨ir,w,rfl⟩
 ·exact cA (cA (q1 H1 s1 (.inr ⟨rfl,.inl rfl⟩)))
 rw[xx] at *;have bt:(!((ir ++ [w]).map V.str).isEmpty)=true:=by
  rw[bP];cases ir <;> rfl
 rw[bt];refine b9 ⟨_,rfl,_,.inr (.inr ⟨me,e1,rfl⟩),?_⟩;have Ku:=nZ ek;cases me with
 | nil =>
  have:es=[]:=ix.mp Ku.symm;subst this;exact cA (q1 H1 s1 (.inr ⟨rfl,.inr λb hb=>nomatch (DB b).mpr hb⟩))
 | cons kv me =>
 refine b9 ?_;obtain⟨y,hy⟩:∃y,y∈es:=by
  cases es with
  | nil=>exact nomatch Ku
  | cons y es=>exact⟨y,aZ ..⟩
 generalize kv::me=m1 at e1 ek Ku;have K_:=hR.st.len;rw[aH,aH,cL,cL] at K_;rcases xy lv with rfl|⟨lv0,l1,rfl⟩
 ·rw[lX] at K_;lia
 rw[xx] at *;obtain⟨zs1,pl,xs,rfl,g1,g2,g3,g4⟩:=h7.last;obtain⟨du,lO,pF,rfl,f1,f2,f3,f4⟩:=g1.last;have b_:=hR.st.jn n8 (cb [l] (a9 lv0 (ao.mpr rfl)));have eO:=hR.st.bd l1 (cb [l] (a9 lv0 (ao.mpr rfl)));have fu:=f4.length;have rC:=hR.ne;have UG:a≠L:=λz=>by rw[z,h6] at h1;cases h1
 have UH:a≠T:=λz=>by rw[z,h8] at h1;cases h1
 have t8:=s1 _ _ h8;have NY:H1 T=some (.lst (ir.map V.str ++ [.str w])):=by
  rw[t8,bP];rfl
 refine⟨_,rfl,a,C,dx,_,_,rfl,s1 _ _ h1,aF.cls,aF.n5,rfl,.inl ⟨rfl,_,ag.of NY⟩,T,_,_,rfl,rfl,NY,yG _ _,?_⟩;rw[Fh];have k2:cy [L,T] H1 (upd H1 T (.lst (ir.map V.str))):=cy.upd (Zh.rq (Zh.refl H1)) (bM _ (aZ ..));have Vj:(upd H1 T (.lst (ir.map V.str))) T=some (.lst (ir.map V.str)):=Za;have Mf:(upd H1 T (.lst (ir.map V.str))) L=some (.lst ((du ++ [.ref lO]) ++ [.ref pl])):=by
  rw[Zc rC];exact s1 _ _ h6
 generalize upd H1 T (.lst (ir.map V.str))=H2 at k2 Vj Mf ⊢;refine⟨_,rfl,a,C,dx,_,_,rfl,k2 _ _ (j8 UG UH) (s1 _ _ h1),aF.cls,aF.n4,rfl,.inl ⟨rfl,_,ag.of Mf⟩,L,_,_,rfl,rfl,Mf,yG _ _,?_⟩;rw[Fh];have k3:cy [L,T] H1 (upd H2 L (.lst (du ++ [.ref lO]))):=cy.upd k2 (aZ ..);have A3:(upd H2 L (.lst (du ++ [.ref lO]))) T=some (.lst (ir.map V.str)):=by
  rw[Zc rC.symm];exact Vj
 have w_:(upd H2 L (.lst (du ++ [.ref lO]))) L=some (.lst (du ++ [.ref lO])):=Za;generalize upd H2 L (.lst (du ++ [.ref lO]))=H3 at k3 A3 w_ ⊢;have ur:cy [L,T] H H3:=λb o hb e=>k3 b o hb (s1 b o e);have Lw:=ur.fZ h6 h8;have mW:qg fm.n (lv0 ++ [l1]) ir:=⟨by rw[aH,cL] at K_ ⊢;lia,λx hx=>hR.st.ri x (cb _ hx),λx hx=>hR.st.bd x (cb _ hx)⟩;have SM:bT C H3 a L T ex fm R (lv0 ++ [l1]) ir:=hR.move ur mW w_ (eY.keep (ur.less sW) Lw g1) A3;have nde:de ∉ [L,T]:=j8 (λz=>by rw[z,s1 _ _ h6] at e1;cases e1) (λz=>by rw[z,s1 _ _ h8] at e1;cases e1);have e3:=k3 _ _ nde e1;have yh:=ur _ _ (λz=>f2 (sW _ z)) f3;have Gw:PL H3 pF l1:=f4.keep Lw;have a3:=ur _ _ (j8 UG UH) h1;refine λd hd=>?_;have s4:Zh H3 (upd H3 d (.dT [])):=Zh.new hd;refine⟨_,rfl,a,C,dx,_,_,rfl,s4 _ _ a3,aF.cls,aF.n4,rfl,1,rfl,L,_,-1,.ref lO,rfl,rfl,ag.of (s4 _ _ w_),sP _ _,lO,rfl,⟨_,ag.of (s4 _ _ yh)⟩,iG (K:=K) (a:=lO) (xs:=pF) (λi σ H4=>∃(v4 v5 v6 v7:Option V)(m:List (List Key×V))(S:List Pr),σ =[some (.ref a),some (.ref de),some (.str w),some (.ref d),v4,v5,v6,v7]/\Zh H3 H4/\H4 d=some (.dT m)/\m.map (·.1)=S.map L2.pK/\S.Nodup/\(∀p∈S,(0<=p.1/\p.1<fm.n)/\0<=p.2/\p.2<fm.n)/\∀x,x∈S↔BQ fm.ts R (l1.take i) l w x)
  ⟨none,none,none,none,[],[],rfl,s4,Za,rfl,pR,(λ_ h=>nomatch h),λx=>⟨λh=>(nomatch h),λ⟨_,_,h,_⟩=>(nomatch h)⟩⟩ ?_ ?_ ?_⟩
 ·rintro i σ H4 _ ⟨_,_,_,_,_,_,_,sm,_⟩;exact ag.of (sm _ _ yh)
 ·rintro i x σ H4 hx ⟨v4,v5,v6,v7,m,S,rfl,sm,hm,hk,cI,kC,cH⟩;obtain⟨tp,pr,x1,rfl,x2⟩:=Gw.get i x hx;have Zzg:=eO pr (bY x1);refine⟨tp,_,rfl,az.of (sm _ _ x2),rfl,_,_,rfl,_,_,rfl,rfl,?_⟩;refine⟨_,rfl,a,dx,_,rfl,sm _ _ a3,rfl,_,rfl,_,rfl,a,L,T,ex,fm,R,_,ir,pr.2,w,rfl,SM.same sm,λr ys H5 s5 e5 e6=>?_⟩;have jI:=sm.trans s5;have jD:=e6.length;refine⟨r,rfl,⟨_,ag.of e5⟩,iG (K:=K) (a:=r) (xs:=ys) (λj σ H6=>∃(v6 v7:Option V)(m:List (List Key×V))(S':List Pr),σ =[some (.ref a),some (.ref de),some (.str w),some (.ref d),some (.int pr.1),some (.int pr.2),v6,v7]/\Zh H3 H6/\(∀b o,b≠d->H5 b=some o->H6 b=some o)/\H6 d=some (.dT m)/\m.map (·.1)=S'.map L2.pK/\S'.Nodup/\(∀p∈S',(0<=p.1/\p.1<fm.n)/\0<=p.2/\p.2<fm.n)/\∀x,x∈S'↔x∈S\/∃p∈(cG R pr.2 w).take j,kY fm.ts l p.1/\(pr.1,p.2)=x)
   ⟨v6,v7,m,S,rfl,jI,(λb o _ h=>h),s5 _ _ hm,hk,cI,kC,λx=>⟨.inl,λz=>z.elim id λ⟨_,z,_⟩=>nomatch z⟩⟩ ?_ ?_ ?_⟩
  ·rintro j σ H6 _ ⟨_,_,_,_,_,_,kp,_⟩;refine ag.of (kp _ _ (λz=>?_) e5);rw[z,s5 _ _ hm] at e5;cases e5
  ·rintro j y σ H6 hy ⟨v6,v7,m6,S6,rfl,s6,kp,DS,zY,we,zX,Ab⟩;obtain⟨tq,pq,y1,rfl,y2⟩:=e6.get j y hy;have GH:=kp _ _ (λz=>by rw[z,s5 _ _ hm] at y2;cases y2) y2;have wu:=lc.mp (bY y1);have hl6:=HV n8 we zX;have ZDJ:m6.length=S6.length:=by have:=congrArg fA zY;simpa using this
   refine⟨tq,_,rfl,az.of GH,rfl,_,_,rfl,_,_,rfl,rfl,?_⟩;refine⟨_,rfl,_,rfl,de,_,rfl,dO.k (k:=aA pq.1) (s6 _ _ e3),_,rfl,?_⟩;rw[DI.has ek];by_cases c:pq.1∈es
   ·rw[aP c];refine cA ⟨_,rfl,_,rfl,_,rfl,by show(2:Nat)<=sizeLine;decide,λt jC=>?_⟩;have s7:Zh H6 (upd H6 t (.tup [V.int pr.1,V.int pq.2])):=Zh.new jC;have x7:(upd H6 t (.tup [V.int pr.1,V.int pq.2])) t=some (.tup ((L2.pK (pr.1,pq.2)).map kV)):=Za;generalize upd H6 t (.tup [V.int pr.1,V.int pq.2])=H7 at s7 x7 ⊢;refine⟨d,_,rfl,jk.t (k:=L2.pK (pr.1,pq.2)) (s7 _ _ DS) x7 (Zr (by lia)),?_⟩;refine⟨_,_,_,if(pr.1,pq.2)∈S6 then S6 else S6 ++ [(pr.1,pq.2)],rfl,(s6.trans s7).bA hd,λb o hb h=>by rw[Zc hb];exact s7 _ _ (kp b o hb h),Za,ZnY zY _ _,?_,?_,λx=>?_⟩
    ·split
     ·exact we
     ·rename_i dS
      exact xE.mpr ⟨we,MP _ _,λx hx y hy e=>dS (by rw[<- ao.mp hy,<- e];exact hx)⟩
    ·intro x hx;have nM:x∈S6\/x=(pr.1,pq.2):=by
      split at hx
      ·exact .inl hx
      ·rcases aS.mp hx with h|h
       ·exact .inl h
       ·exact .inr (ao.mp h)
     rcases nM with hx|rfl
     ·exact zX x hx
     ·exact⟨Zzg.1,(kI _ wu).2.2⟩
    ·have e9:x∈(if(pr.1,pq.2)∈S6 then S6 else S6 ++ [(pr.1,pq.2)])↔x∈S6\/x=(pr.1,pq.2):=by
      split
      ·rename_i h
       exact⟨.inl,λz=>z.elim id λz=>z ▸ h⟩
      ·rw[aS,ao]
     rw[e9,Ab,Zi y1];constructor
     ·rintro((h|⟨p,hp,z⟩)|rfl)
      ·exact .inl h
      ·exact .inr ⟨p,cb _ hp,z⟩
      ·exact .inr ⟨pq,a9 _ (ao.mpr rfl),(DB _).mp c,rfl⟩
     ·rintro(h|⟨p,hp,z⟩)
      ·exact .inl (.inl h)
      ·rcases aS.mp hp with hp|hp
       ·exact .inl (.inr ⟨p,hp,z⟩)
       ·rw[ao.mp hp] at z;exact .inr z.2.symm
   ·rw[bx c];refine b9 ⟨_,_,m6,S6,rfl,s6,kp,DS,zY,we,zX,λx=>?_⟩;rw[Ab,Zi y1];constructor
    ·rintro(h|⟨p,hp,z⟩)
     ·exact .inl h
     ·exact .inr ⟨p,cb _ hp,z⟩
    ·rintro(h|⟨p,hp,z⟩)
     ·exact .inl h
     ·rcases aS.mp hp with hp|hp
      ·exact .inr ⟨p,hp,z⟩
      ·rw[ao.mp hp] at z;exact absurd ((DB _).mpr z.1) c
  ·rintro σ H6 ⟨v6,v7,m6,S6,rfl,s6,kp,DS,zY,we,zX,Ab⟩;rw[jD,cU] at Ab;refine⟨_,_,_,_,m6,S6,rfl,s6,DS,zY,we,zX,λx=>?_⟩;rw[Ab,cH,Zi x1];constructor
   ·rintro(⟨n,i,h,z⟩|⟨p,hp,z1,rfl⟩)
    ·exact⟨n,i,cb _ h,z⟩
    ·exact⟨pr.2,p.1,a9 _ (ao.mpr rfl),lc.mp hp,z1⟩
   ·rintro⟨n,i,h,z1,z2⟩;rcases aS.mp h with h|h
    ·exact .inl ⟨n,i,h,z1,z2⟩
    ·have e:=ao.mp h;refine .inr ⟨(i,x.2),lc.mpr ?_,z2,?_⟩
     ·rw[<- e];exact z1
     ·rw[<- e]
 ·rintro σ H4 ⟨v4,v5,v6,v7,m,S,rfl,sm,hm,hk,cI,kC,cH⟩;rw[fu,cU] at cH;have vY:=HV n8 cI kC;have ZDI:m.length=S.length:=by have:=congrArg fA hk;simpa using this
  refine⟨_,rfl,d,m,S,rfl,hm,by lia,hk,λr ys ms T6 c9 eA bD=>?_⟩;have s5:Zh H4 (upd H4 r (.lst ys)):=Zh.new T6;have x5:(upd H4 r (.lst ys)) r=some (.lst ys):=Za;generalize upd H4 r (.lst ys)=H5 at s5 x5 ⊢;have jI:=sm.trans s5;have ixl:iS (du ++ [V.ref lO]).length (-1)=some du.length:=by
   rw[aH,cL];unfold iS;rw[ah (by decide),aj (by lia)]
   congr 1
   lia
  refine⟨_,rfl,a,C,dx,_,_,rfl,jI _ _ a3,aF.cls,aF.n4,rfl,1,rfl,L,_,-1,_,rfl,rfl,jI _ _ w_,ixl,?_⟩;have ZwX:(du ++ [V.ref lO]).set du.length (.ref r)=du ++ [.ref r]:=by
   rw[List.set_append_right _ _ (ax _),MW];rfl
  rw[ZwX];have K6:zm ms:=av.Qz.strict eA (c9.nodup_iff.mpr cI);have kK:H3 r=none:=sm.free T6;have nrL:r≠L:=λz=>by rw[z,w_] at kK;cases kK
  have nrT:r≠T:=λz=>by rw[z,A3] at kK;cases kK
  have kx:cy [L,T] H (upd H5 L (.lst (du ++ [.ref r]))):=cy.upd (λb o hb e=>jI _ _ (ur b o hb e)) (aZ ..);have Lz:cy [L,T] H5 (upd H5 L (.lst (du ++ [.ref r]))):=cy.upd (Zh.rq (Zh.refl H5)) (aZ ..);have Ep:=Lz.fZ (jI _ _ w_) (jI _ _ A3);have An:iE fm.ts R ((lv0 ++ [l1]) ++ [l]) (ir ++ [w]) SL (lv0 ++ [ms]) ir:=.fin ⟨y,(DB y).mp hy⟩ K6 λx=>by
   rw[c9.mem_iff];exact cH x
  refine q2 _ _ _ kx (hR.move kx (hR.st.wQ kI An) (zs':=du ++ [.ref r]) Za ?_ ?_) An
  ·refine eY.snoc (SM.fresh kK) (Lz _ _ (j8 nrL nrT) x5) ((bD.keep λb xs e=>s5 _ _ e).keep Ep) ?_;exact(eY.keep (ur.less sW) Lw f1).keep (λb o hb e=>Lz.less sW _ _ hb (jI _ _ e)) (λb xs e=>Ep _ _ (jI _ _ e))
  ·rw[Zc rC.symm];exact jI _ _ A3
set_option maxHeartbeats 1000000 in
theorem YR(B:∀x∈cj,mg x=none)(aF:iC K C)(oF:cZ P w K mg base C "ended" ["self"] 1 (yN C)) (F:bC K "ends_well" "Reader.ends_well" Hi f fd):aX P w K mg base bq 2 f fd ["self"] (IT C):=by
 refine F.ok YO (λvs H Q E h=>?_) (λaK A outer s H vs Q E hr h=>?_)
 ·obtain⟨a,L,T,ex,fm,R,lv,l,tg,rfl,_⟩:=h;rfl
 obtain⟨a,L,T,ex,fm,R,lv,l,tg,rfl,hR,q⟩:=h;obtain⟨dx,p,df,dw,ns,zs,h1,h2,h3,h4,h5,h6,h7,h8⟩:=id hR.ho;refine⟨_,(Zg (ZD (CB (Zm3 (dR (pv 0) rfl)) (yY (mx RA (Z0 Zji rfl (B "len" (by decide)) jT (Zb (j6 oF hr (pv 0) aF.cls) Zf)) Zj (ZK _)))))),?_⟩;refine⟨_,rfl,a,C,dx,_,_,rfl,h1,aF.cls,aF.n5,rfl,_,.inl ⟨_,ag.of h8,rfl⟩,?_⟩;cases tg with
 | cons t tg =>
  refine⟨false,rfl,?_⟩;exact b9 (q false H (Zh.refl H) ⟨λz=>(nomatch z),λz=>nomatch z.1⟩)
 | nil =>
  refine⟨true,rfl,?_⟩;refine cA ⟨_,rfl,a,dx,_,rfl,h1,rfl,a,L,T,ex,fm,R,lv,l,[],rfl,hR,?_⟩;rintro d yo H' s' hd ⟨m,hm,hk⟩ hl cH;refine⟨d,m,rfl,hm,_,0,rfl,rfl,?_⟩;have hlen:=nZ hk;refine q _ H' s' ?_;rw[fB];constructor
  ·intro h;refine⟨rfl,?_⟩;cases yo with
   | nil =>
    rw[hlen] at h;exact absurd h (by decide)
   | cons x xs=>exact⟨x,(cH x).mp (aZ ..)⟩
  ·rintro⟨_,x,hx⟩;have:=MK ((cH x).mpr hx);lia
set_option maxHeartbeats 2000000 in
theorem YK(B:∀x∈cj,mg x=none)(aF:iC K C)(oF:cZ P w K mg base C "ended" ["self"] 1 (yN C)) (F:bC K "goes_on" "Reader.goes_on" yF f fd):aX P w K mg base bq 2 f fd ["self"] (Jd C):=by
 refine F.ok BY (λvs H Q E h=>?_) (λaK A outer s H vs Q E hr h=>?_)
 ·obtain⟨a,L,T,ex,fm,R,lv,l,tg,rfl,_⟩:=h;rfl
 obtain⟨a,L,T,ex,fm,R,lv,l,tg,rfl,hR,q⟩:=h;have hu:(A.deeper (pU (bw "Reader.goes_on") (Zk yF) s.heap.objs.size f aK)).units+200<cLine:=by have:=hr.un;lia
 have bN:(A.deeper (pU (bw "Reader.goes_on") (Zk yF) s.heap.objs.size f aK)).units+1<cLine:=by have:=hr.un;lia
 obtain⟨dx,p,df,dw,ns,zs,h1,h2,h3,h4,⟨nw,m,D,w1,w2,w3,w4⟩,h6,h7,h8⟩:=id hR.ho;obtain⟨zs',pl,xs,rfl,g1,g2,g3,g4⟩:=h7.last;have qV:=hR.st.jn hR.ok.n8 (a9 lv (ao.mpr rfl));have fu:=g4.length;refine cut 1 (R:=λpG H1=>∃(fl:Addr)(w0:List Str)(v2 v3:Option V),pG=[some (.ref a),some (.ref fl),v2,v3]/\Zh H H1/\H fl=none/\H1 fl=some (.lst (w0.map V.str))/\w0.length<=1/\∀x,x∈w0↔x=SL/\tg ≠ []/\∃b,kY fm.ts l b) ?_ λu0 hu0 g0=>?_
 ·refine⟨_,(Ze (c7 cN rfl (fc (ZR ZQ (dR (pv 0) rfl) (oq oh Zj) (λ_ _=>rfl))) (gJ rfl (Zo (Zm (i:=2) BY.nd rfl (Or.inl rfl)) (Zo (Zm (i:=3) BY.nd rfl (Or.inl rfl)) gi)))
   (Zg (Z2 (ff dX W9 Xa (Ziw rfl) (pv 1) (Zb (Cn bN (dR (pv 0) rfl) (pv 3) mn ⟨rfl,rfl,rfl,rfl⟩) Zf)))))
  (Zg (ZD (B6 P5 rfl hu rfl (B "sorted" (by decide)) rfl (B "set" (by decide)) (Zb (pv 1) Zf))))),?_⟩
  rintro pG H1 ⟨fl,w0,v2,v3,rfl,s1,eS,e1,lK,oW⟩;have vQ:(fm.qs.map (·.2.1)).length<=60:=by rw[ar];exact hR.ok.ql
  refine⟨_,rfl,a,C,dx,_,_,rfl,s1 _ _ h1,aF.cls,aF.n4,rfl,1,rfl,L,_,-1,.ref pl,rfl,rfl,ag.of (s1 _ _ h6),sP _ _,pl,rfl,⟨_,ag.of (s1 _ _ g3)⟩,iG (K:=K) (a:=pl) (xs:=xs) (λi σ H2=>∃(v2 v3:Option V)(ws:List Str),σ =[some (.ref a),some (.ref fl),v2,v3]/\Zh H H2/\H2 fl=some (.lst (ws.map V.str))/\ws.length<=1+900*i/\∀x,x∈ws↔x∈w0\/∃p∈l.take i,∃i r,(p.2,x,i,r)∈R)
   ⟨v2,v3,w0,rfl,s1,e1,by lia,λx=>⟨.inl,λz=>z.elim id λ⟨_,z,_⟩=>nomatch z⟩⟩ ?_ ?_ ?_⟩
  ·rintro i σ H2 _ ⟨_,_,_,_,s2,_⟩;exact ag.of (s2 _ _ g3)
  ·rintro i x σ H2 hx ⟨v2,v3,ws,rfl,s2,e2,ip,Ad⟩;obtain⟨tp,pr,x1,rfl,x2⟩:=g4.get i x hx;have ik:=(cT.mp x1).1;refine⟨tp,_,rfl,az.of (s2 _ _ x2),rfl,_,_,rfl,_,_,rfl,rfl,?_⟩;refine⟨_,rfl,.inl ⟨rfl,_,ag.of e2⟩,_,rfl,a,C,dx,_,_,rfl,s2 _ _ h1,aF.cls,aF.n3,rfl,dw,rfl,.inl ⟨m,.inl (s2 _ _ w1)⟩,_,rfl,λd0 iO=>?_⟩;have t1:Zh H2 (upd H2 d0 (.dK [])):=Zh.new iO;have x3:(upd H2 d0 (.dK [])) d0=some (.dK []):=Za;generalize upd H2 d0 (.dK [])=H3 at t1 x3 ⊢;have s3:=s2.trans t1;refine⟨_,dO.k (k:=aA pr.2) (s3 _ _ w1),?_⟩;rw[w2];have fin:∀(d1:Addr)(mk:List (Key×V))(ts:List Str),H3 d1=some (.dK mk)->mk.map (·.1)=ts.map br->ts.length<=900->(∀t,t∈ts↔∃i r,(pr.2,t,i,r)∈R)->PJ (.ref fl) [.ref d1] H3 λv H'=>∃(v2 v3:Option V)(ws:List Str),[some (V.ref a),some (.ref fl),some (V.int pr.1),some (.int pr.2)] =[some (.ref a),some (.ref fl),v2,v3]/\Zh H H'/\H' fl=some (.lst (ws.map V.str))/\ws.length<=1+900*(i+1)/\∀x,x∈ws↔x∈w0\/∃p∈l.take (i+1),∃i r,(p.2,x,i,r)∈R:=by
    intro d1 mk ts b1 b2 b3 b4;have cO:mk.length=ts.length:=by have:=congrArg fA b2;simpa using this
    refine⟨fl,d1,_,mk,rfl,rfl,t1 _ _ e2,b1,(by have:=bB;rw[ar];lia),?_⟩;have ek:(mk.map λp=>kV p.1)=ts.map V.str:=by
     have:(mk.map λp=>kV p.1)=(mk.map (·.1)).map kV:=by rw[gB];rfl
     rw[this,b2,gB];rfl
    rw[ek];refine⟨_,_,ws++ts,rfl,s3.bA eS,by rw[Za,bP],by rw[aH];lia,λx=>?_⟩;rw[aS,Ad,b4,Zi x1];constructor
    ·rintro((h|⟨p,hp,z⟩)|z)
     ·exact .inl h
     ·exact .inr ⟨p,cb _ hp,z⟩
     ·exact .inr ⟨pr,a9 _ (ao.mpr rfl),z⟩
    ·rintro(h|⟨p,hp,z⟩)
     ·exact .inl (.inl h)
     ·rcases aS.mp hp with hp|hp
      ·exact .inl (.inr ⟨p,hp,z⟩)
      ·rw[ao.mp hp] at z;exact .inr z
   cases hD:D pr.2 with
   | none =>
    refine fin d0 [] [] x3 rfl (by decide) λt=>⟨λz=>(nomatch z),?_⟩
    rintro⟨i,r,z⟩;have:=lc (p:=(i,r)).mpr z;rw[w3 _ hD] at this;exact nomatch this
   | some a' =>
    obtain⟨n1,mk,ts,k1,k2,k3,k4⟩:=w4 _ a' hD;refine fin a' mk ts (s3 _ _ k1) k2 k3 λt=>?_;have hh:=KS.has k2 t;rcases k4 t with⟨e,ew⟩|⟨l',zs',e,_,_,_,e5⟩
    ·rw[e] at hh;have hn:t∉ts:=l_ hh.symm;refine⟨λz=>absurd z hn,?_⟩;rintro⟨i,r,z⟩;have:=lc (p:=(i,r)).mpr z;have ew:cG R pr.2 t=[]:=ew;rw[ew] at this;exact nomatch this
    ·rw[e] at hh;have hn:t∈ts:=bK hh.symm;have e5:cG R pr.2 t ≠ []:=e5;refine⟨λ_=>?_,λ_=>hn⟩;obtain⟨x,hx⟩:=List.exists_mem_of_ne_nil _ e5;exact⟨x.1,x.2,lc.mp hx⟩
  ·rintro σ H2 ⟨v2,v3,ws,rfl,s2,e2,ip,Ad⟩;rw[fu,cU] at Ad;have hD:∀k∈ws,k∈SL::fm.qs.map (·.2.1):=λk hk=>by
    rcases(Ad k).mp hk with h|⟨p,_,i,r,h⟩
    ·rw[((oW k).mp h).1];exact aZ ..
    ·exact bM _ (a6.mpr ⟨_,((hR.rk _).mp h).1,rfl⟩)
   refine⟨_,rfl,fl,SL::fm.qs.map (·.2.1),ws,rfl,ag.of e2,hD,by rw[bI];lia,λr ms ft eA TB=>?_⟩;refine q r ms _ (s2.bA (s2.free ft)) (s2.free ft) Za eA ?_ λx=>?_
   ·have cI:ms.Nodup:=eA.imp λ{a b} eu e=>by
     rw[e] at eu;exact absurd (bK eu) (MM _)
    have:=nX cI λx hx=>hD x ((TB x).mp hx);rw[bI] at this;lia
   ·rw[TB,Ad,oW];rfl
 ·refine⟨_,(Ze (Zt (i:=1) BY.nd rfl (Or.inl rfl) (Cj (PW.pt (mr (iH (dR (pv 0) rfl) (λ_=>rfl)) (qw (iH (j6 oF hr (pv 0) aF.cls) (λ_=>rfl))))) (Z9 (Zb jj Zf)) (Z9 Zf)))
  hu0),?_⟩
  refine⟨_,rfl,a,C,dx,_,_,rfl,h1,aF.cls,aF.n5,rfl,_,.inl ⟨_,ag.of h8,rfl⟩,?_⟩;cases tg with
  | nil =>
   refine b9 (b9 ⟨by decide,λfl eS=>g0 _ _ ⟨fl,[],_,_,rfl,Zh.new eS,eS,Za,by decide,λx=>⟨λz=>(nomatch z),λz=>absurd rfl z.2.1⟩⟩⟩)
  | cons t tg =>
   refine cA ⟨_,rfl,a,dx,_,rfl,h1,rfl,a,L,T,ex,fm,R,lv,l,_,rfl,hR,?_⟩;rintro d yo H' s' hd ⟨m',gZ,hk⟩ hl cH;refine⟨_,.inr (.inr ⟨m',gZ,rfl⟩),?_⟩;have hlen:=nZ hk;cases yo with
   | nil =>
    have:m'=[]:=ix.mp hlen;subst this;refine b9 ⟨by decide,λfl eS=>g0 _ _ ⟨fl,[],_,_,rfl,s'.trans (Zh.new eS),s'.free eS,Za,by decide,λx=>⟨λz=>(nomatch z),λ⟨_,_,b,hb⟩=>nomatch (cH b).mpr hb⟩⟩⟩
   | cons y ys =>
    cases m' with
    | nil=>exact nomatch hlen
    | cons z m' =>
     refine cA ⟨by decide,λfl eS=>g0 _ _ ⟨fl,[SL],_,_,rfl,s'.trans (Zh.new eS),s'.free eS,Za,by decide,λx=>⟨λz=>⟨ao.mp z,(λz=>nomatch z),y,(cH y).mp (aZ ..)⟩,λz=>ao.mpr z.1⟩⟩⟩
def Ig(C:Addr):Sp:=λvs H Q _=>∃(a L T:Addr)(ex:List Addr)(f:FQ)(R:List av.Qd)(lv:List (List Pr))(tg:List Str),vs=[.ref a]/\bT C H a L T ex f R lv tg/\Q (.int (tg.length:Int)) H
theorem Y7(B:∀x∈cj,mg x=none)(aF:iC K C)(F:bC K "height" "Reader.height" Hh f fd):aX P w K mg base bq 1 f fd ["self"] (Ig C):=by
 refine F.ok Y9 (λvs H Q E h=>?_) (λaK A outer s H vs Q E hr h=>?_)
 ·obtain⟨a,L,T,ex,fm,R,lv,tg,rfl,_⟩:=h;rfl
 obtain⟨a,L,T,ex,fm,R,lv,tg,rfl,hR,q⟩:=h;obtain⟨dx,p,df,dw,ns,zs,h1,h2,h3,h4,h5,h6,h7,h8⟩:=id hR.ho;refine⟨_,(Zg (ZD (Z0 ZP rfl (B "len" (by decide)) jT (Zb (dR (pv 0) rfl) Zf)))),?_⟩;refine⟨_,rfl,a,C,dx,_,_,rfl,h1,aF.cls,aF.n5,rfl,T,_,rfl,.inl (ag.of h8),?_⟩;rw[ar];exact q
def IJ(C:Addr):Sp:=λvs H Q _=>∃(a L T:Addr)(ex:List Addr)(f:FQ)(R:List av.Qd)(lv:List (List Pr))(tg:List Str),vs=[.ref a]/\bT C H a L T ex f R lv tg/\tg.length<=900/\∀(r:Addr)(zs:List V)(H':Hp),Zh H H'->H r=none->H' r=some (.lst zs)->iB (λp=>H p=none/\p≠r) H' zs lv->Q (.ref r) H'
set_option maxHeartbeats 1000000 in
theorem ZY(B:∀x∈cj,mg x=none)(aF:iC K C)(F:bC K "pile" "Reader.pile" Hy f fd):aX P w K mg base bq 1 f fd ["self"] (IJ C):=by
 refine F.ok Z_ (λvs H Q E h=>?_) (λaK A outer s H vs Q E hr h=>?_)
 ·obtain⟨a,L,T,ex,fm,R,lv,tg,rfl,_⟩:=h;rfl
 obtain⟨a,L,T,ex,fm,R,lv,tg,rfl,hR,lI,q⟩:=h;obtain⟨dx,p,df,dw,ns,zs,h1,h2,h3,h4,h5,h6,h7,h8⟩:=id hR.ho;have iR:=h7.length;have bu:=hR.st.len;refine⟨_,(Zg (ZD (yT (cl:=[]) ["level"] [] (fc (dR (pv 0) rfl)) (λ_ _ _ _=>(Zm (i:=0) wI rfl (Or.inl rfl))) (λ_ _ _ _=>(Z8 (Zp (K:=K) rfl) rfl (B "list" (by decide)) n_ (Zb (pv 0) Zf))) rfl rfl (by decide) rfl (by decide) (λ_ _ h=>nomatch h) (lj (by decide)) (λ_ _ h=>nomatch h) (λ_=>rfl)))),?_⟩
 refine⟨_,rfl,a,C,dx,_,_,rfl,h1,aF.cls,aF.n4,rfl,L,rfl,⟨_,ag.of h6⟩,λpc cQ=>B_ (K:=K) (a:=L) (p:=pc) (xs:=zs) (λi ys σ H2=>∃v0:Option V,σ =[v0]/\Zh H H2/\H2 pc=some (.lst ys)/\iB (λp=>H p=none/\p≠pc) H2 ys (lv.take i))
  ⟨none,rfl,Zh.new cQ,Za,.nil⟩ ?_ ?_ ?_⟩
 ·rintro i ys σ H2 _ ⟨v0,_,sm,h,_⟩;exact⟨ag.of (sm _ _ h6),h⟩
 ·rintro i ys x σ H2 hi hx ⟨v0,rfl,sm,hp,hz⟩;obtain⟨pl,xl,l,e1,rfl,_,e3,e4⟩:=iB.get (P:=λp=>p∉L::T::ex) h7 i x hx;have ZzH:=hz.length;refine⟨_,rfl,pl,_,rfl,.inl (ag.of (sm _ _ e3)),λpn gQ=>?_⟩;have s3:Zh H2 (upd H2 pn (.lst xl)):=Zh.new gQ;have UT:pn≠pc:=λz=>by rw[z,hp] at gQ;cases gQ
  refine⟨s3 _ _ hp,Zr (by rw[ZzH,iy];lia),CW.next hi ⟨_,rfl,(sm.trans s3).bA cQ,Za,?_⟩⟩
  rw[Zi e1];have kt:mG (upd H2 pn (.lst xl)) (upd (upd H2 pn (.lst xl)) pc (.lst (ys ++ [.ref pn]))):=iF (s3 _ _ hp);refine r8 (iB.keep (λb o hb e=>by rw[Zc hb.2];exact s3 _ _ e) (λb xs e=>kt _ _ (s3 _ _ e)) hz) ⟨pn,xl,rfl,⟨sm.free gQ,UT⟩,by rw[Zc UT];exact Za,(e4.keep λb xs e=>s3 _ _ (sm _ _ e)).keep kt⟩
 rintro ys σ H2 ⟨v0,rfl,sm,hp,hz⟩;rw[iR,cU] at hz;exact q pc ys H2 sm cQ hp hz
inductive dJ(ts:List Int)(R:List av.Qd):Int->List Str->Prop
 | nil {n:Int}:n∈ts->dJ ts R n []
 | cons {n i r:Int} {t:Str} {u v:List Str}:(n,t,i,r)∈R->dJ ts R i u->dJ ts R r v->dJ ts R n (t::(u++SL::v))
def qI(ts:List Int)(R:List av.Qd):List (List Pr)->List Str->Int->List Str->Prop
 | [],[],_,w=>w=[]
 | l1::ls,t::tg,b,w=>∃p1∈l1,∃r u v,(p1.2,t,b,r)∈R/\dJ ts R r u/\qI ts R ls tg p1.1 v/\w=SL::(u++v)
 | _,_,_,_=>False
def dc(ts:List Int)(R:List av.Qd)(l:List Pr)(ls:List (List Pr))(tg w:List Str):Prop := ∃p∈l,∃u v,dJ ts R p.2 u/\qI ts R ls tg p.1 v/\w=u++v
section
variable{ts:List Int}{R:List av.Qd}{l l1 l2:List Pr}{ls:List (List Pr)}{tg w:List Str}{t x:Str}
theorem Zny(hR:∀q∈R,q.2.1≠SL)(h2:∀p,p∈l2↔∃i,p=(i,i)/\u_ R l x i)(hx:x≠SL):dc ts R l2 (l::ls) (x::tg) w↔dc ts R l ls tg (x::w):=by
 constructor
 ·rintro⟨p,hp,u,_,hu,⟨p1,bo,r,u2,v,hq,lJ,hv,rfl⟩,rfl⟩;obtain⟨i,rfl,_⟩:=(h2 p).mp hp;exact⟨p1,bo,x::(u++SL::u2),v,.cons hq hu lJ,hv,by simp⟩
 ·rintro⟨p,hp,u,v,hu,hv,e⟩;cases hu with
  | nil hn =>
   rw[uN] at e;exfalso;cases ls with
   | nil =>
    cases tg with
    | nil =>
     have:v=[]:=hv;rw[this] at e;cases e
    | cons=>exact hv.elim
   | cons l1 ls =>
    cases tg with
    | nil=>exact hv.elim
    | cons t tg =>
     obtain⟨_,_,_,_,_,_,_,_,rfl⟩:=hv;injection e with e;exact hx e
  | @cons _ i r t u1 u2 hq h1 h3 =>
   have e':x::w=t::(u1++SL::(u2++v)):=by rw[e];simp
   injection e' with e1 e2;subst e1 e2;exact⟨(i,i),(h2 _).mpr ⟨i,rfl,p,hp,r,hq⟩,u1,_,h1,⟨p,hp,r,u2,v,hq,h3,hv,rfl⟩,rfl⟩
theorem Zni(hR:∀q∈R,q.2.1≠SL)(h2:∀p,p∈l2↔BQ ts R l1 l t p):dc ts R l2 ls tg w↔dc ts R l (l1::ls) (t::tg) (SL::w):=by
 constructor
 ·rintro⟨p,hp,u,v,hu,hv,rfl⟩;obtain⟨n,i,h1,hq,m,hm,hmt⟩:=(h2 p).mp hp;exact⟨(i,m),hm,[],_,.nil hmt,⟨(p.1,n),h1,p.2,u,v,hq,hu,hv,rfl⟩,rfl⟩
 ·rintro⟨p,hp,u,_,hu,⟨p1,bo,r,u2,v,hq,lJ,hv,rfl⟩,e⟩;cases hu with
  | nil hn =>
   rw[uN] at e;injection e with _ e;subst e;exact⟨(p1.1,r),(h2 _).mpr ⟨p1.2,p.1,bo,hq,p.2,hp,hn⟩,u2,v,lJ,hv,rfl⟩
  | cons fE h1 h3 =>
   rw[jP] at e;injection e with e;exact absurd e.symm (hR _ fE)
theorem P_:dc ts R l [] [] []↔∃b,kY ts l b:=by
 constructor
 ·rintro⟨p,hp,u,v,hu,hv,e⟩;have hv:v=[]:=hv;subst hv;rw[fN] at e;subst e;cases hu with
  | nil hn=>exact⟨p.1,p.2,hp,hn⟩
 ·rintro⟨b,n,h1,h2⟩;exact⟨(b,n),h1,[],[],.nil h2,rfl,rfl⟩
theorem ZkZ : ¬ dc ts R l (l1::ls) (t::tg) []:=by
 rintro⟨p,hp,u,_,hu,⟨p1,bo,r,u2,v,hq,lJ,hv,rfl⟩,e⟩;have:=congrArg fA e;simp at this
end
def mB(S:List Str->Prop)(w:List Str):Prop:=S w/\∀v,S v->aQ v w=false
theorem mB.one{S:List Str->Prop}{v w:List Str}(h1:mB S v)(h2:mB S w):v=w:=Zj1 (h2.2 _ h1.1) (h1.2 _ h2.1)
theorem vi(l xs ys:List Str):aQ (l++xs) (l++ys)=aQ xs ys:=by
 induction l with
 | nil=>rfl
 | cons t l ih =>
  rw[<- ih];have:=OG t (l++xs) (l++ys) []
  rwa [fN,fN] at this
theorem Iy{a b a0 b0:List Str}(h1:aQ a a0=false)(h2:aQ b b0=false):aQ (a++b) (a0++b0)=false:=by
 have e1:aQ (a++b) (a0++b)=aQ a a0:=by
  have:=OG SL a a0 b;have e:=vi [SL] (a++b) (a0++b);rw[<- this];exact e.symm
 exact qy (e1.trans h1) ((vi a0 b b0).trans h2)
def c5{α : Type}(R:V -> α -> Prop)(ab:List (Key×V))(l:List (Int × α)):Prop:=aN (λx e=>x.1=aA e.1/\R x.2 e.2) ab l
def a8{α : Type}(l:List (Int × α))(k:Int):Option α := (l.find? λx=>decide (x.1=k)).map (·.2)
def gk{α : Type}(l:List (Int × α))(k:Int)(x : α):List (Int × α):=if(l.find? λx=>decide (x.1=k)).isSome then l.map (λe=>if e.1=k then(e.1,x) else e) else l ++ [(k,x)]
section
variable{α : Type}{R R':V -> α -> Prop}{ab:List (Key×V)}{l:List (Int × α)}{k k':Int}{x : α}
theorem c5.length(h:c5 R ab l):ab.length=l.length:=cw h
theorem c5.keep(h:c5 R ab l)(k:∀v x,R v x->R' v x):c5 R' ab l:=aN.cM h λ_ _ r=>⟨r.1,k _ _ r.2⟩
theorem c5.get:∀{ab:List (Key×V)}{l:List (Int × α)},c5 R ab l->∀(i:Nat) x,ab[i]?= some x->∃e,l[i]?= some e/\x.1=aA e.1/\R x.2 e.2:=λh i x hx=>aN.qK h hx
theorem c5.find(k:Int):∀{ab:List (Key×V)}{l:List (Int × α)},c5 R ab l->(ab.find? (λx=>decide (x.1=aA k))=none/\l.find? (λx=>decide (x.1=k))=none)\/∃x e,ab.find? (λx=>decide (x.1=aA k))=some x/\l.find? (λx=>decide (x.1=k))=some e/\R x.2 e.2
 | _,_,.nil=>.inl ⟨rfl,rfl⟩
 | x::ab,e::l,.cons h t=>by
  by_cases z:e.1=k
  ·exact .inr ⟨x,e,uK (aP (by rw[h.1,z])),uK (aP z),h.2⟩
  ·rw[nj (by rw[h.1];exact λy=>z (Bt (bK y))),nj (by simpa using z)];exact c5.find k t
theorem c5.val(h:c5 R ab l)(k:Int):(a8 l k=none/\bj ab (aA k)=none)\/∃x v,a8 l k=some x/\bj ab (aA k)=some v/\R v x:=by
 unfold a8 bj;rcases h.find k with⟨h1,h2⟩|⟨x,e,h1,h2,h3⟩
 ·rw[h1,h2];exact .inl ⟨rfl,rfl⟩
 ·rw[h1,h2];exact .inr ⟨_,_,rfl,rfl,h3⟩
theorem c5.put(h:c5 R ab l){v:V}(hv:R v x):c5 R (putK ab (aA k) v) (gk l k x):=by
 have m:c5 R (ab.map λy=>if y.1=aA k then(y.1,v) else y) (l.map λy=>if y.1=k then(y.1,x) else y):=by
  induction h with
  | nil=>exact .nil
  | @cons a e ab l r t ih =>
   refine .cons ?_ ih;dsimp only;by_cases z:e.1=k
   ·rw[aj z,aj (by rw[r.1,z])];exact⟨r.1,hv⟩
   ·rw[ah z,ah (by rw[r.1];exact λy=>z (Bt y))];exact r
 have ha:ab.any (λkv=>decide (kv.1=aA k))=(l.find? λx=>decide (x.1=k)).isSome:=by
  have e:ab.any (λkv=>decide (kv.1=aA k))=(ab.find? λx=>decide (x.1=aA k)).isSome:=by
   rw[mY,List.find?_isSome,uH]
  rw[e];rcases h.find k with⟨h1,h2⟩|⟨y,e,h1,h2,_⟩ <;> rw[h1,h2] <;> rfl
 unfold putK gk;rw[ha]
 split
 ·exact m
 ·exact aN.app h (.cons ⟨rfl,hv⟩ .nil)
theorem nW:a8 (gk l k x) k'=if k'=k then some x else a8 l k':=by
 unfold gk
 split
 ·rename_i h
  unfold a8
  induction l with
  | nil=>cases h
  | cons e l ih =>
   rw[ck];by_cases z:e.1=k
   ·rw[aj z];by_cases z2:k'=k
    ·rw[aj z2,uK (by simpa[z2] using z)];rfl
    ·rw[ah z2,nj (by simpa using λy:e.1=k'=>z2 (y.symm.trans z)),nj (by simpa using λy:e.1=k'=>z2 (y.symm.trans z))];clear ih h
     induction l with
     | nil=>rfl
     | cons e' l ih =>
      rw[ck];by_cases z3:e'.1=k'
      ·rw[ah (λy=>z2 (z3.symm.trans y)),uK (by simpa using z3),uK (by simpa using z3)]
      ·have z4 : ¬ (if e'.1=k then(e'.1,x) else e').1=k':=by split <;> exact z3
       rw[nj (by simpa using z4),nj (by simpa using z3)];exact ih
   ·rw[ah z];by_cases z3:e.1=k'
    ·rw[uK (by simpa using z3),uK (by simpa using z3),ah (λy=>z (z3.trans y))]
    ·rw[nj (by simpa using z3),nj (by simpa using z3)];exact ih (by rw[nj (by simpa using z)] at h;exact h)
 ·rename_i h
  unfold a8;rw[List.find?_append];by_cases z2:k'=k
  ·rw[aj z2,z2];cases h1:l.find? (λx=>decide (x.1=k)) with
   | none=>simp
   | some e=>rw[h1] at h;exact absurd rfl h
  ·rw[ah z2];cases h1:l.find? (λx=>decide (x.1=k')) with
   | none =>
    have : ¬ k=k':=λy=>z2 y.symm;simp[this]
   | some e=>rfl
theorem Ce(h:a8 l k=some x):(k,x)∈l:=by
 obtain⟨e,he,rfl⟩:=dv.mp h;have h1:e.1=k:=bK (MH (p:=λy:Int × α=>decide (y.1=k)) he);rw[<- h1];exact Wl he
theorem qv(nd:(l.map (·.1)).Nodup)(h:(k,x)∈l):a8 l k=some x:=by
 unfold a8
 induction l with
 | nil=>cases h
 | cons e l ih =>
  rw[ck,rX] at nd;rcases aV.mp h with rfl|h
  ·simp
  ·rw[nj (by simpa using λz:e.1=k=>nd.1 (by rw[z];exact a6.mpr ⟨_,h,rfl⟩))];exact ih nd.2 h
theorem B':(gk l k x).map (·.1)=if(a8 l k).isSome then l.map (·.1) else l.map (·.1) ++ [k]:=by
 unfold gk a8;rw[FH]
 split
 ·rw[gB];exact pQ λe _=>by dsimp only[Function.comp];split <;> rfl
 ·rw[bP];rfl
theorem yJ(nd:(l.map (·.1)).Nodup):((gk l k x).map (·.1)).Nodup:=by
 rw[B']
 split
 ·exact nd
 ·rename_i h
  refine xE.mpr ⟨nd,by simp,λa ha b hb e=>h ?_⟩;obtain⟨y,hy,rfl⟩:=a6.mp ha;rw[ao] at hb;rw[<- hb,<- e,qv nd (show(y.1,y.2)∈l from hy)];rfl
end
def ou(H:Hp)(v:V)(ws:List Str):Prop := ∃l,v=.ref l/\H l=some (.lst (ws.map V.str))/\eZ ws
def Jr:Sp:=λvs H Q _=>∃(a r b:Addr)(xs:List V)(u w:List Str),vs=[.ref a,.ref r,.ref b]/\H a=some (.lst xs)/\H r=some (.lst (u.map V.str))/\H b=some (.lst (w.map V.str))/\u.length+w.length<=600/\xs.length<5000/\∀c,H c=none->Q .aD (upd (upd H c (.lst ((u++w).map V.str))) a (.lst (xs ++ [.ref c])))
theorem YX(B:∀x∈cj,mg x=none)(Cc:∃t:Tok,mg "MOST_WORDS" = some (.int 600 t)) (F:bC K "put_together" "put_together" Ht f fd):aX P w K mg base bq 1 f fd ["lists","row","words"] Jr:=by
 refine F.ok YZ (λvs H Q E h=>?_) (λaK A outer s H vs Q E hr h=>?_)
 ·obtain⟨a,r,b,xs,u,w,rfl,_⟩:=h;rfl
 obtain⟨a,r,b,xs,u,w,rfl,ha,ft,hb,hl,hx,q⟩:=h;obtain⟨t1,Zv2⟩:=Cc;refine⟨_,(Zg (c6 (PW.pt (mr (Zy Cv (pv 1) fS (ZK _)) (qw (Zy RD (Zx gc (Z0 ZP rfl (B "len" (by decide)) jT (Zb (pv 1) Zf)) (Z0 ZP rfl (B "len" (by decide)) jT (Zb (pv 2) Zf))) (Cr (v:=.int 600) rfl Zv2 ⟨_,rfl⟩) (ZK _)))))
   (Zg (Z2 (ff dX gC gD ZG (pv 0) (Zb (Zx ze (pv 1) (pv 2)) Zf))))
   ZV)),?_⟩
 refine⟨_,rfl,rfl,true,rfl,cA ?_⟩;refine⟨_,rfl,r,_,rfl,.inl (ag.of ft),_,rfl,b,_,rfl,.inl (ag.of hb),_,_,rfl,rfl,_,_,rfl,rfl,_,rfl,?_⟩;have hc:decide (((u.map V.str).length:Int)+((w.map V.str).length:Int)<=600)=true:=aP (by rw[ar,ar];lia);rw[hc];refine cA ?_;refine⟨_,rfl,.inl ⟨rfl,_,ag.of ha⟩,_,rfl,_,rfl,r,b,_,_,rfl,rfl,ft,hb,by rw[ar,ar,bB];lia,λc hc=>⟨a,xs,.ref c,rfl,rfl,?_,by rw[bB];lia,?_⟩⟩
 ·exact Zh.new hc _ _ ha
 ·rw[<- bP];exact q c hc
def ma(H0 H:Hp)(d:Addr)(m:List (Int×List Str)):Prop := ∃ab,H d=some (.dK ab)/\c5 (ou H0) ab m/\(m.map (·.1)).Nodup
abbrev oy(H:Hp)(d:Addr)(m:List (Int×List Str)):Prop:=ma H H d m
theorem ou.keep(s:∀b xs,H b=some (.lst xs)->H' b=some (.lst xs)){v:V}{ws:List Str}(h:ou H v ws):ou H' v ws:=by
 obtain⟨l,e,h1,h2⟩:=h;exact⟨l,e,s _ _ h1,h2⟩
variable{m:List (Int×List Str)}{d:Addr}
theorem oy.same(h:oy H d m)(s:Zh H H'):oy H' d m:=by
 obtain⟨ab,h1,h2,h3⟩:=h;exact⟨ab,s _ _ h1,h2.keep λ_ _=>ou.keep λb xs e=>s _ _ e,h3⟩
variable{H0:Hp}
theorem ma.here(h:ma H0 H d m)(s:Zh H0 H):oy H d m:=by
 obtain⟨ab,h1,h2,h3⟩:=h;exact⟨ab,h1,h2.keep λ_ _=>ou.keep λb xs e=>s _ _ e,h3⟩
theorem ma.val{H0 H:Hp}{d:Addr}{m:List (Int×List Str)}(h:ma H0 H d m)(k:Int):∃ab,H d=some (.dK ab)/\((a8 m k=none/\bj ab (aA k)=none)\/∃ws l,a8 m k=some ws/\bj ab (aA k)=some (.ref l)/\H0 l=some (.lst (ws.map V.str))/\eZ ws):=by
 obtain⟨ab,h1,h2,_⟩:=h;refine⟨ab,h1,?_⟩;rcases h2.val k with h3|⟨x,v,h3,h4,l,rfl,h5,h6⟩
 ·exact .inl h3
 ·exact .inr ⟨x,l,h3,h4,h5,h6⟩
def vH(l:List Pr)(m m':List (Int×List Str)):Prop:=(∀now w,a8 m' now=some w->∃b,(b,now)∈l/\a8 m b=some w)/\∀b now v,(b,now)∈l->a8 m b=some v->∃w,a8 m' now=some w/\aQ v w=false
theorem fg{b:Addr}{u:HO}(h1:H a=some o)(h2:H b=some u)(n:o≠u):a≠b:=λz=>by
 rw[z,h2] at h1;injection h1 with h1;exact n h1.symm
theorem CK:∀{zs:List V}{l:List Pr},PL H zs l->∀(i:Nat) z,zs[i]?= some z->∃p t,l[i]?= some p/\z=V.ref t/\H t=some (.tup [.int p.1,.int p.2]):=by
 intro zs l h i z e;obtain⟨p,e1,t,r⟩:=aN.qK h e;exact⟨p,t,e1,r⟩
variable{l:Addr}
theorem Iv{K:au}{cs:List Addr}{Q:VK}(hl:H l=some (.lst (cs.map V.ref)))(bt:cs ≠ [])(hp:aN (λc w=>H c=some (.lst (w.map V.str))/\eZ w) cs ws)
  (q:∀(i:Nat) c w H',cs[i]?= some c->ws[i]?= some w->Zh H H'->(∀v∈ws,aQ v w=false)->Q (.ref c) H'):vA K vv (.ref l) H Q:=by
 refine⟨l,cs.map V.ref,_,rfl,ag.of hl,by simpa using bt,λpm jz=>⟨PR (λi c w hc hw=>?_) (cw hp) jz,λx H' hx sm=>?_⟩⟩
 ·have h:=vz hp i c w hc hw;exact⟨h.2,λH1 sm Q hq=>⟨c,w,rfl,sm _ _ h.1,λr hr=>hq r c _ (Zh.new hr) hr (.inl ⟨_,h.1⟩) ⟨(Zh.new hr) _ _ (sm _ _ h.1),Za⟩⟩⟩
 ·obtain⟨i,c,w,rfl,hc,hw,hm⟩:=Pc (cw hp) hx;exact q i c w H' hc hw sm hm
def QN:Sp:=λvs H Q _=>∃(H0:Hp)(lv bh:Addr)(zs:List V)(l:List Pr)(m:List (Int×List Str)),vs=[.ref lv,.ref bh]/\H lv=some (.lst zs)/\PL H zs l/\l.length<=9000/\Zh H0 H/\ma H0 H bh m/\∀d m' H',Zh H H'->H d=none->ma H0 H' d m'->m'.length<=l.length->vH l m m'->Q (.ref d) H'
set_option maxHeartbeats 2000000 in
theorem ZgQ(B:∀x∈cj,mg x=none)(km:cx P w K mg base "rank_of_words" ["words"] 1 vv) (F:bC K "quickest" "quickest" n9 f fd):aX P w K mg base bq 3 f fd ["level","behind"] QN:=by
 refine F.ok yD (λvs H Q E h=>?_) (λaK A outer s H vs Q E hr h=>?_)
 ·obtain⟨H0,lv,bh,zs,l,m,rfl,_⟩:=h;rfl
 obtain⟨H0,lv,bh,zs,l,m,rfl,oV,p1,hl,LZ,hb,q⟩:=h;have hu:=oe hr;have bN:=vE hr;refine ZM ((Zn n9).drop 2) (Zg (ZD (pv 2))) (λu2 h2 e2=>?_);refine ZM ((bX ((bX ((Zn n9).getD 1 (.Pass ⟨0,0,0,0⟩))).getD 0 (.Pass ⟨0,0,0,0⟩))).drop 1) (Zg (qu bN (pv 2) (pv 4) (Ih km hr rfl rfl (B "min" (by decide)) rfl (Zb (Z9 (Zb (pv 5) (Zb (Cn bN (pv 2) (pv 4) (pv 5) ⟨rfl,rfl,rfl,rfl⟩) Zf))) Zf)) rfl)) (λZBl Zxq Zwz=>?_);refine ZM ((bX ((bX ((Zn n9).getD 1 (.Pass ⟨0,0,0,0⟩))).getD 0 (.Pass ⟨0,0,0,0⟩))).drop 0) (Ze (Zt (i:=5) yD.nd rfl (Or.inl rfl) (Je bN (pv 1) (pv 3) (λ_ _=>rfl))) Zxq) (λZEy Zxp Zwy=>?_);refine ZM ((bX ((Zn n9).getD 1 (.Pass ⟨0,0,0,0⟩))).drop 0) (Zg (c6 (og (oi bN (pv 3) (pv 1)))
   Zxp
   ZV)) (λVf J_ JJ=>?_)
 refine ZM ((Zn n9).drop 1) (Ze (c7 cN rfl (fc (pv 0)) (gJ rfl (Zo (Zm (i:=3) yD.nd rfl (Or.inl rfl)) (Zo (Zm (i:=4) yD.nd rfl (Or.inl rfl)) gi)))
   J_) h2) (λu1 h1 e1=>?_)
 refine ZM ((Zn n9).drop 0) (Ze (Zt (i:=2) yD.nd rfl (Or.inl rfl) mn) h1) (λu0 h0 e0=>?_);refine⟨u0,h0,?_⟩;refine ZL e0 ?_;intro d hd;show u1 _ _ _;have dq:∀(H1:Hp)(y3 y4 y5:Option V)(m':List (Int×List Str)),Zh H H1->ma H0 H1 d m'->m'.length<=l.length->vH l m m'->u2 { nx:=λ_ H'=>Q .aD H',rt:=Q } [some (.ref lv),some (.ref bh),some (.ref d),y3,y4,y5] H1:=by
  intro H1 y3 y4 y5 m' s cg sD hq;refine ZL e2 ?_;exact⟨_,rfl,q d m' H1 s hd cg sD hq⟩
 refine ZL e1 ?_;have s0:Zh H (upd H d (.dK [])):=Zh.new hd;refine⟨_,rfl,lv,rfl,⟨_,ag.of (s0 _ _ oV)⟩,iG (K:=K) (a:=lv) (xs:=zs) (λj σ H1=>∃(y3 y4 y5:Option V)(m':List (Int×List Str)),σ =[some (.ref lv),some (.ref bh),some (.ref d),y3,y4,y5]/\Zh H H1/\ma H0 H1 d m'/\m'.length<=j/\vH (l.take j) m m')
  ⟨none,none,none,[],rfl,s0,⟨[],Za,.nil,pR⟩,ax _,⟨λ_ _ h=>(nomatch h),λ_ _ _ h=>(nomatch h)⟩⟩ ?_ ?_ ?_⟩
 ·rintro j σ H1 _ ⟨_,_,_,_,_,s1,_⟩;exact ag.of (s1 _ _ oV)
 ·rintro j x σ H1 hx ⟨y3,y4,y5,m',rfl,s1,eO,b_,ez⟩;obtain⟨p,t,mQ,rfl,ht⟩:=CK p1 j x hx;refine⟨t,_,rfl,az.of (s1 _ _ ht),rfl,_,_,rfl,_,_,rfl,rfl,?_⟩;refine ZL JJ ?_;have pA:=LZ.trans s1;obtain⟨ab,hk0,alt⟩:=hb.val p.1;have hk:=s1 _ _ hk0;refine⟨_,rfl,_,rfl,bh,_,rfl,dO.k (k:=aA p.1) hk,_,rfl,?_⟩;rcases alt with⟨g1,g2⟩|⟨ws,lw,g1,g2,g3,g4⟩
  ·rw[g2];refine b9 ⟨_,_,_,m',rfl,s1,eO,FC b_,λnow w hg=>?_,λb now v hm hg=>?_⟩
   ·obtain⟨b,h1,h2⟩:=ez.1 now w hg;exact⟨b,by rw[Zi mQ];exact cb _ h1,h2⟩
   ·rw[Zi mQ] at hm;rcases aS.mp hm with hm|hm
    ·exact ez.2 b now v hm hg
    ·have e:=ao.mp hm;rw[<- e] at g1;dsimp only at g1;rw[g1] at hg;cases hg
  ·rw[g2];refine cA ?_;have DO:=(cT.mp mQ).1;refine ZL Zwy ?_;refine⟨_,rfl,_,rfl,bh,.ref lw,rfl,by rw[<- g2];exact dO.k (k:=aA p.1) hk,?_⟩;show ZBl _ _ _;obtain⟨o7,t5,ZvY⟩:=eO.val p.2;obtain⟨GB,NT,qT,cI⟩:=id eO;obtain rfl:GB=o7:=by
    rw[t5] at NT;injection NT with z;injection z with z;exact z.symm
   obtain⟨lo,wo,dm,cJ,TM,TN⟩:∃lo wo,(bj GB (aA p.2)).getD (.ref lw)=.ref lo/\H0 lo=some (.lst (wo.map V.str))/\eZ wo/\(wo=ws/\a8 m' p.2=none\/a8 m' p.2=some wo):=by
    rcases ZvY with⟨z1,z2⟩|⟨wo,lo,z1,z2,z3,z4⟩
    ·exact⟨lw,ws,by rw[z2];rfl,g3,g4,.inl ⟨rfl,z1⟩⟩
    ·exact⟨lo,wo,by rw[z2];rfl,z3,z4,.inr z1⟩
   refine ZL Zwz ?_;refine⟨_,rfl,_,rfl,d,rfl,.inl ⟨_,.inl t5⟩,_,rfl,_,rfl,_,dO.k (k:=aA p.2) t5,?_⟩;rw[dm];refine⟨by show(2:Nat)<=sizeLine;decide,λlm oU=>?_⟩;have s2:Zh H1 (upd H1 lm (.lst [.ref lw,.ref lo])):=Zh.new oU;refine Iv (cs:=[lw,lo]) (ws:=[ws,wo]) Za (by simp) (.cons ⟨s2 _ _ (pA _ _ g3),g4⟩ (.cons ⟨s2 _ _ (pA _ _ cJ),TM⟩ .nil)) λi c wm H3 hc hw s3 kG=>?_;have rH:=s2.trans s3;have aY:H0 c=some (.lst (wm.map V.str))/\eZ wm:=by
    match i,hc,hw with
    | 0,hc,hw =>
     injection hc with hc;injection hw with hw;subst hc hw;exact⟨g3,g4⟩
    | 1,hc,hw =>
     injection hc with hc;injection hw with hw;subst hc hw;exact⟨cJ,TM⟩
   have Ef:wm=ws\/a8 m' p.2=some wm:=by
    have:wm ∈ [ws,wo]:=bY hw;simp only[aV,ny,p5] at this;rcases this with rfl|rfl
    ·exact .inl rfl
    ·rcases TN with⟨z,_⟩|z
     ·exact .inl z
     ·exact .inr z
   have ZyS:aQ ws wm=false:=kG ws (by simp);have ZyT:∀v,a8 m' p.2=some v->aQ v wm=false:=λv hv=>by
    rcases TN with⟨_,z⟩|z
    ·rw[z] at hv;cases hv
    ·rw[z] at hv;injection hv with hv;rw[<- hv];exact kG wo (by simp)
   have hlen:GB.length=m'.length:=qT.length;refine⟨_,rfl,_,rfl,d,_,rfl,jk.k (k:=aA p.2) (rH _ _ t5) (by rw[hlen,bB];lia),_,_,_,gk m' p.2 wm,rfl,λb o e=>?_,⟨_,Za,?_,yJ cI⟩,?_,λnow w hg=>?_,λb now v hm hg=>?_⟩
   ·rw[Zc (λz=>by rw[z,hd] at e;cases e)];exact rH _ _ (s1 _ _ e)
   ·exact qT.put ⟨c,rfl,aY.1,aY.2⟩
   ·have:=congrArg fA (B' (l:=m') (k:=p.2) (x:=wm));rw[ar] at this;rw[this]
    split
    ·rw[ar];lia
    ·rw[aH,ar];exact Fz b_ 1
   ·have hold:∀{b},(b,now)∈l.take j->(b,now)∈l.take (j+1):=λh=>by
     rw[Zi mQ];exact cb _ h
    rw[nW] at hg
    split at hg
    ·rename_i e
     injection hg with hg;subst hg;rcases Ef with z|z
     ·exact⟨p.1,by rw[Zi mQ,e];exact a9 _ (ao.mpr rfl),by rw[z];exact g1⟩
     ·obtain⟨b,h1,h2⟩:=ez.1 p.2 wm z;subst e;exact⟨b,hold h1,h2⟩
    ·obtain⟨b,h1,h2⟩:=ez.1 now w hg;exact⟨b,hold h1,h2⟩
   ·rw[nW];rw[Zi mQ] at hm;rcases aS.mp hm with hm|hm
    ·obtain⟨w,h1,h2⟩:=ez.2 b now v hm hg
     split
     ·rename_i e
      subst e;exact⟨wm,rfl,qy h2 (ZyT w h1)⟩
     ·exact⟨w,h1,h2⟩
    ·have e:=ao.mp hm;subst e;rw[aj rfl];dsimp only at g1;rw[g1] at hg;injection hg with hg;exact⟨wm,rfl,by rw[<- hg];exact ZyS⟩
 ·rintro σ H1 ⟨y3,y4,y5,m',rfl,s1,eO,b_,ez⟩;rw[cw p1] at b_ ez;rw[cU] at ez;exact dq H1 _ _ _ m' s1 eO b_ ez
def mi(H0 H:Hp)(v:V)(ws:List (List Str)):Prop := ∃(l:Addr)(cs:List Addr),v=.ref l/\H l=some (.lst (cs.map V.ref))/\H0 l=none/\ws ≠ []/\aN (λc w=>H c=some (.lst (w.map V.str))/\eZ w) cs ws
def vI(H0 H:Hp)(d:Addr)(g:List (Int×List (List Str))):Prop := ∃ab,H d=some (.dK ab)/\c5 (mi H0 H) ab g/\(g.map (·.1)).Nodup/\(ab.map (·.2)).Nodup
theorem mi.keep(s:∀b xs,H b=some (.lst xs)->H' b=some (.lst xs)){v:V}{ws:List (List Str)}(h:mi H0 H v ws):mi H0 H' v ws:=by
 obtain⟨l,cs,h1,h2,h3,h4,h5⟩:=h;exact⟨l,cs,h1,s _ _ h2,h3,h4,aN.cM h5 λ_ _ r=>⟨s _ _ r.1,r.2⟩⟩
theorem vI.keep{H0 H H':Hp}{d:Addr}{g:List (Int×List (List Str))}(h:vI H0 H d g)(s1:∀o,H d=some o->H' d=some o)(s2:∀b xs,H b=some (.lst xs)->H' b=some (.lst xs)):vI H0 H' d g:=by
 obtain⟨ab,h1,h2,h3,h4⟩:=h;exact⟨ab,s1 _ h1,h2.keep λ_ _=>mi.keep s2,h3,h4⟩
def Ri(H:Hp)(a:Addr)(lw:Int->List Str)(R:List av.Qd):Prop := ∃zs,H a=some (.lst zs)/\∀q∈R,∃l,fH zs q.2.2.2=some (.ref l)/\H l=some (.lst ((lw q.2.2.2).map V.str))/\eZ (lw q.2.2.2)
def RK(R:List av.Qd)(lw:Int->List Str)(t:Str)(m m':List (Int×List Str)):Prop:=(∀i w,a8 m' i=some w->∃k r v,a8 m k=some v/\(k,t,i,r)∈R/\w=SL::(lw r++v))/\∀k r v i,a8 m k=some v->(k,t,i,r)∈R->∃w,a8 m' i=some w/\aQ (SL::(lw r++v)) w=false
def ow(R:List av.Qd)(lw:Int->List Str)(t:Str)(m:List (Int×List Str))(Dn:Int->Int->Int->Prop)(g:List (Int×List (List Str))):Prop:=(∀i ws,a8 g i=some ws->∀x∈ws,∃k r v,a8 m k=some v/\(k,t,i,r)∈R/\x=lw r++v)/\∀k i r v,Dn k i r->a8 m k=some v->(k,t,i,r)∈R->∃ws,a8 g i=some ws/\lw r++v∈ws
def qm(n:Nat)(g:List (Int×List (List Str))):Prop:=g.length<=n/\∀i ws,a8 g i=some ws->ws.length<=n
section
variable{R:List av.Qd}{lw:Int->List Str}{t:Str}{m:List (Int×List Str)}{Dn NK:Int->Int->Int->Prop}{g:List (Int×List (List Str))}{k i r:Int}{v:List Str}{ws:List (List Str)}{n:Nat}
theorem ow.mono(h:ow R lw t m Dn g)(d:∀k i r,(k,t,i,r)∈R->NK k i r->Dn k i r):ow R lw t m NK g:=⟨h.1,λk i r v z hm hq=>h.2 k i r v (d _ _ _ hq z) hm hq⟩
theorem ow.put(h:ow R lw t m Dn g)(hm:a8 m k=some v)(hq:(k,t,i,r)∈R)(old:a8 g i=some ws\/a8 g i=none/\ws=[]):ow R lw t m (λk' i' r'=>Dn k' i' r'\/k'=k/\i'=i/\r'=r) (gk g i (ws ++ [lw r++v])):=by
 refine⟨λi' fF hg x hx=>?_,λk' i' r' v' hd gZ fE=>?_⟩
 ·rw[nW] at hg
  split at hg
  ·rename_i e
   subst e;injection hg with hg;rw[<- hg] at hx;rcases aS.mp hx with hx|hx
   ·rcases old with z|⟨_,z⟩
    ·exact h.1 _ _ z x hx
    ·rw[z] at hx;cases hx
   ·exact⟨k,r,v,hm,hq,ao.mp hx⟩
  ·exact h.1 _ _ hg x hx
 ·rw[nW];rcases hd with hd|⟨rfl,rfl,rfl⟩
  ·obtain⟨fF,h1,h2⟩:=h.2 k' i' r' v' hd gZ fE
   split
   ·rename_i e
    subst e;refine⟨_,rfl,cb _ ?_⟩;rcases old with z|⟨z,_⟩
    ·rw[h1] at z;injection z with z;rw[<- z];exact h2
    ·rw[h1] at z;cases z
   ·exact⟨fF,h1,h2⟩
  ·rw[aj rfl];rw[hm] at gZ;injection gZ with gZ;exact⟨_,rfl,a9 _ (ao.mpr (by rw[gZ]))⟩
theorem qm.put{x:List Str}(h:qm n g)(old:a8 g i=some ws\/a8 g i=none/\ws=[]):qm (n+1) (gk g i (ws ++ [x])):=by
 constructor
 ·have:=congrArg fA (B' (l:=g) (k:=i) (x:=ws ++ [x]));rw[ar] at this;rw[this]
  split
  ·rw[ar];exact FC h.1
  ·rw[aH,ar];exact Fz h.1 1
 ·intro i' fF hg;rw[nW] at hg
  split at hg
  ·injection hg with hg;rw[<- hg,aH];rcases old with z|⟨_,z⟩
   ·exact Fz (h.2 _ _ z) 1
   ·rw[z];exact Nat.le_add_left 1 n
  ·exact FC (h.2 _ _ hg)
theorem qm.le{n':Nat}(h:qm n g)(hn:n<=n'):qm n' g:=⟨cm h.1 hn,λi ws e=>cm (h.2 i ws e) hn⟩
end
theorem HY{α β : Type}{f : α -> β}:∀{l:List α},(l.map f).Nodup->∀{a b : α},a∈l->b∈l->f a=f b->a=b
 | x::l,h,a,b,ha,hb,e=>by
  rw[ck,rX] at h;rcases aV.mp ha with ea|Ds
  ·rcases aV.mp hb with eb|Ki
   ·rw[ea,eb]
   ·exact absurd (a6.mpr ⟨b,Ki,by rw[<- ea,e]⟩) h.1
  ·rcases aV.mp hb with eb|Ki
   ·exact absurd (a6.mpr ⟨a,Ds,by rw[e,eb]⟩) h.1
   ·exact HY h.2 Ds Ki e
section
variable{α : Type}{F F':V -> α -> Prop}{ab:List (Key×V)}{l:List (Int × α)}{k:Int}{x : α}{v:V}
theorem c5.keys(h:c5 F ab l):ab.map (·.1)=(l.map (·.1)).map aA:=by
 induction h with
 | nil=>rfl
 | cons r t ih=>rw[ck,ck,ck,r.1,ih]
theorem c5.knd(h:c5 F ab l)(nd:(l.map (·.1)).Nodup):(ab.map (·.1)).Nodup:=by
 rw[h.keys];exact ZB8 _ (λa b n e=>n (Bt e)) nd
theorem c5.chg(h:c5 F ab l)(nd:(l.map (·.1)).Nodup)(nv:(ab.map (·.2)).Nodup)(hv:bj ab (aA k)=some v)(hx:F' v x)(hk:∀w y,F w y->w≠v->F' w y):c5 F' ab (gk l k x):=by
 obtain⟨p,hp,rfl⟩:=dv.mp (show(ab.find? λkv=>decide (kv.1=aA k)).map (·.2)=some v from hv);have h1:p.1=aA k:=bK (MH (p:=λy:Key×V=>decide (y.1=aA k)) hp);have h2:=Wl hp;have hA:∀q∈ab,q.1=aA k↔q.2=p.2:=λq hq=>⟨λe=>by rw[HY (h.knd nd) hq h2 (e.trans h1.symm)],λe=>by rw[HY nv hq h2 e];exact h1⟩;have m:∀{ab:List (Key×V)}{l:List (Int × α)},c5 F ab l->(∀q∈ab,q.1=aA k↔q.2=p.2)->c5 F' ab (l.map λe=>if e.1=k then(e.1,x) else e):=by
  intro ab l h hA
  induction h with
  | nil=>exact .nil
  | @cons a e ab l r t ih =>
   refine .cons ?_ (ih λq hq=>hA q (bM _ hq));have ha:=hA a (aZ ..);dsimp only;by_cases z:e.1=k
   ·rw[aj z];exact⟨r.1,by rw[ha.mp (by rw[r.1,z])];exact hx⟩
   ·rw[ah z];exact⟨r.1,hk _ _ r.2 λe=>z (Bt (r.1.symm.trans (ha.mpr e)))⟩
 unfold gk;rw[aj ?_]
 ·exact m h hA
 ·rcases h.find k with⟨z,_⟩|⟨_,_,_,z,_⟩
  ·rw[z] at hp;cases hp
  ·rw[z];rfl
end
theorem Iw{w:List Str}{cs:List Addr}(h:w.map V.str=cs.map V.ref):cs=[]:=by
 cases cs with
 | nil=>rfl
 | cons c cs =>
  cases w with
  | nil=>cases h
  | cons x w =>
   injection h with h;cases h
theorem mi.move{cs:List Addr}{v:V}(h:mi H0 H v ws)(k:∀b o,b≠l->H b=some o->H' b=some o)(hl:H l=some (.lst (cs.map V.ref)))(ne:cs ≠ [])(n:v ≠ .ref l):mi H0 H' v ws:=by
 obtain⟨l',fO,rfl,h2,h3,h4,h5⟩:=h;refine⟨l',fO,rfl,k _ _ (λz=>n (by rw[z])) h2,h3,h4,aN.cM h5 λc w r=>⟨k _ _ (λz=>?_) r.1,r.2⟩⟩;have r1:=r.1;rw[z,hl] at r1;injection r1 with r1;injection r1 with r1;exact ne (Iw r1.symm)
def ZoZ(g:List (Int×List (List Str)))(m':List (Int×List Str)):Prop:=(∀k w,a8 m' k=some w->∃ws x,(k,ws)∈g/\x∈ws/\w=SL::x)/\∀k ws,(k,ws)∈g->∃x,a8 m' k=some (SL::x)/\∀y∈ws,aQ y x=false
def IW(C:Addr):Sp:=λvs H Q _=>∃(H0:Hp)(a rr bh L T:Addr)(ex:List Addr)(f:FQ)(R:List av.Qd)(lv:List (List Pr))(tg:List Str)(t:Str)(lw:Int->List Str)(m:List (Int×List Str)),vs=[.ref a,.ref rr,.ref bh,.str t]/\bT C H0 a L T ex f R lv tg/\Zh H0 H/\H0 bh=none/\Ri H rr lw R/\oy H bh m/\R.length<=70/\m.length<=70/\(∀q∈R,∀k v,a8 m k=some v->(lw q.2.2.2).length+v.length<=600) /\
 ∀d m' H',Zh H H'->H d=none->oy H' d m'->m'.length<=5000->RK R lw t m m'->Q (.ref d) H'
set_option maxHeartbeats 4000000 in
theorem YJ(B:∀x∈cj,mg x=none)(aF:iC K C)(oG:cZ P w K mg base C "ways_from" ["self","kind","tag"] 1 (yP C)) (vM:cx P w K mg base "put_together" ["lists","row","words"] 1 Jr) (km:cx P w K mg base "rank_of_words" ["words"] 1 vv) (F:bC K "behind_inner" "Reader.behind_inner" Zq f fd):aX P w K mg base bq 3 f fd ["self","rows","behind","tag"] (IW C):=by
 refine F.ok Zu (λvs H Q E h=>?_) (λaK A outer s H vs Q E hr h=>?_)
 ·obtain⟨H0,a,rr,bh,L,T,ex,f,R,lv,tg,t,lw,m,rfl,_⟩:=h;rfl
 obtain⟨H0,a,rr,bh,L,T,ex,f,R,lv,tg,t,lw,m,rfl,hA,s0,Kl,Kc,hB,Dm,uc,Ss,q⟩:=h;have hu:=oe hr;have bN:=vE hr;refine ZM ((Zn Zq).drop 4) (Zg (ZD (pv 9))) (λu4 h4 e4=>?_);refine ZM ((bX ((Zn Zq).getD 3 (.Pass ⟨0,0,0,0⟩))).drop 0) (Zg (c6 (iH (Je bN (pv 4) (pv 7) (λ_ _=>rfl)) (λ_=>rfl))
   (Zg (qu bN (pv 9) (pv 7) (Zx ze (Z9 (Zb jj Zf)) (Ih km hr rfl rfl (B "min" (by decide)) rfl (Zb (Je bN (pv 4) (pv 7) (λ_ _=>rfl)) Zf))) rfl))
   ZV)) (λMb Ka JK=>?_)
 refine ZM ((Zn Zq).drop 3) (Ze (Cq (c7 cN rfl (Qt (pv 4)) (Zm (i:=7) Zu.nd rfl (Or.inl rfl))
   Ka)) h4) (λu3 h3 e3=>?_)
 refine ZM ((Zn Zq).drop 2) (Ze (Zt (i:=9) Zu.nd rfl (Or.inl rfl) mn) h3) (λu2 h2 e2=>?_);refine ZM ((bX ((bX ((Zn Zq).getD 1 (.Pass ⟨0,0,0,0⟩))).getD 0 (.Pass ⟨0,0,0,0⟩))).drop 0) (Zg (Z2 (c8 vM hr rfl (Zb (Ir (pv 4) (pv 7) (Z9 Zf) ⟨rfl,rfl,rfl,rfl⟩) (Zb (ZR ZQ (pv 1) (pv 8) (λ_ _=>rfl)) (Zb (pv 6) Zf)))))) (λZBk Zxo Zwx=>?_);refine ZM ((bX ((Zn Zq).getD 1 (.Pass ⟨0,0,0,0⟩))).drop 0) (Zg (c7 cN rfl (fc (vp oG hr (pv 0) aF.cls (Zb (pv 5) (Zb (pv 3) Zf)))) (gJ rfl (Zo (Zm (i:=7) Zu.nd rfl (Or.inl rfl)) (Zo (Zm (i:=8) Zu.nd rfl (Or.inl rfl)) gi)))
   Zxo)) (λVf J_ JJ=>?_)
 refine ZM ((Zn Zq).drop 1) (Ze (Cq (c7 cN rfl (OZ (pv 2)) (gJ rfl (Zo (Zm (i:=5) Zu.nd rfl (Or.inl rfl)) (Zo (Zm (i:=6) Zu.nd rfl (Or.inl rfl)) gi)))
   J_)) h2) (λu1 h1 e1=>?_)
 refine ZM ((Zn Zq).drop 0) (Ze (Zt (i:=4) Zu.nd rfl (Or.inl rfl) mn) h1) (λu0 h0 e0=>?_);refine⟨u0,h0,?_⟩;refine ZL e0 ?_;intro d hd;show u1 _ _ _;obtain⟨wF,z6,qT,cI⟩:=id hB;have zK:wF.length=m.length:=qT.length;have eR:d≠bh:=λz=>by
  rw[z,z6] at hd;cases hd
 have dq:∀(H1:Hp)(y5 y6 y7 y8:Option V)(g:List (Int×List (List Str))),Zh H H1->vI H H1 d g->g.length<=5000->ow R lw t m (λ_ _ _=>True) g->u2 { nx:=λ_ H'=>Q .aD H',rt:=Q } [some (.ref a),some (.ref rr),some (.ref bh),some (.str t),some (.ref d),y5,y6,y7,y8,none] H1:=by
  intro H1 y5 y6 y7 y8 g s1 hL zV hO;obtain⟨ab,hk,hR,vV,hvn⟩:=hL;have cO:ab.length=g.length:=hR.length;refine ZL e2 ?_;intro d9 qO;show u3 _ _ _;have Ey:d9≠d:=λz=>by
   rw[z,hk] at qO;cases qO
  refine ZL e3 ?_;refine⟨_,rfl,d,ab,rfl,by rw[Zc Ey.symm];exact hk,λob=>Pf (λi σ H4=>∃(y7:Option V)(m':List (Int×List Str)),σ =[some (.ref a),some (.ref rr),some (.ref bh),some (.str t),some (.ref d),y5,y6,y7,y8,some (.ref d9)]/\Zh H H4/\(∀b xs,H1 b=some (.lst xs)->H4 b=some (.lst xs))/\H4 d=some (.aR ob (.dK ab))/\oy H4 d9 m'/\m'.length<=i/\ZoZ (g.take i) m')
   ⟨y7,[],rfl,λb o e=>?_,λb xs e=>?_,Za,⟨[],by rw[Zc Ey];exact Za,.nil,pR⟩,ax _,⟨λ_ _ h=>(nomatch h),λ_ _ h=>(nomatch h)⟩⟩ ?_ ?_ ?_⟩
  ·rw[Zc (λz=>by rw[z,hd] at e;cases e),Zc (Zd (s1 _ _ e) qO)];exact s1 _ _ e
  ·rw[Zc (fg e hk λz=>nomatch z),Zc (Zd e qO)]
   exact e
  ·rintro i σ H4 _ ⟨_,_,_,_,_,z,_⟩;exact z
  ·rintro i k v σ H4 z8 ⟨y7,m',rfl,s4,l4,d4,b4,vY,hM⟩;obtain⟨e,he,ek,_⟩:=hR.get i _ z8;have ek:k=aA e.1:=ek;subst ek;have iP:a8 g e.1=some e.2:=qv vV (bY he);have ik:=(cT.mp he).1;obtain⟨l,cs,Ec,c1,c2,c3,c4⟩:∃(l:Addr)(cs:List Addr),bj ab (aA e.1)=some (.ref l)/\H1 l=some (.lst (cs.map V.ref))/\H l=none/\e.2 ≠ []/\aN (λc w=>H1 c=some (.lst (w.map V.str))/\eZ w) cs e.2:=by
    rcases hR.val e.1 with⟨z,_⟩|⟨x,v',gx,vx,l,cs,rfl,c⟩
    ·rw[iP] at z;cases z
    ·rw[iP] at gx;injection gx with gx;subst gx;exact⟨l,cs,vx,c⟩
   show Mb _ _ _;refine ZL JK ?_;have aY:cs.length=e.2.length:=cw c4;have rD:cs ≠ []:=λz=>c3 (ix.mp (by rw[<- aY,z];rfl));refine⟨_,rfl,_,rfl,d,.ref l,rfl,.inl ⟨ab,aA e.1,.inr ⟨ob,d4⟩,rfl,Ec.symm⟩,true,.inl ⟨cs.map V.ref,ag.of (l4 _ _ c1),?_⟩,cA ?_⟩
   ·cases cs with
    | nil=>exact absurd rfl rD
    | cons=>rfl
   refine⟨by decide,λlm oU=>?_⟩;have sm:Zh H4 (upd H4 lm (.lst [.str SL])):=Zh.new oU;refine⟨_,rfl,_,rfl,d,.ref l,rfl,.inl ⟨ab,aA e.1,.inr ⟨ob,sm _ _ d4⟩,rfl,Ec.symm⟩,?_⟩;refine Iv (cs:=cs) (ws:=e.2) (sm _ _ (l4 _ _ c1)) rD (aN.cM c4 λ_ _ r=>⟨sm _ _ (l4 _ _ r.1),r.2⟩) λi2 c wm H5 hc hw s5 kG=>?_;have uy:=sm.trans s5;obtain⟨r1,r2⟩:=vz c4 i2 c wm hc hw;have Ef:=bY hw;have ip:wm.length<=600:=by
    obtain⟨k',r',v',z1,z2,z3⟩:=hO.1 _ _ iP wm Ef;rw[z3,aH];exact Ss _ z2 k' v' z1
   obtain⟨AL,zZ,Dl,K0⟩:=b4;have ZyP:AL.length=m'.length:=Dl.length;refine⟨lm,c,[.str SL],wm.map V.str,rfl,rfl,s5 _ _ Za,uy _ _ (l4 _ _ r1),by rw[ar,bB];simp;lia,λcn tU=>?_⟩;have s6:Zh H4 (upd H5 cn (.lst ([.str SL]++wm.map V.str))):=uy.trans (Zh.new tU);have k7:∀b o,b≠d9->H4 b=some o->upd (upd H5 cn (.lst ([.str SL]++wm.map V.str))) d9 (.dK (putK AL (aA e.1) (.ref cn))) b=some o:=λb o n z=>by
    rw[Zc n];exact s6 _ _ z
   have l7:∀b xs,H4 b=some (.lst xs)->upd (upd H5 cn (.lst ([.str SL]++wm.map V.str))) d9 (.dK (putK AL (aA e.1) (.ref cn))) b=some (.lst xs):=λb xs z=>k7 _ _ (fg z zZ λy=>nomatch y) z
   have Zym:cn≠d9:=(Zd (uy _ _ zZ) tU).symm;refine⟨_,rfl,_,rfl,d9,_,rfl,jk.k (k:=aA e.1) (s6 _ _ zZ) (by rw[ZyP,bB];lia),_,gk m' e.1 (SL::wm),rfl,λb o z=>k7 _ _ (λy=>?_) (s4 _ _ z),λb xs z=>l7 _ _ (l4 _ _ z),k7 _ _ Ey.symm d4,⟨_,Za,(Dl.keep λ_ _=>ou.keep l7).put ⟨cn,rfl,by rw[Zc Zym];exact Za,λx hx=>?_⟩,yJ K0⟩,?_,λk w hg=>?_,λk ws hg=>?_⟩
   ·rw[y] at z;rw[s1 _ _ z] at qO;cases qO
   ·rcases aV.mp hx with rfl|hx
    ·exact Js
    ·exact r2 x hx
   ·have:=congrArg fA (B' (l:=m') (k:=e.1) (x:=SL::wm));rw[ar] at this;rw[this]
    split
    ·rw[ar];lia
    ·rw[aH,ar];exact Fz vY 1
   ·rw[Zi he];rw[nW] at hg
    split at hg
    ·rename_i ke
     injection hg with hg;exact⟨e.2,wm,a9 _ (ao.mpr (by rw[ke])),Ef,hg.symm⟩
    ·obtain⟨ws,x,h1,h2⟩:=hM.1 k w hg;exact⟨ws,x,cb _ h1,h2⟩
   ·rw[Zi he] at hg;rw[nW];by_cases ke:k=e.1
    ·rw[aj ke];have hgg:(k,ws)∈g:=by
      rcases aS.mp hg with z|z
      ·exact Wm z
      ·rw[ao.mp z];exact bY he
     have h1:=qv vV hgg;rw[ke,iP] at h1;injection h1 with h1;rw[<- h1];exact⟨wm,rfl,kG⟩
    ·rw[ah ke];rcases aS.mp hg with z|z
     ·exact hM.2 k ws z
     ·exact absurd (congrArg Bo (ao.mp z)) ke
  ·rintro σ H4 ⟨y7,m',rfl,s4,l4,d4,b4,vY,hM⟩;rw[cO] at vY hM;rw[cU] at hM;have nf:∀o u,H d≠some (.aR o u):=λo u z=>by
    rw[hd] at z;cases z
   refine⟨d,ob,ab,d4,nf,?_⟩;refine ZL e4 ?_;obtain⟨AL,zZ,Dl,K0⟩:=b4;have k7:∀b xs,H4 b=some (.lst xs)->upd H4 d (.dK ab) b=some (.lst xs):=λb xs z=>by
    rw[Zc (fg z d4 λy=>nomatch y)]
    exact z
   refine⟨_,rfl,q d9 m' _ (λb o z=>?_) ?_ ⟨AL,by rw[Zc Ey];exact zZ,Dl.keep λ_ _=>ou.keep k7,K0⟩ (by lia) ⟨λi w hg=>?_,λk r v i hg hq=>?_⟩⟩
   ·rw[Zc (λy=>by rw[y,hd] at z;cases z)];exact s4 _ _ z
   ·cases z:H d9 with
    | none=>rfl
    | some o =>
     rw[s1 _ _ z] at qO;cases qO
   ·obtain⟨ws,x,h1,h2,h3⟩:=hM.1 i w hg;obtain⟨k,r,v,z1,z2,z3⟩:=hO.1 i ws (qv vV h1) x h2;exact⟨k,r,v,z1,z2,by rw[h3,z3]⟩
   ·obtain⟨ws,h1,h2⟩:=hO.2 k i r v trivial hg hq;obtain⟨x,h3,h4⟩:=hM.2 i ws (Ce h1);exact⟨_,h3,(vi [SL] _ _).trans (h4 _ h2)⟩
 refine ZL e1 ?_;have ip:∀k,(cG R k t).length<=70:=λk=>by
  unfold cG;rw[ar];exact cm (nk ..) Dm
 refine⟨_,rfl,bh,wF,rfl,by rw[Zc eR.symm];exact z6,λob=>Ov (λi σ H1=>∃(y5 y6 y7 y8:Option V)(g:List (Int×List (List Str))),σ =[some (.ref a),some (.ref rr),some (.ref bh),some (.str t),some (.ref d),y5,y6,y7,y8,none]/\(∀b o,b≠bh->H b=some o->H1 b=some o)/\H1 bh=some (.aR ob (.dK wF))/\vI H H1 d g/\qm (70*i) g/\ow R lw t m (λk _ _=>k∈(m.take i).map (·.1)) g)
  ⟨none,none,none,none,[],rfl,λb o n e=>?_,Za,⟨[],?_,.nil,pR,pR⟩,⟨bz _,λ_ _ h=>(nomatch h)⟩,⟨λ_ _ h=>(nomatch h),λ_ _ _ _ h=>(nomatch h)⟩⟩ ?_ ?_ ?_⟩
 ·rw[Zc n,Zc (λz=>by rw[z,hd] at e;cases e)];exact e
 ·rw[Zc eR];exact Za
 ·rintro i σ H1 _ ⟨_,_,_,_,_,_,_,eO,_⟩;exact eO
 ·rintro i k v p σ H1 z8 ⟨y5,y6,y7,y8,g,rfl,s1,eO,De,lG,qM⟩ hp;obtain⟨e,he,ek,lM,ev,lK,EE⟩:=qT.get i _ z8;have ek:k=aA e.1:=ek;have ev:v=.ref lM:=ev;subst ek ev;have ik:=(cT.mp he).1;have hm:a8 m e.1=some e.2:=qv cI (bY he);refine⟨p,_,rfl,az.of Za,rfl,_,_,rfl,_,_,rfl,rfl,?_⟩;show Vf _ _ _;refine ZL JJ ?_;have sp:Zh H1 (upd H1 p (.tup [.int e.1,.ref lM])):=Zh.new hp;have pA:Zh H0 (upd H1 p (.tup [.int e.1,.ref lM])):=λb o z=>sp _ _ (s1 b o (λy=>by rw[y,Kl] at z;cases z) (s0 _ _ z));have Su:=hA.same pA;obtain⟨dx,pa,df,dw,nz,za,i1,_⟩:=id Su.ho;have l1:∀b xs,H b=some (.lst xs)->H1 b=some (.lst xs):=λb xs z=>s1 _ _ (fg z z6 λy=>nomatch y) z
  refine⟨_,rfl,a,dx,_,rfl,i1,rfl,_,rfl,_,rfl,a,L,T,ex,f,R,lv,tg,e.1,t,rfl,Su,λr zs H2 s2 e2 p2=>?_⟩;have iV:=sp.trans s2;have iR:zs.length=(cG R e.1 t).length:=cw p2;have hd2:∃kv,H2 d=some (.dK kv):=let ⟨kv,z,_⟩:=De;⟨kv,iV _ _ z⟩;refine⟨r,rfl,⟨_,ag.of e2⟩,iG (K:=K) (a:=r) (xs:=zs) (λj σ H3=>∃(y7 y8:Option V)(g':List (Int×List (List Str))),σ =[some (.ref a),some (.ref rr),some (.ref bh),some (.str t),some (.ref d),some (.int e.1),some (.ref lM),y7,y8,none]/\(∀b o,b≠d->(∀xs,o ≠ .lst xs)->H2 b=some o->H3 b=some o)/\(∀b xs,H b=some (.lst xs)->H3 b=some (.lst xs))/\H3 r=some (.lst zs)/\vI H H3 d g'/\qm (70*i+j) g'/\ow R lw t m (λk i' r'=>k∈(m.take i).map (·.1)\/(k=e.1/\(i',r')∈(cG R e.1 t).take j)) g')
   ⟨_,_,g,rfl,λb o _ _ z=>z,λb xs z=>iV _ _ (l1 _ _ z),e2,De.keep (λo z=>iV _ _ z) λb xs z=>iV _ _ z,lG,qM.mono λk i' r' _ hD=>hD.resolve_right λz=>ny z.2⟩ ?_ ?_ ?_⟩
  ·rintro j σ H3 _ ⟨_,_,_,_,_,_,z,_⟩;exact ag.of z
  ·rintro j x σ H3 hx ⟨y7,y8,g',rfl,k3,l3,r3,mL,tX,vP⟩;obtain⟨pr,tp,K3,rfl,Ld⟩:=CK p2 j x hx;have DO:=(cT.mp K3).1;have hjw:=ip e.1;obtain⟨kvx,oR⟩:=hd2;have tk:∀b xs,H2 b=some (.tup xs)->H3 b=some (.tup xs):=λb xs z=>k3 b _ (fg z oR λy=>nomatch y) (λ_ y=>nomatch y) z
   refine⟨tp,_,rfl,az.of (tk _ _ Ld),rfl,_,_,rfl,_,_,rfl,rfl,?_⟩;show ZBk _ _ _;refine ZL Zwx ?_;have hq:(e.1,t,pr.1,pr.2)∈R:=lc.mp (bY K3);obtain⟨zr,kL,eB⟩:=Kc;obtain⟨lr,a1,a2,a3⟩:=eB _ hq;obtain⟨o8,kE,kK,Ae,Lh⟩:=mL;have ZDH:o8.length=g'.length:=kK.length;have ZDD:=tX.1;have DE:∀b,H3 b=none->H b=none:=λb hb=>by
    cases z:H b with
    | none=>rfl
    | some o =>
     exfalso;by_cases n:b=bh
     ·rw[n,k3 bh (.aR ob (.dK wF)) eR.symm (λ_ y=>nomatch y) (iV _ _ eO)] at hb
      cases hb
     ·have z2:=iV _ _ (s1 b o n z);by_cases ho:∃xs,o=.lst xs
      ·obtain⟨xs,rfl⟩:=ho;rw[l3 _ _ z] at hb;cases hb
      ·rw[k3 b o (λy=>by rw[y,hd] at z;cases z) (λxs y=>ho ⟨xs,y⟩) z2] at hb;cases hb
   refine⟨_,rfl,d,rfl,.inl ⟨_,.inl kE⟩,_,rfl,by decide,λc0 kr=>?_⟩;have UE:d≠c0:=λz=>by rw[<- z,kE] at kr;cases kr
   have sc:Zh H3 (upd H3 c0 (.lst [])):=Zh.new kr;have hlen:(lw pr.2).length+e.2.length<=600:=Ss _ hq e.1 e.2 hm;have dn:∀k i' r',(k,t,i',r')∈R->(k∈(m.take i).map (·.1)\/(k=e.1/\(i',r')∈(cG R e.1 t).take (j+1)))->(k∈(m.take i).map (·.1)\/(k=e.1/\(i',r')∈(cG R e.1 t).take j))\/k=e.1/\i'=pr.1/\r'=pr.2:=λk i' r' _ h=>by
    rw[Zi K3] at h;rcases h with h|⟨h1,h⟩
    ·exact .inl (.inl h)
    ·rcases aS.mp h with h|h
     ·exact .inl (.inr ⟨h1,h⟩)
     ·have h:=ao.mp h;exact .inr ⟨h1,congrArg Bo h,congrArg xK h⟩
   refine⟨o8,aA pr.1,sc _ _ kE,rfl,by rw[bB];lia,λv hv=>?_,λhn=>?_⟩
   ·obtain⟨x,v',mO,Uh,l,cs,rfl,c1,c2,c3,c4⟩:∃x v',a8 g' pr.1=some x/\bj o8 (aA pr.1)=some v'/\mi H H3 v' x:=by
     rcases kK.val pr.1 with⟨_,z⟩|z
     ·rw[z] at hv;cases hv
     ·exact z
    have ev:v=.ref l:=by
     rw[hv] at Uh;injection Uh
    subst ev;have aY:cs.length=x.length:=cw c4;have fu:=tX.2 _ _ mO;have rD:cs ≠ []:=λz=>c3 (ix.mp (by rw[<- aY,z];rfl));refine⟨_,rfl,_,rfl,rr,zr,pr.2,.ref lr,rfl,rfl,ag.of (sc _ _ (l3 _ _ kL)),a1,_,rfl,?_⟩;refine⟨l,lr,lM,cs.map V.ref,lw pr.2,e.2,rfl,sc _ _ c1,sc _ _ (l3 _ _ a2),sc _ _ (l3 _ _ lK),hlen,by rw[ar];lia,λc hc=>?_⟩;have oQ:∀b o,b≠l->H3 b=some o->(upd (upd (upd H3 c0 (.lst [])) c (.lst ((lw pr.2++e.2).map V.str))) l (.lst (cs.map V.ref ++ [.ref c]))) b=some o:=λb o n z=>by
     rw[Zc n,Zc (Zd (sc _ _ z) hc)];exact sc _ _ z
    have nrl:r≠l:=λz=>by
     rw[z,c1] at r3;injection r3 with r3;injection r3 with r3;cases cs with
     | nil=>exact rD rfl
     | cons c' fO =>
      obtain⟨p0,t0,_,e0,h0⟩:=CK p2 0 (.ref c') (by rw[<- r3];rfl);injection e0 with e0;subst e0;cases c4 with
      | cons r4 _ =>
       have:=tk _ _ h0;rw[r4.1] at this;cases this
    refine⟨_,_,gk g' pr.1 (x ++ [lw pr.2++e.2]),rfl,λb o n no z=>oQ _ _ (fg (k3 b o n no z) c1 (no _)) (k3 b o n no z),λb xs z=>oQ _ _ (λy=>by rw[y,c2] at z;cases z) (l3 _ _ z),oQ _ _ nrl r3,⟨o8,oQ _ _ (fg kE c1 λy=>nomatch y) kE,kK.chg Ae Lh hv ⟨l,cs ++ [c],rfl,by rw[show(cs ++ [c]).map V.ref=cs.map V.ref ++ [.ref c] from bP ..];exact Za,c2,by simp,?_⟩ λw y hLv bt=>hLv.move oQ c1 rD bt,yJ Ae,Lh⟩,tX.put (.inl mO),(vP.put hm hq (.inl mO)).mono ?_⟩
    ·refine aN.app (aN.cM c4 λc' w z=>⟨oQ _ _ (λy=>?_) z.1,z.2⟩) (.cons ⟨?_,λy hy=>(aS.mp hy).elim (a3 y) (EE y)⟩ .nil)
     ·have z1:=z.1;rw[y,c1] at z1;injection z1 with z1;injection z1 with z1;exact rD (Iw z1.symm)
     ·rw[Zc (Zd (sc _ _ c1) hc).symm];exact Za
    ·exact dn
   ·have kB:∀b o,b≠d->H3 b=some o->(upd (upd H3 c0 (.lst [])) d (.dK (putK o8 (aA pr.1) (.ref c0)))) b=some o:=λb o n z=>by
     rw[Zc n];exact sc _ _ z
    have lB:∀b xs,H3 b=some (.lst xs)->(upd (upd H3 c0 (.lst [])) d (.dK (putK o8 (aA pr.1) (.ref c0)))) b=some (.lst xs):=λb xs z=>kB _ _ (fg z kE λy=>nomatch y) z
    have Sr:(upd (upd H3 c0 (.lst [])) d (.dK (putK o8 (aA pr.1) (.ref c0)))) c0=some (.lst []):=by
     rw[Zc UE.symm];exact Za
    have vV:a8 g' pr.1=none:=by
     rcases kK.val pr.1 with⟨z,_⟩|⟨_,_,_,z,_⟩
     ·exact z
     ·rw[hn] at z;cases z
    refine⟨_,rfl,_,rfl,rr,zr,pr.2,.ref lr,rfl,rfl,ag.of (lB _ _ (l3 _ _ kL)),a1,_,rfl,?_⟩;refine⟨c0,lr,lM,[],lw pr.2,e.2,rfl,Sr,lB _ _ (l3 _ _ a2),lB _ _ (l3 _ _ lK),hlen,by decide,λc hc=>?_⟩;have n0c:c0≠c:=Zd Sr hc;have oQ:∀b o,b≠d->H3 b=some o->(upd (upd (upd (upd H3 c0 (.lst [])) d (.dK (putK o8 (aA pr.1) (.ref c0)))) c (.lst ((lw pr.2++e.2).map V.str))) c0 (.lst ([] ++ [.ref c]))) b=some o:=λb o n z=>by
     rw[Zc (Zd z kr),Zc (Zd (kB b o n z) hc)];exact kB b o n z
    have l5:∀b xs,H3 b=some (.lst xs)->(upd (upd (upd (upd H3 c0 (.lst [])) d (.dK (putK o8 (aA pr.1) (.ref c0)))) c (.lst ((lw pr.2++e.2).map V.str))) c0 (.lst ([] ++ [.ref c]))) b=some (.lst xs):=λb xs z=>oQ _ _ (fg z kE λy=>nomatch y) z
    refine⟨_,_,gk g' pr.1 ([] ++ [lw pr.2++e.2]),rfl,λb o n no z=>oQ _ _ n (k3 b o n no z),λb xs z=>l5 _ _ (l3 _ _ z),l5 _ _ r3,⟨_,?_,(kK.keep λ_ _=>mi.keep l5).put ⟨c0,[c],rfl,Za,DE c0 kr,by simp,.cons ⟨?_,λy hy=>(aS.mp hy).elim (a3 y) (EE y)⟩ .nil⟩,yJ Ae,?_⟩,tX.put (.inr ⟨vV,rfl⟩),(vP.put hm hq (.inr ⟨vV,rfl⟩)).mono ?_⟩
    ·rw[Zc UE,Zc (Zd (show _=some _ from Za) hc)];exact Za
    ·rw[Cf _ hn,bP];refine xE.mpr ⟨Lh,by simp,λy hy b hb z=>?_⟩;have hb:b=.ref c0:=ao.mp hb;subst hb z;obtain⟨w,hw,ew⟩:=a6.mp hy;obtain⟨i',gY⟩:=uM.mp hw;obtain⟨_,_,_,l',_,el,sD,_⟩:=kK.get i' w gY;rw[ew] at el;injection el with el;rw[<- el,kr] at sD;cases sD
    ·exact dn
    ·rw[Zc n0c.symm];exact Za
  ·rintro σ H3 ⟨y7,y8,g',rfl,k3,l3,r3,mL,tX,vP⟩;rw[iR] at tX vP;rw[cU] at vP;refine⟨_,_,y7,y8,g',rfl,λb o n z=>?_,k3 _ _ eR.symm (λ_ y=>nomatch y) (iV _ _ eO),mL,tX.le (by have:=ip e.1;lia),vP.mono λk i' r' hq hk=>?_⟩
   ·by_cases ho:∃xs,o=.lst xs
    ·obtain⟨xs,rfl⟩:=ho;exact l3 _ _ z
    ·exact k3 b o (λy=>by rw[y,hd] at z;cases z) (λxs y=>ho ⟨xs,y⟩) (iV _ _ (s1 b o n z))
   ·rw[Zi he,bP] at hk;rcases aS.mp hk with hk|hk
    ·exact .inl hk
    ·have hk:=ao.mp hk;subst hk;exact .inr ⟨rfl,lc.mpr hq⟩
 ·rintro σ H1 ⟨y5,y6,y7,y8,g,rfl,s1,eO,De,lG,qM⟩;rw[zK] at lG qM;rw[cU] at qM;have kb:∀b o,H1 b=some o->b≠bh->upd H1 bh (.dK wF) b=some o:=λb o e n=>by
   rw[Zc n];exact e
  have nf:∀o u,H bh≠some (.aR o u):=λo u z=>by
   rw[z6] at z;cases z
  refine⟨bh,ob,wF,eO,nf,dq _ _ _ _ _ g (λb o e=>?_) (De.keep (λo e=>kb _ _ e eR) λb xs e=>kb _ _ e (fg e eO λz=>nomatch z)) (by have:=lG.1;lia) ⟨qM.1,λk i r v _ hg hq=>qM.2 k i r v (a6.mpr ⟨_,Ce hg,rfl⟩) hg hq⟩⟩
  by_cases n:b=bh
  ·subst n;rw[z6] at e;rw[Za];exact e
  ·exact kb b o (s1 b o n e) n
def va(S:Int->Prop)(ts:List Int)(R:List av.Qd)(n:Nat)(ls:List (List Pr))(tg:List Str)(m:List (Int×List Str)):Prop:=(∀b w,a8 m b=some w->mB (qI ts R ls tg b) w/\w.length<=n)/\∀b v,S b->qI ts R ls tg b v->∃w,a8 m b=some w
def yy(ts:List Int)(R:List av.Qd)(n:Nat)(lw:Int->List Str)(k:Int):Prop:=mB (dJ ts R k) (lw k)/\(lw k).length<=n
section
variable{S:Int->Prop}{ts:List Int}{R:List av.Qd}{n n':Nat}{l:List Pr}{ls:List (List Pr)}{tg w:List Str}{t:Str}{m m' yn:List (Int×List Str)}{lw:Int->List Str}
theorem CP(hS:∀p∈l,S p.1)(h:va S ts R n ls tg m)(q:vH l m m'):(∀k w,a8 m' k=some w->mB (λv=>∃b,(b,k)∈l/\qI ts R ls tg b v) w/\w.length<=n)/\∀b k v,(b,k)∈l->qI ts R ls tg b v->∃w,a8 m' k=some w:=by
 refine⟨λk w hw=>?_,λb k v hb hv=>?_⟩
 ·obtain⟨b,h1,h2⟩:=q.1 k w hw;have h3:=h.1 b w h2;refine⟨⟨⟨b,h1,h3.1.1⟩,?_⟩,h3.2⟩;rintro v ⟨b',cg,hv⟩;obtain⟨w',e⟩:=h.2 b' v (hS _ cg) hv;obtain⟨w2,e2,le⟩:=q.2 b' k w' cg e;rw[hw] at e2;injection e2 with e2;rw[<- e2] at le;exact qy ((h.1 b' w' e).1.2 v hv) le
 ·obtain⟨w',e⟩:=h.2 b v (hS _ hb) hv;obtain⟨w2,e2,_⟩:=q.2 b k w' hb e;exact⟨w2,e2⟩
theorem ZoV(hS:∀p∈l,S p.1)(h:va S ts R n ls tg m)(q:vH l m m')(jx:∀p∈R,yy ts R n' lw p.2.2.2)(hi:RK R lw t m' yn):va (λ_=>True) ts R (1+n'+n) (l::ls) (t::tg) yn:=by
 have h':=CP hS h q;refine⟨λi w hw=>?_,λi w _ hw=>?_⟩
 ·obtain⟨k,r,v,h1,h2,rfl⟩:=hi.1 i w hw;obtain⟨⟨⟨b,hb,hv⟩,_⟩,hl⟩:=h'.1 k v h1;have hr:=jx _ h2;refine⟨⟨⟨(b,k),hb,r,lw r,v,h2,hr.1.1,hv,rfl⟩,?_⟩,by rw[bI,aH];have:=hr.2;dsimp only at this;lia⟩;rintro _ ⟨p1,bo,r2,u2,v2,jA,lJ,o4,rfl⟩;obtain⟨w2,e2⟩:=h'.2 p1.1 p1.2 v2 bo o4;obtain⟨w3,e3,le⟩:=hi.2 p1.2 r2 w2 i e2 jA;rw[hw] at e3;injection e3 with e3;rw[<- e3] at le;refine qy ?_ le;refine(vi [SL] _ _).trans (Iy ((jx _ jA).1.2 _ lJ) ((h'.1 _ _ e2).1.2 v2 ⟨p1.1,bo,o4⟩))
 ·obtain⟨p1,bo,r2,u2,v2,jA,lJ,o4,rfl⟩:=hw;obtain⟨w2,e2⟩:=h'.2 p1.1 p1.2 v2 bo o4;obtain⟨w3,e3,_⟩:=hi.2 p1.2 r2 w2 i e2 jA;exact⟨w3,e3⟩
theorem ZnR{W:List (List Str)}(hS:∀p∈l,S p.1)(h:va S ts R n ls tg m)(q:vH l m m')(jx:∀p∈l,yy ts R n' lw p.2)(h1:∀x∈W,∃k v,a8 m' k=some v/\x=lw k++v)(h2:∀k v,a8 m' k=some v->lw k++v∈W)(hw:w∈W)(hm:∀x∈W,aQ x w=false):mB (dc ts R l ls tg) w:=by
 have h':=CP hS h q;obtain⟨k,v,e,rfl⟩:=h1 w hw;obtain⟨⟨⟨b,hb,hv⟩,_⟩,_⟩:=h'.1 k v e;refine⟨⟨(b,k),hb,lw k,v,(jx _ hb).1.1,hv,rfl⟩,?_⟩;rintro _ ⟨p,hp,u,v2,hu,o4,rfl⟩;obtain⟨w2,e2⟩:=h'.2 p.1 p.2 v2 hp o4;exact qy (Iy ((jx p hp).1.2 _ hu) ((h'.1 _ _ e2).1.2 v2 ⟨p.1,hp,o4⟩)) (hm _ (h2 _ _ e2))
end
def qE(q:av.Qd):Rl:=⟨q.1.toNat,q.2.1,q.2.2.1.toNat,q.2.2.2.toNat⟩
def iJ(f:FQ):Fm:=⟨f.n.toNat,f.ts.map Mz,f.qs.map qE⟩
theorem QL.adr{H:Hp}:∀{zs:List V}{qs:List av.Qd},(∀q∈qs,0<=q.1/\0<=q.2.2.1/\0<=q.2.2.2)->QL H zs qs->∃as:List Addr,zs=as.map V.ref/\as.length=(qs.map qE).length/\∀(i:Nat) p q,as[i]?= some p->(qs.map qE)[i]?= some q->H p=some (.tup [.int q.k,.str q.t,.int q.i,.int q.r])
 | _,_,_,.nil=>⟨[],rfl,rfl,λi p q h=>by cases i <;> cases h⟩
 | _::_,q::_,hb,.cons ⟨p,e,h⟩ t=>by
  obtain⟨as,e1,e2,e3⟩:=QL.adr (λq hq=>hb q (bM _ hq)) t;refine⟨p::as,by rw[e,e1];rfl,by rw[bI,e2];rfl,λi p' q' h1 h2=>?_⟩;cases i with
  | zero =>
   injection h1 with h1;injection h2 with h2;subst h1 h2;obtain⟨n1,n2,n3⟩:=hb q (aZ ..);show H p=some (.tup [.int ((q.1.toNat:Nat):Int),.str q.2.1,.int ((q.2.2.1.toNat:Nat):Int),.int ((q.2.2.2.toNat:Nat):Int)]);rw[fM n1,fM n2,fM n3];exact h
  | succ i=>exact e3 i p' q' h1 h2
theorem jX.Zxh{f:FQ}(h:jX H a f)(ok:mj f):Form H a (iJ f):=by
 obtain⟨h1,h2,h3,zs,e1,e2,e3,e4,e5⟩:=h;obtain⟨as,rfl,a2,a3⟩:=QL.adr (λq hq=>⟨(ok.qb q hq).1.1,(ok.qb q hq).2.1.1,(ok.qb q hq).2.2.1⟩) e5;refine⟨⟨λx hx=>?_,λq hq=>?_⟩,h1,h2,h3,as,?_,?_,e4,a2,a3⟩
 ·obtain⟨y,hy,rfl⟩:=a6.mp hx;have:=ok.tb y hy;have:=ok.n0;show y.toNat<f.n.toNat;lia
 ·obtain⟨y,hy,rfl⟩:=a6.mp hq;have:=ok.qb y hy;have:=ok.n0;show y.1.toNat<f.n.toNat/\y.2.2.1.toNat<f.n.toNat/\y.2.2.2.toNat<f.n.toNat;lia
 ·show H a=some (HO.tup [V.int ((f.n.toNat:Nat):Int),.ref h1,.ref h2,.ref h3]);rw[fM ok.n0];exact e1
 ·rw[e3];refine congrArg (λl=>some (HO.tup l)) ?_;show f.ts.map V.int=(f.ts.map Mz).map λ(e:Nat)=>V.int (e:Int);rw[gB];refine pQ λy hy=>?_;show V.int y=V.int ((y.toNat:Nat):Int);rw[fM (ok.tb y hy).1]
section
variable{f:FQ}{R:List av.Qd}{c:Cs}{G:List (Option (Gr Str))}{k:Int}{u:List Str}
theorem QD(rk:fQ f R)(h:dJ f.ts R k u):dM f k:=by
 induction h with
 | nil h=>exact .e h
 | cons hq _ _ h1 h2=>exact .r ((rk _).mp hq).1 h1 h2
theorem IS(rk:fQ f R)(h:dM f k):∃u,dJ f.ts R k u:=by
 induction h with
 | e h=>exact⟨[],.nil h⟩
 | @r q h l1 l2 h1 h2 =>
  obtain⟨u,hu⟩:=h1;obtain⟨v,hv⟩:=h2;exact⟨_,.cons (t:=q.2.1) ((rk _).mpr ⟨h,l1,l2⟩) hu hv⟩
theorem Zoc{q:av.Qd}(rk:fQ f R)(h:q∈R):qE q∈(iJ f).rules:=a6.mpr ⟨q,((rk q).mp h).1,rfl⟩
theorem Zos(ok:mj f)(jb:(iJ f).Ok)(rk:fQ f R)(res:(iJ f).Res c)(h:LG (iJ f) c G):∀(n k:Nat) g,bH g<=n->gO G k=some g->dJ f.ts R (k:Int) (words SL g):=by
 intro n
 induction n with
 | zero =>
  intro k g hz e;obtain⟨D,h1,_⟩:=id h;have hg:=Pq (by lia:bH g=0);subst hg;rcases h1.way k _ e with w|⟨q,_,_,a,b,_,_,z⟩
  ·obtain⟨y,hy,rfl⟩:=a6.mp (show k∈f.ts.map Mz from w);rw[fM (ok.tb y hy).1];exact .nil hy
  ·cases z
 | succ n ih =>
  intro k g hz e;obtain⟨D,h1,_⟩:=id h;rcases h1.way k _ e with w|⟨q,hq,fq,a,b,ea,eb,z⟩
  ·have h0:=(res.inv jb).zero k w;rw[(h1.sz k g e).2.1] at h0;injection h0 with h0;exact ih k g (by lia) e
  ·subst z;have hs:bH (.cons q.t a b)=1+bH a+bH b:=rfl;have l1:=ih _ a (by lia) ea;have l2:=ih _ b (by lia) eb;obtain⟨p,hp,rfl⟩:=a6.mp (show q∈f.qs.map qE from hq);have hb:=ok.qb p hp;have e1:((p.1.toNat:Nat):Int)=p.1:=fM hb.1.1;have e2:((p.2.2.1.toNat:Nat):Int)=p.2.2.1:=fM hb.2.1.1;have e3:((p.2.2.2.toNat:Nat):Int)=p.2.2.2:=fM hb.2.2.1;have l1:dJ f.ts R p.2.2.1 (words SL a):=e2 ▸ l1;have l2:dJ f.ts R p.2.2.2 (words SL b):=e3 ▸ l2;rw[<- fq];show dJ f.ts R ((p.1.toNat:Nat):Int) (p.2.1::(words SL a++SL::words SL b));rw[e1];exact .cons ((rk _).mpr ⟨hp,QD rk l1,QD rk l2⟩) l1 l2
theorem Q7{xs ys:List Str}(h:aQ xs ys=false):ys.length<=xs.length:=by
 unfold aQ at h
 split at h
 ·lia
 ·have:=l_ h;lia
theorem vf:∀g:Gr Str,(words SL g).length=2*bH g
 | .nil=>rfl
 | .cons t a b=>by
  show(t::(words SL a++SL::words SL b)).length=2*(1+bH a+bH b);rw[bI,aH,bI,vf a,vf b];lia
theorem vo(jb:(iJ f).Ok)(rk:fQ f R)(res:(iJ f).Res c)(h:LG (iJ f) c G)(h3:∀j x,at_ c j=some x->x<=300)(hl:dJ f.ts R k u):∃g,gO G k.toNat=some g/\aQ u (words SL g)=false:=by
 induction hl with
 | @nil k hk =>
  have h0:=(res.inv jb).zero k.toNat (a6.mpr ⟨k,hk,rfl⟩);obtain⟨g,e,z⟩:=h.got h0 (by lia);rw[Pq z] at e;exact⟨_,e,qt _⟩
 | @cons k i r t u v hq _ _ AA AB =>
  obtain⟨a,ea,ba⟩:=AA;obtain⟨b,eb,bb⟩:=AB;obtain⟨D,h1,_⟩:=id h;have hm:=Zoc rk hq;obtain⟨x,ex,hx⟩:=res.rule hm (h1.sz _ a ea).2.1 (h1.sz _ b eb).2.1;obtain⟨g,e,z⟩:=h.got ex (h3 _ _ ex);have lu:=Q7 ba;have lv:=Q7 bb;rw[vf] at lu lv;refine⟨g,e,?_⟩;by_cases hxe:x=1+bH a+bH b
  ·refine qy ?_ (h1.min _ g e (qE (k,t,i,r)) hm rfl a b ea eb (by lia));refine(vi [t] _ _).trans (Iy ba ((vi [SL] _ _).trans bb))
  ·refine Qi ?_;rw[vf,bI,aH,bI];lia
end
def qF(c:Cs)(n x:Nat):Nat:=((c_ n).filter λj=>match at_ c j with|some y=>decide (y<x)|none=>false).length
theorem QY{p q:Nat->Bool}:∀{l:List Nat}{i:Nat},i∈l->p i=false->q i=true->(∀j,p j=true->q j=true)->(l.filter p).length<(l.filter q).length
 | y::l,i,hi,h1,h2,h=>by
  have le:∀l:List Nat,(l.filter p).length<=(l.filter q).length:=λl=>by
   induction l with
   | nil=>exact ax _
   | cons z l ih =>
    cases e:p z with
    | true=>rw[rS e,rS (h z e)];exact Nat.succ_le_succ ih
    | false =>
     rw[xB (by rw[e];decide)];by_cases e2:q z=true
     ·rw[rS e2];exact FC ih
     ·rw[xB e2];exact ih
  rcases aV.mp hi with e|hi
  ·rw[<- e,xB (by rw[h1];decide),rS h2];exact Nat.lt_succ_of_le (le l)
  ·have:=QY hi h1 h2 h;cases e:p y with
   | true=>rw[rS e,rS (h y e)];exact WL this
   | false =>
    rw[xB (by rw[e];decide)];by_cases e2:q y=true
    ·rw[rS e2];exact xJ this
    ·rw[xB e2];exact this
theorem Znx{f:Fm}(ok:f.Ok)(res:f.Res c):∀(x k:Nat),at_ c k=some x->x+1<=2 ^ qF c f.n x:=by
 intro x
 induction x using Nat.strongRecOn with
 | _ x ih =>
  intro k hk;have hlen:=(res.inv ok).len;rcases res.got ok hk with w|⟨q,hq,_,a,b,ea,eb,e⟩
  ·have:=(res.inv ok).zero k w;rw[hk] at this;injection this with this;subst this;exact Nat.one_le_two_pow
  ·have TY:=ok.q q hq;have step:∀(m j:Nat),j<f.n->at_ c j=some m->a<=m->b<=m->m<x->x+1<=2 ^ qF c f.n x:=by
    intro m j hj hm h1 h2 h3;have h4:=ih m h3 j hm;have h5:qF c f.n m<qF c f.n x:=by
     refine QY (iY.mpr hj) (by rw[hm];exact bx (by lia)) (by rw[hm];exact aP h3) λi hi=>?_;cases e:at_ c i with
     | none=>rw[e] at hi;cases hi
     | some y =>
      rw[e] at hi;have:=bK hi;exact aP (by lia)
    have h6:2 ^ (qF c f.n m+1)<=2 ^ qF c f.n x:=MV (by decide) h5;rw[FE] at h6;lia
   by_cases h:a<=b
   ·exact step b q.r TY.2.2 eb h (ax _) (by lia)
   ·exact step a q.i TY.2.1 ea (ax _) (by lia) (by lia)
theorem Rc{f:Fm}(ok:f.Ok)(res:f.Res c)(hn:f.n<=4){k x:Nat}(h:at_ c k=some x):x<=15:=by
 have h1:=Znx ok res x k h;have h2:qF c f.n x<=f.n:=by
  have:=nk (λj=>match at_ c j with|some y=>decide (y<x)|none=>false) (c_ f.n)
  rw[nq] at this;exact this
 have h3:2 ^ qF c f.n x<=2 ^ 4:=MV (by decide) (by lia);have:2 ^ 4=16:=by decide
 lia
def fK(G:List (Option (Gr Str)))(k:Int):List Str:=words SL ((gO G k.toNat).getD .nil)
variable{R:List av.Qd}
theorem Zn2{f:FQ}{k:Int}(ok:mj f)(jb:(iJ f).Ok)(rk:fQ f R)(hn:f.n<=4)(res:(iJ f).Res c)(h:LG (iJ f) c G)(hk:dM f k)(h0:0<=k):(∃g,gO G k.toNat=some g)/\yy f.ts R 30 (fK G) k:=by
 have wc:(iJ f).n<=4:=by
  have:=ok.n0;show f.n.toNat<=4;lia
 have h3:∀j x,at_ c j=some x->x<=300:=λj x e=>cm (Rc jb res wc e) (by decide);obtain⟨u,hu⟩:=IS rk hk;obtain⟨g,e,_⟩:=vo jb rk res h h3 hu;have hl:fK G k=words SL g:=by
  unfold fK;rw[e];rfl
 refine⟨⟨g,e⟩,⟨?_,λv hv=>?_⟩,?_⟩
 ·have:=Zos ok jb rk res h _ _ g (ax _) e;rw[fM h0] at this;rw[hl];exact this
 ·obtain⟨g',e',b⟩:=vo jb rk res h h3 hv;rw[e] at e';injection e' with e';rw[hl,e'];exact b
 ·obtain⟨D,h1,_⟩:=id h;have:=Rc jb res wc (h1.sz _ g e).2.1;rw[hl,vf];lia
theorem KT.tup{H H':Hp}(k:KT H H'):mG H H':=λb xs e=>k b _ e λ_ z=>nomatch z
variable{l:List Pr}
theorem PL.kt(h:PL H zs l)(k:KT H H'):PL H' zs l:=h.keep k.tup
theorem bT.kt{C a L T:Addr}{ex:List Addr}{H H':Hp}{f:FQ}{R:List av.Qd}{lv:List (List Pr)}{tg:List Str}(h:bT C H a L T ex f R lv tg)(k:KT H H'):bT C H' a L T ex f R lv tg:=by
 obtain⟨ok,rk,st,ne,al,dx,p,df,dw,ns,zs,h1,h2,⟨md,h3,eX⟩,h4,⟨w1,m,D,w2,w3,w4,w5⟩,h6,h7,h8⟩:=h;have kt:=k.tup;refine⟨ok,rk,st,ne,λx hx=>⟨(al x hx).1,let ⟨xs,e⟩:=(al x hx).2;⟨xs,k _ _ e λ_ z=>nomatch z⟩⟩,dx,p,df,dw,ns,zs,k _ _ h1 (λ_ z=>nomatch z),?_,⟨md,k _ _ h3 (λ_ z=>nomatch z),eX⟩,h4,⟨w1,m,D,k _ _ w2 (λ_ z=>nomatch z),w3,w4,λx a' e=>?_⟩,k _ _ h6 (λ_ z=>nomatch z),?_,k _ _ h8 (λ_ z=>nomatch z)⟩
 ·obtain⟨f1,f2,f3,zf,a1,a2,a3,a4,a5⟩:=h2;exact⟨f1,f2,f3,zf,kt _ _ a1,kt _ _ a2,kt _ _ a3,kt _ _ a4,a5.keep kt⟩
 ·obtain⟨u1,mk,ts,u2,u3,u4,u5⟩:=w5 x a' e;refine⟨u1,mk,ts,k _ _ u2 (λ_ z=>nomatch z),u3,u4,λt=>?_⟩
  rcases u5 t with h|⟨l,zs,g1,g2,g3,g4,g5⟩
  ·exact .inl h
  ·exact .inr ⟨l,zs,g1,g2,k _ _ g3 (λ_ z=>nomatch z),g4.keep kt,g5⟩
 ·exact aN.cM h7 λz l ⟨p,xs,e1,e2,e3,e4⟩=>⟨p,xs,e1,e2,k _ _ e3 (λ_ z=>nomatch z),e4.keep kt⟩
def mH(l:List Pr):List (Int×List Str):=l.foldl (λm p=>gk m p.1 []) []
theorem OU(l:List Pr)(p:Pr):mH (l ++ [p])=gk (mH l) p.1 []:=by
 unfold mH;rw[Fp];rfl
theorem putAll_snoc(ab:List (Key×V))(x:Key×V):putAll (ab ++ [x])=putK (putAll ab) x.1 x.2:=by
 unfold putAll;rw[Fp];rfl
def ZpO(H:Hp)(ab:List (Key×V))(l:List Pr):Prop:=aN (λkv p=>kv.1=aA p.1/\∃c,kv.2=V.ref c/\H c=some (.lst [])) ab l
theorem Qr{H:Hp}:∀(n:Nat){l:List Pr}{ab:List (Key×V)},l.length=n->ZpO H ab l->c5 (ou H) (putAll ab) (mH l)/\((mH l).map (·.1)).Nodup
 | 0,l,ab,hn,h=>by
  obtain rfl:=ix.mp hn;cases h;exact⟨.nil,pR⟩
 | n+1,l,ab,hn,h=>by
  rcases xy l with rfl|⟨l',p,rfl⟩
  ·cases hn
  ·rw[xx] at h hn ⊢;rcases xy ab with rfl|⟨ZDa,x,rfl⟩
   ·have:=cw h;simp at this
   ·rw[xx] at h ⊢;obtain⟨k,b,e,h1,h2,c,h3,h4⟩:=aN.Md h;have e':=rO e rfl;obtain⟨rfl,e2⟩:=e';injection e2 with e2;subst e2;rw[aH] at hn;obtain⟨i1,i2⟩:=Qr n (by simpa using hn) h1;rw[putAll_snoc,OU,h2];exact⟨i1.put ⟨c,h3,h4,λ_ z=>nomatch z⟩,yJ i2⟩
theorem Pb:∀(n:Nat){l:List Pr},l.length=n->(∀b w,a8 (mH l) b=some w->w=[])/\∀p∈l,a8 (mH l) p.1=some []
 | 0,l,hn=>by
  obtain rfl:=ix.mp hn;exact⟨λ_ _ h=>(nomatch h),λ_ h=>(nomatch h)⟩
 | n+1,l,hn=>by
  rcases xy l with rfl|⟨l',p,rfl⟩
  ·cases hn
  ·rw[xx] at hn ⊢;rw[aH] at hn;obtain⟨i1,i2⟩:=Pb n (l:=l') (by simpa using hn);rw[OU];refine⟨λb w h=>?_,λq hq=>?_⟩
   ·rw[nW] at h
    split at h
    ·injection h with h;exact h.symm
    ·exact i1 b w h
   ·rw[nW]
    split
    ·rfl
    ·rename_i ne
     rcases aS.mp hq with z|z
     ·exact i2 q z
     ·exact absurd (by rw[ao.mp z]) ne
theorem ZlJ{ts:List Int}(l:List Pr):va (λb=>∃n,(b,n)∈l) ts R 0 [] [] (mH l):=by
 obtain⟨h1,h2⟩:=Pb l.length (l:=l) rfl;refine⟨λb w h=>?_,λb v ⟨n,hb⟩ _=>⟨_,h2 _ hb⟩⟩;rw[h1 b w h];exact⟨⟨rfl,λv hv=>by rw[show v=[] from hv];exact qt _⟩,ax _⟩
theorem OT(nd:(m.map (·.1)).Nodup)(h:∀k w,a8 m k=some w->0<=k/\k<4):m.length<=4:=by
 rw[<- ar (f:=(·.1))];refine nX (m:=[0,1,2,3]) nd λk hk=>?_;obtain⟨e,he,rfl⟩:=a6.mp hk;have:=h e.1 e.2 (qv nd he);simp only[aV,ny,p5];lia
def IC(K:au)(C Pt:Addr):Sp:=λvs H Q _=>∃(a L T:Addr)(ex:List Addr)(fm:FQ)(R:List av.Qd)(lv:List (List Pr))(l:List Pr)(tg:List Str),vs=[.ref a]/\bT C H a L T ex fm R (lv ++ [l]) tg/\fm.n<=4/\R.length<=70/\(∀q∈fm.qs,fG q.2.1)/\dN H Pt Zw/\tg.length<=5/\(∀l'∈lv ++ [l],∀p∈l',dM fm p.2) /\
 ((lv ++ [l])[0]?= some []->Q .aD H)/\((lv ++ [l])[0]? ≠ some []->(∃v,dc fm.ts R l lv.reverse tg.reverse v)/\∀(r:Addr)(w:List Str)(H':Hp),KT H H'->dN H' Pt Zw->H' r=some (.lst (w.map V.str))->mB (dc fm.ts R l lv.reverse tg.reverse) w->eZ w->Q (.ref r) H')
set_option maxHeartbeats 4000000 in
theorem Y'(B:∀x∈cj,mg x=none)(aF:iC K C)(vo:cx P w K mg base "least" ["form"] 7 (Rx K Pt)) (vN:cx P w K mg base "words_of" ["grove"] 1 (IZ K)) (JN:cZ P w K mg base C "behind_inner" ["self","rows","behind","tag"] 3 (IW C)) (C9:cx P w K mg base "quickest" ["level","behind"] 3 QN) (vM:cx P w K mg base "put_together" ["lists","row","words"] 1 Jr) (km:cx P w K mg base "rank_of_words" ["words"] 1 vv) (F:bC K "finish" "Reader.finish" Zv f fd):aX P w K mg base bq 8 f fd ["self"] (IC K C Pt):=by
 refine F.ok ZC (λvs H Q E h=>?_) (λaK A outer s H vs Q E hr h=>?_)
 ·obtain⟨a,L,T,ex,fm,R,lv,l,tg,rfl,_⟩:=h;rfl
 obtain⟨a,L,T,ex,fm,R,lv,l,tg,rfl,hR,wc,Dm,t_,T0,lI,Tv,q1,q2⟩:=h;have hu:=oe hr;have bN:=vE hr;obtain⟨dx,p,df,dw,ns,zs,i1,i2,i3,i4,i5,i6,i7,i8⟩:=id hR.ho;have iR:zs.length=(lv ++ [l]).length:=cw i7;have hlen:(lv ++ [l]).length=tg.length+1:=hR.st.len;have hF:Form H p (iJ fm):=jX.Zxh i2 hR.ok;have hnn:((fm.n.toNat:Nat):Int)=fm.n:=fM hR.ok.n0;refine ZM ((Zn Zv).drop 7) (Zg (ZD (Z8 yE rfl (B "list" (by decide)) n_ (Zb (Ih km hr rfl rfl (B "min" (by decide)) rfl (Zb (pv 5) Zf)) Zf)))) (λu7 h7 e7=>?_);refine ZM ((Zn Zv).drop 6) (Ze (c6 (zb (iH (pv 5) (λ_=>rfl)))
   (Zg Zlj)
   ZV) h7) (λu6 h6 e6=>?_)
 refine ZM ((bX ((Zn Zv).getD 5 (.Pass ⟨0,0,0,0⟩))).drop 0) (Zg (Z2 (c8 vM hr rfl (Zb (pv 5) (Zb (ZR ZQ (pv 1) (pv 6) (λ_ _=>rfl)) (Zb (pv 7) Zf)))))) (λZBw ZxD ZwM=>?_);refine ZM ((Zn Zv).drop 5) (Ze (Cq (c7 cN rfl (OZ (c8 C9 hr rfl (Zb (ZR ZQ (dR (pv 0) rfl) (oq oh Zj) (λ_ _=>rfl)) (Zb (pv 2) Zf)))) (gJ rfl (Zo (Zm (i:=6) ZC.nd rfl (Or.inl rfl)) (Zo (Zm (i:=7) ZC.nd rfl (Or.inl rfl)) gi)))
   ZxD)) h6) (λu5 h5 e5=>?_)
 refine ZM ((Zn Zv).drop 4) (Ze (Zt (i:=5) ZC.nd rfl (Or.inl rfl) (Z9 Zf)) h5) (λu4 h4 e4=>?_);refine ZM ((bX ((Zn Zv).getD 3 (.Pass ⟨0,0,0,0⟩))).drop 0) (Zg (Zt (i:=2) ZC.nd rfl (Or.inl rfl) (vp JN hr (pv 0) aF.cls (Zb (pv 1) (Zb (c8 C9 hr rfl (Zb (pv 3) (Zb (pv 2) Zf))) (Zb (pv 4) Zf)))))) (λMb Ka JK=>?_);refine ZM ((Zn Zv).drop 3) (Ze (c7 cN rfl (Znq rfl (B "zip" (by decide)) (Zb (dR (pv 0) rfl) (Zb (dR (pv 0) rfl) Zf))) (gJ rfl (Zo (Zm (i:=3) ZC.nd rfl (Or.inl rfl)) (Zo (Zm (i:=4) ZC.nd rfl (Or.inl rfl)) gi)))
   Ka) h4) (λu3 h3 e3=>?_)
 refine ZM ((Zn Zv).drop 2) (Ze (Zt (i:=2) ZC.nd rfl (Or.inl rfl) (Z8 (BV rfl) rfl (B "dict" (by decide)) Cw (Zb (yT (cl:=[]) ["begin","now"] [] (fc (ZR ZQ (dR (pv 0) rfl) Zj (λ_ _=>rfl))) (λ_ _ _ _=>(QG (K:=K) (n:=2) rfl rfl (Zo (Zm (i:=0) (show pM (["begin","now"]:List Str) by decide) rfl (Or.inl rfl)) (Zo (Zm (i:=1) (show pM (["begin","now"]:List Str) by decide) rfl (Or.inl rfl)) gi)))) (λ_ _ _ _=>(gh (Zb (pv 0) (Zb (Z9 Zf) Zf)))) rfl rfl (by decide) rfl (by decide) (λ_ _ h=>nomatch h) (lj (by decide)) (λ_ _ h=>nomatch h) (λ_=>rfl)) Zf))) h3) (λu2 h2 e2=>?_)
 refine ZM ((Zn Zv).drop 1) (Ze (Zgr (cl:=[]) (n0:=1) ZC.nd rfl (Or.inl rfl) ["grove"] [] (fc (c8 vo hr rfl (Zb (dR (pv 0) rfl) Zf))) (λ_ _ _ _=>(Zm (i:=0) wI rfl (Or.inl rfl))) (λ_ _ _ _=>(Cj (Zy tm (pv 0) fS (ZK _)) fS (c8 vN hr rfl (Zb (pv 0) Zf)))) rfl rfl (by decide) rfl (by decide) (λ_ _ h=>nomatch h) (lj (by decide)) (λ_ _ h=>nomatch h) (λ_=>rfl) rfl) h2) (λu1 h1 e1=>?_)
 refine ZM ((Zn Zv).drop 0) (Ze (c6 (zb (iH (ZR ZQ (dR (pv 0) rfl) Zj (λ_ _=>rfl)) (λ_=>rfl)))
   (Zg (ZD fS))
   ZV) h1) (λu0 h0 e0=>?_)
 refine⟨u0,h0,?_⟩;obtain⟨z0,gR⟩:∃z0,zs[0]?= some z0:=⟨_,bO (by lia)⟩;obtain⟨p0,x0,l0,f1,rfl,_,f3,f4⟩:=iB.get (P:=λp=>p∉L::T::ex) i7 0 z0 gR;have Lm:x0.length=l0.length:=cw f4;refine ZL e0 ?_;refine⟨_,rfl,a,C,dx,_,_,rfl,i1,aF.cls,aF.n4,rfl,L,zs,0,.ref p0,rfl,rfl,ag.of i6,j7 gR,!x0.isEmpty,.inl ⟨x0,ag.of f3,rfl⟩,?_⟩;by_cases cP:l0=[]
 ·have rm:x0=[]:=ix.mp (by rw[Lm,cP];rfl);rw[rm];refine cA ?_;exact q1 (by rw[f1,cP])
 have rm:(!x0.isEmpty)=true:=by
  cases x0 with
  | nil=>exact absurd (ix.mp Lm.symm) cP
  | cons=>rfl
 rw[rm];refine b9 ?_;show u1 _ _ _;obtain⟨⟨vc,hvc⟩,q3⟩:=q2 (by rw[f1];exact λz=>cP (ed z));refine ZL e1 ?_;refine⟨_,rfl,a,C,dx,_,_,rfl,i1,aF.cls,aF.n1,rfl,p,iJ fm,rfl,hF,?_,?_,?_,T0,λr c us G H1 k1 T1 n1 e1 hG res hL=>?_⟩
 ·have:=hR.ok.n8;show fm.n.toNat<=63;lia
 ·show(fm.qs.map qE).length<=900;rw[ar];have:=hR.ok.ql;lia
 ·intro q hq;obtain⟨q',fE,rfl⟩:=a6.mp (show q∈fm.qs.map qE from hq);exact t_ q' fE
 have jb:=hF.ok;have jx:∀k,dM fm k->0<=k->(∃g,gO G k.toNat=some g)/\yy fm.ts R 30 (fK G) k:=λk hk h0=>Zn2 hR.ok jb hR.rk wc res hL hk h0;obtain⟨DL,Dg,_⟩:=id hL;have Ea:us.length=fm.n.toNat:=hG.1.trans Dg.len;refine⟨r,rfl,⟨_,ag.of e1⟩,λpc cQ=>B_ (K:=K) (a:=r) (p:=pc) (xs:=us) (λi ys σ H2=>∃v0:Option V,σ =[v0]/\Zh H1 H2/\H2 pc=some (.lst ys)/\ys.length=i/\∀(k:Nat) g,k<i->gO G k=some g->∃b,ys[k]?= some (.ref b)/\b≠pc/\H2 b=some (.lst ((words SL g).map V.str)))
  ⟨none,rfl,Zh.new cQ,Za,rfl,λk g hk=>absurd hk (r6 _)⟩ ?_ ?_ ?_⟩
 ·rintro i ys σ H2 _ ⟨v0,_,sm,h,_⟩;exact⟨ag.of (sm _ _ e1),h⟩
 ·rintro i ys x σ H2 hi hx ⟨v0,rfl,sm,hp,jD,Ax⟩;have mO:=hG.2 i x hx;refine⟨_,rfl,rfl,_,rfl,cC (λd=>?_) (λd=>?_)⟩
  ·have Yn:x=.aD:=bK d;refine⟨hp,Zr (by lia),CW.next hi ⟨_,rfl,sm.bA cQ,Za,by rw[aH,jD];rfl,λk g hk hg=>?_⟩⟩
   rcases MS.mp hk with hk|rfl
   ·obtain⟨b,h1,h2,h3⟩:=Ax k g hk hg;exact⟨b,by rw[Fq (by lia)];exact h1,h2,by rw[Zc h2];exact h3⟩
   ·rw[hg] at mO;obtain⟨_,_,e,_⟩:=mO;rw[Yn] at e;cases e
  ·have d : ¬ x=.aD:=λz=>d (aP z);cases DH:gO G i with
   | none =>
    rw[DH] at mO;exact absurd mO d
   | some g =>
    rw[DH] at mO;obtain⟨a',NZ,rfl,m1,m2⟩:=mO;have Tc:=(Dg.sz i g DH).2.2.1;refine⟨_,rfl,a',NZ,g,rfl,az.of (sm _ _ m1),m2.mono sm.tk,by rw[vf];lia,λb H3 s3 n3 e3=>?_⟩;have nb:b≠pc:=λz=>by rw[z,hp] at n3;cases n3
    refine⟨s3 _ _ hp,Zr (by lia),CW.next hi ⟨_,rfl,(sm.trans s3).bA cQ,Za,by rw[aH,jD];rfl,λk g' hk hg=>?_⟩⟩
    rcases MS.mp hk with hk|rfl
    ·obtain⟨b',h1,h2,h3⟩:=Ax k g' hk hg;exact⟨b',by rw[Fq (by lia)];exact h1,h2,by rw[Zc h2];exact s3 _ _ h3⟩
    ·rw[DH] at hg;injection hg with hg;subst hg;exact⟨b,by rw[Fs (by lia),jD,MW];rfl,nb,by rw[Zc nb];exact e3⟩
 rintro ys σ H2 ⟨v0,rfl,s2,TU,jD,Ax⟩;show u2 _ _ _;have Kc:∀{H':Hp},Zh H2 H'->Ri H' pc (fK G) R:=λ{H'} s=>⟨ys,s _ _ TU,λq hq=>by
  have kI:=(hR.rk.qb hR.ok q hq).2.2;obtain⟨⟨g,eg⟩,_⟩:=jx q.2.2.2 ((hR.rk q).mp hq).2.2 kI.1;obtain⟨b,z1,z2,z3⟩:=Ax q.2.2.2.toNat g (by lia) eg;have hl:fK G q.2.2.2=words SL g:=by
   unfold fK;rw[eg];rfl
  refine⟨b,?_,by rw[hl];exact s _ _ z3,by rw[hl];exact(Dg.sz _ g eg).2.2.2.2⟩;have:=j7 z1;rw[fM kI.1] at this;exact this⟩
 have hR1:=bT.kt hR k1;have nl:∀{xs:List V}(ps),HO.lst xs ≠ .cK ps:=λ_ z=>nomatch z
 have yl:=k1 _ _ i1 λ_ z=>nomatch z
 have yh:H1 p0=some (.lst x0):=k1 _ _ f3 nl;have Gw:PL H1 x0 l0:=PL.kt f4 k1;have BH:H1 L=some (.lst zs):=k1 _ _ i6 nl;have NW:H1 T=some (.lst (tg.map V.str)):=k1 _ _ i8 nl;have ZD6:l0.length<=4096:=cm (hR.st.jn hR.ok.n8 (bY f1)) (by decide);refine ZL e2 ?_;refine⟨_,rfl,a,C,dx,_,_,rfl,s2 _ _ yl,aF.cls,aF.n4,rfl,L,zs,0,.ref p0,rfl,rfl,ag.of (s2 _ _ BH),j7 gR,p0,rfl,⟨_,ag.of (s2 _ _ yh)⟩,λpd TV=>B_ (K:=K) (a:=p0) (p:=pd) (xs:=x0) (λi zz σ H3=>∃(v0 v1:Option V)(ab:List (Key×V)),σ =[v0,v1]/\Zh H2 H3/\H3 pd=some (.lst zz)/\aN (λ(y:V)(kv:Key×V)=>∃t,y=.ref t/\H3 t=some (.tup [kV kv.1,kv.2])) zz ab/\aN (λ(kv:Key×V)(p:Pr)=>kv.1=aA p.1/\∃c,kv.2=V.ref c/\c≠pd/\H3 c=some (.lst [])) ab (l0.take i))
  ⟨none,none,[],rfl,Zh.new TV,Za,.nil,.nil⟩ ?_ ?_ ?_⟩
 ·rintro i zz σ H3 _ ⟨_,_,_,_,sm,h,_⟩;exact⟨ag.of (sm _ _ (s2 _ _ yh)),h⟩
 ·rintro i zz x σ H3 hi hx ⟨v0,v1,ab,rfl,sm,hp,jw,gN⟩;obtain⟨pr,tp,q_,rfl,Ld⟩:=CK Gw i x hx;refine⟨tp,_,rfl,az.of (sm _ _ (s2 _ _ Ld)),rfl,_,_,rfl,_,_,rfl,rfl,?_⟩;refine⟨_,rfl,by decide,λc hc=>⟨by show(2:Nat)<=sizeLine;decide,λt ht=>?_⟩⟩;have ZzK:zz.length<=5000:=by
   have e1:=cw jw;have e2:=cw gN;rw[iy] at e2;lia
  have sA:Zh H3 (upd H3 c (.lst [])):=Zh.new hc;have sB:Zh H3 (upd (upd H3 c (.lst [])) t (.tup [.int pr.1,.ref c])):=sA.trans (Zh.new ht);have UK:c≠pd:=λz=>by rw[z,hp] at hc;cases hc
  have LN:t≠pd:=λz=>by rw[z,sA _ _ hp] at ht;cases ht
  have ntc:c≠t:=λz=>by rw[<- z,Za] at ht;cases ht
  refine⟨sB _ _ hp,Zr (by lia),CW.next hi ⟨_,_,ab ++ [(aA pr.1,.ref c)],rfl,(sm.trans sB).bA TV,Za,aN.app (aN.cM jw λy kv ⟨t',z1,z2⟩=>⟨t',z1,?_⟩) (.cons ⟨t,rfl,?_⟩ .nil),?_⟩⟩
  ·rw[Zc (fg (sB _ _ z2) (sB _ _ hp) λy=>nomatch y)]
   exact sB _ _ z2
  ·rw[Zc LN];exact Za
  ·rw[Zi q_];refine aN.app (aN.cM gN λkv p ⟨z1,c',z2,z3,z4⟩=>⟨z1,c',z2,z3,by rw[Zc z3];exact sB _ _ z4⟩) (.cons ⟨rfl,c,rfl,UK,?_⟩ .nil);rw[Zc UK,Zc ntc];exact Za
 rintro zz σ H3 ⟨v0,v1,ab,rfl,s3,Zzd,jw,gN⟩;rw[Lm,cU] at gN;have ZzK:zz.length=l0.length:=(cw jw).trans (cw gN);refine⟨pd,zz,ab,rfl,ag.of Zzd,by lia,jw,λoB SV=>?_⟩;show u3 _ _ _;have U5:Zh H1 H3:=s2.trans s3;have s4:Zh H3 (upd H3 oB (.dK (putAll ab))):=Zh.new SV;have Dt:oy (upd H3 oB (.dK (putAll ab))) oB (mH l0):=by
  obtain⟨z1,z2⟩:=Qr (H:=upd H3 oB (.dK (putAll ab))) l0.length rfl (aN.cM gN λkv p ⟨y1,c,y2,_,y3⟩=>⟨y1,c,y2,s4 _ _ y3⟩);exact⟨_,Za,z1,z2⟩
 have sH:Zh H1 (upd H3 oB (.dK (putAll ab))):=U5.trans s4;have Zyd:H1 oB=none:=U5.free SV;have sR:Zh H2 (upd H3 oB (.dK (putAll ab))):=s3.trans s4;generalize upd H3 oB (.dK (putAll ab))=H4 at Dt sH sR ⊢;refine ZL e3 ?_;refine⟨_,rfl,a,C,dx,_,_,rfl,sH _ _ yl,aF.cls,aF.n4,rfl,_,rfl,a,C,dx,_,_,rfl,sH _ _ yl,aF.cls,aF.n5,rfl,L,T,zs,tg.map V.str,rfl,ag.of (sH _ _ BH),ag.of (sH _ _ NW),Zll (K:=K) (a:=L) (b:=T) (xs:=zs) (ys:=tg.map V.str) (by rw[ar];lia) (λi σ H5=>∃(y3 y4:Option V)(bh:Addr)(m:List (Int×List Str)),σ =[some (.ref a),some (.ref pc),some (.ref bh),y3,y4,none,none,none]/\Zh H4 H5/\H1 bh=none/\oy H5 bh m/\va (λb=>∃l' n,(lv ++ [l])[i]?= some l'/\(b,n)∈l') fm.ts R (31*i) ((lv ++ [l]).take i).reverse (tg.take i).reverse m)
  ⟨none,none,oB,mH l0,rfl,λb o z=>z,Zyd,Dt,?_⟩ ?_ ?_ ?_⟩
 ·obtain⟨z1,z2⟩:=ZlJ (ts:=fm.ts) (R:=R) l0;exact⟨z1,λb v ⟨l',n,e,hb⟩=>z2 b v ⟨n,by rw[f1] at e;injection e with e;rw[e];exact hb⟩⟩
 ·rintro i σ H5 _ ⟨y3,y4,bh,m,rfl,s5,_⟩;exact⟨ag.of (s5 _ _ (sH _ _ BH)),ag.of (s5 _ _ (sH _ _ NW))⟩
 ·rintro i x y pt σ H5 hx hy ⟨y3,y4,bh,m,rfl,s5,Kl,Kk,hI⟩ gq;rw[bW] at hy;obtain⟨t,ht,rfl⟩:=dv.mp hy;obtain⟨pi,xi,li,g1,rfl,_,g3,g4⟩:=iB.get (P:=λp=>p∉L::T::ex) i7 i x hx;have ik:=(cT.mp ht).1;have sp:Zh H5 (upd H5 pt (.tup [.ref pi,.str t])):=Zh.new gq;have pB:Zh H1 (upd H5 pt (.tup [.ref pi,.str t])):=(sH.trans s5).trans sp;have s25:Zh H2 (upd H5 pt (.tup [.ref pi,.str t])):=(sR.trans s5).trans sp;have DR:=bY g1;have hS:∀p∈li,∃l' n,(lv ++ [l])[i]?= some l'/\(p.1,n)∈l':=λp hp=>⟨li,p.2,g1,hp⟩;have qV:=hR.st.jn hR.ok.n8 DR;refine⟨pt,_,rfl,az.of Za,rfl,_,_,rfl,_,_,rfl,rfl,?_⟩;show Mb _ _ _;refine ZL JK ?_;refine⟨_,rfl,a,dx,_,rfl,pB _ _ yl,rfl,_,rfl,_,rfl,_,rfl,_,pi,bh,xi,li,m,rfl,pB _ _ (k1 _ _ g3 nl),(PL.kt g4 k1).keep λb xs z=>pB _ _ z,by lia,Zh.refl _,Kk.same sp,λd m' H6 s6 n6 b6 l6 qk=>?_⟩;have qi:=CP hS hI qk;have EM:=pB.trans s6;have hm4:m'.length<=4:=by
   obtain⟨_,_,_,nd⟩:=id b6;refine OT nd λk w hk=>?_;obtain⟨b,hb,_⟩:=qk.1 k w hk;have:=(hR.st.bd li DR (b,k) hb).2;dsimp only at this;lia
  have Tt:∀q∈R,yy fm.ts R 30 (fK G) q.2.2.2:=λq hq=>(jx q.2.2.2 ((hR.rk q).mp hq).2.2 (hR.rk.qb hR.ok q hq).2.2.1).2;refine⟨_,rfl,H1,a,pc,d,L,T,ex,fm,R,_,tg,t,fK G,m',rfl,hR1,EM,pB.free n6,Kc (s25.trans s6),b6.here s6,Dm,by lia,λq hq k v hk=>?_,λd2 m2 H7 s7 n7 b7 l7 io=>?_⟩
  ·have h1:=(Tt q hq).2;have h2:=(qi.1 k v hk).2;lia
  ·refine⟨_,_,d2,m2,rfl,((s5.trans sp).trans s6).trans s7,EM.free n7,b7,?_⟩;have hb:=ZoV hS hI qk Tt io;rw[Zi g1,Zi ht,pS,pS];exact⟨λb w z=>⟨(hb.1 b w z).1,by have:=(hb.1 b w z).2;lia⟩,λb v _ hv=>hb.2 b v trivial hv⟩
 ·rintro σ H5 ⟨y3,y4,bh,m,rfl,s5,Kl,Kk,hI⟩;rw[ar] at hI;show u4 _ _ _;have oV:lv.length=tg.length:=by
   rw[aH] at hlen;exact WJ hlen
  have hS:∀p∈l,∃l' n,(lv ++ [l])[tg.length]?= some l'/\(p.1,n)∈l':=λp hp=>⟨l,p.2,by rw[<- oV];simp,hp⟩;rw[cU,show(lv ++ [l]).take tg.length=lv by rw[<- oV];exact List.take_left ..] at hI;refine ZL e4 ?_;refine⟨by decide,λll qV=>?_⟩;show u5 _ _ _;have AW:Zh H5 (upd H5 ll (.lst [])):=Zh.new qV;have wN:Zh H1 (upd H5 ll (.lst [])):=(sH.trans s5).trans AW;obtain⟨zs',pl,xl,rfl,_,_,g3,g4⟩:=i7.last;have hlf:=hR.st.jn hR.ok.n8 (a9 lv (ao.mpr rfl));have hbL:ma H5 (upd H5 ll (.lst [])) bh m:=by
   obtain⟨z,z1,z2,z3⟩:=Kk;exact⟨z,AW _ _ z1,z2,z3⟩
  refine ZL e5 ?_;refine⟨_,rfl,a,C,dx,_,_,rfl,wN _ _ yl,aF.cls,aF.n4,rfl,1,rfl,L,_,-1,.ref pl,rfl,rfl,ag.of (wN _ _ BH),sP _ _,_,rfl,H5,pl,bh,xl,l,m,rfl,wN _ _ (k1 _ _ g3 nl),(PL.kt g4 k1).keep λb xs z=>wN _ _ z,by lia,AW,hbL,λd m' H6 s6 n6 b6 l6 qk=>?_⟩;obtain⟨o7,t5,qT,cI⟩:=id b6;have qi:=CP hS hI qk;have oU:l∈lv ++ [l]:=a9 lv (ao.mpr rfl);have EM:Zh H1 H6:=wN.trans s6;have Tw:ll≠d:=λz=>by rw[<- z,Za] at n6;cases n6
  have hm4:m'.length<=4:=by
   refine OT cI λk w hk=>?_;obtain⟨b,hb,_⟩:=qk.1 k w hk;have:=(hR.st.bd l oU (b,k) hb).2;dsimp only at this;lia
  have cO:o7.length=m'.length:=qT.length;have Dc:H1 d=none:=wN.free n6;have ZxK:H1 ll=none:=(sH.trans s5).free qV;refine⟨d,o7,rfl,t5,λob=>Ov (λi σ H7=>∃(y6 y7:Option V)(cs:List Addr),σ =[some (.ref a),some (.ref pc),some (.ref bh),y3,y4,some (.ref ll),y6,y7]/\(∀b o,b≠d->b≠ll->H6 b=some o->H7 b=some o)/\H7 d=some (.aR ob (.dK o7))/\H7 ll=some (.lst (cs.map V.ref))/\aN (λc w=>H7 c=some (.lst (w.map V.str))/\eZ w) cs ((m'.take i).map λe=>fK G e.1++e.2))
   ⟨none,none,[],rfl,λb o n _ z=>by rw[Zc n];exact z,Za,by rw[Zc Tw];exact s6 _ _ Za,.nil⟩ ?_ ?_ ?_⟩
  ·rintro i σ H7 _ ⟨_,_,_,_,_,z,_⟩;exact z
  ·rintro i k v pt σ H7 z8 ⟨y6,y7,cs,rfl,k7,d7,l7,w7⟩ gq;obtain⟨e,he,ek,lM,ev,lK,EE⟩:=qT.get i _ z8;have ek:k=aA e.1:=ek;have ev:v=.ref lM:=ev;subst ek ev;have iP:a8 m' e.1=some e.2:=qv cI (bY he);obtain⟨b0,NS,_⟩:=qk.1 _ _ iP;have SU:0<=e.1/\e.1<fm.n:=(hR.st.bd l oU _ NS).2;have ik:=(cT.mp he).1;obtain⟨⟨g,eg⟩,lwi⟩:=jx e.1 (Tv l oU _ NS) SU.1;obtain⟨b,z1,_,z3⟩:=Ax e.1.toNat g (by lia) eg;have hl:fK G e.1=words SL g:=by
    unfold fK;rw[eg];rfl
   have gL:=j7 z1;rw[fM SU.1] at gL;have lst:∀b xs,H5 b=some (.lst xs)->H7 b=some (.lst xs):=λb xs z=>k7 b _ (fg (s6 _ _ (AW _ _ z)) t5 λy=>nomatch y) (Zd z qV) (s6 _ _ (AW _ _ z))
   have uA:Zh H7 (upd H7 pt (.tup [.int e.1,.ref lM])):=Zh.new gq;have hb7:H7 b=some (.lst ((words SL g).map V.str)):=lst _ _ ((sR.trans s5) _ _ z3);have Ed:=lst _ _ lK;have hlen:(fK G e.1).length+e.2.length<=600:=by
    have h1:=lwi.2;have h2:=(qi.1 _ _ iP).2;lia
   have aY:cs.length=i:=by
    have:=cw w7;rw[ar,iy] at this;lia
   refine⟨pt,_,rfl,az.of Za,rfl,_,_,rfl,_,_,rfl,rfl,?_⟩;show ZBw _ _ _;refine ZL ZwM ?_;refine⟨_,rfl,_,rfl,_,rfl,pc,ys,e.1,.ref b,rfl,rfl,ag.of (uA _ _ (lst _ _ ((sR.trans s5) _ _ TU))),gL,_,rfl,ll,b,lM,cs.map V.ref,fK G e.1,e.2,rfl,uA _ _ l7,by rw[hl];exact uA _ _ hb7,uA _ _ Ed,hlen,by rw[ar];lia,λc hc=>?_⟩;have k8:∀b o,b≠ll->H7 b=some o->(upd (upd (upd H7 pt (.tup [.int e.1,.ref lM])) c (.lst ((fK G e.1++e.2).map V.str))) ll (.lst (cs.map V.ref ++ [.ref c]))) b=some o:=λb o n z=>by
    rw[Zc n,Zc (Zd (uA _ _ z) hc)];exact uA _ _ z
   have ncl:c≠ll:=(Zd (uA _ _ l7) hc).symm;refine⟨_,_,cs ++ [c],rfl,λb o n1 n2 z=>k8 _ _ n2 (k7 b o n1 n2 z),k8 _ _ Tw.symm d7,by rw[show(cs ++ [c]).map V.ref=cs.map V.ref ++ [.ref c] from bP ..];exact Za,?_⟩;rw[Zi he,show(m'.take i ++ [e]).map (λe=>fK G e.1++e.2)=(m'.take i).map (λe=>fK G e.1++e.2) ++ [fK G e.1++e.2] from bP ..];refine aN.app ?_ (.cons ⟨by rw[Zc ncl];exact Za,λy hy=>(aS.mp hy).elim (λz=>(Dg.sz _ g eg).2.2.2.2 y (by rw[<- hl];exact z)) (EE y)⟩ .nil);by_cases kr:cs=[]
   ·subst kr;generalize (m'.take i).map (λe=>fK G e.1++e.2)=W at w7 ⊢;cases w7;exact .nil
   ·refine aN.cM w7 λc' w' z=>⟨k8 _ _ (λy=>?_) z.1,z.2⟩;have z1:=z.1;rw[y,l7] at z1;injection z1 with z1;injection z1 with z1;exact kr (Iw z1.symm)
  ·rintro σ H7 ⟨y6,y7,cs,rfl,k7,d7,l7,w7⟩;rw[cO,cU] at w7;have nf:∀o u,H d≠some (.aR o u):=λo u z=>by
    rw[k1 _ _ z (λ_ y=>nomatch y)] at Dc
    cases Dc
   refine⟨d,ob,o7,d7,nf,?_⟩;show u6 _ _ _;have k8:∀b o,b≠d->H7 b=some o->upd H7 d (.dK o7) b=some o:=λb o n z=>by
    rw[Zc n];exact z
   have l8:∀b xs,H7 b=some (.lst xs)->upd H7 d (.dK o7) b=some (.lst xs):=λb xs z=>k8 _ _ (fg z d7 λy=>nomatch y) z
   have s18:Zh H1 (upd H7 d (.dK o7)):=λb o z=>k8 _ _ (Zd z Dc) (k7 _ _ (Zd z Dc) (Zd z ZxK) (EM _ _ z));have aY:cs.length=m'.length:=by
    have:=cw w7
    rwa [ar] at this
   have zN:cs ≠ []:=λz=>by
    obtain⟨p1,bo,u,v1,ja,mR,_⟩:=hvc;obtain⟨w,hw⟩:=qi.2 p1.1 p1.2 v1 bo mR;have:=MK (Ce hw);rw[<- aY,z] at this;exact eU 0 this
   refine ZL e6 ?_;refine⟨_,rfl,true,.inl ⟨cs.map V.ref,ag.of (l8 _ _ l7),?_⟩,b9 ?_⟩
   ·cases cs with
    | nil=>exact absurd rfl zN
    | cons=>rfl
   show u7 _ _ _;refine ZL e7 ?_;refine⟨_,rfl,?_⟩;refine Iv (cs:=cs) (l8 _ _ l7) zN (aN.cM w7 λc w z=>⟨l8 _ _ z.1,z.2⟩) λi c wm H9 hc hw s9 kG=>?_;have tV:=vz w7 i c wm hc hw;refine⟨c,_,rfl,.inl (ag.of (s9 _ _ (l8 _ _ tV.1))),λpn gQ=>?_⟩;have U9:Zh H1 (upd H9 pn (.lst (wm.map V.str))):=(s18.trans s9).trans (Zh.new gQ);refine q3 pn wm _ (k1.trans (KT.of U9)) (T1.same U9) Za (ZnR hS hI qk (n':=30) (λp hp=>(jx p.2 (Tv l oU p hp) (hR.st.bd l oU p hp).2.1).2) (λx hx=>?_) (λk v hk=>a6.mpr ⟨_,Ce hk,rfl⟩) (bY hw) kG) tV.2;obtain⟨e,he,rfl⟩:=a6.mp hx;exact⟨e.1,e.2,qv cI he,rfl⟩
def O2(K:au):Sp:=λvs H Q _=>∃(a tr:Addr)(ns:List Int)(ts:List Str),vs=[.ref a,.ref tr]/\ag K H a (ns.map V.int)/\ns.length<=63/\H tr=some (.lst (ts.map V.str))/\ts.length=3/\(∀t∈ts,fG t/\t.length<=8)/\∀(r:Addr)(f:FQ)(H':Hp),Zh H H'->jX H' r f->mj f->f.n<=4->f.hs ≠ []->f.qs.length<=40->(∀q∈f.qs,q.2.1∈ts)->Q (.ref r) H'
set_option maxHeartbeats 4000000 in
theorem Zie(B:∀x∈cj,mg x=none)(mK:cx P w K mg base "_law_cell_at" ["_law_script","_law_k"] 1 (Cz K)) (vL:cx P w K mg base "_law_numbers" ["_law_script","_law_first","_law_many"] 2 (Ji K)) (F:bC K "_law_shape" "_law_shape" Ia f fd):aX P w K mg base bq 3 f fd ["_law_script","_law_tags_here"] (O2 K):=by
 refine F.ok mq (λvs H Q E h=>?_) (λaK A outer s H vs Q E hr h=>?_)
 ·obtain⟨a,tr,ns,ts,rfl,_⟩:=h;rfl
 obtain⟨a,tr,ns,ts,rfl,hS,lC,hT,h3,aB,q⟩:=h;have hu:=oe hr;have bN:=vE hr;refine cut 2 (λaq H'=>∃(fi m:Int),aq=[some (.ref a),some (.ref tr),some (.int fi),some (.int m),none,none,none,none,none,none,none]/\Zh H H'/\1<=m/\m<=4)
  ?_ (λu hu4 hR=>⟨_,(Ze (Zt (i:=2) mq.nd rfl (Or.inl rfl) (c8 mK hr rfl (Zb (pv 0) (Zb Zj Zf))))
  (Ze (Zt (i:=3) mq.nd rfl (Or.inl rfl) (ZR ZQ (Z9 (Zb Zj (Zb Zj (Zb Zj (Zb Zj (Zb Zj (Zb Zj (Zb Zj (Zb Zj Zf))))))))) (Zx eG (pv 2) Zj) (λ_ _=>rfl)))
  hu4)),?_⟩)
 rotate_left
 ·refine⟨_,rfl,a,ns,0,rfl,hS,lC,by decide,λfi=>?_⟩;refine⟨by show(8:Nat)<=sizeLine;decide,λpl bD=>?_⟩;have b8:=oz fi (n:=8) (by decide);obtain⟨j,hj,hj8⟩:=RS fi (n:=8) (by decide);have yk:fi % 8=(j:Int):=hj;have hm:∃v:Int,fH ([3,2,4,1,3,2,3,4].map V.int) ((j:Nat):Int)=some (.int v)/\1<=v/\v<=4:=by
   rcases j with _|_|_|_|_|_|_|_|j
   ·exact⟨3,rfl,by decide,by decide⟩
   ·exact⟨2,rfl,by decide,by decide⟩
   ·exact⟨4,rfl,by decide,by decide⟩
   ·exact⟨1,rfl,by decide,by decide⟩
   ·exact⟨3,rfl,by decide,by decide⟩
   ·exact⟨2,rfl,by decide,by decide⟩
   ·exact⟨3,rfl,by decide,by decide⟩
   ·exact⟨4,rfl,by decide,by decide⟩
   ·omega
  obtain⟨v,hv,v1,v4⟩:=hm;refine⟨_,rfl,_,_,rfl,rfl,(by show(0:Int)<8;decide),pl,_,_,.int v,rfl,rfl,ag.of Za,(by rw[yk];exact hv),?_⟩;exact hR _ _ ⟨fi,_,rfl,Zh.new bD,by omega,by omega⟩
 refine RL _ 1 (λaq H'=>∃(fi m:Int)(nr:Addr)(xs:List Int),aq=[some (.ref a),some (.ref tr),some (.int fi),some (.int m),some (.ref nr),none,none,none,none,none,none]/\Zh H H'/\1<=m/\m<=4/\H' nr=some (.lst (xs.map V.int))/\2<=xs.length/\xs.length<=9/\∀x∈xs,0<=x/\x<2147483647)
  ?_ (λu hu5 hR=>⟨_,(Ze (Zt (i:=4) mq.nd rfl (Or.inr rfl) (c8 vL hr rfl (Zb (pv 0) (Zb Zj (Zb (Zx Jp Zj (Zx eG (Zx sU (pv 2) Zj) Zj)) Zf)))))
  hu5),?_⟩)
 rotate_left
 ·rintro gz H0 ⟨fi,m,rfl,s0,m1,uu⟩;have b2:=oz (fi / 8) (n:=8) (by decide);refine⟨_,rfl,_,rfl,_,_,rfl,rfl,⟨by decide,by decide⟩,_,_,rfl,rfl,(by show(0:Int)<8;decide),_,_,rfl,rfl,a,ns,0,_,rfl,s0.seq hS,lC,by decide,by decide,by omega,by omega,λnr xs H1 s1 _ e1 hl hx=>?_⟩;exact hR _ _ ⟨fi,m,nr,xs,rfl,s0.trans s1,m1,uu,e1,by omega,by omega,hx⟩
 refine RL _ 4 (λaq H'=>∃(fi m:Int)(nr pb pf:Addr)(xs hs es:List Int),aq=[some (.ref a),some (.ref tr),some (.int fi),some (.int m),some (.ref nr),some (.ref pb),some (.ref pf),none,none,none,none]/\Zh H H'/\1<=m/\m<=4/\H' nr=some (.lst (xs.map V.int))/\2<=xs.length/\xs.length<=9/\H' pb=some (.lst (hs.map V.int))/\H' pf=some (.lst (es.map V.int))/\hs.length<=6/\hs ≠ []/\es.length<=6/\IB m hs/\IB m es)
  ?_ (λu hu6 hR=>⟨_,(Ze (BW (cl:=_) (n0:=5) mq.nd rfl (Or.inl rfl) ["_law_q"] [("_law_numbers_here",4)] (vj rfl (B "range" (by decide)) (Zb (pv 3) Zf)) (λ_ _ _ _=>(Zm (i:=0) (show pM (["_law_q","_law_numbers_here"]:List Str) by decide) rfl (Or.inl rfl))) (λ_ _ _ _=>(Zy j9 (Zx eG (Zx eG (Zx oj (Zx oj (ZR (yM (K:=K) rfl) (pv 1) Zj (λ_ _=>rfl)) (Zx gc (pv 0) Zj)) Zj) Zj) Zj) Zj (ZK _))) (λ_ _ _ _=>(pv 0)) rfl rfl (by decide) rfl (by decide) (sZ (by(repeat' first|exact dW _|refine dU.mpr ⟨?_,?_⟩) <;> rfl)) (vq (by(repeat' first|exact dW _|refine dU.mpr ⟨?_,?_⟩) <;> first|(intro h;exact⟨_,rfl⟩)|(intro h;exact absurd h (by decide)))) (λ_=>by(repeat' first|exact dW _|refine dU.mpr ⟨?_,?_⟩) <;> exact⟨rfl,rfl,Or.inl rfl⟩) (λ_=>rfl) rfl)
  (Ze (BW (cl:=_) (n0:=6) mq.nd rfl (Or.inl rfl) ["_law_q"] [("_law_numbers_here",4)] (vj rfl (B "range" (by decide)) (Zb (pv 3) Zf)) (λ_ _ _ _=>(Zm (i:=0) (show pM (["_law_q","_law_numbers_here"]:List Str) by decide) rfl (Or.inl rfl))) (λ_ _ _ _=>(Zy j9 (Zx eG (Zx eG (Zx oj (Zx oj (ZR (yM (K:=K) rfl) (pv 1) Zj (λ_ _=>rfl)) (Zx gc (pv 0) Zj)) Zj) Zj) Zj) Zj (ZK _))) (λ_ _ _ _=>(pv 0)) rfl rfl (by decide) rfl (by decide) (sZ (by(repeat' first|exact dW _|refine dU.mpr ⟨?_,?_⟩) <;> rfl)) (vq (by(repeat' first|exact dW _|refine dU.mpr ⟨?_,?_⟩) <;> first|(intro h;exact⟨_,rfl⟩)|(intro h;exact absurd h (by decide)))) (λ_=>by(repeat' first|exact dW _|refine dU.mpr ⟨?_,?_⟩) <;> exact⟨rfl,rfl,Or.inl rfl⟩) (λ_=>rfl) rfl)
  (Ze (Z2 (ff dX gC gD ZG (pv 5) (Zb (Zx eG (ZR ZQ (pv 4) Zj (λ_ _=>rfl)) (pv 3)) Zf)))
  (Ze (Z2 (ff dX gC gD ZG (pv 6) (Zb (Zx eG (ZR ZQ (pv 4) Zj (λ_ _=>rfl)) (pv 3)) Zf)))
  hu6)))),?_⟩)
 rotate_left
 ·rintro gz H0 ⟨fi,m,nr,xs,rfl,s0,m1,uu,e0,rn,Uj,Ll⟩;have o9:(0:Int)<m:=by omega
  obtain⟨x0,rm⟩:∃x0,xs[0]?= some x0:=⟨xs[0]'(by omega),bO (by omega)⟩;obtain⟨x1,Eg⟩:∃x1,xs[1]?= some x1:=⟨xs[1]'(by omega),bO (by omega)⟩;have RZ:fH (xs.map V.int) 0=some (.int x0):=j7 (j:=0) (by rw[bW,rm];rfl);have lA:fH (xs.map V.int) 1=some (.int x1):=j7 (j:=1) (by rw[bW,Eg];rfl);have bx0:=Ll x0 (bY rm);have bx1:=Ll x1 (bY Eg);refine⟨_,rfl,m,rfl,by omega,by omega,λpb DX=>?_⟩;refine Hq (lo:=0) (n:=m.toNat) (p:=pb) (λi ys σ H2=>∃(v0:Option V)(hs:List Int),σ =[v0,some (.ref nr)]/\Zh H0 H2/\H2 pb=some (.lst ys)/\ys=hs.map V.int/\hs.length<=i/\IB m hs)
   ⟨none,[],rfl,Zh.new DX,Za,rfl,ax _,λ_ h=>nomatch h⟩ ?_ ?_ ?_
  ·rintro i ys σ H2 _ ⟨v0,hs,_,_,h,_⟩;exact h
  ·rintro i ys σ H2 hi ⟨v0,hs,rfl,sm,hp,rfl,hl,kC⟩;refine⟨_,rfl,nr,_,0,_,rfl,rfl,ag.of (sm _ _ e0),RZ,_,rfl,_,_,rfl,rfl,_,_,rfl,rfl,.inr ⟨by omega,by omega⟩,_,_,rfl,rfl,.inr ⟨by decide,by decide⟩,_,_,rfl,rfl,(by show(0:Int)<1000003;decide),_,_,rfl,rfl,(by show(0:Int)<3;decide),rfl,_,rfl,cC (λ_=>?_) (λ_=>?_)⟩
   ·refine⟨_,rfl,hp,Zr (by rw[ar];omega),CW.next hi ⟨_,hs ++ [0+(i:Int)],rfl,sm.bA DX,Za,by rw[bP];rfl,by rw[aH,cL];omega,kC.snoc (by omega)⟩⟩
   ·exact CW.next hi ⟨_,hs,rfl,sm,hp,rfl,by omega,kC⟩
  rintro ys σ H2 ⟨v0,hs,rfl,s2,hp,rfl,hl,kC⟩;refine⟨_,rfl,m,rfl,by omega,by omega,λpf wt=>?_⟩;refine Hq (lo:=0) (n:=m.toNat) (p:=pf) (λi ys σ H3=>∃(v0:Option V)(es:List Int),σ =[v0,some (.ref nr)]/\Zh H2 H3/\H3 pf=some (.lst ys)/\ys=es.map V.int/\es.length<=i/\IB m es)
   ⟨none,[],rfl,Zh.new wt,Za,rfl,ax _,λ_ h=>nomatch h⟩ ?_ ?_ ?_
  ·rintro i ys σ H3 _ ⟨v0,es,_,_,h,_⟩;exact h
  ·rintro i ys σ H3 hi ⟨v0,es,rfl,sm,DW,rfl,qU,oP⟩;refine⟨_,rfl,nr,_,1,_,rfl,rfl,ag.of (sm _ _ (s2 _ _ e0)),lA,_,rfl,_,_,rfl,rfl,_,_,rfl,rfl,.inr ⟨by omega,by omega⟩,_,_,rfl,rfl,.inr ⟨by decide,by decide⟩,_,_,rfl,rfl,(by show(0:Int)<1000033;decide),_,_,rfl,rfl,(by show(0:Int)<2;decide),rfl,_,rfl,cC (λ_=>?_) (λ_=>?_)⟩
   ·refine⟨_,rfl,DW,Zr (by rw[ar];omega),CW.next hi ⟨_,es ++ [0+(i:Int)],rfl,sm.bA wt,Za,by rw[bP];rfl,by rw[aH,cL];omega,oP.snoc (by omega)⟩⟩
   ·exact CW.next hi ⟨_,es,rfl,sm,DW,rfl,by omega,oP⟩
  rintro ys σ H3 ⟨v0',es,rfl,s3,DW,rfl,qU,oP⟩;have iq:=s2.trans s3;have t3:=iq _ _ e0;have p3:=s3 _ _ hp;have ZDV:H2 pf=none:=wt;have US:pb≠pf:=Zd hp wt;have nrb:nr≠pb:=Zd e0 DX;have wL:nr≠pf:=Zd (s2 _ _ e0) wt;have LZ:=s0.trans iq;have Zzc:H pb=none:=s0.free DX;have Zze:H pf=none:=(s0.trans s2).free wt;refine⟨_,rfl,.inl ⟨rfl,_,ag.of p3⟩,_,rfl,nr,_,0,_,rfl,rfl,ag.of t3,RZ,_,rfl,_,_,rfl,rfl,o9,pb,_,_,rfl,rfl,p3,Zr (by rw[ar];omega),?_⟩;have s4:=LZ.bA (o:=.lst (hs.map V.int ++ [.int (x0 % m)])) Zzc;have x4:(upd H3 pb (.lst (hs.map V.int ++ [.int (x0 % m)]))) pb=some (.lst ((hs ++ [x0 % m]).map V.int)):=by rw[Za,bP];rfl
  have y4:(upd H3 pb (.lst (hs.map V.int ++ [.int (x0 % m)]))) pf=some (.lst (es.map V.int)):=by rw[Zc US.symm];exact DW
  have z4:(upd H3 pb (.lst (hs.map V.int ++ [.int (x0 % m)]))) nr=some (.lst (xs.map V.int)):=by rw[Zc nrb];exact t3
  generalize upd H3 pb (.lst (hs.map V.int ++ [.int (x0 % m)]))=H4 at s4 x4 y4 z4 ⊢;refine⟨_,rfl,.inl ⟨rfl,_,ag.of y4⟩,_,rfl,nr,_,1,_,rfl,rfl,ag.of z4,lA,_,rfl,_,_,rfl,rfl,o9,pf,_,_,rfl,rfl,y4,Zr (by rw[ar];omega),?_⟩;refine hR _ _ ⟨fi,m,nr,pb,pf,xs,hs ++ [x0 % m],es ++ [x1 % m],rfl,s4.bA Zze,m1,uu,?_,rn,Uj,?_,?_,by rw[aH,cL];omega,by simp,by rw[aH,cL];omega,kC.snoc (oz _ m1),oP.snoc (oz _ m1)⟩
  ·rw[Zc wL];exact z4
  ·rw[Zc US];exact x4
  ·rw[Za,bP];rfl
 refine⟨_,(Ze (Zt (i:=7) mq.nd rfl (Or.inl rfl) PF)
  (Ze (c7 cN rfl (fc (Py Qk (pv 4) (IK Zj) Cu)) (Zm (i:=8) mq.nd rfl (Or.inl rfl))
   (Ze (Zt (i:=9) mq.nd rfl (Or.inl rfl) (ZR ZQ (pv 1) (Zx eG (Zx sU (pv 8) (pv 3)) Zj) (λ_ _=>rfl)))
    (Ze (Zt (i:=10) mq.nd rfl (Or.inl rfl) (Zx eG (Zx sU (Zx sU (pv 8) (pv 3)) Zj) (pv 3)))
    (Zg (qu bN (pv 7) (gh (Zb (Zx eG (pv 8) (pv 3)) (Zb (pv 9) (Zb (pv 10) (Zb (Zx eG (Zx sU (pv 8) (Zx oj (Zx oj Zj (pv 3)) (pv 3))) (pv 3)) Zf))))) eJ rfl)))))
  (Zg (ZD (gh (Zb (pv 3) (Zb (Z8 Hw rfl (B "tuple" (by decide)) Ik (Zb (B6 P9 rfl hu rfl (B "sorted" (by decide)) rfl (B "set" (by decide)) (Zb (pv 5) Zf)) Zf)) (Zb (Z8 Hw rfl (B "tuple" (by decide)) Ik (Zb (B6 P9 rfl hu rfl (B "sorted" (by decide)) rfl (B "set" (by decide)) (Zb (pv 6) Zf)) Zf)) (Zb (Z8 Hw rfl (B "tuple" (by decide)) Ik (Zb (Z0 (Zfo rfl) rfl (B "sorted" (by decide)) H_ (Zb (Z8 (Zs rfl) rfl (B "list" (by decide)) n_ (Zb (pv 7) Zf)) Zf)) Zf)) Zf))))))))),?_⟩
 rintro gz H0 ⟨fi,m,nr,pb,pf,xs,hs,es,rfl,s0,m1,uu,e0,rn,Uj,eb,ef,Td,hh0,zQ,hhb,heb⟩;have o9:(0:Int)<m:=by omega
 refine λd hd=>?_;have wO:Zh H0 (upd H0 d (.dT [])):=Zh.new hd;have eb0:=wO _ _ eb;have ef0:=wO _ _ ef;have U7:=s0.trans wO;have Vg:(upd H0 d (.dT [])) d=some (.dT []):=Za;have R7:=wO _ _ e0;generalize upd H0 d (.dT [])=H1 at wO eb0 ef0 U7 Vg R7 ⊢;refine⟨_,rfl,2,rfl,nr,_,rfl,ag.of R7,λsl D7=>?_⟩;rw[show kf (xs.map V.int) (some 2) none=(xs.drop 2).map V.int by rw[List.map_drop];exact ZlI _ 2];have ss:Zh H1 (upd H1 sl (.lst ((xs.drop 2).map V.int))):=Zh.new D7;have pF:(upd H1 sl (.lst ((xs.drop 2).map V.int))) sl=some (.lst ((xs.drop 2).map V.int)):=Za;have TL:(xs.drop 2).length<=7:=by rw[rV];omega
 generalize upd H1 sl (.lst ((xs.drop 2).map V.int))=H2 at ss pF ⊢;generalize xs.drop 2=nn at pF TL ⊢;have oN:H0 d=none:=hd;have U6:=U7.trans ss;have Mg:=ss _ _ Vg;refine⟨sl,rfl,⟨_,ag.of pF⟩,iG (K:=K) (a:=sl) (xs:=nn.map V.int) (λi σ H3=>∃(v8 v9 v10:Option V)(mm:List (List Key×V))(qs:List av.Qd),σ =[some (.ref a),some (.ref tr),some (.int fi),some (.int m),some (.ref nr),some (.ref pb),some (.ref pf),some (.ref d),v8,v9,v10]/\(∀b o,b≠d->H2 b=some o->H3 b=some o)/\H3 d=some (.dT mm)/\mm.map (·.1)=qs.map jF/\qs.Nodup/\qs.length<=i/\QB m qs/\∀q∈qs,q.2.1∈ts)
  ⟨none,none,none,[],[],rfl,λb o _ z=>z,Mg,rfl,pR,ax _,(λ_ h=>nomatch h),(λ_ h=>nomatch h)⟩ ?_ ?_ ?_⟩
 ·rintro i σ H3 _ ⟨_,_,_,_,_,_,s3,_⟩;exact ag.of (s3 _ _ (fg pF Mg λy=>nomatch y) pF)
 ·rintro i x σ H3 hx ⟨v8,v9,v10,mm,qs,rfl,s3,hm,hk,cI,kJ,kI,lI⟩;rw[bW] at hx;obtain⟨n,hn,rfl⟩:=dv.mp hx;have ik:=(cT.mp hn).1;have cO:mm.length=qs.length:=by have:=congrArg fA hk;simpa using this
  have mb:m*m<=16:=by
   have:m*m<=4*4:=Int.mul_le_mul uu uu (by omega) (by decide);omega
  have mm3:(0:Int)<3*m*m:=Int.mul_pos (by omega) o9;have mm4:3*m*m<1073741824:=by
   rw[Int.mul_assoc];omega
  have j3:=oz (n / m) (n:=3) (by decide);have vQ:H3 tr=some (.lst (ts.map V.str)):=s3 _ _ (fg (U6 _ _ hT) Mg λy=>nomatch y) (U6 _ _ hT)
  have hti:fH (ts.map V.str) (n / m % 3)=some (.str (ts[(n / m % 3).toNat]'(by omega))):=by
   have e:=QR (ws:=ts) (n:=(n / m % 3).toNat) (by omega);rw[fM j3.1] at e;exact e
  refine⟨_,rfl,_,rfl,_,rfl,_,_,rfl,rfl,⟨o9,by omega⟩,_,_,rfl,rfl,(by show(0:Int)<3;decide),tr,_,_,_,rfl,rfl,ag.of vQ,hti,?_⟩;refine⟨_,rfl,_,rfl,_,_,rfl,rfl,⟨o9,by omega⟩,_,_,rfl,rfl,⟨by decide,by decide⟩,_,rfl,_,_,rfl,rfl,o9,?_⟩;refine⟨_,rfl,_,rfl,_,rfl,_,_,rfl,rfl,o9,_,rfl,_,rfl,_,rfl,_,rfl,_,_,rfl,rfl,.inl ⟨by decide,by decide⟩,_,rfl,_,_,rfl,rfl,.inr ⟨by omega,by omega⟩,_,_,rfl,rfl,⟨mm3,mm4⟩,_,rfl,_,_,rfl,rfl,o9,by show(4:Nat)<=sizeLine;decide,λt ht=>?_⟩;have ntd:t≠d:=(Zd hm ht).symm;refine⟨d,_,rfl,jk.t (k:=jF (_,_,_,_)) (by rw[Zc ntd.symm];exact hm) Za (Zr (by omega)),?_⟩;generalize TZ:((n % m,ts[(n / m % 3).toNat]'(by omega),n / m / 3 % m,n / (3*m*m) % m):av.Qd)=qq;have T3:∀q∈(if qq∈qs then qs else qs ++ [qq]),q∈qs\/q=qq:=λq hq=>by
   split at hq
   ·exact .inl hq
   ·rcases aS.mp hq with h|h
    ·exact .inl h
    ·exact .inr (ao.mp h)
  refine⟨_,_,_,_,if qq∈qs then qs else qs ++ [qq],rfl,λb o n z=>?_,Za,ZoF hk _ _,?_,?_,λq fE=>?_,λq fE=>?_⟩
  ·rw[Zc n,Zc (Zd (s3 b o n z) ht)];exact s3 b o n z
  ·split
   ·exact cI
   ·rename_i dS
    exact xE.mpr ⟨cI,MP _ _,λx hx y hy e=>dS (by rw[<- ao.mp hy,<- e];exact hx)⟩
  ·split
   ·omega
   ·rw[aH,cL];omega
  ·rcases T3 q fE with h|rfl
   ·exact kI q h
   ·rw[<- TZ];exact⟨oz n m1,oz _ m1,oz _ m1⟩
  ·rcases T3 q fE with h|rfl
   ·exact lI q h
   ·rw[<- TZ];exact Ft _
 ·rintro σ H3 ⟨v8,v9,v10,mm,qs,rfl,s3,hm,hk,cI,kJ,kI,lI⟩;rw[ar] at kJ;have iq:∀b o,b≠d->H0 b=some o->H3 b=some o:=λb o n z=>s3 _ _ n ((wO.trans ss) _ _ z);have hdH:H d=none:=s0.free oN;have sH3:Zh H H3:=λb o z=>iq _ _ (Zd z hdH) (s0 _ _ z);have eb3:=iq _ _ (Zd eb oN) eb;have ef3:=iq _ _ (Zd ef oN) ef;refine⟨_,rfl,_,rfl,⟨pb,hs,hs,rfl,ag.of eb3,λ_ h=>h,by omega,λr1 y1 ft D3 KW=>⟨r1,_,rfl,.inl ⟨ag.of Za,λu1 bN=>?_⟩⟩⟩⟩;have s4:Zh H3 (upd (upd H3 r1 (.lst (y1.map V.int))) u1 (.tup (y1.map V.int))):=(Zh.new ft).trans (Zh.new bN);have e4:(upd (upd H3 r1 (.lst (y1.map V.int))) u1 (.tup (y1.map V.int))) u1=some (.tup (y1.map V.int)):=Za;generalize upd (upd H3 r1 (.lst (y1.map V.int))) u1 (.tup (y1.map V.int))=H4 at s4 e4 ⊢;refine⟨_,rfl,⟨pf,es,es,rfl,ag.of (s4 _ _ ef3),λ_ h=>h,by omega,λr2 y2 ww D4 TC=>⟨r2,_,rfl,.inl ⟨ag.of Za,λu2 lJ=>?_⟩⟩⟩⟩
  replace D3:qG y1:=D3.imp bK
  replace D4:qG y2:=D4.imp bK
  have s5:Zh H4 (upd (upd H4 r2 (.lst (y2.map V.int))) u2 (.tup (y2.map V.int))):=(Zh.new ww).trans (Zh.new lJ);have e5:(upd (upd H4 r2 (.lst (y2.map V.int))) u2 (.tup (y2.map V.int))) u2=some (.tup (y2.map V.int)):=Za;generalize upd (upd H4 r2 (.lst (y2.map V.int))) u2 (.tup (y2.map V.int))=H5 at s5 e5 ⊢;have jI:=s4.trans s5;refine⟨_,rfl,d,mm,rfl,jI _ _ hm,λl ys hl cO=>?_⟩;rw[hk] at cO;have hQ:=KL.ZAR cO;have s6:Zh H5 (upd H5 l (.lst ys)):=Zh.new hl;have x6:(upd H5 l (.lst ys)) l=some (.lst ys):=Za;generalize upd H5 l (.lst ys)=H6 at s6 x6 ⊢;have hQ6:QL H6 ys qs:=hQ.keep λb xs e=>s6 _ _ e;refine⟨l,ys,qs,rfl,ag.of x6,by rw[hQ.length];omega,hQ6,λr zs ms ww eA c9 hQ3=>?_⟩;have s7:Zh H6 (upd H6 r (.lst zs)):=Zh.new ww;refine⟨r,_,rfl,.inl ⟨ag.of Za,λu hu=>?_⟩⟩;have s8:=s7.trans (Zh.new (o:=.tup zs) hu);have x8:(upd (upd H6 r (.lst zs)) u (.tup zs)) u=some (.tup zs):=Za;have SI:=hQ3.keep λb xs e=>s8 _ _ e;generalize upd (upd H6 r (.lst zs)) u (.tup zs)=H8 at s8 x8 SI ⊢;have s58:=s6.trans s8;refine⟨by show(4:Nat)<=sizeLine;decide,λr9 hr9=>?_⟩;have s9:Zh H8 (upd H8 r9 (.tup [.int m,.ref u1,.ref u2,.ref u])):=Zh.new hr9;have s89:=s8.trans s9;have L0:=s6.trans s89;refine q r9 ⟨m,y1,y2,ms⟩ _ ((sH3.trans jI).trans L0) ⟨u1,u2,u,zs,Za,L0 _ _ (s5 _ _ e4),L0 _ _ e5,s9 _ _ x8,SI.keep λb xs e=>s9 _ _ e⟩
   ⟨by show 0<=m;omega,by show m<=7;omega,D3,D4,av.Qg.strict eA (c9.nodup_iff.mpr cI),λx hx=>hhb x ((KW x).mp hx),λx hx=>heb x ((TC x).mp hx),λx hx=>kI x (c9.mem_iff.mp hx),?_,?_,by show ms.length<=60;rw[c9.length_eq];omega,λz hz=>ZnJ (aB _ (lI z (c9.mem_iff.mp hz))).1⟩ uu ?_ (by show ms.length<=40;rw[c9.length_eq];omega) λx hx=>lI x (c9.mem_iff.mp hx)
  ·exact cm (nX (Oz D3) λx hx=>(KW x).mp hx) (by omega)
  ·exact cm (nX (Oz D4) λx hx=>(TC x).mp hx) (by omega)
  ·intro z;cases hs with
   | nil=>exact hh0 rfl
   | cons x hs =>
    have:=(KW x).mpr (aZ ..);rw[show y1=[] from z] at this;cases this
def mE(H:Hp)(v:V):Option (List Str)->Prop
 | none=>v=.aD
 | some w=>∃b,v=.ref b/\H b=some (.lst (w.map V.str))/\eZ w
def RC(x:List Str):Option (List Str)->Bool
 | none=>true
 | some w=>aQ x w
def PM:Sp:=λvs H Q _=>∃(r:Addr)(v:V)(x:List Str)(o:Option (List Str)),vs=[.ref r,v]/\H r=some (.lst (x.map V.str))/\eZ x/\mE H v o/\Q (.bl (RC x o)) H
theorem Zhb(B:∀x∈cj,mg x=none)(F:bC K "_law_lesser" "_law_lesser" HI f fd):aX P w K mg base bq 1 f fd ["_law_row","_law_other"] PM:=by
 refine F.ok Zgu (λvs H Q E h=>?_) (λaK A outer s H vs Q E hr h=>?_)
 ·obtain⟨r,v,x,o,rfl,_⟩:=h;rfl
 obtain⟨r,v,x,o,rfl,ft,hx,ho,q⟩:=h;have hu:=oe hr;refine⟨_,(Ze (c6 (PW.pt (CV (Zy tm (pv 1) fS (ZK _)) (CJ (Zy Jt (Z0 ZP rfl (B "len" (by decide)) jT (Zb (pv 0) Zf)) (Z0 ZP rfl (B "len" (by decide)) jT (Zb (pv 1) Zf)) (ZK _)))))
   (Zg (ZD (ZoW (mx tm (pv 1) fS (ZK _)) (yY (mx CQ (Z0 ZP rfl (B "len" (by decide)) jT (Zb (pv 0) Zf)) (Z0 ZP rfl (B "len" (by decide)) jT (Zb (pv 1) Zf)) (ZK _))))))
   ZV)
  (Zg (ZD (mx (Zn8 hu) (pv 0) (pv 1) (ZK _))))),?_⟩
 cases o with
 | none =>
  have hv:v=.aD:=ho;subst hv;refine⟨_,rfl,rfl,_,rfl,cC (λ_=>?_) (λc=>absurd (aP rfl) c)⟩;refine cA ?_;exact⟨_,rfl,rfl,_,rfl,cC (λ_=>q) (λc=>absurd (aP rfl) c)⟩
 | some w' =>
  obtain⟨b,rfl,hb,hw⟩:=ho;refine⟨_,rfl,rfl,_,rfl,cC (λc=>nomatch bK c) (λ_=>?_)⟩
  refine⟨_,rfl,r,_,rfl,.inl (ag.of ft),_,rfl,b,_,rfl,.inl (ag.of hb),rfl,_,rfl,?_⟩;have q':Q (.bl (aQ x w')) H:=q;have el:(!decide (V.int ((x.map V.str).length:Int)=V.int ((w'.map V.str).length:Int)))= !decide (x.length=w'.length):=by
   rw[ar,ar]
   congr 1
   exact decide_eq_decide.mpr ⟨λz=>by injection z with z;lia,λz=>by rw[z]⟩
  refine cC (λc=>?_) (λc=>?_)
  ·have bt:x.length≠w'.length:=λz=>by
    have c:(!decide (V.int ((x.map V.str).length:Int)=V.int ((w'.map V.str).length:Int)))=true:=c;rw[el,z] at c;simp at c
   refine⟨_,rfl,rfl,_,rfl,cC (λc=>nomatch bK c) (λ_=>⟨_,rfl,r,_,rfl,.inl (ag.of ft),_,rfl,b,_,rfl,.inl (ag.of hb),_,_,rfl,rfl,?_⟩)⟩
   have eb:decide (((x.map V.str).length:Int)<((w'.map V.str).length:Int))=aQ x w':=by
    rw[aQ,ah bt,ar,ar];exact decide_eq_decide.mpr (by lia)
   show Q (.bl (decide (((x.map V.str).length:Int)<((w'.map V.str).length:Int)))) H;rw[eb];exact q'
  ·have oO:x.length=w'.length:=by
    have c : ¬ (!decide (V.int ((x.map V.str).length:Int)=V.int ((w'.map V.str).length:Int)))=true:=c;rw[el] at c
    simpa using c
   refine⟨_,rfl,_,rfl,_,_,_,.lst (ag.of ft) (vy x),.lst (ag.of hb) (vy w'),yL hx,yL hw,cm (WE _ _) ?_,.lst (Ie x w'),?_⟩
   ·show kR (x.map f')+1<=200;rw[B5]
    decide
   ·rw[aQ,aj oO] at q';exact q'
inductive En(ts:List Str)(o:Nat):List Str->Nat->Nat->Prop
 | nil:En ts o [] o 0
 | sl {w:List Str} {l u:Nat}:En ts o w (l+1) u->En ts o (w ++ [SL]) l u
 | tag {w:List Str} {l u:Nat} {t:Str}:En ts o w l u->u<2->t∈ts->En ts o (w ++ [t]) (l+1) (u+1)
abbrev Ro:=List Str×Nat×Nat
def mF(H:Hp)(ex:List Addr)(z:V)(x:Ro):Prop := ∃(p c:Addr),z=.ref p/\H p=some (.tup [.ref c,.int (x.2.1:Int),.int (x.2.2:Int)])/\c∉ex/\H c=some (.lst (x.1.map V.str))
def tE(H:Hp)(ex:List Addr)(c:Addr)(w:List Str):Prop:=c∉ex/\H c=some (.lst (w.map V.str))
variable{x:Ro}{ex fP:List Addr}
theorem mF.keep{z:V}(h:mF H ex z x)(k:∀b o,b∉fP->H b=some o->H' b=some o)(t:∀b xs,H b=some (.tup xs)->H' b=some (.tup xs))(e:∀c xs,c∉ex->H c=some (.lst xs)->c∉fP):mF H' fP z x:=by
 obtain⟨p,c,h1,h2,h3,h4⟩:=h;exact⟨p,c,h1,t _ _ h2,e _ _ h3 h4,k _ _ (e _ _ h3 h4) h4⟩
theorem tE.keep{c:Addr}{w:List Str}(h:tE H ex c w)(k:∀b o,b∉fP->H b=some o->H' b=some o)(e:∀c xs,c∉ex->H c=some (.lst xs)->c∉fP):tE H' fP c w:=⟨e _ _ h.1 h.2,k _ _ (e _ _ h.1 h.2) h.2⟩
def Nx(ts:List Str)(x y:Ro):Prop:=x.2.1≠0/\y=(x.1 ++ [SL],x.2.1-1,x.2.2)\/x.2.2<2/\∃t∈ts,y=(x.1 ++ [t],x.2.1+1,x.2.2+1)
variable{o u:Nat}{ts:List Str}
theorem En.len{w:List Str}{l:Nat}(h:En ts o w l u):w.length+l=o+2*u/\u<=2:=by
 induction h with
 | nil=>exact⟨by simp,by lia⟩
 | sl _ ih=>rw[aH,cL];lia
 | tag _ hu _ ih=>rw[aH,cL];lia
theorem En.inv{w:List Str}{l:Nat}(h:En ts o w l u):(w=[]/\l=o/\u=0)\/∃x:Ro,En ts o x.1 x.2.1 x.2.2/\Nx ts x (w,l,u):=by
 cases h with
 | nil=>exact .inl ⟨rfl,rfl,rfl⟩
 | @sl w l u h=>exact .inr ⟨(w,l+1,u),h,.inl ⟨Nat.succ_ne_zero l,rfl⟩⟩
 | @tag w l u t h hu ht=>exact .inr ⟨(w,l,u),h,.inr ⟨hu,t,ht,rfl⟩⟩
theorem Nx.en{y:Ro}(h:Nx ts x y)(e:En ts o x.1 x.2.1 x.2.2):En ts o y.1 y.2.1 y.2.2:=by
 obtain⟨w,l,u⟩:=x;rcases h with⟨h1,rfl⟩|⟨h1,t,ht,rfl⟩
 ·cases l with
  | zero=>exact absurd rfl h1
  | succ l=>exact .sl e
 ·exact .tag e h1 ht
theorem Nx.len{y:Ro}(h:Nx ts x y):y.1.length=x.1.length+1:=by
 rcases h with⟨_,rfl⟩|⟨_,t,_,rfl⟩ <;> rw[aH,cL]
def Lay(ts:List Str)(o i:Nat)(xs:List Ro):Prop := ∀y:Ro,y∈xs↔En ts o y.1 y.2.1 y.2.2/\y.1.length=i
theorem Lay.zero:Lay ts o 0 [([],o,0)]:=λy=>by
 rw[ao];constructor
 ·rintro rfl;exact⟨.nil,rfl⟩
 ·rintro⟨h1,h2⟩;obtain⟨w,l,u⟩:=y;rcases h1.inv with⟨z1,z2,z3⟩|⟨x,_,hx⟩
  ·dsimp only at z1 z2 z3;rw[z1,z2,z3]
  ·have:=hx.len;dsimp only at h2 this;lia
variable{xs:List Ro}{i:Nat}
theorem Lay.next{ys:List Ro}(h:Lay ts o i xs)(hy:∀y,y∈ys↔∃x∈xs,Nx ts x y):Lay ts o (i+1) ys:=λy=>by
 rw[hy];constructor
 ·rintro⟨x,hx,hn⟩;obtain⟨h1,h2⟩:=(h x).mp hx;exact⟨hn.en h1,by rw[hn.len,h2]⟩
 ·rintro⟨h1,h2⟩;obtain⟨w,l,u⟩:=y;rcases h1.inv with⟨z,_,_⟩|⟨x,e,hx⟩
  ·dsimp only at z h2;rw[z] at h2;cases h2
  ·have:=hx.len;dsimp only at this h2;exact⟨x,(h x).mpr ⟨e,by lia⟩,hx⟩
def ve(ts:List Str)(o i:Nat)(ws:List (List Str)):Prop := ∀w,w∈ws↔(∃u,En ts o w 0 u)/\w.length<i
theorem ve.next{fF:List (List Str)}(hx:Lay ts o i xs)(h:ve ts o i ws)(h':∀w,w∈fF↔w∈ws\/∃x∈xs,x.2.1=0/\x.1=w):ve ts o (i+1) fF:=λw=>by
 rw[h',h];constructor
 ·rintro(⟨h1,h2⟩|⟨x,h1,h2,rfl⟩)
  ·exact⟨h1,by lia⟩
  ·obtain⟨e,hl⟩:=(hx x).mp h1;rw[h2] at e;exact⟨⟨_,e⟩,by lia⟩
 ·rintro⟨⟨u,h1⟩,h2⟩;rcases MS.mp h2 with h2|h2
  ·exact .inl ⟨⟨u,h1⟩,h2⟩
  ·exact .inr ⟨(w,0,u),(hx _).mpr ⟨h1,h2⟩,rfl,rfl⟩
theorem ve.all(h:ve ts o i ws)(hi:o+5<=i):∀w,w∈ws↔∃u,En ts o w 0 u:=λw=>by
 rw[h];refine⟨λz=>z.1,?_⟩;rintro⟨u,e⟩;refine⟨⟨u,e⟩,?_⟩;have:=e.len;lia
theorem P8{fl rl l1 c1 p1:Addr}{zf os:List V}{xf:List Ro}{w:List Str}{t:Str}{l:Nat}{i j:Int}(hf:H fl=some (.lst zf))(hr:H rl=some (.lst os))(h1:H l1=none)(h2:upd H l1 (.lst [.str t]) c1=none)(h3:upd (upd H l1 (.lst [.str t])) c1 (.lst (w.map V.str ++ [.str t])) p1=none)(hz:aN (mF H [rl,fl]) zf xf)(hi:i=(l:Int))(hj:j=(u:Int)) :
  (∀b o,b≠fl->H b=some o->upd (upd (upd (upd H l1 (.lst [.str t])) c1 (.lst (w.map V.str ++ [.str t]))) p1 (.tup [.ref c1,.int i,.int j])) fl (.lst (zf ++ [.ref p1])) b=some o)/\aN (mF (upd (upd (upd (upd H l1 (.lst [.str t])) c1 (.lst (w.map V.str ++ [.str t]))) p1 (.tup [.ref c1,.int i,.int j])) fl (.lst (zf ++ [.ref p1]))) [rl,fl]) (zf ++ [.ref p1]) (xf ++ [(w ++ [t],l,u)]):=by
 subst hi hj;have s1:Zh H (upd H l1 (.lst [.str t])):=Zh.new h1;have s2:=s1.trans (Zh.new (o:=.lst (w.map V.str ++ [.str t])) h2);have s3:=s2.trans (Zh.new (o:=.tup [.ref c1,.int (l:Int),.int (u:Int)]) h3);have k:∀b o,b≠fl->H b=some o->upd (upd (upd (upd H l1 (.lst [.str t])) c1 (.lst (w.map V.str ++ [.str t]))) p1 (.tup [.ref c1,.int (l:Int),.int (u:Int)])) fl (.lst (zf ++ [.ref p1])) b=some o:=λb o n z=>by
  rw[Zc n];exact s3 _ _ z
 have nf:∀b,b ∉ [rl,fl]->b≠fl:=λb h z=>h (by rw[z];simp);have R3:fl≠c1:=Zd (s1 _ _ hf) h2;have c1r:rl≠c1:=Zd (s1 _ _ hr) h2;have p1f:fl≠p1:=Zd (s2 _ _ hf) h3;have cp:c1≠p1:=Zd (show _=some _ from Za) h3;refine⟨k,aN.app (aN.cM hz λz x h=>h.keep (λb o n z=>k b o (nf b n) z) (λb xs z=>k b _ (λy=>by rw[y,hf] at z;cases z) z) λc _ h _=>h) (.cons ⟨p1,c1,rfl,?_,λh=>?_,?_⟩ .nil)⟩
 ·rw[Zc p1f.symm];exact Za
 ·rcases aV.mp h with h|h
  ·exact c1r h.symm
  ·exact R3 (ao.mp h).symm
 ·rw[Zc R3.symm,Zc cp,show((w ++ [t],l,u):Ro).1.map V.str=w.map V.str ++ [.str t] from bP ..];exact Za
def O6(K:au):Sp:=λvs H Q _=>∃(o:Nat)(tr:Addr)(ts:List Str),vs=[.int (o:Int),.ref tr]/\o<=3/\H tr=some (.lst (ts.map V.str))/\ts.length<=3/\∀(r:Addr)(cs:List Addr)(ws:List (List Str))(H':Hp),Zh H H'->H' r=some (.lst (cs.map V.ref))->aN (λc w=>H' c=some (.lst (w.map V.str))) cs ws->ws.length<=100000->(∀w,w∈ws↔∃u,En ts o w 0 u)->Q (.ref r) H'
set_option maxHeartbeats 2000000 in
theorem Zf6(B:∀x∈cj,mg x=none)(F:bC K "_law_endings" "_law_endings" ZJ f fd):aX P w K mg base bq 1 f fd ["_law_opened","_law_tags_here"] (O6 K):=by
 refine F.ok Z3 (λvs H Q E h=>?_) (λaK A outer s H vs Q E hr h=>?_)
 ·obtain⟨o,tr,ts,rfl,_⟩:=h;rfl
 obtain⟨o,tr,ts,rfl,ho,hT,h3,q⟩:=h;have hu:=oe hr;have bN:=vE hr;refine ZM ((Zn ZJ).drop 3) (Zg (ZD (pv 2))) (λu3 h3 e3=>?_);refine ZM ((bX ((Zn ZJ).getD 2 (.Pass ⟨0,0,0,0⟩))).drop 2) (Zg (Zt (i:=3) Z3.nd rfl (Or.inl rfl) (pv 5))) (λZBr Zxx ZwG=>?_);refine ZM ((bX ((bX ((bX ((bX ((Zn ZJ).getD 2 (.Pass ⟨0,0,0,0⟩))).getD 1 (.Pass ⟨0,0,0,0⟩))).getD 1 (.Pass ⟨0,0,0,0⟩))).getD 0 (.Pass ⟨0,0,0,0⟩))).drop 0) (Zg (Z2 (ff dX gC gD ZG (pv 5) (Zb (gh (Zb (Zx ze (pv 6) (Z9 (Zb (pv 9) Zf))) (Zb (Zx gc (pv 7) Zj) (Zb (Zx gc (pv 8) Zj) Zf)))) Zf)))) (λZBq Zxw ZwF=>?_);refine ZM ((bX ((bX ((bX ((Zn ZJ).getD 2 (.Pass ⟨0,0,0,0⟩))).getD 1 (.Pass ⟨0,0,0,0⟩))).getD 1 (.Pass ⟨0,0,0,0⟩))).drop 0) (Zg (c7 cN rfl (fc (pv 1)) (Zm (i:=9) Z3.nd rfl (Or.inl rfl))
   Zxw)) (λZEz Zxv ZwE=>?_)
 refine ZM ((bX ((bX ((Zn ZJ).getD 2 (.Pass ⟨0,0,0,0⟩))).getD 1 (.Pass ⟨0,0,0,0⟩))).drop 1) (Zg (c6 (Zy CQ (pv 8) Zj (ZK _))
   Zxv
   ZV)) (λZBp Zxu ZwD=>?_)
 refine ZM ((bX ((bX ((Zn ZJ).getD 2 (.Pass ⟨0,0,0,0⟩))).getD 1 (.Pass ⟨0,0,0,0⟩))).drop 0) (Ze (c6 (Zy j9 (pv 7) Zj (ZK _))
   (Zg (Z2 (ff dX gC gD ZG (pv 2) (Zb (pv 6) Zf))))
   (Zg (Z2 (ff dX gC gD ZG (pv 5) (Zb (gh (Zb (Zx ze (pv 6) (Z9 (Zb jj Zf))) (Zb (Zx Jp (pv 7) Zj) (Zb (pv 8) Zf)))) Zf))))) Zxu) (λZBo Zxt ZwC=>?_)
 refine ZM ((bX ((Zn ZJ).getD 2 (.Pass ⟨0,0,0,0⟩))).drop 1) (Ze (c7 cN rfl (fc (pv 3)) (gJ rfl (Zo (Zm (i:=6) Z3.nd rfl (Or.inl rfl)) (Zo (Zm (i:=7) Z3.nd rfl (Or.inl rfl)) (Zo (Zm (i:=8) Z3.nd rfl (Or.inl rfl)) gi))))
   Zxt) Zxx) (λZBn Zxs ZwB=>?_)
 refine ZM ((bX ((Zn ZJ).getD 2 (.Pass ⟨0,0,0,0⟩))).drop 0) (Ze (Zt (i:=5) Z3.nd rfl (Or.inl rfl) (Z9 Zf)) Zxs) (λZBm Zxr ZwA=>?_);refine ZM ((Zn ZJ).drop 2) (Ze (c7 cN rfl (vj rfl (B "range" (by decide)) (Zb (Zx gc (pv 0) Zj) Zf)) (Zm (i:=4) Z3.nd rfl (Or.inl rfl))
   Zxr) h3) (λu2 h2 e2=>?_)
 refine ZM ((Zn ZJ).drop 1) (Ze (Zt (i:=3) Z3.nd rfl (Or.inl rfl) (Z9 (Zb (gh (Zb (Z9 Zf) (Zb (pv 0) (Zb Zj Zf)))) Zf))) h2) (λu1 h1 e1=>?_);refine ZM ((Zn ZJ).drop 0) (Ze (Zt (i:=2) Z3.nd rfl (Or.inl rfl) (Z9 Zf)) h1) (λu0 h0 e0=>?_);refine⟨u0,h0,?_⟩;have p3:(3:Nat)<=sizeLine:=by decide
 have p1:(1:Nat)<=sizeLine:=by decide
 refine ZL e0 ?_;refine⟨by decide,λrl Ak=>?_⟩;show u1 _ _ _;have sr:Zh H (upd H rl (.lst [])):=Zh.new Ak;refine ZL e1 ?_;refine⟨by decide,λc0 kr=>⟨_,rfl,p3,λp0 il=>⟨p1,λs0 rc=>?_⟩⟩⟩;show u2 _ _ _;have sc:Zh (upd H rl (.lst [])) (upd (upd H rl (.lst [])) c0 (.lst [])):=Zh.new kr;have sp:=sc.trans (Zh.new (o:=.tup [.ref c0,.int (o:Int),.int 0]) il);have ss:=sp.trans (Zh.new (o:=.lst [.ref p0]) rc);have n0r:c0≠rl:=(Zd (show _=some _ from Za) kr).symm;have nsr:s0≠rl:=(Zd (sp _ _ Za) rc).symm;have UR:c0≠p0:=Zd (show _=some _ from Za) il;have nps:p0≠s0:=Zd (show _=some _ from Za) rc;have rD:c0≠s0:=Zd (show _=some _ by rw[Zc UR];exact Za) rc;have pw:∀i,i<=8->4 ^ i<=65536:=λi hi=>cm (MV (by decide) hi) (by decide);refine ZL e2 ?_;refine⟨_,rfl,_,_,rfl,rfl,_,rfl,by lia,by lia,HZ (lo:=0) (n:=((o:Int)+5).toNat) (λi σ H5=>∃(s1:Addr)(y4 y5 y6 y7 y8 y9:Option V)(cs:List Addr)(ws:List (List Str))(zs:List V)(xs:List Ro),σ =[some (.int (o:Int)),some (.ref tr),some (.ref rl),some (.ref s1),y4,y5,y6,y7,y8,y9]/\Zh H H5/\H5 rl=some (.lst (cs.map V.ref))/\aN (tE H5 [rl]) cs ws/\H5 s1=some (.lst zs)/\s1≠rl/\aN (mF H5 [rl]) zs xs/\Lay ts o i xs/\ve ts o i ws/\zs.length<=4 ^ i/\cs.length<=4 ^ i)
  ⟨s0,none,none,none,none,none,none,[],[],[.ref p0],[([],o,0)],rfl,sr.trans ss,ss _ _ Za,.nil,Za,nsr,.cons ⟨p0,c0,rfl,?_,?_,?_⟩ .nil,Lay.zero,λw=>⟨λh=>(nomatch h),λh=>absurd h.2 (r6 _)⟩,ax _,bz _⟩ ?_ ?_⟩
 ·rw[Zc nps];exact Za
 ·exact λz=>n0r (ao.mp z)
 ·rw[Zc rD,Zc UR];exact Za
 ·rintro i σ H5 hi ⟨s1,y4,y5,y6,y7,y8,y9,cs,ws,zs,xs,rfl,s5,Al,Dj,D6,UU,Eh,hL,hD,iR,aY⟩;have hi8:=pw i (by lia);show ZBm _ _ _;refine ZL ZwA ?_;refine⟨by decide,λfl eS=>?_⟩;show ZBn _ _ _;have sf:Zh H5 (upd H5 fl (.lst [])):=Zh.new eS;have AS:rl≠fl:=Zd Al eS;have nfs:s1≠fl:=Zd D6 eS;have uC:∀c xs,c ∉ [rl]->H5 c=some (.lst xs)->c ∉ [rl,fl]:=λc xs h1 h2 h3=>by
   rcases aV.mp h3 with h3|h3
   ·exact h1 (ao.mpr h3)
   ·rw[ao.mp h3,eS] at h2;cases h2
  refine ZL ZwB ?_;refine⟨_,rfl,s1,rfl,⟨_,ag.of (sf _ _ D6)⟩,iG (K:=K) (a:=s1) (xs:=zs) (λj σ H6=>∃(y6 y7 y8 y9:Option V)(fO:List Addr)(fF:List (List Str))(zf:List V)(xf:List Ro),σ =[some (.int (o:Int)),some (.ref tr),some (.ref rl),some (.ref s1),some (.int (0+(i:Int))),some (.ref fl),y6,y7,y8,y9]/\(∀b o,b ∉ [rl,fl]->H5 b=some o->H6 b=some o)/\H6 rl=some (.lst (fO.map V.ref))/\aN (tE H6 [rl,fl]) fO fF/\H6 fl=some (.lst zf)/\aN (mF H6 [rl,fl]) zf xf/\(∀w,w∈fF↔w∈ws\/∃x∈xs.take j,x.2.1=0/\x.1=w)/\(∀y,y∈xf↔∃x∈xs.take j,Nx ts x y)/\zf.length<=4*j/\fO.length<=cs.length+j)
   ⟨y6,y7,y8,y9,cs,ws,[],[],rfl,λb o _ z=>sf _ _ z,sf _ _ Al,aN.cM Dj λc w h=>h.keep (λb o _ z=>sf _ _ z) uC,Za,.nil,λw=>⟨.inl,λh=>h.elim id λ⟨_,z,_⟩=>nomatch z⟩,λy=>⟨λh=>(nomatch h),λ⟨_,z,_⟩=>nomatch z⟩,bz _,ax _⟩ ?_ ?_ ?_⟩
  ·rintro j σ H6 _ ⟨_,_,_,_,_,_,_,_,_,k6,_⟩;exact ag.of (k6 _ _ (λz=>(aV.mp z).elim UU λz=>nfs (ao.mp z)) D6)
  ·rintro j z σ H6 hz ⟨y6,y7,y8,y9,fO,fF,zf,xf,rfl,k6,uh,Dk,vU,Ei,Av,Aw,Ay,hcf⟩;have DO:=(cT.mp hz).1;obtain⟨x,hx⟩:∃x,xs[j]?= some x:=⟨_,bO (by rw[<- cw Eh];exact DO)⟩;obtain⟨p,c,rfl,hp5,hc5,SY⟩:=vz Eh j z x hz hx;have ET:∀b ys,H5 b=some (.tup ys)->H6 b=some (.tup ys):=λb ys h=>k6 _ _ (λz=>by
    rcases aV.mp z with z|z
    ·rw[z,Al] at h;cases h
    ·rw[ao.mp z,eS] at h;cases h) h
   have zL:c ∉ [rl,fl]:=uC _ _ hc5 SY;have Kn:=k6 _ _ zL SY;have Lj:=(hL x).mp (bY hx);have zQ:=Lj.1.len;have Aj:∀b o,H b=some o->b ∉ [rl,fl]:=λb o z h=>by
    rcases aV.mp h with h|h
    ·rw[h,Ak] at z;cases z
    ·rw[ao.mp h,s5.free eS] at z;cases z
   refine⟨p,_,rfl,az.of (ET _ _ hp5),rfl,_,_,rfl,_,_,rfl,_,_,rfl,rfl,?_⟩;show ZBo _ _ _;have st:∀(D:Ends),(∀ σ H6,(∃(y6 y7 y8 y9:Option V)(fO:List Addr)(fF:List (List Str))(zf:List V)(xf:List Ro),σ =[some (.int (o:Int)),some (.ref tr),some (.ref rl),some (.ref s1),some (.int (0+(i:Int))),some (.ref fl),y6,y7,y8,y9]/\(∀b o,b ∉ [rl,fl]->H5 b=some o->H6 b=some o)/\H6 rl=some (.lst (fO.map V.ref))/\aN (tE H6 [rl,fl]) fO fF/\H6 fl=some (.lst zf)/\aN (mF H6 [rl,fl]) zf xf/\(∀w,w∈fF↔w∈ws\/∃x∈xs.take (j+1),x.2.1=0/\x.1=w)/\(∀y,y∈xf↔∃x∈xs.take (j+1),Nx ts x y)/\zf.length<=4*(j+1)/\fO.length<=cs.length+(j+1))->D.nx σ H6)->∀(H7:Hp)(vJ:List Addr)(A1:List (List Str))(uD:List V)(xg:List Ro),(∀b o,b ∉ [rl,fl]->H6 b=some o->H7 b=some o)->H7 rl=some (.lst (vJ.map V.ref))->aN (tE H7 [rl,fl]) vJ A1->H7 fl=some (.lst uD)->aN (mF H7 [rl,fl]) uD xg->(∀w,w∈A1↔w∈ws\/∃x∈xs.take (j+1),x.2.1=0/\x.1=w)->(∀y,y∈xg↔y∈xf\/x.2.1≠0/\y=(x.1 ++ [SL],x.2.1-1,x.2.2))->uD.length<=4*j+1->vJ.length<=cs.length+(j+1) ->
     ZBp D [some (.int (o:Int)),some (.ref tr),some (.ref rl),some (.ref s1),some (.int (0+(i:Int))),some (.ref fl),some (.ref c),some (.int (x.2.1:Int)),some (.int (x.2.2:Int)),y9] H7:=by
    intro D Sv H7 vJ A1 uD xg k7 K7 SO S9 Uo Ed Uk ZEb SW;refine ZL ZwD ?_;refine⟨_,rfl,_,_,rfl,rfl,_,rfl,cC (λcu=>?_) (λcu=>?_)⟩
    ·have cu:x.2.2<2:=by
      have:=bK cu;lia
     refine ZL ZwE ?_;have Ue:H7 tr=some (.lst (ts.map V.str)):=k7 _ _ (Aj _ _ hT) (k6 _ _ (Aj _ _ hT) (s5 _ _ hT));have ntf:tr≠fl:=λz=>Aj _ _ hT (by rw[z];simp);have ncf:c≠fl:=λz=>zL (by rw[z];simp);refine⟨_,rfl,tr,rfl,⟨_,ag.of Ue⟩,iG (K:=K) (a:=tr) (xs:=ts.map V.str) (λk σ H8=>∃(y9:Option V)(uE:List V)(xh:List Ro),σ =[some (.int (o:Int)),some (.ref tr),some (.ref rl),some (.ref s1),some (.int (0+(i:Int))),some (.ref fl),some (.ref c),some (.int (x.2.1:Int)),some (.int (x.2.2:Int)),y9]/\(∀b o,b≠fl->H7 b=some o->H8 b=some o)/\H8 fl=some (.lst uE)/\aN (mF H8 [rl,fl]) uE xh/\(∀y,y∈xh↔y∈xg\/∃t∈ts.take k,y=(x.1 ++ [t],x.2.1+1,x.2.2+1))/\uE.length<=uD.length+k)
      ⟨y9,uD,xg,rfl,λb o _ z=>z,S9,Uo,λy=>⟨.inl,λh=>h.elim id λ⟨_,z,_⟩=>nomatch z⟩,ax _⟩ ?_ ?_ ?_⟩
     ·rintro k σ H8 _ ⟨_,_,_,_,k8,_⟩;exact ag.of (k8 _ _ ntf Ue)
     ·rintro k v σ H8 hv ⟨y9,uE,xh,rfl,k8,zU,Lq,wA,Ts⟩;rw[bW] at hv;obtain⟨t,ht,rfl⟩:=dv.mp hv;have cO:=(cT.mp ht).1;have hc8:=k8 _ _ ncf (k7 _ _ zL Kn);show ZBq _ _ _;refine ZL ZwF ?_;have Zzn:=k8 _ _ AS K7;refine⟨_,rfl,.inl ⟨rfl,_,ag.of zU⟩,_,rfl,_,rfl,p1,λl1 b_=>⟨c,l1,_,_,rfl,rfl,(Zh.new b_) _ _ hc8,Za,by rw[ar,Lj.2,bB];show i+1<=_;lia,λc1 lE=>⟨_,rfl,_,_,rfl,rfl,_,rfl,_,_,rfl,rfl,p3,λq1 ez=>?_⟩⟩⟩;obtain⟨g1,g2⟩:=P8 zU Zzn b_ lE ez Lq (show(x.2.1:Int)+1=((x.2.1+1:Nat):Int) by lia) (show(x.2.2:Int)+1=((x.2.2+1:Nat):Int) by lia);refine⟨fl,_,_,rfl,rfl,(((Zh.new b_).trans (Zh.new lE)).trans (Zh.new ez)) _ _ zU,by rw[bB];lia,_,uE ++ [.ref q1],xh ++ [(x.1 ++ [t],x.2.1+1,x.2.2+1)],rfl,λb o n z=>g1 b o n (k8 b o n z),Za,g2,λy=>?_,by rw[aH,cL];lia⟩;rw[aS,wA,Zi ht,ao];constructor
      ·rintro((h|⟨t',h1,h2⟩)|h)
       ·exact .inl h
       ·exact .inr ⟨t',cb _ h1,h2⟩
       ·exact .inr ⟨t,a9 _ (ao.mpr rfl),h⟩
      ·rintro(h|⟨t',h1,h2⟩)
       ·exact .inl (.inl h)
       ·rcases aS.mp h1 with h1|h1
        ·exact .inl (.inr ⟨t',h1,h2⟩)
        ·rw[ao.mp h1] at h2;exact .inr h2
     ·rintro σ H8 ⟨y9,uE,xh,rfl,k8,zU,Lq,wA,Ts⟩;rw[ar] at wA Ts;rw[cU] at wA;have nf:∀b,b ∉ [rl,fl]->b≠fl:=λb h z=>h (by rw[z];simp);refine Sv _ _ ⟨_,_,_,_,vJ,A1,uE,xh,rfl,λb o n z=>k8 b o (nf b n) (k7 _ _ n (k6 _ _ n z)),k8 _ _ AS K7,aN.cM SO λc w h=>h.keep (λb o n z=>k8 b o (nf b n) z) (λc _ h _=>h),zU,Lq,Ed,λy=>?_,by lia,SW⟩;rw[wA,Uk,Aw,Zi hx];constructor
      ·rintro((⟨x',h1,h2⟩|h)|⟨t,h1,h2⟩)
       ·exact⟨x',cb _ h1,h2⟩
       ·exact⟨x,a9 _ (ao.mpr rfl),.inl h⟩
       ·exact⟨x,a9 _ (ao.mpr rfl),.inr ⟨cu,t,h1,h2⟩⟩
      ·rintro⟨x',h1,h2⟩;rcases aS.mp h1 with h1|h1
       ·exact .inl (.inl ⟨x',h1,h2⟩)
       ·rw[ao.mp h1] at h2;rcases h2 with h2|⟨_,t,h3,h4⟩
        ·exact .inl (.inr h2)
        ·exact .inr ⟨t,h3,h4⟩
    ·have cu : ¬ x.2.2<2:=λz=>cu (aP (by lia));refine Sv _ _ ⟨_,_,_,_,vJ,A1,uD,xg,rfl,λb o n z=>k7 _ _ n (k6 _ _ n z),K7,SO,S9,Uo,Ed,λy=>?_,by lia,SW⟩;rw[Uk,Aw,Zi hx];constructor
     ·rintro(⟨x',h1,h2⟩|h)
      ·exact⟨x',cb _ h1,h2⟩
      ·exact⟨x,a9 _ (ao.mpr rfl),.inl h⟩
     ·rintro⟨x',h1,h2⟩;rcases aS.mp h1 with h1|h1
      ·exact .inl ⟨x',h1,h2⟩
      ·rw[ao.mp h1] at h2;rcases h2 with h2|⟨h3,_⟩
       ·exact .inr h2
       ·exact absurd h3 cu
   refine ZL ZwC ?_;refine⟨_,rfl,rfl,_,rfl,cC (λGu=>?_) (λGu=>?_)⟩
   ·have cz:x.2.1=0:=by
     have:=bK Gu;injection this with this;lia
    have wL:∀b,b ∉ [rl,fl]->b≠rl:=λb h z=>h (by rw[z];simp);have k7:∀b o,b≠rl->H6 b=some o->upd H6 rl (.lst (fO.map V.ref ++ [.ref c])) b=some o:=λb o n z=>by
     rw[Zc n];exact z
    refine⟨_,rfl,.inl ⟨rfl,_,ag.of uh⟩,_,rfl,rl,_,_,rfl,rfl,uh,by rw[ar,bB];lia,?_⟩;refine st _ (λσ H h=>h) _ (fO ++ [c]) (fF ++ [x.1]) zf xf (λb o n z=>k7 b o (wL b n) z) (by rw[show(fO ++ [c]).map V.ref=fO.map V.ref ++ [.ref c] from bP ..];exact Za) (aN.app (aN.cM Dk λc w h=>h.keep (λb o n z=>k7 b o (wL b n) z) (λc _ h _=>h)) (.cons ⟨zL,k7 _ _ (wL c zL) Kn⟩ .nil)) (k7 _ _ AS.symm vU) (aN.cM Ei λz x h=>h.keep (λb o n z=>k7 b o (wL b n) z) (λb xs z=>k7 b _ (λy=>by rw[y,uh] at z;cases z) z) (λc _ h _=>h)) (λw=>?_) (λy=>⟨.inl,λh=>h.elim id λz=>absurd cz z.1⟩) (by lia) (by rw[aH,cL];lia);rw[aS,Av,Zi hx,ao];constructor
    ·rintro((h|⟨x',h1,h2⟩)|h)
     ·exact .inl h
     ·exact .inr ⟨x',cb _ h1,h2⟩
     ·exact .inr ⟨x,a9 _ (ao.mpr rfl),cz,h.symm⟩
    ·rintro(h|⟨x',h1,h2⟩)
     ·exact .inl (.inl h)
     ·rcases aS.mp h1 with h1|h1
      ·exact .inl (.inr ⟨x',h1,h2⟩)
      ·rw[ao.mp h1] at h2;exact .inr h2.2.symm
   ·have cz:x.2.1≠0:=λz=>Gu (aP (by rw[z];rfl));refine⟨_,rfl,.inl ⟨rfl,_,ag.of vU⟩,_,rfl,p1,λl1 b_=>⟨c,l1,_,_,rfl,rfl,(Zh.new b_) _ _ Kn,Za,by rw[ar,Lj.2,bB];show i+1<=_;lia,λc1 lE=>⟨_,rfl,_,_,rfl,rfl,_,rfl,p3,λq1 ez=>?_⟩⟩⟩;obtain⟨g1,g2⟩:=P8 vU uh b_ lE ez Ei (show(x.2.1:Int)-1=((x.2.1-1:Nat):Int) by lia) (show(x.2.2:Int)=((x.2.2:Nat):Int) from rfl);have nf:∀b,b ∉ [rl,fl]->b≠fl:=λb h z=>h (by rw[z];simp);refine⟨fl,_,_,rfl,rfl,(((Zh.new b_).trans (Zh.new lE)).trans (Zh.new ez)) _ _ vU,by rw[bB];lia,?_⟩;refine st _ (λσ H h=>h) _ fO fF (zf ++ [.ref q1]) (xf ++ [(x.1 ++ [SL],x.2.1-1,x.2.2)]) (λb o n z=>g1 b o (nf b n) z) (g1 _ _ AS uh) (aN.cM Dk λc w h=>h.keep (λb o n z=>g1 b o (nf b n) z) (λc _ h _=>h)) Za g2 (λw=>?_) (λy=>?_) (by rw[aH,cL];lia) (by lia)
    ·rw[Av,Zi hx];constructor
     ·rintro(h|⟨x',h1,h2⟩)
      ·exact .inl h
      ·exact .inr ⟨x',cb _ h1,h2⟩
     ·rintro(h|⟨x',h1,h2⟩)
      ·exact .inl h
      ·rcases aS.mp h1 with h1|h1
       ·exact .inr ⟨x',h1,h2⟩
       ·rw[ao.mp h1] at h2;exact absurd h2.1 cz
    ·rw[aS,ao];exact or_congr rQ ⟨λh=>⟨cz,h⟩,λh=>h.2⟩
  ·rintro σ H6 ⟨y6,y7,y8,y9,fO,fF,zf,xf,rfl,k6,uh,Dk,vU,Ei,Av,Aw,Ay,hcf⟩;have fu:zs.length=xs.length:=cw Eh;rw[fu,cU] at Av Aw;show ZBr _ _ _;refine ZL ZwG ?_;have Aj:∀b o,H b=some o->b ∉ [rl,fl]:=λb o z h=>by
    rcases aV.mp h with h|h
    ·rw[h,Ak] at z;cases z
    ·rw[ao.mp h,s5.free eS] at z;cases z
   have UJ:∀c (xs:List V),c ∉ [rl,fl]->H6 c=some (.lst xs)->c ∉ [rl]:=λc _ h _ h2=>h (aV.mpr (.inl (ao.mp h2)));refine⟨_,rfl,fl,_,_,_,_,_,_,fO,fF,zf,xf,rfl,λb o z=>k6 _ _ (Aj b o z) (s5 _ _ z),uh,aN.cM Dk λc w h=>h.keep (λb o _ z=>z) UJ,vU,AS.symm,aN.cM Ei λc w h=>h.keep (λb o _ z=>z) (λb xs z=>z) UJ,hL.next Aw,hD.next hL Av,?_,?_⟩
   ·rw[FE];lia
   ·rw[FE];lia
 ·rintro σ H5 ⟨s1,y4,y5,y6,y7,y8,y9,cs,ws,zs,xs,rfl,s5,Al,Dj,D6,UU,Eh,hL,hD,iR,aY⟩;show u3 _ _ _;refine ZL e3 ?_;have:=pw ((o:Int)+5).toNat (by lia);refine⟨_,rfl,q rl cs ws H5 s5 Al (aN.cM Dj λc w h=>h.2) ?_ (hD.all (by lia))⟩;have:=cw Dj;lia
def Bl(w:List Str):Prop := ∃g:Gr Str,gj SL g/\w=words SL g
theorem Bl.nil:Bl []:=⟨.nil,trivial,rfl⟩
theorem Bl.cons{t:Str}{u v:List Str}(ht:t≠SL)(hu:Bl u)(hv:Bl v):Bl (t::(u++SL::v)):=by
 obtain⟨a,ha,rfl⟩:=hu;obtain⟨b,hb,rfl⟩:=hv;exact⟨.cons t a b,⟨ht,ha,hb⟩,rfl⟩
theorem Iu:∀(g g':Gr Str)(v v':List Str),gj SL g->gj SL g'->words SL g++SL::v=words SL g'++SL::v'->words SL g=words SL g'/\v=v'
 | .nil,.nil,v,v',_,_,h=>⟨rfl,(uI h).2⟩
 | .nil,.cons t a b,v,v',_,h2,h=>absurd (uI h).1.symm h2.1
 | .cons t a b,.nil,v,v',h1,_,h=>absurd (uI h).1 h1.1
 | .cons t a b,.cons t' a' b',v,v',h1,h2,h=>by
  have h:t::(words SL a++SL::words SL b)++SL::v=t'::(words SL a'++SL::words SL b')++SL::v':=h;rw[jP,jP,lW,lW,jP,jP] at h;obtain⟨e1,e2⟩:=uI h;obtain⟨e3,e4⟩:=Iu a a' _ _ h1.2.1 h2.2.1 e2;obtain⟨e5,e6⟩:=Iu b b' _ _ h1.2.2 h2.2.2 e4;refine⟨?_,e6⟩;show t::(words SL a++SL::words SL b)=t'::(words SL a'++SL::words SL b');rw[e1,e3,e5]
theorem Bl.cut{u u' v v':List Str}(h:Bl u)(h':Bl u')(e:u++SL::v=u'++SL::v'):u=u'/\v=v':=by
 obtain⟨g,hg,rfl⟩:=h;obtain⟨g',sC,rfl⟩:=h';exact Iu g g' v v' hg sC e
section
variable{ts:List Int}{R:List av.Qd}{n:Int}{t:Str}{u r0 r1 v:List Str}
theorem Znt(hR:∀q∈R,q.2.1≠SL)(h:dJ ts R n u):Bl u:=by
 induction h with
 | nil _=>exact .nil
 | cons hq _ _ h1 h2=>exact .cons (hR _ hq) h1 h2
theorem Zlk(hR:∀q∈R,q.2.1≠SL)(h0:Bl r0):dJ ts R n (t::(r0++SL::r1))↔∃i r,(n,t,i,r)∈R/\dJ ts R i r0/\dJ ts R r r1:=by
 constructor
 ·intro h;generalize he:t::(r0++SL::r1)=w at h;cases h with
  | nil=>cases he
  | @cons _ i r t' u v hq h1 h2 =>
   obtain⟨e1,e2⟩:=uI he;obtain⟨e3,e4⟩:=Bl.cut h0 (Znt hR h1) e2;subst e1 e3 e4;exact⟨i,r,hq,h1,h2⟩
 ·rintro⟨i,r,hq,h1,h2⟩;exact .cons hq h1 h2
end
def KR(e:Addr)(H:Hp)(f:FQ)(zs:List V)(gs:List (Gr Str)):Prop:=aN (λz g=>∃(p:Addr)(l:List Int),z=V.ref p/\p≠e/\H p=some (.lst (l.map V.int))/\l.length<=100/\∀x,x∈l↔iU f g x) zs gs
variable{e:Addr}
theorem KR.keep{f:FQ}(k:∀b o,b≠e->H b=some o->H' b=some o):∀{zs:List V}{gs:List (Gr Str)},KR e H f zs gs->KR e H' f zs gs:=by
 intro zs gs h;refine aN.cM h λ_ _ z=>?_;obtain⟨p,l,e1,e2,e3,e4⟩:=z;exact⟨p,l,e1,e2,k _ _ e2 e3,e4⟩
theorem KR.last{f:FQ}:∀{gs:List (Gr Str)}{zs:List V}{g:Gr Str},KR e H f zs (gs ++ [g])->∃(zs':List V)(p:Addr)(l:List Int),zs=zs' ++ [V.ref p]/\KR e H f zs' gs/\p≠e/\H p=some (.lst (l.map V.int))/\l.length<=100/\∀x,x∈l↔iU f g x:=by
 intro gs zs g h;obtain⟨zs',z,rfl,h',p,l,rfl,r⟩:=aN.UB h;exact⟨zs',p,l,rfl,h',r⟩
def O_(K:au):Sp:=λvs H Q _=>∃(a b:Addr)(f:FQ)(ws:List Str),vs=[.ref a,.ref b]/\jX H a f/\mj f/\H b=some (.lst (ws.map V.str))/\dA SL 0 ws/\ws.length<=300/\∀(v:Bool)(H':Hp),Zh H H'->(v=true↔∃x∈f.hs,iU f (bk ws).1 x)->Q (.bl v) H'
set_option maxHeartbeats 4000000 in
theorem ZjE(B:∀x∈cj,mg x=none)(F:bC K "_law_good" "_law_good" Cm f fd):aX P w K mg base bq 1 f fd ["_law_shape_here","_law_words"] (O_ K):=by
 refine F.ok sQ (λvs H Q E h=>?_) (λaK A outer s H vs Q E hr h=>?_)
 ·obtain⟨a,b,fm,ws,rfl,_⟩:=h;rfl
 obtain⟨a,b,fm,ws,rfl,hF,ok,hB,Dv,ip,q⟩:=h;obtain⟨f1,f2,f3,zf,a1,a2,a3,a4,a5⟩:=id hF;have hu:=oe hr;have bN:(A.deeper (pU (bw "_law_good") (Zk Cm) s.heap.objs.size f aK)).units+1<cLine:=by have:=hr.un;lia
 have rg:=ok.tl;have kJ:=ok.ql;have Ay:=a5.length;refine⟨_,(Ze (Zt (i:=2) sQ.nd rfl (Or.inr rfl) (Z9 (Zb (Z8 yE rfl (B "list" (by decide)) n_ (Zb (ZR eI (pv 0) Zj (λ_ _=>rfl)) Zf)) Zf)))
  (Ze (c7 cN rfl (ZnW rfl (B "reversed" (by decide)) (Zb (pv 1) Zf)) (Zm (i:=3) sQ.nd rfl (Or.inl rfl))
   (Ze (c6 (Zy j9 (pv 3) jj (ZK _))
     (Ze (Z2 (ff dX gC gD ZG (pv 2) (Zb (Z8 yE rfl (B "list" (by decide)) n_ (Zb (ZR eI (pv 0) Zj (λ_ _=>rfl)) Zf)) Zf)))
      (Zg ZgZ))
     ZV)
    (Ze (Zt (i:=4) sQ.nd rfl (Or.inl rfl) (yX dX Br Bs yZ (pv 2)))
    (Ze (Zt (i:=5) sQ.nd rfl (Or.inl rfl) (yX dX Br Bs yZ (pv 2)))
    (Ze (Zt (i:=6) sQ.nd rfl (Or.inl rfl) mn)
    (Ze (c7 cN rfl (mv (ZR eI (pv 0) Zj (λ_ _=>rfl))) (Zm (i:=7) sQ.nd rfl (Or.inl rfl))
     (Zg (c6 (PW.pt (mr (Zy j9 (ZR eI (pv 7) Zj (λ_ _=>rfl)) (pv 3) (ZK _)) (mr (Zy Ib (ZR eI (pv 7) Zj (λ_ _=>rfl)) (pv 4) (by with_unfolding_all rfl)) (qw (Zy Ib (ZR eI (pv 7) Zj (λ_ _=>rfl)) (pv 5) (by with_unfolding_all rfl))))))
       (Zg (qu bN (pv 6) (ZR eI (pv 7) Zj (λ_ _=>rfl)) eJ rfl))
       ZV)))
    (Zg (Z2 (ff dX gC gD ZG (pv 2) (Zb (Z8 (ZfN rfl) rfl (B "list" (by decide)) n_ (Zb (pv 6) Zf)) Zf))))))))))
  (Zg (ZD (mx (OM hu) (HL (cl:=_) ["_law_kind"] [("_law_rows",2)] (mv (ZR eI (pv 0) Zj (λ_ _=>rfl))) (λ_ _ _ _=>(Zm (i:=0) (show pM (["_law_kind","_law_rows"]:List Str) by decide) rfl (Or.inl rfl))) (λ_ _ _ _=>(Zy (Zik (K:=K) rfl) (pv 0) (ZR (yM (K:=K) rfl) (pv 1) (oq oh Zj) (λ_ _=>rfl)) (by with_unfolding_all rfl))) (λ_ _ _ _=>(pv 0)) rfl rfl (by decide) rfl (by decide) (sZ (by(repeat' first|exact dW _|refine dU.mpr ⟨?_,?_⟩) <;> rfl)) (vq (by(repeat' first|exact dW _|refine dU.mpr ⟨?_,?_⟩) <;> first|(intro h;exact⟨_,rfl⟩)|(intro h;exact absurd h (by decide)))) (λ_=>by(repeat' first|exact dW _|refine dU.mpr ⟨?_,?_⟩) <;> exact⟨rfl,rfl,Or.inl rfl⟩) (λ_=>rfl)) (Z9 Zf) (ZK _)))))),?_⟩
 refine⟨_,rfl,a,_,2,_,rfl,rfl,az.of a1,rfl,f2,_,rfl,.inr (az.of a3),λp0 il=>⟨by show(1:Nat)<=sizeLine;decide,λpp Ai=>?_⟩⟩;have LM:p0≠pp:=λz=>by rw[z,Za] at Ai;cases Ai
 have DY:H pp=none:=by rw[Zc LM.symm] at Ai;exact Ai
 have s0:Zh H (upd (upd H p0 (.lst (fm.ts.map V.int))) pp (.lst [.ref p0])):=(Zh.new il).trans (Zh.new Ai);refine⟨_,rfl,b,_,rfl,ag.of (s0 _ _ hB),ZmG (K:=K) (a:=b) (xs:=ws.map V.str) (λi σ H1=>∃(v3 v4 v5 v6 v7:Option V)(zs:List V),σ =[some (.ref a),some (.ref b),some (.ref pp),v3,v4,v5,v6,v7]/\Zh H H1/\H1 pp=some (.lst zs)/\KR pp H1 fm zs ((bk (ws.drop (ws.length-i))).2.reverse ++ [(bk (ws.drop (ws.length-i))).1]))
  ⟨none,none,none,none,none,[.ref p0],rfl,s0,Za,?_⟩ ?_ ?_ ?_⟩
 ·rw[WH,V9];refine .cons ⟨p0,fm.ts,rfl,LM,by rw[Zc LM];exact Za,by lia,λx=>rQ⟩ .nil
 ·rintro i σ H1 _ ⟨_,_,_,_,_,_,_,s1,_⟩;exact ag.of (s1 _ _ hB)
 ·rintro i y σ H1 hi hy ⟨v3,v4,v5,v6,v7,zs,rfl,s1,e0,hK⟩;rw[ar] at hi;rw[ar,bW,bO (by lia)] at hy;injection hy with hy;subst hy;have iR:zs.length<=301:=by
   have h1:=cw hK;have h2:=Qv (ws.drop (ws.length-i));rw[aH,pP,cL] at h1;rw[rV] at h2;lia
  refine⟨_,rfl,rfl,_,rfl,cC (λc=>?_) (λc=>?_)⟩
  ·have ew:ws[ws.length-1-i]'(by lia)=SL:=by
    have:=bK c;injection this
   have hb:=ZlR hi ew;refine⟨_,rfl,.inl ⟨rfl,_,ag.of e0⟩,_,rfl,a,_,2,_,rfl,rfl,az.of (s1 _ _ a1),rfl,f2,_,rfl,.inr (az.of (s1 _ _ a3)),λp1 bo=>?_⟩;have s2:Zh H1 (upd H1 p1 (.lst (fm.ts.map V.int))):=Zh.new bo;have x2:(upd H1 p1 (.lst (fm.ts.map V.int))) p1=some (.lst (fm.ts.map V.int)):=Za;generalize upd H1 p1 (.lst (fm.ts.map V.int))=H2 at s2 x2 ⊢;have AU:p1≠pp:=λz=>by rw[z,e0] at bo;cases bo
   refine⟨pp,_,_,rfl,rfl,s2 _ _ e0,Zr (by lia),?_⟩;refine⟨_,_,_,_,_,zs ++ [.ref p1],rfl,(s1.trans s2).bA DY,Za,?_⟩;rw[hb];rw[rY];refine r8 (KR.keep (λb o hb e=>by rw[Zc hb];exact s2 _ _ e) hK) ⟨p1,fm.ts,rfl,AU,by rw[Zc AU];exact x2,by lia,λx=>rQ⟩
  ·have ew:ws[ws.length-1-i]'(by lia)≠SL:=λe=>c (aP (congrArg V.str e));obtain⟨g0,pl,eg,e2⟩:=ZkY Dv hi ew;rw[eg,rY] at hK;obtain⟨zs1,q1,l1,rfl,hK1,n1,h1,b_,wa⟩:=hK.last;obtain⟨du,q0,l0,rfl,hK0,n0,h0,cP,oW⟩:=hK1.last;rw[e2];generalize ws[ws.length-1-i]'(by lia)=wd;generalize (bk (ws.drop (ws.length-i))).1=gg at wa;refine⟨_,rfl,.inl ⟨rfl,_,ag.of e0⟩,pp,_,_,rfl,rfl,e0,yG _ _,?_⟩;rw[Fh];have k2:∀b o,b≠pp->H1 b=some o->(upd H1 pp (.lst (du ++ [.ref q0]))) b=some o:=λb o hb e=>by rw[Zc hb];exact e
   have x2:(upd H1 pp (.lst (du ++ [.ref q0]))) pp=some (.lst (du ++ [.ref q0])):=Za;have t2:Zh H (upd H1 pp (.lst (du ++ [.ref q0]))):=s1.bA DY;generalize upd H1 pp (.lst (du ++ [.ref q0]))=H2 at k2 x2 t2 ⊢;refine⟨_,rfl,.inl ⟨rfl,_,ag.of x2⟩,pp,_,_,rfl,rfl,x2,yG _ _,?_⟩;rw[Fh];have k3:∀b o,b≠pp->H1 b=some o->(upd H2 pp (.lst du)) b=some o:=λb o hb e=>by rw[Zc hb];exact k2 b o hb e
   have x3:(upd H2 pp (.lst du)) pp=some (.lst du):=Za;have t3:Zh H (upd H2 pp (.lst du)):=t2.bA DY;generalize upd H2 pp (.lst du)=H3 at k3 x3 t3 ⊢;refine λd hd=>?_;have s4:Zh H3 (upd H3 d (.dK [])):=Zh.new hd;have y1:=k3 _ _ n1 h1;have y0:=k3 _ _ n0 h0;refine⟨_,rfl,a,_,3,_,rfl,rfl,az.of (s4 _ _ (t3 _ _ a1)),rfl,f3,rfl,⟨_,az.of (s4 _ _ (t3 _ _ a4))⟩,vw (K:=K) (a:=f3) (xs:=zf) (λj σ H4=>∃(v7:Option V)(m:List (Key×V))(S:List Int),σ =[some (.ref a),some (.ref b),some (.ref pp),some (.str wd),some (.ref q1),some (.ref q0),some (.ref d),v7]/\Zh H3 H4/\H4 d=some (.dK m)/\m.map (·.1)=S.map aA/\S.length<=j/\∀x,x∈S↔∃z∈fm.qs.take j,z.1=x/\z.2.1=wd/\z.2.2.1∈l1/\z.2.2.2∈l0)
    ⟨_,[],[],rfl,s4,Za,rfl,ax _,λx=>⟨λz=>(nomatch z),λ⟨_,z,_⟩=>(nomatch z)⟩⟩ ?_ ?_ ?_⟩
   ·rintro j σ H4 _ ⟨_,_,_,_,sm,_⟩;exact az.of (sm _ _ (t3 _ _ a4))
   ·rintro j x σ H4 hx ⟨v7,m,S,rfl,sm,hm,hk,D7,cH⟩;obtain⟨tq,qq,x1,rfl,BL⟩:=a5.get j x hx;have ik:=(cT.mp x1).1;have uZ:=sm _ _ (t3 _ _ BL);have cO:=nZ hk;have skip : ¬ (qq.2.1=wd/\qq.2.2.1∈l1/\qq.2.2.2∈l0)->∃(v7:Option V)(m:List (Key×V))(S:List Int),[some (V.ref a),some (.ref b),some (.ref pp),some (.str wd),some (.ref q1),some (.ref q0),some (.ref d),some (.ref tq)] =[some (.ref a),some (.ref b),some (.ref pp),some (.str wd),some (.ref q1),some (.ref q0),some (.ref d),v7]/\Zh H3 H4/\H4 d=some (.dK m)/\m.map (·.1)=S.map aA/\S.length<=j+1/\∀x,x∈S↔∃z∈fm.qs.take (j+1),z.1=x/\z.2.1=wd/\z.2.2.1∈l1/\z.2.2.2∈l0:=λdS=>by
     refine⟨_,m,S,rfl,sm,hm,hk,by lia,λx=>(cH x).trans ?_⟩;rw[Zi x1];constructor
     ·rintro⟨z,hz,r⟩;exact⟨z,cb _ hz,r⟩
     ·rintro⟨z,hz,r⟩;rcases aS.mp hz with hz|hz
      ·exact⟨z,hz,r⟩
      ·rw[ao.mp hz] at r;exact absurd r.2 dS
    refine⟨_,rfl,tq,_,1,_,rfl,rfl,az.of uZ,rfl,_,rfl,rfl,_,rfl,cC (λc1=>?_) (λc1=>b9 (skip λz=>c1 (aP (congrArg V.str z.1))))⟩;have i0:qq.2.1=wd:=by
     have:=bK c1;injection this
    refine⟨_,rfl,tq,_,2,_,rfl,rfl,az.of uZ,rfl,_,rfl,q1,_,rfl,.inl (ag.of (sm _ _ y1)),rfl,HR _,?_⟩;rw[ah (by decide),Il];refine⟨_,rfl,cC (λc2=>?_) (λc2=>b9 (skip λz=>c2 (aP z.2.1)))⟩;refine⟨_,rfl,tq,_,3,_,rfl,rfl,az.of uZ,rfl,_,rfl,q0,_,rfl,.inl (ag.of (sm _ _ y0)),rfl,HR _,?_⟩;rw[ah (by decide),Il];refine⟨_,rfl,cC (λc3=>?_) (λc3=>skip λz=>c3 (aP z.2.2))⟩;refine⟨_,rfl,_,rfl,tq,_,0,_,rfl,rfl,az.of uZ,rfl,d,_,rfl,jk.k (k:=aA qq.1) hm (Zr (by lia)),?_⟩;have KP:(putK m (aA qq.1) (V.bl true)).map (·.1)=(ot S qq.1).map aA:=DI.put hk qq.1 (V.bl true);refine⟨_,_,ot S qq.1,rfl,sm.bA hd,Za,KP,?_,λx=>?_⟩
    ·unfold ot
     split
     ·lia
     ·rw[aH,cL];lia
    ·rw[Ci,cH,Zi x1];constructor
     ·rintro(⟨z,hz,r⟩|rfl)
      ·exact⟨z,cb _ hz,r⟩
      ·exact⟨qq,a9 _ (ao.mpr rfl),rfl,i0,bK c2,bK c3⟩
     ·rintro⟨z,hz,r⟩;rcases aS.mp hz with hz|hz
      ·exact .inl ⟨z,hz,r⟩
      ·rw[ao.mp hz] at r;exact .inr r.1.symm
   ·rintro σ H4 ⟨v7,m,S,rfl,sm,hm,hk,D7,cH⟩;rw[Ay,cU] at cH;refine⟨_,rfl,.inl ⟨rfl,_,ag.of (sm _ _ x3)⟩,_,rfl,d,m,rfl,hm,λp1 bo=>?_⟩;have ek:(m.map λp=>kV p.1)=S.map V.int:=by
     have:(m.map λp=>kV p.1)=(m.map (·.1)).map kV:=by rw[gB];rfl
     rw[this,hk,gB];rfl
    rw[ek];have s5:Zh H4 (upd H4 p1 (.lst (S.map V.int))):=Zh.new bo;have x5:(upd H4 p1 (.lst (S.map V.int))) p1=some (.lst (S.map V.int)):=Za;generalize upd H4 p1 (.lst (S.map V.int))=H5 at s5 x5 ⊢;have AU:p1≠pp:=λz=>by rw[z,sm _ _ x3] at bo;cases bo
    have gR:du.length<=301:=by
     rw[aH,aH] at iR;lia
    refine⟨pp,_,_,rfl,rfl,s5 _ _ (sm _ _ x3),Zr (by lia),?_⟩;refine⟨_,_,_,_,_,du ++ [.ref p1],rfl,((t3.trans sm).trans s5).bA DY,Za,?_⟩;refine r8 (KR.keep (λb o hb e=>by rw[Zc hb];exact s5 _ _ (sm _ _ (k3 b o hb e))) hK0) ⟨p1,S,rfl,AU,by rw[Zc AU];exact x5,by lia,λx=>?_⟩;rw[cH];constructor
    ·rintro⟨⟨z1,z2,z3,z4⟩,hz,e1,e2,e3,e4⟩;have e1:z1=x:=e1;have e2:z2=wd:=e2;subst e1 e2;exact⟨z3,z4,hz,(wa _).mp e3,(oW _).mp e4⟩
    ·rintro⟨z3,z4,hz,e3,e4⟩;exact⟨_,hz,rfl,rfl,(wa _).mpr e3,(oW _).mpr e4⟩
 ·rintro σ H1 ⟨v3,v4,v5,v6,v7,zs,rfl,s1,e0,hK⟩;rw[ar,MW,Wa] at hK;obtain⟨zs',p,l,rfl,_,n1,h1,b_,wa⟩:=hK.last;have Td:=ok.hl;refine⟨_,rfl,a,_,1,_,rfl,rfl,az.of (s1 _ _ a1),rfl,f1,rfl,⟨_,az.of (s1 _ _ a2)⟩,λpc cQ=>OR (K:=K) (a:=f1) (p:=pc) (xs:=fm.hs.map V.int) (λi ys σ H2=>∃v0:Option V,σ =[v0,some (.ref pp)]/\Zh H1 H2/\H2 pc=some (.lst ys)/\ys=((fm.hs.take i).filter λx=>decide (x∈l)).map V.int)
   ⟨none,rfl,Zh.new cQ,Za,rfl⟩ ?_ ?_ ?_⟩
  ·rintro i ys σ H2 _ ⟨v0,_,sm,h,_⟩;exact⟨az.of (sm _ _ (s1 _ _ a2)),h⟩
  ·rintro i ys x σ H2 hi hx ⟨v0,rfl,sm,hp,rfl⟩;rw[bW] at hx;obtain⟨e,he,rfl⟩:=dv.mp hx;have hlen:((fm.hs.take i).filter λx=>decide (x∈l)).length<=70:=cm (nk ..) (by rw[iy];lia);refine⟨_,rfl,_,rfl,1,rfl,pp,_,-1,.ref p,rfl,rfl,ag.of (sm _ _ e0),sP _ _,p,_,rfl,.inl (ag.of (sm _ _ h1)),rfl,HR _,?_⟩;rw[ah (by decide),Il];refine⟨_,rfl,cC (λce=>?_) (λce=>?_)⟩
   ·refine⟨_,rfl,hp,Zr (by rw[ar];lia),CW.next hi ⟨_,rfl,sm.bA cQ,Za,?_⟩⟩
    rw[Zi he,nh,pO,aj ce,rT,bP];rfl
   ·refine CW.next hi ⟨_,rfl,sm,hp,?_⟩
    rw[Zi he,nh,pO,ah ce,rT,fN]
  rintro ys σ H2 ⟨v0,rfl,s2,hp,rfl⟩;rw[ar,cU] at hp;refine⟨by decide,λpn gQ=>?_⟩;refine⟨pc,pn,_,rfl,rfl,ag.of (by rw[Zc (Zd hp gQ)];exact hp),ag.of Za,?_⟩;refine q _ _ ((s1.trans s2).trans (Zh.new gQ)) ?_;constructor
  ·intro h;cases hf:(fm.hs.filter λx=>decide (x∈l)) with
   | nil =>
    rw[hf] at h;exact absurd h (by decide)
   | cons y ys =>
    have hy:y∈(fm.hs.filter λx=>decide (x∈l)):=by rw[hf];exact aZ ..
    obtain⟨h1,h2⟩:=kQ.mp hy;exact⟨y,h1,(wa y).mp (bK h2)⟩
  ·rintro⟨y,h1,h2⟩;have hy:y∈(fm.hs.filter λx=>decide (x∈l)):=kQ.mpr ⟨h1,aP ((wa y).mpr h2)⟩;cases hf:(fm.hs.filter λx=>decide (x∈l)) with
   | nil =>
    rw[hf] at hy;exact nomatch hy
   | cons y ys=>rfl
theorem yQ{f:FQ}{R:List av.Qd}(rk:fQ f R)(hR:∀q∈R,q.2.1≠SL):∀(g:Gr Str)(x:Int),gj SL g->(dJ f.ts R x (words SL g)↔iU f g x)
 | .nil,x,_=>by
  constructor
  ·intro h;generalize he:words SL (.nil:Gr Str)=w at h;cases h with
   | nil h=>exact h
   | cons=>cases he
  ·exact λh=>.nil h
 | .cons t a b,x,hg=>by
  show dJ f.ts R x (t::(words SL a++SL::words SL b))↔∃p r,(x,t,p,r)∈f.qs/\iU f a p/\iU f b r;rw[Zlk hR ⟨a,hg.2.1,rfl⟩];constructor
  ·rintro⟨i,r,hq,h1,h2⟩;exact⟨i,r,((rk _).mp hq).1,(yQ rk hR a i hg.2.1).mp h1,(yQ rk hR b r hg.2.2).mp h2⟩
  ·rintro⟨i,r,hq,h1,h2⟩;exact⟨i,r,(rk _).mpr ⟨hq,tu a h1,tu b h2⟩,(yQ rk hR a i hg.2.1).mpr h1,(yQ rk hR b r hg.2.2).mpr h2⟩
def tI(ts:List Int)(R:List av.Qd)(lv:List (List Pr))(tg w:List Str):Prop := ∃lv0 l,lv=lv0 ++ [l]/\dc ts R l lv0.reverse tg.reverse w
variable{ts:List Int}{lv0:List (List Pr)}{tg:List Str}
theorem vh{w:List Str}:tI ts R (lv0 ++ [l]) tg w↔dc ts R l lv0.reverse tg.reverse w:=by
 constructor
 ·rintro⟨Et,l1,e,h⟩;obtain⟨e1,e2⟩:=rO e rfl;injection e2 with e2;rw[e1,e2];exact h
 ·exact λh=>⟨_,_,rfl,h⟩
variable{x:Str}{lv cF:List (List Pr)}{bR:List Str}
theorem ZnC{w:List Str}(hR:∀q∈R,q.2.1≠SL)(h:iE ts R lv tg x cF bR):tI ts R cF bR w↔tI ts R lv tg (x::w):=by
 cases h with
 | @tag lv l tg x ks hx _ hk _ =>
  rw[vh,vh,pS,pS];refine Zny hR (λp=>?_) hx;rw[a6];constructor
  ·rintro⟨i,hi,rfl⟩;exact⟨i,rfl,(hk i).mp hi⟩
  ·rintro⟨i,rfl,hi⟩;exact⟨i,(hk i).mpr hi,rfl⟩
 | @fin lv l1 l l2 tg t _ _ h2 =>
  rw[vh,vh,pS,pS];exact Zni hR h2
variable{hs:List Int}
theorem Zjs{f:FQ}{w:List Str}:tI f.ts R [hs.map dup] [] w↔∃s∈hs,dJ f.ts R s w:=by
 refine(vh (lv0:=[]) (l:=hs.map dup)).trans ⟨?_,?_⟩
 ·rintro⟨p,hp,u,v,hu,hv,rfl⟩;have hv:v=[]:=hv;subst hv;obtain⟨s,p_,rfl⟩:=a6.mp hp;exact⟨s,p_,by rw[fN];exact hu⟩
 ·rintro⟨s,p_,hw⟩;exact⟨dup s,a6.mpr ⟨s,p_,rfl⟩,w,[],hw,rfl,(fN _).symm⟩
def sE(f:FQ)(R:List av.Qd):List (List Pr)->List Str->Prop
 | [],_=>True
 | l::ls,tg=>l ≠ []/\(∀p∈l,dM f p.2/\∃v,qI f.ts R ls tg p.1 v)/\sE f R ls tg.tail
theorem ZmS{f:FQ}(rk:fQ f R)(h:iE f.ts R lv tg x cF bR)(a:sE f R lv.reverse tg.reverse):sE f R cF.reverse bR.reverse:=by
 cases h with
 | @tag lv l tg x ks hx _ hk bt =>
  simp only[pS,rY,Ws,uN,jP] at a ⊢;refine⟨λz=>bt (Wg.mp z),λp hp=>?_,a⟩;obtain⟨i,hi,rfl⟩:=a6.mp hp;obtain⟨p1,bo,r,hq⟩:=(hk i).mp hi;obtain⟨_,z1,z2⟩:=(rk _).mp hq;obtain⟨u,hu⟩:=IS rk z2;obtain⟨_,v,hv⟩:=a.2.1 p1 bo;exact⟨z1,_,p1,bo,r,u,v,hq,hu,hv,rfl⟩
 | @fin lv l1 l l2 tg t he _ h2 =>
  simp only[pS,rY,Ws,uN,jP] at a ⊢;obtain⟨_,a1,_,a2,a3⟩:=a;refine⟨?_,λp hp=>?_,a3⟩
  ·obtain⟨b,n,hb,hn⟩:=he;obtain⟨_,v,p1,bo,r,u,v',hq,_⟩:=a1 _ hb;have:(p1.1,r)∈l2:=(h2 _).mpr ⟨p1.2,b,bo,hq,n,hb,hn⟩;exact List.ne_nil_of_mem this
  ·obtain⟨n,i,h1,hq,_⟩:=(h2 p).mp hp;exact⟨((rk _).mp hq).2.2,(a2 _ h1).2⟩
theorem Zkh{f:FQ}(h:∀s∈hs,dM f s)(bt:hs ≠ []):sE f R [hs.map dup] []:=⟨λz=>bt (Wg.mp z),λp hp=>by
 obtain⟨s,p_,rfl⟩:=a6.mp hp;exact⟨h s p_,[],rfl⟩,trivial⟩
theorem Znw{f:FQ}(rk:fQ f R)(a:sE f R (lv0 ++ [l]).reverse tg.reverse):∃v,dc f.ts R l lv0.reverse tg.reverse v:=by
 rw[pS] at a;obtain⟨a1,a2,_⟩:=a;cases l with
 | nil=>exact absurd rfl a1
 | cons p l =>
  obtain⟨z,v,hv⟩:=a2 p (aZ ..);obtain⟨u,hu⟩:=IS rk z;exact⟨_,p,aZ ..,u,v,hu,hv,rfl⟩
section
variable{ts:List Int}{R:List av.Qd}{T:List Str}{o:Nat}
theorem Qx(hT:∀q∈R,q.2.1∈T){n:Int}{r:List Str}(h:dJ ts R n r):∃k,r.length=2*k/\∀w l u,En T o w l u->u+k<=2->En T o (w++r) l (u+k):=by
 induction h with
 | nil _=>exact⟨0,rfl,λw l u h _=>by rw[fN];exact h⟩
 | @cons n i r t u v hq _ _ h1 h2 =>
  obtain⟨k1,e1,f1⟩:=h1;obtain⟨k2,e2,f2⟩:=h2;refine⟨1+k1+k2,by rw[bI,aH,bI];lia,λw l x h hx=>?_⟩;have a1:=f1 _ _ _ (En.tag h (by lia) (hT _ hq)) (by lia);have a2:=f2 _ _ _ a1.sl (by lia);rw[show w++t::(u++SL::v)=w ++ [t]++u ++ [SL]++v by simp,show x+(1+k1+k2)=x+1+k1+k2 by lia];exact a2
theorem Ql(hT:∀q∈R,q.2.1∈T):∀(ls:List (List Pr))(tg:List Str)(b:Int)(w:List Str),qI ts R ls tg b w->∃k,w.length=tg.length+2*k/\∀w0 u,En T o w0 tg.length u->u+k<=2->En T o (w0++w) 0 (u+k)
 | [],[],_,w,h=>by
  have h:w=[]:=h;subst h;exact⟨0,rfl,λw0 u h _=>by rw[fN];exact h⟩
 | [],_::_,_,_,h=>h.elim
 | _::_,[],_,_,h=>h.elim
 | l1::ls,t::tg,b,w,⟨p1,_,r,u,v,_,hu,hv,e⟩=>by
  obtain⟨k1,e1,f1⟩:=Qx (o:=o) hT hu;obtain⟨k2,e2,f2⟩:=Ql hT ls tg p1.1 v hv;refine⟨k1+k2,by rw[e,bI,aH,bI];lia,λw0 x h hx=>?_⟩;have a1:=f1 _ _ _ (En.sl h) (by lia);have a2:=f2 _ _ a1 (by lia);rw[e,show w0++SL::(u++v)=w0 ++ [SL]++u++v by simp,show x+(k1+k2)=x+k1+k2 by lia];exact a2
theorem Rh(hT:∀q∈R,q.2.1∈T){l:List Pr}{ls:List (List Pr)}{tg w:List Str}(h:dc ts R l ls tg w):∃k,w.length=tg.length+2*k/\(k<=2->En T tg.length w 0 k):=by
 obtain⟨p,_,u,v,hu,hv,rfl⟩:=h;obtain⟨k1,e1,f1⟩:=Qx (o:=tg.length) hT hu;obtain⟨k2,e2,f2⟩:=Ql (o:=tg.length) hT ls tg p.1 v hv;refine⟨k1+k2,by rw[aH];lia,λhk=>?_⟩;have a1:=f1 [] _ 0 .nil (by lia);have a2:=f2 _ _ a1 (by lia);rw[nD] at a2;exact a2
theorem Zns(hT:∀q∈R,q.2.1∈T){l:List Pr}{ls:List (List Pr)}{tg w:List Str}(hw:dc ts R l ls tg w)(he:∃u,En T tg.length w 0 u)(hm:∀v,dc ts R l ls tg v->(∃u,En T tg.length v 0 u)->aQ v w=false):mB (dc ts R l ls tg) w:=by
 refine⟨hw,λv hv=>?_⟩;obtain⟨k,e,f⟩:=Rh hT hv;by_cases hk:k<=2
 ·exact hm v hv ⟨_,f hk⟩
 ·obtain⟨u,hu⟩:=he;have:=hu.len;exact Qi (by lia)
theorem Zk2(hT:∀q∈R,q.2.1∈T){l:List Pr}{ls:List (List Pr)}{tg w:List Str}(hw:dc ts R l ls tg w)(hm:∀v,dc ts R l ls tg v -> ¬ ∃u,En T tg.length v 0 u):tg.length+4<w.length:=by
 obtain⟨k,e,f⟩:=Rh hT hw;by_cases hk:k<=2
 ·exact absurd ⟨_,f hk⟩ (hm w hw)
 ·lia
end
variable{ws:List Str}
theorem ZmX{f:FQ}(h:je f R hs ws tg lv):∀{w:List Str},dA SL tg.length w->dA SL 0 (ws++w):=by
 induction h with
 | one hg _=>exact λhw=>Cb hg hw
 | snoc _ ht hg _ ih =>
  intro w hw;rw[lW];rw[aH] at hw;exact ih ((sV ht).mpr (Cb hg hw))
variable{T:List Str}
theorem Zox{w:List Str}{l:Nat}(hT:∀t∈T,t≠SL)(h:En T o w l u):∀{v:List Str},dA SL l v->dA SL o (w++v):=by
 induction h with
 | nil=>exact λh=>h
 | sl _ ih =>
  intro v hv;rw[lW];exact ih (yS.mpr ⟨FF _,hv⟩)
 | tag _ _ ht ih =>
  intro v hv;rw[lW];exact ih ((sV (hT _ ht)).mpr hv)
theorem Znu{ls:List (List Pr)}{w:List Str}(e:ls ≠ []->bR ≠ [])(h:dc ts R l ls tg (x::w)):BM ts R l bR x:=by
 obtain⟨p,hp,u,v,hu,hv,e1⟩:=h;cases hu with
 | nil hn =>
  rw[uN] at e1;cases ls with
  | nil =>
   cases tg with
   | nil =>
    have:v=[]:=hv;rw[this] at e1;cases e1
   | cons=>exact hv.elim
  | cons l1 ls =>
   cases tg with
   | nil=>exact hv.elim
   | cons t tg =>
    obtain⟨_,_,_,_,_,_,_,_,rfl⟩:=hv;injection e1 with e1;exact .inl ⟨e1,e (λz=>nomatch z),p.1,p.2,hp,hn⟩
 | cons hq _ _ =>
  injection e1 with e1;rw[e1];exact .inr ⟨p,hp,_,_,hq⟩
theorem Zlt{f:FQ}{w:List Str}(rk:fQ f R)(hR:∀q∈R,q.2.1≠SL)(hh:∀x,x∈hs↔x∈f.hs/\dM f x)(hc:dA SL 0 (ws++w))(cs:tI f.ts R lv tg w↔∃s∈hs,dJ f.ts R s (ws++w)):(∃x∈f.hs,iU f (bk (ws++w)).1 x)↔tI f.ts R lv tg w:=by
 obtain⟨e,hg⟩:=Zjo hc;have key:∀x,dJ f.ts R x (ws++w)↔iU f (bk (ws++w)).1 x:=λx=>by
  rw[<- yQ rk hR _ x hg,e]
 rw[cs];constructor
 ·rintro⟨x,hx,ho⟩;exact⟨x,(hh x).mpr ⟨hx,tu _ ho⟩,(key x).mpr ho⟩
 ·rintro⟨x,hx,ho⟩;exact⟨x,((hh x).mp hx).1,(key x).mp ho⟩
def fL:List Str->Str
 | []=>""
 | x::_=>x
theorem Zk4(w:List Str):Xw "" (w.take 1)=fL w:=by
 cases w with
 | nil=>rfl
 | cons x w=>rfl
def qC(S:List Str->Prop)(W:List (List Str)):Option (List Str)->Prop
 | none=>∀v∈W,¬ S v
 | some w=>w∈W/\S w/\∀v∈W,S v->aQ v w=false
variable{o:Option (List Str)}{S:List Str->Prop}{W:List (List Str)}
theorem qC.no{w:List Str}(h:qC S W o)(hw : ¬ S w):qC S (W ++ [w]) o:=by
 cases o with
 | none =>
  intro v hv;rcases aS.mp hv with hv|hv
  ·exact h v hv
  ·rw[ao.mp hv];exact hw
 | some x =>
  refine⟨cb _ h.1,h.2.1,λv hv hs=>?_⟩;rcases aS.mp hv with hv|hv
  ·exact h.2.2 v hv hs
  ·rw[ao.mp hv] at hs;exact absurd hs hw
theorem qC.yes{w:List Str}(h:qC S W o)(hw:S w):qC S (W ++ [w]) (if RC w o then some w else o):=by
 cases o with
 | none =>
  refine⟨a9 _ (ao.mpr rfl),hw,λv hv hs=>?_⟩;rcases aS.mp hv with hv|hv
  ·exact absurd hs (h v hv)
  ·rw[ao.mp hv];exact qt w
 | some x =>
  show qC S (W ++ [w]) (if aQ w x=true then some w else some x)
  by_cases hb:aQ w x=true
  ·rw[aj hb];refine⟨a9 _ (ao.mpr rfl),hw,λv hv hs=>?_⟩;rcases aS.mp hv with hv|hv
   ·exact qy (h.2.2 v hv hs) (Vy.mpr λz=>by have:=HM hb z;rw[qt] at this;cases this)
   ·rw[ao.mp hv];exact qt w
  ·rw[ah hb];refine⟨cb _ h.1,h.2.1,λv hv hs=>?_⟩;rcases aS.mp hv with hv|hv
   ·exact h.2.2 v hv hs
   ·rw[ao.mp hv];exact Vy.mpr hb
theorem Jn{o:Nat}{w:List Str}{l:Nat}(h:En T o w l u):∀x∈w,x=SL\/x∈T:=by
 induction h with
 | nil=>exact λ_ h=>nomatch h
 | sl _ ih =>
  intro x hx;rcases aS.mp hx with hx|hx
  ·exact ih x hx
  ·exact .inl (ao.mp hx)
 | tag _ _ ht ih =>
  intro x hx;rcases aS.mp hx with hx|hx
  ·exact ih x hx
  ·exact .inr (by rw[ao.mp hx];exact ht)
theorem ZnP{w:List Str}(hw : ¬ S w):(∃v∈W ++ [w],S v/\fL v=x)↔∃v∈W,S v/\fL v=x:=by
 constructor
 ·rintro⟨v,hv,h1,h2⟩;rcases aS.mp hv with hv|hv
  ·exact⟨v,hv,h1,h2⟩
  ·rw[ao.mp hv] at h1;exact absurd h1 hw
 ·rintro⟨v,hv,h⟩;exact⟨v,cb _ hv,h⟩
theorem Zm6{w:List Str}(hw:S w):(∃v∈W ++ [w],S v/\fL v=x)↔(∃v∈W,S v/\fL v=x)\/fL w=x:=by
 constructor
 ·rintro⟨v,hv,h1,h2⟩;rcases aS.mp hv with hv|hv
  ·exact .inl ⟨v,hv,h1,h2⟩
  ·rw[ao.mp hv] at h2;exact .inr h2
 ·rintro(⟨v,hv,h⟩|h)
  ·exact⟨v,cb _ hv,h⟩
  ·exact⟨w,a9 _ (ao.mpr rfl),hw,h⟩
theorem mE.kept{v:V}(h:mE H v o)(k:∀b xs,H b=some (.lst xs)->H' b=some (.lst xs)):mE H' v o:=by
 cases o with
 | none=>exact h
 | some w =>
  obtain⟨b,e,hb,ho⟩:=h;exact⟨b,e,k _ _ hb,ho⟩
theorem T'{xs:List V}{g:TG}{Pv:Nat->St->Hp->Prop}(h:∀i x σ H,xs[i]?= some x->Pv i σ H->∀D':Ends,(∀ σ H,Pv (i+1) σ H->D'.nx σ H)->g x σ H λbV H2=>tb D' bV H2):∀i x σ H,xs[i]?= some x->Pv i σ H->g x σ H λbV H2=>tb { D with nx:=Pv (i+1),ct:=Pv (i+1),bk:=D.nx } bV H2:=λi x σ H hx p=>h i x σ H hx p _ λ_ _ z=>z
structure iA(C:Addr)(H:Hp)(ra L T sa wr:Addr)(f:FQ)(R:List av.Qd)(hs:List Int)(ws tg:List Str)(lv:List (List Pr)):Prop where
 rd:bT C H ra L T [wr] f R lv tg
 fm:jX H sa f
 hh:∀x,x∈hs↔x∈f.hs/\dM f x
 hw:H wr=some (.lst (ws.map V.str))
 li:je f R hs ws tg lv
 cs:∀w,tI f.ts R lv tg w↔∃s∈hs,dJ f.ts R s (ws++w)
 al:lv=[[]]\/sE f R lv.reverse tg.reverse
section
variable{C ra L T sa wr:Addr}{H H':Hp}{f:FQ}{R:List av.Qd}{hs:List Int}{ws tg bR:List Str}{lv cF:List (List Pr)}{w:Str}
theorem iA.same(h:iA C H ra L T sa wr f R hs ws tg lv)(s:Zh H H'):iA C H' ra L T sa wr f R hs ws tg lv:=⟨h.rd.same s,h.fm.same s,h.hh,s _ _ h.hw,h.li,h.cs,h.al⟩
theorem iA.lt(h:iA C H ra L T sa wr f R hs ws tg lv):∀q∈R,q.2.1≠SL:=λq hq=>h.rd.ok.lt q ((h.rd.rk q).mp hq).1
theorem iA.wQ(h:iA C H ra L T sa wr f R hs ws tg lv)(LO:wr≠L)(LP:wr≠T)(k:cy [L,T] (upd H wr (.lst ((ws ++ [w]).map V.str))) H')(r:bT C H' ra L T [wr] f R cF bR)(st:iE f.ts R lv tg w cF bR):iA C H' ra L T sa wr f R hs (ws ++ [w]) bR cF:=by
 obtain⟨_,_,_,_,_,_,_,_,_,_,_,hL,_,hT⟩:=id (h.rd.put (b:=wr) (ys:=(ws ++ [w]).map V.str) (aZ ..)).ho;have ym:∀b xs,H b=some (.tup xs)->H' b=some (.tup xs):=λb xs e=>k.fZ hL hT _ _ (by
  rw[Zc (λz=>by rw[z,h.hw] at e;cases e)];exact e)
 refine⟨r,?_,h.hh,k _ _ (j8 LO LP) Za,h.li.wQ h.rd.rk st,λv=>?_,?_⟩
 ·obtain⟨f1,f2,f3,zf,a1,a2,a3,a4,a5⟩:=h.fm;exact⟨f1,f2,f3,zf,ym _ _ a1,ym _ _ a2,ym _ _ a3,ym _ _ a4,a5.keep ym⟩
 ·rw[ZnC h.lt st,h.cs,lW];rfl
 ·refine .inr ?_;rcases h.al with e|a
  ·exfalso;have len:=h.rd.st.len;rw[e] at len st;generalize hz:([[]]:List (List Pr))=z at st;cases st with
   | @tag lv l tg x ks _ _ hk bt =>
    have e2:l=[]:=by
     rcases lv with _|⟨x1,lv⟩
     ·injection hz with hz;exact hz.symm
     ·have:=congrArg fA hz;simp at this
    subst e2;refine bt (List.eq_nil_iff_forall_not_mem.mpr λx hx=>?_);obtain⟨_,z,_⟩:=(hk x).mp hx;cases z
   | fin =>
    have:=congrArg fA hz;simp at this
  ·exact ZmS h.rd.rk st a
theorem Qo:∀{ls:List (List Pr)}{tg:List Str},sE f R ls tg->∀l∈ls,l ≠ []/\∀p∈l,dM f p.2
 | [],_,_,_,h=>nomatch h
 | x::ls,tg,⟨a,b,c⟩,l,h=>by
  rcases aV.mp h with rfl|h
  ·exact⟨a,λp hp=>(b p hp).1⟩
  ·exact Qo c l h
theorem iA.ends{lv0:List (List Pr)}{l:List Pr}(h:iA C H ra L T sa wr f R hs ws tg (lv0 ++ [l])):(∀l'∈lv0 ++ [l],∀p∈l',dM f p.2)/\(((lv0 ++ [l])[0]?= some []/\∀w,¬ dc f.ts R l lv0.reverse tg.reverse w)\/((lv0 ++ [l])[0]? ≠ some []/\∃w,dc f.ts R l lv0.reverse tg.reverse w)):=by
 rcases h.al with e|a
 ·rw[e];refine⟨λl' hl p hp=>?_,.inl ⟨rfl,λw hw=>?_⟩⟩
  ·rw[ao.mp hl] at hp;cases hp
  ·obtain⟨_,e2⟩:=rO (show lv0 ++ [l] =[] ++ [[]] from e) rfl;injection e2 with e2;rw[e2] at hw;obtain⟨_,z,_⟩:=hw;cases z
 ·have m:=Qo a;refine⟨λl' hl=>(m l' (Wn.mpr hl)).2,.inr ⟨λz=>?_,Znw h.rd.rk a⟩⟩;exact(m [] (Wn.mpr (bY z))).1 rfl
end
abbrev qh(a tr sa ra wr:Addr)(l:St):St:=some (V.ref a)::some (V.ref tr)::some (V.ref sa)::some (V.ref ra)::some (V.ref wr)::l
set_option maxHeartbeats 8000000 in
theorem Zoh{aW:Addr}(B:∀x∈cj,mg x=none)(aF:iC K aW)(J0:cx P w K mg base "_law_tags" ["_law_cell"] 1 QC) (mK:cx P w K mg base "_law_cell_at" ["_law_script","_law_k"] 1 (Cz K)) (JZ:cx P w K mg base "_law_shape" ["_law_script","_law_tags_here"] 3 (O2 K)) (JM:G9 P w K mg base aW "Reader" ["self","form"] 2 (Ij K aW)) (vL:cx P w K mg base "_law_numbers" ["_law_script","_law_first","_law_many"] 2 (Ji K)) (C8:cZ P w K mg base aW "goes_on" ["self"] 2 (Jd aW)) (zD:cZ P w K mg base aW "height" ["self"] 1 (Ig aW)) (JR:cZ P w K mg base aW "take" ["self","word"] 3 (IM aW)) (JW:cx P w K mg base "_law_endings" ["_law_opened","_law_tags_here"] 1 (O6 K)) (JX:cx P w K mg base "_law_good" ["_law_shape_here","_law_words"] 1 (O_ K)) (JY:cx P w K mg base "_law_lesser" ["_law_row","_law_other"] 1 PM) (JO:cZ P w K mg base aW "ends_well" ["self"] 2 (IT aW)) (JP:cZ P w K mg base aW "finish" ["self"] 8 (IC K aW Pt)) (JQ:cZ P w K mg base aW "pile" ["self"] 1 (IJ aW)) (F:bC K "law" "law" dh f fd):aX P w K mg base bq 9 f fd ["_law_script"] (Fg.CG K [Pt]):=by
 refine F.ok hV (λvs H Q E h=>?_) (λaK A outer s H vs Q E hr h=>?_)
 ·obtain⟨a,ns,rfl,_⟩:=h;rfl
 obtain⟨a,ns,rfl,hS,lC,hTb,q⟩:=h;have Di:H Pt=some (.cK #[]):=hTb Pt (ao.mpr rfl);have hu:=oe hr;have bN:=vE hr;refine ZM ((Zn dh).drop 14) (Zg (ZD (CB (Z0 Oj rfl (B "isinstance" (by decide)) Of (Zb (pv 11) (Zb (RI rfl (B "list" (by decide)) n_) Zf))) (yY (mx RA (Z0 ZP rfl (B "len" (by decide)) jT (Zb (pv 11) Zf)) (Zx gc (j6 zD hr (pv 3) aF.cls) Zj) (ZK _)))))) (λu14 C' JI=>?_);refine ZM ((Zn dh).drop 13) (Ze (c6 (Zy (Zkg hu) (ZR ZQ (j6 JQ hr (pv 3) aF.cls) Zj (λ_ _=>rfl)) (Z9 Zf) (ZK _))
   (Zg (ZD (mx tm (pv 11) fS (ZK _))))
   ZV) C') (λu13 h13 e13=>?_)
 refine ZM ((Zn dh).drop 12) (Ze (c6 (Zy Cv (pv 7) fS (ZK _))
   (Zg (ZD (CB (Z0 Oj rfl (B "isinstance" (by decide)) Of (Zb (pv 11) (Zb (RI rfl (B "list" (by decide)) n_) Zf))) (yY (mx (Rj hu) (pv 11) (pv 7) (ZK _))))))
   ZV) h13) (λu12 h12 e12=>?_)
 refine ZM ((Zn dh).drop 11) (Ze (Zt (i:=11) hV.nd rfl (Or.inl rfl) (j6 JP hr (pv 3) aF.cls)) h12) (λu11 J9 e11=>?_);refine ZM ((Zn dh).drop 10) (Ze (c6 (Zy Jt (j6 JO hr (pv 3) aF.cls) (Zoq (oi bN jj (pv 8))) (ZK _))
   (Zg (ZD eJ))
   ZV) J9) (λu10 h10 e10=>?_)
 refine ZM ((bX ((Zn dh).getD 9 (.Pass ⟨0,0,0,0⟩))).drop 0) (Zg (c6 (PW.pt (mr (Zy Jt (pv 10) jj (ZK _)) (qw (Zy Zgk (pv 10) (pv 6) (by with_unfolding_all rfl)))))
   (Zg (ZD eJ))
   ZV)) (λZBz ZxI ZwQ=>?_)
 refine ZM ((Zn dh).drop 9) (Ze (Cq (c7 cN rfl (Qt (pv 8)) (Zm (i:=10) hV.nd rfl (Or.inl rfl))
   ZxI)) h10) (λu9 h9 e9=>?_)
 refine ZM ((Zn dh).drop 8) (Ze (Zt (i:=6) hV.nd rfl (Or.inl rfl) (j6 C8 hr (pv 3) aF.cls)) h9) (λu8 h8 e8=>?_);refine ZM ((bX ((bX ((Zn dh).getD 7 (.Pass ⟨0,0,0,0⟩))).getD 0 (.Pass ⟨0,0,0,0⟩))).drop 1) (Zg (c6 (iH (c8 JY hr rfl (Zb (pv 9) (Zb (pv 7) Zf))) (λ_=>rfl))
   (Zg (Zt (i:=7) hV.nd rfl (Or.inl rfl) (pv 9)))
   ZV)) (λZBy ZxH ZwP=>?_)
 refine ZM ((bX ((bX ((Zn dh).getD 7 (.Pass ⟨0,0,0,0⟩))).getD 0 (.Pass ⟨0,0,0,0⟩))).drop 0) (Ze (qu bN (pv 8) (ff PySem.F.plainAttrs_str PySem.F.slot_str_join PySem.F.type_str_join ZnF jj (Zb (Py Qk (pv 9) Cu (IK Zj)) Zf)) eJ rfl) ZxH) (λZBx ZxG ZwO=>?_);refine ZM ((bX ((Zn dh).getD 7 (.Pass ⟨0,0,0,0⟩))).drop 0) (Zg (c6 (iH (c8 JX hr rfl (Zb (pv 2) (Zb (Zx ze (pv 4) (pv 9)) Zf))) (λ_=>rfl))
   ZxG
   ZV)) (λZEB ZxF ZwN=>?_)
 refine ZM ((Zn dh).drop 7) (Ze (c7 cN rfl (fc (c8 JW hr rfl (Zb (j6 zD hr (pv 3) aF.cls) (Zb (B6 P5 rfl hu rfl (B "sorted" (by decide)) rfl (B "set" (by decide)) (Zb (pv 1) Zf)) Zf)))) (Zm (i:=9) hV.nd rfl (Or.inl rfl))
   ZxF) h8) (λu7 h7 e7=>?_)
 refine ZM ((Zn dh).drop 6) (Ze (Zt (i:=8) hV.nd rfl (Or.inl rfl) mn) h7) (λu6 h6 e6=>?_);refine ZM ((Zn dh).drop 5) (Ze (Zt (i:=7) hV.nd rfl (Or.inl rfl) fS) h6) (λu5 h5 e5=>?_);refine ZM ((bX ((bX ((Zn dh).getD 4 (.Pass ⟨0,0,0,0⟩))).getD 2 (.Pass ⟨0,0,0,0⟩))).drop 1) (Zg (Z2 (vp JR hr (pv 3) aF.cls (Zb (ZR ZQ (pv 4) (oq oh Zj) (λ_ _=>rfl)) Zf)))) (λZBv ZxC ZwL=>?_);refine ZM ((bX ((bX ((Zn dh).getD 4 (.Pass ⟨0,0,0,0⟩))).getD 2 (.Pass ⟨0,0,0,0⟩))).drop 0) (Ze (Z2 (ff dX gC gD ZG (pv 4) (Zb (ZR ZQ (pv 6) (Zx eG (pv 5) (Z0 ZP rfl (B "len" (by decide)) jT (Zb (pv 6) Zf))) (λ_ _=>rfl)) Zf))) ZxC) (λZBu ZxB ZwK=>?_);refine ZM ((bX ((Zn dh).getD 4 (.Pass ⟨0,0,0,0⟩))).drop 2) (Zg (c6 (Zy (OM hu) (pv 6) (Z9 Zf) (ZK _))
   ZxB
   ZV)) (λZBt ZxA ZwJ=>?_)
 refine ZM ((bX ((Zn dh).getD 4 (.Pass ⟨0,0,0,0⟩))).drop 1) (Ze (c6 (Zy j9 (j6 zD hr (pv 3) aF.cls) Zj (ZK _))
   (Zg (BW (cl:=[]) (n0:=6) hV.nd rfl (Or.inl rfl) ["_law_word"] [] (fc (pv 6)) (λ_ _ _ _=>(Zm (i:=0) wI rfl (Or.inl rfl))) (λ_ _ _ _=>(Zy j9 (pv 0) jj (ZK _))) (λ_ _ _ _=>(pv 0)) rfl rfl (by decide) rfl (by decide) (λ_ _ h=>nomatch h) (lj (by decide)) (λ_ _ h=>nomatch h) (λ_=>rfl) rfl))
   ZV) ZxA) (λZBs Zxz ZwI=>?_)
 refine ZM ((bX ((Zn dh).getD 4 (.Pass ⟨0,0,0,0⟩))).drop 0) (Ze (Zt (i:=6) hV.nd rfl (Or.inl rfl) (j6 C8 hr (pv 3) aF.cls)) Zxz) (λZEA Zxy ZwH=>?_);refine ZM ((Zn dh).drop 4) (Ze (c7 cN rfl (fc (c8 vL hr rfl (Zb (pv 0) (Zb Zj (Zb (Zx eG (Zx sU (c8 mK hr rfl (Zb (pv 0) (Zb Zj Zf))) Zj) Zj) Zf))))) (Zm (i:=5) hV.nd rfl (Or.inl rfl))
   Zxy) h5) (λu4 h4 e4=>?_)
 refine ZM ((Zn dh).drop 3) (Ze (Zt (i:=4) hV.nd rfl (Or.inl rfl) (Z9 Zf)) h4) (λu3 h3 e3=>?_);refine ZM ((Zn dh).drop 2) (Ze (Zt (i:=3) hV.nd rfl (Or.inl rfl) (Zm7 JM hr rfl (Zb (pv 2) Zf))) h3) (λu2 h2 e2=>?_);refine ZM ((Zn dh).drop 1) (Ze (Zt (i:=2) hV.nd rfl (Or.inl rfl) (c8 JZ hr rfl (Zb (pv 0) (Zb (pv 1) Zf)))) h2) (λu1 h1 e1=>?_);refine ZM ((Zn dh).drop 0) (Ze (Zt (i:=1) hV.nd rfl (Or.inl rfl) (c8 J0 hr rfl (Zb (c8 mK hr rfl (Zb (pv 0) (Zb Zj Zf))) Zf))) h1) (λu0 h0 e0=>?_);refine⟨u0,h0,?_⟩;refine ZL e0 ?_;refine⟨_,rfl,a,ns,1,rfl,hS,lC,by decide,λv=>⟨v,rfl,λtr ts H1 s1 _ et wy aB=>?_⟩⟩;show u1 _ _ _;refine ZL e1 ?_;refine⟨_,rfl,_,rfl,a,tr,ns,ts,rfl,s1.seq hS,lC,et,wy,aB,λsa fm H2 s2 hF ok wc hsn kJ T4=>?_⟩;show u2 _ _ _;refine ZL e2 ?_;refine⟨_,rfl,λra dr T7 tW bt=>⟨ra,sa,dr,fm,rfl,Za,hF.same (making T7 tW bt),ok,λH3 L T R hs Dm kb3 mL vQ T9 hh hR=>⟨rfl,?_⟩⟩⟩;show u3 _ _ _;have t3:=made T7 tW kb3;have oH:=Og mL;have SQ:=Og vQ;have iV:=s1.trans s2;have s3:=iV.trans t3;refine ZL e3 ?_;refine⟨by decide,λwr o5=>?_⟩;show u4 _ _ _;obtain⟨_,_,_,_,_,zsL,_,_,_,_,_,NP,_,NQ⟩:=id hR.ho;have LO:wr≠L:=λz=>by rw[z,NP] at o5;cases o5
 have LP:wr≠T:=λz=>by rw[z,NQ] at o5;cases o5
 have s4:Zh H3 (upd H3 wr (.lst [])):=Zh.new o5;have x4:(upd H3 wr (.lst [])) wr=some (.lst (([]:List Str).map V.str)):=Za;have SN:=hR.more (ys:=[]) o5;generalize upd H3 wr (.lst [])=H4 at s4 x4 SN ⊢;have ntr:tr ∉ [L,T]:=j8 (Zd (s2 _ _ et) oH) (Zd (s2 _ _ et) SQ);have nH:∀b o,H b=some o->b ∉ [L,T]:=λb o e=>j8 (Zd (iV _ _ e) oH) (Zd (iV _ _ e) SQ);have ZyW:∀t∈ts,t≠SL:=λt ht=>fG.ne (aB t ht).1;have tail:∀(H0:Hp)(ws tg:List Str)(lv:List (List Pr))(y5 y6:Option V),iA aW H0 ra L T sa wr fm R hs ws tg lv->ws.length<=9->tg.length<=3->H0 tr=some (.lst (ts.map V.str))->Zh H H0->u5 { nx:=λ_ H'=>Q .aD H',rt:=Q } (qh a tr sa ra wr [y5,y6,none,none,none,none,none]) H0:=by
  intro H0 ws tg lv y5 y6 hI ip rg et0 Sb;obtain⟨lv0,l,rfl⟩:=hI.rd.UC;obtain⟨oV,S4⟩:=hI.ends;have bu:=hI.rd.st.len;rw[aH,cL] at bu;have ZyX:lv0 ≠ []->tg ≠ []:=λh1 h2=>by
   rw[h2,lX] at bu;exact h1 (ix.mp (by lia))
  obtain⟨dx,p,df,dw,yo,zs',h1,_⟩:=id hI.rd.ho;refine ZL e5 ?_;show u6 _ _ _;refine ZL e6 ?_;intro d hd;show u7 _ _ _;have sd:Zh H0 (upd H0 d (.dK [])):=Zh.new hd;have xd:(upd H0 d (.dK [])) d=some (.dK []):=Za;generalize upd H0 d (.dK [])=Hd at sd xd ⊢;refine ZL e7 ?_;refine⟨_,rfl,ra,dx,_,rfl,sd _ _ h1,rfl,ra,L,T,_,fm,R,_,tg,rfl,hI.rd.same sd,_,rfl,tr,ts,ts,rfl,ag.of (sd _ _ et0),λ_ h=>h,by lia,λrs ms hrs jz mP=>?_⟩;have Aa:ms.length<=3:=by
   rw[<- wy];exact nX (jz.imp λ{a b} eu e=>by rw[e,QS.uq] at eu;cases eu) λx hx=>(mP x).mp hx
  have sr:Zh Hd (upd Hd rs (.lst (ms.map V.str))):=Zh.new hrs;refine⟨tg.length,rs,ms,rfl,rg,Za,Aa,λer cs W H8 s8 sy hP hWl hW=>?_⟩;have Tz:∀q∈R,q.2.1∈ms:=λq hq=>(mP _).mpr (T4 q ((hI.rd.rk q).mp hq).1);have Dv:∀w∈W,dA SL 0 (ws++w):=λw hw=>by
   obtain⟨u,ja⟩:=(hW w).mp hw;refine ZmX hI.li ?_;have:=Zox (λt ht=>ZyW t ((mP t).mp ht)) ja (v:=[]) rfl
   rwa [fN] at this
  have TQ:∀w∈W,eZ w:=λw hw x hx=>by
   obtain⟨u,ja⟩:=(hW w).mp hw;rcases Jn ja x hx with rfl|h
   ·exact Js
   ·exact ZiF (aB x ((mP x).mp h)).1.2
  have hlen:∀w∈W,w.length<=7:=λw hw=>by
   obtain⟨u,ja⟩:=(hW w).mp hw;have:=ja.len;lia
  have ZyE:∀w∈W,(∃x∈fm.hs,iU fm (bk (ws++w)).1 x)↔dc fm.ts R l lv0.reverse tg.reverse w:=λw hw=>(Zlt hI.rd.rk hI.lt hI.hh (Dv w hw) (hI.cs w)).trans vh;have U4:=(sd.trans sr).trans s8;have EW:H8 d=some (.dK []):=s8 _ _ (sr _ _ xd);have SH:cs.length=W.length:=cw hP;have hHd:H d=none:=Sb.free hd;refine⟨er,rfl,⟨_,ag.of sy⟩,iG (K:=K) (a:=er) (xs:=cs.map V.ref) (λi σ Hn=>∃(v:V)(o:Option (List Str))(m:List (Key×V))(ks:List Str)(y9:Option V),σ = qh a tr sa ra wr [y5,y6,some v,some (.ref d),y9,none,none]/\(∀b o,b≠d->H8 b=some o->Hn b=some o)/\mE Hn v o/\qC (dc fm.ts R l lv0.reverse tg.reverse) (W.take i) o/\Hn d=some (.dK m)/\m.map (·.1)=ks.map br/\ks.length<=i/\∀x,x∈ks↔∃w∈W.take i,dc fm.ts R l lv0.reverse tg.reverse w/\fL w=x)
   ⟨.aD,none,[],[],none,rfl,λ_ _ _ e=>e,rfl,(λ_ h=>nomatch h),EW,rfl,ax _,λx=>⟨λh=>(nomatch h),λ⟨_,h,_⟩=>(nomatch h)⟩⟩ ?_ ?_ ?_⟩
  ·rintro i σ Hn _ ⟨_,_,_,_,_,_,kn,_⟩;exact ag.of (kn _ _ (fg sy EW λz=>nomatch z) sy)
  ·refine T' ?_;rintro i c' σ Hn hc ⟨v,o,m,ks,y9,rfl,kn,hv,lH,oN,wb,cO,vW⟩ D' nx;rw[bW] at hc;obtain⟨c,SX,rfl⟩:=dv.mp hc;have ik:=(cT.mp SX).1;obtain⟨w,hw⟩:∃w,W[i]?= some w:=⟨_,bO (by rw[<- SH];exact ik)⟩;have wz:=bY hw;have tV:H8 c=some (.lst (w.map V.str)):=vz hP i c w SX hw;have AV:Zh H0 Hn:=λb o e=>kn _ _ (Zd e hd) (U4 _ _ e);have tU:=kn _ _ (fg tV EW λz=>nomatch z) tV
   have Dd:=hI.same AV;have ZD5:=hlen w wz;refine ZL ZwN ?_;refine⟨_,rfl,_,rfl,_,rfl,wr,c,_,_,rfl,rfl,Dd.hw,tU,sX (by rw[ar,ar];lia),λpc cQ=>?_⟩;have sp:Zh Hn (upd Hn pc (.lst (ws.map V.str++w.map V.str))):=Zh.new cQ;refine⟨sa,pc,fm,ws++w,rfl,Dd.fm.same sp,ok,by rw[bP];exact Za,Dv w wz,by rw[aH];lia,λg Hg sg hg=>?_⟩;have sC:=hg.trans (ZyE w wz);have EO:=sp.trans sg;refine⟨g,rfl,?_⟩;have Uw:∀b o,b≠d->H8 b=some o->Hg b=some o:=λb o n e=>EO _ _ (kn b o n e);have Ug:mE Hg v o:=hv.kept λb xs e=>EO _ _ e;have Kr:=EO _ _ oN;have uc:m.length=ks.length:=by
    have:=congrArg fA wb
    rwa [ar,ar] at this
   cases g with
   | false =>
    have dS : ¬ dc fm.ts R l lv0.reverse tg.reverse w:=λz=>(nomatch sC.mpr z)
    refine b9 ?_;exact nx _ _ ⟨v,o,m,ks,some (.ref c),rfl,Uw,Ug,by rw[Zi hw];exact lH.no dS,Kr,wb,by lia,λx=>by rw[Zi hw,ZnP dS];exact vW x⟩
   | true =>
   have Um:=sC.mp rfl;refine cA ?_;show ZBx _ _ _;refine ZL ZwO ?_;have hcg:=EO _ _ tU;refine⟨_,rfl,rfl,_,rfl,1,rfl,c,_,rfl,ag.of hcg,λpj mQ=>?_⟩;have sj:Zh Hg (upd Hg pj (.lst (kf (w.map V.str) none (some 1)))):=Zh.new mQ;have xj:(upd Hg pj (.lst (kf (w.map V.str) none (some 1)))) pj=some (.lst ((w.take 1).map V.str)):=by
    rw[Za,List.map_take];exact congrArg (λz=>some (HO.lst z)) (Zlc _ 1)
   generalize upd Hg pj (.lst (kf (w.map V.str) none (some 1)))=Hj at sj xj ⊢;have hsz:((w.take 1).map (·.length)).sum+(w.take 1).length*(bw "").length<=16777216:=by
    cases w with
    | nil=>decide
    | cons x w =>
     have wA:x.length<=8:=by
      obtain⟨u,ja⟩:=(hW _).mp wz;rcases Jn ja x (aZ ..) with rfl|h
      ·decide
      ·exact(aB x ((mP x).mp h)).2
     show x.length+0+1*0<=16777216;lia
   refine⟨_,pj,w.take 1,rfl,rfl,ag.of xj,hsz,d,_,rfl,.inl ⟨m,br (fL w),sj _ _ Kr,congrArg V.str (Zk4 w),by rw[uc,bB];lia,rfl⟩,?_⟩;have Eo:∀b o,b≠d->H8 b=some o->(upd Hj d (.dK (putK m (br (fL w)) (.bl true)))) b=some o:=λb o n e=>by
    rw[Zc n];exact sj _ _ (Uw b o n e)
   have mR:mE (upd Hj d (.dK (putK m (br (fL w)) (.bl true)))) v o:=Ug.kept λb xs e=>by
    rw[Zc (fg e Kr λz=>nomatch z)]
    exact sj _ _ e
   have xc:(upd Hj d (.dK (putK m (br (fL w)) (.bl true)))) d=some (.dK (putK m (br (fL w)) (.bl true))):=Za;generalize upd Hj d (.dK (putK m (br (fL w)) (.bl true)))=Hk at Eo mR xc ⊢;have TF:=KS.put wb (fL w) (.bl true);have Tq:∀x,x∈(if fL w∈ks then ks else ks ++ [fL w])↔∃w∈W.take (i+1),dc fm.ts R l lv0.reverse tg.reverse w/\fL w=x:=λx=>by
    rw[Zi hw,Zm6 Um,<- vW x]
    split
    ·rename_i h
     exact⟨.inl,λz=>z.elim id λz=>z ▸ h⟩
    ·rw[aS,ao];exact or_congr rQ ⟨λz=>z.symm,λz=>z.symm⟩
   have To:(if fL w∈ks then ks else ks ++ [fL w]).length<=i+1:=by
    split
    ·lia
    ·rw[aH,cL];lia
   have z_:=lH.yes Um;rw[<- Zi hw] at z_;show ZBy _ _ _;refine ZL ZwP ?_;have iN:=Eo _ _ (fg tV EW λz=>nomatch z) tV
   refine⟨_,rfl,_,rfl,c,v,w,o,rfl,iN,TQ w wz,mR,_,rfl,cC (λz=>?_) (λz=>?_)⟩
   ·rw[aj z] at z_;exact⟨_,rfl,nx _ _ ⟨.ref c,some w,_,_,some (.ref c),rfl,Eo,⟨c,rfl,iN,TQ w wz⟩,z_,xc,TF,To,Tq⟩⟩
   ·rw[ah z] at z_;exact nx _ _ ⟨v,o,_,_,some (.ref c),rfl,Eo,mR,z_,xc,TF,To,Tq⟩
  rintro σ Hn ⟨v,o,m,ks,y9,rfl,kn,hv,lH,oN,wb,cO,vW⟩;rw[ar,SH,cU] at lH vW;rw[ar] at cO;have AV:Zh H0 Hn:=λb o e=>kn _ _ (Zd e hd) (U4 _ _ e);have Dd:=hI.same AV;show u8 _ _ _;refine ZL e8 ?_;refine⟨_,rfl,ra,dx,_,rfl,AV _ _ h1,rfl,ra,L,T,_,fm,R,lv0,l,tg,rfl,Dd.rd,λcr gs jY fX Kq ye eA aY zM=>?_⟩;show u9 _ _ _;refine ZL e9 ?_;have nrd:cr≠d:=λz=>by rw[z,oN] at Kq;cases Kq
  refine⟨_,rfl,d,m,rfl,fX _ _ oN,λob=>Pf (λi σ dI=>∃(EX:Option V),σ = qh a tr sa ra wr [y5,some (.ref cr),some v,some (.ref d),y9,EX,none]/\(∀b o,b≠d->jY b=some o->dI b=some o)/\dI d=some (.aR ob (.dK m)))
   ⟨none,rfl,λb o n e=>by rw[Zc n];exact e,Za⟩ ?_ ?_ ?_⟩
  ·rintro i σ dI _ ⟨_,_,_,z⟩;exact z
  ·rintro i k' v' σ dI hk ⟨EX,rfl,fW,zw⟩;obtain⟨x,hx,rfl⟩:∃x∈ks,k'=br x:=by
    have:k'∈m.map (·.1):=a6.mpr ⟨_,bY hk,rfl⟩;rw[wb] at this;obtain⟨x,hx,e⟩:=a6.mp this;exact⟨x,hx,e.symm⟩
   show ZBz _ _ _;refine ZL ZwQ ?_;have Zxj:=fW _ _ nrd ye;have UW:∃y:Option V,qh a tr sa ra wr [y5,some (V.ref cr),some v,some (V.ref d),y9,some (V.str x),none]=qh a tr sa ra wr [y5,some (V.ref cr),some v,some (V.ref d),y9,y,none]/\(∀b o,b≠d->jY b=some o->dI b=some o)/\dI d=some (.aR ob (.dK m)):=⟨_,rfl,fW,zw⟩;refine⟨V.str x,rfl,rfl,_,rfl,cC (λc1=>?_) (λ_=>b9 UW)⟩;refine⟨V.str x,rfl,_,rfl,cr,_,rfl,.inl (ag.of Zxj),rfl,Zi7 _,?_⟩;rw[aj rfl,Zk7];refine⟨_,rfl,cC (λc2=>?_) (λ_=>UW)⟩;exfalso;obtain⟨w,hw,Ys,wq⟩:=(vW x).mp hx;cases w with
   | nil =>
    have wq : "" = x:=wq;rw[<- wq] at c1;exact absurd c1 (by decide)
   | cons x' w' =>
    have wq:x'=x:=wq;subst wq;have:x'∈gs:=(zM x').mpr (Znu (λz=>ZyX (λz2=>z (by rw[z2];rfl))) Ys);simp[this] at c2
  rintro σ dI ⟨EX,rfl,fW,zw⟩;refine⟨d,ob,m,zw,λo u z=>?_,?_⟩
  ·have z:H d=some (.aR o u):=z;rw[hHd] at z;cases z
  have pA:Zh H0 (upd dI d (.dK m)):=λb o e=>by
   rw[Zc (Zd e hd)];exact fW _ _ (Zd e hd) (fX _ _ (AV _ _ e))
  have mR:mE (upd dI d (.dK m)) v o:=hv.kept λb xs e=>by
   have n:=fg e oN λz=>nomatch z
   rw[Zc n];exact fW _ _ n (fX _ _ e)
  have xc:(upd dI d (.dK m)) d=some (.dK m):=Za;generalize upd dI d (.dK m)=H12 at pA mR xc;show u10 _ _ _;have ZxO:=hI.same pA;refine ZL e10 ?_;refine⟨_,rfl,ra,dx,_,rfl,pA _ _ h1,rfl,ra,L,T,_,fm,R,lv0,l,tg,rfl,ZxO.rd,λb qe rH hb=>?_⟩;have JH:=rH _ _ xc;have EL:Zh H0 qe:=pA.trans rH;have ZzB:mE qe v o:=mR.kept λb xs e=>rH _ _ e;have SA:=hI.same EL;refine⟨_,rfl,d,_,rfl,dO.k (k:=br (bw "")) JH,rfl,_,rfl,?_⟩;have Zy1:bw "" ∈ ks↔tg=[]/\∃x,kY fm.ts l x:=by
   rw[vW];have TR:tg=[]->lv0=[]:=λe=>by
    rw[e,lX] at bu;exact ix.mp (by lia)
   constructor
   ·rintro⟨w,hw,hc,ho⟩;have lK:w=[]:=by
     cases w with
     | nil=>rfl
     | cons x w =>
      exfalso;obtain⟨u,ja⟩:=(hW _).mp hw;have ho:x=bw "" := ho;rcases Jn ja x (aZ ..) with h|h
      ·rw[h] at ho;exact absurd ho (by decide)
      ·have:=(aB x ((mP x).mp h)).1.1;rw[ho] at this;exact this rfl
    rw[lK] at hc;by_cases o3:tg=[]
    ·rw[TR o3,o3] at hc;exact⟨o3,P_.mp hc⟩
    ·exfalso;have h1:tg.reverse ≠ []:=λz=>o3 (Wr.mp z);have h2:lv0.reverse ≠ []:=λz=>by
      rw[Wr.mp z,lX] at bu;exact o3 (ix.mp (by lia))
     generalize tg.reverse=L9 at hc h1;generalize lv0.reverse=Et at hc h2;cases L9 with
     | nil=>exact h1 rfl
     | cons t L9 =>
      cases Et with
      | nil=>exact h2 rfl
      | cons l1 Et=>exact ZkZ hc
   ·rintro⟨o3,hx⟩;refine⟨[],(hW []).mpr ⟨0,?_⟩,?_,rfl⟩
    ·rw[o3];exact .nil
    ·rw[TR o3,o3];exact P_.mpr hx
  have eb:b=(bj m (br (bw ""))).isSome:=by
   rw[KS.has wb,mY,hb,fB,Zy1]
  rw[eb];refine cC (λz=>by simp at z) (λ_=>?_);show u11 _ _ _;refine ZL e11 ?_;have ZxZ:R.length<=70:=by lia
  have Zx2:dN qe Pt Zw:=dN.new _ (EL _ _ (Sb _ _ Di));have fin:∀(left:V)(sG:Hp),KT qe sG->((lv0 ++ [l])[0]?= some []/\left=.aD\/(lv0 ++ [l])[0]? ≠ some []/\∃r w,left=.ref r/\sG r=some (.lst (w.map V.str))/\mB (dc fm.ts R l lv0.reverse tg.reverse) w/\eZ w)->u12 { nx:=λ_ H'=>Q .aD H',rt:=Q } (qh a tr sa ra wr [y5,some (.ref cr),some v,some (.ref d),y9,EX,some left]) sG:=by
   intro left sG AH Tu;refine ZL e12 ?_;have Eb:mE sG v o:=ZzB.kept λb xs e=>AH b _ e λ_ z=>nomatch z
   have SK:=bT.kt SA.rd AH;have C':=AH _ _ (EL _ _ h1) λ_ z=>nomatch z
   cases o with
   | some w0 =>
    obtain⟨b0,rfl,Dt,ho0⟩:=Eb;have cP:=Zns Tz lH.2.1 (by rw[pP];exact(hW w0).mp lH.1) (λv hv he=>lH.2.2 v ((hW v).mpr (by rw[pP] at he;exact he)) hv);rcases Tu with⟨z,_⟩|⟨_,r,w,rfl,er,hl,ho⟩
    ·rcases S4 with⟨_,dS⟩|⟨z2,_⟩
     ·exact absurd lH.2.1 (dS w0)
     ·exact absurd z z2
    ·have:=hl.one cP;subst this;refine⟨_,rfl,rfl,_,rfl,cC (λ_=>?_) (λz=>absurd (by rfl) z)⟩;exact⟨_,rfl,_,"list",.type "list",true,rfl,.lst er,rfl,true,rfl,cA ⟨_,rfl,_,rfl,ZmZ (ag.of er) (ag.of Dt) ho (q _)⟩⟩
   | none =>
   have Eb:v=.aD:=Eb;subst Eb;refine⟨_,rfl,rfl,_,rfl,cC (λz=>by simp at z) (λ_=>?_)⟩;show u13 _ _ _;refine ZL e13 ?_;refine⟨_,rfl,ra,dx,_,rfl,C',rfl,ra,L,T,_,fm,R,_,tg,rfl,SK,by lia,λpr zs sI pB q_ e15 hz=>?_⟩;obtain⟨z0,gR⟩:∃z,zs[0]?= some z:=by
    have:=cw hz;rw[aH,cL] at this;exact⟨_,bO (by lia)⟩
   obtain⟨pl,xl,l0,zB,rfl,_,e3,Yo⟩:=iB.get hz 0 z0 gR;have fu:=Yo.length;refine⟨pr,zs,0,.ref pl,rfl,rfl,ag.of e15,j7 gR,by decide,λpn gQ=>?_⟩;have AZ:Zh sI (upd sI pn (.lst [])):=Zh.new gQ;have Vi:(upd sI pn (.lst [])) pn=some (.lst []):=Za;generalize upd sI pn (.lst [])=N2 at AZ Vi ⊢;refine⟨pl,pn,xl,rfl,rfl,ag.of (AZ _ _ e3),ag.of Vi,_,rfl,?_⟩;rcases Tu with⟨z1,rfl⟩|⟨z1,r,w,rfl,er,hl,ho⟩
   ·rw[z1] at zB;injection zB with zB;rw[<- zB,lX] at fu;rw[ix.mp fu];refine cA ?_;exact⟨_,rfl,rfl,q _⟩
   ·have rm:xl.isEmpty=false:=by
     cases xl with
     | nil =>
      rw[lX] at fu;exact absurd (by rw[zB,ix.mp fu.symm]) z1
     | cons=>rfl
    rw[rm];refine b9 ?_;show u14 _ _ _;refine ZL JI ?_;have NO:=AZ _ _ (pB _ _ er);have hn:=Zk2 Tz hl.1 (λv hv he=>lH v ((hW v).mpr (by rw[pP] at he;exact he)) hv);rw[pP] at hn;refine⟨_,rfl,_,"list",.type "list",true,rfl,.lst NO,rfl,true,rfl,cA ?_⟩;refine⟨_,rfl,r,_,rfl,.inl (ag.of NO),_,rfl,ra,dx,_,rfl,AZ _ _ (pB _ _ C'),rfl,ra,L,T,_,fm,R,_,tg,rfl,(SK.same pB).same AZ,_,_,rfl,rfl,_,_,rfl,rfl,?_⟩;have e:decide (((w.map V.str).length:Int) > (tg.length:Int)+4)=true:=aP (by rw[ar];lia);exact(congrArg (λz=>Q (.bl z) N2) e).mpr (q N2)
  refine⟨_,rfl,ra,dx,_,rfl,EL _ _ h1,rfl,ra,L,T,_,fm,R,lv0,l,tg,rfl,SA.rd,wc,ZxZ,λq hq=>(aB _ (T4 q hq)).1,Zx2,by lia,oV,λz=>?_,λz=>?_⟩
  ·exact fin .aD qe (λb o e _=>e) (.inl ⟨z,rfl⟩)
  ·rcases S4 with⟨z1,_⟩|⟨_,hex⟩
   ·exact absurd z1 z
   ·exact⟨hex,λr w sG AH _ JI ZyR Zy4=>fin (.ref r) sG AH (.inr ⟨z,r,w,rfl,JI,ZyR,Zy4⟩)⟩
 refine ZL e4 ?_;refine⟨_,rfl,_,rfl,a,ns,1,rfl,(s3.trans s4).seq hS,lC,by decide,λv=>⟨_,_,rfl,rfl,⟨by decide,by decide⟩,_,_,rfl,rfl,(by show(0:Int)<10;decide),a,ns,60,v / 7 % 10,rfl,(s3.trans s4).seq hS,lC,by decide,by decide,by lia,by lia,λnr xs H5 s5 wg NN fu Ll=>?_⟩⟩;have uy:=s4.trans s5;have nnr:nr ∉ [L,T]:=j8 (λz=>by rw[z,s4 _ _ NP] at wg;cases wg) (λz=>by rw[z,s4 _ _ NQ] at wg;cases wg);have nnw:nr≠wr:=λz=>by rw[z,x4] at wg;cases wg
 have ntw:tr≠wr:=λz=>by rw[<- z,t3 _ _ (s2 _ _ et)] at o5;cases o5
 have hI0:iA aW H5 ra L T sa wr fm R hs [] [] [hs.map dup]:=⟨SN.same s5,(hF.same t3).same uy,hh,s5 _ _ x4,je.start,λw=>Zjs,?_⟩;rotate_left
 ·by_cases rc:hs=[]
  ·exact .inl (by rw[rc];rfl)
  ·exact .inr (Zkh (λx hx=>((hh x).mp hx).2) rc)
 refine⟨nr,rfl,⟨_,ag.of NN⟩,iG (K:=K) (a:=nr) (xs:=xs.map V.int) (λi σ H6=>∃(ws tg:List Str)(lv:List (List Pr))(y5 y6:Option V),σ = qh a tr sa ra wr [y5,y6,none,none,none,none,none]/\iA aW H6 ra L T sa wr fm R hs ws tg lv/\ws.length<=i/\tg.length<=3/\H6 tr=some (.lst (ts.map V.str))/\Zh H H6/\H6 nr=some (.lst (xs.map V.int)))
  ⟨[],[],_,none,none,rfl,hI0,ax _,bz _,uy _ _ (t3 _ _ (s2 _ _ et)),s3.trans uy,NN⟩ ?_ ?_ ?_⟩
 ·rintro i σ H6 _ ⟨_,_,_,_,_,_,_,_,_,_,_,h⟩;exact ag.of h
 rotate_left
 ·rintro σ H6 ⟨ws,tg,lv,y5,y6,rfl,hI,ip,rg,C7,C5,_⟩;rw[ar] at ip;exact tail H6 ws tg lv y5 y6 hI (by lia) rg C7 C5
 refine T' ?_;rintro i x σ H6 hx ⟨ws,tg,lv,y5,y6,rfl,hI,ip,rg,C7,C5,R_⟩ D' nx;rw[bW] at hx;obtain⟨n,hn,rfl⟩:=dv.mp hx;have ik:=(cT.mp hn).1;obtain⟨lv0,l,rfl⟩:=hI.rd.UC;obtain⟨dx,p,df,dw,yo,zs',h1,_⟩:=id hI.rd.ho;refine ZL ZwH ?_;refine⟨_,rfl,ra,dx,_,rfl,h1,rfl,ra,L,T,_,fm,R,lv0,l,tg,rfl,hI.rd,λcr cs H8 s8 Kq sy eA aY zM=>?_⟩;show ZBs _ _ _;refine via (t:=ZBt) (R:=λσ H9=>∃(cu:Addr)(us:List Str),σ = qh a tr sa ra wr [some (.int n),some (.ref cu),none,none,none,none,none]/\Zh H6 H9/\H9 cu=some (.lst (us.map V.str))/\us.length<=200/\(∀u∈us,u∈cs)/\(tg.length=3->∀u∈us,u=SL)) ?_ (λhv=>?_);rotate_left
 ·refine ZL ZwI ?_;obtain⟨dx8,_,_,_,_,_,h8,_⟩:=id (hI.same s8).rd.ho;refine⟨_,rfl,ra,dx8,_,rfl,h8,rfl,ra,L,T,_,fm,R,_,tg,rfl,(hI.same s8).rd,rfl,_,rfl,cC (λc3=>?_) (λc3=>?_)⟩
  ·have e3:tg.length=3:=by
    have:=bK c3;injection this with this;lia
   refine⟨_,rfl,cr,rfl,⟨_,ag.of sy⟩,λpc cQ=>Oq (K:=K) (a:=cr) (p:=pc) (xs:=cs.map V.str) (λi ys σ dI=>∃(v0:Option V)(us:List Str),σ =[v0]/\Zh H8 dI/\dI pc=some (.lst ys)/\ys=us.map V.str/\us.length<=i/\∀u∈us,u=SL/\u∈cs)
    ⟨none,[],rfl,Zh.new cQ,Za,rfl,ax _,λ_ h=>nomatch h⟩ ?_ ?_ ?_⟩
   ·rintro i ys σ dI _ ⟨v0,us,_,sm,h,_⟩;exact⟨ag.of (sm _ _ sy),h⟩
   ·rintro j ys x σ dI hj hx ⟨v0,us,rfl,sm,hp,rfl,Ea,Au⟩;rw[bW] at hx;obtain⟨t,ht,rfl⟩:=dv.mp hx;rw[ar] at hj;refine⟨_,rfl,rfl,_,rfl,cC (λd2=>?_) (λd2=>?_)⟩
    ·refine⟨_,rfl,hp,Zr (by rw[ar];lia),CW.next (by rw[ar];exact hj) ⟨_,us ++ [t],rfl,sm.bA cQ,Za,by rw[bP];rfl,by rw[aH,cL];lia,λu hu=>?_⟩⟩
     rcases aS.mp hu with hu|hu
     ·exact Au u hu
     ·rw[ao.mp hu];have:=bK d2;injection this with this;exact⟨this,bY ht⟩
    ·exact CW.next (by rw[ar];exact hj) ⟨_,us,rfl,sm,hp,rfl,by lia,Au⟩
   rintro ys σ dI ⟨v0,us,rfl,s11,Zza,rfl,Ea,Au⟩;rw[ar] at Ea;exact hv _ dI ⟨pc,us,rfl,s8.trans s11,Zza,by lia,λu hu=>(Au u hu).2,λ_ u hu=>(Au u hu).1⟩
  ·exact hv _ H8 ⟨cr,cs,rfl,s8,sy,aY,λ_ h=>h,λh3=>absurd (by rw[h3];rfl) c3⟩
 rintro σ9 H9 ⟨cu,us,rfl,s9,Yp,Ea,Lg,hu3⟩;have hI9:=hI.same s9;refine ZL ZwJ ?_;refine⟨_,rfl,by decide,λpn gQ=>?_⟩;have rL:Zh H9 (upd H9 pn (.lst [])):=Zh.new gQ;have wZ:(upd H9 pn (.lst [])) pn=some (.lst []):=Za;generalize upd H9 pn (.lst [])=jY at rL wZ ⊢;have tQ:=hI9.same rL;have fX:=s9.trans rL;have ye:=rL _ _ Yp;refine⟨cu,pn,_,rfl,rfl,ag.of ye,ag.of wZ,?_⟩;cases us with
 | nil =>
  refine⟨_,rfl,b9 ?_⟩;exact nx _ _ ⟨ws,tg,_,_,_,rfl,tQ,by lia,rg,fX _ _ C7,C5.trans fX,fX _ _ R_⟩
 | cons c0 wX =>
 refine⟨_,rfl,cA ?_⟩;show ZBu _ _ _;refine ZL ZwK ?_;have rB:(0:Int)<(((c0::wX).map V.str).length:Nat):=by
  rw[ar,bI];lia
 obtain⟨k,hk,cO⟩:=RS n (n:=((c0::wX).map V.str).length) (by lia);rw[ar] at cO;have gL:=QR (ws:=c0::wX) (n:=k) cO;refine⟨_,rfl,.inl ⟨rfl,_,ag.of tQ.hw⟩,_,rfl,_,rfl,_,rfl,cu,_,rfl,.inl (ag.of ye),_,_,rfl,rfl,rB,cu,_,_,_,rfl,rfl,ag.of ye,(by rw[hk];exact gL),wr,_,_,rfl,rfl,tQ.hw,Zr (by rw[ar];lia),?_⟩;have lK:(c0::wX)[k]' cO∈c0::wX:=Ft _;generalize (c0::wX)[k]' cO=w0 at lK ⊢;show ZBv _ _ _;refine ZL ZwL ?_;have ew:ws.map V.str ++ [V.str w0]=(ws ++ [w0]).map V.str:=by
  rw[bP];rfl
 rw[ew];have SJ:=tQ.rd.put (b:=wr) (ys:=(ws ++ [w0]).map V.str) (aZ ..);obtain⟨dx2,_,_,_,_,zs2,J9,_,_,_,_,ZDw,_,ZDz⟩:=id SJ.ho;have A2:(upd jY wr (.lst ((ws ++ [w0]).map V.str))) wr=some (.lst ((ws ++ [w0]).map V.str)):=Za;refine⟨_,rfl,ra,dx2,_,rfl,J9,rfl,_,rfl,1,rfl,wr,_,-1,.str w0,rfl,rfl,ag.of A2,by rw[<- ew];exact sP _ _,ra,L,T,_,fm,R,lv0,l,tg,w0,rfl,SJ,by lia,λsI _ KZ=>?_,λsI cF bR kx ZxY bu=>?_⟩
 ·exact absurd KZ λKZ=>((zM w0).mp (Lg w0 lK)).nst tQ.rd.ok tQ.rd.rk KZ
 have hlen:bR.length<=3:=by
  rcases bu.len with⟨hw,hl⟩|⟨hw,hl⟩
  ·lia
  ·by_cases h3:tg.length=3
   ·exact absurd (hu3 h3 w0 lK) hw
   ·lia
 have fW:∀b o,b ∉ [L,T]->b≠wr->jY b=some o->sI b=some o:=λb o h1 h2 e=>kx b o h1 (by rw[Zc h2];exact e);exact nx _ _ ⟨ws ++ [w0],bR,cF,some (.int n),some (.ref cu),rfl,iA.wQ tQ LO LP kx ZxY bu,by rw[aH,cL];lia,hlen,fW _ _ ntr ntw (fX _ _ C7),(λb o e=>fW _ _ (nH b o e) (Zd (s3 _ _ e) o5) (fX _ _ (C5 _ _ e))),fW _ _ nnr nnw (fX _ _ R_)⟩
end
theorem Zoj{P:aC}{w:ay}{K:au}{mg:Str->Option aa}{fa f1 f2 f3 f4 f5 f6 f7 f8 f9 Se Sf Sg Sh f14 f15 f16 Si f18 f19 f20 f21 f22 f23 f24 f25 f26 f27 f28 f29 Sj f31 Sk Sl f34:Addr}{d1 d2 d3 d4 d5 d6 d7 d8 d9 d10 zw d12 JH d14 d15 d16 d17 d18 d19 d20 d21 d22 d23 d24 R5 d26 d27 d28 d29 d30 d31 d32 d33 R6:dP}(S5:mg "law" = some (.ref fa))
  {aW:Addr}
  (m1:YF K mg "Reader" aW) (aF:Fg.iC K aW)
  (F1:dZ K mg "_law_tags" Iq f1 d1)
  (F2:dZ K mg "_law_cell_at" HQ f2 d2)
  (F3:dZ K mg "_law_numbers" Ho f3 d3)
  (F4:dZ K mg "_law_shape" Ia f4 d4)
  (F5:dZ K mg "live_kinds" B7 f5 d5)
  (F6:jZ K aW "__init__" "Reader.__init__" B1 f6 d6)
  (F7:jZ K aW "ended" "Reader.ended" BU f7 d7)
  (F8:jZ K aW "goes_on" "Reader.goes_on" yF f8 d8)
  (F9:jZ K aW "height" "Reader.height" Hh f9 d9)
  (GI:jZ K aW "ways_from" "Reader.ways_from" BX Se d10)
  (GJ:jZ K aW "take_end" "Reader.take_end" BZ Sf zw)
  (GK:jZ K aW "take_tag" "Reader.take_tag" B0 Sg d12)
  (GL:jZ K aW "take" "Reader.take" Hx Sh JH)
  (GN:dZ K mg "_law_endings" ZJ f14 d14)
  (GO:dZ K mg "_law_good" Cm f15 d15)
  (GP:dZ K mg "_law_lesser" HI f16 d16)
  (GQ:jZ K aW "ends_well" "Reader.ends_well" Hi Si d17)
  (GR:dZ K mg "is_small" HD f18 d18)
  (GS:dZ K mg "count_above" Hr f19 d19)
  (GU:dZ K mg "rank_of_words" Hf f20 d20)
  (GV:dZ K mg "words_of" HJ f21 d21)
  (GW:dZ K mg "rank" Jk f22 d22)
  (GX:dZ K mg "least_among" Hs f23 d23)
  (GY:dZ K mg "least_by_rules" Hl f24 d24)
  (GZ:dZ K mg "least_groves" Hu f25 R5)
  {Zv3 EH:Addr} (BN:YH K R5 Zv3 EH)
  (G0:dZ K mg "lower" IY f26 d26)
  (G1:dZ K mg "fewest" Im f27 d27)
  (G2:dZ K mg "least" IG f28 d28)
  (G3:dZ K mg "put_together" Ht f29 d29)
  (G4:jZ K aW "behind_inner" "Reader.behind_inner" Zq Sj d30)
  (G5:dZ K mg "quickest" n9 f31 d31)
  (G6:jZ K aW "finish" "Reader.finish" Zv Sk d32)
  (G7:jZ K aW "pile" "Reader.pile" Hy Sl d33)
  (G8:dZ K mg "law" dh f34 R6)
  (YD:∃t:Tok,mg "MOST_TAGS" = some (.int 300 t))
  (YE:∃t:Tok,mg "MOST_WORDS" = some (.int 600 t))
  (B:∀x∈cj,mg x=none) :
  ∃fd:dP,(∀(s:af)(v:aa),xn s fd ⟨[v],[]⟩ [("_law_script",v)])/\(∀p ∈ [EH],K.lookup p=none/\∃c,M8 K c p=true)/\∀base:Heap,K.In base->base.Ns mainGlobals mg->qD base mg->aX P w K mg base bq 9 fa fd ["_law_script"] (Fg.CG K [EH]):=by
 have e:=S5.symm.trans G8.1;cases e;refine⟨R6,?_,dU.mpr ⟨⟨BN.2.2.2,_,BN.2.2.1⟩,dW _⟩,λbase _ _ bm=>?_⟩
 ·obtain⟨_,_,_,_,_,_,_,_,_,rfl,_⟩:=G8.2.ex;exact λs v=>.of_eq rfl
 have J0:=eF P w base F1 (Zjd B  F1.2) F1.2.bn;have mK:=eF P w base F2 (Zgg B  F2.2) F2.2.bn;have vL:=eF P w base F3 (Zfy B mK F3.2) F3.2.bn;have JZ:=eF P w base F4 (Zie B mK vL F4.2) F4.2.bn;have J6:=eF P w base F5 (ZA B  F5.2) F5.2.bn;have JM:G9 P w K mg base aW "Reader" ["self","form"] 2 (qf.Ij K aW):=⟨⟨f6,_,YS B aF J6 F6.2,F6.2.bn,⟨m1.2.1,F6.1.at_,F6.1.fn,m1.2.2⟩,m1.1⟩⟩;have oF:cZ P w K mg base aW "ended" ["self"] 1 (Fg.yN aW):=⟨⟨f7,_,YY B aF  F7.2,F7.2.bn,F7.1⟩⟩;have C8:cZ P w K mg base aW "goes_on" ["self"] 2 (Fg.Jd aW):=⟨⟨f8,_,YK B aF oF F8.2,F8.2.bn,F8.1⟩⟩;have zD:cZ P w K mg base aW "height" ["self"] 1 (qf.Ig aW):=⟨⟨f9,_,Y7 B aF  F9.2,F9.2.bn,F9.1⟩⟩;have oG:cZ P w K mg base aW "ways_from" ["self","kind","tag"] 1 (Fg.yP aW):=⟨⟨Se,_,YQ B aF  GI.2,GI.2.bn,GI.1⟩⟩;have JS:cZ P w K mg base aW "take_end" ["self"] 2 (Fg.Jh aW):=⟨⟨Sf,_,YT B aF oF oG GJ.2,GJ.2.bn,GJ.1⟩⟩;have JT:cZ P w K mg base aW "take_tag" ["self","tag"] 2 (Fg.Jl aW):=⟨⟨Sg,_,YU B aF oG GK.2,GK.2.bn,GK.1⟩⟩;have JR:cZ P w K mg base aW "take" ["self","word"] 3 (Fg.IM aW):=⟨⟨Sh,_,Zev B aF JS JT GL.2,GL.2.bn,GL.1⟩⟩;have JW:=eF P w base GN (Zf6 B  GN.2) GN.2.bn;have JX:=eF P w base GO (ZjE B  GO.2) GO.2.bn;have JY:=eF P w base GP (Zhb B  GP.2) GP.2.bn;have JO:cZ P w K mg base aW "ends_well" ["self"] 2 (Fg.IT aW):=⟨⟨Si,_,YR B aF oF GQ.2,GQ.2.bn,GQ.1⟩⟩;have JV:=eF P w base GR (Zgp B YD  GR.2) GR.2.bn;have vK:=eF P w base GS (ZT B  GS.2) GS.2.bn;have km:=eF P w base GU (Y8 B  GU.2) GU.2.bn;have vN:=eF P w base GV (Zg8 B  GV.2) GV.2.bn;have J8:=eF P w base GW (Znr B km vN GW.2) GW.2.bn;have J3:=eF P w base GX (Z' B J8 GX.2) GX.2.bn;have J4:=eF P w base GY (YM B vK J3 GY.2) GY.2.bn;have J5:=eF P w base GZ (Y4 B bm BN.1 BN.2.2.1 JV J4 GZ.2) GZ.2.bn;have J7:=eF P w base G0 (ZlL B vK G0.2) G0.2.bn;have JU:=eF P w base G1 (ZkJ B J7 G1.2) G1.2.bn;have vo:=eF P w base G2 (Zlu B J5 JU G2.2) G2.2.bn;have vM:=eF P w base G3 (YX B YE  G3.2) G3.2.bn;have JN:cZ P w K mg base aW "behind_inner" ["self","rows","behind","tag"] 3 (qf.IW aW):=⟨⟨Sj,_,YJ B aF oG vM km G4.2,G4.2.bn,G4.1⟩⟩;have C9:=eF P w base G5 (ZgQ B km G5.2) G5.2.bn;have JP:cZ P w K mg base aW "finish" ["self"] 8 (qf.IC K aW EH):=⟨⟨Sk,_,Y' B aF vo vN JN C9 vM km G6.2,G6.2.bn,G6.1⟩⟩;have JQ:cZ P w K mg base aW "pile" ["self"] 1 (qf.IJ aW):=⟨⟨Sl,_,ZY B aF  G7.2,G7.2.bn,G7.1⟩⟩;exact Zoh B aF J0 mK JZ JM vL C8 zD JR JW JX JY JO JP JQ G8.2
theorem walk{l:Xd}{q:aC}{loose:List Str}{XP:(Str->Option aa)->Heap->Prop}{YP:ay->Heap->Prop}{d:DefRec}{K:FJ->au}{ts:List Addr}(hn:l.most=some 63)(qP:d.params.defaults=[])
  (hY:∀(w:ay)(h:Heap),YP w h->(K w.params).In h/\∀p∈ts,h.get? p=some (PySem.W.tabObj #[]))
  (F:∀(w:ay)(mg:Str->Option aa)(fa:Addr)(h:Heap),(K w.params).In h->h.Ns mainGlobals mg->mg d.name=some (.ref fa) ->
   ∃fd:dP,(∀(s:af)(u:aa),xn s fd ⟨[u],[]⟩ [("_law_script",u)])/\(∀p∈ts,(K w.params).lookup p=none/\∃c,M8 (K w.params) c p=true)/\∀base:Heap,(K w.params).In base->base.Ns mainGlobals mg->qD base mg->aX l.prog w (K w.params) mg base bq 9 fa fd ["_law_script"] (Fg.CG (K w.params) ts)) :
  Xe q loose XP YP l.row.toRowW d [] (λf vs=>Nf f vs) :=
 L2.ZlV (n:=63) (k:=9) (x := "_law_script") (sp:=λw=>Fg.CG (K w.params) ts) hn (by decide) qP ⟨rfl,by decide,by decide,rfl⟩ hY F λ_ _ a ns hl ht hS=>⟨a,ns,rfl,hS,hl,ht,λ_=>rfl⟩
end qf
namespace PySem.W.Fast
def tw13313273860601212605:=0
def tw2985349141618606754:=0
def tw7525917283827471338:=0
def tw9589741868035358834:=0
def tw1863110438308361993:=0
def tw12318592824271413838:=0
def tw4000239489424234293:=0
def tw14551161226676843682:=0
def tw8361134572343972902:=0
def tw8014165787895126332:=0
def tw1158708185504403098:=0
def tw9555747956440639591:=0
def tw16381119988746980214:=0
def tw907559083919185361:=0
def tw1264227994569575994:=0
def tw1054468683020409653:=0
def tw10437288513772198143:=0
def tw16292454741943084834:=0
def tw14432922362093754191:=0
def tw4760287817895377313:=0
def tw9653623685691223138:=0
def tw583091354646411952:=0
def tw4760287283527363304:=0
def tw11115712935767712721:=0
def tw2775018123934094163:=0
def tw17335775920048628455:=0
def tw15042035192546578774:=0
def tw15970420663503276708:=0
def tw7169318422286222356:=0
def tw16245059930542310270:=0
def tw569851080508222263:=0
def tw2030886828352598981:=0
def tw6259906823853374224:=0
def tw7781879021133009183:=0
def tw14511585351841962577:=0
def tw3341482124388384315:=0
def tw16105312279715180508:=0
def tw13793930601190071842:=0
def tw11654660982822439249:=0
def tw8712520770444376078:=0
def tw9050470677019611859:=0
def tw2554018232305339137:=0
def tw15057546008168569564:=0
def tw15853498920404026298:=0
def tw7398433958138186555:=0
def tw17219552679992333750:=0
def tw12892302631904376671:=0
def tw15571875501513040503:=0
def tw10269196206986641297:=0
def tw15119116080328612814:=0
def tw10173062190408119566:=0
def tw10446196430084080684:=0
def tw2293488363522506454:=0
def tw18277278483821165583:=0
def tw8223005495780013585:=0
def tw3708151664425703267:=0
def tw8936623144500539775:=0
def tw4381946840307312086:=0
def tw11952645204968682546:=0
def tw14225419088869213419:=0
def tw3723733897856652388:=0
def tw391107939295741038:=0
def tw6296975009827127145:=0
def tw14181975944201834784:=0
def tw6208819086764173457:=0
def tw11013665703477001682:=0
def tw571111042875904286:=0
def tw5816147006046227031:=0
def tw6885454252210186261:=0
def tw5349232275805613374:=0
def tw2404799021157149676:=0
def tw9353797532008765049:=0
def tw8511754416768170742:=0
def tw9151018809151677510:=0
def tw16948090856422786418:=0
def tw12169962881539317109:=0
def tw11224518404181813636:=0
def tw16131428910237223994:=0
def tw15414543333328853295:=0
def tw11139639362863442702:=0
def tw11383749792298333399:=0
def tw10272047139033672351:=0
def tw10276863364141982785:=0
def tw14147846912389108543:=0
def tw5307473485297692618:=0
def tw15159387610610554705:=0
def tw13095441818948967375:=0
def tw10304592998895671728:=0
def tw15319501240254752908:=0
def tw12932072354301859223:=0
def tw3048652388185341253:=0
def tw5060582828699837010:=0
def tw2080566702611109412:=0
def tw3026880679981748239:=0
def tw4375266155009914610:=0
def tw9558362502850379031:=0
def tw15402348391795828492:=0
def tw15041157956485892768:=0
def tw15527100342231120560:=0
def tw8153545591138003695:=0
def tw2669599711585232061:=0
def tw3717757240266307322:=0
def tw2725267984563033373:=0
def tw18074850857436403957:=0
def tw12422350337915786610:=0
def tw13426582316018648218:=0
def tw10163282868007946954:=0
def tw6932938240248690942:=0
def tw9100971605353689706:=0
def tw10135546901963890199:=0
def tw8660524453089572487:=0
def tw4684311338908535914:=0
def tw6711585095128696655:=0
def tw17369935824219360528:=0
def tw1158276424471334476:=0
def tw17208362223298445535:=0
def tw4697745368516012259:=0
def tw13897604724628566780:=0
def tw12180219673950333599:=0
def tw18119315249303984154:=0
def tw11427421242711703054:=0
def tw14770204291552014081:=0
def tw5806954775317250108:=0
def tw12153171286253441699:=0
def tw11723088817964575432:=0
def tw6465085468272261191:=0
def tw3201438322629777657:=0
def tw5248043919806568595:=0
def tw2569523794591920789:=0
def tw4088395261460688416:=0
def tw17445780468051669217:=0
def tw15219913892498444324:=0
def tw16435965363416044905:=0
def tw9244090762864017789:=0
def tw17678775212530039921:=0
def tw1313304108603697019:=0
def tw7454994063921942386:=0
def tw6947620372065301385:=0
def tw8091166161438252075:=0
def tw14168291236948621536:=0
def tw10937953260822434148:=0
def tw7834469314709510336:=0
def tw9183378499381206491:=0
def tw11281089513303971339:=0
def tw17407689194162197406:=0
def tw8147522344246220088:=0
def tw14870168214277284043:=0
def tw6000551242354557166:=0
def tw16400162138493784961:=0
def tw14330717903839228173:=0
def tw13107053300290490892:=0
def tw9871558344745489036:=0
def tw3413532717446783481:=0
def tw11445436388081622594:=0
def tw5375991243915834077:=0
def tw12415455363359880193:=0
def tw1305051083927153962:=0
def tw11216328391571146089:=0
def tw12266494695345859290:=0
def tw5549766675439493867:=0
def tw4651003000754901567:=0
def tw1884958798540913131:=0
def tw5741646780722833389:=0
def tw6446797116214895717:=0
def tw14414532460632289964:=0
def tw8796651160861087972:=0
def tw17365960852637886700:=0
def tw12975829818363969817:=0
def tw1377976598895864614:=0
def tw8204433409635242863:=0
def tw8454521939046881602:=0
def tw2395512435942759955:=0
def tw973397203999280133:=0
def tw17791255893380763969:=0
def tw9735405359828101120:=0
def tw11901621758990916664:=0
def tw6931826432378675385:=0
def tw15373288073878648647:=0
def tw8010692682574036449:=0
def tw15537967348922357589:=0
def tw8547086715322192712:=0
def tw8095295399349186031:=0
def tw17698241546626609192:=0
def tw1171295356050162774:=0
def tw1422068911425409944:=0
def tw8659859242911110347:=0
def tw14014041620541305725:=0
def tw15090297684692830037:=0
def tw2144731967659294866:=0
def tw9166988479905229170:=0
def tw14732953502884444332:=0
def tw12465490892647829030:=0
def tw18320705616865415549:=0
def tw10797030405352592900:=0
def tw9208796046565649949:=0
def tw787118803871429580:=0
def tw4615914394537120571:=0
def tw9026579622168481207:=0
def tw13266005629546404887:=0
def tw18244338382661459744:=0
def tw3689872242885112606:=0
def tw3617288226283827669:=0
def tw17437694509737692389:=0
def tw7637077867627092246:=0
def tw6794441729039229246:=0
def tw16997840112156221614:=0
def tw3178515082925690592:=0
def tw3685126077938991927:=0
def tw12957185180318872456:=0
def tw13282759950821332340:=0
def tw4015411369029056286:=0
def tw14166833480082966484:=0
def tw4874274268522252940:=0
def tw2346645630006832794:=0
def tw18004411747197080791:=0
def tw16705243662262830449:=0
def tw11894828834798581291:=0
def tw16535127472100141623:=0
def tw16955265139990994736:=0
def tw5743705967176990988:=0
def tw6807673053314423895:=0
def tw1263467852921377972:=0
def tw8061814417151650456:=0
def tw7341757216839501160:=0
def tw3571946691427023287:=0
def tw10475220559897313636:=0
def tw12734204442443737845:=0
def tw15329961296533873064:=0
def tw11207860319033493694:=0
def tw3210298247079128854:=0
def tw18062689112406061762:=0
def tw12100047275316172728:=0
def tw5048164298484599214:=0
def tw11719383639125654229:=0
def tw2660313570863981422:=0
def tw16995156810678149957:=0
def tw12835272152462018519:=0
def tw10018304283057224685:=0
def tw389670841929874161:=0
def tw10746875918071064270:=0
def tw774819153884730066:=0
def tw7154053094052063819:=0
def tw4682132549708732177:=0
def tw5561108863418313702:=0
def tw2896575534373086193:=0
def tw4467125406055392101:=0
def tw4969120509875909003:=0
def tw11779112190450027766:=0
def tw10365205494814628866:=0
def tw11698611375954231708:=0
def tw12477047039828142931:=0
def tw13523588858034831081:=0
def tw11565541234843651662:=0
def tw7048623353975625239:=0
def tw6710140388440134029:=0
def tw13772404214898297993:=0
def tw7880188614533068000:=0
def tw6268398674916464312:=0
def tw4711379031602916806:=0
def tw7410560547788415624:=0
def tw8003783047128855453:=0
def tw2290368127737087410:=0
def tw6794901641330448331:=0
def tw9238983185274735940:=0
def tw969502208250243644:=0
def tw6789505029903729194:=0
def tw6108427340498163998:=0
def tw7770458005174214095:=0
def tw3279115581775282487:=0
def tw10851546021866577463:=0
def tw10549037849473462781:=0
def tw3562846423068812457:=0
def tw17830843960821198057:=0
def tw4824683504417096215:=0
def tw15298004564008224915:=0
def tw4731713572021129625:=0
def tw9965649820097182091:=0
def tw14128794530959130034:=0
def tw7353304025353388999:=0
def tw13637319807061965719:=0
def tw11850689022205387207:=0
def tw714253061659967704:=0
def tw16801202456793166797:=0
def tw16262636565944592052:=0
def tw894909848173707579:=0
def tw348490875553709321:=0
def tw5189660495640703390:=0
def tw2643428880192502407:=0
end PySem.W.Fast
open PySem PySem.W PyProof.Rows
open L2 (ZS Rv)
set_option maxRecDepth 100000 in
set_option maxHeartbeats 0 in
theorem PySem.Challenge.cw_formgrove_k39_all_small_ends_holds : PySem.Challenge.rw_formgrove_k39_all_small_ends.Holds := by
 w_on;o_law;k_head;(case hw=>w_witness2)
 k_fill
 refine qf.walk (l:=ZCh) rfl rfl (λw h Y=>⟨PySem.W.km_in_of Y,PySem.W.km_tabs_of Y⟩) ?F
 case F =>
  intro w mg fa h KX G ua;refine' qf.Zoj ua ⟨dH KX G ?_,?_,?_⟩ ⟨⟨?_,?_,?_,?_⟩,?_,?_,?_,?_,?_⟩ ⟨dH KX G ?_,ZS ?_ ?_ ?_⟩ ⟨dH KX G ?_,ZS ?_ ?_ ?_⟩ ⟨dH KX G ?_,ZS ?_ ?_ ?_⟩ ⟨dH KX G ?_,ZS ?_ ?_ ?_⟩ ⟨dH KX G ?_,ZS ?_ ?_ ?_⟩ ⟨⟨?_,?_,?_⟩,ZS ?_ ?_ ?_⟩ ⟨⟨?_,?_,?_⟩,ZS ?_ ?_ ?_⟩ ⟨⟨?_,?_,?_⟩,ZS ?_ ?_ ?_⟩ ⟨⟨?_,?_,?_⟩,ZS ?_ ?_ ?_⟩ ⟨⟨?_,?_,?_⟩,ZS ?_ ?_ ?_⟩ ⟨⟨?_,?_,?_⟩,ZS ?_ ?_ ?_⟩ ⟨⟨?_,?_,?_⟩,ZS ?_ ?_ ?_⟩ ⟨⟨?_,?_,?_⟩,ZS ?_ ?_ ?_⟩ ⟨dH KX G ?_,ZS ?_ ?_ ?_⟩ ⟨dH KX G ?_,ZS ?_ ?_ ?_⟩ ⟨dH KX G ?_,ZS ?_ ?_ ?_⟩ ⟨⟨?_,?_,?_⟩,ZS ?_ ?_ ?_⟩ ⟨dH KX G ?_,ZS ?_ ?_ ?_⟩ ⟨dH KX G ?_,ZS ?_ ?_ ?_⟩ ⟨dH KX G ?_,ZS ?_ ?_ ?_⟩ ⟨dH KX G ?_,ZS ?_ ?_ ?_⟩ ⟨dH KX G ?_,ZS ?_ ?_ ?_⟩ ⟨dH KX G ?_,ZS ?_ ?_ ?_⟩ ⟨dH KX G ?_,ZS ?_ ?_ ?_⟩ ⟨dH KX G ?_,ZS ?_ ?_ ?_⟩ ⟨?_,⟨_,_,_,_,?_,?_⟩,?_,?_⟩ ⟨dH KX G ?_,ZS ?_ ?_ ?_⟩ ⟨dH KX G ?_,ZS ?_ ?_ ?_⟩ ⟨dH KX G ?_,ZS ?_ ?_ ?_⟩ ⟨dH KX G ?_,ZS ?_ ?_ ?_⟩ ⟨⟨?_,?_,?_⟩,ZS ?_ ?_ ?_⟩ ⟨dH KX G ?_,ZS ?_ ?_ ?_⟩ ⟨⟨?_,?_,?_⟩,ZS ?_ ?_ ?_⟩ ⟨⟨?_,?_,?_⟩,ZS ?_ ?_ ?_⟩ ⟨dH KX G ?_,ZS ?_ ?_ ?_⟩ ⟨_,dH KX G ?_⟩ ⟨_,dH KX G ?_⟩ (Rv KX G ?Z)
  case Z=>(repeat' first|exact dW _|refine dU.mpr ⟨?_,?_⟩) <;> k_is
  any_goals first|k_is|rfl|kernel_rfl|decide|decide +kernel
