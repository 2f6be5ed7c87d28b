import PyProof.Rows.All
import Wide.All
import OpenK.AllK
import Wide.FinOn
import Lean
import PyProof.EqAt
import PyProof.EqKinds
import PyProof.TupleCall
import PySem.Challenge.RW_formgrove_k52_a_table_told
set_option Elab.async false
set_option linter.all false
set_option maxRecDepth 100000
set_option maxHeartbeats 4000000
theorem ai:type_of% @if_neg:=@if_neg
theorem ao:type_of% @if_pos:=@if_pos
theorem aJ:type_of% @decide_eq_true:=@decide_eq_true
theorem bt:type_of% @decide_eq_false:=@decide_eq_false
theorem bC:type_of% @of_decide_eq_true:=@of_decide_eq_true
theorem cX:type_of% @if_false:=@if_false
theorem kJ:type_of% @decide_eq_true_eq:=@decide_eq_true_eq
theorem nj:type_of% @beq_eq_false_iff_ne:=@beq_eq_false_iff_ne
theorem oY:type_of% @beq_iff_eq:=@beq_iff_eq
theorem o7:type_of% @of_decide_eq_false:=@of_decide_eq_false
theorem o8:type_of% @or_false:=@or_false
theorem qK:type_of% @if_true:=@if_true
open PySem renaming Value->aa,wpAny_bind->af,Shared->ag,wpAny_pure->ah,World->ap,Program->aq,Around->aC,SetTable->bc,sizeLine_eq->bu,Paired->ck,Builtin->cF,Scope->cH,wpAny_mono->cM,wpAny_holding->cP,FuncData->dy,PyData->ed,IsTupleKey->fb,boot_len->gC,codeAny_builtin->g9,plainId_quiet->jq,wpAny_rule->kK,wpAny_setState_of->kM,DictEntry->lO,Result->nh,wpAny_call->nk,wpAny_call_entry->nq,wpAny_truthy_bool->nr,wpAny_Call_Name_kw->o9,wpAny_dictEntries->o_,wpAny_isInstance->pd,wpAny_newObj_type->pj,Drawn->qD,Model->qE,codeAny_mono->qJ,wpAny_seqItems->qL,wpAny_specialOf->qM,Keyword->sL,wpAny_attempt->s_,wpAny_of_eq->tf,wpAny_setField->ti,wpAny_tryCatch->tj,wpAny_typeOf->tw,Arguments->vp,CmpOp->vu,mem_of_lookup->vK,call_meetsIn->vN,wpAny_field->vO,wpAny_passesOwn->vP,wpAny_pyIter_list->vQ,wpAny_standAt->vR,BindsTo->x6,HeapKind->ya,NameKind->yl,wpAny_fieldsOf->yA,wpAny_forIn_list->yB,wpAny_letGo->yC,wpAny_newList->yD,Reads->BN,codeAny_call_builtin->BR,intKind_is->BS,isSubtype_type->BU,wpAny_Call_method->BX,wpAny_callSpecial?_slot->BY,wpAny_dictEpoch->BZ,wpAny_eqBool_int->B0,wpAny_execs_nil->B1,wpAny_ite_split->B2,wpAny_loadPart->B3,wpAny_notOrdered_dict->B4,wpAny_updateSeq->B5,IsRangeIter->Ft,Params->FU,ReadsAll->F_,builtinLookup_eq_fast->Gf,call_isinstance->Gg,isinstance_outer->Gh,typeLookup_type->Gm,wpAny_comprehension_free->Gn,wpAny_load->Gp,wpAny_runValue->Gq,wpAny_throw->Gu,wpAny_typeNameOfWhole_keyiter->Gv,wpAny_typeNameOf_keyiter->Gw,ExceptHandler->Mn,GenState->Mq,PassesOwn->MW,Within->Nd,call->Nf,TriplesOk->Nj,call_meets->Nl,codeAny_of_tree->Nn,isSubtype_tuple_tuple->Nr,size_of_entries->Nz,tupleKind_room_in1->NA,wpAny_Name->NB,wpAny_askSetting->NC,wpAny_assign_Name->ND,wpAny_isOneOf_keyiter->NE,wpAny_newFunctionEnv->NF,wpAny_newTuple->NG,wpAny_pyIter_slot->NH,wpAny_storeSet_of->NI,wpAny_tupleItemsOf->NJ,callType_codes->XZ,codeAny_compStart_list->X1,codeAny_loop->X3,entryFor_alias->X5,entryFor_of_tree->X6,eqIsQuiet_byValue->X8,eval_ListComp->X9,exec_Assign_Name_used->X',filterMap_getElem?_range->X_,intBits_le_64->Yb,isSubtype_stop->Yc,kt_code_dict_new->Ye,meetsH_dict_get_default->Yf,noBool_dict->Yg,richCompare_meets_room->Yh,seqIndex_of->Yi,signature?_of->Yj,wpAny_Assign_Subscript->Yl,wpAny_Compare1->Ym,wpAny_Dict_empty->Yn,wpAny_callSpecial?_none->Yo,wpAny_dictFind_heap->Yp,wpAny_eqBool_str->Yq,wpAny_eqBool_tuple->Yr,wpAny_eqIsQuiet_tuple->Ys,wpAny_execs_cons->Yt,wpAny_handled->Yu,wpAny_in_heap->Yv,wpAny_isTrue_Compare1->Yw,wpAny_lt_int->Yx,wpAny_mkText->Yy,wpAny_noted->Yz,wpAny_point->YA,wpAny_pyIter_enum->YB,wpAny_pyIter_keyiter->YC,wpAny_pyIter_range->YD,wpAny_pyIter_rangeiter->YE,wpAny_pyNext_list_end->YF,wpAny_pyNext_list_item->YG,wpAny_pyNext_range_end->YH,wpAny_ret_mkInt->YI,wpAny_richCompare_same_room->YJ,wpAny_setItem_heap->YK,wpAny_storeName_local->YL,wpAny_typeOf_ref->YM
open PySem.Value renaming ref->ar,none->bq,str->ef,int->eC,type->eQ,bool->g8,builtin->ni,float->Nk,bytes->XN,isInt->XR,isStrOf->XS,notImplemented->XT
open PySem.W renaming Frag->ay,mg_of->dC,Looks->io,findIn->m_,kia_one->ng,emptyDict->qI,instObj->sX,mroIn->sY,keepIn->vJ,fnOf->yr,kat_cons->yv,kat_go->yw,kat_no->yx,kat_yes->yz,callWith_K->BM,lookIn->F6,plainGet->F',any_some->Ge,kat_one->Gi,looks_mroIn->Gj,OpenLaw->MU,codeHdIn->M5,codeIn->M7,hasDictIn->M8,isClsIn->M9,isFn->M',looks_mroIn->M_,methodObj->Na,plainGet_of->Nb,takerIn->Nc,check_slot->Nm,kit_cls->Nt,looks_findIn->Nv,OpenLaw->Xp,WalkO->Xq,cellsFrom_some->Xr,handedIn->Xs,kitOne->Xt,kitx_dict->Xu,kitx_list->Xv,makesIn->Xw,methodCall_KW->Xx,plainOver->Xy,typeIn->Xz,codeHd_of_K->X4,handedOut_of->Ya
open Nat renaming le_refl->aD,ne_of_lt->bo,zero_le->bG,lt_of_lt_of_le->cg,le_trans->cz,lt_irrefl->cW,le_of_lt->ji,lt_trans->jj,lt_or_ge->kF,lt_succ_self->kG,not_lt_zero->lP,le_succ->qF,lt_of_le_of_lt->qG,zero_add->sQ,ne_of_gt->vF,succ_pos->vG,le_add_right->ym,lt_trichotomy->yn,mod_lt->yo,add_zero->BF,le_of_lt_succ->BG,strongRecOn->BH,add_mul->FK,add_right_comm->FL,mul_add->FN,mul_le_mul->FO,one_mul->FP,le_of_eq->MP,lt_succ_of_lt->MQ,mul_one->MR,div_eq_of_lt->WY,le_antisymm->WZ,le_of_not_lt->W0,min_le_left->W2,pow_succ->W3,sub_self->W4
open List renaming length_map->aF,mem_singleton->aI,mem_map->aX,mem_cons->a8,mem_cons_of_mem->bp,mem_cons_self->bw,length_cons->bB,getElem?_map->bM,forall_mem_cons->bT,forall_mem_nil->bU,mem_append->bV,mem_of_getElem?->bW,map_cons->b8,mem_append_right->cj,length_append->cw,getElem?_eq_getElem->cG,size_toArray->cO,getElem?_eq_some_iff->de,mem_append_left->dN,take_length->d_,map_append->eN,mem_iff_getElem?->fc,mem_filter->fA,range->fL,append_nil->gW,length_take->gX,nodup_cons->gY,map_map->ij,mem_range->ik,pairwise_map->iK,Nodup->kD,pairwise_iff_getElem->mY,append_assoc->oP,find?_cons_of_neg->oQ,find?_cons_of_pos->oR,length->oU,not_mem_nil->oV,filterMap_cons_some->sM,forIn_cons->sN,length_singleton->sO,reverse_cons->sP,any_eq_true->vw,cons_append->vx,eq_nil_of_length_eq_zero->vy,length_nil->vz,lookup->vC,pairwise_cons->vD,any_cons->yb,filterMap_cons_none->yc,filter_append->yd,find?_cons->ye,find?_isSome->yf,findIdx_cons->yg,foldl_cons->yh,getElem_mem->yi,length_range->yj,length_reverse->yk,all_eq_true->Bv,drop_eq_getElem_cons->Bw,getElem?_append_right->Bx,getElem?_take_of_lt->By,length_filter_le->Bz,length_replicate->BB,map_congr_left->BC,nodup_append->BD,ext_getElem?->Fw,filter_cons->Fx,filter_cons_of_neg->Fy,filter_cons_of_pos->Fz,getElem?_append_left->FA,getElem?_eq_none->FC,length_drop->FD,mem_iff_getElem->FE,nil_append->FF,nodup_nil->FG,replicate->FH,sum_cons->FI,Perm->Mu,cons_lt_cons_iff->Mx,filterMap_cons->Mz,filter_map->MA,find?_some->MB,forIn_nil->MC,getElem?_cons_succ->MD,getElem?_set_ne->ME,getElem?_set_self->MF,length_pos_iff->MG,lookup_cons->MH,mem_filterMap->MI,mem_of_mem_take->MJ,nil_lt_cons->MK,of_mem_zip->ML,perm_append_comm->MM,sum_append->MN,zip_cons_cons->MO,range'->VE,all_cons->Wv,any_map->Ww,drop_length->Wy,drop_of_length_le->Wz,filterMap_eq_nil_iff->WA,find?_eq_none->WB,foldl->WC,getD_eq_getElem?_getD->WD,getElem?_cons_zero->WE,getElem?_replicate->WG,getElem_drop->WH,getElem_of_mem->WI,lt_irrefl->WJ,lt_trans->WK,map_id->WL,map_nil->WM,mem_of_find?_eq_some->WN,mem_of_mem_eraseIdx->WQ,nodup_range->WR,take_append_of_le_length->WS,take_sublist->WT,take_succ_eq_append_getElem->WU,toArray->WV,zip_nil_left->WW
open PySem.Heap renaming get?_push_of_some->aH,lt_size->aP,get?_push_size->bS,SameBut->dJ,size_push->iJ,get?_update_other->jh,get?_update_self->sJ,ExtBut->Mr,size_update->Ms,get?_push_ne->Wl
open Sum renaming inl->aN,inr->fN
open Array renaming length_toList->aW,getElem?_toList->fz,getD->gU,getElem?_eq_getElem->iI,getElem?_eq_some_iff->oI,replicate->sE,size_map->vq,getElem?_eq_none->xY,size_push->xZ,toList_map->Bk,toList_push->Bl,forIn_toList->Fc,getD_eq_getD_getElem?->Fd,toList->Fe,getElem?_eq_none_iff->Mc,getElem_mem_toList->Md,size_setIfInBounds->Me,toList_filterMap->Mf,foldl_toList->VJ,getElem?_setIfInBounds_self_of_lt->VL,getElem_setIfInBounds_ne->VM,mem_toList_iff->VN,size_replicate->VP,toList_append->VQ,toList_inj->VR
open PySem.SetTable renaming below->bx,Probe->dO,insertAt->eO,bits->fM,sizeAbove->gZ,turns->iM,runEnd->jm,grown->oW,advance->sZ,insertAt_perm->vL,fill->yt,slot->yu,fits->BO,laid->Ga,layClean->Gb,probe->Ng,fresh->XH,put->XI,tooFull->XJ
open PySem.Str renaming ofString->cm,empty->Ni
open Bool renaming false_ne_true->cL,false_eq_true->dv,and_eq_true->gA,not_true->jg,eq_iff_iff->sG,false_and->Bm,or_eq_true->Ff,true_and->Fh,and_false->VS,eq_false_iff->VT,not_false->VU,or_false->VV
open Option.some renaming inj->dg
open PySem.Paired renaming length->dz,snoc->sU
open PyProof.Rows renaming Keyed->dZ,AllBare->oH,mem_zip_self->oZ,IntsAre->Br,callWith_type1->BJ,pairsOf_size->BV,pairsOf_toList->BW,envOfC->FY,size_push'->Mb,SortKind->Nh,get?_update_seq->Nq,listUpdate_at->Nu,oneLt_int->Nw,seqEpoch_at->Ny,entry_list_iadd'->VG,entry_proto_collect'->VH,Compare_chain->V8,callWith_builtin1->Xa,kmk_tree->Xb,callWith_kw->X0,isTrue_plain->Yd,subscriptTail_builtinR->Yk,lt_str->ZCr
open PySem.PyData renaming int->ff,str->fY,canLayAll0->iL,depthAll->jk,strOk->kI,eqv->lQ,eqvAll->lR,tuple->FX
open Ne renaming symm->fB
open PySem.PassesOwn renaming never->fX
open Option renaming map_eq_some_iff->gB,isSome_map->qH,bind_some->yp,isSome_iff_exists->BI,map_some->FR,isSome->MV,bind_eq_bind->W6,getD_some->W7,isSome_some->W8,map->W9,none->W',pure_def->W_
open PySem.F renaming plainAttrs_list->jl,slot_list_append->mZ,type_list_append->m9,called_set->sV,plain_min_loop->sW,slot_dict_get->vI,slot_tuple_hash->Bp,plainAttrs_dict->BK,slot_dict_keyiterator_next->BL,excBase_ValueError->Fn,slot_dict_len->Fp,slot_list_getattribute->Fq,slot_tuple_eq->Fs,entry_dict_get->FZ,args_dict_get_3->MY,entry_min_loop->MZ,slot_list_pop->M0,type_dict_get->M3,type_list_pop->M4,args_dict_init_2->Wa,entry_bexc_ga->Wb,entry_dict_init->Wc,excAttr_ValueError->Wf,kt_called_dict->Wg,kt_typeCall_dict_1->Wh,args_dict_keyiterator_next_1->Xd,entry_dict_keyiterator_next->Xe,entry_min->Xf,kind_min->Xg,plain_extend_loop->Xh,plain_min->Xi,plain_set_new->Xj,slot_dict_eq->Xk,slot_dict_iter->Xl,slot_dict_pop->Xm,slot_dict_setdefault->Xn,slot_set_iter->Xo
open True renaming intro->jo
open PySem.Around renaming under_plainId->kB,under->Fb,frames_deeper->VI
open False renaming elim->kC
open PySem.Obj renaming mapSeq->kH,data_mapFields->sR,mapFields->sS,putSet->vH,cls_mapFields->MS,isFreed_of_fields->MT,data_mapDictKeys->W5
open PySem.Builtin.Range renaming rangeSize->mX,small->V2,rangeFitsLong->ZB7
open PySem.Calls renaming spliced_cons->oJ,spliced_nil->sH,callWith_builtin->vt,evalArgs_plain->x_,Constant_str->Mj,Name_function_global->V3,call_function_entry->V4
open PySem.Heap.SameBut renaming update->oK,refl->ZCe
open Int renaming emod_lt_of_pos->oM,emod_nonneg->oN,lt_of_lt_of_le->Bq,eq_ofNat_of_zero_le->Wo,toNat_natCast->Wq
open List.Perm renaming refl->oO,of_eq->Bu,append_left->Mv,swap->Mw
open PySem.SetTable.layClean renaming free->oX
open PySem.Data renaming fields->sI,seq->Mm,cell->V9
open Iff renaming trans->vv,rfl->Wm
open PySem.Builtin.Tuple renaming tupleHashOf->x9,tupleCompareSizes->ZB8,tupleItemsOf->ZB9
open Classical renaming byContradiction->Bn
open PySem.Code renaming quiet_builtin->Bo,isFrame->Ml,compStart->V5,frames->V6,isGuard->V7
open PySem.W.KasT renaming kasWp_bind->Bs,ask->Ws
open List.Pairwise renaming nil->Bt,imp_of_mem->Fu,sublist->Mt,imp->Wu,filter->ZCh
open PySem.W.Looks renaming ld->BE,of_pure->FJ,here->ZCU
open PySem.SetTable.probe renaming go->BP
open PySem.Walks renaming list->BQ,range->XY
open PySem.Builtin.Builtins renaming bindParams->Fi
open PySem.Builtin.Dict renaming addKeywords->Fj,pairItems->Fl,updateFrom->Fm,samePairs->Mg,showsAll->Mh,dictSlotArgs->VW,selfAndRest->VX,takeOut->VY,dictSlotNone->ZB0,keyAndDefault->ZB1,pendingCount->ZB2
open List.cons renaming injEq->Fv,inj->Wx
open PUnit renaming unit->FT
open Prod renaming ext->FV,fst->FW,snd->MX
open PySem.MeetsSeq3 renaming plain_eq_loop->Gk,entry_eq_loop->X7
open PySem.Builtin.List renaming listExtendWith->Mi,listLengthHint->V0,listSameRef->V1
open Exists renaming choose_spec->Mo
open PyProof.Rows.F renaming plain_set_update_loop->Mp,entry_set_update_loop->We
open PySem.SeqAt renaming eqAt_reads->Np,room_head->Nx,EqAt->XA,compareEq_reads->ZCS,compareNe_reads->ZCT
open PyProof.Rows.SortSt renaming mk'->VF
open Array.mk renaming injEq->VO
open PySem.Builtin.Dict_items renaming ownsTuple->VZ
open PySem.Data.seq renaming injEq->V'
open PySem.EntryCells renaming newEntry->V_
open PySem.Fin renaming done->Wi
open PySem.Flow renaming ret->Wj
open PySem.Heap.DictOf renaming new->Wk
open PySem.InComp renaming start->Wn
open PySem.IsRange renaming new->Wr
open PySem.W.KatTups renaming cons->Wt
open PySem.NameKind renaming free->WX
open PyProof renaming noPylong_small->Xc
open PySem.SeqAt.EqAt renaming int_str->XD,str_int->XE,bool_bool->ZCW,bool_int->ZCX,bool_none->ZCY,bool_str->ZCZ,int_bool->ZC0,int_int->ZC1,int_none->ZC2,none_bool->ZC3,none_int->ZC4,none_str->ZC5,same->ZC6,str_bool->ZC7,str_none->ZC8,str_str->ZC9
open PySem.SetTable.Slot renaming noConfusion->XF
open PySem.SetTable.below renaming go->XG
open PySem.Shared renaming TypeIs->XM
open PySem.Value.int renaming injEq->XQ
open PySem.Value.ref renaming injEq->XU
open PySem.W.WData renaming int->XW
open PySem.W.WShape renaming has->XX
open Std.Legacy.Range renaming forIn_eq_forIn_range'->ZBV,size->ZDf
open PySem.Builtin.BaseException renaming bexcPut->ZBZ
open PySem.Builtin.Frozenset renaming newClass->ZB3,sizeOf->ZB4,slot0->ZB5,updateFrom->ZB6
open PySem.Heap.DictOfH renaming new->ZCc
open List.Nodup renaming sublist->ZCg
open List.Sublist renaming map->ZCi,slnil->ZCj
open PySem.Challenge renaming pw_formgrove_k52_a_table_told->ZCs,rw_formgrove_k52_a_table_told->ZCt
open PySem.EqMixed renaming eq_bool_str->ZCu,eq_int_str->ZCv,eq_str_bool->ZCw,eq_str_int->ZCx,ne_bool_str->ZCy,ne_int_str->ZCz,ne_str_bool->ZCA,ne_str_int->ZCB
open PySem.EqNone renaming eq_bool_none->ZCC,eq_int_none->ZCD,eq_none_bool->ZCE,eq_none_int->ZCF,eq_none_none->ZCG,eq_none_str->ZCH,eq_str_none->ZCI,ne_bool_none->ZCJ,ne_int_none->ZCK,ne_none_bool->ZCL,ne_none_int->ZCM,ne_none_none->ZCN,ne_none_str->ZCO,ne_str_none->ZCP
open PySem.SeqAt.RcNeAt renaming lists_lengths->ZCR
open PySem.Within renaming cons->ZCV
namespace L2
open PySem PySem.Spec PyProof.Rows
abbrev Key:=Sum Int Str
def uq:Key->aa->Bool
 | .inl k,v=>XR k v
 | .inr x,v=>XS x v
def ZpO(w:ap):Key->Int
 | .inl k=>hashInt k
 | .inr x=>hashStr w x
theorem Z9:∀{k:Key}{v:aa},uq k v=true->(∃i t,k=aN i/\v=eC i t)\/(∃x t,k=fN x/\v=ef x t)
 | .inl i,v,h=>by
  obtain⟨t,e⟩:=aa.isInt_shape (k:=i) (v:=v) h;exact .inl ⟨i,t,rfl,e⟩
 | .inr x,v,h=>by
  obtain⟨t,e⟩:=aa.isStrOf_shape (x:=x) (v:=v) h;exact .inr ⟨x,t,rfl,e⟩
theorem ZiM(i:Int)(t:Tok):uq (.inl i) (.int i t)=true:=by simp[uq,XR]
theorem Zjs(x:Str)(t:Tok):uq (.inr x) (.str x t)=true:=by simp[uq,XS]
theorem ZnI(a b:Int):decide ((aN a:Key)=aN b)=(a == b):=by
 by_cases e:a=b
 .subst e;simp
 .have h : ¬ (aN a:Key)=aN b:=λq=>e (aN.inj q);rw[bt h];exact(nj.mpr e).symm
theorem ZnF(a b:Str):decide ((fN a:Key)=fN b)=decide (a=b):=by
 by_cases e:a=b
 .subst e;simp
 .have h : ¬ (fN a:Key)=fN b:=λq=>e (fN.inj q);rw[bt h,bt e]
theorem ZnO(a:Int)(b:Str):decide ((aN a:Key)=fN b)=false:=bt (λq=>nomatch q)
theorem Znt(a:Str)(b:Int):decide ((fN a:Key)=aN b)=false:=bt (λq=>nomatch q)
def ZK(prog:aq)(w:ap):PySem.KeyKind prog w Key where
 is:=uq
 hash:=ZpO w
 inj:=λv a b ha hb=>by
  rcases Z9 ha with⟨i,t,rfl,rfl⟩|⟨x,t,rfl,rfl⟩
  .rcases Z9 hb with⟨j,u,rfl,e⟩|⟨y,u,rfl,e⟩
   .injection e with e1 _;rw[e1]
   .exact nomatch e
  .rcases Z9 hb with⟨j,u,rfl,e⟩|⟨y,u,rfl,e⟩
   .exact nomatch e
   .injection e with e1 _;rw[e1]
 byValue:=λk v h=>by
  rcases Z9 h with⟨i,t,rfl,rfl⟩|⟨x,t,rfl,rfl⟩ <;> rfl
 pyHash:=λhv h=>by
  rcases Z9 hv with⟨i,t,rfl,rfl⟩|⟨x,t,rfl,rfl⟩
  .exact wpAny_pyHash_int h
  .exact wpAny_pyHash_str h
 eqBool:=λhu hv h=>by
  rcases Z9 hu with⟨i,t,rfl,rfl⟩|⟨x,t,rfl,rfl⟩
  .rcases Z9 hv with⟨j,u,rfl,rfl⟩|⟨y,u,rfl,rfl⟩
   .rw[ZnI] at h;exact B0 h
   .rw[ZnO] at h;exact XD i t y u _ _ _ _ h
  .rcases Z9 hv with⟨j,u,rfl,rfl⟩|⟨y,u,rfl,rfl⟩
   .rw[Znt] at h;exact XE x t j u _ _ _ _ h
   .rw[ZnF] at h;exact Yq h
 «strs» := λk x t v h=>by
  rcases Z9 h with⟨i,u,rfl,e⟩|⟨y,u,rfl,e⟩
  .exact nomatch e
  .injection e with e1 _;subst e1;cases v <;> rfl
theorem Zgr(prog:aq)(w:ap)(i:Int)(t:Tok):(ZK prog w).is (.inl i) (.int i t)=true:=ZiM i t
theorem ZgN(prog:aq)(w:ap)(x:Str)(t:Tok):(ZK prog w).is (.inr x) (.str x t)=true:=Zjs x t
inductive V where
 | aB|bl (b:Bool)|int (i:Int)|str (x:Str)|jB (b:Array UInt8)|uy (b:UInt64)|ref (a:Addr)|ty (n:String)
 deriving DecidableEq
def RelV:V->aa->Prop
 | .aB,u=>u=bq
 | .bl b,u=>u=g8 b
 | .int i,u=>∃t,u=eC i t
 | .str x,u=>∃t,u=ef x t
 | .jB b,u=>∃t,u=XN b t
 | .uy b,u=>∃t,u=Nk b t
 | .ref a,u=>u=ar a
 | .ty n,u=>u=eQ n
abbrev Vals:List V->List aa->Prop:=ck RelV
theorem Vals.length{xs:List V}{us:List aa}(r:Vals xs us):xs.length=us.length:=dz r
theorem Vals.get:∀{xs:List V}{us:List aa}{i:Nat}{x:V},Vals xs us->xs[i]?= some x->∃u,us[i]?= some u/\RelV x u
 | _,_,_,_,.nil,e=>by simp at e
 | _,_,0,_,.cons r _,e=>by simp at e;subst e;exact⟨_,rfl,r⟩
 | _,_,i+1,x,.cons _ t,e=>by
  obtain⟨u,h1,h2⟩:=Vals.get (i:=i) (x:=x) t (by simpa using e);exact⟨u,by simpa using h1,h2⟩
theorem Vals.append:∀{xs ys:List V}{us ws:List aa},Vals xs us->Vals ys ws->Vals (xs++ys) (us++ws)
 | _,_,_,_,.nil,s=>s
 | _,_,_,_,.cons r t,s=>.cons r (Vals.append t s)
def gh:Option V->Option aa->Prop
 | some v,some u=>RelV v u
 | none,none=>True
 | _,_=>False
def KV{κ : Type}:List (κ × V)->List (κ × aa)->Prop:=ck λ(p : κ × V)(q : κ × aa)=>p.1=q.1/\RelV p.2 q.2
def kV:Key->V
 | .inl i=>.int i
 | .inr x=>.str x
inductive HO where
 | lst (xs:List V)
 | tup (xs:List V)
 | dK (ae:List (Key×V))|dT (ae:List (List Key×V))
 | set (S:Int->Bool) (n:Nat)
 | ins (C dx:Addr) (fs:List (Str×V))
 | own (x:Addr)
 | xd (fs:List (Str×V))
 | met (f x:Addr)
 | E4 (lo hi:Int)
 | aO (o:Obj) (u:HO)
 | bR (ps:Array aa)
 | ext (φ : Heap->Prop)
abbrev Hp:=Addr->Option HO
def upd(H:Hp)(a:Addr)(o:HO):Hp:=λb=>if b=a then some o else H b
variable{H:Hp}{a:Addr}{o:HO}
theorem Za:upd H a o a=some o:=by unfold upd;rw[ao rfl]
variable{b:Addr}
theorem Zc(h:b≠a):upd H a o b=H b:=by unfold upd;rw[ai h]
theorem Zoy{u:HO}(h:H a=some o)(h':H b=some u)(d:o≠u):a≠b:=by
 intro e;subst e;rw[h] at h';exact d (dg h')
theorem Zi(h:H a=some o)(h':H b=none):a≠b:=by
 intro e;subst e;rw[h] at h';cases h'
section
variable(P:aq)(w:ap)
def ZX(H:Hp)(h:Heap)(a:Addr):HO->Prop
 | .lst xs=>xs.length<=sizeLine/\∃(its:List aa)(n:Nat),Vals xs its/\h.get? a=some { cls:=.type "list",data:=.seq its.toArray n }
 | .tup xs=>xs.length<=sizeLine/\∃its:List aa,Vals xs its/\IsTup h a its.toArray
 | .dK ae=>ae.length<=sizeLine/\(a == sysModules)=false/\∃vs,KV ae vs/\h.DictOf (ZK P w) a vs
 | .dT ae=>ae.length<=sizeLine/\(a == sysModules)=false/\∃xs:List (List Key×Addr×aa),
   ck (λ(p:List Key×V)(q:List Key×Addr×aa)=>p.1=q.1/\H q.2.1=some (.tup (p.1.map kV))/\RelV p.2 q.2.2) ae xs /\
   ∃o es ep,h.get? a=some o/\o.ExactDict/\o.data=.dict es ep/\es.toList=xs.map (entryOfKey (tupleKind (ZK P w)))/\(xs.map (·.1)).Nodup
 | .set S n=>h.SetOf (intKind P w) a S n
 | .ins C dx fs=>H dx=some (.own a)/\fs.length<=1000/\dx≠a/\h.get? a=some (sX C dx) /\
   ∃mA,h.Ns1 dx mA/\(∀f,gh (fs.lookup f) (mA f))/\Nd mA (fs.map (·.1))
 | .own _=>∃o,h.get? a=some o
 | .xd fs=>∃mA,h.Ns1 a mA/\∀f,gh (fs.lookup f) (mA f)
 | .E4 lo hi=>∃t u v,h.get? a=some { cls:=.type "range",data:=.fields #[.int lo t,.int hi u,.int 1 v] }
 | .aO o u=>h.get? a=some o/\ZX H h a u
 | .bR ps=>h.get? a=some { cls:=.none,data:=.fields ps }
 | .met f x=>h.get? a=some (Na (.ref f) (.ref x))
 | .ext φ=>φ h/\(∃o,h.get? a=some o)/\∀h1 h2:Heap,φ h1->(∀o,h1.get? a=some o->h2.get? a=some o) -> φ h2
def bD(H:Hp)(h:Heap):Prop := ∀a o,H a=some o->ZX P w H h a o
end
section
variable{P:aq}{w:ap}{H H':Hp}{h h':Heap}{a:Addr}{o:HO}
theorem ZX.lt(x:ZX P w H h a o):a<h.objs.size:=by
 cases o with
 | lst xs=>obtain⟨_,_,_,_,e⟩:=x;exact aP e
 | tup xs=>obtain⟨_,_,_,p⟩:=x;exact p.lt
 | dK ae=>obtain⟨_,_,_,_,o,_,_,e,_⟩:=x;exact aP e
 | dT ae=>obtain⟨_,_,_,_,o,_,_,e,_⟩:=x;exact aP e
 | set S n=>obtain⟨o,_,_,_,e,_⟩:=x;exact aP e
 | ins C dx fs=>obtain⟨_,_,_,e,_⟩:=x;exact aP e
 | own y=>obtain⟨_,e⟩:=x;exact aP e
 | xd fs=>obtain⟨_,⟨_,_,_,e,_⟩,_⟩:=x;exact aP e
 | E4 lo hi=>obtain⟨_,_,_,e⟩:=x;exact aP e
 | aO ob u=>obtain⟨e,_⟩:=x;exact aP e
 | bR ps=>exact aP (show h.get? a=some _ from x)
 | met f y=>exact aP (show h.get? a=some _ from x)
 | ext φ=>obtain⟨_,⟨_,e⟩,_⟩:=x;exact aP e
theorem ck.kl{α β : Type}{F G : α -> β -> Prop}:∀{l₁ : List α}{l₂ : List β},ck F l₁ l₂ -> (∀a b,F a b->G a b)->ck G l₁ l₂
 | _,_,.nil,_=>.nil
 | _,_,.cons r t,f=>.cons (f _ _ r) (ck.kl t f)
theorem ZX.jJ(x:ZX P w H h a o)(k:∀b u,(b=a\/H b=some (.own a))->h.get? b=some u->h'.get? b=some u)
  (ho:∀b,H b=some (.own a)->H' b=some (.own a)) (ht:∀b xs,H b=some (.tup xs)->H' b=some (.tup xs)):ZX P w H' h' a o:=by
 induction o with
 | lst xs=>obtain⟨z,its,n,r,e⟩:=x;exact⟨z,its,n,r,k _ _ (.inl rfl) e⟩
 | tup xs=>obtain⟨z,its,r,ob,e,c⟩:=x;exact⟨z,its,r,ob,k _ _ (.inl rfl) e,c⟩
 | dK ae=>obtain⟨z,y,vs,r,ob,es,ep,e,c⟩:=x;exact⟨z,y,vs,r,ob,es,ep,k _ _ (.inl rfl) e,c⟩
 | dT ae =>
  obtain⟨z,y,xs,r,ob,es,ep,e,c⟩:=x;exact⟨z,y,xs,ck.kl r λp q z=>⟨z.1,ht _ _ z.2.1,z.2.2⟩,ob,es,ep,k _ _ (.inl rfl) e,c⟩
 | set S n=>obtain⟨ob,es,ep,t,e,c⟩:=x;exact⟨ob,es,ep,t,k _ _ (.inl rfl) e,c⟩
 | ins C dx fs =>
  obtain⟨d,z,ne,e,mA,⟨od,es,ep,e2,c⟩,r⟩:=x;exact⟨ho _ d,z,ne,k _ _ (.inl rfl) e,mA,⟨od,es,ep,k _ _ (.inr d) e2,c⟩,r⟩
 | own y=>obtain⟨ob,e⟩:=x;exact⟨ob,k _ _ (.inl rfl) e⟩
 | xd fs=>obtain⟨mA,⟨od,es,ep,e,c⟩,r⟩:=x;exact⟨mA,⟨od,es,ep,k _ _ (.inl rfl) e,c⟩,r⟩
 | E4 lo hi=>obtain⟨t,u,v,e⟩:=x;exact⟨t,u,v,k _ _ (.inl rfl) e⟩
 | aO ob u ih=>obtain⟨e,q⟩:=x;exact⟨k _ _ (.inl rfl) e,ih q⟩
 | bR ps =>
  have e:h.get? a=some { cls:=.none,data:=.fields ps }:=x;show h'.get? a=some { cls:=.none,data:=.fields ps };exact k a _ (.inl rfl) e
 | met f y =>
  have e:h.get? a=some (Na (.ref f) (.ref y)):=x;show h'.get? a=some (Na (.ref f) (.ref y));exact k a _ (.inl rfl) e
 | ext φ=>obtain⟨p,⟨o,e⟩,st⟩:=x;exact⟨st _ _ p λo q=>k _ _ (.inl rfl) q,⟨o,k _ _ (.inl rfl) e⟩,st⟩
theorem bD.lt(x:bD P w H h)(e:H a=some o):a<h.objs.size:=(x a o e).lt
theorem bD.fresh(x:bD P w H h)(e:h.objs.size<=a):H a=none:=by
 cases q:H a with
 | none=>rfl
 | some u=>exact absurd (cg (x.lt q) e) (cW _)
theorem bD.kept(x:bD P w H h)(k:∀b u,h.get? b=some u->h'.get? b=some u):bD P w H h':=λa o e =>
 (x a o e).jJ (λb u _ q=>k b u q) (λ_ q=>q) λ_ _ q=>q
theorem bD.laid(x:bD P w H h)(k:∀b u,h.get? b=some u->h'.get? b=some u)(hp:h.objs.size<=a)(new:ZX P w (upd H a o) h' a o):bD P w (upd H a o) h':=λb u e=>by
 have hn:=x.fresh hp;by_cases hb:b=a
 .subst hb;rw[Za] at e;cases e;exact new
 .rw[Zc hb] at e;exact(x b u e).jJ (λc v _ q=>k c v q) (λc q=>by rw[Zc (Zi q hn)];exact q) λc xs q=>by rw[Zc (Zi q hn)];exact q
end
def Rd(H:Hp)(a:Addr)(u:HO):Prop:=H a=some u\/∃o,H a=some (.aO o u)
variable{P:aq}{w:ap}{h:Heap}
theorem Rd.ok{u:HO}(r:Rd H a u)(x:bD P w H h):ZX P w H h a u:=by
 rcases r with r|⟨o,r⟩
 .exact x a u r
 .obtain⟨_,q⟩:=x a _ r;exact q
def yR:Option HO->Prop
 | some (.lst _)=>True
 | some (.dK _)=>True
 | some (.dT _)=>True
 | some (.set _ _)=>True
 | some (.ins _ _ _)=>True
 | some (.ext _)=>True
 | _=>False
variable{h':Heap}{x e:Addr}{o':HO}
theorem bD.write(ok:bD P w H h)(mu:yR (H x))(he:e=x\/H e=some (.own x))(k:∀b u,b≠e->h.get? b=some u->h'.get? b=some u)(xk:∃u,h'.get? e=some u)
  (new:ZX P w (upd H x o') h' x o'):bD P w (upd H x o') h':=λb u q=>by
 have U2:∀c y,H c=some (.own y)->c≠x:=λc y r z=>by subst z;rw[r] at mu;exact mu
 have ZAS:∀c xs,H c=some (.tup xs)->c≠x:=λc xs r z=>by subst z;rw[r] at mu;exact mu
 by_cases hb:b=x
 .subst hb;rw[Za] at q;cases q;exact new
 .rw[Zc hb] at q;by_cases uE:b=e
  .have q':H b=some (.own x):=by
    rcases he with z|z
    .exact absurd (uE.trans z) hb
    .rw[uE];exact z
   rw[q] at q';cases q';obtain⟨v,hv⟩:=xk;exact⟨v,by rw[uE];exact hv⟩
  .refine(ok b u q).jJ (λc v hc r=>k c v ?_ r) (λc r=>by rw[Zc (U2 c b r)];exact r) λc xs r=>by rw[Zc (ZAS c xs r)];exact r
   rcases hc with rfl|hc
   .exact uE
   .rintro rfl;rcases he with z|z
    .exact U2 c b hc z
    .rw[hc] at z;cases z;exact hb rfl
structure Un(fs ex:List Addr)(H H':Hp)(h h':Heap):Prop where
 keep:∀b o,h.get? b=some o->H b=none->b∉fs->b∉ex->h'.get? b=some o
 slot:∀b o,h.get? b=some o->H b=none->b∈fs->b∉ex->∃sl,h'.get? b=some { o with slots:=sl }
 free:∀b o,h.get? b=some o->H b=none->b∉ex->H' b=none
 there:∀b o,h.get? b=some o->b∉ex->∃o',h'.get? b=some o'
 lM:∀b xs,H b=some (.tup xs)->H' b=some (.tup xs)
 jY:∀b o u,H b=some (.aO o u)->H' b=some (.aO o u)
 ky:∀b ps,H b=some (.bR ps)->∃more,H' b=some (.bR (ps++more))
section
variable{fs vS ex ex':List Addr}{H H1 H2:Hp}{h h1 h2 h':Heap}{a x e:Addr}{o:HO}
theorem Un.any(u:Un fs ex H H1 h h1){b:Addr}{ob:Obj}(q:h.get? b=some ob)(n:H b=none)(hx:b∉ex):∃sl,h1.get? b=some { ob with slots:=sl }:=by
 by_cases hb:b∈fs
 .exact u.slot b ob q n hb hx
 .exact⟨ob.slots,u.keep b ob q n hb hx⟩
theorem Un.kept(k:∀b u,h.get? b=some u->h'.get? b=some u):Un fs ex H H h h' :=
 ⟨λb ob q _ _ _=>k b ob q,λb ob q _ _ _=>⟨ob.slots,k b ob q⟩,λ_ _ _ n _=>n,λb ob q _=>⟨ob,k b ob q⟩,λ_ _ q=>q,λ_ _ _ q=>q,λ_ ps q=>⟨#[],by rw[q];simp⟩⟩
theorem Un.refl:Un fs ex H H h h:=Un.kept λ_ _ q=>q
theorem Un.laid(k:∀b u,h.get? b=some u->h'.get? b=some u)(hp:h.objs.size<=a)(hn:H a=none):Un fs ex H (upd H a o) h h' where
 keep:=λb u q _ _ _=>k b u q
 slot:=λb u q _ _ _=>⟨u.slots,k b u q⟩
 free:=λb u q n _=>by rw[Zc (bo (cg (aP q) hp))];exact n
 there:=λb u q _=>⟨u,k b u q⟩
 lM:=λb xs q=>by rw[Zc (Zi q hn)];exact q
 jY:=λb u xs q=>by rw[Zc (Zi q hn)];exact q
 ky:=λb ps q=>⟨#[],by rw[Zc (Zi q hn),q];simp⟩
theorem Un.write(mu:yR (H x))(he:e=x\/H e=some (.own x))(k:∀b u,b≠e->h.get? b=some u->h'.get? b=some u)(xk:∃u,h'.get? e=some u):Un fs ex H (upd H x o) h h':=by
 have hx:∀b,H b=none->b≠x:=λb n z=>by subst z;rw[n] at mu;exact mu
 have hb:∀b,H b=none->b≠e:=λb n z=>by
  subst z;rcases he with r|r
  .exact hx b n r
  .rw[n] at r;cases r
 have hm:∀b u,H b=some u -> ¬ yR (some u)->b≠x:=λb u q nm z=>by subst z;rw[q] at mu;exact nm mu
 refine⟨λb u q n _ _=>k b u (hb b n) q,λb u q n _ _=>⟨u.slots,k b u (hb b n) q⟩,λb u q n _=>by rw[Zc (hx b n)];exact n,λb u q _=>?_,
  λb xs q=>by rw[Zc (hm b _ q λz=>z)];exact q,λb u xs q=>by rw[Zc (hm b _ q λz=>z)];exact q,λb ps q=>⟨#[],by rw[Zc (hm b _ q λz=>z),q];simp⟩⟩
 by_cases uE:b=e
 .subst uE;exact xk
 .exact⟨u,k b u uE q⟩
end
def E9(h:Heap)(H:Hp):List Addr:=(fL h.objs.size).filter λa=>(H a).isSome
def nX(h:Heap)(H:Hp):Heap:=PySem.W.hideAll h (E9 h H)
theorem ZiI(h:Heap)(H:Hp):(nX h H).objs.size=h.objs.size:=PySem.W.hideAll_size _ _
variable{o:Obj}
theorem Zla(e:h.get? b=some o)(n:H b=none):(nX h H).get? b=some o :=
 PySem.W.hideAll_get _ e λhm=>by
  have q:(H b).isSome=true:=(fA.mp hm).2;rw[n] at q;simp at q
theorem Zm9(e:(nX h H).get? b=some o):h.get? b=some o/\H b=none:=by
 have e':h.get? b=some o:=PySem.W.of_hideAll (E9 h H) e;refine⟨e',?_⟩;cases q:H b with
 | none=>rfl
 | some x =>
  have hm:b∈E9 h H:=fA.mpr ⟨ik.mpr (aP e'),by simp[q]⟩;have z:(nX h H).get? b=none:=PySem.W.hideAll_none (E9 h H) hm;rw[z] at e;cases e
structure Mod(K:ay)(mg:Str->Option aa)(base:Heap):Prop where
 vc:K.In base
 glob:base.Ns mainGlobals mg
 blt:∃mb,base.Ns builtinsNs mb/\∀x:Str,x ≠ "__name__" -> mb x=bootBuiltins x
 nolimit:base.NoLimit
/-- lL context: a YU body (or a NL block) running. base: fixed through lL whole law;dr,jN: lL entry;outer: lL frames ZBS slots others may change (a YU ZDz);stack: all frames E8 run;
   ex: ZEl E8 ZBR made ahead of lL entry and are walked here (a NL);fn: lL names ZBS cells ZBR made at lL entry (a def: all;a NL block: its own);calm: not within an except ZEG;pn: ac E8 ZDE state bears;xe: ZE0 is wanted of an exception E8 ZEt lL code -/
structure Cx where
 prog:aq
 w:ap
 K:ay
 mg:Str->Option aa
 base:Heap
 A:aC
 N:List Str
 dr : ag
 jN : Hp
 env:Env
 outer:List Env
 stack:List Env
 ex:List Addr
 fn:Str->Bool
 calm:Bool
 pn:List (Addr×Obj)
 xe:aa->ag->Prop
def h_(l:List Env):List Addr:=l.filterMap (·.frame)
abbrev Cx.fs(X:Cx):List Addr:=h_ X.outer
def G7(sc:cH)(x:Str):Prop:=sc.names.lookup x=some .local\/sc.names.lookup x=some .cell\/sc.names.lookup x=some .free
def Loc(sc:cH)(x:Str):Prop:=sc.names.lookup x=some .local\/sc.names.lookup x=some .cell
def Look(env:Env)(h:Heap)(m:Str->Option aa)(x:Str)(u:aa):Prop :=
 (env.kindOf x=some .local/\m x=some u)\/((env.kindOf x=some .cell\/env.kindOf x=some .free)/\∃c,env.cells.lookup x=some c/\h.IsCell c (some u))
structure Cx.Ok(X:Cx):Prop where
 mod:Mod X.K X.mg X.base
 kind:X.env.scope.kind=.function
 glob:X.env.globals=mainGlobals
 blt:X.env.builtins=builtinsNs
 above:X.dr.heap.objs.size<=X.env.locals
 inj:∀x y c,X.env.cells.lookup x=some c->X.env.cells.lookup y=some c->x=y
 has:∀x,(X.env.kindOf x=some .cell\/X.env.kindOf x=some .free)->∃c,X.env.cells.lookup x=some c
 mz:∀x c,X.fn x=true->X.env.cells.lookup x=some c->X.dr.heap.objs.size<=c
 hd:X.calm=true->X.A.handled=none
 frames:X.A.frames=some X.stack
 oE:X.stack=X.outer\/(X.stack=X.env::X.outer/\X.env.frame=some X.env.locals)
 lA:∀b∈X.ex,b≠X.env.locals/\∀x c,X.env.cells.lookup x=some c->c≠b
 bs:∀b o,X.base.get? b=some o->X.dr.heap.get? b=some o/\X.jN b=none
 iA:X.base.objs.size<=X.dr.heap.objs.size
 mP:∀b o,X.base.get? b=some o->b∉X.ex
 lB:∀b∈X.ex,b∉X.fs
 gL:X.dr.heap.FunFrames X.base X.outer
 jX:∀b∈X.fs,X.jN b=none
structure Inv(X:Cx)(ac:List (Addr×Obj))(σ : List (Option V))(H:Hp)(s:ag):Prop where
 ok:X.Ok
 os:s.os=X.dr.os
 bare:oH s.gens
 base:Un X.fs X.ex X.jN H X.dr.heap s.heap
 loc:∃m,s.heap.Ns X.env.locals m/\∀(i:Nat)(x:Str)(v:V),X.N[i]?= some x -> σ[i]?= some (some v)->G7 X.env.scope x->∃u,RelV v u/\Look X.env s.heap m x u
 cell:∀x c,X.env.cells.lookup x=some c->∃v,s.heap.IsCell c v
 free:H X.env.locals=none
 fq:∀x c,X.env.cells.lookup x=some c->H c=none
 pin:∀p∈X.pn++ac,s.heap.get? p.1=some p.2/\H p.1=none/\p.1≠X.env.locals/\p.1∉X.fs/\∀v,p.2.data ≠ .cell v
 aj:bD X.prog X.w H s.heap
 len : σ.length=X.N.length
section
variable{X:Cx}{ac:List (Addr×Obj)}{σ : List (Option V)}{H H':Hp}{s:ag}{h':Heap}
theorem Cx.Ok.ZAN(ok:X.Ok){b:Addr}{o:Obj}(e:X.base.get? b=some o):b∉X.fs:=λhb=>by
 have:=(ok.gL.mem hb).1;rw[e] at this;cases this
theorem Inv.bs(I:Inv X ac σ H s):∀b o,X.base.get? b=some o->s.heap.get? b=some o/\H b=none:=λb o e =>
 ⟨I.base.keep b o (I.ok.bs b o e).1 (I.ok.bs b o e).2 (I.ok.ZAN e) (I.ok.mP b o e),I.base.free b o (I.ok.bs b o e).1 (I.ok.bs b o e).2 (I.ok.mP b o e)⟩
theorem Inv.bk(I:Inv X ac σ H s):∀b o,X.base.get? b=some o->s.heap.get? b=some o:=λb o e=>(I.bs b o e).1
theorem Inv.mod(I:Inv X ac σ H s):Mod X.K X.mg X.base:=I.ok.mod
theorem Inv.bQ(I:Inv X ac σ H s):X.K.In s.heap:=I.ok.mod.vc.keeps I.bk
theorem Inv.nolimit(I:Inv X ac σ H s):s.heap.NoLimit:=I.ok.mod.nolimit.keeps I.bk
theorem Inv.lt(I:Inv X ac σ H s):X.env.locals<s.heap.objs.size:=let ⟨_,hn,_⟩:=I.loc;hn.lt
theorem Inv.sz(I:Inv X ac σ H s):X.dr.heap.objs.size<=s.heap.objs.size:=cz I.ok.above (ji I.lt)
theorem Inv.ES(I:Inv X ac σ H s){a:Addr}(h:s.heap.objs.size<=a):a∉X.fs:=λhb=>by
 obtain⟨_,o,ho,_⟩:=I.ok.gL.mem hb;exact absurd (cg (aP ho) (cz I.sz h)) (cW _)
theorem Inv.mB(I:Inv X ac σ H s):∀x c,X.env.cells.lookup x=some c->c≠X.env.locals:=λx c e z=>by
 obtain⟨v,o,ho,hd⟩:=I.cell x c e;obtain⟨m,⟨o',es,ep,b9,cx,_⟩,_⟩:=I.loc;rw[z,b9] at ho;cases ho;rw[cx] at hd;cases hd
theorem Inv.gL(I:Inv X ac σ H s):s.heap.FunFrames X.base X.outer:=by
 have all:∀(l:List Env),(∀b∈h_ l,b∈X.fs)->X.dr.heap.FunFrames X.base l->s.heap.FunFrames X.base l:=by
  intro l
  induction l with
  | nil=>intro _ _;trivial
  | cons env r ih =>
   intro hs hl;obtain⟨hk,⟨L,o,hf,hn,ho,hd⟩,hr⟩:=hl;have hL:L∈X.fs:=hs L (by unfold h_;rw[Mz,hf];exact bw);obtain⟨sl,e⟩:=I.base.slot L o ho (I.ok.jX L hL) hL λz=>I.ok.lB L z hL;exact⟨hk,⟨L,_,hf,hn,e,hd⟩,ih (λb hb=>hs b (by unfold h_;rw[Mz,hf];exact bp _ hb)) hr⟩
 exact all X.outer (λ_ hb=>hb) I.ok.gL
theorem Inv.stack(I:Inv X ac σ H s):s.heap.FunFrames X.base X.stack:=by
 rcases I.ok.oE with e|⟨e,hf⟩
 .rw[e];exact I.gL
 .rw[e];obtain⟨m,hn,_⟩:=I.loc;refine .cons (by rw[I.ok.kind];decide) hf hn ?_ I.gL;exact Heap.get?_none_of_le (cz I.ok.iA I.ok.above)
theorem Inv.LW(I:Inv X ac σ H s):∀b∈h_ X.stack,b∈X.env.locals::X.fs:=λb hb=>by
 rcases I.ok.oE with e|⟨e,hf⟩
 .rw[e] at hb;exact bp _ hb
 .rw[e] at hb;unfold h_ at hb;rw[Mz,hf] at hb;exact hb
theorem Inv.E6(I:Inv X ac σ H s):∀b∈h_ X.stack,H b=none:=λb hb=>by
 rcases a8.mp (I.LW b hb) with e|hb
 .rw[e];exact I.free
 .obtain⟨_,o,ho,_⟩:=I.ok.gL.mem hb;exact I.base.free b o ho (I.ok.jX b hb) λz=>I.ok.lB b z hb
variable{g':Array Mq}{t':Nat}{d':qD}{ch:List Addr}
theorem Inv.step(I:Inv X ac σ H s)
  (og:∀b∈ch,(b∈X.ex\/X.dr.heap.objs.size<=b)/\b≠X.env.locals/\(∀x c,X.env.cells.lookup x=some c->c≠b)/\∀p∈X.pn++ac,p.1≠b)
  (keep:∀b o,b≠X.env.locals->b∉X.fs->b∉ch->s.heap.get? b=some o->H b=none->h'.get? b=some o)
  (slot:∀b o,b≠X.env.locals->b∈X.fs->b∉ch->s.heap.get? b=some o->H b=none->∃sl,h'.get? b=some { o with slots:=sl }) (free:∀b o,b∉ch->s.heap.get? b=some o->H b=none->H' b=none)
  (there:∀b o,b∉ch->s.heap.get? b=some o->∃o',h'.get? b=some o')
  (lM:∀b xs,H b=some (.tup xs)->H' b=some (.tup xs)) (jY:∀b o u,H b=some (.aO o u)->H' b=some (.aO o u)) (ky:∀b ps,H b=some (.bR ps)->∃more,H' b=some (.bR (ps++more)))
  (ns:∀m,s.heap.Ns X.env.locals m->h'.Ns X.env.locals m) (aj:bD X.prog X.w H' h') (hg:oH g') :
  Inv X ac σ H' { s with heap:=h',gens:=g',drawn:=d',toks:=t' }:=by
 have UY:∀b o,X.dr.heap.get? b=some o->b≠X.env.locals:=λb o e=>bo (cg (aP e) I.ok.above);have ER:∀b o,X.dr.heap.get? b=some o->b∉X.ex->b∉ch:=λb o e hx hb=>by
  rcases(og b hb).1 with z|z
  .exact hx z
  .exact absurd (cg (aP e) z) (cW _)
 have cellK:∀x c,X.env.cells.lookup x=some c->∀v,s.heap.IsCell c v->h'.IsCell c v:=λx c e v ⟨o,ho,hd⟩=>by
  have A1:c∉ch:=λz=>(og c z).2.2.1 x c e rfl;by_cases hc:c∈X.fs
  .obtain⟨sl,q⟩:=slot c o (I.mB x c e) hc A1 ho (I.fq x c e);exact⟨_,q,hd⟩
  .exact⟨o,keep c o (I.mB x c e) hc A1 ho (I.fq x c e),hd⟩
 refine⟨I.ok,I.os,hg,⟨λb o e n hb hx=>?_,λb o e n hb hx=>?_,λb o e n hx=>?_,λb o e hx=>?_,λb xs e=>lM b xs (I.base.lM b xs e),λb o xs e=>jY b o xs (I.base.jY b o xs e),λb ps e=>?_⟩,?_,λx c e=>?_,?_,λx c e=>?_,λp hp=>?_,aj,I.len⟩
 .exact keep b o (UY b o e) hb (ER b o e hx) (I.base.keep b o e n hb hx) (I.base.free b o e n hx)
 .obtain⟨sl,e1⟩:=I.base.slot b o e n hb hx;obtain⟨vU,e2⟩:=slot b _ (UY b o e) hb (ER b o e hx) e1 (I.base.free b o e n hx);exact⟨vU,e2⟩
 .obtain⟨o',e1⟩:=I.base.there b o e hx;exact free b o' (ER b o e hx) e1 (I.base.free b o e n hx)
 .obtain⟨o',e1⟩:=I.base.there b o e hx;exact there b o' (ER b o e hx) e1
 .obtain⟨m1,e1⟩:=I.base.ky b ps e;obtain⟨m2,e2⟩:=ky b _ e1;exact⟨m1++m2,by rw[e2,Array.append_assoc]⟩
 .obtain⟨m,hn,hl⟩:=I.loc;refine⟨m,ns m hn,λi x v e1 e2 e3=>?_⟩;obtain⟨u,r,l⟩:=hl i x v e1 e2 e3;refine⟨u,r,?_⟩;rcases l with l|⟨k,c,e,z⟩
  .exact .inl l
  .exact .inr ⟨k,c,e,cellK x c e _ z⟩
 .obtain⟨v,z⟩:=I.cell x c e;exact⟨v,cellK x c e v z⟩
 .obtain⟨m,⟨o,_,_,ho,_⟩,_⟩:=I.loc;exact free _ o (λz=>(og _ z).2.1 rfl) ho I.free
 .obtain⟨v,o,ho,hd⟩:=I.cell x c e;exact free c o (λz=>(og c z).2.2.1 x c e rfl) ho (I.fq x c e)
 .obtain⟨e,n,ne,nf,d⟩:=I.pin p hp;have A1:p.1∉ch:=λz=>(og p.1 z).2.2.2 p hp rfl;exact⟨keep p.1 p.2 ne nf A1 e n,free p.1 p.2 A1 e n,ne,nf,d⟩
theorem Inv.un(I:Inv X ac σ H s)(u:Un X.fs [] H H' s.heap h')(aj:bD X.prog X.w H' h'):Inv X ac σ H' { s with heap:=h',toks:=t' }:=by
 obtain⟨m,⟨o,es,ep,ho,r⟩,_⟩:=id I.loc;obtain⟨sl,hL⟩:=u.any ho I.free (by simp);exact I.step (g':=s.gens) (d':=s.drawn) (ch:=[]) (λ_ z=>nomatch z) (λb o _ hb _ e n=>u.keep b o e n hb (by simp)) (λb o _ hb _ e n=>u.slot b o e n hb (by simp)) (λb o _ e n=>u.free b o e n (by simp)) (λb o _ e=>u.there b o e (by simp)) u.lM u.jY u.ky (λm' hm=>by
  obtain⟨o',bJ,gD,b9,r'⟩:=hm;rw[ho] at b9;cases b9;exact⟨_,bJ,gD,hL,r'⟩) aj I.bare
theorem Inv.call(I:Inv X ac σ H s)(u:Un (h_ X.stack) ch H H' s.heap h')(aj:bD X.prog X.w H' h')(hg:oH g')
  (og:∀b∈ch,(b∈X.ex\/X.dr.heap.objs.size<=b)/\b≠X.env.locals/\(∀x c,X.env.cells.lookup x=some c->c≠b)/\∀p∈X.pn++ac,p.1≠b) :
  Inv X ac σ H' { s with heap:=h',gens:=g',drawn:=d',toks:=t' }:=by
 obtain⟨m,⟨o,es,ep,ho,r⟩,_⟩:=id I.loc;obtain⟨sl,hL⟩:=u.any ho I.free λz=>(og _ z).2.1 rfl;exact I.step (ch:=ch) og (λb o hL hb hc e n=>u.keep b o e n (λz=>(a8.mp (I.LW b z)).elim hL hb) hc) (λb o _ _ hc e n=>u.any e n hc) (λb o hc e n=>u.free b o e n hc) (λb o hc e=>u.there b o e hc) u.lM u.jY u.ky (λm' hm=>by
  obtain⟨o',bJ,gD,b9,r'⟩:=hm;rw[ho] at b9;cases b9;exact⟨_,bJ,gD,hL,r'⟩) aj hg
theorem Inv.turned{it:Addr}(I:Inv X ac σ H s)(k:∀b o,b≠it->s.heap.get? b=some o->h'.get? b=some o)(hn:H it=none)(hL:it≠X.env.locals)
  (h1:it∈X.ex\/X.dr.heap.objs.size<=it) (h2:∀x c,X.env.cells.lookup x=some c->c≠it) (h3:∀p∈X.pn++ac,p.1≠it):Inv X ac σ H { s with heap:=h',toks:=t' }:=by
 have U1:∀b u,H b=some u->b≠it:=λb u e z=>by rw[z,hn] at e;cases e
 refine I.step (g':=s.gens) (d':=s.drawn) (ch:=[it]) (λb hb=>?_) (λb o _ _ hc e _=>k b o (λz=>hc (by simp[z])) e) (λb o _ _ hc e _=>⟨o.slots,k b o (λz=>hc (by simp[z])) e⟩) (λ_ _ _ _ n=>n)
  (λb o hc e=>⟨o,k b o (λz=>hc (by simp[z])) e⟩) (λ_ _ e=>e) (λ_ _ _ e=>e) (λb ps e=>⟨#[],by rw[e];simp⟩) (λm hm=>?_) (λb u e=>?_) I.bare
 .have e:b=it:=by simpa using hb
  subst e;exact⟨h1,hL,h2,h3⟩
 .obtain⟨o,es,ep,ho,r⟩:=hm;exact⟨o,es,ep,k _ o (fB hL) ho,r⟩
 .refine(I.aj b u e).jJ (λc v hc q=>k c v ?_ q) (λ_ q=>q) λ_ _ q=>q;rcases hc with z|z
  .rw[z];exact U1 b u e
  .exact U1 c _ z
theorem Inv.tok(I:Inv X ac σ H s)(t:Nat):Inv X ac σ H { s with toks:=t }:=I.un (h':=s.heap) (t':=t) Un.refl I.aj
theorem Inv.kept{t':Nat}(I:Inv X ac σ H s)(k:∀b u,s.heap.get? b=some u->h'.get? b=some u):Inv X ac σ H { s with heap:=h',toks:=t' }:=I.un (Un.kept k) (I.aj.kept k)
theorem Inv.laid{a:Addr}{o:HO}{t':Nat}(I:Inv X ac σ H s)(k:∀b u,s.heap.get? b=some u->h'.get? b=some u)(hp:s.heap.objs.size<=a)(new:ZX X.prog X.w (upd H a o) h' a o) :
  Inv X ac σ (upd H a o) { s with heap:=h',toks:=t' }:=I.un (Un.laid k hp (I.aj.fresh hp)) (I.aj.laid k hp new)
theorem Inv.write{x e:Addr}{o:HO}{t':Nat}(I:Inv X ac σ H s)(mu:yR (H x))(he:e=x\/H e=some (.own x))(k:∀b u,b≠e->s.heap.get? b=some u->h'.get? b=some u)(xk:∃u,h'.get? e=some u)
  (new:ZX X.prog X.w (upd H x o) h' x o):Inv X ac σ (upd H x o) { s with heap:=h',toks:=t' }:=I.un (Un.write mu he k xk) (I.aj.write mu he k xk new)
theorem Inv.A8{qP:List (Addr×Obj)}(I:Inv X ac σ H s)(h:∀p∈qP,s.heap.get? p.1=some p.2/\H p.1=none/\p.1≠X.env.locals/\p.1∉X.fs/\∀v,p.2.data ≠ .cell v):Inv X qP σ H s :=
 ⟨I.ok,I.os,I.bare,I.base,I.loc,I.cell,I.free,I.fq,λp hp=>(bV.mp hp).elim (λz=>I.pin p (dN _ z)) (h p),I.aj,I.len⟩
theorem HI{N:List Str}(hN:N.Nodup){i j:Nat}{x:Str}(a:N[i]?= some x)(b:N[j]?= some x):i=j:=by
 obtain⟨h1,e1⟩:=de.mp a;obtain⟨h2,e2⟩:=de.mp b;exact(List.getElem_inj hN).mp (e1.trans e2.symm)
variable{E:aa->ag->Prop}{i:Nat}{x:Str}{Q:Unit->ag->Prop}
theorem Hj{M:qE}{A:aC}{v:V}{u:aa}(I:Inv X ac σ H s)(hN:X.N.Nodup)(hi:X.N[i]?= some x)(hx:Loc X.env.scope x)(r:RelV v u)
  (h:∀s',Inv X ac (σ.set i (some v)) H s'->(∃a,dJ a s.heap s'.heap/\(a=X.env.locals\/X.env.cells.lookup x=some a))->Q () s') (hf:X.fn x=true\/X.env.scope.names.lookup x=some .local:=by first|exact .inl rfl|exact .inr rfl|assumption):wpAny M A (storeName X.env x u) Q E s:=by
 obtain⟨m,hn,hl⟩:=id I.loc;have Ea:(X.env.scope.kind ==.class || (X.env.scope.kind ==.module&&X.env.locals != X.env.globals))=false:=by rw[I.ok.kind];rfl
 have Tz : i < σ.length:=by rw[I.len];exact(de.mp hi).1
 have mB:=I.mB;have tracked:∀{a:Addr}{h':Heap},(∃o,s.heap.get? a=some o/\H a=none)->dJ a s.heap h'->bD X.prog X.w H h':=λ{a h'} ha hs b ob e=>by
  obtain⟨_,_,Eh⟩:=ha;refine(I.aj b ob e).jJ (λc w' hc q=>(hs.2 c ?_).trans q) (λ_ q=>q) λ_ _ q=>q;rintro rfl;rcases hc with rfl|hc
  .rw[Eh] at e;cases e
  .rw[Eh] at hc;cases hc
 rcases hx with hk|hk
 .refine YL hk hn (λh' Cd hs=>?_) Ea;obtain⟨oL,_,_,uT,_⟩:=id hn;refine h _ ⟨I.ok,I.os,I.bare,⟨λb o e n hb hx=>?_,λb o e n hb hx=>?_,I.base.free,λb o e hx=>?_,I.base.lM,I.base.jY,I.base.ky⟩,⟨_,Cd,λj y v' e1 e2 e3=>?_⟩,λy c e=>?_,I.free,I.fq,λp hp=>?_,tracked ⟨oL,uT,I.free⟩ hs,by simpa using I.len⟩ ⟨_,hs,.inl rfl⟩
  .exact(hs.2 b (bo (cg (aP e) I.ok.above))).trans (I.base.keep b o e n hb hx)
  .obtain⟨sl,e1⟩:=I.base.slot b o e n hb hx;exact⟨sl,(hs.2 b (bo (cg (aP e) I.ok.above))).trans e1⟩
  .obtain⟨o',e1⟩:=I.base.there b o e hx;exact⟨o',(hs.2 b (bo (cg (aP e) I.ok.above))).trans e1⟩
  .by_cases hj:j=i
   .subst hj;rw[hi] at e1;cases e1;rw[MF Tz] at e2;cases e2;exact⟨u,r,.inl ⟨hk,by simp⟩⟩
   .rw[ME (fB hj)] at e2;obtain⟨u',r',q⟩:=hl j y v' e1 e2 e3;refine⟨u',r',?_⟩;rcases q with⟨k,e⟩|⟨k,c,e,z⟩
    .refine .inl ⟨k,?_⟩;have:y≠x:=λe=>hj (HI hN e1 (e ▸ hi));simp[this,e]
    .exact .inr ⟨k,c,e,z.sameBut hs (mB y c e)⟩
  .obtain⟨w',z⟩:=I.cell y c e;exact⟨w',z.sameBut hs (mB y c e)⟩
  .obtain⟨e,n,ne,nf,d⟩:=I.pin p hp;exact⟨(hs.2 p.1 ne).trans e,n,ne,nf,d⟩
 .have Kf:X.fn x=true:=by
   rcases hf with z|z
   .exact z
   .rw[z] at hk;cases hk
  obtain⟨c,hc⟩:=I.ok.has x (.inl hk);obtain⟨w',z⟩:=I.cell x c hc;refine wpAny_storeName_cell I.ok.kind hk hc z (λh' dD hs=>?_);obtain⟨oc,rV,Zy6⟩:=id z;refine h { s with heap:=h' } ⟨I.ok,I.os,I.bare,⟨λb o e n hb hx=>?_,λb o e n hb hx=>?_,I.base.free,λb o e hx=>?_,I.base.lM,I.base.jY,I.base.ky⟩,⟨m,hn.sameBut hs (fB (mB x c hc)),λj y v' e1 e2 e3=>?_⟩,λy c' e=>?_,I.free,I.fq,λp hp=>?_,tracked ⟨oc,rV,I.fq x c hc⟩ hs,by simpa using I.len⟩ ⟨c,hs,.inr hc⟩
  .exact(hs.2 b (bo (cg (aP e) (I.ok.mz x c Kf hc)))).trans (I.base.keep b o e n hb hx)
  .obtain⟨sl,e1⟩:=I.base.slot b o e n hb hx;exact⟨sl,(hs.2 b (bo (cg (aP e) (I.ok.mz x c Kf hc)))).trans e1⟩
  .obtain⟨o',e1⟩:=I.base.there b o e hx;exact⟨o',(hs.2 b (bo (cg (aP e) (I.ok.mz x c Kf hc)))).trans e1⟩
  .by_cases hj:j=i
   .subst hj;rw[hi] at e1;cases e1;rw[MF Tz] at e2;cases e2;exact⟨u,r,.inr ⟨.inl hk,c,hc,dD⟩⟩
   .rw[ME (fB hj)] at e2;obtain⟨u',r',q⟩:=hl j y v' e1 e2 e3;refine⟨u',r',?_⟩;rcases q with q|⟨k,c',e,z'⟩
    .exact .inl q
    .refine .inr ⟨k,c',e,z'.sameBut hs ?_⟩;rintro rfl;exact hj (HI hN e1 (I.ok.inj _ _ _ e hc ▸ hi))
  .by_cases rN:c'=c
   .subst rN;exact⟨_,dD⟩
   .obtain⟨w2,z2⟩:=I.cell y c' e;exact⟨w2,z2.sameBut hs rN⟩
  .obtain⟨e,n,ne,nf,d⟩:=I.pin p hp;refine⟨(hs.2 p.1 ?_).trans e,n,ne,nf,d⟩;intro q;rw[q,rV] at e;have q':oc=p.2:=dg e;exact d w' (by rw[<- q'];exact Zy6)
theorem Hz{M:qE}{A:aC}{v:V}{u:aa}(I:Inv X ac σ H s)(hN:X.N.Nodup)(hi:X.N[i]?= some x)(hx:Loc X.env.scope x)(r:RelV v u)
  (h:∀s',Inv X ac (σ.set i (some v)) H s'->Q () s') (hf:X.fn x=true\/X.env.scope.names.lookup x=some .local:=by first|exact .inl rfl|exact .inr rfl|assumption):wpAny M A (storeName X.env x u) Q E s :=
 Hj I hN hi hx r (λs' I' _=>h s' I') hf
theorem Inv.B'{s':ag}(I:Inv X ac σ H s)(ho:s'.os=s.os)(u:Un (h_ X.stack) ch H H' s.heap s'.heap)(aj:bD X.prog X.w H' s'.heap)(hg:oH s'.gens)
  (og:∀b∈ch,(b∈X.ex\/X.dr.heap.objs.size<=b)/\b≠X.env.locals/\(∀x c,X.env.cells.lookup x=some c->c≠b)/\∀p∈X.pn++ac,p.1≠b):Inv X ac σ H' s':=by
 obtain⟨h',g',d',t',o'⟩:=s';have e:o'=s.os:=ho;subst e;exact I.call (g':=g') (t':=t') (d':=d') u aj hg og
end
abbrev XK:=aa->Option Addr->Hp->Prop
abbrev St:=List (Option V)
abbrev VK:=V->Hp->Prop
abbrev TE:=St->Hp->VK->Prop
abbrev TT:=St->Hp->(Bool->Hp->Prop)->Prop
abbrev TA:=St->Hp->(List V->Hp->Prop)->Prop
structure Ends where
 nx:St->Hp->Prop
 rt:VK
 bk:St->Hp->Prop:=λ_ _=>False
 ct:St->Hp->Prop:=λ_ _=>False
abbrev TS:=Ends->St->Hp->Prop
def EP(X:Cx)(ac:List (Addr×Obj))(σ : St)(Q:VK)(u:aa)(s':ag):Prop := ∃v H',Inv X ac σ H' s'/\RelV v u/\Q v H'
def TP(X:Cx)(ac:List (Addr×Obj))(σ : St)(Q:Bool->Hp->Prop)(b:Bool)(s':ag):Prop := ∃H',Inv X ac σ H' s'/\Q b H'
def AP(X:Cx)(ac:List (Addr×Obj))(σ : St)(Q:List V->Hp->Prop)(us:List aa)(s':ag):Prop := ∃vs H',Inv X ac σ H' s'/\Vals vs us/\Q vs H'
def SP(X:Cx)(ac:List (Addr×Obj))(D:Ends)(f:Flow)(s':ag):Prop :=
 match f with
 | .next=>∃ av H',Inv X ac av H' s'/\D.nx av H'
 | .brk=>∃ av H',Inv X ac av H' s'/\D.bk av H'
 | .cont=>∃ av H',Inv X ac av H' s'/\D.ct av H'
 | .ret u=>∃v av H',Inv X ac av H' s'/\RelV v u/\D.rt v H'
def PE(X:Cx)(e:Expr)(t:TE):Prop :=
 ∀(ac:List (Addr×Obj))(s:ag)(σ : St)(H:Hp)(Q:VK),Inv X ac σ H s->t σ H Q->wpAny (model X.prog X.w) X.A (eval e X.env) (EP X ac σ Q) X.xe s
def PT(X:Cx)(e:Expr)(t:TT):Prop :=
 ∀(ac:List (Addr×Obj))(s:ag)(σ : St)(H:Hp)(Q:Bool->Hp->Prop),Inv X ac σ H s->t σ H Q->wpAny (model X.prog X.w) X.A (isTrue e X.env (eval e X.env)) (TP X ac σ Q) X.xe s
def PW(X:Cx)(e:Expr)(t:TT):Prop :=
 ∀(whole:Sem aa)(ac:List (Addr×Obj))(s:ag)(σ : St)(H:Hp)(Q:Bool->Hp->Prop),Inv X ac σ H s->t σ H Q->wpAny (model X.prog X.w) X.A (isTrue e X.env whole) (TP X ac σ Q) X.xe s
variable{e:Expr}{X:Cx}
theorem PW.pt{t:TT}(h:PW X e t):PT X e t:=h _
def PA(X:Cx)(es:List Expr)(t:TA):Prop :=
 ∀(pos:Pos)(ac:List (Addr×Obj))(s:ag)(σ : St)(H:Hp)(Q:List V->Hp->Prop),Inv X ac σ H s->t σ H Q->wpAny (model X.prog X.w) X.A (spliced (backTo pos (starEach es X.env))) (AP X ac σ Q) X.xe s
def PS(X:Cx)(st:Stmt)(t:TS):Prop :=
 ∀(ac:List (Addr×Obj))(s:ag)(σ : St)(H:Hp)(D:Ends),Inv X ac σ H s->t D σ H->wpAny (model X.prog X.w) X.A (exec st X.env) (SP X ac D) X.xe s
def c8(X:Cx)(st:List Stmt)(t:TS):Prop :=
 ∀(ac:List (Addr×Obj))(s:ag)(σ : St)(H:Hp)(D:Ends),Inv X ac σ H s->t D σ H->wpAny (model X.prog X.w) X.A (execs st X.env) (SP X ac D) X.xe s
variable{α:Type}{A:aC}{E:aa->ag->Prop}{s:ag}
theorem aw{t:Sem α}{Q Q' : α -> ag->Prop}{M:qE}(h:wpAny M A t Q E s)(hQ:∀a s,Q a s->Q' a s):wpAny M A t Q' E s:=cM h hQ λ_ _ x=>x
def wQ(i:Nat):TE:=λσ H Q=>∃v,σ[i]?= some (some v)/\Q v H
def tC(v:V):TE:=λ_ H Q=>Q v H
variable{x:Str}{i:Nat}{pos:Pos}
theorem ZnS(hN:X.N[i]?= some x)(hv:G7 X.env.scope x)(hd:(x == ("__debug__" : Str))=false:=by decide) (fU:(x == ("__classdict__" : Str))=false:=by decide):PE X (.Name x pos) (wQ i):=by
 intro ac s σ H Q I h;obtain⟨v,e,h⟩:=h;obtain⟨m,hn,hl⟩:=I.loc;obtain⟨u,r,l⟩:=hl i x v hN e hv;have fin:EP X ac σ Q u s:=⟨v,H,I,r,h⟩;rcases l with⟨hk,hm⟩|⟨hk,c,hc,iC⟩
 .exact NB (wpAny_loadName_local I.ok.kind hk hn hm fin) hd
 .rcases hk with hk|hk
  .exact NB (wpAny_loadName_cell I.ok.kind hk hc iC fin) hd
  .exact NB (wpAny_loadName_free I.ok.kind hk hc iC fin fU) hd
theorem Zg{i j pos}:PE X (.Constant (.int i) j pos) (tC (.int i)):=λ_ _ _ H _ I h=>wpAny_Constant_int ⟨.int i,H,I.tok _,⟨_,rfl⟩,h⟩
theorem jU{b j pos}:PE X (.Constant (.bool b) j pos) (tC (.bl b)):=λ_ _ _ H _ I h=>Constant_bool ⟨.bl b,H,I,rfl,h⟩
theorem jx{j pos}:PE X (.Constant .none j pos) (tC .aB):=λ_ _ _ H _ I h=>Constant_none ⟨.aB,H,I,rfl,h⟩
theorem uh{x j pos}:PE X (.Constant (.str x) j pos) (tC (.str x)):=λ_ _ _ H _ I h=>Mj ⟨.str x,H,I.tok _,⟨_,rfl⟩,h⟩
def Gl(X:Cx)(x:Str):Prop:=X.env.kindOf x=some .globalImplicit
variable{u:aa}{ac:List (Addr×Obj)}{σ:St}{Q:aa->ag->Prop}
theorem zm(I:Inv X ac σ H s)(hg:Gl X x)(hm:X.mg x=some u)(h:Q u s)
  (hd:(x == ("__debug__" : Str))=false:=by decide):wpAny (model X.prog X.w) X.A (eval (.Name x pos) X.env) Q E s :=
 V3 I.ok.kind hg (Calls.loadGlobal_global (by rw[I.ok.glob];exact I.mod.glob.keeps I.bk) hm h) hd
theorem nQ(I:Inv X ac σ H s)(hg:Gl X x)(hm:X.mg x=none)(hv:bootBuiltins x=some u)(h:Q u s)
  (hn:x ≠ "__name__" := by decide) (hd:(x == ("__debug__" : Str))=false:=by decide):wpAny (model X.prog X.w) X.A (eval (.Name x pos) X.env) Q E s:=by
 obtain⟨mb,h1,h2⟩:=I.mod.blt;exact V3 I.ok.kind hg (Calls.loadGlobal_builtin (by rw[I.ok.glob];exact I.mod.glob.keeps I.bk) hm (by rw[I.ok.blt];exact h1.keeps I.bk) ((h2 x hn).trans hv) h) hd
theorem rh{v:V}(hg:Gl X x)(hm:X.mg x=some u)(r:RelV v u)(hd:(x == ("__debug__" : Str))=false:=by decide):PE X (.Name x pos) (tC v) :=
 λ_ _ _ H _ I h=>zm I hg hm ⟨v,H,I,r,h⟩ hd
theorem Zm4{v:V}(hg:Gl X x)(hm:X.mg x=none)(hv:bootBuiltins x=some u)(r:RelV v u)(hn:x ≠ "__name__" := by decide) (hd:(x == ("__debug__" : Str))=false:=by decide):PE X (.Name x pos) (tC v) :=
 λ_ _ _ H _ I h=>nQ I hg hm hv ⟨v,H,I,r,h⟩ hn hd
def PC(X:Cx)(op:vu)(a b:Expr)(t:TE):Prop :=
 ∀(ac:List (Addr×Obj))(s:ag)(σ : St)(H:Hp)(Q:VK),Inv X ac σ H s->t σ H Q ->
  wpAny (model X.prog X.w) X.A (eval a X.env) (λv aZ=>wpAny (model X.prog X.w) X.A (eval b X.env) (λu ku=>wpAny (model X.prog X.w) X.A (compareOp op v u) (EP X ac σ Q) X.xe ku) X.xe aZ) X.xe s
def tB(t:TE):TT:=λσ H Q=>t σ H λx H1=>∃c,x=.bl c/\Q c H1
variable{a b:Expr}{t:TE}{op:vu}
theorem Zoj(h:PC X op a b t)(h1:behindInMarks op b=false:=by first|exact ZAM _ (by decide) (by decide)|rfl):PE X (.Compare a [op] [b] pos) t:=λac s σ H Q I hw=>Ym (h ac s σ H Q I hw) h1
theorem zC(h:PC X op a b t)(h1:behindInMarks op b=false:=by first|exact ZAM _ (by decide) (by decide)|rfl):PT X (.Compare a [op] [b] pos) (tB t):=by
 intro ac s σ H Q I hw;refine Yw (aw (h ac s σ H _ I hw) λv s1 h1=>aw h1 λu s2 h2=>aw h2 ?_) h1;rintro c s3 ⟨x,H1,I1,r1,q1⟩;obtain⟨d,rfl,q⟩:=q1;cases r1;exact nr ⟨H1,I1,q⟩
def Zps(t u:TT):TT:=λσ H Q=>t σ H λc H1=>if c=true then u σ H1 Q else Q false H1
def tOr(t u:TT):TT:=λσ H Q=>t σ H λc H1=>if c=true then Q true H1 else u σ H1 Q
def ZpK(t:TT):TT:=λσ H Q=>t σ H λc H1=>Q (!c) H1
variable{tA:TT}
theorem zk(ha:PT X a tA):PW X (.BoolOp .And [a] pos) tA:=by
 intro wh ac s σ H Q I h;refine isTrue_and (aw (ha ac s σ H Q I h) λc s1 e=>?_);cases c with
 | true=>exact isTrue_and_nil e
 | false=>exact e
theorem rA(ha:PT X a tA):PW X (.BoolOp .Or [a] pos) tA:=by
 intro wh ac s σ H Q I h;refine isTrue_or (aw (ha ac s σ H Q I h) λc s1 e=>?_);cases c with
 | false=>exact isTrue_or_nil e
 | true=>exact e
variable{tH:TT}{rest:List Expr}
theorem wI(ha:PT X a tA)(hb:PW X (.BoolOp .And (b::rest) pos) tH):PW X (.BoolOp .And (a::b::rest) pos) (Zps tA tH):=by
 intro wh ac s σ H Q I h;refine isTrue_and (aw (ha ac s σ H _ I h) ?_);rintro c s1 ⟨H1,I1,q1⟩;cases c with
 | true=>exact hb wh ac s1 σ H1 Q I1 q1
 | false=>exact⟨H1,I1,q1⟩
theorem lu(ha:PT X a tA)(hb:PW X (.BoolOp .Or (b::rest) pos) tH):PW X (.BoolOp .Or (a::b::rest) pos) (tOr tA tH):=by
 intro wh ac s σ H Q I h;refine isTrue_or (aw (ha ac s σ H _ I h) ?_);rintro c s1 ⟨H1,I1,q1⟩;cases c with
 | true=>exact⟨H1,I1,q1⟩
 | false=>exact hb wh ac s1 σ H1 Q I1 q1
theorem mi(ha:PT X a tA):PT X (.UnaryOp .Not a pos) (ZpK tA):=by
 intro ac s σ H Q I h;exact isTrue_not (ha ac s σ H (λc H1=>Q (!c) H1) I h)
def Zo0(ta tb:TE):TE:=λσ H Q=>ta σ H λx H1=>∃c,x=.bl c/\if c=true then tb σ H1 Q else Q (.bl false) H1
def ZoR(ta:TE):TE:=λσ H Q=>ta σ H λx H1=>∃c,x=.bl c/\Q (.bl (!c)) H1
theorem Dq{op}(h:PE X a t):PE X (.BoolOp op [a] pos) t:=λac s σ H Q I hw=>BoolOp_one (h ac s σ H Q I hw)
variable{ta tb:TE}
theorem Dv(ha:PE X a ta)(hb:PE X (.BoolOp .And (b::rest) pos) tb):PE X (.BoolOp .And (a::b::rest) pos) (Zo0 ta tb):=by
 intro ac s σ H Q I h;refine BoolOp_and (aw (ha ac s σ H _ I h) ?_);rintro v s1 ⟨x,H1,I1,r1,q1⟩;obtain⟨c,rfl,q1⟩:=q1;cases r1;refine nr ?_;cases c with
 | true=>exact hb ac s1 σ H1 Q I1 q1
 | false=>exact⟨.bl false,H1,I1,rfl,q1⟩
theorem Rz(ha:PE X a ta):PE X (.UnaryOp .Not a pos) (ZoR ta):=by
 intro ac s σ H Q I h;refine UnaryOp_ (aw (ha ac s σ H _ I h) ?_);rintro v s1 ⟨x,H1,I1,r1,q1⟩;obtain⟨c,rfl,q1⟩:=q1;cases r1;exact not_of (nr ⟨.bl (!c),H1,I1,rfl,q1⟩)
def au(K:ay)(H:Hp)(a:Addr)(xs:List V):Prop :=
 Rd H a (.lst xs) \/
  ∃(o:Obj)(its:Array aa)(n:Nat),K.lookup a=some o/\o.cls=.type "list" /\ o.dict=none/\o.data=.seq its n/\its.size<=sizeLine/\Vals xs its.toList
def az(K:ay)(H:Hp)(a:Addr)(xs:List V):Prop :=
 Rd H a (.tup xs) \/
  ∃(o:Obj)(its:Array aa)(n:Nat),K.lookup a=some o/\o.cls=.type "tuple" /\ o.data=.seq its n/\its.size<=sizeLine/\Vals xs its.toList
def Zpt:aa->Option V
 | .none=>some .aB
 | .bool b=>some (.bl b)
 | .int i _=>some (.int i)
 | .str x _=>some (.str x)
 | .bytes b _=>some (.jB b)
 | .float b _=>some (.uy b)
 | .ref a=>some (.ref a)
 | .type n=>some (.ty n)
 | _=>none
theorem RelV.abs{x:V}(r:RelV x u):Zpt u=some x:=by
 cases x with
 | aB=>cases r;rfl
 | bl _=>cases r;rfl
 | int _=>obtain⟨t,rfl⟩:=r;rfl
 | str _=>obtain⟨t,rfl⟩:=r;rfl
 | jB _=>obtain⟨t,rfl⟩:=r;rfl
 | uy _=>obtain⟨t,rfl⟩:=r;rfl
 | ref _=>cases r;rfl
 | ty _=>cases r;rfl
theorem RelV.inj{x y:V}(r:RelV x u)(q:RelV y u):x=y:=dg (r.abs.symm.trans q.abs)
theorem Vals.inj:∀{xs ys:List V}{us:List aa},Vals xs us->Vals ys us->xs=ys
 | _,_,_,.nil,.nil=>rfl
 | _,_,_,.cons r t,.cons r' t'=>by rw[r.inj r',Vals.inj t t']
variable{a:Addr}{xs:List V}{K:ay}
theorem au.of(h:H a=some (.lst xs)):au K H a xs:=.inl (.inl h)
theorem az.of(h:H a=some (.tup xs)):az K H a xs:=.inl (.inl h)
theorem Inv.list(I:Inv X ac σ H s)(h:au X.K H a xs):∃its:List aa,Vals xs its/\PlainL s.heap a its.toArray/\xs.length<=sizeLine:=by
 rcases h with h|⟨o,its,n,hk,hc,hd,hs,hz,r⟩
 .obtain⟨z,its,n,r,e⟩:=h.ok I.aj;exact⟨its,r,⟨_,n,e,rfl,rfl,rfl⟩,z⟩
 .refine⟨its.toList,r,⟨o,n,I.bQ a o hk,hc,hd,by simpa using hs⟩,?_⟩;have e:=r.length;simp only[aW] at e;lia
theorem Inv.tuple(I:Inv X ac σ H s)(h:az X.K H a xs):∃its:List aa,Vals xs its/\IsTup s.heap a its.toArray/\xs.length<=sizeLine:=by
 rcases h with h|⟨o,its,n,hk,hc,hs,hz,r⟩
 .obtain⟨z,its,r,p⟩:=h.ok I.aj;exact⟨its,r,p,z⟩
 .refine⟨its.toList,r,⟨o,I.bQ a o hk,hc,n,by simpa using hs⟩,?_⟩;have e:=r.length;simp only[aW] at e;lia
variable{ys:List V}
theorem Inv.UM(I:Inv X ac σ H s)(h:au X.K H a xs)(h':au X.K H a ys):xs=ys:=by
 obtain⟨its,r,⟨o,n,e,_,_,d⟩,_⟩:=I.list h;obtain⟨its',r',⟨o',n',e',_,_,d'⟩,_⟩:=I.list h';rw[e] at e';cases e';rw[d] at d';injection d' with d1 _;have:its=its':=by simpa using congrArg Fe d1
 subst this;exact r.inj r'
theorem Inv.ZBA(I:Inv X ac σ H s)(h:az X.K H a xs)(h':az X.K H a ys):xs=ys:=by
 obtain⟨its,r,⟨o,e,_,n,d⟩,_⟩:=I.tuple h;obtain⟨its',r',⟨o',e',_,n',d'⟩,_⟩:=I.tuple h';rw[e] at e';cases e';rw[d] at d';injection d' with d1 _;have:its=its':=by simpa using congrArg Fe d1
 subst this;exact r.inj r'
abbrev Cx.oF(X:Cx)(E:aa->ag->Prop):Cx:={ X with xe:=E }
abbrev Cx.ET(X:Cx):Cx:=X.oF λ_ _=>False
theorem Cx.Ok.oF{X:Cx}(ok:X.Ok)(E:aa->ag->Prop):(X.oF E).Ok :=
 ⟨ok.mod,ok.kind,ok.glob,ok.blt,ok.above,ok.inj,ok.has,ok.mz,ok.hd,ok.frames,ok.oE,ok.lA,ok.bs,ok.iA,ok.mP,ok.lB,ok.gL,ok.jX⟩
theorem Cx.Ok.sx(ok:(X.oF E).Ok):X.Ok :=
 ⟨ok.mod,ok.kind,ok.glob,ok.blt,ok.above,ok.inj,ok.has,ok.mz,ok.hd,ok.frames,ok.oE,ok.lA,ok.bs,ok.iA,ok.mP,ok.lB,ok.gL,ok.jX⟩
theorem Inv.oF(I:Inv X ac σ H s)(E:aa->ag->Prop):Inv (X.oF E) ac σ H s:=⟨I.ok.oF E,I.os,I.bare,I.base,I.loc,I.cell,I.free,I.fq,I.pin,I.aj,I.len⟩
theorem Inv.sx(I:Inv (X.oF E) ac σ H s):Inv X ac σ H s:=⟨I.ok.sx,I.os,I.bare,I.base,I.loc,I.cell,I.free,I.fq,I.pin,I.aj,I.len⟩
theorem SP.sx{D:Ends}{f:Flow}{s':ag}(h:SP (X.oF E) ac D f s'):SP X ac D f s':=by
 cases f with
 | next=>obtain⟨av,H',I,q⟩:=h;exact⟨av,H',I.sx,q⟩
 | brk=>obtain⟨av,H',I,q⟩:=h;exact⟨av,H',I.sx,q⟩
 | cont=>obtain⟨av,H',I,q⟩:=h;exact⟨av,H',I.sx,q⟩
 | ret u=>obtain⟨v,av,H',I,r,q⟩:=h;exact⟨v,av,H',I.sx,r,q⟩
variable{t:TS}
theorem c8.ET{st:List Stmt}(h:c8 X.ET st t):c8 X st t:=λac s σ H D I hw =>
 cM (h ac s σ H D (I.oF _) hw) (λ_ _ q=>q.sx) λ_ _ z=>kC z
def ZoP:TS:=λD σ H=>D.nx σ H
def RY(t u:TS):TS:=λD σ H=>t { D with nx:=u D } σ H
theorem ZW:c8 X [] ZoP:=λ_ _ σ H _ I h=>B1 ⟨σ,H,I,h⟩
variable{u:TS}{rest:List Stmt}{st:Stmt}
theorem Zd(h1:PS X st t)(h2:c8 X rest u):c8 X (st::rest) (RY t u):=by
 intro ac s σ H D I h;refine Yt (aw (h1 ac s σ H { D with nx:=u D } I h) λf s1 q=>?_);cases f with
 | next =>
  obtain⟨av,H',I',q⟩:=q;exact h2 ac s1 av H' D I' q
 | ret v=>exact q
 | brk=>exact q
 | cont=>exact q
theorem Zh(h1:PS X st t):c8 X [st] t:=by
 intro ac s σ H D I h;refine Yt (aw (h1 ac s σ H D I h) λf s1 q=>?_);cases f with
 | next=>exact B1 q
 | ret v=>exact q
 | brk=>exact q
 | cont=>exact q
theorem Inv.quiet(I:Inv X ac σ H s):interactive X.env=false:=by simp[interactive,I.ok.kind]
def ZoE(te:TE):TS:=λD σ H=>te σ H λ_ H1=>D.nx σ H1
variable{te:TE}
theorem ix(he:PE X e te)(hs:swapsWith e none pos.line X.env=pure false:=by rfl):PS X (.Expr e pos) (ZoE te):=by
 intro ac s σ H D I h;exact wpAny_Expr_any (aw (he ac s σ H _ I h) λv s1 ⟨x,H1,I1,r1,q1⟩=>⟨σ,H1,I1,q1⟩) I.quiet hs
def Sb(te:TE):TS:=λD σ H=>te σ H D.rt
theorem Z1(he:PE X e te):PS X (.Return (some e) pos) (Sb te):=by
 intro ac s σ H D I h;exact wpAny_Return_some (aw (he ac s σ H _ I h) λv s1 ⟨x,H1,I1,r1,q1⟩=>⟨x,σ,H1,I1,r1,q1⟩)
def ZoO:TS:=λD _ H=>D.rt .aB H
theorem ZmI:PS X (.Return none pos) ZoO:=λ_ _ σ H _ I h=>wpAny_Return_none ⟨.aB,σ,H,I,rfl,h⟩
def Zpz(c:TT)(t u:TS):TS:=λD σ H=>c σ H λb H1=>if b=true then t D σ H1 else u D σ H1
variable{c:Expr}{tc:TT}
theorem cR{a b:List Stmt}(hc:PT X c tc)(ha:c8 X a t)(hb:c8 X b u):PS X (.If c a b pos) (Zpz tc t u):=by
 intro ac s σ H D I h;refine wpAny_If (aw (hc ac s σ H _ I h) ?_);rintro d s1 ⟨H1,I1,q1⟩;cases d with
 | true=>exact ha ac s1 σ H1 D I1 q1
 | false=>exact hb ac s1 σ H1 D I1 q1
def Zno:TS:=λ_ _ _=>False
theorem CN:PS X st Zno:=λ_ _ _ _ _ _ h=>h.elim
abbrev TG:=V->St->Hp->(St->Hp->Prop)->Prop
abbrev qV:=List V->St->Hp->(St->Hp->Prop)->Prop
def PG(X:Cx)(target:Expr)(t:TG):Prop :=
 ∀(ac:List (Addr×Obj))(s:ag)(σ : St)(H:Hp)(v:V)(u:aa)(Q:St->Hp->Prop),Inv X ac σ H s->RelV v u->t v σ H Q ->
  wpAny (model X.prog X.w) X.A (assign target X.env u) (λ_ s'=>∃ av H',Inv X ac av H' s'/\Q av H') X.xe s
def yS(X:Cx)(ts:List Expr)(t:qV):Prop :=
 ∀(ac:List (Addr×Obj))(s:ag)(σ : St)(H:Hp)(vs:List V)(us:List aa)(Q:St->Hp->Prop),Inv X ac σ H s->Vals vs us->t vs σ H Q ->
  wpAny (model X.prog X.w) X.A (assignInOrder ((assignEach ts X.env).map (·.2)) us) (λ_ s'=>∃ av H',Inv X ac av H' s'/\Q av H') X.xe s
def rC(i:Nat):TG:=λv σ H Q=>Q (σ.set i (some v)) H
theorem Zt(hN:X.N.Nodup)(hi:X.N[i]?= some x)(hx:Loc X.env.scope x)(hf:X.fn x=true\/X.env.scope.names.lookup x=some .local:=by first|exact .inl rfl|exact .inr rfl|assumption):PG X (.Name x pos) (rC i):=by
 intro ac s σ H v u Q I r h;exact ND (Hz I hN hi hx r (λs' I'=>⟨_,H,I',h⟩) hf)
def ZpJ:qV:=λvs σ H Q=>vs=[]/\Q σ H
def Zor(t:TG)(u:qV):qV:=λvs σ H Q=>∃v r,vs=v::r/\t v σ H λav H'=>u r av H' Q
theorem wB:yS X [] ZpJ:=by
 intro ac s σ H vs us Q I r h;obtain⟨e,h⟩:=h;subst e;cases r;exact assignInOrder_nil ⟨σ,H,I,h⟩
variable{es:List Expr}
theorem Z6{t:TG}{u:qV}(h1:PG X e t)(h2:yS X es u)
  (hs:(assignEach (e::es) X.env).map (·.2)=assign e X.env::(assignEach es X.env).map (·.2):=by rfl):yS X (e::es) (Zor t u):=by
 intro ac s σ H vs us Q I r h;obtain⟨v,vr,e1,h⟩:=h;subst e1;cases r with
 | cons r rr =>
  rw[hs];refine assignInOrder_cons (aw (h1 ac s σ H _ _ _ I r h) ?_);rintro _ s1 ⟨sD,H1,I1,q1⟩;exact h2 ac s1 sD H1 _ _ Q I1 rr q1
def R3(K:ay)(n:Nat)(t:qV):TG:=λv σ H Q=>∃a xs,v=.ref a/\az K H a xs/\xs.length=n/\t xs σ H Q
variable{n:Nat}
theorem wC{k:Nat}{t:qV}(hc:X.calm=true)(h:yS X es t)
  (hn:(assignEach es X.env).length=n:=by rfl) (cC:(assignEach es X.env).findIdx? (·.1)=none:=by rfl):PG X (.Tuple es k pos) (R3 X.K n t):=by
 intro ac s σ H v u Q I r hw;obtain⟨a,xs,e1,hq,hl,hw⟩:=hw;subst e1;cases r;obtain⟨its,rv,ht,hz⟩:=I.tuple hq;refine assign_Tuple_tuple (I.ok.hd hc) ht (by simp[hn,<- hl,rv.length]) cC λh' hx=>?_;have I1:Inv X ac σ H { s with heap:=h' }:=I.kept (t':=s.toks) λb o e=>hx b o (bo (aP e)) e;exact h ac _ σ H xs _ Q I1 (by simpa using rv) hw
def zR(te:TE)(g:TG):TS:=λD σ H=>te σ H λx H1=>g x σ H1 D.nx
variable{tg:Expr}{g:TG}
theorem Znm(he:PE X e te)(hg:PG X tg g)(hs:swapsWithSole [tg] e pos.line X.env=pure false:=by rfl)(hw:swappedStores [tg] e X.env=pure none:=by rfl)
  (h1:(assignEach [tg] X.env).map (·.2)=[assign tg X.env]:=by rfl):PS X (.Assign [tg] e pos) (zR te g):=by
 intro ac s σ H D I h;refine wpAny_Assign_stores (aw (he ac s σ H _ I h) ?_) hs hw;rintro v s1 ⟨x,H1,I1,r1,q1⟩;rw[h1];exact aw (hg ac s1 σ H1 x v _ I1 r1 q1) λ_ s2 q=>q
variable{pos':Pos}
theorem Zx(hN:X.N.Nodup)(hi:X.N[i]?= some x)(hx:Loc X.env.scope x)(he:PE X e te)(hs:swapsWith e (some (.Name x pos')) pos.line X.env=pure false:=by rfl)(hf:X.fn x=true\/X.env.scope.names.lookup x=some .local:=by first|exact .inl rfl|exact .inr rfl|assumption) :
  PS X (.Assign [.Name x pos'] e pos) (zR te (rC i)):=by
 intro ac s σ H D I h;refine wpAny_Assign_Name (aw (he ac s σ H _ I h) ?_) hs;rintro v s1 ⟨y,H1,I1,r1,q1⟩;exact Hz I1 hN hi hx r1 (λs2 I2=>⟨_,H1,I2,q1⟩) hf
def Znu(c:TT)(tb:TS):TS:=λD σ H=>∃W:Nat->St->Hp->Prop,(∃m,W m σ H)/\∀m σ H,W m σ H ->
 c σ H λb H1=>if b=true then ∃N:St->Hp->Prop,(∀ av H',N av H'->∃m',m'<m/\W m' av H')/\tb { D with nx:=N,ct:=N,bk:=D.nx } σ H1 else D.nx σ H1
variable{tb:TS}{body:List Stmt}
theorem HQ(hp:MW (model X.prog X.w) X.A X.env X.xe)(hc:PT X c tc)(hb:c8 X body tb):PS X (.While c body [] pos) (Znu tc tb):=by
 intro ac s σ H D I h;obtain⟨W,⟨m0,w0⟩,turn⟩:=h;refine wpAny_While (codeAny_whileLoop (λn s'=>∃ av H',Inv X ac av H' s'/\W n av H') ?_ m0 ⟨σ,H,I,w0⟩);rintro n s1 ⟨sD,H1,I1,w1⟩;refine vP hp (aw (hc ac s1 sD H1 _ I1 (turn n sD H1 w1)) ?_);rintro b s2 ⟨H2,I2,q2⟩;cases b with
 | true =>
  obtain⟨N,hN,q2⟩:=q2;rw[ao rfl];refine vP hp (aw (hb ac s2 sD H2 _ I2 q2) λf s3 q3=>?_);cases f with
  | next =>
   obtain⟨aS,H3,I3,n3⟩:=q3;obtain⟨m',hm,w3⟩:=hN aS H3 n3;exact⟨m',hm,aS,H3,I3,w3⟩
  | cont =>
   obtain⟨aS,H3,I3,n3⟩:=q3;obtain⟨m',hm,w3⟩:=hN aS H3 n3;exact⟨m',hm,aS,H3,I3,w3⟩
  | brk=>exact q3
  | ret v=>exact q3
 | false =>
  rw[ai cL];exact B1 ⟨sD,H2,I2,q2⟩
structure It where
 go:Nat->Hp->Prop
 ii:Nat->Hp->V->Hp->Prop
 stop:Nat->Hp->Prop
def bO(X:Cx)(ac:List (Addr×Obj))(H:Hp)(b:Addr):Prop :=
 H b=none/\b≠X.env.locals/\b∉X.fs/\(b∈X.ex\/X.dr.heap.objs.size<=b)/\(∀x c,X.env.cells.lookup x=some c->c≠b)/\∀p∈X.pn++ac,p.1≠b
theorem Inv.lC{H':Hp}{b:Addr}(I:Inv X ac σ H s)(hb:s.heap.objs.size<=b)(hn:H' b=none):bO X ac H' b:=by
 refine⟨hn,vF (cg I.lt hb),I.ES hb,.inr (cz I.sz hb),λx c e z=>?_,λp hp z=>?_⟩
 .obtain⟨v,q⟩:=I.cell x c e;exact absurd (cg q.lt (by rw[z];exact hb)) (cW _)
 .exact absurd (cg (aP (I.pin p hp).1) (by rw[z];exact hb)) (cW _)
structure Turn(P:aq)(w:ap)(K:ay)(tg:Expr)(J:It)(fp:List Addr)(it:Addr)(tn:Nat->Heap->Prop):Prop where
 mem:it∈fp
 obj:∀i h,tn i h->∀b∈fp,∃o,h.get? b=some o/\∀v,o.data ≠ .cell v
 keep:∀i h h',tn i h->(∀b∈fp,∀o,h.get? b=some o->h'.get? b=some o)->tn i h'
 item:∀(X:Cx),X.prog=P->X.w=w->X.K=K->X.calm=true->∀(i:Nat)(ac:List (Addr×Obj))(s:ag)(σ : St)(H:Hp)(E:aa->ag->Prop),Inv X ac σ H s->(∀b∈fp,bO X ac H b)->tn i s.heap->J.go i H ->
  wpAny (model P w) X.A (pyNext (.ref it)) (λr s1=>∃u,r=some u /\
   wpAny (model P w) X.A (letOwnedTupleGo tg (.ref it) u) (λ_ s2=>∃x H',Inv X ac σ H' s2/\RelV x u/\J.ii i H x H'/\tn (i+1) s2.heap/\∀b∈fp,H' b=none) E s1) E s
 done:∀(X:Cx),X.prog=P->X.w=w->X.K=K->X.calm=true->∀(i:Nat)(ac:List (Addr×Obj))(s:ag)(σ : St)(H:Hp)(E:aa->ag->Prop),Inv X ac σ H s->(∀b∈fp,bO X ac H b)->tn i s.heap->J.stop i H ->
  wpAny (model P w) X.A (pyNext (.ref it)) (λr s1=>r=none/\Inv X ac σ H s1) E s
 self:∀(A:aC)(i:Nat)(s:ag)(Q:aa->ag->Prop)(E:aa->ag->Prop),tn i s.heap->Q (.ref it) s->wpAny (model P w) A (pyIter (.ref it)) Q E s
abbrev TI:=St->Hp->(It->Hp->Prop)->Prop
def N5(X:Cx)(ac:List (Addr×Obj))(σ : St)(tg:Expr)(R:It->Hp->Prop)(xC:aa)(s2:ag):Prop :=
 ∃(it:Addr)(fp:List Addr)(tn:Nat->Heap->Prop)(J:It)(H':Hp),xC=.ref it/\Inv X ac σ H' s2/\Turn X.prog X.w X.K tg J fp it tn/\tn 0 s2.heap/\(∀b∈fp,bO X ac H' b)/\R J H'
def PI(X:Cx)(tg iter:Expr)(wi:TI):Prop :=
 ∀(ac:List (Addr×Obj))(s:ag)(σ : St)(H:Hp)(R:It->Hp->Prop),Inv X ac σ H s->wi σ H R ->
  wpAny (model X.prog X.w) X.A (eval iter X.env) (λv s1=>wpAny (model X.prog X.w) X.A (pyIter v) (N5 X ac σ tg R) X.xe s1) X.xe s
variable{u:aa}
theorem zI{M:qE}{it:Addr}{n:String}{vs:Array aa}{Q:Unit->ag->Prop}(ho:s.heap.get? it=some o)(hc:o.cls=.type n)(hd:o.data=.fields vs)
    (hn:["enumerate","zip","dict_itemiterator","dict_reverseitemiterator","odict_iterator","itertools.zip_longest","itertools.pairwise"].contains n=false) (hQ:Q () s):wpAny M A (letOwnedTupleGo tg (.ref it) u) Q E s:=by
  unfold letOwnedTupleGo;cases tg <;> first
    | exact ah hQ
    | (cases u <;> first
        | exact ah hQ
        | (refine af (Gp ho ?_)
           rw[hc,hd];show wpAny M A (if(["enumerate","zip","dict_itemiterator","dict_reverseitemiterator","odict_iterator","itertools.zip_longest","itertools.pairwise"].contains n&&vs[0]? == some (rawInt _))=true then _ else _) Q E s
           rw[ai (by intro h;rw[hn,Bm] at h;cases h)];exact ah hQ))
def qT(K:ay)(a:Addr):It :=
 ⟨λi H=>∃xs x,au K H a xs/\xs[i]?= some x,λi H x H'=>H'=H/\∀xs,au K H a xs->xs[i]?= some x,λi H=>∃xs,au K H a xs/\xs.length<=i⟩
def lX(K:ay)(a:Addr):It :=
 ⟨λi H=>∃xs x,az K H a xs/\xs[i]?= some x,λi H x H'=>H'=H/\∀xs,az K H a xs->xs[i]?= some x,λi H=>∃xs,az K H a xs/\xs.length<=i⟩
def pE(lo:Int)(n:Nat):It:=⟨λi _=>i<n,λi H x H'=>H'=H/\x=.int (lo+i),λi _=>n<=i⟩
theorem Zkv(a it:Addr):Turn P w K tg (qT K a) [it] it (λi h=>h.IsListIter it a i) where
 mem:=by simp
 obj:=λi h st b hb=>by
  have e:b=it:=by simpa using hb
  subst e;obtain⟨o,e,c,d⟩:=st;exact⟨o,e,λv z=>by rw[d] at z;cases z⟩
 keep:=λi h h' st k=>st.at λo e=>k it (by simp) o e
 item:=by
  intro X hP hw hK hc i ac s σ H E I hf st hg;subst hP hw hK;obtain⟨xs,x,hq,hx⟩:=hg;obtain⟨its,rv,p,hz⟩:=I.list hq;obtain⟨u,hu,ru⟩:=rv.get hx;obtain⟨f0,f1,f2,f3,f4,f5⟩:=hf it (by simp);refine YG st p.isList (x:=u) (by simpa using hu) λh' bL sb=>?_;have I1:Inv X ac σ H { s with heap:=h' }:=I.turned (t':=s.toks) (λb o hb e=>(sb.2 b hb).trans e) f0 f1 f3 f4 f5;obtain⟨o,e,c,d⟩:=id bL;exact⟨u,rfl,zI (s:={ s with heap:=h' }) e c d (by decide) ⟨x,H,I1,ru,⟨rfl,λys hy=>by rw[I.UM hy hq];exact hx⟩,bL,λb hb=>(hf b hb).1⟩⟩
 done:=by
  intro X hP hw hK hc i ac s σ H E I hf st hg;subst hP hw hK;obtain⟨xs,hq,hx⟩:=hg;obtain⟨its,rv,p,hz⟩:=I.list hq;obtain⟨f0,f1,f2,f3,f4,f5⟩:=hf it (by simp);have hl:=rv.length;exact YF (I.ok.hd hc) st p.isList (by simp;lia) λh' eb=>⟨rfl,I.turned (t':=s.toks) (λb o hb e=>eb b o hb e) f0 f1 f3 f4 f5⟩
 self:=λ_ _ _ _ _ st h=>wpAny_pyIter_listiter st h
theorem Zix(a it:Addr):Turn P w K tg (lX K a) [it] it (λi h=>h.IsTupleIter it a i) where
 mem:=by simp
 obj:=λi h st b hb=>by
  have e:b=it:=by simpa using hb
  subst e;obtain⟨o,e,c,d⟩:=st;exact⟨o,e,λv z=>by rw[d] at z;cases z⟩
 keep:=λi h h' st k=>st.at λo e=>k it (by simp) o e
 item:=by
  intro X hP hw hK hc i ac s σ H E I hf st hg;subst hP hw hK;obtain⟨xs,x,hq,hx⟩:=hg;obtain⟨its,rv,p,hz⟩:=I.tuple hq;obtain⟨u,hu,ru⟩:=rv.get hx;obtain⟨f0,f1,f2,f3,f4,f5⟩:=hf it (by simp);refine wpAny_pyNext_tuple_item st (show s.heap.IsTuple a its.toArray from p) (x:=u) (by simpa using hu) λh' bL sb=>?_;have I1:Inv X ac σ H { s with heap:=h' }:=I.turned (t':=s.toks) (λb o hb e=>(sb.2 b hb).trans e) f0 f1 f3 f4 f5;obtain⟨o,e,c,d⟩:=id bL;exact⟨u,rfl,zI (s:={ s with heap:=h' }) e c d (by decide) ⟨x,H,I1,ru,⟨rfl,λys hy=>by rw[I.ZBA hy hq];exact hx⟩,bL,λb hb=>(hf b hb).1⟩⟩
 done:=by
  intro X hP hw hK hc i ac s σ H E I hf st hg;subst hP hw hK;obtain⟨xs,hq,hx⟩:=hg;obtain⟨its,rv,p,hz⟩:=I.tuple hq;obtain⟨f0,f1,f2,f3,f4,f5⟩:=hf it (by simp);have hl:=rv.length;exact wpAny_pyNext_tuple_end (I.ok.hd hc) st (show s.heap.IsTuple a its.toArray from p) (by simp;lia) λh' eb=>⟨rfl,I.turned (t':=s.toks) (λb o hb e=>eb b o hb e) f0 f1 f3 f4 f5⟩
 self:=λ_ _ _ _ _ st h=>wpAny_pyIter_tupleiter st h
theorem Ziz(it:Addr)(lo:Int)(n:Nat):Turn P w K tg (pE lo n) [it] it (λi h=>Ft h it (lo+(i:Nat)*1) ((n:Int)-(i:Nat)) 1) where
 mem:=by simp
 obj:=λi h st b hb=>by
  have e:b=it:=by simpa using hb
  subst e;exact⟨_,st,λv z=>by
   have z':sI _=V9 v:=z;cases z'⟩
 keep:=λi h h' st k=>k it (by simp) _ st
 item:=by
  intro X hP hw hK hc i ac s σ H E I hf st hg;subst hP hw hK;obtain⟨f0,f1,f2,f3,f4,f5⟩:=hf it (by simp);have W:=XY (prog:=X.prog) (w:=X.w) (I.ok.hd hc) it lo 1 n;refine W.item i s _ _ hg st λv h' tk hv bL kk=>?_;obtain⟨t,rfl⟩:=hv;have I1:Inv X ac σ H { s with heap:=h',toks:=tk }:=I.turned (λb o hb e=>kk b o (by simpa using hb) e) f0 f1 f3 f4 f5;refine⟨_,rfl,zI (s:={ s with heap:=h',toks:=tk }) (n := "range_iterator") bL rfl rfl (by decide) ⟨.int (lo+i),H,I1,⟨t,?_⟩,⟨rfl,rfl⟩,bL,λb hb=>(hf b hb).1⟩⟩;rw[Int.mul_one]
 done:=by
  intro X hP hw hK hc i ac s σ H E I hf st hg;subst hP hw hK;obtain⟨f0,f1,f2,f3,f4,f5⟩:=hf it (by simp);exact YH (I.ok.hd hc) st (by have:n<=i:=hg;lia) λh' eb=>⟨rfl,I.turned (t':=s.toks) (λb o hb e=>eb b o hb e) f0 f1 f3 f4 f5⟩
 self:=λ_ _ _ _ _ st h=>YE st h
def ZoG(K:ay)(tl:TE):TI:=λσ H R=>tl σ H λx H1=>∃a,x=.ref a/\(∃xs,au K H1 a xs)/\R (qT K a) H1
def ZpD(K:ay)(tl:TE):TI:=λσ H R=>tl σ H λx H1=>∃a,x=.ref a/\(∃xs,az K H1 a xs)/\R (lX K a) H1
variable{l:Expr}{tl:TE}
theorem nO(hl:PE X l tl):PI X tg l (ZoG X.K tl):=by
 intro ac s σ H R I h;refine aw (hl ac s σ H _ I h) ?_;rintro v s1 ⟨x,H1,I1,r1,q1⟩;obtain⟨a,e,⟨xs,hq⟩,q⟩:=q1;subst e;cases r1;obtain⟨its,rv,p,hz⟩:=I1.list hq;refine vQ p.isList ?_;refine⟨s1.heap.objs.size,[s1.heap.objs.size],_,_,H1,rfl,I1.kept (t':=s1.toks) λb o e=>aH _ e,Zkv a _,⟨_,bS _ rfl,rfl,rfl⟩,λb hb=>?_,q⟩;have e:b=s1.heap.objs.size:=by simpa using hb
 subst e;exact I1.lC (aD _) (I1.aj.fresh (aD _))
theorem mj(hl:PE X l tl):PI X tg l (ZpD X.K tl):=by
 intro ac s σ H R I h;refine aw (hl ac s σ H _ I h) ?_;rintro v s1 ⟨x,H1,I1,r1,q1⟩;obtain⟨a,e,⟨xs,hq⟩,q⟩:=q1;subst e;cases r1;obtain⟨its,rv,p,hz⟩:=I1.tuple hq;refine wpAny_pyIter_tuple (show s1.heap.IsTuple a its.toArray from p) ?_;refine⟨s1.heap.objs.size,[s1.heap.objs.size],_,_,H1,rfl,I1.kept (t':=s1.toks) λb o e=>aH _ e,Zix a _,⟨_,bS _ rfl,rfl,rfl⟩,λb hb=>?_,q⟩;have e:b=s1.heap.objs.size:=by simpa using hb
 subst e;exact I1.lC (aD _) (I1.aj.fresh (aD _))
variable{lo:Int}
theorem ZlG{R:It->Hp->Prop}{hi:Int}{t u v:Tok}{tk:Nat}(I:Inv X ac σ H s)(h1 : -(2 ^ 62)<=lo)(h2:lo<2 ^ 62)(h3 : -(2 ^ 62)<=hi)(h4:hi<2 ^ 62)
  (q:R (pE lo (hi-lo).toNat) H):wpAny (model X.prog X.w) X.A (pyIter (.ref s.heap.objs.size)) (N5 X ac σ tg R) E { s with heap:=s.heap.push { cls:=.type "range",data:=.fields #[.int lo t,.int hi u,.int 1 v] },toks:=tk }:=by
 refine YD (Wr ..) (small_one h1 h2 h3 h4) ?_;have I1:Inv X ac σ H { s with heap:=s.heap.push { cls:=.type "range",data:=.fields #[.int lo t,.int hi u,.int 1 v] },toks:=tk }:=I.kept λb o e=>aH _ e;refine⟨(s.heap.push { cls:=.type "range",data:=.fields #[.int lo t,.int hi u,.int 1 v] }).objs.size,[(s.heap.push { cls:=.type "range",data:=.fields #[.int lo t,.int hi u,.int 1 v] }).objs.size],_,_,H,rfl,
  I1.kept (t':=tk) λb o e=>aH _ e,Ziz _ lo (hi-lo).toNat,?_,λb hb=>?_,q⟩
 .have e1:lo+((0:Nat):Int)*1=lo:=by simp
  have e2:(((hi-lo).toNat:Nat):Int)-((0:Nat):Int)=mX lo hi 1:=by rw[rangeSize_one];split <;> lia
  show Ft _ _ (lo+((0:Nat):Int)*1) ((((hi-lo).toNat:Nat):Int)-((0:Nat):Int)) 1;rw[e1,e2];exact bS _ rfl
 .have e:b=(s.heap.push { cls:=.type "range",data:=.fields #[.int lo t,.int hi u,.int 1 v] }).objs.size:=by simpa using hb
  subst e;exact I1.lC (aD _) (I1.aj.fresh (aD _))
def ZoV(ta:TA):TI:=λσ H R=>ta σ H λvs H1=>∃j:Int,vs=[.int j] /\ -(2 ^ 62)<=j/\j<2 ^ 62/\R (pE 0 j.toNat) H1
theorem Hq{a:Expr}{ta:TA}{p:Pos}(hg:Gl X "range") (hm:X.mg "range" = none) (ha:PA X [a] ta) (hs:starEach [a] X.env=[(false,eval a X.env)]:=by rfl):PI X tg (.Call (.Name "range" p) [a] [] pos) (ZoV ta):=by
 intro ac s σ H R I h;refine Call_ (nQ I hg hm boot_range (BJ (aw (ha pos ac s σ H _ I h) ?_) hs rfl));rintro us s1 ⟨vs,H1,I1,r1,q1⟩;obtain⟨j,e,q1,q2,q⟩:=q1;subst e;cases r1 with
 | cons r rr =>
  cases rr;obtain⟨t,rfl⟩:=r;exact call_range_1 (ZlG I1 (by lia) (by lia) q1 q2 (by simpa using q))
def Zpv(wi:TI)(g:TG)(tb:TS):TS:=λD σ H=>wi σ H λJ H1=>∃W:Nat->Nat->St->Hp->Prop,(∃m,W 0 m σ H1)/\∀i m σ H,W i m σ H ->
 (J.stop i H/\D.nx σ H)\/(J.go i H/\∃N:St->Hp->Prop,(∀ av H',N av H'->∃m',m'<m/\W (i+1) m' av H')/\∀x H',J.ii i H x H'->g x σ H' λeu H2=>tb { D with nx:=N,ct:=N,bk:=D.nx } eu H2)
def Dj(fp:List Addr)(h:Heap):List (Addr×Obj):=fp.filterMap λb=>(h.get? b).map λo=>(b,o)
variable{fp:List Addr}
theorem qY{b:Addr}(hb:b∈fp)(e:h.get? b=some o):(b,o)∈Dj fp h:=MI.mpr ⟨b,hb,by rw[e];rfl⟩
theorem Zjg{p:Addr×Obj}(hp:p∈Dj fp h):p.1∈fp/\h.get? p.1=some p.2:=by
 obtain⟨b,hb,e⟩:=MI.mp hp;cases q:h.get? b with
 | none=>rw[q] at e;cases e
 | some o =>
  rw[q] at e;have e':(b,o)=p:=dg e;subst e';exact⟨hb,q⟩
theorem Inv.pinned(I:Inv X ac σ H s)(hf:∀b∈fp,bO X ac H b)(ho:∀b∈fp,∃o,s.heap.get? b=some o/\∀v,o.data ≠ .cell v):Inv X (ac++Dj fp s.heap) σ H s :=
 I.A8 λp hp=>(bV.mp hp).elim (λz=>I.pin p (cj _ z)) λz=>by
  obtain⟨hb,e⟩:=Zjg z;obtain⟨f0,f1,f2,_⟩:=hf p.1 hb;obtain⟨o,e',d⟩:=ho p.1 hb;rw[e] at e';cases e';exact⟨e,f0,f1,f2,d⟩
theorem Inv.vn{pl:List (Addr×Obj)}(I:Inv X (ac++pl) σ H s):Inv X ac σ H s:=I.A8 λp hp=>I.pin p (cj _ (dN _ hp))
theorem gG{iter:Expr}{wi:TI}(hp:MW (model X.prog X.w) X.A X.env X.xe)(hc:X.calm=true)(hi:PI X tg iter wi)(hg:PG X tg g)(hb:c8 X body tb)
  (hs:∀x,foldedSetIterable iter X.env x=pure x:=by intro _;rfl):PS X (.For tg iter body [] pos) (Zpv wi g tb):=by
 intro ac s σ H D I h;refine wpAny_For (aw (hi ac s σ H _ I h) λv s1 h1=>aw h1 λxC s2 h2=>?_) hs;obtain⟨it,fp,tn,J,H2,e,I2,T,cE,f2,W,⟨m0,w0⟩,turn⟩:=h2;subst e;have mT:∀{H':Hp},(∀b∈fp,H' b=none)->∀b∈fp,bO X ac H' b:=λhn b hb=>⟨hn b hb,(f2 b hb).2⟩;refine codeAny_forLoop_any (λn s'=>∃i av H',Inv X ac av H' s'/\tn i s'.heap/\(∀b∈fp,H' b=none)/\W i n av H') ?_ m0 ⟨0,σ,H2,I2,cE,λb hb=>(f2 b hb).1,w0⟩;rintro n s3 ⟨i,aS,H3,I3,iH,SM,w3⟩;rcases turn i n aS H3 w3 with⟨stop,qn⟩|⟨go,N,hN,step⟩
 .refine vP hp (aw (T.done X rfl rfl rfl hc i ac s3 aS H3 X.xe I3 (mT SM) iH stop) ?_);rintro r s4 ⟨hr,I4⟩;subst hr;exact B1 ⟨aS,H3,I4,qn⟩
 .refine vP hp (aw (T.item X rfl rfl rfl hc i ac s3 aS H3 X.xe I3 (mT SM) iH go) ?_);rintro r s4 ⟨u,hr,h4⟩;subst hr;refine vP hp (aw h4 ?_);rintro _ s5 ⟨x,H5,I5,r5,y5,mR,uA⟩;have YQ:=I5.pinned (mT uA) (T.obj _ _ mR);refine vP hp (aw (hg _ s5 aS H5 x u _ YQ r5 (step x H5 y5)) ?_);rintro _ s6 ⟨qC,H6,I6,q6⟩;refine vP hp (aw (hb _ s6 qC H6 _ I6 q6) λf s7 q7=>?_);have again:∀{mW:St}{H7:Hp},Inv X (ac++Dj fp s5.heap) mW H7 s7->N mW H7->∃m,m<n/\∃i av H',Inv X ac av H' s7/\tn i s7.heap/\(∀b∈fp,H' b=none)/\W i m av H':=λ{mW H7} I7 n7=>by
   obtain⟨m',hm,w7⟩:=hN mW H7 n7;refine⟨m',hm,i+1,mW,H7,I7.vn,T.keep _ _ _ mR λb hb o e=>(I7.pin (b,o) (cj _ (cj _ (qY hb e)))).1,λb hb=>?_,w7⟩;obtain⟨o,e,d⟩:=T.obj _ _ mR b hb;exact(I7.pin (b,o) (cj _ (cj _ (qY hb e)))).2.1
  cases f with
  | next=>obtain⟨mW,H7,I7,n7⟩:=q7;exact again I7 n7
  | cont=>obtain⟨mW,H7,I7,n7⟩:=q7;exact again I7 n7
  | brk=>obtain⟨mW,H7,I7,q7⟩:=q7;exact⟨mW,H7,I7.vn,q7⟩
  | ret v=>obtain⟨x7,mW,H7,I7,r7,q7⟩:=q7;exact⟨x7,mW,H7,I7.vn,r7,q7⟩
variable{D:Ends}
theorem pH(Pv:Nat->St->Hp->Prop)(h0:Pv 0 σ H)(hl:∀i σ H,i<=xs.length->Pv i σ H->au K H a xs)
  (hs:∀i x σ H,xs[i]?= some x->Pv i σ H->g x σ H λeu H2=>tb { D with nx:=Pv (i+1),ct:=Pv (i+1),bk:=D.nx } eu H2) (hd:∀ σ H,Pv xs.length σ H->D.nx σ H) :
  ∃W:Nat->Nat->St->Hp->Prop,(∃m,W 0 m σ H)/\∀i m σ H,W i m σ H ->
   ((qT K a).stop i H/\D.nx σ H)\/((qT K a).go i H/\∃N:St->Hp->Prop,(∀ av H',N av H'->∃m',m'<m/\W (i+1) m' av H')/\∀x H',(qT K a).ii i H x H'->g x σ H' λeu H2=>tb { D with nx:=N,ct:=N,bk:=D.nx } eu H2):=by
 refine⟨λi m σ H=>m=xs.length-i/\i<=xs.length/\Pv i σ H,⟨xs.length,by simp,bG _,h0⟩,?_⟩;rintro i m σ H ⟨rfl,hi,p⟩;have q:=hl i σ H hi p;by_cases aA:i<xs.length
 .refine .inr ⟨⟨xs,xs[i],q,by simp[aA]⟩,Pv (i+1),λav H' p'=>⟨xs.length-(i+1),by lia,rfl,aA,p'⟩,λx H' y=>?_⟩;obtain⟨e,y⟩:=y;subst e;exact hs i x σ _ (y xs q) p
 .have e:i=xs.length:=by lia
  subst e;exact .inl ⟨⟨xs,q,aD _⟩,hd σ H p⟩
theorem wA(Pv:Nat->St->Hp->Prop)(h0:Pv 0 σ H)(hl:∀i σ H,i<=xs.length->Pv i σ H->az K H a xs)
  (hs:∀i x σ H,xs[i]?= some x->Pv i σ H->g x σ H λeu H2=>tb { D with nx:=Pv (i+1),ct:=Pv (i+1),bk:=D.nx } eu H2) (hd:∀ σ H,Pv xs.length σ H->D.nx σ H) :
  ∃W:Nat->Nat->St->Hp->Prop,(∃m,W 0 m σ H)/\∀i m σ H,W i m σ H ->
   ((lX K a).stop i H/\D.nx σ H)\/((lX K a).go i H/\∃N:St->Hp->Prop,(∀ av H',N av H'->∃m',m'<m/\W (i+1) m' av H')/\∀x H',(lX K a).ii i H x H'->g x σ H' λeu H2=>tb { D with nx:=N,ct:=N,bk:=D.nx } eu H2):=by
 refine⟨λi m σ H=>m=xs.length-i/\i<=xs.length/\Pv i σ H,⟨xs.length,by simp,bG _,h0⟩,?_⟩;rintro i m σ H ⟨rfl,hi,p⟩;have q:=hl i σ H hi p;by_cases aA:i<xs.length
 .refine .inr ⟨⟨xs,xs[i],q,by simp[aA]⟩,Pv (i+1),λav H' p'=>⟨xs.length-(i+1),by lia,rfl,aA,p'⟩,λx H' y=>?_⟩;obtain⟨e,y⟩:=y;subst e;exact hs i x σ _ (y xs q) p
 .have e:i=xs.length:=by lia
  subst e;exact .inl ⟨⟨xs,q,aD _⟩,hd σ H p⟩
theorem ZiR(Pv:Nat->St->Hp->Prop)(h0:Pv 0 σ H)
  (hs:∀i σ H,i<n->Pv i σ H->g (.int (lo+i)) σ H λeu H2=>tb { D with nx:=Pv (i+1),ct:=Pv (i+1),bk:=D.nx } eu H2) (hd:∀ σ H,Pv n σ H->D.nx σ H) :
  ∃W:Nat->Nat->St->Hp->Prop,(∃m,W 0 m σ H)/\∀i m σ H,W i m σ H ->
   ((pE lo n).stop i H/\D.nx σ H)\/((pE lo n).go i H/\∃N:St->Hp->Prop,(∀ av H',N av H'->∃m',m'<m/\W (i+1) m' av H')/\∀x H',(pE lo n).ii i H x H'->g x σ H' λeu H2=>tb { D with nx:=N,ct:=N,bk:=D.nx } eu H2):=by
 refine⟨λi m σ H=>m=n-i/\i<=n/\Pv i σ H,⟨n,by simp,bG _,h0⟩,?_⟩;rintro i m σ H ⟨rfl,hi,p⟩;by_cases aA:i<n
 .refine .inr ⟨aA,Pv (i+1),λav H' p'=>⟨n-(i+1),by lia,rfl,aA,p'⟩,λx H' y=>?_⟩;obtain⟨e,y⟩:=y;subst e y;exact hs i σ _ aA p
 .have e:i=n:=by lia
  subst e;exact .inl ⟨aD _,hd σ H p⟩
abbrev R2:=V->V->Hp->VK->Prop
def c7(X:Cx)(f:aa->aa->Sem aa)(r:R2):Prop :=
 ∀(ac:List (Addr×Obj))(s:ag)(σ : St)(H:Hp)(x y:V)(v u:aa)(Q:VK),Inv X ac σ H s->RelV x v->RelV y u->r x y H Q ->
  wpAny (model X.prog X.w) X.A (f v u) (EP X ac σ Q) X.xe s
def G6(X:Cx)(f:aa->Sem aa)(r:V->Hp->VK->Prop):Prop :=
 ∀(ac:List (Addr×Obj))(s:ag)(σ : St)(H:Hp)(x:V)(v:aa)(Q:VK),Inv X ac σ H s->RelV x v->r x H Q ->
  wpAny (model X.prog X.w) X.A (f v) (EP X ac σ Q) X.xe s
def gH(X:Cx)(f:aa)(r:List V->Hp->VK->Prop):Prop :=
 ∀(ac:List (Addr×Obj))(s:ag)(σ : St)(H:Hp)(xs:List V)(us:List aa)(Q:VK),Inv X ac σ H s->Vals xs us->r xs H Q ->
  wpAny (model X.prog X.w) X.A (call f us) (EP X ac σ Q) X.xe s
def ZpA(X:Cx)(r:V->Hp->(Bool->Hp->Prop)->Prop):Prop :=
 ∀(ac:List (Addr×Obj))(s:ag)(σ : St)(H:Hp)(x:V)(v:aa)(Q:Bool->Hp->Prop),Inv X ac σ H s->RelV x v->r x H Q ->
  wpAny (model X.prog X.w) X.A (truthy v) (TP X ac σ Q) X.xe s
def xS(r:R2)(ta tb:TE):TE:=λσ H Q=>ta σ H λx H1=>tb σ H1 λy H2=>r x y H2 Q
def tUn(r:V->Hp->VK->Prop)(ta:TE):TE:=λσ H Q=>ta σ H λx H1=>r x H1 Q
def rI(C:Int->Int->Prop)(g:Int->Int->V):R2:=λx y H Q=>∃i j,x=.int i/\y=.int j/\C i j/\Q (g i j) H
def vg(g:Int->Int->V):R2:=λx y H Q=>∃i j,x=.int i/\y=.int j/\Q (g i j) H
def rU(g:Int->V):V->Hp->VK->Prop:=λx H Q=>∃i,x=.int i/\Q (g i) H
variable{a:Expr}{tb:TE}
theorem I_(ha:PE X a ta)(hb:PE X b tb){ac:List (Addr×Obj)}{s:ag}{σ : St}{H:Hp}{R:V->V->Hp->Prop}(I:Inv X ac σ H s)
  (h:ta σ H λx H1=>tb σ H1 λy H2=>R x y H2) {Q:aa->ag->Prop} {f:aa->aa->Sem aa}
  (hf:∀v u s2 x y H2,Inv X ac σ H2 s2->RelV x v->RelV y u->R x y H2->wpAny (model X.prog X.w) X.A (f v u) Q X.xe s2) :
  wpAny (model X.prog X.w) X.A (eval a X.env) (λv aZ=>wpAny (model X.prog X.w) X.A (eval b X.env) (λu ku=>wpAny (model X.prog X.w) X.A (f v u) Q X.xe ku) X.xe aZ) X.xe s:=by
 refine aw (ha ac s σ H _ I h) ?_;rintro v s1 ⟨x,H1,I1,r1,q1⟩;refine aw (hb ac s1 σ H1 _ I1 q1) ?_;rintro u s2 ⟨y,H2,I2,r2,q2⟩;exact hf v u s2 x y H2 I2 r1 r2 q2
theorem ZF{op:Operator}{r:R2}(ho:c7 X (binaryOp op) r)(ha:PE X a ta)(hb:PE X b tb):PE X (.BinOp a op b pos) (xS r ta tb):=by
 intro ac s σ H Q I h;exact wpAny_BinOp (I_ ha hb I h λv u s2 x y H2 I2 rx ry q=>ho ac s2 σ H2 x y v u Q I2 rx ry q)
theorem Zo7{op:UnaryOp}{r:V->Hp->VK->Prop}(ho:G6 X (unaryOp op) r)(ha:PE X a ta):PE X (.UnaryOp op a pos) (tUn r ta):=by
 intro ac s σ H Q I h;exact UnaryOp_ (aw (ha ac s σ H _ I h) λv s1 ⟨x,H1,I1,r1,q1⟩=>ho ac s1 σ H1 x v Q I1 r1 q1)
variable{g:Int->Int->Int}{f:aa->aa->Sem aa}
theorem LI{C:Int->Int->Prop}
  (rule:∀(i j:Int)(t u:Tok)(s:ag)(Q:aa->ag->Prop)(E:aa->ag->Prop),C i j->Q (.int (g i j) s.toks) { s with toks:=s.toks+1 }->wpAny (model X.prog X.w) X.A (f (.int i t) (.int j u)) Q E s) :
  c7 X f (rI C λi j=>.int (g i j)):=by
 intro ac s σ H x y v u Q I rx ry h;obtain⟨i,j,rfl,rfl,hc,q⟩:=h;obtain⟨t,rfl⟩:=rx;obtain⟨t',rfl⟩:=ry;exact rule i j t t' s _ _ hc ⟨.int (g i j),H,I.tok _,⟨_,rfl⟩,q⟩
theorem Sf
  (rule:∀(i j:Int)(t u:Tok)(s:ag)(Q:aa->ag->Prop)(E:aa->ag->Prop),Q (.int (g i j) s.toks) { s with toks:=s.toks+1 }->wpAny (model X.prog X.w) X.A (f (.int i t) (.int j u)) Q E s) :
  c7 X f (vg λi j=>.int (g i j)):=by
 intro ac s σ H x y v u Q I rx ry h;obtain⟨i,j,rfl,rfl,q⟩:=h;obtain⟨t,rfl⟩:=rx;obtain⟨t',rfl⟩:=ry;exact rule i j t t' s _ _ ⟨.int (g i j),H,I.tok _,⟨_,rfl⟩,q⟩
theorem IY{g:Int->Int->Bool}
  (rule:∀(i j:Int)(t u:Tok)(s:ag)(Q:aa->ag->Prop)(E:aa->ag->Prop),Q (.bool (g i j)) s->wpAny (model X.prog X.w) X.A (f (.int i t) (.int j u)) Q E s) :
  c7 X f (vg λi j=>.bl (g i j)):=by
 intro ac s σ H x y v u Q I rx ry h;obtain⟨i,j,rfl,rfl,q⟩:=h;obtain⟨t,rfl⟩:=rx;obtain⟨t',rfl⟩:=ry;exact rule i j t t' s _ _ ⟨.bl (g i j),H,I,rfl,q⟩
def ZpI(i j:Int):Prop:=0<j/\j<1073741824
def Jb(i j:Int):Prop:=(-(2 ^ 64)<i/\i<2 ^ 64)\/(-(2 ^ 64)<j/\j<2 ^ 64)
variable{i j:Int}
theorem Jb.ok(h:Jb i j):IntMulOk i j:=by
 rcases h with⟨h1,h2⟩|⟨h1,h2⟩
 .exact .of_left (Yb h1 h2)
 .exact .of_right (Yb h1 h2)
theorem fG:c7 X (binaryOp .Add) (vg λi j=>.int (i+j)):=Sf λ_ _ _ _ _ _ _ q=>add_int q
theorem ZnL:c7 X (binaryOp .Sub) (vg λi j=>.int (i-j)):=Sf λ_ _ _ _ _ _ _ q=>sub_int q
theorem rp:c7 X (binaryOp .Mult) (rI Jb λi j=>.int (i*j)):=LI λ_ _ _ _ _ _ _ hc q=>mul_int q hc.ok
theorem ju:c7 X (binaryOp .FloorDiv) (rI ZpI λi j=>.int (i / j)):=LI λi j _ _ _ _ _ hc q=>by
 have h1:(0:Int)<j:=hc.1;have h2:j<1073741824:=hc.2;exact floordiv_int (by lia) (by rw[Int.fdiv_eq_ediv_of_nonneg i (by lia)];exact q) (.inl (Xc (by lia)))
theorem fS:c7 X (binaryOp .Mod) (rI (λ_ j=>0<j) λi j=>.int (i % j)):=LI λi j _ _ _ _ _ hc q=>by
 have h1:(0:Int)<j:=hc;exact mod_int' (by lia) (by rw[Int.fmod_eq_emod_of_nonneg i (by lia)];exact q)
theorem unI{f:aa->Sem aa}{g:Int->Int}
  (rule:∀(i:Int)(t:Tok)(s:ag)(Q:aa->ag->Prop)(E:aa->ag->Prop),Q (.int (g i) s.toks) { s with toks:=s.toks+1 }->wpAny (model X.prog X.w) X.A (f (.int i t)) Q E s) :
  G6 X f (rU λi=>.int (g i)):=by
 intro ac s σ H x v Q I rx h;obtain⟨i,rfl,q⟩:=h;obtain⟨t,rfl⟩:=rx;exact rule i t s _ _ ⟨.int (g i),H,I.tok _,⟨_,rfl⟩,q⟩
theorem Zn0:G6 X (unaryOp .USub) (rU λi=>.int (-i)):=unI λ_ _ _ _ _ q=>neg_int q
def R9:V->V->Bool
 | .aB,.aB=>true | .aB,.int _=>true | .int _,.aB=>true | .aB,.bl _=>true | .bl _,.aB=>true | .aB,.str _=>true | .str _,.aB=>true
 | .int _,.int _=>true | .bl _,.bl _=>true | .str _,.str _=>true | .jB _,.jB _=>true
 | .int _,.str _=>true | .str _,.int _=>true | .bl _,.str _=>true | .str _,.bl _=>true
 | _,_=>false
def Ve:R2:=λx y H Q=>R9 x y=true/\Q (.bl (decide (x=y))) H
def rNe:R2:=λx y H Q=>R9 x y=true/\Q (.bl (!decide (x=y))) H
theorem QZ:decide (V.int i=V.int j)=(i == j):=by
 rw[sG];simp
theorem RE{i j:Bool}:decide (V.bl i=V.bl j)=(i == j):=by
 rw[sG];simp
theorem QM{i j:Str}:decide (V.str i=V.str j)=(i == j):=by
 rw[sG];simp
theorem QX{i j:Array UInt8}:decide (V.jB i=V.jB j)=(i.toList == j.toList):=by
 rw[sG];cases i;cases j;simp
theorem Z2{Q:VK}{k k':Bool}(I:Inv X ac σ H s)(q:Q (.bl k) H)(e:k=k'):EP X ac σ Q (.bool k') s:=by
 subst e;exact⟨.bl k,H,I,rfl,q⟩
theorem iy:c7 X (compareOp .Eq) Ve:=by
 intro ac s σ H x y v u Q I rx ry h;obtain⟨hs,q⟩:=h;cases x with
 | aB =>
  cases rx;cases y with
  | aB=>cases ry;exact ZCG (Z2 I q (by simp))
  | bl j=>cases ry;exact ZCE (Z2 I q (by simp))
  | int j=>obtain⟨t',rfl⟩:=ry;exact ZCF (Z2 I q (by simp))
  | str j=>obtain⟨t',rfl⟩:=ry;exact ZCH (Z2 I q (by simp))
  | _=>exact absurd (show false=true from hs) cL
 | bl i =>
  cases rx;cases y with
  | aB=>cases ry;exact ZCC (Z2 I q (by simp))
  | bl j=>cases ry;exact eq_bool (Z2 I q RE)
  | str j=>obtain⟨t',rfl⟩:=ry;exact ZCu (Z2 I q (by simp))
  | _=>exact absurd (show false=true from hs) cL
 | int i =>
  obtain⟨t,rfl⟩:=rx;cases y with
  | aB=>cases ry;exact ZCD (Z2 I q (by simp))
  | int j=>obtain⟨t',rfl⟩:=ry;exact eq_int (Z2 I q QZ)
  | str j=>obtain⟨t',rfl⟩:=ry;exact ZCv (Z2 I q (by simp))
  | _=>exact absurd (show false=true from hs) cL
 | str i =>
  obtain⟨t,rfl⟩:=rx;cases y with
  | aB=>cases ry;exact ZCI (Z2 I q (by simp))
  | bl j=>cases ry;exact ZCw (Z2 I q (by simp))
  | int j=>obtain⟨t',rfl⟩:=ry;exact ZCx (Z2 I q (by simp))
  | str j=>obtain⟨t',rfl⟩:=ry;exact eq_str (Z2 I q QM)
  | _=>exact absurd (show false=true from hs) cL
 | jB i =>
  obtain⟨t,rfl⟩:=rx;cases y with
  | jB j=>obtain⟨t',rfl⟩:=ry;exact PySem.W.eq_bytes (Z2 I q QX)
  | _=>exact absurd (show false=true from hs) cL
 | _=>cases y <;> exact absurd (show false=true from hs) cL
theorem RW:c7 X (compareOp .NotEq) rNe:=by
 intro ac s σ H x y v u Q I rx ry h;obtain⟨hs,q⟩:=h;cases x with
 | aB =>
  cases rx;cases y with
  | aB=>cases ry;exact ZCN (Z2 I q (by simp))
  | bl j=>cases ry;exact ZCL (Z2 I q (by simp))
  | int j=>obtain⟨t',rfl⟩:=ry;exact ZCM (Z2 I q (by simp))
  | str j=>obtain⟨t',rfl⟩:=ry;exact ZCO (Z2 I q (by simp))
  | _=>exact absurd (show false=true from hs) cL
 | bl i =>
  cases rx;cases y with
  | aB=>cases ry;exact ZCJ (Z2 I q (by simp))
  | bl j=>cases ry;exact ne_bool (Z2 I q (congrArg not RE))
  | str j=>obtain⟨t',rfl⟩:=ry;exact ZCy (Z2 I q (by simp))
  | _=>exact absurd (show false=true from hs) cL
 | int i =>
  obtain⟨t,rfl⟩:=rx;cases y with
  | aB=>cases ry;exact ZCK (Z2 I q (by simp))
  | int j=>obtain⟨t',rfl⟩:=ry;exact ne_int (Z2 I q (congrArg not QZ))
  | str j=>obtain⟨t',rfl⟩:=ry;exact ZCz (Z2 I q (by simp))
  | _=>exact absurd (show false=true from hs) cL
 | str i =>
  obtain⟨t,rfl⟩:=rx;cases y with
  | aB=>cases ry;exact ZCP (Z2 I q (by simp))
  | bl j=>cases ry;exact ZCA (Z2 I q (by simp))
  | int j=>obtain⟨t',rfl⟩:=ry;exact ZCB (Z2 I q (by simp))
  | str j=>obtain⟨t',rfl⟩:=ry;exact ne_str (Z2 I q (congrArg not QM))
  | _=>exact absurd (show false=true from hs) cL
 | jB i =>
  obtain⟨t,rfl⟩:=rx;cases y with
  | jB j=>obtain⟨t',rfl⟩:=ry;exact PySem.W.ne_bytes (Z2 I q (congrArg not QX))
  | _=>exact absurd (show false=true from hs) cL
 | _=>cases y <;> exact absurd (show false=true from hs) cL
theorem IQ:c7 X (compareOp .Lt) (vg λi j=>.bl (decide (i<j))):=IY λ_ _ _ _ _ _ _ q=>lt_int q
theorem RT:c7 X (compareOp .LtE) (vg λi j=>.bl (decide (i<=j))):=IY λ_ _ _ _ _ _ _ q=>le_int q
theorem wK:c7 X (compareOp .Gt) (vg λi j=>.bl (decide (j<i))):=IY λ_ _ _ _ _ _ _ q=>gt_int q
theorem IK:c7 X (compareOp .Is) (λx y H Q=>y=.aB/\Q (.bl (decide (x=.aB))) H):=by
 intro ac s σ H x y v u Q I rx ry h;obtain⟨rfl,q⟩:=h;cases ry;refine is_none_gen (Z2 I q ?_);cases x <;> first
  | (cases rx;rfl)
  | (obtain⟨t,rfl⟩:=rx;rfl)
theorem Q3:c7 X (compareOp .IsNot) (λx y H Q=>y=.aB/\Q (.bl (!decide (x=.aB))) H):=by
 intro ac s σ H x y v u Q I rx ry h;obtain⟨rfl,q⟩:=h;cases ry;refine isnot_none_gen (Z2 I q ?_);cases x <;> first
  | (cases rx;rfl)
  | (obtain⟨t,rfl⟩:=rx;rfl)
theorem ZM(b:Expr){op:vu}(h:op ≠ .In:=by decide)(h2:op ≠ .NotIn:=by decide):behindInMarks op b=false:=by
 have e1:(op == vu.In)=false:=by cases op <;> first|rfl|exact absurd rfl h
 have e2:(op == vu.NotIn)=false:=by cases op <;> first|rfl|exact absurd rfl h2
 cases b <;> simp[behindInMarks,e1,e2]
theorem C6{r:R2}(ho:c7 X (compareOp op) r)(ha:PE X a ta)(hb:PE X b tb)(hm:behindInMarks op b=false):PE X (.Compare a [op] [b] pos) (xS r ta tb):=by
 intro ac s σ H Q I h;exact Ym (I_ ha hb I h λv u s2 x y H2 I2 rx ry q=>ho ac s2 σ H2 x y v u Q I2 rx ry q) hm
def RR(t:TE):TT:=λσ H Q=>t σ H λx H'=>∃k,x=.bl k/\Q k H'
theorem ZC{r:R2}(ho:c7 X (compareOp op) r)(ha:PE X a ta)(hb:PE X b tb)(hm:behindInMarks op b=false):PT X (.Compare a [op] [b] pos) (RR (xS r ta tb)):=by
 intro ac s σ H Q I h;refine Yw (aw (ha ac s σ H _ I h) λv s1 ⟨x,H1,I1,r1,q1⟩=>aw (hb ac s1 σ H1 _ I1 q1) λu s2 ⟨y,H2,I2,r2,q2⟩ =>
  aw (ho ac s2 σ H2 x y v u _ I2 r1 r2 q2) λc s3 ⟨z,H3,I3,r3,k,e,q3⟩=>?_) hm
 subst e;cases r3;exact nr ⟨H3,I3,q3⟩
def ZnQ(r r':R2)(ta tb tc:TE):TE:=λσ H Q=>ta σ H λx H1=>tb σ H1 λy H2=>r x y H2 λz H3=>∃k,z=.bl k /\
 (if k=true then tc σ H3 λw' H4=>r' y w' H4 Q else Q (.bl false) H3)
variable{tc:TE}
theorem ZkW{GK:vu}{r r':R2}(ho:c7 X (compareOp op) r)(b9:c7 X (compareOp GK) r')(ha:PE X a ta)(hb:PE X b tb)(hc:PE X c tc)
  (hm:lastMarks [op,GK] [b,c]=false:=by with_unfolding_all rfl):PE X (.Compare a [op,GK] [b,c] pos) (ZnQ r r' ta tb tc):=by
 intro ac s σ H Q I h;refine V8 (aw (ha ac s σ H _ I h) λv s1 ⟨x,H1,I1,r1,q1⟩=>chain_link (aw (hb ac s1 σ H1 _ I1 q1) λu s2 ⟨y,H2,I2,r2,q2⟩ =>
  aw (ho ac s2 σ H2 x y v u _ I2 r1 r2 q2) λd s3 ⟨z,H3,I3,r3,k,e,q3⟩=>?_)) hm
 subst e;cases r3;refine nr ?_;cases k with
 | false=>exact ite_ff ⟨.bl false,H3,I3,rfl,q3⟩
 | true=>exact ite_tt (chain_last (aw (hc ac s3 σ H3 _ I3 q3) λw' s4 ⟨z',H4,I4,r4,q4⟩=>b9 ac s4 σ H4 y z' u w' Q I4 r2 r4 q4))
def IX(K:ay)(x:V)(H:Hp)(k:Bool):Prop :=
 match x with
 | .aB=>k=false
 | .bl b=>k=b
 | .int i=>k=(i != 0)
 | .str y=>y.length<=sizeLine/\k=((y.length:Int) != 0)
 | .jB y=>y.size<=sizeLine/\k=((y.size:Int) != 0)
 | .ref p=>(∃xs,au K H p xs/\k= !xs.isEmpty)\/(∃xs,az K H p xs/\k= !xs.isEmpty)\/∃ae,H p=some (.dK ae)/\k= !ae.isEmpty
 | _=>False
theorem ZhO{κ : Type}{ae:List (κ × V)}{vs:List (κ × aa)}(r:KV ae vs):(!vs.isEmpty)= !ae.isEmpty:=by
 cases r <;> rfl
variable{its:List aa}
theorem OR(r:Vals xs its):(!its.toArray.isEmpty)= !xs.isEmpty:=by
 cases r <;> simp
theorem wH:(sizeLine:Nat)<2 ^ 63:=by rw[bu];decide
theorem Zn3:ZpA X (λx H Q=>∃k,IX X.K x H k/\Q k H):=by
 intro ac s σ H x v Q I rx h;obtain⟨k,e,q⟩:=h;have hl:=wH;have hs:sizeLine=16777216:=bu;cases x with
 | aB =>
  cases rx;have e':k=false:=e;subst e';exact truthy_none ⟨H,I,q⟩
 | bl b =>
  cases rx;have e':k=b:=e;subst e';exact nr ⟨H,I,q⟩
 | int i =>
  obtain⟨t,rfl⟩:=rx;have e':k=(i != 0):=e;subst e';exact PySem.P.truthy_int ⟨H,I,q⟩
 | str y =>
  obtain⟨t,rfl⟩:=rx;obtain⟨hy,e'⟩:y.length<=sizeLine/\k=((y.length:Int) != 0):=e;subst e';exact PySem.P.truthy_str (by lia) ⟨H,I.tok _,q⟩
 | jB y =>
  obtain⟨t,rfl⟩:=rx;obtain⟨hy,e'⟩:y.size<=sizeLine/\k=((y.size:Int) != 0):=e;subst e';exact PySem.W.truthy_bytes (by lia) ⟨H,I.tok _,q⟩
 | ref p =>
  cases rx;have e':(∃xs,au X.K H p xs/\k= !xs.isEmpty)\/(∃xs,az X.K H p xs/\k= !xs.isEmpty)\/∃ae,H p=some (.dK ae)/\k= !ae.isEmpty:=e;rcases e' with⟨xs,hx,e'⟩|⟨xs,hx,e'⟩|⟨ae,hx,e'⟩
  .subst e';obtain⟨its,r,pl,hz⟩:=I.list hx;have hlen:=r.length;exact wpAny_truthy_list pl.isList (by simp only[cO];lia) ⟨H,I.tok _,by rw[OR r];exact q⟩
  .subst e';obtain⟨its,r,pl,hz⟩:=I.tuple hx;have hlen:=r.length;exact truthy_tuple pl (by simp only[cO];lia) ⟨H,I.tok _,by rw[OR r];exact q⟩
  .subst e';obtain⟨hz,hS,vs,r,m⟩:ae.length<=sizeLine/\(p == sysModules)=false/\∃vs,KV ae vs/\s.heap.DictOf (ZK X.prog X.w) p vs:=I.aj p _ hx;have hlen:ae.length=vs.length:=dz r;exact wpAny_truthy_dict hS m (by lia) ⟨H,I.tok _,by rw[ZhO r];exact q⟩
 | _=>exact(show False from e).elim
theorem iT(ha:PE X a ta)(he:∀whole,isTrue a X.env whole=(do let v <- whole;standAt a.pos;holding [v] (truthy v))) :
  PT X a (λσ H Q=>ta σ H λx H'=>∃k,IX X.K x H' k/\Q k H'):=by
 intro ac s σ H Q I h;exact Yd (aw (ha ac s σ H _ I h) λv s1 ⟨x,H1,I1,r1,q1⟩=>Zn3 ac s1 σ H1 x v Q I1 r1 q1) (he _)
theorem ZhS:c7 X (binaryOp .Add) (λx y H Q=>∃i j,x=.str i/\y=.str j/\i.length+j.length<=sizeLine/\Q (.str (i++j)) H):=by
 intro ac s σ H x y v u Q I rx ry h;obtain⟨i,j,rfl,rfl,hz,q⟩:=h;obtain⟨t,rfl⟩:=rx;obtain⟨t',rfl⟩:=ry;exact add_str (λt' tk=>⟨.str (i++j),H,I.tok _,⟨_,rfl⟩,q⟩) hz
variable{us:List aa}
theorem vals1{x:V}(r:Vals [x] us):∃u,us=[u]/\RelV x u:=by
 cases r with
 | cons r1 r2=>cases r2;exact⟨_,rfl,r1⟩
theorem vals2{x y:V}(r:Vals [x,y] us):∃u w',us=[u,w']/\RelV x u/\RelV y w':=by
 cases r with
 | cons r1 r2 =>
  cases r2 with
  | cons r3 r4=>cases r4;exact⟨_,_,rfl,r1,r3⟩
theorem PN(hc:X.calm=true):gH X (.builtin "min") (λxs H Q=>∃i j,xs=[.int i,.int j]/\Q (.int (if j<i then j else i)) H):=by
 intro ac s σ H xs us Q I r h;obtain⟨i,j,rfl,q⟩:=h;obtain⟨u,w',rfl,⟨t,rfl⟩,⟨t',rfl⟩⟩:=vals2 r;refine min_two_ints (I.ok.hd hc) λh' tk k=>⟨_,H,I.kept k,?_,q⟩;by_cases hj:j<i
 .rw[ao hj,ao hj];exact⟨_,rfl⟩
 .rw[ai hj,ai hj];exact⟨_,rfl⟩
structure tP(h:Heap)(x dx C:Addr)(mA:Str->Option aa):Prop where
 obj:h.get? x=some (sX C dx)
 ns:h.Ns1 dx mA
 ne:dx≠x
variable{dx:Addr}{mA:Str->Option aa}
theorem Pb(n:h.Ns1 dx mA):∃od,h.get? dx=some od/\∀name,F6 name od=some (mA name):=by
 obtain⟨o,es,ep,ho,hd,hk,_,hm⟩:=n;refine⟨o,ho,λname=>?_⟩;have e:=hm name;unfold nsFind findBy at e;rw[<- Array.find?_toList] at e;unfold F6;rw[hd];dsimp only
 split
 .rename_i y q
  rw[q] at e;exact congrArg some e
 .rename_i q
  rw[q] at e;have a:es.toList.any (·.refKey)=false:=by
   rw[List.any_eq_false];intro y hy;obtain⟨z,t,om⟩:=hk y (VN.mp hy);simp[lO.refKey,om]
  have a' : ¬ es.toList.any (·.refKey)=true:=by rw[a];exact cL
  rw[ai a'];exact congrArg some e
variable{x C:Addr}
theorem tP.look(I:tP h x dx C mA):∃od,PySem.W.InstAt h x (sX C dx) C (some od)/\∀name,F6 name od=some (mA name) :=
 let ⟨od,ho,hl⟩:=Pb I.ns
 ⟨od,⟨I.obj,rfl,rfl,ho⟩,hl⟩
variable{v:aa}{prog:aq}{name:Str}
theorem Zmn{expr:Bool}(X:K.In s.heap)(I:tP s.heap x dx C mA)(hg:F' K C name=true)(hh:M8 K C=true)
  (ha:m_ K (.ref C) name=some none) (hv:mA name=some v) (pA:Xs v=true) (h:Q v { s with toks:=s.toks+1 }) :
  wpAny (model prog w) A (getAttr (.ref x) name expr) Q E s:=by
 obtain⟨od,J,hl⟩:=I.look;exact PySem.W.get_value X J (Nb hg).1 (PySem.W.findObj_own hh ha rfl (by rw[hl,hv])) pA h
variable{f:Addr}
theorem ZkK{pl:Sem Bool}{Q:aa×List aa->ag->Prop}(X:K.In s.heap)(I:tP s.heap x dx C mA)(hg:F' K C name=true)
  (hf:m_ K (.ref C) name=some (some (.ref f))) (ht:M' K (.ref f)=true) (hv:mA name=none) (h:Q (.ref f,[.ref x]) s) :
  wpAny (model prog w) A (getMethod (.ref x) name pl) Q E s:=by
 obtain⟨od,J,hl⟩:=I.look;exact PySem.W.method_fn X J (Nb hg).1 (Nb hg).2 hf (oY.mp ht) (by show(F6 name od).map (·.isSome)=some false;rw[hl,hv];rfl) h
theorem Znb{ns:List Str}{Q:Unit->ag->Prop}(X:K.In s.heap)(I:tP s.heap x dx C mA)
  (hs:m_ K (.ref C) "__setattr__" = some (some (.builtin "object.__setattr__"))) (hp:Xy K C=true) (ht:Nc K C name=some none) (hh:M8 K C=true)
  (hw:Nd mA ns) (hsz:ns.length<=sizeLine)
  (h:∀h',tP h' x dx C (λy=>if y=name then some v else mA y)->dJ dx s.heap h'->Q () { s with heap:=h',toks:=s.toks+2 }) :
  wpAny (model prog w) A (setAttr (.ref x) name v) Q E s:=by
 obtain⟨od,J,hl⟩:=I.look;refine PySem.W.set_plain X J hs (PySem.W.osa_open (s:={ s with toks:=s.toks+1 }) (r:=none) X J hp ht λb=>?_);obtain⟨cd,hc,cx⟩:=PySem.W.any_some hh;have hx:s.heap.get? x=some ⟨.ref C,some dx,.plain,#[]⟩:=I.obj;refine af (ah (af (af (B3 hx (af (ZCU (s:={ s with toks:=s.toks+1 }) (PySem.W.looks_clsIn X hc) ?_))))));rw[cx];refine ah (a:=some dx) (af (ah (af ?_)));refine wpAny_nsSet1 (s:={ s with toks:=s.toks+1 }) I.ns λh' xr qj=>?_;obtain⟨oD,esD,epD,hoD,hdD,pY⟩:=xr.count (ZCV name v hw);refine af (wpAny_lookBehind hoD (by rw[hdD];exact pastItsLine_dict (cz pY (by rw[bB];lia))) ?_);exact ah (h _ ⟨(qj.2 _ (fB I.ne)).trans I.obj,xr,I.ne⟩ qj)
variable{kw:List (Str×aa)}
theorem Zkz{R:nh->ag->Prop}{vs:List aa}(X:K.In s.heap)(hm:Xw K C=true)
  (hi:m_ K (.ref C) "__init__" = some (some (.ref f))) (hf:Xz K (.ref f)=some (.type "function"))
  (h:codeAny (model prog w) (A.under (.builtin "type.__call__" ⟨.ref C::vs,kw⟩)) (.call (.ref f) ⟨.ref (s.heap.objs.size+1)::vs,kw⟩) (PySem.W.InitBack (s.heap.objs.size+1) R)
   { s with heap:=(s.heap.push qI).push (sX C s.heap.objs.size) }) :
  codeAny (model prog w) A (.call (.ref C) ⟨vs,kw⟩) R s:=by
 obtain⟨hh,g,d,t,os⟩:=s;exact PySem.W.make_core (PySem.W.makes_of X hm) (PySem.W.looks_findIn X hi) (λself=>PySem.W.bind_fn X self hf) (.inl rfl) h
def eX(f:Str)(v:V):List (Str×V)->List (Str×V)
 | []=>[(f,v)]
 | (g,x)::r=>if g=f then(g,v)::r else(g,x)::eX f v r
theorem OF(f g:Str)(v:V):∀fs:List (Str×V),(eX f v fs).lookup g=if g=f then some v else fs.lookup g
 | []=>by
  show vC g [(f,v)]=_;by_cases h:g=f
  .have hb:(g == f)=true:=oY.mpr h;simp only[vC,hb,ao h]
  .have hb:(g == f)=false:=nj.mpr h;simp only[vC,hb,ai h]
 | (k,x)::r=>by
  have ih:=OF f g v r;rw[show eX f v ((k,x)::r)=(if k=f then(k,v)::r else(k,x)::eX f v r) from rfl]
  by_cases hk:k=f
  .rw[ao hk];by_cases h:g=k
   .have hb:(g == k)=true:=oY.mpr h;simp only[vC,hb,ao (h.trans hk)]
   .have hb:(g == k)=false:=nj.mpr h;simp only[vC,hb,ai (λe:g=f=>h (e.trans hk.symm))]
  .rw[ai hk];by_cases h:g=k
   .have hb:(g == k)=true:=oY.mpr h;simp only[vC,hb,ai (λe:g=f=>hk (h.symm.trans e))]
   .have hb:(g == k)=false:=nj.mpr h;simp only[vC,hb];exact ih
theorem Hv(f:Str)(v:V):∀fs:List (Str×V),f∈(eX f v fs).map (·.1)/\∀g,g∈fs.map (·.1)->g∈(eX f v fs).map (·.1)
 | []=>⟨by simp[eX],λg h=>by simp at h⟩
 | (k,x)::r=>by
  obtain⟨i1,i2⟩:=Hv f v r;rw[show eX f v ((k,x)::r)=(if k=f then(k,v)::r else(k,x)::eX f v r) from rfl]
  by_cases hk:k=f
  .rw[ao hk];subst hk;exact⟨by simp,λg h=>by simpa using h⟩
  .rw[ai hk];refine⟨?_,λg h=>?_⟩
   .rw[b8];exact bp _ i1
   .rw[b8] at h ⊢;rcases a8.mp h with e|e
    .exact a8.mpr (.inl e)
    .exact bp _ (i2 g e)
theorem OH(f:Str)(v:V):∀fs:List (Str×V),(eX f v fs).length<=fs.length+1
 | []=>by simp[eX]
 | (k,x)::r=>by
  have ih:=OH f v r;rw[show eX f v ((k,x)::r)=(if k=f then(k,v)::r else(k,x)::eX f v r) from rfl]
  by_cases hk:k=f
  .rw[ao hk,bB,bB];lia
  .rw[ai hk,bB,bB];lia
variable{o:Option aa}
theorem gh.some_of{v:V}(r:gh (some v) o):∃u,o=some u/\RelV v u:=by
 cases o with
 | none=>exact(show False from r).elim
 | some u=>exact⟨u,rfl,r⟩
theorem gh.none_of(r:gh none o):o=none:=by
 cases o with
 | none=>rfl
 | some u=>exact(show False from r).elim
theorem ZjJ{v:V}(r:RelV v u):Xs u=true:=by
 cases v with
 | aB=>cases (show u=bq from r);rfl
 | bl b=>cases (show u=g8 b from r);rfl
 | int i=>obtain⟨t,e⟩:=(show ∃t,u=eC i t from r);cases e;rfl
 | str x=>obtain⟨t,e⟩:=(show ∃t,u=ef x t from r);cases e;rfl
 | jB b=>obtain⟨t,e⟩:=(show ∃t,u=XN b t from r);cases e;rfl
 | uy b=>obtain⟨t,e⟩:=(show ∃t,u=Nk b t from r);cases e;rfl
 | ref a=>cases (show u=ar a from r);rfl
 | ty n=>cases (show u=eQ n from r);rfl
section
variable{P:aq}{w:ap}{H H':Hp}{h h':Heap}{a C dx:Addr}{fs vS:List (Str×V)}
theorem uc(aj:bD P w H h)(e:H a=some (.ins C dx fs)):∃mA,tP h a dx C mA/\(∀f,gh (fs.lookup f) (mA f))/\Nd mA (fs.map (·.1))/\fs.length<=1000/\H dx=some (.own a):=by
 obtain⟨d,z,ne,ob,mA,n,r,q⟩:=(show ZX P w H h a (.ins C dx fs) from aj a _ e);exact⟨mA,⟨ob,n,ne⟩,r,q,z,d⟩
end
structure iu(K:ay)(C:Addr):Prop where
 pg:F' K C Ni=true
 hd:M8 K C=true
 po:Xy K C=true
 sa:m_ K (.ref C) "__setattr__" = some (some (.builtin "object.__setattr__"))
theorem iu.get(c:iu K C)(f:Str):F' K C f=true:=c.pg
def iw(K:ay)(C:Addr)(f:Str):Prop:=m_ K (.ref C) f=some none
variable{f:Str}
theorem iw.ZBw(n:iw K C f):Nc K C f=some none:=by
 unfold Nc;rw[show m_ K (.ref C) f=some none from n];rfl
structure Meth(K:ay)(C:Addr)(m:Str)(f:Addr):Prop where
 at_:m_ K (.ref C) m=some (some (.ref f))
 fn:M' K (.ref f)=true
 kp:vJ K (.ref f)=true
section
variable{X:Cx}{ac:List (Addr×Obj)}{σ : St}{H:Hp}{s:ag}{a C dx:Addr}{fs:List (Str×V)}{f:Str}{v:V}{A:aC}{E:aa->ag->Prop}
variable{Q:aa->ag->Prop}
theorem Zh5{b:Bool}(I:Inv X ac σ H s)(e:H a=some (.ins C dx fs))(c:iu X.K C)(n:iw X.K C f)(l:fs.lookup f=some v)
  (h:∀u s',Inv X ac σ H s'->RelV v u->Q u s'):wpAny (model X.prog X.w) A (getAttr (.ref a) f b) Q E s:=by
 obtain⟨mA,O,r,_,_,_⟩:=uc I.aj e;obtain⟨u,hu,ru⟩:=gh.some_of (v:=v) (o:=mA f) (by rw[<- l];exact r f);exact Zmn I.bQ O (c.get f) c.hd n hu (ZjJ ru) (h u _ (I.tok _) ru)
theorem OY{m:Str}{g:Addr}{pl:Sem Bool}{Q:aa×List aa->ag->Prop}(I:Inv X ac σ H s)(e:H a=some (.ins C dx fs))(c:iu X.K C)(k:Meth X.K C m g)(l:fs.lookup m=none)
  (h:Q (.ref g,[.ref a]) s):wpAny (model X.prog X.w) A (getMethod (.ref a) m pl) Q E s:=by
 obtain⟨mA,O,r,_,_,_⟩:=uc I.aj e;have hn:mA m=none:=gh.none_of (by rw[<- l];exact r m);exact ZkK I.bQ O (c.get m) k.at_ k.fn hn h
theorem ZhN{y:V}{u:aa}{Q:Unit->ag->Prop}(I:Inv X ac σ H s)(e:H a=some (.ins C dx fs))(c:iu X.K C)(n:iw X.K C f)(hl:fs.length<1000)(ry:RelV y u)
  (h:∀s',Inv X ac σ (upd H a (.ins C dx (eX f y fs))) s'->Q () s'):wpAny (model X.prog X.w) A (setAttr (.ref a) f u) Q E s:=by
 obtain⟨mA,O,r,wi,_,ho⟩:=uc I.aj e;have hz:(fs.map (·.1)).length<=sizeLine:=by rw[aF,bu];lia
 refine Znb I.bQ O c.sa c.po n.ZBw c.hd wi hz λh' O' sb=>h _ ?_;have hd:∃o,h'.get? dx=some o:=let ⟨o,_,_,e',_⟩:=O'.ns;⟨o,e'⟩;refine I.write (x:=a) (e:=dx) (by rw[e];exact jo) (.inr ho) (λb q hb z=>(sb.2 b hb).trans z) hd ?_;refine⟨by rw[Zc O.ne];exact ho,?_,O.ne,O'.obj,_,O'.ns,λg=>?_,λg hg=>?_⟩
 .have:=OH f y fs;lia
 .show gh ((eX f y fs).lookup g) (if g=f then some u else mA g)
  rw[OF];by_cases q:g=f
  .rw[ao q,ao q];exact ry
  .rw[ai q,ai q];exact r g
 .by_cases q:g=f
  .rw[q];exact(Hv f y fs).1
  .refine(Hv f y fs).2 g (wi g λz=>hg ?_);show(if g=f then some u else mA g)=none
   rw[ai q];exact z
theorem Inv.made(I:Inv X ac σ H s):Inv X ac σ (upd (upd H s.heap.objs.size (.own (s.heap.objs.size+1))) (s.heap.objs.size+1) (.ins C s.heap.objs.size []))
  { s with heap:=(s.heap.push qI).push (sX C s.heap.objs.size) }:=by
 have e1:(s.heap.push qI).get? s.heap.objs.size=some qI:=bS s.heap rfl;have e2:((s.heap.push qI).push (sX C s.heap.objs.size)).get? (s.heap.objs.size+1)=some (sX C s.heap.objs.size):=by
  have:=bS (s.heap.push qI) (o:=sX C s.heap.objs.size) rfl
  rwa [iJ] at this
 have e3:(s.heap.push qI).Ns s.heap.objs.size (λ_=>none):=⟨qI,#[],_,e1,rfl,(λe he=>absurd he (by simp)),λ_=>rfl⟩;have I1:=I.laid (a:=s.heap.objs.size) (o:=.own (s.heap.objs.size+1)) (h':=s.heap.push qI) (t':=s.toks) (λb u q=>aH _ q) (aD _) ⟨_,e1⟩;refine I1.laid (a:=s.heap.objs.size+1) (o:=.ins C s.heap.objs.size []) (t':=s.toks) (λb u q=>aH _ q) (MP (iJ _ _)) ?_;have ne:s.heap.objs.size≠s.heap.objs.size+1:=bo (kG _);refine⟨by rw[Zc ne,Za],bG _,ne,e2,λ_=>none,(Heap.Ns1.of_empty e3).at λo q=>aH _ q,λ_=>jo,λy hy=>absurd rfl hy⟩
theorem ZmA{prog:aq}{w:ap}{env:Env}{e:Expr}{f:Str}{pos:Pos}{s:ag}(hb:attributeBase e f env (eval e env)=eval e env)
  (h:wpAny (model prog w) A (eval e env) (λo aZ=>wpAny (model prog w) A (getAttr o f true) Q E aZ) E s):wpAny (model prog w) A (eval (.Attribute e f pos) env) Q E s :=
 Attribute_any_ h (by rw[arm_eval_Attribute,hb])
end
def RZ(K:ay)(ta:TE)(f:Str):TE:=λσ H Q=>ta σ H λx H1=>∃a C dx fs v,x=.ref a/\H1 a=some (.ins C dx fs)/\iu K C/\iw K C f/\fs.lookup f=some v/\Q v H1
def Zpy(K:ay)(ta tv:TE)(f:Str):TS:=λD σ H=>tv σ H λy H1=>ta σ H1 λx H2=>∃a C dx fs,x=.ref a/\H2 a=some (.ins C dx fs)/\iu K C/\iw K C f/\fs.length<1000 /\
 D.nx σ (upd H2 a (.ins C dx (eX f y fs)))
theorem dX(he:PE X e ta)(hb:attributeBase e f X.env (eval e X.env)=eval e X.env):PE X (.Attribute e f pos) (RZ X.K ta f):=by
 intro ac s σ H Q I h;refine ZmA hb (aw (he ac s σ H _ I h) ?_);rintro u s1 ⟨x,H1,I1,rx,a,C,dx,fs,v,ex,ea,c,n,l,q⟩;subst ex;obtain rfl:u=ar a:=rx;exact Zh5 I1 ea c n l λu' s2 I2 ru=>⟨v,H1,I2,ru,q⟩
variable{o value:Expr}{tv:TE}
theorem nN(ha:PE X o ta)(hv:PE X value tv)(hs:swapsWith value (some (.Attribute o f pos')) pos.line X.env=pure false):PS X (.Assign [.Attribute o f pos'] value pos) (Zpy X.K ta tv f):=by
 intro ac s σ H D I h;refine plainObj_wpAny_Assign_Attribute (aw (hv ac s σ H _ I h) ?_) hs;rintro u s1 ⟨y,H1,I1,ry,q⟩;refine aw (ha ac s1 σ H1 _ I1 q) ?_;rintro ov s2 ⟨x,H2,I2,rx,a,C,dx,fs,ex,ea,c,n,l,q2⟩;subst ex;obtain rfl:ov=ar a:=rx;exact ZhN I2 ea c n l ry λs3 I3=>⟨σ,_,I3,q2⟩
inductive jQ(K:ay)(H:Hp):V->aa->Prop where
 | aB:jQ K H .aB (.type "NoneType")
 | bl (x:Bool):jQ K H (.bl x) (.type "bool")
 | int (i:Int):jQ K H (.int i) (.type "int")
 | str (x:Str):jQ K H (.str x) (.type "str")
 | uy (x:UInt64):jQ K H (.uy x) (.type "float")
 | lst {a:Addr} {xs:List V} (e:H a=some (.lst xs)):jQ K H (.ref a) (.type "list")
 | aO {a:Addr} {o:Obj} {xs:List V} (e:H a=some (.aO o (.lst xs))):jQ K H (.ref a) (.type "list")
 | tup {a:Addr} {xs:List V} (e:H a=some (.tup xs)):jQ K H (.ref a) (.type "tuple")
 | dK {a:Addr} {ae:List (Key×V)} (e:H a=some (.dK ae)):jQ K H (.ref a) (.type "dict")
 | dT {a:Addr} {ae:List (List Key×V)} (e:H a=some (.dT ae)):jQ K H (.ref a) (.type "dict")
 | ins {a C dx:Addr} {fs:List (Str×V)} (e:H a=some (.ins C dx fs)) (cl:iu K C) (ha:m_ K (.ref C) "__class__" = some (some (.builtin "object.__class__")))
   (hn:PySem.W.specialIn K (.builtin "object.__class__") "__get__" = some (some (.builtin "getset_descriptor.__get__"))) (EB:PySem.W.takesIn K (.builtin "object.__class__")=some true)
   (hm:sY K C (.type "object")=some true):jQ K H (.ref a) (.ref C)
variable{b:Bool}{c:aa}
theorem ZiP{x:V}{t:aa}(I:Inv X ac σ H s)(rx:RelV x u)(ty:jQ X.K H x t)(e:Xt X.K t c=some b)(h:∀tk,Q (.bool b) { s with toks:=tk }) :
  wpAny (model X.prog X.w) A (call (.builtin "isinstance") [u,c]) Q E s:=by
 cases ty with
 | aB=>cases (show u=bq from rx);exact ng PySem.W.kitx_none I.bQ jo e (λz=>nomatch z) h
 | bl y=>cases (show u=g8 y from rx);exact ng PySem.W.kitx_bool I.bQ jo e (λz=>nomatch z) h
 | int i=>obtain⟨t,q⟩:=(show ∃t,u=eC i t from rx);cases q;exact ng PySem.W.kitx_int I.bQ jo e (λz=>nomatch z) h
 | str y=>obtain⟨t,q⟩:=(show ∃t,u=ef y t from rx);cases q;exact ng PySem.W.kitx_str I.bQ jo e (λz=>nomatch z) h
 | uy y=>obtain⟨t,q⟩:=(show ∃t,u=Nk y t from rx);cases q;exact ng PySem.W.kitx_float I.bQ jo e (λz=>nomatch z) h
 | @lst a xs ea =>
  cases (show u=ar a from rx);obtain⟨_,_,n,_,h1⟩:=(show ZX X.prog X.w H s.heap a (.lst xs) from I.aj a _ ea);exact ng Xv I.bQ ⟨_,h1,rfl⟩ e (λz=>nomatch z) h
 | @aO a ob xs ea =>
  cases (show u=ar a from rx);obtain⟨_,_,_,n,_,h1⟩:=(show ZX X.prog X.w H s.heap a (.aO ob (.lst xs)) from I.aj a _ ea);exact ng Xv I.bQ ⟨_,h1,rfl⟩ e (λz=>nomatch z) h
 | @tup a xs ea =>
  cases (show u=ar a from rx);obtain⟨_,_,_,p⟩:=(show ZX X.prog X.w H s.heap a (.tup xs) from I.aj a _ ea);obtain⟨o,h1,h2,_⟩:=p;exact ng PySem.W.kitx_tuple I.bQ ⟨o,h1,h2⟩ e (λz=>nomatch z) h
 | @dK a ae ea =>
  cases (show u=ar a from rx);obtain⟨_,_,vs,_,p⟩:=(show ZX X.prog X.w H s.heap a (.dK ae) from I.aj a _ ea);obtain⟨o,es,ep,h1,h2,_⟩:=p;exact ng Xu I.bQ ⟨o,h1,h2.1⟩ e (λz=>nomatch z) h
 | @dT a ae ea =>
  cases (show u=ar a from rx);obtain⟨_,_,xs,_,o,es,ep,h1,h2,_⟩:=(show ZX X.prog X.w H s.heap a (.dT ae) from I.aj a _ ea);exact ng Xu I.bQ ⟨o,h1,h2.1⟩ e (λz=>nomatch z) h
 | @ins a C dx fs ea cl ha hn EB hm =>
  cases (show u=ar a from rx);obtain⟨mA,O,_⟩:=uc I.aj ea;obtain⟨od,J,_⟩:=O.look;exact ng (PySem.W.kitx_own (cl.get _) cl.hd ha hn EB hm) I.bQ J e (λz=>nomatch z) h
structure bK(k:Nat)(A:aC):Prop where
 hd:A.handled=none
 dp:A.depth+2*k+5<recursionLimit
 un:A.units+16*k+200<cLine
 gd:A.guards=some []
variable{j:Nat}
theorem bK.mono{k:Nat}(r:bK k A)(h:j<=k):bK j A:=⟨r.hd,by have:=r.dp;lia,by have:=r.un;lia,r.gd⟩
theorem bK.deeper{k:Nat}{A:aC}(r:bK (k+1) A)(env:Env):bK k (A.deeper env) :=
 ⟨r.hd,by have:=r.dp;show A.depth+1+2*k+5<_;lia,by have:=r.un;show A.units+3+16*k+200<_;lia,r.gd⟩
theorem bK.in1{k:Nat}{A:aC}(r:bK (k+1) A):bK k A.in1 :=
 ⟨r.hd,by have:=r.dp;show A.depth+2*k+5<_;lia,by have:=r.un;show A.units+1+16*k+200<_;lia,r.gd⟩
theorem Zin:(A.under (.builtin "type.__call__" ⟨.ref C::us,kw⟩)).depth=A.depth+1:=by
 first|rfl|simp[Fb,Code.weight,Code.isCreation,V7,Code.isCaller,V6,Ml,guardIds]
theorem Zim:(A.under (.builtin "type.__call__" ⟨.ref C::us,kw⟩)).units=A.units+1:=by
 first|rfl|simp[Fb,Code.cUnits,V6,Ml]
theorem ZgW:(A.under (.builtin "type.__call__" ⟨.ref C::us,kw⟩)).guards=A.guards:=by
 have h:(Code.builtin "type.__call__" ⟨.ref C::us,kw⟩).guards=[]:=by first|rfl|simp[Code.guards,V7,guardIds]
 unfold Fb;dsimp only;rw[h];cases A.guards <;> rfl
theorem bK.make{k:Nat}(r:bK (k+1) A)(C:Addr)(us:List aa)(kw:List (Str×aa)):bK k (A.under (.builtin "type.__call__" ⟨.ref C::us,kw⟩)) :=
 ⟨r.hd,by have:=r.dp;rw[Zin];lia,by have:=r.un;rw[Zim];lia,by rw[ZgW];exact r.gd⟩
theorem bK.depth{k:Nat}{A:aC}(r:bK k A):A.depth<recursionLimit:=by have:=r.dp;lia
def iz:TA:=λ_ H Q=>Q [] H
def nU(ta:TE)(tr:TA):TA:=λσ H Q=>ta σ H λx H1=>tr σ H1 λxs H2=>Q (x::xs) H2
theorem Ze:PA X [] iz:=λ_ _ _ _ H Q I h=>sH ⟨[],H,I,.nil,h⟩
variable{t:TA}
theorem Zb(ha:PE X e te)(hr:PA X es t)(hs:starEach (e::es) X.env=(false,eval e X.env)::starEach es X.env:=by rfl):PA X (e::es) (nU te t):=by
 intro pos ac s σ H Q I h;rw[hs];show wpAny _ _ (spliced ((false,eval e X.env)::backTo pos (starEach es X.env))) _ _ s;refine oJ (aw (ha ac s σ H _ I h) ?_);rintro u s1 ⟨x,H1,I1,r1,q1⟩;exact aw (hr pos ac s1 σ H1 _ I1 q1) λus s2 ⟨xs,H2,I2,r2,q2⟩=>⟨x::xs,H2,I2,.cons r1 r2,q2⟩
def zK(t:TA):TE:=λσ H Q=>t σ H λxs H1=>xs.length<=sizeLine/\∀p,H1 p=none->Q (.ref p) (upd H1 p (.tup xs))
def Zpx(t:TA):TE:=λσ H Q=>t σ H λxs H1=>xs.length<=sizeLine/\∀p,H1 p=none->Q (.ref p) (upd H1 p (.lst xs))
theorem dU{x1}(h:PA X es t):PE X (.Tuple es x1 pos) (zK t):=by
 intro ac s σ H Q I hq;refine wpAny_Tuple_spliced (aw (h pos ac s σ H _ I hq) ?_);rintro us s1 ⟨xs,H1,I1,r,z,q⟩;refine⟨by rw[<- r.length];exact z,?_⟩;have hf:H1 s1.heap.objs.size=none:=I1.aj.fresh (aD _);refine⟨.ref s1.heap.objs.size,upd H1 s1.heap.objs.size (.tup xs),I1.laid (t':=s1.toks) (λb u e=>aH _ e) (aD _) ?_,rfl,q _ hf⟩;exact⟨z,us,r,⟨_,bS _ rfl,rfl,_,rfl⟩⟩
theorem eU(h:PA X es t):PE X (.List es pos) (Zpx t):=by
 intro ac s σ H Q I hq;refine wpAny_List_spliced (aw (h pos ac s σ H _ I hq) ?_);rintro us s1 ⟨xs,H1,I1,r,z,q⟩;refine⟨by rw[<- r.length];exact z,?_⟩;have hf:H1 s1.heap.objs.size=none:=I1.aj.fresh (aD _);refine⟨.ref s1.heap.objs.size,upd H1 s1.heap.objs.size (.lst xs),I1.laid (t':=s1.toks) (λb u e=>aH _ e) (aD _) ?_,rfl,q _ hf⟩;exact⟨z,us,0,r,bS _ rfl⟩
abbrev Sp:=List V->Hp->VK->XK->Prop
abbrev kY:=List Env->Hp->ag->XK->aa->ag->Prop
structure tK(P:aq)(w:ap)(K:ay)(mg:Str->Option aa)(base:Heap)(A:aC)(outer:List Env)(s:ag)(H:Hp):Prop where
 frames:A.frames=some outer
 mod:Mod K mg base
 bs:∀b o,base.get? b=some o->s.heap.get? b=some o/\H b=none
 iA:base.objs.size<=s.heap.objs.size
 gL:s.heap.FunFrames base outer
 jX:∀b∈h_ outer,H b=none
 aj:bD P w H s.heap
 bare:oH s.gens
def CE(outer:List Env)(P:aq)(w:ap)(H:Hp)(s:ag)(Q:VK)(u:aa)(s':ag):Prop :=
 ∃v H',s'.os=s.os/\oH s'.gens/\Un (h_ outer) [] H H' s.heap s'.heap/\bD P w H' s'.heap/\RelV v u/\Q v H'
def CR(CX:kY)(outer:List Env)(P:aq)(w:ap)(H:Hp)(s:ag)(Q:VK)(E:XK)(r:nh)(s':ag):Prop :=
 match r with
 | .ok (.ret u)=>CE outer P w H s Q u s'
 | .ok _=>False
 | .error e=>CX outer H s E e s'
structure br(P:aq)(w:ap)(K:ay)(mg:Str->Option aa)(base:Heap)(CX:kY)(k:Nat)(f:Addr)(fd:dy)(ps:List Str)(sp:Sp):Prop where
 len:∀vs H Q E,sp vs H Q E->vs.length=ps.length
 run:∀(A:aC)(outer:List Env)(s:ag)(H:Hp)(args:Args)(us:List aa)(vs:List V)(Q:VK)(E:XK),bK k A->tK P w K mg base A outer s H->x6 s fd args (ps.zip us)->Vals vs us->sp vs H Q E ->
  codeAny (model P w) A (.call (.ref f) args) (CR CX outer P w H s Q E) s
variable{mg:Str->Option aa}{base:Heap}{outer:List Env}
theorem tK.make(e:tK P w K mg base A outer s H)(C:Addr)(us:List aa)(kw:List (Str×aa)) :
  tK P w K mg base (A.under (.builtin "type.__call__" ⟨.ref C::us,kw⟩)) outer s H:=⟨by first|exact e.frames|(simpa[Fb,Code.envs,Ml,pushEnvs] using e.frames),e.mod,e.bs,e.iA,e.gL,e.jX,e.aj,e.bare⟩
theorem Inv.Jq(I:Inv X ac σ H s):tK X.prog X.w X.K X.mg X.base X.A X.stack s H :=
 ⟨I.ok.frames,I.ok.mod,I.bs,cz I.ok.iA I.sz,I.stack,I.E6,I.aj,I.bare⟩
variable{s':ag}
theorem Inv.after{Q:VK}(I:Inv X ac σ H s)(h:CE X.stack X.prog X.w H s Q u s'):EP X ac σ Q u s':=by
 obtain⟨v,H',os,bare,un,aj,r,q⟩:=h;obtain⟨hh,g,d,t,Y9⟩:=s';obtain rfl:Y9=s.os:=os;exact⟨v,H',I.call (h':=hh) (g':=g) (d':=d) (t':=t) (ch:=[]) un aj bare (λb z=>absurd z (by simp)),r,q⟩
def RM(sp:Sp)(dvs:List V)(E:XK)(t:TA):TE:=λσ H Q=>t σ H λvs H1=>sp (vs++dvs) H1 Q E
def Dx(C:Addr)(m:Str)(sp:Sp)(dvs:List V)(E:XK)(ta:TE)(t:TA):TE:=λσ H Q=>ta σ H λx H1=>∃a dx fs,x=.ref a/\H1 a=some (.ins C dx fs)/\fs.lookup m=none /\
 t σ H1 λvs H2=>sp (x::(vs++dvs)) H2 Q E
def RQ(C:Addr)(sp:Sp)(dvs:List V)(E:XK)(t:TA):TE:=λσ H Q=>t σ H λvs H1=>∀x dx,H1 x=none->H1 dx=none->dx≠x ->
 sp (.ref x::(vs++dvs)) (upd (upd H1 dx (.own x)) x (.ins C dx [])) (λv H2=>v=.aB/\Q (.ref x) H2) E
def Binds(K:ay)(fd:dy)(ps:List Str)(ds:List aa):Prop :=
 ∀(s:ag)(us:List aa),K.In s.heap->(us++ds).length=ps.length->x6 s fd ⟨us,[]⟩ (ps.zip (us++ds))
variable{ps:List Str}
theorem Binds.all{fd:dy}(h:∀us:List aa,us.length=ps.length->bindArgs fd ⟨us,[]⟩=pure (ps.zip us)):Binds K fd ps []:=λs us _ hl=>by
 rw[gW] at hl ⊢;exact .of_eq (h us hl)
def ug(CX:kY)(X:Cx)(E:XK):Prop := ∀(ac:List (Addr×Obj))(σ : St)(H:Hp)(s:ag)(e:aa)(s':ag),Inv X ac σ H s->CX X.stack H s E e s'->X.xe e s'
section
variable{X:Cx}{CX:kY}{k:Nat}{f C:Addr}{fd:dy}{ps:List Str}{sp:Sp}{dvs:List V}{ds:List aa}{E:XK}{x m:Str}{p pos apos:Pos}{e o:Expr}{es:List Expr}{ta:TE}{t:TA}
variable{ac:List (Addr×Obj)}{σ:St}{us:List aa}{vs:List V}
theorem Dt{H:Hp}{s:ag}{Q:VK}(F:br X.prog X.w X.K X.mg X.base CX k f fd ps sp)(hr:bK k X.A)(hb:Binds X.K fd ps ds)(hd:Vals dvs ds)(hx:ug CX X E)
  (I:Inv X ac σ H s) (r:Vals vs us) (h:sp (vs++dvs) H Q E):wpAny (model X.prog X.w) X.A (call (.ref f) us) (EP X ac σ Q) X.xe s:=by
 have r2:Vals (vs++dvs) (us++ds):=r.append hd;have hl:(us++ds).length=ps.length:=by rw[<- r2.length];exact F.len _ _ _ _ h
 refine nk (qJ (F.run X.A X.stack s H ⟨us,[]⟩ (us++ds) (vs++dvs) Q E hr I.Jq (hb s us I.bQ hl) r2 h) λr s' hq=>?_);cases r with
 | error e=>exact hx ac σ H s e s' I hq
 | ok fl =>
  cases fl with
  | ret u=>exact I.after hq
  | next=>exact kC hq
  | brk=>exact kC hq
  | cont=>exact kC hq
theorem ZmV(F:br X.prog X.w X.K X.mg X.base CX k f fd ps sp)(hr:bK k X.A)(hg:Gl X x)(hm:X.mg x=some (.ref f))(hk:vJ X.K (.ref f)=true)(hb:Binds X.K fd ps ds)(hd:Vals dvs ds)(hx:ug CX X E)
  (ha:PA X (e::es) t) (dG:(x == ("__debug__" : Str))=false:=by decide) (he:starEach (e::es) X.env=(false,eval e X.env)::starEach es X.env:=by rfl) (aM:(backTo pos (starEach es X.env)).any (·.1)=false:=by rfl) :
  PE X (.Call (.Name x p) (e::es) [] pos) (RM sp dvs E t):=by
 intro ac s σ H Q I h;refine o9 (zm I hg hm ?_ dG);refine BM (h₀ := X.base) I.ok.mod.vc hk (aw (ha pos ac s σ H _ I h) ?_) he aM;rintro us s1 ⟨vs,H1,I1,r,q⟩;refine⟨I1.bQ,?_⟩;exact Dt F hr hb hd hx I1 r q
variable{pl:Sem Bool}
theorem Zmx(he:PE X o ta)(c:iu X.K C)(hm:Meth X.K C m f)(F:br X.prog X.w X.K X.mg X.base CX k f fd ps sp)(hr:bK k X.A)(hb:Binds X.K fd ps ds)(hd:Vals dvs ds)(hx:ug CX X E)(ha:PA X (e::es) t)
  (cC:starEach (e::es) X.env=(false,eval e X.env)::starEach es X.env:=by rfl) (aM:(backTo pos (starEach es X.env)).any (·.1)=false:=by rfl)
  (ht:eval (.Call (.Attribute o m apos) (e::es) [] pos) X.env=(do
   let ov <- eval o X.env
   standAt apos.atName
   let (f,first) <- holding [ov] (getMethod ov m pl)
   callWith pos f first (backTo pos (starEach (e::es) X.env)) (backToKw pos (keywordEach [] X.env))):=by rfl) :
  PE X (.Call (.Attribute o m apos) (e::es) [] pos) (Dx C m sp dvs E ta t):=by
 intro ac s σ H Q I h;refine Xx (pl:=pl) (aw (he ac s σ H _ I h) ?_) ht;rintro u s1 ⟨x,H1,I1,rx,a,dx,fs,ex,ea,l,q⟩;subst ex;obtain rfl:u=ar a:=rx;refine OY I1 ea c hm l ?_;refine BM (first:=[.ref a]) (h₀ := X.base) I.ok.mod.vc hm.kp (aw (ha pos ac s1 σ H1 _ I1 q) ?_) cC aM
 rintro us s2 ⟨vs,H2,I2,r,q2⟩;refine⟨I2.bQ,?_⟩;exact Dt (us:=.ref a::us) (vs:=.ref a::vs) F hr hb hd hx I2 (.cons rfl r) q2
theorem ZkR(he:PE X o ta)(c:iu X.K C)(hm:Meth X.K C m f)(F:br X.prog X.w X.K X.mg X.base CX k f fd ps sp)(hr:bK k X.A)(hb:Binds X.K fd ps ds)(hd:Vals dvs ds)(hx:ug CX X E)
  (ht:eval (.Call (.Attribute o m apos) [] [] pos) X.env=(do
   let ov <- eval o X.env
   standAt apos.atName
   let (f,first) <- holding [ov] (getMethod ov m pl)
   callWith pos f first (backTo pos (starEach [] X.env)) (backToKw pos (keywordEach [] X.env))):=by rfl) :
  PE X (.Call (.Attribute o m apos) [] [] pos) (Dx C m sp dvs E ta iz):=by
 intro ac s σ H Q I h;refine Xx (pl:=pl) (aw (he ac s σ H _ I h) ?_) ht;rintro u s1 ⟨x,H1,I1,rx,a,dx,fs,ex,ea,l,q⟩;subst ex;obtain rfl:u=ar a:=rx;refine OY I1 ea c hm l ?_;exact PySem.W.callWith_K0 (first:=[.ref a]) I1.bQ hm.kp (Dt (us:=[.ref a]) (vs:=[.ref a]) F hr hb hd hx I1 (.cons rfl .nil) q)
structure Mk(K:ay)(C f:Addr):Prop where
 makes:Xw K C=true
 init:m_ K (.ref C) "__init__" = some (some (.ref f))
 fn:M' K (.ref f)=true
 kp:vJ K (.ref C)=true
theorem ZlA{H:Hp}{s:ag}{Q:VK}(M:Mk X.K C f)(F:br X.prog X.w X.K X.mg X.base CX k f fd ps sp)(hr:bK (k+1) X.A)(hb:Binds X.K fd ps ds)(hd:Vals dvs ds)
  (hx:ug CX X E) (I:Inv X ac σ H s) (r:Vals vs us)
  (h:∀x dx,H x=none->H dx=none->dx≠x->sp (.ref x::(vs++dvs)) (upd (upd H dx (.own x)) x (.ins C dx [])) (λv H2=>v=.aB/\Q (.ref x) H2) E) :
  wpAny (model X.prog X.w) X.A (call (.ref C) us) (EP X ac σ Q) X.xe s:=by
 have hq:=h (s.heap.objs.size+1) s.heap.objs.size (I.aj.fresh (qF _)) (I.aj.fresh (aD _)) (bo (kG _));have I2:=Inv.made (C:=C) I;have r2:Vals (V.ref (s.heap.objs.size+1)::(vs++dvs)) (ar (s.heap.objs.size+1)::(us++ds)):=.cons rfl (r.append hd);have hl:(ar (s.heap.objs.size+1)::us++ds).length=ps.length:=by
  have e:=r2.length;rw[F.len _ _ _ _ hq] at e;exact e.symm
 refine nk (Zkz (f:=f) I.bQ M.makes M.init (oY.mp M.fn) (qJ (F.run _ X.stack _ _ ⟨ar (s.heap.objs.size+1)::us,[]⟩ (ar (s.heap.objs.size+1)::(us++ds)) _ _ E (hr.make C us [])
  (I2.Jq.make C us []) (hb _ (ar (s.heap.objs.size+1)::us) I2.bQ hl) r2 hq) λr s' bX=>?_))
 cases r with
 | error e=>exact hx ac σ _ _ e s' I2 bX
 | ok fl =>
  cases fl with
  | ret u =>
   obtain⟨v,H',I3,rv,ev,q3⟩:=I2.after bX;subst ev;exact⟨rv,⟨V.ref (s.heap.objs.size+1),H',I3,rfl,q3⟩⟩
  | next=>exact kC bX
  | brk=>exact kC bX
  | cont=>exact kC bX
theorem Zmy(M:Mk X.K C f)(F:br X.prog X.w X.K X.mg X.base CX k f fd ps sp)(hr:bK (k+1) X.A)(hg:Gl X x)(hm:X.mg x=some (.ref C))(hb:Binds X.K fd ps ds)(hd:Vals dvs ds)(hx:ug CX X E)
  (ha:PA X (e::es) t) (dG:(x == ("__debug__" : Str))=false:=by decide) (he:starEach (e::es) X.env=(false,eval e X.env)::starEach es X.env:=by rfl) (aM:(backTo pos (starEach es X.env)).any (·.1)=false:=by rfl) :
  PE X (.Call (.Name x p) (e::es) [] pos) (RQ C sp dvs E t):=by
 intro ac s σ H Q I h;refine o9 (zm I hg hm ?_ dG);refine BM (h₀ := X.base) I.ok.mod.vc M.kp (aw (ha pos ac s σ H _ I h) ?_) he aM;rintro us s1 ⟨vs,H1,I1,r,q⟩;refine⟨I1.bQ,?_⟩;exact ZlA M F hr hb hd hx I1 r q
end
def PK(X:Cx)(AY:List sL)(t:TA):Prop :=
 ∀(pos:Pos)(ac:List (Addr×Obj))(s:ag)(σ : St)(H:Hp)(Q:List V->Hp->Prop),Inv X ac σ H s->t σ H Q->wpAny (model X.prog X.w) X.A (evalAll ((backToKw pos (keywordEach AY X.env)).map (·.2))) (AP X ac σ Q) X.xe s
section
variable{X:Cx}{CX:kY}{k:Nat}{f C:Addr}{fd:dy}{ps ks:List Str}{sp:Sp}{E:XK}{x m:Str}{p pos apos ZAa:Pos}{e o:Expr}{es:List Expr}{AY:List sL}{te ta:TE}{t tk:TA}{nm:Option Str}
theorem Znv:PK X [] iz:=λ_ _ _ _ H Q I h=>wpAny_evalAll_nil ⟨[],H,I,.nil,h⟩
theorem Zms(ha:PE X e te)(hr:PK X AY t):PK X (⟨nm,e,ZAa⟩::AY) (nU te t):=by
 intro pos ac s σ H Q I h;show wpAny _ _ (evalAll ((do let v <- eval e X.env;standAt pos;pure v)::(backToKw pos (keywordEach AY X.env)).map (·.2))) _ _ s;refine wpAny_evalAll_cons (af (aw (ha ac s σ H _ I h) ?_));rintro u s1 ⟨x,H1,I1,r1,q1⟩;refine af (vR (ah ?_));exact aw (hr pos ac s1 σ H1 _ I1 q1) λus s2 ⟨xs,H2,I2,r2,q2⟩=>⟨x::xs,H2,I2,.cons r1 r2,q2⟩
variable{g:List aa->List aa->List aa}{gV:List V->List V->List V}
end
structure cZ(N P:List Str)(sc:cH):Prop where
 kind:sc.kind=.function
 co:sc.isCoroutine=false
 gen:sc.isGenerator=false
 nd:N.Nodup
 pre:N.take P.length=P
 sr:∀x∈P,sc.names.lookup x=some .local\/sc.names.lookup x=some .cell
 ue:∀y∈sc.names,y.2 ≠ .free
theorem PJ{kindOf:Str->Option yl}{x:Str}:∀{binds:List (Str×aa)}{m:Str->Option aa},(∀v,(x,v)∉binds)->bindL kindOf binds m x=m x
 | [],_,_=>rfl
 | (n,v)::r,m,h=>by
  unfold bindL;rw[PJ λw hw=>h w (bp _ hw)]
  split
  .have:x≠n:=by rintro rfl;exact h v bw
   simp[this]
  .rfl
theorem PF{kindOf:Str->Option yl}{x:Str}:∀{binds:List (Str×aa)}{m:Str->Option aa},(∀v,(x,v)∉binds)->bindC kindOf binds m x=m x
 | [],_,_=>rfl
 | (n,v)::r,m,h=>by
  unfold bindC;rw[PF λw hw=>h w (bp _ hw)]
  split
  .rfl
  .have:x≠n:=by rintro rfl;exact h v bw
   simp[this]
theorem Pr{kindOf:Str->Option yl}{x:Str}{v:aa}:∀{P:List Str}{vs:List aa}{i:Nat}{m:Str->Option aa},P.Nodup->P[i]?= some x->vs[i]?= some v->kindOf x=some .local ->
  bindL kindOf (P.zip vs) m x=some v
 | [],_,_,_,_,h,_,_=>by simp at h
 | _::_,[],_,_,_,_,h,_=>by simp at h
 | p::P,w::vs,0,m,nd,h1,h2,hk=>by
  simp at h1 h2;subst h1;subst h2;show bindL kindOf ((p,w)::P.zip vs) m p=_;unfold bindL;rw[PJ λv hv=>(gY.mp nd).1 (ML hv).1,ao hk];simp
 | p::P,w::vs,i+1,m,nd,h1,h2,hk=>by
  show bindL kindOf ((p,w)::P.zip vs) m x=_;unfold bindL;exact Pr (i:=i) (gY.mp nd).2 (by simpa using h1) (by simpa using h2) hk
theorem PU{kindOf:Str->Option yl}{x:Str}{v:aa}:∀{P:List Str}{vs:List aa}{i:Nat}{m:Str->Option aa},P.Nodup->P[i]?= some x->vs[i]?= some v->kindOf x≠some .local ->
  bindC kindOf (P.zip vs) m x=some v
 | [],_,_,_,_,h,_,_=>by simp at h
 | _::_,[],_,_,_,_,h,_=>by simp at h
 | p::P,w::vs,0,m,nd,h1,h2,hk=>by
  simp at h1 h2;subst h1;subst h2;show bindC kindOf ((p,w)::P.zip vs) m p=_;unfold bindC;rw[PF λv hv=>(gY.mp nd).1 (ML hv).1,ai hk];simp
 | p::P,w::vs,i+1,m,nd,h1,h2,hk=>by
  show bindC kindOf ((p,w)::P.zip vs) m x=_;unfold bindC;exact PU (i:=i) (gY.mp nd).2 (by simpa using h1) (by simpa using h2) hk
def start(N:List Str)(vs:List V):St:=vs.map some++FH (N.length-vs.length) none
def nW(CX:kY)(P:aq)(w:ap)(K:ay)(mg:Str->Option aa)(base:Heap)(N:List Str)(qual:Str)(scope:cH)(f:Addr)(cd:aa)(A:aC)(outer:List Env)(s:ag)(H:Hp)(E:XK):Cx where
 prog:=P
 w:=w
 K:=K
 mg:=mg
 base:=base
 A:=A.deeper (envOfC qual scope s.heap.objs.size f cd)
 N:=N
 dr := s
 jN := H
 env:=envOfC qual scope s.heap.objs.size f cd
 outer:=outer
 stack:=envOfC qual scope s.heap.objs.size f cd::outer
 ex:=[]
 calm:=true
 fn:=λ_=>true
 pn:=[]
 xe:=λe s'=>wpAny (model P w) (A.deeper (envOfC qual scope s.heap.objs.size f cd)) (leaving (envOfC qual scope s.heap.objs.size f cd) e) (λ_ GL=>CX outer H s E e GL) (λe' GL=>CX outer H s E e' GL) s'
theorem Qm{sc:cH}{x:Str}(h:sc.names.lookup x=some .cell):∃c,(cellsFrom n sc.names []).lookup x=some c:=by
 have q:=Xr sc.names n [] (.inl h);exact BI.mp q
variable{f:Addr}{CX:kY}{N:List Str}{qual:Str}{scope:cH}
theorem ZjQ{cd:aa}{s1:ag}{E:XK}{vs:List V}
  (S:cZ N ps scope) (hd:A.handled=none) (e0:tK P w K mg base A outer s H) (hl:vs.length=ps.length) (r:Vals vs us)
  (x:InCallC s s.heap.objs.size (bindL (envOfC qual scope s.heap.objs.size f cd).kindOf (ps.zip us) λ_=>none) (cellsFrom (s.heap.objs.size+1) scope.names []) (bindC (envOfC qual scope s.heap.objs.size f cd).kindOf (ps.zip us) λ_=>none) s1) :
  Inv (nW CX P w K mg base N qual scope f cd A outer s H E) [] (start N vs) H s1:=by
 have aM:ps.length<=N.length:=by have:=congrArg oU S.pre;rw[gX] at this;lia
 obtain⟨h1,tk,rfl,hk⟩:=x.done;have LB:∀b:Addr,b∉(nW CX P w K mg base N qual scope f cd A outer s H E).ex:=λb z=>absurd (show b∈([]:List Addr) from z) (by simp);refine⟨⟨e0.mod,S.kind,rfl,rfl,aD _,λy z c h1 h2=>?_,λy hy=>?_,λy c _ h=>?_,λ_=>hd,VI e0.frames,.inr ⟨rfl,rfl⟩,λb z=>absurd z (LB b),e0.bs,e0.iA,λb _ _=>LB b,λb z=>absurd z (LB b),e0.gL,e0.jX⟩,
  rfl,e0.bare,Un.kept hk,⟨_,x.toInCall.ns,λi y v h1 h2 h3=>?_⟩,λy c h=>⟨_,x.cell y c h⟩,e0.aj.fresh (aD _),λy c h=>?_,λp hp=>absurd (show p∈([]:List (Addr×Obj)) from hp) (by simp),e0.aj.kept hk,?_⟩
 .exact name_of_addr x.apart (vK h1) (vK h2)
 .have hy:scope.names.lookup y=some .cell\/scope.names.lookup y=some .free:=hy;rcases hy with hy|hy
  .exact Qm hy
  .exact absurd rfl (S.ue _ (vK hy))
 .exact ji (x.above y c (vK h))
 .have hi:i<vs.length:=by
   unfold start at h2;by_cases hi:i<vs.length
   .exact hi
   .rw[Bx (by simpa using hi)] at h2;rw[WG] at h2
    split at h2 <;> cases h2
  have ha:vs[i]?= some v:=by
   unfold start at h2;rw[FA (by simpa using hi),bM] at h2;cases e:vs[i]? with
   | none=>rw[e] at h2;cases h2
   | some a=>rw[e] at h2;cases h2;rfl
  obtain⟨u,hu,rv⟩:=r.get ha;have hp:ps[i]?= some y:=by
   rw[<- S.pre,By (by lia)];exact h1
  have xK:ps.Nodup:=by rw[<- S.pre];exact S.nd.sublist (WT _ _)
  refine⟨u,rv,?_⟩;rcases S.sr y (bW hp) with k|k
  .exact .inl ⟨k,Pr xK hp hu k⟩
  .obtain⟨c,e⟩:=Qm (n:=s.heap.objs.size+1) k;refine .inr ⟨.inl k,c,e,?_⟩;have q:=x.cell y c e;rw[PU xK hp hu (by show scope.names.lookup y≠_;rw[k];decide)] at q;exact q
 .exact e0.aj.fresh (ji (x.above y c (vK h)))
 .unfold start;show _=N.length;rw[cw,aF,BB];lia
theorem IT{k:Nat}{params:vp}{dV kV doc pm bg ct oc:aa}{an od:Option Addr}
  {oy:Array (Option aa)}  {sp:Sp} (lk:K.lookup f=some ⟨oc,od,.func (yr name qual params body scope dV kV doc pm an bg ct),oy⟩) (fU:M7 K bg qual=true) (S:cZ N ps scope)
  (len:∀vs H Q E,sp vs H Q E->vs.length=ps.length)
  (pX:∀(A:aC)(outer:List Env)(s:ag)(H:Hp)(vs:List V)(Q:VK)(E:XK),bK k (A.deeper (envOfC qual scope s.heap.objs.size f bg))->sp vs H Q E ->
   ∃t,c8 (nW CX P w K mg base N qual scope f bg A outer s H E) body t/\t { nx:=λ_ H'=>Q .aB H',rt:=Q } (start N vs) H) :
  br P w K mg base CX (k+1) f (yr name qual params body scope dV kV doc pm an bg ct) ps sp:=by
 refine⟨len,λA outer s H args us vs Q E hr e0 hb r jD=>?_⟩;have hl:=len _ _ _ _ jD;have KX:K.In s.heap:=e0.mod.vc.keeps λb o e=>(e0.bs b o e).1;have lim:s.heap.NoLimit:=e0.mod.nolimit.keeps λb o e=>(e0.bs b o e).1;have ZyM:∀y∈ps.zip us,scope.names.lookup y.1=some .local\/(scope.names.lookup y.1=some .cell/\((cellsFrom (s.heap.objs.size+1) scope.names []).lookup y.1).isSome=true):=λ⟨n,v⟩ hy=>by
  rcases S.sr n (ML hy).1 with q|q
  .exact .inl q
  .exact .inr ⟨q,Xr _ _ _ (.inl q)⟩
 refine codeAny_call_function hr.depth (KX _ _ lk) rfl S.co S.gen rfl (PySem.W.codeRec_of KX fU) (hb _ _ _ _ ?_);refine wpAny_newFunctionEnv_cells S.kind ZyM λenv he s1 x=>?_;subst he;refine⟨lim.keeps x.toInCall.keep,codeAny_func ?_⟩;obtain⟨t,ht,hq⟩:=pX A outer s H vs Q E (hr.deeper _) jD;have I:Inv (nW CX P w K mg base N qual scope f bg A outer s H E) [] (start N vs) H s1:=ZjQ S hr.hd e0 hl r x;refine cM (ht [] s1 (start N vs) H _ I hq) (λfl s' hs=>?_) λe s' hs=>hs;have fin:∀{av:St}{H':Hp}{v:V}{u:aa},Inv (nW CX P w K mg base N qual scope f bg A outer s H E) [] av H' s'->RelV v u->Q v H'->CE outer P w H s Q u s' :=
  λ{av H' v u} J rv q=>⟨v,H',J.os,J.bare,J.base,J.aj,rv,q⟩
 cases fl with
 | ret u =>
  obtain⟨v,av,H',J,rv,q⟩:=hs;exact fin J rv q
 | next =>
  obtain⟨av,H',J,q⟩:=hs;exact fin (v:=V.aB) (u:=bq) J rfl q
 | brk =>
  obtain⟨_,_,_,q⟩:=hs;exact kC q
 | cont =>
  obtain⟨_,_,_,q⟩:=hs;exact kC q
section
variable{X:Cx}{x:Str}{p pos:Pos}{e:Expr}{es:List Expr}{t:TA}{id T:String}{r:List V->Hp->VK->Prop}
def Vq(r:List V->Hp->VK->Prop)(t:TA):TE:=λσ H Q=>t σ H λvs H1=>r vs H1 Q
theorem Zu(hc:gH X (.builtin id) r)(hg:Gl X x)(hm:X.mg x=none)(hv:bootBuiltins x=some (.builtin id))(ha:PA X (e::es) t)(hn:x ≠ "__name__" := by decide) (dG:(x == ("__debug__" : Str))=false:=by decide)
  (he:starEach (e::es) X.env=(false,eval e X.env)::starEach es X.env:=by rfl) (aM:(backTo pos (starEach es X.env)).any (·.1)=false:=by rfl):PE X (.Call (.Name x p) (e::es) [] pos) (Vq r t):=by
 intro ac s σ H Q I h;refine o9 (nQ I hg hm hv ?_ hn dG);exact Xa (aw (ha pos ac s σ H _ I h) λus s1 ⟨vs,H1,I1,r1,q1⟩=>hc ac s1 σ H1 vs us Q I1 r1 q1) he aM
theorem lq(hc:gH X (.type T) r)(hg:Gl X x)(hm:X.mg x=none)(hv:bootBuiltins x=some (.type T))(ha:PA X (e::es) t)(hn:x ≠ "__name__" := by decide) (dG:(x == ("__debug__" : Str))=false:=by decide)
  (he:starEach (e::es) X.env=(false,eval e X.env)::starEach es X.env:=by rfl) (aM:(backTo pos (starEach es X.env)).any (·.1)=false:=by rfl):PE X (.Call (.Name x p) (e::es) [] pos) (Vq r t):=by
 intro ac s σ H Q I h;refine o9 (nQ I hg hm hv ?_ hn dG);exact BJ (aw (ha pos ac s σ H _ I h) λus s1 ⟨vs,H1,I1,r1,q1⟩=>hc ac s1 σ H1 vs us Q I1 r1 q1) he aM
end
def sh(n:Nat)(i:Int):Option Nat:=if 0<=i then(if i<n then some i.toNat else none) else if -(n:Int)<=i then some (i+n).toNat else none
def my{α : Type}(xs:List α)(i:Int):Option α := (sh xs.length i).bind λj=>xs[j]?
theorem Zm3(h:sh n i=some j):seqIndex? i n=some j/\j<n /\ -(n:Int)<=i/\i<n:=by
 unfold sh at h;by_cases h0:0<=i
 .rw[ao h0] at h;by_cases h1:i<n
  .rw[ao h1] at h;have e:i.toNat=j:=dg h;exact⟨by rw[Yi h0 h1,e],by lia,by lia,h1⟩
  .rw[ai h1] at h;cases h
 .rw[ai h0] at h;by_cases h1 : -(n:Int)<=i
  .rw[ao h1] at h;have e:(i+n).toNat=j:=dg h;exact⟨by rw[seqIndex_neg (by lia) h1,e],by lia,h1,by lia⟩
  .rw[ai h1] at h;cases h
theorem Iz{xs:List α}{v : α}(h:my xs i=some v):∃j,seqIndex? i xs.length=some j/\xs[j]?= some v/\j<xs.length /\ -(xs.length:Int)<=i/\i<xs.length:=by
 unfold my at h;cases e:sh xs.length i with
 | none=>rw[e] at h;cases h
 | some j =>
  rw[e] at h;obtain⟨h1,h2,h3,h4⟩:=Zm3 e;exact⟨j,h1,h,h2,h3,h4⟩
theorem Ip{xs:List α}{v : α}(h:xs[j]?= some v):my xs (j:Int)=some v:=by
 have hj:j<xs.length:=(de.mp h).1;have e:sh xs.length (j:Int)=some j:=by
  unfold sh;rw[ao (by lia),ao (by lia)];simp
 unfold my;rw[e];exact h
theorem Zlx(xs:List α)(v : α):my (xs ++ [v]) (-1)=some v:=by
 have hl:(xs ++ [v]).length=xs.length+1:=by simp
 have e:sh (xs ++ [v]).length (-1)=some xs.length:=by
  unfold sh;rw[hl,ai (by decide),ao (by lia)]
  congr 1
  lia
 unfold my;rw[e];show(xs ++ [v])[xs.length]?= some v;simp
def Zm7(b:Expr):Prop := ∀o i,subscripted b false o i=operate [o,i] (getItem o i)
def yP(X:Cx)(r:R2):Prop :=
 ∀(value slice:Expr)(ac:List (Addr×Obj))(s:ag)(σ : St)(H:Hp)(x y:V)(v u:aa)(Q:VK),Inv X ac σ H s->RelV x v->RelV y u->r x y H Q ->
  subscripted slice false v u=operate [v,u] (getItem v u)->wpAny (model X.prog X.w) X.A (subscriptTail value slice v u) (EP X ac σ Q) X.xe s
def G4(X:Cx)(id:String)(r:V->List V->Hp->VK->Prop):Prop :=
 ∀(ac:List (Addr×Obj))(s:ag)(σ : St)(H:Hp)(x:V)(xs:List V)(v:aa)(us:List aa)(Q:VK),Inv X ac σ H s->RelV x v->Vals xs us->r x xs H Q ->
  wpAny (model X.prog X.w) X.A (call (.builtin id) (v::us)) (EP X ac σ Q) X.xe s
section
variable{X:Cx}{a b:Expr}{ta tb:TE}{pos:Pos}
theorem ZR{r:R2}(hr:yP X r)(ha:PE X a ta)(hb:PE X b tb)(hs:Zm7 b):PE X (.Subscript a b pos) (xS r ta tb):=by
 intro ac s σ H Q I h;exact Subscript_ (I_ ha hb I h λv u s2 x y H2 I2 rx ry q=>hr a b ac s2 σ H2 x y v u Q I2 rx ry q (hs _ _))
def Zpw(K:ay):R2:=λx y H Q=>∃p xs i v,x=.ref p/\y=.int i/\au K H p xs/\my xs i=some v/\Q v H
def Ja(K:ay):R2:=λx y H Q=>∃p xs i v,x=.ref p/\y=.int i/\az K H p xs/\my xs i=some v/\Q v H
def ZpM:R2:=λx y H Q=>∃z i c,x=.str z/\y=.int i/\z.length<=sizeLine/\my z.cps.toList i=some c/\Q (.str ⟨#[c]⟩) H
theorem Io:yP X (Zpw X.K):=by
 intro value slice ac s σ H x y v u Q I rx ry h hs;obtain⟨p,xs,i,z,rfl,rfl,hq,he,q⟩:=h;cases rx;obtain⟨t,rfl⟩:=ry;obtain⟨its,r,pl,hz⟩:=I.list hq;obtain⟨j,h1,h2,h3,h4,h5⟩:=Iz he;obtain⟨w,ew,lU⟩:=r.get h2;have hl:=r.length;have hn:=wH;have fin:EP X ac σ Q w s:=⟨z,H,I,lU,q⟩;by_cases h0:0<=i
 .have hj:i.toNat=j:=by
   rw[Yi h0 h5] at h1;exact dg h1
  exact item_listR pl.isList h0 (by lia) (by rw[hj];simpa using ew) fin hs
 .have hj:(i+(its.toArray.size:Int)).toNat=j:=by
   rw[seqIndex_neg (by lia) h4] at h1;rw[cO,<- hl];exact dg h1
  exact Yk (x:=w) pl.isList.typeIs slot_list_getitem.lookup
   (wpAny_getItem_list_neg (Q:=λr s'=>r=w/\EP X ac σ Q r s') pl.isList (by lia) (by rw[cO] <;> lia) (by lia) (by rw[hj];simpa using ew) ⟨rfl,fin⟩) hs
theorem ZG:yP X (Ja X.K):=by
 intro value slice ac s σ H x y v u Q I rx ry h hs;obtain⟨p,xs,i,z,rfl,rfl,hq,he,q⟩:=h;cases rx;obtain⟨t,rfl⟩:=ry;obtain⟨its,r,pl,hz⟩:=I.tuple hq;obtain⟨j,h1,h2,h3,h4,h5⟩:=Iz he;obtain⟨w,ew,lU⟩:=r.get h2;have hl:=r.length;have hn:=wH;have fin:EP X ac σ Q w s:=⟨z,H,I,lU,q⟩;exact Yk (x:=w) pl.typeIs slot_tuple_getitem.lookup
  (getItem_tuple (j:=j) (Q:=λr s'=>r=w/\EP X ac σ Q r s') pl (by lia) (by lia) (by rw[cO,<- hl];exact h1) (by simpa using ew) ⟨rfl,fin⟩) hs
theorem Znp:yP X ZpM:=by
 intro value slice ac s σ H x y v u Q I rx ry h hs;obtain⟨z,i,c,rfl,rfl,hz,he,q⟩:=h;obtain⟨t,rfl⟩:=rx;obtain⟨t',rfl⟩:=ry;obtain⟨j,h1,h2,h3,h4,h5⟩:=Iz he;have hl:z.cps.toList.length=z.length:=by simp[Str.length]
 rw[hl] at h1 h4 h5;have hn:=wH;exact tail_any (typeIs_str s z t) slot_str_getitem.lookup (getItem_str (c:=c) (by
  have e1:decide (i < -(2 ^ 63:Int))=false:=bt (by lia);have e2:decide (i>=2 ^ 63)=false:=bt (by lia);rw[e1,e2,VV]) (by rw[h1];simpa using h2) ⟨.str ⟨#[c]⟩,H,I.tok _,⟨_,rfl⟩,q⟩) hs
def pM:V->Bool
 | .aB=>true
 | .bl _=>true
 | .int _=>true
 | .str _=>true
 | _=>false
def n9:V->V->Bool
 | .aB,.aB=>true
 | .bl a,.bl b=>a == b
 | .bl a,.int b=>(if a then 1 else 0) == b
 | .int a,.bl b=>a == (if b then 1 else 0)
 | .int a,.int b=>a == b
 | .str a,.str b=>a == b
 | _,_=>false
variable{x:V}
theorem Znq{A:aC}{s:ag}{y:V}{u v:aa}(ry:RelV y u)(rx:RelV x v)(fy:pM y=true)(fx:pM x=true):XA A s u v (n9 y x):=by
 cases y with
 | aB =>
  cases ry;cases x with
  | aB=>cases rx;exact ZC6 _
  | bl b=>cases rx;exact ZC3 b
  | int b=>obtain⟨t,rfl⟩:=rx;exact ZC4 b t
  | str b=>obtain⟨t,rfl⟩:=rx;exact ZC5 b t
  | _=>exact absurd (show false=true from fx) cL
 | bl a =>
  cases ry;cases x with
  | aB=>cases rx;exact ZCY a
  | bl b=>cases rx;exact ZCW a b
  | int b=>obtain⟨t,rfl⟩:=rx;exact ZCX a b t
  | str b=>obtain⟨t,rfl⟩:=rx;exact ZCZ a b t
  | _=>exact absurd (show false=true from fx) cL
 | int a =>
  obtain⟨t',rfl⟩:=ry;cases x with
  | aB=>cases rx;exact ZC2 a t'
  | bl b=>cases rx;exact ZC0 a t' b
  | int b=>obtain⟨t,rfl⟩:=rx;exact ZC1 a t' b t
  | str b=>obtain⟨t,rfl⟩:=rx;exact XD a t' b t
  | _=>exact absurd (show false=true from fx) cL
 | str a =>
  obtain⟨t',rfl⟩:=ry;cases x with
  | aB=>cases rx;exact ZC8 a t'
  | bl b=>cases rx;exact ZC7 a t' b
  | int b=>obtain⟨t,rfl⟩:=rx;exact XE a t' b t
  | str b=>obtain⟨t,rfl⟩:=rx;exact ZC9 a t' b t
  | _=>exact absurd (show false=true from fx) cL
 | _=>exact absurd (show false=true from fy) cL
def pS(x:V)(u:aa):Bool:=match u with
 | .none=>n9 .aB x
 | .bool b=>n9 (.bl b) x
 | .int i _=>n9 (.int i) x
 | .str z _=>n9 (.str z) x
 | _=>false
theorem RH{y:V}{u:aa}(r:RelV y u)(f:pM y=true):pS x u=n9 y x:=by
 cases y with
 | aB=>cases r;rfl
 | bl b=>cases r;rfl
 | int i=>obtain⟨t,rfl⟩:=r;rfl
 | str z=>obtain⟨t,rfl⟩:=r;rfl
 | _=>exact absurd (show false=true from f) cL
theorem Im{x:V}:∀{xs:List V}{us:List aa},Vals xs us->xs.all pM=true->us.any (pS x)=xs.any λy=>n9 y x
 | _,_,.nil,_=>rfl
 | y::xs,u::us,.cons r t,f=>by
  rw[Wv,gA] at f;rw[yb,yb,RH r f.1,Im t f.2]
theorem HK{A:aC}{s:ag}{x:V}{v:aa}(rx:RelV x v)(fx:pM x=true):∀{xs:List V}{us:List aa},Vals xs us->xs.all pM=true->∀u∈us,XA A s u v (pS x u)
 | _,_,.nil,_=>λu hu=>by cases hu
 | y::xs,u::us,.cons r t,f=>λu' hu=>by
  rw[Wv,gA] at f;rcases a8.mp hu with rfl|hu
  .rw[RH r f.1];exact Znq r rx f.1 fx
  .exact HK rx fx t f.2 u' hu
def EH(x:V)(xs:List V):Bool:=xs.any λy=>n9 y x
def Vf(K:ay)(neg:Bool):R2:=λx y H Q=>∃p xs,y=.ref p/\(au K H p xs\/az K H p xs)/\pM x=true/\xs.all pM=true/\Q (.bl (if neg then !EH x xs else EH x xs)) H
theorem Zku:c7 X (compareOp .In) (Vf X.K false):=by
 intro ac s σ H x y v u Q I rx ry h;obtain⟨p,xs,rfl,hq,fx,fs,q⟩:=h;cases ry;rcases hq with hq|hq
 .obtain⟨its,r,pl,hz⟩:=I.list hq;refine SeqAt.in_listAt (pS x) pl.isList (λw hw=>HK rx fx r fs w (by simpa using hw)) ⟨.bl _,H,I,rfl,?_⟩;rw[show its.toArray.any (pS x)=its.any (pS x) by simp,Im r fs];exact q
 .obtain⟨its,r,pl,hz⟩:=I.tuple hq;refine SeqAt.in_tupleAt (pS x) pl (λw hw=>HK rx fx r fs w (by simpa using hw)) ⟨.bl _,H,I,rfl,?_⟩;rw[show its.toArray.any (pS x)=its.any (pS x) by simp,Im r fs];exact q
theorem ZD:gH X (.builtin "len") (λxs H Q=>∃p ys,xs=[.ref p]/\(au X.K H p ys\/az X.K H p ys)/\Q (.int ys.length) H):=by
 intro ac s σ H xs us Q I r h;obtain⟨p,ys,rfl,hq,q⟩:=h;obtain⟨u,rfl,rx⟩:=vals1 r;cases rx;have hn:=wH;rcases hq with hq|hq
 .obtain⟨its,r',pl,hz⟩:=I.list hq;have hlen:=r'.length;exact Calls.call_len_list pl.isList (by simp only[cO] <;> lia) ⟨.int ys.length,H,I.tok _,⟨s.toks+1,by rw[cO,hlen]⟩,q⟩
 .obtain⟨its,r',pl,hz⟩:=I.tuple hq;have hlen:=r'.length;exact len_tuple pl (by simp only[cO] <;> lia) ⟨.int ys.length,H,I.tok _,⟨s.toks+1,by rw[cO,hlen]⟩,q⟩
theorem Zfy:gH X (.builtin "len") (λxs H Q=>∃z,xs=[.str z]/\z.length<=sizeLine/\Q (.int z.length) H):=by
 intro ac s σ H xs us Q I r h;obtain⟨z,rfl,hz,q⟩:=h;obtain⟨u,rfl,t,rfl⟩:=vals1 r;have hn:=wH;exact len_str (by lia) ⟨.int z.length,H,I.tok _,⟨_,rfl⟩,q⟩
theorem tX:gH X (.type "tuple") (λxs H Q=>∃p ys,xs=[.ref p]/\((au X.K H p ys/\∀l,H l=none->Q (.ref l) (upd H l (.tup ys)))\/(az X.K H p ys/\Q (.ref p) H))):=by
 intro ac s σ H xs us Q I r h;obtain⟨p,ys,rfl,h⟩:=h;obtain⟨u,rfl,rx⟩:=vals1 r;cases rx;rcases h with⟨hq,q⟩|⟨hq,q⟩
 .obtain⟨its,r',pl,hz⟩:=I.list hq;have hlen:=r'.length;refine call_tuple_list pl.isList (λh' kp=>?_) (by simp only[cO] <;> lia)
  have I1:Inv X ac σ H { s with heap:=h' }:=I.kept (t':=s.toks) kp;have I2:Inv X ac σ (upd H h'.objs.size (.tup ys)) { s with heap:=h'.push { cls:=.type "tuple",data:=.seq its.toArray } } :=
   I1.laid (t':=s.toks) (λb o e=>aH _ e) (aD _) (show ZX X.prog X.w _ _ _ (.tup ys) from⟨hz,its,r',IsTup.new _ _⟩)
  exact⟨.ref h'.objs.size,_,I2,rfl,q _ (I1.aj.fresh (aD _))⟩
 .obtain⟨its,r',pl,hz⟩:=I.tuple hq;exact call_tuple_same pl ⟨.ref p,H,I,rfl,q⟩
def L8(K:ay)(T:String)(x:V)(H:Hp):Prop:=match x with
 | .str _=>T= "str"
 | .int _=>T= "int"
 | .ref p=>(T= "list" /\ ∃xs,au K H p xs)\/(T= "tuple" /\ ∃o,K.lookup p=some o/\o.cls=.type "tuple" /\ o.dict=none) \/
   (T= "dict" /\ ((∃ae,H p=some (.dK ae))\/∃ae,H p=some (.dT ae)))\/(T= "set" /\ ∃S n,H p=some (.set S n))
 | _=>False
theorem Rt{ac:List (Addr×Obj)}{σ : St}{H:Hp}{s:ag}{T:String}{v:aa}(I:Inv X ac σ H s)(r:RelV x v)(ty:L8 X.K T x H) :
  s.TypeIs v T/\∀a,v=.ref a->∃ob,s.heap.get? a=some ob/\ob.dict=none:=by
 cases x with
 | str z =>
  obtain⟨t,rfl⟩:=r;cases (show T= "str" from ty);exact⟨typeIs_str s z t,λ_ e=>nomatch e⟩
 | int i =>
  obtain⟨t,rfl⟩:=r;cases (show T= "int" from ty);exact⟨typeIs_int s i t,λ_ e=>nomatch e⟩
 | ref p =>
  cases r;rcases ty with⟨rfl,xs,hq⟩|⟨rfl,o,hk,hc,hd⟩|⟨rfl,hk⟩|⟨rfl,S,n,hk⟩
  .obtain⟨its,_,pl,_⟩:=I.list hq;refine⟨pl.isList.typeIs,λa e=>?_⟩;cases e;obtain⟨o,n,e,c,hd,_⟩:=pl;exact⟨o,e,hd⟩
  .refine⟨⟨o,I.bQ p o hk,hc⟩,λa e=>?_⟩;cases e;exact⟨o,I.bQ _ o hk,hd⟩
  .have z:∃o,s.heap.get? p=some o/\o.ExactDict:=by
    rcases hk with⟨ae,hk⟩|⟨ae,hk⟩
    .obtain⟨_,_,_,_,o,_,_,e,ex,_⟩:=I.aj p _ hk;exact⟨o,e,ex⟩
    .obtain⟨_,_,_,_,o,_,_,e,ex,_⟩:=I.aj p _ hk;exact⟨o,e,ex⟩
   obtain⟨o,e,ex⟩:=z;refine⟨⟨o,e,ex.1⟩,λa e2=>?_⟩;cases e2;exact⟨o,e,ex.2.1⟩
  .obtain⟨o,_,_,_,e,ex,_⟩:=I.aj p _ hk;refine⟨⟨o,e,ex.1⟩,λa e2=>?_⟩;cases e2;exact⟨o,e,ex.2.1⟩
 | _=>exact kC ty
def ZpQ(K:ay)(T:String)(r:V->List V->Hp->VK->Prop)(to:TE):TE:=λσ H Q=>to σ H λx H1=>L8 K T x H1/\r x [] H1 Q
def tBM(K:ay)(T:String)(r:V->List V->Hp->VK->Prop)(to:TE)(t:TA):TE:=λσ H Q=>to σ H λx H1=>L8 K T x H1/\t σ H1 λxs H2=>r x xs H2 Q
variable{o e:Expr}{es:List Expr}{to:TE}{t:TA}{name:Str}{apos bP:Pos}{T id:String}{r:V->List V->Hp->VK->Prop}
theorem Dm(pa:PlainAttrs T)(slot:Slot T name id)(jE:typeOf (.builtin id)=pure (.type "method_descriptor")) (hm:G4 X id r) (ho:PE X o to)
  (J5:attributeBase o name X.env (eval o X.env)=eval o X.env:=by rfl) (Ks:(apos.endLine == bP.line)=true:=by rfl):PE X (.Call (.Attribute o name apos) [] [] bP) (ZpQ X.K T r to):=by
 intro ac s σ H Q I h;refine wpAny_Call_method0_late J5 Ks (aw (ho ac s σ H _ I h) ?_);rintro v s1 ⟨x,H1,I1,r1,ty,q1⟩;obtain⟨h1,h2⟩:=Rt I1 r1 ty;exact⟨T,id,pa,slot,jE,h1,h2,vt rfl (PySem.evalArgs_none (hm ac s1 σ H1 x [] v [] Q I1 r1 .nil q1))⟩
theorem mr(pa:PlainAttrs T)(slot:Slot T name id)(jE:typeOf (.builtin id)=pure (.type "method_descriptor")) (hm:G4 X id r) (ho:PE X o to) (ha:PA X (e::es) t)
  (J5:attributeBase o name X.env (eval o X.env)=eval o X.env:=by rfl)
  (ZyC:((backTo bP (starEach (e::es) X.env)).all (λx=>!x.1)&&(backToKw bP (keywordEach [] X.env)).all (λx=>x.1.isSome)
   && decide ((e::es).length+([]:List sL).length+(if([]:List sL).isEmpty then 0 else 1)<30))=true:=by rfl)
  (Ks:(apos.endLine == bP.line)=true:=by rfl) (hs:starEach (e::es) X.env=(false,eval e X.env)::starEach es X.env:=by rfl) (Zzh:(backTo bP (starEach es X.env)).any (·.1)=false:=by rfl) :
  PE X (.Call (.Attribute o name apos) (e::es) [] bP) (tBM X.K T r to t):=by
 intro ac s σ H Q I h;refine wpAny_Call_method_late J5 ZyC Ks rfl (aw (ho ac s σ H _ I h) ?_);rintro v s1 ⟨x,H1,I1,r1,ty,q1⟩;obtain⟨h1,h2⟩:=Rt I1 r1 ty;refine⟨T,id,pa,slot,jE,h1,h2,?_⟩;have hA:=ha bP ac s1 σ H1 _ I1 q1;rw[hs] at hA ⊢;refine vt (by show(false || (backTo bP (starEach es X.env)).any (·.1))=false;rw[Zzh] <;> rfl) (x_ ?_)
 exact aw hA λus s2 ⟨vs,H2,I2,r2,q2⟩=>hm ac s2 σ H2 x vs v us Q I2 r1 r2 q2
/- xs.append(e),list.index on a ZDk tuple .. are G4 facts of 06m -/
end
def G3(X:Cx)(id:String)(r:V->List V->Hp->VK->Prop):Prop :=
 ∀(ac:List (Addr×Obj))(s:ag)(σ : St)(H:Hp)(x:V)(xs:List V)(v:aa)(us:List aa)(Q:VK),Inv X ac σ H s->RelV x v->Vals xs us->r x xs H Q ->
  wpAny (model X.prog X.w) X.A (call (.builtin id) (v::us)) (EP X ac σ Q) X.xe s
theorem Vals.one:∀{x:V}{us:List aa},Vals [x] us->∃u,us=[u]/\RelV x u:=by
 intro x us h;cases h with
 | cons r t =>
  cases t;exact⟨_,rfl,r⟩
theorem Vals.two:∀{x y:V}{us:List aa},Vals [x,y] us->∃u v,us=[u,v]/\RelV x u/\RelV y v:=by
 intro x y us h;cases h with
 | cons r t =>
  obtain⟨v,rfl,q⟩:=Vals.one t;exact⟨_,v,rfl,r,q⟩
theorem Vals.zero:∀{us:List aa},Vals [] us->us=[]
 | _,.nil=>rfl
theorem Vals.dropLast{xs:List V}{us:List aa}(h:Vals xs us):Vals xs.dropLast us.dropLast:=by
 induction h with
 | nil=>exact .nil
 | cons r t ih =>
  cases t with
  | nil=>exact .nil
  | cons q t'=>exact .cons r ih
theorem Zic(l:List α):l.eraseIdx (l.length-1)=l.dropLast:=by
 induction l with
 | nil=>rfl
 | cons a r ih =>
  cases r with
  | nil=>rfl
  | cons b r =>
   have e:(a::b::r).length-1=((b::r).length-1)+1:=by
    have h1:(a::b::r).length=r.length+2:=rfl;have h2:(b::r).length=r.length+1:=rfl;lia
   rw[e,List.eraseIdx_cons_succ,ih]
   all_goals rfl
variable{l:Addr}{t':Nat}
theorem Inv.xG{its':List aa}{f:Array aa->Array aa}(I:Inv X ac σ H s)(hH:H l=some (.lst xs))
  (e:s.heap.get? l=some { cls:=.type "list",data:=.seq its.toArray n }) (hf:f its.toArray=its'.toArray) (hv:Vals ys its') (hz:ys.length<=sizeLine) :
  Inv X ac σ (upd H l (.lst ys)) { s with heap:=s.heap.update l (kH f),toks:=t' }:=by
 have q:=PySem.IsL.update e f;rw[hf] at q;refine I.write (x:=l) (e:=l) (by rw[hH];exact trivial) (.inl rfl) (λb' u hb hu=>(jh s.heap (kH f) (fB hb)).trans hu) ⟨_,q⟩ ?_;exact⟨hz,its',_,hv,q⟩
theorem Inv.AZ(I:Inv X ac σ H s)(hv:Vals ys its)(hz:ys.length<=sizeLine) :
  Inv X ac σ (upd H s.heap.objs.size (.lst ys)) { s with heap:=s.heap.push { cls:=.type "list",data:=.seq its.toArray },toks:=t' } :=
 I.laid (λ_ _ q=>aH _ q) (aD _) ⟨hz,its,0,hv,bS _ rfl⟩
theorem Inv.fresh(I:Inv X ac σ H s):H s.heap.objs.size=none:=I.aj.fresh (aD _)
theorem Inv.mO(I:Inv X ac σ H s)(hH:H l=some (.lst xs)):xs.length<=sizeLine/\∃(its:List aa)(n:Nat),Vals xs its/\xs.length=its.length/\s.heap.get? l=some { cls:=.type "list",data:=.seq its.toArray n }:=by
 obtain⟨z,its,n,r,e⟩:=I.aj l _ hH;exact⟨z,its,n,r,r.length,e⟩
def ZmP:V->List V->Hp->VK->Prop:=λx vs H Q=>∃l xs y,x=.ref l/\vs=[y]/\H l=some (.lst xs)/\xs.length<sizeLine/\Q .aB (upd H l (.lst (xs ++ [y])))
theorem jS:G3 X "list.append" ZmP:=by
 intro ac s σ H x vs v us Q I rx rv h;obtain⟨l,xs,y,rfl,rfl,hH,hz,q⟩:=h;cases rx;obtain⟨u,rfl,ru⟩:=rv.one;obtain⟨z,its,n,r,hl,e⟩:=I.mO hH;refine Nl F.slot_list_append ⟨_,e,rfl⟩ F.entry_list_append (F.args_list_append_2 _ _) (PySem.list_append l its.toArray n u (by rw[cO];lia)) ⟨e,?_⟩;refine⟨.aB,_,I.xG (its':=its ++ [u]) hH e (by simp) (r.append (.cons ru .nil)) ?_,rfl,q⟩;rw[cw,sO];lia
def Zpo:V->List V->Hp->VK->Prop:=λx vs H Q=>∃l xs y,x=.ref l/\vs=[]/\H l=some (.lst xs)/\xs[xs.length-1]?= some y/\Q y (upd H l (.lst xs.dropLast))
theorem IE:G3 X "list.pop" Zpo:=by
 intro ac s σ H x vs v us Q I rx rv h;obtain⟨l,xs,y,rfl,rfl,hH,hy,q⟩:=h;cases rx;have uY:=rv.zero;subst uY;obtain⟨z,its,n,r,hl,e⟩:=I.mO hH;obtain⟨u,hu,ru⟩:=r.get hy;have GF:its.toArray[its.toArray.size-1]?= some u:=by
  show its.toArray[its.length-1]?= some u;rw[<- fz,<- hl];exact hu
 refine Nl F.slot_list_pop ⟨_,e,rfl⟩ F.entry_list_pop (F.args_list_pop_1 _) (MeetsSeq.list_pop_last l its.toArray n u GF (by rw[cO];lia)) ⟨e,?_⟩;refine⟨y,_,I.xG (its':=its.dropLast) hH e ?_ r.dropLast ?_,ru,q⟩
 .show its.toArray.eraseIdxIfInBounds (its.toArray.size-1)=its.dropLast.toArray;rw[cO,List.eraseIdxIfInBounds_toArray,Zic]
 .rw[List.length_dropLast];lia
def Zon:V->List V->Hp->VK->Prop:=λx vs H Q=>∃l xs,x=.ref l/\vs=[]/\H l=some (.lst xs)/\Q .aB (upd H l (.lst []))
theorem Zk9:G3 X "list.clear" Zon:=by
 intro ac s σ H x vs v us Q I rx rv h;obtain⟨l,xs,rfl,rfl,hH,q⟩:=h;cases rx;have uY:=rv.zero;subst uY;obtain⟨z,its,n,r,hl,e⟩:=I.mO hH;refine Nl F.slot_list_clear ⟨_,e,rfl⟩ F.entry_list_clear (F.args_list_clear_1 _) (AutoSeq1.list_clear_list_0 l its.toArray n (by rw[cO];lia)) ⟨e,?_⟩;exact⟨.aB,_,I.xG (its':=[]) (ys:=[]) hH e rfl .nil (bG _),rfl,q⟩
def ZpN:R2:=λx y H Q=>∃l b xs zs,x=.ref l/\y=.ref b/\H l=some (.lst xs)/\H b=some (.lst zs)/\xs.length+zs.length<=sizeLine/\∀p,H p=none->Q (.ref p) (upd H p (.lst (xs++zs)))
theorem wG:c7 X (binaryOp .Add) ZpN:=by
 intro ac s σ H x y v u Q I rx ry h;obtain⟨l,b,xs,zs,rfl,rfl,hH,hB,hz,q⟩:=h;cases rx;cases ry;obtain⟨z,its,n,r,hl,e⟩:=I.mO hH;obtain⟨z2,ou,n2,r2,iD,e2⟩:=I.mO hB;refine PySem.P.add_list e e2 ?_ (by rw[cO,cO];lia);have ea:its.toArray++ou.toArray=(its++ou).toArray:=by simp
 rw[ea];exact⟨.ref _,_,I.AZ (t':=s.toks) (r.append r2) (by rw[cw];lia),rfl,q _ I.fresh⟩
end L2
namespace N0
open PySem PySem.W PySem.Calls PyProof.Rows
theorem Zdi{P:FU}{h:Heap}:∀(ns:List Int)(vs:List aa),WellAll P h vs (ns.map XW)->Br vs ns:=by
 intro ns
 induction ns with
 | nil =>
  intro vs w;rw[WM] at w;cases w;exact .nil
 | cons n ns ih =>
  intro vs w;rw[b8] at w;cases w with
  | cons a b =>
   cases a;exact .cons _ _ (ih _ b)
variable{n:Nat}
theorem ZjL{l:MU}(hn:l.most=some n){P:FU}{h:Heap}{args:List WData}{vals:List aa}
  (Eu:l.row.toRowW.claim.pre args=true) (K2:WellAll P h vals args) :
  ∃a vs ns,vals=[ar a]/\args=[WData.list (ns.map XW)]/\h.get? a=some { cls:=.type "list",data:=.seq vs.toArray }/\Br vs ns/\ns.length<=n:=by
 have hsh:WShape.hasAll [] args [.list .int]=true:=(pre_splitW Eu).1;have hc:l.pre.holds [] { args:=args }=true:=(pre_splitW Eu).2;obtain⟨d,r,rfl,h1,h2⟩:=hasAllW_cons hsh;obtain rfl:=hasAllW_nil h2;obtain⟨xs,rfl,h3⟩:=hasW_list h1;obtain⟨ns,rfl⟩:=items_int h3;have hlen:ns.length<=n:=by
  unfold MU.pre at hc;have h4:(WTm.not (.lt (.lit (.int (n:Int))) (.len (.arg 0)))).holds [] { args:=[.list (ns.map .int)] }=true:=by
   have h4:=(holds_andW hc).1;rw[hn] at h4;exact h4
  have h5:=condW_of h4 (w_not (w_lt w_lit (w_len_list (w_arg rfl))));rw[aF] at h5;refine W0 λq=>?_;have q':(n:Int)<((ns.length:Nat):Int):=by lia
  first
   | (rw[aJ q'] at h5;exact absurd h5 (by decide))
   | (simp at h5;lia)
 cases K2 with
 | cons w1 w2 =>
  cases w2;cases w1 with
  | list ho cu=>exact⟨_,_,ns,rfl,rfl,ho,Zdi ns _ cu,hlen⟩
theorem ZjW(l:MU)(args:List WData):l.row.toRowW.claim.post args (.bool true) args=true :=
 postW_of (r:=l.row.toRowW) (X:=(true == true))
  (show XX [] (.bool true) .bool=true by first|rfl|decide|simp[XX,WShape.arms,WShape.armsAll])
  (show(WTm.eq .res (.lit (.bool true))).value [] { args:=args,res:=some (.bool true),after:=args }=some (.bool (true == true)) from w_eq_bool (w_res rfl) w_lit) rfl
theorem ZgO{l:MU}{q:aq}{loose:List Str}{XP:(Str->Option aa)->Heap->Prop}{YP:ap->Heap->Prop}{d:DefRec}
  (hn:l.most=some n) (Ap:d.params.defaults=[])
  (call:∀(w:ap)(dr aZ : ag)(mg mb:Str->Option aa)(fa:Addr)(o:Obj)(pm cd doc:aa)(a:Addr)(vs:List aa)(ns:List Int),
   Ground q loose [] XP w dr mg mb aZ.heap->YP w aZ.heap ->
   aZ.heap.get? fa=some o->o.data=.func (docDef d.name d.params d.body d.scope pm cd doc)->aZ.heap.CodeRec cd d.name->mg d.name=some (.ref fa) ->
   aZ.heap.get? a=some { cls:=.type "list",data:=.seq vs.toArray }->Br vs ns->ns.length<=n->aZ.gens=#[] ->
   codeAny (model l.prog w) callerA (.call (.ref fa) ⟨[.ref a],[]⟩) (λr s'=>r=.ok (.ret (.bool true))/\OldK aZ.heap s'.heap/\s'.os=aZ.os/\oH s'.gens) aZ) :
  WalkO q loose XP YP l.row.toRowW d [] (λf vs=>Nf f vs):=by
 intro w dr aZ mg mb G Y fa o pm cd doc dV kV ho hd fU hD uO hg args vals as Eu ZD2 hrd K2 hlo;obtain rfl:dV=.none:=Dflts.none hD Ap;obtain rfl:kV=.none:=Dflts.noKw hD;obtain⟨a,vs,ns,rfl,rfl,Kz,hints,hlen⟩:=ZjL hn Eu K2;refine enter_call (qJ (call w dr aZ mg mb fa o pm cd doc a vs ns G Y ho (fd_plain hd) fU uO Kz hints hlen hg) λr s' hq=>?_);obtain⟨rfl,h2,h3,h4⟩:=hq;exact⟨.inl ⟨.bool true,.bool true,[],rfl,λ_=>rfl,.bool true,ZjW l _,λ_=>⟨Bt,λ_ hm=>(nomatch hm)⟩⟩,h2,h3,h4⟩
end N0
namespace L2
open PySem PySem.Spec PyProof.Rows
theorem P4:∀{vs:List aa}{ns:List Int},Br vs ns->Vals (ns.map V.int) vs
 | _,_,.nil=>.nil
 | _,_,.cons n t h=>.cons ⟨t,rfl⟩ (P4 h)
end L2
/- THE ZDt ZDw (shape;LID,My.* are ZE4):
   My.Adr: a structure of lL addresses E8 ZE3 ZEs names (classes,ZDF);My.Txt K t: a structure (Prop) of lL equations over K;
   My.ZBB:{K} {implicit addresses ..} (e1:nsIn K mainGlobals "law" = some (some (.ref f))) (e2:K.lookup f=some ⟨oc,od,.func (fnOf "law" "law" params body scope dV kV doc pm an bg ct),sl⟩) (e3:codeIn K bg "law" = true) .. : ∃t,My.Txt K t
set_option maxRecDepth 100000 in
theorem PySem.Challenge.cw_LID_holds : PySem.Challenge.rw_LID.Holds := by
 w_on;o_law;k_head;(case hw=>w_witness2)
 k_fill
 refine L2.ZEZ (l:=PySem.Challenge.rw_LID) (n:=63) (k:=40) (x := "script") (CX:=λw=>..) (sp:=λ_=>My.ZEF) rfl (by decide) rfl ⟨rfl,by decide,by decide⟩ (λw h Y=>PySem.W.kIn_of Y) ?F ?S ?C
 case F =>
  intro w mg fa h KX G uO;have T:∃t,My.Txt (L2.ZY KX) t:=by
   dsimp only[L2.ZY]                          -- K ZEz sv as «<heap const> w.params» for k_is
   refine' My.ZBB ?e1 ?e2 ?e3 ..
   (case e1=>PySem.W.k_is)                    -- in lL order: a name->its address->its object->its parts
   (case e2=>PySem.W.k_is)
   ..
  obtain⟨t,T⟩:=T;have e0:=uO.symm.trans (dC KX G T.law);cases e0                                       -- fa is lL ZDj own address
  exact⟨_,λs u=>.of_eq rfl,λbase kb nb=>My.ZAk T kb nb⟩     -- if «.of_eq rfl» comes too early: refine' ⟨_,?b,λbase kb nb=>My.ZAk T kb nb⟩;exact λs u=>.of_eq rfl
 case S=>exact λw H a ns hl hO hS=>..
 case C=>exact ..
(lL tactic k_is has no namespace: write k_is) -/
namespace L2
open PySem PySem.Spec PyProof.Rows
def inClass(s:Stmt)(j:Nat):Stmt:=match s with
 | .ClassDef _ _ _ body _ _ _ _ _ _ _=>body.getD j (.Pass ⟨0,0,0,0⟩)
 | _=>.Pass ⟨0,0,0,0⟩
def zw(s:Stmt):vp:=match s with
 | .FunctionDef _ a _ _ _ _ _ _ _ _=>a
 | _=>{ posonlyargs:=[],args:=[],vararg:=none,kwonlyargs:=[],kw_defaults:=[],kwarg:=none,defaults:=[] }
def Zf(s:Stmt):List Stmt:=match s with
 | .FunctionDef _ _ b _ _ _ _ _ _ _=>b
 | _=>[]
def Zm(s:Stmt):cH:=match s with
 | .FunctionDef _ _ _ _ _ _ sc _ _ _=>sc
 | _=>{ kind:=.function,names:=[],isGenerator:=false,isCoroutine:=false }
abbrev cA:kY:=λ_ _ _ _ _ _=>False
abbrev E0:XK:=λ_ _ _=>False
variable{X:Cx}
theorem zG:ug cA X E0:=λ_ _ _ _ _ _ _ h=>h.elim
structure ci(K:ay)(x qual:Str)(st:Stmt)(f:Addr)(fd:dy):Prop where
 ex:∃(oc:aa)(od:Option Addr)(kV doc pm:aa)(an:Option Addr)(bg ct:aa)(oy:Array (Option aa)),
  fd=yr x qual (zw st) (Zf st) (Zm st) .none kV doc pm an bg ct/\K.lookup f=some ⟨oc,od,.func fd,oy⟩/\M7 K bg qual=true
 kp:vJ K (.ref f)=true
variable{P:aq}{w:ap}{K:ay}{mg:Str->Option aa}{base:Heap}{x qual:Str}{st:Stmt}{f:Addr}{fd:dy}{ps:List Str}
theorem ci.ok{N:List Str}{k:Nat}{sp:Sp}(F:ci K x qual st f fd)(S:cZ N ps (Zm st))(len:∀vs H Q E,sp vs H Q E->vs.length=ps.length)
  (pX:∀(bg:aa)(A:aC)(outer:List Env)(s:ag)(H:Hp)(vs:List V)(Q:VK)(E:XK),bK k (A.deeper (envOfC qual (Zm st) s.heap.objs.size f bg))->sp vs H Q E ->
   ∃t,c8 (nW cA P w K mg base N qual (Zm st) f bg A outer s H E).ET (Zf st) t/\t { nx:=λ_ H'=>Q .aB H',rt:=Q } (start N vs) H):br P w K mg base cA (k+1) f fd ps sp:=by
 obtain⟨oc,od,kV,doc,pm,an,bg,ct,oy,rfl,lk,fU⟩:=F.ex;refine IT lk fU S len λA outer s H vs Q E hr jD=>?_;obtain⟨t,h,q⟩:=pX bg A outer s H vs Q E hr jD;exact⟨t,h.ET,q⟩
theorem ci.binds(F:ci K x qual st f fd)
  (h:∀(kV doc pm:aa)(an:Option Addr)(bg ct:aa)(us:List aa),us.length=ps.length->bindArgs (yr x qual (zw st) (Zf st) (Zm st) .none kV doc pm an bg ct) ⟨us,[]⟩=pure (ps.zip us)):Binds K fd ps []:=by
 obtain⟨oc,od,kV,doc,pm,an,bg,ct,oy,rfl,lk,fU⟩:=F.ex;exact .all (h kV doc pm an bg ct)
theorem eF{oc:aa}{od an:Option Addr}{oy:Array (Option aa)}{kV doc pm bg ct:aa}(l:K.lookup f=some ⟨oc,od,.func (yr x qual (zw st) (Zf st) (Zm st) .none kV doc pm an bg ct),oy⟩)
  (c:M7 K bg qual=true) (k:vJ K (.ref f)=true):ci K x qual st f (yr x qual (zw st) (Zf st) (Zm st) .none kV doc pm an bg ct):=⟨⟨oc,od,kV,doc,pm,an,bg,ct,oy,rfl,l,c⟩,k⟩
theorem pv(i:Nat){x:Str}{pos:Pos}(hN:X.N[i]?= some x:=by rfl)(hv:G7 X.env.scope x:=by first|exact Or.inl rfl|exact Or.inr (Or.inl rfl)|exact Or.inr (Or.inr rfl))(hd:(x == ("__debug__" : Str))=false:=by decide)
  (fU:(x == ("__classdict__" : Str))=false:=by decide):PE X (.Name x pos) (wQ i):=ZnS hN hv hd fU
variable{A B:Prop}
theorem dj(h:B):if false=true then A else B:=by
 rw[ai cL];exact h
theorem wN(h:A):if true=true then A else B:=by
 rw[ao rfl];exact h
theorem cJ{c:Prop}[Decidable c](h1:c->A)(h2 : ¬ c->B):if c then A else B:=by
 by_cases h:c
 .rw[ao h];exact h1 h
 .rw[ai h];exact h2 h
def Zj(H H':Hp):Prop := ∀b o,H b=some o->H' b=some o
theorem Zj.refl(H:Hp):Zj H H:=λ_ _ h=>h
variable{H:Hp}
theorem Zj.trans{H1 H2:Hp}(a:Zj H H1)(b:Zj H1 H2):Zj H H2:=λc o h=>b c o (a c o h)
variable{H':Hp}
theorem Zj.free(e:Zj H H'){l:Addr}(h:H' l=W'):H l=W':=by
 cases q:H l with
 | none=>rfl
 | some o =>
  rw[e l o q] at h;cases h
theorem Zj.seq{a:Addr}{xs:List V}(e:Zj H H')(h:au K H a xs):au K H' a xs:=by
 rcases h with(h|⟨o,h⟩)|h
 .exact .inl (.inl (e _ _ h))
 .exact .inl (.inr ⟨o,e _ _ h⟩)
 .exact .inr h
end L2
namespace nB
inductive Gr(A:Type) where
 | nil
 | cons (t:A) (w o:Gr A)
section
variable{A:Type}
def words(sl:A):Gr A->List A
 | .nil=>[]
 | .cons t w o=>t::(words sl w++sl::words sl o)
def snoc:Gr A->A->Gr A->Gr A
 | .nil,t,w=>.cons t w .nil
 | .cons t' w' o,t,w=>.cons t' w' (snoc o t w)
theorem Hg(sl:A)(t:A)(w:Gr A):∀g:Gr A,words sl (snoc g t w)=words sl g++t::(words sl w ++ [sl])
 | .nil=>by simp[snoc,words]
 | .cons t' w' o=>by simp[snoc,words,Hg sl t w o]
def gI(sl:A):List (Gr A)->List A->List A
 | [r],[]=>words sl r
 | r::rs,t::ts=>gI sl rs ts++t::words sl r
 | _,_=>[]
theorem Zh6(sl:A)(t:A){rs:List (Gr A)}{ts:List A}:gI sl (.nil::rs) (t::ts)=gI sl rs ts ++ [t]:=by
 cases rs <;> simp[gI,words]
theorem ZhM(sl:A)(t:A)(w:Gr A){r:Gr A}{rs:List (Gr A)}{ts:List A}(h:rs.length=ts.length) :
  gI sl (snoc r t w::rs) ts=gI sl (r::rs) ts++t::(words sl w ++ [sl]):=by
 cases ts with
 | nil =>
  have:rs=[]:=vy (by simpa using h);subst this;simp[gI,Hg]
 | cons t' ts =>
  cases rs with
  | nil=>simp at h
  | cons r' rs=>simp[gI,Hg]
theorem ZgG(sl:A)(t:A){w r:Gr A}{rs:List (Gr A)}{ts:List A}(h:rs.length=ts.length) :
  gI sl (snoc r t w::rs) ts=gI sl (w::r::rs) (t::ts) ++ [sl]:=by
 rw[ZhM sl t w h];simp[gI]
theorem Zly(sl:A){r:Gr A}{rs:List (Gr A)}{ts:List A}(h:rs.length=ts.length):(words sl r).length<=(gI sl (r::rs) ts).length:=by
 cases ts with
 | nil =>
  have:rs=[]:=vy (by simpa using h);subst this;simp[gI]
 | cons t' ts =>
  cases rs with
  | nil=>simp at h
  | cons r' rs=>simp[gI];lia
theorem Pm(sl:A):∀{ts:List A}{rs:List (Gr A)},rs.length=ts.length+1->ts.length<=(gI sl rs ts).length
 | [],_,_=>bG _
 | t::ts,[],h=>by simp at h
 | t::ts,[r],h=>by simp at h
 | t::ts,r::r'::rs,h=>by
  have:=Pm sl (ts:=ts) (rs:=r'::rs) (by simpa using h);simp only[gI,cw,bB];lia
section
variable[DecidableEq A]
def hX(sl:A):Nat->List A->Prop
 | h,[]=>h=0
 | h,w::ws=>if w=sl then 1<=h/\hX sl (h-1) ws else hX sl (h+1) ws
theorem C9{sl w:A}(hw:w≠sl){h:Nat}{ws:List A}:hX sl h (w::ws)↔hX sl (h+1) ws:=by
 simp[hX,hw]
theorem Dg{sl:A}{h:Nat}{ws:List A}:hX sl h (sl::ws)↔1<=h/\hX sl (h-1) ws:=by
 simp[hX]
def uo(sl:A):Gr A->Prop
 | .nil=>True
 | .cons t w o=>t≠sl/\uo sl w/\uo sl o
theorem O1{sl t:A}{w:Gr A}(ht:t≠sl)(hw:uo sl w):∀{g:Gr A},uo sl g->uo sl (snoc g t w)
 | .nil,_=>⟨ht,hw,trivial⟩
 | .cons _ _ _,⟨a,b,c⟩=>⟨a,b,O1 ht hw c⟩
end
end
end nB
namespace L2
open PySem PySem.Spec PyProof.Rows
theorem Zm6:bootBuiltins "list" = some (.type "list"):=by decide +kernel
theorem mh:bootBuiltins "tuple" = some (.type "tuple"):=by decide +kernel
theorem Zn2:bootBuiltins "str" = some (.type "str"):=by decide +kernel
theorem IL:bootBuiltins "int" = some (.type "int"):=by decide +kernel
theorem ZmU:bootBuiltins "bool" = some (.type "bool"):=by decide +kernel
theorem Ij:bootBuiltins "dict" = some (.type "dict"):=by decide +kernel
theorem Dr:bootBuiltins "min" = some (.builtin "min"):=by decide +kernel
theorem ZV:bootBuiltins "isinstance" = some (.builtin "isinstance"):=by decide +kernel
variable{X:Cx}
theorem rB{x:Str}{n:String}{pos:Pos}(hg:Gl X x)(hm:X.mg x=none)(hv:bootBuiltins x=some (.type n))(hn:x ≠ "__name__" := by decide) (hd:(x == ("__debug__" : Str))=false:=by decide):PE X (.Name x pos) (tC (.ty n)) :=
 Zm4 (v:=.ty n) hg hm hv rfl hn hd
theorem qZ:gH X (.builtin "isinstance") (λxs H Q=>∃x n t b,xs=[x,.ty n]/\jQ X.K H x t/\Xt X.K t (.type n)=some b/\Q (.bl b) H):=by
 intro ac s σ H xs us Q I r h;obtain⟨x,n,t,b,rfl,ty,e,q⟩:=h;obtain⟨u,v,rfl,rx,ry⟩:=Vals.two r;obtain rfl:v=eQ n:=ry;exact ZiP I rx ty e λtk=>⟨.bl b,H,I.tok tk,rfl,q⟩
structure fO(P:aq)(w:ap)(K:ay)(mg:Str->Option aa)(base:Heap)(x:Str)(ps:List Str)(k:Nat)(sp:Sp):Prop where
 ex:∃(f:Addr)(fd:dy),br P w K mg base cA k f fd ps sp/\Binds K fd ps []/\vJ K (.ref f)=true/\mg x=some (.ref f)
section
variable{X:Cx}{x:Str}{ps:List Str}{j k:Nat}{sp:Sp}{e:Expr}{es:List Expr}{t:TA}{p pos:Pos}
theorem br.room{P:aq}{w:ap}{K:ay}{mg:Str->Option aa}{base:Heap}{CX:kY}{f:Addr}{fd:dy}(F:br P w K mg base CX j f fd ps sp)(h:j<=k):br P w K mg base CX k f fd ps sp :=
 ⟨F.len,λA outer s H args us vs Q E hr=>F.run A outer s H args us vs Q E (hr.mono h)⟩
theorem eS(G:fO X.prog X.w X.K X.mg X.base x ps j sp)(hr:bK k X.A)(hg:Gl X x)(ha:PA X (e::es) t)(hk:j<=k:=by decide)(dG:(x == ("__debug__" : Str))=false:=by decide)
  (he:starEach (e::es) X.env=(false,eval e X.env)::starEach es X.env:=by rfl) (aM:(backTo pos (starEach es X.env)).any (·.1)=false:=by rfl) :
  PE X (.Call (.Name x p) (e::es) [] pos) (RM sp [] E0 t):=by
 obtain⟨f,fd,F,b,kp,m⟩:=G.ex;exact ZmV (F.room hk) hr hg m kp b .nil zG ha dG he aM
end
end L2
namespace HT
open PySem PyProof.Rows
end HT
namespace L2
open PySem PySem.Spec PyProof.Rows
mutual
inductive Dp(K:ay)(H:Hp):V->ed->Prop
 | aB:Dp K H .aB .none
 | bl (b:Bool):Dp K H (.bl b) (.bool b)
 | int (i:Int):Dp K H (.int i) (.int i)
 | str (x:Str):Dp K H (.str x) (.str x)
 | lst {a:Addr} {xs:List V} {ds:List ed}:au K H a xs->kZ K H xs ds->Dp K H (.ref a) (.list ds)
 | tup {a:Addr} {xs:List V} {ds:List ed}:az K H a xs->kZ K H xs ds->Dp K H (.ref a) (.tuple ds)
inductive kZ(K:ay)(H:Hp):List V->List ed->Prop
 | nil:kZ K H [] []
 | cons {v:V} {vs:List V} {d:ed} {ds:List ed}:Dp K H v d->kZ K H vs ds->kZ K H (v::vs) (d::ds)
end
mutual
variable{X:Cx}{ac:List (Addr×Obj)}{σ:St}{H:Hp}{s:ag}
theorem Dp.reads(I:Inv X ac σ H s):∀{v:V}{d:ed}{u:aa},Dp X.K H v d->RelV v u->∃as,BN s.heap u d as
 | _,_,u,.aB,r=>by
  obtain rfl:u=bq:=r;exact⟨_,.none⟩
 | _,_,u,.bl b,r=>by
  obtain rfl:u=g8 b:=r;exact⟨_,.bool b⟩
 | _,_,_,.int i,⟨t,e⟩=>by
  subst e;exact⟨_,.int i t⟩
 | _,_,_,.str x,⟨t,e⟩=>by
  subst e;exact⟨_,.str x t⟩
 | _,_,u,@Dp.lst _ _ a xs ds hq cu,r=>by
  obtain rfl:u=ar a:=r;obtain⟨its,rv,⟨o,n,e,hc,_,hd⟩,_⟩:=I.list hq;obtain⟨as,ha⟩:=kZ.reads I cu rv;exact⟨_,.list e hc hd (by simpa using ha)⟩
 | _,_,u,@Dp.tup _ _ a xs ds hq cu,r=>by
  obtain rfl:u=ar a:=r;obtain⟨its,rv,⟨o,e,hc,n,hd⟩,_⟩:=I.tuple hq;obtain⟨as,ha⟩:=kZ.reads I cu rv;exact⟨_,.tuple e hc hd (by simpa using ha)⟩
theorem kZ.reads(I:Inv X ac σ H s):∀{vs:List V}{ds:List ed}{us:List aa},kZ X.K H vs ds->Vals vs us->∃as,F_ s.heap us ds as
 | _,_,_,.nil,.nil=>⟨_,.nil⟩
 | _,_,_,.cons h t,.cons r rs=>by
  obtain⟨as,ha⟩:=Dp.reads I h r;obtain⟨bs,hb⟩:=kZ.reads I t rs;exact⟨_,.cons ha hb⟩
end
def IW(K:ay)(neg:Bool):R2:=λx y H Q=>∃d e,Dp K H x d/\Dp K H y e/\d.canLay0=true/\e.canLay0=true/\min d.depth e.depth<=200/\Q (.bl (if neg then !lQ d e else lQ d e)) H
theorem Zn4(hu:X.A.units+200<cLine):c7 X (compareOp .Eq) (IW X.K false):=by
 intro ac s σ H x y v u Q I rx ry h;obtain⟨d,e,hx,hy,h1,h2,hd,q⟩:=h;obtain⟨as,ra⟩:=hx.reads I rx;obtain⟨bs,rb⟩:=hy.reads I ry;exact ZCS ra rb h1 h2 (by lia) ⟨.bl _,H,I,rfl,q⟩
theorem Zn8(hu:X.A.units+200<cLine):c7 X (compareOp .NotEq) (IW X.K true):=by
 intro ac s σ H x y v u Q I rx ry h;obtain⟨d,e,hx,hy,h1,h2,hd,q⟩:=h;obtain⟨as,ra⟩:=hx.reads I rx;obtain⟨bs,rb⟩:=hy.reads I ry;exact ZCT ra rb h1 h2 (by lia) ⟨.bl _,H,I,rfl,q⟩
theorem zp{A:aC}{k:Nat}(hr:bK k A):A.units+200<cLine:=by
 have:=hr.un;lia
def TK(H H':Hp):Prop := ∀b xs,H b=some (.tup xs)->H' b=some (.tup xs)
theorem TK.trans{H1 H2:Hp}(a:TK H H1)(b:TK H1 H2):TK H H2:=λc xs h=>b c xs (a c xs h)
variable{p:Addr}{o:HO}
theorem TK.new(h:H p=none):TK H (upd H p o):=λb xs q=>by
 rw[Zc (Zi q h)];exact q
theorem TK.lst{H:Hp}{p:Addr}{xs:List V}{o:HO}(h:H p=some (.lst xs)):TK H (upd H p o):=λb ys q=>by
 by_cases e:b=p
 .subst e;rw[h] at q;cases q
 .rw[Zc e];exact q
variable{H':Hp}
theorem Zj.tk(h:Zj H H'):TK H H':=λb xs q=>h b _ q
theorem Zj.new(h:H p=none):Zj H (upd H p o):=λb u q=>by
 rw[Zc (Zi q h)];exact q
theorem Zj.du(h:Zj H H')(hp:H p=none):Zj H (upd H' p o):=λb u q=>by
 rw[Zc (Zi q hp)];exact h b u q
theorem rl{b:Addr}(h:upd H p o b=none):b≠p/\H b=none:=by
 by_cases e:b=p
 .subst e;rw[Za] at h;cases h
 .rw[Zc e] at h;exact⟨e,h⟩
theorem cut{body:List Stmt}{D:Ends}(n:Nat)(R:St->Hp->Prop)(h2:∃u,c8 X (body.drop n) u/\∀ av H',R av H'->u D av H')
  (h1:∀u,c8 X (body.drop n) u->(∀ av H',R av H'->u D av H')->∃t,c8 X body t/\t D σ H):∃t,c8 X body t/\t D σ H :=
 let ⟨u,a,b⟩:=h2
 h1 u a b
theorem ck.app{α β : Type}{F : α -> β -> Prop}:∀{l₁ UJ : List α}{l₂ UK : List β},ck F l₁ l₂ -> ck F UJ UK -> ck F (l₁ ++ UJ) (l₂ ++ UK)
 | _,_,_,_,.nil,s=>s
 | _,_,_,_,.cons r t,s=>.cons r (ck.app t s)
variable{α β:Type}
theorem ck.z8{F : α -> β -> Prop}{l:List α}{k:List β}(h:ck F l k):∀{i:Nat}{a : α},l[i]?= some a->∃b,k[i]?= some b/\F a b:=by
 induction h with
 | nil =>
  intro i a e;cases e
 | cons r t ih =>
  intro i a e;cases i with
  | zero =>
   injection e with e;subst e;exact⟨_,rfl,r⟩
  | succ i=>exact ih e
theorem ck.SR{F : α -> β -> Prop}{l:List α}{k:List β}(h:ck F l k):∀{i:Nat}{b : β},k[i]?= some b->∃a,l[i]?= some a/\F a b:=by
 induction h with
 | nil =>
  intro i a e;cases e
 | cons r t ih =>
  intro i a e;cases i with
  | zero =>
   injection e with e;subst e;exact⟨_,rfl,r⟩
  | succ i=>exact ih e
theorem ck.Lw{F : α -> β -> Prop}{l:List α}{k:List β}(h:ck F l k){a : α}(m:a∈l):∃b∈k,F a b:=by
 obtain⟨i,e⟩:=fc.mp m;obtain⟨b,h1,h2⟩:=ck.z8 h e;exact⟨b,bW h1,h2⟩
theorem ck.UP{F : α -> β -> Prop}{l:List α}{k:List β}(h:ck F l k){b : β}(m:b∈k):∃a∈l,F a b:=by
 obtain⟨i,e⟩:=fc.mp m;obtain⟨a,h1,h2⟩:=ck.SR h e;exact⟨a,bW h1,h2⟩
theorem Hs(l:List α)(a : α):(l ++ [a])[(l ++ [a]).length-1]?= some a:=by
 simp
theorem Hm(l:List α)(a : α):(l ++ [a]).dropLast=l:=by
 simp
end L2
namespace Fg
open PySem L2 nB
abbrev SL:Str := "/"
inductive fj(H:Hp):List V->Gr Str->Prop
 | nil:fj H [] .nil
 | cons {p q:Addr} {t:Str} {ys vs:List V} {w o:Gr Str}:H p=some (.tup [.str t,.ref q])->H q=some (.tup ys)->fj H ys w->fj H vs o->fj H (.ref p::vs) (.cons t w o)
theorem fj.mono{H H':Hp}(k:TK H H'):∀{vs:List V}{g:Gr Str},fj H vs g->fj H' vs g:=by
 intro vs g h
 induction h with
 | nil=>exact .nil
 | cons h1 h2 _ _ h3 h4=>exact .cons (k _ _ h1) (k _ _ h2) h3 h4
theorem fj.snoc{H:Hp}{p q:Addr}{t:Str}{ys:List V}{w:Gr Str}(h1:H p=some (.tup [.str t,.ref q]))(h2:H q=some (.tup ys))(h3:fj H ys w) :
  ∀{vs:List V}{g:Gr Str},fj H vs g->fj H (vs ++ [.ref p]) (snoc g t w)
 | _,_,.nil=>.cons h1 h2 h3 .nil
 | _,_,.cons a b c d=>.cons a b c (fj.snoc h1 h2 h3 d)
theorem fj.length{H:Hp}:∀{vs:List V}{g:Gr Str},fj H vs g->vs.length<=(words SL g).length
 | _,_,.nil=>aD _
 | _,_,.cons _ _ _ d=>by
  have:=d.length;simp only[bB,words,cw];lia
abbrev Dy(H:Hp):List Addr->List (Gr Str)->Prop:=ck λa g=>∃vs,H a=some (.lst vs)/\fj H vs g
theorem CV{H H':Hp}(k:TK H H'):∀{as:List Addr}{gs:List (Gr Str)},Dy H as gs->(∀b∈as,∀o,H b=some o->H' b=some o)->Dy H' as gs
 | _,_,.nil,_=>.nil
 | _,_,.cons ⟨vs,h1,h2⟩ t,hk=>.cons ⟨vs,hk _ (bw ..) _ h1,h2.mono k⟩ (CV k t λb hb=>hk b (bp _ hb))
theorem OW{H:Hp}:∀{as:List Addr}{gs:List (Gr Str)},Dy H as gs->∀b∈as,∃o,H b=some o
 | _,_,.nil,_,hb=>nomatch hb
 | _,_,.cons ⟨vs,h1,_⟩ t,b,hb=>by
  rcases a8.mp hb with rfl|hb
  .exact⟨_,h1⟩
  .exact OW t b hb
def mw(t:Str):Prop:=t.cps.toList ≠ []/\∀c∈t.cps.toList,97<=c/\c<=122
def pP(t:Str):Prop := ∀c∈t.cps.toList,97<=c/\c<=122
theorem Zmr(x y:Str):(x++y).cps.toList=x.cps.toList++y.cps.toList:=by
 show(x.cps++y.cps).toList=_;simp
theorem ZlB{x y:Str}(hx:pP x)(hy:pP y):pP (x++y):=λc hc=>by
 rw[Zmr] at hc;exact(bV.mp hc).elim (hx c) (hy c)
variable{t:Str}
theorem mw.Lu(h:mw t):pP t:=h.2
theorem Zk6{c:Nat}(h1:97<=c)(h2:c<=122):mw ⟨#[c]⟩:=⟨by simp,λd hd=>by simp at hd;lia⟩
theorem mw.ne(h:mw t):t≠SL:=λe=>by
 subst e;have:=h.2 47 (by decide);lia
theorem pP.ok(h:pP t):kI t=true:=by
 unfold kI;rw[Array.all_eq_true_iff_forall_mem];intro c hc;have:=h c (by simpa using hc);exact aJ (by lia)
theorem Zo6:kI SL=true:=by decide +kernel
def vW:Str := "abcdefghijklmnopqrstuvwxyz"
theorem ZmN:∀n:_root_.Fin 26,97<=vW.cps.toList.getD n.val 0/\vW.cps.toList.getD n.val 0<=122/\n.val<vW.cps.toList.length:=by decide
theorem Znx{i:Int}(h0:0<=i)(h1:i<26):∃c,my vW.cps.toList i=some c/\97<=c/\c<=122:=by
 obtain⟨n,rfl⟩:=Wo h0;obtain⟨a,b,c⟩:=ZmN ⟨n,by lia⟩;refine⟨_,Ip (cG c),?_,?_⟩
 .rw[WD,cG c] at a;exact a
 .rw[WD,cG c] at b;exact b
theorem Zmj{ns:List Int}{k:Int}(h0:0<=k)(h:k<(ns.length:Int)):∃v:Int,my (ns.map V.int) k=some (.int v):=by
 obtain⟨n,rfl⟩:=Wo h0;have hn:n<ns.length:=by lia
 exact⟨ns[n],Ip (by rw[bM,cG hn];rfl)⟩
variable{n:Nat}
theorem Iw(h:n<=100000):n<=sizeLine:=cz h (by decide)
theorem lj(h:n<=100000):n<sizeLine:=qG h (by decide)
theorem ZmB(x y:Str):(x++y).length=x.length+y.length:=by
 show(x.cps++y.cps).size=_;rw[Array.size_append];rfl
theorem Dd{K:ay}{H:Hp}:∀ws:List Str,kZ K H (ws.map V.str) (ws.map fY)
 | []=>.nil
 | w::ws=>.cons (.str w) (Dd ws)
theorem CD:∀{ws:List Str},(∀w∈ws,kI w=true)->iL (ws.map fY)=true
 | [],_=>rfl
 | w::ws,h=>by
  show(kI w&&iL (ws.map fY))=true;rw[h w (bw ..),CD λx hx=>h x (bp _ hx)];rfl
theorem Cz:∀ws:List Str,jk (ws.map fY)=0
 | []=>rfl
 | w::ws=>by
  show max (ed.depth (.str w)) (jk (ws.map fY))=0;rw[Cz ws];rfl
end Fg
namespace L2
open PySem PySem.Spec PyProof.Rows
variable{X:Cx}
theorem Ht(hu:X.A.units+200<cLine):c7 X (compareOp .NotEq) (λx y H Q=>∃a b xs,x=.ref a/\y=.ref b/\au X.K H a xs/\au X.K H b []/\Q (.bl (!xs.isEmpty)) H):=by
 intro ac s σ H x y v u Q I rx ry h;obtain⟨a,b,xs,rfl,rfl,ha,hb,q⟩:=h;cases xs with
 | nil=>exact Zn8 hu ac s σ H _ _ v u Q I rx ry ⟨.list [],.list [],.lst ha .nil,.lst hb .nil,rfl,rfl,by decide,q⟩
 | cons x xs =>
  cases rx;cases ry;obtain⟨its,r,pl,_⟩:=I.list ha;obtain⟨ou,r2,pl2,_⟩:=I.list hb;have l1:=r.length;have l2:=r2.length;refine ZCR pl.isList pl2.isList ?_ (by lia) X.prog X.w X.xe _ ⟨.bl _,H,I,rfl,q⟩;rw[cO,cO,<- l1,<- l2];rfl
end L2
namespace Fg
open PySem L2 nB
def cs(x:Str):List Nat:=x.cps.toList
theorem Zn6{x y:Str}(h:cs x=cs y):x=y:=by
 cases x with
 | mk a =>
  cases y with
  | mk b=>exact congrArg Str.mk (VR.mp h)
end Fg
namespace L2
open PySem PySem.Spec PyProof.Rows
variable{P:aq}{w:ap}{H:Hp}{h:Heap}{a:Addr}{o:HO}
theorem ZX.there(x:ZX P w H h a o):∃ob,h.get? a=some ob:=by
 cases o with
 | lst xs=>obtain⟨_,_,_,_,e⟩:=x;exact⟨_,e⟩
 | tup xs=>obtain⟨_,_,_,ob,e,_⟩:=x;exact⟨_,e⟩
 | dK ae=>obtain⟨_,_,_,_,ob,_,_,e,_⟩:=x;exact⟨_,e⟩
 | dT ae=>obtain⟨_,_,_,_,ob,_,_,e,_⟩:=x;exact⟨_,e⟩
 | set S n=>obtain⟨ob,_,_,_,e,_⟩:=x;exact⟨_,e⟩
 | ins C dx fs=>obtain⟨_,_,_,e,_⟩:=x;exact⟨_,e⟩
 | own y=>obtain⟨_,e⟩:=x;exact⟨_,e⟩
 | xd fs=>obtain⟨_,⟨_,_,_,e,_⟩,_⟩:=x;exact⟨_,e⟩
 | E4 lo hi=>obtain⟨_,_,_,e⟩:=x;exact⟨_,e⟩
 | aO ob u=>obtain⟨e,_⟩:=x;exact⟨_,e⟩
 | bR ps=>exact⟨_,(show h.get? a=some _ from x)⟩
 | met f y=>exact⟨_,(show h.get? a=some _ from x)⟩
 | ext φ=>obtain⟨_,⟨_,e⟩,_⟩:=x;exact⟨_,e⟩
theorem bD.SO(x:bD P w H h)(e:h.get? a=none):H a=none:=by
 cases q:H a with
 | none=>rfl
 | some u =>
  obtain⟨ob,e'⟩:=(x a u q).there;rw[e] at e';cases e'
variable{X:Cx}{ac:List (Addr×Obj)}{σ:St}{s:ag}{h':Heap}
theorem Inv.ZAh{t':Nat}(I:Inv X ac σ H s)(k:∀b u,s.heap.get? b=some u->h'.get? b=some u)(hp:s.heap.get? a=none)(new:ZX X.prog X.w (upd H a o) h' a o) :
  Inv X ac σ (upd H a o) { s with heap:=h',toks:=t' }:=by
 have hn:=I.aj.SO hp;have ne:∀b u,s.heap.get? b=some u->b≠a:=λb u e z=>by
  rw[z,hp] at e;cases e
 refine I.un ⟨λb u q _ _ _=>k b u q,λb u q _ _ _=>⟨u.slots,k b u q⟩,λb u q n _=>by rw[Zc (ne b u q)];exact n,λb u q _=>⟨u,k b u q⟩,
  λb xs q=>by rw[Zc (Zi q hn)];exact q,λb u xs q=>by rw[Zc (Zi q hn)];exact q,λb ps q=>⟨#[],by rw[Zc (Zi q hn),q];simp⟩⟩ λb u e=>?_
 by_cases hb:b=a
 .subst hb;rw[Za] at e;cases e;exact new
 .rw[Zc hb] at e;exact(I.aj b u e).jJ (λc v _ q=>k c v q) (λc q=>by rw[Zc (Zi q hn)];exact q) λc xs q=>by rw[Zc (Zi q hn)];exact q
theorem HG:∀{bs:List Bool}{us:List aa},Vals (bs.map V.bl) us->∀(i:Nat)(v:aa),us[i]?= some v->∃b,bs[i]?= some b/\v=.bool b
 | [],_,.nil,i,v,e=>by simp at e
 | b::bs,_,.cons r t,0,v,e=>by
  obtain rfl:_=g8 b:=r;simp at e;exact⟨b,rfl,e.symm⟩
 | b::bs,_,.cons r t,i+1,v,e=>by
  obtain⟨c,h1,h2⟩:=HG t i v (by simpa using e);exact⟨c,by simpa using h1,h2⟩
theorem all_range:∀(bs:List Bool),((fL bs.length).all λi=>(bs[i]?).getD true)=bs.all id:=by
 intro bs;rw[sG,Bv,Bv];constructor
 .intro h b hb;obtain⟨i,hi,rfl⟩:=WI hb;have:=h i (ik.mpr hi);rw[cG hi] at this;exact this
 .intro h i hi;have dh:=ik.mp hi;rw[cG dh];exact h _ (yi dh)
theorem Zlj(hc:X.calm=true):gH X (.builtin "all") (λxs H Q=>∃(p:Addr)(bs:List Bool),xs=[.ref p]/\au X.K H p (bs.map V.bl)/\Q (.bl (bs.all id)) H):=by
 intro ac s σ H xs us Q I r h;obtain⟨p,bs,rfl,hS,q⟩:=h;obtain⟨u,rfl,ru⟩:=Vals.one r;cases ru;obtain⟨its,rv,pl,hz⟩:=I.list hS;have hl:=pl.isList;have hlen:bs.length=its.length:=by
  have:=rv.length;rw[aF] at this;exact this
 refine call_all_walk (vQ hl ⟨s.heap.objs.size,[s.heap.objs.size,p],[s.heap.objs.size],its.toArray.size,_,_,λi=>(bs[i]?).getD true,rfl,
  BQ (A:=X.A.in1) (I.ok.hd hc) _ p (bo pl.lt) its.toArray,⟨⟨_,bS _ rfl,rfl,rfl⟩,hl.push _⟩,λi v s' Q' E' hP hQ=>?_,λh' tk hk=>?_⟩)
 .obtain⟨b,e,e2⟩:=HG rv i v (by simpa using hP);subst e2;simp only[e,W7] at hQ;exact nr hQ
 .rw[cO,<- hlen,all_range];refine⟨.bl _,H,I.kept (t':=tk) λb o e=>hk b o (λhm=>?_) (aH _ e),rfl,q⟩;rw[aI.mp hm] at e;exact cW _ (aP e)
def jA(c:Nat):Bool:=decide (97<=c)&&decide (c<=122)
theorem Ru(a b:Nat):decide (([a]:List Nat) < [b])=decide (a<b):=by
 have h:(([a]:List Nat) < [b])↔a<b:=by
  constructor
  .intro h;cases h with
   | rel h=>exact h
   | cons h=>cases h
  .intro h;exact List.Lex.rel h
 exact decide_eq_decide.mpr h
variable{prog:aq}{A:aC}{E Q:aa->ag->Prop}{x:Str}{u:Tok}
theorem RP{y:Str}{t:Tok}(h:Q (.bool (!decide (y.cps.toList<x.cps.toList))) s):wpAny (model prog w) A (compareOp .LtE (.str x t) (.str y u)) Q E s:=PySem.P.le_str h
variable{C:Addr}{m:Str->Option aa}{env:Env}{pos:Pos}
theorem ZoA{ku : ag}{sc:cH}{n:Str}{v:aa}(x:InComp ku C m s)(hk:sc.kind=.function)(hl:sc.names.lookup n=some .local)
  (hv:m n=some v) (hd:(n == ("__debug__" : Str))=false) (h:Q v s):wpAny (model prog w) A (eval (.Name n pos) (compEnv sc C env)) Q E s:=PySem.ldK x hk hl hv h hd
variable{scope:cH}{j j2:Nat}{p1 p2 p3:Pos}
theorem Zny{c:Nat}(hk:scope.kind=.function)(hx:scope.names.lookup x=some .local)(hd:(x == ("__debug__" : Str))=false)
  (hn:s.heap.Ns C m) (hm:m x=some (.str ⟨#[c]⟩ u)) :
  wpAny (model prog w) A (eval (.Compare (.Constant (.str "a") j p1) [.LtE,.LtE] [.Name x p2,.Constant (.str "z") j2 p3] pos) (compEnv scope C env)) (λr s'=>r=.bool (jA c)/\Keeps s s') E s:=by
 have I0:=(Wn hn).tok (s.toks+1);have ea:("a" : Str).cps.toList=[97]:=by decide +kernel
 have ez:("z" : Str).cps.toList=[122]:=by decide +kernel
 have e1:decide (([c]:List Nat) < [97])=decide (c<97):=Ru c 97;have e2:decide (([122]:List Nat) < [c])=decide (122<c):=Ru 122 c;refine V8 (Mj ?_);refine chain_link ?_;refine ZoA I0 hk hx hm hd ?_;refine RP ?_;rw[ea];show wpAny (model prog w) A (truthy (.bool (!decide (([c]:List Nat) < [97])))) _ _ _;rw[e1];refine nr ?_;by_cases h1:c<97
 .rw[aJ h1];refine ite_ff ⟨?_,I0.done⟩;unfold jA;rw[bt (by lia : ¬ 97<=c)];rfl
 .rw[bt h1];refine ite_tt ?_;refine chain_last ?_;refine Mj ?_;refine RP ?_;rw[ez];refine⟨?_,(I0.tok _).done⟩;show g8 (!decide (([122]:List Nat) < [c]))=_;rw[e2];unfold jA;rw[aJ (by lia:97<=c)];by_cases h2:c<=122
  .rw[aJ h2,bt (by lia)];rfl
  .rw[bt h2,aJ (by lia)];rfl
theorem RG:∀{cs:List Nat}{vs us:List aa},(∀(j:Nat)(v:aa),vs[j]?= some v->∃(c:Nat)(u:Tok),cs[j]?= some c/\v=ef ⟨#[c]⟩ u)->vs.length=cs.length->ck (λv r=>∃c u,v=ef ⟨#[c]⟩ u/\r=g8 (jA c)) vs us ->
  Vals (cs.map λc=>.bl (jA c)) us
 | [],[],_,_,_,.nil=>.nil
 | [],v::vs,_,_,h,_=>by simp at h
 | c::cs,[],_,_,h,_=>by simp at h
 | c::cs,v::vs,_,hP,hl,.cons hr t=>by
  obtain⟨c',u',e1,e2⟩:=hP 0 v rfl;obtain⟨c2,u2,e3,e4⟩:=hr;simp at e1;subst e1;rw[e2] at e3;injection e3 with e5 _;injection e5 with e6;simp at e6;subst e6;refine .cons e4 (RG (λj v hv=>?_) (by simpa using hl) t);obtain⟨c3,u3,f1,f2⟩:=hP (j+1) v (by simpa using hv);exact⟨c3,u3,by simpa using f1,f2⟩
variable{iter:Expr}{te:TE}{px p4:Pos}
theorem Zh9(hi:PE X iter te)(hc:X.calm=true)(Eh:∀y∈scope.names,y.2 ≠ .free)(iC:∀y∈scope.names,y.2 ≠ .cell)(hk:scope.kind=.function)
  (qe:∀y∈scope.names,y.2=.local->scope.names.lookup y.1=some .local) (hx:scope.names.lookup x=some .local) (hd:(x == ("__debug__" : Str))=false) (hs:∀v,foldedSetIterable iter X.env v=pure v) :
  PE X (.ListComp (.Compare (.Constant (.str "a") j p1) [.LtE,.LtE] [.Name x p2,.Constant (.str "z") j2 p3] p4) [⟨.Name x px,iter,[],0⟩] scope pos)
   (λσ H Q=>te σ H λv H1=>∃z,v=.str z/\z.length<=sizeLine/\∀p,H1 p=none->Q (.ref p) (upd H1 p (.lst (z.cps.toList.map λc=>.bl (jA c))))):=by
 intro ac s σ H Q I h;refine wpAny_ListComp_walk (λ_=>true) (λv r=>∃c u,v=ef ⟨#[c]⟩ u/\r=g8 (jA c)) Eh iC hk qe hx (aw (hi ac s σ H _ I h) ?_) hs;rintro v s1 ⟨xv,H1,I1,r1,q1⟩;obtain⟨z,rfl,hz,q⟩:=q1;obtain⟨t,rfl⟩:=r1;refine wpAny_pyIter_str λo St W cC=>⟨s1.heap.objs.size,[s1.heap.objs.size],[s1.heap.objs.size],z.cps.size,SignAt z,St,rfl,W X.A (I1.ok.hd hc),hz,cC,λb hb=>?_,⟨?_,?_⟩,?_⟩
 .show b<(s1.heap.push o).objs.size;rw[iJ,aI.mp hb];exact kG _
 .intro C i v s3 m3 E' hP hn hm _ _;exact ah ⟨rfl,(Wn hn).done⟩
 .intro C i v s3 m3 E' hP hp hn hm _ _;obtain⟨c,u,_,e⟩:=hP;subst e;exact cM (Zny hk hx hd hn hm) (λr s4 h4=>⟨⟨c,u,rfl,h4.1⟩,h4.2⟩) λ_ _ e=>e
 .intro D h' tk ys vs lG jC Zzg hlen hP hF gN;have Y1:ck (λv r=>∃c u,v=ef ⟨#[c]⟩ u/\r=g8 (jA c)) vs ys.toList:=by
   rw[List.filter_eq_self.mpr (λ_ _=>rfl)] at hF;exact hF
  have hV:=RG (cs:=z.cps.toList) (λj v hv=>by
   obtain⟨c,u,e1,e2⟩:=hP j v hv;exact⟨c,u,by rw[fz];exact e1,e2⟩) (by rw[hlen,aW]) Y1
  have up:∀b ob,s1.heap.get? b=some ob->h'.get? b=some ob:=λb ob e=>gN b ob (λhm=>by
   rw[aI.mp hm] at e;exact cW _ (aP e)) (aH _ e)
  have hD:s1.heap.get? D=none:=by
   cases e:s1.heap.get? D with
   | none=>rfl
   | some ob =>
    rw[aH _ e] at lG;cases lG
  obtain⟨nD,eD⟩:=Zzg;refine⟨.ref D,_,I1.ZAh (a:=D) (o:=.lst (z.cps.toList.map λc=>.bl (jA c))) (t':=tk) up hD ⟨?_,ys.toList,nD,hV,by rw[Array.toArray_toList];exact eD⟩,rfl,q D (I1.aj.SO hD)⟩;rw[aF,aW];exact hz
end L2
namespace L2
open PySem
theorem Zn9:bootBuiltins "all" = some (.builtin "all"):=by decide +kernel
end L2
namespace Fg
open PySem L2 nB
def zQ(z:Str):Bool:=decide (1<=z.length)&&decide (z.length<=8)&&z.cps.toList.all jA
def QS:Sp:=λvs H Q _=>∃z:Str,vs=[.str z]/\z.length<=100000/\∀H',Zj H H'->Q (.bl (zQ z)) H'
end Fg
namespace L2
open PySem PySem.Spec PyProof.Rows
theorem Zf4:bootBuiltins "enumerate" = some (.type "enumerate"):=by decide +kernel
def yO(K:ay)(l:Addr):It :=
 ⟨λi H=>∃xs x,au K H l xs/\xs[i]?= some x,λi H x H'=>∃p,H p=none/\x=.ref p/\∀xs,au K H l xs->∃y,xs[i]?= some y/\H'=upd H p (.tup [.int i,y]),λi H=>∃xs,au K H l xs/\xs.length<=i⟩
variable{w:ap}{Jp:List Expr}{tp:Pos}
theorem Zjl{P:aq}{K:ay}{x1}(l e it:Addr)(aY:e≠it) :
  Turn P w K (.Tuple Jp x1 tp) (yO K l) [e,it] e (λi h=>(∃old,IsEnum h e it (i:Int) old)/\h.IsListIter it l i) where
 mem:=by simp
 obj:=λi h st b hb=>by
  obtain⟨⟨old,he⟩,o,ho,hc,hd⟩:=st;rcases a8.mp hb with rfl|hb
  .exact⟨_,he,λv z=>by cases z⟩
  .obtain rfl:=aI.mp hb;exact⟨o,ho,λv z=>by rw[hd] at z;cases z⟩
 keep:=λi h h' st k=>by
  obtain⟨⟨old,he⟩,o,ho,r⟩:=st;exact⟨⟨old,k e (by simp) _ he⟩,o,k it (by simp) o ho,r⟩
 item:=by
  intro X hP hw hK hc i ac s σ H E I hf st hg;subst hP hw hK;obtain⟨⟨old,he⟩,hit⟩:=st;obtain⟨xs,x,hq,hx⟩:=hg;obtain⟨its,rv,pl,hz⟩:=I.list hq;obtain⟨u,hu,ru⟩:=rv.get hx;have fe:=hf e (by simp);have fi:=hf it (by simp);refine wpAny_pyNext_enum_item he hit pl.isList (x:=u) (by simpa using hu) aY λh1 he1 ZyH AL hz1 hk1=>⟨_,rfl,wpAny_letOwnedTupleGo_enum he1 λh2 pZ qj=>?_⟩;have mF:H s.heap.objs.size=none:=I.aj.fresh (aD _);have UZ:s.heap.objs.size≠e:=vF (aP he);obtain⟨oi,hoi,_⟩:=id hit;have nei:s.heap.objs.size≠it:=vF (aP hoi);have kp:∀b o,b ∉ [e,it]->s.heap.get? b=some o->h2.get? b=some o:=λb o hb q=>by
   have b1:b≠e:=λz=>hb (by rw[z];simp);have b2:b≠it:=λz=>hb (by rw[z];simp);exact(qj.2 b b1).trans (hk1 b o b1 b2 q)
  have gP:h2.get? s.heap.objs.size=some { cls:=.type "tuple",data:=.seq #[.int i s.toks,u] }:=(qj.2 _ UZ).trans AL;have nb:∀b o,s.heap.get? b=some o->b≠s.heap.objs.size:=λb o q=>bo (aP q);have tracked:∀b o,H b=some o->b ∉ [e,it]:=λb o q hb=>by
   rcases a8.mp hb with rfl|hb
   .rw[fe.1] at q;cases q
   .obtain rfl:=aI.mp hb;rw[fi.1] at q;cases q
  have it2:h2.IsListIter it l (i+1):=by
   obtain⟨o,ho,r⟩:=ZyH;exact⟨o,(qj.2 it aY.symm).trans ho,r⟩
  have AB:bD X.prog X.w (upd H s.heap.objs.size (.tup [.int i,x])) h2:=λb o q=>by
   by_cases hb:b=s.heap.objs.size
   .subst hb;rw[Za] at q;cases q;exact⟨by show 2<=sizeLine;decide,[.int i s.toks,u],.cons ⟨_,rfl⟩ (.cons ru .nil),_,gP,rfl,_,rfl⟩
   .rw[Zc hb] at q;refine(I.aj b o q).jJ (λc v uH r=>kp c v ?_ r) (λc r=>by rw[Zc (Zi r mF)];exact r) λc ys r=>by rw[Zc (Zi r mF)];exact r
    rcases uH with rfl|uH
    .exact tracked _ _ q
    .exact tracked _ _ uH
  have I2:Inv X ac σ (upd H s.heap.objs.size (.tup [.int i,x])) { s with heap:=h2,gens:=s.gens,drawn:=s.drawn,toks:=s.toks+1 }:=by
   refine I.step (ch:=[e,it]) (λb hb=>?_) (λb o _ _ hb q _=>kp b o hb q) (λb o _ _ hb q _=>⟨o.slots,kp b o hb q⟩) (λb o _ q n=>by rw[Zc (nb b o q)];exact n) (λb o hb q=>⟨o,kp b o hb q⟩)
    (λb ys q=>by rw[Zc (Zi q mF)];exact q) (λb o ys q=>by rw[Zc (Zi q mF)];exact q) (λb ps q=>⟨#[],by rw[Zc (Zi q mF),q];simp⟩) (λm hm=>?_) AB I.bare
   .have f:bO X ac H b:=hf b hb;exact⟨f.2.2.2.1,f.2.1,f.2.2.2.2.1,f.2.2.2.2.2⟩
   .obtain⟨o,es,ep,ho,r⟩:=hm;refine⟨o,es,ep,kp _ o (λhb=>?_) ho,r⟩;exact(hf _ hb).2.1 rfl
  refine⟨.ref s.heap.objs.size,_,I2,rfl,⟨_,mF,rfl,λys hy=>⟨x,by rw[I.UM hy hq];exact hx,rfl⟩⟩,⟨⟨_,pZ⟩,it2⟩,λb hb=>?_⟩;rcases a8.mp hb with rfl|hb
  .rw[Zc UZ.symm];exact fe.1
  .obtain rfl:=aI.mp hb;rw[Zc nei.symm];exact fi.1
 done:=by
  intro X hP hw hK hc i ac s σ H E I hf st hg;subst hP hw hK;obtain⟨⟨old,he⟩,hit⟩:=st;obtain⟨xs,hq,hx⟩:=hg;obtain⟨its,rv,pl,hz⟩:=I.list hq;obtain⟨f0,f1,f2,f3,f4,f5⟩:=hf it (by simp);have hlen:=rv.length;exact wpAny_pyNext_enum_end (I.ok.hd hc) he hit pl.isList (by simp;lia) λh' eb=>⟨rfl,I.turned (t':=s.toks) (λb o hb q=>eb b o hb q) f0 f1 f3 f4 f5⟩
 self:=λ_ _ _ _ _ st h=>by
  obtain⟨⟨old,he⟩,_⟩:=st;exact YB he h
def ZoQ(K:ay)(tl:TA):TI:=λσ H R=>tl σ H λvs H1=>∃a xs,vs=[.ref a]/\au K H1 a xs/\R (yO K a) H1
variable{X:Cx}{x1:Nat}{pos:Pos}
theorem ZmL{l:Expr}{ta:TA}{p:Pos}(hg:Gl X "enumerate") (hm:X.mg "enumerate" = none) (ha:PA X [l] ta) (hs:starEach [l] X.env=[(false,eval l X.env)]:=by rfl) :
  PI X (.Tuple Jp x1 tp) (.Call (.Name "enumerate" p) [l] [] pos) (ZoQ X.K ta):=by
 intro ac s σ H R I h;refine Call_ (nQ I hg hm Zf4 (BJ (aw (ha pos ac s σ H _ I h) ?_) hs rfl));rintro us s1 ⟨vs,H1,I1,r1,q1⟩;obtain⟨a,xs,e,hq,q⟩:=q1;subst e;obtain⟨u,rfl,ru⟩:=Vals.one r1;cases ru;obtain⟨its,rv,pl,hz⟩:=I1.list hq;refine call_enumerate_list pl.isList λh' he hit hz' hk=>YB he ?_;refine⟨s1.heap.objs.size+1,[s1.heap.objs.size+1,s1.heap.objs.size],_,_,H1,rfl,I1.kept (t':=s1.toks) hk,Zjl a _ _ (Nat.succ_ne_self _),⟨⟨_,he⟩,hit⟩,λb hb=>?_,q⟩;have aG:s1.heap.objs.size<=b:=by
  rcases a8.mp hb with rfl|hb
  .exact qF _
  .rw[aI.mp hb];exact aD _
 exact I1.lC aG (I1.aj.fresh aG)
variable{g:TG}{σ:St}{H:Hp}
theorem Zlw{K:ay}{a:Addr}{xs:List V}{tb:TS}{D:Ends}(Pv:Nat->St->Hp->Prop)(h0:Pv 0 σ H)(hl:∀i σ H,i<=xs.length->Pv i σ H->au K H a xs)
  (hs:∀i y p σ H,xs[i]?= some y->Pv i σ H->H p=none->g (.ref p) σ (upd H p (.tup [.int i,y])) λeu H2=>tb { D with nx:=Pv (i+1),ct:=Pv (i+1),bk:=D.nx } eu H2) (hd:∀ σ H,Pv xs.length σ H->D.nx σ H) :
  ∃W:Nat->Nat->St->Hp->Prop,(∃m,W 0 m σ H)/\∀i m σ H,W i m σ H ->
   ((yO K a).stop i H/\D.nx σ H)\/((yO K a).go i H/\∃N:St->Hp->Prop,(∀ av H',N av H'->∃m',m'<m/\W (i+1) m' av H')/\∀x H',(yO K a).ii i H x H'->g x σ H' λeu H2=>tb { D with nx:=N,ct:=N,bk:=D.nx } eu H2):=by
 refine⟨λi m σ H=>m=xs.length-i/\i<=xs.length/\Pv i σ H,⟨xs.length,by simp,bG _,h0⟩,?_⟩;rintro i m σ H ⟨rfl,hi,p⟩;have q:=hl i σ H hi p;by_cases aA:i<xs.length
 .refine .inr ⟨⟨xs,xs[i],q,by simp[aA]⟩,Pv (i+1),λav H' p'=>⟨xs.length-(i+1),by lia,rfl,aA,p'⟩,λx H' y=>?_⟩;obtain⟨b,hb,hx,hy⟩:=y;obtain⟨z,hz,hH⟩:=hy xs q;subst hx hH;exact hs i z b σ H hz p hb
 .have e:i=xs.length:=by lia
  subst e;exact .inl ⟨⟨xs,q,aD _⟩,hd σ H p⟩
abbrev fw:aa->ag->Prop:=λ_ _=>False
variable{prog:aq}{A:aC}{s:ag}{R:nh->ag->Prop}{elt target iter:Expr}{scope:cH}{acc:aa}{env:Env}
theorem Zh3{it:aa}(I:Nat->ag->Prop)
  (turn:∀n s,I n s->wpAny (model prog w) A (pyNext it) (λr s1=>match r with
   | none=>R (.ok .next) s1
   | some v=>wpAny (model prog w) A (letOwnedTupleGo target it v) (λ_ s2=>wpAny (model prog w) A (assign target env v) (λ_ s3=>wpAny (model prog w) A (eval elt env) (λx s4 =>
     wpAny (model prog w) A (call (.builtin "list.append") [acc,x]) (λ_ s5=>∃m,m<n/\I m s5) fw s4) fw s3) fw s2) fw s1) fw s)
  (n:Nat) (h:I n s):codeAny (model prog w) A (.compLoop (.ListComp elt [⟨target,iter,[],0⟩] scope pos) 0 it acc env) R s:=by
 refine X3 rfl I (λn s hI=>?_) n h;show wpAny _ _ ((compTurn (.ListComp elt [⟨target,iter,[],0⟩] scope pos) 0 it acc env).onRaise (λx=>do noteFrame x env;theTreesLotGoes x)) _ _ s;refine Yz ?_;rw[compTurn_list1];refine af (vR (af (cM (turn n s hI) (λr s1 h1=>?_) λ_ _ h'=>h'.elim)));cases r with
 | none=>exact ah h1
 | some v =>
  refine af (cM h1 (λ_ s2 h2=>?_) λ_ _ h'=>h'.elim);refine af (cM h2 (λ_ s3 h3=>?_) λ_ _ h'=>h'.elim);refine af (af (cM h3 (λx s4 h4=>?_) λ_ _ h'=>h'.elim));exact af (cM h4 (λ_ s5 h5=>ah (ah ⟨rfl,h5⟩)) λ_ _ h'=>h'.elim)
def dF(X:Cx)(N:List Str)(scope:cH)(cl:List (Str×Addr))(C:Addr)(fp:List Addr)(s:ag)(H:Hp):Cx where
 prog:=X.prog
 w:=X.w
 K:=X.K
 mg:=X.mg
 base:=X.base
 A:=X.A
 N:=N
 dr := s
 jN := H
 env:=compEnvC scope cl C X.env
 outer:=X.stack
 stack:=X.stack
 ex:=fp
 fn:=λ_=>false
 calm:=X.calm
 pn:=[]
 xe:=fw
variable{ac:List (Addr×Obj)}{cl:List (Str×Addr)}{fp:List Addr}
theorem Zkd{N:List Str}{C:Addr}(I:Inv X ac σ H s)(hk:scope.kind=.function)(hC:s.heap.objs.size<=C)(bZ:∀x c,cl.lookup x=some c->X.env.cells.lookup x=some c)
  (fV:∀x,((compEnvC scope cl C X.env).kindOf x=some .cell\/(compEnvC scope cl C X.env).kindOf x=some .free)->∃c,cl.lookup x=some c)
  (hf:∀b∈fp,bO X ac H b) (aA:∀b∈fp,b<s.heap.objs.size):(dF X N scope cl C fp s H).Ok where
 mod:=I.ok.mod
 kind:=hk
 glob:=I.ok.glob
 blt:=I.ok.blt
 above:=hC
 inj:=λx y c e1 e2=>I.ok.inj x y c (bZ x c e1) (bZ y c e2)
 has:=fV
 mz:=λx c e=>by cases e
 hd:=I.ok.hd
 frames:=I.ok.frames
 oE:=.inl rfl
 lA:=λb hb=>⟨λz=>absurd (cg (aA b hb) hC) (by rw[show b=C from z];exact cW _),λx c e=>(hf b hb).2.2.2.2.1 x c (bZ x c e)⟩
 bs:=λb o e=>⟨(I.bs b o e).1,(I.bs b o e).2⟩
 iA:=cz I.ok.iA I.sz
 mP:=λb o e hb=>by
  rcases(hf b hb).2.2.2.1 with z|z
  .exact I.ok.mP b o e z
  .exact absurd (cg (aP e) (cz I.ok.iA z)) (cW _)
 lB:=λb hb hm=>by
  rcases a8.mp (I.LW b hm) with z|z
  .exact(hf b hb).2.1 z
  .exact(hf b hb).2.2.1 z
 gL:=I.stack
 jX:=I.E6
def rJ(σ : St)(k:Nat)(aE:List (Str×Nat)):St:=FH k none++aE.map λp=>(σ[p.2]?).getD none
theorem Ov{tn:List Str}{aE:List (Str×Nat)}{h1:Heap}(I:Inv X ac σ H s)(hk:scope.kind=.function)(bZ:∀x c,cl.lookup x=some c->X.env.cells.lookup x=some c)
  (fV:∀x,((compEnvC scope cl s.heap.objs.size X.env).kindOf x=some .cell\/(compEnvC scope cl s.heap.objs.size X.env).kindOf x=some .free)->∃c,cl.lookup x=some c)
  (hf:∀b∈fp,bO X ac H b) (aA:∀b∈fp,b<s.heap.objs.size)
  (j7:∀p∈aE,X.N[p.2]?= some p.1/\X.env.scope.names.lookup p.1=some .cell/\((compEnvC scope cl s.heap.objs.size X.env).kindOf p.1=some .cell\/(compEnvC scope cl s.heap.objs.size X.env).kindOf p.1=some .free))
  (j_:h1.Ns s.heap.objs.size (λ_=>none)) (gN:∀b o,s.heap.get? b=some o->h1.get? b=some o) :
  Inv (dF X (tn++aE.map (·.1)) scope cl s.heap.objs.size fp s H) [] (rJ σ tn.length aE) H { s with heap:=h1 } where
 ok:=Zkd I hk (aD _) bZ fV hf aA
 os:=rfl
 bare:=I.bare
 base:=Un.kept gN
 loc:=by
  refine⟨λ_=>none,j_,λi x v e1 e2 hv=>?_⟩;unfold rJ at e2;by_cases hi:i<tn.length
  .rw[FA (by rw[BB];exact hi),WG,ao hi] at e2;cases e2
  .have hN:(aE.map (·.1))[i-tn.length]?= some x:=by
    have:(tn++aE.map (·.1))[i]?= some x:=e1;rw[Bx (by lia)] at this;exact this
   rw[Bx (by rw[BB];lia),BB,bM] at e2;rw[bM] at hN;cases hp:aE[i-tn.length]? with
   | none=>rw[hp] at hN;cases hN
   | some p =>
    rw[hp] at hN e2;have hx:p.1=x:=dg hN;have he:(σ[p.2]?).getD none=some v:=dg e2;obtain⟨c1,c2,c3⟩:=j7 p (bW hp);subst hx;have hs : σ[p.2]?= some (some v):=by
     cases q : σ[p.2]? with
     | none=>rw[q] at he;cases he
     | some z=>rw[q] at he;rw[show z=some v from he]
    obtain⟨m,hn,hl⟩:=I.loc;obtain⟨u,r,l⟩:=hl p.2 p.1 v c1 hs (.inr (.inl c2));refine⟨u,r,.inr ⟨c3,?_⟩⟩;obtain⟨c,hc⟩:=fV p.1 c3;refine⟨c,hc,?_⟩;rcases l with⟨l1,_⟩|⟨_,c',l2,o,ho,hd⟩
    .have:X.env.kindOf p.1=some .cell:=c2;rw[this] at l1;cases l1
    .have:c=c':=dg ((bZ p.1 c hc).symm.trans l2);subst this;exact⟨o,gN _ _ ho,hd⟩
 cell:=λx c e=>by
  obtain⟨v,o,ho,hd⟩:=I.cell x c (bZ x c e);exact⟨v,o,gN _ _ ho,hd⟩
 free:=I.aj.fresh (aD _)
 fq:=λx c e=>I.fq x c (bZ x c e)
 pin:=λp hp=>by cases hp
 aj:=I.aj.kept gN
 len:=by
  unfold rJ;show _=(tn++aE.map (·.1)).length;rw[cw,cw,BB,aF,aF]
def RN(wi:TI)(k:Nat)(aE:List (Str×Nat))(g:TG)(te:TE):TE:=λσ H Q=>wi σ H λJ H1=>∀p,H1 p=none->∃W:Nat->Nat->List V->St->Hp->Prop,(∃m,W 0 m [] (rJ σ k aE) (upd H1 p (.lst []))) /\
 ∀i m ys dc H2,W i m ys dc H2->H2 p=some (.lst ys)/\((J.stop i H2/\Q (.ref p) H2)\/(J.go i H2/\∀x H3,J.ii i H2 x H3->g x dc H3 λaS H4=>te aS H4 λv H5 =>
  H5 p=some (.lst ys)/\ys.length<sizeLine/\∃m',m'<m/\W (i+1) m' (ys ++ [v]) aS (upd H5 p (.lst (ys ++ [v])))))
variable{it:Addr}{tg:Expr}{te:TE}{H2:Hp}{s2:ag}{kz:Nat->Heap->Prop}{use:Option (aa->Sem Unit)}{Qp:aa->ag->Prop}
theorem OP{J:It}{R:Addr->Hp->Prop}(tn:List Str)(aE:List (Str×Nat))(hg:∀C fp s H,PG (dF X (tn++aE.map (·.1)) scope cl C fp s H) tg g)(he:∀C fp s H,PE (dF X (tn++aE.map (·.1)) scope cl C fp s H) elt te)(hc:X.calm=true)(iC:∀y∈scope.names,y.2 ≠ .cell)(hk:scope.kind=.function)(bZ:∀x c,cl.lookup x=some c->X.env.cells.lookup x=some c)(fV:∀C x,((compEnvC scope cl C X.env).kindOf x=some .cell\/(compEnvC scope cl C X.env).kindOf x=some .free)->∃c,cl.lookup x=some c)(j7:∀C,∀p∈aE,X.N[p.2]?= some p.1/\X.env.scope.names.lookup p.1=some .cell/\((compEnvC scope cl C X.env).kindOf p.1=some .cell\/(compEnvC scope cl C X.env).kindOf p.1=some .free))
  (I2:Inv X ac σ H2 s2) (T:Turn X.prog X.w X.K tg J fp it kz) (cE:kz 0 s2.heap) (f2:∀b∈fp,bO X ac H2 b) (q2:∀p,H2 p=none->∃W:Nat->Nat->List V->St->Hp->Prop,(∃m,W 0 m [] (rJ σ tn.length aE) (upd H2 p (.lst []))) /\
 ∀i m ys dc H2,W i m ys dc H2->H2 p=some (.lst ys)/\((J.stop i H2/\R p H2)\/(J.go i H2/\∀x H3,J.ii i H2 x H3->g x dc H3 λaS H4=>te aS H4 λv H5=>H5 p=some (.lst ys)/\ys.length<sizeLine/\∃m',m'<m/\W (i+1) m' (ys ++ [v]) aS (upd H5 p (.lst (ys ++ [v]))))))
  (Ke:∀(s3:ag)(H3:Hp),Inv X ac σ H3 s3->(∀b∈fp,bO X ac H3 b)->∀(acc:Addr)(qC:St)(H6:Hp)(s6:ag),Inv (dF X (tn++aE.map (·.1)) scope cl s3.heap.objs.size fp s3 H3) [] qC H6 s6->R acc H6->compPost (model X.prog X.w) X.A X.xe use Qp (.ref acc) s3.heap.objs.size (.ok .next) s6) :
  wpAny (model X.prog X.w) X.A (newList []) (λacc xR=>wpAny (model X.prog X.w) X.A (newFunctionEnv scope X.env.globals cl [] X.env.qual none bq (some X.env)) (λzU LY=>codeAny (model X.prog X.w) X.A (V5 (.ListComp elt [⟨tg,iter,[],0⟩] scope pos) 0 (ar it) acc { zU with scope:=relabel scope X.env }) (compPost (model X.prog X.w) X.A X.xe use Qp acc zU.locals) LY) X.xe xR) X.xe s2:=by
 have fresh:H2 s2.heap.objs.size=none:=I2.fresh;obtain⟨W,⟨m0,w0⟩,turn⟩:=q2 s2.heap.objs.size fresh;have ow:∀b∈fp,b<s2.heap.objs.size:=λb hb=>by
  obtain⟨o,ho,_⟩:=T.obj _ _ cE b hb;exact aP ho
 have I3:Inv X ac σ (upd H2 s2.heap.objs.size (.lst [])) { s2 with heap:=s2.heap.push { cls:=.type "list",data:=.seq ([]:List aa).toArray } }:=I2.AZ (its:=[]) (t':=s2.toks) .nil (bG _);refine pj (NF iC (by intro y hy;simp at hy) (λh1 uS uX=>?_) hk);dsimp only at uS uX ⊢;generalize Ai:({ s2 with heap:=s2.heap.push { cls:=.type "list",dict:=none,data:=.seq ([]:List aa).toArray } }:ag)=s3 at I3;have uL:s2.heap.push { cls:=.type "list",dict:=none,data:=.seq ([]:List aa).toArray }=s3.heap:=by rw[<- Ai]
 rw[uL] at uS uX ⊢;have LX:s3.heap.objs.size=s2.heap.objs.size+1:=by rw[<- uL,iJ]
 have Lv:∀b∈fp,b<s3.heap.objs.size:=λb hb=>cg (ow b hb) (by rw[LX];exact qF _);have f3:∀b∈fp,bO X ac (upd H2 s2.heap.objs.size (.lst [])) b:=λb hb=>⟨by rw[Zc (bo (ow b hb))];exact(f2 b hb).1,(f2 b hb).2⟩;have AW:∀b o,s3.heap.get? b=some o->h1.get? b=some o:=λb o q=>uX.extBut b o (bo (aP q)) (aH _ q);have iH:kz 0 h1:=T.keep _ _ _ cE λb hb o q=>AW b o (by rw[<- uL];exact aH _ q);have I4:=(Ov (tn:=tn) I3 hk bZ (fV _) f3 Lv (j7 _) uS AW).tok (s2.toks+([]:List (Str×aa)).length);have loop:codeAny (model X.prog X.w) X.A (.compLoop (.ListComp elt [⟨tg,iter,[],0⟩] scope pos) 0 (.ref it) (.ref s2.heap.objs.size) (compEnvC scope cl s3.heap.objs.size X.env))
   (compPost (model X.prog X.w) X.A X.xe use Qp (.ref s2.heap.objs.size) s3.heap.objs.size) { s3 with heap:=h1,toks:=s2.toks+([]:List (Str×aa)).length }:=by
  refine Zh3 (λn s'=>∃i ys av H',Inv (dF X (tn++aE.map (·.1)) scope cl s3.heap.objs.size fp s3 (upd H2 s2.heap.objs.size (.lst []))) [] av H' s'/\kz i s'.heap/\(∀b∈fp,H' b=none)/\W i n ys av H') ?_ m0
   ⟨0,[],_,_,I4,iH,λb hb=>(f3 b hb).1,w0⟩
  rintro n s5 ⟨i,ys,mV,H5,I5,mR,uA,w5⟩;obtain⟨hD,alt⟩:=turn i n ys mV H5 w5;have mT:∀{H':Hp},(∀b∈fp,H' b=none)->∀b∈fp,bO (dF X (tn++aE.map (·.1)) scope cl s3.heap.objs.size fp s3 (upd H2 s2.heap.objs.size (.lst []))) [] H' b :=
   λhn b hb=>⟨hn b hb,(I4.ok.lA b hb).1,I4.ok.lB b hb,.inl hb,(I4.ok.lA b hb).2,λp hp=>by cases hp⟩
  rcases alt with⟨stop,qn⟩|⟨go,step⟩
  .refine aw (T.done (dF X (tn++aE.map (·.1)) scope cl s3.heap.objs.size fp s3 (upd H2 s2.heap.objs.size (.lst []))) rfl rfl rfl hc i [] s5 mV H5 fw I5 (mT uA) mR stop) ?_;rintro r s6 ⟨hr,I6⟩;subst hr;exact Ke s3 _ I3 f3 _ mV H5 s6 I6 qn
  .refine aw (T.item (dF X (tn++aE.map (·.1)) scope cl s3.heap.objs.size fp s3 (upd H2 s2.heap.objs.size (.lst []))) rfl rfl rfl hc i [] s5 mV H5 fw I5 (mT uA) mR go) ?_;rintro r s6 ⟨u,hr,h6⟩;subst hr;refine aw h6 ?_;rintro _ s7 ⟨x,H7,I7,r7,y7,mS,Jz⟩;have Gx:=I7.pinned (mT Jz) (T.obj _ _ mS);refine aw (hg _ _ _ _ _ s7 mV H7 x u _ Gx r7 (step x H7 y7)) ?_;rintro _ s8 ⟨oG,H8,I8,q8⟩;refine aw (he _ _ _ _ _ s8 oG H8 _ I8 q8) ?_;rintro xv s9 ⟨v9,H9,I9,r9,q9⟩;obtain⟨Ad,Av,m',jM,w9⟩:=q9;refine aw (jS _ s9 oG H9 (.ref s2.heap.objs.size) [v9] (.ref s2.heap.objs.size) [xv] (λz H'=>z=.aB/\H'=upd H9 s2.heap.objs.size (.lst (ys ++ [v9]))) I9 rfl (.cons r9 .nil)
    ⟨s2.heap.objs.size,ys,v9,rfl,rfl,Ad,Av,rfl,rfl⟩) λz qz ⟨zv,lW,tM,_,_,eH⟩=>?_
   subst eH;refine⟨m',jM,i+1,ys ++ [v9],oG,_,tM.vn,T.keep _ _ _ mS λb hb o q=>(tM.pin (b,o) (cj _ (cj _ (qY hb q)))).1,λb hb=>?_,w9⟩;obtain⟨o,q,d⟩:=T.obj _ _ mS b hb;exact(tM.pin (b,o) (cj _ (cj _ (qY hb q)))).2.1
 subst Ai;exact X1 loop (T.self X.A 0 _ _ _ iH loop)
variable{wi:TI}
theorem zj(tn:List Str)(aE:List (Str×Nat))(hi:PI X tg iter wi)(hg:∀C fp s H,PG (dF X (tn++aE.map (·.1)) scope cl C fp s H) tg g)(he:∀C fp s H,PE (dF X (tn++aE.map (·.1)) scope cl C fp s H) elt te)
  (hc:X.calm=true) (uG:closureFor scope X.env=pure cl) (iC:∀y∈scope.names,y.2 ≠ .cell) (hk:scope.kind=.function) (qe:∀y∈scope.names,y.2=.local->scope.names.lookup y.1=some .local)
  (bZ:∀x c,cl.lookup x=some c->X.env.cells.lookup x=some c)
  (fV:∀C x,((compEnvC scope cl C X.env).kindOf x=some .cell\/(compEnvC scope cl C X.env).kindOf x=some .free)->∃c,cl.lookup x=some c)
  (j7:∀C,∀p∈aE,X.N[p.2]?= some p.1/\X.env.scope.names.lookup p.1=some .cell/\((compEnvC scope cl C X.env).kindOf p.1=some .cell\/(compEnvC scope cl C X.env).kindOf p.1=some .free))
  (hs:∀v,foldedSetIterable iter X.env v=pure v):PE X (.ListComp elt [⟨tg,iter,[],0⟩] scope pos) (RN wi tn.length aE g te):=by
 intro ac s σ H Q I h;rw[X9];refine Gn (use:=none) rfl hs uG hk qe (aw (hi ac s σ H _ I h) λv s1 h1=>aw h1 λxC s2 h2=>?_);obtain⟨it,fp,kz,J,H2,e,I2,T,cE,f2,q2⟩:=h2;subst e;refine OP (R:=λp H6=>Q (.ref p) H6) tn aE hg he hc iC hk bZ fV j7 I2 T cE f2 q2 λs3 H3 I3 f3 acc qC H6 s6 I6 q6=>?_;obtain⟨m,hn,_⟩:=I6.loc;refine⟨m,hn,λh' sb=>?_⟩;have nC:∀b o,s3.heap.get? b=some o->b≠s3.heap.objs.size:=λb o q=>bo (aP q);have u:Un (h_ X.stack) fp H3 H6 s3.heap h':=by
  have u0:=I6.base;refine⟨λb o q n hb hx=>(sb.2 b (nC b o q)).trans (u0.keep b o q n hb hx),λb o q n hb hx=>?_,u0.free,λb o q hx=>?_,u0.lM,u0.jY,u0.ky⟩
  .obtain⟨sl,e⟩:=u0.slot b o q n hb hx;exact⟨sl,(sb.2 b (nC b o q)).trans e⟩
  .obtain⟨o',e⟩:=u0.there b o q hx;exact⟨o',(sb.2 b (nC b o q)).trans e⟩
 have zZ:H6 s3.heap.objs.size=none:=I6.free;have LH:bD X.prog X.w H6 h':=λb o q=>(I6.aj b o q).jJ (λc v uH r=>(sb.2 c (by
  rcases uH with z|z
  .rw[z];exact Zi q zZ
  .exact Zi z zZ)).trans r) (λ_ q=>q) λ_ _ q=>q
 have I':=I3.call (g':=s6.gens) (d':=s6.drawn) (t':=s6.toks) (ch:=fp) u LH I6.bare λb hb=>⟨(f3 b hb).2.2.2.1,(f3 b hb).2.1,(f3 b hb).2.2.2.2.1,(f3 b hb).2.2.2.2.2⟩;have e:({ s6 with heap:=h' }:ag)= { s3 with heap:=h',gens:=s6.gens,drawn:=s6.drawn,toks:=s6.toks }:=by
  have ho:s6.os=s3.os:=I6.os;obtain⟨a1,a2,a3,a4,a5⟩:=s6;obtain⟨b1,b2,b3,b4,b5⟩:=s3;simp only at ho;subst ho;rfl
 rw[e];exact⟨.ref _,H6,I',rfl,q6⟩
variable{ct:Expr}
theorem Zid{it:aa}(I:Nat->ag->Prop)
  (turn:∀n s,I n s->wpAny (model prog w) A (pyNext it) (λr s1=>match r with
   | none=>R (.ok .next) s1
   | some v=>wpAny (model prog w) A (letOwnedTupleGo target it v) (λ_ s2=>wpAny (model prog w) A (assign target env v) (λ_ s3=>wpAny (model prog w) A (isTrue ct env (eval ct env)) (λok tG =>
     if ok=true then wpAny (model prog w) A (eval elt env) (λx s4 =>
     wpAny (model prog w) A (call (.builtin "list.append") [acc,x]) (λ_ s5=>∃m,m<n/\I m s5) fw s4) fw tG else ∃m,m<n/\I m tG) fw s3) fw s2) fw s1) fw s)
  (n:Nat) (h:I n s):codeAny (model prog w) A (.compLoop (.ListComp elt [⟨target,iter,[ct],0⟩] scope pos) 0 it acc env) R s:=by
 refine X3 rfl I (λn s hI=>?_) n h;show wpAny _ _ ((compTurn (.ListComp elt [⟨target,iter,[ct],0⟩] scope pos) 0 it acc env).onRaise (λx=>do noteFrame x env;theTreesLotGoes x)) _ _ s;refine Yz ?_;rw[compTurn_list];refine af (vR (af (cM (turn n s hI) (λr s1 h1=>?_) λ_ _ h'=>h'.elim)));cases r with
 | none=>exact ah h1
 | some v =>
  refine af (cM h1 (λ_ s2 h2=>?_) λ_ _ h'=>h'.elim);refine af (cM h2 (λ_ s3 h3=>?_) λ_ _ h'=>h'.elim);refine af (wpAny_tests_one (cM h3 (λok tG iq=>?_) λ_ _ h'=>h'.elim));cases ok with
  | true =>
   simp only[qK] at iq ⊢;refine af (af (cM iq (λx s4 h4=>?_) λ_ _ h'=>h'.elim));exact af (cM h4 (λ_ s5 h5=>ah (ah ⟨rfl,h5⟩)) λ_ _ h'=>h'.elim)
  | false =>
   simp only[dv,cX] at iq ⊢;exact ah ⟨rfl,iq⟩
def IJ(wi:TI)(k:Nat)(aE:List (Str×Nat))(g:TG)(tt:TT)(te:TE):TE:=λσ H Q=>wi σ H λJ H1=>∀p,H1 p=none->∃W:Nat->Nat->List V->St->Hp->Prop,(∃m,W 0 m [] (rJ σ k aE) (upd H1 p (.lst []))) /\
 ∀i m ys dc H2,W i m ys dc H2->H2 p=some (.lst ys)/\((J.stop i H2/\Q (.ref p) H2)\/(J.go i H2/\∀x H3,J.ii i H2 x H3->g x dc H3 λaS H4=>tt aS H4 λb g_=>if b=true then te aS g_ λv H5 =>
  H5 p=some (.lst ys)/\ys.length<sizeLine/\∃m',m'<m/\W (i+1) m' (ys ++ [v]) aS (upd H5 p (.lst (ys ++ [v])))
  else ∃m',m'<m/\W (i+1) m' ys aS g_))
variable{tt:TT}
theorem OS{J:It}{R:Addr->Hp->Prop}(tn:List Str)(aE:List (Str×Nat))(hg:∀C fp s H,PG (dF X (tn++aE.map (·.1)) scope cl C fp s H) tg g)(ht:∀C fp s H,PT (dF X (tn++aE.map (·.1)) scope cl C fp s H) ct tt)(he:∀C fp s H,PE (dF X (tn++aE.map (·.1)) scope cl C fp s H) elt te)(hc:X.calm=true)(iC:∀y∈scope.names,y.2 ≠ .cell)(hk:scope.kind=.function)(bZ:∀x c,cl.lookup x=some c->X.env.cells.lookup x=some c)(fV:∀C x,((compEnvC scope cl C X.env).kindOf x=some .cell\/(compEnvC scope cl C X.env).kindOf x=some .free)->∃c,cl.lookup x=some c)(j7:∀C,∀p∈aE,X.N[p.2]?= some p.1/\X.env.scope.names.lookup p.1=some .cell/\((compEnvC scope cl C X.env).kindOf p.1=some .cell\/(compEnvC scope cl C X.env).kindOf p.1=some .free))
  (I2:Inv X ac σ H2 s2) (T:Turn X.prog X.w X.K tg J fp it kz) (cE:kz 0 s2.heap) (f2:∀b∈fp,bO X ac H2 b) (q2:∀p,H2 p=none->∃W:Nat->Nat->List V->St->Hp->Prop,(∃m,W 0 m [] (rJ σ tn.length aE) (upd H2 p (.lst []))) /\
 ∀i m ys dc H2,W i m ys dc H2->H2 p=some (.lst ys)/\((J.stop i H2/\R p H2)\/(J.go i H2/\∀x H3,J.ii i H2 x H3->g x dc H3 λaS H4=>tt aS H4 λb g_=>if b=true then te aS g_ λv H5=>H5 p=some (.lst ys)/\ys.length<sizeLine/\∃m',m'<m/\W (i+1) m' (ys ++ [v]) aS (upd H5 p (.lst (ys ++ [v]))) else ∃m',m'<m/\W (i+1) m' ys aS g_)))
  (Ke:∀(s3:ag)(H3:Hp),Inv X ac σ H3 s3->(∀b∈fp,bO X ac H3 b)->∀(acc:Addr)(qC:St)(H6:Hp)(s6:ag),Inv (dF X (tn++aE.map (·.1)) scope cl s3.heap.objs.size fp s3 H3) [] qC H6 s6->R acc H6->compPost (model X.prog X.w) X.A X.xe use Qp (.ref acc) s3.heap.objs.size (.ok .next) s6) :
  wpAny (model X.prog X.w) X.A (newList []) (λacc xR=>wpAny (model X.prog X.w) X.A (newFunctionEnv scope X.env.globals cl [] X.env.qual none bq (some X.env)) (λzU LY=>codeAny (model X.prog X.w) X.A (V5 (.ListComp elt [⟨tg,iter,[ct],0⟩] scope pos) 0 (ar it) acc { zU with scope:=relabel scope X.env }) (compPost (model X.prog X.w) X.A X.xe use Qp acc zU.locals) LY) X.xe xR) X.xe s2:=by
 have fresh:H2 s2.heap.objs.size=none:=I2.fresh;obtain⟨W,⟨m0,w0⟩,turn⟩:=q2 s2.heap.objs.size fresh;have ow:∀b∈fp,b<s2.heap.objs.size:=λb hb=>by
  obtain⟨o,ho,_⟩:=T.obj _ _ cE b hb;exact aP ho
 have I3:Inv X ac σ (upd H2 s2.heap.objs.size (.lst [])) { s2 with heap:=s2.heap.push { cls:=.type "list",data:=.seq ([]:List aa).toArray } }:=I2.AZ (its:=[]) (t':=s2.toks) .nil (bG _);refine pj (NF iC (by intro y hy;simp at hy) (λh1 uS uX=>?_) hk);dsimp only at uS uX ⊢;generalize Ai:({ s2 with heap:=s2.heap.push { cls:=.type "list",dict:=none,data:=.seq ([]:List aa).toArray } }:ag)=s3 at I3;have uL:s2.heap.push { cls:=.type "list",dict:=none,data:=.seq ([]:List aa).toArray }=s3.heap:=by rw[<- Ai]
 rw[uL] at uS uX ⊢;have LX:s3.heap.objs.size=s2.heap.objs.size+1:=by rw[<- uL,iJ]
 have Lv:∀b∈fp,b<s3.heap.objs.size:=λb hb=>cg (ow b hb) (by rw[LX];exact qF _);have f3:∀b∈fp,bO X ac (upd H2 s2.heap.objs.size (.lst [])) b:=λb hb=>⟨by rw[Zc (bo (ow b hb))];exact(f2 b hb).1,(f2 b hb).2⟩;have AW:∀b o,s3.heap.get? b=some o->h1.get? b=some o:=λb o q=>uX.extBut b o (bo (aP q)) (aH _ q);have iH:kz 0 h1:=T.keep _ _ _ cE λb hb o q=>AW b o (by rw[<- uL];exact aH _ q);have I4:=(Ov (tn:=tn) I3 hk bZ (fV _) f3 Lv (j7 _) uS AW).tok (s2.toks+([]:List (Str×aa)).length);have loop:codeAny (model X.prog X.w) X.A (.compLoop (.ListComp elt [⟨tg,iter,[ct],0⟩] scope pos) 0 (.ref it) (.ref s2.heap.objs.size) (compEnvC scope cl s3.heap.objs.size X.env))
   (compPost (model X.prog X.w) X.A X.xe use Qp (.ref s2.heap.objs.size) s3.heap.objs.size) { s3 with heap:=h1,toks:=s2.toks+([]:List (Str×aa)).length }:=by
  refine Zid (λn s'=>∃i ys av H',Inv (dF X (tn++aE.map (·.1)) scope cl s3.heap.objs.size fp s3 (upd H2 s2.heap.objs.size (.lst []))) [] av H' s'/\kz i s'.heap/\(∀b∈fp,H' b=none)/\W i n ys av H') ?_ m0
   ⟨0,[],_,_,I4,iH,λb hb=>(f3 b hb).1,w0⟩
  rintro n s5 ⟨i,ys,mV,H5,I5,mR,uA,w5⟩;obtain⟨hD,alt⟩:=turn i n ys mV H5 w5;have mT:∀{H':Hp},(∀b∈fp,H' b=none)->∀b∈fp,bO (dF X (tn++aE.map (·.1)) scope cl s3.heap.objs.size fp s3 (upd H2 s2.heap.objs.size (.lst []))) [] H' b :=
   λhn b hb=>⟨hn b hb,(I4.ok.lA b hb).1,I4.ok.lB b hb,.inl hb,(I4.ok.lA b hb).2,λp hp=>by cases hp⟩
  rcases alt with⟨stop,qn⟩|⟨go,step⟩
  .refine aw (T.done (dF X (tn++aE.map (·.1)) scope cl s3.heap.objs.size fp s3 (upd H2 s2.heap.objs.size (.lst []))) rfl rfl rfl hc i [] s5 mV H5 fw I5 (mT uA) mR stop) ?_;rintro r s6 ⟨hr,I6⟩;subst hr;exact Ke s3 _ I3 f3 _ mV H5 s6 I6 qn
  .refine aw (T.item (dF X (tn++aE.map (·.1)) scope cl s3.heap.objs.size fp s3 (upd H2 s2.heap.objs.size (.lst []))) rfl rfl rfl hc i [] s5 mV H5 fw I5 (mT uA) mR go) ?_;rintro r s6 ⟨u,hr,h6⟩;subst hr;refine aw h6 ?_;rintro _ s7 ⟨x,H7,I7,r7,y7,mS,Jz⟩;have Gx:=I7.pinned (mT Jz) (T.obj _ _ mS);refine aw (hg _ _ _ _ _ s7 mV H7 x u _ Gx r7 (step x H7 y7)) ?_;rintro _ s8 ⟨oG,H8,I8,q8⟩;refine aw (ht _ _ _ _ _ s8 oG H8 _ I8 q8) ?_;rintro ok ZI ⟨YO,B7,Cg⟩;cases ok with
   | true =>
    simp only[qK] at Cg ⊢;refine aw (he _ _ _ _ _ ZI oG YO _ B7 Cg) ?_;rintro xv s9 ⟨v9,H9,I9,r9,q9⟩;obtain⟨Ad,Av,m',jM,w9⟩:=q9;refine aw (jS _ s9 oG H9 (.ref s2.heap.objs.size) [v9] (.ref s2.heap.objs.size) [xv] (λz H'=>z=.aB/\H'=upd H9 s2.heap.objs.size (.lst (ys ++ [v9]))) I9 rfl (.cons r9 .nil)
     ⟨s2.heap.objs.size,ys,v9,rfl,rfl,Ad,Av,rfl,rfl⟩) λz qz ⟨zv,lW,tM,_,_,eH⟩=>?_
    subst eH;refine⟨m',jM,i+1,ys ++ [v9],oG,_,tM.vn,T.keep _ _ _ mS λb hb o q=>(tM.pin (b,o) (cj _ (cj _ (qY hb q)))).1,λb hb=>?_,w9⟩;obtain⟨o,q,d⟩:=T.obj _ _ mS b hb;exact(tM.pin (b,o) (cj _ (cj _ (qY hb q)))).2.1
   | false =>
    simp only[dv,cX] at Cg ⊢;obtain⟨m',jM,w9⟩:=Cg;refine⟨m',jM,i+1,ys,oG,_,B7.vn,T.keep _ _ _ mS λb hb o q=>(B7.pin (b,o) (cj _ (cj _ (qY hb q)))).1,λb hb=>?_,w9⟩;obtain⟨o,q,d⟩:=T.obj _ _ mS b hb;exact(B7.pin (b,o) (cj _ (cj _ (qY hb q)))).2.1
 subst Ai;exact X1 loop (T.self X.A 0 _ _ _ iH loop)
theorem OU(tn:List Str)(aE:List (Str×Nat))(hi:PI X tg iter wi)(hg:∀C fp s H,PG (dF X (tn++aE.map (·.1)) scope cl C fp s H) tg g)(ht:∀C fp s H,PT (dF X (tn++aE.map (·.1)) scope cl C fp s H) ct tt)(he:∀C fp s H,PE (dF X (tn++aE.map (·.1)) scope cl C fp s H) elt te)
  (hc:X.calm=true) (uG:closureFor scope X.env=pure cl) (iC:∀y∈scope.names,y.2 ≠ .cell) (hk:scope.kind=.function) (qe:∀y∈scope.names,y.2=.local->scope.names.lookup y.1=some .local)
  (bZ:∀x c,cl.lookup x=some c->X.env.cells.lookup x=some c)
  (fV:∀C x,((compEnvC scope cl C X.env).kindOf x=some .cell\/(compEnvC scope cl C X.env).kindOf x=some .free)->∃c,cl.lookup x=some c)
  (j7:∀C,∀p∈aE,X.N[p.2]?= some p.1/\X.env.scope.names.lookup p.1=some .cell/\((compEnvC scope cl C X.env).kindOf p.1=some .cell\/(compEnvC scope cl C X.env).kindOf p.1=some .free))
  (hs:∀v,foldedSetIterable iter X.env v=pure v):PE X (.ListComp elt [⟨tg,iter,[ct],0⟩] scope pos) (IJ wi tn.length aE g tt te):=by
 intro ac s σ H Q I h;rw[X9];refine Gn (use:=none) rfl hs uG hk qe (aw (hi ac s σ H _ I h) λv s1 h1=>aw h1 λxC s2 h2=>?_);obtain⟨it,fp,kz,J,H2,e,I2,T,cE,f2,q2⟩:=h2;subst e;refine OS (R:=λp H6=>Q (.ref p) H6) tn aE hg ht he hc iC hk bZ fV j7 I2 T cE f2 q2 λs3 H3 I3 f3 acc qC H6 s6 I6 q6=>?_;obtain⟨m,hn,_⟩:=I6.loc;refine⟨m,hn,λh' sb=>?_⟩;have nC:∀b o,s3.heap.get? b=some o->b≠s3.heap.objs.size:=λb o q=>bo (aP q);have u:Un (h_ X.stack) fp H3 H6 s3.heap h':=by
  have u0:=I6.base;refine⟨λb o q n hb hx=>(sb.2 b (nC b o q)).trans (u0.keep b o q n hb hx),λb o q n hb hx=>?_,u0.free,λb o q hx=>?_,u0.lM,u0.jY,u0.ky⟩
  .obtain⟨sl,e⟩:=u0.slot b o q n hb hx;exact⟨sl,(sb.2 b (nC b o q)).trans e⟩
  .obtain⟨o',e⟩:=u0.there b o q hx;exact⟨o',(sb.2 b (nC b o q)).trans e⟩
 have zZ:H6 s3.heap.objs.size=none:=I6.free;have LH:bD X.prog X.w H6 h':=λb o q=>(I6.aj b o q).jJ (λc v uH r=>(sb.2 c (by
  rcases uH with z|z
  .rw[z];exact Zi q zZ
  .exact Zi z zZ)).trans r) (λ_ q=>q) λ_ _ q=>q
 have I':=I3.call (g':=s6.gens) (d':=s6.drawn) (t':=s6.toks) (ch:=fp) u LH I6.bare λb hb=>⟨(f3 b hb).2.2.2.1,(f3 b hb).2.1,(f3 b hb).2.2.2.2.1,(f3 b hb).2.2.2.2.2⟩;have e:({ s6 with heap:=h' }:ag)= { s3 with heap:=h',gens:=s6.gens,drawn:=s6.drawn,toks:=s6.toks }:=by
  have ho:s6.os=s3.os:=I6.os;obtain⟨a1,a2,a3,a4,a5⟩:=s6;obtain⟨b1,b2,b3,b4,b5⟩:=s3;simp only at ho;subst ho;rfl
 rw[e];exact⟨.ref _,H6,I',rfl,q6⟩
end L2
namespace PySem.SeqAt
open AutoSeq1 (wpAny_loadPart')
open MeetsSeq MeetsSeq2 MeetsSeq3 SeqRoads2
def rH(A:aC)(s:ag)(y x:aa)(b:Bool):Prop :=
 ∀(prog:aq)(w:ap)(E:aa->ag->Prop)(Q:aa->ag->Prop),Q (.bool b) s->wpAny (model prog w) A (richCompare .Lt y x) Q E s
inductive iQ(A:aC)(s:ag):List aa->List aa->Bool->Prop
 | nn:iQ A s [] [] false
 | nc {y:aa} {ys:List aa}:iQ A s [] (y::ys) true
 | cn {x:aa} {xs:List aa}:iQ A s (x::xs) [] false
 | eq {x y:aa} {xs ys:List aa} {b:Bool}:EqAt A s x y true->iQ A s xs ys b->iQ A s (x::xs) (y::ys) b
 | lt {x y:aa} {xs ys:List aa} {b:Bool}:EqAt A s x y false->rH A s x y b->iQ A s (x::xs) (y::ys) b
variable{A:aC}{s:ag}
theorem iQ.fin{xs ys:List aa}{b:Bool}(h:iQ A s xs ys b)(h0:xs=[]\/ys=[]):b=decide (xs.length<ys.length):=by
 cases h with
 | nn=>rfl
 | nc=>simp
 | cn=>simp
 | eq _ _=>rcases h0 with q|q <;> cases q
 | lt _ _=>rcases h0 with q|q <;> cases q
theorem Zjk(l b:Addr)(items cD:Array aa)(n n2:Nat)(dd nZ:Option Addr)(sl oB:Array (Option aa))(v:Bool)(k:Nat) :
  ∀i:Nat,i+k=min items.size cD.size->Meets (cF.«list.__eq__.loop» ⟨[.ref l,.ref b,rawInt i,rawInt 0],[]⟩)
   (λA R s=>s.heap.get? l=some { cls:=.type "list",dict:=dd,data:=.seq items n,slots:=sl }/\s.heap.get? b=some { cls:=.type "list",dict:=nZ,data:=.seq cD n2,slots:=oB } /\
    iQ A.in1 s (items.toList.drop i) (cD.toList.drop i) v/\R (.ok (.ret (.bool v))) s):=by
 induction k with
 | zero =>
  intro i hk prog w A R s h;obtain⟨hp,g,d,tk,os⟩:=s;obtain⟨hl,hb,he,h⟩:=h;have hv:v=decide (items.size<cD.size):=by
   have h0:items.toList.drop i=[]\/cD.toList.drop i=[]:=by
    rcases Nat.le_total items.size cD.size with q|q
    .exact .inl (Wz (by rw[aW];lia))
    .exact .inr (Wz (by rw[aW];lia))
   rw[he.fin h0,FD,FD,aW,aW];by_cases q:items.size<cD.size
   .rw[aJ q];exact aJ (by lia)
   .rw[bt q];exact bt (by lia)
  subst hv
  wp_walk using wpAny_loadPart' hl,wpAny_loadPart' hb
  by_cases h1:i<items.size
  .have lE:items[((i:Nat):Int).toNat]?= some items[i]:=by simp[h1]
   have xm:cD[((i:Nat):Int).toNat]?= none:=by simp;lia
   rw[lE,xm]
   wp_walk using wpAny_loadPart' hl,wpAny_loadPart' hb
   exact h
  .have lE:items[((i:Nat):Int).toNat]?= none:=by simp;lia
   rw[lE]
   wp_walk using wpAny_loadPart' hl,wpAny_loadPart' hb
   exact h
 | succ k ih =>
  intro i hk prog w A R s h;obtain⟨hp,g,d,tk,os⟩:=s;obtain⟨hl,hb,he,h⟩:=h
  wp_walk using wpAny_loadPart' hl,wpAny_loadPart' hb
  have aA:i<items.size:=by lia
  have El:i<cD.size:=by lia
  have lE:items[((i:Nat):Int).toNat]?= some items[i]:=by simp[aA]
  have xm:cD[((i:Nat):Int).toNat]?= some cD[i]:=by simp[El]
  have hc:((i:Int)+1)=((i+1:Nat):Int):=by push_cast;rfl
  have d1:items.toList.drop i=items[i]::items.toList.drop (i+1):=by rw[Bw (by rw[aW];exact aA)];simp
  have d2:cD.toList.drop i=cD[i]::cD.toList.drop (i+1):=by rw[Bw (by rw[aW];exact El)];simp
  rw[d1,d2] at he;rw[lE,xm];cases he with
  | eq h1 h2 =>
   refine af (h1 prog w _ _ ?_)
   wp_walk
   rw[hc];exact⟨jq Gk _,g9 X7 (by
    rw[kB Gk _];exact ih (i+1) (by lia) prog w A R _ ⟨hl,hb,h2,h⟩)⟩
  | lt h1 h2 =>
   refine af (h1 prog w _ _ ?_)
   wp_walk using wpAny_loadPart' hl,wpAny_loadPart' hb
   rw[lE,xm];refine af (h2 prog w _ _ ?_)
   wp_walk
   exact h
theorem Zjc(l b:Addr)(items cD:Array aa)(n n2:Nat)(dd nZ:Option Addr)(sl oB:Array (Option aa))(v:Bool) :
  Meets (cF.«list.__lt__» ⟨[.ref l,.ref b],[]⟩)
   (λA R s=>s.heap.get? l=some { cls:=.type "list",dict:=dd,data:=.seq items n,slots:=sl }/\s.heap.get? b=some { cls:=.type "list",dict:=nZ,data:=.seq cD n2,slots:=oB } /\
    iQ A.in1 s items.toList cD.toList v/\R (.ok (.ret (.bool v))) s):=by
 intro prog w A R s h;obtain⟨hp,g,d,tk,os⟩:=s;obtain⟨hl,hb,he,h⟩:=h;have f3:=AutoSeq1.sub_list_list
 wp_walk using wpAny_loadPart' hl,wpAny_loadPart' hb
 exact⟨jq Gk _,g9 X7 (by
  rw[kB Gk _];exact Zjk l b items cD n n2 dd nZ sl oB v _ 0 (sQ _) prog w A R _ ⟨hl,hb,by simpa using he,h⟩)⟩
theorem Ziv(l b:Addr)(items cD:Array aa)(n n2:Nat)(dd nZ:Option Addr)(sl oB:Array (Option aa))(v:Bool) :
  Meets (cF.«tuple.__lt__» ⟨[.ref l,.ref b],[]⟩)
   (λA R s=>s.heap.get? l=some { cls:=.type "tuple",dict:=dd,data:=.seq items n,slots:=sl }/\s.heap.get? b=some { cls:=.type "tuple",dict:=nZ,data:=.seq cD n2,slots:=oB } /\
    iQ A.in1 s items.toList cD.toList v/\R (.ok (.ret (.bool v))) s) :=
 .of_wp λprog w A R s h=>by
  obtain⟨hp,g,d,tk,os⟩:=s;obtain⟨hl,hb,he,h⟩:=h;have f2:=AutoSeq1.sub_tuple_tuple
  wp_walk using wpAny_loadPart' hl,wpAny_loadPart' hb,yB _ (λrest b s'=>b.1=none/\s'=⟨hp,g,d,tk,os⟩/\∃(vs ws:List aa),rest=vs.zip ws /\
   vs.length+cD.size=ws.length+items.size/\iQ A.in1 ⟨hp,g,d,tk,os⟩ vs ws v) _
  case turn =>
   rintro⟨y,x⟩ rest b s' ⟨aG,rfl,vs,ws,hz,hlen,hL⟩;cases hL with
   | nn=>rw[WW] at hz;cases hz
   | nc=>rw[WW] at hz;cases hz
   | cn=>rw[List.zip_nil_right] at hz;cases hz
   | eq h1 h2 =>
    rw[MO] at hz;injection hz with K_ uW;injection K_ with hy hx;subst hy hx;simp only[bB] at hlen;refine af (h1 prog w _ _ ?_)
    wp_walk
    exact⟨rfl,rfl,_,_,uW,by lia,h2⟩
   | lt h1 h2 =>
    rw[MO] at hz;injection hz with K_ uW;injection K_ with hy hx;subst hy hx;refine af (h1 prog w _ _ ?_);have hri:=h2 prog w
    wp_walk using hri
    exact⟨_,rfl,h⟩
  case fin =>
   rintro⟨b1,b2⟩ s' ⟨aG,rfl,vs,ws,hz,hlen,hL⟩;simp only at aG;subst aG;have hv:v=decide (items.size<cD.size):=by
    rw[hL.fin (by
     cases vs with
     | nil=>exact .inl rfl
     | cons a t=>cases ws with
      | nil=>exact .inr rfl
      | cons c u=>rw[MO] at hz;cases hz)]
    by_cases q:items.size<cD.size
    .rw[aJ q];exact aJ (by lia)
    .rw[bt q];exact bt (by lia)
   subst hv
   wp_walk
   exact⟨_,rfl,by simpa[ZB8] using h⟩
  case h =>
   exact⟨rfl,rfl,items.toList,cD.toList,rfl,by simp;lia,he⟩
variable{b l:Addr}{items cD:Array aa}{v:Bool}
theorem rH.lists(hl:s.heap.IsList l items)(hb:s.heap.IsList b cD)(hu:A.units<cLine)(he:iQ A.in1 s items.toList cD.toList v) :
  rH A s (.ref l) (.ref b) v:=λprog w E Q h=>by
 obtain⟨⟨cls,dd,data,sl⟩,ho,hc,n,hd⟩:=id hl;obtain⟨⟨Zwc,nZ,data2,oB⟩,cB,gM,n2,hd2⟩:=id hb;simp only at hc hd gM hd2;subst hc hd gM hd2;exact Yh (op:=.Lt) ⟨_,ho,rfl⟩ ⟨_,cB,rfl⟩ F.slot_list_lt F.entry_list_lt (F.args_list_lt_2 _ _) (Zjc l b items cD n n2 dd nZ sl oB v)
  ⟨ho,cB,he,show g8 v≠XT/\Q (.bool v) s from⟨(λx=>nomatch x),h⟩⟩ hu
theorem rH.tuples(hl:s.heap.IsTuple l items)(hb:s.heap.IsTuple b cD)(hu:A.units<cLine)(he:iQ A.in1 s items.toList cD.toList v) :
  rH A s (.ref l) (.ref b) v:=λprog w E Q h=>by
 obtain⟨⟨cls,dd,data,sl⟩,ho,hc,n,hd⟩:=id hl;obtain⟨⟨Zwc,nZ,data2,oB⟩,cB,gM,n2,hd2⟩:=id hb;simp only at hc hd gM hd2;subst hc hd gM hd2;exact Yh (op:=.Lt) ⟨_,ho,rfl⟩ ⟨_,cB,rfl⟩ F.slot_tuple_lt F.entry_tuple_lt (F.args_tuple_lt_2 _ _) (Ziv l b items cD n n2 dd nZ sl oB v)
  ⟨ho,cB,he,show g8 v≠XT/\Q (.bool v) s from⟨(λx=>nomatch x),h⟩⟩ hu
end PySem.SeqAt
namespace L2
open PySem PySem.Spec PyProof.Rows PySem.SeqAt
mutual
inductive jO:ed->ed->Bool->Prop
 | int (i j:Int):jO (.int i) (.int j) (decide (i<j))
 | str (x y:Str):jO (.str x) (.str y) (decide (x.cps.toList<y.cps.toList))
 | lst {xs ys:List ed} {b:Bool}:gF xs ys b->jO (.list xs) (.list ys) b
 | tup {xs ys:List ed} {b:Bool}:gF xs ys b->jO (.tuple xs) (.tuple ys) b
inductive gF:List ed->List ed->Bool->Prop
 | nn:gF [] [] false
 | nc {y:ed} {ys:List ed}:gF [] (y::ys) true
 | cn {x:ed} {xs:List ed}:gF (x::xs) [] false
 | eq {x y:ed} {xs ys:List ed} {b:Bool}:lQ x y=true->gF xs ys b->gF (x::xs) (y::ys) b
 | lt {x y:ed} {xs ys:List ed} {b:Bool}:lQ x y=false->jO x y b->gF (x::xs) (y::ys) b
end
mutual
theorem jO.at{s:ag}:∀{da db:ed}{v:Bool},jO da db v->∀(A:aC){a b:aa}{as bs:List Addr},BN s.heap a da as->BN s.heap b db bs->da.canLay0=true->db.canLay0=true->A.units+min da.depth db.depth<cLine->rH A s a b v
 | _,_,_,.int i j=>λA _ _ _ _ ra rb _ _ _=>by
  cases ra;cases rb;exact λprog w E Q h=>(lt_int h:wpAny (model prog w) A (compareOp .Lt (.int _ _) (.int _ _)) Q E s)
 | _,_,_,.str x y=>λA _ _ _ _ ra rb _ _ _=>by
  cases ra;cases rb;exact λprog w E Q h=>(lt_str h:wpAny (model prog w) A (compareOp .Lt (.str _ _) (.str _ _)) Q E s)
 | _,_,_,.lst h=>λA _ _ _ _ ra rb ha hb hu=>by
  cases ra with
  | list h1 h2 h3 h4 =>
   cases rb with
   | list k1 k2 k3 k4=>exact rH.lists ⟨_,h1,h2,_,h3⟩ ⟨_,k1,k2,_,k3⟩ (room_here hu) (gF.at h A.in1 h4 k4 ha hb (room_in hu))
 | _,_,_,.tup h=>λA _ _ _ _ ra rb ha hb hu=>by
  cases ra with
  | tuple h1 h2 h3 h4 =>
   cases rb with
   | tuple k1 k2 k3 k4=>exact rH.tuples ⟨_,h1,h2,_,h3⟩ ⟨_,k1,k2,_,k3⟩ (room_here hu) (gF.at h A.in1 h4 k4 ha hb (room_in hu))
theorem gF.at{s:ag}:∀{xs ys:List ed}{v:Bool},gF xs ys v->∀(A:aC){vs ws:List aa}{as bs:List Addr},F_ s.heap vs xs as->F_ s.heap ws ys bs->iL xs=true->iL ys=true ->
  A.units+min (jk xs) (jk ys)<cLine->iQ A s vs ws v
 | _,_,_,.nn=>λA _ _ _ _ ra rb _ _ _=>by
  cases ra;cases rb;exact .nn
 | _,_,_,.nc=>λA _ _ _ _ ra rb _ _ _=>by
  cases ra;cases rb;exact .nc
 | _,_,_,.cn=>λA _ _ _ _ ra rb _ _ _=>by
  cases ra;cases rb;exact .cn
 | _,_,_,@gF.eq x y xs ys b e h=>λA _ _ _ _ ra rb ha hb hu=>by
  have hU:x.canLay0=true/\iL xs=true:=by simpa[iL] using ha
  have aG:y.canLay0=true/\iL ys=true:=by simpa[iL] using hb
  cases ra with
  | cons r rs =>
   cases rb with
   | cons r' NY =>
    refine .eq (e ▸ Np x y A s _ _ _ _ r r' hU.1 aG.1 (Nx hu)) (gF.at h A rs NY hU.2 aG.2 ?_);have:jk (x::xs)=max x.depth (jk xs):=rfl;have:jk (y::ys)=max y.depth (jk ys):=rfl;lia
 | _,_,_,@gF.lt x y xs ys b e h=>λA _ _ _ _ ra rb ha hb hu=>by
  have hU:x.canLay0=true/\iL xs=true:=by simpa[iL] using ha
  have aG:y.canLay0=true/\iL ys=true:=by simpa[iL] using hb
  cases ra with
  | cons r rs =>
   cases rb with
   | cons r' NY=>exact .lt (e ▸ Np x y A s _ _ _ _ r r' hU.1 aG.1 (Nx hu)) (jO.at h A r r' hU.1 aG.1 (Nx hu))
end
def Zpp(K:ay):R2:=λx y H Q=>∃d e v,Dp K H x d/\Dp K H y e/\d.canLay0=true/\e.canLay0=true/\min d.depth e.depth<=200/\jO d e v/\Q (.bl v) H
theorem Ry(hu:X.A.units+200<cLine):c7 X (compareOp .Lt) (Zpp X.K):=by
 intro ac s σ H x y v u Q I rx ry h;obtain⟨d,e,v,hx,hy,h1,h2,hd,hl,q⟩:=h;obtain⟨as,ra⟩:=hx.reads I rx;obtain⟨bs,rb⟩:=hy.reads I ry;exact hl.at X.A ra rb h1 h2 (by lia) X.prog X.w _ _ ⟨.bl _,H,I,rfl,q⟩
def bY(X:Cx):Cx where
 prog:=X.prog
 w:=X.w
 K:=X.K
 mg:=X.mg
 base:=X.base
 A:=X.A.in1
 N:=X.N
 dr := X.dr
 jN := X.jN
 env:=X.env
 outer:=X.outer
 stack:=X.stack
 ex:=X.ex
 fn:=X.fn
 calm:=X.calm
 pn:=X.pn
 xe:=fw
theorem Cx.Ok.in1(o:X.Ok):(bY X).Ok :=
 ⟨o.mod,o.kind,o.glob,o.blt,o.above,o.inj,o.has,o.mz,o.hd,o.frames,o.oE,o.lA,o.bs,o.iA,o.mP,o.lB,o.gL,o.jX⟩
theorem Inv.in1(I:Inv X ac σ H s):Inv (bY X) ac σ H s:=⟨I.ok.in1,I.os,I.bare,I.base,I.loc,I.cell,I.free,I.fq,I.pin,I.aj,I.len⟩
theorem Inv.ZAZ(o:X.Ok)(I:Inv (bY X) ac σ H s):Inv X ac σ H s:=⟨o,I.os,I.bare,I.base,I.loc,I.cell,I.free,I.fq,I.pin,I.aj,I.len⟩
def R1(K:ay)(H:Hp)(x y:V)(v:Bool):Prop := ∃d e,Dp K H x d/\Dp K H y e/\d.canLay0=true/\e.canLay0=true/\min d.depth e.depth<=200/\jO d e v
section
variable{X:Cx}{ac:List (Addr×Obj)}{σ : St}{H:Hp}{s:ag}{k:Nat}{f:Addr}{fd:dy}{ps:List Str}{sp:Sp}{Q:VK}{l p it:Addr}{xs:List V}{W:Nat->V->V->Hp->Prop}
abbrev R7(X:Cx)(ac:List (Addr×Obj))(σ : St)(Q:VK):nh->ag->Prop:=λr s'=>match r with | .ok (.ret v)=>EP X ac σ Q v s' | .ok _=>False | .error e=>X.xe e s'
variable{i:Nat}{Q':Option aa->ag->Prop}{E:aa->ag->Prop}
theorem ZkN{x:V}(I:Inv (bY X) ac σ H s)(st:s.heap.IsListIter it l i)(hq:au X.K H l xs)(hx:xs[i]?= some x)(hf:bO (bY X) ac H it)
  (h:∀u s',Inv (bY X) ac σ H s'->s'.heap.IsListIter it l (i+1)->RelV x u->Q' (some u) s'):wpAny (model X.prog X.w) X.A.in1 (pyNext (.ref it)) Q' E s:=by
 obtain⟨its,rv,p,hz⟩:=I.list hq;obtain⟨u,hu,ru⟩:=rv.get hx;obtain⟨f0,f1,f2,f3,f4,f5⟩:=hf;exact YG st p.isList (x:=u) (by simpa using hu) λh' bL sb=>h u _ (I.turned (t':=s.toks) (λb o hb e=>(sb.2 b hb).trans e) f0 f1 f3 f4 f5) bL ru
theorem ZmR(hc:X.calm=true)(I:Inv (bY X) ac σ H s)(st:s.heap.IsListIter it l i)(hq:au X.K H l xs)(hx:xs.length<=i)(hf:bO (bY X) ac H it)
  (h:∀s',Inv (bY X) ac σ H s'->Q' none s'):wpAny (model X.prog X.w) X.A.in1 (pyNext (.ref it)) Q' E s:=by
 obtain⟨its,rv,p,hz⟩:=I.list hq;obtain⟨f0,f1,f2,f3,f4,f5⟩:=hf;have hl:=rv.length;exact YF (I.ok.hd hc) st p.isList (by simp;lia) λh' eb=>h _ (I.turned (t':=s.toks) (λb o hb e=>eb b o hb e) f0 f1 f3 f4 f5)
end
section
variable{X:Cx}{ac:List (Addr×Obj)}{σ : St}{H:Hp}{s:ag}{k:Nat}{f:Addr}{fd:dy}{ps:List Str}{sp:Sp}{Q:VK}{l p it:Addr}{xs:List V}{W:Nat->V->V->Hp->Prop}{ud:aa}
theorem Rj{o:HO}(h:bO X ac H it)(hp:∃u,H p=some u):bO X ac (upd H p o) it:=by
 refine⟨?_,h.2⟩;obtain⟨u,hu⟩:=hp;rw[Zc (Zi hu h.1).symm];exact h.1
theorem Zj6{h:Heap}{i:Nat}(st:h.IsListIter it l i):∃o,h.get? it=some o/\(∀v,o.data ≠ .cell v)/\∀h':Heap,h'.get? it=some o->h'.IsListIter it l i:=by
 obtain⟨o,e,c,d⟩:=st;exact⟨o,e,λv z=>(by rw[d] at z;cases z),λh' e'=>⟨o,e',c,d⟩⟩
end
end L2
namespace Fg
open PySem L2 nB PySem.SeqAt
def fH:List Str->List Str->Bool
 | [],[]=>false
 | [],_::_=>true
 | _::_,[]=>false
 | x::xs,y::ys=>if x=y then fH xs ys else decide (x.cps.toList<y.cps.toList)
def a_(xs ys:List Str):Bool:=if xs.length=ys.length then fH xs ys else decide (xs.length<ys.length)
theorem CQ:∀xs:List Str,fH xs xs=false
 | []=>rfl
 | x::xs=>by rw[fH,ao rfl];exact CQ xs
theorem Ik(x y:Str):lQ (.str x) (.str y)=decide (x=y):=by
 show(x == y)=_;by_cases e:x=y
 .subst e;simp
 .rw[bt e];exact nj.mpr e
theorem C0:∀xs ys:List Str,lR (xs.map fY) (ys.map fY)=decide (xs=ys)
 | [],[]=>rfl
 | [],_::_=>by simp[lR]
 | _::_,[]=>by simp[lR]
 | x::xs,y::ys=>by
  show(lQ (.str x) (.str y)&&lR (xs.map fY) (ys.map fY))=_;rw[Ik,C0 xs ys];by_cases e:x=y <;> by_cases e2:xs=ys <;> simp[e,e2]
theorem Pd:∀xs ys:List Str,gF (xs.map fY) (ys.map fY) (fH xs ys)
 | [],[]=>.nn
 | [],_::_=>.nc
 | _::_,[]=>.cn
 | x::xs,y::ys=>by
  by_cases e:x=y
  .rw[fH,ao e];exact .eq (by rw[Ik];exact aJ e) (Pd xs ys)
  .rw[fH,ai e];exact .lt (by rw[Ik];exact bt e) (.str x y)
abbrev zJ(xs:List Str):ed:=.tuple [.int (xs.length:Nat),.list (xs.map fY)]
theorem Zk4(xs ys:List Str):jO (zJ xs) (zJ ys) (a_ xs ys):=by
 refine .tup ?_;by_cases hn:xs.length=ys.length
 .refine .eq (by show((xs.length:Int) == (ys.length:Int))=true;rw[hn];simp) ?_;rw[a_,ao hn];by_cases e:xs=ys
  .subst e;rw[CQ];exact .eq (by show lR _ _=true;rw[C0];simp) .nn
  .exact .lt (by show lR _ _=false;rw[C0];exact bt e) (.lst (Pd xs ys))
 .rw[a_,ai hn];have e:decide (xs.length<ys.length)=decide ((xs.length:Int)<(ys.length:Int)):=by
   by_cases q:xs.length<ys.length
   .rw[aJ q];exact(aJ (by lia)).symm
   .rw[bt q];exact(bt (by lia)).symm
  rw[e];exact .lt (by show((xs.length:Int) == (ys.length:Int))=false;exact nj.mpr (by lia)) (.int _ _)
def wD(H:Hp)(r p:Addr)(xs:List Str):Prop:=H p=some (.lst (xs.map V.str))/\H r=some (.tup [.int (xs.length:Nat),.ref p])
variable{p:Addr}{xs:List Str}
theorem wD.dp{K:ay}{H:Hp}{r:Addr}(h:wD H r p xs):Dp K H (.ref r) (zJ xs) :=
 .tup (az.of h.2) (.cons (.int _) (.cons (.lst (au.of h.1) (Dd xs)) .nil))
theorem Qo(h:∀x∈xs,kI x=true):(zJ xs).canLay0=true:=by
 show(true&&(iL (xs.map fY)&&true))=true;rw[CD h];rfl
theorem Zih(xs:List Str):(zJ xs).depth<=2:=by
 show max 0 (max (jk (xs.map fY)+1) 0)+1<=2;rw[Cz];decide
def f'(ws:List Str):Prop := ∀x∈ws,kI x=true
theorem Iu{K:ay}{H:Hp}{r r' p':Addr}{ys:List Str}(h1:wD H r p xs)(h2:wD H r' p' ys)(o1:f' xs)(o2:f' ys):R1 K H (.ref r) (.ref r') (a_ xs ys) :=
 ⟨_,_,h1.dp,h2.dp,Qo o1,Qo o2,cz (W2 _ _) (cz (Zih xs) (by decide)),Zk4 xs ys⟩
end Fg
namespace L2
open PySem PySem.Spec PyProof.Rows
def ZoI(K:ay)(n:Nat)(neg:Bool):R2:=λx y H Q=>∃d e,Dp K H x d/\Dp K H y e/\d.canLay0=true/\e.canLay0=true/\min d.depth e.depth<=n/\Q (.bl (if neg then !lQ d e else lQ d e)) H
def CW(n:Nat)(Pv:Nat->List V->St->Hp->Prop):Nat->Nat->List V->St->Hp->Prop:=λi m ys σ H=>m=n-i/\i<=n/\Pv i ys σ H
variable{σ:St}{H:Hp}
theorem CW.next{n i:Nat}{Pv:Nat->List V->St->Hp->Prop}{ys:List V}(hi:i<n)(h:Pv (i+1) ys σ H):∃m',m'<n-i/\CW n Pv (i+1) m' ys σ H:=⟨_,by lia,rfl,hi,h⟩
theorem kn{x:Str}:[x].Nodup:=by simp
variable{a:Addr}{g:TG}{te:TE}
theorem Zj1{K:ay}{p:Addr}{xs:List V}{R:Hp->Prop}{gz:St}{H0:Hp}(Pv:Nat->List V->St->Hp->Prop)(h0:Pv 0 [] gz H0)
  (hl:∀i ys σ H,i<=xs.length->Pv i ys σ H->au K H a xs/\H p=some (.lst ys))
  (hs:∀i ys x σ H,i<xs.length->xs[i]?= some x->Pv i ys σ H->g x σ H λaS H4=>te aS H4 λv H5=>H5 p=some (.lst ys)/\ys.length<sizeLine/\∃m',m'<xs.length-i/\CW xs.length Pv (i+1) m' (ys ++ [v]) aS (upd H5 p (.lst (ys ++ [v]))))
  (hd:∀ys σ H,Pv xs.length ys σ H->R H) :
  ∃W:Nat->Nat->List V->St->Hp->Prop,(∃m,W 0 m [] gz H0)/\∀i m ys dc H2,W i m ys dc H2->H2 p=some (.lst ys)/\(((qT K a).stop i H2/\R H2)\/((qT K a).go i H2/\∀x H3,(qT K a).ii i H2 x H3->g x dc H3 λaS H4=>te aS H4 λv H5 =>
   H5 p=some (.lst ys)/\ys.length<sizeLine/\∃m',m'<m/\W (i+1) m' (ys ++ [v]) aS (upd H5 p (.lst (ys ++ [v]))))):=by
 refine⟨CW xs.length Pv,⟨_,rfl,bG _,h0⟩,?_⟩;rintro i m ys σ H ⟨rfl,hi,hp⟩;obtain⟨h1,h2⟩:=hl i ys σ H hi hp;refine⟨h2,?_⟩;by_cases aA:i<xs.length
 .refine .inr ⟨⟨xs,xs[i],h1,cG aA⟩,?_⟩;rintro x H3 ⟨rfl,hx⟩;exact hs i ys x σ _ aA (hx xs h1) hp
 .refine .inl ⟨⟨xs,h1,by lia⟩,hd ys σ H ?_⟩;have e:i=xs.length:=by lia
  rw[<- e];exact hp
variable{scope:cH}{env:Env}
theorem ue(h:∀y∈scope.names,y.2 ≠ .cell/\y.2 ≠ .free){cl:List (Str×Addr)}:∀(C:Addr)(x:Str),((compEnvC scope cl C env).kindOf x=some .cell\/(compEnvC scope cl C env).kindOf x=some .free)->∃c,cl.lookup x=some c:=by
 have key:∀(l:List (Str×yl))(x:Str),(∀y∈l,y.2 ≠ .cell/\y.2 ≠ .free)->∀k,(l.map λ(n,k)=>if(k ==.free&&env.scope.kind ==.function&&env.kindOf n == some .cell) then(n,.cell) else(n,k)).lookup x=some k->k ≠ .cell/\k ≠ .free:=by
  intro l
  induction l with
  | nil=>intro x _ k e;simp at e
  | cons y l ih =>
   intro x hy k e;obtain⟨n,kd⟩:=y;have hk:=hy _ (bw ..);have e0:(kd == WX&&env.scope.kind ==.function&&env.kindOf n == some .cell)=false:=by
    have:(kd == WX)=false:=by
     cases kd <;> first|rfl|exact absurd rfl hk.2
    rw[this];rfl
   simp only[b8,e0,dv,cX,MH] at e;cases hx:x == n with
   | true =>
    rw[hx] at e;cases e;exact hk
   | false =>
    rw[hx] at e;exact ih x (λy hm=>hy y (bp _ hm)) k e
 intro C x hx;rcases hx with e|e
 .exact absurd rfl (key _ x h _ e).1
 .exact absurd rfl (key _ x h _ e).2
variable{X:Cx}{elt iter tg:Expr}{pos py Be:Pos}{wi:TI}{cl:List (Str×Addr)}{y:Str}{n0:Nat}
theorem OC(hN:X.N.Nodup)(rP:X.N[n0]?= some y)(hx:Loc X.env.scope y)(tn:List Str)(aE:List (Str×Nat))(hi:PI X tg iter wi)(hg:∀C fp s H,PG (dF X (tn++aE.map (·.1)) scope cl C fp s H) tg g)(he:∀C fp s H,PE (dF X (tn++aE.map (·.1)) scope cl C fp s H) elt te)
  (hc:X.calm=true) (uG:closureFor scope X.env=pure cl) (iC:∀y∈scope.names,y.2 ≠ .cell) (hk:scope.kind=.function) (qe:∀y∈scope.names,y.2=.local->scope.names.lookup y.1=some .local)
  (bZ:∀x c,cl.lookup x=some c->X.env.cells.lookup x=some c)
  (fV:∀C x,((compEnvC scope cl C X.env).kindOf x=some .cell\/(compEnvC scope cl C X.env).kindOf x=some .free)->∃c,cl.lookup x=some c)
  (j7:∀C,∀p∈aE,X.N[p.2]?= some p.1/\X.env.scope.names.lookup p.1=some .cell/\((compEnvC scope cl C X.env).kindOf p.1=some .cell\/(compEnvC scope cl C X.env).kindOf p.1=some .free))
  (hs:∀v,foldedSetIterable iter X.env v=pure v) (KU:swapsWith (.ListComp elt [⟨tg,iter,[],0⟩] scope pos) (some (.Name y py)) Be.line X.env=pure true) (hf:X.fn y=true\/X.env.scope.names.lookup y=some .local:=by first|exact .inl rfl|exact .inr rfl|assumption) :
  PS X (.Assign [.Name y py] (.ListComp elt [⟨tg,iter,[],0⟩] scope pos) Be) (zR (RN wi tn.length aE g te) (rC n0)):=by
 intro ac s σ H D I h;rw[X' _ _ _ _ KU];refine af (vR (af ?_));show wpAny _ X.A (do let _ <- comprehension (.ListComp elt [⟨tg,iter,[],0⟩] scope pos) scope X.env _ (newList []) false (eval iter X.env) (some (assign (.Name y py) X.env))) _ _ s;refine af (cM (Gn (use:=some (assign (.Name y py) X.env)) (Q:=λ_ s'=>SP X ac D .next s') rfl hs uG hk qe (aw (hi ac s σ H _ I h) λv s1 h1=>aw h1 λxC s2 h2=>?_)) (λ_ s' hq=>ah (ah hq)) λ_ _ e=>e)
 obtain⟨it,fp,kz,J,H2,e,I2,T,cE,f2,q2⟩:=h2;subst e;refine OP (R:=λp H6=>rC n0 (.ref p) σ H6 (λav H'=>D.nx av H')) tn aE hg he hc iC hk bZ fV j7 I2 T cE f2 q2 λs3 H3 I3 f3 acc qC H6 s6 I6 q6=>?_;obtain⟨m,hn,_⟩:=I6.loc;have I':Inv X ac σ H6 s6:=I3.B' (ch:=fp) I6.os I6.base I6.aj I6.bare λb hb=>⟨(f3 b hb).2.2.2.1,(f3 b hb).2.1,(f3 b hb).2.2.2.2.1,(f3 b hb).2.2.2.2.2⟩;have fC:bO X ac H6 s3.heap.objs.size:=I3.lC (aD _) I6.free;show wpAny _ X.A (assign (.Name y py) X.env (.ref acc)) _ _ s6;refine ND (Hj (v:=.ref acc) I' hN rP hx rfl (?_) hf);rintro s7 I7 ⟨a,sb,ha⟩;have Lx:s3.heap.objs.size≠a:=by
  rcases ha with z|z
  .rw[z];exact fC.2.1
  .exact(fC.2.2.2.2.1 _ _ z).symm
 exact⟨m,hn.sameBut sb Lx,λh' vT=>⟨_,H6,I7.turned (t':=s7.toks) (λb o hb e=>(vT.2 b hb).trans e) fC.1 fC.2.1 fC.2.2.2.1 fC.2.2.2.2.1 fC.2.2.2.2.2,q6⟩⟩
variable{ct:Expr}{tt:TT}
theorem yX(hN:X.N.Nodup)(rP:X.N[n0]?= some y)(hx:Loc X.env.scope y)(tn:List Str)(aE:List (Str×Nat))(hi:PI X tg iter wi)(hg:∀C fp s H,PG (dF X (tn++aE.map (·.1)) scope cl C fp s H) tg g)(ht:∀C fp s H,PT (dF X (tn++aE.map (·.1)) scope cl C fp s H) ct tt)(he:∀C fp s H,PE (dF X (tn++aE.map (·.1)) scope cl C fp s H) elt te)
  (hc:X.calm=true) (uG:closureFor scope X.env=pure cl) (iC:∀y∈scope.names,y.2 ≠ .cell) (hk:scope.kind=.function) (qe:∀y∈scope.names,y.2=.local->scope.names.lookup y.1=some .local)
  (bZ:∀x c,cl.lookup x=some c->X.env.cells.lookup x=some c)
  (fV:∀C x,((compEnvC scope cl C X.env).kindOf x=some .cell\/(compEnvC scope cl C X.env).kindOf x=some .free)->∃c,cl.lookup x=some c)
  (j7:∀C,∀p∈aE,X.N[p.2]?= some p.1/\X.env.scope.names.lookup p.1=some .cell/\((compEnvC scope cl C X.env).kindOf p.1=some .cell\/(compEnvC scope cl C X.env).kindOf p.1=some .free))
  (hs:∀v,foldedSetIterable iter X.env v=pure v) (KU:swapsWith (.ListComp elt [⟨tg,iter,[ct],0⟩] scope pos) (some (.Name y py)) Be.line X.env=pure true) (hf:X.fn y=true\/X.env.scope.names.lookup y=some .local:=by first|exact .inl rfl|exact .inr rfl|assumption) :
  PS X (.Assign [.Name y py] (.ListComp elt [⟨tg,iter,[ct],0⟩] scope pos) Be) (zR (IJ wi tn.length aE g tt te) (rC n0)):=by
 intro ac s σ H D I h;rw[X' _ _ _ _ KU];refine af (vR (af ?_));show wpAny _ X.A (do let _ <- comprehension (.ListComp elt [⟨tg,iter,[ct],0⟩] scope pos) scope X.env _ (newList []) false (eval iter X.env) (some (assign (.Name y py) X.env))) _ _ s;refine af (cM (Gn (use:=some (assign (.Name y py) X.env)) (Q:=λ_ s'=>SP X ac D .next s') rfl hs uG hk qe (aw (hi ac s σ H _ I h) λv s1 h1=>aw h1 λxC s2 h2=>?_)) (λ_ s' hq=>ah (ah hq)) λ_ _ e=>e)
 obtain⟨it,fp,kz,J,H2,e,I2,T,cE,f2,q2⟩:=h2;subst e;refine OS (R:=λp H6=>rC n0 (.ref p) σ H6 (λav H'=>D.nx av H')) tn aE hg ht he hc iC hk bZ fV j7 I2 T cE f2 q2 λs3 H3 I3 f3 acc qC H6 s6 I6 q6=>?_;obtain⟨m,hn,_⟩:=I6.loc;have I':Inv X ac σ H6 s6:=I3.B' (ch:=fp) I6.os I6.base I6.aj I6.bare λb hb=>⟨(f3 b hb).2.2.2.1,(f3 b hb).2.1,(f3 b hb).2.2.2.2.1,(f3 b hb).2.2.2.2.2⟩;have fC:bO X ac H6 s3.heap.objs.size:=I3.lC (aD _) I6.free;show wpAny _ X.A (assign (.Name y py) X.env (.ref acc)) _ _ s6;refine ND (Hj (v:=.ref acc) I' hN rP hx rfl (?_) hf);rintro s7 I7 ⟨a,sb,ha⟩;have Lx:s3.heap.objs.size≠a:=by
  rcases ha with z|z
  .rw[z];exact fC.2.1
  .exact(fC.2.2.2.2.1 _ _ z).symm
 exact⟨m,hn.sameBut sb Lx,λh' vT=>⟨_,H6,I7.turned (t':=s7.toks) (λb o hb e=>(vT.2 b hb).trans e) fC.1 fC.2.1 fC.2.2.2.1 fC.2.2.2.2.1 fC.2.2.2.2.2,q6⟩⟩
section
variable{κ : Type}[DecidableEq κ]
def bz(ae:List (κ × V))(k : κ):Option V:=(ae.find? λkv=>decide (kv.1=k)).map (·.2)
def putK(ae:List (κ × V))(k : κ)(v:V):List (κ × V) :=
 if(ae.any λkv=>decide (kv.1=k))=true then ae.map (λkv=>if kv.1=k then(kv.1,v) else kv) else ae ++ [(k,v)]
theorem l6{p : κ × V}{r:List (κ × V)}{k : κ}(e:p.1=k):bz (p::r) k=some p.2:=by simp[bz,ye,e]
theorem l_{p : κ × V}{r:List (κ × V)}{k : κ}(e : ¬ p.1=k):bz (p::r) k=bz r k:=by simp[bz,ye,e]
theorem rm(k : κ):∀ae:List (κ × V),(ae.any λkv=>decide (kv.1=k))=(bz ae k).isSome
 | []=>rfl
 | p::r=>by
  rw[yb];by_cases e:p.1=k
  .simp only[l6 e,aJ e,Bool.true_or,W8]
  .rw[l_ e,bt e,Bool.false_or];exact rm k r
theorem Qa(k j : κ)(y:V):∀ae:List (κ × V),bz (ae.map λkv=>if kv.1=k then(kv.1,y) else kv) j=(bz ae j).map λx=>if j=k then y else x
 | []=>rfl
 | p::r=>by
  have ih:=Qa k j y r;rw[b8];by_cases h:p.1=k
  .rw[ao h];by_cases e:p.1=j
   .rw[l6 (p:=(p.1,y)) e,l6 e,FR,ao (e.symm.trans h)]
   .rw[l_ (p:=(p.1,y)) e,l_ e,ih]
  .rw[ai h];by_cases e:p.1=j
   .rw[l6 (p:=p) e,l6 e,FR,ai (λz=>h (e.trans z))]
   .rw[l_ (p:=p) e,l_ e,ih]
theorem Px(k j : κ)(y:V):∀ae:List (κ × V),bz ae k=none->bz (ae ++ [(k,y)]) j=if j=k then some y else bz ae j
 | [],_=>by
  by_cases e:k=j
  .rw[ao e.symm];exact l6 (p:=(k,y)) e
  .rw[ai (λz=>e z.symm)];exact l_ (p:=(k,y)) e
 | p::r,hn=>by
  rw[vx];have hk : ¬ p.1=k:=λz=>by rw[l6 z] at hn;cases hn
  rw[l_ hk] at hn;have ih:=Px k j y r hn;by_cases e:p.1=j
  .rw[l6 e,l6 e,ai (λz=>hk (e.trans z))]
  .rw[l_ e,l_ e,ih]
theorem zc(ae:List (κ × V))(k j : κ)(y:V):bz (putK ae k y) j=if j=k then some y else bz ae j:=by
 unfold putK;by_cases a:(ae.any λkv=>decide (kv.1=k))=true
 .rw[ao a,Qa];rw[rm] at a;by_cases e:j=k
  .obtain⟨x,hx⟩:=BI.mp a;rw[ao e,e,hx,FR,ao rfl]
  .rw[ai e];cases bz ae j with
   | none=>rfl
   | some x=>rw[FR,ai e]
 .rw[ai a];refine Px k j y ae ?_;rw[rm] at a;cases q:bz ae k with
  | none=>rfl
  | some x=>rw[q] at a;exact(a rfl).elim
theorem wj(ae:List (κ × V))(k : κ)(v:V):(putK ae k v).length<=ae.length+1:=by
 unfold putK
 split
 .rw[aF];lia
 .rw[cw,bB,vz];lia
theorem ZlJ{ae:List (κ × V)}{k : κ}(v:V)(h:bz ae k=none):putK ae k v=ae ++ [(k,v)]:=by
 unfold putK;rw[rm,h];exact ai (by decide)
theorem gh.AV{o:Option V}{u:Option aa}(r:gh o u):o.isSome=u.isSome:=by
 cases o with
 | none=>cases u with
  | none=>rfl
  | some _=>exact(show False from r).elim
 | some _=>cases u with
  | none=>exact(show False from r).elim
  | some _=>rfl
theorem gh.getD{o:Option V}{u:Option aa}{d:V}{d':aa}(r:gh o u)(rd:RelV d d'):RelV (o.getD d) (u.getD d'):=by
 cases o with
 | none=>cases u with
  | none=>exact rd
  | some _=>exact(show False from r).elim
 | some _=>cases u with
  | none=>exact(show False from r).elim
  | some _=>exact r
theorem KV.val{ae:List (κ × V)}{vs:List (κ × aa)}(r:KV ae vs)(k : κ):gh (bz ae k) (valueAt vs k):=by
 unfold KV at r
 induction r with
 | nil=>exact jo
 | @cons p q ps qs h t ih =>
  obtain⟨h1,h2⟩:=h;by_cases e:p.1=k
  .have e':q.1=k:=h1.symm.trans e;have b:valueAt (q::qs) k=some q.2:=by simp[valueAt,ye,e']
   rw[l6 e,b];exact h2
  .have e' : ¬ q.1=k:=λz=>e (h1.trans z);have b:valueAt (q::qs) k=valueAt qs k:=by simp[valueAt,ye,e']
   rw[l_ e,b];exact ih
theorem KV.any{ae:List (κ × V)}{vs:List (κ × aa)}(r:KV ae vs)(k : κ):(ae.any λkv=>decide (kv.1=k))=vs.any λkv=>decide (kv.1=k):=by
 unfold KV at r
 induction r with
 | nil=>rfl
 | cons h t ih=>rw[yb,yb,ih,h.1]
theorem KV.LO{ae:List (κ × V)}{vs:List (κ × aa)}(r:KV ae vs)(k : κ){y:V}{u:aa}(ry:RelV y u) :
  KV (ae.map λkv=>if kv.1=k then(kv.1,y) else kv) (vs.map λkv=>if kv.1=k then(kv.1,u) else kv):=by
 unfold KV at r ⊢
 induction r with
 | nil=>exact .nil
 | @cons p q ps qs h t ih =>
  rw[b8,b8];refine .cons ?_ ih;obtain⟨h1,h2⟩:=h;by_cases e:p.1=k
  .rw[ao e,ao (h1.symm.trans e)];exact⟨h1,ry⟩
  .rw[ai e,ai (λz=>e (h1.trans z))];exact⟨h1,h2⟩
theorem KV.put{ae:List (κ × V)}{vs:List (κ × aa)}(r:KV ae vs)(k : κ){y:V}{u:aa}(ry:RelV y u):KV (putK ae k y) (stored vs k u):=by
 unfold putK stored;rw[r.any k];by_cases e:(vs.any λkv=>decide (kv.1=k))=true
 .rw[ao e,ao e];exact r.LO k ry
 .rw[ai e,ai e];exact sU r ⟨rfl,ry⟩
theorem KV.length{ae:List (κ × V)}{vs:List (κ × aa)}(r:KV ae vs):ae.length=vs.length:=dz r
end
variable{P:aq}{w:ap}
theorem uj{k:Key}{u:aa}(r:RelV (kV k) u):(ZK P w).is k u=true:=by
 cases k with
 | inl i=>obtain⟨t,e⟩:=(show ∃t,u=eC i t from r);subst e;exact Zgr P w i t
 | inr x=>obtain⟨t,e⟩:=(show ∃t,u=ef x t from r);subst e;exact ZgN P w x t
theorem P5{P:aq}{w:ap}:∀{ks:List Key}{us:List aa},Vals (ks.map kV) us->ItemsAre (ZK P w) ks us
 | [],_,r=>by rw[WM] at r;cases r;exact .nil
 | k::ks,_,r=>by
  rw[b8] at r;cases r with
  | cons h t=>exact .cons (uj h) (P5 t)
abbrev KT(H:Hp):List (List Key×V)->List (List Key×Addr×aa)->Prop:=ck λp q=>p.1=q.1/\H q.2.1=some (.tup (p.1.map kV))/\RelV p.2 q.2.2
variable{xs:List (List Key×Addr×aa)}{ae:List (List Key×V)}
theorem KT.val(r:KT H ae xs)(k:List Key):gh (bz ae k) ((atKey xs k).map (·.2)):=by
 induction r with
 | nil=>exact jo
 | @cons p q ps qs h t ih =>
  obtain⟨h1,_,h2⟩:=h;by_cases e:p.1=k
  .have e':q.1=k:=h1.symm.trans e;have b:atKey (q::qs) k=some q.2:=by simp[atKey,ye,e']
   rw[l6 e,b];exact h2
  .have e' : ¬ q.1=k:=λz=>e (h1.trans z);have b:atKey (q::qs) k=atKey qs k:=by simp[atKey,ye,e']
   rw[l_ e,b];exact ih
theorem KT.LO(r:KT H ae xs)(k:List Key){y:V}{u:aa}(ry:RelV y u) :
  KT H (ae.map λkv=>if kv.1=k then(kv.1,y) else kv) (xs.map (putAt k u)):=by
 induction r with
 | nil=>exact .nil
 | @cons p q ps qs h t ih =>
  rw[b8,b8];refine .cons ?_ ih;obtain⟨h1,h2,h3⟩:=h;unfold putAt;by_cases e:p.1=k
  .rw[ao e,ao (h1.symm.trans e)];exact⟨h1,h2,ry⟩
  .rw[ai e,ai (λz=>e (h1.trans z))];exact⟨h1,h2,h3⟩
theorem KT.put(r:KT H ae xs)(k:List Key){b:Addr}{y:V}{u:aa}(hb:H b=some (.tup (k.map kV)))(ry:RelV y u) :
  KT H (putK ae k y) (storedH xs k b u):=by
 have e:(ae.any λkv=>decide (kv.1=k))=(atKey xs k).isSome:=by
  rw[rm,(r.val k).AV,qH]
 unfold putK storedH;rw[e];by_cases q:(atKey xs k).isSome=true
 .rw[ao q,ao q];exact r.LO k ry
 .rw[ai q,ai q];exact sU r ⟨rfl,hb,ry⟩
theorem KT.keeps{H':Hp}(r:KT H ae xs)(ht:∀b ys,H b=some (.tup ys)->H' b=some (.tup ys)):KT H' ae xs :=
 ck.kl r λ_ _ z=>⟨z.1,ht _ _ z.2.1,z.2.2⟩
variable{h:Heap}
theorem RX{u:HO}(ok:bD P w H h)(e:Rd H a u):ZX P w H h a u:=e.ok ok
theorem DA{ae:List (Key×V)}(ok:bD P w H h)(e:Rd H a (.dK ae)):ae.length<=sizeLine/\(a == sysModules)=false/\∃vs,KV ae vs/\h.DictOf (ZK P w) a vs :=
 show ZX P w H h a (.dK ae) from RX ok e
theorem IS{ae:List (Key×V)}(ok:bD P w H h)(e:H a=some (.dK ae)):ae.length<=sizeLine/\(a == sysModules)=false/\∃vs,KV ae vs/\h.DictOf (ZK P w) a vs:=DA ok (.inl e)
theorem wJ{ks:List Key}(ok:bD P w H h)(e:H a=some (.tup (ks.map kV))):(tupleKind (ZK P w)).is h ks a:=by
 obtain⟨_,its,r,o,h1,h2,n,h3⟩:=(show ZX P w H h a (.tup (ks.map kV)) from ok a _ e);exact⟨o,its.toArray,n,h1,h2,h3,by simpa using P5 r⟩
theorem DB(ok:bD P w H h)(e:Rd H a (.dT ae)):ae.length<=sizeLine/\(a == sysModules)=false /\
  ∃xs,KT H ae xs/\h.DictOfH (tupleKind (ZK P w)) a xs:=by
 obtain⟨z,y,xs,r,o,es,ep,h1,h2,h3,h4,h5⟩:=(show ZX P w H h a (.dT ae) from RX ok e);refine⟨z,y,xs,r,o,es,ep,h1,h2,h3,h4,λx hx=>?_,h5⟩;have all:∀{l:List (List Key×V)}{m:List (List Key×Addr×aa)},KT H l m->∀x∈m,(tupleKind (ZK P w)).is h x.1 x.2.1:=by
  intro l m q
  induction q with
  | nil=>intro x hx;exact nomatch hx
  | @cons p q ps qs hq t ih =>
   intro x hx;rcases a8.mp hx with e|hx
   .subst e;exact wJ ok (by rw[<- hq.1];exact hq.2.1)
   .exact ih x hx
 exact all r x hx
theorem ZoB(ok:bD P w H h)(e:H a=some (.dT ae)):ae.length<=sizeLine/\(a == sysModules)=false /\
  ∃xs,KT H ae xs/\h.DictOfH (tupleKind (ZK P w)) a xs:=DB ok (.inl e)
def mv(H:Hp)(a:Addr)(y:V)(r:Option V):Prop :=
 (∃ae k,Rd H a (.dK ae)/\y=kV k/\r=bz ae k)\/∃ae k b,Rd H a (.dT ae)/\y=.ref b/\H b=some (.tup (k.map kV))/\r=bz ae k
def zN(H:Hp)(a:Addr)(y v:V)(H':Hp):Prop :=
 (∃ae k,H a=some (.dK ae)/\y=kV k/\ae.length<sizeLine/\H'=upd H a (.dK (putK ae k v))) \/
 ∃ae k b,H a=some (.dT ae)/\y=.ref b/\H b=some (.tup (k.map kV))/\ae.length<sizeLine/\H'=upd H a (.dT (putK ae k v))
theorem mv.k{H:Hp}{a:Addr}{ae:List (Key×V)}{k:Key}(e:H a=some (.dK ae)):mv H a (kV k) (bz ae k):=.inl ⟨ae,k,.inl e,rfl,rfl⟩
theorem zN.k{H:Hp}{a:Addr}{ae:List (Key×V)}{k:Key}{v:V}(e:H a=some (.dK ae))(hl:ae.length<sizeLine):zN H a (kV k) v (upd H a (.dK (putK ae k v))):=.inl ⟨ae,k,e,rfl,hl,rfl⟩
section
variable{X:Cx}{ac:List (Addr×Obj)}{σ : St}{H:Hp}{s:ag}{a:Addr}{y v:V}{u r:aa}{o:Option V}{A:aC}{E:aa->ag->Prop}
theorem Inv.big(I:Inv X ac σ H s):sysModules<s.heap.objs.size:=by
 have h:mainGlobals<s.heap.objs.size:=(I.mod.glob.keeps I.bk).lt;exact jj (by decide) h
theorem ZpC{Q:aa->ag->Prop}(hu:A.units+1<cLine)(I:Inv X ac σ H s)(g:mv H a y o)(ry:RelV y u)(h:∀s',Inv X ac σ H s'->Q (.bool o.isSome) s') :
  wpAny (model X.prog X.w) A (compareOp .In u (.ref a)) Q E s:=by
 rcases g with⟨ae,k,e,ey,l⟩|⟨ae,k,b,e,ey,eb,l⟩
 .subst ey;obtain⟨z,hd,vs,rel,dd⟩:=DA I.aj e;refine wpAny_in_of (uj ry) hd dd.mapOf ?_;rw[<- (rel.val k).AV,<- l];exact h _ (I.tok _)
 .subst ey;cases (show u=ar b from ry);obtain⟨z,hd,xs,rel,dd⟩:=DB I.aj e;refine Yv (NA hu) (wJ I.aj eb) hd dd ?_;have q:=(rel.val k).AV;rw[qH] at q;rw[<- q,<- l];exact h _ (I.tok _)
variable{h':Heap}
theorem zq{t':Nat}{ob:HO}(I:Inv X ac σ H s)(mu:yR (H a))(hs:dJ a s.heap h')(he:∃q,h'.get? a=some q)(new:ZX X.prog X.w (upd H a ob) h' a ob) :
  Inv X ac σ (upd H a ob) { s with heap:=h',toks:=t' } :=
 I.write (x:=a) (e:=a) mu (.inl rfl) (λb q hb z=>(hs.2 b hb).trans z) he new
variable{H':Hp}
theorem Rn{P:aq}{w:ap}{ae:List (Key×V)}{vs:List (Key×aa)}(z:ae.length<=sizeLine)(hd:(a == sysModules)=false)(rel:KV ae vs)(dd:h'.DictOf (ZK P w) a vs) :
  ZX P w H' h' a (.dK ae):=⟨z,hd,vs,rel,dd⟩
theorem ZjK{Q:Unit->ag->Prop}(hu:A.units+1<cLine)(I:Inv X ac σ H s)(g:zN H a y v H')(ry:RelV y u)(rv:RelV v r)(h:∀s',Inv X ac σ H' s'->Q () s') :
  wpAny (model X.prog X.w) A (setItem (.ref a) u r) Q E s:=by
 rcases g with⟨ae,k,e,ey,l,eH⟩|⟨ae,k,b,e,ey,eb,l,eH⟩
 .subst ey eH;obtain⟨z,hd,vs,rel,dd⟩:=IS I.aj e;have hz:vs.length<=sizeLine:=by rw[<- rel.length];exact z
  have hl:(putK ae k v).length<=sizeLine:=by have:=wj ae k v;lia
  refine wpAny_setItem_pairs (hsz:=hz) (uj ry) dd λh' lS hs=>h _ ?_;have he:∃q,h'.get? a=some q:=let ⟨q,_,_,hq,_⟩:=lS;⟨q,hq⟩;exact zq I (by rw[e];exact jo) hs he (Rn hl hd (rel.put k rv) lS)
 .subst ey eH;cases (show u=ar b from ry);obtain⟨z,hd,xs,rel,dd⟩:=ZoB I.aj e;have hz:xs.length<=sizeLine:=by rw[<- dz rel];exact z
  have hl:(putK ae k v).length<=sizeLine:=by have:=wj ae k v;lia
  refine YK (hsz:=hz) (NA hu) (wJ I.aj eb) dd λh' lS hs=>h _ ?_;obtain⟨q,es,ep,hq,h2,h3,h4,_,h5⟩:=lS;refine zq I (by rw[e];exact jo) hs ⟨q,hq⟩ ⟨hl,hd,_,(rel.put k eb rv).keeps λc ys ec=>?_,q,es,ep,hq,h2,h3,h4,h5⟩;rw[Zc (Zoy ec e (λz=>nomatch z))]
  exact ec
end
def Jc(i:Expr):Prop := ∀ov iv,subscripted i false ov iv=operate [ov,iv] (getItem ov iv)
theorem ZmW{prog:aq}{A:aC}{E:aa->ag->Prop}{s:ag}{value slice:Expr}{T id:String}{Q:aa->ag->Prop}
  (hl:typeLookup (.type T) "__getitem__" = pure (some (.builtin id))) (hs:Jc slice)
  (h:wpAny (model prog w) A (eval value env) (λo aZ=>wpAny (model prog w) A (eval slice env) (λi ku=>ku.TypeIs o T/\wpAny (model prog w) A (getItem o i) Q E ku) E aZ) E s) :
  wpAny (model prog w) A (eval (.Subscript value slice pos) env) Q E s:=by
 refine Subscript_ (cM h (λo aZ EG=>cM EG (λi ku Lf=>?_) λ_ _ x=>x) λ_ _ x=>x);obtain⟨hT,Lf⟩:=Lf;unfold subscriptTail;refine af ?_;rw[getitemInPython_of_ne hT.not_modules];refine af (qM hT hl ?_);have fin:wpAny (model prog w) A (subscripted slice false o i) (λr xR=>wpAny (model prog w) A (letTemporaryGo value o r >>= λ_=>pure r) Q E xR) E ku := by
  rw[hs o i];exact wpAny_operating (cM Lf (λr xR ZzW=>af (wpAny_letTemporaryGo (ah ZzW))) λ_ _ x=>x)
 first
  | exact ah (af fin)
  | exact af (ah (af fin))
  | exact af fin
def Zpq(ty td:TE):TE:=λσ H Q=>ty σ H λy H1=>td σ H1 λx H2=>∃a o,x=.ref a/\mv H2 a y o/\Q (.bl o.isSome) H2
def Zou(td ty tv:TE):TS:=λD σ H=>tv σ H λv H1=>td σ H1 λx H2=>ty σ H2 λy H3=>∃a H4,x=.ref a/\zN H3 a y v H4/\D.nx σ H4
section
variable{X:Cx}{o i e value:Expr}{pos pos' L6:Pos}{td ty tv:TE}
theorem Rw(hu:X.A.units+1<cLine)(hi:PE X i ty)(ho:PE X o td):PC X .In i o (Zpq ty td):=by
 intro ac s σ H Q I h;refine aw (hi ac s σ H _ I h) ?_;rintro iv s1 ⟨y,H1,I1,ry,q1⟩;refine aw (ho ac s1 σ H1 _ I1 q1) ?_;rintro u s2 ⟨x,H2,I2,rx,a,ov,ex,g,q2⟩;subst ex;obtain rfl:u=ar a:=rx;exact ZpC hu I2 g ry λs3 I3=>⟨.bl ov.isSome,H2,I3,rfl,q2⟩
theorem Zmm(hu:X.A.units+1<cLine)(ho:PE X o td)(hi:PE X i ty)(hv:PE X value tv)(hs:swapsWith value (some (.Subscript o i pos')) pos.line X.env=pure false) :
  PS X (.Assign [.Subscript o i pos'] value pos) (Zou td ty tv):=by
 intro ac s σ H D I h;refine Yl (aw (hv ac s σ H _ I h) ?_) hs;rintro r s1 ⟨v,H1,I1,rv,q1⟩;refine aw (ho ac s1 σ H1 _ I1 q1) ?_;rintro u s2 ⟨x,H2,I2,rx,q2⟩;refine aw (hi ac s2 σ H2 _ I2 q2) ?_;rintro iv s3 ⟨y,H3,I3,ry,a,H4,ex,g,q3⟩;subst ex;obtain rfl:u=ar a:=rx;exact ZjK hu I3 g ry rv λs4 I4=>⟨σ,H4,I4,q3⟩
end
theorem ZkH(h:Heap)(hb:sysModules<h.objs.size):ZX P w H (h.push { cls:=.type "dict",data:=.dict #[] }) h.objs.size (.dK []) :=
 ⟨bG _,nj.mpr (fB (bo hb)),[],.nil,Wk h⟩
def ZnH:TE:=λ_ H Q=>∀p,H p=none->Q (.ref p) (upd H p (.dK []))
theorem HJ:PE X (.Dict [] [] pos) ZnH:=λac s σ H Q I h =>
 Yn ⟨.ref s.heap.objs.size,_,I.laid (a:=s.heap.objs.size) (o:=.dK []) (t':=s.toks) (λ_ _ q=>aH _ q) (aD _) (ZkH s.heap I.big),rfl,h _ (I.aj.fresh (aD _))⟩
structure M1(X:Cx)(o:Expr)(m:Str)(apos:Pos)(e:Expr)(bP:Pos):Prop where
 base:attributeBase o m X.env (eval o X.env)=eval o X.env
 eY:((backTo bP (starEach [e] X.env)).all (λx=>!x.1)&&(backToKw bP (keywordEach [] X.env)).all (λx=>x.1.isSome)
  && decide (([e]:List Expr).length+([]:List sL).length+(if([]:List sL).isEmpty then 0 else 1)<30))=true
 line:(apos.endLine == bP.line)=true
 xT:backTo bP (starEach [e] X.env)=[(false,eval e X.env)]
structure M2(X:Cx)(o:Expr)(m:Str)(apos:Pos)(e f:Expr)(bP:Pos):Prop where
 base:attributeBase o m X.env (eval o X.env)=eval o X.env
 eY:((backTo bP (starEach [e,f] X.env)).all (λx=>!x.1)&&(backToKw bP (keywordEach [] X.env)).all (λx=>x.1.isSome)
  && decide (([e,f]:List Expr).length+([]:List sL).length+(if([]:List sL).isEmpty then 0 else 1)<30))=true
 line:(apos.endLine == bP.line)=true
 xT:backTo bP (starEach [e,f] X.env)=[(false,eval e X.env),(false,eval f X.env)]
def G2(H:Hp)(a:Addr):Prop:=(∃ae,Rd H a (.dK ae))\/∃ae,Rd H a (.dT ae)
theorem RB{ac:List (Addr×Obj)}{s:ag}(I:Inv X ac σ H s)(d:G2 H a) :
  s.TypeIs (.ref a) "dict" /\ (∀b,ar a=.ref b->∃ob,s.heap.get? b=some ob/\ob.dict=none)/\(a == sysModules)=false:=by
 rcases d with⟨ae,e⟩|⟨ae,e⟩
 .obtain⟨_,hd,vs,_,dd⟩:=DA I.aj e;refine⟨dd.typeIs,λb q=>?_,hd⟩;cases q;obtain⟨ob,_,_,h1,h2,_⟩:=dd;exact⟨ob,h1,h2.2.1⟩
 .obtain⟨_,hd,xs,_,dd⟩:=DB I.aj e;refine⟨dd.typeIs,λb q=>?_,hd⟩;cases q;obtain⟨ob,_,_,h1,h2,_⟩:=dd;exact⟨ob,h1,h2.2.1⟩
section
variable{X:Cx}{ac:List (Addr×Obj)}{σ : St}{H:Hp}{s:ag}{a:Addr}{y d:V}{u r:aa}{o:Option V}{A:aC}{E:aa->ag->Prop}
theorem ZnJ{Q:aa->ag->Prop}(hu:A.units+1<cLine)(I:Inv X ac σ H s)(g:mv H a y o)(ry:RelV y u)(rd:RelV d r)(h:∀w' s',Inv X ac σ H s'->RelV (o.getD d) w'->Q w' s') :
  wpAny (model X.prog X.w) A (call (.builtin "dict.get") [.ref a,u,r]) Q E s:=by
 rcases g with⟨ae,k,e,ey,l⟩|⟨ae,k,b,e,ey,eb,l⟩
 .subst ey;obtain⟨z,hd,vs,rel,dd⟩:=DA I.aj e;refine vN vI dd.typeIs FZ (MY _ _ _) (meets_dict_get_default (ZK X.prog X.w) a (uj ry) hd r) ⟨_,dd.mapOf,h _ _ (I.tok _) ?_⟩;rw[l];exact(rel.val k).getD rd
 .subst ey;cases (show u=ar b from ry);obtain⟨z,hd,xs,rel,dd⟩:=DB I.aj e;refine vN vI dd.typeIs FZ (MY _ _ _) (Yf (tupleKind (ZK X.prog X.w)) a b hd r) ⟨NA hu,k,xs,wJ I.aj eb,dd,h _ _ (I.tok _) ?_⟩;rw[l];exact(rel.val k).getD rd
end
def Zni(td ty tx:TE):TE:=λσ H Q=>td σ H λx H1=>∃a,x=.ref a/\G2 H1 a/\ty σ H1 λy H2=>tx σ H2 λz H3=>∃o,mv H3 a y o/\Q (o.getD z) H3
section
variable{X:Cx}{o e f:Expr}{apos bP:Pos}{td ty tx:TE}
theorem HX(hu:X.A.units+1<cLine)(ho:PE X o td)(he:PE X e ty)(hf:PE X f tx)(m:M2 X o "get" apos e f bP):PE X (.Call (.Attribute o "get" apos) [e,f] [] bP) (Zni td ty tx):=by
 intro ac s σ H Q I h;refine BX m.base m.eY m.line BK vI M3 (aw (ho ac s σ H _ I h) ?_);rintro u s1 ⟨x,H1,I1,rx,a,ex,d,q1⟩;subst ex;obtain rfl:u=ar a:=rx;obtain⟨t1,t2,_⟩:=RB I1 d;refine⟨t1,t2,?_⟩;rw[m.xT];refine vt rfl (x_ (oJ (aw (he ac s1 σ H1 _ I1 q1) λiv s2 ⟨y,H2,I2,ry,q2⟩ =>
  oJ (aw (hf ac s2 σ H2 _ I2 q2) λfv s3 ⟨z,H3,I3,rz,ov,g,q3⟩=>sH ?_))))
 exact ZnJ hu I3 g ry rz λw' s4 I4 lU=>⟨_,H3,I4,lU,q3⟩
end
structure jr(P:aq)(w:ap)(K:ay)(mg:Str->Option aa)(base:Heap)(C:Addr)(m:Str)(ps:List Str)(j:Nat)(sp:Sp):Prop where
 ex:∃f fd,br P w K mg base cA j f fd ps sp/\Binds K fd ps []/\Meth K C m f
structure qS(P:aq)(w:ap)(K:ay)(mg:Str->Option aa)(base:Heap)(C:Addr)(x:Str)(ps:List Str)(j:Nat)(sp:Sp):Prop where
 ex:∃f fd,br P w K mg base cA j f fd ps sp/\Binds K fd ps []/\Mk K C f/\mg x=some (.ref C)
section
variable{X:Cx}{C:Addr}{m x:Str}{ps:List Str}{j k:Nat}{sp:Sp}{o e:Expr}{es:List Expr}{ta:TE}{t:TA}{p pos apos:Pos}
variable{pl:Sem Bool}
theorem zi(G:jr X.prog X.w X.K X.mg X.base C m ps j sp)(hr:bK k X.A)(he:PE X o ta)(c:iu X.K C)(ha:PA X (e::es) t)(hk:j<=k:=by decide)
  (cC:starEach (e::es) X.env=(false,eval e X.env)::starEach es X.env:=by rfl) (aM:(backTo pos (starEach es X.env)).any (·.1)=false:=by rfl)
  (ht:eval (.Call (.Attribute o m apos) (e::es) [] pos) X.env=(do
   let ov <- eval o X.env
   standAt apos.atName
   let (f,first) <- holding [ov] (getMethod ov m pl)
   callWith pos f first (backTo pos (starEach (e::es) X.env)) (backToKw pos (keywordEach [] X.env))):=by rfl):PE X (.Call (.Attribute o m apos) (e::es) [] pos) (Dx C m sp [] E0 ta t):=by
 obtain⟨f,fd,F,b,hm⟩:=G.ex;exact Zmx (pl:=pl) he c hm (F.room hk) hr b .nil zG ha cC aM ht
theorem ZlF(G:jr X.prog X.w X.K X.mg X.base C m ps j sp)(hr:bK k X.A)(he:PE X o ta)(c:iu X.K C)(hk:j<=k:=by decide)
  (ht:eval (.Call (.Attribute o m apos) [] [] pos) X.env=(do
   let ov <- eval o X.env
   standAt apos.atName
   let (f,first) <- holding [ov] (getMethod ov m pl)
   callWith pos f first (backTo pos (starEach [] X.env)) (backToKw pos (keywordEach [] X.env))):=by rfl):PE X (.Call (.Attribute o m apos) [] [] pos) (Dx C m sp [] E0 ta iz):=by
 obtain⟨f,fd,F,b,hm⟩:=G.ex;exact ZkR (pl:=pl) he c hm (F.room hk) hr b .nil zG ht
end
theorem PQ:gH X (.type "int") (λxs H Q=>∃b,xs=[.bl b]/\Q (.int (if b=true then 1 else 0)) H):=by
 intro ac s σ H xs us Q I r h;obtain⟨b,rfl,q⟩:=h;obtain⟨u,rfl,ru⟩:=vals1 r;cases ru;exact call_int_bool ⟨.int (if b=true then 1 else 0),H,I.tok _,⟨_,rfl⟩,q⟩
end L2
namespace Fg
open PySem L2 nB
variable{xs ys:List Str}
theorem Zji{K:ay}{H:Hp}{a b:Addr}{n:Nat}{neg:Bool}{Q:VK}(hA:au K H a (xs.map V.str))(hB:au K H b (ys.map V.str))(o1:f' xs)(o2:f' ys)(hn:1<=n)
  (q:Q (.bl (if neg then !decide (xs=ys) else decide (xs=ys))) H):ZoI K n neg (.ref a) (.ref b) H Q:=by
 refine⟨.list (xs.map fY),.list (ys.map fY),.lst hA (Dd xs),.lst hB (Dd ys),CD o1,CD o2,?_,?_⟩
 .show min (jk (xs.map fY)+1) (jk (ys.map fY)+1)<=n;rw[Cz,Cz];exact hn
 .have e:lQ (.list (xs.map fY)) (.list (ys.map fY))=decide (xs=ys):=C0 xs ys;rw[e];exact q
theorem ZmZ(x y:Str)(h:x≠y):decide (x.cps.toList<y.cps.toList)= !decide (y.cps.toList<x.cps.toList):=by
 have aY:x.cps.toList≠y.cps.toList:=λe=>h (Zn6 e);by_cases h1:x.cps.toList<y.cps.toList
 .rw[aJ h1,bt (λh2=>WJ _ (WK h1 h2))];rfl
 .rw[bt h1];have h2:y.cps.toList<x.cps.toList:=by
   have:=List.not_lt.mp h1;rcases List.le_iff_lt_or_eq.mp this with z|z
   .exact z
   .exact absurd z.symm aY
  rw[aJ h2];rfl
theorem Qg:∀{xs ys:List Str},xs.length=ys.length->xs≠ys->fH xs ys= !fH ys xs
 | [],[],_,h=>absurd rfl h
 | [],_::_,h,_=>by simp at h
 | _::_,[],h,_=>by simp at h
 | x::xs,y::ys,hl,hn=>by
  rw[fH,fH];by_cases e:x=y
  .subst e;rw[ao rfl,ao rfl];exact Qg (by simpa using hl) λz=>hn (by rw[z])
  .rw[ai e,ai (fB e)];exact ZmZ x y e
theorem C5(h:xs≠ys):a_ xs ys= !a_ ys xs:=by
 unfold a_;by_cases e:xs.length=ys.length
 .rw[ao e,ao e.symm];exact Qg e h
 .rw[ai e,ai (fB e)];by_cases q:xs.length<ys.length
  .rw[aJ q,bt (by lia)];rfl
  .rw[bt q,aJ (by lia)];rfl
theorem Qh:∀{xs ys:List Str}(zs:List Str),xs.length=ys.length->fH (xs++zs) (ys++zs)=fH xs ys
 | [],[],zs,_=>CQ zs
 | [],_::_,_,h=>by simp at h
 | _::_,[],_,h=>by simp at h
 | x::xs,y::ys,zs,h=>by
  show(if x=y then fH (xs++zs) (ys++zs) else _)=(if x=y then fH xs ys else _)
  rw[Qh zs (by simpa using h)]
theorem O5(t:Str)(xs ys zs:List Str):a_ (t::(xs++zs)) (t::(ys++zs))=a_ xs ys:=by
 unfold a_;by_cases e:xs.length=ys.length
 .rw[ao e,ao (by simp[e]),fH,ao rfl];exact Qh zs e
 .rw[ai e,ai (by simpa using e)];by_cases q:xs.length<ys.length
  .rw[aJ q,aJ (by simpa using q)]
  .rw[bt q,bt (by simpa using q)]
end Fg
namespace L2
open PySem PySem.Spec PyProof.Rows
theorem lookup_mem{β : Type}{x:Str}{c : β}:∀{l:List (Str × β)},l.lookup x=some c->(x,c)∈l
 | [],h=>by cases h
 | (y,d)::l,h=>by
  rw[MH] at h;cases e:x == y with
  | true =>
   rw[e] at h;cases h;rw[oY.mp e];exact bw ..
  | false =>
   rw[e] at h;exact bp _ (lookup_mem h)
variable{env:Env}{cl:List (Str×Addr)}
theorem lr(h:∀p∈cl,env.cells.lookup p.1=some p.2):∀x c,cl.lookup x=some c->env.cells.lookup x=some c:=λx c e=>h (x,c) (lookup_mem e)
variable{scope:cH}
theorem mn(h:∀y∈scope.names,(y.2=.cell\/y.2=.free)->∃c,cl.lookup y.1=some c):∀(C:Addr)(x:Str),((compEnvC scope cl C env).kindOf x=some .cell\/(compEnvC scope cl C env).kindOf x=some .free)->∃c,cl.lookup x=some c:=by
 have key:∀(k:yl)(x:Str),(k=.cell\/k=.free)->(scope.names.map λ(n,k)=>if(k ==.free&&env.scope.kind ==.function&&env.kindOf n == some .cell) then(n,.cell) else(n,k)).lookup x=some k->∃c,cl.lookup x=some c:=by
  intro k x hk e;obtain⟨⟨n,k0⟩,hy,he⟩:=aX.mp (lookup_mem e);by_cases hc:(k0 ==.free&&env.scope.kind ==.function&&env.kindOf n == some .cell)=true
  .simp only[hc,qK] at he;have h0:k0=.free:=by
    simp only[gA] at hc;have:=hc.1.1;cases k0 <;> first|rfl|exact absurd this (by decide)
   injection he with e1 e2;subst e1;exact h _ hy (.inr h0)
  .simp only[hc] at he;injection he with e1 e2;subst e1 e2;exact h _ hy hk
 intro C x hx;rcases hx with e|e
 .exact key _ x (.inl rfl) e
 .exact key _ x (.inr rfl) e
variable{X:Cx}{K:ay}
theorem q_(h:X.K=K):yP X (Ja K):=by
 subst h;exact ZG
def Zz:Stmt->List Stmt
 | .For _ _ b _ _=>b
 | .While _ b _ _=>b
 | .If _ b _ _=>b
 | _=>[]
def RU:Stmt->List Stmt
 | .If _ _ b _=>b
 | _=>[]
variable{σ:St}{H:Hp}
theorem Zr{b:List Stmt}{D:Ends}(s:List Stmt){t:TS}(h:c8 X s t)(k:∀u,c8 X s u->u=t->∃t,c8 X b t/\t D σ H):∃t,c8 X b t/\t D σ H:=k t h rfl
theorem Zo{u t:TS}(e:u=t){D:Ends}{σ : St}{H:Hp}(h:t D σ H):u D σ H:=e ▸ h
variable{α:Type}
theorem R8:∀{us:List α},us.length=1->∃a,us=[a]
 | [a],_=>⟨a,rfl⟩
theorem IZ{n:Nat}:∀{us:List α},us.length=n+1->∃a vs,us=a::vs/\vs.length=n
 | a::vs,h=>⟨a,vs,rfl,Nat.succ.inj h⟩
theorem R_{us:List α}(h:us.length=2):∃a b,us=[a,b]:=by
 obtain⟨a,vs,rfl,h2⟩:=IZ h;obtain⟨b,rfl⟩:=R8 h2;exact⟨a,b,rfl⟩
theorem Sd{us:List α}(h:us.length=3):∃a b c,us=[a,b,c]:=by
 obtain⟨a,vs,rfl,h2⟩:=IZ h;obtain⟨b,c,rfl⟩:=R_ h2;exact⟨a,b,c,rfl⟩
theorem Zpu{us:List α}(h:us.length=4):∃a b c d,us=[a,b,c,d]:=by
 obtain⟨a,vs,rfl,h2⟩:=IZ h;obtain⟨b,c,d,rfl⟩:=Sd h2;exact⟨a,b,c,d,rfl⟩
variable{us:List aa}
theorem Vals.inv{v:V}{vs:List V}(h:Vals (v::vs) us):∃u yM,us=u::yM/\RelV v u/\Vals vs yM:=by
 cases h with
 | cons r t=>exact⟨_,_,rfl,r,t⟩
theorem Vals.end_(h:Vals [] us):us=[]:=by
 cases h;rfl
def XO(e:Addr)(C:aa)(d:Option Addr):Heap->Prop:=λh=>∃oe vs,h.get? e=some oe/\oe.cls=C/\oe.dict=d/\oe.data=.fields vs/\4<vs.size
variable{P:aq}{w:ap}{h:Heap}{e:Addr}{C:aa}{d:Option Addr}
theorem XO.SD(x:XO e C d h):ZX P w H h e (.ext (XO e C d)):=by
 refine⟨x,?_,λh1 h2 p k=>?_⟩
 .obtain⟨oe,_,ho,_⟩:=x;exact⟨oe,ho⟩
 .obtain⟨oe,vs,ho,r⟩:=p;exact⟨oe,vs,k oe ho,r⟩
variable{a:Addr}
theorem ZkT{o:HO}(h:H a=some o):upd H a o=H:=by
 funext b
 unfold upd;by_cases e:b=a
 .subst e;rw[ao rfl,h]
 .rw[ai e]
variable{ac:List (Addr×Obj)}{s:ag}
theorem Inv.xo(I:Inv X ac σ H s)(he:H e=some (.ext (XO e C d))):XO e C d s.heap:=(I.aj e _ he).1
variable{h':Heap}
theorem Inv.U_{t':Nat}(I:Inv X ac σ H s)(he:H e=some (.ext (XO e C d)))(k:∀b u,b≠e->s.heap.get? b=some u->h'.get? b=some u)(x:XO e C d h'):Inv X ac σ H { s with heap:=h',toks:=t' }:=by
 have:=I.write (x:=e) (e:=e) (o:=.ext (XO e C d)) (h':=h') (t':=t') (by rw[he];trivial) (.inl rfl) k (by obtain⟨oe,_,ho,_⟩:=x;exact⟨oe,ho⟩) x.SD
 rwa [ZkT he] at this
variable{T:Addr}
def yW(X:Cx)(ac:List (Addr×Obj))(H:Hp)(h:Heap)(e:Addr)(fl:aa):Prop :=
 ∃T oT ts oe vs,h.get? e=some oe/\oe.data=.fields vs/\vs[1]?= some (.ref T)/\bO X ac H T/\h.get? T=some oT/\oT.data=.fields ts/\ts[3]?= some fl
def N6(X:Cx)(ac:List (Addr×Obj))(H:Hp)(h:Heap)(e:Addr):Prop:=(∃oe vs,h.get? e=some oe/\oe.data=.fields vs/\vs[1]?= some .none)\/yW X ac H h e .none
theorem Dh{o:Obj}{vs:Array aa}(i:Nat)(x:aa)(ho:h.get? a=some o)(hd:o.data=.fields vs) :
  (h.update a (sS (·.setIfInBounds i x))).get? a=some (o.mapFields (·.setIfInBounds i x)):=sJ _ ho (MT (sR hd _))
theorem ZkL(o:Obj)(f:Array aa->Array aa):(o.mapFields f).dict=o.dict:=by
 obtain⟨c,d,dt,sl⟩:=o;cases dt <;> rfl
theorem XO.put(x:XO e C d h)(i:Nat)(v:aa):XO e C d (h.update e (sS (·.setIfInBounds i v))):=by
 obtain⟨oe,vs,ho,hc,oh,hd,hz⟩:=x;exact⟨_,_,Dh i v ho hd,(MS ..).trans hc,(ZkL ..).trans oh,sR hd _,by simpa using hz⟩
theorem Inv.slots(I:Inv X ac σ H s)(hs:Heap.SlotsOnly (h_ X.stack) s.heap h'):Inv X ac σ H { s with heap:=h' }:=by
 refine I.B' (s':={ s with heap:=h' }) (ch:=[]) rfl ⟨λb o q n hb _=>(hs.2.1 b hb).trans q,λb o q _ _ _=>hs.2.2 b o q,λ_ _ _ n _=>n,λb o q _=>let ⟨sl,e⟩:=hs.2.2 b o q;⟨_,e⟩,λ_ _ q=>q,λ_ _ _ q=>q,λ_ ps q=>⟨#[],by rw[q];simp⟩⟩ ?_ I.bare (λb z=>absurd z (by simp));intro b o q;have oj:=I.E6;refine(I.aj b o q).jJ (λc u hc z=>?_) (λ_ z=>z) (λ_ _ z=>z);have hn:c∉h_ X.stack:=by
  intro hm;rcases hc with rfl|hc
  .rw[oj _ hm] at q;cases q
  .rw[oj _ hm] at hc;cases hc
 exact(hs.2.1 c hn).trans z
variable{M:qE}{A:aC}{E:aa->ag->Prop}{Q:Unit->ag->Prop}
theorem PV{head:aa}{Zyb:Bool}(hA:A.frames=some (X.env::X.outer))(r_:X.stack=X.env::X.outer)(hf:X.env.frame=some X.env.locals)(I:Inv X ac σ H s)(he:H e=some (.ext (XO e C d)))
  (h:∀h',Inv X ac σ H { s with heap:=h' }->yW X ac H h' e (rawInt X.env.locals)->Q () { s with heap:=h' }) :
  wpAny M A (frameOf X.env >>= λa=>entryPlaceOf X.env.locals Zyb >>= λpl=>V_ head a .none (rawInt X.env.locals) .none pl >>= λb=>setField (.ref e) 1 b) Q E s:=by
 have hl:s.heap.FunFrames X.base (X.env::X.outer):=r_ ▸ I.stack;refine af (wpAny_frameOf_fun hA hl hf λh1 ke=>?_);have I1:Inv X ac σ H { s with heap:=h1 }:=I.slots (by rw[r_];exact ke);refine af (wpAny_entryPlaceOf λpl aM=>?_);unfold V_ newFields;refine af (pj ?_ (aM.sizeOk5 _ _ _ _ _));generalize gq:({ cls:=eQ "traceback",dict:=none,data:=sI ([head,ar X.env.locals,bq,rawInt X.env.locals,bq]++(if pl.isEmpty then FH 6 bq else pl)).toArray }:Obj)=ob
 have I2:Inv X ac σ H { s with heap:=h1.push ob }:=I1.kept (h':=h1.push ob) (t':=s.toks) λb u q=>aH _ q;obtain⟨oe,vs,ho,hc,oh,hd,hz⟩:=I2.xo he;refine ti ho hd (by lia) (h _ (I2.U_ (t':=s.toks) he (λb u hb q=>(jh _ _ (fB hb)).trans q) ((I2.xo he).put 1 _)) ?_);have hT:(h1.push ob).get? h1.objs.size=some ob:=bS _ (by rw[<- gq];rfl);have aY:e≠h1.objs.size:=λz=>by
  have:=I1.aj.lt he;rw[z] at this;exact absurd this (cW _)
 refine⟨h1.objs.size,ob,([head,ar X.env.locals,bq,rawInt X.env.locals,bq]++(if pl.isEmpty then FH 6 bq else pl)).toArray,_,_,Dh 1 _ ho hd,sR hd _,?_,I1.lC (aD _) (I1.aj.fresh (aD _)),(jh _ _ aY).trans hT,?_,?_⟩
 .rw[VL (by lia)]
 .rw[<- gq]
 .simp
theorem QR(hA:A.frames=some (X.env::X.outer))(r_:X.stack=X.env::X.outer)(hf:X.env.frame=some X.env.locals)(I:Inv X ac σ H s)(he:H e=some (.ext (XO e C d)))(x:N6 X ac H s.heap e)
  (h:∀h',Inv X ac σ H { s with heap:=h' }->yW X ac H h' e (rawInt X.env.locals)->Q () { s with heap:=h' }):wpAny M A (noteFrame (.ref e) X.env) Q E s:=by
 unfold noteFrame;simp only[hf];rcases x with⟨oe,vs,ho,hd,h1⟩|⟨T,oT,ts,oe,vs,ho,hd,h1,fT,hT,el,h3⟩
 .refine af (vO ho hd h1 ?_);rw[ai (by decide)];exact PV hA r_ hf I he h
 .refine af (vO ho hd h1 ?_);rw[ao (show(ar T != bq)=true by simp)];refine af (vO hT el h3 ?_);rw[ai (show ¬ ((bq == rawInt X.env.locals)=true) by simp[rawInt])];refine af (ti hT el (oI.mp h3).1 ?_);obtain⟨f0,f1,f2,f3,f4,f5⟩:=fT;have I1:=I.turned (t':=s.toks) (h':=s.heap.update T (sS (·.setIfInBounds 3 bq))) (λb u hb q=>(jh _ _ (fB hb)).trans q) f0 f1 f3 f4 f5;exact PV hA r_ hf I1 he h
theorem QH{fl:aa}(I:Inv X ac σ H s)(he:H e=some (.ext (XO e C d)))(x:yW X ac H s.heap e fl)
  (h:∀h',Inv X ac σ H { s with heap:=h' }->yW X ac H h' e .none->Q () { s with heap:=h' }):wpAny M A (setFlight (.ref e) none) Q E s:=by
 obtain⟨T,oT,ts,oe,vs,ho,hd,h1,fT,hT,el,h3⟩:=x;unfold setFlight;refine af (vO ho hd h1 ?_);rw[ao (show(ar T != bq)=true by simp)];refine ti hT el (oI.mp h3).1 ?_;obtain⟨f0,f1,f2,f3,f4,f5⟩:=id fT;have aY:T≠e:=λz=>by subst z;rw[f0] at he;cases he
 refine h _ (I.turned (t':=s.toks) (λb u hb q=>(jh _ _ (fB hb)).trans q) f0 f1 f3 f4 f5) ⟨T,_,_,oe,vs,(jh _ _ aY).trans ho,hd,h1,fT,Dh 3 _ hT el,sR el _,?_⟩;rw[VL (oI.mp h3).1];rfl
abbrev nF:=St->XK
def lV(P:aq)(w:ap):kY:=λouter H s E ev s'=>∃(e:Addr)(C:aa)(d:Option Addr)(H':Hp),ev=.ref e/\s'.os=s.os/\oH s'.gens/\Un (h_ outer) [] H H' s.heap s'.heap/\bD P w H' s'.heap /\
 H' e=some (.ext (XO e C d))/\s.heap.objs.size<=e/\(∃T oT ts oe vs,s'.heap.get? e=some oe/\oe.data=.fields vs/\vs[1]?= some (.ref T)/\H' T=none/\s.heap.objs.size<=T/\s'.heap.get? T=some oT/\oT.data=.fields ts/\ts[3]?= some .none)/\E C d H'
def um(X:Cx)(E:nF):Prop := ∀(ac:List (Addr×Obj))(σ : St)(H:Hp)(s:ag)(e:Addr)(C:aa)(d:Option Addr),Inv X ac σ H s->H e=some (.ext (XO e C d))->(X.ex=[]->X.dr.heap.objs.size<=e)->N6 X ac H s.heap e->E σ C d H->X.xe (.ref e) s
variable{mg:Str->Option aa}{base:Heap}{N:List Str}{qual:Str}{f:Addr}
theorem Pe{cd:aa}{outer:List Env}{E:XK} :
  um (nW (lV P w) P w K mg base N qual scope f cd A outer s H E) (λ_=>E):=by
 intro ac σ H1 s1 e C d I he hy x hE;show wpAny _ _ (leaving _ _) _ _ s1;unfold leaving;refine af (QR (X:=nW (lV P w) P w K mg base N qual scope f cd A outer s H E) I.ok.frames rfl rfl I he x λh2 I2 x2=>QH I2 he x2 λh3 I3 x3=>?_);obtain⟨T,oT,ts,oe,vs,ho,hd,h1,fT,hT,el,iq⟩:=x3;refine⟨e,C,d,H1,rfl,I3.os,I3.bare,I3.base,I3.aj,he,hy rfl,⟨T,oT,ts,oe,vs,ho,hd,h1,fT.1,?_,hT,el,iq⟩,hE⟩;rcases fT.2.2.2.1 with z|z
 .exact absurd z (by show T∉([]:List Addr);simp)
 .exact z
theorem Zil{E:nF}(hT:um X E){ac:List (Addr×Obj)}{σ : St}{H:Hp}{s s':ag}{ev:aa}(I:Inv X ac σ H s)(h:lV X.prog X.w X.stack H s (E σ) ev s'):X.xe ev s':=by
 obtain⟨e,C,d,H',rfl,os,bare,un,aj,he,i7,⟨T,oT,ts,oe,vs,ho,hd,h1,hTn,D8,yH,el,h3⟩,hE⟩:=h;have I1:=I.B' (ch:=[]) os un aj bare (λb z=>absurd z (by simp));exact hT ac σ H' s' e C d I1 he (λ_=>cz I.sz i7) (.inr ⟨T,oT,ts,oe,vs,ho,hd,h1,I.lC D8 hTn,yH,el,h3⟩) hE
structure tL(P:aq)(w:ap)(K:ay)(mg:Str->Option aa)(base:Heap)(x:Str)(ps:List Str)(k:Nat)(sp:Sp):Prop where
 ex:∃(f:Addr)(fd:dy),br P w K mg base (lV P w) k f fd ps sp/\Binds K fd ps []/\vJ K (.ref f)=true/\mg x=some (.ref f)
def Zoi(sp:Sp)(E:nF)(t:TA):TE:=λσ H Q=>t σ H λvs H1=>sp vs H1 Q (E σ)
section
variable{X:Cx}{j k:Nat}{f:Addr}{fd:dy}{ps:List Str}{sp:Sp}{E:nF}{x:Str}{p pos:Pos}{e:Expr}{es:List Expr}{t:TA}
theorem ZmJ{ac:List (Addr×Obj)}{σ : St}{H:Hp}{s:ag}{Q:VK}{us:List aa}{vs:List V}(F:br X.prog X.w X.K X.mg X.base (lV X.prog X.w) k f fd ps sp)(hr:bK k X.A)(hb:Binds X.K fd ps [])(hT:um X E)
  (I:Inv X ac σ H s) (r:Vals vs us) (h:sp vs H Q (E σ)):wpAny (model X.prog X.w) X.A (call (.ref f) us) (EP X ac σ Q) X.xe s:=by
 have hl:us.length=ps.length:=by rw[<- r.length];exact F.len _ _ _ _ h
 have D_:=hb s us I.bQ (by rw[gW];exact hl);rw[gW] at D_;refine nk (qJ (F.run X.A X.stack s H ⟨us,[]⟩ us vs Q (E σ) hr I.Jq D_ r h) λr s' hq=>?_);cases r with
 | error e=>exact Zil hT I hq
 | ok fl =>
  cases fl with
  | ret u=>exact I.after hq
  | next=>exact kC hq
  | brk=>exact kC hq
  | cont=>exact kC hq
theorem HY(G:tL X.prog X.w X.K X.mg X.base x ps j sp)(hT:um X E)(hr:bK k X.A)(hg:Gl X x)(ha:PA X (e::es) t)(hk:j<=k:=by decide)(dG:(x == ("__debug__" : Str))=false:=by decide)
  (he:starEach (e::es) X.env=(false,eval e X.env)::starEach es X.env:=by rfl) (aM:(backTo pos (starEach es X.env)).any (·.1)=false:=by rfl) :
  PE X (.Call (.Name x p) (e::es) [] pos) (Zoi sp E t):=by
 obtain⟨f,fd,F,b,kp,m⟩:=G.ex;intro ac s σ H Q I h;refine o9 (zm I hg m ?_ dG);refine BM (h₀ := X.base) I.ok.mod.vc kp (aw (ha pos ac s σ H _ I h) ?_) he aM;rintro us s1 ⟨vs,H1,I1,r,q⟩;refine⟨I1.bQ,?_⟩;exact ZmJ (F.room hk) hr b hT I1 r q
end
theorem ci.okX{x:Str}{st:Stmt}{fd:dy}{ps:List Str}{k:Nat}{sp:Sp}(F:ci K x qual st f fd)(S:cZ N ps (Zm st))(len:∀vs H Q E,sp vs H Q E->vs.length=ps.length)
  (pX:∀(bg:aa)(A:aC)(outer:List Env)(s:ag)(H:Hp)(vs:List V)(Q:VK)(E:XK),bK k (A.deeper (envOfC qual (Zm st) s.heap.objs.size f bg))->sp vs H Q E ->
   ∃t,c8 (nW (lV P w) P w K mg base N qual (Zm st) f bg A outer s H E) (Zf st) t/\t { nx:=λ_ H'=>Q .aB H',rt:=Q } (start N vs) H):br P w K mg base (lV P w) (k+1) f fd ps sp:=by
 obtain⟨oc,od,kV,doc,pm,an,bg,ct,oy,rfl,lk,fU⟩:=F.ex;exact IT lk fU S len λA outer s H vs Q E hr jD=>pX bg A outer s H vs Q E hr jD
structure tR(K:ay)(D:Addr):Prop where
 cl:M9 K D=true
 exc:sY K D (.type "BaseException")=some true
 nt:PySem.W.instIn K (.ref D) (.type "tuple")=some false
inductive Spec(K:ay)(H:Hp):V->List Addr->Prop
 | one {D:Addr}:tR K D->Spec K H (.ref D) [D]
 | many {p:Addr} {Ds:List Addr}:az K H p (Ds.map V.ref)->(∀D∈Ds,tR K D)->Spec K H (.ref p) Ds
theorem O_:∀{Ds:List Addr}{us:List aa},Vals (Ds.map V.ref) us->us=Ds.map ar
 | [],_,.nil=>rfl
 | D::Ds,_,.cons r t=>by
  rw[O_ t];obtain rfl:_=ar D:=r;rfl
variable{D:Addr}
theorem tR.isExc(x:tR K D)(X:K.In s.heap){Q:Bool->ag->Prop}(h:Q true s):wpAny M A (isExcClass (.ref D)) Q E s:=by
 have hc:=x.cl;unfold M9 PySem.W.clsIn at hc
 split at hc
 .rename_i ho
  unfold isExcClass;refine af ?_;show wpAny M A (loadHead D >>= _) _ _ s;refine af (B3 (X _ _ ho) (ah ?_));dsimp only;rw[if_pos rfl];exact(M_ X x.exc).here h
 .cases hc
theorem Ib{g:aa->PUnit->Sem (ForInStep PUnit)}:∀(Ls:List Addr),(∀D∈Ls,∀{Q:ForInStep PUnit->ag->Prop},Q (.yield FT) s->wpAny M A (g (.ref D) FT) Q E s)->∀{Q:PUnit->ag->Prop},Q FT s->wpAny M A (forIn (Ls.map ar) FT g) Q E s
 | [],_,_,h=>ah h
 | D::Ls,hg,_,h=>by
  rw[b8,sN];exact af (hg D (bw ..) (Ib Ls (λy hy=>hg y (bp _ hy)) h))
theorem IB{f:Addr->Bool}{g:aa->Option Bool×Unit->Sem (ForInStep (Option Bool×Unit))}:∀(Ls:List Addr),(∀D∈Ls,∀{Q:ForInStep (Option Bool×Unit)->ag->Prop},Q (if f D=true then .done (some true,()) else .yield (none,())) s->wpAny M A (g (.ref D) (none,())) Q E s) ->
  ∀{Q:Option Bool×Unit->ag->Prop},Q (if Ls.any f=true then some true else none,()) s->wpAny M A (forIn (Ls.map ar) ((none,()):Option Bool×Unit) g) Q E s
 | [],_,_,h=>ah h
 | D::Ls,hg,_,h=>by
  rw[b8,sN];rw[yb] at h;refine af (hg D (bw ..) ?_);cases hf:f D with
  | true =>
   rw[hf] at h;exact ah h
  | false =>
   rw[hf] at h;exact IB Ls (λy hy=>hg y (bp _ hy)) h
variable{oe:Obj}
theorem ZoC{f:Addr->Bool}{C:Addr}{Q:Bool->ag->Prop}{v:V}{u:aa}{Ds:List Addr}(I:Inv X ac σ H s)(hv:Spec X.K H v Ds)(r:RelV v u)(he:s.heap.get? e=some oe)(hc:oe.cls=.ref C)
  (hb:∀D∈Ds,sY X.K C (.ref D)=some (f D)) (h:Q (Ds.any f) s):wpAny M A (excMatches (.ref e) u) Q E s:=by
 cases hv with
 | @one D hD =>
  obtain rfl:u=ar D:=r;unfold excMatches;refine af ((PySem.W.looks_instIn I.bQ hD.nt).here ?_);dsimp only;rw[if_neg Bool.false_ne_true];refine af (ah ?_);refine af (Ib [D] (λy hy {Q} q=>?_) (af (YM he (af (IB (f:=f) [D] (λy hy {Q} q=>?_) ?_)))))
  .obtain rfl:=aI.mp hy;exact af (hD.isExc I.bQ (ah q))
  .rw[hc];refine af ((M_ I.bQ (hb y hy)).here ?_);cases hf:f y with
   | true=>rw[hf] at q;exact ah q
   | false=>rw[hf] at q;exact ah q
  .cases hf:[D].any f with
   | true=>rw[hf] at h;exact ah h
   | false=>rw[hf] at h;exact ah h
 | @many p _ hp hD =>
  obtain rfl:u=ar p:=r;obtain⟨its,rv,⟨o,ho,bZ,n,hd⟩,_⟩:=I.tuple hp;unfold excMatches;refine af (pd (T := "tuple") ⟨o,ho,bZ⟩ (show isSubtype (.type "tuple") (.type "tuple")=pure true by rw[BU];kernel_rfl) ?_);dsimp only;rw[if_pos rfl];refine af (qL ho hd (af (ah ?_)));have e1:((some its.toArray).getD #[]).toList=Ds.map ar:=by
   rw[<- O_ rv];rfl
  rw[e1];refine af (Ib Ds (λy hy {Q} q=>?_) (af (YM he (af (IB (f:=f) Ds (λy hy {Q} q=>?_) ?_)))))
  .exact af ((hD y hy).isExc I.bQ (ah q))
  .rw[hc];refine af ((M_ I.bQ (hb y hy)).here ?_);cases hf:f y with
   | true=>rw[hf] at q;exact ah q
   | false=>rw[hf] at q;exact ah q
  .cases hf:Ds.any f with
   | true=>rw[hf] at h;exact ah h
   | false=>rw[hf] at h;exact ah h
abbrev Cx.tr(X:Cx)(ac:List (Addr×Obj))(E:aa->ag->Prop):Cx:={ X with pn:=X.pn++ac,xe:=E }
abbrev Cx.hd(X:Cx)(e:Addr):Cx:={ X with A:=X.A.mark (some (.ref e)),calm:=false,xe:=λ_ _=>False }
theorem Inv.tr(I:Inv X ac σ H s)(E:aa->ag->Prop):Inv (X.tr ac E) [] σ H s :=
 ⟨⟨I.ok.mod,I.ok.kind,I.ok.glob,I.ok.blt,I.ok.above,I.ok.inj,I.ok.has,I.ok.mz,I.ok.hd,I.ok.frames,I.ok.oE,I.ok.lA,I.ok.bs,I.ok.iA,I.ok.mP,I.ok.lB,I.ok.gL,I.ok.jX⟩,I.os,I.bare,I.base,I.loc,I.cell,I.free,I.fq,λp hp=>I.pin p (by simpa using hp),I.aj,I.len⟩
variable{qP:List (Addr×Obj)}
theorem Inv.lN(I:Inv (X.tr ac E) qP σ H s):Inv X ac σ H s :=
 ⟨⟨I.ok.mod,I.ok.kind,I.ok.glob,I.ok.blt,I.ok.above,I.ok.inj,I.ok.has,I.ok.mz,I.ok.hd,I.ok.frames,I.ok.oE,I.ok.lA,I.ok.bs,I.ok.iA,I.ok.mP,I.ok.lB,I.ok.gL,I.ok.jX⟩,I.os,I.bare,I.base,I.loc,I.cell,I.free,I.fq,λp hp=>I.pin p (dN _ hp),I.aj,I.len⟩
theorem bO.lN(f:bO (X.tr ac E) qP H T):bO X ac H T:=⟨f.1,f.2.1,f.2.2.1,f.2.2.2.1,f.2.2.2.2.1,λp hp=>f.2.2.2.2.2 p (dN _ hp)⟩
theorem Inv.hd(I:Inv X ac σ H s)(e:Addr):Inv (X.hd e) ac σ H s :=
 ⟨⟨I.ok.mod,I.ok.kind,I.ok.glob,I.ok.blt,I.ok.above,I.ok.inj,I.ok.has,I.ok.mz,(λz=>nomatch z),I.ok.frames,I.ok.oE,I.ok.lA,I.ok.bs,I.ok.iA,I.ok.mP,I.ok.lB,I.ok.gL,I.ok.jX⟩,I.os,I.bare,I.base,I.loc,I.cell,I.free,I.fq,I.pin,I.aj,I.len⟩
theorem Inv.Bi(I:Inv (X.hd e) ac σ H s)(ok:X.Ok):Inv X ac σ H s:=⟨ok,I.os,I.bare,I.base,I.loc,I.cell,I.free,I.fq,I.pin,I.aj,I.len⟩
theorem Inv.Zwr{p:Addr×Obj}(I:Inv X (p::ac) σ H s):Inv X ac σ H s:=I.A8 λq hq=>I.pin q (cj _ (bp _ hq))
theorem SP.lN{D:Ends}{f:Flow}{s':ag}(h:SP (X.tr ac E) qP D f s'):SP X ac D f s':=by
 cases f with
 | next=>obtain⟨av,H',I,q⟩:=h;exact⟨av,H',I.lN,q⟩
 | brk=>obtain⟨av,H',I,q⟩:=h;exact⟨av,H',I.lN,q⟩
 | cont=>obtain⟨av,H',I,q⟩:=h;exact⟨av,H',I.lN,q⟩
 | ret u=>obtain⟨v,av,H',I,r,q⟩:=h;exact⟨v,av,H',I.lN,r,q⟩
def Known(e:Addr)(oe:Obj):HO:=.ext λh=>h.get? e=some oe
theorem Zlb(x:h.get? e=some oe):ZX P w H h e (Known e oe):=⟨x,⟨oe,x⟩,λ_ _ p k=>k _ p⟩
abbrev G5:=Ends->St->Hp->Addr->Obj->Prop
def PH(X:Cx)(hs:List Mn)(t:G5):Prop := ∀(ac:List (Addr×Obj))(s:ag)(σ : St)(H:Hp)(D:Ends)(e:Addr)(oe:Obj)(T:Addr)(oT:Obj)(ts vs:Array aa),
 Inv X ((T,oT)::ac) σ H s->bO X ac H T->oe.data=.fields vs->vs[1]?= some (.ref T)->oT.data=.fields ts->ts[3]?= some .none->H e=some (Known e oe)->t D σ H e oe ->
 wpAny (model X.prog X.w) X.A (handleBy (.ref e) X.env hs) (SP X ac D) X.xe s
def Zpn(tb:nF->TS)(th:G5):TS:=λD σ H=>∃E:nF,tb E D σ H/\∀(av:St)(C:aa)(d:Option Addr)(H':Hp)(e:Addr)(oe:Obj),E av C d H'->H' e=some (.ext (XO e C d))->oe.cls=C->oe.dict=d->(∃vs,oe.data=.fields vs)->th D av (upd H' e (Known e oe)) e oe
section
variable{X:Cx}{body:List Stmt}{h₀ : Mn}{hs rest:List Mn}{tb:nF->TS}{th tr:G5}{pos:Pos}
theorem Zoa(r_:X.stack=X.env::X.outer)(hf:X.env.frame=some X.env.locals)
  (hb:∀(E:nF)(ac:List (Addr×Obj))(Cq : aa->ag->Prop),um (X.tr ac Cq) E->MW (model X.prog X.w) X.A X.env Cq -> c8 (X.tr ac Cq) body (tb E)) (hh:PH X (h₀ :: hs) th):PS X (.Try body (h₀ :: hs) [] [] pos) (Zpn tb th):=by
 intro ac s σ H D I h;obtain⟨E,h1,h2⟩:=h;refine wpAny_Try_except ?_;refine cM (hb E ac _ ?_ MW.looking [] s σ H D (I.tr _) h1) (λf s1 q=>?_) λe s1 q=>q
 .intro qP av H' s1 e C d I1 he hy x hE;refine QR (X:=X.tr ac _) (by rw[I.ok.frames,r_]) r_ hf I1 he x λtE I2 x2=>QH I2 he x2 λh3 I3 x3=>?_;obtain⟨T,oT,ts,oe,vs,ho,hd,Uo,fT,hT,el,iq⟩:=x3;obtain⟨oe',Cj,b9,hc,oh,_⟩:=I3.xo he;rw[ho] at b9;cases b9;have I4:=I3.lN;have I5:=I4.write (x:=e) (e:=e) (o:=Known e oe) (t':=s1.toks) (h':=h3) (by rw[he];trivial) (.inl rfl) (λb u _ z=>z) ⟨oe,ho⟩ (Zlb ho);have GA:=fT.lN;have aY:T≠e:=λz=>by subst z;rw[GA.1] at he;cases he
  have DO:bO X ac (upd H' e (Known e oe)) T:=⟨by rw[Zc aY];exact GA.1,GA.2⟩;have I6:Inv X ((T,oT)::ac) av (upd H' e (Known e oe)) { s1 with heap:=h3 }:=I5.A8 λp hp=>by
   rcases a8.mp hp with rfl|hp
   .exact⟨hT,DO.1,DO.2.1,DO.2.2.1,λv z=>by rw[el] at z;cases z⟩
   .exact I5.pin p (cj _ hp)
  exact hh ac _ av _ D e oe T oT ts vs I6 DO hd Uo el iq Za (h2 av C d H' e oe hE he hc oh ⟨vs,hd⟩)
 .cases f with
  | next =>
   obtain⟨av,H',I',q⟩:=q;exact B1 ⟨av,H',I'.lN,q⟩
  | brk=>exact SP.lN q
  | cont=>exact SP.lN q
  | ret u=>exact SP.lN q
variable{E:aa->ag->Prop}{i:Nat}{n:Str}{Q:Unit->ag->Prop}
theorem CP{M:qE}{A:aC}{ac:List (Addr×Obj)}{σ : St}{H:Hp}{s:ag}(I:Inv X ac σ H s)(hN:X.N.Nodup)(hi:X.N[i]?= some n)(hk:X.env.scope.names.lookup n=some .local)
  (h:∀s',Inv X ac (σ.set i none) H s'->Q () s'):wpAny M A (bindName X.env n .none >>= λ_=>unbindBehindTheSuite X.env n pos) Q E s:=by
 obtain⟨m,hn,hl⟩:=id I.loc;have Ea:(X.env.scope.kind ==.class || (X.env.scope.kind ==.module&&X.env.locals != X.env.globals))=false:=by rw[I.ok.kind];rfl
 have dq:X.env.kindOf n=some .local:=hk;refine af (wpAny_bindName (YL dq hn (λha xt hsa=>?_) Ea));unfold unbindBehindTheSuite;refine wpAny_onRaise ?_;unfold unbindName deleteName;refine af (YA (af ?_));simp only[dq,Ea];rw[ai (by decide)];refine af (wpAny_nsDel_keeps xt λhb v qf Ex=>?_);simp only[qK,W8,jg,dv,cX];refine ah (YA (h _ ?_));have hs:=hsa.trans Ex;obtain⟨oL,_,_,uT,_⟩:=id hn;have mB:=I.mB;refine⟨I.ok,I.os,I.bare,⟨λb o e n hb hx=>?_,λb o e n hb hx=>?_,I.base.free,λb o e hx=>?_,I.base.lM,I.base.jY,I.base.ky⟩,⟨_,qf,λj y v' e1 e2 e3=>?_⟩,λy c e=>?_,I.free,I.fq,λp hp=>?_,λb ob e=>?_,by simpa using I.len⟩
 .exact(hs.2 b (bo (cg (aP e) I.ok.above))).trans (I.base.keep b o e n hb hx)
 .obtain⟨sl,e1⟩:=I.base.slot b o e n hb hx;exact⟨sl,(hs.2 b (bo (cg (aP e) I.ok.above))).trans e1⟩
 .obtain⟨o',e1⟩:=I.base.there b o e hx;exact⟨o',(hs.2 b (bo (cg (aP e) I.ok.above))).trans e1⟩
 .by_cases hj:j=i
  .subst hj;by_cases aA:j < σ.length
   .rw[MF aA] at e2;cases e2
   .rw[FC (by rw[List.length_set];lia)] at e2;cases e2
  .rw[ME (fB hj)] at e2;obtain⟨u',r',q⟩:=hl j y v' e1 e2 e3;refine⟨u',r',?_⟩;rcases q with⟨k,e⟩|⟨k,c,e,z⟩
   .refine .inl ⟨k,?_⟩;have:y≠n:=λe=>hj (HI hN e1 (e ▸ hi));simp[this,e]
   .exact .inr ⟨k,c,e,z.sameBut hs (mB y c e)⟩
 .obtain⟨w',z⟩:=I.cell y c e;exact⟨w',z.sameBut hs (mB y c e)⟩
 .obtain⟨e,n,ne,nf,d⟩:=I.pin p hp;exact⟨(hs.2 p.1 ne).trans e,n,ne,nf,d⟩
 .refine(I.aj b ob e).jJ (λc w' hc q=>(hs.2 c ?_).trans q) (λ_ q=>q) λ_ _ q=>q;rintro rfl;rcases hc with rfl|hc
  .rw[I.free] at e;cases e
  .rw[I.free] at hc;cases hc
def VC(D:Ends)(i:Nat):Ends:={ nx:=λσ H=>D.nx (σ.set i none) H,rt:=D.rt,bk:=λσ H=>D.bk (σ.set i none) H,ct:=λσ H=>D.ct (σ.set i none) H }
theorem ZgT{M:qE}{A:aC}{s:ag}{e T:Addr}{oe oT:Obj}{vs ts:Array aa}(ho:s.heap.get? e=some oe)(hd:oe.data=.fields vs)(h1:vs[1]?= some (.ref T))(hT:s.heap.get? T=some oT)(el:oT.data=.fields ts)(h3:ts[3]?= some .none)(h:Q () s) :
  wpAny M A (setFlight (.ref e) none) Q E s:=by
 unfold setFlight;refine af (vO ho hd h1 ?_);rw[ao (show(ar T != bq)=true by simp)];refine ti hT el (oI.mp h3).1 ?_;show Q () { s with heap:=s.heap.update T (sS (·.setIfInBounds 3 bq)) };rw[Heap.update_setField_same s.heap T oT ts 3 .none hT el h3];exact h
theorem Zoz{t:Expr}{Sh : Stmt}{sb:List Stmt}{tt:TE}{tu:TS}(ht:∀e,PE (X.hd e) t tt)(hN:X.N.Nodup)(hi:X.N[i]?= some n)(hk:X.env.scope.names.lookup n=some .local)(hs:∀e,c8 (X.hd e) (Sh :: sb) tu):PH X (.ExceptHandler (some t) (some n) (Sh :: sb) pos::rest)
  (λD σ H e oe=>tt σ H λv H1=>∃Ds C f,Spec X.K H1 v Ds/\oe.cls=.ref C/\(∀D∈Ds,sY X.K C (.ref D)=some (f D))/\Ds.any f=true/\H1 e=some (Known e oe)/\tu (VC D i) (σ.set i (some (.ref e))) H1):=by
 intro ac s σ H D e oe T oT ts vs I fT hd h1 el h3 he h;refine wpAny_handleBy_cons (codeAny_handlers_test (cM ((ht e) ((T,oT)::ac) s σ H _ (I.hd e) h) (λu s1 q=>?_) λ_ _ z=>z.elim)) (by intro z;cases z);obtain⟨v,H1,I1,r,Ds,C,f,jD,hc,hb,Zyc,fu,q⟩:=q;have B6:=I1.Bi I.ok;have T9:=(B6.aj e _ fu).1;refine ZoC (f:=f) B6 jD r T9 hc hb ?_;rw[Zyc];refine codeAny_handlers_suite_as ?_;have hTo:=(B6.pin (T,oT) (cj _ (bw ..))).1;refine ZgT T9 hd h1 hTo el h3 ?_;refine Hz B6.Zwr hN hi (.inl hk) (show RelV (.ref e) (.ref e) from rfl) (λs2 I2=>?_) (.inr hk);refine cM ((hs e) ac s2 _ H1 (VC D i) (I2.hd e) q) (λfl s3 q3=>?_) λ_ _ z=>z.elim;show wpAny _ X.A (bindName X.env n .none >>= λ_=>unbindBehindTheSuite X.env n pos) _ _ s3;cases fl with
 | next =>
  obtain⟨av,H',I3,q3⟩:=q3;exact CP (I3.Bi I.ok) hN hi hk λs' I'=>⟨_,_,I',q3⟩
 | brk =>
  obtain⟨av,H',I3,q3⟩:=q3;exact CP (I3.Bi I.ok) hN hi hk λs' I'=>⟨_,_,I',q3⟩
 | cont =>
  obtain⟨av,H',I3,q3⟩:=q3;exact CP (I3.Bi I.ok) hN hi hk λs' I'=>⟨_,_,I',q3⟩
 | ret u =>
  obtain⟨v3,av,H',I3,r3,q3⟩:=q3;exact CP (I3.Bi I.ok) hN hi hk λs' I'=>⟨v3,_,_,I',r3,q3⟩
end
end L2
namespace L2
open PySem PySem.Spec PyProof.Rows PySem.W
abbrev zT:List aa:=[.type "ValueError",.type "Exception",.type "BaseException",.type "object"]
def keysOk(es:Array lO):Bool:=es.toList.all λe=>match e.key with | .str _ _=>true|_=>false
structure G8(K:Frag)(G:Addr):Prop where
 ob:∃c0 dd cd sl oc od es ep vU,K.lookup G=some ⟨c0,dd,.cls cd,sl⟩/\K.lookup cd.ns=some ⟨oc,od,.dict es ep,vU⟩/\keysOk es=true/\nsIn K cd.ns "__init__" = some none
structure tU(K:Frag)(C G:Addr):Prop where
 ob:∃nm q N bs xh sn sub ab col dd k0 k1 k2 k3 k5,K.lookup C=some (excClassObj nm q C N bs (.ref G::zT) xh sn sub ab col dd k0 k1 k2 k3 k5 "ValueError.__new__")
 mid:G8 K G
 call:specialIn K (.ref C) "__call__" = some (some (.builtin "type.__call__"))
 typ:instIn K (.ref C) (.type "type")=some true
 kp:keepIn K (.ref C)=true
variable{K:Frag}{G:Addr}
theorem G8.tail{h:Heap}(x:G8 K G)(X:K.In h):OwnTail h zT (.ref G::zT):=by
 obtain⟨c0,dd,cd,sl,oc,od,es,ep,vU,h1,h2,h3,h4⟩:=x.ob;have j_:h.isNs cd.ns=true:=by
  unfold Heap.isNs;rw[X _ _ h2];have h5:=h3;unfold keysOk at h5;rw[Array.all_toList] at h5;exact h5
 have hN:=Heap.Ns.of_isNs j_;exact .own (X _ _ h1) hN (ns_none_of X hN h4) .base
theorem tU.mro{K:Frag}{C G:Addr}(x:tU K C G):∃cd,clsIn K C=some cd/\cd.mro=.ref C :: .ref G::zT:=by
 obtain⟨nm,q,N,bs,xh,sn,sub,ab,col,dd,k0,k1,k2,k3,k5,h1⟩:=x.ob;have e:clsIn K C=some { name:=nm,bases:=bs,mro:=.ref C :: .ref G::zT,ns:=N,qualname:=q,hasDict:=xh,slotNames:=sn,subclasses:=sub,abstract:=ab,collection:=col,hasDel:=false }:=by
  unfold clsIn;rw[h1]
 exact⟨_,e,rfl⟩
abbrev fk(C t:Addr):Obj:={ cls:=.ref C,data:=.fields #[.ref t,.none,.none,.none,.bool false,.none] }
abbrev dS(vs:List aa):Obj:={ cls:=.type "tuple",data:=.seq vs.toArray }
variable{prog:aq}{w:ap}{A:aC}{C:Addr}{R:nh->ag->Prop}{s:ag}
theorem ZhK{us:List aa}{init:aa}(x:tU K C G)(X:K.In s.heap)(hi:findIn K (.ref C) "__init__" = some (some init)) (b0:∀self,io (model prog w) s.heap (bindSpecial init self) (init,[self])) (hl:us.length<=sizeLine)
  (hq:codeAny (model prog w) (A.under (.builtin "type.__call__" ⟨.ref C::us,[]⟩)) (.call init ⟨.ref (s.heap.objs.size+1)::us,[]⟩) (InitBack (s.heap.objs.size+1) R)
   { s with heap:=(s.heap.push (dS us)).push (fk C s.heap.objs.size) }) :
  codeAny (model prog w) A (.call (.ref C) ⟨us,[]⟩) R s:=by
 obtain⟨hh,g,d,t,os⟩:=s;obtain⟨nm,q,N,bs,xh,sn,sub,ab,col,dd,k0,k1,k2,k3,k5,hK⟩:=x.ob;have hC:=X _ _ hK;have T:=x.mid.tail X;have call:=looks_specialIn (M:=model prog w) X x.call;have typ:=looks_instIn (M:=model prog w) X x.typ;have i0:=Nv (M:=model prog w) X hi;refine Nn ?_;show wpAny _ _ (callAny (.ref C) _) _ _ _;refine nd_load hC ?_;show wpAny _ _ (callAny.viaDunder (.ref C) _) _ _ _;unfold callAny.viaDunder;refine af (call.at ?_);dsimp only;rw[tc_bind];refine af (ah (af (ah ?_)));refine ah (a:=Fin.again (.call (.builtin "type.__call__") ⟨.ref C::us,[]⟩)) ⟨rfl,?_⟩;refine codeAny_call_builtin_at (Bo _ (by decide +kernel)) entry_typeCall (Nm tc_kind tc_split typ (tc_args _ _ _) ?_)
 repeat (first|with_reducible refine wpAny_loadPart_at hC ?_|with_reducible refine wpAny_madeBy_exc hC ?_|wp_step)
 refine codeAny_call_builtin_code (Bo _ Fn.quiet) (wpAny_check_new_subT Fn T hC (codeAny_exc_new_subT Fn T hC ?_ hl));show wpAny _ _ _ _ _ _;have k:∀b o,hh.get? b=some o->((hh.push (dS us)).push (fk C hh.objs.size)).get? b=some o:=λb o e=>aH _ (aH _ e);have hx:((hh.push (dS us)).push (fk C hh.objs.size)).get? (hh.objs.size+1)=some (fk C hh.objs.size):=by heap_get
 have t1:io (model prog w) ((hh.push (dS us)).push (fk C hh.objs.size)) (typeOf (.ref (hh.objs.size+1))) (.ref C):=(BE hx).andThen .now;have s1:io (model prog w) ((hh.push (dS us)).push (fk C hh.objs.size)) (isSubtype (.ref C) (.ref C)) true:=by
  obtain⟨cd,hc,hm⟩:=x.mro;refine(Gj X ?_).keeps k;unfold mroIn;rw[hc,yp,hm];simp
 have i1:=i0.keeps k;have b1:=(b0 (.ref (hh.objs.size+1))).keeps k;unfold isInstance callSpecial? specialOf
 repeat (first|with_reducible refine nk ?_|lk)
 refine qJ hq λr s' z=>?_;rcases r with e|(v|_|_|_) <;> first|exact z|exact z.elim|skip
 obtain⟨rfl,z⟩:=z;exact ah (ah z)
end L2
namespace L2
open PySem PySem.Spec PyProof.Rows PySem.W Builtin Builtin.ObjectAttr
theorem Qt(a b:aa):argsOk "BaseException.__getattribute__" ⟨[a,b],[]⟩:=F.args_bexc_ga a b
end L2
namespace L2
open PySem PySem.Spec PyProof.Rows PySem.W
def ZpG(x:Addr)(C:aa)(d:Option Addr):Heap->Prop:=λh=>∃ox vs t,h.get? x=some ox/\ox.cls=C/\ox.dict=d/\ox.data=.fields vs/\4<vs.size/\vs[0]?= some (.ref t)/\vs[1]?= some .none
variable{A:aC}{E:aa->ag->Prop}{s:ag}{K:Frag}{C G:Addr}
theorem Zli{M:qE}{env:Env}{x0:Sem aa}{Q:Flow->ag->Prop}(hh:A.handled=none)(y:tU K C G)
  (h:wpAny M A x0 (λv s1=>∃x d,v=.ref x/\K.In s1.heap/\ZpG x (.ref C) d s1.heap/\E (.ref x) s1) E s):wpAny M A (raiseStmt env (some x0) none) Q E s:=by
 unfold raiseStmt;refine af (cM h (λv s1 q=>?_) λ_ _ z=>z);obtain⟨x,d,rfl,X,⟨ox,vs,t,ho,hc,hd,hf,hz,h0,h1⟩,hE⟩:=q;obtain⟨cd,fU,TZ⟩:=y.mro;have ty:io M s1.heap (typeOf (.ref x)) (.ref C):=hc ▸ (BE ho).andThen .now;have isb:io M s1.heap (isInstance (.ref x) (.type "BaseException")) true:=ty.andThen (Gj X (by unfold mroIn;rw[fU,yp,TZ];rfl));have nt:io M s1.heap (isType (.ref x)) false:=by
  intro A' Q' E' s' k q;unfold isType loadHead;refine af (B3 (k _ _ ho) ?_);rw[hf];exact ah q
 obtain⟨nm,q,N,bs,xh,sn,sub,ab,col,dd,k0,k1,k2,k3,k5,hK⟩:=y.ob;have tt:io M s1.heap (typeOf (.ref C)) (.type "type"):=(BE (X _ _ hK)).andThen .now;refine af (ah (af (cP ?_)));unfold excFromValue isExcClass;refine af (af (nt.here ?_));rw[ai cL];refine ah ?_;rw[ai cL];refine af (isb.here ?_);rw[ao rfl];refine ah ?_;refine af (nt.here ?_);rw[ai cL];unfold raisedInstance;refine af (af (ty.here (af (tt.here ?_))));rw[ao (by decide)];refine ah ?_;unfold setFlight;refine af (af (vO ho hf h1 ?_));rw[ai (by decide)];exact ah (wpAny_raiseNew_none hh hE)
structure ZpT(K:Frag)(G:Addr):Prop where
 ga:specialIn K (.ref G) "__getattribute__" = some (some (.builtin "type.__getattribute__"))
 rd:readsIn K G (.type "type")=true
 fi:findCls K (.ref G) (.type "type") "__init__" = some (.val (.builtin "ValueError.__init__"))
structure tS(K:Frag)(C:Addr)(f:Str):Prop where
 sa:findIn K (.ref C) "__setattr__" = some (some (.builtin "object.__setattr__"))
 no:findIn K (.ref C) f=some none
 hd:hasDictIn K C=true
 ga:findIn K (.ref C) "__getattribute__" = some (some (.builtin "BaseException.__getattribute__"))
 gt:findIn K (.ref C) "__getattr__" = some none
 mb:mroIn K C (.type "BaseException")=some true
variable{prog:aq}{w:ap}
theorem ZkZ{x:Addr}{C c:aa}{Q:aa->ag->Prop}(X:K.In s.heap)(ty:∀M,io M s.heap (typeOf (.ref x)) C)(aY:(C == c)=false)(e:kitCls K C c=some true)
  (h:Q (.bool true) s):wpAny (model prog w) A (call (.builtin "isinstance") [.ref x,c]) Q E s:=by
 refine Gg (S:=λ_ R s=>(K.In s.heap/\∀M,io M s.heap (typeOf (.ref x)) C)/\R (.ok (.ret (.bool true))) s) (λprog w A R s hs=>Gh ?_ (λz=>nomatch z)) ⟨⟨X,ty⟩,h⟩
 .obtain⟨⟨X,LT⟩,hq⟩:=hs;obtain⟨h0,g,d,tt,os⟩:=s;unfold cF.«isinstance.nested»;refine af ((LT _).at ?_);rw[ai (by rw[aY];decide)];obtain⟨jE,qc,gQ⟩:=Nt (M:=model prog w) X e;refine af (jE.at ?_);rw[ao (by decide)]
  k_delta "plainIsInstance"
  refine af (af (qc.at ?_));simp only[jg,dv,cX];refine af (((LT _).andThen gQ).at ?_)
  first|exact ah (ah hq)|(simp only[qK];first|exact ah (ah hq)|exact ah hq)
variable{R:nh->ag->Prop}
theorem Znl{us:List aa}(x:tU K C G)(X:K.In s.heap)(hi:findIn K (.ref C) "__init__" = some (some (.builtin "ValueError.__init__"))) (hl:us.length<=sizeLine)
  (hq:R (.ok (.ret (.ref (s.heap.objs.size+1)))) { s with heap:=(((s.heap.push (dS us)).push (fk C s.heap.objs.size)).push (dS us)).update (s.heap.objs.size+1) (sS (·.setIfInBounds 0 (.ref (s.heap.objs.size+2)))) }) :
  codeAny (model prog w) A (.call (.ref C) ⟨us,[]⟩) R s:=by
 have F0:=Fn;refine ZhK x X hi (λself=>FJ (F0.init.bind self)) hl ?_;obtain⟨hh,g,d,tk,os⟩:=s;obtain⟨nm,q,N,bs,xh,sn,sub,ab,col,dd,k0,k1,k2,k3,k5,hK⟩:=x.ob;have k:∀b o,hh.get? b=some o->((hh.push (dS us)).push (fk C hh.objs.size)).get? b=some o:=λb o e=>aH _ (aH _ e);have hx:((hh.push (dS us)).push (fk C hh.objs.size)).get? (hh.objs.size+1)=some (fk C hh.objs.size):=by heap_get
 have X2:=X.keeps k;refine BR F0.init.plain F0.initEntry (wpAny_check_init_subT F0 (x.mid.tail X2) (X2 _ _ hK) hx rfl ?_);have kh:(((hh.push (dS us)).push (fk C hh.objs.size)).push (dS us)).get? (hh.objs.size+1)=some (fk C hh.objs.size):=aH _ hx;unfold cF.«BaseException.__init__»;refine af (NG ?_ hl);unfold ZBZ;refine af (af (vO (s:=⟨((hh.push (dS us)).push (fk C hh.objs.size)).push (dS us),g,d,tk,os⟩) kh rfl (x:=.ref hh.objs.size) rfl (af (ti (s:=⟨((hh.push (dS us)).push (fk C hh.objs.size)).push (dS us),g,d,tk,os⟩) kh rfl (by simp) ?_))))
 wp_walk
 refine⟨rfl,?_⟩;have e2:((hh.push (dS us)).push (fk C hh.objs.size)).objs.size=hh.objs.size+2:=by rw[iJ,iJ]
 rw[<- e2] at hq;exact hq
def Zm1(C:Addr)(E:nF)(t:TA):TS:=λ_ σ H=>t σ H λvs H1=>vs.length<=1000/\∀y,H1 y=none->E σ (.ref C) none (upd H1 y (.ext (XO y (.ref C) none)))
section
variable{X:Cx}{j k:Nat}{C G:Addr}{E:nF}{x:Str}{p pos bP:Pos}{e:Expr}{es:List Expr}{t:TA}
theorem ZjE(Z:tU X.K C G)(hi:findIn X.K (.ref C) "__init__" = some (some (.builtin "ValueError.__init__"))) (nm:X.mg x=some (.ref C)) (hT:um X E) (hr:bK k X.A) (hg:Gl X x) (ha:PA X (e::es) t) (dG:(x == ("__debug__" : Str))=false:=by decide)
  (he:starEach (e::es) X.env=(false,eval e X.env)::starEach es X.env:=by rfl) (aM:(backTo bP (starEach es X.env)).any (·.1)=false:=by rfl) :
  PS X (.Raise (some (.Call (.Name x p) (e::es) [] bP)) none pos) (Zm1 C E t):=by
 intro ac s σ H D I h;show wpAny _ _ (standAt pos >>= λ_=>raiseStmt X.env (some (eval (.Call (.Name x p) (e::es) [] bP) X.env >>= λv=>standAt pos >>= λ_=>pure v)) none) _ _ s;refine af (vR (Zli (hr.hd) Z (af ?_)));refine o9 (zm I hg nm ?_ dG);refine BM (h₀ := X.base) I.ok.mod.vc Z.kp (aw (ha bP ac s σ H _ I h) ?_) he aM;rintro us s1 ⟨vs,H1,I1,r,hl,q⟩;refine⟨I1.bQ,?_⟩;have hlu:us.length<=sizeLine:=by rw[<- r.length];exact cz hl (by decide)
 have hy:H1 (s1.heap.objs.size+1)=none:=I1.aj.fresh (qF _);have hE:=q (s1.heap.objs.size+1) hy;refine nk (Znl Z I1.bQ hi hlu ?_);have hx:((s1.heap.push (dS us)).push (fk C s1.heap.objs.size)).get? (s1.heap.objs.size+1)=some (fk C s1.heap.objs.size):=by heap_get
 have kh:(((s1.heap.push (dS us)).push (fk C s1.heap.objs.size)).push (dS us)).get? (s1.heap.objs.size+1)=some (fk C s1.heap.objs.size):=aH _ hx;have I2:Inv X ac σ (upd H1 (s1.heap.objs.size+1) (.ext (XO (s1.heap.objs.size+1) (.ref C) none))) { s1 with heap:=(s1.heap.push (dS us)).push (fk C s1.heap.objs.size) }:=by
  have a:=I1.kept (t':=s1.toks) (h':=s1.heap.push (dS us)) λb u q=>aH _ q;exact a.laid (t':=s1.toks) (λb u q=>aH _ q) (by show(s1.heap.push (dS us)).objs.size<=_;rw[iJ];exact aD _) (XO.SD ⟨_,_,hx,rfl,rfl,rfl,by simp⟩)
 have I3:=I2.kept (t':=s1.toks) (h':=((s1.heap.push (dS us)).push (fk C s1.heap.objs.size)).push (dS us)) λb u q=>aH _ q;have I4:=I3.U_ (t':=s1.toks) (h':=(((s1.heap.push (dS us)).push (fk C s1.heap.objs.size)).push (dS us)).update (s1.heap.objs.size+1) (sS (·.setIfInBounds 0 (.ref (s1.heap.objs.size+2))))) Za (λb u hb z=>(jh _ _ (fB hb)).trans z) (XO.put ⟨_,_,kh,rfl,rfl,rfl,by simp⟩ 0 _);have Tv:=Dh 0 (.ref (s1.heap.objs.size+2)) kh rfl;refine af (vR (ah ⟨_,none,rfl,I4.bQ,⟨_,_,s1.heap.objs.size+2,Tv,rfl,rfl,rfl,by simp,rfl,rfl⟩,?_⟩));exact hT ac σ _ _ _ (.ref C) none I4 Za (λ_=>cz I1.sz (qF _)) (.inl ⟨_,_,Tv,rfl,rfl⟩) hE
end
variable{X:Cx}
theorem Pq:gH X (.builtin "isinstance") (λxs H Q=>∃a oe C D,xs=[.ref a,.ref D]/\H a=some (Known a oe)/\oe.cls=.ref C/\C≠D/\isClsIn X.K D=true/\typeIn X.K (.ref D)=some (.type "type")/\mroIn X.K C (.ref D)=some true/\Q (.bl true) H):=by
 intro ac s σ H xs us Q I r h;obtain⟨a,oe,C,D,rfl,hk,hc,aY,h1,h2,h3,q⟩:=h;obtain⟨u,v,rfl,rx,ry⟩:=Vals.two r;obtain rfl:u=ar a:=rx;obtain rfl:v=ar D:=ry;have ho:s.heap.get? a=some oe:=(I.aj a _ hk).1;refine ZkZ I.bQ (C:=.ref C) (λM=>hc ▸ (BE ho).andThen .now) (by simpa using aY) ?_ ⟨.bl true,H,I,rfl,q⟩;unfold kitCls;dsimp only;unfold isClsIn at h1;rw[h1,h2,if_pos (by decide)];exact h3
variable{X:Cx}
end L2
namespace yT
open PySem PyProof.Rows
theorem PO{vs:List aa}{xs:Array dZ}(h:xs.toList.Perm (pairsOf vs).toList):(xs.map (·.2)).toList.Perm vs:=by
 rw[Bk];refine(h.map (·.2)).trans (Bu ?_);rw[BW,show(λp:dZ=>p.2)=MX from rfl,List.map_snd_zip (aD _)]
end yT
namespace L2
open PySem PySem.Spec PyProof.Rows
theorem Zj2{us yM:List aa}(h:yM.Perm us):∀{vs:List V},Vals vs us->∃Cj,Cj.Perm vs/\Vals Cj yM:=by
 induction h with
 | nil=>exact λr=>⟨_,oO _,r⟩
 | cons x _ ih =>
  intro vs r;cases r with
  | cons a t =>
   obtain⟨ws,p,r'⟩:=ih t;exact⟨_::ws,p.cons _,.cons a r'⟩
 | swap x y l =>
  intro vs r;cases r with
  | cons a t =>
   cases t with
   | cons b t=>exact⟨_,Mw ..,.cons b (.cons a t)⟩
 | trans _ _ ih1 ih2 =>
  intro vs r;obtain⟨ws,p,r1⟩:=ih2 r;obtain⟨NZ,p',r2⟩:=ih1 r1;exact⟨NZ,p'.trans p,r2⟩
theorem CF:∀{vs:List V}{us:List aa},Vals vs us->∀u∈us,∃v∈vs,RelV v u:=λh u hu=>ck.UP h hu
end L2
namespace L2
open PySem PySem.Spec PyProof.Rows PySem.W
def gJ(h:Heap)(d:Addr)(es:Array lO)(ep:Nat):Prop := ∃o,h.get? d=some o/\o.ExactDict/\o.data=.dict es ep
variable{s:ag}{d:Addr}{es:Array lO}{ep:Nat}
theorem gJ.L7(x:gJ s.heap d es ep):s.TypeIs (.ref d) "dict" := let ⟨o,ho,hc,_⟩:=x;⟨o,ho,hc.1⟩
theorem gJ.to{h h':Heap}(x:gJ h d es ep)(e:∀o,h.get? d=some o->h'.get? d=some o):gJ h' d es ep:=let ⟨o,ho,r⟩:=x;⟨o,e _ ho,r⟩
variable{prog:aq}{w:ap}{A:aC}{E:aa->ag->Prop}
theorem HC{Q:aa->ag->Prop}(lo:(d == sysModules)=false)(x:gJ s.heap d es ep)
  (q:Q (.ref s.heap.objs.size) { s with heap:=s.heap.push { cls:=.type "dict_keyiterator",data:=.fields #[.ref d,.int 0 0,.int es.size 0,.int ep 0] } }):wpAny (model prog w) A (pyIter (.ref d)) Q E s:=by
 obtain⟨o,ho,hx,cT⟩:=id x;have hT:=x.L7;refine NH hT Xl (nq Xl hT PySem.F.entry_dict_iter ?_ (PySem.F.args_dict_iter_1 _));unfold cF.«dict.__iter__»;refine af ?_;unfold ZB0;refine af (B4 hT ?_);refine ah (?_:wpAny _ _ (Mh d >>= _) _ _ s);unfold Mh;rw[ai (by rw[lo];exact cL)];refine af (ah (af (o_ ho cT (af (BZ ho cT ?_)))));exact af (pj (ah ⟨_,rfl,"dict_keyiterator",_,⟨_,bS _ rfl,rfl⟩,BL.lookup,q⟩))
variable{Q:Option aa->ag->Prop}{it:Addr}{i:Nat}
theorem HV(st:s.heap.IsKeyIter it d i es.size ep)(x:gJ s.heap d es ep)(hi:i<es.size)
  (q:∀h',h'.IsKeyIter it d (i+1) es.size ep->dJ it s.heap h'->Q (some es[i].key) { s with heap:=h' }):wpAny (model prog w) A (pyNext (.ref it)) Q E s:=by
 obtain⟨o,ho,hc,hd⟩:=id st;obtain⟨od,uU,hxd,oh⟩:=id x;unfold pyNext;refine af (s_ (BY (name:=cm "__next__") st.typeIs BL (nq BL st.typeIs Xe ?_ (Xd _))));refine af (ah (af (af ?_)))
 first|refine af (Gv st.typeIs (ah (af (yA ho hd ?_))))|refine af (Gw st.typeIs (ah (af (yA ho hd ?_))))
 have own:VZ "dict_keyiterator" = false:=by decide
 simp only[own,dv,cX];change wpAny _ _ (if(ar d == bq)=true then _ else _) _ _ s
 rw[ai (λz:(ar d == bq)=true=>cL z)];refine af (ah (af (o_ uU oh ?_)));rw[ai (by simp)];refine af (ah (af (BZ uU oh ?_)));rw[ai (by simp)];refine ah ?_;simp only[show ¬ ((i:Int)<0) by lia,cX,Wq,iI hi];refine af ?_;first|refine af (Gv st.typeIs (ah (af (NE st.typeIs ?_))))|refine af (Gw st.typeIs (ah (af (NE st.typeIs ?_))))
 change wpAny _ _ (setField (.ref it) 1 (rawInt ((i:Int)+1)) >>= _) _ _ s;refine af (ti ho hd (by simp) ?_);have cE:(s.heap.update it (sS (·.setIfInBounds 1 (rawInt ((i:Int)+1))))).IsKeyIter it d (i+1) es.size ep:=⟨_,sJ _ ho (MT (sR hd _)),(MS ..).trans hc,by rw[sR hd];simp[rawInt]⟩;refine af (cP (af (NE (s:={ s with heap:=s.heap.update it (sS (·.setIfInBounds 1 (rawInt ((i:Int)+1)))) }) cE.typeIs ?_)));change wpAny _ _ (pure es[i].key) _ _ _;exact ah (ah ⟨_,rfl,ah (q _ cE (oK ..))⟩)
theorem Iq(hh:A.handled=none)(st:s.heap.IsKeyIter it d i es.size ep)(x:gJ s.heap d es ep)(hi:es.size<=i)
  (q:∀h',Mr it s.heap h'->Q none { s with heap:=h' }):wpAny (model prog w) A (pyNext (.ref it)) Q E s:=by
 obtain⟨o,ho,hc,hd⟩:=id st;obtain⟨od,uU,hxd,oh⟩:=id x;unfold pyNext;refine af (s_ (BY (name:=cm "__next__") st.typeIs BL (nq BL st.typeIs Xe ?_ (Xd _))));refine af (ah (af (af ?_)))
 first|refine af (Gv st.typeIs (ah (af (yA ho hd ?_))))|refine af (Gw st.typeIs (ah (af (yA ho hd ?_))))
 have own:VZ "dict_keyiterator" = false:=by decide
 simp only[own,dv,cX];change wpAny _ _ (if(ar d == bq)=true then _ else _) _ _ s
 rw[ai (λz:(ar d == bq)=true=>cL z)];refine af (ah (af (o_ uU oh ?_)));rw[ai (by simp)];refine af (ah (af (BZ uU oh ?_)));rw[ai (by simp)];refine ah ?_;simp only[show ¬ ((i:Int)<0) by lia,cX,Wq,xY hi];refine af ?_;first|refine af (Gv st.typeIs (ah ?_))|refine af (Gw st.typeIs (ah ?_))
 change wpAny _ _ (setField (.ref it) 0 .none >>= _) _ _ s;refine af (ti ho hd (by simp) ?_);change wpAny _ _ (newExc (.type "StopIteration") [] >>= _) _ _ _;refine af ?_;simp only[newExc,newTuple];refine af (pj (af (m:=firstArgMember _ _) (tf (a:=bq) (by first|rfl|(simp only[firstArgMember];rfl)) (pj ?_ (by size_fits)))) (by size_fits))
 simp only[raiseNew];refine af (Yu ?_);rw[show A.in1.handled=none from hh];refine af (ah (Gu ?_));refine af (pd (T := "StopIteration") (b:=true) (v:=.ref _) (by exact⟨_,bS _ rfl,rfl⟩) Yc ?_);exact ah (q _ (((oK ..).extBut.push _).push _))
theorem Zjf(hh:A.handled=none)(aY:d≠it):Walks prog w A it [it,d] [it] es.size (λi v=>∃e,es[i]?= some e/\v=e.key) (λi h=>h.IsKeyIter it d i es.size ep/\gJ h d es ep) where
 sub:=λb hb=>a8.mpr (.inl (aI.mp hb))
 frame:=λ_ _ _ st hk=>⟨st.1.at λo e=>hk it (bw ..) o e,st.2.to λo e=>hk d (bp _ (bw ..)) o e⟩
 item:=λj s Q E hj st hQ=>HV st.1 st.2 hj λh' bL sb=>hQ _ h' s.toks ⟨_,iI hj,rfl⟩ ⟨bL,st.2.to λo e=>sb.extBut d o aY e⟩ λb o hb e=>sb.extBut b o (λz=>hb (aI.mpr z)) e
 done:=λs Q E st hQ=>Iq hh st.1 st.2 (aD _) λh' he=>hQ h' s.toks λb o hb e=>he b o (λz=>hb (aI.mpr z)) e
 self:=λ_ _ _ _ st hQ=>YC st.1 hQ
theorem QI(lo:(d == sysModules)=false):KdlSrc prog w "dict" d d es.size (λi v=>∃e,es[i]?= some e/\v=e.key) (λh=>gJ h d es ep) where
 type:=λ_ x=>x.L7
 there:=λ_ ⟨o,ho,_⟩=>⟨aP ho,aP ho⟩
 keep:=λ_ _ x hk=>x.to λo e=>hk d (.inl rfl) o e
 notList:=by decide
 notTuple:=by decide
 hint:=λ_ _ _ _ x hq=>kdl_hint_dict x.L7 hq
 iter:=λ_ _ hh x=>⟨_,_,(λ_ _ hq=>HC lo x hq),Zjf hh (let ⟨o,ho,_⟩:=x;bo (aP ho)),⟨⟨_,bS _ rfl,rfl,rfl⟩,x.to λ_ e=>aH _ e⟩⟩
end L2
namespace L2
open PySem PySem.Spec PyProof.Rows
def zP(lo c:Int)(n:Nat):It:=⟨λi _=>i<n,λi H x H'=>H'=H/\x=.int (lo+i*c),λi _=>n<=i⟩
theorem Zii{P:aq}{w:ap}{K:ay}{tg:Expr}(it:Addr)(lo c:Int)(n:Nat):Turn P w K tg (zP lo c n) [it] it (λi h=>Ft h it (lo+(i:Nat)*c) ((n:Int)-(i:Nat)) c) where
 mem:=aI.mpr rfl
 obj:=λi h st b hb=>by
  obtain rfl:=aI.mp hb;exact⟨_,st,λv z=>by
   have z2:sI _=V9 v:=z;exact nomatch z2⟩
 keep:=λi h h' st k=>k it (aI.mpr rfl) _ st
 item:=by
  intro X eP ew eK hc i ac s σ H E I hf st hg;subst eP ew eK;obtain⟨f0,f1,f2,f3,f4,f5⟩:=hf it (aI.mpr rfl);refine(XY (prog:=X.prog) (w:=X.w) (I.ok.hd hc) it lo c n).item i s _ _ hg st λv h' tk hv bL kk=>?_;obtain⟨t,rfl⟩:=hv;have I1:Inv X ac σ H { s with heap:=h',toks:=tk }:=I.turned (λb o hb e=>kk b o (λz=>hb (aI.mp z)) e) f0 f1 f3 f4 f5;exact⟨_,rfl,zI (s:={ s with heap:=h',toks:=tk }) (n := "range_iterator") bL rfl rfl (by decide) ⟨.int (lo+i*c),H,I1,⟨t,rfl⟩,⟨rfl,rfl⟩,bL,λb hb=>(hf b hb).1⟩⟩
 done:=by
  intro X eP ew eK hc i ac s σ H E I hf st hg;subst eP ew eK;obtain⟨f0,f1,f2,f3,f4,f5⟩:=hf it (aI.mpr rfl);have hni:n<=i:=hg;exact YH (I.ok.hd hc) st (by lia) λh' eb=>⟨rfl,I.turned (t':=s.toks) (λb o hb e=>eb b o hb e) f0 f1 f3 f4 f5⟩
 self:=λ_ _ _ _ _ st h=>YE st h
theorem Zj3{lo c:Int}{n:Nat}{g:TG}{tb:TS}{D:Ends}{σ : St}{H:Hp}(Pv:Nat->St->Hp->Prop)(h0:Pv 0 σ H)
  (hs:∀i σ H,i<n->Pv i σ H->g (.int (lo+i*c)) σ H λeu H2=>tb { D with nx:=Pv (i+1),ct:=Pv (i+1),bk:=D.nx } eu H2) (hd:∀ σ H,Pv n σ H->D.nx σ H) :
  ∃W:Nat->Nat->St->Hp->Prop,(∃m,W 0 m σ H)/\∀i m σ H,W i m σ H ->
   ((zP lo c n).stop i H/\D.nx σ H)\/((zP lo c n).go i H/\∃N:St->Hp->Prop,(∀ av H',N av H'->∃m',m'<m/\W (i+1) m' av H')/\∀x H',(zP lo c n).ii i H x H'->g x σ H' λeu H2=>tb { D with nx:=N,ct:=N,bk:=D.nx } eu H2):=by
 refine⟨λi m σ H=>m=n-i/\i<=n/\Pv i σ H,⟨n,rfl,bG _,h0⟩,?_⟩;rintro i m σ H ⟨rfl,hi,hp⟩;rcases kF i n with hl|hl
 .refine .inr ⟨hl,Pv (i+1),λav H' hN=>⟨n-(i+1),by lia,rfl,hl,hN⟩,?_⟩;rintro x H' ⟨rfl,rfl⟩;exact hs i σ _ hl hp
 .obtain rfl:i=n:=by lia
  exact .inl ⟨hl,hd σ H hp⟩
end L2
namespace l5
open PySem
def nx(m i:Nat):Nat:=(i*5+1) % (m+1)
def ot(m:Nat):Nat->Nat->Nat
 | 0,i=>i
 | n+1,i=>ot m n (nx m i)
theorem C_(m:Nat):∀a b i,ot m (a+b) i=ot m b (ot m a i)
 | 0,b,i=>by rw[sQ];rfl
 | a+1,b,i=>by rw[FL];exact C_ m a b (nx m i)
def seen(m:Nat):Nat->Nat->Nat->Nat
 | 0,_,acc=>acc
 | n+1,i,acc=>seen m n (nx m i) (acc ||| (1 <<< i))
theorem Qu(m:Nat):∀n i acc j,(seen m n i acc).testBit j=true->acc.testBit j=true\/∃k,k<n/\ot m k i=j
 | 0,_,_,_,h=>.inl h
 | n+1,i,acc,j,h=>by
  rcases Qu m n (nx m i) _ j h with h|⟨k,hk,e⟩
  .rw[Nat.testBit_or,Ff] at h;rcases h with h|h
   .exact .inl h
   .rw[Nat.testBit_shiftLeft] at h;have h2:i<=j/\(1:Nat).testBit (j-i)=true:=by simpa using h
    have h3:j-i=0:=by
     have:=h2.2;rw[Nat.testBit_one_eq_true_iff_self_eq_zero] at this;exact this
    exact .inr ⟨0,vG _,by show i=j;lia⟩
  .exact .inr ⟨k+1,Nat.succ_lt_succ hk,e⟩
def Good(m:Nat):Prop:=m=7\/m=15\/m=31\/m=63\/m=127\/m=255\/m=511\/m=1023\/m=2047\/m=4095
def Jd(m:Nat):Bool:=seen m (m+1) 0 0 == 2 ^ (m+1)-1&&ot m (m+1) 0 == 0
variable{m:Nat}
theorem QD(h:Good m):Jd m=true:=by
 rcases h with h|h|h|h|h|h|h|h|h|h <;> subst h <;> decide +kernel
variable{j:Nat}
theorem SQ(h:Good m)(hj:j<=m):∃n,n<=m/\ot m n 0=j:=by
 have hc:=QD h;unfold Jd at hc;rw[gA] at hc;have h1:=eq_of_beq hc.1;have hb:(seen m (m+1) 0 0).testBit j=true:=by
  rw[h1,Nat.testBit_two_pow_sub_one];exact aJ (by lia)
 rcases Qu m (m+1) 0 0 j hb with h|⟨k,hk,e⟩
 .simp at h
 .exact⟨k,by lia,e⟩
theorem ZoY(h:Good m):ot m (m+1) 0=0:=by
 have hc:=QD h;unfold Jd at hc;rw[gA] at hc;exact eq_of_beq hc.2
theorem reach{i:Nat}(h:Good m)(hi:i<=m)(hj:j<=m):∃n,n<=m/\ot m n i=j:=by
 obtain⟨a,ha,ea⟩:=SQ h hi;obtain⟨b,hb,eb⟩:=SQ h hj;by_cases ei:a<=b
 .refine⟨b-a,by lia,?_⟩;rw[<- ea,<- C_,Nat.add_sub_cancel' ei];exact eb
 .refine⟨m+1-a+b,by lia,?_⟩;rw[<- ea,<- C_,show a+(m+1-a+b)=(m+1)+b by lia,C_,ZoY h];exact eb
def bI(t:bc):Nat->dO->dO
 | 0,p=>p
 | n+1,p=>bI t n (t.advance p)
theorem ua(t:bc):∀a b p,bI t (a+b) p=bI t b (bI t a p)
 | 0,b,p=>by rw[sQ];rfl
 | a+1,b,p=>by rw[FL];exact ua t a b (t.advance p)
def lp(t:bc)(p:dO):dO:={ p with j:=(p.i*5+1+p.perturb / 32) % (t.mask+1),more:=jm t.mask ((p.i*5+1+p.perturb / 32) % (t.mask+1))-(p.i*5+1+p.perturb / 32) % (t.mask+1),i:=(p.i*5+1+p.perturb / 32) % (t.mask+1),perturb:=p.perturb / 32 }
theorem IC(t:bc):∀(n:Nat)(p:dO),p.more=n->bI t (n+1) p=lp t p
 | 0,p,h=>by
  show t.advance p=lp t p;unfold sZ;rw[ai (by lia)];rfl
 | n+1,p,h=>by
  show bI t (n+1) (t.advance p)=lp t p;have e:t.advance p= { p with j:=p.j+1,more:=p.more-1 }:=by
   unfold sZ;rw[ao (by lia)]
  rw[e,IC t n { p with j:=p.j+1,more:=p.more-1 } (by show p.more-1=n;lia)];rfl
def cV(t:bc):Nat->dO->dO
 | 0,p=>p
 | n+1,p=>cV t n (lp t p)
theorem ZmG(t:bc)(p:dO):(lp t p).more<=9:=by
 show jm t.mask _-_<=9;unfold jm
 split <;> lia
theorem Qy(t:bc):∀(k:Nat)(p:dO),p.more<=9->∃n,n<=10*k/\bI t n p=cV t k p
 | 0,p,_=>⟨0,aD _,rfl⟩
 | k+1,p,h=>by
  obtain⟨n,hn,e⟩:=Qy t k (lp t p) (ZmG t p);refine⟨p.more+1+n,by lia,?_⟩;rw[ua,IC t p.more p rfl,e];rfl
theorem CO(t:bc):∀(k:Nat)(p:dO),cV t (k+1) p=lp t (cV t k p)
 | 0,_=>rfl
 | k+1,p=>CO t k (lp t p)
theorem H_(t:bc):∀(k:Nat)(p:dO),(cV t k p).perturb=p.perturb / 32 ^ k
 | 0,p=>by simp[cV]
 | k+1,p=>by
  show(cV t k (lp t p)).perturb=_;rw[H_ t k (lp t p)];show p.perturb / 32 / 32 ^ k=_;rw[Nat.div_div_eq_div_mul,W3,Nat.mul_comm]
theorem HL(t:bc):∀(n:Nat)(p:dO),p.perturb=0->(cV t n p).i=ot t.mask n p.i/\(1<=n->(cV t n p).j=(cV t n p).i)/\(cV t n p).perturb=0
 | 0,p,h=>⟨rfl,λz=>absurd z (by decide),h⟩
 | n+1,p,h=>by
  have h0:(lp t p).perturb=0:=by show p.perturb / 32=0;rw[h]
  have hi:(lp t p).i=nx t.mask p.i:=by show(p.i*5+1+p.perturb / 32) % (t.mask+1)=_;rw[h];rfl
  obtain⟨a,b,c⟩:=HL t n (lp t p) h0;refine⟨?_,λ_=>?_,c⟩
  .show(cV t n (lp t p)).i=_;rw[a,hi];rfl
  .cases n with
   | zero=>rfl
   | succ n=>exact b (by lia)
variable{t:bc}
theorem meets{p:dO}(hg:Good t.mask)(hm:p.more<=9)(hp:p.perturb<2 ^ 64){j:Nat}(hj:j<=t.mask):∃n,n<10*iM t.mask/\(bI t n p).j=j:=by
 have h0:(cV t 13 p).perturb=0:=by
  rw[H_];exact WY (cg hp (by decide))
 have hi:(cV t 13 p).i<=t.mask:=by
  rw[CO];exact BG (yo _ (vG _))
 have hji:(cV t 13 p).j=(cV t 13 p).i:=by
  rw[CO];rfl
 obtain⟨n,hn,e⟩:=reach hg hi hj;obtain⟨a,b,_⟩:=HL t n (cV t 13 p) h0;have hl:(cV t n (cV t 13 p)).j=j:=by
  cases n with
  | zero=>exact hji.trans e
  | succ n=>rw[b (by lia),a,e]
 have J8:∀(a b:Nat)(p:dO),cV t (a+b) p=cV t b (cV t a p):=by
  intro a
  induction a with
  | zero=>intro b p;rw[sQ];rfl
  | succ a ih=>intro b p;rw[FL];exact ih b (lp t p)
 obtain⟨c,hc,ec⟩:=Qy t (13+n) p hm;refine⟨c,?_,?_⟩
 .unfold iM;lia
 .rw[ec,J8];exact hl
theorem tZ(t:bc)(h:Int):(t.probeStart h).more<=9/\(t.probeStart h).perturb<2 ^ 64/\(t.probeStart h).dummy=none:=by
 refine⟨?_,?_,rfl⟩
 .show jm t.mask _-_<=9;unfold jm
  split <;> lia
 .show fM h<2 ^ 64;unfold fM;have h1:=oN h (by decide:((2:Int) ^ 64)≠0);have h2:=oM h (by decide:(0:Int)<2 ^ 64);lia
theorem Zio(hd:t.dummies=#[])(hf:t.fill<=t.mask):∃j,j<=t.mask/\t.slot j=.empty:=by
 apply Bn;intro hn;have cu:∀j,j<=t.mask->j∈t.place.toList:=λj hj=>by
  have h1:t.slot j ≠ .empty:=λz=>hn ⟨j,hj,z⟩;unfold yu at h1;dsimp only at h1
  split at h1
  .rename_i h2
   have h3:=eq_of_beq h2;rw[<- fz] at h3;exact bW h3
  .exfalso;rw[hd] at h1;exact h1 rfl
 have gQ:(fL (t.mask+1)) ⊆ t.place.toList:=λj hj=>cu j (by have:=ik.mp hj;lia);have hlen:=(WR (n:=t.mask+1)).length_le_of_subset gQ;rw[yj,aW] at hlen;unfold yt at hf;lia
theorem Ph{p:dO}(hg:Good t.mask)(hp:p.perturb<2 ^ 64){j:Nat}(hj:j<=t.mask):∃k,k<=13+t.mask/\(cV t k p).i=j:=by
 have h0:(cV t 13 p).perturb=0:=by
  rw[H_];exact WY (cg hp (by decide))
 have hi:(cV t 13 p).i<=t.mask:=by
  rw[CO];exact BG (yo _ (vG _))
 obtain⟨n,hn,e⟩:=reach hg hi hj;obtain⟨a,_,_⟩:=HL t n (cV t 13 p) h0;have J8:∀(a b:Nat)(p:dO),cV t (a+b) p=cV t b (cV t a p):=by
  intro a
  induction a with
  | zero=>intro b p;rw[sQ];rfl
  | succ a ih=>intro b p;rw[FL];exact ih b (lp t p)
 exact⟨13+n,by lia,by rw[J8,a,e]⟩
theorem Hw{t:bc}{owner:Array (Option Nat)}{j:Nat}(ho:owner.getD j (some 0)=none):∀(k cK:Nat)(p:dO),k<cK->(cV t k p).i=j ->
  ∃j',oX t.mask owner cK p.i p.perturb=some j'/\owner.getD j' (some 0)=none
 | k,0,_,h,_=>absurd h (lP _)
 | k,cK+1,p,hk,e=>by
  unfold oX;cases hf:(fL (jm t.mask p.i+1-p.i)).find? λk=>(owner.getD (p.i+k) (some 0)).isNone with
  | some k' =>
   have h1:=MB hf;exact⟨p.i+k',rfl,Option.isNone_iff_eq_none.mp h1⟩
  | none =>
   cases k with
   | zero =>
    exfalso;have e':p.i=j:=e;have h1:=WB.mp hf 0 (ik.mpr (by unfold jm;split <;> lia))
    rw[BF,e',ho] at h1;exact h1 rfl
   | succ k =>
    exact Hw ho k cK (lp t p) (by lia) e
theorem N'{β : Type}{g g':Nat->Option β}:∀l:List Nat,(∀k∈l,g' k=g k)->l.filterMap g'=l.filterMap g
 | [],_=>rfl
 | y::l,h=>by
  have ih:=N' l λk hk=>h k (bp _ hk);have hy:=h y (bw ..);cases hg:g y with
  | none=>rw[yc (by rw[hy,hg]),yc hg,ih]
  | some z=>rw[sM (by rw[hy,hg]),sM hg,ih]
theorem Om{β : Type}{g g':Nat->Option β}{j:Nat}{x : β}(h0:g j=none)(h1:g' j=some x)(h2:∀k,k≠j->g' k=g k):∀l:List Nat,l.Nodup->j∈l->(l.filterMap g').Perm (x::l.filterMap g)
 | y::l,hn,hj=>by
  obtain⟨hy,hl⟩:=gY.mp hn;by_cases e:y=j
  .subst e;rw[sM h1,yc h0];have:l.filterMap g'=l.filterMap g:=N' l λk hk=>h2 k λz=>hy (z ▸ hk);rw[this]
  .have fE:j∈l:=(a8.mp hj).resolve_left (fB e);have ih:=Om h0 h1 h2 l hl fE;cases hg:g y with
   | none =>
    rw[yc (by rw[h2 y e,hg]),yc hg];exact ih
   | some z =>
    rw[sM (by rw[h2 y e,hg]),sM hg];exact(ih.cons z).trans (Mw ..)
def dW(m:Nat)(owner:Array (Option Nat)):List (Nat×Nat):=(fL (m+1)).filterMap λj=>(owner.getD j none).map (j,·)
structure Own(m:Nat)(owner:Array (Option Nat))(k:Nat):Prop where
 size:owner.size=m+1
 perm:((dW m owner).map (·.2)).Perm (fL k)
variable{owner:Array (Option Nat)}
theorem QY{k:Nat}(h:Own m owner k):(dW m owner).length=k:=by
 have:=h.perm.length_eq;rw[aF,yj] at this;exact this
theorem Qn{k:Nat}(h:Own m owner k)(hk:k<=m):∃j,j<=m/\owner.getD j (some 0)=none:=by
 apply Bn;intro hn;have cu:∀j∈fL (m+1),((owner.getD j none).map (Prod.mk j)).isSome=true:=λj hj=>by
  have fE:=ik.mp hj;cases ho:owner.getD j none with
  | some v=>rfl
  | none =>
   exfalso;refine hn ⟨j,by lia,?_⟩;have hs:j<owner.size:=by rw[h.size];exact fE
   simp only[gU,hs,dif_pos] at ho ⊢;exact ho
 have hl:(dW m owner).length=m+1:=by
  unfold dW;have:∀(l:List Nat)(g:Nat->Option (Nat×Nat)),(∀j∈l,(g j).isSome=true)->(l.filterMap g).length=l.length:=by
   intro l g
   induction l with
   | nil=>exact λ_=>rfl
   | cons y l ih =>
    intro hg;obtain⟨z,hz⟩:=BI.mp (hg y (bw ..));rw[sM hz,bB,bB,ih λj hj=>hg j (bp _ hj)]
  rw[this _ _ cu,yj]
 have:=QY h;lia
theorem QJ{k:Nat}(h:Own m owner k)(hj:owner.getD j (some 0)=none):Own m (owner.setIfInBounds j (some k)) (k+1):=by
 have hs:j<owner.size:=by
  apply Bn;intro hn;rw[gU,dif_neg hn] at hj;cases hj
 refine⟨by rw[Me];exact h.size,?_⟩;have hp:(dW m (owner.setIfInBounds j (some k))).Perm ((j,k)::dW m owner):=by
  refine Om ?_ ?_ (λy hy=>?_) _ WR (ik.mpr (by rw[<- h.size];exact hs))
  .have:owner.getD j none=none:=by
    simp only[gU,hs,dif_pos] at hj ⊢;exact hj
   rw[this];rfl
  .have:(owner.setIfInBounds j (some k)).getD j none=some k:=by
    simp[gU,hs]
   rw[this];rfl
  .have:(owner.setIfInBounds j (some k)).getD y none=owner.getD y none:=by
    simp only[gU,Me]
    split
    .rename_i AU
     exact VM (by simpa using AU) (fB hy)
    .rfl
   rw[this]
 refine(hp.map (·.2)).trans ?_;rw[b8];refine((h.perm.cons k)).trans ?_;rw[List.range_succ];exact MM (l₁ :=[k]) (l₂ := fL k)
theorem P8{m:Nat}(hg:Good m):∀(hs:List Int)(owner:Array (Option Nat))(k:Nat),Own m owner k->k+hs.length<=m ->
  ∃ny,hs.foldl (λ(acc:Option (Array (Option Nat)×Nat)) h=>do
   let (owner,k) <- acc
   let j <- oX m owner (iM m) (fM h % (m+1)) (fM h)
   pure (owner.setIfInBounds j (some k),k+1)) (some (owner,k))=some (ny,k+hs.length)/\Own m ny (k+hs.length)
 | [],owner,k,h,_=>⟨owner,rfl,h⟩
 | x::hs,owner,k,h,hl=>by
  rw[bB] at hl;obtain⟨j,hj,ho⟩:=Qn h (by lia);have t:bc:={ mask:=m,place :=#[],dummies :=#[],finger:=0,led:=true,moves:=0,plain:=true };have hb:fM x<2 ^ 64:=(tZ (XH 0 0 true) x).2.1;obtain⟨n,hn,e⟩:=Ph (t:={ mask:=m,place :=#[],dummies :=#[],finger:=0,led:=true,moves:=0,plain:=true }) (p:={ j:=0,more:=0,i:=fM x % (m+1),perturb:=fM x,dummy:=none }) hg hb hj;obtain⟨j',hf,b9⟩:=Hw ho n (iM m) _ (by unfold iM;have:n<=13+m:=hn;lia) e;have B_:oX m owner (iM m) (fM x % (m+1)) (fM x)=some j':=hf;obtain⟨ny,h1,h2⟩:=P8 hg hs _ (k+1) (QJ h b9) (by lia);refine⟨ny,?_,by rw[bB,show k+(hs.length+1)=k+1+hs.length by lia];exact h2⟩;rw[yh];simp only[W6,yp,B_,W_];rw[bB,show k+(hs.length+1)=k+1+hs.length by lia];exact h1
theorem Rc(hg:Good m)(fi mo:Nat)(led plain:Bool)(hs:Array Int)(hl:hs.size<=m):∃t order,Ga m fi mo led plain hs=some (t,order)/\t.mask=m/\t.dummies=#[]/\t.place.size=hs.size/\order.toList.Perm (fL hs.size)/\t.led=led/\t.plain=plain/\t.moves=mo/\t.place.toList.Pairwise (· < ·):=by
 have h0:Own m (sE (m+1) none) 0:=by
  refine⟨VP,?_⟩;have:dW m (sE (m+1) none)=[]:=by
   unfold dW;rw[WA];intro j hj;have:(sE (m+1) (none:Option Nat)).getD j none=none:=by
    simp[gU]
   rw[this];rfl
  rw[this];exact oO _
 obtain⟨owner,h1,h2⟩:=P8 hg hs.toList _ 0 h0 (by rw[aW];lia);rw[sQ,aW] at h1 h2;have hc:Gb m hs=some owner:=by
  unfold Gb;rw[<- VJ];have:=congrArg (W9 (·.1)) h1;exact this
 refine⟨{ mask:=m,place:=((dW m owner).map (·.1)).toArray,dummies :=#[],finger:=fi,led:=led,moves:=mo,plain:=plain },((dW m owner).map (·.2)).toArray,?_,rfl,rfl,?_,?_,rfl,rfl,rfl,?_⟩
 .unfold Ga;rw[hc];rfl
 .show((dW m owner).map (·.1)).toArray.size=_;rw[cO,aF,QY h2]
 .show((dW m owner).map (·.2)).toArray.toList.Perm _;exact h2.perm
 .show((dW m owner).map (·.1)).toArray.toList.Pairwise (· < ·);have gQ:((dW m owner).map (·.1)).Sublist (fL (m+1)):=by
   unfold dW;generalize fL (m+1)=l
   induction l with
   | nil=>exact ZCj
   | cons y l ih =>
    cases hy:owner.getD y none with
    | none =>
     rw[yc (by rw[hy];rfl)];exact ih.cons _
    | some v =>
     rw[sM (b:=(y,v)) (by rw[hy];rfl)];exact ih.cons_cons y
  exact Mt gQ List.pairwise_lt_range
def js(xs:Array Nat):Prop:=xs.toList.Pairwise (· < ·)
variable{xs:Array Nat}
theorem wz(h:js xs){i j:Nat}(i8:i<j)(hj:j<xs.size):xs[i]'(jj i8 hj)<xs[j]:=by
 have:=mY.mp h i j (by rw[aW];lia) (by rw[aW];exact hj) i8
 simpa using this
theorem HD{xs:Array Nat}(h:js xs)(j:Nat):∀(cK lo hi:Nat),lo<=hi->hi<=xs.size->hi-lo<=cK->(∀i (dh:i<xs.size),i<lo->xs[i]<j)->(∀i (dh:i<xs.size),hi<=i -> ¬ xs[i]<j) ->
  ∀r,XG xs j cK lo hi=r->r<=xs.size/\(∀i (dh:i<xs.size),i<r->xs[i]<j)/\(∀i (dh:i<xs.size),r<=i -> ¬ xs[i]<j)
 | 0,lo,hi,h1,h2,h3,a,b,r,e=>by
  have e':lo=r:=e;subst e';have:lo=hi:=by lia
  subst this;exact⟨h2,a,b⟩
 | cK+1,lo,hi,h1,h2,h3,a,b,r,e=>by
  unfold XG at e;by_cases hl:lo<hi
  .rw[ao hl] at e;dsimp only at e;have hm:(lo+hi) / 2<xs.size:=by lia
   have hgd:xs.getD ((lo+hi) / 2) j=xs[(lo+hi) / 2]:=by simp[gU,hm]
   rw[hgd] at e;by_cases hx:xs[(lo+hi) / 2]<j
   .rw[ao hx] at e;refine HD h j cK ((lo+hi) / 2+1) hi (by lia) h2 (by lia) (λi dh aA=>?_) b r e;by_cases e2:i=(lo+hi) / 2
    .subst e2;exact hx
    .exact jj (wz h (show i<(lo+hi) / 2 by lia) hm) hx
   .rw[ai hx] at e;refine HD h j cK lo ((lo+hi) / 2) (by lia) (by lia) (by lia) a (λi dh hle=>?_) r e;by_cases e2:i=(lo+hi) / 2
    .subst e2;exact hx
    .have:=wz h (show(lo+hi) / 2<i by lia) dh;lia
  .rw[ai hl] at e;subst e;have:lo=hi:=by lia
   subst this;exact⟨h2,a,b⟩
theorem y0(h:js xs)(j:Nat):bx xs j<=xs.size/\(∀i (dh:i<xs.size),i<bx xs j->xs[i]<j)/\(∀i (dh:i<xs.size),bx xs j<=i -> ¬ xs[i]<j) :=
 HD h j xs.size 0 xs.size (bG _) (aD _) (by lia) (λ_ _ z=>absurd z (lP _)) (λi dh z=>by lia) _ rfl
theorem Ow{α : Type}(xs:Array α)(p:Nat)(x : α):(eO xs p x).toList=xs.toList.take p++x::xs.toList.drop p:=by
 unfold eO;simp[Array.toList_extract,List.extract];rw[List.take_of_length_le];simp
theorem O2(h:js xs){j:Nat}(hj:j∉xs.toList):js (eO xs (bx xs j) j):=by
 obtain⟨h1,h2,h3⟩:=y0 h j;unfold js;rw[Ow,List.pairwise_append];refine⟨Mt (WT _ _) h,?_,?_⟩
 .rw[vD];refine⟨λy hy=>?_,Mt (List.drop_sublist _ _) h⟩;obtain⟨i,hi,e⟩:=FE.mp hy;rw[FD,aW] at hi;rw[WH] at e;have:=h3 (bx xs j+i) (by lia) (by lia);have e2:y=xs[bx xs j+i]'(by lia):=by rw[<- e];simp
  have aY:y≠j:=λz=>hj (z ▸ List.mem_of_mem_drop hy);lia
 .intro a ha b hb;obtain⟨i,hi,e⟩:=FE.mp ha;rw[gX,aW] at hi;rw[List.getElem_take] at e;have h4:=h2 i (by lia) (by lia);have e2:a=xs[i]'(by lia):=by rw[<- e];simp
  rcases a8.mp hb with rfl|hb
  .lia
  .obtain⟨k,hk,ek⟩:=FE.mp hb;rw[FD,aW] at hk;rw[WH] at ek;have h5:=h3 (bx xs j+k) (by lia) (by lia);have e3:b=xs[bx xs j+k]'(by lia):=by rw[<- ek];simp
   lia
theorem Ziu(h:js xs){i:Nat}(hi:i<xs.size):bx xs (xs[i]+1)=i+1:=by
 obtain⟨h1,h2,h3⟩:=y0 h (xs[i]+1);rcases yn (bx xs (xs[i]+1)) (i+1) with z|z|z
 .exact absurd (kG xs[i]) (h3 i hi (by lia))
 .exact z
 .exfalso;have h4:=h2 (i+1) (by lia) (by lia);have h5:=wz h (show i<i+1 by lia) (show i+1<xs.size by lia);lia
theorem ZhU(h:js xs):bx xs 0=0:=by
 obtain⟨h1,h2,h3⟩:=y0 h 0;rcases Nat.eq_zero_or_pos (bx xs 0) with z|z
 .exact z
 .exact absurd (h2 0 (by lia) z) (lP _)
theorem CY(h:js t.place){j:Nat}(he:t.slot j=.empty):j∉t.place.toList:=λhm=>by
 obtain⟨i,hi,e⟩:=FE.mp hm;rw[aW] at hi;have e2:t.place[i]=j:=by rw[<- e];simp
 obtain⟨h1,h2,h3⟩:=y0 h j;have hb:bx t.place j=i:=by
  rcases yn (bx t.place j) i with z|z|z
  .have h4:=wz h z hi;have h5:=h3 (bx t.place j) (by lia) (aD _);lia
  .exact z
  .have h4:=h2 i hi z;lia
 unfold yu at he;dsimp only at he;rw[hb,Array.getElem?_eq_getElem hi,e2] at he;simp at he
section
variable{prog:aq}{w:ap}{K:Type}[DecidableEq K]{knd:KeyKind prog w K}{A:aC}{E:aa->ag->Prop}{s:ag}
variable{n:Nat}
theorem ZkM{v:aa}(h:carriedByValue v=true):ofAClassStatement n v=pure false:=by
 cases v <;> first|(unfold ofAClassStatement;rfl)|(cases h)
variable{a:Addr}{Q:Bool->ag->Prop}
theorem Pl{ks:List K}(hk:fb knd s.heap ks a)(h:Q false s):wpAny (model prog w) A (ofAClassStatement 8 (.ref a)) Q E s:=by
 have hT:=hk.typeIs;obtain⟨o,items,n,ho,hc,hd,hi⟩:=hk;unfold ofAClassStatement;refine af (tw hT ?_);dsimp only;rw[if_pos (by decide)];refine af (ah ?_);rw[ai (by decide)];refine af (qL ho hd ?_);dsimp only;rw[<- Array.forIn_toList];refine af (yB _ (λrest r s'=>r.1=none/\s'=s/\∀v∈rest,carriedByValue v=true) _ ?_ ?_ _ _ ⟨rfl,rfl,hi.byValue⟩)
 .rintro v rest r s' ⟨hr,rfl,cu⟩;rw[ZkM (cu v bw)];refine af (ah ?_);rw[ai (by decide)];exact ah ⟨rfl,rfl,λu yJ=>cu u (bp _ yJ)⟩
 .rintro⟨r1,r2⟩ s' ⟨hr,rfl,_⟩;obtain rfl:r1=none:=hr;exact ah h
theorem Zlp{v:aa}(h:carriedByValue v=true):∃b,hashByValue n v=pure b:=by
 cases v <;> first|exact⟨_,by unfold hashByValue;rfl⟩|(cases h)
theorem Zkf{ks:List K}(hk:fb knd s.heap ks a)(h:∀b,Q b s):wpAny (model prog w) A (hashByValue 8 (.ref a)) Q E s:=by
 have hT:=hk.typeIs;obtain⟨o,items,n,ho,hc,hd,hi⟩:=hk;unfold hashByValue;refine af (qM hT Bp.lookup ?_);dsimp only;refine wpAny_bind (wpAny_seqItems ho hd ?_);dsimp only[Option.getD_some];rw[<- Fc];refine af (yB _ (λrest r s'=>r.1=none/\s'=s/\∀v∈rest,carriedByValue v=true) _ ?_ ?_ _ _ ⟨rfl,rfl,hi.byValue⟩)
 .rintro v rest r s' ⟨hr,rfl,cu⟩;obtain⟨b,hb⟩:=Zlp (n:=7) (cu v bw);rw[hb];refine af (ah ?_);cases b with
  | true =>
   rw[ai (by decide)];exact ah ⟨rfl,rfl,λu yJ=>cu u (bp _ yJ)⟩
  | false =>
   rw[ao (by decide)];exact ah (ah (h _))
 .rintro⟨r1,r2⟩ s' ⟨hr,rfl,_⟩;obtain rfl:r1=none:=hr;exact ah (h _)
theorem Zoh{ks:List K}(hk:fb knd s.heap ks a):∀(stored:List aa){Q:Bool->ag->Prop},(∀v∈stored,∃ks b,v=.ref b/\fb knd s.heap ks b)->Q false s->wpAny (model prog w) A (searchCouldBeSeen (.ref a) stored) Q E s:=by
 intro stored Q hs h;unfold searchCouldBeSeen;refine af (yB _ (λrest r s'=>r.1=none/\s'=s/\∀v∈rest,∃ks b,v=ar b/\fb knd s.heap ks b) _ ?_ ?_ _ _ ⟨rfl,rfl,hs⟩)
 .rintro v rest r s' ⟨hr,rfl,cu⟩;obtain⟨nv,b,rfl,hb⟩:=cu v bw;have uW:∀v∈rest,∃ks b,v=ar b/\fb knd s'.heap ks b:=λv hv=>cu v (bp _ hv);dsimp only
  split
  .exact ah ⟨rfl,rfl,uW⟩
  .refine af (Ys hk ?_);rw[ai (by decide)];refine af (Ys hb ?_);rw[ai (by decide)];refine af (Pl hk ?_);rw[ai (by decide)];refine af (Pl hb ?_);rw[ai (by decide)];exact ah ⟨rfl,rfl,uW⟩
 .rintro⟨r1,r2⟩ s' ⟨hr,rfl,_⟩;obtain rfl:r1=none:=hr;exact ah h
def EK(knd:KeyKind prog w K):Bool->Heap->Int×aa->Prop
 | true,_,e=>∃i t,e.2=eC i t/\e.1=(intKind prog w).hash i
 | false,h,e=>∃ks b,e.2=.ref b/\fb knd h ks b
def zM(knd:KeyKind prog w K)(b:Bool)(h:Heap)(es:Array (Int×aa)):Prop := ∀e∈es.toList,EK knd b h e
structure Tab(es:Array (Int×aa))(t:bc):Prop where
 size:t.place.size=es.size
 none:t.dummies=#[]
 good:Good t.mask
 room:t.fill*5<t.mask*3
 mQ:js t.place
theorem Tab.fill_eq{es:Array (Int×aa)}{t:bc}(h:Tab es t):t.fill=es.size:=by
 unfold yt;rw[h.size,h.none];rfl
theorem Tab.fits{es:Array (Int×aa)}{t:bc}(h:Tab es t):t.fits es.size=true:=by
 have:=h.room;unfold BO;rw[h.size];simp;lia
theorem ZkO{m:Nat}(h:Good m):m % 2=1:=by
 rcases h with h|h|h|h|h|h|h|h|h|h <;> subst h <;> rfl
theorem OA(t:bc):∀(n:Nat)(p:dO),p.dummy=none->(bI t n p).dummy=none
 | 0,_,h=>h
 | n+1,p,h=>OA t n (t.advance p) (by
  unfold sZ
  split
  .exact h
  .exact h)
theorem Q5{t:bc}{j i:Nat}(h:t.slot j=.live i):i<t.place.size:=by
 unfold yu at h;dsimp only at h
 split at h
 .rename_i h2
  cases h;have h3:=eq_of_beq h2;exact(oI.mp h3).1
 .split at h <;> cases h
end
def Rg(n:Nat):Bool:=(gZ n-1 == 7 || gZ n-1 == 15 || gZ n-1 == 31 || gZ n-1 == 63 || gZ n-1 == 127 || gZ n-1 == 255 || gZ n-1 == 511 || gZ n-1 == 1023 || gZ n-1 == 2047 || gZ n-1 == 4095)&&decide (n<gZ n)&&decide (gZ n<=4096)
theorem Zkq:(fL 4096).all Rg=true:=by decide +kernel
theorem above{n:Nat}(h:n<4096):Good (gZ n-1)/\n<gZ n/\gZ n<=4096:=by
 have:=Bv.mp Zkq n (ik.mpr h);unfold Rg at this;simp only[gA,Ff,oY,kJ] at this;obtain⟨⟨h1,h2⟩,h3⟩:=this;refine⟨?_,h2,h3⟩;unfold Good
 simpa only[or_assoc] using h1
section
variable{prog:aq}{w:ap}{K:Type}[DecidableEq K]{knd:KeyKind prog w K}{A:aC}{E:aa->ag->Prop}{s:ag}
variable{h:Heap}{S:Addr}{o:Obj}{es:Array (Int×aa)}{ep:Nat}{t:bc}
theorem stored(ho:h.get? S=some o)(hd:o.data=.set es ep t)(bJ:Array (Int×aa))(t':bc) :
  (h.update S (vH bJ t')).get? S=some { o with data:=.set bJ (ep+1) t' }:=by
 have:=sJ (vH bJ t') ho (by rw[putSet_of bJ t' hd];rfl);rw[putSet_of bJ t' hd] at this;exact this
theorem Zmq{h':Heap}{a:Addr}{ks:List K}(ho:h.get? S=some o)(hd:o.data=.set es ep t)(sb:dJ S h h')(hk:fb knd h ks a):fb knd h' ks a:=by
 obtain⟨o2,items,n,h1,h2,h3,h4⟩:=hk;have aY:a≠S:=λz=>by
  rw[z,ho] at h1;cases h1;rw[hd] at h3;cases h3
 exact⟨o2,items,n,(sb.2 a aY).trans h1,h2,h3,h4⟩
theorem ON(hT:Tab es t)(h:Int):∃n,n<10*iM t.mask/\t.slot (bI t n (t.probeStart h)).j=.empty:=by
 obtain⟨a,b,c⟩:=tZ t h;have hr:=hT.room;obtain⟨j,hj,he⟩:=Zio hT.none (by lia);obtain⟨n,hn,e⟩:=meets hT.good a b hj;exact⟨n,hn,by rw[e];exact he⟩
theorem ZgA{m:Nat}(h:Good m):10*iM m<100000:=by
 unfold iM;rcases h with h|h|h|h|h|h|h|h|h|h <;> subst h <;> decide
theorem QE{t:bc}(hd:t.dummies=#[])(ha:Nat->Int)(h:Int)(aY:∀i,(ha i == h)=false):∀(n cK:Nat)(p:dO),p.dummy=none->n<cK->t.slot (bI t n p).j=.empty ->
  ∃j,BP t ha h cK p=some (.empty j none)/\t.slot j=.empty
 | n,0,_,_,hn,_=>absurd hn (lP _)
 | n,cK+1,p,hp,hn,he=>by
  unfold BP;cases hs:t.slot p.j with
  | empty=>exact⟨p.j,by rw[hp],hs⟩
  | dummy =>
   exfalso;unfold yu at hs;dsimp only at hs
   split at hs
   .cases hs
   .rw[hd] at hs;exact XF hs
  | live i =>
   dsimp only;cases n with
   | zero =>
    rw[show(bI t 0 p).j=p.j from rfl,hs] at he;cases he
   | succ n =>
    rw[ai (by rw[aY i];decide)];have uJ:(t.advance p).dummy=none:=by
     unfold sZ
     split
     .exact hp
     .exact hp
    exact QE hd ha h aY n cK (t.advance p) uJ (by lia) he
theorem Zi7(hT:Tab es t)(h:Int):∃j,t.freeSlot h=some (j,false)/\t.slot j=.empty:=by
 obtain⟨n,hn,he⟩:=ON hT h;obtain⟨j,e,hj⟩:=QE hT.none (λ_=>h+1) h (λ_=>by simp;lia) n (10*iM t.mask) (t.probeStart h) (tZ t h).2.2 hn he;refine⟨j,?_,hj⟩;unfold bc.freeSlot Ng;rw[e];rfl
theorem Zmz(hT:Tab es t)(h:Int)(x:aa):∃j,t.slot j=.empty/\layNew t es h x=(eO es (bx t.place j) (h,x),{ t with place:=eO t.place (bx t.place j) j },false,false):=by
 obtain⟨j,e,hj⟩:=Zi7 hT h;refine⟨j,hj,?_⟩;have fV:bc.has t.dummies j=false:=by rw[hT.none];rfl
 have KH:t.put j=({ t with place:=eO t.place (bx t.place j) j },bx t.place j):=by
  unfold XI;rw[fV];rfl
 have ke:(eO es (bx t.place j) (h,x)).size=es.size+1:=by
  rw[<- aW,(vL es (bx t.place j) (h,x)).length_eq,aW,xZ]
 have i_:(eO t.place (bx t.place j) j).size=es.size+1:=by
  rw[<- aW,(vL t.place (bx t.place j) j).length_eq,aW,xZ,hT.size]
 have hr:=hT.room;have Tu:=hT.fill_eq;have Aq:({ t with place:=eO t.place (bx t.place j) j }:bc).fits (eO es (bx t.place j) (h,x)).size=true:=by
  unfold BO yt;rw[ke];dsimp only;rw[i_,hT.none];simp;lia
 unfold layNew;rw[e];dsimp only;rw[KH];dsimp only;unfold SetTable.orStandIn;rw[Aq];rfl
theorem Zjy(h1:1<=es.size)(hn:es.size<=1000):∃bJ t' g,relayAll t es (oW es.size)=(bJ,t',g)/\bJ.toList.Perm es.toList/\Tab bJ t'/\t'.led=t.led:=by
 have Kh:oW es.size=es.size*4:=by unfold oW;rw[ai (by lia)]
 rw[Kh];obtain⟨g1,g2,g3⟩:=above (n:=es.size*4) (by lia);obtain⟨t',order,e,m1,m2,m3,m4,m5,m6,m7,m8⟩:=Rc g1 t.finger (t.movedTo (gZ (es.size*4)-1)) t.led t.plain (es.map (·.1)) (by rw[vq];lia);rw[vq] at m3 m4;have e2:t.relaid (es.map (·.1)) (es.size*4)=some (t',order):=e;have eM:(order.filterMap (es[·]?)).toList.Perm es.toList:=by
  rw[Mf];exact(m4.filterMap _).trans (Bu (X_ es))
 have hsz:(order.filterMap (es[·]?)).size=es.size:=by
  rw[<- aW,eM.length_eq,aW]
 have Ef:t'.fill=es.size:=by
  unfold yt;rw[m2,m3];rfl
 have Aq:t'.fits (order.filterMap (es[·]?)).size=true:=by
  unfold BO;rw[hsz,m3,Ef,m1];simp;lia
 have Zyt:coversAll order es.size=true:=by
  unfold coversAll;exact List.isPerm_iff.mpr m4
 refine⟨order.filterMap (es[·]?),t',false,?_,eM,⟨by rw[m3,hsz],m2,by rw[m1];exact g1,?_,m8⟩,m5⟩
 .unfold relayAll;rw[e2];dsimp only;rw[Zyt,Aq];rfl
 .rw[Ef,m1];lia
theorem O7(hE:zM knd true h es):ElemsOf (intKind prog w) es.toList:=λe he=>by
 obtain⟨i,t,e1,e2⟩:=hE e he;refine⟨⟨i,?_,e2⟩,?_⟩
 .rw[e1];exact BS _ _ _ _
 .rw[e1];rfl
end
end l5
namespace l5
open PySem PyProof.Rows
section
variable{prog:aq}{w:ap}{K:Type}[DecidableEq K]{knd:KeyKind prog w K}{A:aC}{E:aa->ag->Prop}{s:ag}
abbrev wL(w:ap):Bool := !w.params.followText "set-order"
abbrev jw(w:ap):Obj:={ cls:=.type "set",dict:=none,data:=.set #[] 0 (.fresh 0 0 (wL w)) }
theorem Zlz(a:aa){Q₁ : aa->ag->Prop}(h:Q₁ (.ref s.heap.objs.size) { s with heap:=s.heap.push (jw w) }) :
  codeAny (model prog w) A (.call (.builtin "set.__new__") ⟨[.type "set",a],[]⟩) (wants Q₁ E) s:=by
 refine Nn ?_;change wpAny _ A.in1 (do checkBuiltinCall "set.__new__" ⟨[.type "set",a],[]⟩;again (.builtin "set.__new__" ⟨[.type "set",a],[]⟩)) _ _ s;refine af (tf (PySem.F.newCall_set_1 a) (ah ⟨jq Xj _,g9 PySem.F.entry_set_new ?_⟩));rw[kB Xj _];unfold cF.«set.__new__» ZB3;have ZEk:=sub_set_self;obtain⟨hp,g,d,tk,os⟩:=s;dsimp only
 wp_walk
 refine NC (ah ?_);dsimp only;simp only[newObj];exact af (wpAny_alloc (ah (ah h)))
end
theorem tY:Slot "set_iterator" "__next__" "set_iterator.__next__" :=
 .of (owner := "set_iterator") (n := "__next__") (by rw[Gm,Gf];kernel_rfl) (by decide +kernel) (by decide +kernel) (by decide +kernel) (by first|exact .inl (by decide +kernel)|exact .inr (by decide +kernel)) (by rw[BU];kernel_rfl)
theorem Oy:entryFor table "set_iterator.__next__" = some cF.«set_iterator.__next__» := X6 (by kernel_rfl)
theorem Qf:Manifest.owners.lookup (String.ofList ['r','o','t','a','r','e','t','i','_','t','e','s'].reverse)=some Manifest.sig_set_iterator:=by kernel_rfl
theorem Ol(a:aa):argsOk "set_iterator.__next__" ⟨[a],[]⟩:=by
 unfold argsOk;rw[Yj (id := "set_iterator.__next__") (n:=['_','_','t','x','e','n','_','_']) (o:=['r','o','t','a','r','e','t','i','_','t','e','s']) (by kernel_rfl) Qf];kernel_rfl
theorem Ou:Slot "set_iterator" "__iter__" "set_iterator.__iter__" :=
 .of (owner := "set_iterator") (n := "__iter__") (by rw[Gm,Gf];kernel_rfl) (by decide +kernel) (by decide +kernel) (by decide +kernel) (by first|exact .inl (by decide +kernel)|exact .inr (by decide +kernel)) (by rw[BU];kernel_rfl)
theorem ZeJ:entryFor table "set_iterator.__iter__" = some cF.«dict_keyiterator.__iter__» := X5 (id' := "dict_keyiterator.__iter__") (by kernel_rfl) rfl (by decide +kernel) (by kernel_rfl)
theorem Zf5(a:aa):argsOk "set_iterator.__iter__" ⟨[a],[]⟩:=by
 unfold argsOk;rw[Yj (id := "set_iterator.__iter__") (n:=['_','_','r','e','t','i','_','_']) (o:=['r','o','t','a','r','e','t','i','_','t','e','s']) (by kernel_rfl) Qf];kernel_rfl
theorem ZfD:entryFor table "set.__iter__" = some cF.«frozenset.__iter__» := X5 (id' := "frozenset.__iter__") (by kernel_rfl) rfl (by decide +kernel) (by kernel_rfl)
theorem Hi{α : Type}:∀{l:List α}{i:Nat}(hi:i<l.length),(l[i]::l.eraseIdx i).Perm l
 | x::l,0,_=>oO _
 | x::l,i+1,hi=>by
  have dh:i<l.length:=by simpa using hi
  show(l[i]::x::l.eraseIdx i).Perm (x::l);exact(Mw ..).trans ((Hi dh).cons x)
variable{prog:aq}{w:ap}{A:aC}{E:aa->ag->Prop}{s:ag}
theorem wp_choose{src:Source}{n:Nat}{Q:Nat->ag->Prop}(hn:n≠0)(h:∀i d,i<n->Q i { s with drawn:=d }):wpAny (model prog w) A (choose src n) Q E s:=λ_ _ _=>⟨hn,h _ _ (yo _ (Nat.pos_of_ne_zero hn))⟩
theorem QV{α : Type}:∀(n:Nat)(xs:List α)(s:ag){Q:List α -> ag->Prop},xs.length=n->(∀ys d,ys.Perm xs->Q ys { s with drawn:=d })->wpAny (model prog w) A (drawOrder n xs) Q E s
 | 0,xs,s,Q,hl,h=>by
  obtain rfl:=vy hl;unfold drawOrder;exact ah (h [] s.drawn (oO _))
 | n+1,[],s,Q,hl,h=>by simp at hl
 | n+1,x::xs,s,Q,hl,h=>by
  unfold drawOrder;refine af (wp_choose (by simp) λi d hi=>?_);rw[cG hi];dsimp only;refine wpAny_bind (QV n ((x::xs).eraseIdx i) { s with drawn:=d } (by rw[List.length_eraseIdx_of_lt hi,hl];rfl) λys d' hp=>ah (h _ d' ?_));refine(hp.cons _).trans ?_;exact(Hi hi)
theorem Pc{α : Type}(next:Nat->Nat):∀(n k:Nat)(left:List α)(out:Array α),left.length=n->(pickOrder.go next n k left out).toList.Perm (out.toList++left)
 | 0,k,left,out,hl=>by
  obtain rfl:=vy hl;unfold pickOrder.go;rw[gW]
 | n+1,k,left,out,hl=>by
  unfold pickOrder.go;have hi:next k % left.length<left.length:=yo _ (by lia)
  rw[cG hi];dsimp only;refine(Pc next n (k+1) _ _ (by rw[List.length_eraseIdx_of_lt hi,hl];rfl)).trans ?_
  rw[Bl,oP];exact Mv _ (Hi hi)
structure pF(w:ap)(h:Heap)(I S T:Addr)(es:Array (Int×aa))(ep:Nat)(t:bc)(ys:List aa)(i:Nat):Prop where
  set:∃o,h.get? S=some o/\o.data=.set es ep t
  tab:t.fits es.size=true
  at_:∃first o,h.get? I=some o/\o.cls=.type "set_iterator" /\ o.data=.fields #[first,.int i 0,.ref S,.int es.size 0,.int ep 0] /\
    ((∃sl:Nat,first=eC sl 0/\w.params.followText "set-order" = true/\ys=(pickOrder (w.params.setOrder S ep) es).toList.map (·.2)) \/
     (∃sl:Nat,first=eC sl 0/\w.params.followText "set-order" = false/\(!t.plain&&decide (es.size > 1))=false/\t.led=true/\bx t.place sl=i/\js t.place/\ys=es.toList.map (·.2)) \/
     (∃places n oT,first=ar T/\h.get? T=some oT/\oT.data=.seq places n/\places.toList.length=es.size/\∀(k:Nat)(v:aa),places[k]?= some v->∃(j:Nat)(tk:Tok),v=eC (j:Nat) tk/\(es[j]?).map (·.2)=ys[k]? /\ j<es.size))
variable{I S T:Addr}{es:Array (Int×aa)}{ep i:Nat}{t:bc}{ys:List aa}
theorem pF.ty{h:Heap}(x:pF w s.heap I S T es ep t ys i):s.TypeIs (.ref I) "set_iterator" := let ⟨_,o,ho,hc,_⟩:=x.at_;⟨o,ho,hc⟩
variable{o:Obj}
theorem Iy{Q:Array (Int×aa)->ag->Prop}(ho:s.heap.get? S=some o)(hd:o.data=.set es ep t)(hf:t.fits es.size=true)(h:Q es s):wpAny (model prog w) A (setEntries S) Q E s:=by
 unfold setEntries;exact af (kM ho hd hf (ah h))
theorem DE{Q:Bool->ag->Prop}(h:Q (w.params.followText "set-order") s):wpAny (model prog w) A setsByText Q E s:=by
 unfold setsByText;exact af (NC (ah h))
theorem fld{fs:Array aa}{k:Nat}{v:aa}{Q:Unit->ag->Prop}(ho:s.heap.get? I=some o)(hd:o.data=.fields fs)(hk:k<fs.size)(hc:o.cls=.type "set_iterator")
  (h:∀h' o',h'.get? I=some o'->o'.cls=.type "set_iterator" -> o'.data=.fields (fs.setIfInBounds k v)->dJ I s.heap h'->Q () { s with heap:=h' }):wpAny (model prog w) A (setField (.ref I) k v) Q E s :=
 ti ho hd hk (h _ _ (sJ _ ho (MT (sR hd _))) ((MS ..).trans hc) (sR hd _) (oK ..))
variable{Q:Option (aa×Nat)->ag->Prop}{sl:Nat}
theorem PD(hT:w.params.followText "set-order" = true) (ho:s.heap.get? S=some o) (hd:o.data=.set es ep t) (hf:t.fits es.size=true)
  (h:Q (((pickOrder (w.params.setOrder S ep) es)[i]?).map λe=>(e.2,sl)) s):wpAny (model prog w) A (setNext S sl i ep) Q E s:=by
 unfold setNext;refine af (kM ho hd hf ?_);dsimp only;refine wpAny_bind (DE ?_);rw[hT,if_pos rfl,if_neg (by simp)];unfold setWalk;refine af (af (kM ho hd hf ?_));dsimp only;refine wpAny_bind (DE ?_);rw[hT,if_pos rfl];exact af (NC (ah (ah h)))
theorem Py(hT:w.params.followText "set-order" = false) (hp:(!t.plain&&decide (es.size > 1))=false) (hl:t.led=true) (ho:s.heap.get? S=some o) (hd:o.data=.set es ep t) (hf:t.fits es.size=true)
  (h:Q (match es[bx t.place sl]?,t.place[bx t.place sl]? with|some (_,x),some j=>some (x,j+1)|_,_=>none) s):wpAny (model prog w) A (setNext S sl i ep) Q E s:=by
 unfold setNext;refine af (kM ho hd hf ?_);dsimp only;refine wpAny_bind (DE ?_);rw[hT,if_neg (by decide)];change wpAny _ _ (if(!t.plain&&decide (es.size > 1))=true then _ else _) _ _ _
 rw[hp,ai (by decide)];refine af ?_;change wpAny _ _ (if(!t.led && !es.isEmpty)=true then _ else _) _ _ _
 rw[hl,ai (by simp)];exact ah (ah h)
variable{Q:Option aa->ag->Prop}
theorem ZmQ(x:pF w s.heap I S T es ep t ys i)(hy:ys.length=es.size)(hi:i<ys.length)
  (q:∀h',pF w h' I S T es ep t ys (i+1)->dJ I s.heap h'->Q (some ys[i]) { s with heap:=h' }):wpAny (model prog w) A (pyNext (.ref I)) Q E s:=by
 have hT:=x.ty (h:=s.heap);obtain⟨⟨oS,gO,j8⟩,hf,first,o,ho,hc,hd,Ay⟩:=id x
 have S9:S≠I:=λz=>by
  rw[z,ho] at gO;cases gO;rw[hd] at j8;cases j8
 unfold pyNext;refine af (s_ (BY (name:=cm "__next__") hT tY (nq tY hT Oy ?_ (Ol _))));unfold cF.«set_iterator.__next__»;refine af (ah (af (yA ho hd ?_)));dsimp only;refine wpAny_bind (Iy gO j8 hf ?_);rw[if_neg (by simp)];have key:∀nx:Nat,(∀h',(∃o',h'.get? I=some o'/\o'.cls=.type "set_iterator" /\ o'.data=.fields #[eC nx 0,.int (i+1:Nat) 0,.ref S,.int es.size 0,.int ep 0])->dJ I s.heap h'->pF w h' I S T es ep t ys (i+1)) ->
   wpAny (model prog w) A.in1 (do
     setField (ar I) 0 (rawInt nx)
     setField (ar I) 1 (rawInt ((i:Int)+1))
     ret ys[i]) (λfin s'=>∃v,fin=Wi (Wj v)/\wpAny (model prog w) A (pure (some v)) Q E s')
    (λe s'=>wpAny (model prog w) A (do
     let __do_lift <- isInstance e (eQ "StopIteration")
     if __do_lift=true then pure none else throw e) Q E s') s:=λnx hS=>by
  refine af (fld ho hd (by simp) hc λh1 o1 eJ j6 mE iG=>af (fld (s:={ s with heap:=h1 }) eJ mE (by simp) j6 λh2 o2 cB gM hd2 su=>ah ⟨_,rfl,ah (q h2 (hS h2 ⟨o2,cB,gM,?_⟩ (iG.trans su)) (iG.trans su))⟩));rw[hd2];rfl
 have J2:∀h',dJ I s.heap h'->∃o,h'.get? S=some o/\o.data=.set es ep t:=λh' sb=>⟨oS,(sb.2 S S9).trans gO,j8⟩;have ZEb:t.place.size=es.size:=by
  unfold BO at hf;rw[gA] at hf;exact eq_of_beq hf.1
 rcases Ay with⟨sl,rfl,ic,e⟩|⟨sl,rfl,ic,aM,Ek,dm,hr,e⟩|⟨places,n,oT,rfl,rT,el,Er,KI⟩
 .dsimp only;rw[Int.toNat_natCast,Int.toNat_natCast,Int.toNat_natCast];refine af (PD ic gO j8 hf ?_);have rW:((pickOrder (w.params.setOrder S ep) es)[i]?).map (λe=>(e.2,sl))=some (ys[i],sl):=by
   have h1:((pickOrder (w.params.setOrder S ep) es).toList.map (·.2))[i]?= some ys[i]:=by rw[<- e];exact cG hi
   rw[bM,fz] at h1;obtain⟨x,hx,kh⟩:=gB.mp h1;rw[hx];show some (x.2,sl)=_;rw[kh]
  rw[rW];dsimp only;exact key sl λh' ⟨o',a1,a2,a3⟩ sb=>⟨J2 h' sb,hf,_,o',a1,a2,a3,.inl ⟨sl,rfl,ic,e⟩⟩
 .dsimp only;rw[Int.toNat_natCast,Int.toNat_natCast,Int.toNat_natCast];refine af (Py ic aM Ek gO j8 hf ?_);have rQ:i<es.size:=by lia
  rw[dm,iI rQ,iI (show i<t.place.size by lia)];have K':ys[i]=es[i].2:=by
   have h1:ys[i]?= some es[i].2:=by rw[e,bM,fz,iI rQ];rfl
   rw[cG hi] at h1;exact dg h1
  dsimp only;rw[<- K'];exact key (t.place[i]+1) λh' ⟨o',a1,a2,a3⟩ sb=>⟨J2 h' sb,hf,_,o',a1,a2,a3,.inr (.inl ⟨_,rfl,ic,aM,Ek,Ziu hr _,hr,e⟩)⟩
 .dsimp only;refine wpAny_bind (wpAny_seqItems rT el ?_);dsimp only;rw[Int.toNat_natCast,Int.toNat_natCast];have rW:i<places.size:=by rw[<- aW];lia
  obtain⟨j,tk,hv,hj,uM⟩:=KI i _ (iI rW);rw[iI rW,hv];dsimp only;rw[Int.toNat_natCast];rw[cG hi,iI uM] at hj;have K':es[j].2=ys[i]:=dg hj;unfold setNextDrawn;refine af (af (kM gO j8 hf ?_));dsimp only;rw[if_neg (by simp),Array.getElem?_eq_getElem uM];refine ah ?_;rw[show(es.toList.get ⟨j,uM⟩).snd=ys[i] from K'];have Tf:T≠I:=λz=>by
   rw[z,ho] at rT;cases rT;rw[hd] at el;cases el
  refine af (fld ho hd (by simp) hc λh2 o2 cB gM hd2 su=>ah ⟨_,rfl,ah (q h2 ⟨J2 h2 su,hf,_,o2,cB,gM,?_,.inr (.inr ⟨places,n,oT,rfl,(su.2 T Tf).trans rT,el,Er,KI⟩)⟩ su)⟩);rw[hd2];rfl
theorem Ih{fs:Array aa}(hh:A.handled=none)(ho:s.heap.get? I=some o)(hd:o.data=.fields fs)(hk:2<fs.size)(hc:o.cls=.type "set_iterator") (q:∀h',Mr I s.heap h'->Q none { s with heap:=h' }) :
  wpAny (model prog w) A.in1 (do
    setField (ar I) 2 bq
    let __do_lift <- newExc (eQ "StopIteration") []
    raiseNew __do_lift) (λfin s'=>∃v,fin=Wi (Wj v)/\wpAny (model prog w) A (pure (some v)) Q E s')
   (λe s'=>wpAny (model prog w) A (do
    let __do_lift <- isInstance e (eQ "StopIteration")
    if __do_lift=true then pure none else throw e) Q E s') s:=by
 refine af (fld ho hd hk hc λh1 o1 eJ j6 mE iG=>?_);refine af ?_;simp only[newExc,newTuple];refine af (pj (af (m:=firstArgMember _ _) (tf (a:=bq) (by first|rfl|(simp only[firstArgMember];rfl)) (pj ?_ (by size_fits)))) (by size_fits))
 simp only[raiseNew];refine af (Yu ?_);rw[show A.in1.handled=none from hh];refine af (ah (Gu ?_));refine af (pd (T := "StopIteration") (b:=true) (v:=.ref _) (by exact⟨_,bS _ rfl,rfl⟩) Yc ?_);exact ah (q _ ((iG.extBut.push _).push _))
theorem ZnM(hh:A.handled=none)(x:pF w s.heap I S T es ep t ys ys.length)(hy:ys.length=es.size)
  (q:∀h',Mr I s.heap h'->Q none { s with heap:=h' }):wpAny (model prog w) A (pyNext (.ref I)) Q E s:=by
 have hT:=x.ty (h:=s.heap);obtain⟨⟨oS,gO,j8⟩,hf,first,o,ho,hc,hd,Ay⟩:=id x
 unfold pyNext;refine af (s_ (BY (name:=cm "__next__") hT tY (nq tY hT Oy ?_ (Ol _))));unfold cF.«set_iterator.__next__»;refine af (ah (af (yA ho hd ?_)));dsimp only;refine wpAny_bind (Iy gO j8 hf ?_);rw[if_neg (by simp)];rcases Ay with⟨sl,rfl,ic,e⟩|⟨sl,rfl,ic,aM,Ek,dm,hr,e⟩|⟨places,n,oT,rfl,rT,el,Er,KI⟩
 .dsimp only;rw[Int.toNat_natCast,Int.toNat_natCast,Int.toNat_natCast];refine af (PD ic gO j8 hf ?_);have rW:(pickOrder (w.params.setOrder S ep) es)[ys.length]?= none:=by
   have h1:ys.length=(pickOrder (w.params.setOrder S ep) es).size:=by
    rw[e,aF,aW]
   exact xY (MP h1.symm)
  rw[rW];exact Ih hh ho hd (by simp) hc q
 .dsimp only;rw[Int.toNat_natCast,Int.toNat_natCast,Int.toNat_natCast];refine af (Py ic aM Ek gO j8 hf ?_);rw[dm,xY (show es.size<=ys.length by lia)];exact Ih hh ho hd (by simp) hc q
 .dsimp only;refine wpAny_bind (wpAny_seqItems rT el ?_);dsimp only;rw[Int.toNat_natCast];have rW:places.size<=ys.length:=by rw[<- aW];lia
  rw[xY rW];dsimp only;refine af (fld ho hd (by simp) hc λh1 o1 eJ j6 mE iG=>Ih (s:={ s with heap:=h1 }) hh eJ mE (by simp) j6 λh' eb=>q h' λb o2 hb e2=>eb b o2 hb ((iG.2 b hb).trans e2))
theorem ZkA(hh:A.handled=none)(S9:S≠I)(Tf:T≠I)(hy:ys.length=es.size):Walks prog w A I [I,S,T] [I] ys.length (λi v=>ys[i]?= some v) (λi h=>pF w h I S T es ep t ys i) where
 sub:=λb hb=>a8.mpr (.inl (aI.mp hb))
 frame:=λi h h' x hk=>by
  obtain⟨⟨oS,gO,j8⟩,hf,first,o,ho,hc,hd,Ay⟩:=x
  refine⟨⟨oS,hk S (by simp) oS gO,j8⟩,hf,first,o,hk I (by simp) o ho,hc,hd,?_⟩
  rcases Ay with h1|h1|⟨places,n,oT,e,rT,r⟩
  .exact .inl h1
  .exact .inr (.inl h1)
  .exact .inr (.inr ⟨places,n,oT,e,hk T (by simp) oT rT,r⟩)
 item:=λi s Q E hi x hQ=>ZmQ x hy hi λh' x' sb=>hQ _ h' s.toks (cG hi) x' λb o hb e=>(sb.2 b (λz=>hb (aI.mpr z))).trans e
 done:=λs Q E x hQ=>ZnM hh x hy λh' eb=>hQ h' s.toks λb o hb e=>eb b o (λz=>hb (aI.mpr z)) e
 self:=λi s Q E x hQ=>by
  have hT:=x.ty (h:=s.heap);refine NH hT Ou (nq Ou hT ZeJ ?_ (Zf5 _));change wpAny _ _ (ret (.ref I)) _ _ s;exact ah ⟨_,rfl,"set_iterator",_,hT,tY.lookup,hQ⟩
section
variable{prog:aq}{w:ap}{K:Type}[DecidableEq K]{knd:KeyKind prog w K}{A:aC}{E:aa->ag->Prop}{s:ag}
theorem ZmS{S:Addr}{o:Obj}{es:Array (Int×aa)}{ep:Nat}{t:bc}{Q:Bool->ag->Prop}(ho:s.heap.get? S=some o)(hd:o.data=.set es ep t)(hf:t.fits es.size=true)(h:Q (!w.params.followText "set-order" && (!t.plain&&decide (es.size > 1))) s):wpAny (model prog w) A (setDrawn S) Q E s:=by
 unfold setDrawn;refine af (kM ho hd hf ?_);dsimp only;exact af (DE (ah h))
end
end l5
namespace l5
open PySem PyProof.Rows PySem.W
section
variable{prog:aq}{w:ap}{K:Type}[DecidableEq K]{knd:KeyKind prog w K}{A:aC}{E:aa->ag->Prop}{s:ag}
theorem ZkF{r:Addr}{Q:Bool->ag->Prop}(hT:s.TypeIs (.ref r) "set") (h:Q false s):wpAny (model prog w) A (V0 (.ref r)) Q E s:=by
 unfold V0;refine af (qM hT PySem.F.slot_set_len.lookup ?_);generalize Tx:("set.__len__" : String)=id0
 wp_delta
 rw[show splitId id0=some ("set","__len__") from by subst Tx;decide +kernel];subst Tx;refine af (pd (T := "set") (b:=true) hT (by rw[BU];kernel_rfl) (B2 (λei=>absurd ei (by decide)) (λ_=>B2 (λ_=>?_) (λei=>absurd (by decide +kernel) ei))));exact af (tw hT (ah h))
end
end l5
namespace L2
open PySem PySem.Spec PyProof.Rows PySem.W
variable{X:Cx}
theorem Inv.draws{ac:List (Addr×Obj)}{σ : St}{H:Hp}{s:ag}{d:qD}(I:Inv X ac σ H s):Inv X ac σ H { s with drawn:=d } :=
 I.step (g':=s.gens) (d':=d) (t':=s.toks) (ch:=[]) (λ_ z=>nomatch z) (λ_ _ _ _ _ e _=>e) (λ_ o _ _ _ e _=>⟨o.slots,e⟩) (λ_ _ _ _ n=>n) (λ_ o _ e=>⟨o,e⟩) (λ_ _ h=>h) (λ_ _ _ h=>h) (λ_ ps h=>⟨#[],by simpa using h⟩) (λ_ h=>h) I.aj I.bare
theorem Zof:bootBuiltins "set" = some (.type "set"):=by decide +kernel
theorem Zh1:bootBuiltins "sorted" = some (.builtin "sorted"):=by decide +kernel
theorem P_{ns:List Int}:∀zs:List V,(∀z∈zs,z∈ns.map V.int)->∃ms:List Int,zs=ms.map V.int/\∀m∈ms,m∈ns
 | [],_=>⟨[],rfl,λ_ h=>nomatch h⟩
 | z::zs,h=>by
  obtain⟨m,hm,rfl⟩:=aX.mp (h z (bw ..));obtain⟨ms,rfl,hms⟩:=P_ zs λx hx=>h x (bp _ hx);refine⟨m::ms,rfl,λx hx=>?_⟩;rcases a8.mp hx with rfl|hx
  .exact hm
  .exact hms x hx
end L2
namespace ax
open PySem PyProof.Rows yT
structure yU(lt:dZ->dZ->Bool):Prop where
 mx:∀x y,lt x y=true->lt y x=false
 neg:∀x y z,lt x y=false->lt y z=false->lt x z=false
def Le(lt:dZ->dZ->Bool)(x y:dZ):Prop:=lt y x=false
def Se(prog:aq)(w:ap)(A:aC)(s:ag)(κ : Nh)(Ok:dZ->Prop)(lt:dZ->dZ->Bool):Prop :=
 ∀x y,Ok x->Ok y->∀E:aa->ag->Prop,wpAny (model prog w) A (keyLt' κ x.1 y.1) (λb s'=>s'=s/\b=lt x y) E s
section
variable{lt:dZ->dZ->Bool}{a b out:Array dZ}{ia ib k:Nat}{p q:dZ}
abbrev So(lt:dZ->dZ->Bool)(l:List dZ):Prop:=l.Pairwise (Le lt)
end
end ax
namespace ax
open PySem PyProof.Rows yT PySem.W
variable{E:aa->ag->Prop}
def yY(prog:aq)(w:ap)(A:aC)(lv:aa->aa->Bool)(vs:List aa)(s:ag):Prop :=
 ∃ κ,(∀(Q:Nh->ag->Prop)(E:aa->ag->Prop),Q κ s->wpAny (model prog w) A (keyKind' vs.toArray) Q E s)/\Se prog w A s κ (λp=>p∈(pairsOf vs).toList) λx y=>lv x.1 y.1
variable{vs:List aa}
theorem OJ{p:dZ}(h:p∈(pairsOf vs).toList):p.1=p.2:=by
 rw[BW] at h;obtain⟨i,hi⟩:=fc.mp h;rw[List.getElem?_zip_eq_some] at hi;have:=hi.1.symm.trans hi.2;exact dg this
theorem Zk0{lt:dZ->dZ->Bool}(h:vs.length<2):So lt (pairsOf vs).toList:=mY.mpr λi j hi hj i8=>by
 rw[aW,BV] at hi hj;lia
variable{lv:aa->aa->Bool}
theorem Q9{xs:Array dZ}(hp:xs.toList.Perm (pairsOf vs).toList)(h:So (λx y=>lv x.1 y.1) xs.toList):(xs.map (·.2)).toList.Pairwise (λu v=>lv v u=false):=by
 rw[Bk,iK];refine Fu (λ{x y} hx hy AS=>?_) h;have NT:lv y.1 x.1=false:=AS;rw[OJ (hp.mem_iff.mp hx),OJ (hp.mem_iff.mp hy)] at NT;exact NT
def jV:aa->Int
 | .int i _=>i
 | _=>0
def Lh(u v:aa):Bool:=decide (jV u<jV v)
theorem QW:yU λx y=>Lh x.1 y.1:=⟨λx y h=>bt (by have:=bC h;lia),λx y z h1 h2=>bt (by have:=o7 h1;have:=o7 h2;lia)⟩
variable{prog:aq}{w:ap}{A:aC}{s:ag}
theorem Oa(hv:∀v∈vs,∃i t,v=eC i t)(h2:2<=vs.length):yY prog w A Lh vs s:=by
 refine⟨oneType',λQ E hq=>kas_kind (T:=.type "int") h2 (λv hm=>?_) rfl rfl hq,?_⟩
 .obtain⟨i,t,rfl⟩:=hv v hm;exact FJ rfl
 .intro x y hx hy E;rw[BW] at hx hy;obtain⟨i,t,e⟩:=hv _ (oZ hx).2;obtain⟨i',t',e'⟩:=hv _ (oZ hy).2;rw[e,e',keyLt'_oneType];refine Nw ⟨rfl,?_⟩;show decide (i<i')=decide (jV x.1<jV y.1);rw[e,e'];rfl
section
variable{prog:aq}{w:ap}{A:aC}{E:aa->ag->Prop}{s:ag}{T:String}{r d:Addr}{n:Nat}{P:Nat->aa->Prop}{OK:Heap->Prop}
theorem OD{Q:List aa->ag->Prop}(K:KdlSrc prog w T r d n P OK)(hh:A.handled=none)(aj:OK s.heap)(hn:n<=sizeLine)
  (q:∀(acc:Array aa)(h':Heap)(tk:Nat),(∀b o,s.heap.get? b=some o->h'.get? b=some o)->ItemsOf P acc n->s.heap.objs.size<=h'.objs.size->Q acc.toList { s with heap:=h',toks:=tk }):wpAny (model prog w) A (collect (.ref r)) Q E s:=by
 unfold collect;refine af (Gq (g9 VH ?_));change wpAny _ _ (do again (.builtin "list.__iadd__" ⟨[<- newList [],.ref r],[]⟩)) _ _ s;refine af (yD (ah ⟨Bo _ (by decide +kernel),g9 VG ?_⟩));change wpAny _ A.in1 (Mi (.ref s.heap.objs.size) (.ref r) (.ref s.heap.objs.size)) _ _ { s with heap:=s.heap.push (seqObj "list" #[] 0) };have aA:=K.there _ aj;refine kdl_extend (R:=wants (λv s'=>wpAny (model prog w) A (match v with
     | ar a=>do
      let o <- load a
      match o.data with
      | .seq xs _=>pure xs.toList
      | _=>unsupported "internal:collect"
     | _=>unsupported "internal:collect") Q E s') E) (s:={ s with heap:=s.heap.push (seqObj "list" #[] 0) }) K hh (K.keep _ _ aj λb _ o e=>aH _ e) s.heap.objs.size (vF aA.1) (vF aA.2) _ 0 (bS _ rfl) (λh' tk acc c kp hS hit=>?_) hn
 refine af (Gp hS ?_);refine ah ?_;exact q acc h' tk (λb o e=>kp b o (bo (aP e)) (aH _ e)) hit (ji (aP hS))
end
structure Fo(f:Nat->Nat->Bool):Prop where
 mx:∀x y,f x y=true->f y x=false
 neg:∀{x} y {z},f x y=false->f y z=false->f x z=false
abbrev aR(p:Array Nat)(i:Nat):Nat:=p.getD i 0
def k_(f:Nat->Nat->Bool)(p:Array Nat)(n:Nat):Prop := ∀x y,x<y->y<n->f (aR p y) (aR p x)=false
def nz(f:Nat->Nat->Bool)(p:Array Nat)(n:Nat):Prop := ∀x y,x<y->y<n->f (aR p x) (aR p y)=false
def pD(f:Nat->Nat->Bool)(p:Array Nat)(m n:Nat):Prop := ∀x y,m<=x->x<n->m<=y->y<n->f (aR p x) (aR p y)=false
def dE(N:Nat)(p:Array Nat):Prop:=p.toList.Perm (fL N)
section
variable{f:Nat->Nat->Bool}{N:Nat}{cmp:Nat->Nat->(Bool->ag->Prop)->ag->Prop}{s:ag}{p:Array Nat}
theorem dE.size(h:dE N p):p.size=N:=by
 have:=h.length_eq
 simpa using this
theorem dE.lt(h:dE N p){i:Nat}(hi:i<N):aR p i<N:=by
 have hs:=h.size;have e:aR p i=p[i]:=by simp[aR,gU,show i<p.size by lia]
 rw[e];exact ik.mp (h.mem_iff.mp (by simp))
theorem dE.rev(h:dE N p)(i j:Nat):dE N (kas_rev p i j):=(mirror_perm p i j _).toList.trans h
theorem dE.bub(h:dE N p)(i j:Nat):dE N (bubble p i j):=(bubble_perm p i j).toList.trans h
theorem nM{j:Nat}(h:dE N p)(hj:j<=N)(i k:Nat):aR (kas_rev p i j) k=if i<=k/\k<j then aR p (i+j-1-k) else aR p k:=by
 have e:=getElem?_mirror_all (i:=i) (show j<=p.size by rw[h.size];exact hj) k;show(kas_rev p i j).getD k 0=_;rw[Fd];show((mirror p i j ((j-i) / 2))[k]?).getD 0=_;rw[e]
 split <;> exact(Fd ..).symm
theorem Rv{k l:Nat}(h:dE N p)(hk:k<N)(hl:l<=k)(i:Nat):aR (bubble p k (k-l)) i=if i=l then aR p k else if l<i/\i<=k then aR p (i-1) else aR p i:=by
 have e:=getElem?_bubble (show k<p.size by rw[h.size];exact hk) (k-l) (by lia) i;show(bubble p k (k-l)).getD i 0=_;rw[Fd,e,show k-(k-l)=l by lia]
 repeat' split
 all_goals exact(Fd ..).symm
variable(o:Fo f)
include o
theorem Fo.mM(x:Nat):f x x=false:=by
 cases h:f x x with
 | false=>rfl
 | true=>exact(o.mx _ _ h).symm.trans h |>.symm
variable{n:Nat}
theorem k_.ext(h:k_ f p n)(e:f (aR p n) (aR p (n-1))=false):k_ f p (n+1):=λx y h1 h2=>by
 rcases kF y n with c|c
 .exact h x y h1 c
 .obtain rfl:y=n:=by lia
  rcases kF x (y-1) with c|c
  .exact o.neg _ e (h x (y-1) c (by lia))
  .rw[show x=y-1 by lia];exact e
theorem nz.ext(h:nz f p n)(e:f (aR p (n-1)) (aR p n)=false):nz f p (n+1):=λx y h1 h2=>by
 rcases kF y n with c|c
 .exact h x y h1 c
 .obtain rfl:y=n:=by lia
  rcases kF x (y-1) with c|c
  .exact o.neg _ (h x (y-1) c (by lia)) e
  .rw[show x=y-1 by lia];exact e
theorem pD.ext{m:Nat}(h:pD f p m n)(hn:m<n)(e1:f (aR p (n-1)) (aR p n)=false)(e2:f (aR p n) (aR p (n-1))=false):pD f p m (n+1):=λx y h1 h2 h3 h4=>by
 have k1:∀x,m<=x->x<n+1->f (aR p x) (aR p (n-1))=false:=λx h1 h2=>by
  rcases kF x n with c|c
  .exact h x _ h1 c (by lia) (by lia)
  .rw[show x=n by lia];exact e2
 have k2:∀x,m<=x->x<n+1->f (aR p (n-1)) (aR p x)=false:=λx h1 h2=>by
  rcases kF x n with c|c
  .exact h _ x (by lia) (by lia) h1 c
  .rw[show x=n by lia];exact e1
 exact o.neg _ (k1 x h1 h2) (k2 y h3 h4)
theorem pD.one(n:Nat):pD f p (n+1-(0+1)) (n+1):=λx y h1 h2 h3 h4=>by
 rw[show x=y by lia];exact o.mM _
variable(hc:∀i j C,i<N->j<N->C (f i j) s->cmp i j C s)
include hc
theorem IM(hp:dE N p){G:Nat->ag->Prop}:∀k n,1<=n->n+k<=N->k_ f p n->(∀m,n<=m->m<=n+k->k_ f p m->(m<n+k->f (aR p m) (aR p (m-1))=true)->G m s)->(kas_asc p k n).kasWp cmp G s
 | 0,n,_,_,u,h=>h n (aD _) (aD _) u λz=>absurd z (cW _)
 | k+1,n,h1,hn,u,h=>hc _ _ _ (hp.lt (by lia)) (hp.lt (by lia)) (by
  show(if f (aR p n) (aR p (n-1))=true then _ else _:KasT Nat).kasWp cmp G s
  by_cases c:f (aR p n) (aR p (n-1))=true
  .rw[ao c];exact h n (aD _) (by lia) u λ_=>c
  .rw[ai c];exact IM hp k (n+1) (by lia) (by lia) (u.ext o (by simpa using c)) λm a b u' e=>h m (by lia) (by lia) u' λz=>e (by lia))
theorem HZ{G:Array Nat×Nat×Nat->ag->Prop}:∀k p n q,dE N p->q+1<=n->n+k<=N->nz f p n->pD f p (n-(q+1)) n->(∀p' n' q',dE N p'->n<=n'->n'<=n+k->q'+1<=n'->nz f p' n'->pD f p' (n'-(q'+1)) n'->G (p',n',q') s)->(kas_desc k p n q).kasWp cmp G s
 | 0,p,n,q,hp,hq,_,d,e,h=>h p n q hp (aD _) (aD _) hq d e
 | k+1,p,n,q,hp,hq,hn,d,e,h=>hc _ _ _ (hp.lt (by lia)) (hp.lt (by lia)) (by
  show(if f (aR p n) (aR p (n-1))=true then(if q > 0 then _ else _) else Ws _ _ _:KasT (Array Nat×Nat×Nat)).kasWp cmp G s
  have go:∀p',dE N p'->nz f p' n->f (aR p' (n-1)) (aR p' n)=false->(kas_desc k p' (n+1) 0).kasWp cmp G s:=λp' pu d' e'=>HZ k p' (n+1) 0 pu (by lia) (by lia) (d'.ext o e') (pD.one o n) λp2 n2 q2 a b c=>h p2 n2 q2 a (by lia) (by lia);by_cases c:f (aR p n) (aR p (n-1))=true
  .rw[ao c];by_cases cq:q > 0
   .rw[ao cq];have at_:∀x,x<n->∃y,aR (kas_rev p (n-(q+1)) n) x=aR p y/\y<n/\(x<n-(q+1)->y=x)/\(n-(q+1)<=x->n-(q+1)<=y):=λx hx=>by
     rw[nM hp (by lia)]
     split
     .exact⟨_,rfl,by lia,by lia,by lia⟩
     .exact⟨_,rfl,by lia,by lia,by lia⟩
    refine go _ (hp.rev _ _) (λx y h1 h2=>?_) ?_
    .obtain⟨x',ex,x1,x2,x3⟩:=at_ x (by lia);obtain⟨y',ey,y1,y2,y3⟩:=at_ y h2;rw[ex,ey];rcases kF x (n-(q+1)) with z|z
     .have:=x2 z;rcases kF y (n-(q+1)) with w|w
      .have:=y2 w;exact d _ _ (by lia) y1
      .have:=y3 w;exact d _ _ (by lia) y1
     .exact e _ _ (x3 z) x1 (y3 (by lia)) y1
    .obtain⟨y,ey,y1,_,y3⟩:=at_ (n-1) (by lia);have y3:=y3 (by lia);rw[ey,nM hp (by lia),ai (by lia)];refine o.mx _ _ ?_;cases c2:f (aR p n) (aR p y) with
     | true=>rfl
     | false=>exact absurd c (by rw[o.neg _ c2 (e y (n-1) y3 y1 (by lia) (by lia))];decide)
   .rw[ai cq];exact go p hp d (o.mx _ _ c)
  .rw[ai c];refine hc _ _ _ (hp.lt (by lia)) (hp.lt (by lia)) ?_;show(if f (aR p (n-1)) (aR p n)=true then _ else _:KasT (Array Nat×Nat×Nat)).kasWp cmp G s
   by_cases c2:f (aR p (n-1)) (aR p n)=true
   .rw[ao c2];exact h p n q hp (aD _) (by lia) hq d e
   .rw[ai c2];refine HZ k p (n+1) (q+1) hp (by lia) (by lia) (d.ext o (by simpa using c2)) ?_ λp2 n2 q2 a b c=>h p2 n2 q2 a (by lia) (by lia);rw[show n+1-(q+1+1)=n-(q+1) by lia];exact e.ext o (by lia) (by simpa using c2) (by simpa using c))
variable{G:Nat×Array Nat->ag->Prop}
theorem QA(hp:dE N p)(hn:n+1<=N)(d:nz f p (n+1))(h:∀m p',dE N p'->1<=m->m<=N->k_ f p' m->G (m,p') s):(kas_descPart n N p).kasWp cmp G s:=by
 have tl:∀p n,dE N p->1<=n->n<=N->nz f p n->(kas_tail3 n N p).kasWp cmp G s:=λp n hp h1 hn d=>by
  unfold kas_tail3;rw[Bs];refine IM o hc (hp.rev _ _) _ _ h1 (by lia) (λx y hx hy=>?_) λm a b u _=>h m _ (hp.rev _ _) (by lia) (by lia) u;rw[nM hp hn,nM hp hn,ao (by lia),ao (by lia)];exact d _ _ (by lia) (by lia)
 unfold kas_descPart;rw[Bs];refine HZ o hc _ _ _ _ hp (by lia) (by lia) d (pD.one o n) λp' n' q' a b c hq d' e'=>?_;show(if q' > 0 then _ else _:KasT (Nat×Array Nat)).kasWp cmp G s
 by_cases cq:q' > 0
 .rw[ao cq];show(kas_tail3 n' N (kas_rev p' (n'-(q'+1)) n')).kasWp cmp G s;refine tl _ _ (a.rev _ _) (by lia) (by lia) λx y h1 h2=>?_;rw[nM a (by lia),nM a (by lia)]
  split
  .rw[ao (by lia)];exact e' _ _ (by lia) (by lia) (by lia) (by lia)
  .split
   .exact d' _ _ (by lia) (by lia)
   .exact d' _ _ h1 h2
 .rw[ai cq];exact tl p' n' a (by lia) (by lia) d'
theorem Zlr(hp:dE N p)(h2:1<=N)(h:∀m p',dE N p'->1<=m->m<=N->k_ f p' m->G (m,p') s):(kas_count N p).kasWp cmp G s:=by
 unfold kas_count;rw[Bs];refine IM o hc hp _ _ (aD _) (by lia) (λx y h1 h2=>by lia) λn a b u e=>?_;show(if(n == N)=true then KasT.ret (n,p) else if n > 1 then _ else _:KasT (Nat×Array Nat)).kasWp cmp G s
 by_cases c:(n == N)=true
 .rw[ao c];exact h n p hp a (by lia) u
 .rw[ai c];have hn:n<N:=by
   have:n≠N:=by simpa using c
   lia
  have e:=e (by lia);by_cases c1:n > 1
  .rw[ao c1];refine hc _ _ _ (hp.lt (by lia)) (hp.lt (by lia)) ?_;show(if f (aR p 0) (aR p (n-1))=true then _ else _:KasT (Nat×Array Nat)).kasWp cmp G s
   by_cases c2:f (aR p 0) (aR p (n-1))=true
   .rw[ao c2];exact h n p hp a (by lia) u
   .rw[ai c2];have c2:f (aR p 0) (aR p (n-1))=false:=by simpa using c2
    refine QA o hc (hp.rev _ _) (by lia) (nz.ext o (λx y hx hy=>?_) ?_) h
    .rw[nM hp (by lia),nM hp (by lia),ao (by lia),ao (by lia)];exact u _ _ (by lia) (by lia)
    .rw[nM hp (by lia),nM hp (by lia),ao (by lia),ai (by lia),show 0+n-1-(n-1)=0 by lia];refine o.mx _ _ ?_;cases c3:f (aR p n) (aR p 0) with
     | true=>rfl
     | false=>exact absurd e (by rw[o.neg _ c3 c2];decide)
  .rw[ai c1];obtain rfl:n=1:=by lia
   exact QA o hc hp (by lia) (nz.ext o (λx y h1 h2=>by lia) (o.mx _ _ e)) h
theorem HN{k:Nat}(hp:dE N p)(hk:k<N)(u:k_ f p k){G:Nat->ag->Prop}:∀r l m,l<=m->m<=k->m<=l+r->(∀i,i<l->f (aR p k) (aR p i)=false)->(∀i,m<=i->i<k->f (aR p k) (aR p i)=true)->(∀l,l<=k->(∀i,i<l->f (aR p k) (aR p i)=false)->(∀i,l<=i->i<k->f (aR p k) (aR p i)=true)->G l s)->(kas_place p k r l m).kasWp cmp G s
 | 0,l,m,a,b,c,h1,h2,h=>h l (by lia) h1 λi x y=>h2 i (by lia) y
 | r+1,l,m,a,b,c,h1,h2,h=>by
  show(if l>=m then _ else Ws _ _ _:KasT Nat).kasWp cmp G s
  by_cases z:l>=m
  .rw[ao z];exact h l (by lia) h1 λi x y=>h2 i (by lia) y
  .rw[ai z];refine hc _ _ _ (hp.lt hk) (hp.lt (by lia)) ?_;show(if f (aR p k) (aR p ((l+m) / 2))=true then _ else _:KasT Nat).kasWp cmp G s
   by_cases w:f (aR p k) (aR p ((l+m) / 2))=true
   .rw[ao w];refine HN hp hk u r l _ (by lia) (by lia) (by lia) h1 (λi x y=>?_) h;rcases kF ((l+m) / 2) i with v|v
    .cases t:f (aR p k) (aR p i) with
     | true=>rfl
     | false=>exact absurd w (by rw[o.neg _ t (u _ _ v y)];decide)
    .rw[show i=(l+m) / 2 by lia];exact w
   .rw[ai w];have w:f (aR p k) (aR p ((l+m) / 2))=false:=by simpa using w
    refine HN hp hk u r _ m (by lia) (by lia) (by lia) (λi x=>?_) h2 h;rcases kF i ((l+m) / 2) with v|v
    .exact o.neg _ w (u _ _ v (by lia))
    .rw[show i=(l+m) / 2 by lia];exact w
theorem Rh{G:Array Nat->ag->Prop}:∀r p k,dE N p->k+r=N->k_ f p k->(∀p',dE N p'->k_ f p' N->G p' s)->(kas_bin r p k).kasWp cmp G s
 | 0,p,k,hp,hk,u,h=>h p hp (by rw[<- hk];exact u)
 | r+1,p,k,hp,hk,u,h=>by
  show((kas_place p k k 0 k).bind λl=>kas_bin r (bubble p k (k-l)) (k+1)).kasWp cmp G s;rw[Bs];refine HN o hc hp (by lia) u _ _ _ (bG _) (aD _) (by lia) (λi h=>by lia) (λi h1 h2=>by lia) λl hl h1 h2=>Rh r _ _ (hp.bub _ _) (by lia) (λx y hx hy=>?_) h;rw[Rv hp (by lia) hl,Rv hp (by lia) hl];by_cases a:y=l
  .rw[ao a,ai (by lia),ai (by lia)];exact h1 x (by lia)
  .rw[ai a];by_cases b:x=l
   .rw[ao b,ao (by lia)];exact o.mx _ _ (h2 (y-1) (by lia) (by lia))
   .rw[ai b]
    repeat' split
    all_goals exact u _ _ (by lia) (by lia)
theorem ZmM{G:Array Nat->ag->Prop}(h2:1<=N)(h:∀p',dE N p'->k_ f p' N->G p' s):(kas_sort N).kasWp cmp G s:=by
 unfold kas_sort;rw[Bs];refine Zlr o hc (show dE N (WV (fL N)) from oO _) h2 λm p' a b c u=>?_;show(if m<N then _ else _:KasT (Array Nat)).kasWp cmp G s
 by_cases z:m<N
 .rw[ao z,show max m 1=m by lia];exact Rh o hc _ _ _ a (by lia) u h
 .rw[ai z];exact h p' a (by rw[show N=m by lia];exact u)
end
section
variable{prog:aq}{w:ap}{A:aC}{E:aa->ag->Prop}{s:ag}{κ : Nh}{lt:dZ->dZ->Bool}
theorem ZjV{a₀ : Array dZ}{Q:Unit->SortSt->Prop}(o:yU lt)(hc:Se prog w A s κ (λp=>p∈a₀.toList) lt)(hn:2<=a₀.size)(pT:a₀.size<=63)(h:∀bL,(arrOf bL).toList.Perm a₀.toList->So lt (arrOf bL).toList->failedOf bL=none->Q () bL):wpS (model prog w) A E s sortRuns' Q (VF κ a₀ #[] 7 none):=by
 have it:∀i,i<a₀.size->kas_item a₀ i∈a₀.toList:=λi hi=>by
  unfold kas_item;simp[gU,hi]
 have e0:VF κ a₀ #[] 7 none=kas_st κ a₀ (WV (fL a₀.size)):=by
  unfold kas_st;rw[kas_range]
 rw[e0];show kasC (model prog w) A E sortRuns' (λa bL s'=>s'=s/\Q a bL) _ s;refine kas_runs (prog:=prog) (w:=w) (A:=A) (κ := κ) (it:=a₀) (G:=λp s'=>s'=s/\dE a₀.size p/\k_ (λi j=>lt (kas_item a₀ i) (kas_item a₀ j)) p a₀.size) hn (by lia) (λp' bL s' hs ha hf hg=>?_) (ZmM (f:=λi j=>lt (kas_item a₀ i) (kas_item a₀ j)) ⟨λx y=>o.mx _ _,λy=>o.neg _ _ _⟩ (λi j C hi hj q=>?_) (by lia) λp' a b=>⟨rfl,a,b⟩)
 .obtain⟨rfl,g1,g2⟩:=hg;refine⟨rfl,h bL ?_ ?_ hf⟩
  .rw[ha,Bk];refine(g1.map _).trans ?_;have e:=congrArg Fe (kas_range a₀);rw[Bk] at e;rw[show List.map (kas_item a₀) (fL a₀.size)=a₀.toList from e]
  .rw[ha,Bk,So,iK];refine mY.mpr λi j hi hj i8=>?_;rw[aW] at hi hj;have:=g2 i j i8 (by lia)
   simpa[Le,aR,gU,hi,hj] using this
 .exact cM (hc _ _ (it i hi) (it j hj) _) (λb s' ⟨h1,h2⟩=>by subst h1;subst h2;exact q) λ_ _ e=>e
end
theorem Zgl(o:yU λx y=>lv x.1 y.1){a:Addr}{vs:List aa}{n:Nat}{P:Fin->ag->Prop}(ho:s.heap.get? a=some (seqObj "list" vs.toArray n)) (hlen:vs.length<=63)
  (hc:∀h6:Heap,(∀b o,b≠a->s.heap.get? b=some o->h6.get? b=some o)->2<=vs.length->yY prog w A lv vs { s with heap:=h6 })
  (h:∀out:Array aa,out.toList.Perm vs->out.toList.Pairwise (λu v=>lv v u=false)->P (.done (.ret .none)) { s with heap:=sortedHeap s.heap a vs out }):wpAny (model prog w) A (cF.«list.sort» ⟨[.ref a],[]⟩) P E s:=by
 have hv:vs.toArray.size<=sizeLine:=by rw[cO,bu];lia
 have ha:a<s.heap.objs.size:=aP ho;obtain⟨e1,eJ⟩:∃e1,(s.heap.update a (kH λ_=>#[])).get? a=some (seqObj "list" #[] e1):=⟨_,Nq ho (λ_=>#[])⟩;rw[list_sort_plain];refine af (listItems_at ho rfl (af (Nu ho rfl (af (Ny eJ rfl (af (NG (af (yD (cP ?_)))))))  hv (bG _))));have nT:a≠(s.heap.update a (kH λ_=>#[])).objs.size:=by rw[Ms];exact bo ha
 have nL:a≠((s.heap.update a (kH λ_=>#[])).push (seqObj "tuple" vs.toArray 0)).objs.size:=by rw[Mb,Ms];exact bo (MQ ha)
 have xu:(((s.heap.update a (kH λ_=>#[])).push (seqObj "tuple" vs.toArray 0)).push (seqObj "list" #[] 0)).get? a=some (seqObj "list" #[] e1):=by
  rw[Wl _ _ _ nL,Wl _ _ _ nT];exact eJ
 have ZyL:∀b o,b≠a->s.heap.get? b=some o->(((s.heap.update a (kH λ_=>#[])).push (seqObj "tuple" vs.toArray 0)).push (seqObj "list" #[] 0)).get? b=some o:=λb o hb e=>by
  refine aH _ (aH _ ?_);rw[jh _ _ hb.symm];exact e
 show wpAny (model prog w) A _ P E { s with heap:=((s.heap.update a (kH λ_=>#[])).push (seqObj "tuple" vs.toArray 0)).push (seqObj "list" #[] 0) };dsimp only;by_cases h2:vs.toArray.size<2
 .rw[ao h2,ao h2];refine af (ah ?_);rw[StateT.run_pure];refine af (ah (af (Ny xu rfl (af (Nu xu rfl ?_ (bG _) ?_)))))
  .simp only[bne_self_eq_false,dv,cX];exact ah (h _ (PO (xs:=pairsOf vs) (oO _)) (Q9 (xs:=pairsOf vs) (oO _) (Zk0 (by rw[cO] at h2;exact h2))))
  .show((pairsOf vs).map (·.2)).size<=_;rw[vq,BV,bu];lia
 .rw[ai h2,ai h2];rw[cO] at h2;obtain⟨κ,uN,Am⟩:=hc _ ZyL (by lia);refine af (uN _ _ ?_);refine af (cM (ZjV (a₀ := pairsOf vs) (Q:=λ_ bL=>(arrOf bL).toList.Perm (pairsOf vs).toList/\So (λx y=>lv x.1 y.1) (arrOf bL).toList/\failedOf bL=none) o Am (by rw[BV];lia) (by rw[BV];exact hlen) λbL a1 a3 a2=>⟨a1,a3,a2⟩) ?_ λ_ _ e=>e);rintro⟨⟨⟩,bL⟩ s' ⟨rfl,hp,jc,hf⟩;dsimp only;refine af (Ny xu rfl (af (Nu xu rfl ?_ (bG _) ?_)))
  .rw[hf];simp only[bne_self_eq_false,dv,cX];exact ah (h _ (PO hp) (Q9 hp jc))
  .have pu:(arrOf bL).toList.Perm (pairsOf vs).toList:=hp;have:=pu.length_eq;rw[aW,aW,BV] at this;show((arrOf bL).map (·.2)).size<=_;rw[vq,bu];lia
theorem Cw(o:yU λx y=>lv x.1 y.1){v:aa}{C:List aa->Prop}{Q:aa->ag->Prop}
  (Zys:∀(Q':List aa->ag->Prop)(E':aa->ag->Prop),(∀(ys:List aa)(h':Heap)(tk:Nat)(d:qD),(∀b o,s.heap.get? b=some o->h'.get? b=some o)->C ys->ys.length<=63->s.heap.objs.size<=h'.objs.size->Q' ys { s with heap:=h',toks:=tk,drawn:=d })->wpAny (model prog w) A.in1 (collect v) Q' E' s)
  (hc:∀(ys:List aa)(h6:Heap)(tk:Nat)(d:qD),C ys->(∀b o,s.heap.get? b=some o->h6.get? b=some o)->2<=ys.length->yY prog w A.in1.in1 lv ys { s with heap:=h6,toks:=tk,drawn:=d })
  (q:∀(p:Addr)(ys:List aa)(out:Array aa)(h':Heap)(tk:Nat)(d:qD)(c:Nat),C ys->out.toList.Perm ys->out.toList.Pairwise (λu v=>lv v u=false)->(∀b o,s.heap.get? b=some o->h'.get? b=some o)->h'.get? p=some (seqObj "list" out c)->s.heap.objs.size<=p->out.size<=63->Q (.ref p) { s with heap:=h',toks:=tk,drawn:=d }) :
  wpAny (model prog w) A (call (.builtin "sorted") [v]) Q E s:=by
 refine V4 kind_sorted plain_sorted entry_sorted (args_sorted1 _) ?_;unfold cF.«sorted»;refine af (m:=checkCount "sorted" 1 1 _) (ah (af (Zys _ _ λys h1 tk d k1 hC hyl hle=>af (yD ?_ (by rw[bu];lia)))));have uT:(h1.push (seqObj "list" ys.toArray 0)).get? h1.objs.size=some (seqObj "list" ys.toArray 0):=bS _ rfl;have keep:∀b o,s.heap.get? b=some o->(h1.push (seqObj "list" ys.toArray 0)).get? b=some o:=λb o e=>aH _ (k1 b o e);have uF:∀b o,s.heap.get? b=some o->h1.objs.size≠b:=λb o e=>vF (cg (aP e) hle);change wpAny _ _ _ _ _ { s with heap:=h1.push (seqObj "list" ys.toArray 0),toks:=tk,drawn:=d };refine af (cP (nq slot_list_sort ⟨_,uT,rfl⟩ entry_list_sort (Zgl (s:={ s with heap:=h1.push (seqObj "list" ys.toArray 0),toks:=tk,drawn:=d }) o uT (by lia) (λh6 k6 h2=>hc ys h6 tk d hC (λb o e=>k6 b o (uF b o e).symm (keep b o e)) h2) λout hp jc=>⟨_,rfl,?_⟩) (args_list_sort _)));generalize h1.push (seqObj "list" ys.toArray 0)=h5 at uT keep;obtain⟨e1,eJ⟩:∃e1,(h5.update h1.objs.size (kH λ_=>#[])).get? h1.objs.size=some (seqObj "list" #[] e1):=⟨_,Nq uT (λ_=>#[])⟩;have xu:=aH (seqObj "list" #[] 0) (aH (seqObj "tuple" ys.toArray 0) eJ);have AD:out.size<=63:=by rw[<- aW,hp.length_eq];exact hyl
 refine ah ⟨_,rfl,q h1.objs.size ys out (sortedHeap h5 h1.objs.size ys out) tk d _ hC hp jc (λb o e=>?_) (Nq xu (λ_=>out)) hle AD⟩;unfold sortedHeap;rw[jh _ _ (uF b o e)];refine aH _ (aH _ ?_);rw[jh _ _ (uF b o e)];exact keep b o e
end ax
namespace ax
open PySem PyProof.Rows
theorem ZfP:typeLookup (.type "list") "keys" = pure none:=by rw[Gm,Gf];kernel_rfl
theorem Ha:isSubtype (.type "AttributeError") (.type "AttributeError")=pure true:=by rw[BU];kernel_rfl
variable{prog:aq}{w:ap}{A:aC}{E:aa->ag->Prop}{h:Heap}{g:Array Mq}{d:qD}{t:Nat}{os:OsState}
theorem ZhZ{α : Type}{Q : α -> ag->Prop}{o:aa}{name msg:Str}(hh:A.handled=none)(hm:msg.length<=sizeLine)(hq:∀(x:Addr) (h':Heap) (tk:Nat),(∀b u,h.get? b=some u->h'.get? b=some u)->(∃ob,h'.get? x=some ob/\ob.cls=.type "AttributeError")->h.objs.size<=h'.objs.size->E (.ref x) ⟨h',g,d,tk,os⟩) :
  wpAny (model prog w) A (raiseAttrError o name msg:Sem α) Q E ⟨h,g,d,t,os⟩:=by
 unfold raiseAttrError
 repeat (any_goals (first|assumption|wp_step))
 refine tf Ha ?_;rw[ai (by decide)];generalize Tt:(if((Manifest.find? "AttributeError").elim false λt=>t.mro.contains "StopIteration" || t.mro.contains "SystemExit")=true then [ef msg t].headD bq else bq)=fa
 have k1:∀b u,h.get? b=some u->(h.push { cls:=eQ "tuple",data:=Mm #[ef msg t] }).get? b=some u:=λb u e=>aH _ e;have z1:(h.push { cls:=eQ "tuple",data:=Mm #[ef msg t] }).objs.size=h.objs.size+1:=iJ ..;generalize h.push { cls:=eQ "tuple",data:=Mm #[ef msg t] }=h1 at k1 z1;have e1:(h1.push { cls:=eQ "AttributeError",data:=sI (#[ar h.objs.size,bq,bq,bq,g8 false,fa]++ownMembersOf (eQ "AttributeError") [ef msg t]) }).get? h1.objs.size=some { cls:=eQ "AttributeError",data:=sI (#[ar h.objs.size,bq,bq,bq,g8 false,fa]++ownMembersOf (eQ "AttributeError") [ef msg t]) }:=bS _ rfl;have k2:∀b u,h.get? b=some u->(h1.push { cls:=eQ "AttributeError",data:=sI (#[ar h.objs.size,bq,bq,bq,g8 false,fa]++ownMembersOf (eQ "AttributeError") [ef msg t]) }).get? b=some u:=λb u e=>aH _ (k1 b u e);have z2:(h1.push { cls:=eQ "AttributeError",data:=sI (#[ar h.objs.size,bq,bq,bq,g8 false,fa]++ownMembersOf (eQ "AttributeError") [ef msg t]) }).objs.size=h1.objs.size+1:=iJ ..;generalize h1.push { cls:=eQ "AttributeError",data:=sI (#[ar h.objs.size,bq,bq,bq,g8 false,fa]++ownMembersOf (eQ "AttributeError") [ef msg t]) }=h2 at e1 k2 z2;refine af (Gp e1 ?_);dsimp only;have v6:(#[Value.ref h.objs.size,Value.none,Value.none,Value.none,Value.bool false,fa]++ownMembersOf (eQ "AttributeError") [ef msg t])[6]?= some unsetMember:=rfl;have v7:(#[ar h.objs.size,bq,bq,bq,g8 false,fa]++ownMembersOf (eQ "AttributeError") [ef msg t])[7]?= some unsetMember:=rfl;refine B2 (λei=>absurd ei (by rw[v6,v7];decide)) (λ_=>B2 (λei=>absurd ei (by rw[v6,v7];decide)) (λ_=>ah ?_));rw[ao rfl];refine af (kK (af (tw (T := "AttributeError") ⟨_,e1,rfl⟩ ?_)));dsimp only;unfold layMembers;refine wpAny_bind (wpAny_load e1 ?_);dsimp only;refine wpAny_update e1 ?_;unfold raiseNew;refine wpAny_bind (wpAny_handled ?_);rw[hh];refine Gu (hq _ _ _ (λb u e=>?_) ?_ ?_)
 .rw[jh _ _ (show h1.objs.size≠b from λz=>?_)]
  .exact k2 b u e
  .have:=aP e;have h3:h1.objs.size<h.objs.size:=z ▸ this;lia
 .exact⟨_,sJ _ e1 rfl,rfl⟩
 .rw[Ms];show h.objs.size<=h2.objs.size;lia
variable{a:Addr}{its:Array aa}{n:Nat}{sl:Array (Option aa)}
theorem Zdx{tk:Tok}{Q:Fin->ag->Prop}(hh:A.handled=none)(hx:h.get? a=some { cls:=.type "list",dict:=none,data:=.seq its n,slots:=sl }) (hq:∀(x:Addr)(h':Heap)(tk:Nat),(∀b u,h.get? b=some u->h'.get? b=some u)->(∃ob,h'.get? x=some ob/\ob.cls=.type "AttributeError")->h.objs.size<=h'.objs.size->E (.ref x) ⟨h',g,d,tk,os⟩) :
  wpAny (model prog w) A (cF.«object.__getattribute__» ⟨[.ref a,.str "keys" tk],[]⟩) Q E ⟨h,g,d,t,os⟩:=by
 have hT:(⟨h,g,d,t,os⟩:ag).TypeIs (.ref a) "list" := ⟨_,hx,rfl⟩;have f4:=ZfP
 repeat (any_goals (first|assumption|with_reducible apply ZhZ hh|wp_step))
 decide +kernel
theorem ZdS:typeLookup (.type "list") "__getattr__" = pure none:=by rw[Gm,Gf];kernel_rfl
theorem Zd5{tk:Tok}{R:nh->ag->Prop}(hh:A.handled=none)(hx:h.get? a=some { cls:=.type "list",dict:=none,data:=.seq its n,slots:=sl }) (hq:∀(x:Addr)(h':Heap)(tk:Nat),(∀b u,h.get? b=some u->h'.get? b=some u)->(∃ob,h'.get? x=some ob/\ob.cls=.type "AttributeError")->h.objs.size<=h'.objs.size->R (.error (.ref x)) ⟨h',g,d,tk,os⟩) :
  codeAny (model prog w) A (.call (.builtin "list.__getattribute__") ⟨[.ref a,.str "keys" tk],[]⟩) R ⟨h,g,d,t,os⟩ :=
 BR Fq.plain F.entry_list_ga (Fq.check _ _ _ _ _ _ _ _ (show(⟨h,g,d,t,os⟩:ag).TypeIs (.ref a) "list" from⟨_,hx,rfl⟩) (F.args_list_getattribute_2 _ _) (Zdx hh hx hq))
theorem Zf1{tk:Tok}{Q:aa->ag->Prop}(hh:A.handled=none)(hx:h.get? a=some { cls:=.type "list",dict:=none,data:=.seq its n,slots:=sl }) (hq:∀(x:Addr)(h':Heap)(tk:Nat),(∀b u,h.get? b=some u->h'.get? b=some u)->(∃ob,h'.get? x=some ob/\ob.cls=.type "AttributeError")->h.objs.size<=h'.objs.size->E (.ref x) ⟨h',g,d,tk,os⟩) :
  wpAny (model prog w) A (getAttrBy (.ref a) (.str "keys" tk) false) Q E ⟨h,g,d,t,os⟩:=by
 have hT:(⟨h,g,d,t,os⟩:ag).TypeIs (.ref a) "list" := ⟨_,hx,rfl⟩;have f2:=Fq.lookup;have f3:=Fq.bind (.ref a);have f4:=ZdS
 repeat (any_goals (first|assumption|wp_step))
 refine Zd5 hh hx λx h' tI k1 k2 k3=>?_;obtain⟨ob,e2,c2⟩:=k2;dsimp only;unfold getattributeRaised;refine af (pd (T := "AttributeError") (b:=true) ⟨ob,e2,c2⟩ Ha ?_);rw[ao rfl];unfold hookBehind;rw[ai (by decide)];refine af (tf f4 ?_);unfold hookOrError attributeErrorLeaves;dsimp only;rw[if_pos (by decide)];exact af (Gu (hq x h' tI k1 ⟨ob,e2,c2⟩ k3))
theorem N8{Q:Option aa->ag->Prop}(hh:A.handled=none)(hx:h.get? a=some { cls:=.type "list",dict:=none,data:=.seq its n,slots:=sl }) (hq:∀(h':Heap)(tk:Nat),(∀b u,h.get? b=some u->h'.get? b=some u)->h.objs.size<=h'.objs.size->Q none ⟨h',g,d,tk,os⟩) :
  wpAny (model prog w) A (getAttr? (.ref a) "keys") Q E ⟨h,g,d,t,os⟩:=by
 unfold getAttr? getAttrBy?
 repeat (any_goals (first|assumption|with_reducible apply Zf1 hh hx|wp_step))
 intro x h' tI k1 k2 k3;obtain⟨ob,e2,c2⟩:=k2;dsimp only;refine af (pd (T := "AttributeError") (b:=true) ⟨ob,e2,c2⟩ Ha ?_);rw[ao rfl];exact ah (hq h' tI k1 k3)
theorem Z7:entryFor table "dict.update.loop" = some cF.«dict.update.loop» := X6 (by kernel_rfl)
theorem Zw:plainId "dict.update.loop" = true:=by decide +kernel
section
variable{prog:aq}{w:ap}{K:Type}[DecidableEq K]{knd:KeyKind prog w K}{A:aC}{E:aa->ag->Prop}{R:nh->ag->Prop}
def IF(knd:KeyKind prog w K)(h:Heap)(v:aa)(k:K)(u:aa):Prop := ∃b o n uk,v=.ref b/\h.get? b=some o/\o.cls=.type "tuple" /\ o.data=.seq #[uk,u] n/\knd.is k uk=true
def QC(knd:KeyKind prog w K)(h0:Heap)(d:Addr)(items:Array aa)(ps:List (K×aa)):Prop:=items.size=ps.length/\∀(i:Nat) v p,items[i]?= some v->ps[i]?= some p->∀h:Heap,(∀b o,b<d->h0.get? b=some o->h.get? b=some o)->IF knd h v p.1 p.2
theorem pair_items{s:ag}{v:aa}{k:K}{u:aa}{Q:List aa->ag->Prop}(hp:IF knd s.heap v k u)(q:∀uk,knd.is k uk=true->Q [uk,u] s):wpAny (model prog w) A (Fl v) Q E s:=by
 obtain⟨b,o,n,uk,rfl,ho,hc,hd,hk⟩:=hp;unfold Fl;refine af (tw (T := "tuple") ⟨o,ho,hc⟩ ?_);rw[ao (by decide)];refine af (qL ho hd (ah (q uk hk)))
variable{l:Addr}{items:Array aa}
theorem ZiE{h0:Heap}{D I:Addr}{ps:List (K×aa)}(hh:A.in1.handled=none)(ht:QC knd h0 D items ps)(j5:D<I)(Aw:l≠I)(hn:items.size<=100000):∀(k i:Nat)(j:Int)(jt:Tok)(s:ag),items.size-i=k->i<=items.size->(s.heap.IsListIter I l i/\s.heap.IsList l items)->l<D->s.heap.DictOf knd D (merged [] (ps.take i))->(∀b o,b<D->h0.get? b=some o->s.heap.get? b=some o) ->
   (∀h' tk,h'.DictOf knd D (merged [] ps)->(∀b o,b<D->h0.get? b=some o->h'.get? b=some o)->R (.ok (.ret .none)) { s with heap:=h',toks:=tk })->codeAny (model prog w) A (.builtin "dict.update.loop" ⟨[.ref D,.ref I,.int j jt,.none],[]⟩) R s:=by
 have W:=BQ (prog:=prog) (w:=w) (A:=A.in1) hh I l Aw items;have DK:∀{h h':Heap}{ae:List (K×aa)},h.DictOf knd D ae->(∀b o,b<=D->h.get? b=some o->h'.get? b=some o)->h'.DictOf knd D ae:=λ{h h' ae} ⟨o,es,ep,ho,r⟩ hk=>⟨o,es,ep,hk D o (aD _) ho,r⟩;intro k
 induction k with
 | zero =>
  intro i j jt s hk hi cC jC hd hb hR;obtain rfl:i=items.size:=by lia
  refine g9 Z7 ?_;rw[kB Zw _];change wpAny _ A.in1 (pyNext (.ref I) >>= _) _ _ s;refine af (W.done s _ _ cC λh' tk hm=>?_);change wpAny _ A.in1 (Fj D [] >>= λ_=>ret bq) _ _ _;refine af ?_;unfold Fj;refine ah (ah ?_);rw[ht.1,d_] at hd;exact hR h' tk (DK hd λb o aG e=>hm b o (λz=>cW _ (qG (aI.mp z ▸ aG) j5)) e) λb o aG e=>hm b o (λz=>cW _ (jj (aI.mp z ▸ aG) j5)) (hb b o aG e)
 | succ k ih =>
  intro i j jt s hk hi cC jC hd hb hR;have aA:i<items.size:=by lia
  refine g9 Z7 ?_;rw[kB Zw _];change wpAny _ A.in1 (pyNext (.ref I) >>= _) _ _ s;refine af (W.item i s _ _ aA cC λv h' tk hP yI hm=>?_);have cx:h'.DictOf knd D (merged [] (ps.take i)):=DK hd λb o aG e=>hm b o (λz=>cW _ (qG (aI.mp z ▸ aG) j5)) e;have c9:∀b o,b<D->h0.get? b=some o->h'.get? b=some o:=λb o aG e=>hm b o (λz=>cW _ (jj (aI.mp z ▸ aG) j5)) (hb b o aG e);have aM:i<ps.length:=by have:=ht.1;lia
  have hp:=ht.2 i v ps[i] hP (cG aM) h' c9;refine af (cP (af (tj (pair_items (s:={ s with heap:=h',toks:=tk }) hp λuk K1=>?_))));dsimp only;have lF:(merged [] (ps.take i)).length<=sizeLine:=by
   have:=merged_length_le ([]:List (K×aa)) (ps.take i);rw[gX] at this;have h0l:([]:List (K×aa)).length=0:=rfl;have:=ht.1;rw[bu];lia
  refine cP (wpAny_dictSet_pairs (s:={ s with heap:=h',toks:=tk }) (hsz:=lF) K1 cx λh2 hd2 sb=>?_);have rR:∀b o,b≠D->h'.get? b=some o->h2.get? b=some o:=λb o hb e=>(sb.2 b hb).trans e;refine ah ⟨jq Zw _,ih (i+1) (j+1) 0 _ (by lia) aA ?_ jC ?_ (λb o aG e=>rR b o (bo aG) (c9 b o aG e)) λh3 mU AQ rM=>hR h3 mU AQ rM⟩
  .refine W.frame _ h' h2 yI λb hb o e=>rR b o (λz=>?_) e;simp only[a8,oV,o8] at hb;rcases hb with rfl|rfl
   .exact cW _ (z ▸ j5)
   .exact cW _ (z ▸ jC)
  .rw[merged_take_succ [] ps i ps[i] (cG aM)];exact hd2
theorem ZdZ{s:ag}{n:Nat}{sl:Array (Option aa)}{ps:List (K×aa)}{Q:aa->ag->Prop}(hh:A.handled=none)(hl:s.heap.get? l=some { cls:=.type "list",dict:=none,data:=.seq items n,slots:=sl }) (ht:QC knd s.heap s.heap.objs.size items ps) (hn:items.size<=100000)
  (q:∀(h':Heap)(tk:Nat),h'.DictOf knd s.heap.objs.size (merged [] ps)->(∀b o,s.heap.get? b=some o->h'.get? b=some o)->Q (.ref s.heap.objs.size) { s with heap:=h',toks:=tk }) :
  wpAny (model prog w) A (call (.type "dict") [.ref l]) Q E s:=by
 refine XZ (Q₁ := λobj aZ=>obj=.ref s.heap.objs.size/\aZ = { s with heap:=s.heap.push { cls:=.type "dict",data:=.dict #[] } }) Wg (Wh _) Wc (Ye _ ⟨rfl,rfl⟩) ?_;rintro obj aZ ⟨rfl,rfl⟩;have lG:(s.heap.push { cls:=.type "dict",data:=.dict #[] }).DictOf knd s.heap.objs.size []:=Wk s.heap;have cN:(s.heap.push { cls:=.type "dict",data:=.dict #[] }).get? l=some { cls:=.type "list",dict:=none,data:=.seq items n,slots:=sl }:=aH _ hl;have jC:l<s.heap.objs.size:=aP hl;have k0:∀b o,b<s.heap.objs.size->s.heap.get? b=some o->(s.heap.push { cls:=.type "dict",data:=.dict #[] }).get? b=some o:=λb o _ e=>aH _ e;have z0:(s.heap.push { cls:=.type "dict",data:=.dict #[] }).objs.size=s.heap.objs.size+1:=iJ ..;refine⟨lG.typeIs,Wa _ _,?_⟩;generalize s.heap.push { cls:=.type "dict",data:=.dict #[] }=h1 at lG cN k0 z0;unfold cF.«dict.__init__»;refine af ?_;unfold VX;refine af (B4 lG.typeIs ?_);show wpAny _ _ (pure (s.heap.objs.size,[ar l])) _ _ _;refine ah ?_;show wpAny _ _ (Fm "dict.__init__" s.heap.objs.size (.ref l) [] .none) _ _ _;unfold Fm;refine af (tw (T := "list") ⟨_,cN,rfl⟩ ?_);rw[ao (by decide)];refine af (N8 hh cN λh2 Vu k2 z2=>?_);rw[ao (show(none:Option aa).isNone=true from rfl)];refine af (kK ?_);have iD:=k2 _ _ cN;have pU:h2.IsList l items:=⟨_,iD,rfl,n,rfl⟩;refine af (vQ pU ?_);have hd2:h2.DictOf knd s.heap.objs.size []:=let ⟨o,es,ep,ho,r⟩:=lG;⟨o,es,ep,k2 _ _ ho,r⟩;have J9:(h2.push { cls:=.type "list_iterator",data:=.fields #[.ref l,.int 0 0] }).DictOf knd s.heap.objs.size []:=hd2.push _;have hsz:s.heap.objs.size<h2.objs.size:=by lia
 refine ah ⟨jq Zw _,?_⟩;refine ZiE (knd:=knd) (h0:=s.heap) (by simpa using hh) ht hsz (bo (jj jC hsz)) hn (items.size-0) 0 0 0 _ rfl (bG _) ⟨⟨_,bS _ rfl,rfl,rfl⟩,pU.push _⟩ jC J9 (λb o hb e=>aH _ (k2 _ _ (k0 b o hb e))) λh' tk cx aG=>?_;exact⟨rfl,q h' tk cx λb o e=>aG b o (aP e) e⟩
end
end ax
namespace L2
open PySem PySem.Spec PyProof.Rows PySem.W
def putAll(ae:List (Key×V)):List (Key×V):=ae.foldl (λm kv=>putK m kv.1 kv.2) []
theorem Oe:∀(ae m:List (Key×V)),(ae.foldl (λm kv=>putK m kv.1 kv.2) m).length<=m.length+ae.length
 | [],m=>aD _
 | kv::ae,m=>by
  have h1:=Oe ae (putK m kv.1 kv.2);have h2:=wj m kv.1 kv.2;rw[bB,yh];lia
theorem Ziy(ae:List (Key×V)):(putAll ae).length<=ae.length:=by
 have:=Oe ae [];rw[vz,sQ] at this;exact this
theorem RF:∀{ae:List (Key×V)}{ps:List (Key×aa)}{m:List (Key×V)}{m':List (Key×aa)},KV ae ps->KV m m'->KV (ae.foldl (λm kv=>putK m kv.1 kv.2) m) (merged m' ps)
 | _,_,_,_,.nil,h=>h
 | _,_,m,m',.cons (a:=kv) (b:=p) r t,h=>by
  have e:p.1=kv.1:=r.1.symm;have h1:=h.put kv.1 r.2;have h2:=RF t h1;show KV (WC _ (putK m kv.1 kv.2) _) (merged (stored m' p.1 p.2) _);rw[e];exact h2
variable{X:Cx}
theorem N7(hc:X.calm=true):gH X (.type "dict") (λxs H Q=>∃l ys ae,xs=[.ref l]/\au X.K H l ys/\ys.length<=90000/\ck (λ(y:V)(kv:Key×V)=>∃t,y=.ref t/\H t=some (.tup [kV kv.1,kv.2])) ys ae/\∀d,H d=none->Q (.ref d) (upd H d (.dK (putAll ae)))):=by
 intro ac s σ H xs us Q I r h;obtain⟨l,ys,ae,rfl,hq,hlen,hp,q⟩:=h;obtain⟨u,rfl,ru⟩:=vals1 r;cases ru;obtain⟨its,rv,⟨o,n,ho,A5,A7,A6⟩,hz⟩:=I.list hq;have hl:=rv.length;obtain⟨U3,LG,U4,LJ⟩:=o;simp only at A5 A7 A6;subst A5 A7 A6;have key:∀{ys:List V}{ae:List (Key×V)}{its:List aa},ck (λ(y:V)(kv:Key×V)=>∃t,y=.ref t/\H t=some (.tup [kV kv.1,kv.2])) ys ae->Vals ys its->∃ps:List (Key×aa),KV ae ps/\its.length=ps.length/\∀(i:Nat) v p,its[i]?= some v->ps[i]?= some p->ax.IF (ZK X.prog X.w) s.heap v p.1 p.2:=by
  intro ys ae its hp
  induction hp generalizing its with
  | nil =>
   intro rv;cases rv;exact⟨[],.nil,rfl,λi v p h=>(nomatch h)⟩
  | @cons y kv ys ae r t ih =>
   intro rv;cases rv with
   | @cons _ v _ its ry rr =>
    obtain⟨ps,h1,h2,h3⟩:=ih rr;obtain⟨ta,rfl,ht⟩:=r;obtain rfl:v=ar ta:=ry;obtain⟨_,us,fK,o,ho,dD,n,hd⟩:=I.aj ta _ ht;obtain⟨u1,u2,rfl,r1,r2⟩:=Vals.two fK;refine⟨(kv.1,u2)::ps,.cons ⟨rfl,r2⟩ h1,by rw[bB,bB,h2],λi v p e1 e2=>?_⟩;cases i with
    | zero =>
     injection e1 with e1;injection e2 with e2;subst e1 e2;exact⟨ta,o,n,u1,rfl,ho,dD,hd,uj r1⟩
    | succ i=>exact h3 i v p e1 e2
 obtain⟨ps,h1,h2,h3⟩:=key hp rv;refine ax.ZdZ (knd:=ZK X.prog X.w) (ps:=ps) (I.ok.hd hc) ho ⟨by rw[cO];exact h2,λi v p e1 e2 h' hk=>?_⟩ (by rw[cO];lia) λh' tk cx hk=>?_
 .obtain⟨b,o,n,uk,e,cB,r⟩:=h3 i v p (by rw[<- e1];simp) e2;exact⟨b,o,n,uk,e,hk b o (aP cB) cB,r⟩
 .have Au:ae.length=ps.length:=h1.length;have aM:=Ziy ae;exact⟨.ref _,_,I.laid (t':=tk) (λb o e=>hk b o e) (aD _) (show ZX X.prog X.w _ h' _ (.dK (putAll ae)) from⟨by rw[bu];lia,nj.mpr (fB (bo I.big)),_,RF h1 .nil,cx⟩),rfl,q _ (I.aj.fresh (aD _))⟩
theorem ZiX{zs:List V}{ns:List Int}(h:zs.Perm (ns.map V.int)):∃ms:List Int,zs=ms.map V.int/\ms.Perm ns:=by
 obtain⟨ms,rfl,_⟩:=P_ zs λz hz=>h.mem_iff.mp hz;refine⟨ms,rfl,?_⟩;have h2:=h.filterMap (λv=>match v with|V.int i=>some i|_=>none)
 simpa[List.filterMap_map,Function.comp_def] using h2
theorem Zkc:∀{vs:List V}{us:List aa},Vals vs us->∀v∈vs,∃u∈us,RelV v u:=λh u hu=>ck.Lw h hu
theorem rising:∀{ms:List Int}{us:List aa},Vals (ms.map V.int) us->us.Pairwise (λu v=>ax.Lh v u=false)->ms.Pairwise (· <= ·)
 | [],_,_,_=>.nil
 | m::ms,us,r,h=>by
  cases r with
  | cons r rr =>
   obtain⟨t,rfl⟩:=r;obtain⟨h1,h2⟩:=vD.mp h;refine vD.mpr ⟨λm' hm=>?_,rising rr h2⟩;obtain⟨u,hu,ru⟩:=Zkc rr (V.int m') (aX.mpr ⟨m',hm,rfl⟩);obtain⟨t',rfl⟩:=ru;have:=o7 (h1 _ hu);have h3 : ¬ m'<m:=this;lia
theorem Vn{ms:List Int}(h:ms.Pairwise (· <= ·))(hn:ms.Nodup):ms.Pairwise (· < ·):=by
 refine mY.mpr λi j hi hj i8=>?_;have h1:=(mY.mp h) i j hi hj i8;have h2:=(mY.mp hn) i j hi hj i8;lia
theorem Zj5{P:aq}{w:ap}{ae:List (Key×V)}{ps:List (Key×aa)}(h:KV ae ps):∀{es:List lO}{ns:List Int},PySem.Pairs (ZK P w) es ps->ae.map (·.1)=ns.map aN->Vals (ns.map V.int) (es.map (·.key)):=by
 have h':ck (λ(p:Key×V)(q:Key×aa)=>p.1=q.1/\RelV p.2 q.2) ae ps:=h;clear h
 induction h' with
 | nil =>
  intro es ns h2 e;cases h2;cases ns with
  | nil=>exact .nil
  | cons n ns=>cases e
 | cons r t ih =>
  intro es ns h2 e;cases h2 with
  | cons h1 h2 h3 =>
   cases ns with
   | nil=>cases e
   | cons n ns =>
    rw[b8,b8] at e;obtain⟨e1,e2⟩:=Wx e;refine .cons ?_ (ih h3 e2);rw[<- r.1,e1] at h1;have pq:uq (aN n) _=true:=h1;rcases Z9 pq with⟨i,t,he,hk⟩|⟨x,t,he,hk⟩
    .cases he;exact⟨t,hk⟩
    .cases he
theorem QQ:∀{ae:List (Key×V)}{vs:List (Key×aa)},KV ae vs->ae.map (·.1)=vs.map (·.1)
 | _,_,.nil=>rfl
 | _,_,.cons r t=>by rw[b8,b8,r.1,QQ t]
theorem ZdD(hc:X.calm=true):gH X (.builtin "sorted") (λxs H Q=>∃(d:Addr)(ae:List (Key×V))(ns:List Int),xs=[.ref d]/\H d=some (.dK ae)/\ae.length<=63/\ae.map (·.1)=ns.map aN/\∀(p:Addr)(ms:List Int),H p=none->ms.Perm ns->ms.Pairwise (· < ·)->Q (.ref p) (upd H p (.lst (ms.map V.int)))):=by
 intro ac s σ H xs us Q I r h;obtain⟨d,ae,ns,rfl,hd,hlen,fu,q⟩:=h;obtain⟨u,rfl,rx⟩:=vals1 r;obtain rfl:u=.ref d:=rx;obtain⟨hl,lo,vs,kv,o,es,ep,ho,hx,cT,hko,mJ,i9⟩:=IS I.aj hd;have Up:=Zj5 kv mJ fu;have Au:ae.length=vs.length:=kv.length;have Ky:ae.length=ns.length:=by have:=congrArg oU fu;simpa using this
 have i7:es.size=ns.length:=by
  have:=Up.length
  simpa using this.symm
 have Zy4:ns.Nodup:=by
  rw[<- QQ kv,fu] at i9;exact(iK.mp i9).imp λh e=>h (by rw[e])
 refine ax.Cw (C:=λys=>Vals (ns.map V.int) ys) ax.QW (λQ' E' hq=>?_) (λys h6 tk d6 hC k6 h2=>ax.Oa (λv hv=>?_) h2) λp ys out h' tk d6 c hC eM jc kp e3 hle KC=>?_
 .refine ax.OD (QI lo) (I.ok.hd hc) (⟨o,ho,hx,cT⟩:gJ s.heap d es ep) (by rw[bu];lia) λacc h' tk kp hit hle=>?_;have i5:acc.toList=es.toList.map (·.key):=by
   refine Fw λj=>?_;rw[fz,bM,fz];cases hj:acc[j]? with
   | none =>
    have h3:acc.size<=j:=Mc.mp hj;rw[hit.1] at h3;rw[xY h3];rfl
   | some v =>
    obtain⟨e,h1,rfl⟩:=hit.2 j v hj;rw[h1];rfl
  rw[i5];exact hq _ h' tk s.drawn kp Up (by rw[aF,aW];lia) hle
 .obtain⟨y,hy,ry⟩:=CF hC v hv;obtain⟨i,_,rfl⟩:=aX.mp hy;obtain⟨t,rfl⟩:=ry;exact⟨i,t,rfl⟩
 .obtain⟨zs,pz,rz⟩:=Zj2 eM hC;obtain⟨ms,rfl,pm⟩:=ZiX pz;have iE:=rz.length;have I2:=I.laid (h':=h') (t':=tk) (a:=p) (o:=.lst (ms.map V.int)) (λb o e=>kp b o e) hle (show ZX X.prog X.w _ h' _ (.lst (ms.map V.int)) from⟨by rw[iE,aW,bu];lia,out.toList,c,rz,e3⟩);exact⟨.ref p,_,I2.draws (d:=d6),rfl,q p ms (I.aj.fresh hle) pm (Vn (rising rz jc) ((pm.nodup_iff).mpr Zy4))⟩
end L2
namespace we
open PySem l5
def tm(m:Nat):bc:={ mask:=m,place :=#[],dummies :=#[],finger:=0,led:=true,moves:=0,plain:=true }
variable{t t':bc}
theorem ZkC(e:t.mask=t'.mask)(p:dO):t.advance p=t'.advance p:=by
 unfold sZ;rw[e]
theorem PB{t t':bc}(e:t.mask=t'.mask):∀(n:Nat)(p:dO),bI t n p=bI t' n p
 | 0,_=>rfl
 | n+1,p=>by
  show bI t n (t.advance p)=bI t' n (t'.advance p);rw[ZkC e,PB e n]
theorem ZhW(e:t.mask=t'.mask)(h:Int):t.probeStart h=t'.probeStart h:=by
 unfold bc.probeStart;rw[e]
def jn(m:Nat)(h:Int)(n:Nat):Nat:=(bI (tm m) n ((tm m).probeStart h)).j
theorem ZoW(t:bc)(h:Int)(n:Nat):(bI t n (t.probeStart h)).j=jn t.mask h n:=by
 unfold jn;rw[ZhW (t:=t) (t':=tm t.mask) rfl,PB (t:=t) (t':=tm t.mask) rfl]
variable{m i:Nat}
theorem Pz(h:i<=m):jm m i<=m:=by
 unfold jm
 split <;> lia
theorem IG(m i:Nat):i<=jm m i:=by
 unfold jm
 split <;> lia
theorem ZnG{p:dO}(h:p.j+p.more<=m):((tm m).advance p).j+((tm m).advance p).more<=m:=by
 unfold sZ
 split
 .show p.j+1+(p.more-1)<=m;lia
 .have h1:(p.i*5+1+p.perturb / 32) % (m+1)<=m:=BG (yo _ (vG m));have h2:=Pz h1;have h3:=IG m ((p.i*5+1+p.perturb / 32) % (m+1));show(p.i*5+1+p.perturb / 32) % (m+1)+(jm m ((p.i*5+1+p.perturb / 32) % (m+1))-(p.i*5+1+p.perturb / 32) % (m+1))<=m;lia
theorem Q_{m:Nat}:∀(n:Nat){p:dO},p.j+p.more<=m->(bI (tm m) n p).j+(bI (tm m) n p).more<=m
 | 0,_,h=>h
 | n+1,p,h=>Q_ n (ZnG h)
theorem ZlK(m:Nat)(h:Int):((tm m).probeStart h).j+((tm m).probeStart h).more<=m:=by
 have h1:fM h % (m+1)<=m:=BG (yo _ (vG m));have h2:=Pz h1;have h3:=IG m (fM h % (m+1));show fM h % (m+1)+(jm m (fM h % (m+1))-fM h % (m+1))<=m;lia
theorem ZoU(m:Nat)(h:Int)(n:Nat):jn m h n<=m:=by
 have:=Q_ n (ZlK m h);unfold jn;lia
def Way(m:Nat)(U:Nat->Prop)(h:Int)(j:Nat):Prop := ∃n,jn m h n=j/\∀k,k<n->U (jn m h k)
variable{j:Nat}
theorem Way.mono{U U':Nat->Prop}{h:Int}(w:Way m U h j)(hu:∀y,y<=m->U y->U' y):Way m U' h j:=by
 obtain⟨n,e,hk⟩:=w;exact⟨n,e,λk fu=>hu _ (ZoU _ _ _) (hk k fu)⟩
theorem Dw(t:bc):∀(k:Nat)(p:dO),k<=p.more->(bI t k p).j=p.j+k
 | 0,_,_=>rfl
 | k+1,p,h=>by
  show(bI t k (t.advance p)).j=p.j+(k+1);have e:t.advance p= { p with j:=p.j+1,more:=p.more-1 }:=by
   unfold sZ;rw[ao (by lia)]
  rw[e,Dw t k _ (show k<=p.more-1 by lia)];show p.j+1+k=_;lia
theorem Qe{m:Nat}{owner:Array (Option Nat)}:∀(cK:Nat)(p:dO)(j:Nat),oX m owner cK p.i p.perturb=some j->p.j=p.i->p.more=jm m p.i-p.i ->
  ∃n,(bI (tm m) n p).j=j/\∀k,k<n->owner.getD (bI (tm m) k p).j (some 0)≠none
 | 0,p,j,h,_,_=>by
  unfold oX at h;cases h
 | cK+1,p,j,h,hj,hm=>by
  unfold oX at h;have uK:=IG m p.i;cases hf:(fL (jm m p.i+1-p.i)).find? λk=>(owner.getD (p.i+k) (some 0)).isNone with
  | some k' =>
   rw[hf] at h;have e:p.i+k'=j:=dg h;obtain⟨h1,h2,h3⟩:=List.find?_range_eq_some.mp hf;have kP:k'<=p.more:=by
    have:=ik.mp h2;lia
   refine⟨k',by rw[Dw _ _ _ kP,hj];exact e,λk hk hn=>?_⟩;rw[Dw _ _ _ (by lia),hj] at hn;have h4:=h3 k hk;rw[hn] at h4;cases h4
  | none =>
   rw[hf] at h;have h':oX m owner cK (lp (tm m) p).i (lp (tm m) p).perturb=some j:=h;obtain⟨n',e,hk⟩:=Qe cK (lp (tm m) p) j h' rfl rfl;have Tg:=IC (tm m) p.more p rfl;refine⟨p.more+1+n',by rw[ua,Tg];exact e,λk fu=>?_⟩;by_cases aA:k<=p.more
   .rw[Dw _ _ _ aA,hj];have:=WB.mp hf k (ik.mpr (by lia));intro hn;rw[hn] at this;exact this rfl
   .have e2:k=p.more+1+(k-(p.more+1)):=by lia
    rw[e2,ua,Tg];exact hk _ (by lia)
def WO(m:Nat)(all:List Int)(owner:Array (Option Nat)):Prop := ∀j k,owner.getD j none=some k->∃x,all[k]?= some x/\Way m (λy=>owner.getD y (some 0)≠none) x j
variable{owner:Array (Option Nat)}
theorem Ql{y:Nat}{v d:Option Nat}(hy:y≠j):(owner.setIfInBounds j v).getD y d=owner.getD y d:=by
 simp only[gU,Me]
 split
 .rename_i AU
  exact VM (by simpa using AU) (fB hy)
 .rfl
theorem PM{m:Nat}(hg:Good m)(all:List Int):∀(hs pre:List Int)(owner:Array (Option Nat)),all=pre++hs->Own m owner pre.length->WO m all owner->pre.length+hs.length<=m ->
  ∃ny,hs.foldl (λ(acc:Option (Array (Option Nat)×Nat)) h=>do
   let (owner,k) <- acc
   let j <- oX m owner (iM m) (fM h % (m+1)) (fM h)
   pure (owner.setIfInBounds j (some k),k+1)) (some (owner,pre.length))=some (ny,pre.length+hs.length)/\Own m ny (pre.length+hs.length)/\WO m all ny
 | [],pre,owner,_,h,hw,_=>⟨owner,rfl,h,hw⟩
 | x::hs,pre,owner,ha,h,hw,hl=>by
  rw[bB] at hl;obtain⟨j,hj,ho⟩:=Qn h (by lia);have hb:fM x<2 ^ 64:=(tZ (XH 0 0 true) x).2.1;obtain⟨n,hn,e⟩:=Ph (t:=tm m) (p:={ j:=0,more:=0,i:=fM x % (m+1),perturb:=fM x,dummy:=none }) hg hb hj;obtain⟨j',hf,b9⟩:=Hw ho n (iM m) _ (by unfold iM;have:n<=13+m:=hn;lia) e;have B_:oX m owner (iM m) (fM x % (m+1)) (fM x)=some j':=hf;obtain⟨nw,ew,TL⟩:=Qe (m:=m) (owner:=owner) (iM m) ((tm m).probeStart x) j' B_ rfl rfl;have Ce:j'<owner.size:=by
   apply Bn;intro hn;rw[gU,dif_neg hn] at b9;cases b9
  have grow:∀y,owner.getD y (some 0)≠none->(owner.setIfInBounds j' (some pre.length)).getD y (some 0)≠none:=λy hy=>by
   by_cases ey:y=j'
   .rw[ey] at hy;exact absurd b9 hy
   .rw[Ql ey];exact hy
  have lT:WO m all (owner.setIfInBounds j' (some pre.length)):=λy k ED=>by
   by_cases ey:y=j'
   .subst ey;have hk:k=pre.length:=by
     have:(owner.setIfInBounds y (some pre.length)).getD y none=some pre.length:=by simp[gU,Ce]
     rw[this] at ED;exact(dg ED).symm
    subst hk;refine⟨x,by rw[ha];simp,nw,ew,λk hk=>grow _ (TL k hk)⟩
   .rw[Ql ey] at ED;obtain⟨z,e1,e2⟩:=hw y k ED;exact⟨z,e1,e2.mono λy _ hy=>grow y hy⟩
  have hlen:(pre ++ [x]).length=pre.length+1:=by rw[cw,sO]
  obtain⟨ny,h1,h2,h3⟩:=PM hg all hs (pre ++ [x]) _ (by rw[ha];simp) (by rw[hlen];exact QJ h b9) lT (by rw[hlen];lia);rw[hlen] at h1 h2;refine⟨ny,?_,by rw[bB,show pre.length+(hs.length+1)=pre.length+1+hs.length by lia];exact h2,h3⟩;rw[yh];simp only[W6,yp,B_,W_];rw[bB,show pre.length+(hs.length+1)=pre.length+1+hs.length by lia];exact h1
theorem P9{k:Nat}:(j,k)∈dW m owner↔j<=m/\owner.getD j none=some k:=by
 unfold dW;rw[MI];constructor
 .rintro⟨y,hy,e⟩;cases ho:owner.getD y none with
  | none=>rw[ho] at e;cases e
  | some v =>
   rw[ho] at e;have e':(y,v)=(j,k):=dg e;cases e';exact⟨BG (ik.mp hy),ho⟩
 .rintro⟨hj,ho⟩;exact⟨j,ik.mpr (Nat.lt_succ_of_le hj),by rw[ho];rfl⟩
theorem ZkP(hg:Good m)(fi mo:Nat)(led plain:Bool)(hs:Array Int)(hl:hs.size<=m){t:bc}{order:Array Nat}(e:Ga m fi mo led plain hs=some (t,order)) :
  ∀(i j k:Nat),t.place[i]?= some j->order[i]?= some k->∃x,hs[k]?= some x/\Way m (· ∈ t.place.toList) x j:=by
 have h0:Own m (sE (m+1) none) 0:=by
  refine⟨VP,?_⟩;have:dW m (sE (m+1) none)=[]:=by
   unfold dW;rw[WA];intro j hj;have:(sE (m+1) (none:Option Nat)).getD j none=none:=by
    simp[gU]
   rw[this];rfl
  rw[this];exact oO _
 have hw0:WO m hs.toList (sE (m+1) none):=λj k TF=>by
  have:(sE (m+1) (none:Option Nat)).getD j none=none:=by simp[gU]
  rw[this] at TF;cases TF
 obtain⟨owner,h1,h2,h3⟩:=PM hg hs.toList hs.toList [] _ rfl h0 hw0 (by show 0+hs.toList.length<=m;rw[aW];lia);have hc:Gb m hs=some owner:=by
  unfold Gb;rw[<- VJ];have:=congrArg (W9 (·.1)) h1;exact this
 have e2:t= { mask:=m,place:=((dW m owner).map (·.1)).toArray,dummies :=#[],finger:=fi,led:=led,moves:=mo,plain:=plain }/\order=((dW m owner).map (·.2)).toArray:=by
  unfold Ga at e;rw[hc] at e;have e':=dg e;exact⟨(congrArg FW e').symm,(congrArg MX e').symm⟩
 obtain⟨rfl,rfl⟩:=e2;intro i j k hj hk;have fE:(dW m owner)[i]?.map (·.1)=some j:=by
  rw[<- bM,<- hj];simp
 have kP:(dW m owner)[i]?.map (·.2)=some k:=by
  rw[<- bM,<- hk];simp
 cases hp:(dW m owner)[i]? with
 | none=>rw[hp] at fE;cases fE
 | some pr =>
  rw[hp] at fE kP;have ej:pr.1=j:=dg fE;have ek:pr.2=k:=dg kP;have hm:(j,k)∈dW m owner:=by
   rw[<- ej,<- ek];exact bW hp
  obtain⟨x,e1,w⟩:=h3 j k (P9.mp hm).2;refine⟨x,by rw[<- fz];exact e1,w.mono λy hy hu=>?_⟩;show y∈((dW m owner).map (·.1)).toArray.toList;have hsz:=h2.size;have aA:y<owner.size:=by lia
  cases ho:owner.getD y none with
  | none =>
   exfalso;apply hu;simp only[gU,aA,dif_pos] at ho ⊢;exact ho
  | some v=>exact aX.mpr ⟨(y,v),P9.mpr ⟨hy,ho⟩,rfl⟩
theorem JK{t:bc}(hd:t.dummies=#[])(ha:Nat->Int)(h:Int):∀(n cK:Nat)(p:dO),p.dummy=none->n<cK->t.slot (bI t n p).j=.empty ->
  (∃k,k<=n/\BP t ha h cK p=some (.empty (bI t k p).j none)/\t.slot (bI t k p).j=.empty/\∀m,m<k->∃i,t.slot (bI t m p).j=.live i/\(ha i == h)=false) \/
  ∃k i,k<n/\BP t ha h cK p=some (.candidate (bI t k p).j i (bI t (k+1) p))/\t.slot (bI t k p).j=.live i/\∀m,m<k->∃i,t.slot (bI t m p).j=.live i/\(ha i == h)=false
 | n,0,_,_,hn,_=>absurd hn (lP _)
 | n,cK+1,p,hp,hn,he=>by
  unfold BP;cases hs:t.slot p.j with
  | empty=>exact .inl ⟨0,bG _,by rw[hp];rfl,hs,λm hm=>absurd hm (lP _)⟩
  | dummy =>
   exfalso;unfold yu at hs;dsimp only at hs
   split at hs
   .cases hs
   .rw[hd] at hs;exact XF hs
  | live i =>
   dsimp only;cases n with
   | zero =>
    rw[show(bI t 0 p).j=p.j from rfl,hs] at he;cases he
   | succ n =>
    by_cases hh:(ha i == h)=true
    .rw[ao hh];exact .inr ⟨0,i,vG _,rfl,hs,λm hm=>absurd hm (lP _)⟩
    .rw[ai hh];have Ca:(ha i == h)=false:=by
      cases e:(ha i == h) with
      | true=>exact absurd e hh
      | false=>rfl
     have uJ:(t.advance p).dummy=none:=by
      unfold sZ
      split
      .exact hp
      .exact hp
     have ext:∀k,(∀m,m<k->∃i,t.slot (bI t m (t.advance p)).j=.live i/\(ha i == h)=false)->∀m,m<k+1->∃i,t.slot (bI t m p).j=.live i/\(ha i == h)=false:=λk hk m hm=>by
      cases m with
      | zero=>exact⟨i,hs,Ca⟩
      | succ m=>exact hk m (by lia)
     rcases JK hd ha h n cK (t.advance p) uJ (by lia) he with⟨k,hk,e,h1,h2⟩|⟨k,i',hk,e,h1,h2⟩
     .exact .inl ⟨k+1,by lia,e,h1,ext k h2⟩
     .exact .inr ⟨k+1,i',by lia,e,h1,ext k h2⟩
theorem Q0(h:t.slot j=.live i):t.place[i]?= some j:=by
 unfold yu at h;dsimp only at h
 split at h
 .rename_i h2
  cases h;exact eq_of_beq h2
 .split at h <;> cases h
section
variable{prog:aq}{w:ap}{K:Type}[DecidableEq K]{knd:KeyKind prog w K}{A:aC}{E:aa->ag->Prop}{s:ag}
variable{h:Heap}
theorem wy{x y:List K}{b:Addr}(h1:fb knd h x b)(h2:fb knd h y b):x=y:=by
 obtain⟨o,its,n,e1,_,e3,e4⟩:=h1;obtain⟨o',its',n',f1,_,f3,f4⟩:=h2;rw[e1] at f1;cases f1;rw[e3] at f3;cases f3;exact e4.inj f4
def eE(knd:KeyKind prog w K)(h:Heap)(ks:List K)(e:Int×aa):Prop := ∃b,e.2=.ref b/\fb knd h ks b
structure tQ(knd:KeyKind prog w K)(h:Heap)(es:Array (Int×aa))(t:bc):Prop where
 tab:Tab es t
 ent:∀e∈es.toList,∃ks,eE knd h ks e/\e.1=tupleKeyHash knd ks
 way:∀(i:Nat) e j,es[i]?= some e->t.place[i]?= some j->Way t.mask (· ∈ t.place.toList) e.1 j
 one:es.toList.Pairwise λe e'=>∀ks,eE knd h ks e -> ¬ eE knd h ks e'
variable{es:Array (Int×aa)}
theorem tQ.ents{t:bc}(x:tQ knd h es t):zM knd false h es:=λe he=>by
 obtain⟨ks,⟨b,e1,e2⟩,_⟩:=x.ent e he;exact⟨ks,b,e1,e2⟩
theorem tQ.none{t:bc}(x:tQ knd h es t){ks:List K}{N:Nat}(he:t.slot (jn t.mask (tupleKeyHash knd ks) N)=.empty)
  (hp:∀m,m<N->∃i e,t.slot (jn t.mask (tupleKeyHash knd ks) m)=.live i/\es[i]?= some e /\ ¬ eE knd h ks e):∀e∈es.toList,¬ eE knd h ks e:=λe Ee hb=>by
 obtain⟨i0,rP⟩:=fc.mp Ee;rw[fz] at rP;have aA:=(oI.mp rP).1;obtain⟨nv,aG,hh⟩:=x.ent e Ee;have ek:nv=ks:=by
  obtain⟨b,e1,e2⟩:=hb;obtain⟨b',f1,f2⟩:=aG;rw[e1] at f1;cases f1;exact wy f2 e2
 subst ek;have hsz:=x.tab.size;have hj:t.place[i0]?= some t.place[i0]:=iI (by lia);obtain⟨n,en,hn⟩:=x.way i0 e _ rP hj;rw[hh] at en hn;have dY:t.place[i0]∈t.place.toList:=Md (by lia);rcases yn n N with El|gm|Kj
 .obtain⟨i,e',h1,h2,h3⟩:=hp n El;have h4:=Q0 h1;rw[en] at h4;have hi:i=i0:=by
   have l1:=(oI.mp h4).1;have e5:t.place[i]=t.place[i0]:=(oI.mp h4).2;rcases yn i i0 with z|z|z
   .have:=wz x.tab.mQ z (by lia);lia
   .exact z
   .have:=wz x.tab.mQ z l1;lia
  rw[hi,rP] at h2;cases h2;exact h3 hb
 .rw[<- gm,en] at he;exact CY x.tab.mQ he dY
 .exact CY x.tab.mQ he (hn N Kj)
theorem QU{S a:Addr}{o:Obj}{es:Array (Int×aa)}{ep:Nat}{t:bc}{ks:List K}(hu:A.units<cLine)(ho:s.heap.get? S=some o)(hd:o.data=.set es ep t)(Aj:tQ knd s.heap es t)(hk:fb knd s.heap ks a){Q:SetFound->ag->Prop}
  (q0:(∃e∈es.toList,eE knd s.heap ks e)->Q (.there none) s) (q1:∀j,t.slot j=.empty->(∀e∈es.toList,¬ eE knd s.heap ks e)->Way t.mask (· ∈ t.place.toList) (tupleKeyHash knd ks) j->Q (.free j false) s) :
  ∀(cK n c:Nat)(sv:Option dO),sv.getD (t.probeStart (tupleKeyHash knd ks))=bI t c (t.probeStart (tupleKeyHash knd ks))->(∀m,m<c->∃i e,t.slot (jn t.mask (tupleKeyHash knd ks) m)=.live i/\es[i]?= some e /\ ¬ eE knd s.heap ks e) ->
   t.slot (bI t n (sv.getD (t.probeStart (tupleKeyHash knd ks)))).j=.empty->n<10*iM t.mask->n<cK ->
  wpAny (model prog w) A (setSearchFrom S (.ref a) (tupleKeyHash knd ks) true cK sv) Q E s
 | 0,n,_,_,_,_,_,_,hn=>absurd hn (lP _)
 | cK+1,n,c,sv,Ey,Ub,he,En,hn=>by
  have hT:=Aj.tab;have hE:=Aj.ents;have uJ:(sv.getD (t.probeStart (tupleKeyHash knd ks))).dummy=none:=by rw[Ey];exact OA t c _ (tZ t _).2.2
  unfold setSearchFrom;refine af (kM ho hd hT.fits ?_);dsimp only;have Kk:t.gaveWay=false:=by
   unfold bc.gaveWay;rw[ZkO hT.good];rfl
  rw[Kk,ai (by decide)];have pV:∀m,(bI t m (sv.getD (t.probeStart (tupleKeyHash knd ks)))).j=jn t.mask (tupleKeyHash knd ks) (c+m):=λm=>by rw[Ey,<- ua,ZoW]
  have UN:∀{j i},t.slot j=.live i->∃e,es[i]?= some e:=λ{j i} hl=>⟨_,iI (by have:=Q5 hl;rw[hT.size] at this;exact this)⟩;have aY:∀{i:Nat}{e:Int×aa},es[i]?= some e->(((es[i]?.map (·.1)).getD 0 == tupleKeyHash knd ks)=false) -> ¬ eE knd s.heap ks e:=λ{i e} rQ hh hb=>by
   rw[rQ] at hh;obtain⟨nv,aG,e2⟩:=Aj.ent e (by rw[<- fz] at rQ;exact bW rQ);have ek:nv=ks:=by
    obtain⟨b,f1,f2⟩:=hb;obtain⟨b',g1,g2⟩:=aG;rw[f1] at g1;cases g1;exact wy g2 f2
   rw[ek] at e2;have Ca:(e.1 == tupleKeyHash knd ks)=false:=hh;rw[e2] at Ca;simp at Ca
  generalize cC:sv.getD (t.probeStart (tupleKeyHash knd ks))=p at uJ he pV Ey
  split
  .rename_i met hm
   unfold Ng at hm;rcases JK hT.none _ (tupleKeyHash knd ks) n _ p uJ En he with⟨k,fu,e,hj,rX⟩|⟨k,i,fu,e,hl,rX⟩
   .rw[e] at hm;cases hm;rw[pV k] at hj;have cu:∀m,m<c+k->∃i e,t.slot (jn t.mask (tupleKeyHash knd ks) m)=.live i/\es[i]?= some e /\ ¬ eE knd s.heap ks e:=λm hm=>by
     by_cases Ku:m<c
     .exact Ub m Ku
     .obtain⟨i,h1,h2⟩:=rX (m-c) (by lia);rw[pV,show c+(m-c)=m by lia] at h1;obtain⟨e,pZ⟩:=UN h1;exact⟨i,e,h1,pZ,aY pZ h2⟩
    refine ah ?_;rw[pV k];refine q1 _ hj (Aj.none hj cu) ⟨c+k,rfl,λm hm=>?_⟩;obtain⟨i,_,h1,_⟩:=cu m hm;have:=Q0 h1;rw[<- fz] at this;exact bW this
   .rw[e] at hm;cases hm;have hi:=Q5 hl;rw[hT.size] at hi;obtain⟨nv,b,i6,hb⟩:=hE es[i] (Md hi);have TX:es[i]∈es.toList:=Md hi;have i7:es[i]?= some (es[i].1,ar b):=by rw[iI hi,<- i6]
    have KS:t.sameMemory t.moves t.mask=some true:=by
     unfold bc.sameMemory;rw[ao (beq_self_eq_true _)]
    have again:nv≠ks->wpAny (model prog w) A (setSearchFrom S (.ref a) (tupleKeyHash knd ks) true cK (some (bI t (k+1) p))) Q E s:=λZy3=>by
     refine QU hu ho hd Aj hk q0 q1 cK (n-(k+1)) (c+(k+1)) (some (bI t (k+1) p)) (by show bI t (k+1) p=_;rw[Ey,<- ua]) (λm hm=>?_) (by
      show t.slot (bI t (n-(k+1)) (bI t (k+1) p)).j=.empty;rw[<- ua,show k+1+(n-(k+1))=n by lia];exact he) (by lia) (by lia)
     by_cases Ku:m<c
     .exact Ub m Ku
     by_cases hmk:m<c+k
     .obtain⟨i',h1,h2⟩:=rX (m-c) (by lia);rw[pV,show c+(m-c)=m by lia] at h1;obtain⟨e,pZ⟩:=UN h1;exact⟨i',e,h1,pZ,aY pZ h2⟩
     .have em:m=c+k:=by lia
      rw[pV k,<- em] at hl;refine⟨i,es[i],hl,iI hi,λ⟨b',f1,f2⟩=>?_⟩;rw[i6] at f1;cases f1;exact Zy3 (wy hb f2)
    dsimp only;rw[i7];dsimp only;have ZzE:∀v∈(Array.filter (λx=>x.fst == tupleKeyHash knd ks) es).toList.map (λx=>x.snd),∃ks b,v=ar b/\fb knd s.heap ks b:=λv hv=>by
     obtain⟨x,hx,rfl⟩:=aX.mp hv;rw[Array.toList_filter] at hx;exact hE x (fA.mp hx).1
    cases eZ:t.led with
    | false =>
     rw[ao (by decide)];refine af (Zoh hk _ ZzE ?_);rw[ai (by decide)];refine af (cP (Yr hu hb hk (af (kM ho hd hT.fits ?_))));by_cases gm:nv=ks
     .rw[aJ gm,ao (by decide)];exact ah (q0 ⟨es[i],TX,b,i6,gm ▸ hb⟩)
     .rw[bt gm,ai (by decide)];dsimp only;rw[KS];dsimp only;rw[if_pos rfl,hl];dsimp only;rw[i7];dsimp only;refine wpAny_bind (wpAny_isSame_ref_self (wpAny_bind (wpAny_pure ?_)));rw[if_pos rfl];dsimp only;rw[if_neg (by decide)];exact again gm
    | true =>
     rw[ai (by decide)];refine af (cP (Yr hu hb hk (af (kM ho hd hT.fits ?_))));by_cases gm:nv=ks
     .rw[aJ gm,ao (by decide)];exact ah (q0 ⟨es[i],TX,b,i6,gm ▸ hb⟩)
     .rw[bt gm,ai (by decide)];dsimp only;rw[KS];dsimp only;rw[if_pos rfl,hl];dsimp only;rw[i7];dsimp only;refine wpAny_bind (wpAny_isSame_ref_self (wpAny_bind (wpAny_pure ?_)));rw[if_pos rfl];dsimp only;rw[if_neg (by decide)];exact again gm
  .rename_i hm
   exfalso;unfold Ng at hm;rcases JK hT.none _ (tupleKeyHash knd ks) n _ p uJ En he with⟨k,fu,e,hj,rX⟩|⟨k,i,fu,e,hl,rX⟩
   .exact hm _ e
   .exact hm _ e
end
theorem uc{α : Type}(xs:Array α){p:Nat}(hp:p<=xs.size)(x : α)(i:Nat):(eO xs p x)[i]?= if i<p then xs[i]? else if i=p then some x else xs[i-1]? := by
 have hl:(xs.toList.take p).length=p:=by rw[gX,aW];lia
 rw[<- fz,Ow];by_cases h1:i<p
 .rw[ao h1,FA (by lia),By h1,fz]
 rw[ai h1,Bx (by lia),hl];by_cases h2:i=p
 .rw[ao h2,h2,W4];rfl
 .rw[ai h2,show i-p=(i-1-p)+1 by lia,MD,List.getElem?_drop,show p+(i-1-p)=i-1 by lia,fz]
section
variable{prog:aq}{w:ap}{K:Type}[DecidableEq K]{knd:KeyKind prog w K}{A:aC}{E:aa->ag->Prop}{s:ag}
abbrev One(knd:KeyKind prog w K)(h:Heap)(l:List (Int×aa)):Prop:=l.Pairwise λe e'=>∀ks,eE knd h ks e -> ¬ eE knd h ks e'
variable{h:Heap}
theorem One.perm{l l':List (Int×aa)}(x:One knd h l)(p:l'.Perm l):One knd h l':=(p.pairwise_iff λ{a b} ei ks hb ha=>ei ks ha hb).mpr x
variable{S:Addr}{o:Obj}{es:Array (Int×aa)}{ep:Nat}{t:bc}
theorem Zjm{h':Heap}{o':Obj}{bJ:Array (Int×aa)}{gD:Nat}{t':bc}(ho:h.get? S=some o)(hd:o.data=.set es ep t)(b9:h'.get? S=some o')(cx:o'.data=.set bJ gD t')(sb:dJ S h h')(ks:List K)(e:Int×aa):eE knd h ks e↔eE knd h' ks e:=by
 constructor
 .rintro⟨b,e1,e2⟩;exact⟨b,e1,Zmq ho hd sb e2⟩
 .rintro⟨b,e1,o2,items,n,h1,h2,h3,h4⟩;have aY:b≠S:=λz=>by
   rw[z,b9] at h1;cases h1;rw[cx] at h3;cases h3
  exact⟨b,e1,o2,items,n,(sb.2 b aY).symm.trans h1,h2,h3,h4⟩
def ur(knd:KeyKind prog w K)(h:Heap)(S:Addr)(vs:aa->Prop)(P:List K->Prop)(n:Nat)(led:Bool):Prop :=
 ∃o es ep t,h.get? S=some o/\o.ExactSet/\o.data=.set es ep t/\tQ knd h es t/\es.size<=n/\t.led=led/\(∀e∈es.toList,vs e.2)/\∀ks,(∃e∈es.toList,eE knd h ks e)↔P ks
theorem ZnB{order:Array Nat}(cu:∀k∈order.toList,k<es.size)(i:Nat):(order.filterMap (es[·]?))[i]?= order[i]?.bind (es[·]?):=by
 rw[<- fz,Mf,<- fz];generalize order.toList=l at cu
 induction l generalizing i with
 | nil=>simp
 | cons k l ih =>
  have hk:=cu k (bw ..);rw[sM (b:=es[k]) (iI hk)];cases i with
  | zero =>
   rw[WE,WE];exact(iI hk).symm
  | succ i =>
   rw[MD,MD];exact ih i λz hz=>cu z (bp _ hz)
theorem ZnK{Q:Unit->ag->Prop}(ho:s.heap.get? S=some o)(hd:o.data=.set es ep t)(hf:t.fits es.size=true)(h1:1<=es.size)(hn:es.size<=1000)
  (h:∀(bJ:Array (Int×aa))(t':bc)(h':Heap),bJ.toList.Perm es.toList->Tab bJ t'->(∀(i:Nat) e j,bJ[i]?= some e->t'.place[i]?= some j->Way t'.mask (· ∈ t'.place.toList) e.1 j)->t'.led=t.led->h'.get? S=some { o with data:=.set bJ (ep+1) t' }->dJ S s.heap h'->Q () { s with heap:=h' }) :
  wpAny (model prog w) A (setRelay S (oW es.size)) Q E s:=by
 have Kh:oW es.size=es.size*4:=by unfold oW;rw[ai (by lia)]
 rw[Kh];obtain⟨g1,g2,g3⟩:=above (n:=es.size*4) (by lia);unfold setRelay;refine af (kM ho hd hf ?_);dsimp only;rw[if_neg (by rw[sizeLine_eq];lia)];obtain⟨t',order,e,m1,m2,m3,m4,m5,m6,m7,m8⟩:=Rc g1 t.finger (t.movedTo (gZ (es.size*4)-1)) t.led t.plain (es.map (·.1)) (by rw[vq];lia);have uZ:=ZkP g1 t.finger (t.movedTo (gZ (es.size*4)-1)) t.led t.plain (es.map (·.1)) (by rw[vq];lia) e;rw[vq] at m3 m4;have e2:t.relaid (es.map (·.1)) (es.size*4)=some (t',order):=e;rw[e2];have eM:(order.filterMap (es[·]?)).toList.Perm es.toList:=by
  rw[Mf];exact(m4.filterMap _).trans (Bu (X_ es))
 have hsz:(order.filterMap (es[·]?)).size=es.size:=by
  rw[<- aW,eM.length_eq,aW]
 have jG:∀(i:Nat) e j,(order.filterMap (es[·]?))[i]?= some e->t'.place[i]?= some j->Way t'.mask (· ∈ t'.place.toList) e.1 j:=λi e j hi hj=>by
  rw[ZnB (λk hk=>ik.mp (m4.mem_iff.mp hk))] at hi;cases cB:order[i]? with
  | none=>rw[cB] at hi;cases hi
  | some k =>
   rw[cB] at hi;have dh:es[k]?= some e:=hi;obtain⟨x,hx,hwx⟩:=uZ i j k hj cB;rw[Array.getElem?_map,dh] at hx;have ex:e.1=x:=dg hx;rw[m1,ex];exact hwx
 refine af (tf (a:=(order.filterMap (es[·]?),t')) ?_ ?_)
 .change (ite (((order.filterMap (es[·]?)).size != es.size)=true) _ _:Sem (Array (Int×aa)×bc))=_;rw[ai (by rw[hsz];simp)]
 dsimp only;refine wpAny_storeSet_of ho hd (h _ t' _ eM ⟨by rw[m3,hsz],m2,by rw[m1];exact g1,?_,m8⟩ jG m5 (l5.stored ho hd _ _) (oK ..)) (by rw[hsz,bu];lia);unfold yt;rw[m1,m2,m3];show(es.size+0)*5<_;lia
variable{Q:Bool->ag->Prop}{a:Addr}{vs:aa->Prop}{n:Nat}{led:Bool}
theorem HE{t2:bc}{P:List K->Prop}{j:Nat}{ks:List K}(ho:s.heap.get? S=some o)(hx:o.ExactSet)(hd:o.data=.set es ep t)(lD:tQ knd s.heap es t)(hsz:es.size<=n)(eZ:t.led=led)(jF:∀e∈es.toList,vs e.2)
  (hP:∀ks,(∃e∈es.toList,eE knd s.heap ks e)↔P ks) (hn:n<=900) (hk:fb knd s.heap ks a) (hv:vs (.ref a)) (hj:t.slot j=.empty) (AA:∀e∈es.toList,¬ eE knd s.heap ks e) (uZ:Way t.mask (· ∈ t.place.toList) (tupleKeyHash knd ks) j) (e1:t2.mask=t.mask) (e2:t2.place=eO t.place (bx t.place j) j) (e3:t2.dummies=#[]) (e4:t2.led=t.led)
  (q:∀b h',dJ S s.heap h'->ur knd h' S vs (λk=>P k\/k=ks) (n+1) led->Q b { s with heap:=h' }) :
  wpAny (model prog w) A (do
   storeSet S (eO es (bx t.place j) (tupleKeyHash knd ks,ar a)) t2
   if(!false&&t2.tooFull)=true then do
     setRelay S (oW (es.size+1))
     pure true
    else pure true) Q E s:=by
 have hT:=lD.tab;have hr:=hT.room;have Tu:=hT.fill_eq;have dm:=(y0 hT.mQ j).1;have xn:=vL es (bx t.place j) (tupleKeyHash knd ks,ar a);have aM:(eO es (bx t.place j) (tupleKeyHash knd ks,ar a)).toList.Perm ((tupleKeyHash knd ks,ar a)::es.toList):=by
  refine xn.trans ?_;rw[Bl];exact MM (l₁ := es.toList) (l₂ :=[_])
 have ke:(eO es (bx t.place j) (tupleKeyHash knd ks,ar a)).size=es.size+1:=by
  rw[<- aW,xn.length_eq,aW,xZ]
 have i_:t2.place.size=es.size+1:=by
  have:=(vL t.place (bx t.place j) j).length_eq;rw[aW,aW,xZ,hT.size] at this;rw[e2];exact this
 have Ef:t2.fill=es.size+1:=by
  unfold yt;rw[i_,e3];rfl
 have xx:js t2.place:=by
  rw[e2];exact O2 hT.mQ (CY hT.mQ hj)
 have Ki:∀y,y∈t.place.toList->y∈t2.place.toList:=λy hy=>by
  rw[e2];refine(vL t.place (bx t.place j) j).mem_iff.mpr ?_;rw[Bl];exact dN _ hy
 have Uq:∀(i:Nat) e y,(eO es (bx t.place j) (tupleKeyHash knd ks,ar a))[i]?= some e->t2.place[i]?= some y->Way t2.mask (· ∈ t2.place.toList) e.1 y:=λi e y hi hy=>by
  rw[uc es (by rw[<- hT.size];exact dm)] at hi;rw[e2,uc t.place dm] at hy;rw[e1];by_cases c1:i<bx t.place j
  .rw[ao c1] at hi hy;exact(lD.way i e y hi hy).mono λz _ hz=>Ki z hz
  rw[ai c1] at hi hy;by_cases c2:i=bx t.place j
  .rw[ao c2] at hi hy;cases hi;cases hy;exact uZ.mono λz _ hz=>Ki z hz
  .rw[ai c2] at hi hy;exact(lD.way (i-1) e y hi hy).mono λz _ hz=>Ki z hz
 generalize eO es (bx t.place j) (tupleKeyHash knd ks,ar a)=cy at aM ke Uq;have Ul:eE knd s.heap ks (tupleKeyHash knd ks,ar a):=⟨a,rfl,hk⟩;have Zzb:One knd s.heap cy.toList:=by
  refine One.perm (vD.mpr ⟨λe he nv c9 i6=>?_,lD.one⟩) aM;obtain⟨b,f1,f2⟩:=c9;cases f1;have:nv=ks:=wy f2 hk;subst this;exact AA e he i6
 have ZyB:∀e∈cy.toList,∃ks,eE knd s.heap ks e/\e.1=tupleKeyHash knd ks:=λe he=>by
  rcases a8.mp (aM.mem_iff.mp he) with rfl|he
  .exact⟨ks,Ul,rfl⟩
  .exact lD.ent e he
 have ZzM:∀e∈cy.toList,vs e.2:=λe he=>by
  rcases a8.mp (aM.mem_iff.mp he) with rfl|he
  .exact hv
  .exact jF e he
 have hP1:∀k,(∃e∈cy.toList,eE knd s.heap k e)↔(P k\/k=ks):=λk=>by
  constructor
  .rintro⟨e,he,hb⟩;rcases a8.mp (aM.mem_iff.mp he) with rfl|he
   .obtain⟨b,f1,f2⟩:=hb;cases f1;exact .inr (wy f2 hk)
   .exact .inl ((hP k).mp ⟨e,he,hb⟩)
  .rintro(kP|rfl)
   .obtain⟨e,he,hb⟩:=(hP k).mpr kP;exact⟨e,aM.mem_iff.mpr (bp _ he),hb⟩
   .exact⟨_,aM.mem_iff.mpr (bw ..),Ul⟩
 have fin:∀(h':Heap)(o':Obj)(bJ:Array (Int×aa))(gD:Nat)(t':bc),dJ S s.heap h'->h'.get? S=some o'->o'.ExactSet->o'.data=.set bJ gD t'->bJ.toList.Perm cy.toList->Tab bJ t'->(∀(i:Nat) e j,bJ[i]?= some e->t'.place[i]?= some j->Way t'.mask (· ∈ t'.place.toList) e.1 j)->t'.led=led->ur knd h' S vs (λk=>P k\/k=ks) (n+1) led:=λh' o' bJ gD t' sb b9 yK cx hp yH lT GC=>by
  have zS:=λk e=>Zjm (knd:=knd) ho hd b9 cx sb k e;have hl:bJ.size=cy.size:=by rw[<- aW,hp.length_eq,aW]
  refine⟨o',bJ,gD,t',b9,yK,cx,⟨yH,λe he=>?_,lT,?_⟩,by lia,GC,λe he=>ZzM e (hp.mem_iff.mp he),λk=>?_⟩
  .obtain⟨k,hb,e5⟩:=ZyB e (hp.mem_iff.mp he);exact⟨k,(zS k e).mp hb,e5⟩
  .refine(Zzb.perm hp).imp λ{x y} AS k h1 h2=>AS k ((zS k x).mpr h1) ((zS k y).mpr h2)
  .refine vv ?_ (hP1 k);constructor
   .rintro⟨e,he,hb⟩;exact⟨e,hp.mem_iff.mp he,(zS k e).mpr hb⟩
   .rintro⟨e,he,hb⟩;exact⟨e,hp.mem_iff.mpr he,(zS k e).mp hb⟩
 refine af (NI ho hd ?_ (by rw[ke,bu];lia));have eJ:=l5.stored ho hd cy t2;have iG:dJ S s.heap (s.heap.update S (vH cy t2)):=oK ..;generalize s.heap.update S (vH cy t2)=h1 at eJ iG;have Aq:t2.fits cy.size=true:=by
  unfold BO;rw[i_,ke,Ef,e1];simp;lia
 by_cases Ar:t2.tooFull=true
 .rw[Ar,ao (by decide),<- ke];refine af (ZnK (s:={ s with heap:=h1 }) eJ rfl Aq (by lia) (by lia) λbJ t' h' hp yH lT GC b9 vT=>ah ?_);exact q true h' (iG.trans vT) (fin h' _ bJ _ t' (iG.trans vT) b9 hx rfl hp yH lT (by rw[GC,e4,eZ]))
 .have uQ:t2.tooFull=false:=by
   cases hc:t2.tooFull with
   | true=>exact absurd hc Ar
   | false=>rfl
  rw[uQ,ai (by decide)];refine ah (q true h1 iG (fin h1 _ cy _ t2 iG eJ hx rfl (oO _) ⟨by rw[i_,ke],e3,by rw[e1];exact hT.good,?_,xx⟩ Uq (by rw[e4,eZ])));unfold XJ at uQ;have:=o7 uQ;lia
theorem Zia{P:List K->Prop}{ks:List K}(hu:A.units<cLine)(hS:ur knd s.heap S vs P n led)(hn:n<=900)(hk:fb knd s.heap ks a)(hv:vs (.ref a))
  (q:∀b h',dJ S s.heap h'->ur knd h' S vs (λk=>P k\/k=ks) (n+1) led->Q b { s with heap:=h' }):wpAny (model prog w) A (setAddHashed S (.ref a) (tupleKeyHash knd ks)) Q E s:=by
 obtain⟨o,es,ep,t,ho,hx,hd,lD,hsz,eZ,jF,hP⟩:=hS;have hT:=lD.tab;have hr:=hT.room;have Tu:=hT.fill_eq;unfold setAddHashed;refine cP ?_;unfold setAddHashedIn;refine af (kM ho hd hT.fits ?_);have hbs:byScan (.ref a) es=false:=rfl;dsimp only;rw[hbs,if_neg (by decide)];obtain⟨m,hm1,Kt⟩:=ON hT (tupleKeyHash knd ks);have KS:=ZgA hT.good;unfold setSearch;refine af (QU (knd:=knd) hu ho hd lD hk (λhex=>?_) (λj hj AA uZ=>?_) 100000 m 0 none rfl (λm hm=>absurd hm (lP _)) Kt hm1 (by lia))
 .refine ah (q false s.heap (ZCe ..) ⟨o,es,ep,t,ho,hx,hd,lD,by lia,eZ,jF,λk=>(hP k).trans ⟨.inl,λz=>?_⟩⟩);rcases z with z|rfl
  .exact z
  .exact(hP k).mp hex
 dsimp only;refine wpAny_bind (wpAny_setState_of ho hd hT.fits ?_);dsimp only;have fV:SetTable.has t.dummies j=false:=by rw[hT.none];rfl
 have KH:t.put j=({ t with place:=eO t.place (bx t.place j) j },bx t.place j):=by
  unfold XI;rw[fV];rfl
 rw[KH];dsimp only;cases aM:t.plain with
 | true =>
  rw[ao rfl];refine af (Zkf hk λb=>?_);cases b with
  | true =>
   rw[ao rfl];exact HE ho hx hd lD hsz eZ jF hP hn hk hv hj AA uZ rfl rfl hT.none rfl q
  | false =>
   rw[ai (by decide)];exact HE ho hx hd lD hsz eZ jF hP hn hk hv hj AA uZ rfl rfl hT.none rfl q
 | false =>
  rw[ai (by decide)];refine af (ah ?_);rw[ao rfl];exact HE ho hx hd lD hsz eZ jF hP hn hk hv hj AA uZ rfl rfl hT.none rfl q
theorem ZpP{P:List K->Prop}{ks:List K}(hu:A.units<cLine)(hS:ur knd s.heap S vs P n led)(hn:n<=900)(hk:fb knd s.heap ks a)(hv:vs (.ref a))
  (q:∀b h' tk,s.toks<=tk->dJ S s.heap h'->ur knd h' S vs (λk=>P k\/k=ks) (n+1) led->Q b { s with heap:=h',toks:=tk }):wpAny (model prog w) A (setAdd S (.ref a)) Q E s:=by
 unfold setAdd;refine cP (af (wpAny_pyHash_tuple hu hk ?_));exact Zia (s:={ s with toks:=_ }) hu hS hn hk hv λb h' sb tF=>q b h' _ (ym _ _) sb tF
end
end we
namespace ax
open PySem PyProof.Rows yT PySem.W
structure fP{α : Type}(lt : α -> α -> Bool):Prop where
 mM:∀a,lt a a=false
 trans:∀a b c,lt a b=true->lt b c=true->lt a c=true
 xU:∀a b,lt a b=false->lt b a=false->a=b
section
variable{α β : Type}{lt : α -> α -> Bool}{ow : β -> β -> Bool}
theorem fP.mx(o:fP lt){a b : α}(h:lt a b=true):lt b a=false:=by
 cases e:lt b a with
 | false=>rfl
 | true =>
  have:=o.trans a b a h e;rw[o.mM] at this;cases this
theorem fP.neg(o:fP lt){x y z : α}(h1:lt x y=false)(h2:lt y z=false):lt x z=false:=by
 cases e:lt x z with
 | false=>rfl
 | true =>
  cases e2:lt y x with
  | true=>rw[o.trans y x z e2 e] at h2;cases h2
  | false =>
   have:=o.xU x y h1 e2;subst this;rw[e] at h2;cases h2
theorem fP.Vo(o:fP lt)(f:aa -> α):yU λx y=>lt (f x.1) (f y.1):=⟨λ_ _ h=>o.mx h,λ_ _ _ h1 h2=>o.neg h1 h2⟩
def pQ[DecidableEq α](lt : α -> α -> Bool)(ow : β -> β -> Bool)(x y : α × β):Bool:=lt x.1 y.1 || (decide (x.1=y.1)&&ow x.2 y.2)
theorem fP.lex[DecidableEq α](o:fP lt)(o2:fP ow):fP (pQ lt ow) where
 mM:=λa=>by unfold pQ;rw[o.mM,o2.mM];simp
 trans:=λa b c h1 h2=>by
  unfold pQ at *;simp only[Ff,gA,kJ] at *;rcases h1 with h1|⟨e1,h1⟩
  .rcases h2 with h2|⟨e2,h2⟩
   .exact .inl (o.trans _ _ _ h1 h2)
   .exact .inl (e2 ▸ h1)
  .rcases h2 with h2|⟨e2,h2⟩
   .exact .inl (e1.symm ▸ h2)
   .exact .inr ⟨e1.trans e2,o2.trans _ _ _ h1 h2⟩
 xU:=λa b h1 h2=>by
  unfold pQ at *;simp only[Bool.or_eq_false_iff,Bool.and_eq_false_imp,kJ] at *;have e1:=o.xU _ _ h1.1 h2.1;have e2:=o2.xU _ _ (h1.2 e1) (h2.2 e1.symm);exact FV e1 e2
theorem zx:fP λa b:Int=>decide (a<b):=⟨λa=>by simp,λa b c h1 h2=>by simp only[kJ] at *;lia,λa b h1 h2=>by simp only[decide_eq_false_iff_not] at *;lia⟩
theorem OM:∀a b:List Nat,¬ a<b -> ¬ b<a->a=b
 | [],[],_,_=>rfl
 | [],b::bs,h,_=>absurd (MK b bs) h
 | a::as,[],_,h=>absurd (MK a as) h
 | a::as,b::bs,h1,h2=>by
  rw[Mx] at h1 h2;have e:a=b:=by
   rcases yn a b with z|z|z
   .exact absurd (.inl z) h1
   .exact z
   .exact absurd (.inl z) h2
  subst e;rw[OM as bs (λz=>h1 (.inr ⟨rfl,z⟩)) (λz=>h2 (.inr ⟨rfl,z⟩))]
theorem yZ:∀a:List Nat,¬ a<a
 | [],h=>by cases h
 | a::as,h=>by
  rw[Mx] at h;rcases h with h|⟨_,h⟩
  .lia
  .exact yZ as h
theorem Ox:∀a b c:List Nat,a<b->b<c->a<c
 | [],_,[],_,h2=>by cases h2
 | [],_,c::cs,_,_=>MK c cs
 | a::as,[],_,h1,_=>by cases h1
 | a::as,b::bs,[],_,h2=>by cases h2
 | a::as,b::bs,c::cs,h1,h2=>by
  rw[Mx] at *;rcases h1 with h1|⟨e1,h1⟩
  .rcases h2 with h2|⟨e2,h2⟩
   .exact .inl (by lia)
   .exact .inl (by lia)
  .rcases h2 with h2|⟨e2,h2⟩
   .exact .inl (by lia)
   .exact .inr ⟨by lia,Ox as bs cs h1 h2⟩
theorem ZmF{x y:Str}(h:x.cps.toList=y.cps.toList):x=y:=by
 cases x;cases y
 congr 1
 exact VR.mp h
theorem Zmo:fP λa b:Str=>decide (a.cps.toList<b.cps.toList):=⟨λa=>bt (yZ _),λa b c h1 h2=>aJ (Ox _ _ _ (bC h1) (bC h2)),λa b h1 h2=>ZmF (OM _ _ (o7 h1) (o7 h2))⟩
end
abbrev Qd:=Int×Str×Int×Int
def qx:Qd->Qd->Bool:=pQ (λa b:Int=>decide (a<b)) (pQ (λa b:Str=>decide (a.cps.toList<b.cps.toList)) (pQ (λa b:Int=>decide (a<b)) λa b:Int=>decide (a<b)))
theorem Ii:fP qx:=zx.lex (Zmo.lex (zx.lex zx))
def iP(h:Heap)(v:aa)(q:Qd):Prop := ∃a o t u t2 t3 n,v=.ref a/\h.get? a=some o/\o.cls=.type "tuple" /\ o.data=.seq #[.int q.1 t,.str q.2.1 u,.int q.2.2.1 t2,.int q.2.2.2 t3] n
variable{h:Heap}{v:aa}{q:Qd}
theorem iP.inj{q':Qd}(x:iP h v q)(y:iP h v q'):q=q':=by
 obtain⟨a,o,t,u,t2,t3,n,rfl,h1,_,h3⟩:=x;obtain⟨a',o',t',u',ZO,ZT,n',e,pq,_,iq⟩:=y;cases e;rw[h1] at pq;cases pq;rw[h3] at iq;obtain⟨q1,q2,q3,q4⟩:=q;obtain⟨r1,r2,r3,r4⟩:=q';simp only[V',VO,Fv,XQ,ef.injEq,and_true] at iq;obtain⟨⟨⟨e1,_⟩,⟨e2,_⟩,⟨e3,_⟩,⟨e4,_⟩⟩,_⟩:=iq;rw[e1,e2,e3,e4]
theorem iP.keep{h':Heap}(x:iP h v q)(k:∀b o,h.get? b=some o->h'.get? b=some o):iP h' v q:=by
 obtain⟨a,o,t,u,t2,t3,n,rfl,h1,r⟩:=x;exact⟨a,o,t,u,t2,t3,n,rfl,k _ _ h1,r⟩
open Classical in
noncomputable def kq(h:Heap)(v:aa):Qd:=if x:∃q,iP h v q then x.choose else(0,Ni,0,0)
theorem Dz(x:iP h v q):kq h v=q:=by
 unfold kq;rw[dif_pos ⟨q,x⟩];exact(Mo (⟨q,x⟩:∃q,iP h v q)).inj x
theorem QT{h:Heap}:∀{vs:List aa},(∀v∈vs,∃q,iP h v q)->∃fs,KatTups h vs fs/\fs.length=vs.length/\∀f∈fs,∃i t,f=.int i t
 | [],_=>⟨[],trivial,rfl,λ_ h=>nomatch h⟩
 | v::vs,hv=>by
  obtain⟨q,a,o,t,u,t2,t3,n,rfl,ho,hc,hd⟩:=hv v (bw ..);obtain⟨fs,kt,hl,hf⟩:=QT (vs:=vs) λx hx=>hv x (bp _ hx);refine⟨.int q.1 t::fs,Wt ho hc hd rfl kt,by simp[hl],λf hm=>?_⟩;rcases a8.mp hm with rfl|hm
  .exact⟨_,t,rfl⟩
  .exact hf f hm
variable{prog:aq}{w:ap}{A:aC}{s:ag}
theorem Zf2{h0:Heap}{vs:List aa}(hv:∀v∈vs,∃q,iP h0 v q)(k0:∀b o,h0.get? b=some o->s.heap.get? b=some o)(h2:2<=vs.length):yY prog w A (λu v=>qx (kq h0 u) (kq h0 v)) vs s:=by
 have pA:∀v∈vs,∃q,iP s.heap v q:=λv hm=>let ⟨q,x⟩:=hv v hm;⟨q,x.keep k0⟩;obtain⟨fs,k,hl,hf⟩:=QT pA;refine⟨tuples' true,λQ E hq=>?_,?_⟩
 .refine kat_kind (T:=.type "int") k (by lia) (λv hm=>?_) rfl hq;obtain⟨i,t,rfl⟩:=hf v hm;exact FJ rfl
 .intro x y hx hy E;rw[BW] at hx hy;obtain⟨q,xq⟩:=hv _ (oZ hx).2;obtain⟨q',yq⟩:=hv _ (oZ hy).2;have e1:(λx y:dZ=>qx (kq h0 x.1) (kq h0 y.1)) x y=qx q q':=by
   show qx (kq h0 x.1) (kq h0 y.1)=_;have qm:=(oZ hx);have K8:=(oZ hy);rw[Dz xq,Dz yq]
  rw[e1];obtain⟨a,o,t,u,t2,t3,n,e,ho,hc,hd⟩:=xq.keep k0;obtain⟨a',o',t',u',ZO,ZT,n',e',b9,dD,cx⟩:=yq.keep k0;rw[e,e'];obtain⟨q1,q2,q3,q4⟩:=q;obtain⟨r1,r2,r3,r4⟩:=q';refine kat_lt ho hd b9 cx ?_;have L':qx (q1,q2,q3,q4) (r1,r2,r3,r4)=(decide (q1<r1) || (decide (q1=r1)&&(decide (q2.cps.toList<r2.cps.toList) || (decide (q2=r2)&&(decide (q3<r3) || (decide (q3=r3)&&decide (q4<r4))))))):=rfl;rw[L'];refine yv (B0 (yw (λc1=>yz ?_) (λc1=>yx ?_)))
  .have kO:q1=r1:=eq_of_beq c1;refine yv (Yq (yw (λc2=>yz ?_) (λc2=>yx ?_)))
   .have nu:q2=r2:=bC c2;refine yv (B0 (yw (λc3=>yz ?_) (λc3=>yx ?_)))
    .have B9:q3=r3:=eq_of_beq c3;refine yv (B0 (yw (λc4=>yz (kat_nil ⟨rfl,?_⟩)) (λc4=>yx ?_)))
     .have YS:q4=r4:=eq_of_beq c4;subst kO nu B9 YS;rw[bt (yZ q2.cps.toList)];simp
     .refine Gi _ _ (Yx ⟨rfl,?_⟩);subst kO nu B9;rw[bt (yZ q2.cps.toList)];simp
    .refine Gi _ _ (Yx ⟨rfl,?_⟩);have B9 : ¬ q3=r3:=λz=>by rw[z] at c3;simp at c3
     subst kO nu;rw[bt (yZ q2.cps.toList)];simp[B9]
   .refine Gi _ _ (ZCr ⟨rfl,?_⟩);have nu : ¬ q2=r2:=o7 c2;subst kO;simp[nu]
  .refine Nw ⟨rfl,?_⟩;have kO : ¬ q1=r1:=λz=>by rw[z] at c1;simp at c1
   simp[kO]
end ax
namespace we
open PySem PyProof.Rows PySem.W l5
theorem Zjp(es:Array (Int×aa)):(fL es.size).map (λj=>(es.getD j (0,.none)).2)=es.toList.map (·.2):=by
 refine Fw λi=>?_;rw[bM,bM];by_cases hi:i<es.size
 .rw[List.getElem?_range hi,fz,iI hi];simp[gU,hi]
 .rw[FC (by rw[yj];lia),FC (by rw[aW];lia)];rfl
variable{prog:aq}{w:ap}{A:aC}{E:aa->ag->Prop}{s:ag}{S:Addr}{es:Array (Int×aa)}{ep:Nat}
theorem Zm5{o:Obj}{t:bc}{Q:aa->ag->Prop}(ho:s.heap.get? S=some o)(hx:o.ExactSet)(hd:o.data=.set es ep t)(hT:Tab es t)(eZ:t.led=wL w)(hn:es.size<=900)
  (q:∀(I T:Addr)(ys:List aa)(h':Heap)(d:qD),(∀b o,s.heap.get? b=some o->h'.get? b=some o)->pF w h' I S T es ep t ys 0->ys.length=es.size->S≠I->T≠I->ys.Perm (es.toList.map (·.2))->s.heap.objs.size<=I->(T=S\/s.heap.objs.size<=T)->Q (.ref I) { s with heap:=h',drawn:=d }) :
  wpAny (model prog w) A (pyIter (.ref S)) Q E s:=by
 have jE:s.TypeIs (.ref S) "set" := ⟨o,ho,hx.1⟩;have hf:=hT.fits;refine NH jE Xo (nq Xo jE ZfD ?_ (PySem.F.args_set_iter_1 _));unfold cF.«frozenset.__iter__»;refine af ?_;unfold ZB5;refine af (ah ?_);change wpAny _ A.in1 (pure S) _ _ s;refine ah (af ?_);unfold ZB4;refine af (Iy ho hd hf (ah (af (ZmS ho hd hf ?_))));have Sx:∀{s1:ag}{Q1:Nat->ag->Prop}{E1:aa->ag->Prop},s1.heap.get? S=some o->Q1 ep s1->wpAny (model prog w) A.in1 (setEpoch S) Q1 E1 s1:=λeJ h=>by
  unfold setEpoch;exact af (kM eJ hd hf (ah h))
 cases Ec:(!w.params.followText "set-order" && (!t.plain&&decide (es.size > 1))) with
 | true =>
  rw[ao rfl];have hf0:w.params.followText "set-order" = false:=by
   cases hc:w.params.followText "set-order" with
   | false=>rfl
   | true=>rw[hc] at Ec;cases Ec
  refine af (QV es.size (fL es.size) s yj λperm d hp=>?_);have aM:perm.length=es.size:=by rw[hp.length_eq,yj]
  refine af (NG ?_ (by rw[aF,aM,bu];lia));dsimp only;refine af (Sx (aH _ ho) ?_);unfold newFields;refine af (pj (ah ⟨_,rfl,"set_iterator",_,⟨_,bS _ rfl,rfl⟩,tY.lookup,?_⟩));have EA:(s.heap.push { cls:=.type "tuple",data:=.seq (perm.map λ(i:Nat)=>rawInt (i:Int)).toArray }).objs.size=s.heap.objs.size+1:=iJ ..;refine q _ s.heap.objs.size (perm.map λj=>(es.getD j (0,.none)).2) _ d (λb o e=>aH _ (aH _ e)) ⟨⟨o,aH _ (aH _ ho),hd⟩,hf,_,_,bS _ rfl,rfl,rfl,.inr (.inr ⟨_,_,_,rfl,aH _ (bS _ rfl),rfl,?_,λk v hk=>?_⟩)⟩ (by rw[aF,aM]) ?_ ?_ ?_ ?_ (.inr (aD _))
  .rw[aF,aM]
  .have kP:(perm.map λ(i:Nat)=>rawInt (i:Int))[k]?= some v:=by rw[<- hk];simp
   rw[bM] at kP;obtain⟨j,hj,rfl⟩:=gB.mp kP;have uM:j<es.size:=ik.mp (hp.mem_iff.mp (bW hj));refine⟨j,0,rfl,?_,uM⟩;rw[bM,hj,iI uM];simp[gU,uM]
  .rw[EA];exact bo (MQ (aP ho))
  .rw[EA];exact bo (kG _)
  .exact(hp.map _).trans (Bu (Zjp es))
  .rw[EA];exact qF _
 | false =>
  rw[ai (by decide)];refine af (ah ?_);dsimp only;refine af (Sx ho ?_);unfold newFields;refine af (pj (ah ⟨_,rfl,"set_iterator",_,⟨_,bS _ rfl,rfl⟩,tY.lookup,?_⟩));have nI:S≠s.heap.objs.size:=bo (aP ho);cases Ei:w.params.followText "set-order" with
  | true =>
   have rX:(pickOrder (w.params.setOrder S ep) es).toList.Perm es.toList:=by
    have:=Pc (w.params.setOrder S ep) es.size 0 es.toList #[] (aW)
    simpa[pickOrder] using this
   refine q _ S ((pickOrder (w.params.setOrder S ep) es).toList.map (·.2)) _ s.drawn (λb o e=>aH _ e) ⟨⟨o,aH _ ho,hd⟩,hf,_,_,bS _ rfl,rfl,rfl,.inl ⟨0,rfl,Ei,rfl⟩⟩ (by rw[aF,rX.length_eq,aW]) nI nI (rX.map _) (aD _) (.inl rfl)
  | false =>
   rw[Ei] at Ec;have cN:t.led=true:=by rw[eZ];show(!w.params.followText "set-order")=true;rw[Ei];rfl
   refine q _ S (es.toList.map (·.2)) _ s.drawn (λb o e=>aH _ e) ⟨⟨o,aH _ ho,hd⟩,hf,_,_,bS _ rfl,rfl,rfl,.inr (.inl ⟨0,rfl,Ei,Ec,cN,ZhU hT.mQ,hT.mQ,rfl⟩)⟩ (by rw[aF,aW]) nI nI (oO _) (aD _) (.inl rfl)
theorem Oq{oS:Obj}{t:bc}{Q:List aa->ag->Prop}(hh:A.handled=none)(gO:s.heap.get? S=some oS)(K3:oS.ExactSet)(hd:oS.data=.set es ep t)(hT:Tab es t)(eZ:t.led=wL w)(hn:es.size<=900)
  (q:∀(ys:List aa)(h':Heap)(tk:Nat)(d:qD),(∀b o,s.heap.get? b=some o->h'.get? b=some o)->ys.Perm (es.toList.map (·.2))->s.heap.objs.size<=h'.objs.size->Q ys { s with heap:=h',toks:=tk,drawn:=d }):wpAny (model prog w) A (collect (.ref S)) Q E s:=by
 unfold collect;refine af (Gq (g9 VH ?_));change wpAny _ _ (do again (.builtin "list.__iadd__" ⟨[<- newList [],.ref S],[]⟩)) _ _ s;refine af (yD (ah ⟨Bo _ (by decide +kernel),g9 VG ?_⟩));change wpAny _ _ (Mi (.ref s.heap.objs.size) (.ref S) (.ref s.heap.objs.size)) _ _ { s with heap:=s.heap.push (seqObj "list" #[] 0) };have Zx6:=aP gO;have hL:(s.heap.push (seqObj "list" #[] 0)).get? s.heap.objs.size=some (seqObj "list" #[] 0):=bS _ rfl;have jE:XM { s with heap:=s.heap.push (seqObj "list" #[] 0) } (.ref S) "set" := ⟨oS,aH _ gO,K3.1⟩;unfold Mi;refine af (tw (T := "set") jE ?_);have Ly:s.heap.objs.size≠S:=vF Zx6;have h1:V1 (.ref s.heap.objs.size) (.ref S)=false:=by simp[V1,Ly]
 rw[h1,ai (by decide)];refine af (Zm5 (s:={ s with heap:=s.heap.push (seqObj "list" #[] 0) }) (aH _ gO) K3 hd hT eZ hn λI T ys h2 d k2 x hy nSI nTI jF hI J3=>?_);have S_:s.heap.objs.size<I:=by
  refine cg ?_ hI;show s.heap.objs.size<(s.heap.push (seqObj "list" #[] 0)).objs.size;rw[iJ];exact kG _
 have pU:=k2 _ _ hL;have nTL:s.heap.objs.size≠T:=by
  rcases J3 with rfl|J3
  .exact Ly
  .refine bo (cg ?_ J3);show s.heap.objs.size<(s.heap.push (seqObj "list" #[] 0)).objs.size;rw[iJ];exact kG _
 have Tc:s.heap.objs.size ∉ [I,S,T]:=by
  simp only[a8,oV,o8,not_or];exact⟨bo S_,Ly,nTL⟩
 have W:=ZkA (prog:=prog) (w:=w) (A:=A.in1) (t:=t) (ep:=ep) hh nSI nTI hy;have Zz8:∀b o,s.heap.get? b=some o->h2.get? b=some o:=λb o e=>k2 b o (aH _ e);have c9:∀b o,s.heap.get? b=some o->b≠s.heap.objs.size:=λb o e=>bo (aP e);have hbI:∀b o,s.heap.get? b=some o->b≠I:=λb o e=>bo (jj (aP e) S_);have key:∀(h:Heap)(Jg tk:Nat),pF w h I S T es ep t ys 0->(∀b o,b≠s.heap.objs.size->h2.get? b=some o->h.get? b=some o)->h.get? s.heap.objs.size=some { cls:=.type "list",data:=.seq #[] Jg } ->
   codeAny (model prog w) A (.builtin "list.extend.loop" ⟨[.ref s.heap.objs.size,.ref I,.ref s.heap.objs.size],[]⟩) (wants (λv s'=>wpAny (model prog w) A (match v with
     | ar a=>do
      let o <- load a
      match o.data with
      | .seq xs _=>pure xs.toList
      | _=>unsupported "internal:collect"
     | _=>unsupported "internal:collect") Q E s') E) { s with heap:=h,drawn:=d,toks:=tk }:=by
  intro h Jg tk cC hk D3;refine codeAny_extend_loopS W.toS (by rw[bu];lia) s.heap.objs.size Tc _ ys.length 0 _ #[] Jg rfl (bG _) cC D3 (ItemsOf.nil _) λs' Gy c' hm rL i5=>?_;rw[Moved.eq_with hm];refine af (Gp rL ?_);refine ah ?_;have Zya:Gy.toList=ys:=by
   refine Fw λj=>?_;rw[fz];cases hj:Gy[j]? with
   | none =>
    have h3:Gy.size<=j:=Mc.mp hj;rw[i5.1] at h3;rw[FC h3]
   | some v=>rw[i5.2 j v hj]
  rw[Zya];refine q ys s'.heap s'.toks d (λb o e=>hm.heap b o (λdY=>?_) (hk b o (c9 b o e) (Zz8 b o e))) jF (ji (aP rL));rcases a8.mp dY with z|z
  .exact c9 b o e z
  .exact hbI b o e (aI.mp z)
 refine af (cP (ZkF ⟨oS,k2 S oS (aH _ gO),K3.1⟩ ?_));refine B2 (λ_=>?_) (λ_=>ah ⟨jq Xh _,key h2 0 _ x (λb o _ e=>e) pU⟩);refine af (kK (af ?_));change wpAny _ _ (updateSeq s.heap.objs.size (·.push .none) >>= λ_=>updateSeq s.heap.objs.size (·.pop)) _ _ _;refine af (B5 pU rfl ?_);have D3:=sJ (kH (·.push bq)) pU rfl;refine B5 (hz:=by seq_fits) D3 rfl ?_;have rL:=sJ (kH (·.pop)) D3 rfl;have U9:∀b o,b≠s.heap.objs.size->h2.get? b=some o->((h2.update s.heap.objs.size (kH (·.push bq))).update s.heap.objs.size (kH (·.pop))).get? b=some o:=λb o hb e=>(jh _ _ (fB hb)).trans ((jh _ _ (fB hb)).trans e);exact ah ⟨jq Xh _,key _ _ _ (W.frame 0 _ _ x λb hb o e=>U9 b o (λz=>Tc (z ▸ hb)) e) U9 rL⟩
end we
namespace we
open PySem PyProof.Rows l5
section
variable{prog:aq}{w:ap}{K:Type}[DecidableEq K]{knd:KeyKind prog w K}{A:aC}{E:aa->ag->Prop}{s:ag}
def wM(knd:KeyKind prog w K)(h:Heap)(S:Addr)(G:List (Int×aa)->Prop)(n:Nat)(led:Bool):Prop :=
 ∃o es ep t,h.get? S=some o/\o.ExactSet/\o.data=.set es ep t/\zM knd true h es/\Tab es t/\es.size<=n/\t.led=led/\G es.toList
theorem P6{g:Bool->Sem Unit}(hg:∀(b:Bool)(aZ : ag)(Q':Unit->ag->Prop),Q' () aZ -> wpAny (model prog w) A (g b) Q' E aZ)
  {S:Addr} {o:Obj} {es cy:Array (Int×aa)} {ep:Nat} {t t2:bc} {G:List (Int×aa)->Prop} (gp:∀l l',Mu l' l->G l->G l') {n:Nat} {led:Bool} {Q:Option Bool->ag->Prop} (ho:s.heap.get? S=some o) (hx:o.ExactSet) (hd:o.data=.set es ep t)
  (hE:zM knd true s.heap cy) (jF:G cy.toList) (h1:1<=cy.size) (hn:cy.size<=1000) (hsz:cy.size<=n) (hp:t2.place.size=cy.size) (hd2:t2.dummies=#[]) (hg2:Good t2.mask) (xx:js t2.place) (eZ:t2.led=led)
  (q:∀h',dJ S s.heap h'->wM knd h' S G n led->Q (some true) { s with heap:=h' }) :
  wpAny (model prog w) A (do
   storeSet S cy t2
   if(!false&&t2.tooFull)=true then do
     g (relayAll t2 cy (oW cy.size)).2.2
     storeSet S (relayAll t2 cy (oW cy.size)).1 (relayAll t2 cy (oW cy.size)).2.1
     pure (some true)
    else pure (some true)) Q E s:=by
 refine af (NI ho hd ?_ (by rw[bu];lia));have eJ:=stored ho hd cy t2;have iG:dJ S s.heap (s.heap.update S (vH cy t2)):=oK ..;generalize s.heap.update S (vH cy t2)=i_ at eJ iG;by_cases Ar:t2.tooFull=true
 .rw[Ar,ao (by decide)];obtain⟨n_,t3,gv,e,dH,xf,Ej⟩:=Zjy (t:=t2) h1 hn;rw[e];dsimp only;have La:n_.size=cy.size:=by rw[<- Array.length_toList,dH.length_eq,Array.length_toList]
  refine af (hg _ _ _ (af (NI (s:={ s with heap:=i_ }) eJ rfl ?_ (by rw[La,bu];lia))));have cB:=stored eJ rfl n_ t3;have su:dJ S i_ (i_.update S (vH n_ t3)):=oK ..;exact ah (q _ (iG.trans su) ⟨_,n_,_,t3,cB,hx,rfl,λe he=>hE e (dH.mem_iff.mp he),xf,by lia,by rw[Ej,eZ],gp _ _ dH jF⟩)
 .have uQ:t2.tooFull=false:=by
   cases hc:t2.tooFull with
   | true=>exact absurd hc Ar
   | false=>rfl
  rw[uQ,ai (by decide)];refine ah (q i_ iG ⟨_,cy,_,t2,eJ,hx,rfl,hE,⟨hp,hd2,hg2,?_,xx⟩,hsz,eZ,jF⟩);unfold XJ at uQ;have:=o7 uQ;lia
variable{S:Addr}{G G':List (Int×aa)->Prop}
theorem Zik(gp:∀l l',Mu l' l->G' l->G' l'){n i tk:Nat}{k:Int}{led:Bool}{Q:Bool->ag->Prop}(hS:wM knd s.heap S G n led)(hn:n<=900)(g0:∀l,G l->(∃e∈l,(intKind prog w).is k e.2=true)->G' l)(g1:∀l x,G l->(∀e∈l,(intKind prog w).is k e.2=false)->G' ((x,eC k tk)::l))
  (q:∀b h',dJ S s.heap h'->wM knd h' S G' (n+1) led->Q b { s with heap:=h' }):wpAny (model prog w) A (setAddHashed S (.int k tk) ((intKind prog w).hash k)) Q E s:=by
 obtain⟨o,es,ep,t,ho,hx,hd,hE,hT,hsz,eZ,jF⟩:=hS;have om:(intKind prog w).is k (eC k tk)=true:=BS _ _ _ _;have hb:es.size<scanBound:=by show es.size<4096;lia
 unfold setAddHashed setAddHashedIn;refine cP (af (kM ho hd hT.fits ?_));dsimp only;rw[byScan_of (knd:=intKind prog w) rfl hb (O7 hE)];simp only[↓reduceIte];unfold setAddByScan;refine af ?_;refine af (kK ?_);refine af (wpAny_setScan_of (knd:=intKind prog w) om ho hd hT.fits (O7 hE) ?_);cases hr:List.findIdx? (λe=>(intKind prog w).is k e.2) es.toList with
 | some j =>
  dsimp only;obtain⟨hj,hpj,_⟩:=List.findIdx?_eq_some_iff_getElem.mp hr;exact wpAny_pure (wpAny_pure (q false s.heap (Heap.SameBut.refl ..) ⟨o,es,ep,t,ho,hx,hd,hE,hT,by lia,eZ,g0 _ jF ⟨es.toList[j],yi hj,hpj⟩⟩))
 | none =>
  dsimp only;obtain⟨j,hj,eL⟩:=Zmz hT ((intKind prog w).hash k) (Value.int k tk);rw[eL];dsimp only;have xn:=vL es (bx t.place j) ((intKind prog w).hash k,eC k tk);have dY:∀e∈(eO es (bx t.place j) ((intKind prog w).hash k,eC k tk)).toList,e∈es.toList\/e=((intKind prog w).hash k,eC k tk):=λe he=>by
   have:=xn.mem_iff.mp he;rw[Bl] at this;rcases bV.mp this with z|z
   .exact .inl z
   .exact .inr (aI.mp z)
  have JT:G' (eO es (bx t.place j) ((intKind prog w).hash k,eC k tk)).toList:=by
   refine gp _ _ ?_ (g1 es.toList ((intKind prog w).hash k) jF λe he=>?_)
   .refine xn.trans ?_;rw[Bl];exact MM (l₁ := es.toList) (l₂ :=[_])
   .exact List.findIdx?_eq_none_iff.mp hr e he
  have ke:(eO es (bx t.place j) ((intKind prog w).hash k,eC k tk)).size=es.size+1:=by
   rw[<- aW,xn.length_eq,aW,xZ]
  have i_:(eO t.place (bx t.place j) j).size=es.size+1:=by
   rw[<- aW,(vL t.place (bx t.place j) j).length_eq,aW,xZ,hT.size]
  have xx:js (eO t.place (bx t.place j) j):=O2 hT.mQ (CY hT.mQ hj);generalize eO es (bx t.place j) ((intKind prog w).hash k,eC k tk)=cy at dY ke JT;have SY:zM knd true s.heap cy:=λe he=>by
   rcases dY e he with z|z
   .exact hE e z
   .subst z;exact⟨k,tk,rfl,rfl⟩
  refine af (ah ?_)
  split
  .refine af ?_;rw[hashByValue_scannable 8 (x:=eC k tk) rfl];refine ah ?_;refine P6 (gp:=gp) (λb aZ Q' hq=>by cases b <;> first|exact ah hq|exact kK hq) ho hx hd SY JT (by lia) (by lia) (show cy.size<=n+1 by lia) (by rw[ke];exact i_) hT.none hT.good xx eZ λh' sb tF=>?_
   exact ah (q true h' sb tF)
  .refine af (ah ?_);refine P6 (gp:=gp) (λb aZ Q' hq=>by cases b <;> first|exact ah hq|exact kK hq) ho hx hd SY JT (by lia) (by lia) (show cy.size<=n+1 by lia) (by rw[ke];exact i_) hT.none hT.good xx eZ λh' sb tF=>?_
   exact ah (q true h' sb tF)
theorem ZpB{k:Int}{tk:Nat}(gp:∀l l',Mu l' l->G' l->G' l'){n:Nat}{led:Bool}{Q:Bool->ag->Prop}(hS:wM knd s.heap S G n led)(hn:n<=900)(g0:∀l,G l->(∃e∈l,(intKind prog w).is k e.2=true)->G' l)(g1:∀l x,G l->(∀e∈l,(intKind prog w).is k e.2=false)->G' ((x,eC k tk)::l))
  (q:∀r h' tk,s.toks<=tk->dJ S s.heap h'->wM knd h' S G' (n+1) led->Q r { s with heap:=h',toks:=tk }):wpAny (model prog w) A (setAdd S (.int k tk)) Q E s:=by
 unfold setAdd;refine cP (af ((intKind prog w).pyHash (BS _ _ _ _) ?_));exact Zik gp (i:=0) (s:={ s with toks:=_ }) hS hn g0 g1 λb h' sb tF=>q b h' _ (ym _ _) sb tF
end
structure Goes(prog:aq)(w:ap)(A:aC)(S:Addr)(items:Array aa)(J:Nat->Heap->Prop):Prop where
 keep:∀i h h',J i h->(∀b o,b<=S->h.get? b=some o->h'.get? b=some o)->J i h'
 add:∀(i:Nat) v (s:ag) (Q:Bool->ag->Prop) (E:aa->ag->Prop),items[i]?= some v->J i s.heap->(∀b h' tk,dJ S s.heap h'->J (i+1) h'->Q b { s with heap:=h',toks:=tk })->wpAny (model prog w) A (setAdd S v) Q E s
variable{prog:aq}{w:ap}{A:aC}{R:nh->ag->Prop}{l:Addr}{items:Array aa}{J:Nat->Heap->Prop}
theorem Zki{S I:Addr}(hh:A.in1.handled=none)(g:Goes prog w A.in1 S items J)(J1:S<I)(Aw:l≠I):∀(k i:Nat)(s:ag),items.size-i=k->i<=items.size->(s.heap.IsListIter I l i/\s.heap.IsList l items)->l<S->J i s.heap ->
   (∀h' tk,J items.size h'->(∀b o,b<S->s.heap.get? b=some o->h'.get? b=some o)->R (.ok (.ret .none)) { s with heap:=h',toks:=tk })->codeAny (model prog w) A (.builtin "set.update.loop" ⟨[.ref S,.ref I],[]⟩) R s:=by
 have W:=BQ (prog:=prog) (w:=w) (A:=A.in1) hh I l Aw items;intro k
 induction k with
 | zero =>
  intro i s hk hi cC xp hw hR;obtain rfl:i=items.size:=by lia
  refine g9 We ?_;rw[kB Mp _];change wpAny _ A.in1 (pyNext (.ref I) >>= _) _ _ s;refine af (W.done s _ _ cC λh' tk hm=>?_);change wpAny _ A.in1 (ret bq) _ _ _;have uN:∀b o,b<=S->s.heap.get? b=some o->h'.get? b=some o:=λb o hb e=>hm b o (λz=>cW _ (qG (aI.mp z ▸ hb) J1)) e;exact ah (hR h' tk (g.keep _ _ _ hw uN) λb o hb e=>uN b o (ji hb) e)
 | succ k ih =>
  intro i s hk hi cC xp hw hR;have aA:i<items.size:=by lia
  refine g9 We ?_;rw[kB Mp _];change wpAny _ A.in1 (pyNext (.ref I) >>= _) _ _ s;refine af (W.item i s _ _ aA cC λv h' tk hP yI hm=>?_);have uN:∀b o,b<=S->s.heap.get? b=some o->h'.get? b=some o:=λb o hb e=>hm b o (λz=>cW _ (qG (aI.mp z ▸ hb) J1)) e;have lT:=g.keep _ _ _ hw uN;change wpAny _ A.in1 (holding [v] (setAdd S v) >>= _) _ _ _;refine af (cP (g.add i v { s with heap:=h',toks:=tk } _ _ hP lT λb1 h2 Vu sb Ah=>?_));have rR:∀b o,b≠S->h'.get? b=some o->h2.get? b=some o:=λb o hb e=>(sb.2 b hb).trans e;refine ah ⟨jq Mp _,ih (i+1) _ (by lia) aA ?_ xp Ah λh3 mU AQ rM=>hR h3 mU AQ λb o hb e=>rM b o hb (rR b o (bo hb) (uN b o (ji hb) e))⟩;refine W.frame _ h' h2 yI λb hb o e=>rR b o (λz=>?_) e;simp only[a8,oV,o8] at hb;rcases hb with rfl|rfl
  .exact cW _ (z ▸ J1)
  .exact cW _ (z ▸ xp)
variable{E:aa->ag->Prop}{s:ag}
set_option maxRecDepth 100000 in
theorem Pg{Q:aa->ag->Prop}(hh:A.handled=none)(hu:A.units+100<cLine)(hl:s.heap.IsList l items)(g:∀B:aC,B.units<cLine->Goes prog w B s.heap.objs.size items J)(j0:∀h:Heap,h.get? s.heap.objs.size=some (jw w)->(∀b o,b<s.heap.objs.size->s.heap.get? b=some o->h.get? b=some o)->J 0 h)
  (q:∀(h':Heap)(tk:Nat),J items.size h'->(∀b o,b<s.heap.objs.size->s.heap.get? b=some o->h'.get? b=some o)->Q (.ref s.heap.objs.size) { s with heap:=h',toks:=tk }) :
  wpAny (model prog w) A (call (.type "set") [.ref l]) Q E s:=by
 obtain⟨c,tl,TZ⟩:=sV.mro;have ZD7:=sV.made;have gQ:=sV.sub;refine nk (Nn ?_);change wpAny _ _ (callAny (.type "set") _) _ _ _;refine ah ⟨Bo _ (by decide +kernel),g9 PySem.F.entry_type_call ?_⟩;rw[aC.under_plain (weight_type_call_type "set" [.ref l] []) rfl];have ZEB:=sV.notType;have canMake:=sV.canCreate;have ZDA:=PySem.F.typeCall_set_1 (.ref l)
 repeat (any_goals (first|assumption|wp_step))
 refine qJ (Zlz (.ref l) (E:=E) (Q₁ := λobj aZ=>obj=.ref s.heap.objs.size/\aZ = { s with heap:=s.heap.push (jw w) }) ⟨rfl,rfl⟩) λr aZ hr=>?_;cases r with
 | error e=>exact hr
 | ok fl =>
  cases fl with
  | ret obj =>
   obtain⟨rfl,rfl⟩:=hr;have hS:(s.heap.push (jw w)).get? s.heap.objs.size=some (jw w):=bS _ rfl;have hT:XM { s with heap:=s.heap.push (jw w) } (.ref s.heap.objs.size) "set" := ⟨_,hS,rfl⟩;have hli:=sV.init.lookup;have hbi:=sV.init.bind (.ref s.heap.objs.size)
   repeat (any_goals (first|assumption|wp_step))
   refine qJ (BR (R:=wants (λr ku=>r=.none/\∃h' tk,ku = { s with heap:=h',toks:=tk }/\J items.size h'/\∀b o,b<s.heap.objs.size->s.heap.get? b=some o->h'.get? b=some o) E) sV.init.plain PySem.F.entry_set_init (check_set_init_1 hT ?_)) λZBc ku KQ=>?_
   .obtain⟨ol,AD,bZ,nl,Tp⟩:=hl;obtain⟨U3,LG,U4,LJ⟩:=ol;simp only at bZ Tp;subst bZ;subst Tp;have Zy9:(s.heap.push (jw w)).get? l=some { cls:=.type "list",dict:=LG,data:=.seq items nl,slots:=LJ }:=aH _ AD;have ZEg:=PySem.F.sub_list_set;have ZEf:=PySem.F.sub_list_frozenset;have aY:(eQ "list" == eQ "dict")=false:=by decide
    have cN:(s.heap.push (jw w)).IsList l items:=⟨_,Zy9,rfl,nl,rfl⟩;unfold cF.«set.__init__» noKeywords ZB6;generalize hPI:pyIter=PI
    wp_walk
    subst hPI;refine vQ cN (af (Gq ?_));have xp:l<s.heap.objs.size:=aP AD;have hsz:(s.heap.push (jw w)).objs.size=s.heap.objs.size+1:=iJ ..;have uD:((s.heap.push (jw w)).push { cls:=.type "list_iterator",data:=.fields #[.ref l,.int 0 0] }).get? s.heap.objs.size=some (jw w):=aH _ hS;have kk:∀b o,b<s.heap.objs.size->s.heap.get? b=some o->((s.heap.push (jw w)).push { cls:=.type "list_iterator",data:=.fields #[.ref l,.int 0 0] }).get? b=some o:=λb o hb e=>aH _ (aH _ e);refine Zki (J:=J) (by simp[hh]) (g _ (by simp only[aC.in1_units];lia)) (by rw[hsz];exact kG _) (by rw[hsz];exact bo (MQ xp)) (items.size-0) 0 _ rfl (bG _)
     ⟨⟨_,bS _ rfl,rfl,rfl⟩,cN.push _⟩ xp (j0 _ uD kk) λh' tk hw hb=>?_
    change wpAny _ _ _ _ _ _;refine ah ?_;change wpAny _ _ (ret bq) _ _ _;exact ah ⟨rfl,h',tk,rfl,hw,λb o aA e=>hb b o aA (kk b o aA e)⟩
   .cases ZBc with
    | error e=>exact KQ
    | ok Zxd =>
     cases Zxd with
     | ret r =>
      obtain⟨rfl,h',tk,rfl,hw⟩:=KQ
      repeat (any_goals (first|assumption|wp_step))
      exact q _ _ hw.1 hw.2
     | _=>exact KQ.elim
  | _=>exact hr.elim
end we
namespace ax
theorem fP.one{α : Type}{lt : α -> α -> Bool}(o:fP lt):∀{l m:List α},l.Pairwise (λa b=>lt a b=true)->m.Pairwise (λa b=>lt a b=true)->(∀x,x∈l↔x∈m)->l=m
 | [],[],_,_,_=>rfl
 | [],b::m,_,_,h=>absurd ((h b).mpr (bw ..)) (by simp)
 | a::l,[],_,_,h=>absurd ((h a).mp (bw ..)) (by simp)
 | a::l,b::m,hl,hm,h=>by
  obtain⟨l1,l2⟩:=vD.mp hl;obtain⟨m1,m2⟩:=vD.mp hm;have e:a=b:=by
   rcases a8.mp ((h a).mp (bw ..)) with z|z
   .exact z
   .rcases a8.mp ((h b).mpr (bw ..)) with y|y
    .exact y.symm
    .have h1:=m1 a z;have h2:=l1 b y;rw[o.mx h1] at h2;cases h2
  subst e;rw[fP.one o l2 m2 λx=>?_];constructor
  .intro hx;rcases a8.mp ((h x).mp (bp _ hx)) with z|z
   .subst z;have:=l1 x hx;rw[o.mM] at this;cases this
   .exact z
  .intro hx;rcases a8.mp ((h x).mpr (bp _ hx)) with z|z
   .subst z;have:=m1 x hx;rw[o.mM] at this;cases this
   .exact z
theorem fP.strict{α : Type}{lt : α -> α -> Bool}(o:fP lt){l:List α}(h:l.Pairwise (λa b=>lt b a=false))(hn:l.Nodup):l.Pairwise (λa b=>lt a b=true):=by
 refine mY.mpr λi j hi hj i8=>?_;have h1:=(mY.mp h) i j hi hj i8;have h2:=(mY.mp hn) i j hi hj i8;cases e:lt l[i] l[j] with
 | true=>rfl
 | false=>exact absurd (o.xU _ _ e h1) h2
end ax
namespace L2
open PySem PySem.Spec PyProof.Rows PySem.W ax l5 we
def tq(q:Qd):HO:=.tup [.int q.1,.str q.2.1,.int q.2.2.1,.int q.2.2.2]
def QL(H:Hp)(zs:List V)(qs:List Qd):Prop:=ck (λz q=>∃p,z=V.ref p/\H p=some (tq q)) zs qs
def gu(q:Qd):List Key:=[aN q.1,fN q.2.1,aN q.2.2.1,aN q.2.2.2]
variable{q:Qd}
theorem QN{q':Qd}(h:gu q=gu q'):q=q':=by
 obtain⟨a,b,c,d⟩:=q;obtain⟨a',b',c',d'⟩:=q';simp only[gu,Fv,aN.injEq,fN.injEq,and_true] at h;obtain⟨rfl,rfl,rfl,rfl⟩:=h;rfl
variable{H:Hp}
theorem QL.mem:∀{zs:List V}{qs:List Qd},QL H zs qs->∀z∈zs,∃p,∃q∈qs,z=V.ref p/\H p=some (tq q):=by
 intro zs qs h z hz;obtain⟨q,e,p,r⟩:=ck.Lw h hz;exact⟨p,q,e,r⟩
theorem QL.length{H:Hp}:∀{zs:List V}{qs:List Qd},QL H zs qs->zs.length=qs.length:=λh=>dz h
theorem QL.get:∀{zs:List V}{qs:List Qd},QL H zs qs->∀(i:Nat) z,zs[i]?= some z->∃p q,qs[i]?= some q/\z=V.ref p/\H p=some (tq q):=by
 intro zs qs h i z hz;obtain⟨q,e,p,r⟩:=ck.z8 h hz;exact⟨p,q,e,r⟩
theorem QL.keep{H':Hp}:∀{zs:List V}{qs:List Qd},QL H zs qs->(∀b xs,H b=some (.tup xs)->H' b=some (.tup xs))->QL H' zs qs:=by
 intro zs qs h k;refine ck.kl h λ_ _ z=>?_;obtain⟨p,e1,e2⟩:=z;exact⟨p,e1,k _ _ e2⟩
theorem Qi:∀{vs:List V}{us:List aa},Vals vs us->∀(i:Nat) u,us[i]?= some u->∃v,vs[i]?= some v/\RelV v u:=λh i u e=>ck.SR h e
variable{P:aq}{w:ap}{h:Heap}{t:Addr}
theorem RJ(ok:bD P w H h)(e:H t=some (tq q)):iP h (.ref t) q:=by
 obtain⟨_,us,fK,o,ho,dD,n,hd⟩:=ok t _ e;obtain⟨u1,us,rfl,r1,fK⟩:=Vals.inv fK;obtain⟨u2,us,rfl,r2,fK⟩:=Vals.inv fK;obtain⟨u3,us,rfl,r3,fK⟩:=Vals.inv fK;obtain⟨u4,us,rfl,r4,fK⟩:=Vals.inv fK;obtain rfl:=Vals.end_ fK;obtain⟨t1,rfl⟩:=r1;obtain⟨t2,rfl⟩:=r2;obtain⟨t3,rfl⟩:=r3;obtain⟨t4,rfl⟩:=r4;exact⟨t,o,t1,t2,t3,t4,n,rfl,ho,dD,hd⟩
variable{h0:Heap}{S:Addr}
theorem HF{x:Int}(hk:fb (ZK P w) h0 (gu q) t)(aA:t<S)(k:∀b o,b<S->h0.get? b=some o->h.get? b=some o)(ks:List Key):eE (ZK P w) h ks (x,.ref t)↔ks=gu q:=by
 obtain⟨o,its,n,h1,h2⟩:=hk;have kP:fb (ZK P w) h (gu q) t:=⟨o,its,n,k t o aA h1,h2⟩;constructor
 .rintro⟨b,e,hb⟩;cases e;exact wy hb kP
 .rintro rfl;exact⟨t,rfl,kP⟩
def qU(P:aq)(w:ap)(h0:Heap)(items:List aa)(qs:List Qd):Prop:=items.length=qs.length/\∀(i:Nat) v q,items[i]?= some v->qs[i]?= some q->∃t,v=.ref t/\fb (ZK P w) h0 (gu q) t/\iP h0 v q
variable{qs:List Qd}
theorem qU.of{zs:List V}{us:List aa}(ok:bD P w H h)(r:Vals zs us)(ql:QL H zs qs):qU P w h us qs:=by
 refine⟨by rw[<- r.length,ql.length],λi v q hv hq=>?_⟩;obtain⟨z,hz,rz⟩:=Qi r i v hv;obtain⟨t,q',h1,rfl,h3⟩:=ql.get i z hz;rw[hq] at h1;cases h1;obtain rfl:v=ar t:=rz;exact⟨t,rfl,wJ ok (ks:=gu q) h3,RJ ok h3⟩
theorem qU.mem{items:List aa}(x:qU P w h0 items qs){v:aa}(hv:v∈items):∃t,∃q∈qs,v=.ref t/\fb (ZK P w) h0 (gu q) t/\iP h0 v q:=by
 obtain⟨i,hi⟩:=fc.mp hv;have aA:=(de.mp hi).1;rw[x.1] at aA;obtain⟨t,h1,h2,h3⟩:=x.2 i v qs[i] hi (cG aA);exact⟨t,qs[i],yi aA,h1,h2,h3⟩
def JQ(P:aq)(w:ap)(h0:Heap)(S:Addr)(items:Array aa)(qs:List Qd)(i:Nat)(h:Heap):Prop :=
 ur (ZK P w) h S (· ∈ items.toList) (λks=>∃(j:Nat)(q:Qd),j<i/\qs[j]?= some q/\ks=gu q) i (wL w)/\∀b o,b<S->h0.get? b=some o->h.get? b=some o
variable{items:Array aa}
theorem JQ.JL{A:aC}(hu:A.units<cLine)(x:qU P w h0 items.toList qs)(hS:h0.objs.size<=S)(hn:items.size<=900):Goes P w A S items (JQ P w h0 S items qs) where
 keep:=λi h h' ⟨⟨o,es,ep,t,ho,hx,hd,hT,hsz,hl,hv,hP⟩,hb⟩ k=>by
  have aG:∀b o,b<S->h0.get? b=some o->h'.get? b=some o:=λb o aA e=>k b o (ji aA) (hb b o aA e);have key:∀e∈es.toList,∀ks,eE (ZK P w) h ks e↔eE (ZK P w) h' ks e:=λe he ks=>by
   obtain⟨tt,q,_,h1,h2,_⟩:=x.mem (hv e he);obtain⟨e1,e2⟩:=e;dsimp only at h1;subst h1;have aA:tt<S:=by
    obtain⟨o2,_,_,g1,_⟩:=h2;exact cg (aP g1) hS
   rw[HF h2 aA hb,HF h2 aA aG]
  refine⟨⟨o,es,ep,t,k S o (aD _) ho,hx,hd,⟨hT.tab,λe he=>?_,hT.way,?_⟩,hsz,hl,hv,λks=>?_⟩,aG⟩
  .obtain⟨ks,h1,h2⟩:=hT.ent e he;exact⟨ks,(key e he ks).mp h1,h2⟩
  .exact Fu (λ{a b} ha aG ei ks h1 h2=>ei ks ((key a ha ks).mpr h1) ((key b aG ks).mpr h2)) hT.one
  .rw[<- hP ks];constructor
   .rintro⟨e,he,h1⟩;exact⟨e,he,(key e he ks).mpr h1⟩
   .rintro⟨e,he,h1⟩;exact⟨e,he,(key e he ks).mp h1⟩
 add:=λi v s Q E hi ⟨J0,hb⟩ q=>by
  have p_:i<items.size:=(oI.mp hi).1;have Ko:i<qs.length:=by rw[<- x.1,aW];exact p_
  have dh:items.toList[i]?= some v:=by rw[fz];exact hi
  obtain⟨t,rfl,h2,_⟩:=x.2 i v qs[i] dh (cG Ko);obtain⟨o2,ou,n2,g1,g2⟩:=h2;have aA:t<S:=cg (aP g1) hS;have hk:fb (ZK P w) s.heap (gu qs[i]) t:=⟨o2,ou,n2,hb t o2 aA g1,g2⟩;refine ZpP hu J0 (by lia) hk (bW dh) λb h' tk _ sb Ah=>q b h' tk sb ⟨?_,λb o aA e=>(sb.2 b (bo aA)).trans (hb b o aA e)⟩;have e:(λks=>(∃(j:Nat)(q:Qd),j<i/\qs[j]?= some q/\ks=gu q)\/ks=gu qs[i])=λks=>∃(j:Nat)(q:Qd),j<i+1/\qs[j]?= some q/\ks=gu q:=funext λks=>propext (by
   constructor
   .rintro(⟨j,q,h1,h2,h3⟩|h)
    .exact⟨j,q,by lia,h2,h3⟩
    .exact⟨i,qs[i],by lia,cG Ko,h⟩
   .rintro⟨j,q,h1,h2,h3⟩;by_cases c:j<i
    .exact .inl ⟨j,q,c,h2,h3⟩
    .have:j=i:=by lia
     subst this;rw[cG Ko] at h2;cases h2;exact .inr h3)
  rw[<- e];exact Ah
theorem JQ.zero(hS:h.get? S=some (jw w))(k:∀b o,b<S->h0.get? b=some o->h.get? b=some o):JQ P w h0 S items qs 0 h :=
 ⟨⟨_,#[],0,_,hS,⟨rfl,rfl,rfl⟩,rfl,⟨⟨rfl,rfl,.inl rfl,(by show(0:Nat)*5<7*3;decide),Bt⟩,(λ_ h=>(nomatch h)),(λi e j h=>(nomatch h)),Bt⟩,aD _,rfl,(λ_ h=>(nomatch h)),λks=>⟨λ⟨_,h,_⟩=>(nomatch h),λ⟨_,_,h,_⟩=>absurd h (lP _)⟩⟩,k⟩
def GI(P:Int->Prop)(l:List (Int×aa)):Prop:=l.Pairwise (λe e'=>jV e.2≠jV e'.2)/\∀i,(∃e∈l,jV e.2=i)↔P i
theorem GI.perm{P:Int->Prop}(l l':List (Int×aa))(p:l'.Perm l)(h:GI P l):GI P l' :=
 ⟨(p.pairwise_iff λ{a b} ei e=>ei e.symm).mpr h.1,λi=>vv ⟨λ⟨e,h1,h2⟩=>⟨e,p.mem_iff.mp h1,h2⟩,λ⟨e,h1,h2⟩=>⟨e,p.mem_iff.mpr h1,h2⟩⟩ (h.2 i)⟩
def GN(l:List (Int×aa)):Prop := ∀e∈l,∃i t,e.2=eC i t
theorem Rm{k i:Int}{t:Nat}:(intKind P w).is k (eC i t)=true↔i=k:=by
 constructor
 .intro h;exact(intKind P w).inj _ _ _ (BS _ _ _ _) h
 .rintro rfl;exact BS _ _ _ _
def JI(P:aq)(w:ap)(h0:Heap)(S:Addr)(ns:List Int)(i:Nat)(h:Heap):Prop :=
 wM (ZK P w) h S (λl=>GN l/\GI (λk=>∃j:Nat,j<i/\ns[j]?= some k) l) i (wL w)/\∀b o,b<S->h0.get? b=some o->h.get? b=some o
variable{ns:List Int}
theorem JI.JL{A:aC}(x:Vals (ns.map V.int) items.toList)(hn:items.size<=900):Goes P w A S items (JI P w h0 S ns) where
 keep:=λi h h' ⟨⟨o,es,ep,t,ho,hx,hd,hE,hT,hsz,hl,hG⟩,hb⟩ k =>
  ⟨⟨o,es,ep,t,k S o (aD _) ho,hx,hd,hE,hT,hsz,hl,hG⟩,λb o aA e=>k b o (ji aA) (hb b o aA e)⟩
 add:=λi v s Q E hi ⟨J0,hb⟩ q=>by
  have dh:items.toList[i]?= some v:=by rw[fz];exact hi
  have p_:i<items.size:=(oI.mp hi).1;obtain⟨z,hz,rz⟩:=Qi x i v dh;rw[bM] at hz;obtain⟨k,hk,rfl⟩:=gB.mp hz;obtain⟨tk0,rfl⟩:=rz;have eP:∀m:Int,(∃j:Nat,j<i+1/\ns[j]?= some m)↔((∃j:Nat,j<i/\ns[j]?= some m)\/m=k):=λm=>by
   constructor
   .rintro⟨j,h1,h2⟩;by_cases c:j<i
    .exact .inl ⟨j,c,h2⟩
    .have:j=i:=by lia
     subst this;rw[hk] at h2;cases h2;exact .inr rfl
   .rintro(⟨j,h1,h2⟩|rfl)
    .exact⟨j,by lia,h2⟩
    .exact⟨i,by lia,hk⟩
  refine ZpB (G':=λl=>GN l/\GI (λk=>∃j:Nat,j<i+1/\ns[j]?= some k) l) (λl l' pp ⟨g1,g2⟩=>⟨λe he=>g1 e (pp.mem_iff.mp he),GI.perm l l' pp g2⟩) J0 (by lia) (λl ⟨hN,g1,g2⟩ hex=>⟨hN,g1,λm=>?_⟩) (λl x ⟨hN,g1,g2⟩ lH=>⟨λe he=>?_,vD.mpr ⟨λe he z=>?_,g1⟩,λm=>?_⟩) λb h' tk _ sb Ah=>q b h' tk sb ⟨Ah,λb o aA e=>(sb.2 b (bo aA)).trans (hb b o aA e)⟩
  .refine vv ?_ (vv (or_congr (g2 m) Wm) (eP m).symm);constructor
   .exact .inl
   .rintro(h|rfl)
    .exact h
    .obtain⟨e,he,h1⟩:=hex;obtain⟨i',t',h2⟩:=hN e he;rw[h2] at h1;exact⟨e,he,by rw[h2];exact Rm.mp h1⟩
  .rcases a8.mp he with rfl|he
   .exact⟨k,tk0,rfl⟩
   .exact hN e he
  .obtain⟨i',t',h2⟩:=hN e he;have h3:=lH e he;rw[h2] at h3 z;have:i'=k:=z.symm;rw[Rm.mpr this] at h3;cases h3
  .refine vv ?_ (vv (or_congr (g2 m) Wm) (eP m).symm);constructor
   .rintro⟨e,he,h1⟩;rcases a8.mp he with rfl|he
    .exact .inr h1.symm
    .exact .inl ⟨e,he,h1⟩
   .rintro(⟨e,he,h1⟩|rfl)
    .exact⟨e,bp _ he,h1⟩
    .exact⟨_,bw ..,rfl⟩
theorem JI.zero(hS:h.get? S=some (jw w))(k:∀b o,b<S->h0.get? b=some o->h.get? b=some o):JI P w h0 S ns 0 h :=
 ⟨⟨_,#[],0,_,hS,⟨rfl,rfl,rfl⟩,rfl,(λ_ h=>(nomatch h)),⟨rfl,rfl,.inl rfl,(by show(0:Nat)*5<7*3;decide),Bt⟩,aD _,rfl,⟨(λ_ h=>(nomatch h)),Bt,λks=>⟨λ⟨_,h,_⟩=>(nomatch h),λ⟨_,h,_⟩=>absurd h (lP _)⟩⟩⟩,k⟩
theorem Rq{P:aq}{w:ap}{H:Hp}{h0:Heap}(ok:bD P w H h0){ys:List V}{its:List aa}{qs:List Qd}(rv:Vals ys its)(ql:QL H ys qs):∀us:List aa,(∀u∈us,u∈its)->∃zs,Vals zs us/\QL H zs (us.map (kq h0))
 | [],_=>⟨[],.nil,.nil⟩
 | u::us,h=>by
  obtain⟨y,hy,ry⟩:=CF rv u (h u (bw ..));obtain⟨zs,rz,hz⟩:=Rq ok rv ql us λx hx=>h x (bp _ hx);obtain⟨t,q,_,rfl,e2⟩:=ql.mem y hy;have hu:u=ar t:=ry;subst hu;exact⟨_,.cons ry rz,.cons ⟨t,rfl,by rw[Dz (RJ ok e2)];exact e2⟩ hz⟩
variable{e:Expr}
theorem JQ.out(x:qU P w h0 items.toList qs)(hS:h0.objs.size<=S)(j:JQ P w h0 S items qs items.size h) :
  ∃o es ep t,h.get? S=some o/\o.ExactSet/\o.data=.set es ep t/\Tab es t/\es.size<=items.size/\t.led=wL w/\(∀e∈es.toList,e.2∈items.toList)/\(es.toList.map λe=>kq h0 e.2).Nodup/\∀q,q∈(es.toList.map λe=>kq h0 e.2)↔q∈qs:=by
 obtain⟨⟨o,es,ep,t,ho,hx,hd,hT,hsz,hl,hv,hP⟩,hb⟩:=j;have key:∀e∈es.toList,∀ks,eE (ZK P w) h ks e↔ks=gu (kq h0 e.2):=λe he ks=>by
  obtain⟨tt,q,_,h1,h2,h3⟩:=x.mem (hv e he);have hq:=Dz h3;obtain⟨e1,e2⟩:=e;dsimp only at h1 hq ⊢;subst h1;have aA:tt<S:=by
   obtain⟨o2,_,_,g1,_⟩:=h2;exact cg (aP g1) hS
  rw[HF h2 aA hb,hq]
 refine⟨o,es,ep,t,ho,hx,hd,hT.tab,hsz,hl,hv,?_,λq=>?_⟩
 .refine iK.mpr (Fu (λ{a b} ha aG ei z=>?_) hT.one);exact ei _ ((key a ha _).mpr rfl) ((key b aG _).mpr (by rw[z]))
 .have h1:=hP (gu q);constructor
  .intro hq;obtain⟨e,he,rfl⟩:=aX.mp hq;obtain⟨j,q',_,h2,h3⟩:=h1.mp ⟨e,he,(key e he _).mpr rfl⟩;rw[QN h3];exact bW h2
  .intro hq;obtain⟨j,hj⟩:=fc.mp hq;have Kq:=(de.mp hj).1;obtain⟨e,he,hbr⟩:=h1.mpr ⟨j,q,by rw[<- aW,x.1];exact Kq,hj,rfl⟩;exact aX.mpr ⟨e,he,(QN ((key e he _).mp hbr)).symm⟩
def PR(K:ay)(v:V)(H:Hp)(Q:VK):Prop :=
 (∃l ys qs,v=.ref l/\au K H l ys/\ys.length<=63/\QL H ys qs/\∀r zs ms,H r=none->ms.Pairwise (λa b=>qx a b=true)->(∀q,q∈ms↔q∈qs)->QL H zs ms->Q (.ref r) (upd H r (.lst zs))) \/
 (∃(l:Addr)(ns:List Int),v=.ref l/\au K H l (ns.map V.int)/\ns.length<=63/\∀r (ms:List Int),H r=none->ms.Pairwise (· < ·)->(∀i,i∈ms↔i∈ns)->Q (.ref r) (upd H r (.lst (ms.map V.int))))
variable{X:Cx}{te:TE}{p p' pos pos':Pos}
theorem CB(hc:X.calm=true)(hu:X.A.units+200<cLine)(hg:Gl X "sorted") (hm:X.mg "sorted" = none) (Y4:Gl X "set") (jM:X.mg "set" = none) (pa:PA X [e] (nU te iz))
  (hs:starEach [e] X.env=[(false,eval e X.env)]:=by rfl) (Ce:starEach [.Call (.Name "set" p') [e] [] pos'] X.env=[(false,eval (.Call (.Name "set" p') [e] [] pos') X.env)]:=by rfl) :
  PE X (.Call (.Name "sorted" p) [.Call (.Name "set" p') [e] [] pos'] [] pos) (λσ H Q=>te σ H λv H1=>PR X.K v H1 Q):=by
 intro ac s σ H Q I h;refine o9 (nQ I hg hm Zh1 ?_);refine Xa ?_ Ce rfl;rw[Ce];refine oJ ?_;refine o9 (nQ I Y4 jM Zof ?_);refine BJ (aw (pa pos' ac s σ H (λvs H1=>match vs with | [v]=>PR X.K v H1 Q|_=>False) I h) ?_) hs rfl
 rintro us s1 ⟨vs,H1,I1,r,q⟩
 match vs,r,q with
 | [v],r,q =>
  obtain⟨u,rfl,ru⟩:=r.one;rcases q with⟨l,ys,qs,rfl,hq,Av,rZ,q⟩|⟨l,ns,rfl,hq,Av,q⟩
  .cases ru;obtain⟨its,rv,pl,hz⟩:=I1.list hq;have hlen:=rv.length;have x:qU X.prog X.w s1.heap its.toArray.toList qs:=qU.of I1.aj rv rZ;refine Pg (J:=JQ X.prog X.w s1.heap s1.heap.objs.size its.toArray qs) (I1.ok.hd hc) (by lia) pl.isList (λB hB=>JQ.JL hB x (aD _) (by rw[cO];lia)) (λh h1 h2=>JQ.zero h1 h2) λh2 tk hJ k2=>?_;refine sH ?_;have pB:∀b o,s1.heap.get? b=some o->h2.get? b=some o:=λb o e=>k2 b o (aP e) e;obtain⟨o,es,ep,t,ho,hx,hd,hT,hsz,eZ,hv,i9,dY⟩:=hJ.out x (aD _);have Y5:es.size<=its.length:=by simpa using hsz
   refine Cw (lv:=λu v=>qx (kq s1.heap u) (kq s1.heap v)) (s:={ s1 with heap:=h2,toks:=tk }) (C:=λys=>ys.Perm (es.toList.map (·.2))) (Ii.Vo (kq s1.heap)) (λQ' E' bX=>?_) (λpC h6 Vv d6 hC k6 z_=>?_) λpa pC out h3 mU d3 c hC eM jc k3 e3 hle KC=>?_
   .refine Oq (I1.ok.hd hc) ho hx hd hT eZ (by lia) λpC h' tI d' k' hp hle=>bX pC h' tI d' k' hp ?_ hle;rw[hp.length_eq,aF,aW];lia
   .refine Zf2 (h0:=s1.heap) (λv pA=>?_) (λb o e=>k6 b o (pB b o e)) z_;obtain⟨e,he,rfl⟩:=aX.mp (hC.mem_iff.mp pA);obtain⟨tt,q,_,h1,_,h3⟩:=x.mem (hv e he);exact⟨q,h3⟩
   .have dH:out.toList.Perm (es.toList.map (·.2)):=eM.trans hC;obtain⟨zs,rz,Lc⟩:=Rq I1.aj rv rZ out.toList λu hu=>by
     obtain⟨e,he,rfl⟩:=aX.mp (dH.mem_iff.mp hu);exact hv e he
    have iE:zs.length=out.size:=rz.length.trans (aW ..);have uD:s1.heap.objs.size<=pa:=cz (ji (aP ho)) hle;have I2:=I1.laid (h':=h3) (t':=mU) (a:=pa) (o:=.lst zs) (λb o e=>k3 b o (pB b o e)) uD (show ZX X.prog X.w _ h3 _ (.lst zs) from⟨by rw[bu];lia,out.toList,c,rz,e3⟩);have Az:(out.toList.map (kq s1.heap)).Perm (es.toList.map λe=>kq s1.heap e.2):=by
     have:=dH.map (kq s1.heap);rw[ij] at this;exact this
    refine⟨.ref pa,_,I2.draws (d:=d3),rfl,q pa zs _ (I1.aj.fresh uD) (Ii.strict ?_ (Az.nodup_iff.mpr i9)) (λq=>Az.mem_iff.trans (dY q)) Lc⟩;exact iK.mpr jc
  .cases ru;obtain⟨its,rv,pl,hz⟩:=I1.list hq;have hlen:=rv.length;rw[aF] at hlen;refine Pg (J:=JI X.prog X.w s1.heap s1.heap.objs.size ns) (I1.ok.hd hc) (by lia) pl.isList (λB hB=>JI.JL rv (by rw[cO];lia)) (λh h1 h2=>JI.zero h1 h2) λh2 tk hJ k2=>?_;refine sH ?_;have pB:∀b o,s1.heap.get? b=some o->h2.get? b=some o:=λb o e=>k2 b o (aP e) e;obtain⟨⟨o,es,ep,t,ho,hx,hd,hE,hT,hsz,eZ,hN,i9,dY⟩,hb⟩:=hJ;have Y5:es.size<=its.length:=by simpa using hsz
   refine Cw (s:={ s1 with heap:=h2,toks:=tk }) (C:=λys=>ys.Perm (es.toList.map (·.2))) QW (λQ' E' bX=>?_) (λpC h6 Vv d6 hC k6 z_=>?_) λpa pC out h3 mU d3 c hC eM jc k3 e3 hle KC=>?_
   .refine Oq (I1.ok.hd hc) ho hx hd hT eZ (by lia) λpC h' tI d' k' hp hle=>bX pC h' tI d' k' hp ?_ hle;rw[hp.length_eq,aF,aW];lia
   .refine Oa (λv pA=>?_) z_;obtain⟨e,he,rfl⟩:=aX.mp (hC.mem_iff.mp pA);exact hN e he
   .have dH:out.toList.Perm (es.toList.map (·.2)):=eM.trans hC;have hon:∀us:List aa,(∀u∈us,∃i t,u=eC i t)->Vals ((us.map jV).map V.int) us:=λus=>by
     induction us with
     | nil=>exact λ_=>.nil
     | cons u us ih =>
      intro hu;obtain⟨i,t,rfl⟩:=hu u (bw ..);exact .cons ⟨t,rfl⟩ (ih λx hx=>hu x (bp _ hx))
    have rz:=hon out.toList λu hu=>by
     obtain⟨e,he,rfl⟩:=aX.mp (dH.mem_iff.mp hu);exact hN e he
    have uD:s1.heap.objs.size<=pa:=cz (ji (aP ho)) hle;have I2:=I1.laid (h':=h3) (t':=mU) (a:=pa) (o:=.lst ((out.toList.map jV).map V.int)) (λb o e=>k3 b o (pB b o e)) uD (show ZX X.prog X.w _ h3 _ (.lst ((out.toList.map jV).map V.int)) from⟨by rw[aF,aF,aW,bu];lia,out.toList,c,rz,e3⟩);have Az:(out.toList.map jV).Perm (es.toList.map λe=>jV e.2):=by
     have:=dH.map jV;rw[ij] at this;exact this
    refine⟨.ref pa,_,I2.draws (d:=d3),rfl,q pa _ (I1.aj.fresh uD) (Vn (rising rz jc) (Az.nodup_iff.mpr (iK.mpr i9))) (λi=>Az.mem_iff.trans (vv ?_ ((dY i).trans ?_)))⟩
    .constructor
     .intro hi;obtain⟨e,he,rfl⟩:=aX.mp hi;exact⟨e,he,rfl⟩
     .rintro⟨e,he,rfl⟩;exact aX.mpr ⟨e,he,rfl⟩
    .constructor
     .rintro⟨j,_,h2⟩;exact bW h2
     .intro hi;obtain⟨j,hj⟩:=fc.mp hi;exact⟨j,by have:=(de.mp hj).1;simp;lia,hj⟩
end L2
namespace L2
open PySem PySem.Spec PyProof.Rows
theorem ZiD{a b c:Int}(ha : -1000000<=a)(hU:a<=1000000)(hb : -1000000<=b)(aG:b<=1000000)(hc:c=2):V2 a b c=true:=by
 unfold V2 mX;simp only[ZB7,gA,Ff,kJ,oY];subst hc;simp only[show(2:Int) > 0 by decide,qK]
 split <;> refine⟨⟨⟨⟨⟨?_,?_⟩,?_,?_⟩,by decide,by decide⟩,?_,?_⟩,?_⟩ <;> first|lia|(right;simp;lia)|(left;rfl)
def ZoK(ta:TA):TI:=λσ H R=>ta σ H λvs H1=>∃a b c:Int,vs=[.int a,.int b,.int c]/\(-1000000<=a/\a<=1000000 /\ -1000000<=b/\b<=1000000)/\c=2/\R (zP a c (mX a b c).toNat) H1
variable{X:Cx}{tg:Expr}
theorem Zkl{a b c:Expr}{ta:TA}{p pos:Pos}(hg:Gl X "range") (hm:X.mg "range" = none) (ha:PA X [a,b,c] ta) (hs:starEach [a,b,c] X.env=[(false,eval a X.env),(false,eval b X.env),(false,eval c X.env)]:=by rfl)
  (qj:starEach [b,c] X.env=[(false,eval b X.env),(false,eval c X.env)]:=by rfl) (hs3:starEach [c] X.env=[(false,eval c X.env)]:=by rfl):PI X tg (.Call (.Name "range" p) [a,b,c] [] pos) (ZoK ta):=by
 intro ac s σ H R I h;refine Call_ (nQ I hg hm boot_range (BJ (aw (ha pos ac s σ H _ I h) ?_) (by rw[hs,qj]) (by rw[qj];rfl)));rintro us s1 ⟨vs,H1,I1,r1,q1⟩;obtain⟨x,y,z,e,⟨q1,q2,q3,q4⟩,hz,q⟩:=q1;subst e;have hz0:z≠0:=by subst hz;decide
 have EF:z.natAbs<1073741824:=by subst hz;decide
 cases r1 with
 | cons r rr =>
  cases rr with
  | cons r2 rr =>
   cases rr with
   | cons r3 rr =>
    cases rr;obtain⟨t,rfl⟩:=r;obtain⟨t2,rfl⟩:=r2;obtain⟨t3,rfl⟩:=r3;refine call_range_3 hz0 ?_ (.inl (Xc EF));refine YD (Wr ..) (ZiD q1 q2 q3 q4 hz) ?_;have I2:Inv X ac σ H1 { s1 with heap:=s1.heap.push { cls:=.type "range",data:=.fields #[.int x t,.int y t2,.int z t3] } }:=I1.kept (t':=s1.toks) λb o e=>aH _ e;refine⟨_,[_],_,_,H1,rfl,I2.kept (t':=s1.toks) λb o e=>aH _ e,Zii _ x z (mX x y z).toNat,?_,λb hb=>?_,q⟩
    .have hn:0<=mX x y z:=by
      unfold mX;subst hz;rw[ao (by decide)]
      split <;> lia
     show Ft _ _ (x+((0:Nat):Int)*z) (((mX x y z).toNat:Int)-((0:Nat):Int)) z;rw[Int.toNat_of_nonneg hn,show x+((0:Nat):Int)*z=x by simp,show mX x y z-((0:Nat):Int)=mX x y z by simp];exact bS _ rfl
    .obtain rfl:=aI.mp hb;exact I2.lC (aD _) (I2.aj.fresh (aD _))
theorem Znn:bootBuiltins "any" = some (.builtin "any"):=by decide +kernel
theorem any_range:∀(bs:List Bool),((fL bs.length).any λi=>(bs[i]?).getD false)=bs.any id:=by
 intro bs;rw[sG,vw,vw];constructor
 .rintro⟨i,hi,h⟩;have dh:=ik.mp hi;rw[cG dh] at h;exact⟨_,yi dh,h⟩
 .rintro⟨b,hb,h⟩;obtain⟨i,hi,rfl⟩:=WI hb;exact⟨i,ik.mpr hi,by rw[cG hi];exact h⟩
theorem Zle(hc:X.calm=true):gH X (.builtin "any") (λxs H Q=>∃(p:Addr)(bs:List Bool),xs=[.ref p]/\au X.K H p (bs.map V.bl)/\Q (.bl (bs.any id)) H):=by
 intro ac s σ H xs us Q I r h;obtain⟨p,bs,rfl,hS,q⟩:=h;obtain⟨u,rfl,ru⟩:=Vals.one r;cases ru;obtain⟨its,rv,pl,hz⟩:=I.list hS;have hl:=pl.isList;have hlen:bs.length=its.length:=by
  have:=rv.length;rw[aF] at this;exact this
 refine call_any_walk (vQ hl ⟨s.heap.objs.size,[s.heap.objs.size,p],[s.heap.objs.size],its.toArray.size,_,_,λi=>(bs[i]?).getD false,rfl,
  BQ (A:=X.A.in1) (I.ok.hd hc) _ p (bo pl.lt) its.toArray,⟨⟨_,bS _ rfl,rfl,rfl⟩,hl.push _⟩,λi v s' Q' E' hP hQ=>?_,λh' tk hk=>?_⟩)
 .obtain⟨b,e,e2⟩:=HG rv i v (by simpa using hP);subst e2;simp only[e,W7] at hQ;exact nr hQ
 .rw[cO,<- hlen,any_range];refine⟨.bl _,H,I.kept (t':=tk) λb o e=>hk b o (λhm=>?_) (aH _ e),rfl,q⟩;rw[aI.mp hm] at e;exact cW _ (aP e)
end L2
namespace Fg
open PySem L2 nB
variable{X:Cx}{K:ay}{n:Nat}
theorem Zna{es:List Expr}{k:Nat}{t:qV}{pos:Pos}(hK:X.K=K)(hc:X.calm=true)(h:yS X es t)(hn:(assignEach es X.env).length=n:=by rfl)(cC:(assignEach es X.env).findIdx? (·.1)=none:=by rfl):PG X (.Tuple es k pos) (R3 K n t):=by
 subst hK;exact wC hc h hn cC
theorem P2:bootBuiltins "sorted" = some (.builtin "sorted"):=by decide +kernel
variable{a p:Addr}{xs:List V}{g:TG}{te:TE}{R:Hp->Prop}{gz:St}{H0:Hp}
theorem HB(Pv:Nat->List V->St->Hp->Prop)(h0:Pv 0 [] gz H0)
  (hl:∀i ys σ H,i<=xs.length->Pv i ys σ H->az K H a xs/\H p=some (.lst ys))
  (hs:∀i ys x σ H,i<xs.length->xs[i]?= some x->Pv i ys σ H->g x σ H λaS H4=>te aS H4 λv H5=>H5 p=some (.lst ys)/\ys.length<sizeLine/\∃m',m'<xs.length-i/\CW xs.length Pv (i+1) m' (ys ++ [v]) aS (upd H5 p (.lst (ys ++ [v]))))
  (hd:∀ys σ H,Pv xs.length ys σ H->R H) :
  ∃W:Nat->Nat->List V->St->Hp->Prop,(∃m,W 0 m [] gz H0)/\∀i m ys dc H2,W i m ys dc H2->H2 p=some (.lst ys)/\(((lX K a).stop i H2/\R H2)\/((lX K a).go i H2/\∀x H3,(lX K a).ii i H2 x H3->g x dc H3 λaS H4=>te aS H4 λv H5 =>
   H5 p=some (.lst ys)/\ys.length<sizeLine/\∃m',m'<m/\W (i+1) m' (ys ++ [v]) aS (upd H5 p (.lst (ys ++ [v]))))):=by
 refine⟨CW xs.length Pv,⟨_,rfl,bG _,h0⟩,?_⟩;rintro i m ys σ H ⟨rfl,hi,hp⟩;obtain⟨h1,h2⟩:=hl i ys σ H hi hp;refine⟨h2,?_⟩;by_cases aA:i<xs.length
 .refine .inr ⟨⟨xs,xs[i],h1,cG aA⟩,?_⟩;rintro x H3 ⟨rfl,hx⟩;exact hs i ys x σ _ aA (hx xs h1) hp
 .refine .inl ⟨⟨xs,h1,by lia⟩,hd ys σ H ?_⟩;have e:i=xs.length:=by lia
  rw[<- e];exact hp
theorem Zq{α : Type}{l:List α}{i:Nat}{x : α}(h:l[i]?= some x):l.take (i+1)=l.take i ++ [x]:=by
 rw[List.take_add_one,h];rfl
theorem OB{lo:Int}(Pv:Nat->List V->St->Hp->Prop)(h0:Pv 0 [] gz H0)
  (hl:∀i ys σ H,i<=n->Pv i ys σ H->H p=some (.lst ys))
  (hs:∀i ys σ H,i<n->Pv i ys σ H->g (.int (lo+i)) σ H λaS H4=>te aS H4 λv H5=>H5 p=some (.lst ys)/\ys.length<sizeLine/\∃m',m'<n-i/\CW n Pv (i+1) m' (ys ++ [v]) aS (upd H5 p (.lst (ys ++ [v]))))
  (hd:∀ys σ H,Pv n ys σ H->R H) :
  ∃W:Nat->Nat->List V->St->Hp->Prop,(∃m,W 0 m [] gz H0)/\∀i m ys dc H2,W i m ys dc H2->H2 p=some (.lst ys)/\(((pE lo n).stop i H2/\R H2)\/((pE lo n).go i H2/\∀x H3,(pE lo n).ii i H2 x H3->g x dc H3 λaS H4=>te aS H4 λv H5 =>
   H5 p=some (.lst ys)/\ys.length<sizeLine/\∃m',m'<m/\W (i+1) m' (ys ++ [v]) aS (upd H5 p (.lst (ys ++ [v]))))):=by
 refine⟨CW n Pv,⟨_,rfl,bG _,h0⟩,?_⟩;rintro i m ys σ H ⟨rfl,hi,hp⟩;refine⟨hl i ys σ H hi hp,?_⟩;by_cases aA:i<n
 .refine .inr ⟨aA,?_⟩;rintro x H3 ⟨rfl,rfl⟩;exact hs i ys σ _ aA hp
 .have e:i=n:=by lia
  subst e;exact .inl ⟨aD _,hd ys σ H hp⟩
theorem OX(h:X.K=K):c7 X (compareOp .In) (Vf K false):=h ▸ Zku
def Zos(K:ay)(ta:TE):TT:=λσ H Q=>ta σ H λx H'=>∃k,IX K x H' k/\Q k H'
theorem ZiK{a:Expr}{ta:TE}(h:X.K=K)(ha:PE X a ta)(he:∀whole,isTrue a X.env whole=(do let v <- whole;standAt a.pos;holding [v] (truthy v))) :
  PT X a (Zos K ta):=by
 subst h;exact iT ha he
theorem jR{H:Hp}{ys zs:List V}(hp:H p=some (.lst ys)):∀b xs,H b=some (.tup xs)->(upd H p (.lst zs)) b=some (.tup xs):=λb xs h=>by
 rw[Zc (λe=>by rw[e,hp] at h;cases h)];exact h
def RI:Sp:=λvs H Q _=>∃s v:Int,vs=[.int s,.int v]/\∀t:Str,mw t->t.length<=8->Q (.str t) H
def P1(K:ay):Sp:=λvs H Q _=>∃(a:Addr)(ns:List Int)(k:Int),vs=[.ref a,.int k]/\au K H a (ns.map V.int)/\ns.length<=63/\0<=k/\k<=1000/\∀v:Int,0<=v->v<2147483647->Q (.int v) H
theorem ZpE{body:List Stmt}{D:Ends}(R0:St->Hp->Prop)(n:Nat)(R:St->Hp->Prop)(h2:∃u,c8 X (body.drop n) u/\∀ av H',R av H'->u D av H')
  (h1:∀u,c8 X (body.drop n) u->(∀ av H',R av H'->u D av H')->∃t,c8 X body t/\∀ σ H,R0 σ H->t D σ H):∃t,c8 X body t/\∀ σ H,R0 σ H->t D σ H :=
 let ⟨u,a,b⟩:=h2
 h1 u a b
structure FQ where
 n:Int
 hs:List Int
 ts:List Int
 qs:List ax.Qd
abbrev rG(l:List Int):Prop:=l.Pairwise (· < ·)
abbrev Zo4(l:List ax.Qd):Prop:=l.Pairwise (λa b=>ax.qx a b=true)
def fF(H:Hp)(a:Addr)(f:FQ):Prop := ∃(h1 h2 h3:Addr)(zs:List V),H a=some (.tup [.int f.n,.ref h1,.ref h2,.ref h3])/\H h1=some (.tup (f.hs.map V.int))/\H h2=some (.tup (f.ts.map V.int))/\H h3=some (.tup zs)/\QL H zs f.qs
theorem fF.same{H H':Hp}{f:FQ}(h:fF H a f)(s:Zj H H'):fF H' a f:=by
 obtain⟨h1,h2,h3,zs,e1,e2,e3,e4,e5⟩:=h;exact⟨h1,h2,h3,zs,s _ _ e1,s _ _ e2,s _ _ e3,s _ _ e4,e5.keep λb xs e=>s _ _ e⟩
theorem QL.snoc{H:Hp}{q:ax.Qd}{p:Addr}(e:H p=some (tq q)):∀{zs:List V}{qs:List ax.Qd},QL H zs qs->QL H (zs ++ [.ref p]) (qs ++ [q])
 | _,_,.nil=>.cons ⟨p,rfl,e⟩ .nil
 | _,_,.cons r t=>.cons r (QL.snoc e t)
theorem me{α : Type}[DecidableEq α]:∀{l m:List α},l.Nodup->(∀x∈l,x∈m)->l.length<=m.length
 | [],_,_,_=>bG _
 | a::l,m,hn,h=>by
  obtain⟨h1,h2⟩:=gY.mp hn;have ha:=h a (bw ..);have h3:=me (m:=m.erase a) h2 λx hx=>(List.mem_erase_of_ne (λ(e:x=a)=>h1 (e ▸ hx))).mpr (h x (bp _ hx));rw[List.length_erase_of_mem ha] at h3;have:=List.length_pos_of_mem ha;rw[bB];lia
theorem OG{l:List ax.Qd}(h:Zo4 l):l.Nodup:=h.imp λ{a b} ei e=>by
 subst e;rw[ax.Ii.mM] at ei;cases ei
variable{l:List Int}
theorem tV(h:rG l):l.Nodup:=h.imp λ{a b} ei e=>by lia
theorem PY{m:List Int}(hl:rG l)(hm:rG m)(h:∀x,x∈l↔x∈m):l=m :=
 ax.zx.one (hl.imp λh=>aJ h) (hm.imp λh=>aJ h) h
theorem zO(x:Int){n:Int}(h:1<=n):0<=x % n/\x % n<n:=⟨oN _ (by lia),oM _ (by lia)⟩
theorem Pj{tt:TT}(Pv:Nat->List V->St->Hp->Prop)(h0:Pv 0 [] gz H0)
  (hl:∀i ys σ H,i<=xs.length->Pv i ys σ H->az K H a xs/\H p=some (.lst ys))
  (hs:∀i ys x σ H,i<xs.length->xs[i]?= some x->Pv i ys σ H->g x σ H λaS H4=>tt aS H4 λb g_=>if b=true then te aS g_ λv H5=>H5 p=some (.lst ys)/\ys.length<sizeLine/\∃m',m'<xs.length-i/\CW xs.length Pv (i+1) m' (ys ++ [v]) aS (upd H5 p (.lst (ys ++ [v])))
   else ∃m',m'<xs.length-i/\CW xs.length Pv (i+1) m' ys aS g_)
  (hd:∀ys σ H,Pv xs.length ys σ H->R H) :
  ∃W:Nat->Nat->List V->St->Hp->Prop,(∃m,W 0 m [] gz H0)/\∀i m ys dc H2,W i m ys dc H2->H2 p=some (.lst ys)/\(((lX K a).stop i H2/\R H2)\/((lX K a).go i H2/\∀x H3,(lX K a).ii i H2 x H3->g x dc H3 λaS H4=>tt aS H4 λb g_=>if b=true then te aS g_ λv H5 =>
   H5 p=some (.lst ys)/\ys.length<sizeLine/\∃m',m'<m/\W (i+1) m' (ys ++ [v]) aS (upd H5 p (.lst (ys ++ [v]))) else ∃m',m'<m/\W (i+1) m' ys aS g_)):=by
 refine⟨CW xs.length Pv,⟨_,rfl,bG _,h0⟩,?_⟩;rintro i m ys σ H ⟨rfl,hi,hp⟩;obtain⟨h1,h2⟩:=hl i ys σ H hi hp;refine⟨h2,?_⟩;by_cases aA:i<xs.length
 .refine .inr ⟨⟨xs,xs[i],h1,cG aA⟩,?_⟩;rintro x H3 ⟨rfl,hx⟩;exact hs i ys x σ _ aA (hx xs h1) hp
 .have e:i=xs.length:=by lia
  subst e;exact .inl ⟨⟨xs,h1,aD _⟩,hd ys σ H hp⟩
theorem Qj{x:Int}{xs:List Int}:EH (.int x) (xs.map V.int)=decide (x∈xs):=by
 unfold EH;rw[sG,vw,kJ];constructor
 .rintro⟨y,hy,h⟩;obtain⟨z,hz,rfl⟩:=aX.mp hy;have:z=x:=by
   have h':(z == x)=true:=by simpa[n9] using h
   exact eq_of_beq h'
  exact this ▸ hz
 .intro h;exact⟨V.int x,aX.mpr ⟨x,h,rfl⟩,by simp[n9]⟩
theorem Pf(xs:List Int):(xs.map V.int).all pM=true:=by
 rw[Bv];intro y hy;obtain⟨z,_,rfl⟩:=aX.mp hy;rfl
end Fg
namespace L2
open PySem PySem.Spec PyProof.Rows
def ZnC(td ty tx:TE):TE:=λσ H Q=>td σ H λx H1=>∃a,x=.ref a/\G2 H1 a/\ty σ H1 λy H2=>tx σ H2 λz H3=>∃ae k,H3 a=some (.dK ae)/\y=kV k/\ae.length<sizeLine /\
 (∀v,bz ae k=some v->Q v H3)/\(bz ae k=none->Q z (upd H3 a (.dK (putK ae k z))))
section
variable{X:Cx}{o e f:Expr}{apos bP:Pos}{td ty tx:TE}
theorem PX(ho:PE X o td)(he:PE X e ty)(hf:PE X f tx)(m:M2 X o "setdefault" apos e f bP):PE X (.Call (.Attribute o "setdefault" apos) [e,f] [] bP) (ZnC td ty tx):=by
 intro ac s σ H Q I h;refine BX m.base m.eY m.line BK Xn PySem.F.type_dict_setdefault (aw (ho ac s σ H _ I h) ?_);rintro u s1 ⟨x,H1,I1,rx,a,ex,d,q1⟩;subst ex;obtain rfl:u=ar a:=rx;obtain⟨t1,t2,_⟩:=RB I1 d;refine⟨t1,t2,?_⟩;rw[m.xT];refine vt rfl (x_ (oJ (aw (he ac s1 σ H1 _ I1 q1) λiv s2 ⟨y,H2,I2,ry,q2⟩ =>
  oJ (aw (hf ac s2 σ H2 _ I2 q2) λfv s3 ⟨z,H3,I3,rz,ae,k,e3,ey,hl,g1,g2⟩=>sH ?_))))
 subst ey;obtain⟨zz,hd,vs,rel,dd⟩:=IS I3.aj e3;have hz:vs.length<=sizeLine:=by rw[<- rel.length];exact zz
 have rv:=rel.val k;refine vN Xn dd.typeIs PySem.F.entry_dict_setdefault (PySem.F.args_dict_setdefault_3 _ _ _) (kt_meets_setdefault (ZK X.prog X.w) a (uj ry) hd fv) ⟨vs,dd,hz,λv hv=>?_,λhn h' lS hs=>?_⟩
 .rw[hv] at rv;cases hk:bz ae k with
  | none =>
   rw[hk] at rv;exact(show False from rv).elim
  | some x =>
   rw[hk] at rv;exact⟨x,H3,I3.tok _,rv,g1 x hk⟩
 .rw[hn] at rv;cases hk:bz ae k with
  | some x =>
   rw[hk] at rv;exact(show False from rv).elim
  | none =>
   have he:∃q,h'.get? a=some q:=let ⟨q,_,_,hq,_⟩:=lS;⟨q,hq⟩;have iD:(putK ae k z).length<=sizeLine:=by have:=wj ae k z;lia
   exact⟨z,_,zq I3 (by rw[e3];exact jo) hs he (Rn iD hd (rel.put k rz) lS),rz,g2 hk⟩
end
end L2
namespace Fg
open PySem L2 nB
def DI(H:Hp)(p:Addr)(ns:List Int):Prop := ∃m:List (Key×V),H p=some (.dK m)/\m.map (·.1)=ns.map aN
variable{ns:List Int}
theorem DI.same{H H':Hp}{p:Addr}(h:DI H p ns)(s:Zj H H'):DI H' p ns:=by
 obtain⟨m,h1,h2⟩:=h;exact⟨m,s _ _ h1,h2⟩
variable{m:List (Key×V)}
theorem DI.has(h:m.map (·.1)=ns.map aN)(x:Int):(bz m (aN x)).isSome=decide (x∈ns):=by
 rw[<- rm];have e1:(m.any λkv=>decide (kv.1=(aN x:Key)))=(m.map (·.1)).any (λy=>decide (y=(aN x:Key))):=by rw[Ww];rfl
 rw[e1,h,Ww,sG,vw,kJ];constructor
 .rintro⟨y,hy,h⟩;have:=bC h;injection this with this;rw[<- this];exact hy
 .intro hx;exact⟨x,hx,aJ rfl⟩
theorem DI.put(h:m.map (·.1)=ns.map aN)(x:Int)(v:V):(putK m (aN x) v).map (·.1)=(if x∈ns then ns else ns ++ [x]).map aN:=by
 have hh:=DI.has h x;unfold putK;rw[rm,hh];by_cases hx:x∈ns
 .rw[aJ hx,ao rfl,ao hx,ij,<- h];refine BC λkv _=>?_;show(if kv.1=aN x then(kv.1,v) else kv).1=kv.1
  split <;> rfl
 .rw[bt hx,ai (by decide),ai hx,eN,eN,h];rfl
end Fg
namespace L2
open PySem PySem.Spec PyProof.Rows
section
variable{X:Cx}{C:Addr}{m x:Str}{ps:List Str}{j k:Nat}{sp:Sp}{o e:Expr}{es:List Expr}{ta:TE}{t:TA}{p pos apos:Pos}
theorem Df(G:qS X.prog X.w X.K X.mg X.base C x ps j sp)(hr:bK k X.A)(hg:Gl X x)(ha:PA X (e::es) t)(hk:j+1<=k:=by decide)(dG:(x == ("__debug__" : Str))=false:=by decide)
  (he:starEach (e::es) X.env=(false,eval e X.env)::starEach es X.env:=by rfl) (aM:(backTo pos (starEach es X.env)).any (·.1)=false:=by rfl):PE X (.Call (.Name x p) (e::es) [] pos) (RQ C sp [] E0 t):=by
 obtain⟨f,fd,F,b,M,hm⟩:=G.ex;exact Zmy M F (hr.mono hk) hg hm b .nil zG ha dG he aM
end
theorem Qz{X:Cx}{K:ay}{e:Expr}{f:Str}{pos:Pos}{ta:TE}(hK:X.K=K)(he:PE X e ta)(hb:attributeBase e f X.env (eval e X.env)=eval e X.env):PE X (.Attribute e f pos) (RZ K ta f):=hK ▸ dX he hb
end L2
namespace Fg
open PySem L2 nB
theorem made{H H':Hp}{x dx C:Addr}(hx:H x=none)(Kb:H dx=none)(kb:∀b o,b≠x->(upd (upd H dx (.own x)) x (.ins C dx [])) b=some o->H' b=some o):Zj H H':=λb o e=>kb b o (Zi e hx) (by
 rw[Zc (Zi e hx),Zc (Zi e Kb)];exact e)
theorem Ziw{t:Str}(h:pP t):kI t=true:=by
 unfold kI;rw[Array.all_eq_true'];intro c hc;have:=h c (VN.mpr hc);exact aJ (by lia)
def wY:Gr Str->Nat
 | .nil=>0
 | .cons _ w o=>1+wY w+wY o
theorem CT:∀g:Gr Str,(words SL g).length=2*wY g
 | .nil=>rfl
 | .cons t w o=>by
  have h1:=CT w;have h2:=CT o;simp only[words,wY,bB,cw];lia
namespace Pa
end Pa
end Fg
namespace L2
open PySem PySem.Spec PyProof.Rows PySem.W
variable{X:Cx}
theorem ZkQ:um X (λ_ _ _ _=>False):=λ_ _ _ _ _ _ _ _ _ _ _ h=>h.elim
structure tT(K:Frag)(C D:Addr):Prop where
 ca:findIn K (.ref C) "__class__" = some (some (.builtin "object.__class__"))
 gt:specialIn K (.builtin "object.__class__") "__get__" = some (some (.builtin "getset_descriptor.__get__"))
 tk:takesIn K (.builtin "object.__class__")=some true
 ob:mroIn K C (.type "object")=some true
 ty:typeIn K (.ref D)=some (.type "type")
variable{prog:aq}{w:ap}{A:aC}{E:aa->ag->Prop}{s:ag}{K:Frag}{x C D:Addr}{ox od:Obj}{f:Str}
theorem Zns{Q:Option aa->ag->Prop}(X:K.In s.heap)(I:InstAt s.heap x ox C (some od))(Y:tS K C f)(N:tT K C D)(h:Q (some (.ref C)) { s with toks:=s.toks+1 }):wpAny (model prog w) A (getAttr? (.ref x) "__class__") Q E s:=by
 have hf:findObj K C (some od) "__class__" = some (.bind (.builtin "getset_descriptor.__get__") (.builtin "object.__class__")):=findObj_data (by obtain⟨cd,hc,_⟩:=Ge Y.hd;rw[hc];rfl) N.ca N.gt N.tk;obtain⟨hp,g,d,t,os⟩:=s;have L0:=I.type (M:=model prog w);have L1:=Nv (M:=model prog w) X Y.ga;have L2:=looks_find (M:=model prog w) X I hf;have L3:io (model prog w) hp (hookBefore (.ref C)) none:=looks_hook X ((ao (show onTheHeap (ar C)=true from rfl)).trans Y.gt);have L4:io (model prog w) hp (isInstance (.ref x) (.type "BaseException")) true:=L0.andThen (Gj X Y.mb);have F0:=Wf;unfold getAttr? getAttrBy? getAttrBy;refine af (Yy (af (s_ (cP (af (L0.at (af (L1.at ?_))))))));have aY:(onTheHeap (ar C)&&ni "BaseException.__getattribute__" == ni "object.__getattribute__")=false:=by
  rw[show(ni "BaseException.__getattribute__" == ni "object.__getattribute__")=false by decide +kernel,VS]
 dsimp only;rw[aY,if_neg Bool.false_ne_true];unfold getAttrByItsOwn;refine af (L3.at (af (s_ (cP ?_))));unfold callGetattribute boundAndCalled;rw[show(false&&onTheHeap (ni "BaseException.__getattribute__"))=false from rfl,ai cL,F0.ga.bind];refine af (ah ?_);show wpAny _ _ (call (.builtin "BaseException.__getattribute__") [.ref x,.str "__class__" t]) _ _ _;refine nk (BR F0.ga.plain Wb ?_);refine @Nm (model prog w) _ _ ⟨hp,g,d,t+1,os⟩ "BaseException.__getattribute__" "BaseException" "__getattribute__" (.ref x) [.str "__class__" t] [] _ (by decide +kernel) (by decide +kernel) L4 (Qt _ _) ?_;show wpAny _ _ (cF.«object.__getattribute__» _) _ _ _;unfold cF.«object.__getattribute__»;refine af (ah (af (ah (af (L0.at (af (L2.at ?_)))))));refine af (cP (nk (class_get (s:=⟨hp,g,d,t+1,os⟩) (ox:=ox) (od:=some od) X I N.ob (ah ?_))));show wpAny _ _ (handedOut (.ref C)) _ _ _;rw[Ya rfl];exact ah (ah h)
variable{Q:aa->ag->Prop}{c:aa}
theorem ZjB(X:K.In s.heap)(I:InstAt s.heap x ox C (some od))(Y:tS K C f)(N:tT K C D)(aY:(ar C == c)=false)(e:kitCls K (.ref C) c=some false)
  (h:Q (.bool false) { s with toks:=s.toks+1 }):wpAny (model prog w) A (call (.builtin "isinstance") [.ref x,c]) Q E s:=by
 obtain⟨cdD,pY,_⟩:=Ge Y.hd;refine Gg (S:=λ_ R s=>(K.In s.heap/\InstAt s.heap x ox C (some od))/\R (.ok (.ret (.bool false))) { s with toks:=s.toks+1 }) (λprog w A R s hs=>Gh ?_ (λz=>nomatch z)) ⟨⟨X,I⟩,h⟩
 obtain⟨⟨X,I⟩,hq⟩:=hs;have Kp:io (model prog w) s.heap (isType (.ref C)) true:=by
  unfold clsIn at pY
  split at pY
  .rename_i c' d' YT vU ho
   intro A' Q' E' s' k q;unfold isType loadHead;exact af (B3 (k _ _ (X _ _ ho)) (ah q))
  .cases pY
 obtain⟨h0,g,d,tt,os⟩:=s;have L0:=I.type (M:=model prog w);unfold cF.«isinstance.nested»;refine af (L0.at ?_);rw[ai (by rw[aY];decide)];obtain⟨jE,qc,gQ⟩:=Nt (M:=model prog w) X e;refine af (jE.at ?_);rw[ao (by decide)]
 k_delta "plainIsInstance"
 refine af (af (qc.at ?_));simp only[jg,dv,cX];refine af ((L0.andThen gQ).at ?_);simp only[dv,cX];refine af (Zns X I Y N ?_);refine af (Kp.at ?_);simp only[jg,dv,cX];refine af (kK ?_);refine gQ.at ?_
 first
  | exact ah hq
  | exact ah (ah hq)
  | exact af (ah (ah hq))
theorem Zlk(ty:∀M,io M s.heap (typeOf (.ref x)) (.ref C))(h:Q (.bool true) s):wpAny (model prog w) A (call (.builtin "isinstance") [.ref x,.ref C]) Q E s:=by
 refine Gg (S:=λ_ R s=>(∀M,io M s.heap (typeOf (.ref x)) (.ref C))/\R (.ok (.ret (.bool true))) s) (λprog w A R s hs=>Gh ?_ (λz=>nomatch z)) ⟨ty,h⟩
 obtain⟨LT,hq⟩:=hs;obtain⟨h0,g,d,tt,os⟩:=s;unfold cF.«isinstance.nested»;refine af ((LT _).at ?_);rw[ao (beq_self_eq_true _)]
 first
  | exact af (kK (ah hq))
  | exact af (kK hq)
  | ((repeat lk);exact hq)
theorem Zh7(hK:X.K=K):gH X (.builtin "isinstance") (λxs H Q=>∃a oe C D b,xs=[.ref a,.ref D]/\H a=some (Known a oe)/\oe.cls=.ref C /\
    ((C=D/\b=true)\/(C≠D/\isClsIn K D=true/\typeIn K (.ref D)=some (.type "type")/\mroIn K C (.ref D)=some true/\b=true) \/
     (C≠D/\isClsIn K D=true/\mroIn K C (.ref D)=some false/\b=false/\∃dx fs f,oe.dict=some dx/\(∃vs,oe.data=.fields vs)/\H dx=some (.xd fs)/\tS K C f/\tT K C D))/\Q (.bl b) H):=by
  subst hK;intro ac s σ H xs us Q I r h;obtain⟨a,oe,C,D,b,rfl,hk,hc,h1,q⟩:=h;rcases h1 with⟨rfl,rfl⟩|⟨h1,h2,h3,h4,rfl⟩|⟨h1,h2,h3,rfl,dx,fs,f,hd,⟨vs,hf⟩,hx,Y,N⟩
  . obtain⟨u,v,rfl,rx,ry⟩:=Vals.two r;obtain rfl:u=ar a:=rx;obtain rfl:v=ar C:=ry;have ho:s.heap.get? a=some oe:=(I.aj a _ hk).1;exact Zlk (λM=>hc ▸ (BE ho).andThen .now) ⟨.bl true,H,I,rfl,q⟩
  . exact Pq ac s σ H _ us Q I r ⟨a,oe,C,D,rfl,hk,hc,h1,h2,h3,h4,q⟩
  . obtain⟨u,v,rfl,rx,ry⟩:=Vals.two r;obtain rfl:u=ar a:=rx;obtain rfl:v=ar D:=ry;have ho:s.heap.get? a=some oe:=(I.aj a _ hk).1;obtain⟨mA,n,hr⟩:=(show ZX X.prog X.w H s.heap dx (.xd fs) from I.aj dx _ hx);obtain⟨od,uU,hlk⟩:=Pb n;have J:InstAt s.heap a oe C (some od):=⟨ho,hc,by unfold notCls;rw[hf],by rw[hd];exact uU⟩;refine ZjB I.bQ J Y N (by simpa using h1) ?_ ⟨.bl false,H,I.tok _,rfl,q⟩;unfold kitCls;dsimp only;unfold isClsIn at h2;rw[h2,N.ty,if_pos (by decide)];exact h3
variable{name:Str}
theorem ZeM{a g:aa}(hc:(clsIn K C).isSome=true)(ha:findIn K (.ref C) name=some (some a))(hg:specialIn K a "__get__" = some (some g)) (ht:takesIn K a=some true):findObj K C none name=some (.bind g a):=by
 obtain⟨cd,hc⟩:=BI.mp hc;unfold findObj;rw[hc,yp,ha,yp];simp[hg,ht]
theorem ZmD{Q:Option aa->ag->Prop}(X:K.In s.heap)(I:InstAt s.heap x ox C none)(Y:tS K C f)(N:tT K C D)(h:Q (some (.ref C)) { s with toks:=s.toks+1 }):wpAny (model prog w) A (getAttr? (.ref x) "__class__") Q E s:=by
 have hf:findObj K C none "__class__" = some (.bind (.builtin "getset_descriptor.__get__") (.builtin "object.__class__")):=ZeM (by obtain⟨cd,hc,_⟩:=Ge Y.hd;rw[hc];rfl) N.ca N.gt N.tk;obtain⟨hp,g,d,t,os⟩:=s;have L0:=I.type (M:=model prog w);have L1:=Nv (M:=model prog w) X Y.ga;have L2:=looks_find (M:=model prog w) X I hf;have L3:io (model prog w) hp (hookBefore (.ref C)) none:=looks_hook X ((ao (show onTheHeap (ar C)=true from rfl)).trans Y.gt);have L4:io (model prog w) hp (isInstance (.ref x) (.type "BaseException")) true:=L0.andThen (Gj X Y.mb);have F0:=Wf;unfold getAttr? getAttrBy? getAttrBy;refine af (Yy (af (s_ (cP (af (L0.at (af (L1.at ?_))))))));have aY:(onTheHeap (ar C)&&ni "BaseException.__getattribute__" == ni "object.__getattribute__")=false:=by
  rw[show(ni "BaseException.__getattribute__" == ni "object.__getattribute__")=false by decide +kernel,VS]
 dsimp only;rw[aY,if_neg Bool.false_ne_true];unfold getAttrByItsOwn;refine af (L3.at (af (s_ (cP ?_))));unfold callGetattribute boundAndCalled;rw[show(false&&onTheHeap (ni "BaseException.__getattribute__"))=false from rfl,ai cL,F0.ga.bind];refine af (ah ?_);show wpAny _ _ (call (.builtin "BaseException.__getattribute__") [.ref x,.str "__class__" t]) _ _ _;refine nk (BR F0.ga.plain Wb ?_);refine @Nm (model prog w) _ _ ⟨hp,g,d,t+1,os⟩ "BaseException.__getattribute__" "BaseException" "__getattribute__" (.ref x) [.str "__class__" t] [] _ (by decide +kernel) (by decide +kernel) L4 (Qt _ _) ?_;show wpAny _ _ (cF.«object.__getattribute__» _) _ _ _;unfold cF.«object.__getattribute__»;refine af (ah (af (ah (af (L0.at (af (L2.at ?_)))))));refine af (cP (nk (class_get (s:=⟨hp,g,d,t+1,os⟩) (ox:=ox) (od:=none) X I N.ob (ah ?_))));show wpAny _ _ (handedOut (.ref C)) _ _ _;rw[Ya rfl];exact ah (ah h)
theorem ZhT(X:K.In s.heap)(I:InstAt s.heap x ox C none)(Y:tS K C f)(N:tT K C D)(aY:(ar C == c)=false)(e:kitCls K (.ref C) c=some false)
  (h:Q (.bool false) { s with toks:=s.toks+1 }):wpAny (model prog w) A (call (.builtin "isinstance") [.ref x,c]) Q E s:=by
 obtain⟨cdD,pY,_⟩:=Ge Y.hd;refine Gg (S:=λ_ R s=>(K.In s.heap/\InstAt s.heap x ox C none)/\R (.ok (.ret (.bool false))) { s with toks:=s.toks+1 }) (λprog w A R s hs=>Gh ?_ (λz=>nomatch z)) ⟨⟨X,I⟩,h⟩
 obtain⟨⟨X,I⟩,hq⟩:=hs;have Kp:io (model prog w) s.heap (isType (.ref C)) true:=by
  unfold clsIn at pY
  split at pY
  .rename_i c' d' YT vU ho
   intro A' Q' E' s' k q;unfold isType loadHead;exact af (B3 (k _ _ (X _ _ ho)) (ah q))
  .cases pY
 obtain⟨h0,g,d,tt,os⟩:=s;have L0:=I.type (M:=model prog w);unfold cF.«isinstance.nested»;refine af (L0.at ?_);rw[ai (by rw[aY];decide)];obtain⟨jE,qc,gQ⟩:=Nt (M:=model prog w) X e;refine af (jE.at ?_);rw[ao (by decide)]
 k_delta "plainIsInstance"
 refine af (af (qc.at ?_));simp only[jg,dv,cX];refine af ((L0.andThen gQ).at ?_);simp only[dv,cX];refine af (ZmD X I Y N ?_);refine af (Kp.at ?_);simp only[jg,dv,cX];refine af (kK ?_);refine gQ.at ?_
 first
  | exact ah hq
  | exact ah (ah hq)
  | exact af (ah (ah hq))
theorem O6(hK:X.K=K):gH X (.builtin "isinstance") (λxs H Q=>∃a oe C D b,xs=[.ref a,.ref D]/\H a=some (Known a oe)/\oe.cls=.ref C /\
    ((C=D/\b=true)\/(C≠D/\isClsIn K D=true/\typeIn K (.ref D)=some (.type "type")/\mroIn K C (.ref D)=some true/\b=true) \/
     (C≠D/\isClsIn K D=true/\mroIn K C (.ref D)=some false/\b=false/\∃f,oe.dict=none/\(∃vs,oe.data=.fields vs)/\tS K C f/\tT K C D))/\Q (.bl b) H):=by
  subst hK;intro ac s σ H xs us Q I r h;obtain⟨a,oe,C,D,b,rfl,hk,hc,h1,q⟩:=h;rcases h1 with⟨rfl,rfl⟩|⟨h1,h2,h3,h4,rfl⟩|⟨h1,h2,h3,rfl,f,hd,⟨vs,hf⟩,Y,N⟩
  . exact Zh7 rfl ac s σ H _ us Q I r ⟨a,oe,C,C,true,rfl,hk,hc,.inl ⟨rfl,rfl⟩,q⟩
  . exact Pq ac s σ H _ us Q I r ⟨a,oe,C,D,rfl,hk,hc,h1,h2,h3,h4,q⟩
  . obtain⟨u,v,rfl,rx,ry⟩:=Vals.two r;obtain rfl:u=ar a:=rx;obtain rfl:v=ar D:=ry;have ho:s.heap.get? a=some oe:=(I.aj a _ hk).1;have J:InstAt s.heap a oe C none:=⟨ho,hc,by unfold notCls;rw[hf],by rw[hd];trivial⟩;refine ZhT I.bQ J Y N (by simpa using h1) ?_ ⟨.bl false,H,I.tok _,rfl,q⟩;unfold kitCls;dsimp only;unfold isClsIn at h2;rw[h2,N.ty,if_pos (by decide)];exact h3
def zH(X:Cx)(N:List Str)(scope:cH)(cl:List (Str×Addr))(qual:Str)(f:Addr)(cd:aa)(s:ag)(H:Hp):Cx where
 prog:=X.prog
 w:=X.w
 K:=X.K
 mg:=X.mg
 base:=X.base
 A:=X.A.deeper (envX qual scope s.heap.objs.size f cd cl)
 N:=N
 dr := s
 jN := H
 env:=envX qual scope s.heap.objs.size f cd cl
 outer:=X.stack
 stack:=envX qual scope s.heap.objs.size f cd cl::X.stack
 ex:=[]
 fn:=λ_=>false
 calm:=true
 pn:=[]
 xe:=fw
def vd(v:V)(σ : St)(aE:List (Str×Nat)):St:=some v::aE.map λp=>(σ[p.2]?).getD none
structure tO(X:Cx)(scope:cH)(cl:List (Str×Addr))(p:Str)(aE:List (Str×Nat)):Prop where
 kind:scope.kind=.function
 co:scope.isCoroutine=false
 gen:scope.isGenerator=false
 LD:∀x∈scope.names,x.2 ≠ .cell
 sr:scope.names.lookup p=some .local
 own:∀x c,cl.lookup x=some c->X.env.cells.lookup x=some c
 has:∀x,scope.names.lookup x=some .free->∃c,cl.lookup x=some c
 Si:∀q∈aE,X.N[q.2]?= some q.1/\X.env.scope.names.lookup q.1=some .cell/\scope.names.lookup q.1=some .free
variable{f:Addr}{ac:List (Addr×Obj)}{σ:St}{H:Hp}{scope:cH}{cl:List (Str×Addr)}{p qual:Str}{aE:List (Str×Nat)}{cd:aa}
theorem Zld{N:List Str}(I:Inv X ac σ H s)(hc:X.calm=true)(S:tO X scope cl p aE):(zH X N scope cl qual f cd s H).Ok where
 mod:=I.ok.mod
 kind:=S.kind
 glob:=rfl
 blt:=rfl
 above:=aD _
 inj:=λx y c e1 e2=>I.ok.inj x y c (S.own x c e1) (S.own y c e2)
 has:=λx hx=>by
  rcases hx with hx|hx
  .exact absurd rfl (S.LD _ (vK (show scope.names.lookup x=some .cell from hx)))
  .exact S.has x hx
 mz:=λx c e=>by cases e
 hd:=λ_=>I.ok.hd hc
 frames:=VI I.ok.frames
 oE:=.inr ⟨rfl,rfl⟩
 lA:=λb hb=>absurd (show b∈([]:List Addr) from hb) (by simp)
 bs:=λb o e=>I.bs b o e
 iA:=cz I.ok.iA I.sz
 mP:=λb o e hb=>absurd (show b∈([]:List Addr) from hb) (by simp)
 lB:=λb hb=>absurd (show b∈([]:List Addr) from hb) (by simp)
 gL:=I.stack
 jX:=I.E6
variable{u:aa}{v:V}{h1:Heap}
theorem Zgq{tk:Nat}(I:Inv X ac σ H s)(hc:X.calm=true)(S:tO X scope cl p aE)(r:RelV v u)(j_:h1.Ns s.heap.objs.size (λx=>([(p,u)]:List (Str×aa)).reverse.lookup x))(gN:∀b o,s.heap.get? b=some o->h1.get? b=some o) :
  Inv (zH X (p::aE.map (·.1)) scope cl qual f cd s H) [] (vd v σ aE) H { s with heap:=h1,toks:=tk } where
 ok:=Zld I hc S
 os:=rfl
 bare:=I.bare
 base:=Un.kept gN
 loc:=by
  refine⟨_,j_,λi x v' e1 e2 hv=>?_⟩;cases i with
  | zero =>
   have e1:p=x:=dg e1;have e2:v=v':=dg (dg e2);subst e1 e2;refine⟨u,r,.inl ⟨S.sr,?_⟩⟩;show([(p,u)]:List (Str×aa)).reverse.lookup p=some u;simp[MH]
  | succ i =>
   have hN:(aE.map (·.1))[i]?= some x:=e1;have e2:(aE.map λp=>(σ[p.2]?).getD none)[i]?= some (some v'):=e2;rw[bM] at hN e2;cases hp:aE[i]? with
   | none=>rw[hp] at hN;cases hN
   | some q =>
    rw[hp] at hN e2;have hx:q.1=x:=dg hN;have he:(σ[q.2]?).getD none=some v':=dg e2;obtain⟨c1,c2,c3⟩:=S.Si q (bW hp);subst hx;have hs : σ[q.2]?= some (some v'):=by
     cases z0 : σ[q.2]? with
     | none=>rw[z0] at he;cases he
     | some z=>rw[z0] at he;rw[show z=some v' from he]
    obtain⟨m,hn,hl⟩:=I.loc;obtain⟨u',r',l⟩:=hl q.2 q.1 v' c1 hs (.inr (.inl c2));refine⟨u',r',.inr ⟨.inr c3,?_⟩⟩;obtain⟨c,hc⟩:=S.has q.1 c3;refine⟨c,hc,?_⟩;rcases l with⟨l1,_⟩|⟨_,c',l2,o,ho,hd⟩
    .have:X.env.kindOf q.1=some .cell:=c2;rw[this] at l1;cases l1
    .have:c=c':=dg ((S.own q.1 c hc).symm.trans l2);subst this;exact⟨o,gN _ _ ho,hd⟩
 cell:=λx c e=>by
  obtain⟨v,o,ho,hd⟩:=I.cell x c (S.own x c e);exact⟨v,o,gN _ _ ho,hd⟩
 free:=I.aj.fresh (aD _)
 fq:=λx c e=>I.fq x c (S.own x c e)
 pin:=λp hp=>by cases hp
 aj:=I.aj.kept gN
 len:=by
  unfold vd;show _=(p::aE.map (·.1)).length;rw[bB,bB,aF,aF]
variable{params:vp}{body:Expr}{c':Addr}{oc:Obj}
theorem ZmC{pm fJ:aa}{vs:Array aa}{tq:Tok}{t:TE}{Q:VK}{k:Nat}(I:Inv X ac σ H s)(hc:X.calm=true)(hr:bK (k+1) X.A)(S:tO X scope cl p aE)
  (hf:H f=some (.aO (kla_obj name qual params body scope cl pm c' fJ) (.own f))) (ho:H c'=some (.aO oc (.own c'))) (hd:oc.data=.fields vs) (hv:vs[1]?= some (.str qual tq))
  (hb:bindArgs (kla_fn name qual params body scope cl pm (.ref c') fJ) ⟨[u],[]⟩=pure [(p,u)]) (r:RelV v u)
  (pX:PE (zH X (p::aE.map (·.1)) scope cl qual f (.ref c') s H) body t) (h:t (vd v σ aE) H Q):wpAny (model X.prog X.w) X.A (call (.ref f) [u]) (EP X ac σ Q) fw s:=by
 have Kg:s.heap.get? f=some (kla_obj name qual params body scope cl pm c' fJ):=(I.aj f _ hf).1;have hco:s.heap.get? c'=some oc:=(I.aj c' _ ho).1;refine nk (kla_callFunE hr.depth Kg rfl S.co S.gen rfl ⟨c',oc,vs,tq,rfl,hco,hd,hv⟩ ?_);rw[hb];refine ah (NF S.LD (λx hx=>?_) (λEG j_ Ex=>⟨(I.nolimit).fresh _ Ex,?_⟩) S.kind)
 .rw[aI.mp hx];exact S.sr
 have gN:∀b o,s.heap.get? b=some o->EG.get? b=some o:=λb o e=>Ex.extBut b o (bo (aP e)) (aH _ e);have J:Inv (zH X (p::aE.map (·.1)) scope cl qual f (.ref c') s H) [] (vd v σ aE) H { s with heap:=EG,toks:=s.toks+1 }:=Zgq I hc S r j_ gN;show codeAny _ _ (.expr body (envX qual scope s.heap.objs.size f (.ref c') cl)) _ _;refine kla_codeExpr (cM (pX [] _ _ H Q J h) (λu' s' hs=>?_) λ_ _ z=>z.elim);obtain⟨v',H',J',rv,q⟩:=hs;exact I.after ⟨v',H',J'.os,J'.bare,J'.base,J'.aj,rv,q⟩
variable{P:Addr}
theorem Inv.lam{h':Heap}{fo:Obj}{ps more:Array aa}{tk:Nat}(I:Inv X ac σ H s)(hP:H P=some (.bR ps))(hx:∀b o,b≠P->s.heap.get? b=some o->h'.get? b=some o)(hg:s.heap.objs.size<=c')(rV:h'.get? c'=some oc)(Td:h'.get? P=some (tabObj (ps++more)))(oj:fo.isFreed=false) :
  Inv X ac σ (upd (upd (upd H P (.bR (ps++more))) c' (.aO oc (.own c'))) h'.objs.size (.aO fo (.own h'.objs.size))) { s with heap:=h'.push fo,toks:=tk }:=by
 have dD:c'<h'.objs.size:=aP rV;have old:∀b o,s.heap.get? b=some o->b≠c'/\b≠h'.objs.size:=λb o e=>⟨bo (cg (aP e) hg),bo (jj (cg (aP e) hg) dD)⟩;have qv:∀b u,H b=some u->b≠c'/\b≠h'.objs.size:=λb u e=>⟨bo (cg (I.aj b u e).lt hg),bo (jj (cg (I.aj b u e).lt hg) dD)⟩;have at_:∀b,b≠c'->b≠h'.objs.size->b≠P->(upd (upd (upd H P (.bR (ps++more))) c' (.aO oc (.own c'))) h'.objs.size (.aO fo (.own h'.objs.size))) b=H b:=λb h1 h2 h3=>by rw[Zc h2,Zc h1,Zc h3]
 have nP:∀b u,H b=some u->(∀ps,u ≠ .bR ps)->b≠P:=λb u e n z=>by
  rw[z,hP] at e;injection e with e;exact n _ e.symm
 have EL:∀b u,H b=some u->(∀ps,u ≠ .bR ps)->(upd (upd (upd H P (.bR (ps++more))) c' (.aO oc (.own c'))) h'.objs.size (.aO fo (.own h'.objs.size))) b=some u:=λb u e n=>by
  rw[at_ b (qv b u e).1 (qv b u e).2 (nP b u e n)];exact e
 have gN:∀b o,b≠P->s.heap.get? b=some o->(h'.push fo).get? b=some o:=λb o n e=>aH _ (hx b o n e);have LC:∀b,H b=none->b≠P:=λb e z=>by rw[z,hP] at e;cases e
 have Ae:P≠c'/\P≠h'.objs.size:=qv P _ hP;have eP:(upd (upd (upd H P (.bR (ps++more))) c' (.aO oc (.own c'))) h'.objs.size (.aO fo (.own h'.objs.size))) P=some (.bR (ps++more)):=by rw[Zc Ae.2,Zc Ae.1,Za]
 refine I.un ⟨λb o e n _ _=>gN b o (LC b n) e,λb o e n _ _=>⟨o.slots,gN b o (LC b n) e⟩,λb o e n _=>?_,λb o e _=>?_,λb xs e=>EL b _ e (λ_ z=>nomatch z),λb o u e=>EL b _ e (λ_ z=>nomatch z),λb qs e=>?_⟩ ?_
 .rw[at_ b (old b o e).1 (old b o e).2 (LC b n)];exact n
 .by_cases hb:b=P
  .exact⟨_,hb ▸ aH _ Td⟩
  .exact⟨o,gN b o hb e⟩
 .by_cases hb:b=P
  .subst hb;rw[hP] at e;injection e with e;injection e with e;subst e;exact⟨more,eP⟩
  .refine⟨#[],?_⟩;rw[at_ b (qv b _ e).1 (qv b _ e).2 hb,e];simp
 .intro b u e;by_cases hf:b=h'.objs.size
  .subst hf;rw[Za] at e;injection e with e;subst e;exact⟨bS _ oj,_,bS _ oj⟩
  .rw[Zc hf] at e;by_cases hc:b=c'
   .subst hc;rw[Za] at e;injection e with e;subst e;exact⟨aH _ rV,_,aH _ rV⟩
   .rw[Zc hc] at e;by_cases hb:b=P
    .subst hb;rw[Za] at e;injection e with e;subst e;exact aH _ Td
    .rw[Zc hb] at e;refine(I.aj b u e).jJ (λc v rN r=>gN c v ?_ r) (λc r=>EL c _ r (λ_ z=>nomatch z)) λc xs r=>EL c _ r (λ_ z=>nomatch z)
     rcases rN with rfl|rN
     .exact hb
     .exact nP c _ rN (λ_ z=>nomatch z)
theorem Oz{pos:Pos}{m:List aa}{cv:aa}:∀(l:List aa),codeAmong pos l=some cv->codeAmong pos (l++m)=some cv
 | [],h=>by unfold codeAmong at h;cases h
 | [_],h=>by unfold codeAmong at h;split at h <;> simp_all
 | [_,_],h=>by unfold codeAmong at h;split at h <;> simp_all
 | a::b::c::l,h=>by
  unfold codeAmong at h ⊢;rw[vx,vx,vx]
  split at h
  .rename_i gm
   injection gm with e1 gm;injection gm with e2 gm;injection gm with e3 gm;subst e1 e2 e3 gm;dsimp only
   split at h
   .rename_i hc
    rw[ao hc];exact h
   .rename_i hc
    rw[ai hc];exact Oz l h
  .cases h
variable{pos:Pos}
theorem Zft{pos':Pos}(aY : ¬ (pos'.line=pos.line/\pos'.col=pos.col)):∀{l:List aa},Nj l->codeAmong pos' l=none->codeAmong pos' (l ++ [rawInt pos.line,rawInt pos.col,c])=none:=by
 intro l h hn
 fun_induction Nj l with
 | case1 =>
  simp only[FF,codeAmong,rawInt];rw[ai];intro z;rw[gA,oY,oY] at z;exact aY ⟨by lia,by lia⟩
 | case2 a t b u x rest ih =>
  simp only[vx,codeAmong] at hn ⊢
  split at hn
  .cases hn
  .rename_i hc;rw[ai hc];exact ih h hn
 | case3 l h1 h2=>exact h.elim
def DD(H:Hp)(f:Addr)(name qual:Str)(params:vp)(body:Expr)(scope:cH)(cl:List (Str×Addr)):Prop :=
 ∃pm fJ c' oc vs tq,H f=some (.aO (kla_obj name qual params body scope cl pm c' fJ) (.own f))/\H c'=some (.aO oc (.own c'))/\oc.data=.fields vs/\vs[1]?= some (.str qual tq)
def bN(H:Hp)(P:Addr)(L:List (Pos×Str)):Prop :=
 ∃ps:Array aa,H P=some (.bR ps)/\Nj ps.toList/\∀q∈L,codeAmong q.1 ps.toList=none\/∃c' oc vs tq,codeAmong q.1 ps.toList=some (.ref c')/\H c'=some (.aO oc (.own c'))/\oc.data=.fields vs/\vs[1]?= some (.str q.2 tq)
def h9(P:Addr)(H H':Hp):Prop := ∀b o,b≠P->H b=some o->H' b=some o
def rE(base:Heap)(mg:Str->Option aa):Prop := ∃bm o,mg "__builtins__" = some (.ref bm)/\bm≠builtinsNs/\bm≠mainGlobals/\base.get? bm=some o/\o.cls=.type "module" /\ o.dict=some builtinsNs/\o.data=.plain
theorem bN.new(L:List (Pos×Str))(h:H P=some (.bR #[])):bN H P L:=⟨#[],h,trivial,λ_ _=>.inl rfl⟩
variable{H':Hp}{L:List (Pos×Str)}
theorem bN.same(h:bN H P L)(s:∀b o,H b=some o->H' b=some o):bN H' P L:=by
 obtain⟨ps,h1,h2,h3⟩:=h;exact⟨ps,s _ _ h1,h2,λq hq=>(h3 q hq).imp id λ⟨c',oc,vs,tq,k1,k2,k3,k4⟩=>⟨c',oc,vs,tq,k1,s _ _ k2,k3,k4⟩⟩
theorem bN.keep(h:bN H P L)(s1:∀ps,H P=some (.bR ps)->H' P=some (.bR ps))(s2:∀b o u,H b=some (.aO o u)->H' b=some (.aO o u)):bN H' P L:=by
 obtain⟨ps,h1,h2,h3⟩:=h;exact⟨ps,s1 _ h1,h2,λq hq=>(h3 q hq).imp id λ⟨c',oc,vs,tq,k1,k2,k3,k4⟩=>⟨c',oc,vs,tq,k1,s2 _ _ _ k2,k3,k4⟩⟩
theorem Zk1{c:Addr}{gj:List (Str×Addr)}{Q':aa->ag->Prop}(I:Inv X ac σ H s)(bm:rE X.base X.mg)(Eb:X.env.code=.ref c)(Kl:codeHdIn X.K c P=true)(T:bN H P L)
  (hm:(pos,X.env.qual ++ "<lambda>")∈L) (hu:∀q∈L,q.1.line=pos.line->q.1.col=pos.col->q.2=X.env.qual ++ "<lambda>") (bZ:closureFor scope X.env=pure gj) (Zyv:defaultsOf params X.env=([],[]))
  (h:∀f H' s',Inv X ac σ H' s'->H f=none->h9 P H H'->bN H' P L->DD H' f "<lambda>" (X.env.qual ++ "<lambda>") params body scope gj->Q' (.ref f) s') :
  wpAny (model X.prog X.w) X.A (eval (.Lambda params body scope pos) X.env) Q' E s:=by
 obtain⟨ps,hP,ht,hL⟩:=T;have D5:s.heap.get? P=some (tabObj ps):=I.aj P _ hP;have C:CodeHd s.heap c P:=X4 I.bQ Kl;have hg:s.heap.Ns mainGlobals X.mg:=I.mod.glob.keeps I.bk;have hgP:mainGlobals≠P:=λq=>by
  obtain⟨o,es,ep,e,hd,_⟩:=hg;rw[q,D5] at e;cases e;cases hd
 obtain⟨Sg,ob,b1,b2,b3,b4,b5,b6,b7⟩:=bm;have Gz:=I.bk _ _ b4;have hbP:Sg≠P:=λq=>by
  rw[q,D5] at Gz;cases Gz;cases b5
 have BA:s.heap.BuiltinsAt X.mg P:=⟨Sg,ob,b1,b2,b3,hbP,Gz,b5,b6,b7⟩;refine kla_eval Zyv ?_;rcases hL _ hm with hn|⟨c',oc,vs,tq,k1,k2,k3,k4⟩
 .refine kla_makeFunction (mg:=X.mg) bZ I.ok.glob hg Eb C D5 ht hn hgP BA λc' fJ h' tk hx uK aA Zzq KY=>?_;obtain⟨c2,oc,vs,tq,e2,rV,hd,hv⟩:=Zzq;cases e2;have J:=I.lam (tk:=tk) (fo:=kla_obj "<lambda>" (X.env.qual ++ "<lambda>") params body scope gj ((X.mg "__name__").getD .none) c' fJ) hP (λb o n e=>hx b o n e) uK rV KY rfl;have qv:∀b u,H b=some u->b≠c'/\b≠h'.objs.size:=λb u e=>⟨bo (cg (I.aj b u e).lt uK),bo (jj (cg (I.aj b u e).lt uK) aA)⟩;have nc:c'≠h'.objs.size:=bo aA;have Ae:=qv P _ hP;have sT:h9 P H (upd (upd (upd H P (.bR (ps ++ #[rawInt pos.line,rawInt pos.col,.ref c']))) c' (.aO oc (.own c'))) h'.objs.size (.aO (kla_obj "<lambda>" (X.env.qual ++ "<lambda>") params body scope gj ((X.mg "__name__").getD .none) c' fJ) (.own h'.objs.size))):=λb o n e=>by
   rw[Zc (qv b o e).2,Zc (qv b o e).1,Zc n];exact e
  refine h _ _ _ J (I.aj.fresh (cz uK (ji aA))) sT ⟨ps ++ #[rawInt pos.line,rawInt pos.col,.ref c'],?_,?_,λq hq=>?_⟩ ⟨_,_,c',oc,vs,tq,Za,?_,hd,hv⟩
  .rw[Zc Ae.2,Zc Ae.1,Za]
  .rw[VQ];exact TriplesOk_snoc _ _ _ _ ht
  .have kc:∀{q:Str},q=X.env.qual ++ "<lambda>" -> vs[1]?= some (.str q tq):=λe=>by rw[e];exact hv
   have rN:(upd (upd (upd H P (.bR (ps ++ #[rawInt pos.line,rawInt pos.col,.ref c']))) c' (.aO oc (.own c'))) h'.objs.size (.aO (kla_obj "<lambda>" (X.env.qual ++ "<lambda>") params body scope gj ((X.mg "__name__").getD .none) c' fJ) (.own h'.objs.size))) c'=some (.aO oc (.own c')):=by rw[Zc nc,Za]
   rw[VQ];rcases hL q hq with Cd|⟨c2,oc2,Ma,t2,j1,j2,j3,j4⟩
   .by_cases z:q.1.line=pos.line/\q.1.col=pos.col
    .refine .inr ⟨c',oc,vs,tq,?_,rN,hd,kc (hu q hq z.1 z.2)⟩;have:=codeAmong_snoc (pos:=q.1) (c:=.ref c') ps.toList ht Cd;rw[z.1,z.2] at this;exact this
    .exact .inl (Zft z ht Cd)
   .refine .inr ⟨c2,oc2,Ma,t2,Oz _ j1,sT c2 _ (λz=>?_) j2,j3,j4⟩;rw[z,hP] at j2;cases j2
  .rw[Zc nc,Za]
 .refine kla_makeFunctionHit (mg:=X.mg) bZ I.ok.glob hg Eb C D5 ht k1 BA λfJ h' tk hk hsz=>?_;have hn:H h'.objs.size=none:=I.aj.fresh hsz;have J:Inv X ac σ (upd H h'.objs.size (.aO (kla_obj "<lambda>" (X.env.qual ++ "<lambda>") params body scope gj ((X.mg "__name__").getD .none) c' fJ) (.own h'.objs.size))) { s with heap:=h'.push (kla_obj "<lambda>" (X.env.qual ++ "<lambda>") params body scope gj ((X.mg "__name__").getD .none) c' fJ),toks:=tk } :=
   I.laid (λb u e=>aH _ (hk b u e)) hsz ⟨bS _ rfl,_,bS _ rfl⟩
  have sm:∀b o,H b=some o->(upd H h'.objs.size (.aO (kla_obj "<lambda>" (X.env.qual ++ "<lambda>") params body scope gj ((X.mg "__name__").getD .none) c' fJ) (.own h'.objs.size))) b=some o:=λb o e=>by
   rw[Zc (Zi e hn)];exact e
  exact h _ _ _ J hn (λb o _ e=>sm b o e) (bN.same ⟨ps,hP,ht,hL⟩ sm) ⟨_,_,c',oc,vs,tq,Za,sm _ _ k2,k3,k4⟩
theorem tO.in1(h:tO X scope cl p aE):tO (bY X) scope cl p aE:=⟨h.kind,h.co,h.gen,h.LD,h.sr,h.own,h.has,h.Si⟩
structure N2(X:Cx)(P:Addr)(L:List (Pos×Str))(params:vp)(scope:cH)(body:Expr)(xF:Pos)(gj:List (Str×Addr))(px:Str)(aE:List (Str×Nat))(kb:Nat)(t:TE):Prop where
 bm:rE X.base X.mg
 code:∃c,X.env.code=.ref c/\codeHdIn X.K c P=true
 mem:(xF,X.env.qual ++ "<lambda>")∈L
 one:∀q∈L,q.1.line=xF.line->q.1.col=xF.col->q.2=X.env.qual ++ "<lambda>"
 cl:closureFor scope X.env=pure gj
 df:defaultsOf params X.env=([],[])
 sc:tO X scope gj px aE
 bind:∀pm c' fJ u,bindArgs (kla_fn "<lambda>" (X.env.qual ++ "<lambda>") params body scope gj pm (.ref c') fJ) ⟨[u],[]⟩=pure [(px,u)]
 body:∀A' f cd s H,bK kb (A'.deeper (envX (X.env.qual ++ "<lambda>") scope s.heap.objs.size f cd gj))->PE (zH { X with A:=A',xe:=fw } (px::aE.map (·.1)) scope gj (X.env.qual ++ "<lambda>") f cd s H) body t
theorem ZmK(h:∀p∈scope.names,p.2=.free->∃c,cl.lookup p.1=some c):∀x,scope.names.lookup x=some .free->∃c,cl.lookup x=some c:=λx e=>h (x,.free) (vK e) rfl
structure ZpS(ts:List Addr)(a:Addr)(H:Hp):Prop where
 tab:∀p∈ts,H p=some (.bR #[])
 no:∀b,b∉ts->b≠a->H b=none
 scr:a∉ts->H a=none\/∃o xs,H a=some (.aO o (.lst xs))
variable{K:ay}{x:Str}{P:aq}{mg:Str->Option aa}{base:Heap}{ts:List Addr}
theorem Zkr{mb:Str->Option aa}{k:Nat}{fa a:Addr}{fd:dy}{sp:Sp}{aZ : ag}{vs:List aa}{ns:List Int}
  (KX:K.In aZ.heap) (j_:aZ.heap.Ns mainGlobals mg) (hb:aZ.heap.Ns builtinsNs mb) (D_:∀x:Str,x ≠ "__name__" -> mb x=bootBuiltins x) (ZyR:aZ.heap.NoLimit) (hg:aZ.gens=#[])
  (hbm:∃bm o,mg "__builtins__" = some (.ref bm)/\bm≠builtinsNs/\aZ.heap.get? bm=some o/\o.cls=.type "module" /\ o.dict=some builtinsNs/\o.data=.plain)
  (sf:∀p∈ts,aZ.heap.get? p=some (tabObj #[])) (EB:∀p∈ts,K.lookup p=none) (htc:∀p∈ts,∃c,codeHdIn K c p=true)
  (ha:aZ.heap.get? a=some { cls:=.type "list",data:=.seq vs.toArray }) (hi:Br vs ns) (hl:ns.length<=sizeLine) (hr:bK k callerA)
  (F:∀base:Heap,K.In base->base.Ns mainGlobals mg->rE base mg->br P w K mg base cA k fa fd [x] sp) (Zyj:∀(s:ag)(u:aa),x6 s fd ⟨[u],[]⟩ [(x,u)])
  (jD:∀H:Hp,(∀p∈ts,H p=some (.bR #[]))->au K H a (ns.map V.int)->sp [.ref a] H (λv _=>v=.bl true) λ_ _ _=>False) :
  codeAny (model P w) callerA (.call (.ref fa) ⟨[.ref a],[]⟩) (λr s'=>r=.ok (.ret (.bool true))/\OldK aZ.heap s'.heap/\s'.os=aZ.os/\oH s'.gens) aZ := by
 have rv:=P4 hi;have ZAm:=hi.length;have pV:a∉ts:=λz=>by
  have:=sf a z;rw[ha] at this;cases this
 have core:∀H:Hp,ZpS ts a H->au K H a (ns.map V.int)->bD P w H aZ.heap->(H a≠none->K.lookup a=none) ->
   codeAny (model P w) callerA (.call (.ref fa) ⟨[.ref a],[]⟩) (λr s'=>r=.ok (.ret (.bool true))/\OldK aZ.heap s'.heap/\s'.os=aZ.os/\oH s'.gens) aZ := by
  intro H hO hS aj hK;have Je:∀{b:Addr}{o:Obj},aZ.heap.get? b=some o->H b=none->(nX aZ.heap H).get? b=some o:=λe n=>Zla e n;have other:∀{b:Addr}{o:Obj},aZ.heap.get? b=some o->(∀z n,o.data ≠ .seq z n)->(∀z,o.data ≠ .fields z)->H b=none:=λ{b o} e n1 n2=>by
   refine hO.no b (λz=>?_) λz=>?_
   .have:=sf b z;rw[e] at this;cases this;exact n2 _ rfl
   .subst z;rw[ha] at e;cases e;exact n1 _ _ rfl
  have EU:∀{b:Addr}{m:Str->Option aa},aZ.heap.Ns b m->(nX aZ.heap H).Ns b m:=λ{b m} ⟨o,es,ep,e,d,r⟩=>⟨o,es,ep,Je e (other e (λ_ _ z=>by rw[d] at z;cases z) λ_ z=>by rw[d] at z;cases z),d,r⟩;have Tb:K.In (nX aZ.heap H):=λb o e=>Je (KX b o e) (by
   by_cases hb:b∈ts
   .rw[EB b hb] at e;cases e
   .by_cases pW:b=a
    .subst pW;cases q:H b with
     | none=>rfl
     | some u =>
      rw[hK (by rw[q];simp)] at e;cases e
    .exact hO.no b hb pW)
  have hM:Mod K mg (nX aZ.heap H):=⟨Tb,EU j_,⟨mb,EU hb,D_⟩,let ⟨mc,h1,h2⟩:=ZyR;⟨mc,EU h1,h2⟩⟩;obtain⟨bm,ob,b1,b2,b3,b4,b5,b6⟩:=hbm;have hbG:bm≠mainGlobals:=λq=>by
   obtain⟨o,es,ep,e,hd,_⟩:=j_;rw[q,e] at b3;cases b3;rw[hd] at b6;cases b6
  have hB:rE (nX aZ.heap H) mg:=⟨bm,ob,b1,b2,hbG,Je b3 (other b3 (λ_ _ z=>by rw[b6] at z;cases z) λ_ z=>by rw[b6] at z;cases z),b4,b5,b6⟩;have e0:tK P w K mg (nX aZ.heap H) callerA [] aZ H:=⟨rfl,hM,λb o e=>Zm9 e,MP (ZiI _ _),trivial,λb hb=>absurd (show b∈([]:List Addr) from hb) (by simp),aj,.of_eq hg⟩;refine qJ ((F _ Tb (EU j_) hB).run callerA [] aZ H ⟨[.ref a],[]⟩ [.ref a] [.ref a] _ _ hr e0 (Zyj aZ (.ref a)) (.cons rfl .nil) (jD H hO.tab hS)) λr s' h=>?_
  match r,h with
  | .ok (.ret u),h =>
   obtain⟨v,H',os,bare,un,NQ,r',q⟩:=h;have q':v=.bl true:=q;subst q';obtain rfl:u=g8 true:=r';have ES:∀b,b∉h_ []:=λb z=>absurd (show b∈([]:List Addr) from z) (by simp);have Vr:∀b∈ts,∃ps,s'.heap.get? b=some (tabObj ps):=λb hb=>by
    obtain⟨more,e⟩:=un.ky b _ (hO.tab b hb);exact⟨_,NQ b _ e⟩
   have UH:∀b o,b∉ts->aZ.heap.get? b=some o->s'.heap.get? b=some o:=λb o hb e=>by
    by_cases pW:b=a
    .subst pW;rcases hO.scr hb with z|⟨ob,xs,z⟩
     .exact un.keep b o e z (ES b) (by simp)
     .have z2:=un.jY b ob _ z;obtain⟨e1,_⟩:=aj b _ z;obtain⟨e2,_⟩:=NQ b _ z2;rw[e] at e1;cases e1;exact e2
    .exact un.keep b o e (hO.no b hb pW) (ES b) (by simp)
   refine⟨rfl,⟨λb o e=>?_,λb o e=>?_⟩,os,bare⟩
   .by_cases hb:b∈ts
    .obtain⟨ps,e2⟩:=Vr b hb;obtain⟨c,hc⟩:=htc b hb;have ht:=sf b hb;rw[e] at ht;cases ht;exact .inr (.inl ⟨((X4 KX hc).tab (sf b hb)).isCodeTable,rfl,#[],ps,rfl,by rw[Array.empty_append];exact e2⟩)
    .exact .inl (UH b o hb e)
   .by_cases hb:b∈ts
    .obtain⟨ps,e2⟩:=Vr b hb;exact⟨_,e2⟩
    .exact⟨o,UH b o hb e⟩
 have Vs:∀{H:Hp}(p:Addr),p∈ts->ZX P w H aZ.heap p (.bR #[]):=λp hp=>sf p hp;cases hk:K.lookup a with
 | some o =>
  have e:=KX a o hk;rw[ha] at e;cases e;refine core (λb=>if b∈ts then some (.bR #[]) else none) ⟨λp hp=>ao hp,λb hb _=>ai hb,λh=>.inl (ai h)⟩ (.inr ⟨_,vs.toArray,_,hk,rfl,rfl,rfl,by rw[cO,ZAm];exact hl,by simpa using rv⟩) (λb u z=>?_) λz=>absurd (ai pV) z
  by_cases hb:b∈ts
  .have z:=(ao hb).symm.trans z;cases z;exact Vs b hb
  .have z:=(ai hb).symm.trans z;cases z
 | none =>
  refine core (λb=>if b∈ts then some (.bR #[]) else if b=a then some (.aO { cls:=.type "list",data:=.seq vs.toArray } (.lst (ns.map V.int))) else none)
   ⟨λp hp=>ao hp,λb hb hn=>(ai hb).trans (ai hn),λh=>.inr ⟨_,_,(ai h).trans (ao rfl)⟩⟩ (.inl (.inr ⟨{ cls:=.type "list",data:=.seq vs.toArray },(ai pV).trans (ao rfl)⟩)) (λb u z=>?_) λ_=>hk
  by_cases hb:b∈ts
  .have z:=(ao hb).symm.trans z;cases z;exact Vs b hb
  .have z:=(ai hb).symm.trans z;by_cases pW:b=a
   .have z:=(ao pW).symm.trans z;cases z;subst pW;exact⟨ha,by rw[aF];exact hl,vs,_,rv,ha⟩
   .have z:=(ai pW).symm.trans z;cases z
theorem Zlf{l:Xp}{n k:Nat}{q:aq}{loose:List Str}{XP:(Str->Option aa)->Heap->Prop}{YP:ap->Heap->Prop}{d:DefRec}{K:FU->ay}{sp:ap->Sp}
  (hn:l.most=some n) (xr:n<=sizeLine) (Ap:d.params.defaults=[]) (hr:bK k callerA)
  (hY:∀(w:ap)(h:Heap),YP w h->(K w.params).In h/\∀p∈ts,h.get? p=some (tabObj #[]))
  (F:∀(w:ap)(mg:Str->Option aa)(fa:Addr)(h:Heap),(K w.params).In h->h.Ns mainGlobals mg->mg d.name=some (.ref fa) ->
   ∃fd:dy,(∀(s:ag)(u:aa),x6 s fd ⟨[u],[]⟩ [(x,u)])/\(∀p∈ts,(K w.params).lookup p=none/\∃c,codeHdIn (K w.params) c p=true)/\∀base:Heap,(K w.params).In base->base.Ns mainGlobals mg->rE base mg->br l.prog w (K w.params) mg base cA k fa fd [x] (sp w))
  (jD:∀(w:ap)(H:Hp)(a:Addr)(ns:List Int),ns.length<=n->(∀p∈ts,H p=some (.bR #[]))->au (K w.params) H a (ns.map V.int)->sp w [.ref a] H (λv _=>v=.bl true) λ_ _ _=>False) :
  Xq q loose XP YP l.row.toRowW d [] (λf vs=>Nf f vs):=by
 refine N0.ZgO hn Ap λw dr aZ mg mb fa o pm cd doc a vs ns G Y ho hd fU uO Kz hints hlen hg=>?_;obtain⟨KX,sf⟩:=hY w _ Y;obtain⟨fd,hb,ht,hF⟩:=F w mg fa _ KX G.T.g uO;exact Zkr KX G.T.g G.T.b G.T.builtins G.T.nolimit hg (let ⟨bm,ob,b1,b2,b3,b4,b5,b6⟩:=G.T.bmain;⟨bm,ob,b1,b2,b3,b4,b5,b6⟩) sf (λp hp=>(ht p hp).1) (λp hp=>(ht p hp).2) Kz hints (cz hlen xr) hr hF hb λH hO hS=>jD w H a ns hlen hO hS
end L2
namespace Fg
open PySem L2
def Dk(K:ay)(ts:List Addr):Sp:=λvs H Q _=>∃(a:Addr)(ns:List Int),vs=[.ref a]/\au K H a (ns.map V.int)/\ns.length<=63/\(∀p∈ts,H p=some (.bR #[]))/\∀H',Q (.bl true) H'
end Fg
namespace L2
open PySem PySem.Spec PyProof.Rows PySem.SeqAt
def eh(bf:Nat->Nat->Bool):Nat->Nat
 | 0=>0
 | n+1=>if bf (n+1) (eh bf n)=true then n+1 else eh bf n
end L2
namespace L2
open PySem PySem.Spec PyProof.Rows PySem.W
open PySem.Sem (wp)
section
variable{prog:aq}{w:ap}{K J:Type}[DecidableEq K][DecidableEq J](knd:KeyKind prog w K)(hk:ya prog w J)
def Z4(h:Heap)(p:K×J)(a:Addr):Prop := ∃o v b n,h.get? a=some o/\o.cls=.type "tuple" /\ o.data=.seq #[v,.ref b] n/\knd.is p.1 v=true/\hk.is h p.2 b
variable{knd hk}
variable{a:Addr}
theorem Z4.typeIs{s:ag}{p:K×J}(x:Z4 knd hk s.heap p a):s.TypeIs (.ref a) "tuple" := let ⟨o,_,_,_,ho,hc,_⟩:=x;⟨o,ho,hc⟩
theorem Z4.inj{h:Heap}{a:Addr}{x y:K×J}(hx:Z4 knd hk h x a)(hy:Z4 knd hk h y a):x=y:=by
 obtain⟨o,v,b,n,ho,_,hd,h1,h2⟩:=hx;obtain⟨o',v',b',n',b9,_,cx,pq,tE⟩:=hy;obtain rfl:o=o':=dg (ho.symm.trans b9);rw[hd] at cx;injection cx with e1 _;have e2:=congrArg Fe e1;simp only[Fv,XU,and_true] at e2;obtain⟨rfl,rfl⟩:=e2;exact FV (knd.inj _ _ _ h1 pq) (hk.inj h2 tE)
theorem Z4.keeps{h h':Heap}{p:K×J}{a d:Addr}{o:Obj}{es ep}(x:Z4 knd hk h p a)(ho:h.get? d=some o)(hd:o.data=.dict es ep)(hs:dJ d h h'):Z4 knd hk h' p a:=by
 obtain⟨o',v,b,n,b9,hc,cx,h1,h2⟩:=x;have aY:a≠d:=by
  rintro rfl;obtain rfl:o'=o:=dg (b9.symm.trans ho);rw[hd] at cx;exact nomatch cx
 exact⟨o',v,b,n,(hs.2 a aY).trans b9,hc,cx,h1,hk.keeps h2 ho hd hs⟩
def HR(knd:KeyKind prog w K)(hk:ya prog w J)(p:K×J):Int:=reduceHash (x9 [knd.hash p.1,hk.hash p.2])
variable{A:aC}{E:aa->ag->Prop}{s:ag}
theorem ZcE{p:K×J}{Q:Int->ag->Prop}(hu:A.units<cLine)(hr:∀A':aC,A'.units<=A.units+8->hk.room A')(x:Z4 knd hk s.heap p a)(h:Q (HR knd hk p) { s with toks:=s.toks+(hk.draws p.2+2) }) :
  wpAny (model prog w) A (pyHash (.ref a)) Q E s:=by
 have hT:=x.typeIs;obtain⟨o,v,b,n,ho,_,hd,h1,h2⟩:=x;unfold pyHash
 first|unfold pyHashByItsType|skip
 first|refine af (wpAny_cRoomFor_or (.inr hu) ?_)|skip
 refine af (qM hT Bp.lookup ?_);show wpAny _ _ (if(some (ni "tuple.__hash__") == some bq)=true then _ else _) Q E s
 rw[ai (by rw[beq_builtin_none];exact cL)];refine af (qM hT Bp.lookup ?_);show wpAny _ _ (callSpecialIfBoundUnlessNone? (.ref a) "__hash__" _ >>= _) Q E s;refine af (wpAny_callSpecialIfBoundUnlessNone?_slot hT Bp (nq Bp hT F.entry_tuple_hash ?_ (F.args_tuple_hash_1 _)));show wpAny _ _ (ZB9 (.ref a) >>= _) _ _ s;refine af (NJ ho hd ?_);refine af ?_;rw[<- Fc];show wpAny _ _ (forIn [v,.ref b] _ _) _ _ s;rw[sN];refine af (af (knd.pyHash h1 ?_));refine ah ?_;show wpAny _ _ (forIn [ar b] _ _) _ _ _;rw[sN];refine af (af (hk.pyHash (hr A.in1 (by show A.units+1<=A.units+8;lia)) h2 ?_));refine ah ?_;show wpAny _ _ (forIn [] _ _) _ _ _;rw[MC];refine ah ?_;show wpAny _ _ (retInt (x9 [knd.hash p.1,hk.hash p.2])) _ _ _;refine YI ?_;show wpAny _ _ (if(decide (-(2:Int) ^ 63<=x9 [knd.hash p.1,hk.hash p.2])&&decide (x9 [knd.hash p.1,hk.hash p.2]<2 ^ 63))=true then _ else _) Q E _
 unfold HR reduceHash at h;by_cases hr:(decide (-(2:Int) ^ 63<=x9 [knd.hash p.1,hk.hash p.2])&&decide (x9 [knd.hash p.1,hk.hash p.2]<2 ^ 63))=true
 .rw[ao hr];rw[ao hr] at h;refine ah ?_;rw[show s.toks+1+hk.draws p.2+1=s.toks+(hk.draws p.2+2) by lia];exact h
 .rw[ai hr];rw[ai hr] at h;refine af (kK (ah ?_));rw[show s.toks+1+hk.draws p.2+1=s.toks+(hk.draws p.2+2) by lia];exact h
variable{b:Addr}
theorem ZfM{x y:K×J}{P:Fin->ag->Prop}(hr:hk.room A)(hx:Z4 knd hk s.heap x a)(hy:Z4 knd hk s.heap y b)(h:P (.done (.ret (.bool (decide (x=y))))) s) :
  wpAny (model prog w) A (cF.«tuple.__eq__» ⟨[.ref a,.ref b],[]⟩) P E s:=by
 have Ak:=hy.typeIs;obtain⟨oa,v1,b1,na,xw,_,j9,h1,h2⟩:=hx;obtain⟨ob,v2,b2,nb,gq,_,dG,k1,k2⟩:=hy;show wpAny _ _ (isInstance (.ref b) (.type "tuple") >>= _) _ _ s;refine af (pd Ak Nr ?_);simp only[jg,dv,cX];refine af (NJ xw j9 ?_);refine af (NJ gq dG ?_);refine af ?_;show wpAny _ _ (forIn [(v1,v2),(ar b1,ar b2)] _ _) _ _ s;rw[sN];refine af (af (knd.eqBool (a:=x.1) (b:=y.1) h1 k1 ?_));by_cases e1:x.1=y.1
 .rw[aJ e1];simp only[jg,dv,cX];refine ah ?_;show wpAny _ _ (forIn [(ar b1,ar b2)] _ _) _ _ s;rw[sN];refine af (af (hk.eqBool hr h2 k2 ?_));by_cases e2:x.2=y.2
  .rw[aJ e2];simp only[jg,dv,cX];refine ah ?_;show wpAny _ _ (forIn [] _ _) _ _ s;rw[MC];refine ah ?_;rw[aJ (FV e1 e2)] at h;exact ah h
  .rw[bt e2];simp only[VU,qK];rw[bt (λz=>e2 (by rw[z]))] at h;exact af (ah (ah (ah (ah h))))
 .rw[bt e1];simp only[VU,qK];rw[bt (λz=>e1 (by rw[z]))] at h;exact af (ah (ah (ah (ah h))))
variable{Q:Bool->ag->Prop}
theorem Zcx{x y:K×J}(hu:A.units<cLine)(hr:∀A':aC,A'.units<=A.units+8->hk.room A')(hx:Z4 knd hk s.heap x a)(hy:Z4 knd hk s.heap y b)(h:Q (decide (x=y)) s) :
  wpAny (model prog w) A (eqBool (.ref a) (.ref b)) Q E s:=by
 unfold eqBool
 try with_reducible refine cP ?_
 show wpAny _ _ (if(ar a == ar b)=true then _ else _) Q E s
 by_cases ei:(ar a == ar b)=true
 .rw[ao ei];have e:a=b:=by have:=eq_of_beq ei;injection this
  subst e;obtain rfl:=hx.inj hy;exact af (kK (ah (by simpa using h)))
 .rw[ai ei];exact af (YJ (op:=.Eq) hx.typeIs hy.typeIs Fs
   (nq Fs hx.typeIs F.entry_tuple_eq (ZfM (hr _ (by first|exact ym _ _|(show A.units+1<=A.units+8;lia)|(show A.units+2<=A.units+8;lia))) hx hy ⟨_,rfl,(λe=>nomatch e),nr h⟩) (F.args_tuple_eq_2 _ _)) hu)
theorem Zib(knd:KeyKind prog w K){ks:List K}{a:Addr}{m:Nat}{Q:Bool->ag->Prop}(hk:fb knd s.heap ks a)(h:Q true s):wpAny (model prog w) A (eqIsQuiet (m+1) (.ref a)) Q E s:=by
 have hT:=hk.typeIs;obtain⟨o,items,n,ho,_,hd,hi⟩:=hk;unfold eqIsQuiet;refine af (qM hT Fs.lookup ?_);show wpAny _ _ (isInstance (.ref a) (.type "tuple") >>= _) _ _ s;refine af (pd hT Nr ?_);simp only[jg,dv,cX];refine af (qL ho hd ?_);refine af ?_;show wpAny _ _ (forIn items _ _) _ _ s;rw[<- Fc];refine yB _ (λrest r s'=>r.1=none/\s'=s/\∀v∈rest,carriedByValue v=true) _ ?_ ?_ _ _ ⟨rfl,rfl,hi.byValue⟩
 .rintro v rest r s' ⟨hr,rfl,cu⟩;rw[X8 _ (cu v bw)];refine af (ah ?_);simp only[jg,dv,cX];exact ah ⟨rfl,rfl,λu yJ=>cu u (bp _ yJ)⟩
 .rintro⟨r1,r2⟩ s' ⟨hr,rfl,_⟩;simp only at hr;subst hr;exact ah h
theorem Zir{p:K×J}{m:Nat}(hq:∀{A:aC}{E:aa->ag->Prop}{s:ag}{j:J}{b:Addr}{Q:Bool->ag->Prop},hk.is s.heap j b->Q true s->wpAny (model prog w) A (eqIsQuiet m (.ref b)) Q E s)
  (x:Z4 knd hk s.heap p a) (h:Q true s):wpAny (model prog w) A (eqIsQuiet (m+1) (.ref a)) Q E s:=by
 have hT:=x.typeIs;obtain⟨o,v,b,n,ho,_,hd,h1,h2⟩:=x;rw[eqIsQuiet];refine af (qM hT Fs.lookup ?_);show wpAny _ _ (isInstance (.ref a) (.type "tuple") >>= _) _ _ s;refine af (pd hT Nr ?_);simp only[jg,dv,cX];refine af (qL ho hd ?_);refine af ?_;show wpAny _ _ (forIn #[v,ar b] _ _) _ _ s;rw[<- Fc];show wpAny _ _ (forIn [v,ar b] _ _) _ _ s;rw[sN,X8 _ (knd.byValue _ _ h1)];refine af (af (ah ?_));simp only[jg,dv,cX];refine ah ?_;show wpAny _ _ (forIn [ar b] _ _) _ _ s;rw[sN];refine af (af (hq h2 ?_));simp only[jg,dv,cX];refine ah ?_;show wpAny _ _ (forIn [] _ _) _ _ s;rw[MC];exact ah (ah h)
end
def Zlg{prog:aq}{w:ap}{K:Type}[DecidableEq K](knd:KeyKind prog w K):ya prog w (K×List K) where
 is:=Z4 knd (tupleKind knd)
 hash:=HR knd (tupleKind knd)
 draws:=λp=>p.2.length+3
 room:=λA=>A.units+20<cLine
 inj:=λhx hy=>hx.inj hy
 keeps:=λx ho hd hs=>x.keeps ho hd hs
 pyHash:=λhu hk h=>ZcE (qG (ym _ 20) hu) (λA' h'=>(show A'.units<cLine by lia)) hk h
 eqBool:=λhu hx hy h=>Zcx (qG (ym _ 20) hu) (λA' h'=>(show A'.units<cLine by lia)) hx hy h
 quiet:=λhk h=>Zir (m:=7) (λx q=>Zib (m:=6) knd x q) hk h
end L2
namespace L2
open PySem PySem.Spec PyProof.Rows PySem.W
abbrev ZQ:=Key×List Key
abbrev gy(P:aq)(w:ap):ya P w ZQ:=Zlg (ZK P w)
def aQ(H:Hp)(b:Addr)(k:ZQ):Prop := ∃c,H b=some (.tup [kV k.1,.ref c])/\H c=some (.tup (k.2.map kV))
variable{H:Hp}{b:Addr}
theorem aQ.mono{H':Hp}{k:ZQ}(h:aQ H b k)(t:∀c xs,H c=some (.tup xs)->H' c=some (.tup xs)):aQ H' b k:=by
 obtain⟨c,h1,h2⟩:=h;exact⟨c,t _ _ h1,t _ _ h2⟩
def NR(ae:List (ZQ×Addr×V))(xs:List (ZQ×Addr×aa)):Prop:=ck (λp q=>p.1=q.1/\p.2.1=q.2.1/\RelV p.2.2 q.2.2) ae xs
def Zv(P:aq)(w:ap)(a:Addr)(ae:List (ZQ×Addr×V)):HO:=.ext λh=>ae.length<=sizeLine/\(a == sysModules)=false/\∃xs,NR ae xs/\∃o es ep,h.get? a=some o/\o.ExactDict/\o.data=.dict es ep/\es.toList=xs.map (entryOfKey (gy P w))/\(xs.map (·.1)).Nodup
def b_(P:aq)(w:ap)(H:Hp)(a:Addr)(ae:List (ZQ×Addr×V)):Prop:=H a=some (Zv P w a ae)/\∀x∈ae,aQ H x.2.1 x.1
def dP(P:aq)(w:ap)(H:Hp)(a:Addr)(ae:List (ZQ×Addr×V)):Prop:=Rd H a (Zv P w a ae)/\∀x∈ae,aQ H x.2.1 x.1
variable{P:aq}{w:ap}{a:Addr}{ae:List (ZQ×Addr×V)}
theorem b_.r(h:b_ P w H a ae):dP P w H a ae:=⟨.inl h.1,h.2⟩
def valN(ae:List (ZQ×Addr×V))(k:ZQ):Option V:=(ae.find? λx=>decide (x.1=k)).map (·.2.2)
def putN(ae:List (ZQ×Addr×V))(k:ZQ)(b:Addr)(v:V):List (ZQ×Addr×V):=if(ae.find? λx=>decide (x.1=k)).isSome then ae.map (λx=>if x.1=k then(x.1,x.2.1,v) else x) else ae ++ [(k,b,v)]
theorem NR.find{ae:List (ZQ×Addr×V)}{xs:List (ZQ×Addr×aa)}(r:NR ae xs)(k:ZQ):(ae.find? (λx=>decide (x.1=k))=none/\xs.find? (λx=>decide (x.1=k))=none)\/∃p q,ae.find? (λx=>decide (x.1=k))=some p/\xs.find? (λx=>decide (x.1=k))=some q/\RelV p.2.2 q.2.2:=by
 induction r with
 | nil=>exact .inl ⟨rfl,rfl⟩
 | @cons p q ps qs h t ih =>
  by_cases e:p.1=k
  .exact .inr ⟨p,q,oR (aJ e),oR (aJ (by rw[<- h.1];exact e)),h.2.2⟩
  .rw[oQ (by simpa using e),oQ (by rw[<- h.1];simpa using e)];exact ih
variable{xs:List (ZQ×Addr×aa)}
theorem NR.val(r:NR ae xs)(k:ZQ):gh (valN ae k) ((atKey xs k).map (·.2)):=by
 unfold valN atKey;rcases r.find k with⟨e1,e2⟩|⟨p,q,e1,e2,h⟩
 .rw[e1,e2];exact jo
 .rw[e1,e2];exact h
theorem NR.put(r:NR ae xs)(k:ZQ)(b:Addr){v:V}{u:aa}(rv:RelV v u):NR (putN ae k b v) (storedH xs k b u):=by
 have m:NR (ae.map λx=>if x.1=k then(x.1,x.2.1,v) else x) (xs.map (putAt k u)):=by
  clear b
  induction r with
  | nil=>exact .nil
  | @cons p q ps qs h t ih =>
   refine .cons ?_ ih;unfold putAt;dsimp only;by_cases e:p.1=k
   .rw[ao e,ao (by rw[<- h.1];exact e)];exact⟨h.1,h.2.1,rv⟩
   .rw[ai e,ai (by rw[<- h.1];exact e)];exact h
 unfold putN storedH atKey;rcases r.find k with⟨e1,e2⟩|⟨p,q,e1,e2,h⟩
 .rw[e1,e2];exact ck.app r (.cons ⟨rfl,rfl,rv⟩ .nil)
 .rw[e1,e2];exact m
theorem OL(ae:List (ZQ×Addr×V))(k:ZQ)(b:Addr)(v:V):(putN ae k b v).length<=ae.length+1:=by
 unfold putN
 split
 .rw[aF];lia
 .rw[cw];exact aD _
variable{h:Heap}
theorem nV{k:ZQ}(ok:bD P w H h)(e:aQ H b k):(gy P w).is h k b:=by
 obtain⟨c,h1,h2⟩:=e;obtain⟨_,its,r,o,g1,g2,n,g3⟩:=(show ZX P w H h b (.tup [kV k.1,.ref c]) from ok b _ h1);cases r with
 | @cons _ v _ vs r1 r2 =>
  cases r2 with
  | @cons _ v2 _ Ma r3 r4 =>
   cases r4;obtain rfl:v2=ar c:=r3;exact⟨o,v,c,n,g1,g2,g3,uj r1,wJ ok h2⟩
theorem lx(ok:bD P w H h)(e:dP P w H a ae):ae.length<=sizeLine/\(a == sysModules)=false/\∃xs,NR ae xs/\h.DictOfH (gy P w) a xs:=by
 obtain⟨⟨z,y,xs,r,o,es,ep,h1,h2,h3,h4,h5⟩,_,_⟩:=(show ZX P w H h a (Zv P w a ae) from e.1.ok ok);refine⟨z,y,xs,r,o,es,ep,h1,h2,h3,h4,λx hx=>?_,h5⟩;have all:∀{l:List (ZQ×Addr×V)}{m:List (ZQ×Addr×aa)},NR l m->(∀x∈l,aQ H x.2.1 x.1)->∀x∈m,(gy P w).is h x.1 x.2.1:=by
  intro l m q
  induction q with
  | nil=>intro _ x hx;exact nomatch hx
  | @cons p q ps qs hq t ih =>
   intro hk x hx;rcases a8.mp hx with e|hx
   .subst e;have:=nV ok (hk p (bw ..));rw[hq.1,hq.2.1] at this;exact this
   .exact ih (λy hy=>hk y (bp _ hy)) x hx
 exact all r e.2 x hx
section
variable{X:Cx}{ac:List (Addr×Obj)}{σ : St}{H:Hp}{s:ag}{a b:Addr}{k:ZQ}{v:V}{r:aa}{A:aC}{E:aa->ag->Prop}{ae:List (ZQ×Addr×V)}
theorem ri(hu:A.units+30<cLine):(gy X.prog X.w).room A.in1:=show A.in1.units+20<cLine from by
 show A.units+1+20<cLine;lia
variable{Q:aa->ag->Prop}
theorem Zip(hu:A.units+30<cLine)(I:Inv X ac σ H s)(g:dP X.prog X.w H a ae)(eb:aQ H b k)(ev:valN ae k=some v)(h:∀w' s',Inv X ac σ H s'->RelV v w'->Q w' s') :
  wpAny (model X.prog X.w) A (getItem (.ref a) (.ref b)) Q E s:=by
 obtain⟨z,hd,xs,rel,dd⟩:=lx I.aj g;obtain⟨w',hw,lU⟩:=gh.some_of (v:=v) (o:=(atKey xs k).map (·.2)) (by rw[<- ev];exact rel.val k);obtain⟨p,hp,gP⟩:=gB.mp hw;refine wpAny_getItem_heap (ri hu) (nV I.aj eb) dd hp ?_;rw[gP];exact h w' _ (I.tok _) lU
theorem ZoS(hu:A.units+30<cLine)(I:Inv X ac σ H s)(g:dP X.prog X.w H a ae)(eb:aQ H b k)(h:∀s',Inv X ac σ H s'->Q (.bool (valN ae k).isSome) s') :
  wpAny (model X.prog X.w) A (compareOp .In (.ref b) (.ref a)) Q E s:=by
 obtain⟨z,hd,xs,rel,dd⟩:=lx I.aj g;refine Yv (ri hu) (nV I.aj eb) hd dd ?_;have e:=(rel.val k).AV;rw[qH] at e;rw[<- e];exact h _ (I.tok _)
theorem b_.put{P:aq}{w:ap}(g:b_ P w H a ae)(eb:aQ H b k)(v:V):b_ P w (upd H a (Zv P w a (putN ae k b v))) a (putN ae k b v):=by
 refine⟨Za,λx hx=>?_⟩;have t:∀c xs,H c=some (.tup xs)->(upd H a (Zv P w a (putN ae k b v))) c=some (.tup xs):=λc xs e=>by
  rw[Zc (λz=>by rw[z,g.1] at e;cases e)];exact e
 unfold putN at hx
 split at hx
 .obtain⟨y,hy,rfl⟩:=aX.mp hx;have:=g.2 y hy
  split
  .exact this.mono t
  .exact this.mono t
 .rcases bV.mp hx with hx|hx
  .exact(g.2 x hx).mono t
  .rw[aI.mp hx];exact eb.mono t
theorem Ziq{Q:Unit->ag->Prop}(hu:A.units+30<cLine)(I:Inv X ac σ H s)(g:b_ X.prog X.w H a ae)(hl:ae.length<sizeLine)(eb:aQ H b k)(rv:RelV v r)(h:∀s',Inv X ac σ (upd H a (Zv X.prog X.w a (putN ae k b v))) s'->Q () s') :
  wpAny (model X.prog X.w) A (setItem (.ref a) (.ref b) r) Q E s:=by
 obtain⟨z,hd,xs,rel,dd⟩:=lx I.aj g.r;have hz:xs.length<=sizeLine:=by rw[<- dz rel];exact z
 have iD:(putN ae k b v).length<=sizeLine:=by have:=OL ae k b v;lia
 refine YK (hsz:=hz) (ri hu) (nV I.aj eb) dd λh' lS hs=>h _ ?_;obtain⟨q,es,ep,hq,h2,h3,h4,_,h5⟩:=lS;refine zq I (by rw[g.1];exact jo) hs ⟨q,hq⟩ ⟨⟨iD,hd,_,rel.put k b rv,q,es,ep,hq,h2,h3,h4,h5⟩,⟨q,hq⟩,λh1 h2 ⟨y1,y2,ys,y3,o',bJ,gD,y4,y5⟩ keep=>⟨y1,y2,ys,y3,o',bJ,gD,keep _ y4,y5⟩⟩
end
def RS(P:aq)(w:ap)(td ty:TE):TE:=λσ H Q=>td σ H λx H1=>ty σ H1 λy H2=>∃a b ae k v,x=.ref a/\y=.ref b/\dP P w H2 a ae/\aQ H2 b k/\valN ae k=some v/\Q v H2
def ZpH(P:aq)(w:ap)(ty td:TE):TE:=λσ H Q=>ty σ H λy H1=>td σ H1 λx H2=>∃a b ae k,x=.ref a/\y=.ref b/\dP P w H2 a ae/\aQ H2 b k/\Q (.bl (valN ae k).isSome) H2
def Ra(P:aq)(w:ap)(ty td:TE):TE:=λσ H Q=>ty σ H λy H1=>td σ H1 λx H2=>∃a b ae k,x=.ref a/\y=.ref b/\dP P w H2 a ae/\aQ H2 b k/\Q (.bl (!(valN ae k).isSome)) H2
def ZoX(P:aq)(w:ap)(td ty tv:TE):TS:=λD σ H=>tv σ H λv H1=>td σ H1 λx H2=>ty σ H2 λy H3=>∃a b ae k,x=.ref a/\y=.ref b/\b_ P w H3 a ae/\aQ H3 b k/\ae.length<sizeLine/\D.nx σ (upd H3 a (Zv P w a (putN ae k b v)))
def ZoN(P:aq)(w:ap):TE:=λ_ H Q=>∀p,H p=none->Q (.ref p) (upd H p (Zv P w p []))
section
variable{X:Cx}{o i e value:Expr}{pos pos' L6:Pos}{td ty tv:TE}
variable{ac:List (Addr×Obj)}{σ:St}{H:Hp}{a:Addr}{ae:List (ZQ×Addr×V)}
theorem wx{s:ag}(I:Inv X ac σ H s)(g:dP X.prog X.w H a ae):s.TypeIs (.ref a) "dict" := by
 obtain⟨_,_,xs,_,ob,_,_,h1,h2,_⟩:=lx I.aj g;exact⟨ob,h1,h2.1⟩
theorem Zk3{s:ag}{b:Addr}{k:ZQ}{A:aC}{E:aa->ag->Prop}{Q:aa->ag->Prop}(hu:A.units+30<cLine)(I:Inv X ac σ H s)(g:dP X.prog X.w H a ae)(eb:aQ H b k)(h:∀s',Inv X ac σ H s'->Q (.bool (!(valN ae k).isSome)) s') :
  wpAny (model X.prog X.w) A (compareOp .NotIn (.ref b) (.ref a)) Q E s:=by
 obtain⟨z,hd,xs,rel,dd⟩:=lx I.aj g;refine wpAny_notIn_heap (ri hu) (nV I.aj eb) hd dd ?_;have e:=(rel.val k).AV;rw[qH] at e;rw[<- e];exact h _ (I.tok _)
theorem mf(hu:X.A.units+30<cLine)(ho:PE X o td)(hi:PE X i ty)(hs:Jc i):PE X (.Subscript o i pos) (RS X.prog X.w td ty):=by
 intro ac s σ H Q I h;refine ZmW PySem.F.slot_dict_getitem.lookup hs (aw (ho ac s σ H _ I h) ?_);rintro u s1 ⟨x,H1,I1,rx,q1⟩;refine aw (hi ac s1 σ H1 _ I1 q1) ?_;rintro iv s2 ⟨y,H2,I2,ry,a,b,ae,k,v,ex,ey,g,gb,ev,q2⟩;subst ex ey;obtain rfl:u=ar a:=rx;obtain rfl:iv=ar b:=ry;exact⟨wx I2 g,Zip hu I2 g gb ev λw' s3 I3 lU=>⟨v,H2,I3,lU,q2⟩⟩
theorem ZmH(hu:X.A.units+30<cLine)(hi:PE X i ty)(ho:PE X o td):PC X .In i o (ZpH X.prog X.w ty td):=by
 intro ac s σ H Q I h;refine aw (hi ac s σ H _ I h) ?_;rintro iv s1 ⟨y,H1,I1,ry,q1⟩;refine aw (ho ac s1 σ H1 _ I1 q1) ?_;rintro u s2 ⟨x,H2,I2,rx,a,b,ae,k,ex,ey,g,gb,q2⟩;subst ex ey;obtain rfl:u=ar a:=rx;obtain rfl:iv=ar b:=ry;exact ZoS hu I2 g gb λs3 I3=>⟨.bl (valN ae k).isSome,H2,I3,rfl,q2⟩
theorem Hf(hu:X.A.units+30<cLine)(hi:PE X i ty)(ho:PE X o td):PC X .NotIn i o (Ra X.prog X.w ty td):=by
 intro ac s σ H Q I h;refine aw (hi ac s σ H _ I h) ?_;rintro iv s1 ⟨y,H1,I1,ry,q1⟩;refine aw (ho ac s1 σ H1 _ I1 q1) ?_;rintro u s2 ⟨x,H2,I2,rx,a,b,ae,k,ex,ey,g,gb,q2⟩;subst ex ey;obtain rfl:u=ar a:=rx;obtain rfl:iv=ar b:=ry;exact Zk3 hu I2 g gb λs3 I3=>⟨.bl (!(valN ae k).isSome),H2,I3,rfl,q2⟩
theorem rj(hu:X.A.units+30<cLine)(ho:PE X o td)(hi:PE X i ty)(hv:PE X value tv)(hs:swapsWith value (some (.Subscript o i pos')) pos.line X.env=pure false) :
  PS X (.Assign [.Subscript o i pos'] value pos) (ZoX X.prog X.w td ty tv):=by
 intro ac s σ H D I h;refine Yl (aw (hv ac s σ H _ I h) ?_) hs;rintro r s1 ⟨v,H1,I1,rv,q1⟩;refine aw (ho ac s1 σ H1 _ I1 q1) ?_;rintro u s2 ⟨x,H2,I2,rx,q2⟩;refine aw (hi ac s2 σ H2 _ I2 q2) ?_;rintro iv s3 ⟨y,H3,I3,ry,a,b,ae,k,ex,ey,g,gb,hl,q3⟩;subst ex ey;obtain rfl:u=ar a:=rx;obtain rfl:iv=ar b:=ry;exact Ziq hu I3 g hl gb rv λs4 I4=>⟨σ,_,I4,q3⟩
theorem Zlo{P:aq}{w:ap}(h:Heap)(hb:sysModules<h.objs.size):ZX P w H (h.push { cls:=.type "dict",data:=.dict #[] }) h.objs.size (Zv P w h.objs.size []) :=
 ⟨⟨bG _,nj.mpr (fB (bo hb)),[],.nil,_,#[],0,bS _ rfl,⟨rfl,rfl,rfl⟩,rfl,rfl,FG⟩,⟨_,bS _ rfl⟩,λh1 h2 ⟨y1,y2,ys,y3,o',bJ,gD,y4,y5⟩ keep=>⟨y1,y2,ys,y3,o',bJ,gD,keep _ y4,y5⟩⟩
theorem ze:PE X (.Dict [] [] pos) (ZoN X.prog X.w):=λac s σ H Q I h =>
 Yn ⟨.ref s.heap.objs.size,_,I.laid (a:=s.heap.objs.size) (o:=Zv X.prog X.w s.heap.objs.size []) (t':=s.toks) (λ_ _ q=>aH _ q) (aD _) (Zlo s.heap I.big),rfl,h _ (I.aj.fresh (aD _))⟩
end
def ZnT(P:aq)(w:ap)(td ty tx:TE):TE:=λσ H Q=>td σ H λx H1=>∃a,x=.ref a/\(∃ae,dP P w H1 a ae)/\ty σ H1 λy H2=>tx σ H2 λz H3=>∃b ae k,y=.ref b/\dP P w H3 a ae/\aQ H3 b k/\Q ((valN ae k).getD z) H3
section
variable{X:Cx}{o e f:Expr}{apos bP:Pos}{td ty tx:TE}
theorem ID{ac:List (Addr×Obj)}{σ : St}{H:Hp}{s:ag}{a:Addr}{ae:List (ZQ×Addr×V)}(I:Inv X ac σ H s)(d:dP X.prog X.w H a ae) :
  s.TypeIs (.ref a) "dict" /\ (∀b,ar a=.ref b->∃ob,s.heap.get? b=some ob/\ob.dict=none)/\(a == sysModules)=false:=by
 obtain⟨_,hd,xs,_,ob,es,ep,h1,h2,h3⟩:=lx I.aj d;refine⟨⟨ob,h1,h2.1⟩,λb q=>?_,hd⟩;cases q;exact⟨ob,h1,h2.2.1⟩
theorem ZlH(hu:X.A.units+30<cLine)(ho:PE X o td)(he:PE X e ty)(hf:PE X f tx)(m:M2 X o "get" apos e f bP):PE X (.Call (.Attribute o "get" apos) [e,f] [] bP) (ZnT X.prog X.w td ty tx):=by
 intro ac s σ H Q I h;refine BX m.base m.eY m.line BK vI M3 (aw (ho ac s σ H _ I h) ?_);rintro u s1 ⟨x,H1,I1,rx,a,ex,⟨UI,d⟩,q1⟩;subst ex;obtain rfl:u=ar a:=rx;obtain⟨t1,t2,_⟩:=ID I1 d;refine⟨t1,t2,?_⟩;rw[m.xT];refine vt rfl (x_ (oJ (aw (he ac s1 σ H1 _ I1 q1) λiv s2 ⟨y,H2,I2,ry,q2⟩ =>
  oJ (aw (hf ac s2 σ H2 _ I2 q2) λfv s3 ⟨z,H3,I3,rz,b,ae,k,ey,g,gb,q3⟩=>sH ?_))))
 subst ey;obtain rfl:iv=ar b:=ry;obtain⟨zl,hd,xs,rel,dd⟩:=lx I3.aj g;refine vN vI dd.typeIs FZ (MY _ _ _) (Yf (gy X.prog X.w) a b hd fv) ⟨ri hu,k,xs,nV I3.aj gb,dd,?_⟩;exact⟨(valN ae k).getD z,H3,I3.tok _,(rel.val k).getD rz,q3⟩
end
variable{prog:aq}{s:ag}{d:Addr}
theorem ZeC(hd:(d == sysModules)=false) :
  MeetsIn prog w (cF.«dict.__len__» ⟨[.ref d],[]⟩) (λ_ R s=>∃o es ep,s.heap.get? d=some o/\o.data=.dict es ep/\R (.ok (.ret (.int es.size s.toks))) { s with toks:=s.toks+1 }) :=
 .of_wp λA R s ⟨o,es,ep,ho,cT,h⟩=>by
  show wpAny _ _ (dictSize d >>= _) _ _ s;unfold dictSize;refine af (af (o_ ho cT (ah ?_)));show wpAny _ _ (ZB2 d >>= _) _ _ s;refine af (wpAny_pendingCount_other hd ?_);refine YI ?_;rw[BF];exact h
variable{A:aC}{E Q:aa->ag->Prop}{o:Obj}{es:Array lO}{ep:Nat}
theorem Oo(hd:(d == sysModules)=false)(ho:s.heap.get? d=some o)(hc:o.cls=.type "dict") (cT:o.data=.dict es ep) (Eg:(es.size:Int)<2 ^ 63)
  (h:Q (.int es.size (s.toks+1)) { s with toks:=s.toks+1+1 }):wpAny (model prog w) A (cF.«len» ⟨[.ref d],[]⟩) (λfin s'=>∃r,fin=.done (.ret r)/\Q r s') E s:=by
 have hT:s.TypeIs (.ref d) "dict" := ⟨o,ho,hc⟩;unfold cF.«len»;refine af (m:=oneArg "len" _) (ah ?_);refine af (m:=callSpecial? (.ref d) (cm "__len__")) (BY (name:=cm "__len__") hT Fp
  (vN Fp hT F.entry_dict_len (F.args_dict_len_1 _) (ZeC hd) ⟨o,es,ep,ho,cT,?_⟩))
 show wpAny _ _ _ _ _ { s with toks:=s.toks+1 };refine af (cP (ah ?_));refine af (yC ?_);show wpAny _ _ (if((es.size:Nat):Int)<0 then _ else _) _ _ _
 rw[ai (by lia)];show wpAny _ _ (if((es.size:Nat):Int)>=2 ^ 63 then _ else _) _ _ _
 rw[ai (by lia)];exact af (wpAny_mkInt (ah ⟨_,rfl,h⟩))
theorem Znd(hd:(d == sysModules)=false)(ho:s.heap.get? d=some o)(hc:o.cls=.type "dict") (cT:o.data=.dict es ep) (Eg:(es.size:Int)<2 ^ 63)
  (h:Q (.int es.size (s.toks+1)) { s with toks:=s.toks+1+1 }):wpAny (model prog w) A (call (.builtin "len") [.ref d]) Q E s :=
 V4 kind_len plain_len entry_len (args_len1 _) (Oo hd ho hc cT Eg h)
theorem Zi5{Q:Bool->ag->Prop}(hd:(d == sysModules)=false)(ho:s.heap.get? d=some o)(hc:o.cls=.type "dict") (cT:o.data=.dict es ep) (Eg:(es.size:Int)<2 ^ 63)
  (h:Q ((es.size:Int) != 0) { s with toks:=s.toks+1+1 }):wpAny (model prog w) A (truthy (.ref d)) Q E s:=by
 have hT:s.TypeIs (.ref d) "dict" := ⟨o,ho,hc⟩;have key:wpAny (model prog w) A (runValue (.builtin "len" ⟨[.ref d],[]⟩)) (λr s'=>r=.int es.size (s.toks+1)/\Q ((es.size:Int) != 0) s') E s:=by
  refine Gq (g9 entry_len ?_);rw[kB plain_len _];exact cM (Oo (Q:=λr s'=>r=.int es.size (s.toks+1)/\Q ((es.size:Int) != 0) s') hd ho hc cT Eg ⟨rfl,h⟩)
   (λfin s' h'=>by obtain⟨r,rfl,hq⟩:=h';exact hq) λ_ _ e=>e
 unfold truthy
 first
  | refine af (Yo (name:=cm "__bool__") hT Yg ?_)
  | refine af (ah (af (Yo (name:=cm "__bool__") hT Yg ?_)))
 first
  | refine af (qM (name:=cm "__len__") hT Fp.lookup ?_)
  | refine af (ah (af (qM (name:=cm "__len__") hT Fp.lookup ?_)))
 first
  | exact af (cM key (λr s' h'=>by obtain⟨rfl,hq⟩:=h';exact ah hq) λ_ _ e=>e)
  | exact af (ah (af (cM key (λr s' h'=>by obtain⟨rfl,hq⟩:=h';exact ah hq) λ_ _ e=>e)))
theorem Rr(ok:bD P w H h)(e:dP P w H a ae):(a == sysModules)=false/\∃o es ep,h.get? a=some o/\o.cls=.type "dict" /\ o.data=.dict es ep/\es.size=ae.length/\ae.length<=sizeLine:=by
 obtain⟨z,hd,xs,rel,o,es,ep,h1,h2,h3,h4,_⟩:=lx ok e;refine⟨hd,o,es,ep,h1,h2.1,h3,?_,z⟩;have e1:=congrArg oU h4;rw[aF,<- dz rel] at e1;exact e1
def Zot(P:aq)(w:ap):List V->Hp->VK->Prop:=λvs H Q=>∃(d:Addr)(m:List (ZQ×Addr×V)),vs=[V.ref d]/\dP P w H d m/\Q (.int (m.length:Int)) H
variable{X:Cx}
theorem Hu:gH X (.builtin "len") (Zot X.prog X.w):=by
 rintro ac s σ H vs us Q I r ⟨d,m,rfl,hd,q⟩;obtain⟨u,rfl,ru⟩:=vals1 r;cases ru;obtain⟨h0,o,es,ep,h1,h2,h3,h4,h5⟩:=Rr I.aj hd;refine Znd h0 h1 h2 h3 (by rw[h4];rw[bu] at h5;lia) ?_;exact⟨.int (m.length:Int),H,I.tok _,⟨_,by rw[h4]⟩,q⟩
def ZoJ(P:aq)(w:ap)(ta:TE):TT:=λσ H Q=>ta σ H λx H'=>∃d m,x=.ref d/\dP P w H' d m/\Q (!m.isEmpty) H'
theorem ZiU{a:Expr}{ta:TE}(ha:PE X a ta)(he:∀whole,isTrue a X.env whole=(do let v <- whole;standAt a.pos;holding [v] (truthy v))):PT X a (ZoJ X.prog X.w ta):=by
 intro ac s σ H Q I h;refine Yd (aw (ha ac s σ H _ I h) ?_) (he _);rintro v s1 ⟨x,H1,I1,r1,d,m,ex,g,q1⟩;subst ex;obtain rfl:v=ar d:=r1;obtain⟨h0,o,es,ep,h1,h2,h3,h4,h5⟩:=Rr I1.aj g;refine Zi5 h0 h1 h2 h3 (by rw[h4];rw[bu] at h5;lia) ⟨H1,I1.tok _,?_⟩;have e:((es.size:Int) != 0)= !m.isEmpty:=by
  rw[h4];cases m <;> simp <;> lia
 rw[e];exact q1
variable{ac:List (Addr×Obj)}{σ:St}{ob:Obj}
theorem Inv.SN(I:Inv X ac σ H s)(hd:H d=some (Zv X.prog X.w d ae))(ho:s.heap.get? d=some ob):Inv X ac σ (upd H d (.aO ob (Zv X.prog X.w d ae))) s:=by
 have q:=I.aj d _ hd;exact I.write (x:=d) (e:=d) (h':=s.heap) (t':=s.toks) (by rw[hd];trivial) (.inl rfl) (λb u _ q=>q) ⟨ob,ho⟩ ⟨ho,q⟩
theorem Inv.Vt(I:Inv X ac σ H s)(hd:H d=some (.aO ob (Zv X.prog X.w d ae)))(nf:∀o u,X.jN d≠some (.aO o u)):Inv X ac σ (upd H d (Zv X.prog X.w d ae)) s:=by
 obtain⟨gq,q⟩:=(show ZX X.prog X.w H s.heap d (.aO ob (Zv X.prog X.w d ae)) from I.aj d _ hd);have nn:∀b,H b=none->b≠d:=λb e z=>by rw[z,hd] at e;cases e
 refine⟨I.ok,I.os,I.bare,⟨I.base.keep,I.base.slot,λb o e n hx=>?_,I.base.there,λb xs e=>?_,λb o u e=>?_,λb ps e=>?_⟩,I.loc,I.cell,?_,λx c e=>?_,λp hp=>?_,λb u e=>?_,I.len⟩
 .have:=I.base.free b o e n hx;rw[Zc (nn b this)];exact this
 .have:=I.base.lM b xs e;rw[Zc (λz=>by rw[z,hd] at this;cases this)];exact this
 .have:=I.base.jY b o u e;rw[Zc (λz=>nf o u (by rw[<- z];exact e))];exact this
 .obtain⟨m,this⟩:=I.base.ky b ps e;exact⟨m,by rw[Zc (λz=>by rw[z,hd] at this;cases this)];exact this⟩
 .rw[Zc (nn _ I.free)];exact I.free
 .rw[Zc (nn _ (I.fq x c e))];exact I.fq x c e
 .obtain⟨e,n,r⟩:=I.pin p hp;exact⟨e,by rw[Zc (nn _ n)];exact n,r⟩
 .by_cases hb:b=d
  .subst hb;rw[Za] at e;cases e;exact q.jJ (λc v _ q=>q) (λc q=>by rw[Zc (λz=>by rw[z,hd] at q;cases q)];exact q) λc xs q=>by rw[Zc (λz=>by rw[z,hd] at q;cases q)];exact q
  .rw[Zc hb] at e;exact(I.aj b u e).jJ (λc v _ q=>q) (λc q=>by rw[Zc (λz=>by rw[z,hd] at q;cases q)];exact q) λc xs q=>by rw[Zc (λz=>by rw[z,hd] at q;cases q)];exact q
def rD(P:aq)(w:ap)(d:Addr)(ob:Obj)(ae:List (ZQ×Addr×V)):It:=⟨λi H=>H d=some (.aO ob (Zv P w d ae))/\i<ae.length,λi H x H'=>H'=H/\∃k b v,ae[i]?= some (k,b,v)/\x=.ref b,λi H=>H d=some (.aO ob (Zv P w d ae))/\ae.length<=i⟩
theorem RL(h:NR ae xs):∀(i:Nat)(x:ZQ×Addr×aa),xs[i]?= some x->∃v,ae[i]?= some (x.1,x.2.1,v):=by
 induction h with
 | nil=>intro i x e;cases i <;> cases e
 | @cons p q l m r t ih =>
  intro i x e;cases i with
  | zero =>
   injection e with e;subst e;exact⟨p.2.2,by rw[<- r.1,<- r.2.1];rfl⟩
  | succ i=>exact ih i x e
variable{tg:Expr}
theorem Zh4{K:ay}(d:Addr)(ob:Obj)(ae:List (ZQ×Addr×V))(es:Array lO)(ep:Nat)(hx:ob.ExactDict)(cT:ob.data=.dict es ep)(hl:es.size=ae.length)(it:Addr) :
  Turn P w K tg (rD P w d ob ae) [it] it (λi h=>h.IsKeyIter it d i es.size ep) where
 mem:=by simp
 obj:=λi h st b hb=>by
  have e:b=it:=by simpa using hb
  subst e;obtain⟨o,e,c,dd⟩:=st;exact⟨o,e,λv z=>by rw[dd] at z;cases z⟩
 keep:=λi h h' st k=>st.at λo e=>k it (by simp) o e
 item:=by
  intro X hP hw hK hc i ac s σ H E I hf st hg;subst hP hw hK;obtain⟨hH,hi⟩:=hg;obtain⟨gq,⟨z,lo,xs,rel,o2,n_,ep2,cB,kh,Ao,Kd,Zy2⟩,_⟩:=(show ZX X.prog X.w H s.heap d (.aO ob (Zv X.prog X.w d ae)) from I.aj d _ hH);rw[gq] at cB;cases cB;rw[cT] at Ao;cases Ao;have dh:i<es.size:=by lia
  obtain⟨f0,f1,f2,f3,f4,f5⟩:=hf it (by simp);refine HV st (⟨ob,gq,hx,cT⟩:gJ s.heap d es ep) dh λh' bL sb=>?_;have I1:Inv X ac σ H { s with heap:=h' }:=I.turned (t':=s.toks) (λb o hb e=>(sb.2 b hb).trans e) f0 f1 f3 f4 f5;have sg:i<xs.length:=by
   have:=dz rel;lia
  have hk:es[i].key=ar xs[i].2.1:=by
   have e1:es.toList[i]?= some es[i]:=by simp
   rw[Kd,bM,cG sg] at e1;injection e1 with e1;rw[<- e1];rfl
  obtain⟨v,gn⟩:=RL rel i xs[i] (cG sg);obtain⟨o,e,c,dd⟩:=id bL;exact⟨_,rfl,zI (s:={ s with heap:=h' }) e c dd (by decide) ⟨.ref xs[i].2.1,H,I1,hk,⟨rfl,_,_,v,gn,rfl⟩,bL,λb hb=>(hf b hb).1⟩⟩
 done:=by
  intro X hP hw hK hc i ac s σ H E I hf st hg;subst hP hw hK;obtain⟨hH,hi⟩:=hg;obtain⟨gq,_⟩:=(show ZX X.prog X.w H s.heap d (.aO ob (Zv X.prog X.w d ae)) from I.aj d _ hH);obtain⟨f0,f1,f2,f3,f4,f5⟩:=hf it (by simp);exact Iq (I.ok.hd hc) st (⟨ob,gq,hx,cT⟩:gJ s.heap d es ep) (by lia) λh' eb=>⟨rfl,I.turned (t':=s.toks) (λb o hb e=>eb b o hb e) f0 f1 f3 f4 f5⟩
 self:=λ_ _ _ _ _ st h=>YC st h
def Ro(P:aq)(w:ap)(tl:TE):TI:=λσ H R=>tl σ H λx H1=>∃d ae,x=.ref d/\H1 d=some (Zv P w d ae)/\∀ob,R (rD P w d ob ae) (upd H1 d (.aO ob (Zv P w d ae)))
theorem wt{l:Expr}{tl:TE}(hl:PE X l tl):PI X tg l (Ro X.prog X.w tl):=by
 intro ac s σ H R I h;refine aw (hl ac s σ H _ I h) ?_;rintro v s1 ⟨x,H1,I1,r1,q1⟩;obtain⟨d,ae,e,hq,q⟩:=q1;subst e;cases r1;obtain⟨⟨z,lo,xs,rel,ob,es,ep,ho,hx,cT,i7,i9⟩,_⟩:=(show ZX X.prog X.w H1 s1.heap d (Zv X.prog X.w d ae) from I1.aj d _ hq);have I2:=I1.SN hq ho;have Ed:es.size=ae.length:=by rw[<- aW,i7,aF,dz rel]
 refine HC lo (⟨ob,ho,hx,cT⟩:gJ s1.heap d es ep) ?_;refine⟨s1.heap.objs.size,[s1.heap.objs.size],_,_,_,rfl,I2.kept (t':=s1.toks) λb o e=>aH _ e,Zh4 d ob ae es ep hx cT Ed _,⟨_,bS _ rfl,rfl,rfl⟩,λb hb=>?_,q ob⟩;have e:b=s1.heap.objs.size:=by simpa using hb
 subst e;exact I2.lC (aD _) (I2.aj.fresh (aD _))
theorem PL{α β : Type}(f : α -> β):∀(l:List α)(j:Nat),(l.map f).eraseIdx j=(l.eraseIdx j).map f
 | [],_=>rfl
 | _::_,0=>rfl
 | x::l,j+1=>congrArg (f x :: ·) (PL f l j)
section
variable{prog:aq}{w:ap}{K:Type}[DecidableEq K]{knd:ya prog w K}{A:aC}{E:aa->ag->Prop}{s:ag}
variable{d a:Addr}
theorem ZkY{xs:List (K×Addr×aa)}{k:K}{j:Nat}{p:Addr×aa}{Q:Option lO->ag->Prop}(hu:knd.room A)(om:knd.is s.heap k a)(hm:s.heap.DictOfH knd d xs)(hj:xs[j]?= some (k,p))(hsz:xs.length<=sizeLine)
  (h:∀h',h'.DictOfH knd d (xs.eraseIdx j)->dJ d s.heap h'->Q (some (entryOfKey knd (k,p))) { s with heap:=h',toks:=s.toks+knd.draws k }) :
  wpAny (model prog w) A (VY d (.ref a)) Q E s:=by
 obtain⟨o,es,ep,ho,hc,hd,he,qc,hn⟩:=hm;have hlen:es.size=xs.length:=by rw[<- aW,he,aF]
 have i7:es.size<=sizeLine:=by lia
 unfold VY
 try with_reducible refine cP ?_
 refine af (knd.pyHash hu om ?_);refine af (Yp (s:={ s with toks:=s.toks+knd.draws k }) hu om ho hd he qc hn (λlH=>absurd hj (lH j p)) λj' p' fE=>?_);have ej:j'=j:=idxH_unique hn fE hj;subst ej;refine af (o_ (s:={ s with toks:=s.toks+knd.draws k }) ho hd ?_);have Y3:es[j']?= some (entryOfKey knd (k,p)):=by
  have:es.toList[j']?= some (entryOfKey knd (k,p)):=by rw[he,bM,hj];rfl
  rw[<- this];obtain⟨l⟩:=es;simp
 rw[Y3];have sb:dJ d s.heap (s.heap.update d λo=>o.mapDictKeys (·.eraseIdxIfInBounds j')):=oK ..;refine af (wpAny_updateDictKeys (hz:=i7) (s:={ s with toks:=s.toks+knd.draws k }) ho hd (ah (h _ ⟨_,_,ep+1,sJ _ ho (Obj.isFreed_of_dict (W5 hd _)),hc.mapDictKeys _,W5 hd _,?_,λx hx=>knd.keeps (qc x (WQ hx)) ho hd (oK ..),?_⟩ (oK ..))))
 .obtain⟨l⟩:=es;have pZ:l=xs.map (entryOfKey knd):=by simpa using he
  subst pZ;simp[PL]
 .exact ZCg (ZCi _ (List.eraseIdx_sublist xs j')) hn
theorem Zpr(hd:(d == sysModules)=false) :
  MeetsIn prog w (cF.«dict.pop» ⟨[.ref d,.ref a],[]⟩) (λA R s=>knd.room A.in1/\∃xs k j p,knd.is s.heap k a/\s.heap.DictOfH knd d xs/\xs[j]?= some (k,p)/\xs.length<=sizeLine /\
   ∀h',h'.DictOfH knd d (xs.eraseIdx j)->dJ d s.heap h'->R (.ok (.ret p.2)) { s with heap:=h',toks:=s.toks+knd.draws k }) :=
 .of_wp λA R s ⟨hu,xs,k,j,p,om,hm,hj,hsz,h⟩=>by
  obtain⟨o,es,ep,ho,hc,cT,he,qc,hn⟩:=id hm;have hT:s.TypeIs (.ref d) "dict" := ⟨o,ho,hc.1⟩;unfold cF.«dict.pop»;refine af ?_;unfold ZB1;refine af (B4 hT ?_);show wpAny _ _ (pure (d,ar a,none)) _ _ s;refine ah ?_;simp only[show(keyPart (ar a)).isSome=false from rfl,dv,cX];refine af (o_ ho cT ?_);refine af (ah ?_);have Ee:es.isEmpty=false:=by
   have hl:es.size=xs.length:=Nz he;have hx:j<xs.length:=(de.mp hj).1;rw[Array.isEmpty];exact bt (by lia)
  rw[Ee];simp only[dv,cX];refine af (ZkY hu om hm hj hsz λh' dd hs=>?_);simp only[Option.isNone_some,dv,cX];exact af (yC (ah ⟨_,rfl,h h' dd hs⟩))
end
def jy(ae:List (ZQ×Addr×V))(k:ZQ):List (ZQ×Addr×V):=ae.eraseIdx (ae.findIdx λx=>decide (x.1=k))
theorem NR.erase(r:NR ae xs):∀j,NR (ae.eraseIdx j) (xs.eraseIdx j):=by
 induction r with
 | nil=>exact λ_=>.nil
 | @cons p q ps qs h t ih =>
  intro j;cases j with
  | zero=>exact t
  | succ j=>exact .cons h (ih j)
theorem NR.place{k:ZQ}{v:V}(r:NR ae xs)(h:valN ae k=some v):∃p:Addr×aa,xs[ae.findIdx λx=>decide (x.1=k)]?= some (k,p)/\RelV v p.2:=by
 unfold valN at h
 induction r with
 | nil=>cases h
 | @cons p q ps qs hq t ih =>
  by_cases e:p.1=k
  .rw[oR (p:=λx:ZQ×Addr×V=>decide (x.1=k)) (aJ e)] at h;injection h with h;rw[yg,aJ e];refine⟨q.2,?_,by rw[<- h];exact hq.2.2⟩;show some q=some (k,q.2);rw[<- e,hq.1]
  .rw[oQ (p:=λx:ZQ×Addr×V=>decide (x.1=k)) (by simpa using e)] at h;obtain⟨p',h1,h2⟩:=ih h;rw[yg,bt e];exact⟨p',h1,h2⟩
def ZoL(P:aq)(w:ap)(td ty:TE):TE:=λσ H Q=>td σ H λx H1=>∃a,x=.ref a/\(∃ae,dP P w H1 a ae)/\ty σ H1 λy H2=>∃b ae k v,y=.ref b/\b_ P w H2 a ae/\aQ H2 b k/\valN ae k=some v/\Q v (upd H2 a (Zv P w a (jy ae k)))
section
variable{X:Cx}{o e:Expr}{apos bP:Pos}{td ty:TE}
theorem Zm8(hu:X.A.units+30<cLine)(ho:PE X o td)(he:PE X e ty)(m:M1 X o "pop" apos e bP):PE X (.Call (.Attribute o "pop" apos) [e] [] bP) (ZoL X.prog X.w td ty):=by
 intro ac s σ H Q I h;refine BX m.base m.eY m.line BK Xm PySem.F.type_dict_pop (aw (ho ac s σ H _ I h) ?_);rintro u s1 ⟨x,H1,I1,rx,a,ex,⟨UI,d⟩,q1⟩;subst ex;obtain rfl:u=ar a:=rx;obtain⟨t1,t2,_⟩:=ID I1 d;refine⟨t1,t2,?_⟩;rw[m.xT];refine vt rfl (x_ (oJ (aw (he ac s1 σ H1 _ I1 q1) ?_)));rintro iv s2 ⟨y,H2,I2,ry,b,ae,k,v,ey,g,gb,ev,q2⟩;refine sH ?_;subst ey;obtain rfl:iv=ar b:=ry;obtain⟨zl,hd,xs,rel,dd⟩:=lx I2.aj g.r;obtain⟨p,hp,rv⟩:=rel.place ev;have hz:xs.length<=sizeLine:=by rw[<- dz rel];exact zl
 refine vN Xm dd.typeIs PySem.F.entry_dict_pop (PySem.F.args_dict_pop_2 _ _) (Zpr (knd:=gy X.prog X.w) hd) ⟨ri hu,xs,k,_,p,nV I2.aj gb,dd,hp,hz,λh' lS hs=>?_⟩;obtain⟨q,es,ep,hq,h2,h3,h4,_,h5⟩:=lS;have iD:(jy ae k).length<=sizeLine:=by
  unfold jy;have:=List.length_eraseIdx_le ae (ae.findIdx λx=>decide (x.1=k));lia
 exact⟨v,upd H2 a (Zv X.prog X.w a (jy ae k)),zq (ob:=Zv X.prog X.w a (jy ae k)) I2 (by rw[g.1];exact jo) hs ⟨q,hq⟩ ⟨⟨iD,hd,_,rel.erase _,q,es,ep,hq,h2,h3,h4,h5⟩,⟨q,hq⟩,λh1 h2 ⟨y1,y2,ys,y3,o',bJ,gD,y4,y5⟩ keep=>⟨y1,y2,ys,y3,o',bJ,gD,keep _ y4,y5⟩⟩,rv,q2⟩
end
end L2
namespace ax
open PySem PyProof.Rows
abbrev fR:=L2.ZQ×Addr×aa
def jv(m:List fR)(ps:List fR):List fR:=ps.foldl (λm p=>storedH m p.1 p.2.1 p.2.2) m
theorem ZgE{m:List fR}{k:L2.ZQ}{a:Addr}{v:aa}{x:fR}(h:x∈storedH m k a v):(∃y∈m,y.1=x.1/\y.2.1=x.2.1)\/(x.1=k/\x.2.1=a):=by
 unfold storedH at h
 split at h
 .obtain⟨y,hy,rfl⟩:=aX.mp h;refine .inl ⟨y,hy,?_⟩;unfold putAt
  split <;> exact⟨rfl,rfl⟩
 .rcases bV.mp h with h|h
  .exact .inl ⟨x,h,rfl,rfl⟩
  .rw[aI.mp h];exact .inr ⟨rfl,rfl⟩
theorem Zgh(m:List fR)(k:L2.ZQ)(a:Addr)(v:aa):(storedH m k a v).length<=m.length+1:=by
 unfold storedH
 split
 .rw[aF];lia
 .rw[cw];exact aD _
theorem OI:∀(ps m:List fR),(jv m ps).length<=m.length+ps.length
 | [],m=>aD _
 | p::ps,m=>by
  have h1:=OI ps (storedH m p.1 p.2.1 p.2.2);have h2:=Zgh m p.1 p.2.1 p.2.2;show(jv (storedH m p.1 p.2.1 p.2.2) ps).length<=_;rw[bB];lia
theorem Zfk(ps:List fR)(i:Nat)(p:fR)(h:ps[i]?= some p):jv [] (ps.take (i+1))=storedH (jv [] (ps.take i)) p.1 p.2.1 p.2.2:=by
 unfold jv;have e:ps.take (i+1)=ps.take i ++ [p]:=by
  obtain⟨hi,e⟩:=de.mp h;rw[WU hi,e]
 rw[e,List.foldl_append];rfl
def rF(prog:aq)(w:ap)(h0:Heap)(D:Addr)(x:fR):Prop := ∀h':Heap,(∀b o,b<D->h0.get? b=some o->h'.get? b=some o)->(L2.gy prog w).is h' x.1 x.2.1
variable{prog:aq}{w:ap}
theorem OQ{h0:Heap}{D:Addr}:∀(ps m:List fR),(∀x∈m,rF prog w h0 D x)->(∀x∈ps,rF prog w h0 D x)->∀x∈jv m ps,rF prog w h0 D x
 | [],m,h,_=>h
 | p::ps,m,h,hp=>OQ ps _ (λx hx=>by
   rcases ZgE hx with⟨y,hy,e0,e⟩|⟨e0,e⟩
   .have:=h y hy;unfold rF at this ⊢;rw[e0,e] at this;exact this
   .have:=hp p (bw ..);unfold rF at this ⊢;rw[e0,e];exact this) λx hx=>hp x (bp _ hx)
def IU(prog:aq)(w:ap)(h:Heap)(v:aa)(p:fR):Prop := ∃b o n,v=.ref b/\h.get? b=some o/\o.cls=.type "tuple" /\ o.data=.seq #[.ref p.2.1,p.2.2] n/\(L2.gy prog w).is h p.1 p.2.1
def RA(prog:aq)(w:ap)(h0:Heap)(d:Addr)(items:Array aa)(ps:List fR):Prop:=items.size=ps.length/\(∀p∈ps,rF prog w h0 d p)/\∀(i:Nat) v p,items[i]?= some v->ps[i]?= some p->∀h:Heap,(∀b o,b<d->h0.get? b=some o->h.get? b=some o)->IU prog w h v p
variable{A:aC}{E:aa->ag->Prop}
theorem ZgZ{s:ag}{v:aa}{p:fR}{Q:List aa->ag->Prop}(hp:IU prog w s.heap v p)(q:(L2.gy prog w).is s.heap p.1 p.2.1->Q [.ref p.2.1,p.2.2] s):wpAny (model prog w) A (Fl v) Q E s:=by
 obtain⟨b,o,n,rfl,ho,hc,hd,hk⟩:=hp;unfold Fl;refine af (tw (T := "tuple") ⟨o,ho,hc⟩ ?_);rw[ao (by decide)];exact af (qL ho hd (ah (q hk)))
variable{R:nh->ag->Prop}{l:Addr}{items:Array aa}{ps:List fR}
theorem ZhQ{h0:Heap}{D I:Addr}(hh:A.in1.handled=none)(hu:(L2.gy prog w).room A.in1)(ht:RA prog w h0 D items ps)(j5:D<I)(Aw:l≠I)(hn:items.size<=100000):∀(k i:Nat)(j:Int)(jt:Tok)(s:ag),items.size-i=k->i<=items.size->(s.heap.IsListIter I l i/\s.heap.IsList l items)->l<D->s.heap.DictOfH (L2.gy prog w) D (jv [] (ps.take i))->(∀b o,b<D->h0.get? b=some o->s.heap.get? b=some o) ->
   (∀h' tk,h'.DictOfH (L2.gy prog w) D (jv [] ps)->(∀b o,b<D->h0.get? b=some o->h'.get? b=some o)->R (.ok (.ret .none)) { s with heap:=h',toks:=tk })->codeAny (model prog w) A (.builtin "dict.update.loop" ⟨[.ref D,.ref I,.int j jt,.none],[]⟩) R s:=by
 have W:=BQ (prog:=prog) (w:=w) (A:=A.in1) hh I l Aw items;have DK:∀{h h':Heap}{i:Nat},h.DictOfH (L2.gy prog w) D (jv [] (ps.take i))->(∀b o,b<=D->h.get? b=some o->h'.get? b=some o)->(∀b o,b<D->h0.get? b=some o->h'.get? b=some o)->h'.DictOfH (L2.gy prog w) D (jv [] (ps.take i)):=λ{h h' i} ⟨o,es,ep,ho,h1,h2,h3,h4,h5⟩ hk hb0=>⟨o,es,ep,hk D o (aD _) ho,h1,h2,h3,λx hx=>OQ _ [] (λ_ h=>nomatch h) (λy hy=>ht.2.1 y (MJ hy)) x hx h' hb0,h5⟩
 intro k
 induction k with
 | zero =>
  intro i j jt s hk hi cC jC hd hb hR;obtain rfl:i=items.size:=by lia
  refine g9 Z7 ?_;rw[kB Zw _];change wpAny _ A.in1 (pyNext (.ref I) >>= _) _ _ s;refine af (W.done s _ _ cC λh' tk hm=>?_);change wpAny _ A.in1 (Fj D [] >>= λ_=>ret bq) _ _ _;refine af ?_;unfold Fj;refine ah (ah ?_);have cx:=DK hd (λb o aG e=>hm b o (λz=>cW _ (qG (aI.mp z ▸ aG) j5)) e) (λb o aG e=>hm b o (λz=>cW _ (jj (aI.mp z ▸ aG) j5)) (hb b o aG e));rw[ht.1,d_] at cx;exact hR h' tk cx λb o aG e=>hm b o (λz=>cW _ (jj (aI.mp z ▸ aG) j5)) (hb b o aG e)
 | succ k ih =>
  intro i j jt s hk hi cC jC hd hb hR;have aA:i<items.size:=by lia
  refine g9 Z7 ?_;rw[kB Zw _];change wpAny _ A.in1 (pyNext (.ref I) >>= _) _ _ s;refine af (W.item i s _ _ aA cC λv h' tk hP yI hm=>?_);have cx:=DK hd (λb o aG e=>hm b o (λz=>cW _ (qG (aI.mp z ▸ aG) j5)) e) (λb o aG e=>hm b o (λz=>cW _ (jj (aI.mp z ▸ aG) j5)) (hb b o aG e));have c9:∀b o,b<D->h0.get? b=some o->h'.get? b=some o:=λb o aG e=>hm b o (λz=>cW _ (jj (aI.mp z ▸ aG) j5)) (hb b o aG e);have aM:i<ps.length:=by have:=ht.1;lia
  have hp:=ht.2.2 i v ps[i] hP (cG aM) h' c9;refine af (cP (af (tj (ZgZ (s:={ s with heap:=h',toks:=tk }) hp λK1=>?_))));dsimp only;have lF:(jv [] (ps.take i)).length<=sizeLine:=by
   have:=OI (ps.take i) [];rw[gX] at this;have h0l:([]:List fR).length=0:=rfl;have:=ht.1;rw[bu];lia
  refine cP (wpAny_dictSet_heap (s:={ s with heap:=h',toks:=tk }) (hsz:=lF) hu K1 cx λh2 hd2 sb=>?_);have rR:∀b o,b≠D->h'.get? b=some o->h2.get? b=some o:=λb o hb e=>(sb.2 b hb).trans e;refine ah ⟨jq Zw _,ih (i+1) (j+1) 0 _ (by lia) aA ?_ jC ?_ (λb o aG e=>rR b o (bo aG) (c9 b o aG e)) λh3 mU AQ rM=>hR h3 mU AQ rM⟩
  .refine W.frame _ h' h2 yI λb hb o e=>rR b o (λz=>?_) e;simp only[a8,oV,o8] at hb;rcases hb with rfl|rfl
   .exact cW _ (z ▸ j5)
   .exact cW _ (z ▸ jC)
  .rw[Zfk ps i ps[i] (cG aM)];exact hd2
theorem ZcT{s:ag}{n:Nat}{sl:Array (Option aa)}{Q:aa->ag->Prop}(hh:A.handled=none)(hu:A.units+40<cLine)(hl:s.heap.get? l=some { cls:=.type "list",dict:=none,data:=.seq items n,slots:=sl }) (ht:RA prog w s.heap s.heap.objs.size items ps) (hn:items.size<=100000)
  (q:∀(h':Heap)(tk:Nat),h'.DictOfH (L2.gy prog w) s.heap.objs.size (jv [] ps)->(∀b o,s.heap.get? b=some o->h'.get? b=some o)->Q (.ref s.heap.objs.size) { s with heap:=h',toks:=tk }) :
  wpAny (model prog w) A (call (.type "dict") [.ref l]) Q E s:=by
 refine XZ (Q₁ := λobj aZ=>obj=.ref s.heap.objs.size/\aZ = { s with heap:=s.heap.push { cls:=.type "dict",data:=.dict #[] } }) Wg (Wh _) Wc (Ye _ ⟨rfl,rfl⟩) ?_;rintro obj aZ ⟨rfl,rfl⟩;have lG:(s.heap.push { cls:=.type "dict",data:=.dict #[] }).DictOfH (L2.gy prog w) s.heap.objs.size []:=ZCc s.heap;have cN:(s.heap.push { cls:=.type "dict",data:=.dict #[] }).get? l=some { cls:=.type "list",dict:=none,data:=.seq items n,slots:=sl }:=aH _ hl;have jC:l<s.heap.objs.size:=aP hl;have k0:∀b o,b<s.heap.objs.size->s.heap.get? b=some o->(s.heap.push { cls:=.type "dict",data:=.dict #[] }).get? b=some o:=λb o _ e=>aH _ e;have z0:(s.heap.push { cls:=.type "dict",data:=.dict #[] }).objs.size=s.heap.objs.size+1:=iJ ..;refine⟨lG.typeIs,Wa _ _,?_⟩;generalize s.heap.push { cls:=.type "dict",data:=.dict #[] }=h1 at lG cN k0 z0;unfold cF.«dict.__init__»;refine af ?_;unfold VX;refine af (B4 lG.typeIs ?_);show wpAny _ _ (pure (s.heap.objs.size,[ar l])) _ _ _;refine ah ?_;show wpAny _ _ (Fm "dict.__init__" s.heap.objs.size (.ref l) [] .none) _ _ _;unfold Fm;refine af (tw (T := "list") ⟨_,cN,rfl⟩ ?_);rw[ao (by decide)];refine af (N8 hh cN λh2 Vu k2 z2=>?_);rw[ao (show(none:Option aa).isNone=true from rfl)];refine af (kK ?_);have iD:=k2 _ _ cN;have pU:h2.IsList l items:=⟨_,iD,rfl,n,rfl⟩;refine af (vQ pU ?_);have J9:(h2.push { cls:=.type "list_iterator",data:=.fields #[.ref l,.int 0 0] }).DictOfH (L2.gy prog w) s.heap.objs.size []:=by
  obtain⟨o,es,ep,ho,h1,h2,h3,h4,h5⟩:=lG;exact⟨o,es,ep,aH _ (k2 _ _ ho),h1,h2,h3,λx hx=>(nomatch hx),h5⟩
 have hsz:s.heap.objs.size<h2.objs.size:=by lia
 refine ah ⟨jq Zw _,?_⟩;refine ZhQ (h0:=s.heap) (by simpa using hh) ?_ ht hsz (bo (jj jC hsz)) hn (items.size-0) 0 0 0 _ rfl (bG _) ⟨⟨_,bS _ rfl,rfl,rfl⟩,pU.push _⟩ jC J9 (λb o hb e=>aH _ (k2 _ _ (k0 b o hb e))) λh' tk cx aG=>?_
 .exact(show _+20<cLine by simp;lia)
 exact⟨rfl,q h' tk cx λb o e=>aG b o (aP e) e⟩
end ax
namespace L2
open PySem PySem.Spec PyProof.Rows PySem.W ax
def C8(ae:List (ZQ×Addr×V)):List (ZQ×Addr×V):=ae.foldl (λm kv=>putN m kv.1 kv.2.1 kv.2.2) []
theorem Od:∀(ae m:List (ZQ×Addr×V)),(ae.foldl (λm kv=>putN m kv.1 kv.2.1 kv.2.2) m).length<=m.length+ae.length
 | [],m=>aD _
 | kv::ae,m=>by
  have h1:=Od ae (putN m kv.1 kv.2.1 kv.2.2);have h2:=OL m kv.1 kv.2.1 kv.2.2;rw[bB,yh];lia
theorem Rp:∀{ae:List (ZQ×Addr×V)}{ps:List fR}{m:List (ZQ×Addr×V)}{m':List fR},NR ae ps->NR m m'->NR (ae.foldl (λm kv=>putN m kv.1 kv.2.1 kv.2.2) m) (jv m' ps)
 | _,_,_,_,.nil,h=>h
 | _,_,m,m',.cons (a:=kv) (b:=p) r t,h=>by
  have h1:=h.put kv.1 kv.2.1 r.2.2;have h2:=Rp t h1;show NR (WC _ (putN m kv.1 kv.2.1 kv.2.2) _) (jv (storedH m' p.1 p.2.1 p.2.2) _);rw[<- r.1,<- r.2.1];exact h2
theorem Znr{P:aq}{w:ap}{H:Hp}{h:Heap}{b:Addr}{k:ZQ}{u:aa}(ok:bD P w H h)(e:aQ H b k):rF P w h h.objs.size (k,b,u):=λh' hk=>by
 obtain⟨o,v,c,n,g1,g2,g3,g4,g5⟩:=nV ok e;obtain⟨o',its,n',f1,f2⟩:=g5;exact⟨o,v,c,n,hk b o (aP g1) g1,g2,g3,g4,o',its,n',hk c o' (aP f1) f1,f2⟩
variable{X:Cx}
theorem ZdR(hc:X.calm=true)(hu:X.A.units+40<cLine):gH X (.type "dict") (λxs H Q=>∃l ys ae,xs=[.ref l]/\au X.K H l ys/\ys.length<=90000/\ck (λ(y:V)(kv:ZQ×Addr×V)=>∃t,y=.ref t/\H t=some (.tup [.ref kv.2.1,kv.2.2])/\aQ H kv.2.1 kv.1) ys ae/\∀d,H d=none->Q (.ref d) (upd H d (Zv X.prog X.w d (C8 ae)))):=by
 intro ac s σ H xs us Q I r h;obtain⟨l,ys,ae,rfl,hq,hlen,hp,q⟩:=h;obtain⟨u,rfl,ru⟩:=vals1 r;cases ru;obtain⟨its,rv,⟨o,n,ho,A5,A7,A6⟩,hz⟩:=I.list hq;have hl:=rv.length;obtain⟨U3,LG,U4,LJ⟩:=o;simp only at A5 A7 A6;subst A5 A7 A6;have key:∀{ys:List V}{ae:List (ZQ×Addr×V)}{its:List aa},ck (λ(y:V)(kv:ZQ×Addr×V)=>∃t,y=.ref t/\H t=some (.tup [.ref kv.2.1,kv.2.2])/\aQ H kv.2.1 kv.1) ys ae->Vals ys its->∃ps:List fR,NR ae ps/\its.length=ps.length/\(∀p∈ps,rF X.prog X.w s.heap s.heap.objs.size p)/\∀(i:Nat) v p,its[i]?= some v->ps[i]?= some p->IU X.prog X.w s.heap v p:=by
  intro ys ae its hp
  induction hp generalizing its with
  | nil =>
   intro rv;cases rv;exact⟨[],.nil,rfl,λ_ h=>(nomatch h),λi v p h=>(nomatch h)⟩
  | @cons y kv ys ae r t ih =>
   intro rv;cases rv with
   | @cons _ v _ its ry rr =>
    obtain⟨ps,h1,h2,h4,h3⟩:=ih rr;obtain⟨ta,rfl,ht,hb⟩:=r;obtain rfl:v=ar ta:=ry;obtain⟨_,us,fK,o,ho,dD,n,hd⟩:=I.aj ta _ ht;obtain⟨u1,u2,rfl,r1,r2⟩:=Vals.two fK;obtain rfl:u1=ar kv.2.1:=r1;have hk:=nV I.aj hb;refine⟨(kv.1,kv.2.1,u2)::ps,.cons ⟨rfl,rfl,r2⟩ h1,by rw[bB,bB,h2],λp hp=>?_,λi v p e1 e2=>?_⟩
    .rcases a8.mp hp with rfl|hp
     .exact Znr I.aj hb
     .exact h4 p hp
    .cases i with
     | zero =>
      injection e1 with e1;injection e2 with e2;subst e1 e2;exact⟨ta,o,n,rfl,ho,dD,hd,hk⟩
     | succ i=>exact h3 i v p e1 e2
 obtain⟨ps,h1,h2,h4,h3⟩:=key hp rv;refine ax.ZcT (ps:=ps) (I.ok.hd hc) hu ho ⟨by rw[cO];exact h2,h4,λi v p e1 e2 h' hk=>?_⟩ (by rw[cO];lia) λh' tk cx hk=>?_
 .obtain⟨b,o,n,e,cB,h5,h6,h7⟩:=h3 i v p (by rw[<- e1];simp) e2;exact⟨b,o,n,e,hk b o (aP cB) cB,h5,h6,h4 p (bW e2) h' hk⟩
 .have Au:ae.length=ps.length:=dz h1;have aM:(C8 ae).length<=ae.length:=by
   have:=Od ae [];rw[vz,sQ] at this;exact this
  obtain⟨o,es,ep,g1,g2,g3,g4,g5,g6⟩:=cx;have hf:H s.heap.objs.size=none:=I.aj.fresh (aD _);exact⟨.ref _,_,I.laid (t':=tk) (λb o e=>hk b o e) (aD _) (show ZX X.prog X.w _ h' _ (Zv X.prog X.w s.heap.objs.size (C8 ae)) from⟨⟨by rw[bu];lia,nj.mpr (fB (bo I.big)),_,Rp h1 .nil,o,es,ep,g1,g2,g3,g4,g6⟩,⟨o,g1⟩,λh1 h2 ⟨y1,y2,ys,y3,o',bJ,gD,y4,y5⟩ keep=>⟨y1,y2,ys,y3,o',bJ,gD,keep _ y4,y5⟩⟩),rfl,q _ hf⟩
end L2
namespace ax
open PySem PyProof.Rows yT PySem.W PySem.SeqAt L2
abbrev Pk:=Int×List Int
def ltI:List Int->List Int->Bool
 | [],[]=>false
 | [],_::_=>true
 | _::_,[]=>false
 | x::xs,y::ys=>if x=y then ltI xs ys else decide (x<y)
theorem C4:∀xs:List Int,ltI xs xs=false
 | []=>rfl
 | x::xs=>by rw[ltI,ao rfl];exact C4 xs
theorem Zll:fP ltI where
 mM:=C4
 trans:=by
  intro a
  induction a with
  | nil =>
   intro b c h1 h2;cases c with
   | nil=>cases b <;> cases h2
   | cons _ _=>rfl
  | cons x xs ih =>
   intro b c h1 h2;cases b with
   | nil=>cases h1
   | cons y ys =>
    cases c with
    | nil=>cases h2
    | cons z zs =>
     rw[ltI] at h1 h2 ⊢;by_cases e1:x=y
     .subst e1;by_cases e2:x=z
      .rw[ao rfl] at h1;rw[ao e2] at h2 ⊢;exact ih _ _ h1 h2
      .rw[ai e2] at h2 ⊢;exact h2
     .rw[ai e1] at h1;have h1:=bC h1;by_cases e2:y=z
      .subst e2;rw[ai e1];exact aJ h1
      .rw[ai e2] at h2;have h2:=bC h2;rw[ai (by lia)];exact aJ (by lia)
 xU:=by
  intro a
  induction a with
  | nil =>
   intro b h1 h2;cases b with
   | nil=>rfl
   | cons _ _=>cases h1
  | cons x xs ih =>
   intro b h1 h2;cases b with
   | nil=>cases h2
   | cons y ys =>
    rw[ltI] at h1 h2;by_cases e:x=y
    .subst e;rw[ao rfl] at h1 h2;rw[ih _ h1 h2]
    .rw[ai e] at h1;rw[ai (λz=>e z.symm)] at h2;have h1:=o7 h1;have h2:=o7 h2;lia
def iV:Pk->Pk->Bool:=pQ (λa b:Int=>decide (a<b)) ltI
theorem CZ:fP iV:=zx.lex Zll
theorem CK:∀xs ys:List Int,lR (xs.map ff) (ys.map ff)=decide (xs=ys)
 | [],[]=>rfl
 | [],_::_=>by simp[lR]
 | _::_,[]=>by simp[lR]
 | x::xs,y::ys=>by
  show((x == y)&&lR (xs.map ff) (ys.map ff))=_;rw[CK xs ys];by_cases e:x=y <;> by_cases e2:xs=ys <;> simp[e,e2]
theorem Hx:∀xs ys:List Int,gF (xs.map ff) (ys.map ff) (ltI xs ys)
 | [],[]=>.nn
 | [],_::_=>.nc
 | _::_,[]=>.cn
 | x::xs,y::ys=>by
  by_cases e:x=y
  .rw[ltI,ao e];exact .eq (by show(x == y)=true;rw[e];simp) (Hx xs ys)
  .rw[ltI,ai e];exact .lt (by show(x == y)=false;exact nj.mpr e) (.int x y)
theorem lay_ints:∀xs:List Int,iL (xs.map ff)=true
 | []=>rfl
 | x::xs=>by
  show(true&&iL (xs.map ff))=true;rw[lay_ints xs];rfl
theorem HS:∀xs:List Int,jk (xs.map ff)=0
 | []=>rfl
 | x::xs=>by
  show max 0 (jk (xs.map ff))=0;rw[HS xs];rfl
def pN:List aa->List Int->Prop:=ck λv i=>∃t,v=eC i t
theorem pN.inj:∀{vs:List aa}{a b:List Int},pN vs a->pN vs b->a=b
 | _,_,_,.nil,.nil=>rfl
 | _,_,_,.cons ⟨_,e1⟩ t1,.cons ⟨_,e2⟩ t2=>by
  rw[e1] at e2;injection e2 with e2;rw[e2,pN.inj t1 t2]
theorem pN.reads{h:Heap}:∀{vs:List aa}{a:List Int},pN vs a->∃as,F_ h vs (a.map ff) as
 | _,_,.nil=>⟨_,.nil⟩
 | _,_,.cons ⟨_,e⟩ t=>by
  obtain⟨as,r⟩:=pN.reads (h:=h) t;subst e;exact⟨_,.cons (.int _ _) r⟩
def jW(h:Heap)(v:aa)(q:Pk):Prop := ∃a o t n c o2 vs n2,v=.ref a/\h.get? a=some o/\o.cls=.type "tuple" /\ o.data=.seq #[.int q.1 t,.ref c] n/\h.get? c=some o2/\o2.cls=.type "tuple" /\ o2.data=.seq vs n2/\pN vs.toList q.2
theorem jW.inj{h:Heap}{v:aa}{q q':Pk}(x:jW h v q)(y:jW h v q'):q=q':=by
 obtain⟨a,o,t,n,c,o2,vs,n2,rfl,h1,_,h3,h4,_,h6,h7⟩:=x;obtain⟨a',o',t',n',c',Y8,Cj,GG,e,pq,_,iq,yF,_,NP,Y0⟩:=y;cases e;rw[h1] at pq;cases pq;rw[h3] at iq;obtain⟨q1,q2⟩:=q;obtain⟨r1,r2⟩:=q';simp only[V',VO,Fv,XQ,XU,and_true] at iq;obtain⟨⟨⟨e1,_⟩,e2⟩,_⟩:=iq;subst e2;rw[h4] at yF;cases yF;rw[h6] at NP;cases NP;rw[e1,show q2=r2 from h7.inj Y0]
variable{h:Heap}
theorem jW.keep{h':Heap}{v:aa}{q:Pk}(x:jW h v q)(k:∀b o,h.get? b=some o->h'.get? b=some o):jW h' v q:=by
 obtain⟨a,o,t,n,c,o2,vs,n2,rfl,h1,h2,h3,h4,r⟩:=x;exact⟨a,o,t,n,c,o2,vs,n2,rfl,k _ _ h1,h2,h3,k _ _ h4,r⟩
open Classical in
noncomputable def ki(h:Heap)(v:aa):Pk:=if x:∃q,jW h v q then x.choose else(0,[])
theorem Dl{v:aa}{q:Pk}(x:jW h v q):ki h v=q:=by
 unfold ki;rw[dif_pos ⟨q,x⟩];exact(Mo (⟨q,x⟩:∃q,jW h v q)).inj x
theorem Qs{h:Heap}:∀{vs:List aa},(∀v∈vs,∃q,jW h v q)->∃fs,KatTups h vs fs/\fs.length=vs.length/\∀f∈fs,∃i t,f=.int i t
 | [],_=>⟨[],trivial,rfl,λ_ h=>nomatch h⟩
 | v::vs,hv=>by
  obtain⟨q,a,o,t,n,c,_,_,_,rfl,ho,hc,hd,_⟩:=hv v (bw ..);obtain⟨fs,kt,hl,hf⟩:=Qs (vs:=vs) λx hx=>hv x (bp _ hx);refine⟨.int q.1 t::fs,Wt ho hc hd rfl kt,by simp[hl],λf hm=>?_⟩;rcases a8.mp hm with rfl|hm
  .exact⟨_,t,rfl⟩
  .exact hf f hm
variable{prog:aq}{w:ap}{A:aC}{s:ag}
theorem Zfe{h0:Heap}{vs:List aa}(hu:A.units+10<cLine)(hv:∀v∈vs,∃q,jW h0 v q)(k0:∀b o,h0.get? b=some o->s.heap.get? b=some o)(h2:2<=vs.length):yY prog w A (λu v=>iV (ki h0 u) (ki h0 v)) vs s:=by
 have pA:∀v∈vs,∃q,jW s.heap v q:=λv hm=>let ⟨q,x⟩:=hv v hm;⟨q,x.keep k0⟩;obtain⟨fs,k,hl,hf⟩:=Qs pA;refine⟨tuples' true,λQ E hq=>?_,?_⟩
 .refine kat_kind (T:=.type "int") k (by lia) (λv hm=>?_) rfl hq;obtain⟨i,t,rfl⟩:=hf v hm;exact FJ rfl
 .intro x y hx hy E;rw[BW] at hx hy;obtain⟨q,xq⟩:=hv _ (oZ hx).2;obtain⟨q',yq⟩:=hv _ (oZ hy).2;have e1:(λx y:dZ=>iV (ki h0 x.1) (ki h0 y.1)) x y=iV q q':=by
   show iV (ki h0 x.1) (ki h0 y.1)=_;have qm:=(oZ hx);have K8:=(oZ hy);rw[Dl xq,Dl yq]
  rw[e1];obtain⟨a,o,t,n,c,o2,Ma,n2,e,ho,hc,hd,g1,g2,g3,g4⟩:=xq.keep k0;obtain⟨a',o',t',n',c',Y8,ZDq,GG,e',b9,dD,cx,YW,YX,YY,YZ⟩:=yq.keep k0;rw[e,e'];obtain⟨q1,q2⟩:=q;obtain⟨r1,r2⟩:=q';obtain⟨as,ra⟩:=g4.reads (h:=s.heap);obtain⟨bs,rb⟩:=YZ.reads (h:=s.heap);have rd:BN s.heap (.ref c) (.tuple (q2.map ff)) as:=.tuple g1 g2 g3 ra;have NX:BN s.heap (.ref c') (.tuple (r2.map ff)) bs:=.tuple YW YX YY rb;have Tq:∀l:List Int,(FX (l.map ff)).depth=1:=λl=>by
   show jk (l.map ff)+1=1;rw[HS]
  have TY:A.units+min (FX (q2.map ff)).depth (FX (r2.map ff)).depth<cLine:=by
   rw[Tq,Tq];lia
  refine kat_lt ho hd b9 cx ?_;have L':iV (q1,q2) (r1,r2)=(decide (q1<r1) || (decide (q1=r1)&&ltI q2 r2)):=rfl;rw[L'];refine yv (B0 (yw (λc1=>yz ?_) (λc1=>yx ?_)))
  .have kO:q1=r1:=eq_of_beq c1;subst kO;refine yv (Np _ _ A s _ _ _ _ rd NX (lay_ints q2) (lay_ints r2) TY _ _ _ _ ?_);rw[show lQ (.tuple (q2.map ff)) (.tuple (r2.map ff))=decide (q2=r2) from CK q2 r2];refine yw (λc4=>yz (kat_nil ⟨rfl,?_⟩)) (λc4=>yx ?_)
   .rw[bC c4];simp[C4]
   .refine Gi _ _ (jO.at (.tup (Hx q2 r2)) A rd NX (lay_ints q2) (lay_ints r2) TY _ _ _ _ ⟨rfl,?_⟩);simp
  .refine Nw ⟨rfl,?_⟩;have kO : ¬ q1=r1:=λz=>by rw[z] at c1;simp at c1
   simp[kO]
end ax
namespace L2
open PySem PySem.Spec PyProof.Rows PySem.W ax
def pk(q:Pk):ZQ:=(.inl q.1,q.2.map .inl)
theorem ro{a b:Pk}(h:pk a=pk b):a=b:=by
 obtain⟨a1,a2⟩:=a;obtain⟨b1,b2⟩:=b;have h1:=congrArg FW h;have h2:=congrArg MX h;have h1:(aN a1:Key)=.inl b1:=h1;have h2:a2.map (aN:Int->Key)=b2.map .inl:=h2;injection h1 with h1;rw[h1,List.map_inj_right (λ_ _ e=>by injection e) |>.mp h2]
def cp(H:Hp)(zs:List V)(qs:List Pk):Prop:=ck (λz q=>∃b,z=V.ref b/\aQ H b (pk q)) zs qs
theorem cp.length{H:Hp}:∀{zs:List V}{qs:List Pk},cp H zs qs->zs.length=qs.length
 | _,_,.nil=>rfl
 | _,_,.cons _ t=>by rw[bB,bB,cp.length t]
theorem cp.get{H:Hp}:∀{zs:List V}{qs:List Pk},cp H zs qs->∀(i:Nat) z,zs[i]?= some z->∃b q,qs[i]?= some q/\z=V.ref b/\aQ H b (pk q)
 | _,_,.cons ⟨p,e1,e2⟩ t,i,z,hz=>by
  cases i with
  | zero =>
   injection hz with hz;subst hz;exact⟨p,_,rfl,e1,e2⟩
  | succ i=>exact cp.get t i z hz
theorem cp.mem{H:Hp}:∀{zs:List V}{qs:List Pk},cp H zs qs->∀z∈zs,∃p,∃q∈qs,z=V.ref p/\aQ H p (pk q)
 | _,_,.cons ⟨p,e1,e2⟩ t,z,hz=>by
  rcases a8.mp hz with rfl|hz
  .exact⟨p,_,bw ..,e1,e2⟩
  .obtain⟨p,q,hq,r⟩:=cp.mem t z hz;exact⟨p,q,bp _ hq,r⟩
theorem cp.keep{H H':Hp}:∀{zs:List V}{qs:List Pk},cp H zs qs->(∀b xs,H b=some (.tup xs)->H' b=some (.tup xs))->cp H' zs qs
 | _,_,.nil,_=>.nil
 | _,_,.cons ⟨p,e1,e2⟩ t,k=>.cons ⟨p,e1,e2.mono k⟩ (cp.keep t k)
theorem cp.snoc{H:Hp}{q:Pk}{b:Addr}(e:aQ H b (pk q)):∀{zs:List V}{qs:List Pk},cp H zs qs->cp H (zs ++ [.ref b]) (qs ++ [q])
 | _,_,.nil=>.cons ⟨b,rfl,e⟩ .nil
 | _,_,.cons r t=>.cons r (cp.snoc e t)
theorem QO:∀{l:List Int}{us:List aa},Vals (l.map V.int) us->pN us l
 | [],_,.nil=>.nil
 | _::_,_,.cons r t=>by
  obtain⟨t1,rfl⟩:=r;exact .cons ⟨t1,rfl⟩ (QO t)
variable{P:aq}{w:ap}
theorem IA{H:Hp}{h:Heap}{b:Addr}{q:Pk}(ok:bD P w H h)(e:aQ H b (pk q)):jW h (.ref b) q:=by
 obtain⟨c,e1,e2⟩:=e;obtain⟨_,us,fK,o,ho,dD,n,hd⟩:=ok b _ e1;obtain⟨u1,us,rfl,r1,fK⟩:=Vals.inv fK;obtain⟨u2,us,rfl,r2,fK⟩:=Vals.inv fK;obtain rfl:=Vals.end_ fK;obtain⟨t1,rfl⟩:=r1;obtain rfl:u2=ar c:=r2;rw[show(pk q).2.map kV=q.2.map V.int by show(q.2.map aN).map kV=_;rw[ij];rfl] at e2;obtain⟨_,us,fK,o2,cB,gM,n2,hd2⟩:=ok c _ e2;exact⟨b,o,t1,n,c,o2,us.toArray,n2,rfl,ho,dD,hd,cB,gM,hd2,QO fK⟩
theorem Q8{P:aq}{w:ap}{H:Hp}{h0:Heap}(ok:bD P w H h0){ys:List V}{its:List aa}{qs:List Pk}(rv:Vals ys its)(ql:cp H ys qs):∀us:List aa,(∀u∈us,u∈its)->∃zs,Vals zs us/\cp H zs (us.map (ki h0))
 | [],_=>⟨[],.nil,.nil⟩
 | u::us,h=>by
  obtain⟨y,hy,ry⟩:=CF rv u (h u (bw ..));obtain⟨zs,rz,hz⟩:=Q8 ok rv ql us λx hx=>h x (bp _ hx);obtain⟨t,q,_,rfl,e2⟩:=ql.mem y hy;have hu:u=ar t:=ry;subst hu;exact⟨_,.cons ry rz,.cons ⟨t,rfl,by rw[Dl (IA ok e2)];exact e2⟩ hz⟩
theorem QG{P:aq}{w:ap}{H:Hp}{h0:Heap}(ok:bD P w H h0):∀{ys:List V}{its:List aa}{qs:List Pk},Vals ys its->cp H ys qs->its.map (ki h0)=qs
 | _,_,_,.nil,.nil=>rfl
 | _,_,_,.cons (b:=u) r rr,.cons ⟨p,e1,e2⟩ t=>by
  subst e1;have hu:u=ar p:=r;subst hu;rw[b8,QG ok rr t,Dl (IA ok e2)]
theorem ZkG{H:Hp}{ae:List (ZQ×Addr×V)}{xs:List (ZQ×Addr×aa)}(h:NR ae xs):(∀x∈ae,aQ H x.2.1 x.1)->∀{ps:List Pk},ae.map (·.1)=ps.map pk->∃ys,Vals ys (xs.map λx=>ar x.2.1)/\cp H ys ps:=by
 induction h with
 | nil =>
  intro _ ps e;cases ps with
  | nil=>exact⟨[],.nil,.nil⟩
  | cons n ns=>cases e
 | @cons p q l m r t ih =>
  intro hk ps e;cases ps with
  | nil=>cases e
  | cons n ns =>
   rw[b8,b8] at e;obtain⟨e1,e2⟩:=Wx e;obtain⟨ys,h1,h2⟩:=ih (λx hx=>hk x (bp _ hx)) e2;refine⟨.ref q.2.1::ys,.cons rfl h1,.cons ⟨q.2.1,rfl,?_⟩ h2⟩;have h3:=hk p (bw ..);rw[e1,r.2.1] at h3;exact h3
variable{X:Cx}
theorem Zd1(hP:X.prog=P)(hw:X.w=w)(hc:X.calm=true)(hu:X.A.units+30<cLine):gH X (.builtin "sorted") (λxs H Q=>∃(d:Addr)(ae:List (ZQ×Addr×V))(ps:List Pk),xs=[.ref d]/\dP P w H d ae/\ae.length<=63/\ae.map (·.1)=ps.map pk/\∀(r:Addr)(zs:List V)(ms:List Pk),H r=none->ms.Perm ps->ms.Pairwise (λa b=>iV b a=false)->cp H zs ms->Q (.ref r) (upd H r (.lst zs))):=by
 subst hP hw;intro ac s σ H xs us Q I r h;obtain⟨d,ae,ps,rfl,hd,hlen,fu,q⟩:=h;obtain⟨u,rfl,rx⟩:=vals1 r;obtain rfl:u=.ref d:=rx;obtain⟨⟨z,lo,xs,rel,o,es,ep,ho,hx,cT,i7,i9⟩,_,_⟩:=(show ZX X.prog X.w H s.heap d (Zv X.prog X.w d ae) from hd.1.ok I.aj);obtain⟨ys,rv,pl⟩:=ZkG rel hd.2 fu;have hek:es.toList.map (·.key)=xs.map λx=>ar x.2.1:=by
  rw[i7,ij];rfl
 have xB:ae.length=xs.length:=dz rel;have Ed:es.size=xs.length:=by rw[<- aW,i7,aF]
 refine Cw (lv:=λu v=>iV (ki s.heap u) (ki s.heap v)) (C:=λys=>ys=xs.map λx=>ar x.2.1) (CZ.Vo (ki s.heap)) (λQ' E' hq=>?_) (λpC h6 Vv d6 hC k6 z_=>?_) λpa pC out h3 mU d3 c hC eM jc k3 e3 hle KC=>?_
 .refine OD (QI lo) (I.ok.hd hc) (⟨o,ho,hx,cT⟩:gJ s.heap d es ep) (by rw[bu];lia) λacc h' tk kp hit hle=>?_;have i5:acc.toList=es.toList.map (·.key):=by
   refine Fw λj=>?_;rw[fz,bM,fz];cases hj:acc[j]? with
   | none =>
    have h3:acc.size<=j:=Mc.mp hj;rw[hit.1] at h3;rw[xY h3];rfl
   | some v =>
    obtain⟨e,h1,rfl⟩:=hit.2 j v hj;rw[h1];rfl
  rw[i5,hek];exact hq _ h' tk s.drawn kp rfl (by rw[aF];lia) hle
 .subst hC;refine Zfe (h0:=s.heap) (by show X.A.units+1+1+10<cLine;lia) (λv hv=>?_) k6 z_;obtain⟨y,hy,ry⟩:=CF rv v hv;obtain⟨t,q1,_,rfl,e2⟩:=pl.mem y hy;obtain rfl:v=ar t:=ry;exact⟨q1,IA I.aj e2⟩
 .subst hC;obtain⟨zs,rz,Lc⟩:=Q8 I.aj rv pl out.toList λu hu=>eM.mem_iff.mp hu;have iE:zs.length=out.size:=rz.length.trans (aW ..);have AD:out.size=xs.length:=by
   have:=eM.length_eq;rw[aW,aF] at this;exact this
  have I2:=I.laid (h':=h3) (t':=mU) (a:=pa) (o:=.lst zs) (λb o e=>k3 b o e) hle (show ZX X.prog X.w _ h3 _ (.lst zs) from⟨by rw[bu];lia,out.toList,c,rz,e3⟩);refine⟨.ref pa,_,I2.draws (d:=d3),rfl,q pa zs _ (I.aj.fresh hle) ?_ (iK.mpr jc) Lc⟩;rw[<- QG I.aj rv pl];exact eM.map _
end L2
namespace L2
open PySem PySem.Spec PyProof.Rows PySem.SeqAt PySem.W
structure yV(X:Cx)(ac:List (Addr×Obj))(σ : St)(it:Addr)(xs:List V)(S:Nat->Heap->Prop)(Src:Hp->Prop):Prop where
 data:∀{i h},S i h->∃o,h.get? it=some o/\(∀v,o.data ≠ .cell v)/\∀h':Heap,h'.get? it=some o->S i h'
 item:∀{i x H s}{Q':Option aa->ag->Prop}{E:aa->ag->Prop},Inv (bY X) ac σ H s->S i s.heap->Src H->xs[i]?= some x->bO (bY X) ac H it->(∀u s',Inv (bY X) ac σ H s'->S (i+1) s'.heap->RelV x u->Q' (some u) s')->wpAny (model X.prog X.w) X.A.in1 (pyNext (.ref it)) Q' E s
 done:∀{i H s}{Q':Option aa->ag->Prop}{E:aa->ag->Prop},Inv (bY X) ac σ H s->S i s.heap->Src H->xs.length<=i->bO (bY X) ac H it->(∀s',Inv (bY X) ac σ H s'->Q' none s')->wpAny (model X.prog X.w) X.A.in1 (pyNext (.ref it)) Q' E s
def DC(X:Cx)(σ : St)(f:Addr)(KF:V->Hp->VK->Prop):Prop := ∀{ac:List (Addr×Obj)}{x:V}{u:aa}{H:Hp}{s:ag}{Q2:VK},Inv (bY X) ac σ H s->RelV x u->KF x H Q2->wpAny (model X.prog X.w) X.A.in1 (call (.ref f) [u]) (EP (bY X) ac σ Q2) fw s
structure yQ(K:ay)(H1:Hp)(p:Addr)(xs:List V)(bf:Nat->Nat->Bool)(KA:Nat->V->Hp->Prop)(KF:V->Hp->VK->Prop):Prop where
 keep:∀i k H H',KA i k H->(∀b o,b≠p->H b=some o->H' b=some o)->KA i k H'
 lt:∀i j k k' H,KA i k H->KA j k' H->R1 K H k k' (bf i j)
 ev:∀i x H,xs[i]?= some x->Zj H1 H->H p≠none->KF x H λkv H'=>Zj H H'/\KA i kv H'
variable{X:Cx}{ac:List (Addr×Obj)}{σ:St}{H:Hp}{s:ag}{f it:Addr}{xs:List V}{S:Nat->Heap->Prop}{Src:Hp->Prop}{KF:V->Hp->VK->Prop}
theorem P0{x:V}{u:aa}{i:Nat}{Q2:VK}{Q':aa->ag->Prop}(hK:DC X σ f KF)(wk:yV X ac σ it xs S Src)(I:Inv (bY X) ac σ H s)(st:S i s.heap)(hf:bO (bY X) ac H it)
  (r:RelV x u) (h:KF x H Q2) (hQ:∀v kx s' H',Inv (bY X) ac σ H' s'->S i s'.heap->bO (bY X) ac H' it->RelV kx v->Q2 kx H'->Q' v s') :
  wpAny (model X.prog X.w) X.A.in1 (call (.ref f) [u]) Q' fw s:=by
 obtain⟨o,e,hd,back⟩:=wk.data st;have I':Inv (bY X) (ac ++ [(it,o)]) σ H s:=I.A8 λq hq=>(bV.mp hq).elim (λz=>I.pin q (cj _ z)) λz=>by
  rw[aI.mp z];exact⟨e,hf.1,hf.2.1,hf.2.2.1,hd⟩
 refine aw (hK I' r h) ?_;rintro v s' ⟨kx,H',I2,rk,q⟩;have pn:=I2.pin (it,o) (cj _ (cj _ (aI.mpr rfl)));exact hQ v kx s' H' I2.vn (back _ pn.1) ⟨pn.2.1,hf.2⟩ rk q
variable{H1:Hp}{p:Addr}
theorem Hh{o:HO}(hn:H1 p=none)(s:Zj H1 H):Zj H1 (upd H p o):=λb u e=>by
 rw[Zc (λz=>by rw[z,hn] at e;cases e)];exact s b u e
theorem OO{o:HO}:∀b u,b≠p->H b=some u->(upd H p o) b=some u:=λb u hb e=>by
 rw[Zc hb];exact e
variable{KA:Nat->V->Hp->Prop}{bf:Nat->Nat->Bool}{Q:VK}{kw:List (Str×aa)}
theorem Zi0(hu:X.A.in1.units+200<cLine)(hK:DC X σ f KF)(wk:yV X ac σ it xs S Src)(ok:X.Ok)(hn:H1 p=none)(hs:∀H,Zj H1 H->Src H)(kb:yQ X.K H1 p xs bf KA KF)
  (q:∀x H',xs[eh bf (xs.length-1)]?= some x->Zj H1 H'->Q x H') :
  ∀(r i:Nat)(bi bk:V)(H:Hp)(s:ag),xs.length-(i+1)=r->i<xs.length->xs[eh bf i]?= some bi->KA (eh bf i) bk H->Zj H1 H->H p=some (.lst [bi,bk])->Inv (bY X) ac σ H s->S (i+1) s.heap->bO (bY X) ac H it ->
   codeAny (model X.prog X.w) X.A (.builtin "min.loop" ⟨[.ref it,.ref f,.ref p],kw⟩) (R7 X ac σ Q) s:=by
 have rS:(toString "min" ++ toString ".loop" : String)= "min.loop" := by decide
 intro r
 induction r with
 | zero =>
  intro i bi bk H s AJ hi hb ka sm hp I st hf;obtain⟨_,its,n,rv,_,e⟩:=I.mO hp;obtain⟨ub,uk,rfl,rb,rk⟩:=vals2 rv;refine g9 MZ ?_;rw[kB sW _];show wpAny _ X.A.in1 (seqItems? (.ref p) >>= _) _ _ _;refine af (qL e rfl ?_);show wpAny _ X.A.in1 (tryCatch (pyNext (.ref it)) _ >>= _) _ _ _;refine af (tj (wk.done I st (hs _ sm) (by lia) hf λs1 I1=>?_));obtain⟨_,its,n,rv,_,e⟩:=I1.mO hp;show wpAny _ X.A.in1 (updateSeq p (λ_=>#[]) >>= _) _ _ _;refine af (B5 e rfl (af (yC (ah ?_))));exact⟨bi,_,Inv.ZAZ ok (I1.xG (its':=[]) hp e rfl .nil (bG _)),rb,q bi _ (by rw[show xs.length-1=i by lia];exact hb) (Hh hn sm)⟩
 | succ r ih =>
  intro i bi bk H s AJ hi hb ka sm hp I st hf;obtain⟨_,its,n,rv,_,e⟩:=I.mO hp;obtain⟨ub,uk,rfl,rb,rk⟩:=vals2 rv;have lE:i+1<xs.length:=by lia
  have hx:xs[i+1]?= some (xs[i+1]' lE):=cG lE;generalize xs[i+1]' lE=xi at hx;refine g9 MZ ?_;rw[kB sW _];show wpAny _ X.A.in1 (seqItems? (.ref p) >>= _) _ _ _;refine af (qL e rfl ?_);show wpAny _ X.A.in1 (tryCatch (pyNext (.ref it)) _ >>= _) _ _ _;refine af (tj (wk.item I st (hs _ sm) hx hf λu s1 I1 Bf ru=>?_));show wpAny _ X.A.in1 (tryCatch (holding [u] (call (.ref f) [u])) _ >>= _) _ _ _;refine af (tj (cP (cM (P0 hK wk I1 Bf hf ru (kb.ev (i+1) xi H hx sm (by rw[hp];exact λz=>nomatch z)) (Q':=λv s'=>∃kx H',Inv (bY X) ac σ H' s'/\S (i+1+1) s'.heap/\bO (bY X) ac H' it/\RelV kx v/\Zj H H'/\KA (i+1) kx H')
   λv kx s' H' a b c d e'=>⟨kx,H',a,b,c,d,e'⟩) (λv s2 h2=>?_) λ_ _ hF=>hF.elim)))
  obtain⟨kx,H2,I2,cE,xl,E3,ig,iF⟩:=h2;have gP:=ig _ _ hp;have UE:=kb.keep _ _ _ H2 ka λb o _ e=>ig b o e;obtain⟨d1,d2,D1,D2,c1,c2,hd,aA⟩:=kb.lt _ _ _ _ _ iF UE;obtain⟨as,ra⟩:=D1.reads I2 E3;obtain⟨bs,ZE⟩:=D2.reads I2 rk;show wpAny _ X.A.in1 (tryCatch (holding [u,v] (richCompare .Lt v uk >>= _)) _ >>= _) _ _ _;refine af (tj (cP (af (aA.at X.A.in1 ra ZE c1 c2 (by lia) X.prog X.w _ _ ?_))));refine af (cP (nr ?_));refine af (yC (ah ?_));obtain⟨_,ou,n2,rv2,_,e2⟩:=I2.mO gP;cases c:bf (i+1) (eh bf i) with
  | true =>
   simp only[qK];refine af (B5 e2 rfl (af (yC ?_)));rw[rS];have e4:eh bf (i+1)=i+1:=by
    show(if bf (i+1) (eh bf i)=true then i+1 else eh bf i)=_
    rw[ao c]
   refine ah ⟨jq sW _,ih (i+1) xi kx (upd H2 p (.lst [xi,kx])) _ (by lia) lE (by rw[e4];exact hx) (by rw[e4];exact kb.keep _ _ _ _ iF OO) (Hh hn (sm.trans ig)) Za (I2.xG (t':=s2.toks) (its':=[u,v]) gP e2 rfl (.cons ru (.cons E3 .nil)) (by show 2<=sizeLine;decide)) ?_ (Rj xl ⟨_,gP⟩)⟩;obtain⟨o,eo,_,back⟩:=wk.data cE;exact back _ ((jh _ _ (Zi gP xl.1)).trans eo)
  | false =>
   simp only[dv,cX];refine af (yC ?_);rw[rS];have e4:eh bf (i+1)=eh bf i:=by
    show(if bf (i+1) (eh bf i)=true then i+1 else eh bf i)=_
    rw[ai (by rw[c];decide)]
   exact ah ⟨jq sW _,ih (i+1) bi bk H2 _ (by lia) lE (by rw[e4];exact hb) (by rw[e4];exact UE) (sm.trans ig) gP I2 cE xl⟩
theorem OZ(hu:X.A.in1.units+200<cLine)(hK:DC X σ f KF)(wk:yV X ac σ it xs S Src)(ok:X.Ok)(hn:H1 p=none)(hs:∀H,Zj H1 H->Src H)(kb:yQ X.K H1 p xs bf KA KF)(aY:xs ≠ [])
  (q:∀x H',xs[eh bf (xs.length-1)]?= some x->Zj H1 H'->Q x H') (I:Inv (bY X) ac σ (upd H1 p (.lst [])) s) (st:S 0 s.heap) (hf:bO (bY X) ac (upd H1 p (.lst [])) it) :
  codeAny (model X.prog X.w) X.A (.builtin "min.loop" ⟨[.ref it,.ref f,.ref p],kw⟩) (R7 X ac σ Q) s:=by
 have rS:(toString "min" ++ toString ".loop" : String)= "min.loop" := by decide
 have KD:(upd H1 p (.lst [])) p=some (.lst []):=Za;have Bd:Zj H1 (upd H1 p (.lst [])):=Zj.new hn;obtain⟨_,ZEm,n0,rv0,_,e0⟩:=I.mO KD;cases rv0;refine g9 MZ ?_;rw[kB sW _];show wpAny _ X.A.in1 (seqItems? (.ref _) >>= _) _ _ _;refine af (qL e0 rfl ?_);show wpAny _ X.A.in1 (tryCatch (pyNext (.ref it)) _ >>= _) _ _ _;have hlen:0<xs.length:=MG.mpr aY;have hx:xs[0]?= some (xs[0]' hlen):=cG hlen;generalize xs[0]' hlen=x0 at hx;refine af (tj (wk.item I st (hs _ Bd) hx hf λu s1 I2 Bf ru=>?_));show wpAny _ X.A.in1 (tryCatch (holding [u] (call (.ref f) [u])) _ >>= _) _ _ _;refine af (tj (cP (cM (P0 hK wk I2 Bf hf ru (kb.ev 0 x0 _ hx Bd (by rw[KD];exact λz=>nomatch z)) (Q':=λv s'=>∃kx H',Inv (bY X) ac σ H' s'/\S (0+1) s'.heap/\bO (bY X) ac H' it/\RelV kx v/\Zj (upd H1 p (.lst [])) H'/\KA 0 kx H')
  λv kx s' H' a b c d e'=>⟨kx,H',a,b,c,d,e'⟩) (λv s2 h2=>?_) λ_ _ hF=>hF.elim)))
 obtain⟨kx,H2,I3,cE,xl,E3,ig,iF⟩:=h2;have gP:=ig _ _ KD;obtain⟨_,ou,n2,rv2,_,e2⟩:=I3.mO gP;refine af (B5 e2 rfl ?_);rw[rS];refine ah ⟨jq sW _,Zi0 hu hK wk ok hn hs kb q _ 0 x0 kx (upd H2 p (.lst [x0,kx])) _ rfl hlen hx (kb.keep _ _ _ _ iF OO) (Hh hn (Bd.trans ig)) Za (I3.xG (t':=s2.toks) (its':=[u,v]) gP e2 rfl (.cons ru (.cons E3 .nil)) (by show 2<=sizeLine;decide)) ?_ (Rj xl ⟨_,gP⟩)⟩;obtain⟨o,eo,_,back⟩:=wk.data cE;exact back _ ((jh _ _ (Zi gP xl.1)).trans eo)
theorem OV(a v:aa):argsOk "min" ⟨[a],[(cm "key",v)]⟩:=by unfold argsOk;kernel_rfl
def zy(K:ay)(sp:Sp)(x:V)(H:Hp)(Q:VK):Prop := ∃l xs bf,x=.ref l/\au K H l xs/\xs ≠ []/\∀p,H p=none->(∃KA,yQ K H p xs bf KA (λx H Q2=>sp [x] H Q2 E0))/\∀x H',xs[eh bf (xs.length-1)]?= some x->Zj H H'->Q x H'
theorem au.sm{K:ay}{H':Hp}{l:Addr}(h:au K H l xs)(s:Zj H H'):au K H' l xs:=by
 rcases h with(h|⟨o,h⟩)|h
 .exact .inl (.inl (s _ _ h))
 .exact .inl (.inr ⟨o,s _ _ h⟩)
 .exact .inr h
section
variable{X:Cx}{ac:List (Addr×Obj)}{σ : St}{H:Hp}{s:ag}{k:Nat}{f:Addr}{fd:dy}{ps:List Str}{sp:Sp}{Q:VK}
theorem Zk5{it l:Addr}{xs:List V}(hc:X.calm=true):yV X ac σ it xs (λi h=>h.IsListIter it l i) (λH=>au X.K H l xs) where
 data:=λst=>Zj6 st
 item:=λI st hq hx hf h=>ZkN I st hq hx hf h
 done:=λI st hq hx hf h=>ZmR hc I st hq hx hf h
theorem Zgz{x:V}{u:aa}(hc:X.calm=true)(hu:X.A.in1.units+200<cLine)(F:br X.prog X.w X.K X.mg X.base cA k f fd ps sp)(hb:Binds X.K fd ps [])(hr:bK k X.A.in1)(I:Inv X ac σ H s)(rx:RelV x u)(h:zy X.K sp x H Q) :
  wpAny (model X.prog X.w) X.A (call (.builtin "min") [u] [(cm "key",.ref f)]) (EP X ac σ Q) X.xe s:=by
 have rS:(toString "min" ++ toString ".loop" : String)= "min.loop" := by decide
 obtain⟨l,xs,bf,rfl,hq,aY,alt⟩:=h;cases rx;obtain⟨its,rv,pl,hz⟩:=I.list hq;refine Xb Xg Xi Xf (OV _ _) ?_;show wpAny _ X.A.in1 (Fi "min" ["key","default"] 0 ⟨[],[(cm "key",.ref f)]⟩ >>= _) _ _ s;refine af (tf (show Fi "min" ["key","default"] 0 ⟨[],[(cm "key",.ref f)]⟩=pure [some (.ref f),none] from rfl) ?_);refine af (ah ?_);refine af (vQ pl.isList ?_);refine af (yD ?_ (bG _));rw[rS];refine ah ⟨jq sW _,?_⟩;have hS:(s.heap.push { cls:=.type "list_iterator",data:=.fields #[.ref l,.int 0 0] }).objs.size=s.heap.objs.size+1:=Mb ..;have I0:Inv (bY X) ac σ H { s with heap:=s.heap.push { cls:=.type "list_iterator",data:=.fields #[.ref l,.int 0 0] },toks:=s.toks }:=I.in1.kept λb o e=>aH _ e;have I1:=I0.AZ (its:=[]) (t':=s.toks) .nil (bG _);have fr:H (s.heap.push { cls:=.type "list_iterator",data:=.fields #[.ref l,.int 0 0] }).objs.size=none:=I0.fresh;have ne:s.heap.objs.size≠(s.heap.push { cls:=.type "list_iterator",data:=.fields #[.ref l,.int 0 0] }).objs.size:=by rw[hS];exact bo (kG _)
 have hf:bO (bY X) ac (upd H (s.heap.push { cls:=.type "list_iterator",data:=.fields #[.ref l,.int 0 0] }).objs.size (.lst [])) s.heap.objs.size:=I.in1.lC (aD _) (by rw[Zc ne];exact I.fresh);have st:((s.heap.push { cls:=.type "list_iterator",data:=.fields #[.ref l,.int 0 0] }).push { cls:=.type "list",data:=.seq ([]:List aa).toArray }).IsListIter s.heap.objs.size l 0:=⟨_,aH _ (bS _ rfl),rfl,rfl⟩;obtain⟨⟨KA,kb⟩,q⟩:=alt _ fr;exact OZ hu (λI' r h=>Dt (X:=bY X) (ds:=[]) (dvs:=[]) (E:=E0) F hr hb .nil zG I' (.cons r .nil) h) (Zk5 hc) I.ok fr (λH' sm=>hq.sm sm) kb aY q I1 st hf
end
section
variable{X:Cx}{x:Str}{ps:List Str}{j k:Nat}{sp:Sp}{e:Expr}{te:TE}{p p2 pos kp:Pos}
theorem ZkI(G:fO X.prog X.w X.K X.mg X.base x ps j sp)(hr:bK (k+1) X.A)(hc:X.calm=true)(hgm:Gl X (cm "min")) (hmm:X.mg (cm "min")=none) (hg:Gl X x) (pa:PA X [e] (nU te iz)) (hk:j<=k:=by decide) (dG:(x == ("__debug__" : Str))=false:=by decide)
  (cC:backTo pos (starEach [e] X.env)=(false,eval e X.env)::backTo pos (starEach [] X.env):=by rfl) (aM:(backTo pos (starEach [e] X.env)).any (·.1)=false:=by rfl) :
  PE X (.Call (.Name (cm "min") p) [e] [⟨some (cm "key"),.Name x p2,kp⟩] pos) (λσ H Q=>te σ H λv H1=>zy X.K sp v H1 Q):=by
 obtain⟨f,fd,F,b,kpn,m⟩:=G.ex;intro ac s σ H Q I h;refine o9 (nQ I hgm hmm Dr ?_);refine X0 (aw (pa pos ac s σ H (λvs H1=>match vs with | [v]=>zy X.K sp v H1 Q|_=>False) I h) ?_) cC aM
 rintro us s1 ⟨vs,H1,I1,r,q⟩
 match vs,r,q with
 | [v],r,q =>
  obtain⟨u,rfl,ru⟩:=r.one;have pk:PK X [⟨some (cm "key"),.Name x p2,kp⟩] (nU (tC (.ref f)) iz):=Zms (rh hg m (v:=.ref f) rfl dG) Znv;refine aw (pk pos ac s1 σ H1 (λzs H2=>match zs with | [z]=>z=.ref f/\zy X.K sp v H2 Q|_=>False) I1 ?_) λws s2 ⟨zs,H2,I2,rz,q2⟩=>?_
  .show V.ref f=.ref f/\zy X.K sp v H1 Q;exact⟨rfl,q⟩
  .match zs,rz,q2 with
   | [z],rz,q2 =>
    obtain⟨rfl,q2⟩:=q2;obtain⟨uf,rfl,rf⟩:=rz.one;cases rf;exact Zgz hc (by have:=(hr.in1).un;lia) (F.room hk) b hr.in1 I2 ru q2
end
def QF(X:Cx)(P:Addr)(L:List (Pos×Str))(aE:List (Str×Nat))(t:TE)(v:V)(σ : St)(H:Hp)(Q:VK):Prop :=
 bN H P L/\∃d ae bf,v=.ref d/\H d=some (Zv X.prog X.w d ae)/\ae ≠ []/\(∀o u,X.jN d≠some (.aO o u))/\∀f H2 ob,H f=none->h9 P H H2->bN H2 P L ->
  (∀p,(upd H2 d (.aO ob (Zv X.prog X.w d ae))) p=none->∃KA,yQ X.K (upd H2 d (.aO ob (Zv X.prog X.w d ae))) p (ae.map λx=>V.ref x.2.1) bf KA (λx H Q2=>t (vd x σ aE) H Q2)) /\
  ∀b k v H',ae[eh bf (ae.length-1)]?= some (k,b,v)->h9 P H H'->bN H' P L->H' d=some (Zv X.prog X.w d ae)->Q (.ref b) H'
theorem Zkj{d:Addr}{ob:Obj}{ae:List (ZQ×Addr×V)}{es:Array lO}{ep:Nat}(hc:X.calm=true)(hx:ob.ExactDict)(cT:ob.data=.dict es ep)(hl:es.size=ae.length) :
  yV X ac σ it (ae.map λx=>V.ref x.2.1) (λi h=>h.IsKeyIter it d i es.size ep) (λH=>H d=some (.aO ob (Zv X.prog X.w d ae))) where
 data:=λ{i h} st=>by
  obtain⟨o,e,c,dd⟩:=id st;exact⟨o,e,(λv z=>by rw[dd] at z;cases z),λh' e'=>⟨o,e',c,dd⟩⟩
 item:=λ{i x H s Q' E} I st hH sg hf h=>by
  obtain⟨gq,⟨z,lo,xs,rel,o2,n_,ep2,cB,kh,Ao,Kd,Zy2⟩,_⟩:=(show ZX X.prog X.w H s.heap d (.aO ob (Zv X.prog X.w d ae)) from I.aj d _ hH);rw[gq] at cB;cases cB;rw[cT] at Ao;cases Ao;rw[bM] at sg;obtain⟨⟨k,b,v⟩,gn,rfl⟩:=gB.mp sg;have hi:=(de.mp gn).1;have dh:i<es.size:=by lia
  obtain⟨f0,f1,f2,f3,f4,f5⟩:=hf;refine HV st (⟨ob,gq,hx,cT⟩:gJ s.heap d es ep) dh λh' bL sb=>?_;have I1:Inv (bY X) ac σ H { s with heap:=h' }:=I.turned (t':=s.toks) (λb o hb e=>(sb.2 b hb).trans e) f0 f1 f3 f4 f5;have xB:i<xs.length:=by
   have:=dz rel;lia
  have hk:es[i].key=ar xs[i].2.1:=by
   have e1:es.toList[i]?= some es[i]:=by simp
   rw[Kd,bM,cG xB] at e1;injection e1 with e1;rw[<- e1];rfl
  obtain⟨v',Cb⟩:=RL rel i xs[i] (cG xB);rw[gn] at Cb;injection Cb with Cb;have eb:b=xs[i].2.1:=congrArg (λx=>x.2.1) Cb;exact h _ _ I1 bL (by rw[hk,eb];rfl)
 done:=λ{i H s Q' E} I st hH hi hf h=>by
  obtain⟨gq,_⟩:=(show ZX X.prog X.w H s.heap d (.aO ob (Zv X.prog X.w d ae)) from I.aj d _ hH);obtain⟨f0,f1,f2,f3,f4,f5⟩:=hf;rw[aF] at hi;exact Iq (I.ok.hd hc) st (⟨ob,gq,hx,cT⟩:gJ s.heap d es ep) (by lia) λh' eb=>h _ (I.turned (t':=s.toks) (λb o hb e=>eb b o hb e) f0 f1 f3 f4 f5)
section
variable{X:Cx}{P:Addr}{L:List (Pos×Str)}{params:vp}{scope:cH}{body e:Expr}{xF p pos kp:Pos}{gj:List (Str×Addr)}{px:Str}{aE:List (Str×Nat)}{t te:TE}{k kb:Nat}
theorem Zie(Z:N2 X P L params scope body xF gj px aE kb t)(hc:X.calm=true)(hr:bK k X.A)(hg:Gl X "min") (hm:X.mg "min" = none) (pa:PA X [e] (nU te iz)) (hk:kb+3<=k:=by decide)
  (cC:backTo pos (starEach [e] X.env)=(false,eval e X.env)::backTo pos (starEach [] X.env):=by rfl) (aM:(backTo pos (starEach [e] X.env)).any (·.1)=false:=by rfl) :
  PE X (.Call (.Name "min" p) [e] [⟨some (cm "key"),.Lambda params body scope xF,kp⟩] pos) (λσ H Q=>te σ H λv H1=>QF X P L aE t v σ H1 Q):=by
 have rS:(toString "min" ++ toString ".loop" : String)= "min.loop" := by decide
 intro ac s σ H Q I h;refine o9 (nQ I hg hm Dr ?_);refine X0 (aw (pa pos ac s σ H (λvs H1=>match vs with | [v]=>QF X P L aE t v σ H1 Q|_=>False) I h) ?_) cC aM
 rintro us s1 ⟨vs,H1,I1,r,q⟩
 match vs,r,q with
 | [v],r,q =>
  obtain⟨u,rfl,ru⟩:=r.one;obtain⟨T,d,ae,bf,rfl,hq,aY,nf,q⟩:=q;obtain rfl:u=.ref d:=ru;obtain⟨c,Eb,Kl⟩:=Z.code;refine kws_cons (Zk1 I1 Z.bm Eb Kl T Z.mem Z.one Z.cl Z.df λf H2 s2 I2 hn sT T2 LF=>kws_nil ?_);have xK:d≠P:=λz=>by
   obtain⟨Vw,hP,_⟩:=T;rw[z,hP] at hq;cases hq
  have KJ:=sT _ _ xK hq;obtain⟨⟨z,lo,xs,rel,ob,es,ep,ho,hx,cT,i7,i9⟩,_⟩:=(show ZX X.prog X.w H2 s2.heap d (Zv X.prog X.w d ae) from I2.aj d _ KJ);obtain⟨q1,q2⟩:=q f H2 ob hn sT T2;have I3:=I2.SN KJ ho;have Ed:es.size=ae.length:=by rw[<- aW,i7,aF,dz rel]
  have hu:X.A.in1.units+200<cLine:=by have:=((hr.mono hk).in1).un;lia
  show wpAny _ _ (call (.builtin "min") [.ref d] [(cm "key",.ref f)]) _ _ _;refine Xb Xg Xi Xf (OV _ _) ?_;show wpAny _ X.A.in1 (Fi "min" ["key","default"] 0 ⟨[],[(cm "key",.ref f)]⟩ >>= _) _ _ s2;refine af (tf (show Fi "min" ["key","default"] 0 ⟨[],[(cm "key",.ref f)]⟩=pure [some (.ref f),none] from rfl) ?_);refine af (ah ?_);refine af (HC lo (⟨ob,ho,hx,cT⟩:gJ s2.heap d es ep) ?_);refine af (yD ?_ (bG _));rw[rS];refine ah ⟨jq sW _,?_⟩;have LA:∀b o u,H2 b=some (.aO o u)->b≠d:=λb o u e z=>by rw[z,KJ] at e;cases e
  have N1:DD (upd H2 d (.aO ob (Zv X.prog X.w d ae))) f "<lambda>" (X.env.qual ++ "<lambda>") params body scope gj:=by
   obtain⟨pm,fJ,c',oc,vs,tq,g1,g2,g3⟩:=LF;exact⟨pm,fJ,c',oc,vs,tq,by rw[Zc (LA _ _ _ g1)];exact g1,by rw[Zc (LA _ _ _ g2)];exact g2,g3⟩
  have Jm:(upd H2 d (.aO ob (Zv X.prog X.w d ae))) d=some (.aO ob (Zv X.prog X.w d ae)):=Za;have back:∀x H',((ae.map λx=>V.ref x.2.1)[eh bf ((ae.map λx=>V.ref x.2.1).length-1)]?= some x/\Zj (upd H2 d (.aO ob (Zv X.prog X.w d ae))) H')->H' d=some (.aO ob (Zv X.prog X.w d ae))/\Q x (upd H' d (Zv X.prog X.w d ae)):=by
   rintro x H' ⟨hx,sm⟩;refine⟨sm _ _ Jm,?_⟩;rw[aF,bM] at hx;obtain⟨⟨k0,b,v0⟩,gn,rfl⟩:=gB.mp hx;have GO:∀b o,b≠d->H2 b=some o->(upd H' d (Zv X.prog X.w d ae)) b=some o:=λb o hb e=>by
    rw[Zc hb];exact sm b o (by rw[Zc hb];exact e)
   refine q2 b k0 v0 _ gn (λb o hb e=>?_) (T2.keep (λVw e=>GO _ _ xK.symm e) λb o u e=>GO _ _ (LA _ _ _ e) e) Za;by_cases Ti:b=d
   .subst Ti;rw[hq] at e;rw[Za];exact e
   .exact GO _ _ Ti (sT _ _ hb e)
  have hK:DC X σ f (λx H Q2=>DD H f "<lambda>" (X.env.qual ++ "<lambda>") params body scope gj/\t (vd x σ aE) H Q2):=λ{qP x u H s Q2} I' r ⟨YR,h⟩=>by
   obtain⟨pm,fJ,c',oc,vs,tq,g1,g2,g3,g4⟩:=YR;exact ZmC (X:=bY X) (k:=kb) I' hc ((hr.mono (cz (qF _) hk)).in1) Z.sc.in1 g1 g2 g3 g4 (Z.bind pm c' fJ u) r (Z.body _ f (.ref c') s H (((hr.mono (cz (qF _) hk)).in1).deeper _)) h
  generalize upd H2 d (.aO ob (Zv X.prog X.w d ae))=H3 at I3 q1 N1 Jm back;generalize eoi:({ cls:=.type "dict_keyiterator",data:=.fields #[.ref d,.int 0 0,.int es.size 0,.int ep 0] }:Obj)=oi;have Kg:oi.isFreed=false:=by rw[<- eoi];rfl
  have hS:(s2.heap.push oi).objs.size=s2.heap.objs.size+1:=Mb ..;have I4:Inv (bY X) ac σ H3 { s2 with heap:=s2.heap.push oi,toks:=s2.toks }:=I3.in1.kept λb o e=>aH _ e;have I5:=I4.AZ (its:=[]) (t':=s2.toks) .nil (bG _);have fr:H3 (s2.heap.push oi).objs.size=none:=I4.fresh;have ne:s2.heap.objs.size≠(s2.heap.push oi).objs.size:=by rw[hS];exact bo (kG _)
  have hf:bO (bY X) ac (upd H3 (s2.heap.push oi).objs.size (.lst [])) s2.heap.objs.size:=I3.in1.lC (aD _) (by rw[Zc ne];exact I3.fresh);have st:((s2.heap.push oi).push { cls:=.type "list",data:=.seq ([]:List aa).toArray }).IsKeyIter s2.heap.objs.size d 0 es.size ep:=⟨_,aH _ (bS _ Kg),by rw[<- eoi],by rw[<- eoi];rfl⟩;obtain⟨KA,kb⟩:=q1 _ fr;have Y6:yQ X.K H3 (s2.heap.push oi).objs.size (ae.map λx=>V.ref x.2.1) bf KA (λx H Q2=>DD H f "<lambda>" (X.env.qual ++ "<lambda>") params body scope gj/\t (vd x σ aE) H Q2):=⟨kb.keep,kb.lt,λi x H hx sm hp=>⟨by
   obtain⟨pm,fJ,c',oc,vs,tq,g1,g2,g3⟩:=N1;exact⟨pm,fJ,c',oc,vs,tq,sm _ _ g1,sm _ _ g2,g3⟩,kb.ev i x H hx sm hp⟩⟩
  refine qJ (OZ (Q:=λx H'=>(ae.map λx=>V.ref x.2.1)[eh bf ((ae.map λx=>V.ref x.2.1).length-1)]?= some x/\Zj H3 H') hu hK (Zkj hc hx cT Ed) I.ok fr (λH' sm=>sm _ _ Jm) Y6 (λz=>aY (List.map_eq_nil_iff.mp z)) (λx H' hx sm=>⟨hx,sm⟩) I5 st hf) λr s' GD=>?_;cases r with
  | error e=>exact GD
  | ok o =>
   cases o with
   | ret v =>
    obtain⟨x,H',I',rx,qq⟩:=GD;obtain⟨e1,e2⟩:=back x H' qq;exact⟨x,_,I'.Vt e1 nf,rx,e2⟩
   | _=>exact GD
end
end L2
namespace L2
open PySem PySem.Spec PyProof.Rows PySem.W
section
variable{X:Cx}{o i e value:Expr}{pos pos' L6:Pos}{td ty tv:TE}{P:aq}{w:ap}
theorem Hk(hP:X.prog=P)(hw:X.w=w)(hu:X.A.units+30<cLine)(ho:PE X o td)(hi:PE X i ty)(hs:Jc i):PE X (.Subscript o i pos) (RS P w td ty):=by
 subst hP hw;exact mf hu ho hi hs
theorem ZgK(hP:X.prog=P)(hw:X.w=w)(hu:X.A.units+30<cLine)(hi:PE X i ty)(ho:PE X o td):PC X .NotIn i o (Ra P w ty td):=by
 subst hP hw;exact Hf hu hi ho
def Rx(X:Cx)(t:TS):TS:=λD σ H=>t { D with nx:=λav H'=>∃d ob ae,H' d=some (.aO ob (Zv X.prog X.w d ae))/\(∀o u,X.jN d≠some (.aO o u))/\D.nx av (upd H' d (Zv X.prog X.w d ae)) } σ H
theorem za{st:Stmt}{t:TS}(h:PS X st t):PS X st (Rx X t):=by
 intro ac s σ H D I hq;refine aw (h ac s σ H _ I hq) λf s1 z=>?_;cases f with
 | next =>
  obtain⟨av,H',I',d,ob,ae,e,nf,q⟩:=z;exact⟨av,_,I'.Vt e nf,q⟩
 | brk=>exact z
 | cont=>exact z
 | ret u=>exact z
theorem nJ{A:aC}{k:Nat}(hr:bK k A):A.units+30<cLine:=by
 have:=hr.un;lia
theorem Pn{A:aC}{k:Nat}(hr:bK k A):A.units+40<cLine:=by
 have:=hr.un;lia
end
def Sp.or(a b:Sp):Sp:=λvs H Q E=>a vs H Q E\/b vs H Q E
theorem br.or{P:aq}{w:ap}{K:ay}{mg:Str->Option aa}{base:Heap}{C:kY}{k:Nat}{f:Addr}{fd:dy}{ps:List Str}{a b:Sp}(h1:br P w K mg base C k f fd ps a)(h2:br P w K mg base C k f fd ps b):br P w K mg base C k f fd ps (Sp.or a b) :=
 ⟨λvs H Q E h=>h.elim (h1.len vs H Q E) (h2.len vs H Q E),λA outer s H args us vs Q E hr he hb hv hs=>hs.elim (h1.run A outer s H args us vs Q E hr he hb hv) (h2.run A outer s H args us vs Q E hr he hb hv)⟩
variable{P:aq}{w:ap}{K:ay}{mg:Str->Option aa}{base:Heap}
theorem ci.ZAW{x qual:Str}{st:Stmt}{f c:Addr}{fd:dy}{N ps:List Str}{k:Nat}{sp:Sp}(F:ci K x qual st f fd)(fU:fd.code=.ref c)(S:cZ N ps (Zm st))(len:∀vs H Q E,sp vs H Q E->vs.length=ps.length)
  (pX:∀(A:aC)(outer:List Env)(s:ag)(H:Hp)(vs:List V)(Q:VK)(E:XK),bK k (A.deeper (envOfC qual (Zm st) s.heap.objs.size f (.ref c)))->sp vs H Q E ->
   ∃t,c8 (nW (lV P w) P w K mg base N qual (Zm st) f (.ref c) A outer s H E) (Zf st) t/\t { nx:=λ_ H'=>Q .aB H',rt:=Q } (start N vs) H):br P w K mg base (lV P w) (k+1) f fd ps sp:=by
 obtain⟨oc,od,kV,doc,pm,an,bg,ct,oy,rfl,lk,hc⟩:=F.ex;have e:bg=.ref c:=fU;subst e;exact IT lk hc S len λA outer s H vs Q E hr jD=>pX A outer s H vs Q E hr jD
variable{d p:Addr}{ob:Obj}{ae:List (ZQ×Addr×V)}{te:TE}{R:Hp->Prop}{gz:St}{H0:Hp}
theorem Zif{g:TG}(Pv:Nat->List V->St->Hp->Prop)(h0:Pv 0 [] gz H0)
  (hl:∀i ys σ H,i<=ae.length->Pv i ys σ H->H d=some (.aO ob (Zv P w d ae))/\H p=some (.lst ys))
  (hs:∀i ys k b v σ H,i<ae.length->ae[i]?= some (k,b,v)->Pv i ys σ H->g (.ref b) σ H λaS H4=>te aS H4 λv H5=>H5 p=some (.lst ys)/\ys.length<sizeLine/\∃m',m'<ae.length-i/\CW ae.length Pv (i+1) m' (ys ++ [v]) aS (upd H5 p (.lst (ys ++ [v]))))
  (hd:∀ys σ H,Pv ae.length ys σ H->R H) :
  ∃W:Nat->Nat->List V->St->Hp->Prop,(∃m,W 0 m [] gz H0)/\∀i m ys dc H2,W i m ys dc H2->H2 p=some (.lst ys)/\(((rD P w d ob ae).stop i H2/\R H2)\/((rD P w d ob ae).go i H2/\∀x H3,(rD P w d ob ae).ii i H2 x H3->g x dc H3 λaS H4=>te aS H4 λv H5 =>
   H5 p=some (.lst ys)/\ys.length<sizeLine/\∃m',m'<m/\W (i+1) m' (ys ++ [v]) aS (upd H5 p (.lst (ys ++ [v]))))):=by
 refine⟨CW ae.length Pv,⟨_,rfl,bG _,h0⟩,?_⟩;rintro i m ys σ H ⟨rfl,hi,hp⟩;obtain⟨h1,h2⟩:=hl i ys σ H hi hp;refine⟨h2,?_⟩;by_cases aA:i<ae.length
 .refine .inr ⟨⟨h1,aA⟩,?_⟩;rintro x H3 ⟨rfl,k,b,v,hx,rfl⟩;exact hs i ys k b v σ _ aA hx hp
 .refine .inl ⟨⟨h1,by lia⟩,hd ys σ H ?_⟩;have e:i=ae.length:=by lia
  rw[<- e];exact hp
theorem OE{g:TG}{tt:TT}(Pv:Nat->List V->St->Hp->Prop)(h0:Pv 0 [] gz H0)
  (hl:∀i ys σ H,i<=ae.length->Pv i ys σ H->H d=some (.aO ob (Zv P w d ae))/\H p=some (.lst ys))
  (hs:∀i ys k b v σ H,i<ae.length->ae[i]?= some (k,b,v)->Pv i ys σ H->g (.ref b) σ H λaS H4=>tt aS H4 λb g_=>if b=true then te aS g_ λv H5=>H5 p=some (.lst ys)/\ys.length<sizeLine/\∃m',m'<ae.length-i/\CW ae.length Pv (i+1) m' (ys ++ [v]) aS (upd H5 p (.lst (ys ++ [v])))
   else ∃m',m'<ae.length-i/\CW ae.length Pv (i+1) m' ys aS g_)
  (hd:∀ys σ H,Pv ae.length ys σ H->R H) :
  ∃W:Nat->Nat->List V->St->Hp->Prop,(∃m,W 0 m [] gz H0)/\∀i m ys dc H2,W i m ys dc H2->H2 p=some (.lst ys)/\(((rD P w d ob ae).stop i H2/\R H2)\/((rD P w d ob ae).go i H2/\∀x H3,(rD P w d ob ae).ii i H2 x H3->g x dc H3 λaS H4=>tt aS H4 λb g_=>if b=true then te aS g_ λv H5 =>
   H5 p=some (.lst ys)/\ys.length<sizeLine/\∃m',m'<m/\W (i+1) m' (ys ++ [v]) aS (upd H5 p (.lst (ys ++ [v]))) else ∃m',m'<m/\W (i+1) m' ys aS g_)):=by
 refine⟨CW ae.length Pv,⟨_,rfl,bG _,h0⟩,?_⟩;rintro i m ys σ H ⟨rfl,hi,hp⟩;obtain⟨h1,h2⟩:=hl i ys σ H hi hp;refine⟨h2,?_⟩;by_cases aA:i<ae.length
 .refine .inr ⟨⟨h1,aA⟩,?_⟩;rintro x H3 ⟨rfl,k,b,v,hx,rfl⟩;exact hs i ys k b v σ _ aA hx hp
 .have e:i=ae.length:=by lia
  subst e;exact .inl ⟨⟨h1,aD _⟩,hd ys σ H hp⟩
end L2
namespace L2
open PySem PySem.Spec PyProof.Rows PySem.W PySem.SeqAt
section
variable{prog:aq}{w:ap}{K:Type}[DecidableEq K]{knd:ya prog w K}{A:aC}{E:aa->ag->Prop}{s:ag}
theorem Zo1{nm:String}{a b:Addr}{xa xb:List (K×Addr×aa)}{Q:Bool->ag->Prop}(hu:knd.room A)(ha:(a == sysModules)=false)(hb:(b == sysModules)=false)(da:s.heap.DictOfH knd a xa)(db:s.heap.DictOfH knd b xb)
  (hl:xa.length=xb.length) (hits:∀x∈xa,∀(j:Nat)(p:Addr×aa),xb[j]?= some (x.1,p)->EqAt A s x.2.2 p.2 true) (has:∀x∈xa,∃(j:Nat)(p:Addr×aa),xb[j]?= some (x.1,p)) (h:Q true s) :
  wpAny (model prog w) A (Mg nm a b) Q E s:=by
 obtain⟨oa,es,ep,xw,_,j9,Ts,Km,xt⟩:=da;obtain⟨ob,bJ,gD,gq,_,dG,Kc,Kn,qf⟩:=db;have TQ:es.size=xa.length:=Nz Ts;have TR:bJ.size=xb.length:=Nz Kc;unfold Mg Mh;rw[ai (show ¬ (a == sysModules)=true by rw[ha];exact cL),ai (show ¬ (b == sysModules)=true by rw[hb];exact cL)];refine af (ah (af (ah ?_)));refine af (o_ xw j9 ?_);dsimp only;refine af (o_ gq dG ?_);have hsz:es.size=bJ.size:=by lia
 rw[ai (by rw[hsz];simp)];refine af (BZ xw j9 ?_);refine af ?_;rw[ZBV];simp only[ZDf,Nat.sub_zero,Nat.add_sub_cancel,Nat.div_one];refine yB _ (λrest q s'=>s'=s/\q=(none,())/\∃i,rest=VE i (es.size-i)/\i<=es.size) _ ?_ ?_ _ _ ⟨rfl,rfl,0,by simp,bG _⟩
 .rintro x rest q s' ⟨rfl,rfl,i,hr,hi⟩;have aA:i<es.size:=by
   rcases kF i es.size with h|h
   .exact h
   .rw[Nat.sub_eq_zero_of_le h] at hr;simp at hr
  obtain⟨rfl,uW⟩:x=i/\rest=VE (i+1) (es.size-(i+1)):=by
   have e:es.size-i=(es.size-(i+1))+1:=by lia
   rw[e,List.range'_succ] at hr;injection hr with h1 h2;exact⟨h1,h2⟩
  refine af (o_ xw j9 ?_);have xB:x<xa.length:=by lia
  have ent:=entry_at Ts x;rw[cG xB] at ent;have ent:es[x]?= some (entryOfKey knd xa[x]):=ent;rw[ent];have dY:xa[x]∈xa:=yi xB;obtain⟨j,p,hj⟩:=has _ dY;show wpAny _ _ (holding [ar xa[x].2.1,xa[x].2.2] _ >>= _) _ _ _;refine af (cP (af (Yp hu (Km _ dY) gq dG Kc Kn qf (λhn=>absurd hj (hn j p)) (λj' p' fE=>?_))));have DJ:=entry_at Kc j';rw[fE] at DJ;have DJ:bJ[j']?= some (entryOfKey knd (xa[x].1,p')):=DJ;refine af (o_ gq dG ?_);rw[DJ];refine cP (hits _ dY j' p' fE prog w _ _ ?_);show wpAny _ _ (if(!true)=true then _ else _) _ _ _
  rw[ai (by decide)];refine af (BZ xw j9 ?_);rw[ai (by simp)];exact ah ⟨rfl,rfl,x+1,uW,aA⟩
 .rintro q s' ⟨rfl,rfl,_⟩;exact ah h
end
variable{X:Cx}{ac:List (Addr×Obj)}{σ:St}{H:Hp}{s:ag}
theorem Zlt{A:aC}{c d:Addr}{ws:List Str}(I:Inv X ac σ H s)(hu:A.units<cLine)(hc:H c=some (.lst (ws.map V.str)))(hd:H d=some (.lst (ws.map V.str))):EqAt A s (.ref c) (.ref d) true:=by
 by_cases e:c=d
 .subst e;exact EqAt.same _
 .refine EqAt.of_refs e ?_;obtain⟨its,r1,p1,z1⟩:=I.list (au.of (K:=X.K) hc);obtain⟨ou,r2,p2,z2⟩:=I.list (au.of (K:=X.K) hd);have l1:=r1.length;have l2:=r2.length;have key:∀(ws:List Str)(us Bj:List aa),Vals (ws.map V.str) us->Vals (ws.map V.str) Bj->∀j (h1:j<us.length) (h2:j<Bj.length),∃k t t2,us[j]=ef k t/\Bj[j]=ef k t2:=by
   intro ws
   induction ws with
   | nil =>
    intro us Bj q1 q2 j h1 h2;cases q1;exact nomatch h1
   | cons x ws ih =>
    intro us Bj q1 q2 j h1 h2;cases q1 with
    | @cons _ u1 _ xW a1 a2 =>
     cases q2 with
     | @cons _ u2 _ ZDo b1 b2 =>
      cases j with
      | zero =>
       obtain⟨t1,rfl⟩:=(show ∃t,u1=ef x t from a1);obtain⟨t2,rfl⟩:=(show ∃t,u2=ef x t from b1);exact⟨x,t1,t2,rfl,rfl⟩
      | succ j=>exact ih _ _ a2 b2 j (by simpa using h1) (by simpa using h2)
  have e3:((fL its.toArray.size).all λ_=>true)=true:=by simp
  rw[<- e3];refine RcAt.lists p1.isList p2.isList (by simp;lia) hu λj h1 h2=>?_;obtain⟨k,t,t2,e1,e2⟩:=key ws its ou r1 r2 j (by simpa using h1) (by simpa using h2);have ip:its.toArray[j]=ef k t:=by simpa using e1
  have cY:ou.toArray[j]=ef k t2:=by simpa using e2
  rw[ip,cY];have:=EqAt.str_str (A:=A.in1) (s:=s) k t k t2
  rwa [beq_self_eq_true] at this
def Ri(P:aq)(w:ap)(H:Hp)(a b:Addr):Prop := ∃ka kb,dP P w H a ka/\dP P w H b kb/\ka.length=kb.length/\∀x∈ka,∃(c c':Addr)(ws:List Str),x.2.2=.ref c/\valN kb x.1=some (.ref c')/\H c=some (.lst (ws.map V.str))/\H c'=some (.lst (ws.map V.str))
theorem NR.mem{ae:List (ZQ×Addr×V)}{xs:List (ZQ×Addr×aa)}(r:NR ae xs):∀x∈xs,∃y∈ae,y.1=x.1/\RelV y.2.2 x.2.2:=by
 induction r with
 | nil=>intro x hx;exact nomatch hx
 | @cons p q ps qs h t ih =>
  intro x hx;rcases a8.mp hx with rfl|hx
  .exact⟨p,bw ..,h.1,h.2.2⟩
  .obtain⟨y,hy,z⟩:=ih x hx;exact⟨y,bp _ hy,z⟩
variable{a b:Addr}
theorem ZmE{A:aC}{E:aa->ag->Prop}{Q:Bool->ag->Prop}{nm:String}(hu:A.units+30<cLine)(I:Inv X ac σ H s)(g:Ri X.prog X.w H a b)(h:Q true s) :
  wpAny (model X.prog X.w) A.in1 (Mg nm a b) Q E s:=by
 obtain⟨ka,kb,ga,gb,hl,hc⟩:=g;obtain⟨z1,mE,xa,Vg,da⟩:=lx I.aj ga;obtain⟨z2,hd2,xb,Vh,db⟩:=lx I.aj gb;have l1:=dz Vg;have l2:=dz Vh;have nd:(xb.map (·.1)).Nodup:=by
  obtain⟨_,_,_,_,_,_,_,_,h6⟩:=id db;exact h6
 have has:∀x∈xa,∃(j:Nat)(p:Addr×aa),xb[j]?= some (x.1,p)/\EqAt A.in1 s x.2.2 p.2 true:=λx hx=>by
  obtain⟨y,hy,e1,e2⟩:=Vg.mem x hx;obtain⟨c,c',ws,h1,h2,h3,h4⟩:=hc y hy;obtain⟨w',hw,lU⟩:=gh.some_of (v:=.ref c') (o:=(atKey xb y.1).map (·.2)) (by rw[<- h2];exact Vh.val y.1);obtain⟨p,hp,gP⟩:=gB.mp hw;unfold atKey at hp;obtain⟨z,hz,La⟩:=gB.mp hp;have hm:=WN hz;have hk:z.1=y.1:=bC (MB (p:=λx:ZQ×Addr×aa=>decide (x.1=y.1)) hz);obtain⟨j,hj⟩:=fc.mp hm;refine⟨j,p,?_,?_⟩
  .rw[hj,<- e1,<- hk,<- La]
  .rw[h1] at e2;obtain rfl:w'=ar c':=lU;rw[gP,show x.2.2=ar c from e2];exact Zlt I (by show A.units+1<cLine;lia) h3 h4
 refine Zo1 (ri hu) mE hd2 da db (by lia) (λx hx j p hj=>?_) (λx hx=>?_) h
 .obtain⟨j',p',fE,he⟩:=has x hx;have:j=j':=by
   have n1:(xb.map (·.1))[j]?= some x.1:=by rw[bM,hj];rfl
   have n2:(xb.map (·.1))[j']?= some x.1:=by rw[bM,fE];rfl
   obtain⟨k1,Cf⟩:=de.mp n1;obtain⟨k2,pB⟩:=de.mp n2;have pw:=mY.mp nd;rcases yn j j' with z|z|z
   .exact absurd (Cf.trans pB.symm) (pw j j' k1 k2 z)
   .exact z
   .exact absurd (pB.trans Cf.symm) (pw j' j k2 k1 z)
  subst this;rw[hj] at fE;injection fE with fE;injection fE with _ fE;rw[fE];exact he
 .obtain⟨j,p,hj,_⟩:=has x hx;exact⟨j,p,hj⟩
def Znz(P:aq)(w:ap)(neg:Bool):R2:=λx y H Q=>∃a b,x=.ref a/\y=.ref b/\Ri P w H a b/\Q (.bl (!neg)) H
theorem Zm0(hu:X.A.units+30<cLine):c7 X (compareOp .Eq) (Znz X.prog X.w false):=by
 intro ac s σ H x y v u Q I rx ry h;obtain⟨a,b,rfl,rfl,g,q⟩:=h;cases rx;cases ry;obtain⟨ka,kb,ga,gb,_⟩:=id g;refine YJ (op:=.Eq) (wx I ga) (wx I gb) Xk (nq Xk (wx I ga) PySem.F.entry_dict_eq ?_ (PySem.F.args_dict_eq_2 _ _)) (by lia);show wpAny _ _ (VW "__eq__" ⟨[.ref a,.ref b],[]⟩ >>= _) _ _ s;refine af ?_;unfold VW;refine af (B4 (wx I ga) ?_);show wpAny _ _ (pure (ar a,ar b)) _ _ s;refine ah ?_;refine af (pd (T := "dict") (wx I gb) PySem.F.sub_dict_dict ?_);simp only[jg,dv,cX];refine af (ah (af (ah ?_)));refine af (ZmE hu I g ?_);refine ah ⟨_,rfl,?_,?_⟩
 .exact λx=>nomatch x
 .exact⟨.bl true,H,I,rfl,q⟩
end L2
namespace L2
open PySem PySem.Spec PyProof.Rows PySem.W
def Zn1(P:aq)(w:ap)(td ty:TE):TE:=λσ H Q=>td σ H λx H1=>∃a,x=.ref a/\(∃ae,dP P w H1 a ae)/\ty σ H1 λy H2=>∃b ae k,y=.ref b/\dP P w H2 a ae/\aQ H2 b k/\Q ((valN ae k).getD .aB) H2
section
variable{X:Cx}{o e:Expr}{apos bP:Pos}{td ty:TE}
theorem Zlc(hu:X.A.units+30<cLine)(ho:PE X o td)(he:PE X e ty)(m:M1 X o "get" apos e bP):PE X (.Call (.Attribute o "get" apos) [e] [] bP) (Zn1 X.prog X.w td ty):=by
 intro ac s σ H Q I h;refine BX m.base m.eY m.line BK vI M3 (aw (ho ac s σ H _ I h) ?_);rintro u s1 ⟨x,H1,I1,rx,a,ex,⟨UI,d⟩,q1⟩;subst ex;obtain rfl:u=ar a:=rx;obtain⟨t1,t2,_⟩:=ID I1 d;refine⟨t1,t2,?_⟩;rw[m.xT];refine vt rfl (x_ (oJ (aw (he ac s1 σ H1 _ I1 q1) ?_)));rintro iv s2 ⟨y,H2,I2,ry,b,ae,k,ey,g,gb,q3⟩;refine sH ?_;subst ey;obtain rfl:iv=ar b:=ry;obtain⟨zl,hd,xs,rel,dd⟩:=lx I2.aj g;refine vN vI dd.typeIs FZ (PySem.F.args_dict_get_2 _ _) (meetsH_dict_get (gy X.prog X.w) a b hd) ⟨ri hu,k,xs,nV I2.aj gb,dd,?_⟩;exact⟨(valN ae k).getD .aB,H2,I2.tok _,(rel.val k).getD (show RelV .aB bq from rfl),q3⟩
end
section
variable{P:aq}{w:ap}{K:Frag}{mg:Str->Option aa}{base h:Heap}{x m q:Str}{st:Stmt}{f C:Addr}{d:dy}{ps:List Str}{k:Nat}{sp:Sp}
def gE(K:Frag)(mg:Str->Option aa)(x:Str)(st:Stmt)(f:Addr)(d:dy):Prop:=mg x=some (.ref f)/\ci K x x st f d
def wc(K:Frag)(C:Addr)(m q:Str)(st:Stmt)(f:Addr)(d:dy):Prop:=Meth K C m f/\ci K m q st f d
def GQ(K:Frag)(mg:Str->Option aa)(x:Str)(C:Addr):Prop:=mg x=some (.ref C)/\makesIn K C=true/\keepIn K (.ref C)=true
def Z_(K:Frag)(d:dy)(c p:Addr):Prop:=d.code=.ref c/\(∃lo ld lv ls,K.lookup c=some ⟨lo,ld,.fields lv,ls⟩/\lv[11]?= some (.ref p))/\codeHdIn K c p=true/\K.lookup p=none
theorem Rf(X:K.In h)(G:h.Ns mainGlobals mg){l:List Str}(Z:∀x∈l,nsIn K mainGlobals x=some none):∀x∈l,mg x=none:=λ_ hx=>mg_none_of X G (Z _ hx)
theorem ci.bn(F:ci K x q st f d)(b:∀(kV doc pm:aa) (an:Option Addr) (bg ct:aa) (us:List aa),us.length=ps.length->bindArgs (fnOf x q (zw st) (Zf st) (Zm st) .none kV doc pm an bg ct) ⟨us,[]⟩=pure (ps.zip us):=by
  intro _ _ _ _ _ _ us hl
  first
   | (obtain⟨_,_,rfl⟩:=R_ hl;rfl)
   | (obtain⟨_,rfl⟩:=R8 hl;rfl)
   | (obtain⟨_,_,_,rfl⟩:=Sd hl;rfl)
   | (obtain⟨_,_,_,_,rfl⟩:=Zpu hl;rfl)
   | (obtain⟨_,_,_,_,_,rfl⟩:=ZEu hl;rfl)
   | (obtain⟨_,_,_,_,_,_,rfl⟩:=ZEv hl;rfl)):Binds K d ps []:=F.binds b
theorem e_{N P:List Str}{sc:cH}(kind:sc.kind=.function:=by rfl)(co:sc.isCoroutine=false:=by rfl)(gen:sc.isGenerator=false:=by rfl)(nd:N.Nodup:=by decide +kernel)(pre:N.take P.length=P:=by rfl)(sr:∀x∈P,sc.names.lookup x=some .local\/sc.names.lookup x=some .cell:=by decide +kernel)(ue:∀y∈sc.names,y.2 ≠ .free:=by decide +kernel):cZ N P sc:=⟨kind,co,gen,nd,pre,sr,ue⟩
variable(P w base)
theorem jT(F:gE K mg x st f d)(ok:br P w K mg base cA k f d ps sp)(b:Binds K d ps []):fO P w K mg base x ps k sp:=⟨⟨f,d,ok,b,F.2.kp,F.1⟩⟩
theorem lI{xs:List V}{g:TG}{tb:TS}{D:Ends}{Pv:Nat->St->Hp->Prop}(h:∀i x σ H,xs[i]?= some x->Pv i σ H->∀D':Ends,(∀ σ H,Pv (i+1) σ H->D'.nx σ H)->g x σ H λeu H2=>tb D' eu H2):∀i x σ H,xs[i]?= some x->Pv i σ H->g x σ H λeu H2=>tb { D with nx:=Pv (i+1),ct:=Pv (i+1),bk:=D.nx } eu H2:=λi x σ H hx p=>h i x σ H hx p _ λ_ _ z=>z
end
end L2
namespace dQ
open PySem L2 nB Fg
def top(i:Nat):Stmt:=ZCs.main.body.getD i (.Pass ⟨0,0,0,0⟩)
abbrev HA:Stmt:=top 8
abbrev Hd:Stmt:=top 9
abbrev G_:Stmt:=top 11
abbrev zu:Stmt:=top 16
abbrev rc:Stmt:=top 17
abbrev Zy:Stmt:=inClass (top 18) 0
abbrev Zn:Stmt:=inClass (top 18) 1
abbrev ZS:Stmt:=inClass (top 18) 2
abbrev Cs:Stmt:=top 20
abbrev Cv:Stmt:=inClass (top 23) 0
abbrev G9:Stmt:=inClass (top 23) 1
abbrev Ct:Stmt:=inClass (top 23) 2
abbrev HH:Stmt:=top 26
abbrev Ie:Stmt:=top 27
abbrev Ho:Stmt:=top 28
abbrev HM:Stmt:=top 29
abbrev Hr:Stmt:=top 30
abbrev ZL:Stmt:=top 31
abbrev Hy:Stmt:=top 32
abbrev Z3:Stmt:=top 33
abbrev Z0:Stmt:=top 34
abbrev lh:Stmt:=top 35
abbrev pI:Stmt:=top 36
theorem ZjA:cZ ["text"] ["text"] (Zm HA):=e_
theorem wg:cZ ["words","tags","rows","place","word","within"] ["words"] (Zm Hd):=e_
theorem ZcU:cZ ["words"] ["words"] (Zm G_):=e_
theorem P7:cZ ["form","measure","words"] ["form","measure"] (Zm zu):=e_
theorem Qq:cZ ["form","measure","growth"] ["form","measure"] (Zm rc):=e_
theorem Og:cZ ["self","form","measure","nothing"] ["self","form","measure"] (Zm Zy):=e_
theorem Cu:cZ ["self","pair","rule","behind","within"] ["self","pair"] (Zm Zn):=e_
theorem Hb:cZ ["self","rule","within","behind","pair","words"] ["self","rule","within","behind"] (Zm ZS):=e_
theorem wm:cZ ["rules","within","others","found","kind","tag","inner","rest"] ["rules","within","others"] (Zm Cs):=e_
theorem Oh:cZ ["self","form","rule"] ["self","form"] (Zm Cv):=e_
theorem ZcY:cZ ["self"] ["self"] (Zm G9):=e_
theorem Hc:cZ ["self","tag","inner","rest","within","others"] ["self","tag","inner","rest"] (Zm Ct):=e_
theorem ZiB:cZ ["_law_script","_law_k"] ["_law_script","_law_k"] (Zm HH):=e_
theorem lg:cZ ["_law_seed","_law_v","_law_letters","_law_many","_law_at","_law_more","_law_word","_law_j","_law_sign"] ["_law_seed","_law_v"] (Zm Ie):=e_
theorem nH:cZ ["_law_script","_law_side","_law_cell_here","_law_many","_law_turn","_law_tails","_law_heads","_law_rules","_law_k","_law_drawn","_law_word"] ["_law_script","_law_side"] (Zm Ho):=e_
theorem wu:cZ ["_law_found","_law_words","_law_pile","_law_row","_law_at","_law_tree"] ["_law_found"] (Zm HM):=e_
theorem OT:cZ ["_law_other","_law_word","_law_inner","_law_rest","_law_some"] ["_law_other","_law_word","_law_inner","_law_rest"] (Zm Hr):=e_
theorem ZP:cZ ["_law_one","_law_other","_law_sizes_here","_law_kind","_law_more","_law_word","_law_inner","_law_rest","_law_ahead","_law_behind","_law_a","_law_b","_law_pair","_law_many"] ["_law_one","_law_other"] (Zm ZL):=e_
theorem ZhV:cZ ["_law_found"] ["_law_found"] (Zm Hy):=e_
theorem tW:cZ ["_law_rows","_law_lists_here","_law_before_it","_law_row","_law_words","_law_pair"] ["_law_rows"] (Zm Z3):=e_
theorem Z5:cZ ["_law_one","_law_other","_law_lists_here","_law_reached","_law_kind","_law_pair","_law_word","_law_inner","_law_rest","_law_ahead","_law_behind","_law_a","_law_b","_law_words","_law_best"] ["_law_one","_law_other","_law_lists_here"] (Zm Z0):=e_
theorem qX:cZ ["_law_one","_law_other","_law_measure","_law_rows","_law_caught","e","_law_sizes_here","_law_lists_here"] ["_law_one","_law_other","_law_measure"] (Zm lh):=e_
theorem zB:cZ ["_law_script","_law_one","_law_other","_law_kinds","_law_some"] ["_law_script"] (Zm pI):=e_
structure XC(K:ay)(mg:Str->Option aa)(iS lc cI:Addr):Prop where
 ZAC:mg "GroveError" = some (.ref iS)
 ZAD:mg "TooMany" = some (.ref lc)
 UU:mg "TooBig" = some (.ref cI)
 bas:ZpT K iS
 isG:M9 K iS=true
 tyG:Xz K (.ref iS)=some (.type "type")
 Zv4:tR K iS
 Zv9:tR K lc
 ZDy:tR K cI
 ZBz:tU K cI iS
 Zz3:m_ K (.ref cI) "__init__" = some (some (.builtin "ValueError.__init__"))
 Zw9:tS K cI "place"
 ZEw:sY K cI (.type "ValueError")=some true
 ZEA:cI≠iS
 ZAP:tT K cI lc
 ZAL:cI≠lc
 ZAn:sY K cI (.ref iS)=some true
 ZAo:sY K cI (.ref lc)=some false
 ZEx:sY K cI (.ref cI)=some true
abbrev ZJ:List (Pos×Str):=[(⟨48,46,48,94⟩,"grown.<locals>.<lambda>")]
abbrev eG:List Str:=["all","any","bool","dict","enumerate","int","isinstance","len","list","min","range","set","sorted","str","tuple"]
section
variable{P:aq}{w:ap}{K:ay}{mg:Str->Option aa}{base:Heap}{f:Addr}{fd:dy}{iS lc cI:Addr}
theorem Zkk(B:∀x∈eG,mg x=none)(Cc:∃t:Tok,mg "LONGEST_TAG" = some (.int 8 t)) (F:ci K "is_tag" "is_tag" HA f fd):br P w K mg base cA 1 f fd ["text"] QS:=by
 refine F.ok ZjA (λvs H Q E h=>?_) (λbg A outer s H vs Q E hr h=>?_)
 .obtain⟨z,rfl,_⟩:=h;rfl
 obtain⟨z,rfl,hz,q⟩:=h;obtain⟨t8,Zv5⟩:=Cc;unfold zQ at q;refine⟨_,(Zh (Z1 (Dv (ZkW RT RT Zg (Zu Zfy rfl (B "len" (by decide)) gC (Zb (pv 0) Ze)) (rh (v:=.int 8) rfl Zv5 ⟨_,rfl⟩)) (Dq (Zu (Zlj rfl) rfl (B "all" (by decide)) Zn9 (Zb (Zh9 (pv 0) rfl (by decide) (by decide) rfl (by decide) rfl (by decide) (λ_=>rfl)) Ze)))))),?_⟩;refine⟨_,rfl,z,rfl,Iw (by lia),_,_,rfl,rfl,_,rfl,?_⟩;refine cJ (λc=>?_) (λc=>?_)
 .have c1:1<=z.length:=by
   have:=bC c;lia
  rw[aJ c1,Fh] at q;refine⟨_,_,rfl,rfl,_,rfl,?_⟩;refine cJ (λc=>?_) (λc=>?_)
  .have c2:z.length<=8:=by
    have:=bC c;lia
   rw[aJ c2,Fh] at q;refine⟨_,rfl,z,rfl,Iw (by lia),λp hp=>⟨p,z.cps.toList.map jA,rfl,au.of ?_,?_⟩⟩
   .rw[Za,ij];rfl
   .have e:(z.cps.toList.map jA).all id=z.cps.toList.all jA:=by
     rw[List.all_map];rfl
    rw[e];exact q _ (Zj.new hp)
  .have c2 : ¬ z.length<=8:=λh=>c (aJ (by show((z.length:Nat):Int)<=8;lia));rw[bt c2,Bm] at q;exact q H (Zj.refl H)
 .have c1 : ¬ 1<=z.length:=λh=>c (aJ (by show(1:Int)<=((z.length:Nat):Int);lia));rw[bt c1,Bm,Bm] at q;exact⟨_,rfl,dj (q H (Zj.refl H))⟩
def Sa(ws:List Str):Prop := ∀w∈ws,w=SL\/(mw w/\w.length<=8)
theorem Zjb{z:Str}(h:mw z)(h8:z.length<=8):zQ z=true:=by
 have h1:1<=z.length:=by
  have:0<z.cps.toList.length:=MG.mpr h.1;rw[aW] at this;exact this
 unfold zQ;rw[aJ h1,aJ h8,Fh,Fh,Bv];intro c hc;have:=h.2 c hc;unfold jA;simp;lia
theorem ZmX:zQ SL=false:=by decide
def Pw(K:ay):Sp:=λvs H Q _=>∃(a:Addr)(ws:List Str),vs=[.ref a]/\au K H a (ws.map V.str)/\ws.length<=1000/\hX SL 0 ws/\Sa ws /\
 ∀(r:Addr)(xs:List V)(g:Gr Str)(H':Hp),Zj H H'->H r=none->H' r=some (.tup xs)->fj H' xs g->words SL g=ws->uo SL g->Q (.ref r) H'
theorem Zgk(B:∀x∈eG,mg x=none)(JE:fO P w K mg base "is_tag" ["text"] 1 QS) (F:ci K "grove_of" "grove_of" Hd f fd):br P w K mg base cA 2 f fd ["words"] (Pw K):=by
 refine F.ok wg (λvs H Q E h=>?_) (λbg A outer s H vs Q E hr h=>?_)
 .obtain⟨a,ws,rfl,_⟩:=h;rfl
 obtain⟨a,ws,rfl,hS,hlen,Zyo,hlw,q⟩:=h;refine⟨_,(Zd (Zx (i:=1) wg.nd rfl (Or.inl rfl) (eU Ze))
  (Zd (Zx (i:=2) wg.nd rfl (Or.inl rfl) (eU (Zb (eU Ze) Ze)))
  (Zd (gG fX rfl (ZmL rfl (B "enumerate" (by decide)) (Zb (pv 0) Ze)) (wC rfl (Z6 (Zt (i:=3) wg.nd rfl (Or.inl rfl)) (Z6 (Zt (i:=4) wg.nd rfl (Or.inl rfl)) wB)))
   (Zh (cR (iT (eS JE hr rfl (Zb (pv 4) Ze)) (λ_=>rfl))
     (Zd (ix (mr jl mZ m9 jS (pv 1) (Zb (pv 4) Ze)))
      (Zh (ix (mr jl mZ m9 jS (pv 2) (Zb (eU Ze) Ze)))))
     (Zh (cR (PW.pt (wI (ZC iy (pv 4) uh (ZM _)) (zk (iT (pv 1) (λ_=>rfl)))))
       (Zd (Zx (i:=5) wg.nd rfl (Or.inl rfl) (lq tX rfl (B "tuple" (by decide)) mh (Zb (Dm jl M0 M4 IE (pv 2)) Ze)))
        (Zh (ix (mr jl mZ m9 jS (ZR Io (pv 2) (Zo7 Zn0 Zg) (λ_ _=>rfl)) (Zb (dU (Zb (Dm jl M0 M4 IE (pv 1)) (Zb (pv 5) Ze))) Ze)))))
       (Zh CN))))))
  (Zd (cR (iT (pv 1) (λ_=>rfl))
   (Zh CN)
   ZW)
  (Zh (Z1 (lq tX rfl (B "tuple" (by decide)) mh (Zb (ZR Io (pv 2) Zg (λ_ _=>rfl)) Ze)))))))),?_⟩
 refine⟨by decide,λT hT=>?_⟩;refine⟨by decide,λa0 h0=>⟨(by show 1<=sizeLine;decide),λR hR=>?_⟩⟩;obtain⟨UQ,NO⟩:=rl h0;obtain⟨US,hR1⟩:=rl hR;obtain⟨UT,GB⟩:=rl hR1;have s3:Zj H (upd (upd (upd H T (.lst [])) a0 (.lst [])) R (.lst [.ref a0])):=((Zj.new hT).du NO).du GB;refine⟨_,rfl,a,_,rfl,s3.seq hS,Zlw (K:=K) (a:=a) (xs:=ws.map V.str) (λi σ H1=>∃(as:List Addr)(gs:List (Gr Str))(ts:List Str)(v3 v4 v5:Option V),
  σ =[some (.ref a),some (.ref T),some (.ref R),v3,v4,v5]/\Zj H H1/\H1 T=some (.lst ((ts.map V.str).reverse))/\H1 R=some (.lst ((as.map V.ref).reverse))/\Dy H1 as gs/\(R::T::as).Nodup /\
  (∀b∈as,H b=none)/\gs.length=ts.length+1/\gI SL gs ts=ws.take i/\hX SL ts.length (ws.drop i)/\(∀g∈gs,uo SL g)/\∀t∈ts,t≠SL)
  ⟨[a0],[.nil],[],none,none,none,rfl,s3,?_,Za,?_,?_,?_,rfl,rfl,Zyo,?_,λ_ h=>nomatch h⟩ ?_ ?_ ?_⟩
 .rw[Zc UT.symm,Zc UQ.symm];exact Za
 .refine .cons ⟨[],?_,.nil⟩ .nil;rw[Zc US.symm];exact Za
 .simp[UT,US,UQ.symm]
 .intro b hb;obtain rfl:=aI.mp hb;exact NO
 .intro g hg;obtain rfl:=aI.mp hg
  trivial
 .rintro i σ H1 _ ⟨as,gs,ts,v3,v4,v5,_,sm,_⟩;exact sm.seq hS
 .rintro i x p σ H0 hi ⟨as,gs,ts,v3,v4,v5,rfl,Bd,hT0,hR0,Uk,nd,oj,p6,rO,hc,bZ,lJ⟩ hp;obtain⟨p_,hix⟩:=de.mp hi;rw[aF] at p_;obtain rfl:x=V.str ws[i]:=by
   rw[<- hix,List.getElem_map]
  have Zyw:ws.drop i=ws[i]::ws.drop (i+1):=Bw p_;have KW:ws.take (i+1)=ws.take i ++ [ws[i]]:=WU p_;have AR:=hlw ws[i] (yi p_);rw[Zyw] at hc;generalize ws[i]=wd at hc KW AR;have ZDK:as.length=gs.length:=dz Uk;obtain⟨EQ,ndT⟩:=gY.mp nd;obtain⟨GH,UW⟩:=gY.mp ndT;have Ag:∀b∈as,b≠R:=λb hb e=>EQ (by rw[<- e];exact bp _ hb);have D7:∀b∈as,b≠T:=λb hb e=>GH (by rw[<- e];exact hb);have w8:R≠T:=λe=>EQ (by rw[e];exact bw ..);have Zxr:wd.length<=100000:=by
   rcases AR with e|e
   .rw[e];decide
   .have:=e.2;lia
  refine⟨p,_,rfl,az.of Za,rfl,_,_,rfl,_,_,rfl,rfl,?_⟩;refine⟨_,rfl,wd,rfl,Zxr,λH1 s1=>⟨_,rfl,?_⟩⟩;have A_:=(Zj.new (o:=.tup [.int i,.str wd]) hp).trans s1;have sm:=Bd.trans A_;have ic:=A_ _ _ hT0;have yG:=A_ _ _ hR0;have mL:=CV A_.tk Uk λb hb o ho=>A_ _ _ ho;refine cJ (λc=>?_) (λc=>?_)
  .-- a tag
   have e:wd≠SL:=λz=>by rw[z,ZmX] at c;exact absurd c (by decide)
   have dD:=(C9 e).mp hc;have sf:ts.length<=1000:=by
    have h1:=Pm SL (ts:=ts) p6;rw[rO,gX] at h1;lia
   refine⟨_,rfl,.inl ⟨rfl,_,au.of ic⟩,_,rfl,T,_,_,rfl,rfl,ic,lj (by rw[yk,aF];lia),?_⟩;have Te:(upd H1 T (.lst ((ts.map V.str).reverse ++ [.str wd]))) R=some (.lst (as.map V.ref).reverse):=by
    rw[Zc w8];exact yG
   refine⟨_,rfl,.inl ⟨rfl,_,au.of Te⟩,by decide,λl hl=>?_⟩;obtain⟨A3,cN⟩:=rl hl;have xM:R≠l:=Zi yG cN;have D6:(upd (upd H1 T (.lst ((ts.map V.str).reverse ++ [.str wd]))) l (.lst [])) R=some (.lst (as.map V.ref).reverse):=by
    rw[Zc xM];exact Te
   refine⟨R,_,_,rfl,rfl,D6,lj (by rw[yk,aF];lia),?_⟩;have tk:TK H1 (upd (upd (upd H1 T (.lst ((ts.map V.str).reverse ++ [.str wd]))) l (.lst [])) R (.lst ((as.map V.ref).reverse ++ [.ref l]))):=((TK.lst ic).trans (TK.new hl)).trans (TK.lst D6);have nla:l∉as:=λhb=>by
    obtain⟨o,ho⟩:=OW mL l hb;rw[cN] at ho;cases ho
   refine⟨l::as,.nil::gs,wd::ts,_,_,_,rfl,?_,?_,?_,?_,?_,?_,?_,?_,?_,?_,?_⟩
   .exact((sm.du hT).du (sm.free cN)).du GB
   .rw[Zc w8.symm,Zc A3.symm,Za,b8,sP]
   .rw[Za,b8,sP]
   .refine .cons ⟨[],?_,.nil⟩ (CV tk mL λb hb o ho=>?_)
    .rw[Zc xM.symm];exact Za
    .rw[Zc (Ag b hb),Zc (Zi ho cN),Zc (D7 b hb)];exact ho
   .refine gY.mpr ⟨λh=>?_,gY.mpr ⟨λh=>?_,gY.mpr ⟨nla,UW⟩⟩⟩
    .rcases a8.mp h with h|h
     .exact w8 h
     .rcases a8.mp h with h|h
      .exact xM h
      .exact EQ (bp _ h)
    .rcases a8.mp h with h|h
     .exact A3 h.symm
     .exact GH h
   .intro b hb;rcases a8.mp hb with rfl|hb
    .exact sm.free cN
    .exact oj b hb
   .simpa using p6
   .rw[Zh6,rO,KW]
   .exact dD
   .intro g hg;rcases a8.mp hg with rfl|hg
    .trivial
    .exact bZ g hg
   .intro x hx;rcases a8.mp hx with rfl|hx
    .exact e
    .exact lJ x hx
  .-- an end
   have e:wd=SL:=AR.elim id λe=>absurd (Zjb e.1 e.2) c;subst e;obtain⟨Zzj,dD⟩:=Dg.mp hc;cases ts with
   | nil=>exact absurd Zzj (by simp)
   | cons t ts =>
    cases gs with
    | nil=>simp at p6
    | cons g0 gs =>
     cases gs with
     | nil=>simp at p6
     | cons g1 gs =>
      cases mL with
      | @cons b0 _ as _ r0 mL =>
       cases mL with
       | @cons b1 _ as _ r1 mL =>
        obtain⟨sC,h00,r00⟩:=r0;obtain⟨L_,JN,Vd⟩:=r1;have m0:b0∈b0::b1::as:=bw ..;have m1:b1∈b0::b1::as:=bp _ (bw ..);have Tw:gs.length=ts.length:=by simpa using p6
        have fW:(words SL g1).length<=1000:=by
         have h1:=Zly SL (r:=g1) Tw;have h2:=congrArg oU rO;rw[gX] at h2;simp only[gI,cw] at h2;lia
        have Uo:=Vd.length;have JZ:H1 R=some (.lst (((b1::as).map V.ref).reverse ++ [.ref b0])):=by
         rw[yG,b8,sP]
        have D8:H1 T=some (.lst ((ts.map V.str).reverse ++ [.str t])):=by
         rw[ic,b8,sP]
        refine⟨_,rfl,rfl,_,rfl,cJ (λ_=>?_) (λc=>absurd (aJ rfl) c)⟩;refine⟨_,rfl,true,.inl ⟨_,au.of D8,by simp⟩,wN ?_⟩;refine⟨_,rfl,.inl ⟨rfl,_,au.of JZ⟩,R,_,_,rfl,rfl,JZ,Hs _ _,?_⟩;rw[Hm];have DX:(upd H1 R (.lst ((b1::as).map V.ref).reverse)) b0=some (.lst sC):=by
         rw[Zc (Ag b0 m0)];exact h00
        refine⟨b0,sC,rfl,.inl ⟨au.of DX,λl hl=>?_⟩⟩;obtain⟨xM,cN⟩:=rl hl;have A3:l≠T:=(Zi ic cN).symm;have A2:b1≠l:=Zi JN cN;have D6:(upd (upd H1 R (.lst ((b1::as).map V.ref).reverse)) l (.tup sC)) R=some (.lst ((as.map V.ref).reverse ++ [.ref b1])):=by
         rw[Zc xM.symm,Za,b8,sP]
        have SU:(upd (upd H1 R (.lst ((b1::as).map V.ref).reverse)) l (.tup sC)) b1=some (.lst L_):=by
         rw[Zc A2,Zc (Ag b1 m1)];exact JN
        have Ak:(upd (upd H1 R (.lst ((b1::as).map V.ref).reverse)) l (.tup sC)) T=some (.lst ((ts.map V.str).reverse ++ [.str t])):=by
         rw[Zc A3.symm,Zc w8.symm];exact D8
        refine⟨_,rfl,1,rfl,R,_,-1,.ref b1,rfl,rfl,au.of D6,Zlx _ _,.inl ⟨rfl,_,au.of SU⟩,_,rfl,.inl ⟨rfl,_,au.of Ak⟩,T,_,_,rfl,rfl,Ak,Hs _ _,?_⟩;rw[Hm];refine⟨_,rfl,(by show 2<=sizeLine;decide),λl2 iD=>?_⟩;obtain⟨n2T,ZyO⟩:=rl iD;obtain⟨n2l,ZyP⟩:=rl ZyO;obtain⟨n2R,Kr⟩:=rl ZyP;have UR:b1≠l2:=Zi JN Kr;have SV:(upd (upd (upd (upd H1 R (.lst ((b1::as).map V.ref).reverse)) l (.tup sC)) T (.lst (ts.map V.str).reverse)) l2 (.tup [.str t,.ref l])) b1=some (.lst L_):=by
         rw[Zc UR,Zc (D7 b1 m1)];exact SU
        refine⟨b1,_,_,rfl,rfl,SV,lj (by lia),?_⟩;have tk:TK H1 (upd (upd (upd (upd (upd H1 R (.lst ((b1::as).map V.ref).reverse)) l (.tup sC)) T (.lst (ts.map V.str).reverse)) l2 (.tup [.str t,.ref l])) b1 (.lst (L_ ++ [.ref l2]))) :=
         ((((TK.lst JZ).trans (TK.new hl)).trans (TK.lst Ak)).trans (TK.new iD)).trans (TK.lst SV)
        have UX:=(gY.mp UW).2;have ZAu:=(gY.mp UX).1;refine⟨b1::as,snoc g1 t g0::gs,ts,_,_,_,rfl,?_,?_,?_,?_,?_,?_,?_,?_,?_,?_,?_⟩
        .exact((((sm.du GB).du (sm.free cN)).du hT).du (sm.free Kr)).du (oj b1 m1)
        .rw[Zc (D7 b1 m1).symm,Zc n2T.symm,Za]
        .rw[Zc (Ag b1 m1).symm,Zc n2R.symm,Zc w8,Zc xM.symm,Za]
        .refine .cons ⟨_,Za,fj.snoc (q:=l) (ys:=sC) ?_ ?_ (r00.mono tk) (Vd.mono tk)⟩ (CV tk mL λb hb o ho=>?_)
         .rw[Zc UR.symm];exact Za
         .rw[Zc A2.symm,Zc n2l.symm,Zc A3];exact Za
         .have mb:b∈b0::b1::as:=bp _ (bp _ hb);have nb1:b≠b1:=λe=>ZAu (by rw[<- e];exact hb);rw[Zc nb1,Zc (Zi ho Kr),Zc (D7 b mb),Zc (Zi ho cN),Zc (Ag b mb)];exact ho
        .refine gY.mpr ⟨λh=>?_,gY.mpr ⟨λh=>GH (bp _ h),UX⟩⟩;rcases a8.mp h with h|h
         .exact w8 h
         .exact EQ (bp _ (bp _ h))
        .exact λb hb=>oj b (bp _ hb)
        .simpa using p6
        .rw[ZgG SL t Tw,rO,KW]
        .exact dD
        .intro g hg;rcases a8.mp hg with rfl|hg
         .exact O1 (lJ t (bw ..)) (bZ g0 (bw ..)) (bZ g1 (bp _ (bw ..)))
         .exact bZ g (bp _ (bp _ hg))
        .exact λx hx=>lJ x (bp _ hx)
 .rintro σ H1 ⟨as,gs,ts,v3,v4,v5,rfl,sm,ic,yG,mL,nd,oj,p6,rO,hc,bZ,lJ⟩;rw[aF] at rO hc;rw[d_] at rO;rw[Wy] at hc;obtain rfl:ts=[]:=vy hc;cases gs with
  | nil=>simp at p6
  | cons g gs =>
   obtain rfl:gs=[]:=vy (by simpa using p6);cases mL with
   | @cons b _ _ _ r mL =>
    cases mL;obtain⟨vs,hb,hg⟩:=r;refine⟨_,rfl,false,.inl ⟨_,au.of ic,rfl⟩,dj ?_⟩;refine⟨_,rfl,R,_,0,.ref b,rfl,rfl,au.of yG,rfl,b,vs,rfl,.inl ⟨au.of hb,λr hr=>?_⟩⟩;exact q r vs g _ (sm.du (sm.free hr)) (sm.free hr) Za (hg.mono (TK.new hr)) rO (bZ g (bw ..))
def Ir:Sp:=λvs H Q _=>∃(p:Addr)(ws:List Str),vs=[.ref p]/\H p=some (.lst (ws.map V.str))/\∀r,H r=none->Q (.ref r) (upd H r (.tup [.int (ws.length:Nat),.ref p]))
theorem ZcV(B:∀x∈eG,mg x=none)(F:ci K "rank_of_words" "rank_of_words" G_ f fd):br P w K mg base cA 1 f fd ["words"] Ir:=by
 refine F.ok ZcU (λvs H Q E h=>?_) (λbg A outer s H vs Q E hr h=>?_)
 .obtain⟨p,ws,rfl,_⟩:=h;rfl
 obtain⟨p,ws,rfl,e1,q⟩:=h;refine⟨_,(Zh (Z1 (dU (Zb (Zu ZD rfl (B "len" (by decide)) gC (Zb (pv 0) Ze)) (Zb (pv 0) Ze))))),?_⟩;refine⟨_,rfl,p,_,rfl,.inl (au.of e1),_,rfl,(by show 2<=sizeLine;decide),λr oo=>?_⟩;rw[aF];exact q r oo
theorem Zi6(B:∀x∈eG,mg x=none)(F:ci K "_law_cell" "_law_cell" HH f fd):br P w K mg base cA 1 f fd ["_law_script","_law_k"] (P1 K):=by
 refine F.ok ZiB (λvs H Q E h=>?_) (λbg A outer s H vs Q E hr h=>?_)
 .obtain⟨a,ns,k,rfl,_⟩:=h;rfl
 obtain⟨a,ns,k,rfl,hS,pT,h0,hk,q⟩:=h;refine⟨_,(Zd (cR (ZC IQ (pv 1) (Zu ZD rfl (B "len" (by decide)) gC (Zb (pv 0) Ze)) (ZM _))
   (Zh (Z1 (ZF fS (ZF fG (ZF rp (ZR Io (pv 0) (pv 1) (λ_ _=>rfl)) Zg) (ZF rp (ZF rp (pv 1) (pv 1)) Zg)) Zg)))
   ZW)
  (Zh (Z1 (ZF fS (ZF fG (ZF fG (ZF rp (ZF rp (pv 1) (pv 1)) Zg) (ZF rp (Zu ZD rfl (B "len" (by decide)) gC (Zb (pv 0) Ze)) Zg)) Zg) Zg)))),?_⟩
 have hq:∀v:Int,Q (.int (v % 2147483647)) H:=λv=>q _ (oN _ (by decide)) (oM _ (by decide));refine⟨_,rfl,_,rfl,a,_,rfl,.inl hS,_,_,rfl,rfl,_,rfl,?_⟩;refine cJ (λc=>?_) (λc=>?_)
 .have c':=bC c;rw[aF] at c';obtain⟨v,hv⟩:=Zmj (ns:=ns) h0 c';exact⟨_,rfl,_,rfl,a,_,k,_,rfl,rfl,hS,hv,_,_,rfl,rfl,.inr ⟨by decide,by decide⟩,_,rfl,_,rfl,_,_,rfl,rfl,.inl ⟨by lia,by lia⟩,_,_,rfl,rfl,.inr ⟨by decide,by decide⟩,_,_,rfl,rfl,_,_,rfl,rfl,(by show(0:Int)<2147483647;decide),hq _⟩
 .exact⟨_,rfl,_,rfl,_,_,rfl,rfl,.inl ⟨by lia,by lia⟩,_,_,rfl,rfl,.inr ⟨by decide,by decide⟩,_,rfl,a,_,rfl,.inl hS,_,_,rfl,rfl,.inr ⟨by decide,by decide⟩,_,_,rfl,rfl,_,_,rfl,rfl,_,_,rfl,rfl,(by show(0:Int)<2147483647;decide),hq _⟩
theorem Zlh(B:∀x∈eG,mg x=none)(F:ci K "_law_tag" "_law_tag" Ie f fd):br P w K mg base cA 1 f fd ["_law_seed","_law_v"] RI:=by
 refine F.ok lg (λvs H Q E h=>?_) (λbg A outer s H vs Q E hr h=>?_)
 .obtain⟨sd,v,rfl,_⟩:=h;rfl
 obtain⟨sd,v,rfl,q⟩:=h;refine cut 5 (λav H'=>∃many at' more:Int,av=[some (.int sd),some (.int v),some (.str vW),some (.int many),some (.int at'),some (.int more),none,none,none]/\H'=H/\1<=many/\many<=8)
  ⟨_,(Zd (Zx (i:=6) lg.nd rfl (Or.inl rfl) uh)
  (Zd (gG fX rfl (Hq rfl (B "range" (by decide)) (Zb (pv 3) Ze)) (Zt (i:=7) lg.nd rfl (Or.inl rfl))
   (Zd (Zx (i:=8) lg.nd rfl (Or.inl rfl) (ZF fG (ZF ju (pv 0) (ZF fG (pv 7) Zg)) (ZF rp (lq PQ rfl (B "int" (by decide)) IL (Zb (C6 iy (pv 7) (pv 4) (ZM _)) Ze)) (pv 5))))
    (Zh (Zx (i:=6) lg.nd rfl (Or.inl rfl) (ZF ZhS (pv 6) (ZR Znp (pv 2) (ZF fS (pv 8) Zg) (λ_ _=>rfl)))))))
  (Zh (Z1 (pv 6))))),?_⟩
  (λu K0 hR=>⟨_,(Zd (Zx (i:=2) lg.nd rfl (Or.inl rfl) uh)
  (Zd (Zx (i:=3) lg.nd rfl (Or.inl rfl) (ZF fG Zg (ZF fS (pv 0) Zg)))
  (Zd (Zx (i:=4) lg.nd rfl (Or.inl rfl) (ZF fS (ZF ju (pv 0) Zg) (pv 3)))
  (Zd (Zx (i:=5) lg.nd rfl (Or.inl rfl) (pv 1))
  (Zd (cR (ZC iy (ZF fS (ZF ju (pv 0) Zg) Zg) Zg (ZM _))
   (Zd (Zx (i:=3) lg.nd rfl (Or.inl rfl) (ZF fG Zg (ZF fS (ZF fG (ZF ju (pv 0) Zg) (pv 1)) Zg)))
    (Zd (Zx (i:=4) lg.nd rfl (Or.inl rfl) (ZF ZnL (pv 3) Zg))
    (Zh (Zx (i:=5) lg.nd rfl (Or.inl rfl) (ZF ju (pv 1) Zg)))))
   ZW)
  K0))))),?_⟩)
 rotate_left
 .have m1:=oN sd (by decide:(8:Int)≠0);have m2:=oM sd (by decide:(0:Int)<8);refine⟨_,rfl,_,_,rfl,rfl,(by show(0:Int)<8;decide),_,_,rfl,rfl,?_⟩;refine⟨_,rfl,_,_,rfl,rfl,⟨by decide,by decide⟩,_,rfl,_,_,rfl,rfl,(by show(0:Int)<1+sd % 8;lia),?_⟩;refine⟨_,rfl,?_⟩;refine⟨_,rfl,_,_,rfl,rfl,⟨by decide,by decide⟩,_,_,rfl,rfl,(by show(0:Int)<2;decide),rfl,_,rfl,?_⟩;refine cJ (λ_=>?_) (λ_=>?_)
  .have m3:=oN (sd / 8+v) (by decide:(8:Int)≠0);have m4:=oM (sd / 8+v) (by decide:(0:Int)<8);refine⟨_,rfl,_,_,rfl,rfl,⟨by decide,by decide⟩,_,rfl,_,_,rfl,rfl,_,_,rfl,rfl,(by show(0:Int)<8;decide),_,_,rfl,rfl,?_⟩;refine⟨_,rfl,_,_,rfl,rfl,?_⟩;refine⟨_,rfl,_,_,rfl,rfl,⟨by decide,by decide⟩,?_⟩;exact hR _ _ ⟨_,_,_,rfl,rfl,by lia,by lia⟩
  .exact hR _ _ ⟨_,_,_,rfl,rfl,by lia,by lia⟩
 .rintro av H' ⟨many,at',more,rfl,rfl,h1,h8⟩;refine⟨_,rfl,_,rfl,by lia,by lia,ZiR (lo:=0) (n:=many.toNat) (λi σ H1=>∃(t:Str)(v7 v8:Option V),σ =[some (.int sd),some (.int v),some (.str vW),some (.int many),some (.int at'),some (.int more),some (.str t),v7,v8]/\H1=H'/\t.length=i/\pP t) ⟨Ni,none,none,rfl,rfl,rfl,λ_ h=>(nomatch h)⟩ ?_ ?_⟩
  .rintro i σ H1 hi ⟨t,v7,v8,rfl,rfl,hl,aA⟩;refine⟨_,rfl,_,rfl,_,_,rfl,rfl,_,_,rfl,rfl,⟨by lia,by lia⟩,_,rfl,_,rfl,rfl,_,rfl,_,rfl,_,_,rfl,rfl,.inl ⟨by split <;> decide,by split <;> decide⟩,_,_,rfl,rfl,?_⟩
   obtain⟨c,hc,c1,c2⟩:=Znx (i:=(sd / (0+(i:Int)+9)+(if decide (V.int (0+(i:Int))=V.int at')=true then 1 else 0)*more) % 26) (oN _ (by decide)) (oM _ (by decide))
   refine⟨_,rfl,_,rfl,_,rfl,_,_,rfl,rfl,(by show(0:Int)<26;decide),_,_,c,rfl,rfl,(by decide),hc,_,_,rfl,rfl,?_,?_⟩
   .show t.length+1<=sizeLine;exact Iw (by lia)
   .refine⟨t++⟨#[c]⟩,_,_,rfl,rfl,?_,ZlB aA (Zk6 c1 c2).Lu⟩;rw[ZmB,hl];rfl
  .rintro σ H1 ⟨t,v7,v8,rfl,rfl,hl,aA⟩;refine⟨_,rfl,q t ⟨λz=>?_,aA⟩ (by lia)⟩;have e:t.cps.toList.length=t.length:=aW;rw[z] at e;have e0:(0:Nat)=t.length:=e;lia
structure tN(K:ay)(C:Addr):Prop where
 cls:iu K C
 ns:iw K C "starts"
 nf:iw K C "finals"
 nb:iw K C "by_tag"
def BT(H:Hp)(m:List (Key×V))(qs:List ax.Qd):Prop:=(∀t:Str,(bz m (fN t)=none/\(qs.filter λq=>decide (q.2.1=t))=[])\/∃l zs,bz m (fN t)=some (.ref l)/\H l=some (.lst zs)/\QL H zs (qs.filter λq=>decide (q.2.1=t)))/\∀t t' l,bz m (fN t)=some (.ref l)->bz m (fN t')=some (.ref l)->t=t'
theorem BT.keep{H H':Hp}{m:List (Key×V)}{qs:List ax.Qd}(h:BT H m qs)(s:Zj H H'):BT H' m qs:=⟨λt=>by
 rcases h.1 t with h1|⟨l,zs,h1,h2,h3⟩
 .exact .inl h1
 .exact .inr ⟨l,zs,h1,s _ _ h2,h3.keep λb xs e=>s _ _ e⟩,h.2⟩
def UG(h1 h2 d:Addr):List (Str×V):=[("starts",.ref h1),("finals",.ref h2),("by_tag",.ref d)]
def gK(C:Addr)(H:Hp)(a:Addr)(f:FQ):Prop := ∃(dx h1 h2 d:Addr)(m:List (Key×V)),H a=some (.ins C dx (UG h1 h2 d))/\H h1=some (.tup (f.hs.map V.int))/\H h2=some (.tup (f.ts.map V.int))/\H d=some (.dK m)/\BT H m f.qs
variable{C a:Addr}{H H':Hp}
theorem gK.same{f:FQ}(h:gK C H a f)(s:Zj H H'):gK C H' a f:=by
 obtain⟨dx,h1,h2,d,m,e1,e2,e3,e4,e5⟩:=h;exact⟨dx,h1,h2,d,m,s _ _ e1,s _ _ e2,s _ _ e3,s _ _ e4,e5.keep s⟩
def ui(f:FQ):Prop:=f.hs.length<=20/\f.ts.length<=20/\f.qs.length<=63/\rG f.ts
def nE(f:FQ)(w:Str)(n1 n2 ks:List Int):Prop:=rG ks/\ks.length<=63/\∀x,x∈ks↔∃q∈f.qs,q.1=x/\q.2.1=w/\q.2.2.1∈n1/\q.2.2.2∈n2
def Q6:Sp:=λvs H Q _=>∃(r w1 w2:Addr)(zs:List V)(qs:List ax.Qd)(n1 n2:List Int),vs=[.ref r,.ref w1,.ref w2]/\H r=some (.lst zs)/\QL H zs qs/\qs.length<=63/\DI H w1 n1/\DI H w2 n2/\∀(d:Addr)(ns:List Int)(H':Hp),Zj H H'->H d=none->DI H' d ns->ns.length<=qs.length->(∀x,x∈ns↔∃q∈qs,q.1=x/\q.2.2.1∈n1/\q.2.2.2∈n2)->Q (.ref d) H'
def zo(K:ay)(C:Addr):Sp:=λvs H Q _=>∃(a p dx:Addr)(f:FQ),vs=[.ref a,.ref p]/\H a=some (.ins C dx [])/\fF H p f/\f.qs.length<=63/\∀H',(∀b o,b≠a->H b=some o->H' b=some o)->gK C H' a f->Q .aB H'
def CA(C:Addr):Sp:=λvs H Q _=>∃(a:Addr)(f:FQ),vs=[.ref a]/\gK C H a f/\∀r,H r=some (.tup (f.ts.map V.int))->Q (.ref r) H
def CI(C:Addr):Sp:=λvs H Q _=>∃(a p1 p2:Addr)(w:Str)(f:FQ)(n1 n2:List Int),vs=[.ref a,.str w,.ref p1,.ref p2]/\gK C H a f/\ui f/\H p1=some (.tup (n1.map V.int))/\H p2=some (.tup (n2.map V.int))/\n1.length<=63/\n2.length<=63/\n1.Nodup/\n2.Nodup/\∀(r:Addr)(ks:List Int)(H':Hp),Zj H H'->H' r=some (.tup (ks.map V.int))->nE f w n1 n2 ks->Q (.ref r) H'
theorem Zd2(B:∀x∈eG,mg x=none)(F:ci K "kinds_above" "kinds_above" Cs f fd):br P w K mg base cA 1 f fd ["rules","within","others"] Q6:=by
 refine F.ok wm (λvs H Q E h=>?_) (λbg A outer s H vs Q E hr h=>?_)
 .obtain⟨r,w1,w2,zs,qs,n1,n2,rfl,_⟩:=h;rfl
 obtain⟨r,w1,w2,zs,qs,n1,n2,rfl,hR,hQ,rZ,⟨m1,h1,k1⟩,⟨m2,h2,k2⟩,q⟩:=h;have kg:(A.deeper (FY (cm "kinds_above") (Zm Cs) s.heap.objs.size f bg)).units+1<cLine:=by have:=hr.un;lia
 have iE:=hQ.length;refine⟨_,(Zd (Zx (i:=3) wm.nd rfl (Or.inl rfl) HJ)
  (Zd (gG fX rfl (nO (pv 0)) (wC rfl (Z6 (Zt (i:=4) wm.nd rfl (Or.inl rfl)) (Z6 (Zt (i:=5) wm.nd rfl (Or.inl rfl)) (Z6 (Zt (i:=6) wm.nd rfl (Or.inl rfl)) (Z6 (Zt (i:=7) wm.nd rfl (Or.inl rfl)) wB)))))
   (Zh (cR (PW.pt (wI (zC (Rw kg (pv 6) (pv 1))) (zk (zC (Rw kg (pv 7) (pv 2))))))
     (Zh (Zmm kg (pv 3) (pv 4) jU rfl))
     ZW)))
  (Zh (Z1 (pv 3))))),?_⟩
 refine λd hd=>?_;have s0:Zj H (upd H d (.dK [])):=Zj.new hd;refine⟨_,rfl,r,rfl,⟨_,au.of (s0 _ _ hR)⟩,pH (K:=K) (a:=r) (xs:=zs) (λi σ H1=>∃(v4 v5 v6 v7:Option V)(m:List (Key×V))(ns:List Int),σ =[some (.ref r),some (.ref w1),some (.ref w2),some (.ref d),v4,v5,v6,v7]/\Zj H H1/\H1 d=some (.dK m)/\m.map (·.1)=ns.map aN/\ns.length<=i/\∀x,x∈ns↔∃q∈qs.take i,q.1=x/\q.2.2.1∈n1/\q.2.2.2∈n2)
  ⟨none,none,none,none,[],[],rfl,s0,Za,rfl,aD _,λx=>⟨λh=>(nomatch h),λ⟨_,h,_⟩=>(nomatch h)⟩⟩ ?_ ?_ ?_⟩
 .rintro i σ H1 _ ⟨_,_,_,_,_,_,_,sm,_⟩;exact au.of (sm _ _ hR)
 .rintro i x σ H1 hx ⟨v4,v5,v6,v7,m,ns,rfl,sm,mE,fu,Ky,dY⟩;obtain⟨p,q1,e1,rfl,e2⟩:=hQ.get i x hx;have p_:=(de.mp e1).1;have lF:m.length=ns.length:=by have:=congrArg oU fu;simpa using this
  refine⟨p,_,rfl,az.of (sm _ _ e2),rfl,_,_,rfl,_,_,rfl,_,_,rfl,_,_,rfl,rfl,?_⟩;have skip : ¬ (q1.2.2.1∈n1/\q1.2.2.2∈n2)->∃(v4 v5 v6 v7:Option V)(m:List (Key×V))(ns:List Int),[some (V.ref r),some (V.ref w1),some (V.ref w2),some (V.ref d),some (V.int q1.1),some (V.str q1.2.1),some (V.int q1.2.2.1),some (V.int q1.2.2.2)] =[some (.ref r),some (.ref w1),some (.ref w2),some (.ref d),v4,v5,v6,v7]/\Zj H H1/\H1 d=some (.dK m)/\m.map (·.1)=ns.map aN/\ns.length<=i+1/\∀x,x∈ns↔∃q∈qs.take (i+1),q.1=x/\q.2.2.1∈n1/\q.2.2.2∈n2:=by
   intro lH;refine⟨_,_,_,_,m,ns,rfl,sm,mE,fu,by lia,λx=>(dY x).trans ?_⟩;rw[Zq e1];constructor
   .rintro⟨q,hq,r⟩;exact⟨q,dN _ hq,r⟩
   .rintro⟨q,hq,r⟩;rcases bV.mp hq with hq|hq
    .exact⟨q,hq,r⟩
    .rw[aI.mp hq] at r;exact absurd r.2 lH
  refine⟨_,rfl,_,rfl,w1,_,rfl,mv.k (k:=aN q1.2.2.1) (sm _ _ h1),_,rfl,?_⟩;rw[DI.has k1];refine cJ (λc1=>?_) (λc1=>dj ?_)
  .have kO:=bC c1;refine⟨_,rfl,_,rfl,w2,_,rfl,mv.k (k:=aN q1.2.2.2) (sm _ _ h2),_,rfl,?_⟩;rw[DI.has k2];refine cJ (λc2=>?_) (λc2=>?_)
   .have nu:=bC c2;refine⟨_,rfl,_,rfl,d,_,rfl,zN.k (k:=aN q1.1) mE (lj (by lia)),?_⟩;refine⟨_,_,_,_,_,if q1.1∈ns then ns else ns ++ [q1.1],rfl,sm.du hd,Za,DI.put fu _ _,?_,λx=>?_⟩
    .split
     .lia
     .rw[cw,sO];lia
    .have e3:x∈(if q1.1∈ns then ns else ns ++ [q1.1])↔x∈ns\/x=q1.1:=by
      split
      .rename_i h
       exact⟨.inl,λz=>z.elim id λz=>z ▸ h⟩
      .rw[bV,aI]
     rw[e3,dY,Zq e1];constructor
     .rintro(⟨q,hq,r⟩|rfl)
      .exact⟨q,dN _ hq,r⟩
      .exact⟨q1,cj _ (aI.mpr rfl),rfl,kO,nu⟩
     .rintro⟨q,hq,r⟩;rcases bV.mp hq with hq|hq
      .exact .inl ⟨q,hq,r⟩
      .rw[aI.mp hq] at r;exact .inr r.1.symm
   .exact skip λh=>c2 (aJ h.2)
  .exact skip λh=>c1 (aJ h.1)
 .rintro σ H1 ⟨v4,v5,v6,v7,m,ns,rfl,sm,mE,fu,Ky,dY⟩;rw[iE,d_] at dY;exact⟨_,rfl,q d ns H1 sm hd ⟨m,mE,fu⟩ (by lia) dY⟩
theorem Oi(B:∀x∈eG,mg x=none)(c:tN K C)(F:ci K "__init__" "Kinds.__init__" Cv f fd):br P w K mg base cA 1 f fd ["self","form"] (zo K C):=by
 refine F.ok Oh (λvs H Q E h=>?_) (λbg A outer s H vs Q E hr h=>?_)
 .obtain⟨a,p,dx,fm,rfl,_⟩:=h;rfl
 obtain⟨a,p0,dx,fm,rfl,hA,hF,rZ,q⟩:=h;obtain⟨f1,f2,f3,zf,a1,a2,a3,a4,a5⟩:=id hF;have kg:(A.deeper (FY (cm "Kinds.__init__") (Zm Cv) s.heap.objs.size f bg)).units+1<cLine:=by have:=hr.un;lia
 have na:∀b xs,H b=some (.tup xs)->b≠a:=λb xs e z=>by rw[z,hA] at e;cases e
 refine⟨_,(Zd (nN (pv 0) (ZR ZG (pv 1) Zg (λ_ _=>rfl)) rfl)
  (Zd (nN (pv 0) (ZR ZG (pv 1) Zg (λ_ _=>rfl)) rfl)
  (Zd (nN (pv 0) HJ rfl)
  (Zh (gG fX rfl (mj (ZR ZG (pv 1) Zg (λ_ _=>rfl))) (Zt (i:=2) Oh.nd rfl (Or.inl rfl))
   (Zh (ix (mr jl mZ m9 jS (PX (dX (pv 0) rfl) (ZR ZG (pv 2) Zg (λ_ _=>rfl)) (eU Ze) ⟨rfl,rfl,rfl,rfl⟩) (Zb (pv 2) Ze))))))))),?_⟩
 refine⟨_,rfl,p0,_,1,_,rfl,rfl,az.of a1,rfl,_,rfl,a,C,dx,_,rfl,hA,c.cls,c.ns,by decide,?_⟩;refine⟨_,rfl,p0,_,2,_,rfl,rfl,az.of (by rw[Zc (na _ _ a1)];exact a1),rfl,_,rfl,a,C,dx,_,rfl,Za,c.cls,c.nf,(show 1<1000 by decide),?_⟩;refine λpb mI=>?_;have xI:pb≠a:=λz=>by
  rw[z,Za] at mI;cases mI
 refine⟨_,rfl,a,C,dx,[("starts",.ref f1),("finals",.ref f2)],rfl,(by rw[Zc xI.symm];exact Za),c.cls,c.nb,(show 2<1000 by decide),?_⟩;rw[Zc xI,Zc xI] at mI;generalize DH:upd (upd (upd (upd H a (HO.ins C dx (eX "starts" (V.ref f1) []))) a (HO.ins C dx (eX "finals" (V.ref f2) (eX "starts" (V.ref f1) [])))) pb (HO.dK [])) a (HO.ins C dx (eX "by_tag" (V.ref pb) [("starts",V.ref f1),("finals",V.ref f2)]))=H5;have kb:∀b o,b≠a->H b=some o->H5 b=some o:=λb o hb e=>by
  rw[<- DH,Zc hb,Zc (Zi e mI),Zc hb,Zc hb];exact e
 have Sl:H5 a=some (.ins C dx (UG f1 f2 pb)):=by
  rw[<- DH,Za];rfl
 have Sm:H5 pb=some (.dK []):=by
  rw[<- DH,Zc xI];exact Za
 clear DH;have hF5:fF H5 p0 fm:=⟨f1,f2,f3,zf,kb _ _ (na _ _ a1) a1,kb _ _ (na _ _ a2) a2,kb _ _ (na _ _ a3) a3,kb _ _ (na _ _ a4) a4,a5.keep λb xs e=>kb _ _ (na _ _ e) e⟩;have b4:H5 f3=some (.tup zf):=kb _ _ (na _ _ a4) a4;have b5:QL H5 zf fm.qs:=a5.keep λb xs e=>kb _ _ (na _ _ e) e;have nd:∀b xs,H5 b=some (.tup xs)->b≠pb:=λb xs e z=>by rw[z,Sm] at e;cases e
 refine⟨_,rfl,p0,_,3,_,rfl,rfl,az.of (kb _ _ (na _ _ a1) a1),rfl,f3,rfl,⟨_,az.of b4⟩,wA (K:=K) (a:=f3) (xs:=zf) (λi σ H7=>∃(v2:Option V)(m:List (Key×V)),σ =[some (.ref a),some (.ref p0),v2]/\(∀c o,c≠pb->H5 c=some o->H7 c=some o)/\H7 pb=some (.dK m)/\m.length<=i/\BT H7 m (fm.qs.take i)/\∀t l,bz m (fN t)=some (.ref l)->H5 l=none)
  ⟨none,[],rfl,(λc o _ h=>h),Sm,aD _,⟨λt=>.inl ⟨rfl,rfl⟩,λt t' l h=>by cases h⟩,λt l h=>by cases h⟩ ?_ ?_ ?_⟩
 .rintro i σ H7 _ ⟨_,_,_,kk,_⟩;exact az.of (kk _ _ (nd _ _ b4) b4)
 .rintro i x σ H7 hx ⟨v6,m,rfl,kk,e7,lF,mD,mF⟩;obtain⟨p,q1,x1,rfl,x2⟩:=b5.get i x hx;have p_:=(de.mp x1).1;have GP:=kk _ _ (nd _ _ x2) x2;have eA7:=kk _ _ (λz=>xI z.symm) Sl;have Ez:∀t,(fm.qs.take (i+1)).filter (λq=>decide (q.2.1=t))=(fm.qs.take i).filter (λq=>decide (q.2.1=t))++if q1.2.1=t then [q1] else []:=by
   intro t;rw[Zq x1,yd]
   congr 1
   split
   .rename_i h
    rw[Fx,ao (aJ h)];rfl
   .rename_i h
    rw[Fx,ai (by rw[bt h];decide)];rfl
  refine⟨_,rfl,a,C,dx,_,_,rfl,eA7,c.cls,c.nb,rfl,pb,rfl,.inl ⟨m,.inl e7⟩,_,rfl,p,_,1,_,rfl,rfl,az.of GP,rfl,by decide,λl0 dq=>?_⟩;have t8:Zj H7 (upd H7 l0 (.lst [])):=Zj.new dq;have e8:(upd H7 l0 (.lst [])) l0=some (.lst []):=Za;have qt:l0≠pb:=λz=>by rw[z,e7] at dq;cases dq
  have TO:H5 l0=none:=by
   cases h:H5 l0 with
   | none=>rfl
   | some o =>
    rw[kk l0 o qt h] at dq;cases dq
  generalize upd H7 l0 (.lst [])=H8 at t8 e8 ⊢;refine⟨m,fN q1.2.1,t8 _ _ e7,rfl,lj (by lia),λv hv=>?_,λhn=>?_⟩
  .rcases mD.1 q1.2.1 with⟨h1,_⟩|⟨l,zs,h1,h2,h3⟩
   .rw[h1] at hv;cases hv
   .rw[h1] at hv;injection hv with hv;subst hv;have tE:=t8 _ _ h2;have nlb:l≠pb:=λz=>by rw[z,e7] at h2;cases h2
    have hl:=mF _ _ h1;have hlen:zs.length<=63:=by
     rw[h3.length];refine cz (Bz ..) ?_;rw[gX];lia
    refine⟨.inl ⟨rfl,_,au.of tE⟩,_,rfl,l,_,_,rfl,rfl,tE,lj (by lia),?_⟩;refine⟨_,m,rfl,λc o hc h=>?_,?_,by lia,⟨λt=>?_,mD.2⟩,mF⟩
    .rw[Zc (λz=>by rw[z,hl] at h;cases h)];exact t8 _ _ (kk c o hc h)
    .rw[Zc nlb.symm];exact t8 _ _ e7
    .by_cases ht:q1.2.1=t
     .subst ht;refine .inr ⟨l,zs ++ [.ref p],h1,Za,?_⟩;rw[Ez,ao rfl];exact(QL.snoc (t8 _ _ GP) (h3.keep λb xs e=>t8 _ _ e)).keep (jR tE)
     .rw[Ez,ai ht,gW];rcases mD.1 t with⟨h4,h5⟩|⟨l',iN,h4,h5,h6⟩
      .exact .inl ⟨h4,h5⟩
      .have nll:l'≠l:=λz=>ht (mD.2 _ _ l h1 (z ▸ h4));exact .inr ⟨l',iN,h4,by rw[Zc nll];exact t8 _ _ h5,(h6.keep λb xs e=>t8 _ _ e).keep (jR tE)⟩
  .have e9:(upd H8 pb (.dK (putK m (fN q1.2.1) (.ref l0)))) l0=some (.lst []):=by
    rw[Zc qt];exact e8
   refine⟨.inl ⟨rfl,_,au.of e9⟩,_,rfl,l0,_,_,rfl,rfl,e9,by decide,?_⟩;have Zyz:(fm.qs.take i).filter (λq=>decide (q.2.1=q1.2.1))=[]:=by
    rcases mD.1 q1.2.1 with⟨_,h⟩|⟨l,zs,h1,_⟩
    .exact h
    .rw[h1] at hn;cases hn
   have Ka:∀{zs:List V}{qs:List ax.Qd},QL H7 zs qs->QL (upd (upd H8 pb (.dK (putK m (fN q1.2.1) (.ref l0)))) l0 (.lst ([] ++ [.ref p]))) zs qs:=λh=>h.keep λb xs e=>by
    have h1:b≠pb:=λz=>by rw[z,e7] at e;cases e
    have h2:b≠l0:=λz=>by rw[z,dq] at e;cases e
    rw[Zc h2,Zc h1];exact t8 _ _ e
   refine⟨_,putK m (fN q1.2.1) (.ref l0),rfl,λc o hc h=>?_,?_,?_,⟨λt=>?_,λt t' l h h'=>?_⟩,λt l h=>?_⟩
   .have h2:c≠l0:=λz=>by rw[z,TO] at h;cases h
    rw[Zc h2,Zc hc];exact t8 _ _ (kk c o hc h)
   .rw[Zc qt.symm];exact Za
   .have:=wj m (fN q1.2.1) (.ref l0);lia
   .rw[zc];by_cases ht:q1.2.1=t
    .subst ht;refine .inr ⟨l0,[.ref p],by rw[ao rfl],Za,?_⟩;rw[Ez,ao rfl,Zyz];exact Ka (.cons ⟨p,rfl,GP⟩ .nil)
    .rw[ai (λz=>ht (by injection z with z;exact z.symm)),Ez,ai ht,gW];rcases mD.1 t with⟨h4,h5⟩|⟨l',iN,h4,h5,h6⟩
     .exact .inl ⟨h4,h5⟩
     .have n1:l'≠l0:=λz=>by rw[z,dq] at h5;cases h5
      have n2:l'≠pb:=λz=>by rw[z,e7] at h5;cases h5
      exact .inr ⟨l',iN,h4,by rw[Zc n1,Zc n2];exact t8 _ _ h5,Ka h6⟩
   .rw[zc] at h h';have old:∀t,bz m (fN t)≠some (.ref l0):=λt z=>by
     rcases mD.1 t with⟨h4,_⟩|⟨l',iN,h4,h5,_⟩
     .rw[h4] at z;cases z
     .rw[h4] at z;injection z with z;injection z with z;rw[z,dq] at h5;cases h5
    by_cases h1:t=q1.2.1
    .by_cases h2:t'=q1.2.1
     .rw[h1,h2]
     .rw[ao (by rw[h1])] at h;rw[ai (λz=>h2 (by injection z))] at h';injection h with h;injection h with h;subst h;exact absurd h' (old t')
    .rw[ai (λz=>h1 (by injection z))] at h;by_cases h2:t'=q1.2.1
     .rw[ao (by rw[h2])] at h';injection h' with h';injection h' with h';subst h';exact absurd h (old t)
     .rw[ai (λz=>h2 (by injection z))] at h';exact mD.2 t t' l h h'
   .rw[zc] at h;by_cases h1:t=q1.2.1
    .rw[ao (by rw[h1])] at h;injection h with h;injection h with h;rw[<- h];exact TO
    .rw[ai (λz=>h1 (by injection z))] at h;exact mF t l h
 .rintro σ H7 ⟨v6,m,rfl,kk,e7,lF,mD,mF⟩;have iE:=b5.length;rw[iE,d_] at mD;refine q H7 (λb o hb e=>kk b o (Zi e mI) (kb b o hb e)) ⟨dx,f1,f2,pb,m,kk _ _ (λz=>xI z.symm) Sl,?_,?_,e7,mD⟩
  .exact kk _ _ (nd _ _ (kb _ _ (na _ _ a2) a2)) (kb _ _ (na _ _ a2) a2)
  .exact kk _ _ (nd _ _ (kb _ _ (na _ _ a3) a3)) (kb _ _ (na _ _ a3) a3)
theorem Oc(B:∀x∈eG,mg x=none)(c:tN K C)(F:ci K "nothing" "Kinds.nothing" G9 f fd):br P w K mg base cA 1 f fd ["self"] (CA C):=by
 refine F.ok ZcY (λvs H Q E h=>?_) (λbg A outer s H vs Q E hr h=>?_)
 .obtain⟨a,fm,rfl,_⟩:=h;rfl
 obtain⟨a,fm,rfl,⟨dx,h1,h2,d,m,e1,e2,e3,e4,e5⟩,q⟩:=h;refine⟨_,(Zh (Z1 (dX (pv 0) rfl))),?_⟩;exact⟨_,rfl,a,C,dx,_,_,rfl,e1,c.cls,c.nf,rfl,q h2 e3⟩
theorem O9:∀(ae m:List (Key×V)),((m++ae).map (·.1)).Nodup->ae.foldl (λm kv=>putK m kv.1 kv.2) m=m++ae
 | [],m,_=>(gW m).symm
 | kv::ae,m,h=>by
  have h1:bz m kv.1=none:=by
   rw[<- Option.not_isSome_iff_eq_none,<- rm,vw];rintro⟨x,hx,e⟩;have e':=bC e;rw[eN,BD] at h;exact h.2.2 x.1 (aX.mpr ⟨x,hx,rfl⟩) kv.1 (by rw[b8];exact bw ..) e'
  rw[yh,ZlJ _ h1,O9 ae (m ++ [(kv.1,kv.2)]) (by rw[oP];exact h),oP];rfl
theorem Rk{ns:List Int}(h:ns.Nodup):putAll (ns.map λx=>((aN x:Key),V.bl true))=ns.map λx=>((aN x:Key),V.bl true):=by
 unfold putAll;have:=O9 (ns.map λx=>((aN x:Key),V.bl true)) [] (by
  rw[FF,ij];refine iK.mpr (h.imp λ{x y} AS z=>AS ?_);injection z)
 rw[FF] at this;exact this
variable{H1:Hp}{t:Addr}{y:Int}
theorem Q7{pl:Addr}{us0 zs:List V}(t1:Zj H1 (upd H1 t (.tup [.int y,.bl true])))(h:H1 pl=some (.lst us0)){us:List V}{ae:List (Key×V)}(hh:ck (λ(y:V)(kv:Key×V)=>∃t,y=.ref t/\H1 t=some (.tup [kV kv.1,kv.2])) us ae) :
  ck (λ(z:V)(kv:Key×V)=>∃t',z=.ref t'/\(upd (upd H1 t (.tup [.int y,.bl true])) pl (.lst zs)) t'=some (.tup [kV kv.1,kv.2])) us ae:=by
 induction hh with
 | nil=>exact .nil
 | cons hz _ ih =>
  obtain⟨t',e1,e2⟩:=hz;exact .cons ⟨t',e1,jR (t1 _ _ h) _ _ (t1 _ _ e2)⟩ ih
theorem N_(B:∀x∈eG,mg x=none)(c:tN K C)(DR:fO P w K mg base "kinds_above" ["rules","within","others"] 1 Q6) (F:ci K "above" "Kinds.above" Ct f fd):br P w K mg base cA 2 f fd ["self","tag","inner","rest"] (CI C):=by
 refine F.ok Hc (λvs H Q E h=>?_) (λbg A outer s H vs Q E hr h=>?_)
 .obtain⟨a,p1,p2,w,fm,n1,n2,rfl,_⟩:=h;rfl
 obtain⟨a,p1,p2,wd,fm,n1,n2,rfl,hK,⟨l1,l2,l3,l4⟩,h1,h2,cN,iD,En,xr,q⟩:=h;have kg:(A.deeper (FY (cm "Kinds.above") (Zm Ct) s.heap.objs.size f bg)).units+1<cLine:=by have:=hr.un;lia
 refine⟨_,(Zd (Zx (i:=4) Hc.nd rfl (Or.inl rfl) (lq (N7 rfl) rfl (B "dict" (by decide)) Ij (Zb (zj (cl:=[]) ["kind"] [] (mj (pv 2)) (λ_ _ _ _=>(Zt (i:=0) kn rfl (Or.inl rfl))) (λ_ _ _ _=>(dU (Zb (pv 0) (Zb jU Ze)))) rfl rfl (by decide) rfl (by decide) (λ_ _ h=>nomatch h) (ue (by decide)) (λ_ _ h=>nomatch h) (λ_=>rfl)) Ze)))
  (Zd (Zx (i:=5) Hc.nd rfl (Or.inl rfl) (lq (N7 rfl) rfl (B "dict" (by decide)) Ij (Zb (zj (cl:=[]) ["kind"] [] (mj (pv 3)) (λ_ _ _ _=>(Zt (i:=0) kn rfl (Or.inl rfl))) (λ_ _ _ _=>(dU (Zb (pv 0) (Zb jU Ze)))) rfl rfl (by decide) rfl (by decide) (λ_ _ h=>nomatch h) (ue (by decide)) (λ_ _ h=>nomatch h) (λ_=>rfl)) Ze)))
  (Zh (Z1 (lq tX rfl (B "tuple" (by decide)) mh (Zb (Zu (ZdD rfl) rfl (B "sorted" (by decide)) P2 (Zb (eS DR hr rfl (Zb (HX kg (dX (pv 0) rfl) (pv 1) (eU Ze) ⟨rfl,rfl,rfl,rfl⟩) (Zb (pv 4) (Zb (pv 5) Ze)))) Ze)) Ze)))))),?_⟩
 refine⟨_,rfl,p1,rfl,⟨_,az.of h1⟩,λpl aM=>HB (K:=K) (a:=p1) (p:=pl) (xs:=n1.map V.int) (λj us σ H1=>∃v0:Option V,σ =[v0]/\Zj H H1/\H1 pl=some (.lst us)/\ck (λ(y:V)(kv:Key×V)=>∃t,y=.ref t/\H1 t=some (.tup [kV kv.1,kv.2])) us ((n1.take j).map λx=>((aN x:Key),V.bl true)))
  ⟨none,rfl,Zj.new aM,Za,.nil⟩ ?_ ?_ ?_⟩
 .rintro j us σ H1 _ ⟨_,_,sm,h,_⟩;exact⟨az.of (sm _ _ h1),h⟩
 .rintro j us x σ H1 hj hx ⟨v0,rfl,sm,h,hP⟩;rw[bM] at hx;obtain⟨y,hy,rfl⟩:=gB.mp hx;refine⟨_,rfl,by show(2:Nat)<=sizeLine;decide,λt ht=>?_⟩;have t1:Zj H1 (upd H1 t (.tup [.int y,.bl true])):=Zj.new ht;refine⟨t1 _ _ h,lj (by rw[dz hP,aF,gX];lia),CW.next hj ⟨_,rfl,(sm.trans t1).du aM,Za,?_⟩⟩
  rw[Zq hy,eN];exact sU (Q7 t1 h hP) ⟨t,rfl,jR (t1 _ _ h) _ _ Za⟩
 rintro us σ H1 ⟨v0,rfl,sA,eA,hP⟩;rw[aF,d_] at hP;have JW:=dz hP;rw[aF] at JW;refine⟨pl,us,_,rfl,au.of eA,by lia,hP,λpe hpe=>?_⟩;rw[Rk En];have tA:Zj H1 (upd H1 pe (.dK (n1.map λx=>((aN x:Key),V.bl true)))):=Zj.new hpe;have dA:DI (upd H1 pe (.dK (n1.map λx=>((aN x:Key),V.bl true)))) pe n1:=⟨_,Za,by rw[ij];rfl⟩;generalize upd H1 pe (.dK (n1.map λx=>((aN x:Key),V.bl true)))=H2 at tA dA ⊢;have sA:=sA.trans tA;have h2:=sA _ _ h2;refine⟨_,rfl,p2,rfl,⟨_,az.of h2⟩,λpm dH=>HB (K:=K) (a:=p2) (p:=pm) (xs:=n2.map V.int) (λj us σ H1=>∃v0:Option V,σ =[v0]/\Zj H2 H1/\H1 pm=some (.lst us)/\ck (λ(y:V)(kv:Key×V)=>∃t,y=.ref t/\H1 t=some (.tup [kV kv.1,kv.2])) us ((n2.take j).map λx=>((aN x:Key),V.bl true)))
  ⟨none,rfl,Zj.new dH,Za,.nil⟩ ?_ ?_ ?_⟩
 .rintro j us σ H1 _ ⟨_,_,sm,h,_⟩;exact⟨az.of (sm _ _ h2),h⟩
 .rintro j us x σ H1 hj hx ⟨v0,rfl,sm,h,hP⟩;rw[bM] at hx;obtain⟨y,hy,rfl⟩:=gB.mp hx;refine⟨_,rfl,by show(2:Nat)<=sizeLine;decide,λt ht=>?_⟩;have t1:Zj H1 (upd H1 t (.tup [.int y,.bl true])):=Zj.new ht;refine⟨t1 _ _ h,lj (by rw[dz hP,aF,gX];lia),CW.next hj ⟨_,rfl,(sm.trans t1).du dH,Za,?_⟩⟩
  rw[Zq hy,eN];exact sU (Q7 t1 h hP) ⟨t,rfl,jR (t1 _ _ h) _ _ Za⟩
 rintro us σ H1 ⟨v0,rfl,Ci,YV,hP⟩;rw[aF,d_] at hP;have JW:=dz hP;rw[aF] at JW;refine⟨pm,us,_,rfl,au.of YV,by lia,hP,λpf hpf=>?_⟩;rw[Rk xr];have tH:Zj H1 (upd H1 pf (.dK (n2.map λx=>((aN x:Key),V.bl true)))):=Zj.new hpf;have NM:DI (upd H1 pf (.dK (n2.map λx=>((aN x:Key),V.bl true)))) pf n2:=⟨_,Za,by rw[ij];rfl⟩;generalize upd H1 pf (.dK (n2.map λx=>((aN x:Key),V.bl true)))=H3 at tH NM ⊢;have Ci:=Ci.trans tH;have dA:=dA.same Ci;have s3:=sA.trans Ci;obtain⟨dx,g1,g2,d,m,k1,k2,k3,k4,k5⟩:=hK.same s3;refine⟨_,rfl,a,C,dx,_,_,rfl,k1,c.cls,c.nb,rfl,d,rfl,.inl ⟨m,.inl k4⟩,_,rfl,by decide,λl0 dq=>?_⟩;have t4:Zj H3 (upd H3 l0 (.lst [])):=Zj.new dq;have e4:(upd H3 l0 (.lst [])) l0=some (.lst []):=Za;generalize upd H3 l0 (.lst [])=H4 at t4 e4 ⊢;obtain⟨r,zr,oo,r8,KN⟩:∃r zr,(bz m (fN wd)).getD (.ref l0)=.ref r/\H4 r=some (.lst zr)/\QL H4 zr (fm.qs.filter λq=>decide (q.2.1=wd)):=by
  rcases k5.1 wd with⟨h1,h2⟩|⟨l,zl,h1,h2,h3⟩
  .exact⟨l0,[],by rw[h1];rfl,e4,by rw[h2];exact .nil⟩
  .exact⟨l,zl,by rw[h1];rfl,t4 _ _ h2,h3.keep λb xs e=>t4 _ _ e⟩
 have hfl:(fm.qs.filter λq=>decide (q.2.1=wd)).length<=63:=cz (Bz ..) l3;refine⟨_,mv.k (k:=fN wd) (t4 _ _ k4),?_⟩;rw[oo];refine⟨_,rfl,_,rfl,r,pe,pf,zr,_,n1,n2,rfl,r8,KN,by lia,dA.same t4,NM.same t4,?_⟩;rintro dk ns H5 t5 Ka ⟨mk,j1,j2⟩ Ky dY;have hmk:mk.length=ns.length:=by have:=congrArg oU j2;simpa using this
 refine⟨dk,mk,ns,rfl,j1,by lia,j2,λr6 ms hr6 eM Zzt=>⟨r6,_,rfl,.inl ⟨au.of Za,λu6 hu6=>?_⟩⟩⟩;refine q u6 ms _ (((s3.trans t4).trans t5).trans ((Zj.new hr6).trans (Zj.new hu6))) Za ⟨Zzt,by rw[eM.length_eq];lia,λx=>?_⟩;rw[eM.mem_iff,dY];constructor
 .rintro⟨q1,hq,e1,e2⟩;obtain⟨g1,g2⟩:=fA.mp hq;exact⟨q1,g1,e1,bC g2,e2⟩
 .rintro⟨q1,hq,e1,e2,e3⟩;exact⟨q1,fA.mpr ⟨hq,aJ e2⟩,e1,e3⟩
theorem O4:∀{xs ys zs:List Str},xs.length=ys.length->ys.length=zs.length->fH xs ys=true->fH ys zs=true->fH xs zs=true
 | [],[],_,_,_,h,_=>by
  unfold fH at h;cases h
 | [],_::_,_,h,_,_,_=>by simp at h
 | _::_,[],_,h,_,_,_=>by simp at h
 | _::_,_::_,[],_,h,_,_=>by simp at h
 | x::xs,y::ys,z::zs,h1,h2,k1,k2=>by
  rw[fH] at k1 k2 ⊢;by_cases e1:x=y
  .subst e1;rw[ao rfl] at k1;by_cases e2:x=z
   .rw[ao e2] at k2 ⊢;exact O4 (by simpa using h1) (by simpa using h2) k1 k2
   .rw[ai e2] at k2 ⊢;exact k2
  .rw[ai e1] at k1;have l1:=bC k1;by_cases e2:y=z
   .subst e2;rw[ai e1];exact k1
   .rw[ai e2] at k2;have l2:=bC k2;have l3:=WK l1 l2;rw[ai (λe=>by subst e;exact WJ _ l3)];exact aJ l3
variable{zs xs ys:List Str}
theorem ZhL(h1:a_ xs ys=true)(h2:a_ ys zs=true):a_ xs zs=true:=by
 unfold a_ at *;by_cases e1:xs.length=ys.length
 .rw[ao e1] at h1;by_cases e2:ys.length=zs.length
  .rw[ao e2] at h2;rw[ao (e1.trans e2)];exact O4 e1 e2 h1 h2
  .rw[ai e2] at h2;have:=bC h2;rw[ai (by lia)];exact aJ (by lia)
 .rw[ai e1] at h1;have:=bC h1;by_cases e2:ys.length=zs.length
  .rw[ai (by lia)];exact aJ (by lia)
  .rw[ai e2] at h2;have:=bC h2;rw[ai (by lia)];exact aJ (by lia)
theorem qW(xs:List Str):a_ xs xs=false:=by
 unfold a_;rw[ao rfl];exact CQ xs
theorem Zjq(h1:a_ xs ys=false)(h2:a_ ys xs=false):xs=ys:=by
 by_cases e:xs=ys
 .exact e
 .have:=C5 e;rw[h1,h2] at this;cases this
theorem Ig(h:ys.length<xs.length):a_ xs ys=false:=by
 unfold a_;rw[ai (by lia)];exact bt (by lia)
theorem CC(h1:a_ xs ys=false)(h2:a_ ys zs=false):a_ xs zs=false:=by
 cases e:a_ xs zs with
 | false=>rfl
 | true =>
  by_cases e2:xs=ys
  .subst e2;rw[h2] at e;cases e
  .have h3:=C5 e2;rw[h1] at h3;have h4:a_ ys xs=true:=by
    cases z:a_ ys xs with
    | true=>rfl
    | false=>rw[z] at h3;cases h3
   rw[ZhL h4 e] at h2;cases h2
abbrev Pk:=ax.Pk
abbrev Wd:=List Str
open Classical in
noncomputable def sy(f:FQ)(w:Str)(n1 n2:List Int):List Int:=if h:∃ks,nE f w n1 n2 ks then h.choose else []
theorem nE.one{f:FQ}{w:Str}{n1 n2 a b:List Int}(h1:nE f w n1 n2 a)(h2:nE f w n1 n2 b):a=b:=PY h1.1 h2.1 λx=>(h1.2.2 x).trans (h2.2.2 x).symm
variable{n1 n2:List Int}
theorem zE{f:FQ}{w:Str}{ks:List Int}(h:nE f w n1 n2 ks):sy f w n1 n2=ks:=by
 unfold sy;rw[dif_pos ⟨ks,h⟩];exact(Mo (⟨ks,h⟩:∃ks,nE f w n1 n2 ks)).one h
noncomputable def aL(f:FQ)(q:ax.Qd)(a b:Pk):Pk:=(q.1,sy f q.2.1 a.2 b.2)
def bj(q:ax.Qd)(wa wb:Wd):Wd:=q.2.1::(wa++SL::wb)
theorem pG(q:ax.Qd)(wa wb:Wd):(bj q wa wb).length=2+wa.length+wb.length:=by
 unfold bj;simp;lia
structure Gs where
 sl:List (Pk×Wd)
 tl:List (Pk×Wd)
 bl:List Pk
 st:List (Pk×Str×Pk×Pk)
 ak:List Pk
section
variable{α : Type}
def aT(l:List (Pk × α))(p:Pk):Option α := (l.find? λx=>decide (x.1=p)).map (·.2)
def bE(l:List (Pk × α))(p:Pk)(w : α):List (Pk × α):=if(l.find? λx=>decide (x.1=p)).isSome then l.map (λx=>if x.1=p then(x.1,w) else x) else l ++ [(p,w)]
def pK(l:List (Pk × α))(p:Pk):List (Pk × α):=l.eraseIdx (l.findIdx λx=>decide (x.1=p))
end
def nY(new:Wd):Option Wd->Wd
 | none=>new
 | some old=>if a_ old new=true then old else new
def ly(l:List Pk)(p:Pk):List Pk:=if p∈l then l else l ++ [p]
noncomputable def cQ(f:FQ)(q:ax.Qd)(a b:Pk)(wa wb:Wd)(g:Gs):Gs :=
 if(aT g.sl (aL f q a b)).isSome then { g with st:=g.st ++ [(aL f q a b,q.2.1,a,b)] }
 else if 600<2+wa.length+wb.length then { g with st:=g.st ++ [(aL f q a b,q.2.1,a,b)],bl:=ly g.bl (aL f q a b) }
 else { g with st:=g.st ++ [(aL f q a b,q.2.1,a,b)],tl:=bE g.tl (aL f q a b) (nY (bj q wa wb) (aT g.tl (aL f q a b))) }
variable{q:ax.Qd}{b:Pk}{wa wb:Wd}{g:Gs}
theorem zh{f:FQ}{a:Pk}:(cQ f q a b wa wb g).sl=g.sl:=by
 unfold cQ
 split
 .rfl
 .split <;> rfl
theorem y_{f:FQ}{a:Pk}:(cQ f q a b wa wb g).st=g.st ++ [(aL f q a b,q.2.1,a,b)]:=by
 unfold cQ
 split
 .rfl
 .split <;> rfl
theorem Zln{f:FQ}{a:Pk}:(cQ f q a b wa wb g).ak=g.ak:=by
 unfold cQ
 split
 .rfl
 .split <;> rfl
section
variable{α : Type}
variable{p:Pk}
theorem nG{l:List (Pk × α)}{w : α}(h:aT l p=some w):(p,w)∈l:=by
 obtain⟨x,hx,rfl⟩:=gB.mp h;have h1:x.1=p:=bC (MB (p:=λy:Pk × α=>decide (y.1=p)) hx);have h2:=WN hx;rw[<- h1];exact h2
theorem Zk{l:List (Pk × α)}(nd:(l.map (·.1)).Nodup){p:Pk}{w : α}(h:(p,w)∈l):aT l p=some w:=by
 induction l with
 | nil=>cases h
 | cons x xs ih =>
  rw[b8,gY] at nd;unfold aT;rcases a8.mp h with e|e
  .subst e;rw[oR (by simp)];rfl
  .have aY:x.1≠p:=λz=>nd.1 (by rw[z];exact aX.mpr ⟨_,e,rfl⟩);rw[oQ (by simpa using aY)];exact ih nd.2 e
theorem t7{l:List (Pk × α)}{w : α}{x:Pk × α}:x∈bE l p w->(x∈l/\x.1≠p)\/x=(p,w):=by
 intro h;unfold bE at h
 split at h
 .obtain⟨y,hy,e⟩:=aX.mp h
  split at e
  .rename_i e2
   exact .inr (by rw[<- e,e2])
  .rename_i e2
   rw[<- e];exact .inl ⟨hy,e2⟩
 .rename_i hn
  rcases bV.mp h with h|h
  .refine .inl ⟨h,λz=>hn ?_⟩;rw[yf];exact⟨x,h,aJ z⟩
  .exact .inr (aI.mp h)
theorem t_{l:List (Pk × α)}{w : α}:(p,w)∈bE l p w:=by
 unfold bE
 split
 .rename_i h
  obtain⟨y,hy,e⟩:=yf.mp h;exact aX.mpr ⟨y,hy,by rw[ao (bC e),bC e]⟩
 .exact cj _ (aI.mpr rfl)
theorem wq{l:List (Pk × α)}{w : α}{x:Pk × α}(h:x∈l)(aY:x.1≠p):x∈bE l p w:=by
 unfold bE
 split
 .exact aX.mpr ⟨x,h,by rw[ai aY]⟩
 .exact dN _ h
theorem ww(l:List (Pk × α))(p:Pk)(w : α):(bE l p w).map (·.1)=ly (l.map (·.1)) p:=by
 unfold bE ly;have e:((l.find? λx=>decide (x.1=p)).isSome=true)↔p∈l.map (·.1):=by
  rw[yf];constructor
  .rintro⟨x,h1,h2⟩;exact aX.mpr ⟨x,h1,bC h2⟩
  .intro h;obtain⟨x,h1,h2⟩:=aX.mp h;exact⟨x,h1,aJ h2⟩
 by_cases h:p∈l.map (·.1)
 .rw[ao (e.mpr h),ao h,ij];refine BC λx _=>?_;show(if x.1=p then(x.1,w) else x).1=x.1
  split <;> rfl
 .rw[ai (λz=>h (e.mp z)),ai h,eN];rfl
variable{l:List Pk}
theorem Cy(h:l.Nodup):(ly l p).Nodup:=by
 unfold ly
 split
 .exact h
 .rename_i hn
  exact BD.mpr ⟨h,(by simp),λa ha b hb e=>hn (by rw[<- aI.mp hb,<- e];exact ha)⟩
theorem CH{x:Pk}:x∈ly l p↔x∈l\/x=p:=by
 unfold ly
 split
 .rename_i h
  exact⟨.inl,λz=>z.elim id λe=>e ▸ h⟩
 .rw[bV,aI]
theorem P'(l:List Pk)(p:Pk):(ly l p).length<=l.length+1:=by
 unfold ly
 split
 .lia
 .rw[cw];exact aD _
theorem ZkD(l:List (Pk × α))(p:Pk)(w : α):(bE l p w).length<=l.length+1:=by
 have:=congrArg oU (ww l p w);rw[aF] at this;rw[this];have:=P' (l.map (·.1)) p
 rwa [aF] at this
theorem He{l:List (Pk × α)}{w : α}(h:aT l p=some w):l.Perm ((p,w)::pK l p):=by
 induction l with
 | nil=>cases h
 | cons x xs ih =>
  unfold aT at h;unfold pK at ih ⊢;by_cases e:x.1=p
  .rw[oR (by simpa using e)] at h;obtain rfl:x.2=w:=by injection h
   rw[yg,aJ e];subst e;exact .refl _
  .rw[oQ (by simpa using e)] at h;rw[yg,bt e];show(x::xs).Perm ((p,w)::x::xs.eraseIdx (xs.findIdx λx=>decide (x.1=p)));exact((ih h).cons x).trans (.swap ..)
end
def Made(ts:List Int)(qs:List ax.Qd)(f:FQ)(S:List (Pk×Wd))(e:Pk×Wd):Prop:=(∃k∈ts,e=((k,f.ts),[]))\/∃q∈qs,∃a wa b wb,(a,wa)∈S/\(b,wb)∈S/\a.1=q.2.2.1/\b.1=q.2.2.2/\e=(aL f q a b,bj q wa wb)
variable{ts:List Int}{qs:List ax.Qd}{S:List (Pk×Wd)}
theorem Made.mono{f:FQ}{S':List (Pk×Wd)}{e:Pk×Wd}(h:Made ts qs f S e)(s:∀x∈S,x∈S'):Made ts qs f S' e:=by
 rcases h with h|⟨q,hq,a,wa,b,wb,h1,h2,r⟩
 .exact .inl h
 .exact .inr ⟨q,hq,a,wa,b,wb,s _ h1,s _ h2,r⟩
def tJ(g:Gs)(p:Pk)(w:Wd):Prop:=(∃v,(p,v)∈g.sl/\a_ w v=false)\/(∃v,(p,v)∈g.tl/\a_ w v=false)\/(600<w.length/\p∈g.bl)
def gg(f:FQ)(g:Gs)(q:ax.Qd)(a:Pk)(wa:Wd)(b:Pk)(wb:Wd):Prop:=tJ g (aL f q a b) (bj q wa wb)/\(aL f q a b,q.2.1,a,b)∈g.st
structure GI(ts:List Int)(qs:List ax.Qd)(f:FQ)(g:Gs):Prop where
 nd:((g.sl++g.tl).map (·.1)).Nodup
 len:∀e∈g.sl++g.tl,e.2.length<=600
 sk:∀i e,g.sl[i]?= some e->Made ts qs f (g.sl.take i) e
 EO:∀e∈g.tl,Made ts qs f g.sl e
 fin:∀k∈ts,((k,f.ts),[])∈g.sl++g.tl
 xH:∀p∈g.bl,∃q∈qs,∃a wa b wb,(a,wa)∈g.sl/\(b,wb)∈g.sl/\a.1=q.2.2.1/\b.1=q.2.2.2/\p=aL f q a b/\600<(bj q wa wb).length
 xQ:g.tl.length+g.bl.length<=g.st.length+ts.length
 vm:∀x∈g.st,∃q∈qs,∃a wa b wb,(a,wa)∈g.sl/\(b,wb)∈g.sl/\a.1=q.2.2.1/\b.1=q.2.2.2/\x=(aL f q a b,q.2.1,a,b)
def Ord(g:Gs):Prop := ∀e∈g.sl,∀t∈g.tl,e.2.length<=t.2.length
theorem CU(new old:Wd):nY new (some old)=if a_ old new=true then old else new:=rfl
theorem Zmk(new:Wd)(o:Option Wd):nY new o=new\/o=some (nY new o):=by
 cases o with
 | none=>exact .inl rfl
 | some old =>
  rw[CU]
  split
  .exact .inr rfl
  .exact .inl rfl
theorem Zmu(new:Wd)(o:Option Wd):a_ new (nY new o)=false:=by
 cases o with
 | none=>exact qW _
 | some old =>
  rw[CU]
  split
  .rename_i h
   by_cases e:new=old
   .subst e;exact qW _
   .rw[C5 e,h];rfl
  .exact qW _
theorem Zlm{new old w:Wd}(h:a_ w old=false):a_ w (nY new (some old))=false:=by
 rw[CU]
 split
 .exact h
 .rename_i h2
  exact CC h (VT.mpr h2)
section
variable{ts:List Int}{qs:List ax.Qd}{f:FQ}{g:Gs}{q:ax.Qd}{a b:Pk}{wa wb:Wd}
variable{l:List (Pk×Wd)}
theorem Z8{m:List (Pk×Wd)}(h:((l++m).map (·.1)).Nodup):(l.map (·.1)).Nodup/\(m.map (·.1)).Nodup/\∀x∈l,∀y∈m,x.1≠y.1:=by
 rw[eN,BD] at h;exact⟨h.1,h.2.1,λx hx y hy=>h.2.2 _ (aX.mpr ⟨x,hx,rfl⟩) _ (aX.mpr ⟨y,hy,rfl⟩)⟩
theorem CJ{x:Pk×Wd}(h:x∈(cQ f q a b wa wb g).tl):(x∈g.tl)\/(x=(aL f q a b,bj q wa wb)/\(bj q wa wb).length<=600):=by
 unfold cQ at h
 split at h
 .exact .inl h
 .split at h
  .exact .inl h
  .rename_i hl
   rcases t7 h with⟨h,_⟩|h
   .exact .inl h
   .rcases Zmk (bj q wa wb) (aT g.tl (aL f q a b)) with e|e
    .rw[e] at h;exact .inr ⟨h,by rw[pG];lia⟩
    .rw[h];exact .inl (nG e)
theorem ZlC(h:GI ts qs f g)(hq:q∈qs)(ha:(a,wa)∈g.sl)(hb:(b,wb)∈g.sl)(e1:a.1=q.2.2.1)(e2:b.1=q.2.2.2):GI ts qs f (cQ f q a b wa wb g):=by
 have gk:=zh (f:=f) (q:=q) (a:=a) (b:=b) (wa:=wa) (wb:=wb) (g:=g);have Sy:=y_ (f:=f) (q:=q) (a:=a) (b:=b) (wa:=wa) (wb:=wb) (g:=g);obtain⟨n1,n2,n3⟩:=Z8 h.nd;refine⟨?_,λe he=>?_,λi e he=>?_,λe he=>?_,λk hk=>?_,λp hp=>?_,?_,λx hx=>?_⟩
 .unfold cQ
  split
  .exact h.nd
  .rename_i j_
   split
   .exact h.nd
   .rw[eN,BD];refine⟨n1,by rw[ww];exact Cy n2,λx hx y hy=>?_⟩;rw[ww] at hy;rcases CH.mp hy with hy|hy
    .obtain⟨x',yK,rfl⟩:=aX.mp hx;obtain⟨y',GF,rfl⟩:=aX.mp hy;exact n3 x' yK y' GF
    .rw[hy];rintro rfl;obtain⟨x',yK,e⟩:=aX.mp hx;refine j_ ?_;rw[<- e,Zk n1 (show(x'.1,x'.2)∈g.sl from yK)];rfl
 .rcases bV.mp he with he|he
  .rw[gk] at he;exact h.len e (dN _ he)
  .rcases CJ he with he|⟨rfl,hl⟩
   .exact h.len e (cj _ he)
   .exact hl
 .rw[gk] at he ⊢;exact h.sk i e he
 .rw[gk];rcases CJ he with he|⟨rfl,hl⟩
  .exact h.EO e he
  .exact .inr ⟨q,hq,a,wa,b,wb,ha,hb,e1,e2,rfl⟩
 .rw[gk];rcases bV.mp (h.fin k hk) with he|he
  .exact dN _ he
  .refine cj _ ?_;unfold cQ
   split
   .exact he
   .split
    .exact he
    .by_cases e:(k,f.ts)=aL f q a b
     .rw[<- e,Zk n2 he];have:nY (bj q wa wb) (some [])=[]:=by
       rw[CU,ao];unfold a_;rw[pG,ai (by simp only[vz];lia)];exact aJ (by simp only[vz];lia)
      rw[this];exact t_
     .exact wq he e
 .rw[gk];unfold cQ at hp
  split at hp
  .exact h.xH p hp
  .split at hp
   .rename_i hl
    rcases CH.mp hp with hp|hp
    .exact h.xH p hp
    .exact⟨q,hq,a,wa,b,wb,ha,hb,e1,e2,hp,by rw[pG];exact hl⟩
   .exact h.xH p hp
 .rw[Sy,cw,sO];have:=h.xQ;unfold cQ
  split
  .dsimp only;lia
  .split
   .have:=P' g.bl (aL f q a b);dsimp only;lia
   .have:=ZkD g.tl (aL f q a b) (nY (bj q wa wb) (aT g.tl (aL f q a b)));dsimp only;lia
 .rw[gk];rw[Sy] at hx;rcases bV.mp hx with hx|hx
  .exact h.vm x hx
  .exact⟨q,hq,a,wa,b,wb,ha,hb,e1,e2,aI.mp hx⟩
theorem ZjI(h:GI ts qs f g)(hl:∀e∈g.sl,e.2.length<(bj q wa wb).length):gg f (cQ f q a b wa wb g) q a wa b wb:=by
 refine⟨?_,by rw[y_];exact cj _ (aI.mpr rfl)⟩;unfold cQ
 split
 .rename_i hs
  obtain⟨v,hv⟩:=BI.mp hs;have hm:=nG hv;exact .inl ⟨v,hm,Ig (hl _ hm)⟩
 .split
  .rename_i iD
   exact .inr (.inr ⟨by rw[pG];exact iD,CH.mpr (.inr rfl)⟩)
  .exact .inr (.inl ⟨_,t_,Zmu _ _⟩)
theorem O3(h:GI ts qs f g){p:Pk}{w:Wd}(c:tJ g p w):tJ (cQ f q a b wa wb g) p w:=by
 obtain⟨n1,n2,n3⟩:=Z8 h.nd;rcases c with⟨v,h1,h2⟩|⟨v,h1,h2⟩|⟨h1,h2⟩
 .exact .inl ⟨v,by rw[zh];exact h1,h2⟩
 .refine .inr (.inl ?_);unfold cQ
  split
  .exact⟨v,h1,h2⟩
  .split
   .exact⟨v,h1,h2⟩
   .by_cases e:p=aL f q a b
    .subst e;rw[Zk n2 h1];exact⟨_,t_,Zlm h2⟩
    .exact⟨v,wq h1 e,h2⟩
 .refine .inr (.inr ⟨h1,?_⟩);unfold cQ
  split
  .exact h2
  .split
   .exact CH.mpr (.inl h2)
   .exact h2
theorem Zgi(h:GI ts qs f g){q':ax.Qd}{a' b':Pk}{kU kX:Wd}(c:gg f g q' a' kU b' kX):gg f (cQ f q a b wa wb g) q' a' kU b' kX :=
 ⟨O3 h c.1,by rw[y_];exact dN _ c.2⟩
theorem Zkg(h:Ord g)(hl:∀e∈g.sl,e.2.length<(bj q wa wb).length):Ord (cQ f q a b wa wb g):=by
 intro e he t ht;rw[zh] at he;rcases CJ ht with ht|⟨rfl,_⟩
 .exact h e he t ht
 .exact ji (hl e he)
def jz(g:Gs)(p:Pk)(w:Wd):Gs:={ g with sl:=g.sl ++ [(p,w)],tl:=pK g.tl p }
theorem Hl{p:Pk}{w:Wd}(h:aT l p=some w){x:Pk×Wd}:x∈l↔x=(p,w)\/x∈pK l p:=by
 rw[(He h).mem_iff,a8]
theorem Rb(h:GI ts qs f g){p:Pk}{w:Wd}(hp:aT g.tl p=some w):GI ts qs f (jz g p w):=by
 have pm:=He hp;have eM:((g.sl ++ [(p,w)])++pK g.tl p).Perm (g.sl++g.tl):=by
  rw[oP];exact Mv _ pm.symm
 have gQ:∀x∈g.sl,x∈g.sl ++ [(p,w)]:=λx hx=>dN _ hx;refine⟨((eM.map _).nodup_iff).mpr h.nd,λe he=>h.len e (eM.mem_iff.mp he),λi e he=>?_,λe he=>(h.EO e ((Hl hp).mpr (.inr he))).mono gQ,λk hk=>eM.mem_iff.mpr (h.fin k hk),λb hb=>?_,?_,λx hx=>?_⟩
 .show Made ts qs f ((g.sl ++ [(p,w)]).take i) e;have he:(g.sl ++ [(p,w)])[i]?= some e:=he;by_cases hi:i<g.sl.length
  .rw[FA hi] at he;rw[WS (ji hi)];exact h.sk i e he
  .rw[Bx (by lia)] at he;have xm:i=g.sl.length:=by
    have:=(de.mp he).1;simp at this;lia
   subst xm;rw[W4] at he;injection he with he;subst he;rw[WS (aD _),d_];exact h.EO _ (nG hp)
 .obtain⟨q,hq,a,wa,b',wb,h1,h2,r⟩:=h.xH b hb;exact⟨q,hq,a,wa,b',wb,gQ _ h1,gQ _ h2,r⟩
 .have:=h.xQ;have:=pm.length_eq;rw[bB] at this;show(pK g.tl p).length+g.bl.length<=_;show _<=g.st.length+ts.length;lia
 .obtain⟨q,hq,a,wa,b',wb,h1,h2,r⟩:=h.vm x hx;exact⟨q,hq,a,wa,b',wb,gQ _ h1,gQ _ h2,r⟩
theorem ZiY{p:Pk}{w:Wd}(hp:aT g.tl p=some w){p':Pk}{w':Wd}(c:tJ g p' w'):tJ (jz g p w) p' w':=by
 rcases c with⟨v,h1,h2⟩|⟨v,h1,h2⟩|⟨h1,h2⟩
 .exact .inl ⟨v,dN _ h1,h2⟩
 .rcases(Hl hp).mp h1 with e|e
  .injection e with e1 e2;subst e1 e2;exact .inl ⟨_,cj _ (aI.mpr rfl),h2⟩
  .exact .inr (.inl ⟨v,e,h2⟩)
 .exact .inr (.inr ⟨h1,h2⟩)
theorem Zlq(h:Ord g){p:Pk}{w:Wd}(hp:aT g.tl p=some w)(uP:∀t∈g.tl,w.length<=t.2.length):Ord (jz g p w):=by
 intro e he t ht;have NS:=(Hl hp).mpr (.inr ht);rcases bV.mp he with he|he
 .exact h e he t NS
 .rw[aI.mp he];exact uP t NS
def nK(S:List (Pk×Wd))(k:Int):Nat:=(S.filter λx=>decide (x.1.1=k)).length
def cnt(S:List (Pk×Wd))(qs:List ax.Qd):Nat:=(qs.map λq=>nK S q.2.2.1*nK S q.2.2.2).sum
theorem Qx(S:List (Pk×Wd))(p:Pk)(w:Wd)(k:Int):nK (S ++ [(p,w)]) k=nK S k+if p.1=k then 1 else 0:=by
 unfold nK;rw[yd,cw]
 congr 1
 split
 .rename_i h
  rw[Fz (by simpa using h)];rfl
 .rename_i h
  rw[Fy (by simpa using h)];rfl
theorem ZkU(S:List (Pk×Wd))(qs:List ax.Qd)(q:ax.Qd):cnt S (qs ++ [q])=cnt S qs+nK S q.2.2.1*nK S q.2.2.2:=by
 unfold cnt;rw[eN,MN];simp
theorem II{S:List (Pk×Wd)}{n:Nat}(h:∀k,nK S k<=n):∀qs,cnt S qs<=qs.length*(n*n)
 | []=>by simp[cnt]
 | q::qs=>by
  have:=II h qs;unfold cnt at this ⊢;rw[b8,FI,bB];have:=FO (h q.2.2.1) (h q.2.2.2);rw[Nat.succ_mul];lia
end
structure vZ(K:ay)(C:Addr):Prop where
 cls:iu K C
 n1:iw K C "rules"
 n2:iw K C "measure"
 n3:iw K C "words"
 n4:iw K C "at_kind"
 n5:iw K C "steps"
 n6:iw K C "waiting"
 n7:iw K C "beyond"
structure Gd where
 a:Addr
 dx:Addr
 r:Addr
 m:Addr
 dw:Addr
 da:Addr
 ls:Addr
 dt:Addr
 db:Addr
 zr:List V
 mm:List (Key×V)
 kw:List (ZQ×Addr×V)
 ml:List Addr
def JM(d:Gd):List (Str×V):=[("rules",.ref d.r),("measure",.ref d.m),("words",.ref d.dw),("at_kind",.ref d.da),("steps",.ref d.ls),("waiting",.ref d.dt),("beyond",.ref d.db)]
def bA(H:Hp)(ml:List Addr)(ae:List (ZQ×Addr×V))(l:List (Pk×Wd)):Prop:=ck (λx e=>x.1=pk e.1/\∃c,x.2.2=V.ref c/\H c=some (.lst (e.2.map V.str))/\c∉ml) ae l
variable{ml:List Addr}
theorem bA.keep{ml':List Addr}:∀{ae:List (ZQ×Addr×V)}{l:List (Pk×Wd)},bA H ml ae l->(∀c ws,c∉ml->H c=some (.lst ws)->H' c=some (.lst ws)/\c∉ml')->bA H' ml' ae l:=by
 intro ae l h k;refine ck.kl h λ_ _ z=>?_;obtain⟨h1,c,h2,h3,h4⟩:=z;exact⟨h1,c,h2,(k _ _ h4 h3).1,(k _ _ h4 h3).2⟩
theorem bA.length{H:Hp}{ml:List Addr}{ae:List (ZQ×Addr×V)}{l:List (Pk×Wd)}(h:bA H ml ae l):ae.length=l.length:=dz h
theorem bA.keys{H:Hp}{ml:List Addr}:∀{ae:List (ZQ×Addr×V)}{l:List (Pk×Wd)},bA H ml ae l->ae.map (·.1)=l.map λe=>pk e.1
 | _,_,.nil=>rfl
 | _,_,.cons h t=>by rw[b8,b8,bA.keys t,h.1]
theorem bA.val{H:Hp}{ml:List Addr}(p:Pk):∀{ae:List (ZQ×Addr×V)}{l:List (Pk×Wd)},bA H ml ae l->(aT l p=none/\valN ae (pk p)=none)\/∃w c,aT l p=some w/\valN ae (pk p)=some (.ref c)/\H c=some (.lst (w.map V.str))/\c∉ml
 | _,_,.nil=>.inl ⟨rfl,rfl⟩
 | x::ae,e::l,.cons ⟨h1,c,h2,h3,h4⟩ t=>by
  by_cases z:e.1=p
  .refine .inr ⟨e.2,c,?_,?_,h3,h4⟩
   .unfold aT;rw[oR (by simpa using z)];rfl
   .unfold valN;rw[oR (by rw[h1,z];simp)];rw[<- h2];rfl
  .have e1:aT (e::l) p=aT l p:=by
    unfold aT;rw[oQ (by simpa using z)]
   have e2:valN (x::ae) (pk p)=valN ae (pk p):=by
    unfold valN;rw[oQ (by rw[h1];exact λy=>z (ro (bC y)))]
   rw[e1,e2];exact bA.val p t
variable{b:Addr}
theorem bA.ne(hb:H b=none):∀{ae:List (ZQ×Addr×V)}{l:List (Pk×Wd)},bA H ml ae l->∀x∈ae,x.2.2 ≠ .ref b:=by
 intro ae l h x hx z;obtain⟨e,_,_,c,h2,h3,_⟩:=ck.Lw h hx;rw[h2] at z;injection z with z;rw[z,hb] at h3;cases h3
theorem bA.get:∀{ae:List (ZQ×Addr×V)}{l:List (Pk×Wd)},bA H ml ae l->∀(i:Nat) x,ae[i]?= some x->∃e,l[i]?= some e/\x.1=pk e.1/\∃c,x.2.2=V.ref c/\H c=some (.lst (e.2.map V.str))/\c∉ml:=λh i x hx=>ck.z8 h hx
variable{p:Pk}{ae:List (ZQ×Addr×V)}{l:List (Pk×Wd)}
theorem ZkE(h:bA H ml ae l):(ae.find? λx=>decide (x.1=pk p)).isSome=(l.find? λx=>decide (x.1=p)).isSome:=by
 have e1:(valN ae (pk p)).isSome=(ae.find? λx=>decide (x.1=pk p)).isSome:=by unfold valN;rw[qH]
 have e2:(aT l p).isSome=(l.find? λx=>decide (x.1=p)).isSome:=by unfold aT;rw[qH]
 rw[<- e1,<- e2];rcases h.val p with⟨h1,h2⟩|⟨w,c,h1,h2,_⟩
 .rw[h1,h2];rfl
 .rw[h1,h2];rfl
variable{c:Addr}
theorem bA.snoc{w:Wd}(hc:H c=some (.lst (w.map V.str)))(hm:c∉ml):∀{ae:List (ZQ×Addr×V)}{l:List (Pk×Wd)},bA H ml ae l->bA H ml (ae ++ [(pk p,b,.ref c)]) (l ++ [(p,w)]):=λh=>sU h ⟨rfl,c,rfl,hc,hm⟩
theorem bA.put{w:Wd}(h:bA H ml ae l)(hc:H c=some (.lst (w.map V.str)))(hm:c∉ml):bA H ml (putN ae (pk p) b (.ref c)) (bE l p w):=by
 unfold putN bE;rw[ZkE h]
 split
 .rename_i hs
  clear hs
  induction h with
  | nil=>exact .nil
  | @cons x e ae l r t ih =>
   refine .cons ?_ ih;by_cases z:e.1=p
   .show(if x.1=pk p then(x.1,x.2.1,V.ref c) else x).1=pk (if e.1=p then(e.1,w) else e).1/\∃c',(if x.1=pk p then(x.1,x.2.1,V.ref c) else x).2.2=V.ref c'/\H c'=some (.lst ((if e.1=p then(e.1,w) else e).2.map V.str))/\c'∉ml
    rw[ao z,ao (by rw[r.1,z])];exact⟨r.1,c,rfl,hc,hm⟩
   .show(if x.1=pk p then(x.1,x.2.1,V.ref c) else x).1=pk (if e.1=p then(e.1,w) else e).1/\∃c',(if x.1=pk p then(x.1,x.2.1,V.ref c) else x).2.2=V.ref c'/\H c'=some (.lst ((if e.1=p then(e.1,w) else e).2.map V.str))/\c'∉ml
    rw[ai z,ai (by rw[r.1];exact λy=>z (ro y))];exact r
 .exact bA.snoc hc hm h
theorem bA.erase{H:Hp}{ml:List Addr}:∀{ae:List (ZQ×Addr×V)}{l:List (Pk×Wd)}(j:Nat),bA H ml ae l->bA H ml (ae.eraseIdx j) (l.eraseIdx j)
 | _,_,_,.nil=>.nil
 | _,_,0,.cons _ t=>t
 | _,_,j+1,.cons h t=>.cons h (bA.erase j t)
theorem bA.place{H:Hp}{ml:List Addr}{p:Pk}:∀{ae:List (ZQ×Addr×V)}{l:List (Pk×Wd)},bA H ml ae l->(ae.findIdx λx=>decide (x.1=pk p))=l.findIdx λx=>decide (x.1=p)
 | _,_,.nil=>rfl
 | x::ae,e::l,.cons h t=>by
  rw[yg,yg,bA.place t];by_cases z:e.1=p
  .rw[aJ z,aJ (by rw[h.1,z])]
  .rw[bt z,bt (by rw[h.1];exact λy=>z (ro y))]
theorem bA.drop(h:bA H ml ae l):bA H ml (jy ae (pk p)) (pK l p):=by
 unfold jy pK;rw[h.place];exact h.erase _
def Ck(H:Hp)(ml:List Addr)(ls:Addr)(m:List (Key×V))(ak:List Pk):Prop:=(∀k:Int,(bz m (aN k)=none/\(ak.filter λx=>decide (x.1=k))=[])\/∃l zs,bz m (aN k)=some (.ref l)/\H l=some (.lst zs)/\cp H zs (ak.filter λx=>decide (x.1=k))/\l∈ml/\l≠ls)/\∀k k' l,bz m (aN k)=some (.ref l)->bz m (aN k')=some (.ref l)->k=k'
theorem Ck.keep{H H':Hp}{ml:List Addr}{ls:Addr}{m:List (Key×V)}{ak:List Pk}(h:Ck H ml ls m ak)(k1:∀b xs,H b=some (.tup xs)->H' b=some (.tup xs))(k2:∀b xs,b≠ls->H b=some (.lst xs)->H' b=some (.lst xs)):Ck H' ml ls m ak:=⟨λk=>by
 rcases h.1 k with h1|⟨l,zs,h1,h2,h3,h4,h5⟩
 .exact .inl h1
 .exact .inr ⟨l,zs,h1,k2 _ _ h5 h2,h3.keep k1,h4,h5⟩,h.2⟩
def lZ(H:Hp)(zs:List V)(st:List (Pk×Str×Pk×Pk)):Prop:=ck (λz x=>∃t b a c,z=V.ref t/\H t=some (.tup [.ref b,.str x.2.1,.ref a,.ref c])/\aQ H b (pk x.1)/\aQ H a (pk x.2.2.1)/\aQ H c (pk x.2.2.2)) zs st
theorem lZ.keep(k:∀b xs,H b=some (.tup xs)->H' b=some (.tup xs)):∀{zs:List V}{st:List (Pk×Str×Pk×Pk)},lZ H zs st->lZ H' zs st:=by
 intro zs st h;refine ck.kl h λ_ _ z=>?_;obtain⟨t,b,a,c,h1,h2,h3,h4,h5⟩:=z;exact⟨t,b,a,c,h1,k _ _ h2,h3.mono k,h4.mono k,h5.mono k⟩
theorem lZ.snoc{x:Pk×Str×Pk×Pk}(h2:H t=some (.tup [.ref b,.str x.2.1,.ref a,.ref c]))(h3:aQ H b (pk x.1))(h4:aQ H a (pk x.2.2.1))(h5:aQ H c (pk x.2.2.2)):∀{zs:List V}{st:List (Pk×Str×Pk×Pk)},lZ H zs st->lZ H (zs ++ [.ref t]) (st ++ [x]):=λh=>sU h ⟨t,b,a,c,rfl,h2,h3,h4,h5⟩
theorem ZZ{P:aq}{w:ap}(h:b_ P w H a ae)(e:H' a=H a)(k:∀b xs,H b=some (.tup xs)->H' b=some (.tup xs)):b_ P w H' a ae:=⟨by rw[e];exact h.1,λx hx=>(h.2 x hx).mono k⟩
structure a9(P:aq)(w:ap)(C CM:Addr)(H0 H:Hp)(d:Gd)(qs:List ax.Qd)(f:FQ)(g:Gs):Prop where
 ins:H d.a=some (.ins C d.dx (JM d))
 qy:H0 d.r=some (.tup d.zr)
 oz:QL H0 d.zr qs
 so:gK CM H0 d.m f
 dI:b_ P w H d.dw d.kw
 jL:bA H d.ml d.kw g.sl
 fI:H d.da=some (.dK d.mm)
 iX:Ck H d.ml d.ls d.mm g.ak
 jf:∃kt,b_ P w H d.dt kt/\bA H d.ml kt g.tl
 iY:∃kb,b_ P w H d.db kb/\kb.map (·.1)=g.bl.map pk
 jK:∃zs,H d.ls=some (.lst zs)/\lZ H zs g.st
 jI:d.ls∈d.ml
 n1:d.dw≠d.dt
 n2:d.dw≠d.db
 n3:d.dt≠d.db
 old:Zj H0 H
 lK:∀b∈d.ml,∃xs,H b=some (.lst xs)
 sq:d.mm.length<=g.ak.length
 fr:∀b∈d.a::d.dw::d.da::d.dt::d.db::d.ml,H0 b=none
section
variable{P:aq}{w:ap}{C CM:Addr}{H0 H H':Hp}{d:Gd}{qs:List ax.Qd}{f:FQ}{g g':Gs}
def di(d:Gd)(H H':Hp):Prop := ∀b o,b≠d.ls->b≠d.dt->b≠d.db->H b=some o->H' b=some o
theorem di.trans{NK:Hp}(h:di d H H')(h':di d H' NK):di d H NK:=λb o a1 a2 a3 e=>h' b o a1 a2 a3 (h b o a1 a2 a3 e)
theorem di.of(s:Zj H H'):di d H H':=λb o _ _ _ e=>s b o e
theorem a9.fls(h:a9 P w C CM H0 H d qs f g):H0 d.ls=none:=h.fr _ (by simp[h.jI])
theorem a9.SK(h:a9 P w C CM H0 H d qs f g):H0 d.dt=none:=h.fr _ (by simp)
theorem a9.fdb(h:a9 P w C CM H0 H d qs f g):H0 d.db=none:=h.fr _ (by simp)
theorem a9.qp(h:a9 P w C CM H0 H d qs f g)(k:di d H H'):∀b xs,H b=some (.tup xs)->H' b=some (.tup xs):=by
 obtain⟨kt,t1,t2⟩:=h.jf;obtain⟨kb,b1,b2⟩:=h.iY;obtain⟨zs,s1,s2⟩:=h.jK;exact λb xs e=>k b _ (λz=>by rw[z,s1] at e;cases e) (λz=>by rw[z,t1.1] at e;cases e) (λz=>by rw[z,b1.1] at e;cases e) e
theorem a9.AX(h:a9 P w C CM H0 H d qs f g)(k:di d H H'):∀b xs,b≠d.ls->H b=some (.lst xs)->H' b=some (.lst xs):=by
 obtain⟨kt,t1,t2⟩:=h.jf;obtain⟨kb,b1,b2⟩:=h.iY;exact λb xs n e=>k b _ n (λz=>by rw[z,t1.1] at e;cases e) (λz=>by rw[z,b1.1] at e;cases e) e
theorem a9.move(h:a9 P w C CM H0 H d qs f g)(k:di d H H')(gk:g'.sl=g.sl)(Sn:g'.ak=g.ak)(t:∃kt,b_ P w H' d.dt kt/\bA H' d.ml kt g'.tl)(b:∃kb,b_ P w H' d.db kb/\kb.map (·.1)=g'.bl.map pk)(s:∃zs,H' d.ls=some (.lst zs)/\lZ H' zs g'.st):a9 P w C CM H0 H' d qs f g':=by
 obtain⟨kt,t1,t2⟩:=h.jf;obtain⟨kb,b1,b2⟩:=h.iY;obtain⟨zs,s1,s2⟩:=h.jK;have kT:=h.qp k;have kL:=h.AX k;have qu:∀b o,H b=some o->(∀xs,o ≠ .lst xs)->b≠d.ls:=λb o e n z=>by
  rw[z,s1] at e;injection e with e;exact n _ e.symm
 have qr:∀b o,H b=some o->(∀F,o ≠ .ext F)->b≠d.dt:=λb o e n z=>by
  rw[z,t1.1] at e;injection e with e;exact n _ e.symm
 have gS:∀b o,H b=some o->(∀F,o ≠ .ext F)->b≠d.db:=λb o e n z=>by
  rw[z,b1.1] at e;injection e with e;exact n _ e.symm
 refine⟨k _ _ (qu _ _ h.ins λ_ z=>nomatch z) (qr _ _ h.ins λ_ z=>nomatch z) (gS _ _ h.ins λ_ z=>nomatch z) h.ins,h.qy,h.oz,h.so,ZZ h.dI ?_ kT,?_,k _ _ (qu _ _ h.fI λ_ z=>nomatch z) (qr _ _ h.fI λ_ z=>nomatch z) (gS _ _ h.fI λ_ z=>nomatch z) h.fI,by rw[Sn];exact h.iX.keep kT kL,t,b,s,h.jI,h.n1,h.n2,h.n3,λb o e=>k b o (λz=>by rw[z,h.fls] at e;cases e) (λz=>by rw[z,h.SK] at e;cases e) (λz=>by rw[z,h.fdb] at e;cases e) (h.old b o e),λc hc=>?_,by rw[Sn];exact h.sq,h.fr⟩
 .rw[h.dI.1];exact k _ _ (qu _ _ h.dI.1 λ_ z=>nomatch z) h.n1 h.n2 h.dI.1
 .rw[gk];exact h.jL.keep λc ws hc e=>⟨kL c ws (λz=>hc (z ▸ h.jI)) e,hc⟩
 .by_cases z1:c=d.ls
  .obtain⟨iN,ZH,_⟩:=s;rw[z1];exact⟨_,ZH⟩
  .obtain⟨xs,hx⟩:=h.lK c hc;exact⟨xs,kL _ _ z1 hx⟩
theorem a9.same(h:a9 P w C CM H0 H d qs f g)(s:Zj H H'):a9 P w C CM H0 H' d qs f g:=by
 obtain⟨kt,t1,t2⟩:=h.jf;obtain⟨kb,b1,b2⟩:=h.iY;obtain⟨zs,s1,s2⟩:=h.jK;have kT:∀b xs,H b=some (.tup xs)->H' b=some (.tup xs):=λb xs e=>s b _ e;exact h.move (di.of s) rfl rfl ⟨kt,ZZ t1 (by rw[s _ _ t1.1,t1.1]) kT,t2.keep λc ws hc e=>⟨s _ _ e,hc⟩⟩ ⟨kb,ZZ b1 (by rw[s _ _ b1.1,b1.1]) kT,b2⟩ ⟨zs,s _ _ s1,s2.keep kT⟩
end
section
variable{P:aq}{w:ap}{C CM:Addr}{H0 H:Hp}{d:Gd}{qs:List ax.Qd}{f:FQ}{g:Gs}
theorem a9.ZBh(h:a9 P w C CM H0 H d qs f g){zs:List V}(s1:H d.ls=some (.lst zs))(s2:lZ H zs g.st){t b a c:Addr}{x:Pk×Str×Pk×Pk}(h2:H t=some (.tup [.ref b,.str x.2.1,.ref a,.ref c]))(h3:aQ H b (pk x.1))(h4:aQ H a (pk x.2.2.1))(h5:aQ H c (pk x.2.2.2)) :
  a9 P w C CM H0 (upd H d.ls (.lst (zs ++ [.ref t]))) d qs f { g with st:=g.st ++ [x] }:=by
 obtain⟨kt,t1,t2⟩:=h.jf;obtain⟨kb,b1,b2⟩:=h.iY;have k:di d H (upd H d.ls (.lst (zs ++ [.ref t]))):=λb o n _ _ e=>by rw[Zc n];exact e
 have kT:=h.qp k;have nt:d.dt≠d.ls:=λz=>by have:=t1.1;rw[z,s1] at this;cases this
 have nb:d.db≠d.ls:=λz=>by have:=b1.1;rw[z,s1] at this;cases this
 exact h.move k rfl rfl ⟨kt,ZZ t1 (Zc nt) kT,t2.keep λc ws hc e=>⟨h.AX k c ws (λz=>hc (z ▸ h.jI)) e,hc⟩⟩ ⟨kb,ZZ b1 (Zc nb) kT,b2⟩ ⟨_,Za,lZ.snoc (kT _ _ h2) (h3.mono kT) (h4.mono kT) (h5.mono kT) (s2.keep kT)⟩
theorem a9.ZA6(h:a9 P w C CM H0 H d qs f g){kt:List (ZQ×Addr×V)}(t1:b_ P w H d.dt kt)(t2:bA H d.ml kt g.tl){p:Pk}{b c:Addr}{ws:Wd}(hb:aQ H b (pk p))(hc:H c=some (.lst (ws.map V.str)))(hm:c∉d.ml) :
  a9 P w C CM H0 (upd H d.dt (Zv P w d.dt (putN kt (pk p) b (.ref c)))) d qs f { g with tl:=bE g.tl p ws }:=by
 obtain⟨kb,b1,b2⟩:=h.iY;obtain⟨zs,s1,s2⟩:=h.jK;have k:di d H (upd H d.dt (Zv P w d.dt (putN kt (pk p) b (.ref c)))):=λb o _ n _ e=>by rw[Zc n];exact e
 have kT:=h.qp k;have ns:d.ls≠d.dt:=λz=>by have:=t1.1;rw[<- z,s1] at this;cases this
 have fU:c≠d.dt:=λz=>by have:=t1.1;rw[<- z,hc] at this;cases this
 exact h.move k rfl rfl ⟨_,t1.put hb (.ref c),(t2.put (b:=b) hc hm).keep λc' NZ dD e=>⟨by rw[Zc (λz=>by have:=t1.1;rw[<- z,e] at this;cases this)];exact e,dD⟩⟩ ⟨kb,ZZ b1 (Zc h.n3.symm) kT,b2⟩ ⟨zs,by rw[Zc ns];exact s1,s2.keep kT⟩
theorem Zj0{p:Pk}{b:Addr}{v:V}{kb:List (ZQ×Addr×V)}{l:List Pk}(h:kb.map (·.1)=l.map pk):(putN kb (pk p) b v).map (·.1)=(ly l p).map pk:=by
 have e:(kb.find? λx=>decide (x.1=pk p)).isSome=true↔p∈l:=by
  rw[yf];constructor
  .rintro⟨x,h1,h2⟩;have h3:x.1∈l.map pk:=by rw[<- h];exact aX.mpr ⟨x,h1,rfl⟩
   rw[bC h2] at h3;obtain⟨y,h4,h5⟩:=aX.mp h3;rw[<- ro h5];exact h4
  .intro hp;have h3:pk p∈kb.map (·.1):=by rw[h];exact aX.mpr ⟨p,hp,rfl⟩
   obtain⟨x,h1,h2⟩:=aX.mp h3;exact⟨x,h1,aJ h2⟩
 unfold putN ly;by_cases hp:p∈l
 .rw[ao (e.mpr hp),ao hp,<- h,ij];refine BC λx _=>?_;show(if x.1=pk p then(x.1,x.2.1,v) else x).1=x.1
  split <;> rfl
 .rw[ai (λz=>hp (e.mp z)),ai hp,eN,eN,h];rfl
theorem a9.ZA5(h:a9 P w C CM H0 H d qs f g){kb:List (ZQ×Addr×V)}(b1:b_ P w H d.db kb)(b2:kb.map (·.1)=g.bl.map pk){p:Pk}{b:Addr}{v:V}(hb:aQ H b (pk p)) :
  a9 P w C CM H0 (upd H d.db (Zv P w d.db (putN kb (pk p) b v))) d qs f { g with bl:=ly g.bl p }:=by
 obtain⟨kt,t1,t2⟩:=h.jf;obtain⟨zs,s1,s2⟩:=h.jK;have k:di d H (upd H d.db (Zv P w d.db (putN kb (pk p) b v))):=λb o _ _ n e=>by rw[Zc n];exact e
 have kT:=h.qp k;have ns:d.ls≠d.db:=λz=>by have:=b1.1;rw[<- z,s1] at this;cases this
 exact h.move k rfl rfl ⟨kt,ZZ t1 (Zc h.n3) kT,t2.keep λc ws hc e=>⟨h.AX k c ws (λz=>hc (z ▸ h.jI)) e,hc⟩⟩ ⟨_,b1.put hb v,Zj0 b2⟩ ⟨zs,by rw[Zc ns];exact s1,s2.keep kT⟩
theorem a9.pop(h:a9 P w C CM H0 H d qs f g){kt:List (ZQ×Addr×V)}(t1:b_ P w H d.dt kt)(t2:bA H d.ml kt g.tl){p:Pk}{b c:Addr}{wp:Wd}(hb:aQ H b (pk p))(hc:H c=some (.lst (wp.map V.str)))(hm:c∉d.ml)(hn:aT g.sl p=none) :
  a9 P w C CM H0 (upd (upd H d.dt (Zv P w d.dt (jy kt (pk p)))) d.dw (Zv P w d.dw (putN d.kw (pk p) b (.ref c)))) { d with kw:=putN d.kw (pk p) b (.ref c) } qs f (jz g p wp):=by
 obtain⟨kb,b1,b2⟩:=h.iY;obtain⟨zs,s1,s2⟩:=h.jK;obtain⟨fW,jG⟩:=id h.dI;have k:∀b' o,b'≠d.dt->b'≠d.dw->H b'=some o->(upd (upd H d.dt (Zv P w d.dt (jy kt (pk p)))) d.dw (Zv P w d.dw (putN d.kw (pk p) b (.ref c)))) b'=some o:=λb' o n1 n2 e=>by
  rw[Zc n2,Zc n1];exact e
 have ne:∀b' o,H b'=some o->(∀F,o ≠ .ext F)->b'≠d.dt/\b'≠d.dw:=λb' o e n=>⟨λz=>by
  rw[z,t1.1] at e;injection e with e;exact n _ e.symm,λz=>by
  rw[z,fW] at e;injection e with e;exact n _ e.symm⟩
 have kx:∀b' o,H b'=some o->(∀F,o ≠ .ext F)->(upd (upd H d.dt (Zv P w d.dt (jy kt (pk p)))) d.dw (Zv P w d.dw (putN d.kw (pk p) b (.ref c)))) b'=some o:=λb' o e n=>k b' o (ne b' o e n).1 (ne b' o e n).2 e;have kT:∀b' xs,H b'=some (.tup xs)->(upd (upd H d.dt (Zv P w d.dt (jy kt (pk p)))) d.dw (Zv P w d.dw (putN d.kw (pk p) b (.ref c)))) b'=some (.tup xs):=λb' xs e=>kx b' _ e λ_ z=>nomatch z
 have kL:∀b' xs,H b'=some (.lst xs)->(upd (upd H d.dt (Zv P w d.dt (jy kt (pk p)))) d.dw (Zv P w d.dw (putN d.kw (pk p) b (.ref c)))) b'=some (.lst xs):=λb' xs e=>kx b' _ e λ_ z=>nomatch z
 have ep:bE g.sl p wp=g.sl ++ [(p,wp)]:=by
  unfold bE;have:(g.sl.find? λx=>decide (x.1=p)).isSome=false:=by
   have h2:=congrArg MV hn;unfold aT at h2;rw[qH] at h2;exact h2
  rw[this];rfl
 refine⟨kx _ _ h.ins (λ_ z=>nomatch z),h.qy,h.oz,h.so,⟨Za,λx hx=>?_⟩,?_,kx _ _ h.fI (λ_ z=>nomatch z),h.iX.keep kT λb' xs _ e=>kL b' xs e,⟨_,⟨by rw[Zc h.n1.symm];exact Za,λx hx=>(t1.2 x (WQ hx)).mono kT⟩,t2.drop.keep λc' ws dD e=>⟨kL c' ws e,dD⟩⟩,⟨kb,ZZ b1 (by rw[Zc h.n2.symm,Zc h.n3.symm]) kT,b2⟩,⟨zs,kL _ _ s1,s2.keep kT⟩,h.jI,h.n1,h.n2,h.n3,λb' o e=>k b' o (λz=>by rw[z,h.SK] at e;cases e) (λz=>by rw[z,h.fr d.dw (by simp)] at e;cases e) (h.old b' o e),λc' dD=>?_,h.sq,h.fr⟩
 .unfold putN at hx
  split at hx
  .obtain⟨y,hy,rfl⟩:=aX.mp hx;have:=jG y hy
   split
   .exact this.mono kT
   .exact this.mono kT
  .rcases bV.mp hx with hx|hx
   .exact(jG x hx).mono kT
   .rw[aI.mp hx];exact hb.mono kT
 .show bA _ d.ml _ (g.sl ++ [(p,wp)]);rw[<- ep];exact(h.jL.put (b:=b) hc hm).keep λc' ws dD e=>⟨kL c' ws e,dD⟩
 .obtain⟨xs,hx⟩:=h.lK c' dD;exact⟨xs,kL _ _ hx⟩
theorem Oj(ak:List Pk)(p:Pk)(k:Int):((ak ++ [p]).filter λx=>decide (x.1=k))=(ak.filter λx=>decide (x.1=k))++if p.1=k then [p] else []:=by
 rw[yd];refine congrArg _ ?_
 split
 .rename_i h
  exact Fz (by simpa using h)
 .rename_i h
  exact Fy (by simpa using h)
theorem a9.Zv2(h:a9 P w C CM H0 H d qs f g){p:Pk}{b l:Addr}{zs:List V}(hb:aQ H b (pk p))(v:bz d.mm (aN p.1)=some (.ref l))(e:H l=some (.lst zs)) :
  a9 P w C CM H0 (upd H l (.lst (zs ++ [.ref b]))) d qs f { g with ak:=g.ak ++ [p] }:=by
 obtain⟨kt,t1,t2⟩:=h.jf;obtain⟨kb,b1,b2⟩:=h.iY;obtain⟨zt,s1,s2⟩:=h.jK;obtain⟨pl,lF,qu⟩:cp H zs (g.ak.filter λx=>decide (x.1=p.1))/\l∈d.ml/\l≠d.ls:=by
  rcases h.iX.1 p.1 with⟨h1,_⟩|⟨l',iN,h1,h2,h3,h4,h5⟩
  .rw[h1] at v;cases v
  .rw[h1] at v;injection v with v;injection v with v;subst v;rw[h2] at e;injection e with e;injection e with e;subst e;exact⟨h3,h4,h5⟩
 have ne:∀b' o,H b'=some o->(∀xs,o ≠ .lst xs)->b'≠l:=λb' o e' n z=>by
  rw[z,e] at e';injection e' with e';exact n _ e'.symm
 have kx:∀b' o,H b'=some o->b'≠l->(upd H l (.lst (zs ++ [.ref b]))) b'=some o:=λb' o e' n=>by rw[Zc n];exact e'
 have kT:∀b' xs,H b'=some (.tup xs)->(upd H l (.lst (zs ++ [.ref b]))) b'=some (.tup xs):=λb' xs e'=>kx b' _ e' (ne _ _ e' λ_ z=>nomatch z)
 have kW:∀c ws,c∉d.ml->H c=some (.lst ws)->(upd H l (.lst (zs ++ [.ref b]))) c=some (.lst ws)/\c∉d.ml:=λc ws hc e'=>⟨kx c _ e' λz=>hc (z ▸ lF),hc⟩;have nx:∀b' ae,H b'=some (Zv P w b' ae)->b'≠l:=λb' ae e'=>ne _ _ e' λ_ z=>nomatch z
 refine⟨kx _ _ h.ins (ne _ _ h.ins λ_ z=>nomatch z),h.qy,h.oz,h.so,ZZ h.dI (Zc (nx _ _ h.dI.1)) kT,h.jL.keep kW,kx _ _ h.fI (ne _ _ h.fI λ_ z=>nomatch z),⟨λk=>?_,h.iX.2⟩,⟨kt,ZZ t1 (Zc (nx _ _ t1.1)) kT,t2.keep kW⟩,⟨kb,ZZ b1 (Zc (nx _ _ b1.1)) kT,b2⟩,⟨zt,kx _ _ s1 qu.symm,s2.keep kT⟩,h.jI,h.n1,h.n2,h.n3,λb' o e'=>kx b' o (h.old b' o e') (λz=>by rw[z,h.fr l (by simp[lF])] at e';cases e'),λc hc=>?_,by rw[cw];exact cz h.sq (ym _ _),h.fr⟩
 .show _\/∃l' iN,_/\_/\cp _ iN ((g.ak ++ [p]).filter λx=>decide (x.1=k))/\_;rw[Oj];by_cases hk:p.1=k
  .subst hk;rw[ao rfl];exact .inr ⟨l,_,v,Za,cp.snoc (hb.mono kT) (pl.keep kT),lF,qu⟩
  .rw[ai hk,gW];rcases h.iX.1 k with⟨h1,h2⟩|⟨l',iN,h1,h2,h3,h4,h5⟩
   .exact .inl ⟨h1,h2⟩
   .exact .inr ⟨l',iN,h1,kx _ _ h2 (λz=>hk (h.iX.2 _ _ l v (z ▸ h1))),h3.keep kT,h4,h5⟩
 .by_cases z:c=l
  .rw[z];exact⟨_,Za⟩
  .obtain⟨xs,hx⟩:=h.lK c hc;exact⟨xs,kx _ _ hx z⟩
theorem a9.Zv1{H1:Hp}(h1:a9 P w C CM H0 H1 d qs f g){p:Pk}{b l:Addr}(c9:aQ H1 b (pk p))(v:bz d.mm (aN p.1)=none)(n1:H1 l=none)(eH:H=upd H1 l (.lst [])) :
  a9 P w C CM H0 (upd (upd H d.da (.dK (putK d.mm (aN p.1) (.ref l)))) l (.lst [.ref b])) { d with mm:=putK d.mm (aN p.1) (.ref l),ml:=l::d.ml } qs f { g with ak:=g.ak ++ [p] }:=by
 subst eH;have sn:Zj H1 (upd H1 l (.lst [])):=Zj.new n1;have h:=h1.same sn;have hb:aQ (upd H1 l (.lst [])) b (pk p):=c9.mono λb' xs e=>sn _ _ e;have e:(upd H1 l (.lst [])) l=some (.lst []):=Za;have hl:l∉d.ml:=λz=>by
  obtain⟨xs,hx⟩:=h1.lK l z;rw[n1] at hx;cases hx
 have h0:H0 l=none:=by
  cases z:H0 l with
  | none=>rfl
  | some o =>
   have:=h1.old _ _ z;rw[n1] at this;cases this
 have hw:=h1.jL.ne n1;obtain⟨kt,E7,LZ⟩:=h1.jf;have ht:=LZ.ne n1;have t1:b_ P w (upd H1 l (.lst [])) d.dt kt:=ZZ E7 (by rw[sn _ _ E7.1,E7.1]) λb' xs e=>sn _ _ e;have t2:bA (upd H1 l (.lst [])) d.ml kt g.tl:=LZ.keep λc ws hc e=>⟨sn _ _ e,hc⟩;clear n1 E7 LZ h1 c9;generalize upd H1 l (.lst [])=H at h hb e t1 t2 ⊢;obtain⟨kb,b1,b2⟩:=h.iY;obtain⟨zt,s1,s2⟩:=h.jK;have Lz:l≠d.da:=λz=>by rw[z,h.fI] at e;cases e
 have qu:l≠d.ls:=λz=>hl (z ▸ h.jI);have kx:∀b' o,H b'=some o->b'≠l->b'≠d.da->(upd (upd H d.da (.dK (putK d.mm (aN p.1) (.ref l)))) l (.lst [.ref b])) b'=some o:=λb' o e' n1 n2=>by rw[Zc n1,Zc n2];exact e'
 have ne:∀b' o,H b'=some o->(∀xs,o ≠ .lst xs)->b'≠l:=λb' o e' n z=>by
  rw[z,e] at e';injection e' with e';exact n _ e'.symm
 have nd:∀b' o,H b'=some o->(∀xs,o ≠ .dK xs)->b'≠d.da:=λb' o e' n z=>by
  rw[z,h.fI] at e';injection e' with e';exact n _ e'.symm
 have kT:∀b' xs,H b'=some (.tup xs)->(upd (upd H d.da (.dK (putK d.mm (aN p.1) (.ref l)))) l (.lst [.ref b])) b'=some (.tup xs):=λb' xs e'=>kx b' _ e' (ne _ _ e' λ_ z=>nomatch z) (nd _ _ e' λ_ z=>nomatch z)
 have EI:∀c ws,c≠l->H c=some (.lst ws)->(upd (upd H d.da (.dK (putK d.mm (aN p.1) (.ref l)))) l (.lst [.ref b])) c=some (.lst ws):=λc ws hc e'=>kx c _ e' hc (nd _ _ e' λ_ z=>nomatch z)
 have kN:∀b' ae,H b'=some (Zv P w b' ae)->(upd (upd H d.da (.dK (putK d.mm (aN p.1) (.ref l)))) l (.lst [.ref b])) b'=H b':=λb' ae e'=>by rw[Zc (ne _ _ e' λ_ z=>nomatch z),Zc (nd _ _ e' λ_ z=>nomatch z)]
 have wk:∀{ae:List (ZQ×Addr×V)}{ll:List (Pk×Wd)},bA H d.ml ae ll->(∀x∈ae,x.2.2 ≠ .ref l)->bA (upd (upd H d.da (.dK (putK d.mm (aN p.1) (.ref l)))) l (.lst [.ref b])) (l::d.ml) ae ll:=by
  intro ae ll hh
  induction hh with
  | nil=>exact λ_=>.nil
  | @cons x y ae ll r t ih =>
   intro hx;obtain⟨r1,c,r2,r3,r4⟩:=r;have bZ:c≠l:=λz=>hx x (bw ..) (by rw[r2,z]);exact .cons ⟨r1,c,r2,EI c _ bZ r3,λz=>(a8.mp z).elim bZ r4⟩ (ih λy hy=>hx y (bp _ hy))
 have vk:∀k,bz (putK d.mm (aN p.1) (.ref l)) (aN k)=if p.1=k then some (.ref l) else bz d.mm (aN k):=λk=>by
  by_cases hk:p.1=k
  .rw[ao hk,hk,zc,ao rfl]
  .rw[ai hk,zc,ai (λz=>hk (by injection z with z;exact z.symm))]
 refine⟨kx _ _ h.ins (ne _ _ h.ins λ_ z=>nomatch z) (nd _ _ h.ins λ_ z=>nomatch z),h.qy,h.oz,h.so,ZZ h.dI (kN _ _ h.dI.1) kT,wk h.jL hw,by rw[Zc Lz.symm];exact Za,⟨λk=>?_,λk k' l' h1 h2=>?_⟩,⟨kt,ZZ t1 (kN _ _ t1.1) kT,wk t2 ht⟩,⟨kb,ZZ b1 (kN _ _ b1.1) kT,b2⟩,⟨zt,EI _ _ qu.symm s1,s2.keep kT⟩,bp _ h.jI,h.n1,h.n2,h.n3,λb' o e'=>kx b' o (h.old b' o e') (λz=>by rw[z,h0] at e';cases e') (λz=>by rw[z,h.fr d.da (by simp)] at e';cases e'),λc hc=>?_,?_,λc hc=>?_⟩
 .show(bz (putK d.mm (aN p.1) (.ref l)) (aN k)=none/\((g.ak ++ [p]).filter λx=>decide (x.1=k))=[])\/∃l' iN,bz (putK d.mm (aN p.1) (.ref l)) (aN k)=some (.ref l')/\_/\cp _ iN ((g.ak ++ [p]).filter λx=>decide (x.1=k))/\_;rw[vk,Oj];by_cases hk:p.1=k
  .subst hk;have hf:(g.ak.filter λx=>decide (x.1=p.1))=[]:=by
    rcases h.iX.1 p.1 with⟨_,h2⟩|⟨l',iN,h1,_⟩
    .exact h2
    .rw[v] at h1;cases h1
   rw[ao rfl,ao rfl,hf];exact .inr ⟨l,[.ref b],rfl,Za,.cons ⟨b,rfl,hb.mono kT⟩ .nil,bw ..,qu⟩
  .rw[ai hk,ai hk,gW];rcases h.iX.1 k with⟨h1,h2⟩|⟨l',iN,h1,h2,h3,h4,h5⟩
   .exact .inl ⟨h1,h2⟩
   .exact .inr ⟨l',iN,h1,EI _ _ (λz=>hl (z ▸ h4)) h2,h3.keep kT,bp _ h4,h5⟩
 .have h1:bz (putK d.mm (aN p.1) (.ref l)) (aN k)=some (.ref l'):=h1;have h2:bz (putK d.mm (aN p.1) (.ref l)) (aN k')=some (.ref l'):=h2;rw[vk] at h1 h2;have UA:∀k,bz d.mm (aN k)=some (.ref l')->l'∈d.ml:=λk hk=>by
   rcases h.iX.1 k with⟨h3,_⟩|⟨l2,vo,h3,_,_,h4,_⟩
   .rw[h3] at hk;cases hk
   .rw[h3] at hk;injection hk with hk;injection hk with hk;exact hk ▸ h4
  split at h1
  .rename_i c1
   split at h2
   .rename_i c2
    exact c1.symm.trans c2
   .injection h1 with h1;injection h1 with h1;exact absurd (UA _ h2) (h1 ▸ hl)
  .split at h2
   .injection h2 with h2;injection h2 with h2;exact absurd (UA _ h1) (h2 ▸ hl)
   .exact h.iX.2 _ _ l' h1 h2
 .rcases a8.mp hc with rfl|hc
  .exact⟨_,Za⟩
  .by_cases z:c=l
   .rw[z];exact⟨_,Za⟩
   .obtain⟨xs,hx⟩:=h.lK c hc;exact⟨xs,EI _ _ z hx⟩
 .show(putK d.mm (aN p.1) (.ref l)).length<=(g.ak ++ [p]).length;rw[cw];have:=wj d.mm (aN p.1) (V.ref l);have:=h.sq;show _<=g.ak.length+1;lia
 .simp only[a8] at hc;rcases hc with rfl|rfl|rfl|rfl|rfl|rfl|hc
  .exact h.fr _ (by simp)
  .exact h.fr _ (by simp)
  .exact h.fr _ (by simp)
  .exact h.fr _ (by simp)
  .exact h.fr _ (by simp)
  .exact h0
  .exact h.fr _ (by simp[hc])
end
def zF(P:aq)(w:ap)(C CM:Addr):Sp:=λvs H Q _=>∃(rq b1 b2:Addr)(H0:Hp)(d:Gd)(qs:List ax.Qd)(fm:FQ)(g:Gs)(q:ax.Qd)(p1 p2:Pk)(w1 w2:Wd),vs=[.ref d.a,.ref rq,.ref b1,.ref b2]/\a9 P w C CM H0 H d qs fm g/\H rq=some (tq q)/\aQ H b1 (pk p1)/\aQ H b2 (pk p2)/\aT g.sl p1=some w1/\aT g.sl p2=some w2/\ui fm/\p1.2.length<=63/\p2.2.length<=63/\p1.2.Nodup/\p2.2.Nodup/\w1.length<=600/\w2.length<=600/\f' (bj q w1 w2)/\(∀e∈g.tl,f' e.2)/\g.st.length<4000/\g.tl.length<=9000/\g.bl.length<=9000 /\
 ∀H',a9 P w C CM H0 H' d qs fm (cQ fm q p1 p2 w1 w2 g)->di d H H'->Q .aB H'
theorem gf(p:Pk):(pk p).2.map kV=p.2.map V.int:=by
 show(p.2.map aN).map kV=_;rw[ij];rfl
variable{CM:Addr}
theorem N9(B:∀x∈eG,mg x=none)(Cn:∃t:Tok,mg "MOST_STEPS" = some (.int 4000 t)) (Co:∃t:Tok,mg "MOST_TAGS" = some (.int 300 t)) (aK:vZ K C) (Jf:iu K CM) (Zxj:jr P w K mg base CM "above" ["self","tag","inner","rest"] 2 (CI CM)) (rK:fO P w K mg base "rank_of_words" ["words"] 1 Ir) (F:ci K "step" "Growth.step" ZS f fd):br P w K mg base cA 3 f fd ["self","rule","within","behind"] (zF P w C CM):=by
 refine F.ok Hb (λvs H Q E h=>?_) (λbg A outer s H vs Q E hr h=>?_)
 .obtain⟨rq,b1,b2,H0,d,qs,fm,g,q,p1,p2,w1,w2,rfl,_⟩:=h;rfl
 obtain⟨rq,b1,b2,H0,d,qs,fm,g,q,p1,p2,w1,w2,rfl,hG,hq,⟨c1,k1,Lj⟩,⟨c2,k2,Ll⟩,fW,jG,hL,l1,l2,kn,xJ,wl1,wl2,U8,okt,cC,cU,dm,Q1⟩:=h;have cf:=nJ hr;have Um:=Pn hr;obtain⟨t4,m4⟩:=Cn;obtain⟨t3,m3⟩:=Co;have Zv6:=m4;have Zv7:=m3;rw[gf] at Lj Ll;obtain⟨zs,s1,s2⟩:=id hG.jK;have iE:zs.length=g.st.length:=dz s2;refine Zr ((RU ((Zf ZS).getD 4 (.Pass ⟨0,0,0,0⟩))).drop 1) (Zh (rj cf (dX (pv 0) rfl) (pv 4) (ZkI rK hr rfl rfl (B "min" (by decide)) rfl (Zb (eU (Zb (pv 5) (Zb (ZlH cf (dX (pv 0) rfl) (pv 4) (pv 5) ⟨rfl,rfl,rfl,rfl⟩) Ze))) Ze)) rfl)) (λZEY ZxT ZwT=>?_);refine Zr ((RU ((Zf ZS).getD 4 (.Pass ⟨0,0,0,0⟩))).drop 0) (Zd (Zx (i:=5) Hb.nd rfl (Or.inl rfl) (ZF wG (ZF wG (ZF wG (eU (Zb (ZR ZG (pv 1) Zg (λ_ _=>rfl)) Ze)) (mf cf (dX (pv 0) rfl) (pv 2) (λ_ _=>rfl))) (eU (Zb uh Ze))) (mf cf (dX (pv 0) rfl) (pv 3) (λ_ _=>rfl)))) ZxT) (λZEX ZxS ZwS=>?_);refine Zr ((Zf ZS).drop 4) (Zh (cR (ZC wK (ZF fG (ZF fG Zg (Zu ZD rfl (B "len" (by decide)) gC (Zb (mf cf (dX (pv 0) rfl) (pv 2) (λ_ _=>rfl)) Ze))) (Zu ZD rfl (B "len" (by decide)) gC (Zb (mf cf (dX (pv 0) rfl) (pv 3) (λ_ _=>rfl)) Ze))) (ZF rp Zg (rh (v:=.int 300) rfl Zv7 ⟨_,rfl⟩)) (ZM _))
   (Zh (rj cf (dX (pv 0) rfl) (pv 4) jU rfl))
   ZxS)) (λu4 h4 e4=>?_)
 refine Zr ((Zf ZS).drop 3) (Zd (cR (zC (ZmH cf (pv 4) (dX (pv 0) rfl)))
   (Zh ZmI)
   ZW) h4) (λu3 h3 e3=>?_)
 refine Zr ((Zf ZS).drop 2) (Zd (ix (mr jl mZ m9 jS (dX (pv 0) rfl) (Zb (dU (Zb (pv 4) (Zb (ZR ZG (pv 1) Zg (λ_ _=>rfl)) (Zb (pv 2) (Zb (pv 3) Ze))))) Ze))) h3) (λu2 h2 e2=>?_);refine Zr ((Zf ZS).drop 1) (Zd (Zx (i:=4) Hb.nd rfl (Or.inl rfl) (dU (Zb (ZR ZG (pv 1) Zg (λ_ _=>rfl)) (Zb (zi Zxj hr (dX (pv 0) rfl) Jf (Zb (ZR ZG (pv 1) Zg (λ_ _=>rfl)) (Zb (ZR ZG (pv 2) Zg (λ_ _=>rfl)) (Zb (ZR ZG (pv 3) Zg (λ_ _=>rfl)) Ze)))) Ze)))) h2) (λu1 h1 e1=>?_);refine Zr ((Zf ZS).drop 0) (Zd (cR (ZC iy (Zu ZD rfl (B "len" (by decide)) gC (Zb (dX (pv 0) rfl) Ze)) (rh (v:=.int 4000) rfl Zv6 ⟨_,rfl⟩) (ZM _))
   (Zh CN)
   ZW) h1) (λu0 h0 e0=>?_)
 refine⟨u0,h0,?_⟩;refine Zo e0 ?_;refine⟨_,rfl,d.a,C,d.dx,_,_,rfl,hG.ins,aK.cls,aK.n5,rfl,d.ls,zs,rfl,.inl (au.of s1),rfl,_,rfl,?_⟩;refine cJ (λc=>absurd (bC c) (by intro z;injection z with z;lia)) (λ_=>?_);refine Zo e1 ?_;have UO:=hG.so.same hG.old;obtain⟨Jh,mh1,mh2,mdd,mmm,Lq,_⟩:=id UO;refine⟨_,rfl,rq,_,0,_,rfl,rfl,az.of hq,rfl,_,rfl,d.a,C,d.dx,_,_,rfl,hG.ins,aK.cls,aK.n2,rfl,d.m,Jh,_,rfl,Lq,rfl,_,rfl,rq,_,1,_,rfl,rfl,az.of hq,rfl,_,rfl,b1,_,1,_,rfl,rfl,az.of k1,rfl,_,rfl,b2,_,1,_,rfl,rfl,az.of k2,rfl,?_⟩;refine⟨d.m,c1,c2,q.2.1,fm,p1.2,p2.2,rfl,UO,hL,Lj,Ll,l1,l2,kn,xJ,λr ks H1 ko er AO=>?_⟩;refine⟨by show(2:Nat)<=sizeLine;decide,λtp htp=>?_⟩;refine Zo e2 ?_;have ig:Zj H1 (upd H1 tp (.tup [.int q.1,.ref r])):=Zj.new htp;have uI:aL fm q p1 p2=(q.1,ks):=by unfold aL;rw[zE AO]
 have LN:aQ (upd H1 tp (.tup [.int q.1,.ref r])) tp (pk (aL fm q p1 p2)):=by
  rw[uI];exact⟨r,Za,by rw[gf];exact ig _ _ er⟩
 have eI:=(hG.same ko).same ig;generalize upd H1 tp (.tup [.int q.1,.ref r])=H2 at ig LN eI ⊢;obtain⟨vo,s3,s4⟩:=id eI.jK;have EE:vo.length=g.st.length:=dz s4;have vj:Zj H H2:=ko.trans ig;have Cf:=vj _ _ k1;have pB:=vj _ _ k2;refine⟨_,rfl,d.a,C,d.dx,_,_,rfl,eI.ins,aK.cls,aK.n5,rfl,.inl ⟨rfl,_,au.of s3⟩,_,rfl,_,rfl,rq,_,1,_,rfl,rfl,az.of (vj _ _ hq),rfl,_,rfl,_,rfl,by show(4:Nat)<=sizeLine;decide,λtt htt=>?_⟩;have je:Zj H2 (upd H2 tt (.tup [.ref tp,.str q.2.1,.ref b1,.ref b2])):=Zj.new htt;have SA:(upd H2 tt (.tup [.ref tp,.str q.2.1,.ref b1,.ref b2])) tt=some (.tup [.ref tp,.str q.2.1,.ref b1,.ref b2]):=Za;have S3:=eI.same je;generalize upd H2 tt (.tup [.ref tp,.str q.2.1,.ref b1,.ref b2])=H3 at je SA S3 ⊢;have tG:=je _ _ s3;have xf:∀b xs,H2 b=some (.tup xs)->H3 b=some (.tup xs):=λb xs e=>je _ _ e;have EX:aQ H2 b1 (pk p1):=⟨c1,Cf,by rw[gf];exact vj _ _ Lj⟩;have xN:aQ H2 b2 (pk p2):=⟨c2,pB,by rw[gf];exact vj _ _ Ll⟩;refine⟨d.ls,_,_,rfl,rfl,tG,by rw[bu];lia,?_⟩;refine Zo e3 ?_;have ft:=S3.ZBh (x:=(aL fm q p1 p2,q.2.1,p1,p2)) tG (s4.keep xf) SA (LN.mono xf) (EX.mono xf) (xN.mono xf);have kS:di d H (upd H3 d.ls (.lst (vo ++ [.ref tt]))):=(di.of (vj.trans je)).trans λb o n _ _ e=>by rw[Zc n];exact e
 have kT:∀b xs,H2 b=some (.tup xs)->(upd H3 d.ls (.lst (vo ++ [.ref tt]))) b=some (.tup xs):=λb xs e=>by
  rw[Zc (λz=>by rw[z,s3] at e;cases e)];exact je _ _ e
 have xO:=LN.mono kT;have LK:=EX.mono kT;have LL:=xN.mono kT;have Uh:=kT _ _ (vj _ _ hq);clear tG s4 s3;generalize upd H3 d.ls (.lst (vo ++ [.ref tt]))=H4 at ft kS xO LK LL Uh ⊢;refine⟨_,rfl,_,rfl,d.a,C,d.dx,_,_,rfl,ft.ins,aK.cls,aK.n3,rfl,d.dw,tp,d.kw,_,rfl,rfl,ft.dI.r,xO,_,rfl,?_⟩;have KR:(valN d.kw (pk (aL fm q p1 p2))).isSome=(aT g.sl (aL fm q p1 p2)).isSome:=by
  rcases ft.jL.val (aL fm q p1 p2) with⟨h1,h2⟩|⟨_,_,h1,h2,_⟩
  .rw[h2,show aT g.sl (aL fm q p1 p2)=none from h1];rfl
  .rw[h2,show aT g.sl (aL fm q p1 p2)=some _ from h1];rfl
 refine cJ (λc=>?_) (λc=>?_)
 .rw[KR] at c;refine Q1 H4 ?_ kS;unfold cQ;rw[ao c];exact ft
 rw[KR] at c;have cS:=c;refine Zo e4 ?_;obtain⟨a1,v1,x1,m1⟩:∃a1,valN d.kw (pk p1)=some (.ref a1)/\H4 a1=some (.lst (w1.map V.str))/\a1∉d.ml:=by
  rcases ft.jL.val p1 with⟨h1,_⟩|⟨w',a1,h1,h2,h3,h4⟩
  .rw[show aT g.sl p1=none from h1] at fW;cases fW
  .rw[show aT g.sl p1=some w' from h1] at fW;injection fW with fW;subst fW;exact⟨a1,h2,h3,h4⟩
 obtain⟨a2,v2,x2,m2⟩:∃a2,valN d.kw (pk p2)=some (.ref a2)/\H4 a2=some (.lst (w2.map V.str))/\a2∉d.ml:=by
  rcases ft.jL.val p2 with⟨h1,_⟩|⟨w',a2,h1,h2,h3,h4⟩
  .rw[show aT g.sl p2=none from h1] at jG;cases jG
  .rw[show aT g.sl p2=some w' from h1] at jG;injection jG with jG;subst jG;exact⟨a2,h2,h3,h4⟩
 refine⟨_,rfl,d.a,C,d.dx,_,_,rfl,ft.ins,aK.cls,aK.n3,rfl,_,rfl,d.dw,b1,d.kw,_,_,rfl,rfl,ft.dI.r,LK,v1,a1,_,rfl,.inl (au.of x1),_,_,rfl,rfl,_,rfl,d.a,C,d.dx,_,_,rfl,ft.ins,aK.cls,aK.n3,rfl,_,rfl,d.dw,b2,d.kw,_,_,rfl,rfl,ft.dI.r,LL,v2,a2,_,rfl,.inl (au.of x2),_,_,rfl,rfl,_,_,rfl,rfl,.inl (by decide),_,_,rfl,rfl,_,rfl,?_⟩;rw[aF,aF];refine cJ (λc2=>?_) (λc2=>?_)
 .have nu:=bC c2;obtain⟨kb,n1,n2⟩:=ft.iY;have TH:kb.length=g.bl.length:=by have:=congrArg oU n2;simpa using this
  refine⟨_,rfl,d.a,C,d.dx,_,_,rfl,ft.ins,aK.cls,aK.n7,rfl,_,rfl,d.db,tp,kb,_,rfl,rfl,n1,xO,by rw[bu];lia,?_⟩;refine Q1 _ ?_ (kS.trans λb o _ _ n e=>by rw[Zc n];exact e);unfold cQ;rw[ai c,ao (by lia)];exact ft.ZA5 n1 n2 xO
 have nu : ¬ 600<2+w1.length+w2.length:=λz=>c2 (aJ (by lia));refine Zo ZwS ?_;refine⟨_,rfl,rq,_,1,_,rfl,rfl,az.of Uh,rfl,by show(1:Nat)<=sizeLine;decide,λy1 K8=>?_⟩;have s5:Zj H4 (upd H4 y1 (.lst [.str q.2.1])):=Zj.new K8;have SE:(upd H4 y1 (.lst [.str q.2.1])) y1=some (.lst [.str q.2.1]):=Za;generalize upd H4 y1 (.lst [.str q.2.1])=H5 at s5 SE ⊢;have w6:=ft.same s5;refine⟨_,rfl,d.a,C,d.dx,_,_,rfl,w6.ins,aK.cls,aK.n3,rfl,_,rfl,d.dw,b1,d.kw,_,_,rfl,rfl,w6.dI.r,LK.mono λc xs e=>s5 _ _ e,v1,y1,a1,_,_,rfl,rfl,SE,s5 _ _ x1,by rw[bu,aF,sO];lia,λy2 AU=>?_⟩;have s6:Zj H5 (upd H5 y2 (.lst ([.str q.2.1]++w1.map V.str))):=Zj.new AU;have SF:(upd H5 y2 (.lst ([.str q.2.1]++w1.map V.str))) y2=some (.lst ([.str q.2.1]++w1.map V.str)):=Za;generalize upd H5 y2 (.lst ([.str q.2.1]++w1.map V.str))=H6 at s6 SF ⊢;refine⟨by show(1:Nat)<=sizeLine;decide,λy3 hy3=>?_⟩;have s7:Zj H6 (upd H6 y3 (.lst [.str (cm "/")])):=Zj.new hy3;have SG:(upd H6 y3 (.lst [.str (cm "/")])) y3=some (.lst [.str (cm "/")]):=Za;generalize upd H6 y3 (.lst [.str (cm "/")])=H7 at s7 SG ⊢;refine⟨y2,y3,_,_,rfl,rfl,s7 _ _ SF,SG,by rw[bu];simp only[cw,aF,bB,vz];lia,λy4 hy4=>?_⟩;have s8:Zj H7 (upd H7 y4 (.lst (([.str q.2.1]++w1.map V.str) ++ [.str (cm "/")]))):=Zj.new hy4;have SH:(upd H7 y4 (.lst (([.str q.2.1]++w1.map V.str) ++ [.str (cm "/")]))) y4=some (.lst (([.str q.2.1]++w1.map V.str) ++ [.str (cm "/")])):=Za;generalize upd H7 y4 (.lst (([.str q.2.1]++w1.map V.str) ++ [.str (cm "/")]))=H8 at s8 SH ⊢;have qA:Zj H4 H8:=((s5.trans s6).trans s7).trans s8;have JU:=ft.same qA;refine⟨_,rfl,d.a,C,d.dx,_,_,rfl,JU.ins,aK.cls,aK.n3,rfl,_,rfl,d.dw,b2,d.kw,_,_,rfl,rfl,JU.dI.r,LL.mono λc xs e=>qA _ _ e,v2,y4,a2,_,_,rfl,rfl,SH,qA _ _ x2,by rw[bu];simp only[cw,aF,bB,vz];lia,λy5 Uy=>?_⟩;refine Zo ZwT ?_;have enw:([V.str q.2.1]++w1.map V.str) ++ [.str (cm "/")]++w2.map V.str=(bj q w1 w2).map V.str:=by
  unfold bj;simp[SL]
 rw[enw];have s9:Zj H8 (upd H8 y5 (.lst ((bj q w1 w2).map V.str))):=Zj.new Uy;have DN:(upd H8 y5 (.lst ((bj q w1 w2).map V.str))) y5=some (.lst ((bj q w1 w2).map V.str)):=Za;have VD:y5∉d.ml:=by
  intro hm;obtain⟨xs,hx⟩:=JU.lK _ hm;rw[Uy] at hx;cases hx
 generalize upd H8 y5 (.lst ((bj q w1 w2).map V.str))=H9 at s9 DN ⊢;have LQ:=qA.trans s9;have S7:=ft.same LQ;obtain⟨kt,t1,t2⟩:=id S7.jf;have ZA4:=xO.mono λc xs e=>LQ _ _ e;have hkt:kt.length=g.tl.length:=t2.length;obtain⟨lz,wo,g1,g2,g3,g4,g5⟩:∃lz wo,(valN kt (pk (aL fm q p1 p2))).getD (V.ref y5)=.ref lz/\H9 lz=some (.lst (wo.map V.str))/\lz∉d.ml/\f' wo/\nY (bj q w1 w2) (aT g.tl (aL fm q p1 p2))=if a_ wo (bj q w1 w2)=true then wo else bj q w1 w2:=by
  rcases t2.val (aL fm q p1 p2) with⟨h1,h2⟩|⟨w',c',h1,h2,h3,h4⟩
  .refine⟨y5,bj q w1 w2,by rw[h2];rfl,DN,VD,U8,?_⟩;rw[show aT g.tl (aL fm q p1 p2)=none from h1,qW];rfl
  .refine⟨c',w',by rw[h2];rfl,h3,h4,okt _ (nG (show aT g.tl (aL fm q p1 p2)=some w' from h1)),?_⟩;rw[show aT g.tl (aL fm q p1 p2)=some w' from h1];rfl
 refine⟨_,rfl,_,rfl,d.a,C,d.dx,_,_,rfl,S7.ins,aK.cls,aK.n6,rfl,d.dt,rfl,⟨_,t1.r⟩,_,rfl,_,rfl,tp,kt,_,rfl,t1.r,ZA4,?_⟩;rw[g1];refine⟨by show(2:Nat)<=sizeLine;decide,λlm hlm=>?_⟩;have qz:Zj H9 (upd H9 lm (.lst [.ref y5,.ref lz])):=Zj.new hlm;have Sw:(upd H9 lm (.lst [.ref y5,.ref lz])) lm=some (.lst [.ref y5,.ref lz]):=Za;generalize upd H9 lm (.lst [.ref y5,.ref lz])=lW at qz Sw ⊢;refine⟨lm,[.ref y5,.ref lz],λi j=>a_ ([bj q w1 w2,wo].getD i []) ([bj q w1 w2,wo].getD j []),rfl,au.of Sw,by simp,λpm dH=>⟨⟨λi k H=>∃r c,k=.ref r/\wD H r c ([bj q w1 w2,wo].getD i [])/\r≠pm/\c≠pm/\f' ([bj q w1 w2,wo].getD i []),?_,?_,?_⟩,λx H' hx sm=>?_⟩⟩
 .rintro i k H H' ⟨r,c,rfl,h,n1,n2,ok⟩ kp;exact⟨r,c,rfl,⟨kp _ _ n2 h.1,kp _ _ n1 h.2⟩,n1,n2,ok⟩
 .rintro i j k k' H ⟨r,c,rfl,h,n1,n2,ok⟩ ⟨r',c',rfl,h',Y7,GG,GJ⟩;exact Iu h h' ok GJ
 .intro i x H hx sm hp;have:∃c,x=V.ref c/\lW c=some (.lst (([bj q w1 w2,wo].getD i []).map V.str))/\f' ([bj q w1 w2,wo].getD i []):=by
   match i,hx with
   | 0,hx =>
    injection hx with hx;exact⟨y5,hx.symm,qz _ _ DN,U8⟩
   | 1,hx =>
    injection hx with hx;exact⟨lz,hx.symm,qz _ _ g2,g4⟩
  obtain⟨c,rfl,hc,ok⟩:=this;refine⟨c,_,rfl,sm _ _ hc,λr hr=>⟨Zj.new hr,r,c,rfl,⟨(Zj.new hr) _ _ (sm _ _ hc),Za⟩,λz=>hp (z ▸ hr),λz=>?_,ok⟩⟩;rw[z,dH] at hc;cases hc
 .have kh:∃c,x=V.ref c/\H' c=some (.lst ((nY (bj q w1 w2) (aT g.tl (aL fm q p1 p2))).map V.str))/\c∉d.ml:=by
   rw[g5];have e1:eh (λi j=>a_ ([bj q w1 w2,wo].getD i []) ([bj q w1 w2,wo].getD j [])) (([V.ref y5,.ref lz]:List V).length-1)=if a_ wo (bj q w1 w2)=true then 1 else 0:=rfl
   rw[e1] at hx;by_cases hb:a_ wo (bj q w1 w2)=true
   .rw[ao hb] at hx ⊢;injection hx with hx;exact⟨lz,hx.symm,sm _ _ (qz _ _ g2),g3⟩
   .rw[ai hb] at hx ⊢;injection hx with hx;exact⟨y5,hx.symm,sm _ _ (qz _ _ DN),VD⟩
  obtain⟨c,rfl,hc,Am⟩:=kh;have sF:Zj H4 H':=(LQ.trans qz).trans sm;have S8:=ft.same sF;have LS:Zj H9 H':=qz.trans sm;have Vp:b_ P w H' d.dt kt:=ZZ t1 (by rw[LS _ _ t1.1,t1.1]) λb xs e=>LS _ _ e;have t2F:bA H' d.ml kt g.tl:=t2.keep λc ws hc e=>⟨LS _ _ e,hc⟩;have Vc:=xO.mono λc xs e=>sF _ _ e;refine⟨_,rfl,d.a,C,d.dx,_,_,rfl,S8.ins,aK.cls,aK.n6,rfl,_,rfl,d.dt,tp,kt,_,rfl,rfl,Vp,Vc,by rw[bu];lia,?_⟩;refine Q1 _ ?_ ((kS.trans (di.of sF)).trans λb o _ n _ e=>by rw[Zc n];exact e);unfold cQ;rw[ai cS,ai nu];exact S8.ZA6 Vp t2F Vc hc Am
theorem ZnY{f:FQ}{w:Str}:(sy f w n1 n2).Nodup/\(sy f w n1 n2).length<=63:=by
 by_cases h:∃ks,nE f w n1 n2 ks
 .obtain⟨ks,hk⟩:=h;rw[zE hk];exact⟨tV hk.1,by have:=hk.2.1;lia⟩
 .unfold sy;rw[dif_neg h];exact⟨FG,bG _⟩
def Z'(p:Pk):Prop:=p.2.Nodup/\p.2.length<=63
def N4(g:Gs):Prop := ∀e∈g.sl++g.tl,f' e.2/\Z' e.1
theorem Iv(hq:kI q.2.1=true)(ha:f' wa)(hb:f' wb):f' (bj q wa wb):=by
 intro x hx;unfold bj at hx;rcases a8.mp hx with rfl|hx
 .exact hq
 .rcases bV.mp hx with hx|hx
  .exact ha x hx
  .rcases a8.mp hx with rfl|hx
   .exact Zo6
   .exact hb x hx
structure f6(ts:List Int)(qs:List ax.Qd)(f:FQ)(g:Gs):Prop where
 gi:GI ts qs f g
 DF:∀q∈qs,∀a wa b wb,(a,wa)∈g.sl->(b,wb)∈g.sl->a.1=q.2.2.1->b.1=q.2.2.2->gg f g q a wa b wb
 ord:Ord g
 cnt:g.st.length=cnt g.sl qs
 ak:g.ak=g.sl.map (·.1)
 ok:N4 g
section
variable{ts:List Int}{qs:List ax.Qd}{f:FQ}{g g0 g1:Gs}{q:ax.Qd}{p a b:Pk}{wp wa wb:Wd}{S:List (Pk×Wd)}
structure SI(ts:List Int)(qs:List ax.Qd)(f:FQ)(g0:Gs)(p:Pk)(wp:Wd)(g1:Gs):Prop where
 gi:GI ts qs f g1
 sl:g1.sl=g0.sl
 ak:g1.ak=g0.ak
 ord:Ord g1
 mono:∀x w,tJ g0 x w->tJ g1 x w
 st:∀x∈g0.st,x∈g1.st
 ok:N4 g1
 top:∀e∈g0.sl,e.2.length<=wp.length
 self:(p,wp)∈g0.sl
theorem SI.step(h:SI ts qs f g0 p wp g1)(hq:q∈qs)(qi:kI q.2.1=true)(ha:(a,wa)∈g0.sl)(hb:(b,wb)∈g0.sl)(e1:a.1=q.2.2.1)(e2:b.1=q.2.2.2)(hw:wa=wp\/wb=wp) :
  SI ts qs f g0 p wp (cQ f q a b wa wb g1)/\gg f (cQ f q a b wa wb g1) q a wa b wb/\∀q' a' kU b' kX,gg f g1 q' a' kU b' kX->gg f (cQ f q a b wa wb g1) q' a' kU b' kX:=by
 have hl:∀e∈g1.sl,e.2.length<(bj q wa wb).length:=λe he=>by
  rw[h.sl] at he;have:=h.top e he;rw[pG];rcases hw with e|e <;> rw[e] <;> lia
 have hU:(a,wa)∈g1.sl:=by rw[h.sl];exact ha
 have aG:(b,wb)∈g1.sl:=by rw[h.sl];exact hb
 refine⟨⟨ZlC h.gi hq hU aG e1 e2,by rw[zh];exact h.sl,by rw[Zln];exact h.ak,Zkg h.ord hl,λx w c=>O3 h.gi (h.mono x w c),λx hx=>by rw[y_];exact dN _ (h.st x hx),λe he=>?_,h.top,h.self⟩,ZjI h.gi hl,λq' a' kU b' kX c=>Zgi h.gi c⟩;rcases bV.mp he with he|he
 .rw[zh] at he;exact h.ok e (dN _ he)
 .rcases CJ he with he|⟨rfl,_⟩
  .exact h.ok e (cj _ he)
  .exact⟨Iv qi (h.ok _ (dN _ hU)).1 (h.ok _ (dN _ aG)).1,ZnY⟩
theorem SI.start(h:f6 ts qs f g)(hp:aT g.tl p=some wp)(uP:∀t∈g.tl,wp.length<=t.2.length):SI ts qs f (jz g p wp) p wp (jz g p wp):=by
 have hm:=nG hp;refine⟨Rb h.gi hp,rfl,rfl,Zlq h.ord hp uP,λ_ _ c=>c,λ_ c=>c,λe he=>?_,λe he=>?_,cj _ (aI.mpr rfl)⟩
 .have pm:=He hp;have eM:((g.sl ++ [(p,wp)])++pK g.tl p).Perm (g.sl++g.tl):=by
   rw[oP];exact Mv _ pm.symm
  exact h.ok e (eM.mem_iff.mp he)
 .rcases bV.mp he with he|he
  .exact h.ord e he _ hm
  .rw[aI.mp he];exact aD _
def IP(f:FQ)(g1:Gs)(S:List (Pk×Wd))(p:Pk)(wp:Wd)(l:List ax.Qd):Prop := ∀q∈l,∀a wa b wb,(a,wa)∈S->(b,wb)∈S->a.1=q.2.2.1->b.1=q.2.2.2->(a,wa)=(p,wp)\/(b,wb)=(p,wp)->gg f g1 q a wa b wb
theorem SI.fin(h:f6 ts qs f g)(hp:aT g.tl p=some wp)(s:SI ts qs f (jz g p wp) p wp g1)(d:IP f g1 (g.sl ++ [(p,wp)]) p wp qs)(hc:g1.st.length=dQ.cnt (g.sl ++ [(p,wp)]) qs) :
  f6 ts qs f { g1 with ak:=g1.ak ++ [p] }:=by
 have gk:g1.sl=g.sl ++ [(p,wp)]:=s.sl;refine⟨⟨s.gi.nd,s.gi.len,s.gi.sk,s.gi.EO,s.gi.fin,s.gi.xH,s.gi.xQ,s.gi.vm⟩,λq hq a wa b wb ha hb e1 e2=>?_,s.ord,?_,?_,s.ok⟩
 .have ha:(a,wa)∈g1.sl:=ha;have hb:(b,wb)∈g1.sl:=hb;rw[gk] at ha hb;have key:gg f g1 q a wa b wb:=by
   rcases bV.mp ha with hU|hU
   .rcases bV.mp hb with aG|aG
    .have c:=h.DF q hq a wa b wb hU aG e1 e2;exact⟨s.mono _ _ (ZiY hp c.1),s.st _ c.2⟩
    .exact d q hq a wa b wb ha hb e1 e2 (.inr (aI.mp aG))
   .exact d q hq a wa b wb ha hb e1 e2 (.inl (aI.mp hU))
  exact key
 .show g1.st.length=dQ.cnt g1.sl qs;rw[gk];exact hc
 .show g1.ak ++ [p]=g1.sl.map (·.1);rw[gk,s.ak,eN];show g.ak ++ [p]=_;rw[h.ak];rfl
end
def CG(P:aq)(w:ap)(C CM:Addr):Sp:=λvs H Q _=>∃(b:Addr)(H0:Hp)(d:Gd)(ts:List Int)(qs:List ax.Qd)(fm:FQ)(g:Gs)(p:Pk)(wp:Wd),vs=[.ref d.a,.ref b]/\a9 P w C CM H0 H d qs fm g/\aQ H b (pk p)/\aT g.tl p=some wp/\f6 ts qs fm g/\(∀t∈g.tl,wp.length<=t.2.length)/\g.sl.length<64/\ui fm/\(∀q∈qs,kI q.2.1=true)/\cnt (g.sl ++ [(p,wp)]) qs<=4000/\ts.length<=63 /\
 ∀d' H' g',a9 P w C CM H0 H' d' qs fm g'->f6 ts qs fm g'->g'.sl=g.sl ++ [(p,wp)]->d'.a=d.a->d'.dt=d.dt->(∀b xs,H b=some (.tup xs)->H' b=some (.tup xs))->Q .aB H'
structure k8(P:aq)(w:ap)(C CM:Addr)(H0 H3:Hp)(d:Gd)(ts:List Int)(qs:List ax.Qd)(fm:FQ)(g:Gs)(p:Pk)(wp:Wd)(j:Nat)(n:Nat)(g1:Gs)(H:Hp):Prop where
 gw:a9 P w C CM H0 H d qs fm g1
 si:SI ts qs fm (jz g p wp) p wp g1
 dn:IP fm g1 (g.sl ++ [(p,wp)]) p wp (qs.take j)
 ct:g1.st.length=cnt (g.sl ++ [(p,wp)]) (qs.take j)+cnt g.sl (qs.drop (j+1))+n
 kp:di d H3 H
variable{j:Nat}
theorem Qc(h:qs[j]?= some q):cnt S (qs.drop j)=nK S q.2.2.1*nK S q.2.2.2+cnt S (qs.drop (j+1)):=by
 obtain⟨h1,h2⟩:=de.mp h;rw[Bw h1,h2];rfl
theorem ZiC(S:List (Pk×Wd))(qs:List ax.Qd)(j:Nat):cnt S qs=cnt S (qs.take j)+cnt S (qs.drop j):=by
 unfold cnt;rw[<- MN,<- eN,List.take_append_drop]
theorem De(S:List (Pk×Wd))(p:Pk)(wp:Wd)(k:Int):nK S k<=nK (S ++ [(p,wp)]) k:=by
 rw[Qx];lia
theorem HW(S:List (Pk×Wd))(p:Pk)(wp:Wd):∀qs,cnt S qs<=cnt (S ++ [(p,wp)]) qs
 | []=>aD _
 | q::qs=>by
  have:=HW S p wp qs;have:=FO (De S p wp q.2.2.1) (De S p wp q.2.2.2);show nK S q.2.2.1*nK S q.2.2.2+cnt S qs<=nK (S ++ [(p,wp)]) q.2.2.1*nK (S ++ [(p,wp)]) q.2.2.2+cnt (S ++ [(p,wp)]) qs;lia
variable{i:Nat}
theorem PZ{k:Int}{x:Pk}(h:((S.map (·.1)).filter λx=>decide (x.1=k))[i]?= some x):∃w,(S.filter λe=>decide (e.1.1=k))[i]?= some (x,w)/\(x,w)∈S/\x.1=k:=by
 rw[MA,bM] at h;obtain⟨e,he,rfl⟩:=gB.mp h;have hm:=fA.mp (bW he);exact⟨e.2,he,hm.1,bC hm.2⟩
def C1(fm:FQ)(S:List (Pk×Wd))(p:Pk)(wp:Wd)(q:ax.Qd)(g1:Gs):Prop:=q.2.2.1=p.1->∀e∈S,e.1.1=q.2.2.2->gg fm g1 q p wp e.1 e.2
def C2(fm:FQ)(S:List (Pk×Wd))(p:Pk)(wp:Wd)(q:ax.Qd)(g1:Gs):Prop:=q.2.2.2=p.1->∀e∈S,e.1.1=q.2.2.1->gg fm g1 q e.1 e.2 p wp
def C3(fm:FQ)(p:Pk)(wp:Wd)(q:ax.Qd)(g1:Gs):Prop:=q.2.2.1=p.1->q.2.2.2=p.1->gg fm g1 q p wp p wp
variable{x:Int}
theorem Du(h:decide (V.int x=kV (aN y))=true):x=y:=by
 have h1:V.int x=V.int y:=bC h;injection h1
theorem Dc(h : ¬ decide (V.int x=kV (aN y))=true) : ¬ x=y:=λz=>h (aJ (by rw[z];rfl))
theorem Ob(B:∀x∈eG,mg x=none)(Cp:∃t:Tok,mg "MOST_TUPLES" = some (.int 64 t)) (aK:vZ K C) (z5:jr P w K mg base C "step" ["self","rule","within","behind"] 3 (zF P w C CM)) (F:ci K "settle" "Growth.settle" Zn f fd):br P w K mg base cA 4 f fd ["self","pair"] (CG P w C CM):=by
 refine F.ok Cu (λvs H Q E h=>?_) (λbg A outer s H vs Q E hr h=>?_)
 .obtain⟨b,H0,d,ts,qs,fm,g,p,wp,rfl,_⟩:=h;rfl
 obtain⟨b,H0,d,ts,qs,fm,g,p,wp,rfl,hG,hb,hp,aj,uP,h64,hL,qi,hcn,lJ,Q1⟩:=h;have cf:=nJ hr;have kg:(A.deeper (FY (cm "Growth.settle") (Zm Zn) s.heap.objs.size f bg)).units+1<cLine:=by have:=hr.un;lia
 obtain⟨t4,m4⟩:=Cp;have Zv8:=m4;have TL:d.kw.length=g.sl.length:=hG.jL.length;obtain⟨kt,t1,t2⟩:=id hG.jf;have hsz:=aj.gi.xQ;obtain⟨n1,n2,n3⟩:=Z8 aj.gi.nd;have Er:aT g.sl p=none:=by
  cases e:aT g.sl p with
  | none=>rfl
  | some w'=>exact absurd rfl (n3 (p,w') (nG e) (p,wp) (nG hp))
 obtain⟨c,v1,x1,m1⟩:∃c,valN kt (pk p)=some (.ref c)/\H c=some (.lst (wp.map V.str))/\c∉d.ml:=by
  rcases t2.val p with⟨h1,_⟩|⟨w',c,h1,h2,h3,h4⟩
  .rw[h1] at hp;cases hp
  .rw[h1] at hp;injection hp with hp;subst hp;exact⟨c,h2,h3,h4⟩
 have ZDN:g.st.length<=4000:=by
  rw[aj.cnt];exact cz (HW g.sl p wp qs) hcn
 refine Zr ((Zf Zn).drop 3) (Zh (ix (mr jl mZ m9 jS (PX (dX (pv 0) rfl) (ZR ZG (pv 1) Zg (λ_ _=>rfl)) (eU Ze) ⟨rfl,rfl,rfl,rfl⟩) (Zb (pv 1) Ze)))) (λu3 h3 e3=>?_);refine Zr ((Zz ((Zf Zn).getD 2 (.Pass ⟨0,0,0,0⟩))).drop 2) (Zh (cR (PW.pt (wI (ZC iy (ZR ZG (pv 2) Zg (λ_ _=>rfl)) (ZR ZG (pv 1) Zg (λ_ _=>rfl)) (ZM _)) (zk (ZC iy (ZR ZG (pv 2) Zg (λ_ _=>rfl)) (ZR ZG (pv 1) Zg (λ_ _=>rfl)) (ZM _)))))
   (Zh (ix (zi z5 hr (pv 0) aK.cls (Zb (pv 2) (Zb (pv 1) (Zb (pv 1) Ze))))))
   ZW)) (λBh JR Jk=>?_)
 refine Zr ((Zz ((Zz ((Zz ((Zf Zn).getD 2 (.Pass ⟨0,0,0,0⟩))).getD 1 (.Pass ⟨0,0,0,0⟩))).getD 0 (.Pass ⟨0,0,0,0⟩))).drop 0) (Zh (ix (zi z5 hr (pv 0) aK.cls (Zb (pv 2) (Zb (pv 4) (Zb (pv 1) Ze)))))) (λZEO Zxx Zwx=>?_);refine Zr ((Zz ((Zz ((Zf Zn).getD 2 (.Pass ⟨0,0,0,0⟩))).getD 1 (.Pass ⟨0,0,0,0⟩))).drop 0) (Zh (gG fX rfl (nO (HX kg (dX (pv 0) rfl) (ZR ZG (pv 2) Zg (λ_ _=>rfl)) (eU Ze) ⟨rfl,rfl,rfl,rfl⟩)) (Zt (i:=4) Cu.nd rfl (Or.inl rfl))
   Zxx)) (λZEN Zxw Zww=>?_)
 refine Zr ((Zz ((Zf Zn).getD 2 (.Pass ⟨0,0,0,0⟩))).drop 1) (Zd (cR (ZC iy (ZR ZG (pv 2) Zg (λ_ _=>rfl)) (ZR ZG (pv 1) Zg (λ_ _=>rfl)) (ZM _))
   Zxw
   ZW) JR) (λE_ JP Jj=>?_)
 refine Zr ((Zz ((Zz ((Zz ((Zf Zn).getD 2 (.Pass ⟨0,0,0,0⟩))).getD 0 (.Pass ⟨0,0,0,0⟩))).getD 0 (.Pass ⟨0,0,0,0⟩))).drop 0) (Zh (ix (zi z5 hr (pv 0) aK.cls (Zb (pv 2) (Zb (pv 1) (Zb (pv 3) Ze)))))) (λZEM Zxv Zwv=>?_);refine Zr ((Zz ((Zz ((Zf Zn).getD 2 (.Pass ⟨0,0,0,0⟩))).getD 0 (.Pass ⟨0,0,0,0⟩))).drop 0) (Zh (gG fX rfl (nO (HX kg (dX (pv 0) rfl) (ZR ZG (pv 2) Zg (λ_ _=>rfl)) (eU Ze) ⟨rfl,rfl,rfl,rfl⟩)) (Zt (i:=3) Cu.nd rfl (Or.inl rfl))
   Zxv)) (λZEL Zxu Zwu=>?_)
 refine Zr ((Zz ((Zf Zn).getD 2 (.Pass ⟨0,0,0,0⟩))).drop 0) (Zd (cR (ZC iy (ZR ZG (pv 2) Zg (λ_ _=>rfl)) (ZR ZG (pv 1) Zg (λ_ _=>rfl)) (ZM _))
   Zxu
   ZW) JP) (λVy JO Ji=>?_)
 refine Zr ((Zf Zn).drop 2) (Zd (gG fX rfl (mj (dX (pv 0) rfl)) (Zt (i:=2) Cu.nd rfl (Or.inl rfl))
   JO) h3) (λu2 h2 e2=>?_)
 refine Zr ((Zf Zn).drop 1) (Zd (rj cf (dX (pv 0) rfl) (pv 1) (Zm8 cf (dX (pv 0) rfl) (pv 1) ⟨rfl,rfl,rfl,rfl⟩) rfl) h2) (λu1 h1 e1=>?_);refine Zr ((Zf Zn).drop 0) (Zd (cR (ZC iy (Zu Hu rfl (B "len" (by decide)) gC (Zb (dX (pv 0) rfl) Ze)) (rh (v:=.int 64) rfl Zv8 ⟨_,rfl⟩) (ZM _))
   (Zh CN)
   ZW) h1) (λu0 h0 e0=>?_)
 refine⟨u0,h0,?_⟩;have cE:∀(d2:Gd)(H3:Hp),a9 P w C CM H0 H3 d2 qs fm (jz g p wp)->(∀b xs,H b=some (.tup xs)->H3 b=some (.tup xs))->d2.a=d.a->d2.dt=d.dt->u2 { nx:=λ_ H'=>Q .aB H',rt:=Q } [some (.ref d.a),some (.ref b),none,none,none] H3:=by
  intro d2 H3 eI UC j9 xj;have rM:=hb.mono UC;rw[<- j9];refine Zo e2 ?_;have si0:SI ts qs fm (jz g p wp) p wp (jz g p wp):=SI.start aj hp uP;have zr3:=eI.old _ _ eI.qy;have rq3:=eI.oz.keep (H':=H3) λb' xs e=>eI.old _ _ e;have iE:=eI.oz.length;refine⟨_,rfl,d2.a,C,d2.dx,_,_,rfl,eI.ins,aK.cls,aK.n1,rfl,d2.r,rfl,⟨_,az.of zr3⟩,wA (K:=K) (a:=d2.r) (xs:=d2.zr) (λj σ H1=>∃(y2 y3 y4:Option V)(g1:Gs),σ =[some (.ref d2.a),some (.ref b),y2,y3,y4]/\a9 P w C CM H0 H1 d2 qs fm g1/\SI ts qs fm (jz g p wp) p wp g1/\IP fm g1 (g.sl ++ [(p,wp)]) p wp (qs.take j)/\g1.st.length=cnt (g.sl ++ [(p,wp)]) (qs.take j)+cnt g.sl (qs.drop j)/\di d2 H3 H1)
   ⟨none,none,none,_,rfl,eI,si0,λq h=>(nomatch h),by rw[List.drop_zero,List.take_zero];show g.st.length=0+_;rw[aj.cnt];lia,di.of λ_ _ h=>h⟩ ?_ ?_ ?_⟩
  .rintro j σ H1 _ ⟨_,_,_,_,_,hw,_⟩;exact az.of (hw.old _ _ hw.qy)
  .refine lI ?_;rintro j x σ H1 hx ⟨y2,y3,y4,g1,rfl,fW,vl,DG,zV,EM⟩ Dn gT;obtain⟨rq,q,mK,rfl,Zzx⟩:=eI.oz.get j x hx;have qh:q∈qs:=bW mK;have vh:∀{H':Hp}{g':Gs},a9 P w C CM H0 H' d2 qs fm g'->H' rq=some (tq q):=λhw=>hw.old _ _ Zzx;have bH:∀{H':Hp},di d2 H3 H'->aQ H' b (pk p):=λkp=>rM.mono (eI.qp kp);have self:(p,wp)∈g.sl ++ [(p,wp)]:=cj _ (aI.mpr rfl);have vm:∀(g1:Gs)(H1:Hp)(n:Nat)(a b':Pk)(wa wb:Wd)(ba bb:Addr)(Q':VK)(E':XK),k8 P w C CM H0 H3 d2 ts qs fm g p wp j n g1 H1->n+1<=nK (g.sl ++ [(p,wp)]) q.2.2.1*nK (g.sl ++ [(p,wp)]) q.2.2.2->(a,wa)∈g.sl ++ [(p,wp)]->(b',wb)∈g.sl ++ [(p,wp)]->a.1=q.2.2.1->b'.1=q.2.2.2->(wa=wp\/wb=wp)->aQ H1 ba (pk a)->aQ H1 bb (pk b') ->
     (∀H',k8 P w C CM H0 H3 d2 ts qs fm g p wp j (n+1) (cQ fm q a b' wa wb g1) H'->gg fm (cQ fm q a b' wa wb g1) q a wa b' wb->(∀q' a' kU b2 kX,gg fm g1 q' a' kU b2 kX->gg fm (cQ fm q a b' wa wb g1) q' a' kU b2 kX)->di d2 H1 H'->Q' .aB H')->zF P w C CM [.ref d2.a,.ref rq,.ref ba,.ref bb] H1 Q' E':=by
    intro g1 H1 n a b' wa wb ba bb Q' E' md hn ha aG ip cY hww pa pb k;have kn:=(Z8 md.si.gi.nd).1;have gk:g1.sl=g.sl ++ [(p,wp)]:=md.si.sl;have ga:aT g1.sl a=some wa:=Zk kn (by rw[gk];exact ha);have gb:aT g1.sl b'=some wb:=Zk kn (by rw[gk];exact aG);have ma:(a,wa)∈g1.sl++g1.tl:=dN _ (by rw[gk];exact ha);have mb:(b',wb)∈g1.sl++g1.tl:=dN _ (by rw[gk];exact aG);obtain⟨oa,qo,iF⟩:=md.si.ok _ ma;obtain⟨ob,kb1,kb2⟩:=md.si.ok _ mb;have cC:g1.st.length<4000:=by
     have h1:=ZiC (g.sl ++ [(p,wp)]) qs j;have h2:=Qc (S:=g.sl ++ [(p,wp)]) mK;have h3:=HW g.sl p wp (qs.drop (j+1));have:=md.ct;lia
    have EA:=md.si.gi.xQ;obtain⟨ZN,cv,mono⟩:=md.si.step qh (qi q qh) ha aG ip cY hww;refine⟨rq,ba,bb,H0,d2,qs,fm,g1,q,a,b',wa,wb,rfl,md.gw,vh md.gw,pa,pb,ga,gb,hL,iF,kb2,qo,kb1,md.si.gi.len _ ma,md.si.gi.len _ mb,Iv (qi q qh) oa ob,λe he=>(md.si.ok e (cj _ he)).1,cC,by lia,by lia,λH' lT NV=>k H' ⟨lT,ZN,λq' bX a' kU b2 kX h1 h2 h3 h4 h5=>mono _ _ _ _ _ (md.dn q' bX a' kU b2 kX h1 h2 h3 h4 h5),?_,md.kp.trans NV⟩ cv mono NV⟩;rw[y_,cw,sO,md.ct];lia
   have uR:=λk=>Qx g.sl p wp k;have SS:∀(k:Int)(H':Hp)(g':Gs)(l0:Addr),a9 P w C CM H0 H' d2 qs fm g'->g'.ak=(jz g p wp).ak->H' l0=some (.lst [])->l0≠d2.ls->∃l zs,(bz d2.mm (aN k)).getD (.ref l0)=.ref l/\H' l=some (.lst zs)/\l≠d2.ls/\cp H' zs ((g.sl.map (·.1)).filter λx=>decide (x.1=k)):=by
    intro k H' g' l0 hw J4 dq qt;rw[<- aj.ak];have J4:g'.ak=g.ak:=J4;have h:=hw.iX.1 k;rw[J4] at h;rcases h with⟨h1,h2⟩|⟨l,zs,h1,h2,h3,h4,h5⟩
    .exact⟨l0,[],by rw[h1];rfl,dq,qt,by rw[h2];exact .nil⟩
    .exact⟨l,zs,by rw[h1];rfl,h2,h5,h3⟩
   have ZBl:∀(D:Ends)(g1:Gs)(H1:Hp)(y3 y4:Option V),k8 P w C CM H0 H3 d2 ts qs fm g p wp j (nK g.sl q.2.2.1*nK g.sl q.2.2.2+(if q.2.2.1=p.1 then nK g.sl q.2.2.2 else 0)+(if q.2.2.2=p.1 then nK g.sl q.2.2.1 else 0)) g1 H1->C1 fm g.sl p wp q g1->C2 fm g.sl p wp q g1->(∀y3 y4 g' H',k8 P w C CM H0 H3 d2 ts qs fm g p wp j (nK (g.sl ++ [(p,wp)]) q.2.2.1*nK (g.sl ++ [(p,wp)]) q.2.2.2) g' H'->C1 fm g.sl p wp q g'->C2 fm g.sl p wp q g'->C3 fm p wp q g'->D.nx [some (.ref d2.a),some (.ref b),some (.ref rq),y3,y4] H')->Bh D [some (.ref d2.a),some (.ref b),some (.ref rq),y3,y4] H1:=by
    intro D g1 H1 y3 y4 md Ac SX KK;refine Zo Jk ?_;have c9:=bH md.kp;obtain⟨cb,xg,Th⟩:=id c9;have no : ¬ (q.2.2.1=p.1/\q.2.2.2=p.1)->D.nx [some (.ref d2.a),some (.ref b),some (.ref rq),y3,y4] H1:=λlH=>by
     refine KK _ _ g1 H1 ?_ Ac SX λip cY=>absurd ⟨ip,cY⟩ lH;have hn:nK (g.sl ++ [(p,wp)]) q.2.2.1*nK (g.sl ++ [(p,wp)]) q.2.2.2=nK g.sl q.2.2.1*nK g.sl q.2.2.2+(if q.2.2.1=p.1 then nK g.sl q.2.2.2 else 0)+(if q.2.2.2=p.1 then nK g.sl q.2.2.1 else 0):=by
      rw[uR,uR];by_cases z1:q.2.2.1=p.1
      .have z2 : ¬ q.2.2.2=p.1:=λz2=>lH ⟨z1,z2⟩;simp only[ao z1.symm,ai (λz:p.1=q.2.2.2=>z2 z.symm),ao z1,ai z2,BF,FK,FP]
      .rw[ai (λz=>z1 z.symm),ai z1,BF,BF];by_cases z2:q.2.2.2=p.1
       .rw[ao z2.symm,ao z2,FN,MR]
       .rw[ai (λz=>z2 z.symm),ai z2];rfl
     rw[hn];exact md
    refine⟨_,rfl,rq,_,2,_,rfl,rfl,az.of (vh md.gw),rfl,_,rfl,b,_,0,_,rfl,rfl,az.of xg,rfl,rfl,_,rfl,cJ (λc1=>?_) (λc1=>dj (no λz=>Dc c1 z.1))⟩;have c1:=Du c1;refine⟨_,rfl,rq,_,3,_,rfl,rfl,az.of (vh md.gw),rfl,_,rfl,b,_,0,_,rfl,rfl,az.of xg,rfl,rfl,_,rfl,cJ (λc2=>?_) (λc2=>no λz=>Dc c2 z.2)⟩;have c2:=Du c2;refine⟨_,rfl,d2.a,d2.dx,_,rfl,md.gw.ins,rfl,_,rfl,_,rfl,_,rfl,?_⟩;unfold iz;dsimp only[List.cons_append,List.nil_append];have hn:nK (g.sl ++ [(p,wp)]) q.2.2.1*nK (g.sl ++ [(p,wp)]) q.2.2.2=nK g.sl q.2.2.1*nK g.sl q.2.2.2+(if q.2.2.1=p.1 then nK g.sl q.2.2.2 else 0)+(if q.2.2.2=p.1 then nK g.sl q.2.2.1 else 0)+1:=by
     rw[uR,uR,ao c1.symm,ao c2.symm,ao c1,ao c2,FK,FN,MR,FP];lia
    refine vm g1 H1 _ p p wp wp b b _ _ md (by rw[hn];exact aD _) self self c1.symm c2.symm (.inl rfl) c9 c9 λH5 md5 zW ve EN=>?_;rw[<- hn] at md5;exact KK _ _ _ H5 md5 (λip e he cY=>ve _ _ _ _ _ (Ac ip e he cY)) (λip e he cY=>ve _ _ _ _ _ (SX ip e he cY)) λ_ _=>zW
   have ZBk:∀(D:Ends)(g1:Gs)(H1:Hp)(y3 y4:Option V),k8 P w C CM H0 H3 d2 ts qs fm g p wp j (nK g.sl q.2.2.1*nK g.sl q.2.2.2+(if q.2.2.1=p.1 then nK g.sl q.2.2.2 else 0)) g1 H1->C1 fm g.sl p wp q g1->(∀y3 y4 g' H',k8 P w C CM H0 H3 d2 ts qs fm g p wp j (nK g.sl q.2.2.1*nK g.sl q.2.2.2+(if q.2.2.1=p.1 then nK g.sl q.2.2.2 else 0)+(if q.2.2.2=p.1 then nK g.sl q.2.2.1 else 0)) g' H'->C1 fm g.sl p wp q g'->C2 fm g.sl p wp q g'->Bh D [some (.ref d2.a),some (.ref b),some (.ref rq),y3,y4] H')->E_ D [some (.ref d2.a),some (.ref b),some (.ref rq),y3,y4] H1:=by
    intro D g1 H1 y3 y4 md Ac KK;refine Zo Jj ?_;have c9:=bH md.kp;obtain⟨cb,xg,Th⟩:=id c9;refine⟨_,rfl,rq,_,3,_,rfl,rfl,az.of (vh md.gw),rfl,_,rfl,b,_,0,_,rfl,rfl,az.of xg,rfl,rfl,_,rfl,cJ (λc1=>?_) (λc1=>?_)⟩
    .have c1:=Du c1;refine Zo Zww ?_;refine⟨_,rfl,d2.a,C,d2.dx,_,_,rfl,md.gw.ins,aK.cls,aK.n4,rfl,d2.da,rfl,.inl ⟨d2.mm,.inl md.gw.fI⟩,_,rfl,rq,_,2,_,rfl,rfl,az.of (vh md.gw),rfl,by decide,λl0 dq=>?_⟩;have s1:Zj H1 (upd H1 l0 (.lst [])):=Zj.new dq;have Jo:(upd H1 l0 (.lst [])) l0=some (.lst []):=Za;have qt:l0≠d2.ls:=λz=>by
      obtain⟨xs,hx⟩:=md.gw.lK _ md.gw.jI;rw[<- z,dq] at hx;cases hx
     have jd:k8 P w C CM H0 H3 d2 ts qs fm g p wp j (nK g.sl q.2.2.1*nK g.sl q.2.2.2+(if q.2.2.1=p.1 then nK g.sl q.2.2.2 else 0)) g1 (upd H1 l0 (.lst [])):=⟨md.gw.same s1,md.si,md.dn,md.ct,md.kp.trans (di.of s1)⟩
     obtain⟨l,zs,JH,uB,JJ,uC⟩:=SS q.2.2.1 _ g1 l0 jd.gw jd.si.ak Jo qt;generalize upd H1 l0 (.lst [])=H2 at jd uB uC ⊢;refine⟨_,mv.k (k:=aN q.2.2.1) jd.gw.fI,?_⟩;rw[JH];have EE:zs.length=nK g.sl q.2.2.1:=by
      rw[uC.length,MA,aF];rfl
     refine⟨l,rfl,⟨_,au.of uB⟩,pH (K:=K) (a:=l) (xs:=zs) (λi σ H1=>∃(y4:Option V)(g1:Gs),σ =[some (.ref d2.a),some (.ref b),some (.ref rq),y3,y4]/\k8 P w C CM H0 H3 d2 ts qs fm g p wp j (nK g.sl q.2.2.1*nK g.sl q.2.2.2+(if q.2.2.1=p.1 then nK g.sl q.2.2.2 else 0)+i) g1 H1/\(∀e∈(g.sl.filter λe=>decide (e.1.1=q.2.2.1)).take i,gg fm g1 q e.1 e.2 p wp)/\di d2 H2 H1/\C1 fm g.sl p wp q g1)
      ⟨_,g1,rfl,jd,λe he=>(nomatch he),di.of λ_ _ h=>h,Ac⟩ ?_ ?_ ?_⟩
     .rintro i σ H4 _ ⟨_,_,_,_,_,mN,_⟩;exact au.of (jd.gw.AX mN _ _ JJ uB)
     .refine lI ?_;rintro i x σ H4 hx ⟨yy,g4,rfl,km,pR,mN,J7⟩ D1 vf;obtain⟨bb,pr,gx,rfl,LM⟩:=uC.get i x hx;obtain⟨wr,f1,f2,f3⟩:=PZ gx;have il:=(de.mp hx).1;refine Zo Zwx ?_;refine⟨_,rfl,d2.a,d2.dx,_,rfl,km.gw.ins,rfl,_,rfl,_,rfl,_,rfl,?_⟩;unfold iz;dsimp only[List.cons_append,List.nil_append];have hle:nK g.sl q.2.2.1*nK g.sl q.2.2.2+(if q.2.2.1=p.1 then nK g.sl q.2.2.2 else 0)+i+1<=nK (g.sl ++ [(p,wp)]) q.2.2.1*nK (g.sl ++ [(p,wp)]) q.2.2.2:=by
       have h0:nK g.sl q.2.2.1*nK g.sl q.2.2.2+(if q.2.2.1=p.1 then nK g.sl q.2.2.2 else 0)=nK (g.sl ++ [(p,wp)]) q.2.2.1*nK g.sl q.2.2.2:=by
        rw[uR];by_cases z1:q.2.2.1=p.1
        .rw[ao z1,ao z1.symm,FK,FP]
        .rw[ai z1,ai (λz=>z1 z.symm)];rfl
       have h2:=De g.sl p wp q.2.2.1;rw[h0,uR q.2.2.2,ao c1.symm,FN,MR];lia
      refine vm g4 H4 _ pr p wr wp bb b _ _ km hle (dN _ f2) self f3 c1.symm (.inr rfl) (LM.mono (jd.gw.qp mN)) (bH km.kp) λH5 md5 zW ve EN=>vf _ _ ⟨_,_,rfl,md5,λe he=>?_,mN.trans EN,λz1 e he z2=>ve _ _ _ _ _ (J7 z1 e he z2)⟩;rw[Zq f1] at he;rcases bV.mp he with he|he
      .exact ve _ _ _ _ _ (pR e he)
      .rw[aI.mp he];exact zW
     .rintro σ H4 ⟨yy,g4,rfl,km,pR,mN,J7⟩;rw[EE] at km pR;have ce:∀e∈g.sl,e.1.1=q.2.2.1->gg fm g4 q e.1 e.2 p wp:=λe he cY=>pR e (by
       unfold nK;rw[d_];exact fA.mpr ⟨he,aJ cY⟩)
      exact KK _ _ g4 H4 (by simp only[ao c1];exact km) J7 (λ_ e he cY=>ce e he cY)
    .have c1:=Dc c1;exact KK _ _ g1 H1 (by simp only[ai c1];exact md) Ac λz=>absurd z c1
   have ZBj:∀(D:Ends)(g1:Gs)(H1:Hp)(y3 y4:Option V),k8 P w C CM H0 H3 d2 ts qs fm g p wp j (nK g.sl q.2.2.1*nK g.sl q.2.2.2) g1 H1->(∀y3 y4 g' H',k8 P w C CM H0 H3 d2 ts qs fm g p wp j (nK g.sl q.2.2.1*nK g.sl q.2.2.2+(if q.2.2.1=p.1 then nK g.sl q.2.2.2 else 0)) g' H'->C1 fm g.sl p wp q g'->E_ D [some (.ref d2.a),some (.ref b),some (.ref rq),y3,y4] H')->Vy D [some (.ref d2.a),some (.ref b),some (.ref rq),y3,y4] H1:=by
    intro D g1 H1 y3 y4 md KK;refine Zo Ji ?_;have c9:=bH md.kp;obtain⟨cb,xg,Th⟩:=id c9;refine⟨_,rfl,rq,_,2,_,rfl,rfl,az.of (vh md.gw),rfl,_,rfl,b,_,0,_,rfl,rfl,az.of xg,rfl,rfl,_,rfl,cJ (λc1=>?_) (λc1=>?_)⟩
    .have c1:=Du c1;refine Zo Zwu ?_;refine⟨_,rfl,d2.a,C,d2.dx,_,_,rfl,md.gw.ins,aK.cls,aK.n4,rfl,d2.da,rfl,.inl ⟨d2.mm,.inl md.gw.fI⟩,_,rfl,rq,_,3,_,rfl,rfl,az.of (vh md.gw),rfl,by decide,λl0 dq=>?_⟩;have s1:Zj H1 (upd H1 l0 (.lst [])):=Zj.new dq;have Jo:(upd H1 l0 (.lst [])) l0=some (.lst []):=Za;have qt:l0≠d2.ls:=λz=>by
      obtain⟨xs,hx⟩:=md.gw.lK _ md.gw.jI;rw[<- z,dq] at hx;cases hx
     have jd:k8 P w C CM H0 H3 d2 ts qs fm g p wp j (nK g.sl q.2.2.1*nK g.sl q.2.2.2) g1 (upd H1 l0 (.lst [])):=⟨md.gw.same s1,md.si,md.dn,md.ct,md.kp.trans (di.of s1)⟩;obtain⟨l,zs,JH,uB,JJ,uC⟩:=SS q.2.2.2 _ g1 l0 jd.gw jd.si.ak Jo qt;generalize upd H1 l0 (.lst [])=H2 at jd uB uC ⊢;refine⟨_,mv.k (k:=aN q.2.2.2) jd.gw.fI,?_⟩;rw[JH];have EE:zs.length=nK g.sl q.2.2.2:=by
      rw[uC.length,MA,aF];rfl
     refine⟨l,rfl,⟨_,au.of uB⟩,pH (K:=K) (a:=l) (xs:=zs) (λi σ H1=>∃(y3:Option V)(g1:Gs),σ =[some (.ref d2.a),some (.ref b),some (.ref rq),y3,y4]/\k8 P w C CM H0 H3 d2 ts qs fm g p wp j (nK g.sl q.2.2.1*nK g.sl q.2.2.2+i) g1 H1/\(∀e∈(g.sl.filter λe=>decide (e.1.1=q.2.2.2)).take i,gg fm g1 q p wp e.1 e.2)/\di d2 H2 H1)
      ⟨_,g1,rfl,jd,λe he=>(nomatch he),di.of λ_ _ h=>h⟩ ?_ ?_ ?_⟩
     .rintro i σ H4 _ ⟨_,_,_,_,_,mN⟩;exact au.of (jd.gw.AX mN _ _ JJ uB)
     .refine lI ?_;rintro i x σ H4 hx ⟨yy,g4,rfl,km,pR,mN⟩ D1 vf;obtain⟨bb,pr,gx,rfl,LM⟩:=uC.get i x hx;obtain⟨wr,f1,f2,f3⟩:=PZ gx;have il:=(de.mp hx).1;refine Zo Zwv ?_;refine⟨_,rfl,d2.a,d2.dx,_,rfl,km.gw.ins,rfl,_,rfl,_,rfl,_,rfl,?_⟩;unfold iz;dsimp only[List.cons_append,List.nil_append];have hle:nK g.sl q.2.2.1*nK g.sl q.2.2.2+i+1<=nK (g.sl ++ [(p,wp)]) q.2.2.1*nK (g.sl ++ [(p,wp)]) q.2.2.2:=by
       have h1:(nK g.sl q.2.2.1+1)*nK g.sl q.2.2.2<=nK (g.sl ++ [(p,wp)]) q.2.2.1*nK (g.sl ++ [(p,wp)]) q.2.2.2:=FO (by rw[uR,ao c1.symm];exact aD _) (De ..);rw[FK,FP] at h1;lia
      refine vm g4 H4 _ p pr wp wr b bb _ _ km hle self (dN _ f2) c1.symm f3 (.inl rfl) (bH km.kp) (LM.mono (jd.gw.qp mN)) λH5 md5 zW ve EN=>vf _ _ ⟨_,_,rfl,md5,λe he=>?_,mN.trans EN⟩;rw[Zq f1] at he;rcases bV.mp he with he|he
      .exact ve _ _ _ _ _ (pR e he)
      .rw[aI.mp he];exact zW
     .rintro σ H4 ⟨yy,g4,rfl,km,pR,mN⟩;rw[EE] at km pR;have ce:∀e∈g.sl,e.1.1=q.2.2.2->gg fm g4 q p wp e.1 e.2:=λe he cY=>pR e (by
       unfold nK;rw[d_];exact fA.mpr ⟨he,aJ cY⟩)
      exact KK _ _ g4 H4 (by rw[ao c1];exact km) (λ_ e he cY=>ce e he cY)
    .have c1:=Dc c1;exact KK _ _ g1 H1 (by rw[ai c1];exact md) λz=>absurd z c1
   refine ZBj _ g1 H1 y3 y4 ⟨fW,vl,DG,by rw[zV,Qc mK];lia,EM⟩ λy3 y4 g5 H5 md5 j6=>?_;refine ZBk _ g5 H5 y3 y4 md5 j6 λy3 y4 g6 H6 md6 j6 gM=>?_;refine ZBl _ g6 H6 y3 y4 md6 j6 gM λy3 y4 g7 H7 A0 j6 gM Tj=>gT _ _ ⟨_,_,_,g7,rfl,A0.gw,A0.si,λq' bX a wa b' wb ha aG ip cY T_=>?_,?_,A0.kp⟩
   .rw[Zq mK] at bX;rcases bV.mp bX with bX|bX
    .exact A0.dn q' bX a wa b' wb ha aG ip cY T_
    .rw[aI.mp bX] at ip cY ⊢;rcases T_ with ho|ho
     .injection ho with eJ cB;subst eJ cB;rcases bV.mp aG with aG|aG
      .exact j6 ip.symm _ aG cY
      .injection aI.mp aG with c9 i6;subst c9 i6;exact Tj ip.symm cY.symm
     .injection ho with eJ cB;subst eJ cB;rcases bV.mp ha with ha|ha
      .exact gM cY.symm _ ha ip
      .injection aI.mp ha with c9 i6;subst c9 i6;exact Tj ip.symm cY.symm
   .rw[A0.ct,Zq mK,ZkU];lia
  .rintro σ H1 ⟨y2,y3,y4,g1,rfl,fW,vl,DG,zV,EM⟩;rw[iE,d_] at DG zV;rw[Wy] at zV;have fin:=SI.fin aj hp vl DG zV;have Al:aQ H1 b (pk p):=rM.mono (eI.qp EM);have Lp:∀b' xs,H b'=some (.tup xs)->H1 b'=some (.tup xs):=λb' xs e=>eI.qp EM _ _ (UC _ _ e);have mmn:d2.mm.length<=64:=by
    have h1:=fW.sq;have h2:g1.ak=g.ak:=vl.ak;rw[h2,aj.ak,aF] at h1;lia
   obtain⟨cb,Zye,ZDL⟩:=id Al;show u3 _ _ _;refine Zo e3 ?_;refine⟨_,rfl,d2.a,C,d2.dx,_,_,rfl,fW.ins,aK.cls,aK.n4,rfl,d2.da,rfl,.inl ⟨d2.mm,.inl fW.fI⟩,_,rfl,b,_,0,_,rfl,rfl,az.of Zye,rfl,by decide,λl0 dq=>?_⟩;have sm:Zj H1 (upd H1 l0 (.lst [])):=Zj.new dq;refine⟨d2.mm,aN p.1,sm _ _ fW.fI,rfl,by rw[bu];lia,λv hv=>?_,λhn=>?_⟩
   .have jG:=fW.same sm;rcases jG.iX.1 p.1 with⟨h1,_⟩|⟨l,zs,h1,h2,h3,h4,h5⟩
    .rw[h1] at hv;cases hv
    .rw[h1] at hv;injection hv with hv;subst hv;have EF:zs.length<=64:=by
      have h6:g1.ak=g.ak:=vl.ak;rw[h3.length,h6,aj.ak];refine cz (Bz ..) ?_;rw[aF];lia
     refine⟨.inl ⟨rfl,_,au.of h2⟩,_,rfl,l,_,_,rfl,rfl,h2,by rw[bu];lia,?_⟩;exact Q1 d2 _ { g1 with ak:=g1.ak ++ [p] } (jG.Zv2 (Al.mono λb' xs e=>sm _ _ e) h1 h2) fin vl.sl j9 xj λb' xs e=>by
      rw[Zc (λz=>by rw[z] at e;have:=sm _ _ (Lp _ _ e);rw[h2] at this;cases this)];exact sm _ _ (Lp _ _ e)
   .have Lz:l0≠d2.da:=λz=>by rw[z,fW.fI] at dq;cases dq
    have e9:(upd (upd H1 l0 (.lst [])) d2.da (.dK (putK d2.mm (aN p.1) (.ref l0)))) l0=some (.lst []):=by
     rw[Zc Lz];exact Za
    refine⟨.inl ⟨rfl,_,au.of e9⟩,_,rfl,l0,_,_,rfl,rfl,e9,by decide,?_⟩;exact Q1 { d2 with mm:=putK d2.mm (aN p.1) (.ref l0),ml:=l0::d2.ml } _ { g1 with ak:=g1.ak ++ [p] } (a9.Zv1 fW Al hn dq rfl) fin vl.sl j9 xj λb' xs e=>by
     have e1:=Lp _ _ e;rw[Zc (Zi e1 dq),Zc (λz=>by rw[z,fW.fI] at e1;cases e1),Zc (Zi e1 dq)];exact e1
 refine Zo e0 ?_;refine⟨_,rfl,d.a,C,d.dx,_,_,rfl,hG.ins,aK.cls,aK.n3,rfl,d.dw,d.kw,rfl,hG.dI.r,rfl,_,rfl,?_⟩;refine cJ (λc=>absurd (bC c) (by intro z;injection z with z;lia)) (λ_=>?_);refine Zo e1 ?_;refine⟨_,rfl,d.a,C,d.dx,_,_,rfl,hG.ins,aK.cls,aK.n6,rfl,d.dt,rfl,⟨_,t1.r⟩,_,rfl,b,kt,pk p,_,rfl,t1,hb,v1,?_⟩;have eI:=hG.pop t1 t2 hb x1 m1 Er;have nDA:d.a≠d.dt:=λz=>by have:=hG.ins;rw[z,t1.1] at this;cases this
 have wr2:b_ P w (upd H d.dt (Zv P w d.dt (jy kt (pk p)))) d.dw d.kw:=ZZ hG.dI (Zc hG.n1) λb' xs e=>by
  rw[Zc (λz=>by rw[z,t1.1] at e;cases e)];exact e
 have i6:aQ (upd H d.dt (Zv P w d.dt (jy kt (pk p)))) b (pk p):=hb.mono λb' xs e=>by
  rw[Zc (λz=>by rw[z,t1.1] at e;cases e)];exact e
 refine⟨_,rfl,d.a,C,d.dx,_,_,rfl,by rw[Zc nDA];exact hG.ins,aK.cls,aK.n3,rfl,_,rfl,d.dw,b,d.kw,_,rfl,rfl,wr2,i6,by rw[bu];lia,?_⟩;exact cE { d with kw:=putN d.kw (pk p) b (.ref c) } _ eI (λb' xs e=>by
  rw[Zc (λz=>by rw[z,hG.dI.1] at e;cases e),Zc (λz=>by rw[z,t1.1] at e;cases e)];exact e) rfl rfl
theorem Ot:∀{ae m:List (ZQ×Addr×V)},((m++ae).map (·.1)).Nodup->ae.foldl (λm kv=>putN m kv.1 kv.2.1 kv.2.2) m=m++ae
 | [],m,_=>(gW m).symm
 | x::ae,m,h=>by
  have e:putN m x.1 x.2.1 x.2.2=m ++ [x]:=by
   unfold putN;rw[ai];intro z;obtain⟨y,h1,h2⟩:=yf.mp z;rw[eN,BD] at h;exact h.2.2 _ (aX.mpr ⟨y,h1,rfl⟩) x.1 (aX.mpr ⟨x,bw ..,rfl⟩) (bC h2)
  rw[yh,e,Ot (by rw[oP];exact h),oP];rfl
theorem ZmO(h:(ae.map (·.1)).Nodup):C8 ae=ae:=Ot (m:=[]) h
def zA(one fm:FQ):Gs:=⟨[],one.ts.map λk=>((k,fm.ts),[]),[],[],[]⟩
theorem Zij(one fm:FQ)(h:one.ts.Nodup):((one.ts.map λk=>(((k,fm.ts):Pk),([]:Wd))).map (·.1)).Nodup:=by
 rw[ij];exact iK.mpr (Wu (λaY e=>aY (congrArg FW e)) h)
variable{fm:FQ}
theorem tZ{one:FQ}(h:one.ts.Nodup)(hf:fm.ts.Nodup/\fm.ts.length<=63):f6 one.ts one.qs fm (zA one fm):=by
 have hm:∀e∈(zA one fm).sl++(zA one fm).tl,∃k∈one.ts,e=((k,fm.ts),[]):=λe he=>by
  obtain⟨k,hk,rfl⟩:=aX.mp (show e∈one.ts.map _ from he);exact⟨k,hk,rfl⟩
 refine⟨⟨Zij one fm h,λe he=>?_,λi e he=>(nomatch he),λe he=>.inl (hm e he),λk hk=>aX.mpr ⟨k,hk,rfl⟩,λp hp=>(nomatch hp),?_,λx hx=>(nomatch hx)⟩,λq _ a wa b wb ha=>(nomatch ha),λe he=>(nomatch he),?_,rfl,λe he=>?_⟩
 .obtain⟨k,_,rfl⟩:=hm e he;exact bG _
 .show(one.ts.map _).length+0<=0+one.ts.length;rw[aF];lia
 .show 0=cnt [] one.qs;have:∀qs,cnt [] qs=0:=λqs=>by
   have:=II (S:=[]) (n:=0) (λk=>aD _) qs
   simpa using this
  rw[this]
 .obtain⟨k,_,rfl⟩:=hm e he;exact⟨λx hx=>(nomatch hx),hf⟩
def lY(H:Hp)(us:List V)(kt:List (ZQ×Addr×V)):Prop:=ck (λ(y:V)(kv:ZQ×Addr×V)=>∃t,y=.ref t/\H t=some (.tup [.ref kv.2.1,kv.2.2])/\aQ H kv.2.1 kv.1) us kt
theorem lY.keep(k:∀b xs,H b=some (.tup xs)->H' b=some (.tup xs)):∀{us:List V}{kt:List (ZQ×Addr×V)},lY H us kt->lY H' us kt:=by
 intro us kt h;refine ck.kl h λ_ _ z=>?_;obtain⟨t,h1,h2,h3⟩:=z;exact⟨t,h1,k _ _ h2,h3.mono k⟩
theorem lY.snoc{key:ZQ}{v:V}(h2:H t=some (.tup [.ref b,v]))(h3:aQ H b key):∀{us:List V}{kt:List (ZQ×Addr×V)},lY H us kt->lY H (us ++ [.ref t]) (kt ++ [(key,b,v)]):=λh=>sU h ⟨t,rfl,h2,h3⟩
theorem lY.at:∀{us:List V}{kt:List (ZQ×Addr×V)},lY H us kt->∀x∈kt,aQ H x.2.1 x.1:=by
 intro us kt h x hx;obtain⟨_,_,t,_,_,h3⟩:=ck.UP h hx;exact h3
def Di(P:aq)(w:ap)(C CM:Addr):Sp:=λvs H Q _=>∃(a p m dx:Addr)(H0:Hp)(one fm:FQ),vs=[.ref a,.ref p,.ref m]/\H a=some (.ins C dx [])/\Zj H0 H/\H0 a=none/\fF H0 p one/\gK CM H0 m fm/\one.ts.length<=63/\one.ts.Nodup /\
 ∀d H',a9 P w C CM H0 H' d one.qs fm (zA one fm)->d.a=a->Q .aB H'
theorem Of(B:∀x∈eG,mg x=none)(aK:vZ K C)(Jf:iu K CM)(Zxk:jr P w K mg base CM "nothing" ["self"] 1 (CA CM)) (F:ci K "__init__" "Growth.__init__" Zy f fd):br P w K mg base cA 2 f fd ["self","form","measure"] (Di P w C CM):=by
 refine F.ok Og (λvs H Q E h=>?_) (λbg A outer s H vs Q E hr h=>?_)
 .obtain⟨a,p,m,dx,H0,one,fm,rfl,_⟩:=h;rfl
 obtain⟨a,p,m,dx,H0,one,fm,rfl,hA,s0,DX,hF,hK,AN,lJ,Q1⟩:=h;have Um:=Pn hr;obtain⟨f1,f2,f3,zf,a1,a2,a3,a4,a5⟩:=hF;obtain⟨Jh,mh1,mh2,mdd,mmm,Lq,_⟩:=id hK;have nA:∀b o,H0 b=some o->b≠a:=λb o e z=>by rw[z,DX] at e;cases e
 refine Zr ((Zf Zy).drop 7) (Zh (nN (pv 0) ze rfl)) (λu7 h7 e7=>?_);refine Zr ((Zf Zy).drop 6) (Zd (nN (pv 0) (lq (ZdR rfl Um) rfl (B "dict" (by decide)) Ij (Zb (zj (cl:=_) ["end"] [("nothing",3)] (mj (ZR ZG (pv 1) Zg (λ_ _=>rfl))) (λ_ _ _ _=>(Zt (i:=0) (show kD (["end","nothing"]:List Str) by decide) rfl (Or.inl rfl))) (λ_ _ _ _=>(dU (Zb (dU (Zb (pv 0) (Zb (pv 1) Ze))) (Zb (eU Ze) Ze)))) rfl rfl (by decide) rfl (by decide) (lr (by(repeat' first|exact bU _|refine bT.mpr ⟨?_,?_⟩) <;> rfl)) (mn (by(repeat' first|exact bU _|refine bT.mpr ⟨?_,?_⟩) <;> first|(intro h;exact⟨_,rfl⟩)|(intro h;exact absurd h (by decide)))) (λ_=>by(repeat' first|exact bU _|refine bT.mpr ⟨?_,?_⟩) <;> exact⟨rfl,rfl,Or.inl rfl⟩) (λ_=>rfl)) Ze)) rfl) h7) (λu6 h6 e6=>?_)
 refine Zr ((Zf Zy).drop 5) (Zd (Zx (i:=3) Og.nd rfl (Or.inr rfl) (ZlF Zxk hr (pv 2) Jf)) h6) (λu5 h5 e5=>?_);refine Zr ((Zf Zy).drop 4) (Zd (nN (pv 0) (eU Ze) rfl) h5) (λu4 h4 e4=>?_);refine Zr ((Zf Zy).drop 3) (Zd (nN (pv 0) HJ rfl) h4) (λu3 h3 e3=>?_);refine Zr ((Zf Zy).drop 2) (Zd (nN (pv 0) ze rfl) h3) (λu2 h2 e2=>?_);refine Zr ((Zf Zy).drop 1) (Zd (nN (pv 0) (pv 2) rfl) h2) (λu1 h1 e1=>?_);refine Zr ((Zf Zy).drop 0) (Zd (nN (pv 0) (ZR ZG (pv 1) Zg (λ_ _=>rfl)) rfl) h1) (λu0 h0 e0=>?_);refine⟨u0,h0,?_⟩;have mS:∀(r dw da ls dt:Addr)(kt:List (ZQ×Addr×V))(H7:Hp)(y3:Option V),H7 a=some (.ins C dx [("rules",.ref f3),("measure",.ref m),("words",.ref dw),("at_kind",.ref da),("steps",.ref ls),("waiting",.ref dt)])->Zj H0 H7->b_ P w H7 dw []->H7 da=some (.dK [])->H7 ls=some (.lst [])->b_ P w H7 dt kt->bA H7 [ls] kt (one.ts.map λk=>((k,fm.ts),[]))->dw≠dt->(∀b ∈ [a,dw,da,ls,dt],H0 b=none)->u7 { nx:=λ_ H'=>Q .aB H',rt:=Q } [some (.ref a),some (.ref p),some (.ref m),y3] H7:=by
  intro r dw da ls dt kt H7 y3 eA sm eW eD eL eT eTw nwt fr;refine Zo e7 ?_;refine λdb dG=>?_;have gS:∀b o,H7 b=some o->b≠db:=λb o e z=>by rw[z,dG] at e;cases e
  refine⟨_,rfl,a,C,dx,_,rfl,(by rw[Zc (gS _ _ eA)];exact eA),aK.cls,aK.n7,(by show 6<1000;decide),?_⟩;have kb:∀b o,b≠a->H7 b=some o->(upd (upd H7 db (Zv P w db [])) a (.ins C dx (eX "beyond" (.ref db) [("rules",.ref f3),("measure",.ref m),("words",.ref dw),("at_kind",.ref da),("steps",.ref ls),("waiting",.ref dt)]))) b=some o:=λb o n e=>by
   rw[Zc n,Zc (gS _ _ e)];exact e
  have nn:∀b o,H7 b=some o->(∀c dx fs,o ≠ .ins c dx fs)->b≠a:=λb o e n z=>by
   rw[z,eA] at e;injection e with e;exact n _ _ _ e.symm
  have kT:∀b xs,H7 b=some (.tup xs)->(upd (upd H7 db (Zv P w db [])) a (.ins C dx (eX "beyond" (.ref db) [("rules",.ref f3),("measure",.ref m),("words",.ref dw),("at_kind",.ref da),("steps",.ref ls),("waiting",.ref dt)]))) b=some (.tup xs):=λb xs e=>kb b _ (nn _ _ e λ_ _ _ z=>nomatch z) e
  have nx:∀b ae,H7 b=some (Zv P w b ae)->b≠a:=λb ae e=>nn _ _ e λ_ _ _ z=>nomatch z
  refine Q1 ⟨a,dx,f3,m,dw,da,ls,dt,db,zf,[],[],[ls]⟩ _ ?_ rfl;have ZAG:db≠a:=λz=>gS _ _ eA z.symm;refine⟨Za,a4,a5,hK,ZZ eW (by rw[Zc (nx _ _ eW.1),Zc (gS _ _ eW.1)]) kT,.nil,kb _ _ (nn _ _ eD λ_ _ _ z=>nomatch z) eD,⟨λk=>.inl ⟨rfl,rfl⟩,λk k' l h=>(nomatch h)⟩,⟨kt,ZZ eT (by rw[Zc (nx _ _ eT.1),Zc (gS _ _ eT.1)]) kT,eTw.keep λc ws hc e=>⟨kb c _ (nn _ _ e λ_ _ _ z=>nomatch z) e,hc⟩⟩,⟨[],⟨by rw[Zc ZAG];exact Za,λx hx=>(nomatch hx)⟩,rfl⟩,⟨[],kb _ _ (nn _ _ eL λ_ _ _ z=>nomatch z) eL,.nil⟩,bw ..,nwt,λz=>gS _ _ eW.1 z,λz=>gS _ _ eT.1 z,λb o e=>kb b o (nA b o e) (sm b o e),λb hb=>?_,aD _,λb hb=>?_⟩
  .rw[aI.mp hb];exact⟨_,kb ls _ (nn _ _ eL λ_ _ _ z=>nomatch z) eL⟩
  .simp only[a8,oV,o8] at hb;rcases hb with rfl|rfl|rfl|rfl|rfl|rfl
   .exact fr _ (by simp)
   .exact fr _ (by simp)
   .exact fr _ (by simp)
   .exact fr _ (by simp)
   .cases z:H0 b with
    | none=>rfl
    | some o=>exact absurd rfl (gS _ _ (sm _ _ z))
   .exact fr _ (by simp)
 have jH:∀{Hn:Hp}{fs vS:List (Str×V)},Hn a=some (.ins C dx fs)->∀b o,Hn b=some o->(∀c dx fs,o ≠ .ins c dx fs)->(upd Hn a (.ins C dx vS)) b=some o:=λ{Hn fs vS} eA b o e n=>by
  rw[Zc]
  .exact e
  .intro z;rw[z,eA] at e;injection e with e;exact n _ _ _ e.symm
 have xD:∀{Hn:Hp}{vS:List (Str×V)},Zj H0 Hn->Zj H0 (upd Hn a (.ins C dx vS)):=λsm b o e=>by
  rw[Zc (nA b o e)];exact sm b o e
 have fresh:∀{Hn:Hp}{b:Addr},Zj H0 Hn->Hn b=none->H0 b=none:=λ{Hn b} sm e=>by
  cases z:H0 b with
  | none=>rfl
  | some o =>
   have:=sm _ _ z;rw[e] at this;cases this
 have st6:∀(dw da ls rn:Addr)(H6:Hp),H6 a=some (.ins C dx [("rules",.ref f3),("measure",.ref m),("words",.ref dw),("at_kind",.ref da),("steps",.ref ls)])->Zj H0 H6->b_ P w H6 dw []->H6 da=some (.dK [])->H6 ls=some (.lst [])->H6 rn=some (.tup (fm.ts.map V.int))->(∀b ∈ [a,dw,da,ls],H0 b=none)->u6 { nx:=λ_ H'=>Q .aB H',rt:=Q } [some (.ref a),some (.ref p),some (.ref m),some (.ref rn)] H6:=by
  intro dw da ls rn H6 eA sm eW eD eL eR fr;refine Zo e6 ?_;have z2:=sm _ _ a1;have z3:=sm _ _ a3;refine⟨_,rfl,p,_,2,_,rfl,rfl,az.of z2,rfl,f2,rfl,⟨_,az.of z3⟩,λpm dH=>HB (K:=K) (a:=f2) (p:=pm) (xs:=one.ts.map V.int) (λj us σ H1=>∃v0:Option V,σ =[v0,some (.ref rn)]/\Zj H6 H1/\H1 pm=some (.lst us)/\us.length=j/\∃kt:List (ZQ×Addr×V),lY H1 us kt/\bA H1 [ls,pm] kt ((one.ts.take j).map λk=>(((k,fm.ts):Pk),([]:Wd))))
   ⟨none,rfl,Zj.new dH,Za,rfl,[],.nil,.nil⟩ ?_ ?_ ?_⟩
  .rintro j us σ H1 _ ⟨_,_,ko,h,_⟩;exact⟨az.of (ko _ _ z3),h⟩
  .rintro j us x σ H1 hj hx ⟨v0,rfl,ko,h,hl,kt,hP,hW⟩;rw[bM] at hx;obtain⟨y,hy,rfl⟩:=gB.mp hx;have Kq:j<one.ts.length:=(de.mp hy).1;refine⟨_,rfl,_,rfl,by show(2:Nat)<=sizeLine;decide,λt1 AL=>?_⟩;have q1:Zj H1 (upd H1 t1 (.tup [.int y,.ref rn])):=Zj.new AL;have Sz:(upd H1 t1 (.tup [.int y,.ref rn])) t1=some (.tup [.int y,.ref rn]):=Za;generalize upd H1 t1 (.tup [.int y,.ref rn])=H2 at q1 Sz ⊢;refine⟨by decide,λl1 cN=>?_⟩;have q2:Zj H2 (upd H2 l1 (.lst [])):=Zj.new cN;have Sv:(upd H2 l1 (.lst [])) l1=some (.lst []):=Za;have A2:∀b o,H2 b=some o->l1≠b:=λb o e z=>by rw[z,e] at cN;cases cN
   generalize upd H2 l1 (.lst [])=H3 at q2 Sv ⊢;refine⟨by show(2:Nat)<=sizeLine;decide,λt2 AM=>?_⟩;have q3:Zj H3 (upd H3 t2 (.tup [.ref t1,.ref l1])):=Zj.new AM;have DM:(upd H3 t2 (.tup [.ref t1,.ref l1])) t2=some (.tup [.ref t1,.ref l1]):=Za;generalize upd H3 t2 (.tup [.ref t1,.ref l1])=H4 at q3 DM ⊢;have A9:=(q1.trans q2).trans q3;have Uc:=A9 _ _ h;have kT:∀b xs,H4 b=some (.tup xs)->(upd H4 pm (.lst (us ++ [.ref t2]))) b=some (.tup xs):=λb xs e=>by
    rw[Zc (λz=>by rw[z,Uc] at e;cases e)];exact e
   have ZyT:=ko _ _ eL;have TM:l1 ∉ [ls,pm]:=by
    intro z;simp only[a8,oV,o8] at z;rcases z with z|z
    .exact A2 _ _ (q1 _ _ ZyT) z
    .exact A2 _ _ (q1 _ _ h) z
   refine⟨Uc,by rw[bu];lia,CW.next hj ⟨_,rfl,(ko.trans A9).du dH,Za,by simp[hl],kt ++ [(pk (y,fm.ts),t1,.ref l1)],?_,?_⟩⟩
   .exact lY.snoc (key:=pk (y,fm.ts)) (kT _ _ DM) ⟨rn,kT _ _ (q3 _ _ (q2 _ _ Sz)),by rw[gf];exact kT _ _ (A9 _ _ (ko _ _ eR))⟩ (hP.keep λb xs e=>kT _ _ (A9 _ _ e))
   .rw[Zq hy,eN];refine bA.snoc (p:=(y,fm.ts)) (w:=[]) (by rw[Zc (λz=>TM (by rw[z];simp))];exact q3 _ _ Sv) TM (hW.keep λc ws hc e=>⟨?_,hc⟩);rw[Zc (λz=>hc (by rw[z];simp))];exact A9 _ _ e
  rintro us σ H1 ⟨v0,rfl,ko,h,hl,kt,hP,hW⟩;rw[aF,d_] at hW;rw[aF] at hl;have fu:(kt.map (·.1)).Nodup:=by
   rw[hW.keys,ij];exact iK.mpr (Wu (λaY e=>aY (congrArg FW (ro e))) lJ)
  refine⟨pm,us,kt,rfl,au.of h,by lia,hP,λdt xj=>?_⟩;rw[ZmO fu];have s7:Zj H1 (upd H1 dt (Zv P w dt kt)):=Zj.new xj;have Bc:=ko.trans s7;have fD:=Bc _ _ eA;have qr:∀b o,H6 b=some o->b≠dt:=λb o e z=>by
   have:=ko _ _ e;rw[z,xj] at this;cases this
  refine⟨_,rfl,a,C,dx,_,rfl,fD,aK.cls,aK.n6,(by show 5<1000;decide),?_⟩;have UD:∀b xs,H1 b=some (.tup xs)->(upd (upd H1 dt (Zv P w dt kt)) a (.ins C dx (eX "waiting" (.ref dt) [("rules",.ref f3),("measure",.ref m),("words",.ref dw),("at_kind",.ref da),("steps",.ref ls)]))) b=some (.tup xs):=λb xs e=>jH fD _ _ (s7 _ _ e) λ_ _ _ z=>nomatch z
  refine mS f3 dw da ls dt kt _ _ Za (xD (sm.trans Bc)) (ZZ eW ((jH fD _ _ (Bc _ _ eW.1) (λ_ _ _ z=>nomatch z)).trans eW.1.symm) λb xs e=>UD b xs (ko _ _ e)) (jH fD _ _ (Bc _ _ eD) λ_ _ _ z=>nomatch z) (jH fD _ _ (Bc _ _ eL) λ_ _ _ z=>nomatch z) ⟨jH fD _ _ Za (λ_ _ _ z=>nomatch z),λx hx=>(lY.at hP x hx).mono UD⟩ (hW.keep λc ws hc e=>⟨jH fD _ _ (s7 _ _ e) (λ_ _ _ z=>nomatch z),λz=>hc (by rw[aI.mp z];simp)⟩) (qr _ _ eW.1) λb hb=>by
   simp only[a8,oV,o8] at hb;rcases hb with rfl|rfl|rfl|rfl|rfl
   .exact fr _ (by simp)
   .exact fr _ (by simp)
   .exact fr _ (by simp)
   .exact fr _ (by simp)
   .exact fresh (sm.trans ko) xj
 have mR:∀(dw da ls:Addr)(H6:Hp),H6 a=some (.ins C dx [("rules",.ref f3),("measure",.ref m),("words",.ref dw),("at_kind",.ref da),("steps",.ref ls)])->Zj H0 H6->b_ P w H6 dw []->H6 da=some (.dK [])->H6 ls=some (.lst [])->(∀b ∈ [a,dw,da,ls],H0 b=none)->u5 { nx:=λ_ H'=>Q .aB H',rt:=Q } [some (.ref a),some (.ref p),some (.ref m),none] H6:=by
  intro dw da ls H6 eA sm eW eD eL fr;refine Zo e5 ?_;refine⟨_,rfl,m,Jh,_,rfl,sm _ _ Lq,rfl,m,fm,rfl,hK.same sm,λrn hrn=>?_⟩;exact st6 dw da ls rn H6 eA sm eW eD eL hrn fr
 have oC:∀(dw da:Addr)(H4:Hp),H4 a=some (.ins C dx [("rules",.ref f3),("measure",.ref m),("words",.ref dw),("at_kind",.ref da)])->Zj H0 H4->b_ P w H4 dw []->H4 da=some (.dK [])->(∀b ∈ [a,dw,da],H0 b=none)->u4 { nx:=λ_ H'=>Q .aB H',rt:=Q } [some (.ref a),some (.ref p),some (.ref m),none] H4:=by
  intro dw da H4 eA sm eW eD fr;refine Zo e4 ?_;refine⟨by decide,λls TU=>?_⟩;have s1:Zj H4 (upd H4 ls (.lst [])):=Zj.new TU;have fD:=s1 _ _ eA;refine⟨_,rfl,a,C,dx,_,rfl,fD,aK.cls,aK.n5,(by show 4<1000;decide),?_⟩;exact mR dw da ls _ Za (xD (sm.trans s1)) (ZZ eW (by rw[jH fD _ _ (s1 _ _ eW.1) (λ_ _ _ z=>nomatch z),eW.1]) λb xs e=>jH fD _ _ (s1 _ _ e) λ_ _ _ z=>nomatch z) (jH fD _ _ (s1 _ _ eD) λ_ _ _ z=>nomatch z) (jH fD _ _ Za λ_ _ _ z=>nomatch z) λb hb=>by
   simp only[a8,oV,o8] at hb;rcases hb with rfl|rfl|rfl|rfl
   .exact fr _ (by simp)
   .exact fr _ (by simp)
   .exact fr _ (by simp)
   .exact fresh sm TU
 have iH:∀(dw:Addr)(H4:Hp),H4 a=some (.ins C dx [("rules",.ref f3),("measure",.ref m),("words",.ref dw)])->Zj H0 H4->b_ P w H4 dw []->H0 dw=none->u3 { nx:=λ_ H'=>Q .aB H',rt:=Q } [some (.ref a),some (.ref p),some (.ref m),none] H4:=by
  intro dw H4 eA sm eW fr;refine Zo e3 ?_;refine λda j9=>?_;have s1:Zj H4 (upd H4 da (.dK [])):=Zj.new j9;have fD:=s1 _ _ eA;refine⟨_,rfl,a,C,dx,_,rfl,fD,aK.cls,aK.n4,(by show 3<1000;decide),?_⟩;exact oC dw da _ Za (xD (sm.trans s1)) (ZZ eW (by rw[jH fD _ _ (s1 _ _ eW.1) (λ_ _ _ z=>nomatch z),eW.1]) λb xs e=>jH fD _ _ (s1 _ _ e) λ_ _ _ z=>nomatch z) (jH fD _ _ Za λ_ _ _ z=>nomatch z) λb hb=>by
   simp only[a8,oV,o8] at hb;rcases hb with rfl|rfl|rfl
   .exact DX
   .exact fr
   .exact fresh sm j9
 have cE:∀(H4:Hp),H4 a=some (.ins C dx [("rules",.ref f3),("measure",.ref m)])->Zj H0 H4->u2 { nx:=λ_ H'=>Q .aB H',rt:=Q } [some (.ref a),some (.ref p),some (.ref m),none] H4:=by
  intro H4 eA sm;refine Zo e2 ?_;refine λdw Tr=>?_;have s1:Zj H4 (upd H4 dw (Zv P w dw [])):=Zj.new Tr;have fD:=s1 _ _ eA;refine⟨_,rfl,a,C,dx,_,rfl,fD,aK.cls,aK.n3,(by show 2<1000;decide),?_⟩;exact iH dw _ Za (xD (sm.trans s1)) ⟨jH fD _ _ Za (λ_ _ _ z=>nomatch z),λx hx=>(nomatch hx)⟩ (fresh sm Tr)
 refine Zo e0 ?_;refine⟨_,rfl,p,_,3,_,rfl,rfl,az.of (s0 _ _ a1),rfl,_,rfl,a,C,dx,_,rfl,hA,aK.cls,aK.n1,by decide,?_⟩;refine Zo e1 ?_;refine⟨_,rfl,_,rfl,a,C,dx,_,rfl,Za,aK.cls,aK.n2,(by show 1<1000;decide),?_⟩;exact cE _ Za (xD (xD s0))
variable{Pt:Addr}
theorem gK.U6{p:Addr}{f:FQ}(h:gK C H p f)(hn:∀b o,H b=some o->(∀ps,o ≠ .bR ps)->b≠Pt):gK C (λb=>if b=Pt then none else H b) p f:=by
 obtain⟨dx,h1,h2,d,m,e1,e2,e3,e4,e5⟩:=h;have k:∀b o,H b=some o->(∀ps,o ≠ .bR ps)->(λb=>if b=Pt then none else H b) b=some o:=λb o e n=>by
  show(if b=Pt then none else H b)=_
  rw[ai (hn b o e n)];exact e
 refine⟨dx,h1,h2,d,m,k _ _ e1 (λ_ z=>nomatch z),k _ _ e2 (λ_ z=>nomatch z),k _ _ e3 (λ_ z=>nomatch z),k _ _ e4 (λ_ z=>nomatch z),λt=>?_,e5.2⟩
 rcases e5.1 t with h1|⟨l,zs,g1,g2,g3⟩
 .exact .inl h1
 .exact .inr ⟨l,zs,g1,k _ _ g2 (λ_ z=>nomatch z),g3.keep λb xs e=>k b _ e λ_ z=>nomatch z⟩
def Own(d:Gd):List Addr:=d.a::d.dw::d.da::d.dt::d.db::d.ml
def pO(H:Hp)(d:Gd):Hp:=λb=>if b∈Own d then none else H b
section
variable{P:aq}{w:ap}{C CM:Addr}{H0 H H':Hp}{d:Gd}{qs:List ax.Qd}{f:FQ}{g:Gs}
theorem a9.ZBy(h:a9 P w C CM H0 H d qs f g):Zj H0 (pO H d):=λb o e=>by
 unfold pO;rw[ai]
 .exact h.old b o e
 .intro hb;rw[h.fr b hb] at e;cases e
theorem a9.reb(h:a9 P w C CM H0 H d qs f g):a9 P w C CM (pO H d) H d qs f g:=by
 have s:=h.ZBy;refine⟨h.ins,s _ _ h.qy,h.oz.keep λb xs e=>s _ _ e,h.so.same s,h.dI,h.jL,h.fI,h.iX,h.jf,h.iY,h.jK,h.jI,h.n1,h.n2,h.n3,λb o e=>?_,h.lK,h.sq,λb hb=>?_⟩
 .unfold pO at e
  split at e
  .cases e
  .exact e
 .unfold pO;rw[ao (show b∈Own d from hb)]
theorem a9.own(h:a9 P w C CM H0 H d qs f g){b:Addr}{o:HO}(e:H b=some o)(h1:∀c dx fs,o ≠ .ins c dx fs)(h2:∀F,o ≠ .ext F)(h3:∀m,o ≠ .dK m)(h4:∀xs,o ≠ .lst xs):b∉Own d:=by
 obtain⟨kt,t1,_⟩:=h.jf;obtain⟨kb,b1,_⟩:=h.iY;have no:∀c o',H c=some o'->o≠o'->b≠c:=λc o' e' n z=>by
  rw[z,e'] at e;injection e with e;exact n e.symm
 intro hb;unfold Own at hb;simp only[a8] at hb;rcases hb with hb|hb|hb|hb|hb|hb
 .exact no _ _ h.ins (h1 _ _ _) hb
 .exact no _ _ h.dI.1 (h2 _) hb
 .exact no _ _ h.fI (h3 _) hb
 .exact no _ _ t1.1 (h2 _) hb
 .exact no _ _ b1.1 (h2 _) hb
 .obtain⟨xs,hx⟩:=h.lK b hb;exact no _ _ hx (h4 _) rfl
variable{Pt:Addr}{ps:Array aa}
theorem a9.ZAV(h:a9 P w C CM H0 H d qs f g)(hP:H Pt=some (.bR ps)):a9 P w C CM (λb=>if b=Pt then none else H0 b) H d qs f g:=by
 have hn:∀b o,H0 b=some o->(∀ps,o ≠ .bR ps)->b≠Pt:=λb o e n z=>by
  have:=h.old _ _ e;rw[z,hP] at this;injection this with this;exact n _ this.symm
 have k:∀b xs,H0 b=some (.tup xs)->(λb=>if b=Pt then none else H0 b) b=some (.tup xs):=λb xs e=>by
  show(if b=Pt then none else H0 b)=_
  rw[ai (hn b _ e λ_ z=>nomatch z)]
  exact e
 exact⟨h.ins,k _ _ h.qy,h.oz.keep k,h.so.U6 hn,h.dI,h.jL,h.fI,h.iX,h.jf,h.iY,h.jK,h.jI,h.n1,h.n2,h.n3,λb o e=>h.old b o (by
  have e:(if b=Pt then none else H0 b)=some o:=e
  split at e
  .cases e
  .exact e),h.lK,h.sq,λb hb=>by
  show(if b=Pt then none else H0 b)=none
  split
  .rfl
  .exact h.fr b hb⟩
theorem a9.ZBd(h:a9 P w C CM H0 H d qs f g)(hP:H Pt=some (.bR ps))(s:h9 Pt H H')(h0:H0 Pt=none):a9 P w C CM H0 H' d qs f g:=by
 obtain⟨kt,t1,t2⟩:=h.jf;obtain⟨kb,b1,b2⟩:=h.iY;obtain⟨zs,s1,s2⟩:=h.jK;have k:∀b o,H b=some o->(∀ps,o ≠ .bR ps)->H' b=some o:=λb o e n=>s b o (λz=>by
  rw[z,hP] at e;injection e with e;exact n _ e.symm) e
 have kT:∀b xs,H b=some (.tup xs)->H' b=some (.tup xs):=λb xs e=>k b _ e λ_ z=>nomatch z
 have kN:∀b ae,H b=some (Zv P w b ae)->H' b=H b:=λb ae e=>(k b _ e λ_ z=>nomatch z).trans e.symm
 have kL:∀b xs,H b=some (.lst xs)->H' b=some (.lst xs):=λb xs e=>k b _ e λ_ z=>nomatch z
 exact⟨k _ _ h.ins (λ_ z=>nomatch z),h.qy,h.oz,h.so,ZZ h.dI (kN _ _ h.dI.1) kT,h.jL.keep λc ws hc e=>⟨kL _ _ e,hc⟩,k _ _ h.fI (λ_ z=>nomatch z),h.iX.keep kT λb xs _ e=>kL b xs e,⟨kt,ZZ t1 (kN _ _ t1.1) kT,t2.keep λc ws hc e=>⟨kL _ _ e,hc⟩⟩,⟨kb,ZZ b1 (kN _ _ b1.1) kT,b2⟩,⟨zs,kL _ _ s1,s2.keep kT⟩,h.jI,h.n1,h.n2,h.n3,λb o e=>s b o (λz=>by rw[z,h0] at e;cases e) (h.old b o e),λb hb=>by
  obtain⟨xs,hx⟩:=h.lK b hb;exact⟨xs,kL _ _ hx⟩,h.sq,h.fr⟩
end
theorem RD{x y:Wd}(h:a_ x y=false):y.length<=x.length:=by
 by_cases z:x.length<y.length
 .unfold a_ at h;rw[ai (by lia),aJ z] at h;cases h
 .lia
theorem fold_min(ws:Nat->Wd):∀n j,j<=n->a_ (ws j) (ws (eh (λi j=>a_ (ws i) (ws j)) n))=false
 | 0,j,h=>by
  obtain rfl:j=0:=by lia
  exact qW _
 | n+1,j,h=>by
  have e:eh (λi j=>a_ (ws i) (ws j)) (n+1)=if a_ (ws (n+1)) (ws (eh (λi j=>a_ (ws i) (ws j)) n))=true then n+1 else eh (λi j=>a_ (ws i) (ws j)) n:=rfl
  rw[e]
  split
  .rename_i hb
   by_cases hj:j=n+1
   .rw[hj];exact qW _
   .have h1:=fold_min ws n j (by lia);refine CC h1 ?_;by_cases z:ws (eh (λi j=>a_ (ws i) (ws j)) n)=ws (n+1)
    .rw[z];exact qW _
    .rw[C5 z,hb];rfl
  .rename_i hb
   by_cases hj:j=n+1
   .rw[hj];exact VT.mpr hb
   .exact fold_min ws n j (by lia)
def ZoH(P:aq)(w:ap)(C:Addr)(H:Hp)(d:Gd)(g:Gs):Prop:=H d.a=some (.ins C d.dx (JM d))/\b_ P w H d.dw d.kw/\bA H d.ml d.kw g.sl/\∃zs,H d.ls=some (.lst zs)/\lZ H zs g.st
def Cr(ts:List Int)(qs:List ax.Qd)(f:FQ):Prop := ∀g,GI ts qs f g->g.sl.length<=63/\cnt g.sl qs<=4000
def C7(P:aq)(w:ap)(C CM XB Pt:Addr):Sp:=λvs H Q E=>∃(p m:Addr)(one fm:FQ),vs=[.ref p,.ref m]/\fF H p one/\gK CM H m fm/\ui fm/\one.ts.length<=63/\one.ts.Nodup/\(∀q∈one.qs,kI q.2.1=true)/\Cr one.ts one.qs fm/\bN H Pt ZJ /\
 (∀d g H',f6 one.ts one.qs fm g->g.tl=[]->(∀b∈g.bl,∃w,(b,w)∈g.sl)->h9 Pt H H'->bN H' Pt ZJ->ZoH P w C H' d g->(∀b∈Own d,H b=none)->Q (.ref d.a) H') /\
 (∀g H',f6 one.ts one.qs fm g->g.tl=[]->(∃b∈g.bl,∀w,(b,w)∉g.sl)->h9 Pt H H'->bN H' Pt ZJ->E (.ref XB) none H')
theorem making{x dx:Addr}(hx:H x=none)(Kb:H dx=none)(aY:dx≠x):Zj H (upd (upd H dx (.own x)) x (.ins C dx [])):=(Zj.new Kb).trans (Zj.new (by
 rw[Zc aY.symm];exact hx))
theorem ZnR:∀{ae:List (ZQ×Addr×V)}{k:ZQ}{b:Addr}{v:V},(ae.map (·.1)).Nodup->(k,b,v)∈ae->valN ae k=some v:=by
 intro ae
 induction ae with
 | nil =>
  intro k b v _ hm;cases hm
 | cons x ae ih =>
  intro k b v i9 hm;rw[b8,gY] at i9;unfold valN;rcases a8.mp hm with e|e
  .rw[<- e,oR (by simp)];rfl
  .have aY:x.1≠k:=λz=>i9.1 (by rw[z];exact aX.mpr ⟨_,e,rfl⟩);rw[oQ (by simpa using aY)];exact ih i9.2 e
theorem Qk(B:∀x∈eG,mg x=none)(bm:rE base mg)(fU:fd.code=.ref cc)(hw:M5 K cc Pt=true)(xc:XC K mg iS lc cI)(aK:vZ K C)(JA:qS P w K mg base C "Growth" ["self","form","measure"] 2 (Di P w C CM)) (JB:jr P w K mg base C "settle" ["self","pair"] 4 (CG P w C CM)) (rK:fO P w K mg base "rank_of_words" ["words"] 1 Ir) (F:ci K "grown" "grown" rc f fd):br P w K mg base (lV P w) 5 f fd ["form","measure"] (C7 P w C CM cI Pt):=by
 refine F.ZAW fU Qq (λvs H Q E h=>?_) (λA outer s H vs Q E hr h=>?_)
 .obtain⟨p,m,one,fm,rfl,_⟩:=h;rfl
 obtain⟨p,m,one,fm,rfl,hF,hK,hL,AN,lJ,qi,eY,T0,Q1,Q2⟩:=h;have cf:=nJ hr;obtain⟨Vw,hP0,_⟩:=id T0;refine Zr ((Zf rc).drop 3) (Zh (Z1 (pv 2))) (λu3 h3 e3=>?_);refine Zr ((Zf rc).drop 2) (Zd (cR (iT (Zu (Zle rfl) rfl (B "any" (by decide)) Znn (Zb (zj (cl:=_) ["pair"] [("growth",2)] (wt (dX (pv 2) rfl)) (λ_ _ _ _=>(Zt (i:=0) (show kD (["pair","growth"]:List Str) by decide) rfl (Or.inl rfl))) (λ_ _ _ _=>(Zoj (ZgK (P:=P) (w:=w) rfl rfl cf (pv 0) (Qz (K:=K) rfl (pv 1) rfl)))) rfl rfl (by decide) rfl (by decide) (lr (by(repeat' first|exact bU _|refine bT.mpr ⟨?_,?_⟩) <;> rfl)) (mn (by(repeat' first|exact bU _|refine bT.mpr ⟨?_,?_⟩) <;> first|(intro h;exact⟨_,rfl⟩)|(intro h;exact absurd h (by decide)))) (λ_=>by(repeat' first|exact bU _|refine bT.mpr ⟨?_,?_⟩) <;> exact⟨rfl,rfl,Or.inl rfl⟩) (λ_=>rfl)) Ze)) (λ_=>rfl))
   (Zh (ZjE xc.ZBz xc.Zz3 xc.UU Pe hr rfl (Zb uh Ze)))
   ZW) h3) (λu2 h2 e2=>?_)
 refine Zr ((Zz ((Zf rc).getD 1 (.Pass ⟨0,0,0,0⟩))).drop 0) (Zh (ix (zi JB hr (pv 2) aK.cls (Zb (Zie (show N2 _ _ ZJ _ _ _ _ _ "pair" [("growth",2)] 1 _ from⟨bm,⟨_,rfl,hw⟩,(by first|exact .head _|exact .tail _ (.head _)|exact .tail _ (.tail _ (.head _))),λq hq _ _=>(show ∀q∈ZJ,q.2=_ from by(repeat' first|exact bU _|refine bT.mpr ⟨?_,?_⟩) <;> rfl) q hq,rfl,rfl,⟨rfl,rfl,rfl,by decide,rfl,lr (by(repeat' first|exact bU _|refine bT.mpr ⟨?_,?_⟩) <;> rfl),ZmK (by(repeat' first|exact bU _|refine bT.mpr ⟨?_,?_⟩) <;> first|(intro h;exact⟨_,rfl⟩)|(intro h;exact absurd h (by decide))),by(repeat' first|exact bU _|refine bT.mpr ⟨?_,?_⟩) <;> exact⟨rfl,rfl,rfl⟩⟩,λ_ _ _ _=>rfl,λ_ _ _ _ _ hr=>(eS rK hr rfl (Zb (Hk (P:=P) (w:=w) rfl rfl (nJ hr) (Qz (K:=K) rfl (pv 1) rfl) (pv 0) (λ_ _=>rfl)) Ze))⟩) rfl hr rfl (B "min" (by decide)) (Zb (dX (pv 2) rfl) Ze)) Ze)))) (λVx z9 zX=>?_)
 refine Zr ((Zf rc).drop 1) (Zd (HQ MW.leaving (ZiU (dX (pv 2) rfl) (λ_=>rfl))
   z9) h2) (λu1 h1 e1=>?_)
 refine Zr ((Zf rc).drop 0) (Zd (Zx (i:=2) Qq.nd rfl (Or.inr rfl) (Df JA hr rfl (Zb (pv 0) (Zb (pv 1) Ze)))) h1) (λu0 h0 e0=>?_);refine⟨u0,h0,?_⟩;have cE:∀(H0:Hp)(d:Gd)(g:Gs)(H1:Hp),a9 P w C CM H0 H1 d one.qs fm g->f6 one.ts one.qs fm g->g.tl=[]->bN H1 Pt ZJ->h9 Pt H H1->(∀b∈Own d,H b=none)->u2 { nx:=λ_ H'=>Q .aB H',rt:=Q } [some (.ref p),some (.ref m),some (.ref d.a)] H1:=by
  intro H0 d g H1 hG aj cU T1 sT own;refine Zo e2 ?_;obtain⟨kb,b1,b2⟩:=id hG.iY;have TH:kb.length=g.bl.length:=by have:=congrArg oU b2;simpa using this
  have hsz:=aj.gi.xQ;have cC:=(eY g aj.gi).2;rw[<- aj.cnt] at cC;refine⟨_,rfl,d.a,C,d.dx,_,_,rfl,hG.ins,aK.cls,aK.n7,rfl,d.db,kb,rfl,b1.1,λob pl aM=>Zif (ob:=ob) (λj us σ H2=>∃v0:Option V,σ =[v0,some (.ref d.a)]/\Zj (upd H1 d.db (.aO ob (Zv P w d.db kb))) H2/\H2 pl=some (.lst us)/\us=((g.bl.take j).map λb=>!(aT g.sl b).isSome).map V.bl)
   ⟨none,rfl,Zj.new aM,Za,rfl⟩ ?_ ?_ ?_⟩
  .rintro j us σ H2 _ ⟨v0,_,sm,h,_⟩;exact⟨sm _ _ Za,h⟩
  .rintro j us k b v σ H2 hj gn ⟨v0,rfl,sm,h,rfl⟩;obtain⟨pr,mJ,ek⟩:∃pr,g.bl[j]?= some pr/\k=pk pr:=by
    have h1:(kb.map (·.1))[j]?= some k:=by rw[bM,gn];rfl
    rw[b2,bM] at h1;obtain⟨pr,h2,h3⟩:=gB.mp h1;exact⟨pr,h2,h3.symm⟩
   subst ek;have pb:aQ H2 b (pk pr):=(b1.2 _ (bW gn)).mono λc xs e=>sm _ _ (by
    rw[Zc (λz=>by rw[z,b1.1] at e;cases e)];exact e)
   have eA:H2 d.a=some (.ins C d.dx (JM d)):=sm _ _ (by
    rw[Zc (λz=>by have:=hG.ins;rw[z,b1.1] at this;cases this)];exact hG.ins)
   have eW:dP P w H2 d.dw d.kw:=⟨.inl (sm _ _ (by rw[Zc hG.n2];exact hG.dI.1)),λx hx=>(hG.dI.2 x hx).mono λc xs e=>sm _ _ (by
    rw[Zc (λz=>by rw[z,b1.1] at e;cases e)];exact e)⟩
   have hv:(valN d.kw (pk pr)).isSome=(aT g.sl pr).isSome:=by
    rcases hG.jL.val pr with⟨h1,h2⟩|⟨_,_,h1,h2,_⟩
    .rw[h1,h2];rfl
    .rw[h1,h2];rfl
   refine⟨_,rfl,_,rfl,d.a,C,d.dx,_,_,rfl,eA,aK.cls,aK.n3,rfl,d.dw,b,d.kw,_,rfl,rfl,eW,pb,h,?_,CW.next hj ⟨_,rfl,sm.du aM,Za,?_⟩⟩
   .rw[bu,aF,aF,gX];lia
   .rw[Zq mJ,eN,eN,hv];rfl
  rintro us σ H2 ⟨v0,rfl,sm,h,rfl⟩;rw[TH,d_] at h;have sj:∀b o,H1 b=some o->b≠d.db->H2 b=some o:=λb o e n=>sm _ _ (by rw[Zc n];exact e);have gS:∀b o,H1 b=some o->(∀F,o ≠ .ext F)->b≠d.db:=λb o e n z=>by
   rw[z,b1.1] at e;injection e with e;exact n _ e.symm
  have kT:∀b xs,H1 b=some (.tup xs)->H2 b=some (.tup xs):=λb xs e=>sj _ _ e (gS _ _ e λ_ z=>nomatch z)
  have T2:bN H2 Pt ZJ:=T1.keep (λps e=>sj _ _ e (gS _ _ e λ_ z=>nomatch z)) λb o u e=>sj _ _ e (gS _ _ e λ_ z=>nomatch z)
  have dG:H d.db=none:=own _ (by simp[Own]);have oA:h9 Pt H H2:=λb o hb e=>sj _ _ (sT b o hb e) (λz=>by rw[z,dG] at e;cases e);refine⟨pl,_,rfl,au.of h,_,rfl,cJ (λc=>?_) (λc=>?_)⟩
  .have hx:∃b∈g.bl,∀w,(b,w)∉g.sl:=by
    obtain⟨y,hy,h2⟩:=vw.mp c;obtain⟨b,hb,rfl⟩:=aX.mp hy;refine⟨b,hb,λw hw=>?_⟩;rw[Zk (Z8 aj.gi.nd).1 hw] at h2;cases h2
   exact⟨by decide,λy hy=>Q2 g _ aj cU hx (λb o hb e=>(Zj.new hy) _ _ (oA b o hb e)) (T2.same (Zj.new hy))⟩
  .refine Zo e3 ?_;refine⟨_,rfl,Q1 d g H2 aj cU (λb hb=>?_) oA T2 ⟨sj _ _ hG.ins (gS _ _ hG.ins λ_ z=>nomatch z),ZZ hG.dI ((sj _ _ hG.dI.1 hG.n2).trans hG.dI.1.symm) kT,hG.jL.keep λc ws hc e=>⟨sj _ _ e (gS _ _ e λ_ z=>nomatch z),hc⟩,?_⟩ own⟩
   .cases e:aT g.sl b with
    | some w=>exact⟨w,nG e⟩
    | none =>
     refine absurd (vw.mpr ⟨!(aT g.sl b).isSome,aX.mpr ⟨b,hb,rfl⟩,?_⟩) c;rw[e];rfl
   .obtain⟨zs,z1,z2⟩:=hG.jK;exact⟨zs,sj _ _ z1 (gS _ _ z1 λ_ z=>nomatch z),z2.keep kT⟩
 have Bf:∀(H0:Hp)(d:Gd)(H1:Hp),a9 P w C CM H0 H1 d one.qs fm (zA one fm)->bN H1 Pt ZJ->h9 Pt H H1->(∀b∈Own d,H b=none)->u1 { nx:=λ_ H'=>Q .aB H',rt:=Q } [some (.ref p),some (.ref m),some (.ref d.a)] H1:=by
  intro H0 d H1 hG T1 sT own;refine Zo e1 ?_;refine⟨λn σ H2=>∃(yE:Hp)(d':Gd)(g':Gs),σ =[some (.ref p),some (.ref m),some (.ref d'.a)]/\a9 P w C CM yE H2 d' one.qs fm g'/\f6 one.ts one.qs fm g'/\bN H2 Pt ZJ/\h9 Pt H H2/\(∀b∈Own d',H b=none)/\n=64-g'.sl.length,⟨_,H0,d,_,rfl,hG,tZ lJ ⟨tV hL.2.2.2,by have:=hL.2.1;lia⟩,T1,sT,own,rfl⟩,?_⟩;rintro n σ H2 ⟨yE,d',g',rfl,qO,aj,T2,oA,EV,rfl⟩;obtain⟨kt,t1,t2⟩:=id qO.jf;have TJ:kt.length=g'.tl.length:=t2.length;refine⟨_,rfl,d'.a,C,d'.dx,_,_,rfl,qO.ins,aK.cls,aK.n6,rfl,d'.dt,kt,rfl,t1.r,?_⟩;refine cJ (λc=>?_) (λc=>?_)
  .have aY:kt ≠ []:=λz=>by rw[z] at c;cases c
   have ZD1:=(eY g' aj.gi).1;refine⟨λσ H3=>∃(yE:Hp)(tD:Gd)(qN:Gs),σ =[some (.ref p),some (.ref m),some (.ref tD.a)]/\a9 P w C CM yE H3 tD one.qs fm qN/\f6 one.ts one.qs fm qN/\bN H3 Pt ZJ/\h9 Pt H H3/\(∀b∈Own tD,H b=none)/\qN.sl.length=g'.sl.length+1,λav H3 ⟨YN,tD,qN,a1,a2,a3,a4,a5,a6,a7⟩=>⟨_,?_,YN,tD,qN,a1,a2,a3,a4,a5,a6,rfl⟩,?_⟩
   .have:=(eY qN a3.gi).1;lia
   refine Zo zX ?_;refine⟨_,rfl,d'.a,d'.dx,_,rfl,qO.ins,rfl,_,rfl,d'.a,C,d'.dx,_,_,rfl,qO.ins,aK.cls,aK.n6,rfl,?_⟩;obtain⟨tp2,mC,_⟩:=id T2;have nP:∀b o,H2 b=some o->(∀ps,o ≠ .bR ps)->b≠Pt:=λb o e n z=>by
    rw[z,mC] at e;injection e with e;exact n _ e.symm
   have xK:d'.dt≠Pt:=nP _ _ t1.1 λ_ z=>nomatch z
   have nf:∀o u,H d'.dt≠some (.aO o u):=λo u z=>by
    rw[EV d'.dt (by simp[Own])] at z;cases z
   have hGp:=qO.ZAV mC;refine⟨T2,d'.dt,kt,λi j=>a_ (((g'.tl[i]?).map (·.2)).getD []) (((g'.tl[j]?).map (·.2)).getD []),rfl,t1.1,aY,nf,λlf H3 ob hlf Vj T3=>⟨λpm dH=>⟨λi k H=>∃r c,k=.ref r/\wD H r c (((g'.tl[i]?).map (·.2)).getD [])/\r≠pm/\c≠pm/\f' (((g'.tl[i]?).map (·.2)).getD []),?_,?_,?_⟩,λb k v H4 hk E5 T4 An=>?_⟩⟩
   .rintro i k H H' ⟨r,c,rfl,h,n1,n2,ok⟩ kp;exact⟨r,c,rfl,⟨kp _ _ n2 h.1,kp _ _ n1 h.2⟩,n1,n2,ok⟩
   .rintro i j k k' H ⟨r,c,rfl,h,n1,n2,ok⟩ ⟨r',c',rfl,h',Y7,GG,GJ⟩;exact Iu h h' ok GJ
   .intro i x H5 hx sm qg;rw[bM] at hx;obtain⟨⟨key,b,v⟩,gn,rfl⟩:=gB.mp hx;obtain⟨e,he,ek,c,ec,hc,Am⟩:=t2.get i _ gn;have ek:key=pk e.1:=ek;have ec:v=.ref c:=ec;subst ek ec;have Lk:∀b o,H2 b=some o->(∀ps,o ≠ .bR ps)->b≠d'.dt->H5 b=some o:=λb o e n n2=>sm _ _ (by
     rw[Zc n2];exact Vj _ _ (nP _ _ e n) e)
    have qr:∀b o,H2 b=some o->(∀F,o ≠ .ext F)->b≠d'.dt:=λb o e n z=>by
     rw[z,t1.1] at e;injection e with e;exact n _ e.symm
    have Lo:∀b xs,H2 b=some (.tup xs)->H5 b=some (.tup xs):=λb xs e=>Lk b _ e (λ_ z=>nomatch z) (qr _ _ e λ_ z=>nomatch z)
    have Tn:H5 c=some (.lst (e.2.map V.str)):=Lk _ _ hc (λ_ z=>nomatch z) (qr _ _ hc λ_ z=>nomatch z)
    have Jr:((g'.tl[i]?).map (·.2)).getD []=e.2:=by rw[he];rfl
    rw[Jr];have hv:valN kt (pk e.1)=some (.ref c):=by
     have xJ:=(Z8 aj.gi.nd).2.1;rcases t2.val e.1 with⟨h1,_⟩|⟨w',c',h1,h2,_⟩
     .rw[Zk xJ (show(e.1,e.2)∈g'.tl from bW he)] at h1;cases h1
     .rw[h2];have i9:(kt.map (·.1)).Nodup:=by
       rw[t2.keys];have:=xJ;rw[show g'.tl.map (λe=>pk e.1)=(g'.tl.map (·.1)).map pk by rw[ij];rfl];exact iK.mpr (this.imp λaY z=>aY (ro z))
      have hf:valN kt (pk e.1)=some (.ref c):=ZnR i9 (bW gn);rw[hf] at h2;exact h2.symm
    refine⟨_,rfl,d'.a,C,d'.dx,_,_,rfl,Lk _ _ qO.ins (λ_ z=>nomatch z) (qr _ _ qO.ins λ_ z=>nomatch z),aK.cls,aK.n6,rfl,_,rfl,d'.dt,b,kt,pk e.1,_,rfl,rfl,⟨.inr ⟨ob,sm _ _ Za⟩,λx hx=>(t1.2 x hx).mono Lo⟩,(t1.2 _ (bW gn)).mono Lo,hv,c,e.2,rfl,Tn,λr hr=>⟨Zj.new hr,r,c,rfl,⟨(Zj.new hr) _ _ Tn,Za⟩,λz=>qg (z ▸ hr),λz=>?_,(aj.ok e (cj _ (bW he))).1⟩⟩
    have:(upd H3 d'.dt (.aO ob (Zv P w d'.dt kt))) c=some (.lst (e.2.map V.str)):=by
     rw[Zc (qr _ _ hc λ_ z=>nomatch z)]
     exact Vj _ _ (nP _ _ hc λ_ z=>nomatch z) hc
    rw[z] at this;exact absurd (this.symm.trans dH) (λz=>nomatch z)
   .have htm:kt.length-1<kt.length:=by
     have:=MG.mpr aY;lia
    obtain⟨e,he,ek,c,ec,hc,Am⟩:=t2.get _ _ hk;have ek:k=pk e.1:=ek;have xJ:=(Z8 aj.gi.nd).2.1;have dY:=bW he;have gw:aT g'.tl e.1=some e.2:=Zk xJ (show(e.1,e.2)∈g'.tl from dY);have Jr:((g'.tl[eh (λi j=>a_ (((g'.tl[i]?).map (·.2)).getD []) (((g'.tl[j]?).map (·.2)).getD [])) (kt.length-1)]?).map (·.2)).getD []=e.2:=by rw[he];rfl
    have uP:∀t∈g'.tl,e.2.length<=t.2.length:=λt ht=>by
     obtain⟨j,hj⟩:=fc.mp ht;have Kq:=(de.mp hj).1;have h1:=fold_min (λi=>((g'.tl[i]?).map (·.2)).getD []) (kt.length-1) j (by lia);rw[Jr,hj] at h1;exact RD h1
    have ft:=(hGp.ZBd mC E5 (by show(if Pt=Pt then none else _)=none;rw[ao rfl])).reb
    have pop:=eY _ (Rb aj.gi gw);have cN:g'.sl.length+1<=63:=by
     have:=pop.1;show _;have e:(jz g' e.1 e.2).sl.length=g'.sl.length+1:=by
      show(g'.sl ++ [(e.1,e.2)]).length=_;rw[cw];rfl
     lia
    have pb4:aQ H4 b (pk e.1):=by
     have:=t1.2 _ (bW hk);rw[ek] at this;exact this.mono λb xs e=>E5 b _ (nP _ _ e λ_ z=>nomatch z) e
    unfold iz;dsimp only[List.cons_append,List.nil_append];refine⟨b,pO H4 d',d',one.ts,one.qs,fm,g',e.1,e.2,rfl,ft,pb4,gw,aj,uP,by lia,hL,qi,pop.2,AN,λtD H5 qN w6 Zy8 gk ea edt Lo=>?_⟩;rw[<- ea];obtain⟨tp4,hP4,_⟩:=id T4;have Lm:∀b o,H4 b=some o->b∉Own d'->H5 b=some o:=λb o e n=>w6.old b o (by
     unfold pO;rw[ai n];exact e)
    refine⟨_,tD,qN,rfl,w6,Zy8,T4.keep (λps e=>Lm _ _ e (ft.own e (λ_ _ _ z=>nomatch z) (λ_ z=>nomatch z) (λ_ z=>nomatch z) λ_ z=>nomatch z)) (λb o u e=>Lm _ _ e (ft.own e (λ_ _ _ z=>nomatch z) (λ_ z=>nomatch z) (λ_ z=>nomatch z) λ_ z=>nomatch z)),λb o hb e=>Lm b o (E5 b o hb (oA b o hb e)) (λz=>by rw[EV b z] at e;cases e),λb hb=>?_,by rw[gk,cw];rfl⟩
    have h1:pO H4 d' b=none:=w6.fr b hb;unfold pO at h1
    split at h1
    .rename_i h2
     exact EV b h2
    .cases z:H b with
     | none=>rfl
     | some o =>
      by_cases uF:b=Pt
      .rw[uF,hP4] at h1;cases h1
      .rw[E5 b o uF (oA b o uF z)] at h1;cases h1
  .have cU:g'.tl=[]:=by
    have:kt=[]:=by
     cases kt with
     | nil=>rfl
     | cons x xs=>exact absurd rfl c
    rw[this] at TJ;exact vy TJ.symm
   exact cE yE d' g' H2 qO aj cU T2 oA EV
 refine Zo e0 ?_;refine⟨_,rfl,_,rfl,λx4 d4 oq An Kw=>?_⟩;refine⟨x4,p,m,d4,H,one,fm,rfl,Za,making oq An Kw,oq,hF,hK,AN,lJ,λd H' hG ha=>⟨rfl,?_⟩⟩;show u1 _ _ _;have:=Bf H d H' hG (T0.same hG.old) (λb o _ e=>hG.old b o e) λb hb=>hG.fr b hb;rw[ha] at this;exact this
theorem Zmt(hq:q.2.1≠SL)(ha:hX SL 0 wa)(hb:hX SL 0 wb):hX SL 0 (bj q wa wb):=by
 unfold bj;rw[C9 hq];have key:∀(n:Nat)(as:Wd),hX SL n as->∀m,hX SL (n+(m+1)) (as++SL::wb)↔hX SL m wb:=by
  intro n as
  induction as generalizing n with
  | nil =>
   intro h m;have h:n=0:=h;subst h;rw[FF,Dg];constructor
   .rintro⟨_,h⟩;rw[show 0+(m+1)-1=m by lia] at h;exact h
   .intro h;exact⟨by lia,by rw[show 0+(m+1)-1=m by lia];exact h⟩
  | cons a as ih =>
   intro h m;rw[vx];by_cases e:a=SL
   .subst e;obtain⟨h1,h2⟩:=Dg.mp h;rw[Dg,show n+(m+1)-1=(n-1)+(m+1) by lia];constructor
    .rintro⟨_,h⟩;exact(ih _ h2 m).mp h
    .intro h;exact⟨by lia,(ih _ h2 m).mpr h⟩
   .rw[C9 e];rw[show n+(m+1)+1=(n+1)+(m+1) by lia];exact ih _ ((C9 e).mp h) m
 exact(key 0 wa ha 0).mpr hb
theorem Zm2{f:FQ}(h:GI ts qs f g)(hq:∀q∈qs,mw q.2.1/\q.2.1.length<=8):∀(i:Nat)(e:Pk×Wd),g.sl[i]?= some e->hX SL 0 e.2/\Sa e.2:=by
 intro i
 induction i using BH with
 | ind i ih =>
  intro e he;rcases h.sk i e he with⟨k,_,rfl⟩|⟨q,qh,a,wa,b,wb,ha,hb,_,_,rfl⟩
  .exact⟨rfl,λw hw=>(nomatch hw)⟩
  .obtain⟨ja,mG⟩:=fc.mp ha;obtain⟨jb,mH⟩:=fc.mp hb;have la:=(de.mp mG).1;have lb:=(de.mp mH).1;rw[gX] at la lb;rw[By (by lia)] at mG mH;obtain⟨c1,l1⟩:=ih ja (by lia) _ mG;obtain⟨c2,l2⟩:=ih jb (by lia) _ mH;obtain⟨q1,q2⟩:=hq q qh;refine⟨Zmt q1.ne c1 c2,λw hw=>?_⟩;have hw:w∈q.2.1::(wa++SL::wb):=hw;rcases a8.mp hw with rfl|hw
   .exact .inr ⟨q1,q2⟩
   .rcases bV.mp hw with hw|hw
    .exact l1 w hw
    .rcases a8.mp hw with rfl|hw
     .exact .inl rfl
     .exact l2 w hw
def f_(H:Hp)(zs:List V)(ms:List (Pk×Wd)):Prop:=ck (λz m=>∃t c r xs g,z=V.ref t/\H t=some (.tup [.int m.1.1,.ref c,.ref r])/\H c=some (.tup (m.1.2.map V.int))/\H r=some (.tup xs)/\fj H xs g/\words SL g=m.2) zs ms
theorem f_.keep(s:Zj H H'):∀{zs:List V}{ms:List (Pk×Wd)},f_ H zs ms->f_ H' zs ms:=by
 intro zs ms h;refine ck.kl h λ_ _ z=>?_;obtain⟨t,c,r,xs,g,h1,h2,h3,h4,h5,h6⟩:=z;exact⟨t,c,r,xs,g,h1,s _ _ h2,s _ _ h3,s _ _ h4,h5.mono s.tk,h6⟩
theorem f_.Zz9(s:TK H H'):∀{zs:List V}{ms:List (Pk×Wd)},f_ H zs ms->f_ H' zs ms:=by
 intro zs ms h;refine ck.kl h λ_ _ z=>?_;obtain⟨t,c,r,xs,g,h1,h2,h3,h4,h5,h6⟩:=z;exact⟨t,c,r,xs,g,h1,s _ _ h2,s _ _ h3,s _ _ h4,h5.mono s,h6⟩
theorem f_.get:∀{zs:List V}{ms:List (Pk×Wd)},f_ H zs ms->∀(i:Nat) z,zs[i]?= some z->∃m t c r xs g,ms[i]?= some m/\z=V.ref t/\H t=some (.tup [.int m.1.1,.ref c,.ref r])/\H c=some (.tup (m.1.2.map V.int))/\H r=some (.tup xs)/\fj H xs g/\words SL g=m.2:=by
 intro zs ms h i z hz;obtain⟨m,e1,t,c,r,xs,g,e⟩:=ck.z8 h hz;exact⟨m,t,c,r,xs,g,e1,e⟩
theorem f_.length{H:Hp}{zs:List V}{ms:List (Pk×Wd)}(h:f_ H zs ms):zs.length=ms.length:=dz h
theorem f_.snoc{r:Addr}{xs:List V}{g:Gr Str}{m:Pk×Wd}(h2:H t=some (.tup [.int m.1.1,.ref c,.ref r]))(h3:H c=some (.tup (m.1.2.map V.int)))(h4:H r=some (.tup xs))(h5:fj H xs g)(h6:words SL g=m.2):∀{zs:List V}{ms:List (Pk×Wd)},f_ H zs ms->f_ H (zs ++ [.ref t]) (ms ++ [m]):=λh=>sU h ⟨t,c,r,xs,g,rfl,h2,h3,h4,h5,h6⟩
def xX(l:List (Pk×Wd))(m:Pk):Pk×Wd:=(m,(aT l m).getD [])
theorem Zls{ms:List Pk}(nd:(l.map (·.1)).Nodup)(h:ms.Perm (l.map (·.1))):(ms.map (xX l)).Perm l:=by
 have h1:=h.map (xX l);rw[ij] at h1;refine h1.trans (Bu ?_);refine(BC λe he=>?_).trans (WL l);show(e.1,(aT l e.1).getD [])=e;rw[Zk nd (show(e.1,e.2)∈l from he)];rfl
def CS(P:aq)(w:ap)(CM XB Pt:Addr):Sp:=λvs H Q E=>∃(p m:Addr)(one fm:FQ),vs=[.ref p,.ref m]/\fF H p one/\gK CM H m fm/\ui fm/\one.ts.length<=63/\one.ts.Nodup/\(∀q∈one.qs,mw q.2.1/\q.2.1.length<=8)/\Cr one.ts one.qs fm/\bN H Pt ZJ /\
 (∀r zs es g H',f6 one.ts one.qs fm g->g.tl=[]->(∀b∈g.bl,∃w,(b,w)∈g.sl)->h9 Pt H H'->bN H' Pt ZJ->H r=none->H' r=some (.lst zs)->f_ H' zs es->es.Perm g.sl->es.Pairwise (λa b=>ax.iV b.1 a.1=false)->Q (.ref r) H') /\
 (∀g H',f6 one.ts one.qs fm g->g.tl=[]->(∃b∈g.bl,∀w,(b,w)∉g.sl)->h9 Pt H H'->bN H' Pt ZJ->E (.ref XB) none H')
theorem Qr(B:∀x∈eG,mg x=none)(aK:vZ K C)(JD:tL P w K mg base "grown" ["form","measure"] 5 (C7 P w C CM XB Pt)) (DQ:fO P w K mg base "grove_of" ["words"] 2 (Pw K)) (F:ci K "table" "table" zu f fd):br P w K mg base (lV P w) 6 f fd ["form","measure"] (CS P w CM XB Pt):=by
 refine F.okX P7 (λvs H Q E h=>?_) (λbg A outer s H vs Q E hr h=>?_)
 .obtain⟨p,m,one,fm,rfl,_⟩:=h;rfl
 obtain⟨p,m,one,fm,rfl,hF,hK,hL,AN,lJ,qi,eY,T0,Q1,Q2⟩:=h;have cf:=nJ hr;refine Zr ((Zf zu).drop 1) (Zh (Z1 (zj (cl:=_) ["kind","value"] [("words",2)] (nO (Zu (Zd1 (P:=P) (w:=w) rfl rfl rfl cf) rfl (B "sorted" (by decide)) P2 (Zb (pv 2) Ze))) (λ_ _ _ _=>(Zna (K:=K) (n:=2) rfl rfl (Z6 (Zt (i:=0) (show kD (["kind","value","words"]:List Str) by decide) rfl (Or.inl rfl)) (Z6 (Zt (i:=1) (show kD (["kind","value","words"]:List Str) by decide) rfl (Or.inl rfl)) wB)))) (λ_ _ _ _=>(dU (Zb (pv 0) (Zb (pv 1) (Zb (eS DQ hr rfl (Zb (Hk (P:=P) (w:=w) rfl rfl cf (pv 2) (dU (Zb (pv 0) (Zb (pv 1) Ze))) (λ_ _=>rfl)) Ze)) Ze))))) rfl rfl (by decide) rfl (by decide) (lr (by(repeat' first|exact bU _|refine bT.mpr ⟨?_,?_⟩) <;> rfl)) (mn (by(repeat' first|exact bU _|refine bT.mpr ⟨?_,?_⟩) <;> first|(intro h;exact⟨_,rfl⟩)|(intro h;exact absurd h (by decide)))) (λ_=>by(repeat' first|exact bU _|refine bT.mpr ⟨?_,?_⟩) <;> exact⟨rfl,rfl,Or.inl rfl⟩) (λ_=>rfl)))) (λu1 h1 e1=>?_)
 refine Zr ((Zf zu).drop 0) (Zd (Zx (i:=2) P7.nd rfl (Or.inr rfl) (dX (HY JD Pe hr rfl (Zb (pv 0) (Zb (pv 1) Ze))) rfl)) h1) (λu0 h0 e0=>?_);refine⟨u0,h0,?_⟩;refine Zo e0 ?_;refine⟨_,rfl,_,rfl,p,m,one,fm,rfl,hF,hK,hL,AN,lJ,λq hq=>pP.ok (qi q hq).1.Lu,eY,T0,?_,λg H1 aj cU dm sT T1=>Q2 g H1 aj cU dm sT T1⟩;rintro d g H1 aj cU dm sT T1 ⟨i1,i2,i3,i4⟩ own;refine⟨d.a,C,d.dx,_,_,rfl,i1,aK.cls,aK.n3,rfl,?_⟩;show u1 _ _ _;refine Zo e1 ?_;have l64:=(eY g aj.gi).1;have Au:d.kw.length=g.sl.length:=i3.length;refine⟨_,rfl,d.dw,d.kw,g.sl.map (·.1),rfl,i2.r,by lia,by rw[i3.keys,ij];rfl,λrs zs ms hrs dH rY EF=>?_⟩;have s2:Zj H1 (upd H1 rs (.lst zs)):=Zj.new hrs;have e2:(upd H1 rs (.lst zs)) rs=some (.lst zs):=Za;have k2:∀b o,H1 b=some o->(upd H1 rs (.lst zs)) b=some o:=s2;have Ld:=EF.keep (H':=upd H1 rs (.lst zs)) λb xs e=>s2 _ _ e;have T2:=T1.same s2;have oA:h9 Pt H (upd H1 rs (.lst zs)):=λb o hb e=>s2 _ _ (sT b o hb e);have Lg:dP P w (upd H1 rs (.lst zs)) d.dw d.kw:=⟨.inl (s2 _ _ i2.1),λx hx=>(i2.2 x hx).mono λb xs e=>s2 _ _ e⟩;have Uz:=i3.keep (H':=upd H1 rs (.lst zs)) (ml':=d.ml) λc ws hc e=>⟨s2 _ _ e,hc⟩;clear k2;generalize upd H1 rs (.lst zs)=H2 at e2 Ld T2 oA Lg Uz ⊢;have good:=Zm2 aj.gi qi;have kn:=(Z8 aj.gi.nd).1;have lF:ms.length=zs.length:=Ld.length.symm;refine⟨rs,rfl,⟨_,au.of e2⟩,λpl aM=>Zj1 (K:=K) (a:=rs) (p:=pl) (xs:=zs) (λj us σ H3=>∃v0 v1:Option V,σ =[v0,v1,some (.ref d.dw)]/\Zj H2 H3/\H3 pl=some (.lst us)/\f_ H3 us ((ms.map (xX g.sl)).take j))
  ⟨none,none,rfl,Zj.new aM,Za,.nil⟩ ?_ ?_ ?_⟩
 .rintro j us σ H3 _ ⟨_,_,_,sm,h,_⟩;exact⟨au.of (sm _ _ e2),h⟩
 .rintro j us x σ H3 hj hx ⟨v0,v1,rfl,sm,h,hR⟩;obtain⟨b,mm,hm,rfl,pb⟩:=Ld.get j x hx;obtain⟨cb,EX,xN⟩:=id pb;rw[gf] at xN;have dY:mm∈g.sl.map (·.1):=dH.mem_iff.mp (bW hm);obtain⟨⟨ir,ws⟩,Ax,rfl⟩:=aX.mp dY;obtain⟨ie,rQ⟩:=fc.mp Ax;obtain⟨gc,gl⟩:=good ie _ rQ;obtain⟨lw,v3,x3,m3⟩:∃lw,valN d.kw (pk ir)=some (.ref lw)/\H2 lw=some (.lst (ws.map V.str))/\lw∉d.ml:=by
   rcases Uz.val ir with⟨h1,_⟩|⟨w',c',h1,h2,h3,h4⟩
   .rw[Zk kn Ax] at h1;cases h1
   .rw[Zk kn Ax] at h1;injection h1 with h1;subst h1;exact⟨c',h2,h3,h4⟩
  have wl:ws.length<=600:=aj.gi.len _ (dN _ Ax);refine⟨b,_,rfl,az.of (sm _ _ EX),rfl,_,_,rfl,_,_,rfl,rfl,?_⟩;refine⟨_,rfl,_,rfl,_,rfl,_,rfl,_,rfl,by show(2:Nat)<=sizeLine;decide,λt ht=>?_⟩;have s4:Zj H3 (upd H3 t (.tup [.int ir.1,.ref cb])):=Zj.new ht;have et:(upd H3 t (.tup [.int ir.1,.ref cb])) t=some (.tup [.int ir.1,.ref cb]):=Za;refine⟨d.dw,t,d.kw,pk ir,_,rfl,rfl,?_,⟨cb,et,by rw[gf];exact s4 _ _ (sm _ _ xN)⟩,v3,lw,ws,rfl,au.of (s4 _ _ (sm _ _ x3)),by lia,gc,gl,λr xs gr H5 s5 hr5 er Zzr AR _=>?_⟩
  .refine⟨?_,λx hx=>(Lg.2 x hx).mono λb xs e=>s4 _ _ (sm _ _ e)⟩;rcases Lg.1 with h|⟨o,h⟩
   .exact .inl (s4 _ _ (sm _ _ h))
   .exact .inr ⟨o,s4 _ _ (sm _ _ h)⟩
  refine⟨by show(3:Nat)<=sizeLine;decide,λt2 AM=>?_⟩;have s6:Zj H5 (upd H5 t2 (.tup [.int ir.1,.ref cb,.ref r])):=Zj.new AM;have DM:(upd H5 t2 (.tup [.int ir.1,.ref cb,.ref r])) t2=some (.tup [.int ir.1,.ref cb,.ref r]):=Za;have Bb:=(s4.trans s5).trans s6;have hrl:=hR.length;rw[gX,aF] at hrl;refine⟨Bb _ _ h,?_,CW.next hj ⟨_,_,rfl,(sm.trans Bb).du aM,Za,?_⟩⟩
  .rw[bu];have:ms.length=g.sl.length:=by have:=dH.length_eq;rwa [aF] at this
   lia
  .have Kt:(ms.map (xX g.sl))[j]?= some (ir,ws):=by
    rw[bM,hm];show some (ir,(aT g.sl ir).getD [])=_;rw[Zk kn Ax];rfl
   rw[Zq Kt];have kp:∀b o,(upd H5 t2 (.tup [.int ir.1,.ref cb,.ref r])) b=some o->(∀l,o ≠ .lst l)->(upd (upd H5 t2 (.tup [.int ir.1,.ref cb,.ref r])) pl (.lst (us ++ [.ref t2]))) b=some o:=λb o e n=>by
    rw[Zc]
    .exact e
    .intro z;rw[z,Bb _ _ h] at e;injection e with e;exact n _ e.symm
   have kT:TK (upd H5 t2 (.tup [.int ir.1,.ref cb,.ref r])) (upd (upd H5 t2 (.tup [.int ir.1,.ref cb,.ref r])) pl (.lst (us ++ [.ref t2]))):=λb xs e=>kp b _ e λ_ z=>nomatch z
   refine f_.snoc (kT _ _ DM) (kT _ _ (Bb _ _ (sm _ _ xN))) (kT _ _ (s6 _ _ er)) ((Zzr.mono s6.tk).mono kT) AR (f_.Zz9 kT (hR.keep Bb))
 rintro us σ H3 ⟨v0,v1,rfl,sm,h,hR⟩;rw[<- lF,<- aF (f:=xX g.sl),d_] at hR;have Zzf:H pl=none:=by
  cases z:H pl with
  | none=>rfl
  | some o =>
   by_cases hb:pl=Pt
   .obtain⟨tp,hP,_⟩:=T2;rw[hb,hP] at aM;cases aM
   .rw[oA _ _ hb z] at aM;cases aM
 exact Q1 pl us (ms.map (xX g.sl)) g H3 aj cU dm (λb o hb e=>sm _ _ (oA b o hb e)) (T2.same sm) Zzf h hR (Zls kn dH) (iK.mpr rY)
def IV(m:Int)(q:ax.Qd):Prop:=0<=q.1/\q.1<m/\0<=q.2.2.1/\q.2.2.1<m/\0<=q.2.2.2/\q.2.2.2<m/\mw q.2.1/\q.2.1.length<=8
structure iR(f:FQ):Prop where
 len:ui f
 n0:0<=f.n
 n3:f.n<=3
 ts:∀k∈f.ts,0<=k/\k<f.n
 qs:∀q∈f.qs,IV f.n q
 E2:f.qs.length<=16
def Po(K:ay):Sp:=λvs H Q _=>∃(a:Addr)(ns:List Int)(sd:Int),vs=[.ref a,.int sd]/\au K H a (ns.map V.int)/\ns.length<=63/\0<=sd/\sd<=1/\∀(r:Addr)(f:FQ)(H':Hp),Zj H H'->fF H' r f->iR f->Q (.ref r) H'
theorem Zit(B:∀x∈eG,mg x=none)(wX:fO P w K mg base "_law_cell" ["_law_script","_law_k"] 1 (P1 K)) (JG:fO P w K mg base "_law_tag" ["_law_seed","_law_v"] 1 RI) (F:ci K "_law_shape" "_law_shape" Ho f fd):br P w K mg base cA 2 f fd ["_law_script","_law_side"] (Po K):=by
 refine F.ok nH (λvs H Q E h=>?_) (λbg A outer s H vs Q E hr h=>?_)
 .obtain⟨a,ns,sd,rfl,_⟩:=h;rfl
 obtain⟨a,ns,sd,rfl,hS,pT,sd0,sd1,q⟩:=h;have hu:=zp hr;have ZAO:∀D:Ends,D.rt=Q->∀ σ : St,Sb (zK (nU (tC (.int 0)) (nU (zK iz) (nU (zK iz) (nU (zK iz) iz))))) D σ H:=by
  intro D hD σ;refine⟨by show(0:Nat)<=sizeLine;decide,λt1 h1=>⟨by show(0:Nat)<=sizeLine;decide,λt2 h2=>⟨by show(0:Nat)<=sizeLine;decide,λt3 h3=>⟨by show(4:Nat)<=sizeLine;decide,λr hr=>?_⟩⟩⟩⟩;have k1:Zj H (upd H t1 (.tup [])):=Zj.new h1;have d1:(upd H t1 (.tup [])) t1=some (.tup []):=Za;have k2:=Zj.new (o:=.tup []) h2;have d2:(upd (upd H t1 (.tup [])) t2 (.tup [])) t2=some (.tup []):=Za;have k3:=Zj.new (o:=.tup []) h3;have d3:(upd (upd (upd H t1 (.tup [])) t2 (.tup [])) t3 (.tup [])) t3=some (.tup []):=Za;have k4:=Zj.new (o:=.tup [.int 0,.ref t1,.ref t2,.ref t3]) hr;rw[hD];refine q r ⟨0,[],[],[]⟩ _ (((k1.trans k2).trans k3).trans k4) ⟨t1,t2,t3,[],Za,k4 _ _ (k3 _ _ (k2 _ _ d1)),k4 _ _ (k3 _ _ d2),k4 _ _ d3,.nil⟩ ⟨⟨by decide,by decide,by decide,.nil⟩,by decide,by decide,λk h=>(nomatch h),λq h=>(nomatch h),by decide⟩
 refine cut 4 (λav H'=>∃(ch m tu:Int),av=[some (.ref a),some (.int sd),some (.int ch),some (.int m),some (.int tu),none,none,none,none,none,none]/\H'=H/\1<=m/\m<=3)
  ?_ (λu K0 hR=>⟨_,(Zd (Zx (i:=2) nH.nd rfl (Or.inl rfl) (eS wX hr rfl (Zb (pv 0) (Zb (pv 1) Ze))))
  (Zd (Zx (i:=3) nH.nd rfl (Or.inr rfl) (ZF fG Zg (ZF fS (pv 2) Zg)))
  (Zd (cR (ZC iy (ZF fS (ZF ju (pv 2) Zg) Zg) Zg (ZM _))
   (Zh (Z1 (dU (Zb Zg (Zb (dU Ze) (Zb (dU Ze) (Zb (dU Ze) Ze)))))))
   ZW)
  (Zd (Zx (i:=4) nH.nd rfl (Or.inr rfl) (eS wX hr rfl (Zb (pv 0) (Zb (ZF fG Zg (pv 1)) Ze))))
  K0)))),?_⟩)
 rotate_left
 .refine⟨_,rfl,_,rfl,a,ns,sd,rfl,hS,pT,sd0,by omega,λch c0 c1=>?_⟩;refine⟨_,rfl,_,_,rfl,rfl,(by show(0:Int)<3;decide),_,_,rfl,rfl,?_⟩;have hm:=zO ch (n:=3) (by decide);refine⟨_,rfl,_,_,rfl,rfl,⟨by decide,by decide⟩,_,_,rfl,rfl,(by show(0:Int)<8;decide),rfl,_,rfl,cJ (λ_=>ZAO _ rfl _) (λ_=>?_)⟩;refine⟨_,rfl,_,rfl,_,_,rfl,rfl,a,ns,2+sd,rfl,hS,pT,by omega,by omega,λtu t0 _=>?_⟩;exact hR _ _ ⟨ch,1+ch % 3,tu,rfl,rfl,by omega,by omega⟩
 refine ZpE _ 4 (λav H'=>∃(ch m tu:Int)(pt ph pr:Addr)(v8 v9 v10:Option V)(ts hs:List Int)(zs:List V)(qs:List ax.Qd),av=[some (.ref a),some (.int sd),some (.int ch),some (.int m),some (.int tu),some (.ref pt),some (.ref ph),some (.ref pr),v8,v9,v10]/\1<=m/\m<=3/\Zj H H'/\H' pt=some (.lst (ts.map V.int))/\H' ph=some (.lst (hs.map V.int))/\H' pr=some (.lst zs)/\QL H' zs qs/\(ts.length<=7/\∀x∈ts,0<=x/\x<m)/\hs.length<=4/\(qs.length<=16/\∀q∈qs,IV m q))
  ?_ (λu hu5 hR=>⟨_,(Zd (OC (cl:=_) (n0:=5) nH.nd rfl (Or.inl rfl) ["_law_k"] [("_law_many",3),("_law_turn",4)] (Hq rfl (B "range" (by decide)) (Zb (Zu (PN rfl) rfl (B "min" (by decide)) Dr (Zb (ZF fS (pv 4) Zg) (Zb (ZF fG Zg (ZF fS (pv 4) Zg)) Ze))) Ze)) (λ_ _ _ _=>(Zt (i:=0) (show kD (["_law_k","_law_many","_law_turn"]:List Str) by decide) rfl (Or.inl rfl))) (λ_ _ _ _=>(ZF fS (ZF ju (pv 2) (ZF fG (pv 0) Zg)) (pv 1))) rfl rfl (by decide) rfl (by decide) (lr (by(repeat' first|exact bU _|refine bT.mpr ⟨?_,?_⟩) <;> rfl)) (mn (by(repeat' first|exact bU _|refine bT.mpr ⟨?_,?_⟩) <;> first|(intro h;exact⟨_,rfl⟩)|(intro h;exact absurd h (by decide)))) (λ_=>by(repeat' first|exact bU _|refine bT.mpr ⟨?_,?_⟩) <;> exact⟨rfl,rfl,Or.inl rfl⟩) (λ_=>rfl) rfl)
  (Zd (OC (cl:=_) (n0:=6) nH.nd rfl (Or.inl rfl) ["_law_k"] [("_law_many",3),("_law_turn",4)] (Hq rfl (B "range" (by decide)) (Zb (ZF fG (lq PQ rfl (B "int" (by decide)) IL (Zb (C6 wK (ZF fS (ZF ju (pv 4) Zg) Zg) Zg (ZM _)) Ze)) (ZF fS (ZF ju (pv 4) Zg) Zg)) Ze)) (λ_ _ _ _=>(Zt (i:=0) (show kD (["_law_k","_law_many","_law_turn"]:List Str) by decide) rfl (Or.inl rfl))) (λ_ _ _ _=>(ZF fS (ZF ju (pv 2) (ZF fG (pv 0) Zg)) (pv 1))) rfl rfl (by decide) rfl (by decide) (lr (by(repeat' first|exact bU _|refine bT.mpr ⟨?_,?_⟩) <;> rfl)) (mn (by(repeat' first|exact bU _|refine bT.mpr ⟨?_,?_⟩) <;> first|(intro h;exact⟨_,rfl⟩)|(intro h;exact absurd h (by decide)))) (λ_=>by(repeat' first|exact bU _|refine bT.mpr ⟨?_,?_⟩) <;> exact⟨rfl,rfl,Or.inl rfl⟩) (λ_=>rfl) rfl)
  (Zd (Zx (i:=7) nH.nd rfl (Or.inl rfl) (eU Ze))
  (Zd (gG fX rfl (Zkl rfl (B "range" (by decide)) (Zb (ZF fG Zg (pv 1)) (Zb (Zu (PN rfl) rfl (B "min" (by decide)) Dr (Zb (Zu ZD rfl (B "len" (by decide)) gC (Zb (pv 0) Ze)) (Zb Zg Ze))) (Zb Zg Ze)))) (Zt (i:=8) nH.nd rfl (Or.inl rfl))
   (Zd (Zx (i:=9) nH.nd rfl (Or.inl rfl) (eS wX hr rfl (Zb (pv 0) (Zb (pv 8) Ze))))
    (Zd (Zx (i:=10) nH.nd rfl (Or.inl rfl) (eS JG hr rfl (Zb (eS wX hr rfl (Zb (pv 0) (Zb Zg Ze))) (Zb (ZF fS (ZF ju (pv 9) Zg) (ZF fG Zg (ZF fS (ZF ju (pv 2) Zg) Zg))) Ze))))
    (Zh (ix (mr jl mZ m9 jS (pv 7) (Zb (dU (Zb (ZF fS (pv 9) (pv 3)) (Zb (pv 10) (Zb (ZF fS (ZF ju (pv 9) Zg) (pv 3)) (Zb (ZF fS (ZF ju (pv 9) Zg) (pv 3)) Ze))))) Ze)))))))
  hu5)))),?_⟩)
 rotate_left
 .rintro gz H0 ⟨ch,m,tu,rfl,rfl,m1,m8⟩;have qd:(0:Int)<m:=by omega
  have h8:=zO tu (n:=8) (by decide);have h3:=zO tu (n:=3) (by decide);have h2:=zO (tu / 24) (n:=2) (by decide);obtain⟨j1,TB,ZDV,ZDW⟩:∃j:Int,(if 1+tu % 3<tu % 8 then 1+tu % 3 else tu % 8)=j/\0<=j/\j<=7:=by
   by_cases c:1+tu % 3<tu % 8
   .exact⟨_,ao c,by omega,by omega⟩
   .exact⟨_,ai c,by omega,by omega⟩
  refine⟨_,rfl,_,_,rfl,rfl,(by show(0:Int)<8;decide),_,rfl,_,_,rfl,rfl,(by show(0:Int)<3;decide),_,_,rfl,rfl,_,_,rfl,j1,(by rw[TB]),by omega,by omega,λpt Ug=>?_⟩;refine OB (lo:=0) (n:=j1.toNat) (p:=pt) (λi ys σ H2=>∃(v0:Option V)(ts:List Int),σ =[v0,some (.int m),some (.int tu)]/\Zj H0 H2/\H2 pt=some (.lst ys)/\ys=ts.map V.int/\ts.length=i/\∀x∈ts,0<=x/\x<m)
   ⟨none,[],rfl,Zj.new Ug,Za,rfl,rfl,λx h=>(nomatch h)⟩ ?_ ?_ ?_
  .rintro i ys σ H2 _ ⟨v0,ts,_,_,h,_⟩;exact h
  .rintro i ys σ H2 hi ⟨v0,ts,rfl,sm,hp,rfl,hl,hb⟩;refine⟨_,rfl,_,rfl,_,_,rfl,rfl,_,_,rfl,rfl,⟨by omega,by omega⟩,_,rfl,_,_,rfl,rfl,qd,hp,?_,CW.next hi ⟨_,ts ++ [tu / (0+(i:Int)+7) % m],rfl,sm.du Ug,Za,?_,?_,λx hx=>?_⟩⟩
   .rw[aF];exact lj (by omega)
   .rw[eN];rfl
   .rw[cw,hl];rfl
   .rcases bV.mp hx with hx|hx
    .exact hb x hx
    .rw[aI.mp hx];exact⟨oN _ (by omega),oM _ qd⟩
  rintro ys σ H2 ⟨v0,ts,rfl,sm,hp,rfl,hl,hb⟩;refine⟨_,rfl,_,_,rfl,rfl,⟨by decide,by decide⟩,_,_,rfl,rfl,(by show(0:Int)<8;decide),_,_,rfl,rfl,_,rfl,_,rfl,_,_,rfl,rfl,⟨by decide,by decide⟩,_,_,rfl,rfl,(by show(0:Int)<2;decide),_,_,rfl,rfl,?_⟩;obtain⟨j2,TC,ZDX,ZDY⟩:∃j:Int,(if(decide (tu / 3 % 8 > 0))=true then(1:Int) else 0)+tu / 24 % 2=j/\0<=j/\j<=4:=by
   by_cases c:(decide (tu / 3 % 8 > 0))=true
   .exact⟨_,by rw[ao c],by omega,by omega⟩
   .exact⟨_,by rw[ai c],by omega,by omega⟩
  refine⟨j2,(by rw[<- TC]),by omega,by omega,λph Ep=>?_⟩;refine OB (lo:=0) (n:=j2.toNat) (p:=ph) (λi ys σ H3=>∃(v0:Option V)(hs:List Int),σ =[v0,some (.int m),some (.int tu)]/\Zj H2 H3/\H3 ph=some (.lst ys)/\ys=hs.map V.int/\hs.length=i)
   ⟨none,[],rfl,Zj.new Ep,Za,rfl,rfl⟩ ?_ ?_ ?_
  .rintro i ys σ H3 _ ⟨v0,hs,_,_,h,_⟩;exact h
  .rintro i ys σ H3 hi ⟨v0,hs,rfl,je,Eo,rfl,Ej⟩;refine⟨_,rfl,_,rfl,_,_,rfl,rfl,_,_,rfl,rfl,⟨by omega,by omega⟩,_,rfl,_,_,rfl,rfl,qd,Eo,?_,CW.next hi ⟨_,hs ++ [tu / (0+(i:Int)+11) % m],rfl,je.du Ep,Za,?_,?_⟩⟩
   .rw[aF];exact lj (by omega)
   .rw[eN];rfl
   .rw[cw,Ej];rfl
  rintro ys σ H3 ⟨v0',hs,rfl,je,Eo,rfl,Ej⟩;refine⟨by decide,λpr mJ=>?_⟩;have s3:=sm.trans je;have s4:Zj H3 (upd H3 pr (.lst [])):=Zj.new mJ;have Zzk:=s3.free mJ;have e4:(upd H3 pr (.lst [])) pr=some (.lst []):=Za;have t4:=s4 _ _ (je _ _ hp);have yF:=s4 _ _ Eo;have npt:pt≠pr:=Zi (je _ _ hp) mJ;have nph:ph≠pr:=Zi Eo mJ;generalize upd H3 pr (.lst [])=H4 at s4 e4 t4 yF ⊢;have Vi:=s3.trans s4;obtain⟨j,hj,hj0,TB,TC⟩:∃j:Int,(if(36:Int)<((ns.map V.int).length:Nat) then(36:Int) else((ns.map V.int).length:Nat))=j/\0<=j/\j<=36/\j<=63:=by
   by_cases c:(36:Int)<((ns.map V.int).length:Nat)
   .exact⟨_,ao c,by omega,by omega,by omega⟩
   .exact⟨_,ai c,by omega,by omega,by rw[aF];omega⟩
  have hsz:(mX (4+sd) j 2).toNat<=16:=by
   unfold mX;rw[ao (by decide)]
   split <;> omega
  refine⟨_,rfl,_,_,rfl,rfl,_,rfl,a,_,rfl,.inl (Vi.seq hS),_,_,rfl,_,j,_,(by rw[hj]),⟨by omega,by omega,by omega,by omega⟩,rfl,Zj3 (λi σ H1=>∃(v9 v10 v11:Option V)(zs:List V)(qs:List ax.Qd),σ =[some (.ref a),some (.int sd),some (.int ch),some (.int m),some (.int tu),some (.ref pt),some (.ref ph),some (.ref pr),v9,v10,v11]/\Zj H0 H1/\H1 pt=some (.lst (ts.map V.int))/\H1 ph=some (.lst (hs.map V.int))/\H1 pr=some (.lst zs)/\QL H1 zs qs/\(qs.length<=i/\∀q∈qs,IV m q))
   ⟨none,none,none,[],[],rfl,Vi,t4,yF,e4,.nil,aD _,λq h=>(nomatch h)⟩ ?_ ?_⟩
  .rintro i σ H1 hi ⟨v9,v10,v11,zs,qs,rfl,s1,k1,k2,k3,hQ,rZ,KL⟩;have ZDT:i<16:=cg hi hsz;refine⟨_,rfl,_,rfl,a,ns,4+sd+(i:Int)*2,rfl,s1.seq hS,pT,by omega,by omega,λd d0 d1=>?_⟩;have h33:=zO (ch / 3) (n:=3) (by decide);refine⟨_,rfl,a,ns,0,rfl,s1.seq hS,pT,by decide,by decide,λse _ _=>⟨_,rfl,_,_,rfl,rfl,⟨by decide,by decide⟩,_,rfl,_,_,rfl,rfl,⟨by decide,by decide⟩,_,_,rfl,rfl,(by show(0:Int)<3;decide),_,_,rfl,rfl,_,_,rfl,rfl,(by show(0:Int)<1+ch / 3 % 3;omega),_,_,rfl,λt AL AM=>?_⟩⟩;refine⟨_,rfl,.inl ⟨rfl,_,au.of k3⟩,_,rfl,_,rfl,_,_,rfl,rfl,qd,_,rfl,_,rfl,_,_,rfl,rfl,⟨by decide,by decide⟩,_,rfl,_,_,rfl,rfl,qd,_,rfl,_,_,rfl,rfl,⟨by decide,by decide⟩,_,rfl,_,_,rfl,rfl,qd,by show(4:Nat)<=sizeLine;decide,λp hp=>?_⟩;have s5:Zj H1 (upd H1 p (tq (d % m,t,d / 64 % m,d / 4096 % m))):=Zj.new hp;have e5:(upd H1 p (tq (d % m,t,d / 64 % m,d / 4096 % m))) p=some (tq (d % m,t,d / 64 % m,d / 4096 % m)):=Za;have iE:=hQ.length;refine⟨pr,_,_,rfl,rfl,s5 _ _ k3,lj (by omega),?_⟩;refine⟨_,_,_,_,qs ++ [(d % m,t,d / 64 % m,d / 4096 % m)],rfl,(s1.trans s5).du Zzk,?_,?_,Za,?_,?_,λq hq=>?_⟩
   .rw[Zc npt];exact s5 _ _ k1
   .rw[Zc nph];exact s5 _ _ k2
   .exact(QL.snoc e5 (hQ.keep λb xs e=>s5 _ _ e)).keep (jR (s5 _ _ k3))
   .rw[cw,sO];omega
   .rcases bV.mp hq with hq|hq
    .exact KL q hq
    .rw[aI.mp hq];exact⟨oN _ (by omega),oM _ qd,oN _ (by omega),oM _ qd,oN _ (by omega),oM _ qd,AL,AM⟩
  .rintro σ H1 ⟨v9,v10,v11,zs,qs,rfl,s1,k1,k2,k3,hQ,rZ,KL⟩;exact hR _ _ ⟨ch,m,tu,pt,ph,pr,v9,v10,v11,ts,hs,zs,qs,rfl,m1,m8,s1,k1,k2,k3,hQ,⟨by omega,hb⟩,by omega,by omega,KL⟩
 refine⟨_,(Zh (Z1 (dU (Zb (pv 3) (Zb (lq tX rfl (B "tuple" (by decide)) mh (Zb (CB rfl hu rfl (B "sorted" (by decide)) rfl (B "set" (by decide)) (Zb (pv 6) Ze)) Ze)) (Zb (lq tX rfl (B "tuple" (by decide)) mh (Zb (CB rfl hu rfl (B "sorted" (by decide)) rfl (B "set" (by decide)) (Zb (pv 5) Ze)) Ze)) (Zb (lq tX rfl (B "tuple" (by decide)) mh (Zb (CB rfl hu rfl (B "sorted" (by decide)) rfl (B "set" (by decide)) (Zb (pv 7) Ze)) Ze)) Ze))))))),?_⟩;rintro gz H0 ⟨ch,m,tu,pt,ph,pr,v9,v10,v11,ts,hs,zs,qs,rfl,m1,m8,s0,k1,k2,k3,hQ,⟨cU,KY⟩,hhl,rZ,hqb⟩;refine⟨_,rfl,_,rfl,.inr ⟨ph,hs,rfl,au.of k2,by omega,λr1 x1 oo Ew Em=>⟨r1,_,rfl,.inl ⟨au.of Za,λu1 kg=>?_⟩⟩⟩⟩;have s4:Zj H0 (upd (upd H0 r1 (.lst (x1.map V.int))) u1 (.tup (x1.map V.int))):=(Zj.new oo).trans (Zj.new kg);have e4:(upd (upd H0 r1 (.lst (x1.map V.int))) u1 (.tup (x1.map V.int))) u1=some (.tup (x1.map V.int)):=Za;generalize upd (upd H0 r1 (.lst (x1.map V.int))) u1 (.tup (x1.map V.int))=H4 at s4 e4 ⊢;refine⟨_,rfl,.inr ⟨pt,ts,rfl,au.of (s4 _ _ k1),by omega,λr2 x2 r8 Ui TV=>⟨r2,_,rfl,.inl ⟨au.of Za,λu2 hu2=>?_⟩⟩⟩⟩;have s5:Zj H4 (upd (upd H4 r2 (.lst (x2.map V.int))) u2 (.tup (x2.map V.int))):=(Zj.new r8).trans (Zj.new hu2);have e5:(upd (upd H4 r2 (.lst (x2.map V.int))) u2 (.tup (x2.map V.int))) u2=some (.tup (x2.map V.int)):=Za;generalize upd (upd H4 r2 (.lst (x2.map V.int))) u2 (.tup (x2.map V.int))=H5 at s5 e5 ⊢;have LP:=s4.trans s5;have iE:=hQ.length;refine⟨_,rfl,.inl ⟨pr,zs,qs,rfl,au.of (LP _ _ k3),by omega,hQ.keep λb xs e=>LP _ _ e,λr3 z3 x3 KN Uj Kv hQ3=>⟨r3,_,rfl,.inl ⟨au.of Za,λu3 hu3=>?_⟩⟩⟩⟩;have s6:Zj H5 (upd (upd H5 r3 (.lst z3)) u3 (.tup z3)):=(Zj.new KN).trans (Zj.new hu3);have e6:(upd (upd H5 r3 (.lst z3)) u3 (.tup z3)) u3=some (.tup z3):=Za;generalize upd (upd H5 r3 (.lst z3)) u3 (.tup z3)=H6 at s6 e6 ⊢;refine⟨by show(4:Nat)<=sizeLine;decide,λr hr=>?_⟩;have s7:Zj H6 (upd H6 r (.tup [.int m,.ref u1,.ref u2,.ref u3])):=Zj.new hr;refine q r ⟨m,x1,x2,x3⟩ _ (((s0.trans LP).trans s6).trans s7) ⟨u1,u2,u3,z3,Za,s7 _ _ (s6 _ _ (s5 _ _ e4)),s7 _ _ (s6 _ _ e5),s7 _ _ e6,hQ3.keep λb xs e=>s7 _ _ (s6 _ _ e)⟩
  ⟨⟨?_,?_,?_,Ui⟩,by show 0<=m;omega,m8,λk hk=>KY k ((TV k).mp hk),λq hq=>hqb q ((Kv q).mp hq),?_⟩
 .exact cz (me (tV Ew) λx hx=>(Em x).mp hx) (by omega)
 .exact cz (me (tV Ui) λx hx=>(TV x).mp hx) (by omega)
 .exact cz (me (OG Uj) λx hx=>(Kv x).mp hx) (by omega)
 .exact cz (me (OG Uj) λx hx=>(Kv x).mp hx) rZ
def mq:List (List Int):=[[],[0],[1],[2],[0,1],[0,2],[1,2],[0,1,2]]
theorem Ia{l:List Int}(hl:rG l)(h:∀x∈l,0<=x/\x<3):l∈mq:=by
 have e:l=([0,1,2]:List Int).filter λx=>decide (x∈l):=by
  refine PY hl ?_ λx=>?_
  .exact ZCh _ (show rG [0,1,2] by unfold rG;decide)
  .rw[fA];constructor
   .intro hx;obtain⟨h1,h2⟩:=h x hx;refine⟨?_,aJ hx⟩;have:x=0\/x=1\/x=2:=by lia
    rcases this with rfl|rfl|rfl <;> decide
   .exact λ⟨_,h2⟩=>bC h2
 rw[e];generalize (λx:Int=>decide (x∈l))=p;unfold mq;cases h0:p 0 <;> cases h1:p 1 <;> cases h2:p 2 <;> simp[List.filter,h0,h1,h2]
theorem Rl(s:iR fm){w:Str}{a b:List Int}:sy fm w a b∈mq:=by
 by_cases h:∃ks,nE fm w a b ks
 .obtain⟨ks,hk⟩:=h;rw[zE hk];refine Ia hk.1 λx hx=>?_;obtain⟨q,hq,rfl,_⟩:=(hk.2.2 x).mp hx;obtain⟨r1,r2,_⟩:=s.qs q hq;exact⟨r1,Bq r2 s.n3⟩
 .unfold sy;rw[dif_neg h]
  decide
theorem Zmw{one:FQ}(s1:iR one)(s2:iR fm){g:Gs}(h:GI one.ts one.qs fm g):∀e∈g.sl,(0<=e.1.1/\e.1.1<3)/\e.1.2∈mq:=by
 intro e he;obtain⟨i,hi⟩:=fc.mp he;rcases h.sk i e hi with⟨k,hk,rfl⟩|⟨q,hq,a,wa,b,wb,_,_,_,_,rfl⟩
 .obtain⟨r1,r2⟩:=s1.ts k hk;refine⟨⟨r1,Bq r2 s1.n3⟩,Ia s2.len.2.2.2 λx hx=>?_⟩;obtain⟨r3,r4⟩:=s2.ts x hx;exact⟨r3,Bq r4 s2.n3⟩
 .obtain⟨r1,r2,_⟩:=s1.qs q hq;exact⟨⟨r1,Bq r2 s1.n3⟩,Rl s2⟩
theorem eY{one:FQ}(s1:iR one)(s2:iR fm):Cr one.ts one.qs fm:=by
 intro g h;have nd:=(Z8 h.nd).1;have ks:=Zmw s1 s2 h;have n8:∀k,nK g.sl k<=8:=λk=>by
  unfold nK;have h1:((g.sl.filter λx=>decide (x.1.1=k)).map λx=>x.1.2).Nodup:=by
   rw[kD,iK];have h2:(g.sl.filter λx=>decide (x.1.1=k)).Pairwise λx y=>x.1≠y.1:=(iK.mp nd).filter _;refine Fu (λ{x y} hx hy aY e=>aY ?_) h2;have e1:x.1.1=k:=bC (fA.mp hx).2;have e2:y.1.1=k:=bC (fA.mp hy).2;exact FV (e1.trans e2.symm) e
  have:=me h1 (m:=mq) λv hv=>by
   obtain⟨x,hx,rfl⟩:=aX.mp hv;exact(ks x (fA.mp hx).1).2
  rw[aF] at this;exact this
 refine⟨?_,?_⟩
 .have h0:∀x∈g.sl,x.1.1=0\/x.1.1=1\/x.1.1=2:=λx hx=>by
   have:=(ks x hx).1;lia
  have split:∀l:List (Pk×Wd),(∀x∈l,x.1.1=0\/x.1.1=1\/x.1.1=2)->l.length=nK l 0+nK l 1+nK l 2:=by
   intro l
   induction l with
   | nil=>intro _;rfl
   | cons x xs ih =>
    intro hx;have:=ih λy hy=>hx y (bp _ hy);have e:∀k,nK (x::xs) k=nK xs k+if x.1.1=k then 1 else 0:=λk=>by
     unfold nK
     split
     .rename_i h
      rw[Fz (by simpa using h)];rfl
     .rename_i h
      rw[Fy (by simpa using h)];rfl
    rw[e,e,e,bB];rcases hx x (bw ..) with z|z|z <;> rw[z] <;> simp <;> lia
  have:=split g.sl h0;have:=n8 0;have:=n8 1;have:=n8 2;lia
 .have:=II n8 one.qs;have:=s1.E2;have:one.qs.length*(8*8)<=16*64:=FO this (by decide);lia
def HP(K:ay):Sp:=λvs H Q _=>∃(a p1 p2:Addr)(w:Str)(f:FQ)(n1 n2:List Int),vs=[.ref a,.str w,.ref p1,.ref p2]/\fF H a f/\ui f/\H p1=some (.tup (n1.map V.int))/\H p2=some (.tup (n2.map V.int))/\∀(r:Addr)(ks:List Int)(H':Hp),Zj H H'->H' r=some (.tup (ks.map V.int))->nE f w n1 n2 ks->Q (.ref r) H'
def nS(w:Str)(n1 n2:List Int)(qs:List ax.Qd):List Int:=(qs.filter λq=>decide (V.str q.2.1=V.str w)&&(decide (q.2.2.1∈n1)&&decide (q.2.2.2∈n2))).map (·.1)
theorem ZiW{w:Str}:x∈nS w n1 n2 qs↔∃q∈qs,q.1=x/\q.2.1=w/\q.2.2.1∈n1/\q.2.2.2∈n2:=by
 unfold nS;rw[aX];constructor
 .rintro⟨q,hm,rfl⟩;obtain⟨h1,h2⟩:=fA.mp hm;rw[gA,gA,kJ,kJ,kJ] at h2;obtain⟨e,hp,hr⟩:=h2;exact⟨q,h1,rfl,by injection e,hp,hr⟩
 .rintro⟨q,h1,rfl,rfl,hp,hr⟩;refine⟨q,fA.mpr ⟨h1,?_⟩,rfl⟩;rw[gA,gA,kJ,kJ,kJ];exact⟨rfl,hp,hr⟩
theorem O0{w:Str}(h:qs[i]?= some q):nS w n1 n2 (qs.take (i+1))=nS w n1 n2 (qs.take i)++if(decide (V.str q.2.1=V.str w)&&(decide (q.2.2.1∈n1)&&decide (q.2.2.2∈n2)))=true then [q.1] else []:=by
 unfold nS;rw[Zq h,yd,eN]
 congr 1
 by_cases e:(decide (V.str q.2.1=V.str w)&&(decide (q.2.2.1∈n1)&&decide (q.2.2.2∈n2)))=true
 .rw[ao e,Fx,ao e];rfl
 .rw[ai e,Fx,ai e];rfl
theorem Pp{w:Str}:(nS w n1 n2 qs).length<=qs.length:=by
 unfold nS;rw[aF];exact Bz ..
theorem ZhR(B:∀x∈eG,mg x=none)(F:ci K "_law_above" "_law_above" Hr f fd):br P w K mg base cA 1 f fd ["_law_other","_law_word","_law_inner","_law_rest"] (HP K):=by
 refine F.ok OT (λvs H Q E h=>?_) (λbg A outer s H vs Q E hr h=>?_)
 .obtain⟨a,p1,p2,w,fm,n1,n2,rfl,_⟩:=h;rfl
 obtain⟨a,p1,p2,wd,fm,n1,n2,rfl,⟨f1,f2,f3,zf,a1,a2,a3,a4,a5⟩,⟨l1,l2,l3,l4⟩,h1,h2,q⟩:=h;have hu:=zp hr;have iE:=a5.length;refine⟨_,(Zd (yX (cl:=_) (n0:=4) OT.nd rfl (Or.inl rfl) ["_law_rule"] [("_law_word",1),("_law_inner",2),("_law_rest",3)] (mj (ZR ZG (pv 0) Zg (λ_ _=>rfl))) (λ_ _ _ _=>(Zt (i:=0) (show kD (["_law_rule","_law_word","_law_inner","_law_rest"]:List Str) by decide) rfl (Or.inl rfl))) (λ_ _ _ _=>(PW.pt (wI (ZC iy (ZR (q_ (K:=K) rfl) (pv 0) Zg (λ_ _=>rfl)) (pv 1) (ZM _)) (wI (ZC (OX (K:=K) rfl) (ZR (q_ (K:=K) rfl) (pv 0) Zg (λ_ _=>rfl)) (pv 2) (by with_unfolding_all rfl)) (zk (ZC (OX (K:=K) rfl) (ZR (q_ (K:=K) rfl) (pv 0) Zg (λ_ _=>rfl)) (pv 3) (by with_unfolding_all rfl))))))) (λ_ _ _ _=>(ZR (q_ (K:=K) rfl) (pv 0) Zg (λ_ _=>rfl))) rfl rfl (by decide) rfl (by decide) (lr (by(repeat' first|exact bU _|refine bT.mpr ⟨?_,?_⟩) <;> rfl)) (mn (by(repeat' first|exact bU _|refine bT.mpr ⟨?_,?_⟩) <;> first|(intro h;exact⟨_,rfl⟩)|(intro h;exact absurd h (by decide)))) (λ_=>by(repeat' first|exact bU _|refine bT.mpr ⟨?_,?_⟩) <;> exact⟨rfl,rfl,Or.inl rfl⟩) (λ_=>rfl) rfl)
  (Zh (Z1 (lq tX rfl (B "tuple" (by decide)) mh (Zb (CB rfl hu rfl (B "sorted" (by decide)) rfl (B "set" (by decide)) (Zb (pv 4) Ze)) Ze))))),?_⟩
 refine⟨_,rfl,a,_,3,_,rfl,rfl,az.of a1,rfl,f3,rfl,⟨_,az.of a4⟩,λpl aM=>Pj (K:=K) (a:=f3) (p:=pl) (xs:=zf) (λj us σ H1=>∃v0:Option V,σ =[v0,some (.str wd),some (.ref p1),some (.ref p2)]/\Zj H H1/\H1 pl=some (.lst us)/\us=(nS wd n1 n2 (fm.qs.take j)).map V.int)
  ⟨none,rfl,Zj.new aM,Za,rfl⟩ ?_ ?_ ?_⟩
 .rintro j us σ H1 _ ⟨_,_,sm,h,_⟩;exact⟨az.of (sm _ _ a4),h⟩
 .rintro j us x σ H1 hj hx ⟨v0,rfl,sm,h,rfl⟩;obtain⟨p,q1,e1,rfl,e2⟩:=a5.get j x hx;have cY:=az.of (K:=K) (sm _ _ e2);have hlen:=Pp (w:=wd) (n1:=n1) (n2:=n2) (qs:=fm.qs.take j);rw[gX] at hlen;have skip : ¬ (decide (V.str q1.2.1=V.str wd)&&(decide (q1.2.2.1∈n1)&&decide (q1.2.2.2∈n2)))=true->∃m',m'<zf.length-j/\CW zf.length (λj us σ H1=>∃v0:Option V,σ =[v0,some (.str wd),some (.ref p1),some (.ref p2)]/\Zj H H1/\H1 pl=some (.lst us)/\us=(nS wd n1 n2 (fm.qs.take j)).map V.int) (j+1) m' ((nS wd n1 n2 (fm.qs.take j)).map V.int) [some (.ref p),some (.str wd),some (.ref p1),some (.ref p2)] H1:=λlH =>
   CW.next hj ⟨_,rfl,sm,h,by rw[O0 e1,ai lH,gW]⟩
  refine⟨_,rfl,p,_,1,_,rfl,rfl,cY,rfl,_,rfl,rfl,_,rfl,cJ (λc1=>?_) (λc1=>dj (skip λz=>c1 ?_))⟩
  .refine⟨_,rfl,p,_,2,_,rfl,rfl,cY,rfl,_,rfl,p1,_,rfl,.inr (az.of (sm _ _ h1)),rfl,Pf _,?_⟩;rw[ai (by decide),Qj];refine⟨_,rfl,cJ (λc2=>?_) (λc2=>dj (skip λz=>c2 ?_))⟩
   .refine⟨_,rfl,p,_,3,_,rfl,rfl,cY,rfl,_,rfl,p2,_,rfl,.inr (az.of (sm _ _ h2)),rfl,Pf _,?_⟩;rw[ai (by decide),Qj];refine⟨_,rfl,cJ (λc3=>?_) (λc3=>skip λz=>c3 ?_)⟩
    .refine⟨_,rfl,p,_,0,_,rfl,rfl,cY,rfl,h,lj (by rw[aF];lia),CW.next hj ⟨_,rfl,sm.du aM,Za,?_⟩⟩
     rw[O0 e1,ao (by rw[c1,c2,c3];rfl),eN];rfl
    .rw[gA,gA] at z;exact z.2.2
   .rw[gA,gA] at z;exact z.2.1
  .rw[gA] at z;exact z.1
 rintro us σ H1 ⟨v0,rfl,sm,h,rfl⟩;rw[iE,d_] at h;have hlen:=Pp (w:=wd) (n1:=n1) (n2:=n2) (qs:=fm.qs);refine⟨_,rfl,.inr ⟨pl,_,rfl,au.of h,by lia,λr1 x1 oo Ew Em=>⟨r1,_,rfl,.inl ⟨au.of Za,λu1 kg=>?_⟩⟩⟩⟩;refine q u1 x1 _ (sm.trans ((Zj.new oo).trans (Zj.new kg))) Za ⟨Ew,?_,λx=>(Em x).trans ZiW⟩;exact cz (me (tV Ew) λx hx=>(Em x).mp hx) (by lia)
def iZ:List (Gr Str)->List Str
 | []=>[]
 | [g]=>words SL g
 | g::h::t=>words SL g++SL::iZ (h::t)
def zL(H:Hp)(v:V)(g:Gr Str):Prop := ∃(b row:Addr)(xs:List V)(n:Nat),v=.ref b/\H b=some (.tup [.ref row,.int (n:Int)])/\H row=some (.tup xs)/\n<=xs.length/\fj H (xs.drop n) g
theorem zL.mono{H H':Hp}(k:TK H H'){v:V}{g:Gr Str}(h:zL H v g):zL H' v g:=by
 obtain⟨b,row,xs,n,e,h1,h2,h3,h4⟩:=h;exact⟨b,row,xs,n,e,k _ _ h1,k _ _ h2,h3,h4.mono k⟩
theorem Il:∀st:List (Gr Str),st.length<=(iZ st).length+1
 | []=>bG _
 | [g]=>by show 1<=_;lia
 | g::h::t=>by
  have:=Il (h::t);show(h::t).length+1<=(words SL g++SL::iZ (h::t)).length+1;simp only[cw,bB] at this ⊢;lia
theorem ZlD(t:Str)(w o:Gr Str)(st:List (Gr Str)):iZ (.cons t w o::st)=t::iZ (w::o::st):=by
 cases st with
 | nil=>rfl
 | cons h l =>
  show t::(words SL w++SL::words SL o)++SL::iZ (h::l)=t::(words SL w++SL::(words SL o++SL::iZ (h::l)));rw[vx,oP];rfl
def Qb:Sp:=λvs H Q _=>∃(a:Addr)(xs:List V)(g:Gr Str),vs=[.ref a]/\H a=some (.tup xs)/\fj H xs g/\wY g<=300/\∀(r:Addr)(H':Hp),Zj H H'->H r=none->H' r=some (.lst ((words SL g).map V.str))->Q (.ref r) H'
theorem Zjz(B:∀x∈eG,mg x=none)(F:ci K "_law_list" "_law_list" HM f fd):br P w K mg base cA 1 f fd ["_law_found"] Qb:=by
 refine F.ok wu (λvs H Q E h=>?_) (λbg A outer s H vs Q E hr h=>?_)
 .obtain⟨a,xs,g,rfl,_⟩:=h;rfl
 obtain⟨a,xs,g,rfl,ha,hG,hg3,q⟩:=h;have Kk:=CT g;refine⟨_,(Zd (Zx (i:=1) wu.nd rfl (Or.inl rfl) (eU Ze))
  (Zd (Zx (i:=2) wu.nd rfl (Or.inl rfl) (eU (Zb (dU (Zb (pv 0) (Zb Zg Ze))) Ze)))
  (Zd (HQ fX (ZC wK (Zu ZD rfl (B "len" (by decide)) gC (Zb (pv 2) Ze)) Zg (ZM _))
   (Zd (Znm (Dm jl M0 M4 IE (pv 2)) (wC rfl (Z6 (Zt (i:=3) wu.nd rfl (Or.inl rfl)) (Z6 (Zt (i:=4) wu.nd rfl (Or.inl rfl)) wB))))
    (Zd (cR (PW.pt (lu (mi (iT (Zu qZ rfl (B "isinstance" (by decide)) ZV (Zb (pv 3) (Zb (rB rfl (B "tuple" (by decide)) mh) Ze))) (λ_=>rfl))) (rA (ZC wK (Zu ZD rfl (B "len" (by decide)) gC (Zb (pv 1) Ze)) Zg (ZM _)))))
     (Zh (Z1 jx))
     ZW)
    (Zh (cR (ZC IQ (pv 4) (Zu ZD rfl (B "len" (by decide)) gC (Zb (pv 3) Ze)) (ZM _))
     (Zd (Zx (i:=5) wu.nd rfl (Or.inl rfl) (ZR ZG (pv 3) (pv 4) (λ_ _=>rfl)))
      (Zd (cR (PW.pt (lu (mi (iT (Zu qZ rfl (B "isinstance" (by decide)) ZV (Zb (pv 5) (Zb (rB rfl (B "tuple" (by decide)) mh) Ze))) (λ_=>rfl))) (lu (ZC RW (Zu ZD rfl (B "len" (by decide)) gC (Zb (pv 5) Ze)) Zg (ZM _)) (rA (mi (iT (Zu qZ rfl (B "isinstance" (by decide)) ZV (Zb (ZR ZG (pv 5) Zg (λ_ _=>rfl)) (Zb (rB rfl (B "str" (by decide)) Zn2) Ze))) (λ_=>rfl)))))))
       (Zh (Z1 jx))
       ZW)
      (Zd (ix (mr jl mZ m9 jS (pv 1) (Zb (ZR ZG (pv 5) Zg (λ_ _=>rfl)) Ze)))
      (Zd (ix (mr jl mZ m9 jS (pv 2) (Zb (dU (Zb (pv 3) (Zb (ZF fG (pv 4) Zg) Ze))) Ze)))
      (Zh (ix (mr jl mZ m9 jS (pv 2) (Zb (dU (Zb (ZR ZG (pv 5) Zg (λ_ _=>rfl)) (Zb Zg Ze))) Ze))))))))
     (Zh (cR (ZC wK (Zu ZD rfl (B "len" (by decide)) gC (Zb (pv 2) Ze)) Zg (ZM _))
       (Zh (ix (mr jl mZ m9 jS (pv 1) (Zb uh Ze))))
       ZW)))))))
  (Zh (Z1 (pv 1)))))),?_⟩
 refine⟨by decide,λwp u_=>?_⟩;have s1:Zj H (upd H wp (.lst [])):=Zj.new u_;refine⟨_,rfl,(show(2:Nat)<=sizeLine from by decide),λb1 c9=>⟨(show(1:Nat)<=sizeLine from by decide),λpp uV=>?_⟩⟩;have s2:=s1.trans (Zj.new (o:=.tup [.ref a,.int 0]) c9);have s3:=s2.trans (Zj.new (o:=.lst [.ref b1]) uV);have KG:=s2.free uV;have e1:=(Zj.new (o:=.lst [.ref b1]) uV) _ _ ((Zj.new (o:=.tup [.ref a,.int 0]) c9) _ _ (Za (H:=H) (a:=wp) (o:=.lst [])));have e2:=(Zj.new (o:=.lst [.ref b1]) uV) _ _ (Za (H:=upd H wp (.lst [])) (a:=b1) (o:=.tup [.ref a,.int 0]));have A4:pp≠wp:=λz=>by
  rw[z] at uV;have:=(Zj.new (o:=.tup [.ref a,.int 0]) c9) _ _ (Za (H:=H) (a:=wp) (o:=.lst []));rw[this] at uV;cases uV
 let W:Nat->St->Hp->Prop:=λm σ H1=>∃(acc:List Str)(ps:List V)(st:List (Gr Str))(v3 v4 v5:Option V),σ =[some (.ref a),some (.ref wp),some (.ref pp),v3,v4,v5]/\Zj H H1/\H1 wp=some (.lst (acc.map V.str))/\H1 pp=some (.lst ps.reverse)/\ck (zL H1) ps st/\acc++iZ st=words SL g/\m=2*(iZ st).length+st.length
 refine⟨W,⟨_,[],[.ref b1],[g],none,none,none,rfl,s3,e1,Za,.cons ⟨b1,a,xs,0,rfl,e2,s3 _ _ ha,bG _,hG.mono s3.tk⟩ .nil,rfl,rfl⟩,?_⟩;rintro m σ H1 ⟨acc,ps,st,v3,v4,v5,rfl,sm,Ur,AH,hP,i5,rfl⟩;have D9:acc.length+(iZ st).length=2*wY g:=by rw[<- Kk,<- i5,cw]
 have KR:=Il st;have aM:=dz hP;refine⟨_,rfl,pp,_,rfl,.inl (au.of AH),_,_,rfl,rfl,_,rfl,cJ (λd=>?_) (λd=>?_)⟩;rotate_left
 .have hz:ps=[]:=by
   cases ps with
   | nil=>rfl
   | cons x l =>
    refine(d (aJ ?_)).elim;rw[yk,bB];lia
  subst hz;cases hP;rw[show iZ [] =[] from rfl,gW] at i5;subst i5;exact⟨_,rfl,q wp H1 sm u_ Ur⟩
 cases hP with
 | nil=>cases d
 | @cons v g1 ps st h1 hP =>
  obtain⟨b,row,ys,n,rfl,hb,Zzw,hny,hRg⟩:=h1;refine⟨λav H'=>∃m',m'<2*(iZ (g1::st)).length+(g1::st).length/\W m' av H',λ_ _ h=>h,?_⟩;rw[sP] at AH;refine⟨_,rfl,.inl ⟨rfl,_,au.of AH⟩,pp,_,.ref b,rfl,rfl,AH,Hs _ _,?_⟩;rw[Hm];have k2:TK H1 (upd H1 pp (.lst ps.reverse)):=jR AH;have ig:Zj H (upd H1 pp (.lst ps.reverse)):=sm.du KG;have qk:(upd H1 pp (.lst ps.reverse)) wp=some (.lst (acc.map V.str)):=by rw[Zc A4.symm];exact Ur
  have AI:(upd H1 pp (.lst ps.reverse)) pp=some (.lst ps.reverse):=Za;have mC:ck (zL (upd H1 pp (.lst ps.reverse))) ps st:=ck.kl hP λ_ _ r=>r.mono k2;have i6:=k2 _ _ hb;have AK:=k2 _ _ Zzw;have w_:=hRg.mono k2;generalize upd H1 pp (.lst ps.reverse)=H2 at k2 ig qk AI mC i6 AK w_;refine⟨b,_,rfl,az.of i6,rfl,_,_,rfl,_,_,rfl,rfl,?_⟩;refine⟨_,rfl,_,_,_,_,rfl,.tup AK,rfl,_,rfl,dj ?_⟩;refine⟨_,rfl,wp,_,rfl,.inl (au.of qk),_,_,rfl,rfl,_,rfl,cJ (λd1=>?_) (λ_=>?_)⟩
  .have:=bC d1;rw[aF] at this;lia
  refine⟨_,rfl,_,rfl,row,_,rfl,.inr (az.of AK),_,_,rfl,rfl,_,rfl,cJ (λd1=>?_) (λd1=>?_)⟩
  .have d1:=bC d1;have aA:n<ys.length:=by lia
   rw[Bw aA] at w_;generalize hy:ys[n]=y at w_;have hyn:ys[n]?= some y:=by rw[cG aA,hy]
   cases w_ with
   | @cons p' q' t zs _ w o pu bX lT b9 =>
    refine⟨_,rfl,_,rfl,row,_,_,_,rfl,rfl,az.of AK,Ip hyn,?_⟩;refine⟨_,rfl,_,_,_,_,rfl,.tup pu,rfl,_,rfl,dj ?_⟩;refine⟨_,rfl,p',_,rfl,.inr (az.of pu),rfl,_,rfl,?_⟩;refine dj ?_;refine⟨_,rfl,p',_,0,_,rfl,rfl,az.of pu,rfl,_,_,_,_,rfl,.str _,rfl,_,rfl,dj ?_⟩;rw[ZlD] at i5 D9 ⊢;rw[bB] at D9;have ZzC:=Il (w::o::st);rw[bB,bB] at ZzC;have ZEa:=dz mC;refine⟨_,rfl,.inl ⟨rfl,_,au.of qk⟩,_,rfl,p',_,0,_,rfl,rfl,az.of pu,rfl,wp,_,_,rfl,rfl,qk,by rw[aF,bu];lia,?_⟩;have k3:TK H2 (upd H2 wp (.lst (acc.map V.str ++ [.str t]))):=jR qk;have je:Zj H (upd H2 wp (.lst (acc.map V.str ++ [.str t]))):=ig.du u_;have Us:(upd H2 wp (.lst (acc.map V.str ++ [.str t]))) wp=some (.lst ((acc ++ [t]).map V.str)):=by rw[Za,eN];rfl
    have Es:(upd H2 wp (.lst (acc.map V.str ++ [.str t]))) pp=some (.lst ps.reverse):=by rw[Zc A4];exact AI
    generalize upd H2 wp (.lst (acc.map V.str ++ [.str t]))=H3 at k3 je Us Es;refine⟨_,rfl,.inl ⟨rfl,_,au.of Es⟩,_,rfl,_,rfl,_,_,rfl,rfl,(show(2:Nat)<=sizeLine from by decide),λc1 j6=>⟨pp,_,_,rfl,rfl,(Zj.new j6) _ _ Es,by rw[yk,bu];lia,?_⟩⟩;have s4:Zj H3 (upd H3 c1 (.tup [.ref row,.int ((n:Int)+1)])):=Zj.new j6;have Sq:(upd H3 c1 (.tup [.ref row,.int ((n:Int)+1)])) c1=some (.tup [.ref row,.int ((n:Int)+1)]):=Za;have Ud:=s4 _ _ Es;have Ut:=s4 _ _ Us;have Vk:=je.trans s4;have k4:TK H3 (upd H3 c1 (.tup [.ref row,.int ((n:Int)+1)])):=s4.tk;generalize upd H3 c1 (.tup [.ref row,.int ((n:Int)+1)])=H4 at s4 Sq Ud Ut Vk k4 ⊢;have k5:TK H4 (upd H4 pp (.lst (ps.reverse ++ [.ref c1]))):=jR Ud;have Vl:Zj H (upd H4 pp (.lst (ps.reverse ++ [.ref c1]))):=Vk.du KG;have Et:(upd H4 pp (.lst (ps.reverse ++ [.ref c1]))) pp=some (.lst (ps.reverse ++ [.ref c1])):=Za;have Uu:(upd H4 pp (.lst (ps.reverse ++ [.ref c1]))) wp=some (.lst ((acc ++ [t]).map V.str)):=by rw[Zc A4.symm];exact Ut
    have L5:TK H2 (upd H4 pp (.lst (ps.reverse ++ [.ref c1]))):=λb x e=>k5 _ _ (k4 _ _ (k3 _ _ e));have Ss:=k5 _ _ Sq;generalize upd H4 pp (.lst (ps.reverse ++ [.ref c1]))=H5 at k5 Vl Et Uu L5 Ss ⊢;refine⟨_,rfl,.inl ⟨rfl,_,au.of Et⟩,_,rfl,p',_,1,_,rfl,rfl,az.of (L5 _ _ pu),rfl,(show(2:Nat)<=sizeLine from by decide),λc2 gM=>⟨pp,_,_,rfl,rfl,(Zj.new gM) _ _ Et,by rw[cw,yk,bu];show ps.length+1<_;lia,?_⟩⟩;have s6:Zj H5 (upd H5 c2 (.tup [.ref q',.int 0])):=Zj.new gM;have Sr:(upd H5 c2 (.tup [.ref q',.int 0])) c2=some (.tup [.ref q',.int 0]):=Za;have Ue:=s6 _ _ Et;have Uv:=s6 _ _ Uu;have Vm:=Vl.trans s6;have k6:TK H5 (upd H5 c2 (.tup [.ref q',.int 0])):=s6.tk;generalize upd H5 c2 (.tup [.ref q',.int 0])=H6 at s6 Sr Ue Uv Vm k6 ⊢;have k7:TK H6 (upd H6 pp (.lst (ps.reverse ++ [.ref c1] ++ [.ref c2]))):=jR Ue;have Bg:TK H2 (upd H6 pp (.lst (ps.reverse ++ [.ref c1] ++ [.ref c2]))):=λb x e=>k7 _ _ (k6 _ _ (L5 _ _ e));refine⟨_,?_,acc ++ [t],.ref c2 :: .ref c1::ps,w::o::st,_,_,_,rfl,Vm.du KG,by rw[Zc A4.symm];exact Uv,by rw[Za,sP,sP],.cons ⟨c2,q',zs,0,rfl,k7 _ _ Sr,Bg _ _ bX,bG _,lT.mono Bg⟩ (.cons ⟨c1,row,ys,n+1,rfl,k7 _ _ (k6 _ _ Ss),Bg _ _ AK,aA,b9.mono Bg⟩ (ck.kl mC λ_ _ r=>r.mono Bg)),by rw[oP];exact i5,rfl⟩;rw[bB,bB,bB,bB];lia
  .have uK:ys.length<=n:=by
    refine W0 λz=>d1 (aJ ?_);lia
   rw[List.drop_eq_nil_of_le uK] at w_;cases w_;refine⟨_,rfl,pp,_,rfl,.inl (au.of AI),_,_,rfl,rfl,_,rfl,cJ (λd2=>?_) (λd2=>?_)⟩
   .cases mC with
    | nil=>cases d2
    | @cons v1 g2 Zl bL h2 Y2 =>
     rw[show iZ (Gr.nil::g2::bL)=SL::iZ (g2::bL) from rfl] at i5 D9 ⊢;rw[bB] at D9;refine⟨_,rfl,.inl ⟨rfl,_,au.of qk⟩,wp,_,_,rfl,rfl,qk,by rw[aF,bu];lia,?_⟩;have k3:TK H2 (upd H2 wp (.lst (acc.map V.str ++ [.str SL]))):=jR qk;refine⟨_,?_,acc ++ [SL],v1::Zl,g2::bL,_,_,_,rfl,ig.du u_,by rw[Za,eN];rfl,by rw[Zc A4];exact AI,.cons (h2.mono k3) (ck.kl Y2 λ_ _ r=>r.mono k3),by rw[oP];exact i5,rfl⟩;simp only[bB];lia
   .have hz:ps=[]:=by
     cases ps with
     | nil=>rfl
     | cons x l =>
      refine(d2 (aJ ?_)).elim;rw[yk,bB];lia
    subst hz;cases mC;exact⟨_,by rw[show iZ [] =[] from rfl];show 0<_;rw[sO];lia,acc,[],[],_,_,_,rfl,ig,qk,AI,.nil,i5,rfl⟩
def QP:Sp:=λvs H Q _=>∃i:Int,vs=[.int i]/\Q (.bl true) H
theorem Zh2(B:∀x∈eG,mg x=none)(F:ci K "_law_whole" "_law_whole" Hy f fd):br P w K mg base cA 1 f fd ["_law_found"] QP:=by
 refine F.ok ZhV (λvs H Q E h=>?_) (λbg A outer s H vs Q E hr h=>?_)
 .obtain⟨i,rfl,_⟩:=h;rfl
 obtain⟨i,rfl,q⟩:=h;refine⟨_,(Zh (Z1 (Dv (Zu qZ rfl (B "isinstance" (by decide)) ZV (Zb (pv 0) (Zb (rB rfl (B "int" (by decide)) IL) Ze))) (Dq (Rz (Zu qZ rfl (B "isinstance" (by decide)) ZV (Zb (pv 0) (Zb (rB rfl (B "bool" (by decide)) ZmU) Ze)))))))),?_⟩;refine⟨_,rfl,.int i,"int",.type "int",true,rfl,.int i,rfl,true,rfl,wN ?_⟩;exact⟨_,rfl,.int i,"bool",.type "int",false,rfl,.int i,rfl,false,rfl,q⟩
def dR{α : Type}(R:V -> α -> Prop)(ae:List (ZQ×Addr×V))(l:List (Pk × α)):Prop:=ck (λx e=>x.1=pk e.1/\R x.2.2 e.2) ae l
section
variable{α : Type}{R R':V -> α -> Prop}{ae:List (ZQ×Addr×V)}{l:List (Pk × α)}{p:Pk}
theorem dR.length(h:dR R ae l):ae.length=l.length:=dz h
theorem dR.keep(h:dR R ae l)(k:∀v x,R v x->R' v x):dR R' ae l:=ck.kl h λ_ _ r=>⟨r.1,k _ _ r.2⟩
theorem dR.keys:∀{ae:List (ZQ×Addr×V)}{l:List (Pk × α)},dR R ae l->ae.map (·.1)=(l.map (·.1)).map pk
 | _,_,.nil=>rfl
 | _,_,.cons h t=>by rw[b8,b8,b8,h.1,dR.keys t]
theorem dR.get:∀{ae:List (ZQ×Addr×V)}{l:List (Pk × α)},dR R ae l->∀(i:Nat) x,ae[i]?= some x->∃e,l[i]?= some e/\x.1=pk e.1/\R x.2.2 e.2:=λh i x hx=>ck.z8 h hx
theorem dR.find(p:Pk):∀{ae:List (ZQ×Addr×V)}{l:List (Pk × α)},dR R ae l->(ae.find? (λx=>decide (x.1=pk p))=none/\l.find? (λx=>decide (x.1=p))=none)\/∃x e,ae.find? (λx=>decide (x.1=pk p))=some x/\l.find? (λx=>decide (x.1=p))=some e/\R x.2.2 e.2
 | _,_,.nil=>.inl ⟨rfl,rfl⟩
 | x::ae,e::l,.cons h t=>by
  by_cases z:e.1=p
  .exact .inr ⟨x,e,oR (aJ (by rw[h.1,z])),oR (aJ z),h.2⟩
  .rw[oQ (by rw[h.1];exact λy=>z (ro (bC y))),oQ (by simpa using z)];exact dR.find p t
theorem dR.val(h:dR R ae l)(p:Pk):(aT l p=none/\valN ae (pk p)=none)\/∃x v,aT l p=some x/\valN ae (pk p)=some v/\R v x:=by
 unfold aT valN;rcases h.find p with⟨h1,h2⟩|⟨x,e,h1,h2,h3⟩
 .rw[h1,h2];exact .inl ⟨rfl,rfl⟩
 .rw[h1,h2];exact .inr ⟨_,_,rfl,rfl,h3⟩
theorem dR.put(h:dR R ae l){b:Addr}{v:V}{x : α}(hv:R v x):dR R (putN ae (pk p) b v) (bE l p x):=by
 have m:dR R (ae.map λy=>if y.1=pk p then(y.1,y.2.1,v) else y) (l.map λy=>if y.1=p then(y.1,x) else y):=by
  induction h with
  | nil=>exact .nil
  | @cons a e ae l r t ih =>
   refine .cons ?_ ih;dsimp only;by_cases z:e.1=p
   .rw[ao z,ao (by rw[r.1,z])];exact⟨r.1,hv⟩
   .rw[ai z,ai (by rw[r.1];exact λy=>z (ro y))];exact r
 unfold putN bE;rcases h.find p with⟨h1,h2⟩|⟨y,e,h1,h2,_⟩
 .rw[h1,h2];exact ck.app h (.cons ⟨rfl,hv⟩ .nil)
 .rw[h1,h2];exact m
theorem dR.UB(h:dR R ae l)(p:Pk):(valN ae (pk p)).isSome=(aT l p).isSome:=by
 rcases h.val p with⟨h1,h2⟩|⟨x,v,h1,h2,_⟩ <;> rw[h1,h2] <;> rfl
end
def wO(S:List (Pk×Nat)):Nat:=(S.map (·.2)).sum
structure hZ(one fm:FQ)(S:List (Pk×Nat)):Prop where
 nd:(S.map (·.1)).Nodup
 fin:∀k∈one.ts,((k,fm.ts),0)∈S
 md:∀p n,(p,n)∈S->(∃k∈one.ts,p=(k,fm.ts))\/∃q∈one.qs,∃a na b nb,(a,na)∈S/\(b,nb)∈S/\a.1=q.2.2.1/\b.1=q.2.2.2/\p=aL fm q a b/\1+na+nb<=n
 bd:∀e∈S,e.2+1<=2 ^ S.length
 key:∀e∈S,(0<=e.1.1/\e.1.1<3)/\e.1.2∈mq
def jP(qs:List ax.Qd)(fm:FQ)(S:List (Pk×Nat)):Prop := ∀q∈qs,∀a na b nb,(a,na)∈S->(b,nb)∈S->a.1=q.2.2.1->b.1=q.2.2.2->∃m,(aL fm q a b,m)∈S/\m<=1+na+nb
def Zox:List Pk:=([0,1,2]:List Int).flatMap λk=>mq.map λv=>(k,v)
section
variable{one fm:FQ}{S:List (Pk×Nat)}{q:ax.Qd}{a b:Pk}{na nb:Nat}
theorem RK(nd:(S.map (·.1)).Nodup)(key:∀e∈S,(0<=e.1.1/\e.1.1<3)/\e.1.2∈mq):S.length<=24:=by
 have:=me nd (m:=Zox) λp hp=>by
  obtain⟨e,he,rfl⟩:=aX.mp hp;obtain⟨⟨h1,h2⟩,h3⟩:=key e he;refine List.mem_flatMap.mpr ⟨e.1.1,?_,aX.mpr ⟨e.1.2,h3,rfl⟩⟩;have:e.1.1=0\/e.1.1=1\/e.1.1=2:=by lia
  rcases this with z|z|z <;> rw[z] <;> decide
 rw[aF] at this;exact this
theorem hZ.len(h:hZ one fm S):S.length<=24:=RK h.nd h.key
theorem Qv:∀{S:List (Pk×Nat)}{p:Pk}{m n:Nat},(S.map (·.1)).Nodup->(p,m)∈S->wO (S.map λx=>if x.1=p then(x.1,n) else x)+m=wO S+n
 | x::S,p,m,n,nd,h=>by
  rw[b8,gY] at nd;unfold wO;rw[b8,b8,b8,FI,FI];rcases a8.mp h with e|e
  .subst e;have:(S.map λx=>if x.1=p then(x.1,n) else x)=S:=by
    refine(BC λy hy=>?_).trans (WL S);rw[ai (λz=>nd.1 (aX.mpr ⟨y,hy,z⟩))];rfl
   rw[this,ao rfl];show n+_+m=m+_+n;lia
  .have ih:=Qv (n:=n) nd.2 e;rw[ai (λz=>nd.1 (aX.mpr ⟨_,e,z.symm⟩))];unfold wO at ih;lia
theorem ZiL{p:Pk}{m:Nat}(h:aT S p=some m):(S.find? λx=>decide (x.1=p)).isSome=true:=by
 have:=congrArg MV h;unfold aT at this;rw[qH] at this;exact this
def qB(S:List (Pk×Nat)):Nat:=wO S+2 ^ 25*(24-S.length)
theorem hZ.put(h:hZ one fm S)(s1:iR one)(s2:iR fm)(hq:q∈one.qs)(ha:(a,na)∈S)(hb:(b,nb)∈S)(e1:a.1=q.2.2.1)(e2:b.1=q.2.2.2)(hn:∀m,aT S (aL fm q a b)=some m->1+na+nb<m) :
  hZ one fm (bE S (aL fm q a b) (1+na+nb))/\qB (bE S (aL fm q a b) (1+na+nb))<qB S/\(∀p n,(p,n)∈S->∃n',(p,n')∈bE S (aL fm q a b) (1+na+nb)/\n'<=n):=by
 have old:∀p n,(p,n)∈S->∃n',(p,n')∈bE S (aL fm q a b) (1+na+nb)/\n'<=n:=λp n hp=>by
  by_cases e:p=aL fm q a b
  .refine⟨_,by rw[e];exact t_,?_⟩;have:=hn n (by rw[<- e];exact Zk h.nd hp);lia
  .exact⟨n,wq hp e,aD _⟩
 have om:(0<=(aL fm q a b).1/\(aL fm q a b).1<3)/\(aL fm q a b).2∈mq:=by
  obtain⟨r1,r2,_⟩:=s1.qs q hq;exact⟨⟨r1,Bq r2 s1.n3⟩,Rl s2⟩
 have ba:=h.bd _ ha;have bb:=h.bd _ hb;have yL:((bE S (aL fm q a b) (1+na+nb)).map (·.1)).Nodup:=by rw[ww];exact Cy h.nd
 have NU:∀e∈bE S (aL fm q a b) (1+na+nb),(0<=e.1.1/\e.1.1<3)/\e.1.2∈mq:=λe he=>by
  rcases t7 he with⟨he,_⟩|rfl
  .exact h.key e he
  .exact om
 have NW:∀p n,(p,n)∈bE S (aL fm q a b) (1+na+nb)->(∃k∈one.ts,p=(k,fm.ts))\/∃q'∈one.qs,∃a' kQ b' kR,(a',kQ)∈bE S (aL fm q a b) (1+na+nb)/\(b',kR)∈bE S (aL fm q a b) (1+na+nb)/\a'.1=q'.2.2.1/\b'.1=q'.2.2.2/\p=aL fm q' a' b'/\1+kQ+kR<=n:=λp n hp=>by
  have up:∀q'∈one.qs,∀a' kQ b' kR,(a',kQ)∈S->(b',kR)∈S->a'.1=q'.2.2.1->b'.1=q'.2.2.2->p=aL fm q' a' b'->1+kQ+kR<=n->∃q'∈one.qs,∃a' kQ b' kR,(a',kQ)∈bE S (aL fm q a b) (1+na+nb)/\(b',kR)∈bE S (aL fm q a b) (1+na+nb)/\a'.1=q'.2.2.1/\b'.1=q'.2.2.2/\p=aL fm q' a' b'/\1+kQ+kR<=n:=by
   intro q' bX a' kQ b' kR h1 h2 h3 h4 h5 h6;obtain⟨m1,g1,l1⟩:=old _ _ h1;obtain⟨m2,g2,l2⟩:=old _ _ h2;exact⟨q',bX,a',m1,b',m2,g1,g2,h3,h4,h5,by lia⟩
  rcases t7 hp with⟨hp,_⟩|hp
  .rcases h.md p n hp with w|⟨q',bX,a',kQ,b',kR,h1,h2,h3,h4,h5,h6⟩
   .exact .inl w
   .exact .inr (up q' bX a' kQ b' kR h1 h2 h3 h4 h5 h6)
  .injection hp with i_ gP;subst i_ gP;exact .inr (up q hq a na b nb ha hb e1 e2 rfl (aD _))
 have NN:∀k∈one.ts,((k,fm.ts),0)∈bE S (aL fm q a b) (1+na+nb):=λk hk=>by
  have h0:=h.fin k hk;refine wq h0 λz=>?_;have:=hn 0 (by rw[<- z];exact Zk h.nd h0);lia
 cases hg:aT S (aL fm q a b) with
 | some m =>
  have hm:=nG hg;have lt:=hn m hg;have hp:bE S (aL fm q a b) (1+na+nb)=S.map λx=>if x.1=aL fm q a b then(x.1,1+na+nb) else x:=by
   unfold bE;rw[ao (ZiL hg)]
  have hl:(bE S (aL fm q a b) (1+na+nb)).length=S.length:=by rw[hp,aF]
  refine⟨⟨yL,NN,NW,λe he=>?_,NU⟩,?_,old⟩
  .rw[hl];rcases t7 he with⟨he,_⟩|rfl
   .exact h.bd e he
   .have:=h.bd _ hm;show 1+na+nb+1<=_;have:m+1<=2 ^ S.length:=this;lia
  .unfold qB;rw[hl,hp];have:=Qv (n:=1+na+nb) h.nd hm;lia
 | none =>
  have hf : ¬ (S.find? λx=>decide (x.1=aL fm q a b)).isSome=true:=λz=>by
   have:=congrArg MV hg;unfold aT at this;rw[qH,z] at this;cases this
  have hp:bE S (aL fm q a b) (1+na+nb)=S ++ [(aL fm q a b,1+na+nb)]:=by
   unfold bE;rw[ai hf]
  have hl:(bE S (aL fm q a b) (1+na+nb)).length=S.length+1:=by rw[hp,cw];rfl
  have hI:hZ one fm (bE S (aL fm q a b) (1+na+nb)):=by
   refine⟨yL,NN,NW,λe he=>?_,NU⟩;rw[hl,W3];rcases t7 he with⟨he,_⟩|rfl
   .have:=h.bd e he;lia
   .have ba:na+1<=2 ^ S.length:=ba;have bb:nb+1<=2 ^ S.length:=bb;show 1+na+nb+1<=_;lia
  refine⟨hI,?_,old⟩;have l24:=hI.len;rw[hl] at l24;have ba:na+1<=2 ^ S.length:=ba;have bb:nb+1<=2 ^ S.length:=bb;have p24:2 ^ S.length<=2 ^ 23:=Nat.pow_le_pow_right (by decide) (by lia);unfold qB;rw[hl,hp];unfold wO;rw[eN,MN];show _+([1+na+nb].sum)+_<_;have e1:24-S.length=(24-(S.length+1))+1:=by lia
  rw[e1,FN];simp only[FI,List.sum_nil];lia
theorem hZ.eY(h:hZ one fm S)(hc:jP one.qs fm S){g:Gs}(hg:f6 one.ts one.qs fm g)(cU:g.tl=[])(dm:∀b∈g.bl,∃w,(b,w)∈g.sl):∀e∈S,e.2<=300:=by
 have Li:∀n p,(p,n)∈S->∃v,(p,v)∈g.sl:=by
  intro n
  induction n using BH with
  | ind n ih =>
   intro p hp;rcases h.md p n hp with⟨k,hk,rfl⟩|⟨q,hq,a,na,b,nb,ha,hb,e1,e2,rfl,hle⟩
   .have:=hg.gi.fin k hk;rw[cU,gW] at this;exact⟨_,this⟩
   .obtain⟨wa,hU⟩:=ih na (by lia) a ha;obtain⟨wb,aG⟩:=ih nb (by lia) b hb;rcases(hg.DF q hq a wa b wb hU aG e1 e2).1 with⟨v,h1,_⟩|⟨v,h1,_⟩|⟨_,h1⟩
    .exact⟨v,h1⟩
    .rw[cU] at h1;cases h1
    .exact dm _ h1
 have low:∀(i:Nat)(e:Pk×Wd),g.sl[i]?= some e->∃m,(e.1,m)∈S/\2*m<=e.2.length:=by
  intro i
  induction i using BH with
  | ind i ih =>
   intro e he;rcases hg.gi.sk i e he with⟨k,hk,rfl⟩|⟨q,qh,a,wa,b,wb,ha,hb,e1,e2,rfl⟩
   .exact⟨0,h.fin k hk,bG _⟩
   .obtain⟨ja,mG⟩:=fc.mp ha;obtain⟨jb,mH⟩:=fc.mp hb;have la:=(de.mp mG).1;have lb:=(de.mp mH).1;rw[gX] at la lb;rw[By (by lia)] at mG mH;obtain⟨ma,a1,a2⟩:=ih ja (by lia) _ mG;obtain⟨mb,b1,b2⟩:=ih jb (by lia) _ mH;obtain⟨m,c1,c2⟩:=hc q qh a ma b mb a1 b1 e1 e2;refine⟨m,c1,?_⟩;rw[pG];have a2:2*ma<=wa.length:=a2;have b2:2*mb<=wb.length:=b2;lia
 rintro⟨p,n⟩ he;obtain⟨v,hv⟩:=Li n p he;obtain⟨i,hi⟩:=fc.mp hv;obtain⟨m,m1,m2⟩:=low i _ hi;have:aT S p=some n:=Zk h.nd he;have h2:aT S p=some m:=Zk h.nd m1;rw[this] at h2;injection h2 with h2;have:=hg.gi.len _ (dN _ hv);show n<=300;have m2:2*m<=v.length:=m2;have:v.length<=600:=this;lia
theorem hZ.great(h:hZ one fm S)(hc:jP one.qs fm S){g:Gs}(hg:f6 one.ts one.qs fm g)(cU:g.tl=[])(dm:∃b∈g.bl,∀w,(b,w)∉g.sl):∃e∈S,300<e.2:=by
 refine Bn λlH=>?_;have all:∀e∈S,e.2<=300:=λe he=>by
  rcases kF 300 e.2 with z|z
  .exact absurd ⟨e,he,z⟩ lH
  .exact z
 have Li:∀n p,(p,n)∈S->∃v,(p,v)∈g.sl/\v.length<=2*n:=by
  intro n
  induction n using BH with
  | ind n ih =>
   intro p hp;rcases h.md p n hp with⟨k,hk,rfl⟩|⟨q,hq,a,na,b,nb,ha,hb,e1,e2,rfl,hle⟩
   .have:=hg.gi.fin k hk;rw[cU,gW] at this;exact⟨_,this,bG _⟩
   .obtain⟨wa,hU,la⟩:=ih na (by lia) a ha;obtain⟨wb,aG,lb⟩:=ih nb (by lia) b hb;have:=all _ hp;have:n<=300:=this;rcases(hg.DF q hq a wa b wb hU aG e1 e2).1 with⟨v,h1,h2⟩|⟨v,h1,_⟩|⟨h1,_⟩
    .refine⟨v,h1,?_⟩;have:=RD h2;rw[pG] at this;lia
    .rw[cU] at h1;cases h1
    .rw[pG] at h1;lia
 have low:∀(i:Nat)(e:Pk×Wd),g.sl[i]?= some e->∃m,(e.1,m)∈S:=by
  intro i
  induction i using BH with
  | ind i ih =>
   intro e he;rcases hg.gi.sk i e he with⟨k,hk,rfl⟩|⟨q,qh,a,wa,b,wb,ha,hb,e1,e2,rfl⟩
   .exact⟨0,h.fin k hk⟩
   .obtain⟨ja,mG⟩:=fc.mp ha;obtain⟨jb,mH⟩:=fc.mp hb;have la:=(de.mp mG).1;have lb:=(de.mp mH).1;rw[gX] at la lb;rw[By (by lia)] at mG mH;obtain⟨ma,a1⟩:=ih ja (by lia) _ mG;obtain⟨mb,b1⟩:=ih jb (by lia) _ mH;obtain⟨m,c1,_⟩:=hc q qh a ma b mb a1 b1 e1 e2;exact⟨m,c1⟩
 obtain⟨b,hb,qf⟩:=dm;obtain⟨q,hq,a,wa,b',wb,h1,h2,e1,e2,rfl,_⟩:=hg.gi.xH b hb;obtain⟨ia,Km⟩:=fc.mp h1;obtain⟨ib,Kn⟩:=fc.mp h2;obtain⟨ma,a1⟩:=low ia _ Km;obtain⟨mb,b1⟩:=low ib _ Kn;obtain⟨m,c1,_⟩:=hc q hq a ma b' mb a1 b1 e1 e2;obtain⟨v,hv,_⟩:=Li m _ c1;exact qf v hv
end
theorem pJ{o u:HO}(h1:H a=some o)(h2:H b=some u)(n:o≠u):a≠b:=λz=>by
 rw[z,h2] at h1;injection h1 with h1;exact n h1.symm
variable{H5:Hp}{kp:List (ZQ×Addr×V)}
theorem Zj.U5{P:aq}{w:ap}{H6:Hp}{dp:Addr}{ob:Obj}(e:H5 dp=some (Zv P w dp kp))(s:Zj (upd H5 dp (.aO ob (Zv P w dp kp))) H6):Zj H5 (upd H6 dp (Zv P w dp kp)):=λb o h=>by
 by_cases n:b=dp
 .subst n;rw[e] at h;rw[Za];exact h
 .rw[Zc n];exact s _ _ (by rw[Zc n];exact h)
theorem CL{X:Cx}{K:ay}{P:aq}{w:ap}{m:Nat}{nm:Str}{σ : St}{dp:Addr}{ps:List Pk}{k:Int}{u:TS}{D:Ends}(hi : σ[i]?= some (some (.ref dp)))(hc:rJ σ 1 [(nm,m)] =[none,some (.int k)])(nf:∀ob u,X.jN dp≠some (.aO ob u))(hP:X.prog=P)(hw:X.w=w)(eP:b_ P w H5 dp kp)(Su:kp.map (·.1)=ps.map pk)(hps:ps.length<=500)
  (fin:∀pl us H6,Zj H5 H6->H5 pl=none->H6 pl=some (.lst us)->cp H6 us (ps.filter λx=>decide (x.1=k))->u D (σ.set j (some (.ref pl))) H6) :
  RY (Rx X (zR (IJ (Ro P w (wQ i)) 1 [(nm,m)] (rC 0) (RR (xS Ve (xS (Ja K) (wQ 0) (tC (V.int 0))) (wQ 1))) (wQ 0)) (rC j))) u D σ H5:=by
 subst hP hw;have ZyN:kp.length=ps.length:=by have:=congrArg oU Su;simpa using this
 refine⟨_,hi,dp,kp,rfl,eP.1,λob pl aM=>?_⟩;rw[hc];refine OE (ob:=ob) (λi us σ H4=>∃v0:Option V,σ =[v0,some (.int k)]/\Zj (upd H5 dp (.aO ob (Zv X.prog X.w dp kp))) H4/\H4 pl=some (.lst us)/\cp H4 us ((ps.take i).filter λx=>decide (x.1=k)))
  ⟨none,rfl,Zj.new aM,Za,.nil⟩ ?_ ?_ ?_
 .rintro i us σ H4 _ ⟨_,_,s4,h,_⟩;exact⟨s4 _ _ Za,h⟩
 .rintro i us kk b v σ H4 hi gn ⟨v0,rfl,s4,h,hp⟩;obtain⟨pr,mJ,rfl⟩:∃pr,ps[i]?= some pr/\kk=pk pr:=by
   have h1:(kp.map (·.1))[i]?= some kk:=by rw[bM,gn];rfl
   rw[Su,bM] at h1;obtain⟨pr,h2,h3⟩:=gB.mp h1;exact⟨pr,h2,h3.symm⟩
  have kf:∀b xs,H5 b=some (.tup xs)->H4 b=some (.tup xs):=λb xs e=>s4 _ _ (by rw[Zc (pJ e eP.1 λz=>nomatch z)];exact e)
  have pb:=(eP.2 _ (bW gn)).mono kf;obtain⟨cb,k1,k2⟩:=id pb;refine⟨_,rfl,b,_,0,_,rfl,rfl,az.of k1,rfl,_,rfl,rfl,_,rfl,cJ (λc=>?_) (λc=>?_)⟩
  .have e1:pr.1=k:=by
    have h1:V.int pr.1=V.int k:=bC c;injection h1
   have hlen:us.length<=500:=by
    rw[hp.length];exact cz (Bz ..) (cz (by rw[gX];exact Nat.min_le_right ..) hps)
   refine⟨_,rfl,h,by rw[bu];lia,CW.next hi ⟨_,rfl,s4.du aM,Za,?_⟩⟩
   rw[Zq mJ,yd,Fz (by simpa using e1)];exact cp.snoc (pb.mono (jR h)) (hp.keep (jR h))
  .have e1 : ¬ pr.1=k:=λz=>c (aJ (by rw[<- z];rfl));refine CW.next hi ⟨_,rfl,s4,h,?_⟩
   rw[Zq mJ,yd,Fy (by simpa using e1),List.filter_nil,gW];exact hp
 rintro us8 oG H48 ⟨v0,rfl,qA,h8,Ua⟩;rw[ZyN,d_] at Ua;refine⟨dp,ob,kp,qA _ _ Za,nf,?_⟩;have n8:pl≠dp:=pJ h8 (qA _ _ Za) λz=>nomatch z
 refine fin pl us8 _ (Zj.U5 eP.1 qA) ?_ (by rw[Zc n8];exact h8) (Ua.keep λb xs e=>by
  rw[Zc (pJ e (qA _ _ Za) λz=>nomatch z)]
  exact e)
 rw[Zc n8] at aM;exact aM
def ZpF(v:V)(n:Nat):Prop:=v=.int (n:Int)
def iU(P:aq)(w:ap)(H:Hp)(d:Addr)(H1:Hp)(S:List (Pk×Nat)):Prop := ∃ae,Zj H H1/\H d=none/\b_ P w H1 d ae/\dR ZpF ae S
section
variable{P:aq}{w:ap}{H H1 H2:Hp}{d:Addr}{S:List (Pk×Nat)}{p:Pk}{n:Nat}
theorem iU.same(h:iU P w H d H1 S)(s:Zj H1 H2):iU P w H d H2 S:=by
 obtain⟨ae,h1,h2,h3,h4⟩:=h;exact⟨ae,h1.trans s,h2,ZZ h3 ((s _ _ h3.1).trans h3.1.symm) λb xs e=>s _ _ e,h4⟩
theorem iU.get(h:iU P w H d H1 S)(e:aT S p=some n):∃ae,dP P w H1 d ae/\valN ae (pk p)=some (.int (n:Int)):=by
 obtain⟨ae,h1,h2,h3,h4⟩:=h;refine⟨ae,h3.r,?_⟩;rcases h4.val p with⟨h5,_⟩|⟨x,v,h5,h6,h7⟩
 .rw[e] at h5;cases h5
 .rw[e] at h5;injection h5 with h5;rw[h6,h7,h5]
def fQ(P:aq)(w:ap)(H:Hp)(d:Addr)(one fm:FQ)(S:List (Pk×Nat))(fl:Bool)(C:Prop)(S':List (Pk×Nat))(H1:Hp):Prop:=iU P w H d H1 S'/\hZ one fm S'/\(fl=false->S'=S/\C)/\(fl=true->qB S'<qB S)
def RC(fm:FQ)(S:List (Pk×Nat))(q:ax.Qd)(a b:Pk):Prop := ∀na nb,(a,na)∈S->(b,nb)∈S->∃m,(aL fm q a b,m)∈S/\m<=1+na+nb
theorem fQ.same{one fm:FQ}{fl:Bool}{C:Prop}{S':List (Pk×Nat)}(h:fQ P w H d one fm S fl C S' H1)(s:Zj H1 H2):fQ P w H d one fm S fl C S' H2:=⟨h.1.same s,h.2⟩
end
def pL(d:Addr)(H H':Hp):Prop := ∀b o,b≠d->H b=some o->H' b=some o
variable{C:Prop}{S S':List (Pk×Nat)}{d:Addr}{fl:Bool}
theorem fQ.imp{P:aq}{w:ap}{one:FQ}{C':Prop}(h:fQ P w H d one fm S fl C S' H1)(k:S'=S->C->C'):fQ P w H d one fm S fl C' S' H1:=⟨h.1,h.2.1,λz=>⟨(h.2.2.1 z).1,k (h.2.2.1 z).1 (h.2.2.1 z).2⟩,h.2.2.2⟩
theorem fQ.ne{P:aq}{w:ap}{one:FQ}(h:fQ P w H d one fm S fl C S' H1){b:Addr}{xs:List V}(e:H1 b=some (.lst xs)):b≠d:=by
 obtain⟨ae,_,_,h3,_⟩:=h.1;exact pJ e h3.1 λz=>nomatch z
theorem fQ.neT{P:aq}{w:ap}{one:FQ}(h:fQ P w H d one fm S fl C S' H1){b:Addr}{xs:List V}(e:H1 b=some (.tup xs)):b≠d:=by
 obtain⟨ae,_,_,h3,_⟩:=h.1;exact pJ e h3.1 λz=>nomatch z
theorem iU.sm{P:aq}{w:ap}(h:iU P w H d H1 S):Zj H H1:=h.choose_spec.1
theorem Ic(h:p∈S.map (·.1)):∃n,(p,n)∈S:=by
 obtain⟨e,he,rfl⟩:=aX.mp h;exact⟨e.2,he⟩
abbrev kr(p o d:Addr)(fl:Bool)(y3 y5 y6 y7 y8 y9 bF bh aU aV:Option V):St:=[some (.ref p),some (.ref o),some (.ref d),y3,some (.bl fl),y5,y6,y7,y8,y9,bF,bh,aU,aV]
def QK(P:aq)(w:ap):Sp:=λvs H Q _=>∃(p o:Addr)(one fm:FQ),vs=[.ref p,.ref o]/\fF H p one/\fF H o fm/\iR one/\iR fm/\∀(d:Addr)(S:List (Pk×Nat)) H',iU P w H d H' S->hZ one fm S->jP one.qs fm S->Q (.ref d) H'
theorem Zig(B:∀x∈eG,mg x=none)(wW:fO P w K mg base "_law_above" ["_law_other","_law_word","_law_inner","_law_rest"] 1 (HP K)) (F:ci K "_law_sizes" "_law_sizes" ZL f fd):br P w K mg base cA 2 f fd ["_law_one","_law_other"] (QK P w):=by
 refine F.ok ZP (λvs H Q E h=>?_) (λbg A outer s H vs Q E hr h=>?_)
 .obtain⟨p,o,one,fm,rfl,_⟩:=h;rfl
 obtain⟨p,o,one,fm,rfl,hF,hO,S1,S2,Q1⟩:=h;have cf:=nJ hr;obtain⟨f1,f2,f3,zf,a1,a2,a3,a4,a5⟩:=id hF;obtain⟨g1,g2,g3,zg,b1,b2,b3,b4,b5⟩:=id hO;have Lb:=a5.length;refine Zr ((Zf ZL).drop 4) (Zh (Z1 (pv 2))) (λu4 h4 e4=>?_);refine Zr ((Zz ((Zz ((Zz ((Zz ((Zz ((Zf ZL).getD 3 (.Pass ⟨0,0,0,0⟩))).getD 1 (.Pass ⟨0,0,0,0⟩))).getD 2 (.Pass ⟨0,0,0,0⟩))).getD 0 (.Pass ⟨0,0,0,0⟩))).getD 2 (.Pass ⟨0,0,0,0⟩))).drop 1) (Zh (Zx (i:=4) ZP.nd rfl (Or.inl rfl) jU)) (λZBI ZxM ZwM=>?_);refine Zr ((Zz ((Zz ((Zz ((Zz ((Zz ((Zf ZL).getD 3 (.Pass ⟨0,0,0,0⟩))).getD 1 (.Pass ⟨0,0,0,0⟩))).getD 2 (.Pass ⟨0,0,0,0⟩))).getD 0 (.Pass ⟨0,0,0,0⟩))).getD 2 (.Pass ⟨0,0,0,0⟩))).drop 0) (Zd (rj cf (pv 2) (pv 12) (pv 13) rfl) ZxM) (λZBH ZxL ZwL=>?_);refine Zr ((Zz ((Zz ((Zz ((Zz ((Zf ZL).getD 3 (.Pass ⟨0,0,0,0⟩))).getD 1 (.Pass ⟨0,0,0,0⟩))).getD 2 (.Pass ⟨0,0,0,0⟩))).getD 0 (.Pass ⟨0,0,0,0⟩))).drop 2) (Zh (cR (PW.pt (lu (zC (Hf cf (pv 12) (pv 2))) (rA (ZC IQ (pv 13) (mf cf (pv 2) (pv 12) (λ_ _=>rfl)) (ZM _)))))
   ZxL
   ZW)) (λZEW ZxK ZwK=>?_)
 refine Zr ((Zz ((Zz ((Zz ((Zz ((Zf ZL).getD 3 (.Pass ⟨0,0,0,0⟩))).getD 1 (.Pass ⟨0,0,0,0⟩))).getD 2 (.Pass ⟨0,0,0,0⟩))).getD 0 (.Pass ⟨0,0,0,0⟩))).drop 1) (Zd (Zx (i:=13) ZP.nd rfl (Or.inl rfl) (ZF fG (ZF fG Zg (mf cf (pv 2) (pv 10) (λ_ _=>rfl))) (mf cf (pv 2) (pv 11) (λ_ _=>rfl)))) ZxK) (λZEV ZxJ ZwJ=>?_);refine Zr ((Zz ((Zz ((Zz ((Zz ((Zf ZL).getD 3 (.Pass ⟨0,0,0,0⟩))).getD 1 (.Pass ⟨0,0,0,0⟩))).getD 2 (.Pass ⟨0,0,0,0⟩))).getD 0 (.Pass ⟨0,0,0,0⟩))).drop 0) (Zd (Zx (i:=12) ZP.nd rfl (Or.inl rfl) (dU (Zb (pv 3) (Zb (eS wW hr rfl (Zb (pv 1) (Zb (pv 5) (Zb (ZR ZG (pv 10) Zg (λ_ _=>rfl)) (Zb (ZR ZG (pv 11) Zg (λ_ _=>rfl)) Ze))))) Ze)))) ZxJ) (λZEU ZxI ZwI=>?_);refine Zr ((Zz ((Zz ((Zz ((Zf ZL).getD 3 (.Pass ⟨0,0,0,0⟩))).getD 1 (.Pass ⟨0,0,0,0⟩))).getD 2 (.Pass ⟨0,0,0,0⟩))).drop 0) (Zh (gG fX rfl (nO (pv 9)) (Zt (i:=11) ZP.nd rfl (Or.inl rfl))
   ZxI)) (λZET ZxH ZwH=>?_)
 refine Zr ((Zz ((Zz ((Zf ZL).getD 3 (.Pass ⟨0,0,0,0⟩))).getD 1 (.Pass ⟨0,0,0,0⟩))).drop 2) (Zh (gG fX rfl (nO (pv 8)) (Zt (i:=10) ZP.nd rfl (Or.inl rfl))
   ZxH)) (λVB ZxG ZwG=>?_)
 refine Zr ((Zz ((Zz ((Zf ZL).getD 3 (.Pass ⟨0,0,0,0⟩))).getD 1 (.Pass ⟨0,0,0,0⟩))).drop 1) (Zd (za (yX (cl:=_) (n0:=9) ZP.nd rfl (Or.inl rfl) ["_law_pair"] [("_law_rest",7)] (wt (pv 2)) (λ_ _ _ _=>(Zt (i:=0) (show kD (["_law_pair","_law_rest"]:List Str) by decide) rfl (Or.inl rfl))) (λ_ _ _ _=>(ZC iy (ZR (q_ (K:=K) rfl) (pv 0) Zg (λ_ _=>rfl)) (pv 1) (ZM _))) (λ_ _ _ _=>(pv 0)) rfl rfl (by decide) rfl (by decide) (lr (by(repeat' first|exact bU _|refine bT.mpr ⟨?_,?_⟩) <;> rfl)) (mn (by(repeat' first|exact bU _|refine bT.mpr ⟨?_,?_⟩) <;> first|(intro h;exact⟨_,rfl⟩)|(intro h;exact absurd h (by decide)))) (λ_=>by(repeat' first|exact bU _|refine bT.mpr ⟨?_,?_⟩) <;> exact⟨rfl,rfl,Or.inl rfl⟩) (λ_=>rfl) rfl)) ZxG) (λZBG ZxF ZwF=>?_)
 refine Zr ((Zz ((Zz ((Zf ZL).getD 3 (.Pass ⟨0,0,0,0⟩))).getD 1 (.Pass ⟨0,0,0,0⟩))).drop 0) (Zd (za (yX (cl:=_) (n0:=8) ZP.nd rfl (Or.inl rfl) ["_law_pair"] [("_law_inner",6)] (wt (pv 2)) (λ_ _ _ _=>(Zt (i:=0) (show kD (["_law_pair","_law_inner"]:List Str) by decide) rfl (Or.inl rfl))) (λ_ _ _ _=>(ZC iy (ZR (q_ (K:=K) rfl) (pv 0) Zg (λ_ _=>rfl)) (pv 1) (ZM _))) (λ_ _ _ _=>(pv 0)) rfl rfl (by decide) rfl (by decide) (lr (by(repeat' first|exact bU _|refine bT.mpr ⟨?_,?_⟩) <;> rfl)) (mn (by(repeat' first|exact bU _|refine bT.mpr ⟨?_,?_⟩) <;> first|(intro h;exact⟨_,rfl⟩)|(intro h;exact absurd h (by decide)))) (λ_=>by(repeat' first|exact bU _|refine bT.mpr ⟨?_,?_⟩) <;> exact⟨rfl,rfl,Or.inl rfl⟩) (λ_=>rfl) rfl)) ZxF) (λZES ZxE ZwE=>?_)
 refine Zr ((Zz ((Zf ZL).getD 3 (.Pass ⟨0,0,0,0⟩))).drop 1) (Zh (gG fX rfl (mj (ZR ZG (pv 0) Zg (λ_ _=>rfl))) (wC rfl (Z6 (Zt (i:=3) ZP.nd rfl (Or.inl rfl)) (Z6 (Zt (i:=5) ZP.nd rfl (Or.inl rfl)) (Z6 (Zt (i:=6) ZP.nd rfl (Or.inr rfl)) (Z6 (Zt (i:=7) ZP.nd rfl (Or.inr rfl)) wB)))))
   ZxE)) (λL9 JS Jl=>?_)
 refine Zr ((Zz ((Zf ZL).getD 3 (.Pass ⟨0,0,0,0⟩))).drop 0) (Zd (Zx (i:=4) ZP.nd rfl (Or.inl rfl) jU) JS) (λVA Aa zY=>?_);refine Zr ((Zf ZL).drop 3) (Zd (HQ fX (iT (pv 4) (λ_=>rfl))
   Aa) h4) (λu3 h3 e3=>?_)
 refine Zr ((Zf ZL).drop 2) (Zd (Zx (i:=4) ZP.nd rfl (Or.inl rfl) jU) h3) (λu2 h2 e2=>?_);refine Zr ((Zz ((Zf ZL).getD 1 (.Pass ⟨0,0,0,0⟩))).drop 0) (Zh (rj cf (pv 2) (dU (Zb (pv 3) (Zb (ZR ZG (pv 1) Zg (λ_ _=>rfl)) Ze))) Zg rfl)) (λVx z9 zX=>?_);refine Zr ((Zf ZL).drop 1) (Zd (gG fX rfl (mj (ZR ZG (pv 0) Zg (λ_ _=>rfl))) (Zt (i:=3) ZP.nd rfl (Or.inl rfl))
   z9) h2) (λu1 h1 e1=>?_)
 refine Zr ((Zf ZL).drop 0) (Zd (Zx (i:=2) ZP.nd rfl (Or.inl rfl) ze) h1) (λu0 h0 e0=>?_);refine⟨u0,h0,?_⟩;have oC:∀(S:List (Pk×Nat))(H1:Hp)(d:Addr)(fl:Bool)(y3 y5 y6 y7 y8 y9 bF bh aU aV:Option V),iU P w H d H1 S->hZ one fm S->jP one.qs fm S->u4 { nx:=λ_ H'=>Q .aB H',rt:=Q } (kr p o d fl y3 y5 y6 y7 y8 y9 bF bh aU aV) H1:=by
  intro S H1 d fl y3 y5 y6 y7 y8 y9 bF bh aU aV hA hI hC;refine Zo e4 ?_;exact⟨_,rfl,Q1 d S H1 hA hI hC⟩
 have ZBn:∀(D:Ends)(d:Addr)(S S':List (Pk×Nat))(H3:Hp)(l7 l8:Addr)(u7 u8:List V)(j:Nat)(q:ax.Qd)(fl:Bool)(y3 bF bh aU aV:Option V),q∈one.qs ->
   fQ P w H d one fm S fl (jP (one.qs.take j) fm S) S' H3->H3 l7=some (.lst u7)->cp H3 u7 ((S'.map (·.1)).filter λx=>decide (x.1=q.2.2.1))->H3 l8=some (.lst u8)->cp H3 u8 ((S'.map (·.1)).filter λx=>decide (x.1=q.2.2.2)) ->
   (∀(fl:Bool)(S':List (Pk×Nat))(H4:Hp)(bF bh aU aV:Option V),fQ P w H d one fm S fl (jP (one.qs.take j) fm S/\∀a∈(S.map (·.1)).filter λx=>decide (x.1=q.2.2.1),∀b∈(S.map (·.1)).filter λx=>decide (x.1=q.2.2.2),RC fm S q a b) S' H4->D.nx (kr p o d fl (some (.int q.1)) (some (.str q.2.1)) (some (.int q.2.2.1)) (some (.int q.2.2.2)) (some (.ref l7)) (some (.ref l8)) bF bh aU aV) H4) ->
   VB D (kr p o d fl (some (.int q.1)) (some (.str q.2.1)) (some (.int q.2.2.1)) (some (.int q.2.2.2)) (some (.ref l7)) (some (.ref l8)) bF bh aU aV) H3:=by
  intro D d S S0 H3 l7 l8 u7 u8 j q fl y3 bF bh aU aV hq hL e7 p7 e8 p8 fin;refine Zo ZwG ?_;refine⟨_,rfl,l7,rfl,⟨_,au.of e7⟩,pH (K:=K) (a:=l7) (xs:=u7) (λi σ H4=>∃(fl:Bool)(S':List (Pk×Nat))(bF bh aU aV:Option V),σ = kr p o d fl (some (.int q.1)) (some (.str q.2.1)) (some (.int q.2.2.1)) (some (.int q.2.2.2)) (some (.ref l7)) (some (.ref l8)) bF bh aU aV/\pL d H3 H4/\(∀p∈S0.map (·.1),p∈S'.map (·.1))/\fQ P w H d one fm S fl ((jP (one.qs.take j) fm S/\S0=S)/\∀a∈((S.map (·.1)).filter λx=>decide (x.1=q.2.2.1)).take i,∀b∈(S.map (·.1)).filter λx=>decide (x.1=q.2.2.2),RC fm S q a b) S' H4)
   ⟨_,_,_,_,_,_,rfl,λ_ _ _ h=>h,λ_ h=>h,hL.imp λe h=>⟨⟨h,e⟩,λa ha=>(nomatch ha)⟩⟩ ?_ ?_ ?_⟩
  .rintro i σ H4 _ ⟨_,_,_,_,_,_,_,k4,_⟩;exact au.of (k4 _ _ (hL.ne e7) e7)
  .refine lI ?_;rintro i x σ H4 hx ⟨fl4,S4,bF,bh,aU,aV,rfl,k4,m4,rL⟩ D1 vf;obtain⟨ba,pa,AE,rfl,EY⟩:=p7.get i x hx;have AF:=fA.mp (bW AE);obtain⟨ca,qo,iF⟩:=EY;rw[gf] at iF;refine Zo ZwH ?_;refine⟨_,rfl,l8,rfl,⟨_,au.of (k4 _ _ (hL.ne e8) e8)⟩,pH (K:=K) (a:=l8) (xs:=u8) (λj2 σ H5=>∃(fl:Bool)(S':List (Pk×Nat))(bh aU aV:Option V),σ = kr p o d fl (some (.int q.1)) (some (.str q.2.1)) (some (.int q.2.2.1)) (some (.int q.2.2.2)) (some (.ref l7)) (some (.ref l8)) (some (.ref ba)) bh aU aV/\pL d H3 H5/\(∀p∈S0.map (·.1),p∈S'.map (·.1))/\fQ P w H d one fm S fl (((jP (one.qs.take j) fm S/\S0=S)/\∀a∈((S.map (·.1)).filter λx=>decide (x.1=q.2.2.1)).take i,∀b∈(S.map (·.1)).filter λx=>decide (x.1=q.2.2.2),RC fm S q a b)/\∀b∈((S.map (·.1)).filter λx=>decide (x.1=q.2.2.2)).take j2,RC fm S q pa b) S' H5)
    ⟨_,_,_,_,_,rfl,k4,m4,rL.imp λ_ h=>⟨h,λa ha=>(nomatch ha)⟩⟩ ?_ ?_ ?_⟩
   .rintro j σ H5 _ ⟨_,_,_,_,_,_,k5,_⟩;exact au.of (k5 _ _ (hL.ne e8) e8)
   .refine lI ?_;rintro j2 x σ H5 hx ⟨Jy,S5,bh,aU,aV,rfl,k5,m5,D4⟩ Dn gT;obtain⟨bb,pb,mI,rfl,EZ⟩:=p8.get j2 x hx;have AG:=fA.mp (bW mI);obtain⟨cb,kb1,kb2⟩:=EZ;rw[gf] at kb2;have Jw:=k5 _ _ (hL.neT qo) qo;have Jx:=k5 _ _ (hL.neT kb1) kb1;have vi:Zj H H5:=D4.1.sm;refine Zo ZwI ?_;refine⟨_,rfl,_,rfl,_,rfl,_,rfl,ba,_,1,_,rfl,rfl,az.of Jw,rfl,_,rfl,bb,_,1,_,rfl,rfl,az.of Jx,rfl,o,ca,cb,q.2.1,fm,pa.2,pb.2,rfl,hO.same vi,S2.len,k5 _ _ (hL.neT iF) iF,k5 _ _ (hL.neT kb2) kb2,λrr ks H6 s6 er AO=>?_⟩;refine⟨by show(2:Nat)<=sizeLine;decide,λt ht=>?_⟩;have q7:Zj H6 (upd H6 t (.tup [.int q.1,.ref rr])):=Zj.new ht;have iB:=D4.same (s6.trans q7);have k7:pL d H3 _:=λb o n e=>(s6.trans q7) _ _ (k5 b o n e);have pt:aQ (upd H6 t (.tup [.int q.1,.ref rr])) t (pk (q.1,ks)):=⟨rr,Za,by rw[gf];exact q7 _ _ er⟩;generalize upd H6 t (.tup [.int q.1,.ref rr])=H7 at *;have inA:pa∈S5.map (·.1):=m5 _ AF.1;have inB:pb∈S5.map (·.1):=m5 _ AG.1;obtain⟨na,xt⟩:=Ic inA;obtain⟨nb,qf⟩:=Ic inB;obtain⟨kvA,dA,vA⟩:=iB.1.get (Zk iB.2.1.nd xt);obtain⟨kvB,dB,vB⟩:=iB.1.get (Zk iB.2.1.nd qf);refine Zo ZwJ ?_;refine⟨_,rfl,_,rfl,d,ba,kvA,pk pa,_,rfl,rfl,dA,⟨ca,k7 _ _ (hL.neT qo) qo,by rw[gf];exact k7 _ _ (hL.neT iF) iF⟩,vA,_,_,rfl,rfl,_,rfl,_,rfl,d,bb,kvB,pk pb,_,rfl,rfl,dB,⟨cb,k7 _ _ (hL.neT kb1) kb1,by rw[gf];exact k7 _ _ (hL.neT kb2) kb2⟩,vB,_,_,rfl,rfl,?_⟩;refine Zo ZwK ?_;have uI:aL fm q pa pb=(q.1,ks):=by
     unfold aL;rw[zE AO]
    have qa:pa.1=q.2.2.1:=bC AF.2;have qb:pb.1=q.2.2.2:=bC AG.2;have body:∀D2:Ends,(∀S6 H6,pL d H3 H6->(∀p∈S0.map (·.1),p∈S6.map (·.1))->(∀C',fQ P w H d one fm S true C' S6 H6)->D2.nx (kr p o d true (some (.int q.1)) (some (.str q.2.1)) (some (.int q.2.2.1)) (some (.int q.2.2.2)) (some (.ref l7)) (some (.ref l8)) (some (.ref ba)) (some (.ref bb)) (some (.ref t)) (some (.int (1+na+nb)))) H6)->(∀m,aT S5 (q.1,ks)=some m->1+na+nb<m)->ZBH D2 (kr p o d Jy (some (.int q.1)) (some (.str q.2.1)) (some (.int q.2.2.1)) (some (.int q.2.2.2)) (some (.ref l7)) (some (.ref l8)) (some (.ref ba)) (some (.ref bb)) (some (.ref t)) (some (.int (1+na+nb)))) H7:=by
     intro D2 fin2 hn;rw[<- uI] at hn;obtain⟨hI,hM,hO⟩:=iB.2.1.put S1 S2 hq xt qf qa qb hn;rw[uI] at hI hM hO;obtain⟨ae,z1,z2,z3,z4⟩:=id iB.1;refine Zo ZwL ?_;refine⟨_,rfl,_,rfl,_,rfl,d,t,ae,_,rfl,rfl,z3,pt,?_,?_⟩
     .rw[z4.length,bu];have:=iB.2.1.len;lia
     .show ZBI D2 _ _;refine Zo ZwM ?_;refine fin2 (bE S5 (q.1,ks) (1+na+nb)) _ (λb o n e=>by rw[Zc n];exact k7 b o n e) (λp hp=>?_) λC'=>⟨⟨putN ae (pk (q.1,ks)) t (.int (1+na+nb)),λb o e=>?_,z2,?_,z4.put (congrArg V.int (by lia))⟩,hI,λz=>(nomatch z),λ_=>?_⟩
      .obtain⟨m,hm⟩:=Ic (m5 p hp);obtain⟨n',h1,_⟩:=hO p m hm;exact aX.mpr ⟨_,h1,rfl⟩
      .rw[Zc (λz=>by rw[z,z2] at e;cases e)];exact z1 _ _ e
      .exact z3.put pt _
      .refine cg hM ?_;cases Jy with
       | false=>rw[(iB.2.2.1 rfl).1];exact aD _
       | true=>exact ji (iB.2.2.2 rfl)
    have skip:(∃m,aT S5 (q.1,ks)=some m/\m<=1+na+nb)->RC fm S5 q pa pb:=λ⟨m,h1,h2⟩ kQ kR h3 h4=>by
     have ea:=(Zk iB.2.1.nd h3).symm.trans (Zk iB.2.1.nd xt);have eb:=(Zk iB.2.1.nd h4).symm.trans (Zk iB.2.1.nd qf);injection ea with ea;injection eb with eb;exact⟨m,by rw[uI];exact nG h1,by lia⟩
    obtain⟨ae,z1,z2,z3,z4⟩:=id iB.1;refine⟨_,rfl,_,rfl,d,t,ae,_,rfl,rfl,z3.r,pt,_,rfl,cJ (λc=>?_) (λc=>?_)⟩
    .refine body _ (λS6 H6 a b c=>gT _ _ ⟨_,_,_,_,_,rfl,a,b,c _⟩) λm hm=>?_;rw[z4.UB,hm] at c;cases c
    .rw[z4.UB] at c;cases hm:aT S5 (q.1,ks) with
     | none =>
      rw[hm] at c;exact absurd rfl c
     | some m =>
      obtain⟨kvM,dM,vM⟩:=iB.1.get hm;refine⟨_,rfl,_,rfl,_,rfl,d,t,kvM,_,_,rfl,rfl,dM,pt,vM,_,_,rfl,rfl,_,rfl,?_⟩;show if _ then _ else _
      refine cJ (λc2=>?_) (λc2=>?_)
      .refine body _ (λS6 H6 a b c=>gT _ _ ⟨_,_,_,_,_,rfl,a,b,c _⟩) λm' jM=>?_;have:m=m':=by rw[hm] at jM;injection jM
       have:=bC c2;lia
      .refine gT _ _ ⟨_,_,_,_,_,rfl,k7,m5,iB.imp λe h=>⟨h.1,λb hb=>?_⟩⟩;have e0:=h.1.1.2;subst e0;rw[Zq mI] at hb;rcases bV.mp hb with hb|hb
       .exact h.2 b hb
       .rw[aI.mp hb,<- e];refine skip ⟨m,hm,?_⟩;have : ¬ ((1:Int)+na+nb<m):=λz=>c2 (aJ z);lia
   .rintro σ H5 ⟨Jy,S5,bh,aU,aV,rfl,k5,m5,D4⟩;refine vf _ _ ⟨_,_,_,_,_,_,rfl,k5,m5,D4.imp λ_ h=>⟨h.1.1,λa ha=>?_⟩⟩;have e0:=h.1.1.2;subst e0;rw[Zq AE] at ha;rcases bV.mp ha with ha|ha
    .exact h.1.2 a ha
    .rw[aI.mp ha];have:=h.2
     rwa [p8.length,d_] at this
  .rintro σ H4 ⟨fl4,S4,bF,bh,aU,aV,rfl,k4,m4,rL⟩;refine fin _ _ _ _ _ _ _ (rL.imp λ_ h=>⟨h.1.1,?_⟩);have e0:=h.1.2;subst e0;have:=h.2
   rwa [p7.length,d_] at this
 have ZBm:∀(D:Ends)(d:Addr)(S:List (Pk×Nat))(H2:Hp)(y3 y5 y6 y7 y8 y9 bF bh aU aV:Option V),fQ P w H d one fm S false True S H2 ->
   (∀(fl:Bool)(S':List (Pk×Nat))(H4:Hp)(y3 y5 y6 y7 y8 y9 bF bh aU aV:Option V),fQ P w H d one fm S fl (jP one.qs fm S) S' H4->D.nx (kr p o d fl y3 y5 y6 y7 y8 y9 bF bh aU aV) H4) ->
   L9 D (kr p o d false y3 y5 y6 y7 y8 y9 bF bh aU aV) H2:=by
  intro D d S H2 y3 y5 y6 y7 y8 y9 bF bh aU aV hL fin;refine Zo Jl ?_;refine⟨_,rfl,p,_,3,_,rfl,rfl,az.of (hL.1.sm _ _ a1),rfl,f3,rfl,⟨_,az.of (hL.1.sm _ _ a4)⟩,wA (K:=K) (a:=f3) (xs:=zf) (λj σ H3=>∃(fl:Bool)(S':List (Pk×Nat))(y3 y5 y6 y7 y8 y9 bF bh aU aV:Option V),σ = kr p o d fl y3 y5 y6 y7 y8 y9 bF bh aU aV/\fQ P w H d one fm S fl (jP (one.qs.take j) fm S) S' H3)
   ⟨_,_,_,_,_,_,_,_,_,_,_,_,rfl,hL.imp λ_ _ q h=>(nomatch h)⟩ ?_ ?_ ?_⟩
  .rintro j σ H3 _ ⟨_,_,_,_,_,_,_,_,_,_,_,_,_,h3⟩;exact az.of (h3.1.sm _ _ a4)
  .refine lI ?_;rintro j x σ H3 hx ⟨fl,S',y3,y5,y6,y7,y8,y9,bF,bh,aU,aV,rfl,h3⟩ Dn gT;obtain⟨rq,q,mK,rfl,KO⟩:=a5.get j x hx;refine⟨rq,_,rfl,az.of (h3.1.sm _ _ KO),rfl,_,_,rfl,_,_,rfl,_,_,rfl,_,_,rfl,rfl,?_⟩;have key:∀{S':List (Pk×Nat)}{H3:Hp}{fl:Bool},fQ P w H d one fm S fl (jP (one.qs.take j) fm S) S' H3->∃ae,b_ P w H3 d ae/\ae.map (·.1)=(S'.map (·.1)).map pk/\(S'.map (·.1)).length<=500/\∀ob u,H d≠some (.aO ob u):=λh=>by
    obtain⟨ae,z1,z2,z3,z4⟩:=id h.1;refine⟨ae,z3,z4.keys,by have:=h.2.1.len;rw[aF];lia,λob u z=>by rw[z2] at z;cases z⟩
   refine Zo ZwE ?_;obtain⟨kv3,d3,k3,l3,n3⟩:=key h3;refine CL rfl rfl n3 rfl rfl d3 k3 l3 λl7 u7 H4 s4 n4 e7 p7=>?_;have h4:=h3.same s4;obtain⟨kv4,d4,k4,l4,_⟩:=key h4;show ZBG _ _ _;refine Zo ZwF ?_;refine CL rfl rfl n3 rfl rfl d4 k4 l4 λl8 u8 H5 s5 n5 e8 p8=>?_;show VB _ _ _;refine ZBn _ d S S' H5 l7 l8 u7 u8 j q fl none _ _ _ _ (bW mK) (h4.same s5) (s5 _ _ e7) (p7.keep λb xs e=>s5 _ _ e) e8 p8 λfl S' H6 bF bh aU aV h6=>gT _ _ ⟨_,_,_,_,_,_,_,_,_,_,_,_,rfl,h6.imp λ_ h=>?_⟩;intro q' bX a na b nb ha hb e1 e2;rw[Zq mK] at bX;rcases bV.mp bX with bX|bX
   .exact h.1 q' bX a na b nb ha hb e1 e2
   .rw[aI.mp bX] at e1 e2 ⊢;exact h.2 a (fA.mpr ⟨aX.mpr ⟨_,ha,rfl⟩,aJ e1⟩) b (fA.mpr ⟨aX.mpr ⟨_,hb,rfl⟩,aJ e2⟩) na nb ha hb
  .rintro σ H3 ⟨fl,S',y3,y5,y6,y7,y8,y9,bF,bh,aU,aV,rfl,h3⟩;rw[Lb,d_] at h3;exact fin _ _ _ _ _ _ _ _ _ _ _ _ _ h3
 have iH:∀(d:Addr)(S:List (Pk×Nat))(H2:Hp)(y3 y5 y6 y7 y8 y9 bF bh aU aV:Option V),iU P w H d H2 S->hZ one fm S->u3 { nx:=λ_ H'=>Q .aB H',rt:=Q } (kr p o d true y3 y5 y6 y7 y8 y9 bF bh aU aV) H2:=by
  intro d S H2 y3 y5 y6 y7 y8 y9 bF bh aU aV hA hI;refine Zo e3 ?_;refine⟨λn σ H2=>∃(fl:Bool)(S:List (Pk×Nat))(y3 y5 y6 y7 y8 y9 bF bh aU aV:Option V),σ = kr p o d fl y3 y5 y6 y7 y8 y9 bF bh aU aV/\iU P w H d H2 S/\hZ one fm S/\(fl=false->jP one.qs fm S)/\n=qB S+(if fl=true then 1 else 0),⟨_,_,_,_,_,_,_,_,_,_,_,_,_,rfl,hA,hI,λz=>(nomatch z),rfl⟩,?_⟩
  rintro n σ H2 ⟨fl,S,y3,y5,y6,y7,y8,y9,bF,bh,aU,aV,rfl,hA,hI,hC,rfl⟩;refine⟨_,rfl,fl,rfl,cJ (λc=>?_) (λc=>?_)⟩
  .subst c;refine⟨λσ H3=>∃(fl:Bool)(S':List (Pk×Nat))(y3 y5 y6 y7 y8 y9 bF bh aU aV:Option V),σ = kr p o d fl y3 y5 y6 y7 y8 y9 bF bh aU aV/\fQ P w H d one fm S fl (jP one.qs fm S) S' H3,λav H3 ⟨fl,S',y3,y5,y6,y7,y8,y9,bF,bh,aU,aV,h1,h2⟩=>⟨_,?_,fl,S',y3,y5,y6,y7,y8,y9,bF,bh,aU,aV,h1,h2.1,h2.2.1,λz=>?_,rfl⟩,?_⟩
   .cases fl with
    | true =>
     have:=h2.2.2.2 rfl;rw[ao rfl];show qB S'+1<qB S+1;lia
    | false =>
     rw[ao rfl,ai (by decide),(h2.2.2.1 rfl).1];lia
   .rw[(h2.2.2.1 z).1];exact(h2.2.2.1 z).2
   .refine Zo zY ?_;refine ZBm _ d S H2 _ _ _ _ _ _ _ _ _ _ ⟨hA,hI,λ_=>⟨rfl,trivial⟩,λz=>(nomatch z)⟩ λfl S' H4 y3 y5 y6 y7 y8 y9 bF bh aU aV h=>⟨_,_,_,_,_,_,_,_,_,_,_,_,rfl,h⟩
  .have c:fl=false:=by simpa using c
   exact oC S H2 d fl _ _ _ _ _ _ _ _ _ _ hA hI (hC c)
 have cE:∀(d:Addr)(S:List (Pk×Nat))(H2:Hp)(y3:Option V),iU P w H d H2 S->hZ one fm S->u2 { nx:=λ_ H'=>Q .aB H',rt:=Q } [some (.ref p),some (.ref o),some (.ref d),y3,none,none,none,none,none,none,none,none,none,none] H2:=by
  intro d S H2 y3 hA hI;refine Zo e2 ?_;exact iH d S H2 y3 none none none none none none none none none hA hI
 have gu:∀{S:List (Pk×Nat)},(∀{e:Pk×Nat},e∈S->e.2=0/\∃k∈one.ts,e.1=(k,fm.ts))->∀e∈S,(0<=e.1.1/\e.1.1<3)/\e.1.2∈mq:=λhm e he=>by
  obtain⟨_,k,hk,ek⟩:=hm he;have:=S1.ts k hk;have:=S1.n3;rw[ek];exact⟨⟨by show 0<=k;lia,by show k<3;lia⟩,Ia S2.len.2.2.2 λx hx=>by have:=S2.ts x hx;have:=S2.n3;lia⟩
 refine Zo e0 ?_;intro d hd;show u1 _ _ _;refine Zo e1 ?_;have s1:Zj H (upd H d (Zv P w d [])):=Zj.new hd;refine⟨_,rfl,p,_,2,_,rfl,rfl,az.of (s1 _ _ a1),rfl,f2,rfl,⟨_,az.of (s1 _ _ a3)⟩,wA (K:=K) (a:=f2) (xs:=one.ts.map V.int) (λj σ H1=>∃(y3:Option V)(S:List (Pk×Nat)),σ =[some (.ref p),some (.ref o),some (.ref d),y3,none,none,none,none,none,none,none,none,none,none]/\iU P w H d H1 S/\(S.map (·.1)).Nodup/\(∀k∈one.ts.take j,((k,fm.ts),0)∈S)/\S.length<=24/\∀q n,(q,n)∈S->n=0/\∃k∈one.ts,q=(k,fm.ts))
  ⟨none,[],rfl,⟨[],s1,hd,⟨Za,λx hx=>(nomatch hx)⟩,.nil⟩,FG,λk h=>(nomatch h),bG _,λq n h=>(nomatch h)⟩ ?_ ?_ ?_⟩
 .rintro j σ H1 _ ⟨_,_,_,hA,_⟩;exact az.of (hA.sm _ _ a3)
 .refine lI ?_;rintro j x σ H1 hx ⟨y3,S,rfl,hA,nd,hz,hl,hm⟩ Dn gT;rw[bM] at hx;obtain⟨y,hy,rfl⟩:=gB.mp hx;refine Zo zX ?_;refine⟨_,rfl,_,rfl,_,rfl,o,_,2,_,rfl,rfl,az.of (hA.sm _ _ b1),rfl,by show(2:Nat)<=sizeLine;decide,λt ht=>?_⟩;have q1:Zj H1 (upd H1 t (.tup [.int y,.ref g2])):=Zj.new ht;have DY:=hA.same q1;have pt:aQ (upd H1 t (.tup [.int y,.ref g2])) t (pk (y,fm.ts)):=⟨g2,Za,by rw[gf];exact q1 _ _ (hA.sm _ _ b3)⟩;generalize upd H1 t (.tup [.int y,.ref g2])=H2 at *;obtain⟨ae,z1,z2,z3,z4⟩:=id DY;have yL:((bE S (y,fm.ts) 0).map (·.1)).Nodup:=by rw[ww];exact Cy nd
  have jM:∀q n,(q,n)∈bE S (y,fm.ts) 0->n=0/\∃k∈one.ts,q=(k,fm.ts):=λq n h=>by
   rcases t7 h with⟨h1,_⟩|h1
   .exact hm q n h1
   .injection h1 with h1 h2;exact⟨h2,y,bW hy,h1⟩
  refine⟨d,t,ae,_,rfl,rfl,z3,pt,by rw[z4.length,bu];lia,gT _ _ ⟨_,bE S (y,fm.ts) 0,rfl,⟨_,λb o e=>?_,z2,z3.put pt _,z4.put rfl⟩,yL,λk hk=>?_,RK yL (gu (jM _ _ ·)),jM⟩⟩
  .rw[Zc (λz=>by rw[z,z2] at e;cases e)];exact z1 _ _ e
  .rw[Zq hy] at hk;by_cases e:((k,fm.ts):Pk)=(y,fm.ts)
   .rw[e];exact t_
   .rcases bV.mp hk with hk|hk
    .exact wq (hz k hk) e
    .exact absurd (by rw[aI.mp hk]) e
 .rintro σ H1 ⟨y3,S,rfl,hA,nd,hz,hl,hm⟩;rw[aF,d_] at hz;exact cE d S H1 y3 hA ⟨nd,hz,λq n h=>.inl (hm q n h).2,λe he=>by rw[(hm _ _ he).1];exact Nat.one_le_two_pow,gu (hm _ _ ·)⟩
def ux(p:Pk):ed:=.tuple [.int p.1,.tuple (p.2.map .int)]
theorem QB{K:ay}{H:Hp}:∀xs:List Int,kZ K H (xs.map V.int) (xs.map ff)
 | []=>.nil
 | x::xs=>.cons (.int x) (QB xs)
theorem RV{K:ay}(h:aQ H b (pk p)):Dp K H (.ref b) (ux p):=by
 obtain⟨c,h1,h2⟩:=h;rw[gf] at h2;exact .tup (az.of h1) (.cons (.int _) (.cons (.tup (az.of h2) (QB _)) .nil))
theorem IH(p:Pk):(ux p).canLay0=true/\(ux p).depth<=200:=by
 constructor
 .show(true&&(iL (p.2.map ff)&&true))=true;rw[ax.lay_ints];rfl
 .show max 0 (max (jk (p.2.map ff)+1) 0)+1<=200;rw[ax.HS]
  decide
theorem Zo3(p q:Pk):jO (ux p) (ux q) (ax.iV p q):=by
 obtain⟨i,xs⟩:=p;obtain⟨j,ys⟩:=q;refine .tup ?_;unfold ax.iV ax.pQ;dsimp only;have inner:gF [PyData.tuple (xs.map PyData.int)] [FX (ys.map ff)] (ax.ltI xs ys):=by
  by_cases e:xs=ys
  .subst e;rw[ax.C4];exact .eq (by show lR _ _=true;rw[ax.CK];exact aJ rfl) .nn
  .exact .lt (by show lR _ _=false;rw[ax.CK];exact bt e) (.tup (ax.Hx xs ys))
 by_cases e:i=j
 .subst e;rw[bt (Int.lt_irrefl i),aJ rfl];exact .eq (by simp[lQ]) inner
 .rw[bt e,Bm,VV];exact .lt (by simpa[lQ] using e) (.int i j)
theorem RO{α : Type}{R : α -> α -> Prop}{l:List α}(h:l.Pairwise R){i j:Nat}{a b : α}(ha:l[i]?= some a)(hb:l[j]?= some b)(i8:i<j):R a b:=by
 obtain⟨h1,rfl⟩:=de.mp ha;obtain⟨h2,rfl⟩:=de.mp hb;exact mY.mp h i j h1 h2 i8
def ZpL(H:Hp)(v:V)(ws:Wd):Prop := ∃l,v=.ref l/\H l=some (.lst (ws.map V.str))
def uu(H0 H:Hp)(v:V)(ws:Wd):Prop := ∃l,v=.ref l/\H l=some (.lst (ws.map V.str))/\H0 l=none
theorem uu.keep{H0:Hp}(s:∀b xs,H b=some (.lst xs)->H' b=some (.lst xs)){v:V}{ws:Wd}(h:uu H0 H v ws):uu H0 H' v ws:=by
 obtain⟨l,e,h1,h2⟩:=h;exact⟨l,e,s _ _ h1,h2⟩
def wR(P:aq)(w:ap)(H:Hp)(d:Addr)(H1:Hp)(L:List (Pk×Wd)):Prop := ∃ae,Zj H H1/\H d=none/\b_ P w H1 d ae/\dR (uu H H1) ae L
variable{H2:Hp}{L:List (Pk×Wd)}
theorem wR.same{P:aq}{w:ap}(h:wR P w H d H1 L)(s:Zj H1 H2):wR P w H d H2 L:=by
 obtain⟨ae,h1,h2,h3,h4⟩:=h;exact⟨ae,h1.trans s,h2,ZZ h3 ((s _ _ h3.1).trans h3.1.symm) λb xs e=>s _ _ e,h4.keep λ_ _=>uu.keep λb xs e=>s _ _ e⟩
def O8(P:aq)(w:ap):Sp:=λvs H Q _=>∃(r:Addr)(zs:List V)(ms:List (Pk×Wd)),vs=[.ref r]/\H r=some (.lst zs)/\f_ H zs ms/\ms.length<=63/\(ms.map (·.1)).Pairwise (λa b=>ax.iV a b=true)/\(∀m∈ms,m.2.length<=600)/\∀(d:Addr) H',wR P w H d H' ms->Q (.ref d) H'
theorem Zh0(B:∀x∈eG,mg x=none)(DV:fO P w K mg base "_law_whole" ["_law_found"] 1 QP) (JF:fO P w K mg base "_law_list" ["_law_found"] 1 Qb) (F:ci K "_law_lists" "_law_lists" Z3 f fd):br P w K mg base cA 2 f fd ["_law_rows"] (O8 P w):=by
 refine F.ok tW (λvs H Q E h=>?_) (λbg A outer s H vs Q E hr h=>?_)
 .obtain⟨r,zs,ms,rfl,_⟩:=h;rfl
 obtain⟨r,zs,ms,rfl,AJ,hW,hlen,rY,ZxU,Q1⟩:=h;have cf:=nJ hr;have hu:=zp hr;have iE:=hW.length;refine Zr ((Zf Z3).drop 4) (Zh (Z1 (pv 1))) (λu4 h4 e4=>?_);refine Zr ((Zz ((Zf Z3).getD 3 (.Pass ⟨0,0,0,0⟩))).drop 6) (Zh (Zx (i:=2) tW.nd rfl (Or.inl rfl) (pv 5))) (λZBN ZxR ZwR=>?_);refine Zr ((Zz ((Zf Z3).getD 3 (.Pass ⟨0,0,0,0⟩))).drop 5) (Zd (rj cf (pv 1) (pv 5) (pv 4) rfl) ZxR) (λZBM ZxQ ZwQ=>?_);refine Zr ((Zz ((Zf Z3).getD 3 (.Pass ⟨0,0,0,0⟩))).drop 4) (Zd (cR (PW.pt (lu (ZC IK (pv 4) jx (ZM _)) (rA (PW.pt (wI (ZC Q3 (pv 2) jx (ZM _)) (zk (mi (ZC (Ry hu) (pv 2) (pv 5) (ZM _)))))))))
   (Zh (Z1 jx))
   ZW) ZxQ) (λZBL ZxP ZwP=>?_)
 refine Zr ((Zz ((Zf Z3).getD 3 (.Pass ⟨0,0,0,0⟩))).drop 3) (Zd (Zx (i:=5) tW.nd rfl (Or.inl rfl) (dU (Zb (ZR ZG (pv 3) Zg (λ_ _=>rfl)) (Zb (ZR ZG (pv 3) Zg (λ_ _=>rfl)) Ze)))) ZxP) (λZBK ZxO ZwO=>?_);refine Zr ((Zz ((Zf Z3).getD 3 (.Pass ⟨0,0,0,0⟩))).drop 2) (Zd (Zx (i:=4) tW.nd rfl (Or.inl rfl) (eS JF hr rfl (Zb (ZR ZG (pv 3) Zg (λ_ _=>rfl)) Ze))) ZxO) (λZBJ ZxN ZwN=>?_);refine Zr ((Zz ((Zf Z3).getD 3 (.Pass ⟨0,0,0,0⟩))).drop 1) (Zd (cR (ZC (Ht hu) (OU (cl:=[]) ["_law_kind"] [] (mj (ZR ZG (pv 3) Zg (λ_ _=>rfl))) (λ_ _ _ _=>(Zt (i:=0) kn rfl (Or.inl rfl))) (λ_ _ _ _=>(mi (ZiK (K:=K) rfl (eS DV hr rfl (Zb (pv 0) Ze)) (λ_=>rfl)))) (λ_ _ _ _=>(pv 0)) rfl rfl (by decide) rfl (by decide) (λ_ _ h=>nomatch h) (ue (by decide)) (λ_ _ h=>nomatch h) (λ_=>rfl)) (eU Ze) (ZM _))
   (Zh (Z1 jx))
   ZW) ZxN) (λL9 JS Jl=>?_)
 refine Zr ((Zz ((Zf Z3).getD 3 (.Pass ⟨0,0,0,0⟩))).drop 0) (Zd (cR (PW.pt (lu (mi (iT (Zu qZ rfl (B "isinstance" (by decide)) ZV (Zb (pv 3) (Zb (rB rfl (B "tuple" (by decide)) mh) Ze))) (λ_=>rfl))) (lu (ZC RW (Zu ZD rfl (B "len" (by decide)) gC (Zb (pv 3) Ze)) Zg (ZM _)) (lu (mi (iT (eS DV hr rfl (Zb (ZR ZG (pv 3) Zg (λ_ _=>rfl)) Ze)) (λ_=>rfl))) (rA (mi (iT (Zu qZ rfl (B "isinstance" (by decide)) ZV (Zb (ZR ZG (pv 3) Zg (λ_ _=>rfl)) (Zb (rB rfl (B "tuple" (by decide)) mh) Ze))) (λ_=>rfl))))))))
   (Zh (Z1 jx))
   ZW) JS) (λVA Aa zY=>?_)
 refine Zr ((Zf Z3).drop 3) (Zd (gG fX rfl (nO (pv 0)) (Zt (i:=3) tW.nd rfl (Or.inl rfl))
   Aa) h4) (λu3 h3 e3=>?_)
 refine Zr ((Zf Z3).drop 2) (Zd (Zx (i:=2) tW.nd rfl (Or.inl rfl) jx) h3) (λu2 h2 e2=>?_);refine Zr ((Zf Z3).drop 1) (Zd (Zx (i:=1) tW.nd rfl (Or.inl rfl) ze) h2) (λu1 h1 e1=>?_);refine Zr ((Zf Z3).drop 0) (Zd (cR (mi (iT (Zu qZ rfl (B "isinstance" (by decide)) ZV (Zb (pv 0) (Zb (rB rfl (B "list" (by decide)) Zm6) Ze))) (λ_=>rfl)))
   (Zh (Z1 jx))
   ZW) h1) (λu0 h0 e0=>?_)
 refine⟨u0,h0,?_⟩;have iH:∀(d:Addr)(H1:Hp),H d=none->Zj H H1->b_ P w H1 d []->u3 { nx:=λ_ H'=>Q .aB H',rt:=Q } [some (.ref r),some (.ref d),some .aB,none,none,none] H1:=by
  intro d H1 hd s1 d1;refine Zo e3 ?_;refine⟨_,rfl,r,rfl,⟨_,au.of (s1 _ _ AJ)⟩,pH (K:=K) (a:=r) (xs:=zs) (λj σ H2=>∃(y2:V)(y3 y4 y5:Option V),σ =[some (.ref r),some (.ref d),some y2,y3,y4,y5]/\wR P w H d H2 (ms.take j)/\((j=0/\y2=.aB)\/∃i m b,j=i+1/\ms[i]?= some m/\y2=.ref b/\aQ H2 b (pk m.1)))
   ⟨_,_,_,_,rfl,⟨[],s1,hd,d1,.nil⟩,.inl ⟨rfl,rfl⟩⟩ ?_ ?_ ?_⟩
  .rintro j σ H2 _ ⟨_,_,_,_,_,hA,_⟩;exact au.of (hA.choose_spec.1 _ _ AJ)
  .refine lI ?_;rintro j x σ H2 hx ⟨y2,y3,y4,y5,rfl,hA,hb⟩ Dn gT;obtain⟨m,tz,c,rg,xs,g,hm,rfl,w1,w2,w3,w4,w5⟩:=hW.get j x hx;have s2:Zj H H2:=hA.choose_spec.1;refine Zo zY ?_;refine⟨_,rfl,.ref tz,"tuple",.type "tuple",true,rfl,.tup (s2 _ _ w1),rfl,true,rfl,dj ?_⟩;refine⟨_,rfl,tz,_,rfl,.inr (az.of (s2 _ _ w1)),rfl,false,rfl,dj ?_⟩;refine⟨_,rfl,tz,_,0,_,rfl,rfl,az.of (s2 _ _ w1),rfl,m.1.1,rfl,true,rfl,dj ?_⟩;refine⟨_,rfl,tz,_,1,_,rfl,rfl,az.of (s2 _ _ w1),rfl,.ref c,"tuple",.type "tuple",true,rfl,.tup (s2 _ _ w2),rfl,true,rfl,dj ?_⟩;show L9 _ _ _;refine Zo Jl ?_;refine⟨_,rfl,tz,_,1,_,rfl,rfl,az.of (s2 _ _ w1),rfl,c,rfl,⟨_,az.of (s2 _ _ w2)⟩,λph Ep=>Pj (K:=K) (a:=c) (p:=ph) (xs:=m.1.2.map V.int) (λi us σ H3=>∃v0:Option V,σ =[v0]/\Zj H2 H3/\H3 ph=some (.lst [])/\us=[])
    ⟨none,rfl,Zj.new Ep,Za,rfl⟩ ?_ ?_ ?_⟩
   .rintro i us σ H3 _ ⟨v0,rfl,s3,h3,rfl⟩;exact⟨az.of (s3 _ _ (s2 _ _ w2)),h3⟩
   .rintro i us x σ H3 hi sg ⟨v0,rfl,s3,h3,rfl⟩;rw[bM] at sg;obtain⟨k,hk,rfl⟩:=gB.mp sg;refine⟨_,rfl,k,rfl,true,rfl,?_⟩;exact CW.next hi ⟨_,rfl,s3,h3,rfl⟩
   rintro xW sD H3 ⟨v0,rfl,s3,h3,rfl⟩;refine⟨bG _,λp5 qg=>⟨ph,p5,[],rfl,rfl,au.of (Zj.new qg _ _ h3),au.of Za,false,rfl,dj ?_⟩⟩;have s4:=(s2.trans s3).trans (Zj.new (o:=.lst []) qg);have Ab:=hA.same (s3.trans (Zj.new (o:=.lst []) qg));have Al:(j=0/\y2=.aB)\/∃i m b,j=i+1/\ms[i]?= some m/\y2=.ref b/\aQ (upd H3 p5 (.lst [])) b (pk m.1):=hb.imp id λ⟨i,m',b,z1,z2,z3,z4⟩=>⟨i,m',b,z1,z2,z3,z4.mono λb xs e=>(s3.trans (Zj.new (o:=.lst []) qg)) _ _ e⟩;generalize upd H3 p5 (.lst [])=H4 at *;show ZBJ _ _ _;refine Zo ZwN ?_;refine⟨_,rfl,tz,_,2,_,rfl,rfl,az.of (s4 _ _ w1),rfl,rg,xs,g,rfl,s4 _ _ w3,w4.mono λb xs e=>s4 _ _ e,?_,λr5 H5 s5 n5 e5=>?_⟩
   .have h1:=ZxU m (bW hm);rw[<- w5,CT] at h1;lia
   show ZBK _ _ _;refine Zo ZwO ?_;have vi:=s4.trans s5;refine⟨_,rfl,tz,_,0,_,rfl,rfl,az.of (vi _ _ w1),rfl,_,rfl,tz,_,1,_,rfl,rfl,az.of (vi _ _ w1),rfl,by show(2:Nat)<=sizeLine;decide,λt ht=>?_⟩;have q5:Zj H5 (upd H5 t (.tup [.int m.1.1,.ref c])):=Zj.new ht;have pt:aQ (upd H5 t (.tup [.int m.1.1,.ref c])) t (pk m.1):=⟨c,Za,by rw[gf];exact q5 _ _ (vi _ _ w2)⟩;have hA6:=Ab.same (s5.trans q5);have hb6:(j=0/\y2=.aB)\/∃i m2 b,j=i+1/\ms[i]?= some m2/\y2=.ref b/\aQ (upd H5 t (.tup [.int m.1.1,.ref c])) b (pk m2.1):=Al.imp id λ⟨i,m',b,z1,z2,z3,z4⟩=>⟨i,m',b,z1,z2,z3,z4.mono λb xs e=>(s5.trans q5) _ _ e⟩;have e6:=q5 _ _ e5;generalize upd H5 t (.tup [.int m.1.1,.ref c])=H6 at *;show ZBL _ _ _;have tail:∀D2:Ends,(∀H7,wR P w H d H7 (ms.take (j+1))->aQ H7 t (pk m.1)->D2.nx [some (.ref r),some (.ref d),some (.ref t),some (.ref tz),some (.ref r5),some (.ref t)] H7)->ZBM D2 [some (.ref r),some (.ref d),some y2,some (.ref tz),some (.ref r5),some (.ref t)] H6:=by
    intro D2 fin;obtain⟨ae,z1,z2,z3,z4⟩:=id hA6;refine Zo ZwQ ?_;refine⟨_,rfl,_,rfl,_,rfl,d,t,ae,_,rfl,rfl,z3,pt,?_,?_⟩
    .rw[z4.length,gX,bu];lia
    .show ZBN _ _ _;refine Zo ZwR ?_;have kk:∀b o,b≠d->H6 b=some o->upd H6 d (Zv P w d (putN ae (pk m.1) t (.ref r5))) b=some o:=λb o n e=>by
      rw[Zc n];exact e
     have nn:∀b o,H6 b=some o->(∀F,o ≠ .ext F)->b≠d:=λb o e n=>pJ e z3.1 (n _);refine⟨_,rfl,fin _ ⟨_,λb o e=>?_,z2,z3.put pt _,?_⟩ (pt.mono λb xs e=>kk _ _ (nn _ _ e λ_ z=>nomatch z) e)⟩
     .exact kk _ _ (λz=>by rw[z,z2] at e;cases e) (z1 _ _ e)
     .have h5:=(z4.keep (R':=uu H (upd H6 d (Zv P w d (putN ae (pk m.1) t (.ref r5))))) λv ws=>uu.keep λb xs e=>kk _ _ (nn _ _ e λ_ z=>nomatch z) e).put (p:=m.1) (b:=t) (v:=.ref r5) (x:=m.2) ⟨r5,rfl,by rw[<- w5];exact kk _ _ (nn _ _ e6 λ_ z=>nomatch z) e6,by
       cases z:H r5 with
       | none=>rfl
       | some o =>
        rw[s4 _ _ z] at n5;cases n5⟩
      have ep:bE (ms.take j) m.1 m.2=ms.take (j+1):=by
       rw[Zq hm];unfold bE;rw[ai];intro z;obtain⟨x,hx,e⟩:=yf.mp z;obtain⟨i,hi⟩:=fc.mp hx;rw[List.getElem?_take] at hi
       split at hi
       .rename_i i8
        have:=RO rY (show(ms.map (·.1))[i]?= some x.1 by rw[bM,hi];rfl) (show(ms.map (·.1))[j]?= some m.1 by rw[bM,hm];rfl) i8;rw[bC e,ax.CZ.mM] at this;cases this
       .cases hi
      rw[ep] at h5;exact h5
   refine Zo ZwP ?_;refine⟨_,rfl,rfl,false,rfl,dj ?_⟩;rcases hb6 with⟨rfl,rfl⟩|⟨i,m2,b,rfl,z2,rfl,z4⟩
   .refine⟨_,rfl,rfl,false,rfl,dj ?_⟩;exact tail _ λH7 h1 h2=>gT _ _ ⟨_,_,_,_,rfl,h1,.inr ⟨_,m,t,rfl,hm,rfl,h2⟩⟩
   .refine⟨_,rfl,rfl,true,rfl,wN ?_⟩;refine⟨_,rfl,_,rfl,ux m2.1,ux m.1,_,RV z4,RV pt,(IH _).1,(IH _).1,cz (W2 _ _) (IH _).2,Zo3 _ _,true,?_,dj ?_⟩
    .rw[RO rY (show(ms.map (·.1))[i]?= some m2.1 by rw[bM,z2];rfl) (show(ms.map (·.1))[i+1]?= some m.1 by rw[bM,hm];rfl) (kG i)]
    exact tail _ λH7 h1 h2=>gT _ _ ⟨_,_,_,_,rfl,h1,.inr ⟨_,m,t,rfl,hm,rfl,h2⟩⟩
  .rintro σ H2 ⟨y2,y3,y4,y5,rfl,hA,_⟩;rw[iE,d_] at hA;show u4 _ _ _;refine Zo e4 ?_;exact⟨_,rfl,Q1 d H2 hA⟩
 refine Zo e0 ?_;refine⟨_,rfl,.ref r,"list",.type "list",true,rfl,.lst AJ,rfl,true,rfl,dj ?_⟩;show u1 _ _ _;refine Zo e1 ?_;intro d hd;show u2 _ _ _;refine Zo e2 ?_;exact iH d _ hd (Zj.new hd) ⟨Za,λx hx=>(nomatch hx)⟩
structure iO(one fm:FQ)(L:List (Pk×Wd)):Prop where
 nd:(L.map (·.1)).Nodup
 fin:∀k∈one.ts,((k,fm.ts),[])∈L
 least:∀q∈one.qs,∀a wa b wb,(a,wa)∈L->(b,wb)∈L->a.1=q.2.2.1->b.1=q.2.2.2->∃v,(aL fm q a b,v)∈L/\a_ (bj q wa wb) v=false
 md:∀p w,(p,w)∈L->(∃k∈one.ts,p=(k,fm.ts))\/∃q∈one.qs,∃a wa b wb,(a,wa)∈L/\(b,wb)∈L/\a.1=q.2.2.1/\b.1=q.2.2.2/\p=aL fm q a b/\w=bj q wa wb
 ok:∀e∈L,f' e.2/\e.2.length<=600
 len:L.length<=63
def RcAt(P:aq)(w:ap)(H:Hp)(d:Addr)(H1:Hp)(R:List (Pk×Unit)):Prop := ∃ae,Zj H H1/\H d=none/\b_ P w H1 d ae/\dR (λv _=>v=V.bl true) ae R
def iW(L:List (Pk×Wd))(R:List (Pk×Unit)):Prop:=(R.map (·.1)).Nodup/\∀p∈R.map (·.1),p∈L.map (·.1)
variable{R:List (Pk×Unit)}
theorem RcAt.same{P:aq}{w:ap}(h:RcAt P w H d H1 R)(s:Zj H1 H2):RcAt P w H d H2 R:=by
 obtain⟨ae,h1,h2,h3,h4⟩:=h;exact⟨ae,h1.trans s,h2,ZZ h3 ((s _ _ h3.1).trans h3.1.symm) λb xs e=>s _ _ e,h4⟩
theorem RcAt.sm{P:aq}{w:ap}(h:RcAt P w H d H1 R):Zj H H1:=h.choose_spec.1
theorem iW.len(h:iW L R):R.length<=L.length:=by
 have:=me h.1 h.2
 simpa using this
theorem iW.put(h:iW L R){p:Pk}(hp:p∈L.map (·.1)):iW L (bE R p ())/\p∈(bE R p ()).map (·.1)/\∀q∈R.map (·.1),q∈(bE R p ()).map (·.1):=by
 refine⟨⟨by rw[ww];exact Cy h.1,λq hq=>?_⟩,aX.mpr ⟨_,t_,rfl⟩,λq hq=>?_⟩
 .obtain⟨e,he,rfl⟩:=aX.mp hq;rcases t7 he with⟨h1,_⟩|h1
  .exact h.2 _ (aX.mpr ⟨_,h1,rfl⟩)
  .rw[h1];exact hp
 .obtain⟨e,he,rfl⟩:=aX.mp hq;by_cases z:e.1=p
  .exact aX.mpr ⟨_,t_,z.symm⟩
  .exact aX.mpr ⟨_,wq he z,rfl⟩
theorem RcAt.put{P:aq}{w:ap}{H H1:Hp}{d t:Addr}{R:List (Pk×Unit)}{ae:List (ZQ×Addr×V)}{p:Pk}(z1:Zj H H1)(z2:H d=none)(z3:b_ P w H1 d ae)(z4:dR (λv _=>v=V.bl true) ae R)(pt:aQ H1 t (pk p)):RcAt P w H d (upd H1 d (Zv P w d (putN ae (pk p) t (.bl true)))) (bE R p ()) :=
 ⟨_,λb o e=>by
  rw[Zc (λz=>by rw[z,z2] at e;cases e)];exact z1 _ _ e,z2,z3.put pt _,z4.put rfl⟩
def Cm(fm:FQ)(L:List (Pk×Wd))(q:ax.Qd)(R:List (Pk×Unit))(a b:Pk):Prop := ∀wa wb,(a,wa)∈L->(b,wb)∈L->(aL fm q a b,bj q wa wb)∈L->aL fm q a b∈R.map (·.1)
theorem Zo8{K:ay}{neg:Bool}{Q:VK}(hA:au K H a (xs.map V.str))(hB:au K H b (ys.map V.str))(o1:f' xs)(o2:f' ys)(q:Q (.bl (if neg then !decide (xs=ys) else decide (xs=ys))) H):IW K neg (.ref a) (.ref b) H Q:=Zji hA hB o1 o2 (by decide) q
abbrev jZ(p o dl d:Addr)(y4 y5 y6 y7 y8 y9 bF bh aU aV c_:Option V):St:=[some (.ref p),some (.ref o),some (.ref dl),some (.ref d),y4,y5,y6,y7,y8,y9,bF,bh,aU,aV,c_]
theorem HU(h:p∈L.map (·.1)):∃n,(p,n)∈L:=by
 obtain⟨e,he,rfl⟩:=aX.mp h;exact⟨e.2,he⟩
def Qw(P:aq)(w:ap):Sp:=λvs H Q _=>∃(p o dl:Addr)(one fm:FQ)(gR:List (ZQ×Addr×V))(L:List (Pk×Wd)),vs=[.ref p,.ref o,.ref dl]/\fF H p one/\fF H o fm/\iR one/\iR fm/\b_ P w H dl gR/\dR (ZpL H) gR L/\iO one fm L/\∀H',Zj H H'->Q (.bl true) H'
theorem Zjv(B:∀x∈eG,mg x=none)(wW:fO P w K mg base "_law_above" ["_law_other","_law_word","_law_inner","_law_rest"] 1 (HP K)) (F:ci K "_law_good" "_law_good" Z0 f fd):br P w K mg base cA 2 f fd ["_law_one","_law_other","_law_lists_here"] (Qw P w):=by
 refine F.ok Z5 (λvs H Q E h=>?_) (λbg A outer s H vs Q E hr h=>?_)
 .obtain⟨p,o,dl,one,fm,gR,L,rfl,_⟩:=h;rfl
 obtain⟨p,o,dl,one,fm,gR,L,rfl,hF,hO,S1,S2,hD,hK,hG,Q1⟩:=h;have cf:=nJ hr;have hu:=zp hr;obtain⟨f1,f2,f3,zf,a1,a2,a3,a4,a5⟩:=id hF;obtain⟨g1,g2,g3,zg,b1,b2,b3,b4,b5⟩:=id hO;have Lb:=a5.length;have U0:∀ob u,H dl≠some (.aO ob u):=λob u z=>by
  rw[hD.1] at z;cases z
 have wU:∀{H1:Hp}{p:Pk}{ws:Wd},Zj H H1->(p,ws)∈L->dP P w H1 dl gR/\∃l,valN gR (pk p)=some (.ref l)/\H1 l=some (.lst (ws.map V.str)):=λs1 hp=>by
  refine⟨(ZZ hD ((s1 _ _ hD.1).trans hD.1.symm) λb xs e=>s1 _ _ e).r,?_⟩;rcases hK.val _ with⟨h1,_⟩|⟨x,v,h1,h2,l,rfl,h3⟩
  .rw[Zk hG.nd hp] at h1;cases h1
  .rw[Zk hG.nd hp] at h1;injection h1 with h1;subst h1;exact⟨l,h2,s1 _ _ h3⟩
 have aj:∀{q:ax.Qd}{a b:Pk}{wa wb:Wd},q∈one.qs->(a,wa)∈L->(b,wb)∈L->f' (bj q wa wb):=λ{q a b wa wb} hq ha hb=>Iv (Ziw (S1.qs q hq).2.2.2.2.2.2.1.Lu) (hG.ok _ ha).1 (hG.ok _ hb).1;refine Zr ((Zf Z0).drop 3) (Zh (Z1 (C6 iy (Zu Hu rfl (B "len" (by decide)) gC (Zb (pv 3) Ze)) (Zu Hu rfl (B "len" (by decide)) gC (Zb (pv 2) Ze)) (ZM _)))) (λu3 h3 e3=>?_);refine Zr ((Zz ((Zz ((Zz ((Zf Z0).getD 2 (.Pass ⟨0,0,0,0⟩))).getD 2 (.Pass ⟨0,0,0,0⟩))).getD 0 (.Pass ⟨0,0,0,0⟩))).drop 4) (Zh (cR (ZC (Zn4 hu) (pv 13) (pv 14) (ZM _))
   (Zh (rj cf (pv 3) (pv 5) jU rfl))
   ZW)) (λZBF ZxD ZwD=>?_)
 refine Zr ((Zz ((Zz ((Zz ((Zf Z0).getD 2 (.Pass ⟨0,0,0,0⟩))).getD 2 (.Pass ⟨0,0,0,0⟩))).getD 0 (.Pass ⟨0,0,0,0⟩))).drop 3) (Zd (cR (PW.pt (lu (ZC IK (pv 14) jx (ZM _)) (rA (ZC (Ry hu) (dU (Zb (Zu ZD rfl (B "len" (by decide)) gC (Zb (pv 13) Ze)) (Zb (pv 13) Ze))) (dU (Zb (Zu ZD rfl (B "len" (by decide)) gC (Zb (pv 14) Ze)) (Zb (pv 14) Ze))) (ZM _)))))
   (Zh (Z1 jU))
   ZW) ZxD) (λZBE ZxC ZwC=>?_)
 refine Zr ((Zz ((Zz ((Zz ((Zf Z0).getD 2 (.Pass ⟨0,0,0,0⟩))).getD 2 (.Pass ⟨0,0,0,0⟩))).getD 0 (.Pass ⟨0,0,0,0⟩))).drop 2) (Zd (Zx (i:=14) Z5.nd rfl (Or.inl rfl) (Zlc cf (pv 2) (pv 5) ⟨rfl,rfl,rfl,rfl⟩)) ZxC) (λVz ZxB ZwB=>?_);refine Zr ((Zz ((Zz ((Zz ((Zf Z0).getD 2 (.Pass ⟨0,0,0,0⟩))).getD 2 (.Pass ⟨0,0,0,0⟩))).getD 0 (.Pass ⟨0,0,0,0⟩))).drop 1) (Zd (Zx (i:=13) Z5.nd rfl (Or.inl rfl) (ZF wG (ZF wG (ZF wG (eU (Zb (pv 6) Ze)) (mf cf (pv 2) (pv 11) (λ_ _=>rfl))) (eU (Zb uh Ze))) (mf cf (pv 2) (pv 12) (λ_ _=>rfl)))) ZxB) (λZER ZxA ZwA=>?_);refine Zr ((Zz ((Zz ((Zz ((Zf Z0).getD 2 (.Pass ⟨0,0,0,0⟩))).getD 2 (.Pass ⟨0,0,0,0⟩))).getD 0 (.Pass ⟨0,0,0,0⟩))).drop 0) (Zd (Zx (i:=5) Z5.nd rfl (Or.inl rfl) (dU (Zb (pv 4) (Zb (eS wW hr rfl (Zb (pv 1) (Zb (pv 6) (Zb (ZR ZG (pv 11) Zg (λ_ _=>rfl)) (Zb (ZR ZG (pv 12) Zg (λ_ _=>rfl)) Ze))))) Ze)))) ZxA) (λZEQ Zxz Zwz=>?_);refine Zr ((Zz ((Zz ((Zf Z0).getD 2 (.Pass ⟨0,0,0,0⟩))).getD 2 (.Pass ⟨0,0,0,0⟩))).drop 0) (Zh (gG fX rfl (nO (pv 10)) (Zt (i:=12) Z5.nd rfl (Or.inl rfl))
   Zxz)) (λZEP Zxy Zwy=>?_)
 refine Zr ((Zz ((Zf Z0).getD 2 (.Pass ⟨0,0,0,0⟩))).drop 2) (Zh (gG fX rfl (nO (pv 9)) (Zt (i:=11) Z5.nd rfl (Or.inl rfl))
   Zxy)) (λBh JR Jk=>?_)
 refine Zr ((Zz ((Zf Z0).getD 2 (.Pass ⟨0,0,0,0⟩))).drop 1) (Zd (za (yX (cl:=_) (n0:=10) Z5.nd rfl (Or.inl rfl) ["_law_pair"] [("_law_rest",8)] (wt (pv 2)) (λ_ _ _ _=>(Zt (i:=0) (show kD (["_law_pair","_law_rest"]:List Str) by decide) rfl (Or.inl rfl))) (λ_ _ _ _=>(ZC iy (ZR (q_ (K:=K) rfl) (pv 0) Zg (λ_ _=>rfl)) (pv 1) (ZM _))) (λ_ _ _ _=>(pv 0)) rfl rfl (by decide) rfl (by decide) (lr (by(repeat' first|exact bU _|refine bT.mpr ⟨?_,?_⟩) <;> rfl)) (mn (by(repeat' first|exact bU _|refine bT.mpr ⟨?_,?_⟩) <;> first|(intro h;exact⟨_,rfl⟩)|(intro h;exact absurd h (by decide)))) (λ_=>by(repeat' first|exact bU _|refine bT.mpr ⟨?_,?_⟩) <;> exact⟨rfl,rfl,Or.inl rfl⟩) (λ_=>rfl) rfl)) JR) (λE_ JP Jj=>?_)
 refine Zr ((Zz ((Zf Z0).getD 2 (.Pass ⟨0,0,0,0⟩))).drop 0) (Zd (za (yX (cl:=_) (n0:=9) Z5.nd rfl (Or.inl rfl) ["_law_pair"] [("_law_inner",7)] (wt (pv 2)) (λ_ _ _ _=>(Zt (i:=0) (show kD (["_law_pair","_law_inner"]:List Str) by decide) rfl (Or.inl rfl))) (λ_ _ _ _=>(ZC iy (ZR (q_ (K:=K) rfl) (pv 0) Zg (λ_ _=>rfl)) (pv 1) (ZM _))) (λ_ _ _ _=>(pv 0)) rfl rfl (by decide) rfl (by decide) (lr (by(repeat' first|exact bU _|refine bT.mpr ⟨?_,?_⟩) <;> rfl)) (mn (by(repeat' first|exact bU _|refine bT.mpr ⟨?_,?_⟩) <;> first|(intro h;exact⟨_,rfl⟩)|(intro h;exact absurd h (by decide)))) (λ_=>by(repeat' first|exact bU _|refine bT.mpr ⟨?_,?_⟩) <;> exact⟨rfl,rfl,Or.inl rfl⟩) (λ_=>rfl) rfl)) JP) (λVy JO Ji=>?_)
 refine Zr ((Zf Z0).drop 2) (Zd (gG fX rfl (mj (ZR ZG (pv 0) Zg (λ_ _=>rfl))) (wC rfl (Z6 (Zt (i:=4) Z5.nd rfl (Or.inl rfl)) (Z6 (Zt (i:=6) Z5.nd rfl (Or.inl rfl)) (Z6 (Zt (i:=7) Z5.nd rfl (Or.inr rfl)) (Z6 (Zt (i:=8) Z5.nd rfl (Or.inr rfl)) wB)))))
   JO) h3) (λu2 h2 e2=>?_)
 refine Zr ((Zz ((Zf Z0).getD 1 (.Pass ⟨0,0,0,0⟩))).drop 2) (Zh (rj cf (pv 3) (pv 5) jU rfl)) (λZBD Zxt Zwt=>?_);refine Zr ((Zz ((Zf Z0).getD 1 (.Pass ⟨0,0,0,0⟩))).drop 1) (Zd (cR (PW.pt (lu (zC (Hf cf (pv 5) (pv 2))) (rA (ZC (Ht hu) (mf cf (pv 2) (pv 5) (λ_ _=>rfl)) (eU Ze) (ZM _)))))
   (Zh (Z1 jU))
   ZW) Zxt) (λZBC Zxs Zws=>?_)
 refine Zr ((Zz ((Zf Z0).getD 1 (.Pass ⟨0,0,0,0⟩))).drop 0) (Zd (Zx (i:=5) Z5.nd rfl (Or.inl rfl) (dU (Zb (pv 4) (Zb (ZR ZG (pv 1) Zg (λ_ _=>rfl)) Ze)))) Zxs) (λVx z9 zX=>?_);refine Zr ((Zf Z0).drop 1) (Zd (gG fX rfl (mj (ZR ZG (pv 0) Zg (λ_ _=>rfl))) (Zt (i:=4) Z5.nd rfl (Or.inl rfl))
   z9) h2) (λu1 h1 e1=>?_)
 refine Zr ((Zf Z0).drop 0) (Zd (Zx (i:=3) Z5.nd rfl (Or.inl rfl) ze) h1) (λu0 h0 e0=>?_);refine⟨u0,h0,?_⟩;have iH:∀(d:Addr)(R:List (Pk×Unit))(H1:Hp)(y4 y5 y6 y7 y8 y9 bF bh aU aV c_:Option V),RcAt P w H d H1 R->iW L R->(∀p∈L.map (·.1),p∈R.map (·.1))->u3 { nx:=λ_ H'=>Q .aB H',rt:=Q } (jZ p o dl d y4 y5 y6 y7 y8 y9 bF bh aU aV c_) H1:=by
  intro d R H1 y4 y5 y6 y7 y8 y9 bF bh aU aV c_ hA hR cu;obtain⟨ae,z1,z2,z3,z4⟩:=id hA;have hl:R.length=L.length:=by
   refine WZ hR.len ?_;have:=me hG.nd cu
   simpa using this
  refine Zo e3 ?_;refine⟨_,rfl,d,ae,rfl,z3.r,_,rfl,dl,gR,rfl,(ZZ hD ((z1 _ _ hD.1).trans hD.1.symm) λb xs e=>z1 _ _ e).r,rfl,?_⟩;rw[z4.length,hK.length,hl,aJ rfl];exact Q1 H1 z1
 have ZBi:∀(D:Ends)(d:Addr)(R0:List (Pk×Unit))(H3:Hp)(l9 kj:Addr)(u9 xV:List V)(q:ax.Qd)(y5 bh aU aV c_:Option V),q∈one.qs->RcAt P w H d H3 R0->iW L R0->H3 l9=some (.lst u9)->cp H3 u9 ((L.map (·.1)).filter λx=>decide (x.1=q.2.2.1))->H3 kj=some (.lst xV)->cp H3 xV ((L.map (·.1)).filter λx=>decide (x.1=q.2.2.2)) ->
   (∀(R:List (Pk×Unit))(H4:Hp)(y5 bh aU aV c_:Option V),RcAt P w H d H4 R->iW L R->(∀p∈R0.map (·.1),p∈R.map (·.1))->(∀a∈(L.map (·.1)).filter λx=>decide (x.1=q.2.2.1),∀b∈(L.map (·.1)).filter λx=>decide (x.1=q.2.2.2),Cm fm L q R a b)->D.nx (jZ p o dl d (some (.int q.1)) y5 (some (.str q.2.1)) (some (.int q.2.2.1)) (some (.int q.2.2.2)) (some (.ref l9)) (some (.ref kj)) bh aU aV c_) H4) ->
   Bh D (jZ p o dl d (some (.int q.1)) y5 (some (.str q.2.1)) (some (.int q.2.2.1)) (some (.int q.2.2.2)) (some (.ref l9)) (some (.ref kj)) bh aU aV c_) H3:=by
  intro D d R0 H3 l9 kj u9 xV q y5 bh aU aV c_ hq hA hR e9 p9 wV EW fin;obtain⟨kv0,_,zd,zD,_⟩:=id hA;have nL:∀{b:Addr}{xs:List V},H3 b=some (.lst xs)->b≠d:=λe=>pJ e zD.1 λz=>nomatch z
  have nT:∀{b:Addr}{xs:List V},H3 b=some (.tup xs)->b≠d:=λe=>pJ e zD.1 λz=>nomatch z
  refine Zo Jk ?_;refine⟨_,rfl,l9,rfl,⟨_,au.of e9⟩,pH (K:=K) (a:=l9) (xs:=u9) (λi σ H4=>∃(R:List (Pk×Unit))(y5 bh aU aV c_:Option V),σ = jZ p o dl d (some (.int q.1)) y5 (some (.str q.2.1)) (some (.int q.2.2.1)) (some (.int q.2.2.2)) (some (.ref l9)) (some (.ref kj)) bh aU aV c_/\pL d H3 H4/\RcAt P w H d H4 R/\iW L R/\(∀p∈R0.map (·.1),p∈R.map (·.1))/\∀a∈((L.map (·.1)).filter λx=>decide (x.1=q.2.2.1)).take i,∀b∈(L.map (·.1)).filter λx=>decide (x.1=q.2.2.2),Cm fm L q R a b)
   ⟨_,_,_,_,_,_,rfl,λ_ _ _ h=>h,hA,hR,λ_ h=>h,λa ha=>(nomatch ha)⟩ ?_ ?_ ?_⟩
  .rintro i σ H4 _ ⟨_,_,_,_,_,_,_,k4,_⟩;exact au.of (k4 _ _ (nL e9) e9)
  .refine lI ?_;rintro i x σ H4 hx ⟨R4,y5,bh,aU,aV,c_,rfl,k4,Ab,JY,m4,c4⟩ D1 vf;obtain⟨ba,pa,AE,rfl,EY⟩:=p9.get i x hx;have AF:=fA.mp (bW AE);have Y':=EY;obtain⟨ca,qo,iF⟩:=EY;rw[gf] at iF;refine Zo Zwy ?_;refine⟨_,rfl,kj,rfl,⟨_,au.of (k4 _ _ (nL wV) wV)⟩,pH (K:=K) (a:=kj) (xs:=xV) (λj σ H5=>∃(R:List (Pk×Unit))(y5 aU aV c_:Option V),σ = jZ p o dl d (some (.int q.1)) y5 (some (.str q.2.1)) (some (.int q.2.2.1)) (some (.int q.2.2.2)) (some (.ref l9)) (some (.ref kj)) (some (.ref ba)) aU aV c_/\pL d H3 H5/\RcAt P w H d H5 R/\iW L R/\(∀p∈R4.map (·.1),p∈R.map (·.1))/\∀b∈((L.map (·.1)).filter λx=>decide (x.1=q.2.2.2)).take j,Cm fm L q R pa b)
    ⟨_,_,_,_,_,rfl,k4,Ab,JY,λ_ h=>h,λa ha=>(nomatch ha)⟩ ?_ ?_ ?_⟩
   .rintro j σ H5 _ ⟨_,_,_,_,_,_,k5,_⟩;exact au.of (k5 _ _ (nL wV) wV)
   .refine lI ?_;rintro j x σ H5 hx ⟨R5,y5,aU,aV,c_,rfl,k5,wZ,Af,m5,c5⟩ Dn gT;obtain⟨bb,pb,mI,rfl,EZ⟩:=EW.get j x hx;have AG:=fA.mp (bW mI);have Y_:=EZ;obtain⟨cb,kb1,kb2⟩:=EZ;rw[gf] at kb2;have Jw:=k5 _ _ (nT qo) qo;have Jx:=k5 _ _ (nT kb1) kb1;have vi:Zj H H5:=wZ.sm;refine Zo Zwz ?_;refine⟨_,rfl,_,rfl,_,rfl,_,rfl,ba,_,1,_,rfl,rfl,az.of Jw,rfl,_,rfl,bb,_,1,_,rfl,rfl,az.of Jx,rfl,o,ca,cb,q.2.1,fm,pa.2,pb.2,rfl,hO.same vi,S2.len,k5 _ _ (nT iF) iF,k5 _ _ (nT kb2) kb2,λrr ks H6 s6 er AO=>?_⟩;refine⟨by show(2:Nat)<=sizeLine;decide,λt ht=>?_⟩;have q7:Zj H6 (upd H6 t (.tup [.int q.1,.ref rr])):=Zj.new ht;have SW:=wZ.same (s6.trans q7);have k7:pL d H3 _:=λb o n e=>(s6.trans q7) _ _ (k5 b o n e);have uI:aL fm q pa pb=(q.1,ks):=by
     unfold aL;rw[zE AO]
    have pt:aQ (upd H6 t (.tup [.int q.1,.ref rr])) t (pk (aL fm q pa pb)):=⟨rr,Za,by rw[uI,gf];exact q7 _ _ er⟩;generalize upd H6 t (.tup [.int q.1,.ref rr])=H7 at *;have pA7:aQ H7 ba (pk pa):=Y'.mono λb xs e=>k7 _ _ (nT e) e;have pB7:aQ H7 bb (pk pb):=Y_.mono λb xs e=>k7 _ _ (nT e) e;obtain⟨wa,xy⟩:=HU AF.1;obtain⟨wb,xA⟩:=HU AG.1;have Ba:Zj H H7:=SW.sm;have TQ:=(hG.ok _ xy).2;have TR:=(hG.ok _ xA).2;dsimp only at TQ TR;obtain⟨dA,la,vA,eA⟩:=wU Ba xy;obtain⟨dB,lb,vB,eB⟩:=wU Ba xA;have pt':=pt;refine Zo ZwA ?_;refine⟨_,rfl,by show(1:Nat)<=sizeLine;decide,λx1 qm=>⟨_,rfl,_,rfl,dl,ba,gR,pk pa,_,rfl,rfl,(wU (Ba.trans (Zj.new qm)) xy).1,pA7.mono λb xs e=>Zj.new qm _ _ e,vA,?_⟩⟩;refine⟨x1,la,_,_,rfl,rfl,Za,Zj.new qm _ _ eA,?_,λx2 kh=>?_⟩
    .rw[aF,bu];show 1+wa.length<=_;lia
    refine⟨by show(1:Nat)<=sizeLine;decide,λx3 Uw=>⟨x2,x3,_,_,rfl,rfl,Zj.new Uw _ _ Za,Za,?_,λx4 oq=>?_⟩⟩
    .rw[cw,aF,bu];show 1+wa.length+1<=_;lia
    have s8:=(((Zj.new (o:=.lst [V.str q.2.1]) qm).trans (Zj.new kh)).trans (Zj.new (o:=.lst [V.str SL]) Uw)).trans (Zj.new (o:=.lst ([V.str q.2.1]++wa.map V.str ++ [V.str SL])) oq);refine⟨_,rfl,_,rfl,dl,bb,gR,pk pb,_,rfl,rfl,(wU (Ba.trans s8) xA).1,pB7.mono λb xs e=>s8 _ _ e,vB,?_⟩;refine⟨x4,lb,_,_,rfl,rfl,Za,s8 _ _ eB,?_,λx5 EC=>?_⟩
    .rw[cw,cw,aF,aF,bu];show 1+wa.length+1+wb.length<=_;lia
    have s9:=s8.trans (Zj.new (o:=.lst (([V.str q.2.1]++wa.map V.str ++ [V.str SL])++wb.map V.str)) EC);have e5:upd (upd (upd (upd (upd H7 x1 (.lst [V.str q.2.1])) x2 (.lst ([V.str q.2.1]++wa.map V.str))) x3 (.lst [V.str SL])) x4 (.lst ([V.str q.2.1]++wa.map V.str ++ [V.str SL]))) x5 (.lst (([V.str q.2.1]++wa.map V.str ++ [V.str SL])++wb.map V.str)) x5=some (.lst ((bj q wa wb).map V.str)):=by
     rw[Za];unfold bj;simp
    have go:∀(D2:Ends),(∀(R:List (Pk×Unit))(H5:Hp)(y5 aU aV c_:Option V),pL d H3 H5->RcAt P w H d H5 R->iW L R->(∀p∈R5.map (·.1),p∈R.map (·.1))->Cm fm L q R pa pb->D2.nx (jZ p o dl d (some (.int q.1)) y5 (some (.str q.2.1)) (some (.int q.2.2.1)) (some (.int q.2.2.2)) (some (.ref l9)) (some (.ref kj)) (some (.ref ba)) aU aV c_) H5)->∀H9:Hp,Zj H7 H9->H9 x5=some (.lst ((bj q wa wb).map V.str))->Vz D2 (jZ p o dl d (some (.int q.1)) (some (.ref t)) (some (.str q.2.1)) (some (.int q.2.2.1)) (some (.int q.2.2.2)) (some (.ref l9)) (some (.ref kj)) (some (.ref ba)) (some (.ref bb)) (some (.ref x5)) c_) H9:=by
     intro D2 fin H9 LR e5;obtain⟨v,hv,hbv⟩:=hG.least q hq pa wa pb wb xy xA (bC AF.2) (bC AG.2);obtain⟨dV,lv,vV,eV⟩:=wU (Ba.trans LR) hv;have okN:f' (bj q wa wb):=aj hq xy xA;have U7:=(hG.ok _ hv).1;have oC:∀lW:Hp,Zj H9 lW->ZBF D2 (jZ p o dl d (some (.int q.1)) (some (.ref t)) (some (.str q.2.1)) (some (.int q.2.2.1)) (some (.int q.2.2.2)) (some (.ref l9)) (some (.ref kj)) (some (.ref ba)) (some (.ref bb)) (some (.ref x5)) (some (.ref lv))) lW:=by
      intro lW s9;have k9:=LR.trans s9;have DZ:=SW.same k9;have Vb:aQ lW t (pk (aL fm q pa pb)):=pt.mono λb xs e=>k9 _ _ e;have EJ:pL d H3 lW:=λb o n e=>k9 _ _ (k7 b o n e);refine Zo ZwD ?_;refine⟨_,rfl,_,rfl,?_⟩;refine Zo8 (neg:=false) (au.of (s9 _ _ e5)) (au.of (s9 _ _ eV)) okN U7 ⟨_,rfl,?_⟩;have inP:aL fm q pa pb∈L.map (·.1):=aX.mpr ⟨_,hv,rfl⟩;obtain⟨ae,z1,z2,z3,z4⟩:=id DZ;refine cJ (λc=>?_) (λc=>?_)
      .obtain⟨Zp,Zs,ZA⟩:=Af.put inP;refine⟨_,rfl,_,rfl,d,t,ae,_,rfl,rfl,z3,Vb,?_,?_⟩
       .rw[z4.length,bu];have:=Af.len;have:=hG.len;lia
       .exact fin _ _ _ _ _ _ (λb o n e=>by rw[Zc n];exact EJ b o n e) (RcAt.put z1 z2 z3 z4 Vb) Zp ZA λ_ _ _ _ _=>Zs
      .refine fin _ _ _ _ _ _ EJ DZ Af (λ_ h=>h) λkU kX h1 h2 h3=>?_;have same:∀{p:Pk}{x y:Wd},(p,x)∈L->(p,y)∈L->x=y:=λhx hy=>by
        have:=(Zk hG.nd hx).symm.trans (Zk hG.nd hy);injection this
       rw[same h1 xy,same h2 xA] at h3;exact absurd (aJ (same h3 hv)) c
     refine Zo ZwB ?_;refine⟨_,rfl,dl,rfl,⟨gR,dV⟩,_,rfl,t,gR,_,rfl,dV,pt.mono λb xs e=>LR _ _ e,?_⟩;rw[vV];show ZBE _ _ _;refine Zo ZwC ?_;refine⟨_,rfl,rfl,false,rfl,dj ?_⟩;refine⟨_,rfl,x5,_,rfl,.inl (au.of e5),_,rfl,by show(2:Nat)<=sizeLine;decide,λr1 oo=>⟨_,rfl,lv,_,rfl,.inl (au.of (Zj.new oo _ _ eV)),_,rfl,by show(2:Nat)<=sizeLine;decide,λr2 r8=>?_⟩⟩;have s9:Zj H9 (upd (upd H9 r1 (.tup [.int ((bj q wa wb).map V.str).length,.ref x5])) r2 (.tup [.int (v.map V.str).length,.ref lv])):=(Zj.new oo).trans (Zj.new r8);obtain⟨dd,ee,o1,o2,o3,o4,o5,o6⟩:=Iu (K:=K) (r:=r1) (r':=r2) (p:=x5) (p':=lv) ⟨s9 _ _ e5,by rw[Zc (λz=>by rw[z,Za] at r8;cases r8),Za,aF]⟩ ⟨s9 _ _ eV,by rw[Za,aF]⟩ okN U7;refine⟨dd,ee,_,o1,o2,o3,o4,o5,o6,_,rfl,?_⟩;rw[hbv];exact dj (oC _ s9)
    show Vz _ _ _;refine go _ ?_ _ s9 e5;intro R H5 y5 aU aV c_ q1 q2 q3 q4 q5;refine gT _ _ ⟨_,_,_,_,_,rfl,q1,q2,q3,λp hp=>q4 p (m5 p hp),λb hb=>?_⟩;rw[Zq mI] at hb;rcases bV.mp hb with hb|hb
    .exact λwa wb h1 h2 h3=>q4 _ (c5 b hb wa wb h1 h2 h3)
    .rw[aI.mp hb];exact q5
   .rintro σ H5 ⟨R5,y5,aU,aV,c_,rfl,k5,wZ,Af,m5,c5⟩;rw[EW.length,d_] at c5;refine vf _ _ ⟨_,_,_,_,_,_,rfl,k5,wZ,Af,λp hp=>m5 p (m4 p hp),λa ha b hb=>?_⟩;rw[Zq AE] at ha;rcases bV.mp ha with ha|ha
    .exact λwa wb h1 h2 h3=>m5 _ (c4 a ha b hb wa wb h1 h2 h3)
    .rw[aI.mp ha];exact c5 b hb
  .rintro σ H4 ⟨R4,y5,bh,aU,aV,c_,rfl,k4,Ab,JY,m4,c4⟩;rw[p9.length,d_] at c4;exact fin _ _ _ _ _ _ _ Ab JY m4 c4
 have dL:∀{H1:Hp},Zj H H1->b_ P w H1 dl gR:=λs1=>ZZ hD ((s1 _ _ hD.1).trans hD.1.symm) λb xs e=>s1 _ _ e;have UL:(L.map (·.1)).length<=500:=by
  have:=hG.len;rw[aF];lia
 have cE:∀(d:Addr)(R:List (Pk×Unit))(H1:Hp)(y4 y5 y6 y7 y8 y9 bF bh aU aV c_:Option V),RcAt P w H d H1 R->iW L R->(∀k∈one.ts,((k,fm.ts):Pk)∈R.map (·.1))->u2 { nx:=λ_ H'=>Q .aB H',rt:=Q } (jZ p o dl d y4 y5 y6 y7 y8 y9 bF bh aU aV c_) H1:=by
  intro d R0 H1 y4 y5 y6 y7 y8 y9 bF bh aU aV c_ hA hR ZyA;refine Zo e2 ?_;refine⟨_,rfl,p,_,3,_,rfl,rfl,az.of (hA.sm _ _ a1),rfl,f3,rfl,⟨_,az.of (hA.sm _ _ a4)⟩,wA (K:=K) (a:=f3) (xs:=zf) (λj σ H3=>∃(R:List (Pk×Unit))(y4 y5 y6 y7 y8 y9 bF bh aU aV c_:Option V),σ = jZ p o dl d y4 y5 y6 y7 y8 y9 bF bh aU aV c_/\RcAt P w H d H3 R/\iW L R/\(∀p∈R0.map (·.1),p∈R.map (·.1))/\∀q∈one.qs.take j,∀a∈(L.map (·.1)).filter λx=>decide (x.1=q.2.2.1),∀b∈(L.map (·.1)).filter λx=>decide (x.1=q.2.2.2),Cm fm L q R a b)
   ⟨_,_,_,_,_,_,_,_,_,_,_,_,rfl,hA,hR,λ_ h=>h,λq h=>(nomatch h)⟩ ?_ ?_ ?_⟩
  .rintro j σ H3 _ ⟨_,_,_,_,_,_,_,_,_,_,_,_,_,h3,_⟩;exact az.of (h3.sm _ _ a4)
  .refine lI ?_;rintro j x σ H3 hx ⟨R,y4,y5,y6,y7,y8,y9,bF,bh,aU,aV,c_,rfl,h3,JX,m3,c3⟩ Dn gT;obtain⟨rq,q,mK,rfl,KO⟩:=a5.get j x hx;refine⟨rq,_,rfl,az.of (h3.sm _ _ KO),rfl,_,_,rfl,_,_,rfl,_,_,rfl,_,_,rfl,rfl,?_⟩;refine Zo Ji ?_;refine CL rfl rfl U0 rfl rfl (dL h3.sm) hK.keys UL λl9 u9 H4 s4 n4 e9 p9=>?_;have h4:=h3.same s4;show E_ _ _ _;refine Zo Jj ?_;refine CL rfl rfl U0 rfl rfl (dL h4.sm) hK.keys UL λkj xV H5 s5 n5 wV EW=>?_;show Bh _ _ _;refine ZBi _ d R H5 l9 kj u9 xV q _ _ _ _ _ (bW mK) (h4.same s5) JX (s5 _ _ e9) (p9.keep λb xs e=>s5 _ _ e) wV EW λR6 H6 y5 bh aU aV c_ h6 hR6 m6 c6=>gT _ _ ⟨_,_,_,_,_,_,_,_,_,_,_,_,rfl,h6,hR6,λp hp=>m6 p (m3 p hp),λq' bX a ha b hb=>?_⟩;rw[Zq mK] at bX;rcases bV.mp bX with bX|bX
   .exact λwa wb h1 h2 h3=>m6 _ (c3 q' bX a ha b hb wa wb h1 h2 h3)
   .rw[aI.mp bX] at ha hb ⊢;exact c6 a ha b hb
  .rintro σ H3 ⟨R,y4,y5,y6,y7,y8,y9,bF,bh,aU,aV,c_,rfl,h3,JX,m3,c3⟩;rw[Lb,d_] at c3;show u3 _ _ _;refine iH d R H3 _ _ _ _ _ _ _ _ _ _ _ h3 JX λp hp=>?_;obtain⟨wp,u_⟩:=HU hp;rcases hG.md p wp u_ with⟨k,hk,rfl⟩|⟨q,hq,a,wa,b,wb,ha,hb,ea,eb,rfl,rfl⟩
   .exact m3 _ (ZyA k hk)
   .exact c3 q hq a (fA.mpr ⟨aX.mpr ⟨_,ha,rfl⟩,aJ ea⟩) b (fA.mpr ⟨aX.mpr ⟨_,hb,rfl⟩,aJ eb⟩) wa wb ha hb u_
 refine Zo e0 ?_;intro d hd;show u1 _ _ _;refine Zo e1 ?_;have s1:Zj H (upd H d (Zv P w d [])):=Zj.new hd;refine⟨_,rfl,p,_,2,_,rfl,rfl,az.of (s1 _ _ a1),rfl,f2,rfl,⟨_,az.of (s1 _ _ a3)⟩,wA (K:=K) (a:=f2) (xs:=one.ts.map V.int) (λj σ H1=>∃(y4 y5:Option V)(R:List (Pk×Unit)),σ = jZ p o dl d y4 y5 none none none none none none none none none/\RcAt P w H d H1 R/\iW L R/\∀k∈one.ts.take j,((k,fm.ts):Pk)∈R.map (·.1))
  ⟨none,none,[],rfl,⟨[],s1,hd,⟨Za,λx hx=>(nomatch hx)⟩,.nil⟩,⟨FG,λ_ h=>(nomatch h)⟩,λk h=>(nomatch h)⟩ ?_ ?_ ?_⟩
 .rintro j σ H1 _ ⟨_,_,_,_,hA,_⟩;exact az.of (hA.sm _ _ a3)
 .refine lI ?_;rintro j x σ H1 hx ⟨y4,y5,R,rfl,hA,hR,hz⟩ Dn gT;rw[bM] at hx;obtain⟨y,hy,rfl⟩:=gB.mp hx;refine Zo zX ?_;refine⟨_,rfl,_,rfl,o,_,2,_,rfl,rfl,az.of (hA.sm _ _ b1),rfl,by show(2:Nat)<=sizeLine;decide,λt ht=>?_⟩;have q1:Zj H1 (upd H1 t (.tup [.int y,.ref g2])):=Zj.new ht;have DY:=hA.same q1;have pt:aQ (upd H1 t (.tup [.int y,.ref g2])) t (pk (y,fm.ts)):=⟨g2,Za,by rw[gf];exact q1 _ _ (hA.sm _ _ b3)⟩;generalize upd H1 t (.tup [.int y,.ref g2])=H2 at *;have As:=hG.fin y (bW hy);obtain⟨dV,lv,vV,eV⟩:=wU DY.sm As;show ZBC _ _ _;refine Zo Zws ?_;refine⟨_,rfl,_,rfl,dl,t,gR,_,rfl,rfl,dV,pt,_,rfl,?_⟩;rw[vV];refine dj ?_;refine⟨_,rfl,_,rfl,dl,t,gR,_,_,rfl,rfl,dV,pt,vV,by show(0:Nat)<=sizeLine;decide,λx1 qm=>⟨lv,x1,[],rfl,rfl,au.of (Zj.new qm _ _ eV),au.of Za,false,rfl,dj ?_⟩⟩;have st:∀H3:Hp,Zj H2 H3->∀D:Ends,(∀R H4,RcAt P w H d H4 R->iW L R->(∀k∈one.ts.take (j+1),((k,fm.ts):Pk)∈R.map (·.1))->D.nx (jZ p o dl d (some (.int y)) (some (.ref t)) none none none none none none none none none) H4)->ZBD D (jZ p o dl d (some (.int y)) (some (.ref t)) none none none none none none none none none) H3:=by
   intro H3 s3 D fin;have hA3:=DY.same s3;have Va:aQ H3 t (pk (y,fm.ts)):=pt.mono λb xs e=>s3 _ _ e;obtain⟨ae,z1,z2,z3,z4⟩:=id hA3;obtain⟨r1,r2,r3⟩:=hR.put (p:=(y,fm.ts)) (aX.mpr ⟨_,As,rfl⟩);refine Zo Zwt ?_;refine⟨_,rfl,_,rfl,d,t,ae,_,rfl,rfl,z3,Va,?_,fin _ _ (RcAt.put z1 z2 z3 z4 Va) r1 λk hk=>?_⟩
   .rw[z4.length,bu];have:=hR.len;have:=hG.len;lia
   .rw[Zq hy] at hk;rcases bV.mp hk with hk|hk
    .exact r3 _ (hz k hk)
    .rw[aI.mp hk];exact r2
  exact st _ (Zj.new qm) _ λR H4 h1 h2 h3=>gT _ _ ⟨_,_,R,rfl,h1,h2,h3⟩
 .rintro σ H1 ⟨y4,y5,R,rfl,hA,hR,hz⟩;rw[aF,d_] at hz;show u2 _ _ _;exact cE d R H1 _ _ _ _ _ _ _ _ _ _ _ hA hR hz
theorem Zlv(l xs ys:List Str):a_ (l++xs) (l++ys)=a_ xs ys:=by
 induction l with
 | nil=>rfl
 | cons t l ih =>
  rw[<- ih];have:=O5 t (l++xs) (l++ys) []
  rwa [gW,gW] at this
theorem Zjo{va vb:Wd}(h1:a_ wa va=false)(h2:a_ wb vb=false):a_ (bj q wa wb) (bj q va vb)=false:=by
 have e1:a_ (bj q wa wb) (bj q va wb)=a_ wa va:=O5 q.2.1 wa va (SL::wb);have e2:a_ (bj q va wb) (bj q va vb)=a_ wb vb:=by
  have:=Zlv (q.2.1::(va ++ [SL])) wb vb
  simpa[bj] using this
 exact CC (e1.trans h1) (e2.trans h2)
theorem Zlu(w:Wd):a_ w []=false:=by
 cases w with
 | nil=>exact qW []
 | cons x xs=>exact Ig (vG _)
section
variable{one fm:FQ}{L L2:List (Pk×Wd)}
theorem iO.le(h:iO one fm L)(h2:iO one fm L2):∀(n:Nat) p w,w.length<n->(p,w)∈L->∃v,(p,v)∈L2/\a_ w v=false:=by
 intro n
 induction n with
 | zero=>exact λ_ _ h=>absurd h (lP _)
 | succ n ih =>
  intro p w hn hp;rcases h.md p w hp with⟨k,hk,rfl⟩|⟨q,hq,a,wa,b,wb,ha,hb,ea,eb,rfl,rfl⟩
  .exact⟨[],h2.fin k hk,Zlu w⟩
  .rw[pG] at hn;obtain⟨va,ka,la⟩:=ih a wa (by lia) ha;obtain⟨vb,kb,lb⟩:=ih b wb (by lia) hb;obtain⟨v,hv,lv⟩:=h2.least q hq a va b vb ka kb ea eb;exact⟨v,hv,CC (Zjo la lb) lv⟩
theorem iO.eq{p:Pk}{x y:Wd}(h:iO one fm L)(hx:(p,x)∈L)(hy:(p,y)∈L):x=y:=by
 have:=(Zk h.nd hx).symm.trans (Zk h.nd hy);injection this
theorem iO.sub(h:iO one fm L)(h2:iO one fm L2){p:Pk}{w:Wd}(hp:(p,w)∈L):(p,w)∈L2:=by
 obtain⟨v,hv,h3⟩:=h.le h2 _ p w (kG _) hp;obtain⟨w',hw,h4⟩:=h2.le h _ p v (kG _) hv;rw[h.eq hw hp] at h4;rw[Zjq h3 h4];exact hv
theorem iO.ZAl(h:iO one fm L)(h2:iO one fm L2):L.length=L2.length:=by
 have k:∀{A B:List (Pk×Wd)},iO one fm A->iO one fm B->A.length<=B.length:=λha hb=>by
  have:=me ha.nd (m:=(_:List (Pk×Wd)).map (·.1)) λp hp=>by
   obtain⟨e,he,rfl⟩:=aX.mp hp;exact aX.mpr ⟨e,ha.sub hb he,rfl⟩
  simpa using this
 exact WZ (k h h2) (k h2 h)
theorem Q4{g:Gs}(h:f6 one.ts one.qs fm g)(cU:g.tl=[])(dm:∀b∈g.bl,∃w,(b,w)∈g.sl)(eY:Cr one.ts one.qs fm)(hp:L.Perm g.sl):iO one fm L where
 nd:=((hp.map _).nodup_iff).mpr (Z8 h.gi.nd).1
 fin:=λk hk=>by
  have:=h.gi.fin k hk;rw[cU,gW] at this;exact hp.mem_iff.mpr this
 least:=λq hq a wa b wb ha hb ea eb=>by
  rcases(h.DF q hq a wa b wb (hp.mem_iff.mp ha) (hp.mem_iff.mp hb) ea eb).1 with⟨v,h1,h2⟩|⟨v,h1,_⟩|⟨h0,h1⟩
  .exact⟨v,hp.mem_iff.mpr h1,h2⟩
  .rw[cU] at h1;cases h1
  .obtain⟨v,hv⟩:=dm _ h1;have:=h.gi.len _ (dN _ hv);exact⟨v,hp.mem_iff.mpr hv,Ig (by dsimp only at this;lia)⟩
 md:=λp w rY=>by
  obtain⟨i,hi⟩:=fc.mp (hp.mem_iff.mp rY);rcases h.gi.sk i _ hi with⟨k,hk,e⟩|⟨q,hq,a,wa,b,wb,ha,hb,ea,eb,e⟩
  .injection e with e _;exact .inl ⟨k,hk,e⟩
  .injection e with e1 e2;exact .inr ⟨q,hq,a,wa,b,wb,hp.mem_iff.mpr (MJ ha),hp.mem_iff.mpr (MJ hb),ea,eb,e1,e2⟩
 ok:=λe he=>⟨(h.ok _ (dN _ (hp.mem_iff.mp he))).1,h.gi.len _ (dN _ (hp.mem_iff.mp he))⟩
 len:=by
  rw[hp.length_eq];exact(eY g h.gi).1
end
theorem wF{f:FQ}(h:fF H a f)(s:TK H H'):fF H' a f:=by
 obtain⟨h1,h2,h3,zs,a1,a2,a3,a4,a5⟩:=h;exact⟨h1,h2,h3,zs,s _ _ a1,s _ _ a2,s _ _ a3,s _ _ a4,a5.keep s⟩
def Kx(Pt:Addr)(H H':Hp):Prop := ∀b o,b≠Pt->(∀F,o ≠ .ext F)->H b=some o->H' b=some o
theorem xE(T:bN H Pt ZJ)(k:Kx Pt H H'):TK H H':=λb xs e=>k b _ (λz=>by
 obtain⟨_,h,_⟩:=T;rw[z,h] at e;cases e) (λ_ z=>nomatch z) e
def zb(P:aq)(w:ap)(CM Pt:Addr):Sp:=λvs H Q _=>∃(p o m:Addr)(one fm:FQ),vs=[.ref p,.ref o,.ref m]/\fF H p one/\fF H o fm/\gK CM H m fm/\iR one/\iR fm/\bN H Pt ZJ/\∀H',Kx Pt H H'->bN H' Pt ZJ->Q (.bl true) H'
theorem Pu(B:∀x∈eG,mg x=none)(xc:XC K mg iS lc cI)(DW:tL P w K mg base "table" ["form","measure"] 6 (CS P w CM cI Pt)) (DU:fO P w K mg base "_law_sizes" ["_law_one","_law_other"] 2 (QK P w)) (z6:fO P w K mg base "_law_lists" ["_law_rows"] 2 (O8 P w)) (DS:fO P w K mg base "_law_good" ["_law_one","_law_other","_law_lists_here"] 2 (Qw P w)) (F:ci K "_law_told" "_law_told" lh f fd):br P w K mg base cA 7 f fd ["_law_one","_law_other","_law_measure"] (zb P w CM Pt):=by
  refine F.ok qX (λvs H Q E h=>?_) (λbg A outer s H vs Q E hr h=>?_)
  . obtain⟨p,o,m,one,fm,rfl,_⟩:=h;rfl
  obtain⟨p,o,m,one,fm,rfl,hF,hO,hK,S1,S2,T0,Q1⟩:=h;have cf:=nJ hr;have hu:=zp hr;refine Zr ((Zf lh).drop 8) (Zh (Z1 (C6 (Zm0 cf) (eS z6 hr rfl (Zb (HY DW ZkQ hr rfl (Zb (pv 0) (Zb (pv 2) Ze))) Ze)) (pv 7) (ZM _)))) (λu8 h8 e8=>?_);refine Zr ((Zf lh).drop 7) (Zd (ix (Dm jl PySem.F.slot_list_clear PySem.F.type_list_clear Zk9 (pv 3))) h8) (λu7 h7 e7=>?_);refine Zr ((Zf lh).drop 6) (Zd (cR (PW.pt (lu (ZC Q3 (pv 4) jx (ZM _)) (lu (ZC IK (pv 7) jx (ZM _)) (rA (mi (iT (eS DS hr rfl (Zb (pv 0) (Zb (pv 1) (Zb (pv 7) Ze)))) (λ_=>rfl)))))))
      (Zh (Z1 jU))
      ZW) h7) (λu6 h6 e6=>?_)
  refine Zr ((Zf lh).drop 5) (Zd (Zx (i:=7) qX.nd rfl (Or.inl rfl) (eS z6 hr rfl (Zb (pv 3) Ze))) h6) (λu5 h5 e5=>?_);refine Zr ((Zf lh).drop 4) (Zd (za (cR (ZC (Ht hu) (OU (cl:=_) ["_law_pair"] [("_law_sizes_here",6)] (wt (pv 6)) (λ_ _ _ _=>(Zt (i:=0) (show kD (["_law_pair","_law_sizes_here"]:List Str) by decide) rfl (Or.inl rfl))) (λ_ _ _ _=>(ZC wK (Hk (P:=P) (w:=w) rfl rfl cf (pv 1) (pv 0) (λ_ _=>rfl)) Zg (ZM _))) (λ_ _ _ _=>(pv 0)) rfl rfl (by decide) rfl (by decide) (lr (by(repeat' first|exact bU _|refine bT.mpr ⟨?_,?_⟩) <;> rfl)) (mn (by(repeat' first|exact bU _|refine bT.mpr ⟨?_,?_⟩) <;> first|(intro h;exact⟨_,rfl⟩)|(intro h;exact absurd h (by decide)))) (λ_=>by(repeat' first|exact bU _|refine bT.mpr ⟨?_,?_⟩) <;> exact⟨rfl,rfl,Or.inl rfl⟩) (λ_=>rfl)) (eU Ze) (ZM _))
      (Zh (Z1 (Dv (Zu (O6 (K:=K) rfl) rfl (B "isinstance" (by decide)) ZV (Zb (pv 4) (Zb (rh (v:=.ref cI) rfl xc.UU rfl) Ze))) (Dq (Rz (Zu (O6 (K:=K) rfl) rfl (B "isinstance" (by decide)) ZV (Zb (pv 4) (Zb (rh (v:=.ref lc) rfl xc.ZAD rfl) Ze))))))))
      ZW)) h5) (λu4 h4 e4=>?_)
  refine Zr ((Zf lh).drop 3) (Zd (Zx (i:=6) qX.nd rfl (Or.inr rfl) (eS DU hr rfl (Zb (pv 0) (Zb (pv 1) Ze)))) h4) (λu3 h3 e3=>?_);refine Zr ((Zf lh).drop 2) (Zd (Zoa rfl rfl (λE ac Cq hT hp=>(Zh (Zx (i:=3) qX.nd rfl (Or.inl rfl) (HY DW hT hr rfl (Zb (pv 0) (Zb (pv 2) Ze))))))
      (Zoz (i:=5) (rest:=[]) (λe=>(rh (v:=.ref iS) rfl xc.ZAC rfl)) qX.nd rfl rfl (λe=>(Zh (Zx (i:=4) qX.nd rfl (Or.inl rfl) (pv 5)))))) h3) (λu2 h2 e2=>?_)
  refine Zr ((Zf lh).drop 1) (Zd (Zx (i:=4) qX.nd rfl (Or.inl rfl) jx) h2) (λu1 h1 e1=>?_);refine Zr ((Zf lh).drop 0) (Zd (Zx (i:=3) qX.nd rfl (Or.inl rfl) jx) h1) (λu0 h0 e0=>?_);refine⟨u0,h0,?_⟩;have uz:∀{H1:Hp}{a:Addr}{f:FQ},Kx Pt H H1->fF H a f->fF H1 a f:=λk h=>wF h (xE T0 k);have oC:∀(d:Addr)(S:List (Pk×Nat))(H1 H2:Hp)(y3 y4 y5:Option V),Kx Pt H H1->bN H1 Pt ZJ->iU P w H1 d H2 S->hZ one fm S ->
      (((∀e∈S,e.2<=300)/\∀H3,Zj H1 H3->u5 { nx:=λ_ H'=>Q .aB H',rt:=Q } [some (.ref p),some (.ref o),some (.ref m),y3,y4,y5,some (.ref d),none] H3) \/
       ((∃e∈S,300<e.2)/\∃e oe,y4=some (.ref e)/\H1 e=some (Known e oe)/\oe.cls=.ref cI/\oe.dict=none/\∃vs,oe.data=.fields vs)) ->
      u4 { nx:=λ_ H'=>Q .aB H',rt:=Q } [some (.ref p),some (.ref o),some (.ref m),y3,y4,y5,some (.ref d),none] H2:=by
    intro d S H1 H2 y3 y4 y5 k1 T1 hA hI Zyp;obtain⟨ae,z1,z2,z3,z4⟩:=id hA;have hlen:=hI.len;have Au:ae.length=S.length:=z4.length;have nf:∀ob u,H d≠some (.aO ob u):=λob u z=>by
      have:=k1 d (.aO ob u) (λy=>by
        obtain⟨_,h,_⟩:=T1;rw[<- y,z2] at h;cases h) (λ_ y=>nomatch y) z
      rw[z2] at this;cases this
    refine Zo e4 ?_;refine⟨_,rfl,d,ae,rfl,z3.1,λob pl aM=>?_⟩;refine OE (ob:=ob) (λi us σ H4=>∃v0:Option V,σ =[v0,some (.ref d)]/\Zj (upd H2 d (.aO ob (Zv P w d ae))) H4/\H4 pl=some (.lst us)/\us.length<=i/\(us=[]↔∀e∈S.take i,e.2<=300))
      ⟨none,rfl,Zj.new aM,Za,bG _,λ_ e he=>(nomatch he),λ_=>rfl⟩ ?_ ?_ ?_
    . rintro i us σ H4 _ ⟨_,_,s4,h,_⟩;exact⟨s4 _ _ Za,h⟩
    . rintro i us kk b v σ H4 hi gn ⟨v0,rfl,s4,h,TN,hp⟩;obtain⟨e,he,ek,ev⟩:=z4.get i _ gn;have ek:kk=pk e.1:=ek;subst ek;have kf:∀b xs,H2 b=some (.tup xs)->H4 b=some (.tup xs):=λb xs e=>s4 _ _ (by rw[Zc (pJ e z3.1 λz=>nomatch z)];exact e)
      have pb:=(z3.2 _ (bW gn)).mono kf;have vE:valN ae (pk e.1)=some (.int (e.2:Int)):=by
        rcases z4.val e.1 with⟨h1,_⟩|⟨x,v',h1,h2,h3⟩
        . rw[Zk hI.nd (bW he)] at h1;cases h1
        . rw[Zk hI.nd (bW he)] at h1;injection h1 with h1;rw[h2,h3,h1]
      refine⟨_,rfl,_,rfl,d,b,ae,pk e.1,_,rfl,rfl,⟨.inr ⟨ob,s4 _ _ Za⟩,λx hx=>(z3.2 x hx).mono kf⟩,pb,vE,_,_,rfl,rfl,_,rfl,cJ (λc=>?_) (λc=>?_)⟩
      . have c:(300:Int)<(e.2:Int):=bC c;refine⟨_,rfl,h,by rw[bu];lia,CW.next hi ⟨_,rfl,s4.du aM,Za,by rw[cw];exact Nat.add_le_add_right TN 1,λz=>?_,λz=>?_⟩⟩
        . exact absurd z (by simp)
        . have:=z e (by rw[Zq he];exact cj _ (aI.mpr rfl));lia
      . have c : ¬ (300:Int)<(e.2:Int):=λz=>c (aJ z);refine CW.next hi ⟨_,rfl,s4,h,Nat.le_succ_of_le TN,?_⟩
        rw[hp,Zq he];constructor
        . intro z x hx;rcases bV.mp hx with hx|hx
          . exact z x hx
          . rw[aI.mp hx];lia
        . exact λz x hx=>z x (dN _ hx)
    rintro xW sD H4 ⟨v0,rfl,s4,h4,_,hp⟩;rw[Au,d_] at hp;refine⟨bG _,λp5 qg=>⟨pl,p5,xW,rfl,rfl,au.of (Zj.new qg _ _ h4),au.of Za,_,rfl,?_⟩⟩;have s5:Zj (upd H2 d (.aO ob (Zv P w d ae))) (upd H4 p5 (.lst [])):=s4.trans (Zj.new qg);rcases Zyp with⟨cu,fin⟩|⟨⟨e,he,Kj⟩,x,oe,rfl,hx,hc,hd,hf⟩
    . have uY:xW=[]:=hp.mpr cu;subst uY;refine dj ?_;refine⟨d,ob,ae,s5 _ _ Za,nf,?_⟩;exact fin _ (z1.trans (Zj.U5 z3.1 s5))
    . have uY:xW.isEmpty=false:=by
        cases xW with
        | nil =>
          have:=hp.mp rfl e he;lia
        | cons=>rfl
      rw[uY];refine wN ?_;have kA:∀b o,H1 b=some o->(upd H4 p5 (.lst [])) b=some o:=λb o e=>s5 _ _ (by
        rw[Zc (λy=>by rw[y,z2] at e;cases e)];exact z1 _ _ e)
      have oq:=kA _ _ hx;refine⟨_,rfl,x,oe,cI,cI,true,rfl,oq,hc,.inl ⟨rfl,rfl⟩,true,rfl,wN ?_⟩;refine⟨_,rfl,x,oe,cI,lc,false,rfl,oq,hc,.inr (.inr ⟨xc.ZAL,xc.Zv9.cl,xc.ZAo,rfl,"place",hd,hf,xc.Zw9,xc.ZAP⟩),false,rfl,?_⟩;exact Q1 _ (λb o n1 n2 e=>kA _ _ (k1 b o n1 n2 e)) (T1.same kA)
  have stB:∀(H1:Hp)(e:Addr)(oe:Obj)(y5:Option V)(g:Gs),Kx Pt H H1->bN H1 Pt ZJ->H1 e=some (Known e oe)->oe.cls=.ref cI->oe.dict=none->(∃vs,oe.data=.fields vs)->f6 one.ts one.qs fm g->g.tl=[]->(∃b∈g.bl,∀w,(b,w)∉g.sl)->u3 { nx:=λ_ H'=>Q .aB H',rt:=Q } [some (.ref p),some (.ref o),some (.ref m),some .aB,some (.ref e),y5,none,none] H1:=by
    intro H1 e oe y5 g k1 T1 he hc hd hf aj cU dm;refine Zo e3 ?_;refine⟨_,rfl,_,rfl,p,o,one,fm,rfl,uz k1 hF,uz k1 hO,S1,S2,λd S H2 hA hI hC=>?_⟩;show u4 _ _ _;exact oC d S H1 H2 _ _ _ k1 T1 hA hI (.inr ⟨hI.great hC aj cU dm,e,oe,rfl,he,hc,hd,hf⟩)
  have stA:∀(H1:Hp)(r:Addr)(zs:List V)(es:List (Pk×Wd))(g:Gs),Kx Pt H H1->bN H1 Pt ZJ->f6 one.ts one.qs fm g->g.tl=[]->(∀b∈g.bl,∃w,(b,w)∈g.sl)->H r=none->H1 r=some (.lst zs)->f_ H1 zs es->es.Perm g.sl->es.Pairwise (λa b=>ax.iV b.1 a.1=false)->(∀b o,H b=some o->b≠Pt->H1 b=some o)->u3 { nx:=λ_ H'=>Q .aB H',rt:=Q } [some (.ref p),some (.ref o),some (.ref m),some (.ref r),some .aB,none,none,none] H1:=by
    intro H1 r zs es g k1 T1 aj cU dm hr er KP dH jc sT;have hrP:r≠Pt:=λx=>by
      rw[x] at hr;obtain⟨_,h,_⟩:=T0;rw[h] at hr;cases hr
    have hG:=Q4 aj cU dm (eY S1 S2) dH;have rY:(es.map (·.1)).Pairwise (λa b=>ax.iV a b=true):=ax.CZ.strict (iK.mpr jc) hG.nd;refine Zo e3 ?_;refine⟨_,rfl,_,rfl,p,o,one,fm,rfl,uz k1 hF,uz k1 hO,S1,S2,λd S H2 hA hI hC=>?_⟩;have cu:=hI.eY hC aj cU dm;show u4 _ _ _;refine oC d S H1 H2 _ _ _ k1 T1 hA hI (.inl ⟨cu,λH3 s3=>?_⟩);refine Zo e5 ?_;refine⟨_,rfl,r,zs,es,rfl,s3 _ _ er,KP.keep s3,hG.len,rY,λx hx=>(hG.ok x hx).2,λdl H5 wZ=>?_⟩;show u6 _ _ _;obtain⟨gR,s5,J_,D0,JV⟩:=id wZ;refine Zo e6 ?_;have k5:Kx Pt H H5:=λb o n1 n2 e=>s5 _ _ (s3 _ _ (k1 b o n1 n2 e));refine⟨_,rfl,rfl,false,rfl,dj ?_⟩;refine⟨_,rfl,rfl,false,rfl,dj ?_⟩;refine⟨_,rfl,_,rfl,_,rfl,p,o,dl,one,fm,gR,es,rfl,uz k5 hF,uz k5 hO,S1,S2,D0,JV.keep λ_ _ ⟨l,h1,h2,_⟩=>⟨l,h1,h2⟩,hG,λH6 s6=>⟨true,rfl,dj ?_⟩⟩;show u7 _ _ _;have xP:Zj H1 H6:=λb o e=>s6 _ _ (s5 _ _ (s3 _ _ e));have st8:∀(H7:Hp),(∀b o,b≠r->H6 b=some o->H7 b=some o)->u8 { nx:=λ_ H'=>Q .aB H',rt:=Q } [some (.ref p),some (.ref o),some (.ref m),some (.ref r),some .aB,none,some (.ref d),some (.ref dl)] H7:=by
      intro H7 s7;have LU:h9 Pt H H7:=λb o n e=>s7 _ _ (λz=>by rw[z,hr] at e;cases e) (xP _ _ (sT b o e n));have T7:bN H7 Pt ZJ:=T1.keep (λps e=>s7 _ _ hrP.symm (xP _ _ e)) λb o u e=>s7 _ _ (λz=>by rw[z,er] at e;cases e) (xP _ _ e);have kx7:Kx Pt H H7:=λb o n1 _ e=>LU b o n1 e;have K7:gK CM H7 m fm:=(hK.U6 (Pt:=Pt) λb o e n z=>by
        obtain⟨_,h,_⟩:=T0;rw[z,h] at e;injection e with e;exact n _ e.symm).same λb o e=>by
          dsimp only at e
          split at e
          . cases e
          . rename_i n
            exact LU b o n e
      refine Zo e8 ?_;refine⟨_,rfl,_,rfl,p,m,one,fm,rfl,uz kx7 hF,K7,S2.len,by have:=S1.len.2.1;lia,tV S1.len.2.2.2,λq hq=>(S1.qs q hq).2.2.2.2.2.2,eY S1 S2,T7,λr2 vo n_ g2 H8 AB KZ J6 LV T8 r8 er2 Zzz Zzi ZzD=>?_,λg2 H8 AB KZ J6 LV T8=>?_⟩
      . have eI:=Q4 AB KZ J6 (eY S1 S2) Zzi;have Zzm:(n_.map (·.1)).Pairwise (λa b=>ax.iV a b=true):=ax.CZ.strict (iK.mpr ZzD) eI.nd;refine⟨r2,vo,n_,rfl,er2,Zzz,eI.len,Zzm,λx hx=>(eI.ok x hx).2,λd2 H9 DZ=>?_⟩;obtain⟨kv2,s9,hd9,Ad,Ta⟩:=id DZ;have Ln:∀b o,b≠r->b≠Pt->H6 b=some o->H9 b=some o:=λb o n1 n2 e=>s9 _ _ (LV b o n2 (s7 b o n1 e));have nP:∀b o,H6 b=some o->(∀ps,o ≠ .bR ps)->b≠Pt:=λb o e n z=>by
          obtain⟨ps,h,_⟩:=T1;rw[z,xP _ _ h] at e;injection e with e;exact n _ e.symm
        have DL:=xP _ _ er;have nR:∀b o,H6 b=some o->(∀ys,o ≠ .lst ys)->b≠r:=λb o e n z=>by
          rw[z,DL] at e;injection e with e;exact n _ e.symm
        have Jn:=s6 _ _ D0.1;have dl9:dP P w H9 dl gR:=(ZZ D0 ((Ln _ _ (nR _ _ Jn λ_ z=>nomatch z) (nP _ _ Jn λ_ z=>nomatch z) Jn).trans D0.1.symm) λb xs e=>by
          have e:=s6 _ _ e;exact Ln _ _ (nR _ _ e λ_ z=>nomatch z) (nP _ _ e λ_ z=>nomatch z) e).r
        refine⟨_,rfl,d2,dl,rfl,rfl,⟨kv2,gR,Ad.r,dl9,by rw[Ta.length,JV.length,eI.ZAl hG],λx hx=>?_⟩,?_⟩
        . obtain⟨i,hi⟩:=fc.mp hx;obtain⟨e,he,ek,c,ec,hc,_⟩:=Ta.get i _ hi;have As:(e.1,e.2)∈es:=eI.sub hG (show(e.1,e.2)∈n_ from bW he);rcases JV.val e.1 with⟨h1,_⟩|⟨w',v',h1,h2,c',h3,h4,h5⟩
          . rw[Zk hG.nd As] at h1;cases h1
          . rw[Zk hG.nd As] at h1;injection h1 with h1;subst h1;refine⟨c,c',e.2,ec,by rw[ek,h2,h3],hc,?_⟩;have h4:=s6 _ _ h4;refine Ln _ _ (λz=>?_) (nP _ _ h4 λ_ z=>nomatch z) h4
            rw[z,s3 _ _ er] at h5;cases h5
        . exact Q1 H9 (λb o n1 _ e=>s9 _ _ (LV b o n1 (LU b o n1 e))) (T8.same s9)
      . obtain⟨x,hx,Kj⟩:=hI.great hC AB KZ J6;have:=cu x hx;lia
    refine Zo e7 ?_;have DL:=xP _ _ er;exact⟨_,rfl,.inl ⟨rfl,_,au.of DL⟩,r,zs,rfl,rfl,DL,st8 _ λb o n e=>by rw[Zc n];exact e⟩
  refine Zo e0 ?_;show u1 _ _ _;refine Zo e1 ?_;show u2 _ _ _;refine Zo e2 ?_;refine⟨λav C d H'=>av=[some (.ref p),some (.ref o),some (.ref m),some .aB,some .aB,none,none,none]/\C=.ref cI/\d=none/\h9 Pt H H'/\bN H' Pt ZJ/\∃g,f6 one.ts one.qs fm g/\g.tl=[]/\∃b∈g.bl,∀w,(b,w)∉g.sl,?_,?_⟩
  . refine⟨_,rfl,_,rfl,p,m,one,fm,rfl,hF,hK,S2.len,by have:=S1.len.2.1;lia,tV S1.len.2.2.2,λq hq=>(S1.qs q hq).2.2.2.2.2.2,eY S1 S2,T0,λr zs es g H' aj cU dm sT T' hr er KP dH jc=>?_,λg H' aj cU dm sT T'=>⟨rfl,rfl,rfl,sT,T',g,aj,cU,dm⟩⟩;exact stA H' r zs es g (λb o n1 _ e=>sT b o n1 e) T' aj cU dm hr er KP dH jc (λb o e n1=>sT b o n1 e)
  . rintro av C d H' e oe ⟨rfl,rfl,rfl,sT,T1,g,aj,cU,dm⟩ he hc hd hf;have kE:∀b o,(∀F,o ≠ .ext F)->H' b=some o->upd H' e (Known e oe) b=some o:=λb o n h=>by
      rw[Zc (λz=>by
        rw[z,he] at h;injection h with h;exact n _ h.symm)]
      exact h
    have kx:Kx Pt H (upd H' e (Known e oe)):=λb o n1 n2 h=>kE _ _ n2 (sT b o n1 h);have T2:bN (upd H' e (Known e oe)) Pt ZJ:=T1.keep (λps h=>kE _ _ (λ_ z=>nomatch z) h) λb o u h=>kE _ _ (λ_ z=>nomatch z) h
    have e3:(upd H' e (Known e oe)) e=some (Known e oe):=Za;refine⟨[iS],cI,λ_=>true,.one xc.Zv4,hc,?_,rfl,e3,?_⟩
    . intro D hD;obtain rfl:=aI.mp hD;exact xc.ZAn
    exact⟨_,rfl,stB _ e oe none g kx T2 e3 hc hd hf aj cU dm⟩
theorem gK.kx{C:Addr}{m:Addr}{f:FQ}(T:bN H Pt ZJ)(k:Kx Pt H H')(h:gK C H m f):gK C H' m f:=by
 obtain⟨dx,h1,h2,d,mm,e1,e2,e3,e4,e5⟩:=h;have k:∀b o,H b=some o->(∀ps,o ≠ .bR ps)->(∀F,o ≠ .ext F)->H' b=some o:=λb o e n1 n2=>k b o (λz=>by
  obtain⟨_,h,_⟩:=T;rw[z,h] at e;injection e with e;exact n1 _ e.symm) n2 e
 refine⟨dx,h1,h2,d,mm,k _ _ e1 (λ_ z=>nomatch z) (λ_ z=>nomatch z),k _ _ e2 (λ_ z=>nomatch z) (λ_ z=>nomatch z),k _ _ e3 (λ_ z=>nomatch z) (λ_ z=>nomatch z),k _ _ e4 (λ_ z=>nomatch z) (λ_ z=>nomatch z),λt=>?_,e5.2⟩
 rcases e5.1 t with h1|⟨l,zs,g1,g2,g3⟩
 .exact .inl h1
 .exact .inr ⟨l,zs,g1,k _ _ g2 (λ_ z=>nomatch z) (λ_ z=>nomatch z),g3.keep λb xs e=>k b _ e (λ_ z=>nomatch z) λ_ z=>nomatch z⟩
theorem Kx.trans{H3:Hp}(a:Kx Pt H1 H2)(b:Kx Pt H2 H3):Kx Pt H1 H3:=λx o n1 n2 e=>b x o n1 n2 (a x o n1 n2 e)
theorem Kx.of(s:Zj H1 H2):Kx Pt H1 H2:=λx o _ _ e=>s x o e
theorem Zol{fg fh:Addr}(B:∀x∈eG,mg x=none)(uv:tN K fg)(uw:tN K fh)(DT:fO P w K mg base "_law_shape" ["_law_script","_law_side"] 2 (Po K)) (DP:qS P w K mg base fg "Kinds" ["self","form"] 1 (zo K fg)) (JC:qS P w K mg base fh "Others" ["self","form"] 1 (zo K fh)) (z7:fO P w K mg base "_law_told" ["_law_one","_law_other","_law_measure"] 7 (Sp.or (zb P w fg Pt) (zb P w fh Pt))) (F:ci K "law" "law" pI f fd):br P w K mg base cA 8 f fd ["_law_script"] (Fg.Dk K [Pt]):=by
 refine F.ok zB (λvs H Q E h=>?_) (λbg A outer s H vs Q E hr h=>?_)
 .obtain⟨a,ns,rfl,_⟩:=h;rfl
 obtain⟨a,ns,rfl,hS,pT,hP,q⟩:=h;have cf:=nJ hr;refine Zr ((Zf pI).drop 4) (Zh (Z1 (Dv (eS z7 hr rfl (Zb (pv 2) (Zb (pv 1) (Zb (Df JC hr rfl (Zb (pv 1) Ze)) Ze)))) (Dq (eS z7 hr rfl (Zb (pv 1) (Zb (pv 1) (Zb (Df DP hr rfl (Zb (pv 1) Ze)) Ze)))))))) (λu4 h4 e4=>?_);refine Zr ((Zz ((Zf pI).getD 3 (.Pass ⟨0,0,0,0⟩))).drop 0) (Zh (cR (mi (iT (eS z7 hr rfl (Zb (pv 4) (Zb (pv 2) (Zb (pv 3) Ze)))) (λ_=>rfl)))
   (Zh (Z1 jU))
   ZW)) (λVA Aa zY=>?_)
 refine Zr ((Zf pI).drop 3) (Zd (gG fX rfl (nO (eU (Zb (pv 1) (Zb (pv 2) (Zb (pv 1) Ze))))) (Zt (i:=4) zB.nd rfl (Or.inl rfl))
   Aa) h4) (λu3 h3 e3=>?_)
 refine Zr ((Zf pI).drop 2) (Zd (Zx (i:=3) zB.nd rfl (Or.inl rfl) (Df DP hr rfl (Zb (pv 2) Ze))) h3) (λu2 h2 e2=>?_);refine Zr ((Zf pI).drop 1) (Zd (Zx (i:=2) zB.nd rfl (Or.inl rfl) (eS DT hr rfl (Zb (pv 0) (Zb Zg Ze)))) h2) (λu1 h1 e1=>?_);refine Zr ((Zf pI).drop 0) (Zd (Zx (i:=1) zB.nd rfl (Or.inl rfl) (eS DT hr rfl (Zb (pv 0) (Zb Zg Ze)))) h1) (λu0 h0 e0=>?_);refine⟨u0,h0,?_⟩;refine Zo e0 ?_;refine⟨_,rfl,a,ns,0,rfl,hS,pT,by decide,by decide,λr1 f1 H1 s1 F1 L1=>?_⟩;show u1 _ _ _;refine Zo e1 ?_;refine⟨_,rfl,a,ns,1,rfl,s1.seq hS,pT,by decide,by decide,λr2 f2 H2 s2 F2 B8=>?_⟩;have mC:=s2 _ _ (s1 _ _ (hP Pt (aI.mpr rfl)));have F1:=F1.same s2;have E2:=L1.E2;have ZDn:=B8.E2;show u2 _ _ _;refine Zo e2 ?_;refine⟨_,rfl,λx4 d4 oq An Kw=>⟨x4,r2,d4,f2,rfl,Za,F2.same (making oq An Kw),by lia,λH4 kb4 K4=>⟨rfl,?_⟩⟩⟩;have t4:=made oq An kb4;have F1:=F1.same t4;have F2:=F2.same t4;have T4:bN H4 Pt ZJ:=bN.new _ (t4 _ _ mC);show u3 _ _ _;have oC:∀(H5:Hp)(y4:Option V),Kx Pt H4 H5->bN H5 Pt ZJ->u4 { nx:=λ_ H'=>Q .aB H',rt:=Q } [some (.ref a),some (.ref r1),some (.ref r2),some (.ref x4),y4] H5:=by
  intro H5 y4 k5 T5;have F1:=wF F1 (xE T4 k5);have F2:=wF F2 (xE T4 k5);refine Zo e4 ?_;refine⟨_,rfl,_,rfl,_,rfl,λx5 d5 EC J_ hn5=>⟨x5,r1,d5,f1,rfl,Za,F1.same (making EC J_ hn5),by lia,λH6 kb6 K6=>⟨rfl,?_⟩⟩⟩;have t6:=made EC J_ kb6;have T6:=T5.same t6;refine .inr ⟨r2,r1,x5,f2,f1,rfl,F2.same t6,F1.same t6,K6,B8,L1,T6,λH7 k7 T7=>⟨true,rfl,wN ?_⟩⟩;have F1:=wF (F1.same t6) (xE T6 k7);refine⟨_,rfl,_,rfl,_,rfl,λx8 d8 Ux To hn8=>⟨x8,r1,d8,f1,rfl,Za,F1.same (making Ux To hn8),by lia,λH9 EJ K9=>⟨rfl,?_⟩⟩⟩;have t9:=made Ux To EJ;exact .inl ⟨r1,r1,x8,f1,f1,rfl,F1.same t9,F1.same t9,K9,L1,L1,T7.same t9,λlW _ _=>q lW⟩
 refine Zo e3 ?_;refine⟨_,rfl,_,rfl,_,rfl,by show(3:Nat)<=sizeLine;decide,λl hl=>⟨l,rfl,⟨_,au.of Za⟩,pH (K:=K) (a:=l) (xs:=[.ref r1,.ref r2,.ref r1]) (λi σ H5=>∃y4:Option V,σ =[some (.ref a),some (.ref r1),some (.ref r2),some (.ref x4),y4]/\Kx Pt H4 H5/\bN H5 Pt ZJ/\H5 l=some (.lst [.ref r1,.ref r2,.ref r1]))
  ⟨none,rfl,Kx.of (Zj.new hl),T4.same (Zj.new hl),Za⟩ ?_ ?_ ?_⟩⟩
 .rintro i σ H5 _ ⟨_,_,_,_,e5⟩;exact au.of e5
 .rintro i x σ H5 hx ⟨y4,rfl,k5,T5,e5⟩;have F1:=wF F1 (xE T4 k5);have F2:=wF F2 (xE T4 k5);have K5:=K4.kx T4 k5;have hlP:l≠Pt:=λz=>by
   obtain⟨_,h,_⟩:=T5;rw[<- z,e5] at h;cases h
  obtain⟨r,f,rfl,Fr,Lr⟩:∃r f,x=.ref r/\fF H5 r f/\iR f:=by
   have:x∈([.ref r1,.ref r2,.ref r1]:List V):=bW hx;simp only[a8,oV,o8] at this;rcases this with rfl|rfl|rfl
   .exact⟨r1,f1,rfl,F1,L1⟩
   .exact⟨r2,f2,rfl,F2,B8⟩
   .exact⟨r1,f1,rfl,F1,L1⟩
  refine Zo zY ?_;refine⟨_,rfl,_,rfl,_,rfl,.inl ⟨r,r2,x4,f,f2,rfl,Fr,F2,K5,Lr,B8,T5,λH6 k6 T6=>⟨true,rfl,dj ?_⟩⟩⟩;exact⟨_,rfl,k5.trans k6,T6,k6 _ _ hlP (λ_ z=>nomatch z) e5⟩
 .rintro σ H5 ⟨y4,rfl,k5,T5,_⟩;exact oC H5 y4 k5 T5
end
theorem Znk{P:aq}{w:ap}{K:ay}{mg:Str->Option aa}{fa f1 f2 f3 f4 f5 f7 f8 f9 f11 Js Jt Ju f15 f16 Jv f18 f19 f20 f21 f22 f23 SJ f26:Addr}{d1 d2 d3 d4 d5 d7 d8 d9 d11 d12 d13 Sj d15 d16 d17 d18 d19 d20 d21 d22 d23 d24 Sk:dy}(Tt:mg "law" = some (.ref fa))
  {iS lc cI:Addr} (xc:XC K mg iS lc cI)
  {fg fh fZ:Addr}
  (m1:GQ K mg "Kinds" fg) (uv:dQ.tN K fg)
  (m2:GQ K mg "Others" fh) (uw:dQ.tN K fh)
  (m3:GQ K mg "Growth" fZ) (aK:dQ.vZ K fZ)
  (F1:gE K mg "_law_cell" HH f1 d1)
  (F2:gE K mg "_law_tag" Ie f2 d2)
  (F3:gE K mg "_law_shape" Ho f3 d3)
  (F4:wc K fg "__init__" "Kinds.__init__" Cv f4 d4)
  (F5:wc K fg "nothing" "Kinds.nothing" G9 f5 d5)
  (M6:Meth K fh "nothing" f5)
  (F7:wc K fZ "__init__" "Growth.__init__" Zy f7 d7)
  (F8:gE K mg "kinds_above" Cs f8 d8)
  (F9:wc K fg "above" "Kinds.above" Ct f9 d9)
  (M10:Meth K fh "above" f9)
  (GR:gE K mg "rank_of_words" G_ f11 d11)
  (vX:wc K fZ "step" "Growth.step" ZS Js d12)
  (vY:wc K fZ "settle" "Growth.settle" Zn Jt d13)
  (qQ:gE K mg "grown" rc Ju Sj)
  {Zwa qw:Addr} (v_:Z_ K Sj Zwa qw)
  (GS:gE K mg "is_tag" HA f15 d15)
  (GU:gE K mg "grove_of" Hd f16 d16)
  (qR:gE K mg "table" zu Jv d17)
  (GV:gE K mg "_law_above" Hr f18 d18)
  (GW:gE K mg "_law_sizes" ZL f19 d19)
  (GX:gE K mg "_law_whole" Hy f20 d20)
  (GY:gE K mg "_law_list" HM f21 d21)
  (GZ:gE K mg "_law_lists" Z3 f22 d22)
  (G0:gE K mg "_law_good" Z0 f23 d23)
  (yN:gE K mg "_law_told" lh SJ d24)
  (N3:Meth K fh "__init__" f4)
  (G1:gE K mg "law" pI f26 Sk)
  (ZU:∃t:Tok,mg "LONGEST_TAG" = some (.int 8 t))
  (Cn:∃t:Tok,mg "MOST_STEPS" = some (.int 4000 t))
  (Co:∃t:Tok,mg "MOST_TAGS" = some (.int 300 t))
  (Cp:∃t:Tok,mg "MOST_TUPLES" = some (.int 64 t))
  (B:∀x∈eG,mg x=none) :
  ∃fd:dy,(∀(s:ag)(v:aa),x6 s fd ⟨[v],[]⟩ [("_law_script",v)])/\(∀p ∈ [qw],K.lookup p=none/\∃c,M5 K c p=true)/\∀base:Heap,K.In base->base.Ns mainGlobals mg->rE base mg->br P w K mg base cA 8 fa fd ["_law_script"] (Fg.Dk K [qw]):=by
 have e:=Tt.symm.trans G1.1;cases e;refine⟨Sk,?_,bT.mpr ⟨⟨v_.2.2.2,_,v_.2.2.1⟩,bU _⟩,λbase _ _ bm=>?_⟩
 .obtain⟨_,_,_,_,_,_,_,_,_,rfl,_⟩:=G1.2.ex;exact λs v=>.of_eq rfl
 have wX:=jT P w base F1 (Zi6 B  F1.2) F1.2.bn;have JG:=jT P w base F2 (Zlh B  F2.2) F2.2.bn;have DT:=jT P w base F3 (Zit B wX JG F3.2) F3.2.bn;have DP:qS P w K mg base fg "Kinds" ["self","form"] 1 (dQ.zo K fg):=⟨⟨f4,_,Oi B uv  F4.2,F4.2.bn,⟨m1.2.1,F4.1.at_,F4.1.fn,m1.2.2⟩,m1.1⟩⟩;have Zxi:jr P w K mg base fg "nothing" ["self"] 1 (dQ.CA fg):=⟨⟨f5,_,Oc B uv  F5.2,F5.2.bn,F5.1⟩⟩;have Zxm:jr P w K mg base fh "nothing" ["self"] 1 (dQ.CA fh):=⟨⟨f5,_,Oc B uw  F5.2,F5.2.bn,M6⟩⟩;have JA:qS P w K mg base fZ "Growth" ["self","form","measure"] _ (dQ.Di P w fZ fg):=⟨⟨f7,_,Of B aK uv.cls Zxi F7.2,F7.2.bn,⟨m3.2.1,F7.1.at_,F7.1.fn,m3.2.2⟩,m3.1⟩⟩;have Zxe:qS P w K mg base fZ "Growth" ["self","form","measure"] _ (dQ.Di P w fZ fh):=⟨⟨f7,_,Of B aK uw.cls Zxm F7.2,F7.2.bn,⟨m3.2.1,F7.1.at_,F7.1.fn,m3.2.2⟩,m3.1⟩⟩;have DR:=jT P w base F8 (Zd2 B  F8.2) F8.2.bn;have Zxh:jr P w K mg base fg "above" ["self","tag","inner","rest"] 2 (dQ.CI fg):=⟨⟨f9,_,N_ B uv DR F9.2,F9.2.bn,F9.1⟩⟩;have Zxl:jr P w K mg base fh "above" ["self","tag","inner","rest"] 2 (dQ.CI fh):=⟨⟨f9,_,N_ B uw DR F9.2,F9.2.bn,M10⟩⟩;have rK:=jT P w base GR (ZcV B  GR.2) GR.2.bn;have z5:jr P w K mg base fZ "step" ["self","rule","within","behind"] _ (dQ.zF P w fZ fg):=⟨⟨Js,_,N9 B Cn Co aK uv.cls Zxh rK vX.2,vX.2.bn,vX.1⟩⟩;have Zxg:jr P w K mg base fZ "step" ["self","rule","within","behind"] _ (dQ.zF P w fZ fh):=⟨⟨Js,_,N9 B Cn Co aK uw.cls Zxl rK vX.2,vX.2.bn,vX.1⟩⟩;have JB:jr P w K mg base fZ "settle" ["self","pair"] _ (dQ.CG P w fZ fg):=⟨⟨Jt,_,Ob B Cp aK z5 vY.2,vY.2.bn,vY.1⟩⟩;have Zxf:jr P w K mg base fZ "settle" ["self","pair"] _ (dQ.CG P w fZ fh):=⟨⟨Jt,_,Ob B Cp aK Zxg vY.2,vY.2.bn,vY.1⟩⟩;have JD:tL P w K mg base "grown" ["form","measure"] _ (dQ.C7 P w fZ fg cI qw):=⟨⟨Ju,_,Qk B bm v_.1 v_.2.2.1 xc aK JA JB rK qQ.2,qQ.2.bn,qQ.2.kp,qQ.1⟩⟩;have Zxn:tL P w K mg base "grown" ["form","measure"] _ (dQ.C7 P w fZ fh cI qw):=⟨⟨Ju,_,Qk B bm v_.1 v_.2.2.1 xc aK Zxe Zxf rK qQ.2,qQ.2.bn,qQ.2.kp,qQ.1⟩⟩;have JE:=jT P w base GS (Zkk B ZU  GS.2) GS.2.bn;have DQ:=jT P w base GU (Zgk B JE GU.2) GU.2.bn;have DW:tL P w K mg base "table" ["form","measure"] _ (dQ.CS P w fg cI qw):=⟨⟨Jv,_,Qr B aK JD DQ qR.2,qR.2.bn,qR.2.kp,qR.1⟩⟩;have Zxo:tL P w K mg base "table" ["form","measure"] _ (dQ.CS P w fh cI qw):=⟨⟨Jv,_,Qr B aK Zxn DQ qR.2,qR.2.bn,qR.2.kp,qR.1⟩⟩;have wW:=jT P w base GV (ZhR B  GV.2) GV.2.bn;have DU:=jT P w base GW (Zig B wW GW.2) GW.2.bn;have DV:=jT P w base GX (Zh2 B  GX.2) GX.2.bn;have JF:=jT P w base GY (Zjz B  GY.2) GY.2.bn;have z6:=jT P w base GZ (Zh0 B DV JF GZ.2) GZ.2.bn;have DS:=jT P w base G0 (Zjv B wW G0.2) G0.2.bn;have z7:fO P w K mg base "_law_told" ["_law_one","_law_other","_law_measure"] _ (Sp.or (dQ.zb P w fg qw) (dQ.zb P w fh qw)):=⟨⟨SJ,_,br.or (Pu B xc DW DU z6 DS yN.2) (Pu B xc Zxo DU z6 DS yN.2),yN.2.bn,yN.2.kp,yN.1⟩⟩;have JC:qS P w K mg base fh "Others" ["self","form"] 1 (dQ.zo K fh):=⟨⟨f4,_,Oi B uw  F4.2,F4.2.bn,⟨m2.2.1,N3.at_,N3.fn,m2.2.2⟩,m2.1⟩⟩;exact Zol B uv uw DT DP JC z7 G1.2
theorem walk{l:Xp}{q:aq}{loose:List Str}{XP:(Str->Option aa)->Heap->Prop}{YP:ap->Heap->Prop}{d:DefRec}{K:FU->ay}{ts:List Addr}(hn:l.most=some 63)(Ap:d.params.defaults=[])
  (hY:∀(w:ap)(h:Heap),YP w h->(K w.params).In h/\∀p∈ts,h.get? p=some (PySem.W.tabObj #[]))
  (F:∀(w:ap)(mg:Str->Option aa)(fa:Addr)(h:Heap),(K w.params).In h->h.Ns mainGlobals mg->mg d.name=some (.ref fa) ->
   ∃fd:dy,(∀(s:ag)(u:aa),x6 s fd ⟨[u],[]⟩ [("_law_script",u)])/\(∀p∈ts,(K w.params).lookup p=none/\∃c,M5 (K w.params) c p=true)/\∀base:Heap,(K w.params).In base->base.Ns mainGlobals mg->rE base mg->br l.prog w (K w.params) mg base cA 8 fa fd ["_law_script"] (Fg.Dk (K w.params) ts)) :
  Xq q loose XP YP l.row.toRowW d [] (λf vs=>Nf f vs) :=
 L2.Zlf (n:=63) (k:=8) (x := "_law_script") (sp:=λw=>Fg.Dk (K w.params) ts) hn (by decide) Ap ⟨rfl,by decide,by decide,rfl⟩ hY F λ_ _ a ns hl ht hS=>⟨a,ns,rfl,hS,hl,ht,λ_=>rfl⟩
end dQ
namespace PySem.W.Fast
def tw18304782089504652066:=0
def tw15601025731482637186:=0
def tw8884688041023675978:=0
def tw9500932064259355155:=0
def tw10992187125204552873:=0
def tw12714218515717449518:=0
def tw1251999077904052949:=0
def tw15651624848967420290:=0
def tw8544066403342905094:=0
def tw52335637938897820:=0
def tw17301949430292786746:=0
def tw13334585853406951751:=0
def tw4751474154700089942:=0
def tw16215965095297342001:=0
def tw5858352668340924058:=0
def tw10909936616320812757:=0
def tw17152848854281383775:=0
def tw8743801662570037762:=0
def tw2345171522296728495:=0
def tw18360445590812507649:=0
def tw4045901355029167298:=0
def tw1091252592234650576:=0
def tw4557653418683606344:=0
def tw12960500918147654705:=0
def tw4721696734582909363:=0
def tw9665992705304679367:=0
def tw17131130693459590262:=0
def tw12975745852700257156:=0
def tw10727179192312992884:=0
def tw966112615079689822:=0
def tw3990409381116241431:=0
def tw6367935687483590885:=0
def tw1925571268151483248:=0
def tw7623335276404591679:=0
def tw17987395749651917489:=0
def tw8090705002697141531:=0
def tw3381164008020772092:=0
def tw908155499052360450:=0
def tw7648731264845075377:=0
def tw8683602957401095278:=0
def tw15927733807760906035:=0
def tw7624757480711816353:=0
def tw18301698645702334972:=0
def tw13002223622508946458:=0
def tw16619363220956717083:=0
def tw6354069877874155542:=0
def tw2133652835157889279:=0
def tw5798767999717148375:=0
def tw16443371834149777521:=0
def tw18301809346663219374:=0
def tw298994851318169454:=0
def tw8502393278071038796:=0
def tw8751208028929336310:=0
def tw9305685696606725871:=0
def tw9118824472438513:=0
def tw2845546965858572355:=0
def tw15129543302824733663:=0
def tw7406988144173933814:=0
def tw11721988319287635794:=0
def tw15886209722056705035:=0
def tw17889952409997250244:=0
def tw7016084169521000462:=0
def tw18099264833114326089:=0
def tw9999518922360109760:=0
def tw6053464145377167217:=0
def tw18311322525582686386:=0
def tw8045083674870296766:=0
def tw6131275412746750455:=0
def tw7556885907407861493:=0
def tw16720453933631590814:=0
def tw6481407653629000588:=0
def tw10661636207190723289:=0
def tw14063124721266446294:=0
def tw5873660819401176038:=0
def tw13889938670296559890:=0
def tw977759359776042133:=0
def tw2210325553804354724:=0
def tw3692260570640199834:=0
def tw5880863327885369039:=0
def tw17329781853663261038:=0
def tw6454422312907666551:=0
def tw12696826343985710527:=0
def tw2747688414183789409:=0
def tw628151385182401055:=0
def tw13658875658220307818:=0
def tw8505467151042653617:=0
def tw14434922447462046767:=0
def tw6263221300174939344:=0
def tw1371336130253143788:=0
def tw75959976221107895:=0
def tw13038052443855121509:=0
def tw17366118217230876978:=0
def tw4983990612060779780:=0
def tw11670107725779413743:=0
def tw3740537819919182994:=0
def tw13315843070437518391:=0
def tw15375596106415013228:=0
def tw11002340665188713536:=0
def tw15945952604367068112:=0
def tw1457048257981190159:=0
def tw3091035034586960797:=0
def tw2343829749043676634:=0
def tw1724417833756221:=0
def tw17549365207114522133:=0
def tw3332582960907985170:=0
def tw5107833644744974394:=0
def tw17990699445511301738:=0
def tw10748522476958653918:=0
def tw10718692478118445770:=0
def tw17227688586783585079:=0
def tw2539160124082159655:=0
def tw12717857695279812810:=0
def tw11766191646315027375:=0
def tw2680078747309207920:=0
def tw9167300934303389996:=0
def tw1283116845773806719:=0
def tw6114125270544053187:=0
def tw9212735436054348252:=0
def tw11512618410953000383:=0
def tw632445435918776250:=0
def tw17112176313939369582:=0
def tw15882511086476445857:=0
def tw6092510070829479068:=0
def tw5809743320119893251:=0
def tw6508363394208758376:=0
def tw7846269784423131495:=0
def tw10832121503990111577:=0
def tw11575267843104782707:=0
def tw15235671975682250613:=0
def tw5724309466491346368:=0
def tw4076465201108857281:=0
def tw2864625136070687492:=0
def tw7075672828540147273:=0
def tw6957151586631639517:=0
def tw11727935229949021073:=0
def tw5610991490838485979:=0
def tw14734173717468069650:=0
def tw11896013303137297193:=0
def tw1036862878495736267:=0
def tw2365700878879915520:=0
def tw9209809015527543236:=0
def tw2428698425626587936:=0
def tw8977274259902975355:=0
def tw11103560509608004331:=0
def tw302322058475946814:=0
def tw7134519403425269144:=0
def tw14389515669300827435:=0
def tw14275917141390798990:=0
def tw9317800009991343905:=0
def tw18343197107861098989:=0
def tw14884190948247376492:=0
def tw9466334606333820140:=0
def tw5182624568289393753:=0
def tw18012851411982923746:=0
def tw10826716302038927485:=0
def tw9188374065982129057:=0
def tw6118495061693597706:=0
def tw14817074998001903177:=0
def tw13536666539596954106:=0
def tw1267218648202853899:=0
def tw6174671692617560863:=0
def tw3416720631495282443:=0
def tw14067787187862831885:=0
def tw12168142958252819781:=0
def tw1593734134209475020:=0
def tw16213063291943804228:=0
def tw4907994943368068748:=0
def tw6963238531423789113:=0
def tw4967739367792406534:=0
def tw3822484094435026063:=0
def tw212640383622702306:=0
def tw11395281246583414515:=0
def tw4407834175499928997:=0
def tw5646696274655782497:=0
def tw14209076477636912864:=0
def tw17488209166569236120:=0
def tw16628309872675132825:=0
def tw5555158986893283943:=0
def tw16174751764815527105:=0
def tw2070037149486188469:=0
def tw13983725164705283304:=0
def tw80551583099505935:=0
def tw12687609429150004488:=0
def tw11909943274511042934:=0
def tw7841120765847678776:=0
def tw8961888627399166251:=0
def tw16527424126229759965:=0
def tw3761242871592671157:=0
def tw11599533999376370418:=0
def tw6672584980206920978:=0
def tw8083909844441547724:=0
def tw9644412641098845446:=0
def tw2687143578327568861:=0
def tw13138584549022430500:=0
def tw12634513616179793213:=0
def tw10146274752582748332:=0
def tw5798723271576426523:=0
def tw6940917286391541399:=0
def tw6674337653278182711:=0
def tw1923580511242880192:=0
def tw11522990120557055678:=0
def tw377950074893490229:=0
def tw16160156654214154181:=0
def tw3795067588993873078:=0
def tw3794065650629752222:=0
def tw5670945652221197262:=0
def tw9573998180920672256:=0
def tw9686793821799763479:=0
def tw5775389830630798504:=0
def tw2581691748806138644:=0
def tw4884867189670015678:=0
def tw297399912030431412:=0
def tw2348822637658604780:=0
def tw14233017720985685562:=0
def tw10658217686645724279:=0
def tw10010938001516784273:=0
def tw11135113017789530059:=0
def tw5609359323969945367:=0
def tw10545051846051498576:=0
def tw6026056618857118572:=0
def tw10946514994929563639:=0
def tw6911374095960081364:=0
def tw7363271819659210808:=0
def tw7999821572458029000:=0
def tw11568721033171950231:=0
def tw15395867731824665028:=0
def tw17394840104742702101:=0
def tw13986741561522669192:=0
def tw16827900425516349726:=0
def tw15006453412382842550:=0
def tw5229100442184994402:=0
def tw11255364300699097112:=0
def tw10668851211333184206:=0
def tw15512991114324791093:=0
def tw13094673798136559886:=0
def tw10898256666540912229:=0
def tw8026365465976611191:=0
def tw13868000868909778701:=0
def tw9456206356630358545:=0
def tw16756216163623663022:=0
def tw10793067170343773106:=0
def tw1734373256926224043:=0
def tw2899148961287161329:=0
def tw11362834462938082374:=0
def tw12135535461371951377:=0
def tw16826089494604394053:=0
def tw7905956120130497643:=0
def tw15247932806807862742:=0
def tw10720712274506075426:=0
def tw3559702161190050620:=0
def tw758148102772281779:=0
def tw13932865230865739721:=0
def tw10064115966538130222:=0
def tw18026510389979986743:=0
def tw5087532870808902765:=0
def tw17279205054045381161:=0
def tw10808377396826741248:=0
def tw10029988378632487192:=0
def tw9138065988514049382:=0
def tw14658315586933386664:=0
def tw8895058347288052925:=0
def tw4186961489559728338:=0
def tw5319015735451852331:=0
def tw2849245078812616932:=0
def tw3102727229369256604:=0
def tw10045266156690748170:=0
def tw16683195041186048190:=0
def tw6869576529773113903:=0
def tw2024958443166142487:=0
def tw9824301162866586391:=0
def tw4587128080458942045:=0
def tw5295962209012686601:=0
def tw17200035132528050633:=0
def tw14704545779591030583:=0
def tw12463015924579404147:=0
def tw9094823084476206265:=0
def tw6615517492788831170:=0
def tw8917779146168632076:=0
def tw3903638795887186494:=0
def tw10713598486713085878:=0
def tw4077522166834296662:=0
def tw7830270678274958257:=0
def tw8620383860461433702:=0
def tw16059181137674712689:=0
def tw2551113414490847181:=0
def tw9931683270927459238:=0
def tw12351603501235105472:=0
def tw5985660921769005695:=0
def tw17558457796593976116:=0
def tw14278467961423383026:=0
def tw4034957101122568491:=0
def tw17648417434377013829:=0
def tw14292084934537095798:=0
def tw658798276996184748:=0
def tw1516819122483733291:=0
def tw4609933490416979173:=0
def tw17371175869230190547:=0
def tw16538554715336787266:=0
def tw4483330323348462850:=0
def tw8800325084034868935:=0
def tw17461976774352811070:=0
def tw7933462014537124501:=0
def tw1567767306680254236:=0
def tw4813001296889095153:=0
def tw766519061612874798:=0
def tw13746385197034309446:=0
def tw4752128254896079531:=0
def tw11084074184934490293:=0
def tw13397480706268584134:=0
def tw9710384420139787270:=0
def tw17151645463354975537:=0
def tw9734912008533347556:=0
def tw10347690967081880445:=0
def tw8667779667842317893:=0
def tw11863540178245664111:=0
def tw6853757330637595175:=0
def tw1637934050811205870:=0
def tw1590345972902315511:=0
def tw12744038391551658612:=0
def tw12594236606067368838:=0
def tw17790090605938730091:=0
def tw7851958582704094579:=0
def tw18083878847608133312:=0
def tw12502195604047980015:=0
def tw1983828888710680011:=0
def tw1854028614996927688:=0
def tw4147065809859679456:=0
def tw12960285178517564294:=0
def tw2377229416389069163:=0
def tw4131876517342380536:=0
def tw16269669000969140278:=0
def tw17641658511356859088:=0
def tw10361387919814291925:=0
def tw15605438778573396502:=0
def tw12794286974604188924:=0
def tw1296255366907603761:=0
def tw9620432972760275340:=0
def tw15260973549481167379:=0
def tw6406569053576163250:=0
def tw13329416586651018279:=0
end PySem.W.Fast
open PySem PySem.W PyProof.Rows
open L2 (eF Rf)
set_option maxRecDepth 100000 in
theorem PySem.Challenge.cw_formgrove_k52_a_table_told_holds : PySem.Challenge.rw_formgrove_k52_a_table_told.Holds := by
 w_on;o_law;k_head;(case hw=>w_witness2)
 k_fill
 refine dQ.walk (l:=ZCt) rfl rfl (λw h Y=>⟨PySem.W.km_in_of Y,PySem.W.km_tabs_of Y⟩) ?F
 case F =>
  intro w mg fa h KX G uO;refine' dQ.Znk uO ⟨dC KX G ?_,dC KX G ?_,dC KX G ?_,⟨?_,?_,?_⟩,?_,?_,⟨?_,?_,?_⟩,⟨?_,?_,?_⟩,⟨?_,?_,?_⟩,⟨⟨_,_,_,_,_,_,_,_,_,_,_,_,_,_,_,?_⟩,⟨⟨_,_,_,_,_,_,_,_,_,?_,?_,?_,?_⟩⟩,?_,?_,?_⟩,?_,⟨?_,?_,?_,?_,?_,?_⟩,?_,?_,⟨?_,?_,?_,?_,?_⟩,?_,?_,?_,?_⟩ ⟨dC KX G ?_,?_,?_⟩ ⟨⟨?_,?_,?_,?_⟩,?_,?_,?_⟩ ⟨dC KX G ?_,?_,?_⟩ ⟨⟨?_,?_,?_,?_⟩,?_,?_,?_⟩ ⟨dC KX G ?_,?_,?_⟩ ⟨⟨?_,?_,?_,?_⟩,?_,?_,?_,?_,?_,?_,?_⟩ ⟨dC KX G ?_,eF ?_ ?_ ?_⟩ ⟨dC KX G ?_,eF ?_ ?_ ?_⟩ ⟨dC KX G ?_,eF ?_ ?_ ?_⟩ ⟨⟨?_,?_,?_⟩,eF ?_ ?_ ?_⟩ ⟨⟨?_,?_,?_⟩,eF ?_ ?_ ?_⟩ ⟨?_,?_,?_⟩ ⟨⟨?_,?_,?_⟩,eF ?_ ?_ ?_⟩ ⟨dC KX G ?_,eF ?_ ?_ ?_⟩ ⟨⟨?_,?_,?_⟩,eF ?_ ?_ ?_⟩ ⟨?_,?_,?_⟩ ⟨dC KX G ?_,eF ?_ ?_ ?_⟩ ⟨⟨?_,?_,?_⟩,eF ?_ ?_ ?_⟩ ⟨⟨?_,?_,?_⟩,eF ?_ ?_ ?_⟩ ⟨dC KX G ?_,eF ?_ ?_ ?_⟩ ⟨?_,⟨_,_,_,_,?_,?_⟩,?_,?_⟩ ⟨dC KX G ?_,eF ?_ ?_ ?_⟩ ⟨dC KX G ?_,eF ?_ ?_ ?_⟩ ⟨dC KX G ?_,eF ?_ ?_ ?_⟩ ⟨dC KX G ?_,eF ?_ ?_ ?_⟩ ⟨dC KX G ?_,eF ?_ ?_ ?_⟩ ⟨dC KX G ?_,eF ?_ ?_ ?_⟩ ⟨dC KX G ?_,eF ?_ ?_ ?_⟩ ⟨dC KX G ?_,eF ?_ ?_ ?_⟩ ⟨dC KX G ?_,eF ?_ ?_ ?_⟩ ⟨dC KX G ?_,eF ?_ ?_ ?_⟩ ⟨?_,?_,?_⟩ ⟨dC KX G ?_,eF ?_ ?_ ?_⟩ ⟨_,dC KX G ?_⟩ ⟨_,dC KX G ?_⟩ ⟨_,dC KX G ?_⟩ ⟨_,dC KX G ?_⟩ (Rf KX G ?Z)
  case Z=>(repeat' first|exact bU _|refine bT.mpr ⟨?_,?_⟩) <;> k_is
  any_goals first|k_is|rfl|kernel_rfl|decide|decide +kernel
