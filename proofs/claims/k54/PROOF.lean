import PyProof.Rows.All
import Wide.All
import OpenK.AllK
import PySem.Challenge.RW_creasecourt_k54_whole_ties_in_all_rows
open Option renaming some->b0,none->b3
open Bool renaming false->b5,true->dI
open Array renaming mk->Wa,toList_push->Xa,getElem?_toList->XD,toList_inj->XE,toList_append->XT,length_toList->YA,getElem?_eq_some_iff->Zx,replicate->a1c,toList_setIfInBounds->a1t,eraseIdxIfInBounds->a1L,toList_reverse->a2q,toList_extract->a2r,getElem_mem->a2Z,toList->a4z,getD->a5d,map->a5E
open Bool renaming and_eq_true->Vl,false_ne_true->Vm,false_eq_true->Vu,and_eq_true_iff->X6,not_true->YE,or_eq_true->YL,eq_iff_iff->Zi,not_eq_true'->ZI,not_false->a0g,false_or->a0v,or_false->a1U,and_true->a1V,false_and->a4i,and_false->a4j,true_and->a4y
open Classical renaming choose->Ys,choose_spec->YR
open False renaming elim->XO
open ForInStep renaming yield->Yz
open Int renaming toNat_natCast->WR,emod_lt_of_pos->Yh,emod_nonneg->YM,zero_add->Y2,le_of_lt->Z5,le_refl->a1g,natCast_add->a4g,mul_add->a5x
open List renaming length_map->U8,getElem?_eq_getElem->Vb,getElem?_eq_some_iff->Vc,length_append->Vh,size_toArray->Vi,prefix_refl->Vo,getD_eq_getElem?_getD->Vt,getElem?_map->Vx,getElem?_append_left->Vy,append_assoc->Vz,getElem?_append_right->VB,length_cons->VD,length_take->VG,map_map->VM,map_cons->VP,mem_map->VQ,mem_of_getElem?->VR,range->VS,mem_cons_of_mem->VU,take_append_drop->VY,map_append->VZ,getElem?_eq_none_iff->V0,set_cons_zero->V2,getElem?_set_ne->V3,mem_append->V4,length_drop->V5,mem_singleton->V8,set_cons_succ->Wb,pairwise_iff_getElem->We,mem_cons->Wf,all_cons->Wg,zipWith_cons_cons->Wh,mem_range->Wi,mem_cons_self->Wj,cons_append->Wm,getElem?_toArray->Wq,getD->Wt,getElem?_set_self->Wu,getElem_mem->Wx,mem_filter->Wy,toList_toArray->WE,nodup_cons->WG,nil_append->WH,length->WI,getElem?_take_of_lt->WK,mem_append_right->WO,append_nil->WQ,length_filter_le->WV,getElem?_reverse->WW,length_range->WY,pairwise_append->W2,take_of_length_le->W5,all_eq_true->W6,perm_append_comm->Xd,getElem?_eq_none->Xe,length_nil->Xi,take_length->Xk,length_eq_zero_iff->Xl,pairwise_map->Xv,drop_zero->Xw,length_reverse->XA,drop_eq_getElem_cons->XC,find?_eq_none->XF,replicate->XI,getElem?_of_mem->XJ,length_set->XR,map_congr_left->XU,filterMap_cons->XW,take_zero->X0,length_replicate->X2,filter_eq_self->Yb,getElem?_replicate->Yc,getElem?_drop->Yd,filter_append->Ye,mem_iff_getElem?->Yk,take_sublist->Yr,not_mem_nil->Yy,range_succ->YH,getElem?_cons_succ->YO,take_succ->YW,nodup_append->YX,drop_of_length_le->YY,append_eq_nil_iff->YZ,set_append_right->Y4,lookup_cons->Y6,find?_cons->Ze,filter_map->Zf,getElem_of_mem->Zr,flatMap_append->Zs,reverse_perm->ZE,range'->ZF,ext_getElem?->ZG,drop_sublist->ZH,mem_flatMap->ZP,any_eq_true->ZQ,zipWith->ZW,range_succ_eq_map->ZX,pairwise_reverse->Z6,length_singleton->Z7,mem_of_mem_take->a0d,lookup->a0e,take_succ_cons->a0o,getElem?_range->a0p,filter_sublist->a0q,pairwise_cons->a0w,Nodup->a0x,getElem_take->a0E,range'_succ->a0R,nodup_range->a0S,filter_cons->a0T,take_append_of_le_length->a1a,drop_append_of_le_length->a1b,of_mem_zip->a1e,length_zip->a1f,idxOf_lt_length_of_mem->a1q,take_left->a1x,drop_left->a1y,drop_drop->a1z,extract_eq_drop_take->a1J,sum_cons->a1S,any_cons->a1T,filter_cons_of_pos->a1X,filter_cons_of_neg->a1Y,not_of_lt_findIdx->a2b,length_pos_of_mem->a2c,any_map->a2d,all_map->a2e,getElem?_zipWith->a2m,eq_nil_or_concat->a2n,concat_eq_append->a2o,mem_of_mem_drop->a2x,mem_append_left->a2y,map_id->a2z,findIdx_getElem->a2A,takeWhile_cons->a2I,map_eq_nil_iff->a2J,length_pos_iff->a2K,getD_cons_zero->a2L,zip_cons_cons->a2X,mem_filterMap->a2Y,take_add_one->a3x,map_inj_left->a3y,getElem_drop->a3z,flatMap_cons->a3A,mem_reverse->a3F,isEmpty_map->a3G,getElem_inj->a3H,countP_cons->a3I,forIn_cons->a3Y,foldl_cons->a3Z,filter_nil->a4a,drop_left'->a4b,map->a4e,map_take->a4x,map_nil->a4L,map_id'->a4M
open List.Pairwise renaming sublist->W4,imp_of_mem->Zd,nil->Z4,map->a4Y,imp->a4Z
open List.Perm renaming refl->YI,trans->a2C
open List.Sublist renaming refl->a5v,length_le->a5w
open List.cons renaming injEq->a2B
open Nat renaming le_refl->Vk,ne_of_lt->VI,lt_of_lt_of_le->VX,le_trans->WD,lt_irrefl->W3,ne_of_gt->Xj,zero_le->Xm,lt_succ_self->Xn,zero_add->XH,add_sub_cancel_left->XQ,lt_of_succ_lt->Yt,sub_self->Y1,not_lt_zero->Zp,min_eq_left->Zq,le_of_lt->Zv,not_lt->Zz,lt_trichotomy->ZL,lt_succ_of_lt->ZM,sub_zero->Z1,mod_lt->Z2,le_of_eq->Z3,le_succ->a0j,lt_trans->a0J,add_assoc->a1W,succ_mul->a2l,mod_eq_of_lt->a3W,le_of_not_lt->a3X,mul_le_mul->a4w,add_zero->a4X,log2_lt->a5u
open Ne renaming symm->WM
open Option renaming bind_eq_some_iff->U7,map_eq_some_iff->Vd,bind_some->VT,map_some->V1,isSome_map->Zy,getD_none->a2V
open Option.some renaming inj->Vs
open Or renaming inr->a0D,inl->a1R
open Prod renaming ext->a0c,ext_iff->a2a
open Prod.mk renaming inj->Z0,injEq->a3E
open PyProof.Rows renaming callWith_type1->Xc,seqObj->Xf,SortSt->XG,IntsAre->YJ,SortKind->YT,callWith_builtin1->a0b,entry_list_sort->a0n,slot_list_sort->a0z,args_list_sort->a0B,AllBare->a0G,subscriptTail->a0M,listUpdate_at->a0N,sortedHeap->a0W,gt_int->a1o,envOfC->a1p,pendingOf->a1E,seqEpoch_at->a1O,Subscript_->a2j,subscriptTail_builtinR->a3g,mergeAt'->a3O,arrOf->a3T,keyLt'->a4p,boot_range->a4u,IsTup->a4N,list_sort_plain->a5g,get?_update_seq->a5i,wpAny_notIn_heap->a5k,mul_int->a5l,lt_int->a5m,kindOf->a5n,floordiv_int->a5o,entry_proto_collect'->a5p,entry_list_iadd'->a5q,call_len_slot->a5r,assign_Tuple_tuple->a5s,assign_Tuple->a5t,tail_any->a5G,mirror->a5J,Call_->a5M
open PyProof.Rows.Boot renaming tuple->YU,sorted->ZZ,dict->Z9,sum->a3l,str->a3m,min->a3n,max->a3o,list->a3p,len->a3q,isinstance->a3r,int->a3s,bool->a3t,all->a3u
open PyProof.Rows.SortSt renaming mk'->VL
open PySem renaming wpAny_bind->Va,Shared->Ve,wpAny_pure->Vj,sizeLine->Vp,sizeLine_eq->VC,Program->VE,model->VF,wpAny->VH,Around->VO,World->VW,starEach->V7,wpAny_mono->Wr,wpAny_holding->Ws,Heap->WA,compareOp->WB,codeAny_builtin->WC,wpAny_newObj_type->WL,mem_of_lookup->WN,wpAny_truthy_bool->WS,plainId_quiet->WT,mainGlobals->WZ,cLine->W0,wpAny_updateSeq->W7,Pos->W9,bootBuiltins->Xb,Params->Xh,sysModules->Xo,wpAny_tryCatch->XB,wpAny_call_entry->XM,treeTable->XX,assignEach->XY,Scope->X4,FuncData->X5,wpAny_letGo->X7,NameKind->X9,wpAny_seqItems->Yg,sliceBounds->Yi,wpAny_setField_rec->Yl,wpAny_rule->Ym,wpAny_pyIter_tuple->Yn,wpAny_Call_Name_kw->Yo,pyNext->Yp,backTo->Yq,wpAny_passesOwn->Yu,behindInMarks->Yv,foldedSetIterable->Yx,richCompare->YB,intKind->YF,binaryOp->YS,wpAny_loadPart'->YV,wpAny_dictEntries->Y7,compEnvC->Za,Keyword->Zb,CmpOp->Zg,swapsWith->Zj,seqItems?->Zk,rawInt->Zl,Paired->Zo,codeAny->Zt,attributeBase->Zu,IsRangeIter->Zw,OsState->ZD,updateSeq->ZJ,tupleKind->ZK,wpAny_pyIter_list->ZU,wpAny_field->ZV,wpAny_isOneOf_itemiter->a0h,wpAny_execs_nil->a0k,wpAny_dictEpoch->a0l,letOwnedTupleGo->a0m,wpAny_notOrdered_dict->a0r,Env->a0y,firstArgMember->a0A,wpAny_newList->a0L,IsItemIterOut->a0U,call_meets->a0X,assign->a0Y,slot_list_getitem->a1i,codeAny_mono->a1k,callerA->a1l,BindsTo->a1s,wpAny_isInstance->a1B,pyIter->a1D,Result->a1G,PassesOwn->a1I,wpAny_of_eq->a1M,subscripted->a1N,keywordEach->a1P,getItem->a1Z,wpAny_setField->a2f,wpAny_newTuple->a2g,wpAny_load->a2h,Operator->a2k,evalArgs_none->a2s,wpAny_standAt->a2E,wpAny_getItem_list_slice->a2F,wpAny_attempt->a2G,swappedStores->a2H,wpAny_pyNext_tuple_item->a2M,wpAny_callSpecial?_slot->a2N,wpAny_Call_method0_late->a2O,slicePick->a2P,bindL->a2Q,bindC->a2R,Sem->a2S,Model->a2W,wpAny_typeOf->a3a,wpAny_pyNext_tuple_end->a3b,wpAny_pyNext_range_end->a3c,wpAny_pyNext_list_item->a3d,wpAny_pyIter_rangeiter->a3e,wpAny_Assign_Subscript->a3f,seqIndex_neg->a3h,isTrue->a3i,call_meetsIn->a3j,wpAny_pyNext_list_end->a3B,wpAny_isOneOf_keyiter->a3C,setField->a3L,seqIndex_of->a3M,newTuple->a3N,lookup_relabel_local->a3P,bindArgs->a3Q,backToKw->a3R,atKey->a3S,SetTable->a3U,IntMulOk->a4c,GenState->a4d,wpAny_tupleItemsOf->a4k,wpAny_pyIter_range->a4l,wpAny_Name->a4m,typeLookup->a4n,sliceRange->a4o,getattributeRaised->a4q,closureFor->a4r,call_function_tree->a4s,builtinsNs->a4t,wpAny_pyIter_slot->a4A,wpAny_pyIter_enum->a4B,wpAny_assign_Name->a4C,relabel->a4D,call_sum_walkAnyS->a4F,wpAny_pyIter_zip->a4O,wpAny_execs_cons->a4P,lastMarks->a4R,cellsFrom->a4S,Tok->a4U,call->a4V,wpAny_specialOf->a5e,typeNameOfWhole->a5f,importedModules->a5h,Fin->a5j,wpAny_fieldsOf->a5F,recursionLimit->a5H,newExc->a5I,isSubtype_stop->a5L
open PySem.Around renaming under_plainId->V9
open PySem.Builtin renaming sorted->a2p
open PySem.Builtin.Builtins renaming bindParams->a0a
open PySem.Builtin.Dict renaming showsAll->YK,updateFrom->a0K,pairItems->a0V,selfAndRest->a5z,pendingCount->a5A,noArgs->a5B,dictSlotNone->a5C,addKeywords->a5D
open PySem.Builtin.Dict_items renaming ownsTuple->YD,ownedTupleIsFree->ZA,ownedTupleFields->ZC,pairFromOwner->ZN,newIterator->a3J,dictOf->a3K
open PySem.Builtin.Int renaming intBits->V6,intTooBig->YN
open PySem.Builtin.List renaming listTooLong->Zh,listExtendWith->a0u,listSameRef->a0F
open PySem.Builtin.Range renaming rangeSize->Wv,small->a5c
open PySem.Builtin.Str renaming occurrences->WU
open PySem.Builtin.Tuple renaming tupleHashOf->a5a,tupleCompareSizes->a5b
open PySem.Calls renaming callWith_builtin->ZT,spliced_cons->a0t,spliced_nil->a0C,Name_function_global->a1r,call_function_entry->a1A
open PySem.Challenge renaming rw_creasecourt_k54_whole_ties_in_all_rows->Vf,pw_creasecourt_k54_whole_ties_in_all_rows->Wo
open PySem.Data renaming fields->Wn,dict->YQ,cell->ZS,seq->a2D,cls->a4h
open PySem.F renaming slot_dict_items->YC,args_dict_items_1->a1d,entry_dict_items->a1n,type_dict_items->a1u,plainAttrs_dict->a1v
open PySem.Heap renaming get?_push_of_some->Vg,lt_size->Vn,get?_push_size->Vr,get?_update_other->Wl,get?_update_self->WX,size_push->X1,SameBut->Y0,ExtBut->a0f
open PySem.Heap.DictOfH renaming new->a5y
open PySem.Heap.IsSliceOf renaming new->a1h
open PySem.Heap.IsTuple renaming push->a0i
open PySem.Heap.SameBut renaming update->ZR,refl->a1K
open PySem.IsRange renaming new->a4f
open PySem.MeetsSeq renaming plain_remove_loop->Yj,entry_remove_loop->a0Q
open PySem.NameKind renaming free->XS,cell->X3
open PySem.Obj renaming mapSeq->Ww,data_mapFields->a3w,mapFields->a4K
open PySem.Paired renaming length->a1w,snoc->a4v
open PySem.PassesOwn renaming never->a2w
open PySem.SeqAt renaming ne_of_list_tuple->Xu,EqAt->YG
open PySem.Str renaming ofString->XZ
open PySem.Value renaming ref->VA,type->VJ,int->Wc,none->W8,builtin->Xr,bool->Xs,str->a1Q,isInt->a4I
open PySem.W renaming Frag->U9,kasC_bind->Vq,kasC_pure->Vv,behindTheImports->VN,boot_drawn->WJ,kasC_range->Xg,keepIn->Xp,fnOf->Xq,kia_one->XN,kasC_modify->X8,kasC->Yw,boot_heap->Y3,topFrame->Y8,kasC_get->Y9,findIn->Zm,nsIn->ZO,codeIn->ZY,kasC_lift->Z8,methodObj->a0s,piecesOf->a1j,mg_of->a1m,segRun->a1C,boot_toks->a1F,cellsFrom_some->a1H,kat_cons->a2i,specialIn->a2t,kitx_list->a2u,kitx_dict->a2v,instObj->a2T,OpenLaw->a2U,kitOne->a3k,WalkO->a3D,isFn->a3V,kat_yes->a4E,piece_app->a4Q,kHook->a5K
open PySem.W.OpenLaw renaming row->Wz
open PySem.W.OpenRow renaming toRowW->a3v
open PySem.W.RowW renaming records->a4J
open PySem.W.WData renaming int->Zc,weightAll->Zn,layable->a0P,weight->a0Z,layableAll->a4W
open PySem.W.WShape renaming has->a4H
open PySem.Walks renaming tuple->a0O,range->a4G,list->a4T
open Sum renaming inr->a0H,inl->a0I
open True renaming intro->Y5
set_option compiler.extract_closed false
set_option bootstrap.genMatcherCode false
set_option genSizeOf false
set_option genSizeOfSpec false
set_option Elab.async false
set_option linter.all false
set_option maxRecDepth 100000
set_option linter.all false
abbrev gq:=List PySem.Value
abbrev jw:=List (PySem.Addr×PySem.Obj)
abbrev jq:=List (Int×Int)
namespace L2
open PySem PySem.Spec PyProof.Rows
noncomputable abbrev bY:=Sum Int Str
noncomputable def vL:bY->Value->Bool
 |.inl k,v=>a4I k v|.inr x,v=>Value.isStrOf x v
noncomputable def A7(w:VW):bY->Int
 |.inl k=>hashInt k|.inr x=>hashStr w x
theorem jR:∀{k:bY}{v:Value},vL k v=dI->(∃i t,k=a0I i/\v=Wc i t)\/(∃x t,k=a0H x/\v=a1Q x t)
 |.inl i,v,h=>by obtain⟨t,e⟩:=Value.isInt_shape (k:=i) (v:=v) h;exact .inl ⟨i,t,rfl,e⟩
 |.inr x,v,h=>by obtain⟨t,e⟩:=Value.isStrOf_shape (x:=x) (v:=v) h;exact .inr ⟨x,t,rfl,e⟩
theorem GQ(a b:Int):decide ((a0I a:bY)=a0I b)=(a==b):=by
 by_cases e:a=b
 .subst e;simp
 .have h:¬ (a0I a:bY)=a0I b:=λq=>e (Sum.inl.inj q);rw[decide_eq_false h];exact(beq_eq_false_iff_ne.mpr e).symm
theorem GR(a b:Str):decide ((a0H a:bY)=a0H b)=decide (a=b):=by
 by_cases e:a=b
 .subst e;simp
 .have h:¬ (a0H a:bY)=a0H b:=λq=>e (Sum.inr.inj q);rw[decide_eq_false h,decide_eq_false e]
theorem GS(a:Int)(b:Str):decide ((a0I a:bY)=a0H b)=false:=decide_eq_false (λq=>nomatch q)
theorem GU(a:Str)(b:Int):decide ((a0H a:bY)=a0I b)=false:=decide_eq_false (λq=>nomatch q)
noncomputable def pK(prog:VE)(w:VW):PySem.KeyKind prog w bY where
 is:=vL
 hash:=A7 w
 inj:=λv a b g d=>by
  rcases jR g with⟨i,t,rfl,rfl⟩|⟨x,t,rfl,rfl⟩
  .rcases jR d with⟨j,u,rfl,e⟩|⟨y,u,rfl,e⟩
   .injection e with e1 _;rw[e1]
   .exact nomatch e
  .rcases jR d with⟨j,u,rfl,e⟩|⟨y,u,rfl,e⟩
   .exact nomatch e
   .injection e with e1 _;rw[e1]
 byValue:=λk v h=>by rcases jR h with⟨i,t,rfl,rfl⟩|⟨x,t,rfl,rfl⟩<;>rfl
 pyHash:=λc h=>by
  rcases jR c with⟨i,t,rfl,rfl⟩|⟨x,t,rfl,rfl⟩
  .exact wpAny_pyHash_int h
  .exact wpAny_pyHash_str h
 eqBool:=λl c h=>by
  rcases jR l with⟨i,t,rfl,rfl⟩|⟨x,t,rfl,rfl⟩
  .rcases jR c with⟨j,u,rfl,rfl⟩|⟨y,u,rfl,rfl⟩
   .rw[GQ]at h;exact wpAny_eqBool_int h
   .rw[GS]at h;exact SeqAt.EqAt.int_str i t y u _ _ _ _ h
  .rcases jR c with⟨j,u,rfl,rfl⟩|⟨y,u,rfl,rfl⟩
   .rw[GU]at h;exact SeqAt.EqAt.str_int x t j u _ _ _ _ h
   .rw[GR]at h;exact wpAny_eqBool_str h
 «strs»:=λk x t v h=>by
  rcases jR h with⟨i,u,rfl,e⟩|⟨y,u,rfl,e⟩
  .exact nomatch e
  .injection e with e1 _;subst e1;cases v<;>rfl
inductive V where
 |non|bl (b:Bool)|int (i:Int)|str (x:Str)|byt (b:Array UInt8)|flt (b:UInt64)|ref (a:Addr)|ty (n:String)
 deriving DecidableEq
abbrev gw:=List V
noncomputable def RelV:V->Value->Prop
 |.non,u=>u=W8|.bl b,u=>u=Xs b|.int i,u=>∃t,u=Wc i t|.str x,u=>∃t,u=a1Q x t|.byt b,u=>∃t,u=Value.bytes b t|.flt b,u=>∃t,u=Value.float b t|.ref a,u=>u=VA a|.ty n,u=>u=VJ n
noncomputable abbrev Vals:gw->gq->Prop:=Zo RelV
theorem Vals.length{xs:gw}{us:gq}(r:Vals xs us):xs.length=us.length:=a1w r
theorem Vals.get:∀{xs:gw}{us:gq}{i:Nat}{x:V},Vals xs us->xs[i]?=b0 x->∃u,us[i]?=b0 u/\RelV x u
 |_,_,_,_,.nil,e=>by simp at e
 |_,_,0,_,.cons r _,e=>by simp at e;subst e;exact⟨_,rfl,r⟩
 |_,_,i+1,x,.cons _ t,e=>by obtain⟨u,a,c⟩:=Vals.get (i:=i) (x:=x) t (by simpa using e);exact⟨u,by simpa using a,c⟩
theorem Vals.set{x:V}{u:Value}(r:RelV x u):∀{xs:gw}{us:gq}(i:Nat),Vals xs us->Vals (xs.set i x) (us.set i u)
 |_,_,_,.nil=>.nil|_,_,0,.cons _ t=>.cons r t|_,_,i+1,.cons q t=>.cons q (Vals.set r i t)
theorem Vals.append:∀{xs a:gw}{us ws:gq},Vals xs us->Vals a ws->Vals (xs++a) (us++ws)
 |_,_,_,_,.nil,s=>s|_,_,_,_,.cons r t,s=>.cons r (Vals.append t s)
theorem Vals.take:∀{xs:gw}{us:gq}(n:Nat),Vals xs us->Vals (xs.take n) (us.take n)
 |_,_,0,_=>.nil|_,_,_+1,.nil=>.nil|_,_,n+1,.cons r t=>.cons r (Vals.take n t)
theorem Vals.drop:∀{xs:gw}{us:gq}(n:Nat),Vals xs us->Vals (xs.drop n) (us.drop n)
 |_,_,0,r=>r|_,_,_+1,.nil=>.nil|_,_,n+1,.cons _ t=>Vals.drop n t
theorem Vals.none_of:∀{xs:gw}{us:gq}{i:Nat},Vals xs us->xs[i]?=b3->us[i]?=none:=λ{xs us i} r e=>by have a:=r.length;have c:xs.length<=i:=V0.mp e;exact V0.mpr (by lia)
noncomputable def RelO:Option V->Option Value->Prop
 |some v,b0 u=>RelV v u|none,b3=>True|_,_=>False
noncomputable def KV{κ:Type}:List (κ×V)->List (κ×Value)->Prop:=Zo λ(p:κ×V)(q:κ×Value)=>p.1=q.1/\RelV p.2 q.2
noncomputable def kV:bY->V
 |.inl i=>.int i|.inr x=>.str x
inductive HO where
 |lst (xs:gw)
 |tup (xs:gw)
 |dK (kvs:List (bY×V))|dT (kvs:List (List bY×V))
 |set (S:Int->Bool)(n:Nat)
 |ins (C dx:Addr)(fs:List (Str×V))
 |own (x:Addr)
 |xd (fs:List (Str×V))
 |met (f x:Addr)
 |rng (lo hi:Int)
 |frz (o:Obj)(u:HO)
 |tbl (ps:Array Value)
 |ext (φ:WA->Prop)
noncomputable abbrev Hp:=Addr->Option HO
noncomputable def aK(H:Hp)(a:Addr)(o:HO):Hp:=λb=>if b=a then b0 o else H b
theorem cH{H:Hp}{a:Addr}{o:HO}:aK H a o a=b0 o:=by unfold aK;rw[if_pos rfl]
theorem a8{H:Hp}{a b:Addr}{o:HO}(h:b≠a):aK H a o b=H b:=by unfold aK;rw[if_neg h]
theorem gO{H:Hp}{a b:Addr}{o:HO}(h:H a=b0 o)(h':H b=b3):a≠b:=by intro e;subst e;rw[h]at h';cases h'
section
variable(P:VE)(w:VW)
noncomputable def TupN(h:WA)(a:Addr)(xs:Array Value):Prop:=∃o,h.get? a=b0 o/\o.cls=.type "tuple"/\∃n,o.data=.seq xs n/\o.dict=b3
theorem TupN.tup{h:WA}{a:Addr}{xs:Array Value}(x:TupN h a xs):a4N h a xs:=let⟨o,e,c,n,d,_⟩:=x;⟨o,e,c,n,d⟩
theorem TupN.new(h:WA)(items:Array Value):TupN (h.push {cls:=.type "tuple",data:=.seq items}) h.objs.size items:=⟨_,Vr _ rfl,rfl,_,rfl,rfl⟩
noncomputable def ObjOk(H:Hp)(h:WA)(a:Addr):HO->Prop
 |.lst d=>d.length<=Vp/\∃(c:gq)(n:Nat),Vals d c/\h.get? a=b0 {cls:=.type "list",data:=.seq c.toArray n}|.tup d=>d.length<=Vp/\∃c:gq,Vals d c/\TupN h a c.toArray|.dK kvs=>kvs.length<=Vp/\(a==Xo)=b5/\∃k,KV kvs k/\h.DictOf (pK P w) a k|.dT kvs=>kvs.length<=Vp/\(a==Xo)=b5/\∃d:List (List bY×Addr×Value),
   Zo (λ(p:List bY×V)(q:List bY×Addr×Value)=>p.1=q.1/\H q.2.1=b0 (.tup (p.1.map kV))/\RelV p.2 q.2.2) kvs d /\
   ∃o g l,h.get? a=b0 o/\o.ExactDict/\o.data=.dict g l/\g.toList=d.map (entryOfKey (ZK (pK P w)))/\(d.map (·.1)).Nodup
 |.set S n=>h.SetOf (YF P w) a S n|.ins C dx fs=>H dx=b0 (.own a)/\fs.length<=1000/\dx≠a/\h.get? a=b0 (a2T C dx) /\
   ∃e,h.Ns1 dx e/\(∀f,RelO (fs.lookup f) (e f))/\PySem.Within e (fs.map (·.1))
 |.own _=>∃o,h.get? a=b0 o|.xd fs=>∃e,h.Ns1 a e/\∀f,RelO (fs.lookup f) (e f)|.rng lo hi=>∃t u v,h.get? a=b0 {cls:=.type "range",data:=.fields #[.int lo t,.int hi u,.int 1 v]}|.frz o u=>h.get? a=b0 o/\ObjOk H h a u|.tbl ps=>h.get? a=b0 {cls:=.none,data:=.fields ps}|.met f x=>h.get? a=b0 (a0s (.ref f) (.ref x))|.ext φ=>φ h/\(∃o,h.get? a=b0 o)/\∀i j:WA,φ i->(∀o,i.get? a=b0 o->j.get? a=b0 o)->φ j
noncomputable def HOk(H:Hp)(h:WA):Prop:=∀a o,H a=b0 o->ObjOk P w H h a o
end
section
variable{P:VE}{w:VW}{H H':Hp}{h h':WA}{a:Addr}{o:HO}
theorem ObjOk.lt(x:ObjOk P w H h a o):a<h.objs.size:=by
 cases o with
 |lst d=>obtain⟨_,_,_,_,e⟩:=x;exact Vn e|tup d=>obtain⟨_,_,_,p⟩:=x;exact p.tup.lt|dK c=>obtain⟨_,_,_,_,o,_,_,e,_⟩:=x;exact Vn e|dT c=>obtain⟨_,_,_,_,o,_,_,e,_⟩:=x;exact Vn e|set S n=>obtain⟨o,_,_,_,e,_⟩:=x;exact Vn e|ins C g fs=>obtain⟨_,_,_,e,_⟩:=x;exact Vn e|own y=>obtain⟨_,e⟩:=x;exact Vn e|xd fs=>obtain⟨_,⟨_,_,_,e,_⟩,_⟩:=x;exact Vn e|rng j i=>obtain⟨_,_,_,e⟩:=x;exact Vn e|frz k u=>obtain⟨e,_⟩:=x;exact Vn e|tbl l=>exact Vn (show h.get? a=b0 _ from x)|met f y=>exact Vn (show h.get? a=b0 _ from x)|ext m=>obtain⟨_,⟨_,e⟩,_⟩:=x;exact Vn e
theorem Zo.mapP{d e:Type}{F G:d->e->Prop}:∀{l₁:List d}{c:List e},Zo F l₁ c->(∀a b,F a b->G a b)->Zo G l₁ c
 |_,_,.nil,_=>.nil|_,_,.cons r t,f=>.cons (f _ _ r) (Zo.mapP t f)
theorem ObjOk.stay(x:ObjOk P w H h a o)(k:∀b u,(b=a\/H b=b0 (.own a))->h.get? b=b0 u->h'.get? b=b0 u)
  (I:∀b,H b=b0 (.own a)->H' b=b0 (.own a))(K:∀b m,H b=b0 (.tup m)->H' b=b0 (.tup m)):ObjOk P w H' h' a o:=by
 induction o with
 |lst m=>obtain⟨z,l,n,r,e⟩:=x;exact⟨z,l,n,r,k _ _ (.inl rfl) e⟩|tup m=>obtain⟨z,l,r,g,e,c⟩:=x;exact⟨z,l,r,g,k _ _ (.inl rfl) e,c⟩|dK s=>obtain⟨z,y,M,r,g,j,i,e,c⟩:=x;exact⟨z,y,M,r,g,j,i,k _ _ (.inl rfl) e,c⟩|dT s=>obtain⟨z,y,m,r,g,j,i,e,c⟩:=x;exact⟨z,y,m,Zo.mapP r λp q z=>⟨z.1,K _ _ z.2.1,z.2.2⟩,g,j,i,k _ _ (.inl rfl) e,c⟩|set S n=>obtain⟨g,j,i,t,e,c⟩:=x;exact⟨g,j,i,t,k _ _ (.inl rfl) e,c⟩|ins C N fs=>obtain⟨d,z,ne,e,A,⟨B,j,i,G,c⟩,r⟩:=x;exact⟨I _ d,z,ne,k _ _ (.inl rfl) e,A,⟨B,j,i,k _ _ (.inr d) G,c⟩,r⟩|own y=>obtain⟨g,e⟩:=x;exact⟨g,k _ _ (.inl rfl) e⟩|xd fs=>obtain⟨A,⟨B,j,i,e,c⟩,r⟩:=x;exact⟨A,⟨B,j,i,k _ _ (.inl rfl) e,c⟩,r⟩|rng Q O=>obtain⟨t,u,v,e⟩:=x;exact⟨t,u,v,k _ _ (.inl rfl) e⟩|frz g u L=>obtain⟨e,q⟩:=x;exact⟨k _ _ (.inl rfl) e,L q⟩|tbl E=>have e:h.get? a=b0 {cls:=.none,data:=.fields E}:=x;show h'.get? a=b0 {cls:=.none,data:=.fields E};exact k a _ (.inl rfl) e|met f y=>have e:h.get? a=b0 (a0s (.ref f) (.ref y)):=x;show h'.get? a=b0 (a0s (.ref f) (.ref y));exact k a _ (.inl rfl) e|ext R=>obtain⟨p,⟨o,e⟩,st⟩:=x;exact⟨st _ _ p λo q=>k _ _ (.inl rfl) q,⟨o,k _ _ (.inl rfl) e⟩,st⟩
theorem HOk.lt(x:HOk P w H h)(e:H a=b0 o):a<h.objs.size:=(x a o e).lt
theorem HOk.fresh(x:HOk P w H h)(e:h.objs.size<=a):H a=none:=by
 cases q:H a with
 |none=>rfl|some u=>exact absurd (VX (x.lt q) e) (W3 _)
theorem HOk.kept(x:HOk P w H h)(k:∀b u,h.get? b=b0 u->h'.get? b=b0 u):HOk P w H h':=λa o e=>(x a o e).stay (λb u _ q=>k b u q) (λ_ q=>q) λ_ _ q=>q
theorem HOk.laid(x:HOk P w H h)(k:∀b u,h.get? b=b0 u->h'.get? b=b0 u)(i:h.objs.size<=a)(new:ObjOk P w (aK H a o) h' a o):HOk P w (aK H a o) h':=λb u e=>by
 have g:=x.fresh i;by_cases d:b=a
 .subst d;rw[cH]at e;cases e;exact new
 .rw[a8 d]at e;exact(x b u e).stay (λc v _ q=>k c v q) (λc q=>by rw[a8 (gO q g)];exact q) λc j q=>by rw[a8 (gO q g)];exact q
end
noncomputable def Rd(H:Hp)(a:Addr)(u:HO):Prop:=H a=b0 u\/∃o,H a=b0 (.frz o u)
theorem Rd.of{H:Hp}{a:Addr}{u:HO}(h:H a=b0 u):Rd H a u:=.inl h
theorem Rd.ok{P:VE}{w:VW}{H:Hp}{h:WA}{a:Addr}{u:HO}(r:Rd H a u)(x:HOk P w H h):ObjOk P w H h a u:=by
 rcases r with r|⟨o,r⟩
 .exact x a u r
 .obtain⟨_,q⟩:=x a _ r;exact q
noncomputable def pL:Option HO->Prop
 |some (.lst _)=>True|some (.dK _)=>True|some (.dT _)=>True|some (.set _ _)=>True|some (.ins _ _ _)=>True|some (.ext _)=>True|_=>False
section
variable{P:VE}{w:VW}{H:Hp}{h h':WA}{x e:Addr}{o':HO}
theorem HOk.write(ok:HOk P w H h)(j:pL (H x))(n:e=x\/H e=b0 (.own x))(k:∀b u,b≠e->h.get? b=b0 u->h'.get? b=b0 u)(m:∃u,h'.get? e=b0 u)
  (new:ObjOk P w (aK H x o') h' x o'):HOk P w (aK H x o') h':=λb u q=>by
 have d:∀c y,H c=b0 (.own y)->c≠x:=λc y r z=>by subst z;rw[r]at j;exact j
 have g:∀c l,H c=b0 (.tup l)->c≠x:=λc l r z=>by subst z;rw[r]at j;exact j
 by_cases i:b=x
 .subst i;rw[cH]at q;cases q;exact new
 .rw[a8 i]at q;by_cases a:b=e
  .have o:H b=b0 (.own x):=by
    rcases n with z|z
    .exact absurd (a.trans z) i
    .rw[a];exact z
   rw[q]at o;cases o;obtain⟨v,p⟩:=m;exact⟨v,by rw[a];exact p⟩
  .refine(ok b u q).stay (λc v hc r=>k c v ?_ r) (λc r=>by rw[a8 (d c b r)];exact r) λc l r=>by rw[a8 (g c l r)];exact r
   rcases hc with rfl|hc
   .exact a
   .rintro rfl;rcases n with z|z
    .exact d c b hc z
    .rw[hc]at z;cases z;exact i rfl
end
structure Un(fs ex:List Addr)(H H':Hp)(h h':WA):Prop where
 keep:∀b o,h.get? b=b0 o->H b=b3->b∉fs->b∉ex->h'.get? b=b0 o
 slot:∀b o,h.get? b=b0 o->H b=b3->b∈fs->b∉ex->∃sl,h'.get? b=b0 {o with slots:=sl}
 free:∀b o,h.get? b=b0 o->H b=b3->b∉ex->H' b=b3
 there:∀b o,h.get? b=b0 o->b∉ex->∃o',h'.get? b=b0 o'
 tups:∀b xs,H b=b0 (.tup xs)->H' b=b0 (.tup xs)
 frzs:∀b o u,H b=b0 (.frz o u)->H' b=b0 (.frz o u)
 tbls:∀b ps,H b=b0 (.tbl ps)->∃more,H' b=b0 (.tbl (ps++more))
section
variable{fs fs' ex ex':List Addr}{H H1 H2:Hp}{h h1 h2 h':WA}{a x e:Addr}{o:HO}
theorem Un.any(u:Un fs ex H H1 h h1){b:Addr}{c:Obj}(q:h.get? b=b0 c)(n:H b=b3)(g:b∉ex):∃i,h1.get? b=b0 {c with slots:=i}:=by
 by_cases d:b∈fs
 .exact u.slot b c q n d g
 .exact⟨c.slots,u.keep b c q n d g⟩
theorem Un.kept(k:∀b u,h.get? b=b0 u->h'.get? b=b0 u):Un fs ex H H h h':=
 ⟨λb c q _ _ _=>k b c q,λb c q _ _ _=>⟨c.slots,k b c q⟩,λ_ _ _ n _=>n,λb c q _=>⟨c,k b c q⟩,λ_ _ q=>q,λ_ _ _ q=>q,λ_ d q=>⟨#[],by rw[q];simp⟩⟩
theorem Un.refl:Un fs ex H H h h:=Un.kept λ_ _ q=>q
theorem Un.laid(k:∀b u,h.get? b=b0 u->h'.get? b=b0 u)(d:h.objs.size<=a)(c:H a=b3):Un fs ex H (aK H a o) h h' where
 keep:=λb u q _ _ _=>k b u q
 slot:=λb u q _ _ _=>⟨u.slots,k b u q⟩
 free:=λb u q n _=>by rw[a8 (VI (VX (Vn q) d))];exact n
 there:=λb u q _=>⟨u,k b u q⟩
 tups:=λb g q=>by rw[a8 (gO q c)];exact q
 frzs:=λb u g q=>by rw[a8 (gO q c)];exact q
 tbls:=λb i q=>⟨#[],by rw[a8 (gO q c),q];simp⟩
theorem Un.write(d:pL (H x))(m:e=x\/H e=b0 (.own x))(k:∀b u,b≠e->h.get? b=b0 u->h'.get? b=b0 u)(g:∃u,h'.get? e=b0 u):Un fs ex H (aK H x o) h h':=by
 have l:∀b,H b=b3->b≠x:=λb n z=>by subst z;rw[n]at d;exact d
 have j:∀b,H b=b3->b≠e:=λb n z=>by
  subst z;rcases m with r|r
  .exact l b n r
  .rw[n]at r;cases r
 have i:∀b u,H b=b0 u->¬ pL (b0 u)->b≠x:=λb u q p z=>by subst z;rw[q]at d;exact p d
 refine⟨λb u q n _ _=>k b u (j b n) q,λb u q n _ _=>⟨u.slots,k b u (j b n) q⟩,λb u q n _=>by rw[a8 (l b n)];exact n,λb u q _=>?_,
  λb s q=>by rw[a8 (i b _ q λz=>z)];exact q,λb u s q=>by rw[a8 (i b _ q λz=>z)];exact q,λb v q=>⟨#[],by rw[a8 (i b _ q λz=>z),q];simp⟩⟩
 by_cases c:b=e
 .subst c;exact g
 .exact⟨u,k b u c q⟩
end
noncomputable def r8(h:WA)(H:Hp):List Addr:=(VS h.objs.size).filter λa=>(H a).isSome
noncomputable def jS(h:WA)(H:Hp):WA:=PySem.W.hideAll h (r8 h H)
theorem GV(h:WA)(H:Hp):(jS h H).objs.size=h.objs.size:=PySem.W.hideAll_size _ _
theorem GW{h:WA}{H:Hp}{b:Addr}{o:Obj}(e:h.get? b=b0 o)(n:H b=b3):(jS h H).get? b=b0 o:=
 PySem.W.hideAll_get _ e λa=>by have q:(H b).isSome=true:=(Wy.mp a).2;rw[n]at q;simp at q
theorem GX{h:WA}{H:Hp}{b:Addr}{o:Obj}(e:(jS h H).get? b=b0 o):h.get? b=b0 o/\H b=none:=by
 have a:h.get? b=b0 o:=PySem.W.of_hideAll (r8 h H) e;refine⟨a,?_⟩;cases q:H b with
 |none=>rfl|some x=>have c:b∈r8 h H:=Wy.mpr ⟨Wi.mpr (Vn a),by simp[q]⟩;have z:(jS h H).get? b=none:=PySem.W.hideAll_none (r8 h H) c;rw[z]at e;cases e
noncomputable def GY(g h:WA)(L:Addr):jw:=(VS h.objs.size).filterMap λa=>if a=L\/(g.get? a).isSome=dI then b3 else(h.get? a).map λo=>(a,o)
noncomputable def rest(g h:WA)(L d:Addr):jw:=(GY g h L).filter λp=>decide (p.1≠d)
structure Mod(K:U9)(mg:Str->Option Value)(base:WA):Prop where
 kin:K.In base
 glob:base.Ns WZ mg
 blt:∃mb,base.Ns a4t mb/\∀x:Str,x ≠ "__name__"->mb x=Xb x
 nolimit:base.NoLimit
structure Cx where
 prog:VE
 w:VW
 K:U9
 mg:Str->Option Value
 base:WA
 A:VO
 N:List Str
 s₀:Ve
 H₀:Hp
 env:a0y
 outer:List a0y
 stack:List a0y
 ex:List Addr
 fn:Str->Bool
 calm:Bool
 pn:jw
 xe:Value->Ve->Prop
noncomputable def gP(l:List a0y):List Addr:=l.filterMap (·.frame)
noncomputable abbrev Cx.fs(X:Cx):List Addr:=gP X.outer
noncomputable def l9(sc:X4)(x:Str):Prop:=sc.names.lookup x=b0 .local\/sc.names.lookup x=b0 .cell\/sc.names.lookup x=b0 .free
noncomputable def Loc(sc:X4)(x:Str):Prop:=sc.names.lookup x=b0 .local\/sc.names.lookup x=b0 .cell
noncomputable def GZ(env:a0y)(h:WA)(m:Str->Option Value)(x:Str)(u:Value):Prop:=
 (env.kindOf x=b0 .local/\m x=b0 u)\/((env.kindOf x=b0 .cell\/env.kindOf x=b0 .free)/\∃c,env.cells.lookup x=b0 c/\h.IsCell c (b0 u))
structure Cx.Ok(X:Cx):Prop where
 mod:Mod X.K X.mg X.base
 kind:X.env.scope.kind=.function
 glob:X.env.globals=WZ
 blt:X.env.builtins=a4t
 above:X.s₀.heap.objs.size<=X.env.locals
 inj:∀x y c,X.env.cells.lookup x=b0 c->X.env.cells.lookup y=b0 c->x=y
 has:∀x,(X.env.kindOf x=b0 .cell\/X.env.kindOf x=b0 .free)->∃c,X.env.cells.lookup x=b0 c
 cab:∀x c,X.fn x=dI->X.env.cells.lookup x=b0 c->X.s₀.heap.objs.size<=c
 hd:X.calm=dI->X.A.handled=b3
 frames:X.A.frames=b0 X.stack
 stk:X.stack=X.outer\/(X.stack=X.env::X.outer/\X.env.frame=b0 X.env.locals)
 exf:∀b∈X.ex,b≠X.env.locals/\∀x c,X.env.cells.lookup x=b0 c->c≠b
 bs:∀b o,X.base.get? b=b0 o->X.s₀.heap.get? b=b0 o/\X.H₀ b=b3
 bsz:X.base.objs.size<=X.s₀.heap.objs.size
 noex:∀b o,X.base.get? b=b0 o->b∉X.ex
 exfs:∀b∈X.ex,b∉X.fs
 funs:X.s₀.heap.FunFrames X.base X.outer
 frf:∀b∈X.fs,X.H₀ b=b3
structure Inv(X:Cx)(a5N:jw)(σ:List (Option V))(H:Hp)(s:Ve):Prop where
 ok:X.Ok
 os:s.os=X.s₀.os
 bare:a0G s.gens
 base:Un X.fs X.ex X.H₀ H X.s₀.heap s.heap
 loc:∃m,s.heap.Ns X.env.locals m/\∀(i:Nat)(x:Str)(v:V),X.N[i]?=b0 x->σ[i]?=b0 (b0 v)->l9 X.env.scope x->∃u,RelV v u/\GZ X.env s.heap m x u
 cell:∀x c,X.env.cells.lookup x=b0 c->∃v,s.heap.IsCell c v
 free:H X.env.locals=b3
 freeC:∀x c,X.env.cells.lookup x=b0 c->H c=b3
 pin:∀p∈X.pn++a5N,s.heap.get? p.1=b0 p.2/\H p.1=b3/\p.1≠X.env.locals/\p.1∉X.fs/\∀v,p.2.data≠.cell v
 hok:HOk X.prog X.w H s.heap
 len:σ.length=X.N.length
section
variable{X:Cx}{a5N:jw}{σ:List (Option V)}{H H':Hp}{s:Ve}{h':WA}
theorem Cx.Ok.nofr(ok:X.Ok){b:Addr}{o:Obj}(e:X.base.get? b=b0 o):b∉X.fs:=λa=>by have:=(ok.funs.mem a).1;rw[e]at this;cases this
theorem Inv.bs(I:Inv X a5N σ H s):∀b o,X.base.get? b=b0 o->s.heap.get? b=b0 o/\H b=none:=λb o e=>⟨I.base.keep b o (I.ok.bs b o e).1 (I.ok.bs b o e).2 (I.ok.nofr e) (I.ok.noex b o e),I.base.free b o (I.ok.bs b o e).1 (I.ok.bs b o e).2 (I.ok.noex b o e)⟩
theorem Inv.bk(I:Inv X a5N σ H s):∀b o,X.base.get? b=b0 o->s.heap.get? b=b0 o:=λb o e=>(I.bs b o e).1
theorem Inv.mod(I:Inv X a5N σ H s):Mod X.K X.mg X.base:=I.ok.mod
theorem Inv.kIn(I:Inv X a5N σ H s):X.K.In s.heap:=I.ok.mod.kin.keeps I.bk
theorem Inv.lt(I:Inv X a5N σ H s):X.env.locals<s.heap.objs.size:=let⟨_,a,_⟩:=I.loc;a.lt
theorem Inv.sz(I:Inv X a5N σ H s):X.s₀.heap.objs.size<=s.heap.objs.size:=WD I.ok.above (Zv I.lt)
theorem Inv.nofs(I:Inv X a5N σ H s){a:Addr}(h:s.heap.objs.size<=a):a∉X.fs:=λc=>by obtain⟨_,o,d,_⟩:=I.ok.funs.mem c;exact absurd (VX (Vn d) (WD I.sz h)) (W3 _)
theorem Inv.cne(I:Inv X a5N σ H s):∀x c,X.env.cells.lookup x=b0 c->c≠X.env.locals:=λx c e z=>by obtain⟨v,o,g,hd⟩:=I.cell x c e;obtain⟨m,⟨j,i,h,d,a,_⟩,_⟩:=I.loc;rw[z,d]at g;cases g;rw[a]at hd;cases hd
theorem Inv.funs(I:Inv X a5N σ H s):s.heap.FunFrames X.base X.outer:=by
 have all:∀(l:List a0y),(∀b∈gP l,b∈X.fs)->X.s₀.heap.FunFrames X.base l->s.heap.FunFrames X.base l:=by
  intro l;induction l with
  |nil=>intro _ _;trivial|cons h r p=>intro g j;obtain⟨i,⟨L,o,d,k,m,hd⟩,n⟩:=j;have a:L∈X.fs:=g L (by unfold gP;rw[XW,d];exact Wj);obtain⟨q,e⟩:=I.base.slot L o m (I.ok.frf L a) a λz=>I.ok.exfs L z a;exact⟨i,⟨L,_,d,k,e,hd⟩,p (λb c=>g b (by unfold gP;rw[XW,d];exact VU _ c)) n⟩
 exact all X.outer (λ_ c=>c) I.ok.funs
theorem Inv.stack(I:Inv X a5N σ H s):s.heap.FunFrames X.base X.stack:=by
 rcases I.ok.stk with e|⟨e,a⟩
 .rw[e];exact I.funs
 .rw[e];obtain⟨m,c,_⟩:=I.loc;refine .cons (by rw[I.ok.kind];decide) a c ?_ I.funs;exact Heap.get?_none_of_le (WD I.ok.bsz I.ok.above)
theorem Inv.stkSub(I:Inv X a5N σ H s):∀b∈gP X.stack,b∈X.env.locals::X.fs:=λb a=>by
 rcases I.ok.stk with e|⟨e,c⟩
 .rw[e]at a;exact VU _ a
 .rw[e]at a;unfold gP at a;rw[XW,c]at a;exact a
theorem Inv.stkFree(I:Inv X a5N σ H s):∀b∈gP X.stack,H b=none:=λb a=>by
 rcases Wf.mp (I.stkSub b a)with e|a
 .rw[e];exact I.free
 .obtain⟨_,o,c,_⟩:=I.ok.funs.mem a;exact I.base.free b o c (I.ok.frf b a) λz=>I.ok.exfs b z a
theorem Inv.step{g':Array a4d}{t':Nat}{d':Drawn}{ch:List Addr}(I:Inv X a5N σ H s)
  (h:∀b∈ch,(b∈X.ex\/X.s₀.heap.objs.size<=b)/\b≠X.env.locals/\(∀x c,X.env.cells.lookup x=b0 c->c≠b)/\∀p∈X.pn++a5N,p.1≠b)
  (j:∀b o,b≠X.env.locals->b∉X.fs->b∉ch->s.heap.get? b=b0 o->H b=b3->h'.get? b=b0 o)
  (B:∀b o,b≠X.env.locals->b∈X.fs->b∉ch->s.heap.get? b=b0 o->H b=b3->∃sl,h'.get? b=b0 {o with slots:=sl})(free:∀b o,b∉ch->s.heap.get? b=b0 o->H b=b3->H' b=b3)
  (K:∀b o,b∉ch->s.heap.get? b=b0 o->∃R,h'.get? b=b0 R)
  (U:∀b E,H b=b0 (.tup E)->H' b=b0 (.tup E))(N:∀b o u,H b=b0 (.frz o u)->H' b=b0 (.frz o u))(T:∀b Y,H b=b0 (.tbl Y)->∃O,H' b=b0 (.tbl (Y++O)))
  (ns:∀m,s.heap.Ns X.env.locals m->h'.Ns X.env.locals m)(Z:HOk X.prog X.w H' h')(hg:a0G g') :
  Inv X a5N σ H' {s with heap:=h',gens:=g',drawn:=d',toks:=t'}:=by
 have Q:∀b o,X.s₀.heap.get? b=b0 o->b≠X.env.locals:=λb o e=>VI (VX (Vn e) I.ok.above);have A:∀b o,X.s₀.heap.get? b=b0 o->b∉X.ex->b∉ch:=λb o e a G=>by
  rcases(h b G).1 with z|z
  .exact a z
  .exact absurd (VX (Vn e) z) (W3 _)
 have g:∀x c,X.env.cells.lookup x=b0 c->∀v,s.heap.IsCell c v->h'.IsCell c v:=λx c e v ⟨o,L,hd⟩=>by
  have w:c∉ch:=λz=>(h c z).2.2.1 x c e rfl;by_cases hc:c∈X.fs
  .obtain⟨sl,q⟩:=B c o (I.cne x c e) hc w L (I.freeC x c e);exact⟨_,q,hd⟩
  .exact⟨o,j c o (I.cne x c e) hc w L (I.freeC x c e),hd⟩
 refine⟨I.ok,I.os,hg,⟨λb o e n G a=>?_,λb o e n G a=>?_,λb o e n a=>?_,λb o e a=>?_,λb E e=>U b E (I.base.tups b E e),λb o E e=>N b o E (I.base.frzs b o E e),λb Y e=>?_⟩,?_,λx c e=>?_,?_,λx c e=>?_,λp hp=>?_,Z,I.len⟩
 .exact j b o (Q b o e) G (A b o e a) (I.base.keep b o e n G a) (I.base.free b o e n a)
 .obtain⟨sl,y⟩:=I.base.slot b o e n G a;obtain⟨sl',M⟩:=B b _ (Q b o e) G (A b o e a) y (I.base.free b o e n a);exact⟨sl',M⟩
 .obtain⟨R,y⟩:=I.base.there b o e a;exact free b R (A b o e a) y (I.base.free b o e n a)
 .obtain⟨R,y⟩:=I.base.there b o e a;exact K b R (A b o e a) y
 .obtain⟨m1,y⟩:=I.base.tbls b Y e;obtain⟨m2,M⟩:=T b _ y;exact⟨m1++m2,by rw[M,Array.append_assoc]⟩
 .obtain⟨m,hn,hl⟩:=I.loc;refine⟨m,ns m hn,λi x v y M e3=>?_⟩;obtain⟨u,r,l⟩:=hl i x v y M e3;refine⟨u,r,?_⟩;rcases l with l|⟨k,c,e,z⟩
  .exact .inl l
  .exact .inr ⟨k,c,e,g x c e _ z⟩
 .obtain⟨v,z⟩:=I.cell x c e;exact⟨v,g x c e v z⟩
 .obtain⟨m,⟨o,_,_,L,_⟩,_⟩:=I.loc;exact free _ o (λz=>(h _ z).2.1 rfl) L I.free
 .obtain⟨v,o,L,hd⟩:=I.cell x c e;exact free c o (λz=>(h c z).2.2.1 x c e rfl) L (I.freeC x c e)
 .obtain⟨e,n,ne,nf,d⟩:=I.pin p hp;have w:p.1∉ch:=λz=>(h p.1 z).2.2.2 p hp rfl;exact⟨j p.1 p.2 ne nf w e n,free p.1 p.2 w e n,ne,nf,d⟩
theorem Inv.un{t':Nat}(I:Inv X a5N σ H s)(u:Un X.fs [] H H' s.heap h')(h:HOk X.prog X.w H' h'):Inv X a5N σ H' {s with heap:=h',toks:=t'}:=by
 obtain⟨m,⟨o,q,p,i,r⟩,_⟩:=id I.loc;obtain⟨x,j⟩:=u.any i I.free (by simp);exact I.step (g':=s.gens) (d':=s.drawn) (ch:=[]) (λ_ z=>nomatch z) (λb o _ g _ e n=>u.keep b o e n g (by simp)) (λb o _ g _ e n=>u.slot b o e n g (by simp)) (λb o _ e n=>u.free b o e n (by simp)) (λb o _ e=>u.there b o e (by simp)) u.tups u.frzs u.tbls (λv k=>by
  obtain⟨w,d,c,a,l⟩:=k;rw[i]at a;cases a;exact⟨_,d,c,j,l⟩) h I.bare
theorem Inv.call{g':Array a4d}{t':Nat}{d':Drawn}{ch:List Addr}(I:Inv X a5N σ H s)(u:Un (gP X.stack) ch H H' s.heap h')(j:HOk X.prog X.w H' h')(q:a0G g')
  (a:∀b∈ch,(b∈X.ex\/X.s₀.heap.objs.size<=b)/\b≠X.env.locals/\(∀x c,X.env.cells.lookup x=b0 c->c≠b)/\∀p∈X.pn++a5N,p.1≠b) :
  Inv X a5N σ H' {s with heap:=h',gens:=g',drawn:=d',toks:=t'}:=by
 obtain⟨m,⟨o,A,y,k,r⟩,_⟩:=id I.loc;obtain⟨G,i⟩:=u.any k I.free λz=>(a _ z).2.1 rfl;exact I.step (ch:=ch) a (λb o i l hc e n=>u.keep b o e n (λz=>(Wf.mp (I.stkSub b z)).elim i l) hc) (λb o _ _ hc e n=>u.any e n hc) (λb o hc e n=>u.free b o e n hc) (λb o hc e=>u.there b o e hc) u.tups u.frzs u.tbls (λB v=>by
  obtain⟨E,h,g,d,w⟩:=v;rw[k]at d;cases d;exact⟨_,h,g,i,w⟩) j q
theorem Inv.turned{t':Nat}{a:Addr}(I:Inv X a5N σ H s)(k:∀b o,b≠a->s.heap.get? b=b0 o->h'.get? b=b0 o)(A:H a=b3)(g:a≠X.env.locals)
  (h1:a∈X.ex\/X.s₀.heap.objs.size<=a)(j:∀x c,X.env.cells.lookup x=b0 c->c≠a)(l:∀p∈X.pn++a5N,p.1≠a):Inv X a5N σ H {s with heap:=h',toks:=t'}:=by
 have d:∀b u,H b=b0 u->b≠a:=λb u e z=>by rw[z,A]at e;cases e
 refine I.step (g':=s.gens) (d':=s.drawn) (ch:=[a]) (λb w=>?_) (λb o _ _ hc e _=>k b o (λz=>hc (by simp[z])) e) (λb o _ _ hc e _=>⟨o.slots,k b o (λz=>hc (by simp[z])) e⟩) (λ_ _ _ _ n=>n)
  (λb o hc e=>⟨o,k b o (λz=>hc (by simp[z])) e⟩) (λ_ _ e=>e) (λ_ _ _ e=>e) (λb E e=>⟨#[],by rw[e];simp⟩) (λm y=>?_) (λb u e=>?_) I.bare
 .have e:b=a:=by simpa using w
  subst e;exact⟨h1,g,j,l⟩
 .obtain⟨o,i,h,B,r⟩:=y;exact⟨o,i,h,k _ o (WM g) B,r⟩
 .refine(I.hok b u e).stay (λc v hc q=>k c v ?_ q) (λ_ q=>q) λ_ _ q=>q;rcases hc with z|z
  .rw[z];exact d b u e
  .exact d c _ z
theorem Inv.tok(I:Inv X a5N σ H s)(t:Nat):Inv X a5N σ H {s with toks:=t}:=I.un (h':=s.heap) (t':=t) Un.refl I.hok
theorem Inv.kept{t':Nat}(I:Inv X a5N σ H s)(k:∀b u,s.heap.get? b=b0 u->h'.get? b=b0 u):Inv X a5N σ H {s with heap:=h',toks:=t'}:=I.un (Un.kept k) (I.hok.kept k)
theorem Inv.laid{a:Addr}{o:HO}{t':Nat}(I:Inv X a5N σ H s)(k:∀b u,s.heap.get? b=b0 u->h'.get? b=b0 u)(c:s.heap.objs.size<=a)(new:ObjOk X.prog X.w (aK H a o) h' a o) :
  Inv X a5N σ (aK H a o) {s with heap:=h',toks:=t'}:=I.un (Un.laid k c (I.hok.fresh c)) (I.hok.laid k c new)
theorem Inv.write{x e:Addr}{o:HO}{t':Nat}(I:Inv X a5N σ H s)(d:pL (H x))(c:e=x\/H e=b0 (.own x))(k:∀b u,b≠e->s.heap.get? b=b0 u->h'.get? b=b0 u)(a:∃u,h'.get? e=b0 u)
  (new:ObjOk X.prog X.w (aK H x o) h' x o):Inv X a5N σ (aK H x o) {s with heap:=h',toks:=t'}:=I.un (Un.write d c k a) (I.hok.write d c k a new)
theorem Inv.pins_of{a:jw}(I:Inv X a5N σ H s)(h:∀p∈a,s.heap.get? p.1=b0 p.2/\H p.1=b3/\p.1≠X.env.locals/\p.1∉X.fs/\∀v,p.2.data≠.cell v):Inv X a σ H s:=
 ⟨I.ok,I.os,I.bare,I.base,I.loc,I.cell,I.free,I.freeC,λp c=>(V4.mp c).elim (λz=>I.pin p (a2y _ z)) (h p),I.hok,I.len⟩
theorem A8{N:List Str}(e:N.Nodup){i j:Nat}{x:Str}(a:N[i]?=b0 x)(b:N[j]?=b0 x):i=j:=by obtain⟨g,c⟩:=Vc.mp a;obtain⟨h,d⟩:=Vc.mp b;exact(a3H e).mp (c.trans d.symm)
theorem A9{M:a2W}{A:VO}{E:Value->Ve->Prop}{i:Nat}{x:Str}{v:V}{u:Value}{Q:Unit->Ve->Prop}(I:Inv X a5N σ H s)(hN:X.N.Nodup)(hi:X.N[i]?=b0 x)(B:Loc X.env.scope x)(r:RelV v u)
  (h:∀s',Inv X a5N (σ.set i (b0 v)) H s'->(∃a,Y0 a s.heap s'.heap/\(a=X.env.locals\/X.env.cells.lookup x=b0 a))->Q () s')(hf:X.fn x=dI\/X.env.scope.names.lookup x=b0 .local:=by first|exact .inl rfl|exact .inr rfl|assumption):VH M A (storeName X.env x u) Q E s:=by
 obtain⟨m,hn,hl⟩:=id I.loc;have Z:(X.env.scope.kind==.class||(X.env.scope.kind==.module&&X.env.locals != X.env.globals))=false:=by rw[I.ok.kind];rfl
 have L:i<σ.length:=by rw[I.len];exact(Vc.mp hi).1
 have cne:=I.cne;have w:∀{a:Addr}{h':WA},(∃o,s.heap.get? a=b0 o/\H a=b3)->Y0 a s.heap h'->HOk X.prog X.w H h':=λ{a h'} ha g b ob e=>by
  obtain⟨_,_,G⟩:=ha;refine(I.hok b ob e).stay (λc w' hc q=>(g.2 c ?_).trans q) (λ_ q=>q) λ_ _ q=>q;rintro rfl;rcases hc with rfl|hc
  .rw[G]at e;cases e
  .rw[G]at hc;cases hc
 rcases B with N|N
 .refine wpAny_storeName_local N hn (λh' hn' g=>?_) Z;obtain⟨oL,_,_,hoL,_⟩:=id hn;refine h _ ⟨I.ok,I.os,I.bare,⟨λb o e n O B=>?_,λb o e n O B=>?_,I.base.free,λb o e B=>?_,I.base.tups,I.base.frzs,I.base.tbls⟩,⟨_,hn',λj y v' l K e3=>?_⟩,λy c e=>?_,I.free,I.freeC,λp hp=>?_,w ⟨oL,hoL,I.free⟩ g,by simpa using I.len⟩ ⟨_,g,.inl rfl⟩
  .exact(g.2 b (VI (VX (Vn e) I.ok.above))).trans (I.base.keep b o e n O B)
  .obtain⟨sl,l⟩:=I.base.slot b o e n O B;exact⟨sl,(g.2 b (VI (VX (Vn e) I.ok.above))).trans l⟩
  .obtain⟨o',l⟩:=I.base.there b o e B;exact⟨o',(g.2 b (VI (VX (Vn e) I.ok.above))).trans l⟩
  .by_cases T:j=i
   .subst T;rw[hi]at l;cases l;rw[Wu L]at K;cases K;exact⟨u,r,.inl ⟨N,by simp⟩⟩
   .rw[V3 (WM T)]at K;obtain⟨u',r',q⟩:=hl j y v' l K e3;refine⟨u',r',?_⟩;rcases q with⟨k,e⟩|⟨k,c,e,z⟩
    .refine .inl ⟨k,?_⟩;have:y≠x:=λe=>T (A8 hN l (e▸hi));simp[this,e]
    .exact .inr ⟨k,c,e,z.sameBut g (cne y c e)⟩
  .obtain⟨w',z⟩:=I.cell y c e;exact⟨w',z.sameBut g (cne y c e)⟩
  .obtain⟨e,n,ne,nf,d⟩:=I.pin p hp;exact⟨(g.2 p.1 ne).trans e,n,ne,nf,d⟩
 .have R:X.fn x=true:=by
   rcases hf with z|z
   .exact z
   .rw[z]at N;cases N
  obtain⟨c,hc⟩:=I.ok.has x (.inl N);obtain⟨w',z⟩:=I.cell x c hc;refine wpAny_storeName_cell I.ok.kind N hc z (λh' U g=>?_);obtain⟨oc,hoc,hocd⟩:=id z;refine h {s with heap:=h'} ⟨I.ok,I.os,I.bare,⟨λb o e n O B=>?_,λb o e n O B=>?_,I.base.free,λb o e B=>?_,I.base.tups,I.base.frzs,I.base.tbls⟩,⟨m,hn.sameBut g (WM (cne x c hc)),λj y v' l K e3=>?_⟩,λy c' e=>?_,I.free,I.freeC,λp hp=>?_,w ⟨oc,hoc,I.freeC x c hc⟩ g,by simpa using I.len⟩ ⟨c,g,.inr hc⟩
  .exact(g.2 b (VI (VX (Vn e) (I.ok.cab x c R hc)))).trans (I.base.keep b o e n O B)
  .obtain⟨sl,l⟩:=I.base.slot b o e n O B;exact⟨sl,(g.2 b (VI (VX (Vn e) (I.ok.cab x c R hc)))).trans l⟩
  .obtain⟨o',l⟩:=I.base.there b o e B;exact⟨o',(g.2 b (VI (VX (Vn e) (I.ok.cab x c R hc)))).trans l⟩
  .by_cases T:j=i
   .subst T;rw[hi]at l;cases l;rw[Wu L]at K;cases K;exact⟨u,r,.inr ⟨.inl N,c,hc,U⟩⟩
   .rw[V3 (WM T)]at K;obtain⟨u',r',q⟩:=hl j y v' l K e3;refine⟨u',r',?_⟩;rcases q with q|⟨k,c',e,z'⟩
    .exact .inl q
    .refine .inr ⟨k,c',e,z'.sameBut g ?_⟩;rintro rfl;exact T (A8 hN l (I.ok.inj _ _ _ e hc▸hi))
  .by_cases Y:c'=c
   .subst Y;exact⟨_,U⟩
   .obtain⟨w2,z2⟩:=I.cell y c' e;exact⟨w2,z2.sameBut g Y⟩
  .obtain⟨e,n,ne,nf,d⟩:=I.pin p hp;refine⟨(g.2 p.1 ?_).trans e,n,ne,nf,d⟩;intro q;rw[q,hoc]at e;have q':oc=p.2:=Vs e;exact d w' (by rw[<- q'];exact hocd)
theorem Ba{M:a2W}{A:VO}{E:Value->Ve->Prop}{i:Nat}{x:Str}{v:V}{u:Value}{Q:Unit->Ve->Prop}(I:Inv X a5N σ H s)(d:X.N.Nodup)(g:X.N[i]?=b0 x)(j:Loc X.env.scope x)(r:RelV v u)
  (h:∀a,Inv X a5N (σ.set i (b0 v)) H a->Q () a)(e:X.fn x=dI\/X.env.scope.names.lookup x=b0 .local:=by first|exact .inl rfl|exact .inr rfl|assumption):VH M A (storeName X.env x u) Q E s:=
 A9 I d g j r (λa c _=>h a c) e
end
noncomputable abbrev XK:=Value->Option Addr->Hp->Prop
noncomputable abbrev St:=List (Option V)
noncomputable abbrev VK:=V->Hp->Prop
noncomputable abbrev TE:=St->Hp->VK->Prop
noncomputable abbrev TT:=St->Hp->(Bool->Hp->Prop)->Prop
noncomputable abbrev TA:=St->Hp->(List V->Hp->Prop)->Prop
structure Ends where
 nx:St->Hp->Prop
 rt:VK
 bk:St->Hp->Prop:=λ_ _=>False
 ct:St->Hp->Prop:=λ_ _=>False
noncomputable abbrev TS:=Ends->St->Hp->Prop
inductive EP (X:Cx)(a5N:jw)(σ:St)(Q:VK)(u:Value)(s':Ve):Prop
 |mk (v:V)(H':Hp)(I:Inv X a5N σ H' s')(r:RelV v u)(q:Q v H'):EP X a5N σ Q u s'
inductive TP (X:Cx)(a5N:jw)(σ:St)(Q:Bool->Hp->Prop)(b:Bool)(s':Ve):Prop
 |mk (H':Hp)(I:Inv X a5N σ H' s')(q:Q b H'):TP X a5N σ Q b s'
inductive AP (X:Cx)(a5N:jw)(σ:St)(Q:gw->Hp->Prop)(us:gq)(s':Ve):Prop
 |mk (vs:gw)(H':Hp)(I:Inv X a5N σ H' s')(r:Vals vs us)(q:Q vs H'):AP X a5N σ Q us s'
inductive SPn (X:Cx)(a5N:jw)(Q:St->Hp->Prop)(s':Ve):Prop
 |mk (σ':St)(H':Hp)(I:Inv X a5N σ' H' s')(q:Q σ' H'):SPn X a5N Q s'
inductive SPr (X:Cx)(a5N:jw)(Q:VK)(u:Value)(s':Ve):Prop
 |mk (v:V)(σ':St)(H':Hp)(I:Inv X a5N σ' H' s')(r:RelV v u)(q:Q v H'):SPr X a5N Q u s'
noncomputable def SP(X:Cx)(a5N:jw)(D:Ends)(f:Flow)(a:Ve):Prop:=
 match f with
 |.next=>SPn X a5N D.nx a|.brk=>SPn X a5N D.bk a|.cont=>SPn X a5N D.ct a|.ret u=>SPr X a5N D.rt u a
noncomputable def PE(X:Cx)(e:Expr)(t:TE):Prop:=
 ∀(a5N:jw)(s:Ve)(σ:St)(H:Hp)(Q:VK),Inv X a5N σ H s->t σ H Q->VH (VF X.prog X.w) X.A (eval e X.env) (EP X a5N σ Q) X.xe s
noncomputable def PT(X:Cx)(e:Expr)(t:TT):Prop:=
 ∀(a5N:jw)(s:Ve)(σ:St)(H:Hp)(Q:Bool->Hp->Prop),Inv X a5N σ H s->t σ H Q->VH (VF X.prog X.w) X.A (a3i e X.env (eval e X.env)) (TP X a5N σ Q) X.xe s
noncomputable def PW(X:Cx)(e:Expr)(t:TT):Prop:=
 ∀(a:a2S Value)(a5N:jw)(s:Ve)(σ:St)(H:Hp)(Q:Bool->Hp->Prop),Inv X a5N σ H s->t σ H Q->VH (VF X.prog X.w) X.A (a3i e X.env a) (TP X a5N σ Q) X.xe s
theorem PW.pt{X:Cx}{e:Expr}{t:TT}(h:PW X e t):PT X e t:=h _
noncomputable def PA(X:Cx)(es:List Expr)(t:TA):Prop:=
 ∀(pos:W9)(a5N:jw)(s:Ve)(σ:St)(H:Hp)(Q:gw->Hp->Prop),Inv X a5N σ H s->t σ H Q->VH (VF X.prog X.w) X.A (spliced (Yq pos (V7 es X.env))) (AP X a5N σ Q) X.xe s
noncomputable def PS(X:Cx)(st:Stmt)(t:TS):Prop:=
 ∀(a5N:jw)(s:Ve)(σ:St)(H:Hp)(D:Ends),Inv X a5N σ H s->t D σ H->VH (VF X.prog X.w) X.A (exec st X.env) (SP X a5N D) X.xe s
noncomputable def PSs(X:Cx)(st:List Stmt)(t:TS):Prop:=
 ∀(a5N:jw)(s:Ve)(σ:St)(H:Hp)(D:Ends),Inv X a5N σ H s->t D σ H->VH (VF X.prog X.w) X.A (execs st X.env) (SP X a5N D) X.xe s
theorem aR{d:Type}{t:a2S d}{Q c:d->Ve->Prop}{M:a2W}{A:VO}{E:Value->Ve->Prop}{s:Ve}(h:VH M A t Q E s)(e:∀a s,Q a s->c a s):VH M A t c E s:=Wr h e λ_ _ x=>x
section
variable{X:Cx}
noncomputable def vM(i:Nat):TE:=λσ H Q=>∃v,σ[i]?=b0 (b0 v)/\Q v H
noncomputable def tC(v:V):TE:=λ_ H Q=>Q v H
theorem Bb{i:Nat}{x:Str}{pos:W9}(k:X.N[i]?=b0 x)(q:l9 X.env.scope x)(hd:(x==("__debug__":Str))=false:=by decide) (j:(x==("__classdict__":Str))=false:=by decide):PE X (.Name x pos) (vM i):=by
 intro g s w H Q I h;obtain⟨v,e,h⟩:=h;obtain⟨m,p,n⟩:=I.loc;obtain⟨u,r,l⟩:=n i x v k e q;have fin:EP X g w Q u s:=⟨v,H,I,r,h⟩;rcases l with⟨d,o⟩|⟨d,c,hc,a⟩
 .exact a4m (wpAny_loadName_local I.ok.kind d p o fin) hd
 .rcases d with d|d
  .exact a4m (wpAny_loadName_cell I.ok.kind d hc a fin) hd
  .exact a4m (wpAny_loadName_free I.ok.kind d hc a fin j) hd
theorem G0{i j pos}:PE X (.Constant (.int i) j pos) (tC (.int i)):=λ_ _ _ H _ I h=>wpAny_Constant_int ⟨.int i,H,I.tok _,⟨_,rfl⟩,h⟩
theorem G1{b j pos}:PE X (.Constant (.bool b) j pos) (tC (.bl b)):=λ_ _ _ H _ I h=>Constant_bool ⟨.bl b,H,I,rfl,h⟩
theorem G2{j pos}:PE X (.Constant .none j pos) (tC .non):=λ_ _ _ H _ I h=>Constant_none ⟨.non,H,I,rfl,h⟩
theorem G3{x j pos}:PE X (.Constant (.str x) j pos) (tC (.str x)):=λ_ _ _ H _ I h=>Calls.Constant_str ⟨.str x,H,I.tok _,⟨_,rfl⟩,h⟩
noncomputable def Gl(X:Cx)(x:Str):Prop:=X.env.kindOf x=b0 .globalImplicit
theorem vO{E:Value->Ve->Prop}{a5N:jw}{s:Ve}{σ:St}{H:Hp}{x:Str}{u:Value}{pos:W9}{Q:Value->Ve->Prop}(I:Inv X a5N σ H s)(a:Gl X x)(c:X.mg x=b0 u)(h:Q u s)
  (hd:(x==("__debug__":Str))=false:=by decide):VH (VF X.prog X.w) X.A (eval (.Name x pos) X.env) Q E s:=
 a1r I.ok.kind a (Calls.loadGlobal_global (by rw[I.ok.glob];exact I.mod.glob.keeps I.bk) c h) hd
theorem i0{E:Value->Ve->Prop}{a5N:jw}{s:Ve}{σ:St}{H:Hp}{x:Str}{u:Value}{pos:W9}{Q:Value->Ve->Prop}(I:Inv X a5N σ H s)(d:Gl X x)(e:X.mg x=b3)(i:Xb x=b0 u)(h:Q u s)
  (g:x ≠ "__name__":=by decide) (hd:(x==("__debug__":Str))=false:=by decide):VH (VF X.prog X.w) X.A (eval (.Name x pos) X.env) Q E s:=by
 obtain⟨j,a,c⟩:=I.mod.blt;exact a1r I.ok.kind d (Calls.loadGlobal_builtin (by rw[I.ok.glob];exact I.mod.glob.keeps I.bk) e (by rw[I.ok.blt];exact a.keeps I.bk) ((c x g).trans i) h) hd
theorem G4{x:Str}{v:V}{u:Value}{pos:W9}(a:Gl X x)(c:X.mg x=b0 u)(r:RelV v u)(hd:(x==("__debug__":Str))=false:=by decide):PE X (.Name x pos) (tC v):=
 λ_ _ _ H _ I h=>vO I a c ⟨v,H,I,r,h⟩ hd
theorem G5{x:Str}{v:V}{u:Value}{pos:W9}(a:Gl X x)(c:X.mg x=b3)(e:Xb x=b0 u)(r:RelV v u)(d:x ≠ "__name__":=by decide) (hd:(x==("__debug__":Str))=false:=by decide):PE X (.Name x pos) (tC v):=
 λ_ _ _ H _ I h=>i0 I a c e ⟨v,H,I,r,h⟩ d hd
variable{a b:Expr}{ta tb:TE}{pos:W9}
variable{tA tB':TT}{rest:List Expr}
noncomputable def G6(t u:TT):TT:=λσ H Q=>t σ H λc d=>if c=dI then u σ d Q else Q b5 d
noncomputable def G7(t u:TT):TT:=λσ H Q=>t σ H λc d=>if c=dI then Q dI d else u σ d Q
noncomputable def G8(t:TT):TT:=λσ H Q=>t σ H λc d=>Q (!c) d
theorem G9(g:PT X a tA):PW X (.BoolOp .And [a] pos) tA:=by
 intro k d s i H Q I h;refine isTrue_and (aR (g d s i H Q I h) λc j e=>?_);cases c with
 |true=>exact isTrue_and_nil e|false=>exact e
theorem Ha(g:PT X a tA):PW X (.BoolOp .Or [a] pos) tA:=by
 intro k d s i H Q I h;refine isTrue_or (aR (g d s i H Q I h) λc j e=>?_);cases c with
 |false=>exact isTrue_or_nil e|true=>exact e
theorem Hb(k:PT X a tA)(l:PW X (.BoolOp .And (b::rest) pos) tB'):PW X (.BoolOp .And (a::b::rest) pos) (G6 tA tB'):=by
 intro n d s j H Q I h;refine isTrue_and (aR (k d s j H _ I h) λc m ⟨e,g,i⟩=>?_);cases c with
 |true=>exact l n d m j e Q g i|false=>exact⟨e,g,i⟩
theorem Hc(k:PT X a tA)(l:PW X (.BoolOp .Or (b::rest) pos) tB'):PW X (.BoolOp .Or (a::b::rest) pos) (G7 tA tB'):=by
 intro n d s j H Q I h;refine isTrue_or (aR (k d s j H _ I h) λc m ⟨e,g,i⟩=>?_);cases c with
 |true=>exact⟨e,g,i⟩|false=>exact l n d m j e Q g i
theorem Hd(i:PT X a tA):PT X (.UnaryOp .Not a pos) (G8 tA):=by intro d s j H Q I h;exact isTrue_not (aR (i d s j H (λc g=>Q (!c) g) I h) λ_ _ ⟨e,J,q⟩=>⟨e,J,q⟩)
noncomputable def He(ta tb:TE):TE:=λσ H Q=>ta σ H λx d=>∃c,x=.bl c/\if c=dI then tb σ d Q else Q (.bl b5) d
noncomputable def Hf(ta tb:TE):TE:=λσ H Q=>ta σ H λx d=>∃c,x=.bl c/\if c=dI then Q (.bl dI) d else tb σ d Q
noncomputable def Hg(ta:TE):TE:=λσ H Q=>ta σ H λx d=>∃c,x=.bl c/\Q (.bl (!c)) d
theorem Hh{op} {t:TE}(h:PE X a t):PE X (.BoolOp op [a] pos) t:=λa5N s σ H Q I hw=>BoolOp_one (h a5N s σ H Q I hw)
theorem Hi(k:PE X a ta)(l:PE X (.BoolOp .And (b::rest) pos) tb):PE X (.BoolOp .And (a::b::rest) pos) (He ta tb):=by
 intro d s j H Q I h;refine BoolOp_and (aR (k d s j H _ I h) λv n ⟨x,g,i,m,e⟩=>?_);obtain⟨c,rfl,e⟩:=e;cases m;refine WS ?_;cases c with
 |true=>exact l d n j g Q i e|false=>exact⟨.bl b5,g,i,rfl,e⟩
theorem Hj(k:PE X a ta)(l:PE X (.BoolOp .Or (b::rest) pos) tb):PE X (.BoolOp .Or (a::b::rest) pos) (Hf ta tb):=by
 intro d s j H Q I h;refine BoolOp_or (aR (k d s j H _ I h) λv n ⟨x,g,i,m,e⟩=>?_);obtain⟨c,rfl,e⟩:=e;cases m;refine WS ?_;cases c with
 |false=>exact l d n j g Q i e|true=>exact⟨.bl dI,g,i,rfl,e⟩
theorem Hk(j:PE X a ta):PE X (.UnaryOp .Not a pos) (Hg ta):=by intro d s l H Q I h;refine UnaryOp_ (aR (j d s l H _ I h) λv m ⟨x,g,i,k,e⟩=>?_);obtain⟨c,rfl,e⟩:=e;cases k;exact not_of (WS ⟨.bl (!c),g,i,rfl,e⟩)
noncomputable def Hl(t:TT)(ta tb:TE):TE:=λσ H Q=>t σ H λc d=>if c=dI then ta σ d Q else tb σ d Q
theorem Hn{c:Expr}(hc:PT X c tA)(m:PE X a ta)(n:PE X b tb):PE X (.IfExp c a b pos) (Hl tA ta tb):=by
 intro e s g H Q I h;refine wpAny_IfExp (aR (hc e s g H _ I h) λd l ⟨i,j,k⟩=>?_);cases d with
 |true=>exact m e l g i Q j k|false=>exact n e l g i Q j k
end
noncomputable def SqL(K:U9)(H:Hp)(a:Addr)(xs:gw):Prop:=
 Rd H a (.lst xs) \/
  ∃(o:Obj)(c:Array Value)(n:Nat),K.lookup a=b0 o/\o.cls=.type "list"/\o.dict=b3/\o.data=.seq c n/\c.size<=Vp/\Vals xs c.toList
noncomputable def SqT(K:U9)(H:Hp)(a:Addr)(xs:gw):Prop:=
 Rd H a (.tup xs) \/
  ∃(o:Obj)(c:Array Value)(n:Nat),K.lookup a=b0 o/\o.cls=.type "tuple"/\o.dict=b3/\o.data=.seq c n/\c.size<=Vp/\Vals xs c.toList
noncomputable def Ho:Value->Option V
 |.none=>b0 .non|.bool b=>b0 (.bl b)|.int i _=>b0 (.int i)|.str x _=>b0 (.str x)|.bytes b _=>b0 (.byt b)|.float b _=>b0 (.flt b)|.ref a=>b0 (.ref a)|.type n=>b0 (.ty n)|_=>b3
theorem RelV.abs{x:V}{u:Value}(r:RelV x u):Ho u=b0 x:=by
 cases x with
 |non=>cases r;rfl|bl _=>cases r;rfl|int _=>obtain⟨t,rfl⟩:=r;rfl|str _=>obtain⟨t,rfl⟩:=r;rfl|byt _=>obtain⟨t,rfl⟩:=r;rfl|flt _=>obtain⟨t,rfl⟩:=r;rfl|ref _=>cases r;rfl|ty _=>cases r;rfl
theorem RelV.inj{x y:V}{u:Value}(r:RelV x u)(q:RelV y u):x=y:=Vs (r.abs.symm.trans q.abs)
theorem Vals.inj:∀{xs a:gw}{us:gq},Vals xs us->Vals a us->xs=a
 |_,_,_,.nil,.nil=>rfl|_,_,_,.cons r t,.cons r' t'=>by rw[r.inj r',Vals.inj t t']
section
variable{X:Cx}{a5N:jw}{σ:St}{H:Hp}{s:Ve}{a:Addr}{xs ys:gw}
theorem SqL.of{K:U9}(h:H a=b0 (.lst xs)):SqL K H a xs:=.inl (.inl h)
theorem SqT.of{K:U9}(h:H a=b0 (.tup xs)):SqT K H a xs:=.inl (.inl h)
theorem Inv.list(I:Inv X a5N σ H s)(h:SqL X.K H a xs):∃c:gq,Vals xs c/\PlainL s.heap a c.toArray/\xs.length<=Vp:=by
 rcases h with h|⟨o,c,n,d,hc,hd,g,i,r⟩
 .obtain⟨z,c,n,r,e⟩:=h.ok I.hok;exact⟨c,r,⟨_,n,e,rfl,rfl,rfl⟩,z⟩
 .refine⟨c.toList,r,⟨o,n,I.kIn a o d,hc,hd,by simpa using g⟩,?_⟩;have e:=r.length;simp only[YA]at e;lia
theorem Inv.tuple(I:Inv X a5N σ H s)(h:SqT X.K H a xs):∃c:gq,Vals xs c/\a4N s.heap a c.toArray/\xs.length<=Vp:=by
 rcases h with h|⟨o,c,n,d,hc,hd,g,i,r⟩
 .obtain⟨z,c,r,p⟩:=h.ok I.hok;exact⟨c,r,p.tup,z⟩
 .refine⟨c.toList,r,⟨o,I.kIn a o d,hc,n,by simpa using g⟩,?_⟩;have e:=r.length;simp only[YA]at e;lia
theorem Inv.tupN(I:Inv X a5N σ H s)(h:SqT X.K H a xs):∃c:gq,Vals xs c/\TupN s.heap a c.toArray:=by
 rcases h with h|⟨o,c,n,d,hc,hd,e,g,r⟩
 .obtain⟨z,c,r,p⟩:=h.ok I.hok;exact⟨c,r,p⟩
 .exact⟨c.toList,r,o,I.kIn a o d,hc,n,by simpa using e,hd⟩
theorem Inv.list_inj(I:Inv X a5N σ H s)(h:SqL X.K H a xs)(h':SqL X.K H a ys):xs=ys:=by
 obtain⟨g,r,⟨o,n,e,_,_,d⟩,_⟩:=I.list h;obtain⟨c,k,⟨m,l,j,_,_,i⟩,_⟩:=I.list h';rw[e]at j;cases j;rw[d]at i;injection i with d1 _;have:g=c:=by simpa using congrArg a4z d1
 subst this;exact r.inj k
theorem Inv.tuple_inj(I:Inv X a5N σ H s)(h:SqT X.K H a xs)(h':SqT X.K H a ys):xs=ys:=by
 obtain⟨g,r,⟨o,e,_,n,d⟩,_⟩:=I.tuple h;obtain⟨c,k,⟨m,j,_,l,i⟩,_⟩:=I.tuple h';rw[e]at j;cases j;rw[d]at i;injection i with d1 _;have:g=c:=by simpa using congrArg a4z d1
 subst this;exact r.inj k
end
noncomputable abbrev Cx.wish(X:Cx)(E:Value->Ve->Prop):Cx:={X with xe:=E}
noncomputable abbrev Cx.nox(X:Cx):Cx:=X.wish λ_ _=>False
theorem Cx.Ok.wish{X:Cx}(ok:X.Ok)(E:Value->Ve->Prop):(X.wish E).Ok:=
 ⟨ok.mod,ok.kind,ok.glob,ok.blt,ok.above,ok.inj,ok.has,ok.cab,ok.hd,ok.frames,ok.stk,ok.exf,ok.bs,ok.bsz,ok.noex,ok.exfs,ok.funs,ok.frf⟩
theorem Cx.Ok.unwish{X:Cx}{E:Value->Ve->Prop}(ok:(X.wish E).Ok):X.Ok:=
 ⟨ok.mod,ok.kind,ok.glob,ok.blt,ok.above,ok.inj,ok.has,ok.cab,ok.hd,ok.frames,ok.stk,ok.exf,ok.bs,ok.bsz,ok.noex,ok.exfs,ok.funs,ok.frf⟩
section
variable{X:Cx}{a5N:jw}{σ:St}{H:Hp}{s:Ve}{E:Value->Ve->Prop}
theorem Inv.wish(I:Inv X a5N σ H s)(E:Value->Ve->Prop):Inv (X.wish E) a5N σ H s:=⟨I.ok.wish E,I.os,I.bare,I.base,I.loc,I.cell,I.free,I.freeC,I.pin,I.hok,I.len⟩
theorem Inv.unwish(I:Inv (X.wish E) a5N σ H s):Inv X a5N σ H s:=⟨I.ok.unwish,I.os,I.bare,I.base,I.loc,I.cell,I.free,I.freeC,I.pin,I.hok,I.len⟩
theorem SP.unwish{D:Ends}{f:Flow}{d:Ve}(h:SP (X.wish E) a5N D f d):SP X a5N D f d:=by
 cases f with
 |next=>obtain⟨a,c,I,q⟩:=h;exact⟨a,c,I.unwish,q⟩|brk=>obtain⟨a,c,I,q⟩:=h;exact⟨a,c,I.unwish,q⟩|cont=>obtain⟨a,c,I,q⟩:=h;exact⟨a,c,I.unwish,q⟩|ret u=>obtain⟨v,a,c,I,r,q⟩:=h;exact⟨v,a,c,I.unwish,r,q⟩
theorem PSs.nox{st:List Stmt}{t:TS}(h:PSs X.nox st t):PSs X st t:=λa5N s σ H D I hw=>Wr (h a5N s σ H D (I.wish _) hw) (λ_ _ q=>q.unwish) λ_ _ z=>XO z
end
section
variable{X:Cx}{st:Stmt}{rest:List Stmt}{t u:TS}{e:Expr}{te:TE}{pos:W9}
noncomputable def Bc:TS:=λD σ H=>D.nx σ H
noncomputable def Hq(t u:TS):TS:=λD σ H=>t {D with nx:=u D} σ H
theorem Hr:PSs X [] Bc:=λ_ _ σ H _ I h=>a0k ⟨σ,H,I,h⟩
theorem Hs(h1:PS X st t)(i:PSs X rest u):PSs X (st::rest) (Hq t u):=by
 intro a s k H D I h;refine a4P (aR (h1 a s k H {D with nx:=u D} I h) λf j q=>?_);cases f with
 |next=>obtain⟨c,d,g,q⟩:=q;exact i a j c d D g q|ret v=>exact q|brk=>exact q|cont=>exact q
theorem Ht(h1:PS X st t):PSs X [st] t:=by
 intro a s c H D I h;refine a4P (aR (h1 a s c H D I h) λf d q=>?_);cases f with
 |next=>exact a0k q|ret v=>exact q|brk=>exact q|cont=>exact q
theorem Hu:PS X (.Pass pos) Bc:=λ_ _ σ H _ I h=>wpAny_Pass ⟨σ,H,I,h⟩
theorem Inv.quiet{a5N:jw}{σ:St}{H:Hp}{s:Ve}(I:Inv X a5N σ H s):interactive X.env=false:=by simp[interactive,I.ok.kind]
noncomputable def Hv(te:TE):TS:=λD σ H=>te σ H λ_ a=>D.nx σ a
theorem Hw(i:PE X e te)(j:Zj e b3 pos.line X.env=pure false:=by rfl):PS X (.Expr e pos) (Hv te):=by intro a s c H D I h;exact wpAny_Expr_any (aR (i a s c H _ I h) λv m ⟨x,d,g,l,k⟩=>⟨c,d,g,k⟩) I.quiet j
noncomputable def Hx(te:TE):TS:=λD σ H=>te σ H D.rt
theorem Hy(i:PE X e te):PS X (.Return (b0 e) pos) (Hx te):=by intro a s c H D I h;exact wpAny_Return_some (aR (i a s c H _ I h) λv l ⟨x,d,g,k,j⟩=>⟨x,c,d,g,k,j⟩)
noncomputable def Hz:TS:=λD _ H=>D.rt .non H
theorem HA:PS X (.Return b3 pos) Hz:=λ_ _ σ H _ I h=>wpAny_Return_none ⟨.non,σ,H,I,rfl,h⟩
noncomputable def HB(c:TT)(t u:TS):TS:=λD σ H=>c σ H λb a=>if b=dI then t D σ a else u D σ a
theorem HC{c:Expr}{a b:List Stmt}{n:TT}(hc:PT X c n)(o:PSs X a t)(p:PSs X b u):PS X (.If c a b pos) (HB n t u):=by
 intro g s i H D I h;refine wpAny_If (aR (hc g s i H _ I h) λd m ⟨j,k,l⟩=>?_);cases d with
 |true=>exact o g m i j D k l|false=>exact p g m i j D k l
end
noncomputable abbrev TG:=V->St->Hp->(St->Hp->Prop)->Prop
noncomputable abbrev nM:=List V->St->Hp->(St->Hp->Prop)->Prop
noncomputable def PG(X:Cx)(a:Expr)(t:TG):Prop:=
 ∀(a5N:jw)(s:Ve)(σ:St)(H:Hp)(v:V)(u:Value)(Q:St->Hp->Prop),Inv X a5N σ H s->RelV v u->t v σ H Q->
  VH (VF X.prog X.w) X.A (a0Y a X.env u) (λ_ c=>SPn X a5N Q c) X.xe s
noncomputable def pM(X:Cx)(ts:List Expr)(t:nM):Prop:=
 ∀(a5N:jw)(s:Ve)(σ:St)(H:Hp)(vs:gw)(us:gq)(Q:St->Hp->Prop),Inv X a5N σ H s->Vals vs us->t vs σ H Q->
  VH (VF X.prog X.w) X.A (assignInOrder ((XY ts X.env).map (·.2)) us) (λ_ a=>SPn X a5N Q a) X.xe s
noncomputable abbrev Bd:=V->V->V->Hp->(Hp->Prop)->Prop
noncomputable def HD(X:Cx)(t:Bd):Prop:=
 ∀(a5N:jw)(s:Ve)(σ:St)(H:Hp)(o i v:V)(d c u:Value)(Q:Hp->Prop),Inv X a5N σ H s->RelV o d->RelV i c->RelV v u->t o i v H Q->
  VH (VF X.prog X.w) X.A (setItem d c u) (λ_ e=>∃a,Inv X a5N σ a e/\Q a) X.xe s
section
variable{X:Cx}{pos:W9}
noncomputable def vP(i:Nat):TG:=λv σ H Q=>Q (σ.set i (b0 v)) H
theorem Be{i:Nat}{x:Str}(d:X.N.Nodup)(g:X.N[i]?=b0 x)(j:Loc X.env.scope x)(e:X.fn x=dI\/X.env.scope.names.lookup x=b0 .local:=by first|exact .inl rfl|exact .inr rfl|assumption):PG X (.Name x pos) (vP i):=by intro c s l H v u Q I r h;exact a4C (Ba I d g j r (λk a=>⟨_,H,a,h⟩) e)
noncomputable def Bf:nM:=λvs σ H Q=>vs=[]/\Q σ H
noncomputable def Bg(t:TG)(u:nM):nM:=λvs σ H Q=>∃v r,vs=v::r/\t v σ H λa c=>u r a c Q
theorem HE:pM X [] Bf:=by intro a s c H g d Q I r h;obtain⟨e,h⟩:=h;subst e;cases r;exact assignInOrder_nil ⟨c,H,I,h⟩
theorem HF{e:Expr}{es:List Expr}{t:TG}{u:nM}(h1:PG X e t)(j:pM X es u)
  (k:(XY (e::es) X.env).map (·.2)=a0Y e X.env::(XY es X.env).map (·.2):=by rfl):pM X (e::es) (Bg t u):=by
 intro a s o H w p Q I r h;obtain⟨v,q,i,h⟩:=h;subst i;cases r with
 |cons r m=>rw[k];refine assignInOrder_cons (aR (h1 a s o H _ _ _ I r h) λ_ n ⟨c,d,g,l⟩=>?_);exact j a n c d _ _ Q g m l
noncomputable def Bh(c:TE)(g:TG):TS:=λD σ H=>c σ H λx a=>g x σ a D.nx
theorem HG{tg e:Expr}{c:TE}{g:TG}(k:PE X e c)(l:PG X tg g)(m:swapsWithSole [tg] e pos.line X.env=pure false:=by rfl)(hw:a2H [tg] e X.env=pure none:=by rfl)
  (h1:(XY [tg] X.env).map (·.2)=[a0Y tg X.env]:=by rfl):PS X (.Assign [tg] e pos) (Bh c g):=by
 intro a s d H D I h;refine wpAny_Assign_stores (aR (k a s d H _ I h) λv p ⟨x,i,j,o,n⟩=>?_) m hw;rw[h1];exact aR (l a p d i x v _ j o n) λ_ r q=>q
theorem HH{i:Nat}{x:Str}{e:Expr}{d:TE}{a:W9}(l:X.N.Nodup)(o:X.N[i]?=b0 x)(q:Loc X.env.scope x)(m:PE X e d)(p:Zj e (b0 (.Name x a)) pos.line X.env=pure false:=by rfl)(n:X.fn x=dI\/X.env.scope.names.lookup x=b0 .local:=by first|exact .inl rfl|exact .inr rfl|assumption) :
  PS X (.Assign [.Name x a] e pos) (Bh d (vP i)):=by
 intro c s w H D I h;refine wpAny_Assign_Name (aR (m c s w H _ I h) λv z ⟨y,g,j,u,r⟩=>?_) p;exact Ba j l o q u (λA k=>⟨_,g,k,r⟩) n
end
section
variable{X:Cx}{pos:W9}
noncomputable def HI(c:TT)(h:TS):TS:=λD σ H=>∃W:Nat->St->Hp->Prop,(∃m,W m σ H)/\∀m σ H,W m σ H->
 c σ H λb e=>if b=dI then ∃N:St->Hp->Prop,(∀a d,N a d->∃g,g<m/\W g a d)/\h {D with nx:=N,ct:=N,bk:=D.nx} σ e else D.nx σ e
theorem HJ{c:Expr}{body:List Stmt}{B:TT}{A:TS}(z:a1I (VF X.prog X.w) X.A X.env X.xe)(hc:PT X c B)(G:PSs X body A):PS X (.While c body [] pos) (HI B A):=by
 intro e s T H D I h;obtain⟨W,⟨K,Q⟩,turn⟩:=h;refine wpAny_While (codeAny_whileLoop (λn L=>∃i r,Inv X e i r L/\W n i r) ?_ K ⟨T,H,I,Q⟩);rintro n M ⟨d,u,E,R⟩;refine Yu z (aR (hc e M d u _ E (turn n d u R)) λb O ⟨w,x,j⟩=>?_);cases b with
 |true=>
  obtain⟨N,y,j⟩:=j;rw[if_pos rfl];refine Yu z (aR (G e O d w _ x j) λf U k=>?_);cases f with
  |next=>obtain⟨a,g,l,p⟩:=k;obtain⟨o,m,q⟩:=y a g p;exact⟨o,m,a,g,l,q⟩|cont=>obtain⟨a,g,l,p⟩:=k;obtain⟨o,m,q⟩:=y a g p;exact⟨o,m,a,g,l,q⟩|brk=>exact k|ret v=>exact k
 |false=>rw[if_neg Vm];exact a0k ⟨d,w,x,j⟩
end
structure It where
 go:Nat->Hp->Prop
 yld:Nat->Hp->V->Hp->Prop
 stop:Nat->Hp->Prop
noncomputable def fZ(X:Cx)(a5N:jw)(H:Hp)(b:Addr):Prop:=
 H b=b3/\b≠X.env.locals/\b∉X.fs/\(b∈X.ex\/X.s₀.heap.objs.size<=b)/\(∀x c,X.env.cells.lookup x=b0 c->c≠b)/\∀p∈X.pn++a5N,p.1≠b
theorem Inv.fpOk{X:Cx}{a5N:jw}{σ:St}{H d:Hp}{s:Ve}{b:Addr}(I:Inv X a5N σ H s)(a:s.heap.objs.size<=b)(g:d b=b3):fZ X a5N d b:=by
 refine⟨g,Xj (VX I.lt a),I.nofs a,.inr (WD I.sz a),λx c e z=>?_,λp h z=>?_⟩
 .obtain⟨v,q⟩:=I.cell x c e;exact absurd (VX q.lt (by rw[z];exact a)) (W3 _)
 .exact absurd (VX (Vn (I.pin p h).1) (by rw[z];exact a)) (W3 _)
noncomputable abbrev Qc(X:Cx):Prop:=X.calm=dI
structure Turn(q:Cx->Prop)(P:VE)(w:VW)(K:U9)(tg:Expr)(J:It)(fp:List Addr)(it:Addr)(tn:Nat->WA->Prop):Prop where
 mem:it∈fp
 obj:∀i h,tn i h->∀b∈fp,∃o,h.get? b=b0 o/\∀v,o.data≠.cell v
 keep:∀i h h',tn i h->(∀b∈fp,∀o,h.get? b=b0 o->h'.get? b=b0 o)->tn i h'
 item:∀(X:Cx),X.prog=P->X.w=w->X.K=K->q X->∀(i:Nat)(a5N:jw)(s:Ve)(σ:St)(H:Hp)(E:Value->Ve->Prop),Inv X a5N σ H s->(∀b∈fp,fZ X a5N H b)->tn i s.heap->J.go i H->
  VH (VF P w) X.A (Yp (.ref it)) (λr s1=>∃u,r=b0 u /\
   VH (VF P w) X.A (a0m tg (.ref it) u) (λ_ s2=>∃x H',Inv X a5N σ H' s2/\RelV x u/\J.yld i H x H'/\tn (i+1) s2.heap/\∀b∈fp,H' b=b3) E s1) E s
 done:∀(X:Cx),X.prog=P->X.w=w->X.K=K->q X->∀(i:Nat)(a5N:jw)(s:Ve)(σ:St)(H:Hp)(E:Value->Ve->Prop),Inv X a5N σ H s->(∀b∈fp,fZ X a5N H b)->tn i s.heap->J.stop i H->
  VH (VF P w) X.A (Yp (.ref it)) (λr s1=>r=b3/\Inv X a5N σ H s1) E s
 self:∀(A:VO)(i:Nat)(s:Ve)(Q:Value->Ve->Prop)(E:Value->Ve->Prop),tn i s.heap->Q (.ref it) s->VH (VF P w) A (a1D (.ref it)) Q E s
noncomputable abbrev TI:=St->Hp->(It->Hp->Prop)->Prop
inductive PIEq (q:Cx->Prop)(X:Cx)(a5N:jw)(σ:St)(tg:Expr)(R:It->Hp->Prop)(itv:Value)(s2:Ve):Prop
 |mk (it:Addr)(fp:List Addr)(tn:Nat->WA->Prop)(J:It)(H':Hp)(e:itv=.ref it)(I:Inv X a5N σ H' s2)(T:Turn q X.prog X.w X.K tg J fp it tn)(t0:tn 0 s2.heap)(f:∀b∈fp,fZ X a5N H' b)(r:R J H'):PIEq q X a5N σ tg R itv s2
noncomputable abbrev vQ:=PIEq Qc
noncomputable def pN(q:Cx->Prop)(X:Cx)(tg iter:Expr)(c:TI):Prop:=
 ∀(a5N:jw)(s:Ve)(σ:St)(H:Hp)(R:It->Hp->Prop),Inv X a5N σ H s->c σ H R->
  VH (VF X.prog X.w) X.A (eval iter X.env) (λv a=>VH (VF X.prog X.w) X.A (a1D v) (PIEq q X a5N σ tg R) X.xe a) X.xe s
noncomputable abbrev PI:=pN Qc
theorem nN {M:a2W}{A:VO}{E:Value->Ve->Prop}{s:Ve}{tg:Expr}{c:Addr}{u:Value}{o:Obj}{n:String}{vs:Array Value}{Q:Unit->Ve->Prop}(e:s.heap.get? c=b0 o)(hc:o.cls=.type n)(hd:o.data=.fields vs)
  (d:["enumerate","zip","dict_itemiterator","dict_reverseitemiterator","odict_iterator","itertools.zip_longest","itertools.pairwise"].contains n=b5) (a:Q () s):VH M A (a0m tg (.ref c) u) Q E s:=by
 unfold a0m
 cases tg<;>first
  | exact Vj a
  | (cases u<;>first
    | exact Vj a
    | (refine Va (a2h e ?_)
       rw [hc,hd]
       show VH M A (if (["enumerate","zip","dict_itemiterator","dict_reverseitemiterator","odict_iterator","itertools.zip_longest","itertools.pairwise"].contains n&&vs[0]? == b0 (Zl _))=dI then _ else _) Q E s
       rw [if_neg (by intro h;rw [d,a4i] at h;cases h)]
       exact Vj a))
noncomputable def vT (K:U9)(a:Addr):It:=
 ⟨fun i H=>∃ c x,SqL K H a c/\c[i]? = b0 x,fun i H x d=>d=H/\∀ c,SqL K H a c->c[i]? = b0 x,fun i H=>∃ c,SqL K H a c/\c.length<=i⟩
noncomputable def vU(K:U9)(a:Addr):It:=
 ⟨λi H=>∃c x,SqT K H a c/\c[i]?=b0 x,λi H x d=>d=H/\∀c,SqT K H a c->c[i]?=b0 x,λi H=>∃c,SqT K H a c/\c.length<=i⟩
noncomputable def kR(lo:Int)(n:Nat):It:=⟨λi _=>i<n,λi H x a=>a=H/\x=.int (lo+i),λi _=>n<=i⟩
theorem HK{P:VE}{w:VW}{K:U9}{tg:Expr}(a j:Addr):Turn Qc P w K tg (vT K a) [j] j (λi h=>h.IsListIter j a i) where
 mem:=by simp
 obj:=λi h st b g=>by
  have e:b=j:=by simpa using g
  subst e;obtain⟨o,e,c,d⟩:=st;exact⟨o,e,λv z=>by rw[d]at z;cases z⟩
 keep:=λi h n st k=>st.at λo e=>k j (by simp) o e;item:=by intro X N hw M hc i l s U H E I q st O;subst N hw M;obtain⟨xs,x,r,Q⟩:=O;obtain⟨R,T,p,hz⟩:=I.list r;obtain⟨u,hu,ru⟩:=T.get Q;obtain⟨y,A,f2,B,G,L⟩:=q j (by simp);refine a3d st p.isList (x:=u) (by simpa using hu) λn m sb=>?_;have Y:Inv X l U H {s with heap:=n}:=I.turned (t':=s.toks) (λb o g e=>(sb.2 b g).trans e) y A B G L;obtain⟨o,e,c,d⟩:=id m;exact⟨u,rfl,nN (s:={s with heap:=n}) e c d (by decide) ⟨x,H,Y,ru,⟨rfl,λys hy=>by rw[I.list_inj hy r];exact Q⟩,m,λb g=>(q b g).1⟩⟩
 done:=by intro X N hw M hc i l s U H E I q st O;subst N hw M;obtain⟨xs,r,Q⟩:=O;obtain⟨R,T,p,hz⟩:=I.list r;obtain⟨y,A,f2,B,G,L⟩:=q j (by simp);have hl:=T.length;exact a3B (I.ok.hd hc) st p.isList (by simp;lia) λn Z=>⟨rfl,I.turned (t':=s.toks) (λb o g e=>Z b o g e) y A B G L⟩
 self:=λ_ _ _ _ _ st h=>wpAny_pyIter_listiter st h
theorem HL{P:VE}{w:VW}{K:U9}{tg:Expr}(a j:Addr):Turn Qc P w K tg (vU K a) [j] j (λi h=>h.IsTupleIter j a i) where
 mem:=by simp
 obj:=λi h st b g=>by
  have e:b=j:=by simpa using g
  subst e;obtain⟨o,e,c,d⟩:=st;exact⟨o,e,λv z=>by rw[d]at z;cases z⟩
 keep:=λi h q st k=>st.at λo e=>k j (by simp) o e;item:=by intro X O hw N hc i m s U H E I r st Q;subst O hw N;obtain⟨xs,x,y,R⟩:=Q;obtain⟨l,T,p,hz⟩:=I.tuple y;obtain⟨u,hu,ru⟩:=T.get R;obtain⟨A,B,f2,G,L,M⟩:=r j (by simp);refine a2M st (show s.heap.IsTuple a l.toArray from p) (x:=u) (by simpa using hu) λq n sb=>?_;have Y:Inv X m U H {s with heap:=q}:=I.turned (t':=s.toks) (λb o g e=>(sb.2 b g).trans e) A B G L M;obtain⟨o,e,c,d⟩:=id n;exact⟨u,rfl,nN (s:={s with heap:=q}) e c d (by decide) ⟨x,H,Y,ru,⟨rfl,λys hy=>by rw[I.tuple_inj hy y];exact R⟩,n,λb g=>(r b g).1⟩⟩
 done:=by intro X O hw N hc i m s U H E I r st Q;subst O hw N;obtain⟨xs,y,R⟩:=Q;obtain⟨l,T,p,hz⟩:=I.tuple y;obtain⟨A,B,f2,G,L,M⟩:=r j (by simp);have hl:=T.length;exact a3b (I.ok.hd hc) st (show s.heap.IsTuple a l.toArray from p) (by simp;lia) λq Z=>⟨rfl,I.turned (t':=s.toks) (λb o g e=>Z b o g e) A B G L M⟩
 self:=λ_ _ _ _ _ st h=>wpAny_pyIter_tupleiter st h
theorem Bi{P:VE}{w:VW}{K:U9}{tg:Expr}(a:Addr)(lo:Int)(n:Nat):Turn Qc P w K tg (kR lo n) [a] a (λi h=>Zw h a (lo+(i:Nat)*1) ((n:Int)-(i:Nat)) 1) where
 mem:=by simp
 obj:=λi h st b c=>by
  have e:b=a:=by simpa using c
  subst e;exact⟨_,st,λv z=>by
   have R:Wn _=ZS v:=z;cases R⟩
 keep:=λi h j st k=>k a (by simp) _ st;item:=by intro X y hw x hc i d s G H E I l st A;subst y hw x;obtain⟨m,p,N,q,r,u⟩:=l a (by simp);have W:=a4G (prog:=X.prog) (w:=X.w) (I.ok.hd hc) a lo 1 n;refine W.item i s _ _ A st λv j B O g Q=>?_;obtain⟨t,rfl⟩:=O;have L:Inv X d G H {s with heap:=j,toks:=B}:=I.turned (λb o c e=>Q b o (by simpa using c) e) m p q r u;refine⟨_,rfl,nN (s:={s with heap:=j,toks:=B}) (n:="range_iterator") g rfl rfl (by decide) ⟨.int (lo+i),H,L,⟨t,?_⟩,⟨rfl,rfl⟩,g,λb c=>(l b c).1⟩⟩;rw[Int.mul_one]
 done:=by intro X y hw x hc i d s G H E I l st A;subst y hw x;obtain⟨m,p,N,q,r,u⟩:=l a (by simp);exact a3c (I.ok.hd hc) st (by have:n<=i:=A;lia) λj M=>⟨rfl,I.turned (t':=s.toks) (λb o c e=>M b o c e) m p q r u⟩
 self:=λ_ _ _ _ _ st h=>a3e st h
section
variable{X:Cx}{tg:Expr}
theorem Bj{q:Cx->Prop}(tr:∀(d:Addr)(lo:Int)(n:Nat),Turn q X.prog X.w X.K tg (kR lo n) [d] d (λi h=>Zw h d (lo+(i:Nat)*1) ((n:Int)-(i:Nat)) 1)){a5N:jw}{σ:St}{H:Hp}{s:Ve}{R:It->Hp->Prop}{E:Value->Ve->Prop}{lo a:Int}{t u v:a4U}{tk:Nat}(I:Inv X a5N σ H s)(h1:-(2^62)<=lo)(k:lo<2^62)(l:-(2^62)<=a)(m:a<2^62)
  (p:R (kR lo (a-lo).toNat) H):VH (VF X.prog X.w) X.A (a1D (.ref s.heap.objs.size)) (PIEq q X a5N σ tg R) E {s with heap:=s.heap.push {cls:=.type "range",data:=.fields #[.int lo t,.int a u,.int 1 v]},toks:=tk}:=by
 refine a4l (a4f ..) (small_one h1 k l m) ?_;have c:Inv X a5N σ H {s with heap:=s.heap.push {cls:=.type "range",data:=.fields #[.int lo t,.int a u,.int 1 v]},toks:=tk}:=I.kept λb o e=>Vg _ e;refine⟨(s.heap.push {cls:=.type "range",data:=.fields #[.int lo t,.int a u,.int 1 v]}).objs.size,[(s.heap.push {cls:=.type "range",data:=.fields #[.int lo t,.int a u,.int 1 v]}).objs.size],_,_,H,rfl,
  c.kept (t':=tk) λb o e=>Vg _ e,tr _ lo (a-lo).toNat,?_,λb r=>?_,p⟩
 .have g:lo+((0:Nat):Int)*1=lo:=by simp
  have j:(((a-lo).toNat:Nat):Int)-((0:Nat):Int)=Wv lo a 1:=by rw[rangeSize_one];split<;>lia
  show Zw _ _ (lo+((0:Nat):Int)*1) ((((a-lo).toNat:Nat):Int)-((0:Nat):Int)) 1;rw[g,j];exact Vr _ rfl
 .have e:b=(s.heap.push {cls:=.type "range",data:=.fields #[.int lo t,.int a u,.int 1 v]}).objs.size:=by simpa using r
  subst e;exact c.fpOk (Vk _) (c.hok.fresh (Vk _))
noncomputable def HM(c:TA):TI:=λσ H R=>c σ H λvs a=>∃j:Int,vs=[.int j]/\-(2^62)<=j/\j<2^62/\R (kR 0 j.toNat) a
noncomputable def HN(c:TA):TI:=λσ H R=>c σ H λvs a=>∃i j:Int,vs=[.int i,.int j]/\(-(2^62)<=i/\i<2^62/\-(2^62)<=j/\j<2^62)/\R (kR i (j-i).toNat) a
theorem HP{q:Cx->Prop}(tr:∀(d:Addr)(lo:Int)(n:Nat),Turn q X.prog X.w X.K tg (kR lo n) [d] d (λi h=>Zw h d (lo+(i:Nat)*1) ((n:Int)-(i:Nat)) 1)){a:Expr}{k:TA}{p pos:W9}(o:Gl X "range") (u:X.mg "range"=b3) (m:PA X [a] k)(v:V7 [a] X.env=[(b5,eval a X.env)]:=by rfl):pN q X tg (.Call (.Name "range" p) [a] [] pos) (HM k):=by
 intro c s A H R I h;refine a5M (i0 I o u a4u (Xc (aR (m pos c s A H _ I h) λG E ⟨K,B,l,y,g⟩=>?_) v rfl));obtain⟨j,e,g,w,x⟩:=g;subst e;cases y with
 |cons r z=>cases z;obtain⟨t,rfl⟩:=r;exact call_range_1 (Bj tr l (by lia) (by lia) g w (by simpa using x))
theorem HQ{a b:Expr}{l:TA}{p pos:W9}(o:Gl X "range") (u:X.mg "range"=b3) (n:PA X [a,b] l)(v:V7 [a,b] X.env=[(b5,eval a X.env),(b5,eval b X.env)]:=by rfl)(c:V7 [b] X.env=[(b5,eval b X.env)]:=by rfl) :
  PI X tg (.Call (.Name "range" p) [a,b] [] pos) (HN l):=by
 intro d s B H R I h;refine a5M (i0 I o u a4u (Xc (aR (n pos d s B H _ I h) λL G ⟨M,E,m,A,g⟩=>?_) (by rw[v,c]) (by rw[c];rfl)));obtain⟨i,j,e,⟨g,w,x,y⟩,q⟩:=g;subst e;cases A with
 |cons r k=>
  cases k with
  |cons z k=>cases k;obtain⟨t,rfl⟩:=r;obtain⟨K,rfl⟩:=z;exact call_range_2 (Bj Bi m g w x y q)
noncomputable def HR(l:TI)(g:TG)(k:TS):TS:=λD σ H=>l σ H λJ h=>∃W:Nat->Nat->St->Hp->Prop,(∃m,W 0 m σ h)/\∀i m σ H,W i m σ H->
 (J.stop i H/\D.nx σ H)\/(J.go i H/\∃N:St->Hp->Prop,(∀c a,N c a->∃e,e<m/\W (i+1) e c a)/\∀x a,J.yld i H x a->g x σ a λd j=>k {D with nx:=N,ct:=N,bk:=D.nx} d j)
noncomputable def pO(a:List Addr)(h:WA):jw:=a.filterMap λb=>(h.get? b).map λo=>(b,o)
theorem r9{a:List Addr}{h:WA}{b:Addr}{o:Obj}(c:b∈a)(e:h.get? b=b0 o):(b,o)∈pO a h:=a2Y.mpr ⟨b,c,by rw[e];rfl⟩
theorem HS{a:List Addr}{h:WA}{p:Addr×Obj}(g:p∈pO a h):p.1∈a/\h.get? p.1=b0 p.2:=by
 obtain⟨b,d,e⟩:=a2Y.mp g;cases q:h.get? b with
 |none=>rw[q]at e;cases e|some o=>rw[q]at e;have c:(b,o)=p:=Vs e;subst c;exact⟨d,q⟩
theorem Inv.pinned{a5N:jw}{σ:St}{H:Hp}{s:Ve}{a:List Addr}(I:Inv X a5N σ H s)(k:∀b∈a,fZ X a5N H b)(l:∀b∈a,∃o,s.heap.get? b=b0 o/\∀v,o.data≠.cell v):Inv X (a5N++pO a s.heap) σ H s:=
 I.pins_of λp m=>(V4.mp m).elim (λz=>I.pin p (WO _ z)) λz=>by obtain⟨g,e⟩:=HS z;obtain⟨h,i,j,_⟩:=k p.1 g;obtain⟨o,c,d⟩:=l p.1 g;rw[e]at c;cases c;exact⟨e,h,i,j,d⟩
theorem Inv.unpinned{a5N c:jw}{σ:St}{H:Hp}{s:Ve}(I:Inv X (a5N++c) σ H s):Inv X a5N σ H s:=I.pins_of λp a=>I.pin p (WO _ (a2y _ a))
theorem HU{iter:Expr}{body:List Stmt}{wi:TI}{g:TG}{tb:TS}{pos:W9}(K:a1I (VF X.prog X.w) X.A X.env X.xe)(hc:X.calm=dI)(hi:PI X tg iter wi)(hg:PG X tg g)(p:PSs X body tb)
  (hs:∀x,Yx iter X.env x=pure x:=by intro _;rfl):PS X (.For tg iter body [] pos) (HR wi g tb):=by
 intro c s σ H D I h;refine wpAny_For (aR (hi c s σ H _ I h) λv s1 h1=>aR h1 λitv s2 h2=>?_) hs;obtain⟨it,E,tn,J,H2,e,I2,T,st2,f2,W,⟨m0,w0⟩,turn⟩:=h2;subst e
  -- what stays dI of the iterator's objects through the loop
 have q:∀{z:Hp},(∀b∈E,z b=b3)->∀b∈E,fZ X c z b:=λhn b p=>⟨hn b p,(f2 b p).2⟩;refine codeAny_forLoop_any (λn s'=>∃i w z,Inv X c w z s'/\tn i s'.heap/\(∀b∈E,z b=b3)/\W i n w z) ?_ m0 ⟨0,σ,H2,I2,st2,λb p=>(f2 b p).1,w0⟩;rintro n s3 ⟨i,y,Q,I3,M,G,w3⟩;rcases turn i n y Q w3 with⟨O,qn⟩|⟨go,N,hN,step⟩
 .refine Yu K (aR (T.done X rfl rfl rfl hc i c s3 y Q X.xe I3 (q G) M O) λr s4 ⟨Y,I4⟩=>?_);subst Y;exact a0k ⟨y,Q,I4,qn⟩
 .refine Yu K (aR (T.item X rfl rfl rfl hc i c s3 y Q X.xe I3 (q G) M go) λr s4 ⟨u,Y,h4⟩=>?_);subst Y;refine Yu K (aR h4 λ_ s5 ⟨x,H5,I5,r5,y5,B,U⟩=>?_);have R:=I5.pinned (q U) (T.obj _ _ B);refine Yu K (aR (hg _ s5 y H5 x u _ R r5 (step x H5 y5)) λ_ s6 ⟨σ6,H6,I6,q6⟩=>?_);refine Yu K (aR (p _ s6 σ6 H6 _ I6 q6) λf Z A=>?_);have l:∀{a:St}{j:Hp},Inv X (c++pO E s5.heap) a j Z->N a j->∃m,m<n/\∃i w z,Inv X c w z Z/\tn i Z.heap/\(∀b∈E,z b=b3)/\W i m w z:=λ{a j} k L=>by obtain⟨m',hm,w7⟩:=hN a j L;refine⟨m',hm,i+1,a,j,k.unpinned,T.keep _ _ _ B λb p o e=>(k.pin (b,o) (WO _ (WO _ (r9 p e)))).1,λb p=>?_,w7⟩;obtain⟨o,e,d⟩:=T.obj _ _ B b p;exact(k.pin (b,o) (WO _ (WO _ (r9 p e)))).2.1
  cases f with
  |next=>obtain⟨a,j,k,L⟩:=A;exact l k L|cont=>obtain⟨a,j,k,L⟩:=A;exact l k L|brk=>obtain⟨a,j,k,A⟩:=A;exact⟨a,j,k.unpinned,A⟩|ret v=>obtain⟨x7,a,j,k,r7,A⟩:=A;exact⟨x7,a,j,k.unpinned,r7,A⟩
end
noncomputable abbrev R2:=V->V->Hp->VK->Prop
noncomputable def OpR(X:Cx)(f:Value->Value->a2S Value)(r:R2):Prop:=
 ∀(a5N:jw)(s:Ve)(σ:St)(H:Hp)(x y:V)(v u:Value)(Q:VK),Inv X a5N σ H s->RelV x v->RelV y u->r x y H Q->
  VH (VF X.prog X.w) X.A (f v u) (EP X a5N σ Q) X.xe s
noncomputable def vV(X:Cx)(f:Value->a2S Value)(r:V->Hp->VK->Prop):Prop:=
 ∀(a5N:jw)(s:Ve)(σ:St)(H:Hp)(x:V)(v:Value)(Q:VK),Inv X a5N σ H s->RelV x v->r x H Q->
  VH (VF X.prog X.w) X.A (f v) (EP X a5N σ Q) X.xe s
noncomputable def CallR(X:Cx)(f:Value)(r:gw->Hp->VK->Prop):Prop:=
 ∀(a5N:jw)(s:Ve)(σ:St)(H:Hp)(xs:gw)(us:gq)(Q:VK),Inv X a5N σ H s->Vals xs us->r xs H Q->
  VH (VF X.prog X.w) X.A (call f us) (EP X a5N σ Q) X.xe s
noncomputable def HV(X:Cx)(r:V->Hp->(Bool->Hp->Prop)->Prop):Prop:=
 ∀(a5N:jw)(s:Ve)(σ:St)(H:Hp)(x:V)(v:Value)(Q:Bool->Hp->Prop),Inv X a5N σ H s->RelV x v->r x H Q->
  VH (VF X.prog X.w) X.A (truthy v) (TP X a5N σ Q) X.xe s
noncomputable def pP(r:R2)(d e:TE):TE:=λσ H Q=>d σ H λx a=>e σ a λy c=>r x y c Q
noncomputable def HW(r:V->Hp->VK->Prop)(c:TE):TE:=λσ H Q=>c σ H λx a=>r x a Q
noncomputable def rI(C:Int->Int->Prop)(g:Int->Int->V):R2:=λx y H Q=>∃i j,x=.int i/\y=.int j/\C i j/\Q (g i j) H
noncomputable def f6(g:Int->Int->V):R2:=λx y H Q=>∃i j,x=.int i/\y=.int j/\Q (g i j) H
noncomputable def rU(g:Int->V):V->Hp->VK->Prop:=λx H Q=>∃i,x=.int i/\Q (g i) H
section
variable{X:Cx}{a b c:Expr}{ta tb tc:TE}{pos:W9}
theorem vW(m:PE X a ta)(n:PE X b tb){a5N:jw}{s:Ve}{σ:St}{H:Hp}{R:V->V->Hp->Prop}(I:Inv X a5N σ H s)
  (h:ta σ H λx j=>tb σ j λy d=>R x y d){Q:Value->Ve->Prop}{f:Value->Value->a2S Value}
  (o:∀v u i x y d,Inv X a5N σ d i->RelV x v->RelV y u->R x y d->VH (VF X.prog X.w) X.A (f v u) Q X.xe i) :
  VH (VF X.prog X.w) X.A (eval a X.env) (λv e=>VH (VF X.prog X.w) X.A (eval b X.env) (λu g=>VH (VF X.prog X.w) X.A (f v u) Q X.xe g) X.xe e) X.xe s:=by
 refine aR (m a5N s σ H _ I h) λv z ⟨x,j,k,r,p⟩=>?_;refine aR (n a5N z σ j _ k p) λu i ⟨y,d,l,w,q⟩=>?_;exact o v u i x y d l r w q
theorem HX{op:a2k}{r:R2}(k:OpR X (YS op) r)(i:PE X a ta)(j:PE X b tb):PE X (.BinOp a op b pos) (pP r ta tb):=by intro d s o H Q I h;exact wpAny_BinOp (vW i j I h λv u n x y e g l m q=>k d n o e x y v u Q g l m q)
theorem HY{op:UnaryOp}{r:V->Hp->VK->Prop}(k:vV X (unaryOp op) r)(j:PE X a ta):PE X (.UnaryOp op a pos) (HW r ta):=by intro d s e H Q I h;exact UnaryOp_ (aR (j d s e H _ I h) λv n ⟨x,g,i,m,l⟩=>k d n e g x v Q i m l)
theorem vX{f:Value->Value->a2S Value}{C:Int->Int->Prop}{g:Int->Int->Int}
  (d:∀(i j:Int)(t u:a4U)(s:Ve)(Q:Value->Ve->Prop)(E:Value->Ve->Prop),C i j->Q (.int (g i j) s.toks) {s with toks:=s.toks+1}->VH (VF X.prog X.w) X.A (f (.int i t) (.int j u)) Q E s) :
  OpR X f (rI C λi j=>.int (g i j)):=by
 intro e s n H x y v u Q I k l h;obtain⟨i,j,rfl,rfl,hc,q⟩:=h;obtain⟨t,rfl⟩:=k;obtain⟨m,rfl⟩:=l;exact d i j t m s _ _ hc ⟨.int (g i j),H,I.tok _,⟨_,rfl⟩,q⟩
theorem Bk{f:Value->Value->a2S Value}{g:Int->Int->Int}
  (d:∀(i j:Int)(t u:a4U)(s:Ve)(Q:Value->Ve->Prop)(E:Value->Ve->Prop),Q (.int (g i j) s.toks) {s with toks:=s.toks+1}->VH (VF X.prog X.w) X.A (f (.int i t) (.int j u)) Q E s) :
  OpR X f (f6 λi j=>.int (g i j)):=by
 intro e s n H x y v u Q I k l h;obtain⟨i,j,rfl,rfl,q⟩:=h;obtain⟨t,rfl⟩:=k;obtain⟨m,rfl⟩:=l;exact d i j t m s _ _ ⟨.int (g i j),H,I.tok _,⟨_,rfl⟩,q⟩
theorem sA{f:Value->Value->a2S Value}{g:Int->Int->Bool}
  (d:∀(i j:Int)(t u:a4U)(s:Ve)(Q:Value->Ve->Prop)(E:Value->Ve->Prop),Q (.bool (g i j)) s->VH (VF X.prog X.w) X.A (f (.int i t) (.int j u)) Q E s) :
  OpR X f (f6 λi j=>.bl (g i j)):=by
 intro e s n H x y v u Q I k l h;obtain⟨i,j,rfl,rfl,q⟩:=h;obtain⟨t,rfl⟩:=k;obtain⟨m,rfl⟩:=l;exact d i j t m s _ _ ⟨.bl (g i j),H,I,rfl,q⟩
noncomputable def CMul(i j:Int):Prop:=(-(2^64)<i/\i<2^64)\/(-(2^64)<j/\j<2^64)
theorem CMul.ok{i j:Int}(h:CMul i j):a4c i j:=by
 rcases h with⟨d,e⟩|⟨d,e⟩
 .exact .of_left (intBits_le_64 d e)
 .exact .of_right (intBits_le_64 d e)
theorem op_add:OpR X (YS .Add) (f6 λi j=>.int (i+j)):=Bk λ_ _ _ _ _ _ _ q=>add_int q
theorem HZ:OpR X (YS .Sub) (f6 λi j=>.int (i-j)):=Bk λ_ _ _ _ _ _ _ q=>sub_int q
theorem Ia:OpR X (YS .Mod) (rI (λ_ j=>0<j) λi j=>.int (i%j)):=vX λi j _ _ _ _ _ hc q=>by have d:(0:Int)<j:=hc;exact mod_int' (by lia) (by rw[Int.fmod_eq_emod_of_nonneg i (by lia)];exact q)
theorem nO{f:Value->a2S Value}{g:Int->Int}
  (d:∀(i:Int)(t:a4U)(s:Ve)(Q:Value->Ve->Prop)(E:Value->Ve->Prop),Q (.int (g i) s.toks) {s with toks:=s.toks+1}->VH (VF X.prog X.w) X.A (f (.int i t)) Q E s) :
  vV X f (rU λi=>.int (g i)):=by
 intro e s k H x v Q I j h;obtain⟨i,rfl,q⟩:=h;obtain⟨t,rfl⟩:=j;exact d i t s _ _ ⟨.int (g i),H,I.tok _,⟨_,rfl⟩,q⟩
theorem Ib:vV X (unaryOp .USub) (rU λi=>.int (-i)):=nO λ_ _ _ _ _ q=>neg_int q
end
section
variable{X:Cx}{a b c:Expr}{ta tb tc:TE}{pos:W9}
theorem mB{a5N:jw}{σ:St}{H:Hp}{s:Ve}{Q:VK}{k k':Bool}(I:Inv X a5N σ H s)(q:Q (.bl k) H)(e:k=k'):EP X a5N σ Q (.bool k') s:=by subst e;exact⟨.bl k,H,I,rfl,q⟩
theorem vY:OpR X (WB .Lt) (f6 λi j=>.bl (decide (i<j))):=sA λ_ _ _ _ _ _ _ q=>lt_int q
theorem vZ:OpR X (WB .LtE) (f6 λi j=>.bl (decide (i<=j))):=sA λ_ _ _ _ _ _ _ q=>le_int q
theorem v7:OpR X (WB .Gt) (f6 λi j=>.bl (decide (j<i))):=sA λ_ _ _ _ _ _ _ q=>gt_int q
theorem v8:OpR X (WB .GtE) (f6 λi j=>.bl (decide (j<=i))):=sA λ_ _ _ _ _ _ _ q=>ge_int q
theorem Bl:OpR X (WB .In) (λx y H Q=>∃i j,x=.str i/\y=.str j/\Q (.bl (!(WU j i 0 j.length 1).isEmpty)) H):=by intro d s l H x y v u Q I e g h;obtain⟨i,j,rfl,rfl,q⟩:=h;obtain⟨t,rfl⟩:=e;obtain⟨k,rfl⟩:=g;exact in_str (mB I q rfl)
theorem Bm:OpR X (WB .Is) (λx y H Q=>y=.non/\Q (.bl (decide (x=.non))) H):=by
 intro e s i H x y v u Q I d g h;obtain⟨rfl,q⟩:=h;cases g;refine is_none_gen (mB I q ?_);cases x<;>first
  |(cases d;rfl)|(obtain⟨t,rfl⟩:=d;rfl)
theorem Bn:OpR X (WB .IsNot) (λx y H Q=>y=.non/\Q (.bl (!decide (x=.non))) H):=by
 intro e s i H x y v u Q I d g h;obtain⟨rfl,q⟩:=h;cases g;refine isnot_none_gen (mB I q ?_);cases x<;>first
  |(cases d;rfl)|(obtain⟨t,rfl⟩:=d;rfl)
theorem OpR.or{f:Value->Value->a2S Value}{r e:R2}(h:OpR X f r)(h':OpR X f e):OpR X f (λx y H Q=>r x y H Q\/e x y H Q):=by
 intro d s j H x y v u Q I g i q;rcases q with q|q
 .exact h d s j H x y v u Q I g i q
 .exact h' d s j H x y v u Q I g i q
theorem dD(b:Expr){op:Zg}(h:op≠.In:=by decide)(g:op≠.NotIn:=by decide):Yv op b=false:=by
 have d:(op==CmpOp.In)=false:=by cases op<;>first|rfl|exact absurd rfl h
 have e:(op==CmpOp.NotIn)=false:=by cases op<;>first|rfl|exact absurd rfl g
 cases b<;>simp[Yv,d,e]
theorem Ic{op:Zg}{r:R2}(l:OpR X (WB op) r)(i:PE X a ta)(j:PE X b tb)(k:Yv op b=b5):PE X (.Compare a [op] [b] pos) (pP r ta tb):=by intro d s p H Q I h;exact wpAny_Compare1 (vW i j I h λv u o x y e g m n q=>l d o p e x y v u Q g m n q) k
noncomputable def Bo(t:TE):TT:=λσ H Q=>t σ H λx d=>∃k,x=.bl k/\Q k d
theorem Ie{op:Zg}{r:R2}(A:OpR X (WB op) r)(p:PE X a ta)(q:PE X b tb)(w:Yv op b=b5):PT X (.Compare a [op] [b] pos) (Bo (pP r ta tb)):=by
 intro d s g H Q I h;refine wpAny_isTrue_Compare1 (aR (p d s g H _ I h) λv N ⟨x,i,m,K,B⟩=>aR (q d N g i _ m B) λu O ⟨y,j,n,L,E⟩=>
  aR (A d O g j x y v u _ n K L E) λc R ⟨z,l,o,M,k,e,G⟩=>?_) w
 subst e;cases M;exact WS ⟨l,o,G⟩
noncomputable def v9(r i:R2)(ta tb tc:TE):TE:=λσ H Q=>ta σ H λx e=>tb σ e λy g=>r x y g λz d=>∃k,z=.bl k /\
 (if k=dI then tc σ d λj h=>i y j h Q else Q (.bl b5) d)
theorem Ig{op i:Zg}{r p:R2}(O:OpR X (WB op) r)(l:OpR X (WB i) p)(L:PE X a ta)(M:PE X b tb)(hc:PE X c tc)
  (N:a4R [op,i] [b,c]=false:=by with_unfolding_all rfl):PE X (.Compare a [op,i] [b,c] pos) (v9 r p ta tb tc):=by
 intro g s j H Q I h;refine Compare_chain (aR (L g s j H _ I h) λv s1 ⟨x,w,E,Y,R⟩=>chain_link (aR (M g s1 j w _ E R) λu s2 ⟨y,A,G,q,T⟩=>
  aR (O g s2 j A x y v u _ G Y q T) λd s3 ⟨z,m,n,Z,k,e,o⟩=>?_)) N
 subst e;cases Z;refine WS ?_;cases k with
 |false=>exact ite_ff ⟨.bl b5,m,n,rfl,o⟩|true=>exact ite_tt (chain_last (aR (hc g s3 j m _ n o) λw' s4 ⟨z',B,K,r4,U⟩=>l g s4 j B y z' u w' Q K q r4 U))
theorem Ih{op i:Zg}{r p:R2}(Y:OpR X (WB op) r)(l:OpR X (WB i) p)(R:PE X a ta)(T:PE X b tb)(hc:PE X c tc)
  (U:a4R [op,i] [b,c]=false:=by with_unfolding_all rfl):PT X (.Compare a [op,i] [b,c] pos) (Bo (v9 r p ta tb tc)):=by
 intro g s j H Q I h;refine isTrue_chain (aR (R g s j H _ I h) λv s1 ⟨x,w,G,r1,q1⟩=>test_link (aR (T g s1 j w _ G q1) λu s2 ⟨y,A,K,q,q2⟩=>
  aR (Y g s2 j A x y v u _ K r1 q q2) λd s3 ⟨z,m,n,r3,k,e,o⟩=>?_)) U
 subst e;cases r3;refine WS ?_;cases k with
 |false=>obtain⟨k',N,Z⟩:=o;cases N;exact ite_ff ⟨m,n,Z⟩|true=>refine ite_tt (test_last (aR (hc g s3 j m _ n o) λw' s4 ⟨z',B,L,r4,q4⟩=>aR (l g s4 j B y z' u w' _ L q r4 q4) λd' s5 ⟨z2,E,M,r5,k2,O,q5⟩=>?_));subst O;cases r5;exact WS ⟨E,M,q5⟩
noncomputable def wA(K:U9)(x:V)(H:Hp)(k:Bool):Prop:=
 match x with
 |.non=>k=b5|.bl b=>k=b|.int i=>k=(i != 0)|.str y=>y.length<=Vp/\k=((y.length:Int) != 0)|.byt y=>y.size<=Vp/\k=((y.size:Int) != 0)|.ref p=>(∃e,SqL K H p e/\k=!e.isEmpty)\/(∃e,SqT K H p e/\k=!e.isEmpty)\/∃d,H p=b0 (.dK d)/\k=!d.isEmpty|_=>False
theorem Ii{κ:Type}{kvs:List (κ×V)}{vs:List (κ×Value)}(r:KV kvs vs):(!vs.isEmpty)=!kvs.isEmpty:=by cases r<;>rfl
theorem Bp{xs:gw}{d:gq}(r:Vals xs d):(!d.toArray.isEmpty)=!xs.isEmpty:=by cases r<;>simp
theorem kS:(Vp:Nat)<2^63:=by rw[VC];decide
theorem Ij:HV X (λx H Q=>∃k,wA X.K x H k/\Q k H):=by
 intro B s M H x v Q I n h;obtain⟨k,e,q⟩:=h;have K:=kS;have L:Vp=16777216:=VC;cases x with
 |non=>cases n;have d:k=false:=e;subst d;exact truthy_none ⟨H,I,q⟩|bl b=>cases n;have d:k=b:=e;subst d;exact WS ⟨H,I,q⟩|int i=>obtain⟨t,rfl⟩:=n;have d:k=(i != 0):=e;subst d;exact PySem.P.truthy_int ⟨H,I,q⟩|str y=>obtain⟨t,rfl⟩:=n;obtain⟨G,d⟩:y.length<=Vp/\k=((y.length:Int) != 0):=e;subst d;exact PySem.P.truthy_str (by lia) ⟨H,I.tok _,q⟩|byt y=>obtain⟨t,rfl⟩:=n;obtain⟨G,d⟩:y.size<=Vp/\k=((y.size:Int) != 0):=e;subst d;exact PySem.W.truthy_bytes (by lia) ⟨H,I.tok _,q⟩|ref p=>
  cases n;have d:(∃l,SqL X.K H p l/\k=!l.isEmpty)\/(∃l,SqT X.K H p l/\k=!l.isEmpty)\/∃g,H p=b0 (.dK g)/\k=!g.isEmpty:=e;rcases d with⟨l,o,d⟩|⟨l,o,d⟩|⟨g,o,d⟩
  .subst d;obtain⟨w,r,z,A⟩:=I.list o;have j:=r.length;exact wpAny_truthy_list z.isList (by simp only[Vi];lia) ⟨H,I.tok _,by rw[Bp r];exact q⟩
  .subst d;obtain⟨w,r,z,A⟩:=I.tuple o;have j:=r.length;exact truthy_tuple z (by simp only[Vi];lia) ⟨H,I.tok _,by rw[Bp r];exact q⟩
  .subst d;obtain⟨A,E,u,r,m⟩:g.length<=Vp/\(p==Xo)=b5/\∃u,KV g u/\s.heap.DictOf (pK X.prog X.w) p u:=I.hok p _ o;have j:g.length=u.length:=a1w r;exact wpAny_truthy_dict E m (by lia) ⟨H,I.tok _,by rw[Ii r];exact q⟩
 |_=>exact(show False from e).elim
theorem Ik(m:PE X a ta)(n:∀d,a3i a X.env d=(do let v <- d;standAt a.pos;holding [v] (truthy v))) :
  PT X a (λg H Q=>ta g H λx i=>∃k,wA X.K x i k/\Q k i):=by
 intro e s g H Q I h;exact isTrue_plain (aR (m e s g H _ I h) λv q ⟨x,j,l,p,o⟩=>Ij e q g j x v Q l p o) (n _)
theorem op_add_str:OpR X (YS .Add) (λx y H Q=>∃i j,x=.str i/\y=.str j/\i.length+j.length<=Vp/\Q (.str (i++j)) H):=by intro d s n H x y v u Q I g k h;obtain⟨i,j,rfl,rfl,e,q⟩:=h;obtain⟨t,rfl⟩:=g;obtain⟨l,rfl⟩:=k;exact add_str (λl m=>⟨.str (i++j),H,I.tok _,⟨_,rfl⟩,q⟩) e
theorem i5{x:V}{us:gq}(r:Vals [x] us):∃u,us=[u]/\RelV x u:=by
 cases r with
 |cons d e=>cases e;exact⟨_,rfl,d⟩
theorem pQ{x y:V}{us:gq}(r:Vals [x,y] us):∃u d,us=[u,d]/\RelV x u/\RelV y d:=by
 cases r with
 |cons e g=>
  cases g with
  |cons h i=>cases i;exact⟨_,_,rfl,e,h⟩
theorem Il(hc:X.calm=dI):CallR X (.builtin "max") (λxs H Q=>∃i j,xs=[.int i,.int j]/\Q (.int (if j>i then j else i)) H):=by
 intro e s p H xs n Q I r h;obtain⟨i,j,rfl,q⟩:=h;obtain⟨u,o,rfl,⟨t,rfl⟩,⟨l,rfl⟩⟩:=pQ r;refine max_two_ints (I.ok.hd hc) λg m k=>⟨_,H,I.kept k,?_,q⟩;by_cases d:j>i
 .rw[if_pos d,if_pos d];exact⟨_,rfl⟩
 .rw[if_neg d,if_neg d];exact⟨_,rfl⟩
theorem Im(hc:X.calm=dI):CallR X (.builtin "min") (λxs H Q=>∃i j,xs=[.int i,.int j]/\Q (.int (if j<i then j else i)) H):=by
 intro e s p H xs n Q I r h;obtain⟨i,j,rfl,q⟩:=h;obtain⟨u,o,rfl,⟨t,rfl⟩,⟨l,rfl⟩⟩:=pQ r;refine min_two_ints (I.ok.hd hc) λg m k=>⟨_,H,I.kept k,?_,q⟩;by_cases d:j<i
 .rw[if_pos d,if_pos d];exact⟨_,rfl⟩
 .rw[if_neg d,if_neg d];exact⟨_,rfl⟩
end
structure ObjM(h:WA)(x dx C:Addr)(mA:Str->Option Value):Prop where
 obj:h.get? x=b0 (a2T C dx)
 ns:h.Ns1 dx mA
 ne:dx≠x
section
variable{prog:VE}{w:VW}{A:VO}{E:Value->Ve->Prop}{s:Ve}{K:U9}{x dx C f:Addr}{mA:Str->Option Value}{name:Str}{v:Value}
end
theorem RelO.some_of{v:V}{o:Option Value}(r:RelO (b0 v) o):∃u,o=b0 u/\RelV v u:=by
 cases o with
 |none=>exact(show False from r).elim|some u=>exact⟨u,rfl,r⟩
section
variable{P:VE}{w:VW}{H H':Hp}{h h':WA}{a C dx:Addr}{fs fs':List (Str×V)}
end
structure Cls(K:U9)(C:Addr):Prop where
 pg:PySem.W.plainGet K C Str.empty=dI
 hd:PySem.W.hasDictIn K C=dI
 po:PySem.W.plainOver K C=dI
 sa:Zm K (.ref C) "__setattr__"=b0 (b0 (.builtin "object.__setattr__"))
structure Con(K:U9)(C:Addr)(f:Str)(v:V)(u:Value):Prop where
 at_:Zm K (.ref C) f=b0 (b0 u)
 rel:RelV v u
 get:a2t K u "__get__"=b0 b3
 cp:PySem.W.copiedNames.contains f=b5
structure Meth(K:U9)(C:Addr)(m:Str)(f:Addr):Prop where
 at_:Zm K (.ref C) m=b0 (b0 (.ref f))
 fn:a3V K (.ref f)=dI
 kp:Xp K (.ref f)=dI
section
variable{X:Cx}{a5N:jw}{σ:St}{H:Hp}{s:Ve}{a C dx:Addr}{fs:List (Str×V)}{f:Str}{v:V}{A:VO}{E:Value->Ve->Prop}
end
section
variable{X:Cx}{o e value:Expr}{f:Str}{pos pos' tpos:W9}{ta tv:TE}
end
section
variable{X:Cx}{a5N:jw}{σ:St}{H:Hp}{s:Ve}{A:VO}{E:Value->Ve->Prop}{Q:Value->Ve->Prop}{c:Value}{b:Bool}
inductive TyOf (K:U9)(H:Hp):V->Value->Prop where
 |non:TyOf K H .non (.type "NoneType")
 |bl (x:Bool):TyOf K H (.bl x) (.type "bool")
 |int (i:Int):TyOf K H (.int i) (.type "int")
 |str (x:Str):TyOf K H (.str x) (.type "str")
 |flt (x:UInt64):TyOf K H (.flt x) (.type "float")
 |lst {a:Addr}{xs:gw}(e:H a=b0 (.lst xs)):TyOf K H (.ref a) (.type "list")
 |frz {a:Addr}{o:Obj}{xs:gw}(e:H a=b0 (.frz o (.lst xs))):TyOf K H (.ref a) (.type "list")
 |tup {a:Addr}{xs:gw}(e:H a=b0 (.tup xs)):TyOf K H (.ref a) (.type "tuple")
 |dK {a:Addr}{kvs:List (bY×V)}(e:H a=b0 (.dK kvs)):TyOf K H (.ref a) (.type "dict")
 |dT {a:Addr}{kvs:List (List bY×V)}(e:H a=b0 (.dT kvs)):TyOf K H (.ref a) (.type "dict")
 |ins {a C dx:Addr}{fs:List (Str×V)}(e:H a=b0 (.ins C dx fs))(cl:Cls K C)(ha:Zm K (.ref C) "__class__"=b0 (b0 (.builtin "object.__class__")))
   (hn:a2t K (.builtin "object.__class__") "__get__"=b0 (b0 (.builtin "getset_descriptor.__get__"))) (htk:PySem.W.takesIn K (.builtin "object.__class__")=b0 dI)
   (hm:PySem.W.mroIn K C (.type "object")=b0 dI):TyOf K H (.ref a) (.ref C)
end
structure Room(k:Nat)(A:VO):Prop where
 hd:A.handled=b3
 dp:A.depth+3*k+5<a5H
 un:A.units+16*k+200<W0
theorem Room.deeper{k:Nat}{A:VO}(r:Room (k+1) A)(env:a0y):Room k (A.deeper env):=
 ⟨r.hd,by have:=r.dp;show A.depth+1+3*k+5<_;lia,by have:=r.un;show A.units+3+16*k+200<_;lia⟩
theorem Room.depth{k:Nat}{A:VO}(r:Room k A):A.depth<a5H:=by have:=r.dp;lia
theorem Room.units{k:Nat}{A:VO}(r:Room k A):A.units+64<W0:=by have:=r.un;lia
noncomputable def Bq:TA:=λ_ H Q=>Q [] H
noncomputable def Io(d:TE)(tr:TA):TA:=λσ H Q=>d σ H λx a=>tr σ a λxs c=>Q (x::xs) c
section
variable{X:Cx}{e:Expr}{es:List Expr}{te:TE}{t:TA}{pos:W9}
theorem Ip:PA X [] Bq:=λ_ _ _ _ H Q I h=>a0C ⟨[],H,I,.nil,h⟩
theorem Iq(k:PE X e te)(l:PA X es t)(m:V7 (e::es) X.env=(b5,eval e X.env)::V7 es X.env:=by rfl):PA X (e::es) (Io te t):=by intro pos a s c H Q I h;rw[m];show VH _ _ (spliced ((b5,eval e X.env)::Yq pos (V7 es X.env))) _ _ s;refine a0t (aR (k a s c H _ I h) λu r ⟨x,d,i,p,n⟩=>?_);exact aR (l pos a r c d _ i n) λy w ⟨v,g,j,q,o⟩=>⟨x::v,g,j,.cons p q,o⟩
noncomputable def Ir(t:TA):TE:=λσ H Q=>t σ H λxs a=>xs.length<=Vp/\∀p,a p=b3->Q (.ref p) (aK a p (.tup xs))
noncomputable def Iu(t:TA):TE:=λσ H Q=>t σ H λxs a=>xs.length<=Vp/\∀p,a p=b3->Q (.ref p) (aK a p (.lst xs))
theorem Iw{x1} (h:PA X es t):PE X (.Tuple es x1 pos) (Ir t):=by intro c s m H Q I j;refine wpAny_Tuple_spliced (aR (h pos c s m H _ I j) λk a ⟨l,d,g,r,z,q⟩=>⟨by rw[<- r.length];exact z,?_⟩);have i:d a.heap.objs.size=none:=g.hok.fresh (Vk _);refine⟨.ref a.heap.objs.size,aK d a.heap.objs.size (.tup l),g.laid (t':=a.toks) (λb u e=>Vg _ e) (Vk _) ?_,rfl,q _ i⟩;exact⟨z,k,r,⟨_,Vr _ rfl,rfl,_,rfl,rfl⟩⟩
theorem Iy(h:PA X es t):PE X (.List es pos) (Iu t):=by intro c s m H Q I j;refine wpAny_List_spliced (aR (h pos c s m H _ I j) λk a ⟨l,d,g,r,z,q⟩=>⟨by rw[<- r.length];exact z,?_⟩);have i:d a.heap.objs.size=none:=g.hok.fresh (Vk _);refine⟨.ref a.heap.objs.size,aK d a.heap.objs.size (.lst l),g.laid (t':=a.toks) (λb u e=>Vg _ e) (Vk _) ?_,rfl,q _ i⟩;exact⟨z,k,0,r,Vr _ rfl⟩
end
noncomputable abbrev Sp:=List V->Hp->VK->XK->Prop
noncomputable abbrev i6:=List a0y->Hp->Ve->XK->Value->Ve->Prop
structure Env0(P:VE)(w:VW)(K:U9)(mg:Str->Option Value)(base:WA)(A:VO)(outer:List a0y)(s:Ve)(H:Hp):Prop where
 frames:A.frames=b0 outer
 mod:Mod K mg base
 bs:∀b o,base.get? b=b0 o->s.heap.get? b=b0 o/\H b=b3
 bsz:base.objs.size<=s.heap.objs.size
 funs:s.heap.FunFrames base outer
 frf:∀b∈gP outer,H b=b3
 hok:HOk P w H s.heap
 bare:a0G s.gens
inductive CE (outer:List a0y)(P:VE)(w:VW)(H:Hp)(s:Ve)(Q:VK)(u:Value)(s':Ve):Prop
 |mk (v:V)(H':Hp)(o:s'.os=s.os)(b:a0G s'.gens)(n:Un (gP outer) [] H H' s.heap s'.heap)(k:HOk P w H' s'.heap)(r:RelV v u)(q:Q v H'):CE outer P w H s Q u s'
noncomputable def CR(CX:i6)(outer:List a0y)(P:VE)(w:VW)(H:Hp)(s:Ve)(Q:VK)(E:XK)(r:a1G)(a:Ve):Prop:=
 match r with
 |.ok (.ret u)=>CE outer P w H s Q u a|.ok _=>False|.error e=>CX outer H s E e a
structure FnOk(P:VE)(w:VW)(K:U9)(mg:Str->Option Value)(base:WA)(CX:i6)(k:Nat)(f:Addr)(fd:X5)(ps:List Str)(sp:Sp):Prop where
 len:∀vs H Q E,sp vs H Q E->vs.length=ps.length
 run:∀(A:VO)(outer:List a0y)(s:Ve)(H:Hp)(args:Args)(us:gq)(vs:gw)(Q:VK)(E:XK),Room k A->Env0 P w K mg base A outer s H->a1s s fd args (ps.zip us)->Vals vs us->sp vs H Q E->
  Zt (VF P w) A (.call (.ref f) args) (CR CX outer P w H s Q E) s
section
variable{X:Cx}{a5N:jw}{σ:St}{H:Hp}{s s':Ve}
theorem Inv.env0(I:Inv X a5N σ H s):Env0 X.prog X.w X.K X.mg X.base X.A X.stack s H:=
 ⟨I.ok.frames,I.ok.mod,I.bs,WD I.ok.bsz I.sz,I.stack,I.stkFree,I.hok,I.bare⟩
theorem Inv.after{Q:VK}{u:Value}(I:Inv X a5N σ H s)(h:CE X.stack X.prog X.w H s Q u s'):EP X a5N σ Q u s':=by obtain⟨v,i,k,a,un,c,r,q⟩:=h;obtain⟨j,g,d,t,e⟩:=s';obtain rfl:e=s.os:=k;exact⟨v,i,I.call (h':=j) (g':=g) (d':=d) (t':=t) (ch:=[]) un c a (λb z=>absurd z (by simp)),r,q⟩
end
noncomputable def wB(sp:Sp)(a:gw)(E:XK)(t:TA):TE:=λσ H Q=>t σ H λvs c=>sp (vs++a) c Q E
noncomputable def Binds(K:U9)(a:X5)(ps:List Str)(ds:gq):Prop:=
 ∀(s:Ve)(us:gq),K.In s.heap->(us++ds).length=ps.length->a1s s a ⟨us,[]⟩ (ps.zip (us++ds))
theorem Binds.all{K:U9}{a:X5}{ps:List Str}(h:∀us:gq,us.length=ps.length->a3Q a ⟨us,[]⟩=pure (ps.zip us)):Binds K a ps []:=λs us _ c=>by rw[WQ]at c ⊢;exact .of_eq (h us c)
noncomputable def sC(CX:i6)(X:Cx)(E:XK):Prop:=∀(a5N:jw)(σ:St)(H:Hp)(s:Ve)(e:Value)(a:Ve),Inv X a5N σ H s->CX X.stack H s E e a->X.xe e a
section
variable{X:Cx}{CX:i6}{k:Nat}{f C:Addr}{fd:X5}{ps:List Str}{sp:Sp}{dvs:gw}{ds:gq}{E:XK}{x m:Str}{p pos apos:W9}{e o:Expr}{es:List Expr}{ta:TE}{t:TA}
theorem Br{a5N:jw}{σ:St}{H:Hp}{s:Ve}{Q:VK}{us:gq}{vs:gw}(F:FnOk X.prog X.w X.K X.mg X.base CX k f fd ps sp)(j:Room k X.A)(g:Binds X.K fd ps ds)(hd:Vals dvs ds)(l:sC CX X E)
  (I:Inv X a5N σ H s)(r:Vals vs us)(h:sp (vs++dvs) H Q E):VH (VF X.prog X.w) X.A (call (.ref f) us) (EP X a5N σ Q) X.xe s:=by
 have c:Vals (vs++dvs) (us++ds):=r.append hd;have i:(us++ds).length=ps.length:=by rw[<- c.length];exact F.len _ _ _ _ h
 refine wpAny_call (a1k (F.run X.A X.stack s H ⟨us,[]⟩ (us++ds) (vs++dvs) Q E j I.env0 (g s us I.kIn i) c h) λr n a=>?_);cases r with
 |error e=>exact l a5N σ H s e n I a|ok d=>
  cases d with
  |ret u=>exact I.after a|next=>exact XO a|brk=>exact XO a|cont=>exact XO a
theorem Iz(F:FnOk X.prog X.w X.K X.mg X.base CX k f fd ps sp)(w:Room k X.A)(n:Gl X x)(v:X.mg x=b0 (.ref f))(u:Xp X.K (.ref f)=dI)(j:Binds X.K fd ps ds)(hd:Vals dvs ds)(y:sC CX X E)
  (i:PA X (e::es) t)(c:(x==("__debug__":Str))=false:=by decide) (l:V7 (e::es) X.env=(b5,eval e X.env)::V7 es X.env:=by rfl)(d:(Yq pos (V7 es X.env)).any (·.1)=false:=by rfl) :
  PE X (.Call (.Name x p) (e::es) [] pos) (wB sp dvs E t):=by
 intro a s z H Q I h;refine Yo (vO I n v ?_ c);refine PySem.W.callWith_K (h₀:=X.base) I.ok.mod.kin u (aR (i pos a s z H _ I h) λG B ⟨K,A,g,r,q⟩=>⟨g.kIn,?_⟩) l d;exact Br F w j hd y g r q
theorem IA(F:FnOk X.prog X.w X.K X.mg X.base CX k f fd ps sp)(l:Room k X.A)(g:Gl X x)(j:X.mg x=b0 (.ref f))(i:Xp X.K (.ref f)=dI)(d:Binds X.K fd ps ds)(hd:Vals dvs ds)(n:sC CX X E)
  (a:(x==("__debug__":Str))=false:=by decide):PE X (.Call (.Name x p) [] [] pos) (wB sp dvs E Bq):=by
 intro c s q H Q I h;refine Yo (vO I g j ?_ a);exact PySem.W.callWith_K0 I.kIn i (Br (us:=[]) F l d hd n I .nil h)
structure Mk(K:U9)(C f:Addr):Prop where
 makes:PySem.W.makesIn K C=dI
 init:Zm K (.ref C) "__init__"=b0 (b0 (.ref f))
 fn:a3V K (.ref f)=dI
 kp:Xp K (.ref C)=dI
end
section
variable{X:Cx}{CX:i6}{k:Nat}{f C:Addr}{fd:X5}{ps ks:List Str}{sp:Sp}{E:XK}{x m:Str}{p pos apos kpos:W9}{e o:Expr}{es:List Expr}{kws:List Zb}{te ta:TE}{t tk:TA}{nm:Option Str}
structure KBinds(K:U9)(fd:X5)(ps ks:List Str)(g:gq->gq->gq)(gV:gw->gw->gw):Prop where
 to:∀(s:Ve)(us ws:gq),K.In s.heap->(g us ws).length=ps.length->a1s s fd ⟨us,ks.zip ws⟩ (ps.zip (g us ws))
 rel:∀{vs:gw}{us:gq}{zs:gw}{ws:gq},Vals vs us->Vals zs ws->Vals (gV vs zs) (g us ws)
variable{g:gq->gq->gq}{gV:gw->gw->gw}
end
structure FnScope(N P:List Str)(sc:X4):Prop where
 kind:sc.kind=.function
 co:sc.isCoroutine=b5
 gen:sc.isGenerator=b5
 nd:N.Nodup
 pre:N.take P.length=P
 par:∀x∈P,sc.names.lookup x=b0 .local\/sc.names.lookup x=b0 .cell
 nofree:∀y∈sc.names,y.2≠.free
theorem Bs{kindOf:Str->Option X9}{x:Str}:∀{a:List (Str×Value)}{m:Str->Option Value},(∀v,(x,v)∉a)->a2Q kindOf a m x=m x
 |[],_,_=>rfl|(n,v)::r,m,h=>by
  unfold a2Q;rw[Bs λw hw=>h w (VU _ hw)];split
  .have:x≠n:=by rintro rfl;exact h v Wj
   simp[this]
  .rfl
theorem Bt{kindOf:Str->Option X9}{x:Str}:∀{a:List (Str×Value)}{m:Str->Option Value},(∀v,(x,v)∉a)->a2R kindOf a m x=m x
 |[],_,_=>rfl|(n,v)::r,m,h=>by
  unfold a2R;rw[Bt λw hw=>h w (VU _ hw)];split
  .rfl
  .have:x≠n:=by rintro rfl;exact h v Wj
   simp[this]
theorem Bu{kindOf:Str->Option X9}{x:Str}{v:Value}:∀{P:List Str}{vs:gq}{i:Nat}{m:Str->Option Value},P.Nodup->P[i]?=b0 x->vs[i]?=b0 v->kindOf x=b0 .local->
  a2Q kindOf (P.zip vs) m x=b0 v
 |[],_,_,_,_,h,_,_=>by simp at h
 |_::_,[],_,_,_,_,h,_=>by simp at h
 |p::P,w::vs,0,m,nd,h1,h2,hk=>by simp at h1 h2;subst h1;subst h2;show a2Q kindOf ((p,w)::P.zip vs) m p=_;unfold a2Q;rw[Bs λv a=>(WG.mp nd).1 (a1e a).1,if_pos hk];simp
 |p::P,w::vs,i+1,m,nd,h1,h2,hk=>by show a2Q kindOf ((p,w)::P.zip vs) m x=_;unfold a2Q;exact Bu (i:=i) (WG.mp nd).2 (by simpa using h1) (by simpa using h2) hk
theorem Bv{kindOf:Str->Option X9}{x:Str}{v:Value}:∀{P:List Str}{vs:gq}{i:Nat}{m:Str->Option Value},P.Nodup->P[i]?=b0 x->vs[i]?=b0 v->kindOf x≠b0 .local->
  a2R kindOf (P.zip vs) m x=b0 v
 |[],_,_,_,_,h,_,_=>by simp at h
 |_::_,[],_,_,_,_,h,_=>by simp at h
 |p::P,w::vs,0,m,nd,h1,h2,hk=>by simp at h1 h2;subst h1;subst h2;show a2R kindOf ((p,w)::P.zip vs) m p=_;unfold a2R;rw[Bt λv a=>(WG.mp nd).1 (a1e a).1,if_neg hk];simp
 |p::P,w::vs,i+1,m,nd,h1,h2,hk=>by show a2R kindOf ((p,w)::P.zip vs) m x=_;unfold a2R;exact Bv (i:=i) (WG.mp nd).2 (by simpa using h1) (by simpa using h2) hk
noncomputable def start(N:List Str)(vs:gw):St:=vs.map b0++XI (N.length-vs.length) b3
noncomputable def jT(CX:i6)(P:VE)(w:VW)(K:U9)(mg:Str->Option Value)(base:WA)(N:List Str)(a:Str)(scope:X4)(f:Addr)(d:Value)(A:VO)(outer:List a0y)(s:Ve)(H:Hp)(E:XK):Cx where
 prog:=P
 w:=w
 K:=K
 mg:=mg
 base:=base
 A:=A.deeper (envOfC a scope s.heap.objs.size f d)
 N:=N
 s₀:=s
 H₀:=H
 env:=envOfC a scope s.heap.objs.size f d
 outer:=outer
 stack:=envOfC a scope s.heap.objs.size f d::outer
 ex:=[]
 calm:=dI
 fn:=λ_=>dI
 pn:=[]
 xe:=λe h=>VH (VF P w) (A.deeper (envOfC a scope s.heap.objs.size f d)) (leaving (envOfC a scope s.heap.objs.size f d) e) (λ_ c=>CX outer H s E e c) (λg c=>CX outer H s E g c) h
theorem Bw{sc:X4}{n:Nat}{x:Str}(h:sc.names.lookup x=b0 .cell):∃c,(a4S n sc.names []).lookup x=b0 c:=by have q:=a1H sc.names n [] (.inl h);exact Option.isSome_iff_exists.mp q
theorem IB{CX:i6}{P:VE}{w:VW}{K:U9}{mg:Str->Option Value}{base:WA}{N ps:List Str}{d:Str}{scope:X4}{f:Addr}{B:Value}{A:VO}{outer:List a0y}{s O:Ve}{H:Hp}{E:XK}{us:gq}{vs:gw}
  (S:FnScope N ps scope)(hd:A.handled=b3)(j:Env0 P w K mg base A outer s H)(X:vs.length=ps.length)(r:Vals vs us)
  (x:InCallC s s.heap.objs.size (a2Q (envOfC d scope s.heap.objs.size f B).kindOf (ps.zip us) λ_=>b3) (a4S (s.heap.objs.size+1) scope.names []) (a2R (envOfC d scope s.heap.objs.size f B).kindOf (ps.zip us) λ_=>b3) O) :
  Inv (jT CX P w K mg base N d scope f B A outer s H E) [] (start N vs) H O:=by
 have R:ps.length<=N.length:=by have:=congrArg WI S.pre;rw[VG]at this;lia
 obtain⟨G,Y,rfl,L⟩:=x.done;have m:∀b:Addr,b∉(jT CX P w K mg base N d scope f B A outer s H E).ex:=λb z=>absurd (show b∈([]:List Addr)from z) (by simp);refine⟨⟨j.mod,S.kind,rfl,rfl,Vk _,λy z c G g=>?_,λy l=>?_,λy c _ h=>?_,λ_=>hd,Around.frames_deeper j.frames,.inr ⟨rfl,rfl⟩,λb z=>absurd z (m b),j.bs,j.bsz,λb _ _=>m b,λb z=>absurd z (m b),j.funs,j.frf⟩,
  rfl,j.bare,Un.kept L,⟨_,x.toInCall.ns,λi y v G g U=>?_⟩,λy c h=>⟨_,x.cell y c h⟩,j.hok.fresh (Vk _),λy c h=>?_,λp n=>absurd (show p∈([]:jw)from n) (by simp),j.hok.kept L,?_⟩
 .exact name_of_addr x.apart (WN G) (WN g)
 .have l:scope.names.lookup y=b0 .cell\/scope.names.lookup y=b0 .free:=l;rcases l with l|l
  .exact Bw l
  .exact absurd rfl (S.nofree _ (WN l))
 .exact Zv (x.above y c (WN h))
 .have I:i<vs.length:=by
   unfold start at g;by_cases I:i<vs.length
   .exact I
   .rw[VB (by simpa using I)]at g;rw[Yc]at g;split at g<;>cases g
  have Q:vs[i]?=b0 v:=by
   unfold start at g;rw[Vy (by simpa using I),Vx]at g;cases e:vs[i]? with
   |none=>rw[e]at g;cases g|some a=>rw[e]at g;cases g;rfl
  obtain⟨u,M,T⟩:=r.get Q;have n:ps[i]?=b0 y:=by rw[<- S.pre,WK (by lia)];exact G
  have o:ps.Nodup:=by rw[<- S.pre];exact S.nd.sublist (Yr _ _)
  refine⟨u,T,?_⟩;rcases S.par y (VR n)with k|k
  .exact .inl ⟨k,Bu o n M k⟩
  .obtain⟨c,e⟩:=Bw (n:=s.heap.objs.size+1) k;refine .inr ⟨.inl k,c,e,?_⟩;have q:=x.cell y c e;rw[Bv o n M (by show scope.names.lookup y≠_;rw[k];decide)]at q;exact q
 .exact j.hok.fresh (Zv (x.above y c (WN h)))
 .unfold start;show _=N.length;rw[Vh,U8,X2];lia
theorem IC{CX:i6}{P:VE}{w:VW}{K:U9}{mg:Str->Option Value}{base:WA}{k:Nat}{f:Addr}{name a:Str}{d:Arguments}{body:List Stmt}{scope:X4}{X kV m Y c ct oc:Value}{an od:Option Addr}
  {M:Array (Option Value)}{N ps:List Str}{sp:Sp}(lk:K.lookup f=b0 ⟨oc,od,.func (Xq name a d body scope X kV m Y an c ct),M⟩)(B:ZY K c a=dI)(S:FnScope N ps scope)
  (len:∀vs H Q E,sp vs H Q E->vs.length=ps.length)
  (i:∀(A:VO)(outer:List a0y)(s:Ve)(H:Hp)(vs:gw)(Q:VK)(E:XK),Room k (A.deeper (envOfC a scope s.heap.objs.size f c))->sp vs H Q E->
   ∃t,PSs (jT CX P w K mg base N a scope f c A outer s H E) body t/\t {nx:=λ_ h=>Q .non h,rt:=Q} (start N vs) H) :
  FnOk P w K mg base CX (k+1) f (Xq name a d body scope X kV m Y an c ct) ps sp:=by
 refine⟨len,λA outer s H U us vs Q E G p hb r z=>?_⟩;have hl:=len _ _ _ _ z;have T:K.In s.heap:=p.mod.kin.keeps λb o e=>(p.bs b o e).1;have L:s.heap.NoLimit:=p.mod.nolimit.keeps λb o e=>(p.bs b o e).1;have j:∀y∈ps.zip us,scope.names.lookup y.1=b0 .local\/(scope.names.lookup y.1=b0 .cell/\((a4S (s.heap.objs.size+1) scope.names []).lookup y.1).isSome=dI):=λ⟨n,v⟩ hy=>by
  rcases S.par n (a1e hy).1 with q|q
  .exact .inl q
  .exact .inr ⟨q,a1H _ _ _ (.inl q)⟩
 refine codeAny_call_function G.depth (T _ _ lk) rfl S.co S.gen rfl (PySem.W.codeRec_of T B) (hb _ _ _ _ ?_);refine wpAny_newFunctionEnv_cells S.kind j λenv he Z x=>?_;subst he;refine⟨L.keeps x.toInCall.keep,codeAny_func ?_⟩;obtain⟨t,ht,hq⟩:=i A outer s H vs Q E (G.deeper _) z;have I:Inv (jT CX P w K mg base N a scope f c A outer s H E) [] (start N vs) H Z:=IB S G.hd p hl r x;refine Wr (ht [] Z (start N vs) H _ I hq) (λfl R l=>?_) λe R l=>l;have fin:∀{g:St}{h:Hp}{v:V}{u:Value},Inv (jT CX P w K mg base N a scope f c A outer s H E) [] g h R->RelV v u->Q v h->CE outer P w H s Q u R:=
  λ{g h v u} J O q=>⟨v,h,J.os,J.bare,J.base,J.hok,O,q⟩
 cases fl with
 |ret u=>obtain⟨v,g,h,J,O,q⟩:=l;exact fin J O q|next=>obtain⟨g,h,J,q⟩:=l;exact fin (v:=V.non) (u:=W8) J rfl q|brk=>obtain⟨_,_,_,q⟩:=l;exact XO q|cont=>obtain⟨_,_,_,q⟩:=l;exact XO q
section
variable{X:Cx}{x:Str}{p pos:W9}{e:Expr}{es:List Expr}{t:TA}{id T:String}{r:gw->Hp->VK->Prop}
noncomputable def wC(r:gw->Hp->VK->Prop)(t:TA):TE:=λσ H Q=>t σ H λvs a=>r vs a Q
theorem ID(hc:CallR X (.builtin id) r)(m:Gl X x)(n:X.mg x=b3)(q:Xb x=b0 (.builtin id))(k:PA X (e::es) t)(o:x ≠ "__name__":=by decide) (c:(x==("__debug__":Str))=false:=by decide)
  (l:V7 (e::es) X.env=(b5,eval e X.env)::V7 es X.env:=by rfl)(d:(Yq pos (V7 es X.env)).any (·.1)=false:=by rfl):PE X (.Call (.Name x p) (e::es) [] pos) (wC r t):=by
 intro a s g H Q I h;refine Yo (i0 I m n q ?_ o c);exact a0b (aR (k pos a s g H _ I h) λy w ⟨z,i,j,v,u⟩=>hc a w g i z y Q j v u) l d
theorem IE(hc:CallR X (.type T) r)(m:Gl X x)(n:X.mg x=b3)(q:Xb x=b0 (.type T))(k:PA X (e::es) t)(o:x ≠ "__name__":=by decide) (c:(x==("__debug__":Str))=false:=by decide)
  (l:V7 (e::es) X.env=(b5,eval e X.env)::V7 es X.env:=by rfl)(d:(Yq pos (V7 es X.env)).any (·.1)=false:=by rfl):PE X (.Call (.Name x p) (e::es) [] pos) (wC r t):=by
 intro a s g H Q I h;refine Yo (i0 I m n q ?_ o c);exact Xc (aR (k pos a s g H _ I h) λy w ⟨z,i,j,v,u⟩=>hc a w g i z y Q j v u) l d
end
section
variable{κ:Type} [DecidableEq κ]
theorem RelO.isSome_eq{o:Option V}{u:Option Value}(r:RelO o u):o.isSome=u.isSome:=by
 cases o with
 |none=>cases u with
  |none=>rfl|some _=>exact(show False from r).elim
 |some _=>cases u with
  |none=>exact(show False from r).elim|some _=>rfl
theorem RelO.getD{o:Option V}{u:Option Value}{d:V}{d':Value}(r:RelO o u)(a:RelV d d'):RelV (o.getD d) (u.getD d'):=by
 cases o with
 |none=>cases u with
  |none=>exact a|some _=>exact(show False from r).elim
 |some _=>cases u with
  |none=>exact(show False from r).elim|some _=>exact r
theorem KV.length{kvs:List (κ×V)}{vs:List (κ×Value)}(r:KV kvs vs):kvs.length=vs.length:=a1w r
end
section
variable{P:VE}{w:VW}{H:Hp}{h:WA}{a:Addr}
end
section
variable{X:Cx}{a5N:jw}{σ:St}{H:Hp}{s:Ve}{a:Addr}{y v:V}{u r:Value}{o:Option V}{A:VO}{E:Value->Ve->Prop}
theorem Inv.big(I:Inv X a5N σ H s):Xo<s.heap.objs.size:=by have h:WZ<s.heap.objs.size:=(I.mod.glob.keeps I.bk).lt;exact a0J (by decide) h
theorem Bx{h':WA}{t':Nat}{c:HO}(I:Inv X a5N σ H s)(h:pL (H a))(g:Y0 a s.heap h')(e:∃q,h'.get? a=b0 q)(new:ObjOk X.prog X.w (aK H a c) h' a c) :
  Inv X a5N σ (aK H a c) {s with heap:=h',toks:=t'}:=
 I.write (x:=a) (e:=a) h (.inl rfl) (λb q d z=>(g.2 b d).trans z) e new
end
section
variable{X:Cx}{a5N:jw}{σ:St}{H:Hp}{s:Ve}{a:Addr}{kvs:List (bY×V)}{k:bY}{u:Value}{A:VO}{E:Value->Ve->Prop}
end
noncomputable def By(i:Expr):Prop:=∀c a,a1N i b5 c a=operate [c,a] (a1Z c a)
theorem IF{prog:VE}{w:VW}{A:VO}{E:Value->Ve->Prop}{s:Ve}{env:a0y}{c a:Expr}{pos:W9}{T id:String}{Q:Value->Ve->Prop}
  (n:a4n (.type T) "__getitem__"=pure (b0 (.builtin id))) (p:By a)
  (h:VH (VF prog w) A (eval c env) (λo g=>VH (VF prog w) A (eval a env) (λi d=>d.TypeIs o T/\VH (VF prog w) A (a1Z o i) Q E d) E g) E s) :
  VH (VF prog w) A (eval (.Subscript c a pos) env) Q E s:=by
 refine a2j (Wr h (λo g k=>Wr k (λi d e=>?_) λ_ _ x=>x) λ_ _ x=>x);obtain⟨m,e⟩:=e;unfold a0M;refine Va ?_;rw[getitemInPython_of_ne m.not_modules];refine Va (a5e m n ?_);have fin:VH (VF prog w) A (a1N a b5 o i) (λr j=>VH (VF prog w) A (letTemporaryGo c o r >>= λ_=>pure r) Q E j) E d:=by rw[p o i];exact wpAny_operating (Wr e (λr j l=>Va (wpAny_letTemporaryGo (Vj l))) λ_ _ x=>x)
 first
  |exact Vj (Va fin)|exact Va (Vj (Va fin))|exact Va fin
section
variable{X:Cx}{o i e value:Expr}{pos pos' tpos:W9}{td ty tv:TE}
end
section
variable{X:Cx}{pos:W9}
end
noncomputable def Bz:List (TE×TE)->St->Hp->(List (V×V)->Hp->Prop)->Prop
 |[],_,H,Q=>Q [] H|(tk,tv)::r,σ,H,Q=>tk σ H λx a=>tv σ a λy c=>Bz r σ c λe d=>Q ((x,y)::e) d
noncomputable abbrev VV:List (V×V)->List (Value×Value)->Prop:=Zo λp q=>RelV p.1 q.1/\RelV p.2 q.2
noncomputable def IG(X:Cx)(pos:W9)(keys:List (Option Expr))(a:List Expr)(c:List (TE×TE)):Prop:=
 ∀(a5N:jw)(s:Ve)(σ:St)(H:Hp)(Q:List (V×V)->Hp->Prop),Inv X a5N σ H s->Bz c σ H Q->
  VH (VF X.prog X.w) X.A (evalPairs (pairTrees keys a X.env pos)) (λh g=>∃e d,Inv X a5N σ d g/\VV e h/\Q e d) X.xe s
structure M1(X:Cx)(o:Expr)(m:Str)(apos:W9)(e:Expr)(cpos:W9):Prop where
 base:Zu o m X.env (eval o X.env)=eval o X.env
 few:((Yq cpos (V7 [e] X.env)).all (λx=>!x.1)&&(a3R cpos (a1P [] X.env)).all (λx=>x.1.isSome)
  && decide (([e]:List Expr).length+([]:List Zb).length+(if([]:List Zb).isEmpty then 0 else 1)<30))=dI
 line:(apos.endLine==cpos.line)=dI
 trees:Yq cpos (V7 [e] X.env)=[(b5,eval e X.env)]
structure M2(X:Cx)(o:Expr)(m:Str)(apos:W9)(e f:Expr)(cpos:W9):Prop where
 base:Zu o m X.env (eval o X.env)=eval o X.env
 few:((Yq cpos (V7 [e,f] X.env)).all (λx=>!x.1)&&(a3R cpos (a1P [] X.env)).all (λx=>x.1.isSome)
  && decide (([e,f]:List Expr).length+([]:List Zb).length+(if([]:List Zb).isEmpty then 0 else 1)<30))=dI
 line:(apos.endLine==cpos.line)=dI
 trees:Yq cpos (V7 [e,f] X.env)=[(b5,eval e X.env),(b5,eval f X.env)]
noncomputable def IsD(H:Hp)(a:Addr):Prop:=(∃kvs,Rd H a (.dK kvs))\/∃kvs,Rd H a (.dT kvs)
section
variable{X:Cx}{a5N:jw}{σ:St}{H:Hp}{s:Ve}{a:Addr}{y d:V}{u r:Value}{o:Option V}{A:VO}{E:Value->Ve->Prop}
end
section
variable{X:Cx}{o e f:Expr}{apos cpos:W9}{td ty tx:TE}
end
section
variable{X:Cx}{a5N:jw}{σ:St}{H:Hp}{s:Ve}{a:Addr}{kvs:List (bY×V)}{A:VO}{E:Value->Ve->Prop}
end
section
variable{X:Cx}{a5N:jw}{σ:St}{H:Hp}{s:Ve}{a:Addr}{y:V}{u:Value}{A:VO}{E:Value->Ve->Prop}
end
end L2
namespace HT
open PySem PyProof.Rows
noncomputable def lexLt:List Int->List Int->Bool
 |[],[]=>b5|[],_::_=>dI|_::_,[]=>b5|x::xs,y::ys=>if x=y then lexLt xs ys else decide (x<y)
theorem lexLt_cons(x y:Int)(xs a:List Int):lexLt (x::xs) (y::a)=if x=y then lexLt xs a else decide (x<y):=rfl
theorem IH:lexLt [] []=false:=rfl
theorem II(y:Int)(a:List Int):lexLt [] (y::a)=true:=rfl
theorem IJ(x:Int)(xs:List Int):lexLt (x::xs) []=false:=rfl
theorem IK(A:VO)(s:Ve)(a:Int)(t:a4U)(c:Int)(u:a4U):∃e,YG A s (.int a t) (.int c u) e/\(e=dI↔a=c):=
 ⟨(a==c),SeqAt.EqAt.int_int a t c u,by simp⟩
theorem IL(A:VO)(s:Ve)(a:Int)(t:a4U)(c:Int)(u:a4U)(prog:VE)(w:VW)(E:Value->Ve->Prop)(Q:Value->Ve->Prop)(h:Q (.bool (decide (a<c))) s) :
  VH (VF prog w) A (YB .Lt (.int a t) (.int c u)) Q E s:=
 (a5m h:VH (VF prog w) A (WB .Lt (.int a t) (.int c u)) Q E s)
section
open PySem.SeqAt
open PySem.AutoSeq1 (wpAny_loadPart')
open PySem.MeetsSeq PySem.MeetsSeq2 PySem.MeetsSeq3
theorem IM(l b:Addr)(items i:Array Value)(n n2:Nat)(Y M:Option Addr)(sl Q:Array (Option Value))(ns ms:List Int)(T:YJ items.toList ns)(U:YJ i.toList ms) :
  Meets (Builtin.«tuple.__lt__» ⟨[.ref l,.ref b],[]⟩)
   (λ_ R s=>s.heap.get? l=b0 {cls:=.type "tuple",dict:=Y,data:=.seq items n,slots:=sl}/\s.heap.get? b=b0 {cls:=.type "tuple",dict:=M,data:=.seq i n2,slots:=Q} /\
    R (.ok (.ret (.bool (lexLt ns ms)))) s):=
 .of_wp λz w A R s h=>by
  obtain⟨I,g,d,L,K⟩:=s;obtain⟨hl,Z,h⟩:=h;have f2:=AutoSeq1.sub_tuple_tuple;have z1:items.size=ns.length:=by rw[<- T.length];simp
  have z2:i.size=ms.length:=by rw[<- U.length];simp
  wp_walk using YV hl,YV Z,wpAny_forIn_list _ (λrest b O=>b.1=b3/\O=⟨I,g,d,L,K⟩/\∃(vs ws:gq)(m k:List Int),rest=vs.zip ws /\
   YJ vs m/\YJ ws k/\m.length+i.size=k.length+items.size/\R (.ok (.ret (.bool (lexLt m k)))) ⟨I,g,d,L,K⟩) _
  case turn=>
   rintro⟨y,x⟩ rest b O ⟨B,rfl,vs,ws,m,k,p,E,o,j,r⟩;cases E with
   |nil=>rw[List.zip_nil_left]at p;cases p|cons a t G=>
    cases o with
    |nil=>rw[List.zip_nil_right]at p;cases p|cons c u H=>
     rw[a2X]at p;injection p with hyx hrest;injection hyx with hy hx;subst hy hx;rw[lexLt_cons]at r;simp only[VD]at j;obtain⟨e,he,v⟩:=IK A.in1 ⟨I,g,d,L,K⟩ a t c u;refine Va (he z w _ _ ?_);cases e with
     |true=>rw[if_pos (v.mp rfl)]at r;wp_walk;exact⟨rfl,rfl,_,_,_,_,hrest,G,H,by lia,r⟩|false=>rw[if_neg (λq=>absurd (v.mpr q) Vm)]at r;have N:=IL A.in1 ⟨I,g,d,L,K⟩ a t c u z w;wp_walk using N;exact⟨_,rfl,by simpa using r⟩
  case fin=>
   rintro⟨b1,b2⟩ O ⟨B,rfl,vs,ws,m,k,p,E,o,j,r⟩;simp only at B;subst B;have X:lexLt m k=decide (items.size<i.size):=by
    cases E with
    |nil=>
     cases o with
     |nil=>simp only[Xi]at j;rw[IH];exact(decide_eq_false (by lia)).symm|cons c u hw=>simp only[Xi,VD]at j;rw[II];exact(decide_eq_true (by lia)).symm
    |cons a t X=>
     cases o with
     |nil=>simp only[Xi,VD]at j;rw[IJ];exact(decide_eq_false (by lia)).symm|cons c u hw=>rw[a2X]at p;cases p
   rw[X]at r;wp_walk;exact⟨_,rfl,by simpa[a5b]using r⟩
  case h=>exact⟨rfl,rfl,items.toList,i.toList,ns,ms,rfl,T,U,by lia,h⟩
end
section
variable{prog:VE}{w:VW}{A:VO}{E:Value->Ve->Prop}{s:Ve}
theorem lt_tupInts{l b:Addr}{items a:Array Value}{ns ms:List Int}{Q:Value->Ve->Prop}(v:a4N s.heap l items)(q:a4N s.heap b a)(r:YJ items.toList ns)(u:YJ a.toList ms)
  (y:A.units<W0)(h:Q (.bool (lexLt ns ms)) s):VH (VF prog w) A (WB .Lt (.ref l) (.ref b)) Q E s:=by
 obtain⟨⟨cls,p,m,B⟩,o,hc,n,hd⟩:=id v;obtain⟨⟨k,i,g,j⟩,e,c,z,d⟩:=id q;simp only at hc hd c d;subst hc hd c d;exact richCompare_meets_room (op:=.Lt) ⟨_,o,rfl⟩ ⟨_,e,rfl⟩ PySem.F.slot_tuple_lt PySem.F.entry_tuple_lt (PySem.F.args_tuple_lt_2 _ _) (IM l b items a n z p i B j ns ms r u)
  ⟨o,e,show Xs (lexLt ns ms)≠Value.notImplemented/\Q (.bool (lexLt ns ms)) s from⟨(λx=>nomatch x),h⟩⟩ y
noncomputable def sIx(n d:Nat):Option Int->Nat
 |none=>d|some v=>if v<0 then(v+(n:Int)).toNat else min v.toNat n
theorem sIx_none(n d:Nat):sIx n d b3=d:=rfl
theorem sIx_nat(n d k:Nat):sIx n d (b0 (k:Int))=min k n:=by show(if(k:Int)<0 then((k:Int)+(n:Int)).toNat else min (k:Int).toNat n)=min k n;rw[if_neg (by lia),WR]
end
end HT
namespace L2
open PySem PySem.Spec PyProof.Rows
noncomputable abbrev TO:=St->Hp->(Option Int->Hp->Prop)->Prop
noncomputable def PO(X:Cx)(e:Option Expr)(t:TO):Prop:=
 ∀(a5N:jw)(s:Ve)(σ:St)(H:Hp)(Q:Option Int->Hp->Prop),Inv X a5N σ H s->t σ H Q->
  VH (VF X.prog X.w) X.A (evalPart e X.env) (λu c=>∃o a,Inv X a5N σ a c/\IsPart u o/\Q o a) X.xe s
noncomputable def IP:TO:=λ_ H Q=>Q b3 H
noncomputable def IQ(t:TE):TO:=λσ H Q=>t σ H λx a=>∃i,x=.int i/\Q (b0 i) a
theorem wD{ns:List Int}:∀{us:gq},Vals (ns.map V.int) us->YJ us ns:=by
 induction ns with
 |nil=>intro us r;rw[a4L]at r;cases r;exact .nil|cons n ns a=>
  intro us r;rw[VP]at r;cases r with
  |cons c d=>obtain⟨t,e⟩:=c;subst e;exact .cons n t (a d)
section
variable{X:Cx}{e:Expr}{te:TE}{lo hi:Option Expr}{tl th:TO}{pos p2:W9}
theorem IS:PO X b3 IP:=by intro a s c H Q I h;rw[evalPart_none];exact Vj ⟨b3,H,I,.none,h⟩
theorem IT(h:PE X e te):PO X (b0 e) (IQ te):=by intro a s k H Q I hw;rw[evalPart_some];refine aR (h a s k H _ I hw) λu l ⟨x,c,d,j,g⟩=>?_;obtain⟨i,rfl,q⟩:=g;obtain⟨t,rfl⟩:=j;exact⟨b0 i,c,d,.int i t,q⟩
noncomputable def wF(X:Cx)(r:V->Option Int->Option Int->Hp->VK->Prop):Prop:=
 ∀(a5N:jw)(s:Ve)(σ:St)(H:Hp)(x:V)(v c d:Value)(lo hi:Option Int)(a:Addr)(Q:VK),Inv X a5N σ H s->RelV x v->s.heap.IsSliceOf a c d .none->IsPart c lo->IsPart d hi->r x lo hi H Q->
  ∃T id,a4n (.type T) "__getitem__"=pure (b0 (.builtin id))/\s.TypeIs v T/\VH (VF X.prog X.w) X.A (a1Z v (.ref a)) (EP X a5N σ Q) X.xe s
noncomputable def IU(r:V->Option Int->Option Int->Hp->VK->Prop)(te:TE)(tl th:TO):TE:=λσ H Q=>te σ H λx a=>tl σ a λl c=>th σ c λu d=>r x l u d Q
theorem IV{r:V->Option Int->Option Int->Hp->VK->Prop}(E:wF X r)(z:PE X e te)(B:PO X lo tl)(K:PO X hi th):PE X (.Subscript e (.Slice lo hi b3 p2) pos) (IU r te tl th):=by intro a s d H Q I h;refine a2j (aR (z a s d H _ I h) λv Y ⟨x,k,n,U,N⟩=>?_);refine wpAny_Slice (aR (B a Y d k _ n N) λg Z ⟨l,m,o,L,O⟩=>aR (K a Z d m _ o O) λi c ⟨u,j,p,M,R⟩=>?_);rw[evalPart_none];refine Vj ?_;have w:Inv X a d j {c with heap:=c.heap.push {cls:=.type "slice",data:=.fields #[g,i,.none]}}:=p.kept (t':=c.toks) λb ob q=>Vg _ q;obtain⟨T,id,y,G,A⟩:=E a {c with heap:=c.heap.push {cls:=.type "slice",data:=.fields #[g,i,.none]}} d j x v g i l u c.heap.objs.size Q w U (a1h ..) L M R;show VH (VF X.prog X.w) X.A (a0M e (.Slice lo hi b3 p2) v (.ref c.heap.objs.size)) (EP X a d Q) X.xe {c with heap:=c.heap.push {cls:=.type "slice",data:=.fields #[g,i,.none]}};exact a5G (ops:=[.ref c.heap.objs.size,v]) G y A (by with_unfolding_all rfl)
noncomputable def kT(xs:gw)(lo hi:Option Int):gw:=(xs.drop (HT.sIx xs.length 0 lo)).take (HT.sIx xs.length xs.length hi-HT.sIx xs.length 0 lo)
theorem IW(xs:gw)(lo hi:Option Int):(kT xs lo hi).length<=xs.length:=by unfold kT;rw[VG,V5];lia
end
noncomputable def i7(n:Nat)(i:Int):Option Nat:=if 0<=i then(if i<n then b0 i.toNat else b3)else if -(n:Int)<=i then b0 (i+n).toNat else b3
noncomputable def atI{a:Type}(xs:List a)(i:Int):Option a:=(i7 xs.length i).bind λj=>xs[j]?
theorem BA{n:Nat}{i:Int}{j:Nat}(h:i7 n i=b0 j):seqIndex? i n=b0 j/\j<n/\-(n:Int)<=i/\i<n:=by
 unfold i7 at h;by_cases c:0<=i
 .rw[if_pos c]at h;by_cases a:i<n
  .rw[if_pos a]at h;have e:i.toNat=j:=Vs h;exact⟨by rw[a3M c a,e],by lia,by lia,a⟩
  .rw[if_neg a]at h;cases h
 .rw[if_neg c]at h;by_cases a:-(n:Int)<=i
  .rw[if_pos a]at h;have e:(i+n).toNat=j:=Vs h;exact⟨by rw[a3h (by lia) a,e],by lia,a,by lia⟩
  .rw[if_neg a]at h;cases h
theorem wG{a:Type}{xs:List a}{i:Int}{v:a}(h:atI xs i=b0 v):∃j,seqIndex? i xs.length=b0 j/\xs[j]?=b0 v/\j<xs.length/\-(xs.length:Int)<=i/\i<xs.length:=by
 unfold atI at h;cases e:i7 xs.length i with
 |none=>rw[e]at h;cases h|some j=>rw[e]at h;obtain⟨c,d,g,k⟩:=BA e;exact⟨j,c,h,d,g,k⟩
noncomputable def wH(b:Expr):Prop:=∀o i,a1N b b5 o i=operate [o,i] (a1Z o i)
noncomputable def IxR(X:Cx)(r:R2):Prop:=
 ∀(c a:Expr)(a5N:jw)(s:Ve)(σ:St)(H:Hp)(x y:V)(v u:Value)(Q:VK),Inv X a5N σ H s->RelV x v->RelV y u->r x y H Q->
  a1N a b5 v u=operate [v,u] (a1Z v u)->VH (VF X.prog X.w) X.A (a0M c a v u) (EP X a5N σ Q) X.xe s
noncomputable def IX(X:Cx)(id:String)(r:V->gw->Hp->VK->Prop):Prop:=
 ∀(a5N:jw)(s:Ve)(σ:St)(H:Hp)(x:V)(xs:gw)(v:Value)(us:gq)(Q:VK),Inv X a5N σ H s->RelV x v->Vals xs us->r x xs H Q->
  VH (VF X.prog X.w) X.A (call (.builtin id) (v::us)) (EP X a5N σ Q) X.xe s
section
variable{X:Cx}{a b:Expr}{ta tb:TE}{pos:W9}
theorem IxR.or{r i:R2}(h:IxR X r)(h':IxR X i):IxR X (λx y H Q=>r x y H Q\/i x y H Q):=by
 intro d c e s l H x y v u Q I j k q g;rcases q with q|q
 .exact h d c e s l H x y v u Q I j k q g
 .exact h' d c e s l H x y v u Q I j k q g
theorem IY{r:R2}(j:IxR X r)(g:PE X a ta)(i:PE X b tb)(k:wH b):PE X (.Subscript a b pos) (pP r ta tb):=by intro c s o H Q I h;exact a2j (vW g i I h λv u n x y d e l m q=>j a b c n o d x y v u Q e l m q (k _ _))
noncomputable def BB(K:U9):R2:=λx y H Q=>∃p xs i v,x=.ref p/\y=.int i/\SqL K H p xs/\atI xs i=b0 v/\Q v H
noncomputable def BC(K:U9):R2:=λx y H Q=>∃p xs i v,x=.ref p/\y=.int i/\SqT K H p xs/\atI xs i=b0 v/\Q v H
noncomputable def BE:R2:=λx y H Q=>∃z i c,x=.str z/\y=.int i/\z.length<=Vp/\atI z.cps.toList i=b0 c/\Q (.str ⟨#[c]⟩) H
theorem ix_list:IxR X (BB X.K):=by
 intro n m c s E H x y v u Q I R T h B;obtain⟨p,xs,i,z,rfl,rfl,O,M,q⟩:=h;cases R;obtain⟨t,rfl⟩:=T;obtain⟨g,r,k,hz⟩:=I.list O;obtain⟨j,d,G,Y,K,L⟩:=wG M;obtain⟨w,o,l⟩:=r.get G;have N:=r.length;have Z:=kS;have fin:EP X c E Q w s:=⟨z,H,I,l,q⟩;by_cases A:0<=i
 .have e:i.toNat=j:=by rw[a3M A L]at d;exact Vs d
  exact item_listR k.isList A (by lia) (by rw[e];simpa using o) fin B
 .have e:(i+(g.toArray.size:Int)).toNat=j:=by rw[a3h (by lia) K]at d;rw[Vi,<- N];exact Vs d
  exact a3g (x:=w) k.isList.typeIs a1i.lookup
   (wpAny_getItem_list_neg (Q:=λr U=>r=w/\EP X c E Q r U) k.isList (by lia) (by rw[Vi]<;>lia) (by lia) (by rw[e];simpa using o) ⟨rfl,fin⟩) B
theorem ix_tup:IxR X (BC X.K):=by
 intro g e c s l H x y v u Q I L M h G;obtain⟨p,Z,i,z,rfl,rfl,E,A,q⟩:=h;cases L;obtain⟨t,rfl⟩:=M;obtain⟨K,r,k,Y⟩:=I.tuple E;obtain⟨j,n,o,O,R,T⟩:=wG A;obtain⟨w,m,d⟩:=r.get o;have B:=r.length;have U:=kS;have fin:EP X c l Q w s:=⟨z,H,I,d,q⟩;exact a3g (x:=w) k.typeIs slot_tuple_getitem.lookup
  (getItem_tuple (j:=j) (Q:=λr N=>r=w/\EP X c l Q r N) k (by lia) (by lia) (by rw[Vi,<- B];exact n) (by simpa using m) ⟨rfl,fin⟩) G
theorem IZ:IxR X BE:=by
 intro e d k s N H x y v u Q I B E h A
 obtain ⟨z,i,c,rfl,rfl,L,r,q⟩:=h
 obtain ⟨t,rfl⟩:=B
 obtain ⟨M,rfl⟩:=E
 obtain ⟨j,g,n,G,o,p⟩:=wG r
 have w:z.cps.toList.length=z.length:=by simp [Str.length]
 rw [w] at g o p
 have K:=kS
 exact a5G (typeIs_str s z t) slot_str_getitem.lookup (getItem_str (c:=c) (by
  have l:decide (i < -(2 ^ 63:Int))=false:=decide_eq_false (by lia)
  have m:decide (i >= 2 ^ 63)=false:=decide_eq_false (by lia)
  rw [l,m,a1U]) (by rw [g];simpa using n) ⟨.str ⟨#[c]⟩,H,I.tok _,⟨_,rfl⟩,q⟩) A
noncomputable def BF (K:U9):R2:=fun x y H Q=>BB K x y H Q\/BC K x y H Q\/BE x y H Q
theorem Ja:IxR X (BF X.K):=ix_list.or (ix_tup.or IZ)
theorem Jb(c:gq)(n j:Nat)(u:Value):Ww (·.setIfInBounds j u) {cls:=.type "list",data:=.seq c.toArray n}={cls:=.type "list",data:=.seq (c.set j u).toArray n}:=by simp[Ww]
theorem Inv.lst{a5N:jw}{σ:St}{H:Hp}{s:Ve}{p:Addr}{xs:gw}(I:Inv X a5N σ H s)(h:H p=b0 (.lst xs)) :
  ∃(c:gq)(n:Nat),Vals xs c/\s.heap.get? p=b0 {cls:=.type "list",data:=.seq c.toArray n}/\xs.length<=Vp:=by
 obtain⟨z,c,n,r,e⟩:=I.hok p _ h;exact⟨c,n,r,e,z⟩
theorem Inv.lstUpd{a5N:jw}{σ:St}{H:Hp}{s:Ve}{p:Addr}{xs g:gw}{c its':gq}{n d:Nat}{f:Obj->Obj}(I:Inv X a5N σ H s)(h:H p=b0 (.lst xs))
  (k:s.heap.get? p=b0 {cls:=.type "list",data:=.seq c.toArray n}) (i:f {cls:=.type "list",data:=.seq c.toArray n}={cls:=.type "list",data:=.seq its'.toArray d}) (r:Vals g its')(hz:g.length<=Vp)(t:Nat) :
  Inv X a5N σ (aK H p (.lst g)) {s with heap:=s.heap.update p f,toks:=t}:=by
 have e:(s.heap.update p f).get? p=b0 {cls:=.type "list",data:=.seq its'.toArray d}:=by rw[WX f k (by rw[i]<;>rfl),i]
 refine I.write (x:=p) (e:=p) (by rw[h];trivial) (.inl rfl) (λb u j q=>(Wl _ _ (WM j)).trans q) ⟨_,e⟩ ?_;exact⟨hz,its',d,r,e⟩
noncomputable def wI:V->V->V->Hp->(Hp->Prop)->Prop:=λo i v H Q=>∃p xs k j,o=.ref p/\i=.int k/\H p=b0 (.lst xs)/\i7 xs.length k=b0 j/\Q (aK H p (.lst (xs.set j v)))
theorem Jc:HD X wI:=by
 intro e s N H o i v U T u Q I K G L h;obtain⟨p,M,k,j,rfl,rfl,A,B,q⟩:=h;cases K;obtain⟨t,rfl⟩:=G;obtain⟨c,n,r,m,E⟩:=I.lst A;obtain⟨d,O,y,z⟩:=BA B;have l:=r.length;have R:=kS;have w:Inv X e N (aK H p (.lst (M.set j v))) {s with heap:=s.heap.update p (Ww (·.setIfInBounds j u))}:=
  I.lstUpd A m (Jb c n j u) (r.set L j) (by rw[XR];exact E) s.toks
 by_cases x:0<=k
 .have g:k.toNat=j:=by rw[a3M x z]at d;exact Vs d
  exact PySem.W.ki_setAt m x (by lia) (by rw[Vi,<- l];exact z) (by rw[g];exact⟨_,w,q⟩)
 .have g:(k+(c.toArray.size:Int)).toNat=j:=by rw[a3h (by lia) y]at d;rw[Vi,<- l];exact Vs d
  exact PySem.W.ki_setBack m (by lia) (by rw[Vi,<- l];exact y) (by lia) (by rw[g];exact⟨_,w,q⟩)
theorem Jd(lo c:Option Int)(n:Nat):(Yi lo c b3 n).1=((HT.sIx n 0 lo:Nat):Int)/\(Yi lo c b3 n).2.1=((HT.sIx n n c:Nat):Int)/\(Yi lo c b3 n).2.2=1:=by
 refine⟨?_,?_,rfl⟩
 .cases lo with
  |none=>simp[Yi,HT.sIx]|some i=>
   simp only[Yi,HT.sIx,a2V,show(1:Int)>0 by decide,if_true];by_cases h:i<0
   .simp only[h,if_true]<;>lia
   .simp only[h,if_false]<;>lia
 .cases c with
  |none=>simp[Yi,HT.sIx]|some i=>
   simp only[Yi,HT.sIx,a2V,show(1:Int)>0 by decide,if_true];by_cases h:i<0
   .simp only[h,if_true]<;>lia
   .simp only[h,if_false]<;>lia
theorem Je(c:gq)(lo d:Option Int):a2P c.toArray lo d b3=((c.drop (HT.sIx c.length 0 lo)).take (HT.sIx c.length c.length d-HT.sIx c.length 0 lo)).toArray:=by obtain⟨e,g,h⟩:=Jd lo d c.toArray.size;unfold a2P;rw[e,g,h];simp only[sliceRange_one,pick_run,Vi]<;>rfl
noncomputable def wJ(K:U9):V->Option Int->Option Int->Hp->VK->Prop:=λx lo c H Q=>∃a xs,x=.ref a/\SqL K H a xs/\∀p,H p=b3->Q (.ref p) (aK H p (.lst (kT xs lo c)))
theorem Jf:wF X (wJ X.K):=by intro j s B H x v z A e g y Q I u k o p h;obtain⟨a,c,rfl,l,q⟩:=h;cases u;obtain⟨n,r,i,m⟩:=I.list l;have d:=r.length;refine⟨"list",_,a1i.lookup,i.isList.typeIs,?_⟩;refine a2F i.isList k o p .none (by simp) ?_ (by rw[Vi]<;>lia);rw[Je,<- d];refine⟨.ref s.heap.objs.size,_,I.laid (t':=s.toks) (o:=.lst (kT c e g)) (λb w q=>Vg _ q) (Vk _) ?_,rfl,q _ (I.hok.fresh (Vk _))⟩;exact⟨WD (IW c e g) m,_,0,(r.drop (HT.sIx c.length 0 e)).take (HT.sIx c.length c.length g-HT.sIx c.length 0 e),Vr _ rfl⟩
theorem BG:OpR X (WB .NotIn) (λx y H Q=>∃i j,x=.str i/\y=.str j/\Q (.bl (!(!(WU j i 0 j.length 1).isEmpty))) H):=by intro c s k H x y v u Q I d e h;obtain⟨i,j,rfl,rfl,q⟩:=h;obtain⟨t,rfl⟩:=d;obtain⟨g,rfl⟩:=e;exact notIn_str ⟨.bl _,H,I,rfl,q⟩
theorem call_len_seq:CallR X (.builtin "len") (λxs H Q=>∃p d,xs=[.ref p]/\(SqL X.K H p d\/SqT X.K H p d)/\Q (.int d.length) H):=by
 intro k s v H xs o Q I r h;obtain⟨p,d,rfl,e,q⟩:=h;obtain⟨u,rfl,m⟩:=i5 r;cases m;have n:=kS;rcases e with e|e
 .obtain⟨g,j,i,l⟩:=I.list e;have c:=j.length;exact Calls.call_len_list i.isList (by simp only[Vi]<;>lia) ⟨.int d.length,H,I.tok _,⟨s.toks+1,by rw[Vi,c]⟩,q⟩
 .obtain⟨g,j,i,l⟩:=I.tuple e;have c:=j.length;exact len_tuple i (by simp only[Vi]<;>lia) ⟨.int d.length,H,I.tok _,⟨s.toks+1,by rw[Vi,c]⟩,q⟩
theorem Jg:CallR X (.builtin "len") (λxs H Q=>∃z,xs=[.str z]/\z.length<=Vp/\Q (.int z.length) H):=by intro c s i H xs g Q I r h;obtain⟨z,rfl,e,q⟩:=h;obtain⟨u,rfl,t,rfl⟩:=i5 r;have d:=kS;exact len_str (by lia) ⟨.int z.length,H,I.tok _,⟨_,rfl⟩,q⟩
theorem CallR.or{f:Value}{r d:gw->Hp->VK->Prop}(h:CallR X f r)(h':CallR X f d):CallR X f (λxs H Q=>r xs H Q\/d xs H Q):=by
 intro c s i H xs g Q I e q;rcases q with q|q
 .exact h c s i H xs g Q I e q
 .exact h' c s i H xs g Q I e q
theorem BH:CallR X (.type "tuple") (λxs H Q=>∃p d,xs=[.ref p]/\((SqL X.K H p d/\∀l,H l=b3->Q (.ref l) (aK H l (.tup d)))\/(SqT X.K H p d/\Q (.ref p) H))):=by
 intro g s x H xs B Q I r h;obtain⟨p,d,rfl,h⟩:=h;obtain⟨u,rfl,A⟩:=i5 r;cases A;rcases h with⟨j,q⟩|⟨j,q⟩
 .obtain⟨c,m,k,w⟩:=I.list j;have v:=m.length;refine call_tuple_list k.isList (λi z=>?_) (by simp only[Vi]<;>lia);have n:Inv X g x H {s with heap:=i}:=I.kept (t':=s.toks) z;have y:Inv X g x (aK H i.objs.size (.tup d)) {s with heap:=i.push {cls:=.type "tuple",data:=.seq c.toArray}}:=
   n.laid (t':=s.toks) (λb o e=>Vg _ e) (Vk _) (show ObjOk X.prog X.w _ _ _ (.tup d)from⟨w,c,m,TupN.new _ _⟩)
  exact⟨.ref i.objs.size,_,y,rfl,q _ (n.hok.fresh (Vk _))⟩
 .obtain⟨c,m,k,w⟩:=I.tuple j;exact call_tuple_same k ⟨.ref p,H,I,rfl,q⟩
noncomputable def wK(K:U9)(T:String)(x:V)(H:Hp):Prop:=match x with
 |.str _=>T="str"|.int _=>T="int"|.ref p=>(T="list"/\∃d,SqL K H p d)\/(T="tuple"/\∃o,K.lookup p=b0 o/\o.cls=.type "tuple"/\o.dict=b3) \/
   (T="dict"/\((∃c,H p=b0 (.dK c))\/∃c,H p=b0 (.dT c)))\/(T="set"/\∃S n,H p=b0 (.set S n))
 |_=>False
theorem Jh{a5N:jw}{σ:St}{H:Hp}{s:Ve}{T:String}{x:V}{v:Value}(I:Inv X a5N σ H s)(r:RelV x v)(ty:wK X.K T x H) :
  s.TypeIs v T/\∀a,v=.ref a->∃k,s.heap.get? a=b0 k/\k.dict=none:=by
 cases x with
 |str z=>obtain⟨t,rfl⟩:=r;cases(show T="str" from ty);exact⟨typeIs_str s z t,λ_ e=>nomatch e⟩|int i=>obtain⟨t,rfl⟩:=r;cases(show T="int" from ty);exact⟨typeIs_int s i t,λ_ e=>nomatch e⟩|ref p=>
  cases r;rcases ty with⟨rfl,u,m⟩|⟨rfl,o,d,hc,hd⟩|⟨rfl,d⟩|⟨rfl,S,n,d⟩
  .obtain⟨q,_,l,_⟩:=I.list m;refine⟨l.isList.typeIs,λa e=>?_⟩;cases e;obtain⟨o,n,e,c,hd,_⟩:=l;exact⟨o,e,hd⟩
  .refine⟨⟨o,I.kIn p o d,hc⟩,λa e=>?_⟩;cases e;exact⟨o,I.kIn _ o d,hd⟩
  .have z:∃o,s.heap.get? p=b0 o/\o.ExactDict:=by
    rcases d with⟨j,d⟩|⟨j,d⟩
    .obtain⟨_,_,_,_,o,_,_,e,g,_⟩:=I.hok p _ d;exact⟨o,e,g⟩
    .obtain⟨_,_,_,_,o,_,_,e,g,_⟩:=I.hok p _ d;exact⟨o,e,g⟩
   obtain⟨o,e,g⟩:=z;refine⟨⟨o,e,g.1⟩,λa h=>?_⟩;cases h;exact⟨o,e,g.2.1⟩
  .obtain⟨o,_,_,_,e,g,_⟩:=I.hok p _ d;refine⟨⟨o,e,g.1⟩,λa h=>?_⟩;cases h;exact⟨o,e,g.2.1⟩
 |_=>exact XO ty
noncomputable def BI(K:U9)(T:String)(r:V->gw->Hp->VK->Prop)(to:TE)(t:TA):TE:=λσ H Q=>to σ H λx c=>wK K T x c/\t σ c λxs d=>r x xs d Q
variable{o e:Expr}{es:List Expr}{to:TE}{t:TA}{name:Str}{apos cpos:W9}{T id:String}{r:V->gw->Hp->VK->Prop}
theorem Ji(L:PlainAttrs T)(k:Slot T name id)(l:typeOf (.builtin id)=pure (.type "method_descriptor")) (E:IX X id r)(G:PE X o to)(B:PA X (e::es) t)
  (g:Zu o name X.env (eval o X.env)=eval o X.env:=by rfl)
  (j:((Yq cpos (V7 (e::es) X.env)).all (λx=>!x.1)&&(a3R cpos (a1P [] X.env)).all (λx=>x.1.isSome)
   && decide ((e::es).length+([]:List Zb).length+(if([]:List Zb).isEmpty then 0 else 1)<30))=true:=by rfl)
  (i:(apos.endLine==cpos.line)=true:=by rfl)(K:V7 (e::es) X.env=(b5,eval e X.env)::V7 es X.env:=by rfl)(c:(Yq cpos (V7 es X.env)).any (·.1)=false:=by rfl) :
  PE X (.Call (.Attribute o name apos) (e::es) [] cpos) (BI X.K T r to t):=by
 intro d s m H Q I h;refine wpAny_Call_method_late g j i rfl (aR (G d s m H _ I h) λv R ⟨x,u,n,q,ty,M⟩=>?_);obtain⟨z,A⟩:=Jh n q ty;refine⟨T,id,L,k,l,z,A,?_⟩;have p:=B cpos d R m u _ n M;rw[K]at p ⊢;refine ZT (by show(b5||(Yq cpos (V7 es X.env)).any (·.1))=b5;rw[c]<;>rfl) (Calls.evalArgs_plain ?_);exact aR p λY U ⟨Z,w,y,O,N⟩=>E d U m w x Z v Y Q y q O N
end
noncomputable def pR(X:Cx)(id:String)(r:V->gw->Hp->VK->Prop):Prop:=
 ∀(a5N:jw)(s:Ve)(σ:St)(H:Hp)(x:V)(xs:gw)(v:Value)(us:gq)(Q:VK),Inv X a5N σ H s->RelV x v->Vals xs us->r x xs H Q->
  VH (VF X.prog X.w) X.A (call (.builtin id) (v::us)) (EP X a5N σ Q) X.xe s
theorem Vals.one{x:V}{us:gq}(h:Vals [x] us):∃u,us=[u]/\RelV x u:=by
 cases h with
 |cons r t=>cases t;exact⟨_,rfl,r⟩
section
variable{X:Cx}{a5N:jw}{σ:St}{H:Hp}{s:Ve}{l b:Addr}{xs ys zs:gw}
theorem Inv.lset{a its':gq}{n:Nat}{f:Array Value->Array Value}{t':Nat}(I:Inv X a5N σ H s)(c:H l=b0 (.lst xs))
  (e:s.heap.get? l=b0 {cls:=.type "list",data:=.seq a.toArray n}) (g:f a.toArray=its'.toArray)(i:Vals ys its')(hz:ys.length<=Vp) :
  Inv X a5N σ (aK H l (.lst ys)) {s with heap:=s.heap.update l (Ww f),toks:=t'}:=by
 have q:=PySem.IsL.update e f;rw[g]at q;refine I.write (x:=l) (e:=l) (by rw[c];exact trivial) (.inl rfl) (λj u d h=>(Wl s.heap (Ww f) (WM d)).trans h) ⟨_,q⟩ ?_;exact⟨hz,its',_,i,q⟩
theorem Inv.lnew{a:gq}{t':Nat}(I:Inv X a5N σ H s)(c:Vals ys a)(hz:ys.length<=Vp) :
  Inv X a5N σ (aK H s.heap.objs.size (.lst ys)) {s with heap:=s.heap.push {cls:=.type "list",data:=.seq a.toArray},toks:=t'}:=
 I.laid (λ_ _ q=>Vg _ q) (Vk _) ⟨hz,a,0,c,Vr _ rfl⟩
theorem Inv.fresh(I:Inv X a5N σ H s):H s.heap.objs.size=none:=I.hok.fresh (Vk _)
theorem Inv.lstM(I:Inv X a5N σ H s)(c:H l=b0 (.lst xs)):xs.length<=Vp/\∃(a:gq)(n:Nat),Vals xs a/\xs.length=a.length/\s.heap.get? l=b0 {cls:=.type "list",data:=.seq a.toArray n}:=by obtain⟨z,a,n,r,e⟩:=I.hok l _ c;exact⟨z,a,n,r,r.length,e⟩
theorem Jj{n:Nat}(h:n<=Vp):Zh n=false:=by unfold Zh;exact decide_eq_false (by lia)
end
section
variable{X:Cx}
noncomputable def BJ:V->gw->Hp->VK->Prop:=λx vs H Q=>∃l xs y,x=.ref l/\vs=[y]/\H l=b0 (.lst xs)/\xs.length<Vp/\Q .non (aK H l (.lst (xs++[y])))
theorem BK:pR X "list.append" BJ:=by intro d s A H x p v o Q I j i h;obtain⟨l,w,y,rfl,rfl,c,m,q⟩:=h;cases j;obtain⟨u,rfl,g⟩:=i.one;obtain⟨z,a,n,r,k,e⟩:=I.lstM c;refine a0X F.slot_list_append ⟨_,e,rfl⟩ F.entry_list_append (F.args_list_append_2 _ _) (PySem.list_append l a.toArray n u (by rw[Vi];lia)) ⟨e,?_⟩;refine⟨.non,_,I.lset (its':=a++[u]) c e (by simp) (r.append (.cons g .nil)) ?_,rfl,q⟩;rw[Vh,Z7];lia
noncomputable def BL:V->gw->Hp->VK->Prop:=λx vs H Q=>∃l b xs a,x=.ref l/\vs=[.ref b]/\H l=b0 (.lst xs)/\H b=b0 (.lst a)/\xs.length+a.length<=Vp/\Q .non (aK H l (.lst (xs++a)))
theorem Jk:pR X "list.extend" BL:=by
 intro j s R H x L v K Q I B A h;obtain⟨l,b,M,O,rfl,rfl,i,m,G,q⟩:=h;cases B;obtain⟨u,rfl,y⟩:=A.one;cases y;obtain⟨z,c,n,r,E,e⟩:=I.lstM i;obtain⟨N,a,p,w,o,k⟩:=I.lstM m;have g:c.toArray.size+a.toArray.size<=Vp:=by rw[Vi,Vi];lia
 have d:¬ (!c.toArray.isEmpty&&Zh (c.toArray.size+a.toArray.size))=true:=by rw[Jj g,a4j];exact Vm
 refine a0X F.slot_list_extend ⟨_,e,rfl⟩ F.entry_list_extend (F.args_list_extend_2 _ _)
  (AutoSeq1.list_extend_list_list_0 l c.toArray n b a.toArray p d (by rw[Vi];lia) (by lia)) ⟨e,k,?_⟩
 refine⟨.non,_,I.lset (its':=c++a) i e (by simp) (r.append w) ?_,rfl,q⟩;rw[Vh];lia
noncomputable def BM:R2:=λx y H Q=>∃l b xs a,x=.ref l/\y=.ref b/\H l=b0 (.lst xs)/\H b=b0 (.lst a)/\xs.length+a.length<=Vp/\∀p,H p=b3->Q (.ref p) (aK H p (.lst (xs++a)))
theorem Jl:OpR X (YS .Add) BM:=by
 intro d s M H x y v u Q I p w h;obtain⟨l,b,G,L,rfl,rfl,k,j,B,q⟩:=h;cases p;cases w;obtain⟨z,c,n,r,A,e⟩:=I.lstM k;obtain⟨K,a,E,o,m,g⟩:=I.lstM j;refine PySem.P.add_list e g ?_ (by rw[Vi,Vi];lia);have i:c.toArray++a.toArray=(c++a).toArray:=by simp
 rw[i];exact⟨.ref _,_,I.lnew (t':=s.toks) (r.append o) (by rw[Vh];lia),rfl,q _ I.fresh⟩
end
section
variable{prog:VE}{w:VW}{A:VO}{E:Value->Ve->Prop}{s:Ve}
end
section
variable{X:Cx}
end
end L2
namespace Att
open PySem PySem.W PySem.Calls PyProof.Rows
theorem Jm{P:Xh}{h:WA}:∀(ns:List Int)(vs:gq),WellAll P h vs (ns.map Zc)->YJ vs ns:=by
 intro ns;induction ns with
 |nil=>intro vs w;rw[a4L]at w;cases w;exact .nil|cons n ns c=>
  intro vs w;rw[VP]at w;cases w with
  |cons a b=>cases a;exact .cons _ _ (c _ b)
theorem script_of{l:OpenLaw}{n:Nat}(x:l.most=b0 n){P:Xh}{h:WA}{args:List WData}{g:gq}
  (e:l.row.toRowW.claim.pre args=dI)(p:WellAll P h g args) :
  ∃a s c,g=[VA a]/\args=[WData.list (c.map Zc)]/\h.get? a=b0 {cls:=.type "list",data:=.seq s.toArray}/\YJ s c/\c.length<=n:=by
 have o:WShape.hasAll [] args [.list .int]=true:=(pre_splitW e).1;have hc:l.pre.holds [] {args:=args}=true:=(pre_splitW e).2;obtain⟨d,r,rfl,u,v⟩:=hasAllW_cons o;obtain rfl:=hasAllW_nil v;obtain⟨E,rfl,w⟩:=hasW_list u;obtain⟨c,rfl⟩:=items_int w;have j:c.length<=n:=by
  unfold OpenLaw.pre at hc;have k:(WTm.not (.lt (.lit (.int (n:Int))) (.len (.arg 0)))).holds [] {args:=[.list (c.map .int)]}=true:=by have k:=(holds_andW hc).1;rw[x]at k;exact k
  have m:=condW_of k (w_not (w_lt w_lit (w_len_list (w_arg rfl))));rw[U8]at m;refine a3X λq=>?_;have z:(n:Int)<((c.length:Nat):Int):=by lia
  first
   |(rw[decide_eq_true z]at m;exact absurd m (by decide))|(simp at m;lia)
 cases p with
 |cons A B=>
  cases B;cases A with
  |list y i=>exact⟨_,_,c,rfl,rfl,y,Jm c _ i,j⟩
theorem post_true(l:OpenLaw)(args:List WData):l.row.toRowW.claim.post args (.bool dI) args=true:=
 postW_of (r:=l.row.toRowW) (X:=(dI==dI))
  (show a4H [] (.bool dI) .bool=dI by first|rfl|decide|simp[a4H,WShape.arms,WShape.armsAll])
  (show(WTm.eq .res (.lit (.bool dI))).value [] {args:=args,res:=b0 (.bool dI),after:=args}=b0 (.bool (dI==dI))from w_eq_bool (w_res rfl) w_lit) rfl
section
variable{prog:VE}{w:VW}{A:VO}{E:Value->Ve->Prop}{s:Ve}{K:Frag}
end
end Att
namespace L2
open PySem PySem.Spec PyProof.Rows
theorem BN:∀{vs:gq}{ns:List Int},YJ vs ns->Vals (ns.map V.int) vs
 |_,_,.nil=>.nil|_,_,.cons n t h=>.cons ⟨t,rfl⟩ (BN h)
noncomputable def BO(H:Hp):Prop:=∀b,H b=b3\/∃o xs,H b=b0 (.frz o (.lst xs))
theorem law_call{P:VE}{w:VW}{K:U9}{mg Z:Str->Option Value}{CX:i6}{k:Nat}{R a:Addr}{fd:X5}{x:Str}{sp:Sp}{c:Ve}{vs:gq}{ns:List Int}
  (KX:K.In c.heap)(G:c.heap.Ns WZ mg)(g:c.heap.Ns a4t Z)(U:∀x:Str,x ≠ "__name__"->Z x=Xb x) (E:c.heap.NoLimit)(hg:c.gens=#[])
  (O:c.heap.get? a=b0 {cls:=.type "list",data:=.seq vs.toArray}) (hi:YJ vs ns)(hl:ns.length<=Vp)(hr:Room k a1l)
  (F:∀i:WA,K.In i->i.Ns WZ mg->FnOk P w K mg i CX k R fd [x] sp)(y:∀(s:Ve)(u:Value),a1s s fd ⟨[u],[]⟩ [(x,u)])
  (Y:∀H:Hp,BO H->SqL K H a (ns.map V.int)->sp [.ref a] H (λv _=>v=.bl dI) λ_ _ _=>False)
  (T:∀H e j,CX [] H c (λ_ _ _=>False) e j->False) :
  Zt (VF P w) a1l (.call (.ref R) ⟨[.ref a],[]⟩) (λr j=>r=.ok (.ret (.bool dI))/\OldK c.heap j.heap/\j.os=c.os/\a0G j.gens) c:=by
 have rv:=BN hi;have M:=hi.length
  -- from an abstract heap in which nothing but the script may be tracked
 have p:∀H:Hp,BO H->SqL K H a (ns.map V.int)->HOk P w H c.heap->(∀b,H b≠b3->b=a)->(H a≠b3->K.lookup a=b3)->
   Zt (VF P w) a1l (.call (.ref R) ⟨[.ref a],[]⟩) (λr j=>r=.ok (.ret (.bool dI))/\OldK c.heap j.heap/\j.os=c.os/\a0G j.gens) c:=by
  intro H hO hS I hA hK;have oC:∀{b:Addr}{o:Obj},c.heap.get? b=b0 o->H b=b3->(jS c.heap H).get? b=b0 o:=λe n=>GW e n;have noA:∀{b:Addr}{o:Obj}{es:Array DictEntry}{ep:Nat},c.heap.get? b=b0 o->o.data=.dict es ep->H b=none:=λ{b o es ep} e d=>by
   cases q:H b with
   |none=>rfl|some u=>have Q:b=a:=hA b (by rw[q];simp);subst Q;rw[O]at e;cases e;have d':a2D vs.toArray _=YQ es ep:=d;cases d'
  have l:∀{b:Addr}{m:Str->Option Value},c.heap.Ns b m->(jS c.heap H).Ns b m:=λ{b m} ⟨o,es,ep,e,d,r⟩=>⟨o,es,ep,oC e (noA e d),d,r⟩;have B:K.In (jS c.heap H):=λb o e=>oC (KX b o e) (by
   cases q:H b with
   |none=>rfl|some u=>
    have Q:b=a:=hA b (by rw[q];simp);subst Q;rw[hK (by rw[q];simp)]at e;cases e)
  have hM:Mod K mg (jS c.heap H):=⟨B,l G,⟨Z,l g,U⟩,let⟨mc,h1,h2⟩:=E;⟨mc,l h1,h2⟩⟩;have e0:Env0 P w K mg (jS c.heap H) a1l [] c H:=⟨rfl,hM,λb o e=>GX e,Z3 (GV _ _),trivial,λb g=>absurd (show b∈([]:List Addr)from g) (by simp),I,.of_eq hg⟩;refine a1k ((F _ B (l G)).run a1l [] c H ⟨[.ref a],[]⟩ [.ref a] [.ref a] _ _ hr e0 (y c (.ref a)) (.cons rfl .nil) (Y H hO hS)) λr j h=>?_;cases r with
  |error e=>exact(T H e j h).elim|ok fl=>
   cases fl with
   |next=>exact XO h|brk=>exact XO h|cont=>exact XO h|ret u=>
    obtain⟨v,H',os,A,un,L,r',q⟩:=h;have q':v=.bl true:=q;subst q';obtain rfl:u=Xs true:=r';refine⟨rfl,OldK.of_keep λb o e=>?_,os,A⟩;cases q:H b with
    |none=>exact un.keep b o e q (by intro z;exact absurd (show b∈([]:List Addr)from z) (by simp)) (by simp)|some u=>
     rcases hO b with z|⟨ob,xs,z⟩
     .rw[q]at z;cases z
     .have z2:=un.frzs b ob _ z;obtain⟨e1,_⟩:=I b _ z;obtain⟨e2,_⟩:=L b _ z2;rw[e]at e1;cases e1;exact e2
 cases X:K.lookup a with
 |some o=>-- the script is one of the module's own objects
  have e:=KX a o X;rw[O]at e;cases e;refine p (λ_=>b3) (λ_=>.inl rfl) (.inr ⟨_,vs.toArray,_,X,rfl,rfl,rfl,by rw[Vi,M];exact hl,by simpa using rv⟩) (λb u z=>by have N:(b3:Option HO)=b0 u:=z;cases N) (λb z=>absurd rfl z) λz=>absurd rfl z
 |none=>
  refine p (λb=>if b=a then b0 (.frz {cls:=.type "list",data:=.seq vs.toArray} (.lst (ns.map V.int)))else b3) (λb=>?_) (.inl (.inr ⟨{cls:=.type "list",data:=.seq vs.toArray},if_pos rfl⟩)) (λb u z=>?_) (λb z=>?_) λ_=>X
  .by_cases g:b=a
   .exact .inr ⟨_,_,if_pos g⟩
   .exact .inl (if_neg g)
  .by_cases g:b=a
   .have N:=(if_pos g).symm.trans z;cases N;subst g;exact⟨O,by rw[U8];exact hl,vs,_,rv,O⟩
   .have N:=(if_neg g).symm.trans z;cases N
  .by_cases g:b=a
   .exact g
   .exact absurd (if_neg g) z
noncomputable def gQ(s:Stmt):Arguments:=match s with
 |.FunctionDef _ a _ _ _ _ _ _ _ _=>a|_=>{posonlyargs:=[],args:=[],vararg:=b3,kwonlyargs:=[],kw_defaults:=[],kwarg:=b3,defaults:=[]}
noncomputable def eU(s:Stmt):List Stmt:=match s with
 |.FunctionDef _ _ b _ _ _ _ _ _ _=>b|_=>[]
noncomputable def cA(s:Stmt):X4:=match s with
 |.FunctionDef _ _ _ _ _ _ sc _ _ _=>sc|_=>{kind:=.function,names:=[],isGenerator:=b5,isCoroutine:=b5}
noncomputable abbrev fF:i6:=λ_ _ _ _ _ _=>False
noncomputable abbrev E0:XK:=λ_ _ _=>False
theorem BP{X:Cx}:sC fF X E0:=λ_ _ _ _ _ _ _ h=>h.elim
structure Fun(K:U9)(x qual:Str)(st:Stmt)(f:Addr)(fd:X5):Prop where
 ex:∃(oc:Value)(od:Option Addr)(dV kV doc pm:Value)(an:Option Addr)(cdv ct:Value)(osl:Array (Option Value)),
  fd=Xq x qual (gQ st) (eU st) (cA st) dV kV doc pm an cdv ct/\K.lookup f=b0 ⟨oc,od,.func fd,osl⟩/\ZY K cdv qual=dI
 kp:Xp K (.ref f)=dI
section
variable{P:VE}{w:VW}{K:U9}{mg:Str->Option Value}{base:WA}
theorem Fun.ok{x a:Str}{st:Stmt}{f:Addr}{i:X5}{N ps:List Str}{k:Nat}{sp:Sp}(F:Fun K x a st f i)(S:FnScope N ps (cA st))(len:∀vs H Q E,sp vs H Q E->vs.length=ps.length)
  (d:∀(c:Value)(A:VO)(outer:List a0y)(s:Ve)(H:Hp)(vs:gw)(Q:VK)(E:XK),Room k (A.deeper (envOfC a (cA st) s.heap.objs.size f c))->sp vs H Q E->
   ∃t,PSs (jT fF P w K mg base N a (cA st) f c A outer s H E).nox (eU st) t/\t {nx:=λ_ j=>Q .non j,rt:=Q} (start N vs) H):FnOk P w K mg base fF (k+1) f i ps sp:=by
 obtain⟨r,u,p,kV,l,v,o,c,ct,n,rfl,lk,e⟩:=F.ex;refine IC lk e S len λA outer s H vs Q E m g=>?_;obtain⟨t,h,q⟩:=d c A outer s H vs Q E m g;exact⟨t,h.nox,q⟩
theorem Jn{x a:Str}{st:Stmt}{f:Addr}{j:Value}{m an:Option Addr}{g:Array (Option Value)}{h kV e i d ct:Value}(l:K.lookup f=b0 ⟨j,m,.func (Xq x a (gQ st) (eU st) (cA st) h kV e i an d ct),g⟩)
  (c:ZY K d a=dI)(k:Xp K (.ref f)=dI):Fun K x a st f (Xq x a (gQ st) (eU st) (cA st) h kV e i an d ct):=⟨⟨j,m,h,kV,e,i,an,d,ct,g,rfl,l,c⟩,k⟩
end
theorem Jo{A:VO}{k:Nat}(a:Room k A):A.units+1<W0:=Nat.lt_of_le_of_lt (Nat.add_le_add_left (by decide:1<=64) _) a.units
section
variable{X:Cx}
theorem pv(i:Nat){x:Str}{pos:W9}(c:X.N[i]?=b0 x:=by rfl)(d:l9 X.env.scope x:=by first|exact a1R rfl|exact a0D (a1R rfl)|exact a0D (a0D rfl))(hd:(x==("__debug__":Str))=false:=by decide)
  (a:(x==("__classdict__":Str))=false:=by decide):PE X (.Name x pos) (vM i):=Bb c d hd a
end
theorem kU{A B:Prop}(h:B):if b5=dI then A else B:=by rw[if_neg Vm];exact h
theorem kW{A B:Prop}(h:A):if dI=dI then A else B:=by rw[if_pos rfl];exact h
section
variable{κ:Type} [DecidableEq κ]
end
end L2
namespace L3
open PySem PySem.W
theorem left_cut{p q:VE}{loose:List Str}{Xt:Ve → Bool}{Q:Type}{Yf:Ve → Q}{Ya:VW → Q}{N:Nat}{z:Bool}{hA hB hC hD:Xh → WA}{kA A B E c:Nat}{i:Option Value}{v m n o u n4:Nat}{env:a0y}{l G x H I K:W9}{i1 i2 i3:Nat}
  (j:∀w:VW,(fencedOpening XX p w N).map (λs=>(s.heap,s.gens,s.drawn,s.toks))=b0 (Y3 w.params,Wa [],WJ,a1F))
  (size:∀w:VW,((Y3 w.params).isNs WZ,(Y3 w.params).objs.size,(Y3 w.params).nsMap WZ "__annotations__")=(dI,c,i))
  (pre:∀(w:VW)(a:ZD),topGo XX p w c i v ⟨Y3 w.params,Wa [],WJ,a1F,a⟩ (topStub p)=b0 (⟨hA w.params,Wa [],WJ,kA,a⟩,⟨denote XX (.body (VN p) env),.body (VN p) env,G,[Y8 l]⟩))
  (y:∀(w:VW)(a:ZD),a1C XX p w c i 1 m ⟨hA w.params,Wa [],WJ,kA,a⟩ (blockOf (VN p) env (.body (VN p) env) G [Y8 l])=b0 (.next,⟨hA w.params,Wa [],WJ,kA,a⟩,.body (VN p) env,x))
  (s1:∀(w:VW)(a:ZD),a1C XX p w c i 1 n ⟨hA w.params,Wa [],WJ,kA,a⟩ (a1j ((VN p).take i1) env (.body (VN p) env) x [Y8 l])=b0 (.next,⟨hB w.params,Wa [],WJ,A,a⟩,.body (VN p) env,H))
  (s2:∀(w:VW)(a:ZD),a1C XX p w c i 1 o ⟨hB w.params,Wa [],WJ,A,a⟩ (a1j (((VN p).drop i1).take i2) env (.body (VN p) env) H [Y8 l])=b0 (.next,⟨hC w.params,Wa [],WJ,B,a⟩,.body (VN p) env,I))
  (s3:∀(w:VW)(a:ZD),a1C XX p w c i 1 u ⟨hC w.params,Wa [],WJ,B,a⟩ (a1j ((((VN p).drop i1).drop i2).take i3) env (.body (VN p) env) I [Y8 l])=b0 (.next,⟨hD w.params,Wa [],WJ,E,a⟩,.body (VN p) env,K))
  (fin:∀(w:VW)(a:ZD),((topRun XX p w c i n4 ⟨hD w.params,Wa [],WJ,E,a⟩ (restOf ((((VN p).drop i1).drop i2).drop i3) env (.body (VN p) env) K [Y8 l])).bind λg=>match staticsOk (a5h p.main.body) (Y3 w.params) g.heap&&namesBound p g.heap&&gensDone g&&laidKept (Y3 w.params) g.heap with
   |true=>b0 g
   |false=>b3).map (λs=>(openSeen q loose (a5h p.main.body) Xt z s,Yf s))=b0 (openGood q loose,Ya w))
  (le:Nat.ble (v+(m+(n+(o+(u+n4))))) N=dI):LeftO p q loose Xt Yf Ya N z:=λw=>by
 obtain⟨⟨h,T,d,k,a⟩,e,R⟩:=Vd.mp (j w);obtain⟨rfl,rfl,rfl,rfl⟩:h=Y3 w.params ∧ T=Wa [] ∧ d=WJ ∧ k=a1F:=by simpa using R
 obtain⟨z1,z2,z3⟩:_ ∧ _ ∧ _:=by simpa only[a3E]using size w
 obtain⟨s,Y,Z⟩:=Vd.mp (fin w a);obtain⟨g,U,X⟩:=U7.mp Y;have O:=a4Q (s3 w a) U;rw[VY]at O;have M:=a4Q (s2 w a) O;rw[VY]at M;have L:=a4Q (s1 w a) M;rw[VY]at L;have r0:=go_top (pre w a) (piece_block (y w a) L);have r:=topRun_mono (N-(v+(m+(n+(o+(u+n4)))))) _ _ _ _ r0;rw[show v+(m+(n+(o+(u+n4))))+(N-(v+(m+(n+(o+(u+n4))))))=N by have:=Nat.le_of_ble_eq_true le;lia]at r;have t:topFrom XX p w N ⟨Y3 w.params,Wa [],WJ,a1F,a⟩=b0 s:=by unfold topFrom;dsimp only;rw[z1,z2,z3,r];exact X
 unfold openEnds;rw[e];show(topFrom XX p w N _).map _=_;rw[t];exact congrArg b0 Z
end L3
namespace Lw
open PySem L2
noncomputable def aI(i:Nat):Stmt:=Wo.main.body.getD i (.Pass ⟨0,0,0,0⟩)
noncomputable def nP(i j:Nat):Stmt:=match aI i with|.ClassDef _ _ _ b _ _ _ _ _ _ _=>b.getD j (.Pass ⟨0,0,0,0⟩)|_=>.Pass ⟨0,0,0,0⟩
noncomputable def Vw:VE:={Wo with main:={Wo.main with body:=aI 1::aI 2::aI 3::aI 4::aI 5::aI 6::aI 7::aI 9::aI 10::aI 11::aI 12::aI 13::aI 14::aI 15::aI 16::aI 17::aI 18::aI 19::aI 20::aI 21::aI 22::aI 23::aI 25::aI 26::aI 27::aI 28::aI 29::aI 30::aI 31::aI 32::aI 33::aI 34::aI 35::aI 36::aI 38::aI 39::aI 41::aI 42::aI 43::aI 44::aI 46::aI 47::aI 48::aI 49::aI 50::aI 52::aI 53::aI 54::aI 55::aI 56::aI 57::aI 58::aI 59::aI 60::aI 62::aI 63::aI 64::aI 65::aI 66::aI 68::aI 69::aI 70::aI 71::aI 72::aI 73::aI 74::aI 75::aI 76::aI 77::aI 78::aI 79::aI 80::aI 81::aI 82::aI 83::[]}}
noncomputable abbrev vS(x:String)(n:Nat):Value:=a1Q (XZ x) n
noncomputable abbrev vI(i:Int):Value:=Wc i 0
noncomputable abbrev vR(a:Addr):Value:=VA a
noncomputable abbrev vN:Value:=W8
noncomputable abbrev cO(fs:Array Value):Obj:={cls:=VJ "code",data:=Wn fs}
noncomputable abbrev kO(x y:String)(a b c:Nat)(l n i j k:Int)(r:Addr)(q:Int)(vs:Array Value)(t d:Int)(e:Nat):Obj:={cls:=VJ "code",data:=Wn (#[vS x a,vS x b,vS y c,vI l,vI n,vI i,vI j,vI k,vR r,Xs dI,vI q]++vs++#[vI t,vI d,vS y e])}
noncomputable abbrev tO(fs:Array Value):Obj:={cls:=VJ "tuple",data:=a2D fs}
noncomputable abbrev fO(x:Str)(n:Nat)(m:Value)(c:Addr):Obj:=⟨VJ "function",b3,.func (Xq x x (gQ (aI n)) (eU (aI n)) (cA (aI n)) W8 W8 W8 m b3 (VA c) W8),#[]⟩
noncomputable abbrev eO(P:Xh)(x:String)(n:Nat)(v:Value):DictEntry:={hash:=PyData.keyHash P (XZ x),key:=a1Q (XZ x) n,val:=v}
noncomputable abbrev eR(P:Xh)(x:String)(n:Nat)(a:Addr):DictEntry:=eO P x n (vR a)
noncomputable abbrev kA(p:Addr×Obj)(R:U9):U9:=p::R
noncomputable def BQ:List String → Nat → List Value
 |[],_=>[]|x::xs,n=>vS x n::BQ xs (n+1)
noncomputable abbrev tN(xs:List String)(n:Nat):Obj:=tO (Wa (BQ xs n))
open PySem.W in
noncomputable def lA(P:Xh):List Obj:=((boot_o_0 P)::(boot_o_1 P)::(boot_o_2 P)::(boot_o_3 P)::(boot_o_4 P)::(boot_o_5 P)::(boot_o_6 P)::(boot_o_7 P)::(boot_o_8 P)::(boot_o_9 P)::(boot_o_10 P)::(tO #[])::({cls:=vN,data:=Wn #[]})::(cO #[vS "<module>" 182,vS "<module>" 183,vS "/claim/cut.py" 184,vI 1,vI 0,vI 0,vI 0,vI 0,vR 11,Xs b5,vI 181,vR 12,vN,vN,vN,vN,vI 185,vI 1,vS "/claim/cut.py" 186])::({cls:=VJ "frame",slots:=#[b0 (vR 13),b0 (vR 3),b0 (vR 3),b3,b0 (vS "__main__" 164),b3,b0 (vR 0)]})::[])
open PySem.W in
noncomputable def wL(P:Xh)(a:Nat)(d:String)(e:Nat)(c:Nat)(R:List Obj):List Obj:=(tO #[vR 24])::({cls:=VJ "builtin_function_or_method",data:=Wn #[Xr "type.__prepare__",VJ "type"]})::({cls:=VJ "dict",data:=YQ #[eO P "__module__" a (vS "creasecourt.errors" 187),eO P "__qualname__" (a+2) (vS d (a+1)),eO P "__firstlineno__" (a+4) (Wc e (a+3)),eR P "__static_attributes__" (a+5) c] 4})::(tO #[])::({cls:=vN,data:=Wn #[]})::(cO #[vS d (a-5),vS d (a-4),vS "/claim/cut.py" (a-3),vI e,vI 0,vI 0,vI 0,vI 0,vR (c-4),Xs b5,vI 181,vR (c-3),vN,vN,vN,vN,vI (a-2),vI e,vS "/claim/cut.py" (a-1)])::({cls:=VJ "frame",slots:=#[b0 (vR (c-2)),b0 (vR 3),b0 (vR (c-5)),b3,b0 (vS "creasecourt.errors" 187),b3,b0 (vR 0)]})::(tO #[])::({cls:=VJ "dict",data:=YQ #[eO P "__module__" a (vS "creasecourt.errors" 187),eO P "__firstlineno__" (a+4) (Wc e (a+3)),eR P "__static_attributes__" (a+5) c,eO P "__doc__" (a+6) vN] 2})::({cls:=VJ "type",data:=a4h {name:=XZ d,bases:=[vR 24],mro:=[vR (c+2),vR 24,VJ "ValueError",VJ "Exception",VJ "BaseException",VJ "object"],ns:=(c+1),qualname:=XZ d},slots:=#[b0 (vR (c-7)),b3,b0 (vS d (a-7)),b0 (vS d (a+1)),b0 (Xr "ValueError.__new__"),b0 (Xs dI)]})::({cls:=VJ "super",data:=Wn #[vR (c+2),vR (c+2),vR (c+2)]})::({cls:=VJ "builtin_function_or_method",data:=Wn #[Xr "object.__init_subclass__",vR (c+2)]})::R
open PySem.W in
noncomputable def wM(P:Xh)(a:Nat)(d:String)(e:Nat)(c:Nat)(i:List String)(h:String)(g:Nat)(j:List String)(R:List Obj):List Obj:=(tO #[vR 24])::({cls:=VJ "builtin_function_or_method",data:=Wn #[Xr "type.__prepare__",VJ "type"]})::({cls:=VJ "dict",data:=YQ #[eO P "__module__" a (vS "creasecourt.errors" 187),eO P "__qualname__" (a+2) (vS d (a+1)),eO P "__firstlineno__" (a+4) (Wc e (a+3)),eR P "__init__" (a+12) c,eR P "__static_attributes__" (a+14) (c+1)] 5})::(tO #[])::({cls:=vN,data:=Wn #[vI (e+2),vI 4,vR (c-1)]})::(cO #[vS d (a-5),vS d (a-4),vS "/claim/cut.py" (a-3),vI e,vI 0,vI 0,vI 0,vI 0,vR (c-10),Xs b5,vI 181,vR (c-9),vN,vN,vN,vN,vI (a-2),vI e,vS "/claim/cut.py" (a-1)])::({cls:=VJ "frame",slots:=#[b0 (vR (c-8)),b0 (vR 3),b0 (vR (c-11)),b3,b0 (vS "creasecourt.errors" 187),b3,b0 (vR 0)]})::(tO #[])::({cls:=vN,data:=Wn #[]})::(tN i (a+8))::(tO #[])::(⟨vN,b3,.func ({Xq "__init__" h (gQ (nP g 0)) (eU (nP g 0)) (cA (nP g 0)) vN vN vN vN (b3) vN vN with globals:=0}),#[]⟩)::(cO #[vS "__init__" (a+5),vS h (a+6),vS "/claim/cut.py" (a+7),vI (e+2),vI 2,vI 0,vI 0,vI 3,vR (c-6),Xs dI,vI 181,vR (c-5),vN,vR (c-4),vR (c-3),vR (c-2),vI (a+10),vI (e+2),vS "/claim/cut.py" (a+11)])::(⟨VJ "function",b3,.func (Xq "__init__" h (gQ (nP g 0)) (eU (nP g 0)) (cA (nP g 0)) vN vN vN (vS "creasecourt.errors" 187) (b3) (vR (c-1)) vN),#[]⟩)::(tN j (a+13))::({cls:=VJ "dict",data:=YQ #[eO P "__module__" a (vS "creasecourt.errors" 187),eO P "__firstlineno__" (a+4) (Wc e (a+3)),eR P "__init__" (a+12) c,eR P "__static_attributes__" (a+14) (c+1),eO P "__doc__" (a+15) vN] 2})::({cls:=VJ "type",data:=a4h {name:=XZ d,bases:=[vR 24],mro:=[vR (c+3),vR 24,VJ "ValueError",VJ "Exception",VJ "BaseException",VJ "object"],ns:=(c+2),qualname:=XZ d},slots:=#[b0 (vR (c-13)),b3,b0 (vS d (a-7)),b0 (vS d (a+1)),b0 (Xr "ValueError.__new__"),b0 (Xs dI)]})::({cls:=VJ "super",data:=Wn #[vR (c+3),vR (c+3),vR (c+3)]})::({cls:=VJ "builtin_function_or_method",data:=Wn #[Xr "object.__init_subclass__",vR (c+3)]})::R
open PySem.W in
noncomputable def bP(i:List String)(c:Nat)(d:String)(e:Nat)(g:Nat)(j:Nat)(a:Nat)(h:Nat)(k:String)(l:Nat)(R:List Obj):List Obj:=(tO #[])::({cls:=vN,data:=Wn #[]})::(tN i c)::(tO #[])::(⟨vN,b3,.func ({Xq d d (gQ (aI e)) (eU (aI e)) (cA (aI e)) vN vN vN vN (b3) vN vN with globals:=0}),#[]⟩)::(kO d "/claim/cut.py" (c-3) (c-2) (c-1) g j 0 0 3 a 181 #[vR (a+1),vN,vR (a+2),vR (a+3),vR (a+4)] h g (h+1))::(fO d e (vS k l) (a+5))::R
open PySem.W in
noncomputable def eI(c:String)(d:Nat)(a:Nat)(g:Nat)(h:Nat)(e:Nat)(i:String)(j:Nat)(R:List Obj):List Obj:=(tO #[])::({cls:=vN,data:=Wn #[]})::(⟨vN,b3,.func ({Xq c c (gQ (aI d)) (eU (aI d)) (cA (aI d)) vN vN vN vN (b3) vN vN with globals:=0}),#[]⟩)::(kO c "/claim/cut.py" a (a+1) (a+2) g h 0 0 3 e 181 #[vR (e+1),vN,vN,vN,vR (e+2)] (a+3) g (a+4))::(fO c d (vS i j) (e+3))::R
open PySem.W in
noncomputable def sD(c:Nat)(a:Nat)(d:Nat)(R:List Obj):List Obj:=(tO #[Wc c a,Wc d (a+1)])::R
open PySem.W in
noncomputable def lN(P:Xh):List DictEntry:=[eO P "__doc__" 166 vN,eO P "__package__" 167 vN,eO P "__loader__" 168 (Xr "__main__.__loader__#opaque"),eO P "__spec__" 169 vN,eR P "__annotations__" 170 6,eR P "__builtins__" 171 4,eO P "__file__" 173 (vS "/claim/cut.py" 172),eO P "__cached__" 174 vN,eR P "CreaseError" 206 24,eR P "NoSize" 222 37,eR P "NoMark" 238 49,eR P "NoRound" 254 61,eR P "NoEdge" 279 80,eR P "Twice" 304 99,eR P "Barred" 329 118,eR P "EIGHT_EDGES" 354 129,eR P "FOUR_EDGES" 367 134,eR P "is_whole" 374 141,eR P "is_place" 381 148,eR P "is_corner" 388 155,eR P "is_edge" 395 162,eR P "is_quarter" 402 169,eR P "line_of" 409 176,eR P "beside" 418 183,eR P "sides_of" 424 188,eR P "moved_by" 430 193,eR P "edges_round" 437 200,eR P "number_by" 445 207,eR P "hand_of" 455 214,eR P "mirrored" 467 221,eR P "MARKS" 473 222,eR P "is_size" 480 229,eR P "check_size" 488 236,eR P "is_mark" 495 243,eR P "is_within" 504 250,eR P "places_within" 510 255,eR P "quarters_in" 516 260,eR P "edges_in" 522 265,eR P "corners_in" 528 270,eR P "is_inner_edge" 537 277,eR P "sheet_of" 549 284,eR P "marks_in" 556 291,eR P "is_good" 564 296,eR P "check_round" 571 303,eR P "creases_at" 579 308,eR P "gaps_at" 585 313,eR P "barred" 593 320,eR P "check_corners" 601 327,eR P "tie_of" 613 334,eR P "is_least" 621 341,eR P "ties_of_gap" 632 348,eR P "ties_at" 644 355,eR P "ties" 653 362,eR P "wedges_by" 661 367,eR P "is_crimp" 670 374,eR P "brought_ahead" 679 381,eR P "is_turned_part" 686 388,eR P "crimped" 696 395,eR P "last_two" 704 402,eR P "folded_order" 714 409,eR P "rows_of" 720 414,eR P "all_marks" 726 419,eR P "STILL" 735 420,eR P "laying_by" 744 427,eR P "mirror_in" 751 434,eR P "led" 761 441,eR P "then" 769 448,eR P "_law_nth" 779 455,eR P "_law_folded" 791 462,eR P "_law_folds" 797 467,eR P "_law_gaps" 810 474,eR P "_law_star" 828 481,eR P "_law_creases" 841 488,eR P "_law_square" 848 495,eR P "_law_any_sheet" 859 502,eR P "_law_sheet" 875 509,eR P "_law_round_a" 881 514,eR P "_law_inner" 891 521,eR P "_law_barred" 897 526,eR P "_law_tie" 910 533,eR P "_law_ties" 916 538,eR P "_law_holds" 926 545,eR P "law" 932 550]
noncomputable def lM:gq:=List.flatMap (λp:Nat×Nat=>[vI p.1,vI 0,vR p.2]) [(2,20),(4,33),(6,45),(8,57),(10,69),(15,88),(20,107),(28,140),(30,147),(32,154),(34,161),(38,168),(42,175),(46,182),(50,187),(52,192),(54,199),(56,206),(64,213),(70,220),(84,228),(86,235),(89,242),(91,249),(93,254),(98,259),(100,264),(102,269),(104,276),(106,283),(119,290),(122,295),(128,302),(132,307),(135,312),(142,319),(147,326),(152,333),(154,340),(156,347),(162,354),(172,361),(179,366),(181,373),(183,380),(189,387),(191,394),(196,401),(202,408),(210,413),(215,418),(220,426),(222,433),(224,440),(228,447),(231,454),(233,461),(240,466),(251,473),(265,480),(282,487),(292,494),(295,501),(303,508),(328,513),(339,520),(346,525),(353,532),(357,537),(371,544),(373,549)]
open PySem.W in
noncomputable def lB(P:Xh):List Obj:=(((lA P).set 3 ({cls:=VJ "dict",data:=YQ (Wa (eO P "__name__" 165 (vS "creasecourt.errors" 187)::(lN P).take 15)) 16})).set 12 ({cls:=vN,data:=Wn (Wa (lM.take 21))}))++((tO #[VJ "ValueError"])::(({cls:=VJ "builtin_function_or_method",data:=Wn #[Xr "type.__prepare__",VJ "type"]})::(({cls:=VJ "dict",data:=YQ #[eO P "__module__" 196 (vS "creasecourt.errors" 187),eO P "__qualname__" 198 (vS "CreaseError" 197),eO P "__firstlineno__" 200 (Wc 2 199),eR P "__static_attributes__" 201 22] 4})::((tO #[])::(({cls:=vN,data:=Wn #[]})::((cO #[vS "CreaseError" 191,vS "CreaseError" 192,vS "/claim/cut.py" 193,vI 2,vI 0,vI 0,vI 0,vI 0,vR 18,Xs b5,vI 181,vR 19,vN,vN,vN,vN,vI 194,vI 2,vS "/claim/cut.py" 195])::(({cls:=VJ "frame",slots:=#[b0 (vR 20),b0 (vR 3),b0 (vR 17),b3,b0 (vS "creasecourt.errors" 187),b3,b0 (vR 0)]})::((tO #[])::(({cls:=VJ "dict",data:=YQ #[eO P "__module__" 196 (vS "creasecourt.errors" 187),eO P "__firstlineno__" 200 (Wc 2 199),eR P "__static_attributes__" 201 22,eR P "__weakref__" 203 25,eO P "__doc__" 204 vN] 3})::(({cls:=VJ "type",data:=a4h {name:=XZ "CreaseError",bases:=[VJ "ValueError"],mro:=[vR 24,VJ "ValueError",VJ "Exception",VJ "BaseException",VJ "object"],ns:=23,qualname:=XZ "CreaseError",subclasses:=[vR 37,vR 49,vR 61,vR 80,vR 99,vR 118]},slots:=#[b0 (vR 15),b3,b0 (vS "CreaseError" 189),b0 (vS "CreaseError" 197),b0 (Xr "ValueError.__new__"),b0 (Xs dI)]})::(({cls:=VJ "getset_descriptor",data:=Wn #[vS "__weakref__" 202,vR 24,Xr "ExceptionGroup.__weakref__",vN]})::(({cls:=VJ "super",data:=Wn #[vR 24,vR 24,vR 24]})::(({cls:=VJ "builtin_function_or_method",data:=Wn #[Xr "object.__init_subclass__",vR 24]})::(wL P 214 "NoSize" 4 35 (wL P 230 "NoMark" 6 47 (wL P 246 "NoRound" 8 59 (wM P 262 "NoEdge" 10 77 ["self","edge"] "NoEdge.__init__" 5 ["edge"] (wM P 287 "Twice" 15 96 ["self","edge"] "Twice.__init__" 6 ["edge"] (wM P 312 "Barred" 20 115 ["self","corner"] "Barred.__init__" 7 ["corner"] [])))))))))))))))))))
open PySem.W in
noncomputable def lC(P:Xh):List Obj:=(((lB P).set 3 ({cls:=VJ "dict",data:=YQ (Wa (eO P "__name__" 165 (vS "creasecourt.ties" 602)::(lN P).take 52)) 53})).set 12 ({cls:=vN,data:=Wn (Wa (lM.take 123))}))++(sD 2 332 0 (sD 1 334 1 (sD 0 336 2 ((tO #[Wc (-1) 339,Wc 1 340])::((tO #[Wc (-2) 342,Wc 0 343])::((tO #[Wc (-1) 345,Wc (-1) 347])::((tO #[Wc 0 348,Wc (-2) 350])::((tO #[Wc 1 351,Wc (-1) 353])::((tO #[vR 121,vR 122,vR 123,vR 124,vR 125,vR 126,vR 127,vR 128])::(sD 1 355 1 ((tO #[Wc (-1) 358,Wc 1 359])::((tO #[Wc (-1) 361,Wc (-1) 363])::((tO #[Wc 1 364,Wc (-1) 366])::((tO #[vR 130,vR 131,vR 132,vR 133])::(bP ["value"] 371 "is_whole" 11 28 1 135 372 "creasecourt.places" 330 (bP ["value"] 378 "is_place" 12 30 1 142 379 "creasecourt.places" 330 (bP ["place"] 385 "is_corner" 13 32 1 149 386 "creasecourt.places" 330 (bP ["place"] 392 "is_edge" 14 34 1 156 393 "creasecourt.places" 330 (bP ["place"] 399 "is_quarter" 15 38 1 163 400 "creasecourt.places" 330 (bP ["edge"] 406 "line_of" 16 42 1 170 407 "creasecourt.places" 330 (bP ["place","x","y"] 413 "beside" 17 46 1 177 416 "creasecourt.places" 330 (eI "sides_of" 18 419 50 1 184 "creasecourt.places" 330 (eI "moved_by" 19 425 52 2 189 "creasecourt.places" 330 (bP ["corner"] 434 "edges_round" 20 54 1 194 435 "creasecourt.places" 330 (bP ["line","place"] 441 "number_by" 21 56 2 201 443 "creasecourt.places" 330 (bP ["place","edge","line","ahead"] 449 "hand_of" 22 64 2 208 453 "creasecourt.places" 330 (bP ["place","edge","x","y","line","number"] 459 "mirrored" 23 70 2 215 465 "creasecourt.places" 330 ((tN ["h","v","o"] 470)::(bP ["value"] 477 "is_size" 26 84 1 223 478 "creasecourt.sheets" 468 (bP ["wide","high"] 484 "check_size" 27 86 2 230 486 "creasecourt.sheets" 468 (bP ["value"] 492 "is_mark" 28 89 1 237 493 "creasecourt.sheets" 468 (bP ["wide","high","place"] 499 "is_within" 29 91 3 244 502 "creasecourt.sheets" 468 (eI "places_within" 30 505 93 2 251 "creasecourt.sheets" 468 (eI "quarters_in" 31 511 98 2 256 "creasecourt.sheets" 468 (eI "edges_in" 32 517 100 2 261 "creasecourt.sheets" 468 (eI "corners_in" 33 523 102 2 266 "creasecourt.sheets" 468 (bP ["wide","high","value"] 532 "is_inner_edge" 34 104 3 271 535 "creasecourt.sheets" 468 (bP ["wide","high","creases","marks","crease","edge"] 541 "sheet_of" 35 106 3 278 547 "creasecourt.sheets" 468 (bP ["sheet"] 553 "marks_in" 36 119 1 285 554 "creasecourt.sheets" 468 (eI "is_good" 38 559 122 1 292 "creasecourt.wedges" 557 (bP ["gaps"] 568 "check_round" 39 128 1 297 569 "creasecourt.wedges" 557 (eI "creases_at" 41 574 132 2 304 "creasecourt.corners" 572 (eI "gaps_at" 42 580 135 2 309 "creasecourt.corners" 572 (bP ["sheet","corner"] 589 "barred" 43 142 1 314 591 "creasecourt.corners" 572 (bP ["sheet","corner"] 597 "check_corners" 44 147 1 321 599 "creasecourt.corners" 572 (bP ["one","other","alike","corner"] 607 "tie_of" 46 152 4 328 611 "creasecourt.ties" 602 (bP ["gaps","k"] 617 "is_least" 47 154 2 335 619 "creasecourt.ties" 602 (bP ["creases","k","corner","count","told"] 625 "ties_of_gap" 48 156 3 342 630 "creasecourt.ties" 602 (bP ["sheet","corner","creases","gaps","told","k"] 636 "ties_at" 49 162 2 349 642 "creasecourt.ties" 602 [])))))))))))))))))))))))))))))))))))))))))))))))))
open PySem.W in
noncomputable def lD(P:Xh):List Obj:=(((lC P).set 3 ({cls:=VJ "dict",data:=YQ (Wa (eO P "__name__" 165 (vS "law_creasecourt_k54_whole_ties_in_all_rows" 770)::(lN P).take 83)) 84})).set 12 ({cls:=vN,data:=Wn (Wa (lM.take 213))}))++(bP ["sheet","told","corner"] 648 "ties" 50 172 1 356 651 "creasecourt.ties" 602 (eI "wedges_by" 52 656 179 2 363 "creasecourt.crimps" 654 (bP ["first","amid","third"] 665 "is_crimp" 53 181 3 368 668 "creasecourt.crimps" 654 (bP ["wedges","k","turned"] 674 "brought_ahead" 54 183 1 375 677 "creasecourt.crimps" 654 (bP ["wedge"] 683 "is_turned_part" 55 189 1 382 684 "creasecourt.crimps" 654 (bP ["first","amid","third","length"] 690 "crimped" 56 191 3 389 694 "creasecourt.crimps" 654 (bP ["one","other"] 700 "last_two" 57 196 2 396 702 "creasecourt.crimps" 654 (bP ["gaps","marks","wedges","turned"] 708 "folded_order" 58 202 2 403 712 "creasecourt.crimps" 654 (eI "rows_of" 59 715 210 1 410 "creasecourt.crimps" 654 (eI "all_marks" 60 721 215 1 415 "creasecourt.crimps" 654 ((tO #[Wc 1 729,Wc 0 730,Wc 0 731,Wc 1 732,Wc 0 733,Wc 0 734])::(bP ["start","right","down"] 739 "laying_by" 63 220 3 421 742 "creasecourt.layings" 727 (bP ["edge"] 748 "mirror_in" 64 222 1 428 749 "creasecourt.layings" 727 (bP ["laying","place","x","y"] 755 "led" 65 224 2 435 759 "creasecourt.layings" 727 (bP ["one","other"] 765 "then" 66 228 2 442 767 "creasecourt.layings" 727 (bP ["_law_script","_law_k"] 775 "_law_nth" 68 231 2 449 777 "law_creasecourt_k54_whole_ties_in_all_rows" 770 (bP ["_law_layings","_law_edge","_law_hand","_law_made","_law_quarter","_law_laying"] 783 "_law_folded" 69 233 3 456 789 "law_creasecourt_k54_whole_ties_in_all_rows" 770 (eI "_law_folds" 70 792 240 3 463 "law_creasecourt_k54_whole_ties_in_all_rows" 770 (bP ["_law_cell","_law_corner","_law_one","_law_other","_law_some","_law_found","_law_k"] 801 "_law_gaps" 71 251 2 468 808 "law_creasecourt_k54_whole_ties_in_all_rows" 770 (bP ["_law_size","_law_cell","_law_steps","_law_corners","_law_corner","_law_found","_law_k","_law_gap","_law_right","_law_down","_law_x","_law_y"] 814 "_law_star" 72 265 2 475 826 "law_creasecourt_k54_whole_ties_in_all_rows" 770 (bP ["_law_script","_law_at","_law_size","_law_way","_law_found","_law_k","_law_edge"] 832 "_law_creases" 73 282 3 482 839 "law_creasecourt_k54_whole_ties_in_all_rows" 770 (bP ["_law_found"] 845 "_law_square" 74 292 0 489 846 "law_creasecourt_k54_whole_ties_in_all_rows" 770 (bP ["_law_number","_law_cell","_law_size","_law_marked","_law_edge"] 852 "_law_any_sheet" 75 295 2 496 857 "law_creasecourt_k54_whole_ties_in_all_rows" 770 (bP ["_law_script","_law_at","_law_head","_law_size","_law_creases_here","_law_inner_here","_law_edge","_law_number","_law_marked","_law_k"] 863 "_law_sheet" 76 303 2 503 873 "law_creasecourt_k54_whole_ties_in_all_rows" 770 (eI "_law_round_a" 77 876 328 2 510 "law_creasecourt_k54_whole_ties_in_all_rows" 770 (bP ["_law_sheet_here","_law_found","_law_x","_law_y"] 885 "_law_inner" 78 339 1 515 889 "law_creasecourt_k54_whole_ties_in_all_rows" 770 (eI "_law_barred" 79 892 346 1 522 "law_creasecourt_k54_whole_ties_in_all_rows" 770 (bP ["_law_near","_law_k","_law_other","_law_alike","_law_corner","_law_one","_law_two"] 901 "_law_tie" 80 353 5 527 908 "law_creasecourt_k54_whole_ties_in_all_rows" 770 (eI "_law_ties" 81 911 357 1 534 "law_creasecourt_k54_whole_ties_in_all_rows" 770 (bP ["_law_row","_law_one","_law_other","_law_alike"] 920 "_law_holds" 82 371 4 539 924 "law_creasecourt_k54_whole_ties_in_all_rows" 770 (eI "law" 83 927 373 1 546 "law_creasecourt_k54_whole_ties_in_all_rows" 770 [])))))))))))))))))))))))))))))))
noncomputable def As:List Addr:=[3,121,122,123,124,125,126,127,128,129,130,131,132,133,134,140,141,147,148,154,155,161,162,168,169,175,176,182,183,187,188,192,193,199,200,206,207,213,214,220,221,222,228,229,235,236,242,243,249,250,254,255,259,260,264,265,269,270,276,277,283,284,290,291,295,296,302,303,307,308,312,313,319,320,326,327,333,334,340,341,347,348,354,355,361,362,366,367,373,374,380,381,387,388,394,395,401,402,408,409,413,414,418,419,420,426,427,433,434,440,441,447,448,454,455,461,462,466,467,473,474,480,481,487,488,494,495,501,502,508,509,513,514,520,521,525,526,544,545,549,550]
noncomputable def Kx:Xh → U9:=λP=>As.map λa=>(a,((lD P)[a]?).getD (tO #[]))
theorem pS:∀P,As=(Kx P).map (·.1):=λ_=>by kernel_rfl
noncomputable def vE:a0y:={scope:=Wo.main.scope,locals:=mainNs,globals:=mainNs,cells:=[],code:=VA 13,frame:=b0 14}
open PySem.W PyProof.Rows in
set_option maxRecDepth 100000 in
set_option maxHeartbeats 0 in
theorem Jp(w:VW)(a:ZD):topGo XX (Wz Vf).prog w 11 (b0 (VA 6)) 12 ⟨Y3 w.params,Wa [],WJ,a1F,a⟩ (topStub (Wz Vf).prog)=b0 (⟨⟨Wa (lA w.params),{}⟩,Wa [],WJ,187,a⟩,⟨denote XX (.body (VN (Wz Vf).prog) vE),(.body (VN (Wz Vf).prog) vE),⟨0,0,0,0⟩,[Y8 ⟨0,0,0,0⟩]⟩):=by kernel_rfl
open PySem.W PyProof.Rows in
set_option maxRecDepth 100000 in
set_option maxHeartbeats 0 in
theorem Jq(w:VW)(a:ZD):a1C XX (Wz Vf).prog w 11 (b0 (VA 6)) 1 1 ⟨⟨Wa (lA w.params),{}⟩,Wa [],WJ,187,a⟩ (blockOf (VN (Wz Vf).prog) vE (.body (VN (Wz Vf).prog) vE) ⟨0,0,0,0⟩ [Y8 ⟨0,0,0,0⟩])=b0 (.next,⟨⟨Wa (lA w.params),{}⟩,Wa [],WJ,187,a⟩,(.body (VN (Wz Vf).prog) vE),⟨0,0,0,0⟩):=by kernel_rfl
open PySem.W PyProof.Rows in
set_option maxRecDepth 100000 in
set_option maxHeartbeats 0 in
theorem Jr(w:VW)(a:ZD):a1C XX (Wz Vf).prog w 11 (b0 (VA 6)) 1 1570 ⟨⟨Wa (lA w.params),{}⟩,Wa [],WJ,187,a⟩ (a1j ((VN (Wz Vf).prog).take 8) vE (.body (VN (Wz Vf).prog) vE) ⟨0,0,0,0⟩ [Y8 ⟨0,0,0,0⟩])=b0 (.next,⟨⟨Wa (lB w.params),{}⟩,Wa [],WJ,330,a⟩,(.body (VN (Wz Vf).prog) vE),⟨20,0,24,28⟩):=by kernel_rfl
open PySem.W PyProof.Rows in
set_option maxRecDepth 100000 in
set_option maxHeartbeats 0 in
theorem Js(w:VW)(a:ZD):a1C XX (Wz Vf).prog w 11 (b0 (VA 6)) 1 1172 ⟨⟨Wa (lB w.params),{}⟩,Wa [],WJ,330,a⟩ (a1j (((VN (Wz Vf).prog).drop 8).take 42) vE (.body (VN (Wz Vf).prog) vE) ⟨20,0,24,28⟩ [Y8 ⟨0,0,0,0⟩])=b0 (.next,⟨⟨Wa (lC w.params),{}⟩,Wa [],WJ,645,a⟩,(.body (VN (Wz Vf).prog) vE),⟨162,0,171,15⟩):=by kernel_rfl
open PySem.W PyProof.Rows in
set_option maxRecDepth 100000 in
set_option maxHeartbeats 0 in
theorem Jt(w:VW)(a:ZD):a1C XX (Wz Vf).prog w 11 (b0 (VA 6)) 1 963 ⟨⟨Wa (lC w.params),{}⟩,Wa [],WJ,645,a⟩ (a1j ((((VN (Wz Vf).prog).drop 8).drop 42).take 34) vE (.body (VN (Wz Vf).prog) vE) ⟨162,0,171,15⟩ [Y8 ⟨0,0,0,0⟩])=b0 (.next,⟨⟨Wa (lD w.params),{}⟩,Wa [],WJ,933,a⟩,(.body (VN (Wz Vf).prog) vE),⟨373,0,394,26⟩):=by kernel_rfl
open PySem.W PyProof.Rows in
set_option maxRecDepth 100000 in
set_option maxHeartbeats 0 in
theorem run:LeftO (Wz Vf).prog Vw [] (λs=>xlAt Vw [] s&&recOk (a4J (a3v (Wz Vf))) s) (Hook.obs (a5K Kx As pS)) (Hook.val (a5K Kx As pS)) 7530:=
 L3.left_cut (hA:=λP=>⟨Wa (lA P),{}⟩) (hB:=λP=>⟨Wa (lB P),{}⟩) (hC:=λP=>⟨Wa (lC P),{}⟩) (hD:=λP=>⟨Wa (lD P),{}⟩) (n4:=201) (i1:=8) (i2:=42) (i3:=34) (env:=vE) (boot_open (by kernel_rfl) (by kernel_rfl) (λ_=>by kernel_rfl)) (λw=>by kernel_rfl) Jp Jq Jr Js Jt (λw a=>by kernel_rfl) (by kernel_rfl)
open PySem.W PyProof.Rows in
set_option maxRecDepth 100000 in
set_option maxHeartbeats 0 in
theorem Ju:Vf.wellSaid=true:=by decide +kernel
end Lw
set_option maxHeartbeats 4000000
namespace L3
open PySem
open PySem.SetTable (Probe Met Slot bits runEnd leap turns insertAt sizeAbove)
namespace Tb
noncomputable def Jv(m:Nat)(p:Probe):Probe:=
 if p.more>0 then{p with j:=p.j+1,more:=p.more-1}else
 {p with j:=(leap m p.i p.perturb).1,more:=runEnd m (leap m p.i p.perturb).1-(leap m p.i p.perturb).1,i:=(leap m p.i p.perturb).1,perturb:=(leap m p.i p.perturb).2}
noncomputable def Jw(m:Nat)(b:Nat):Probe:={j:=b%(m+1),more:=runEnd m (b%(m+1))-b%(m+1),i:=b%(m+1),perturb:=b,dummy:=b3}
noncomputable def wN(m b:Nat):Nat->Probe
 |0=>Jw m b|k+1=>Jv m (wN m b k)
noncomputable def hd(m i q:Nat):Probe:={j:=i,more:=runEnd m i-i,i:=i,perturb:=q,dummy:=b3}
noncomputable def nx(m i:Nat):Nat:=(i*5+1)%(m+1)
noncomputable def BR(m:Nat):Nat->Nat->Nat
 |0,i=>i|n+1,i=>BR m n (nx m i)
noncomputable def mD(m:Nat):Nat->Nat->Nat->Nat
 |0,_,acc=>acc|f+1,i,acc=>mD m f (nx m i) (acc ||| (1 <<< i))
noncomputable def Jx(m:Nat):Bool:=mD m (m+1) 0 0==2^(m+1)-1&&BR m (m+1) 0==0
noncomputable def BS(m:Nat)(S:List Nat)(b j:Nat):Prop:=∃k,(wN m b k).j=j/\∀k',k'<k->(wN m b k').j∈S
noncomputable abbrev sE:=Nat×Int×Value
structure Ok(t:a3U)(R:List sE):Prop where
 place:t.place.toList=R.map (·.1)
 dum:t.dummies=#[]
 rise:(R.map (·.1)).Pairwise (·<·)
 le:∀r∈R,r.1<=t.mask
 cov:Jx t.mask=dI
 odd:t.mask%2=1
 room:R.length<=t.mask
 road:∀r∈R,BS t.mask (R.map (·.1)) (bits r.2.1) r.1
section
variable{t:a3U}{R:List sE}
theorem Ok.size(o:Ok t R):t.place.size=R.length:=by have:=congrArg WI o.place;simpa using this
theorem Ok.getD(o:Ok t R){i:Nat}(a:i<R.length):t.place.getD i 0=(R[i]).1:=by
 have h:t.place.toList[i]?=(R.map (·.1))[i]?:=by rw[o.place]
 have c:i<t.place.size:=by rw[o.size];exact a
 simp[a,c]at h;simp[a5d,c,h]
end
noncomputable def lv(m:Nat)(a:Array (Option Nat)):List (Nat×Nat):=(VS (m+1)).filterMap λj=>(a.getD j b3).map (j,·)
structure Ow(m:Nat)(ds:List Int)(ow:Array (Option Nat)):Prop where
 size:ow.size=m+1
 lt:∀j i,ow.getD j b3=b0 i->i<ds.length
 all:∀i,i<ds.length->∃j,ow.getD j b3=b0 i
 inj:∀j j' i,ow.getD j b3=b0 i->ow.getD j' b3=b0 i->j=j'
 road:∀j i,ow.getD j b3=b0 i->BS m ((lv m ow).map (·.1)) (bits (ds.getD i 0)) j
section
variable{m:Nat}{ds:List Int}{ow:Array (Option Nat)}
end
theorem Ow.nil(m:Nat):Ow m [] (a1c (m+1) b3):=by
 have e:∀j,(a1c (m+1) (b3:Option Nat)).getD j b3=none:=λj=>by simp[a5d]
 have a:∀{P:Prop}(j i:Nat),(a1c (m+1) (b3:Option Nat)).getD j b3=b0 i->P:=λj i h=>by rw[e]at h;exact nomatch h
 exact⟨by simp,λj i h=>a j i h,λi h=>absurd h (Zp _),λj c i h _=>a j i h,λj i h=>a j i h⟩
end Tb
end L3
namespace L3
open PySem
open PySem.SetTable (Probe Met Slot bits runEnd leap turns insertAt sizeAbove)
namespace Tb
section
variable{prog:VE}{w:VW}{K:Type} [DecidableEq K] {knd:KeyKind prog w K}{A:VO}{E:Value->Ve->Prop}{s:Ve}
theorem fits_of{t:a3U}{R:List sE}{es:Array (Int×Value)}(o:Ok t R)(d:es.toList=R.map (·.2)):t.fits es.size=true:=by
 have a:es.size=R.length:=by simpa using congrArg WI d
 have c:=o.room;unfold SetTable.fits SetTable.fill;rw[o.size,a,o.dum];simp;exact c
end
section
variable{prog:VE}{w:VW}{A:VO}{E:Value->Ve->Prop}{s:Ve}
noncomputable abbrev El:=List Int×Addr
noncomputable def hashT(k:List Int):Int:=reduceHash (a5a (k.map hashInt))
noncomputable def Jy(p:El):Int×Value:=(hashT p.1,VA p.2)
noncomputable def Jz(m:Nat):Prop:=m=7\/m=31\/m=127\/m=511
noncomputable def BU(w:VW):Bool:=w.params.followText "set-order"
noncomputable def BV(a:Bool)(L:List El)(o:Obj):Prop:=∃es ep t R,o.ExactSet/\o.data=.set es ep t/\es.toList=R.map (·.2)/\Ok t R/\es.toList.Perm (L.map Jy)/\(L.map (·.1)).Nodup/\Jz t.mask/\L.length*5<t.mask*3/\t.plain=dI/\t.led=a
noncomputable def SObj(L:List El)(o:Obj):Prop:=∃a,BV a L o
noncomputable def Bd(prog:VE)(w:VW)(h:WA)(a:Addr)(L:List El):Prop:=∃o,h.get? a=b0 o/\BV (!BU w) L o/\∀p∈L,IsTupleKey (YF prog w) h p.1 p.2
end
end Tb
end L3
namespace L3
open PySem
namespace Tb
section
variable{prog:VE}{w:VW}{A:VO}{E:Value->Ve->Prop}{s:Ve}
structure SAt(w:VW)(h:WA)(a:Addr)(es:Array (Int×Value))(ep:Nat)(t:a3U)(R:List sE):Prop where
 at_:∃o,h.get? a=b0 o/\o.cls=.type "set"/\o.data=.set es ep t
 he:es.toList=R.map (·.2)
 ok:Ok t R
 pl:t.plain=dI
 led:t.led=!BU w
end
end Tb
end L3
namespace L3
open PySem L2
inductive D where
 |non|bl (b:Bool)|int (i:Int)|str (x:Str)|tup (xs:List D)|rol (xs:List D)|loc (a:Nat)|ty (n:String)
 deriving Inhabited
inductive C where
 |lst (xs:List D)
 |dK (kvs:List (bY×D))
 |st (ks:List (List Int))
 |dT (kvs:List (List Int×D))
 |dF (kvs:List (List Int×D))
 deriving Inhabited
noncomputable abbrev Hm:=List C
noncomputable abbrev aG:=List (Option D)
noncomputable abbrev ME:=aG->Hm->Option (D×Hm)
noncomputable abbrev MT:=aG->Hm->Option (Bool×Hm)
noncomputable abbrev MA:=aG->Hm->Option (List D×Hm)
abbrev jk:=Option (D×Hm)
abbrev jx:=List (List Int×D)
abbrev jz:=D×Hm->Prop
inductive Fl where
 |nx|rt (d:D)|bk|ct
noncomputable abbrev MS:=aG->Hm->Option (Fl×aG×Hm)
noncomputable abbrev MF:=List D->Hm->jk
noncomputable def RoL(K:U9)(H:Hp)(p:Addr)(xs:gw):Prop:=
 (∃o,H p=b0 (.frz o (.lst xs))) \/
  ∃(o:Obj)(a:Array Value)(n:Nat),K.lookup p=b0 o/\o.cls=.type "list"/\o.dict=b3/\o.data=.seq a n/\a.size<=Vp/\Vals xs a.toList
theorem RoL.sq{K:U9}{H:Hp}{p:Addr}{xs:gw}(h:RoL K H p xs):SqL K H p xs:=by
 rcases h with⟨o,h⟩|h
 .exact .inl (.inr ⟨o,h⟩)
 .exact .inr h
mutual
inductive IsD (K:U9)(π:Nat->Addr)(n:Nat)(H:Hp):V->D->Prop where
 |non:IsD K π n H .non .non
 |bl (b:Bool):IsD K π n H (.bl b) (.bl b)
 |int (i:Int):IsD K π n H (.int i) (.int i)
 |str (x:Str):IsD K π n H (.str x) (.str x)
 |tup {p:Addr}{vs:gw}{ds:List D}(h:SqT K H p vs)(t:IsDs K π n H vs ds):IsD K π n H (.ref p) (.tup ds)
 |rol {p:Addr}{vs:gw}{ds:List D}(h:RoL K H p vs)(t:IsDs K π n H vs ds):IsD K π n H (.ref p) (.rol ds)
 |loc {a:Nat}(h:a<n):IsD K π n H (.ref (π a)) (.loc a)
 |ty (x:String):IsD K π n H (.ty x) (.ty x)
inductive IsDs (K:U9)(π:Nat->Addr)(n:Nat)(H:Hp):gw->List D->Prop where
 |nil:IsDs K π n H [] []
 |cons {v:V}{d:D}{vs:gw}{ds:List D}(h:IsD K π n H v d)(t:IsDs K π n H vs ds):IsDs K π n H (v::vs) (d::ds)
end
structure Ext(π:Nat->Addr)(n:Nat)(H:Hp)(π':Nat->Addr)(n':Nat)(H':Hp):Prop where
 le:n<=n'
 pi:∀a,a<n->π' a=π a
 tup:∀p vs,H p=b0 (.tup vs)->H' p=b0 (.tup vs)
 frz:∀p o u,H p=b0 (.frz o u)->H' p=b0 (.frz o u)
structure Ext0(π:Nat->Addr)(n:Nat)(H:Hp)(π':Nat->Addr)(n':Nat)(H':Hp):Prop where
 le:n<=n'
 pi:∀a,a<n->π' a=π a
 tup:∀p vs,H p=b0 (.tup vs)->H' p=b0 (.tup vs)
 frz:∀p o u,(∀φ,u≠HO.ext φ)->H p=b0 (.frz o u)->H' p=b0 (.frz o u)
section
variable{K:U9}{π π' π2:Nat->Addr}{n n' n2:Nat}{H H' H2:Hp}
theorem Ext.weak(e:Ext π n H π' n' H'):Ext0 π n H π' n' H':=⟨e.le,e.pi,e.tup,λp o u _ h=>e.frz p o u h⟩
theorem Ext.refl:Ext π n H π n H:=⟨Vk _,λ_ _=>rfl,λ_ _ h=>h,λ_ _ _ h=>h⟩
theorem Ext.trans(a:Ext π n H π' n' H')(b:Ext π' n' H' π2 n2 H2):Ext π n H π2 n2 H2:=
 ⟨WD a.le b.le,λi h=>(b.pi i (VX h a.le)).trans (a.pi i h),λp c h=>b.tup p c (a.tup p c h),λp o u h=>b.frz p o u (a.frz p o u h)⟩
theorem Ext0.sqT(e:Ext0 π n H π' n' H'){p:Addr}{vs:gw}(h:SqT K H p vs):SqT K H' p vs:=by
 rcases h with h|h
 .rcases h with h|⟨o,h⟩
  .exact .inl (.inl (e.tup _ _ h))
  .exact .inl (.inr ⟨o,e.frz _ _ _ (λ_ z=>nomatch z) h⟩)
 .exact .inr h
theorem Ext.sqT(e:Ext π n H π' n' H'){p:Addr}{vs:gw}(h:SqT K H p vs):SqT K H' p vs:=e.weak.sqT h
theorem Ext0.roL(e:Ext0 π n H π' n' H'){p:Addr}{vs:gw}(h:RoL K H p vs):RoL K H' p vs:=by
 rcases h with⟨o,h⟩|h
 .exact .inl ⟨o,e.frz _ _ _ (λ_ z=>nomatch z) h⟩
 .exact .inr h
theorem Ext.roL(e:Ext π n H π' n' H'){p:Addr}{vs:gw}(h:RoL K H p vs):RoL K H' p vs:=e.weak.roL h
mutual
theorem IsD.mono0{v:V}{d:D}(e:Ext0 π n H π' n' H'):IsD K π n H v d->IsD K π' n' H' v d
 |.non=>.non|.bl b=>.bl b|.int i=>.int i|.str x=>.str x|.ty x=>.ty x|.tup h t=>.tup (e.sqT h) (IsDs.mono0 e t)|.rol h t=>.rol (e.roL h) (IsDs.mono0 e t)|.loc h=>by rw[<- e.pi _ h];exact .loc (VX h e.le)
theorem IsDs.mono0{vs:gw}{ds:List D}(e:Ext0 π n H π' n' H'):IsDs K π n H vs ds->IsDs K π' n' H' vs ds
 |.nil=>.nil|.cons h t=>.cons (IsD.mono0 e h) (IsDs.mono0 e t)
end
theorem IsD.mono{v:V}{d:D}(e:Ext π n H π' n' H')(h:IsD K π n H v d):IsD K π' n' H' v d:=h.mono0 e.weak
theorem IsDs.mono{vs:gw}{ds:List D}(e:Ext π n H π' n' H')(h:IsDs K π n H vs ds):IsDs K π' n' H' vs ds:=h.mono0 e.weak
theorem IsDs.length{vs:gw}{ds:List D}(h:IsDs K π n H vs ds):vs.length=ds.length:=by
 induction ds generalizing vs with
 |nil=>cases h;rfl|cons d ds a=>
  cases h with
  |cons h t=>rw[VD,VD,a t]
theorem IsDs.get{vs:gw}{ds:List D}(h:IsDs K π n H vs ds){i:Nat}{d:D}(e:ds[i]?=b0 d):∃v,vs[i]?=b0 v/\IsD K π n H v d:=by
 induction ds generalizing vs i with
 |nil=>simp at e|cons j ds g=>
  cases h with
  |cons h t=>
   cases i with
   |zero=>simp at e;subst e;exact⟨_,rfl,h⟩|succ i=>obtain⟨v,a,c⟩:=g t (by simpa using e);exact⟨v,by simpa using a,c⟩
theorem IsDs.append{vs ws:gw}{ds es:List D}(h:IsDs K π n H vs ds)(a:IsDs K π n H ws es):IsDs K π n H (vs++ws) (ds++es):=by
 induction ds generalizing vs with
 |nil=>cases h;exact a|cons d ds c=>
  cases h with
  |cons h t=>exact .cons h (c t)
theorem IsDs.drop{vs:gw}{ds:List D}(h:IsDs K π n H vs ds)(k:Nat):IsDs K π n H (vs.drop k) (ds.drop k):=by
 induction ds generalizing vs k with
 |nil=>cases h;simpa using IsDs.nil|cons d ds a=>
  cases h with
  |cons h t=>
   cases k with
   |zero=>exact .cons h t|succ k=>exact a t k
theorem IsDs.take{vs:gw}{ds:List D}(h:IsDs K π n H vs ds)(k:Nat):IsDs K π n H (vs.take k) (ds.take k):=by
 induction ds generalizing vs k with
 |nil=>cases h;simpa using IsDs.nil|cons d ds a=>
  cases h with
  |cons h t=>
   cases k with
   |zero=>exact .nil|succ k=>exact .cons h (a t k)
theorem IsDs.atI{vs:gw}{ds:List D}(h:IsDs K π n H vs ds){i:Int}{d:D}(e:L2.atI ds i=b0 d):∃v,L2.atI vs i=b0 v/\IsD K π n H v d:=by
 unfold L2.atI at e ⊢;rw[h.length];cases q:i7 ds.length i with
 |none=>rw[q]at e;cases e|some j=>rw[q]at e;exact h.get e
end
noncomputable def sF(p:Addr)(L:List Tb.El):HO:=.ext λh=>∃o,h.get? p=b0 o/\Tb.SObj L o
noncomputable def sG(p:List Int×Addr×V)(w:Value):DictEntry:=⟨Tb.hashT p.1,.ref p.2.1,w⟩
noncomputable def aS(a:Addr)(ps:List (List Int×Addr×V)):HO:=.ext λh=>∃ws:gq,Vals (ps.map (·.2.2)) ws/\(a==Xo)=b5/\ps.length<=Vp /\
 ∃o c d,h.get? a=b0 o/\o.ExactDict/\o.data=.dict c d/\c.toList=ZW sG ps ws/\(ps.map (·.1)).Nodup
structure Rp(K:U9)(π:Nat->Addr)(H:Hp)(μ:Hm):Prop where
 inj:∀a b,a<μ.length->b<μ.length->π a=π b->a=b
 has:∀a,a<μ.length->(H (π a)).isSome=dI
 lst:∀a xs,μ[a]?=b0 (.lst xs)->∃vs,H (π a)=b0 (.lst vs)/\IsDs K π μ.length H vs xs
 dK:∀a kvs,μ[a]?=b0 (.dK kvs)->∃vs,H (π a)=b0 (.dK vs)/\vs.map (·.1)=kvs.map (·.1)/\IsDs K π μ.length H (vs.map (·.2)) (kvs.map (·.2))
 st:∀a ks,μ[a]?=b0 (.st ks)->∃L:List Tb.El,H (π a)=b0 (sF (π a) L)/\L.map (·.1)=ks/\IsDs K π μ.length H (L.map λp=>V.ref p.2) (ks.map λk=>D.tup (k.map D.int))
 dT:∀a kvs,μ[a]?=b0 (.dT kvs)->∃ps:List (List Int×Addr×V),H (π a)=b0 (aS (π a) ps)/\ps.map (·.1)=kvs.map (·.1)/\IsDs K π μ.length H (ps.map λp=>V.ref p.2.1) (kvs.map λk=>D.tup (k.1.map D.int))/\IsDs K π μ.length H (ps.map (·.2.2)) (kvs.map (·.2))
 dF:∀a kvs,μ[a]?=b0 (.dF kvs)->∃(ob:Obj)(ps:List (List Int×Addr×V)),H (π a)=b0 (.frz ob (aS (π a) ps))/\ps.map (·.1)=kvs.map (·.1)/\IsDs K π μ.length H (ps.map λp=>V.ref p.2.1) (kvs.map λk=>D.tup (k.1.map D.int))/\IsDs K π μ.length H (ps.map (·.2.2)) (kvs.map (·.2))
structure En(K:U9)(π:Nat->Addr)(n:Nat)(H:Hp)(σ:St)(ρ:aG):Prop where
 len:σ.length=ρ.length
 get:∀(i:Nat)(d:D),ρ[i]?=b0 (b0 d)->∃v,σ[i]?=b0 (b0 v)/\IsD K π n H v d
section
variable{K:U9}{π π' π2:Nat->Addr}{n n' n2:Nat}{H H' H2:Hp}{μ μ':Hm}{σ:St}{ρ:aG}
theorem En.mono(E:En K π n H σ ρ)(e:Ext π n H π' n' H'):En K π' n' H' σ ρ:=
 ⟨E.len,λi d h=>let⟨v,a,c⟩:=E.get i d h;⟨v,a,c.mono e⟩⟩
theorem En.set(E:En K π n H σ ρ){v:V}{d:D}(h:IsD K π n H v d)(i:Nat):En K π n H (σ.set i (b0 v)) (ρ.set i (b0 d)):=by
 refine⟨by rw[XR,XR];exact E.len,λj g e=>?_⟩;rw[List.getElem?_set]at e ⊢;by_cases a:i=j
 .subst a;rw[if_pos rfl]at e ⊢;rw[E.len];by_cases c:i<ρ.length
  .rw[if_pos c]at e ⊢;cases e;exact⟨v,rfl,h⟩
  .rw[if_neg c]at e;cases e
 .rw[if_neg a]at e ⊢;exact E.get j g e
theorem Rp.ne{p:Addr}(R:Rp K π H μ)(h:H p=b3){a:Nat}(c:a<μ.length):π a≠p:=λe=>by have:=R.has a c;rw[e,h]at this;cases this
theorem Rp.fresh{p:Addr}{o:HO}(R:Rp K π H μ)(h:H p=b3):Ext π μ.length H π μ.length (aK H p o)/\Rp K π (aK H p o) μ:=by
 have c:∀b u,H b=b0 u->aK H p o b=b0 u:=λb u e=>by rw[a8 (gO e h)];exact e
 have e:Ext π μ.length H π μ.length (aK H p o):=⟨Vk _,λ_ _=>rfl,λq i e=>c q _ e,λq o u e=>c q _ e⟩;refine⟨e,R.inj,λa d=>?_,λa v d=>?_,λa g d=>?_,λa r d=>?_
  ,λa g d=>?_
  ,λa g d=>?_
  ⟩
 .rw[a8 (R.ne h d)];exact R.has a d
 .obtain⟨i,j,k⟩:=R.lst a v d;exact⟨i,c _ _ j,k.mono e⟩
 .obtain⟨i,j,k,l⟩:=R.dK a g d;exact⟨i,c _ _ j,k,l.mono e⟩
 .obtain⟨i,j,k,l⟩:=R.st a r d;exact⟨i,c _ _ j,k,l.mono e⟩
 .obtain⟨i,j,k,l,m⟩:=R.dT a g d;exact⟨i,c _ _ j,k,l.mono e,m.mono e⟩
 .obtain⟨s,i,j,k,l,m⟩:=R.dF a g d;exact⟨s,i,c _ _ j,k,l.mono e,m.mono e⟩
noncomputable def pT(K:U9)(π:Nat->Addr)(n:Nat)(H:Hp)(p:Addr):C->HO->Prop
 |.lst xs,.lst vs=>IsDs K π n H vs xs|.dK kvs,.dK vs=>vs.map (·.1)=kvs.map (·.1)/\IsDs K π n H (vs.map (·.2)) (kvs.map (·.2))|.st ks,o=>∃L:List Tb.El,o=sF p L/\L.map (·.1)=ks/\IsDs K π n H (L.map λp=>V.ref p.2) (ks.map λk=>D.tup (k.map D.int))|.dT kvs,o=>∃ps:List (List Int×Addr×V),o=aS p ps/\ps.map (·.1)=kvs.map (·.1)/\IsDs K π n H (ps.map λp=>V.ref p.2.1) (kvs.map λk=>D.tup (k.1.map D.int))/\IsDs K π n H (ps.map (·.2.2)) (kvs.map (·.2))|.dF kvs,o=>∃(a:Obj)(ps:List (List Int×Addr×V)),o=.frz a (aS p ps)/\ps.map (·.1)=kvs.map (·.1)/\IsDs K π n H (ps.map λp=>V.ref p.2.1) (kvs.map λk=>D.tup (k.1.map D.int))/\IsDs K π n H (ps.map (·.2.2)) (kvs.map (·.2))|_,_=>False
noncomputable def gR(π:Nat->Addr)(n:Nat)(p:Addr):Nat->Addr:=λa=>if a=n then p else π a
theorem Rp.alloc{p:Addr}{c:C}{o:HO}(R:Rp K π H μ)(h:H p=b3)(hc:pT K π μ.length H p c o) :
  Ext π μ.length H (gR π μ.length p) (μ++[c]).length (aK H p o)/\Rp K (gR π μ.length p) (aK H p o) (μ++[c])/\gR π μ.length p μ.length=p:=by
 have B:(μ++[c]).length=μ.length+1:=by simp
 have g:∀b u,H b=b0 u->aK H p o b=b0 u:=λb u e=>by rw[a8 (gO e h)];exact e
 have x:gR π μ.length p μ.length=p:=if_pos rfl;have v:∀a,a<μ.length->gR π μ.length p a=π a:=λa d=>if_neg (VI d);have e:Ext π μ.length H (gR π μ.length p) (μ++[c]).length (aK H p o):=⟨by rw[B];exact a0j _,v,λq m e=>g q _ e,λq o u e=>g q _ e⟩;have split:∀a,a<(μ++[c]).length->a<μ.length\/a=μ.length:=λa d=>by rw[B]at d;lia
 have get:∀a,a<μ.length->(μ++[c])[a]?=μ[a]?:=λa d=>Vy d;have j:(μ++[c])[μ.length]?=b0 c:=by simp
 refine⟨e,⟨λa b d z q=>?_,λa d=>?_,λa G d=>?_,λa s d=>?_,λa E d=>?_
  ,λa s d=>?_
  ,λa s d=>?_
  ⟩,x⟩
 .rcases split a d with d|rfl<;>rcases split b z with z|rfl
  .rw[v a d,v b z]at q;exact R.inj a b d z q
  .rw[v a d,x]at q;exact absurd q (R.ne h d)
  .rw[x,v b z]at q;exact absurd q.symm (R.ne h z)
  .rfl
 .rcases split a d with d|rfl
  .rw[v a d,a8 (R.ne h d)];exact R.has a d
  .rw[x,cH];rfl
 .have i:a<(μ++[c]).length:=(Vc.mp d).1;rcases split a i with l|rfl
  .rw[get a l]at d;obtain⟨m,w,k⟩:=R.lst a G d;rw[v a l];exact⟨m,g _ _ w,k.mono e⟩
  .rw[j]at d;cases d;cases o with
   |lst m=>rw[x];exact⟨m,cH,IsDs.mono e hc⟩|_=>exact XO hc
 .have i:a<(μ++[c]).length:=(Vc.mp d).1;rcases split a i with l|rfl
  .rw[get a l]at d;obtain⟨m,w,k,r⟩:=R.dK a s d;rw[v a l];exact⟨m,g _ _ w,k,r.mono e⟩
  .rw[j]at d;cases d;cases o with
   |dK m=>rw[x];exact⟨m,cH,hc.1,IsDs.mono e hc.2⟩|_=>exact XO hc
 .have i:a<(μ++[c]).length:=(Vc.mp d).1;rcases split a i with l|rfl
  .rw[get a l]at d;obtain⟨m,w,k,r⟩:=R.st a E d;rw[v a l];exact⟨m,g _ _ w,k,r.mono e⟩
  .rw[j]at d;cases d;obtain⟨L,rfl,k,r⟩:=hc;rw[x];exact⟨L,cH,k,r.mono e⟩
 .have i:a<(μ++[c]).length:=(Vc.mp d).1;rcases split a i with l|rfl
  .rw[get a l]at d;obtain⟨m,w,k,r,y⟩:=R.dT a s d;rw[v a l];exact⟨m,g _ _ w,k,r.mono e,y.mono e⟩
  .rw[j]at d;cases d;obtain⟨L,rfl,k,r,y⟩:=hc;rw[x];exact⟨L,cH,k,r.mono e,y.mono e⟩
 .have i:a<(μ++[c]).length:=(Vc.mp d).1;rcases split a i with l|rfl
  .rw[get a l]at d;obtain⟨A,m,w,k,r,y⟩:=R.dF a s d;rw[v a l];exact⟨A,m,g _ _ w,k,r.mono e,y.mono e⟩
  .rw[j]at d;cases d;obtain⟨A,L,rfl,k,r,y⟩:=hc;rw[x];exact⟨A,L,cH,k,r.mono e,y.mono e⟩
theorem Rp.putU{a:Nat}{c:C}{o u:HO}(R:Rp K π H μ)(E:a<μ.length)(y:H (π a)=b0 u)(A:(∀vs,u≠.tup vs)/\∀s v,(∀M,v≠HO.ext M)->u≠.frz s v)(hc:pT K π μ.length H (π a) c o) :
  Ext0 π μ.length H π (μ.set a c).length (aK H (π a) o)/\Rp K π (aK H (π a) o) (μ.set a c):=by
 have m:(μ.set a c).length=μ.length:=XR ..;have e:Ext0 π μ.length H π (μ.set a c).length (aK H (π a) o):=by
  refine⟨Z3 m.symm,λ_ _=>rfl,λq vs z=>?_,λq N O nx z=>?_⟩
  .rw[a8]
   .exact z
   .intro e;subst e;rw[y]at z;exact A.1 _ (Vs z)
  .rw[a8]
   .exact z
   .intro e;subst e;rw[y]at z;exact A.2 _ _ nx (Vs z)
 have i:∀b,b<μ.length->b≠a->aK H (π a) o (π b)=H (π b):=λb d x=>a8 λq=>x (R.inj b a d E q);refine⟨e,⟨λb B d w=>R.inj b B (m▸d) (m▸w),λb d=>?_,λb I d=>?_,λb l d=>?_,λb G d=>?_
  ,λb l d=>?_
  ,λb l d=>?_
  ⟩⟩
 .by_cases h:b=a
  .subst h;rw[cH];rfl
  .rw[i b (m▸d) h];exact R.has b (m▸d)
 .have g:b<μ.length:=m▸(Vc.mp d).1;by_cases h:b=a
  .subst h;rw[Wu g]at d;cases d;cases o with
   |lst vs=>exact⟨vs,cH,IsDs.mono0 e hc⟩|_=>exact XO hc
  .rw[V3 (WM h)]at d;obtain⟨vs,p,j⟩:=R.lst b I d;exact⟨vs,by rw[i b g h];exact p,j.mono0 e⟩
 .have g:b<μ.length:=m▸(Vc.mp d).1;by_cases h:b=a
  .subst h;rw[Wu g]at d;cases d;cases o with
   |dK vs=>exact⟨vs,cH,hc.1,IsDs.mono0 e hc.2⟩|_=>exact XO hc
  .rw[V3 (WM h)]at d;obtain⟨vs,p,j,k⟩:=R.dK b l d;exact⟨vs,by rw[i b g h];exact p,j,k.mono0 e⟩
 .have g:b<μ.length:=m▸(Vc.mp d).1;by_cases h:b=a
  .subst h;rw[Wu g]at d;cases d;obtain⟨L,rfl,j,k⟩:=hc;exact⟨L,cH,j,k.mono0 e⟩
  .rw[V3 (WM h)]at d;obtain⟨vs,p,j,k⟩:=R.st b G d;exact⟨vs,by rw[i b g h];exact p,j,k.mono0 e⟩
 .have g:b<μ.length:=m▸(Vc.mp d).1;by_cases h:b=a
  .subst h;rw[Wu g]at d;cases d;obtain⟨L,rfl,j,k,r⟩:=hc;exact⟨L,cH,j,k.mono0 e,r.mono0 e⟩
  .rw[V3 (WM h)]at d;obtain⟨vs,p,j,k,r⟩:=R.dT b l d;exact⟨vs,by rw[i b g h];exact p,j,k.mono0 e,r.mono0 e⟩
 .have g:b<μ.length:=m▸(Vc.mp d).1;by_cases h:b=a
  .subst h;rw[Wu g]at d;cases d;obtain⟨s,L,rfl,j,k,r⟩:=hc;exact⟨s,L,cH,j,k.mono0 e,r.mono0 e⟩
  .rw[V3 (WM h)]at d;obtain⟨s,vs,p,j,k,r⟩:=R.dF b l d;exact⟨s,vs,by rw[i b g h];exact p,j,k.mono0 e,r.mono0 e⟩
theorem Rp.put0{a:Nat}{c:C}{o u:HO}(R:Rp K π H μ)(h:a<μ.length)(i:H (π a)=b0 u)(g:(∃vs,u=.lst vs)\/(∃vs,u=.dK vs)\/(∃e,u=.ext e)\/∃d e,u=.frz d (.ext e))(hc:pT K π μ.length H (π a) c o) :
  Ext0 π μ.length H π (μ.set a c).length (aK H (π a) o)/\Rp K π (aK H (π a) o) (μ.set a c):=
 R.putU h i ⟨λvs z=>(by rcases g with⟨w,rfl⟩|⟨w,rfl⟩|⟨w,rfl⟩|⟨d,w,rfl⟩<;>cases z),λd v nx z=>by
  rcases g with⟨w,rfl⟩|⟨w,rfl⟩|⟨w,rfl⟩|⟨d,w,rfl⟩<;>cases z;exact nx _ rfl⟩ hc
theorem Rp.putE{a:Nat}{c:C}{o u:HO}(R:Rp K π H μ)(i:a<μ.length)(g:H (π a)=b0 u)(d:(∀vs,u≠.tup vs)/\∀h v,u≠.frz h v)(hc:pT K π μ.length H (π a) c o) :
  Ext π μ.length H π (μ.set a c).length (aK H (π a) o)/\Rp K π (aK H (π a) o) (μ.set a c):=by
 have e:Ext π μ.length H π (μ.set a c).length (aK H (π a) o):=by
  refine⟨Z3 (XR ..).symm,λ_ _=>rfl,λq vs z=>?_,λq j k z=>?_⟩
  .rw[a8]
   .exact z
   .intro e;subst e;rw[g]at z;exact d.1 _ (Vs z)
  .rw[a8]
   .exact z
   .intro e;subst e;rw[g]at z;exact d.2 _ _ (Vs z)
 exact⟨e,(R.putU i g ⟨d.1,λh v _=>d.2 h v⟩ hc).2⟩
theorem Rp.put{a:Nat}{c:C}{o u:HO}(R:Rp K π H μ)(e:a<μ.length)(g:H (π a)=b0 u)(d:(∃vs,u=.lst vs)\/(∃vs,u=.dK vs)\/∃h,u=.ext h)(hc:pT K π μ.length H (π a) c o) :
  Ext π μ.length H π (μ.set a c).length (aK H (π a) o)/\Rp K π (aK H (π a) o) (μ.set a c):=
 R.putE e g ⟨λvs z=>(by rcases d with⟨w,rfl⟩|⟨w,rfl⟩|⟨w,rfl⟩<;>cases z),λi v z=>by rcases d with⟨w,rfl⟩|⟨w,rfl⟩|⟨w,rfl⟩<;>cases z⟩ hc
end
noncomputable def KC(K:U9)(Q:VK)(π:Nat->Addr)(n:Nat)(H:Hp)(d:D)(μ':Hm):Prop:=
 ∀a v c,Ext π n H a μ'.length c->Rp K a c μ'->IsD K a μ'.length c v d->Q v c
theorem KC.after{K:U9}{Q:VK}{π a:Nat->Addr}{n h:Nat}{H g:Hp}{d:D}{μ':Hm}(k:KC K Q π n H d μ')(e:Ext π n H a h g):KC K Q a h g d μ':=
 λc v j l R i=>k c v j (e.trans l) R i
inductive tM (K:U9)(m:ME)(σ:St)(H:Hp)(Q:VK):Prop
 |mk (π:Nat->Addr)(ρ:aG)(μ:Hm)(d:D)(μ':Hm)(R:Rp K π H μ)(E:En K π μ.length H σ ρ)(hm:m ρ μ=b0 (d,μ'))(k:KC K Q π μ.length H d μ'):tM K m σ H Q
inductive tMT (K:U9)(m:MT)(σ:St)(H:Hp)(Q:Bool->Hp->Prop):Prop
 |mk (π:Nat->Addr)(ρ:aG)(μ:Hm)(b:Bool)(μ':Hm)(R:Rp K π H μ)(E:En K π μ.length H σ ρ)(hm:m ρ μ=b0 (b,μ'))(k:∀π' H',Ext π μ.length H π' μ'.length H'->Rp K π' H' μ'->Q b H'):tMT K m σ H Q
inductive tMA (K:U9)(m:MA)(σ:St)(H:Hp)(Q:gw->Hp->Prop):Prop
 |mk (π:Nat->Addr)(ρ:aG)(μ:Hm)(ds:List D)(μ':Hm)(R:Rp K π H μ)(E:En K π μ.length H σ ρ)(hm:m ρ μ=b0 (ds,μ'))(k:∀π' vs H',Ext π μ.length H π' μ'.length H'->Rp K π' H' μ'->IsDs K π' μ'.length H' vs ds->Q vs H'):tMA K m σ H Q
noncomputable def mE(K:U9)(E:Ends)(π:Nat->Addr)(n:Nat)(H:Hp)(h:Fl)(g:aG)(μ':Hm):Prop:=
 match h with
 |.nx=>∀a c e,Ext π n H a μ'.length e->Rp K a e μ'->En K a μ'.length e c g->E.nx c e|.bk=>∀a c e,Ext π n H a μ'.length e->Rp K a e μ'->En K a μ'.length e c g->E.bk c e|.ct=>∀a c e,Ext π n H a μ'.length e->Rp K a e μ'->En K a μ'.length e c g->E.ct c e|.rt d=>KC K E.rt π n H d μ'
inductive tMS (K:U9)(m:MS)(E:Ends)(σ:St)(H:Hp):Prop
 |mk (π:Nat->Addr)(ρ:aG)(μ:Hm)(fl:Fl)(ρ':aG)(μ':Hm)(R:Rp K π H μ)(EN:En K π μ.length H σ ρ)(hm:m ρ μ=b0 (fl,ρ',μ'))(k:mE K E π μ.length H fl ρ' μ'):tMS K m E σ H
inductive spI0 (K:U9)(f:MF)(vs:gw)(H:Hp)(Q:VK):Prop
 |mk (π:Nat->Addr)(ds:List D)(μ:Hm)(d:D)(μ':Hm)(R:Rp K π H μ)(i:IsDs K π μ.length H vs ds)(hm:f ds μ=b0 (d,μ'))(k:KC K Q π μ.length H d μ'):spI0 K f vs H Q
noncomputable def iE(K:U9)(k:Nat)(f:MF):Sp:=λvs H Q _=>vs.length=k/\spI0 K f vs H Q
section
variable{X:Cx}{e a b c:Expr}{t:TE}{m ma mb mc:ME}{pos:W9}
theorem cZ(h:PE X e t)(hw:∀σ H Q,tM X.K m σ H Q->t σ H Q):PE X e (tM X.K m):=λa5N s σ H Q I q=>h a5N s σ H Q I (hw σ H Q q)
theorem sH{t:TT}{m:MT}(h:PT X e t)(hw:∀σ H Q,tMT X.K m σ H Q->t σ H Q):PT X e (tMT X.K m):=λa5N s σ H Q I q=>h a5N s σ H Q I (hw σ H Q q)
theorem BW{t:TT}{m:MT}(h:PW X e t)(hw:∀σ H Q,tMT X.K m σ H Q->t σ H Q):PW X e (tMT X.K m):=λd a5N s σ H Q I q=>h d a5N s σ H Q I (hw σ H Q q)
theorem BX{es:List Expr}{t:TA}{m:MA}(h:PA X es t)(hw:∀σ H Q,tMA X.K m σ H Q->t σ H Q):PA X es (tMA X.K m):=λp a5N s σ H Q I q=>h p a5N s σ H Q I (hw σ H Q q)
theorem iF{st:Stmt}{t:TS}{m:MS}(h:PS X st t)(hw:∀E σ H,tMS X.K m E σ H->t E σ H):PS X st (tMS X.K m):=λa5N s σ H E I q=>h a5N s σ H E I (hw E σ H q)
theorem BY{st:List Stmt}{t:TS}{m:MS}(h:PSs X st t)(hw:∀E σ H,tMS X.K m E σ H->t E σ H):PSs X st (tMS X.K m):=λa5N s σ H E I q=>h a5N s σ H E I (hw E σ H q)
noncomputable def aA(i:Nat):ME:=λρ g=>match ρ[i]? with|some (b0 d)=>b0 (d,g)|_=>b3
noncomputable def mC(d:D):ME:=λ_ g=>b0 (d,g)
theorem JA{i:Nat}{ρ:aG}{g μ':Hm}{d:D}(h:aA i ρ g=b0 (d,μ')):ρ[i]?=b0 (b0 d)/\μ'=g:=by
 unfold aA at h;split at h
 .rename_i j e;cases h;exact⟨e,rfl⟩
 .cases h
theorem JB{x:Str}(i:Nat)(h:PE X (.Name x pos) (vM i)):PE X (.Name x pos) (tM X.K (aA i)):=cZ h (by
 rintro s H Q ⟨p,r,q,d,o,R,E,n,k⟩;obtain⟨g,rfl⟩:=JA n;obtain⟨v,j,l⟩:=E.get i d g;exact⟨v,j,k p v H .refl R l⟩)
theorem nQ{v:V}{d:D}(h:PE X e (tC v))(hd:∀π n H,IsD X.K π n H v d):PE X e (tM X.K (mC d)):=cZ h (by
 rintro p H Q ⟨π,o,l,j,i,R,E,g,k⟩;cases g;exact k π v H .refl R (hd _ _ _))
theorem JC{i:Int}{j:Nat}:PE X (.Constant (.int i) j pos) (tM X.K (mC (.int i))):=nQ G0 λ_ _ _=>.int i
theorem JD{i:Bool}{j:Nat}:PE X (.Constant (.bool i) j pos) (tM X.K (mC (.bl i))):=nQ G1 λ_ _ _=>.bl i
theorem JE{i:Str}{j:Nat}:PE X (.Constant (.str i) j pos) (tM X.K (mC (.str i))):=nQ G3 λ_ _ _=>.str i
theorem JF{j:Nat}:PE X (.Constant .none j pos) (tM X.K (mC .non)):=nQ G2 λ_ _ _=>.non
noncomputable def aC(f:D->D->Hm->jk)(a b:ME):ME:=λρ d=>(a ρ d).bind λp=>(b ρ p.2).bind λq=>f p.1 q.1 q.2
noncomputable def cS(K:U9)(f:D->D->Hm->jk)(r:R2):Prop:=
 ∀i H g x y d h j k Q,Rp K i H g->IsD K i g.length H j x->IsD K i g.length H k y->f x y g=b0 (d,h)->KC K Q i g.length H d h->r j k H Q
theorem pU{f:D->D->Hm->jk}{r:R2}{K:U9}(z:cS K f r):∀σ H Q,tM K (aC f ma mb) σ H Q->pP r (tM K ma) (tM K mb) σ H Q:=by rintro σ H Q ⟨M,q,L,d,j,R,E,g,k⟩;obtain⟨⟨x,h⟩,v,g⟩:=U7.mp g;obtain⟨⟨y,i⟩,w,g⟩:=U7.mp g;exact⟨M,q,L,x,h,R,E,v,λl G N o u A=>⟨l,q,h,y,i,u,E.mono o,w,λn I s p R2 B=>z n s i x y d j G I Q R2 (A.mono p) B g (k.after (o.trans p))⟩⟩
theorem JG{op:a2k}{r:R2}{f:D->D->Hm->jk}(i:OpR X (YS op) r)(h:cS X.K f r)(d:PE X a (tM X.K ma))(g:PE X b (tM X.K mb)):PE X (.BinOp a op b pos) (tM X.K (aC f ma mb)):=
 cZ (HX i d g) (pU h)
theorem eV{op:Zg}{r:R2}{f:D->D->Hm->jk}(j:OpR X (WB op) r)(h:cS X.K f r)(d:PE X a (tM X.K ma))(g:PE X b (tM X.K mb))(i:Yv op b=b5):PE X (.Compare a [op] [b] pos) (tM X.K (aC f ma mb)):=
 cZ (Ic j d g i) (pU h)
noncomputable def aO(m:ME):MT:=λρ d=>(m ρ d).bind λp=>match p.1 with|.bl b=>b0 (b,p.2)|_=>b3
theorem BZ{K:U9}:∀σ H Q,tMT K (aO m) σ H Q->tM K m σ H λx g=>∃k,x=.bl k/\Q k g:=by
 rintro σ H Q ⟨r,s,o,b,p,R,E,d,k⟩;obtain⟨⟨x,q⟩,l,d⟩:=U7.mp d;cases x with
 |bl c=>cases d;refine⟨r,s,o,_,_,R,E,l,λh v g j i n=>?_⟩;cases n;exact⟨_,rfl,k h g j i⟩|_=>cases d
theorem eW{op:Zg}{r:R2}{f:D->D->Hm->jk}(l:OpR X (WB op) r)(j:cS X.K f r)(g:PE X a (tM X.K ma))(i:PE X b (tM X.K mb))(k:Yv op b=b5):PT X (.Compare a [op] [b] pos) (tMT X.K (aO (aC f ma mb))):=
 sH (Ie l g i k) λd H Q h=>pU j d H _ (BZ d H Q h)
end
section
variable{X:Cx}{e a b c:Expr}{m ma mb mc:ME}{pos:W9}{mt mu:MT}{rest:List Expr}
noncomputable def fG(a b:MT):MT:=λρ d=>(a ρ d).bind λp=>match p.1 with|true=>b ρ p.2|false=>b0 (b5,p.2)
noncomputable def i8(a b:MT):MT:=λρ d=>(a ρ d).bind λp=>match p.1 with|true=>b0 (dI,p.2)|false=>b ρ p.2
noncomputable def f7(a:MT):MT:=λρ d=>(a ρ d).map λp=>(!p.1,p.2)
theorem JI(d:PT X a (tMT X.K mt)):PW X (.BoolOp .And [a] pos) (tMT X.K mt):=G9 d
theorem JJ(d:PT X a (tMT X.K mt)):PW X (.BoolOp .Or [a] pos) (tMT X.K mt):=Ha d
theorem JK(v:PT X a (tMT X.K mt))(w:PW X (.BoolOp .And (b::rest) pos) (tMT X.K mu)):PW X (.BoolOp .And (a::b::rest) pos) (tMT X.K (fG mt mu)):=BW (Hb v w) (by
 rintro A H Q ⟨z,p,y,d,l,R,E,i,k⟩;obtain⟨⟨x,g⟩,u,i⟩:=U7.mp i;refine⟨z,p,y,x,g,R,E,u,λh q j o=>?_⟩;cases x with
 |true=>refine kW ?_;exact⟨h,p,g,d,l,o,E.mono j,i,λn r s R2=>k n r (j.trans s) R2⟩|false=>
  refine kU ?_;cases i;exact k h q j o)
theorem JL(v:PT X a (tMT X.K mt))(w:PW X (.BoolOp .Or (b::rest) pos) (tMT X.K mu)):PW X (.BoolOp .Or (a::b::rest) pos) (tMT X.K (i8 mt mu)):=BW (Hc v w) (by
 rintro A H Q ⟨z,p,y,d,l,R,E,i,k⟩;obtain⟨⟨x,g⟩,u,i⟩:=U7.mp i;refine⟨z,p,y,x,g,R,E,u,λh q j o=>?_⟩;cases x with
 |true=>refine kW ?_;cases i;exact k h q j o|false=>
  refine kU ?_;exact⟨h,p,g,d,l,o,E.mono j,i,λn r s R2=>k n r (j.trans s) R2⟩)
theorem JM(p:PT X a (tMT X.K mt)):PT X (.UnaryOp .Not a pos) (tMT X.K (f7 mt)):=sH (Hd p) (by
 rintro v H Q ⟨s,u,q,d,r,R,E,g,k⟩;obtain⟨⟨x,h⟩,o,g⟩:=Vd.mp g;cases g;exact⟨s,u,q,x,h,R,E,o,λi j n l=>k i j n l⟩)
noncomputable def c8(a b:ME):ME:=λρ d=>(a ρ d).bind λp=>match p.1 with|.bl dI=>b ρ p.2|.bl b5=>b0 (.bl b5,p.2)|_=>b3
noncomputable def wO(a b:ME):ME:=λρ d=>(a ρ d).bind λp=>match p.1 with|.bl dI=>b0 (.bl dI,p.2)|.bl b5=>b ρ p.2|_=>b3
noncomputable def nR(a:ME):ME:=λρ d=>(a ρ d).bind λp=>match p.1 with|.bl b=>b0 (.bl (!b),p.2)|_=>b3
theorem JN{op:BoolOp}(h:PE X a (tM X.K m)):PE X (.BoolOp op [a] pos) (tM X.K m):=Hh h
theorem JO(r:PE X a (tM X.K ma))(s:PE X (.BoolOp .And (b::rest) pos) (tM X.K mb)):PE X (.BoolOp .And (a::b::rest) pos) (tM X.K (c8 ma mb)):=cZ (Hi r s) (by
 rintro z H Q ⟨w,o,v,d,l,R,E,g,k⟩;obtain⟨⟨x,h⟩,q,g⟩:=U7.mp g;cases x with
 |bl c=>
  refine⟨w,o,v,.bl c,h,R,E,q,λi y p j n u=>?_⟩;cases u;refine⟨c,rfl,?_⟩;cases c with
  |true=>refine kW ?_;exact⟨i,o,h,d,l,n,E.mono j,g,k.after j⟩|false=>refine kU ?_;cases g;exact k i _ p j n (.bl b5)
 |_=>cases g)
theorem JP(r:PE X a (tM X.K ma))(s:PE X (.BoolOp .Or (b::rest) pos) (tM X.K mb)):PE X (.BoolOp .Or (a::b::rest) pos) (tM X.K (wO ma mb)):=cZ (Hj r s) (by
 rintro z H Q ⟨w,o,v,d,l,R,E,g,k⟩;obtain⟨⟨x,h⟩,q,g⟩:=U7.mp g;cases x with
 |bl c=>
  refine⟨w,o,v,.bl c,h,R,E,q,λi y p j n u=>?_⟩;cases u;refine⟨c,rfl,?_⟩;cases c with
  |true=>refine kW ?_;cases g;exact k i _ p j n (.bl dI)|false=>refine kU ?_;exact⟨i,o,h,d,l,n,E.mono j,g,k.after j⟩
 |_=>cases g)
theorem JQ(o:PE X a (tM X.K ma)):PE X (.UnaryOp .Not a pos) (tM X.K (nR ma)):=cZ (Hk o) (by
 rintro y H Q ⟨u,v,q,d,r,R,E,g,k⟩;obtain⟨⟨x,s⟩,n,g⟩:=U7.mp g;cases x with
 |bl c=>cases g;refine⟨u,v,q,_,_,R,E,n,λh w i l j p=>?_⟩;cases p;exact⟨_,rfl,k h _ i l j (.bl _)⟩
 |_=>cases g)
noncomputable def i9(t:MT)(a b:ME):ME:=λρ d=>(t ρ d).bind λp=>match p.1 with|true=>a ρ p.2|false=>b ρ p.2
theorem JR(hc:PT X c (tMT X.K mt))(q:PE X a (tM X.K ma))(r:PE X b (tM X.K mb)):PE X (.IfExp c a b pos) (tM X.K (i9 mt ma mb)):=cZ (Hn hc q r) (by
 rintro w H Q ⟨u,n,s,d,h,R,E,l,k⟩;obtain⟨⟨x,g⟩,p,l⟩:=U7.mp l;refine⟨u,n,s,x,g,R,E,p,λi v j o=>?_⟩;cases x with
 |true=>refine kW ?_;exact⟨i,n,g,d,h,o,E.mono j,l,k.after j⟩|false=>
  refine kU ?_;exact⟨i,n,g,d,h,o,E.mono j,l,k.after j⟩)
noncomputable def aD:MA:=λ_ d=>b0 ([],d)
noncomputable def aB(a:ME)(r:MA):MA:=λρ d=>(a ρ d).bind λp=>(r ρ p.2).bind λq=>b0 (p.1::q.1,q.2)
variable{es:List Expr}{ms:MA}
theorem JS:PA X [] (tMA X.K aD):=BX Ip (by
 rintro n H Q ⟨i,l,j,d,h,R,E,g,k⟩;cases g;exact k i [] H .refl R .nil)
theorem JT(v:PE X e (tM X.K m))(w:PA X es (tMA X.K ms))(y:V7 (e::es) X.env=(b5,eval e X.env)::V7 es X.env:=by rfl):PA X (e::es) (tMA X.K (aB m ms)):=BX (Iq v w y) (by
 rintro O H Q ⟨K,p,G,d,I,R,E,g,k⟩;obtain⟨⟨x,h⟩,s,g⟩:=U7.mp g;obtain⟨⟨B,i⟩,u,g⟩:=U7.mp g;cases g;exact⟨K,p,G,x,h,R,E,s,λj M L n r z=>⟨j,p,h,B,i,r,E.mono n,u,λl N q o R2 A=>k l _ q (n.trans o) R2 (.cons (z.mono o) A)⟩⟩)
noncomputable def aU(ms:MA):ME:=λρ d=>(ms ρ d).bind λp=>if p.1.length<=Vp then b0 (.tup p.1,p.2)else b3
noncomputable def bU(ms:MA):ME:=λρ d=>(ms ρ d).bind λp=>if p.1.length<=Vp then b0 (.loc p.2.length,p.2++[.lst p.1])else b3
theorem JU{v:Nat}(h:PA X es (tMA X.K ms)):PE X (.Tuple es v pos) (tM X.K (aU ms)):=cZ (Iw h) (by
 rintro I H Q ⟨z,A,w,d,x,R,E,g,k⟩;obtain⟨⟨G,y⟩,q,g⟩:=U7.mp g;split at g
 .rename_i r;cases g;refine⟨z,A,w,_,_,R,E,q,λi u B o n l=>⟨by rw[l.length];exact r,λp s=>?_⟩⟩;obtain⟨j,R2⟩:=n.fresh (o:=.tup u) s;exact k i _ _ (o.trans j) R2 (.tup (.of cH) (l.mono j))
 .cases g)
theorem JV(h:PA X es (tMA X.K ms)):PE X (.List es pos) (tM X.K (bU ms)):=cZ (Iy h) (by
 rintro K H Q ⟨G,I,A,d,B,R,E,i,k⟩;obtain⟨⟨l,g⟩,w,i⟩:=U7.mp i;split at i
 .rename_i x;cases i;refine⟨G,I,A,l,g,R,E,w,λj n o u s r=>⟨by rw[r.length];exact x,λp y=>?_⟩⟩;obtain⟨v,R2,q⟩:=s.alloc (c:=.lst l) (o:=.lst n) y r;have z:IsD X.K (gR j g.length p) (g++[C.lst l]).length (aK o p (.lst n)) (.ref p) (.loc g.length):=by have:=IsD.loc (K:=X.K) (π:=gR j g.length p) (n:=(g++[C.lst l]).length) (H:=aK o p (.lst n)) (a:=g.length) (by simp);rw[q]at this;exact this
  exact k _ _ _ (u.trans v) R2 z
 .cases i)
noncomputable def aF(f:MF)(ms:MA):ME:=λρ d=>(ms ρ d).bind λp=>f p.1 p.2
theorem JW{K:U9}{f:MF}{n:Nat}{E:XK}(u:∀ρ h ds μ',ms ρ h=b0 (ds,μ')->ds.length=n):∀σ H Q,tM K (aF f ms) σ H Q->wB (iE K n f) [] E (tMA K ms) σ H Q:=by rintro σ H Q ⟨w,ρ,h,d,μ',R,E,i,k⟩;obtain⟨⟨j,g⟩,o,i⟩:=U7.mp i;refine⟨w,ρ,h,j,g,R,E,o,λl v q s r p=>?_⟩;show iE K n f (v++[]) q Q _;rw[WQ];exact⟨by rw[p.length];exact u ρ h j g o,l,j,g,d,μ',r,p,i,k.after s⟩
theorem JX:∀ρ d ds μ',aD ρ d=b0 (ds,μ')->ds.length=0:=by intro ρ d ds μ' h;cases h;rfl
theorem JY{n:Nat}(h:∀ρ g ds μ',ms ρ g=b0 (ds,μ')->ds.length=n):∀ρ g ds μ',aB m ms ρ g=b0 (ds,μ')->ds.length=n+1:=by intro ρ g ds μ' d;obtain⟨⟨x,i⟩,o,d⟩:=U7.mp d;obtain⟨⟨k,l⟩,j,d⟩:=U7.mp d;cases d;rw[VD,h ρ i k _ j]
theorem JZ{k:Nat}{f:Addr}{i:X5}{ps:List Str}{j:MF}{x:Str}{p:W9}{n:Nat}(F:FnOk X.prog X.w X.K X.mg X.base fF k f i ps (iE X.K n j))(w:Room k X.A)(r:Gl X x)(u:X.mg x=b0 (.ref f))
  (s:Xp X.K (.ref f)=dI)(o:Binds X.K i ps [])(l:PA X (e::es) (tMA X.K ms))(v:∀z y ds h,ms z y=b0 (ds,h)->ds.length=n)(d:(x==("__debug__":Str))=false:=by decide)
  (q:V7 (e::es) X.env=(b5,eval e X.env)::V7 es X.env:=by rfl)(g:(Yq pos (V7 es X.env)).any (·.1)=false:=by rfl) :
  PE X (.Call (.Name x p) (e::es) [] pos) (tM X.K (aF j ms)):=
 cZ (Iz F w r u s o .nil (E:=E0) BP l d q g) (JW v)
noncomputable def dS(K:U9)(f:MF)(r:gw->Hp->VK->Prop):Prop:=
 ∀i H h k d g j Q,Rp K i H h->IsDs K i h.length H j k->f k h=b0 (d,g)->KC K Q i h.length H d g->r j H Q
theorem B0{K:U9}{f:MF}{r:gw->Hp->VK->Prop}(s:dS K f r):∀σ H Q,tM K (aF f ms) σ H Q->wC r (tMA K ms) σ H Q:=by rintro σ H Q ⟨x,y,w,d,i,R,E,h,k⟩;obtain⟨⟨l,g⟩,q,h⟩:=U7.mp h;exact⟨x,y,w,l,g,R,E,q,λj v n p o u=>s j n g l d i v Q o u h (k.after p)⟩
theorem J0{f:MF}{r:gw->Hp->VK->Prop}{id:String}{x:Str}{p:W9}(hc:CallR X (.builtin id) r)(j:dS X.K f r)(k:Gl X x)(l:X.mg x=b3)(o:Xb x=b0 (.builtin id))(h:PA X (e::es) (tMA X.K ms))
  (n:x ≠ "__name__":=by decide) (d:(x==("__debug__":Str))=false:=by decide)
  (i:V7 (e::es) X.env=(b5,eval e X.env)::V7 es X.env:=by rfl)(g:(Yq pos (V7 es X.env)).any (·.1)=false:=by rfl):PE X (.Call (.Name x p) (e::es) [] pos) (tM X.K (aF f ms)):=
 cZ (ID hc k l o h n d i g) (B0 j)
theorem J1{f:MF}{r:gw->Hp->VK->Prop}{T:String}{x:Str}{p:W9}(hc:CallR X (.type T) r)(j:dS X.K f r)(k:Gl X x)(l:X.mg x=b3)(o:Xb x=b0 (.type T))(h:PA X (e::es) (tMA X.K ms))
  (n:x ≠ "__name__":=by decide) (d:(x==("__debug__":Str))=false:=by decide)
  (i:V7 (e::es) X.env=(b5,eval e X.env)::V7 es X.env:=by rfl)(g:(Yq pos (V7 es X.env)).any (·.1)=false:=by rfl):PE X (.Call (.Name x p) (e::es) [] pos) (tM X.K (aF f ms)):=
 cZ (IE hc k l o h n d i g) (B0 j)
noncomputable def bJ(d:Hm):D->Option (List D)
 |.tup xs=>b0 xs|.rol xs=>b0 xs|.loc a=>match d[a]? with|some (.lst xs)=>b0 xs|_=>b3
 |_=>b3
noncomputable def fN:D->D->Hm->jk
 |.str z,.int i,μ=>if z.length<=Vp then(atI z.cps.toList i).map λc=>(.str ⟨#[c]⟩,μ)else b3|x,.int i,μ=>(bJ μ x).bind λg=>(atI g i).map λd=>(d,μ)|_,_,_=>b3
theorem J2{K:U9}:cS K fN (BF K):=by
 intro p H O x y d G M N Q R r B g k;cases B with
 |int i=>
  cases r with
  |str z=>
   simp only[fN]at g;split at g
   .rename_i w;obtain⟨c,j,l⟩:=Vd.mp g;cases l;exact .inr (.inr ⟨z,i,c,rfl,rfl,w,j,k p _ H .refl R (.str _)⟩)
   .cases g
  |tup h t=>simp only[fN,bJ,VT]at g;obtain⟨q,j,l⟩:=Vd.mp g;cases l;obtain⟨v,n,o⟩:=t.atI j;exact .inr (.inl ⟨_,_,i,v,rfl,rfl,h,n,k p _ H .refl R o⟩)|rol h t=>simp only[fN,bJ,VT]at g;obtain⟨q,j,l⟩:=Vd.mp g;cases l;obtain⟨v,n,o⟩:=t.atI j;exact .inl ⟨_,_,i,v,rfl,rfl,h.sq,n,k p _ H .refl R o⟩|@loc a I=>
   simp only[fN,bJ]at g;split at g
   .rename_i E A;simp only[VT]at g;obtain⟨q,j,l⟩:=Vd.mp g;cases l;obtain⟨L,s,u⟩:=R.lst a E A;obtain⟨v,n,o⟩:=u.atI j;exact .inl ⟨_,_,i,v,rfl,rfl,.of s,n,k p _ H .refl R o⟩
   .cases g
  |_=>simp[fN,bJ]at g
 |_=>cases r<;>simp[fN]at g
theorem J3(d:PE X a (tM X.K ma))(g:PE X b (tM X.K mb))(h:wH b):PE X (.Subscript a b pos) (tM X.K (aC fN ma mb)):=cZ (IY Ja d g h) (pU J2)
noncomputable def fP(xs:List D)(lo d:Option Int):List D:=(xs.drop (HT.sIx xs.length 0 lo)).take (HT.sIx xs.length xs.length d-HT.sIx xs.length 0 lo)
noncomputable abbrev MO:=aG->Hm->Option (Option Int×Hm)
noncomputable def gT:MO:=λ_ d=>b0 (b3,d)
noncomputable def f9(m:ME):MO:=λρ d=>(m ρ d).bind λp=>match p.1 with|.int i=>b0 (b0 i,p.2)|_=>b3
inductive tMO (K:U9)(m:MO)(σ:St)(H:Hp)(Q:Option Int->Hp->Prop):Prop
 |mk (π:Nat->Addr)(ρ:aG)(μ:Hm)(o:Option Int)(μ':Hm)(R:Rp K π H μ)(E:En K π μ.length H σ ρ)(hm:m ρ μ=b0 (o,μ'))(k:∀π' H',Ext π μ.length H π' μ'.length H'->Rp K π' H' μ'->Q o H'):tMO K m σ H Q
theorem J4:PO X b3 (tMO X.K gT):=λa5N s σ H Q I q=>IS a5N s σ H Q I (by
 obtain⟨h,j,i,o,g,R,E,d,k⟩:=q;cases d;exact k h H .refl R)
theorem J5(h:PE X e (tM X.K m)):PO X (b0 e) (tMO X.K (f9 m)):=λa5N s σ H Q I q=>IT h a5N s σ H Q I (by
 obtain⟨y,z,u,o,v,R,E,d,k⟩:=q;obtain⟨⟨x,w⟩,p,d⟩:=U7.mp d;cases x with
 |int i=>cases d;refine⟨y,z,u,_,_,R,E,p,λg A j n l r=>?_⟩;cases r;exact⟨_,rfl,k g j n l⟩
 |_=>cases d)
noncomputable abbrev B1(K:U9):V->Option Int->Option Int->Hp->VK->Prop:=wJ K
theorem J6{X:Cx}:wF X (B1 X.K):=Jf
theorem B2{K:U9}{x:V}{lo d:Option Int}{H:Hp}{Q:VK}(h:wJ K x lo d H Q):B1 K x lo d H Q:=h
noncomputable def jA(a:ME)(lo d:MO):ME:=λρ h=>(a ρ h).bind λp=>(lo ρ p.2).bind λq=>(d ρ q.2).bind λr=>
 match p.1 with
 |.tup _=>b3|x=>(bJ r.2 x).bind λg=>b0 (.loc r.2.length,r.2++[.lst (fP g q.1 r.1)])
theorem B3{K:U9}{π:Nat->Addr}{n:Nat}{H:Hp}{vs:gw}{ds:List D}(h:IsDs K π n H vs ds)(lo d:Option Int):IsDs K π n H (kT vs lo d) (fP ds lo d):=by unfold kT fP;rw[h.length];exact(h.drop _).take _
theorem mF{K:U9}{π:Nat->Addr}{d:Hm}{p:Addr}{c:C}{H:Hp}:IsD K (gR π d.length p) (d++[c]).length H (.ref p) (.loc d.length):=by have:=IsD.loc (K:=K) (π:=gR π d.length p) (n:=(d++[c]).length) (H:=H) (a:=d.length) (by simp);rw[show gR π d.length p d.length=p from if_pos rfl]at this;exact this
theorem J7{lo K:Option Expr}{M L:MO}{p2:W9}(ha:PE X a (tM X.K ma))(hl:PO X lo (tMO X.K M))(hu:PO X K (tMO X.K L)):PE X (.Subscript a (.Slice lo K b3 p2) pos) (tM X.K (jA ma M L)):=cZ (IV J6 ha hl hu) (by
 rintro σ H Q ⟨π,I,μ,d,μ',R,E,g,k⟩;obtain⟨⟨x,j⟩,T,g⟩:=U7.mp g;obtain⟨⟨l,n⟩,U,g⟩:=U7.mp g;obtain⟨⟨u,A⟩,Y,g⟩:=U7.mp g;refine⟨π,I,μ,x,j,R,E,T,λB v1 H1 o O i1=>⟨B,I,j,l,n,O,E.mono o,U,λG H2 r R2=>⟨G,I,n,u,A,R2,(E.mono o).mono r,Y,λπ3 H3 w s=>?_⟩⟩⟩;have i3:=(i1.mono r).mono w;cases i3 with
 |rol h t=>simp only[bJ,VT]at g;cases g;refine B2 ⟨_,_,rfl,h.sq,λp z=>?_⟩;obtain⟨y,v,q⟩:=s.alloc (c:=.lst (fP _ l u)) (o:=.lst (kT _ l u)) z (B3 t l u);exact k _ _ _ (((o.trans r).trans w).trans y) v mF|@loc i hi'=>
  simp only[bJ]at g;split at g
  .rename_i N hx;simp only[VT]at g;cases g;obtain⟨vs,Z,h6⟩:=s.lst i N hx;refine B2 ⟨_,_,rfl,.of Z,λp z=>?_⟩;obtain⟨y,v,q⟩:=s.alloc (c:=.lst (fP N l u)) (o:=.lst (kT vs l u)) z (B3 h6 l u);exact k _ _ _ (((o.trans r).trans w).trans y) v mF
  .cases g
 |tup h t=>simp at g
 |_=>simp[bJ]at g)
end
section
variable{X:Cx}{e a b c:Expr}{m:ME}{pos:W9}{mt:MT}{st:Stmt}{rest body orelse:List Stmt}{ms mr mu:MS}
noncomputable def bC:MS:=λρ d=>b0 (.nx,ρ,d)
noncomputable def aH(a b:MS):MS:=λρ d=>(a ρ d).bind λp=>match p.1 with|.nx=>b p.2.1 p.2.2|_=>b0 p
noncomputable def aN(m:ME):MS:=λρ d=>(m ρ d).map λp=>(.rt p.1,ρ,p.2)
noncomputable def c9(m:ME):MS:=λρ d=>(m ρ d).map λp=>(.nx,ρ,p.2)
noncomputable def bA(t:MT)(a b:MS):MS:=λρ d=>(t ρ d).bind λp=>match p.1 with|true=>a ρ p.2|false=>b ρ p.2
noncomputable def aM(i:Nat)(m:ME):MS:=λρ d=>(m ρ d).map λp=>(.nx,ρ.set i (b0 p.1),p.2)
theorem J8:PSs X [] (tMS X.K bC):=BY Hr (by
 rintro E l H ⟨i,p,o,n,j,h,R,d,g,k⟩;cases g;exact k i l H .refl R d)
theorem J9(h1:PS X st (tMS X.K ms))(A:PSs X rest (tMS X.K mr)):PSs X (st::rest) (tMS X.K (aH ms mr)):=BY (Hs h1 A) (by
 rintro E M H ⟨G,I,B,w,u,r,R,y,i,k⟩;obtain⟨⟨v,p,o⟩,h1,i⟩:=U7.mp i;refine⟨G,I,B,v,p,o,R,y,h1,?_⟩;cases v with
 |nx=>
  intro s K L q z x;refine⟨s,p,o,w,u,r,z,x,i,?_⟩;cases w with
  |nx=>exact λg h l n R2 j=>k g h l (q.trans n) R2 j|bk=>exact λg h l n R2 j=>k g h l (q.trans n) R2 j|ct=>exact λg h l n R2 j=>k g h l (q.trans n) R2 j|rt d=>exact KC.after k q
 |rt d=>cases i;exact k|bk=>cases i;exact k
 |ct=>cases i;exact k)
theorem Ka(h1:PS X st (tMS X.K ms)):PSs X [st] (tMS X.K ms):=Ht h1
theorem Kb:PS X (.Pass pos) (tMS X.K bC):=iF Hu (by
 rintro E l H ⟨i,p,o,n,j,h,R,d,g,k⟩;cases g;exact k i l H .refl R d)
theorem Kc(j:PE X e (tM X.K m)):PS X (.Return (b0 e) pos) (tMS X.K (aN m)):=iF (Hy j) (by
 rintro E s H ⟨o,p,l,r,q,n,R,h,d,k⟩;obtain⟨⟨x,g⟩,i,d⟩:=Vd.mp d;cases d;exact⟨o,p,l,x,g,R,h,i,k⟩)
theorem Kd(p:PE X e (tM X.K m))(q:Zj e b3 pos.line X.env=pure false:=by rfl):PS X (.Expr e pos) (tMS X.K (c9 m)):=iF (Hw p q) (by
 rintro E y H ⟨u,v,r,z,w,s,R,i,d,k⟩;obtain⟨⟨x,g⟩,o,d⟩:=Vd.mp d;cases d;exact⟨u,v,r,x,g,R,i,o,λh B l j n A=>k h y l j n (i.mono j)⟩)
theorem Ke(hc:PT X c (tMT X.K mt))(G:PSs X body (tMS X.K ms))(I:PSs X orelse (tMS X.K mu)):PS X (.If c body orelse pos) (tMS X.K (bA mt ms mu)):=iF (HC hc G I) (by
 rintro E M H ⟨L,w,K,s,n,j,R,v,u,k⟩;obtain⟨⟨x,i⟩,B,u⟩:=U7.mp u;refine⟨L,w,K,x,i,R,v,B,λl A o y=>?_⟩;have z:mE X.K E l i.length A s n j:=by
  cases s with
  |nx=>exact λg h q r R2 p=>k g h q (o.trans r) R2 p|bk=>exact λg h q r R2 p=>k g h q (o.trans r) R2 p|ct=>exact λg h q r R2 p=>k g h q (o.trans r) R2 p|rt d=>exact KC.after k o
 cases x with
 |true=>refine kW ?_;exact⟨l,w,i,s,n,j,y,v.mono o,u,z⟩|false=>
  refine kU ?_;exact⟨l,w,i,s,n,j,y,v.mono o,u,z⟩)
theorem B4{i:Nat}{x:Str}{d:W9}(r:X.N.Nodup)(v:X.N[i]?=b0 x)(y:Loc X.env.scope x)(s:PE X e (tM X.K m))(w:Zj e (b0 (.Name x d)) pos.line X.env=pure false:=by rfl)
  (u:X.fn x=dI\/X.env.scope.names.lookup x=b0 .local:=by first|exact .inl rfl|exact .inr rfl|assumption):PS X (.Assign [.Name x d] e pos) (tMS X.K (aM i m)):=iF (HH r v y s w u) (by
 rintro E N H ⟨G,I,A,L,K,B,R,l,g,k⟩;obtain⟨⟨x,h⟩,q,g⟩:=Vd.mp g;cases g;exact⟨G,I,A,x,h,R,l,q,λj M o n p z=>k j _ o n p ((l.mono n).set z i)⟩)
end
noncomputable def sI(n:Nat)(ds:List D):aG:=ds.map b0++XI (n-ds.length) b3
noncomputable def wQ(n:Nat)(m:MS):MF:=λds a=>(m (sI n ds) a).bind λp=>match p.1 with|.rt d=>b0 (d,p.2.2)|.nx=>b0 (.non,p.2.2)|_=>b3
theorem Kf{K:U9}{π:Nat->Addr}{n:Nat}{H:Hp}{N:List Str}{vs:gw}{ds:List D}(h:IsDs K π n H vs ds)(o:vs.length<=N.length):En K π n H (L2.start N vs) (sI N.length ds):=by
 have a:=h.length;refine⟨by simp[L2.start,sI,a],λi d e=>?_⟩;unfold sI at e;unfold L2.start;by_cases c:i<ds.length
 .rw[Vy (by simpa using c),Vx]at e;obtain⟨m,g,j⟩:=Vd.mp e;cases j;obtain⟨v,k,l⟩:=h.get g;exact⟨v,by rw[Vy (by rw[U8,a];exact c),Vx,k];rfl,l⟩
 .rw[VB (by simpa using Zz.mp c)]at e;have:=Yc (n:=N.length-ds.length) (a:=(b3:Option D)) (i:=i-(ds.map b0).length);rw[this]at e;split at e<;>simp at e
section
variable{P:VE}{w:VW}{K:U9}{mg:Str->Option Value}{base:WA}
theorem Kg{x a:Str}{st:Stmt}{f:Addr}{p:X5}{N ps:List Str}{k:Nat}{m:MS}(F:Fun K x a st f p)(S:FnScope N ps (cA st))(j:ps.length<=N.length)
  (e:∀(c:Value)(A:VO)(outer:List a0y)(s:Ve)(H:Hp)(E:XK),Room k (A.deeper (a1p a (cA st) s.heap.objs.size f c))->
   PSs (jT fF P w K mg base N a (cA st) f c A outer s H E).nox (eU st) (tMS K m)):FnOk P w K mg base fF (k+1) f p ps (iE K ps.length (wQ N.length m)):=by
 refine F.ok S (λI H Q E h=>h.1) λc A outer s H I Q E B h=>⟨_,e c A outer s H E B,?_⟩;obtain⟨G,O,ds,L,d,M,R,i,g,r⟩:=h;obtain⟨⟨q,o,l⟩,z,g⟩:=U7.mp g;refine⟨O,_,L,q,o,l,R,Kf i (by rw[G];exact j),z,?_⟩;cases q with
 |rt X=>cases g;exact r|nx=>cases g;exact λn T u y v U=>r n .non u y v .non|bk=>cases g|ct=>cases g
end
open SeqAt (EqAt RcAt RcNeAt)
inductive KD where
 |non|bl (b:Bool)|int (i:Int)|str (x:Str)|tup (n:Nat)|lst (n:Nat)
inductive IsK (s:Ve):Value->KD->Prop where
 |non:IsK s .none .non
 |bl (b:Bool):IsK s (.bool b) (.bl b)
 |int (i:Int)(t:a4U):IsK s (.int i t) (.int i)
 |str (x:Str)(t:a4U):IsK s (.str x t) (.str x)
 |tup {l:Addr}{its:gq}(h:s.heap.IsTuple l its.toArray):IsK s (.ref l) (.tup its.length)
 |lst {l:Addr}{its:gq}(h:s.heap.IsList l its.toArray):IsK s (.ref l) (.lst its.length)
noncomputable def sJ(e:Nat->Bool):KD->KD->Bool
 |.non,.non=>dI|.bl a,.bl b=>a==b|.bl a,.int b=>(if a then 1 else 0)==b|.int a,.bl b=>a==(if b then 1 else 0)|.int a,.int b=>a==b|.str a,.str b=>a==b|.tup n,.tup k=>(VS (min n k)).all e&&n==k|.lst n,.lst k=>(VS (min n k)).all e&&n==k|_,_=>b5
noncomputable def sL(A:VO)(s:Ve)(u v:Value)(e:Nat->Bool):Prop:=
 (∀l b c a,u=.ref l->v=.ref b->s.heap.IsTuple l c->s.heap.IsTuple b a->∀j (h1:j<c.size)(d:j<a.size),EqAt A.in1 s c[j] a[j] (e j)) /\
 (∀l b c a,u=.ref l->v=.ref b->s.heap.IsList l c->s.heap.IsList b a->∀j (h1:j<c.size)(d:j<a.size),EqAt A.in1 s c[j] a[j] (e j))
section
variable{A:VO}{s:Ve}{u v:Value}{k k':KD}{e:Nat->Bool}
theorem B5{n k:Nat}(e:Nat->Bool)(h:n=k):((VS (min n k)).all e&&n==k)=(VS n).all e:=by subst h;simp
theorem B6{n k:Nat}(e:Nat->Bool)(h:n≠k):((VS (min n k)).all e&&n==k)=false:=by simp[h]
theorem wR(h:IsK s u k)(h':IsK s v k')(c:A.units<W0)(o:sL A s u v e):RcAt A s u v (sJ e k k'):=by
 cases h with
 |non=>
  cases h' with
  |non=>exact RcAt.none_none|bl b=>exact RcAt.none_bool b|int i t=>exact RcAt.none_int i t|str x t=>exact RcAt.none_str x t|tup h=>exact RcAt.none_tuple h c|lst h=>exact RcAt.none_list h c
 |bl a=>
  cases h' with
  |non=>exact RcAt.bool_none a|bl b=>exact RcAt.bool_bool a b|int i t=>exact RcAt.bool_int a i t|str x t=>exact RcAt.bool_str a x t|tup h=>exact RcAt.bool_tuple a h c|lst h=>exact RcAt.bool_list a h c
 |int a j=>
  cases h' with
  |non=>exact RcAt.int_none a j|bl b=>exact RcAt.int_bool a j b|int i t=>exact RcAt.int_int a j i t|str x t=>exact RcAt.int_str a j x t|tup h=>exact RcAt.int_tuple a j h c|lst h=>exact RcAt.int_list a j h c
 |str a j=>
  cases h' with
  |non=>exact RcAt.str_none a j|bl b=>exact RcAt.str_bool a j b|int i t=>exact RcAt.str_int a j i t|str x t=>exact RcAt.str_str a j x t|tup h=>exact RcAt.str_tuple a j h c|lst h=>exact RcAt.str_list a j h c
 |tup g=>
  cases h' with
  |non=>exact RcAt.tuple_none g c|bl b=>exact RcAt.tuple_bool b g c|int i t=>exact RcAt.tuple_int i t g c|str x t=>exact RcAt.tuple_str x t g c|tup h=>have:=RcAt.tuples (e:=e) g h c (o.1 _ _ _ _ rfl rfl g h);exact this|lst h=>exact RcAt.tuple_list g h c
 |lst g=>
  cases h' with
  |non=>exact RcAt.list_none g c|bl b=>exact RcAt.list_bool b g c|int i t=>exact RcAt.list_int i t g c|str x t=>exact RcAt.list_str x t g c|tup h=>exact RcAt.list_tuple g h c|@lst b d h=>
   rename_i l m;by_cases n:m.length=d.length
   .have:=RcAt.lists (e:=e) g h (by simpa using n) c (o.2 _ _ _ _ rfl rfl g h);show RcAt A s _ _ ((VS (min m.length d.length)).all e&&m.length==d.length);rw[B5 e n];simpa using this
   .have:=RcAt.lists_lengths g h (by simpa using n) c;show RcAt A s _ _ ((VS (min m.length d.length)).all e&&m.length==d.length);rw[B6 e n];exact this
theorem Kh(h:IsK s u k)(h':IsK s v k')(c:A.units<W0)(o:sL A s u v e):RcNeAt A s u v (!sJ e k k'):=by
 cases h with
 |non=>
  cases h' with
  |non=>exact RcNeAt.none_none|bl b=>exact RcNeAt.none_bool b|int i t=>exact RcNeAt.none_int i t|str x t=>exact RcNeAt.none_str x t|tup h=>exact RcNeAt.none_tuple h c|lst h=>exact RcNeAt.none_list h c
 |bl a=>
  cases h' with
  |non=>exact RcNeAt.bool_none a|bl b=>exact RcNeAt.bool_bool a b|int i t=>exact RcNeAt.bool_int a i t|str x t=>exact RcNeAt.bool_str a x t|tup h=>exact RcNeAt.bool_tuple a h c|lst h=>exact RcNeAt.bool_list a h c
 |int a j=>
  cases h' with
  |non=>exact RcNeAt.int_none a j|bl b=>exact RcNeAt.int_bool a j b|int i t=>exact RcNeAt.int_int a j i t|str x t=>exact RcNeAt.int_str a j x t|tup h=>exact RcNeAt.int_tuple a j h c|lst h=>exact RcNeAt.int_list a j h c
 |str a j=>
  cases h' with
  |non=>exact RcNeAt.str_none a j|bl b=>exact RcNeAt.str_bool a j b|int i t=>exact RcNeAt.str_int a j i t|str x t=>exact RcNeAt.str_str a j x t|tup h=>exact RcNeAt.str_tuple a j h c|lst h=>exact RcNeAt.str_list a j h c
 |tup g=>
  cases h' with
  |non=>exact RcNeAt.tuple_none g c|bl b=>exact RcNeAt.tuple_bool b g c|int i t=>exact RcNeAt.tuple_int i t g c|str x t=>exact RcNeAt.tuple_str x t g c|tup h=>have:=RcNeAt.tuples (e:=e) g h c (o.1 _ _ _ _ rfl rfl g h);exact this|lst h=>exact RcNeAt.tuple_list g h c
 |lst g=>
  cases h' with
  |non=>exact RcNeAt.list_none g c|bl b=>exact RcNeAt.list_bool b g c|int i t=>exact RcNeAt.list_int i t g c|str x t=>exact RcNeAt.list_str x t g c|tup h=>exact RcNeAt.list_tuple g h c|@lst b d h=>
   rename_i l m;by_cases n:m.length=d.length
   .have:=RcNeAt.lists (e:=e) g h (by simpa using n) c (o.2 _ _ _ _ rfl rfl g h);show RcNeAt A s _ _ (!((VS (min m.length d.length)).all e&&m.length==d.length));rw[B5 e n];simpa using this
   .have:=RcNeAt.lists_lengths g h (by simpa using n) c;show RcNeAt A s _ _ (!((VS (min m.length d.length)).all e&&m.length==d.length));rw[B6 e n];exact this
theorem Ki(h:IsK s u k)(h':IsK s v k')(c:A.units<W0)(o:sL A s u v e)(n:∀l b,u=.ref l->v=.ref b->l≠b):EqAt A s u v (sJ e k k'):=by
 cases h with
 |non=>
  cases h' with
  |non=>exact EqAt.same _|bl b=>exact EqAt.none_bool b|int i t=>exact EqAt.none_int i t|str x t=>exact EqAt.none_str x t|tup h=>exact EqAt.none_tuple h c|lst h=>exact EqAt.none_list h c
 |bl a=>
  cases h' with
  |non=>exact EqAt.bool_none a|bl b=>exact EqAt.bool_bool a b|int i t=>exact EqAt.bool_int a i t|str x t=>exact EqAt.bool_str a x t|tup h=>exact EqAt.bool_tuple a h c|lst h=>exact EqAt.bool_list a h c
 |int a d=>
  cases h' with
  |non=>exact EqAt.int_none a d|bl b=>exact EqAt.int_bool a d b|int i t=>exact EqAt.int_int a d i t|str x t=>exact EqAt.int_str a d x t|tup h=>exact EqAt.int_tuple a d h c|lst h=>exact EqAt.int_list a d h c
 |str a d=>
  cases h' with
  |non=>exact EqAt.str_none a d|bl b=>exact EqAt.str_bool a d b|int i t=>exact EqAt.str_int a d i t|str x t=>exact EqAt.str_str a d x t|tup h=>exact EqAt.str_tuple a d h c|lst h=>exact EqAt.str_list a d h c
 |@tup l m g=>
  cases h' with
  |non=>exact EqAt.tuple_none g c|bl b=>exact EqAt.tuple_bool b g c|int i t=>exact EqAt.tuple_int i t g c|str x t=>exact EqAt.tuple_str x t g c|@tup b j h=>exact EqAt.of_refs (n l b rfl rfl) (wR (k:=.tup m.length) (k':=.tup j.length) (.tup g) (.tup h) c o)|lst h=>exact EqAt.tuple_list g h c
 |@lst l m g=>
  cases h' with
  |non=>exact EqAt.list_none g c|bl b=>exact EqAt.list_bool b g c|int i t=>exact EqAt.list_int i t g c|str x t=>exact EqAt.list_str x t g c|tup h=>exact EqAt.list_tuple g h c|@lst b j h=>exact EqAt.of_refs (n l b rfl rfl) (wR (k:=.lst m.length) (k':=.lst j.length) (.lst g) (.lst h) c o)
end
inductive KdD where
 |non|bl (b:Bool)|int (i:Int)|str (x:Str)|tup (xs:List D)|lst (xs:List D)
noncomputable def kX(c:Hm):D->Option KdD
 |.non=>b0 .non|.bl b=>b0 (.bl b)|.int i=>b0 (.int i)|.str x=>b0 (.str x)|.tup xs=>b0 (.tup xs)|.rol xs=>b0 (.lst xs)|.loc a=>match c[a]? with|some (.lst xs)=>b0 (.lst xs)|_=>b3
 |.ty _=>b3
noncomputable def jU(f:D->D->Option Bool):List D->List D->Option Bool
 |x::xs,y::ys=>(f x y).bind λb=>(jU f xs ys).map λc=>b&&c|[],[]=>b0 dI|_,_=>b0 b5
noncomputable def sM(f:D->D->Option Bool):KdD->KdD->Option Bool
 |.non,.non=>b0 dI|.bl a,.bl b=>b0 (a==b)|.bl a,.int b=>b0 ((if a then 1 else 0)==b)|.int a,.bl b=>b0 (a==(if b then 1 else 0))|.int a,.int b=>b0 (a==b)|.str a,.str b=>b0 (a==b)|.tup xs,.tup ys=>jU f xs ys|.lst xs,.lst ys=>jU f xs ys|_,_=>b0 b5
noncomputable abbrev wU(f:D->D->Option Bool):D->D->Option Bool:=f
theorem B7{f:D->D->Option Bool}{x y:D}{b:Bool}(h:wU f x y=b0 b):f x y=b0 b\/(b=dI/\∃a,x=.loc a/\y=.loc a):=.inl h
noncomputable def dU:Nat->Hm->D->D->Option Bool
 |0,_,_,_=>b3|n+1,μ,x,y=>(kX μ x).bind λa=>(kX μ y).bind λb=>sM (wU (dU n μ)) a b
noncomputable abbrev nT(n:Nat)(a:Hm):D->D->Option Bool:=wU (dU n a)
noncomputable def wV:KdD->KD
 |.non=>.non|.bl b=>.bl b|.int i=>.int i|.str x=>.str x|.tup xs=>.tup xs.length|.lst xs=>.lst xs.length
noncomputable def nU:KdD->List D
 |.tup xs=>xs|.lst xs=>xs|_=>[]
section
variable{X:Cx}{a5N:jw}{σ:St}{H:Hp}{s:Ve}{π:Nat->Addr}{μ:Hm}
inductive KdAt (X:Cx)(π:Nat->Addr)(n:Nat)(H:Hp)(s:Ve)(u:Value):KdD->Prop where
 |non (h:u=.none):KdAt X π n H s u .non
 |bl (b:Bool)(h:u=.bool b):KdAt X π n H s u (.bl b)
 |int (i:Int)(t:a4U)(h:u=.int i t):KdAt X π n H s u (.int i)
 |str (x:Str)(t:a4U)(h:u=.str x t):KdAt X π n H s u (.str x)
 |tup {xs:List D}(p:Addr)(vs:gw)(its:gq)(h:u=.ref p)(q:SqT X.K H p vs)(i:IsDs X.K π n H vs xs)(r:Vals vs its)(t:s.heap.IsTuple p its.toArray):KdAt X π n H s u (.tup xs)
 |lst {xs:List D}(p:Addr)(vs:gw)(its:gq)(h:u=.ref p)(q:SqL X.K H p vs)(i:IsDs X.K π n H vs xs)(r:Vals vs its)(t:s.heap.IsList p its.toArray):KdAt X π n H s u (.lst xs)
theorem nV(I:Inv X a5N σ H s)(R:Rp X.K π H μ){v:V}{d:D}{u:Value}(h:IsD X.K π μ.length H v d)(r:RelV v u){k:KdD}(e:kX μ d=b0 k):KdAt X π μ.length H s u k:=by
 cases h with
 |non=>cases e;exact .non r|bl b=>cases e;exact .bl b r|int i=>cases e;obtain⟨t,q⟩:=r;exact .int i t q|str x=>cases e;obtain⟨t,q⟩:=r;exact .str x t q|ty x=>cases e|tup q t=>cases e;obtain⟨c,g,p,_⟩:=I.tuple q;exact .tup _ _ c r q t g p|rol q t=>cases e;obtain⟨c,g,p,_⟩:=I.list q.sq;exact .lst _ _ c r q.sq t g p.isList|@loc a w=>
  simp only[kX]at e;split at e
  .rename_i o m;cases e;obtain⟨n,j,l⟩:=R.lst a o m;have q:SqL X.K H (π a) n:=.of j;obtain⟨c,g,p,_⟩:=I.list q;exact .lst _ _ c r q l g p.isList
  .cases e
theorem KdAt.isK{u:Value}{k:KdD}{n:Nat}(h:KdAt X π n H s u k):IsK s u (wV k):=by
 cases h with
 |non h=>subst h;exact .non|bl b h=>subst h;exact .bl b|int i t h=>subst h;exact .int i t|str x t h=>subst h;exact .str x t|tup p c a h q i r t=>subst h;have:a.length=_:=r.length.symm.trans i.length;show IsK s (.ref p) (.tup _);rw[<- this];exact .tup t|lst p c a h q i r t=>subst h;have:a.length=_:=r.length.symm.trans i.length;show IsK s (.ref p) (.lst _);rw[<- this];exact .lst t
noncomputable def gU(f:D->D->Option Bool)(xs a:List D)(j:Nat):Bool:=match xs[j]?,a[j]? with
 |some x,b0 y=>(f x y).getD b5|_,_=>b5
theorem wW{f:D->D->Option Bool}:∀{xs a:List D}{b:Bool},jU f xs a=b0 b->b=((VS (min xs.length a.length)).all (gU f xs a)&&xs.length==a.length)/\∀(j:Nat) x y,xs[j]?=b0 x->a[j]?=b0 y->f x y=b0 (gU f xs a j)
 |[],[],b,h=>by cases h;exact⟨rfl,λj x y e=>by simp at e⟩
 |x::xs,[],b,h=>by cases h;exact⟨by simp,λj x y _ e=>by simp at e⟩
 |[],y::a,b,h=>by cases h;exact⟨by simp,λj x y e=>by simp at e⟩
 |x::xs,y::a,b,h=>by
  simp only[jU]at h;obtain⟨c,l,n⟩:=U7.mp h;obtain⟨d,o,p⟩:=Vd.mp n;obtain⟨q,r⟩:=wW o;have k:gU f (x::xs) (y::a) 0=c:=by simp[gU,l]
  have m:∀j,gU f (x::xs) (y::a) (j+1)=gU f xs a j:=λj=>by simp[gU]
  refine⟨?_,λj u v g i=>?_⟩
  .subst p;rw[q];simp only[VD,Nat.add_min_add_right];rw[ZX,Wg,a2e,k];have:(gU f (x::xs) (y::a)∘Nat.succ)=gU f xs a:=funext λj=>m j;rw[this];simp[Bool.and_assoc]
  .cases j with
   |zero=>simp at g i;subst g;subst i;rw[k,l]|succ j=>rw[m j];exact r j u v (by simpa using g) (by simpa using i)
theorem B8{f:D->D->Option Bool}{k k':KdD}{b:Bool}(h:sM f k k'=b0 b):b=sJ (gU f (nU k) (nU k')) (wV k) (wV k'):=by
 cases k<;>cases k'<;>first
  |(have a:=Vs h;subst a;rfl)|(obtain⟨c,_⟩:=wW h;rw[c];rfl)
theorem Kj(I:Inv X a5N σ H s)(R:Rp X.K π H μ):∀(n:Nat){v:V}{u:Value}{x y:D}{b:Bool},RelV v u->IsD X.K π μ.length H v x->IsD X.K π μ.length H v y->dU n μ x y=b0 b->b=true:=by
 intro n;induction n with
 |zero=>intro v u x y b _ _ _ h;cases h|succ n ih=>
  intro v u x y b r hx hy h;obtain⟨k,U,h⟩:=U7.mp h;obtain⟨k',h2,h⟩:=U7.mp h;have a1:=nV I R hx r U;have o:=nV I R hy r h2;have g:∀{vs:gw}{xs T:List D}{c:Bool},(∀v∈vs,∃u,RelV v u)->IsDs X.K π μ.length H vs xs->IsDs X.K π μ.length H vs T->jU (nT n μ) xs T=b0 c->c=true:=by
   intro vs;induction vs with
   |nil=>intro xs T c _ Z m h;cases Z;cases m;cases h;rfl|cons w vs ihv=>
    intro xs T c hr Z m h;cases Z with
    |cons p1 t1=>
     cases m with
     |cons L B=>simp only[jU]at h;obtain⟨c1,U,h3⟩:=U7.mp h;obtain⟨c2,h4,h5⟩:=Vd.mp h3;obtain⟨Q,N⟩:=hr w (Wj ..);have a:c1=true:=(B7 U).elim (ih N p1 L) (·.1);have l:=ihv (λv G=>hr v (VU _ G)) t1 B h4;subst a;subst l;exact h5.symm
  cases a1 with
  |non a=>
   subst a;cases o with
   |non _=>exact(Vs h).symm|bl _ e=>cases e|int _ _ e=>cases e|str _ _ e=>cases e|tup _ _ _ e=>cases e|lst _ _ _ e=>cases e
  |bl c a=>
   subst a;cases o with
   |non e=>cases e|bl _ e=>cases e;exact(Vs h).symm.trans (beq_self_eq_true _)|int _ _ e=>cases e|str _ _ e=>cases e|tup _ _ _ e=>cases e|lst _ _ _ e=>cases e
  |int c t a=>
   subst a;cases o with
   |non e=>cases e|bl _ e=>cases e|int _ _ e=>cases e;exact(Vs h).symm.trans (beq_self_eq_true _)|str _ _ e=>cases e|tup _ _ _ e=>cases e|lst _ _ _ e=>cases e
  |str c t a=>
   subst a;cases o with
   |non e=>cases e|bl _ e=>cases e|int _ _ e=>cases e|str _ _ e=>cases e;exact(Vs h).symm.trans (beq_self_eq_true _)|tup _ _ _ e=>cases e|lst _ _ _ e=>cases e
  |tup p vs K a q i O t=>
   have z:KdAt X π μ.length H s (.ref p) _:=a▸KdAt.tup p vs K a q i O t;rw[a]at o;cases o with
   |non e=>cases e|bl _ e=>cases e|int _ _ e=>cases e|str _ _ e=>cases e|tup L E d l M m A B=>
    cases l;have:=I.tuple_inj q M;subst this;exact g (λv G=>by
     obtain⟨j,Y,rfl⟩:=Zr G;obtain⟨Q,_,N⟩:=O.get (Vb Y);exact⟨Q,N⟩) i m h
   |lst L E d l M m A B=>cases l;exact absurd rfl (Xu B t)
  |lst p vs K a q i O t=>
   rw[a]at o;cases o with
   |non e=>cases e|bl _ e=>cases e|int _ _ e=>cases e|str _ _ e=>cases e|tup L E d l M m A B=>cases l;exact absurd rfl (Xu t B)|lst L E d l M m A B=>
    cases l;have:=I.list_inj q M;subst this;exact g (λv G=>by
     obtain⟨j,Y,rfl⟩:=Zr G;obtain⟨Q,_,N⟩:=O.get (Vb Y);exact⟨Q,N⟩) i m h
theorem gW(A:VO):A.in1.units=A.units+1:=rfl
theorem B9(I:Inv X a5N σ H s){A:VO}{n:Nat}(ih:∀{A:VO}{v v':V}{u u':Value}{x y:D}{b:Bool},A.units+n<W0->RelV v u->RelV v' u'->IsD X.K π μ.length H v x->IsD X.K π μ.length H v' y->dU n μ x y=b0 b->EqAt A s u u' b)
  (hu:A.units+(n+1)<W0){u u':Value}{k k':KdD}{b:Bool}(a1:KdAt X π μ.length H s u k)(a2:KdAt X π μ.length H s u' k')(h:sM (nT n μ) k k'=b0 b):sL A s u u' (gU (nT n μ) (nU k) (nU k')):=by
 have K:∀{vs T:gw}{d its':gq}{xs Z:List D}{c:Bool},Vals vs d->Vals T its'->IsDs X.K π μ.length H vs xs->IsDs X.K π μ.length H T Z->jU (nT n μ) xs Z=b0 c->
   ∀j (h1:j<d.length)(Y:j<its'.length),EqAt A.in1 s d[j] its'[j] (gU (nT n μ) xs Z j):=by
  intro vs T d its' xs Z c r r' i i' e j h1 Y;have l1:=r.length;have l2:=r'.length;have l3:=i.length;have l4:=i'.length;have hx:xs[j]?=b0 (xs[j]'(by lia)):=Vb _;have hy:Z[j]?=b0 (Z[j]'(by lia)):=Vb _;obtain⟨v,v1,v2⟩:=i.get hx;obtain⟨v',v1',v2'⟩:=i'.get hy;obtain⟨w,w1,w2⟩:=r.get v1;obtain⟨w',w1',w2'⟩:=r'.get v1';rw[Vb h1]at w1;rw[Vb Y]at w1';cases w1;cases w1';have key:∀{x y:D}{b:Bool},IsD X.K π μ.length H v x->IsD X.K π μ.length H v' y->nT n μ x y=b0 b->EqAt A.in1 s d[j] its'[j] b:=λ{x y b} i1 L hq=>by
   rcases B7 hq with hq|⟨rfl,a,rfl,rfl⟩
   .exact ih (by rw[gW];lia) w2 w2' i1 L hq
   .cases i1;cases L;have z1:d[j]=VA (π a):=w2;have z2:its'[j]=VA (π a):=w2';rw[z1,z2];exact EqAt.same _
  exact key v2 v2' ((wW e).2 j _ _ hx hy)
 constructor
 .intro l b' G B e1 e2 t1 t2 j h1 Y;subst e1;subst e2;cases a1 with
  |tup p vs d e q i r t=>
   cases e;cases a2 with
   |tup p2 U E g q2 L r2 R=>
    cases g;have z1:G=d.toArray:=by obtain⟨o,M,g2,n1,O⟩:=t1;obtain⟨o',m,N,Q,z⟩:=t;rw[M]at m;cases m;rw[O]at z;injection z
    have z2:B=E.toArray:=by obtain⟨o,M,g2,n1,O⟩:=t2;obtain⟨o',m,N,Q,z⟩:=R;rw[M]at m;cases m;rw[O]at z;injection z
    subst z1;subst z2;have:=K r r2 i L h j (by simpa using h1) (by simpa using Y);simpa[nU]using this
   |lst p2 U E g q2 L r2 R=>cases g;exact absurd rfl (Xu R t2)|non g=>cases g|bl _ g=>cases g|int _ _ g=>cases g|str _ _ g=>cases g
  |lst p vs d e q i r t=>cases e;exact absurd rfl (Xu t t1)|non e=>cases e|bl _ e=>cases e|int _ _ e=>cases e|str _ _ e=>cases e
 .intro l b' G B e1 e2 t1 t2 j h1 Y;subst e1;subst e2;cases a1 with
  |lst p vs d e q i r t=>
   cases e;cases a2 with
   |lst p2 U E g q2 L r2 R=>
    cases g;have z1:G=d.toArray:=by obtain⟨o,M,g2,n1,O⟩:=t1;obtain⟨o',m,N,Q,z⟩:=t;rw[M]at m;cases m;rw[O]at z;injection z
    have z2:B=E.toArray:=by obtain⟨o,M,g2,n1,O⟩:=t2;obtain⟨o',m,N,Q,z⟩:=R;rw[M]at m;cases m;rw[O]at z;injection z
    subst z1;subst z2;have:=K r r2 i L h j (by simpa using h1) (by simpa using Y);simpa[nU]using this
   |tup p2 U E g q2 L r2 R=>cases g;exact absurd rfl (Xu t2 R)|non g=>cases g|bl _ g=>cases g|int _ _ g=>cases g|str _ _ g=>cases g
  |tup p vs d e q i r t=>cases e;exact absurd rfl (Xu t1 t)|non e=>cases e|bl _ e=>cases e|int _ _ e=>cases e|str _ _ e=>cases e
theorem wX(I:Inv X a5N σ H s)(R:Rp X.K π H μ):∀(n:Nat){A:VO}{v c:V}{u a:Value}{x y:D}{b:Bool},A.units+n<W0->RelV v u->RelV c a->IsD X.K π μ.length H v x->IsD X.K π μ.length H c y->dU n μ x y=b0 b->EqAt A s u a b:=by
 intro n;induction n with
 |zero=>intro A v c u a x y b _ _ _ _ _ h;cases h|succ n K=>
  intro A v c u a x y b G r m i j h;have q:=h;obtain⟨k,w,h⟩:=U7.mp h;obtain⟨M,B,h⟩:=U7.mp h;have d:=nV I R i r w;have e:=nV I R j m B;by_cases g:u=a
  .subst g;have:v=c:=r.inj m;subst this;have:=Kj I R (n+1) r i j q;subst this;exact EqAt.same _
  .have E:=B9 I K G d e h;rw[B8 h];exact Ki d.isK e.isK (by lia) E λl L o p z=>g (by rw[o,p,z])
theorem Ca(I:Inv X a5N σ H s)(R:Rp X.K π H μ)(n:Nat){A:VO}{v g:V}{u d:Value}{x y:D}{b:Bool}(l:A.units+n<W0)(r:RelV v u)(p:RelV g d)(m:IsD X.K π μ.length H v x)(o:IsD X.K π μ.length H g y)(h:dU n μ x y=b0 b) :
  RcAt A s u d b/\RcNeAt A s u d (!b):=by
 cases n with
 |zero=>cases h|succ n=>obtain⟨k,i,h⟩:=U7.mp h;obtain⟨q,j,h⟩:=U7.mp h;have a:=nV I R m r i;have c:=nV I R o p j;have e:=B9 I (A:=A) (wX I R n) l a c h;rw[B8 h];exact⟨wR a.isK c.isK (by lia) e,Kh a.isK c.isK (by lia) e⟩
end
section
variable{K:U9}
noncomputable def kY(g:Int->Int->Option Int):D->D->Hm->jk
 |.int i,.int j,μ=>(g i j).map λz=>(.int z,μ)|_,_,_=>b3
theorem Cb{g:Int->Int->Option Int}{x y d:D}{a μ':Hm}(h:kY g x y a=b0 (d,μ')):∃i j z,x=.int i/\y=.int j/\g i j=b0 z/\d=.int z/\μ'=a:=by
 unfold kY at h;split at h
 .rename_i i j;obtain⟨z,c,e⟩:=Vd.mp h;cases e;exact⟨i,j,z,rfl,rfl,c,rfl,rfl⟩
 .cases h
theorem wY{a:Int->Int->Prop}{g:Int->Int->Option Int}{g':Int->Int->Int}(h:∀i j z,g i j=b0 z->a i j/\z=g' i j):cS K (kY g) (rI a λi j=>.int (g' i j)):=by intro p H s x y d o q r Q R m n l k;obtain⟨i,j,z,rfl,rfl,e,rfl,rfl⟩:=Cb l;cases m;cases n;obtain⟨c,rfl⟩:=h i j z e;exact⟨i,j,rfl,rfl,c,k p _ H .refl R (.int _)⟩
theorem Kk{g':Int->Int->Int}:cS K (kY λi j=>b0 (g' i j)) (f6 λi j=>.int (g' i j)):=by intro l H o x y d h m n Q R e g c k;obtain⟨i,j,z,rfl,rfl,a,rfl,rfl⟩:=Cb c;cases e;cases g;cases a;exact⟨i,j,rfl,rfl,k l _ H .refl R (.int _)⟩
noncomputable def cL:=kY λi j=>b0 (i-j)
noncomputable def Cd:=kY λi j=>if((-(2^64)<i/\i<2^64)\/(-(2^64)<j/\j<2^64))\/(i.natAbs<2^4000/\j.natAbs<2^4000)\/V6 i+V6 j<=134217728 then b0 (i*j)else b3
noncomputable def b8:D->D->Hm->jk
 |x,y,μ=>Cd x y μ
noncomputable def cP:=kY λi j=>if 0<j/\j<2^4000 then b0 (i/j)else b3
noncomputable def aV:=kY λi j=>if 0<j then b0 (i%j)else b3
noncomputable def CMulB(i j:Int):Prop:=CMul i j\/(i.natAbs<2^4000/\j.natAbs<2^4000)\/V6 i+V6 j<=134217728
noncomputable def Ce(i j:Int):Prop:=0<j/\j<2^4000
theorem Cf{i:Int}(h:i.natAbs<2^4000):V6 i<=4000:=by
 unfold V6;split
 .exact Xm _
 .rename_i c;have a:i.natAbs≠0:=by intro z;exact c (by simpa using z)
  have:=(a5u a).mpr h;lia
theorem CMulB.ok{i j:Int}(h:CMulB i j):a4c i j:=by
 rcases h with h|⟨c,d⟩|h
 .exact h.ok
 rotate_left
 .have a:YN (V6 i+V6 j)=false:=by
   unfold YN;rw[decide_eq_false];have:bitsLine=134217728:=by decide
   lia
  unfold a4c;rw[a];simp
 .have e:=Cf c;have g:=Cf d;have a:YN (V6 i+V6 j)=false:=by
   unfold YN;rw[decide_eq_false];have:(8000:Int)<=bitsLine:=by decide
   lia
  unfold a4c;rw[a];simp
section
variable{X:Cx}
theorem Kl:OpR X (YS .Mult) (rI CMulB λi j=>.int (i*j)):=vX λ_ _ _ _ _ _ _ hc q=>a5l q hc.ok
theorem Km:OpR X (YS .FloorDiv) (rI Ce λi j=>.int (i/j)):=vX λi j _ _ _ _ _ hc q=>by
 have d:(0:Int)<j:=hc.1;have e:j<2^4000:=hc.2;have a:j.natAbs≠0:=by lia
 have c:j.natAbs<2^4000:=by
  have:((2^4000:Nat):Int)=2^4000:=by decide
  lia
 have g:=(a5u a).mpr c;exact a5o (by lia) (by rw[Int.fdiv_eq_ediv_of_nonneg i (by lia)];exact q) (.inl (PyProof.noPylong_of_log2 (by lia)))
end
theorem wZ{c:Prop} [Decidable c] {a z:Int}(h:(if c then b0 a else b3)=b0 z):c/\z=a:=by
 split at h
 .cases h;exact⟨by assumption,rfl⟩
 .cases h
theorem Kn:cS K cL (f6 λi j=>.int (i-j)):=Kk
theorem Ko:cS K Cd (rI CMulB λi j=>.int (i*j)):=wY λi j z h=>by have:=wZ h;exact this
theorem Kq:cS K b8 (rI CMulB λi j=>.int (i*j)):=Ko
theorem Kr:cS K cP (rI Ce λi j=>.int (i/j)):=wY λi j z h=>by have:=wZ h;exact this
theorem Ks:cS K aV (rI (λ_ j=>0<j) λi j=>.int (i%j)):=wY λ_ _ _ h=>wZ h
noncomputable def w4:D->Option D
 |.int i=>b0 (.int (-i))|_=>b3
noncomputable def aW:D->D->Hm->jk
 |.int i,.int j,μ=>b0 (.int (i+j),μ)|.str x,.str y,μ=>if x.length+y.length<=Vp then b0 (.str (x++y),μ)else b3|.loc a,.loc b,μ=>match μ[a]?,μ[b]? with
  |some (.lst xs),b0 (.lst ys)=>if xs.length+ys.length<=Vp then b0 (.loc μ.length,μ++[.lst (xs++ys)])else b3|_,_=>b3
 |_,_,_=>b3
noncomputable def w5(K:U9):R2:=λx y H Q=>f6 (λi j=>.int (i+j)) x y H Q\/(∃i j,x=.str i/\y=.str j/\i.length+j.length<=Vp/\Q (.str (i++j)) H)\/BM x y H Q
theorem Kt{X:Cx}:OpR X (YS .Add) (w5 X.K):=op_add.or (op_add_str.or Jl)
noncomputable abbrev w6(K:U9):R2:=w5 K
theorem Ku{X:Cx}:OpR X (YS .Add) (w6 X.K):=Kt
theorem w8{K:U9}{x y:V}{H:Hp}{Q:VK}(h:w5 K x y H Q):w6 K x y H Q:=h
theorem Kv:cS K aW (w6 K):=by
 intro r H G x y d A B E Q R e g a k;unfold aW at a;split at a
 .cases a;cases e;cases g;exact w8 (.inl ⟨_,_,rfl,rfl,k r _ H .refl R (.int _)⟩)
 .split at a
  .rename_i c;cases a;cases e;cases g;exact w8 (.inr (.inl ⟨_,_,rfl,rfl,c,k r _ H .refl R (.str _)⟩))
  .cases a
 .split at a
  .rename_i n o v w;split at a
   .rename_i c;cases a;cases e;cases g;obtain⟨l,h,i⟩:=R.lst _ n v;obtain⟨m,u,j⟩:=R.lst _ o w;refine w8 (.inr (.inr ⟨_,_,l,m,rfl,rfl,by first|exact h|exact .inl (.inl h),u,by rw[i.length,j.length];exact c,λp z=>?_⟩));obtain⟨s,R2,q⟩:=R.alloc (c:=.lst (n++o)) (o:=.lst (l++m)) z (i.append j);exact k _ _ _ s R2 mF
   .cases a
  .cases a
 .cases a
noncomputable def fQ(p:Int->Int->Bool):D->D->Hm->jk
 |.int i,.int j,μ=>b0 (.bl (p i j),μ)|_,_,_=>b3
theorem gX{p:Int->Int->Bool}:cS K (fQ p) (f6 λi j=>.bl (p i j)):=by
 intro h H n x y d g l m Q R c e a k;unfold fQ at a;split at a
 .cases a;cases c;cases e;exact⟨_,_,rfl,rfl,k h _ H .refl R (.bl _)⟩
 .cases a
noncomputable def cU:=fQ λi j=>decide (i<j)
noncomputable def kZ:=fQ λi j=>decide (i<=j)
noncomputable def jB:=fQ λi j=>decide (j<i)
noncomputable def pV:=fQ λi j=>decide (j<=i)
noncomputable def w9(K:U9)(ne:Bool):R2:=λx y H Q=>∃π a c d b,Rp K π H a/\IsD K π a.length H x c/\IsD K π a.length H y d/\dU 8 a c d=b0 b/\Q (.bl (if ne then !b else b)) H
theorem Cg{X:Cx}(c:X.A.units+8<W0):OpR X (WB .Eq) (w9 X.K b5):=by intro a s o H x y v u Q I i j h;obtain⟨n,m,k,l,b,R,d,g,e,q⟩:=h;exact(Ca I R 8 c i j d g e).1 _ _ _ _ ⟨.bl b,H,I,rfl,q⟩
theorem Ci{X:Cx}(c:X.A.units+8<W0):OpR X (WB .NotEq) (w9 X.K dI):=by intro a s o H x y v u Q I i j h;obtain⟨n,m,k,l,b,R,d,g,e,q⟩:=h;exact(Ca I R 8 c i j d g e).2 _ _ _ _ ⟨.bl (!b),H,I,rfl,q⟩
noncomputable def aX(ne:Bool):D->D->Hm->jk:=λx y a=>(dU 8 a x y).map λb=>(.bl (if ne then !b else b),a)
theorem sN{ne:Bool}:cS K (aX ne) (w9 K ne):=by intro a H j x y d l m n Q R h i g k;obtain⟨b,c,e⟩:=Vd.mp g;cases e;exact⟨a,j,x,y,b,R,h,i,c,k a _ H .refl R (.bl _)⟩
noncomputable def xA:D->D->Hm->jk
 |.str i,.str j,μ=>b0 (.bl (!(WU j i 0 j.length 1).isEmpty),μ)|_,_,_=>b3
theorem Cj:cS K xA (λx y H Q=>∃i j,x=.str i/\y=.str j/\Q (.bl (!(WU j i 0 j.length 1).isEmpty)) H):=by
 intro h H n x y d g l m Q R c e a k;unfold xA at a;split at a
 .cases a;cases c;cases e;exact⟨_,_,rfl,rfl,k h _ H .refl R (.bl _)⟩
 .cases a
end
section
variable{X:Cx}{a b c:Expr}{ma mb mc:ME}{pos:W9}
theorem sO{k:Nat}{A:VO}(r:Room k A):A.units+8<W0:=by have:=r.un;lia
theorem Kw(r:PE X a (tM X.K ma)):PE X (.UnaryOp .USub a pos) (tM X.K (λρ g=>(ma ρ g).bind λp=>(w4 p.1).map λd=>(d,p.2))):=cZ (HY Ib r) (by
 rintro A H Q ⟨w,ρ,g,d,u,R,E,e,k⟩;obtain⟨⟨x,v⟩,o,e⟩:=U7.mp e;obtain⟨y,j,q⟩:=Vd.mp e;cases q;cases x with
 |int i=>cases j;refine⟨w,ρ,g,_,_,R,E,o,λh z l n m s=>?_⟩;cases s;exact⟨_,rfl,k h _ l n m (.int _)⟩
 |_=>cases j)
theorem Ky{x:Str}{n:String}(d:Gl X x)(e:X.mg x=b3)(h:Xb x=b0 (.type n))(g:x ≠ "__name__":=by decide) (hd:(x==("__debug__":Str))=false:=by decide):PE X (.Name x pos) (tM X.K (mC (.ty n))):=
 nQ (G5 (v:=.ty n) d e h rfl g hd) λ_ _ _=>.ty n
end
noncomputable def xB(c:Hm):D->Option String
 |.non=>b0 "NoneType"|.bl _=>b0 "bool"|.int _=>b0 "int"|.str _=>b0 "str"|.tup _=>b0 "tuple"|.rol _=>b0 "list"|.loc a=>match c[a]? with
  |some (.lst _)=>b0 "list"|some (.dK _)=>b0 "dict"|some (.dT _)=>b0 "dict"|_=>b3
 |.ty _=>b3
noncomputable def sP(t c:String):Option Bool:=match c with
 | "int"=>b0 (t=="int" || t=="bool")| "bool"=>b0 (t=="bool")| "str"=>b0 (t=="str")| "list"=>b0 (t=="list")| "tuple"=>b0 (t=="tuple")| "dict"=>b0 (t=="dict")|_=>b3
noncomputable def jV:MF:=λds a=>match ds with
 |[x,.ty c]=>(xB a x).bind λt=>(sP t c).map λb=>(.bl b,a)|_=>b3
theorem jW (K:U9){t c:String}{b:Bool}(d:t = "NoneType"\/t = "bool"\/t = "int"\/t = "str"\/t = "tuple"\/t = "list"\/t = "dict") (h:sP t c=b0 b):a3k K (.type t) (.type c)=b0 b:=by
 unfold sP at h
 split at h<;>first
  | cases h;done
  | (have a:=Vs h;subst a
     rcases d with rfl|rfl|rfl|rfl|rfl|rfl|rfl<;>first|rfl|decide +kernel|(unfold a3k;simp;rfl))
end L3
namespace L3
open PySem L2
noncomputable abbrev MG:=D->aG->Hm->Option aG
inductive tMG (K:U9)(g:MG)(v:V)(σ:St)(H:Hp)(Q:St->Hp->Prop):Prop
 |mk (π:Nat->Addr)(ρ:aG)(μ:Hm)(d:D)(ρ':aG)(R:Rp K π H μ)(E:En K π μ.length H σ ρ)(i:IsD K π μ.length H v d)(hm:g d ρ μ=b0 ρ')(k:∀σ',En K π μ.length H σ' ρ'->Q σ' H):tMG K g v σ H Q
noncomputable def cI(i:Nat):MG:=λd ρ _=>b0 (ρ.set i (b0 d))
section
variable{X:Cx}{pos:W9}
theorem Ck{i:Nat}{x:Str}(c:X.N.Nodup)(g:X.N[i]?=b0 x)(l:Loc X.env.scope x)(e:X.fn x=dI\/X.env.scope.names.lookup x=b0 .local:=by first|exact .inl rfl|exact .inr rfl|assumption):PG X (.Name x pos) (tMG X.K (cI i)):=by intro a s n H v u Q I r h;obtain⟨p,q,o,d,m,R,E,hd,j,k⟩:=h;cases j;exact Be c g l e a s n H v u Q I r (k _ (E.set hd i))
noncomputable def Kz(K:U9)(d:TE):TI:=λσ H R=>d σ H λx c=>∃a,x=.ref a/\(((∃xs,SqL K c a xs)/\R (vT K a) c)\/((∃xs,SqT K c a xs)/\R (vU K a) c))
theorem KA{l tg:Expr}{n:TE}(r:PE X l n):PI X tg l (Kz X.K n):=by
 intro i s B H R I h;refine aR (r i s B H _ I h) λv c ⟨x,m,d,y,w⟩=>?_;obtain⟨a,e,q⟩:=w;subst e;cases y;rcases q with⟨⟨A,k⟩,q⟩|⟨⟨A,k⟩,q⟩
 .obtain⟨g,z,p,u⟩:=d.list k;refine ZU p.isList ?_;refine⟨c.heap.objs.size,[c.heap.objs.size],_,_,m,rfl,d.kept (t':=c.toks) λb o e=>Vg _ e,HK a _,⟨_,Vr _ rfl,rfl,rfl⟩,λb j=>?_,q⟩;have e:b=c.heap.objs.size:=by simpa using j
  subst e;exact d.fpOk (Vk _) (d.hok.fresh (Vk _))
 .obtain⟨g,z,p,u⟩:=d.tuple k;refine Yn (show c.heap.IsTuple a g.toArray from p) ?_;refine⟨c.heap.objs.size,[c.heap.objs.size],_,_,m,rfl,d.kept (t':=c.toks) λb o e=>Vg _ e,HL a _,⟨_,Vr _ rfl,rfl,rfl⟩,λb j=>?_,q⟩;have e:b=c.heap.objs.size:=by simpa using j
  subst e;exact d.fpOk (Vk _) (d.hok.fresh (Vk _))
end
structure Wk(K:U9)(J:It)(src:Hm->Nat->Option (Option D))(π:Nat->Addr)(n:Nat)(H:Hp):Prop where
 stop:∀π' μ H' i,Ext π n H π' μ.length H'->Rp K π' H' μ->src μ i=b0 b3->J.stop i H'
 go:∀π' μ H' i d,Ext π n H π' μ.length H'->Rp K π' H' μ->src μ i=b0 (b0 d)->J.go i H'/\∀x H2,J.yld i H' x H2->Ext π' μ.length H' π' μ.length H2/\Rp K π' H2 μ/\IsD K π' μ.length H2 x d
noncomputable def jX(x:D):Hm->Nat->Option (Option D):=λa i=>(bJ a x).map λxs=>xs[i]?
theorem KG{K:U9}{π:Nat->Addr}{B:Hm}{H:Hp}{v:V}{x:D}{xs:List D}(R:Rp K π H B)(h:IsD K π B.length H v x)(E:bJ B x=b0 xs) :
  ∃a,v=.ref a/\(((∃c,SqL K H a c)/\Wk K (vT K a) (jX x) π B.length H)\/((∃c,SqT K H a c)/\Wk K (vU K a) (jX x) π B.length H)):=by
 cases h with
 |@tup p c ds q t=>
  refine⟨p,rfl,.inr ⟨⟨c,q⟩,⟨λl k r i e m z=>?_,λl k r i d e m z=>?_⟩⟩⟩
  .simp only[jX,bJ,V1]at z;have j:ds[i]?=none:=Vs z;exact⟨c,e.sqT q,by rw[t.length];exact V0.mp j⟩
  .simp only[jX,bJ,V1]at z;have j:ds[i]?=b0 d:=Vs z;obtain⟨w,g,n⟩:=t.get j;refine⟨⟨c,w,e.sqT q,g⟩,λy L ⟨s,u⟩=>?_⟩;subst s;have:=u c (e.sqT q);rw[g]at this;cases this;exact⟨.refl,m,n.mono e⟩
 |@rol p c ds q t=>
  refine⟨p,rfl,.inl ⟨⟨c,q.sq⟩,⟨λl k r i e m z=>?_,λl k r i d e m z=>?_⟩⟩⟩
  .simp only[jX,bJ,V1]at z;have j:ds[i]?=none:=Vs z;exact⟨c,(e.roL q).sq,by rw[t.length];exact V0.mp j⟩
  .simp only[jX,bJ,V1]at z;have j:ds[i]?=b0 d:=Vs z;obtain⟨w,g,n⟩:=t.get j;refine⟨⟨c,w,(e.roL q).sq,g⟩,λy L ⟨s,u⟩=>?_⟩;subst s;have:=u c (e.roL q).sq;rw[g]at this;cases this;exact⟨.refl,m,n.mono e⟩
 |@loc a N=>
  have hc:∃c,H (π a)=b0 (.lst c):=by
   simp only[bJ]at E;split at E
   .rename_i o A;obtain⟨c,g,_⟩:=R.lst a o A;exact⟨c,g⟩
   .cases E
  obtain⟨I,G⟩:=hc;refine⟨π a,rfl,.inl ⟨⟨I,.of G⟩,⟨λl k r i e m z=>?_,λl k r i d e m z=>?_⟩⟩⟩
  .simp only[jX,bJ]at z;split at z
   .rename_i o A;obtain⟨c,g,n⟩:=m.lst a o A;rw[e.pi a N]at g;have j:o[i]?=none:=Vs z;exact⟨c,.of g,by rw[n.length];exact V0.mp j⟩
   .cases z
  .simp only[jX,bJ]at z;split at z
   .rename_i o A;obtain⟨c,g,n⟩:=m.lst a o A;rw[e.pi a N]at g;have j:o[i]?=b0 d:=Vs z;obtain⟨w,M,O⟩:=n.get j;refine⟨⟨c,w,.of g,M⟩,λy L ⟨s,u⟩=>?_⟩;subst s;have:=u c (.of g);rw[M]at this;cases this;exact⟨.refl,m,O⟩
   .cases z
 |_=>cases E
noncomputable def eX(a:Hm->Nat->Option (Option D))(g:MG)(b:MS):Nat->Nat->MS
 |0,_,_,_=>b3|n+1,i,ρ,μ=>(a μ i).bind λo=>match o with
  |none=>b0 (.nx,ρ,μ)|some d=>(g d ρ μ).bind λc=>(b c μ).bind λp=>match p.1 with
   |.nx=>eX a g b n (i+1) p.2.1 p.2.2|.ct=>eX a g b n (i+1) p.2.1 p.2.2|.bk=>b0 (.nx,p.2.1,p.2.2)|.rt d=>b0 (.rt d,p.2.1,p.2.2)
theorem KH{K:U9}{J:It}{A:Hm->Nat->Option (Option D)}{g:MG}{b:MS}{π:Nat->Addr}{O:Nat}{M:Hp}(W:Wk K J A π O M){E:Ends}{z:Fl}{l:aG}{μ':Hm}(hE:mE K E π O M z l μ')
  {B:Nat->Addr}{s:Hm}{H1:Hp}{R:aG}{σ1:St}{n:Nat}(e1:Ext π O M B s.length H1)(R1:Rp K B H1 s)(E1:En K B s.length H1 σ1 R)(h:eX A g b n 0 R s=b0 (z,l,μ')) :
  ∃Wd:Nat->Nat->St->Hp->Prop,(∃m,Wd 0 m σ1 H1)/\∀i m U H,Wd i m U H->
   (J.stop i H/\E.nx U H)\/(J.go i H/\∃N:St->Hp->Prop,(∀v r,N v r->∃m',m'<m/\Wd (i+1) m' v r)/\∀x r,J.yld i H x r->tMG K g x U r λσ2 Z=>tMS K b {E with nx:=N,ct:=N,bk:=E.nx} σ2 Z):=by
 have lift:∀{a:Nat->Addr}{n2:Nat}{Z:Hp}(e:Ext π O M a n2 Z){z:Fl}{l:aG}{μ':Hm},mE K E π O M z l μ'->mE K E a n2 Z z l μ':=λ{a n2 Z} e {z l μ'} k=>by
  cases z with
  |nx=>exact λu q H3 e3 R3 L=>k u q H3 (e.trans e3) R3 L|bk=>exact λu q H3 e3 R3 L=>k u q H3 (e.trans e3) R3 L|ct=>exact λu q H3 e3 R3 L=>k u q H3 (e.trans e3) R3 L|rt d=>exact KC.after k e
 refine⟨λi m U H=>∃a j G,Ext π O M a j.length H/\Rp K a H j/\En K a j.length H U G/\eX A g b m i G j=b0 (z,l,μ'),⟨n,B,s,R,e1,R1,E1,h⟩,?_⟩;rintro i m U H ⟨a,j,G,w,R2,E2,h2⟩;cases m with
 |zero=>cases h2|succ m=>
  obtain⟨o,h3,h4⟩:=U7.mp h2;cases o with
  |none=>cases h4;exact .inl ⟨W.stop a _ H i w R2 h3,hE a U H w R2 E2⟩|some d=>
   obtain⟨g1,g2⟩:=W.go a j H i d w R2 h3;obtain⟨ρ3,h5,h6⟩:=U7.mp h4;obtain⟨⟨f4,T,Q⟩,h7,h8⟩:=U7.mp h6;refine .inr ⟨g1,λv r=>∃c I p,Ext π O M c p.length r/\Rp K c r p/\En K c p.length r v I/\eX A g b m (i+1) I p=b0 (z,l,μ'),
    λv r ⟨c,I,p,a1,a2,a3,a4⟩=>⟨m,Xn _,c,p,I,a1,a2,a3,a4⟩,λx r y=>?_⟩
   obtain⟨ex,Rx,hx⟩:=g2 x r y;have w:=w.trans ex;refine⟨a,G,j,d,ρ3,Rx,E2.mono ex,hx,h5,λq L=>⟨a,ρ3,j,f4,T,Q,Rx,L,h7,?_⟩⟩;cases f4 with
   |nx=>exact λc X H5 e5 R5 Y=>⟨c,T,Q,w.trans e5,R5,Y,h8⟩|ct=>exact λc X H5 e5 R5 Y=>⟨c,T,Q,w.trans e5,R5,Y,h8⟩|bk=>cases h8;exact λc X H5 e5 R5 Y=>hE c X H5 (w.trans e5) R5 Y|rt d'=>cases h8;exact KC.after hE w
section
variable{X:Cx}{pos:W9}{tg iter:Expr}{body:List Stmt}{mi:ME}{g:MG}{mb:MS}
noncomputable def iG(lo:Int)(n:Nat):Hm->Nat->Option (Option D):=λ_ i=>b0 (if i<n then b0 (.int (lo+i))else b3)
theorem Cm{K:U9}{lo:Int}{k:Nat}{π:Nat->Addr}{n:Nat}{H:Hp}:Wk K (kR lo k) (iG lo k) π n H:=by
 refine⟨λc o j i e R z=>?_,λc o j i d e R z=>?_⟩
 .have a:=Vs z;split at a
  .cases a
  .exact Zz.mp (by assumption)
 .have a:=Vs z;split at a
  .cases a;rename_i h;exact⟨h,λx p ⟨l,m⟩=>by subst l;rw[m];exact⟨.refl,R,.int _⟩⟩
  .cases a
end
noncomputable def nW(y:Str):Str:="#"++y
noncomputable def bH(xs N:List Str):List Str:=N.map λy=>if xs.contains y then nW y else y
theorem mG(xs N:List Str):(bH xs N).length=N.length:=by unfold bH;simp
theorem KI{xs N:List Str}{i:Nat}{y:Str}(h:(bH xs N)[i]?=b0 y):∃a,N[i]?=b0 a/\((xs.contains a=dI/\y=nW a)\/(xs.contains a=b5/\y=a)):=by
 unfold bH at h;rw[Vx]at h;obtain⟨a,d,c⟩:=Vd.mp h;refine⟨a,d,?_⟩;cases hc:xs.contains a with
 |true=>rw[hc]at c;exact .inl ⟨rfl,by simpa using c.symm⟩|false=>rw[hc]at c;exact .inr ⟨rfl,by simpa using c.symm⟩
noncomputable def cB(X:Cx)(scope:X4)(a:List (Str×Addr))(C:Addr)(N:List Str)(s₀:Ve)(H₀:Hp)(c:List Addr):Cx:=
 {X with N:=N,s₀:=s₀,H₀:=H₀,env:=Za scope a C X.env,outer:=X.stack,stack:=X.stack,ex:=c,fn:=λ_=>b5,pn:=[],xe:=λ_ _=>False}
theorem Cn{env:a0y}:∀(names:List (Str×X9))(x:Str),(names.map λ(n,k)=>if(k==XS&&env.scope.kind==.function&&env.kindOf n==b0 .cell)then(n,X3)else(n,k)).lookup x
  = (names.lookup x).map λk=>if(k==XS&&env.scope.kind==.function&&env.kindOf x==b0 .cell)then X3 else k
 |[],_=>rfl|(n,k)::r,x=>by
  have e:=Cn (env:=env) r x;rw[VP];by_cases d:x=n
  .subst d;have a:∀(k':X9)(l:List (Str×X9)),a0e x ((x,k')::l)=b0 k':=λk' l=>by simp[Y6]
   rw[a];show a0e x ((if(k==XS&&env.scope.kind==.function&&env.kindOf x==b0 .cell)=dI then(x,X3)else(x,k))::_)=b0 (if(k==XS&&env.scope.kind==.function&&env.kindOf x==b0 .cell)=dI then X3 else k);split
   .rw[a]
   .rw[a]
  .have c:(x==n)=false:=by simpa using d
   have a:∀(k':X9)(l:List (Str×X9)),a0e x ((n,k')::l)=a0e x l:=λk' l=>by simp only[Y6,c]
   rw[a];show a0e x ((if(k==XS&&env.scope.kind==.function&&env.kindOf n==b0 .cell)=dI then(n,X3)else(n,k))::_)=_;split
   .rw[a];exact e
   .rw[a];exact e
structure CompOk(X:Cx)(scope:X4)(cl:List (Str×Addr))(xs:List Str):Prop where
 clos:a4r scope X.env=pure cl
 nocell:∀y∈scope.names,y.2≠.cell
 kind:scope.kind=.function
 names:∀y∈scope.names,y.2=.local->scope.names.lookup y.1=b0 .local
 here:∀x∈xs,scope.names.lookup x=b0 .local
 sub:∀y c,cl.lookup y=b0 c->X.env.cells.lookup y=b0 c
 free:∀y,scope.names.lookup y=b0 .free->(X.env.kindOf y=b0 .cell\/X.env.kindOf y=b0 .free)/\∃c,cl.lookup y=b0 c
 own:∀y,scope.names.lookup y=b0 .local->y∉bH xs X.N
 hidn:∀y∈X.N,xs.contains y=dI->scope.names.lookup (nW y)=b3
section
variable{X:Cx}{scope:X4}{cl:List (Str×Addr)}{xs:List Str}
theorem CompOk.kindOf(O:CompOk X scope cl xs)(C:Addr)(y:Str):(Za scope cl C X.env).kindOf y=(scope.names.lookup y).map λk=>if(k==XS&&X.env.scope.kind==.function&&X.env.kindOf y==b0 .cell)then X3 else k:=
 Cn scope.names y
theorem CompOk.outer(O:CompOk X scope cl xs){C:Addr}{y:Str}(h:(Za scope cl C X.env).kindOf y=b0 .cell\/(Za scope cl C X.env).kindOf y=b0 .free):scope.names.lookup y=b0 .free:=by
 rw[O.kindOf]at h;cases q:scope.names.lookup y with
 |none=>rw[q]at h;rcases h with h|h<;>cases h
 |some k=>
  rw[q]at h;cases k with
  |free=>rfl|cell=>exact absurd rfl (O.nocell _ (WN q))| «local»=>rcases h with h|h<;>simp at h
  |globalExplicit=>rcases h with h|h<;>simp at h
  |globalImplicit=>rcases h with h|h<;>simp at h
theorem CompOk.inv{a5N:jw}{σ:St}{H:Hp}{s:Ve}{Y:List Addr}{d:WA}{tk:Nat}(O:CompOk X scope cl xs)(I:Inv X a5N σ H s)(B:∀b∈Y,fZ X a5N H b)(hob:∀b∈Y,∃o,s.heap.get? b=b0 o){m:Str->Option Value}
  (hns:d.Ns s.heap.objs.size m)(N:∀b o,s.heap.get? b=b0 o->d.get? b=b0 o) :
  Inv (cB X scope cl s.heap.objs.size (bH xs X.N++xs) s H Y) [] (σ++XI xs.length b3) H {s with heap:=d,toks:=tk}:=by
 refine⟨⟨I.ok.mod,O.kind,I.ok.glob,I.ok.blt,Vk _,λy z c Z A=>?_,λy hy=>?_,(λy c h=>by cases h),I.ok.hd,I.ok.frames,.inl rfl,λb G=>?_,λb o e=>I.bs b o e,WD I.ok.bsz I.sz,λb o e G=>?_,λb G hb2=>?_,I.stack,I.stkFree⟩,
  rfl,I.bare,Un.kept N,⟨m,hns,λi y v Z A w=>?_⟩,λy c h=>?_,I.hok.fresh (Vk _),λy c h=>I.freeC y c (O.sub y c h),λp hp=>absurd (show p∈([]:jw)from hp) (by simp),I.hok.kept N,?_⟩
 .exact I.ok.inj y z c (O.sub y c Z) (O.sub z c A)
 .exact(O.free y (O.outer hy)).2
 .obtain⟨f0,R,T,x,U,f5⟩:=B b G;obtain⟨o,M⟩:=hob b G;exact⟨VI (Vn M),λy c h=>U y c (O.sub y c h)⟩
 .obtain⟨f0,R,T,x,U,f5⟩:=B b G;rcases x with x|x
  .exact I.ok.noex b o e x
  .exact absurd (VX (Vn (I.ok.bs b o e).1) x) (W3 _)
 .obtain⟨f0,R,T,x,U,f5⟩:=B b G;rcases Wf.mp (I.stkSub b hb2)with z|z
  .exact R z
  .exact T z
 .have L:i<σ.length:=by
   by_cases L:i<σ.length
   .exact L
   .rw[VB (Zz.mp L),Yc]at A;split at A<;>cases A
  rw[Vy L]at A;have K:(bH xs X.N)[i]?=b0 y:=by have n:(bH xs X.N++xs)[i]?=b0 y:=Z;rw[Vy (by rw[mG,<- I.len];exact L)]at n;exact n
  have j:scope.names.lookup y≠b0 .local:=λz=>O.own y z (VR K);have E:=O.kindOf s.heap.objs.size y;have h1':X.N[i]?=b0 y:=by
   obtain⟨y0,q1,Q⟩:=KI K;rcases Q with⟨Q,q3⟩|⟨Q,q3⟩
   .exfalso;have hz:=O.hidn y0 (VR q1) Q;rw[<- q3]at hz;rw[hz]at E;have a:(Za scope cl s.heap.objs.size X.env).kindOf y=b0 .local\/(Za scope cl s.heap.objs.size X.env).kindOf y=b0 .cell\/(Za scope cl s.heap.objs.size X.env).kindOf y=b0 .free:=w;rw[E]at a;rcases a with a|a|a<;>cases a
   .rw[q3];exact q1
  have a:(Za scope cl s.heap.objs.size X.env).kindOf y=b0 .cell\/(Za scope cl s.heap.objs.size X.env).kindOf y=b0 .free:=by
   rcases w with w|w|w
   .exfalso;have a:(Za scope cl s.heap.objs.size X.env).kindOf y=b0 .local:=w;rw[E]at a;cases q:scope.names.lookup y with
    |none=>rw[q]at a;cases a|some k=>
     rw[q]at a;cases k with
     | «local»=>exact j q|cell=>simp at a|free=>simp only[V1]at a;split at a<;>cases a|globalExplicit=>simp at a|globalImplicit=>simp at a
   .exact .inl w
   .exact .inr w
  obtain⟨g,c,hc⟩:=O.free y (O.outer a);obtain⟨m0,hn0,hl0⟩:=I.loc;obtain⟨u,r,l⟩:=hl0 i y v h1' A (by rcases g with g|g;exact .inr (.inl g);exact .inr (.inr g));refine⟨u,r,.inr ⟨a,c,hc,?_⟩⟩;rcases l with⟨lk,_⟩|⟨_,c',e',z⟩
  .exfalso;rcases g with g|g
   .rw[g]at lk;cases lk
   .rw[g]at lk;cases lk
  .rw[O.sub y c hc]at e';cases e';obtain⟨o,M,hd⟩:=z;exact⟨o,N c o M,hd⟩
 .obtain⟨v,q⟩:=I.cell y c (O.sub y c h);exact⟨v,by obtain⟨o,M,hd⟩:=q;exact⟨o,N c o M,hd⟩⟩
 .show(σ++XI xs.length b3).length=(bH xs X.N++xs).length;rw[Vh,Vh,I.len,X2,mG]
theorem CompOk.back{a5N R:jw}{σ G:St}{H i:Hp}{s j:Ve}{k:List Addr}{h':WA}{N:List Str}(I:Inv X a5N σ H s)(x:∀b∈k,fZ X a5N H b)
  (J:Inv (cB X scope cl s.heap.objs.size N s H k) R G i j)(p:∀b o,b≠s.heap.objs.size->j.heap.get? b=b0 o->h'.get? b=b0 o):Inv X a5N σ i {j with heap:=h'}:=by
 have u:Un (gP X.stack) k H i s.heap h':=by
  have h:Un (gP X.stack) k H i s.heap j.heap:=J.base;have ne:∀b o,s.heap.get? b=b0 o->b≠s.heap.objs.size:=λb o e=>VI (Vn e);refine⟨λb o e n l m=>p b o (ne b o e) (h.keep b o e n l m),λb o e n l m=>?_,h.free,λb o e m=>?_,h.tups,h.frzs,h.tbls⟩
  .obtain⟨T,q⟩:=h.slot b o e n l m;exact⟨T,p b _ (ne b o e) q⟩
  .obtain⟨Q,q⟩:=h.there b o e m;exact⟨Q,p b _ (ne b o e) q⟩
 have a:i s.heap.objs.size=none:=J.free;have y:HOk X.prog X.w i h':=λb v e=>by
  refine(J.hok b v e).stay (λc w hc q=>p c w ?_ q) (λ_ q=>q) λ_ _ q=>q;rcases hc with z|z
  .rw[z];intro E;rw[E,a]at e;cases e
  .intro E;rw[E,a]at z;cases z
 have A:j.os=s.os:=J.os;obtain⟨Z,g,d,t,B⟩:=j;obtain rfl:B=s.os:=A;have r:=Inv.call (X:=X) (a5N:=a5N) (σ:=σ) (H:=H) (s:=s) (h':=h') (g':=g) (d':=d) (t':=t) (ch:=k) I u y J.bare λb l=>let⟨U,K,Y,L,M,O⟩:=x b l;⟨L,K,M,O⟩;exact r
end
theorem KJ{prog:VE}{w:VW}{A:VO}{R:a1G->Ve->Prop}{s:Ve}{elt a iter:Expr}{ifs:List Expr}{scope:X4}{pos:W9}{E q:Value}{env:a0y}(I:Nat->Ve->Prop)
  (turn:∀n s,I n s->VH (VF prog w) A (Yp E) (λr e=>match r with
   |none=>R (.ok .next) e
   |some v=>VH (VF prog w) A (a0m a E v) (λ_ g=>VH (VF prog w) A (a0Y a env v) (λ_ l=>
     VH (VF prog w) A (forIn ifs dI λc r=>if r=dI then do let ok <- a3i c env (eval c env);pure (Yz ok)else pure (Yz r)) (λok i=>
      if ok=dI then VH (VF prog w) A (eval elt env) (λx o=>
       VH (VF prog w) A (call (.builtin "list.append") [q,x]) (λ_ p=>∃m,m<n/\I m p) (λ_ _=>False) o) (λ_ _=>False) i
      else ∃m,m<n/\I m i) (λ_ _=>False) l) (λ_ _=>False) g) (λ_ _=>False) e) (λ_ _=>False) s)
  (n:Nat)(h:I n s) :
  Zt (VF prog w) A (.compLoop (.ListComp elt [⟨a,iter,ifs,0⟩] scope pos) 0 E q env) R s:=by
 refine codeAny_loop rfl I (λn s G=>?_) n h;show VH _ A ((compTurn (.ListComp elt [⟨a,iter,ifs,0⟩] scope pos) 0 E q env).onRaise (λx=>do noteFrame x env;theTreesLotGoes x)) _ _ s;refine wpAny_noted ?_;rw[compTurn_list];refine Va (a2E (Va (Wr (turn n s G) (λr e j=>?_) λ_ _ d=>d.elim)));cases r with
 |none=>exact Vj j|some v=>
  refine Va (Wr j (λ_ g u=>?_) λ_ _ d=>d.elim);refine Va (Wr u (λ_ l y=>Va (Wr y (λok i k=>?_) λ_ _ d=>d.elim)) λ_ _ d=>d.elim);cases ok with
  |false=>exact Vj ⟨rfl,k⟩|true=>exact Va (Va (Wr k (λx o z=>Va (Wr z (λ_ p B=>Vj (Vj ⟨rfl,B⟩)) λ_ _ d=>d.elim)) λ_ _ d=>d.elim))
noncomputable def nX(c:Hm)(a:Nat)(y:D):Option Hm:=match c[a]? with
 |some (.lst xs)=>if xs.length<Vp then b0 (c.set a (.lst (xs++[y])))else b3|_=>b3
noncomputable abbrev BD:=D->Hm->Option aG
noncomputable def nY:BD:=λd _=>b0 [b0 d]
noncomputable def iH(k:Nat):BD:=λd a=>(bJ a d).bind λxs=>if xs.length=k then b0 (xs.map b0)else b3
noncomputable def gC(a:Hm->Nat->Option (Option D))(h:BD)(c:MT)(e:ME)(ρ:aG)(g:Nat):Nat->Nat->Hm->Option Hm
 |0,_,_=>b3|n+1,i,μ=>(a μ i).bind λo=>match o with
  |none=>b0 μ|some d=>(h d μ).bind λx=>(c (ρ++x) μ).bind λp=>match p.1 with
   |true=>(e (ρ++x) p.2).bind λq=>(nX q.2 g q.1).bind λj=>gC a h c e ρ g n (i+1) j|false=>gC a h c e ρ g n (i+1) p.2
noncomputable def cV:MT:=λ_ a=>b0 (dI,a)
noncomputable def mH(X:Cx)(ifs:List Expr)(m:MT):Prop:=
 ∀(a5N:jw)(s:Ve)(σ:St)(H:Hp)(Q:Bool->Hp->Prop),Inv X a5N σ H s->tMT X.K m σ H Q->
  VH (VF X.prog X.w) X.A (forIn ifs dI λc r=>if r=dI then do let ok <- a3i c X.env (eval c X.env);pure (Yz ok)else pure (Yz r)) (TP X a5N σ Q) X.xe s
theorem KL{X:Cx}:mH X [] cV:=by intro a s j H Q I h;obtain⟨e,i,g,b,d,R,E,c,k⟩:=h;cases c;exact wpAny_tests_nil ⟨H,I,k e H .refl R⟩
theorem KN{X:Cx}{c:Expr}{m:MT}(h:PT X c (tMT X.K m)):mH X [c] m:=λa5N s σ H Q I q=>wpAny_tests_one (h a5N s σ H Q I q)
section
variable{prog:VE}{w:VW}{A:VO}{E:Value->Ve->Prop}{s:Ve}
theorem Co{g t:Addr}{items:Array Value}(j:t≠g):∀(n i:Nat)(s:Ve)(Q:gq->Ve->Prop),s.heap.IsListIter g t i->s.heap.IsList t items->i+n<=items.size->
  (∀l,l.IsListIter g t (i+n)->Y0 g s.heap l->Q ((items.toList.drop i).take n) {s with heap:=l})->VH (VF prog w) A (draw (.ref g) n) Q E s
 |0,i,s,Q,hit,_,_,hQ=>by show VH _ _ (pure []) Q E s;exact Vj (by simpa using hQ s.heap hit (a1K ..))
 |n+1,i,s,Q,hit,ht,hle,hQ=>by
  have h:i<items.size:=by lia
  show VH _ _ (Yp (.ref g) >>= _) Q E s;refine Va (a3d hit ht (x:=items[i]) (by simp[h]) λm c a=>?_);refine Va (Ws (Co j n (i+1) _ _ c (ht.extBut a.extBut j) (by lia) λk d e=>Vj ?_));have hd:items.toList.drop i=items[i]::items.toList.drop (i+1):=by simp[XC,h]
  have:=hQ k (by rw[show i+(n+1)=i+1+n by lia];exact d) (a.trans e);rw[hd,a0o]at this;exact this
theorem KO{t:Addr}{items:Array Value}{Q:gq->Ve->Prop}(q:A.handled=b3)(j:s.heap.IsList t items)
  (p:∀m,a0f s.heap.objs.size s.heap m->Q items.toList {s with heap:=m}):VH (VF prog w) A (unpackItems (.ref t) items.size b3) Q E s:=by
 have i:t≠s.heap.objs.size:=by obtain⟨o,r,_⟩:=j;exact VI (Vn r)
 unfold unpackItems;refine Va ?_
 .unfold notIterableAtAll;refine Va (a5e j.typeIs slot_list_iter.lookup ?_);refine Vj ?_;simp only[Vu,if_false];refine Va (Ws (ZU j ?_));refine Va (Ws (Co i items.size 0 _ _ ⟨_,Vr _ rfl,rfl,rfl⟩ (j.push _) (by lia) λk c a=>?_));have h:List.take items.size (List.drop 0 items.toList)=items.toList:=by rw[Xw];exact W5 (by simp)
  rw[h];rw[if_neg (by simp)];have g:k.IsList t items:=(j.push _).extBut a.extBut i;refine Va (Ws (a3B q c g (by simp) λl d=>?_));simp only[Option.isSome_none,Vu,if_false];refine Vj (p l λb o n e=>d b o n (a.extBut b o n (Vg _ e)))
theorem KP{env:a0y}{a:List Expr} {x1} {pos:W9}{t:Addr}{items:Array Value}{Q:Unit->Ve->Prop}(e:A.handled=b3)(i:s.heap.IsList t items)
  (g:(XY a env).length=items.size)(c:(XY a env).findIdx? (·.1)=b3)
  (h:∀d,a0f s.heap.objs.size s.heap d->VH (VF prog w) A (assignInOrder ((XY a env).map (·.2)) items.toList) Q E {s with heap:=d}) :
  VH (VF prog w) A (a0Y (.Tuple a x1 pos) env (.ref t)) Q E s:=by
 rw[a5t];refine Va (a2E ?_);unfold unpack;rw[g,c];exact Va (Ws (KO e i h))
end
noncomputable def mI:aG->List Nat->List D->aG
 |ρ,i::is,x::xs=>mI (ρ.set i (b0 x)) is xs|ρ,_,_=>ρ
noncomputable def gD(a:List Nat):MG:=λd ρ c=>(bJ c d).bind λxs=>if xs.length=a.length then b0 (mI ρ a xs)else b3
noncomputable def sQ:List Nat->nM
 |[]=>Bf|i::r=>Bg (vP i) (sQ r)
theorem xC{K:U9}{π:Nat->Addr}{n:Nat}{H:Hp}:∀(a:List Nat){vs:gw}{xs:List D}{σ:St}{ρ:aG}{Q:St->Hp->Prop},IsDs K π n H vs xs->En K π n H σ ρ->xs.length=a.length->(∀c,En K π n H c (mI ρ a xs)->Q c H)->sQ a vs σ H Q
 |[],vs,xs,σ,ρ,Q,h,E,hl,k=>by
  cases h with
  |nil=>exact⟨rfl,k σ E⟩|cons h t=>cases hl
 |i::a,vs,xs,σ,ρ,Q,h,E,hl,k=>by
  cases h with
  |nil=>cases hl|cons h t=>exact⟨_,_,rfl,xC a t (E.set h i) (by simpa using hl) k⟩
section
variable{X:Cx}{pos:W9}
theorem KQ{es:List Expr}{k:Nat}{l:List Nat}(hc:X.calm=dI)(h:pM X es (sQ l))(L:(XY es X.env).length=l.length:=by rfl)(n:(XY es X.env).findIdx? (·.1)=none:=by rfl) :
  PG X (.Tuple es k pos) (tMG X.K (gD l)):=by
 intro i s x H v u Q I r hw;obtain⟨O,ρ,N,d,ρ',R,E,hd,Y,M⟩:=hw;obtain⟨K,j,A⟩:=U7.mp Y;split at A
 .rename_i w;cases A;have both:(∃a g,v=.ref a/\SqT X.K H a g/\IsDs X.K O N.length H g K)\/(∃a g,v=.ref a/\SqL X.K H a g/\IsDs X.K O N.length H g K):=by
   cases hd with
   |tup q t=>cases j;exact .inl ⟨_,_,rfl,q,t⟩|rol q t=>cases j;exact .inr ⟨_,_,rfl,q.sq,t⟩|@loc a ha=>
    simp only[bJ]at j;split at j
    .rename_i ys Z;cases j;obtain⟨g,T,U⟩:=R.lst a K Z;exact .inr ⟨_,g,rfl,.of T,U⟩
    .cases j
   |_=>cases j
  rcases both with⟨a,g,rfl,q,t⟩|⟨a,g,rfl,q,t⟩
  .cases r;obtain⟨m,p,B,hz⟩:=I.tuple q;have c:m.length=l.length:=by rw[<- p.length,t.length];exact w
   refine a5s (I.ok.hd hc) B (by simp[L,c]) n λz G=>?_;have y:Inv X i x H {s with heap:=z}:=I.kept (t':=s.toks) λb o e=>G b o (VI (Vn e)) e;exact h i _ x H g _ Q y (by simpa using p) (xC l t E w M)
  .cases r;obtain⟨m,p,B,hz⟩:=I.list q;have c:m.length=l.length:=by rw[<- p.length,t.length];exact w
   refine KP (I.ok.hd hc) B.isList (by simp[L,c]) n λz G=>?_;have y:Inv X i x H {s with heap:=z}:=I.kept (t':=s.toks) λb o e=>G b o (VI (Vn e)) e;exact h i _ x H g _ Q y (by simpa using p) (xC l t E w M)
 .cases A
noncomputable def k5(m:ME)(g:MG):MS:=λρ c=>(m ρ c).bind λp=>(g p.1 ρ p.2).map λa=>(.nx,a,p.2)
theorem KR{tg e:Expr}{m:ME}{g:MG}(r:PE X e (tM X.K m))(s:PG X tg (tMG X.K g))(u:swapsWithSole [tg] e pos.line X.env=pure false:=by rfl)(hw:a2H [tg] e X.env=pure none:=by rfl)
  (h1:(XY [tg] X.env).map (·.2)=[a0Y tg X.env]:=by rfl):PS X (.Assign [tg] e pos) (tMS X.K (k5 m g)):=iF (HG r s u hw h1) (by
 rintro E K H ⟨z,n,w,G,A,y,R,i,a,k⟩;obtain⟨⟨x,d⟩,h1,a⟩:=U7.mp a;obtain⟨B,q,a⟩:=Vd.mp a;cases a;exact⟨z,n,w,x,d,R,i,h1,λc I p l j v=>⟨c,n,_,x,_,j,i.mono l,v,q,λh o=>k c h p l j o⟩⟩)
end
section
variable{X:Cx}{K:U9}
noncomputable def pW:MF:=λds a=>match ds with
 |[.str z]=>if z.length<=Vp then b0 (.int z.length,a)else b3|[x]=>(bJ a x).map λc=>(.int c.length,a)|_=>b3
noncomputable def xD(K:U9):gw->Hp->VK->Prop:=λxs H Q=>(∃p a,xs=[.ref p]/\(SqL K H p a\/SqT K H p a)/\Q (.int a.length) H)\/(∃z,xs=[.str z]/\z.length<=Vp/\Q (.int z.length) H)
theorem call_lenM:CallR X (.builtin "len") (xD X.K):=call_len_seq.or Jg
theorem nZ{π:Nat->Addr}{c:Hm}{H:Hp}{v:V}{x:D}{xs:List D}(R:Rp K π H c)(h:IsD K π c.length H v x)(e:bJ c x=b0 xs):∃p vs,v=.ref p/\(SqL K H p vs\/SqT K H p vs)/\IsDs K π c.length H vs xs:=by
 cases h with
 |tup q t=>cases e;exact⟨_,_,rfl,.inr q,t⟩|rol q t=>cases e;exact⟨_,_,rfl,.inl q.sq,t⟩|@loc a j=>
  simp only[bJ]at e;split at e
  .rename_i k i;cases e;obtain⟨vs,d,g⟩:=R.lst a xs i;exact⟨_,vs,rfl,.inl (.of d),g⟩
  .cases e
 |_=>cases e
theorem Cp:dS K pW (xD K):=by
 intro c H r n d l m Q R i a k;unfold pW at a;split at a
 .split at a
  .rename_i h;cases a;cases i with
   |cons i t=>cases i;cases t;exact .inr ⟨_,rfl,h,k c _ H .refl R (.int _)⟩
  .cases a
 .obtain⟨o,e,g⟩:=Vd.mp a;cases g;cases i with
  |cons i t=>cases t;obtain⟨p,j,rfl,q,hd⟩:=nZ R i e;refine .inl ⟨p,j,rfl,q,?_⟩;rw[hd.length];exact k c _ H .refl R (.int _)
 .cases a
noncomputable def Cq(K:U9):gw->Hp->VK->Prop:=λvs H Q=>∃π a x v t c b,vs=[v,.ty c]/\Rp K π H a/\IsD K π a.length H v x/\xB a x=b0 t/\sP t c=b0 b/\Q (.bl b) H
theorem KS:dS K jV (Cq K):=by
 intro c H p o d m n Q R i a k;unfold jV at a;split at a
 .obtain⟨t,e,a⟩:=U7.mp a;obtain⟨b,g,a⟩:=Vd.mp a;cases a;cases i with
  |cons i j=>
   cases j with
   |cons h l=>cases l;cases h;exact⟨c,_,_,_,t,_,b,rfl,R,i,e,g,k c _ H .refl R (.bl _)⟩
 .cases a
theorem KU:CallR X (.builtin "isinstance") (Cq X.K):=by
 intro G s σ H O us Q I r h;obtain⟨M,μ,x,v,t,c,b,rfl,R,i,d,k,q⟩:=h;obtain⟨u,u2,rfl,m,Y⟩:=pQ r;cases Y;have fin:∀L,EP X G σ Q (.bool b) {s with toks:=L}:=λL=>⟨.bl b,H,I.tok L,rfl,q⟩;cases i with
 |non=>cases d;cases m;exact XN PySem.W.kitx_none I.kIn Y5 (jW X.K (by simp) k) (λz=>nomatch z) fin|bl y=>cases d;cases m;exact XN PySem.W.kitx_bool I.kIn Y5 (jW X.K (by simp) k) (λz=>nomatch z) fin|int y=>cases d;obtain⟨t,rfl⟩:=m;exact XN PySem.W.kitx_int I.kIn Y5 (jW X.K (by simp) k) (λz=>nomatch z) fin|str y=>cases d;obtain⟨t,rfl⟩:=m;exact XN PySem.W.kitx_str I.kIn Y5 (jW X.K (by simp) k) (λz=>nomatch z) fin|tup g t=>cases d;cases m;obtain⟨B,N,p,_⟩:=I.tuple g;obtain⟨o,e,j,_⟩:=p;exact XN PySem.W.kitx_tuple I.kIn ⟨o,e,j⟩ (jW X.K (by simp) k) (λz=>nomatch z) fin|rol g t=>cases d;cases m;obtain⟨B,N,p,_⟩:=I.list g.sq;obtain⟨o,e,j,_⟩:=p.isList;exact XN a2u I.kIn ⟨o,e,j⟩ (jW X.K (by simp) k) (λz=>nomatch z) fin|@loc a ha=>
  cases m;simp only[xB]at d;split at d
  .rename_i O A;cases d;obtain⟨E,w,h4⟩:=R.lst a O A;obtain⟨B,N,p,_⟩:=I.list (SqL.of (K:=X.K) w);obtain⟨o,e,j,_⟩:=p.isList;exact XN a2u I.kIn ⟨o,e,j⟩ (jW X.K (by simp) k) (λz=>nomatch z) fin
  .rename_i l A;cases d;obtain⟨E,w,_⟩:=R.dK a l A;obtain⟨_,_,Z,_,p⟩:=(show ObjOk X.prog X.w H s.heap (M a) (.dK E)from I.hok _ _ w);obtain⟨o,U,T,e,j,_⟩:=p;exact XN a2v I.kIn ⟨o,e,j.1⟩ (jW X.K (by simp) k) (λz=>nomatch z) fin
  .rename_i l A;cases d;obtain⟨E,w,_⟩:=R.dT a l A;obtain⟨⟨Z,_,_,_,o,U,T,e,j,_⟩,_⟩:=(show ObjOk X.prog X.w H s.heap (M a) (aS (M a) E)from I.hok _ _ w);exact XN a2v I.kIn ⟨o,e,j.1⟩ (jW X.K (by simp) k) (λz=>nomatch z) fin
  .cases d
 |ty n=>cases d
end
inductive IsKs (K:U9)(π:Nat->Addr)(n:Nat)(H:Hp):List (bY×V)->List (bY×D)->Prop where
 |nil:IsKs K π n H [] []
 |cons {k:bY}{v:V}{d:D}{vs:List (bY×V)}{ds:List (bY×D)}(h:IsD K π n H v d)(t:IsKs K π n H vs ds):IsKs K π n H ((k,v)::vs) ((k,d)::ds)
section
variable{K:U9}{π π':Nat->Addr}{n n':Nat}{H H':Hp}
theorem IsKs.length{vs:List (bY×V)}{ds:List (bY×D)}(h:IsKs K π n H vs ds):vs.length=ds.length:=by
 induction h with
 |nil=>rfl|cons h t a=>rw[VD,VD,a]
end
noncomputable def KW(K:U9)(a:List (ME×ME)):List (TE×TE):=a.map λp=>(tM K p.1,tM K p.2)
section
variable{X:Cx}{a b c:Expr}{ma mb mc:ME}{pos:W9}
end
theorem eJ{k:Nat}{A:VO}(r:Room k A):A.units+1<W0:=by have:=r.un;lia
noncomputable def eK(a:ME):ME:=λρ c=>(a ρ c).bind λp=>(w4 p.1).map λd=>(d,p.2)
noncomputable def fR(cells:List (Str×Addr)):List (Str×X9)->List (Str×Addr)->List (Str×Addr)
 |[],acc=>acc|(n,k)::r,acc=>if k=.free then(match cells.lookup n with|some c=>fR cells r ((n,c)::acc)|none=>fR cells r acc)else fR cells r acc
theorem Cr{env:a0y}:∀(names:List (Str×X9))(a:List (Str×Addr)),(∀y∈names,y.2=.free->∃c,env.cells.lookup y.1=b0 c)->
  (forIn names a λ(x:Str×X9)(g:List (Str×Addr))=>(do
   if x.2==.free then(do let c <- cellOf env x.1;pure (Yz ((x.1,c)::g)))else pure (Yz g):a2S (ForInStep (List (Str×Addr)))))=pure (fR env.cells names a)
 |[],a,_=>rfl|(n,k)::r,a,h=>by
  have i:=λa=>Cr r a λy j=>h y (VU _ j);rw[a3Y];by_cases d:k=.free
  .subst d;obtain⟨c,hc⟩:=h (n,.free) (Wj ..) rfl;dsimp only at hc;have e:cellOf env n=pure c:=by unfold cellOf;rw[hc]
   simp only[fR,hc,e,beq_self_eq_true,if_true,pure_bind];exact i _
  .have e:(k==XS)=false:=by simpa using d
   simp only[fR,e,d,if_false,Vu,pure_bind];exact i _
theorem KY{scope:X4}{env:a0y}(h:∀y∈scope.names,y.2=.free->∃c,env.cells.lookup y.1=b0 c):a4r scope env=pure (fR env.cells scope.names []):=by have:=Cr (env:=env) scope.names [] h;unfold a4r;simp only[bind_pure]at *;exact this
theorem sR{cells:List (Str×Addr)}:∀(names:List (Str×X9))(a:List (Str×Addr)),(∀y c,a.lookup y=b0 c->cells.lookup y=b0 c)->∀y c,(fR cells names a).lookup y=b0 c->cells.lookup y=b0 c
 |[],a,h=>h|(n,k)::r,a,h=>by
  unfold fR;split
  .split
   .rename_i g hc;refine sR r _ λy c e=>?_;rw[Y6]at e;by_cases d:y=n
    .subst d;simp only[beq_self_eq_true]at e;cases e;exact hc
    .have:(y==n)=false:=by simpa using d
     rw[this]at e;exact h y c e
   .exact sR r a h
  .exact sR r a h
theorem sS{cells:List (Str×Addr)}:∀(names:List (Str×X9))(a:List (Str×Addr))(y:Str),(∃c,a.lookup y=b0 c)->∃c,(fR cells names a).lookup y=b0 c
 |[],a,y,h=>h|(n,k)::r,a,y,h=>by
  unfold fR;split
  .split
   .refine sS r _ y ?_;rw[Y6];by_cases d:(y==n)=dI
    .rw[d];exact⟨_,rfl⟩
    .have:(y==n)=false:=by simpa using d
     rw[this];exact h
   .exact sS r a y h
  .exact sS r a y h
theorem sT{cells:List (Str×Addr)}:∀(names:List (Str×X9))(a:List (Str×Addr))(y:Str),(y,XS)∈names->(∃c,cells.lookup y=b0 c)->∃c,(fR cells names a).lookup y=b0 c
 |[],a,y,h,_=>by cases h
 |(n,k)::r,a,y,h,hc=>by
  unfold fR;rcases Wf.mp h with h|h
  .cases h;obtain⟨c,hc⟩:=hc;rw[if_pos rfl,hc];exact sS r _ _ ⟨c,by simp[Y6]⟩
  .split
   .split
    .exact sT r _ y h hc
    .exact sT r _ y h hc
   .exact sT r _ y h hc
structure CompSt(osc:X4)(N:List Str)(scope:X4)(xs:List Str):Prop where
 nocell:∀y∈scope.names,y.2≠.cell
 kind:scope.kind=.function
 names:∀y∈scope.names,y.2=.local->scope.names.lookup y.1=b0 .local
 here:∀x∈xs,scope.names.lookup x=b0 .local
 free:∀y∈scope.names,y.2=.free->osc.names.lookup y.1=b0 .cell\/osc.names.lookup y.1=b0 .free
 own:∀y∈scope.names,y.2=.local->y.1∉bH xs N
 nd:N.Nodup
 hnd:(bH xs N).Nodup
 hidn:∀y∈N,xs.contains y=dI->scope.names.lookup (nW y)=b3
theorem CompSt.ok{X:Cx}{scope:X4}{xs:List Str}(S:CompSt X.env.scope X.N scope xs)(ok:X.Ok):CompOk X scope (fR X.env.cells scope.names []) xs:=by
 have has:∀y∈scope.names,y.2=.free->∃c,X.env.cells.lookup y.1=b0 c:=λy g d=>ok.has y.1 (S.free y g d);refine⟨KY has,S.nocell,S.kind,S.names,S.here,sR scope.names [] (λy c e=>by cases e),λy e=>?_,λy e=>?_,S.hidn⟩
 .have a:=WN e;exact⟨S.free _ a rfl,sT scope.names [] y a (has _ a rfl)⟩
 .exact S.own _ (WN e) rfl
section
variable{X:Cx}{pos:W9}
end
noncomputable def dA(e:Expr):Bool:=!(e.ctorIdx==22)
theorem fS{e:Expr}{es:List Expr}{env:a0y}(h:dA e=dI):V7 (e::es) env=(b5,eval e env)::V7 es env:=by cases e<;>first|rfl|cases h
theorem mJ{pos:W9}{env:a0y}:∀{es:List Expr},es.all dA=dI->(Yq pos (V7 es env)).any (·.1)=b5
 |[],_=>rfl|e::es,h=>by rw[Wg,Vl]at h;rw[fS h.1];have:=mJ (pos:=pos) (env:=env) h.2;simpa[Yq]using this
theorem sU{e:Expr}{es:List Expr}{env:a0y}(h:dA e=dI):XY (e::es) env=(b5,a0Y e env)::XY es env:=by cases e<;>first|rfl|cases h
theorem Ct{env:a0y}:∀{es:List Expr},es.all dA=dI->(XY es env).length=es.length
 |[],_=>rfl|e::es,h=>by rw[Wg,Vl]at h;rw[sU h.1,VD,VD,Ct h.2]
theorem Cu{env:a0y}:∀{es:List Expr},es.all dA=dI->(XY es env).findIdx? (·.1)=b3
 |[],_=>rfl|e::es,h=>by rw[Wg,Vl]at h;rw[sU h.1,List.findIdx?_cons,Cu h.2];rfl
section
variable{X:Cx}{e a b c:Expr}{es:List Expr}{m:ME}{ms:MA}{pos:W9}
end
structure QE(X:Cx)(e:Expr)(m:ME):Prop where
 h:PE X e (tM X.K m)
structure QT(X:Cx)(e:Expr)(m:MT):Prop where
 h:PT X e (tMT X.K m)
structure QW(X:Cx)(e:Expr)(m:MT):Prop where
 h:PW X e (tMT X.K m)
structure QA(X:Cx)(es:List Expr)(m:MA)(n:Nat):Prop where
 h:PA X es (tMA X.K m)
 l:∀ρ μ ds μ',m ρ μ=b0 (ds,μ')->ds.length=n
 s:es.all dA=dI
structure QO(X:Cx)(e:Option Expr)(m:MO):Prop where
 h:PO X e (tMO X.K m)
structure QS(X:Cx)(st:Stmt)(m:MS):Prop where
 h:PS X st (tMS X.K m)
structure QB(X:Cx)(st:List Stmt)(m:MS):Prop where
 h:PSs X st (tMS X.K m)
structure QG(X:Cx)(e:Expr)(g:MG):Prop where
 h:PG X e (tMG X.K g)
structure QGs(X:Cx)(es:List Expr)(is:List Nat):Prop where
 h:pM X es (sQ is)
 n:es.length=is.length
 s:es.all dA=dI
structure QI(X:Cx)(ifs:List Expr)(m:MT):Prop where
 h:mH X ifs m
structure QP(X:Cx)(pos:W9)(keys:List (Option Expr))(values:List Expr)(prs:List (ME×ME)):Prop where
 h:IG X pos keys values (KW X.K prs)
 a:keys.all (·.isSome)=dI
 l:keys.length=values.length
section
variable{X:Cx}{e a b c:Expr}{m ma mb mc:ME}{pos:W9}{mt mu:MT}{rest es:List Expr}{ms:MA}{n:Nat}
theorem KZ{x:Str}(i:Nat)(g:X.N[i]?=b0 x:=by rfl)(h:l9 X.env.scope x:=by first|exact a1R rfl|exact a0D (a1R rfl)|exact a0D (a0D rfl))(hd:(x==("__debug__":Str))=false:=by decide)
  (d:(x==("__classdict__":Str))=false:=by decide):QE X (.Name x pos) (aA i):=⟨JB i (Bb g h hd d)⟩
theorem K0{i:Int}{j:Nat}:QE X (.Constant (.int i) j pos) (mC (.int i)):=⟨JC⟩
theorem K1{i:Bool}{j:Nat}:QE X (.Constant (.bool i) j pos) (mC (.bl i)):=⟨JD⟩
theorem K2{i:Str}{j:Nat}:QE X (.Constant (.str i) j pos) (mC (.str i)):=⟨JE⟩
theorem K3{j:Nat}:QE X (.Constant .none j pos) (mC .non):=⟨JF⟩
theorem pX{op:a2k}{r:R2}{f:D->D->Hm->jk}(i:OpR X (YS op) r)(h:cS X.K f r)(d:QE X a ma)(g:QE X b mb):QE X (.BinOp a op b pos) (aC f ma mb):=⟨JG i h d.h g.h⟩
theorem K4(d:QE X a ma)(g:QE X b mb):QE X (.BinOp a .Add b pos) (aC aW ma mb):=pX Ku Kv d g
theorem K5(d:QE X a ma)(g:QE X b mb):QE X (.BinOp a .Sub b pos) (aC cL ma mb):=pX HZ Kn d g
theorem K6(d:QE X a ma)(g:QE X b mb):QE X (.BinOp a .Mult b pos) (aC b8 ma mb):=pX Kl Kq d g
theorem K7(d:QE X a ma)(g:QE X b mb):QE X (.BinOp a .FloorDiv b pos) (aC cP ma mb):=pX Km Kr d g
theorem K8(d:QE X a ma)(g:QE X b mb):QE X (.BinOp a .Mod b pos) (aC aV ma mb):=pX Ia Ks d g
theorem K9(d:QE X a ma):QE X (.UnaryOp .USub a pos) (eK ma):=⟨Kw d.h⟩
theorem La(d:QE X a ma):QE X (.UnaryOp .Not a pos) (nR ma):=⟨JQ d.h⟩
theorem Lb{k:Nat}(h:Room k X.A)(d:QE X a ma)(g:QE X b mb):QE X (.Compare a [.Eq] [b] pos) (aC (aX b5) ma mb):=⟨eV (Cg (sO h)) sN d.h g.h (dD _)⟩
theorem Lc{k:Nat}(h:Room k X.A)(d:QE X a ma)(g:QE X b mb):QE X (.Compare a [.NotEq] [b] pos) (aC (aX dI) ma mb):=⟨eV (Ci (sO h)) sN d.h g.h (dD _)⟩
theorem Ld(d:QE X a ma)(g:QE X b mb):QE X (.Compare a [.Lt] [b] pos) (aC cU ma mb):=⟨eV vY gX d.h g.h (dD _)⟩
theorem Le(d:QE X a ma)(g:QE X b mb):QE X (.Compare a [.LtE] [b] pos) (aC kZ ma mb):=⟨eV vZ gX d.h g.h (dD _)⟩
theorem Lf(d:QE X a ma)(g:QE X b mb):QE X (.Compare a [.Gt] [b] pos) (aC jB ma mb):=⟨eV v7 gX d.h g.h (dD _)⟩
theorem Lg(d:QE X a ma)(g:QE X b mb):QE X (.Compare a [.GtE] [b] pos) (aC pV ma mb):=⟨eV v8 gX d.h g.h (dD _)⟩
noncomputable def fH(e:Expr):Bool:=!(e.ctorIdx==7)
theorem gY{op:Zg}{b:Expr}(h:fH b=dI):Yv op b=false:=by cases b<;>first|rfl|cases h
theorem Lh{op:BoolOp}(h:QE X a m):QE X (.BoolOp op [a] pos) m:=⟨JN h.h⟩
theorem Li(d:QE X a ma)(g:QE X (.BoolOp .And (b::rest) pos) mb):QE X (.BoolOp .And (a::b::rest) pos) (c8 ma mb):=⟨JO d.h g.h⟩
theorem Lj(d:QE X a ma)(g:QE X (.BoolOp .Or (b::rest) pos) mb):QE X (.BoolOp .Or (a::b::rest) pos) (wO ma mb):=⟨JP d.h g.h⟩
theorem Lk(hc:QT X c mt)(d:QE X a ma)(g:QE X b mb):QE X (.IfExp c a b pos) (i9 mt ma mb):=⟨JR hc.h d.h g.h⟩
theorem Ll:QA X [] aD 0:=⟨JS,JX,rfl⟩
theorem Lm(g:QE X e m)(d:QA X es ms n)(h:dA e=true:=by rfl):QA X (e::es) (aB m ms) (n+1):=⟨JT g.h d.h (fS h),JY d.l,by rw[Wg,h,d.s];rfl⟩
theorem Ln{d:Nat}(h:QA X es ms n):QE X (.Tuple es d pos) (aU ms):=⟨JU h.h⟩
theorem Lo(h:QA X es ms n):QE X (.List es pos) (bU ms):=⟨JV h.h⟩
noncomputable def n5(e:Expr):Bool:=!(e.ctorIdx==26)
theorem Cv{b:Expr}(h:n5 b=dI):wH b:=by intro o i;cases b<;>first|rfl|cases h
theorem Lp(d:QE X a ma)(g:QE X b mb)(h:n5 b=true:=by rfl):QE X (.Subscript a b pos) (aC fN ma mb):=⟨J3 d.h g.h (Cv h)⟩
theorem Lq:QO X b3 gT:=⟨J4⟩
theorem Lr(h:QE X e m):QO X (b0 e) (f9 m):=⟨J5 h.h⟩
theorem Ls{lo d:Option Expr}{h g:MO}{l:W9}(i:QE X a ma)(j:QO X lo h)(k:QO X d g):QE X (.Subscript a (.Slice lo d b3 l) pos) (jA ma h g):=⟨J7 i.h j.h k.h⟩
theorem Lu{k:Nat}{f:Addr}{i:X5}{ps:List Str}{j:MF}{x:Str}{p:W9}(F:FnOk X.prog X.w X.K X.mg X.base fF k f i ps (iE X.K n j))(s:Room k X.A)(r:X.mg x=b0 (.ref f))
  (q:Xp X.K (.ref f)=dI)(l:Binds X.K i ps [])(d:QA X (e::es) ms n)(o:Gl X x:=by rfl)(g:(x==("__debug__":Str))=false:=by decide):QE X (.Call (.Name x p) (e::es) [] pos) (aF j ms):=by
 have h:=d.s;rw[Wg,Vl]at h;exact⟨JZ F s o r q l d.h d.l g (fS h.1) (mJ h.2)⟩
theorem Lv{f:MF}{r:gw->Hp->VK->Prop}{id:String}{x:Str}{p:W9}(hc:CallR X (.builtin id) r)(i:dS X.K f r)(k:X.mg x=b3)(o:Xb x=b0 (.builtin id))(h:QA X (e::es) ms n)
  (j:Gl X x:=by rfl)(l:x ≠ "__name__":=by decide) (d:(x==("__debug__":Str))=false:=by decide):QE X (.Call (.Name x p) (e::es) [] pos) (aF f ms):=by
 have g:=h.s;rw[Wg,Vl]at g;exact⟨J0 hc i j k o h.h l d (fS g.1) (mJ g.2)⟩
theorem Lx{f:MF}{r:gw->Hp->VK->Prop}{T:String}{x:Str}{p:W9}(hc:CallR X (.type T) r)(i:dS X.K f r)(k:X.mg x=b3)(o:Xb x=b0 (.type T))(h:QA X (e::es) ms n)
  (j:Gl X x:=by rfl)(l:x ≠ "__name__":=by decide) (d:(x==("__debug__":Str))=false:=by decide):QE X (.Call (.Name x p) (e::es) [] pos) (aF f ms):=by
 have g:=h.s;rw[Wg,Vl]at g;exact⟨J1 hc i j k o h.h l d (fS g.1) (mJ g.2)⟩
theorem Lz{x:Str}{n:String}(g:X.mg x=b3)(i:Xb x=b0 (.type n))(d:Gl X x:=by rfl)(h:x ≠ "__name__":=by decide) (hd:(x==("__debug__":Str))=false:=by decide):QE X (.Name x pos) (mC (.ty n)):=⟨Ky d g i h hd⟩
theorem LA{k:Nat}(h:Room k X.A)(d:QE X a ma)(g:QE X b mb):QT X (.Compare a [.Eq] [b] pos) (aO (aC (aX b5) ma mb)):=⟨eW (Cg (sO h)) sN d.h g.h (dD _)⟩
theorem LB{k:Nat}(h:Room k X.A)(d:QE X a ma)(g:QE X b mb):QT X (.Compare a [.NotEq] [b] pos) (aO (aC (aX dI) ma mb)):=⟨eW (Ci (sO h)) sN d.h g.h (dD _)⟩
theorem LC(d:QE X a ma)(g:QE X b mb):QT X (.Compare a [.Lt] [b] pos) (aO (aC cU ma mb)):=⟨eW vY gX d.h g.h (dD _)⟩
theorem LF(d:QE X a ma)(g:QE X b mb):QT X (.Compare a [.LtE] [b] pos) (aO (aC kZ ma mb)):=⟨eW vZ gX d.h g.h (dD _)⟩
theorem LG(d:QE X a ma)(g:QE X b mb):QT X (.Compare a [.Gt] [b] pos) (aO (aC jB ma mb)):=⟨eW v7 gX d.h g.h (dD _)⟩
theorem LH(d:QE X a ma)(g:QE X b mb):QT X (.Compare a [.GtE] [b] pos) (aO (aC pV ma mb)):=⟨eW v8 gX d.h g.h (dD _)⟩
noncomputable def xE:Expr->Bool
 |.UnaryOp .Not ..=>b5|.BoolOp ..=>b5|.IfExp ..=>b5|.Compare ..=>b5|_=>dI
theorem LI{e:Expr}{env:a0y}(h:xE e=dI):∀d,a3i e env d=(do let v <- d;standAt e.pos;holding [v] (truthy v)):=by
 intro d;cases e<;>first|rfl|cases h|skip
 rename_i g x p;cases g<;>first|rfl|cases h
theorem LJ(d:QT X a mt):QT X (.UnaryOp .Not a pos) (f7 mt):=⟨JM d.h⟩
theorem LK(d:QT X a mt):QW X (.BoolOp .And [a] pos) mt:=⟨JI d.h⟩
theorem LL(d:QT X a mt):QW X (.BoolOp .Or [a] pos) mt:=⟨JJ d.h⟩
theorem LM(d:QT X a mt)(g:QW X (.BoolOp .And (b::rest) pos) mu):QW X (.BoolOp .And (a::b::rest) pos) (fG mt mu):=⟨JK d.h g.h⟩
theorem LN(d:QT X a mt)(g:QW X (.BoolOp .Or (b::rest) pos) mu):QW X (.BoolOp .Or (a::b::rest) pos) (i8 mt mu):=⟨JL d.h g.h⟩
theorem LO(h:QW X e mt):QT X e mt:=⟨h.h.pt⟩
theorem LP:QI X [] cV:=⟨KL⟩
theorem LQ(h:QT X c mt):QI X [c] mt:=⟨KN h.h⟩
end
section
variable{X:Cx}{e a b c:Expr}{m:ME}{pos:W9}{mt:MT}{st:Stmt}{rest body orelse:List Stmt}{ms mr mu:MS}{n:Nat}{is:List Nat}{es:List Expr}{g:MG}
theorem LR:QB X [] bC:=⟨J8⟩
theorem LS(h1:QS X st ms)(d:QB X rest mr):QB X (st::rest) (aH ms mr):=⟨J9 h1.h d.h⟩
theorem LU(h1:QS X st ms):QB X [st] ms:=⟨Ka h1.h⟩
theorem LV:QS X (.Pass pos) bC:=⟨Kb⟩
theorem LW(d:QE X e m):QS X (.Return (b0 e) pos) (aN m):=⟨Kc d.h⟩
noncomputable def jC(e:Expr):Bool:=!(e.ctorIdx==8||e.ctorIdx==9||e.ctorIdx==10)
theorem sV{e:Expr}{t:Option Expr}{n:Nat}{env:a0y}(h:jC e=dI):Zj e t n env=pure false:=by cases e<;>first|rfl|cases h
theorem LX(d:QE X e m)(h:jC e=true:=by rfl):QS X (.Expr e pos) (c9 m):=⟨Kd d.h (sV h)⟩
theorem LY(hc:QT X c mt)(d:QB X body ms)(h:QB X orelse mu):QS X (.If c body orelse pos) (bA mt ms mu):=⟨Ke hc.h d.h h.h⟩
theorem LZ(i:Nat){x:Str}{d:W9}(j:X.N.Nodup)(k:QE X e m)(h:jC e=true:=by rfl)(o:X.N[i]?=b0 x:=by rfl)(p:Loc X.env.scope x:=by first|exact a1R rfl|exact a0D rfl)
  (l:X.fn x=dI\/X.env.scope.names.lookup x=b0 .local:=by first|exact .inl rfl|exact .inr rfl):QS X (.Assign [.Name x d] e pos) (aM i m):=⟨B4 j o p k.h (sV h) l⟩
theorem L0(i:Nat){x:Str}(d:X.N.Nodup)(j:X.N[i]?=b0 x:=by rfl)(k:Loc X.env.scope x:=by first|exact a1R rfl|exact a0D rfl)
  (h:X.fn x=dI\/X.env.scope.names.lookup x=b0 .local:=by first|exact .inl rfl|exact .inr rfl):QG X (.Name x pos) (cI i):=⟨Ck d j k h⟩
theorem Cw:QGs X [] []:=⟨HE,rfl,rfl⟩
theorem Cy(i:Nat){x:Str}(h:X.N.Nodup)(d:QGs X es is)(k:X.N[i]?=b0 x:=by rfl)(l:Loc X.env.scope x:=by first|exact a1R rfl|exact a0D rfl)
  (j:X.fn x=dI\/X.env.scope.names.lookup x=b0 .local:=by first|exact .inl rfl|exact .inr rfl):QGs X (.Name x pos::es) (i::is):=
 ⟨HF (Be h k l j) d.h (by rw[sU (e:=.Name x pos) rfl];rfl),by rw[VD,VD,d.n],by rw[Wg,d.s];rfl⟩
theorem xF{k:Nat}(h:QGs X es is)(hc:X.calm=true:=by rfl):QG X (.Tuple es k pos) (gD is):=⟨KQ hc h.h ((Ct h.s).trans h.n) (Cu h.s)⟩
noncomputable def xG(e:Expr):Bool:=!(e.ctorIdx==25)
theorem L1{es:List Expr}{k:Nat}{pt:W9}{e:Expr}{env:a0y}(h:xG e=dI):a2H [.Tuple es k pt] e env=pure none:=by cases e<;>first|rfl|cases h
theorem L4{k:Nat}{pt:W9}(d:QE X e m)(i:QG X (.Tuple es k pt) g)(h:xG e=true:=by rfl):QS X (.Assign [.Tuple es k pt] e pos) (k5 m g):=
 ⟨KR d.h i.h (by cases e<;>rfl) (L1 h) (by rw[sU (e:=.Tuple es k pt) rfl];rfl)⟩
end
section
variable{P:VE}{w:VW}{K:U9}{mg:Str->Option Value}{base:WA}
theorem L5{x a:Str}{st:Stmt}{f:Addr}{h:X5}{N ps:List Str}{k:Nat}{body:List Stmt}{m:MS}(F:Fun K x a st f h)(S:FnScope N ps (cA st))(g:ps.length<=N.length)(e:eU st=body)
  (d:∀(c:Value)(A:VO)(outer:List a0y)(s:Ve)(H:Hp)(E:XK),Room k (A.deeper (a1p a (cA st) s.heap.objs.size f c))->
   QB (jT fF P w K mg base N a (cA st) f c A outer s H E).nox body m):FnOk P w K mg base fF (k+1) f h ps (iE K ps.length (wQ N.length m)):=
 Kg F S g λc A outer s H E i=>by rw[e];exact(d c A outer s H E i).h
end
noncomputable abbrev eM:=Hm->Nat->Option (Option D)
noncomputable abbrev MI:=aG->Hm->Option (eM×Nat×Hm)
inductive tMI (K:U9)(m:MI)(σ:St)(H:Hp)(R:It->Hp->Prop):Prop
 |mk (π:Nat->Addr)(ρ:aG)(μ:Hm)(src:eM)(n:Nat)(μ':Hm)(r:Rp K π H μ)(E:En K π μ.length H σ ρ)(hm:m ρ μ=b0 (src,n,μ'))(k:∀π' H' J,Ext π μ.length H π' μ'.length H'->Rp K π' H' μ'->Wk K J src π' μ'.length H'->R J H'):tMI K m σ H R
structure QJ(X:Cx)(e:Expr)(m:MI):Prop where
 h:∀tg,PI X tg e (tMI X.K m)
section
variable{X:Cx}{pos:W9}{e:Expr}{m:ME}
noncomputable def Cz:MI:=λ_ _=>b3
theorem L6:QJ X e Cz:=⟨λtg a5N s σ H R I hw=>by
 obtain⟨i,j,h,c,n,d,g,E,a,k⟩:=hw;cases a⟩
noncomputable def pY(x:Str):List D:=x.cps.toList.map λc=>.str ⟨#[c]⟩
noncomputable def jY(a:Hm):D->Option (List D)
 |.str x=>b0 (pY x)|d=>bJ a d
noncomputable def eB(x:D):eM:=λa i=>(jY a x).map λxs=>xs[i]?
noncomputable def xH(x:Str):It:=⟨λi _=>i<x.cps.size,λi H v a=>a=H/\∃c,x.cps[i]?=b0 c/\v=.str ⟨#[c]⟩,λi _=>x.cps.size<=i⟩
theorem L7{P:VE}{w:VW}{K:U9}{tg:Expr}{T:String}(G:T="str_ascii_iterator"\/T="str_iterator") (a:Addr)(x:Str)(t:a4U):Turn Qc P w K tg (xH x) [a] a (λi h=>h.IsStrIter a T x t i) where
 mem:=by simp
 obj:=λi h st b g=>by
  have e:b=a:=by simpa using g
  subst e;obtain⟨o,e,c,d⟩:=st;exact⟨o,e,λv z=>by rw[d]at z;cases z⟩
 keep:=λi h l st k=>let⟨o,e,c,d⟩:=st;⟨o,k a (by simp) o e,c,d⟩;item:=by
  intro X O hw N hc i j s U H E I L st Q;subst O hw N;obtain⟨q,r,f2,y,A,B⟩:=L a (by simp);have W:Walks X.prog X.w X.A a [a] [a] x.cps.size (SignAt x) (λi h=>h.IsStrIter a T x t i):=by
   rcases G with rfl|rfl
   .exact Walks.strAscii (I.ok.hd hc) a x t
   .exact Walks.strWide (I.ok.hd hc) a x t
  refine W.item i s _ _ Q st λv l R hv p kk=>?_;obtain⟨c,u,hx,rfl⟩:=hv;have Y:Inv X j U H {s with heap:=l,toks:=R}:=I.turned (λb o g e=>kk b o (by simpa using g) e) q r y A B;obtain⟨o,e,Z,d⟩:=id p;exact⟨_,rfl,nN (s:={s with heap:=l,toks:=R}) e Z d (by rcases G with rfl|rfl<;>decide) ⟨.str ⟨#[c]⟩,H,Y,⟨u,rfl⟩,⟨rfl,c,hx,rfl⟩,p,λb g=>(L b g).1⟩⟩
 done:=by
  intro X O hw N hc i j s U H E I L st Q;subst O hw N;obtain⟨q,r,f2,y,A,B⟩:=L a (by simp);have n:x.cps.size<=i:=Q;rcases G with rfl|rfl
  .exact wpAny_pyNext_ascii_end (I.ok.hd hc) st (by simp[n]) λl M=>⟨rfl,I.turned (t':=s.toks) (λb o g e=>M b o g e) q r y A B⟩
  .exact wpAny_pyNext_wide_end (I.ok.hd hc) st (by simp[n]) λl M=>⟨rfl,I.turned (t':=s.toks) (λb o g e=>M b o g e) q r y A B⟩
 self:=λ_ _ _ _ _ st h=>by
  rcases G with rfl|rfl
  .exact wpAny_pyIter_striter_ascii st h
  .exact wpAny_pyIter_striter_wide st h
theorem L8{l tg:Expr}{j:TE}(p:PE X l j):PI X tg l (λσ H R=>j σ H λv d=>∃x,v=.str x/\R (xH x) d):=by
 intro c s σ H R I h;refine aR (p c s σ H _ I h) λv a ⟨y,d,g,u,r⟩=>?_;obtain⟨x,e,q⟩:=r;subst e;obtain⟨t,rfl⟩:=u;have fin:∀T,(T="str_ascii_iterator"\/T="str_iterator")->vQ X c σ tg R (.ref a.heap.objs.size) {a with heap:=a.heap.push {cls:=.type T,data:=.fields #[.str x t,.int 0 0]}}:=λT k=>by
  refine⟨a.heap.objs.size,[a.heap.objs.size],_,_,d,rfl,g.kept (t':=a.toks) λb o e=>Vg _ e,L7 k _ x t,⟨_,Vr _ rfl,rfl,rfl⟩,λb n=>?_,q⟩;have e:b=a.heap.objs.size:=by simpa using n
  subst e;exact g.fpOk (Vk _) (g.hok.fresh (Vk _))
 cases i:x.cps.all (·<128)
 .exact wpAny_pyIter_wide i (fin _ (.inr rfl))
 .exact wpAny_pyIter_ascii i (fin _ (.inl rfl))
theorem L9{K:U9}{x:Str}{π:Nat->Addr}{n:Nat}{H:Hp}:Wk K (xH x) (eB (.str x)) π n H:=by
 refine⟨λg q k i e R z=>?_,λg q k i d e R z=>?_⟩
 .have a:(pY x)[i]?=none:=Vs z;have:=V0.mp a;rw[pY,U8,YA]at this;exact this
 .have a:(pY x)[i]?=b0 d:=Vs z;unfold pY at a;rw[Vx,XD]at a;obtain⟨c,j,p⟩:=Vd.mp a;subst p;refine⟨(Zx.mp j).1,λv r ⟨l,s,h,o⟩=>?_⟩;subst l;rw[j]at h;cases h;rw[o];exact⟨.refl,R,.str _⟩
noncomputable def bV(m:ME):MI:=λρ a=>(m ρ a).bind λp=>(jY p.2 p.1).map λxs=>(eB p.1,xs.length+1,p.2)
theorem Ma(h:QE X e m):QJ X e (bV m):=⟨λtg a5N s σ H R I hw=>by
 obtain⟨G,K,B,N,n,T,u,E,g,k⟩:=hw;obtain⟨⟨x,r⟩,w,g⟩:=U7.mp g;obtain⟨Q,L,g⟩:=Vd.mp g;cases g;have o:∀(y:bJ r x=b0 Q)(A:eB x=jX x),VH (VF X.prog X.w) X.A (eval e X.env) (λv M=>VH (VF X.prog X.w) X.A (a1D v) (vQ X a5N σ tg R) X.xe M) X.xe s:=λy A=>by
  refine KA h.h a5N s σ H R I ⟨G,K,B,x,_,u,E,w,λc O i j d l=>?_⟩;obtain⟨a,e,q⟩:=KG d l y;subst e;refine⟨a,rfl,?_⟩;dsimp only at k;rw[A]at k;rcases q with⟨p,W⟩|⟨p,W⟩
  .exact .inl ⟨p,k c i _ j d W⟩
  .exact .inr ⟨p,k c i _ j d W⟩
 cases x with
 |str z=>refine L8 h.h a5N s σ H R I ⟨G,K,B,.str z,_,u,E,w,λc O i j d l=>?_⟩;cases l;exact⟨z,rfl,k c i _ j d L9⟩
 |_=>exact o L rfl⟩
noncomputable def fI(ms:MA):MI:=λρ a=>(ms ρ a).bind λp=>match p.1 with
 |[.int j]=>if -(2^62)<=j/\j<2^62 then b0 (iG 0 j.toNat,j.toNat+1,p.2)else b3|_=>b3
theorem Mb{q:Cx->Prop}{tg:Expr}(tr:∀(o:Addr)(lo:Int)(n:Nat),Turn q X.prog X.w X.K tg (kR lo n) [o] o (λi h=>Zw h o (lo+(i:Nat)*1) ((n:Int)-(i:Nat)) 1)){a:Expr}{ms:MA}{n:Nat}{p:W9}(d:Gl X "range") (g:X.mg "range"=b3) (v:QA X [a] ms n):pN q X tg (.Call (.Name "range" p) [a] [] pos) (tMI X.K (fI ms)):=λa5N s σ H R I hw=>by
 have y:=v.s;rw[Wg,Vl]at y;obtain⟨Q,T,N,L,U,O,B,E,c,k⟩:=hw;obtain⟨⟨x,r⟩,K,c⟩:=U7.mp c;refine HP tr d g v.h (fS y.1) a5N s σ H R I ⟨Q,T,N,x,r,B,E,K,λu Y z G A l=>?_⟩;dsimp only at c;split at c
 .rename_i j;split at c
  .rename_i w;cases c;cases l with
   |cons l M=>cases l;cases M;exact⟨j,rfl,w.1,w.2,k u z _ G A Cm⟩
  .cases c
 .cases c
theorem Mc{a:Expr}{ms:MA}{n:Nat}{p:W9}(c:Gl X "range") (d:X.mg "range"=b3) (g:QA X [a] ms n):QJ X (.Call (.Name "range" p) [a] [] pos) (fI ms):=⟨λtg=>Mb Bi c d g⟩
noncomputable def k6(ms:MA):MI:=λρ a=>(ms ρ a).bind λp=>match p.1 with
 |[.int i,.int j]=>if -(2^62)<=i/\i<2^62/\-(2^62)<=j/\j<2^62 then b0 (iG i (j-i).toNat,(j-i).toNat+1,p.2)else b3|_=>b3
theorem Md{a b:Expr}{ms:MA}{n:Nat}{p:W9}(g:Gl X "range") (h:X.mg "range"=b3) (r:QA X [a,b] ms n):QJ X (.Call (.Name "range" p) [a,b] [] pos) (k6 ms):=⟨λtg a5N s σ H R I hw=>by
 have d:=r.s;rw[Wg,Vl,Wg,Vl]at d;obtain⟨O,Q,M,G,T,N,w,E,c,k⟩:=hw;obtain⟨⟨x,o⟩,z,c⟩:=U7.mp c;refine HQ g h r.h (by rw[fS d.1,fS d.2.1];rfl) (by rw[fS d.2.1];rfl) a5N s σ H R I ⟨O,Q,M,x,o,w,E,z,λq U u y v l=>?_⟩;dsimp only at c;split at c
 .rename_i i j;split at c
  .rename_i A;cases c;cases l with
   |cons l K=>
    cases l;cases K with
    |cons B L=>cases B;cases L;exact⟨i,j,rfl,A,k q u _ y v Cm⟩
  .cases c
 .cases c⟩
noncomputable def cC(a:MI)(g:MG)(b:MS):MS:=λρ c=>(a ρ c).bind λp=>eX p.1 g b p.2.1 0 ρ p.2.2
end
noncomputable def dG(d:BD)(g:MI)(c:MT)(e:ME):ME:=λρ h=>(g ρ h).bind λp=>(gC p.1 d c e ρ p.2.2.length p.2.1 0 (p.2.2++[.lst []])).map λa=>(.loc p.2.2.length,a)
noncomputable abbrev cX(a:MI)(c:MT)(e:ME):ME:=dG nY a c e
noncomputable def gB(n:Nat)(a:BD):MG:=λd ρ c=>(a d c).map λx=>ρ.take n++x
theorem Me{X:Cx}{n:Nat}{x:Str}{j:W9}(l:X.N.length=n+1)(h:PG X (.Name x j) (tMG X.K (cI n))):PG X (.Name x j) (tMG X.K (gB n nY)):=by
 intro c s y H v u Q I r hw;obtain⟨q,a,p,d,w,R,E,hd,m,k⟩:=hw;cases m;refine h c s y H v u Q I r ⟨q,a,p,d,_,R,E,hd,rfl,λg i=>k g ?_⟩;have o:a.length=n+1:=by rw[<- E.len,I.len,l]
 have e:a.set n (b0 d)=a.take n++[b0 d]:=by rw[List.set_eq_take_append_cons_drop,if_pos (by lia),YY (by lia)]
 rw[e]at i;exact i
theorem CA:∀(xs:List D)(a b:aG),b.length=xs.length->mI (a++b) (ZF a.length xs.length) xs=a++xs.map b0
 |[],a,[],_=>by simp[mI]
 |x::xs,a,y::b,h=>by have c:=CA xs (a++[b0 x]) b (by simpa using h);rw[VD,a0R];show mI ((a++y::b).set a.length (b0 x)) (ZF (a.length+1) xs.length) xs=_;rw[Y4 _ _ (Vk _),Y1,V2];rw[Vh,Z7]at c;rw[Vz,List.singleton_append]at c;rw[c];simp
theorem Mf{X:Cx}{n k:Nat}{tg:Expr}(w:X.N.length=n+k)(h:PG X tg (tMG X.K (gD (ZF n k)))):PG X tg (tMG X.K (gB n (iH k))):=by
 intro c s L H v u Q I r hw;obtain⟨G,a,B,d,K,R,E,hd,x,A⟩:=hw;obtain⟨y,o,p⟩:=Vd.mp x;obtain⟨m,q,g⟩:=U7.mp o;split at g
 .rename_i l;cases g;subst p;have z:a.length=n+k:=by rw[<- E.len,I.len,w]
  refine h c s L H v u Q I r ⟨G,a,B,d,mI a (ZF n k) m,R,E,hd,(by simp only[gD,q,VT,List.length_range',if_pos l]),λi j=>A i ?_⟩;have e:=CA m (a.take n) (a.drop n) (by rw[V5];lia);rw[VY,VG,Zq (by lia),l]at e;rw[e]at j;exact j
 .cases g
section
variable{X:Cx}{scope:X4}{cl:List (Str×Addr)}{xs:List Str}{tg elt iter:Expr}{ifs:List Expr}{pos ppos:W9}{mi:MI}{me:ME}{mc:MT}{bd:BD}
theorem Mg{K:U9}{π:Nat->Addr}{n:Nat}{H:Hp}{σ:St}{ρ o:aG}{k:Nat}(E:En K π n H σ (ρ++o))(c:o.length=k):En K π n H σ (ρ++XI k b3):=by
 refine⟨by rw[E.len,Vh,Vh,X2,c],λi d q=>?_⟩;by_cases a:i<ρ.length
 .rw[Vy a]at q;exact E.get i d (by rw[Vy a];exact q)
 .rw[VB (Zz.mp a),Yc]at q;split at q<;>cases q
theorem CB{q:Cx->Prop}(O:CompOk X scope cl xs)(hq:∀a5N σ H s k,Inv X a5N σ H s->q (cB X scope cl s.heap.objs.size (bH xs X.N++xs) s H k))(hi:pN q X tg iter (tMI X.K mi))(hb':∀d μ z,bd d μ=b0 z->z.length=xs.length)(hg:∀C s₀ H₀ k,PG (cB X scope cl C (bH xs X.N++xs) s₀ H₀ k) tg (tMG X.K (gB X.N.length bd)))
  (hc:∀C s₀ H₀ k,mH (cB X scope cl C (bH xs X.N++xs) s₀ H₀ k) ifs mc)(he:∀C s₀ H₀ k,PE (cB X scope cl C (bH xs X.N++xs) s₀ H₀ k) elt (tM X.K me))
  (hs:∀x,Yx iter X.env x=pure x){use:Option (Value->a2S Unit)}{QQ:Value->Ve->Prop}{a5N:jw}{s:Ve}{σ:St}{H:Hp}{π:Nat->Addr}{ρ:aG}{μ μ':Hm}{d:D}
  (I:Inv X a5N σ H s)(R:Rp X.K π H μ)(E:En X.K π μ.length H σ ρ)(hm:dG bd mi mc me ρ μ=b0 (d,μ'))
  (fin:∀(p C:Addr)(l:Nat->Addr)(g:Hp)(s':Ve),Ext π μ.length H l μ'.length g->Rp X.K l g μ'->IsD X.K l μ'.length g (.ref p) d->(∃m,s'.heap.Ns C m)->X.s₀.heap.objs.size<=C->C≠X.env.locals->g C=b3->
   (∀y c,X.env.cells.lookup y=b0 c->c≠C)->(∀q∈X.pn++a5N,q.1≠C)->(∀h',(∀b o,b≠C->s'.heap.get? b=b0 o->h'.get? b=b0 o)->Inv X a5N σ g {s' with heap:=h'})->
   compPost (VF X.prog X.w) X.A X.xe use QQ (.ref p) C (.ok .next) s') :
  VH (VF X.prog X.w) X.A (comprehension (.ListComp elt [⟨tg,iter,ifs,0⟩] scope pos) scope X.env ppos (newList []) b5 (eval iter X.env) use) QQ X.xe s:=by
 obtain⟨⟨src,nt,a⟩,h1,hm⟩:=U7.mp hm;obtain⟨μ2,h3,hm⟩:=Vd.mp hm;cases hm;have hit:VH (VF X.prog X.w) X.A (eval iter X.env) (λv s1=>VH (VF X.prog X.w) X.A (a1D v) (PIEq q X a5N σ tg λJ H1=>∃U,Ext π μ.length H U a.length H1/\Rp X.K U H1 a/\Wk X.K J src U a.length H1) X.xe s1) X.xe s:=
  hi a5N s σ H _ I ⟨π,ρ,μ,src,nt,a,R,E,h1,λU H1 J e1 R1 W=>⟨U,e1,R1,W⟩⟩
 refine wpAny_comprehension_free rfl hs O.clos O.kind O.names (Wr hit (λv s1 hv=>Wr hv (λitv B h4=>?_) λ_ _ z=>z) λ_ _ z=>z);obtain⟨it,k,tn,J,H2,rfl,I2,T,st2,f2,U,e1,R1,W⟩:=h4;refine WL (wpAny_newFunctionEnv O.nocell (by intro y hy;simp at hy) (λY K L=>?_) O.kind);dsimp only at K L ⊢;have hfr:H2 B.heap.objs.size=none:=I2.hok.fresh (Vk _);have I3:Inv X a5N σ (aK H2 B.heap.objs.size (.lst [])) {B with heap:=B.heap.push {cls:=.type "list",dict:=b3,data:=.seq ([]:gq).toArray}}:=
  I2.laid (t':=B.toks) (λb u e=>Vg _ e) (Vk _) ⟨Xm _,[],0,.nil,Vr _ rfl⟩
 obtain⟨e2,R2,q2⟩:=R1.alloc (c:=.lst []) (o:=.lst []) hfr .nil;generalize hs3:({B with heap:=B.heap.push {cls:=.type "list",dict:=b3,data:=.seq ([]:gq).toArray}}:Ve)=s3 at I3;have G:B.heap.push {cls:=.type "list",dict:=b3,data:=.seq ([]:gq).toArray}=s3.heap:=by rw[<- hs3]
 have e12:=e1.trans e2;generalize hH3:aK H2 B.heap.objs.size (.lst [])=H3 at I3 e2 R2 e12;generalize hπ3:gR U a.length B.heap.objs.size=π3 at e2 R2 q2 e12;have hob:∀b∈k,∃o,s3.heap.get? b=b0 o:=λb A=>by obtain⟨o,ho,_⟩:=T.obj 0 _ st2 b A;exact⟨o,by rw[<- G];exact Vg _ ho⟩
 have f3:∀b∈k,fZ X a5N H3 b:=λb A=>by obtain⟨o,ho,_⟩:=T.obj 0 _ st2 b A;refine⟨?_,(f2 b A).2⟩;rw[<- hH3,a8 (VI (Vn ho))];exact(f2 b A).1
 have st3:tn 0 s3.heap:=T.keep 0 _ _ st2 λb A o e=>by rw[<- G];exact Vg _ e
 have hC:(B.heap.push {cls:=.type "list",dict:=b3,data:=.seq ([]:gq).toArray}).objs.size=s3.heap.objs.size:=by rw[G]
 rw[G]at K L;have hk1:∀b o,s3.heap.get? b=b0 o->Y.get? b=b0 o:=λb o e=>L.extBut b o (VI (Vn e)) (Vg _ e);have E3:En X.K π3 (a++[C.lst []]).length H3 (σ++XI xs.length b3) (ρ++XI xs.length b3):=by
  have E':=E.mono e12;refine⟨by rw[Vh,Vh,E'.len,X2,X2],λi d' q=>?_⟩;by_cases hi:i<ρ.length
  .rw[Vy hi]at q;obtain⟨v,h5,h6⟩:=E'.get i d' q;exact⟨v,by rw[Vy (by rw[E'.len];exact hi)];exact h5,h6⟩
  .rw[VB (Zz.mp hi),Yc]at q;split at q<;>cases q
 have hlen:ρ.length=X.N.length:=by rw[<- E.len];exact I.len
 have stat:∀{g:Hp}{pl:jw},(∀b∈k,g b=b3)->pl=[]->∀b∈k,fZ (cB X scope cl s3.heap.objs.size (bH xs X.N++xs) s3 H3 k) pl g b:=λ{g pl} hn hpl b A=>by
  obtain⟨f0,f1,f2',f3',f4,f5⟩:=f3 b A;obtain⟨o,ho⟩:=hob b A;refine⟨hn b A,VI (Vn ho),λz=>?_,.inl A,λy c h=>f4 y c (O.sub y c h),λp hp=>?_⟩
  .rcases Wf.mp (I3.stkSub b z)with z|z
   .exact f1 z
   .exact f2' z
  .subst hpl;exact absurd (show p∈([]:jw)from hp) (by simp)
 have loop:∀s4:Ve,(∃tk,s4={s3 with heap:=Y,toks:=tk})->
   Zt (VF X.prog X.w) X.A (.compLoop (.ListComp elt [⟨tg,iter,ifs,0⟩] scope pos) 0 (.ref it) (.ref B.heap.objs.size) (Za scope cl s3.heap.objs.size X.env))
    (compPost (VF X.prog X.w) X.A X.xe use QQ (.ref B.heap.objs.size) s3.heap.objs.size) s4:=by
  rintro s4 ⟨tk,rfl⟩;have I4:=O.inv (tk:=tk) I3 f3 hob K hk1;refine KJ (λn s'=>∃i Q g l M o,Inv (cB X scope cl s3.heap.objs.size (bH xs X.N++xs) s3 H3 k) [] Q g s'/\tn i s'.heap/\(∀b∈k,g b=b3)/\Ext π3 (a++[C.lst []]).length H3 l M.length g/\Rp X.K l g M /\
   En X.K l M.length g Q (ρ++o)/\o.length=xs.length/\gC src bd mc me ρ a.length n i M=b0 μ') ?_ nt
   ⟨0,_,H3,π3,a++[C.lst []],XI xs.length b3,I4,T.keep 0 _ _ st3 λb A o e=>hk1 b o e,λb A=>(f3 b A).1,.refl,R2,E3,X2,h3⟩
  rintro n s5 ⟨i,σ5,H5,N,μ5,o5,I5,st5,fr5,e5,R5,E5,l5,g5⟩;cases n with
  |zero=>cases g5|succ n=>
   obtain⟨o,h6,h7⟩:=U7.mp g5;cases o with
   |none=>
    cases h7;have stop:=W.stop N _ H5 i (e2.trans e5) R5 h6;refine Wr (T.done (cB X scope cl s3.heap.objs.size (bH xs X.N++xs) s3 H3 k) rfl rfl rfl (hq a5N σ H3 s3 k I3) i [] s5 σ5 H5 (λ_ _=>False) I5 (stat fr5 rfl) st5 stop) (λr s6 ⟨hr,I6⟩=>?_) λ_ _ z=>z;subst hr;obtain⟨m6,hn6,_⟩:=id I6.loc;have hp:N a.length=B.heap.objs.size:=by rw[e5.pi a.length (by simp),q2]
    refine fin B.heap.objs.size s3.heap.objs.size N H5 s6 (e12.trans e5) R5 ?_ ⟨m6,hn6⟩ I3.sz (WM (VI I3.lt)) I6.free (λy c hc z=>?_) (λq hq z=>?_) λh' hh=>CompOk.back I3 f3 I6 hh
    .rw[<- hp];exact .loc (VX (by simp) e5.le)
    .obtain⟨v,o,ho,_⟩:=I3.cell y c hc;exact VI (Vn ho) z
    .exact VI (Vn (I3.pin q hq).1) z
   |some d=>
    obtain⟨z,hz,h7⟩:=U7.mp h7;obtain⟨⟨b,μ6⟩,h8,h9⟩:=U7.mp h7;obtain⟨g1,g2⟩:=W.go N μ5 H5 i d (e2.trans e5) R5 h6;refine Wr (T.item (cB X scope cl s3.heap.objs.size (bH xs X.N++xs) s3 H3 k) rfl rfl rfl (hq a5N σ H3 s3 k I3) i [] s5 σ5 H5 (λ_ _=>False) I5 (stat fr5 rfl) st5 g1) (λr s6 ⟨u,hr,h10⟩=>?_) λ_ _ z=>z;subst hr;refine Wr h10 (λ_ s7 ⟨v,H7,I7,r7,y7,st7,fr7⟩=>?_) λ_ _ z=>z;obtain⟨e7,R7,hd⟩:=g2 v H7 y7;have I7':=I7.pinned (stat fr7 rfl) (T.obj _ _ st7);have e5:=e5.trans e7;refine Wr (hg _ _ _ _ _ s7 σ5 H7 v u (λQ g=>En X.K N μ5.length H7 Q (ρ++z)/\g=H7) I7' r7
     ⟨N,ρ++XI xs.length b3,μ5,d,ρ++z,R7,Mg (E5.mono e7) l5,hd,(by
      show(bd d μ5).map (λx=>(ρ++XI xs.length b3).take X.N.length++x)=_;rw[hz,<- hlen,a1x];rfl),λQ E'=>⟨E',rfl⟩⟩) (λ_ s8 ⟨σ8,H8,I8,E8,z2⟩=>?_) λ_ _ z=>z
    subst z2;have again:∀{s9:Ve}{H9:Hp}{j:Nat->Addr}{μ9:Hm},Inv (cB X scope cl s3.heap.objs.size (bH xs X.N++xs) s3 H3 k) ([]++pO k s7.heap) σ8 H9 s9->Ext π3 (a++[C.lst []]).length H3 j μ9.length H9->Rp X.K j H9 μ9->
      En X.K j μ9.length H9 σ8 (ρ++z)->gC src bd mc me ρ a.length n (i+1) μ9=b0 μ'->
      ∃m,m<n+1/\∃i Q g l M o,Inv (cB X scope cl s3.heap.objs.size (bH xs X.N++xs) s3 H3 k) [] Q g s9/\tn i s9.heap/\(∀b∈k,g b=b3)/\Ext π3 (a++[C.lst []]).length H3 l M.length g/\Rp X.K l g M /\
       En X.K l M.length g Q (ρ++o)/\o.length=xs.length/\gC src bd mc me ρ a.length m i M=b0 μ':=λ{s9 H9 j μ9} I9 e9 R9 E9 g9=>by
     refine⟨n,Xn _,i+1,_,H9,j,μ9,z,I9.unpinned,T.keep _ _ _ st7 λb A o e=>(I9.pin (b,o) (WO _ (WO _ (r9 A e)))).1,λb A=>?_,e9,R9,E9,hb' _ _ _ hz,g9⟩;obtain⟨o,e,_⟩:=T.obj _ _ st7 b A;exact(I9.pin (b,o) (WO _ (WO _ (r9 A e)))).2.1
    refine Wr (hc _ _ _ _ _ s8 _ H8 (λb' g=>∃j,b'=b/\Ext N μ5.length H8 j μ6.length g/\Rp X.K j g μ6) I8 ⟨N,_,μ5,b,μ6,R7,E8,h8,λj H9 e9 R9=>⟨j,rfl,e9,R9⟩⟩) (λok s9 ⟨H9,I9,j,A,e9,R9⟩=>?_) λ_ _ z=>z;subst A;cases ok with
    |false=>rw[if_neg Vm];exact again I9 (e5.trans e9) R9 (E8.mono e9) h9|true=>
     rw[if_pos rfl];obtain⟨⟨dy,μ7⟩,h11,h12⟩:=U7.mp h9;obtain⟨μ8,Z,h14⟩:=U7.mp h12;refine Wr (he _ _ _ _ _ s9 _ H9 (λy g=>∃w,Ext j μ6.length H9 w μ7.length g/\Rp X.K w g μ7/\IsD X.K w μ7.length g y dy) I9 ⟨j,_,μ6,dy,μ7,R9,E8.mono e9,h11,λw y H10 e10 R10 i10=>⟨w,e10,R10,i10⟩⟩)
      (λu' s10 ⟨y,H10,I10,ry,w,e10,R10,i10⟩=>?_) λ_ _ z=>z
     unfold nX at Z;split at Z
     .rename_i zs hz;split at Z
      .rename_i hl;cases Z;obtain⟨vs,h15,h16⟩:=R10.lst _ zs hz;have eall:=(e5.trans e9).trans e10;have hp:w a.length=B.heap.objs.size:=by rw[eall.pi a.length (by simp),q2]
       obtain⟨e11,R11⟩:=R10.put (a:=a.length) (c:=.lst (zs++[dy])) (o:=.lst (vs++[y])) (Vc.mp hz).1 h15 (.inl ⟨vs,rfl⟩) (h16.append (.cons i10 .nil));rw[hp]at h15 e11 R11;refine Wr (BK (X:=cB X scope cl s3.heap.objs.size (bH xs X.N++xs) s3 H3 k) _ s10 _ H10 (.ref B.heap.objs.size) [y] (.ref B.heap.objs.size) [u'] (λ_ g=>g=aK H10 B.heap.objs.size (.lst (vs++[y]))) I10 rfl (.cons ry .nil)
        ⟨B.heap.objs.size,vs,y,rfl,rfl,h15,by rw[h16.length];exact hl,rfl⟩) (λ_ s11 ⟨_,H11,I11,_,z⟩=>?_) λ_ _ z=>z
       subst z;exact again I11 (eall.trans e11) R11 ((E8.mono (e9.trans e10)).mono e11) h14
      .cases Z
     .cases Z
 have l4:=loop {s3 with heap:=Y,toks:=B.toks+([]:List (Str×Value)).length} ⟨_,rfl⟩;have hst4:tn 0 Y:=T.keep 0 _ _ st3 λb A o e=>hk1 b o e;subst hs3;exact codeAny_compStart_list l4 (T.self _ 0 _ _ _ hst4 l4)
theorem Mh{q:Cx->Prop}(O:CompOk X scope cl xs)(N:∀a5N σ H s a,Inv X a5N σ H s->q (cB X scope cl s.heap.objs.size (bH xs X.N++xs) s H a))(G:pN q X tg iter (tMI X.K mi))(c:∀d r z,bd d r=b0 z->z.length=xs.length)(B:∀C s₀ H₀ a,PG (cB X scope cl C (bH xs X.N++xs) s₀ H₀ a) tg (tMG X.K (gB X.N.length bd)))
  (hc:∀C s₀ H₀ a,mH (cB X scope cl C (bH xs X.N++xs) s₀ H₀ a) ifs mc)(A:∀C s₀ H₀ a,PE (cB X scope cl C (bH xs X.N++xs) s₀ H₀ a) elt (tM X.K me))
  (T:∀x,Yx iter X.env x=pure x):PE X (.ListComp elt [⟨tg,iter,ifs,0⟩] scope pos) (tM X.K (dG bd mi mc me)):=by
 intro a5N s σ H Q I hw;obtain⟨π,ρ,r,d,μ',R,E,K,k⟩:=hw;rw[eval_ListComp];refine CB (use:=b3) O N G c B hc A T I R E K λp C i j s' v u Y h U M g l n back=>?_;obtain⟨m,L⟩:=h;exact⟨m,L,λw Z=>⟨.ref p,j,back w (λb o y e=>(Z.2 b y).trans e),rfl,k i _ j v u Y⟩⟩
theorem Mi(O:CompOk X scope cl xs)(a:X.calm=dI)(i:PI X tg iter (tMI X.K mi))(e:∀d k z,bd d k=b0 z->z.length=xs.length)(h:∀C s₀ H₀ c,PG (cB X scope cl C (bH xs X.N++xs) s₀ H₀ c) tg (tMG X.K (gB X.N.length bd)))
  (hc:∀C s₀ H₀ c,mH (cB X scope cl C (bH xs X.N++xs) s₀ H₀ c) ifs mc)(g:∀C s₀ H₀ c,PE (cB X scope cl C (bH xs X.N++xs) s₀ H₀ c) elt (tM X.K me))
  (j:∀x,Yx iter X.env x=pure x):PE X (.ListComp elt [⟨tg,iter,ifs,0⟩] scope pos) (tM X.K (dG bd mi mc me)):=Mh O (λ_ _ _ _ _ _=>a) i e h hc g j
theorem Mj{i:Nat}{y:Str}{py g:W9}(O:CompOk X scope cl xs)(hN:X.N.Nodup)(h:X.calm=dI)(hi:PI X tg iter (tMI X.K mi))(B:∀d Z z,bd d Z=b0 z->z.length=xs.length)(hg:∀C s₀ H₀ n,PG (cB X scope cl C (bH xs X.N++xs) s₀ H₀ n) tg (tMG X.K (gB X.N.length bd)))
  (hc:∀C s₀ H₀ n,mH (cB X scope cl C (bH xs X.N++xs) s₀ H₀ n) ifs mc)(he:∀C s₀ H₀ n,PE (cB X scope cl C (bH xs X.N++xs) s₀ H₀ n) elt (tM X.K me))
  (hs:∀x,Yx iter X.env x=pure x)(hy:X.N[i]?=b0 y)(Y:X.env.scope.names.lookup y=b0 .local)
  (L:Zj (.ListComp elt [⟨tg,iter,ifs,0⟩] scope pos) (b0 (.Name y py)) g.line X.env=pure dI) :
  PS X (.Assign [.Name y py] (.ListComp elt [⟨tg,iter,ifs,0⟩] scope pos) g) (tMS X.K (aM i (dG bd mi mc me))):=by
 intro l s σ H EN I hw;obtain⟨π,ρ,Z,fl,ρ',μ',R,E,G,k⟩:=hw;obtain⟨⟨d,μ1⟩,h1,G⟩:=Vd.mp G;cases G;rw[exec_Assign_Name_used _ _ _ _ L];refine Va (a2E ?_);refine Va (Va ?_);refine CB (use:=b0 (a0Y (.Name y py) X.env)) (QQ:=λ_ u=>VH (VF X.prog X.w) X.A (pure ()) (λ_ N=>VH (VF X.prog X.w) X.A (pure Flow.next) (SP X l EN) X.xe N) X.xe u) O (λ_ _ _ _ _ _=>h) hi B hg hc he hs I R E h1 λp C T v u U R1 i1 K M q j c r back=>?_;obtain⟨m,hn⟩:=K;have I1:Inv X l σ v u:=back u.heap λb o _ e=>e;show VH (VF X.prog X.w) X.A (a0Y (.Name y py) X.env (.ref p)) _ X.xe u;refine a4C ?_;refine A9 I1 hN hy (.inl Y) (show RelV (.ref p) (.ref p)from rfl) (λs2 I2 ⟨a,sb,A⟩=>?_) (.inr Y);have w:C≠a:=by
  rcases A with rfl|A
  .exact q
  .exact WM (c _ _ A)
 refine⟨m,hn.sameBut sb w,λh' Q=>Vj (Vj ?_)⟩;refine⟨σ.set i (b0 (.ref p)),v,I2.turned (t':=s2.toks) (λb o hb e=>(Q.2 b hb).trans e) j q (.inr M) c r,?_⟩;exact k T _ v U R1 ((E.mono U).set i1 i)
end
noncomputable def b7:ME:=λ_ _=>b3
noncomputable def mK:MT:=λ_ _=>b3
noncomputable def c3:MS:=λ_ _=>b3
section
variable{X:Cx}{e a b c o:Expr}{m m1 m2 ma mb mc:ME}{pos:W9}{mt mu:MT}{rest es:List Expr}{ms:MA}{n:Nat}
theorem cD:QE X e b7:=⟨λa5N s σ H Q I h=>by
 obtain⟨l,p,j,d,i,R,E,g,k⟩:=h;cases g⟩
theorem xI:QT X e mK:=⟨λa5N s σ H Q I h=>by
 obtain⟨l,p,j,d,i,R,E,g,k⟩:=h;cases g⟩
theorem Ml:QW X e mK:=⟨λj a5N s σ H Q I h=>by
 obtain⟨p,q,l,d,i,R,E,g,k⟩:=h;cases g⟩
theorem eC{st:Stmt}:QS X st c3:=⟨λa5N s σ H D I h=>by
 obtain⟨p,q,l,j,i,g,R,E,d,k⟩:=h;cases d⟩
theorem sW{g:MG}(l:∀d ρ j,g d ρ j=b3):QG X e g:=⟨λa5N s σ H v u Q I r h=>by
 obtain⟨q,ρ,j,d,p,R,E,hd,i,k⟩:=h;rw[l]at i;cases i⟩
theorem mL(h1:QE X e m1)(l:QE X e m2)(h:∀ρ g r,m ρ g=b0 r->m1 ρ g=b0 r\/m2 ρ g=b0 r):QE X e m:=⟨λa5N s σ H Q I q=>by
 obtain⟨j,ρ,g,d,i,R,E,p,k⟩:=q;rcases h ρ g _ p with z|z
 .exact h1.h a5N s σ H Q I ⟨j,ρ,g,d,i,R,E,z,k⟩
 .exact l.h a5N s σ H Q I ⟨j,ρ,g,d,i,R,E,z,k⟩⟩
theorem n6{m m1 m2:MT}(h1:QT X e m1)(l:QT X e m2)(h:∀ρ g r,m ρ g=b0 r->m1 ρ g=b0 r\/m2 ρ g=b0 r):QT X e m:=⟨λa5N s σ H Q I q=>by
 obtain⟨j,ρ,g,d,i,R,E,p,k⟩:=q;rcases h ρ g _ p with z|z
 .exact h1.h a5N s σ H Q I ⟨j,ρ,g,d,i,R,E,z,k⟩
 .exact l.h a5N s σ H Q I ⟨j,ρ,g,d,i,R,E,z,k⟩⟩
theorem gF{f j k:D->D->Hm->jk}(h:∀x y d r,f x y d=b0 r->j x y d=b0 r\/k x y d=b0 r) :
  ∀i d r,aC f ma mb i d=b0 r->aC j ma mb i d=b0 r\/aC k ma mb i d=b0 r:=by
 intro i d r g;obtain⟨p,l,g⟩:=U7.mp g;obtain⟨q,s,g⟩:=U7.mp g;rcases h _ _ _ _ g with z|z
 .exact .inl (U7.mpr ⟨p,l,U7.mpr ⟨q,s,z⟩⟩)
 .exact .inr (U7.mpr ⟨p,l,U7.mpr ⟨q,s,z⟩⟩)
theorem n8(h:∀ρ d r,m ρ d=b0 r->m1 ρ d=b0 r\/m2 ρ d=b0 r):∀ρ d r,aO m ρ d=b0 r->aO m1 ρ d=b0 r\/aO m2 ρ d=b0 r:=by
 intro ρ d r g;obtain⟨p,i,g⟩:=U7.mp g;rcases h _ _ _ i with z|z
 .exact .inl (U7.mpr ⟨p,z,g⟩)
 .exact .inr (U7.mpr ⟨p,z,g⟩)
noncomputable def n9:List D->Option (List Int)
 |[]=>b0 []|.int i::r=>(n9 r).map (i::·)|_=>b3
noncomputable def cQ:D->Option (List Int)
 |.tup ds=>n9 ds|_=>b3
noncomputable def bT(kvs:jx)(k:List Int):Option D:=(kvs.find? λp=>decide (p.1=k)).map (·.2)
noncomputable def dW(kvs:jx)(k:List Int)(d:D):jx:=if(bT kvs k).isSome then kvs.map (λp=>if p.1=k then(p.1,d)else p)else kvs++[(k,d)]
noncomputable def aE:D->D->Hm->jk:=λx y g=>match x with
 |.loc a=>match g[a]? with
  |some (.dT kvs)=>(cQ y).bind λk=>(bT kvs k).map λd=>(d,g)|some (.dF kvs)=>(cQ y).bind λk=>(bT kvs k).map λd=>(d,g)|_=>fN x y g
 |_=>fN x y g
structure TabOk(X:Cx)(x:Str)(kvs:List (bY×D)):Prop where
 ex:∃(p:Addr)(vs:List (bY×V))(ws:List (bY×Value)),X.mg x=b0 (.ref p)/\(p==Xo)=b5/\(∀h:WA,X.K.In h->h.DictOf (pK X.prog X.w) p ws)/\KV vs ws/\∀π n H,IsKs X.K π n H vs kvs
theorem CC{a5N:jw}{σ:St}{H:Hp}{s:Ve}(I:Inv X a5N σ H s){p:Addr}{d:Obj}(h:X.K.lookup p=b0 d):H p=none:=(I.bs p d (I.mod.kin p d h)).2
theorem CD{K:U9}{π:Nat->Addr}{H:Hp}{i:Hm}(R:Rp K π H i){g:Nat}(p:g<i.length):∃u,H (π g)=b0 u/\(∀vs,u≠.tup vs)/\∀j v,(∀l,v≠HO.ext l)->u≠.frz j v:=by
 cases q:i[g]? with
 |none=>exact absurd (V0.mp q) (by lia)|some k=>
  cases k with
  |lst d=>obtain⟨vs,h,_⟩:=R.lst g d q;exact⟨_,h,(λ_ z=>nomatch z),λ_ _ _ z=>nomatch z⟩|dK d=>obtain⟨vs,h,_⟩:=R.dK g d q;exact⟨_,h,(λ_ z=>nomatch z),λ_ _ _ z=>nomatch z⟩|st d=>obtain⟨vs,h,_⟩:=R.st g d q;exact⟨_,h,(λ_ z=>nomatch z),λ_ _ _ z=>nomatch z⟩|dT d=>obtain⟨vs,h,_⟩:=R.dT g d q;exact⟨_,h,(λ_ z=>nomatch z),λ_ _ _ z=>nomatch z⟩|dF d=>obtain⟨j,vs,h,_⟩:=R.dF g d q;exact⟨_,h,(λ_ z=>nomatch z),λ_ _ n z=>n _ (by cases z;rfl)⟩
section
variable{a5N:jw}{σ:St}{H:Hp}{s:Ve}{π:Nat->Addr}{μ:Hm}
theorem CF(I:Inv X a5N σ H s)(R:Rp X.K π H μ){g:Nat}(k:g<μ.length){vs:gw}(h:SqT X.K H (π g) vs):False:=by
 obtain⟨u,d,i,j⟩:=CD R k;rcases h with(h|⟨q,h⟩)|⟨q,p,n,l,_⟩
 .rw[d]at h;exact i _ (Vs h)
 .rw[d]at h;exact j _ (.tup vs) (λr z=>nomatch z) (Vs h)
 .rw[CC I l]at d;cases d
theorem CG(I:Inv X a5N σ H s)(R:Rp X.K π H μ){g:Nat}(j:g<μ.length){vs:gw}(h:RoL X.K H (π g) vs):False:=by
 obtain⟨u,d,q,i⟩:=CD R j;rcases h with⟨p,h⟩|⟨p,l,n,k,_⟩
 .rw[d]at h;exact i _ (.lst vs) (λr z=>nomatch z) (Vs h)
 .rw[CC I k]at d;cases d
theorem CH(I:Inv X a5N σ H s){p:Addr}{vs ws:gw}(h:SqT X.K H p vs)(h':RoL X.K H p ws):False:=by obtain⟨g,_,t,_⟩:=I.tuple h;obtain⟨d,_,l,_⟩:=I.list h'.sq;exact absurd rfl (Xu l.isList t)
mutual
theorem xJ(I:Inv X a5N σ H s)(R:Rp X.K π H μ){v:V}{d d':D}:IsD X.K π μ.length H v d->IsD X.K π μ.length H v d'->d=d'
 |.non,h'=>by cases h';rfl
 |.bl _,h'=>by cases h';rfl
 |.int _,h'=>by cases h';rfl
 |.str _,h'=>by cases h';rfl
 |.ty _,h'=>by cases h';rfl
 |.tup h t,h'=>by
  cases h' with
  |tup g i=>have:=I.tuple_inj h g;subst this;rw[xK I R t i]|rol g i=>exact(CH I h g).elim|loc g=>exact(CF I R g h).elim
 |.rol h t,h'=>by
  cases h' with
  |tup g i=>exact(CH I g h).elim|rol g i=>have:=I.list_inj h.sq g.sq;subst this;rw[xK I R t i]|loc g=>exact(CG I R g h).elim
 |.loc (a:=a1) ha,h'=>by
  generalize hz:V.ref (π a1)=z at h';cases h' with
  |tup g i=>cases hz;exact(CF I R ha g).elim|rol g i=>cases hz;exact(CG I R ha g).elim|loc g=>have:=R.inj _ _ ha g (V.ref.inj hz);rw[this]|_=>cases hz
theorem xK(I:Inv X a5N σ H s)(R:Rp X.K π H μ){vs:gw}{ds d:List D}:IsDs X.K π μ.length H vs ds->IsDs X.K π μ.length H vs d->ds=d
 |.nil,h'=>by cases h';rfl
 |.cons h t,h'=>by
  cases h' with
  |cons g i=>rw[xJ I R h g,xK I R t i]
end
end
noncomputable def jZ(a:Hm)(x:D):List D->Option Bool
 |[]=>b0 b5|y::r=>(dU 8 a y x).bind λb=>(jZ a x r).map λc=>b||c
noncomputable def mM(a:Bool):D->D->Hm->jk:=λx y c=>(bJ c y).bind λd=>(jZ c x d).map λb=>(.bl (if a then !b else b),c)
noncomputable def xM(K:U9)(c:Bool):R2:=λx y H Q=>∃π a d e g b,Rp K π H a/\IsD K π a.length H x d/\IsD K π a.length H y e/\bJ a e=b0 g/\jZ a d g=b0 b/\Q (.bl (if c then !b else b)) H
theorem sX{K:U9}{c:Bool}:cS K (mM c) (xM K c):=by intro e H p x y d m n o Q R i j a k;obtain⟨l,g,a⟩:=U7.mp a;obtain⟨b,h,a⟩:=Vd.mp a;cases a;exact⟨e,_,x,y,l,b,R,i,j,g,h,k e _ H .refl R (.bl _)⟩
theorem sY{a5N:jw}{σ:St}{H:Hp}{s:Ve}{π:Nat->Addr}{i:Hm}(I:Inv X a5N σ H s)(R:Rp X.K π H i){A:VO}(U:A.units+8<W0){x:V}{v:Value}{m:D}(rx:RelV x v)(ix:IsD X.K π i.length H x m) :
  ∀{e:List D}{vs:gw}{us:gq}{b:Bool},IsDs X.K π i.length H vs e->Vals vs us->jZ i m e=b0 b->
   ∃g:Value->Bool,(∀u∈us,YG A s u v (g u))/\us.any g=b:=by
 classical
 intro e vs us b k l d
 have o:∀{e:List D}{vs:gw}{us:gq}{b:Bool},IsDs X.K π i.length H vs e->Vals vs us->jZ i m e=b0 b->(∀u∈us,∃c,YG A s u v c/\∃w n,RelV w u/\IsD X.K π i.length H w n/\dU 8 i n m=b0 c):=by
  intro e
  induction e with
  |nil=>
   intro vs us b k l d u a
   cases k
   cases l
   cases a
  |cons y e K=>
   intro vs us b k l d u a
   cases k with
   |cons h t=>
    cases l with
    |cons r rt=>
     obtain⟨c,B,d⟩:=U7.mp d
     obtain⟨O,E,d⟩:=Vd.mp d
     rcases Wf.mp a with rfl|a
     .exact⟨c,wX I R 8 U r rx h ix B,_,_,r,h,B⟩
     .exact K t rt E u a
 have p:=o k l d
 refine⟨λu=>if h:u∈us then Ys (p u h)else b5,λu a=>?_,?_⟩
 .simp only[dif_pos a]
  exact(YR (p u a)).1
 .have L:∀u (h:u∈us) w n c,RelV w u->IsD X.K π i.length H w n->dU 8 i n m=b0 c->Ys (p u h)=c:=by
   intro u h w n c M iw N
   obtain⟨_,w2,Q,r2,Z,T⟩:=YR (p u h)
   have:w2=w:=r2.inj M
   subst this
   have:=xJ I R Z iw
   subst this
   rw[T]at N
   exact Vs N
  have q:∀{e:List D}{vs:gw}{j:gq}{b:Bool},(∀u∈j,u∈us)->IsDs X.K π i.length H vs e->Vals vs j->jZ i m e=b0 b->j.any (λu=>if h:u∈us then Ys (p u h)else b5)=b:=by
   intro e
   induction e with
   |nil=>
    intro vs j b G k l d
    cases k
    cases l
    cases d
    rfl
   |cons y e K=>
    intro vs j b G k l d
    cases k with
    |cons h t=>
     cases l with
     |@cons _ u _ us2 r rt=>
      obtain⟨c,B,d⟩:=U7.mp d
      obtain⟨O,E,d⟩:=Vd.mp d
      have eJ:u∈us:=G u (Wj ..)
      rw[a1T,K (λz Y=>G z (VU _ Y)) t rt E,dif_pos eJ,L u eJ _ _ c r h B]
      exact d
  exact q (λ_ h=>h) k l d
theorem sZ{k:Nat}{A:VO}(r:Room k A):A.units+9<W0:=by have:=r.un;lia
theorem CI(G:X.A.units+9<W0):OpR X (WB .In) (xM X.K b5):=by
 intro m s O H x y v u Q I l A h;obtain⟨N,M,B,E,L,b,R,k,z,n,j,q⟩:=h;obtain⟨p,K,rfl,c,hd⟩:=nZ R z n;cases A;rcases c with c|c
 .obtain⟨a,r,i,o⟩:=I.list c;obtain⟨g,d,e⟩:=sY I R (A:=X.A.in1) (by rw[gW];lia) l k hd r j;refine SeqAt.in_listAt g i.isList (λw hw=>d w (by simpa using hw)) ⟨.bl _,H,I,rfl,?_⟩;rw[show a.toArray.any g=a.any g by simp,e];exact q
 .obtain⟨a,r,i,o⟩:=I.tuple c;obtain⟨g,d,e⟩:=sY I R (A:=X.A.in1) (by rw[gW];lia) l k hd r j;refine SeqAt.in_tupleAt g i (λw hw=>d w (by simpa using hw)) ⟨.bl _,H,I,rfl,?_⟩;rw[show a.toArray.any g=a.any g by simp,e];exact q
theorem CJ(G:X.A.units+9<W0):OpR X (WB .NotIn) (xM X.K dI):=by
 intro m s O H x y v u Q I l A h;obtain⟨N,M,B,E,L,b,R,k,z,n,j,q⟩:=h;obtain⟨p,K,rfl,c,hd⟩:=nZ R z n;cases A;rcases c with c|c
 .obtain⟨a,r,i,o⟩:=I.list c;obtain⟨g,d,e⟩:=sY I R (A:=X.A.in1) (by rw[gW];lia) l k hd r j;refine SeqAt.notIn_listAt g i.isList (λw hw=>d w (by simpa using hw)) ⟨.bl _,H,I,rfl,?_⟩;rw[show a.toArray.any g=a.any g by simp,e];exact q
 .obtain⟨a,r,i,o⟩:=I.tuple c;obtain⟨g,d,e⟩:=sY I R (A:=X.A.in1) (by rw[gW];lia) l k hd r j;refine SeqAt.notIn_tupleAt g i (λw hw=>d w (by simpa using hw)) ⟨.bl _,H,I,rfl,?_⟩;rw[show a.toArray.any g=a.any g by simp,e];exact q
noncomputable def c4(c:Bool):D->D->Hm->jk
 |.str i,.str j,μ=>b0 (.bl (if c then !(!(WU j i 0 j.length 1).isEmpty)else !(WU j i 0 j.length 1).isEmpty),μ)|x,.loc a,μ=>match μ[a]? with
  |some (.dT kvs)=>(cQ x).map λk=>(.bl (if c then !(bT kvs k).isSome else(bT kvs k).isSome),μ)|some (.dF kvs)=>(cQ x).map λk=>(.bl (if c then !(bT kvs k).isSome else(bT kvs k).isSome),μ)|_=>mM c x (.loc a) μ
 |x,y,μ=>mM c x y μ
noncomputable def xN:D->D->Hm->jk
 |.str i,.str j,μ=>b0 (.bl (!(!(WU j i 0 j.length 1).isEmpty)),μ)|_,_,_=>b3
theorem CK{K:U9}:cS K xN (λx y H Q=>∃i j,x=.str i/\y=.str j/\Q (.bl (!(!(WU j i 0 j.length 1).isEmpty))) H):=by
 intro h H n x y d g l m Q R c e a k;unfold xN at a;split at a
 .cases a;cases c;cases e;exact⟨_,_,rfl,rfl,k h _ H .refl R (.bl _)⟩
 .cases a
noncomputable def jD(a:Bool):D->D->Hm->jk
 |x,.non,μ=>b0 (.bl (match x with|.non=>!a|_=>a),μ)|_,_,_=>b3
theorem CL{K:U9}:cS K (jD b5) (λx y H Q=>y=.non/\Q (.bl (decide (x=.non))) H):=by
 intro h H l x y d g i j Q R c e a k;unfold jD at a;split at a
 .cases a;cases e;refine⟨rfl,?_⟩;cases c<;>exact k h _ H .refl R (.bl _)
 .cases a
theorem CM{K:U9}:cS K (jD dI) (λx y H Q=>y=.non/\Q (.bl (!decide (x=.non))) H):=by
 intro h H l x y d g i j Q R c e a k;unfold jD at a;split at a
 .cases a;cases e;refine⟨rfl,?_⟩;cases c<;>exact k h _ H .refl R (.bl _)
 .cases a
theorem Mm(c:QE X a ma)(d:QE X b mb):QE X (.Compare a [.Is] [b] pos) (aC (jD b5) ma mb):=⟨eV Bm CL c.h d.h (dD _)⟩
theorem Mn(c:QE X a ma)(d:QE X b mb):QE X (.Compare a [.IsNot] [b] pos) (aC (jD dI) ma mb):=⟨eV Bn CM c.h d.h (dD _)⟩
theorem Mo(c:QE X a ma)(d:QE X b mb):QT X (.Compare a [.Is] [b] pos) (aO (aC (jD b5) ma mb)):=⟨eW Bm CL c.h d.h (dD _)⟩
theorem Mp(c:QE X a ma)(d:QE X b mb):QT X (.Compare a [.IsNot] [b] pos) (aO (aC (jD dI) ma mb)):=⟨eW Bn CM c.h d.h (dD _)⟩
end
section
variable{X:Cx}{e a b c o:Expr}{m m1 m2 ma mb mc mo:ME}{pos apos cpos:W9}{mt mu:MT}{rest es:List Expr}{ms:MA}{n:Nat}
noncomputable def oA(d:Hm):D->Bool
 |.rol _=>dI|.loc a=>match d[a]? with|some (.lst _)=>dI|_=>b5
 |_=>b5
noncomputable def dE(f:D->List D->Hm->jk)(mo:ME)(ms:MA):ME:=λρ d=>(mo ρ d).bind λp=>match oA p.2 p.1 with
 |true=>(ms ρ p.2).bind λq=>f p.1 q.1 q.2|false=>b3
noncomputable def oB(K:U9)(f:D->List D->Hm->jk)(r:V->gw->Hp->VK->Prop):Prop:=
 ∀i H g x k d h v j Q,Rp K i H g->IsD K i g.length H v x->IsDs K i g.length H j k->f x k g=b0 (d,h)->KC K Q i g.length H d h->r v j H Q
theorem Mq{K:U9}{π:Nat->Addr}{H:Hp}{d:Hm}{v:V}{x:D}(R:Rp K π H d)(h:IsD K π d.length H v x)(e:oA d x=dI):wK K "list" v H:=by
 cases h with
 |rol h t=>exact .inl ⟨rfl,_,h.sq⟩|@loc a l=>
  simp only[oA]at e;split at e
  .rename_i k i;obtain⟨j,g,_⟩:=R.lst a k i;exact .inl ⟨rfl,j,.of g⟩
  .cases e
 |_=>cases e
theorem Mr{K:U9}{f:D->List D->Hm->jk}{r:V->gw->Hp->VK->Prop}(G:oB K f r):∀σ H Q,tM K (dE f mo ms) σ H Q->BI K "list" r (tM K mo) (tMA K ms) σ H Q:=by
 rintro σ H Q ⟨T,y,O,d,j,R,E,g,k⟩;obtain⟨⟨x,h⟩,A,g⟩:=U7.mp g;dsimp only at g;split at g
 .rename_i I;obtain⟨⟨w,i⟩,B,g⟩:=U7.mp g;refine⟨T,y,O,x,h,R,E,A,λl M U s q v=>⟨Mq q v I,l,y,h,w,i,q,E.mono s,B,λp N z u R2 L=>?_⟩⟩;exact G p z i x w d j M N Q R2 (v.mono u) L g (k.after (s.trans u))
 .cases g
noncomputable def mN:Expr->Bool
 |.Call (.Name _ _) [] [] _=>b5|_=>dI
theorem oC{o:Expr}{i:Str}{env:a0y}{d:a2S Value}(h:mN o=dI):Zu o i env d=d:=by
 cases o with
 |Call f g j p=>
  cases f with
  |Name id q=>
   cases g with
   |nil=>
    cases j with
    |nil=>cases h|cons _ _=>rfl
   |cons _ _=>rfl
  |_=>rfl
 |_=>rfl
theorem Ms{e:Expr}{es:List Expr}{env:a0y}{cpos:W9}(h:(e::es).all dA=dI)(i:(e::es).length<30) :
  ((Yq cpos (V7 (e::es) env)).all (λx=>!x.1)&&(a3R cpos (a1P [] env)).all (λx=>x.1.isSome)
   && decide ((e::es).length+([]:List Zb).length+(if([]:List Zb).isEmpty then 0 else 1)<30))=true:=by
 have d:(Yq cpos (V7 (e::es) env)).all (λx=>!x.1)=true:=by have:=mJ (pos:=cpos) (env:=env) h;rw[List.all_eq_not_any_not];simpa using this
 rw[d];have g:(e::es).length+([]:List Zb).length+(if([]:List Zb).isEmpty then 0 else 1)<30:=by show(e::es).length+0+0<30;lia
 rw[decide_eq_true g];rfl
theorem tB{f:D->List D->Hm->jk}{r:V->gw->Hp->VK->Prop}{name:Str}{id:String}(h:Slot "list" name id) (i:typeOf (.builtin id)=pure (.type "method_descriptor")) (p:pR X id r)(k:oB X.K f r)
  (s:QE X o mo)(j:QA X (e::es) ms n)(u:mN o=dI)(l:(apos.endLine==cpos.line)=dI)(q:(e::es).length<30):QE X (.Call (.Attribute o name apos) (e::es) [] cpos) (dE f mo ms):=by
 have g:=j.s;have d:=g;rw[Wg,Vl]at d;exact⟨cZ (Ji PySem.F.plainAttrs_list h i p s.h j.h (oC u) (Ms g q) l (fS d.1) (mJ d.2)) (Mr k)⟩
noncomputable def gG:D->List D->Hm->jk
 |.loc a,[y],μ=>(nX μ a y).map λd=>(.non,d)|_,_,_=>b3
noncomputable def j6:D->List D->Hm->jk
 |.loc a,[.loc b],μ=>match μ[a]?,μ[b]? with
  |some (.lst xs),b0 (.lst ys)=>if xs.length+ys.length<=Vp then b0 (.non,μ.set a (.lst (xs++ys)))else b3|_,_=>b3
 |_,_,_=>b3
theorem Mt{K:U9}:oB K gG BJ:=by
 intro I H N x M d E v L Q R A i h k;unfold gG at h;split at h
 .rename_i a y;obtain⟨G,g,h⟩:=Vd.mp h;cases h;unfold nX at g;split at g
  .rename_i r q;split at g
   .rename_i w;cases g;obtain⟨j,l,p⟩:=R.lst a r q;cases A;cases i with
    |cons B z=>cases z;obtain⟨u,s⟩:=R.put (a:=a) (c:=.lst (r++[y])) (o:=.lst (j++[_])) (Vc.mp q).1 l (.inl ⟨j,rfl⟩) (p.append (.cons B .nil));exact⟨_,j,_,rfl,rfl,l,by rw[p.length];exact w,k I _ _ u s .non⟩
   .cases g
  .cases g
 .cases h
theorem Mu{K:U9}:oB K j6 BL:=by
 intro M H T x O d L v N Q R G h g k;unfold j6 at g;split at g
 .rename_i a b;split at g
  .rename_i u s q B;split at g
   .rename_i A;cases g;obtain⟨i,j,l⟩:=R.lst a u q;obtain⟨r,z,p⟩:=R.lst b s B;cases G;cases h with
    |cons I E=>cases E;cases I;obtain⟨y,w⟩:=R.put (a:=a) (c:=.lst (u++s)) (o:=.lst (i++r)) (Vc.mp q).1 j (.inl ⟨i,rfl⟩) (l.append p);exact⟨_,_,i,r,rfl,rfl,j,z,by rw[l.length,p.length];exact A,k M _ _ y w .non⟩
   .cases g
  .cases g
 .cases g
noncomputable def oD(d:Hm):D->Option Bool
 |.non=>b0 b5|.bl b=>b0 b|.int i=>b0 (i != 0)|.str z=>if z.length<=Vp then b0 ((z.length:Int) != 0)else b3|.tup xs=>b0 (!xs.isEmpty)|.rol xs=>b0 (!xs.isEmpty)|.loc a=>match d[a]? with|some (.lst xs)=>b0 (!xs.isEmpty)|some (.dK kvs)=>b0 (!kvs.isEmpty)|_=>b3
 |.ty _=>b3
theorem tD{g i:Type}{xs:List g}{d:List i}(h:xs.length=d.length):xs.isEmpty=d.isEmpty:=by cases xs<;>cases d<;>first|rfl|cases h
theorem Mv{K:U9}{π:Nat->Addr}{H:Hp}{p:Hm}{v:V}{x:D}{b:Bool}(R:Rp K π H p)(h:IsD K π p.length H v x)(e:oD p x=b0 b):wA K v H b:=by
 cases h with
 |non=>cases e;rfl|bl c=>cases e;rfl|int i=>cases e;rfl|str z=>
  simp only[oD]at e;split at e
  .rename_i q;cases e;exact⟨q,rfl⟩
  .cases e
 |tup h t=>cases e;exact .inr (.inl ⟨_,h,by rw[tD t.length]⟩)|rol h t=>cases e;exact .inl ⟨_,h.sq,by rw[tD t.length]⟩|@loc a s=>
  simp only[oD]at e;split at e
  .rename_i r j;cases e;obtain⟨l,d,g⟩:=R.lst a r j;exact .inl ⟨l,.of d,by rw[tD g.length]⟩
  .rename_i k j;cases e;obtain⟨l,d,g,_⟩:=R.dK a k j;refine .inr (.inr ⟨l,d,?_⟩);have:=congrArg WI g;rw[U8,U8]at this;rw[tD this]
  .cases e
 |ty n=>cases e
noncomputable def dH(m:ME):MT:=λρ d=>(m ρ d).bind λp=>(oD p.2 p.1).map λb=>(b,p.2)
theorem Mw(h:QE X e m)(r:xE e=dI):QT X e (dH m):=⟨sH (Ik h.h (LI r)) (by
 rintro G H Q ⟨y,z,u,b,v,R,E,d,k⟩;obtain⟨⟨x,w⟩,p,d⟩:=U7.mp d;obtain⟨A,q,d⟩:=Vd.mp d;cases d;exact⟨y,z,u,x,_,R,E,p,λg B j l i s=>⟨_,Mv i s q,k g j l i⟩⟩)⟩
theorem Mx{k:Nat}{f:Addr}{j:X5}{ps:List Str}{l:MF}{x:Str}{p:W9}(F:FnOk X.prog X.w X.K X.mg X.base fF k f j ps (iE X.K 0 l))(v:Room k X.A)(g:X.mg x=b0 (.ref f))
  (u:Xp X.K (.ref f)=dI)(r:Binds X.K j ps [])(s:Gl X x)(h:(x==("__debug__":Str))=b5):QE X (.Call (.Name x p) [] [] pos) (aF l aD):=
 ⟨cZ (IA F v s g u r .nil (E:=E0) BP h) (by
  rintro G H Q ⟨z,B,w,d,i,R,E,g,k⟩;obtain⟨⟨A,y⟩,q,g⟩:=U7.mp g;cases q;exact⟨rfl,z,[],w,d,i,R,.nil,g,k⟩)⟩
noncomputable def mO(c:MT)(b:MS):Nat->MS
 |0,_,_=>b3|n+1,ρ,μ=>(c ρ μ).bind λp=>match p.1 with
  |false=>b0 (.nx,ρ,p.2)|true=>(b ρ p.2).bind λq=>match q.1 with
   |.nx=>mO c b n q.2.1 q.2.2|.ct=>mO c b n q.2.1 q.2.2|.bk=>b0 (.nx,q.2.1,q.2.2)|.rt d=>b0 (.rt d,q.2.1,q.2.2)
noncomputable def mP(n:Nat)(c:MT)(b:MS):MS:=mO c b n
theorem My{body:List Stmt}{mb:MS}(n:Nat)(hc:QT X c mt)(hb:QB X body mb)(hp:a1I (VF X.prog X.w) X.A X.env X.xe):QS X (.While c body [] pos) (mP n mt mb):=⟨iF (HJ hp hc.h hb.h) (by
 rintro E σ H ⟨Z,ρ,Y,T,B,z,R,EN,hm,k⟩;have q:∀{h:Nat->Addr}{n2:Nat}{H2:Hp}(e:Ext Z Y.length H h n2 H2),mE X.K E h n2 H2 T B z:=λ{h n2 H2} e=>by
  cases T with
  |nx=>exact λi s y j x K=>k i s y (e.trans j) x K|bk=>exact λi s y j x K=>k i s y (e.trans j) x K|ct=>exact λi s y j x K=>k i s y (e.trans j) x K|rt d=>exact KC.after k e
 refine⟨λm v w=>∃h l r,Ext Z Y.length H h l.length w/\Rp X.K h w l/\En X.K h l.length w v r/\mO mt mb m r l=b0 (T,B,z),⟨n,Z,Y,ρ,.refl,R,EN,hm⟩,?_⟩;rintro m σ1 H1 ⟨h,l,r,N,R2,E2,h2⟩;cases m with
 |zero=>cases h2|succ m=>
  obtain⟨⟨b,Q⟩,h3,h4⟩:=U7.mp h2;refine⟨h,r,l,b,Q,R2,E2,h3,λi y j x=>?_⟩;cases b with
  |false=>refine kU ?_;cases h4;exact q N i σ1 y j x (E2.mono j)|true=>
   refine kW ?_;obtain⟨⟨f4,G,A⟩,h5,U⟩:=U7.mp h4;refine⟨λv w=>∃g u p,Ext Z Y.length H g p.length w/\Rp X.K g w p/\En X.K g p.length w v u/\mO mt mb m u p=b0 (T,B,z),
    λv w ⟨g,u,p,a1,a2,a3,a4⟩=>⟨m,Xn _,g,p,u,a1,a2,a3,a4⟩,i,r,Q,f4,G,A,x,E2.mono j,h5,?_⟩
   cases f4 with
   |nx=>exact λg I H5 O M L=>⟨g,G,A,(N.trans j).trans O,M,L,U⟩|ct=>exact λg I H5 O M L=>⟨g,G,A,(N.trans j).trans O,M,L,U⟩|bk=>cases U;exact λg I H5 O M L=>q (N.trans j) g I H5 O M L|rt d'=>
    cases U;exact q (N.trans j))⟩
theorem Mz:QS X (.Return b3 pos) (aN (mC .non)):=⟨iF HA (by
 rintro E r H ⟨h,q,p,l,i,g,R,j,d,k⟩;cases d;exact k h .non H .refl R .non)⟩
end
noncomputable def oE:List D->Option (List Bool)
 |[]=>b0 []|.bl b::r=>(oE r).map (b::·)|_=>b3
noncomputable def pZ:MF:=λds a=>match ds with
 |[x]=>(bJ a x).bind λc=>(oE c).map λbs=>(.bl (bs.all id),a)|_=>b3
theorem CN{K:U9}{π:Nat->Addr}{n:Nat}{H:Hp}:∀{xs:List D}{vs:gw}{bs:List Bool},IsDs K π n H vs xs->oE xs=b0 bs->vs=bs.map V.bl
 |[],_,bs,h,e=>by cases h;cases e;rfl
 |x::xs,vs,bs,h,e=>by
  cases h with
  |cons h t=>
   cases x with
   |bl b=>obtain⟨a,c,d⟩:=Vd.mp e;subst d;cases h;rw[CN t c];rfl|_=>cases e
noncomputable def CO(K:U9)(g:List Bool->Bool):gw->Hp->VK->Prop:=λxs H Q=>∃p bs,xs=[.ref p]/\(SqL K H p (bs.map V.bl)\/SqT K H p (bs.map V.bl))/\Q (.bl (g bs)) H
theorem MB{K:U9}{g:List Bool->Bool}{f:MF}(j:f=λds c=>match ds with|[x]=>(bJ c x).bind λxs=>(oE xs).map λbs=>(.bl (g bs),c)|_=>b3):dS K f (CO K g):=by
 subst j;intro m H c xs d l n Q R i a k;dsimp only at a;split at a
 .obtain⟨r,e,a⟩:=U7.mp a;obtain⟨bs,h,a⟩:=Vd.mp a;cases a;cases i with
  |cons i t=>cases t;obtain⟨p,o,rfl,q,hd⟩:=nZ R i e;have:=CN hd h;subst this;exact⟨p,bs,rfl,q,k m _ H .refl R (.bl _)⟩
 .cases a
theorem CP{bs:List Bool}{n:Nat}(a:n=bs.length):(VS n).all (λi=>bs.getD i b5)=bs.all id:=by
 subst a;induction bs with
 |nil=>rfl|cons b bs c=>rw[VD,ZX,Wg,a2e,Wg,<- c];rfl
section
variable{X:Cx}
theorem CQ{prog:VE}{w:VW}{A:VO}{bs:List Bool}{a:gq}(r:Vals (bs.map V.bl) a):TruthOf prog w A (λi v=>a.toArray[i]?=b0 v) (λi=>bs.getD i b5):=by
 intro i v s Q E k d;have c:a[i]?=b0 v:=by simpa using k
 have h:i<bs.length:=by have:=(Vc.mp c).1;have:=r.length;rw[U8]at this;lia
 obtain⟨u,g,j⟩:=r.get (i:=i) (x:=.bl bs[i]) (by rw[Vx,Vb h];rfl);rw[c]at g;cases g;cases j;have e:bs.getD i b5=bs[i]:=by simp[Wt,h]
 dsimp only at d;rw[e]at d;exact WS d
theorem MC(hc:X.calm=dI):CallR X (.builtin "all") (CO X.K (·.all id)):=by
 intro x s G H E B Q I r h;obtain⟨p,bs,rfl,j,q⟩:=h;obtain⟨u,rfl,A⟩:=i5 r;cases A;have w:X.A.in1.handled=none:=I.ok.hd hc;rcases j with j|j
 .obtain⟨a,k,g,z⟩:=I.list j;refine call_all_walk (ZU g.isList ?_);have d:p≠s.heap.objs.size:=by obtain⟨o,m,_⟩:=g.isList;exact VI (Vn m)
  refine⟨s.heap.objs.size,_,_,_,_,_,λi=>bs.getD i b5,rfl,a4T w _ p d a.toArray,⟨⟨_,Vr _ rfl,rfl,rfl⟩,g.isList.push _⟩,CQ k,λy v n=>?_⟩;have c:a.toArray.size=bs.length:=by rw[Vi,<- k.length,U8]
  refine⟨.bl _,H,I.kept (t':=v) λb o e=>n b o ?_ (Vg _ e),rfl,?_⟩
  .intro l;have:b=s.heap.objs.size:=by simpa using l
   exact VI (Vn e) this
  .rw[CP c];exact q
 .obtain⟨a,k,g,z⟩:=I.tuple j;refine call_all_walk (Yn (show s.heap.IsTuple p a.toArray from g) ?_);have d:p≠s.heap.objs.size:=by obtain⟨o,m,_⟩:=g;exact VI (Vn m)
  refine⟨s.heap.objs.size,_,_,_,_,_,λi=>bs.getD i b5,rfl,a0O w _ p d a.toArray,⟨⟨_,Vr _ rfl,rfl,rfl⟩,a0i g _⟩,CQ k,λy v n=>?_⟩;have c:a.toArray.size=bs.length:=by rw[Vi,<- k.length,U8]
  refine⟨.bl _,H,I.kept (t':=v) λb o e=>n b o ?_ (Vg _ e),rfl,?_⟩
  .intro l;have:b=s.heap.objs.size:=by simpa using l
   exact VI (Vn e) this
  .rw[CP c];exact q
end
open PyProof.Rows (IntsAre)
open PySem.W (KasT kas_asc kas_desc kas_tail3 kas_descPart kas_count kas_place kas_bin kas_sort kas_rev kas_ask)
noncomputable def cE(lt:Nat->Nat->Bool)(n:Nat):List Nat:=(VS n).mergeSort λi j=>!(lt j i)
theorem MH(lt:Nat->Nat->Bool){n:Nat}(_:0<n):(cE lt n).Perm (VS n):=List.mergeSort_perm _ _
section
variable{X:Cx}{a5N:jw}{σ:St}{H:Hp}{s:Ve}
end
section
open PyProof.Rows
variable{prog:VE}{w:VW}{A:VO}{E:Value->Ve->Prop}{s:Ve}
theorem CS{c:Addr}{us:gq}{z:Nat}{R:Fin->Ve->Prop}(j:us.length<2)(g:s.heap.get? c=b0 (Xf "list" us.toArray z)) (q:R (.done (.ret .none)) {s with heap:=a0W s.heap c us us.toArray}) :
  VH (VF prog w) A (Builtin.«list.sort» ⟨[.ref c],[]⟩) R E s:=by
 rw[a5g];have lt:c<s.heap.objs.size:=Vn g;refine Va (listItems_at g rfl (Va (a0N g rfl ?_)));obtain⟨y,e⟩:∃y,(s.heap.update c (Ww λ_=>#[])).get? c=b0 (Xf "list" #[] y):=⟨_,a5i g _⟩;refine Va (a1O e rfl (Va (a2g (Va (a0L (Ws ?_))))));have h:(((s.heap.update c (Ww λ_=>#[])).push (Xf "tuple" us.toArray 0)).push (Xf "list" #[] 0)).get? c=b0 (Xf "list" #[] y):=
  Vg _ (Vg _ e)
 show VH (VF prog w) A _ R E ⟨((s.heap.update c (Ww λ_=>#[])).push (Xf "tuple" us.toArray 0)).push (Xf "list" #[] 0),s.gens,s.drawn,s.toks,s.os⟩;dsimp only;have a:us.toArray.size<2:=by simpa using j
 rw[if_pos a,if_pos a];refine Va (Vj ?_);rw[StateT.run_pure];refine Va (Vj ?_);dsimp only;have d:a5E (λx=>x.2) (a3T (VL general' (us.toArray.zip us.toArray) #[] 7 b3))=us.toArray:=by show a5E (λx=>x.2) (us.toArray.zip us.toArray)=us.toArray;exact Array.ext (by simp) (λi k l=>by simp)
 refine Va (a1O h rfl (Va (a0N h rfl ?_ (hsz2:=by rw[d,VC];lia))));rw[d];simp only[bne_self_eq_false,Vu,if_false];exact Vj q
end
theorem CT(lt:Nat->Nat->Bool):cE lt 1=[0]:=List.mergeSort_singleton ..
theorem tE(lt:Nat->Nat->Bool):cE lt 0=[]:=List.mergeSort_nil
theorem gZ(lt:Nat->Nat->Bool)(n:Nat):(cE lt n).Perm (VS n):=by
 cases n with
 |zero=>rw[tE];exact .nil|succ n=>exact MH lt (Nat.succ_pos n)
theorem MJ{ns:List Int}{us:gq}(h:Vals (ns.map V.int) us):YJ us ns:=wD h
end L3
namespace L3
open PySem L2 PySem.W PyProof.Rows
noncomputable def tF:Bool->Keyed->Array Keyed->Nat->Nat->Nat->StateT XG a2S (Option Nat):=sortPriv% PySem.Builtin.gallop
section
variable{M:a2W}{A:VO}{E:Value->Ve->Prop}{σ:Type}
theorem j7{a:Type}{f:Nat->a->StateT σ a2S (ForInStep a)}{st:σ}{s:Ve}{Q:a->σ->Ve->Prop}(d:Nat->a->Prop)(j:a->Prop)(n:Nat)
  (step:∀i x b,i<n->d i b->Yw M A E (f x b) (λr g u=>g=st/\u=s/\match r with|.done c=>j c|.yield c=>d (i+1) c) st s)(fin:∀b,d n b->j b)(k:∀b,j b->Q b st s) :
  ∀(l:List Nat)(i:Nat)(b:a),i+l.length=n->d i b->Yw M A E (forIn l b f) Q st s
 |[],i,b,h,hI=>kasC_nil (k b (fin b (by simp at h;subst h;exact hI)))|x::l,i,b,h,hI=>by
  rw[VD]at h;refine kasC_cons (Wr (step i x b (by lia) hI) (λr u q=>?_) λ_ _ e=>e);obtain⟨r,g⟩:=r;obtain⟨m,o,p⟩:=q;dsimp only at m o;subst m o;cases r with
  |done c=>exact k c p|yield c=>exact j7 d j n step fin k l (i+1) c (by lia) p
end
section
variable{prog:VE}{w:VW}{A:VO}{E:Value->Ve->Prop}{κ:YT}{st:XG}{s:Ve}
noncomputable def fT(prog:VE)(w:VW)(A:VO)(κ:YT)(s:Ve)(X:Keyed->Prop)(an:Keyed->Keyed->Bool):Prop:=
 ∀(x y:Keyed)(C:Bool->Ve->Prop),X x->X y->C (an x y) s->VH (VF prog w) A (a4p κ x.1 y.1) C (λ_ _=>False) s
theorem qA{X:Keyed->Prop}{an:Keyed->Keyed->Bool}(hC:fT prog w A κ s X an)(c:kindOf st=κ){x y:Keyed}(d:X x)(e:X y){Q:Option Bool->XG->Ve->Prop}(q:Q (b0 (an x y)) st s):Yw (VF prog w) A E (lt' x y) Q st s:=by rw[lt'_eq];refine Vq (Y9 ?_);rw[c];exact Vq (Z8 (a2G (Wr (hC x y (λb a=>b=an x y/\a=s) d e ⟨rfl,rfl⟩) (λb a z=>by obtain⟨rfl,rfl⟩:=z;exact Vv q) λ_ _ f=>f.elim)))
theorem MK{x:XG}{Q:PUnit->XG->Ve->Prop}(h:Q ⟨⟩ x s):Yw (VF prog w) A E (set x:StateT XG a2S PUnit) Q st s:=by unfold Yw;rw[StateT.run_set];exact Vj h
theorem xO{a:Array Keyed}{i:Nat}{x:Keyed}{Q:Keyed->XG->Ve->Prop}(h:a[i]?=b0 x)(q:Q x st s):Yw (VF prog w) A E (elem' a i) Q st s:=by rw[elem'_eq,h];exact Vv q
noncomputable def CU:Array Keyed->Array Keyed->StateT XG a2S (Array Keyed):=sortPriv% PySem.Builtin.mergeLo
noncomputable def CV:Array Keyed->Array Keyed->StateT XG a2S (Array Keyed):=sortPriv% PySem.Builtin.mergeHi
theorem CW:∀(l:List Keyed)(c:Array Keyed)(o k:Nat),o+k+l.length<=c.size->((l.zipIdx k).foldl (λ(a:Array Keyed)(x:Keyed×Nat)=>a.setIfInBounds (o+x.2) x.1) c).toList=c.toList.take (o+k)++l++c.toList.drop (o+k+l.length)
 |[],c,o,k,h=>by simp
 |x::l,c,o,k,h=>by
  rw[List.zipIdx_cons,a3Z,CW l _ o (k+1) (by rw[Array.size_setIfInBounds];rw[VD]at h;lia)];rw[VD]at h;have d:o+k<c.toList.length:=by simp;lia
  rw[a1t,VD];dsimp only;rw[show o+(k+1)=o+k+1 by lia,a3x,Wu d,List.take_set_of_le (Vk _),List.drop_set_of_lt (by lia)];simp[show o+k+1+l.length=o+k+(l.length+1) by lia]
theorem ML{X:Keyed->Prop}{an:Keyed->Keyed->Bool}(hC:fT prog w A κ s X an)(d:a5n st=κ){i j:Nat}{x y:Keyed}(a:(a3T st)[i]?=b0 x)(c:(a3T st)[j]?=b0 y)(e:X x)(g:X y){Q:Option Bool->XG->Ve->Prop}(q:Q (b0 (an x y)) st s):Yw (VF prog w) A E (ltAt' i j) Q st s:=by rw[ltAt'_eq];refine Vq (Y9 ?_);refine Vq (xO a (Vq (xO c (qA hC d e g q))))
end
section
variable{prog:VE}{w:VW}{A:VO}{E:Value->Ve->Prop}{s:Ve}
theorem MM(us:gq):(us.toArray.zip us.toArray).toList=us.map λu=>(u,u):=by
 simp only[Array.toList_zip];induction us with
 |nil=>rfl|cons u us a=>simpa using a
structure Near(us:gq)(n K:Nat)(an:Value->Value->Bool):Prop where
 len:us.length=n+1
 le:K<=n
 asc:∀(i:Nat)(x z:Value),i+1<n->us[i+1]?=b0 x->us[i]?=b0 z->an x z=b5
 ris:∀x z,us[0]?=b0 x->us[n-1]?=b0 z->an x z=dI
 at_:∀(i:Nat)(x z:Value),i<n->us[i]?=b0 x->us[n]?=b0 z->an z x=decide (K<=i)
noncomputable def CY(prog:VE)(w:VW)(A:VO)(us:gq)(an:Value->Value->Bool)(s:Ve):Prop:=
 VH (VF prog w) A (keyKind' us.toArray) (λc a=>a=s/\∀(x y:Value)(C:Bool->Ve->Prop),x∈us->y∈us->C (an x y) s->VH (VF prog w) A (a4p c x y) C (λ_ _=>False) s) (λ_ _=>False) s
end
section
variable{X:Cx}{a5N:jw}{σ:L2.St}{H:Hp}{s:Ve}
theorem xP(I:L2.Inv X a5N σ H s){a:Addr}{t t':List Int}(h:SqT X.K H a (t.map V.int))(h':SqT X.K H a (t'.map V.int)):t=t':=
 (List.map_inj_right λx y h=>by cases h;rfl).mp (I.tuple_inj h h')
open Classical in
noncomputable def tv(K:U9)(H:Hp):Value->List Int
 |.ref a=>if h:∃t:List Int,SqT K H a (t.map V.int)then h.choose else[]|_=>[]
end
end L3
namespace L3
open PySem PySem.Spec
namespace Tb
section
variable{prog:VE}{w:VW}{A:VO}{E:Value->Ve->Prop}{s:Ve}
noncomputable abbrev IsT(prog:VE)(w:VW)(h:WA)(k:List Int)(b:Addr):Prop:=IsTupleKey (YF prog w) h k b
end
section
variable{prog:VE}{w:VW}{A:VO}{R:a1G->Ve->Prop}{I:Addr}{fp wr:List Addr}{G:Array a4d->Array a4d->Prop}{n:Nat}{P:Nat->Value->Prop}{St:Nat->Ve->Prop}
end
section
variable{prog:VE}{w:VW}{A:VO}{E:Value->Ve->Prop}{s:Ve}
noncomputable abbrev fH(a:Bool):Obj:={cls:=.type "set",dict:=b3,data:=.set #[] 0 (.fresh 0 0 a)}
end
end Tb
end L3
namespace L3
open PySem L2
open PyProof.Rows (IntsAre)
theorem xQ:∀{ds:List D}{k:List Int},n9 ds=b0 k->ds=k.map D.int
 |[],k,h=>by cases h;rfl
 |d::ds,k,h=>by
  cases d with
  |int i=>obtain⟨e,a,c⟩:=Vd.mp h;subst c;rw[xQ a];rfl|_=>cases h
theorem qB{x:D}{k:List Int}(h:cQ x=b0 k):x=.tup (k.map D.int):=by
 cases x with
 |tup ds=>rw[xQ h]|_=>cases h
noncomputable def eD(c:Hm):D->Option (List D)
 |.rol xs=>b0 xs|.loc a=>match c[a]? with
  |some (.lst xs)=>b0 xs|_=>b3
 |_=>b3
section
variable{K:U9}{π:Nat->Addr}{n:Nat}{H:Hp}{μ:Hm}
theorem oF{v:V}{x:D}{xs:List D}(R:Rp K π H μ)(h:IsD K π μ.length H v x)(e:eD μ x=b0 xs):∃p vs,v=.ref p/\SqL K H p vs/\IsDs K π μ.length H vs xs:=by
 cases h with
 |rol q t=>cases e;exact⟨_,_,rfl,q.sq,t⟩|@loc a i=>
  simp only[eD]at e;split at e
  .rename_i j g;cases e;obtain⟨vs,c,d⟩:=R.lst a xs g;exact⟨_,vs,rfl,.of c,d⟩
  .cases e
 |_=>cases e
theorem ints_of':∀{vs:gw}{k:List Int},IsDs K π n H vs (k.map D.int)->vs=k.map V.int
 |_,[],h=>by cases h;rfl
 |_,i::k,h=>by
  cases h with
  |cons h t=>cases h;rw[ints_of' t];rfl
theorem xR:∀(k:List Int),IsDs K π n H (k.map V.int) (k.map D.int)
 |[]=>.nil|i::k=>.cons (.int i) (xR k)
end
theorem CZ{X:Cx}:∀{k:List Int}{xs:gq},Vals (k.map V.int) xs->ItemsAre (YF X.prog X.w) k xs
 |[],_,h=>by cases h;exact .nil
 |i::k,_,h=>by
  cases h with
  |cons h t=>obtain⟨a,rfl⟩:=h;exact .cons (intKind_is _ _ _ _) (CZ t)
section
variable{X:Cx}{a5N:jw}{σ:St}{H:Hp}{s:Ve}
theorem k7(I:Inv X a5N σ H s){b:Addr}{k:List Int}(h:SqT X.K H b (k.map V.int)):Tb.IsT X.prog X.w s.heap k b:=by obtain⟨i,g,⟨a,e,c,n,d⟩,_⟩:=I.tuple h;exact⟨a,i.toArray,n,e,c,d,by simpa using CZ g⟩
theorem call_lenT:CallR X (.builtin "len") (λxs H Q=>∃a L,xs=[V.ref a]/\H a=b0 (sF a L)/\Q (.int L.length) H):=by
 intro a5N s σ H xs A Q I r h;obtain⟨a,L,rfl,g,q⟩:=h;obtain⟨u,rfl,y⟩:=i5 r;cases y;obtain⟨⟨o,p,x,e,z,t,R,d,hd,i,ok,v,n,l,j,w,k⟩,_,_⟩:=I.hok a _ g;have c:e.size=L.length:=by have:=v.length_eq;simpa using this
 have m:t.mask<=511:=by rcases l with h|h|h|h<;>lia
 refine call_len_set p d hd (Tb.fits_of ok i) (by rw[c];lia) ?_;rw[c];exact⟨.int L.length,H,I.tok _,⟨_,rfl⟩,q⟩
end
end L3
namespace L3
open PySem L2
theorem C0{K:U9}{π:Nat->Addr}{n:Nat}{H:Hp}:∀{vs:gw}{xs:List D}(i:Nat),IsDs K π n H vs xs->IsD K π n H (vs.getD i .non) (xs.getD i .non)
 |_,_,i,.nil=>by simp;exact .non
 |_,_,0,.cons h _=>h|_,_,i+1,.cons _ t=>by simpa using C0 i t
theorem C1{K:U9}{π:Nat->Addr}{n:Nat}{H:Hp}{vs:gw}{xs:List D}(h:IsDs K π n H vs xs):∀(l:List Nat),IsDs K π n H (l.map λi=>vs.getD i .non) (l.map λi=>xs.getD i .non)
 |[]=>.nil|i::l=>.cons (C0 i h) (C1 h l)
end L3
namespace L3
open PySem L2 PySem.W PyProof.Rows
section
variable{prog:VE}{w:VW}{A:VO}{E:Value->Ve->Prop}{κ:YT}{st:XG}{s:Ve}
theorem MN{i j:Nat}{Q:Unit->XG->Ve->Prop}(q:Q () (setArr st (a5J (a3T st) i j ((j-i)/2))) s):Yw (VF prog w) A E (reverseSlice' i j) Q st s:=by rw[reverseSlice'_eq];exact X8 q
end
section
variable{M:a2W}{A:VO}{E:Value->Ve->Prop}{σ:Type}
theorem iI{g:Type}{f:Nat->g->StateT σ a2S (ForInStep g)}{s:Ve}{Q:g->σ->Ve->Prop}(j:Nat->g->σ->Prop)(l:g->σ->Prop)(a n:Nat)
  (step:∀i b st,i<n->j i b st->Yw M A E (f (a+i) b) (λr d p=>p=s/\match r with|.done c=>l c d|.yield c=>j (i+1) c d) st s)(fin:∀b st,j n b st->l b st)(k:∀b st,l b st->Q b st s) :
  ∀(m i:Nat)(b:g)(st:σ),i+m=n->j i b st->Yw M A E (forIn (ZF (a+i) m) b f) Q st s
 |0,i,b,st,h,hI=>kasC_nil (k b st (fin b st (by simp at h;subst h;exact hI)))|m+1,i,b,st,h,hI=>by
  rw[a0R];refine kasC_cons (Wr (step i b st (by lia) hI) (λr p q=>?_) λ_ _ e=>e);obtain⟨r,d⟩:=r;obtain⟨u,o⟩:=q;subst u;cases r with
  |done c=>exact k c _ o|yield c=>exact iI j l a n step fin k m (i+1) c d (by lia) o
end
section
variable{prog:VE}{w:VW}{A:VO}{E:Value->Ve->Prop}{κ:YT}{st:XG}{s:Ve}
theorem C2{X:Keyed->Prop}{an:Keyed->Keyed->Bool}(hC:fT prog w A κ s X an)(Y:kindOf st=κ){M:Bool}{B:Keyed}{N:Array Keyed}{b n h:Nat}(hn:h<n)(y:Nat->Keyed)(ha:∀i,i<n->N[b+i]?=b0 (y i))(U:∀i,i<n->X (y i))(Z:X B)(K:Nat)(hK:K<=n)
  (hB:∀i,i<n->(if M then an (y i) B else !(an B (y i)))=decide (i<K)){Q:Option Nat->XG->Ve->Prop}(q:Q (b0 K) st s):Yw (VF prog w) A E (tF M B N b n h) Q st s:=by
 have H:∀{i:Nat}{R:Option Bool->XG->Ve->Prop},i<n->R (b0 (decide (i<K))) st s->Yw (VF prog w) A E (do let x <- elem' N (b+i);if M then lt' x B else return(<- lt' B x).map (!·)) R st s:=by
  intro i R u r;rw[elem'_eq,ha i u];refine Vq (Vv ?_);have:=hB i u;cases M with
  |true=>simp only[if_true]at this ⊢;exact qA hC Y (U i u) Z (by rw[this];exact r)|false=>simp only[Vu,if_false]at this ⊢;refine Vq (qA hC Y Z (U i u) (Vv ?_));show R (b0 (!(an B (y i)))) st s;rw[this];exact r
 unfold tF;refine Vq (H hn ?_);by_cases d:h<K
 .simp only[d,decide_true,if_true];refine Vq (Xg (j7 (λi c=>c.1=b3/\h+c.2.1<K/\c.2.1<c.2.2/\i+1<=c.2.2) (λc=>c.1=b3/\h+c.2.1<K/\c.2.1<c.2.2/\K<=h+min c.2.2 (n-h)) n (λi x c u a=>?_) (λc a=>⟨a.1,a.2.1,a.2.2.1,by lia⟩) (λc z=>?_) _ 0 _ (by simp) ⟨rfl,d,by decide,Vk _⟩))
  .obtain⟨v,T,of⟩:=c;obtain⟨p,l,m,G⟩:=a;dsimp only at p l m G ⊢;by_cases j:of >= n-h
   .rw[if_pos j];exact Vv ⟨rfl,rfl,rfl,l,m,by dsimp only;lia⟩
   .rw[if_neg j];refine Vq (H (i:=h+of) (by lia) ?_);by_cases k:h+of<K
    .simp only[k,decide_true,YE,Vu,if_false];exact Vv ⟨rfl,rfl,rfl,by dsimp only;lia,by dsimp only;lia,by dsimp only;lia⟩
    .simp only[k,decide_false,a0g,if_true];exact Vv ⟨rfl,rfl,rfl,l,m,by dsimp only;lia⟩
  .obtain⟨v,T,of⟩:=c;obtain⟨p,l,m,G⟩:=z;dsimp only at p l m G ⊢;subst p;dsimp only;refine Vq (Xg (j7 (λi c=>c.1=b3/\c.2.1<=K/\K<=c.2.2/\c.2.2<=n/\c.2.2-c.2.1<=n-i) (λc=>c.1=b3/\c.2.2=K) n (λi x c u a=>?_) (λc a=>⟨a.1,by lia⟩) (λc z=>?_) _ 0 _ (by simp) ⟨rfl,by dsimp only;lia,by dsimp only;lia,by dsimp only;lia,by dsimp only;lia⟩))
   .obtain⟨v,e,o⟩:=c;obtain⟨d,g,I,L,O⟩:=a;dsimp only at d g I L O ⊢;by_cases j:e >= o
    .rw[if_pos j];exact Vv ⟨rfl,rfl,rfl,by dsimp only;lia⟩
    .rw[if_neg j];refine Vq (H (i:=e+(o-e)/2) (by lia) ?_);by_cases k:e+(o-e)/2<K
     .simp only[k,decide_true,if_true];exact Vv ⟨rfl,rfl,rfl,by dsimp only;lia,I,L,by dsimp only;lia⟩
     .simp only[k,decide_false,Vu,if_false];exact Vv ⟨rfl,rfl,rfl,g,by dsimp only;lia,by dsimp only;lia,by dsimp only;lia⟩
   .obtain⟨v,e,o⟩:=c;obtain⟨d,g⟩:=z;dsimp only at d g ⊢;subst d g;exact Vv q
 .simp only[d,decide_false,Vu,if_false];refine Vq (Xg (j7 (λi c=>c.1=b3/\K+c.2.1<=h/\c.2.1<c.2.2/\i+1<=c.2.2) (λc=>c.1=b3/\K+c.2.1<=h/\c.2.1<c.2.2/\h+1<=K+min c.2.2 (h+1)) n (λi x c u a=>?_) (λc a=>⟨a.1,a.2.1,a.2.2.1,by lia⟩) (λc z=>?_) _ 0 _ (by simp) ⟨rfl,by dsimp only;lia,by decide,Vk _⟩))
  .obtain⟨v,T,of⟩:=c;obtain⟨p,l,m,G⟩:=a;dsimp only at p l m G ⊢;by_cases j:of >= h+1
   .rw[if_pos j];exact Vv ⟨rfl,rfl,rfl,l,m,by dsimp only;lia⟩
   .rw[if_neg j];refine Vq (H (i:=h-of) (by lia) ?_);by_cases k:h-of<K
    .simp only[k,decide_true,if_true];exact Vv ⟨rfl,rfl,rfl,l,m,by dsimp only;lia⟩
    .simp only[k,decide_false,Vu,if_false];exact Vv ⟨rfl,rfl,rfl,by dsimp only;lia,by dsimp only;lia,by dsimp only;lia⟩
  .obtain⟨v,T,of⟩:=c;obtain⟨p,l,m,G⟩:=z;dsimp only at p l m G ⊢;subst p;dsimp only;refine Vq (Xg (j7 (λi c=>c.1=b3/\c.2.1<=K/\K<=c.2.2/\c.2.2<=n/\c.2.2-c.2.1<=n-i) (λc=>c.1=b3/\c.2.2=K) n (λi x c u a=>?_) (λc a=>⟨a.1,by lia⟩) (λc z=>?_) _ 0 _ (by simp) ⟨rfl,by dsimp only;lia,by dsimp only;lia,by dsimp only;lia,by dsimp only;lia⟩))
   .obtain⟨v,e,o⟩:=c;obtain⟨d,g,I,L,O⟩:=a;dsimp only at d g I L O ⊢;by_cases j:e >= o
    .rw[if_pos j];exact Vv ⟨rfl,rfl,rfl,by dsimp only;lia⟩
    .rw[if_neg j];refine Vq (H (i:=e+(o-e)/2) (by lia) ?_);by_cases k:e+(o-e)/2<K
     .simp only[k,decide_true,if_true];exact Vv ⟨rfl,rfl,rfl,by dsimp only;lia,I,L,by dsimp only;lia⟩
     .simp only[k,decide_false,Vu,if_false];exact Vv ⟨rfl,rfl,rfl,g,by dsimp only;lia,by dsimp only;lia,by dsimp only;lia⟩
   .obtain⟨v,e,o⟩:=c;obtain⟨d,g⟩:=z;dsimp only at d g ⊢;subst d g;exact Vv q
end
section
variable{α:Type}{r:α->Int}{A B O:List α}{ia ib:Nat}
noncomputable def Sr(r:α->Int)(l:List α):Prop:=l.Pairwise λx y=>r x<=r y
structure J(r:α->Int)(A B O:List α)(ia ib:Nat):Prop where
 sa:Sr r (O++A.drop ia)
 sb:Sr r (O++B.drop ib)
 pm:O.Perm (A.take ia++B.take ib)
theorem J.swap(h:J r A B O ia ib):J r B A O ib ia:=⟨h.sb,h.sa,h.pm.trans Xd⟩
theorem J.blockB(h:J r A B O ia ib){k:Nat}(j:∀x∈(B.drop ib).take k,∀y∈A.drop ia,r x<=r y):J r A B (O++(B.drop ib).take k) ia (ib+k):=by
 obtain⟨a,c,i⟩:=h;have e:O++(B.drop ib).take k++B.drop (ib+k)=O++B.drop ib:=by rw[Vz,<- a1z,VY]
 refine⟨?_,by rw[e];exact c,?_⟩
 .unfold Sr at a c ⊢;rw[Vz,W2];rw[W2]at a c;refine⟨a.1,?_,λx g y d=>?_⟩
  .rw[W2];exact⟨c.2.1.sublist (Yr _ _),a.2.1,j⟩
  .rcases V4.mp d with d|d
   .exact c.2.2 x g y (a0d d)
   .exact a.2.2 x g y d
 .rw[List.take_add];exact((i.append_right _).trans (by rw[Vz]))
theorem J.blockA(h:J r A B O ia ib){k:Nat}(a:∀x∈(A.drop ia).take k,∀y∈B.drop ib,r x<=r y):J r A B (O++(A.drop ia).take k) (ia+k) ib:=(h.swap.blockB a).swap
theorem qC{l:List α}{i:Nat}{x:α}(h:l[i]?=b0 x):l.drop i=x::l.drop (i+1):=by obtain⟨a,rfl⟩:=Vc.mp h;exact XC a
theorem Sr.head{l:List α}{x:α}(h:Sr r (x::l)):∀y∈x::l,r x<=r y:=λy a=>by
 rcases Wf.mp a with rfl|a
 .exact a1g _
 .exact List.rel_of_pairwise_cons h a
theorem J.lowA(h:J r A B O ia ib){x:α}(a:A[ia]?=b0 x):∀y∈A.drop ia,r x<=r y:=by have:=(W2.mp h.sa).2.1;rw[qC a]at this ⊢;exact Sr.head this
theorem J.lowB(h:J r A B O ia ib){x:α}(a:B[ib]?=b0 x):∀y∈B.drop ib,r x<=r y:=h.swap.lowA a
theorem J.pushB(h:J r A B O ia ib){x y:α}(e:A[ia]?=b0 x)(a:B[ib]?=b0 y)(g:r y<=r x):J r A B (O++[y]) ia (ib+1):=by
 have:=h.blockB (k:=1) (by
  rw[qC a];intro z c u d;rw[a0o,X0,V8]at c;subst c;have:=h.lowA e u d;lia)
 rwa [qC a,a0o,X0]at this
theorem J.pushA(h:J r A B O ia ib){x y:α}(c:A[ia]?=b0 x)(d:B[ib]?=b0 y)(a:r x<=r y):J r A B (O++[x]) (ia+1) ib:=(h.swap.pushB d c a).swap
theorem C3{l:List α}{i k:Nat}{x:α}(h:x∈(l.drop i).take k):∃j,j<k/\l[i+j]?=b0 x:=by obtain⟨j,a,e⟩:=Zr h;rw[VG]at a;refine⟨j,by lia,?_⟩;rw[<- e,a0E,a3z,Vb]
theorem J.gallA(h:J r A B O ia ib){k:Nat}{y:α}(g:B[ib]?=b0 y)(c:∀j x,j<k->A[ia+j]?=b0 x->r x<=r y):J r A B (O++(A.drop ia).take k) (ia+k) ib:=h.blockA λx d z hz=>by obtain⟨j,a,e⟩:=C3 d;have i:=c j x a e;have l:=h.lowB g z hz;lia
theorem J.gallB(h:J r A B O ia ib){k:Nat}{x:α}(c:A[ia]?=b0 x)(a:∀j y,j<k->B[ib+j]?=b0 y->r y<=r x):J r A B (O++(B.drop ib).take k) ia (ib+k):=(h.swap.gallA c a).swap
noncomputable def Fi(r:α->Int)(A B R:List α):Prop:=R.Perm (A++B)/\Sr r R
theorem J.endB(h:J r A B O ia ib)(a:B.length<=ib):Fi r A B (O++A.drop ia++B.drop ib):=by rw[YY a,WQ];refine⟨?_,h.sa⟩;have:=h.pm.append_right (A.drop ia);refine this.trans ?_;rw[W5 a];refine Xd.trans ?_;rw[<- Vz];refine(List.Perm.append_right B (Xd)).trans ?_;rw[VY]
theorem J.endA(h:J r A B O ia ib)(a:A.length<=ia):Fi r A B (O++A.drop ia++B.drop ib):=by have:=h.swap.endB a;rw[YY a,WQ]at this ⊢;exact⟨this.1.trans Xd,this.2⟩
theorem J.last(h:J r A B O ia ib)(i:A.length=ia+1)(c:∀x,A[ia]?=b0 x->∀y∈B,r y<=r x):Fi r A B (O++B.drop ib++A.drop ia):=by have a:A[ia]?=b0 A[ia]:=Vb (by lia);have g:=h.gallB (k:=B.length-ib) a λj y _ d=>c _ a y (VR d);have e:(B.drop ib).take (B.length-ib)=B.drop ib:=W5 (by rw[V5];exact Vk _);rw[e]at g;have:=g.endB (by lia);rwa [YY (l:=B) (i:=ib+(B.length-ib)) (by lia),WQ]at this
end
section
variable{prog:VE}{w:VW}{A₀:VO}{E:Value->Ve->Prop}{κ:YT}{st:XG}{s:Ve}{A B:List Keyed}
theorem C4(A:List Keyed)(i:Nat):(A.toArray.extract i A.toArray.size).toList=A.drop i:=by rw[a2r,a1J,WE,Vi,W5 (by rw[V5];exact Vk _)]
theorem qD(A:List Keyed)(i j:Nat):(A.toArray.extract i j).toList=(A.drop i).take (j-i):=by rw[a2r,a1J,WE]
theorem xS(A:List Keyed)(i k:Nat):(A.toArray.extract i (i+k)).toList=(A.drop i).take k:=by rw[qD,XQ]
theorem dJ{i:Nat}{x:Keyed}{Q:Keyed->XG->Ve->Prop}(h:A[i]?=b0 x)(q:Q x st s):Yw (VF prog w) A₀ E (elem' A.toArray i) Q st s:=xO (by rw[Wq];exact h) q
noncomputable def oG(p:Keyed->Bool)(l:List Keyed):Nat:=(l.takeWhile p).length
theorem C5(p:Keyed->Bool)(l:List Keyed):oG p l<=l.length:=a5w (List.takeWhile_sublist _)
theorem xT{p:Keyed->Bool}:∀{l:List Keyed},l.Pairwise (λx y=>p y=dI->p x=dI)->∀(i:Nat)(x:Keyed),l[i]?=b0 x->p x=decide (i<oG p l)
 |[],_,i,x,h=>by cases h
 |a::l,hp,i,x,h=>by
  unfold oG;rw[a0w]at hp;cases c:p a with
  |true=>
   rw[a2I,c,if_pos rfl,VD];cases i with
   |zero=>cases h;rw[c];simp|succ i=>have:=xT hp.2 i x h;unfold oG at this;rw[this];simp
  |false=>
   rw[a2I,c,if_neg Vm,Xi];cases i with
   |zero=>cases h;rw[c];simp|succ i=>
    cases d:p x with
    |false=>simp|true=>have:=hp.1 x (VR h) d;rw[c]at this;cases this
variable{X:Keyed->Prop}{r:Keyed->Int}
noncomputable abbrev lr(r:Keyed->Int)(x y:Keyed):Bool:=decide (r x<r y)
theorem Sr.le{l:List Keyed}(h:Sr r l)(b:Int):l.Pairwise (λx y=>decide (r y<=b)=dI->decide (r x<=b)=dI):=h.imp λ{x y} h1 a=>by rw[decide_eq_true_eq]at a ⊢;lia
theorem Sr.lt{l:List Keyed}(h:Sr r l)(b:Int):l.Pairwise (λx y=>decide (r y<b)=dI->decide (r x<b)=dI):=h.imp λ{x y} h1 a=>by rw[decide_eq_true_eq]at a ⊢;lia
theorem Sr.part{l:List Keyed}(h:Sr r l)(i k:Nat):Sr r ((l.drop i).take k):=(W4 (Yr _ _) (W4 (ZH _ _) h))
theorem xU(hC:fT prog w A₀ κ s X (lr r))(o:kindOf st=κ){a:Keyed}{b n h:Nat}(p:h<n)(v:b+n<=A.length)(m:∀x∈A,X x)(u:X a)(l:Sr r ((A.drop b).take n))
  {Q:Option Nat->XG->Ve->Prop}(q:∀K,K<=n->(∀j x,j<n->A[b+j]?=b0 x->(r x<=r a↔j<K))->Q (b0 K) st s):Yw (VF prog w) A₀ E (tF b5 a A.toArray b n h) Q st s:=by
 have e:∀i,i<n->A[b+i]?=b0 (A.getD (b+i) (.none,.none)):=λi c=>by rw[Vt,Vb (by lia)];rfl
 have hc:=xT (l.le (r a));have k:=C5 (λx=>decide (r x<=r a)) ((A.drop b).take n);rw[VG,V5]at k;have d:∀j x,j<n->A[b+j]?=b0 x->((A.drop b).take n)[j]?=b0 x:=λj x g h=>by rw[WK g,Yd];exact h
 refine C2 hC o p (λi=>A.getD (b+i) (.none,.none)) (λi c=>by rw[Wq];exact e i c) (λi c=>m _ (VR (e i c))) u _ (by lia) (λi c=>?_) (q (oG (λx=>decide (r x<=r a)) ((A.drop b).take n)) (by lia) λj x g h=>?_)
 .have:=hc i _ (d i _ c (e i c));rw[if_neg Vm,<- this];unfold lr;by_cases h:r a<r (A.getD (b+i) (.none,.none))
  .rw[decide_eq_true h,decide_eq_false (by lia)];rfl
  .rw[decide_eq_false h,decide_eq_true (by lia)];rfl
 .have:=hc j x (d j x g h);rw[<- decide_eq_true_eq (p:=r x<=r a),this,decide_eq_true_eq]
theorem xV(hC:fT prog w A₀ κ s X (lr r))(o:kindOf st=κ){c:Keyed}{b n h:Nat}(p:h<n)(v:b+n<=A.length)(m:∀x∈A,X x)(u:X c)(l:Sr r ((A.drop b).take n))
  {Q:Option Nat->XG->Ve->Prop}(q:∀K,K<=n->(∀j x,j<n->A[b+j]?=b0 x->(r x<r c↔j<K))->Q (b0 K) st s):Yw (VF prog w) A₀ E (tF dI c A.toArray b n h) Q st s:=by
 have e:∀i,i<n->A[b+i]?=b0 (A.getD (b+i) (.none,.none)):=λi a=>by rw[Vt,Vb (by lia)];rfl
 have hc:=xT (l.lt (r c));have k:=C5 (λx=>decide (r x<r c)) ((A.drop b).take n);rw[VG,V5]at k;have d:∀j x,j<n->A[b+j]?=b0 x->((A.drop b).take n)[j]?=b0 x:=λj x g h=>by rw[WK g,Yd];exact h
 refine C2 hC o p (λi=>A.getD (b+i) (.none,.none)) (λi a=>by rw[Wq];exact e i a) (λi a=>m _ (VR (e i a))) u _ (by lia) (λi a=>?_) (q (oG (λx=>decide (r x<r c)) ((A.drop b).take n)) (by lia) λj x g h=>?_)
 .have:=hc i _ (d i _ a (e i a));rw[if_pos rfl,<- this]
 .have:=hc j x (d j x g h);rw[<- decide_eq_true_eq (p:=r x<r c),this,decide_eq_true_eq]
end
section
variable{prog:VE}{w:VW}{A₀:VO}{E:Value->Ve->Prop}{κ:YT}{s:Ve}{A B:List Keyed}{X:Keyed->Prop}{r:Keyed->Int}
theorem bQ{σ i:Type}{M:a2W}{d:VO}{e:Value->Ve->Prop}{g:Ve}{Q:i->σ->Ve->Prop}{st:σ}{c:Prop} [Decidable c] {a b:StateT σ a2S i}(j:¬ c->Yw M d e b Q st g)(h1:c->Yw M d e a Q st g):Yw M d e (if c then a else b) Q st g:=by
 by_cases h:c
 .rw[if_pos h];exact h1 h
 .rw[if_neg h];exact j h
theorem C6{σ i:Type}{M:a2W}{c:VO}{d:Value->Ve->Prop}{e:Ve}{Q:i->σ->Ve->Prop}{st:σ}{a:StateT σ a2S i}(h:∀g,(∀x y z,Q x y z->g x y z)->Yw M c d a g st e):Yw M c d a Q st e:=h Q λ_ _ _ x=>x
theorem j8(out:Array Keyed)(i j:Nat):(out++A.toArray.extract i A.toArray.size++B.toArray.extract j B.toArray.size).toList=out.toList++A.drop i++B.drop j:=by rw[XT,XT,C4,C4]
noncomputable def Go(r:Keyed->Int)(A B:List Keyed)(n:Nat)(out:Array Keyed)(a c:Nat):Prop:=J r A B out.toList a c/\a+1<A.length/\c<B.length/\n<=a+c
theorem MP(hC:fT prog w A₀ κ s X (lr r))(hXA:∀x∈A,X x)(hXB:∀x∈B,X x)(hA:Sr r A)(hB:Sr r B)(hA0:0<A.length)(hB0:0<B.length)(hf:∀y,B[0]?=b0 y->∀x∈A,r y<=r x)(hl:∀x,A[A.length-1]?=b0 x->∀y∈B,r y<=r x)
  {L:Array Keyed}{pd:Array (Nat×Nat×Nat)}{mg:Nat}{Q:Array Keyed->XG->Ve->Prop}(q:∀R l,Fi r A B R.toList->Q R (VL κ L pd l b3) s) :
  Yw (VF prog w) A₀ E (CU A.toArray B.toArray) Q (VL κ L pd mg b3) s:=by
 have getA:∀i,i<A.length->∃x,A[i]?=b0 x/\X x:=λi hi=>⟨A[i],Vb hi,hXA _ (Wx hi)⟩;have G:∀i,i<B.length->∃x,B[i]?=b0 x/\X x:=λi hi=>⟨B[i],Vb hi,hXB _ (Wx hi)⟩;have last:∀{O:List Keyed}{g d:Nat},J r A B O g d->g+1=A.length->Fi r A B (O++B.drop d++A.drop g):=λ{O g d} h e=>h.last e.symm λx o=>hl x (by rw[show A.length-1=g by lia];exact o);unfold CU;refine Vq (Z8 (Ym ?_));obtain⟨y0,N,_⟩:=G 0 hB0;refine Vq (dJ N ?_);have j0:J r A B [y0] 0 1:=by
  refine⟨?_,?_,?_⟩
  .show Sr r (y0::A.drop 0);unfold Sr;rw[Xw,a0w];exact⟨λx o=>hf y0 N x o,hA⟩
  .show Sr r (y0::B.drop 1);rw[<- qC N,Xw];exact hB
  .rw[X0,WH];cases B with
   |nil=>cases N|cons b B=>cases N;exact YI _
 refine bQ (λK=>bQ (λT=>?_) λT=>?_) λK=>?_;rotate_left
 .have T:A.length=1:=by have T:(0+1==A.toArray.size)=true:=T;rw[Vi,beq_iff_eq]at T;exact T.symm
  refine Vv (q _ _ ?_);rw[j8];exact last j0 (by lia)
 .have K:B.length=1:=by have K:(1==B.toArray.size)=true:=K;rw[Vi,beq_iff_eq]at K;exact K.symm
  refine Vv (q _ _ ?_);rw[j8];exact j0.endB (by lia)
 have K:¬ B.length=1:=λe=>K (by rw[Vi,e];rfl);have T:¬ A.length=1:=λe=>T (by rw[Vi,e];rfl);refine Vq (Y9 ?_);have M:A.toArray.size+B.toArray.size=A.length+B.length:=by rw[Vi,Vi]
 refine Vq (Xg (iI (λi c st=>(∃l,st=VL κ L pd l b3)/\∃a g d m,c=(b3,a,g,d,m)/\Go r A B (i+1) a g d) (λc st=>(∃l,st=VL κ L pd l b3)/\∃R:Array Keyed,c.1=b0 R/\Fi r A B R.toList) 0 (A.length+B.length) (λi c st hi hI=>?_) (λc st hI=>?_) (λc st U=>?_) (A.toArray.size+B.toArray.size-0) 0 _ _ (by rw[M];lia) ⟨⟨_,rfl⟩,_,_,_,_,rfl,j0,by lia,by lia,by lia⟩))
 .obtain⟨⟨mg1,rfl⟩,a,g,d,m,rfl,hG⟩:=hI
    -- one by one
  refine Vq (Xg (iI (λj c st=>st=VL κ L pd mg1 b3/\∃a g d H I,c=(b3,a,g,d,H,I)/\Go r A B (i+1+j) a g d) (λc st=>st=VL κ L pd mg1 b3/\((∃R:Array Keyed,c.1=b0 R/\Fi r A B R.toList)\/∃a g d H I,c=(b3,a,g,d,H,I)/\Go r A B (i+2) a g d)) 0 (A.length+B.length) (λj c st hj hJ=>?_) (λc st hJ=>?_) (λc st U=>?_) (A.toArray.size+B.toArray.size-0) 0 _ _ (by rw[M];lia) ⟨rfl,_,_,_,_,_,rfl,hG⟩))
  .obtain⟨rfl,a,g,d,H,I,rfl,Z,g2,g3,g4⟩:=hJ;obtain⟨x,o,Xx⟩:=getA g (by lia);obtain⟨y,Y,Xy⟩:=G d g3;refine Vq (dJ Y (Vq (dJ o (Vq (qA hC rfl Xy Xx ?_)))));refine bQ (λhc=>?_) λhc=>?_;rotate_left
   .have hc:r y<r x:=of_decide_eq_true hc;refine Vq (dJ Y ?_);have v:=Z.pushB o Y (Z5 hc);rw[<- Xa]at v;refine bQ (λn=>?_) λn=>?_;rotate_left
    .have n:d+1=B.length:=by simpa using n
     refine Vv ⟨rfl,rfl,.inl ⟨_,rfl,?_⟩⟩;rw[j8];exact v.endB (by lia)
    .have n:¬ d+1=B.length:=λe=>n (by rw[Vi,beq_iff_eq];exact e);exact bQ (λ_=>Vv ⟨rfl,rfl,_,g,d+1,_,_,rfl,v,g2,by lia,by lia⟩) λ_=>Vv ⟨rfl,rfl,.inr ⟨_,g,d+1,_,_,rfl,v,g2,by lia,by lia⟩⟩
   .have hc:¬ r y<r x:=λe=>hc (decide_eq_true e);refine Vq (dJ o ?_);have v:=Z.pushA o Y (by lia);rw[<- Xa]at v;refine bQ (λn=>?_) λn=>?_;rotate_left
    .have n:g+1+1=A.length:=by simpa using n
     refine Vv ⟨rfl,rfl,.inl ⟨_,rfl,?_⟩⟩;rw[j8];exact last v n
    .have n:¬ g+1+1=A.length:=λe=>n (by rw[Vi,beq_iff_eq];exact e);exact bQ (λ_=>Vv ⟨rfl,rfl,_,g+1,d,_,_,rfl,v,by lia,g3,by lia⟩) λ_=>Vv ⟨rfl,rfl,.inr ⟨_,g+1,d,_,_,rfl,v,by lia,g3,by lia⟩⟩
  .obtain⟨rfl,a,g,d,H,I,rfl,Z,g2,g3,g4⟩:=hJ;exact⟨rfl,.inr ⟨_,_,_,_,_,rfl,Z,g2,g3,by lia⟩⟩
  .obtain⟨rfl,U⟩:=U;rcases U with⟨R,e,hR⟩|⟨a,g,d,H,I,rfl,hG⟩
   .obtain⟨c0,c1⟩:=c;cases e;exact Vv ⟨rfl,⟨_,rfl⟩,R,rfl,hR⟩
   refine Vq (Z8 (Ym ?_))
      -- by leaps
   refine Vq (Xg (iI (λj c st=>(∃l,st=VL κ L pd l b3)/\∃a g d m H I,c=(b3,a,g,d,m,H,I)/\Go r A B (i+2) a g d) (λc st=>(∃l,st=VL κ L pd l b3)/\((∃R:Array Keyed,c.1=b0 R/\Fi r A B R.toList)\/∃a g d m H I,c=(b3,a,g,d,m,H,I)/\Go r A B (i+2) a g d)) 0 (A.length+B.length) (λj c st hj hJ=>?_) (λc st hJ=>?_) (λc st U=>?_) (A.toArray.size+B.toArray.size-0) 0 _ _ (by rw[M];lia) ⟨⟨_,rfl⟩,_,_,_,_,_,_,rfl,hG⟩))
   .obtain⟨⟨mg2,rfl⟩,a,g,d,m,H,I,rfl,Z,g2,g3,g4⟩:=hJ;refine C6 λQ' hQ=>?_;obtain⟨y,Y,Xy⟩:=G d g3;extract_lets z1 o1 z2 a1 z3 b1 z4 m1 z5 ac1 bc1 jb1 jp mm;have hj:∀m' l,Yw (VF prog w) A₀ E (jp () m') Q' (VL κ L pd l b3) s:=by
     intro m' l;clear_value m1 ac1;dsimp -zeta -zetaHave only[jp];refine Vq (X8 ?_);refine Vq (dJ Y ?_);refine Vq (xU hC rfl (b:=g) (n:=A.toArray.size-g) (h:=0) (by rw[Vi];lia) (by rw[Vi];lia) hXA Xy (hA.part _ _) λk hk1 hk2=>?_);rw[Vi]at hk1;have v:=Z.gallA (k:=k) Y λj x hj o=>(hk2 j x (by rw[Vi];lia) o).mpr hj;have nx:∀x,A[g+k]?=b0 x->r y<r x:=λx o=>by have K:=(Vc.mp o).1;have:=hk2 k x (by rw[Vi];lia) o;lia
     have e1:(a++A.toArray.extract g (g+k)).toList=a.toList++(A.drop g).take k:=by rw[XT,xS]
     rw[<- e1]at v;dsimp -zeta -zetaHave only;extract_lets ac2 jp2 o2 a2;have hj2:∀u p,g<=p->J r A B u.toList p d->p+1<A.length->(∀x,A[p]?=b0 x->r y<r x)->Yw (VF prog w) A₀ E (jp2 () u p) Q' (VL κ L pd m' b3) s:=by
      intro u p t0 t1 t2 t3;obtain⟨x,o,Xx⟩:=getA p (by lia);have t5:=t1.pushB o Y (Z5 (t3 x o));rw[<- Xa]at t5;clear_value ac2;dsimp -zeta -zetaHave only[jp2];refine Vq (dJ Y ?_);extract_lets o3 a3;have hjb:jb1=d+1:=rfl;refine bQ (λn=>?_) λn=>?_;rotate_left
      .rw[Vi,beq_iff_eq]at n;refine Vv (hQ _ _ _ ⟨rfl,⟨_,rfl⟩,.inl ⟨_,rfl,?_⟩⟩);rw[j8];exact t5.endB (by lia)
      rw[Vi,beq_iff_eq]at n;refine Vq (dJ o ?_);refine Vq (xV hC rfl (b:=d+1) (n:=B.toArray.size-(d+1)) (h:=0) (by rw[Vi];lia) (by rw[Vi];lia) hXB Xx (hB.part _ _) λk' hm1 hm2=>?_);rw[Vi]at hm1;have u5:=t5.gallB (k:=k') o λj z hj hz=>Z5 ((hm2 j z (by rw[Vi];lia) hz).mpr hj);have nz:∀z,B[d+1+k']?=b0 z->r x<=r z:=λz hz=>by have K:=(Vc.mp hz).1;have:=hm2 k' z (by rw[Vi];lia) hz;lia
      have e2:(u.push y++B.toArray.extract (d+1) (d+1+k')).toList=(u.push y).toList++(B.drop (d+1)).take k':=by rw[XT,xS]
      rw[<- e2]at u5;dsimp -zeta -zetaHave only;extract_lets bc2 jp3 o4 b4;have hj3:∀ou jb,J r A B ou.toList p jb->jb<B.length->(∀z,B[jb]?=b0 z->r x<=r z)->d<jb->Yw (VF prog w) A₀ E (jp3 () ou jb) Q' (VL κ L pd m' b3) s:=by
       intro ou jb v1 v2 v3 v4;obtain⟨z,hz,Xz⟩:=G jb v2;have v5:=v1.pushA o hz (v3 z hz);rw[<- Xa]at v5;clear_value bc2;dsimp -zeta -zetaHave only[jp3];refine Vq (dJ o ?_);extract_lets o5;have ha3:a3=p+1:=rfl;refine bQ (λhf=>?_) λhf=>?_
       .rw[Vi,beq_iff_eq]at hf;exact bQ (λ_=>Vv (hQ _ _ _ ⟨rfl,⟨_,rfl⟩,_,_,_,_,_,_,rfl,v5,by lia,v2,by lia⟩)) λ_=>Vv (hQ _ _ _ ⟨rfl,⟨_,rfl⟩,.inr ⟨_,_,_,_,_,_,rfl,v5,by lia,v2,by lia⟩⟩)
       .rw[Vi,beq_iff_eq]at hf;refine Vv (hQ _ _ _ ⟨rfl,⟨_,rfl⟩,.inl ⟨_,rfl,?_⟩⟩);rw[j8];exact last v5 hf
      clear_value jp3;refine bQ (λhk0=>hj3 _ _ t5 (by lia) (by rw[show k'=0 by lia]at nz;exact nz) (by lia)) λhk0=>bQ (λhb=>?_) λhb=>?_
      .rw[Vi,beq_iff_eq]at hb;have hb4:b4=d+1+k':=rfl;exact hj3 _ _ u5 (by lia) nz (by lia)
      .rw[Vi,beq_iff_eq]at hb;have hb4:b4=d+1+k':=rfl;refine Vv (hQ _ _ _ ⟨rfl,⟨_,rfl⟩,.inl ⟨_,rfl,?_⟩⟩);rw[j8];exact u5.endB (by lia)
     clear_value jp2;refine bQ (λhk0=>hj2 _ _ (Vk _) Z g2 (by rw[show k=0 by lia]at nx;exact nx)) λhk0=>bQ (λn=>bQ (λhe2=>?_) λhe2=>?_) λn=>?_
     .rw[Vi,beq_iff_eq]at n he2;have ha2:a2=g+k:=rfl;exact hj2 _ _ (by lia) v (by lia) nx
     .rw[Vi,beq_iff_eq]at he2;have ha2:a2=g+k:=rfl;refine Vv (hQ _ _ _ ⟨rfl,⟨_,rfl⟩,.inl ⟨_,rfl,?_⟩⟩);rw[j8];exact v.endA (by lia)
     .rw[Vi,beq_iff_eq]at n;refine Vv (hQ _ _ _ ⟨rfl,⟨_,rfl⟩,.inl ⟨_,rfl,?_⟩⟩);rw[j8];exact last v n
    clear_value jp;exact bQ (λ_=>hj _ _) λ_=>hj _ _
   .obtain⟨K,T⟩:=hJ;exact⟨K,.inr T⟩
   .obtain⟨⟨mg2,rfl⟩,U⟩:=U;rcases U with⟨R,e,hR⟩|⟨a,g,d,m,H,I,rfl,hG⟩
    .obtain⟨c0,c1⟩:=c;cases e;exact Vv ⟨rfl,⟨_,rfl⟩,R,rfl,hR⟩
    exact Vq (X8 (Vv ⟨rfl,⟨_,rfl⟩,_,_,_,_,rfl,hG⟩))
 .obtain⟨_,a,g,d,m,rfl,Z,g2,g3,g4⟩:=hI;lia
 .obtain⟨⟨mg1,rfl⟩,R,e,hR⟩:=U;obtain⟨c0,c1⟩:=c;dsimp only at e ⊢;subst e;exact Vv (q R _ hR)
end
section
variable{r:Keyed->Int}{A B O:List Keyed}{na nb:Nat}
noncomputable def JH(r:Keyed->Int)(A B O:List Keyed)(na nb:Nat):Prop:=na<=A.length/\nb<=B.length/\J (λx=>-r x) B.reverse A.reverse O (B.length-nb) (A.length-na)
theorem oH{l:List Keyed}{n:Nat}{x:Keyed}(h:l[n-1]?=b0 x)(h1:1<=n)(a:n<=l.length):l.reverse[l.length-n]?=b0 x:=by rw[WW (by lia),<- h];congr 1;lia
theorem JH.pushA(h:JH r A B O na nb){x y:Keyed}(g:A[na-1]?=b0 x)(i:B[nb-1]?=b0 y)(h1:1<=na)(e:1<=nb)(j:r y<=r x):JH r A B (O++[x]) (na-1) nb:=by obtain⟨c,a,d⟩:=h;refine⟨by lia,a,?_⟩;have:=d.pushB (oH i e a) (oH g h1 c) (by lia);rw[show A.length-(na-1)=A.length-na+1 by lia];exact this
theorem JH.pushB(h:JH r A B O na nb){x y:Keyed}(g:A[na-1]?=b0 x)(i:B[nb-1]?=b0 y)(h1:1<=na)(e:1<=nb)(j:r x<=r y):JH r A B (O++[y]) na (nb-1):=by obtain⟨a,c,d⟩:=h;refine⟨a,by lia,?_⟩;have:=d.pushA (oH i e c) (oH g h1 a) (by lia);rw[show B.length-(nb-1)=B.length-nb+1 by lia];exact this
theorem C7{l:List Keyed}{n t:Nat}(h1:t<=n)(c:n<=l.length):(l.reverse.drop (l.length-n)).take (n-t)=((l.drop t).take (n-t)).reverse:=by
 apply ZG;intro i;have a:((l.drop t).take (n-t)).length=n-t:=by rw[VG,V5];lia
 by_cases h:i<n-t
 .rw[WK h,Yd,WW (by lia),WW (by lia),a,WK (by lia),Yd];congr 1;lia
 .rw[Xe (by rw[VG,V5,XA];lia),Xe (by rw[XA,a];lia)]
theorem JH.gallA(h:JH r A B O na nb){t:Nat}{y:Keyed}(l:B[nb-1]?=b0 y)(g:1<=nb)(k:t<=na)(i:∀j x,t<=j->j<na->A[j]?=b0 x->r y<=r x):JH r A B (O++((A.drop t).take (na-t)).reverse) t nb:=by
 obtain⟨d,c,e⟩:=h;refine⟨by lia,c,?_⟩;have:=e.gallB (k:=na-t) (oH l g c) λj z n m=>by
  have a:A[A.length-1-(A.length-na+j)]?=b0 z:=by rw[<- m,WW (by lia)]
  have:=i _ z (by lia) (by lia) a;lia
 rw[C7 k d]at this;rw[show A.length-t=A.length-na+(na-t) by lia];exact this
theorem JH.gallB(h:JH r A B O na nb){t:Nat}{x:Keyed}(k:A[na-1]?=b0 x)(h1:1<=na)(i:t<=nb)(g:∀j y,t<=j->j<nb->B[j]?=b0 y->r x<=r y):JH r A B (O++((B.drop t).take (nb-t)).reverse) na t:=by
 obtain⟨c,d,e⟩:=h;refine⟨c,by lia,?_⟩;have:=e.gallA (k:=nb-t) (oH k h1 c) λj z m l=>by
  have a:B[B.length-1-(B.length-nb+j)]?=b0 z:=by rw[<- l,WW (by lia)]
  have:=g _ z (by lia) (by lia) a;lia
 rw[C7 i d]at this;rw[show B.length-t=B.length-nb+(nb-t) by lia];exact this
theorem oI{l:List Keyed}{n:Nat}:l.reverse.drop (l.length-n)=(l.take n).reverse:=by rw[List.reverse_take]
theorem Fi.rev{R:List Keyed}(h:Fi (λx=>-r x) B.reverse A.reverse R):Fi r A B R.reverse:=by refine⟨(ZE R).trans (h.1.trans ((List.Perm.append (ZE B) (ZE A)).trans Xd)),?_⟩;unfold Sr;rw[Z6];exact h.2.imp λ{x y} h=>by dsimp only at h;lia
theorem JH.endA(h:JH r A B O na nb)(e:na=0):Fi r A B (A.take na++B.take nb++O.reverse):=by obtain⟨c,d,a⟩:=h;have:=(a.endB (by rw[XA];lia)).rev;rw[oI,oI]at this;simpa using this
theorem JH.endB(h:JH r A B O na nb)(e:nb=0):Fi r A B (A.take na++B.take nb++O.reverse):=by obtain⟨c,d,a⟩:=h;have:=(a.endA (by rw[XA];lia)).rev;rw[oI,oI]at this;simpa using this
theorem JH.last(h:JH r A B O na nb)(k:nb=1)(d:∀y,B[0]?=b0 y->∀x∈A,r y<=r x):Fi r A B (B.take nb++A.take na++O.reverse):=by
 obtain⟨i,j,c⟩:=h;have:=(c.last (by rw[XA];lia) λy g x e=>by
  have a:B[0]?=b0 y:=by rw[<- g,WW (by lia)];congr 1;lia
  have:=d y a x (a3F.mp e);lia).rev
 rw[oI,oI]at this;simpa using this
variable{prog:VE}{w:VW}{A₀:VO}{E:Value->Ve->Prop}{κ:YT}{s:Ve}{X:Keyed->Prop}
theorem j9(out:Array Keyed)(i j:Nat):(A.toArray.extract 0 i++B.toArray.extract 0 j++out.reverse).toList=A.take i++B.take j++out.toList.reverse:=by rw[XT,XT,qD,qD,a2q,Xw,Xw,Z1,Z1]
theorem C8(out:Array Keyed)(A:List Keyed)(t n:Nat):(out++(A.toArray.extract t n).reverse).toList=out.toList++((A.drop t).take (n-t)).reverse:=by rw[XT,a2q,qD]
noncomputable def qE(r:Keyed->Int)(A B:List Keyed)(n:Nat)(out:Array Keyed)(na nb:Nat):Prop:=JH r A B out.toList na nb/\1<=na/\2<=nb/\n+na+nb<=A.length+B.length
theorem MQ(hC:fT prog w A₀ κ s X (lr r))(hXA:∀x∈A,X x)(hXB:∀x∈B,X x)(hA:Sr r A)(hB:Sr r B)(hA0:0<A.length)(hB0:0<B.length)(hf:∀y,B[0]?=b0 y->∀x∈A,r y<=r x)(hl:∀x,A[A.length-1]?=b0 x->∀y∈B,r y<=r x)
  {v:Array Keyed}{pd:Array (Nat×Nat×Nat)}{mg:Nat}{Q:Array Keyed->XG->Ve->Prop}(q:∀R d,Fi r A B R.toList->Q R (VL κ v pd d b3) s) :
  Yw (VF prog w) A₀ E (CV A.toArray B.toArray) Q (VL κ v pd mg b3) s:=by
 have G:∀i,i<A.length->∃x,A[i]?=b0 x/\X x:=λi hi=>⟨A[i],Vb hi,hXA _ (Wx hi)⟩;have H:∀i,i<B.length->∃x,B[i]?=b0 x/\X x:=λi hi=>⟨B[i],Vb hi,hXB _ (Wx hi)⟩;unfold CV;refine Vq (Z8 (Ym ?_));obtain⟨x0,hx0,_⟩:=G (A.length-1) (by lia);refine Vq (dJ (by rw[Vi];exact hx0) ?_);have j0:JH r A B [x0] (A.length-1) B.length:=by
  refine⟨by lia,Vk _,?_⟩;have e:A.reverse=x0::A.reverse.drop 1:=by have:=qC (l:=A.reverse) (i:=0) (x:=x0) (by rw[WW (by lia)];exact hx0);rwa [Xw]at this
  rw[Y1,show A.length-(A.length-1)=1 by lia];refine⟨?_,?_,?_⟩
  .unfold Sr;rw[Xw];show(x0::B.reverse).Pairwise _;rw[a0w];refine⟨λy I=>?_,?_⟩
   .have:=hl x0 hx0 y (a3F.mp I);dsimp only;lia
   .rw[Z6];exact hB.imp λ{x y} h=>by dsimp only;lia
  .show Sr _ (x0::A.reverse.drop 1);rw[<- e];unfold Sr;rw[Z6];exact hA.imp λ{x y} h=>by dsimp only;lia
  .rw[X0,WH,e];exact YI _
 try dsimp -zeta -zetaHave only
 rw[Vi,Vi];refine bQ (λK=>bQ (λL=>?_) λL=>?_) λK=>?_;rotate_left
 .rw[beq_iff_eq]at L;refine Vv (q _ _ ?_);rw[j9];exact j0.last L hf
 .rw[beq_iff_eq]at K;refine Vv (q _ _ ?_);rw[j9];exact j0.endA K
 rw[beq_iff_eq]at K L;refine Vq (Y9 ?_);refine Vq (Xg (iI (λi c st=>(∃d,st=VL κ v pd d b3)/\∃na nb a m,c=(b3,na,nb,a,m)/\qE r A B (i+1) a na nb) (λc st=>(∃d,st=VL κ v pd d b3)/\∃R:Array Keyed,c.1=b0 R/\Fi r A B R.toList) 0 (A.length+B.length) (λi c st hi hI=>?_) (λc st hI=>?_) (λc st N=>?_) (A.length+B.length-0) 0 _ _ (by lia) ⟨⟨_,rfl⟩,_,_,_,_,rfl,j0,by lia,by lia,by lia⟩))
 .obtain⟨⟨mg1,rfl⟩,na,nb,a,m,rfl,hG⟩:=hI;try dsimp -zeta -zetaHave only
  refine Vq (Xg (iI (λj c st=>st=VL κ v pd mg1 b3/\∃na nb a n o,c=(b3,na,nb,a,n,o)/\qE r A B (i+1+j) a na nb) (λc st=>st=VL κ v pd mg1 b3/\((∃R:Array Keyed,c.1=b0 R/\Fi r A B R.toList)\/∃na nb a n o,c=(b3,na,nb,a,n,o)/\qE r A B (i+2) a na nb)) 0 (A.length+B.length) (λj c st hj hJ=>?_) (λc st hJ=>?_) (λc st N=>?_) (A.length+B.length-0) 0 _ _ (by lia) ⟨rfl,_,_,_,_,_,rfl,hG⟩))
  .obtain⟨rfl,na,nb,a,n,o,rfl,p,g2,g3,g4⟩:=hJ;try dsimp -zeta -zetaHave only
   have l1:=p.1;have l2:=p.2.1;obtain⟨x,g,Xx⟩:=G (na-1) (by lia);obtain⟨y,I,Xy⟩:=H (nb-1) (by lia);refine Vq (dJ I (Vq (dJ g (Vq (qA hC rfl Xy Xx ?_)))));try dsimp -zeta -zetaHave only
   refine bQ (λhc=>?_) λhc=>?_
   .unfold lr at hc;rw[decide_eq_true_eq]at hc;have l:=p.pushB g I (by lia) (by lia) (by lia);rw[<- Xa]at l;refine Vq (dJ I ?_);refine bQ (λk=>?_) λk=>?_
    .rw[beq_iff_eq]at k;exact bQ (λ_=>Vv ⟨rfl,rfl,_,_,_,_,_,rfl,l,by lia,by lia,by lia⟩) λ_=>Vv ⟨rfl,rfl,.inr ⟨_,_,_,_,_,rfl,l,by lia,by lia,by lia⟩⟩
    .rw[beq_iff_eq]at k;refine Vv ⟨rfl,rfl,.inl ⟨_,rfl,?_⟩⟩;rw[j9];exact l.last k hf
   .unfold lr at hc;rw[decide_eq_true_eq]at hc;have l:=p.pushA g I (by lia) (by lia) (by lia);rw[<- Xa]at l;refine Vq (dJ g ?_);refine bQ (λk=>?_) λk=>?_
    .rw[beq_iff_eq]at k;exact bQ (λ_=>Vv ⟨rfl,rfl,_,_,_,_,_,rfl,l,by lia,by lia,by lia⟩) λ_=>Vv ⟨rfl,rfl,.inr ⟨_,_,_,_,_,rfl,l,by lia,by lia,by lia⟩⟩
    .rw[beq_iff_eq]at k;refine Vv ⟨rfl,rfl,.inl ⟨_,rfl,?_⟩⟩;rw[j9];exact l.endA k
  .obtain⟨rfl,na,nb,a,n,o,rfl,p,g2,g3,g4⟩:=hJ;exact⟨rfl,.inr ⟨_,_,_,_,_,rfl,p,g2,g3,by lia⟩⟩
  .obtain⟨rfl,N⟩:=N;rcases N with⟨R,e,hR⟩|⟨na,nb,a,n,o,rfl,hG⟩
   .obtain⟨c0,c1⟩:=c;cases e;exact Vv ⟨rfl,⟨_,rfl⟩,R,rfl,hR⟩
   refine Vq (Z8 (Ym ?_));refine Vq (Xg (iI (λj c st=>(∃d,st=VL κ v pd d b3)/\∃na nb a m n o,c=(b3,na,nb,a,m,n,o)/\qE r A B (i+2) a na nb) (λc st=>(∃d,st=VL κ v pd d b3)/\((∃R:Array Keyed,c.1=b0 R/\Fi r A B R.toList)\/∃na nb a m n o,c=(b3,na,nb,a,m,n,o)/\qE r A B (i+2) a na nb)) 0 (A.length+B.length) (λj c st hj hJ=>?_) (λc st hJ=>?_) (λc st N=>?_) (A.length+B.length-0) 0 _ _ (by lia) ⟨⟨_,rfl⟩,_,_,_,_,_,_,rfl,hG⟩))
   .obtain⟨⟨mg2,rfl⟩,na,nb,a,m,n,o,rfl,p,g2,g3,g4⟩:=hJ;have l1:=p.1;have l2:=p.2.1;refine C6 λQ' hQ=>?_;obtain⟨y,I,Xy⟩:=H (nb-1) (by lia);extract_lets z1 o1 z2 a1 z3 b1 z4 m1 z5 ac1 bc1 jb1 jp mm;have hj:∀m' d,Yw (VF prog w) A₀ E (jp () m') Q' (VL κ v pd d b3) s:=by
     intro m' d;clear_value m1 ac1;dsimp -zeta -zetaHave only[jp];refine Vq (X8 ?_);refine Vq (dJ I ?_);refine Vq (xU hC rfl (b:=0) (n:=na) (h:=na-1) (by lia) (by lia) hXA Xy (hA.part _ _) λt ht1 ht2=>?_);have l:=p.gallA (t:=t) I (by lia) ht1 λj x K L g=>by have:=ht2 j x L (by rw[XH];exact g);lia
     have nx:∀x,1<=t->A[t-1]?=b0 x->r x<=r y:=λx K g=>(ht2 (t-1) x (by lia) (by rw[XH];exact g)).mpr (by lia);rw[<- C8]at l;dsimp -zeta -zetaHave only;extract_lets k2 ac2 jp2 o2 Z;have hjb:jb1=nb-1:=rfl;have hk2:k2=na-t:=rfl;have hj2:∀Y ou,Y<=na->JH r A B ou.toList Y nb->1<=Y->(∀x,A[Y-1]?=b0 x->r x<=r y)->Yw (VF prog w) A₀ E (jp2 () Y ou) Q' (VL κ v pd m' b3) s:=by
      intro Y ou t0 t1 t2 t3;obtain⟨x,g,Xx⟩:=G (Y-1) (by lia);have t5:=t1.pushB g I t2 (by lia) (t3 x g);rw[<- Xa]at t5;clear_value ac2 k2;dsimp -zeta -zetaHave only[jp2];refine Vq (dJ I ?_);extract_lets o3 a3;refine bQ (λhq=>?_) λhq=>?_;rotate_left
      .rw[beq_iff_eq]at hq;refine Vv (hQ _ _ _ ⟨rfl,⟨_,rfl⟩,.inl ⟨_,rfl,?_⟩⟩);rw[j9];exact t5.last hq hf
      rw[beq_iff_eq]at hq;refine Vq (dJ g ?_);refine Vq (xV hC rfl (b:=0) (n:=nb-1) (h:=nb-1-1) (by lia) (by lia) hXB Xx (hB.part _ _) λu eJ hu2=>?_);have u5:=t5.gallB (t:=u) g t2 eJ λj z K L M=>by have:=hu2 j z L (by rw[XH];exact M);lia
      have nz:∀z,1<=u->B[u-1]?=b0 z->r z<=r x:=λz K M=>Z5 ((hu2 (u-1) z (by lia) (by rw[XH];exact M)).mpr (by lia));rw[<- C8]at u5;dsimp -zeta -zetaHave only;extract_lets k3 bc2 jp3 o4 b4;have hk3:k3=nb-1-u:=rfl;have hj3:∀Z oz,Z<nb->JH r A B oz.toList Y Z->2<=Z->(∀z,B[Z-1]?=b0 z->r z<=r x)->Yw (VF prog w) A₀ E (jp3 () Z oz) Q' (VL κ v pd m' b3) s:=by
       intro Z oz v0 v1 v2 v3;have l3:=v1.2.1;obtain⟨z,M,Xz⟩:=H (Z-1) (by lia);have v5:=v1.pushA g M t2 (by lia) (v3 z M);rw[<- Xa]at v5;clear_value bc2 k3;dsimp -zeta -zetaHave only[jp3];have ha3:a3=Y-1:=rfl;refine Vq (dJ g ?_);extract_lets o5;refine bQ (λhw=>?_) λhw=>?_
       .rw[beq_iff_eq]at hw;exact bQ (λ_=>Vv (hQ _ _ _ ⟨rfl,⟨_,rfl⟩,_,_,_,_,_,_,rfl,v5,by lia,v2,by lia⟩)) λ_=>Vv (hQ _ _ _ ⟨rfl,⟨_,rfl⟩,.inr ⟨_,_,_,_,_,_,rfl,v5,by lia,v2,by lia⟩⟩)
       .rw[beq_iff_eq]at hw;refine Vv (hQ _ _ _ ⟨rfl,⟨_,rfl⟩,.inl ⟨_,rfl,?_⟩⟩);rw[j9];exact v5.endA hw
      clear_value jp3;refine bQ (λhk1=>hj3 _ _ (by lia) t5 (by lia) λz M=>?_) λhk1=>bQ (λT=>bQ (λU=>?_) λU=>?_) λT=>?_
      .have e:u=nb-1:=by lia
       rw[e]at nz;exact nz z (by lia) M
      .rw[beq_iff_eq]at T U;have hb4:b4=u:=rfl;exact hj3 _ _ (by lia) u5 (by lia) λz M=>nz z (by lia) M
      .rw[beq_iff_eq]at U;refine Vv (hQ _ _ _ ⟨rfl,⟨_,rfl⟩,.inl ⟨_,rfl,?_⟩⟩);rw[j9];exact u5.endB U
      .rw[beq_iff_eq]at T;refine Vv (hQ _ _ _ ⟨rfl,⟨_,rfl⟩,.inl ⟨_,rfl,?_⟩⟩);rw[j9];exact u5.last T hf
     clear_value jp2;refine bQ (λhk0=>hj2 _ _ (Vk _) p g2 λx g=>?_) λhk0=>bQ (λk=>?_) λk=>?_
     .have e:t=na:=by lia
      rw[e]at nx;exact nx x g2 g
     .rw[beq_iff_eq]at k;have hn2:Z=t:=rfl;exact hj2 _ _ ht1 l (by lia) λx g=>nx x (by lia) g
     .rw[beq_iff_eq]at k;refine Vv (hQ _ _ _ ⟨rfl,⟨_,rfl⟩,.inl ⟨_,rfl,?_⟩⟩);rw[j9];exact l.endA k
    clear_value jp;exact bQ (λ_=>hj _ _) λ_=>hj _ _
   .obtain⟨K,L⟩:=hJ;exact⟨K,.inr L⟩
   .obtain⟨⟨mg2,rfl⟩,N⟩:=N;rcases N with⟨R,e,hR⟩|⟨na,nb,a,m,n,o,rfl,hG⟩
    .obtain⟨c0,c1⟩:=c;cases e;exact Vv ⟨rfl,⟨_,rfl⟩,R,rfl,hR⟩
    exact Vq (X8 (Vv ⟨rfl,⟨_,rfl⟩,_,_,_,_,rfl,hG⟩))
 .obtain⟨_,na,nb,a,m,rfl,p,g2,g3,g4⟩:=hI;lia
 .obtain⟨⟨mg1,rfl⟩,R,e,hR⟩:=N;obtain⟨c0,c1⟩:=c;dsimp only at e ⊢;subst e;exact Vv (q R _ hR)
end
section
variable{prog:VE}{w:VW}{A₀:VO}{E:Value->Ve->Prop}{κ:YT}{s:Ve}{X:Keyed->Prop}{r:Keyed->Int}{P S c1 c2:List Keyed}
theorem C9{i:Nat}(h:i<c1.length):(P++c1++c2++S)[P.length+i]?=c1[i]?:=by rw[Vz,Vz,VB (by lia),Vy (by lia)];congr 1;lia
theorem Dc{i:Nat}(h:i<c2.length):(P++c1++c2++S)[P.length+c1.length+i]?=c2[i]?:=by rw[Vz,VB (by rw[Vh];lia),Vy (by rw[Vh];lia)];congr 1;rw[Vh];lia
theorem MR:((P++c1++c2++S).drop P.length).take c1.length=c1:=by rw[Vz,Vz,a1y,a1x]
theorem MU:((P++c1++c2++S).drop (P.length+c1.length)).take c2.length=c2:=by rw[Vz,a4b (by rw[Vh]),a1x]
theorem MV{k:Nat}(a:k<=c1.length):(P++c1++c2++S).toArray.extract (P.length+k) (P.length+c1.length)=(c1.drop k).toArray:=by apply XE.mp;rw[qD,<- a1z,Vz,Vz,a1y,a1b a,WE,List.take_left' (by rw[V5];lia)]
theorem MW{k:Nat}(a:k<=c2.length):(P++c1++c2++S).toArray.extract (P.length+c1.length) (P.length+c1.length+k)=(c2.take k).toArray:=by apply XE.mp;rw[xS,Vz,a4b (by rw[Vh]),WE,a1a a]
theorem MX{k l:Nat}{R:List Keyed}(g:k<=c1.length)(h:l<=c2.length)(e:R.length=c1.length-k+l):(R.zipIdx.foldl (λ(a:Array Keyed)(x:Keyed×Nat)=>a.setIfInBounds (P.length+k+x.2) x.1) (P++c1++c2++S).toArray)=(P++(c1.take k++R++c2.drop l)++S).toArray:=by
 apply XE.mp;have:=CW R (P++c1++c2++S).toArray (P.length+k) 0 (by simp;lia);rw[this,WE,WE,a4X,e];have c:(P++c1++c2++S).take (P.length+k)=P++c1.take k:=by rw[Vz,Vz,List.take_append,W5 (by lia),XQ,a1a g]
 have d:(P++c1++c2++S).drop (P.length+k+(c1.length-k+l))=c2.drop l++S:=by rw[show P.length+k+(c1.length-k+l)=(P++c1).length+l by rw[Vh];lia,Vz,<- a1z,a1y,a1b h]
 rw[c,d];simp
theorem Sr.both{U R V:List Keyed}(g:Sr r R)(h:Sr r U)(i:Sr r V)(h1:∀x∈U,∀y∈R,r x<=r y)(d:∀x∈R,∀y∈V,r x<=r y)(e:∀x∈U,∀y∈V,r x<=r y):Sr r (U++R++V):=by
 unfold Sr at *;rw[Vz,W2];refine⟨h,?_,λx c y a=>?_⟩
 .rw[W2];exact⟨g,i,d⟩
 .rcases V4.mp a with a|a
  .exact h1 x c y a
  .exact e x c y a
theorem Sr.at{l:List Keyed}(h:Sr r l){i j:Nat}{x y:Keyed}(d:i<=j)(g:l[i]?=b0 x)(k:l[j]?=b0 y):r x<=r y:=by
 obtain⟨a,rfl⟩:=Vc.mp g;obtain⟨c,rfl⟩:=Vc.mp k;by_cases e:i=j
 .subst e;exact a1g _
 .exact We.mp h i j a c (by lia)
theorem oJ{l:List Keyed}{k:Nat}{x:Keyed}(h:x∈l.take k):∃j,j<k/\l[j]?=b0 x:=by have:=C3 (l:=l) (i:=0) (k:=k) (x:=x) (by rw[Xw];exact h);obtain⟨j,c,a⟩:=this;exact⟨j,c,by rw[XH]at a;exact a⟩
theorem oK{l:List Keyed}{k:Nat}{x:Keyed}(h:x∈l.drop k):∃j,k<=j/\l[j]?=b0 x:=by obtain⟨j,a,e⟩:=Zr h;exact⟨k+j,by lia,by rw[<- e,a3z,Vb]⟩
theorem MY(hC:fT prog w A₀ κ s X (lr r))(hX:∀x∈P++c1++c2++S,X x)(h1:Sr r c1)(B:Sr r c2)(l1:0<c1.length)(l2:0<c2.length){pd:Array (Nat×Nat×Nat)}{mg i w1 w2:Nat}(p1:pd[i]?=b0 (P.length,c1.length,w1))(p2:pd[i+1]?=b0 (P.length+c1.length,c2.length,w2))
  {Q:Bool->XG->Ve->Prop}(q:∀c n,Sr r c->c.Perm (c1++c2)->Q dI (VL κ (P++c++S).toArray ((pd.setIfInBounds i (P.length,c1.length+c2.length,w1)).eraseIdxIfInBounds (i+1)) n b3) s) :
  Yw (VF prog w) A₀ E (a3O i) Q (VL κ (P++c1++c2++S).toArray pd mg b3) s:=by
 unfold a3O;refine Vq (Y9 ?_);dsimp only;simp only[p1,p2];refine Vq (MK ?_);have gA:∀j,j<c1.length->c1[j]?=b0 (c1.getD j (.none,.none)):=λj g=>by rw[Vt,Vb g];rfl
 have gB:∀j,j<c2.length->c2[j]?=b0 (c2.getD j (.none,.none)):=λj g=>by rw[Vt,Vb g];rfl
 have H:∀x∈c1,X x:=λx d=>hX x (by simp[d]);have I:∀x∈c2,X x:=λx d=>hX x (by simp[d]);have hlen:(P++c1++c2++S).length=P.length+c1.length+c2.length+S.length:=by simp;lia
 have L:=gB 0 l2;refine Vq (dJ (x:=c2.getD 0 (.none,.none)) (by rw[<- L];exact Dc l2) ?_);refine Vq (xU hC rfl (b:=P.length) (n:=c1.length) (h:=0) l1 (by lia) hX (I _ (VR L)) (by rw[MR];exact h1) λk O hk2=>?_);have u:∀j x,c1[j]?=b0 x->(r x<=r (c2.getD 0 (.none,.none))↔j<k):=λj x d=>by have g:=(Vc.mp d).1;exact hk2 j x g (by rw[C9 g];exact d)
 generalize c2.getD 0 (.none,.none)=y0 at *;dsimp only;have e0:(P++c1++c2++S)=P++(c1++c2)++S:=by simp
  -- all as it is
 have G:(∀x∈c1,∀y∈c2,r x<=r y)->Q dI (VL κ (P++c1++c2++S).toArray ((pd.setIfInBounds i (P.length,c1.length+c2.length,w1)).eraseIdxIfInBounds (i+1)) mg b3) s:=λh=>by rw[e0];exact q _ _ (by unfold Sr at *;rw[W2];exact⟨h1,B,h⟩) (YI _)
 refine bQ (λhe=>?_) λhe=>?_;rotate_left
 .rw[beq_iff_eq]at he;refine Vv (G λx d y m=>?_);obtain⟨j,g⟩:=XJ d;obtain⟨p,o⟩:=XJ m;have a1:=(u j x g).mpr (by have:=(Vc.mp g).1;lia);have a2:=B.at (Xm p) L o;lia
 rw[beq_iff_eq]at he;have Z:=gA (c1.length-1) (by lia);generalize c1.getD (c1.length-1) (.none,.none)=x1 at *;refine Vq (dJ (x:=x1) (by rw[show P.length+k+(c1.length-k)-1=P.length+(c1.length-1) by lia,C9 (by lia)];exact Z) ?_);refine Vq (xV hC rfl (b:=P.length+c1.length) (n:=c2.length) (h:=c2.length-1) (by lia) (by lia) hX (H _ (VR Z)) (by rw[MU];exact B) λl T hl2=>?_);have K:∀j x,c2[j]?=b0 x->(r x<r x1↔j<l):=λj x d=>by have g:=(Vc.mp d).1;exact hl2 j x g (by rw[Dc g];exact d)
 dsimp only;refine bQ (λhf=>?_) λhf=>?_;rotate_left
 .rw[beq_iff_eq]at hf;refine Vv (G λx d y m=>?_);obtain⟨j,g⟩:=XJ d;obtain⟨p,o⟩:=XJ m;have a1:=h1.at (by have:=(Vc.mp g).1;lia) g Z;have a2:=K p y o;lia
 rw[beq_iff_eq]at hf;rw[MV O,MW T];have hA:Sr r (c1.drop k):=W4 (ZH _ _) h1;have hB:Sr r (c2.take l):=W4 (Yr _ _) B;have N:∀y,(c2.take l)[0]?=b0 y->∀x∈c1.drop k,r y<=r x:=λy m x d=>by rw[WK (by lia),L]at m;cases m;obtain⟨j,g,e⟩:=oK d;have:=u j x e;lia
 have U:∀x,(c1.drop k)[(c1.drop k).length-1]?=b0 x->∀y∈c2.take l,r y<=r x:=λx d y m=>by rw[V5,Yd,show k+(c1.length-k-1)=c1.length-1 by lia,Z]at d;cases d;obtain⟨j,g,e⟩:=oJ m;have:=K j y e;lia
 have v:∀(R:Array Keyed)(n:Nat),Fi r (c1.drop k) (c2.take l) R.toList->Q dI (VL κ (R.toList.zipIdx.foldl (λ(a:Array Keyed)(x:Keyed×Nat)=>a.setIfInBounds (P.length+k+x.2) x.1) (P++c1++c2++S).toArray) ((pd.setIfInBounds i (P.length,c1.length+c2.length,w1)).eraseIdxIfInBounds (i+1)) n b3) s:=λR n M=>by
  obtain⟨f1,f2⟩:=M;have hRl:=f1.length_eq;rw[Vh,V5,VG]at hRl;rw[MX O T (by lia)];have Y:∀z∈R.toList,z∈c1.drop k\/z∈c2.take l:=λz hz=>V4.mp (f1.mem_iff.mp hz);refine q _ _ (f2.both (W4 (Yr _ _) h1) (W4 (ZH _ _) B) (λx d y m=>?_) (λx d y m=>?_) λx d y m=>?_) ?_
  .obtain⟨j,g,e⟩:=oJ d;rcases Y y m with m|m
   .obtain⟨p,o,A⟩:=oK m;exact h1.at (by lia) e A
   .obtain⟨p,o,A⟩:=oJ m;have a1:=(u j x e).mpr g;have a2:=B.at (Xm p) L A;lia
  .obtain⟨p,o,A⟩:=oK m;rcases Y x d with d|d
   .obtain⟨j,g,e⟩:=oK d;have a1:=h1.at (by have:=(Vc.mp e).1;lia) e Z;have a2:=K p y A;lia
   .obtain⟨j,g,e⟩:=oJ d;exact B.at (by lia) e A
  .obtain⟨j,g,e⟩:=oJ d;obtain⟨p,o,A⟩:=oK m;have a1:=(u j x e).mpr g;have a2:=B.at (Xm p) L A;lia
  .have e1:c1++c2=c1.take k++(c1.drop k++c2.take l)++c2.drop l:=by rw[<- Vz,VY,Vz,VY]
   rw[e1];exact((f1.append_left _).append_right _)
 have d1:0<(c1.drop k).length:=by rw[V5];lia
 have d2:0<(c2.take l).length:=by rw[VG];lia
 refine bQ (λ_=>?_) λ_=>?_
 .exact Vq (MQ hC (λx d=>H x (a2x d)) (λx d=>I x (a0d d)) hA hB d1 d2 N U λR n M=>Vq (X8 (Vq (Y9 (Vv (v R n M))))))
 .exact Vq (MP hC (λx d=>H x (a2x d)) (λx d=>I x (a0d d)) hA hB d1 d2 N U λR n M=>Vq (X8 (Vq (Y9 (Vv (v R n M))))))
end
section
variable{prog:VE}{w:VW}{A₀:VO}{E:Value->Ve->Prop}{κ:YT}{s:Ve}{X:Keyed->Prop}{r:Keyed->Int}{P T S:List Keyed}{pd:Array (Nat×Nat×Nat)}{mg:Nat}
noncomputable def kr(r:Keyed->Int)(T:List Keyed)(i:Nat):Int:=r (T.getD i (.none,.none))
theorem kE{i:Nat}{x:Keyed}(h:T[i]?=b0 x):kr r T i=r x:=by unfold kr;rw[Vt,h];rfl
theorem xW{i:Nat}(h:i<T.length):T[i]?=b0 (T.getD i (.none,.none)):=by rw[Vt,Vb h];rfl
theorem oM(hC:fT prog w A₀ κ s X (lr r))(c:∀x∈T,X x){i j:Nat}(a:i<T.length)(d:j<T.length){Q:Option Bool->XG->Ve->Prop}(q:Q (b0 (decide (kr r T i<kr r T j))) (VL κ (P++T).toArray pd mg b3) s) :
  Yw (VF prog w) A₀ E (ltAt' (P.length+i) (P.length+j)) Q (VL κ (P++T).toArray pd mg b3) s:=by
 have e:∀i,i<T.length->(a3T (VL κ (P++T).toArray pd mg b3))[P.length+i]?=b0 (T.getD i (.none,.none)):=λi a=>by show(P++T).toArray[P.length+i]?=_;rw[Wq,VB (by lia),XQ];exact xW a
 exact ML hC rfl (e i a) (e j d) (c _ (VR (xW a))) (c _ (VR (xW d))) q
theorem xX{n:Nat}(h:∀j,j+1<n->kr r T j<=kr r T (j+1)):∀{i j:Nat},i<=j->j<n->kr r T i<=kr r T j
 |i,0,h1,_=>by rw[Nat.le_zero.mp h1];exact a1g _
 |i,j+1,h1,h2=>by
  by_cases e:i=j+1
  .rw[e];exact a1g _
  .have a:=xX h (i:=i) (j:=j) (by lia) (by lia);have b:=h j h2;lia
theorem Dd{n:Nat}(e:n<=T.length)(h:∀j,j+1<n->kr r T j<=kr r T (j+1)):Sr r (T.take n):=by refine We.mpr λi j a d c=>?_;rw[VG]at a d;have:=xX h (i:=i) (j:=j) (by lia) (by lia);rw[kE (Vb (show i<T.length by lia)),kE (Vb (show j<T.length by lia))]at this;rw[a0E,a0E];exact this
theorem MZ(P U V:List Keyed):a5J (P++U++V).toArray P.length (P.length+U.length) ((P.length+U.length-P.length)/2)=(P++U.reverse++V).toArray:=by
 apply XE.mp;apply ZG;intro k;rw[XD,getElem?_mirror_all (by simp),WE];by_cases h:P.length<=k/\k<P.length+U.length
 .have c:∀(W:List Keyed)(m:Nat),W.length=U.length->P.length<=m->m<P.length+U.length->(P++W++V)[m]?=W[m-P.length]?:=λW m e a d=>by rw[Vz,VB a,Vy (by lia)]
  rw[if_pos h,Wq,c U _ rfl (by lia) (by lia),c U.reverse k (by rw[XA]) h.1 h.2,WW (by lia)];congr 1;lia
 .rw[if_neg h,Wq];by_cases a:k<P.length
  .rw[Vz,Vz,Vy a,Vy a]
  .rw[VB (by rw[Vh];lia),VB (by rw[Vh,XA];lia)];simp
noncomputable def Dis(r:Keyed->Int)(T:List Keyed):Prop:=T.Pairwise λx y=>r x≠r y
theorem Dis.at(h:Dis r T){i j:Nat}(a:i<T.length)(c:j<T.length)(d:i≠j):kr r T i≠kr r T j:=by
 rw[kE (Vb a),kE (Vb c)];have:=We.mp h;by_cases l:i<j
 .exact this i j a c l
 .exact(this j i c a (by lia)).symm
theorem M0(hC:fT prog w A₀ κ s X (lr r))(y:∀x∈T,X x)(hD:Dis r T)(hT:0<T.length){Q:Option Nat->XG->Ve->Prop}
  (q:∀c t,0<c.length->Sr r c->(c++t).Perm T->Q (b0 c.length) (VL κ (P++(c++t)).toArray pd mg b3) s):Yw (VF prog w) A₀ E (countRun' P.length T.length) Q (VL κ (P++T).toArray pd mg b3) s:=by
 have k:∀n,0<n->n<=T.length->(∀j,j+1<n->kr r T j<=kr r T (j+1))->Q (b0 n) (VL κ (P++T).toArray pd mg b3) s:=λn G u h=>by
  have:=q (T.take n) (T.drop n) (by rw[VG];lia) (Dd u h) (by rw[VY])
  rwa [VY,VG,Zq u]at this
 unfold countRun'
 refine Vq (Xg (j7 (λi c=>c=(b3,i+1)/\∀j,j+1<i+1->kr r T j<=kr r T (j+1)) (λc=>∃n,c=(b3,n)/\0<n/\n<=T.length/\(∀j,j+1<n->kr r T j<=kr r T (j+1))/\(n<T.length->kr r T n<kr r T (n-1))) (T.length-1) (λi x c I d=>?_) (λc d=>?_) (λc g=>?_) _ 0 _ (by simp) ⟨rfl,λj l=>by lia⟩))
 .obtain⟨rfl,d⟩:=d
  dsimp only
  refine Vq (oM hC y (i:=i+1) (j:=i) (by lia) (by lia) ?_)
  dsimp only
  refine bQ (λhc=>?_) λhc=>?_
  .rw[decide_eq_true_eq]at hc
   refine Vv ⟨rfl,rfl,rfl,λj l=>?_⟩
   by_cases e:j=i
   .subst e;lia
   .exact d j (by lia)
  .rw[decide_eq_true_eq]at hc
   exact Vv ⟨rfl,rfl,i+1,rfl,by lia,by lia,d,λ_=>hc⟩
 .obtain⟨rfl,d⟩:=d
  exact⟨_,rfl,by lia,by lia,d,λh=>by lia⟩
 .obtain⟨n,rfl,G,u,d,M⟩:=g
  dsimp only
  refine bQ (λR=>?_) λR=>?_
  rotate_left
  .exact Vv (k n G u d)
  rw[beq_iff_eq]at R
  refine bQ (λh1=>?_) λh1=>?_
  rotate_left
  ·-- it rose
   have A:kr r T 0<kr r T (n-1):=by
    have a:=xX d (i:=0) (j:=n-1) (by lia) (by lia)
    have b:=hD.at (i:=0) (j:=n-1) (by lia) (by lia) (by lia)
    lia
   have N:Yw (VF prog w) A₀ E (ltAt' P.length (P.length+n-1)) (λb st p=>b=b0 dI/\st=VL κ (P++T).toArray pd mg b3/\p=s) (VL κ (P++T).toArray pd mg b3) s:=by
    have:=oM (prog:=prog) (w:=w) (A₀:=A₀) (E:=E) (P:=P) (pd:=pd) (mg:=mg) hC y (i:=0) (j:=n-1) (by lia) (by lia) (Q:=λb st p=>b=b0 dI/\st=VL κ (P++T).toArray pd mg b3/\p=s) ⟨by rw[decide_eq_true A],rfl,rfl⟩
    rw[show P.length+n-1=P.length+(n-1) by lia]
    exact this
   refine Vq (Wr N (λb p H=>?_) λ_ _ e=>e)
   obtain⟨b,O⟩:=b
   obtain⟨rfl,rfl,rfl⟩:=H
   dsimp only
   rw[if_pos rfl]
   exact Vv (k n G u d)
  have Y:n=1:=by lia
  subst Y
  have L:=M (by lia)
  refine Vq (Z8 (Ym ?_))
  refine Vq (Xg (j7 (λi c=>c=(b3,i+2,0)/\∀j,j+1<i+2->kr r T (j+1)<kr r T j) (λc=>∃n,c=(b3,n,0)/\2<=n/\n<=T.length/\∀j,j+1<n->kr r T (j+1)<kr r T j) (T.length-2) (λi x c I d=>?_) (λc d=>?_) (λc g=>?_) _ 0 _ (by simp) ⟨rfl,λj l=>by rw[show j=0 by lia];exact L⟩))
  .obtain⟨rfl,d⟩:=d
   dsimp only
   refine Vq (oM hC y (i:=i+2) (j:=i+1) (by lia) (by lia) ?_)
   dsimp only
   by_cases hc:kr r T (i+2)<kr r T (i+1)
   .rw[decide_eq_true hc,if_pos rfl,if_neg (by lia)]
    refine Vv ⟨rfl,rfl,rfl,λj l=>?_⟩
    by_cases e:j=i+1
    .subst e;exact hc
    .exact d j (by lia)
   .rw[decide_eq_false hc,if_neg Vm]
    have H:=hD.at (i:=i+1) (j:=i+2) (by lia) (by lia) (by lia)
    refine Vq (oM hC y (i:=i+1) (j:=i+2) (by lia) (by lia) ?_)
    dsimp only
    rw[decide_eq_true (show kr r T (i+1)<kr r T (i+2) by lia),if_pos rfl]
    exact Vv ⟨rfl,rfl,i+2,rfl,by lia,by lia,d⟩
  .obtain⟨rfl,d⟩:=d
   exact⟨T.length,by rw[show T.length-2+2=T.length by lia],by lia,Vk _,λj l=>d j (by lia)⟩
  .obtain⟨n,rfl,h2,u,d⟩:=g
   dsimp only
   rw[if_neg (by lia)]
   refine Vq (MN ?_)
      -- turned about
   have Z:P++T=P++T.take n++T.drop n:=by rw[Vz,VY]
   have o:(T.take n).length=n:=by rw[VG];lia
   have em:a5J (P++T).toArray P.length (P.length+n) ((P.length+n-P.length)/2)=(P++((T.take n).reverse++T.drop n)).toArray:=by
    have:=MZ P (T.take n) (T.drop n)
    rw[o]at this
    rw[Z,this,Vz]
   show Yw _ _ _ _ _ (VL κ (a5J (P++T).toArray P.length (P.length+n) ((P.length+n-P.length)/2)) pd mg b3) s
   rw[em]
   have hU:((T.take n).reverse++T.drop n).length=T.length:=by simp;lia
   have B:((T.take n).reverse++T.drop n).Perm T:=by
    refine((ZE _).append_right _).trans ?_
    rw[VY]
   have K:∀x∈(T.take n).reverse++T.drop n,X x:=λx hx=>y x (B.mem_iff.mp hx)
   have z:∀j,j+1<n->kr r ((T.take n).reverse++T.drop n) j<=kr r ((T.take n).reverse++T.drop n) (j+1):=λj l=>by
    have v:∀i,i<n->kr r ((T.take n).reverse++T.drop n) i=kr r T (n-1-i):=λi I=>by
     have:((T.take n).reverse++T.drop n)[i]?=T[n-1-i]?:=by
      rw[Vy (by rw[XA,o];exact I),WW (by lia),o,WK (by lia)]
     unfold kr
     rw[Vt,Vt,this]
    rw[v j (by lia),v (j+1) l]
    have:=d (n-1-(j+1)) (by lia)
    rw[show n-1-(j+1)+1=n-1-j by lia]at this
    lia
   generalize(T.take n).reverse++T.drop n=U at *
   refine Vq (Xg (j7 (λi c=>c=(b3,n+i)/\∀j,j+1<n+i->kr r U j<=kr r U (j+1)) (λc=>∃m,c=(b3,m)/\0<m/\m<=T.length/\∀j,j+1<m->kr r U j<=kr r U (j+1)) (T.length-n) (λi x c I d=>?_) (λc d=>?_) (λc g=>?_) _ 0 _ (by simp) ⟨rfl,z⟩))
   .obtain⟨rfl,d⟩:=d
    dsimp only
    have N:Yw (VF prog w) A₀ E (ltAt' (P.length+(n+i)) (P.length+(n+i)-1)) (λb st p=>b=b0 (decide (kr r U (n+i)<kr r U (n+i-1)))/\st=VL κ (P++U).toArray pd mg b3/\p=s) (VL κ (P++U).toArray pd mg b3) s:=by
     rw[show P.length+(n+i)-1=P.length+(n+i-1) by lia]
     exact oM hC K (by lia) (by lia) ⟨rfl,rfl,rfl⟩
    refine Vq (Wr N (λb p H=>?_) λ_ _ e=>e)
    obtain⟨b,O⟩:=b
    obtain⟨rfl,rfl,rfl⟩:=H
    dsimp only
    refine bQ (λhc=>?_) λhc=>?_
    .rw[decide_eq_true_eq]at hc
     refine Vv ⟨rfl,rfl,rfl,λj l=>?_⟩
     by_cases e:j+1=n+i
     .rw[show j=n+i-1 by lia,show n+i-1+1=n+i by lia];lia
     .exact d j (by lia)
    .exact Vv ⟨rfl,rfl,_,rfl,by lia,by lia,d⟩
   .obtain⟨rfl,d⟩:=d
    exact⟨_,rfl,by lia,by lia,d⟩
   .obtain⟨m,rfl,G,hm,d⟩:=g
    dsimp only
    have:=q (U.take m) (U.drop m) (by rw[VG];lia) (Dd (by lia) d) (by rw[VY];exact B)
    rw[VY,VG,Zq (by lia)]at this
    exact Vv this
end
section
variable{prog:VE}{w:VW}{A₀:VO}{E:Value->Ve->Prop}{κ:YT}{s:Ve}{X:Keyed->Prop}{r:Keyed->Int}{P:List Keyed}{pd:Array (Nat×Nat×Nat)}{mg:Nat}
theorem M3(P C V:List Keyed)(x:Keyed){l:Nat}(i:l<=C.length):bubble (P++(C++x::V)).toArray (P.length+C.length) (P.length+C.length-(P.length+l))=(P++(C.take l++x::C.drop l++V)).toArray:=by
 apply XE.mp;apply ZG;intro k;rw[XD,getElem?_bubble (by simp) _ (by lia),WE];have c:∀(W:List Keyed)(m:Nat),(P++W)[P.length+m]?=W[m]?:=λW m=>by rw[VB (by lia),XQ]
 have a:(C.take l).length=l:=by rw[VG];lia
 by_cases d:k<P.length
 .rw[if_neg (by lia),if_neg (by lia),Wq,Vy d,Vy d]
 obtain⟨m,rfl⟩:∃m,k=P.length+m:=⟨k-P.length,by lia⟩;rw[c];by_cases e:m=l
 .subst e;rw[if_pos (by lia),Wq,c,VB (Vk _),Y1,Vz,VB (by lia),a,Y1];rfl
 rw[if_neg (by lia)];by_cases h:l<m/\m<=C.length
 .rw[if_pos (by lia),Wq,show P.length+m-1=P.length+(m-1) by lia,c,Vy (by lia),Vz,VB (by lia),a,Wm,show m-l=(m-l-1)+1 by lia,YO,Vy (by rw[V5];lia),Yd];congr 1;lia
 rw[if_neg (by lia),Wq,c];by_cases g:m<l
 .rw[Vy (by lia),Vz,Vy (by lia),WK g]
 .rw[VB (by lia),Vz,VB (by lia),a,Wm,show m-C.length=(m-C.length-1)+1 by lia,show m-l=(m-l-1)+1 by lia,YO,YO,VB (by rw[V5];lia),V5];congr 1;lia
theorem M4(hC:fT prog w A₀ κ s X (lr r)){c D t:List Keyed}(hX:∀x∈c++D++t,X x)(hc:Sr r c)(h0:0<c.length){Q:Bool->XG->Ve->Prop}
  (q:∀a,Sr r a->a.Perm (c++D)->Q dI (VL κ (P++(a++t)).toArray pd mg b3) s):Yw (VF prog w) A₀ E (binarySort' P.length (c.length+D.length) c.length) Q (VL κ (P++(c++D++t)).toArray pd mg b3) s:=by
 unfold binarySort';refine Vq (Xg ?_);rw[Nat.max_eq_left h0];refine(iI (λi b st=>b=(b3,())/\∃a d,st=VL κ (P++(a++(d++t))).toArray pd mg b3/\Sr r a/\a.length=c.length+i/\(a++d).Perm (c++D)) (λb st=>b=(b3,())/\∃a,st=VL κ (P++(a++t)).toArray pd mg b3/\Sr r a/\a.Perm (c++D)) c.length D.length (λi b st hi L=>?_) (λb st L=>?_) (λb st o=>?_) (c.length+D.length-c.length) 0 _ _ (by lia) ⟨rfl,c,D,by rw[Vz],hc,rfl,YI _⟩)
 .obtain⟨rfl,a,d,rfl,n,Z,g⟩:=L;have p:=g.length_eq;rw[Vh,Vh]at p;match d,p,g with
  |[],p,_=>rw[Xi]at p;lia|x::d,p,g=>
   dsimp only;have N:∀z∈a++x::(d++t),X z:=λz k=>hX z (by
    have:z∈(a++x::d)++t:=by simpa using k
    rcases V4.mp this with h|h
    .exact V4.mpr (.inl (g.mem_iff.mp h))
    .exact V4.mpr (.inr h))
   have hk:c.length+i=a.length:=Z.symm;rw[hk];have R:kr r (a++x::(d++t)) a.length=r x:=kE (by rw[VB (Vk _),Y1];rfl);have O:∀m,m<a.length->kr r (a++x::(d++t)) m=kr r a m:=λm v=>by unfold kr;rw[Vt,Vt,Vy v]
   have eL:a++(x::d++t)=a++x::(d++t):=rfl;have mono:∀{m m':Nat},m<=m'->m'<a.length->kr r a m<=kr r a m':=λ{m m'} h K=>by rw[kE (Vb (show m<a.length by lia)),kE (Vb K)];exact n.at h (Vb _) (Vb _)
   refine Vq (Xg (j7 (λj b=>∃l u,b=(b3,l,u)/\l<=u/\u<=a.length/\u-l<=a.length-j/\(∀m,m<l->kr r a m<=r x)/\∀m,u<=m->m<a.length->r x<kr r a m) (λb=>∃l,b=(b3,l,l)/\l<=a.length/\(∀m,m<l->kr r a m<=r x)/\∀m,l<=m->m<a.length->r x<kr r a m) a.length (λj y b hj M=>?_) (λb M=>?_) (λb o=>?_) _ 0 _ (by simp) ⟨0,a.length,rfl,by lia,Vk _,by lia,λm v=>by lia,λm h K=>by lia⟩))
   .obtain⟨l,u,rfl,j1,A,j3,B,G⟩:=M;dsimp only;refine bQ (λT=>?_) λT=>?_
    .refine Vq (oM hC N (i:=a.length) (j:=(l+u)/2) (by simp) (by simp;lia) ?_);rw[R,O _ (by lia)];dsimp only;refine bQ (λhc=>?_) λhc=>?_
     .rw[decide_eq_true_eq]at hc;exact Vv ⟨rfl,rfl,(l+u)/2+1,u,rfl,by lia,A,by lia,λm v=>by have:=mono (m:=m) (m':=(l+u)/2) (by lia) (by lia);lia,G⟩
     .rw[decide_eq_true_eq]at hc;exact Vv ⟨rfl,rfl,l,(l+u)/2,rfl,by lia,by lia,by lia,B,λm h K=>by have:=mono (m:=(l+u)/2) (m':=m) h K;lia⟩
    .have e:u=l:=by lia
     subst e;exact Vv ⟨rfl,rfl,_,rfl,A,B,G⟩
   .obtain⟨l,u,rfl,j1,A,j3,B,G⟩:=M;have e:u=l:=by lia
    subst e;exact⟨_,rfl,A,B,G⟩
   .obtain⟨l,rfl,A,B,G⟩:=o;dsimp only;have mv:∀{I:Unit->XG->Ve->Prop},I () (VL κ (P++((a.take l++x::a.drop l)++(d++t))).toArray pd mg b3) s->Yw (VF prog w) A₀ E (moveDown' (P.length+a.length) (P.length+l)) I (VL κ (P++(a++x::(d++t))).toArray pd mg b3) s:=λ{I} h=>by rw[moveDown'_eq];refine X8 ?_;show I () (VL κ (bubble (P++(a++x::(d++t))).toArray (P.length+a.length) (P.length+a.length-(P.length+l))) pd mg b3) s;rw[M3 P a (d++t) x A];exact h
    refine Vq (mv (Vv ⟨rfl,rfl,a.take l++x::a.drop l,d,rfl,?_,?_,?_⟩))
    .have U:∀z∈a.take l,r z<=r x:=λz k=>by obtain⟨m,v,e⟩:=oJ k;rw[<- kE (r:=r) e];exact B m v
     have Y:∀z∈a.drop l,r x<=r z:=λz k=>by obtain⟨m,v,e⟩:=oK k;rw[<- kE (r:=r) e];exact Z5 (G m v (Vc.mp e).1)
     have:=Sr.both (r:=r) (U:=a.take l) (R:=[x]) (V:=a.drop l) (by unfold Sr;simp) (W4 (Yr _ _) n) (W4 (ZH _ _) n) (λy H z k=>by rw[V8.mp k];exact U y H) (λy H z k=>by rw[V8.mp H];exact Y z k) (λy H z k=>by have:=U y H;have:=Y z k;lia);simpa using this
    .simp;lia
    .refine a2C ?_ g;have:(a.take l++x::a.drop l).Perm (a++[x]):=by refine List.perm_middle.trans ?_;rw[VY];exact Xd (l₁:=[x])
     have:=this.append_right d;simpa using this
 .obtain⟨rfl,a,d,rfl,n,Z,g⟩:=L;have p:=g.length_eq;rw[Vh,Vh]at p;have:d=[]:=Xl.mp (by lia);subst this;rw[WQ]at g;exact⟨rfl,a,rfl,n,g⟩
 .obtain⟨rfl,a,rfl,n,g⟩:=o;exact Vv (q a n g)
end
noncomputable abbrev fJ:=List Keyed×Nat
noncomputable def bD(a:List fJ):List Keyed:=(a.map (·.1)).flatten
noncomputable def pos:Nat->List fJ->List (Nat×Nat×Nat)
 |_,[]=>[]|p,(c,w)::t=>(p,c.length,w)::pos (p+c.length) t
theorem jE(c:List Keyed)(w:Nat)(t:List fJ):bD ((c,w)::t)=c++bD t:=rfl
theorem mQ(a b:List fJ):bD (a++b)=bD a++bD b:=by unfold bD;simp
theorem mR:∀(a b:List fJ)(p:Nat),pos p (a++b)=pos p a++pos (p+(bD a).length) b
 |[],b,p=>rfl|(c,w)::a,b,p=>by show(p,c.length,w)::pos (p+c.length) (a++b)=_;rw[mR a b,jE,Vh,a1W];rfl
theorem kF:∀(a:List fJ)(p:Nat),(pos p a).length=a.length
 |[],_=>rfl|(c,w)::a,p=>by show(pos (p+c.length) a).length+1=_;rw[kF a];rfl
structure Rn(r:Keyed->Int)(L rest:List Keyed)(rs:List fJ):Prop where
 ok:∀p∈rs,Sr r p.1/\0<p.1.length
 pm:(bD rs++rest).Perm L
section
variable{prog:VE}{w:VW}{A₀:VO}{E:Value->Ve->Prop}{κ:YT}{s:Ve}{X:Keyed->Prop}{r:Keyed->Int}{L rest:List Keyed}{mg:Nat}
noncomputable abbrev eY(κ:YT)(rest:List Keyed)(a:List fJ)(mg:Nat):XG:=VL κ (bD a++rest).toArray (pos 0 a).toArray mg b3
theorem M5(hC:fT prog w A₀ κ s X (lr r))(A:∀x∈L,X x){pre a:List fJ}{d e:List Keyed}{w1 w2:Nat}(h:Rn r L rest (pre++(d,w1)::(e,w2)::a)){Q:Bool->XG->Ve->Prop}
  (q:∀c j,Rn r L rest (pre++(c,w1)::a)->c.length=d.length+e.length->Q dI (eY κ rest (pre++(c,w1)::a) j) s){i:Nat}(B:i=pre.length) :
  Yw (VF prog w) A₀ E (a3O i) Q (eY κ rest (pre++(d,w1)::(e,w2)::a) mg) s:=by
 subst B;obtain⟨k,u⟩:=h;have o1:=k (d,w1) (by simp);have o2:=k (e,w2) (by simp);have l:bD (pre++(d,w1)::(e,w2)::a)++rest=bD pre++d++e++(bD a++rest):=by rw[mQ,jE,jE];simp
 have y:pos 0 (pre++(d,w1)::(e,w2)::a)=pos 0 pre++((bD pre).length,d.length,w1)::((bD pre).length+d.length,e.length,w2)::pos ((bD pre).length+d.length+e.length) a:=by rw[mR,XH];rfl
 unfold eY;rw[l,y];refine MY hC (λx G=>A x (u.mem_iff.mp (by rw[l];exact G))) o1.1 o2.1 o1.2 o2.2 (w1:=w1) (w2:=w2) ?_ ?_ λc j z o=>?_
 .rw[Wq,VB (by rw[kF];exact Vk _),kF,Y1];rfl
 .rw[Wq,VB (by rw[kF];lia),kF,XQ];rfl
 .have m:=o.length_eq;rw[Vh]at m;have n:bD pre++c++(bD a++rest)=bD (pre++(c,w1)::a)++rest:=by rw[mQ,jE];simp
  have v:((pos 0 pre++((bD pre).length,d.length,w1)::((bD pre).length+d.length,e.length,w2)::pos ((bD pre).length+d.length+e.length) a).toArray.setIfInBounds pre.length ((bD pre).length,d.length+e.length,w1)).eraseIdxIfInBounds (pre.length+1)=(pos 0 (pre++(c,w1)::a)).toArray:=by apply XE.mp;have g:(pos 0 pre).length=pre.length:=kF _ _;rw[Array.toList_eraseIdxIfInBounds,a1t,WE,WE,mR,XH,<- g,Y4 _ _ (Vk _),Y1,V2,List.eraseIdx_append_of_length_le (by lia),XQ];show _=pos 0 pre++((bD pre).length,c.length,w1)::pos ((bD pre).length+c.length) a;rw[m,<- a1W];rfl
  rw[n,v];refine q c j ⟨λp g=>?_,?_⟩ m
  .rcases V4.mp g with g|g
   .exact k p (by simp[g])
   .rcases Wf.mp g with rfl|g
    .have:=o1.2;dsimp only at this;exact⟨z,by dsimp only;lia⟩
    .exact k p (by simp[g])
  .rw[<- n];refine a2C ?_ u;rw[l];have:=(o.append_left (bD pre)).append_right (bD a++rest);simpa using this
theorem De(hC:fT prog w A₀ κ s X (lr r))(z:∀x∈L,X x){a:List fJ}(h:Rn r L rest a){i:Nat}(G:i+1<a.length){Q:Bool->XG->Ve->Prop}
  (q:∀d j,Rn r L rest d->d.length+1=a.length->(bD d).length=(bD a).length->Q dI (eY κ rest d j) s):Yw (VF prog w) A₀ E (a3O i) Q (eY κ rest a mg) s:=by
 have e:a=a.take i++(a[i].1,a[i].2)::(a[i+1].1,a[i+1].2)::a.drop (i+1+1):=by have u:=XC (l:=a) (i:=i) (by lia);have v:=XC (l:=a) (i:=i+1) (by lia);have m:=VY i a;rw[u,v]at m;exact m.symm
 obtain⟨pre,k,n,l,o,g,p,A⟩:∃pre k n l o g,a=pre++(k,n)::(l,o)::g/\i=pre.length:=⟨_,_,_,_,_,_,e,by rw[VG];lia⟩;subst p;refine M5 hC z h (λc j y B=>q _ j y ?_ ?_) A
 .simp;lia
 .rw[mQ,mQ,jE,jE,jE];simp;lia
theorem Df{c:Type}(f:c->c):∀(l:List c)(x:c),(l++[x]).modify l.length f=l++[f x]
 |[],x=>rfl|a::l,x=>by show a::(l++[x]).modify l.length f=_;rw[Df f l x];rfl
theorem M6(a:List fJ)(c:List Keyed)(w:Nat):(pos 0 a).toArray.push ((bD a).length,c.length,w)=(pos 0 (a++[(c,w)])).toArray:=by rw[mR,XH];apply XE.mp;rw[Xa];rfl
theorem M7(a:List fJ)(c:List Keyed)(w d:Nat):((pos 0 (a++[(c,w)])).toArray.modify ((pos 0 (a++[(c,w)])).toArray.size-1) λx=>(x.1,x.2.1,d))=(pos 0 (a++[(c,d)])).toArray:=by rw[mR,mR,XH];apply XE.mp;have:=Df (λx:Nat×Nat×Nat=>(x.1,x.2.1,d)) (pos 0 a) ((bD a).length,c.length,w);simp[pos];exact this
theorem M8(a:List fJ)(c:List Keyed)(w:Nat):(pos 0 (a++[(c,w)])).toArray.back?=b0 ((bD a).length,c.length,w):=by rw[mR,XH];simp[pos]
theorem M9(hC:fT prog w A₀ κ s X (lr r))(hX:∀x∈L,X x)(hD:Dis r L)(h2:2<=L.length){Q:Unit->XG->Ve->Prop}
  (q:∀(R:List Keyed)(pd:Array (Nat×Nat×Nat))(k:Nat),Sr r R->R.Perm L->Q () (VL κ R.toArray pd k b3) s):Yw (VF prog w) A₀ E sortRuns' Q (VL κ L.toArray #[] mg b3) s:=by
 have hsz:(a3T (VL κ L.toArray #[] mg b3)).size=L.length:=Vi;rw[sortRuns'_eq];refine Vq (Y9 ?_);dsimp only;simp only[hsz];generalize minRun' L.length L.length 0=mr;refine Vq (Xg (iI (λi b st=>∃g rest k,b=(b3,(bD g).length)/\st=eY κ rest g k/\Rn r L rest g/\i<=(bD g).length) (λb st=>∃g k n,b=(b3,n)/\st=eY κ [] g k/\Rn r L [] g) 0 L.length (λi b st hi Z=>?_) (λb st Z=>?_) (λb st K=>?_) (L.length-0) 0 _ _ (by lia) ⟨[],L,mg,rfl,rfl,⟨λp v=>(by cases v),YI _⟩,Xm _⟩))
 .obtain⟨g,rest,y,rfl,rfl,m,hle⟩:=Z;have z:=m.pm.length_eq;rw[Vh]at z;dsimp only;refine bQ (λhlo=>?_) λhlo=>?_;rotate_left
  .have:rest=[]:=Xl.mp (by lia);subst this;exact Vv ⟨rfl,g,y,_,rfl,rfl,m⟩
  have hXr:∀x∈rest,X x:=λx hx=>hX x (m.pm.mem_iff.mp (V4.mpr (.inr hx)));have hDr:Dis r rest:=by have:Dis r (bD g++rest):=hD.perm m.pm.symm λh=>h.symm;exact(W2.mp this).2.1
  rw[show L.length-(bD g).length=rest.length by lia];refine Vq (M0 hC hXr hDr (by lia) λc t O h2 h3=>?_);dsimp only;have hct:=h3.length_eq;rw[Vh]at hct;refine bQ (λhmr=>?_) λhmr=>?_;rotate_left;refine Vq (Z8 (Ym ?_));have ht:t=t.take (min rest.length mr-c.length)++t.drop (min rest.length mr-c.length):=(VY _ _).symm;have hD1:(t.take (min rest.length mr-c.length)).length=min rest.length mr-c.length:=by rw[VG];lia
  generalize t.take (min rest.length mr-c.length)=D at ht hD1;generalize t.drop (min rest.length mr-c.length)=t' at ht;subst ht;rw[<- Vz c D t',show min rest.length mr=c.length+D.length by lia];refine Vq (M4 hC (λx hx=>hXr x (h3.mem_iff.mp (by rw[<- Vz];exact hx))) h2 O λc' A H=>?_);have hc':=H.length_eq;rw[Vh]at hc';rw[<- hc',if_neg (by decide)];have k1:0<c'.length:=by lia
  have k2:=A;have k3:(c'++t').Perm rest:=(H.append_right t').trans (by rw[Vz];exact h3);clear hc' H A h3 hct;revert k1 k2 k3;revert t';revert c';intro u I k1 k2 k3;rotate_left;have k1:=O;have k2:=h2;have k3:=h3;clear O h2 h3 hct hmr;revert k1 k2 k3;revert t;revert c;intro u I k1 k2 k3;all_goals
   have hcc:=k3.length_eq;rw[Vh]at hcc;refine Vq (Y9 ?_);have fin:∀(d:List fJ)(k:Nat),Rn r L (u++I) d->(bD d).length=(bD g).length->∃G N mg'',((b3,(bD g).length+u.length):Option Unit×Nat)=(b3,(bD G).length)/\VL κ (bD d++(u++I)).toArray ((pos 0 d).toArray.push ((bD g).length,u.length,0)) k b3=eY κ N G mg''/\Rn r L N G/\i+1<=(bD G).length:=λd k A H=>by
    have e1:bD (d++[(u,0)])=bD d++u:=by rw[mQ,jE];show _++(u++[])=_;rw[WQ]
    refine⟨d++[(u,0)],I,k,?_,?_,⟨λp v=>?_,?_⟩,?_⟩
    .rw[e1,Vh,H]
    .unfold eY;rw[<- M6,e1,H,Vz]
    .rcases V4.mp v with v|v
     .exact A.ok p v
     .rw[V8.mp v];exact⟨k2,k1⟩
    .rw[e1,Vz];exact A.pm
    .rw[e1,Vh];lia
   have hR':Rn r L (u++I) g:=⟨m.ok,(k3.append_left _).trans m.pm⟩;rcases a2n g with M|⟨U,⟨cl,wl⟩,M⟩
   .have T:(a1E (VL κ (bD g++(u++I)).toArray (pos 0 g).toArray y b3)).back?=none:=by rw[M];rfl
    simp only[T];exact Vq (X8 (Vv ⟨rfl,fin g y hR' rfl⟩))
   .rw[a2o]at M;have T:(a1E (VL κ (bD g++(u++I)).toArray (pos 0 g).toArray y b3)).back?=b0 ((bD U).length,cl.length,wl):=by rw[M];exact M8 U cl wl
    simp only[T];generalize power' L.length (2*(bD U).length+cl.length) (2*(bD U).length+cl.length+cl.length+u.length) L.length=pw;refine Vq (Xg (iI (λj b st=>b=(b3,())/\∃d k,st=eY κ (u++I) d k/\Rn r L (u++I) d/\d≠[]/\(bD d).length=(bD g).length) (λb st=>b=(b3,())/\∃d k,st=eY κ (u++I) d k/\Rn r L (u++I) d/\d≠[]/\(bD d).length=(bD g).length) 0 L.length (λj b st hj hJ=>?_) (λb st hJ=>hJ) (λb st K=>?_) (L.length-0) 0 _ _ (by lia) ⟨rfl,g,y,rfl,hR',by rw[M];simp,rfl⟩))
    .obtain⟨rfl,d,l,rfl,A,H,g3⟩:=hJ;refine Vq (Y9 ?_);have hps:(a1E (eY κ (u++I) d l)).size=d.length:=by show(pos 0 d).toArray.size=_;rw[Vi,kF]
     rw[hps];have hn0:0<d.length:=a2K.mpr H;by_cases O:d.length>1
     .rw[if_pos O];obtain⟨⟨o1,o2,o3⟩,ho⟩:∃o,(a1E (eY κ (u++I) d l))[d.length-2]?=b0 o:=by show ∃o,(pos 0 d).toArray[d.length-2]?=b0 o;rw[Wq];exact⟨_,Vb (by rw[kF];lia)⟩
      rw[ho];dsimp only;refine bQ (λv=>?_) λv=>?_
      .refine Vq (De hC hX A (by lia) λrs2 mg3 a1 a2 a3=>?_);rw[if_neg (by decide)];exact Vv ⟨rfl,rfl,rs2,mg3,rfl,a1,λe=>by rw[e]at a2;simp at a2;lia,by lia⟩
      .exact Vv ⟨rfl,rfl,d,l,rfl,A,H,g3⟩
     .rw[if_neg O];exact Vv ⟨rfl,rfl,d,l,rfl,A,H,g3⟩
    .obtain⟨rfl,d,l,rfl,A,H,g3⟩:=K;dsimp only;refine Vq (X8 ?_);rcases a2n d with B|⟨Y,⟨cm,wm⟩,B⟩
     .exact absurd B H
     rw[a2o]at B;subst B;have f1:bD (Y++[(cm,wm)])=bD (Y++[(cm,pw)]):=by rw[mQ,mQ];rfl
     refine Vq (X8 (Vv ⟨rfl,?_⟩));have:=fin (Y++[(cm,pw)]) l ⟨λp v=>?_,by rw[<- f1];exact A.pm⟩ (by rw[<- f1];exact g3)
     .rw[<- M7 Y cm wm pw,<- f1]at this;exact this
     .rcases V4.mp v with v|v
      .exact A.ok p (by simp[v])
      .rw[V8.mp v];exact A.ok (cm,wm) (by simp)
 .obtain⟨g,rest,y,rfl,rfl,m,hle⟩:=Z;have z:=m.pm.length_eq;rw[Vh]at z;have:rest=[]:=Xl.mp (by lia);subst this;exact⟨g,y,_,rfl,rfl,m⟩
 .obtain⟨g,y,n,rfl,rfl,m⟩:=K;dsimp only;have hfl:g.length<=(bD g).length:=by
   have:∀g:List fJ,(∀p∈g,0<p.1.length)->g.length<=(bD g).length:=by
    intro g;induction g with
    |nil=>intro _;exact Vk _|cons p g ih=>intro h;obtain⟨c,w⟩:=p;have a:=ih λp v=>h p (by simp[v]);have b:=h (c,w) (by simp);dsimp only at b;rw[jE,Vh,VD];lia
   exact this g λp v=>(m.ok p v).2
  have z:=m.pm.length_eq;rw[Vh,Xi]at z;refine Vq (Xg (iI (λi b st=>b=(b3,())/\∃g k,st=eY κ [] g k/\Rn r L [] g/\g.length+i<=L.length) (λb st=>b=(b3,())/\∃g k,st=eY κ [] g k/\Rn r L [] g/\g.length<=1) 0 L.length (λi b st hi Z=>?_) (λb st Z=>?_) (λb st K=>?_) (L.length-0) 0 _ _ (by lia) ⟨rfl,g,y,rfl,m,by lia⟩))
  .obtain⟨rfl,g,l,rfl,m,T⟩:=Z;refine Vq (Y9 ?_);have hps:(a1E (eY κ [] g l)).size=g.length:=by show(pos 0 g).toArray.size=_;rw[Vi,kF]
   rw[hps];refine bQ (λO=>?_) λO=>?_
   .refine Vq (De hC hX m ?_ λd k A H g3=>?_)
    .split<;>(try split)<;>lia
    .rw[if_neg (by decide)];exact Vv ⟨rfl,rfl,d,k,rfl,A,by lia⟩
   .exact Vv ⟨rfl,rfl,g,l,rfl,m,O⟩
  .obtain⟨rfl,g,l,rfl,m,T⟩:=Z;exact⟨rfl,g,l,rfl,m,by lia⟩
  .obtain⟨rfl,g,l,rfl,m,T⟩:=K;dsimp only;have hpm:=m.pm;rw[WQ]at hpm;refine Vv ?_;have:=q (bD g++[]) (pos 0 g).toArray l ?_ (by rw[WQ];exact hpm)
   .exact this
   .rw[WQ];match g,T,m with
    |[],_,_=>exact Z4|[(c,w)],_,m=>have:=(m.ok (c,w) (by simp)).1;rw[jE];show Sr r (c++[]);rw[WQ];exact this|_::_::_,T,_=>simp at T
end
section
variable{prog:VE}{w:VW}{A:VO}{E:Value->Ve->Prop}{s:Ve}
theorem Na{c:Addr}{us:gq}{z:Nat}{rk:Value->Int}(N:us.Pairwise λx y=>rk x≠rk y)(h1:2<=us.length)(h2:us.length<=Vp){R:a5j->Ve->Prop}(g:s.heap.get? c=b0 (Xf "list" us.toArray z))
  (H:∀l:WA,(∀b o,b≠c->s.heap.get? b=b0 o->l.get? b=b0 o)->CY prog w A us (λx y=>decide (rk x<rk y)) {s with heap:=l})
  (q:∀a:gq,a.Perm us->a.Pairwise (λx y=>rk x<=rk y)->R (.done (.ret .none)) {s with heap:=a0W s.heap c us a.toArray}) :
  VH (VF prog w) A (Builtin.«list.sort» ⟨[.ref c],[]⟩) R E s:=by
 rw[a5g]
 have lt:c<s.heap.objs.size:=Vn g
 refine Va (listItems_at g rfl (Va (a0N g rfl ?_ (by rw[Vi];lia) (Xm _))))
 obtain⟨y,M⟩:∃y,(s.heap.update c (Ww λ_=>#[])).get? c=b0 (Xf "list" #[] y):=⟨_,a5i g _⟩
 refine Va (a1O M rfl (Va (a2g (Va (a0L (Ws ?_) (Xm _))) (by show us.length<=_;lia))))
 have O:(((s.heap.update c (Ww λ_=>#[])).push (Xf "tuple" us.toArray 0)).push (Xf "list" #[] 0)).get? c=b0 (Xf "list" #[] y):=
  Vg _ (Vg _ M)
 have m:=H (((s.heap.update c (Ww λ_=>#[])).push (Xf "tuple" us.toArray 0)).push (Xf "list" #[] 0)) λb o Y e=>Vg _ (Vg _ ((Wl _ _ (WM Y)).trans e))
 show VH (VF prog w) A _ R E ⟨((s.heap.update c (Ww λ_=>#[])).push (Xf "tuple" us.toArray 0)).push (Xf "list" #[] 0),s.gens,s.drawn,s.toks,s.os⟩
 dsimp only
 have i:¬ us.toArray.size<2:=by rw[Vi];lia
 rw[if_neg i,if_neg i]
 refine Va (Wr m (λκ L B=>?_) λ_ _ x=>x.elim)
 obtain⟨rfl,B⟩:=B
 have X:us.toArray.zip us.toArray=(us.map λu=>(u,u)).toArray:=by
  apply XE.mp
  rw[MM,WE]
 have run:=M9 (prog:=prog) (w:=w) (A₀:=A) (E:=E) (κ:=κ) (X:=λp=>∃u∈us,p=(u,u)) (r:=λp=>rk p.1)
  (s:={s with heap:=((s.heap.update c (Ww λ_=>#[])).push (Xf "tuple" us.toArray 0)).push (Xf "list" #[] 0)}) (L:=us.map λu=>(u,u)) (mg:=7)
  (λx y C k K hc=>by
   obtain⟨u,I,rfl⟩:=k
   obtain⟨v,hv,rfl⟩:=K
   exact B u v C I hv hc) (λx k=>by
   obtain⟨u,I,rfl⟩:=VQ.mp k
   exact⟨u,I,rfl⟩) (by unfold Dis;rw[Xv];exact N) (by rw[U8];exact h1)
  (Q:=λ_ j L=>L={s with heap:=((s.heap.update c (Ww λ_=>#[])).push (Xf "tuple" us.toArray 0)).push (Xf "list" #[] 0)}/\failedOf j=b3/\∃a:gq,(a3T j).map (·.2)=a.toArray/\a.Perm us/\a.Pairwise (λx y=>rk x<=rk y)) (λT pd mg' l n=>⟨rfl,rfl,T.map (·.2),by
   show T.toArray.map (·.2)=_
   rw[List.map_toArray],by
   have:=n.map (·.2)
   rw[VM]at this
   exact this.trans (by rw[show((λp:Keyed=>p.2)∘λu:Value=>(u,u))=id from rfl,a2z]),by
   rw[Xv]
   refine Zd (R:=λx y:Keyed=>rk x.1<=rk y.1) (λ{x y} k K h=>?_) l
   obtain⟨u,_,rfl⟩:=VQ.mp (n.mem_iff.mp k)
   obtain⟨v,_,rfl⟩:=VQ.mp (n.mem_iff.mp K)
   exact h⟩)
 rw[X]
 refine Va (Wr run (λr L hr=>?_) λ_ _ e=>e)
 obtain⟨⟨⟩,j⟩:=r
 obtain⟨rfl,Q,a,d,U,G⟩:=hr
 dsimp only at Q d ⊢
 rw[d]
 have Z:=U.length_eq
 refine Va (a1O O rfl (Va (a0N O rfl ?_ (hsz2:=by rw[Vi];lia))))
 rw[Q]
 simp only[bne_self_eq_false,Vu,if_false]
 exact Vj (q a U G)
end
section
variable{α:Type}{lt:α->α->Bool}
structure Ord1(lt:α->α->Bool):Prop where
 ir:∀x,lt x x=b5
 tr:∀x y z,lt x y=dI->lt y z=dI->lt x z=dI
 to:∀x y,lt x y=b5->lt y x=b5->x=y
noncomputable def jF(lt:α->α->Bool)(l:List α)(x:α):Int:=(l.countP λy=>lt y x:Nat)
theorem Dg(h:Ord1 lt){l:List α}{x y:α}(c:x∈l):lt x y=dI->jF lt l x<jF lt l y:=λe=>by
 unfold jF;have:∀l:List α,l.countP (λz=>lt z x)<=l.countP (λz=>lt z y):=λl=>List.countP_mono_left λz _ g=>h.tr z x y g e;have j:l.countP (λz=>lt z x)<l.countP (λz=>lt z y):=by
  induction l with
  |nil=>cases c|cons a l i=>
   rw[a3I,a3I];rcases Wf.mp c with rfl|c
   .rw[h.ir,e,if_neg Vm,if_pos rfl];have:=this l;lia
   .have:=i c;by_cases d:lt a x=dI
    .rw[if_pos d,if_pos (h.tr _ _ _ d e)];lia
    .rw[if_neg d];split<;>lia
 lia
theorem tG(h:Ord1 lt){l:List α}{x y:α}(c:x∈l)(d:y∈l):lt x y=decide (jF lt l x<jF lt l y):=by
 cases e:lt x y with
 |true=>rw[decide_eq_true (Dg h c e)]|false=>
  symm;rw[decide_eq_false_iff_not];cases a:lt y x with
  |true=>have:=Dg h d a;lia|false=>rw[h.to x y e a];lia
theorem Dh(h:Ord1 lt){l:List α}{x y:α}(c:x∈l)(d:y∈l)(g:x≠y):jF lt l x≠jF lt l y:=λe=>by have a:=tG h c d;have b:=tG h d c;rw[e,decide_eq_false (by lia)]at a;rw[e,decide_eq_false (by lia)]at b;exact g (h.to x y a b)
end
end L3
namespace L3
open PySem L2
open PyProof.Rows (IntsAre Fr News seqObj)
theorem Di:∀a:List Int,HT.lexLt a a=b5
 |[]=>rfl|x::a=>by rw[HT.lexLt_cons,if_pos rfl];exact Di a
theorem Dj:∀{a b:List Int},a≠b->HT.lexLt a b=!HT.lexLt b a
 |[],[],h=>absurd rfl h|[],_::_,_=>rfl|_::_,[],_=>rfl|x::a,y::b,h=>by
  rw[HT.lexLt_cons,HT.lexLt_cons];by_cases e:x=y
  .subst e;rw[if_pos rfl,if_pos rfl];exact Dj λz=>h (by rw[z])
  .rw[if_neg e,if_neg (WM e)];rcases Int.lt_or_gt_of_ne e with z|z
   .rw[decide_eq_true z,decide_eq_false (by lia)];rfl
   .rw[decide_eq_false (by lia),decide_eq_true z];rfl
theorem Dk:∀{a b c:List Int},HT.lexLt a b=dI->HT.lexLt b c=dI->HT.lexLt a c=dI
 |_,[],[],_,h=>absurd h (by intro z;cases z)|_,_::_,[],_,h=>absurd h (by intro z;cases z)|[],_,_::_,_,_=>rfl|_::_,[],_::_,h,_=>absurd h (by intro z;cases z)|x::a,y::b,z::c,h1,h2=>by
  rw[HT.lexLt_cons]at h1 h2 ⊢;by_cases e:x=y
  .subst e;rw[if_pos rfl]at h1;by_cases d:x=z
   .subst d;rw[if_pos rfl]at h2 ⊢;exact Dk h1 h2
   .rw[if_neg d]at h2 ⊢;exact h2
  .rw[if_neg e]at h1;by_cases d:y=z
   .subst d;rw[if_neg e];exact h1
   .rw[if_neg d]at h2;rw[decide_eq_true_eq]at h1 h2;rw[if_neg (by lia),decide_eq_true_eq];lia
end L3
namespace L3
open PySem
open PySem.W (KasT kas_asc kas_desc kas_tail3 kas_descPart kas_count kas_place kas_bin kas_sort kas_rev)
open PyProof.Rows (mirror bubble getElem?_bubble getElem?_mirror_all mirror_size bubble_size)
section
variable{α:Type}{lt:α->α->Bool}(irr:∀a,lt a a=b5)(tr:∀a b c,lt a b=dI->lt b c=dI->lt a c=dI)(nt:∀a b c,lt a b=dI->lt a c=dI\/lt c b=dI)
include irr tr nt in
theorem Nb(d:α)(xs:List α){n:Nat}(_:1<=n):(cE (λi j=>lt (xs.getD i d) (xs.getD j d)) n).Pairwise λi j=>lt (xs.getD j d) (xs.getD i d)=false:=by
 have h:=List.pairwise_mergeSort (le:=λi j=>!(lt (xs.getD j d) (xs.getD i d))) (λa b c g k=>by
  rw[ZI]at g k ⊢;cases e:lt (xs.getD c d) (xs.getD a d)with
  |false=>rfl|true=>
   rcases nt _ _ (xs.getD b d) e with z|z
   .rw[z]at k;cases k
   .rw[z]at g;cases g) (λa b=>by
  cases e:lt (xs.getD b d) (xs.getD a d)with
  |false=>rfl|true=>
   cases l:lt (xs.getD a d) (xs.getD b d)with
   |false=>rfl
   |true=>have:=tr _ _ _ e l;rw[irr]at this;cases this) (VS n)
 exact h.imp λh=>by simpa using h
end
end L3
namespace L3
open PySem L2 PySem.W PyProof.Rows
theorem lexT_ord:Ord1 HT.lexLt:=⟨Di,λ_ _ _=>Dk,λa b h1 c=>Classical.byContradiction λd=>by
 have:=Dj d;rw[h1,c]at this;cases this⟩
section
variable{X:Cx}{a5N:jw}{σ:L2.St}{H:Hp}{s:Ve}
end
end L3
namespace L3
open PySem L2
section
variable{X:Cx}{a b c:Expr}{ma mb mc:ME}{pos:W9}
noncomputable def fU(f g:D->D->Hm->jk)(a b c:ME):ME:=λρ d=>(a ρ d).bind λp=>(b ρ p.2).bind λq=>(f p.1 q.1 q.2).bind λr=>match r.1 with
 |.bl dI=>(c ρ r.2).bind λt=>g q.1 t.1 t.2|.bl b5=>b0 (.bl b5,r.2)|_=>b3
theorem Dl{f g:D->D->Hm->jk}{r L:R2}{K:U9}(hf:cS K f r)(hg:cS K g L):∀σ H Q,tM K (fU f g ma mb mc) σ H Q->v9 r L (tM K ma) (tM K mb) (tM K mc) σ H Q:=by
 rintro σ H Q ⟨π,w,μ,d,q,R,E,e,k⟩;obtain⟨⟨x,h⟩,Z,e⟩:=U7.mp e;obtain⟨⟨y,i⟩,h2,e⟩:=U7.mp e;obtain⟨⟨z,j⟩,h3,e⟩:=U7.mp e;refine⟨π,w,μ,x,h,R,E,Z,λs v1 H1 n U i1=>⟨s,w,h,y,i,U,E.mono n,h2,λu M N o R2 I=>?_⟩⟩;refine hf u N i x y z j v1 M _ R2 (i1.mono o) I h3 λm v3 O p A i3=>?_;cases z with
 |bl B=>
  cases i3;refine⟨B,rfl,?_⟩;cases B with
  |true=>refine kW ?_;obtain⟨⟨t,l⟩,h4,e⟩:=U7.mp e;exact⟨m,w,j,t,l,A,((E.mono n).mono o).mono p,h4,λv v4 T G Y i4=>hg v T l y t d q M v4 Q Y ((I.mono p).mono G) i4 e (k.after (((n.trans o).trans p).trans G))⟩|false=>refine kU ?_;cases e;exact k m _ O ((n.trans o).trans p) A (.bl b5)
 |_=>cases e
noncomputable def kG:Zg->Option (Int->Int->Bool)
 |.Lt=>b0 λi j=>decide (i<j)|.LtE=>b0 λi j=>decide (i<=j)|.Gt=>b0 λi j=>decide (j<i)|.GtE=>b0 λi j=>decide (j<=i)|_=>b3
theorem oN{op:Zg}{p:Int->Int->Bool}(h:kG op=b0 p):OpR X (WB op) (f6 λi j=>.bl (p i j))/\(op=.Lt\/op=.LtE\/op=.Gt\/op=.GtE):=by cases op<;>first|(cases h;first|exact⟨vY,by simp⟩|exact⟨vZ,by simp⟩|exact⟨v7,by simp⟩|exact⟨v8,by simp⟩)|cases h
theorem Dm{op d:Zg}(h':d=.Lt\/d=.LtE\/d=.Gt\/d=.GtE):a4R [op,d] [b,c]=false:=by show Yv d c=b5;rcases h' with rfl|rfl|rfl|rfl<;>exact dD _
theorem Nc{op d:Zg}{p q:Int->Int->Bool}(h:kG op=b0 p)(h':kG d=b0 q)(e:QE X a ma)(g:QE X b mb)(hc:QE X c mc):QE X (.Compare a [op,d] [b,c] pos) (fU (fQ p) (fQ q) ma mb mc):=
 ⟨cZ (Ig (oN h).1 (oN h').1 e.h g.h hc.h (Dm (oN (X:=X) h').2)) (Dl gX gX)⟩
theorem Nd{op d:Zg}{p q:Int->Int->Bool}(h:kG op=b0 p)(h':kG d=b0 q)(g:QE X a ma)(i:QE X b mb)(hc:QE X c mc):QT X (.Compare a [op,d] [b,c] pos) (aO (fU (fQ p) (fQ q) ma mb mc)):=
 ⟨sH (Ih (oN h).1 (oN h').1 g.h i.h hc.h (Dm (oN (X:=X) h').2)) λe H Q h=>Dl gX gX e H _ (BZ e H Q h)⟩
noncomputable def tH(d:Bool):D->D->Hm->jk
 |.bl b,.bl c,μ=>b0 (.bl (if d then !(b==c)else b==c),μ)|.int _,.bl _,μ=>b0 (.bl d,μ)|_,_,_=>b3
noncomputable def eN(d:Bool):D->D->Hm->jk:=λx y e=>match y with
 |.bl _=>tH d x y e|_=>jD d x y e
noncomputable def xY(d:Bool):R2:=λx y H Q=>∃c,y=.bl c/\((∃b,x=.bl b/\Q (.bl (if d then !(b==c)else b==c)) H)\/((∃i,x=.int i)/\Q (.bl d) H))
theorem tI{K:U9}{g:Bool}:cS K (tH g) (xY g):=by
 intro j H o x y d l m n Q R h i e k;unfold tH at e;split at e
 .cases e;cases h;cases i;exact⟨_,rfl,.inl ⟨_,rfl,k j _ H .refl R (.bl _)⟩⟩
 .cases e;cases h;cases i;exact⟨_,rfl,.inr ⟨⟨_,rfl⟩,k j _ H .refl R (.bl _)⟩⟩
 .cases e
theorem Dp:OpR X (WB .Is) (xY b5):=by
 intro e s j H x y v u Q I d g h;obtain⟨c,rfl,h⟩:=h;cases g;rcases h with⟨b,rfl,q⟩|⟨⟨i,rfl⟩,q⟩
 .cases d;exact Vj (mB I q (by cases b<;>cases c<;>rfl))
 .obtain⟨t,rfl⟩:=d;exact Vj (mB I q rfl)
theorem Dq:OpR X (WB .IsNot) (xY dI):=by
 intro e s j H x y v u Q I d g h;obtain⟨c,rfl,h⟩:=h;cases g;rcases h with⟨b,rfl,q⟩|⟨⟨i,rfl⟩,q⟩
 .cases d;exact Vj (mB I q (by cases b<;>cases c<;>rfl))
 .obtain⟨t,rfl⟩:=d;exact Vj (mB I q rfl)
theorem tJ{d:Bool}(x y:D)(e:Hm)(r:D×Hm)(h:eN d x y e=b0 r):tH d x y e=b0 r\/jD d x y e=b0 r:=by
 unfold eN at h;split at h
 .exact .inl h
 .exact .inr h
theorem Nf(d:QE X a ma)(e:QE X b mb):QE X (.Compare a [.Is] [b] pos) (aC (eN b5) ma mb):=mL ⟨eV Dp tI d.h e.h (dD _)⟩ (Mm d e) (gF tJ)
theorem Ng(d:QE X a ma)(e:QE X b mb):QE X (.Compare a [.IsNot] [b] pos) (aC (eN dI) ma mb):=mL ⟨eV Dq tI d.h e.h (dD _)⟩ (Mn d e) (gF tJ)
theorem Nh(d:QE X a ma)(e:QE X b mb):QT X (.Compare a [.Is] [b] pos) (aO (aC (eN b5) ma mb)):=n6 ⟨eW Dp tI d.h e.h (dD _)⟩ (Mo d e) (n8 (gF tJ))
theorem Ni(d:QE X a ma)(e:QE X b mb):QT X (.Compare a [.IsNot] [b] pos) (aO (aC (eN dI) ma mb)):=n6 ⟨eW Dq tI d.h e.h (dD _)⟩ (Mp d e) (n8 (gF tJ))
end
noncomputable def kH:MF:=λds a=>match ds with
 |[x]=>(bJ a x).bind λd=>(n9 d).map λc=>(.int c.sum,a)|_=>b3
noncomputable def Dr(K:U9):gw->Hp->VK->Prop:=λxs H Q=>∃(p:Addr)(a:List Int),xs=[.ref p]/\(SqL K H p (a.map V.int)\/SqT K H p (a.map V.int))/\Q (.int a.sum) H
theorem Nj{K:U9}:dS K kH (Dr K):=by
 intro j H r n d h l Q R i a k;unfold kH at a;split at a
 .obtain⟨o,c,a⟩:=U7.mp a;obtain⟨g,e,a⟩:=Vd.mp a;cases a;cases i with
  |cons i t=>cases t;obtain⟨p,m,rfl,q,hd⟩:=nZ R i c;rw[xQ e]at hd;have:=ints_of' hd;subst this;exact⟨p,g,rfl,q,k j _ H .refl R (.int _)⟩
 .cases a
theorem Ds(a:List Int):∀n,n<=a.length->preSum (λi=>a.getD i 0) n=(a.take n).sum
 |0,_=>rfl|n+1,h=>by
  have c:=Ds a n (by lia);have e:a.take (n+1)=a.take n++[a[n]]:=by rw[YW,Vb (by lia)];rfl
  show preSum (λi=>a.getD i 0) n+a.getD n 0=_;rw[c,e,List.sum_append];simp[Wt,Vb (show n<a.length by lia)]
section
variable{X:Cx}
theorem Dt{a5N:jw}{σ:St}{H:Hp}{s d c:Ve}{l:List Addr}(I:Inv X a5N σ H s)(m:Moved l (λa b=>b=a) d c)(n:∀b o,s.heap.get? b=b0 o->d.heap.get? b=b0 o)(hw:∀b∈l,s.heap.objs.size<=b)(g:d.gens=s.gens/\d.drawn=s.drawn/\d.os=s.os):Inv X a5N σ H c:=by have k:∀b o,s.heap.get? b=b0 o->c.heap.get? b=b0 o:=λb o e=>m.heap b o (λz=>absurd (VX (Vn e) (hw b z)) (W3 _)) (n b o e);have h:c.gens=s.gens:=m.gens.trans g.1;have i:c.drawn=s.drawn:=m.drawn.trans g.2.1;have j:c.os=s.os:=m.os.trans g.2.2;obtain⟨u,r,q,p,v⟩:=c;dsimp only at h i j k;subst h i j;exact I.kept (t':=p) k
theorem Du{c:List Int}{a:gq}(r:Vals (c.map V.int) a){i:Nat}{v:Value}(h:a.toArray[i]?=b0 v):∃t,v=.int (c.getD i 0) t:=by
 have d:a[i]?=b0 v:=by simpa using h
 have g:i<c.length:=by have:=(Vc.mp d).1;have:=r.length;rw[U8]at this;lia
 obtain⟨u,e,j⟩:=r.get (i:=i) (x:=.int c[i]) (by rw[Vx,Vb g];rfl);rw[d]at e;cases e;obtain⟨t,rfl⟩:=j;exact⟨t,by simp[Wt,g]⟩
theorem Nk(hc:X.calm=dI):CallR X (.builtin "sum") (Dr X.K):=by
 intro B s N H M L Q I r h;obtain⟨p,d,rfl,w,q⟩:=h;obtain⟨u,rfl,G⟩:=i5 r;cases G;have A:X.A.in1.handled=none:=I.ok.hd hc;have fin:∀a:gq,Vals (d.map V.int) a->preSum (λi=>d.getD i 0) a.toArray.size=d.sum:=λa l=>by
  have n:a.toArray.size=d.length:=by rw[Vi,<- l.length,U8]
  rw[n,Ds d _ (Vk _),Xk]
 rcases w with w|w
 .obtain⟨a,l,g,E⟩:=I.list w;refine a4F (ZU g.isList ?_);have j:p≠s.heap.objs.size:=by obtain⟨o,k,_⟩:=g.isList;exact VI (Vn k)
  refine⟨s.heap.objs.size,_,_,_,_,_,_,λi=>d.getD i 0,rfl,(a4T A _ p j a.toArray).toS,⟨⟨_,Vr _ rfl,rfl,rfl⟩,g.isList.push _⟩,?_,λi v y=>Du l y,λK z m=>?_⟩
  .intro b c;show b<(s.heap.push _).objs.size;rw[X1];obtain⟨o,k,_⟩:=g.isList;have x:=Vn k;simp only[Wf,Yy,or_false]at c;rcases c with rfl|rfl
   .exact Xn _
   .exact ZM x
  .refine⟨.int d.sum,H,Dt I m (λb o e=>Vg _ e) (λb c=>?_) ⟨rfl,rfl,rfl⟩,⟨z,?_⟩,q⟩
   .have e:b=s.heap.objs.size:=by simpa using c
    exact Z3 e.symm
   .rw[fin a l]
 .obtain⟨a,l,g,E⟩:=I.tuple w;refine a4F (Yn (show s.heap.IsTuple p a.toArray from g) ?_);have j:p≠s.heap.objs.size:=by obtain⟨o,k,_⟩:=g;exact VI (Vn k)
  refine⟨s.heap.objs.size,_,_,_,_,_,_,λi=>d.getD i 0,rfl,(a0O A _ p j a.toArray).toS,⟨⟨_,Vr _ rfl,rfl,rfl⟩,a0i g _⟩,?_,λi v y=>Du l y,λK z m=>?_⟩
  .intro b c;show b<(s.heap.push _).objs.size;rw[X1];obtain⟨o,k,_⟩:=g;have x:=Vn k;simp only[Wf,Yy,or_false]at c;rcases c with rfl|rfl
   .exact Xn _
   .exact ZM x
  .refine⟨.int d.sum,H,Dt I m (λb o e=>Vg _ e) (λb c=>?_) ⟨rfl,rfl,rfl⟩,⟨z,?_⟩,q⟩
   .have e:b=s.heap.objs.size:=by simpa using c
    exact Z3 e.symm
   .rw[fin a l]
end
noncomputable def xZ:MF:=λds a=>match ds with
 |[.int i,.int j]=>b0 (.int (if j<i then j else i),a)|_=>b3
noncomputable def yA:MF:=λds a=>match ds with
 |[.int i,.int j]=>b0 (.int (if j>i then j else i),a)|_=>b3
theorem Nl{K:U9}:dS K xZ (λxs H Q=>∃i j,xs=[.int i,.int j]/\Q (.int (if j<i then j else i)) H):=by
 intro h H m xs d g l Q R i a k;unfold xZ at a;split at a
 .cases a;cases i with
  |cons i t=>
   cases i;cases t with
   |cons c e=>cases c;cases e;exact⟨_,_,rfl,k h _ H .refl R (.int _)⟩
 .cases a
theorem Nm{K:U9}:dS K yA (λxs H Q=>∃i j,xs=[.int i,.int j]/\Q (.int (if j>i then j else i)) H):=by
 intro h H m xs d g l Q R i a k;unfold yA at a;split at a
 .cases a;cases i with
  |cons i t=>
   cases i;cases t with
   |cons c e=>cases c;cases e;exact⟨_,_,rfl,k h _ H .refl R (.int _)⟩
 .cases a
noncomputable def dX{c:Type}(xs:List c)(lo a st:Option Int):List c:=(a4o (Yi lo a st xs.length).1 (Yi lo a st xs.length).2.1 (Yi lo a st xs.length).2.2).filterMap (xs[·]?)
noncomputable def oO(a:ME)(lo d st:MO):ME:=λρ e=>(a ρ e).bind λp=>(lo ρ p.2).bind λq=>(d ρ q.2).bind λr=>(st ρ r.2).bind λt=>if t.1≠b0 0 then(eD t.2 p.1).bind λc=>if(dX c q.1 r.1 t.1).length<=Vp then b0 (.loc t.2.length,t.2++[.lst (dX c q.1 r.1 t.1)])else b3 else b3
theorem Nn{K:U9}{π:Nat->Addr}{n:Nat}{H:Hp}{vs:gw}{ds:List D}(h:IsDs K π n H vs ds)(lo a st:Option Int):IsDs K π n H (dX vs lo a st) (dX ds lo a st):=by
 unfold dX;rw[h.length];generalize a4o _ _ _=l;induction l with
 |nil=>exact .nil|cons i l c=>
  rw[XW,XW];cases a:ds[i]? with
  |none=>
   have:vs[i]?=none:=by rw[V0]at a ⊢;rw[h.length];exact a
   rw[this];exact c
  |some d=>obtain⟨v,e,g⟩:=h.get a;rw[e];exact .cons g c
theorem Np{vs:gw}{a:gq}(r:Vals vs a)(lo c st:Option Int):Vals (dX vs lo c st) (dX a lo c st):=by
 unfold dX;rw[r.length];generalize a4o _ _ _=l;induction l with
 |nil=>exact .nil|cons i l d=>
  rw[XW,XW];cases c:vs[i]? with
  |none=>
   have:a[i]?=none:=by rw[V0]at c ⊢;rw[<- r.length];exact c
   rw[this];exact d
  |some v=>obtain⟨u,e,g⟩:=r.get c;rw[e];exact .cons g d
section
variable{X:Cx}{e:Expr}{te:TE}{lo hi:Option Expr}{st:Expr}{tl th tt:TO}{pos p2:W9}
noncomputable def Nq(K:U9)(te:TE)(tl th tt:TO):TE:=λσ H Q=>te σ H λx d=>tl σ d λl g=>th σ g λu h=>tt σ h λt c=>t≠b0 0/\∃a xs,x=.ref a/\SqL K c a xs/\(dX xs l u t).length<=Vp/\∀p,c p=b3->Q (.ref p) (aK c p (.lst (dX xs l u t)))
open PyProof.Rows in
theorem Nr(N:PE X e te)(O:PO X lo tl)(T:PO X hi th)(R:PO X (b0 st) tt):PE X (.Subscript e (.Slice lo hi (b0 st) p2) pos) (Nq X.K te tl th tt):=by
 intro c s i H Q I h;refine a2j (aR (N c s i H _ I h) λv s1 ⟨x,y,E,r1,q1⟩=>?_);refine wpAny_Slice (aR (O c s1 i y _ E q1) λo s2 ⟨l,z,G,pl,q2⟩=>aR (T c s2 i z _ G q2) λw s3 ⟨u,A,K,pu,q3⟩=>aR (R c s3 i A _ K q3) λp d ⟨t,B,L,pt,q4⟩=>?_);obtain⟨M,a,xs,rfl,U,Y,q⟩:=q4;cases r1;have m:Inv X c i B {d with heap:=d.heap.push {cls:=.type "slice",data:=.fields #[o,w,p]}}:=L.kept (t':=d.toks) λb ob q=>Vg _ q;obtain⟨k,r,j,Z⟩:=m.list U;have n:=r.length;show VH (VF X.prog X.w) X.A (a0M e (.Slice lo hi (b0 st) p2) (.ref a) (.ref d.heap.objs.size)) (EP X c i Q) X.xe {d with heap:=d.heap.push {cls:=.type "slice",data:=.fields #[o,w,p]}};refine a5G (ops:=[.ref a,.ref d.heap.objs.size]) j.isList.typeIs a1i.lookup ?_ (by with_unfolding_all rfl);refine a2F j.isList (a1h ..) pl pu pt M ?_ (by rw[Vi]<;>lia);have g:a2P k.toArray l u t=(dX k l u t).toArray:=by unfold a2P dX;simp
 rw[g];refine⟨.ref _,_,m.laid (t':=d.toks) (o:=.lst (dX xs l u t)) (λb ob q=>Vg _ q) (Vk _) ?_,rfl,q _ (m.hok.fresh (Vk _))⟩;exact⟨Y,_,0,Np r l u t,Vr _ rfl⟩
theorem Nt{A:ME}{G B I:MO}(he:QE X e A)(hl:QO X lo G)(hu:QO X hi B)(ht:QO X (b0 st) I):QE X (.Subscript e (.Slice lo hi (b0 st) p2) pos) (oO A G B I):=⟨cZ (Nr he.h hl.h hu.h ht.h) (by
 rintro σ H Q ⟨π,n,μ,d,μ',R,E,a,k⟩;obtain⟨⟨x,g⟩,U,a⟩:=U7.mp a;obtain⟨⟨l,h⟩,Y,a⟩:=U7.mp a;obtain⟨⟨u,i⟩,Z,a⟩:=U7.mp a;obtain⟨⟨t,r⟩,h4,a⟩:=U7.mp a;refine⟨π,n,μ,x,g,R,E,U,λs v1 H1 j L i1=>⟨s,n,g,l,h,L,E.mono j,Y,λv H2 m R2=>⟨v,n,h,u,i,R2,(E.mono j).mono m,Z,λw H3 o M=>⟨w,n,i,t,r,M,((E.mono j).mono m).mono o,h4,λπ4 H4 z y=>?_⟩⟩⟩⟩;split at a
 .rename_i T;obtain⟨xs,h5,a⟩:=U7.mp a;split at a
  .rename_i hz;cases a;obtain⟨p,K,rfl,q,hd⟩:=oF y (((i1.mono m).mono o).mono z) h5;have c:=Nn hd l u t;refine⟨T,p,K,rfl,q,by rw[c.length];exact hz,λp' hp=>?_⟩;obtain⟨O,N,_⟩:=y.alloc (c:=.lst (dX xs l u t)) (o:=.lst (dX K l u t)) hp c;exact k _ _ _ ((((j.trans m).trans o).trans z).trans O) N mF
  .cases a
 .cases a)⟩
end
section
variable{X:Cx}{a5N:jw}{σ:St}{H:Hp}{s:Ve}{h':WA}
theorem yB{t':Nat}{ch:List Addr}{a:Addr}{o:HO}(I:Inv X a5N σ H s)(k:∀b u,b∉ch->s.heap.get? b=b0 u->h'.get? b=b0 u)(i:∀b∈ch,fZ X a5N H b)(j:s.heap.objs.size<=a)
  (new:ObjOk X.prog X.w (aK H a o) h' a o):Inv X a5N σ (aK H a o) {s with heap:=h',toks:=t'}:=by
 have d:=I.hok.fresh j;have g:∀b u,H b=b0 u->b∉ch:=λb u e z=>by have:=(i b z).1;rw[e]at this;cases this
 refine I.step (g':=s.gens) (d':=s.drawn) (ch:=ch) (λb h=>let⟨L,x,M,y,A,B⟩:=i b h;⟨y,x,A,B⟩) (λb o _ _ hc e _=>k b o hc e) (λb o _ _ hc e _=>⟨o.slots,k b o hc e⟩) (λb K hc e n=>?_)
  (λb o hc e=>⟨o,k b o hc e⟩) (λb l q=>?_) (λb K l q=>?_) (λb N q=>?_) (λm E=>?_) (λb u e=>?_) I.bare
 .rw[a8 (VI (VX (Vn e) j))];exact n
 .rw[a8 (gO q d)];exact q
 .rw[a8 (gO q d)];exact q
 .exact⟨#[],by rw[a8 (gO q d),q];simp⟩
 .obtain⟨o,w,p,G,r⟩:=E;exact⟨o,w,p,k _ o (λz=>(i _ z).2.1 rfl) G,r⟩
 .by_cases h:b=a
  .subst h;rw[cH]at e;cases e;exact new
  .rw[a8 h]at e;refine(I.hok b u e).stay (λc v hc q=>k c v ?_ q) (λc q=>by rw[a8 (gO q d)];exact q) λc l q=>by rw[a8 (gO q d)];exact q
   rcases hc with z|z
   .rw[z];exact g b u e
   .exact g c _ z
theorem Dv{t':Nat}{ch:List Addr}(I:Inv X a5N σ H s)(k:∀b u,b∉ch->s.heap.get? b=b0 u->h'.get? b=b0 u)(d:∀b∈ch,fZ X a5N H b):Inv X a5N σ H {s with heap:=h',toks:=t'}:=by
 have a:∀b u,H b=b0 u->b∉ch:=λb u e z=>by have:=(d b z).1;rw[e]at this;cases this
 refine I.step (g':=s.gens) (d':=s.drawn) (ch:=ch) (λb x=>let⟨E,j,G,l,p,w⟩:=d b x;⟨l,j,p,w⟩) (λb o _ _ hc e _=>k b o hc e) (λb o _ _ hc e _=>⟨o.slots,k b o hc e⟩) (λb B hc e n=>n)
  (λb o hc e=>⟨o,k b o hc e⟩) (λb g q=>q) (λb B g q=>q) (λb K q=>⟨#[],by rw[q];simp⟩) (λm y=>?_) (λb u e=>?_) I.bare
 .obtain⟨o,i,h,A,r⟩:=y;exact⟨o,i,h,k _ o (λz=>(d _ z).2.1 rfl) A,r⟩
 .refine(I.hok b u e).stay (λc v hc q=>k c v ?_ q) (λc q=>q) λc g q=>q;rcases hc with z|z
  .rw[z];exact a b u e
  .exact a c _ z
end
noncomputable def yC(K:U9)(a:Addr):It:=
 ⟨λi H=>∃c x,SqL K H a c/\c[i]?=b0 x,λi H x d=>∃p v,x=.ref p/\H p=b3/\d=aK H p (.tup [.int i,v])/\∀c,SqL K H a c->c[i]?=b0 v,λi H=>∃c,SqL K H a c/\c.length<=i⟩
theorem Nu{P:VE}{w:VW}{K:U9}{es:List Expr}{kx:Nat}{pt:W9}(a e m:Addr)(r:e≠m) :
  Turn Qc P w K (.Tuple es kx pt) (yC K a) [e,m] e (λi h=>∃l,IsEnum h e m i l/\h.IsListIter m a i) where
 mem:=by simp
 obj:=λi h ⟨l,st,j⟩ b n=>by
  have g:b=e\/b=m:=by simpa using n
  rcases g with rfl|rfl
  .exact⟨_,st,λv z=>by
    have z':Wn _=ZS v:=z;cases z'⟩
  .obtain⟨o,L,c,d⟩:=j;exact⟨o,L,λv z=>by rw[d]at z;cases z⟩
 keep:=λi h h' ⟨l,st,j⟩ k=>⟨l,k e (by simp) _ st,j.at λo L=>k m (by simp) o L⟩;item:=by
  intro X O hw N hc i G s σ H E I A ⟨l,st,j⟩ T;subst O hw N;obtain⟨xs,x,B,hx⟩:=T;obtain⟨its,rv,p,hz⟩:=I.list B;obtain⟨u,hu,ru⟩:=rv.get hx;refine wpAny_pyNext_enum_item st j p.isList (x:=u) (by simpa using hu) r λh1 ho hit ht hsz hk=>⟨_,rfl,wpAny_letOwnedTupleGo_enum ho λh2 Q q=>?_⟩;have y:e<s.heap.objs.size:=Vn st;have U:s.heap.objs.size≠e:=Xj y;have Z:h2.get? s.heap.objs.size=b0 {cls:=.type "tuple",data:=.seq #[.int i s.toks,u]}:=(q.2 _ U).trans ht;have R:H s.heap.objs.size=none:=I.hok.fresh (Vk _);refine⟨.ref s.heap.objs.size,aK H s.heap.objs.size (.tup [.int i,x]),?_,rfl,⟨s.heap.objs.size,x,rfl,R,rfl,λys hy=>by rw[I.list_inj hy B];exact hx⟩,⟨u,Q,hit.extBut q.extBut (WM r)⟩,λb n=>?_⟩
  .refine yB (s:=s) (h':=h2) (t':=s.toks+1) (ch:=[e,m]) I (λb ob n M=>?_) A (Vk _) ?_
   .have g:b≠e/\b≠m:=by simpa using n
    exact(q.2 b g.1).trans (hk b ob g.1 g.2 M)
   .exact⟨by show(2:Nat)<=Vp;decide,[.int i s.toks,u],.cons ⟨_,rfl⟩ (.cons ru .nil),_,Z,rfl,0,rfl,rfl⟩
  .have g:b=e\/b=m:=by simpa using n
   have hn:=(A b n).1;obtain⟨o,Y,_⟩:=j;rw[a8]
   .exact hn
   .rcases g with rfl|rfl
    .exact VI y
    .exact VI (Vn Y)
 done:=by
  intro X O hw N hc i G s σ H E I A ⟨l,st,j⟩ T;subst O hw N;obtain⟨xs,B,hx⟩:=T;obtain⟨its,rv,p,hz⟩:=I.list B;have hl:=rv.length;refine wpAny_pyNext_enum_end (I.ok.hd hc) st j p.isList (by simp;lia) λh' M=>⟨rfl,Dv (t':=s.toks) (ch:=[e,m]) I (λb o n z=>M b o ?_ z) A⟩;have g:b≠e/\b≠m:=by simpa using n
  exact g.2
 self:=λ_ _ _ _ _ ⟨l,st,_⟩ h=>a4B st h
structure QJT(X:Cx)(e:Expr)(m:MI):Prop where
 h:∀es k p,PI X (.Tuple es k p) e (tMI X.K m)
theorem QJ.t{X:Cx}{e:Expr}{m:MI}(h:QJ X e m):QJT X e m:=⟨λes k p=>h.h _⟩
noncomputable def qF(x:D):eM:=λa i=>(bJ a x).map λxs=>(xs[i]?).map λd=>.tup [.int i,d]
noncomputable def mS(ms:MA):MI:=λρ c=>(ms ρ c).bind λp=>match p.1 with
 |[x]=>(eD p.2 x).map λa=>(qF x,a.length+1,p.2)|_=>b3
theorem Nv{K:U9}{π:Nat->Addr}{r:Hm}{H:Hp}{v:V}{x:D}{xs:List D}(R:Rp K π H r)(h:IsD K π r.length H v x)(u:eD r x=b0 xs):∃a,v=.ref a/\(∃vs,SqL K H a vs)/\Wk K (yC K a) (qF x) π r.length H:=by
 have hw:bJ r x=b0 xs:=by
  cases x with
  |rol k=>exact u|loc b=>exact u|_=>cases u
 obtain⟨p,vs,rfl,T,_⟩:=oF R h u;refine⟨p,rfl,⟨vs,T⟩,?_⟩
  -- the list as it stands j
 have j:∀g c l,Ext π r.length H g c.length l->Rp K g l c->∀k,bJ c x=b0 k->∃m,SqL K l p m/\IsDs K g c.length l m k:=λg c l e n k I=>by
  have X:=h.mono e;have O:eD c x=b0 k:=by
   cases x with
   |rol zs=>exact I|loc b=>exact I|_=>cases u
  obtain⟨p',m,L,o,s⟩:=oF n X O;cases L;exact⟨m,o,s⟩
 refine⟨λg c l i e n z=>?_,λg c l i d e n z=>?_⟩
 .obtain⟨k,A,w⟩:=Vd.mp z;obtain⟨m,o,s⟩:=j g c l e n k A;have B:k[i]?=none:=by
   cases q:k[i]? with
   |none=>rfl|some d=>rw[q]at w;cases w
  exact⟨m,o,by rw[s.length];exact V0.mp B⟩
 .obtain⟨k,A,w⟩:=Vd.mp z;obtain⟨Z,B,M⟩:=Vd.mp w;subst M;obtain⟨m,o,s⟩:=j g c l e n k A;obtain⟨v,G,N⟩:=s.get B;refine⟨⟨m,v,o,G⟩,?_⟩;rintro y Y ⟨t,v',rfl,Q,rfl,U⟩;have:=U m o;rw[G]at this;cases this;obtain⟨E,R2⟩:=n.fresh (o:=.tup [.int i,v]) Q;exact⟨E,R2,.tup (.of cH) (.cons (.int _) (.cons (N.mono E) .nil))⟩
noncomputable def Nw(K:U9)(d:TA):TI:=λσ H R=>d σ H λvs c=>∃a,vs=[.ref a]/\(∃xs,SqL K c a xs)/\R (yC K a) c
open PyProof.Rows in
theorem Nx{X:Cx}{a:Expr}{k:TA}{p pos pt:W9}{es:List Expr}{G:Nat}(w:Gl X "enumerate") (y:X.mg "enumerate"=b3) (r:PA X [a] k)(A:V7 [a] X.env=[(b5,eval a X.env)]):PI X (.Tuple es G pt) (.Call (.Name "enumerate" p) [a] [] pos) (Nw X.K k):=by
 intro e s l H R I h;refine a5M (i0 I w y Boot.«enumerate» (callWith_type1 (aR (r pos e s l H _ I h) λT c ⟨U,i,d,M,L⟩=>?_) A rfl));obtain⟨n,rfl,⟨Y,z⟩,q⟩:=L;obtain⟨u,rfl,N⟩:=i5 M;cases N;obtain⟨E,Q,K,O⟩:=d.list z;refine call_enumerate_list K.isList λo j hit B x=>?_;refine a4B j ?_;have m:Inv X e l i {c with heap:=o}:=d.kept (t':=c.toks) x;refine⟨c.heap.objs.size+1,[c.heap.objs.size+1,c.heap.objs.size],_,_,i,rfl,m,Nu n _ _ (Nat.succ_ne_self _),⟨_,j,hit⟩,λb v=>?_,q⟩;have g:b=c.heap.objs.size+1\/b=c.heap.objs.size:=by simpa using v
 rcases g with rfl|rfl
 .exact d.fpOk (a0j _) (d.hok.fresh (a0j _))
 .exact d.fpOk (Vk _) (d.hok.fresh (Vk _))
theorem Ny{X:Cx}{a:Expr}{ms:MA}{n:Nat}{p pos:W9}(d:Gl X "enumerate") (e:X.mg "enumerate"=b3) (l:QA X [a] ms n):QJT X (.Call (.Name "enumerate" p) [a] [] pos) (mS ms):=⟨λes M pt a5N s σ H R I hw=>by
 have m:=l.s;rw[Wg,Vl]at m;obtain⟨K,L,B,z,N,G,q,E,c,k⟩:=hw;obtain⟨⟨x,h⟩,v,c⟩:=U7.mp c;refine Nx d e l.h (fS m.1) a5N s σ H R I ⟨K,L,B,x,h,q,E,v,λi O o u j g=>?_⟩;dsimp only at c;split at c
 .rename_i x;obtain⟨Q,w,c⟩:=Vd.mp c;cases c;cases g with
  |cons g A=>cases A;obtain⟨r,rfl,y,W⟩:=Nv j g w;exact⟨r,rfl,y,k i o _ u j W⟩
 .cases c⟩
section
variable{X:Cx}{pos:W9}
theorem yD{tg iter:Expr}{x:MI}{g:MG}{w:MS}{body:List Stmt}(K:PI X tg iter (tMI X.K x))(I:QG X tg g)(G:QB X body w)(L:a1I (VF X.prog X.w) X.A X.env X.xe)(hc:X.calm=dI)(M:fH iter=dI) :
  QS X (.For tg iter body [] pos) (cC x g w):=⟨iF (HU L hc K I.h G.h (by intro z;cases iter<;>first|rfl|cases M)) (by
 rintro E U H ⟨Q,T,O,v,s,q,R,u,o,k⟩;obtain⟨⟨p,n,m⟩,B,o⟩:=U7.mp o;refine⟨Q,T,O,p,n,m,R,u,B,λr y J j A W=>?_⟩;have N:mE X.K E r m.length y v s q:=by
  cases v with
  |nx=>exact λa c h l i e=>k a c h (j.trans l) i e|bk=>exact λa c h l i e=>k a c h (j.trans l) i e|ct=>exact λa c h l i e=>k a c h (j.trans l) i e|rt d=>exact KC.after k j
 exact KH W N .refl A (u.mono j) o)⟩
theorem Nz{st:Stmt}{m g i:MS}(h1:QS X st g)(l:QS X st i)(h:∀ρ a r,m ρ a=b0 r->g ρ a=b0 r\/i ρ a=b0 r):QS X st m:=⟨λa5N s σ H D I q=>by
 obtain⟨j,ρ,a,e,d,c,R,E,n,k⟩:=q;rcases h ρ a _ n with z|z
 .exact h1.h a5N s σ H D I ⟨j,ρ,a,e,d,c,R,E,z,k⟩
 .exact l.h a5N s σ H D I ⟨j,ρ,a,e,d,c,R,E,z,k⟩⟩
noncomputable def mT(put:D->D->D->Hm->Option Hm)(o i v:ME):MS:=λρ a=>(v ρ a).bind λp=>(o ρ p.2).bind λq=>(i ρ q.2).bind λr=>(put q.1 r.1 p.1 r.2).map λμ'=>(.nx,ρ,μ')
noncomputable def oP:D->D->D->Hm->Option Hm
 |.loc a,.int i,d,μ=>match μ[a]? with
  |some (.lst xs)=>(i7 xs.length i).map λj=>μ.set a (.lst (xs.set j d))|_=>b3
 |_,_,_,_=>b3
noncomputable def qG:D->D->D->Hm->Option Hm
 |.loc a,y,d,μ=>match μ[a]? with
  |some (.dT kvs)=>(cQ y).bind λk=>if kvs.length<Vp then b0 (μ.set a (.dT (dW kvs k d)))else b3|_=>b3
 |_,_,_,_=>b3
noncomputable def oQ:D->D->D->Hm->Option Hm:=λo i d c=>match o with
 |.loc a=>match c[a]? with
  |some (.dT _)=>qG o i d c|_=>oP o i d c
 |_=>b3
noncomputable def mU:=mT oQ
theorem Dw{K:U9}{π:Nat->Addr}{n:Nat}{H:Hp}:∀{vs:gw}{ds:List D}(j:Nat){v:V}{d:D},IsDs K π n H vs ds->IsD K π n H v d->IsDs K π n H (vs.set j v) (ds.set j d)
 |_,_,j,_,_,.nil,h=>by simp;exact .nil
 |_,_,0,_,_,.cons _ t,h=>.cons h t|_,_,j+1,_,_,.cons h0 t,h=>.cons h0 (Dw j t h)
noncomputable def NA(g ty tv:TE):TS:=λD σ H=>tv σ H λv a=>g σ a λx c=>ty σ c λy d=>wI x y v d λe=>D.nx σ e
open PyProof.Rows in
theorem NB{o i a:Expr}{d:W9}{g ty tv:TE}(A:PE X o g)(z:PE X i ty)(E:PE X a tv)(B:Zj a (b0 (.Subscript o i d)) pos.line X.env=pure b5):PS X (.Assign [.Subscript o i d] a pos) (NA g ty tv):=by intro c s e H D I h;refine a3f (aR (E c s e H _ I h) λr T ⟨v,j,n,O,K⟩=>aR (A c T e j _ n K) λu U ⟨x,k,p,Q,L⟩=>aR (z c U e k _ p L) λG Y ⟨y,l,q,R,M⟩=>?_) B;exact aR (Jc c Y e l x y v u G r _ q Q R O M) λ_ Z ⟨m,w,N⟩=>⟨e,m,w,N⟩
theorem NC{K:U9}{π:Nat->Addr}{H:Hp}{c μ':Hm}{o i v:V}{y z x:D}(R:Rp K π H c)(w:IsD K π c.length H o y)(A:IsD K π c.length H i z)(u:IsD K π c.length H v x)(h:oP y z x c=b0 μ'){Q:Hp->Prop}(k:∀d,Ext π c.length H π μ'.length d->Rp K π d μ'->Q d):wI o i v H Q:=by
 cases y with
 |loc a=>
  cases z with
  |int i=>
   simp only[oP]at h;split at h
   .rename_i n m;obtain⟨j,r,s⟩:=Vd.mp h;subst s;obtain⟨e,g,l⟩:=R.lst _ n m;cases w;cases A;obtain⟨q,p⟩:=R.put (c:=.lst (n.set j x)) (o:=.lst (e.set j v)) (Vc.mp m).1 g (.inl ⟨e,rfl⟩) (Dw j l u);exact⟨_,e,i,j,rfl,rfl,g,by rw[l.length];exact r,k _ q p⟩
   .cases h
  |_=>simp[oP]at h
 |_=>simp[oP]at h
theorem ND{o i e:Expr}{B A w:ME}{c:W9}(U:QE X o B)(T:QE X i A)(Q:QE X e w)(h:jC e=dI):QS X (.Assign [.Subscript o i c] e pos) (mT oP B A w):=
 ⟨iF (NB U.h T.h Q.h (sV h)) (by
 rintro E σ H ⟨π,u,μ,fl,ρ',μ',R,j,a,k⟩;obtain⟨⟨x,d⟩,L,a⟩:=U7.mp a;obtain⟨⟨y,g⟩,M,a⟩:=U7.mp a;obtain⟨⟨z,p⟩,N,a⟩:=U7.mp a;obtain⟨μ4,O,a⟩:=Vd.mp a;cases a;exact⟨π,u,μ,x,d,R,j,L,λq v1 H1 l G Y=>⟨q,u,d,y,g,G,j.mono l,M,λr v2 H2 m R2 Z=>⟨r,u,g,z,p,R2,(j.mono l).mono m,N,λs v3 H3 n I i3=>NC I (Z.mono n) i3 ((Y.mono m).mono n) O λH4 v K=>k s σ _ (((l.trans m).trans n).trans v) K ((((j.mono l).mono m).mono n).mono v)⟩⟩⟩)⟩
theorem NF{f j k:D->D->D->Hm->Option Hm}{i g e:ME}(h:∀x y z c r,f x y z c=b0 r->j x y z c=b0 r\/k x y z c=b0 r):∀ρ c r,mT f i g e ρ c=b0 r->mT j i g e ρ c=b0 r\/mT k i g e ρ c=b0 r:=by
 intro ρ c r a;obtain⟨p,l,a⟩:=U7.mp a;obtain⟨q,m,a⟩:=U7.mp a;obtain⟨t,n,a⟩:=U7.mp a;obtain⟨d,o,a⟩:=Vd.mp a;rcases h _ _ _ _ _ o with z|z
 .exact .inl (U7.mpr ⟨p,l,U7.mpr ⟨q,m,U7.mpr ⟨t,n,Vd.mpr ⟨d,z,a⟩⟩⟩⟩)
 .exact .inr (U7.mpr ⟨p,l,U7.mpr ⟨q,m,U7.mpr ⟨t,n,Vd.mpr ⟨d,z,a⟩⟩⟩⟩)
theorem Dx{st:Stmt}{i:Nat}:QS X st (aM i b7):=⟨λa5N s σ H D I q=>by
 obtain⟨h,j,g,e,d,c,R,E,a,k⟩:=q;cases a⟩
end
section
variable{X:Cx}
end
noncomputable def jG(a:Hm)(x:D):List D->Option (List Bool)
 |[]=>b0 []|y::r=>(dU 8 a y x).bind λb=>(jG a x r).map λc=>b::c
noncomputable def kI:D->List D->Hm->jk
 |.loc a,[x],μ=>match μ[a]? with
  |some (.lst xs)=>(jG μ x xs).bind λbs=>if bs.findIdx id<bs.length/\bs.length<=Vp then b0 (.int (bs.findIdx id:Nat),μ)else b3|_=>b3
 |_,_,_=>b3
noncomputable def Dy(K:U9):V->gw->Hp->VK->Prop:=λx vs H Q=>∃π c a xs y d bs,Rp K π H c/\x=.ref (π a)/\vs=[y]/\c[a]?=b0 (.lst xs)/\IsD K π c.length H y d/\jG c d xs=b0 bs/\bs.findIdx id<bs.length/\Q (.int (bs.findIdx id:Nat)) H
theorem NG{K:U9}:oB K kI (Dy K):=by
 intro c H o x ds d p v q Q R l j a k;unfold kI at a;split at a
 .split at a
  .rename_i n h;obtain⟨bs,e,a⟩:=U7.mp a;split at a
   .rename_i g;cases a;cases j with
    |cons i m=>cases m;cases l;exact⟨c,o,_,n,_,_,bs,R,rfl,rfl,h,i,e,g.1,k c _ H .refl R (.int _)⟩
   .cases a
  .cases a
 .cases a
section
variable{X:Cx}
theorem Dz{a5N:jw}{σ:St}{H:Hp}{s:Ve}{π:Nat->Addr}{i:Hm}(I:Inv X a5N σ H s)(R:Rp X.K π H i){A:VO}(U:A.units+8<W0){x:V}{v:Value}{m:D}(rx:RelV x v)(ix:IsD X.K π i.length H x m) :
  ∀{e:List D}{vs:gw}{us:gq}{bs:List Bool},IsDs X.K π i.length H vs e->Vals vs us->jG i m e=b0 bs->
   ∃g:Value->Bool,(∀u∈us,YG A s u v (g u))/\us.map g=bs:=by
 classical
 intro e vs us bs k l d
 have o:∀{e:List D}{vs:gw}{us:gq}{bs:List Bool},IsDs X.K π i.length H vs e->Vals vs us->jG i m e=b0 bs->(∀u∈us,∃c,YG A s u v c/\∃w n,RelV w u/\IsD X.K π i.length H w n/\dU 8 i n m=b0 c):=by
  intro e
  induction e with
  |nil=>
   intro vs us b k l d u a
   cases k
   cases l
   cases a
  |cons y e K=>
   intro vs us b k l d u a
   cases k with
   |cons h t=>
    cases l with
    |cons r rt=>
     obtain⟨c,B,d⟩:=U7.mp d
     obtain⟨O,E,d⟩:=Vd.mp d
     rcases Wf.mp a with rfl|a
     .exact⟨c,wX I R 8 U r rx h ix B,_,_,r,h,B⟩
     .exact K t rt E u a
 have p:=o k l d
 refine⟨λu=>if h:u∈us then Ys (p u h)else b5,λu a=>?_,?_⟩
 .simp only[dif_pos a]
  exact(YR (p u a)).1
 .have L:∀u (h:u∈us) w n c,RelV w u->IsD X.K π i.length H w n->dU 8 i n m=b0 c->Ys (p u h)=c:=by
   intro u h w n c M iw N
   obtain⟨_,w2,Q,r2,Z,T⟩:=YR (p u h)
   have:w2=w:=r2.inj M
   subst this
   have:=xJ I R Z iw
   subst this
   rw[T]at N
   exact Vs N
  have q:∀{e:List D}{vs:gw}{j:gq}{bs:List Bool},(∀u∈j,u∈us)->IsDs X.K π i.length H vs e->Vals vs j->jG i m e=b0 bs->j.map (λu=>if h:u∈us then Ys (p u h)else b5)=bs:=by
   intro e
   induction e with
   |nil=>
    intro vs j b G k l d
    cases k
    cases l
    cases d
    rfl
   |cons y e K=>
    intro vs j b G k l d
    cases k with
    |cons h t=>
     cases l with
     |@cons _ u _ us2 r rt=>
      obtain⟨c,B,d⟩:=U7.mp d
      obtain⟨O,E,d⟩:=Vd.mp d
      have eJ:u∈us:=G u (Wj ..)
      rw[VP,K (λz Y=>G z (VU _ Y)) t rt E,dif_pos eJ,L u eJ _ _ c r h B]
      exact d
  exact q (λ_ h=>h) k l d
theorem NH(hu:X.A.units+20<W0):pR X "list.index" (Dy X.K):=by
 intro G s σ H x vs v us Q I rx Z h
 obtain⟨π,μ,a,xs,y,dy,bs,R,rfl,rfl,O,U,N,w,q⟩:=h
 cases rx
 obtain⟨u,rfl,Y⟩:=Z.one
 obtain⟨ws,L,hd⟩:=R.lst a xs O
 obtain⟨z,c,n,r,hl,e⟩:=I.lstM L
 obtain⟨g,K,E⟩:=Dz I R (A:=X.A.in1) (by rw[gW];lia) Y U hd r N
 have k:bs.length=c.length:=by rw[<- E,U8]
 have A:bs.findIdx id<c.toArray.size:=by rw[Vi,<- k];exact w
 have d:∀m (p:m<c.length),bs[m]?=b0 (g c[m]):=λm p=>by
  rw[<- E,Vx,Vb p];rfl
 have small:((bs.findIdx id:Nat):Int)<2^63-1:=by
  have l:bs.findIdx id<c.length:=by simpa using A
  have i:=kS
  have j:(bs.findIdx id:Nat)<Vp:=by lia
  have o:((Vp:Nat):Int)<=2^63-1:=by decide
  lia
 refine a0X F.slot_list_index ⟨_,e,rfl⟩ F.entry_list_index (F.args_list_index_2 _ _) (SeqAt.list_indexAt (π a) c.toArray n b3 #[] u g (bs.findIdx id) A small ?_ ?_) ⟨e,λy T=>K y (by simpa using T),⟨.int (bs.findIdx id:Nat),H,I.tok _,⟨_,rfl⟩,q⟩⟩
 .have l:bs.findIdx id<c.length:=by simpa using A
  have i:=a2A (p:=id) (xs:=bs) (w:=w)
  have j:=d _ l
  rw[Vb w]at j
  have o:=Vs j
  rw[o]at i
  simpa using i
 .intro m p B
  have l:m<c.length:=by simpa using p
  have i:=a2b (p:=id) (xs:=bs) B
  have j:=d _ l
  have M:m<bs.length:=by lia
  rw[Vb M]at j
  have o:=Vs j
  rw[o]at i
  simpa using i
end
section
variable{X:Cx}{e o:Expr}{mo:ME}{apos cpos:W9}{es:List Expr}{ms:MA}{n:Nat}
end
section
variable{prog:VE}{w:VW}{A:VO}{E:Value->Ve->Prop}{s:Ve}{r:Addr}{Q:Bool->Ve->Prop}
end
section
variable{prog:VE}{w:VW}{A:VO}{E:Value->Ve->Prop}{s:Ve}{p a:Addr}{its:Array Value}
end
noncomputable def yE(lo c:Int)(n:Nat):It:=⟨λi _=>i<n,λi H x a=>a=H/\x=.int (lo+(i:Nat)*c),λi _=>n<=i⟩
theorem NI{P:VE}{w:VW}{K:U9}{tg:Expr}(a:Addr)(lo c:Int)(n:Nat):Turn Qc P w K tg (yE lo c n) [a] a (λi h=>Zw h a (lo+(i:Nat)*c) ((n:Int)-(i:Nat)) c) where
 mem:=by simp
 obj:=λi h st b d=>by
  have e:b=a:=by simpa using d
  subst e;exact⟨_,st,λv z=>by
   have T:Wn _=ZS v:=z;cases T⟩
 keep:=λi h l st k=>k a (by simp) _ st;item:=by intro X A hw y hc i g s L H E I m st B;subst A hw y;obtain⟨p,q,O,r,u,x⟩:=m a (by simp);have W:=a4G (prog:=X.prog) (w:=X.w) (I.ok.hd hc) a lo c n;refine W.item i s _ _ B st λv l G Q j R=>?_;obtain⟨t,rfl⟩:=Q;have M:Inv X g L H {s with heap:=l,toks:=G}:=I.turned (λb o d e=>R b o (by simpa using d) e) p q r u x;exact⟨_,rfl,nN (s:={s with heap:=l,toks:=G}) (n:="range_iterator") j rfl rfl (by decide) ⟨.int (lo+(i:Nat)*c),H,M,⟨t,rfl⟩,⟨rfl,rfl⟩,j,λb d=>(m b d).1⟩⟩
 done:=by intro X A hw y hc i g s L H E I m st B;subst A hw y;obtain⟨p,q,O,r,u,x⟩:=m a (by simp);exact a3c (I.ok.hd hc) st (by have:n<=i:=B;lia) λl N=>⟨rfl,I.turned (t':=s.toks) (λb o d e=>N b o d e) p q r u x⟩
 self:=λ_ _ _ _ _ st h=>a3e st h
noncomputable def tK(a b c:Int):Bool:=a5c a b c&&decide (c≠0)&&decide (c.natAbs<1073741824)&&decide (0<=Wv a b c)
noncomputable def NJ(e:TA):TI:=λσ H R=>e σ H λvs d=>∃a b c:Int,vs=[.int a,.int b,.int c]/\tK a b c=dI/\R (yE a c (Wv a b c).toNat) d
open PyProof.Rows in
theorem NK{X:Cx}{tg a b c:Expr}{E:TA}{p pos:W9}(Q:Gl X "range") (T:X.mg "range"=b3) (N:PA X [a,b,c] E)(Y:V7 [a,b,c] X.env=(b5,eval a X.env)::V7 [b,c] X.env)(y:(Yq pos (V7 [b,c] X.env)).any (·.1)=b5) :
  PI X tg (.Call (.Name "range" p) [a,b,c] [] pos) (NJ E):=by
 intro m s G H R I h;refine a5M (i0 I Q T a4u (Xc (aR (N pos m s G H _ I h) λus l ⟨vs,B,K,r1,Z⟩=>?_) Y y));obtain⟨i,j,k,e,g,q⟩:=Z;subst e;unfold tK at g;rw[Vl,Vl,Vl,decide_eq_true_eq,decide_eq_true_eq,decide_eq_true_eq]at g;obtain⟨⟨⟨z,w⟩,x⟩,U⟩:=g;cases r1 with
 |cons r n=>
  cases n with
  |cons r' n=>
   cases n with
   |cons A n=>
    cases n;obtain⟨t,rfl⟩:=r;obtain⟨u,rfl⟩:=r';obtain⟨d,rfl⟩:=A;refine call_range_3 w ?_ (.inl (PyProof.noPylong_small x));refine a4l (a4f ..) z ?_;have v:Inv X m G B {l with heap:=l.heap.push {cls:=.type "range",data:=.fields #[.int i t,.int j u,.int k d]},toks:=l.toks}:=K.kept λb o e=>Vg _ e;refine⟨(l.heap.push {cls:=.type "range",data:=.fields #[.int i t,.int j u,.int k d]}).objs.size,[(l.heap.push {cls:=.type "range",data:=.fields #[.int i t,.int j u,.int k d]}).objs.size],_,_,B,rfl,
     v.kept (t':=l.toks) λb o e=>Vg _ e,NI _ i k (Wv i j k).toNat,?_,λb O=>?_,q⟩
    .have L:i+((0:Nat):Int)*k=i:=by simp
     have M:(((Wv i j k).toNat:Nat):Int)-((0:Nat):Int)=Wv i j k:=by lia
     show Zw _ _ (i+((0:Nat):Int)*k) ((((Wv i j k).toNat:Nat):Int)-((0:Nat):Int)) k;rw[L,M];exact Vr _ rfl
    .have e:b=(l.heap.push {cls:=.type "range",data:=.fields #[.int i t,.int j u,.int k d]}).objs.size:=by simpa using O
     subst e;exact v.fpOk (Vk _) (v.hok.fresh (Vk _))
noncomputable def yF(lo c:Int)(n:Nat):eM:=λ_ i=>b0 (if i<n then b0 (.int (lo+(i:Nat)*c))else b3)
theorem NL{K:U9}{lo c:Int}{k:Nat}{π:Nat->Addr}{n:Nat}{H:Hp}:Wk K (yE lo c k) (yF lo c k) π n H:=by
 refine⟨λg o j i e R z=>?_,λg o j i d e R z=>?_⟩
 .have a:=Vs z;split at a
  .cases a
  .exact Zz.mp (by assumption)
 .have a:=Vs z;split at a
  .cases a;rename_i h;exact⟨h,λx p ⟨l,m⟩=>by subst l;rw[m];exact⟨.refl,R,.int _⟩⟩
  .cases a
noncomputable def oR(ms:MA):MI:=λρ a=>(ms ρ a).bind λp=>match p.1 with
 |[.int i,.int j,.int c]=>if tK i j c=dI then b0 (yF i c (Wv i j c).toNat,(Wv i j c).toNat+1,p.2)else b3|_=>b3
theorem NM{X:Cx}{a b c:Expr}{ms:MA}{n:Nat}{p pos:W9}(e:Gl X "range") (g:X.mg "range"=b3) (q:QA X [a,b,c] ms n):QJ X (.Call (.Name "range" p) [a,b,c] [] pos) (oR ms):=⟨λtg a5N s σ H R I hw=>by
 have h:=q.s;rw[Wg,Vl]at h;obtain⟨Q,T,N,G,U,O,v,E,d,k⟩:=hw;obtain⟨⟨x,m⟩,y,d⟩:=U7.mp d;refine NK e g q.h (fS h.1) (mJ h.2) a5N s σ H R I ⟨Q,T,N,x,m,v,E,y,λo Y r w u l=>?_⟩;dsimp only at d;split at d
 .rename_i i j c;split at d
  .rename_i z;cases d;cases l with
   |cons l K=>
    cases l;cases K with
    |cons A L=>
     cases A;cases L with
     |cons B M=>cases B;cases M;exact⟨i,j,c,rfl,z,k o r _ w u NL⟩
  .cases d
 .cases d⟩
noncomputable abbrev bO:=List (List Int×Addr×V)
noncomputable def bZ(ps:bO)(ws:gq):List (List Int×Addr×Value):=ZW (λp w=>(p.1,p.2.1,w)) ps ws
theorem tL{P:VE}{w:VW}:∀(ps:bO)(ws:gq),ZW sG ps ws=(bZ ps ws).map (entryOfKey (ZK (YF P w)))
 |[],_=>by simp[bZ]
 |p::ps,[]=>by simp[bZ]
 |p::ps,u::ws=>by have a:=tL (P:=P) (w:=w) ps ws;unfold bZ at a ⊢;rw[Wh,Wh,VP,a];rfl
theorem oS:∀{ps:bO}{ws:gq},Vals (ps.map (·.2.2)) ws->(bZ ps ws).map (·.1)=ps.map (·.1)
 |[],_,_=>by simp[bZ]
 |p::ps,_,.cons r t=>by have a:=oS (ps:=ps) t;unfold bZ at a ⊢;rw[Wh,VP,VP,a]
theorem DA:∀{ps:bO}{ws:gq}{x:List Int×Addr×Value},x∈bZ ps ws->∃p∈ps,p.1=x.1/\p.2.1=x.2.1
 |[],_,x,h=>by simp[bZ]at h
 |p::ps,[],x,h=>by simp[bZ]at h
 |p::ps,u::ws,x,h=>by
  unfold bZ at h;rw[Wh]at h;rcases Wf.mp h with e|h
  .subst e;exact⟨p,Wj ..,rfl,rfl⟩
  .obtain⟨q,a,e⟩:=DA (ps:=ps) (ws:=ws) h;exact⟨q,VU _ a,e⟩
noncomputable def eZ(ps:bO)(k:List Int):Option V:=(ps.find? λp=>decide (p.1=k)).map (·.2.2)
noncomputable def eE(ps:bO)(k:List Int)(b:Addr)(v:V):bO:=if(eZ ps k).isSome then ps.map (λp=>if p.1=k then(p.1,p.2.1,v)else p)else ps++[(k,b,v)]
theorem qH:∀{ps:bO}{ws:gq},Vals (ps.map (·.2.2)) ws->∀k,RelO (eZ ps k) ((a3S (bZ ps ws) k).map (·.2))
 |[],_,.nil,k=>by simp[eZ,bZ,a3S];exact Y5
 |p::ps,_,.cons r t,k=>by
  have a:=qH (ps:=ps) t k;unfold eZ a3S bZ at a ⊢;rw[Wh,Ze,Ze];by_cases e:p.1=k
  .simp only[e,decide_true];exact r
  .simp only[e,decide_false];exact a
theorem yG(ps:bO)(k:List Int)(b:Addr)(v:V):(eE ps k b v).length<=ps.length+1:=by unfold eE;split<;>simp
theorem DB{k:List Int}{v:V}{u:Value}(g:RelV v u):∀{ps:bO}{ws:gq},Vals (ps.map (·.2.2)) ws->
  ∃a,Vals ((ps.map λp=>if p.1=k then(p.1,p.2.1,v)else p).map (·.2.2)) a/\(bZ ps ws).map (putAt k u)=bZ (ps.map λp=>if p.1=k then(p.1,p.2.1,v)else p) a
 |[],_,.nil=>⟨[],.nil,by simp[bZ]⟩|p::ps,_,.cons (b:=w) r t=>by
  obtain⟨a,d,c⟩:=DB g (ps:=ps) t;by_cases e:p.1=k
  .refine⟨u::a,?_,?_⟩
   .rw[VP,VP,if_pos e];exact .cons g d
   .unfold bZ at c ⊢;rw[Wh,VP,c,VP,if_pos e,Wh];unfold putAt;rw[if_pos e]
  .refine⟨w::a,?_,?_⟩
   .rw[VP,VP,if_neg e];exact .cons r d
   .unfold bZ at c ⊢;rw[Wh,VP,c,VP,if_neg e,Wh];unfold putAt;rw[if_neg e]
theorem DC{k:List Int}{b:Addr}{v:V}{u:Value}:∀{ps:bO}{ws:gq},Vals (ps.map (·.2.2)) ws->bZ ps ws++[(k,b,u)]=bZ (ps++[(k,b,v)]) (ws++[u])
 |[],_,.nil=>by simp[bZ]
 |p::ps,_,.cons r t=>by have a:=DC (k:=k) (b:=b) (v:=v) (u:=u) (ps:=ps) t;unfold bZ at a ⊢;rw[Wh,Wm,a,Wm,Wm,Wh]
theorem DD{ps:bO}{ws:gq}(r:Vals (ps.map (·.2.2)) ws)(k:List Int)(b:Addr){v:V}{u:Value}(c:RelV v u) :
  ∃a,Vals ((eE ps k b v).map (·.2.2)) a/\storedH (bZ ps ws) k b u=bZ (eE ps k b v) a:=by
 have e:=(qH r k).isSome_eq;rw[Zy]at e;unfold eE storedH;rw[e];by_cases h:(a3S (bZ ps ws) k).isSome=dI
 .rw[if_pos h,if_pos h];exact DB c r
 .rw[if_neg h,if_neg h];refine⟨ws++[u],?_,DC r⟩;rw[VZ];exact a4v r c
section
variable{X:Cx}{a5N:jw}{σ:St}{H:Hp}{s:Ve}{a:Addr}{ps:bO}
noncomputable def dY(K:U9)(H:Hp)(ps:bO):Prop:=∀p∈ps,SqT K H p.2.1 (p.1.map V.int)
theorem k8(I:Inv X a5N σ H s)(e:Rd H a (aS a ps))(q:dY X.K H ps):(a==Xo)=b5/\ps.length<=Vp /\
  ∃c,Vals (ps.map (·.2.2)) c/\s.heap.DictOfH (ZK (YF X.prog X.w)) a (bZ ps c):=by
 obtain⟨⟨c,r,w,u,o,i,h,j,k,l,m,n⟩,_⟩:=(show ObjOk X.prog X.w H s.heap a (aS a ps)from e.ok I.hok);refine⟨w,u,c,r,o,i,h,j,k,l,by rw[m];exact tL ps c,λx y=>?_,by rw[oS r];exact n⟩;obtain⟨p,v,d,g⟩:=DA y;rw[<- d,<- g];exact k7 I (q p v)
theorem yH{P:VE}{w:VW}{n:Hp}{h':WA}{ws:gq}(m:(a==Xo)=b5)(l:ps.length<=Vp)(r:Vals (ps.map (·.2.2)) ws)(d:h'.DictOfH (ZK (YF P w)) a (bZ ps ws)):ObjOk P w n h' a (aS a ps):=by obtain⟨o,g,e,c,h,i,j,_,k⟩:=d;refine⟨⟨ws,r,m,l,o,g,e,c,h,i,by rw[j,tL (P:=P) (w:=w)],by rw[<- oS r];exact k⟩,⟨o,c⟩,?_⟩;rintro q u ⟨ws,r,m,l,o,g,e,c,h,i,j,k⟩ p;exact⟨ws,r,m,l,o,g,e,p o c,h,i,j,k⟩
theorem NN(I:Inv X a5N σ H s)(e:Rd H a (aS a ps))(c:dY X.K H ps):s.TypeIs (.ref a) "dict":=by obtain⟨_,_,g,_,d⟩:=k8 I e c;exact d.typeIs
theorem tP{A:VO}(c:A.units+1<W0):(ZK (YF X.prog X.w)).room A.in1:=by show A.in1.units<W0;rw[gW];lia
variable{A:VO}{E:Value->Ve->Prop}{b:Addr}{k:List Int}{v:V}
theorem NO{Q:Value->Ve->Prop}(o:A.units+1<W0)(I:Inv X a5N σ H s)(e:Rd H a (aS a ps))(m:dY X.K H ps)(l:SqT X.K H b (k.map V.int))(q:eZ ps k=b0 v)
  (h:∀c j,Inv X a5N σ H j->RelV v c->Q c j):VH (VF X.prog X.w) A (a1Z (.ref a) (.ref b)) Q E s:=by
 obtain⟨x,w,u,r,d⟩:=k8 I e m;obtain⟨c,hw,i⟩:=RelO.some_of (v:=v) (o:=(a3S (bZ ps u) k).map (·.2)) (by rw[<- q];exact qH r k);obtain⟨p,n,g⟩:=Vd.mp hw;refine wpAny_getItem_heap (tP o) (k7 I l) d n ?_;rw[g];exact h c _ (I.tok _) i
theorem NP{Q:Value->Ve->Prop}(l:A.units+1<W0)(I:Inv X a5N σ H s)(e:Rd H a (aS a ps))(i:dY X.K H ps)(g:SqT X.K H b (k.map V.int))
  (h:∀c,Inv X a5N σ H c->Q (.bool (eZ ps k).isSome) c):VH (VF X.prog X.w) A (WB .In (.ref b) (.ref a)) Q E s:=by
 obtain⟨j,m,n,r,d⟩:=k8 I e i;refine wpAny_in_heap (tP l) (k7 I g) j d ?_;have q:=(qH r k).isSome_eq;rw[Zy]at q;rw[<- q];exact h _ (I.tok _)
theorem NQ{Q:Value->Ve->Prop}(l:A.units+1<W0)(I:Inv X a5N σ H s)(e:Rd H a (aS a ps))(i:dY X.K H ps)(g:SqT X.K H b (k.map V.int))
  (h:∀c,Inv X a5N σ H c->Q (.bool (!(eZ ps k).isSome)) c):VH (VF X.prog X.w) A (WB .NotIn (.ref b) (.ref a)) Q E s:=by
 obtain⟨j,m,n,r,d⟩:=k8 I e i;refine a5k (tP l) (k7 I g) j d ?_;have q:=(qH r k).isSome_eq;rw[Zy]at q;rw[<- q];exact h _ (I.tok _)
theorem NR{Q:Unit->Ve->Prop}{u:Value}(x:A.units+1<W0)(I:Inv X a5N σ H s)(e:H a=b0 (aS a ps))(o:dY X.K H ps)(m:SqT X.K H b (k.map V.int))(hz:ps.length<Vp)(B:RelV v u)
  (h:∀i,Inv X a5N σ (aK H a (aS a (eE ps k b v))) i->Q () i):VH (VF X.prog X.w) A (setItem (.ref a) (.ref b) u) Q E s:=by
 obtain⟨w,L,G,r,d⟩:=k8 I (.of e) o;have y:(bZ ps G).length<=Vp:=by have:=congrArg WI (oS r);rw[U8,U8]at this;lia
 refine wpAny_setItem_heap (hsz:=y) (tP x) (k7 I m) d λl c g=>h _ ?_;obtain⟨K,z,j⟩:=DD r k b B;rw[j]at c;have n:∃q,l.get? a=b0 q:=let⟨q,_,_,p,_⟩:=c;⟨q,p⟩;exact Bx I (by rw[e];exact Y5) g n (yH w (by have:=yG ps k b v;lia) z c)
end
noncomputable def IsTs(K:U9)(π:Nat->Addr)(n:Nat)(H:Hp):bO->jx->Prop:=Zo λp q=>p.1=q.1/\SqT K H p.2.1 (p.1.map V.int)/\IsD K π n H p.2.2 q.2
section
variable{K:U9}{π:Nat->Addr}{n:Nat}{H:Hp}{μ:Hm}
theorem NS{b:Addr}{k:List Int}(h:IsD K π n H (.ref b) (.tup (k.map D.int))):SqT K H b (k.map V.int):=by
 cases h with
 |tup q t=>rw[ints_of' t]at q;exact q
theorem IsTs.of:∀{ps:bO}{kvs:jx},ps.map (·.1)=kvs.map (·.1)->IsDs K π n H (ps.map λp=>V.ref p.2.1) (kvs.map λk=>D.tup (k.1.map D.int))->IsDs K π n H (ps.map (·.2.2)) (kvs.map (·.2))->IsTs K π n H ps kvs
 |[],[],_,_,_=>.nil|[],_::_,h,_,_=>by cases h
 |_::_,[],h,_,_=>by cases h
 |p::ps,q::kvs,h,h2,h3=>by
  cases h2 with
  |cons a c=>
   cases h3 with
   |cons d e=>rw[VP,VP,a2B]at h;refine .cons ⟨h.1,?_,d⟩ (IsTs.of h.2 c e);rw[h.1];exact NS a
theorem IsTs.keys:∀{ps:bO}{kvs:jx},IsTs K π n H ps kvs->dY K H ps
 |_,_,.nil=>λp a=>nomatch a|_,_,.cons h t=>λp a=>by
  rcases Wf.mp a with e|a
  .subst e;exact h.2.1
  .exact IsTs.keys t p a
theorem IsTs.to:∀{ps:bO}{kvs:jx},IsTs K π n H ps kvs->ps.map (·.1)=kvs.map (·.1)/\IsDs K π n H (ps.map λp=>V.ref p.2.1) (kvs.map λk=>D.tup (k.1.map D.int))/\IsDs K π n H (ps.map (·.2.2)) (kvs.map (·.2))
 |_,_,.nil=>⟨rfl,.nil,.nil⟩|_,_,.cons (a:=p) (b:=q) h t=>by obtain⟨a,c,d⟩:=IsTs.to t;refine⟨by rw[VP,VP,h.1,a],.cons ?_ c,.cons h.2.2 d⟩;show IsD K π n H (.ref p.2.1) (.tup (q.1.map D.int));rw[<- h.1];exact .tup h.2.1 (xR p.1)
theorem IsTs.val(k:List Int):∀{ps:bO}{kvs:jx},IsTs K π n H ps kvs->(eZ ps k=b3/\bT kvs k=b3)\/∃v d,eZ ps k=b0 v/\bT kvs k=b0 d/\IsD K π n H v d
 |_,_,.nil=>.inl ⟨rfl,rfl⟩|_,_,.cons (a:=p) (b:=q) h t=>by
  have a:=IsTs.val k t;unfold eZ bT at a ⊢;rw[Ze,Ze,<- h.1];by_cases e:p.1=k
  .simp only[e,decide_true];exact .inr ⟨_,_,rfl,rfl,h.2.2⟩
  .simp only[e,decide_false];exact a
theorem IsTs.put{ps:bO}{kvs:jx}(h:IsTs K π n H ps kvs)(k:List Int){b:Addr}{v:V}{d:D}(j:SqT K H b (k.map V.int))(i:IsD K π n H v d):IsTs K π n H (eE ps k b v) (dW kvs k d):=by
 have e:(eZ ps k).isSome=(bT kvs k).isSome:=by rcases h.val k with⟨c,g⟩|⟨v,d,c,g,_⟩<;>rw[c,g]<;>rfl
 have a:∀{ps:bO}{kvs:jx},IsTs K π n H ps kvs->IsTs K π n H (ps.map λp=>if p.1=k then(p.1,p.2.1,v)else p) (kvs.map λp=>if p.1=k then(p.1,d)else p):=by
  intro ps kvs h;unfold IsTs at h;induction h with
  |nil=>exact .nil|@cons p q ps m h t l=>
   rw[VP,VP];refine .cons ?_ l;by_cases z:p.1=k
   .rw[if_pos z,if_pos (h.1.symm.trans z)];exact⟨h.1,h.2.1,i⟩
   .rw[if_neg z,if_neg λy=>z (h.1.trans y)];exact h
 unfold eE dW;rw[e];split
 .exact a h
 .exact a4v h ⟨rfl,j,i⟩
theorem mV{a:Nat}{kvs:jx}(R:Rp K π H μ)(h:μ[a]?=b0 (.dT kvs)):∃ps,H (π a)=b0 (aS (π a) ps)/\IsTs K π μ.length H ps kvs:=by obtain⟨ps,c,d,e,g⟩:=R.dT a kvs h;exact⟨ps,c,.of d e g⟩
theorem tQ{a:Nat}{kvs:jx}(R:Rp K π H μ)(h:μ[a]?=b0 (.dF kvs)):∃c ps,H (π a)=b0 (.frz c (aS (π a) ps))/\IsTs K π μ.length H ps kvs:=by obtain⟨c,ps,d,e,g,i⟩:=R.dF a kvs h;exact⟨c,ps,d,.of e g i⟩
theorem oT{v:V}{x:D}{k:List Int}(h:IsD K π n H v x)(e:cQ x=b0 k):∃b,v=.ref b/\SqT K H b (k.map V.int):=by
 have:=qB e;subst this;cases h with
 |tup q t=>rw[ints_of' t]at q;exact⟨_,rfl,q⟩
end
noncomputable def oU:ME:=λ_ a=>b0 (.loc a.length,a++[.dT []])
section
variable{X:Cx}{pos:W9}
theorem DE{P:VE}{w:VW}{H:Hp}(h:WA)(a:Xo<h.objs.size):ObjOk P w H (h.push {cls:=.type "dict",data:=.dict #[]}) h.objs.size (aS h.objs.size []):=
 yH (ws:=[]) (beq_eq_false_iff_ne.mpr (WM (VI a))) (Xm _) .nil (a5y h)
noncomputable def NT:TE:=λ_ H Q=>∀p,H p=b3->Q (.ref p) (aK H p (aS p []))
theorem NU:PE X (.Dict [] [] pos) NT:=λa5N s σ H Q I h=>wpAny_Dict_empty ⟨.ref s.heap.objs.size,_,I.laid (a:=s.heap.objs.size) (o:=aS s.heap.objs.size []) (t':=s.toks) (λ_ _ q=>Vg _ q) (Vk _) (DE s.heap I.big),rfl,h _ (I.hok.fresh (Vk _))⟩
theorem NV:QE X (.Dict [] [] pos) oU:=⟨cZ NU (by
 rintro n H Q ⟨l,m,j,d,h,R,E,e,k⟩ p g;cases e;obtain⟨c,a,i⟩:=R.alloc (c:=.dT []) (o:=aS p []) g ⟨[],rfl,rfl,.nil,.nil⟩;exact k _ _ _ c a mF)⟩
end
noncomputable def qI:D->D->Hm->jk
 |.loc a,y,μ=>match μ[a]? with
  |some (.dT kvs)=>(cQ y).bind λk=>(bT kvs k).map λd=>(d,μ)|some (.dF kvs)=>(cQ y).bind λk=>(bT kvs k).map λd=>(d,μ)|_=>b3
 |_,_,_=>b3
section
variable{X:Cx}{a b e:Expr}{ma mb me:ME}{pos tpos:W9}{td ty tv:TE}
noncomputable def DF(K:U9):R2:=λx y H Q=>∃a b ps k v,x=.ref a/\y=.ref b/\Rd H a (aS a ps)/\dY K H ps/\SqT K H b (k.map V.int)/\eZ ps k=b0 v/\Q v H
theorem NW(A:X.A.units+1<W0)(w:PE X a td)(r:PE X b ty)(z:By b):PE X (.Subscript a b pos) (λσ H Q=>td σ H λx d=>ty σ d λy g=>DF X.K x y g Q):=by intro c s σ H Q I h;refine IF PySem.F.slot_dict_getitem.lookup z (aR (w c s σ H _ I h) λu N ⟨x,d,m,L,G⟩=>aR (r c N σ d _ m G) λE R ⟨y,g,j,M,a,b,O,k,v,o,p,e,l,q,B,K⟩=>?_);subst o p;obtain rfl:u=VA a:=L;obtain rfl:E=VA b:=M;exact⟨NN j e l,NO A j e l q B λU T n i=>⟨v,g,n,i,K⟩⟩
theorem NX{K:U9}:cS K qI (DF K):=by
 intro u H L x y d E G I Q R r s c k;unfold qI at c;split at c
 .split at c
  .rename_i m hc;obtain⟨h,j,c⟩:=U7.mp c;obtain⟨w,g,c⟩:=Vd.mp c;cases c;cases r;obtain⟨n,i,T⟩:=mV R hc;obtain⟨b,rfl,l⟩:=oT s j;rcases T.val h with⟨_,z⟩|⟨v,A,o,p,q⟩
   .rw[z]at g;cases g
   .rw[p]at g;cases g;exact⟨_,b,n,h,v,rfl,rfl,.of i,T.keys,l,o,k u _ H .refl R q⟩
  .rename_i m hc;obtain⟨h,j,c⟩:=U7.mp c;obtain⟨w,g,c⟩:=Vd.mp c;cases c;cases r;obtain⟨B,n,i,T⟩:=tQ R hc;obtain⟨b,rfl,l⟩:=oT s j;rcases T.val h with⟨_,z⟩|⟨v,A,o,p,q⟩
   .rw[z]at g;cases g
   .rw[p]at g;cases g;exact⟨_,b,n,h,v,rfl,rfl,.inr ⟨B,i⟩,T.keys,l,o,k u _ H .refl R q⟩
  .cases c
 .cases c
theorem NY{k:Nat}(g:Room k X.A)(c:QE X a ma)(d:QE X b mb)(h:n5 b=dI):QE X (.Subscript a b pos) (aC qI ma mb):=⟨cZ (NW (eJ g) c.h d.h (Cv h)) (pU NX)⟩
end
section
variable{X:Cx}{o i e:Expr}{mo mi me:ME}{pos tpos:W9}{td ty tv:TE}
noncomputable def NZ(K:U9)(td ty tv:TE):TS:=λD σ H=>tv σ H λv d=>td σ d λx g=>ty σ g λy c=>∃a b ps k,x=.ref a/\y=.ref b/\c a=b0 (aS a ps)/\dY K c ps/\SqT K c b (k.map V.int)/\ps.length<Vp/\D.nx σ (aK c a (aS a (eE ps k b v)))
theorem N0(K:X.A.units+1<W0)(E:PE X o td)(A:PE X i ty)(L:PE X e tv)(G:Zj e (b0 (.Subscript o i tpos)) pos.line X.env=pure b5) :
  PS X (.Assign [.Subscript o i tpos] e pos) (NZ X.K td ty tv):=by
 intro c s d H D I h;refine a3f (aR (L c s d H _ I h) λr Z ⟨v,g,l,T,O⟩=>aR (E c Z d g _ l O) λu s2 ⟨x,j,m,U,Q⟩=>aR (A c s2 d j _ m Q) λN s3 ⟨y,H3,n,Y,a,b,ps,k,q,w,e,B,z,M,R⟩=>?_) G;subst q w;obtain rfl:u=VA a:=U;obtain rfl:N=VA b:=Y;exact NR K n e B z M T λs4 p=>⟨d,_,p,R⟩
theorem N1{g:Nat}(hr:Room g X.A)(ho:QE X o mo)(hi:QE X i mi)(he:QE X e me)(h:jC e=dI):QS X (.Assign [.Subscript o i tpos] e pos) (mT qG mo mi me):=
 ⟨iF (N0 (Jo hr) ho.h hi.h he.h (sV h)) (by
 rintro E σ H ⟨π,K,μ,fl,ρ',μ',R,m,d,k⟩;obtain⟨⟨x,j⟩,h1,d⟩:=U7.mp d;obtain⟨⟨y,l⟩,h2,d⟩:=U7.mp d;obtain⟨⟨z,A⟩,h3,d⟩:=U7.mp d;obtain⟨μ4,c,d⟩:=Vd.mp d;cases d;refine⟨π,K,μ,x,j,R,m,h1,λB v1 H1 n Q i1=>⟨B,K,j,y,l,Q,m.mono n,h2,λG v2 H2 p R2 i2=>⟨G,K,l,z,A,R2,(m.mono n).mono p,h3,λI v3 H3 q L i3=>?_⟩⟩⟩;cases y with
 |loc a=>
  simp only[qG]at c;split at c
  .rename_i v hc;obtain⟨g,h5,c⟩:=U7.mp c;split at c
   .rename_i hz;cases c;have u:=i2.mono q;cases u with
    |loc r=>
     obtain⟨w,N,T⟩:=mV L hc;obtain⟨b,rfl,O⟩:=oT i3 h5;have hv:=(i1.mono p).mono q;have Y:=T.put g O hv;obtain⟨Z,g2,g3⟩:=Y.to;have s:w.length<Vp:=by have:=congrArg WI (T.to).1;rw[U8,U8]at this;lia
     refine⟨_,b,w,g,rfl,rfl,N,T.keys,O,s,?_⟩;obtain⟨M,U⟩:=L.put (c:=.dT (dW v g x)) (o:=aS _ (eE w g b v1)) r N (.inr (.inr ⟨_,rfl⟩)) ⟨_,rfl,Z,g2,g3⟩;exact k I σ _ (((n.trans p).trans q).trans M) U ((((m.mono n).mono p).mono q).mono M)
   .cases c
  .cases c
 |_=>simp[qG]at c)⟩
end
noncomputable def qJ(c:Bool):D->D->Hm->jk
 |x,.loc a,μ=>match μ[a]? with
  |some (.dT kvs)=>(cQ x).map λk=>(.bl (if c then !(bT kvs k).isSome else(bT kvs k).isSome),μ)|some (.dF kvs)=>(cQ x).map λk=>(.bl (if c then !(bT kvs k).isSome else(bT kvs k).isSome),μ)|_=>b3
 |_,_,_=>b3
noncomputable def yI(K:U9)(c:Bool):R2:=λx y H Q=>∃a b ps k,x=.ref b/\y=.ref a/\Rd H a (aS a ps)/\dY K H ps/\SqT K H b (k.map V.int)/\Q (.bl (if c then !(eZ ps k).isSome else(eZ ps k).isSome)) H
theorem DG{X:Cx}(j:X.A.units+1<W0):OpR X (WB .In) (yI X.K b5):=by intro d s p H x y v u Q I l m h;obtain⟨a,b,n,k,rfl,rfl,e,i,g,q⟩:=h;obtain rfl:v=VA b:=l;obtain rfl:u=VA a:=m;exact NP j I e i g λo c=>⟨.bl _,H,c,rfl,q⟩
theorem DH{X:Cx}(j:X.A.units+1<W0):OpR X (WB .NotIn) (yI X.K dI):=by intro d s p H x y v u Q I l m h;obtain⟨a,b,n,k,rfl,rfl,e,i,g,q⟩:=h;obtain rfl:v=VA b:=l;obtain rfl:u=VA a:=m;exact NQ j I e i g λo c=>⟨.bl _,H,c,rfl,q⟩
theorem tR{K:U9}{j:Bool}:cS K (qJ j) (yI K j):=by
 intro q H z x y d s u w Q R o p a k;unfold qJ at a;split at a
 .split at a
  .rename_i h hc;obtain⟨g,c,a⟩:=Vd.mp a;cases a;cases p;obtain⟨l,m,T⟩:=mV R hc;obtain⟨b,rfl,n⟩:=oT o c;have e:(eZ l g).isSome=(bT h g).isSome:=by rcases T.val g with⟨c,i⟩|⟨v,d,c,i,_⟩<;>rw[c,i]<;>rfl
   refine⟨_,b,l,g,rfl,rfl,.of m,T.keys,n,?_⟩;rw[e];exact k q _ H .refl R (.bl _)
  .rename_i h hc;obtain⟨g,c,a⟩:=Vd.mp a;cases a;cases p;obtain⟨r,l,m,T⟩:=tQ R hc;obtain⟨b,rfl,n⟩:=oT o c;have e:(eZ l g).isSome=(bT h g).isSome:=by rcases T.val g with⟨c,i⟩|⟨v,d,c,i,_⟩<;>rw[c,i]<;>rfl
   refine⟨_,b,l,g,rfl,rfl,.inr ⟨r,m⟩,T.keys,n,?_⟩;rw[e];exact k q _ H .refl R (.bl _)
  .cases a
 .cases a
section
variable{X:Cx}{a b:Expr}{ma mb:ME}{pos:W9}
end
noncomputable def RawD(h:WA)(d:Addr)(es:Array DictEntry)(ep:Nat):Prop:=∃z,h.get? d=b0 z/\z.ExactDict/\z.data=.dict es ep
theorem RawD.ty{s:Ve}{d:Addr} {es ep} (g:RawD s.heap d es ep):s.TypeIs (.ref d) "dict":=let⟨z,a,c,_⟩:=g;⟨z,a,c.1⟩
theorem RawD.stay{h h':WA}{d:Addr} {es ep} (g:RawD h d es ep)(k:∀o,h.get? d=b0 o->h'.get? d=b0 o):RawD h' d es ep:=let⟨z,a,c⟩:=g;⟨z,k z a,c⟩
theorem RawD.lt{h:WA}{d:Addr} {es ep} (g:RawD h d es ep):d<h.objs.size:=let⟨_,a,_⟩:=g;Vn a
section
variable{P:VE}{w:VW}{A:VO}{E:Value->Ve->Prop}{s:Ve}{d it:Addr}{i ep:Nat}{es:Array DictEntry}
theorem N2{Q:Value->Ve->Prop}(lo:(d==Xo)=b5)(g:RawD s.heap d es ep)
  (q:Q (.ref s.heap.objs.size) {s with heap:=s.heap.push {cls:=.type "dict_keyiterator",data:=.fields #[.ref d,.int 0 0,.int es.size 0,.int ep 0]}}):VH (VF P w) A (a1D (.ref d)) Q E s:=by
 obtain⟨z,a,e,c⟩:=id g;refine a4A g.ty F.slot_dict_iter (XM F.slot_dict_iter g.ty F.entry_dict_iter ?_ (F.args_dict_iter_1 _));unfold Builtin.«dict.__iter__» a5C;refine Va (Va (a0r g.ty ?_));show VH _ _ (pure (VA d)) _ _ _;refine Vj ?_;show VH _ _ (YK d >>= _) _ _ _;unfold YK;rw[if_neg (λx=>Vm (lo.symm.trans x))];refine Va (Vj (Va (Y7 a c (Va (a0l a c (Va (WL (Vj ?_))))))));exact⟨_,rfl,"dict_keyiterator",_,⟨_,Vr _ rfl,rfl⟩,F.slot_dict_keyiterator_next.lookup,by simpa[Zl]using q⟩
theorem DI{Q:Option Value->Ve->Prop}(p:A.handled=b3)(j:s.heap.IsKeyIter it d i es.size ep)(g:RawD s.heap d es ep)
  (v:∀e a,es[i]?=b0 e->a.IsKeyIter it d (i+1) es.size ep->Y0 it s.heap a->Q (b0 e.key) {s with heap:=a})
  (B:es[i]?=b3->∀a,a0f it s.heap a->Q b3 {s with heap:=a}):VH (VF P w) A (Yp (.ref it)) Q E s:=by
 obtain⟨y,h,r,c⟩:=id j;obtain⟨z,m,G,n⟩:=id g;have l:∀{Q:String->Ve->Prop}{A:VO}{E:Value->Ve->Prop},Q "dict_keyiterator" s->VH (VF P w) A (a5f (.ref it)) Q E s:=λq=>wpAny_typeNameOfWhole_keyiter j.typeIs q;unfold Yp;refine Va (a2G (a2N (name:=XZ "__next__") j.typeIs F.slot_dict_keyiterator_next (XM F.slot_dict_keyiterator_next j.typeIs F.entry_dict_keyiterator_next ?_ (F.args_dict_keyiterator_next_1 _))));refine Va (Vj (Va (Va (Va (l (Vj (Va (a5F h c ?_))))))));simp only[show YD "dict_keyiterator"=b5 by decide,Vu,if_false];show VH _ _ (if(VA d==W8)=dI then _ else _) _ _ _;rw[if_neg (show ¬ (VA d==W8)=dI from λx=>Vm x)];refine Va (Vj (Va (Y7 m n ?_)));rw[if_neg (λx=>by simp at x)];refine Va (Vj (Va (a0l m n ?_)));rw[if_neg (λx=>by simp at x)];refine Vj ?_;simp only[if_neg (show ¬ ((i:Int)<0) by lia),WR];cases o:es[i]? with
 |some e=>
  refine Va (Va (l (Vj (Va (a3C j.typeIs ?_)))));show VH _ _ (a3L (.ref it) 1 (Zl ((i:Int)+1)) >>= _) _ _ _;refine Va (a2f h c (by simp) ?_);have k:(s.heap.update it (a4K (·.setIfInBounds 1 (Zl ((i:Int)+1))))).IsKeyIter it d (i+1) es.size ep:=
   ⟨_,WX _ h (Obj.isFreed_of_fields (a3w c _)),(Obj.cls_mapFields ..).trans r,by simp[a3w c,Zl]⟩
  generalize hu:s.heap.update it (a4K (·.setIfInBounds 1 (Zl ((i:Int)+1))))=u at k;refine Va (Ws (Va (a3C (s:={s with heap:=u}) k.typeIs ?_)));show VH _ _ (pure e.key) _ _ _;exact Vj (Vj ⟨_,rfl,Vj (v e u o k (hu▸ZR ..))⟩)
 |none=>refine Va (Va (l (Vj ?_)));show VH _ _ (a3L (.ref it) 0 .none >>= _) _ _ _;refine Va (a2f h c (by simp) ?_);show VH _ _ (a5I (.type "StopIteration") [] >>= _) _ _ _;simp only[a5I,a3N];refine Va (Va (WL ?_ (by size_fits)));refine Va (m:=a0A _ _) (a1M (a:=W8) (by first|rfl|(simp only[a0A];rfl)) (WL ?_ (by size_fits)));simp only[raiseNew];refine Va (wpAny_handled ?_);rw[show A.in1.handled=b3 from p];refine Va (Vj (wpAny_throw ?thrown));case thrown=>exact Va (a1B (T:="StopIteration") (b:=dI) ⟨_,Vr _ rfl,rfl⟩ a5L (Vj (B o _ (((ZR ..).extBut.push _).push _))))
theorem N3(lo:(d==Xo)=b5):MeetsIn P w (Builtin.«dict.__len__» ⟨[.ref d],[]⟩) (λ_ R s=>∃es ep,RawD s.heap d es ep/\R (.ok (.ret (.int (es.size:Nat) s.toks))) {s with toks:=s.toks+1}):=
 .of_wp λA R s ⟨es,ep,⟨z,a,e,c⟩,q⟩=>by show VH _ _ (dictSize d >>= _) _ _ _;unfold dictSize;refine Va (Va (Y7 a c (Vj ?_)));show VH _ _ (a5A d >>= _) _ _ _;refine Va (wpAny_pendingCount_other lo (wpAny_ret_mkInt ?_));rw[a4X];exact q
theorem N4{Q:Value->Ve->Prop}(lo:(d==Xo)=b5)(g:RawD s.heap d es ep)(hz:es.size<=Vp)(q:Q (.int (es.size:Nat) (s.toks+1)) {s with toks:=s.toks+1+1}):VH (VF P w) A (call (.builtin "len") [.ref d]) Q E s:=
 a5r g.ty F.slot_dict_len (λc a=>a3j F.slot_dict_len g.ty F.entry_dict_len (F.args_dict_len_1 _) (N3 lo) ⟨es,ep,g,a⟩) (by lia) (by rw[VC]at hz;lia) q
end
theorem yJ:∀{ps:bO}{ws:gq},Vals (ps.map (·.2.2)) ws->(bZ ps ws).map (λx=>VA x.2.1)=ps.map λp=>VA p.2.1
 |[],_,_=>by simp[bZ]
 |p::ps,_,.cons r t=>by have a:=yJ (ps:=ps) t;unfold bZ at a ⊢;rw[Wh,VP,VP,a]
section
variable{X:Cx}{a5N:jw}{σ:St}{H:Hp}{s:Ve}{a:Addr}{ps:bO}
theorem DJ(I:Inv X a5N σ H s)(e:H a=b0 (aS a ps))(i:dY X.K H ps):(a==Xo)=b5/\ps.length<=Vp/\∃es ep,RawD s.heap a es ep/\es.toList.map (·.key)=ps.map λp=>VA p.2.1:=by obtain⟨k,j,l,r,z,es,ep,c,d,g,h,_⟩:=k8 I (.of e) i;refine⟨k,j,es,ep,⟨z,c,d,g⟩,?_⟩;rw[h,VM,<- yJ r];rfl
noncomputable def DK(K:U9):gw->Hp->VK->Prop:=λxs H Q=>∃a ps,xs=[V.ref a]/\H a=b0 (aS a ps)/\dY K H ps/\Q (.int ps.length) H
theorem N5:CallR X (.builtin "len") (DK X.K):=by
 intro a5N s σ H p o Q I r h;obtain⟨a,ps,rfl,d,i,q⟩:=h;obtain⟨u,rfl,l⟩:=i5 r;cases l;obtain⟨k,n,c,m,g,e⟩:=DJ I d i;have j:c.size=ps.length:=by have:=congrArg WI e;simpa using this
 refine N4 k g (by lia) ?_;rw[j];exact⟨.int ps.length,H,(I.tok _).tok _,⟨_,rfl⟩,q⟩
end
section
variable{X:Cx}{a b o i e:Expr}{ma mb mo mi me:ME}{pos tpos:W9}{k:Nat}
theorem N6(l:Room k X.A)(g:QE X a ma)(j:QE X b mb)(h:n5 b=dI):QE X (.Subscript a b pos) (aC aE ma mb):=
 mL (NY l g j h) (Lp g j h) (gF λx y m r c=>by
  unfold aE at c;split at c
  .split at c
   .rename_i d hc;refine .inl ?_;simp only[qI,hc];exact c
   .rename_i d hc;refine .inl ?_;simp only[qI,hc];exact c
   .exact .inr c
  .exact .inr c)
noncomputable def oV(c:Bool):D->D->Hm->jk:=λx y d=>match qJ c x y d with
 |some r=>b0 r|none=>mM c x y d
theorem tS{c:Bool}(x y:D)(d:Hm)(r:D×Hm)(h:oV c x y d=b0 r):qJ c x y d=b0 r\/mM c x y d=b0 r:=by
 unfold oV at h;split at h
 .rename_i z;rw[z];exact .inl h
 .exact .inr h
theorem DL{g:Bool}(x y:D)(l:Hm)(r:D×Hm)(h:c4 g x y l=b0 r):(∃i j,x=.str i/\y=.str j)\/oV g x y l=b0 r:=by
 cases y with
 |loc a=>
  refine .inr ?_;have e:c4 g x (.loc a) l=(match l[a]? with
   |some (.dT d)=>(cQ x).map λk=>(D.bl (if g then !(bT d k).isSome else(bT d k).isSome),l)|some (.dF d)=>(cQ x).map λk=>(D.bl (if g then !(bT d k).isSome else(bT d k).isSome),l)
   |_=>mM g x (.loc a) l):=by cases x<;>rfl
  rw[e]at h;unfold oV;simp only[qJ];cases hc:l[a]? with
  |none=>rw[hc]at h;exact h|some c=>
   rw[hc]at h;cases c with
   |dT d=>dsimp only at h ⊢;rw[h]|dF d=>dsimp only at h ⊢;rw[h]|_=>exact h
 |str j=>
  cases x with
  |str i=>exact .inl ⟨i,j,rfl,rfl⟩|_=>exact .inr h
 |_=>cases x<;>exact .inr h
theorem DM(x y:D)(c:Hm)(r:D×Hm)(h:c4 b5 x y c=b0 r):xA x y c=b0 r\/oV b5 x y c=b0 r:=by
 rcases DL x y c r h with⟨i,j,rfl,rfl⟩|z
 .exact .inl h
 .exact .inr z
theorem DN(x y:D)(c:Hm)(r:D×Hm)(h:c4 dI x y c=b0 r):xN x y c=b0 r\/oV dI x y c=b0 r:=by
 rcases DL x y c r h with⟨i,j,rfl,rfl⟩|z
 .exact .inl h
 .exact .inr z
theorem N7(g:Room k X.A)(c:QE X a ma)(d:QE X b mb)(h:fH b=dI):QE X (.Compare a [.In] [b] pos) (aC (c4 b5) ma mb):=
 mL ⟨eV Bl Cj c.h d.h (gY h)⟩ (mL ⟨eV (DG (eJ g)) tR c.h d.h (gY h)⟩ ⟨eV (CI (sZ g)) sX c.h d.h (gY h)⟩ (gF tS)) (gF DM)
theorem N8(g:Room k X.A)(c:QE X a ma)(d:QE X b mb)(h:fH b=dI):QE X (.Compare a [.NotIn] [b] pos) (aC (c4 dI) ma mb):=
 mL ⟨eV BG CK c.h d.h (gY h)⟩ (mL ⟨eV (DH (eJ g)) tR c.h d.h (gY h)⟩ ⟨eV (CJ (sZ g)) sX c.h d.h (gY h)⟩ (gF tS)) (gF DN)
theorem N9(g:Room k X.A)(c:QE X a ma)(d:QE X b mb)(h:fH b=dI):QT X (.Compare a [.In] [b] pos) (aO (aC (c4 b5) ma mb)):=
 n6 ⟨eW Bl Cj c.h d.h (gY h)⟩ (n6 ⟨eW (DG (eJ g)) tR c.h d.h (gY h)⟩ ⟨eW (CI (sZ g)) sX c.h d.h (gY h)⟩ (n8 (gF tS))) (n8 (gF DM))
theorem Oa(g:Room k X.A)(c:QE X a ma)(d:QE X b mb)(h:fH b=dI):QT X (.Compare a [.NotIn] [b] pos) (aO (aC (c4 dI) ma mb)):=
 n6 ⟨eW BG CK c.h d.h (gY h)⟩ (n6 ⟨eW (DH (eJ g)) tR c.h d.h (gY h)⟩ ⟨eW (CJ (sZ g)) sX c.h d.h (gY h)⟩ (n8 (gF tS))) (n8 (gF DN))
theorem Ob(l:Room k X.A)(j:QE X o mo)(g:QE X i mi)(d:QE X e me)(h:jC e=dI):QS X (.Assign [.Subscript o i tpos] e pos) (mU mo mi me):=
 Nz (N1 l j g d h) (ND j g d h) (NF λx y z m r c=>by
  unfold oQ at c;split at c
  .split at c
   .exact .inl c
   .exact .inr c
  .cases c)
end
noncomputable def yK(K:U9)(a b:Addr):It:=
 ⟨λi H=>∃c d x y,SqL K H a c/\SqL K H b d/\c[i]?=b0 x/\d[i]?=b0 y,
   λi H z e=>∃p v u,z=.ref p/\H p=b3/\e=aK H p (.tup [v,u])/\(∀c,SqL K H a c->c[i]?=b0 v)/\∀d,SqL K H b d->d[i]?=b0 u,
   λi H=>∃c d,SqL K H a c/\SqL K H b d/\(c.length<=i\/d.length<=i)⟩
theorem Oc{P:VE}{w:VW}{K:U9}{es:List Expr}{kx:Nat}{pt:W9}{a b z n to l m:Addr}(A:ZipApart z n to l m a b) :
  Turn Qc P w K (.Tuple es kx pt) (yK K a b) [z,n,to,l,m] z (λi h=>IsZip h z n to .none/\IsPair h n (.ref l) (.ref m)/\(∃u v,IsPair h to u v)/\h.IsListIter l a i/\h.IsListIter m b i) where
 mem:=by simp
 obj:=λi h ⟨r,B,⟨u,v,L⟩,M,N⟩ c hc=>by
  have hc':c=z\/c=n\/c=to\/c=l\/c=m:=by simpa using hc
  rcases hc' with rfl|rfl|rfl|rfl|rfl
  .exact⟨_,r,λq e=>by
    have T:Wn _=ZS q:=e;cases T⟩
  .exact⟨_,B,λq e=>by
    have T:a2D _ _=ZS q:=e;cases T⟩
  .exact⟨_,L,λq e=>by
    have T:a2D _ _=ZS q:=e;cases T⟩
  .obtain⟨o,e1,c,d⟩:=M;exact⟨o,e1,λv e=>by rw[d]at e;cases e⟩
  .obtain⟨o,e1,c,d⟩:=N;exact⟨o,e1,λv e=>by rw[d]at e;cases e⟩
 keep:=λi h h' ⟨r,B,⟨u,v,L⟩,M,N⟩ k=>⟨k z (by simp) _ r,k n (by simp) _ B,⟨u,v,k to (by simp) _ L⟩,M.at λo e=>k l (by simp) o e,N.at λo e=>k m (by simp) o e⟩;item:=by
  intro X hP hw hK hc i a5N s σ H E I Y ⟨r,B,⟨u,v,L⟩,M,N⟩ hg;subst hP hw hK;obtain⟨xs,ys,x,y,Z,G,R,hy⟩:=hg;obtain⟨its,rv,p,hz⟩:=I.list Z;obtain⟨U,O,p2,hz2⟩:=I.list G;obtain⟨u1,eJ,ru1⟩:=rv.get R;obtain⟨u2,hu2,ru2⟩:=O.get hy;refine wpAny_pyNext_zip_item A r B L M N p.isList p2.isList (x:=u1) (y:=u2) (by simpa using eJ) (by simpa using hu2) λh1 a1 a2 a3 a4 a5 a6 hk=>⟨_,rfl,wpAny_letOwnedTupleGo_zip a1 λh2 b1 j=>?_⟩;have ne:∀{c o},s.heap.get? c=b0 o->s.heap.objs.size≠c:=λe=>Xj (Vn e);have l4:∃o,s.heap.get? l=b0 o:=let⟨o,e,_⟩:=M;⟨o,e⟩;have l5:∃o,s.heap.get? m=b0 o:=let⟨o,e,_⟩:=N;⟨o,e⟩;have ht2:h2.get? s.heap.objs.size=b0 {cls:=.type "tuple",data:=.seq #[u1,u2]}:=(j.2 _ (ne r)).trans a5;have hfr:H s.heap.objs.size=none:=I.hok.fresh (Vk _);have g2':IsPair h2 n (.ref l) (.ref m):=(j.2 _ A.TIz).trans (hk _ _ A.TIz A.TITO A.TIi1 A.TIi2 B);refine⟨.ref s.heap.objs.size,aK H s.heap.objs.size (.tup [x,y]),?_,rfl,⟨s.heap.objs.size,x,y,rfl,hfr,rfl,λws hw=>by rw[I.list_inj hw Z];exact R,λws hw=>by rw[I.list_inj hw G];exact hy⟩,
   ⟨b1,g2',⟨_,_,(j.2 _ A.TOz).trans a2⟩,a3.extBut j.extBut A.i1z,a4.extBut j.extBut A.i2z⟩,λc Q=>?_⟩
  .refine yB (s:=s) (h':=h2) (t':=s.toks) (ch:=[z,n,to,l,m]) I (λc oc Q ec=>?_) Y (Vk _) ?_
   .have g:c≠z/\c≠n/\c≠to/\c≠l/\c≠m:=by simpa using Q
    exact(j.2 c g.1).trans (hk c oc g.1 g.2.2.1 g.2.2.2.1 g.2.2.2.2 ec)
   .exact⟨by show(2:Nat)<=Vp;decide,[u1,u2],.cons ru1 (.cons ru2 .nil),_,ht2,rfl,0,rfl,rfl⟩
  .have g:c=z\/c=n\/c=to\/c=l\/c=m:=by simpa using Q
   have hn:=(Y c Q).1;rw[a8]
   .exact hn
   .rcases g with rfl|rfl|rfl|rfl|rfl
    .exact(ne r).symm
    .exact(ne B).symm
    .exact(ne L).symm
    .exact(ne l4.choose_spec).symm
    .exact(ne l5.choose_spec).symm
 done:=by
  intro X hP hw hK hc i a5N s σ H E I Y ⟨r,B,⟨u,v,L⟩,M,N⟩ hg;subst hP hw hK;obtain⟨xs,ys,Z,G,R⟩:=hg;obtain⟨its,rv,p,hz⟩:=I.list Z;obtain⟨U,O,p2,hz2⟩:=I.list G;have hl:=rv.length;have hl2:=O.length;refine wpAny_pyNext_zip_end (I.ok.hd hc) A r B L M N p.isList p2.isList ?_ λh' eb=>⟨rfl,Dv (t':=s.toks) (ch:=[z,n,to,l,m]) I (λc o Q e=>?_) Y⟩
  .rcases R with R|R
   .exact .inl (by simp;lia)
   .exact .inr (by simp;lia)
  .have g:c≠z/\c≠n/\c≠to/\c≠l/\c≠m:=by simpa using Q
   exact eb c o g.1 g.2.2.1 g.2.2.2.1 g.2.2.2.2 e
 self:=λ_ _ _ _ _ ⟨r,_⟩ h=>a4O r h
noncomputable def qK(x y:D):eM:=λa i=>(bJ a x).bind λxs=>(bJ a y).map λc=>(xs[i]?).bind λd=>(c[i]?).map λe=>.tup [d,e]
noncomputable def qL(ms:MA):MI:=λρ d=>(ms ρ d).bind λp=>match p.1 with
 |[x,y]=>(eD p.2 x).bind λa=>(eD p.2 y).map λc=>(qK x y,min a.length c.length+1,p.2)|_=>b3
theorem DO{K:U9}{π:Nat->Addr}{j:Hm}{H:Hp}{v:V}{x:D}{xs:List D}(R:Rp K π H j)(h:IsD K π j.length H v x)(k:eD j x=b0 xs):∃p,v=.ref p/\(∃vs,SqL K H p vs) /\
  ∀c a d,Ext π j.length H c a.length d->Rp K c d a->∀i,bJ a x=b0 i->∃g,SqL K d p g/\IsDs K c a.length d g i:=by
 obtain⟨p,vs,rfl,r,_⟩:=oF R h k;refine⟨p,rfl,⟨vs,r⟩,λc a d e m i l=>?_⟩;have q:eD a x=b0 i:=by
  cases x with
  |rol w=>exact l|loc b=>exact l|_=>cases k
 obtain⟨u,g,o,s,n⟩:=oF m (h.mono e) q;cases o;exact⟨g,s,n⟩
theorem Od{K:U9}{π:Nat->Addr}{l:Hm}{H:Hp}{v X:V}{x y:D}{xs ys:List D}(R:Rp K π H l)(h:IsD K π l.length H v x)(h':IsD K π l.length H X y)(hs:eD l x=b0 xs)(B:eD l y=b0 ys) :
  ∃a b,v=.ref a/\X=.ref b/\(∃I,SqL K H a I)/\(∃I,SqL K H b I)/\Wk K (yK K a b) (qK x y) π l.length H:=by
 obtain⟨a,rfl,qa,O⟩:=DO R h hs;obtain⟨b,rfl,qb,Q⟩:=DO R h' B;refine⟨a,b,rfl,rfl,qa,qb,λg c m i e j z=>?_,λg c m i d e j z=>?_⟩
 .obtain⟨n,w,z⟩:=U7.mp z;obtain⟨bs,A,z⟩:=Vd.mp z;obtain⟨r,o,s⟩:=O g c m e j n w;obtain⟨q,p,u⟩:=Q g c m e j bs A;refine⟨r,q,o,p,?_⟩;rw[s.length,u.length];cases L:n[i]? with
  |none=>exact .inl (V0.mp L)|some d=>
   cases k:bs[i]? with
   |none=>exact .inr (V0.mp k)|some d'=>rw[L,k]at z;cases z
 .obtain⟨n,w,z⟩:=U7.mp z;obtain⟨bs,A,z⟩:=Vd.mp z;obtain⟨d1',h3,z⟩:=U7.mp z;obtain⟨d2',h4,h5⟩:=Vd.mp z;subst h5;obtain⟨r,o,s⟩:=O g c m e j n w;obtain⟨q,p,u⟩:=Q g c m e j bs A;obtain⟨Y,M,k1⟩:=s.get h3;obtain⟨Z,N,k2⟩:=u.get h4;refine⟨⟨r,q,Y,Z,o,p,M,N⟩,?_⟩;rintro y H2 ⟨t,v1,v2,rfl,hn,rfl,E,G⟩;have T:=E r o;have U:=G q p;rw[M]at T;rw[N]at U;cases T;cases U;obtain⟨k,R2⟩:=j.fresh (o:=.tup [Y,Z]) hn;exact⟨k,R2,.tup (.of cH) (.cons (k1.mono k) (.cons (k2.mono k) .nil))⟩
noncomputable def Oe(K:U9)(d:TA):TI:=λσ H R=>d σ H λvs c=>∃a b,vs=[.ref a,.ref b]/\(∃xs,SqL K c a xs)/\(∃e,SqL K c b e)/\R (yK K a b) c
open PyProof.Rows in
theorem Of{X:Cx}{a b:Expr}{z:TA}{p pos pt:W9}{es:List Expr}{kx:Nat}(Q:Gl X "zip") (U:X.mg "zip"=b3) (O:PA X [a,b] z)(Z:V7 [a,b] X.env=(b5,eval a X.env)::V7 [b] X.env)(o:(Yq pos (V7 [b] X.env)).any (·.1)=b5) :
  PI X (.Tuple es kx pt) (.Call (.Name "zip" p) [a,b] [] pos) (Oe X.K z):=by
 intro i s A H R I h;refine a5M (i0 I Q U Boot.«zip» (Xc (aR (O pos i s A H _ I h) λus d ⟨vs,v,g,r1,q1⟩=>?_) Z o));obtain⟨l,m,rfl,⟨ws,Y⟩,⟨ws2,n⟩,q⟩:=q1;cases r1 with
 |cons ru r=>
  cases r with
  |cons u r=>
   cases r;cases ru;cases u;obtain⟨its,rv,y,hz⟩:=g.list Y;obtain⟨x,rv2,k,hz2⟩:=g.list n;have la:l<d.heap.objs.size:=let⟨_,e,_⟩:=y.isList;Vn e;have lb:m<d.heap.objs.size:=let⟨_,e,_⟩:=k.isList;Vn e;refine call_zip_2 y.isList k.isList λN w G K L M hsz T=>a4O w ?_;have B:Inv X i A v {d with heap:=N}:=g.kept (t':=d.toks) T;have E:ZipApart (d.heap.objs.size+4) (d.heap.objs.size+2) (d.heap.objs.size+3) d.heap.objs.size (d.heap.objs.size+1) l m:=by have la':@LT.lt Nat _ l d.heap.objs.size:=la;have lb':@LT.lt Nat _ m d.heap.objs.size:=lb;constructor<;>(show @Ne Nat _ _;lia)
   refine⟨d.heap.objs.size+4,[d.heap.objs.size+4,d.heap.objs.size+2,d.heap.objs.size+3,d.heap.objs.size,d.heap.objs.size+1],_,_,v,rfl,B,Oc E,⟨w,G,⟨_,_,K⟩,L,M⟩,λc hc=>?_,q⟩;have j:d.heap.objs.size<=c:=by simp only[Wf,Yy,or_false]at hc;rcases hc with rfl|rfl|rfl|rfl|rfl<;>first|exact Nat.le_add_right _ _|exact Vk _
   exact g.fpOk j (g.hok.fresh j)
theorem Og{X:Cx}{a b:Expr}{ms:MA}{n:Nat}{p pos:W9}(d:Gl X "zip") (e:X.mg "zip"=b3) (m:QA X [a,b] ms n):QJT X (.Call (.Name "zip" p) [a,b] [] pos) (qL ms):=⟨λes Y pt a5N s σ H R I hw=>by
 have g:=m.s;rw[Wg,Vl,Wg,Vl]at g;obtain⟨T,U,O,L,Z,Q,q,E,c,k⟩:=hw;obtain⟨⟨x,i⟩,w,c⟩:=U7.mp c;refine Of d e m.h (fS g.1) (by rw[fS g.2.1];rfl) a5N s σ H R I ⟨T,U,O,x,i,q,E,w,λj vs o v l h=>?_⟩;dsimp only at c;split at c
 .rename_i x y;obtain⟨xs,z,c⟩:=U7.mp c;obtain⟨ys,A,c⟩:=Vd.mp c;cases c;cases h with
  |cons h M=>
   cases M with
   |cons B N=>cases N;obtain⟨r,u,rfl,rfl,G,K,W⟩:=Od l h B z A;exact⟨r,u,rfl,G,K,k j o _ v l W⟩
 .cases c⟩
section
variable{P:VE}{w:VW}{A:VO}{E:Value->Ve->Prop}{s:Ve}{a:Addr}
theorem Oh:a4n (.type "tuple") "keys"=pure none:=by rw[typeLookup_type,builtinLookup_eq_fast];kernel_rfl
theorem Oi{o:Obj}{xs:Array Value}{k:Nat}{Q:Option Value->Ve->Prop}(g:s.heap.get? a=b0 o)(j:o.cls=.type "tuple") (l:o.data=.seq xs k)(m:o.dict=b3)(hA:A.handled=b3)
  (q:∀h n,(∀b u,s.heap.get? b=b0 u->h.get? b=b0 u)->Q b3 {s with heap:=h,toks:=n}):VH (VF P w) A (getAttr? (.ref a) "keys") Q E s:=by
 obtain⟨c,r,p,B⟩:=o;dsimp only at j l m;subst j l m;obtain⟨y,x,v,n,z⟩:=s;have ty:∀d,(⟨y,x,v,d,z⟩:Ve).TypeIs (.ref a) "tuple":=λ_=>⟨_,g,rfl⟩;have G:=sub_AttributeError;have H:=F.slot_tuple_getattribute.lookup;have I:=F.slot_tuple_getattribute.bind (.ref a);have K:=am_tuple_getattr_none;unfold getAttr? getAttrBy? getAttrBy;repeat (any_goals (first|assumption|exact ty _|((with_reducible show VH _ _ (call (Xr "tuple.__getattribute__") _ _) _ _ _);refine a0X F.slot_tuple_getattribute (ty _) am_entry_tuple_getattribute (F.args_tuple_getattribute_2 _ _) (meets_getattribute_miss_tuple a xs k B "keys" _ Oh (by decide +kernel)) ⟨g,hA,λh d e ne=>?_⟩)|wp_step))
 obtain⟨L,M,i⟩:=ne.there;show VH _ _ (a4q _ _ _ _ b3 b5 b5) _ _ _;unfold a4q;repeat (any_goals (first|assumption|wp_step))
 exact q _ _ ne.of.keeps
end
theorem DP:entryFor table "dict.update.loop"=b0 Builtin.«dict.update.loop»:=entryFor_of_tree (by kernel_rfl)
theorem tT:plainId "dict.update.loop"=true:=by decide +kernel
noncomputable def mW(ps:bO):List (Addr×List Int×Addr×V)->bO
 |[]=>ps|r::L=>mW (eE ps r.2.1 r.2.2.1 r.2.2.2) L
section
variable{X:Cx}{a5N:jw}{σ:St}{A:VO}{E:Value->Ve->Prop}{d:Addr}
theorem Oj{H:Hp}{s:Ve}{b:Addr}{k:List Int}{v:V}{u:Value}{ps:bO}{Q:Unit->Ve->Prop}(z:A.units<W0)(I:Inv X a5N σ H s)(e:H d=b0 (aS d ps))(w:dY X.K H ps)(n:SqT X.K H b (k.map V.int))(hz:ps.length<Vp)(K:RelV v u)
  (h:∀i,Inv X a5N σ (aK H d (aS d (eE ps k b v))) i->(∀c o,c≠d->s.heap.get? c=b0 o->i.heap.get? c=b0 o)->Q () i):VH (VF X.prog X.w) A (dictSet d (.ref b) u) Q E s:=by
 obtain⟨y,N,L,r,j⟩:=k8 I (.of e) w;have B:(bZ ps L).length<=Vp:=by have:=congrArg WI (oS r);rw[U8,U8]at this;lia
 refine wpAny_dictSet_heap (hsz:=B) (show(ZK (YF X.prog X.w)).room A from z) (k7 I n) j λm g a=>h _ ?_ λc o hc e=>a.extBut c o hc e;obtain⟨M,G,l⟩:=DD r k b K;rw[l]at g;have p:∃q,m.get? d=b0 q:=let⟨q,_,_,x,_⟩:=g;⟨q,x⟩;exact Bx I (by rw[e];exact Y5) a p (yH y (by have:=yG ps k b v;lia) G g)
end
theorem qM{K:U9}{H:Hp}{d b:Addr}{o:HO}{ps:bO}{vs:gw}(e:H d=b0 (aS d ps))(h:SqT K H b vs):SqT K (aK H d o) b vs:=by
 have ne:∀{u},H b=b0 u->(∀c,u≠aS d c)->b≠d:=λz f y=>by rw[y,e]at z;cases z;exact f ps rfl
 rcases h with(h|⟨a,h⟩)|h
 .exact .inl (.inl (by rw[a8 (ne h λ_ z=>by cases z)];exact h))
 .exact .inl (.inr ⟨a,by rw[a8 (ne h λ_ z=>by cases z)];exact h⟩)
 .exact .inr h
theorem Ol{K:U9}{H:Hp}{ps:bO}{k:List Int}{b:Addr}{v:V}(h:dY K H ps)(g:SqT K H b (k.map V.int)):dY K H (eE ps k b v):=by
 intro p a;unfold eE at a;split at a
 .obtain⟨d,c,e⟩:=VQ.mp a;by_cases z:d.1=k
  .rw[if_pos z]at e;subst e;exact h d c
  .rw[if_neg z]at e;subst e;exact h d c
 .rcases V4.mp a with a|a
  .exact h p a
  .rw[V8.mp a];exact g
theorem DQ{H:Hp}{d:Addr}{o a:HO}:aK (aK H d o) d a=aK H d a:=by
 funext b;unfold aK;split
 .rfl
 .rfl
theorem Om{P:VE}{w:VW}{A:VO}{E:Value->Ve->Prop}{s:Ve}{p:Addr}{xs:Array Value}{Q:gq->Ve->Prop}(h:a4N s.heap p xs)(q:Q xs.toList s):VH (VF P w) A (a0V (.ref p)) Q E s:=by obtain⟨o,g,c,n,a⟩:=h;have ty:s.TypeIs (.ref p) "tuple":=⟨o,g,c⟩;unfold a0V;refine Va (a3a ty ?_);rw[if_pos (by decide)];unfold Zk;refine Va (Va (a2h g ?_));rw[a];exact Vj (Vj q)
section
variable{X:Cx}{a5N:jw}{σ:St}{A:VO}{d t it:Addr}{ys:gw}{R:a1G->Ve->Prop}
theorem Oo(hh:A.handled=b3)(hu:A.in1.units<W0):∀(L:List (Addr×List Int×Addr×V))(i:Nat)(ps:bO)(H:Hp)(s:Ve),Inv X a5N σ H s->H d=b0 (aS d ps)->dY X.K H ps->SqT X.K H t ys->ys.drop i=L.map (λr=>V.ref r.1)->
  (∀r∈L,SqT X.K H r.1 [.ref r.2.2.1,r.2.2.2]/\SqT X.K H r.2.2.1 (r.2.1.map V.int))->fZ X a5N H it->s.heap.IsTupleIter it t i->ps.length+L.length<=Vp->
  (∀E,Inv X a5N σ (aK H d (aS d (mW ps L))) E->R (.ok (.ret .none)) E)->Zt (VF X.prog X.w) A (.builtin "dict.update.loop" ⟨[.ref d,.ref it,Zl i,.none],[]⟩) R s:=by
 intro L;induction L with
 |nil=>
  intro i ps H s I e O w hd y N st T q;obtain⟨g,Z,p,U⟩:=I.tuple w;obtain⟨j,l,f2,m,n,v⟩:=N;have hl:=Z.length;have hlen:ys.length<=i:=by have:=congrArg WI hd;simp at this;lia
  refine WC DP ?_;rw[V9 tT _];show VH _ A.in1 (Yp (.ref it) >>= _) _ _ s;refine Va (a3b hh st (show s.heap.IsTuple t g.toArray from p) (by simp;lia) λG eb=>?_);have k:Inv X a5N σ H {s with heap:=G}:=I.turned (t':=s.toks) (λb o K e=>eb b o K e) j l m n v;show VH _ _ (a5D d [] >>= _) _ _ _;refine Va (Vj (Vj (q _ ?_)));have:aK H d (aS d (mW ps []))=H:=by
   funext b;unfold aK;split
   .rename_i z;rw[z];exact e.symm
   .rfl
  rw[this];exact k
 |cons r L ih=>
  intro i ps H s I e O w hd y N st T q;obtain⟨g,Z,p,U⟩:=I.tuple w;obtain⟨j,l,f2,m,n,v⟩:=id N;have B:ys[i]?=b0 (.ref r.1):=by have:=congrArg (·[0]?) hd;simpa using this
  obtain⟨u,eJ,ru⟩:=Z.get B;cases ru;refine WC DP ?_;rw[V9 tT _];show VH _ A.in1 (Yp (.ref it) >>= _) _ _ s;refine Va (a2M st (show s.heap.IsTuple t g.toArray from p) (x:=.ref r.1) (by simpa using eJ) λG st' sb=>?_);have k:Inv X a5N σ H {s with heap:=G}:=I.turned (t':=s.toks) (λb o K e=>(sb.2 b K).trans e) j l m n v;have a:=y r (Wj ..);obtain⟨its2,rv2,p2,_⟩:=k.tuple a.1;cases rv2 with
  |cons rk Y=>
   cases Y with
   |cons rw' Y=>
    cases Y;cases rk;rename_i w0;refine Va (Ws (Va (XB (Om p2 ?_))));have Q:ps.length<Vp:=by rw[VD]at T;lia
    refine Ws (Oj hu k e O a.2 Q rw' λE I2 kp=>?_);refine Vj ⟨WT tT _,?_⟩;have bH:it≠d:=λz=>by rw[<- z,j]at e;cases e
    have c:∀x∈L,SqT X.K (aK H d (aS d (eE ps r.2.1 r.2.2.1 r.2.2.2))) x.1 [.ref x.2.2.1,x.2.2.2]/\SqT X.K (aK H d (aS d (eE ps r.2.1 r.2.2.1 r.2.2.2))) x.2.2.1 (x.2.1.map V.int):=λx B=>⟨qM e (y x (VU _ B)).1,qM e (y x (VU _ B)).2⟩;have M:ys.drop (i+1)=L.map (λr=>V.ref r.1):=by have:=congrArg List.tail hd;simpa[List.tail_drop]using this
    refine ih (i+1) (eE ps r.2.1 r.2.2.1 r.2.2.2) _ E I2 cH (Ol (λp hp=>qM e (O p hp)) (qM e a.2)) (qM e w) M c ⟨by rw[a8 bH];exact j,l,f2,m,n,v⟩ (st'.at λo ho=>kp it o bH ho) ?_ λs'' h=>q s'' ?_
    .have:=yG ps r.2.1 r.2.2.1 r.2.2.2;rw[VD]at T;lia
    .rw[DQ]at h;exact h
end
section
variable{X:Cx}
noncomputable def DR(K:U9):gw->Hp->VK->Prop:=λxs H Q=>∃(t:Addr)(L:List (Addr×List Int×Addr×V)),xs=[V.ref t]/\SqT K H t (L.map λr=>V.ref r.1) /\
 (∀r∈L,SqT K H r.1 [.ref r.2.2.1,r.2.2.2]/\SqT K H r.2.2.1 (r.2.1.map V.int))/\∀d,H d=b3->Q (.ref d) (aK H d (aS d (mW [] L)))
theorem Oq(hc:X.calm=dI)(Y:X.A.units+64<W0):CallR X (.type "dict") (DR X.K):=by
 intro d s N H xs us Q I r h;obtain⟨t,L,rfl,v,M,k⟩:=h;obtain⟨u,rfl,ru⟩:=i5 r;cases ru;have K:H s.heap.objs.size=none:=I.hok.fresh (Vk _);refine callType_codes (Q₁:=λi c=>i=.ref s.heap.objs.size/\c={s with heap:=s.heap.push {cls:=.type "dict",data:=.dict #[]}}) F.kt_called_dict (F.kt_typeCall_dict_1 _) F.entry_dict_init (kt_code_dict_new _ ⟨rfl,rfl⟩) ?_;rintro i c ⟨rfl,rfl⟩;have B:Inv X d N (aK H s.heap.objs.size (aS s.heap.objs.size [])) {s with heap:=s.heap.push {cls:=.type "dict",data:=.dict #[]}}:=I.laid (a:=s.heap.objs.size) (o:=aS s.heap.objs.size []) (t':=s.toks) (λ_ _ q=>Vg _ q) (Vk _) (DE s.heap I.big);have ty:({s with heap:=s.heap.push {cls:=.type "dict",data:=.dict #[]}}:Ve).TypeIs (.ref s.heap.objs.size) "dict":=⟨_,Vr _ rfl,rfl⟩;refine⟨ty,F.args_dict_init_2 _ _,?_⟩;unfold Builtin.«dict.__init__»;refine Va ?_;unfold a5z;refine Va (a0r ty ?_);show VH _ _ (pure (s.heap.objs.size,[VA t])) _ _ _;refine Vj ?_;show VH _ _ (a0K "dict.__init__" s.heap.objs.size (.ref t) [] .none) _ _ _;unfold a0K;have mono:∀{b:Addr}{vs:gw},SqT X.K H b vs->SqT X.K (aK H s.heap.objs.size (aS s.heap.objs.size [])) b vs:=λ{b vs} z=>by
  have ne:H b≠b3->b≠s.heap.objs.size:=λf y=>by rw[y]at f;exact f K
  rcases z with(z|⟨x,z⟩)|z
  .exact .inl (.inl (by rw[a8 (ne (by rw[z];exact λy=>nomatch y))];exact z))
  .exact .inl (.inr ⟨x,by rw[a8 (ne (by rw[z];exact λy=>nomatch y))];exact z⟩)
  .exact .inr z
 obtain⟨Z,rv,x,E,G,n,R,T⟩:=B.tupN (mono v);refine Va (a3a ⟨x,E,G⟩ ?_);rw[if_pos (by decide)];refine Va (Oi E G R T (I.ok.hd hc) λm l kp=>?_);have j:Inv X d N (aK H s.heap.objs.size (aS s.heap.objs.size [])) {s with heap:=m,toks:=l}:=B.kept (t':=l) kp;show VH _ _ (rule _ >>= _) _ _ _;refine Va (Ym ?_);obtain⟨a,rv',p',w⟩:=j.tuple (mono v);refine Va (Yn (t:=t) (items:=a.toArray) (show({s with heap:=m,toks:=l}:Ve).heap.IsTuple t a.toArray from p') ?_);have O:=j.kept (t':=l) (h':=m.push {cls:=.type "tuple_iterator",data:=.fields #[.ref t,.int 0 0]}) λb o e=>Vg _ e;refine Vj ⟨WT tT _,?_⟩;refine Oo (A:=X.A.in1) (I.ok.hd hc) ?_ L 0 [] _ _ O cH (λp U=>nomatch U) (mono v) rfl (λr g=>⟨mono (M r g).1,mono (M r g).2⟩) (j.fpOk (Vk _) (j.hok.fresh (Vk _))) ⟨_,Vr _ rfl,rfl,rfl⟩ ?_ λs' A=>?_
 .show X.A.units+1+1<W0;lia
 .have:=w;simp at this ⊢;exact this
 .rw[DQ]at A;exact⟨rfl,.ref s.heap.objs.size,_,A,rfl,k _ K⟩
end
noncomputable def oW:List D->Option (jx)
 |[]=>b0 []|.tup [x,v]::r=>(cQ x).bind λk=>(oW r).map λl=>(k,v)::l|_::_=>b3
noncomputable def mX:MF:=λds a=>match ds with
 |[.tup xs]=>(oW xs).map λl=>(.loc a.length,a++[.dT (l.foldl (λq p=>dW q p.1 p.2) [])])|_=>b3
section
variable{K:U9}{π:Nat->Addr}{n:Nat}{H:Hp}
noncomputable abbrev DS(K:U9)(π:Nat->Addr)(n:Nat)(H:Hp):List (Addr×List Int×Addr×V)->jx->Prop:=
 Zo λr p=>r.2.1=p.1/\SqT K H r.1 [.ref r.2.2.1,r.2.2.2]/\SqT K H r.2.2.1 (r.2.1.map V.int)/\IsD K π n H r.2.2.2 p.2
theorem DT:∀{xs:List D}{ws:gw}{l:jx},IsDs K π n H ws xs->oW xs=b0 l->∃L,ws=L.map (λr=>V.ref r.1)/\DS K π n H L l
 |[],_,_,.nil,h=>by cases h;exact⟨[],rfl,.nil⟩
 |x::xs,_,l,.cons i t,h=>by
  unfold oW at h;split at h
  .rename_i a;cases a
  .rename_i y v r a;cases a;obtain⟨k,d,h⟩:=U7.mp h;obtain⟨m,e,rfl⟩:=Vd.mp h;obtain⟨L,rfl,P⟩:=DT t e;cases i with
   |tup q z=>
    cases z with
    |cons g z=>
     cases z with
     |cons j z=>cases z;obtain⟨b,rfl,c⟩:=oT g d;exact⟨(_,k,b,_)::L,rfl,.cons ⟨rfl,q,c,j⟩ P⟩
  .cases h
theorem DU:∀{L:List (Addr×List Int×Addr×V)}{l:jx},DS K π n H L l->∀{ps:bO}{kvs:jx},IsTs K π n H ps kvs->IsTs K π n H (mW ps L) (l.foldl (λq p=>dW q p.1 p.2) kvs)
 |_,_,.nil,_,_,h=>h|r::L,p::l,.cons e t,ps,kvs,h=>by obtain⟨a,_,c,d⟩:=e;show IsTs K π n H (mW (eE ps r.2.1 r.2.2.1 r.2.2.2) L) (l.foldl _ (dW kvs p.1 p.2));rw[<- a];exact DU t (h.put r.2.1 c d)
end
theorem Ot{K:U9}:dS K mX (DR K):=by
 intro x H w o d s v Q R i a k;unfold mX at a;split at a
 .rename_i o;obtain⟨l,g,m⟩:=Vd.mp a;cases m;cases i with
  |cons i t=>
   cases t;cases i with
   |tup q z=>
    obtain⟨L,rfl,P⟩:=DT z g;refine⟨_,L,rfl,q,?_,λd hd=>?_⟩
    .clear q z k a g;induction P with
     |nil=>exact λr c=>nomatch c|cons e t n=>
      intro r c;rcases Wf.mp c with rfl|c
      .exact⟨e.2.1,e.2.2.1⟩
      .exact n r c
    .have T:=DU P (ps:=[]) (kvs:=[]) .nil;obtain⟨j,h,u⟩:=R.alloc (c:=.dT (l.foldl (λq p=>dW q p.1 p.2) [])) (o:=aS d (mW [] L)) hd ⟨_,rfl,T.to.1,T.to.2.1,T.to.2.2⟩;exact k _ _ _ j h mF
 .cases a
noncomputable def ItI(h:WA)(e d S:Addr)(i n ep:Nat):Prop:=∃(c ok j:Value)(g:Bool),h.get? e=b0 {cls:=.type "dict_itemiterator",dict:=b3,data:=.fields #[c,.bool g,.ref d,.int i 0,.int n 0,.int ep 0,ok,j],slots:=#[]} /\
 (c=.none\/∃(a:Addr)(o:Obj),c=Zl a/\h.get? a=b0 o/\a≠e/\a≠S)
theorem ItI.stay{h h':WA}{c d S:Addr} {i n ep} (j:ItI h c d S i n ep)(m:c≠S)(k:∀b o,b≠S->h.get? b=b0 o->h'.get? b=b0 o):ItI h' c d S i n ep:=by
 obtain⟨v,ok,p,l,e,r⟩:=j;refine⟨v,ok,p,l,k _ _ m e,?_⟩;rcases r with r|⟨a,o,q,s,u,g⟩
 .exact .inl r
 .exact .inr ⟨a,o,q,k _ _ g s,u,g⟩
section
variable{P:VE}{w:VW}{A:VO}{E:Value->Ve->Prop}{s:Ve}{d it S:Addr}{i ep:Nat}{es:Array DictEntry}
theorem yL{n ok G:Value}{M:Bool}{Q:Option Value->Ve->Prop}(hh:A.handled=b3)(y:s.heap.get? it=b0 {cls:=.type "dict_itemiterator",dict:=b3,data:=.fields #[n,.bool M,.ref d,.int i 0,.int es.size 0,.int ep 0,ok,G],slots:=#[]}) (jr:n=.none\/∃(a:Addr)(o:Obj),n=Zl a/\s.heap.get? a=b0 o/\a≠it/\a≠S)(g:RawD s.heap d es ep)(hS:S<s.heap.objs.size)
  (q1:∀e j,es[i]?=b0 e->ItI j it d S (i+1) es.size ep->(n=.none->a0U j it d (i+1) es.size ep e.key e.val s.heap.objs.size)->j.get? s.heap.objs.size=b0 {cls:=.type "tuple",data:=.seq #[e.key,e.val]}->j.objs.size=s.heap.objs.size+1->(∀b o,b≠it->s.heap.get? b=b0 o->j.get? b=b0 o)->Q (b0 (.ref s.heap.objs.size)) {s with heap:=j})
  (q2:es[i]?=b3->∀j,a0f it s.heap j->Q b3 {s with heap:=j}):VH (VF P w) A (Yp (.ref it)) Q E s:=by
 obtain⟨z,g1,g2,g3⟩:=id g;have ty:s.TypeIs (.ref it) "dict_itemiterator":=⟨_,y,rfl⟩;obtain⟨c,r,p,H,B⟩:=s;have U:∀{Q:String->Ve->Prop}{A:VO}{E:Value->Ve->Prop},Q "dict_itemiterator" ⟨c,r,p,H,B⟩->VH (VF P w) A (a5f (.ref it)) Q E ⟨c,r,p,H,B⟩:=λq=>wpAny_typeNameOfWhole_itemiter ty q;unfold Yp;refine Va (a2G (a2N (name:=XZ "__next__") ty F.slot_dict_itemiterator_next (XM F.slot_dict_itemiterator_next ty F.entry_dict_itemiterator_next ?_ (F.args_dict_itemiterator_next_1 _))));refine Va (Vj (Va (Va (Va (U (Vj (Va (a5F y rfl ?_))))))));simp only[show YD "dict_itemiterator"=dI by decide,if_true];show VH _ _ (if(VA d==W8)=dI then _ else _) _ _ _;rw[if_neg (show ¬ (VA d==W8)=dI from λx=>Vm x)];refine Va (Vj (Va (Y7 g1 g3 ?_)));rw[if_neg (λx=>by simp at x)];refine Va (Vj (Va (a0l g1 g3 ?_)));rw[if_neg (λx=>by simp at x)];refine Vj ?_;simp only[if_neg (show ¬ ((i:Int)<0) by lia),WR];have T:it<c.objs.size:=Vn y;cases he:es[i]? with
 |some e=>
  refine Va (Va (U (Vj (Va (a0h ty ?_)))));show VH _ _ (a3L (.ref it) 3 (Zl ((i:Int)+1)) >>= _) _ _ _;refine Va (Yl y (by simp) λu O R=>?_);replace R:Y0 it c u:=R;replace O:u.get? it=b0 {cls:=.type "dict_itemiterator",dict:=b3,data:=.fields #[n,.bool M,.ref d,.int ((i+1:Nat):Int) 0,.int es.size 0,.int ep 0,ok,G],slots:=#[]}:=by rw[show((i+1:Nat):Int)=(i:Int)+1 by lia];simpa[Zl]using O
  have I:Shared.TypeIs ⟨u,r,p,H,B⟩ (.ref it) "dict_itemiterator":=⟨_,O,rfl⟩;refine Va (Ws (Va (a0h I (Va (a0h I ?_)))));show VH _ _ (ZN (.ref it) 6 e.key e.val) _ _ _;unfold ZN;refine Va (a2g ?_);have zu:u.objs.size=c.objs.size:=R.1;have k:=Vg {cls:=.type "tuple",data:=.seq #[e.key,e.val]} O;have Z:(u.push {cls:=.type "tuple",data:=.seq #[e.key,e.val]}).get? c.objs.size=b0 {cls:=.type "tuple",data:=.seq #[e.key,e.val]}:=zu▸Vr u rfl;have vz:(u.push {cls:=.type "tuple",data:=.seq #[e.key,e.val]}).objs.size=c.objs.size+1:=by rw[X1,zu]
  have K:∀b o,b≠it->c.get? b=b0 o->(u.push {cls:=.type "tuple",data:=.seq #[e.key,e.val]}).get? b=b0 o:=λb o N x=>Vg _ (R.extBut b o N x);show VH _ _ (ZA (.ref it) >>= _) _ _ ⟨u.push {cls:=.type "tuple",data:=.seq #[e.key,e.val]},r,p,H,B⟩;rw[zu];generalize u.push {cls:=.type "tuple",data:=.seq #[e.key,e.val]}=v at k Z vz K;have h:c.objs.size≠it:=Xj T;have fin:∀l:WA,ItI l it d S (i+1) es.size ep->(n=.none->a0U l it d (i+1) es.size ep e.key e.val c.objs.size)->Y0 it v l->Q (b0 (.ref c.objs.size)) ⟨l,r,p,H,B⟩:=λl j' jo Y=>q1 e l he j' jo (Y.extBut _ _ h Z) (by show l.objs.size=_;rw[Y.1,vz]) λb o N x=>Y.extBut b o N (K b o N x);refine Va ?_;unfold ZA;rcases jr with rfl|⟨a,o,rfl,X,m,r4⟩
  .refine Va (ZV k rfl (x:=.none) rfl (Vj ?_));simp only[if_true];refine Va (ZV k rfl (x:=ok) rfl (Va (ZV k rfl (x:=G) rfl ?_)));refine Va (Yl k (by simp) λv3 x3 L=>Va (Yl x3 (by simp) λv4 x4 y4=>Va (Yl x4 (by simp) λv5 x5 y5=>Va (Yl x5 (by simp) λv6 x6 y6=>?_))));have x7:a0U v6 it d (i+1) es.size ep e.key e.val c.objs.size:=x6;refine Va (X7 (Vj (Vj ⟨_,rfl,Vj (fin v6 ?_ (λ_=>x7) ?_)⟩)))
   .refine⟨Zl c.objs.size,e.key,e.val,b5,x7,.inr ⟨c.objs.size,_,rfl,y6.extBut _ _ h (y5.extBut _ _ h (y4.extBut _ _ h (L.extBut _ _ h Z))),h,Xj hS⟩⟩
   .exact((L.trans y4).trans y5).trans y6
  .refine Va (ZV k rfl (x:=Zl a) rfl ?_);show VH _ _ (loadIfAlive ((a:Int).toNat) >>= _) _ _ _;rw[WR];refine Va (PySem.W.kdx_alive (K a o m X) ?_);simp only[Option.isNone_some,Vu,if_false];refine Va (ZV k rfl (x:=.bool M) rfl ?_);cases M with
   |true=>rw[if_neg (show ¬ ((Xs dI != Xs dI)=dI)from λx=>Vm x)];refine Vj ?_;simp only[Vu,if_false];exact Vj (Vj ⟨_,rfl,Vj (fin v ⟨_,ok,G,dI,k,.inr ⟨a,o,rfl,K a o m X,m,r4⟩⟩ (λz=>nomatch z) (a1K _ _))⟩)|false=>rw[if_pos (show(Xs b5 != Xs dI)=dI from rfl)];refine Va (Yl k (by simp) λv3 x3 L=>Vj ?_);simp only[Vu,if_false];exact Vj (Vj ⟨_,rfl,Vj (fin v3 ⟨_,ok,G,dI,by simpa using x3,.inr ⟨a,o,rfl,L.extBut a o m (K a o m X),m,r4⟩⟩ (λz=>nomatch z) L)⟩)
 |none=>refine Va (Va (U (Vj ?_)));show VH _ _ (a3L (.ref it) 2 .none >>= _) _ _ _;refine Va (a2f y rfl (by simp) ?_);show VH _ _ (a5I (.type "StopIteration") [] >>= _) _ _ _;simp only[a5I,a3N];refine Va (Va (WL ?_ (by size_fits)));refine Va (m:=a0A _ _) (a1M (a:=W8) (by first|rfl|(simp only[a0A];rfl)) (WL ?_ (by size_fits)));simp only[raiseNew];refine Va (wpAny_handled ?_);rw[show A.in1.handled=b3 from hh];refine Va (Vj (wpAny_throw ?thrown));case thrown=>exact Va (a1B (T:="StopIteration") (b:=dI) ⟨_,Vr _ rfl,rfl⟩ a5L (Vj (q2 he _ (((ZR ..).extBut.push _).push _))))
theorem DV{r:Addr}{Q:Value->Ve->Prop}(a:s.heap.IsItemsView r d)(g:RawD s.heap d es ep)
  (q:Q (.ref s.heap.objs.size) {s with heap:=s.heap.push {cls:=.type "dict_itemiterator",data:=.fields #[.none,.bool b5,.ref d,.int 0 0,.int es.size 0,.int ep 0,.none,.none]}}):VH (VF P w) A (a1D (.ref r)) Q E s:=by
 obtain⟨y,h,l,j⟩:=id a;obtain⟨z,c,k,e⟩:=id g;refine a4A a.typeIs F.slot_dict_items_iter (XM F.slot_dict_items_iter a.typeIs F.entry_dict_items_iter ?_ (F.args_dict_items_iter_1 _));unfold Builtin.«dict_items.__iter__» a3K a3J;refine Va (Vj (Va (Va (ZV h j (x:=.ref d) rfl (Vj (Va (Va (Y7 c e (Va (a0l c e ?_))))))))));simp only[show YD "dict_itemiterator"=dI by decide,if_true];refine WL (Vj ⟨_,rfl,"dict_itemiterator",_,⟨_,Vr _ rfl,rfl⟩,F.slot_dict_itemiterator_next.lookup,?_⟩) (by simp only[sizeOk,ZC,Vi,Vh,VD,Xi];rw[VC];lia);simpa[Zl,ZC]using q
end
structure PrsAt(es:Array DictEntry)(lo:Addr)(h:WA)(as:List Addr):Prop where
 up:as.Pairwise (·<·)
 over:∀a∈as,lo<a
 prs:∀(j:Nat)(a:Addr),as[j]?=b0 a->∃e,es[j]?=b0 e/\h.get? a=b0 {cls:=.type "tuple",data:=.seq #[e.key,e.val]}
theorem PrsAt.stay{es:Array DictEntry}{lo:Addr}{h h':WA}{as:List Addr}(p:PrsAt es lo h as)(k:∀b o,lo<b->h.get? b=b0 o->h'.get? b=b0 o):PrsAt es lo h' as:=
 ⟨p.up,p.over,λj a c=>let⟨e,d,g⟩:=p.prs j a c;⟨e,d,k a _ (p.over a (VR c)) g⟩⟩
theorem PrsAt.lt{es:Array DictEntry}{lo:Addr}{h:WA}{as:List Addr}(p:PrsAt es lo h as){a:Addr}(c:a∈as):a<h.objs.size:=by obtain⟨j,d⟩:=Yk.mp c;obtain⟨_,_,e⟩:=p.prs j a d;exact Vn e
theorem PrsAt.snoc{es:Array DictEntry}{lo:Addr}{h:WA}{as:List Addr}{b:Addr}{e:DictEntry}(p:PrsAt es lo h as)(k:∀a∈as,a<b)(m:lo<b)(l:es[as.length]?=b0 e)(n:h.get? b=b0 {cls:=.type "tuple",data:=.seq #[e.key,e.val]}):PrsAt es lo h (as++[b]):=by
 refine⟨W2.mpr ⟨p.up,List.pairwise_singleton _ _,λa d c hc=>by rw[V8.mp hc];exact k a d⟩,λa d=>?_,λj a g=>?_⟩
 .rcases V4.mp d with d|d
  .exact p.over a d
  .rw[V8.mp d];exact m
 .rcases ZL j as.length with i|i|i
  .rw[Vy i]at g;exact p.prs j a g
  .subst i;have:b=a:=by simpa using g
   subst this;exact⟨e,l,n⟩
  .rw[Xe (by simp;lia)]at g;cases g
section
variable{P:VE}{w:VW}{A:VO}{s:Ve}{R:a1G->Ve->Prop}{es:Array DictEntry}{ep:Nat}{S I d:Addr}
theorem Ou(U:A.handled=b3)(v:S<I)(K:d≠S)(H:d≠I)(hn:es.size<=Vp)(res:Value){h1:WA}
  (X:∀(h':WA)(tk:Nat)(j:Array Value)(c:Nat)(as:List Addr),(∀b o,b≠S->b≠I->h1.get? b=b0 o->h'.get? b=b0 o)->h'.get? S=b0 {cls:=.type "list",dict:=b3,data:=.seq j c,slots:=#[]}->as.length=es.size->PrsAt es I h' as->j.toList=as.map VA->R (.ok (.ret res)) {s with heap:=h',toks:=tk}) :
  ∀(k i:Nat)(h:WA)(tk c:Nat)(j:Array Value)(as:List Addr),es.size-i=k->i<=es.size->ItI h I d S i es.size ep->RawD h d es ep->(∀b o,b≠S->b≠I->h1.get? b=b0 o->h.get? b=b0 o)->h.get? S=b0 {cls:=.type "list",dict:=b3,data:=.seq j c,slots:=#[]}->
   j.toList=as.map VA->as.length=i->PrsAt es I h as->I<h.objs.size->Zt (VF P w) A (.builtin "list.extend.loop" ⟨[.ref S,.ref I,res],[]⟩) R {s with heap:=h,toks:=tk}:=by
 have ne:S≠I:=VI v;intro k;induction k with
 |zero=>intro i h tk c j as Z Y ⟨_,_,_,_,N,O⟩ g Q n E y G lt;refine WC F.entry_extend_loop ?_;rw[V9 F.plain_extend_loop _];refine Va (m:=Yp (.ref I)) (yL (s:={s with heap:=h,toks:=tk}) (A:=A.in1) U N O g (Vn n) (λe h' m=>?_) λ_ h' x=>Vj (X h' tk j c as (λb o B r z=>x b o r (Q b o B r z)) (x S _ ne n) (by lia) (G.stay λb o p z=>x b o (Xj p) z) E));rw[Array.getElem?_eq_none (by lia)]at m;cases m|succ k ih=>
  intro i h tk c j as Z Y ⟨_,_,_,_,N,O⟩ g Q n E y G lt;have sz:j.size=i:=by rw[<- YA,E,U8,y]
  refine WC F.entry_extend_loop ?_;rw[V9 F.plain_extend_loop _];refine Va (m:=Yp (.ref I)) (yL (s:={s with heap:=h,toks:=tk}) (A:=A.in1) U N O g (Vn n) (λe h' m j' _ M hz l=>?_) λm=>?_)
  .dsimp only at M hz l ⊢;have u:=l S _ ne n;have T:S<h.objs.size:=Vn n;have q:∀b o,b≠S->h'.get? b=b0 o->(h'.update S (Ww (·.push (VA h.objs.size)))).get? b=b0 o:=λb o p z=>(Wl _ _ (WM p)).trans z;refine Va (m:=ZJ S (·.push (VA h.objs.size))) (W7 u rfl (Vj ⟨WT F.plain_extend_loop _,?_⟩) (by rw[sz];lia) (by show(j.push (VA h.objs.size)).size<=Vp+1;rw[Array.size_push,sz];lia));refine ih (i+1) _ tk _ (j.push (VA h.objs.size)) (as++[h.objs.size]) (by lia) (by lia) (j'.stay (WM ne) q) (g.stay λo z=>q d o K (l d o H z)) (λb o B r z=>q b o B (l b o r (Q b o B r z))) (WX _ u rfl) (by rw[Xa,E,VZ];rfl) (by rw[Vh,y];rfl) ?_ ?_
   .exact((G.stay λb o p z=>q b o (Xj (a0J v p)) (l b o (Xj p) z))).snoc (λa L=>G.lt L) lt (by rw[y];exact m) (q _ _ (Xj T) M)
   .exact a0J lt (Vn (q _ _ (Xj T) M))
  .rw[Array.getElem?_eq_getElem (by lia)]at m;cases m
theorem Ov{r:Addr}{res:Value}{c0:Nat}(K:A.handled=b3)(q:s.heap.IsItemsView r d)(g:RawD s.heap d es ep)(Sr:S≠r)(y:d≠S)(B:s.heap.get? S=b0 {cls:=.type "list",data:=.seq #[] c0}) (M:es.size<=Vp)
  (G:∀(h':WA)(tk:Nat)(k:Array Value)(c:Nat)(as:List Addr),(∀b o,b≠S->s.heap.get? b=b0 o->h'.get? b=b0 o)->h'.get? S=b0 {cls:=.type "list",dict:=b3,data:=.seq k c,slots:=#[]}->as.length=es.size->PrsAt es s.heap.objs.size h' as->k.toList=as.map VA->R (.ok (.ret res)) {s with heap:=h',toks:=tk}) :
  VH (VF P w) A.in1 (a0u (.ref S) (.ref r) res) (λfin n=>match fin with|.done f=>R (.ok f) n|.again c'=>c'.quiet=dI/\Zt (VF P w) A c' R n) (λe n=>R (.error e) n) s:=by
 have x:S<s.heap.objs.size:=Vn B;have E:d<s.heap.objs.size:=g.lt;have run:∀(h:WA)(p tk:Nat),(∀b o,b≠S->(s.heap.push {cls:=.type "dict_itemiterator",data:=.fields #[.none,.bool b5,.ref d,.int 0 0,.int es.size 0,.int ep 0,.none,.none]}).get? b=b0 o->h.get? b=b0 o)->h.get? S=b0 {cls:=.type "list",data:=.seq #[] p}->
   Zt (VF P w) A (.builtin "list.extend.loop" ⟨[.ref S,.ref s.heap.objs.size,res],[]⟩) R {s with heap:=h,toks:=tk}:=by
  intro h p tk u i;have z:=u s.heap.objs.size _ (Xj x) (Vr _ rfl);exact Ou (s:=s) (h1:=s.heap) (ep:=ep) K x y (VI E) M res (λh' v k c as O Q T U X=>G h' v k c as (λb o l e=>O b o l (VI (Vn e)) e) Q T U X) es.size 0 h tk p #[] [] (Z1 _) (Xm _)
   ⟨.none,.none,.none,b5,z,.inl rfl⟩ (g.stay λo e=>u d o y (Vg _ e)) (λb o l _ e=>u b o l (Vg _ e)) i rfl rfl ⟨Z4,λ_ H=>(by cases H),λj a L=>(by simp at L)⟩ (Vn z)
 unfold a0u;refine Va (a3a (T:="dict_items") q.typeIs ?_);simp only[show a0F (.ref S) (.ref r)=b5 by simp[a0F,Sr],show(VJ "dict_items"==VJ "list")=b5 by decide,show(VJ "dict_items"==VJ "tuple")=b5 by decide,a1U,Vu,if_false];refine Va (DV q g ?_);have i:=Vg {cls:=.type "dict_itemiterator",data:=.fields #[.none,.bool b5,.ref d,.int 0 0,.int es.size 0,.int ep 0,.none,.none]} B;refine Va (Ws (PySem.W.kdx_hint (let⟨o,N,hc,_⟩:=q;⟨o,Vg _ N,hc⟩) ?_));refine wpAny_ite_split (λ_=>?_) (λ_=>Vj ⟨WT F.plain_extend_loop _,run _ c0 _ (λb o _ e=>e) i⟩);refine Va (Ym (Va ?_));refine Va (m:=ZJ S (·.push .none)) (W7 i rfl ?_);have m:=WX (Ww (·.push W8)) i rfl;refine W7 (hz:=by seq_fits) m rfl (Vj ⟨WT F.plain_extend_loop _,run _ _ _ (λb o l e=>?_) (WX (Ww (·.pop)) m rfl)⟩);exact(Wl _ _ (WM l)).trans ((Wl _ _ (WM l)).trans e)
theorem Ox{r:Addr}{E:Value->Ve->Prop}{T:gq->Ve->Prop}(G:A.handled=b3)(u:s.heap.IsItemsView r d)(g:RawD s.heap d es ep)(H:es.size<=Vp)
  (q:∀(h':WA)(tk:Nat)(as:List Addr),(∀b o,s.heap.get? b=b0 o->h'.get? b=b0 o)->as.length=es.size->PrsAt es s.heap.objs.size h' as->s.heap.objs.size<=h'.objs.size->T (as.map VA) {s with heap:=h',toks:=tk}):VH (VF P w) A (collect (.ref r)) T E s:=by
 have K:r<s.heap.objs.size:=let⟨_,n,_⟩:=u;Vn n
 unfold collect
 refine Va (wpAny_runValue (WC a5p ?_))
 rw[V9 F.plain_proto_collect _]
 refine Va (m:=newList []) (WL (Vj ⟨WT F.plain_list_iadd _,WC a5q ?_⟩))
 rw[V9 F.plain_list_iadd _]
 have z:(s.heap.push {cls:=.type "list",data:=.seq ([]:gq).toArray}).get? s.heap.objs.size=b0 {cls:=.type "list",data:=.seq #[]}:=Vr _ rfl
 have all:=Ov (A:=A) (s:={s with heap:=s.heap.push {cls:=.type "list",data:=.seq ([]:gq).toArray}}) (P:=P) (w:=w) (es:=es) (ep:=ep) (res:=.ref s.heap.objs.size) (c0:=0)
  (R:=λ(q:a1G)(p:Ve)=>∃(h':WA)(tk:Nat)(h:Array Value)(c:Nat)(as:List Addr),q=.ok (.ret (.ref s.heap.objs.size))/\p={s with heap:=h',toks:=tk}/\(∀b o,s.heap.get? b=b0 o->h'.get? b=b0 o)/\h'.get? s.heap.objs.size=b0 {cls:=.type "list",dict:=b3,data:=.seq h c,slots:=#[]}/\as.length=es.size/\PrsAt es s.heap.objs.size h' as/\h.toList=as.map VA)
  G (let⟨o,n,x⟩:=u;⟨o,Vg _ n,x⟩) (g.stay λo e=>Vg _ e) (Xj K) (VI g.lt) z H
  (λh' tk h c as k i l j m=>⟨h',tk,h,c,as,rfl,rfl,λb o e=>k b o (VI (Vn e)) (Vg _ e),i,l,⟨j.up,λa B=>a0J (Xn _) (by have:=j.over a B;rw[X1]at this;exact this),j.prs⟩,m⟩)
 refine Wr all (λfin p x=>?_) λe p x=>?_
 .cases fin with
  |done f=>
   obtain⟨h',tk,h,c,as,e,rfl,k,i,l,j,m⟩:=x
   cases e
   refine Va (m:=load s.heap.objs.size) (a2h i (Vj ?_))
   show T h.toList _
   rw[m]
   exact q h' tk as k l j (Zv (Vn i))
  |again L=>
   refine⟨x.1,a1k x.2 λy M x=>?_⟩
   obtain⟨h',tk,h,c,as,rfl,rfl,k,i,l,j,m⟩:=x
   refine Va (m:=load s.heap.objs.size) (a2h i (Vj ?_))
   show T h.toList _
   rw[m]
   exact q h' tk as k l j (Zv (Vn i))
 .obtain⟨_,_,_,_,_,v,_⟩:=x
  cases v
end
end L3
namespace L3
open PySem L2 PySem.W PyProof.Rows
section
variable{P:VE}{w:VW}{A:VO}{E:Value->Ve->Prop}{s:Ve}
theorem DW{v:Value}{Q:Bool->Ve->Prop}(q:Q dI s):VH (VF P w) A (eqBool v v) Q E s:=by unfold eqBool;refine Ws ?_;rw[if_pos (by simp)];exact Va (Ym (Vj q))
theorem tU:∀k:List Int,HT.lexLt k k=b5
 |[]=>rfl|a::k=>by simp[HT.lexLt,tU k]
noncomputable def iJ(P:VE)(w:VW)(h:WA)(b:Addr)(k:List Int):Prop:=Tb.IsT P w h k b/\∃xs:gq,a4N h b xs.toArray/\YJ xs k
theorem Oy{a g b h:Addr}{v l:Value}{k k':List Int}{C:Bool->Ve->Prop}(j:A.units<W0)(m:s.heap.get? a=b0 {cls:=.type "tuple",data:=.seq #[.ref b,v]}) (d:s.heap.get? g=b0 {cls:=.type "tuple",data:=.seq #[.ref h,l]})
  (i:iJ P w s.heap b k)(c:iJ P w s.heap h k')(n:k=k'->v=l)(q:C (HT.lexLt k k') s):VH (VF P w) A (a4p (tuples' b5) (.ref a) (.ref g)) C (λ_ _=>False) s:=by
 refine kat_lt m rfl d rfl ?_;refine a2i ((ZK (YF P w)).eqBool j i.1 c.1 ?_);by_cases e:k=k'
 .obtain rfl:=n e;subst e;rw[decide_eq_true rfl];refine a4E (a2i (DW (a4E (kat_nil ?_))));rw[tU]at q;exact q
 .rw[decide_eq_false e];obtain⟨x,r,o⟩:=i.2;obtain⟨y,u,p⟩:=c.2;refine kat_no (kat_one _ _ (HT.lt_tupInts r u (by simpa using o) (by simpa using p) j ?_));exact q
noncomputable def mY(P:VE)(w:VW)(A:VO)(us:gq)(an:Nat->Nat->Bool)(s:Ve):Prop:=
 VH (VF P w) A (keyKind' us.toArray) (λc a=>a=s/\∀(i j:Nat)(C:Bool->Ve->Prop),i<us.length->j<us.length->C (an i j) s->VH (VF P w) A (a4p c (us.getD i .none) (us.getD j .none)) C (λ_ _=>False) s) (λ_ _=>False) s
theorem Oz{es:Array DictEntry}{lo:Addr}{as bs:List Addr}{ks:List (List Int)}(hu:A.units<W0)(p:PrsAt es lo s.heap as)(h0:0<as.length)(hl:as.length=es.size)(hk:ks.length=es.size)(hbl:bs.length=es.size)(key:∀(j:Nat)(e:DictEntry),es[j]?=b0 e->e.key=.ref (bs.getD j 0)/\iJ P w s.heap (bs.getD j 0) (ks.getD j []))
  (M:ks.Nodup):mY P w A (as.map VA) (λi j=>HT.lexLt (ks.getD i []) (ks.getD j [])) s:=by
 have g:∀i,i<as.length->∃(e:DictEntry),es[i]?=b0 e/\s.heap.get? (as.getD i 0)=b0 {cls:=.type "tuple",data:=.seq #[.ref (bs.getD i 0),e.val]}/\iJ P w s.heap (bs.getD i 0) (ks.getD i []):=λi d=>by
  have O:as[i]?=b0 (as.getD i 0):=by simp[Wt,d]
  obtain⟨e,r,m⟩:=p.prs i _ O;obtain⟨k1,u⟩:=key i e r;rw[k1]at m;exact⟨e,r,m,u⟩
 unfold mY;have q:KatTups s.heap (as.map VA) (bs.map VA):=by
  have X:∀(n:Nat)(a c:List Addr),a.length=n->c.length=n->(∀i,i<n->∃v:Value,s.heap.get? (a.getD i 0)=b0 {cls:=.type "tuple",data:=.seq #[.ref (c.getD i 0),v]})->KatTups s.heap (a.map VA) (c.map VA):=by
   intro n;induction n with
   |zero=>intro a c k l _;rw[Xl.mp k,Xl.mp l];exact .nil|succ n ih=>
    intro a c k l L;match a,c,k,l with
    |x::a,y::c,k,l=>obtain⟨v,I⟩:=L 0 (by lia);refine .cons I rfl rfl (by simp) (ih a c (by simpa using k) (by simpa using l) λi d=>?_);have:=L (i+1) (by lia);simpa using this
  refine X as.length as bs rfl (by lia) λi d=>?_;obtain⟨e,_,m,_⟩:=g i d;exact⟨_,m⟩
 refine kat_kind (T:=.type "tuple") q (by rw[U8];lia) (λv I=>?_) (by decide) ⟨rfl,λi j C d H Y=>?_⟩
 .obtain⟨b,Z,rfl⟩:=VQ.mp I;obtain⟨i,d⟩:=Yk.mp Z;have B:i<as.length:=by have:=(Vc.mp d).1;lia
  obtain⟨e,_,_,u⟩:=g i B;have:bs.getD i 0=b:=by simp[Wt,d]
  rw[this]at u;obtain⟨xs,⟨o,o1,o2,_⟩,_⟩:=u.2;exact kitAt_ty _ _ ⟨o,o1,o2⟩
 .rw[U8]at d H;obtain⟨e,r,m,N⟩:=g i d;obtain⟨e',K,Q,R⟩:=g j H;have T:(as.map VA).getD i .none=.ref (as.getD i 0):=by simp[Wt,d]
  have U:(as.map VA).getD j .none=.ref (as.getD j 0):=by simp[Wt,H]
  rw[T,U];refine Oy hu m Q N R (λz=>?_) Y;have G:i=j:=by
   have k:ks.getD i []=ks[i]:=by simp[Wt,show i<ks.length by lia]
   have l:ks.getD j []=ks[j]:=by simp[Wt,show j<ks.length by lia]
   rw[k,l]at z;rcases ZL i j with h|h|h
   .exact absurd z ((We.mp M) i j (by lia) (by lia) h)
   .exact h
   .exact absurd z.symm ((We.mp M) j i (by lia) (by lia) h)
  subst G;rw[r]at K;cases K;rfl
end
section
variable{P:VE}{w:VW}{A:VO}{E:Value->Ve->Prop}{s:Ve}
end
section
variable{P:VE}{w:VW}{A:VO}{E:Value->Ve->Prop}{s:Ve}
open Classical in
noncomputable def fK(us:gq)(v:Value):Nat:=if h:∃i,us[i]?=b0 v then h.choose else 0
theorem tV{us:gq}(l:us.Nodup){i:Nat}{v:Value}(h:us[i]?=b0 v):fK us v=i:=by
 unfold fK;have c:∃i,us[i]?=b0 v:=⟨i,h⟩;rw[dif_pos c];have k:=c.choose_spec;obtain⟨g,d⟩:=Vc.mp h;obtain⟨j,e⟩:=Vc.mp k;have:=We.mp l;rcases ZL i c.choose with a|a|a
 .exact absurd (d.trans e.symm) (this _ _ g j a)
 .exact a.symm
 .exact absurd (e.trans d.symm) (this _ _ j g a)
theorem DX{Y:Type}{lt:Y->Y->Bool}(O:Ord1 lt)(d:Y){ks:List Y}{c:Addr}{us:gq}{z:Nat}{R:a5j->Ve->Prop}(hk:ks.length=us.length)(nk:ks.Nodup)(X:us.Nodup)(h2:2<=us.length)(hz:us.length<=Vp)(g:s.heap.get? c=b0 (Xf "list" us.toArray z))
  (H:∀U:WA,(∀b o,b≠c->s.heap.get? b=b0 o->U.get? b=b0 o)->mY P w A us (λi j=>lt (ks.getD i d) (ks.getD j d)) {s with heap:=U})
  (q:R (.done (.ret .none)) {s with heap:=a0W s.heap c us ((cE (λi j=>lt (ks.getD i d) (ks.getD j d)) us.length).map λi=>us.getD i W8).toArray}):VH (VF P w) A (Builtin.«list.sort» ⟨[.ref c],[]⟩) R E s:=by
 have r:∀i,i<us.length->ks.getD i d∈ks:=λi k=>by rw[Vt,Vb (by lia)];exact Wx _
 have kn:∀i j,i<us.length->j<us.length->i≠j->ks.getD i d≠ks.getD j d:=λi j k B L=>by
  rw[Vt,Vt,Vb (by lia),Vb (by lia)];have:=We.mp nk;rcases Nat.lt_or_gt_of_ne L with h|h
  .exact this i j (by lia) (by lia) h
  .exact(this j i (by lia) (by lia) h).symm
 have p:∀v∈us,∃i,i<us.length/\us[i]?=b0 v/\fK us v=i:=λv N=>by obtain⟨i,k⟩:=XJ N;exact⟨i,(Vc.mp k).1,k,tV X k⟩
 refine Na (rk:=λv=>jF lt ks (ks.getD (fK us v) d)) ?_ h2 hz g (λU kp=>?_) λl o1 o2=>?_
 .refine We.mpr λi j k B L=>?_;rw[tV X (Vb k),tV X (Vb B)];exact Dh O (r i k) (r j B) (kn i j k B (by lia))
 .have a:=H U kp;unfold mY at a;unfold CY;refine Wr a (λκ s' hq=>?_) λ_ _ x=>x;obtain⟨e,hq⟩:=hq;refine⟨e,λx y C hx hy hC=>?_⟩;obtain⟨i,u,T,K⟩:=p x hx;obtain⟨j,G,gj,Z⟩:=p y hy;dsimp only at hC;rw[K,Z,<- tG O (r i u) (r j G)]at hC;have:=hq i j C u G hC;have e1:us.getD i .none=x:=by rw[Vt,T];rfl
  have I:us.getD j .none=y:=by rw[Vt,gj];rfl
  rw[e1,I]at this;exact this
 .have M:∀i∈cE (λi j=>lt (ks.getD i d) (ks.getD j d)) us.length,i<us.length:=λi k=>Wi.mp ((gZ _ _).mem_iff.mp k);have hgd:∀i,i<us.length->us[i]?=b0 (us.getD i .none):=λi k=>by rw[Vt,Vb k];rfl
  have e:l=(cE (λi j=>lt (ks.getD i d) (ks.getD j d)) us.length).map λi=>us.getD i W8:=by
   have hm:∀v∈l,v∈us:=λv N=>o1.mem_iff.mp N
      -- the places of what came l
   have n:l.map (fK us)=cE (λi j=>lt (ks.getD i d) (ks.getD j d)) us.length:=by
    have m:(l.map (fK us)).Perm (VS us.length):=by
     refine(o1.map (fK us)).trans ?_;have:us.map (fK us)=VS us.length:=by
      apply ZG;intro i;rw[Vx];by_cases k:i<us.length
      .rw[Vb k,a0p k];exact congrArg b0 (tV X (Vb k))
      .rw[Xe (by lia),Xe (by simp;lia)];rfl
     rw[this]
    have s1:(l.map (fK us)).Pairwise λi j=>lt (ks.getD i d) (ks.getD j d)=true:=by rw[Xv];have Q:(l.map (fK us)).Nodup:=m.nodup_iff.mpr a0S;unfold a0x at Q;rw[Xv]at Q;refine Zd (R:=λx y=>jF lt ks (ks.getD (fK us x) d)<=jF lt ks (ks.getD (fK us y) d)/\fK us x≠fK us y) (λ{x y} hx hy h=>?_) (o2.and Q);obtain⟨i,u,T,K⟩:=p x (hm x hx);obtain⟨j,G,gj,Z⟩:=p y (hm y hy);rw[K,Z]at h ⊢;rw[tG O (r i u) (r j G),decide_eq_true_eq];have:=Dh O (r i u) (r j G) (kn i j u G h.2);have:=h.1;lia
    have s2:(cE (λi j=>lt (ks.getD i d) (ks.getD j d)) us.length).Pairwise λi j=>lt (ks.getD i d) (ks.getD j d)=true:=by
     have a:=Nb (lt:=lt) O.ir O.tr (λa b c h=>by
      cases e:lt a c with
      |true=>exact .inl rfl|false=>
       cases I:lt c b with
       |true=>exact .inr rfl|false=>
        cases e3:lt c a with
        |true=>rw[O.tr _ _ _ e3 h]at I;cases I
        |false=>rw[O.to _ _ e e3,I]at h;cases h) d ks (n:=us.length) (by lia)
     have Q:(cE (λi j=>lt (ks.getD i d) (ks.getD j d)) us.length).Nodup:=(gZ _ _).nodup_iff.mpr a0S;refine Zd (R:=λi j=>lt (ks.getD j d) (ks.getD i d)=b5/\i≠j) (λ{i j} k B h=>?_) (a.and Q);cases e:lt (ks.getD i d) (ks.getD j d)with
     |true=>rfl|false=>exact absurd (O.to _ _ e h.1) (kn i j (M i k) (M j B) h.2)
    exact List.Perm.eq_of_pairwise (le:=λi j=>lt (ks.getD i d) (ks.getD j d)=dI) (λi j _ _ h1 h2=>by
     have:=O.tr _ _ _ h1 h2;rw[O.ir]at this;cases this) s1 s2 (m.trans (gZ _ _).symm)
   rw[<- n,VM];symm;conv=>rhs;rw[<- a2z l]
   refine XU λv N=>?_;obtain⟨i,u,T,K⟩:=p v (hm v N);show us.getD (fK us v) .none=v;rw[K,Vt,T];rfl
  rw[e];exact q
end
section
variable{P:VE}{w:VW}{A:VO}{E:Value->Ve->Prop}{s:Ve}
theorem OA{y:Type}{lt:y->y->Bool}(O:Ord1 lt)(d0:y){ks:List y}{an:Nat->Nat->Bool}(z:an=λi j=>lt (ks.getD i d0) (ks.getD j d0)){r d:Addr}{es:Array DictEntry}{ep:Nat}{Q:Value->Ve->Prop}(X:ks.length=es.size)(Z:ks.Nodup)(U:A.handled=b3)(Y:s.heap.IsItemsView r d)(g:RawD s.heap d es ep)(N:es.size<=Vp)
  (H:2<=es.size->∀(k:WA)(tk:Nat)(as:List Addr),(∀b o,s.heap.get? b=b0 o->k.get? b=b0 o)->as.length=es.size->PrsAt es s.heap.objs.size k as->mY P w A.in1.in1 (as.map VA) an {s with heap:=k,toks:=tk})
  (q:∀(k:WA)(tk:Nat)(as:List Addr)(L e:Nat),(∀b o,s.heap.get? b=b0 o->k.get? b=b0 o)->as.length=es.size->PrsAt es s.heap.objs.size k as->s.heap.objs.size<=L->(∀a∈as,a≠L)->k.get? L=b0 (Xf "list" ((cE an es.size).map λi=>VA (as.getD i 0)).toArray e)->Q (.ref L) {s with heap:=k,toks:=tk}) :
  VH (VF P w) A (call (.builtin "sorted") [.ref r]) Q E s:=by
 refine a1A kind_sorted plain_sorted entry_sorted (args_sorted1 _) ?_;unfold a2p;refine Va (m:=checkCount "sorted" 1 1 _) (Vj (Va (Ox (A:=A.in1) U Y g (by lia) λc tk as M u v n=>?_)));have I:(as.map VA).length=es.size:=by rw[U8,u]
 refine Va (a0L ?_ (by rw[I];lia));have nu:(as.map VA).Nodup:=by unfold a0x;rw[Xv];exact v.up.imp λh e=>by cases e;exact absurd h (W3 _)
 subst z;have m:(c.push (Xf "list" (as.map VA).toArray 0)).get? c.objs.size=b0 (Xf "list" (as.map VA).toArray 0):=Vr _ rfl;have fin:∀l:gq,l=((cE (λi j=>lt (ks.getD i d0) (ks.getD j d0)) es.size).map λi=>VA (as.getD i 0))->Q (.ref c.objs.size) {s with heap:=a0W (c.push (Xf "list" (as.map VA).toArray 0)) c.objs.size (as.map VA) l.toArray,toks:=tk}:=by
  rintro l rfl;obtain⟨e,T⟩:=sortedHeap_at (h:=c.push (Xf "list" (as.map VA).toArray 0)) (out:=((cE (λi j=>lt (ks.getD i d0) (ks.getD j d0)) es.size).map λi=>VA (as.getD i 0)).toArray) m;have p:∀b o,c.get? b=b0 o->(a0W (c.push (Xf "list" (as.map VA).toArray 0)) c.objs.size (as.map VA) ((cE (λi j=>lt (ks.getD i d0) (ks.getD j d0)) es.size).map λi=>VA (as.getD i 0)).toArray).get? b=b0 o:=λb o x=>by rw[sortedHeap_old (VI (Vn x)) (by rw[X1];exact ZM (Vn x))];exact Vg _ x
  exact q _ tk as c.objs.size e (λb o x=>p b o (M b o x)) u (v.stay λb o _ x=>p b o x) n (λa R=>VI (v.lt R)) T
 by_cases B:2<=es.size
 .refine Va (Ws (XM a0z (s:={s with heap:=c.push (Xf "list" (as.map VA).toArray 0),toks:=tk}) ⟨_,m,rfl⟩ a0n (DX O d0 (by rw[I];exact X) Z nu (by lia) (by lia) m (λk K=>?_) ⟨_,rfl,?_⟩) (a0B _)))
  .exact H B k tk as (λb o e=>K b o (VI (VX (Vn e) n)) (Vg _ (M b o e))) u (v.stay λb o hb e=>K b o (VI (Vn e)) (Vg _ e))
  .refine Vj ⟨_,rfl,fin _ ?_⟩;rw[I];refine XU λi G=>?_;have G:i<as.length:=by have:=Wi.mp ((gZ _ es.size).mem_iff.mp G);lia
   simp[Wt,G]
 .refine Va (Ws (XM a0z (s:={s with heap:=c.push (Xf "list" (as.map VA).toArray 0),toks:=tk}) ⟨_,m,rfl⟩ a0n (CS (by lia) m ⟨_,rfl,?_⟩) (a0B _)));refine Vj ⟨_,rfl,fin (as.map VA) ?_⟩;match as,u with
  |[],e=>rw[<- e];show[]=(cE _ 0).map _;rw[tE];rfl|[b],e=>rw[<- e];show[VA b]=(cE _ 1).map _;rw[CT];rfl|_::_::_,e=>rw[<- e]at B;simp at B
end
end L3
namespace L3
open PySem L2
section
variable{P:VE}{w:VW}
theorem DY(d:Addr)(hd:(d==Xo)=b5):MeetsIn P w (Builtin.«dict.items» ⟨[.ref d],[]⟩) (λ_ R s=>(∃es ep,RawD s.heap d es ep) /\
   R (.ok (.ret (.ref s.heap.objs.size))) {s with heap:=s.heap.push {cls:=.type "dict_items",data:=.fields #[.ref d]}}):=
 .of_wp λA R s ⟨⟨es,ep,g⟩,h⟩=>by unfold Builtin.«dict.items»;refine Va ?_;unfold a5B;refine Va (a0r g.ty ?_);show VH _ _ (pure d) _ _ s;refine Vj ?_;show VH _ _ (YK d >>= _) _ _ s;unfold YK;rw[if_neg (by rw[hd];exact Vm)];refine Va (Vj ?_);exact Va (WL (Vj ⟨_,rfl,h⟩))
end
noncomputable def tW(kvs:jx):jx:=(cE (λi j=>HT.lexLt ((kvs.map (·.1)).getD i []) ((kvs.map (·.1)).getD j [])) kvs.length).map λi=>kvs.getD i ([],.non)
theorem OB{c d:Type}{R:c->d->Prop}{as:List c}{bs:List d}(h:Zo R as bs)(g:c)(j:d):∀i,i<as.length->R (as.getD i g) (bs.getD i j):=by
 induction h with
 |nil=>exact λi a=>nomatch a|cons e t k=>
  intro i a;cases i with
  |zero=>exact e|succ i=>exact k i (by simpa using a)
theorem DZ{a c:Type}{R:a->c->Prop}{f:Nat->a}{g:Nat->c}:∀{l:List Nat},(∀i∈l,R (f i) (g i))->Zo R (l.map f) (l.map g)
 |[],_=>.nil|i::l,h=>.cons (h i (Wj ..)) (DZ λj d=>h j (VU _ d))
section
variable{X:Cx}{a5N pins0:jw}{σ σ0:St}{H H0:Hp}{s s0:Ve}{a:Addr}{ps ps0:bO}{ob:Obj}
theorem Inv.freeze(I:Inv X a5N σ H s)(e:H a=b0 (aS a ps))(c:s.heap.get? a=b0 ob):Inv X a5N σ (aK H a (.frz ob (aS a ps))) s:=by have ok:ObjOk X.prog X.w H s.heap a (aS a ps):=I.hok a _ e;exact I.write (x:=a) (e:=a) (h':=s.heap) (t':=s.toks) (by rw[e];exact Y5) (.inl rfl) (λb q _ z=>z) ⟨ob,c⟩ ⟨c,ok⟩
theorem Inv.thaw(n:Inv X pins0 σ0 H0 s0)(r:H0 a=b0 (aS a ps0))(I:Inv X a5N σ H s)(e:H a=b0 (.frz ob (aS a ps))):Inv X a5N σ (aK H a (aS a ps)) s:=by
 have ne:∀{b:Addr},H b=b3->b≠a:=λ{b} h z=>by rw[z,e]at h;cases h
 refine⟨I.ok,I.os,I.bare,⟨I.base.keep,I.base.slot,λb o d i j=>?_,I.base.there,λb l h=>?_,λb o u h=>?_,λb w h=>?_⟩,I.loc,I.cell,?_,λx c h=>?_,λp v=>?_,λb u q=>?_,I.len⟩
 .have:=I.base.free b o d i j;rw[a8 (ne this)];exact this
 .have:=I.base.tups b l h;rw[a8 λz=>by rw[z,e]at this;cases this];exact this
 .have:=I.base.frzs b o u h;rw[a8 λz=>by
   have m:=n.base.frzs b o u h;rw[z,r]at m;cases m]
  exact this
 .obtain⟨g,d⟩:=I.base.tbls b w h;exact⟨g,by rw[a8 λz=>by rw[z,e]at d;cases d];exact d⟩
 .rw[a8 (ne I.free)];exact I.free
 .have:=I.freeC x c h;rw[a8 (ne this)];exact this
 .obtain⟨d,i,j⟩:=I.pin p v;exact⟨d,by rw[a8 (ne i)];exact i,j⟩
 .by_cases k:b=a
  .subst k;rw[cH]at q;cases q;exact(show ObjOk X.prog X.w H s.heap b (.frz ob (aS b ps))from I.hok b _ e).2
  .rw[a8 k]at q;exact(I.hok b u q).stay (λ_ _ _ z=>z) (λc h=>by rw[a8 λz=>by rw[z,e]at h;cases h];exact h) λc l h=>by rw[a8 λz=>by rw[z,e]at h;cases h];exact h
end
noncomputable def tX(i:Nat)(ρ:aG)(c:Hm):Option (Nat×jx):=match ρ[i]? with
 |some (b0 (.loc a))=>match c[a]? with
  |some (.dT kvs)=>b0 (a,kvs)|_=>b3
 |_=>b3
theorem D0{i:Nat}{ρ:aG}{c:Hm}{a:Nat}{kvs:jx}(h:tX i ρ c=b0 (a,kvs)):c[a]?=b0 (.dT kvs):=by
 unfold tX at h;split at h
 .split at h
  .rename_i hc;cases h;exact hc
  .cases h
 .cases h
noncomputable def yM(i:Nat)(d e:ME):ME:=λρ c=>match tX i ρ c with
 |some (a,kvs)=>(d ρ (c.set a (.dF kvs))).bind λr=>match r.2[a]? with
  |some (.dF kvs')=>b0 (r.1,r.2.set a (.dT kvs'))|_=>b3
 |none=>e ρ c
noncomputable def tY(i:Nat)(d e:MS):MS:=λρ c=>match tX i ρ c with
 |some (a,kvs)=>(d ρ (c.set a (.dF kvs))).bind λr=>match r.2.2[a]? with
  |some (.dF kvs')=>b0 (r.1,r.2.1,r.2.2.set a (.dT kvs'))|_=>b3
 |none=>e ρ c
section
variable{X:Cx}{a5N:jw}{σ:St}{H:Hp}{s:Ve}{π:Nat->Addr}{ρ:aG}{μ:Hm}{a:Nat}{kvs:jx}
theorem D1(I:Inv X a5N σ H s)(R:Rp X.K π H μ)(E:En X.K π μ.length H σ ρ)(hc:μ[a]?=b0 (.dT kvs)):∃c ps,H (π a)=b0 (aS (π a) ps)/\Inv X a5N σ (aK H (π a) (.frz c (aS (π a) ps))) s /\
  Rp X.K π (aK H (π a) (.frz c (aS (π a) ps))) (μ.set a (.dF kvs))/\En X.K π (μ.set a (.dF kvs)).length (aK H (π a) (.frz c (aS (π a) ps))) σ ρ:=by
 obtain⟨ps,d,T⟩:=mV R hc;obtain⟨_,⟨c,g⟩,_⟩:=(show ObjOk X.prog X.w H s.heap (π a) (aS (π a) ps)from I.hok _ _ d);obtain⟨e,R2⟩:=R.put (c:=.dF kvs) (o:=.frz c (aS (π a) ps)) (Vc.mp hc).1 d (.inr (.inr ⟨_,rfl⟩)) ⟨c,ps,rfl,T.to⟩;exact⟨c,ps,d,Inv.freeze I d g,R2,E.mono e⟩
theorem qN{g:jw}{m:St}{j:Hp}{w:Ve}{c:Nat->Addr}{μ':Hm}{B:Obj}{ps:bO}{d:jx}(I:Inv X a5N σ H s)(e:H (π a)=b0 (aS (π a) ps))(y:a<μ.length)
  (x:Inv X g m j w)(v:Rp X.K c j μ')(k:Ext π (μ.set a (.dF kvs)).length (aK H (π a) (.frz B (aS (π a) ps))) c μ'.length j)(hc:μ'[a]?=b0 (.dF d)) :
  ∃n,Inv X g m n w/\Ext π μ.length H c (μ'.set a (.dT d)).length n/\Rp X.K c n (μ'.set a (.dT d))/\Ext0 c μ'.length j c (μ'.set a (.dT d)).length n:=by
 have q:c a=π a:=k.pi a (by rw[XR];exact y);obtain⟨E,i,r,T⟩:=tQ v hc;obtain⟨K,R2⟩:=v.put0 (c:=.dT d) (o:=aS (c a) i) (Vc.mp hc).1 r (.inr (.inr (.inr ⟨_,_,rfl⟩))) ⟨i,rfl,T.to⟩;rw[q]at r;refine⟨aK j (c a) (aS (c a) i),?_,⟨?_,λb A=>k.pi b (by rw[XR];exact A),λp G h=>?_,λp o u h=>?_⟩,R2,K⟩
 .rw[q];exact Inv.thaw I e x r
 .have:=k.le;rw[XR]at this ⊢;exact this
 .have l:p≠π a:=λz=>by rw[z,e]at h;cases h
  have:=k.tup p G (by rw[a8 l];exact h);rw[q,a8 l];exact this
 .have l:p≠π a:=λz=>by rw[z,e]at h;cases h
  have:=k.frz p o u (by rw[a8 l];exact h);rw[q,a8 l];exact this
theorem En.mono0{K:U9}{c:Nat->Addr}{n j:Nat}{g:Hp}(E:En K π n H σ ρ)(e:Ext0 π n H c j g):En K c j g σ ρ:=
 ⟨E.len,λi d h=>let⟨v,k,l⟩:=E.get i d h;⟨v,k,l.mono0 e⟩⟩
end
section
variable{X:Cx}{e:Expr}{st:Stmt}{i:Nat}
theorem OC{z A:ME}(h1:QE X e z)(h2:QE X e A):QE X e (yM i z A):=⟨by
 intro l s K H Q I hw;obtain⟨m,G,B,d,r,R,E,g,k⟩:=hw;unfold yM at g;split at g
 .rename_i a q hv;obtain⟨⟨x,h⟩,g1,g⟩:=U7.mp g;dsimp only at g;split at g
  .rename_i y o;cases g;have hc:=D0 hv;obtain⟨ob,ps,Y,M,T,L⟩:=D1 I R E hc;refine aR (h1.h l s K _ (λv j=>∃c,Ext m (B.set a (.dF q)).length (aK H (m a) (.frz ob (aS (m a) ps))) c h.length j/\Rp X.K c j h/\IsD X.K c h.length j v d) M ⟨m,G,_,d,h,T,L,g1,λc v j n R2 p=>⟨c,n,R2,p⟩⟩) λu s2 ⟨v,j,N,rv,c,n,R2,p⟩=>?_;obtain⟨w,O,Z,U,x3⟩:=qN I Y (Vc.mp hc).1 N R2 n o;exact⟨v,w,O,rv,k c v w Z U (p.mono0 x3)⟩
  .cases g
 .exact h2.h l s K H Q I ⟨m,G,B,d,r,R,E,g,k⟩⟩
theorem D2{m1 m2:MS}(h1:QS X st m1)(h2:QS X st m2):QS X st (tY i m1 m2):=⟨by
 intro L s σ H D I hw;obtain⟨m,ρ,M,G,p,Y,R,E,w,k⟩:=hw;unfold tY at w;split at w
 .rename_i a x hv;obtain⟨⟨fl1,ρ1,h⟩,g1,w⟩:=U7.mp w;dsimp only at w;split at w
  .rename_i Z r;cases w;have hc:=D0 hv;have O:=(Vc.mp hc).1;obtain⟨Q,T,N,I1,R1,E1⟩:=D1 I R E hc;refine aR (h1.h L s σ _ ⟨λg j=>G=.nx/\∃c,Ext m (M.set a (.dF x)).length (aK H (m a) (.frz Q (aS (m a) T))) c h.length j/\Rp X.K c j h/\En X.K c h.length j g p,
     λv j=>∃d,G=.rt d/\∃c,Ext m (M.set a (.dF x)).length (aK H (m a) (.frz Q (aS (m a) T))) c h.length j/\Rp X.K c j h/\IsD X.K c h.length j v d,
     λg j=>G=.bk/\∃c,Ext m (M.set a (.dF x)).length (aK H (m a) (.frz Q (aS (m a) T))) c h.length j/\Rp X.K c j h/\En X.K c h.length j g p,
     λg j=>G=.ct/\∃c,Ext m (M.set a (.dF x)).length (aK H (m a) (.frz Q (aS (m a) T))) c h.length j/\Rp X.K c j h/\En X.K c h.length j g p⟩ I1 ⟨m,ρ,_,G,p,h,R1,E1,g1,?_⟩) λf s2 q=>?_
   .cases G with
    |nx=>exact λc g j l R2 n=>⟨rfl,c,l,R2,n⟩|bk=>exact λc g j l R2 n=>⟨rfl,c,l,R2,n⟩|ct=>exact λc g j l R2 n=>⟨rfl,c,l,R2,n⟩|rt d=>exact λc v j l R2 U=>⟨d,rfl,c,l,R2,U⟩
   .cases f with
    |next=>obtain⟨g,j,y,rfl,c,l,R2,n⟩:=q;obtain⟨o,z,B,A,K⟩:=qN I N O y R2 l r;exact⟨g,o,z,k c g o B A (En.mono0 n K)⟩|brk=>obtain⟨g,j,y,rfl,c,l,R2,n⟩:=q;obtain⟨o,z,B,A,K⟩:=qN I N O y R2 l r;exact⟨g,o,z,k c g o B A (En.mono0 n K)⟩|cont=>obtain⟨g,j,y,rfl,c,l,R2,n⟩:=q;obtain⟨o,z,B,A,K⟩:=qN I N O y R2 l r;exact⟨g,o,z,k c g o B A (En.mono0 n K)⟩|ret u=>obtain⟨v,g,j,y,rv,d,rfl,c,l,R2,U⟩:=q;obtain⟨o,z,B,A,K⟩:=qN I N O y R2 l r;exact⟨v,g,o,z,rv,k c v o B A (U.mono0 K)⟩
  .cases w
 .exact h2.h L s σ H D I ⟨m,ρ,M,G,p,Y,R,E,w,k⟩⟩
end
noncomputable def yN(d:Addr)(a:Obj)(ps:bO):It:=⟨λi H=>H d=b0 (.frz a (aS d ps))/\i<ps.length,λi H x c=>c=H/\∃p,ps[i]?=b0 p/\x=.ref p.2.1,λi H=>H d=b0 (.frz a (aS d ps))/\ps.length<=i⟩
theorem mZ{X:Cx}{a5N:jw}{σ:St}{H:Hp}{s:Ve}{d:Addr}{g:Obj}{ps:bO}(I:Inv X a5N σ H s)(e:H d=b0 (.frz g (aS d ps))) :
  (d==Xo)=b5/\ps.length<=Vp/\∃a c,RawD s.heap d a c/\g.data=.dict a c/\a.toList.map (·.key)=ps.map λp=>VA p.2.1:=by
 obtain⟨h,⟨u,r,n,m,o,a,c,i,k,j,l,q⟩,_⟩:=(show ObjOk X.prog X.w H s.heap d (.frz g (aS d ps))from I.hok d _ e);rw[h]at i;cases i;refine⟨n,m,a,c,⟨g,h,k,j⟩,j,?_⟩;rw[l,tL (P:=X.prog) (w:=X.w),VM,<- yJ r];rfl
theorem D3:∀(ps:bO)(ws:gq),ps.length=ws.length->(ZW sG ps ws).map (·.val)=ws
 |[],[],_=>rfl|[],_::_,h=>by cases h
 |_::_,[],h=>by cases h
 |p::ps,u::ws,h=>by rw[Wh,VP,D3 ps ws (by simpa using h)];rfl
theorem OD{X:Cx}{a5N:jw}{σ:St}{H:Hp}{s:Ve}{d:Addr}{g:Obj}{ps:bO}(I:Inv X a5N σ H s)(e:H d=b0 (.frz g (aS d ps))) :
  (d==Xo)=b5/\ps.length<=Vp/\∃a c,RawD s.heap d a c/\g.data=.dict a c/\Vals (ps.map (·.2.2)) (a.toList.map (·.val)):=by
 obtain⟨i,⟨h,r,q,p,o,a,c,j,m,k,n,u⟩,_⟩:=(show ObjOk X.prog X.w H s.heap d (.frz g (aS d ps))from I.hok d _ e);rw[i]at j;cases j;refine⟨q,p,a,c,⟨g,i,m,k⟩,k,?_⟩;have l:(ZW sG ps h).map (·.val)=h:=D3 ps h (by
  have:=r.length;rw[U8]at this;exact this)
 rw[n,l];exact r
theorem OE{P:VE}{w:VW}{K:U9}{tg:Expr}{d n:Addr}{Y:Obj}{ps:bO}{es:Array DictEntry}{ep:Nat}(hd:Y.data=.dict es ep):Turn Qc P w K tg (yN d Y ps) [n] n (λi h=>h.IsKeyIter n d i es.size ep) where
 mem:=by simp
 obj:=λi h st b j=>by
  have e:b=n:=by simpa using j
  subst e;obtain⟨o,e,c,d⟩:=st;exact⟨o,e,λv z=>by rw[d]at z;cases z⟩
 keep:=λi h q st k=>st.at λo e=>k n (by simp) o e;item:=by
  intro X Q hw O hc i p s Z H E I x st R;subst Q hw O;obtain⟨m,r⟩:=R;obtain⟨lo,hl,A,y,g,a,u⟩:=mZ I m;rw[hd]at a;cases a;have hs:es.size=ps.length:=by have:=congrArg WI u;simpa using this
  obtain⟨B,G,f2,L,M,N⟩:=x n (by simp);refine DI (I.ok.hd hc) st g (λe q l U sb=>?_) λhn=>by simp at hn;lia
  have I1:Inv X p Z H {s with heap:=q}:=I.turned (t':=s.toks) (λb o j e=>(sb.2 b j).trans e) B G L M N;obtain⟨o,e1,c,d1⟩:=id U;have T:ps[i]?=b0 ps[i]:=Vb r;have ek:e.key=.ref (ps[i]).2.1:=by have:=congrArg (·[i]?) u;simp only[Vx,XD,l,T,V1]at this;exact Vs this
  exact⟨e.key,rfl,nN (s:={s with heap:=q}) e1 c d1 (by decide) ⟨.ref (ps[i]).2.1,H,I1,ek,⟨rfl,ps[i],T,rfl⟩,U,λb j=>(x b j).1⟩⟩
 done:=by
  intro X Q hw O hc i p s Z H E I x st R;subst Q hw O;obtain⟨m,r⟩:=R;obtain⟨lo,hl,A,y,g,a,u⟩:=mZ I m;rw[hd]at a;cases a;have hs:es.size=ps.length:=by have:=congrArg WI u;simpa using this
  obtain⟨B,G,f2,L,M,N⟩:=x n (by simp);exact DI (I.ok.hd hc) st g (λe q l=>by
   have:=(Zx.mp l).1;lia) λ_ q eb=>⟨rfl,I.turned (t':=s.toks) (λb o j e=>eb b o j e) B G L M N⟩
 self:=λ_ _ _ _ _ st h=>wpAny_pyIter_keyiter st h
theorem OF{X:Cx}{l tg:Expr}{n:TE}(m:PE X l n):PI X tg l (λσ H R=>n σ H λv a=>∃d k ps,v=.ref d/\a d=b0 (.frz k (aS d ps))/\R (yN d k ps) a):=by
 intro j s σ H R I h;refine aR (m j s σ H _ I h) λv i ⟨y,a,c,x,w⟩=>?_;obtain⟨d,k,ps,e,r,q⟩:=w;subst e;obtain rfl:v=VA d:=x;obtain⟨u,m,A,z,g,hd,B⟩:=mZ c r;refine N2 u g ⟨i.heap.objs.size,[i.heap.objs.size],_,_,a,rfl,c.kept (t':=i.toks) λb o e=>Vg _ e,OE hd,⟨_,Vr _ rfl,rfl,rfl⟩,λb p=>?_,q⟩;have e:b=i.heap.objs.size:=by simpa using p
 subst e;exact c.fpOk (Vk _) (c.hok.fresh (Vk _))
noncomputable def oX(kvs:jx):List D:=kvs.map λk=>D.tup (k.1.map D.int)
theorem OG{K:U9}{π:Nat->Addr}{n:Nat}{H:Hp}{d:Addr}{j:Obj}{ps:bO}{kvs:jx}(g:H d=b0 (.frz j (aS d ps)))(T:IsTs K π n H ps kvs):Wk K (yN d j ps) (eB (.tup (oX kvs))) π n H:=by
 have w:ps.length=kvs.length:=by have:=congrArg WI T.to.1;simpa using this
 refine⟨λc s k i e R z=>?_,λc s k i l e R z=>?_⟩
 .have a:(oX kvs)[i]?=none:=Vs z;have:=V0.mp a;rw[oX,U8]at this;exact⟨e.frz _ _ _ g,by lia⟩
 .have a:(oX kvs)[i]?=b0 l:=Vs z;have x:i<kvs.length:=by have:=(Vc.mp a).1;rwa [oX,U8]at this
  refine⟨⟨e.frz _ _ _ g,by lia⟩,λv u ⟨m,p,o,q⟩=>?_⟩;subst m q;obtain⟨y,h,r⟩:=(T.to.2.1.mono e).get a;rw[Vx,o]at h;cases h;exact⟨.refl,R,r⟩
noncomputable def tZ(m:ME):MI:=λρ c=>(m ρ c).bind λp=>match p.1 with
 |.loc a=>match p.2[a]? with
  |some (.dF kvs)=>b0 (eB (.tup (oX kvs)),kvs.length+1,p.2)|_=>b3
 |_=>b3
theorem yO{X:Cx}{e:Expr}{m:ME}(h:QE X e m):QJ X e (tZ m):=⟨λtg a5N s σ H R I hw=>by
 obtain⟨A,B,w,v,n,y,j,E,a,k⟩:=hw;obtain⟨⟨x,z⟩,o,a⟩:=U7.mp a;dsimp only at a;split at a
 .split at a
  .rename_i q hc;cases a;refine OF h.h a5N s σ H R I ⟨A,B,w,_,_,j,E,o,λc G i l d p=>?_⟩;cases p;obtain⟨r,u,g,T⟩:=tQ d hc;exact⟨_,r,u,rfl,g,k c i _ l d (OG g T)⟩
  .cases a
 .cases a⟩
end L3
namespace L3
open PySem L2 PySem.W PyProof.Rows
section
variable{P:VE}{w:VW}{A:VO}{E:Value->Ve->Prop}{s:Ve}
end
end L3
namespace L3
open PySem L2
noncomputable def OH(c:Hm):D->Bool
 |.loc a=>match c[a]? with|some (.dT _)=>dI|_=>b5
 |_=>b5
noncomputable def OI(f:D->List D->Hm->jk)(a:ME)(ms:MA):ME:=λρ c=>(a ρ c).bind λp=>match OH p.2 p.1 with
 |true=>(ms ρ p.2).bind λq=>f p.1 q.1 q.2|false=>b3
noncomputable def jH(K:U9)(x:V)(H:Hp):Prop:=∃a ps,x=.ref a/\H a=b0 (aS a ps)/\dY K H ps
section
variable{X:Cx}{e o:Expr}{mo:ME}{to:TE}{t:TA}{apos cpos:W9}{es:List Expr}{ms:MA}{n:Nat}{r:V->gw->Hp->VK->Prop}{f:D->List D->Hm->jk}{name:Str}{id:String}
end
section
variable{P:VE}{w:VW}{K:Type} [DecidableEq K] {knd:HeapKind P w K}{A:VO}{E:Value->Ve->Prop}{s:Ve}{d a:Addr}{k:K}{xs:List (K×Addr×Value)}
end
section
variable{P:VE}{w:VW}{A:VO}{E:Value->Ve->Prop}{s:Ve}
end
section
variable{X:Cx}
end
noncomputable abbrev qO:=List (List Int×Addr×Value)
inductive Hits (A:VO)(s:Ve)(ys:qO):qO->Bool->Prop
 |nil:Hits A s ys [] dI
 |miss {x:List Int×Addr×Value}{r:qO}:a3S ys x.1=b3->Hits A s ys (x::r) b5
 |hit {x:List Int×Addr×Value}{p:Addr×Value}{r:qO}{e b:Bool}:a3S ys x.1=b0 p->YG A s x.2.2 p.2 e->Hits A s ys r b->Hits A s ys (x::r) (e&&b)
section
variable{P:VE}{w:VW}{A:VO}{E:Value->Ve->Prop}{s:Ve}{a b:Addr}{xs ys:qO}{r:Bool}
end
section
variable{X:Cx}{a b:Expr}{ma mb:ME}{pos:W9}{k:Nat}
end
noncomputable abbrev t4(_:Nat):Prop:=True
section
variable{X:Cx}{a5N:jw}{σ:St}{H H':Hp}{s:Ve}{h':WA}
theorem OJ{t':Nat}(I:Inv X a5N σ H s)(k:∀b u,s.heap.get? b=b0 u->h'.get? b=b0 u)(d:∀b,b<s.heap.objs.size->H' b=H b)(new:∀b o,s.heap.objs.size<=b->H' b=b0 o->ObjOk X.prog X.w H' h' b o) :
  Inv X a5N σ H' {s with heap:=h',toks:=t'}:=by
 have lt:∀b u,H b=b0 u->b<s.heap.objs.size:=λb u e=>Nat.lt_of_not_le λz=>by rw[I.hok.fresh z]at e;cases e
 have a:∀b u,H b=b0 u->H' b=b0 u:=λb u e=>by rw[d b (lt b u e)];exact e
 refine I.un ⟨λb u q _ _ _=>k b u q,λb u q _ _ _=>⟨u.slots,k b u q⟩,λb u q n _=>by rw[d b (Vn q)];exact n,λb u q _=>⟨u,k b u q⟩,λb h q=>a b _ q,λb u h q=>a b _ q,λb i q=>⟨#[],by rw[a b _ q];simp⟩⟩ λb u e=>?_;by_cases g:b<s.heap.objs.size
 .rw[d b g]at e;exact(I.hok b u e).stay (λc v _ q=>k c v q) (λc q=>a c _ q) λc h q=>a c _ q
 .exact new b u (a3X g) e
noncomputable def e6(H:Hp):List Addr->bO->Hp
 |a::as,p::ps=>e6 (aK H a (.tup [.ref p.2.1,p.2.2])) as ps|_,_=>H
theorem m3:∀{as:List Addr}{ps:bO}{H:Hp}{b:Addr},b∉as->e6 H as ps b=H b
 |[],_,_,_,_=>by simp[e6]
 |a::as,[],_,_,_=>rfl|a::as,p::ps,H,b,h=>by rw[Wf,not_or]at h;show e6 (aK H a _) as ps b=H b;rw[m3 h.2,a8 h.1]
theorem t6:∀{as:List Addr}{ps:bO}{H:Hp}{i:Nat}{a:Addr}{p:List Int×Addr×V},as.Nodup->as[i]?=b0 a->ps[i]?=b0 p->e6 H as ps a=b0 (.tup [.ref p.2.1,p.2.2])
 |[],_,_,_,_,_,_,h,_=>by simp at h
 |_::_,[],_,_,_,_,_,_,h=>by simp at h
 |x::as,y::ps,H,0,a,p,nd,h1,h2=>by
  obtain rfl:x=a:=by simpa using h1
  obtain rfl:y=p:=by simpa using h2
  rw[WG]at nd;show e6 (aK H x _) as ps x=_;rw[m3 nd.1,cH]
 |x::as,y::ps,H,i+1,a,p,nd,h1,h2=>by rw[WG]at nd;exact t6 (as:=as) (ps:=ps) (i:=i) nd.2 (by simpa using h1) (by simpa using h2)
noncomputable def b9(ps:bO):List Nat:=cE (λi j=>HT.lexLt ((ps.map (·.1)).getD i []) ((ps.map (·.1)).getD j [])) ps.length
noncomputable def eQ(as:List Addr)(ps:bO):gw:=(b9 ps).map λi=>V.ref (as.getD i 0)
theorem OK(hc:X.calm=dI)(hun:X.A.units+64<W0)(I:Inv X a5N σ H s){d r:Addr}{ps:bO}{Q:VK}(e:H d=b0 (aS d ps))(hk:dY X.K H ps)(h64:t4 ps.length)(hv:s.heap.IsItemsView r d)
  (k:∀(as:List Addr)(L l:Addr),as.length=ps.length->(l::L::as).Nodup->(∀a∈l::L::as,H a=b3)->Q (.ref l) (aK (aK (e6 H as ps) L (.lst (eQ as ps))) l (.tup (eQ as ps)))) :
  VH (VF X.prog X.w) X.A (call (.builtin "sorted") [.ref r]) (λv s'=>VH (VF X.prog X.w) X.A (call (.type "tuple") [v]) (EP X a5N σ Q) X.xe s') X.xe s:=by
 obtain⟨lo,hl,ws,rv,z,es,ep,z1,z2,z3,z4,z5,z6⟩:=k8 I (.of e) hk;have hwl:ws.length=ps.length:=by have:=rv.length;rw[U8]at this;exact this.symm
 have hxl:(bZ ps ws).length=ps.length:=by unfold bZ;rw[List.length_zipWith,hwl,Nat.min_self]
 have m:es.size=ps.length:=by rw[<- YA,z4,U8,hxl]
 have nd:(ps.map (·.1)).Nodup:=by rw[oS rv]at z6;exact z6
 have M:∀(j:Nat)(q:DictEntry),es[j]?=b0 q->∃p u,ps[j]?=b0 p/\ws[j]?=b0 u/\q.key=.ref p.2.1/\q.val=u:=λj q h=>by
  rw[<- XD,z4,Vx]at h;obtain⟨x,w,rfl⟩:=Vd.mp h;unfold bZ at w;rw[a2m]at w;cases A:ps[j]? with
  |none=>rw[A]at w;simp at w|some p=>
   cases hw:ws[j]? with
   |none=>rw[A,hw]at w;simp at w|some u=>
    rw[A,hw]at w;have:(p.1,p.2.1,u)=x:=by simpa using w
    subst this;exact⟨p,u,rfl,rfl,rfl,rfl⟩
 refine OA lexT_ord [] (ks:=ps.map (·.1)) (an:=λi j=>HT.lexLt ((ps.map (·.1)).getD i []) ((ps.map (·.1)).getD j [])) rfl (by rw[U8,m]) nd (I.ok.hd hc) hv ⟨z,z1,z2,z3⟩ (by lia) (λh22 Y K as kp U G=>?_) (λY K as L q kp U G hL nL gL=>?_)
 .have I3:Inv X a5N σ H {s with heap:=Y,toks:=K}:=I.kept (t':=K) kp;refine Oz (A:=X.A.in1.in1) (s:={s with heap:=Y,toks:=K}) (bs:=ps.map (·.2.1)) (ks:=ps.map (·.1)) (by show X.A.units+1+1<W0;lia) G (by lia) U (by rw[U8,m]) (by rw[U8,m]) (λj q y=>?_) nd;obtain⟨p,u,E,p2,p3,p4⟩:=M j q y;have n:j<ps.length:=(Vc.mp E).1;have g:(ps.map (·.2.1)).getD j 0=p.2.1:=by simp[Wt,E]
  have ek:(ps.map (·.1)).getD j []=p.1:=by simp[Wt,E]
  rw[g,ek];have sq:=hk p (VR E);refine⟨p3,k7 I3 sq,?_⟩;obtain⟨xs,rx,t,_⟩:=I3.tuple sq;exact⟨xs,t,MJ rx⟩
 .rw[m]at gL U;have B:as.Nodup:=G.up.imp λh=>VI h;have hin:∀i∈b9 ps,i<ps.length:=λi hi=>Wi.mp ((gZ _ _).mem_iff.mp hi);have T:(b9 ps).length=ps.length:=by have:=(gZ (λi j=>HT.lexLt ((ps.map (·.1)).getD i []) ((ps.map (·.1)).getD j [])) ps.length).length_eq;rw[WY]at this;exact this
  have nLa:L∉as:=λh=>nL L h rfl;have I1:Inv X a5N σ (aK (e6 H as ps) L (.lst (eQ as ps))) {s with heap:=Y,toks:=K}:=by
   refine OJ (t':=K) I kp (λb Z=>?_) λb o Z g=>?_
   .rw[a8 (VI (VX Z hL)),m3 λh=>Nat.lt_asymm Z (G.over b h)]
   .by_cases O:b=L
    .subst O;rw[cH]at g;cases g;refine⟨by unfold eQ;rw[U8,T];exact hl,(b9 ps).map λi=>VA (as.getD i 0),q,?_,gL⟩;unfold eQ;exact DZ λi _=>rfl
    .rw[a8 O]at g;by_cases R:b∈as
     .obtain⟨j,y⟩:=Yk.mp R;have n:j<ps.length:=by have:=(Vc.mp y).1;lia
      have A:ps[j]?=b0 ps[j]:=Vb n;rw[t6 B y A]at g;cases g;obtain⟨x,x1,x2⟩:=G.prs j _ y;obtain⟨p,u,E,p2,p3,p4⟩:=M j x x1;rw[A]at E;cases E;obtain⟨u',g1,g2⟩:=rv.get (i:=j) (x:=ps[j].2.2) (by rw[Vx,A];rfl);rw[p2]at g1;cases g1;rw[p3,p4]at x2;exact⟨by show(2:Nat)<=Vp;decide,[.ref ps[j].2.1,u],.cons rfl (.cons g2 .nil),_,x2,rfl,0,rfl,rfl⟩
     .rw[m3 R,I.hok.fresh Z]at g;cases g
  refine BH a5N _ σ _ [.ref L] [.ref L] Q I1 (.cons rfl .nil) ⟨L,eQ as ps,rfl,.inl ⟨.inl (.inl cH),λl c=>?_⟩⟩;have lL:l≠L:=λh=>by rw[h,cH]at c;cases c
  rw[a8 lL]at c;have la:l∉as:=λh=>by
   obtain⟨j,y⟩:=Yk.mp h;have n:j<ps.length:=by have:=(Vc.mp y).1;lia
   rw[t6 B y (Vb n)]at c;cases c
  rw[m3 la]at c;refine k as L l U ?_ λa N=>?_
  .rw[WG,WG];exact⟨λh=>(Wf.mp h).elim lL la,nLa,B⟩
  .rcases Wf.mp N with rfl|N
   .exact c
   rcases Wf.mp N with rfl|N
   .exact I.hok.fresh hL
   .exact I.hok.fresh (Zv (G.over a N))
end
noncomputable def qP(k:List Int×D):D:=.tup [.tup (k.1.map D.int),k.2]
noncomputable def t7:D->Hm->jk
 |.loc a,μ=>match μ[a]? with
  |some (.dT kvs)=>if t4 kvs.length then b0 (.tup ((tW kvs).map qP),μ)else b3|_=>b3
 |_,_=>b3
noncomputable def t8(m:ME):ME:=λρ a=>(m ρ a).bind λr=>t7 r.1 r.2
noncomputable def D4(K:U9):V->Hp->VK->Prop:=λx H Q=>∃a ps,x=.ref a/\H a=b0 (aS a ps)/\dY K H ps/\t4 ps.length /\
 ∀(as:List Addr)(L l:Addr),as.length=ps.length->(l::L::as).Nodup->(∀a∈l::L::as,H a=b3)->Q (.ref l) (aK (aK (e6 H as ps) L (.lst (eQ as ps))) l (.tup (eQ as ps)))
section
variable{X:Cx}{o:Expr}{to:TE}{apos cpos p p2 pos pos2:W9}
theorem OL(hc:X.calm=dI)(w:X.A.units+64<W0)(r:X.mg "sorted"=b3) (u:X.mg "tuple"=b3) (m:Gl X "sorted") (n:Gl X "tuple") (R:PE X o to)
  (c:Zu o "items" X.env (eval o X.env)=eval o X.env) (d:(apos.endLine==cpos.line)=dI) :
  PE X (.Call (.Name "tuple" p) [.Call (.Name "sorted" p2) [.Call (.Attribute o "items" apos) [] [] cpos] [] pos2] [] pos) (λj H Q=>to j H λx k=>D4 X.K x k Q):=by
 intro i s j H Q I h;refine Yo (i0 I n u YU ?_);refine Xc ?_ rfl rfl;refine a0t ?_;refine Yo (i0 I m r ZZ ?_);refine a0b ?_ rfl rfl;refine a0t ?_;refine a2O c d (aR (R i s j H _ I h) λv y ⟨x,k,A,Y,a,ps,M,e,B,l,q⟩=>?_);subst M;obtain rfl:v=VA a:=Y;obtain⟨U,hl,L,K,g,Z⟩:=DJ A e B;refine⟨"dict","dict.items",a1v,YC,a1u,g.ty,λb G=>?_,ZT rfl (a2s ?_)⟩
 .cases G;obtain⟨z,N,O,_⟩:=g;exact⟨z,N,O.2.1⟩
 refine a3j YC g.ty a1n (a1d _) (DY a U) ⟨⟨L,K,g⟩,?_⟩;refine a0C ?_;have E:Inv X i j k {y with heap:=y.heap.push {cls:=.type "dict_items",data:=.fields #[.ref a]}}:=A.kept (t':=y.toks) λb o e=>Vg _ e;refine aR (OK hc w E e B l ⟨_,Vr _ rfl,rfl,rfl⟩ q) λv s' T=>a0C T
end
theorem D5{K:U9}{π:Nat->Addr}{c:Hm}:∀{as:List Addr}{ps:bO}{H:Hp},Rp K π H c->as.Nodup->(∀a∈as,H a=b3)->Ext π c.length H π c.length (e6 H as ps)/\Rp K π (e6 H as ps) c
 |[],_,H,R,_,_=>by simp only[e6];exact⟨.refl,R⟩
 |a::as,[],H,R,_,_=>⟨.refl,R⟩|a::as,p::ps,H,R,nd,hf=>by
  rw[WG]at nd;obtain⟨g,e⟩:=R.fresh (o:=.tup [.ref p.2.1,p.2.2]) (hf a (Wj ..));obtain⟨h,R2⟩:=D5 (as:=as) (ps:=ps) e nd.2 λb d=>by rw[a8 (λw:b=a=>nd.1 (w▸d))];exact hf b (VU _ d)
  exact⟨g.trans h,R2⟩
theorem OM{K:U9}{Z:ME}:∀σ H Q,tM K (t8 Z) σ H Q->tM K Z σ H λx o=>D4 K x o Q:=by
 rintro σ H Q ⟨π,ρ,μ,d,p,R,E,h,k⟩;obtain⟨⟨x,G⟩,h1,h⟩:=U7.mp h;refine⟨π,ρ,μ,x,G,R,E,h1,λm v1 o e1 I i1=>?_⟩;have k1:=k.after e1;dsimp only at h;unfold t7 at h;split at h
 .split at h
  .rename_i c hc;split at h
   .rename_i hb;cases h;cases i1;obtain⟨e,e2,T⟩:=mV I hc;have Y:e.length=c.length:=by have:=congrArg WI T.to.1;simpa using this
    refine⟨_,e,rfl,e2,T.keys,by rw[Y];exact hb,λg L l al n y=>?_⟩;rw[WG,WG]at n;obtain⟨M,R3⟩:=D5 (ps:=e) I n.2.2 λa ha=>y a (VU _ (VU _ ha));have hL:e6 o g e L=none:=by rw[m3 n.2.1];exact y L (VU _ (Wj ..))
    obtain⟨N,R4⟩:=R3.fresh (o:=.lst (eQ g e)) hL;have hl:aK (e6 o g e) L (.lst (eQ g e)) l=none:=by rw[a8 (λw:l=L=>n.1 (by rw[w];exact Wj ..)),m3 λw=>n.1 (VU _ w)];exact y l (Wj ..)
    obtain⟨O,R5⟩:=R4.fresh (o:=.tup (eQ g e)) hl;refine k1 m _ _ ((M.trans N).trans O) R5 (.tup (.of cH) ?_);have A:e.map (·.1)=c.map (·.1):=T.to.1;have B:∀q:List Nat,(∀i∈q,i<c.length)->IsDs K m p.length (aK (aK (e6 o g e) L (.lst (eQ g e))) l (.tup (eQ g e))) (q.map λi=>V.ref (g.getD i 0)) (q.map (qP∘λi=>c.getD i ([],.non))):=λq s=>by
     induction q with
     |nil=>exact .nil|cons i q ih=>
      have u:=s i (Wj ..);have r:g[i]?=b0 (g.getD i 0):=by simp[Wt,show i<g.length by lia]
      have z:e[i]?=b0 e[i]:=Vb (by lia);have hik:c[i]?=b0 c[i]:=Vb u;have U:c.getD i ([],.non)=c[i]:=by simp[Wt,u]
      have ep:e.getD i ([],0,.non)=e[i]:=by simp[Wt,show i<e.length by lia]
      have pa:=OB T ([],0,.non) ([],.non) i (by lia);rw[ep,U]at pa;obtain⟨q1,q2,q3⟩:=pa;refine .cons ?_ (ih λj hj=>s j (VU _ hj));have v:aK (aK (e6 o g e) L (.lst (eQ g e))) l (.tup (eQ g e)) (g.getD i 0)=b0 (.tup [.ref e[i].2.1,e[i].2.2]):=by have h:=VR r;rw[a8 (λw:g.getD i 0=l=>n.1 (by rw[<- w];exact VU _ h)),a8 (λw:g.getD i 0=L=>n.2.1 (by rw[<- w];exact h))];exact t6 n.2.2 r z
      show IsD K m p.length _ (.ref (g.getD i 0)) (qP (c.getD i ([],.non)));rw[U];have X:=(M.trans N).trans O;have ik:IsD K m p.length o (.ref e[i].2.1) (.tup (c[i].1.map D.int)):=by rw[<- q1];exact .tup q2 (xR _)
      exact .tup (.of v) (.cons (ik.mono X) (.cons (q3.mono X) .nil))
    have ey:eQ g e=(cE (λi j=>HT.lexLt ((c.map (·.1)).getD i []) ((c.map (·.1)).getD j [])) c.length).map λi=>V.ref (g.getD i 0):=by unfold eQ b9;rw[A,Y]
    have fin:=B (cE (λi j=>HT.lexLt ((c.map (·.1)).getD i []) ((c.map (·.1)).getD j [])) c.length) λi u=>Wi.mp ((gZ _ _).mem_iff.mp u);rw[<- ey]at fin;unfold tW;rw[VM];exact fin
   .cases h
  .cases h
 .cases h
theorem ON{X:Cx}{o:Expr}{k:ME}{a c p q pos d:W9}(hc:X.calm=dI)(j:X.A.units+64<W0)(h:X.mg "sorted"=b3) (i:X.mg "tuple"=b3) (e:Gl X "sorted") (g:Gl X "tuple") (m:QE X o k)(n:mN o=dI)(l:(a.endLine==c.line)=dI) :
  QE X (.Call (.Name "tuple" p) [.Call (.Name "sorted" q) [.Call (.Attribute o "items" a) [] [] c] [] d] [] pos) (t8 k):=
 ⟨cZ (OL hc j h i e g m.h (oC n) l) OM⟩
end L3
namespace L3
open PySem L2 PySem.W PyProof.Rows
section
variable{P:VE}{w:VW}{A:VO}{E:Value->Ve->Prop}{s:Ve}
theorem OO{h:Type}{lt:h->h->Bool}(O:Ord1 lt)(d:h){ks:List h}{l:Addr}{us:gq}{Q:Value->Ve->Prop}(k:ks.length=us.length)(p:ks.Nodup)(r:us.Nodup)(hz:us.length<=Vp)(m:s.heap.IsList l us.toArray)
  (H:2<=us.length->∀c:WA,(∀b o,s.heap.get? b=b0 o->c.get? b=b0 o)->mY P w A.in1.in1 us (λi j=>lt (ks.getD i d) (ks.getD j d)) {s with heap:=c})
  (q:Q (.ref (s.heap.objs.size+1)) {s with heap:=sortedAll s.heap us ((cE (λi j=>lt (ks.getD i d) (ks.getD j d)) us.length).map λi=>us.getD i W8).toArray}):VH (VF P w) A (call (.builtin "sorted") [.ref l]) Q E s:=by
 refine a1A kind_sorted plain_sorted entry_sorted (args_sorted1 _) ?_;unfold a2p;refine Va (m:=checkCount "sorted" 1 1 _) (Vj (Va (collect_list m (Va (a0L ?_ (by lia))) (by lia))));have z:((s.heap.push (Xf "list" #[] 0)).update s.heap.objs.size (Ww (·++us.toArray))).objs.size=s.heap.objs.size+1:=by rw[Heap.size_update,size_push']
 have g:(((s.heap.push (Xf "list" #[] 0)).update s.heap.objs.size (Ww (·++us.toArray))).push (Xf "list" us.toArray 0)).get? (s.heap.objs.size+1)=b0 (Xf "list" us.toArray 0):=z▸Vr _ rfl;show VH _ _ _ _ _ ⟨((s.heap.push (Xf "list" #[] 0)).update s.heap.objs.size (Ww (·++us.toArray))).push (Xf "list" us.toArray 0),s.gens,s.drawn,s.toks,s.os⟩;rw[z];by_cases a:2<=us.length
 .refine Va (Ws (XM a0z ⟨_,g,rfl⟩ a0n (DX O d k p r a hz g (λc n=>H a c λb o e=>n b o ?_ ?_) ⟨_,rfl,?_⟩) (a0B _)))
  .exact VI (ZM (Vn e))
  .exact Vg _ ((Wl _ _ (Xj (Vn e))).trans (Vg _ e))
  .exact Vj ⟨_,rfl,q⟩
 .refine Va (Ws (XM a0z ⟨_,g,rfl⟩ a0n (CS (us:=us) (by lia) g ⟨_,rfl,?_⟩) (a0B _)));refine Vj ⟨_,rfl,?_⟩;match us,a,q with
  |[],_,q=>rw[Xi,tE]at q;exact q|[b],_,q=>rw[Z7,CT]at q;exact q|_::_::_,a,_=>simp at a
end
end L3
namespace L3
open PySem L2
section
variable{P:VE}{w:VW}{A:VO}{E:Value->Ve->Prop}{s:Ve}{d it:Addr}{i ep:Nat}{es:Array DictEntry}{ok ov:Value}
theorem D6{Q:Option Value->Ve->Prop}(h:A.handled=b3)(j:IsItemIter s.heap it d i es.size ep ok ov)(g:RawD s.heap d es ep)
  (m:∀e a,es[i]?=b0 e->a0U a it d (i+1) es.size ep e.key e.val s.heap.objs.size->a.get? s.heap.objs.size=b0 {cls:=.type "tuple",data:=.seq #[e.key,e.val]}->
   (∀b o,b≠it->s.heap.get? b=b0 o->a.get? b=b0 o)->Q (b0 (.ref s.heap.objs.size)) {s with heap:=a})
  (n:es[i]?=b3->∀a,a0f it s.heap a->Q b3 {s with heap:=a}):VH (VF P w) A (Yp (.ref it)) Q E s:=
 yL (S:=d) h j (.inl rfl) g g.lt (λe a c _ o l _ k=>m e a c (o rfl) l k) n
end
noncomputable def yP(d:Addr)(a:Obj)(ps:bO):It:=⟨λi H=>H d=b0 (.frz a (aS d ps))/\i<ps.length,λi H x c=>∃t p,x=.ref t/\H t=b3/\ps[i]?=b0 p/\c=aK H t (.tup [.ref p.2.1,p.2.2]),λi H=>H d=b0 (.frz a (aS d ps))/\ps.length<=i⟩
theorem OP{P:VE}{w:VW}{K:U9}{el:List Expr}{kx:Nat}{pt:W9}{d j:Addr}{ob:Obj}{ps:bO}{es:Array DictEntry}{ep:Nat}(hd:ob.data=.dict es ep):Turn Qc P w K (.Tuple el kx pt) (yP d ob ps) [j] j (λi h=>∃ok p,IsItemIter h j d i es.size ep ok p) where
 mem:=by simp
 obj:=λi h ⟨ok,p,st⟩ b n=>by
  have e:b=j:=by simpa using n
  subst e;exact⟨_,st,λv z=>by
   have z':Wn _=ZS v:=z;cases z'⟩
 keep:=λi h R ⟨ok,p,st⟩ k=>⟨ok,p,k j (by simp) _ st⟩;item:=by
  intro X U hw T hc i M s σ H E I G ⟨ok,p,st⟩ Z;subst U hw T;obtain⟨m,x⟩:=Z;obtain⟨lo,hl,O,N,g,a,L⟩:=mZ I m;rw[hd]at a;cases a;obtain⟨_,_,es2,ep2,_,r,he⟩:=OD I m;rw[hd]at r;cases r;have hs:es.size=ps.length:=by have:=congrArg WI L;simpa using this
  refine D6 (I.ok.hd hc) st g (λe R l a1 a2 a3=>⟨_,rfl,wpAny_letOwnedTupleGo_items a1 λh2 b1 B=>?_⟩) λhn=>by simp at hn;lia
  have hp:ps[i]?=b0 ps[i]:=Vb x;have ek:e.key=.ref (ps[i]).2.1:=by have:=congrArg (·[i]?) L;simp only[Vx,XD,l,hp,V1]at this;exact Vs this
  obtain⟨u,u1,u2⟩:=he.get (i:=i) (x:=ps[i].2.2) (by rw[Vx,hp];rfl);rw[Vx,XD,l]at u1;cases u1;have y:j<s.heap.objs.size:=Vn st;have ht2:h2.get? s.heap.objs.size=b0 {cls:=.type "tuple",data:=.seq #[e.key,e.val]}:=(B.2 _ (Xj y)).trans a2;have Y:H s.heap.objs.size=none:=I.hok.fresh (Vk _);refine⟨.ref s.heap.objs.size,aK H s.heap.objs.size (.tup [.ref (ps[i]).2.1,(ps[i]).2.2]),?_,rfl,⟨_,ps[i],rfl,Y,hp,rfl⟩,⟨_,_,b1⟩,λc n=>?_⟩
  .refine yB (s:=s) (h':=h2) (t':=s.toks) (ch:=[j]) I (λc oc n ec=>?_) G (Vk _) ?_
   .have q:c≠j:=by simpa using n
    exact(B.2 c q).trans (a3 c oc q ec)
   .exact⟨by show(2:Nat)<=Vp;decide,[e.key,e.val],.cons ek (.cons u2 .nil),_,ht2,rfl,0,rfl,rfl⟩
  .rw[a8]
   .exact(G c n).1
   .have e:c=j:=by simpa using n
    rw[e];exact VI y
 done:=by
  intro X U hw T hc i M s σ H E I G ⟨ok,p,st⟩ Z;subst U hw T;obtain⟨m,x⟩:=Z;obtain⟨lo,hl,O,N,g,a,L⟩:=mZ I m;rw[hd]at a;cases a;have hs:es.size=ps.length:=by have:=congrArg WI L;simpa using this
  obtain⟨f0,f1,f2,f3,f4,f5⟩:=G j (by simp);exact D6 (I.ok.hd hc) st g (λe R l=>by
   have:=(Zx.mp l).1;lia) λ_ R eb=>⟨rfl,I.turned (t':=s.toks) (λb o n e=>eb b o n e) f0 f1 f3 f4 f5⟩
 self:=λA i s Q E ⟨ok,p,st⟩ h=>PySem.W.kcp_self st h
theorem OQ{X:Cx}{l:Expr}{E:List Expr}{L:Nat}{pt:W9}{M:TE}{a c:W9}(K:PE X l M)(j:Zu l "items" X.env (eval l X.env)=eval l X.env) (k:(a.endLine==c.line)=dI) :
  PI X (.Tuple E L pt) (.Call (.Attribute l "items" a) [] [] c) (λp H R=>M p H λv m=>∃d x A,v=.ref d/\m d=b0 (.frz x (aS d A))/\R (yP d x A) m):=by
 intro i s p H R I h;refine a2O j k (aR (K i s p H _ I h) λv n ⟨y,m,B,r1,q1⟩=>?_);obtain⟨d,x,A,e,G,q⟩:=q1;subst e;obtain rfl:v=VA d:=r1;obtain⟨lo,K,T,O,g,hd,he⟩:=mZ B G;refine⟨"dict","dict.items",a1v,YC,a1u,g.ty,λb N=>?_,ZT rfl (a2s ?_)⟩
 .cases N;obtain⟨z,Y,u,_⟩:=g;exact⟨z,Y,u.2.1⟩
 refine a3j YC g.ty a1n (a1d _) (DY d lo) ⟨⟨T,O,g⟩,?_⟩;have r:Inv X i p m {n with heap:=n.heap.push {cls:=.type "dict_items",data:=.fields #[.ref d]}}:=B.kept (t':=n.toks) λb o e=>Vg _ e;obtain⟨lo2,hl2,U,Q,u,w,he2⟩:=mZ r G;show VH (VF X.prog X.w) X.A (a1D (.ref n.heap.objs.size)) (vQ X i p (.Tuple E L pt) R) X.xe _;refine DV ⟨_,Vr _ rfl,rfl,rfl⟩ u ⟨_,[_],_,_,m,rfl,r.kept (t':=n.toks) λb o e=>Vg _ e,OP w,⟨_,_,Vr _ rfl⟩,λb Z=>?_,q⟩;have e:=V8.mp Z;subst e;exact r.fpOk (Vk _) (r.hok.fresh (Vk _))
noncomputable def jI(kvs:jx):List D:=kvs.map λk=>.tup [.tup (k.1.map D.int),k.2]
theorem OR{K:U9}{π:Nat->Addr}{n:Nat}{H:Hp}{d:Addr}{m:Obj}{ps:bO}{kvs:jx}(j:H d=b0 (.frz m (aS d ps)))(T:IsTs K π n H ps kvs):Wk K (yP d m ps) (eB (.tup (jI kvs))) π n H:=by
 have G:ps.length=kvs.length:=by have:=congrArg WI T.to.1;simpa using this
 refine⟨λh B o i e R z=>?_,λh B o i q e R z=>?_⟩
 .have a:(jI kvs)[i]?=none:=Vs z;have:=V0.mp a;rw[jI,U8]at this;exact⟨e.frz _ _ _ j,by lia⟩
 .have a:(jI kvs)[i]?=b0 q:=Vs z;have A:i<kvs.length:=by have:=(Vc.mp a).1;rwa [jI,U8]at this
  refine⟨⟨e.frz _ _ _ j,by lia⟩,λv E ⟨t,p,r,s,u,w⟩=>?_⟩;subst r w;have c:kvs[i]?=b0 kvs[i]:=Vb A;obtain⟨I,k,x⟩:=(T.to.2.1.mono e).get (i:=i) (d:=D.tup ((kvs[i]).1.map D.int)) (by rw[Vx,c];rfl);obtain⟨L,l,y⟩:=(T.to.2.2.mono e).get (i:=i) (d:=(kvs[i]).2) (by rw[Vx,c];rfl);rw[Vx,u]at k l;cases k;cases l;obtain⟨g,R2⟩:=R.fresh (o:=.tup [.ref p.2.1,p.2.2]) s;rw[jI,Vx,c]at a;cases a;exact⟨g,R2,.tup (.of cH) (.cons (x.mono g) (.cons (y.mono g) .nil))⟩
theorem OS{X:Cx}{l:Expr}{j:TE}(k:PE X l j):PE X l (λσ H Q=>j σ H λv a=>∃d ps,v=.ref d/\a d=b0 (aS d ps)/\∀g,Q v (aK a d (.frz g (aS d ps)))):=by intro c s σ H Q I h;refine aR (k c s σ H _ I h) λv p ⟨y,a,i,o,n⟩=>?_;obtain⟨d,ps,rfl,e,q⟩:=n;obtain⟨_,⟨g,m⟩,_⟩:=(show ObjOk X.prog X.w a p.heap d (aS d ps)from i.hok _ _ e);exact⟨_,_,Inv.freeze i e m,o,q g⟩
noncomputable def qQ(m:ME):MI:=λρ c=>(m ρ c).bind λp=>match p.1 with
 |.loc a=>match p.2[a]? with
  |some (.dT kvs)=>b0 (eB (.tup (jI kvs)),kvs.length+1,p.2.set a (.dF kvs))|_=>b3
 |_=>b3
theorem OT{X:Cx}{e:Expr}{m:ME}{a c:W9}(h:QE X e m)(y:mN e=dI)(w:(a.endLine==c.line)=dI):QJT X (.Call (.Attribute e "items" a) [] [] c) (qQ m):=⟨λes O pt a5N s σ H R I hw=>by
 obtain⟨L,M,B,A,n,G,r,E,d,k⟩:=hw;obtain⟨⟨x,K⟩,v,d⟩:=U7.mp d;dsimp only at d;split at d
 .split at d
  .rename_i j hc;cases d;refine OQ (OS h.h) (oC y) w a5N s σ H R I ⟨L,M,B,_,_,r,E,v,λo Q N u p z=>?_⟩;cases z;obtain⟨g,q,T⟩:=mV p hc;refine⟨_,g,rfl,q,λl=>?_⟩;obtain⟨i,R2⟩:=p.put (c:=.dF j) (o:=.frz l (aS _ g)) (Vc.mp hc).1 q (.inr (.inr ⟨_,rfl⟩)) ⟨l,g,rfl,T.to⟩;exact⟨_,l,g,rfl,cH,k o _ _ (u.trans i) R2 (OR cH (IsTs.of T.to.1 (T.to.2.1.mono i) (T.to.2.2.mono i)))⟩
  .cases d
 .cases d⟩
noncomputable def oY:D->List D->Hm->jk
 |.loc a,[x],μ=>match μ[a]? with
  |some (.lst xs)=>(jG μ x xs).bind λbs=>if bs.findIdx id<bs.length/\bs.length<=Vp then b0 (.non,μ.set a (.lst (xs.eraseIdx (bs.findIdx id))))else b3|_=>b3
 |_,_,_=>b3
inductive rRemove (K:U9):V->gw->Hp->VK->Prop
 |mk {H:Hp}{Q:VK}{π:Nat->Addr}{μ:Hm}{a:Nat}{xs:List D}{y:V}{dy:D}{bs:List Bool}{ws:gw}(R:Rp K π H μ)(hx:μ[a]?=b0 (.lst xs))(iy:IsD K π μ.length H y dy)(he:jG μ dy xs=b0 bs)(hf:bs.findIdx id<bs.length)(hH:H (π a)=b0 (.lst ws))(q:Q .non (aK H (π a) (.lst (ws.eraseIdx (bs.findIdx id))))):rRemove K (.ref (π a)) [y] H Q
theorem D7{K:U9}{π:Nat->Addr}{n:Nat}{H:Hp}:∀{vs:gw}{ds:List D},IsDs K π n H vs ds->∀k,IsDs K π n H (vs.eraseIdx k) (ds.eraseIdx k)
 |_,_,.nil,_=>.nil|_,_,.cons _ t,0=>t|_,_,.cons h t,k+1=>.cons h (D7 t k)
theorem D8:∀{vs:gw}{us:gq},Vals vs us->∀k,Vals (vs.eraseIdx k) (us.eraseIdx k)
 |_,_,.nil,_=>.nil|_,_,.cons _ t,0=>t|_,_,.cons h t,k+1=>.cons h (D8 t k)
theorem OU{K:U9}:oB K oY (rRemove K):=by
 intro u H y x ds d s v w Q R q p a k;unfold oY at a;split at a
 .split at a
  .rename_i h c;obtain⟨bs,l,a⟩:=U7.mp a;split at a
   .rename_i n;cases a;cases p with
    |cons o r=>cases r;cases q;obtain⟨g,e,m⟩:=R.lst _ h c;obtain⟨j,i⟩:=R.put (c:=.lst (h.eraseIdx (bs.findIdx id))) (o:=.lst (g.eraseIdx (bs.findIdx id))) (Vc.mp c).1 e (.inl ⟨g,rfl⟩) (D7 m _);exact .mk R c o l n.1 e (k u _ _ j i .non)
   .cases a
  .cases a
 .cases a
theorem D9{l:Addr}{us:Array Value}{n:Nat}{x:Value}{g:Value->Bool}{j:Nat}(p:j<us.size)(hz:us.size<=Vp)(hit:g us[j]=dI) :
  ∀(k i:Nat),i+k=j->(∀m (r:m<us.size),i<=m->m<j->g us[m]=b5)->Meets (Builtin.«list.remove.loop» ⟨[.ref l,x,Zl i],[]⟩)
   λA R s=>(s.heap.get? l=b0 {cls:=.type "list",dict:=b3,data:=.seq us n,slots:=#[]}/\∀y∈us,YG A.in1 s y x (g y))/\R (.ok (.ret .none)) {s with heap:=s.heap.update l (Ww (·.eraseIdxIfInBounds j))}
 |0,i,e,_,prog,w,A,R,s,h=>by
  obtain⟨v,u,d,B,z⟩:=s;obtain⟨⟨c,o⟩,h⟩:=h;obtain rfl:i=j:=e;wp_walk using YV c;rw[show us[((i:Nat):Int).toNat]?=b0 us[i] by simp[p]];refine Va (o _ (a2Z p) prog w _ _ ?_);rw[hit];have q:(us.eraseIdxIfInBounds i).size<=Vp+1:=by
   have:(us.eraseIdxIfInBounds i).size<=us.size:=by unfold a1L;split<;>simp
   lia
  wp_walk using(W7 c rfl (hz:=hz) (_hz':=q)),YV c;simpa using h
 |k+1,i,e,no,prog,w,A,R,s,h=>by
  obtain⟨v,u,d,B,z⟩:=s;obtain⟨⟨c,o⟩,h⟩:=h;have lt:i<us.size:=by lia
  wp_walk using YV c;rw[show us[((i:Nat):Int).toNat]?=b0 us[i] by simp[lt]];refine Va (o _ (a2Z lt) prog w _ _ ?_);rw[no i lt (Vk _) (by lia)];wp_walk;rw[show((i:Int)+1)=((i+1:Nat):Int) by lia];refine⟨WT Yj _,WC a0Q ?_⟩;rw[V9 Yj _];exact D9 p hz hit k (i+1) (by lia) (λm r a b=>no m r (by lia) b) prog w A R _ ⟨⟨c,o⟩,h⟩
theorem OV{l:Addr}{us:Array Value}{n:Nat}{x:Value}{g:Value->Bool}{j:Nat}(k:j<us.size)(hz:us.size<=Vp)(hit:g us[j]=dI)(no:∀m (e:m<us.size),m<j->g us[m]=b5):Meets (Builtin.«list.remove» ⟨[.ref l,x],[]⟩)
   λA R s=>(s.heap.get? l=b0 {cls:=.type "list",dict:=b3,data:=.seq us n,slots:=#[]}/\∀y∈us,YG A.in1 s y x (g y))/\R (.ok (.ret .none)) {s with heap:=s.heap.update l (Ww (·.eraseIdxIfInBounds j))}:=by
 intro a w A R s h;obtain⟨p,o,d,r,q⟩:=s;obtain⟨⟨c,i⟩,h⟩:=h;wp_walk using YV c;refine⟨WT Yj _,WC a0Q ?_⟩;rw[V9 Yj _];exact D9 k hz hit j 0 (XH _) (λm e _ b=>no m e b) a w A R _ ⟨⟨c,i⟩,h⟩
theorem OW{X:Cx}(hu:X.A.units+20<W0):pR X "list.remove" (rRemove X.K):=by
 intro L s σ H x vs v us Q I rx rv h;obtain⟨R,T,Y,O,w,p,q⟩:=h;rename_i π μ a xs y dy bs K;cases rx;obtain⟨u,rfl,Z⟩:=rv.one;obtain⟨E,k,hd⟩:=R.lst a xs T;obtain rfl:K=E:=by rw[p]at k;cases k;rfl
 obtain⟨z,c,n,r,hl,e⟩:=I.lstM p;obtain⟨g,M,G⟩:=Dz I R (A:=X.A.in1) (by rw[gW];lia) Z Y hd r O;have l:bs.length=c.length:=by rw[<- G,U8]
 have A:bs.findIdx id<c.length:=by rw[<- l];exact w
 have d:∀m (o:m<c.length),bs[m]?=b0 (g c[m]):=λm o=>by rw[<- G,Vx,Vb o];rfl
 refine a0X F.slot_list_remove ⟨_,e,rfl⟩ F.entry_list_remove (F.args_list_remove_2 _ _) (OV (l:=π a) (us:=c.toArray) (n:=n) (x:=u) (g:=g) (j:=bs.findIdx id) (by simpa using A) (by rw[Vi];lia) ?_ ?_) ⟨⟨e,λy U=>M y (by simpa using U)⟩,⟨.non,_,I.lset (its':=c.eraseIdx (bs.findIdx id)) p e ?_ (D8 r _) ?_,rfl,q⟩⟩
 .have i:=a2A (p:=id) (xs:=bs) (w:=w);have j:=d _ A;rw[Vb w]at j;rw[Vs j]at i;simpa using i
 .intro m o B;have N:m<c.length:=by simpa using o
  have i:=a2b (p:=id) (xs:=bs) B;have j:=d _ N;rw[Vb (by lia)]at j;rw[Vs j]at i;simpa using i
 .unfold a1L;rw[dif_pos (by simpa using A)];simp
 .have:=List.length_eraseIdx_le K (bs.findIdx id);lia
open PyProof.Rows (IsTup IntsAre)
section
variable{P:VE}{w:VW}{A:VO}{E:Value->Ve->Prop}{s:Ve}
noncomputable def qR(h:WA)(v:Value)(p:Int×Int):Prop:=∃a xs,v=.ref a/\a4N h a xs/\YJ xs.toList [p.1,p.2]
theorem OX{u v:Value}{p q:Int×Int}{Q:Value->Ve->Prop}(c:A.units<W0)(a:qR s.heap u p)(b:qR s.heap v q)(h:Q (.bool (HT.lexLt [p.1,p.2] [q.1,q.2])) s):VH (VF P w) A (YB .Lt u v) Q E s:=by obtain⟨a,j,rfl,g,d⟩:=a;obtain⟨b,k,rfl,i,e⟩:=b;exact HT.lt_tupInts g i d e c h
theorem OY{u v:Value}{p q:Int×Int}{Q:Value->Ve->Prop}(M:A.units+2<W0)(a:qR s.heap u p)(b:qR s.heap v q)(h:Q (.bool (HT.lexLt [q.1,q.2] [p.1,p.2])) s):VH (VF P w) A (YB .Gt u v) Q E s:=by
 obtain⟨a,H,rfl,⟨o,l,n,N,L⟩,d⟩:=a;obtain⟨b,I,rfl,⟨r,k,m,O,K⟩,g⟩:=b;obtain⟨H⟩:=H;obtain⟨I⟩:=I;refine wpAny_richCompare_same_room (op:=.Gt) ⟨o,l,n⟩ ⟨r,k,m⟩ F.slot_tuple_gt (XM F.slot_tuple_gt ⟨o,l,n⟩ F.entry_tuple_gt ?_ (F.args_tuple_gt_2 _ _)) (by lia);refine Va (m:=isInstance (.ref b) (.type "tuple")) (a1B ⟨r,k,m⟩ isSubtype_tuple_tuple ?_);simp only[YE,Vu,if_false];refine Va (a4k l L (Va (a4k k K (Va ?_))));cases d with
 |cons x t d=>
 cases d with
 |cons R B d=>
 cases d;cases g with
 |cons y u g=>
 cases g with
 |cons T G g=>
 cases g;show VH _ _ (forIn [(Wc p.1 t,Wc q.1 u),(Wc p.2 B,Wc q.2 G)] _ _) _ _ s;simp only[a3Y,List.forIn_nil];have c:∀(i:Int)(t:a4U),(YF P w).is i (.int i t)=true:=λi t=>by simp[YF,a4I]
 refine Va (Va ((YF P w).eqBool (c p.1 t) (c q.1 u) ?_));by_cases e:p.1=q.1
 .rw[decide_eq_true e];simp only[YE,Vu,if_false];refine Vj (Va (Va ((YF P w).eqBool (c p.2 B) (c q.2 G) ?_)));by_cases j:p.2=q.2
  .rw[decide_eq_true j];rw[e,j,tU]at h;simp only[YE,Vu,if_false];exact Vj (Vj (Vj ⟨.bool b5,rfl,(λz=>nomatch z),h⟩))
  .rw[decide_eq_false j];simp only[a0g,if_true];refine Va (Ym (Va (a1o ?_)));have:HT.lexLt [q.1,q.2] [p.1,p.2]=decide (q.2<p.2):=by simp[HT.lexLt,e,WM j]
   rw[this]at h;exact Va (Vj (Vj (Vj (Vj ⟨_,rfl,(λz=>nomatch z),h⟩))))
 .rw[decide_eq_false e];simp only[a0g,if_true];refine Va (Ym (Va (a1o ?_)));have:HT.lexLt [q.1,q.2] [p.1,p.2]=decide (q.1<p.1):=by simp[HT.lexLt,WM e]
  rw[this]at h;exact Va (Vj (Vj (Vj (Vj ⟨_,rfl,(λz=>nomatch z),h⟩))))
theorem OZ{a b:Value}{c:Bool}{I S:Addr}{T r:List Addr}{St:Nat->WA->Prop}{R:a1G->Ve->Prop}{z:Nat}(K:Walks P w A.in1 I T r 2 (λi v=>(#[a,b]:Array Value)[i]?=b0 v) St)(M:S∉T)(st:St 0 s.heap)(B:s.heap.get? S=b0 {cls:=.type "list",dict:=b3,data:=.seq #[] z,slots:=#[]})
  (hc:∀t (Q E:Value->Ve->Prop),(∀x o,x∉r->x≠S->s.heap.get? x=b0 o->t.heap.get? x=b0 o)->Q (.bool c) t->VH (VF P w) A.in1 (YB .Lt b a) Q E t)
  (q:∀Y tk,(∀x o,x∉r->x≠S->s.heap.get? x=b0 o->Y.get? x=b0 o)->R (.ok (.ret (if c then b else a))) {s with heap:=Y,toks:=tk}):Zt (VF P w) A (.builtin "min.loop" ⟨[.ref I,.none,.ref S],[]⟩) R s:=by
 have m:S∉r:=λz=>M (K.sub _ z);have N:(toString "min"++toString ".loop":String)="min.loop":=by decide
 have d:∀{h:WA}{u:Value}(x:Addr)(o:Obj),x≠S->h.get? x=b0 o->(h.update S (Ww λ_=>#[u,u])).get? x=b0 o:=λx o n e=>(Wl _ _ (WM n)).trans e;refine WC F.entry_min_loop ?_;rw[V9 F.plain_min_loop _];refine Va (m:=Zk (.ref S)) (Yg B rfl (Va (m:=tryCatch (Yp (.ref I)) _) (XB (K.item 0 s _ _ (by decide) st λv h1 tk1 pv O H=>?_))));obtain rfl:a=v:=by simpa using pv
 refine Va (m:=ZJ S λ_=>#[a,a]) (W7 (H S _ m B) rfl ?_);rw[N];refine Vj ⟨WT F.plain_min_loop _,WC F.entry_min_loop ?_⟩;rw[V9 F.plain_min_loop _];have U:=WX (Ww λ_=>#[a,a]) (H S _ m B) rfl;refine Va (m:=Zk (.ref S)) (Yg U rfl (Va (m:=tryCatch (Yp (.ref I)) _) (XB (K.item 1 _ _ _ (by decide) (K.frame _ _ _ O λx G o e=>d x o (λz=>M (z▸G)) e) λv h2 tk2 pv p Z=>?_))));obtain rfl:b=v:=by simpa using pv
 have L:∀x o,x∉r->x≠S->s.heap.get? x=b0 o->h2.get? x=b0 o:=λx o g j e=>Z x o g (d x o j (H x o g e));have y:=Z S _ m U;show VH _ A.in1 (tryCatch (holding [b,b] (YB .Lt b a >>= _)) _ >>= _) _ _ _;refine Va (XB (Ws (Va (hc _ _ _ L (Va (Ws (WS (Va (X7 (Vj ?_))))))))));cases c with
 |true=>simp only[if_true]at q ⊢;refine Va (W7 y rfl (Va (X7 ?_)));rw[N];refine Vj ⟨WT F.plain_min_loop _,WC F.entry_min_loop ?_⟩;rw[V9 F.plain_min_loop _];have X:=WX (Ww λ_=>#[b,b]) y rfl;refine Va (m:=Zk (.ref S)) (Yg X rfl (Va (m:=tryCatch (Yp (.ref I)) _) (XB (K.done _ _ _ (K.frame _ _ _ p λx G o e=>d x o (λz=>M (z▸G)) e) λh4 k l=>?_))));refine Va (m:=ZJ S λ_=>#[]) (W7 (l S _ m X) rfl (Va (X7 (Vj ?_))));exact q _ k λx o g j e=>(Wl _ _ (WM j)).trans (l x o g (d x o j (L x o g j e)))|false=>simp only[Vu,if_false]at q ⊢;refine Va (X7 ?_);rw[N];refine Vj ⟨WT F.plain_min_loop _,WC F.entry_min_loop ?_⟩;rw[V9 F.plain_min_loop _];refine Va (m:=Zk (.ref S)) (Yg y rfl (Va (m:=tryCatch (Yp (.ref I)) _) (XB (K.done _ _ _ p λh4 k l=>?_))));refine Va (m:=ZJ S λ_=>#[]) (W7 (l S _ m y) rfl (Va (X7 (Vj ?_))));exact q _ k λx o g j e=>(Wl _ _ (WM j)).trans (l x o g (L x o g j e))
theorem O0{a b:Value}{c:Bool}{Q:Value->Ve->Prop}(u:A.handled=b3)(hc:∀t (Q E:Value->Ve->Prop),(∀x o,s.heap.get? x=b0 o->t.heap.get? x=b0 o)->Q (.bool c) t->VH (VF P w) A.in1 (YB .Lt b a) Q E t)
  (q:∀g m,(∀x o,s.heap.get? x=b0 o->g.get? x=b0 o)->Q (if c then b else a) {s with heap:=g,toks:=m}):VH (VF P w) A (call (.builtin "min") [a,b]) Q E s:=by
 have v:(toString "min"++toString ".loop":String)="min.loop":=by decide
 refine a4s F.kind_min F.plain_min F.entry_min (F.args_min2 _ _) ?_;refine Va (m:=a0a "min" ["key","default"] 0 ⟨[],[]⟩) (a1M (show _=pure [b3,b3]from rfl) ?_);refine Va (m:=a3N [a,b]) (WL ?_);have n:(s.heap.push {cls:=.type "tuple",data:=.seq #[a,b]}).IsTuple s.heap.objs.size #[a,b]:=⟨_,Vr _ rfl,rfl,0,rfl⟩;have i:(s.heap.push {cls:=.type "tuple",data:=.seq #[a,b]}).objs.size=s.heap.objs.size+1:=X1 ..;refine Va (Yn n (Va (WL ?_)));have d:((s.heap.push {cls:=.type "tuple",data:=.seq #[a,b]}).push {cls:=.type "tuple_iterator",data:=.fields #[.ref s.heap.objs.size,.int 0 0]}).objs.size=s.heap.objs.size+2:=by rw[X1,i]
 rw[v];have j:∀x o,s.heap.get? x=b0 o->x<s.heap.objs.size:=λx o e=>Vn e;refine Vj ⟨WT F.plain_min_loop _,OZ (c:=c) (a0O (A:=A.in1) u _ s.heap.objs.size (by rw[i];exact VI (Xn _)) #[a,b]) ?_ ⟨⟨_,Vg _ (Vr _ rfl),rfl,rfl⟩,(n.push _).push _⟩ (Vr _ rfl) (λt r p k h=>hc t r p (λx o e=>?_) h) λg m k=>q g m λx o e=>?_⟩
 .rw[d,i];simp
 all_goals
  have l:=j x o e;refine k x o (λz=>?_) (λz=>?_) (Vg _ (Vg _ (Vg _ e)))
  .rw[i]at z;rw[V8.mp z]at l;exact W3 _ (Yt l)
  .rw[z,d]at l;exact W3 _ (Yt (Yt l))
theorem O1{a b:Value}{c:Bool}{I S:Addr}{T r:List Addr}{St:Nat->WA->Prop}{R:a1G->Ve->Prop}{z:Nat}(K:Walks P w A.in1 I T r 2 (λi v=>(#[a,b]:Array Value)[i]?=b0 v) St)(M:S∉T)(st:St 0 s.heap)(B:s.heap.get? S=b0 {cls:=.type "list",dict:=b3,data:=.seq #[] z,slots:=#[]})
  (hc:∀t (Q E:Value->Ve->Prop),(∀x o,x∉r->x≠S->s.heap.get? x=b0 o->t.heap.get? x=b0 o)->Q (.bool c) t->VH (VF P w) A.in1 (YB .Gt b a) Q E t)
  (q:∀Y tk,(∀x o,x∉r->x≠S->s.heap.get? x=b0 o->Y.get? x=b0 o)->R (.ok (.ret (if c then b else a))) {s with heap:=Y,toks:=tk}):Zt (VF P w) A (.builtin "max.loop" ⟨[.ref I,.none,.ref S],[]⟩) R s:=by
 have m:S∉r:=λz=>M (K.sub _ z);have N:(toString "max"++toString ".loop":String)="max.loop":=by decide
 have d:∀{h:WA}{u:Value}(x:Addr)(o:Obj),x≠S->h.get? x=b0 o->(h.update S (Ww λ_=>#[u,u])).get? x=b0 o:=λx o n e=>(Wl _ _ (WM n)).trans e;refine WC F.entry_max_loop ?_;rw[V9 F.plain_max_loop _];refine Va (m:=Zk (.ref S)) (Yg B rfl (Va (m:=tryCatch (Yp (.ref I)) _) (XB (K.item 0 s _ _ (by decide) st λv h1 tk1 pv O H=>?_))));obtain rfl:a=v:=by simpa using pv
 refine Va (m:=ZJ S λ_=>#[a,a]) (W7 (H S _ m B) rfl ?_);rw[N];refine Vj ⟨WT F.plain_max_loop _,WC F.entry_max_loop ?_⟩;rw[V9 F.plain_max_loop _];have U:=WX (Ww λ_=>#[a,a]) (H S _ m B) rfl;refine Va (m:=Zk (.ref S)) (Yg U rfl (Va (m:=tryCatch (Yp (.ref I)) _) (XB (K.item 1 _ _ _ (by decide) (K.frame _ _ _ O λx G o e=>d x o (λz=>M (z▸G)) e) λv h2 tk2 pv p Z=>?_))));obtain rfl:b=v:=by simpa using pv
 have L:∀x o,x∉r->x≠S->s.heap.get? x=b0 o->h2.get? x=b0 o:=λx o g j e=>Z x o g (d x o j (H x o g e));have y:=Z S _ m U;show VH _ A.in1 (tryCatch (holding [b,b] (YB .Gt b a >>= _)) _ >>= _) _ _ _;refine Va (XB (Ws (Va (hc _ _ _ L (Va (Ws (WS (Va (X7 (Vj ?_))))))))));cases c with
 |true=>simp only[if_true]at q ⊢;refine Va (W7 y rfl (Va (X7 ?_)));rw[N];refine Vj ⟨WT F.plain_max_loop _,WC F.entry_max_loop ?_⟩;rw[V9 F.plain_max_loop _];have X:=WX (Ww λ_=>#[b,b]) y rfl;refine Va (m:=Zk (.ref S)) (Yg X rfl (Va (m:=tryCatch (Yp (.ref I)) _) (XB (K.done _ _ _ (K.frame _ _ _ p λx G o e=>d x o (λz=>M (z▸G)) e) λh4 k l=>?_))));refine Va (m:=ZJ S λ_=>#[]) (W7 (l S _ m X) rfl (Va (X7 (Vj ?_))));exact q _ k λx o g j e=>(Wl _ _ (WM j)).trans (l x o g (d x o j (L x o g j e)))|false=>simp only[Vu,if_false]at q ⊢;refine Va (X7 ?_);rw[N];refine Vj ⟨WT F.plain_max_loop _,WC F.entry_max_loop ?_⟩;rw[V9 F.plain_max_loop _];refine Va (m:=Zk (.ref S)) (Yg y rfl (Va (m:=tryCatch (Yp (.ref I)) _) (XB (K.done _ _ _ p λh4 k l=>?_))));refine Va (m:=ZJ S λ_=>#[]) (W7 (l S _ m y) rfl (Va (X7 (Vj ?_))));exact q _ k λx o g j e=>(Wl _ _ (WM j)).trans (l x o g (L x o g j e))
theorem O2{a b:Value}{c:Bool}{Q:Value->Ve->Prop}(u:A.handled=b3)(hc:∀t (Q E:Value->Ve->Prop),(∀x o,s.heap.get? x=b0 o->t.heap.get? x=b0 o)->Q (.bool c) t->VH (VF P w) A.in1 (YB .Gt b a) Q E t)
  (q:∀g m,(∀x o,s.heap.get? x=b0 o->g.get? x=b0 o)->Q (if c then b else a) {s with heap:=g,toks:=m}):VH (VF P w) A (call (.builtin "max") [a,b]) Q E s:=by
 have v:(toString "max"++toString ".loop":String)="max.loop":=by decide
 refine a4s F.kind_max F.plain_max F.entry_max (F.args_max2 _ _) ?_;refine Va (m:=a0a "max" ["key","default"] 0 ⟨[],[]⟩) (a1M (show _=pure [b3,b3]from rfl) ?_);refine Va (m:=a3N [a,b]) (WL ?_);have n:(s.heap.push {cls:=.type "tuple",data:=.seq #[a,b]}).IsTuple s.heap.objs.size #[a,b]:=⟨_,Vr _ rfl,rfl,0,rfl⟩;have i:(s.heap.push {cls:=.type "tuple",data:=.seq #[a,b]}).objs.size=s.heap.objs.size+1:=X1 ..;refine Va (Yn n (Va (WL ?_)));have d:((s.heap.push {cls:=.type "tuple",data:=.seq #[a,b]}).push {cls:=.type "tuple_iterator",data:=.fields #[.ref s.heap.objs.size,.int 0 0]}).objs.size=s.heap.objs.size+2:=by rw[X1,i]
 rw[v];have j:∀x o,s.heap.get? x=b0 o->x<s.heap.objs.size:=λx o e=>Vn e;refine Vj ⟨WT F.plain_max_loop _,O1 (c:=c) (a0O (A:=A.in1) u _ s.heap.objs.size (by rw[i];exact VI (Xn _)) #[a,b]) ?_ ⟨⟨_,Vg _ (Vr _ rfl),rfl,rfl⟩,(n.push _).push _⟩ (Vr _ rfl) (λt r p k h=>hc t r p (λx o e=>?_) h) λg m k=>q g m λx o e=>?_⟩
 .rw[d,i];simp
 all_goals
  have l:=j x o e;refine k x o (λz=>?_) (λz=>?_) (Vg _ (Vg _ (Vg _ e)))
  .rw[i]at z;rw[V8.mp z]at l;exact W3 _ (Yt l)
  .rw[z,d]at l;exact W3 _ (Yt (Yt l))
end
noncomputable def yQ(x:D):Option (Int×Int):=(cQ x).bind λk=>match k with
 |[a,b]=>b0 (a,b)|_=>b3
noncomputable def t9(f:Int×Int->Int×Int->Bool)(g:MF):MF:=λds a=>match ds with
 |[x,y]=>(match yQ x,yQ y with
  |some p,b0 q=>b0 (if f p q then y else x,a)
  |_,_=>g ds a)
 |_=>g ds a
noncomputable def qS:MF:=t9 (λp q=>HT.lexLt [q.1,q.2] [p.1,p.2]) xZ
noncomputable def yR:MF:=t9 (λp q=>HT.lexLt [p.1,p.2] [q.1,q.2]) yA
inductive rMm (f:Int×Int->Int×Int->Bool)(K:U9):gw->Hp->VK->Prop
 |mk {H:Hp}{Q:VK}{a b:Addr}{p q:Int×Int}(ha:SqT K H a ([p.1,p.2].map V.int))(hb:SqT K H b ([q.1,q.2].map V.int))(k:Q (.ref (if f p q then b else a)) H):rMm f K [.ref a,.ref b] H Q
theorem Ea{x:D}{p:Int×Int}(h:yQ x=b0 p):x=.tup ([p.1,p.2].map D.int):=by
 obtain⟨k,c,a⟩:=U7.mp h;rw[qB c];split at a
 .cases a;rfl
 .cases a
theorem qT{K:U9}{π:Nat->Addr}{n:Nat}{H:Hp}{v:V}{p:List Int}(h:IsD K π n H v (.tup (p.map D.int))):∃a,v=.ref a/\SqT K H a (p.map V.int):=by
 cases h with
 |@tup a d ds c hd=>have:=ints_of' hd;subst this;exact⟨a,rfl,c⟩
theorem Eb{K:U9}{f:Int×Int->Int×Int->Bool}{g:MF}{r:gw->Hp->VK->Prop}(j:dS K g r):dS K (t9 f g) (λxs H Q=>rMm f K xs H Q\/r xs H Q):=by
 intro h H q xs d e p Q R i c k;unfold t9 at c;split at c
 .split at c
  .rename_i s u;cases c;cases i with
   |cons l t=>
   cases t with
   |cons m t=>
   cases t;have n:=l;have o:=m;rw[Ea s]at n;rw[Ea u]at o;obtain⟨a,rfl,v⟩:=qT n;obtain⟨b,rfl,w⟩:=qT o;refine .inl (.mk v w (k h _ H .refl R ?_));split
   .exact m
   .exact l
  .exact .inr (j h H q _ d e p Q R i c k)
 .exact .inr (j h H q _ d e p Q R i c k)
section
variable{X:Cx}
theorem uA{a5N:jw}{σ:St}{H:Hp}{s:Ve}(I:Inv X a5N σ H s){a:Addr}{p:Int×Int}(h:SqT X.K H a ([p.1,p.2].map V.int)){h':WA}(d:∀x o,s.heap.get? x=b0 o->h'.get? x=b0 o):qR h' (.ref a) p:=by obtain⟨c,r,⟨o,e,z⟩,_⟩:=I.tuple h;exact⟨a,_,rfl,⟨o,d _ _ e,z⟩,wD r⟩
theorem O3(hc:X.calm=dI)(n:X.A.units+64<W0):CallR X (.builtin "min") (rMm (λp q=>HT.lexLt [q.1,q.2] [p.1,p.2]) X.K):=by intro c s y H x w Q I r h;obtain⟨d,e,k⟩:=h;obtain⟨u,v,rfl,g,i⟩:=pQ r;cases g;cases i;refine O0 (I.ok.hd hc) (λt l j a h=>OX (by rw[gW];lia) (uA I e a) (uA I d a) h) λm o a=>⟨_,H,I.kept a,?_,k⟩;split<;>rfl
theorem O4(hc:X.calm=dI)(n:X.A.units+64<W0):CallR X (.builtin "max") (rMm (λp q=>HT.lexLt [p.1,p.2] [q.1,q.2]) X.K):=by intro c s y H x w Q I r h;obtain⟨d,e,k⟩:=h;obtain⟨u,v,rfl,g,i⟩:=pQ r;cases g;cases i;refine O2 (I.ok.hd hc) (λt l j a h=>OY (by rw[gW];lia) (uA I e a) (uA I d a) h) λm o a=>⟨_,H,I.kept a,?_,k⟩;split<;>rfl
end
end L3
namespace L3
open PySem L2 PySem.W PyProof.Rows
noncomputable abbrev Ti:=List Int×List Int×Bool×List Int
noncomputable def dZ:Ti:=([],[],b5,[])
noncomputable def m5(x y:Ti):Bool:=if x.1=y.1 then(if x.2.1=y.2.1 then(if x.2.2.1=y.2.2.1 then HT.lexLt x.2.2.2 y.2.2.2 else y.2.2.1)else HT.lexLt x.2.1 y.2.1)else HT.lexLt x.1 y.1
section
variable{P:VE}{w:VW}{A:VO}{E:Value->Ve->Prop}{s:Ve}
inductive TiAt (P:VE)(w:VW)(h:WA)(a:Addr)(t:Ti):Prop
 |mk (o:Obj)(n:Nat)(b c e:Addr)(g:h.get? a=b0 o)(k:o.cls=.type "tuple") (d:o.data=.seq #[.ref b,.ref c,.bool t.2.2.1,.ref e] n)(h1:iJ P w h b t.1)(h2:iJ P w h c t.2.1)(h3:iJ P w h e t.2.2.2)
theorem O5{a b:Bool}(h:a≠b):YG A s (.bool a) (.bool b) false:=λprog w E Q q=>by unfold eqBool;refine Ws ?_;rw[if_neg (by simpa using h)];refine Va (SeqAt.RcAt.bool_bool a b prog w E _ (WS ?_));rw[show(a==b)=b5 by simpa using h];exact q
theorem yS{b c:Addr}{k k':List Int}{fin:Bool}{Q:Bool->Ve->Prop}{r:List (Value×Value)}{i:Nat}(g:A.units<W0)(d:iJ P w s.heap b k)(a:iJ P w s.heap c k')(l:k=k'->KatLex P w A b5 fin Q r (i+1) s)(m:k≠k'->Q (HT.lexLt k k') s) :
  KatLex P w A b5 fin Q ((.ref b,.ref c)::r) i s:=by
 refine a2i ((ZK (YF P w)).eqBool g d.1 a.1 ?_);by_cases e:k=k'
 .rw[decide_eq_true e];exact a4E (l e)
 .rw[decide_eq_false e];obtain⟨p,n,h⟩:=d.2;obtain⟨q,o,j⟩:=a.2;exact kat_no (kat_one _ _ (HT.lt_tupInts n o (by simpa using h) (by simpa using j) g (m e)))
theorem O6{a i:Addr}{t t':Ti}{C:Bool->Ve->Prop}(h:A.units<W0)(x:TiAt P w s.heap a t)(y:TiAt P w s.heap i t')(q:C (m5 t t') s):VH (VF P w) A (a4p (tuples' b5) (.ref a) (.ref i)) C (λ_ _=>False) s:=by
 obtain⟨o,n,b,c,e,g,_,d,r,B,G⟩:=x;obtain⟨M,L,j,k,m,p,_,l,H,I,K⟩:=y;unfold m5 at q;refine kat_lt g d p l ?_;show KatLex P w A b5 _ C [(.ref b,.ref j),(.ref c,.ref k),(.bool t.2.2.1,.bool t'.2.2.1),(.ref e,.ref m)] 0 s;refine yS h r H (λz=>?_) λz=>by rw[if_neg z]at q;exact q
 rw[if_pos z]at q;refine yS h B I (λz=>?_) λz=>by rw[if_neg z]at q;exact q
 rw[if_pos z]at q;by_cases f:t.2.2.1=t'.2.2.1
 .rw[if_pos f]at q;rw[f];refine a2i (DW (a4E (yS h G K (λz=>kat_nil ?_) λ_=>q)));rw[z,tU]at q;exact q
 .rw[if_neg f]at q;refine a2i (O5 f P w _ _ (kat_no (kat_one _ _ (lt_bool ?_))));have:decide (b2i t.2.2.1<b2i t'.2.2.1)=t'.2.2.1:=by generalize t.2.2.1=u at f;generalize t'.2.2.1=v at f;cases u<;>cases v<;>first|exact absurd rfl f|decide
  rw[this];exact q
theorem O7{as:List Addr}{ts:List Ti}(I:A.units<W0)(G:0<as.length)(r:ts.length=as.length)(d:∀i,i<as.length->TiAt P w s.heap (as.getD i 0) (ts.getD i dZ)):mY P w A (as.map VA) (λi j=>m5 (ts.getD i dZ) (ts.getD j dZ)) s:=by
 have l:∃fs:gq,fs.length=as.length/\KatTups s.heap (as.map VA) fs/\∀v∈fs,∃b k,v=VA b/\iJ P w s.heap b k:=by
  clear G;induction as generalizing ts with
  |nil=>exact⟨[],rfl,.nil,λv g=>nomatch g⟩|cons a as K=>
   match ts,r with
   |t::ts,r=>
    obtain⟨fs,u,m,p⟩:=K (ts:=ts) (by simpa using r) λi h=>by simpa using d (i+1) (by simpa using h)
    obtain⟨o,n,b,c,e,x,y,z,B,_⟩:=d 0 (by simp);refine⟨.ref b::fs,by simp[u],.cons x y z (by simp) m,λv g=>?_⟩;rcases Wf.mp g with rfl|g
    .exact⟨b,_,rfl,B⟩
    .exact p v g
 obtain⟨fs,u,m,p⟩:=l;refine kat_kind (T:=.type "tuple") m (by lia) (λv g=>?_) (by decide) ⟨rfl,λi j C h q H=>?_⟩
 .obtain⟨b,k,rfl,L⟩:=p v g;obtain⟨M,⟨o,o1,o2,_⟩,_⟩:=L.2;exact kitAt_ty _ _ ⟨o,o1,o2⟩
 .rw[U8]at h q;rw[show(as.map VA).getD i .none=.ref (as.getD i 0) by simp[Wt,h],show(as.map VA).getD j .none=.ref (as.getD j 0) by simp[Wt,q]];exact O6 I (d i h) (d j q) H
end
noncomputable def k9{a c:Type} [DecidableEq a] (f:a->a->Bool)(g:c->c->Bool)(x y:a×c):Bool:=if x.1=y.1 then g x.2 y.2 else f x.1 y.1
theorem yT{i j:Type} [DecidableEq i] {f:i->i->Bool}{g:j->j->Bool}(F:Ord1 f)(G:Ord1 g):Ord1 (k9 f g):=by
 refine⟨λx=>?_,λx y z c d=>?_,λx y c d=>?_⟩
 .unfold k9;rw[if_pos rfl];exact G.ir _
 .unfold k9 at c d ⊢;by_cases a:x.1=y.1<;>by_cases b:y.1=z.1
  .rw[if_pos a]at c;rw[if_pos b]at d;rw[if_pos (a.trans b)];exact G.tr _ _ _ c d
  .rw[if_neg b]at d;rw[if_neg λe=>b (a.symm.trans e),a];exact d
  .rw[if_neg a]at c;rw[if_neg λe=>a (e.trans b.symm),<- b];exact c
  .rw[if_neg a]at c;rw[if_neg b]at d;have h:=F.tr _ _ _ c d;rw[if_neg λe=>by rw[e,F.ir]at h;cases h];exact h
 .unfold k9 at c d;by_cases a:x.1=y.1
  .rw[if_pos a]at c;rw[if_pos a.symm]at d;exact a0c a (G.to _ _ c d)
  .rw[if_neg a]at c;rw[if_neg λe=>a e.symm]at d;exact absurd (F.to _ _ c d) a
theorem O8:m5=k9 HT.lexLt (k9 HT.lexLt (k9 (λa b=>!a&&b) HT.lexLt)):=by
 funext x y;unfold m5 k9;by_cases h:x.2.2.1=y.2.2.1
 .rw[if_pos h,if_pos h]
 .rw[if_neg h,if_neg h];cases c:x.2.2.1<;>cases d:y.2.2.1<;>first|rfl|(rw[c,d]at h;exact absurd rfl h)
theorem O9:Ord1 λa b:Bool=>!a&&b:=⟨by decide,by decide,by decide⟩
theorem Pa:Ord1 m5:=O8▸yT lexT_ord (yT lexT_ord (yT O9 lexT_ord))
noncomputable abbrev uB(ts:List Ti):Prop:=ts.Nodup
noncomputable def qU:D->Option Ti
 |.tup [x,y,.bl b,z]=>(cQ x).bind λk=>(cQ y).bind λm=>(cQ z).map λn=>(k,m,b,n)|_=>b3
noncomputable def c5(t:Ti):D:=.tup [.tup (t.1.map D.int),.tup (t.2.1.map D.int),.bl t.2.2.1,.tup (t.2.2.2.map D.int)]
theorem Pb{x:D}{t:Ti}(h:qU x=b0 t):x=c5 t:=by
 unfold qU at h;split at h
 .obtain⟨k,a,h⟩:=U7.mp h;obtain⟨m,c,h⟩:=U7.mp h;obtain⟨n,d,rfl⟩:=Vd.mp h;rw[qB a,qB c,qB d];rfl
 .cases h
noncomputable def qV:List D->Option (List Ti)
 |[]=>b0 []|x::r=>(qU x).bind λt=>(qV r).map (t::·)
theorem Ec:∀{xs:List D}{ts:List Ti},qV xs=b0 ts->xs=ts.map c5
 |[],_,h=>by cases h;rfl
 |x::xs,ts,h=>by obtain⟨t,a,h⟩:=U7.mp h;obtain⟨r,c,rfl⟩:=Vd.mp h;rw[Pb a,Ec c];rfl
noncomputable def lE(ts:List Ti):Nat->Nat->Bool:=λi j=>m5 (ts.getD i dZ) (ts.getD j dZ)
noncomputable def oZ:MF:=λds c=>match ds with
 |[x]=>(eD c x).bind λd=>(qV d).bind λa=>if uB a then b0 (.loc c.length,c++[.lst ((cE (lE a) a.length).map λi=>d.getD i .non)])else b3|_=>b3
inductive TiV (K:U9)(H:Hp)(v:V)(t:Ti):Prop
 |mk (a b c e:Addr)(g:v=.ref a)(s:SqT K H a [.ref b,.ref c,.bl t.2.2.1,.ref e])(s1:SqT K H b (t.1.map V.int))(s2:SqT K H c (t.2.1.map V.int))(s3:SqT K H e (t.2.2.2.map V.int))
inductive rSortTi (K:U9):gw->Hp->VK->Prop
 |mk {H:Hp}{Q:VK}{q:Addr}{ws:gw}{ts:List Ti}(hq:SqL K H q ws)(hw:Zo (TiV K H) ws ts)(h:uB ts)(k:∀l,H l=b3->Q (.ref l) (aK H l (.lst ((cE (lE ts) ws.length).map λi=>ws.getD i .non)))):rSortTi K [.ref q] H Q
theorem Ed{K:U9}{π:Nat->Addr}{n:Nat}{H:Hp}:∀{vs:gw}{ts:List Ti},IsDs K π n H vs (ts.map c5)->Zo (TiV K H) vs ts
 |_,[],h=>by cases h;exact .nil
 |_,t::ts,h=>by
  cases h with
  |cons h r=>
  refine .cons ?_ (Ed r);cases h with
  |@tup a vs ds k hd=>
  cases hd with
  |cons d hd=>
  cases hd with
  |cons g hd=>
  cases hd with
  |cons i hd=>
  cases hd with
  |cons j hd=>
  cases hd;cases i;obtain⟨b,rfl,l⟩:=qT d;obtain⟨c,rfl,m⟩:=qT g;obtain⟨e,rfl,o⟩:=qT j;exact⟨a,b,c,e,rfl,k,l,m,o⟩
theorem Pc{K:U9}:dS K oZ (rSortTi K):=by
 intro y H x w d u v Q R i a k;unfold oZ at a;split at a
 .obtain⟨s,m,a⟩:=U7.mp a;obtain⟨e,n,a⟩:=U7.mp a;split at a
  .rename_i o;cases a;cases i with
   |cons i t=>
    cases t;obtain⟨p,h,rfl,q,hd⟩:=oF R i m;have c:=hd;rw[Ec n]at c;have r:h.length=e.length:=by rw[c.length,U8]
    refine .mk q (Ed c) o λl g=>?_;obtain⟨j,R2,_⟩:=R.alloc (c:=.lst ((cE (lE e) e.length).map λi=>s.getD i .non)) (o:=.lst ((cE (lE e) h.length).map λi=>h.getD i .non)) g (by
     show IsDs _ _ _ _ _ _;rw[r];exact C1 hd _)
    exact k _ _ _ j R2 mF
  .cases a
 .cases a
theorem Ee{vs:gw}{us:gq}(h:Vals vs us):∀l:List Nat,Vals (l.map λi=>vs.getD i .non) (l.map λi=>us.getD i .none)
 |[]=>.nil|i::l=>by
  refine .cons ?_ (Ee h l);have z:=h.length;cases e:vs[i]? with
  |some v=>obtain⟨u,a,c⟩:=h.get e;simp only[Wt,e,a];exact c|none=>have:=h.none_of e;simp only[Wt,e,this];rfl
theorem yU{X:Cx}{a5N:jw}{σ:L2.St}{H:Hp}{s:Ve}(I:Inv X a5N σ H s){b:Addr}{k:List Int}(h:SqT X.K H b (k.map V.int)):iJ X.prog X.w s.heap b k:=by obtain⟨a,r,t,_⟩:=I.tuple h;exact⟨k7 I h,a,t,wD r⟩
theorem Pd{X:Cx}(hun:X.A.units+64<W0):CallR X (.builtin "sorted") (rSortTi X.K):=by
 intro M s σ H xs us Q I r h;obtain⟨hq,hw,E,k⟩:=h;rename_i q ws l;obtain⟨u,rfl,y⟩:=i5 r;cases y;obtain⟨m,L,pl,hz⟩:=I.list hq;have B:=L.length;have Y:l.length=ws.length:=hw.length.symm;have G:∃x:List Addr,m=x.map VA/\∀i,i<x.length->∃b c e,SqT X.K H (x.getD i 0) [.ref b,.ref c,.bl (l.getD i dZ).2.2.1,.ref e]/\SqT X.K H b ((l.getD i dZ).1.map V.int)/\SqT X.K H c ((l.getD i dZ).2.1.map V.int)/\SqT X.K H e ((l.getD i dZ).2.2.2.map V.int):=by
  clear hz pl k hq I B Y E;induction hw generalizing m with
  |nil=>cases L;exact⟨[],rfl,λi A=>nomatch A⟩|cons h _ ih=>
   cases L with
   |cons p w=>
    obtain⟨x,e,f⟩:=ih _ w;obtain⟨a,b,c,d,rfl,t,t1,t2,t3⟩:=h;cases p;refine⟨a::x,by rw[e];rfl,λi A=>?_⟩;cases i with
    |zero=>exact⟨b,c,d,t,t1,t2,t3⟩|succ i=>simpa using f i (by simpa using A)
 obtain⟨x,N,Z⟩:=G;have hal:x.length=m.length:=by rw[N,U8]
 have nd:m.Nodup:=by
  rw[N];unfold a0x;rw[Xv];refine We.mpr λi j A hj U e=>?_;replace e:=Value.ref.inj e;obtain⟨b,c,e4,g,O,R,T⟩:=Z i A;obtain⟨b',c',e4',f,f1,f2,f3⟩:=Z j hj;rw[show x.getD i 0=x[i] by simp[Wt,A]]at g;rw[show x.getD j 0=x[j] by simp[Wt,hj],<- e]at f;obtain⟨x1,p,⟨o1,a1,_,n1,d1⟩,_⟩:=I.tuple g;obtain⟨x2,w,⟨o2,a2,_,n2,K⟩,_⟩:=I.tuple f;rw[a1]at a2;cases a2;rw[d1]at K;injection K with K;obtain rfl:x1=x2:=by simpa using K
  cases p with
  |cons p1 p=>
  cases p with
  |cons p2 p=>
  cases p with
  |cons p3 p=>
  cases p with
  |cons p4 p=>
  cases w with
  |cons q1 w=>
  cases w with
  |cons q2 w=>
  cases w with
  |cons q3 w=>
  cases w with
  |cons q4 w=>
  cases p1;cases p2;cases p4;cases q1;cases q2;cases q4;have k3:(l.getD i dZ).2.2.1=(l.getD j dZ).2.2.1:=by generalize(l.getD i dZ).2.2.1=u at p3;generalize(l.getD j dZ).2.2.1=v at q3;cases p3;cases q3;rfl
  have k0:l.getD i dZ=l.getD j dZ:=a0c (xP I O f1) (a0c (xP I R f2) (a0c k3 (xP I T f3)));rw[show l.getD i dZ=l[i]'(by lia) by simp[Wt,show i<l.length by lia],show l.getD j dZ=l[j]'(by lia) by simp[Wt,show j<l.length by lia]]at k0;exact(We.mp E) i j (by lia) (by lia) U k0
 refine OO Pa dZ (ks:=l) (by lia) E nd (by lia) pl.isList (λh2 h3 kp=>?_) ?_
 .rw[N];refine O7 (by rw[gW,gW];lia) (by lia) (by lia) λi A=>?_;obtain⟨b,c,e,g,O,R,T⟩:=Z i A;have J:Inv X M σ H {s with heap:=h3,toks:=s.toks}:=I.kept (t':=s.toks) kp;obtain⟨us,y,⟨o,e1,e2,n,e3⟩,_⟩:=J.tuple g;cases y with
  |cons p y=>
  cases y with
  |cons w y=>
  cases y with
  |cons r3 y=>
  cases y with
  |cons r4 y=>
  cases y;cases p;cases w;cases r3;cases r4;exact⟨o,n,b,c,e,e1,e2,e3,yU J O,yU J R,yU J T⟩
 .obtain⟨e,he⟩:=sortedAll_at s.heap m ((cE (lE l) m.length).map λi=>m.getD i W8).toArray;refine⟨.ref (s.heap.objs.size+1),_,I.laid (t':=s.toks) (a:=s.heap.objs.size+1) (o:=.lst ((cE (lE l) ws.length).map λi=>ws.getD i .non)) (λb ob z=>sortedAll_old z) (a0j _) ?_,rfl,k _ (I.hok.fresh (a0j _))⟩;refine⟨?_,_,e,?_,he⟩
  .rw[U8,(gZ _ _).length_eq,WY];exact hz
  .rw[<- B];exact Ee L _
end L3
namespace L3
open PySem L2
structure Sig where
 fn:List (Str×Nat)
 con:List (Str×D)
 tab:List (Str×List (bY×D))
 no:List Str
 dIt:List Str
 dEq:List Str
 dMe:List Str
structure Cs where
 N:List Str
 ks:List (Str×X9)
noncomputable def lG(x:Str):List Str->Option Nat
 |[]=>b3|y::r=>if x=y then b0 0 else(lG x r).map (·+1)
theorem qW{x:Str}:∀{N:List Str}{i:Nat},lG x N=b0 i->N[i]?=b0 x
 |[],_,h=>by cases h
 |y::r,i,h=>by
  unfold lG at h;split at h
  .rename_i e;cases h;subst e;rfl
  .obtain⟨j,a,c⟩:=Vd.mp h;subst c;have:=qW a;simpa using this
noncomputable def glob(c:Cs)(x:Str):Bool:=decide (c.ks.lookup x=b0 .globalImplicit)&&!(x==("__debug__":Str))
noncomputable def mD(c:Cs)(x:Str):Bool:=(decide (c.ks.lookup x=b0 .local)||decide (c.ks.lookup x=b0 .cell)||decide (c.ks.lookup x=b0 .free))&&!(x==("__debug__":Str))&&!(x==("__classdict__":Str))
noncomputable def lH(c:Cs)(x:Str):Bool:=decide (c.ks.lookup x=b0 .local)||decide (c.ks.lookup x=b0 .cell)
noncomputable def yV(x:Str):Option String:=
 if x="int" then b0 "int" else if x="bool" then b0 "bool" else if x="str" then b0 "str" else if x="list" then b0 "list" else if x="tuple" then b0 "tuple" else if x="dict" then b0 "dict" else b3
theorem Pe{x:Str}{n:String}(h:yV x=b0 n):Xb x=b0 (.type n)/\x ≠ "__name__":=by
 unfold yV at h;split at h
 .rename_i e;subst e;cases h;exact⟨a3s,by decide⟩
 split at h
 .rename_i e;subst e;cases h;exact⟨a3t,by decide⟩
 split at h
 .rename_i e;subst e;cases h;exact⟨a3m,by decide⟩
 split at h
 .rename_i e;subst e;cases h;exact⟨a3p,by decide⟩
 split at h
 .rename_i e;subst e;cases h;exact⟨YU,by decide⟩
 split at h
 .rename_i e;subst e;cases h;exact⟨Z9,by decide⟩
 .cases h
noncomputable def yW(S:Sig)(c:Cs)(x:Str):ME:=
 if mD c x=dI then(match lG x c.N with|some i=>aA i|none=>b7)
 else if glob c x=dI then(match S.con.lookup x with
  |some d=>mC d
  |none=>if S.no.contains x=dI then(match yV x with|some n=>mC (.ty n)|none=>b7)else b7)
 else b7
noncomputable def gH(r:Expr->ME):List Expr->MA
 |[]=>aD|e::es=>aB (r e) (gH r es)
noncomputable def uC(op:BoolOp):List ME->ME
 |[]=>b7|[m]=>m|m::r=>match op with
  |.And=>c8 m (uC op r)|.Or=>wO m (uC op r)
noncomputable def uD(op:BoolOp):List MT->MT
 |[]=>mK|[m]=>m|m::r=>match op with
  |.And=>fG m (uD op r)|.Or=>i8 m (uD op r)
noncomputable def Ef(op:a2k)(a b:ME):ME:=match op with
 |.Add=>aC aW a b|.Sub=>aC cL a b|.Mult=>aC b8 a b|.FloorDiv=>aC cP a b|.Mod=>aC aV a b|_=>b7
noncomputable def lI(op:Zg)(ns:Bool)(a b:ME):ME:=match op with
 |.Eq=>aC (aX b5) a b|.NotEq=>aC (aX dI) a b|.Lt=>aC cU a b|.LtE=>aC kZ a b|.Gt=>aC jB a b|.GtE=>aC pV a b|.In=>if ns=dI then aC (c4 b5) a b else b7|.NotIn=>if ns=dI then aC (c4 dI) a b else b7|.Is=>aC (eN b5) a b|.IsNot=>aC (eN dI) a b
noncomputable def o6(r:Expr->ME):Option Expr->MO
 |none=>gT|some e=>f9 (r e)
noncomputable def bM:MF:=λds c=>match ds with
 |[.loc a]=>match c[a]? with
  |some (.lst xs)=>b0 (.int xs.length,c)|some (.st ks)=>b0 (.int ks.length,c)|some (.dT kvs)=>b0 (.int kvs.length,c)|_=>b3
 |_=>pW ds c
noncomputable def yX:MF:=λds a=>match ds with
 |[x]=>(bJ a x).map λc=>(.tup c,a)|_=>b3
theorem Pf{K:U9}:dS K yX (λxs H Q=>∃p c,xs=[.ref p]/\((SqL K H p c/\∀l,H l=b3->Q (.ref l) (aK H l (.tup c)))\/(SqT K H p c/\Q (.ref p) H))):=by
 intro h H s xs d o r Q R i a k;unfold yX at a;split at a
 .obtain⟨c,j,m⟩:=Vd.mp a;cases m;cases i with
  |cons i t=>
   cases t;obtain⟨p,g,rfl,q,hd⟩:=nZ R i j;refine⟨p,g,rfl,?_⟩;rcases q with q|q
   .refine .inl ⟨q,λl n=>?_⟩;obtain⟨e,R2⟩:=R.fresh (o:=.tup g) n;exact k h _ _ e R2 (.tup (.of cH) (hd.mono e))
   .exact .inr ⟨q,k h _ H .refl R (.tup q hd)⟩
 .cases a
noncomputable def yY(x:Str):Option MF:=
 if x="len" then b0 bM
 else if x="isinstance" then b0 jV
 else if x="tuple" then b0 yX
 else if x="all" then b0 pZ
 else if x="sorted" then b0 oZ
 else if x="sum" then b0 kH
 else if x="min" then b0 qS else if x="max" then b0 yR
 else b3
noncomputable def Pg(K:U9):gw->Hp->VK->Prop:=λxs H Q=>xD K xs H Q\/(∃a L,xs=[V.ref a]/\H a=b0 (sF a L)/\Q (.int L.length) H)\/DK K xs H Q
theorem Ph{K:U9}:dS K bM (Pg K):=by
 intro h H m r d g l Q R i c k;unfold bM at c;split at c
 .rename_i a;split at c
  .rename_i s e;refine .inl (Cp h H m _ d g l Q R i ?_ k);simp only[pW,bJ,e];exact c
  .rename_i o e;cases c;cases i with
   |cons i t=>cases t;cases i;obtain⟨L,j,n,_⟩:=R.st a o e;have:=congrArg WI n;rw[U8]at this;refine .inr (.inl ⟨_,L,rfl,j,?_⟩);rw[this];exact k h _ H .refl R (.int _)
  .rename_i p e;cases c;cases i with
   |cons i t=>cases t;cases i;obtain⟨q,j,T⟩:=mV R e;have:=congrArg WI T.to.1;rw[U8,U8]at this;refine .inr (.inr ⟨_,q,rfl,j,T.keys,?_⟩);rw[this];exact k h _ H .refl R (.int _)
  .cases c
 .exact .inl (Cp h H m _ d g l Q R i c k)
theorem Pj{X:Cx}{x:Str}{f:MF}(a:X.calm=dI)(c:X.A.units+64<W0)(h:yY x=b0 f):∃v r,Xb x=b0 v/\((∃id,v=.builtin id)\/∃T,v=.type T)/\CallR X v r/\dS X.K f r/\x ≠ "__name__":=by
 unfold yY at h;split at h
 .rename_i e;subst e;cases h;exact⟨_,_,a3q,.inl ⟨_,rfl⟩,call_lenM.or (call_lenT.or N5),Ph,by decide⟩
 split at h
 .rename_i e;subst e;cases h;exact⟨_,_,a3r,.inl ⟨_,rfl⟩,KU,KS,by decide⟩
 split at h
 .rename_i e;subst e;cases h;exact⟨_,_,YU,.inr ⟨_,rfl⟩,BH,Pf,by decide⟩
 split at h
 .rename_i e;subst e;cases h;exact⟨_,_,a3u,.inl ⟨_,rfl⟩,MC a,MB rfl,by decide⟩
 split at h
 .rename_i e;subst e;cases h;exact⟨_,_,ZZ,.inl ⟨_,rfl⟩,Pd c,Pc,by decide⟩
 split at h
 .rename_i e;subst e;cases h;exact⟨_,_,a3l,.inl ⟨_,rfl⟩,Nk a,Nj,by decide⟩
 split at h
 .rename_i e;subst e;cases h;exact⟨_,_,a3n,.inl ⟨_,rfl⟩,(O3 a c).or (Im a),Eb Nl,by decide⟩
 split at h
 .rename_i e;subst e;cases h;exact⟨_,_,a3o,.inl ⟨_,rfl⟩,(O4 a c).or (Il a),Eb Nm,by decide⟩
 .cases h
noncomputable def yZ(x:Str):Option MF:=
 if x="dict" then b0 mX else
 yY x
theorem Pk{X:Cx}{x:Str}{f:MF}(a:X.calm=dI)(c:X.A.units+64<W0)(h:yZ x=b0 f):∃v r,Xb x=b0 v/\((∃id,v=.builtin id)\/∃T,v=.type T)/\CallR X v r/\dS X.K f r/\x ≠ "__name__":=by
 unfold yZ at h;split at h
 .rename_i e;subst e;cases h;exact⟨_,_,Z9,.inr ⟨_,rfl⟩,Oq a c,Ot,by decide⟩
 exact Pj a c h
noncomputable def uE:Expr->Option (Expr×List Expr)
 |.Call f as [] _=>b0 (f,as)|_=>b3
theorem Eg{e f:Expr}{as:List Expr}(h:uE e=b0 (f,as)):∃pos,e=.Call f as [] pos:=by
 unfold uE at h;split at h
 .cases h;exact⟨_,rfl⟩
 .cases h
noncomputable def qX:Expr->Option Str
 |.Name x _=>b0 x|_=>b3
theorem y8{e:Expr}{x:Str}(h:qX e=b0 x):∃p,e=.Name x p:=by
 unfold qX at h;split at h
 .cases h;exact⟨_,rfl⟩
 .cases h
noncomputable def o1:List Expr->Option Expr
 |[e]=>b0 e|_=>b3
theorem Eh{l:List Expr}{e:Expr}(h:o1 l=b0 e):l=[e]:=by
 unfold o1 at h;split at h
 .cases h;rfl
 .cases h
noncomputable def o2:List Expr->Option (Expr×Expr)
 |[a,b]=>b0 (a,b)|_=>b3
theorem Pl{l:List Expr}{a b:Expr}(h:o2 l=b0 (a,b)):l=[a,b]:=by
 unfold o2 at h;split at h
 .cases h;rfl
 .cases h
noncomputable def Ei(m:Str)(n:Nat):Option (D->List D->Hm->jk):=
 if n=1 then(if m="append" then b0 gG
  else if m="extend" then b0 j6
  else if m="index" then b0 kI
  else if m="remove" then b0 oY
  else b3)
 else b3
noncomputable def Ej(S:Sig)(o:Expr)(m:Str)(n:Nat):Option (D->List D->Hm->jk):=
 b3
noncomputable def y9(S:Sig)(c:Cs)(tg:Expr):Expr->Option Nat
 |.Name x _=>match tg with
  |.Name _ _=>if S.dIt.contains x=dI then lG x c.N else b3|_=>b3
 |_=>b3
noncomputable def zA(S:Sig)(F:Str->MF)(r:Expr->ME)(c:Cs)(f:Expr)(args:List Expr)(a:W9):ME:=match f with
 |.Name x _=>if glob c x&&args.all dA then(match S.fn.lookup x with
   |some n=>if args.length=n then aF (F x) (gH r args)else b7|none=>
   if S.no.contains x&&!args.isEmpty then(match yZ x with|some g=>aF g (gH r args)|none=>b7)else b7)
  else b7
 |.Attribute o m apos=>if mN o&&(apos.endLine==a.line)&&args.all dA then(
   match Ej S o m args.length with
   |some g=>OI g (r o) (gH r args)|none=>
   match Ei m args.length with
   |some g=>dE g (r o) (gH r args)|none=>
    b7)
  else b7
 |_=>b7
noncomputable def Ek(f:Expr)(args:List Expr):Option (Str×Str×Expr):=(qX f).bind λx=>(o1 args).bind λa=>(uE a).bind λg=>(qX g.1).bind λy=>(o1 g.2).map λe=>(x,y,e)
theorem Pm{f:Expr}{args:List Expr}{x y:Str}{e:Expr}(h:Ek f args=b0 (x,y,e)):∃p d pos,f=.Name x p/\args=[.Call (.Name y d) [e] [] pos]:=by obtain⟨n,i,h⟩:=U7.mp h;obtain⟨a,j,h⟩:=U7.mp h;obtain⟨g,k,h⟩:=U7.mp h;obtain⟨o,c,h⟩:=U7.mp h;obtain⟨m,l,h⟩:=Vd.mp h;cases h;obtain⟨p,rfl⟩:=y8 i;obtain⟨pos,rfl⟩:=Eg k;obtain⟨d,c⟩:=y8 c;exact⟨p,d,pos,rfl,by rw[Eh j,c,Eh l]⟩
noncomputable def zB(S:Sig)(F:Str->MF)(r:Expr->ME)(c:Cs)(f:Expr)(args:List Expr)(a:W9):ME:=
 zA S F r c f args a
noncomputable def zC:Expr->Option (Expr×W9×W9)
 |.Call g [] [] cpos=>match g with
  |.Attribute o m apos=>if m="items" then b0 (o,apos,cpos)else b3|_=>b3
 |_=>b3
theorem Pn{e o:Expr}{a c:W9}(h:zC e=b0 (o,a,c)):e=.Call (.Attribute o "items" a) [] [] c:=by
 unfold zC at h;split at h
 .split at h
  .split at h
   .rename_i d;cases h;rw[d]
   .cases h
  .cases h
 .cases h
noncomputable def Po(f:Expr)(args:List Expr):Option (Expr×W9×W9):=(Ek f args).bind λt=>if t.1="tuple"/\t.2.1="sorted" then zC t.2.2 else b3
noncomputable def zD(S:Sig)(F:Str->MF)(r:Expr->ME)(c:Cs)(f:Expr)(args:List Expr)(a:W9):ME:=
 match Po f args with
 |some q=>if glob c "sorted" && glob c "tuple" && S.no.contains "sorted" && S.no.contains "tuple" && mN q.1&&(q.2.1.endLine==q.2.2.line)then t8 (r q.1)else b7|none=>
 zB S F r c f args a
noncomputable def o7(c:Cs)(scope:X4)(xs:List Str):Bool:=
 (scope.names.all λy=>decide (y.2≠.cell))&&decide (scope.kind=.function)&&(scope.names.all λy=>decide (y.2≠.local)||decide (scope.names.lookup y.1=b0 .local)) &&
 (xs.all λx=>decide (scope.names.lookup x=b0 .local))&&decide xs.Nodup&&(scope.names.all λy=>decide (y.2≠.free)||decide (c.ks.lookup y.1=b0 .cell)||decide (c.ks.lookup y.1=b0 .free)) &&
 (scope.names.all λy=>decide (y.2≠.local)||!(bH xs c.N).contains y.1)&&decide (bH xs c.N).Nodup&&(c.N.all λy=>!xs.contains y||decide (scope.names.lookup (nW y)=b3))
noncomputable def qY(c:Cs)(scope:X4)(xs:List Str):Cs:=
 ⟨bH xs c.N++xs,scope.names.map λ(n,k)=>if(k==XS&&c.ks.lookup n==b0 .cell)then(n,X3)else(n,k)⟩
noncomputable def Em(r:Expr->MT):List Expr->MT
 |[]=>cV|[t]=>r t|_=>mK
noncomputable def zE(S:Sig)(c:Cs):Expr->Option (List Expr)
 |.Call (.Name x _) args [] _=>if x="range" then(if glob c x&&S.no.contains x&&args.all dA then b0 args else b3)else b3|_=>b3
noncomputable def uF(S:Sig)(r:Expr->ME)(c:Cs)(e:Expr):MI:=match zE S c e with
 |some [a]=>fI (gH r [a])|some [a,b]=>k6 (gH r [a,b])|some [a,b,d]=>oR (gH r [a,b,d])|some _=>Cz|none=>bV (r e)
noncomputable def zF(S:Sig)(c:Cs):Expr->Option Expr
 |.Call (.Name x _) [a] [] _=>if x="enumerate" then(if glob c x&&S.no.contains x&&dA a then b0 a else b3)else b3|_=>b3
noncomputable def zG(S:Sig)(r:Expr->ME)(c:Cs)(e:Expr):MI:=match zF S c e with
 |some a=>mS (gH r [a])|none=>uF S r c e
noncomputable def Eo(S:Sig)(c:Cs)(e:Expr):Option (Expr×Expr):=(uE e).bind λg=>(qX g.1).bind λx=>(o2 g.2).bind λt=>if x="zip" then(if glob c x&&S.no.contains x&&dA t.1&&dA t.2 then b0 t else b3)else b3
noncomputable def zH(S:Sig)(r:Expr->ME)(c:Cs)(e:Expr):MI:=match Eo S c e with
 |some (a,b)=>qL (gH r [a,b])|none=>zG S r c e
noncomputable def zI:Expr->Option (List Str)
 |.Name x _=>b0 [x]|.Tuple es _ _=>es.mapM λe=>match e with|.Name x _=>b0 x|_=>b3
 |_=>b3
noncomputable def zJ:Expr->Nat->BD
 |.Tuple ..,n=>iH n|_,_=>nY
noncomputable def qZ(S:Sig)(r:Expr->ME)(c:Cs)(tg e:Expr):MI:=match tg with
 |.Tuple ..=>zH S r c e|_=>uF S r c e
noncomputable def lJ(d:MI)(e:Cs->Expr->ME)(g:Cs->Expr->MT)(c:Cs)(elt tg iter:Expr)(ifs:List Expr)(scope:X4):ME:=match zI tg with
 |some a=>if o7 c scope a&&fH iter then dG (zJ tg a.length) d (Em (g (qY c scope a)) ifs) (e (qY c scope a) elt)else b7|none=>b7
noncomputable def zK(S:Sig)(a:Cs->Expr->ME)(d:Cs->Expr->MT)(c:Cs)(elt tg iter:Expr)(ifs:List Expr)(scope:X4):ME:=
 match y9 S c tg iter with
 |some i=>yM i (lJ (tZ (a c iter)) a d c elt tg iter ifs scope) b7|none=>
 lJ (qZ S (a c) c tg iter) a d c elt tg iter ifs scope
noncomputable def Ep:Const->ME
 |.int i=>mC (.int i)|.bool b=>mC (.bl b)|.str s=>mC (.str s)|.none=>mC .non|_=>b7
noncomputable def Er(m:ME):UnaryOp->ME
 |.USub=>eK m|.Not=>nR m|_=>b7
noncomputable def zL(S:Sig)(r:Expr->ME)(a:Expr):List Zg->List Expr->ME
 |[op],[b]=>lI op (fH b) (r a) (r b)
 |[op,op'],[b,b']=>(match kG op,kG op' with
  |some p,b0 q=>fU (fQ p) (fQ q) (r a) (r b) (r b')
  |_,_=>b7)
 |_,_=>b7
noncomputable def zM(r:Expr->ME):List (Option Expr)->List Expr->ME
 |[],[]=>oU|_,_=>b7
noncomputable def zN(S:Sig)(r:Expr->ME)(c:Cs)(a b:Expr):ME:=match b with
 |.Slice lo hi b3 _=>jA (r a) (o6 r lo) (o6 r hi)|.Slice lo hi (b0 st) _=>oO (r a) (o6 r lo) (o6 r hi) (o6 r (b0 st))|b=>if n5 b then aC aE (r a) (r b)else b7
noncomputable def zO(r:Expr->ME)(es:List Expr):ME:=if es.all dA then aU (gH r es)else b7
noncomputable def zP(r:Expr->ME)(es:List Expr):ME:=if es.all dA then bU (gH r es)else b7
noncomputable def zQ(S:Sig)(F:Str->MF)(r:Expr->ME)(c:Cs)(f:Expr)(args:List Expr)(a:W9):List Zb->ME
 |[]=>zD S F r c f args a|_=>b7
noncomputable def zR(S:Sig)(a:Cs->Expr->ME)(d:Cs->Expr->MT)(c:Cs)(elt:Expr)(scope:X4):List Comprehension->ME
 |[⟨tg,iter,ifs,0⟩]=>zK S a d c elt tg iter ifs scope|_=>b7
noncomputable def Es(S:Sig)(F:Str->MF)(d:Cs->Expr->ME)(e:Cs->Expr->MT)(c:Cs):Expr->ME
 |.Name x _=>yW S c x|.Constant v _ _=>Ep v|.BinOp a op b _=>Ef op (d c a) (d c b)|.UnaryOp op a _=>Er (d c a) op|.Compare a ops bs _=>zL S (d c) a ops bs|.BoolOp op vs _=>uC op (vs.map (d c))|.IfExp t a b _=>i9 (e c t) (d c a) (d c b)|.Tuple es _ _=>zO (d c) es|.List es _=>zP (d c) es|.Dict keys values _=>zM (d c) keys values|.Subscript a b _=>zN S (d c) c a b|.Call f args kws cpos=>zQ S F (d c) c f args cpos kws|.ListComp elt gs scope _=>zR S d e c elt scope gs|_=>b7
noncomputable def q8(r:Expr->ME)(e:Expr):MT:=if xE e then dH (r e)else mK
noncomputable def zS(S:Sig)(r:Expr->ME)(a:Expr)(ops:List Zg)(bs:List Expr)(p:W9):MT:=match ops,bs with
 |[op],[b]=>aO (lI op (fH b) (r a) (r b))
 |[op,op'],[b,b']=>(match kG op,kG op' with
  |some p,b0 q=>aO (fU (fQ p) (fQ q) (r a) (r b) (r b'))
  |_,_=>mK)
 |ops,bs=>q8 r (.Compare a ops bs p)
noncomputable def Pp(r:Expr->ME)(t:MT)(a:Expr)(p:W9):UnaryOp->MT
 |.Not=>t|op=>q8 r (.UnaryOp op a p)
noncomputable def Et(S:Sig)(d:Cs->Expr->ME)(g:Cs->Expr->MT)(c:Cs):Expr->MT
 |.BoolOp op vs _=>uD op (vs.map (g c))|.UnaryOp op a p=>Pp (d c) (f7 (g c a)) a p op|.Compare a ops bs p=>zS S (d c) a ops bs p|e=>q8 (d c) e
noncomputable def tr(S:Sig)(F:Str->MF):Nat->(Cs->Expr->ME)×(Cs->Expr->MT)
 |0=>(λ_ _=>b7,λ_ _=>mK)|n+1=>(Es S F (tr S F n).1 (tr S F n).2,Et S (tr S F n).1 (tr S F n).2)
structure Okx(S:Sig)(F:Str->MF)(k:Nat)(c:Cs)(X:Cx):Prop where
 N:X.N=c.N
 nd:X.N.Nodup
 ks:X.env.scope.names=c.ks
 kind:X.env.scope.kind=.function
 calm:X.calm=dI
 room:Room k X.A
 never:a1I (VF X.prog X.w) X.A X.env X.xe
 fn:∀x n,S.fn.lookup x=b0 n->∃(f:Addr)(fd:X5)(ps:List Str),FnOk X.prog X.w X.K X.mg X.base fF k f fd ps (iE X.K n (F x))/\X.mg x=b0 (.ref f)/\Xp X.K (.ref f)=dI/\Binds X.K fd ps []
 con:∀x d,S.con.lookup x=b0 d->∃v u,X.mg x=b0 u/\RelV v u/\∀π n H,IsD X.K π n H v d
 tab:∀x kvs,S.tab.lookup x=b0 kvs->TabOk X x kvs
 no:∀x,S.no.contains x=dI->X.mg x=b3
section
variable{S:Sig}{F:Str->MF}{k:Nat}{c:Cs}{X:Cx}
theorem Pq(ks:X.env.scope.names=c.ks){x:Str}(h:glob c x=dI):Gl X x/\(x==("__debug__":Str))=false:=by unfold glob at h;rw[Vl]at h;refine⟨?_,by simpa using h.2⟩;show X.env.scope.names.lookup x=_;rw[ks];exact of_decide_eq_true h.1
theorem Pr(ks:X.env.scope.names=c.ks){x:Str}(h:mD c x=dI):l9 X.env.scope x/\(x==("__debug__":Str))=b5/\(x==("__classdict__":Str))=false:=by
 unfold mD at h;rw[Vl,Vl,YL,YL]at h;obtain⟨⟨a,d⟩,e⟩:=h;refine⟨?_,by simpa using d,by simpa using e⟩;unfold l9;rw[ks];rcases a with(a|a)|a
 .exact .inl (of_decide_eq_true a)
 .exact .inr (.inl (of_decide_eq_true a))
 .exact .inr (.inr (of_decide_eq_true a))
theorem Okx.gl(O:Okx S F k c X){x:Str}(h:glob c x=dI):Gl X x/\(x==("__debug__":Str))=false:=Pq O.ks h
theorem Okx.vis(O:Okx S F k c X){x:Str}(h:mD c x=dI):l9 X.env.scope x/\(x==("__debug__":Str))=b5/\(x==("__classdict__":Str))=false:=Pr O.ks h
theorem Pt(O:Okx S F k c X)(x:Str)(pos:W9):QE X (.Name x pos) (yW S c x):=by
 unfold yW;split
 .rename_i h;obtain⟨a,e,l⟩:=O.vis h;split
  .rename_i i o;exact KZ i (by rw[O.N];exact qW o) a e l
  .exact cD
 split
 .rename_i h;obtain⟨a,e⟩:=O.gl h;split
  .rename_i d hd;obtain⟨v,u,m,r,i⟩:=O.con x d hd;exact⟨nQ (G4 a m r e) i⟩
  .split
   .rename_i p;split
    .rename_i n q;obtain⟨g,j⟩:=Pe q;exact Lz (O.no x p) g a j e
    .exact cD
   .exact cD
 .exact cD
theorem jJ{r:Expr->ME}(a:∀e,QE X e (r e)):∀(es:List Expr),es.all dA=dI->QA X es (gH r es) es.length
 |[],_=>Ll|e::es,h=>by rw[Wg,Vl]at h;exact Lm (a e) (jJ a es h.2) h.1
theorem Eu{r:Expr->ME}(a:∀e,QE X e (r e))(op:BoolOp)(pos:W9):∀(vs:List Expr),QE X (.BoolOp op vs pos) (uC op (vs.map r))
 |[]=>cD|[e]=>Lh (a e)|e::g::es=>by
  have d:=Eu a op pos (g::es);cases op with
  |And=>exact Li (a e) d|Or=>exact Lj (a e) d
theorem Ew{r:Expr->MT}(a:∀e,QT X e (r e))(op:BoolOp)(pos:W9):∀(vs:List Expr),QW X (.BoolOp op vs pos) (uD op (vs.map r))
 |[]=>Ml|[e]=>by
  cases op with
  |And=>exact LK (a e)|Or=>exact LL (a e)
 |e::g::es=>by
  have d:=Ew a op pos (g::es);cases op with
  |And=>exact LM (a e) d|Or=>exact LN (a e) d
theorem Pu{a b:Expr}{g h:ME}(d:QE X a g)(e:QE X b h)(op:a2k)(pos:W9):QE X (.BinOp a op b pos) (Ef op g h):=by
 cases op with
 |Add=>exact K4 d e|Sub=>exact K5 d e|Mult=>exact K6 d e|FloorDiv=>exact K7 d e|Mod=>exact K8 d e|_=>exact cD
theorem Pw(O:Okx S F k c X){a b:Expr}{g i:ME}(d:QE X a g)(e:QE X b i)(op:Zg)(pos:W9):QE X (.Compare a [op] [b] pos) (lI op (fH b) g i):=by
 cases op with
 |Eq=>exact Lb O.room d e|NotEq=>exact Lc O.room d e|Lt=>exact Ld d e|LtE=>exact Le d e|Gt=>exact Lf d e|GtE=>exact Lg d e|In=>
  simp only[lI];split
  .rename_i h;exact N7 O.room d e h
  .exact cD
 |NotIn=>
  simp only[lI];split
  .rename_i h;exact N8 O.room d e h
  .exact cD
 |Is=>exact Nf d e|IsNot=>exact Ng d e
theorem Ex{e:Expr}:QT X e (aO b7):=⟨λa5N s σ H Q I h=>by
 obtain⟨j,l,i,d,g,R,E,a,k⟩:=h;cases a⟩
theorem Px(O:Okx S F k c X){a b:Expr}{g i:ME}(d:QE X a g)(e:QE X b i)(op:Zg)(pos:W9):QT X (.Compare a [op] [b] pos) (aO (lI op (fH b) g i)):=by
 cases op with
 |Eq=>exact LA O.room d e|NotEq=>exact LB O.room d e|Lt=>exact LC d e|LtE=>exact LF d e|Gt=>exact LG d e|GtE=>exact LH d e|In=>
  simp only[lI];split
  .rename_i h;exact N9 O.room d e h
  .exact Ex
 |NotIn=>
  simp only[lI];split
  .rename_i h;exact Oa O.room d e h
  .exact Ex
 |Is=>exact Nh d e|IsNot=>exact Ni d e
theorem rA{r:Expr->ME}(a:∀e,QE X e (r e)):∀o:Option Expr,QO X o (o6 r o)
 |none=>Lq|some e=>Lr (a e)
theorem Py(O:Okx S F k c X){r:Expr->ME}(s:∀e,QE X e (r e))(f:Expr)(args:List Expr)(h:W9):QE X (.Call f args [] h) (zA S F r c f args h):=by
 unfold zA;split
 .rename_i x p;split
  .rename_i l;rw[Vl]at l;obtain⟨u,w⟩:=O.gl l.1;have i:=jJ s args l.2;split
   .rename_i n q;split
    .rename_i B;obtain⟨U,Y,Z,G,a,N,A⟩:=O.fn x n q;subst B;cases args with
     |nil=>exact Mx G O.room a N A u w|cons e E=>exact Lu G O.room a N A i u w
    .exact cD
   .skip;split
    .rename_i d;rw[Vl]at d;split
     .rename_i g A;obtain⟨v,rr,I,Q,K,L,M⟩:=Pk (X:=X) O.calm O.room.units A;cases args with
      |nil=>exact absurd d.2 (by simp)|cons e E=>
       rcases Q with⟨id,rfl⟩|⟨T,rfl⟩
       .exact Lv K L (O.no x d.1) I i u M w
       .exact Lx K L (O.no x d.1) I i u M w
     .exact cD
    .exact cD
  .exact cD
 .rename_i o m H;split
  .rename_i l;rw[Vl,Vl]at l;obtain⟨⟨y,z⟩,R⟩:=l;have i:=jJ s args R;split
   .rename_i g a;unfold Ej at a;cases a
   split
   .rename_i g a;unfold Ei at a;split at a
    .rename_i B;cases args with
     |nil=>cases B|cons e E=>
      have q:(e::E).length<30:=by rw[B];decide
      split at a
      .rename_i j;subst j;cases a;exact tB PySem.F.slot_list_append PySem.F.type_list_append BK Mt (s o) i y z q
      split at a
      .rename_i j;subst j;cases a;exact tB PySem.F.slot_list_extend PySem.F.type_list_extend Jk Mu (s o) i y z q
      split at a
      .rename_i j;subst j;cases a;exact tB PySem.F.slot_list_index PySem.F.type_list_index (NH (by have:=O.room.units;lia)) NG (s o) i y z q
      split at a
      .rename_i j;subst j;cases a;exact tB PySem.F.slot_list_remove PySem.F.type_list_remove (OW (by have:=O.room.units;lia)) OU (s o) i y z q
      .cases a
    .cases a
   .skip
    .exact cD
  .exact cD
 .exact cD
theorem Pz(O:Okx S F k c X){r:Expr->ME}(d:∀e,QE X e (r e))(f:Expr)(args:List Expr)(a:W9):QE X (.Call f args [] a) (zB S F r c f args a):=by unfold zB;exact Py O d f args a
theorem PB(u:X.N.Nodup)(g:X.N=c.N)(ks:X.env.scope.names=c.ks){scope:X4}{xs:List Str}(h:o7 c scope xs=dI):CompSt X.env.scope X.N scope xs/\xs.Nodup:=by
 unfold o7 at h;rw[Vl,Vl]at h;obtain⟨⟨h,d⟩,r⟩:=h;have d:=of_decide_eq_true d;have e:∀y∈c.N,xs.contains y=dI->scope.names.lookup (nW y)=none:=λy a hc=>by have:=W6.mp r y a;rw[hc]at this;simpa using this
 simp only[Vl,W6,decide_eq_true_eq,YL,ZI,List.contains_eq_mem,decide_eq_false_iff_not]at h;obtain⟨⟨⟨⟨⟨⟨j,l⟩,m⟩,n⟩,q⟩,o⟩,p⟩:=h;refine⟨⟨j,l,λy a i=>(m y a).resolve_left (λz=>z i),n,λy a s=>?_,λy a i=>?_,u,by rw[g];exact d,by rw[g];exact e⟩,q⟩
 .rw[ks];rcases o y a with(z|z)|z
  .exact absurd s z
  .exact .inl z
  .exact .inr z
 .rw[g];have:=(p y a).resolve_left (λz=>z i);exact this
theorem rB(O:Okx S F k c X){scope:X4}{xs:List Str}(h:o7 c scope xs=dI):CompSt X.env.scope X.N scope xs/\xs.Nodup:=PB O.nd O.N O.ks h
theorem Ey{N xs:List Str}(h:N.Nodup)(d:xs.Nodup)(g:∀x∈xs,x∉N):(N++xs).Nodup:=by rw[YX];exact⟨h,d,λa i b j e=>by subst e;exact g _ j i⟩
theorem Ez{scope:X4}{xs:List Str}(Q:CompSt X.env.scope X.N scope xs/\xs.Nodup):(bH xs X.N++xs).Nodup:=Ey Q.1.hnd Q.2 λx a=>Q.1.own (x,.local) (WN (Q.1.here x a)) rfl
theorem PC(a:X.env.scope.kind=.function)(ks:X.env.scope.names=c.ks)(scope:X4)(xs:List Str):(a4D scope X.env).names=(qY c scope xs).ks:=by
 unfold a4D qY;dsimp only;refine XU λy _=>?_;obtain⟨n,d⟩:=y;dsimp only;have:(X.env.scope.kind==ScopeKind.function)=true:=by rw[a];rfl
 rw[this,a1V];show(if(d==XS&&X.env.scope.names.lookup n==b0 X3)=dI then _ else _)=_;rw[ks]
theorem Okx.comp(O:Okx S F k c X){scope:X4}{xs:List Str}(h:o7 c scope xs=dI){d:List (Str×Addr)}{C:Addr}{s₀:Ve}{H₀:Hp}{e:List Addr}:Okx S F k (qY c scope xs) (cB X scope d C (bH xs X.N++xs) s₀ H₀ e):=
 ⟨show bH xs X.N++xs=bH xs c.N++xs by rw[O.N],Ez (rB O h),PC O.kind O.ks scope xs,(rB O h).1.kind,O.calm,O.room,a2w,O.fn,O.con,λy a q=>⟨(O.tab y a q).ex⟩,O.no
  ⟩
theorem EA{r:Expr->MT}(j:∀e,QT X e (r e)):∀es:List Expr,QI X es (Em r es)
 |[]=>LP|[t]=>LQ (j t)
 |a::b::es=>⟨λg s p H Q I h=>by
   obtain⟨n,o,m,d,l,R,E,i,k⟩:=h;cases i⟩
theorem zT(O:Okx S F k c X){e:Expr}{args:List Expr}(h:zE S c e=b0 args):∃p pos,e=.Call (.Name "range" p) args [] pos/\Gl X "range"/\X.mg "range"=b3/\args.all dA=true:=by
 unfold zE at h;split at h
 .split at h
  .rename_i d;subst d;split at h
   .rename_i a;cases h;rw[Vl,Vl]at a;exact⟨_,_,rfl,(O.gl a.1.1).1,O.no _ a.1.2,a.2⟩
   .cases h
  .cases h
 .cases h
theorem EB(O:Okx S F k c X){r:Expr->ME}(l:∀e,QE X e (r e))(e:Expr):QJ X e (uF S r c e):=by
 unfold uF;split
 .rename_i a h;obtain⟨p,pos,rfl,g,i,j⟩:=zT O h;exact Mc g i (jJ l [a] j)
 .rename_i a b h;obtain⟨p,pos,rfl,g,i,j⟩:=zT O h;exact Md g i (jJ l [a,b] j)
 .rename_i a b d h;obtain⟨p,pos,rfl,g,i,j⟩:=zT O h;exact NM g i (jJ l [a,b,d] j)
 .exact L6
 .exact Ma (l e)
theorem PD(O:Okx S F k c X){e a:Expr}(h:zF S c e=b0 a):∃p pos,e=.Call (.Name "enumerate" p) [a] [] pos/\Gl X "enumerate"/\X.mg "enumerate"=b3/\dA a=true:=by
 unfold zF at h;split at h
 .split at h
  .rename_i g;subst g;split at h
   .rename_i d;cases h;rw[Vl,Vl]at d;exact⟨_,_,rfl,(O.gl d.1.1).1,O.no _ d.1.2,d.2⟩
   .cases h
  .cases h
 .cases h
theorem PF(O:Okx S F k c X){r:Expr->ME}(d:∀e,QE X e (r e))(e:Expr):QJT X e (zG S r c e):=by
 unfold zG;split
 .rename_i a h;obtain⟨p,pos,rfl,g,i,j⟩:=PD O h;exact Ny g i (jJ d [a] (by rw[Wg,j];rfl))
 .exact(EB O d e).t
theorem PH(O:Okx S F k c X){e a b:Expr}(h:Eo S c e=b0 (a,b)):∃p pos,e=.Call (.Name "zip" p) [a,b] [] pos/\Gl X "zip"/\X.mg "zip"=b3/\dA a=dI/\dA b=true:=by
 obtain⟨g,j,m⟩:=U7.mp h;obtain⟨x,l,n⟩:=U7.mp m;obtain⟨t,q,d⟩:=U7.mp n;clear h m n;split at d
 .rename_i o;subst o;split at d
  .rename_i i;cases d;rw[Vl,Vl,Vl]at i;obtain⟨pos,j⟩:=Eg j;obtain⟨p,l⟩:=y8 l;exact⟨p,pos,by rw[j,l,Pl q],(O.gl i.1.1.1).1,O.no _ i.1.1.2,i.1.2,i.2⟩
  .cases d
 .cases d
theorem PJ(O:Okx S F k c X){r:Expr->ME}(d:∀e,QE X e (r e))(e:Expr):QJT X e (zH S r c e):=by
 unfold zH;split
 .rename_i a b h;obtain⟨p,pos,rfl,g,i,j,l⟩:=PH O h;exact Og g i (jJ d [a,b] (by rw[Wg,Wg,j,l];rfl))
 .exact PF O d e
theorem zU(O:Okx S F k c X){r:Expr->ME}(a:∀e,QE X e (r e))(tg e:Expr):PI X tg e (tMI X.K (qZ S r c tg e)):=by
 unfold qZ;split
 .exact(PJ O a e).h _ _ _
 .exact(EB O a e).h _
theorem EC{iter:Expr}{env:a0y}(h:fH iter=dI):∀x,Yx iter env x=pure x:=by intro z;cases iter<;>first|rfl|cases h
end
theorem ED{X:Cx}(d:X.N.Nodup):∀(es:List Expr)(xs:List Str)(n:Nat),(es.mapM λe=>match e with|.Name x _=>b0 x|_=>b3)=b0 xs->(∀j x,xs[j]?=b0 x->X.N[n+j]?=b0 x/\X.env.scope.names.lookup x=b0 .local)->QGs X es (ZF n xs.length)
 |[],xs,n,h,hx=>by cases h;exact Cw
 |e::es,xs,n,h,hx=>by
  rw[List.mapM_cons]at h;obtain⟨x,c,h⟩:=U7.mp h;obtain⟨k,g,h⟩:=U7.mp h;cases h;cases e with
  |Name y p=>cases c;rw[VD,a0R];have a:=hx 0 x rfl;refine Cy n d (ED d es k (n+1) g λj z i=>?_) (by simpa using a.1) (.inl a.2) (.inr a.2);have:=hx (j+1) z (by simpa using i);rw[show n+1+j=n+(j+1) by lia];exact this|_=>cases c
theorem PK{c:Cs}{X:Cx}{scope:X4}{x:Str}{p:W9}(Q:CompSt X.env.scope X.N scope [x]/\[x].Nodup)(a:List (Str×Addr))(C:Addr)(s₀:Ve)(H₀:Hp)(d:List Addr):PG (cB X scope a C (bH [x] X.N++[x]) s₀ H₀ d) (.Name x p) (tMG X.K (gB X.N.length nY)):=by have g:=Ez Q;have e:(a4D scope X.env).names.lookup x=b0 .local:=a3P (Q.1.here x (by simp));exact Me (X:=cB X scope a C (bH [x] X.N++[x]) s₀ H₀ d) (by show(bH [x] X.N++[x]).length=_;rw[Vh,mG];rfl) (Ck (X:=cB X scope a C (bH [x] X.N++[x]) s₀ H₀ d) g (by show(bH [x] X.N++[x])[X.N.length]?=_;rw[<- mG [x] X.N];simp) (.inl e) (.inr e))
theorem uG{S:Sig}{F:Str->MF}{k:Nat}{c:Cs}{X:Cx}(O:Okx S F k c X){scope:X4}{tg:Expr}{xs:List Str}(a:zI tg=b0 xs)(h:o7 c scope xs=dI)(e:List (Str×Addr))(C:Addr)(s₀:Ve)(H₀:Hp)(g:List Addr) :
  PG (cB X scope e C (bH xs X.N++xs) s₀ H₀ g) tg (tMG X.K (gB X.N.length (zJ tg xs.length)))/\∀d o z,zJ tg xs.length d o=b0 z->z.length=xs.length:=by
 obtain⟨St,l⟩:=rB O h;have s:(bH xs X.N++xs).Nodup:=Ey St.hnd l λx a=>St.own (x,.local) (WN (St.here x a)) rfl;have i:∀x∈xs,(a4D scope X.env).names.lookup x=b0 .local:=λx a=>a3P (St.here x a);unfold zI at a;split at a
 .rename_i x p;cases a;refine⟨PK (c:=c) ⟨St,l⟩ e C s₀ H₀ g,λd o z n=>?_⟩;cases n;rfl
 .rename_i r w pt;refine⟨Mf (X:=cB X scope e C (bH xs X.N++xs) s₀ H₀ g) (by show(bH xs X.N++xs).length=_;rw[Vh,mG]) (xF (X:=cB X scope e C (bH xs X.N++xs) s₀ H₀ g) (ED (X:=cB X scope e C (bH xs X.N++xs) s₀ H₀ g) s r xs X.N.length a λj x q=>⟨?_,i x (VR q)⟩) O.calm).h,λd o z n=>?_⟩
  .show(bH xs X.N++xs)[X.N.length+j]?=b0 x;rw[VB (by rw[mG];lia),mG,show X.N.length+j-X.N.length=j by lia];exact q
  .obtain⟨y,v,m⟩:=U7.mp n;split at m
   .rename_i u;cases m;rw[U8];exact u
   .cases m
 .cases a
theorem PL(O:Okx S F k c X){r:Expr->ME}(j:∀e,QE X e (r e))(f:Expr)(args:List Expr)(a:W9):QE X (.Call f args [] a) (zD S F r c f args a):=by
 unfold zD;split
 .rename_i q h;split
  .rename_i i;rw[Vl,Vl,Vl,Vl,Vl]at i;obtain⟨⟨⟨⟨⟨l,m⟩,s⟩,u⟩,st⟩,o⟩:=i;obtain⟨t,n,g⟩:=U7.mp h;split at g
   .rename_i d;obtain⟨p,v,pos,rfl,rfl⟩:=Pm n;rw[d.1,d.2,Pn g];exact ON O.calm O.room.units (O.no _ s) (O.no _ u) (O.gl l).1 (O.gl m).1 (j _) st o
   .cases g
  .exact cD
 exact Pz O j _ _ _
theorem zV{S:Sig}{F:Str->MF}{k:Nat}{n:Cs->Expr->ME}{o:Cs->Expr->MT}(p:∀c X,Okx S F k c X->∀e,QE X e (n c e))(r:∀c X,Okx S F k c X->∀e,QT X e (o c e))(c:Cs)(X:Cx)(O:Okx S F k c X)
  (elt tg iter:Expr)(ifs:List Expr)(scope:X4)(pos:W9){m:MI}(u:PI X tg iter (tMI X.K m)):QE X (.ListComp elt [⟨tg,iter,ifs,0⟩] scope pos) (lJ m n o c elt tg iter ifs scope):=by
 unfold lJ;split
 .rename_i x l;split
  .rename_i h;rw[Vl]at h;refine⟨λi s w H Q I q=>?_⟩;exact Mi ((rB O h.1).1.ok I.ok) O.calm u (λd v z=>(uG O l h.1 [] 0 s H []).2 d v z) (λC g a j=>(uG O l h.1 _ C g a j).1) (λC g a j=>(EA (r _ _ (O.comp h.1)) _).h) (λC g a j=>(p _ _ (O.comp h.1) _).h) (EC h.2) i s w H Q I q
  .exact cD
 .exact cD
theorem PM{S:Sig}{F:Str->MF}{k:Nat}{g:Cs->Expr->ME}{h:Cs->Expr->MT}(a:∀c X,Okx S F k c X->∀e,QE X e (g c e))(d:∀c X,Okx S F k c X->∀e,QT X e (h c e))(c:Cs)(X:Cx)(O:Okx S F k c X)
  (elt tg iter:Expr)(ifs:List Expr)(scope:X4)(pos:W9):QE X (.ListComp elt [⟨tg,iter,ifs,0⟩] scope pos) (zK S g h c elt tg iter ifs scope):=by
 unfold zK;split
 .exact OC (zV a d c X O elt tg iter ifs scope pos ((yO (a c X O iter)).h tg)) cD
 exact zV a d c X O elt tg iter ifs scope pos (zU O (a c X O) tg iter)
section
variable{S:Sig}{F:Str->MF}{k:Nat}{c:Cs}{X:Cx}{r:Expr->ME}
theorem PN(v:Const)(n:Nat)(p:W9):QE X (.Constant v n p) (Ep v):=by cases v<;>first|exact K0|exact K1|exact K2|exact K3|exact cD
theorem PQ(d:∀e,QE X e (r e))(op:UnaryOp)(a:Expr)(p:W9):QE X (.UnaryOp op a p) (Er (r a) op):=by cases op<;>first|exact K9 (d _)|exact La (d _)|exact cD
theorem PR(O:Okx S F k c X)(d:∀e,QE X e (r e))(a:Expr)(ops:List Zg)(bs:List Expr)(p:W9):QE X (.Compare a ops bs p) (zL S r a ops bs):=by
 unfold zL;split
 .exact Pw O (d _) (d _) _ _
 .split
  .rename_i g h;exact Nc g h (d _) (d _) (d _)
  .exact cD
 .exact cD
theorem PU(O:Okx S F k c X)(a:∀e,QE X e (r e))(ks:List (Option Expr))(vs:List Expr)(p:W9):QE X (.Dict ks vs p) (zM r ks vs):=by
 unfold zM;try split
 .exact NV
 .exact cD
theorem PV(O:Okx S F k c X)(d:∀e,QE X e (r e))(a b:Expr)(p:W9):QE X (.Subscript a b p) (zN S r c a b):=by
 unfold zN;split
 .exact Ls (d _) (rA d _) (rA d _)
 .exact Nt (d _) (rA d _) (rA d _) (rA d _)
 .split
  .rename_i h
   .exact N6 O.room (d _) (d _) h
  .exact cD
theorem zW(a:∀e,QE X e (r e))(e:Expr):QT X e (q8 r e):=by
 unfold q8;split
 .rename_i h;exact Mw (a _) h
 .exact xI
theorem PX(O:Okx S F k c X)(d:∀e,QE X e (r e))(a:Expr)(ops:List Zg)(bs:List Expr)(p:W9):QT X (.Compare a ops bs p) (zS S r a ops bs p):=by
 unfold zS;split
 .exact Px O (d _) (d _) _ _
 .split
  .rename_i g h;exact Nd g h (d _) (d _) (d _)
  .exact xI
 .exact zW d _
theorem PY(a:∀e,QE X e (r e))(es:List Expr)(n:Nat)(p:W9):QE X (.Tuple es n p) (zO r es):=by
 unfold zO;split
 .rename_i h;exact Ln (jJ a _ h)
 .exact cD
theorem PZ(a:∀e,QE X e (r e))(es:List Expr)(p:W9):QE X (.List es p) (zP r es):=by
 unfold zP;split
 .rename_i h;exact Lo (jJ a _ h)
 .exact cD
theorem P0(O:Okx S F k c X)(d:∀e,QE X e (r e))(f:Expr)(args:List Expr)(a:List Zb)(p:W9):QE X (.Call f args a p) (zQ S F r c f args p a):=by
 unfold zQ;split
 .exact PL O d _ _ _
 .exact cD
end
theorem EE{S:Sig}{F:Str->MF}{k:Nat}{m:Cs->Expr->ME}{o:Cs->Expr->MT}(y:∀c X,Okx S F k c X->∀e,QE X e (m c e))(z:∀c X,Okx S F k c X->∀e,QT X e (o c e))(c:Cs)(X:Cx)(O:Okx S F k c X) :
  (∀e,QE X e (Es S F m o c e))/\∀e,QT X e (Et S m o c e):=by
 have d:=y c X O;have s:=z c X O;constructor
 .intro e;cases e with
  |Name x p=>exact Pt O _ _|Constant v n p=>exact PN v n p|BinOp a i b p=>exact Pu (d _) (d _) _ _|UnaryOp i a p=>exact PQ d i a p|Compare a g bs p=>exact PR O d a g bs p|BoolOp i w p=>exact Eu d _ _ _|IfExp t a b p=>exact Lk (s _) (d _) (d _)|Tuple r n p=>exact PY d r n p|List r p=>exact PZ d r p|Dict B w p=>exact PU O d B w p|Subscript a b p=>exact PV O d a b p|Call f j u l=>exact P0 O d f j u l|ListComp q A h p=>
   show QE X _ (zR S m o c q h A);unfold zR;split
   .exact PM y z c X O _ _ _ _ _ _
   .exact cD
  |_=>exact cD
 .intro e;cases e with
  |BoolOp i w p=>exact LO (Ew s _ _ _)|UnaryOp i a p=>
   cases i;case Not=>exact LJ (s _)
   all_goals exact zW d _
  |Compare a g bs p=>exact PX O d a g bs p|_=>exact zW d _
theorem zX{S:Sig}{F:Str->MF}{k:Nat}:∀(n:Nat),(∀c X,Okx S F k c X->∀e,QE X e ((tr S F n).1 c e))/\∀c X,Okx S F k c X->∀e,QT X e ((tr S F n).2 c e)
 |0=>⟨λc X O e=>cD,λc X O e=>xI⟩|n+1=>by have a:=zX (S:=S) (F:=F) (k:=k) n;exact⟨λc X O e=>(EE a.1 a.2 c X O).1 e,λc X O e=>(EE a.1 a.2 c X O).2 e⟩
noncomputable def uH:MG:=λ_ _ _=>b3
noncomputable def rC(c:Cs):List Expr->Option (List Nat)
 |[]=>b0 []|.Name x _::r=>if lH c x then(lG x c.N).bind λi=>(rC c r).map (i::·)else b3|_=>b3
noncomputable def rD(c:Cs):Expr->MG
 |.Name x _=>if lH c x then(match lG x c.N with|some i=>cI i|none=>uH)else uH|.Tuple es _ _=>match rC c es with|some a=>gD a|none=>uH
 |_=>uH
noncomputable def kJ(r:Stmt->MS):List Stmt->MS
 |[]=>bC|[s]=>r s|s::t=>aH (r s) (kJ r t)
noncomputable def zY(S:Sig)(E:Cs->Expr->ME)(T:Cs->Expr->MT)(c:Cs)(i:Nat):Expr->MS
 |.ListComp elt [⟨tg,iter,ifs,0⟩] scope _=>match y9 S c tg iter with
  |some j=>tY j (aM i (lJ (tZ (E c iter)) E T c elt tg iter ifs scope)) c3|none=>aM i (lJ (qZ S (E c) c tg iter) E T c elt tg iter ifs scope)
 |_=>c3
noncomputable def zZ(S:Sig)(E:Cs->Expr->ME)(T:Cs->Expr->MT)(c:Cs)(tg e:Expr):MS:=match tg with
 |.Name y _=>if lH c y then(match lG y c.N with
   |some i=>if jC e then aM i (E c e)else zY S E T c i e
   |none=>c3)else c3
 |.Tuple es _ _=>if xG e then(match rC c es with|some a=>k5 (E c e) (gD a)|none=>c3)
   else c3
 |.Subscript o i _=>if jC e&&n5 i then mU (E c o) (E c i) (E c e)else c3|_=>c3
noncomputable def m7:Nat:=1000000000
noncomputable def z7(tg:Expr):Expr->Option (Expr×W9×W9)
 |.Call g [] [] cpos=>match g with
  |.Attribute o m apos=>match tg with
   |.Tuple ..=>if m="items" then b0 (o,apos,cpos)else b3|_=>b3
  |_=>b3
 |_=>b3
theorem P1{tg e:Expr}{q:Expr×W9×W9}(h:z7 tg e=b0 q):e=.Call (.Attribute q.1 "items" q.2.1) [] [] q.2.2/\∃es c p,tg=.Tuple es c p:=by
 unfold z7 at h;split at h
 .split at h
  .split at h
   .split at h
    .rename_i a;cases h;rw[a];exact⟨rfl,_,_,_,rfl⟩
    .cases h
   .cases h
  .cases h
 .cases h
noncomputable def EF(S:Sig)(E:Cs->Expr->ME)(T:Cs->Expr->MT)(c:Cs)(r:Stmt->MS):Stmt->MS
 |.Return (b0 e) _=>aN (E c e)|.Return b3 _=>aN (mC .non)|.If t a b _=>bA (T c t) (kJ r a) (kJ r b)|.Assign [tg] e _=>zZ S E T c tg e|.Expr e _=>if jC e then c9 (E c e)else c3|.For tg iter body [] _=>if fH iter then
  (match z7 tg iter with
  |some q=>if mN q.1&&(q.2.1.endLine==q.2.2.line)then cC (qQ (E c q.1)) (rD c tg) (kJ r body)else c3|none=>
  (match y9 S c tg iter with
  |some j=>tY j (cC (tZ (E c iter)) (rD c tg) (kJ r body)) c3
  |none=>cC (qZ S (E c) c tg iter) (rD c tg) (kJ r body))
  )
  else c3
 |.While t body [] _=>mP m7 (T c t) (kJ r body)|.Pass _=>bC|_=>c3
noncomputable def z8(S:Sig)(F:Str->MF)(m:Nat)(c:Cs):Nat->Stmt->MS
 |0=>λ_=>c3|n+1=>EF S (tr S F m).1 (tr S F m).2 c (z8 S F m c n)
section
variable{S:Sig}{F:Str->MF}{k:Nat}{c:Cs}{X:Cx}
theorem P2(ks:X.env.scope.names=c.ks){x:Str}(h:lH c x=dI):L2.Loc X.env.scope x:=by unfold lH at h;rw[YL]at h;unfold L2.Loc;rw[ks];exact h.imp of_decide_eq_true of_decide_eq_true
theorem Okx.own(O:Okx S F k c X){x:Str}(h:lH c x=dI):L2.Loc X.env.scope x:=P2 O.ks h
theorem z9(O:Okx S F k c X)(d:∀x,X.fn x=dI):∀(es:List Expr)(a:List Nat),rC c es=b0 a->QGs X es a
 |[],a,h=>by cases h;exact Cw
 |e::es,a,h=>by
  cases e with
  |Name x p=>
   unfold rC at h;split at h
   .rename_i l;obtain⟨i,g,h⟩:=U7.mp h;obtain⟨m,j,h⟩:=Vd.mp h;subst h;exact Cy i O.nd (z9 O d es m j) (by rw[O.N];exact qW g) (O.own l) (.inl (d x))
   .cases h
  |_=>cases h
theorem Aa(O:Okx S F k c X)(d:∀x,X.fn x=dI)(e:Expr):QG X e (rD c e):=by
 unfold rD;split
 .split
  .rename_i g;split
   .rename_i i a;exact L0 i O.nd (by rw[O.N];exact qW a) (O.own g) (.inl (d _))
   .exact sW λ_ _ _=>rfl
  .exact sW λ_ _ _=>rfl
 .split
  .rename_i h a;exact xF (z9 O d _ h a) O.calm
  .exact sW λ_ _ _=>rfl
 .exact sW λ_ _ _=>rfl
theorem lK{r:Stmt->MS}(a:∀s,QS X s (r s)):∀d:List Stmt,QB X d (kJ r d)
 |[]=>LR|[s]=>LU (a s)|s::t::ts=>LS (a s) (lK a (t::ts))
theorem P4{elt tg iter:Expr}{ifs:List Expr}{scope:X4}{pos py:W9}{y:Str}{n:Nat}{env:a0y} :
  ∃b:Bool,Zj (.ListComp elt [⟨tg,iter,ifs,0⟩] scope pos) (b0 (.Name y py)) n env=pure b/\(b=dI->env.kindOf y=b0 .local):=by
 refine⟨env.blockKind==.function&&env.kindOf y==b0 .local&&py.line==pos.line&&!(scope.names.any λ(n,k)=>n==y&&(k==.local||k==.cell)),rfl,λh=>?_⟩;simp only[Vl,beq_iff_eq]at h;exact h.1.1.2
theorem EG(O:Okx S F k c X)(B:∀x,X.fn x=dI){E:Cs->Expr->ME}{T:Cs->Expr->MT}(r:∀c X,Okx S F k c X->∀e,QE X e (E c e))(u:∀c X,Okx S F k c X->∀e,QT X e (T c e))
  {i:Nat}{y:Str}{py j:W9}(v:X.N[i]?=b0 y)(G:lH c y=dI)(elt tg iter:Expr)(ifs:List Expr)(scope:X4)(pos:W9){A:MI}(m:PI X tg iter (tMI X.K A)):QS X (.Assign [.Name y py] (.ListComp elt [⟨tg,iter,ifs,0⟩] scope pos) j) (aM i (lJ A E T c elt tg iter ifs scope)):=by
  obtain⟨b,l,p⟩:=P4 (elt:=elt) (tg:=tg) (iter:=iter) (ifs:=ifs) (scope:=scope) (pos:=pos) (py:=py) (y:=y) (n:=j.line) (env:=X.env);cases b with
  |false=>exact⟨B4 O.nd v (O.own G) (zV r u c X O elt tg iter ifs scope pos m).h l (.inl (B y))⟩|true=>
   unfold lJ;split
   .rename_i M w;split
    .rename_i h;rw[Vl]at h;refine⟨λn s L H D I q=>?_⟩;exact Mj ((rB O h.1).1.ok I.ok) O.nd O.calm m (λd K z=>(uG O w h.1 [] 0 s H []).2 d K z) (λC g a o=>(uG O w h.1 _ C g a o).1) (λC g a o=>(EA (u _ _ (O.comp h.1)) _).h) (λC g a o=>(r _ _ (O.comp h.1) _).h) (EC h.2) v (p rfl) l n s L H D I q
    .exact Dx
   .exact Dx
theorem P5(O:Okx S F k c X)(h:∀x,X.fn x=dI){E:Cs->Expr->ME}{T:Cs->Expr->MT}(d:∀c X,Okx S F k c X->∀e,QE X e (E c e))(g:∀c X,Okx S F k c X->∀e,QT X e (T c e))
  {i:Nat}{y:Str}{py a:W9}(j:X.N[i]?=b0 y)(l:lH c y=dI)(e:Expr):QS X (.Assign [.Name y py] e a) (zY S E T c i e):=by
 unfold zY;split
 .split
  .exact D2 (EG O h d g j l _ _ _ _ _ _ ((yO (d c X O _)).h _)) eC
  .exact EG O h d g j l _ _ _ _ _ _ (zU O (d c X O) _ _)
 .exact eC
theorem P6(O:Okx S F k c X)(g:∀x,X.fn x=dI){E:Cs->Expr->ME}{T:Cs->Expr->MT}(d:∀c X,Okx S F k c X->∀e,QE X e (E c e))(n:∀c X,Okx S F k c X->∀e,QT X e (T c e))(tg e:Expr)(pos:W9) :
  QS X (.Assign [tg] e pos) (zZ S E T c tg e):=by
 unfold zZ;split
 .split
  .rename_i m;split
   .rename_i i j;have a:=qW j;rw[<- O.N]at a;split
    .rename_i l;exact LZ i O.nd (d c X O e) l a (O.own m) (.inl (g _))
    .exact P5 O g d n a m e
   .exact eC
  .exact eC
 .split
  .rename_i l;split
   .rename_i o j;exact L4 (d c X O e) (xF (z9 O g _ o j) O.calm) l
   .exact eC
  .exact eC
 .split
  .rename_i h;rw[Vl]at h;exact Ob O.room (d c X O _) (d c X O _) (d c X O _) h.1
  .exact eC
 .exact eC
theorem P7(O:Okx S F k c X)(m:∀x,X.fn x=dI){E:Cs->Expr->ME}{T:Cs->Expr->MT}(g:∀c X,Okx S F k c X->∀e,QE X e (E c e))(n:∀c X,Okx S F k c X->∀e,QT X e (T c e)){r:Stmt->MS}(i:∀s,QS X s (r s))(st:Stmt) :
  QS X st (EF S E T c r st):=by
 cases st with
 |Return o p=>
  cases o with
  |none=>exact Mz|some e=>exact LW (g c X O _)
 |If t a b p=>exact LY (n c X O _) (lK i _) (lK i _)|Assign v e p=>
  cases v with
  |nil=>exact eC|cons B G=>
   cases G with
   |nil=>exact P6 O m g n _ _ _|cons _ _=>exact eC
 |Expr e p=>
  show QS X _ (if jC e then c9 (E c e)else c3);split
  .rename_i h;exact LX (g c X O _) h
  .exact eC
 |For B l j d p=>
  cases d with
  |cons _ _=>exact eC|nil=>
   show QS X _ (if fH l then _ else c3);split
   .rename_i h;split
    .rename_i q z;split
     .rename_i u;rw[Vl]at u;obtain⟨e,y,A,pt,w⟩:=P1 z;rw[e]at h ⊢;subst w;exact yD ((OT (g c X O _) u.1 u.2).h y A pt) (Aa O m _) (lK i _) O.never O.calm h
     .exact eC
    split
    .exact D2 (yD ((yO (g c X O _)).h _) (Aa O m _) (lK i _) O.never O.calm h) eC
    exact yD (zU O (g c X O) _ _) (Aa O m _) (lK i _) O.never O.calm h
   .exact eC
 |While t j d p=>
  cases d with
  |nil=>exact My _ (n c X O _) (lK i _) O.never|cons _ _=>exact eC
 |Pass p=>exact LV|_=>exact eC
theorem EH(O:Okx S F k c X)(a:∀x,X.fn x=dI)(m:Nat):∀(n:Nat)(st:Stmt),QS X st (z8 S F m c n st)
 |0,_=>eC|n+1,st=>P7 O a (zX m).1 (zX m).2 (EH O a m n) st
end
noncomputable def dB(st:Stmt):List Str:=(gQ st).args.map (·.arg)
noncomputable def lO(st:Stmt):List Str:=dB st++(cA st).names.filterMap λy=>if(y.2==NameKind.local||y.2==X3)&&!(dB st).contains y.1 then b0 y.1 else b3
noncomputable def lP(st:Stmt):Bool:=
 decide ((cA st).kind=.function)&&!(cA st).isCoroutine&&!(cA st).isGenerator&&decide (lO st).Nodup &&
 ((dB st).all λx=>decide ((cA st).names.lookup x=b0 .local)||decide ((cA st).names.lookup x=b0 .cell))&&((cA st).names.all λy=>decide (y.2≠.free))
theorem P8{st:Stmt}(h:lP st=dI):FnScope (lO st) (dB st) (cA st):=by unfold lP at h;simp only[Vl,decide_eq_true_eq,ZI,W6,YL]at h;obtain⟨⟨⟨⟨⟨a,c⟩,d⟩,e⟩,g⟩,i⟩:=h;exact⟨a,c,d,e,by unfold lO;simp,g,i⟩
noncomputable def EI:Nat:=40
noncomputable def EJ:Nat:=40
noncomputable abbrev lk(_:Sig)(ds:List (Str×Stmt))(x:Str):Option Stmt:=ds.lookup x
noncomputable def Ab(S:Sig)(F:Str->MF)(st:Stmt):MF:=wQ (lO st).length (kJ (z8 S F EI ⟨lO st,(cA st).names⟩ EJ) (eU st))
noncomputable def iK(S:Sig)(ds:List (Str×Stmt)):Nat->Str->MF
 |0,_=>λ_ _=>b3|k+1,x=>match lk S ds x with
  |none=>λ_ _=>b3|some st=>Ab S (iK S ds k) st
structure DefAt(K:U9)(mg:Str->Option Value)(x:Str)(st:Stmt):Prop where
 ex:∃f fd,Fun K x x st f fd/\mg x=b0 (.ref f)/\Binds K fd (dB st) []
structure TxtOk(P:VE)(w:VW)(K:U9)(mg:Str->Option Value)(S:Sig)(ds:List (Str×Stmt)):Prop where
 fns:∀x n,S.fn.lookup x=b0 n->∃st,ds.lookup x=b0 st/\(dB st).length=n
 defs:∀x st,ds.lookup x=b0 st->DefAt K mg x st/\lP st=dI
 con:∀x d,S.con.lookup x=b0 d->∃v u,mg x=b0 u/\RelV v u/\∀π n H,IsD K π n H v d
 tab:∀x kvs,S.tab.lookup x=b0 kvs->∃(p:Addr)(vs:List (bY×V))(ws:List (bY×Value)),mg x=b0 (.ref p)/\(p==Xo)=b5/\(∀h:WA,K.In h->h.DictOf (pK P w) p ws)/\KV vs ws/\∀π n H,IsKs K π n H vs kvs
 no:∀x,S.no.contains x=dI->mg x=b3
theorem EK{S:Sig}{ds:List (Str×Stmt)}{x:Str}{st:Stmt}(h:ds.lookup x=b0 st):lk S ds x=b0 st:=by unfold lk;rw[h]
theorem TxtOk.sc{P:VE}{w:VW}{K:U9}{mg:Str->Option Value}{S:Sig}{ds:List (Str×Stmt)}(T:TxtOk P w K mg S ds){x:Str}{st:Stmt}(h:lk S ds x=b0 st):lP st=true:=(T.defs _ _ h).2
theorem P9{P:VE}{w:VW}{K:U9}{mg:Str->Option Value}{base:WA}{S:Sig}{ds:List (Str×Stmt)}(T:TxtOk P w K mg S ds)(k:Nat):∀(x:Str)(st:Stmt)(G q:Str)(f:Addr)(l:X5),lk S ds x=b0 st->Fun K G q st f l->
  FnOk P w K mg base fF k f l (dB st) (iE K (dB st).length (iK S ds k x)):=by
 induction k using Nat.strongRecOn with
 |_ k m=>
 intro x st G q f l z N;cases k with
 |zero=>exact⟨λvs H Q E h=>h.1,λA outer s H r us vs Q E B he hb hv X=>by
   obtain⟨_,π,L,μ,d,μ',R,i,U,kc⟩:=X;cases U⟩
 |succ k=>
  have Z:=m k (Xn k);have e:iK S ds (k+1) x=Ab S (iK S ds k) st:=by show(match lk S ds x with|none=>_|some st=>Ab S (iK S ds k) st)=_;rw[z]
  rw[e];have g:=P8 (T.sc z);refine L5 N g (by unfold lO;simp) rfl λj A outer s H E B=>?_;have O:Okx S (iK S ds k) k ⟨lO st,(cA st).names⟩ (jT fF P w K mg base (lO st) q (cA st) f j A outer s H E).nox:=by
   refine⟨rfl,g.nd,rfl,g.kind,rfl,B,a2w,λy n Y=>?_,T.con,λy o q=>⟨T.tab y o q⟩,T.no
    ⟩
   .obtain⟨a,v,M⟩:=T.fns y n Y;obtain⟨u,c,p,m',I⟩:=(T.defs y a v).1.ex;subst M;exact⟨u,c,dB a,Z y a _ _ u c (EK v) p,m',p.kp,I⟩
  exact lK (EH O (λ_=>rfl) EI EJ) (eU st)
theorem Qa{P:VE}{w:VW}{K:U9}{mg:Str->Option Value}{base:WA}{S:Sig}{ds:List (Str×Stmt)}(T:TxtOk P w K mg S ds)(k:Nat)(x:Str)(st:Stmt)(f:Addr)(a:X5)(d:ds.lookup x=b0 st)(c:Fun K x x st f a) :
  FnOk P w K mg base fF k f a (dB st) (iE K (dB st).length (iK S ds k x)):=P9 T k x st x x f a (EK d) c
theorem EL:∀{ns:List Int}{b:Nat},Zn (ns.map Zc)<=b->∀n∈ns,V6 n<=b
 |[],_,_,n,a=>nomatch a|m::ns,b,h,n,a=>by
  have e:Zn ((m::ns).map Zc)=a0Z (.int m)+1+Zn (ns.map Zc):=rfl;have c:a0Z (.int m)=V6 m:=rfl;rw[e,c]at h;rcases Wf.mp a with rfl|a
  .lia
  .exact EL (b:=b) (by lia) n a
section
open PySem PySem.W PySem.Calls PyProof.Rows
theorem Qb{l:a2U}{n:Nat}{q:VE}{loose:List Str}{XP:(Str->Option Value)->WA->Prop}{YP:VW->WA->Prop}{d:DefRec}
  (X:l.most=b0 n)(y:d.params.defaults=[])
  (call:∀(w:VW)(s₀ c:Ve)(mg B:Str->Option Value)(h:Addr)(o:Obj)(E s e:Value)(a:Addr)(vs:gq)(ns:List Int),
   Ground q loose [] XP w s₀ mg B c.heap->YP w c.heap->
   c.heap.get? h=b0 o->o.data=.func (docDef d.name d.params d.body d.scope E s e)->c.heap.CodeRec s d.name->mg d.name=b0 (.ref h)->
   c.heap.get? a=b0 {cls:=.type "list",data:=.seq vs.toArray}->YJ vs ns->ns.length<=n->(∀m∈ns,V6 m<=2^20)->c.gens=#[]->
   Zt (VF l.prog w) a1l (.call (.ref h) ⟨[.ref a],[]⟩) (λr u=>r=.ok (.ret (.bool dI))/\OldK c.heap u.heap/\u.os=c.os/\a0G u.gens) c) :
  a3D q loose XP YP l.row.toRowW d [] (λf vs=>a4V f vs):=by
 intro w s₀ c mg B G Y h o E s e L kV Z hd x I z R H K as p i hrd A T;obtain rfl:L=.none:=Dflts.none I y;obtain rfl:kV=.none:=Dflts.noKw I;obtain⟨a,vs,ns,rfl,rfl,k,g,j⟩:=Att.script_of X p A;have Q:∀m∈ns,V6 m<=2^20:=by
  have v:a0P (.list (ns.map Zc))=true:=by have:=i;unfold a4W at this;simpa using this
  unfold a0P at v;rw[Vl]at v;exact EL (of_decide_eq_true v.2)
 refine enter_call (a1k (call w s₀ c mg B h o E s e a vs ns G Y Z (fd_plain hd) x z k g j Q R) λr u hq=>?_);obtain⟨rfl,M,N,O⟩:=hq;exact⟨.inl ⟨.bool dI,.bool dI,[],rfl,λ_=>rfl,.bool dI,Att.post_true l _,λ_=>⟨Z4,λ_ U=>(nomatch U)⟩⟩,M,N,O⟩
end
theorem walkM{l:a2U}{q:VE}{loose:List Str}{XP:(Str->Option Value)->WA->Prop}{YP:VW->WA->Prop}{d:DefRec}{K:Xh->U9}{S:Sig}{ds:List (Str×Stmt)}{k:Nat}{st:Stmt}{x:Str}(hn:l.most=b0 63)(N:d.params.defaults=[])
  (hr:Room k a1l)(hY:∀(w:VW)(h:WA),YP w h->(K w.params).In h)(hl:ds.lookup d.name=b0 st)(hx:dB st=[x])
  (T:∀(w:VW)(mg:Str->Option Value)(h:WA),(K w.params).In h->h.Ns WZ mg->TxtOk l.prog w (K w.params) mg S ds/\∃f I,Fun (K w.params) d.name d.name st f I/\mg d.name=b0 (.ref f)/\∀(s:Ve)(u:Value),a1s s I ⟨[u],[]⟩ [(x,u)])
  (M:∀c:List Int,c.length<=63->(∀m∈c,V6 m<=2^20)->∃y,iK S ds k d.name [.rol (c.map D.int)] []=b0 (.bl dI,y)) :
  a3D q loose XP YP l.row.toRowW d [] (λf vs=>a4V f vs):=by
 refine Qb hn N λw Z s₁ mg mb fa o pm cd doc a vs c G Y ho hd hcd Q B p g L hg=>?_;have U:=hY w _ Y;obtain⟨hT,f,I,hF,X,hb⟩:=T w mg _ U G.T.g;rw[Q]at X;cases X;refine L2.law_call (CX:=fF) (sp:=iE (K w.params) 1 (iK S ds k d.name)) U G.T.g G.T.b G.T.builtins G.T.nolimit hg B p (WD g (by decide)) hr (λA hb1 hb2=>?_) hb (λH hO hS=>?_) λH e s' z=>z
 .have:=Qa (base:=A) hT k d.name st fa I hl hF;rw[hx]at this;exact this
 .obtain⟨y,hM⟩:=M c g L;have R:RoL (K w.params) H a (c.map V.int):=by
   rcases hS with(h|h)|h
   .rcases hO a with z|⟨o,E,z⟩
    .rw[z]at h;cases h
    .rw[z]at h;cases h
   .exact .inl h
   .exact .inr h
  refine⟨rfl,λ_=>0,[.rol (c.map D.int)],[],.bl dI,y,⟨λi j O=>absurd O (Zp _),λi O=>absurd O (Zp _),λi E h=>(by cases h),λi E h=>(by cases h),λi E h=>(by cases h)
   ,λi E h=>(by cases h)
   ,λi E h=>(by cases h)
   ⟩,.cons (.rol R ?_) .nil,hM,λπ' v H' _ _ hv=>?_⟩
  .have:∀c:List Int,IsDs (K w.params) (λ_=>0) ([]:Hm).length H (c.map V.int) (c.map D.int):=λc=>by
    induction c with
    |nil=>exact .nil|cons n r ih=>exact .cons (.int n) ih
   exact this c
  .cases hv;rfl
end L3
namespace L3
open PySem L2
theorem uI{a:Type}:∀{l:List (Str×a)}{x:Str}{b:a},l.lookup x=b0 b->(x,b)∈l:=λh=>WN h
theorem Qd{S:Sig}{ds:List (Str×Stmt)}(h:(S.fn.all λp=>match ds.lookup p.1 with|some st=>decide ((dB st).length=p.2)|none=>b5)=dI):∀x n,S.fn.lookup x=b0 n->∃st,ds.lookup x=b0 st/\(dB st).length=n:=by
 intro x n e;have:=W6.mp h (x,n) (uI e);dsimp only at this;split at this
 .rename_i st a;exact⟨st,a,of_decide_eq_true this⟩
 .cases this
theorem Qe{K:U9}{mg:Str->Option Value}{ds:List (Str×Stmt)}(h:∀p∈ds,DefAt K mg p.1 p.2/\lP p.2=dI):∀x st,ds.lookup x=b0 st->DefAt K mg x st/\lP st=true:=λx st e=>h (x,st) (uI e)
theorem Qf{K:U9}{mg:Str->Option Value}{a:List (Str×D)}(h:∀p∈a,∃v u,mg p.1=b0 u/\RelV v u/\∀π n H,IsD K π n H v p.2):∀x d,a.lookup x=b0 d->∃v u,mg x=b0 u/\RelV v u/\∀π n H,IsD K π n H v d:=λx d e=>h (x,d) (uI e)
inductive EntsOf (w:VW):List DictEntry->List (bY×Value)->Prop where
 |nil:EntsOf w [] []
 |cons {e:DictEntry}{k:bY}{v:Value}{es:List DictEntry}{kvs:List (bY×Value)}(h:vL k e.key=dI)(hh:e.hash=A7 w k)(hv:e.val=v)(t:EntsOf w es kvs):EntsOf w (e::es) ((k,v)::kvs)
theorem Qg{mg:Str->Option Value}{ns:List Str}(h:∀x∈ns,mg x=b3):∀x,ns.contains x=dI->mg x=none:=λx e=>h x (by simpa using e)
noncomputable def uJ:Nat->(Nat->Value)->gq
 |0,_=>[]|n+1,u=>u 0::uJ n λi=>u (i+1)
theorem EM:∀us:gq,∃u,us=uJ us.length u
 |[]=>⟨λ_=>.none,rfl⟩|v::us=>let⟨u,a⟩:=EM us;⟨λi=>match i with|0=>v|i+1=>u i,congrArg (v::·) a⟩
noncomputable abbrev EO:Type:=Value->Value->Value->Option Addr->Value->Value->(Nat->Value)->a2S (List (Str×Value))
noncomputable def Qh(x:Str)(st:Stmt)(m:Value)(c:Addr):Obj:=⟨VJ "function",b3,.func (Xq x x (gQ st) (eU st) (cA st) .none .none .none m b3 (.ref c) .none),#[]⟩
noncomputable def ER(K:U9)(d:(Str×Stmt)×Value×Addr×Addr):Option (Option Value)×Option Obj×Bool×Bool×Bool×EO:=(ZO K WZ d.1.1,K.lookup d.2.2.2,ZY K (.ref d.2.2.1) d.1.1,Xp K (.ref d.2.2.2),lP d.1.2,λkV c e an a ct u=>a3Q (Xq d.1.1 d.1.1 (gQ d.1.2) (eU d.1.2) (cA d.1.2) .none kV c e an a ct) ⟨uJ (dB d.1.2).length u,[]⟩)
noncomputable def ES(d:(Str×Stmt)×Value×Addr×Addr):Option (Option Value)×Option Obj×Bool×Bool×Bool×EO:=(b0 (b0 (.ref d.2.2.2)),b0 (Qh d.1.1 d.1.2 d.2.1 d.2.2.1),dI,dI,dI,λ_ _ _ _ _ _ u=>pure ((dB d.1.2).zip (uJ (dB d.1.2).length u)))
noncomputable def uK(K:U9)(d:Str×Stmt):(Str×Stmt)×Value×Addr×Addr:=(d,match ZO K WZ d.1 with
 |some (b0 (.ref f))=>(match K.lookup f with
  |some ⟨_,_,.func fd,_⟩=>(match fd.code with
   |.ref c=>(fd.pyModule,c,f)
   |_=>(.none,0,0))
  |_=>(.none,0,0))
 |_=>(.none,0,0))
noncomputable def uL(K:U9)(ds:List (Str×Stmt)):Prop:=ds.map (λd=>ER K (uK K d))=ds.map λd=>ES (uK K d)
theorem ET{K:U9}{h:WA}{mg:Str->Option Value}(X:K.In h)(G:h.Ns WZ mg){ds:List (Str×Stmt)}(q:uL K ds):∀p∈ds,(DefAt K mg p.1 p.2/\lP p.2=dI)/\∃f i,Fun K p.1 p.1 p.2 f i/\mg p.1=b0 (.ref f)/\∀us:gq,us.length=(dB p.2).length->a3Q i ⟨us,[]⟩=pure ((dB p.2).zip us):=by
 intro g o;have t:=a3y.mp q g o;have e:(uK K g).1=g:=rfl;generalize uK K g=d at t e;obtain⟨p,m,c,f⟩:=d;cases e;unfold ER ES at t;obtain⟨a,t⟩:=Z0 t;obtain⟨l,t⟩:=Z0 t;obtain⟨c,t⟩:=Z0 t;obtain⟨k,t⟩:=Z0 t;obtain⟨s,b⟩:=Z0 t;have F:=Jn (st:=p.2) l c k;have D:=λkV doc pm an cdv ct (us:gq)(n:us.length=(dB p.2).length)=>(by
  obtain⟨u,j⟩:=EM us;rw[n]at j;rw[j];exact congrFun (congrFun (congrFun (congrFun (congrFun (congrFun (congrFun b kV) doc) pm) an) cdv) ct) u:a3Q (Xq p.1 p.1 (gQ p.2) (eU p.2) (cA p.2) .none kV doc pm an cdv ct) ⟨us,[]⟩=pure ((dB p.2).zip us))
 exact⟨⟨⟨_,_,F,a1m X G a,Binds.all (D _ _ _ _ _ _)⟩,s⟩,_,_,F,a1m X G a,D _ _ _ _ _ _⟩
theorem Qi{K:U9}{h:WA}{mg:Str->Option Value}(X:K.In h)(G:h.Ns WZ mg){ds:List (Str×Stmt)}(q:uL K ds){x y:Str}{st:Stmt}(c:ds.lookup x=b0 st)(d:dB st=[y]):∃f a,Fun K x x st f a/\mg x=b0 (.ref f)/\∀(s:Ve)(u:Value),a1s s a ⟨[u],[]⟩ [(y,u)]:=by obtain⟨f,a,F,m,b⟩:=(ET X G q (x,st) (uI c)).2;dsimp only at b;rw[d]at b;exact⟨f,a,F,m,λs u=>.of_eq (b [u] rfl)⟩
theorem Qj{K:U9}{h:WA}{mg:Str->Option Value}(X:K.In h)(G:h.Ns WZ mg){ns:List Str}(q:ns.map (ZO K WZ)=ns.map λ_=>b0 b3):∀x∈ns,mg x=none:=λx a=>PySem.W.mg_none_of X G (a3y.mp q x a)
noncomputable def rF{c d:Type}(f:c->d->Bool):List c->List d->Bool
 |[],[]=>dI|a::as,b::bs=>f a b&&rF f as bs|_,_=>b5
noncomputable def rG(K:U9):Nat->Value->D->Bool
 |0,_,_=>b5|k+1,u,d=>match d with
  |.non=>(match u with|.none=>dI|_=>b5)|.bl b=>(match u with|.bool c=>decide (b=c)|_=>b5)|.int i=>(match u with|.int j _=>decide (i=j)|_=>b5)|.str x=>(match u with|.str y _=>decide (x=y)|_=>b5)
  |.tup ds=>(match u with
   |.ref p=>(match K.lookup p with
    |some ⟨.type t,b3,.seq its _,_⟩=>decide (t="tuple")&&decide (its.size<=1000)&&rF (rG K k) its.toList ds
    |_=>b5)
   |_=>b5)
  |.rol ds=>(match u with
   |.ref p=>(match K.lookup p with
    |some ⟨.type t,b3,.seq its _,_⟩=>decide (t="list")&&decide (its.size<=1000)&&rF (rG K k) its.toList ds
    |_=>b5)
   |_=>b5)
  |_=>b5
theorem EU{K:U9}{f:Value->D->Bool}(h:∀u d,f u d=dI->∃v,RelV v u/\∀π n H,IsD K π n H v d):∀us ds,rF f us ds=dI->∃vs,Vals vs us/\∀π n H,IsDs K π n H vs ds
 |[],[],_=>⟨[],.nil,λ_ _ _=>.nil⟩|u::us,d::ds,e=>by obtain⟨a,b⟩:=X6.mp e;obtain⟨v,r,q⟩:=h u d a;obtain⟨vs,g,c⟩:=EU h us ds b;exact⟨v::vs,.cons r g,λ_ _ _=>.cons (q _ _ _) (c _ _ _)⟩
 |[],_::_,e=>nomatch e|_::_,[],e=>nomatch e
theorem EV{K:U9}:∀(k:Nat)(u:Value)(d:D),rG K k u d=dI->∃v,RelV v u/\∀π n H,IsD K π n H v d
 |0,_,_,e=>nomatch e|k+1,u,d,e=>by
  have seq:∀{p:Addr}{ds:List D}{c:String},(match K.lookup p with|some ⟨.type t,b3,.seq g _,_⟩=>decide (t=c)&&decide (g.size<=1000)&&rF (rG K k) g.toList ds|_=>b5)=dI->∃h g n l,K.lookup p=b0 ⟨.type c,b3,.seq g n,l⟩/\g.size<=Vp/\Vals h g.toList/\∀π n H,IsDs K π n H h ds:=λ{p ds c} e=>by
   split at e
   .rename_i t g n l j;obtain⟨e,q⟩:=X6.mp e;obtain⟨a,b⟩:=X6.mp e;cases of_decide_eq_true a;obtain⟨h,r,i⟩:=EU (EV k) _ _ q;exact⟨h,g,n,l,j,WD (of_decide_eq_true b) (by decide),r,i⟩
   .cases e
  cases d with
  |non=>cases u with
   |none=>exact⟨.non,rfl,λ_ _ _=>.non⟩|_=>cases e
  |bl b=>cases u with
   |bool c=>cases of_decide_eq_true e;exact⟨.bl b,rfl,λ_ _ _=>.bl _⟩|_=>cases e
  |int b=>cases u with
   |int c=>cases of_decide_eq_true e;exact⟨.int b,⟨_,rfl⟩,λ_ _ _=>.int _⟩|_=>cases e
  |str b=>cases u with
   |str c=>cases of_decide_eq_true e;exact⟨.str b,⟨_,rfl⟩,λ_ _ _=>.str _⟩|_=>cases e
  |tup ds=>cases u with
   |ref p=>obtain⟨h,g,n,l,j,m,r,i⟩:=seq e;exact⟨.ref p,rfl,λ_ _ _=>.tup (vs:=h) (.inr ⟨_,g,n,j,rfl,rfl,rfl,m,r⟩) (i _ _ _)⟩|_=>cases e
  |rol ds=>cases u with
   |ref p=>obtain⟨h,g,n,l,j,m,r,i⟩:=seq e;exact⟨.ref p,rfl,λ_ _ _=>.rol (vs:=h) (.inr ⟨_,g,n,j,rfl,rfl,rfl,m,r⟩) (i _ _ _)⟩|_=>cases e
  |_=>cases e
noncomputable def EW(K:U9)(a:List (Str×D)):Bool:=a.all λc=>match ZO K WZ c.1 with|some (b0 u)=>rG K 8 u c.2|_=>b5
theorem Qk{K:U9}{h:WA}{mg:Str->Option Value}(X:K.In h)(G:h.Ns WZ mg){a:List (Str×D)}(q:EW K a=dI):∀p∈a,∃v u,mg p.1=b0 u/\RelV v u/\∀π n H,IsD K π n H v p.2:=λp c=>by
 have t:=W6.mp q p c;split at t
 .rename_i u d;obtain⟨v,r,i⟩:=EV _ _ _ t;exact⟨v,u,a1m X G d,r,i⟩
 .cases t
noncomputable def W{a:Type}(o:Option a)(Q:a->Prop):Prop:=∃r,o=b0 r/\Q r
section
variable{α β:Type}{o:Option α}{Q:α->Prop}
theorem W_some{r:α}{Q:α->Prop}:W (b0 r) Q↔Q r:=⟨λ⟨_,h,q⟩=>by cases h;exact q,λq=>⟨r,rfl,q⟩⟩
theorem W_none{Q:α->Prop}:W b3 Q↔False:=⟨λ⟨_,h,_⟩=>(by cases h),λh=>h.elim⟩
theorem W_bind{g:α->Option β}{Q:β->Prop}:W (o.bind g) Q↔W o λr=>W (g r) Q:=by
 cases o with
 |none=>exact⟨λ⟨_,h,_⟩=>(by cases h),λ⟨_,h,_⟩=>(by cases h)⟩|some a=>simp[W_some]
theorem hZ{g:α->β}{Q:β->Prop}:W (o.map g) Q↔W o λr=>Q (g r):=by
 cases o with
 |none=>exact⟨λ⟨_,h,_⟩=>(by cases h),λ⟨_,h,_⟩=>(by cases h)⟩|some a=>simp[W_some]
theorem bI{a:α->Prop}(h:W o Q)(k:∀r,Q r->a r):W o a:=let⟨r,e,q⟩:=h;⟨r,e,k r q⟩
theorem uM{c:Prop} [Decidable c] {a b:Option α}:W (if c then a else b) Q↔if c then W a Q else W b Q:=by split<;>rfl
end
noncomputable def fin:Option (Fl×aG×Hm)->jk:=λo=>o.bind λp=>match p.1 with|.rt d=>b0 (d,p.2.2)|.nx=>b0 (.non,p.2.2)|_=>b3
theorem W_fin{o:Option (Fl×aG×Hm)}{Q:jz}:W (fin o) Q↔W o λp=>match p.1 with|.rt d=>Q (d,p.2.2)|.nx=>Q (.non,p.2.2)|_=>False:=by
 unfold fin;rw[W_bind];constructor
 .exact λh=>bI h λp q=>by obtain⟨a,e,c⟩:=p;cases a<;>simpa[W_some,W_none]using q
 .exact λh=>bI h λp q=>by obtain⟨a,e,c⟩:=p;cases a<;>simpa[W_some,W_none]using q
theorem aJ{d μ':Hm}(h:d<+:μ'){a:Nat}{c:C}(e:d[a]?=b0 c):μ'[a]?=b0 c:=by obtain⟨t,rfl⟩:=h;have g:=(Vc.mp e).1;rw[Vy g];exact e
theorem EX{a μ':Hm}(h:a<+:μ'):a.length<=μ'.length:=h.length_le
theorem aP(a:Hm)(c:C):a<+:a++[c]:=⟨[c],rfl⟩
theorem fV{d μ':Hm}(h:d<+:μ'){a:Nat}(e:d.length<=a)(c:C):d<+:μ'.set a c:=by obtain⟨t,rfl⟩:=h;rw[Y4 _ _ e];exact⟨_,rfl⟩
theorem w_mSeq{a b:MS}{ρ:aG}{c:Hm} {Q}:W (aH a b ρ c) Q↔W (a ρ c) λp=>match p.1 with|.nx=>W (b p.2.1 p.2.2) Q|_=>Q p:=by
 unfold aH;rw[W_bind];constructor
 .exact λh=>bI h λp q=>by obtain⟨d,ρ,c⟩:=p;cases d<;>simpa[W_some,W_none]using q
 .exact λh=>bI h λp q=>by obtain⟨d,ρ,c⟩:=p;cases d<;>simpa[W_some,W_none]using q
theorem w_mRet{m:ME}{ρ:aG}{a:Hm} {Q}:W (aN m ρ a) Q↔W (m ρ a) λp=>Q (.rt p.1,ρ,p.2):=hZ
theorem w_mDrop{m:ME}{ρ:aG}{a:Hm} {Q}:W (c9 m ρ a) Q↔W (m ρ a) λp=>Q (.nx,ρ,p.2):=hZ
theorem w_mSet{i:Nat}{m:ME}{ρ:aG}{a:Hm} {Q}:W (aM i m ρ a) Q↔W (m ρ a) λp=>Q (.nx,ρ.set i (b0 p.1),p.2):=hZ
theorem w_mNext{ρ:aG}{a:Hm} {Q}:W (bC ρ a) Q↔Q (.nx,ρ,a):=W_some
theorem w_mIfS{t:MT}{a b:MS}{ρ:aG}{c:Hm} {Q}:W (bA t a b ρ c) Q↔W (t ρ c) λp=>if p.1=dI then W (a ρ p.2) Q else W (b ρ p.2) Q:=by unfold bA;rw[W_bind];constructor<;>exact λh=>bI h λp q=>by obtain⟨x,c⟩:=p;cases x<;>simpa using q
theorem w_mIfE{t:MT}{a b:ME}{ρ:aG}{c:Hm} {Q}:W (i9 t a b ρ c) Q↔W (t ρ c) λp=>if p.1=dI then W (a ρ p.2) Q else W (b ρ p.2) Q:=by unfold i9;rw[W_bind];constructor<;>exact λh=>bI h λp q=>by obtain⟨x,c⟩:=p;cases x<;>simpa using q
theorem w_mAndT{a b:MT}{ρ:aG}{c:Hm} {Q}:W (fG a b ρ c) Q↔W (a ρ c) λp=>if p.1=dI then W (b ρ p.2) Q else Q (b5,p.2):=by unfold fG;rw[W_bind];constructor<;>exact λh=>bI h λp q=>by obtain⟨x,c⟩:=p;cases x<;>simpa[W_some]using q
theorem w_mOrT{a b:MT}{ρ:aG}{c:Hm} {Q}:W (i8 a b ρ c) Q↔W (a ρ c) λp=>if p.1=dI then Q (dI,p.2)else W (b ρ p.2) Q:=by unfold i8;rw[W_bind];constructor<;>exact λh=>bI h λp q=>by obtain⟨x,c⟩:=p;cases x<;>simpa[W_some]using q
theorem w_mNotT{a:MT}{ρ:aG}{c:Hm} {Q}:W (f7 a ρ c) Q↔W (a ρ c) λp=>Q (!p.1,p.2):=hZ
theorem w_mOp{f:D->D->Hm->jk}{a b:ME}{ρ:aG}{c:Hm} {Q}:W (aC f a b ρ c) Q↔W (a ρ c) λp=>W (b ρ p.2) λq=>W (f p.1 q.1 q.2) Q:=by unfold aC;rw[W_bind];simp only[W_bind]
theorem bS{d:D}{ρ:aG}{a:Hm} {Q}:W (mC d ρ a) Q↔Q (d,a):=W_some
theorem aY{d:D}{ρ:aG}{a:Hm} {Q}:W (aA 0 (b0 d::ρ) a) Q↔Q (d,a):=by show W (b0 (d,a)) Q↔_;exact W_some
theorem bG{i:Nat}{x:Option D}{ρ:aG}{a:Hm} {Q}:W (aA (i+1) (x::ρ) a) Q↔W (aA i ρ a) Q:=by unfold aA;rw[YO]
theorem bR{ρ:aG}{a:Hm} {Q}:W (aD ρ a) Q↔Q ([],a):=W_some
theorem w_mCons{a:ME}{r:MA}{ρ:aG}{c:Hm} {Q}:W (aB a r ρ c) Q↔W (a ρ c) λp=>W (r ρ p.2) λq=>Q (p.1::q.1,q.2):=by unfold aB;simp only[W_bind,W_some]
theorem w_mTup {ms:MA}{ρ:aG}{a:Hm} {Q}:W (aU ms ρ a) Q↔W (ms ρ a) fun p=>p.1.length<=Vp/\Q (.tup p.1,p.2):=by
 unfold aU
 rw [W_bind]
 constructor<;>exact fun h=>bI h fun p q=>by
  first
  | (rw [uM] at q;split at q
     .exact ⟨by assumption,W_some.mp q⟩
     .exact (W_none.mp q).elim)
  | (rw [if_pos q.1];exact W_some.mpr q.2)
theorem w_mLst {ms:MA}{ρ:aG}{a:Hm} {Q}:W (bU ms ρ a) Q↔W (ms ρ a) fun p=>p.1.length<=Vp/\Q (.loc p.2.length,p.2++[.lst p.1]):=by
 unfold bU
 rw [W_bind]
 constructor<;>exact fun h=>bI h fun p q=>by
  first
  | (rw [uM] at q;split at q
     .exact ⟨by assumption,W_some.mp q⟩
     .exact (W_none.mp q).elim)
  | (rw [if_pos q.1];exact W_some.mpr q.2)
theorem w_mCall {f:MF}{ms:MA}{ρ:aG}{a:Hm} {Q}:W (aF f ms ρ a) Q↔W (ms ρ a) fun p=>W (f p.1 p.2) Q:=W_bind
theorem w_mTest{m:ME}{ρ:aG}{a:Hm} {Q}:W (aO m ρ a) Q↔W (m ρ a) λp=>match p.1 with|.bl b=>Q (b,p.2)|_=>False:=by unfold aO;rw[W_bind];constructor<;>exact λh=>bI h λp q=>by obtain⟨d,a⟩:=p;cases d<;>simpa[W_some,W_none]using q
theorem w_mTru{m:ME}{ρ:aG}{a:Hm} {Q}:W (dH m ρ a) Q↔W (m ρ a) λp=>W (oD p.2 p.1) λb=>Q (b,p.2):=by unfold dH;simp only[W_bind,hZ]
theorem Ql{a:ME}{ρ:aG}{c:Hm} {Q}:W (eK a ρ c) Q↔W (a ρ c) λp=>match p.1 with|.int i=>Q (.int (-i),p.2)|_=>False:=by unfold eK;rw[W_bind];constructor<;>exact λh=>bI h λp q=>by obtain⟨d,c⟩:=p;cases d<;>simpa[W_some,W_none,hZ,w4]using q
theorem Qm{a:ME}{ρ:aG}{c:Hm} {Q}:W (nR a ρ c) Q↔W (a ρ c) λp=>match p.1 with|.bl b=>Q (.bl (!b),p.2)|_=>False:=by unfold nR;rw[W_bind];constructor<;>exact λh=>bI h λp q=>by obtain⟨d,c⟩:=p;cases d<;>simpa[W_some,W_none]using q
theorem w_mAndV{a b:ME}{ρ:aG}{e:Hm} {Q}:W (c8 a b ρ e) Q↔W (a ρ e) λp=>match p.1 with|.bl c=>if c=dI then W (b ρ p.2) Q else Q (.bl b5,p.2)|_=>False:=by
 unfold c8;rw[W_bind];constructor<;>exact λh=>bI h λp q=>by
  obtain⟨d,e⟩:=p;cases d with
  |bl c=>cases c<;>simpa[W_some]using q|_=>simpa[W_none]using q
theorem w_mAsg{m:ME}{g:MG}{ρ:aG}{c:Hm} {Q}:W (k5 m g ρ c) Q↔W (m ρ c) λp=>W (g p.1 ρ p.2) λa=>Q (.nx,a,p.2):=by unfold k5;simp only[W_bind,hZ]
section
variable{i j:Int}{μ:Hm}{Q:jz}{a b c d e g:D}
theorem w_addI:W (aW (.int i) (.int j) μ) Q↔Q (.int (i+j),μ):=W_some
theorem w_subI:W (cL (.int i) (.int j) μ) Q↔Q (.int (i-j),μ):=W_some
theorem dM(h:0<j):W (aV (.int i) (.int j) μ) Q↔Q (.int (i%j),μ):=by show W ((if 0<j then b0 (i%j)else b3).map λz=>(D.int z,μ)) Q↔_;rw[if_pos h];exact W_some
theorem Qn:(1073741824:Int)<2^4000:=by decide +kernel
theorem Qo(h:0<j)(k:j<2^4000):W (cP (.int i) (.int j) μ) Q↔Q (.int (i/j),μ):=by show W ((if 0<j/\j<2^4000 then b0 (i/j)else b3).map λz=>(D.int z,μ)) Q↔_;rw[if_pos ⟨h,k⟩];exact W_some
theorem rH(h:0<j)(k:j<1073741824):W (cP (.int i) (.int j) μ) Q↔Q (.int (i/j),μ):=Qo h (Int.lt_trans k Qn)
theorem lQ(h:(-(2^64)<i/\i<2^64)\/(-(2^64)<j/\j<2^64)):W (b8 (.int i) (.int j) μ) Q↔Q (.int (i*j),μ):=by show W ((if((-(2^64)<i/\i<2^64)\/(-(2^64)<j/\j<2^64))\/(i.natAbs<2^4000/\j.natAbs<2^4000)\/V6 i+V6 j<=134217728 then b0 (i*j)else b3).map λz=>(D.int z,μ)) Q↔_;rw[if_pos (.inl h)];exact W_some
theorem w_eqI:W (aX b5 (.int i) (.int j) μ) Q↔Q (.bl (i==j),μ):=W_some
theorem w_neI:W (aX dI (.int i) (.int j) μ) Q↔Q (.bl (!(i==j)),μ):=W_some
theorem w_eqS{x y:Str}:W (aX b5 (.str x) (.str y) μ) Q↔Q (.bl (x==y),μ):=W_some
theorem EY{x y:Str}:W (aX dI (.str x) (.str y) μ) Q↔Q (.bl (!(x==y)),μ):=W_some
theorem w_eqB{x y:Bool}:W (aX b5 (.bl x) (.bl y) μ) Q↔Q (.bl (x==y),μ):=W_some
theorem w_ltI:W (cU (.int i) (.int j) μ) Q↔Q (.bl (decide (i<j)),μ):=W_some
theorem w_leI:W (kZ (.int i) (.int j) μ) Q↔Q (.bl (decide (i<=j)),μ):=W_some
theorem w_gtI:W (jB (.int i) (.int j) μ) Q↔Q (.bl (decide (j<i)),μ):=W_some
theorem Qp:W (pV (.int i) (.int j) μ) Q↔Q (.bl (decide (j<=i)),μ):=W_some
theorem w_it20:W (aE (.tup [a,b]) (.int 0) μ) Q↔Q (a,μ):=W_some
theorem w_it21:W (aE (.tup [a,b]) (.int 1) μ) Q↔Q (b,μ):=W_some
theorem Qq:W (aE (.tup [a,b,c,d,e,g]) (.int 0) μ) Q↔Q (a,μ):=W_some
theorem Qr:W (aE (.tup [a,b,c,d,e,g]) (.int 1) μ) Q↔Q (b,μ):=W_some
theorem Qs:W (aE (.tup [a,b,c,d,e,g]) (.int 2) μ) Q↔Q (c,μ):=W_some
theorem Qt:W (aE (.tup [a,b,c,d,e,g]) (.int 3) μ) Q↔Q (d,μ):=W_some
theorem Qu:W (aE (.tup [a,b,c,d,e,g]) (.int 4) μ) Q↔Q (e,μ):=W_some
theorem Qv:W (aE (.tup [a,b,c,d,e,g]) (.int 5) μ) Q↔Q (g,μ):=W_some
theorem w_truB{b:Bool}{Q:Bool->Prop}:W (oD μ (.bl b)) Q↔Q b:=W_some
theorem w_gTup2{ρ:aG}{i j:Nat}{Q:aG->Prop}:W (gD [i,j] (.tup [a,b]) ρ μ) Q↔Q ((ρ.set i (b0 a)).set j (b0 b)):=W_some
end
theorem c6{c:Hm}{a:Nat}{xs:List D}{i:Int}{d:D}{Q:jz}(h:c[a]?=b0 (.lst xs))(e:atI xs i=b0 d):W (aE (.loc a) (.int i) c) Q↔Q (d,c):=by
 have:aE (.loc a) (.int i) c=b0 (d,c):=by simp only[aE,fN,bJ,h,VT,e,V1]
 rw[this];exact W_some
theorem w_iSeq{m:ME}{ρ:aG}{a:Hm}{Q:eM×Nat×Hm->Prop}:W (bV m ρ a) Q↔W (m ρ a) λp=>W (jY p.2 p.1) λxs=>Q (eB p.1,xs.length+1,p.2):=by unfold bV;simp only[W_bind,hZ]
theorem w_mForI{a:MI}{g:MG}{b:MS}{ρ:aG}{c:Hm} {Q}:W (cC a g b ρ c) Q↔W (a ρ c) λp=>W (eX p.1 g b p.2.1 0 ρ p.2.2) Q:=W_bind
theorem kK {j:Int}{ms:MA}{ρ:aG}{c:Hm}{Q:eM×Nat×Hm->Prop}:W (fI ms ρ c) Q↔W (ms ρ c) fun p=>match p.1 with|[.int j]=>(-(2 ^ 62)<=j/\j<2 ^ 62)/\Q (iG 0 j.toNat,j.toNat+1,p.2)|_=>False:=by
 unfold fI
 rw [W_bind]
 constructor<;>exact fun h=>bI h fun p q=>by
  obtain ⟨l,c⟩:=p
  match l,q with
  | [],q=>simpa [W_none] using q
  | [d],q=>
   cases d with
   | int j=>
    first
    | (dsimp only at q;rw [uM] at q;split at q
       .rename_i e;exact ⟨e,W_some.mp q⟩
       .exact (W_none.mp q).elim)
    | (dsimp only;rw [if_pos q.1];exact W_some.mpr q.2)
   | _=>simpa [W_none] using q
  | a::b::l,q=>simpa [W_none] using q
theorem w_iRng2 {ms:MA}{ρ:aG}{a:Hm}{Q:eM×Nat×Hm->Prop}:W (k6 ms ρ a) Q↔W (ms ρ a) fun p=>match p.1 with|[.int i,.int j]=>(-(2 ^ 62)<=i/\i<2 ^ 62/\-(2 ^ 62)<=j/\j<2 ^ 62)/\Q (iG i (j - i).toNat,(j - i).toNat+1,p.2)|_=>False:=by
 unfold k6
 rw [W_bind]
 constructor<;>exact fun h=>bI h fun p q=>by
  split at q
  .rename_i e
   try rw [e]
   first
   | (rw [uM] at q;split at q
      .rename_i c;exact ⟨c,W_some.mp q⟩
      .exact (W_none.mp q).elim)
   | ((try dsimp only);rw [if_pos q.1];exact W_some.mpr q.2)
  .first
   | exact (W_none.mp q).elim
   | exact q.elim
theorem rJ {e:eM}{g:MG}{b:MS}{N:Nat}{Q:Fl×aG×Hm->Prop}(I:Nat->aG->Hm->Prop)
  (n:∀ i ρ a,i<N->I i ρ a->∃ d j,e a i=b0 (b0 d)/\g d ρ a=b0 j/\W (b j a) fun p=>match p.1 with|.nx=>I (i+1) p.2.1 p.2.2|.ct=>I (i+1) p.2.1 p.2.2|.bk=>Q (.nx,p.2.1,p.2.2)|.rt d=>Q (.rt d,p.2.1,p.2.2))
  (c:∀ ρ a,I N ρ a->e a N=b0 b3/\Q (.nx,ρ,a)):∀ (m i:Nat)(ρ:aG)(a:Hm),i+m=N->I i ρ a->W (eX e g b (m+1) i ρ a) Q
 | 0,i,ρ,a,h,hI=>by
  have:i=N:=by lia
  subst this
  obtain ⟨o,r⟩:=c ρ a hI
  unfold eX
  rw [o]
  exact W_some.mpr r
 | m+1,i,ρ,a,h,hI=>by
  obtain ⟨d,j,o,r,u⟩:=n i ρ a (by lia) hI
  unfold eX
  rw [o]
  simp only [VT,r]
  rw [W_bind]
  refine bI u fun p q=>?_
  obtain ⟨s,l,k⟩:=p
  cases s with
  | nx=>exact rJ I n c m (i+1) l k (by lia) q
  | ct=>exact rJ I n c m (i+1) l k (by lia) q
  | bk=>exact W_some.mpr q
  | rt d=>exact W_some.mpr q
theorem iL{a:Nat}{xs:List D}{g:MG}{b:MS}{ρ:aG}{c:Hm}{Q:Fl×aG×Hm->Prop}(I:Nat->aG->Hm->Prop)(n:I 0 ρ c)(l:∀i ρ c,I i ρ c->c[a]?=b0 (.lst xs))
  (m:∀i d ρ c,xs[i]?=b0 d->I i ρ c->∃h,g d ρ c=b0 h/\W (b h c) λp=>match p.1 with|.nx=>I (i+1) p.2.1 p.2.2|.ct=>I (i+1) p.2.1 p.2.2|.bk=>Q (.nx,p.2.1,p.2.2)|.rt d=>Q (.rt d,p.2.1,p.2.2))
  (k:∀ρ c,I xs.length ρ c->Q (.nx,ρ,c)):W (eX (eB (.loc a)) g b (xs.length+1) 0 ρ c) Q:=by
 refine rJ (N:=xs.length) I (λi ρ c r j=>?_) (λρ c j=>⟨?_,k ρ c j⟩) xs.length 0 ρ c (by lia) n
 .have e:xs[i]?=b0 xs[i]:=Vb r;obtain⟨h,o,q⟩:=m i xs[i] ρ c e j;refine⟨xs[i],h,?_,o,q⟩;simp only[eB,jY,bJ,l i ρ c j,V1,e]
 .simp only[eB,jY,bJ,l _ ρ c j,V1];simp
theorem iM{lo:Int}{n:Nat}{g:MG}{b:MS}{ρ:aG}{a:Hm}{Q:Fl×aG×Hm->Prop}(I:Nat->aG->Hm->Prop)(l:I 0 ρ a)
  (k:∀(i:Nat) ρ a,i<n->I i ρ a->∃c,g (.int (lo+i)) ρ a=b0 c/\W (b c a) λp=>match p.1 with|.nx=>I (i+1) p.2.1 p.2.2|.ct=>I (i+1) p.2.1 p.2.2|.bk=>Q (.nx,p.2.1,p.2.2)|.rt d=>Q (.rt d,p.2.1,p.2.2))
  (e:∀ρ a,I n ρ a->Q (.nx,ρ,a)):W (eX (iG lo n) g b (n+1) 0 ρ a) Q:=by
 refine rJ (N:=n) I (λi ρ a j h=>?_) (λρ a h=>⟨?_,e ρ a h⟩) n 0 ρ a (by lia) l
 .obtain⟨c,m,o⟩:=k i ρ a j h;exact⟨_,c,by simp only[iG,if_pos j],m,o⟩
 .simp only[iG,W3,if_false]
theorem Ac{d:Hm}{a:Nat}{c:List D}{y:D}(h:d[a]?=b0 (.lst c))(e:c.length<Vp):nX d a y=b0 (d.set a (.lst (c++[y]))):=by unfold nX;rw[h];exact if_pos e
theorem Ad{w:eM}{c:MT}{e:ME}{ρ:aG}{g:Hm}{xs:List D}{p:D->Bool}{v:D->D}{Q:Hm->Prop}(z:∀a i,g<+:a->w a i=b0 xs[i]?)(H:xs.length<=Vp)
  (hc:∀d a,d∈xs->g<+:a->W (c (ρ++[b0 d]) a) λr=>r.1=p d/\a<+:r.2)
  (A:∀d a,d∈xs->p d=dI->g<+:a->W (e (ρ++[b0 d]) a) λr=>r.1=v d/\a<+:r.2)
  (fin:∀a,g<+:a->a[g.length]?=b0 (.lst ((xs.filter p).map v))->Q a) :
  ∀(m i:Nat)(a:Hm),i+m=xs.length->g<+:a->a[g.length]?=b0 (.lst (((xs.take i).filter p).map v))->W (gC w nY c e ρ g.length (m+1) i a) Q
 |0,i,a,hi,hp,ha=>by
  have:i=xs.length:=by lia
  subst this;unfold gC;rw[z a _ hp];rw[Xe (Vk _)];simp only[VT];refine W_some.mpr (fin a hp ?_);simpa using ha
 |m+1,i,a,hi,hp,ha=>by
  have s:i<xs.length:=by lia
  have I:xs[i]?=b0 xs[i]:=Vb s;have j:xs[i]∈xs:=Wx s;unfold gC;rw[z a _ hp,I];simp only[VT,nY];rw[W_bind];refine bI (hc _ a j hp) λr q=>?_;obtain⟨b,x⟩:=r;obtain⟨K,u⟩:=q;dsimp only at K u ⊢;subst K;have h:xs.take (i+1)=xs.take i++[xs[i]]:=by rw[YW,I];rfl
  have l:=aJ u ha;cases k:p xs[i]with
  |false=>refine Ad z H hc A fin m (i+1) x (by lia) (hp.trans u) ?_;rw[l,h,Ye];simp[k]|true=>
   dsimp only;rw[W_bind];refine bI (A _ x j k (hp.trans u)) λr q=>?_;obtain⟨y,G⟩:=r;obtain⟨L,E⟩:=q;dsimp only at L E ⊢;subst L;have n:=aJ E l;have o:(((xs.take i).filter p).map v).length<Vp:=by have M:=WV p (xs.take i);rw[U8];rw[VG]at M;lia
   rw[Ac n o,VT];have B:g<+:G:=(hp.trans u).trans E;refine Ad z H hc A fin m (i+1) _ (by lia) (fV B (Vk _) _) ?_;rw[Wu (Vc.mp n).1,h,Ye];simp[k]
theorem eF{u:MI}{c:MT}{e:ME}{ρ:aG}{w:Hm}{xs:List D}{p:D->Bool}{v:D->D}{Q:jz}
  (hit:W (u ρ w) λr=>(∀a i,r.2.2<+:a->r.1 a i=b0 xs[i]?)/\r.2.1=xs.length+1/\xs.length<=Vp /\
   (∀d a,d∈xs->r.2.2<+:a->W (c (ρ++[b0 d]) a) λs=>s.1=p d/\a<+:s.2)/\(∀d a,d∈xs->p d=dI->r.2.2<+:a->W (e (ρ++[b0 d]) a) λs=>s.1=v d/\a<+:s.2) /\
   ∀a,r.2.2<+:a->a[r.2.2.length]?=b0 (.lst ((xs.filter p).map v))->Q (.loc r.2.2.length,a)):W (cX u c e ρ w) Q:=by
 unfold cX dG;rw[W_bind];refine bI hit λr q=>?_;obtain⟨x,n,g⟩:=r;obtain⟨h,j,k,l,m,o⟩:=q;dsimp only at h j k l m o ⊢;subst j;rw[hZ];exact Ad h k l m o xs.length 0 (g++[.lst []]) (by lia) (aP _ _) (by simp)
theorem fL{c:Hm}{a:Nat}{xs:List D}(h:c[a]?=b0 (.lst xs)):∀μ' i,c<+:μ'->eB (.loc a) μ' i=b0 xs[i]?:=λμ' i d=>by simp only[eB,jY,bJ,aJ d h,V1]
theorem Qw{xs:List D}{a:Hm}:∀μ' i,a<+:μ'->eB (.tup xs) μ' i=b0 xs[i]?:=λμ' i c=>rfl
noncomputable def gJ(lo:Int)(n:Nat):List D:=(VS n).map λ(i:Nat)=>.int (lo+(i:Int))
theorem EZ{lo:Int}{n:Nat}{a:Hm}:∀μ' i,a<+:μ'->iG lo n μ' i=b0 (gJ lo n)[i]?:=λμ' i _=>by
 unfold iG gJ;rw[Vx];by_cases h:i<n
 .rw[if_pos h,a0p h];rfl
 .rw[if_neg h,Xe (by simpa using Zz.mp h)];rfl
noncomputable abbrev P(x y:Int):D:=.tup [.int x,.int y]
noncomputable abbrev PP(p:Int×Int):D:=P p.1 p.2
theorem E4(n:Nat)(e:Hm)(p q:Int×Int):dU (n+2) e (PP p) (PP q)=b0 (p==q):=by obtain⟨a,b⟩:=p;obtain⟨c,d⟩:=q;show b0 (a==c&&(b==d&&dI))=b0 ((a,b)==(c,d));rw[a1V];rfl
theorem iN{c:Hm}{a b:Nat}{xs d:List D}{Q:jz}(e:c[a]?=b0 (.lst xs))(g:c[b]?=b0 (.lst d))(h:xs.length+d.length<=Vp):W (aW (.loc a) (.loc b) c) Q↔Q (.loc c.length,c++[.lst (xs++d)]):=by simp only[aW,e,g,if_pos h];exact W_some
theorem e8{f:D->List D->Hm->jk}{a:ME}{ms:MA}{ρ:aG}{c:Hm}{Q:jz}(h:W (a ρ c) λp=>oA p.2 p.1=dI/\W (ms ρ p.2) λq=>W (f p.1 q.1 q.2) Q):W (dE f a ms ρ c) Q:=by unfold dE;rw[W_bind];refine bI h λp q=>?_;rw[q.1];exact W_bind.mpr q.2
theorem fA{c:Hm}{a:Nat}{xs:List D}(h:c[a]?=b0 (.lst xs)):oA c (.loc a)=true:=by simp only[oA,h]
theorem lR{c:Hm}{a:Nat}{xs:List D}{y:D}{Q:jz}(h:c[a]?=b0 (.lst xs))(d:xs.length<Vp):W (gG (.loc a) [y] c) Q↔Q (.non,c.set a (.lst (xs++[y]))):=by simp only[gG,Ac h d,V1];exact W_some
theorem uN{c:Hm}{a b:Nat}{xs d:List D}{Q:jz}(h:c[a]?=b0 (.lst xs))(e:c[b]?=b0 (.lst d))(g:xs.length+d.length<=Vp):W (j6 (.loc a) [.loc b] c) Q↔Q (.non,c.set a (.lst (xs++d))):=by simp only[j6,h,e,if_pos g];exact W_some
theorem Qx{a:Hm}{i:Int}{Q:jz}:W (jV [.int i,.ty "bool"] a) Q↔Q (.bl b5,a):=W_some
theorem Qy{a:Hm}{i:Int}{Q:jz}:W (jV [.int i,.ty "int"] a) Q↔Q (.bl dI,a):=W_some
theorem c7{c:Hm}{a:Nat}{xs:List D}{Q:jz}(h:c[a]?=b0 (.lst xs)):W (bM [.loc a] c) Q↔Q (.int xs.length,c):=by simp only[bM,pW,bJ,h,V1];exact W_some
theorem w_lenR{a:Hm}{xs:List D}{Q:jz}:W (bM [.rol xs] a) Q↔Q (.int xs.length,a):=W_some
theorem cT{c:Hm}{a:Nat}{xs:List D}{Q:List D->Prop}(h:c[a]?=b0 (.lst xs)):W (jY c (.loc a)) Q↔Q xs:=by simp only[jY,bJ,h];exact W_some
theorem w_seqT{a:Hm}{xs:List D}{Q:List D->Prop}:W (jY a (.tup xs)) Q↔Q xs:=W_some
theorem m9{ρ:aG}{a:Hm}{Q:Option Int×Hm->Prop}:W (gT ρ a) Q↔Q (b3,a):=W_some
theorem nB{m:ME}{ρ:aG}{a:Hm}{Q:Option Int×Hm->Prop}:W (f9 m ρ a) Q↔W (m ρ a) λp=>match p.1 with|.int i=>Q (b0 i,p.2)|_=>False:=by unfold f9;rw[W_bind];constructor<;>exact λh=>bI h λp q=>by obtain⟨d,a⟩:=p;cases d<;>simpa[W_some,W_none]using q
theorem rK{a:ME}{lo c:MO}{ρ:aG}{i:Hm}{Q:jz}(h:W (a ρ i) λp=>∃l,p.1=.loc l/\W (lo ρ p.2) λq=>W (c ρ q.2) λr=>∃xs,r.2[l]?=b0 (.lst xs)/\Q (.loc r.2.length,r.2++[.lst (fP xs q.1 r.1)])):W (jA a lo c ρ i) Q:=by unfold jA;rw[W_bind];refine bI h λp q=>?_;obtain⟨d,m⟩:=p;obtain⟨l,e,g⟩:=q;dsimp only at e g ⊢;subst e;rw[W_bind];refine bI g λs q=>?_;rw[W_bind];refine bI q λr q=>?_;obtain⟨xs,j,k⟩:=q;simp only[bJ,j,VT];exact W_some.mpr k
theorem aZ(a:Hm)(c:C):(a++[c])[a.length]?=b0 c:=by simp
theorem w_mChain{f g:D->D->Hm->jk}{a b c:ME}{ρ:aG}{e:Hm} {Q}:W (fU f g a b c ρ e) Q↔W (a ρ e) λp=>W (b ρ p.2) λq=>W (f p.1 q.1 q.2) λr=>match r.1 with|.bl k=>if k=dI then W (c ρ r.2) λt=>W (g q.1 t.1 t.2) Q else Q (.bl b5,r.2)|_=>False:=by
 unfold fU;simp only[W_bind];constructor<;>exact λh=>bI h λp q=>bI q λl j=>bI j λr i=>by
  obtain⟨d,e⟩:=r;cases d with
  |bl k=>cases k<;>simpa[W_some,W_bind]using i|_=>simpa[W_none]using i
section
variable{i j:Int}{μ:Hm}{Q:jz}
theorem Qz:W (eN b5 .non .non μ) Q↔Q (.bl dI,μ):=W_some
theorem w_isnotNN:W (eN dI .non .non μ) Q↔Q (.bl b5,μ):=W_some
theorem QC{a:Nat}:W (eN b5 (.loc a) .non μ) Q↔Q (.bl b5,μ):=W_some
theorem w_isnotLN{a:Nat}:W (eN dI (.loc a) .non μ) Q↔Q (.bl dI,μ):=W_some
theorem w_isnotTN{xs:List D}:W (eN dI (.tup xs) .non μ) Q↔Q (.bl dI,μ):=W_some
theorem Ae:∀a:List Int,n9 (a.map D.int)=b0 a
 |[]=>rfl|i::a=>by show(n9 (a.map D.int)).map (i::·)=_;rw[Ae a];rfl
theorem Af{a:Nat}{c:List Int}(h:μ[a]?=b0 (.lst (c.map D.int))):W (kH [.loc a] μ) Q↔Q (.int c.sum,μ):=by simp only[kH,bJ,h,VT,Ae,V1];exact W_some
theorem E6{a:Nat}{bs:List Bool}(h:μ[a]?=b0 (.lst (bs.map D.bl))):W (pZ [.loc a] μ) Q↔Q (.bl (bs.all id),μ):=by
 have e:∀bs:List Bool,oE (bs.map D.bl)=b0 bs:=λbs=>by
  induction bs with
  |nil=>rfl|cons b bs c=>show(oE (bs.map D.bl)).map (b::·)=_;rw[c];rfl
 simp only[pZ,bJ,h,VT,e,V1];exact W_some
end
theorem E7{a:ME}{lo c st:MO}{ρ:aG}{i:Hm}{Q:jz}(h:W (a ρ i) λp=>∃l,p.1=.loc l/\W (lo ρ p.2) λq=>W (c ρ q.2) λr=>W (st ρ r.2) λt=>t.1≠b0 0/\∃xs,t.2[l]?=b0 (.lst xs)/\(dX xs q.1 r.1 t.1).length<=Vp/\Q (.loc t.2.length,t.2++[.lst (dX xs q.1 r.1 t.1)])):W (oO a lo c st ρ i) Q:=by unfold oO;rw[W_bind];refine bI h λp q=>?_;obtain⟨d,o⟩:=p;obtain⟨l,e,g⟩:=q;dsimp only at e g ⊢;subst e;rw[W_bind];refine bI g λs q=>?_;rw[W_bind];refine bI q λr q=>?_;rw[W_bind];refine bI q λt q=>?_;obtain⟨j,xs,k,m,n⟩:=q;rw[if_pos j];simp only[eD,k,VT];rw[if_pos m];exact W_some.mpr n
theorem Fb{ms:MA}{ρ:aG}{g:Hm}{Q:eM×Nat×Hm->Prop}(h:W (ms ρ g) λp=>∃a xs,p.1=[.loc a]/\p.2[a]?=b0 (.lst xs)/\Q (qF (.loc a),xs.length+1,p.2)):W (mS ms ρ g) Q:=by unfold mS;rw[W_bind];refine bI h λp q=>?_;obtain⟨l,i⟩:=p;obtain⟨a,xs,c,d,e⟩:=q;dsimp only at c d e ⊢;subst c;dsimp only;simp only[eD,d,V1];exact W_some.mpr e
noncomputable def iA:Nat->List D->List D
 |_,[]=>[]|n,d::r=>.tup [.int n,d]::iA (n+1) r
theorem o8:∀(xs:List D)(n i:Nat),(iA n xs)[i]?=(xs[i]?).map λd=>.tup [.int ((n+i:Nat):Int),d]
 |[],n,i=>by simp[iA]
 |d::r,n,0=>by simp[iA]
 |d::r,n,i+1=>by show(iA (n+1) r)[i]?=_;rw[o8 r (n+1) i,show n+1+i=n+(i+1) by lia];simp
theorem Ag:∀(xs:List D)(n:Nat),(iA n xs).length=xs.length
 |[],_=>rfl|d::r,n=>by rw[iA,VD,Ag r,VD]
theorem Ah{c:Hm}{a:Nat}{xs:List D}(h:c[a]?=b0 (.lst xs)):∀μ' i,c<+:μ'->qF (.loc a) μ' i=b0 (iA 0 xs)[i]?:=λμ' i d=>by simp only[qF,bJ,aJ d h,V1,o8];congr 3;simp
theorem uO{n:eM}{A:BD}{c:MT}{e:ME}{ρ:aG}{a N:Nat}{Q:Hm->Prop}(I:Nat->List D->Hm->Prop)(B:N<=Vp)(k:∀i g j,I i g j->g.length<=i)
  (u:∀i g j,i<N->I i g j->j[a]?=b0 (.lst g)->∃d x,n j i=b0 (b0 d)/\A d j=b0 x/\W (c (ρ++x) j) λr=>(r.1=b5->r.2[a]?=b0 (.lst g)/\I (i+1) g r.2) /\
   (r.1=dI->W (e (ρ++x) r.2) λs=>s.2[a]?=b0 (.lst g)/\I (i+1) (g++[s.1]) (s.2.set a (.lst (g++[s.1])))))
  (l:∀g j,I N g j->j[a]?=b0 (.lst g)->n j N=b0 b3/\Q j):∀(m i:Nat)(g:List D)(j:Hm),i+m=N->I i g j->j[a]?=b0 (.lst g)->W (gC n A c e ρ a (m+1) i j) Q
 |0,i,g,j,h,hI,hg=>by
  have:i=N:=by lia
  subst this;obtain⟨v,w⟩:=l g j hI hg;unfold gC;rw[v];exact W_some.mpr w
 |m+1,i,g,j,h,hI,hg=>by
  obtain⟨d,x,v,w,E⟩:=u i g j (by lia) hI hg;unfold gC;rw[v];simp only[VT,w];rw[W_bind];refine bI E λr q=>?_;obtain⟨b,z⟩:=r;cases b with
  |false=>obtain⟨o,p⟩:=q.1 rfl;exact uO I B k u l m (i+1) g z (by lia) p o|true=>dsimp only;rw[W_bind];refine bI (q.2 rfl) λs q=>?_;obtain⟨y,G⟩:=s;obtain⟨o,p⟩:=q;dsimp only at o p ⊢;have H:=k i g j hI;rw[Ac o (by lia),VT];refine uO I B k u l m (i+1) _ _ (by lia) p ?_;rw[Wu (Vc.mp o).1]
theorem QD{h:BD}{v:MI}{c:MT}{e:ME}{ρ:aG}{a:Hm}{Q:jz}
  (hit:W (v ρ a) λr=>∃(N:Nat)(I:Nat->List D->Hm->Prop),r.2.1=N+1/\N<=Vp/\(∀i g a,I i g a->g.length<=i)/\I 0 [] (r.2.2++[.lst []]) /\
   (∀i g a,i<N->I i g a->a[r.2.2.length]?=b0 (.lst g)->∃d x,r.1 a i=b0 (b0 d)/\h d a=b0 x/\W (c (ρ++x) a) λp=>(p.1=b5->p.2[r.2.2.length]?=b0 (.lst g)/\I (i+1) g p.2) /\
    (p.1=dI->W (e (ρ++x) p.2) λs=>s.2[r.2.2.length]?=b0 (.lst g)/\I (i+1) (g++[s.1]) (s.2.set r.2.2.length (.lst (g++[s.1]))))) /\
   (∀g a,I N g a->a[r.2.2.length]?=b0 (.lst g)->r.1 a N=b0 b3/\Q (.loc r.2.2.length,a))):W (dG h v c e ρ a) Q:=by
 unfold dG;rw[W_bind];refine bI hit λr q=>?_;obtain⟨w,n,y⟩:=r;obtain⟨N,I,j,k,l,m,o,u⟩:=q;dsimp only at j k l m o u ⊢;subst j;rw[hZ];exact uO I k l o u N 0 [] _ (by lia) m (by simp)
theorem QF{u:eM}{B:BD}{c:MT}{e:ME}{ρ:aG}{g:Hm}{xs:List D}{x:D->aG}{p:D->Bool}{v:D->D}{Q:Hm->Prop}(G:∀a i,g<+:a->u a i=b0 xs[i]?)(M:xs.length<=Vp)(K:∀d a,d∈xs->B d a=b0 (x d))
  (hc:∀d a,d∈xs->g<+:a->W (c (ρ++x d) a) λr=>r.1=p d/\a<+:r.2)
  (L:∀d a,d∈xs->p d=dI->g<+:a->W (e (ρ++x d) a) λr=>r.1=v d/\a<+:r.2)
  (fin:∀a,g<+:a->a[g.length]?=b0 (.lst ((xs.filter p).map v))->Q a):W (gC u B c e ρ g.length (xs.length+1) 0 (g++[.lst []])) Q:=by
 refine uO (N:=xs.length) (λi w a=>w=((xs.take i).filter p).map v/\g<+:a) M ?_ ?_ ?_ xs.length 0 [] _ (by lia) ⟨by simp,aP _ _⟩ (by simp)
 .rintro i w a ⟨rfl,_⟩;rw[U8];refine WD (WV _ _) ?_;rw[VG];lia
 .rintro i w a E ⟨rfl,k⟩ o;have H:xs[i]?=b0 xs[i]:=Vb E;have h:xs[i]∈xs:=Wx E;have j:xs.take (i+1)=xs.take i++[xs[i]]:=by rw[YW,H];rfl
  refine⟨xs[i],x xs[i],by rw[G a i k,H],K _ _ h,bI (hc _ a h k) λr q=>?_⟩;obtain⟨b,A⟩:=r;obtain⟨m,n⟩:=q;dsimp only at m n ⊢;refine⟨λl=>⟨aJ n o,?_,k.trans n⟩,λl=>?_⟩
  .rw[j,Ye];rw[l]at m;simp[<- m]
  .rw[l]at m;refine bI (L _ A h m.symm (k.trans n)) λs q=>?_;obtain⟨y,N⟩:=s;obtain⟨I,z⟩:=q;dsimp only at I z ⊢;subst I;refine⟨aJ (n.trans z) o,?_,fV ((k.trans n).trans z) (Vk _) _⟩;rw[j,Ye,VZ];simp[<- m]
 .rintro w a ⟨rfl,k⟩ o;refine⟨by rw[G a _ k];simp,fin a k ?_⟩;rw[Xk]at o;exact o
theorem uP{g:BD}{w:MI}{c:MT}{e:ME}{ρ:aG}{y:Hm}{xs:List D}{x:D->aG}{p:D->Bool}{v:D->D}{Q:jz}
  (hit:W (w ρ y) λr=>(∀a i,r.2.2<+:a->r.1 a i=b0 xs[i]?)/\r.2.1=xs.length+1/\xs.length<=Vp/\(∀d a,d∈xs->g d a=b0 (x d)) /\
   (∀d a,d∈xs->r.2.2<+:a->W (c (ρ++x d) a) λs=>s.1=p d/\a<+:s.2)/\(∀d a,d∈xs->p d=dI->r.2.2<+:a->W (e (ρ++x d) a) λs=>s.1=v d/\a<+:s.2) /\
   ∀a,r.2.2<+:a->a[r.2.2.length]?=b0 (.lst ((xs.filter p).map v))->Q (.loc r.2.2.length,a)):W (dG g w c e ρ y) Q:=by
 unfold dG;rw[W_bind];refine bI hit λr q=>?_;obtain⟨z,n,A⟩:=r;obtain⟨h,j,k,l,m,o,u⟩:=q;dsimp only at h j k l m o u ⊢;subst j;rw[hZ];exact QF h k l m o u
theorem w_mTrue{ρ:aG}{a:Hm}{Q:Bool×Hm->Prop}:W (cV ρ a) Q↔Q (dI,a):=W_some
theorem w_mPut{o i v:ME}{ρ:aG}{a:Hm} {Q}:W (mU o i v ρ a) Q↔W (v ρ a) λp=>W (o ρ p.2) λq=>W (i ρ q.2) λr=>W (oQ q.1 r.1 p.1 r.2) λμ'=>Q (.nx,ρ,μ'):=by unfold mU mT;simp only[W_bind,hZ]
theorem QH{ms:MA}{ρ:aG}{d:Hm}{Q:eM×Nat×Hm->Prop}(h:W (ms ρ d) λp=>∃a b xs c,p.1=[.loc a,.loc b]/\p.2[a]?=b0 (.lst xs)/\p.2[b]?=b0 (.lst c)/\Q (qK (.loc a) (.loc b),min xs.length c.length+1,p.2)):W (qL ms ρ d) Q:=by unfold qL;rw[W_bind];refine bI h λp q=>?_;obtain⟨a,b,xs,c,e,g,i,q⟩:=q;rw[e];simp only[eD,g,i,VT,V1];exact W_some.mpr q
theorem Ai(k:List Int):cQ (.tup (k.map D.int))=b0 k:=Ae k
section
variable{μ:Hm}{a:Nat}{kvs:jx}{k:List Int}{d y:D}{ρ:aG}{Q:jz}
theorem w_mDNewT:W (oU ρ μ) Q↔Q (.loc μ.length,μ++[.dT []]):=W_some
theorem Aj(h:μ[a]?=b0 (.dT kvs))(c:cQ y=b0 k)(e:bT kvs k=b0 d):W (aE (.loc a) y μ) Q↔Q (d,μ):=by simp only[aE,h,c,VT,e,V1];exact W_some
theorem Fc{c:Bool}(h:μ[a]?=b0 (.dT kvs))(e:cQ y=b0 k):W (c4 c y (.loc a) μ) Q↔Q (.bl (if c then !(bT kvs k).isSome else(bT kvs k).isSome),μ):=by
 have:c4 c y (.loc a) μ=b0 (.bl (if c then !(bT kvs k).isSome else(bT kvs k).isSome),μ):=by simp only[c4,h,e,V1]
 rw[this];exact W_some
theorem Ak{Q:Hm->Prop}(h:μ[a]?=b0 (.dT kvs))(c:cQ y=b0 k)(e:kvs.length<Vp):W (oQ (.loc a) y d μ) Q↔Q (μ.set a (.dT (dW kvs k d))):=by simp only[oQ,qG,h,c,VT,if_pos e];exact W_some
end
theorem QK{z:Str}{i:Int}{c:Nat}{a:Hm}{Q:jz}(hz:z.length<=Vp)(h:atI z.cps.toList i=b0 c):W (aE (.str z) (.int i) a) Q↔Q (.str ⟨#[c]⟩,a):=by
 have:aE (.str z) (.int i) a=b0 (.str ⟨#[c]⟩,a):=by simp only[aE,fN];rw[if_pos hz,h];rfl
 rw[this];exact W_some
theorem QL{x y:Str}{a:Hm}{Q:jz}(h:x.length+y.length<=Vp):W (aW (.str x) (.str y) a) Q↔Q (.str (x++y),a):=by
 have:aW (.str x) (.str y) a=b0 (.str (x++y),a):=by simp only[aW];rw[if_pos h]
 rw[this];exact W_some
theorem QM{ms:MA}{ρ:aG}{a:Hm}{Q:eM×Nat×Hm->Prop}(h:W (ms ρ a) λp=>∃i j c,p.1=[.int i,.int j,.int c]/\tK i j c=dI/\Q (yF i c (Wv i j c).toNat,(Wv i j c).toNat+1,p.2)):W (oR ms ρ a) Q:=by unfold oR;rw[W_bind];refine bI h λp q=>?_;obtain⟨i,j,c,d,e,g⟩:=q;rw[d];dsimp only;rw[if_pos e];exact W_some.mpr g
end L3
namespace Lw
open PySem L2 L3
noncomputable def ds:List (Str×Stmt):=(("is_whole",aI 11)::("is_place",aI 12)::("is_corner",aI 13)::("is_edge",aI 14)::("is_quarter",aI 15)::("line_of",aI 16)::("beside",aI 17)::("sides_of",aI 18)::("moved_by",aI 19)::("edges_round",aI 20)::("number_by",aI 21)::("hand_of",aI 22)::("mirrored",aI 23)::("is_size",aI 26)::("check_size",aI 27)::("is_mark",aI 28)::("is_within",aI 29)::("places_within",aI 30)::("quarters_in",aI 31)::("edges_in",aI 32)::("corners_in",aI 33)::("is_inner_edge",aI 34)::("sheet_of",aI 35)::("marks_in",aI 36)::("is_good",aI 38)::("check_round",aI 39)::("creases_at",aI 41)::("gaps_at",aI 42)::("barred",aI 43)::("check_corners",aI 44)::("tie_of",aI 46)::("is_least",aI 47)::("ties_of_gap",aI 48)::("ties_at",aI 49)::("ties",aI 50)::("wedges_by",aI 52)::("is_crimp",aI 53)::("brought_ahead",aI 54)::("is_turned_part",aI 55)::("crimped",aI 56)::("last_two",aI 57)::("folded_order",aI 58)::("rows_of",aI 59)::("all_marks",aI 60)::("laying_by",aI 63)::("mirror_in",aI 64)::("led",aI 65)::("then",aI 66)::("_law_nth",aI 68)::("_law_folded",aI 69)::("_law_folds",aI 70)::("_law_gaps",aI 71)::("_law_star",aI 72)::("_law_creases",aI 73)::("_law_square",aI 74)::("_law_any_sheet",aI 75)::("_law_sheet",aI 76)::("_law_round_a",aI 77)::("_law_inner",aI 78)::("_law_barred",aI 79)::("_law_holds",aI 82)::("law",aI 83)::[])
noncomputable def Fd:D:=(.tup [(.tup [(.int 2),(.int 0)]),(.tup [(.int 1),(.int 1)]),(.tup [(.int 0),(.int 2)]),(.tup [(.int (-1)),(.int 1)]),(.tup [(.int (-2)),(.int 0)]),(.tup [(.int (-1)),(.int (-1))]),(.tup [(.int 0),(.int (-2))]),(.tup [(.int 1),(.int (-1))])])
noncomputable def Fe:D:=(.tup [(.tup [(.int 1),(.int 1)]),(.tup [(.int (-1)),(.int 1)]),(.tup [(.int (-1)),(.int (-1))]),(.tup [(.int 1),(.int (-1))])])
noncomputable def Ff:D:=(.tup [(.str "h"),(.str "v"),(.str "o")])
noncomputable def Fg:D:=(.tup [(.int 1),(.int 0),(.int 0),(.int 1),(.int 0),(.int 0)])
noncomputable def S:Sig:={fn:=(("is_whole",1)::("is_place",1)::("is_corner",1)::("is_edge",1)::("is_quarter",1)::("line_of",1)::("beside",1)::("sides_of",1)::("moved_by",2)::("edges_round",1)::("number_by",2)::("hand_of",2)::("mirrored",2)::("is_size",1)::("check_size",2)::("is_mark",1)::("is_within",3)::("places_within",2)::("quarters_in",2)::("edges_in",2)::("corners_in",2)::("is_inner_edge",3)::("sheet_of",3)::("marks_in",1)::("is_good",1)::("check_round",1)::("creases_at",2)::("gaps_at",2)::("barred",1)::("check_corners",1)::("tie_of",4)::("is_least",2)::("ties_of_gap",3)::("ties_at",2)::("ties",1)::("wedges_by",2)::("is_crimp",3)::("brought_ahead",1)::("is_turned_part",1)::("crimped",3)::("last_two",2)::("folded_order",2)::("rows_of",1)::("all_marks",1)::("laying_by",3)::("mirror_in",1)::("led",2)::("then",2)::("_law_nth",2)::("_law_folded",3)::("_law_folds",3)::("_law_gaps",2)::("_law_star",2)::("_law_creases",3)::("_law_square",0)::("_law_any_sheet",2)::("_law_sheet",2)::("_law_round_a",2)::("_law_inner",1)::("_law_barred",1)::("_law_holds",4)::("law",1)::[]),con:=[("EIGHT_EDGES",Fd),("FOUR_EDGES",Fe),("MARKS",Ff),("STILL",Fg)],tab:=[],no:=["all","bool","dict","enumerate","int","isinstance","len","max","min","range","sorted","str","sum","tuple","zip"],dIt:=[],dEq:=[],dMe:=[]}
@[irreducible] noncomputable def f(k:Nat)(x:Str):MF:=iK S ds k x
noncomputable def Al:MS:=bA (fG (aO (aC (aX b5) (aC aV (aA 2) (mC (.int 2))) (mC (.int 0)))) (aO (aC (aX b5) (aC aV (aA 2) (mC (.int 4))) (aC aV (aA 3) (mC (.int 4)))))) (c9 (dE gG (aA 1) (aB (aU (aB (aA 2) (aB (aA 3) aD))) aD))) bC
noncomputable def Am:MS:=aH (aM 7 (aC aW (aC aV (aC cL (aC cL (aC aE (aA 5) (aC aV (aC aW (aA 3) (mC (.int 1))) (aF bM (aB (aA 5) aD)))) (aC aE (aA 5) (aA 3))) (mC (.int 1))) (aF bM (aB (aA 4) aD))) (mC (.int 1)))) (c9 (dE gG (aA 6) (aB (aC b8 (aA 7) (aC cP (mC (.int 8)) (aF bM (aB (aA 4) aD)))) aD)))
noncomputable def An(k:Nat):MS:=aH (aM 3 (aC aE (aF (f k "_law_round_a") (aB (aA 1) (aB (aA 2) aD))) (mC (.int 1)))) (bA (i8 (aO (aC (aX b5) (aC aV (aF bM (aB (aA 3) aD)) (mC (.int 2))) (mC (.int 1)))) (aO (aC (aX dI) (aF kH (aB (dG (iH 2) (mS (aB (aA 3) aD)) cV (aC b8 (aA 5) (aC cL (mC (.int 1)) (aC b8 (mC (.int 2)) (aC aV (aA 4) (mC (.int 2))))))) aD)) (mC (.int 0))))) (aN (aA 2)) bC)
noncomputable def Ao(k:Nat):MS:=aH (bA (aO (aC (aX b5) (aF (f k "hand_of") (aB (aF (f k "led") (aB (aA 5) (aB (aA 4) aD))) (aB (aA 1) aD))) (aA 2))) (aM 5 (aF (f k "then") (aB (aA 5) (aB (aF (f k "mirror_in") (aB (aA 1) aD)) aD)))) bC) (mU (aA 3) (aA 4) (aA 5))
noncomputable def Ap(k:Nat):MS:=aH (aM 7 (aF (f k "_law_nth") (aB (aA 0) (aB (aC aW (aC aW (aA 1) (mC (.int 1))) (aA 6)) aD)))) (aH (aM 8 (aC aE (aA 5) (aC aV (aC cP (aA 7) (mC (.int 2))) (aF bM (aB (aA 5) aD))))) (aH (aM 8 (aF (f k "led") (aB (aC aE (aA 3) (aC aE (aF (f k "sides_of") (aB (aA 8) aD)) (mC (.int 0)))) (aB (aA 8) aD)))) (aM 3 (aF (f k "_law_folded") (aB (aA 3) (aB (aA 8) (aB (aC cL (mC (.int 1)) (aC b8 (mC (.int 2)) (aC aV (aA 7) (mC (.int 2))))) aD)))))))
noncomputable def Aq:MS:=c9 (dE j6 (aA 5) (aB (bU (aB (aC aE (aA 4) (aC aW (aA 2) (aA 6))) (aB (aC aE (aA 4) (aC aW (aA 3) (aA 6))) aD))) aD))
noncomputable def Fh:MT:=fG (aO (fU cU cU (mC (.int 0)) (aA 10) (aC b8 (mC (.int 4)) (aC aE (aA 0) (mC (.int 0)))))) (aO (fU cU cU (mC (.int 0)) (aA 11) (aC b8 (mC (.int 4)) (aC aE (aA 0) (mC (.int 1))))))
noncomputable def Fj:MS:=aH (c9 (dE gG (aA 5) (aB (aU (aB (aC aW (aA 10) (aA 8)) (aB (aC aW (aA 11) (aA 9)) aD))) aD))) (aH (aM 10 (aC aW (aA 10) (aC b8 (mC (.int 2)) (aA 8)))) (aM 11 (aC aW (aA 11) (aC b8 (mC (.int 2)) (aA 9)))))
noncomputable def uQ:MS:=aH (k5 (aC aE (aA 2) (aC aV (aA 6) (mC (.int 8)))) (gD [8,9])) (aH (k5 (aA 4) (gD [10,11])) (aH (mP m7 Fh Fj) (aM 6 (aC aW (aA 6) (aA 7)))))
noncomputable def Fm:MS:=bA (aO (aC (c4 dI) (aA 6) (aA 4))) (c9 (dE gG (aA 4) (aB (aA 6) aD))) bC
noncomputable def Fn(k:Nat):MS:=cC (bV (aF (f k "_law_star") (aB (aA 2) (aB (aF (f k "_law_nth") (aB (aA 0) (aB (aC aW (aC aW (aA 1) (mC (.int 1))) (aA 5)) aD))) aD)))) (cI 6) Fm
noncomputable def Ar(k:Nat):MS:=aH (aM 5 (aC aE (aA 4) (mC (.int 0)))) (aH (bA (f7 (dH (aF (f k "is_inner_edge") (aB (aA 0) (aB (aA 1) (aB (aA 5) aD)))))) c3 bC) (aH (bA (f7 (dH (aF (f k "is_mark") (aB (aC aE (aA 4) (mC (.int 1))) aD)))) c3 bC) (aH (bA (aO (aC (c4 b5) (aA 5) (aA 3))) c3 bC) (mU (aA 3) (aA 5) (aC aE (aA 4) (mC (.int 1)))))))
noncomputable def Fo:MS:=aH (aM 9 (aC aV (aC cP (aA 7) (mC (.int 16))) (aC aE (bU (aB (mC (.int 3)) (aB (mC (.int 4)) (aB (mC (.int 8)) aD)))) (aC aV (aA 7) (mC (.int 3)))))) (aH (c9 (dE gG (aA 8) (aB (aU (aB (aA 6) (aB (aC aE (bU (aB (mC (.str "o")) (aB (mC (.str "o")) (aB (mC (.str "h")) (aB (mC (.str "v")) (aB (mC (.str "o")) (aB (mC (.str "o")) (aB (mC (.str "o")) (aB (mC (.str "o")) aD))))))))) (aA 9)) aD))) aD))) (aM 7 (aC aV (aC aW (aC b8 (aA 7) (mC (.int 48271))) (mC (.int 11))) (mC (.int 1000003)))))
noncomputable def Fp(k:Nat):MS:=aH (aM 7 (aC aV (aF (f k "_law_nth") (aB (aA 0) (aB (aC aW (aA 1) (mC (.int 6))) aD))) (mC (.int 1000003)))) (aH (aM 8 (bU aD)) (aH (cC (bV (aA 4)) (cI 6) Fo) (aN (aF (f k "sheet_of") (aB (aC aE (aA 3) (mC (.int 0))) (aB (aC aE (aA 3) (mC (.int 1))) (aB (aA 8) aD)))))))
noncomputable def Fq:MS:=bA (aO (aC (c4 b5) (aA 6) (aA 4))) (c9 (dE oY (aA 4) (aB (aA 6) aD))) (c9 (dE gG (aA 4) (aB (aA 6) aD)))
noncomputable def Au(k:Nat):MS:=aH (aM 5 (aF (f k "edges_in") (aB (aC aE (aA 3) (mC (.int 0))) (aB (aC aE (aA 3) (mC (.int 1))) aD)))) (aH (bA (aO (aC (aX b5) (aC aV (aC cP (aA 2) (mC (.int 324))) (mC (.int 4))) (mC (.int 1)))) (aH (aM 6 (aC aE (aA 5) (aC aV (aC cP (aA 2) (mC (.int 1296))) (aF bM (aB (aA 5) aD))))) Fq) bC) (Fp k))
noncomputable def Av:MS:=aH (bA (aO (aC jB (aC aV (aA 0) (mC (.int 4))) (mC (.int 0)))) (c9 (dE gG (aA 3) (aB (aU (aB (aA 4) (aB (aC aE (mC (.str " ohv")) (aC aV (aA 0) (mC (.int 4)))) aD))) aD))) bC) (aM 0 (aC cP (aA 0) (mC (.int 4))))
noncomputable def Aw(k:Nat):MS:=bA (f7 (dH (aF (f k "_law_holds") (aB (aA 12) (aB (dE kI (aA 6) (aB (aA 2) aD)) (aB (dE kI (aA 6) (aB (aA 9) aD)) (aB (aA 10) aD))))))) (aN (mC (.bl b5))) bC
noncomputable def Fs(k:Nat):MS:=bA (aO (aC (aX b5) (aA 11) (aA 4))) (cC (bV (aA 8)) (cI 12) (Aw k)) bC
noncomputable def Ax(k:Nat):MS:=aH (aM 14 (aC aV (aC aW (aA 13) (mC (.int 1))) (aF bM (aB (aA 6) aD)))) (bA (fG (aO (aC jB (aF bM (aB (aA 6) aD)) (mC (.int 2)))) (aO (aC cU (aC aE (aA 7) (aA 13)) (aF qS (aB (aC aE (aA 7) (aC cL (aA 13) (mC (.int 1)))) (aB (aC aE (aA 7) (aA 14)) aD)))))) (bA (f7 (dH (aF pZ (aB (cX (bV (aA 8)) cV (aF (f k "_law_holds") (aB (aA 15) (aB (aA 13) (aB (aA 14) (aB (mC (.bl b5)) aD)))))) aD)))) (aN (mC (.bl b5))) bC) bC)
noncomputable def Ft(k:Nat):MS:=aH (k5 (aF (f k "_law_round_a") (aB (aA 3) (aB (aA 4) aD))) (gD [6,7])) (aH (aM 8 (aF (f k "all_marks") (aB (aA 7) aD))) (aH (cC (bV (aF (f k "ties") (aB (aA 1) aD))) (gD [2,9,10,11]) (Fs k)) (aH (cC (fI (aB (aF bM (aB (aA 6) aD)) aD)) (cI 13) (Ax k)) (aN (aC (aX dI) (aA 8) (bU aD))))))
theorem Fu(k:Nat)(d0:D)(a:Hm):f (k+1) "is_whole" [d0] a=fin ((aN (c8 (aF jV (aB (aA 0) (aB (mC (.ty "int")) aD))) (nR (aF jV (aB (aA 0) (aB (mC (.ty "bool")) aD)))))) [b0 d0] a):=by kernel_rfl
theorem QN(k:Nat)(d0:D)(a:Hm):f (k+1) "is_place" [d0] a=fin ((aN (c8 (aF jV (aB (aA 0) (aB (mC (.ty "tuple")) aD))) (c8 (aC (aX b5) (aF bM (aB (aA 0) aD)) (mC (.int 2))) (c8 (aF (f k "is_whole") (aB (aC aE (aA 0) (mC (.int 0))) aD)) (aF (f k "is_whole") (aB (aC aE (aA 0) (mC (.int 1))) aD)))))) [b0 d0] a):=by kernel_rfl
theorem QR(k:Nat)(d0:D)(a:Hm):f (k+1) "is_corner" [d0] a=fin ((aN (c8 (aC (aX b5) (aC aV (aC aE (aA 0) (mC (.int 0))) (mC (.int 2))) (mC (.int 0))) (aC (aX b5) (aC aV (aC aE (aA 0) (mC (.int 0))) (mC (.int 4))) (aC aV (aC aE (aA 0) (mC (.int 1))) (mC (.int 4)))))) [b0 d0] a):=by kernel_rfl
theorem QU(k:Nat)(d0:D)(a:Hm):f (k+1) "is_edge" [d0] a=fin ((aH (bA (aO (aC (aX b5) (aC aV (aC aE (aA 0) (mC (.int 0))) (mC (.int 2))) (mC (.int 1)))) (aN (aC (aX b5) (aC aV (aC aE (aA 0) (mC (.int 1))) (mC (.int 2))) (mC (.int 1)))) bC) (aN (c8 (aC (aX b5) (aC aV (aC aE (aA 0) (mC (.int 1))) (mC (.int 2))) (mC (.int 0))) (aC (aX dI) (aC aV (aC aE (aA 0) (mC (.int 0))) (mC (.int 4))) (aC aV (aC aE (aA 0) (mC (.int 1))) (mC (.int 4))))))) [b0 d0] a):=by kernel_rfl
theorem QV(k:Nat)(d0:D)(a:Hm):f (k+1) "is_quarter" [d0] a=fin ((aH (bA (aO (aC (aX b5) (aC aV (aC aE (aA 0) (mC (.int 0))) (mC (.int 2))) (mC (.int 1)))) (aN (aC (aX b5) (aC aV (aC aE (aA 0) (mC (.int 1))) (mC (.int 4))) (mC (.int 2)))) bC) (aN (c8 (aC (aX b5) (aC aV (aC aE (aA 0) (mC (.int 0))) (mC (.int 4))) (mC (.int 2))) (aC (aX b5) (aC aV (aC aE (aA 0) (mC (.int 1))) (mC (.int 2))) (mC (.int 1)))))) [b0 d0] a):=by kernel_rfl
theorem QX(k:Nat)(d0:D)(a:Hm):f (k+1) "line_of" [d0] a=fin ((aH (bA (aO (aC (aX b5) (aC aV (aC aE (aA 0) (mC (.int 0))) (mC (.int 2))) (mC (.int 1)))) (aN (i9 (aO (aC (aX b5) (aC aV (aC aE (aA 0) (mC (.int 0))) (mC (.int 4))) (aC aV (aC aE (aA 0) (mC (.int 1))) (mC (.int 4))))) (mC (.str "falling")) (mC (.str "rising")))) bC) (aN (i9 (aO (aC (aX b5) (aC aV (aC aE (aA 0) (mC (.int 1))) (mC (.int 4))) (mC (.int 0)))) (mC (.str "level")) (mC (.str "upright"))))) [b0 d0] a):=by kernel_rfl
theorem QY(k:Nat)(d0:D)(a:Hm):f (k+1) "beside" [d0] a=fin ((aH (aM 1 (aC aE (aA 0) (mC (.int 0)))) (aH (aM 2 (aC aE (aA 0) (mC (.int 1)))) (aN (bU (aB (aU (aB (aC cL (aA 1) (mC (.int 1))) (aB (aA 2) aD))) (aB (aU (aB (aA 1) (aB (aC cL (aA 2) (mC (.int 1))) aD))) (aB (aU (aB (aA 1) (aB (aC aW (aA 2) (mC (.int 1))) aD))) (aB (aU (aB (aC aW (aA 1) (mC (.int 1))) (aB (aA 2) aD))) aD)))))))) [b0 d0,b3,b3] a):=by kernel_rfl
theorem QZ(k:Nat)(d0:D)(a:Hm):f (k+1) "sides_of" [d0] a=fin ((aN (cX (bV (aF (f k "beside") (aB (aA 0) aD))) (dH (aF (f k "is_quarter") (aB (aA 1) aD))) (aA 1))) [b0 d0] a):=by kernel_rfl
theorem Q0(k:Nat)(d0 d1:D)(a:Hm):f (k+1) "moved_by" [d0,d1] a=fin ((aN (cX (bV (aA 1)) cV (aU (aB (aC aW (aC aE (aA 0) (mC (.int 0))) (aC aE (aA 2) (mC (.int 0)))) (aB (aC aW (aC aE (aA 0) (mC (.int 1))) (aC aE (aA 2) (mC (.int 1)))) aD))))) [b0 d0,b0 d1] a):=by kernel_rfl
theorem Q1(k:Nat)(d0:D)(a:Hm):f (k+1) "edges_round" [d0] a=fin ((aN (aF (f k "moved_by") (aB (aA 0) (aB (i9 (aO (aC (aX b5) (aC aV (aC aE (aA 0) (mC (.int 0))) (mC (.int 4))) (mC (.int 0)))) (mC Fd) (mC Fe)) aD)))) [b0 d0] a):=by kernel_rfl
theorem Q2(k:Nat)(d0 d1:D)(a:Hm):f (k+1) "number_by" [d0,d1] a=fin ((aH (bA (aO (aC (aX b5) (aA 0) (mC (.str "level")))) (aN (aC aE (aA 1) (mC (.int 1)))) bC) (aH (bA (aO (aC (aX b5) (aA 0) (mC (.str "upright")))) (aN (aC aE (aA 1) (mC (.int 0)))) bC) (aH (bA (aO (aC (aX b5) (aA 0) (mC (.str "falling")))) (aN (aC cL (aC aE (aA 1) (mC (.int 0))) (aC aE (aA 1) (mC (.int 1))))) bC) (aN (aC aW (aC aE (aA 1) (mC (.int 0))) (aC aE (aA 1) (mC (.int 1)))))))) [b0 d0,b0 d1] a):=by kernel_rfl
theorem Q3(k:Nat)(d0 d1:D)(a:Hm):f (k+1) "hand_of" [d0,d1] a=fin ((aH (aM 2 (aF (f k "line_of") (aB (aA 1) aD))) (aH (aM 3 (aC cL (aF (f k "number_by") (aB (aA 2) (aB (aA 0) aD))) (aF (f k "number_by") (aB (aA 2) (aB (aA 1) aD))))) (aH (bA (aO (aC jB (aA 3) (mC (.int 0)))) (aN (mC (.int 1))) bC) (aN (i9 (aO (aC cU (aA 3) (mC (.int 0)))) (eK (mC (.int 1))) (mC (.int 0))))))) [b0 d0,b0 d1,b3,b3] a):=by kernel_rfl
theorem Q4(k:Nat)(d0 d1:D)(a:Hm):f (k+1) "mirrored" [d0,d1] a=fin ((aH (aM 2 (aC aE (aA 0) (mC (.int 0)))) (aH (aM 3 (aC aE (aA 0) (mC (.int 1)))) (aH (aM 4 (aF (f k "line_of") (aB (aA 1) aD))) (aH (aM 5 (aF (f k "number_by") (aB (aA 4) (aB (aA 1) aD)))) (aH (bA (aO (aC (aX b5) (aA 4) (mC (.str "level")))) (aN (aU (aB (aA 2) (aB (aC cL (aC b8 (mC (.int 2)) (aA 5)) (aA 3)) aD)))) bC) (aH (bA (aO (aC (aX b5) (aA 4) (mC (.str "upright")))) (aN (aU (aB (aC cL (aC b8 (mC (.int 2)) (aA 5)) (aA 2)) (aB (aA 3) aD)))) bC) (aH (bA (aO (aC (aX b5) (aA 4) (mC (.str "falling")))) (aN (aU (aB (aC aW (aA 3) (aA 5)) (aB (aC cL (aA 2) (aA 5)) aD)))) bC) (aN (aU (aB (aC cL (aA 5) (aA 3)) (aB (aC cL (aA 5) (aA 2)) aD))))))))))) [b0 d0,b0 d1,b3,b3,b3,b3] a):=by kernel_rfl
theorem Q5(k:Nat)(d0:D)(a:Hm):f (k+1) "is_size" [d0] a=fin ((aN (c8 (aF (f k "is_whole") (aB (aA 0) aD)) (fU kZ kZ (mC (.int 1)) (aA 0) (mC (.int 6))))) [b0 d0] a):=by kernel_rfl
theorem Q6(k:Nat)(d0 d1:D)(a:Hm):f (k+1) "check_size" [d0,d1] a=fin ((bA (f7 (fG (dH (aF (f k "is_size") (aB (aA 0) aD))) (dH (aF (f k "is_size") (aB (aA 1) aD))))) c3 bC) [b0 d0,b0 d1] a):=by kernel_rfl
theorem Ay(k:Nat)(d0:D)(a:Hm):f (k+1) "is_mark" [d0] a=fin ((aN (c8 (aF jV (aB (aA 0) (aB (mC (.ty "str")) aD))) (aC (c4 b5) (aA 0) (mC Ff)))) [b0 d0] a):=by kernel_rfl
theorem Q7(k:Nat)(d0 d1 d2:D)(a:Hm):f (k+1) "is_within" [d0,d1,d2] a=fin ((aN (c8 (fU cU cU (mC (.int 0)) (aC aE (aA 2) (mC (.int 0))) (aC b8 (mC (.int 4)) (aA 0))) (fU cU cU (mC (.int 0)) (aC aE (aA 2) (mC (.int 1))) (aC b8 (mC (.int 4)) (aA 1))))) [b0 d0,b0 d1,b0 d2] a):=by kernel_rfl
theorem Q8(k:Nat)(d0 d1:D)(a:Hm):f (k+1) "places_within" [d0,d1] a=fin ((aH (aM 2 (bU aD)) (aH (cC (k6 (aB (mC (.int 1)) (aB (aC b8 (mC (.int 4)) (aA 0)) aD))) (cI 3) (c9 (dE j6 (aA 2) (aB (cX (k6 (aB (mC (.int 1)) (aB (aC b8 (mC (.int 4)) (aA 1)) aD))) cV (aU (aB (aA 3) (aB (aA 4) aD)))) aD)))) (aN (aA 2)))) [b0 d0,b0 d1,b3,b3] a):=by kernel_rfl
theorem Q9(k:Nat)(d0 d1:D)(a:Hm):f (k+1) "quarters_in" [d0,d1] a=fin ((aN (cX (bV (aF (f k "places_within") (aB (aA 0) (aB (aA 1) aD)))) (dH (aF (f k "is_quarter") (aB (aA 2) aD))) (aA 2))) [b0 d0,b0 d1] a):=by kernel_rfl
theorem Ra(k:Nat)(d0 d1:D)(a:Hm):f (k+1) "edges_in" [d0,d1] a=fin ((aN (cX (bV (aF (f k "places_within") (aB (aA 0) (aB (aA 1) aD)))) (dH (aF (f k "is_edge") (aB (aA 2) aD))) (aA 2))) [b0 d0,b0 d1] a):=by kernel_rfl
theorem Rb(k:Nat)(d0 d1:D)(a:Hm):f (k+1) "corners_in" [d0,d1] a=fin ((aN (cX (bV (aF (f k "places_within") (aB (aA 0) (aB (aA 1) aD)))) (dH (aF (f k "is_corner") (aB (aA 2) aD))) (aA 2))) [b0 d0,b0 d1] a):=by kernel_rfl
theorem Rc(k:Nat)(d0 d1 d2:D)(a:Hm):f (k+1) "is_inner_edge" [d0,d1,d2] a=fin ((aN (c8 (aF (f k "is_place") (aB (aA 2) aD)) (c8 (aF (f k "is_within") (aB (aA 0) (aB (aA 1) (aB (aA 2) aD)))) (aF (f k "is_edge") (aB (aA 2) aD))))) [b0 d0,b0 d1,b0 d2] a):=by kernel_rfl
theorem Rf(k:Nat)(d0 d1 d2:D)(a:Hm):f (k+1) "sheet_of" [d0,d1,d2] a=fin ((aH (c9 (aF (f k "check_size") (aB (aA 0) (aB (aA 1) aD)))) (aH (aM 3 oU) (aH (cC (bV (aA 2)) (cI 4) (Ar k)) (aN (aU (aB (aA 0) (aB (aA 1) (aB (t8 (aA 3)) aD)))))))) [b0 d0,b0 d1,b0 d2,b3,b3,b3] a):=by kernel_rfl
theorem Rg(k:Nat)(d0:D)(a:Hm):f (k+1) "marks_in" [d0] a=fin ((aN (aF mX (aB (aC aE (aA 0) (mC (.int 2))) aD))) [b0 d0] a):=by kernel_rfl
theorem Rh(k:Nat)(d0:D)(a:Hm):f (k+1) "is_good" [d0] a=fin ((aH (bA (i8 (aO (aC jB (aF bM (aB (aA 0) aD)) (mC (.int 8)))) (aO (aC (aX b5) (aC aV (aF bM (aB (aA 0) aD)) (mC (.int 2))) (mC (.int 1))))) (aN (mC (.bl b5))) bC) (aH (bA (f7 (dH (aF pZ (aB (cX (bV (aA 0)) cV (c8 (aF (f k "is_whole") (aB (aA 1) aD)) (aC pV (aA 1) (mC (.int 1))))) aD)))) (aN (mC (.bl b5))) bC) (aN (aC (aX b5) (aF kH (aB (oO (aA 0) gT gT (f9 (mC (.int 2)))) aD)) (aF kH (aB (oO (aA 0) (f9 (mC (.int 1))) gT (f9 (mC (.int 2)))) aD)))))) [b0 d0] a):=by kernel_rfl
theorem Ri(k:Nat)(d0:D)(a:Hm):f (k+1) "check_round" [d0] a=fin ((bA (i8 (aO (aC cU (aF bM (aB (aA 0) aD)) (mC (.int 2)))) (f7 (dH (aF (f k "is_good") (aB (aA 0) aD))))) c3 bC) [b0 d0] a):=by kernel_rfl
theorem Rj(k:Nat)(d0 d1:D)(a:Hm):f (k+1) "creases_at" [d0,d1] a=fin ((aH (aM 2 (aF (f k "marks_in") (aB (aA 0) aD))) (aN (cX (bV (aF (f k "edges_round") (aB (aA 1) aD))) (aO (aC (c4 b5) (aA 3) (aA 2))) (aA 3)))) [b0 d0,b0 d1,b3] a):=by kernel_rfl
theorem Rk(k:Nat)(d0 d1:D)(a:Hm):f (k+1) "gaps_at" [d0,d1] a=fin ((aH (aM 2 (aF (f k "edges_round") (aB (aA 1) aD))) (aH (aM 3 (aF (f k "creases_at") (aB (aA 0) (aB (aA 1) aD)))) (aH (aM 4 (cX (bV (aA 3)) cV (dE kI (aA 2) (aB (aA 7) aD)))) (aH (aM 5 (aC aW (jA (aA 4) (f9 (mC (.int 1))) gT) (cX (bV (jA (aA 4) gT (f9 (mC (.int 1))))) cV (aC aW (aA 7) (aF bM (aB (aA 2) aD)))))) (aH (aM 6 (aC cP (mC (.int 8)) (aF bM (aB (aA 2) aD)))) (aN (dG (iH 2) (qL (aB (aA 4) (aB (aA 5) aD))) cV (aC b8 (aC cL (aA 8) (aA 7)) (aA 6))))))))) [b0 d0,b0 d1,b3,b3,b3,b3,b3] a):=by kernel_rfl
theorem Rl(k:Nat)(d0:D)(a:Hm):f (k+1) "barred" [d0] a=fin ((aH (cC (bV (aF (f k "corners_in") (aB (aC aE (aA 0) (mC (.int 0))) (aB (aC aE (aA 0) (mC (.int 1))) aD)))) (cI 1) (bA (f7 (dH (aF (f k "is_good") (aB (aF (f k "gaps_at") (aB (aA 0) (aB (aA 1) aD))) aD)))) (aN (aA 1)) bC)) (aN (mC .non))) [b0 d0,b3] a):=by kernel_rfl
theorem Rm(k:Nat)(d0:D)(a:Hm):f (k+1) "check_corners" [d0] a=fin ((aH (aM 1 (aF (f k "barred") (aB (aA 0) aD))) (bA (aO (aC (eN dI) (aA 1) (mC .non))) c3 bC)) [b0 d0,b3] a):=by kernel_rfl
theorem Ro(k:Nat)(d0 d1 d2 d3:D)(a:Hm):f (k+1) "tie_of" [d0,d1,d2,d3] a=fin ((aN (aU (aB (aF qS (aB (aA 0) (aB (aA 1) aD))) (aB (aF yR (aB (aA 0) (aB (aA 1) aD))) (aB (aA 2) (aB (aA 3) aD)))))) [b0 d0,b0 d1,b0 d2,b0 d3] a):=by kernel_rfl
theorem Rq(k:Nat)(d0 d1:D)(a:Hm):f (k+1) "is_least" [d0,d1] a=fin ((aN (c8 (aC cU (aC aE (aA 0) (aA 1)) (aC aE (aA 0) (aC cL (aA 1) (mC (.int 1))))) (aC cU (aC aE (aA 0) (aA 1)) (aC aE (aA 0) (aC aV (aC aW (aA 1) (mC (.int 1))) (aF bM (aB (aA 0) aD))))))) [b0 d0,b0 d1] a):=by kernel_rfl
theorem Rt(k:Nat)(d0 d1 d2:D)(a:Hm):f (k+1) "ties_of_gap" [d0,d1,d2] a=fin ((aH (aM 3 (aF bM (aB (aA 0) aD))) (aH (aM 4 (bU (aB (aF (f k "tie_of") (aB (aC aE (aA 0) (aA 1)) (aB (aC aE (aA 0) (aC aV (aC aW (aA 1) (mC (.int 1))) (aA 3))) (aB (mC (.bl b5)) (aB (aA 2) aD))))) aD))) (aH (bA (aO (aC (aX b5) (aA 3) (mC (.int 4)))) (c9 (dE gG (aA 4) (aB (aF (f k "tie_of") (aB (aC aE (aA 0) (aC aV (aC aW (aA 1) (mC (.int 2))) (mC (.int 4)))) (aB (aC aE (aA 0) (aC aV (aC aW (aA 1) (mC (.int 3))) (mC (.int 4)))) (aB (mC (.bl dI)) (aB (aA 2) aD))))) aD))) bC) (aN (aA 4))))) [b0 d0,b0 d1,b0 d2,b3,b3] a):=by kernel_rfl
theorem Ru(k:Nat)(d0 d1:D)(a:Hm):f (k+1) "ties_at" [d0,d1] a=fin ((aH (aM 2 (aF (f k "creases_at") (aB (aA 0) (aB (aA 1) aD)))) (aH (aM 3 (aF (f k "gaps_at") (aB (aA 0) (aB (aA 1) aD)))) (aH (bA (aO (aC (aX b5) (aF bM (aB (aA 2) aD)) (mC (.int 2)))) (aN (bU (aB (aF (f k "tie_of") (aB (aC aE (aA 2) (mC (.int 0))) (aB (aC aE (aA 2) (mC (.int 1))) (aB (mC (.bl dI)) (aB (aA 1) aD))))) aD))) bC) (aH (aM 4 (bU aD)) (aH (cC (fI (aB (aF bM (aB (aA 2) aD)) aD)) (cI 5) (bA (dH (aF (f k "is_least") (aB (aA 3) (aB (aA 5) aD)))) (c9 (dE j6 (aA 4) (aB (aF (f k "ties_of_gap") (aB (aA 2) (aB (aA 5) (aB (aA 1) aD)))) aD))) bC)) (aN (aA 4))))))) [b0 d0,b0 d1,b3,b3,b3,b3] a):=by kernel_rfl
theorem Rv(k:Nat)(d0:D)(a:Hm):f (k+1) "ties" [d0] a=fin ((aH (c9 (aF (f k "check_corners") (aB (aA 0) aD))) (aH (aM 1 (bU aD)) (aH (cC (bV (aF (f k "corners_in") (aB (aC aE (aA 0) (mC (.int 0))) (aB (aC aE (aA 0) (mC (.int 1))) aD)))) (cI 2) (c9 (dE j6 (aA 1) (aB (aF (f k "ties_at") (aB (aA 0) (aB (aA 2) aD))) aD)))) (aN (aF oZ (aB (aA 1) aD)))))) [b0 d0,b3,b3] a):=by kernel_rfl
theorem Rw(k:Nat)(d0 d1:D)(a:Hm):f (k+1) "wedges_by" [d0,d1] a=fin ((aN (dG (iH 2) (mS (aB (aA 0) aD)) cV (aU (aB (aA 3) (aB (aC aE (aA 1) (aA 2)) (aB (bU (aB (aA 2) aD)) aD)))))) [b0 d0,b0 d1] a):=by kernel_rfl
theorem Ry(k:Nat)(d0 d1 d2:D)(a:Hm):f (k+1) "is_crimp" [d0,d1,d2] a=fin ((aN (c8 (aC kZ (aC aE (aA 1) (mC (.int 0))) (aC aE (aA 0) (mC (.int 0)))) (c8 (aC kZ (aC aE (aA 1) (mC (.int 0))) (aC aE (aA 2) (mC (.int 0)))) (aC (aX dI) (aC aE (aA 1) (mC (.int 1))) (aC aE (aA 2) (mC (.int 1))))))) [b0 d0,b0 d1,b0 d2] a):=by kernel_rfl
theorem Rz(k:Nat)(d0:D)(a:Hm):f (k+1) "brought_ahead" [d0] a=fin ((aH (cC (fI (aB (aF bM (aB (aA 0) aD)) aD)) (cI 1) (aH (aM 2 (aC aW (jA (aA 0) (f9 (aA 1)) gT) (jA (aA 0) gT (f9 (aA 1))))) (bA (dH (aF (f k "is_crimp") (aB (aC aE (aA 2) (mC (.int 0))) (aB (aC aE (aA 2) (mC (.int 1))) (aB (aC aE (aA 2) (mC (.int 2))) aD))))) (aN (aA 2)) bC))) (aN (mC .non))) [b0 d0,b3,b3] a):=by kernel_rfl
theorem RA(k:Nat)(d0:D)(a:Hm):f (k+1) "is_turned_part" [d0] a=fin ((aN (aC (aX b5) (aC aV (aC aE (aC aE (aA 0) (mC (.int 2))) (mC (.int 0))) (mC (.int 2))) (mC (.int 1)))) [b0 d0] a):=by kernel_rfl
theorem RB(k:Nat)(d0 d1 d2:D)(a:Hm):f (k+1) "crimped" [d0,d1,d2] a=fin ((aH (aM 3 (aC aW (aC cL (aC aE (aA 0) (mC (.int 0))) (aC aE (aA 1) (mC (.int 0)))) (aC aE (aA 2) (mC (.int 0))))) (aH (bA (aO (aC (aX b5) (aC (aX b5) (aC aE (aA 1) (mC (.int 1))) (mC (.str "v"))) (aF (f k "is_turned_part") (aB (aA 1) aD)))) (aN (aU (aB (aA 3) (aB (aC aE (aA 0) (mC (.int 1))) (aB (aC aW (aC aW (aC aE (aA 0) (mC (.int 2))) (aC aE (aA 1) (mC (.int 2)))) (aC aE (aA 2) (mC (.int 2)))) aD))))) bC) (aN (aU (aB (aA 3) (aB (aC aE (aA 0) (mC (.int 1))) (aB (aC aW (aC aW (aC aE (aA 2) (mC (.int 2))) (aC aE (aA 1) (mC (.int 2)))) (aC aE (aA 0) (mC (.int 2)))) aD))))))) [b0 d0,b0 d1,b0 d2,b3] a):=by kernel_rfl
theorem RC(k:Nat)(d0 d1:D)(a:Hm):f (k+1) "last_two" [d0,d1] a=fin ((aH (bA (aO (aC (aX dI) (aC aE (aA 0) (mC (.int 1))) (aC aE (aA 1) (mC (.int 1))))) (aN (mC .non)) bC) (aH (bA (aO (aC (aX b5) (aC (aX b5) (aC aE (aA 0) (mC (.int 1))) (mC (.str "v"))) (aF (f k "is_turned_part") (aB (aA 0) aD)))) (aN (aC aW (aC aE (aA 1) (mC (.int 2))) (aC aE (aA 0) (mC (.int 2))))) bC) (aN (aC aW (aC aE (aA 0) (mC (.int 2))) (aC aE (aA 1) (mC (.int 2))))))) [b0 d0,b0 d1] a):=by kernel_rfl
theorem RD(k:Nat)(d0 d1:D)(a:Hm):f (k+1) "folded_order" [d0,d1] a=fin ((aH (aM 2 (aF (f k "wedges_by") (aB (aA 0) (aB (aA 1) aD)))) (aH (mP m7 (aO (aC jB (aF bM (aB (aA 2) aD)) (mC (.int 2)))) (aH (aM 3 (aF (f k "brought_ahead") (aB (aA 2) aD))) (aH (bA (aO (aC (eN b5) (aA 3) (mC .non))) (aN (mC .non)) bC) (aM 2 (aC aW (bU (aB (aF (f k "crimped") (aB (aC aE (aA 3) (mC (.int 0))) (aB (aC aE (aA 3) (mC (.int 1))) (aB (aC aE (aA 3) (mC (.int 2))) aD)))) aD)) (jA (aA 3) (f9 (mC (.int 3))) gT)))))) (aN (aF (f k "last_two") (aB (aC aE (aA 2) (mC (.int 0))) (aB (aC aE (aA 2) (mC (.int 1))) aD)))))) [b0 d0,b0 d1,b3,b3] a):=by kernel_rfl
theorem RE(k:Nat)(d0:D)(a:Hm):f (k+1) "rows_of" [d0] a=fin ((aH (aM 1 (bU (aB (mC (.str "")) aD))) (aH (cC (fI (aB (aA 0) aD)) (cI 2) (aM 1 (aC aW (cX (bV (aA 1)) cV (aC aW (mC (.str "h")) (aA 3))) (cX (bV (aA 1)) cV (aC aW (mC (.str "v")) (aA 3)))))) (aN (aA 1)))) [b0 d0,b3,b3] a):=by kernel_rfl
theorem RF(k:Nat)(d0:D)(a:Hm):f (k+1) "all_marks" [d0] a=fin ((aH (c9 (aF (f k "check_round") (aB (aA 0) aD))) (aN (cX (bV (aF (f k "rows_of") (aB (aF bM (aB (aA 0) aD)) aD))) (aO (aC (eN dI) (aF (f k "folded_order") (aB (aA 0) (aB (aA 1) aD))) (mC .non))) (aA 1)))) [b0 d0] a):=by kernel_rfl
theorem RG(k:Nat)(d0 d1 d2:D)(a:Hm):f (k+1) "laying_by" [d0,d1,d2] a=fin ((aN (aU (aB (aC cL (aC aE (aA 1) (mC (.int 0))) (aC aE (aA 0) (mC (.int 0)))) (aB (aC cL (aC aE (aA 2) (mC (.int 0))) (aC aE (aA 0) (mC (.int 0)))) (aB (aC cL (aC aE (aA 1) (mC (.int 1))) (aC aE (aA 0) (mC (.int 1)))) (aB (aC cL (aC aE (aA 2) (mC (.int 1))) (aC aE (aA 0) (mC (.int 1)))) (aB (aC aE (aA 0) (mC (.int 0))) (aB (aC aE (aA 0) (mC (.int 1))) aD)))))))) [b0 d0,b0 d1,b0 d2] a):=by kernel_rfl
theorem RH(k:Nat)(d0:D)(a:Hm):f (k+1) "mirror_in" [d0] a=fin ((aN (aF (f k "laying_by") (aB (aF (f k "mirrored") (aB (aU (aB (mC (.int 0)) (aB (mC (.int 0)) aD))) (aB (aA 0) aD))) (aB (aF (f k "mirrored") (aB (aU (aB (mC (.int 1)) (aB (mC (.int 0)) aD))) (aB (aA 0) aD))) (aB (aF (f k "mirrored") (aB (aU (aB (mC (.int 0)) (aB (mC (.int 1)) aD))) (aB (aA 0) aD))) aD))))) [b0 d0] a):=by kernel_rfl
theorem RI(k:Nat)(d0 d1:D)(a:Hm):f (k+1) "led" [d0,d1] a=fin ((aH (aM 2 (aC aE (aA 1) (mC (.int 0)))) (aH (aM 3 (aC aE (aA 1) (mC (.int 1)))) (aN (aU (aB (aC aW (aC aW (aC b8 (aC aE (aA 0) (mC (.int 0))) (aA 2)) (aC b8 (aC aE (aA 0) (mC (.int 1))) (aA 3))) (aC aE (aA 0) (mC (.int 4)))) (aB (aC aW (aC aW (aC b8 (aC aE (aA 0) (mC (.int 2))) (aA 2)) (aC b8 (aC aE (aA 0) (mC (.int 3))) (aA 3))) (aC aE (aA 0) (mC (.int 5)))) aD)))))) [b0 d0,b0 d1,b3,b3] a):=by kernel_rfl
theorem RJ(k:Nat)(d0 d1:D)(a:Hm):f (k+1) "then" [d0,d1] a=fin ((aN (aF (f k "laying_by") (aB (aF (f k "led") (aB (aA 1) (aB (aF (f k "led") (aB (aA 0) (aB (aU (aB (mC (.int 0)) (aB (mC (.int 0)) aD))) aD))) aD))) (aB (aF (f k "led") (aB (aA 1) (aB (aF (f k "led") (aB (aA 0) (aB (aU (aB (mC (.int 1)) (aB (mC (.int 0)) aD))) aD))) aD))) (aB (aF (f k "led") (aB (aA 1) (aB (aF (f k "led") (aB (aA 0) (aB (aU (aB (mC (.int 0)) (aB (mC (.int 1)) aD))) aD))) aD))) aD))))) [b0 d0,b0 d1] a):=by kernel_rfl
theorem RK(k:Nat)(d0 d1:D)(a:Hm):f (k+1) "_law_nth" [d0,d1] a=fin ((aN (i9 (aO (aC cU (aA 1) (aF bM (aB (aA 0) aD)))) (aC aE (aA 0) (aA 1)) (mC (.int 0)))) [b0 d0,b0 d1] a):=by kernel_rfl
theorem RL(k:Nat)(d0 d1 d2:D)(a:Hm):f (k+1) "_law_folded" [d0,d1,d2] a=fin ((aH (aM 3 oU) (aH (cC (qQ (aA 0)) (gD [4,5]) (Ao k)) (aN (aA 3)))) [b0 d0,b0 d1,b0 d2,b3,b3,b3] a):=by kernel_rfl
theorem RM(k:Nat)(d0 d1 d2:D)(a:Hm):f (k+1) "_law_folds" [d0,d1,d2] a=fin ((aH (aM 3 oU) (aH (cC (bV (aF (f k "quarters_in") (aB (aC aE (aA 2) (mC (.int 0))) (aB (aC aE (aA 2) (mC (.int 1))) aD)))) (cI 4) (mU (aA 3) (aA 4) (mC Fg))) (aH (aM 5 (aF (f k "edges_in") (aB (aC aE (aA 2) (mC (.int 0))) (aB (aC aE (aA 2) (mC (.int 1))) aD)))) (aH (cC (fI (aB (aC aV (aC cP (aF (f k "_law_nth") (aB (aA 0) (aB (aA 1) aD))) (mC (.int 54))) (mC (.int 6))) aD)) (cI 6) (Ap k)) (aN (cX (bV (aA 5)) (aO (aC (aX dI) (aC aE (aA 3) (aC aE (aF (f k "sides_of") (aB (aA 9) aD)) (mC (.int 0)))) (aC aE (aA 3) (aC aE (aF (f k "sides_of") (aB (aA 9) aD)) (mC (.int 1)))))) (aA 9))))))) [b0 d0,b0 d1,b0 d2,b3,b3,b3,b3,b3,b3] a):=by kernel_rfl
theorem RN(k:Nat)(d0 d1:D)(a:Hm):f (k+1) "_law_gaps" [d0,d1] a=fin ((aH (bA (aO (aC (aX b5) (aC aV (aC aE (aA 1) (mC (.int 0))) (mC (.int 4))) (mC (.int 2)))) (aN (aC aE (bU (aB (bU (aB (mC (.int 2)) (aB (mC (.int 2)) (aB (mC (.int 2)) (aB (mC (.int 2)) aD))))) (aB (bU (aB (mC (.int 4)) (aB (mC (.int 4)) aD))) aD))) (aC aV (aA 0) (mC (.int 2))))) bC) (aH (aM 2 (aC aV (aC cP (aA 0) (mC (.int 6))) (mC (.int 3)))) (aH (aM 3 (aC aV (aC cP (aA 0) (mC (.int 18))) (mC (.int 3)))) (aH (bA (aO (aC (aX b5) (aC aV (aA 0) (mC (.int 6))) (mC (.int 0)))) (aN (bU (aB (mC (.int 4)) (aB (mC (.int 4)) aD)))) bC) (aH (bA (aO (aC (aX b5) (aC aV (aA 0) (mC (.int 6))) (mC (.int 1)))) (aH (aM 4 (bU (aB (mC (.int 2)) (aB (mC (.int 1)) (aB (mC (.int 1)) (aB (mC (.int 2)) (aB (mC (.int 1)) aD))))))) (aH (aM 5 (bU aD)) (aH (cC (fI (aB (mC (.int 3)) aD)) (cI 6) Aq) (aN (aA 5))))) bC) (aN (bU (aB (aC aW (aA 2) (mC (.int 1))) (aB (aC aW (aA 3) (mC (.int 1))) (aB (aC cL (mC (.int 3)) (aA 2)) (aB (aC cL (mC (.int 3)) (aA 3)) aD))))))))))) [b0 d0,b0 d1,b3,b3,b3,b3,b3] a):=by kernel_rfl
theorem RO(k:Nat)(d0 d1:D)(a:Hm):f (k+1) "_law_star" [d0,d1] a=fin ((aH (aM 2 (bU (aB (aU (aB (mC (.int 2)) (aB (mC (.int 0)) aD))) (aB (aU (aB (mC (.int 1)) (aB (mC (.int 1)) aD))) (aB (aU (aB (mC (.int 0)) (aB (mC (.int 2)) aD))) (aB (aU (aB (eK (mC (.int 1))) (aB (mC (.int 1)) aD))) (aB (aU (aB (eK (mC (.int 2))) (aB (mC (.int 0)) aD))) (aB (aU (aB (eK (mC (.int 1))) (aB (eK (mC (.int 1))) aD))) (aB (aU (aB (mC (.int 0)) (aB (eK (mC (.int 2))) aD))) (aB (aU (aB (mC (.int 1)) (aB (eK (mC (.int 1))) aD))) aD)))))))))) (aH (aM 3 (aF (f k "corners_in") (aB (aC aE (aA 0) (mC (.int 0))) (aB (aC aE (aA 0) (mC (.int 1))) aD)))) (aH (aM 4 (aC aE (aA 3) (aC aV (aA 1) (aF bM (aB (aA 3) aD))))) (aH (aM 5 (bU aD)) (aH (aM 6 (aC aV (aC cP (aA 1) (mC (.int 32))) (mC (.int 8)))) (aH (bA (aO (aC (aX b5) (aC aV (aC aE (aA 4) (mC (.int 0))) (mC (.int 4))) (mC (.int 2)))) (aM 6 (aC aW (aC b8 (aC aV (aC cP (aA 1) (mC (.int 32))) (mC (.int 4))) (mC (.int 2))) (mC (.int 1)))) bC) (aH (cC (bV (aF (f k "_law_gaps") (aB (aC cP (aA 1) (mC (.int 256))) (aB (aA 4) aD)))) (cI 7) uQ) (aN (aA 5))))))))) [b0 d0,b0 d1,b3,b3,b3,b3,b3,b3,b3,b3,b3,b3] a):=by kernel_rfl
theorem RP(k:Nat)(d0 d1 d2:D)(a:Hm):f (k+1) "_law_creases" [d0,d1,d2] a=fin ((aH (aM 3 (aC aV (aC cP (aF (f k "_law_nth") (aB (aA 0) (aB (aA 1) aD))) (mC (.int 9))) (mC (.int 6)))) (aH (bA (aO (aC cU (aA 3) (mC (.int 3)))) (aN (aF (f k "_law_folds") (aB (aA 0) (aB (aA 1) (aB (aA 2) aD))))) bC) (aH (aM 4 (bU aD)) (aH (cC (fI (aB (aC aE (bU (aB (mC (.int 1)) (aB (mC (.int 1)) (aB (mC (.int 2)) aD)))) (aC cL (aA 3) (mC (.int 3)))) aD)) (cI 5) (Fn k)) (aN (aA 4)))))) [b0 d0,b0 d1,b0 d2,b3,b3,b3,b3] a):=by kernel_rfl
theorem RQ(k:Nat)(a:Hm):f (k+1) "_law_square" [] a=fin ((aH (aM 0 (bU (aB (aU (aB (mC (.int 6)) (aB (mC (.int 4)) aD))) (aB (aU (aB (mC (.int 8)) (aB (mC (.int 6)) aD))) (aB (aU (aB (mC (.int 6)) (aB (mC (.int 8)) aD))) (aB (aU (aB (mC (.int 4)) (aB (mC (.int 6)) aD))) (aB (aU (aB (mC (.int 3)) (aB (mC (.int 3)) aD))) (aB (aU (aB (mC (.int 1)) (aB (mC (.int 1)) aD))) (aB (aU (aB (mC (.int 3)) (aB (mC (.int 5)) aD))) (aB (aU (aB (mC (.int 1)) (aB (mC (.int 7)) aD))) (aB (aU (aB (mC (.int 7)) (aB (mC (.int 3)) aD))) (aB (aU (aB (mC (.int 5)) (aB (mC (.int 1)) aD))) (aB (aU (aB (mC (.int 9)) (aB (mC (.int 3)) aD))) (aB (aU (aB (mC (.int 11)) (aB (mC (.int 1)) aD))) aD)))))))))))))) (aN (aC aW (aA 0) (bU (aB (aU (aB (mC (.int 9)) (aB (mC (.int 7)) aD))) (aB (aU (aB (mC (.int 11)) (aB (mC (.int 5)) aD))) (aB (aU (aB (mC (.int 9)) (aB (mC (.int 9)) aD))) (aB (aU (aB (mC (.int 11)) (aB (mC (.int 11)) aD))) (aB (aU (aB (mC (.int 5)) (aB (mC (.int 9)) aD))) (aB (aU (aB (mC (.int 7)) (aB (mC (.int 11)) aD))) (aB (aU (aB (mC (.int 3)) (aB (mC (.int 9)) aD))) (aB (aU (aB (mC (.int 1)) (aB (mC (.int 11)) aD))) aD)))))))))))) [b3] a):=by kernel_rfl
theorem RR(k:Nat)(d0 d1:D)(a:Hm):f (k+1) "_law_any_sheet" [d0,d1] a=fin ((aH (aM 2 (aU (aB (aC aW (mC (.int 1)) (aC aV (aA 1) (mC (.int 6)))) (aB (aC aW (mC (.int 1)) (aC aV (aC cP (aA 1) (mC (.int 6))) (mC (.int 6)))) aD)))) (aH (aM 3 (bU aD)) (aH (cC (bV (aF (f k "edges_in") (aB (aC aE (aA 2) (mC (.int 0))) (aB (aC aE (aA 2) (mC (.int 1))) aD)))) (cI 4) Av) (aN (aF (f k "sheet_of") (aB (aC aE (aA 2) (mC (.int 0))) (aB (aC aE (aA 2) (mC (.int 1))) (aB (aA 3) aD)))))))) [b0 d0,b0 d1,b3,b3,b3] a):=by kernel_rfl
theorem RT(k:Nat)(d0 d1:D)(a:Hm):f (k+1) "_law_sheet" [d0,d1] a=fin ((aH (bA (fG (aO (aC (aX b5) (aC aV (aF (f k "_law_nth") (aB (aA 0) (aB (aC aW (aA 1) (mC (.int 8))) aD))) (mC (.int 2))) (mC (.int 1)))) (i8 (aO (aC jB (aF (f k "_law_nth") (aB (aA 0) (aB (aC aW (aA 1) (mC (.int 9))) aD))) (mC (.int 4096)))) (aO (aC cU (aF (f k "_law_nth") (aB (aA 0) (aB (aC aW (aA 1) (mC (.int 9))) aD))) (mC (.int 0)))))) (aN (aF (f k "_law_any_sheet") (aB (aF (f k "_law_nth") (aB (aA 0) (aB (aC aW (aA 1) (mC (.int 9))) aD))) (aB (aF (f k "_law_nth") (aB (aA 0) (aB (aC aW (aA 1) (mC (.int 10))) aD))) aD)))) bC) (aH (aM 2 (aF (f k "_law_nth") (aB (aA 0) (aB (aA 1) aD)))) (aH (aM 3 (aU (aB (aC aW (mC (.int 1)) (aC aV (aA 2) (mC (.int 3)))) (aB (aC aW (mC (.int 1)) (aC aV (aC cP (aA 2) (mC (.int 3))) (mC (.int 3)))) aD)))) (aH (bA (fG (aO (fU cU cU (mC (.int 2)) (aC aV (aC cP (aA 2) (mC (.int 9))) (mC (.int 6))) (mC (.int 5)))) (aO (aC (aX b5) (aC aV (aC cP (aA 2) (mC (.int 5184))) (mC (.int 4))) (mC (.int 1))))) (aM 3 (aU (aB (aC aW (aC aE (aA 3) (mC (.int 0))) (mC (.int 3))) (aB (aC aW (aC aE (aA 3) (mC (.int 1))) (mC (.int 3))) aD)))) bC) (aH (aM 4 (aF (f k "_law_creases") (aB (aA 0) (aB (aA 1) (aB (aA 3) aD))))) (aH (bA (fG (aO (aC (aX b5) (aC aV (aC cP (aA 2) (mC (.int 9))) (mC (.int 6))) (mC (.int 5)))) (aO (aC (aX b5) (aC aV (aC cP (aA 2) (mC (.int 5184))) (mC (.int 4))) (mC (.int 1))))) (aH (aM 3 (aU (aB (mC (.int 3)) (aB (mC (.int 3)) aD)))) (aM 4 (aF (f k "_law_square") aD))) bC) (Au k))))))) [b0 d0,b0 d1,b3,b3,b3,b3,b3,b3,b3,b3] a):=by kernel_rfl
theorem RU(k:Nat)(d0 d1:D)(a:Hm):f (k+1) "_law_round_a" [d0,d1] a=fin ((aH (aM 2 (bU (aB (aU (aB (mC (.int 2)) (aB (mC (.int 0)) aD))) (aB (aU (aB (mC (.int 1)) (aB (mC (.int 1)) aD))) (aB (aU (aB (mC (.int 0)) (aB (mC (.int 2)) aD))) (aB (aU (aB (eK (mC (.int 1))) (aB (mC (.int 1)) aD))) (aB (aU (aB (eK (mC (.int 2))) (aB (mC (.int 0)) aD))) (aB (aU (aB (eK (mC (.int 1))) (aB (eK (mC (.int 1))) aD))) (aB (aU (aB (mC (.int 0)) (aB (eK (mC (.int 2))) aD))) (aB (aU (aB (mC (.int 1)) (aB (eK (mC (.int 1))) aD))) aD)))))))))) (aH (bA (aO (aC (aX b5) (aC aV (aC aE (aA 1) (mC (.int 0))) (mC (.int 4))) (mC (.int 2)))) (aM 2 (cX (oR (aB (mC (.int 1)) (aB (mC (.int 8)) (aB (mC (.int 2)) aD)))) cV (aC aE (aA 2) (aA 8)))) bC) (aH (aM 4 (dG (iH 2) (bV (aA 2)) cV (aU (aB (aC aW (aC aE (aA 1) (mC (.int 0))) (aA 8)) (aB (aC aW (aC aE (aA 1) (mC (.int 1))) (aA 9)) aD))))) (aH (aM 5 (cX (fI (aB (aF bM (aB (aA 4) aD)) aD)) (aO (aC (c4 b5) (aC aE (aA 4) (aA 8)) (aA 0))) (aA 8))) (aH (aM 6 (bU aD)) (aH (cC (fI (aB (aF bM (aB (aA 5) aD)) aD)) (cI 3) Am) (aN (aU (aB (cX (bV (aA 5)) cV (aC aE (aA 4) (aA 8))) (aB (aA 6) aD)))))))))) [b0 d0,b0 d1,b3,b3,b3,b3,b3,b3] a):=by kernel_rfl
theorem RV(k:Nat)(d0:D)(a:Hm):f (k+1) "_law_inner" [d0] a=fin ((aH (aM 1 (bU aD)) (aH (cC (k6 (aB (mC (.int 1)) (aB (aC b8 (mC (.int 4)) (aC aE (aA 0) (mC (.int 0)))) aD))) (cI 2) (cC (k6 (aB (mC (.int 1)) (aB (aC b8 (mC (.int 4)) (aC aE (aA 0) (mC (.int 1)))) aD))) (cI 3) Al)) (aN (aA 1)))) [b0 d0,b3,b3,b3] a):=by kernel_rfl
theorem RW(k:Nat)(d0:D)(a:Hm):f (k+1) "_law_barred" [d0] a=fin ((aH (aM 1 (dG (iH 2) (bV (aC aE (aA 0) (mC (.int 2)))) cV (aA 4))) (aH (cC (bV (aF (f k "_law_inner") (aB (aA 0) aD))) (cI 2) (An k)) (aN (mC .non)))) [b0 d0,b3,b3,b3] a):=by kernel_rfl
theorem RX(k:Nat)(d0 d1 d2 d3:D)(a:Hm):f (k+1) "_law_holds" [d0,d1,d2,d3] a=fin ((aN (aC (aX b5) (aC (aX b5) (aC aE (aA 0) (aA 1)) (aC aE (aA 0) (aA 2))) (aA 3))) [b0 d0,b0 d1,b0 d2,b0 d3] a):=by kernel_rfl
theorem RY(k:Nat)(d0:D)(a:Hm):f (k+1) "law" [d0] a=fin ((aH (aM 1 (aF (f k "_law_sheet") (aB (aA 0) (aB (mC (.int 0)) aD)))) (aH (bA (aO (aC (eN dI) (aF (f k "_law_barred") (aB (aA 1) aD)) (mC .non))) (aN (mC (.bl dI))) bC) (aH (aM 3 (dG (iH 2) (bV (aC aE (aA 1) (mC (.int 2)))) cV (aA 15))) (aH (aM 5 (cX (bV (aF (f k "_law_inner") (aB (aA 1) aD))) (aO (aC (aX dI) (aC aE (aF (f k "_law_round_a") (aB (aA 3) (aB (aA 15) aD))) (mC (.int 0))) (bU aD))) (aA 15))) (aH (bA (aO (aC (aX b5) (aA 5) (bU aD))) (aN (aC (aX b5) (aF (f k "ties") (aB (aA 1) aD)) (bU aD))) bC) (aH (aM 4 (aC aE (aA 5) (aC aV (aF (f k "_law_nth") (aB (aA 0) (aB (mC (.int 7)) aD))) (aF bM (aB (aA 5) aD))))) (Ft k))))))) [b0 d0,b3,b3,b3,b3,b3,b3,b3,b3,b3,b3,b3,b3,b3,b3] a):=by kernel_rfl
theorem w_mul2{z:Int}{a:Hm}{Q:jz}:W (b8 (.int 2) (.int z) a) Q↔Q (.int (2*z),a):=lQ (.inl ⟨by decide,by decide⟩)
theorem w_mul4{z:Int}{a:Hm}{Q:jz}:W (b8 (.int 4) (.int z) a) Q↔Q (.int (4*z),a):=lQ (.inl ⟨by decide,by decide⟩)
theorem w_mod2{z:Int}{a:Hm}{Q:jz}:W (aV (.int z) (.int 2) a) Q↔Q (.int (z%2),a):=dM (by decide)
theorem Fv{z:Int}{a:Hm}{Q:jz}:W (aV (.int z) (.int 4) a) Q↔Q (.int (z%4),a):=dM (by decide)
theorem RZ:(2:Nat)<=Vp:=by decide
theorem kL{a b:D}:([a,b]:List D).length<=Vp:=RZ
theorem R0:(1:Nat)<=Vp:=by decide
theorem rL{a:D}:([a]:List D).length<=Vp:=R0
noncomputable def nO:D->Int
 |.int i=>i|_=>0
theorem R6{lo:Int}{n:Nat}{d:D}(h:d∈gJ lo n):∃j:Nat,j<n/\d=.int (lo+(j:Int)):=by unfold gJ at h;obtain⟨j,a,rfl⟩:=VQ.mp h;exact⟨j,Wi.mp a,rfl⟩
theorem uR{a C:MS}{ρ c:aG}{d μ':Hm}{Q:jz}(h:a ρ d=b0 (.nx,c,μ'))(k:W (fin (C c μ')) Q):W (fin (aH a C ρ d)) Q:=by unfold aH;rw[h];exact k
theorem Fw{i:Nat}{m:ME}{ρ:aG}{a μ':Hm}{d:D}(h:m ρ a=b0 (d,μ')):aM i m ρ a=b0 (.nx,ρ.set i (b0 d),μ'):=by unfold aM;rw[h];rfl
theorem Fx{a:Type}{o:Option a}{r:a}{Q:a->Prop}(h:W o λx=>x=r):W o Q↔Q r:=by obtain⟨_,h,rfl⟩:=h;rw[h];exact W_some
theorem Fy{a:Type}{o:Option a}{r:a}(h:∀Q:a->Prop,W o Q↔Q r):o=b0 r:=by obtain⟨_,e,c⟩:=(h λx=>x=r).mpr rfl;rw[e,c]
section
variable{α:Type}{i:Nat}{m:ME}{ms:MA}{g:MF}{t:MT}{A B C:MS}{ρ:aG}{μ μ':Hm}{ds:List D}{Q:jz}{R:Fl×aG×Hm->Prop}
theorem bB{o:Option α}{r:α}{Q:α->Prop}(h:o=b0 r)(q:Q r):W o Q:=⟨r,h,q⟩
theorem cJ{o:jk}{a:Option (Fl×aG×Hm)}(e:o=fin a)(h:W a λp=>match p.1 with|.rt d=>Q (d,p.2.2)|.nx=>Q (.non,p.2.2)|_=>False):W o Q:=e▸W_fin.mpr h
theorem bE(h:W (m ρ μ) λp=>W (C (ρ.set i (b0 p.1)) p.2) R):W (aH (aM i m) C ρ μ) R:=w_mSeq.mpr (w_mSet.mpr h)
theorem eH(h:W (A ρ μ) λp=>p.1=.nx/\W (C p.2.1 p.2.2) R):W (aH A C ρ μ) R:=w_mSeq.mpr (bI h λp q=>by rw[q.1];exact q.2)
theorem o9(h:W (m ρ μ) λp=>W (C ρ p.2) R):W (aH (c9 m) C ρ μ) R:=w_mSeq.mpr (w_mDrop.mpr h)
theorem cM(h:W (m ρ μ) λp=>R (.rt p.1,ρ,p.2)):W (aN m ρ μ) R:=w_mRet.mpr h
theorem aQ(h:ms ρ μ=b0 (ds,μ'))(k:W (g ds μ') Q):W (aF g ms ρ μ) Q:=w_mCall.mpr ⟨_,h,k⟩
theorem iO(h:W (ms ρ μ) λp=>W (g p.1 p.2) Q):W (aF g ms ρ μ) Q:=w_mCall.mpr h
theorem bK{Q:List D×Hm->Prop}(h:W (m ρ μ) λp=>W (ms ρ p.2) λq=>Q (p.1::q.1,q.2)):W (aB m ms ρ μ) Q:=w_mCons.mpr h
theorem Fz(h:W (m ρ μ) λp=>W (g [p.1] p.2) Q):W (aF g (aB m aD) ρ μ) Q:=w_mCall.mpr (w_mCons.mpr (bI h λ_ q=>⟨_,rfl,q⟩))
theorem fB{b:Bool}(h:t ρ μ=b0 (b,μ'))(h1:b=dI->W (aH A C ρ μ') R)(a:b=b5->W (aH B C ρ μ') R):W (aH (bA t A B) C ρ μ) R:=by
 refine w_mSeq.mpr (w_mIfS.mpr ⟨_,h,?_⟩);cases b
 .exact w_mSeq.mp (a rfl)
 .exact w_mSeq.mp (h1 rfl)
theorem R8(h:W (t ρ μ) λp=>p.1=dI/\W (aH A C ρ p.2) R):W (aH (bA t A B) C ρ μ) R:=w_mSeq.mpr (w_mIfS.mpr (bI h λp q=>by rw[if_pos q.1];exact w_mSeq.mp q.2))
theorem uS(h:W (t ρ μ) λp=>p.1=b5/\W (aH B C ρ p.2) R):W (aH (bA t A B) C ρ μ) R:=w_mSeq.mpr (w_mIfS.mpr (bI h λp q=>by rw[if_neg (by rw[q.1];exact Vm)];exact w_mSeq.mp q.2))
theorem rM(h:W (aH A (aH B C) ρ μ) R):W (aH (aH A B) C ρ μ) R:=w_mSeq.mpr (w_mSeq.mpr (bI (w_mSeq.mp h) λp q=>by
 obtain⟨x,y⟩:=p;cases x with
 |nx=>exact w_mSeq.mp q
 |_=>exact q))
theorem pE{T:Bool×Hm->Prop}(h:W (t ρ μ) λp=>T (!p.1,p.2)):W (f7 t ρ μ) T:=w_mNotT.mpr h
theorem iB{T:Bool×Hm->Prop}{b:Bool}(h:W (m ρ μ) λp=>p.1=.bl b/\T (b,p.2)):W (dH m ρ μ) T:=w_mTru.mpr (bI h λp ⟨e,q⟩=>by rw[e];exact w_truB.mpr q)
theorem jK(h:W (m ρ μ) λp=>R (.rt p.1,ρ,p.2)):W (aH (aN m) C ρ μ) R:=w_mSeq.mpr (w_mRet.mpr h)
theorem dN(h:W (C ρ μ) R):W (aH bC C ρ μ) R:=w_mSeq.mpr (w_mNext.mpr h)
theorem dO{T:Bool×Hm->Prop}(h:W (m ρ μ) λp=>∃b,p.1=.bl b/\T (b,p.2)):W (aO m ρ μ) T:=w_mTest.mpr (bI h λp ⟨b,e,q⟩=>by rw[e];exact q)
theorem bX{h:D->D->Hm->jk}{a b:ME}{c d:Hm}{x y:D}(h1:a ρ μ=b0 (x,c))(e:b ρ c=b0 (y,d))(k:W (h x y d) Q):W (aC h a b ρ μ) Q:=w_mOp.mpr ⟨_,h1,_,e,k⟩
theorem aT{h:D->D->Hm->jk}{a b:ME}(k:W (a ρ μ) λp=>W (b ρ p.2) λq=>W (h p.1 q.1 q.2) Q):W (aC h a b ρ μ) Q:=w_mOp.mpr k
end
noncomputable def rN(x y:Int):Str:=if x%2=1 then(if x%4=y%4 then "falling" else "rising")else if y%4=0 then "level" else "upright"
theorem FA(k:Nat)(x y:Int)(a:Hm)(Q:jz):W (f (k+1) "line_of" [P x y] a) Q↔Q (.str (rN x y),a):=by rw[QX,W_fin];simp only[w_mSeq,w_mRet,w_mNext,w_mIfS,w_mIfE,w_mOp,bS,aY,w_mTest,w_it20,w_it21,w_eqI,dM (show(0:Int)<2 by decide),dM (show(0:Int)<4 by decide)];unfold rN;split<;>split<;>simp_all
noncomputable def iP(x y:Int)(a b:Int):Int:=if x%2=1 then(if x%4=y%4 then a-b else a+b)else if y%4=0 then b else a
theorem FC(k:Nat)(x y a b:Int)(c:Hm)(Q:jz):W (f (k+1) "number_by" [.str (rN x y),P a b] c) Q↔Q (.int (iP x y a b),c):=by refine Fx ?_;rw[Q2];unfold rN iP;split<;>split<;>exact⟨_,rfl,rfl⟩
noncomputable def gK(p e:Int×Int):Int×Int:=
 if e.1%2=1 then(if e.1%4=e.2%4 then(p.2+(e.1-e.2),p.1-(e.1-e.2))else(e.1+e.2-p.2,e.1+e.2-p.1))else if e.2%4=0 then(p.1,2*e.2-p.2)else(2*e.1-p.1,p.2)
theorem Sa(k:Nat)(x y a b:Int)(c:Hm)(Q:jz):W (f (k+2) "mirrored" [P x y,P a b] c) Q↔Q (PP (gK (x,y) (a,b)),c):=by refine Fx ?_;rw[Q4];refine uR rfl (uR rfl (uR (Fw (Fy (FA k a b c))) (uR (Fw (Fy (FC k a b a b c))) ?_)));unfold rN iP gK;split<;>split<;>exact⟨_,rfl,rfl⟩
noncomputable def cY:D->Int×Int
 |.tup [.int x,.int y]=>(x,y)|_=>(0,0)
theorem pF(p:Int×Int->Bool)(l:jq):((l.map PP).filter λd=>p (cY d)).map (λd=>d)=(l.filter p).map PP:=by
 rw[a4M];induction l with
 |nil=>rfl|cons a l c=>
  have e:(a4e PP (a::l)).filter (λd=>p (cY d))=if p a then PP a::(l.map PP).filter (λd=>p (cY d))else(l.map PP).filter λd=>p (cY d):=by rw[VP,a0T];rfl
  rw[e,c,a0T];split<;>rfl
theorem lT{d:D}{l:jq}(h:d∈l.map PP):∃x y,d=P x y:=by obtain⟨p,_,rfl⟩:=VQ.mp h;exact⟨p.1,p.2,rfl⟩
theorem uT{n:Nat}{i:Int}(a:0<=i)(h:i<n):i7 n i=b0 i.toNat:=by unfold i7;rw[if_pos a,if_pos h]
theorem Sb{gs:List Int}{i:Int}(a:0<=i)(h:i<gs.length):atI (gs.map D.int) i=b0 (.int (gs.getD i.toNat 0)):=by
 unfold atI;rw[U8,uT a h,VT,Vx];have c:i.toNat<gs.length:=by lia
 simp[Wt,c]
theorem Se{xs:List D}{i:Int}{d:D}{a:Hm}{Q:jz}(h:atI xs i=b0 d):W (aE (.rol xs) (.int i) a) Q↔Q (d,a):=by
 have:aE (.rol xs) (.int i) a=b0 (d,a):=by simp only[aE,fN,bJ,VT,h,V1]
 rw[this];exact W_some
noncomputable def lU:List Int->Int
 |[]=>0|g::r=>g-lU r
structure GoodG(gs:List Int):Prop where
 len:gs.length=2\/gs.length=4\/gs.length=6\/gs.length=8
 pos:∀g∈gs,1<=g
 alt:lU gs=0
theorem GoodG.rgl{gs:List Int}(h:GoodG gs):2<=gs.length/\gs.length<=8:=by have:=h.len;lia
noncomputable def iC:Bool->Str
 |true=>"v"|false=>"h"
noncomputable def jL:Bool->Nat
 |true=>118|false=>104
theorem Az(b:Bool):iC b=⟨#[jL b]⟩:=by cases b<;>kernel_rfl
noncomputable def iQ(bs:List Bool):Str:=⟨(bs.map jL).toArray⟩
theorem FD(bs:List Bool):(iQ bs).length=bs.length:=by show((bs.map jL).toArray).size=_;simp
noncomputable def fC:Nat->List (List Bool)
 |0=>[[]]|n+1=>(fC n).map (b5::·)++(fC n).map (dI::·)
theorem mem_rowsH:∀{n:Nat}{bs:List Bool},bs∈fC n↔bs.length=n
 |0,bs=>by simp[fC]
 |n+1,bs=>by
  simp only[fC,V4,VQ];constructor
  .rintro(⟨r,h,rfl⟩|⟨r,h,rfl⟩)<;>simp[mem_rowsH.mp h]
  .intro h;match bs,h with
   |false::r,h=>exact .inl ⟨r,mem_rowsH.mpr (by simpa using h),rfl⟩|true::r,h=>exact .inr ⟨r,mem_rowsH.mpr (by simpa using h),rfl⟩
noncomputable def dC(gs:List Int):Bool:=decide (gs.length<=8)&&decide (gs.length%2=0)&&gs.all (λg=>decide (1<=g))&&lU gs==0
theorem GoodG.b{gs:List Int}(h:GoodG gs):dC gs=true:=by
 unfold dC;have:=h.len;rw[decide_eq_true (by lia),decide_eq_true (by lia),h.alt];have:gs.all (λg=>decide (1<=g))=true:=W6.mpr λg a=>by simpa using h.pos g a
 rw[this];rfl
theorem Sf{gs:List Int}(h:dC gs=dI)(a:gs≠[]):GoodG gs:=by unfold dC at h;simp only[Vl,decide_eq_true_eq,W6,beq_iff_eq]at h;obtain⟨⟨⟨e,g⟩,c⟩,d⟩:=h;have:gs.length≠0:=λz=>a (Xl.mp z);exact⟨by lia,c,d⟩
theorem Sg(k:Nat)(i:Int)(a:Hm)(Q:jz):W (f (k+1) "is_whole" [.int i] a) Q↔Q (.bl dI,a):=by rw[Fu,W_fin];simp only[w_mRet,w_mAndV,Qm,w_mCall,w_mCons,bR,aY,bS,Qx,Qy];simp
theorem Sh:∀gs:List Int,gs.length<=8->gs.length%2=0->∃es i:List Int,dX (gs.map D.int) b3 b3 (b0 2)=es.map D.int/\dX (gs.map D.int) (b0 1) b3 (b0 2)=i.map D.int/\es.sum-i.sum=lU gs/\es.length<=8/\i.length<=8
 |[],_,_=>⟨[],[],rfl,rfl,rfl,by decide,by decide⟩|[_],_,h=>by simp at h
 |[a,b],_,_=>⟨[a],[b],by kernel_rfl,by kernel_rfl,by simp[lU]<;>lia,by simp,by simp⟩|[_,_,_],_,h=>by simp at h
 |[a,b,c,d],_,_=>⟨[a,c],[b,d],by kernel_rfl,by kernel_rfl,by simp[lU]<;>lia,by simp,by simp⟩|[_,_,_,_,_],_,h=>by simp at h
 |[a,b,c,d,e,g],_,_=>⟨[a,c,e],[b,d,g],by kernel_rfl,by kernel_rfl,by simp[lU]<;>lia,by simp,by simp⟩|[_,_,_,_,_,_,_],_,h=>by simp at h
 |[a,b,c,d,e,g,x,y],_,_=>⟨[a,c,e,x],[b,d,g,y],by kernel_rfl,by kernel_rfl,by simp[lU]<;>lia,by simp,by simp⟩|_::_::_::_::_::_::_::_::_::_,h,_=>absurd h (by simp)
theorem FE{d:D}{gs:List Int}(h:d∈gs.map D.int):∃g∈gs,d=.int g:=by obtain⟨g,a,rfl⟩:=VQ.mp h;exact⟨g,a,rfl⟩
theorem uU{a:Type}(l:List a):l.filter (λ_=>dI)=l:=by simp
theorem FF(k:Nat)(a:Nat)(gs:List Int)(hz:gs.length<=1000)(n:Hm)(Q:jz)(h:n[a]?=b0 (.lst (gs.map D.int)))(H:∀μ',n<+:μ'->Q (.bl (dC gs),μ')):W (f (k+2) "is_good" [.loc a] n) Q:=by
 rw[Rh,W_fin];simp only[w_mSeq,w_mIfS,w_mOrT,w_mTest,w_mOp,w_mCall,w_mCons,bR,aY,bS];refine(c7 h).mpr ?_;simp only[w_gtI,U8];by_cases q:(8:Int)<gs.length
 .have e:dC gs=false:=by unfold dC;rw[decide_eq_false (show ¬ gs.length<=8 by lia)];rfl
  simp only[q,decide_true,if_true,w_mRet,bS];rw[<- e];exact H _ (Vo _)
 .simp only[q,decide_false,Vu,if_false];refine(c7 h).mpr ?_;simp only[w_mod2,w_eqI,U8];by_cases u:(gs.length:Int)%2=1
  .have e:dC gs=false:=by unfold dC;rw[decide_eq_false (show ¬ gs.length%2=0 by lia)];simp
   simp only[u,beq_self_eq_true,if_true,w_mRet,bS];rw[<- e];exact H _ (Vo _)
  .have v:((gs.length:Int)%2==1)=false:=by simpa using u
   simp only[v,Vu,if_false,w_mNext,w_mNotT,w_mTru,w_mCall,w_mCons,bR];refine eF (xs:=gs.map D.int) (p:=λ_=>dI) (v:=λd=>.bl (decide (1<=nO d))) ?_;simp only[w_iSeq,aY];refine(cT h).mpr ?_;refine⟨fL h,rfl,by rw[U8,VC];lia,λd μ' hd x=>w_mTrue.mpr ⟨rfl,Vo _⟩,λd μ' hd _ x=>?_,λp c o=>?_⟩
   .obtain⟨g,_,rfl⟩:=FE hd;simp only[Wm,WH,w_mAndV,w_mCall,w_mCons,bR,aY,bG,Sg,if_true,w_mOp,bS,Qp];exact⟨rfl,Vo _⟩
   .have l:p[n.length]?=b0 (.lst ((gs.map λg=>decide (1<=g)).map D.bl)):=by rw[o,uU,VM,VM];rfl
    refine(E6 l).mpr ?_;have j:(gs.map λg=>decide (1<=g)).all id=gs.all λg=>decide (1<=g):=by rw[a2e];rfl
    rw[j];simp only[w_truB];cases r:gs.all λg=>decide (1<=g)with
    |false=>
     have e:dC gs=false:=by unfold dC;rw[r];simp
     simp only[a0g,if_true,w_mRet,bS];rw[<- e];exact H _ c
    |true=>
     simp only[YE,Vu,if_false,w_mNext,w_mRet,w_mOp,w_mCall,w_mCons,bR];obtain⟨w,y,s,m,z,A,B⟩:=Sh gs (by lia) (by lia);have i:=aJ c h;refine E7 ?_;simp only[aY];refine⟨a,rfl,?_⟩;simp only[m9,nB,bS];refine⟨by decide,_,i,?_,?_⟩
     .rw[s,U8,VC];lia
     rw[s];refine(Af (aZ _ _)).mpr ?_;refine E7 ?_;simp only[aY];refine⟨a,rfl,?_⟩;simp only[m9,nB,bS];refine⟨by decide,_,aJ (aP _ _) i,?_,?_⟩
     .rw[m,U8,VC];lia
     rw[m];refine(Af (aZ _ _)).mpr ?_;refine(w_eqI).mpr ?_;have e:dC gs=(w.sum==y.sum):=by unfold dC;rw[r,decide_eq_true (show gs.length<=8 by lia),decide_eq_true (show gs.length%2=0 by lia)];simp only[a4y];rw[Zi,beq_iff_eq,beq_iff_eq];lia
     rw[<- e];exact H _ (c.trans ((aP _ _).trans (aP _ _)))
theorem Si(k:Nat)(a:Nat)(gs:List Int)(c:GoodG gs)(d:Hm)(Q:jz)(e:d[a]?=b0 (.lst (gs.map D.int)))(H:∀μ',d<+:μ'->Q (.non,μ')):W (f (k+3) "check_round" [.loc a] d) Q:=by
 have l:=c.len;have h:=c.rgl;rw[Ri,W_fin];simp only[w_mIfS,w_mOrT,w_mTest,w_mOp,w_mCall,w_mCons,bR,aY,bS];refine(c7 e).mpr ?_;have g:¬ ((gs.length:Int)<2):=by lia
 simp only[w_ltI,U8,g,decide_false,Vu,if_false,w_mNotT,w_mTru,w_mCall,w_mCons,bR,aY];refine FF _ a gs (by lia) _ _ e λj i=>?_;simp only[c.b,w_truB,YE,Vu,if_false,w_mNext];exact H _ i
noncomputable def iR(h:Int)(x:Int):jq:=(VS (4*h-1).toNat).map λ(j:Nat)=>(x,1+(j:Int))
noncomputable def iS(h:Int)(n:Nat):jq:=(VS n).flatMap λ(i:Nat)=>iR h (1+(i:Int))
noncomputable def b6(w h:Int):jq:=iS h (4*w-1).toNat
theorem AA(h:Int)(n:Nat):iS h (n+1)=iS h n++iR h (1+(n:Int)):=by unfold iS;rw[YH,Zs];simp
theorem FG(h x:Int):(iR h x).length=(4*h-1).toNat:=by unfold iR;simp
theorem AB(h:Int):∀n:Nat,(iS h n).length=n*(4*h-1).toNat
 |0=>by simp[iS]
 |n+1=>by rw[AA,Vh,AB h n,FG,a2l]
theorem FH{h:Int}(c:h<=6){n:Nat}(a:n<=23):n*(4*h-1).toNat<=529:=by have:n*(4*h-1).toNat<=23*23:=a4w a (by lia);lia
theorem Sj(h x:Int):((gJ 1 (4*h-1).toNat).filter λ_=>dI).map (λd=>P x (nO d))=(iR h x).map PP:=by unfold gJ iR;rw[show ∀l:List D,l.filter (λ_=>dI)=l from λl=>by simp,VM,VM];rfl
theorem AD(k:Nat)(w h:Int)(hw:1<=w/\w<=6)(s:1<=h/\h<=6)(e:Hm)(Q:jz)(H:∀a μ',e<+:μ'->μ'[a]?=b0 (.lst ((b6 w h).map PP))->e.length<=a->Q (.loc a,μ')):W (f (k+1) "places_within" [.int w,.int h] e) Q:=by
 rw[Q8,W_fin];simp only[w_mSeq,w_mSet,w_mLst,bR];refine⟨Xm _,?_⟩;simp only[V2,Wb,w_mForI,w_iRng2,w_mCons,bR,bS,w_mOp,aY,bG,w_mul4];refine⟨by lia,?_⟩;refine iM (lo:=1) (λi q μ'=>e<+:μ'/\μ'[e.length]?=b0 (.lst ((iS h i).map PP))/\∃o,q=[b0 (.int w),b0 (.int h),b0 (.loc e.length),o]) ⟨aP _ _,aZ _ _,b3,rfl⟩ ?_ ?_
 .rintro i q p v ⟨n,g,o,rfl⟩;refine⟨_,rfl,?_⟩;simp only[V2,Wb,w_mDrop];refine e8 ?_;simp only[aY,bG];refine⟨fA g,?_⟩;simp only[w_mCons,bR];refine eF (xs:=gJ 1 (4*h-1).toNat) (p:=λ_=>dI) (v:=λd=>P (1+(i:Int)) (nO d)) ?_;simp only[w_iRng2,w_mCons,bR,bS,w_mOp,aY,bG,w_mul4];refine⟨by lia,EZ,by simp[gJ],by rw[VC];simp[gJ];lia,?_,?_,?_⟩
  .intro d μ' hd n;exact w_mTrue.mpr ⟨rfl,Vo _⟩
  .intro d μ' hd _ n;obtain⟨j,x,rfl⟩:=R6 hd;simp only[Wm,WH,w_mTup,w_mCons,bR,aY,bG,kL,true_and];exact⟨rfl,Vo _⟩
  .intro u c l;rw[Sj]at l;have m:((iS h i).map PP).length+((iR h (1+(i:Int))).map PP).length<=Vp:=by have r:=FH (h:=h) s.2 (n:=i+1) (by lia);rw[a2l]at r;rw[U8,U8,AB,FG,VC];lia
   refine(uN (aJ c g) l m).mpr ?_;refine⟨fV (n.trans c) (Vk _) _,?_,_,rfl⟩;rw[Wu (Vc.mp (aJ c g)).1,AA,VZ]
 .rintro q p ⟨n,g,o,rfl⟩;simp only[w_mRet,aY,bG];exact H _ _ n g (Vk _)
theorem rO{w h:Int}(hw:w<=6)(a:h<=6):(b6 w h).length<=529:=by unfold b6;rw[AB];exact FH a (by lia)
noncomputable def mv(x y:Int)(l:jq):jq:=l.map λs=>(x+s.1,y+s.2)
theorem FI(k:Nat)(x y:Int)(l:jq)(i:l.length<=63)(e:Hm)(Q:jz)(h:∀a μ',e<+:μ'->μ'[a]?=b0 (.lst ((mv x y l).map PP))->e.length<=a->Q (.loc a,μ')):W (f (k+1) "moved_by" [P x y,.tup (l.map PP)] e) Q:=by
 rw[Q0,W_fin];simp only[w_mRet];refine eF (xs:=l.map PP) (p:=λ_=>dI) (v:=λd=>PP (x+(cY d).1,y+(cY d).2)) ?_;simp only[w_iSeq,aY,bG];refine w_seqT.mpr ?_;refine⟨Qw,rfl,by rw[U8,VC];lia,λd μ' hd c=>W_some.mpr ⟨rfl,Vo _⟩,λd μ' hd _ c=>?_,λμ' c g=>?_⟩
 .obtain⟨u,v,rfl⟩:=lT hd;simp only[Wm,WH,w_mTup,w_mOp,bS,w_mCons,bR,aY,bG,w_it20,w_it21,w_addI,kL,true_and];exact⟨rfl,Vo _⟩
 .refine h _ _ c ?_ (Vk _);rw[g,Yb.mpr (λ_ _=>rfl),VM];unfold mv;rw[VM];rfl
noncomputable def E8:jq:=[(2,0),(1,1),(0,2),(-1,1),(-2,0),(-1,-1),(0,-2),(1,-1)]
noncomputable def F4:jq:=[(1,1),(-1,1),(-1,-1),(1,-1)]
noncomputable def bW(x:Int):jq:=if x%4=0 then E8 else F4
theorem FJ(k:Nat)(x y:Int)(c:Hm)(Q:jz)(h:∀a μ',c<+:μ'->μ'[a]?=b0 (.lst ((mv x y (bW x)).map PP))->c.length<=a->Q (.loc a,μ')):W (f (k+2) "edges_round" [P x y] c) Q:=by
 rw[Q1,W_fin];simp only[w_mRet,w_mCall,w_mCons,bR,aY,w_mIfE,w_mTest,w_mOp,bS,w_it20,Fv,w_eqI];unfold bW at h;by_cases e:x%4=0
 .rw[if_pos e]at h;rw[e];exact FI k x y E8 (by decide) c _ h
 .rw[if_neg e]at h;rw[if_neg (by simpa using e)];exact FI k x y F4 (by decide) c _ h
theorem FK(a:Hm)(q:Int×Int):∀ps:jq,jZ a (PP q) (ps.map PP)=b0 (ps.any λp=>p==q)
 |[]=>rfl|p::ps=>by rw[VP];show(dU 8 a (PP p) (PP q)).bind (λb=>(jZ a (PP q) (ps.map PP)).map λc=>b||c)=_;rw[E4 6,FK a q ps];rfl
noncomputable def jM(lo:Int)(n m:Nat):jq:=(VS n).flatMap λ(i:Nat)=>(VS m).map λ(j:Nat)=>(lo+(i:Int),lo+(j:Int))
noncomputable def iT(lo x:Int)(m:Nat):jq:=(VS m).map λ(j:Nat)=>(x,lo+(j:Int))
theorem FL(lo:Int)(n m:Nat):jM lo (n+1) m=jM lo n m++iT lo (lo+(n:Int)) m:=by unfold jM iT;rw[YH,Zs];simp
theorem Sk(lo x:Int)(m:Nat):iT lo x (m+1)=iT lo x m++[(x,lo+(m:Int))]:=by unfold iT;rw[YH,VZ];rfl
theorem FN(lo x:Int)(m:Nat):(iT lo x m).length=m:=by unfold iT;simp
theorem FP(lo:Int)(m:Nat):∀n:Nat,(jM lo n m).length=n*m
 |0=>by simp[jM]
 |n+1=>by rw[FL,Vh,FP lo m n,FN,a2l]
theorem AE{d:Hm}{a:Nat}{c c':C}:(d.set a c).set a c'=d.set a c':=List.set_set ..
theorem eS{d:Hm}{a:Nat}{c c':C}(h:d[a]?=b0 c):(d.set a c')[a]?=b0 c':=by rw[Wu (Vc.mp h).1]
theorem Sm(a:Hm)(c c':C):(a++[c]).set a.length c'=a++[c']:=by rw[Y4 _ _ (Vk _)];simp
theorem rP{d:Hm}{a:Nat}{c:C}(h:d[a]?=b0 c):d.set a c=d:=by obtain⟨e,rfl⟩:=Vc.mp h;exact List.set_getElem_self e
noncomputable def dP(p:Int×Int):List Int:=[p.1,p.2]
theorem FQ{a:Type}(l:List a)(d:a):(VS l.length).map (λi=>l.getD i d)=l:=by refine List.ext_getElem (by simp) λi e c=>?_;simp[Wt,c]
theorem nC{es:jq}{i:Nat}{d:D}(h:(es.map PP)[i]?=b0 d):∃p,es[i]?=b0 p/\d=PP p:=by rw[Vx]at h;obtain⟨p,a,c⟩:=Vd.mp h;exact⟨p,a,c.symm⟩
theorem rQ(kvs:jx)(k:List Int):(bT kvs k).isSome=kvs.any λp=>decide (p.1=k):=by unfold bT;rw[Zy,Zi,List.find?_isSome,ZQ]
theorem Sn(kvs:jx)(k k':List Int)(d:D):(bT (dW kvs k d) k').isSome=(decide (k=k')||(bT kvs k').isSome):=by
 unfold dW;split
 .rename_i h;have e:(kvs.map λp=>if p.1=k then(p.1,d)else p).any (λp=>decide (p.1=k'))=kvs.any λp=>decide (p.1=k'):=by rw[a2d];congr 1;funext p;simp only[Function.comp];split<;>rfl
  rw[rQ,e,rQ kvs k'];by_cases z:k=k'
  .subst z;rw[rQ]at h;rw[h];simp
  .simp[z]
 .rw[rQ,List.any_append,rQ];simp only[a1T,List.any_nil,a1U];exact Bool.or_comm _ _
theorem lV(q:Int×Int):cQ (PP q)=b0 (dP q):=rfl
noncomputable def b9(bs:List Bool):List Int:=((VS bs.length).filter λi=>bs.getD i b5).map λ(i:Nat)=>(i:Int)
noncomputable def fM(bs:List Bool):List Int:=((b9 bs).zip ((b9 bs).drop 1++((b9 bs).take 1).map λs=>s+(bs.length:Int))).map λp=>(p.2-p.1)*(8/(bs.length:Int))
noncomputable def MD(m:(Int×Int)×Str):D:=.tup [PP m.1,.str m.2]
noncomputable def cW(p:Int×Int):Bool:=p.1%2==0&&p.1%4==p.2%4
theorem So(k:Nat)(x y:Int)(a:Hm)(Q:jz):W (f (k+1) "is_corner" [P x y] a) Q↔Q (.bl (cW (x,y)),a):=by rw[QR,W_fin];simp only[w_mRet,w_mAndV,w_mOp,bS,aY,w_it20,w_it21,w_eqI,w_mod2,Fv];unfold cW;cases x%2==0<;>simp
noncomputable def aL(ms:List ((Int×Int)×Str))(p:Int×Int):Bool:=(ms.map (·.1)).any λq=>q==p
theorem FR:∀ms:List ((Int×Int)×Str),oW (ms.map MD)=b0 (ms.map λm=>(dP m.1,D.str m.2))
 |[]=>rfl|m::ms=>by rw[VP,VP];show(cQ (PP m.1)).bind (λk=>(oW (ms.map MD)).map λl=>(k,D.str m.2)::l)=_;rw[FR ms];rfl
theorem FT(k:List Int):∀(l kvs:jx),(bT (l.foldl (λq p=>dW q p.1 p.2) kvs) k).isSome=((bT kvs k).isSome||l.any λp=>decide (p.1=k))
 |[],kvs=>by simp
 |p::l,kvs=>by rw[a3Z,FT k l,Sn,a1T];cases decide (p.1=k)<;>cases(bT kvs k).isSome<;>simp
theorem Sq(p q:Int×Int):decide (dP p=dP q)=(p==q):=by rw[Zi];simp only[decide_eq_true_eq,beq_iff_eq,dP,a2B,and_true,a2a]
theorem Ss(ms:List ((Int×Int)×Str))(p:Int×Int):(bT ((ms.map λm=>(dP m.1,D.str m.2)).foldl (λq p=>dW q p.1 p.2) []) (dP p)).isSome=aL ms p:=by rw[FT];unfold aL;rw[a2d,a2d];show(b5||_)=_;rw[a0v];congr 1;funext m;exact Sq m.1 p
theorem w_it32{a b c:D}{d:Hm}{Q:jz}:W (aE (.tup [a,b,c]) (.int 2) d) Q↔Q (c,d):=W_some
theorem w_it30{a b c:D}{d:Hm}{Q:jz}:W (aE (.tup [a,b,c]) (.int 0) d) Q↔Q (a,d):=W_some
theorem w_it31{a b c:D}{d:Hm}{Q:jz}:W (aE (.tup [a,b,c]) (.int 1) d) Q↔Q (b,d):=W_some
noncomputable abbrev SH(w h:Int)(ms:List ((Int×Int)×Str)):D:=.tup [.int w,.int h,.tup (ms.map MD)]
theorem Su{ms:List ((Int×Int)×Str)}{a:Hm}{Q:jz}:W (mX [.tup (ms.map MD)] a) Q↔Q (.loc a.length,a++[.dT ((ms.map λm=>(dP m.1,D.str m.2)).foldl (λq p=>dW q p.1 p.2) [])]):=by
 have:mX [.tup (ms.map MD)] a=b0 (.loc a.length,a++[.dT ((ms.map λm=>(dP m.1,D.str m.2)).foldl (λq p=>dW q p.1 p.2) [])]):=by simp only[mX,FR,V1]
 rw[this];exact W_some
theorem FU(k:Nat)(w h:Int)(ms:List ((Int×Int)×Str))(x y:Int)(i:Hm)(Q:jz)(H:∀a μ',i<+:μ'->μ'[a]?=b0 (.lst (((mv x y (bW x)).filter (aL ms)).map PP))->Q (.loc a,μ')):W (f (k+3) "creases_at" [SH w h ms,P x y] i) Q:=by
 rw[Rj,W_fin];simp only[w_mSeq,w_mSet,w_mCall,w_mCons,bR,aY,bG];rw[Rg,W_fin];simp only[w_mRet,w_mCall,w_mCons,bR,w_mOp,aY,bS,w_it32,Su,V2,Wb];refine eF (xs:=(mv x y (bW x)).map PP) (p:=λd=>aL ms (cY d)) (v:=λd=>d) ?_;simp only[w_iSeq,w_mCall,w_mCons,bR,aY,bG];refine FJ k x y _ _ λa l g e m=>?_;refine(cT e).mpr ⟨fL e,rfl,?_,λd μ' hd c=>?_,λd μ' hd _ c=>?_,λμ' c j=>?_⟩
 .rw[U8,VC];unfold mv bW;rw[U8];split<;>decide
 .obtain⟨u,v,rfl⟩:=lT hd;simp only[Wm,WH,w_mTest,w_mOp,aY,bG];refine(Fc (aJ (g.trans c) (aZ _ _)) (lV (u,v))).mpr ?_;simp only[Vu,if_false];exact⟨Ss ms (u,v),Vo _⟩
 .simp only[Wm,WH,aY,bG];exact⟨trivial,Vo _⟩
 .refine H _ _ ((aP _ _).trans (g.trans c)) ?_;rw[j,pF (aL ms)]
theorem AF(a:Hm)(q:Int×Int):∀ps:jq,jG a (PP q) (ps.map PP)=b0 (ps.map λp=>p==q)
 |[]=>rfl|p::ps=>by rw[VP,VP];simp only[jG,AF a q ps];rw[E4 6];rfl
theorem FV{c:Hm}{a:Nat}{ps:jq}{q:Int×Int}{Q:jz}(h:c[a]?=b0 (.lst (ps.map PP)))(g:q∈ps)(hz:ps.length<=Vp):W (kI (.loc a) [PP q] c) Q↔Q (.int (ps.idxOf q:Nat),c):=by
 have e:(ps.map λp=>p==q).findIdx id=ps.idxOf q:=by rw[List.findIdx_map];rfl
 have d:ps.idxOf q<ps.length:=a1q g;simp only[kI,h,AF,VT];rw[e,U8,if_pos ⟨d,hz⟩];exact W_some
theorem uV{es:jq}(g:es.Nodup){i:Nat}(a:i<es.length):es.idxOf (es.getD i (0,0))=i:=by
 have e:es.getD i (0,0)=es[i]:=by simp[Wt,a]
 rw[e];have c:es.idxOf es[i]<es.length:=a1q (Wx a);have d:es[es.idxOf es[i]]=es[i]:=List.getElem_idxOf c;rcases ZL (es.idxOf es[i]) i with h|h|h
 .exact absurd d ((We.mp g) _ i c a h)
 .exact h
 .exact absurd d.symm ((We.mp g) i _ a c h)
theorem AG{es:jq}(e:es.Nodup)(m:Int×Int->Bool):(es.filter m).map (λq=>((es.idxOf q:Nat):Int))=b9 (es.map m):=by
 have c:es.filter m=((VS es.length).filter λi=>m (es.getD i (0,0))).map λi=>es.getD i (0,0):=by
  conv=>lhs;rw[<- FQ es (0,0)]
  rw[Zf];rfl
 unfold b9;rw[c,VM,U8];have d:(VS es.length).filter (λi=>m (es.getD i (0,0)))=(VS es.length).filter λi=>(es.map m).getD i false:=by refine List.filter_congr λi a=>?_;have a:=Wi.mp a;simp[Wt,a]
 rw[<- d];refine XU λi a=>?_;have a:=Wi.mp (Wy.mp a).1;show((es.idxOf (es.getD i (0,0)):Nat):Int)=_;rw[uV e a]
theorem AH(x y:Int){l:jq}(h:l.Nodup):(mv x y l).Nodup:=by unfold mv;show List.Pairwise _ _;rw[Xv];refine a4Z (λ{a b} c e=>c ?_) h;simp only[a2a]at e ⊢;lia
theorem AI(x:Int):(bW x).Nodup:=by unfold bW;split<;>decide
theorem uW(x:Int):(bW x).length=8\/(bW x).length=4:=by
 unfold bW;split
 .exact .inl rfl
 .exact .inr rfl
theorem Sv(c:List Int):fP (c.map D.int) (b0 1) b3=(c.drop 1).map D.int:=by
 cases c with
 |nil=>rfl|cons a l=>unfold fP;rw[show(1:Int)=((1:Nat):Int)from rfl,HT.sIx_nat,HT.sIx_none,U8,Zq (by simp),<- List.map_drop,W5 (by rw[U8,V5];lia)]
theorem Sw(c:List Int):fP (c.map D.int) b3 (b0 1)=(c.take 1).map D.int:=by
 cases c with
 |nil=>rfl|cons a l=>unfold fP;rw[show(1:Int)=((1:Nat):Int)from rfl,HT.sIx_nat,HT.sIx_none,U8,Zq (by simp),Xw,Z1,a4x]
noncomputable def nD(a c:List Int):List D:=(a.zip c).map PP
theorem Sx{e:Hm}{a b:Nat}{c d:List Int}(h:e[a]?=b0 (.lst (c.map D.int)))(j:e[b]?=b0 (.lst (d.map D.int))):∀μ' i,e<+:μ'->qK (.loc a) (.loc b) μ' i=b0 (nD c d)[i]?:=λμ' i g=>by simp only[qK,bJ,aJ g h,aJ g j,VT,V1];unfold nD List.zip;rw[Vx,Vx,Vx,a2m];cases c[i]?<;>cases d[i]?<;>rfl
theorem FW(k:Nat)(w h:Int)(ms:List ((Int×Int)×Str))(x y:Int)(O:Hm)(Q:jz)(H:∀a μ',O<+:μ'->μ'[a]?=b0 (.lst ((fM ((mv x y (bW x)).map (aL ms))).map D.int))->Q (.loc a,μ')):W (f (k+4) "gaps_at" [SH w h ms,P x y] O) Q:=by
 have B:=uW x;have l:(mv x y (bW x)).length=(bW x).length:=by unfold mv;rw[U8]
 have m:=AH x y (AI x);rw[Rk,W_fin];simp only[w_mSeq,w_mSet,w_mCall,w_mCons,bR,aY,bG];refine FJ (k+1) x y _ _ λa1 μ1 p1 R l1=>?_;simp only[V2,Wb,aY,bG];refine FU k w h ms x y _ _ λa2 I L r=>?_;simp only[V2,Wb];have e:=aJ L R;generalize hes:mv x y (bW x)=es at e r l m H;have E:(es.filter (aL ms)).length<=8:=WD (WV _ _) (by lia);refine eF (xs:=(es.filter (aL ms)).map PP) (p:=λ_=>dI) (v:=λd=>.int ((es.idxOf (cY d):Nat):Int)) ?_;simp only[w_iSeq,aY,bG];refine(cT r).mpr ⟨fL r,rfl,by rw[U8,VC];lia,λd μ' hd g=>w_mTrue.mpr ⟨rfl,Vo _⟩,λd μ' hd _ g=>?_,λc M T=>?_⟩
 .obtain⟨q,Y,rfl⟩:=VQ.mp hd;refine e8 ?_;simp only[Wm,WH,aY,bG];refine⟨fA (aJ g e),?_⟩;simp only[w_mCons,bR,aY,bG];exact(FV (aJ g e) (Wy.mp Y).1 (by rw[VC];lia)).mpr ⟨rfl,Vo _⟩
 .have j:c[I.length]?=b0 (.lst ((b9 (es.map (aL ms))).map D.int)):=by rw[T,uU,VM,<- AG m,VM];rfl
  have G:(b9 (es.map (aL ms))).length<=8:=by rw[<- AG m,U8];exact E
  generalize hix:b9 (es.map (aL ms))=is at j G;simp only[w_mOp];refine rK ?_;simp only[aY,bG,nB,bS,m9];refine⟨_,rfl,_,j,?_⟩;rw[Sv];have K:=aJ (aP c (C.lst ((is.drop 1).map D.int))) j;have o:=aJ (M.trans (aP c (C.lst ((is.drop 1).map D.int)))) e;refine eF (xs:=(is.take 1).map D.int) (p:=λ_=>dI) (v:=λd=>.int (nO d+(es.length:Int))) ?_;simp only[w_iSeq];refine rK ?_;simp only[aY,bG,nB,bS,m9];refine⟨_,rfl,_,K,?_⟩;rw[Sw];refine(cT (aZ _ _)).mpr ⟨fL (aZ _ _),rfl,by rw[U8,VG,VC];lia,λd μ' hd g=>w_mTrue.mpr ⟨rfl,Vo _⟩,λd μ' hd _ g=>?_,λn p5 U=>?_⟩
  .obtain⟨i,_,rfl⟩:=FE hd;simp only[Wm,WH,w_mOp,aY,bG,w_mCall,w_mCons,bR];refine(c7 (aJ ((aP _ _).trans g) o)).mpr ?_;simp only[w_addI,U8];exact⟨rfl,Vo _⟩
  .have N:=(aP (c++[C.lst ((is.drop 1).map D.int)]) (C.lst ((is.take 1).map D.int))).trans p5;have u:n[(c++[C.lst ((is.drop 1).map D.int)]++[C.lst ((is.take 1).map D.int)]).length]?=b0 (.lst (((is.take 1).map λs=>s+(es.length:Int)).map D.int)):=by rw[U,uU,VM,VM];rfl
   have v:=aJ N (aZ c (C.lst ((is.drop 1).map D.int)));refine(iN v u (by rw[U8,U8,U8,V5,VG,VC];lia)).mpr ?_;rw[<- VZ];simp only[V2,Wb,w_mOp,bS,w_mCall,w_mCons,bR,aY,bG];have p:=N.trans (aP n (C.lst ((is.drop 1++(is.take 1).map λs=>s+(es.length:Int)).map D.int)));refine(c7 (aJ p o)).mpr ?_;rw[U8];refine(rH (by lia) (by lia)).mpr ?_;simp only[V2,Wb,w_mRet];have z:=aJ p K;have A:=aZ n (C.lst ((is.drop 1++(is.take 1).map λs=>s+(es.length:Int)).map D.int));generalize hjs:is.drop 1++(is.take 1).map (λs=>s+(es.length:Int))=js at z A p;have Z:(nD is js).length<=8:=by unfold nD;rw[U8,a1f];lia
   have h8:8/(es.length:Int)=1\/8/(es.length:Int)=2:=by
    rcases B with h|h
    .left;rw[l,h];rfl
    .right;rw[l,h];rfl
   refine uP (xs:=nD is js) (x:=λd=>[b0 (.int (cY d).1),b0 (.int (cY d).2)]) (p:=λ_=>dI) (v:=λd=>.int (((cY d).2-(cY d).1)*(8/(es.length:Int)))) ?_;refine QH ?_;simp only[w_mCons,bR,aY,bG];refine⟨_,_,_,_,rfl,z,A,Sx z A,?_,by rw[VC];lia,λd μ' hd=>?_,λd μ' hd g=>w_mTrue.mpr ⟨rfl,Vo _⟩,λd μ' hd _ g=>?_,λμ8 p8 X=>?_⟩
   .unfold nD;simp only[U8,a1f]
   .obtain⟨q,_,rfl⟩:=VQ.mp hd;rfl
   .obtain⟨q,_,rfl⟩:=VQ.mp hd;simp only[Wm,WH,w_mOp,aY,bG,w_subI];exact(lQ (.inr (by lia))).mpr ⟨rfl,Vo _⟩
   .refine H _ _ (p1.trans (L.trans (M.trans ((aP _ _).trans (p.trans p8))))) ?_;rw[X,uU];unfold nD fM;rw[hix,U8,hjs,VM,VM];rfl
theorem bN{a:Type}{o:Option a}{r:a}:W o (λx=>x=r)->o=b0 r:=λ⟨_,e,q⟩=>e.trans (congrArg b0 q)
noncomputable def dQ(p:Int×Int):List Int:=[p.1,p.2]
noncomputable def jN(p q:Int×Int):Int×Int:=if HT.lexLt (dQ q) (dQ p)then q else p
noncomputable def jO(p q:Int×Int):Int×Int:=if HT.lexLt (dQ p) (dQ q)then q else p
noncomputable def lW(p q:Int×Int)(a:Bool)(c:Int×Int):Ti:=(dQ (jN p q),dQ (jO p q),a,dQ c)
theorem Sy(p q:Int×Int)(a:Hm):qS [PP p,PP q] a=b0 (PP (jN p q),a):=by show b0 (if HT.lexLt (dQ q) (dQ p)then PP q else PP p,a)=_;unfold jN;split<;>rfl
theorem Sz(p q:Int×Int)(a:Hm):yR [PP p,PP q] a=b0 (PP (jO p q),a):=by show b0 (if HT.lexLt (dQ p) (dQ q)then PP q else PP p,a)=_;unfold jO;split<;>rfl
theorem SA{n:Nat}(h:n=4):n<=Vp:=by rw[h];decide
theorem AJ(k:Nat)(p q:Int×Int)(a:Bool)(c:Int×Int)(d:Hm)(Q:jz)(H:Q (c5 (lW p q a c),d)):W (f (k+1) "tie_of" [PP p,PP q,.bl a,PP c] d) Q:=
 cJ (Ro k _ _ _ _ d) (cM (w_mTup.mpr (bK (aQ rfl (bB (Sy p q d) (bK (aQ rfl (bB (Sz p q d) ⟨_,rfl,SA rfl,H⟩))))))))
theorem rR{xs:List D}{i:Nat}{d:D}(e:xs[i]?=b0 d):atI xs (i:Int)=b0 d:=by have a:=(Vc.mp e).1;unfold atI;rw[uT (by lia) (by lia)];simpa using e
theorem FX{xs:List D}{i:Nat}(h:i<xs.length):atI xs ((i:Int)-1)=xs[(i+(xs.length-1))%xs.length]?:=by
 unfold atI i7;cases i with
 |zero=>
  rw[if_neg (by lia),if_pos (by lia)];have e:(((0:Nat):Int)-1+xs.length).toNat=(0+(xs.length-1))%xs.length:=by rw[a3W (by lia)];lia
  rw[e];rfl
 |succ i=>
  rw[if_pos (by lia),if_pos (by lia)];have e:(((i+1:Nat):Int)-1).toNat=(i+1+(xs.length-1))%xs.length:=by
   have:i+1+(xs.length-1)=i+xs.length:=by lia
   rw[this,Nat.add_mod_right,a3W (by lia)];lia
  rw[e];rfl
theorem rS{gs:List Int}{i:Nat}(h:i<gs.length):(gs.map D.int)[i]?=b0 (.int (gs.getD i 0)):=by rw[Vx,Vb h];simp[Wt,h]
theorem SD{cr:jq}{i:Nat}(h:i<cr.length):(cr.map PP)[i]?=b0 (PP (cr.getD i (0,0))):=by rw[Vx,Vb h];simp[Wt,h]
noncomputable def jP(gs:List Int)(i:Nat):Bool:=decide (gs.getD i 0<gs.getD ((i+(gs.length-1))%gs.length) 0)&&decide (gs.getD i 0<gs.getD ((i+1)%gs.length) 0)
theorem uX(i n:Nat):((i:Int)+1)%(n:Int)=(((i+1)%n:Nat):Int):=by simp[Int.natCast_emod]
theorem SE(k:Nat){a:Nat}{gs:List Int}{c:Hm}(g:c[a]?=b0 (.lst (gs.map D.int))){i:Nat}(h:i<gs.length)(Q:jz)(H:Q (.bl (jP gs i),c)):W (f (k+1) "is_least" [.loc a,.int i] c) Q:=by
 have s:(i+(gs.length-1))%gs.length<gs.length:=Z2 _ (by lia);have u:(i+1)%gs.length<gs.length:=Z2 _ (by lia);have l:∀{d},d=c->aE (.loc a) (.int i) d=b0 (.int (gs.getD i 0),d):=λe=>by subst e;exact bN ((c6 g (rR (rS h))).mpr rfl)
 have n:aE (.loc a) (.int ((i:Int)-1)) c=b0 (.int (gs.getD ((i+(gs.length-1))%gs.length) 0),c):=bN ((c6 g (by
  rw[FX (by rw[U8];exact h),U8];exact rS s)).mpr rfl)
 have o:aE (.loc a) (.int (((i:Int)+1)%(gs.length:Nat))) c=b0 (.int (gs.getD ((i+1)%gs.length) 0),c):=bN ((c6 g (by rw[uX];exact rR (rS u))).mpr rfl);refine cJ (Rq k _ _ c) (cM (w_mAndV.mpr (aT (bX rfl rfl ⟨_,l rfl,aT ⟨_,rfl,bX rfl rfl (w_subI.mpr ⟨_,n,w_ltI.mpr ?_⟩)⟩⟩))));unfold jP at H;have j:W (aC cU (aC aE (aA 0) (aA 1)) (aC aE (aA 0) (aC aV (aC aW (aA 1) (mC (.int 1))) (aF bM (aB (aA 0) aD)))) [b0 (.loc a),b0 (.int i)] c) λp=>p=(.bl (decide (gs.getD i 0<gs.getD ((i+1)%gs.length) 0)),c):=by refine aT (bX rfl rfl ⟨_,l rfl,aT ⟨_,rfl,aT (bX rfl rfl (w_addI.mpr (aQ rfl ((c7 g).mpr ?_))))⟩⟩);rw[U8];exact(dM (by lia)).mpr ⟨_,o,w_ltI.mpr rfl⟩
 cases m:decide (gs.getD i 0<gs.getD ((i+(gs.length-1))%gs.length) 0)with
 |true=>rw[m,a4y]at H;obtain⟨r,q,rfl⟩:=j;exact(if_pos rfl).mpr ⟨_,q,H⟩|false=>rw[m,a4i]at H;exact(if_neg Vm).mpr H
noncomputable def nE(cr:jq)(c:Int×Int)(i:Nat):List Ti:=lW (cr.getD i (0,0)) (cr.getD ((i+1)%cr.length) (0,0)) b5 c::(if cr.length=4 then[lW (cr.getD ((i+2)%4) (0,0)) (cr.getD ((i+3)%4) (0,0)) dI c]else[])
theorem fD{c:Hm}{a:Nat}{cr:jq}(g:c[a]?=b0 (.lst (cr.map PP))){i:Nat}(h:i<cr.length):aE (.loc a) (.int (i:Int)) c=b0 (PP (cr.getD i (0,0)),c):=bN ((c6 g (rR (SD h))).mpr rfl)
theorem SF(k:Nat){a:Nat}{cr:jq}{d:Hm}(g:d[a]?=b0 (.lst (cr.map PP))){i:Nat}(h:i<cr.length)(c:Int×Int)(Q:jz)(H:∀l μ',d<+:μ'->μ'[l]?=b0 (.lst ((nE cr c i).map c5))->Q (.loc l,μ')):W (f (k+2) "ties_of_gap" [.loc a,.int i,PP c] d) Q:=by
 have r:(i+1)%cr.length<cr.length:=Z2 _ (by lia);have n:aE (.loc a) (.int (((i:Int)+1)%(cr.length:Nat))) d=b0 (PP (cr.getD ((i+1)%cr.length) (0,0)),d):=by rw[uX];exact fD g r
 have q:bM [.loc a] d=b0 (.int (cr.length:Nat),d):=bN ((c7 g).mpr (by rw[U8]));refine cJ (Rt (k+1) _ _ _ d) (bE (aQ rfl (bB q (bE (w_mLst.mpr (bK (iO (bK (bX rfl rfl ⟨_,fD g h,bK (aT ⟨_,rfl,aT (bX rfl rfl (w_addI.mpr ⟨_,rfl,(dM (by lia)).mpr ⟨_,n,_,rfl,?_⟩⟩))⟩)⟩)))))))));refine AJ k _ _ _ _ _ _ ⟨_,rfl,rL,?_⟩;have gl:=aZ d (C.lst [c5 (lW (cr.getD i (0,0)) (cr.getD ((i+1)%cr.length) (0,0)) b5 c)]);have m:=aJ (aP d (C.lst [c5 (lW (cr.getD i (0,0)) (cr.getD ((i+1)%cr.length) (0,0)) b5 c)])) g;refine fB (b:=((cr.length:Nat):Int)==4) (μ':=d++[C.lst [c5 (lW (cr.getD i (0,0)) (cr.getD ((i+1)%cr.length) (0,0)) b5 c)]]) (bN (dO (bX rfl rfl (w_eqI.mpr ⟨_,rfl,rfl⟩)))) (λe=>?_) λe=>dN (cM ⟨_,rfl,H _ _ (aP _ _) ?_⟩)
 .have e:cr.length=4:=by have:=beq_iff_eq.mp e;lia
  have s:(i+2)%4<cr.length:=by lia
  have u:(i+3)%4<cr.length:=by lia
  have o:∀{ν:Hm},ν[a]?=b0 (.lst (cr.map PP))->aE (.loc a) (.int (((i:Int)+2)%4)) ν=b0 (PP (cr.getD ((i+2)%4) (0,0)),ν):=λj=>by rw[show((i:Int)+2)%4=(((i+2)%4:Nat):Int) by lia];exact fD j s
  have p:∀{ν:Hm},ν[a]?=b0 (.lst (cr.map PP))->aE (.loc a) (.int (((i:Int)+3)%4)) ν=b0 (PP (cr.getD ((i+3)%4) (0,0)),ν):=λj=>by rw[show((i:Int)+3)%4=(((i+3)%4:Nat):Int) by lia];exact fD j u
  refine o9 (e8 ⟨_,rfl,fA gl,bK (iO (bK (aT ⟨_,rfl,aT (bX rfl rfl (w_addI.mpr ⟨_,rfl,(dM (by decide)).mpr ⟨_,o m,bK (aT ⟨_,rfl,aT (bX rfl rfl (w_addI.mpr ⟨_,rfl,(dM (by decide)).mpr ⟨_,p m,_,rfl,?_⟩⟩))⟩)⟩⟩))⟩)))⟩);refine AJ k _ _ _ _ _ _ ⟨_,rfl,(lR gl (by show(1:Nat)<Vp;decide)).mpr (cM ⟨_,rfl,H _ _ (fV (aP _ _) (Vk _) _) ?_⟩)⟩;rw[eS gl];unfold nE;rw[if_pos e];rfl
 .have e:¬ cr.length=4:=λz=>by rw[z]at e;cases e
  unfold nE;rw[if_neg e];exact gl
noncomputable def bL(m:Int×Int->Bool)(p:Int×Int):jq:=(mv p.1 p.2 (bW p.1)).filter m
noncomputable def a9(m:Int×Int->Bool)(p:Int×Int):List Int:=fM ((mv p.1 p.2 (bW p.1)).map m)
theorem lX(m:Int×Int->Bool)(p:Int×Int):(a9 m p).length=(bL m p).length:=by have e:=congrArg WI (AG (AH p.1 p.2 (AI p.1)) m);rw[U8]at e;unfold a9 fM bL;rw[U8,a1f,Vh,U8,V5,VG,e];lia
theorem lY(m:Int×Int->Bool)(p:Int×Int):(bL m p).length<=8:=by refine WD (WV _ _) ?_;have:(mv p.1 p.2 (bW p.1)).length=(bW p.1).length:=U8 ..;have:=uW p.1;lia
noncomputable def iU(m:Int×Int->Bool)(p:Int×Int)(i:Nat):List Ti:=if jP (a9 m p) i then nE (bL m p) p i else[]
noncomputable def gM(m:Int×Int->Bool)(p:Int×Int):List Ti:=if(bL m p).length=2 then[lW ((bL m p).getD 0 (0,0)) ((bL m p).getD 1 (0,0)) dI p]else(VS (bL m p).length).flatMap (iU m p)
theorem AK(m:Int×Int->Bool)(p:Int×Int)(i:Nat):(iU m p i).length<=2:=by
 unfold iU nE;split
 .split<;>simp
 .simp
theorem rV{a c:Type}{f:a->List c}{n:Nat}(h:∀x,(f x).length<=n):∀l:List a,(l.flatMap f).length<=n*l.length
 |[]=>by simp
 |x::l=>by have d:=rV h l;have e:=h x;rw[a3A,Vh,VD,Nat.mul_succ];lia
theorem FY(m:Int×Int->Bool)(p:Int×Int):(gM m p).length<=16:=by
 unfold gM;split
 .simp
 .have a:=rV (AK m p) (VS (bL m p).length);rw[WY]at a;have:=lY m p;lia
inductive TaI (a0 a1 a2 a3:Option D)(l:Nat)(ν:Hm)(F:Nat->List Ti):Nat->aG->Hm->Prop
 |mk {i:Nat}{x:Option D}{μ:Hm}(p:ν<+:μ)(g:μ[l]?=b0 (.lst (((VS i).flatMap F).map c5))):TaI a0 a1 a2 a3 l ν F i [a0,a1,a2,a3,b0 (.loc l),x] μ
theorem SG(k:Nat)(w h:Int)(ms:List ((Int×Int)×Str))(p:Int×Int)(o:Hm)(Q:jz)(H:∀l μ',o<+:μ'->μ'[l]?=b0 (.lst ((gM (aL ms) p).map c5))->Q (.loc l,μ')):W (f (k+6) "ties_at" [SH w h ms,PP p] o) Q:=by
 refine cJ (Ru (k+5) _ _ o) (bE (aQ rfl (FU (k+2) w h ms p.1 p.2 o _ λa m R q=>bE (aQ rfl (FW (k+1) w h ms p.1 p.2 m _ λb c B n=>?_)))));replace q:m[a]?=b0 (.lst ((bL (aL ms) p).map PP)):=q;replace n:c[b]?=b0 (.lst ((a9 (aL ms) p).map D.int)):=n;have j:=aJ B q;have O:=lX (aL ms) p;have X:=lY (aL ms) p;have M:bM [.loc a] c=b0 (.int ((bL (aL ms) p).length:Nat),c):=bN ((c7 j).mpr (by rw[U8]));have G:=R.trans B;refine fB (b:=(((bL (aL ms) p).length:Nat):Int)==2) (μ':=c) (bN (dO (aT (aQ rfl (bB M ⟨_,rfl,w_eqI.mpr ⟨_,rfl,rfl⟩⟩))))) (λe=>?_) λe=>dN ?_
 .have e:(bL (aL ms) p).length=2:=by have:=beq_iff_eq.mp e;lia
  refine jK (w_mLst.mpr (bK (iO (bK (bX rfl rfl ⟨_,fD (i:=0) j (by lia),bK (bX rfl rfl ⟨_,fD (i:=1) j (by lia),_,rfl,?_⟩)⟩)))));refine AJ (k+4) _ _ _ _ _ _ ⟨_,rfl,rL,H _ _ (G.trans (aP _ _)) ?_⟩;unfold gM;rw[if_pos e];exact aZ _ _
 .have e:¬ (bL (aL ms) p).length=2:=λz=>by rw[z]at e;cases e
  have N:=aJ (aP c (C.lst [])) j;have gB:=aJ (aP c (C.lst [])) n;have L:bM [.loc a] (c++[C.lst []])=b0 (.int ((bL (aL ms) p).length:Nat),c++[C.lst []]):=bN ((c7 N).mpr (by rw[U8]));refine bE (w_mLst.mpr ⟨_,rfl,Xm _,eH (w_mForI.mpr ((kK (j:=0)).mpr (bK (aQ rfl (bB L ⟨_,rfl,⟨by lia,by lia⟩,?_⟩)))))⟩);dsimp only;rw[WR];refine iM (TaI (b0 (SH w h ms)) (b0 (PP p)) (b0 (.loc a)) (b0 (.loc b)) c.length c (iU (aL ms) p)) (.mk (aP _ _) (aZ _ _)) ?_ ?_
  .rintro i s r A ⟨g,d⟩;refine⟨_,rfl,?_⟩;rw[Y2];refine w_mIfS.mpr (iB (aQ rfl (SE (k+4) (aJ g n) (by rw[O];exact A) _ ⟨rfl,?_⟩)));have u:(VS (i+1)).flatMap (iU (aL ms) p)=(VS i).flatMap (iU (aL ms) p)++iU (aL ms) p i:=by rw[YH,Zs];simp
   have I:=rV (AK (aL ms) p) (VS i);rw[WY]at I;cases y:jP (a9 (aL ms) p) i with
   |false=>refine(if_neg Vm).mpr (w_mNext.mpr (.mk g ?_));rw[u];unfold iU at d ⊢;rw[y,if_neg Vm,WQ];exact d|true=>
    refine(if_pos rfl).mpr (w_mDrop.mpr (e8 ⟨_,rfl,fA d,bK (aQ rfl (SF (k+3) (aJ g j) A p _ λl T E v=>⟨_,rfl,?_⟩))⟩));have K:nE (bL (aL ms) p) p i=iU (aL ms) p i:=by unfold iU;rw[y,if_pos rfl]
    rw[K]at v;have U:=AK (aL ms) p i;have x:=aJ E d;refine(uN x v (by rw[U8,U8,VC];lia)).mpr (.mk (fV (g.trans E) (Vk _) _) ?_);rw[eS x,u,VZ]
  .rintro s r ⟨g,d⟩;refine⟨rfl,cM ⟨_,rfl,H _ _ (G.trans g) ?_⟩⟩;unfold gM;rw[if_neg e];exact d
theorem AL(k:Nat){w h:Int}(hw:1<=w/\w<=6)(m:1<=h/\h<=6)(e:Hm)(Q:jz)(H:∀a μ',e<+:μ'->μ'[a]?=b0 (.lst (((b6 w h).filter cW).map PP))->Q (.loc a,μ')):W (f (k+2) "corners_in" [.int w,.int h] e) Q:=by
 refine cJ (Rb (k+1) _ _ e) (cM (eF (xs:=(b6 w h).map PP) (p:=λd=>cW (cY d)) (v:=λd=>d) (w_iSeq.mpr (aQ rfl (AD _ w h (by lia) (by lia) _ _ λa l j g n=>?_)))));refine(cT g).mpr ⟨fL g,rfl,?_,λd μ' hd c=>?_,λd μ' hd _ c=>⟨_,rfl,rfl,Vo _⟩,λμ' c i=>?_⟩
 .have:=rO (w:=w) (h:=h) (by lia) (by lia);rw[U8,VC];lia
 .obtain⟨u,v,rfl⟩:=lT hd;exact iB (aQ rfl ((So k u v _ _).mpr ⟨rfl,rfl,Vo _⟩))
 .refine H _ _ (j.trans c) ?_;rw[i,pF cW]
theorem FZ{a:Type}{l A B:List a}{x:a}{q:a->Bool}(c:l=A++x::B)(hA:∀y∈A,q y=b5)(d:q x=dI):l.find? q=b0 x:=by
 rw[c,List.find?_append];have:A.find? q=none:=XF.mpr λy e=>by rw[hA y e];exact Vm
 rw[this,List.find?_cons_of_pos d];rfl
theorem F0{a:Type}{l:List a}{i:Nat}{x:a}(h:l[i]?=b0 x):l=l.take i++x::l.drop (i+1):=by obtain⟨c,rfl⟩:=Vc.mp h;rw[<- XC c,VY]
noncomputable def F1:Option (Int×Int)->D
 |none=>.non|some p=>PP p
noncomputable def bF(w h:Int):jq:=(b6 w h).filter cW
noncomputable def cN(m:Int×Int->Bool)(p:Int×Int):Bool:=!(dC (a9 m p))
inductive BaI (ms:List ((Int×Int)×Str))(w h:Int)(cs:jq)(q:Int×Int->Bool)(ν:Hm):Nat->aG->Hm->Prop
 |mk {i:Nat}{x:Option D}{μ:Hm}(p:ν<+:μ)(ok:∀z∈cs.take i,q z=b5):BaI ms w h cs q ν i [b0 (SH w h ms),x] μ
theorem F2{c:jq}{q:Int×Int->Bool}{i:Nat}{z:Int×Int}(ok:∀y∈c.take i,q y=b5)(hz:c[i]?=b0 z)(d:q z=b5):∀y∈c.take (i+1),q y=false:=λy a=>by
 rw[YW,hz]at a;rcases V4.mp a with a|a
 .exact ok y a
 .have:y=z:=by simpa using a
  rw[this];exact d
theorem SJ(k:Nat){w h:Int}(hw:1<=w/\w<=6)(v:1<=h/\h<=6)(ms:List ((Int×Int)×Str))(j:Hm)(Q:jz)(H:∀μ',j<+:μ'->Q (F1 ((bF w h).find? (cN (aL ms))),μ')):W (f (k+5) "barred" [SH w h ms] j) Q:=by
 refine cJ (Rl (k+4) _ j) (w_mSeq.mpr (w_mForI.mpr (w_iSeq.mpr (aQ rfl (AL (k+2) hw v _ _ λa l q n=>(cT n).mpr ?_)))));refine iL (xs:=(bF w h).map PP) (BaI ms w h (bF w h) (cN (aL ms)) l) (.mk (Vo _) λz g=>by simp at g) (by rintro _ _ _ ⟨p,_⟩;exact aJ p n) ?_ ?_
 .rintro i d E m hd ⟨c,ok⟩;obtain⟨z,g,rfl⟩:=nC hd;refine⟨_,rfl,w_mIfS.mpr (pE (iB (b:=dC (a9 (aL ms) z)) (iO (bK (aQ rfl (FW k w h ms z.1 z.2 _ _ λb A r u=>⟨_,rfl,?_⟩))))))⟩;refine FF (k+2) b (a9 (aL ms) z) (by have:=lX (aL ms) z;have:=lY (aL ms) z;lia) _ _ u λB s=>⟨rfl,?_⟩;cases o:dC (a9 (aL ms) z)with
  |true=>exact(if_neg Vm).mpr (w_mNext.mpr (.mk (c.trans (r.trans s)) (F2 ok g (by unfold cN;rw[o];rfl))))|false=>have e:=FZ (q:=cN (aL ms)) (F0 g) ok (by unfold cN;rw[o];rfl);rw[e]at H;exact(if_pos rfl).mpr (w_mRet.mpr ⟨_,rfl,H _ (q.trans (c.trans (r.trans s)))⟩)
 .rintro E m ⟨c,ok⟩;rw[U8,Xk]at ok;have e:(bF w h).find? (cN (aL ms))=none:=XF.mpr λy x=>by rw[ok y x];exact Vm
  rw[e]at H;exact cM ⟨_,rfl,H _ (q.trans c)⟩
noncomputable def nF(m:Int×Int->Bool)(w h:Int):List Ti:=(bF w h).flatMap (gM m)
noncomputable def nG(ts:List Ti):List Ti:=(cE (lE ts) ts.length).map λi=>ts.getD i dZ
theorem F3:∀ts:List Ti,qV (ts.map c5)=b0 ts
 |[]=>rfl|t::ts=>by
  have h:qU (c5 t)=b0 t:=by show(cQ (.tup (t.1.map D.int))).bind (λk=>(cQ (.tup (t.2.1.map D.int))).bind λm=>(cQ (.tup (t.2.2.2.map D.int))).map λn=>(k,m,t.2.2.1,n))=_;rw[Ai,Ai,Ai];rfl
  show(qU (c5 t)).bind (λx=>(qV (ts.map c5)).map (x::·))=_;rw[h,F3 ts];rfl
theorem SK{c:Hm}{a:Nat}{ts:List Ti}(g:c[a]?=b0 (.lst (ts.map c5)))(h:uB ts):oZ [.loc a] c=b0 (.loc c.length,c++[.lst ((nG ts).map c5)]):=by
 have e:eD c (.loc a)=b0 (ts.map c5):=by simp only[eD,g]
 simp only[oZ,e,VT,F3,if_pos h];have j:(cE (lE ts) ts.length).map (λi=>(ts.map c5).getD i .non)=(nG ts).map c5:=by unfold nG;rw[VM];refine XU λi d=>?_;have d:i<ts.length:=Wi.mp ((gZ _ _).mem_iff.mp d);simp[Wt,d]
 rw[j]
theorem SM(k:Nat){w h:Int}(hw:1<=w/\w<=6)(d:1<=h/\h<=6){ms:List ((Int×Int)×Str)}(c:(bF w h).find? (cN (aL ms))=b3)(a:Hm)(Q:jz)(H:∀μ',a<+:μ'->Q (.non,μ')):W (f (k+6) "check_corners" [SH w h ms] a) Q:=by refine cJ (Rm (k+5) _ a) (bE (aQ rfl (SJ k hw d ms _ _ λμ' e=>?_)));rw[c];exact w_mIfS.mpr (dO (bX rfl rfl (w_isnotNN.mpr ⟨_,rfl,(if_neg Vm).mpr (w_mNext.mpr (H _ e))⟩)))
inductive TzI (ms:List ((Int×Int)×Str))(w h:Int)(l:Nat)(ν:Hm):Nat->aG->Hm->Prop
 |mk {i:Nat}{x:Option D}{μ:Hm}(p:ν<+:μ)(g:μ[l]?=b0 (.lst ((((bF w h).take i).flatMap (gM (aL ms))).map c5))):TzI ms w h l ν i [b0 (SH w h ms),b0 (.loc l),x] μ
theorem F5{w h:Int}(hw:1<=w/\w<=6)(d:1<=h/\h<=6):(bF w h).length<=1000:=by have a:=rO (w:=w) (h:=h) (by lia) (by lia);have c:=WV cW (b6 w h);unfold bF;lia
theorem F6(k:Nat){w h:Int}(hw:1<=w/\w<=6)(p:1<=h/\h<=6){ms:List ((Int×Int)×Str)}(E:(bF w h).find? (cN (aL ms))=b3)(G:uB (nF (aL ms) w h))(o:Hm)(Q:jz)(H:∀l μ',o<+:μ'->o.length<=l->μ'[l]?=b0 (.lst ((nG (nF (aL ms) w h)).map c5))->Q (.loc l,μ')):W (f (k+7) "ties" [SH w h ms] o) Q:=by
 refine cJ (Rv (k+6) _ o) (o9 (aQ rfl (SM k hw p E _ _ λc r=>bE (w_mLst.mpr ⟨_,rfl,Xm _,eH (w_mForI.mpr (w_iSeq.mpr (aQ rfl (AL (k+4) hw p _ _ λa L s e=>(cT e).mpr ?_))))⟩))));have I:=r.trans (aP c (C.lst []));have hc:=F5 hw p;have m:a≠c.length\/bF w h=[]:=by
  by_cases z:a=c.length
  .right;have K:=aJ s (aZ c (C.lst []));rw[z,K]at e;injection e with e;injection e with e;exact a2J.mp e.symm
  .exact .inl z
 refine iL (xs:=(bF w h).map PP) (λi x μ'=>TzI ms w h c.length c i x μ'/\μ'[a]?=b0 (.lst ((bF w h).map PP))) ⟨.mk ((aP _ _).trans s) (aJ s (aZ _ _)),e⟩ (by rintro _ _ _ ⟨_,g⟩;exact g) ?_ ?_
 .rintro i d N v hd ⟨⟨n,j⟩,B⟩;obtain⟨z,q,rfl⟩:=nC hd;refine⟨_,rfl,w_mDrop.mpr (e8 ⟨_,rfl,fA j,bK (aQ rfl (SG k w h ms z _ _ λl M u A=>⟨_,rfl,?_⟩))⟩)⟩;have y:=aJ u j;have O:=rV (FY (aL ms)) ((bF w h).take i);have R:=FY (aL ms) z;have T:=List.length_take_le i (bF w h);have U:=List.length_take_le' i (bF w h);refine(uN y A (by rw[U8,U8,VC];lia)).mpr ⟨.mk (fV (n.trans u) (Vk _) _) ?_,?_⟩
  .rw[eS y,YW,q];simp
  .rcases m with m|m
   .rw[V3 (WM m)];exact aJ u B
   .rw[m]at q;cases q
 .rintro N v ⟨⟨n,j⟩,_⟩;rw[U8,Xk]at j;exact⟨rfl,cM (aQ rfl (bB (SK (ts:=nF (aL ms) w h) j G) (H _ _ ((r.trans n).trans (aP _ _)) (WD r.length_le n.length_le) (aZ _ _))))⟩
theorem F7{s t:MT}{b c:Bool}{ρ:aG}{a:Hm}(d:s ρ a=b0 (b,a))(e:t ρ a=b0 (c,a)):fG s t ρ a=b0 (b&&c,a):=bN (w_mAndT.mpr ⟨_,d,by
 cases b with
 |true=>exact(if_pos rfl).mpr ⟨_,e,rfl⟩
 |false=>exact(if_neg Vm).mpr rfl⟩)
theorem SN{d0:Option D}{a:Nat}{x y:Int}{L:jq}{c:Hm}(g:c[a]?=b0 (.lst (L.map PP)))(h:L.length<1000){R:Fl×aG×Hm->Prop}(H:R (.nx,[d0,b0 (.loc a),b0 (.int x),b0 (.int y)],c.set a (.lst ((L++[(x,y)].filter cW).map PP)))):W (Al [d0,b0 (.loc a),b0 (.int x),b0 (.int y)] c) R:=by
 refine w_mIfS.mpr ⟨_,F7 (b:=x%2==0) (c:=x%4==y%4) (by kernel_rfl) (by kernel_rfl),?_⟩;have e:(x%2==0&&x%4==y%4)=cW (x,y):=rfl;rw[e];cases d:cW (x,y)with
 |true=>rw[a1X d,a4a,VZ]at H;exact(if_pos rfl).mpr (w_mDrop.mpr (e8 ⟨_,rfl,fA g,bK ⟨_,rfl,_,rfl,(lR g (by rw[U8,VC];lia)).mpr H⟩⟩))|false=>rw[a1Y (by rw[d];exact Vm),a4a,WQ,rP g]at H;exact(if_neg Vm).mpr (w_mNext.mpr H)
inductive RoI (d0:Option D)(a:Nat)(F:Nat->jq)(x:Option D)(ν:Hm):Nat->aG->Hm->Prop
 |mk {i:Nat}{o:Option D}{μ:Hm}(e:μ=ν.set a (.lst ((F i).map PP))):RoI d0 a F x ν i [d0,b0 (.loc a),x,o] μ
inductive RuI (d0:Option D)(a:Nat)(F:Nat->jq)(ν:Hm):Nat->aG->Hm->Prop
 |mk {i:Nat}{o o':Option D}{μ:Hm}(e:μ=ν.set a (.lst ((F i).map PP))):RuI d0 a F ν i [d0,b0 (.loc a),o,o'] μ
theorem set_two'{ν:Hm}{a:Nat}{x y:C}:(ν.set a x).set a y=ν.set a y:=by simp
theorem F8(k:Nat){w h:Int}(hw:1<=w/\w<=6)(q:1<=h/\h<=6)(ms:List ((Int×Int)×Str))(a:Hm)(Q:jz)(H:Q (.loc a.length,a++[.lst ((bF w h).map PP)])):W (f (k+1) "_law_inner" [SH w h ms] a) Q:=by
 have fin:∀w∈[(1:Int),2,3,4,5,6],∀h∈[(1:Int),2,3,4,5,6],(jM 1 (4*w-1).toNat (4*h-1).toNat).filter cW=bF w h:=by decide +kernel
 have g:∀{z:Int},1<=z/\z<=6->z∈[(1:Int),2,3,4,5,6]:=λ{z} v=>by
  have:z=1\/z=2\/z=3\/z=4\/z=5\/z=6:=by lia
  simpa using this
 rw[<- fin w (g hw) h (g q)]at H;refine cJ (RV k _ a) (bE (w_mLst.mpr ⟨_,rfl,Xm _,eH (w_mForI.mpr (w_iRng2.mpr (bK ⟨_,rfl,bK (aT ⟨_,rfl,bX rfl rfl (w_it30.mpr (w_mul4.mpr ⟨_,rfl,⟨by lia,by lia,by lia⟩,?_⟩))⟩)⟩)))⟩));have sz:(4*h-1).toNat<=23/\(4*w-1).toNat<=23:=by lia
 generalize(4*w-1).toNat=n at H sz;generalize hm:(4*h-1).toNat=m at H sz;refine iM (RuI (b0 (SH w h ms)) a.length (λi=>(jM 1 i m).filter cW) (a++[C.lst []])) (.mk (rP (aZ _ _)).symm) ?_ ?_
 .rintro i e c s ⟨rfl⟩;refine⟨_,rfl,w_mForI.mpr (w_iRng2.mpr (bK ⟨_,rfl,bK (aT ⟨_,rfl,bX rfl rfl (w_it31.mpr (w_mul4.mpr ⟨_,rfl,⟨by lia,by lia,by lia⟩,?_⟩))⟩)⟩))⟩;rw[hm];refine iM (b:=Al) (RoI (b0 (SH w h ms)) a.length (λj=>(jM 1 i m).filter cW++(iT 1 (1+(i:Int)) j).filter cW) (b0 (.int (1+(i:Int)))) (a++[C.lst []])) (.mk (by show _=_;simp[iT])) ?_ ?_
  .rintro j e d u ⟨rfl⟩;have p:=eS (c':=C.lst (((jM 1 i m).filter cW++(iT 1 (1+(i:Int)) j).filter cW).map PP)) (aZ a (C.lst []));have l:=WV cW (jM 1 i m);have o:=WV cW (iT 1 (1+(i:Int)) j);rw[FP]at l;rw[FN]at o;have r:=a4w (show i<=23 by lia) (show m<=23 by lia);refine⟨_,rfl,SN p (by rw[Vh];lia) (.mk ?_)⟩;rw[set_two',Sk,Ye,Vz]
  .rintro e d ⟨rfl⟩;refine .mk ?_;rw[FL,Ye]
 .rintro e c ⟨rfl⟩;refine⟨rfl,cM ⟨_,rfl,?_⟩⟩;rw[Sm];exact H
theorem AM{c:Bool}{d:Hm}{a:Nat}{ps:jq}{q:Int×Int}{Q:jz}(h:d[a]?=b0 (.lst (ps.map PP))):W (c4 c (PP q) (.loc a) d) Q↔Q (.bl (if c then !(ps.any λp=>p==q)else ps.any λp=>p==q),d):=by
 have e:c4 c (PP q) (.loc a) d=b0 (.bl (if c then !(ps.any λp=>p==q)else ps.any λp=>p==q),d):=by
  simp only[c4,h];unfold mM;have e:bJ d (.loc a)=b0 (ps.map PP):=by simp only[bJ,h]
  rw[e];show(jZ d (PP q) (ps.map PP)).map _=_;rw[FK];rfl
 rw[e];exact W_some
noncomputable def nI:D->Int
 |.int i=>i|_=>0
theorem SO{z:Int×Int}(h:cW z=dI):z.1%4=0\/z.1%4=2:=by
 unfold cW at h;have:z.1%2=0:=by simpa using(X6.mp h).1
 lia
section
variable{μ:Hm}{a0 a3 a4 a5 a6 a7:Option D}{z:Int×Int}
theorem SQ(hz:cW z=dI){s:Nat}(g:μ[s]?=b0 (.lst (E8.map PP))){R:Fl×aG×Hm->Prop}(H:∀s μ',μ<+:μ'->μ'[s]?=b0 (.lst ((bW z.1).map PP))->R (.nx,[a0,b0 (PP z),b0 (.loc s),a3,a4,a5,a6,a7],μ')) :
  W (bA (aO (aC (aX b5) (aC aV (aC aE (aA 1) (mC (.int 0))) (mC (.int 4))) (mC (.int 2)))) (aM 2 (cX (oR (aB (mC (.int 1)) (aB (mC (.int 8)) (aB (mC (.int 2)) aD)))) cV (aC aE (aA 2) (aA 8)))) bC [a0,b0 (PP z),b0 (.loc s),a3,a4,a5,a6,a7] μ) R:=by
 refine w_mIfS.mpr ⟨(z.1%4==2,μ),by kernel_rfl,?_⟩;rcases SO hz with e|e
 .rw[e];refine(if_neg (show ¬ ((0:Int)==2)=dI by decide)).mpr (w_mNext.mpr (H s μ (Vo _) ?_));unfold bW;rw[if_pos e];exact g
 .rw[e];refine(if_pos rfl).mpr (w_mSet.mpr (eF (xs:=[.int 1,.int 3,.int 5,.int 7]) (p:=λ_=>dI) (v:=λd=>PP (E8.getD (nI d).toNat (0,0))) (QM ⟨_,rfl,1,8,2,rfl,by decide,λμ' i _=>?_,rfl,by decide,λd μ' hd a=>w_mTrue.mpr ⟨rfl,Vo _⟩,λd μ' hd _ a=>?_,λμ' a h=>H _ _ a ?_⟩)))
  .match i with
   |0=>rfl|1=>rfl|2=>rfl|3=>rfl|n+4=>rfl
  .have c:d=.int 1\/d=.int 3\/d=.int 5\/d=.int 7:=by simpa using hd
   rcases c with rfl|rfl|rfl|rfl<;>exact bX rfl rfl ((c6 (aJ a g) rfl).mpr ⟨rfl,Vo _⟩)
  .rw[h];unfold bW;rw[if_neg (by lia)];rfl
theorem SR{l:jq}(e:l.length<=63){s:Nat}(g:μ[s]?=b0 (.lst (l.map PP))){Q:jz}(H:∀b μ',μ<+:μ'->μ'[b]?=b0 (.lst ((mv z.1 z.2 l).map PP))->Q (.loc b,μ')) :
  W (dG (iH 2) (bV (aA 2)) cV (aU (aB (aC aW (aC aE (aA 1) (mC (.int 0))) (aA 8)) (aB (aC aW (aC aE (aA 1) (mC (.int 1))) (aA 9)) aD))) [a0,b0 (PP z),b0 (.loc s),a3,a4,a5,a6,a7] μ) Q:=by
 refine uP (xs:=l.map PP) (x:=λd=>[b0 (.int (cY d).1),b0 (.int (cY d).2)]) (p:=λ_=>dI) (v:=λd=>PP (z.1+(cY d).1,z.2+(cY d).2)) (w_iSeq.mpr ⟨_,rfl,(cT g).mpr ⟨fL g,rfl,by rw[U8,VC];lia,λd μ' hd=>?_,λd μ' hd a=>w_mTrue.mpr ⟨rfl,Vo _⟩,λd μ' hd _ a=>?_,λμ' a c=>H _ _ a ?_⟩⟩)
 .obtain⟨u,v,rfl⟩:=lT hd;rfl
 .obtain⟨u,v,rfl⟩:=lT hd;exact⟨(PP (z.1+u,z.2+v),μ'),by kernel_rfl,rfl,Vo _⟩
 .rw[c,Yb.mpr (λ_ _=>rfl),VM];unfold mv;rw[VM];rfl
theorem SS{es ps:jq}{a c:Nat}(o:es.length<=8)(g:μ[a]?=b0 (.lst (es.map PP)))(m:μ[c]?=b0 (.lst (ps.map PP))){Q:jz}(H:∀b μ',μ<+:μ'->μ'[b]?=b0 (.lst ((b9 (es.map λq=>ps.any λp=>p==q)).map D.int))->Q (.loc b,μ')) :
  W (cX (fI (aB (aF bM (aB (aA 4) aD)) aD)) (aO (aC (c4 b5) (aC aE (aA 4) (aA 8)) (aA 0))) (aA 8) [b0 (.loc c),b0 (PP z),a3,a5,b0 (.loc a),a6,a7,a0] μ) Q:=by
 have l:bM [.loc a] μ=b0 (.int (es.length:Nat),μ):=bN ((c7 g).mpr (by rw[U8]));refine eF (xs:=gJ 0 es.length) (p:=λd=>(es.map λq=>ps.any λp=>p==q).getD (nI d).toNat b5) (v:=λd=>d) ((kK (j:=0)).mpr (bK (aQ rfl (bB l ⟨_,rfl,⟨by lia,by lia⟩,?_⟩))));dsimp only;rw[WR];refine⟨EZ,by unfold gJ;rw[U8,WY],by unfold gJ;rw[U8,WY,VC];lia,λd μ' hd e=>?_,λd μ' hd _ e=>⟨_,rfl,rfl,Vo _⟩,λμ' e n=>H _ _ e ?_⟩
 .obtain⟨i,h,rfl⟩:=VQ.mp hd;have h:=Wi.mp h;rw[Y2];refine dO (aT (bX rfl rfl ⟨_,fD (aJ e g) h,_,rfl,(AM (aJ e m)).mpr ⟨_,rfl,?_,Vo _⟩⟩));show _=(es.map λq=>ps.any λp=>p==q).getD ((i:Int)).toNat b5;rw[WR];simp[Wt,h]
 .rw[n];unfold gJ b9;rw[Zf,VM,VM,U8];have j:((λd:D=>d)∘λ(i:Nat)=>D.int (0+(i:Int)))=D.int∘λ(i:Nat)=>(i:Int):=by funext i;simp
  have k:((λd:D=>(es.map λq=>ps.any λp=>p==q).getD (nI d).toNat b5)∘λ(i:Nat)=>D.int (0+(i:Int)))=λ(i:Nat)=>(es.map λq=>ps.any λp=>p==q).getD i false:=by funext i;simp[nI]
  rw[j,k]
end
noncomputable def gN(bs:List Bool):List Int:=(VS (b9 bs).length).map λk=>((((b9 bs).getD ((k+1)%(b9 bs).length) 0-(b9 bs).getD k 0-1)%(bs.length:Int))+1)*(8/(bs.length:Int))
theorem SU:∀a b c d e g h i:Bool,gN [a,b,c,d,e,g,h,i]=fM [a,b,c,d,e,g,h,i]:=by decide +kernel
theorem SV:∀a b c d:Bool,gN [a,b,c,d]=fM [a,b,c,d]:=by decide +kernel
theorem SW(m:Int×Int->Bool)(x y:Int):gN ((mv x y (bW x)).map m)=fM ((mv x y (bW x)).map m):=by
 unfold bW mv;split
 .exact SU ..
 .exact SV ..
theorem SX{es:jq}(m:Int×Int->Bool):(b9 (es.map m)).map (λi=>es.getD i.toNat (0,0))=es.filter m:=by
 unfold b9;rw[VM,U8];induction es with
 |nil=>rfl|cons e es c=>
  rw[VD,ZX,a0T,Zf];have d:((λi=>((e::es).map m).getD i b5)∘Nat.succ)=λi=>(es.map m).getD i false:=by funext i;simp
  rw[d];cases a:m e with
  |true=>simp only[VP,a2L,a,if_true,a1X];rw[VM,<- c];rfl|false=>simp only[VP,a2L,a,Vu,if_false];rw[a1Y (by rw[a];exact Vm),VM,<- c];rfl
theorem rW{c:Hm}{a:Nat}{gs:List Int}(g:c[a]?=b0 (.lst (gs.map D.int))){i:Nat}(h:i<gs.length):aE (.loc a) (.int (i:Int)) c=b0 (.int (gs.getD i 0),c):=bN ((c6 g (rR (rS h))).mpr rfl)
theorem SY{e:Hm}{a b c:Nat}{n:Nat}(r:n=8\/n=4){es:List D}(p:es.length=n){d gs:List Int}{k:Nat}(q:k<d.length)(o:e[a]?=b0 (.lst es))(g:e[b]?=b0 (.lst (d.map D.int)))(j:e[c]?=b0 (.lst (gs.map D.int)))(w:gs.length<=100){d0 d1 d2 x:Option D}{R:Fl×aG×Hm->Prop}
  (H:∀x,R (.nx,[d0,d1,d2,b0 (.int (k:Int)),b0 (.loc a),b0 (.loc b),b0 (.loc c),x],e.set c (.lst ((gs++[(((d.getD ((k+1)%d.length) 0-d.getD k 0-1)%(n:Int))+1)*(8/(n:Int))]).map D.int)))) :
  W (Am [d0,d1,d2,b0 (.int (k:Int)),b0 (.loc a),b0 (.loc b),b0 (.loc c),x] e) R:=by
 have s:(k+1)%d.length<d.length:=Z2 _ (by lia);have m:bM [.loc b] e=b0 (.int (d.length:Nat),e):=bN ((c7 g).mpr (by rw[U8]));have i:bM [.loc a] e=b0 (.int (n:Nat),e):=bN ((c7 o).mpr (by rw[p]));have l:aE (.loc b) (.int (((k:Int)+1)%(d.length:Nat))) e=b0 (.int (d.getD ((k+1)%d.length) 0),e):=by rw[uX];exact rW g s
 have h:(0:Int)<(n:Int):=by lia
 refine bE (aT (aT (aT (aT (aT ⟨_,rfl,aT (bX rfl rfl (w_addI.mpr (aQ rfl (bB m ((dM (by lia)).mpr ⟨_,l,bX rfl rfl ⟨_,rW g q,w_subI.mpr ⟨_,rfl,w_subI.mpr (aQ rfl (bB i ((dM h).mpr ⟨_,rfl,w_addI.mpr ?_⟩)))⟩⟩⟩)))))⟩)))));have u:=YM (d.getD ((k+1)%d.length) 0-d.getD k 0-1) (show(n:Int)≠0 by lia);have v:=Yh (d.getD ((k+1)%d.length) 0-d.getD k 0-1) h;rw[VZ]at H;refine w_mDrop.mpr (e8 ⟨_,rfl,fA j,bK (aT ⟨_,rfl,aT ⟨_,rfl,aQ rfl (bB i ((rH h ?_).mpr ((lQ (.inl (by lia))).mpr ⟨_,rfl,(lR j (by rw[U8,VC];lia)).mpr (H _)⟩)))⟩⟩)⟩);rcases r with rfl|rfl<;>decide
inductive RaI (d0 d1 d2:Option D)(a b c:Nat)(ν:Hm)(F:Nat->List Int):Nat->aG->Hm->Prop
 |mk {i:Nat}{x y:Option D}{μ:Hm}(p:ν<+:μ)(g:μ[c]?=b0 (.lst ((F i).map D.int))):RaI d0 d1 d2 a b c ν F i [d0,d1,d2,x,b0 (.loc a),b0 (.loc b),b0 (.loc c),y] μ
theorem AN(k:Nat){ms:List ((Int×Int)×Str)}{c:Nat}{z:Int×Int}(hz:cW z=dI){m:Hm}(R:m[c]?=b0 (.lst ((ms.map (·.1)).map PP)))(Q:jz)(H:∀a b μ',m<+:μ'->μ'[a]?=b0 (.lst ((bL (aL ms) z).map PP))->μ'[b]?=b0 (.lst ((a9 (aL ms) z).map D.int))->Q (.tup [.loc a,.loc b],μ')):W (f (k+1) "_law_round_a" [.loc c,PP z] m) Q:=by
 have u:(mv z.1 z.2 (bW z.1)).length=8\/(mv z.1 z.2 (bW z.1)).length=4:=by have:=uW z.1;unfold mv;rw[U8];exact this
 refine cJ (RU k _ _ m) ?_;refine bE (bB (r:=(.loc m.length,m++[.lst (E8.map PP)])) (by kernel_rfl) ?_);refine eH ?_;refine SQ (s:=m.length) hz (aZ _ _) λs μ1 Y O=>⟨rfl,?_⟩;refine bE ?_;refine SR (by have:=uW z.1;lia) O λa μ2 Z B=>?_;refine bE ?_;have I:=(aP m (C.lst (E8.map PP))).trans (Y.trans Z);refine SS (by lia) B (aJ I R) λb g G o=>?_;refine bE (bB (r:=(.loc g.length,g++[C.lst []])) rfl ?_);refine eH (w_mForI.mpr ?_);replace o:g[b]?=b0 (.lst ((b9 ((mv z.1 z.2 (bW z.1)).map (aL ms))).map D.int)):=o;have n:=aJ G B;generalize hbs:(mv z.1 z.2 (bW z.1)).map (aL ms)=bs at o;have E:bs.length=(mv z.1 z.2 (bW z.1)).length:=by rw[<- hbs,U8]
 have A:gN bs=a9 (aL ms) z:=by rw[<- hbs];exact SW _ _ _
 have hx:(b9 bs).length<=8:=by
  have h1:=lX (aL ms) z;have h2:=lY (aL ms) z;have T:(gN bs).length=(b9 bs).length:=by unfold gN;rw[U8,WY]
  rw[A]at T;lia
 have gB:=aJ (aP g (C.lst [])) o;have gA:=aJ (aP g (C.lst [])) n;have M:bM [.loc b] (g++[C.lst []])=b0 (.int ((b9 bs).length:Nat),g++[C.lst []]):=bN ((c7 gB).mpr (by rw[U8]));refine(kK (j:=0)).mpr (bK (aQ rfl (bB M ⟨_,rfl,⟨by lia,by lia⟩,?_⟩)));dsimp only;rw[WR];refine iM (b:=Am) (RaI (b0 (.loc c)) (b0 (PP z)) (b0 (.loc s)) a b g.length g (λi=>(gN bs).take i)) (.mk (aP _ _) (by rw[X0];exact aZ _ _)) ?_ ?_
 .rintro i y w q ⟨h,p⟩;refine⟨_,rfl,?_⟩;rw[Y2];have K:(gN bs).take (i+1)=(gN bs).take i++[(((b9 bs).getD ((i+1)%(b9 bs).length) 0-(b9 bs).getD i 0-1)%(((mv z.1 z.2 (bW z.1)).length:Nat):Int)+1)*(8/(((mv z.1 z.2 (bW z.1)).length:Nat):Int))]:=by rw[YW,<- E];unfold gN;rw[Vx,a0p q];rfl
  refine SY (es:=(mv z.1 z.2 (bW z.1)).map PP) u (by rw[U8]) q (aJ h n) (aJ h o) p (by rw[VG];unfold gN;rw[U8,WY];lia) λx=>.mk (fV h (Vk _) _) ?_;rw[eS p,K]
 .rintro y w ⟨h,p⟩;have L:(gN bs).take (b9 bs).length=a9 (aL ms) z:=by rw[<- A];exact W5 (by unfold gN;rw[U8,WY];exact Vk _)
  rw[L]at p;refine⟨rfl,cM (w_mTup.mpr (bK (eF (xs:=(b9 bs).map D.int) (p:=λ_=>dI) (v:=λd=>PP ((mv z.1 z.2 (bW z.1)).getD (nI d).toNat (0,0))) (w_iSeq.mpr ⟨_,rfl,(cT (aJ h o)).mpr ⟨fL (aJ h o),rfl,by rw[U8,VC];lia,λd μ' hd r=>w_mTrue.mpr ⟨rfl,Vo _⟩,λd μ' hd _ r=>?_,λμ' r U=>⟨_,rfl,kL,H _ _ _ (I.trans (G.trans (h.trans r))) ?_ (aJ r p)⟩⟩⟩))))⟩
  .obtain⟨i,q,rfl⟩:=VQ.mp hd;have v:0<=i/\i.toNat<(mv z.1 z.2 (bW z.1)).length:=by unfold b9 at q;obtain⟨j,X,rfl⟩:=VQ.mp q;have:=Wi.mp (Wy.mp X).1;rw[E]at this;exact⟨by lia,by lia⟩
   have N:i=((i.toNat:Nat):Int):=by lia
   refine bX rfl rfl ⟨(PP ((mv z.1 z.2 (bW z.1)).getD i.toNat (0,0)),μ'),?_,rfl,Vo _⟩;show aE (.loc a) (.int i) μ'=b0 (PP ((mv z.1 z.2 (bW z.1)).getD i.toNat (0,0)),μ');rw[N];exact fD (aJ (h.trans r) n) v.2
  .rw[U,Yb.mpr (λ_ _=>rfl),VM];have e:=congrArg (a4e PP) (SX (es:=mv z.1 z.2 (bW z.1)) (aL ms));rw[hbs,VM]at e;exact congrArg (λl=>b0 (C.lst l)) e
noncomputable def Kp(l:Nat)(a μ':Hm):Prop:=∀j y,j≠l->a[j]?=b0 y->μ'[j]?=b0 y
theorem Kp.pre{l:Nat}{a μ':Hm}(p:a<+:μ'):Kp l a μ':=λ_ _ _ h=>aJ p h
theorem Kp.trans{l:Nat}{d μ' c:Hm}(a:Kp l d μ')(b:Kp l μ' c):Kp l d c:=λj y n h=>b j y n (a j y n h)
theorem Kp.set{l:Nat}{a:Hm}{x:C}:Kp l a (a.set l x):=λj y n h=>by rw[V3 (WM n)];exact h
theorem Kp.all{l:Nat}{ν c μ':Hm}(a:Kp l c μ')(p:ν<+:c)(h:ν.length<=l):ν<+:μ':=by refine List.prefix_iff_getElem?.mpr λi d=>?_;exact a i _ (by lia) (aJ p (Vb d))
theorem F9{ρ:aG}{v j:Nat}{w h:Int}{ms:List ((Int×Int)×Str)}{g:Hm}(l:aA j ρ g=b0 (SH w h ms,g))(o:∀e s μ',aA v (ρ++[b0 (PP e),b0 (.str s)]) μ'=b0 (PP e,μ'))(p:ms.length<=1000){Q:jz}(H:∀c μ',g<+:μ'->μ'[c]?=b0 (.lst ((ms.map (·.1)).map PP))->g.length<=c->Q (.loc c,μ')):W (dG (iH 2) (bV (aC aE (aA j) (mC (.int 2)))) cV (aA v) ρ g) Q:=by
 refine uP (xs:=ms.map MD) (x:=λd=>match d with|.tup [a,b]=>[b0 a,b0 b]|_=>[]) (p:=λ_=>dI) (v:=λd=>match d with|.tup [a,_]=>a|_=>.non) (w_iSeq.mpr (bX l rfl (w_it32.mpr ⟨_,rfl,λμ' i k=>rfl,rfl,by rw[U8,VC];lia,λd μ' hd=>?_,λd μ' hd k=>w_mTrue.mpr ⟨rfl,Vo _⟩,λd μ' hd _ k=>?_,λμ' k n=>H _ _ k ?_ (Vk _)⟩)))
 .obtain⟨e,m,rfl⟩:=VQ.mp hd;rfl
 .obtain⟨e,m,rfl⟩:=VQ.mp hd;exact⟨_,o e.1 e.2 μ',rfl,Vo _⟩
 .rw[n,Yb.mpr (λ_ _=>rfl),VM,VM];rfl
inductive LtI (w h:Int)(ms:List ((Int×Int)×Str))(c l:Nat)(ν:Hm):Nat->aG->Hm->Prop
 |mk {i:Nat}{x3 x4 x5 x6 x7:Option D}{μ:Hm}(kp:Kp l ν μ)(g:μ[l]?=b0 (.lst ((((bF w h).take i).flatMap (gM (aL ms))).map c5))):LtI w h ms c l ν i [b0 (SH w h ms),b0 (.loc c),b0 (.loc l),x3,x4,x5,x6,x7] μ
noncomputable def uY:D->Int
 |.tup [.int i,.int g]=>g*(1-2*(i%2))|_=>0
noncomputable def AO(gs:List Int):Int:=((iA 0 (gs.map D.int)).map uY).sum
noncomputable def uZ(gs:List Int):Bool:=(gs.length:Int)%2==1||!(AO gs==0)
theorem S0:∀a b c d e g h i:Bool,uZ (fM [a,b,c,d,e,g,h,i])=!(dC (fM [a,b,c,d,e,g,h,i])):=by decide +kernel
theorem S1:∀a b c d:Bool,uZ (fM [a,b,c,d])=!(dC (fM [a,b,c,d])):=by decide +kernel
theorem S2(m:Int×Int->Bool)(p:Int×Int):uZ (a9 m p)=cN m p:=by
 unfold cN a9 bW mv;split
 .exact S0 ..
 .exact S1 ..
noncomputable def S3:D->aG
 |.tup [a,b]=>[b0 a,b0 b]|_=>[]
theorem S4{ρ:aG}{a:Nat}{gs:List Int}{j:Hm}(n:aA 3 ρ j=b0 (.loc a,j))(l:∃x y z t,ρ=[x,y,z,t])(g:j[a]?=b0 (.lst (gs.map D.int)))(r:gs.length<=8)(o:∀x∈gs,-100<=x/\x<=100){Q:jz}(H:∀μ',j<+:μ'->Q (.int (AO gs),μ')) :
  W (aF kH (aB (dG (iH 2) (mS (aB (aA 3) aD)) cV (aC b8 (aA 5) (aC cL (mC (.int 1)) (aC b8 (mC (.int 2)) (aC aV (aA 4) (mC (.int 2))))))) aD) ρ j) Q:=by
 obtain⟨x,y,z,t,rfl⟩:=l;refine Fz (uP (xs:=iA 0 (gs.map D.int)) (x:=S3) (p:=λ_=>dI) (v:=λd=>.int (uY d)) (Fb (bK ⟨_,n,_,rfl,a,_,rfl,g,Ah g,by rw[Ag],by rw[Ag,U8,VC];lia,λd μ' hd=>?_,λd μ' hd k=>w_mTrue.mpr ⟨rfl,Vo _⟩,λd μ' hd _ k=>?_,λμ' k c=>?_⟩)))
 .obtain⟨i,h⟩:=XJ hd;rw[o8]at h;obtain⟨e,_,rfl⟩:=Vd.mp h;rfl
 .obtain⟨i,h⟩:=XJ hd;rw[o8]at h;obtain⟨e,m,rfl⟩:=Vd.mp h;rw[Vx]at m;obtain⟨v,p,rfl⟩:=Vd.mp m;have q:=o v (VR p);exact aT ⟨_,rfl,aT ⟨_,rfl,aT ⟨_,rfl,bX rfl rfl (w_mod2.mpr (w_mul2.mpr (w_subI.mpr ((lQ (.inl (by lia))).mpr ⟨rfl,Vo _⟩))))⟩⟩⟩
 .rw[Yb.mpr (λ_ _=>rfl)]at c;have e:(iA 0 (gs.map D.int)).map (λd=>D.int (uY d))=((iA 0 (gs.map D.int)).map uY).map D.int:=by rw[VM];rfl
  rw[e]at c;exact(Af c).mpr (H _ k)
theorem S5:∀a b c d e g h i:Bool,∀x∈fM [a,b,c,d,e,g,h,i],-100<=x/\x<=100:=by decide +kernel
theorem S6:∀a b c d:Bool,∀x∈fM [a,b,c,d],-100<=x/\x<=100:=by decide +kernel
theorem S7(m:Int×Int->Bool)(p:Int×Int):∀x∈a9 m p,-100<=x/\x<=100:=by
 unfold a9 bW mv;split
 .exact S5 _ _ _ _ _ _ _ _
 .exact S6 _ _ _ _
theorem S8(k:Nat){g:Hm}{c:Nat}{ms:List ((Int×Int)×Str)}{p:Int×Int}(hz:cW p=dI)(r:g[c]?=b0 (.lst ((ms.map (·.1)).map PP))){d0 x:Option D}{R:Fl×aG×Hm->Prop}(i:cN (aL ms) p=dI->∀x μ',g<+:μ'->R (.rt (PP p),[d0,b0 (.loc c),b0 (PP p),x],μ'))(o:cN (aL ms) p=b5->∀x μ',g<+:μ'->R (.nx,[d0,b0 (.loc c),b0 (PP p),x],μ')):W (An (k+1) [d0,b0 (.loc c),b0 (PP p),x] g) R:=by
 refine bE (aT (aQ rfl (AN k hz r _ λa b e h _ j=>⟨_,rfl,w_it21.mpr ?_⟩)));have v:=lX (aL ms) p;have u:=lY (aL ms) p;have q:bM [.loc b] e=b0 (.int ((a9 (aL ms) p).length:Nat),e):=bN ((c7 j).mpr (by rw[U8]));have d:=S2 (aL ms) p;unfold uZ at d;refine w_mIfS.mpr (w_mOrT.mpr ⟨_,bN (r:=(((a9 (aL ms) p).length:Int)%2==1,e)) (dO (aT (aT (aQ rfl (bB q ⟨_,rfl,w_mod2.mpr ⟨_,rfl,w_eqI.mpr ⟨_,rfl,rfl⟩⟩⟩))))),?_⟩);cases l:((a9 (aL ms) p).length:Int)%2==1 with
 |true=>rw[l,Bool.true_or]at d;exact(if_pos rfl).mpr ((if_pos rfl).mpr (w_mRet.mpr ⟨_,rfl,i d.symm _ _ h⟩))|false=>
  rw[l,a0v]at d;refine(if_neg Vm).mpr (dO (aT (S4 rfl ⟨_,_,_,_,rfl⟩ j (by lia) (S7 _ _) λs n=>⟨_,rfl,w_neI.mpr ⟨_,rfl,?_⟩⟩)));cases m:AO (a9 (aL ms) p)==0 with
  |true=>rw[m]at d;exact(if_neg Vm).mpr (w_mNext.mpr (o d.symm _ _ (h.trans n)))|false=>rw[m]at d;exact(if_pos rfl).mpr (w_mRet.mpr ⟨_,rfl,i d.symm _ _ (h.trans n)⟩)
inductive LbI (w h:Int)(ms:List ((Int×Int)×Str))(c:Nat)(ν:Hm):Nat->aG->Hm->Prop
 |mk {i:Nat}{x y:Option D}{μ:Hm}(p:ν<+:μ)(ok:∀z∈(bF w h).take i,cN (aL ms) z=b5):LbI w h ms c ν i [b0 (SH w h ms),b0 (.loc c),x,y] μ
theorem Ga(k:Nat){w h:Int}(hw:1<=w/\w<=6)(A:1<=h/\h<=6){ms:List ((Int×Int)×Str)}(B:ms.length<=1000)(o:Hm)(Q:jz)(H:∀μ',o<+:μ'->Q (F1 ((bF w h).find? (cN (aL ms))),μ')):W (f (k+2) "_law_barred" [SH w h ms] o) Q:=by
 refine cJ (RW (k+1) _ o) ?_;refine bE (F9 rfl (λ_ _ _=>rfl) B λc a G v hc=>?_);refine w_mSeq.mpr (w_mForI.mpr (w_iSeq.mpr (aQ rfl (F8 k hw A ms _ _ ((cT (aZ _ _)).mpr ?_)))));have s:=aJ (aP a (C.lst ((bF w h).map PP))) v;have u:=aZ a (C.lst ((bF w h).map PP));have n:=G.trans (aP a (C.lst ((bF w h).map PP)));generalize a++[C.lst ((bF w h).map PP)]=μ2 at s u n ⊢;refine iL (b:=An (k+1)) (LbI w h ms c μ2) (.mk (Vo _) λz g=>by simp at g) (by rintro _ _ _ ⟨p,_⟩;exact aJ p u) ?_ ?_
 .rintro i d I q hd ⟨j,ok⟩;obtain⟨z,g,rfl⟩:=nC hd;refine⟨_,rfl,S8 k (Wy.mp (VR g)).2 (aJ j s) (λl x r m=>?_) λl x r m=>.mk (j.trans m) (F2 ok g l)⟩;have e:=FZ (q:=cN (aL ms)) (F0 g) ok l;rw[e]at H;exact H _ (n.trans (j.trans m))
 .rintro I q ⟨j,ok⟩;rw[U8,Xk]at ok;have e:(bF w h).find? (cN (aL ms))=none:=XF.mpr λy E=>by rw[ok y E];exact Vm
  rw[e]at H;exact cM ⟨_,rfl,H _ (n.trans j)⟩
noncomputable def cF(ns:List Int)(i:Int):Int:=if i<ns.length then ns.getD i.toNat 0 else 0
theorem nH(k:Nat)(ns:List Int){i:Int}(c:0<=i)(a:Hm)(Q:jz)(H:Q (.int (cF ns i),a)):W (f (k+1) "_law_nth" [.rol (ns.map D.int),.int i] a) Q:=by
 refine cJ (RK k _ _ a) (cM (w_mIfE.mpr ⟨_,bN (r:=(decide (i<ns.length),a)) (dO (aT ⟨_,rfl,aQ rfl (w_lenR.mpr (w_ltI.mpr ⟨_,rfl,by rw[U8]⟩))⟩)),?_⟩));unfold cF at H;by_cases h:i<ns.length
 .rw[if_pos h]at H;rw[decide_eq_true h];exact(if_pos rfl).mpr (bX rfl rfl ((Se (Sb c h)).mpr H))
 .rw[if_neg h]at H;rw[decide_eq_false h];exact(if_neg Vm).mpr ⟨_,rfl,H⟩
theorem Gb:∀(l:jq)(i:Nat),(l.map PP).eraseIdx i=(l.eraseIdx i).map PP
 |[],_=>rfl|_::_,0=>rfl|x::l,i+1=>by show PP x::(l.map PP).eraseIdx i=PP x::(l.eraseIdx i).map PP;rw[Gb l i]
theorem S9{i:Hm}{a:Nat}{ps:jq}{q:Int×Int}{Q:jz}(g:i[a]?=b0 (.lst (ps.map PP)))(j:q∈ps)(k:ps.length<=1000)(H:∀h:jq,h.Sublist ps->h.length<ps.length->Q (.non,i.set a (.lst (h.map PP)))):W (oY (.loc a) [PP q] i) Q:=by
 have c:(ps.map λp=>p==q).findIdx id<(ps.map λp=>p==q).length:=List.findIdx_lt_length_of_exists ⟨dI,VQ.mpr ⟨q,j,beq_self_eq_true q⟩,rfl⟩;have d:(ps.map λp=>p==q).findIdx id<ps.length:=by rw[U8]at c;exact c
 refine⟨_,by simp only[oY,g,AF,VT];rw[if_pos ⟨c,by rw[U8,VC];lia⟩],?_⟩;have e:(ps.map PP).eraseIdx ((ps.map λp=>p==q).findIdx id)=(ps.eraseIdx ((ps.map λp=>p==q).findIdx id)).map PP:=Gb _ _;rw[e];exact H _ (List.eraseIdx_sublist ..) (by rw[List.length_eraseIdx_of_lt d];lia)
noncomputable def Ta(w h:Int)(p:Int×Int):Bool:=decide (0<p.1)&&decide (p.1<4*w)&&decide (0<p.2)&&decide (p.2<4*h)&&(p.1%2==1&&p.2%2==1||p.1%2==0&&(p.2%2==0&&!(p.1%4==p.2%4)))
noncomputable def sqA:jq:=[(6,4),(8,6),(6,8),(4,6),(3,3),(1,1),(3,5),(1,7),(7,3),(5,1),(9,3),(11,1)]
noncomputable def sqB:jq:=[(9,7),(11,5),(9,9),(11,11),(5,9),(7,11),(3,9),(1,11)]
theorem Tc(k:Nat)(a:Hm)(Q:jz)(H:∀l μ',a<+:μ'->a.length<=l->μ'[l]?=b0 (.lst ((sqA++sqB).map PP))->Q (.loc l,μ')):W (f (k+1) "_law_square" [] a) Q:=by refine cJ (RQ k a) (bE (bB (r:=(.loc a.length,a++[.lst (sqA.map PP)])) (by kernel_rfl) (cM (aT ⟨_,rfl,bB (r:=(.loc (a++[C.lst (sqA.map PP)]).length,(a++[.lst (sqA.map PP)])++[.lst (sqB.map PP)])) (by kernel_rfl) ((iN (aJ (aP _ _) (aZ _ _)) (aZ _ _) (by decide)).mpr ?_)⟩))));refine H _ _ ((aP _ _).trans ((aP _ _).trans (aP _ _))) (by rw[Vh,Vh];lia) ?_;rw[VZ];exact aZ _ _
theorem sq_ok:(sqA++sqB).Nodup/\∀p∈sqA++sqB,Ta 3 3 p=true:=by decide
structure Ly where
 a:Int
 b:Int
 c:Int
 d:Int
 e:Int
 g:Int
 deriving DecidableEq
noncomputable abbrev LD(A:Ly):D:=.tup [.int A.a,.int A.b,.int A.c,.int A.d,.int A.e,.int A.g]
noncomputable def Dih(A:Ly):Prop:=(A.b=0/\A.c=0/\(A.a=1\/A.a=-1)/\(A.d=1\/A.d=-1))\/(A.a=0/\A.d=0/\(A.b=1\/A.b=-1)/\(A.c=1\/A.c=-1))
theorem Dih.sm{A:Ly}(h:Dih A):(-1<=A.a/\A.a<=1)/\(-1<=A.b/\A.b<=1)/\(-1<=A.c/\A.c<=1)/\(-1<=A.d/\A.d<=1):=by unfold Dih at h;lia
noncomputable def cR(A:Ly)(p:Int×Int):Int×Int:=(A.a*p.1+A.b*p.2+A.e,A.c*p.1+A.d*p.2+A.g)
noncomputable def pG(A B:Ly):Ly:=⟨B.a*A.a+B.b*A.c,B.a*A.b+B.b*A.d,B.c*A.a+B.d*A.c,B.c*A.b+B.d*A.d,B.a*A.e+B.b*A.g+B.e,B.c*A.e+B.d*A.g+B.g⟩
noncomputable def AQ:Ly:=⟨1,0,0,1,0,0⟩
noncomputable def rX(e:Int×Int):Ly:=
 ⟨(gK (1,0) e).1-(gK (0,0) e).1,(gK (0,1) e).1-(gK (0,0) e).1,(gK (1,0) e).2-(gK (0,0) e).2,(gK (0,1) e).2-(gK (0,0) e).2,(gK (0,0) e).1,(gK (0,0) e).2⟩
theorem Ly.ext'{A B:Ly}(h1:A.a=B.a)(a:A.b=B.b)(c:A.c=B.c)(d:A.d=B.d)(e:A.e=B.e)(g:A.g=B.g):A=B:=by cases A;cases B;simp_all
theorem Gd(e:Int×Int):Dih (rX e):=by obtain⟨x,y⟩:=e;unfold Dih rX gK;dsimp only;split<;>split<;>dsimp only<;>lia
theorem Td:Dih AQ:=.inl ⟨rfl,rfl,.inl rfl,.inl rfl⟩
theorem lZ{x y:Int}(a:x=1\/x=-1)(c:y=1\/y=-1):x*y=1\/x*y=-1:=by rcases a with rfl|rfl<;>rcases c with rfl|rfl<;>decide
theorem Te{A B:Ly}(hA:Dih A)(hB:Dih B):Dih (pG A B):=by
 unfold Dih pG;dsimp only;rcases hA with⟨d,e,a,c⟩|⟨d,e,a,c⟩<;>rcases hB with⟨k1,k2,k3,k4⟩|⟨k1,k2,k3,k4⟩<;>rw[d,e,k1,k2]<;>simp only[Int.mul_zero,Int.zero_mul,Int.add_zero,Y2,true_and]
 .exact .inl ⟨lZ k3 a,lZ k4 c⟩
 .exact .inr ⟨lZ k3 c,lZ k4 a⟩
 .exact .inr ⟨lZ k3 a,lZ k4 c⟩
 .exact .inl ⟨lZ k3 c,lZ k4 a⟩
theorem Tf{a b c d e g:D}:([a,b,c,d,e,g]:List D).length<=Vp:=by show(6:Nat)<=Vp;decide
theorem Ge(k:Nat)(p q r:Int×Int)(a:Hm)(Q:jz):W (f (k+1) "laying_by" [PP p,PP q,PP r] a) Q↔Q (LD ⟨q.1-p.1,r.1-p.1,q.2-p.2,r.2-p.2,p.1,p.2⟩,a):=by rw[RG,W_fin];simp only[w_mRet,w_mTup,w_mCons,bR,w_mOp,aY,bG,bS,w_it20,w_it21,w_subI,Tf,true_and]
theorem Tg(k:Nat)(x y:Int)(a:Hm)(Q:jz):W (f (k+3) "mirror_in" [P x y] a) Q↔Q (LD (rX (x,y)),a):=by rw[RH,W_fin];simp only[w_mRet,w_mCall,w_mCons,bR,w_mTup,aY,bS,kL,true_and,Sa,Ge];rfl
theorem u4{i j:Int}(h:-1<=i/\i<=1){a:Hm}{Q:jz}:W (b8 (.int i) (.int j) a) Q↔Q (.int (i*j),a):=lQ (.inl ⟨by lia,by lia⟩)
theorem u6(k:Nat)(A:Ly)(hA:Dih A)(x y:Int)(a:Hm)(Q:jz):W (f (k+1) "led" [LD A,P x y] a) Q↔Q (PP (cR A (x,y)),a):=by obtain⟨c,d,e,g⟩:=hA.sm;rw[RI,W_fin];simp only[w_mSeq,w_mSet,w_mRet,w_mTup,w_mCons,bR,w_mOp,aY,bG,bS,w_it20,w_it21,Qq,Qr,Qs,Qt,Qu,Qv,V2,Wb,u4 c,u4 d,u4 e,u4 g,w_addI,kL,true_and];rfl
theorem Th(k:Nat)(A B:Ly)(hA:Dih A)(hB:Dih B)(a:Hm)(Q:jz):W (f (k+2) "then" [LD A,LD B] a) Q↔Q (LD (pG A B),a):=by
 rw[RJ,W_fin];simp only[w_mRet,w_mCall,w_mCons,bR,w_mTup,aY,bG,bS,kL,true_and,u6 _ A hA,u6 _ B hB,Ge];have e:(⟨(cR B (cR A (1,0))).1-(cR B (cR A (0,0))).1,(cR B (cR A (0,1))).1-(cR B (cR A (0,0))).1,(cR B (cR A (1,0))).2-(cR B (cR A (0,0))).2,(cR B (cR A (0,1))).2-(cR B (cR A (0,0))).2,(cR B (cR A (0,0))).1,(cR B (cR A (0,0))).2⟩:Ly)=pG A B:=by unfold cR pG;refine Ly.ext' ?_ ?_ ?_ ?_ ?_ ?_<;>dsimp only<;>grind
 rw[<- e]
noncomputable def u7(n:Int):Int:=if 0<n then 1 else if n<0 then -1 else 0
theorem Tj(k:Nat)(x y a b:Int)(d:Hm)(Q:jz):W (f (k+2) "hand_of" [P x y,P a b] d) Q↔Q (.int (u7 (iP a b x y-iP a b a b)),d):=by
 rw[Q3,W_fin];simp only[w_mSeq,w_mRet,w_mNext,w_mIfS,w_mIfE,w_mSet,w_mCall,w_mCons,bR,w_mOp,bS,aY,bG,w_mTest,Ql,w_subI,w_gtI,w_ltI,FA,FC,V2,Wb];generalize iP a b x y-iP a b a b=n;unfold u7;by_cases c:0<n
 .simp[c]
 .by_cases e:n<0<;>simp[c,e]
theorem Tn{l:jx}(a:(l.map (·.1)).Nodup){k:List Int}{d:D}(h:(k,d)∈l):bT l k=b0 d:=by
 induction l with
 |nil=>cases h|cons p l c=>
  rw[VP,WG]at a;unfold bT;rw[Ze];rcases Wf.mp h with h|h
  .rw[<- h];simp
  .have:decide (p.1=k)=false:=decide_eq_false λz=>a.1 (VQ.mpr ⟨_,h,z.symm⟩);rw[this];exact c a.2 h
theorem AR{p q:Int×Int}(h:dP p=dP q):p=q:=by unfold dP at h;injection h with h1 h2;injection h2 with h2;exact a0c h1 h2
theorem pH{a:Type}{l:List a}{n:Nat}{x:a}(h:l[n]?=b0 x):l.take (n+1)=l.take n++[x]:=by rw[a3x,h];rfl
theorem AS{d:Type}{l:List d}(k:l.Nodup){n:Nat}{x:d}(h:l[n]?=b0 x):x∉l.take n:=λi=>by
 obtain⟨j,a⟩:=Yk.mp i;have c:j<n:=by have:=(Vc.mp a).1;rw[VG]at this;lia
 rw[WK c]at a;have m:n<l.length:=(Vc.mp h).1;have e:=(Vc.mp a).2;have g:=(Vc.mp h).2;exact absurd ((a3H k).mp (e.trans g.symm)) (by lia)
noncomputable abbrev fE(v:Int×Int->D)(ps:jq):jx:=ps.map λp=>(dP p,v p)
theorem AU{v:Int×Int->D}{ps:jq}(d:ps.Nodup){p:Int×Int}(h:p∈ps):bT (fE v ps) (dP p)=b0 (v p):=by refine Tn ?_ (VQ.mpr ⟨p,h,rfl⟩);rw[VM];exact a4Y _ (λa b c x=>c (AR x)) d
theorem To{v:Int×Int->D}{ps:jq}{p:Int×Int}(h:p∉ps):bT (fE v ps) (dP p)=none:=by
 unfold bT;rw[XF.mpr]
 .rfl
 .intro x a;obtain⟨z,c,rfl⟩:=VQ.mp a;rw[decide_eq_true_iff];exact λe=>h (AR e▸c)
theorem Gf{v:Int×Int->D}{ps:jq}{p:Int×Int}(h:p∉ps):dW (fE v ps) (dP p) (v p)=fE v (ps++[p]):=by unfold dW;rw[To h,if_neg (by simp)];show _=a4e _ _;rw[VZ];rfl
theorem Tp{m:ME}{ρ:aG}{c:Hm}{Q:eM×Nat×Hm->Prop}(h:W (m ρ c) λp=>∃a kvs,p.1=.loc a/\p.2[a]?=b0 (.dT kvs)/\Q (eB (.tup (jI kvs)),kvs.length+1,p.2.set a (.dF kvs))):W (qQ m ρ c) Q:=by unfold qQ;rw[W_bind];refine bI h λp ⟨a,kvs,e,g,q⟩=>?_;rw[e];dsimp only;rw[g];exact W_some.mpr q
theorem Tq{xs:List D}{g:MG}{b:MS}{ρ:aG}{a:Hm}{Q:Fl×aG×Hm->Prop}(I:Nat->aG->Hm->Prop)(l:I 0 ρ a)
  (k:∀i d ρ a,xs[i]?=b0 d->I i ρ a->∃c,g d ρ a=b0 c/\W (b c a) λp=>match p.1 with|.nx=>I (i+1) p.2.1 p.2.2|.ct=>I (i+1) p.2.1 p.2.2|.bk=>Q (.nx,p.2.1,p.2.2)|.rt d=>Q (.rt d,p.2.1,p.2.2))
  (h:∀ρ a,I xs.length ρ a->Q (.nx,ρ,a)):W (eX (eB (.tup xs)) g b (xs.length+1) 0 ρ a) Q:=by
 refine rJ (N:=xs.length) I (λi ρ a o j=>?_) (λρ a j=>⟨?_,h ρ a j⟩) xs.length 0 ρ a (by lia) l
 .have e:xs[i]?=b0 xs[i]:=Vb o;obtain⟨c,m,n⟩:=k i _ ρ a e j;exact⟨xs[i],c,by show b0 xs[i]?=_;rw[e],m,n⟩
 .show b0 xs[xs.length]?=_;rw[Xe (Vk _)]
noncomputable def l6(e:Int×Int)(hd:Int)(F:Int×Int->Ly)(q:Int×Int):Ly:=if u7 (iP e.1 e.2 (cR (F q) q).1 (cR (F q) q).2-iP e.1 e.2 e.1 e.2)==hd then pG (F q) (rX e)else F q
theorem Tr(k:Nat){F:Int×Int->Ly}(g:∀q,Dih (F q)){e q:Int×Int}{hd:Int}{d:Option D}{l:Nat}{c:Hm}{R:Fl×aG×Hm->Prop}(H:W (oQ (.loc l) (PP q) (LD (l6 e hd F q)) c) λμ'=>∀x,R (.nx,[d,b0 (PP e),b0 (.int hd),b0 (.loc l),b0 (PP q),x],μ')):W (Ao (k+3) [d,b0 (PP e),b0 (.int hd),b0 (.loc l),b0 (PP q),b0 (LD (F q))] c) R:=by
 refine fB (b:=u7 (iP e.1 e.2 (cR (F q) q).1 (cR (F q) q).2-iP e.1 e.2 e.1 e.2)==hd) (μ':=c) (bN (dO (aT (iO (bK (aQ rfl ((u6 (k+2) (F q) (g q) q.1 q.2 _ _).mpr ⟨_,rfl,(Tj (k+1) _ _ _ _ _ _).mpr ⟨_,rfl,w_eqI.mpr ⟨_,rfl,rfl⟩⟩⟩))))))) (λa=>?_) λa=>?_
 .unfold l6 at H;rw[if_pos a]at H;exact bE (iO (bK ⟨_,rfl,bK (aQ rfl ((Tg k e.1 e.2 _ _).mpr ⟨_,rfl,(Th (k+1) (F q) (rX e) (g q) (Gd e) _ _).mpr (w_mPut.mpr ⟨_,rfl,_,rfl,_,rfl,bI H λμ' z=>z _⟩)⟩))⟩))
 .unfold l6 at H;rw[if_neg (by rw[a];exact Vm)]at H;exact dN (w_mPut.mpr ⟨_,rfl,_,rfl,_,rfl,bI H λμ' z=>z _⟩)
inductive FoI (a:Nat)(e:Int×Int)(hd:Int)(l:Nat)(ν:Hm)(V:Int×Int->D)(qs:jq):Nat->aG->Hm->Prop
 |mk {i:Nat}{x y:Option D}{μ:Hm}(kp:Kp l ν μ)(g:μ[l]?=b0 (.dT (fE V (qs.take i)))):FoI a e hd l ν V qs i [b0 (.loc a),b0 (PP e),b0 (.int hd),b0 (.loc l),x,y] μ
theorem Ts(k:Nat){F:Int×Int->Ly}(A:∀q,Dih (F q)){c:jq}(E:c.Nodup)(K:c.length<=200){a:Nat}(e:Int×Int)(hd:Int){m:Hm}(g:m[a]?=b0 (.dT (fE (λq=>LD (F q)) c)))(Q:jz)(H:∀l μ',Kp a m μ'->m.length<=l->μ'[l]?=b0 (.dT (fE (λq=>LD (l6 e hd F q)) c))->Q (.loc l,μ')):W (f (k+4) "_law_folded" [.loc a,PP e,.int hd] m) Q:=by
 have L:a<m.length:=(Vc.mp g).1;refine cJ (RL (k+3) _ _ _ m) (bE (w_mDNewT.mpr (eH (w_mForI.mpr (Tp ⟨_,rfl,a,_,rfl,aJ (aP _ _) g,?_⟩)))));have gl:((m++[C.dT []]).set a (.dF (fE (λq=>LD (F q)) c)))[m.length]?=b0 (.dT []):=by rw[V3 (by lia)];exact aZ _ _
 have w:Kp a m ((m++[C.dT []]).set a (.dF (fE (λq=>LD (F q)) c))):=(Kp.pre (aP _ _)).trans .set;generalize(m++[C.dT []]).set a (.dF (fE (λq=>LD (F q)) c))=ν at gl w ⊢;have B:jI (fE (λq=>LD (F q)) c)=c.map λq=>.tup [PP q,LD (F q)]:=by unfold jI;rw[VM];rfl
 rw[B];have r:(fE (λq=>LD (F q)) c).length=(c.map λq=>D.tup [PP q,LD (F q)]).length:=by rw[U8,U8]
 rw[r];refine Tq (b:=Ao (k+3)) (FoI a e hd m.length ν (λq=>LD (l6 e hd F q)) c) (.mk (λ_ _ _ h=>h) (by rw[X0];exact gl)) ?_ ?_
 .rintro i d I u p ⟨s,o⟩;rw[Vx]at p;obtain⟨q,v,rfl⟩:=Vd.mp p;have G:=AS E v;refine⟨_,rfl,Tr k A ((Ak o (lV q) (by rw[U8,VG,VC];lia)).mpr λx=>.mk (s.trans .set) ?_)⟩;rw[eS o,Gf (v:=λq=>LD (l6 e hd F q)) G,pH v]
 .rintro I u ⟨s,o⟩;rw[U8,Xk]at o;exact⟨rfl,cM ⟨_,rfl,H _ _ (λj y n h=>s j y (λz=>by have:=(Vc.mp h).1;lia) (w j y n h)) (Vk _) o⟩⟩
theorem Tt{e:Int×Int}{hd:Int}{F:Int×Int->Ly}(a:∀q,Dih (F q)):∀q,Dih (l6 e hd F q):=λq=>by
 unfold l6;split
 .exact Te (a q) (Gd e)
 .exact a q
noncomputable def cK(p:Int×Int):Bool:=if p.1%2==1 then p.2%2==1 else p.2%2==0&&!(p.1%4==p.2%4)
noncomputable def iD(p:Int×Int):Bool:=if p.1%2==1 then p.2%4==2 else p.1%4==2&&p.2%2==1
theorem kM{ρ:aG}{e:Hm}{a b:ME}{c d:Bool}(g:a ρ e=b0 (.bl c,e))(h:b ρ e=b0 (.bl d,e)):c8 a b ρ e=b0 (.bl (c&&d),e):=bN (w_mAndV.mpr ⟨_,g,by
 cases c with
 |true=>exact(if_pos rfl).mpr ⟨_,h,rfl⟩
 |false=>exact(if_neg Vm).mpr rfl⟩)
theorem Gg(k:Nat)(p:Int×Int)(a:Hm)(Q:jz)(H:Q (.bl (cK p),a)):W (f (k+1) "is_edge" [PP p] a) Q:=by
 unfold cK at H;refine cJ (QU k _ a) (fB (b:=p.1%2==1) (μ':=a) (by kernel_rfl) (λh=>jK (bB (r:=(.bl (p.2%2==1),a)) (by kernel_rfl) ?_)) λh=>dN (cM (bB (kM (c:=p.2%2==0) (d:=!(p.1%4==p.2%4)) (by kernel_rfl) (by kernel_rfl)) ?_)))
 .rw[h]at H;exact H
 .rw[h]at H;exact H
theorem Gh(k:Nat)(p:Int×Int)(a:Hm)(Q:jz)(H:Q (.bl (iD p),a)):W (f (k+1) "is_quarter" [PP p] a) Q:=by
 unfold iD at H;refine cJ (QV k _ a) (fB (b:=p.1%2==1) (μ':=a) (by kernel_rfl) (λh=>jK (bB (r:=(.bl (p.2%4==2),a)) (by kernel_rfl) ?_)) λh=>dN (cM (bB (kM (c:=p.1%4==2) (d:=p.2%2==1) (by kernel_rfl) (by kernel_rfl)) ?_)))
 .rw[h]at H;exact H
 .rw[h]at H;exact H
theorem AV(k:Nat){w h:Int}(hw:1<=w/\w<=6)(m:1<=h/\h<=6)(e:Hm)(Q:jz)(H:∀a μ',e<+:μ'->μ'[a]?=b0 (.lst (((b6 w h).filter cK).map PP))->Q (.loc a,μ')):W (f (k+2) "edges_in" [.int w,.int h] e) Q:=by
 refine cJ (Ra (k+1) _ _ e) (cM (eF (xs:=(b6 w h).map PP) (p:=λd=>cK (cY d)) (v:=λd=>d) (w_iSeq.mpr (aQ rfl (AD _ w h (by lia) (by lia) _ _ λa l j g n=>?_)))));refine(cT g).mpr ⟨fL g,rfl,?_,λd μ' hd c=>?_,λd μ' hd _ c=>⟨_,rfl,rfl,Vo _⟩,λμ' c i=>?_⟩
 .have:=rO (w:=w) (h:=h) (by lia) (by lia);rw[U8,VC];lia
 .obtain⟨u,v,rfl⟩:=lT hd;exact iB (aQ rfl (Gg k (u,v) _ _ ⟨rfl,rfl,Vo _⟩))
 .refine H _ _ (j.trans c) ?_;rw[i,pF cK]
theorem Tu(k:Nat){w h:Int}(hw:1<=w/\w<=6)(m:1<=h/\h<=6)(e:Hm)(Q:jz)(H:∀a μ',e<+:μ'->μ'[a]?=b0 (.lst (((b6 w h).filter iD).map PP))->Q (.loc a,μ')):W (f (k+2) "quarters_in" [.int w,.int h] e) Q:=by
 refine cJ (Q9 (k+1) _ _ e) (cM (eF (xs:=(b6 w h).map PP) (p:=λd=>iD (cY d)) (v:=λd=>d) (w_iSeq.mpr (aQ rfl (AD _ w h (by lia) (by lia) _ _ λa l j g n=>?_)))));refine(cT g).mpr ⟨fL g,rfl,?_,λd μ' hd c=>?_,λd μ' hd _ c=>⟨_,rfl,rfl,Vo _⟩,λμ' c i=>?_⟩
 .have:=rO (w:=w) (h:=h) (by lia) (by lia);rw[U8,VC];lia
 .obtain⟨u,v,rfl⟩:=lT hd;exact iB (aQ rfl (Gh k (u,v) _ _ ⟨rfl,rfl,Vo _⟩))
 .refine H _ _ (j.trans c) ?_;rw[i,pF iD]
noncomputable def AW(e:Int×Int):jq:=[(e.1-1,e.2),(e.1,e.2-1),(e.1,e.2+1),(e.1+1,e.2)]
noncomputable def fW(e:Int×Int):jq:=(AW e).filter iD
theorem Tv(k:Nat)(e:Int×Int)(a:Hm):f (k+1) "beside" [PP e] a=b0 (.loc a.length,a++[.lst ((AW e).map PP)]):=(QY k _ a).trans (by kernel_rfl)
theorem AX(k:Nat)(e:Int×Int)(c:Hm)(Q:jz)(H:∀a μ',c<+:μ'->μ'[a]?=b0 (.lst ((fW e).map PP))->Q (.loc a,μ')):W (f (k+2) "sides_of" [PP e] c) Q:=by
 refine cJ (QZ (k+1) _ c) (cM (eF (xs:=(AW e).map PP) (p:=λd=>iD (cY d)) (v:=λd=>d) (w_iSeq.mpr (aQ rfl (bB (Tv k e c) ((cT (aZ _ _)).mpr ⟨fL (aZ _ _),rfl,by show(4:Nat)<=Vp;decide,λd μ' hd g=>?_,λd μ' hd _ g=>⟨_,rfl,rfl,Vo _⟩,λμ' g h=>H _ _ ((aP _ _).trans g) ?_⟩))))))
 .obtain⟨u,v,rfl⟩:=lT hd;exact iB (aQ rfl (Gh k (u,v) _ _ ⟨rfl,rfl,Vo _⟩))
 .rw[h,pF iD];rfl
theorem Tw:∀w∈[(1:Int),2,3],∀h∈[(1:Int),2,3],∀e∈(b6 w h).filter cK,(fW e).length=2/\∀q∈fW e,q∈(b6 w h).filter iD:=by decide +kernel
theorem AY:∀w∈[(1:Int),2,3],∀h∈[(1:Int),2,3],((b6 w h).filter iD).Nodup/\((b6 w h).filter iD).length<=200/\((b6 w h).filter cK).Nodup/\((b6 w h).filter cK).length<=48/\0<((b6 w h).filter cK).length:=by decide +kernel
theorem Tx(k:Nat){ns:List Int}{F:Int×Int->Ly}(o:∀q,Dih (F q)){m es:jq}(w:m.Nodup)(E:m.length<=200)(Q:0<es.length)(I:∀e∈es,(fW e).length=2/\∀q∈fW e,q∈m){a b:Nat}{d:Hm}(g:d[a]?=b0 (.dT (fE (λq=>LD (F q)) m)))(u:d[b]?=b0 (.lst (es.map PP))){i:Nat}{d2 x x7 x8:Option D}{R:Fl×aG×Hm->Prop}
  (H:∀(r:Int×Int->Ly) a' μ' x7 x8,(∀q,Dih (r q))->Kp a d μ'->d.length<=a'->μ'[a']?=b0 (.dT (fE (λq=>LD (r q)) m))->R (.nx,[b0 (.rol (ns.map D.int)),b0 (.int 0),d2,b0 (.loc a'),x,b0 (.loc b),b0 (.int (i:Int)),x7,x8],μ')) :
  W (Ap (k+4) [b0 (.rol (ns.map D.int)),b0 (.int 0),d2,b0 (.loc a),x,b0 (.loc b),b0 (.int (i:Int)),x7,x8] d) R:=by
 refine bE (aQ (ds:=[.rol (ns.map D.int),.int (0+1+(i:Int))]) (μ':=d) (by kernel_rfl) (nH (k+3) ns (by lia) _ _ ?_));generalize cF ns (0+1+(i:Int))=v;have y:bM [.loc b] d=b0 (.int (es.length:Nat),d):=bN ((c7 u).mpr (by rw[U8]));have T:0<=v/2%(es.length:Int)/\v/2%(es.length:Int)<es.length:=⟨YM _ (by lia),Yh _ (by lia)⟩;obtain⟨j,B⟩:∃j:Nat,v/2%(es.length:Int)=j:=⟨(v/2%(es.length:Int)).toNat,by lia⟩;have h:j<es.length:=by lia
 refine bE (aT ⟨_,rfl,aT (bX rfl rfl ((rH (by decide) (by decide)).mpr (aQ rfl (bB y ((dM (by lia)).mpr ?_)))))⟩);rw[B];refine⟨_,fD u h,?_⟩;have c:es.getD j (0,0)∈es:=by rw[Vt,Vb h];exact Wx h
 generalize es.getD j (0,0)=e at c;obtain⟨O,G⟩:=I e c;refine bE (iO (bK (aT ⟨_,rfl,aT (aQ rfl (AX (k+2) e _ _ λs p n z=>⟨_,rfl,?_⟩))⟩)));have M:(fW e).getD 0 (0,0)∈m:=by refine G _ ?_;rw[Vt,Vb (by lia)];exact Wx _
 refine⟨_,fD (i:=0) z (by lia),(Aj (aJ n g) (lV _) (AU w M)).mpr ⟨_,rfl,?_⟩⟩;refine(u6 (k+3) _ (o _) e.1 e.2 _ _).mpr ?_;refine w_mSet.mpr (aQ (ds:=[.loc a,PP (cR (F ((fW e).getD 0 (0,0))) (e.1,e.2)),.int (1-2*(v%2))]) (μ':=p) (by kernel_rfl) (Ts k o w E _ _ (aJ n g) _ λl N K L A=>?_));exact H _ _ _ _ _ (Tt o) ((Kp.pre n).trans K) (WD n.length_le L) A
noncomputable def u9(A B:Ly):Bool:=!(A.a==B.a&&(A.b==B.b&&(A.c==B.c&&(A.d==B.d&&(A.e==B.e&&(A.g==B.g&&dI))))))
theorem Tz(A B:Ly)(a:Hm):aX dI (LD A) (LD B) a=b0 (.bl (u9 A B),a):=rfl
inductive F1I (d0 d1 d2:Option D)(l:Nat)(ν:Hm)(qs:jq):Nat->aG->Hm->Prop
 |mk {i:Nat}{x:Option D}{μ:Hm}(kp:Kp l ν μ)(g:μ[l]?=b0 (.dT (fE (λ_=>LD AQ) (qs.take i)))):F1I d0 d1 d2 l ν qs i [d0,d1,d2,b0 (.loc l),x,b3,b3,b3,b3] μ
inductive F2I (d0 d1 d2 d4:Option D)(b:Nat)(ν μ1:Hm)(qs es:jq):Nat->aG->Hm->Prop
 |mk {i a:Nat}{F:Int×Int->Ly}{x6 x7 x8:Option D}{μ:Hm}(hF:∀q,Dih (F q))(ha:ν.length<=a)(p:ν<+:μ)(g:μ[a]?=b0 (.dT (fE (λq=>LD (F q)) qs)))(gb:μ[b]?=b0 (.lst (es.map PP))):F2I d0 d1 d2 d4 b ν μ1 qs es i [d0,d1,d2,b0 (.loc a),d4,b0 (.loc b),x6,x7,x8] μ
theorem in3'{z:Int}(hz:1<=z/\z<=3):z∈[(1:Int),2,3]:=by
 have:z=1\/z=2\/z=3:=by lia
 simpa using this
theorem Gi{c:Hm}{a b:Nat}{kvs:jx}{xs:List D}(g:c[a]?=b0 (.dT kvs))(h:c[b]?=b0 (.lst xs)):b≠a:=λe=>by rw[e,g]at h;cases h
theorem TB(k:Nat)(ns:List Int){w h:Int}(hw:1<=w/\w<=3)(N:1<=h/\h<=3)(g:Hm)(Q:jz)(H:∀a μ' (es:jq),g<+:μ'->μ'[a]?=b0 (.lst (es.map PP))->es.Sublist ((b6 w h).filter cK)->Q (.loc a,μ')):W (f (k+5) "_law_folds" [.rol (ns.map D.int),.int 0,.tup [.int w,.int h]] g) Q:=by
 obtain⟨p,T,ne,le,R⟩:=AY w (in3' hw) h (in3' N);have v:=Tw w (in3' hw) h (in3' N);generalize hqs:(b6 w h).filter iD=qs at p T v;generalize hes:(b6 w h).filter cK=es at ne le R v H;refine cJ (RM (k+4) _ _ _ g) (bE (w_mDNewT.mpr (eH (w_mForI.mpr (w_iSeq.mpr (aQ rfl (Tu (k+2) (by lia) (by lia) _ _ λa A U r=>(cT r).mpr ?_)))))));rw[hqs]at r ⊢;have K:=aJ U (aZ g (C.dT []));have nd:=Gi K r;refine iL (F1I (b0 (.rol (ns.map D.int))) (b0 (.int 0)) (b0 (.tup [.int w,.int h])) g.length A qs) (.mk (λ_ _ _ h=>h) (by rw[X0];exact K)) (by rintro _ _ _ ⟨c,_⟩;exact c _ _ nd r) ?_ ?_
 .rintro i d ρ q hd ⟨c,l⟩;obtain⟨z,O,rfl⟩:=nC hd;refine⟨_,rfl,w_mPut.mpr ⟨_,rfl,_,rfl,_,rfl,(Ak l (lV z) (by rw[U8,VG,VC];lia)).mpr (.mk (c.trans .set) ?_)⟩⟩;rw[eS l];have:=Gf (v:=λ_=>LD AQ) (AS p O);rw[pH O,<- this];rfl
 .rintro ρ q ⟨c,l⟩;rw[U8,Xk]at l;have pA:g<+:q:=c.all ((aP _ _).trans U) (Vk _);refine⟨rfl,bE (aQ rfl (AV (k+2) (by lia) (by lia) _ _ λb B X I=>?_))⟩;rw[hes]at I;refine eH (w_mForI.mpr ((kK (j:=0)).mpr (bK (aT (aT (aQ rfl (nH (k+3) ns (by lia) _ _ ⟨_,rfl,(rH (by decide) (by decide)).mpr ⟨_,rfl,(dM (by decide)).mpr ⟨_,rfl,⟨by lia,by lia⟩,?_⟩⟩⟩)))))));refine iM (b:=Ap (k+4)) (F2I (b0 (.rol (ns.map D.int))) (b0 (.int 0)) (b0 (.tup [.int w,.int h])) _ b g B qs es) (.mk (λ_=>Td) (Vk _) (pA.trans X) (aJ X l) I) ?_ ?_
  .rintro i G E hi ⟨L,M,u,m,j⟩;refine⟨_,rfl,?_⟩;rw[Y2];exact Tx k L p T R v m j λF' a' μ5 _ _ x c la g5=>.mk x (WD u.length_le la) (c.all u M) g5 (c _ _ (Gi m j) j)
  .rintro G E ⟨L,M,u,m,j⟩;rename_i a4 F x6 x7 x8;refine⟨rfl,cM (eF (xs:=es.map PP) (p:=λd=>u9 (F ((fW (cY d)).getD 0 (0,0))) (F ((fW (cY d)).getD 1 (0,0)))) (v:=λd=>d) (w_iSeq.mpr ⟨_,rfl,(cT j).mpr ⟨fL j,rfl,by rw[U8,VC];lia,λd μ' hd o=>?_,λd μ' hd _ o=>⟨_,rfl,rfl,Vo _⟩,λμ' o hg=>?_⟩⟩))⟩
   .obtain⟨e,he,rfl⟩:=VQ.mp hd;obtain⟨h2,hq⟩:=v e he;have Z:∀n,n<2->(fW e).getD n (0,0)∈qs:=λn hn=>by refine hq _ ?_;rw[Vt,Vb (by lia)];exact Wx _
    refine dO (aT (aT ⟨_,rfl,aT (aQ rfl (AX (k+2) e _ _ λs μ6 y g6=>⟨_,rfl,?_⟩))⟩));refine⟨_,fD (i:=0) g6 (by lia),(Aj (aJ (o.trans y) m) (lV _) (AU p (Z 0 (by lia)))).mpr ?_⟩;refine aT ⟨_,rfl,aT (aQ rfl (AX (k+2) e _ _ λs' μ7 Y g7=>⟨_,rfl,?_⟩))⟩;refine⟨_,fD (i:=1) g7 (by lia),(Aj (aJ (o.trans (y.trans Y)) m) (lV _) (AU p (Z 1 (by lia)))).mpr ?_⟩;exact⟨_,Tz _ _ _,_,rfl,rfl,y.trans Y⟩
   .refine H _ _ _ (u.trans o) ?_ (a0q (p:=λe=>u9 (F ((fW e).getD 0 (0,0))) (F ((fW e).getD 1 (0,0)))));rw[hg,pF (λe=>u9 (F ((fW e).getD 0 (0,0))) (F ((fW e).getD 1 (0,0))))]
noncomputable def wt:Bool->List Int->Nat
 |_,[]=>0|b,g::gs=>(if b then 11 else 5)+wt (b ^^ (g%2==1)) gs
noncomputable def iV(x:Int)(gs:List Int):Bool:=decide (wt dI gs<=54)&&(decide (wt b5 gs<=54)&&(decide (gs.length<=6)&&(!(x%4==2)||gs.all λg=>g%2==0)))
noncomputable def Gj(o t:Int):List Int:=(VS 3).flatMap λ(i:Nat)=>[[2,1,1,2,1].getD (o+i).toNat 0,[2,1,1,2,1].getD (t+i).toNat 0]
noncomputable def Gk(o t:Int):List Int:=[o+1,t+1,3-o,3-t]
theorem TC:∀o∈[(0:Int),1,2],∀t∈[(0:Int),1,2],iV 0 (Gj o t)=dI/\iV 0 (Gk o t)=true:=by decide
theorem AZ{x:Int}{gs:List Int}(h:(x%4==2)=b5)(g:iV 0 gs=dI):iV x gs=true:=by unfold iV at g ⊢;rw[h];exact g
theorem Gm(v:Int):v%3∈[(0:Int),1,2]:=by
 have:v%3=0\/v%3=1\/v%3=2:=by lia
 simpa using this
inductive GaI (d0 d1:Option D)(o t:Int)(l r:Nat)(ν:Hm):Nat->aG->Hm->Prop
 |mk {i:Nat}{x:Option D}{μ:Hm}(p:ν<+:μ)(gl:μ[l]?=b0 (.lst ([2,1,1,2,1].map D.int)))(gr:μ[r]?=b0 (.lst (((VS i).flatMap λ(i:Nat)=>[[(2:Int),1,1,2,1].getD (o+i).toNat 0,[2,1,1,2,1].getD (t+i).toNat 0]).map D.int))):GaI d0 d1 o t l r ν i [d0,d1,b0 (.int o),b0 (.int t),b0 (.loc l),b0 (.loc r),x] μ
theorem Gn{a:Hm}{l:Nat}(gl:a[l]?=b0 (.lst ([2,1,1,2,1].map D.int))){z:Int}(h:0<=z/\z<5):aE (.loc l) (.int z) a=b0 (.int ([(2:Int),1,1,2,1].getD z.toNat 0),a):=by obtain⟨n,rfl⟩:∃n:Nat,z=n:=⟨z.toNat,by lia⟩;exact rW gl (by show n<5;lia)
theorem TF{o t:Int}(q:0<=o/\o<3)(s:0<=t/\t<3){i:Nat}(n:i<3){l r:Nat}(g:l≠r){d0 d1:Option D}{ν c:Hm}{R:Fl×aG×Hm->Prop}(k:ν.length<=r)(p:ν<+:c){gs:List Int}(m:gs.length<=6)(gl:c[l]?=b0 (.lst ([2,1,1,2,1].map D.int)))(e:c[r]?=b0 (.lst (gs.map D.int)))
  (H:∀a,ν<+:a->a[l]?=b0 (.lst ([2,1,1,2,1].map D.int))->a[r]?=b0 (.lst ((gs++[[(2:Int),1,1,2,1].getD (o+i).toNat 0,[2,1,1,2,1].getD (t+i).toNat 0]).map D.int))->R (.nx,[d0,d1,b0 (.int o),b0 (.int t),b0 (.loc l),b0 (.loc r),b0 (.int (i:Int))],a)) :
  W (Aq [d0,d1,b0 (.int o),b0 (.int t),b0 (.loc l),b0 (.loc r),b0 (.int (i:Int))] c) R:=by
 have h:=Gn (z:=o+i) gl (by lia);have j:=Gn (z:=t+i) gl (by lia);refine w_mDrop.mpr (e8 ⟨_,rfl,fA e,bK (w_mLst.mpr (bK (bX rfl rfl ⟨_,h,bK (bX rfl rfl ⟨_,j,_,rfl,kL,_,rfl,?_⟩)⟩)))⟩);have d:=aP c (C.lst [.int ([(2:Int),1,1,2,1].getD (o+i).toNat 0),.int ([(2:Int),1,1,2,1].getD (t+i).toNat 0)]);refine(uN (aJ d e) (aZ _ _) (by rw[U8,VC];show gs.length+2<=_;lia)).mpr (H _ (fV (p.trans d) k _) ?_ ?_)
 .rw[V3 (WM g)];exact aJ d gl
 .rw[eS (aJ d e),VZ];rfl
theorem TH(k:Nat)(v:Int)(c:Int×Int)(d:Hm)(Q:jz)(H:∀a μ' (gs:List Int),d<+:μ'->d.length<=a->μ'[a]?=b0 (.lst (gs.map D.int))->iV c.1 gs=dI->Q (.loc a,μ')):W (f (k+1) "_law_gaps" [.int v,PP c] d) Q:=by
 refine cJ (RN k _ _ d) (fB (b:=c.1%4==2) (μ':=d) (by kernel_rfl) (λh=>?_) λh=>dN ?_)
 .refine jK (aT ⟨_,rfl,_,rfl,?_⟩);have e:=aP d (C.lst ([2,2,2,2].map D.int));have j:=aP (d++[C.lst ([2,2,2,2].map D.int)]) (C.lst ([4,4].map D.int));have l:=aP ((d++[C.lst ([2,2,2,2].map D.int)])++[C.lst ([4,4].map D.int)]) (C.lst [.loc d.length,.loc (d++[C.lst ([2,2,2,2].map D.int)]).length]);have r:=aZ ((d++[C.lst ([2,2,2,2].map D.int)])++[C.lst ([4,4].map D.int)]) (C.lst [.loc d.length,.loc (d++[C.lst ([2,2,2,2].map D.int)]).length]);have g:v%2=0\/v%2=1:=by lia
  have s:∀gs∈[[(2:Int),2,2,2],[4,4]],iV c.1 gs=true:=by unfold iV;rw[h];decide
  rcases g with g|g
  .rw[g];exact(c6 r (show _=b0 _ from rfl)).mpr (H _ _ [2,2,2,2] (e.trans (j.trans l)) (Vk _) (aJ (j.trans l) (aZ _ _)) (s _ (by decide)))
  .rw[g];exact(c6 r (show _=b0 _ from rfl)).mpr (H _ _ [4,4] (e.trans (j.trans l)) e.length_le (aJ l (aZ _ _)) (s _ (by decide)))
 .refine bE (bB (r:=(.int (v/6%3),d)) (by kernel_rfl) (bE (bB (r:=(.int (v/18%3),d)) (by kernel_rfl) ?_)));obtain⟨z,y⟩:=TC _ (Gm (v/6)) _ (Gm (v/18));have w:0<=v/6%3/\v/6%3<3:=by lia
  have x:0<=v/18%3/\v/18%3<3:=by lia
  generalize v/6%3=o at *;generalize v/18%3=t at *;refine fB (b:=v%6==0) (μ':=d) (by kernel_rfl) (λ_=>jK ?_) λ_=>dN ?_
  .exact⟨_,rfl,H _ _ [4,4] (aP _ _) (Vk _) (aZ _ _) (AZ h (by decide))⟩
  refine fB (b:=v%6==1) (μ':=d) (by kernel_rfl) (λ_=>rM ?_) λ_=>dN ?_
  .refine bE ⟨_,rfl,rM (bE ⟨_,rfl,rM (eH (w_mForI.mpr ((kK (j:=0)).mpr ⟨_,rfl,⟨by decide,by decide⟩,?_⟩)))⟩)⟩;refine iM (lo:=0) (n:=3) (b:=Aq) (GaI (b0 (.int v)) (b0 (PP c)) o t d.length (d++[C.lst ([2,1,1,2,1].map D.int)]).length d) (.mk ((aP _ _).trans (aP _ _)) (aJ (aP _ _) (aZ _ _)) (aZ _ _)) ?_ ?_
   .rintro i B q u ⟨e,gl,n⟩;refine⟨_,rfl,?_⟩;rw[Y2];refine TF w x u (by rw[Vh];show _≠_+1;lia) (by rw[Vh];lia) e ?_ gl n λA j m p=>.mk j m ?_
    .have:=rV (f:=λ(i:Nat)=>[[(2:Int),1,1,2,1].getD (o+i).toNat 0,[2,1,1,2,1].getD (t+i).toNat 0]) (n:=2) (λ_=>Vk _) (VS i);rw[WY]at this;lia
    .rw[p,YH,Zs];rfl
   .rintro B q ⟨e,gl,n⟩;exact⟨rfl,jK ⟨_,rfl,H _ _ (Gj o t) e (by rw[Vh];lia) n (AZ h z)⟩⟩
  .exact cM ⟨_,rfl,H _ _ (Gk o t) (aP _ _) (Vk _) (aZ _ _) (AZ h y)⟩
theorem TJ{c:MT}{b:MS}{Q:Fl×aG×Hm->Prop}(I:Nat->aG->Hm->Prop)
  (s:∀m ρ e,I m ρ e->W (c ρ e) λp=>if p.1=dI then W (b ρ p.2) λq=>match q.1 with
   |.nx=>∃a,a<m/\I a q.2.1 q.2.2|.ct=>∃a,a<m/\I a q.2.1 q.2.2|.bk=>Q (.nx,q.2.1,q.2.2)
   |.rt d=>Q (.rt d,q.2.1,q.2.2)else Q (.nx,ρ,p.2)):∀(n m:Nat)(ρ:aG)(e:Hm),m<n->I m ρ e->W (mO c b n ρ e) Q:=by
 intro n;induction n with
 |zero=>intro m ρ e h;lia|succ n k=>
  intro m ρ e y r;unfold mO;rw[W_bind];refine bI (s m ρ e r) λp j=>?_;obtain⟨u,v⟩:=p;cases u with
  |false=>exact W_some.mpr (by simpa using j)|true=>
   simp only[if_true]at j;dsimp only;rw[W_bind];refine bI j λq g=>?_;obtain⟨l,x,w⟩:=q;cases l with
   |nx=>obtain⟨a,o,i⟩:=g;exact k a _ _ (by lia) i|ct=>obtain⟨a,o,i⟩:=g;exact k a _ _ (by lia) i|bk=>exact W_some.mpr g|rt d=>exact W_some.mpr g
theorem Gp{c:MT}{b:MS}{ρ:aG}{a:Hm}{Q:Fl×aG×Hm->Prop}(I:Nat->aG->Hm->Prop)(m:Nat)(h:m<1000000000)(g:I m ρ a)
  (i:∀m ρ a,I m ρ a->W (c ρ a) λp=>if p.1=dI then W (b ρ p.2) λq=>match q.1 with
   |.nx=>∃e,e<m/\I e q.2.1 q.2.2|.ct=>∃e,e<m/\I e q.2.1 q.2.2|.bk=>Q (.nx,q.2.1,q.2.2)
   |.rt d=>Q (.rt d,q.2.1,q.2.2)else Q (.nx,ρ,p.2)):W (mP m7 c b ρ a) Q:=by
 unfold mP;exact TJ I i m7 m ρ a (by unfold m7;exact h) g
theorem mem_pl{w h:Int}{p:Int×Int}:p∈b6 w h↔(0<p.1/\p.1<4*w)/\0<p.2/\p.2<4*h:=by
 unfold b6 iS iR;rw[ZP];constructor
 .rintro⟨i,a,d⟩;obtain⟨j,c,rfl⟩:=VQ.mp d;have:=Wi.mp a;have:=Wi.mp c;dsimp only;lia
 .intro⟨e,g⟩;refine⟨(p.1-1).toNat,Wi.mpr (by lia),VQ.mpr ⟨(p.2-1).toNat,Wi.mpr (by lia),a0c ?_ ?_⟩⟩<;>dsimp only<;>lia
theorem vA{p:Int×Int}(h1:p.1%2=1)(a:p.2%2=1):cK p=true:=by unfold cK;rw[if_pos (beq_iff_eq.mpr h1)];exact beq_iff_eq.mpr a
theorem vB{p:Int×Int}(h1:p.1%2=0)(a:p.2%2=0)(c:p.1%4≠p.2%4):cK p=true:=by unfold cK;rw[if_neg (by rw[beq_iff_eq];lia),beq_iff_eq.mpr a,beq_false_of_ne c];rfl
noncomputable def cG(w h:Int)(p:Int×Int):Prop:=p∈(b6 w h).filter cK
theorem kN{w h:Int}{p:Int×Int}(h1:0<p.1/\p.1<4*w)(a:0<p.2/\p.2<4*h)(c:cK p=dI):cG w h p:=Wy.mpr ⟨mem_pl.mpr ⟨h1,a⟩,c⟩
theorem rY{a b c:ME}{ρ:aG}{d:Hm}{x y z:Int}(e:a ρ d=b0 (.int x,d))(g:b ρ d=b0 (.int y,d))(hc:c ρ d=b0 (.int z,d)):fU cU cU a b c ρ d=b0 (.bl (decide (x<y)&&decide (y<z)),d):=bN (w_mChain.mpr ⟨_,e,_,g,w_ltI.mpr (by
 show if _ then _ else _
 cases decide (x<y)with
 |true=>exact(if_pos rfl).mpr ⟨_,hc,w_ltI.mpr rfl⟩
 |false=>exact(if_neg Vm).mpr rfl)⟩)
theorem kP{m:ME}{ρ:aG}{a:Hm}{b:Bool}(h:m ρ a=b0 (.bl b,a)):aO m ρ a=b0 (b,a):=bN (dO ⟨_,h,_,rfl,rfl⟩)
theorem vC{s t:MT}{ρ:aG}{c:Hm}{a b:Bool}(d:s ρ c=b0 (a,c))(e:t ρ c=b0 (b,c)):fG s t ρ c=b0 (a&&b,c):=bN (w_mAndT.mpr ⟨_,d,by
 cases a with
 |true=>exact(if_pos rfl).mpr ⟨_,e,rfl⟩
 |false=>exact(if_neg Vm).mpr rfl⟩)
theorem TK{w h:Int}(hw:w<=6)(k:h<=6){c:Int×Int}(hc:c∈bF w h){r d:Int}(a:(r,d)∈E8)(l:c.1%4=2->r%2=1)(n:Nat)(m:0<c.1+2*(r*n)/\c.1+2*(r*n)<4*w)(o:0<c.2+2*(d*n)/\c.2+2*(d*n)<4*h) :
  n+1<=(if r%2=1 then 11 else 5)/\cG w h (c.1+2*(r*n)+r,c.2+2*(d*n)+d):=by
 obtain⟨g,e⟩:=Wy.mp hc;obtain⟨i,j⟩:=mem_pl.mp g;obtain⟨x,y⟩:=c;unfold cW at e;simp only[Vl,beq_iff_eq]at e;dsimp only at *;unfold E8 at a;simp only[Wf,a3E,Yy,or_false]at a;rcases a with⟨rfl,rfl⟩|⟨rfl,rfl⟩|⟨rfl,rfl⟩|⟨rfl,rfl⟩|⟨rfl,rfl⟩|⟨rfl,rfl⟩|⟨rfl,rfl⟩|⟨rfl,rfl⟩
 .exact⟨by rw[if_neg (by decide)];lia,kN (by dsimp only;lia) (by dsimp only;lia) (vB (by dsimp only;lia) (by dsimp only;lia) (by dsimp only;lia))⟩
 .exact⟨by rw[if_pos (by decide)];lia,kN (by dsimp only;lia) (by dsimp only;lia) (vA (by dsimp only;lia) (by dsimp only;lia))⟩
 .exact⟨by rw[if_neg (by decide)];lia,kN (by dsimp only;lia) (by dsimp only;lia) (vB (by dsimp only;lia) (by dsimp only;lia) (by dsimp only;lia))⟩
 .exact⟨by rw[if_pos (by decide)];lia,kN (by dsimp only;lia) (by dsimp only;lia) (vA (by dsimp only;lia) (by dsimp only;lia))⟩
 .exact⟨by rw[if_neg (by decide)];lia,kN (by dsimp only;lia) (by dsimp only;lia) (vB (by dsimp only;lia) (by dsimp only;lia) (by dsimp only;lia))⟩
 .exact⟨by rw[if_pos (by decide)];lia,kN (by dsimp only;lia) (by dsimp only;lia) (vA (by dsimp only;lia) (by dsimp only;lia))⟩
 .exact⟨by rw[if_neg (by decide)];lia,kN (by dsimp only;lia) (by dsimp only;lia) (vB (by dsimp only;lia) (by dsimp only;lia) (by dsimp only;lia))⟩
 .exact⟨by rw[if_pos (by decide)];lia,kN (by dsimp only;lia) (by dsimp only;lia) (vA (by dsimp only;lia) (by dsimp only;lia))⟩
noncomputable def vD(w h v:Int)(s q:Nat)(c:Int×Int)(l:Nat)(k g r d x y:Int):aG:=[b0 (.tup [.int w,.int h]),b0 (.int v),b0 (.loc s),b0 (.loc q),b0 (PP c),b0 (.loc l),b0 (.int k),b0 (.int g),b0 (.int r),b0 (.int d),b0 (.int x),b0 (.int y)]
inductive RyI (w h v:Int)(s q:Nat)(c:Int×Int)(l:Nat)(k g r d:Int)(ν:Hm)(fs:jq):Nat->aG->Hm->Prop
 |mk {m n:Nat}{es:jq}{x y:Int}(hm:m+n=12)(hn:n<=(if r%2=1 then 11 else 5))(hl:es.length=n)(hE:∀p∈es,cG w h p)(hx:x=c.1+2*(r*n))(hy:y=c.2+2*(d*n)):RyI w h v s q c l k g r d ν fs m (vD w h v s q c l k g r d x y) (ν.set l (.lst ((fs++es).map PP)))
theorem TL{w h:Int}(hw:w<=6)(I:h<=6){c:Int×Int}(hc:c∈bF w h){r d:Int}(M:(r,d)∈E8)(L:c.1%4=2->r%2=1){v k g:Int}{s q l:Nat}{ν:Hm}{fs:jq}(gl:ν[l]?=b0 (.lst (fs.map PP)))(O:fs.length<=900){R:Fl×aG×Hm->Prop}
  (H:∀(es:jq) x y,es.length<=(if r%2=1 then 11 else 5)->(∀p∈es,cG w h p)->R (.nx,vD w h v s q c l k g r d x y,ν.set l (.lst ((fs++es).map PP)))) :
  W (mP m7 Fh Fj (vD w h v s q c l k g r d c.1 c.2) ν) R:=by
 have E:ν=ν.set l (.lst ((fs++[]).map PP)):=by rw[WQ];exact(rP gl).symm
 refine Gp (RyI w h v s q c l k g r d ν fs) 12 (by decide) ?_ ?_
 .have:=RyI.mk (w:=w) (h:=h) (v:=v) (s:=s) (q:=q) (c:=c) (l:=l) (k:=k) (g:=g) (r:=r) (d:=d) (ν:=ν) (fs:=fs) (m:=12) (n:=0) (es:=[]) (x:=c.1) (y:=c.2) rfl (Xm _) rfl (λ_ h=>nomatch h) (by lia) (by lia);rw[<- E]at this;exact this
 .rintro m _ _ ⟨Q,T,K,B,j,o⟩;rename_i n es x y;refine⟨_,vC (kP (rY (x:=0) (y:=x) (z:=4*w) rfl rfl rfl)) (kP (rY (x:=0) (y:=y) (z:=4*h) rfl rfl rfl)),?_⟩;by_cases a:((0<x/\x<4*w)/\0<y/\y<4*h)
  .rw[decide_eq_true a.1.1,decide_eq_true a.1.2,decide_eq_true a.2.1,decide_eq_true a.2.2];obtain⟨N,u⟩:=TK hw I hc M L n (by rw[<- j];exact a.1) (by rw[<- o];exact a.2);rw[<- j,<- o]at u;have A:=eS (c':=C.lst ((fs++es).map PP)) gl;have G:(if r%2=1 then 11 else 5)<=11:=by split<;>lia
   refine(if_pos rfl).mpr (o9 (e8 ⟨_,rfl,fA A,bB (r:=([PP (x+r,y+d)],_)) rfl ((lR A (by rw[U8,Vh,VC];lia)).mpr ?_)⟩));refine bE (bB (r:=(.int (x+2*r),_)) rfl (w_mSet.mpr (bB (r:=(.int (y+2*d),_)) rfl ⟨m-1,by lia,?_⟩)));rw[AE,show(fs++es).map PP++[PP (x+r,y+d)]=(fs++(es++[(x+r,y+d)])).map PP by simp];refine .mk (n:=n+1) (by lia) (by lia) (by rw[Vh,K];rfl) (λp i=>?_) ?_ ?_
   .rcases V4.mp i with i|i
    .exact B p i
    .rw[V8.mp i];exact u
   .rw[j,a4g,a5x];lia
   .rw[o,a4g,a5x];lia
  .have e:(decide (0<x)&&decide (x<4*w)&&(decide (0<y)&&decide (y<4*h)))=false:=by rw[Bool.eq_false_iff];intro z;simp only[Vl,decide_eq_true_eq]at z;exact a ⟨z.1,z.2⟩
   rw[e];exact(if_neg Vm).mpr (H _ _ _ (by lia) B)
theorem TM:∀i:Nat,i<8->(E8.getD i (0,0))∈E8/\((E8.getD i (0,0)).1%2=1↔(i:Int)%2=1):=by decide
theorem TN{w h:Int}(hw:w<=6)(G:h<=6){c:Int×Int}(hc:c∈bF w h){v k g:Int}(K:c.1%4=2->k%2=1){s q l:Nat}{ν:Hm}{fs:jq}(gs:ν[s]?=b0 (.lst (E8.map PP)))(gl:ν[l]?=b0 (.lst (fs.map PP)))(E:fs.length<=900){x8 x9 x10 x11:Option D}{R:Fl×aG×Hm->Prop}
  (H:∀(es:jq) r d x y,es.length<=(if k%2=1 then 11 else 5)->(∀p∈es,cG w h p)->R (.nx,vD w h v s q c l (k+g) g r d x y,ν.set l (.lst ((fs++es).map PP)))) :
  W (uQ [b0 (.tup [.int w,.int h]),b0 (.int v),b0 (.loc s),b0 (.loc q),b0 (PP c),b0 (.loc l),b0 (.int k),b0 (.int g),x8,x9,x10,x11] ν) R:=by
 obtain⟨j,I⟩:∃j:Nat,k%8=j:=⟨(k%8).toNat,by lia⟩;have a:j<8:=by lia
 obtain⟨n,o⟩:=TM j a;have m:aE (.loc s) (.int (k%8)) ν=b0 (PP (E8.getD j (0,0)),ν):=by rw[I];exact fD gs a
 generalize E8.getD j (0,0)=e at n o m;have i:(e.1%2=1)=(k%2=1):=propext (o.trans (by lia));have u:(if k%2=1 then 11 else 5)=if e.1%2=1 then 11 else 5:=by simp only[i]
 rw[u]at H;refine w_mSeq.mpr (w_mAsg.mpr (bX rfl rfl ⟨_,m,w_gTup2.mpr (w_mSeq.mpr (w_mAsg.mpr ⟨_,rfl,w_gTup2.mpr (eH ?_)⟩))⟩));refine TL (r:=e.1) (d:=e.2) hw G hc n (λz=>by rw[i];exact K z) gl E λes x y A B=>⟨rfl,w_mSet.mpr ⟨_,rfl,H es e.1 e.2 x y A B⟩⟩
inductive StI (w h v:Int)(s q:Nat)(c:Int×Int)(l:Nat)(ν:Hm)(gs:List Int):Nat->aG->Hm->Prop
 |mk {i:Nat}{k:Int}{fs:jq}{x7 x8 x9 x10 x11:Option D}(ho:c.1%4=2->k%2=1)(hf:fs.length+wt (k%2==1) (gs.drop i)<=54)(hE:∀p∈fs,cG w h p):StI w h v s q c l ν gs i [b0 (.tup [.int w,.int h]),b0 (.int v),b0 (.loc s),b0 (.loc q),b0 (PP c),b0 (.loc l),b0 (.int k),x7,x8,x9,x10,x11] (ν.set l (.lst (fs.map PP)))
theorem TQ(k g:Int):((k+g)%2==1)=((k%2==1) ^^ (g%2==1)):=by
 have a:k%2=0\/k%2=1:=by lia
 have c:g%2=0\/g%2=1:=by lia
 rcases a with a|a<;>rcases c with c|c
 .rw[a,c,show(k+g)%2=0 by lia];rfl
 .rw[a,c,show(k+g)%2=1 by lia];rfl
 .rw[a,c,show(k+g)%2=1 by lia];rfl
 .rw[a,c,show(k+g)%2=0 by lia];rfl
theorem TR{x:Int}{gs:List Int}(h:iV x gs=dI):(∀b,wt b gs<=54)/\gs.length<=6/\(x%4=2->∀g∈gs,g%2=0):=by unfold iV at h;simp only[Vl,decide_eq_true_eq,YL,ZI,beq_eq_false_iff_ne,ne_eq,W6,beq_iff_eq]at h;obtain⟨d,e,a,c⟩:=h;refine⟨λb=>by cases b<;>assumption,a,λz=>c.resolve_left (λn=>n z)⟩
theorem TU{w h:Int}(hw:w<=6)(K:h<=6){c:Int×Int}(hc:c∈bF w h){v u:Int}(M:c.1%4=2->u%2=1){s q l b:Nat}{ν:Hm}{gs:List Int}(E:iV c.1 gs=dI)(es:ν[s]?=b0 (.lst (E8.map PP)))(gl:ν[l]?=b0 (.lst []))(B:ν[b]?=b0 (.lst (gs.map D.int)))(N:s≠l)(bl:b≠l){R:Fl×aG×Hm->Prop}
  (H:∀(fs:jq) ρ,fs.length<=54->(∀p∈fs,cG w h p)->ρ[5]?=b0 (b0 (.loc l))->R (.nx,ρ,ν.set l (.lst (fs.map PP)))) :
  W (eX (eB (.loc b)) (cI 7) uQ ((gs.map D.int).length+1) 0 [b0 (.tup [.int w,.int h]),b0 (.int v),b0 (.loc s),b0 (.loc q),b0 (PP c),b0 (.loc l),b0 (.int u),b3,b3,b3,b3,b3] ν) R:=by
 obtain⟨O,Z,Q⟩:=TR E;have G:ν=ν.set l (.lst (([]:jq).map PP)):=(rP gl).symm;refine iL (StI w h v s q c l ν gs) ?_ ?_ ?_ ?_
 .have:=StI.mk (w:=w) (h:=h) (v:=v) (s:=s) (q:=q) (c:=c) (l:=l) (ν:=ν) (gs:=gs) (i:=0) (k:=u) (fs:=[]) (x7:=b3) (x8:=b3) (x9:=b3) (x10:=b3) (x11:=b3) M (by rw[Xw,Xi,XH];exact O _) (λ_ h=>nomatch h);rw[<- G]at this;exact this
 .rintro _ _ _ ⟨_,_,_⟩;rw[V3 (WM bl)];exact B
 .rintro i d _ _ hd ⟨a,n,m⟩;rename_i k fs x7 x8 x9 T U;obtain⟨g,A,rfl⟩:∃g,gs[i]?=b0 g/\D.int g=d:=by rw[Vx]at hd;exact Vd.mp hd
  obtain⟨L,o⟩:=Vc.mp A;rw[XC L,o]at n;unfold wt at n;refine⟨_,rfl,TN hw K hc a (by rw[V3 (WM N)];exact es) (eS gl) (by lia) λe r X x y Y I=>?_⟩;rw[AE];refine .mk (k:=k+g) (λz=>?_) ?_ λp j=>?_
  .have:=a z;have:=Q z g (VR A);lia
  .rw[TQ,Vh];have:(if(k%2==1)=dI then 11 else 5)=if k%2=1 then 11 else 5:=by simp only[beq_iff_eq]
   lia
  .rcases V4.mp j with j|j
   .exact m p j
   .exact I p j
 .rintro _ _ ⟨_,n,m⟩;exact H _ _ (by lia) m rfl
theorem TV{w h:Int}(hw:1<=w)(a:1<=h):0<(bF w h).length:=a2c (a:=(2,2)) (Wy.mpr ⟨mem_pl.mpr ⟨⟨by decide,by dsimp only;lia⟩,by decide,by dsimp only;lia⟩,by decide⟩)
theorem TX(k:Nat){w h:Int}(hw:1<=w/\w<=6)(m:1<=h/\h<=6)(v:Int)(g:Hm)(Q:jz)(H:∀a μ' (fs:jq),g<+:μ'->g.length<=a->μ'[a]?=b0 (.lst (fs.map PP))->fs.length<=54->(∀p∈fs,cG w h p)->Q (.loc a,μ')):W (f (k+3) "_law_star" [.tup [.int w,.int h],.int v] g) Q:=by
 refine cJ (RO (k+2) _ _ g) (bE (bB (r:=(.loc g.length,g++[.lst (E8.map PP)])) (by kernel_rfl) (bE (aQ rfl (AL k hw m _ _ λa e u o=>?_)))));have X:=TV hw.1 m.1;have B:bM [.loc a] e=b0 (.int ((bF w h).length:Nat),e):=bN ((c7 o).mpr (by rw[U8];rfl));obtain⟨j,M⟩:∃j:Nat,v%((bF w h).length:Int)=j:=⟨(v%((bF w h).length:Int)).toNat,by have:=YM v (b:=((bF w h).length:Int)) (by lia);lia⟩;have i:j<(bF w h).length:=by have:=Yh v (b:=((bF w h).length:Int)) (by lia);lia
 refine bE (aT ⟨_,rfl,aT ⟨_,rfl,aQ rfl (bB B ((dM (by lia)).mpr ?_))⟩⟩);rw[M];refine⟨_,fD (cr:=bF w h) o i,?_⟩;have hc:(bF w h).getD j (0,0)∈bF w h:=by rw[Vt,Vb i];exact Wx i
 generalize(bF w h).getD j (0,0)=c at hc ⊢;have x:g<+:e:=(aP _ _).trans u;have r:=aJ u (aZ g (C.lst (E8.map PP)));have Y:g.length<e.length:=(Vc.mp r).1;have fin:∀(R:Fl×aG×Hm->Prop),(∀d A μ',Q (d,μ')->R (.rt d,A,μ'))->∀n:Int,(c.1%4=2->n%2=1)->W ((aH (cC (bV (aF (f (k+2) "_law_gaps") (aB (aC cP (aA 1) (mC (.int 256))) (aB (aA 4) aD)))) (cI 7) uQ) (aN (aA 5))) [b0 (.tup [.int w,.int h]),b0 (.int v),b0 (.loc g.length),b0 (.loc a),b0 (PP c),b0 (.loc e.length),b0 (.int n),b3,b3,b3,b3,b3] (e++[C.lst []])) R:=λR L n N=>by refine eH (w_mForI.mpr (w_iSeq.mpr (aQ (ds:=[.int (v/256),PP c]) (μ':=e++[C.lst []]) (by kernel_rfl) (TH (k+1) _ c _ _ λb T U l O s E=>(cT s).mpr ?_))));rw[Vh]at O;refine TU hw.2 m.2 hc N E (aJ ((aP _ _).trans l) r) (aJ l (aZ _ _)) s (by lia) (by show _≠_;have:[C.lst []].length=1:=rfl;lia) λfs A G I K=>⟨rfl,cM ⟨_,by show aA 5 _ _=_;simp only[aA,K];rfl,?_⟩⟩;exact L _ _ _ (H _ _ fs (x.trans (fV ((aP _ _).trans l) (Vk _) _)) x.length_le (eS (aJ l (aZ _ _))) G I)
 refine bE ⟨_,rfl,bE (bB (r:=(.int (v/32%8),e++[C.lst []])) (by kernel_rfl) (fB (b:=c.1%4==2) (μ':=e++[C.lst []]) (by kernel_rfl) (λz=>bE (aT (aT (bB (r:=(.int (v/32%4),e++[C.lst []])) (by kernel_rfl) ⟨_,rfl,(lQ (.inr ⟨by decide,by decide⟩)).mpr ⟨_,rfl,w_addI.mpr ?_⟩⟩)))) λz=>dN ?_))⟩
 .refine fin _ ?_ (v/32%8) ?_
  .exact λ_ _ _ q=>q
  .exact λy=>absurd (z.symm.trans (beq_iff_eq.mpr y)) Vm
 .refine fin _ ?_ (v/32%4*2+1) ?_
  .exact λ_ _ _ q=>q
  .exact λ_=>by lia
inductive CiI (w h:Int)(d0 d1 d2 d3 d5:Option D)(l n:Nat)(ν:Hm):Nat->aG->Hm->Prop
 |mk {i:Nat}{fs:jq}{x:Option D}(nd:fs.Nodup)(hE:∀p∈fs,cG w h p)(hl:fs.length<=n+i):CiI w h d0 d1 d2 d3 d5 l n ν i [d0,d1,d2,d3,b0 (.loc l),d5,x] (ν.set l (.lst (fs.map PP)))
theorem TY{w h:Int}{d0 d1 d2 d3 d5 x:Option D}{l a:Nat}{ν:Hm}{fs m:jq}(I:fs.Nodup)(v:∀p∈fs,cG w h p)(A:∀p∈m,cG w h p)(L:fs.length<=200)(M:m.length<=54)(gl:ν[l]?=b0 (.lst (fs.map PP)))(u:ν[a]?=b0 (.lst (m.map PP)))(s:a≠l){R:Fl×aG×Hm->Prop}
  (H:∀(gs:jq) y,gs.Nodup->(∀p∈gs,cG w h p)->gs.length<=fs.length+54->R (.nx,[d0,d1,d2,d3,b0 (.loc l),d5,y],ν.set l (.lst (gs.map PP)))) :
  W (eX (eB (.loc a)) (cI 6) Fm ((m.map PP).length+1) 0 [d0,d1,d2,d3,b0 (.loc l),d5,x] ν) R:=by
 refine iL (CiI w h d0 d1 d2 d3 d5 l fs.length ν) ?_ ?_ ?_ ?_
 .have:=CiI.mk (d0:=d0) (d1:=d1) (d2:=d2) (d3:=d3) (d5:=d5) (l:=l) (n:=fs.length) (ν:=ν) (i:=0) (x:=x) I v (Vk _);rw[rP gl]at this;exact this
 .rintro _ _ _ ⟨_,_,_⟩;rw[V3 (WM s)];exact u
 .rintro i d _ _ hd ⟨g,c,k⟩;rename_i gs y;obtain⟨z,r,rfl⟩:=nC hd;have n:=eS (c':=C.lst (gs.map PP)) gl;have K:=(Vc.mp r).1;refine⟨_,rfl,w_mIfS.mpr (dO (bX rfl rfl ((AM n).mpr ⟨_,rfl,?_⟩)))⟩;cases o:gs.any λp=>p==z with
  |true=>exact(if_neg Vm).mpr (w_mNext.mpr (.mk g c (by lia)))|false=>
   refine(if_pos rfl).mpr (w_mDrop.mpr (e8 ⟨_,rfl,fA n,_,rfl,(lR n (by rw[U8,VC];lia)).mpr ?_⟩));have E:z∉gs:=λB=>by have:(gs.any λp=>p==z)=true:=ZQ.mpr ⟨z,B,beq_self_eq_true z⟩;rw[this]at o;cases o
   rw[AE,show gs.map PP++[PP z]=(gs++[z]).map PP by rw[VZ];rfl];refine .mk (YX.mpr ⟨g,WG.mpr ⟨Yy,.nil⟩,λp j q G e=>E ?_⟩) (λp j=>?_) (by rw[Vh];show _+1<=_;lia)
   .rw[<- V8.mp G,<- e];exact j
   .rcases V4.mp j with j|j
    .exact c p j
    .rw[V8.mp j];exact A z (VR r)
 .rintro _ _ ⟨g,c,k⟩;rw[U8]at k;exact H _ _ g c (by lia)
inductive CoI (w h:Int)(d0 d1 d2 d3:Option D)(l:Nat)(ν:Hm):Nat->aG->Hm->Prop
 |mk {i:Nat}{fs:jq}{x5 x6:Option D}{μ:Hm}(nd:fs.Nodup)(hE:∀p∈fs,cG w h p)(hl:fs.length<=54*i)(p:ν<+:μ)(g:μ[l]?=b0 (.lst (fs.map PP))):CoI w h d0 d1 d2 d3 l ν i [d0,d1,d2,d3,b0 (.loc l),x5,x6] μ
theorem Gq{w h:Int}(hw:1<=w/\w<=3)(c:1<=h/\h<=3){es:jq}(d:es.Nodup)(a:∀p∈es,cG w h p):es.length<=48:=WD (List.Nodup.length_le_of_subset d a) (AY w (in3' hw) h (in3' c)).2.2.2.1
theorem TZ(k:Nat)(ns:List Int){w h:Int}(hw:1<=w/\w<=6)(q:1<=h/\h<=6)(A:cF ns 0/9%6<3\/cF ns 0/9%6=5->w<=3/\h<=3)(c:Hm)(Q:jz)(H:∀a μ' (es:jq),c<+:μ'->μ'[a]?=b0 (.lst (es.map PP))->es.Nodup->(∀p∈es,cG w h p)->es.length<=54->Q (.loc a,μ')):W (f (k+6) "_law_creases" [.rol (ns.map D.int),.int 0,.tup [.int w,.int h]] c) Q:=by
 refine cJ (RP (k+5) _ _ _ c) (bE (aT (aT (aQ rfl (nH (k+4) ns (by lia) _ _ ⟨_,rfl,(rH (by decide) (by decide)).mpr ⟨_,rfl,(dM (by decide)).mpr ?_⟩⟩)))));have Y:0<=cF ns 0/9%6/\cF ns 0/9%6<6:=by lia
 generalize cF ns 0/9%6=v at Y A ⊢;refine fB (b:=decide (v<3)) (μ':=c) (by kernel_rfl) (λz=>jK ?_) λz=>dN ?_
 .have z:=of_decide_eq_true z;obtain⟨l,m⟩:=A (.inl z);obtain⟨nq,lq,ne,le,l0⟩:=AY w (in3' ⟨hw.1,l⟩) h (in3' ⟨q.1,m⟩);refine aQ rfl (TB k ns ⟨hw.1,l⟩ ⟨q.1,m⟩ _ _ λa μ1 es E s K=>H _ _ es E s (K.nodup ne) (λp X=>K.subset X) (by have:=K.length_le;lia))
 .have z:=of_decide_eq_false z;refine bE ⟨_,rfl,eH (w_mForI.mpr ((kK (j:=0)).mpr (bK (aT (bB (r:=(.loc (c++[C.lst []]).length,(c++[C.lst []])++[C.lst ([1,1,2].map D.int)])) rfl ⟨_,rfl,?_⟩)))))⟩;have E:=aP c (C.lst []);have G:=aP (c++[C.lst []]) (C.lst ([1,1,2].map D.int));have u:=aZ (c++[C.lst []]) (C.lst ([1,1,2].map D.int));have s:=aJ G (aZ c (C.lst []));generalize hm:(c++[C.lst []])++[C.lst ([1,1,2].map D.int)]=μ2 at G s u ⊢;have e:∀n:Nat,(n=1\/w<=3/\h<=3)->W (eX (iG 0 n) (cI 5) (Fn (k+5)) (n+1) 0 [b0 (.rol (ns.map D.int)),b0 (.int 0),b0 (.tup [.int w,.int h]),b0 (.int v),b0 (.loc c.length),b3,b3] μ2) λp=>p.1=.nx/\W (aN (aA 4) p.2.1 p.2.2) λp=>match p.1 with|.rt d=>Q (d,p.2.2)|.nx=>Q (.non,p.2.2)|_=>False:=λn M=>by
   refine iM (lo:=0) (CoI w h (b0 (.rol (ns.map D.int))) (b0 (.int 0)) (b0 (.tup [.int w,.int h])) (b0 (.int v)) c.length c) (.mk (fs:=[]) .nil (λ_ h=>nomatch h) (Vk _) (E.trans G) s) ?_ ?_
   .rintro i _ j hi ⟨r,o,T,p,g⟩;rename_i fs x5 x6;refine⟨_,rfl,w_mForI.mpr (w_iSeq.mpr (iO (bK ⟨_,rfl,bK (aQ rfl (nH (k+4) ns (by lia) _ _ ⟨_,rfl,TX (k+2) hw q _ _ _ λa μ4 ss I N L ls O=>(cT L).mpr ?_⟩))⟩)))⟩;have N:j.length<=a:=N;have lm:c.length<j.length:=(Vc.mp g).1;have R:fs.length<=200:=by
     rcases M with rfl|⟨l,m⟩
     .lia
     .have:=Gq ⟨hw.1,l⟩ ⟨q.1,m⟩ r o;lia
    refine TY r o O R ls (aJ I g) L (by lia) λgs y B x U=>.mk B x (by lia) (fV (p.trans I) (Vk _) _) (eS (aJ I g))
   .rintro _ j ⟨r,o,T,p,g⟩;refine⟨rfl,cM ⟨_,rfl,H _ _ _ p g r o ?_⟩⟩;rcases M with rfl|⟨l,m⟩
    .lia
    .have:=Gq ⟨hw.1,l⟩ ⟨q.1,m⟩ r o;lia
  have Z:v=3\/v=4\/v=5:=by lia
  rcases Z with rfl|rfl|rfl
  .exact⟨_,bN ((c6 u (show atI _ ((3:Int)-3)=b0 (.int 1)from rfl)).mpr rfl),_,rfl,⟨by decide,by decide⟩,e 1 (.inl rfl)⟩
  .exact⟨_,bN ((c6 u (show atI _ ((4:Int)-3)=b0 (.int 1)from rfl)).mpr rfl),_,rfl,⟨by decide,by decide⟩,e 1 (.inl rfl)⟩
  .exact⟨_,bN ((c6 u (show atI _ ((5:Int)-3)=b0 (.int 2)from rfl)).mpr rfl),_,rfl,⟨by decide,by decide⟩,e 2 (.inr (A (.inr rfl)))⟩
theorem pI{g:MF}{ms:MA}{ρ:aG}{a μ':Hm}{ds:List D}{r:D×Hm}(h:ms ρ a=b0 (ds,μ'))(e:g ds μ'=b0 r):aF g ms ρ a=b0 r:=bN (aQ h ⟨_,e,rfl⟩)
theorem vF{o:jk}{m:ME}{ρ:aG}{a:Hm}{r:D×Hm}(e:o=fin (aN m ρ a))(h:m ρ a=b0 r):o=b0 r:=bN (cJ e (cM ⟨_,h,rfl⟩))
theorem A1(k:Nat)(i:Int)(a:Hm):f (k+1) "is_whole" [.int i] a=b0 (.bl dI,a):=(Fu k _ a).trans (by kernel_rfl)
theorem Gr(k:Nat){i:Int}(h:1<=i/\i<=6)(a:Hm):f (k+2) "is_size" [.int i] a=b0 (.bl dI,a):=vF (Q5 (k+1) _ a) (kM (pI rfl (A1 k i a)) (bN (w_mChain.mpr ⟨_,rfl,_,rfl,w_leI.mpr (by
 rw[decide_eq_true h.1];exact(if_pos rfl).mpr ⟨_,rfl,w_leI.mpr (by rw[decide_eq_true h.2])⟩)⟩)))
theorem T1(k:Nat){w h:Int}(hw:1<=w/\w<=6)(c:1<=h/\h<=6)(a:Hm):f (k+3) "check_size" [.int w,.int h] a=b0 (.non,a):=bN (cJ (Q6 (k+2) _ _ a) (w_mIfS.mpr (pE (w_mAndT.mpr (iB (aQ rfl (bB (Gr k hw a) ⟨rfl,(if_pos rfl).mpr (iB (aQ rfl (bB (Gr k c a) ⟨rfl,(if_neg Vm).mpr (w_mNext.mpr rfl)⟩)))⟩)))))))
theorem T2(k:Nat){s:Str}(h:s="o"\/s="h"\/s="v") (a:Hm):f (k+1) "is_mark" [.str s] a=b0 (.bl dI,a):=by
 rcases h with rfl|rfl|rfl
 .exact(Ay k _ a).trans (by kernel_rfl)
 .exact(Ay k _ a).trans (by kernel_rfl)
 .exact(Ay k _ a).trans (by kernel_rfl)
theorem T3(k:Nat){w h:Int}{e:Int×Int}(l:cG w h e)(a:Hm):f (k+3) "is_inner_edge" [.int w,.int h,PP e] a=b0 (.bl dI,a):=by
 obtain⟨m,j⟩:=Wy.mp l;obtain⟨⟨c,d⟩,g,i⟩:=mem_pl.mp m;refine vF (Rc (k+2) _ _ _ a) (kM (d:=dI) (pI rfl (vF (QN (k+1) _ a) (kM (c:=dI) (d:=dI) (by kernel_rfl) (kM (c:=dI) (d:=dI) (by kernel_rfl) (kM (pI rfl (A1 k _ a)) (pI rfl (A1 k _ a))))))) (kM (c:=dI) (d:=dI) (pI rfl (vF (Q7 (k+1) _ _ _ a) ?_)) (pI rfl (bN (Gg (k+1) e a _ ?_)))))
 .refine kM (c:=dI) (d:=dI) ?_ ?_
  .refine(rY (x:=0) (y:=e.1) (z:=4*w) rfl rfl rfl).trans ?_;rw[decide_eq_true c,decide_eq_true d];rfl
  .refine(rY (x:=0) (y:=e.2) (z:=4*h) rfl rfl rfl).trans ?_;rw[decide_eq_true g,decide_eq_true i];rfl
 .rw[j]
noncomputable def dR(ms:List ((Int×Int)×Str)):jx:=ms.map λm=>(dP m.1,.str m.2)
theorem Gs{ms:List ((Int×Int)×Str)}{p:Int×Int}(h:p∉ms.map (·.1)):bT (dR ms) (dP p)=none:=by
 unfold bT;rw[XF.mpr]
 .rfl
 .intro x a;obtain⟨z,c,rfl⟩:=VQ.mp a;rw[decide_eq_true_iff];exact λe=>h (AR e▸VQ.mpr ⟨z,c,rfl⟩)
theorem T4{ms:List ((Int×Int)×Str)}{m:(Int×Int)×Str}(h:m.1∉ms.map (·.1)):dW (dR ms) (dP m.1) (.str m.2)=dR (ms++[m]):=by unfold dW;rw[Gs h,if_neg (by simp)];unfold dR;rw[VZ];rfl
theorem T5(ms:List ((Int×Int)×Str)):∃S:List ((Int×Int)×Str),S.Perm ms/\(tW (dR ms)).map qP=S.map MD:=by
 refine⟨(cE (λi j=>HT.lexLt (((dR ms).map (·.1)).getD i []) (((dR ms).map (·.1)).getD j [])) (dR ms).length).map λi=>ms.getD i ((0,0),""),?_,?_⟩
 .have p:=(gZ (λi j=>HT.lexLt (((dR ms).map (·.1)).getD i []) (((dR ms).map (·.1)).getD j [])) (dR ms).length).map λi=>ms.getD i ((0,0),"");have e:(dR ms).length=ms.length:=U8 ..;rw[e,FQ]at p;rw[e];exact p
 .unfold tW;rw[VM,VM];refine XU λi a=>?_;have a:i<(dR ms).length:=Wi.mp ((gZ _ _).mem_iff.mp a);have a:i<ms.length:=by unfold dR at a;rw[U8]at a;exact a
  unfold dR;simp[a,MD,qP,dP,PP,P]
inductive SoI (w h:Int)(a l:Nat)(ν:Hm)(ms:List ((Int×Int)×Str)):Nat->aG->Hm->Prop
 |mk {i:Nat}{x y:Option D}{μ:Hm}(p:ν<+:μ)(g:μ[l]?=b0 (.dT (dR (ms.take i)))):SoI w h a l ν ms i [b0 (.int w),b0 (.int h),b0 (.loc a),b0 (.loc l),x,y] μ
theorem T6(k:Nat){w h:Int}{a l:Nat}{c:Hm}{m:(Int×Int)×Str}{ms:List ((Int×Int)×Str)}(e:cG w h m.1)(i:m.2="o"\/m.2="h"\/m.2="v") (d:m.1∉ms.map (·.1))(j:ms.length<=900){y:Option D}(g:c[l]?=b0 (.dT (dR ms))){R:Fl×aG×Hm->Prop}
  (H:∀y,R (.nx,[b0 (.int w),b0 (.int h),b0 (.loc a),b0 (.loc l),b0 (MD m),y],c.set l (.dT (dR (ms++[m]))))):W (Ar (k+3) [b0 (.int w),b0 (.int h),b0 (.loc a),b0 (.loc l),b0 (MD m),y] c) R:=by
 refine bE ⟨_,rfl,uS (pE (iB (aQ rfl (bB (T3 k e c) ⟨rfl,rfl,dN (uS (pE (iB (aQ rfl (bB (T2 (k+2) i c) ⟨rfl,rfl,dN (uS (dO (bX rfl rfl ((Fc g (lV m.1)).mpr ?_))))⟩)))))⟩))))⟩;rw[Gs d];refine⟨_,rfl,rfl,dN (w_mPut.mpr ⟨_,rfl,_,rfl,_,rfl,(Ak g (lV m.1) (by unfold dR;rw[U8,VC];lia)).mpr ?_⟩)⟩;rw[T4 d];exact H _
theorem Gu(k:Nat){w h:Int}(hw:1<=w/\w<=6)(v:1<=h/\h<=6){ms:List ((Int×Int)×Str)}(A:ms.length<=900)(x:t4 ms.length)(z:(ms.map (·.1)).Nodup)(u:∀m∈ms,cG w h m.1)(ok:∀m∈ms,m.2="o"\/m.2="h"\/m.2="v")
  {c:Hm}{a:Nat}(q:c[a]?=b0 (.lst (ms.map MD)))(Q:jz)(H:∀S j,c<+:j->S.Perm ms->Q (SH w h S,j)):W (f (k+4) "sheet_of" [.int w,.int h,.loc a] c) Q:=by
 refine cJ (Rf (k+3) _ _ _ c) (o9 (aQ rfl (bB (T1 k hw v c) (bE (w_mDNewT.mpr (eH (w_mForI.mpr (w_iSeq.mpr ⟨_,rfl,(cT (aJ (aP _ _) q)).mpr ?_⟩))))))));refine iL (b:=Ar (k+3)) (SoI w h a c.length c ms) (.mk (aP _ _) (by rw[X0];exact aZ _ _)) (by rintro _ _ _ ⟨p,_⟩;exact aJ p q) ?_ ?_
 .rintro i d _ _ hd ⟨p,g⟩;rw[Vx]at hd;obtain⟨m,n,rfl⟩:=Vd.mp hd;have o:=VR n;refine⟨_,rfl,T6 k (u m o) (ok m o) ?_ (by rw[VG];lia) g λy=>.mk (fV p (Vk _) _) ?_⟩
  .have:=AS z (n:=i) (x:=m.1) (by rw[Vx,n];rfl);rw[<- a4x]at this;exact this
  .rw[eS g,pH n]
 .rintro _ l ⟨p,g⟩;rw[U8,Xk]at g;obtain⟨S,r,s⟩:=T5 ms;have e:t7 (.loc c.length) l=b0 (.tup (S.map MD),l):=by simp only[t7,g];rw[if_pos (by first|exact trivial|(unfold dR;rw[U8];exact x)),s]
  exact⟨rfl,cM (w_mTup.mpr (bK ⟨_,rfl,bK ⟨_,rfl,bK (W_bind.mpr ⟨_,rfl,_,e,_,rfl,by show(3:Nat)<=Vp;decide,H _ _ p r⟩)⟩⟩))⟩
noncomputable def mkS:List Str:=["o","o","h","v","o","o","o","o"]
theorem T7:∀j:Nat,j<8->∃s:Str,(s="o"\/s="h"\/s="v")/\atI (mkS.map D.str) (j:Int)=b0 (.str s)
 |0,_=>⟨"o",.inl rfl,rfl⟩|1,_=>⟨"o",.inl rfl,rfl⟩|2,_=>⟨"h",.inr (.inl rfl),rfl⟩|3,_=>⟨"v",.inr (.inr rfl),rfl⟩|4,_=>⟨"o",.inl rfl,rfl⟩|5,_=>⟨"o",.inl rfl,rfl⟩|6,_=>⟨"o",.inl rfl,rfl⟩|7,_=>⟨"o",.inl rfl,rfl⟩|n+8,h=>absurd h (by lia)
theorem T8{i:Int}(h:0<=i/\i<3):∃t:Int,(0<t/\t<=8)/\atI ([3,4,8].map D.int) i=b0 (.int t):=by
 have:i=0\/i=1\/i=2:=by lia
 rcases this with rfl|rfl|rfl
 .exact⟨3,by decide,rfl⟩
 .exact⟨4,by decide,rfl⟩
 .exact⟨8,by decide,rfl⟩
theorem T9{d0 d1 d2 d3 d4 d5 x9:Option D}{z:Int×Int}{n:Int}{b:Nat}{a:Hm}{ms:List ((Int×Int)×Str)}(m:ms.length<=900)(g:a[b]?=b0 (.lst (ms.map MD))){R:Fl×aG×Hm->Prop}
  (H:∀(s:Str) n' x9 μ',(s="o"\/s="h"\/s="v")->a<+:μ'->R (.nx,[d0,d1,d2,d3,d4,d5,b0 (PP z),b0 (.int n'),b0 (.loc b),x9],μ'.set b (.lst ((ms++[(z,s)]).map MD)))) :
  W (Fo [d0,d1,d2,d3,d4,d5,b0 (PP z),b0 (.int n),b0 (.loc b),x9] a) R:=by
 obtain⟨t,l,h⟩:=T8 (i:=n%3) (by lia);have o:0<=n/16%t/\n/16%t<t:=⟨YM _ (by lia),Yh _ (by lia)⟩;obtain⟨j,i⟩:∃j:Nat,n/16%t=j:=⟨(n/16%t).toNat,by lia⟩;obtain⟨s,k,e⟩:=T7 j (by lia);refine bE (aT (bB (r:=(.int (n/16),a)) (by kernel_rfl) (aT (bB (r:=(.loc a.length,a++[C.lst ([3,4,8].map D.int)])) (by kernel_rfl) (bB (r:=(.int (n%3),a++[C.lst ([3,4,8].map D.int)])) (by kernel_rfl) ((c6 (aZ _ _) h).mpr ((dM l.1).mpr ?_)))))));rw[i];have c:=aP a (C.lst ([3,4,8].map D.int));generalize a++[C.lst ([3,4,8].map D.int)]=μ1 at c ⊢;refine o9 (e8 ⟨_,rfl,fA (aJ c g),bK (w_mTup.mpr (bK ⟨_,rfl,bK (aT (bB (r:=(.loc μ1.length,μ1++[C.lst (mkS.map D.str)])) (by kernel_rfl) ⟨_,rfl,(c6 (aZ _ _) e).mpr ⟨_,rfl,kL,_,rfl,?_⟩⟩))⟩))⟩);have d:=aP μ1 (C.lst (mkS.map D.str));refine(lR (aJ (c.trans d) g) (by rw[U8,VC];lia)).mpr (w_mSet.mpr (aT (aT (aT ⟨_,rfl,_,rfl,(lQ (.inr ⟨by decide,by decide⟩)).mpr ⟨_,rfl,w_addI.mpr ⟨_,rfl,(dM (by decide)).mpr ?_⟩⟩⟩))));rw[show ms.map MD++[D.tup [PP z,.str s]]=(ms++[(z,s)]).map MD by rw[VZ];rfl];exact H s _ _ _ k (c.trans d)
inductive MrI (d0 d1 d2 d3 d4 d5:Option D)(l b:Nat)(ν:Hm)(es:jq):Nat->aG->Hm->Prop
 |mk {i:Nat}{n:Int}{x6 x9:Option D}{μ:Hm}{ms:List ((Int×Int)×Str)}(p:ν<+:μ)(gl:μ[l]?=b0 (.lst (es.map PP)))(g:μ[b]?=b0 (.lst (ms.map MD)))(hm:ms.map (·.1)=es.take i)(ok:∀m∈ms,m.2="o"\/m.2="h"\/m.2="v"):MrI d0 d1 d2 d3 d4 d5 l b ν es i [d0,d1,d2,d3,d4,d5,x6,b0 (.int n),b0 (.loc b),x9] μ
inductive ShOk (S:List ((Int×Int)×Str)):Prop
 |mk (len:S.length<=600)(nd:(S.map (·.1)).Nodup)(ok:∀m∈S,m.2="o"\/m.2="h"\/m.2="v")
theorem Gv(k:Nat){ns:List Int}{w h:Int}(hw:1<=w/\w<=6)(y:1<=h/\h<=6){es:jq}(x:es.Nodup)(v:∀p∈es,cG w h p)(E:es.length<=55){l:Nat}{c:Hm}(gl:c[l]?=b0 (.lst (es.map PP))){d2 d5 d6:Option D}{R:Fl×aG×Hm->Prop}(H:∀S ρ μ',ShOk S->(∀m∈S,cG w h m.1)->R (.rt (SH w h S),ρ,μ')) :
  W (Fp (k+4) [b0 (.rol (ns.map D.int)),b0 (.int 0),d2,b0 (.tup [.int w,.int h]),b0 (.loc l),d5,d6,b3,b3,b3] c) R:=by
 refine bE (aT (aQ rfl (nH (k+3) ns (by lia) _ _ ⟨_,rfl,(dM (by decide)).mpr (bE ⟨_,rfl,?_⟩)⟩)));have u:=aP c (C.lst []);have G:l<c.length:=(Vc.mp gl).1;refine eH (w_mForI.mpr (w_iSeq.mpr ⟨_,rfl,(cT (aJ u gl)).mpr ?_⟩));refine iL (MrI (b0 (.rol (ns.map D.int))) (b0 (.int 0)) d2 (b0 (.tup [.int w,.int h])) (b0 (.loc l)) d5 l c.length c es) (.mk (ms:=[]) u (aJ u gl) (aZ _ _) (by rw[X0];rfl) (λ_ h=>nomatch h)) (by rintro _ _ _ ⟨_,g,_,_,_⟩;exact g) ?_ ?_
 .rintro i d _ _ hd ⟨p,e,g,a,ok⟩;obtain⟨z,B,rfl⟩:=nC hd;rename_i r;have n:r.length<=900:=by have:=congrArg WI a;rw[U8,VG]at this;lia
  refine⟨_,rfl,T9 n g λs I K μ' A q=>.mk (fV (p.trans q) (Vk _) _) ?_ (eS (aJ q g)) ?_ λm a=>?_⟩
  .rw[V3 (by lia)];exact aJ q e
  .rw[VZ,a,pH B];rfl
  .rcases V4.mp a with a|a
   .exact ok m a
   .rw[V8.mp a];exact A
 .rintro _ _ ⟨p,e,g,a,ok⟩;rename_i r;rw[U8,Xk]at a;have n:r.length=es.length:=by have:=congrArg WI a;rw[U8]at this;exact this
  refine⟨rfl,cM (aQ rfl (Gu k hw y (by lia) (by first|exact trivial|(show _<64;lia)) (by rw[a];exact x) (λm j=>v _ (by rw[<- a];exact VQ.mpr ⟨m,j,rfl⟩)) ok g _ λS μ' q o=>H S _ _ ⟨by rw[o.length_eq];lia,(o.map (·.1)).nodup_iff.mpr (by rw[a];exact x),λm j=>ok m (o.mem_iff.mp j)⟩ λm j=>v _ (by rw[<- a];exact VQ.mpr ⟨m,o.mem_iff.mp j,rfl⟩)))⟩
theorem Ua{w h:Int}{es:jq}(k:es.Nodup)(i:∀p∈es,cG w h p)(s:es.length<=54){z:Int×Int}(hz:cG w h z){l:Nat}{g:Hm}(gl:g[l]?=b0 (.lst (es.map PP))){d0 d1 d2 d3 d5:Option D}{R:Fl×aG×Hm->Prop}(H:∀fs:jq,fs.Nodup->(∀p∈fs,cG w h p)->fs.length<=55->R (.nx,[d0,d1,d2,d3,b0 (.loc l),d5,b0 (PP z),b3,b3,b3],g.set l (.lst (fs.map PP)))) :
  W (Fq [d0,d1,d2,d3,b0 (.loc l),d5,b0 (PP z),b3,b3,b3] g) R:=by
 refine w_mIfS.mpr (dO (bX rfl rfl ((AM gl).mpr ⟨_,rfl,?_⟩)));cases c:es.any λp=>p==z with
 |true=>
  have d:z∈es:=by obtain⟨y,o,e⟩:=ZQ.mp c;rw[<- beq_iff_eq.mp e];exact o
  exact(if_pos rfl).mpr (w_mDrop.mpr (e8 ⟨_,rfl,fA gl,_,rfl,S9 gl d (by lia) λr m j=>H r (m.nodup k) (λp a=>i p (m.subset a)) (by lia)⟩))
 |false=>
  have n:z∉es:=λd=>by have:(es.any λp=>p==z)=true:=ZQ.mpr ⟨z,d,beq_self_eq_true z⟩;rw[this]at c;cases c
  refine(if_neg Vm).mpr (w_mDrop.mpr (e8 ⟨_,rfl,fA gl,_,rfl,(lR gl (by rw[U8,VC];lia)).mpr ?_⟩));rw[show es.map PP++[PP z]=(es++[z]).map PP by rw[VZ];rfl];refine H _ (YX.mpr ⟨k,WG.mpr ⟨Yy,.nil⟩,λp a q j e=>n ?_⟩) (λp a=>?_) (by rw[Vh];show _+1<=_;lia)
  .rw[<- V8.mp j,<- e];exact a
  .rcases V4.mp a with a|a
   .exact i p a
   .rw[V8.mp a];exact hz
theorem Gw{w h:Int}(hw:1<=w)(a:1<=h):0<((b6 w h).filter cK).length:=a2c (a:=(1,1)) (Wy.mpr ⟨mem_pl.mpr ⟨⟨by decide,by dsimp only;lia⟩,by decide,by dsimp only;lia⟩,by decide⟩)
theorem Gx(k:Nat){ns:List Int}{v w h:Int}(hw:1<=w/\w<=6)(g:1<=h/\h<=6){es:jq}(s:es.Nodup)(r:∀p∈es,cG w h p)(z:es.length<=54){l:Nat}{u:Hm}(gl:u[l]?=b0 (.lst (es.map PP))){R:Fl×aG×Hm->Prop}(H:∀S ρ μ',ShOk S->(∀m∈S,cG w h m.1)->R (.rt (SH w h S),ρ,μ')) :
  W (Au (k+4) [b0 (.rol (ns.map D.int)),b0 (.int 0),b0 (.int v),b0 (.tup [.int w,.int h]),b0 (.loc l),b3,b3,b3,b3,b3] u) R:=by
 refine bE (aQ rfl (AV (k+2) hw g _ _ λa c B q=>?_));have E:=Gw hw.1 g.1;have d:=aJ B gl;refine fB (b:=v/324%4==1) (μ':=c) (by kernel_rfl) (λ_=>rM ?_) λ_=>dN (Gv k hw g s r (by lia) d H);have x:bM [.loc a] c=b0 (.int (((b6 w h).filter cK).length:Nat),c):=bN ((c7 q).mpr (by rw[U8]));obtain⟨j,y⟩:∃j:Nat,v/1296%(((b6 w h).filter cK).length:Int)=j:=⟨(v/1296%(((b6 w h).filter cK).length:Int)).toNat,by have:=YM (v/1296) (b:=(((b6 w h).filter cK).length:Int)) (by lia);lia⟩;have e:j<((b6 w h).filter cK).length:=by have:=Yh (v/1296) (b:=(((b6 w h).filter cK).length:Int)) (by lia);lia
 refine bE (aT ⟨_,rfl,aT (bB (r:=(.int (v/1296),c)) (by kernel_rfl) (aQ rfl (bB x ((dM (by lia)).mpr ?_))))⟩);rw[y];refine⟨_,fD q e,?_⟩;have A:cG w h (((b6 w h).filter cK).getD j (0,0)):=by unfold cG;rw[Vt,Vb e];exact Wx e
 refine eH (Ua s r z A d λfs o i n=>⟨rfl,Gv k hw g o i n (eS d) H⟩)
noncomputable def Ub(k:Nat):MS:=aH (aM 4 (aF (f k "_law_creases") (aB (aA 0) (aB (aA 1) (aB (aA 3) aD))))) (aH (bA (fG (aO (aC (aX b5) (aC aV (aC cP (aA 2) (mC (.int 9))) (mC (.int 6))) (mC (.int 5)))) (aO (aC (aX b5) (aC aV (aC cP (aA 2) (mC (.int 5184))) (mC (.int 4))) (mC (.int 1))))) (aH (aM 3 (aU (aB (mC (.int 3)) (aB (mC (.int 3)) aD)))) (aM 4 (aF (f k "_law_square") aD))) bC) (Au k))
theorem Uc:∀p∈sqA++sqB,(decide (0<p.1/\p.1<4*3)&&decide (0<p.2/\p.2<4*3)&&cK p)=true:=by decide
theorem Gy(k:Nat){ns:List Int}{w h:Int}(hw:1<=w/\w<=6)(e:1<=h/\h<=6)(o:cF ns 0/9%6<3\/cF ns 0/9%6=5->w<=3/\h<=3){u:Hm}{R:Fl×aG×Hm->Prop}(H:∀w h S ρ μ',1<=w/\w<=6->1<=h/\h<=6->ShOk S->(∀m∈S,cG w h m.1)->R (.rt (SH w h S),ρ,μ')) :
  W (Ub (k+6) [b0 (.rol (ns.map D.int)),b0 (.int 0),b0 (.int (cF ns 0)),b0 (.tup [.int w,.int h]),b3,b3,b3,b3,b3,b3] u) R:=by
 refine bE (aQ rfl (TZ k ns hw e o _ _ λa g x y i s n q=>?_));refine fB (μ':=g) (vC (kP (b:=cF ns 0/9%6==5) (by kernel_rfl)) (kP (b:=cF ns 0/5184%4==1) (by kernel_rfl))) (λ_=>rM (bE ⟨_,rfl,?_⟩)) λ_=>dN (Gx (k+2) hw e s n q i λS ρ μ' d c=>H w h S ρ μ' hw e d c);refine bE (aQ rfl (Tc (k+5) _ _ λl v z _ j=>Gx (k+2) (w:=3) (h:=3) (by decide) (by decide) sq_ok.1 (λp r=>?_) (by decide) j λS ρ μ' d c=>H 3 3 S ρ μ' (by decide) (by decide) d c));have:=Uc p r;simp only[Vl,decide_eq_true_eq]at this;exact kN this.1.1 this.1.2 this.2
theorem Ud{s t:MT}{ρ:aG}{c:Hm}{a b:Bool}(d:s ρ c=b0 (a,c))(e:t ρ c=b0 (b,c)):i8 s t ρ c=b0 (a||b,c):=bN (w_mOrT.mpr ⟨_,d,by
 cases a with
 |true=>exact(if_pos rfl).mpr rfl
 |false=>exact(if_neg Vm).mpr ⟨_,e,rfl⟩⟩)
theorem Ue(h x:Int):(iR h x).Nodup:=by unfold iR a0x;rw[Xv];exact a0S.imp λz e=>z (by have:=congrArg Prod.snd e;dsimp only at this;lia)
theorem Gz(h:Int):∀n:Nat,(iS h n).Nodup/\∀p∈iS h n,p.1<1+(n:Int)
 |0=>⟨.nil,λ_ h=>nomatch h⟩|n+1=>by
  obtain⟨g,c⟩:=Gz h n;have d:∀p∈iR h (1+(n:Int)),p.1=1+(n:Int):=λp a=>by obtain⟨j,_,rfl⟩:=VQ.mp a;rfl
  rw[AA];refine⟨YX.mpr ⟨g,Ue h _,λp a q i e=>?_⟩,λp a=>?_⟩
  .have:=c p a;rw[e,d q i]at this;lia
  .rcases V4.mp a with a|a
   .have:=c p a;lia
   .have:=d p a;lia
theorem Ug{d1 d2:Option D}{z:Int×Int}{n:Int}{b:Nat}{a:Hm}{ms:List ((Int×Int)×Str)}(l:ms.length<=900)(g:a[b]?=b0 (.lst (ms.map MD))){R:Fl×aG×Hm->Prop}(d:∀c,R (.nx,[b0 (.int c),d1,d2,b0 (.loc b),b0 (PP z)],a))
  (i:∀(s:Str) c,(s="o"\/s="h"\/s="v")->R (.nx,[b0 (.int c),d1,d2,b0 (.loc b),b0 (PP z)],a.set b (.lst ((ms++[(z,s)]).map MD)))):W (Av [b0 (.int n),d1,d2,b0 (.loc b),b0 (PP z)] a) R:=by
 refine fB (b:=decide (0<n%4)) (μ':=a) (by kernel_rfl) (λh=>?_) λ_=>dN (w_mSet.mpr (bB (r:=(D.int (n/4),a)) (by kernel_rfl) (d (n/4))));have h:=of_decide_eq_true h;obtain⟨s,k,j⟩:∃s:Str,(s="o"\/s="h"\/s="v")/\aE (.str " ohv") (.int (n%4)) a=b0 (.str s,a):=by
  have:n%4=1\/n%4=2\/n%4=3:=by lia
  rcases this with e|e|e<;>rw[e]
  .exact⟨"o",.inl rfl,by kernel_rfl⟩
  .exact⟨"h",.inr (.inl rfl),by kernel_rfl⟩
  .exact⟨"v",.inr (.inr rfl),by kernel_rfl⟩
 refine o9 (e8 ⟨_,rfl,fA g,bK (w_mTup.mpr (bK ⟨_,rfl,bK (bX (x:=.str " ohv") (y:=.int (n%4)) rfl (by kernel_rfl) ⟨_,j,_,rfl,kL,_,rfl,?_⟩)⟩))⟩);refine(lR g (by rw[U8,VC];lia)).mpr ?_;rw[show ms.map MD++[D.tup [PP z,.str s]]=(ms++[(z,s)]).map MD by rw[VZ];rfl];exact w_mSet.mpr (bB (r:=(D.int (n/4),a.set b (.lst ((ms++[(z,s)]).map MD)))) (by kernel_rfl) (i s (n/4) k))
inductive AnI (d1 d2:Option D)(a b:Nat)(ν:Hm)(es:jq):Nat->aG->Hm->Prop
 |mk {i:Nat}{n:Int}{x:Option D}{μ:Hm}{ms:List ((Int×Int)×Str)}(p:ν<+:μ)(gl:μ[a]?=b0 (.lst (es.map PP)))(g:μ[b]?=b0 (.lst (ms.map MD)))(hm:(ms.map (·.1)).Sublist (es.take i))(ok:∀m∈ms,m.2="o"\/m.2="h"\/m.2="v"):AnI d1 d2 a b ν es i [b0 (.int n),d1,d2,b0 (.loc b),x] μ
theorem Uh(k:Nat)(n c:Int)(o:Hm)(Q:jz)(H:∀w h S μ',1<=w/\w<=6->1<=h/\h<=6->ShOk S->(∀m∈S,cG w h m.1)->Q (SH w h S,μ')):W (f (k+5) "_law_any_sheet" [.int n,.int c] o) Q:=by
 have hw:1<=1+c%6/\1+c%6<=6:=by lia
 have q:1<=1+c/6%6/\1+c/6%6<=6:=by lia
 refine cJ (RR (k+4) _ _ o) (bE (bB (r:=(.tup [.int (1+c%6),.int (1+c/6%6)],o)) (by kernel_rfl) ?_));generalize 1+c%6=w at hw ⊢;generalize 1+c/6%6=h at q ⊢;refine bE ⟨_,rfl,eH (w_mForI.mpr (w_iSeq.mpr (aQ rfl (AV (k+2) hw q _ _ λa N G j=>(cT j).mpr ?_))))⟩;have y:=aJ G (aZ o (C.lst []));have A:=Gw hw.1 q.1;have M:a≠o.length:=λz=>by rw[z,y]at j;injection j with j;injection j with j;rw[a2J.mp j.symm]at A;exact absurd A (W3 _)
 have x:((b6 w h).filter cK).Nodup:=(Gz h _).1.sublist a0q;have v:∀p∈(b6 w h).filter cK,cG w h p:=λ_ h=>h;have I:((b6 w h).filter cK).length<=529:=WD (WV _ _) (rO hw.2 q.2);generalize(b6 w h).filter cK=es at j x v I;refine iL (b:=Av) (AnI (b0 (.int c)) (b0 (.tup [.int w,.int h])) a o.length o es) (.mk (ms:=[]) ((aP _ _).trans G) j y (List.nil_sublist _) (λ_ h=>nomatch h)) (by rintro _ _ _ ⟨_,g,_,_,_⟩;exact g) ?_ ?_
 .rintro i d _ _ hd ⟨p,gl,g,e,ok⟩;obtain⟨z,B,rfl⟩:=nC hd;rename_i E;have l:E.length<=900:=by have:=e.length_le;rw[U8,VG]at this;lia
  refine⟨_,rfl,Ug l g (λL=>.mk p gl g (e.trans ?_) ok) λs L K=>.mk (fV p (Vk _) _) ?_ (eS g) ?_ λm e=>?_⟩
  .rw[pH B];exact List.sublist_append_left ..
  .rw[V3 (WM M)];exact gl
  .rw[VZ,pH B];exact e.append (a5v _)
  .rcases V4.mp e with e|e
   .exact ok m e
   .rw[V8.mp e];exact K
 .rintro _ _ ⟨p,gl,g,e,ok⟩;rename_i E;rw[U8,Xk]at e;have l:=e.length_le;rw[U8]at l;exact⟨rfl,cM (aQ rfl (Gu k hw q (by lia) trivial (e.nodup x) (λm r=>v _ (e.subset (VQ.mpr ⟨m,r,rfl⟩))) ok g _ λS μ' O u=>H w h S _ hw q ⟨by rw[u.length_eq];lia,(u.map (·.1)).nodup_iff.mpr (e.nodup x),λm r=>ok m (u.mem_iff.mp r)⟩ λm r=>v _ (e.subset (VQ.mpr ⟨m,u.mem_iff.mp r,rfl⟩))))⟩
theorem Ui(k:Nat)(ns:List Int)(a:Hm)(Q:jz)(H:∀w h S μ',1<=w/\w<=6->1<=h/\h<=6->ShOk S->(∀m∈S,cG w h m.1)->Q (SH w h S,μ')):W (f (k+7) "_law_sheet" [.rol (ns.map D.int),.int 0] a) Q:=by
 have c:∀{j:Int},0<=j->f (k+6) "_law_nth" [.rol (ns.map D.int),.int j] a=b0 (.int (cF ns j),a):=λl=>bN (nH (k+5) ns l a _ rfl);refine cJ (RT (k+6) _ _ a) (fB (μ':=a) (vC (kP (b:=cF ns 8%2==1) (bN (aT (aT (aQ rfl (bB (c (by decide)) ⟨_,rfl,w_mod2.mpr ⟨_,rfl,w_eqI.mpr rfl⟩⟩)))))) (Ud (kP (b:=decide (4096<cF ns 9)) (bN (aT (aQ rfl (bB (c (by decide)) ⟨_,rfl,w_gtI.mpr rfl⟩))))) (kP (b:=decide (cF ns 9<0)) (bN (aT (aQ rfl (bB (c (by decide)) ⟨_,rfl,w_ltI.mpr rfl⟩))))))) (λ_=>?_) λ_=>dN ?_)
 .exact jK (iO (bK (aQ rfl (bB (c (by decide)) (bK (aQ rfl (bB (c (by decide)) ⟨_,rfl,Uh (k+1) _ _ _ _ H⟩)))))))
 .refine bE (aQ rfl (bB (c (by decide)) ?_));have o:0<=cF ns 0%3/\cF ns 0%3<3/\0<=cF ns 0/3%3/\cF ns 0/3%3<3:=by lia
  refine bE (bB (r:=(.tup [.int (1+cF ns 0%3),.int (1+cF ns 0/3%3)],a)) (by kernel_rfl) ?_);refine fB (μ':=a) (vC (kP (rY (x:=2) (y:=cF ns 0/9%6) (z:=5) rfl (by kernel_rfl) rfl)) (kP (b:=cF ns 0/5184%4==1) (by kernel_rfl))) (λz=>?_) λz=>dN ?_
  .simp only[Vl,decide_eq_true_eq]at z;refine bE (bB (r:=(.tup [.int (1+cF ns 0%3+3),.int (1+cF ns 0/3%3+3)],a)) (by kernel_rfl) ?_);exact Gy k (by lia) (by lia) (λy=>by lia) λw h S n μ' d e g i=>H w h S μ' d e g i
  .exact Gy k (by lia) (by lia) (λy=>by lia) λw h S n μ' d e g i=>H w h S μ' d e g i
noncomputable def Rot{c:Type}(l a:List c):Prop:=∃u v,l=u++v/\a=v++u
theorem Rot.len{c:Type}{l a:List c}:Rot l a->l.length=a.length:=λ⟨u,v,h,h'⟩=>by subst h h';simp;lia
theorem Uj{x:D}{xs:List D}:atI (x::xs) 0=b0 x:=rR (i:=0) rfl
noncomputable abbrev Wd:=Int×Bool×List Int
noncomputable def nJ(x y z:Wd):Bool:=decide (y.1<=x.1)&&decide (y.1<=z.1)&&(y.2.1 != z.2.1)
noncomputable def nK(w:Wd):Bool:=w.2.2.headD 0%2==1
noncomputable def fX(x y z:Wd):Wd:=(x.1-y.1+z.1,x.2.1,if y.2.1==nK y then x.2.2++y.2.2++z.2.2 else z.2.2++y.2.2++x.2.2)
noncomputable def rZ(x y:Wd):Option (List Int):=if x.2.1 != y.2.1 then b3 else b0 (if x.2.1==nK x then y.2.2++x.2.2 else x.2.2++y.2.2)
noncomputable def l7:List Wd->Bool
 |x::y::z::_=>nJ x y z|_=>b5
noncomputable def fY(l:List Wd)(k:Nat):List Wd:=l.drop k++l.take k
noncomputable def iW(l:List Wd):Option (List Wd):=((VS l.length).find? λk=>l7 (fY l k)).map (fY l)
noncomputable def iX:Nat->List Wd->Option (List Int)
 |0,_=>b3
 |t+1,l=>if 2<l.length then(match iW l with
   |some (x::y::z::r)=>iX t (fX x y z::r)
   |_=>b3)else(match l with
   |[x,y]=>rZ x y
   |_=>b3)
theorem Uk{l:List Wd}(h:l7 l=dI):∃x y z r,l=x::y::z::r/\nJ x y z=true:=by
 match l,h with
 |x::y::z::r,h=>exact⟨x,y,z,r,rfl,h⟩
theorem Ul(l:List Wd)(k:Nat):Rot l (fY l k):=⟨l.take k,l.drop k,by simp,rfl⟩
theorem Um{l a:List Wd}(h:iW l=b0 a):Rot l a/\∃x y z r,a=x::y::z::r/\nJ x y z=true:=by unfold iW at h;obtain⟨k,c,rfl⟩:=Vd.mp h;exact⟨Ul l k,Uk (by simpa using List.find?_some c)⟩
theorem Uo(x y z:Wd):(fX x y z).2.2.Perm (x.2.2++y.2.2++z.2.2):=by
 unfold fX;dsimp only;split
 .exact YI _
 .refine Xd.trans ?_;rw[Vz];exact List.Perm.append_left _ Xd
noncomputable def iY(gs:List Int)(bs:List Bool):List Wd:=(VS gs.length).map λk=>(gs.getD k 0,bs.getD k b5,[((k:Nat):Int)])
inductive All2 {α β:Type}(R:α->β->Prop):List α->List β->Prop
 |nil:All2 R [] []
 |cons {d:α}{w:β}{ds:List α}{l:List β}:R d w->All2 R ds l->All2 R (d::ds) (w::l)
section
variable{α β:Type}{R R':α->β->Prop}
theorem All2.mono(p:∀d w,R d w->R' d w){ds:List α}{l:List β}(h:All2 R ds l):All2 R' ds l:=by
 induction h with
 |nil=>exact .nil|cons h _ a=>exact .cons (p _ _ h) a
theorem All2.len{ds:List α}{l:List β}(h:All2 R ds l):ds.length=l.length:=by
 induction h with
 |nil=>rfl|cons h _ a=>simp[a]
theorem All2.app{ds a:List α}{l c:List β}(h:All2 R ds l)(h':All2 R a c):All2 R (ds++a) (l++c):=by
 induction h with
 |nil=>exact h'|cons h _ d=>exact .cons h d
theorem All2.drop{ds:List α}{l:List β}(h:All2 R ds l):∀k,All2 R (ds.drop k) (l.drop k):=by
 induction h with
 |nil=>intro k;simp;exact .nil|cons h t a=>intro k;cases k with
  |zero=>exact .cons h t|succ k=>exact a k
theorem All2.take{ds:List α}{l:List β}(h:All2 R ds l):∀k,All2 R (ds.take k) (l.take k):=by
 induction h with
 |nil=>intro k;simp;exact .nil|cons h t a=>intro k;cases k with
  |zero=>exact .nil|succ k=>exact .cons h (a k)
theorem All2.map{c:Type}{f:c->α}{g:c->β}:∀{r:List c},(∀k∈r,R (f k) (g k))->All2 R (r.map f) (r.map g)
 |[],_=>.nil|a::r,h=>.cons (h a Wj) (All2.map λk d=>h k (VU _ d))
end
noncomputable def IsW(c:Hm)(d:D)(w:Wd):Prop:=∃a,d=.tup [.int w.1,.str (iC w.2.1),.loc a]/\c[a]?=b0 (.lst (w.2.2.map D.int))/\w.2.2≠[]/\w.2.2.length<=8
noncomputable abbrev iZ(a:Hm):List D->List Wd->Prop:=All2 (IsW a)
theorem IsW.mono{c μ':Hm}(p:c<+:μ'){d:D}{w:Wd}:IsW c d w->IsW μ' d w:=λ⟨a,h1,e,g⟩=>⟨a,h1,aJ p e,g⟩
theorem GA{a μ':Hm}(p:a<+:μ'){ds:List D}{l:List Wd}(h:iZ a ds l):iZ μ' ds l:=All2.mono (λ_ _=>IsW.mono p) h
theorem Up{a:Hm}{ds:List D}{l:List Wd}(h:iZ a ds l)(k:Nat):iZ a (ds.drop k++ds.take k) (fY l k):=(h.drop k).app (h.take k)
theorem GB{a:Hm}{ds:List D}{x y z:Wd}{r:List Wd}(h:iZ a ds (x::y::z::r)):∃d e dz c,ds=d::e::dz::c/\IsW a d x/\IsW a e y/\IsW a dz z/\iZ a c r:=by
 cases h with
 |cons g h=>cases h with
  |cons i h=>cases h with
   |cons j h=>exact⟨_,_,_,_,rfl,g,i,j,h⟩
theorem Uq{a:Hm}{ds:List D}{x y:Wd}(h:iZ a ds [x,y]):∃c d,ds=[c,d]/\IsW a c x/\IsW a d y:=by
 cases h with
 |cons e h=>cases h with
  |cons g h=>cases h;exact⟨_,_,rfl,e,g⟩
theorem GC(xs:List D){j:Int}(h:0<=j/\j<=xs.length):fP xs (b0 j) b3=xs.drop j.toNat:=by
 unfold fP;have a:HT.sIx xs.length 0 (b0 j)=j.toNat:=by show(if j<0 then(j+(xs.length:Int)).toNat else min j.toNat xs.length)=j.toNat;rw[if_neg (by lia)];lia
 have c:HT.sIx xs.length xs.length b3=xs.length:=HT.sIx_none _ _;rw[a,c,W5 (by rw[V5];exact Vk _)]
theorem Ur(xs:List D){j:Int}(h:0<=j/\j<=xs.length):fP xs b3 (b0 j)=xs.take j.toNat:=by
 unfold fP;have a:HT.sIx xs.length 0 b3=0:=HT.sIx_none _ _;have c:HT.sIx xs.length xs.length (b0 j)=j.toNat:=by show(if j<0 then(j+(xs.length:Int)).toNat else min j.toNat xs.length)=j.toNat;rw[if_neg (by lia)];lia
 rw[a,c,Xw,Z1]
theorem l8{xs:List D}{i:Nat}{d:D}(h:xs[i]?=b0 d):atI xs (i:Int)=b0 d:=by unfold atI;rw[uT (by lia) (by have:=(Vc.mp h).1;lia),VT,show((i:Int)).toNat=i by lia,h]
theorem A2(a b:Bool):(iC a==iC b)=(a==b):=by cases a<;>cases b<;>kernel_rfl
theorem GD(a:Bool):(iC a=="v")=a:=by cases a<;>kernel_rfl
theorem Us(k:Nat){a:Hm}{c d dz:D}{x y z:Wd}(g:IsW a c x)(h:IsW a d y)(hz:IsW a dz z)(Q:jz):W (f (k+1) "is_crimp" [c,d,dz] a) Q↔Q (.bl (nJ x y z),a):=by obtain⟨i,rfl,_⟩:=g;obtain⟨j,rfl,_⟩:=h;obtain⟨l,rfl,_⟩:=hz;rw[Ry,W_fin];simp only[w_mRet,w_mAndV,w_mOp,aY,bG,bS,w_it30,w_it31,w_leI,EY,A2];have e:(!(y.2.1==z.2.1))=(y.2.1 != z.2.1):=rfl;rw[e];unfold nJ;cases decide (y.1<=x.1)<;>cases decide (y.1<=z.1)<;>simp
theorem GF(k:Nat){e:Hm}{h:D}{x:Wd}(c:IsW e h x)(Q:jz):W (f (k+1) "is_turned_part" [h] e) Q↔Q (.bl (nK x),e):=by
 obtain⟨j,rfl,c,a,_⟩:=c;obtain⟨g,m,d⟩:=x;dsimp only at *;cases d with
 |nil=>exact absurd rfl a|cons o d=>rw[RA,W_fin];have i:atI ((o::d).map D.int) 0=b0 (.int o):=Uj;simp only[w_mRet,w_mOp,aY,bG,bS,w_it32,c6 c i,w_mod2,w_eqI];rfl
theorem Ut(k:Nat){a:Hm}{n o dz:D}{x y z:Wd}(l:IsW a n x)(h:IsW a o y)(hz:IsW a dz z)(s:x.2.2.length+y.2.2.length+z.2.2.length<=8)(Q:jz)
  (H:∀d g,a<+:g->IsW g d (fX x y z)->Q (d,g)):W (f (k+2) "crimped" [n,o,dz] a) Q:=by
 have m:=h;obtain⟨p,rfl,l,nx,u⟩:=l;obtain⟨q,rfl,h,A,v⟩:=h;obtain⟨r,rfl,hz,nz,w⟩:=hz;rw[RB,W_fin];simp only[w_mSeq,w_mSet,w_mIfS,w_mTest,w_mOp,aY,bG,bS,w_it30,w_it31,w_subI,w_addI,V2,Wb,w_eqS,GD,w_mCall,w_mCons,bR,GF k m,w_eqB];by_cases c:(y.2.1==nK y)=dI
 .simp only[c,if_true,w_mRet,w_mTup,w_mCons,bR,w_mOp,aY,bG,bS,w_it31,w_it32];refine(iN l h (by rw[U8,U8,VC];lia)).mpr ?_;have i:=aP a (C.lst (x.2.2.map D.int++y.2.2.map D.int));refine(iN (aZ _ _) (aJ i hz) (by rw[Vh,U8,U8,U8,VC];lia)).mpr ?_;refine⟨by show(3:Nat)<=Vp;decide,?_⟩;refine H _ _ (i.trans (aP _ _)) ⟨_,rfl,?_,?_,?_⟩
  .rw[aZ];unfold fX;simp only[c,if_true,VZ]
  .unfold fX;simp only[c,if_true];intro e;exact nx (YZ.mp (YZ.mp e).1).1
  .unfold fX;simp only[c,if_true,Vh];lia
 .have j:(y.2.1==nK y)=false:=by simpa using c
  simp only[j,Vu,if_false,w_mNext,w_mRet,w_mTup,w_mCons,bR,w_mOp,aY,bG,bS,w_it31,w_it32];refine(iN hz h (by rw[U8,U8,VC];lia)).mpr ?_;have i:=aP a (C.lst (z.2.2.map D.int++y.2.2.map D.int));refine(iN (aZ _ _) (aJ i l) (by rw[Vh,U8,U8,U8,VC];lia)).mpr ?_;refine⟨by show(3:Nat)<=Vp;decide,?_⟩;refine H _ _ (i.trans (aP _ _)) ⟨_,rfl,?_,?_,?_⟩
  .rw[aZ];unfold fX;simp only[j,Vu,if_false,VZ]
  .unfold fX;simp only[j,Vu,if_false];intro e;exact nz (YZ.mp (YZ.mp e).1).1
  .unfold fX;simp only[j,Vu,if_false,Vh];lia
noncomputable def GG(e μ':Hm)(d:D):Option (List Int)->Prop
 |none=>d=.non|some c=>∃a,d=.loc a/\e.length<=a/\μ'[a]?=b0 (.lst (c.map D.int))
theorem Uu(k:Nat){g:Hm}{j l:D}{x y:Wd}(e:IsW g j x)(h:IsW g l y)(Q:jz)
  (H:∀d a,g<+:a->GG g a d (rZ x y)->Q (d,a)):W (f (k+2) "last_two" [j,l] g) Q:=by
 have i:=e;obtain⟨p,rfl,e,nx,r⟩:=e;obtain⟨q,rfl,h,u,s⟩:=h;rw[RC,W_fin];simp only[w_mSeq,w_mIfS,w_mTest,w_mOp,aY,bG,bS,w_it31,EY,A2];have n:(!(x.2.1==y.2.1))=(x.2.1 != y.2.1):=rfl;rw[n];unfold rZ at H;by_cases c:(x.2.1 != y.2.1)=dI
 .simp only[c,if_true,w_mRet,bS]at H ⊢;exact H _ _ (Vo _) rfl
 .have m:(x.2.1 != y.2.1)=false:=by simpa using c
  simp only[m,Vu,if_false,w_mNext,w_mTest,w_mOp,aY,bG,bS,w_it31,w_eqS,GD,w_mCall,w_mCons,bR,GF k i,w_eqB]at H ⊢;by_cases t:(x.2.1==nK x)=dI
  .simp only[t,if_true,w_mRet,w_mOp,aY,bG,bS,w_it32]at H ⊢;refine(iN h e (by rw[U8,U8,VC];lia)).mpr ?_;exact H _ _ (aP _ _) ⟨_,rfl,Vk _,by rw[aZ,VZ]⟩
  .have o:(x.2.1==nK x)=false:=by simpa using t
   simp only[o,Vu,if_false,w_mNext,w_mRet,w_mOp,aY,bG,bS,w_it32]at H ⊢;refine(iN e h (by rw[U8,U8,VC];lia)).mpr ?_;exact H _ _ (aP _ _) ⟨_,rfl,Vk _,by rw[aZ,VZ]⟩
theorem Uv{l:List Wd}{i:Nat}(a:i<l.length)(h:l7 (fY l i)=dI)(d:∀j,j<i->l7 (fY l j)=b5):iW l=b0 (fY l i):=by
 unfold iW;have:(VS l.length).find? (λk=>l7 (fY l k))=b0 i:=by rw[List.find?_range_eq_some];exact⟨h,Wi.mpr a,λj c=>by rw[d j c];rfl⟩
 rw[this];rfl
theorem Uw{l:List Wd}(c:∀j,j<l.length->l7 (fY l j)=b5):iW l=none:=by unfold iW;rw[XF.mpr λk a=>by rw[c k (Wi.mp a)];simp];rfl
noncomputable def Ux(μ':Hm)(d:D):Option (List Wd)->Prop
 |none=>d=.non|some l=>∃a ds,d=.loc a/\μ'[a]?=b0 (.lst ds)/\iZ μ' ds l
theorem Uy(k:Nat){s:Hm}{a:Nat}{ds:List D}{l:List Wd}(A:s[a]?=b0 (.lst ds))(hw:iZ s ds l)(U:3<=l.length/\l.length<=8)(Q:jz)
  (H:∀d e,s<+:e->Ux e d (iW l)->Q (d,e)):W (f (k+2) "brought_ahead" [.loc a] s) Q:=by
 have q:=hw.len;rw[Rz,W_fin];simp only[w_mSeq,w_mForI,kK (j:=0),w_mCall,w_mCons,bR,aY];refine(c7 A).mpr ?_;refine⟨by lia,?_⟩;rw[q,show((l.length:Nat):Int).toNat=l.length by lia];refine iM (lo:=0) (λi w e=>s<+:e/\(∀j,j<i->l7 (fY l j)=b5)/\∃o1 o2,w=[b0 (.loc a),o1,o2]) ⟨Vo _,λj E=>absurd E (Zp _),b3,b3,rfl⟩ ?_ ?_
 .rintro i w e L ⟨n,u,o1,o2,rfl⟩;refine⟨_,rfl,?_⟩;rw[show(0:Int)+(i:Int)=(i:Int) by lia];simp only[V2,Wb,w_mSeq,w_mSet,w_mOp];have p:=aJ n A;refine rK ?_;simp only[aY];refine⟨a,rfl,?_⟩;simp only[m9,nB,aY,bG];refine⟨_,p,?_⟩;rw[GC ds (show 0<=(i:Int)/\(i:Int)<=ds.length by lia)];refine rK ?_;simp only[aY];refine⟨a,rfl,?_⟩;simp only[m9,nB,aY,bG];refine⟨_,aJ (aP _ _) p,?_⟩;rw[Ur ds (show 0<=(i:Int)/\(i:Int)<=ds.length by lia),show((i:Int)).toNat=i by lia];refine(iN (aJ (aP _ _) (aZ _ _)) (aZ _ _) (by rw[V5,VG,VC];lia)).mpr ?_;have v:e<+:e++[C.lst (ds.drop i)]++[C.lst (ds.take i)]++[C.lst (ds.drop i++ds.take i)]:=(aP _ _).trans ((aP _ _).trans (aP _ _));have m:=aZ (e++[C.lst (ds.drop i)]++[C.lst (ds.take i)]) (C.lst (ds.drop i++ds.take i));generalize(e++[C.lst (ds.drop i)]++[C.lst (ds.take i)]).length=c at m ⊢;generalize e++[C.lst (ds.drop i)]++[C.lst (ds.take i)]++[C.lst (ds.drop i++ds.take i)]=μ3 at v m ⊢;have o:=Up (GA (n.trans v) hw) i;have g:(fY l i).length=l.length:=by unfold fY;rw[Vh,V5,VG];lia
  generalize hR:fY l i=R at o g;generalize ds.drop i++ds.take i=es at m o;match R,g,o,hR with
  |x::y::z::r,g,o,hR=>
   obtain⟨G,I,dz,T,rfl,M,N,O,K⟩:=GB o;have B:l7 (fY l i)=nJ x y z:=by rw[hR];rfl
   simp only[V2,Wb,w_mIfS,w_mTru,w_mCall,w_mCons,bR,w_mOp,aY,bG,bS];refine(c6 m (l8 (i:=0) (d:=G) rfl)).mpr ?_;refine(c6 m (l8 (i:=1) (d:=I) rfl)).mpr ?_;refine(c6 m (l8 (i:=2) (d:=dz) rfl)).mpr ?_;rw[Us k M N O];simp only[w_truB];cases hc:nJ x y z with
   |true=>simp only[if_true,w_mRet,aY,bG];refine H _ _ (n.trans v) ?_;rw[Uv L (by rw[B,hc]) u,hR];exact⟨c,_,rfl,m,o⟩|false=>
    simp only[Vu,if_false,w_mNext];refine⟨n.trans v,λj E=>?_,_,_,rfl⟩;by_cases h:j<i
    .exact u j h
    .have:j=i:=by lia
     subst this;rw[B,hc]
  |[],g,_,_=>simp at g;lia|[_],g,_,_=>simp at g;lia|[_,_],g,_,_=>simp at g;lia
 .rintro w e ⟨n,u,o1,o2,rfl⟩;simp only[w_mRet,bS];refine H _ _ n ?_;rw[Uw u];rfl
theorem Uz{bs:List Bool}{i:Nat}(a:i<bs.length):atI ((iQ bs).cps.toList) (i:Int)=b0 (jL (bs.getD i b5)):=by
 unfold atI iQ;have:((bs.map jL).toArray.toList).length=bs.length:=by simp
 dsimp only;rw[uT (by lia) (by rw[this];lia)];simp[Wt,a]
theorem A3{bs:List Bool}{i:Int}{a:Hm}{Q:jz}(d:bs.length<=8)(c:0<=i/\i<bs.length):W (aE (.str (iQ bs)) (.int i) a) Q↔Q (.str (iC (bs.getD i.toNat b5)),a):=by have:=Uz (bs:=bs) (i:=i.toNat) (by lia);rw[show((i.toNat:Nat):Int)=i by lia]at this;rw[QK (by show(iQ bs).length<=Vp;rw[FD,VC];lia) this,<- Az]
theorem UA(k:Nat){g:Hm}{a:Nat}{gs:List Int}{bs:List Bool}(o:g[a]?=b0 (.lst (gs.map D.int)))(u:gs.length<=8)(s:bs.length=gs.length)(Q:jz)
  (H:∀b ds c,g<+:c->c[b]?=b0 (.lst ds)->iZ c ds (iY gs bs)->Q (.loc b,c)):W (f (k+1) "wedges_by" [.loc a,.str (iQ bs)] g) Q:=by
 rw[Rw,W_fin];simp only[w_mRet];refine QD ?_;refine Fb ?_;simp only[w_mCons,bR,aY];refine⟨a,_,rfl,o,?_⟩;let r:Nat->D:=λj=>.tup [.int (gs.getD j 0),.str (iC (bs.getD j b5)),.loc (g.length+1+j)];refine⟨gs.length,λi n c=>n=(VS i).map r/\g<+:c/\c.length=g.length+1+i/\∀j,j<i->c[g.length+1+j]?=b0 (.lst [.int ((j:Nat):Int)]),by rw[U8],by rw[VC];lia,?_,?_,?_,?_⟩
 .rintro i n c ⟨rfl,_⟩;simp
 .exact⟨rfl,aP _ _,by simp,λj l=>absurd l (Zp _)⟩
 .rintro i n c q ⟨rfl,m,e,hc⟩ d;have p:(gs.map D.int)[i]?=b0 (.int (gs.getD i 0)):=by rw[Vx,Vb q];simp[Wt,q]
  refine⟨.tup [.int (i:Int),.int (gs.getD i 0)],[b0 (.int (i:Int)),b0 (.int (gs.getD i 0))],?_,rfl,?_⟩
  .rw[Ah o c i m,o8,p];simp
  .rw[w_mTrue];refine⟨λh=>(by cases h),λ_=>?_⟩;simp only[Wm,WH,w_mTup,w_mCons,bR,w_mOp,aY,bG,w_mLst];rw[A3 (by lia) (by lia)];refine⟨rL,by show(3:Nat)<=Vp;decide,aJ (aP _ _) d,?_,fV (m.trans (aP _ _)) (Vk _) _,by rw[XR,Vh,e];rfl,λj l=>?_⟩
   .rw[YH,VZ,show((i:Int)).toNat=i by lia,e];rfl
   .rw[V3 (by lia)];by_cases h:j<i
    .exact aJ (aP _ _) (hc j h)
    .have:j=i:=by lia
     subst this;rw[<- e,aZ]
 .rintro n c ⟨rfl,m,e,hc⟩ d;refine⟨?_,H _ _ _ m d ?_⟩
  .rw[Ah o c _ m,o8];simp
  .unfold iY;refine All2.map λj l=>?_;have l:=Wi.mp l;exact⟨_,rfl,by rw[hc j l];rfl,by simp,by simp⟩
noncomputable def jQ(l:List Wd):Nat:=(l.map λw=>w.2.2.length).sum
theorem UB{l a:List Wd}(R:Rot l a):jQ l=jQ a:=by obtain⟨u,v,rfl,rfl⟩:=R;unfold jQ;simp;lia
theorem UC(x y z:Wd)(r:List Wd):jQ (fX x y z::r)=jQ (x::y::z::r):=by
 have:(fX x y z).2.2.length=x.2.2.length+y.2.2.length+z.2.2.length:=by rw[(Uo x y z).length_eq];simp[a1W]
 unfold jQ;simp only[VP,a1S,this];lia
theorem UD(gs:List Int)(bs:List Bool):jQ (iY gs bs)=gs.length:=by
 unfold jQ iY;rw[VM];have:((VS gs.length).map ((λw:Wd=>w.2.2.length)∘λk=>(gs.getD k 0,bs.getD k b5,[((k:Nat):Int)])))=(VS gs.length).map λ_=>1:=rfl;rw[this];have one:∀r:List Nat,(r.map λ_=>1).sum=r.length:=λr=>by
  induction r with
  |nil=>rfl|cons a r c=>rw[VP,a1S,c,VD,Nat.add_comm]
 rw[one,WY]
theorem UE{t:Nat}{l:List Wd}(h:2<l.length):iX (t+1) l=match iW l with
  |some (x::y::z::r)=>iX t (fX x y z::r)|_=>none:=by
 conv=>lhs;unfold iX
 rw[if_pos h];all_goals (generalize iW l=o;rcases o with _|(_|⟨_,_|⟨_,_|⟨_,_⟩⟩⟩)<;>rfl)
theorem UG(k:Nat){w:Hm}{a:Nat}{gs:List Int}{bs:List Bool}(ha:w[a]?=b0 (.lst (gs.map D.int)))(hG:GoodG gs)(hb:bs.length=gs.length)(Q:jz)
  (H:∀d g,w<+:g->GG w g d (iX 4 (iY gs bs))->Q (d,g)):W (f (k+3) "folded_order" [.loc a,.str (iQ bs)] w) Q:=by
 have hl:=hG.len;have hrg:=hG.rgl;rw[RD,W_fin];simp only[w_mSeq,w_mSet,w_mCall,w_mCons,bR,aY,bG];refine UA _ ha (by lia) hb _ λb ds μ1 p1 g1 W1=>?_;simp only[V2,Wb];have hwl:(iY gs bs).length=gs.length:=by unfold iY;simp
 refine Gp (λm ρ g=>w<+:g/\m<=4/\∃b ds l o,ρ=[b0 (.loc a),b0 (.str (iQ bs)),b0 (.loc b),o]/\g[b]?=b0 (.lst ds)/\iZ g ds l/\l.length%2=0/\2<=l.length/\l.length<=2*m/\jQ l<=8/\iX m l=iX 4 (iY gs bs)) 4 (by decide)
  ⟨p1,Vk _,b,ds,iY gs bs,b3,rfl,g1,W1,by lia,by lia,by lia,by rw[UD];lia,rfl⟩ ?_
 rintro m ρ g ⟨K,hm4,b,ds,l,o,rfl,I,hw,he,M,ht,hs,i⟩;have hlen:=hw.len;obtain⟨t,rfl⟩:∃t,m=t+1:=⟨m-1,by lia⟩;simp only[w_mTest,w_mOp,w_mCall,w_mCons,bR,aY,bG,bS];refine(c7 I).mpr ?_;simp only[w_gtI];by_cases q:2<l.length
 .have e:decide ((2:Int)<(ds.length:Int))=true:=decide_eq_true (by lia);simp only[e,if_true,w_mSeq,w_mSet,w_mCall,w_mCons,bR,aY,bG];refine Uy _ I hw ⟨by lia,by lia⟩ _ λd B L A=>?_;rw[UE q]at i;cases T:iW l with
  |none=>rw[T]at A i;have A:d=.non:=A;subst A;simp only[V2,Wb,w_mIfS,w_mTest,w_mOp,aY,bG,bS,Qz,if_true,w_mRet];refine H _ _ (K.trans L) ?_;rw[<- i];rfl|some l'=>
   rw[T]at A i;obtain⟨c,es,rfl,G,U⟩:=A;obtain⟨R,x,y,z,r,rfl,hc⟩:=Um T;have Y:=R.len;simp only[VD]at Y;have u:=UB R;have v:x.2.2.length+y.2.2.length+z.2.2.length<=8:=by unfold jQ at u hs;simp only[VP,a1S]at u;lia
   obtain⟨n,p,dz,h,rfl,Z,hy,hz,s⟩:=GB U;have hdl:=s.len;simp only[V2,Wb,w_mIfS,w_mTest,w_mOp,aY,bG,bS,QC,Vu,if_false,w_mNext,w_mSet,w_mLst,w_mCons,bR,w_mCall];refine(c6 G (l8 (i:=0) (d:=n) rfl)).mpr ?_;refine(c6 G (l8 (i:=1) (d:=p) rfl)).mpr ?_;refine(c6 G (l8 (i:=2) (d:=dz) rfl)).mpr ?_;refine Ut _ Z hy hz v _ λE j p3 N=>?_;refine⟨rL,?_⟩;refine rK ?_;simp only[aY,bG];refine⟨c,rfl,?_⟩;simp only[m9,nB,bS];refine⟨_,aJ (p3.trans (aP _ _)) G,?_⟩;rw[GC (n::p::dz::h) (show(0:Int)<=3/\(3:Int)<=(n::p::dz::h).length by simp only[VD];lia)];have e3:(n::p::dz::h).drop (3:Int).toNat=h:=rfl;rw[e3];refine(iN (aJ (aP _ _) (aZ _ _)) (aZ _ _) (by rw[VC];simp only[VD,Xi];lia)).mpr ?_;have q4:B<+:j++[C.lst [E]]++[C.lst h]++[C.lst ([E]++h)]:=p3.trans ((aP _ _).trans ((aP _ _).trans (aP _ _)));have q3:j<+:j++[C.lst [E]]++[C.lst h]++[C.lst ([E]++h)]:=(aP _ _).trans ((aP _ _).trans (aP _ _));refine⟨t,Xn _,K.trans (L.trans q4),by lia,_,_,fX x y z::r,_,rfl,aZ _ _,.cons (N.mono q3) (GA q4 s),by simp only[VD];lia,by simp only[VD];lia,by simp only[VD];lia,by rw[UC];lia,i⟩
 .have e:decide ((2:Int)<(ds.length:Int))=false:=decide_eq_false (by lia);simp only[e,Vu,if_false,w_mRet,w_mCall,w_mCons,bR,w_mOp,aY,bG,bS];match l,M,q,hw,i with
  |[x,y],_,_,hw,i=>
   obtain⟨n,p,rfl,Z,hy⟩:=Uq hw;refine(c6 I (l8 (i:=0) (d:=n) rfl)).mpr ?_;refine(c6 I (l8 (i:=1) (d:=p) rfl)).mpr ?_;refine Uu _ Z hy _ λd B L O=>?_;refine H _ _ (K.trans L) ?_;rw[<- i];have:iX (t+1) [x,y]=rZ x y:=by unfold iX;rw[if_neg (by simp)]
   rw[this];have X:=EX K;cases hL:rZ x y with
   |none=>rw[hL]at O;exact O|some os=>rw[hL]at O;obtain⟨b',h1,M,q⟩:=O;exact⟨b',h1,WD X M,q⟩
  |_::_::_::_,_,q,_,_=>exact absurd (by simp) q
noncomputable def jH(gs:List Int):List (Nat×Nat×Bool):=if gs.length=2 then[(0,1,dI)]else(VS gs.length).flatMap λi=>if jP gs i then(i,(i+1)%gs.length,b5)::(if gs.length=4 then[((i+2)%4,(i+3)%4,dI)]else[])else[]
noncomputable def UH(m:Int×Int->Bool)(p:Int×Int)(t:Nat×Nat×Bool):Ti:=lW ((bL m p).getD t.1 (0,0)) ((bL m p).getD t.2.1 (0,0)) t.2.2 p
theorem A4(m:Int×Int->Bool)(p:Int×Int):gM m p=(jH (a9 m p)).map (UH m p):=by
 have e:=lX m p;unfold gM jH;rw[e];by_cases h:(bL m p).length=2
 .rw[if_pos h,if_pos h];rfl
 .rw[if_neg h,if_neg h,List.map_flatMap];congr 1;funext i;unfold iU nE;cases jP (a9 m p) i with
  |false=>rfl|true=>rw[if_pos rfl,if_pos rfl];split<;>rfl
noncomputable def pJ(gs:List Int)(bs:List Bool):Bool:=(iX 4 (iY gs bs)).isSome
noncomputable def kQ(gs:List Int):List (List Bool):=(fC gs.length).filter (pJ gs)
noncomputable def r6(n:Nat)(r:List Bool)(t:Nat×Nat×Bool):Bool:=decide (t.1<n)&&decide (t.2.1<n)&&decide (t.1≠t.2.1)&&(r.getD t.1 b5==r.getD t.2.1 b5)==t.2.2
noncomputable def vG(gs:List Int):Bool:=!(dC gs)||decide ((jH gs).map (·.2.2)).Nodup&&(decide (gs=[])||!(kQ gs).isEmpty&&(kQ gs).all λr=>(jH gs).all (r6 gs.length r))
theorem UI:∀a b c d e g h i:Bool,vG (fM [a,b,c,d,e,g,h,i])=true:=by decide +kernel
theorem UJ:∀a b c d:Bool,vG (fM [a,b,c,d])=true:=by decide +kernel
theorem GH{m:Int×Int->Bool}{p:Int×Int}(h:cN m p=b5):((jH (a9 m p)).map (·.2.2)).Nodup/\(a9 m p≠[]->kQ (a9 m p)≠[]/\∀r∈kQ (a9 m p),∀t∈jH (a9 m p),r6 (a9 m p).length r t=dI):=by
 replace h:dC (a9 m p)=true:=by
  unfold cN at h;cases z:dC (a9 m p)with
  |true=>rfl|false=>rw[z]at h;cases h
 have hc:vG (a9 m p)=true:=by
  unfold a9 bW mv;split
  .exact UI _ _ _ _ _ _ _ _
  .exact UJ _ _ _ _
 unfold vG at hc;rw[h,YE,a0v,Vl,decide_eq_true_eq]at hc;refine⟨hc.1,λa=>?_⟩;have:=hc.2;rw[decide_eq_false a,a0v,Vl,W6]at this;exact⟨λz=>by rw[z]at this;exact absurd this.1 Vm,λr c=>W6.mp (this.2 r c)⟩
theorem UK{m:Int×Int->Bool}{p:Int×Int}(h:cN m p=b5):(gM m p).Nodup:=by have a:=(GH h).1;rw[A4];unfold a0x at a ⊢;rw[Xv]at a ⊢;exact a.imp λz e=>z (congrArg (λt:Ti=>t.2.2.1) e)
theorem GI{m:Int×Int->Bool}{p:Int×Int}{t:Ti}(h:t∈gM m p):t.2.2.2=dQ p:=by rw[A4]at h;obtain⟨x,_,rfl⟩:=VQ.mp h;rfl
theorem GJ{p q:Int×Int}(h:dQ p=dQ q):p=q:=by injection h with h1 h2;injection h2 with h2;exact a0c h1 h2
theorem UL:∀w∈[(1:Int),2,3,4,5,6],∀h∈[(1:Int),2,3,4,5,6],(bF w h).Nodup:=by decide +kernel
theorem UM{w h:Int}(hw:1<=w/\w<=6)(l:1<=h/\h<=6){ms:List ((Int×Int)×Str)}(k:(bF w h).find? (cN (aL ms))=b3):(nF (aL ms) w h).Nodup:=by
 have g:∀{z:Int},1<=z/\z<=6->z∈[(1:Int),2,3,4,5,6]:=λ{z} r=>by
  have:z=1\/z=2\/z=3\/z=4\/z=5\/z=6:=by lia
  simpa using this
 have m:=UL w (g hw) h (g l);have ok:∀c∈bF w h,cN (aL ms) c=false:=λc hc=>by
  have:=XF.mp k c hc;cases z:cN (aL ms) c with
  |false=>rfl|true=>exact absurd z this
 unfold nF;clear k hw l g;generalize bF w h=i at m ok;induction i with
 |nil=>exact .nil|cons c i o=>obtain⟨p,q⟩:=WG.mp m;rw[a3A];refine YX.mpr ⟨UK (ok c (.head _)),o q λx a=>ok x (.tail _ a),λs n t d e=>?_⟩;obtain⟨x,a,d⟩:=ZP.mp d;have j:=GI n;rw[e,GI d]at j;rw[GJ j]at a;exact p a
theorem UN{p q:Int×Int}(h:p≠q):jN p q=p/\jO p q=q\/jN p q=q/\jO p q=p:=by
 unfold jN jO;cases c:HT.lexLt (dQ q) (dQ p)with
 |true=>
  right;cases a:HT.lexLt (dQ p) (dQ q)with
  |true=>exact absurd (lexT_ord.tr _ _ _ c a) (by rw[lexT_ord.ir];exact Vm)|false=>exact⟨if_pos rfl,if_neg Vm⟩
 |false=>
  left;cases a:HT.lexLt (dQ p) (dQ q)with
  |true=>exact⟨if_neg Vm,if_pos rfl⟩|false=>exact absurd (GJ (lexT_ord.to _ _ a c)) h
noncomputable def RS(bs:List Bool):D:=.str (iQ bs)
theorem GK:∀n:Nat,(fC n).length=2^n
 |0=>rfl|n+1=>by rw[fC,Vh,U8,U8,GK n,Nat.pow_succ];lia
theorem vH{n:Nat}(h:n<=8):(fC n).length<=256:=by rw[GK];exact Nat.pow_le_pow_right (by decide) h
noncomputable def A5(p:Str):D->D
 |.str x=>.str (p++x)|d=>d
theorem UO(b:Bool)(bs:List Bool):A5 (iC b) (RS bs)=RS (b::bs):=by show D.str (iC b++iQ bs)=D.str (iQ (b::bs));rw[Az];congr 1;show(⟨#[jL b]++(bs.map jL).toArray⟩:Str)=⟨((b::bs).map jL).toArray⟩;simp
theorem UP{a:Type}(l:List a):l.filter (λ_=>dI)=l:=by simp
theorem UQ(b:Bool)(l:List (List Bool)):((l.map RS).filter (λ_=>dI)).map (A5 (iC b))=(l.map (b::·)).map RS:=by rw[UP,VM,VM];exact XU λbs _=>UO b bs
theorem GL{b:Bool}{c:Str}(hc:c=iC b){n:Nat}(o:n<=8){i:Nat}{ρ:aG}{a:Nat}{e:Hm}{m v:ME}(l:W (m ρ e) λp=>p=(.loc a,e))(q:∀d μ' R,R (d,μ')->W (v (ρ++[b0 d]) μ') R)(j:e[a]?=b0 (.lst ((fC n).map RS))){Q:jz}
  (H:∀μ',e<+:μ'->μ'[e.length]?=b0 (.lst (((fC n).map (b::·)).map RS))->Q (.loc e.length,μ')):W (cX (bV m) cV (aC aW (mC (.str c)) v) ρ e) Q:=by
 subst hc;have s:=vH o;refine eF (xs:=(fC n).map RS) (p:=λ_=>dI) (v:=A5 (iC b)) ?_;rw[w_iSeq];refine bI l λp g=>?_;subst g;refine(cT j).mpr ?_;refine⟨fL j,rfl,by rw[VC,U8];lia,?_,?_,?_⟩
 .intro d μ' _ _;exact w_mTrue.mpr ⟨rfl,Vo _⟩
 .intro d μ' hd _ g;obtain⟨bs,h,rfl⟩:=VQ.mp hd;have r:=mem_rowsH.mp h;rw[w_mOp,bS];refine q _ _ _ ?_;refine(QL (by rw[FD,VC,Az];show 1+bs.length<=_;lia)).mpr ⟨?_,Vo _⟩;rfl
 .intro μ' g k;rw[UQ]at k;exact H μ' g k
theorem UR(k:Nat){n:Nat}(w:n<=8){j:Hm}(Q:jz)(H:∀a μ',j<+:μ'->μ'[a]?=b0 (.lst ((fC n).map RS))->Q (.loc a,μ')):W (f (k+1) "rows_of" [.int (n:Int)] j) Q:=by
 rw[RE,W_fin];simp only[w_mSeq,w_mSet,w_mLst,w_mCons,bR,bS];refine⟨rL,?_⟩;simp only[V2,Wb,w_mForI,kK (j:=0),w_mCons,bR,aY];refine⟨by lia,?_⟩;rw[WR];refine iM (λi l μ'=>∃a o,j<+:μ'/\μ'[a]?=b0 (.lst ((fC i).map RS))/\l=[b0 (.int (n:Int)),b0 (.loc a),o]) ⟨_,_,aP _ _,aZ _ _,rfl⟩ ?_ ?_
 .rintro i l μ' v ⟨a,o,g,e,rfl⟩;refine⟨_,rfl,?_⟩;have x:=vH (n:=i) (by lia);simp only[V2,Wb,w_mSet,w_mOp];refine GL (b:=b5) (n:=i) rfl (by lia) (i:=0) ?_ ?_ e λs m q=>?_
  .simp only[bG,aY]
  .intro d c R h;simp only[Wm,WH,bG,aY];exact h
  .refine GL (b:=dI) (n:=i) rfl (by lia) (i:=0) ?_ ?_ (aJ m e) λu p r=>?_
   .simp only[bG,aY]
   .intro d c R h;simp only[Wm,WH,bG,aY];exact h
   .refine(iN (aJ p q) r (by simp only[U8];rw[VC];lia)).mpr ?_;refine⟨_,_,((g.trans m).trans p).trans (aP _ _),?_,rfl⟩;rw[aZ,fC,VZ]
 .rintro l μ' ⟨a,o,g,e,rfl⟩;simp only[w_mRet,bG,aY];exact H a μ' g e
noncomputable def vJ:D->List Bool
 |.str x=>x.cps.toList.map (·==118)|_=>[]
theorem GN(bs:List Bool):vJ (RS bs)=bs:=by
 show((bs.map jL).toArray.toList).map (·==118)=bs;rw[WE,VM];have:((·==118)∘jL)=id:=by funext b;cases b<;>rfl
 rw[this,a2z]
theorem US(k:Nat){h:Hm}{a:Nat}{gs:List Int}(p:h[a]?=b0 (.lst (gs.map D.int)))(i:GoodG gs)(Q:jz)(H:∀b μ',h<+:μ'->h.length<=b->μ'[b]?=b0 (.lst ((kQ gs).map RS))->Q (.loc b,μ')):W (f (k+4) "all_marks" [.loc a] h) Q:=by
 have v:=i.rgl;rw[RF,W_fin];simp only[w_mSeq,w_mDrop,w_mCall,w_mCons,bR,aY];refine Si _ a gs i _ _ p λw m=>?_;have e:=aJ m p;simp only[w_mRet];refine eF (xs:=(fC gs.length).map RS) (p:=λd=>pJ gs (vJ d)) (v:=λd=>d) ?_;simp only[w_iSeq,w_mCall,w_mCons,bR,aY];refine(c7 e).mpr ?_;rw[U8];refine UR _ (by lia) _ λb x n o=>?_;refine(cT o).mpr ?_;have z:=vH (n:=gs.length) (by lia);refine⟨fL o,rfl,by rw[VC,U8];lia,?_,?_,?_⟩
 .intro d μ' hd l;obtain⟨bs,j,rfl⟩:=VQ.mp hd;have u:=mem_rowsH.mp j;simp only[Wm,WH,w_mTest,w_mOp,w_mCall,w_mCons,bR,aY,bG,bS];refine UG _ (aJ l (aJ n e)) i u _ λd y r g=>?_;rw[GN];unfold pJ;cases q:iX 4 (iY gs bs)with
  |none=>rw[q]at g;cases g;exact w_isnotNN.mpr ⟨rfl,r⟩|some A=>rw[q]at g;obtain⟨c,rfl,_⟩:=g;exact w_isnotLN.mpr ⟨rfl,r⟩
 .intro d μ' _ _ _;simp only[Wm,WH,aY,bG];exact⟨trivial,Vo _⟩
 .intro μ' l s;refine H _ μ' ((m.trans n).trans l) (EX (m.trans n)) ?_;rw[s];congr 2;unfold kQ;rw[Zf,VM];have:((λd=>pJ gs (vJ d))∘RS)=pJ gs:=by funext bs;show pJ gs (vJ (RS bs))=_;rw[GN]
  rw[this];rfl
theorem vK(c:Bool){a:Hm}{A B:Nat}{ds:List D}(hA:a[A]?=b0 (.lst ds))(hB:a[B]?=b0 (.lst [])):aX c (.loc A) (.loc B) a=b0 (.bl (if c then !ds.isEmpty else ds.isEmpty),a):=by
 have d:∀{x:Nat}{xs:List D},a[x]?=b0 (.lst xs)->kX a (.loc x)=b0 (.lst xs):=λh=>by simp only[kX,h]
 have e:dU 8 a (.loc A) (.loc B)=b0 ds.isEmpty:=by show(kX a (.loc A)).bind (λu=>(kX a (.loc B)).bind λv=>sM (dU 7 a) u v)=_;rw[d hA,d hB];show jU (dU 7 a) ds []=_;cases ds<;>rfl
 unfold aX;rw[e];cases c<;>rfl
theorem UT(p q:Int×Int)(a:Hm):aX b5 (PP p) (PP q) a=b0 (.bl (decide (p=q)),a):=by show b0 (D.bl (p.1==q.1&&(p.2==q.2&&dI)),a)=_;congr 3;rw[Zi,a1V,Vl,beq_iff_eq,beq_iff_eq,decide_eq_true_eq,a2a]
theorem GO(k:Nat){bs:List Bool}(c:bs.length<=8){i j:Nat}(d:i<bs.length)(e:j<bs.length)(b:Bool)(a:Hm):f (k+1) "_law_holds" [RS bs,.int (i:Int),.int (j:Int),.bl b] a=b0 (.bl ((bs.getD i b5==bs.getD j b5)==b),a):=by refine bN (cJ (RX k _ _ _ _ a) (cM (aT (aT (bX rfl rfl ((A3 c (by lia)).mpr (bX rfl rfl ((A3 c (by lia)).mpr (w_eqS.mpr ⟨_,rfl,w_eqB.mpr ?_⟩)))))))));rw[A2,WR,WR]
theorem GP(k:Nat){cr:jq}(q:cr.Nodup)(r:cr.length<=8){i j:Nat}(m:i<cr.length)(o:j<cr.length){d:Bool}{bs:List Bool}(s:bs.length=cr.length)(p:((bs.getD i b5==bs.getD j b5)==d)=dI){c:Hm}{a:Nat}(e:c[a]?=b0 (.lst (cr.map PP))){d0 d1 d3 d4 d5 d7 d8 d11 d13 d14:Option D}{R:Fl×aG×Hm->Prop}
  (H:R (.nx,[d0,d1,b0 (PP (cr.getD i (0,0))),d3,d4,d5,b0 (.loc a),d7,d8,b0 (PP (cr.getD j (0,0))),b0 (.bl d),d11,b0 (RS bs),d13,d14],c)):W (Aw (k+1) [d0,d1,b0 (PP (cr.getD i (0,0))),d3,d4,d5,b0 (.loc a),d7,d8,b0 (PP (cr.getD j (0,0))),b0 (.bl d),d11,b0 (RS bs),d13,d14] c) R:=by
 have l:∀{n:Nat},n<cr.length->kI (.loc a) [PP (cr.getD n (0,0))] c=b0 (.int (n:Int),c):=λ{n} g=>bN ((FV e (by
  rw[Vt,Vb g];exact Wx g) (by rw[VC];lia)).mpr (by rw[uV q g]))
 have h:=GO k (bs:=bs) (by lia) (i:=i) (j:=j) (by lia) (by lia) d c;rw[p]at h;exact w_mIfS.mpr (pE (iB (iO (bK ⟨_,rfl,bK (e8 ⟨_,rfl,fA e,_,rfl,_,l m,bK (e8 ⟨_,rfl,fA e,_,rfl,_,l o,_,rfl,_,h,rfl,(if_neg Vm).mpr (w_mNext.mpr H)⟩)⟩)⟩))))
inductive HrI (d0 d1 d2 d3 d4 d5 d6 d7 d8 d9 d10 d11 d13 d14:Option D)(ν:Hm):Nat->aG->Hm->Prop
 |mk {i:Nat}{x:Option D}:HrI d0 d1 d2 d3 d4 d5 d6 d7 d8 d9 d10 d11 d13 d14 ν i [d0,d1,d2,d3,d4,d5,d6,d7,d8,d9,d10,d11,x,d13,d14] ν
theorem UU{a:List (List Bool)}{i:Nat}{d:D}(h:(a.map RS)[i]?=b0 d):∃bs∈a,d=RS bs:=by rw[Vx]at h;obtain⟨bs,c,rfl⟩:=Vd.mp h;exact⟨bs,VR c,rfl⟩
theorem UW(k:Nat){cr:jq}(l:cr.Nodup)(v:cr.length<=8){n:List (List Bool)}(x:∀bs∈n,bs.length=cr.length){t:Nat×Nat×Bool}(c:t.1<cr.length/\t.2.1<cr.length/\t.1≠t.2.1)(w:∀bs∈n,((bs.getD t.1 b5==bs.getD t.2.1 b5)==t.2.2)=dI){g:Hm}{a r:Nat}(s:g[a]?=b0 (.lst (cr.map PP)))(u:g[r]?=b0 (.lst (n.map RS))){d0 d1 d3 d4 d5 d7 d11 m d13 d14:Option D}{R:Fl×aG×Hm->Prop}
  (H:∀y z o,R (.nx,[d0,d1,y,d3,d4,d5,b0 (.loc a),d7,b0 (.loc r),z,b0 (.bl t.2.2),d11,o,d13,d14],g)):W (cC (bV (aA 8)) (cI 12) (Aw (k+1)) [d0,d1,b0 (PP (jN (cr.getD t.1 (0,0)) (cr.getD t.2.1 (0,0)))),d3,d4,d5,b0 (.loc a),d7,b0 (.loc r),b0 (PP (jO (cr.getD t.1 (0,0)) (cr.getD t.2.1 (0,0)))),b0 (.bl t.2.2),d11,m,d13,d14] g) R:=by
 refine w_mForI.mpr (w_iSeq.mpr ⟨_,rfl,(cT u).mpr (iL (HrI d0 d1 (b0 (PP (jN (cr.getD t.1 (0,0)) (cr.getD t.2.1 (0,0))))) d3 d4 d5 (b0 (.loc a)) d7 (b0 (.loc r)) (b0 (PP (jO (cr.getD t.1 (0,0)) (cr.getD t.2.1 (0,0))))) (b0 (.bl t.2.2)) d11 d13 d14 g) .mk (by rintro _ _ _ ⟨⟩;exact u) ?_ (by rintro _ _ ⟨⟩;exact H _ _ _))⟩);rintro i d _ _ hd ⟨⟩;obtain⟨bs,j,rfl⟩:=UU hd;refine⟨_,rfl,?_⟩;have ne:cr.getD t.1 (0,0)≠cr.getD t.2.1 (0,0):=λe=>c.2.2 (by rw[<- uV l c.1,<- uV l c.2.1,e]);have h:=HrI.mk (d0:=d0) (d1:=d1) (d2:=b0 (PP (jN (cr.getD t.1 (0,0)) (cr.getD t.2.1 (0,0))))) (d3:=d3) (d4:=d4) (d5:=d5) (d6:=b0 (.loc a)) (d7:=d7) (d8:=b0 (.loc r)) (d9:=b0 (PP (jO (cr.getD t.1 (0,0)) (cr.getD t.2.1 (0,0))))) (d10:=b0 (.bl t.2.2)) (d11:=d11) (d13:=d13) (d14:=d14) (ν:=g) (i:=i+1) (x:=b0 (RS bs));revert h;rcases UN ne with⟨p,q⟩|⟨p,q⟩<;>rw[p,q]<;>intro h
 .exact GP k l v c.1 c.2.1 (x _ j) (w _ j) s h
 .exact GP k l v c.2.1 c.1 (x _ j) (by rw[<- w _ j,BEq.comm (a:=bs.getD t.2.1 b5)]) s h
theorem UX{ts:List Ti}{t:Ti}(h:t∈nG ts):t∈ts:=by obtain⟨i,a,rfl⟩:=VQ.mp h;have a:i<ts.length:=Wi.mp ((gZ _ _).mem_iff.mp a);rw[Vt,Vb a];exact Wx a
inductive HtI (d0 d1 d3 d4 d5 d6 d7 d8 d13 d14:Option D)(ν:Hm):Nat->aG->Hm->Prop
 |mk {i:Nat}{x2 x9 x10 x11 x12:Option D}:HtI d0 d1 d3 d4 d5 d6 d7 d8 d13 d14 ν i [d0,d1,x2,d3,d4,d5,d6,d7,d8,x9,x10,x11,x12,d13,d14] ν
inductive RwOk (m:Int×Int->Bool)(z:Int×Int)(rs:List (List Bool)):Prop
 |mk (len:∀bs∈rs,bs.length=(bL m z).length)(ok:∀bs∈rs,∀t∈jH (a9 m z),r6 (a9 m z).length bs t=dI)(ne:rs≠[])
theorem A6{n:Nat}{r:List Bool}{t:Nat×Nat×Bool}(h:r6 n r t=dI):(t.1<n/\t.2.1<n/\t.1≠t.2.1)/\((r.getD t.1 b5==r.getD t.2.1 b5)==t.2.2)=true:=by unfold r6 at h;rw[Vl,Vl,Vl,decide_eq_true_eq,decide_eq_true_eq,decide_eq_true_eq]at h;exact⟨⟨h.1.1.1,h.1.1.2,h.1.2⟩,h.2⟩
theorem UY(m:Int×Int->Bool)(z:Int×Int):(bL m z).Nodup:=(AH _ _ (AI _)).sublist a0q
theorem UZ(k:Nat){w h:Int}(hw:1<=w/\w<=6)(E:1<=h/\h<=6){ms:List ((Int×Int)×Str)}(B:(bF w h).find? (cN (aL ms))=b3){z:Int×Int}{K:List (List Bool)}(Q:RwOk (aL ms) z K){v:Hm}{a r:Nat}(N:v[a]?=b0 (.lst ((bL (aL ms) z).map PP)))(O:v[r]?=b0 (.lst (K.map RS))){d0 d2 d3 d5 d7 d9 d10 d11 y d13 d14:Option D}{R:Fl×aG×Hm->Prop}
  (H:∀L M n o g q,v<+:q->R (.nx,[d0,b0 (SH w h ms),L,d3,b0 (PP z),d5,b0 (.loc a),d7,b0 (.loc r),M,n,o,g,d13,d14],q)):W (cC (bV (aF (f (k+7) "ties") (aB (aA 1) aD))) (gD [2,9,10,11]) (Fs (k+7)) [d0,b0 (SH w h ms),d2,d3,b0 (PP z),d5,b0 (.loc a),d7,b0 (.loc r),d9,d10,d11,y,d13,d14] v) R:=by
 obtain⟨j,m,ne⟩:=Q;refine w_mForI.mpr (w_iSeq.mpr (aQ rfl (F6 k hw E B (UM hw E B) _ _ λl s A _ gl=>(cT gl).mpr ?_)));refine iL (HtI d0 (b0 (SH w h ms)) d3 (b0 (PP z)) d5 (b0 (.loc a)) d7 (b0 (.loc r)) d13 d14 s) .mk (by rintro _ _ _ ⟨⟩;exact gl) ?_ (by rintro _ _ ⟨⟩;exact H _ _ _ _ _ _ A);rintro i d _ _ hd ⟨⟩;rename_i L M n o g;rw[Vx]at hd;obtain⟨t,u,rfl⟩:=Vd.mp hd;obtain⟨p,T,u⟩:=ZP.mp (UX (VR u));rw[A4]at u;obtain⟨x,I,rfl⟩:=VQ.mp u;refine⟨[d0,b0 (SH w h ms),b0 (PP (jN ((bL (aL ms) p).getD x.1 (0,0)) ((bL (aL ms) p).getD x.2.1 (0,0)))),d3,b0 (PP z),d5,b0 (.loc a),d7,b0 (.loc r),b0 (PP (jO ((bL (aL ms) p).getD x.1 (0,0)) ((bL (aL ms) p).getD x.2.1 (0,0)))),b0 (.bl x.2.2),b0 (PP p),g,d13,d14],rfl,w_mIfS.mpr ⟨_,bN (dO (bX rfl rfl ⟨_,UT p z s,_,rfl,rfl⟩)),?_⟩⟩;by_cases e:p=z
 .subst e;rw[decide_eq_true rfl];obtain⟨bs,c⟩:=List.exists_mem_of_ne_nil _ ne;have G:=(A6 (m bs c x I)).1;rw[lX]at G;exact(if_pos rfl).mpr (UW (k+6) (UY _ _) (lY _ _) j G (λbs c=>(A6 (m bs c x I)).2) (aJ A N) (aJ A O) λ_ _ _=>.mk)
 .rw[decide_eq_false e];exact(if_neg Vm).mpr (w_mNext.mpr .mk)
theorem U0(a b:Int)(c:Hm):qS [.int a,.int b] c=b0 (.int (if b<a then b else a),c):=rfl
theorem U1(g a b:Int):decide (g<if b<a then b else a)=(decide (g<a)&&decide (g<b)):=by rw[Zi,Vl,decide_eq_true_eq,decide_eq_true_eq,decide_eq_true_eq];split<;>lia
theorem U2(k:Nat){m:Int×Int->Bool}{z:Int×Int}{h:List (List Bool)}(U:h.length<=256)(L:RwOk m z h){g:Hm}{a b r:Nat}(I:g[a]?=b0 (.lst ((bL m z).map PP)))(p:g[b]?=b0 (.lst ((a9 m z).map D.int)))(A:g[r]?=b0 (.lst (h.map RS))){i:Nat}(T:i<(bL m z).length){d0 d1 d2 d3 d4 d5 d9 d10 d11 j d14:Option D}{R:Fl×aG×Hm->Prop}
  (H:∀v c,g<+:c->R (.nx,[d0,d1,d2,d3,d4,d5,b0 (.loc a),b0 (.loc b),b0 (.loc r),d9,d10,d11,j,b0 (.int (i:Int)),v],c)):W (Ax (k+1) [d0,d1,d2,d3,d4,d5,b0 (.loc a),b0 (.loc b),b0 (.loc r),d9,d10,d11,j,b0 (.int (i:Int)),d14] g) R:=by
 obtain⟨n,q,ne⟩:=L;have o:=lX m z;have Q:=lY m z;have M:(i+((a9 m z).length-1))%(a9 m z).length<(a9 m z).length:=Z2 _ (by lia);have N:(i+1)%(a9 m z).length<(a9 m z).length:=Z2 _ (by lia);have y:bM [.loc a] g=b0 (.int ((bL m z).length:Nat),g):=bN ((c7 I).mpr (by rw[U8]));have E:aE (.loc b) (.int ((i:Int)-1)) g=b0 (.int ((a9 m z).getD ((i+((a9 m z).length-1))%(a9 m z).length) 0),g):=bN ((c6 p (by
  rw[FX (by rw[U8];lia),U8];exact rS M)).mpr rfl)
 have G:aE (.loc b) (.int (((i+1)%(a9 m z).length:Nat):Int)) g=b0 (.int ((a9 m z).getD ((i+1)%(a9 m z).length) 0),g):=rW p N;refine bE (aT (bX rfl rfl (w_addI.mpr (aQ rfl (bB y ((dM (by lia)).mpr ?_))))));rw[uX,<- o];refine w_mIfS.mpr ⟨_,F7 (b:=decide (((bL m z).length:Int)>2)) (c:=jP (a9 m z) i) (bN (dO (aT (aQ rfl (bB y ⟨_,rfl,w_gtI.mpr ⟨_,rfl,rfl⟩⟩))))) (bN (dO (aT (bX rfl rfl ⟨_,rW p (by lia),iO (bK (aT ⟨_,rfl,bX rfl rfl (w_subI.mpr ⟨_,E,bK (bX rfl rfl ⟨_,G,_,rfl,bB (U0 _ _ g) (w_ltI.mpr ⟨_,rfl,?_⟩)⟩)⟩)⟩))⟩)))),?_⟩
 .rw[U1];rfl
 .by_cases hc:2<(bL m z).length/\jP (a9 m z) i=dI
  .rw[hc.2,decide_eq_true (show((bL m z).length:Int)>2 by lia)];have u:(i,(i+1)%(a9 m z).length,b5)∈jH (a9 m z):=by unfold jH;rw[if_neg (by lia)];refine ZP.mpr ⟨i,Wi.mpr (by lia),?_⟩;rw[hc.2,if_pos rfl];exact .head _
   refine(if_pos rfl).mpr (w_mIfS.mpr (pE (iB (b:=dI) (Fz (eF (xs:=h.map RS) (p:=λ_=>dI) (v:=λ_=>.bl dI) (w_iSeq.mpr ⟨_,rfl,(cT A).mpr ⟨fL A,rfl,by rw[U8,VC];lia,λd c hd s=>w_mTrue.mpr ⟨rfl,Vo _⟩,λd c hd _ s=>?_,λc s o=>?_⟩⟩))))))
   .obtain⟨bs,l,rfl⟩:=VQ.mp hd;have B:=n bs l;obtain⟨⟨X,Y,_⟩,O⟩:=A6 (q bs l _ u);have w:=GO k (bs:=bs) (by lia) (i:=i) (j:=(i+1)%(a9 m z).length) (by lia) (by lia) b5 c;rw[show((bs.getD i b5==bs.getD ((i+1)%(a9 m z).length) b5)==b5)=dI from O]at w;exact aQ rfl ⟨_,w,rfl,Vo _⟩
   .have e:((h.map RS).filter λ_=>dI).map (λ_=>D.bl dI)=(h.map λ_=>dI).map D.bl:=by rw[Yb.mpr (λ_ _=>rfl),VM,VM];rfl
    rw[e]at o;refine(E6 o).mpr ⟨?_,(if_neg Vm).mpr (w_mNext.mpr (H _ _ s))⟩;have:(h.map λ_=>dI).all id=true:=W6.mpr λx u=>by obtain⟨_,_,rfl⟩:=VQ.mp u;rfl
    rw[this]
  .have K:(decide (((bL m z).length:Int)>2)&&jP (a9 m z) i)=false:=by
    cases B:jP (a9 m z) i with
    |false=>exact a4j _|true=>rw[B]at hc;rw[decide_eq_false (show ¬ ((bL m z).length:Int)>2 from λz=>hc ⟨by lia,rfl⟩)];rfl
   rw[K];exact(if_neg Vm).mpr (w_mNext.mpr (H _ _ (Vo _)))
inductive HkI (d0 d1 d2 d3 d4 d5 d6 d7 d8 d9 d10 d11 d12:Option D)(ν:Hm):Nat->aG->Hm->Prop
 |mk {i:Nat}{x13 x14:Option D}{μ:Hm}(p:ν<+:μ):HkI d0 d1 d2 d3 d4 d5 d6 d7 d8 d9 d10 d11 d12 ν i [d0,d1,d2,d3,d4,d5,d6,d7,d8,d9,d10,d11,d12,x13,x14] μ
theorem U3(k:Nat){w h:Int}(hw:1<=w/\w<=6)(T:1<=h/\h<=6){ms:List ((Int×Int)×Str)}(Q:(bF w h).find? (cN (aL ms))=b3){z:Int×Int}(hz:cW z=dI)(m:cN (aL ms) z=b5)(X:bL (aL ms) z≠[]){L:Hm}{c:Nat}(N:L[c]?=b0 (.lst ((ms.map (·.1)).map PP))){d0 d5:Option D}{R:Fl×aG×Hm->Prop}(H:∀ρ μ',R (.rt (.bl dI),ρ,μ')) :
  W (Ft (k+7) [d0,b0 (SH w h ms),b3,b0 (.loc c),b0 (PP z),d5,b3,b3,b3,b3,b3,b3,b3,b3,b3] L) R:=by
 have G:=lX (aL ms) z;have h8:=lY (aL ms) z;have y:a9 (aL ms) z≠[]:=λe=>X (Xl.mp (by rw[<- G,e];rfl));have O:GoodG (a9 (aL ms) z):=Sf (by
  unfold cN at m;cases e:dC (a9 (aL ms) z)with
  |true=>rfl
  |false=>rw[e]at m;cases m) y
 obtain⟨K,Z⟩:=(GH m).2 y;refine w_mSeq.mpr (w_mAsg.mpr (aQ rfl (AN (k+6) hz N _ λa b μ1 p1 A B=>w_gTup2.mpr ?_)));refine bE (aQ rfl (US (k+3) B O _ λr μ2 p _ E=>?_));have rl:(kQ (a9 (aL ms) z)).length<=256:=WD (WV _ _) (vH (by lia));have I:RwOk (aL ms) z (kQ (a9 (aL ms) z)):=⟨λbs o=>by rw[<- G];exact mem_rowsH.mp (Wy.mp o).1,Z,K⟩;refine eH (UZ k hw T Q I (aJ p A) E λx2 x9 s u v d q=>⟨rfl,?_⟩);have j:=aJ (p.trans q) A;have n:=aJ (p.trans q) B;have l:=aJ q E;have M:bM [.loc a] d=b0 (.int ((bL (aL ms) z).length:Nat),d):=bN ((c7 j).mpr (by rw[U8]));refine eH (w_mForI.mpr ((kK (j:=0)).mpr (bK (aQ rfl (bB M ⟨_,rfl,⟨by lia,by lia⟩,?_⟩)))));dsimp only;rw[WR];refine iM (lo:=0) (b:=Ax (k+7)) (HkI d0 (b0 (SH w h ms)) x2 (b0 (.loc c)) (b0 (PP z)) d5 (b0 (.loc a)) (b0 (.loc b)) (b0 (.loc r)) x9 s u v d) (.mk (Vo _)) ?_ ?_
 .rintro i _ x U ⟨g⟩;refine⟨_,rfl,?_⟩;rw[Y2];exact U2 (k+6) rl I (aJ g j) (aJ g n) (aJ g l) U λx14 μ5 Y=>.mk (g.trans Y)
 .rintro _ x ⟨g⟩;refine⟨rfl,cM (bX rfl rfl ⟨_,vK dI (aJ (aP _ _) (aJ g l)) (aZ _ _),?_⟩)⟩;cases e:kQ (a9 (aL ms) z)with
  |nil=>exact absurd e K|cons _ _=>exact H _ _
theorem U4(k:Nat)(ns:List Int)(M:Hm):W (f (k+8) "law" [.rol (ns.map D.int)] M) λp=>p.1=.bl true:=by
 refine cJ (RY (k+7) _ M) (bE (aQ rfl (Ui k ns _ _ λw h S μ1 hw q ⟨hl,_,_⟩ _=>?_)));cases v:(bF w h).find? (cN (aL S))with
 |some c=>exact R8 (dO (aT (aQ rfl (Ga (k+5) hw q (by lia) _ _ λG Y=>⟨_,rfl,by rw[v];exact w_isnotTN.mpr ⟨_,rfl,rfl,jK ⟨_,rfl,rfl⟩⟩⟩))))|none=>
  refine uS (dO (aT (aQ rfl (Ga (k+5) hw q (by lia) _ _ λG Y=>⟨_,rfl,?_⟩))));rw[v];refine w_isnotNN.mpr ⟨_,rfl,rfl,dN ?_⟩;refine bE (F9 rfl (λ_ _ _=>rfl) (by lia) λc H p3 I _=>?_);have u:∀z∈bF w h,cN (aL S) z=false:=λz g=>by
   have:=XF.mp v z g;cases e:cN (aL S) z with
   |false=>rfl|true=>exact absurd e this
  refine bE (eF (xs:=(bF w h).map PP) (p:=λd=>!(bL (aL S) (cY d)).isEmpty) (v:=λd=>d) (w_iSeq.mpr (aQ rfl (F8 (k+6) hw q S _ _ ((cT (aZ _ _)).mpr ⟨fL (aZ _ _),rfl,?_,λd E hd B=>?_,λd E hd _ B=>⟨_,rfl,rfl,Vo _⟩,λi Z A=>?_⟩)))))
  .have:=F5 hw q;rw[U8,VC];lia
  .obtain⟨z,g,rfl⟩:=VQ.mp hd;refine dO (aT (aT (aQ rfl (AN (k+6) (Wy.mp g).2 (aJ ((aP _ _).trans B) I) _ λa b o p5 T _=>⟨_,rfl,w_it20.mpr ⟨_,rfl,?_⟩⟩))));refine⟨_,vK dI (aJ (aP _ _) T) (aZ _ _),_,rfl,?_,p5.trans (aP _ _)⟩;show(!((bL (aL S) z).map PP).isEmpty)=!(bL (aL S) z).isEmpty;rw[a3G]
  .have U:=aJ ((aP _ _).trans Z) I;generalize(H++[C.lst ((bF w h).map PP)]).length=l at A ⊢;rw[a4M,Zf]at A;have N:((λd=>!(bL (aL S) (cY d)).isEmpty)∘PP)=λz=>!(bL (aL S) z).isEmpty:=rfl;rw[N]at A;have r:=aJ (aP i (C.lst [])) A;have Q:=bN (r:=(((((bF w h).filter λz=>!(bL (aL S) z).isEmpty).map PP).isEmpty),i++[C.lst []])) (dO (bX (a:=aA 5) (b:=bU aD) (ρ:=[b0 (.rol (ns.map D.int)),b0 (SH w h S),b3,b0 (.loc c),b3,b0 (.loc l),b3,b3,b3,b3,b3,b3,b3,b3,b3]) rfl rfl ⟨_,vK b5 r (aZ _ _),_,rfl,rfl⟩));refine fB Q (λx=>?_) λx=>dN ?_
   .rw[a3G,List.isEmpty_iff]at x;have K:nF (aL S) w h=[]:=by
     unfold nF;refine List.flatMap_eq_nil_iff.mpr λz g=>?_;have hc:bL (aL S) z=[]:=by
      cases e:bL (aL S) z with
      |nil=>rfl|cons a l=>have:z∈(bF w h).filter λz=>!(bL (aL S) z).isEmpty:=Wy.mpr ⟨g,by rw[e];rfl⟩;rw[x]at this;cases this
     unfold gM;rw[hc];rfl
    refine jK (aT (aQ rfl (F6 k hw q v (by rw[K];exact .nil) _ _ λt μ6 p6 _ R=>⟨_,rfl,_,vK b5 (aJ (aP _ _) R) (aZ _ _),?_⟩)));rw[K];show D.bl ((nG []).map c5).isEmpty=_;unfold nG;rw[Xi,tE];rfl
   .have y:(bF w h).filter (λz=>!(bL (aL S) z).isEmpty)≠[]:=λe=>by rw[e]at x;cases x
    have L:∀z∈(bF w h).filter (λz=>!(bL (aL S) z).isEmpty),z∈bF w h/\bL (aL S) z≠[]:=λz g=>⟨(Wy.mp g).1,λe=>by have:=(Wy.mp g).2;rw[e]at this;cases this⟩;generalize(bF w h).filter (λz=>!(bL (aL S) z).isEmpty)=m at r y L;have B:0<m.length:=a2K.mpr y;have s:=aJ (aP i (C.lst [])) U;generalize i++[C.lst []]=o at r s ⊢;have O:bM [.loc l] o=b0 (.int (m.length:Nat),o):=bN ((c7 r).mpr (by rw[U8]));obtain⟨j,X⟩:∃j:Nat,cF ns 7%(m.length:Int)=j:=⟨(cF ns 7%(m.length:Int)).toNat,by have:=YM (cF ns 7) (b:=(m.length:Int)) (by lia);lia⟩;have n:j<m.length:=by have:=Yh (cF ns 7) (b:=(m.length:Int)) (by lia);lia
    refine bE (aT ⟨_,rfl,aT (aQ rfl (nH (k+6) ns (by decide) _ _ (aQ rfl (bB O ((dM (by lia)).mpr ?_)))))⟩);rw[X];refine⟨_,fD r n,?_⟩;have g:=L (m.getD j (0,0)) (by
     rw[Vt,Vb n];exact Wx n)
    exact U3 k hw q v (Wy.mp g.1).2 (u _ g.1) g.2 s λ_ _=>rfl
theorem U5:∀ns:List Int,ns.length<=63->∃μ',iK S ds 8 "law" [.rol (ns.map D.int)] []=b0 (.bl dI,μ'):=λns _=>by obtain⟨⟨d,μ'⟩,a,c⟩:=U4 0 ns [];dsimp only at c;subst c;refine⟨μ',?_⟩;unfold f at a;exact a
theorem dz(Q:Xh):uL (Kx Q) ds:=by unfold uL;kernel_rfl
theorem cz(Q:Xh):EW (Kx Q) S.con=true:=by kernel_rfl
theorem nz(Q:Xh):S.no.map (ZO (Kx Q) WZ)=S.no.map λ_=>b0 none:=by kernel_rfl
theorem U6{P:VE}{w:VW}{Q:Xh}
  {h:WA}{mg:Str → Option Value}(X:(Kx Q).In h)(G:h.Ns WZ mg):TxtOk P w (Kx Q) mg S ds ∧ ∃f a,Fun (Kx Q) "law" "law" (aI 83) f a ∧ mg "law"=b0 (.ref f) ∧ ∀(s:Ve)(u:Value),a1s s a ⟨[u],[]⟩ [("_law_script",u)]:=by
 refine⟨⟨Qd (by decide +kernel),Qe λp c=>(ET X G (dz Q) p c).1,Qf (Qk X G (cz Q)),λx d e=>?_,Qg (Qj X G (nz Q))⟩,Qi X G (dz Q) (by kernel_rfl) (by kernel_rfl)⟩
 .cases e
end Lw
open PySem PySem.W PyProof.Rows
set_option maxRecDepth 100000 in
set_option maxHeartbeats 0 in
theorem PySem.Challenge.cw_creasecourt_k54_whole_ties_in_all_rows_holds : PySem.Challenge.rw_creasecourt_k54_whole_ties_in_all_rows.Holds := by
 w_on
 refine holds_law Lw.Ju fun a=>?_
 refine holds_open (q:=Lw.Vw) (loose:=[]) (Xt:=fun s=>xlAt Lw.Vw [] s&&recOk (a4J (a3v (Wz Vf))) s) (XP:=XL Lw.Vw []) (Yf:=Hook.obs (a5K Lw.Kx Lw.As Lw.pS)) (Ya:=Hook.val (a5K Lw.Kx Lw.As Lw.pS)) (YP:=Hook.says (a5K Lw.Kx Lw.As Lw.pS)) (N:=7530) Lw.run (Hook.of _) (Hook.keeps _) (fun s e=>xl_of s (X6.mp e).1) XL.keeps (by rfl) (by rfl) (by rfl) (fun s e=>recFacts_of (X6.mp e).2) (by rfl) (by first|assumption|decide +kernel) (by decide +kernel) ⟨rfl,rfl,rfl,rfl,rfl,by decide +kernel⟩ ?hw ?hc
 case hw=>w_witness2
 k_fill
 refine L3.walkM (l:=Vf) (S:=Lw.S) (ds:=Lw.ds) (k:=8) (st:=Lw.aI 83) (x:="_law_script") rfl rfl ⟨rfl,by decide,by decide⟩ (fun w h Y=>PySem.W.kIn_of Y) (by kernel_rfl) (by kernel_rfl) ?F (fun d h _=>Lw.U5 d h)
 case F=>
  intro w g h c G
  refine' @Lw.U6 Wo w _  _ _ c G
