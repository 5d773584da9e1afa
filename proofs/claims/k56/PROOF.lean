import PyProof.Rows.All
import Wide.All
import OpenK.AllK
import PySem.Challenge.RW_creasecourt_k56_barred_refused
open Option renaming some->b4,none->b6
open Bool renaming false->b7,true->b8
open Array renaming mk->YX,getElem?_eq_some_iff->Zx,getElem?_toList->ZG,length_toList->a0j,getElem?_setIfInBounds->a2y,getElem?_eq_getElem->a3b,toList_inj->a4E,replicate->a4V,getD->a5o,getElem?_eq_none->a5U,isEmpty_iff->a7d,toList->a8N,map->a9Z
open Bool renaming and_eq_true->X4,false_ne_true->Yj,false_eq_true->YH,and_eq_true_iff->a0L,or_eq_true->a1T,not_eq_true'->a2h,not_true->a2r,not_false->a3T,or_false->a4f,or_true->a4u,eq_iff_iff->a5a,false_and->a8w,true_and->a8K,false_or->a8L,and_true->a8M
open Classical renaming choose->a1n,choose_spec->a1X
open False renaming elim->Y4
open ForInStep renaming yield->a0p
open Int renaming toNat_natCast->a0k,zero_add->a4C,emod_lt_of_pos->a7H,emod_nonneg->a8v,mul_one->a9R
open List renaming length_map->X3,getElem?_eq_some_iff->X8,getElem?_eq_getElem->Yg,map_cons->Yk,getElem?_map->Yo,prefix_refl->Yp,length_append->Yr,size_toArray->Ys,map_map->Yu,mem_map->Yw,getElem?_set_ne->Yx,mem_singleton->YA,length_cons->YB,map_append->YC,mem_cons_of_mem->YK,mem_cons->YN,all_cons->YO,mem_cons_self->YQ,range->YR,nodup_cons->YT,mem_append->YU,getElem?_eq_none_iff->YV,getElem?_set_self->YY,getElem?_append_left->Y8,zipWith_cons_cons->Zb,mem_of_getElem?->Ze,length->Zf,getD->Zm,mem_range->Zq,length_take->Zs,mem_filter->Zu,find?_cons->Zv,append_nil->Zw,length_set->ZD,mem_append_right->ZK,map_congr_left->ZQ,length_filter_le->ZR,getElem?_eq_none->ZS,length_range->ZV,not_mem_nil->Z0,cons_append->Z1,all_eq_true->Z2,take_length->Z8,replicate->a0g,getElem?_append_right->a0h,set_cons_zero->a0n,append_assoc->a0u,nil_append->a0v,filterMap_cons->a0A,set_cons_succ->a0D,find?_eq_none->a0E,mem_iff_getElem?->a0G,length_replicate->a0H,nodup_append->a0K,length_reverse->a0R,take_succ->a0T,getElem_mem->a0U,getElem?_replicate->a0V,take_of_length_le->a1d,filter_append->a1e,length_nil->a1g,take_append_drop->a1i,length_drop->a1A,filter_cons->a1B,pairwise_iff_getElem->a1F,drop_eq_getElem_cons->a1G,filter_eq_self->a1H,sum_cons->a1O,length_eq_zero_iff->a1W,take_zero->a2g,lookup_cons->a2m,lookup->a2u,forall_mem_cons->a2v,filter_map->a2z,getElem?_range->a2H,flatMap_append->a2I,contains_cons->a2S,reverse_cons->a3e,range'->a3f,idxOf_append->a3g,ext_getElem?->a3h,range'_succ->a3p,mem_flatMap->a3q,zipWith->a3w,range_succ_eq_map->a3x,range_succ->a3F,of_mem_zip->a3G,set_append_right->a3H,length_singleton->a3I,getElem?_zipWith->a3J,getElem?_reverse->a3K,map_eq_nil_iff->a4a,zip_cons_cons->a4g,map_nil->a4q,map_inj_left->a4r,eraseIdx_eq_take_drop_succ->a4B,length_zip->a4X,idxOf_lt_length_of_mem->a5m,getD_eq_getElem?_getD->a5s,drop_zero->a5t,idxOf_lt_length_iff->a5N,getElem?_take_of_lt->a5O,any_cons->a5P,filter_cons_of_pos->a5S,filter_cons_of_neg->a5T,map_id'->a5Y,any_map->a5Z,all_map->a6a,mem_append_left->a6D,getElem?_of_mem->a6E,length_zipWith->a6L,length_flatMap->a6M,getElem_of_mem->a6N,getD_cons_zero->a6O,mem_filterMap->a7b,pairwise_map->a7D,getElem?_set->a7E,flatMap_cons->a7F,find?_append->a7G,map_reverse->a7N,getElem_inj->a7O,any_eq_true->a7P,forIn_cons->a8i,foldl_cons->a8j,filter_nil->a8k,map->a8t,map_take->a8J
open List.Nodup renaming length_le_of_subset->ZX
open List.Pairwise renaming nil->a5u,map->a5v,imp_of_mem->a9s,imp->a9t
open List.cons renaming injEq->a3k
open Nat renaming le_refl->Yd,ne_of_lt->Yn,lt_of_lt_of_le->YE,le_trans->Y6,ne_of_gt->Zz,lt_irrefl->ZM,lt_succ_self->Z9,zero_le->a0l,lt_of_succ_lt->a0N,le_of_lt->a0O,lt_succ_of_lt->a1o,le_succ->a1w,not_lt->a2W,mod_lt->a2X,le_of_eq->a3E,lt_trichotomy->a4z,lt_trans->a4A,not_lt_zero->a5j,min_eq_left->a5k,succ_mul->a6x,sub_zero->a6y,lt_of_le_of_lt->a7C,mod_eq_of_lt->a8g,le_of_not_lt->a8h,mul_le_mul->a8I,min_self->a9p,lt_or_ge->a9q,lt_asymm->a9r,log2_lt->a9Q
open Ne renaming symm->YW
open Option renaming bind_eq_some_iff->X0,map_eq_some_iff->X5,bind_some->Yy,map_some->YG,isSome_iff_exists->Y2,isSome_map->a2V,getD_none->a3j,getD_some->a7a
open Option.some renaming inj->Ym
open Or renaming inr->a4p,inl->a5M
open PUnit renaming unit->a5h
open Prod renaming ext->a0S,ext_iff->a9e
open Prod.mk renaming inj->a3D
open PyProof.Rows renaming callWith_type1->Zp,seqObj->Z6,callWith_builtin1->a0f,IntsAre->a1R,envOfC->a2j,AllBare->a3y,entry_list_sort->a3Z,slot_list_sort->a4j,args_list_sort->a4l,args_cons->a4o,subscriptTail->a4G,listUpdate_at->a4H,gt_int->a5g,seqEpoch_at->a5J,sortedHeap->a6g,Subscript_->a6s,subscriptTail_builtinR->a7k,boot_range->a8G,IsTup->a9g,Call_->a9h,list_sort_plain->a9B,get?_update_seq->a9D,wpAny_notIn_heap->a9E,mul_int->a9F,mirror_perm->a9G,lt_int->a9H,floordiv_int->a9I,entry_proto_collect'->a9J,entry_list_iadd'->a9K,call_len_slot->a9L,bubble_perm->a9M,bubble->a9N,assign_Tuple_tuple->a9O,assign_Tuple->a9P,tail_any->b0e,args_nil->b0k
open PyProof.Rows.Boot renaming list->a0Z,isinstance->a1v,tuple->a2a,sorted->a3C,dict->a3P,sum->a7r,str->a7s,reversed->a7t,min->a7u,max->a7v,len->a7w,int->a7x,bool->a7y,all->a7z,ValueError->a7A
open PySem renaming wpAny_bind->X1,Shared->X7,wpAny_pure->Yb,sizeLine->Yi,wpAny->Yl,Program->Yt,model->Yv,sizeLine_eq->Yz,Around->YI,starEach->YJ,World->YL,wpAny_holding->YS,mainGlobals->Y0,wpAny_mono->Y1,Heap->Y5,wpAny_newObj_type->Zi,wpAny_loadPart_at->Zj,wpAny_Call_Name_kw->Zk,compareOp->Zy,sysModules->ZA,codeAny_builtin->ZE,wpAny_truthy_bool->ZF,mem_of_lookup->ZH,Params->ZJ,Pos->ZL,cLine->ZO,wpAny_updateSeq->ZT,FuncData->ZU,plainId_quiet->ZW,wpAny_dictEntries->ZY,bootBuiltins->Z5,wpAny_field->a0a,wpAny_call_entry->a0b,excClassObj->a0c,wpAny_tryCatch->a0m,treeTable->a0r,backTo->a0s,Scope->a0t,wpAny_seqItems->a0w,wpAny_letGo->a0x,assignEach->a0B,rawInt->a0F,typeLookup->a0J,intKind->a0P,NameKind->a0Q,pyNext->a0X,attributeBase->a0Y,wpAny_isSubtype_exc->a1b,sliceBounds->a1h,IsRangeIter->a1j,wpAny_setField_rec->a1k,wpAny_pyIter_tuple->a1l,wpAny_passesOwn->a1q,wpAny_ite_split->a1r,tupleKind->a1s,behindInMarks->a1t,wpAny_notOrdered_dict->a1u,foldedSetIterable->a1y,codeAny->a1z,Keyword->a1C,wpAny_setField->a1J,wpAny_rule->a1K,richCompare->a1L,wpAny_isInstance->a1Q,binaryOp->a1Z,CmpOp->a2b,wpAny_specialOf->a2d,wpAny_execs_nil->a2e,wpAny_dictEpoch->a2f,updateSeq->a2k,firstArgMember->a2n,compEnvC->a2o,codeAny_mono->a2p,call_meetsIn->a2q,wpAny_execs_cons->a2B,swapsWith->a2C,seqItems?->a2D,Paired->a2G,storedH->a2J,OsState->a2L,storedH_new->a2N,codeAny_call_builtin->a2O,Env->a2Y,wpAny_typeOf->a3c,wpAny_call->a3m,recursionLimit->a3n,wpAny_pyIter_list->a3u,keywordEach->a3v,wpAny_standAt->a3z,wpAny_callSpecial?_slot->a3L,wpAny_Call_method0_late->a3M,checkBuiltinCall->a3N,atKey->a3O,wpAny_isOneOf_itemiter->a3U,evalArgs_none->a3V,size_of_entries->a3X,letOwnedTupleGo->a3Y,builtinLookup_eq_fast->a4c,wpAny_pyIter_revIter->a4h,wpAny_of_eq->a4i,Result->a4m,valueAt->a4n,BindsTo->a4v,wpAny_newList->a4F,dictSetHashed->a4I,IsItemIterOut->a4M,wpAny_load->a4P,entryOfKey->a4R,call_meets->a4S,assign->a4T,slot_list_getitem->a5b,callerA->a5c,backToKw->a5d,OwnTail->a5i,Model->a5l,wpAny_forIn_list->a5x,setFlight->a5y,seqIndex?->a5z,pyIter->a5A,noteFrame->a5B,isTrue->a5C,cellsFrom->a5D,PassesOwn->a5G,subscripted->a5I,typeLookup_type->a5R,getItem->a5V,Tok->a5W,wpAny_newTuple->a6d,wpAny_newFunctionEnv_cells->a6e,wpAny_Expr_any->a6f,setField->a6h,newTuple->a6i,isSubtype_stop->a6k,isInstance->a6l,dictSetDefault->a6m,callType_codes->a6n,bindL->a6o,bindC->a6p,bindArgs->a6q,Operator->a6w,wpAny_handled->a6H,wpAny_getItem_list_slice->a6I,wpAny_attempt->a6J,swappedStores->a6K,ExceptHandler->a6Q,wpAny_pyNext_tuple_item->a6R,slicePick->a6S,onTheHeap->a6T,wpAny_pyNext_tuple_end->a7e,wpAny_pyNext_range_end->a7f,wpAny_pyNext_list_item->a7g,wpAny_pyIter_rangeiter->a7h,wpAny_Call_method_late->a7i,wpAny_Assign_Subscript->a7j,standAt->a7l,seqIndex_neg->a7m,newExc->a7n,wpAny_pyNext_list_end->a7I,wpAny_isOneOf_keyiter->a7J,codeAny_call_function->a7K,wpAny_updateDictKeys->a7U,wpAny_throw->a7V,wpAny_pyIter_keyiter->a7W,wpAny_point->a7X,unbindBehindTheSuite->a7Y,storedH_old->a7Z,seqIndex_of->a8a,lookup_relabel_local->a8b,getAttr?->a8c,SetTable->a8d,IntMulOk->a8l,HeapKind->a8m,GenState->a8n,wpAny_dictFind_heap->a8o,not_mem_keys_of_get->a8p,Sem->a8s,wpAny_tupleItemsOf->a8x,wpAny_pyIter_range->a8y,wpAny_Name->a8z,sliceRange->a8A,getattributeRaised->a8B,closureFor->a8C,call_reversed_list->a8D,call_function_tree->a8E,builtinsNs->a8F,wpAny_pyIter_slot->a8O,wpAny_pyIter_enum->a8P,wpAny_assign_Name->a8Q,wpAny_Return_some->a8R,wpAny_Assign_Name->a8S,spliced->a8T,relabel->a8U,leaving->a8V,call_sum_walkAnyS->a8X,atKey_none_of_get->a8Y,MeetsIn->a9f,wpAny_pyIter_zip->a9i,lastMarks->a9k,call->a9n,Arguments->a9y,wpAny_loadPart'->a9z,typeNameOfWhole->a9A,importedModules->a9C,wpAny_runValue->b0a,wpAny_fieldsOf->b0b,wpAny_Compare1->b0c,typeOf->b0d,refuseLoop_ref->b0f,raiseNew->b0g
open PySem.Around renaming under_plainId->Zd,under->a5Q,frames_deeper->a6c
open PySem.Builtin renaming sorted->a6z
open PySem.Builtin.Builtins renaming bindParams->a3R
open PySem.Builtin.Dict renaming showsAll->a0W,updateFrom->a1x,entriesForEmpty->a4b,selfAndRest->a4s,addKeywords->a4t,pairItems->a4N,mergeDict->a4O,quietEq->a4Z,readDirectly->a9T,pendingCount->a9U,noArgs->a9V,merge->a9W,keyAndDefault->a9X,dictSlotNone->a9Y
open PySem.Builtin.Dict_items renaming ownsTuple->a1P,ownedTupleIsFree->a2Z,ownedTupleFields->a3a,pairFromOwner->a3l,newIterator->a7S,dictOf->a7T
open PySem.Builtin.Int renaming intBits->YZ,intTooBig->a1U
open PySem.Builtin.List renaming listExtendWith->ZC,listSameRef->a1p,listItems->a1I,listTooLong->a2A,listLengthHint->a4e,listUpdate->a4D
open PySem.Builtin.ObjectAttr renaming storeInDict->a3t,newKeyGuard->a7R
open PySem.Builtin.Range renaming rangeSize->Zl,small->a9x
open PySem.Builtin.Str renaming occurrences->ZP
open PySem.Builtin.Tuple renaming tupleHashOf->a9v,tupleCompareSizes->a9w
open PySem.Calls renaming callWith_builtin->a1a,spliced_cons->a1S,spliced_nil->a2c,evalArgs_plain->a3Q,Name_function_global->a5n,call_function_entry->a5w
open PySem.Challenge renaming rw_creasecourt_k56_barred_refused->X9,pw_creasecourt_k56_barred_refused->Zr
open PySem.Code renaming isFrame->a6b,quiet_builtin->a7c,frames->a9u
open PySem.Data renaming fields->Zg,dict->a1D,seq->a3r,cell->a3s,cls->a6G
open PySem.EntryCells renaming newEntry->a5H
open PySem.F renaming slot_dict_items->a0q,excBase_ValueError->a0C,plainAttrs_dict->a1N,args_dict_items_1->a2Q,store_ValueError->a2T,entry_dict_items->a2U,type_dict_items->a3d,slot_dict_setdefault->a4x,attrBase_ValueError->a4L,slot_dict_getitem->a4W,slot_dict_update->a5e,args_list_init_2->a5f,typeCall_list_1->a5p,entry_list_init->a5q,slot_dict_get->a5K,entry_bexc_ga->a5L,called_list->a5X
open PySem.Heap renaming get?_push_of_some->X6,lt_size->Yc,get?_push_size->Yh,get?_update_other->YF,get?_update_self->YM,size_push->ZZ,SameBut->a0i,get?_none_of_le->a2w,ExtBut->a3i,get?_update_ne->a6P,size_update->a7Q
open PySem.Heap.DictOfH renaming new->a9S
open PySem.Heap.IsSliceOf renaming new->a4Y
open PySem.Heap.IsTuple renaming push->a3W
open PySem.Heap.SameBut renaming update->Zo,refl->a2x
open PySem.IsRange renaming new->a8u
open PySem.NameKind renaming free->a0y,cell->a0I
open PySem.Obj renaming mapSeq->Y7,data_mapDictKeys->a0M,data_mapFields->a1f,isFreed_of_fields->a1m,mapFields->a2t,isFreed_of_dict->a2M,cls_mapFields->a4y,data_mapDict->a8f
open PySem.Paired renaming length->a5r,snoc->a8H
open PySem.PassesOwn renaming never->a6C
open PySem.SeqAt renaming ne_of_list_tuple->a0d,EqAt->a2P
open PySem.Str renaming ofString->Z7
open PySem.Value renaming ref->Ye,type->Yq,none->Y3,builtin->Y9,int->Zh,bool->Z3,str->a2K,isStrOf->a5F,isInt->a6r,float->a9b,bytes->a9c
open PySem.W renaming Frag->X2,behindTheImports->YD,keepIn->Za,nsIn->Zn,boot_drawn->Zt,findIn->ZI,fnOf->ZN,kia_one->a0e,looks_findIn->a0o,mg_of->a0z,Looks->a1E,callWith_K->a1M,codeIn->a1V,topFrame->a1Y,boot_heap->a2l,kitOne->a2E,specialIn->a2R,cellsFrom_some->a3o,notCls->a3A,InstAt->a3B,excIn->a3S,methodObj->a4d,piecesOf->a4k,segRun->a4Q,boot_toks->a5E,kat_cons->a6j,tail_of_in->a6t,isNs_of_in->a6u,codeRec_of->a6v,kitx_list->a6A,kitx_dict->a6B,kas_tail3->a6U,takesIn->a6V,instObj->a6W,findObj->a6X,findCls->a6Y,OpenLaw->a6Z,kas_rev->a7o,kas_descPart->a7p,kitAny->a7q,mroIn->a7L,WalkO->a7M,isFn->a8e,kat_yes->a8W,piece_app->a9j,kas_place->a9l,kas_sort->b0h,kas_desc->b0i,kHook->b0j
open PySem.W.KasT renaming ret->a6F
open PySem.W.Looks renaming here->Z4
open PySem.W.OpenLaw renaming row->Zc
open PySem.W.OpenRow renaming toRowW->a7B
open PySem.W.RowW renaming records->a9d
open PySem.W.WData renaming int->a2s,weightAll->a2F,layable->a4K,weight->a4U,layableAll->a9o
open PySem.W.WShape renaming has->a9a
open PySem.Walks renaming tuple->a4J,range->a8Z,list->a9m
open Std.Legacy.Range renaming size->a8q,forIn_eq_forIn_range'->a8r
open Sum renaming inr->a2i,inl->a4w
open True renaming intro->a1c
set_option compiler.extract_closed false
set_option bootstrap.genMatcherCode false
set_option genSizeOf false
set_option genSizeOfSpec false
set_option Elab.async false
set_option linter.all false
set_option maxRecDepth 100000
set_option linter.all false
abbrev gw:=List PySem.Value
abbrev jw:=List (PySem.Addr×PySem.Obj)
abbrev jq:=List (Int×Int)
namespace L2
open PySem PySem.Spec PyProof.Rows
noncomputable abbrev aU:=Sum Int Str
noncomputable def kG:aU->Value->Bool
 |.inl k,v=>a6r k v|.inr x,v=>a5F x v
noncomputable def Cr(w:YL):aU->Int
 |.inl k=>hashInt k|.inr x=>hashStr w x
theorem kH:∀{k}{v},kG k v=b8->(∃i t,k=a4w i/\v=Zh i t)\/(∃x t,k=a2i x/\v=a2K x t)
 |.inl i,v,h=>by obtain⟨t,e⟩:=Value.isInt_shape (k:=i) (v:=v) h;exact .inl ⟨i,t,rfl,e⟩
 |.inr x,v,h=>by obtain⟨t,e⟩:=Value.isStrOf_shape (x:=x) (v:=v) h;exact .inr ⟨x,t,rfl,e⟩
theorem Jc i t:kG (.inl i) (.int i t)=true:=by simp[kG,a6r]
theorem Jd x t:kG (.inr x) (.str x t)=true:=by simp[kG,a5F]
theorem Je a b:decide ((a4w a:aU)=a4w b)=(a==b):=by
 by_cases e:a=b
 .subst e;simp
 .have h:¬ (a4w a:aU)=a4w b:=λq=>e (Sum.inl.inj q);rw[decide_eq_false h];exact(beq_eq_false_iff_ne.mpr e).symm
theorem Jf a b:decide ((a2i a:aU)=a2i b)=decide (a=b):=by
 by_cases e:a=b
 .subst e;simp
 .have h:¬ (a2i a:aU)=a2i b:=λq=>e (Sum.inr.inj q);rw[decide_eq_false h,decide_eq_false e]
theorem Jg a b:decide ((a4w a:aU)=a2i b)=false:=decide_eq_false (λq=>nomatch q)
theorem Jh a b:decide ((a2i a:aU)=a4w b)=false:=decide_eq_false (λq=>nomatch q)
noncomputable def f6 prog w:PySem.KeyKind prog w aU where
 is:=kG
 hash:=Cr w
 inj:=λv a b l d=>by
  rcases kH l with⟨i,t,rfl,rfl⟩|⟨x,t,rfl,rfl⟩
  .rcases kH d with⟨j,u,rfl,e⟩|⟨y,u,rfl,e⟩
   .injection e with e1 _;rw[e1]
   .exact nomatch e
  .rcases kH d with⟨j,u,rfl,e⟩|⟨y,u,rfl,e⟩
   .exact nomatch e
   .injection e with e1 _;rw[e1]
 byValue:=λk v h=>by rcases kH h with⟨i,t,rfl,rfl⟩|⟨x,t,rfl,rfl⟩<;>rfl
 pyHash:=λc h=>by
  rcases kH c with⟨i,t,rfl,rfl⟩|⟨x,t,rfl,rfl⟩
  .exact wpAny_pyHash_int h
  .exact wpAny_pyHash_str h
 eqBool:=λn c h=>by
  rcases kH n with⟨i,t,rfl,rfl⟩|⟨x,t,rfl,rfl⟩
  .rcases kH c with⟨j,u,rfl,rfl⟩|⟨y,u,rfl,rfl⟩
   .rw[Je]at h;exact wpAny_eqBool_int h
   .rw[Jg]at h;exact SeqAt.EqAt.int_str i t y u _ _ _ _ h
  .rcases kH c with⟨j,u,rfl,rfl⟩|⟨y,u,rfl,rfl⟩
   .rw[Jh]at h;exact SeqAt.EqAt.str_int x t j u _ _ _ _ h
   .rw[Jf]at h;exact wpAny_eqBool_str h
 «strs»:=λk x t v h=>by
  rcases kH h with⟨i,u,rfl,e⟩|⟨y,u,rfl,e⟩
  .exact nomatch e
  .injection e with e1 _;subst e1;cases v<;>rfl
theorem Ji prog w i t:(f6 prog w).is (.inl i) (.int i t)=true:=Jc i t
theorem Jj prog w x t:(f6 prog w).is (.inr x) (.str x t)=true:=Jd x t
inductive V where
 |non|bl (b:Bool)|int (i:Int)|str (x:Str)|byt (b:Array UInt8)|flt (b:UInt64)|ref (a:Addr)|ty (n:String)
 deriving DecidableEq
abbrev gz:=List V
noncomputable def RelV:V->Value->Prop
 |.non,u=>u=Y3|.bl b,u=>u=Z3 b|.int i,u=>∃t,u=Zh i t|.str x,u=>∃t,u=a2K x t|.byt b,u=>∃t,u=a9c b t|.flt b,u=>∃t,u=a9b b t|.ref a,u=>u=Ye a|.ty n,u=>u=Yq n
noncomputable abbrev Vals:gz->gw->Prop:=a2G RelV
theorem Vals.length(r:Vals xs us):xs.length=us.length:=a5r r
theorem Vals.get:∀{xs}{us}{i:Nat}{x},Vals xs us->xs[i]?=b4 x->∃u,us[i]?=b4 u/\RelV x u
 |_,_,_,_,.nil,e=>by simp at e
 |_,_,0,_,.cons r _,e=>by simp at e;subst e;exact⟨_,rfl,r⟩
 |_,_,i+1,x,.cons _ t,e=>by obtain⟨u,a,b⟩:=Vals.get (i:=i) (x:=x) t (by simpa using e);exact⟨u,by simpa using a,b⟩
theorem Vals.set(r:RelV x u):∀{xs}{us}i,Vals xs us->Vals (xs.set i x) (us.set i u)
 |_,_,_,.nil=>.nil|_,_,0,.cons _ t=>.cons r t|_,_,i+1,.cons q t=>.cons q (Vals.set r i t)
theorem Vals.append:∀{xs ys}{us ws},Vals xs us->Vals ys ws->Vals (xs++ys) (us++ws)
 |_,_,_,_,.nil,s=>s|_,_,_,_,.cons r t,s=>.cons r (Vals.append t s)
theorem Vals.take:∀{xs}{us}n,Vals xs us->Vals (xs.take n) (us.take n)
 |_,_,0,_=>.nil|_,_,_+1,.nil=>.nil|_,_,n+1,.cons r t=>.cons r (Vals.take n t)
theorem Vals.drop:∀{xs}{us}n,Vals xs us->Vals (xs.drop n) (us.drop n)
 |_,_,0,r=>r|_,_,_+1,.nil=>.nil|_,_,n+1,.cons _ t=>Vals.drop n t
theorem Vals.none_of:∀{xs}{us}{i:Nat},Vals xs us->xs[i]?=b6->us[i]?=none:=λ{xs us i} r e=>by have a:=r.length;have b:xs.length<=i:=YV.mp e;exact YV.mpr (by lia)
noncomputable def RelO:Option V->Option Value->Prop
 |some v,b4 u=>RelV v u|none,b6=>True|_,_=>False
noncomputable def KV{κ:Type}:List (κ×V)->List (κ×Value)->Prop:=a2G λ(p:κ×V)(q:κ×Value)=>p.1=q.1/\RelV p.2 q.2
noncomputable def kV:aU->V
 |.inl i=>.int i|.inr x=>.str x
inductive HO where
 |lst (xs:gz)
 |tup (xs:gz)
 |dK (kvs:List (aU×V))|dT (kvs:List (List aU×V))
 |set (S:Int->Bool)(n:Nat)
 |ins (C dx:Addr)(fs:List (Str×V))
 |own (x:Addr)
 |xd (fs:List (Str×V))
 |met (f x:Addr)
 |rng (lo hi:Int)
 |frz (o:Obj)(u:HO)
 |tbl (ps:Array Value)
 |ext (φ:Y5->Prop)
noncomputable abbrev Hp:=Addr->Option HO
noncomputable def upd(H:Hp)(a:Addr)(o:HO):Hp:=λb=>if b=a then b4 o else H b
theorem bN:upd H a o a=b4 o:=by unfold upd;rw[if_pos rfl]
theorem aN(h:b≠a):upd H a o b=H b:=by unfold upd;rw[if_neg h]
theorem iD{H:Hp}(h:H a=b4 o)(h':H b=b6):a≠b:=by intro e;subst e;rw[h]at h';cases h'
section
variable(P:Yt)(w:YL)
noncomputable def TupN(h:Y5)(a:Addr)(xs:Array Value):Prop:=∃o,h.get? a=b4 o/\o.cls=.type "tuple"/\∃n,o.data=.seq xs n/\o.dict=b6
theorem TupN.tup{h:Y5}{a:Addr}{xs:Array Value}(x:TupN h a xs):a9g h a xs:=let⟨o,e,c,n,d,_⟩:=x;⟨o,e,c,n,d⟩
theorem TupN.new(h:Y5)items:TupN (h.push {cls:=.type "tuple",data:=.seq items}) h.objs.size items:=⟨_,Yh _ rfl,rfl,_,rfl,rfl⟩
noncomputable def ObjOk(H:Hp)(h:Y5)(a:Addr):HO->Prop
 |.lst b=>b.length<=Yi/\∃(its:gw)(n:Nat),Vals b its/\h.get? a=b4 {cls:=.type "list",data:=.seq its.toArray n}|.tup b=>b.length<=Yi/\∃its:gw,Vals b its/\TupN h a its.toArray|.dK kvs=>kvs.length<=Yi/\(a==ZA)=b7/\∃j,KV kvs j/\h.DictOf (f6 P w) a j|.dT kvs=>kvs.length<=Yi/\(a==ZA)=b7/\∃b:List (List aU×Addr×Value),
   a2G (λ(p:List aU×V)(q:List aU×Addr×Value)=>p.1=q.1/\H q.2.1=b4 (.tup (p.1.map kV))/\RelV p.2 q.2.2) kvs b /\
   ∃o d k,h.get? a=b4 o/\o.ExactDict/\o.data=.dict d k/\d.toList=b.map (a4R (a1s (f6 P w)))/\(b.map (·.1)).Nodup
 |.set S n=>h.SetOf (a0P P w) a S n|.ins C dx fs=>H dx=b4 (.own a)/\fs.length<=1000/\dx≠a/\h.get? a=b4 (a6W C dx) /\
   ∃c,h.Ns1 dx c/\(∀f,RelO (fs.lookup f) (c f))/\PySem.Within c (fs.map (·.1))
 |.own _=>∃o,h.get? a=b4 o|.xd fs=>∃c,h.Ns1 a c/\∀f,RelO (fs.lookup f) (c f)|.rng lo hi=>∃t u v,h.get? a=b4 {cls:=.type "range",data:=.fields #[.int lo t,.int hi u,.int 1 v]}|.frz o u=>h.get? a=b4 o/\ObjOk H h a u|.tbl ps=>h.get? a=b4 {cls:=.none,data:=.fields ps}|.met f x=>h.get? a=b4 (a4d (.ref f) (.ref x))|.ext φ=>φ h/\(∃o,h.get? a=b4 o)/\∀e i:Y5,φ e->(∀o,e.get? a=b4 o->i.get? a=b4 o)->φ i
noncomputable def HOk(H:Hp)(h:Y5):Prop:=∀a o,H a=b4 o->ObjOk P w H h a o
end
theorem ObjOk.lt{P:Yt}{w:YL}{H:Hp}{h:Y5}{a:Addr}{o:HO}(x:ObjOk P w H h a o):a<h.objs.size:=by
 cases o with
 |lst c=>obtain⟨_,_,_,_,e⟩:=x;exact Yc e|tup c=>obtain⟨_,_,_,p⟩:=x;exact p.tup.lt|dK b=>obtain⟨_,_,_,_,o,_,_,e,_⟩:=x;exact Yc e|dT b=>obtain⟨_,_,_,_,o,_,_,e,_⟩:=x;exact Yc e|set S n=>obtain⟨o,_,_,_,e,_⟩:=x;exact Yc e|ins C d fs=>obtain⟨_,_,_,e,_⟩:=x;exact Yc e|own y=>obtain⟨_,e⟩:=x;exact Yc e|xd fs=>obtain⟨_,⟨_,_,_,e,_⟩,_⟩:=x;exact Yc e|rng j i=>obtain⟨_,_,_,e⟩:=x;exact Yc e|frz k u=>obtain⟨e,_⟩:=x;exact Yc e|tbl l=>exact Yc (show h.get? a=b4 _ from x)|met f y=>exact Yc (show h.get? a=b4 _ from x)|ext q=>obtain⟨_,⟨_,e⟩,_⟩:=x;exact Yc e
theorem a2G.mapP{F G:e->i->Prop}:∀{c}{d},a2G F c d->(∀a b,F a b->G a b)->a2G G c d
 |_,_,.nil,_=>.nil|_,_,.cons r t,f=>.cons (f _ _ r) (a2G.mapP t f)
theorem ObjOk.stay(x:ObjOk P w H h a o)(k:∀b u,(b=a\/H b=b4 (.own a))->h.get? b=b4 u->h'.get? b=b4 u)(K:∀b,H b=b4 (.own a)->H' b=b4 (.own a))(L:∀b A,H b=b4 (.tup A)->H' b=b4 (.tup A)):ObjOk P w H' h' a o:=by
 induction o with
 |lst A=>obtain⟨z,s,n,r,e⟩:=x;exact⟨z,s,n,r,k _ _ (.inl rfl) e⟩|tup A=>obtain⟨z,s,r,i,e,c⟩:=x;exact⟨z,s,r,i,k _ _ (.inl rfl) e,c⟩|dK B=>obtain⟨z,y,N,r,i,l,j,e,c⟩:=x;exact⟨z,y,N,r,i,l,j,k _ _ (.inl rfl) e,c⟩|dT B=>obtain⟨z,y,A,r,i,l,j,e,c⟩:=x;exact⟨z,y,A,a2G.mapP r λp q z=>⟨z.1,L _ _ z.2.1,z.2.2⟩,i,l,j,k _ _ (.inl rfl) e,c⟩|set S n=>obtain⟨i,l,j,t,e,c⟩:=x;exact⟨i,l,j,t,k _ _ (.inl rfl) e,c⟩|ins C O fs=>obtain⟨d,z,ne,e,E,⟨G,l,j,J,c⟩,r⟩:=x;exact⟨K _ d,z,ne,k _ _ (.inl rfl) e,E,⟨G,l,j,k _ _ (.inr d) J,c⟩,r⟩|own y=>obtain⟨i,e⟩:=x;exact⟨i,k _ _ (.inl rfl) e⟩|xd fs=>obtain⟨E,⟨G,l,j,e,c⟩,r⟩:=x;exact⟨E,⟨G,l,j,k _ _ (.inl rfl) e,c⟩,r⟩|rng R Q=>obtain⟨t,u,v,e⟩:=x;exact⟨t,u,v,k _ _ (.inl rfl) e⟩|frz i u M=>obtain⟨e,q⟩:=x;exact⟨k _ _ (.inl rfl) e,M q⟩|tbl I=>have e:h.get? a=b4 {cls:=.none,data:=.fields I}:=x;show h'.get? a=b4 {cls:=.none,data:=.fields I};exact k a _ (.inl rfl) e|met f y=>have e:h.get? a=b4 (a4d (.ref f) (.ref y)):=x;show h'.get? a=b4 (a4d (.ref f) (.ref y));exact k a _ (.inl rfl) e|ext T=>obtain⟨p,⟨o,e⟩,st⟩:=x;exact⟨st _ _ p λo q=>k _ _ (.inl rfl) q,⟨o,k _ _ (.inl rfl) e⟩,st⟩
theorem HOk.lt{P:Yt}{w:YL}{H:Hp}{h:Y5}{a:Addr}{o:HO}(x:HOk P w H h)(e:H a=b4 o):a<h.objs.size:=(x a o e).lt
theorem HOk.fresh{a:Addr}(x:HOk P w H h)(e:h.objs.size<=a):H a=none:=by
 cases q:H a with
 |none=>rfl|some u=>exact absurd (YE (x.lt q) e) (ZM _)
theorem HOk.kept(x:HOk P w H h)(k:∀b u,h.get? b=b4 u->h'.get? b=b4 u):HOk P w H h':=λa o e=>(x a o e).stay (λb u _ q=>k b u q) (λ_ q=>q) λ_ _ q=>q
theorem HOk.laid{a:Addr}(x:HOk P w H h)(k:∀b u,h.get? b=b4 u->h'.get? b=b4 u)(j:h.objs.size<=a)(new:ObjOk P w (upd H a o) h' a o):HOk P w (upd H a o) h':=λb u e=>by
 have i:=x.fresh j;by_cases d:b=a
 .subst d;rw[bN]at e;cases e;exact new
 .rw[aN d]at e;exact(x b u e).stay (λc v _ q=>k c v q) (λc q=>by rw[aN (iD q i)];exact q) λc l q=>by rw[aN (iD q i)];exact q
noncomputable def Rd(H:Hp)(a:Addr)(u:HO):Prop:=H a=b4 u\/∃o,H a=b4 (.frz o u)
theorem Rd.of(h:H a=b4 u):Rd H a u:=.inl h
theorem Rd.ok(r:Rd H a u)(x:HOk P w H h):ObjOk P w H h a u:=by
 rcases r with r|⟨o,r⟩
 .exact x a u r
 .obtain⟨_,q⟩:=x a _ r;exact q
noncomputable def qP:Option HO->Prop
 |some (.lst _)=>True|some (.dK _)=>True|some (.dT _)=>True|some (.set _ _)=>True|some (.ins _ _ _)=>True|some (.ext _)=>True|_=>False
theorem HOk.write(ok:HOk P w H h)(l:qP (H x))(p:e=x\/H e=b4 (.own x))(k:∀b u,b≠e->h.get? b=b4 u->h'.get? b=b4 u)(o:∃u,h'.get? e=b4 u)(new:ObjOk P w (upd H x o') h' x o'):HOk P w (upd H x o') h':=λb u q=>by
 have d:∀c y,H c=b4 (.own y)->c≠x:=λc y r z=>by subst z;rw[r]at l;exact l
 have i:∀c n,H c=b4 (.tup n)->c≠x:=λc n r z=>by subst z;rw[r]at l;exact l
 by_cases j:b=x
 .subst j;rw[bN]at q;cases q;exact new
 .rw[aN j]at q;by_cases a:b=e
  .have s:H b=b4 (.own x):=by
    rcases p with z|z
    .exact absurd (a.trans z) j
    .rw[a];exact z
   rw[q]at s;cases s;obtain⟨v,A⟩:=o;exact⟨v,by rw[a];exact A⟩
  .refine(ok b u q).stay (λc v hc r=>k c v ?_ r) (λc r=>by rw[aN (d c b r)];exact r) λc n r=>by rw[aN (i c n r)];exact r
   rcases hc with rfl|hc
   .exact a
   .rintro rfl;rcases p with z|z
    .exact d c b hc z
    .rw[hc]at z;cases z;exact j rfl
structure Un(fs ex:List Addr)(H H':Hp)(h h':Y5):Prop where
 keep:∀b o,h.get? b=b4 o->H b=b6->b∉fs->b∉ex->h'.get? b=b4 o
 slot:∀b o,h.get? b=b4 o->H b=b6->b∈fs->b∉ex->∃sl,h'.get? b=b4 {o with slots:=sl}
 free:∀b o,h.get? b=b4 o->H b=b6->b∉ex->H' b=b6
 there:∀b o,h.get? b=b4 o->b∉ex->∃o',h'.get? b=b4 o'
 tups:∀b xs,H b=b4 (.tup xs)->H' b=b4 (.tup xs)
 frzs:∀b o u,H b=b4 (.frz o u)->H' b=b4 (.frz o u)
 tbls:∀b ps,H b=b4 (.tbl ps)->∃more,H' b=b4 (.tbl (ps++more))
theorem Un.any(u:Un fs ex H H1 h h1)(q:h.get? b=b4 c)(n:H b=b6)(i:b∉ex):∃j,h1.get? b=b4 {c with slots:=j}:=by
 by_cases d:b∈fs
 .exact u.slot b c q n d i
 .exact⟨c.slots,u.keep b c q n d i⟩
theorem Un.kept(k:∀b u,h.get? b=b4 u->h'.get? b=b4 u):Un fs ex H H h h':=
 ⟨λb c q _ _ _=>k b c q,λb c q _ _ _=>⟨c.slots,k b c q⟩,λ_ _ _ n _=>n,λb c q _=>⟨c,k b c q⟩,λ_ _ q=>q,λ_ _ _ q=>q,λ_ d q=>⟨#[],by rw[q];simp⟩⟩
theorem Un.refl:Un fs ex H H h h:=Un.kept λ_ _ q=>q
theorem Un.laid{h:Y5}{a:Addr}(k:∀b u,h.get? b=b4 u->h'.get? b=b4 u)(d:h.objs.size<=a)(c:H a=b6):Un fs ex H (upd H a o) h h' where
 keep:=λb u q _ _ _=>k b u q
 slot:=λb u q _ _ _=>⟨u.slots,k b u q⟩
 free:=λb u q n _=>by rw[aN (Yn (YE (Yc q) d))];exact n
 there:=λb u q _=>⟨u,k b u q⟩
 tups:=λb i q=>by rw[aN (iD q c)];exact q
 frzs:=λb u i q=>by rw[aN (iD q c)];exact q
 tbls:=λb j q=>⟨#[],by rw[aN (iD q c),q];simp⟩
theorem Un.write(d:qP (H x))(s:e=x\/H e=b4 (.own x))(k:∀b u,b≠e->h.get? b=b4 u->h'.get? b=b4 u)(i:∃u,h'.get? e=b4 u):Un fs ex H (upd H x o) h h':=by
 have p:∀b,H b=b6->b≠x:=λb n z=>by subst z;rw[n]at d;exact d
 have l:∀b,H b=b6->b≠e:=λb n z=>by
  subst z;rcases s with r|r
  .exact p b n r
  .rw[n]at r;cases r
 have j:∀b u,H b=b4 u->¬ qP (b4 u)->b≠x:=λb u q v z=>by subst z;rw[q]at d;exact v d
 refine⟨λb u q n _ _=>k b u (l b n) q,λb u q n _ _=>⟨u.slots,k b u (l b n) q⟩,λb u q n _=>by rw[aN (p b n)];exact n,λb u q _=>?_,
  λb w q=>by rw[aN (j b _ q λz=>z)];exact q,λb u w q=>by rw[aN (j b _ q λz=>z)];exact q,λb y q=>⟨#[],by rw[aN (j b _ q λz=>z),q];simp⟩⟩
 by_cases c:b=e
 .subst c;exact i
 .exact⟨u,k b u c q⟩
theorem Un.mono(u:Un fs ex H H1 h h1)(k:∀b∈fs,b∈fs')(i:∀b∈ex,b∈ex'):Un fs' ex' H H1 h h1:=
 ⟨λb d q n j c=>u.keep b d q n (λz=>j (k b z)) λz=>c (i b z),λ_ _ q n _ c=>u.any q n λz=>c (i _ z),λb d q n c=>u.free b d q n λz=>c (i b z),λb d q c=>u.there b d q λz=>c (i b z),u.tups,u.frzs,u.tbls⟩
noncomputable def tU(h:Y5)(H:Hp):List Addr:=(YR h.objs.size).filter λa=>(H a).isSome
noncomputable def kI(h:Y5)(H:Hp):Y5:=PySem.W.hideAll h (tU h H)
theorem Jk h H:(kI h H).objs.size=h.objs.size:=PySem.W.hideAll_size _ _
theorem Jl(e:h.get? b=b4 o)(n:H b=b6):(kI h H).get? b=b4 o:=
 PySem.W.hideAll_get _ e λa=>by have q:(H b).isSome=true:=(Zu.mp a).2;rw[n]at q;simp at q
theorem Jm(e:(kI h H).get? b=b4 o):h.get? b=b4 o/\H b=none:=by
 have a:h.get? b=b4 o:=PySem.W.of_hideAll (tU h H) e;refine⟨a,?_⟩;cases q:H b with
 |none=>rfl|some x=>have c:b∈tU h H:=Zu.mpr ⟨Zq.mpr (Yc a),by simp[q]⟩;have z:(kI h H).get? b=none:=PySem.W.hideAll_none (tU h H) c;rw[z]at e;cases e
noncomputable def Jn(g h:Y5)(L:Addr):jw:=(YR h.objs.size).filterMap λa=>if a=L\/(g.get? a).isSome=b8 then b6 else(h.get? a).map λo=>(a,o)
noncomputable def rest(g h:Y5)(L d:Addr):jw:=(Jn g h L).filter λp=>decide (p.1≠d)
structure Mod(K:X2)(mg:Str->Option Value)(base:Y5):Prop where
 kin:K.In base
 glob:base.Ns Y0 mg
 blt:∃mb,base.Ns a8F mb/\∀x:Str,x ≠ "__name__"->mb x=Z5 x
 nolimit:base.NoLimit
structure Cx where
 prog:Yt
 w:YL
 K:X2
 mg:Str->Option Value
 base:Y5
 A:YI
 N:List Str
 s₀:X7
 H₀:Hp
 env:a2Y
 outer:List a2Y
 stack:List a2Y
 ex:List Addr
 fn:Str->Bool
 calm:Bool
 pn:jw
 xe:Value->X7->Prop
noncomputable def dG(l:List a2Y):List Addr:=l.filterMap (·.frame)
noncomputable abbrev Cx.fs(X:Cx):List Addr:=dG X.outer
noncomputable def lG(sc:a0t)(x:Str):Prop:=sc.names.lookup x=b4 .local\/sc.names.lookup x=b4 .cell\/sc.names.lookup x=b4 .free
noncomputable def Loc(sc:a0t)(x:Str):Prop:=sc.names.lookup x=b4 .local\/sc.names.lookup x=b4 .cell
noncomputable def Jo(env:a2Y)(h:Y5)(m:Str->Option Value)(x:Str)(u:Value):Prop:=
 (env.kindOf x=b4 .local/\m x=b4 u)\/((env.kindOf x=b4 .cell\/env.kindOf x=b4 .free)/\∃c,env.cells.lookup x=b4 c/\h.IsCell c (b4 u))
structure Cx.Ok(X:Cx):Prop where
 mod:Mod X.K X.mg X.base
 kind:X.env.scope.kind=.function
 glob:X.env.globals=Y0
 blt:X.env.builtins=a8F
 above:X.s₀.heap.objs.size<=X.env.locals
 inj:∀x y c,X.env.cells.lookup x=b4 c->X.env.cells.lookup y=b4 c->x=y
 has:∀x,(X.env.kindOf x=b4 .cell\/X.env.kindOf x=b4 .free)->∃c,X.env.cells.lookup x=b4 c
 cab:∀x c,X.fn x=b8->X.env.cells.lookup x=b4 c->X.s₀.heap.objs.size<=c
 hd:X.calm=b8->X.A.handled=b6
 frames:X.A.frames=b4 X.stack
 stk:X.stack=X.outer\/(X.stack=X.env::X.outer/\X.env.frame=b4 X.env.locals)
 exf:∀b∈X.ex,b≠X.env.locals/\∀x c,X.env.cells.lookup x=b4 c->c≠b
 bs:∀b o,X.base.get? b=b4 o->X.s₀.heap.get? b=b4 o/\X.H₀ b=b6
 bsz:X.base.objs.size<=X.s₀.heap.objs.size
 noex:∀b o,X.base.get? b=b4 o->b∉X.ex
 exfs:∀b∈X.ex,b∉X.fs
 funs:X.s₀.heap.FunFrames X.base X.outer
 frf:∀b∈X.fs,X.H₀ b=b6
structure Inv(X:Cx)(b0l:jw)(σ:List (Option V))(H:Hp)(s:X7):Prop where
 ok:X.Ok
 os:s.os=X.s₀.os
 bare:a3y s.gens
 base:Un X.fs X.ex X.H₀ H X.s₀.heap s.heap
 loc:∃m,s.heap.Ns X.env.locals m/\∀(i:Nat)(x:Str)(v:V),X.N[i]?=b4 x->σ[i]?=b4 (b4 v)->lG X.env.scope x->∃u,RelV v u/\Jo X.env s.heap m x u
 cell:∀x c,X.env.cells.lookup x=b4 c->∃v,s.heap.IsCell c v
 free:H X.env.locals=b6
 freeC:∀x c,X.env.cells.lookup x=b4 c->H c=b6
 pin:∀p∈X.pn++b0l,s.heap.get? p.1=b4 p.2/\H p.1=b6/\p.1≠X.env.locals/\p.1∉X.fs/\∀v,p.2.data≠.cell v
 hok:HOk X.prog X.w H s.heap
 len:σ.length=X.N.length
theorem Cx.Ok.nofr{X:Cx}(ok:X.Ok)(e:X.base.get? b=b4 o):b∉X.fs:=λa=>by have:=(ok.funs.mem a).1;rw[e]at this;cases this
theorem Inv.bs(I:Inv X b0l σ H s):∀b o,X.base.get? b=b4 o->s.heap.get? b=b4 o/\H b=none:=λb o e=>⟨I.base.keep b o (I.ok.bs b o e).1 (I.ok.bs b o e).2 (I.ok.nofr e) (I.ok.noex b o e),I.base.free b o (I.ok.bs b o e).1 (I.ok.bs b o e).2 (I.ok.noex b o e)⟩
theorem Inv.bk(I:Inv X b0l σ H s):∀b o,X.base.get? b=b4 o->s.heap.get? b=b4 o:=λb o e=>(I.bs b o e).1
theorem Inv.mod(I:Inv X b0l σ H s):Mod X.K X.mg X.base:=I.ok.mod
theorem Inv.kIn(I:Inv X b0l σ H s):X.K.In s.heap:=I.ok.mod.kin.keeps I.bk
theorem Inv.lt{X:Cx}{b0l:jw}{σ:List (Option V)}{H:Hp}{s:X7}(I:Inv X b0l σ H s):X.env.locals<s.heap.objs.size:=let⟨_,a,_⟩:=I.loc;a.lt
theorem Inv.sz(I:Inv X b0l σ H s):X.s₀.heap.objs.size<=s.heap.objs.size:=Y6 I.ok.above (a0O I.lt)
theorem Inv.nofs(I:Inv X b0l σ H s){a:Addr}(h:s.heap.objs.size<=a):a∉X.fs:=λb=>by obtain⟨_,o,c,_⟩:=I.ok.funs.mem b;exact absurd (YE (Yc c) (Y6 I.sz h)) (ZM _)
theorem Inv.cne(I:Inv X b0l σ H s):∀x c,X.env.cells.lookup x=b4 c->c≠X.env.locals:=λx c e z=>by obtain⟨v,o,d,hd⟩:=I.cell x c e;obtain⟨m,⟨j,i,h,b,a,_⟩,_⟩:=I.loc;rw[z,b]at d;cases d;rw[a]at hd;cases hd
theorem Inv.funs(I:Inv X b0l σ H s):s.heap.FunFrames X.base X.outer:=by
 have all:∀(l:List a2Y),(∀b∈dG l,b∈X.fs)->X.s₀.heap.FunFrames X.base l->s.heap.FunFrames X.base l:=by
  intro l;induction l with
  |nil=>intro _ _;trivial|cons i r u=>intro h k;obtain⟨j,⟨L,o,d,n,p,hd⟩,q⟩:=k;have a:L∈X.fs:=h L (by unfold dG;rw[a0A,d];exact YQ);obtain⟨v,e⟩:=I.base.slot L o p (I.ok.frf L a) a λz=>I.ok.exfs L z a;exact⟨j,⟨L,_,d,n,e,hd⟩,u (λb c=>h b (by unfold dG;rw[a0A,d];exact YK _ c)) q⟩
 exact all X.outer (λ_ c=>c) I.ok.funs
theorem Inv.stack(I:Inv X b0l σ H s):s.heap.FunFrames X.base X.stack:=by
 rcases I.ok.stk with e|⟨e,a⟩
 .rw[e];exact I.funs
 .rw[e];obtain⟨m,b,_⟩:=I.loc;refine .cons (by rw[I.ok.kind];decide) a b ?_ I.funs;exact a2w (Y6 I.ok.bsz I.ok.above)
theorem Inv.stkSub(I:Inv X b0l σ H s):∀b∈dG X.stack,b∈X.env.locals::X.fs:=λb a=>by
 rcases I.ok.stk with e|⟨e,c⟩
 .rw[e]at a;exact YK _ a
 .rw[e]at a;unfold dG at a;rw[a0A,c]at a;exact a
theorem Inv.stkFree(I:Inv X b0l σ H s):∀b∈dG X.stack,H b=none:=λb a=>by
 rcases YN.mp (I.stkSub b a)with e|a
 .rw[e];exact I.free
 .obtain⟨_,o,c,_⟩:=I.ok.funs.mem a;exact I.base.free b o c (I.ok.frf b a) λz=>I.ok.exfs b z a
theorem Inv.step{ch:List Addr}(I:Inv X b0l σ H s)(j:∀b∈ch,(b∈X.ex\/X.s₀.heap.objs.size<=b)/\b≠X.env.locals/\(∀x c,X.env.cells.lookup x=b4 c->c≠b)/\∀p∈X.pn++b0l,p.1≠b)(w:∀b o,b≠X.env.locals->b∉X.fs->b∉ch->s.heap.get? b=b4 o->H b=b6->h'.get? b=b4 o)(E:∀b o,b≠X.env.locals->b∈X.fs->b∉ch->s.heap.get? b=b4 o->H b=b6->∃Y,h'.get? b=b4 {o with slots:=Y})(free:∀b o,b∉ch->s.heap.get? b=b4 o->H b=b6->H' b=b6)(K:∀b o,b∉ch->s.heap.get? b=b4 o->∃Q,h'.get? b=b4 Q)(T:∀b G,H b=b4 (.tup G)->H' b=b4 (.tup G))(N:∀b o u,H b=b4 (.frz o u)->H' b=b4 (.frz o u))(R:∀b U,H b=b4 (.tbl U)->∃more,H' b=b4 (.tbl (U++more)))(ns:∀m,s.heap.Ns X.env.locals m->h'.Ns X.env.locals m)(hok:HOk X.prog X.w H' h')(hg:a3y g'):
  Inv X b0l σ H' {s with heap:=h',gens:=g',drawn:=d',toks:=t'}:=by
 have O:∀b o,X.s₀.heap.get? b=b4 o->b≠X.env.locals:=λb o e=>Yn (YE (Yc e) I.ok.above);have B:∀b o,X.s₀.heap.get? b=b4 o->b∉X.ex->b∉ch:=λb o e a J=>by
  rcases(j b J).1 with z|z
  .exact a z
  .exact absurd (YE (Yc e) z) (ZM _)
 have h:∀x c,X.env.cells.lookup x=b4 c->∀v,s.heap.IsCell c v->h'.IsCell c v:=λx c e v ⟨o,L,hd⟩=>by
  have y:c∉ch:=λz=>(j c z).2.2.1 x c e rfl;by_cases hc:c∈X.fs
  .obtain⟨Y,q⟩:=E c o (I.cne x c e) hc y L (I.freeC x c e);exact⟨_,q,hd⟩
  .exact⟨o,w c o (I.cne x c e) hc y L (I.freeC x c e),hd⟩
 refine⟨I.ok,I.os,hg,⟨λb o e n J a=>?_,λb o e n J a=>?_,λb o e n a=>?_,λb o e a=>?_,λb G e=>T b G (I.base.tups b G e),λb o G e=>N b o G (I.base.frzs b o G e),λb U e=>?_⟩,?_,λx c e=>?_,?_,λx c e=>?_,λp hp=>?_,hok,I.len⟩
 .exact w b o (O b o e) J (B b o e a) (I.base.keep b o e n J a) (I.base.free b o e n a)
 .obtain⟨Y,A⟩:=I.base.slot b o e n J a;obtain⟨Z,M⟩:=E b _ (O b o e) J (B b o e a) A (I.base.free b o e n a);exact⟨Z,M⟩
 .obtain⟨Q,A⟩:=I.base.there b o e a;exact free b Q (B b o e a) A (I.base.free b o e n a)
 .obtain⟨Q,A⟩:=I.base.there b o e a;exact K b Q (B b o e a) A
 .obtain⟨m1,A⟩:=I.base.tbls b U e;obtain⟨m2,M⟩:=R b _ A;exact⟨m1++m2,by rw[M,Array.append_assoc]⟩
 .obtain⟨m,hn,hl⟩:=I.loc;refine⟨m,ns m hn,λi x v A M e3=>?_⟩;obtain⟨u,r,l⟩:=hl i x v A M e3;refine⟨u,r,?_⟩;rcases l with l|⟨k,c,e,z⟩
  .exact .inl l
  .exact .inr ⟨k,c,e,h x c e _ z⟩
 .obtain⟨v,z⟩:=I.cell x c e;exact⟨v,h x c e v z⟩
 .obtain⟨m,⟨o,_,_,L,_⟩,_⟩:=I.loc;exact free _ o (λz=>(j _ z).2.1 rfl) L I.free
 .obtain⟨v,o,L,hd⟩:=I.cell x c e;exact free c o (λz=>(j c z).2.2.1 x c e rfl) L (I.freeC x c e)
 .obtain⟨e,n,ne,nf,d⟩:=I.pin p hp;have y:p.1∉ch:=λz=>(j p.1 z).2.2.2 p hp rfl;exact⟨w p.1 p.2 ne nf y e n,free p.1 p.2 y e n,ne,nf,d⟩
theorem Inv.un(I:Inv X b0l σ H s)(u:Un X.fs [] H H' s.heap h')(hok:HOk X.prog X.w H' h'):Inv X b0l σ H' {s with heap:=h',toks:=t'}:=by
 obtain⟨m,⟨o,q,p,i,r⟩,_⟩:=id I.loc;obtain⟨x,j⟩:=u.any i I.free (by simp);exact I.step (g':=s.gens) (d':=s.drawn) (ch:=[]) (λ_ z=>nomatch z) (λb o _ h _ e n=>u.keep b o e n h (by simp)) (λb o _ h _ e n=>u.slot b o e n h (by simp)) (λb o _ e n=>u.free b o e n (by simp)) (λb o _ e=>u.there b o e (by simp)) u.tups u.frzs u.tbls (λv k=>by
  obtain⟨w,d,c,a,l⟩:=k;rw[i]at a;cases a;exact⟨_,d,c,j,l⟩) hok I.bare
theorem Inv.call(I:Inv X b0l σ H s)(u:Un (dG X.stack) ch H H' s.heap h')(hok:HOk X.prog X.w H' h')(q:a3y g')(a:∀b∈ch,(b∈X.ex\/X.s₀.heap.objs.size<=b)/\b≠X.env.locals/\(∀x c,X.env.cells.lookup x=b4 c->c≠b)/\∀p∈X.pn++b0l,p.1≠b):
  Inv X b0l σ H' {s with heap:=h',gens:=g',drawn:=d',toks:=t'}:=by
 obtain⟨m,⟨o,A,y,k,r⟩,_⟩:=id I.loc;obtain⟨G,j⟩:=u.any k I.free λz=>(a _ z).2.1 rfl;exact I.step (ch:=ch) a (λb o j l hc e n=>u.keep b o e n (λz=>(YN.mp (I.stkSub b z)).elim j l) hc) (λb o _ _ hc e n=>u.any e n hc) (λb o hc e n=>u.free b o e n hc) (λb o hc e=>u.there b o e hc) u.tups u.frzs u.tbls (λB v=>by
  obtain⟨E,i,h,d,w⟩:=v;rw[k]at d;cases d;exact⟨_,i,h,j,w⟩) hok q
theorem Inv.turned(I:Inv X b0l σ H s)(k:∀b o,b≠a->s.heap.get? b=b4 o->h'.get? b=b4 o)(B:H a=b6)(h:a≠X.env.locals)(h1:a∈X.ex\/X.s₀.heap.objs.size<=a)(l:∀x c,X.env.cells.lookup x=b4 c->c≠a)(w:∀p∈X.pn++b0l,p.1≠a):Inv X b0l σ H {s with heap:=h',toks:=t'}:=by
 have d:∀b u,H b=b4 u->b≠a:=λb u e z=>by rw[z,B]at e;cases e
 refine I.step (g':=s.gens) (d':=s.drawn) (ch:=[a]) (λb y=>?_) (λb o _ _ hc e _=>k b o (λz=>hc (by simp[z])) e) (λb o _ _ hc e _=>⟨o.slots,k b o (λz=>hc (by simp[z])) e⟩) (λ_ _ _ _ n=>n)
  (λb o hc e=>⟨o,k b o (λz=>hc (by simp[z])) e⟩) (λ_ _ e=>e) (λ_ _ _ e=>e) (λb G e=>⟨#[],by rw[e];simp⟩) (λm A=>?_) (λb u e=>?_) I.bare
 .have e:b=a:=by simpa using y
  subst e;exact⟨h1,h,l,w⟩
 .obtain⟨o,j,i,E,r⟩:=A;exact⟨o,j,i,k _ o (YW h) E,r⟩
 .refine(I.hok b u e).stay (λc v hc q=>k c v ?_ q) (λ_ q=>q) λ_ _ q=>q;rcases hc with z|z
  .rw[z];exact d b u e
  .exact d c _ z
theorem Inv.tok(I:Inv X b0l σ H s)t:Inv X b0l σ H {s with toks:=t}:=I.un (h':=s.heap) (t':=t) Un.refl I.hok
theorem Inv.kept(I:Inv X b0l σ H s)(k:∀b u,s.heap.get? b=b4 u->h'.get? b=b4 u):Inv X b0l σ H {s with heap:=h',toks:=t'}:=I.un (Un.kept k) (I.hok.kept k)
theorem Inv.laid{a:Addr}(I:Inv X b0l σ H s)(k:∀b u,s.heap.get? b=b4 u->h'.get? b=b4 u)(c:s.heap.objs.size<=a)(new:ObjOk X.prog X.w (upd H a o) h' a o):
  Inv X b0l σ (upd H a o) {s with heap:=h',toks:=t'}:=I.un (Un.laid k c (I.hok.fresh c)) (I.hok.laid k c new)
theorem Inv.write(I:Inv X b0l σ H s)(d:qP (H x))(c:e=x\/H e=b4 (.own x))(k:∀b u,b≠e->s.heap.get? b=b4 u->h'.get? b=b4 u)(a:∃u,h'.get? e=b4 u)(new:ObjOk X.prog X.w (upd H x o) h' x o):Inv X b0l σ (upd H x o) {s with heap:=h',toks:=t'}:=I.un (Un.write d c k a) (I.hok.write d c k a new)
theorem Inv.pins_of(I:Inv X b0l σ H s)(h:∀p∈a,s.heap.get? p.1=b4 p.2/\H p.1=b6/\p.1≠X.env.locals/\p.1∉X.fs/\∀v,p.2.data≠.cell v):Inv X a σ H s:=
 ⟨I.ok,I.os,I.bare,I.base,I.loc,I.cell,I.free,I.freeC,λp b=>(YU.mp b).elim (λz=>I.pin p (a6D _ z)) (h p),I.hok,I.len⟩
theorem xH{N:List Str}(e:N.Nodup){i:Nat}(a:N[i]?=b4 x)(b:N[j]?=b4 x):i=j:=by obtain⟨h,c⟩:=X8.mp a;obtain⟨k,d⟩:=X8.mp b;exact(a7O e).mp (c.trans d.symm)
theorem tV(I:Inv X b0l σ H s)(hN:X.N.Nodup)(hi:X.N[i]?=b4 x)(G:Loc X.env.scope x)(r:RelV v u)(h:∀s',Inv X b0l (σ.set i (b4 v)) H s'->(∃a,a0i a s.heap s'.heap/\(a=X.env.locals\/X.env.cells.lookup x=b4 a))->Q () s')(hf:X.fn x=b8\/X.env.scope.names.lookup x=b4 .local:=by first|exact .inl rfl|exact .inr rfl|assumption):Yl M A (storeName X.env x u) Q E s:=by
 obtain⟨m,hn,hl⟩:=id I.loc;have Z:(X.env.scope.kind==.class||(X.env.scope.kind==.module&&X.env.locals != X.env.globals))=false:=by rw[I.ok.kind];rfl
 have L:i<σ.length:=by rw[I.len];exact(X8.mp hi).1
 have cne:=I.cne;have B:∀{a:Addr}{h':Y5},(∃o,s.heap.get? a=b4 o/\H a=b6)->a0i a s.heap h'->HOk X.prog X.w H h':=λ{a h'} ha l b ob e=>by
  obtain⟨_,_,J⟩:=ha;refine(I.hok b ob e).stay (λc w' hc q=>(l.2 c ?_).trans q) (λ_ q=>q) λ_ _ q=>q;rintro rfl;rcases hc with rfl|hc
  .rw[J]at e;cases e
  .rw[J]at hc;cases hc
 rcases G with N|N
 .refine wpAny_storeName_local N hn (λh' hn' l=>?_) Z;obtain⟨oL,_,_,hoL,_⟩:=id hn;refine h _ ⟨I.ok,I.os,I.bare,⟨λb o e n O G=>?_,λb o e n O G=>?_,I.base.free,λb o e G=>?_,I.base.tups,I.base.frzs,I.base.tbls⟩,⟨_,hn',λj y v' w K e3=>?_⟩,λy c e=>?_,I.free,I.freeC,λp hp=>?_,B ⟨oL,hoL,I.free⟩ l,by simpa using I.len⟩ ⟨_,l,.inl rfl⟩
  .exact(l.2 b (Yn (YE (Yc e) I.ok.above))).trans (I.base.keep b o e n O G)
  .obtain⟨sl,w⟩:=I.base.slot b o e n O G;exact⟨sl,(l.2 b (Yn (YE (Yc e) I.ok.above))).trans w⟩
  .obtain⟨o',w⟩:=I.base.there b o e G;exact⟨o',(l.2 b (Yn (YE (Yc e) I.ok.above))).trans w⟩
  .by_cases T:j=i
   .subst T;rw[hi]at w;cases w;rw[YY L]at K;cases K;exact⟨u,r,.inl ⟨N,by simp⟩⟩
   .rw[Yx (YW T)]at K;obtain⟨u',r',q⟩:=hl j y v' w K e3;refine⟨u',r',?_⟩;rcases q with⟨k,e⟩|⟨k,c,e,z⟩
    .refine .inl ⟨k,?_⟩;have:y≠x:=λe=>T (xH hN w (e▸hi));simp[this,e]
    .exact .inr ⟨k,c,e,z.sameBut l (cne y c e)⟩
  .obtain⟨w',z⟩:=I.cell y c e;exact⟨w',z.sameBut l (cne y c e)⟩
  .obtain⟨e,n,ne,nf,d⟩:=I.pin p hp;exact⟨(l.2 p.1 ne).trans e,n,ne,nf,d⟩
 .have R:X.fn x=true:=by
   rcases hf with z|z
   .exact z
   .rw[z]at N;cases N
  obtain⟨c,hc⟩:=I.ok.has x (.inl N);obtain⟨w',z⟩:=I.cell x c hc;refine wpAny_storeName_cell I.ok.kind N hc z (λh' U l=>?_);obtain⟨oc,hoc,hocd⟩:=id z;refine h {s with heap:=h'} ⟨I.ok,I.os,I.bare,⟨λb o e n O G=>?_,λb o e n O G=>?_,I.base.free,λb o e G=>?_,I.base.tups,I.base.frzs,I.base.tbls⟩,⟨m,hn.sameBut l (YW (cne x c hc)),λj y v' w K e3=>?_⟩,λy c' e=>?_,I.free,I.freeC,λp hp=>?_,B ⟨oc,hoc,I.freeC x c hc⟩ l,by simpa using I.len⟩ ⟨c,l,.inr hc⟩
  .exact(l.2 b (Yn (YE (Yc e) (I.ok.cab x c R hc)))).trans (I.base.keep b o e n O G)
  .obtain⟨sl,w⟩:=I.base.slot b o e n O G;exact⟨sl,(l.2 b (Yn (YE (Yc e) (I.ok.cab x c R hc)))).trans w⟩
  .obtain⟨o',w⟩:=I.base.there b o e G;exact⟨o',(l.2 b (Yn (YE (Yc e) (I.ok.cab x c R hc)))).trans w⟩
  .by_cases T:j=i
   .subst T;rw[hi]at w;cases w;rw[YY L]at K;cases K;exact⟨u,r,.inr ⟨.inl N,c,hc,U⟩⟩
   .rw[Yx (YW T)]at K;obtain⟨u',r',q⟩:=hl j y v' w K e3;refine⟨u',r',?_⟩;rcases q with q|⟨k,c',e,z'⟩
    .exact .inl q
    .refine .inr ⟨k,c',e,z'.sameBut l ?_⟩;rintro rfl;exact T (xH hN w (I.ok.inj _ _ _ e hc▸hi))
  .by_cases Y:c'=c
   .subst Y;exact⟨_,U⟩
   .obtain⟨w2,z2⟩:=I.cell y c' e;exact⟨w2,z2.sameBut l Y⟩
  .obtain⟨e,n,ne,nf,d⟩:=I.pin p hp;refine⟨(l.2 p.1 ?_).trans e,n,ne,nf,d⟩;intro q;rw[q,hoc]at e;have q':oc=p.2:=Ym e;exact d w' (by rw[<- q'];exact hocd)
theorem Ct(I:Inv X b0l σ H s)(c:X.N.Nodup)(e:X.N[i]?=b4 x)(j:Loc X.env.scope x)(r:RelV v u)(h:∀a,Inv X b0l (σ.set i (b4 v)) H a->Q () a)(d:X.fn x=b8\/X.env.scope.names.lookup x=b4 .local:=by first|exact .inl rfl|exact .inr rfl|assumption):Yl M A (storeName X.env x u) Q E s:=
 tV I c e j r (λa b _=>h a b) d
theorem Inv.call'(I:Inv X b0l σ H s)(k:a.os=s.os)(u:Un (dG X.stack) ch H H' s.heap a.heap)(hok:HOk X.prog X.w H' a.heap)(j:a3y a.gens)(d:∀b∈ch,(b∈X.ex\/X.s₀.heap.objs.size<=b)/\b≠X.env.locals/\(∀x c,X.env.cells.lookup x=b4 c->c≠b)/\∀p∈X.pn++b0l,p.1≠b):Inv X b0l σ H' a:=by
 obtain⟨h',i,h,n,l⟩:=a;have e:l=s.os:=k;subst e;exact I.call (g':=i) (t':=n) (d':=h) u hok j d
noncomputable abbrev XK:=Value->Option Addr->Hp->Prop
noncomputable abbrev St:=List (Option V)
noncomputable abbrev VK:=V->Hp->Prop
noncomputable abbrev TE:=St->Hp->VK->Prop
noncomputable abbrev TT:=St->Hp->(Bool->Hp->Prop)->Prop
noncomputable abbrev TA:=St->Hp->(List V->Hp->Prop)->Prop
structure Ends where
 nx:St->Hp->Prop
 rt:VK
 bk:St->Hp->Prop:=λ_ _=>False
 ct:St->Hp->Prop:=λ_ _=>False
noncomputable abbrev TS:=Ends->St->Hp->Prop
inductive EP (X:Cx)(b0l:jw)(σ:St)(Q:VK)(u:Value)(s':X7):Prop
 |mk (v:V)(H':Hp)(I:Inv X b0l σ H' s')(r:RelV v u)(q:Q v H'):EP X b0l σ Q u s'
inductive TP (X:Cx)(b0l:jw)(σ:St)(Q:Bool->Hp->Prop)(b:Bool)(s':X7):Prop
 |mk (H':Hp)(I:Inv X b0l σ H' s')(q:Q b H'):TP X b0l σ Q b s'
inductive AP (X:Cx)(b0l:jw)(σ:St)(Q:gz->Hp->Prop)(us:gw)(s':X7):Prop
 |mk (vs:gz)(H':Hp)(I:Inv X b0l σ H' s')(r:Vals vs us)(q:Q vs H'):AP X b0l σ Q us s'
inductive SPn (X:Cx)(b0l:jw)(Q:St->Hp->Prop)(s':X7):Prop
 |mk (σ':St)(H':Hp)(I:Inv X b0l σ' H' s')(q:Q σ' H'):SPn X b0l Q s'
inductive SPr (X:Cx)(b0l:jw)(Q:VK)(u:Value)(s':X7):Prop
 |mk (v:V)(σ':St)(H':Hp)(I:Inv X b0l σ' H' s')(r:RelV v u)(q:Q v H'):SPr X b0l Q u s'
noncomputable def SP(X:Cx)(b0l:jw)(D:Ends)(f:Flow)(a:X7):Prop:=
 match f with
 |.next=>SPn X b0l D.nx a|.brk=>SPn X b0l D.bk a|.cont=>SPn X b0l D.ct a|.ret u=>SPr X b0l D.rt u a
noncomputable def PE(X:Cx)(e:Expr)(t:TE):Prop:=
 ∀(b0l:jw)(s:X7)(σ:St)(H:Hp)(Q:VK),Inv X b0l σ H s->t σ H Q->Yl (Yv X.prog X.w) X.A (eval e X.env) (EP X b0l σ Q) X.xe s
noncomputable def PT(X:Cx)(e:Expr)(t:TT):Prop:=
 ∀(b0l:jw)(s:X7)(σ:St)(H:Hp)(Q:Bool->Hp->Prop),Inv X b0l σ H s->t σ H Q->Yl (Yv X.prog X.w) X.A (a5C e X.env (eval e X.env)) (TP X b0l σ Q) X.xe s
noncomputable def PW(X:Cx)(e:Expr)(t:TT):Prop:=
 ∀(a:a8s Value)(b0l:jw)(s:X7)(σ:St)(H:Hp)(Q:Bool->Hp->Prop),Inv X b0l σ H s->t σ H Q->Yl (Yv X.prog X.w) X.A (a5C e X.env a) (TP X b0l σ Q) X.xe s
theorem PW.pt(h:PW X e t):PT X e t:=h _
noncomputable def PA(X:Cx)(es:List Expr)(t:TA):Prop:=
 ∀(pos:ZL)(b0l:jw)(s:X7)(σ:St)(H:Hp)(Q:gz->Hp->Prop),Inv X b0l σ H s->t σ H Q->Yl (Yv X.prog X.w) X.A (a8T (a0s pos (YJ es X.env))) (AP X b0l σ Q) X.xe s
noncomputable def PS(X:Cx)(st:Stmt)(t:TS):Prop:=
 ∀(b0l:jw)(s:X7)(σ:St)(H:Hp)(D:Ends),Inv X b0l σ H s->t D σ H->Yl (Yv X.prog X.w) X.A (exec st X.env) (SP X b0l D) X.xe s
noncomputable def PSs(X:Cx)(st:List Stmt)(t:TS):Prop:=
 ∀(b0l:jw)(s:X7)(σ:St)(H:Hp)(D:Ends),Inv X b0l σ H s->t D σ H->Yl (Yv X.prog X.w) X.A (execs st X.env) (SP X b0l D) X.xe s
theorem aJ{t:a8s c}{Q b:c->X7->Prop}(h:Yl M A t Q E s)(d:∀a s,Q a s->b a s):Yl M A t b E s:=Y1 h d λ_ _ x=>x
noncomputable def mS(i:Nat):TE:=λσ H Q=>∃v,σ[i]?=b4 (b4 v)/\Q v H
noncomputable def tC(v:V):TE:=λ_ H Q=>Q v H
theorem oH(k:X.N[i]?=b4 x)(q:lG X.env.scope x)(hd:(x==("__debug__":Str))=false:=by decide)(j:(x==("__classdict__":Str))=false:=by decide):PE X (.Name x pos) (mS i):=by
 intro d s w H Q I h;obtain⟨v,e,h⟩:=h;obtain⟨m,p,n⟩:=I.loc;obtain⟨u,r,l⟩:=n i x v k e q;have fin:EP X d w Q u s:=⟨v,H,I,r,h⟩;rcases l with⟨b,o⟩|⟨b,c,hc,a⟩
 .exact a8z (wpAny_loadName_local I.ok.kind b p o fin) hd
 .rcases b with b|b
  .exact a8z (wpAny_loadName_cell I.ok.kind b hc a fin) hd
  .exact a8z (wpAny_loadName_free I.ok.kind b hc a fin j) hd
theorem Jp{i j pos}:PE X (.Constant (.int i) j pos) (tC (.int i)):=λ_ _ _ H _ I h=>wpAny_Constant_int ⟨.int i,H,I.tok _,⟨_,rfl⟩,h⟩
theorem Jq{b j pos}:PE X (.Constant (.bool b) j pos) (tC (.bl b)):=λ_ _ _ H _ I h=>Constant_bool ⟨.bl b,H,I,rfl,h⟩
theorem Jr{j pos}:PE X (.Constant .none j pos) (tC .non):=λ_ _ _ H _ I h=>Constant_none ⟨.non,H,I,rfl,h⟩
theorem Cu{x j pos}:PE X (.Constant (.str x) j pos) (tC (.str x)):=λ_ _ _ H _ I h=>Calls.Constant_str ⟨.str x,H,I.tok _,⟨_,rfl⟩,h⟩
noncomputable def Gl(X:Cx)(x:Str):Prop:=X.env.kindOf x=b4 .globalImplicit
theorem f7{σ:St}(I:Inv X b0l σ H s)(a:Gl X x)(b:X.mg x=b4 u)(h:Q u s)(hd:(x==("__debug__":Str))=false:=by decide):Yl (Yv X.prog X.w) X.A (eval (.Name x pos) X.env) Q E s:=
 a5n I.ok.kind a (Calls.loadGlobal_global (by rw[I.ok.glob];exact I.mod.glob.keeps I.bk) b h) hd
theorem fB{σ:St}(I:Inv X b0l σ H s)(c:Gl X x)(d:X.mg x=b6)(i:Z5 x=b4 u)(h:Q u s)(e:x ≠ "__name__":=by decide)(hd:(x==("__debug__":Str))=false:=by decide):Yl (Yv X.prog X.w) X.A (eval (.Name x pos) X.env) Q E s:=by
 obtain⟨j,a,b⟩:=I.mod.blt;exact a5n I.ok.kind c (Calls.loadGlobal_builtin (by rw[I.ok.glob];exact I.mod.glob.keeps I.bk) d (by rw[I.ok.blt];exact a.keeps I.bk) ((b x e).trans i) h) hd
theorem Js(a:Gl X x)(b:X.mg x=b4 u)(r:RelV v u)(hd:(x==("__debug__":Str))=false:=by decide):PE X (.Name x pos) (tC v):=
 λ_ _ _ H _ I h=>f7 I a b ⟨v,H,I,r,h⟩ hd
theorem Jt(a:Gl X x)(b:X.mg x=b6)(d:Z5 x=b4 u)(r:RelV v u)(c:x ≠ "__name__":=by decide)(hd:(x==("__debug__":Str))=false:=by decide):PE X (.Name x pos) (tC v):=
 λ_ _ _ H _ I h=>fB I a b d ⟨v,H,I,r,h⟩ c hd
noncomputable def tB(t:TE):TT:=λσ H Q=>t σ H λx d=>∃c,x=.bl c/\Q c d
theorem Ju(h:PE X e t)(l:∀c,a5C e X.env c=(do let v <- c;a7l e.pos;holding [v] (truthy v)):=by intro _;rfl):PT X e (tB t):=by intro i s p H Q I hw;refine isTrue_plain (aJ (h i s p H _ I hw) λv r ⟨x,j,k,o,n⟩=>?_) (l _);obtain⟨d,rfl,q⟩:=n;cases o;exact ZF ⟨j,k,q⟩
noncomputable def Jv(t u:TT):TT:=λσ H Q=>t σ H λc d=>if c=b8 then u σ d Q else Q b7 d
noncomputable def Jw(t u:TT):TT:=λσ H Q=>t σ H λc d=>if c=b8 then Q b8 d else u σ d Q
noncomputable def Jx(t:TT):TT:=λσ H Q=>t σ H λc d=>Q (!c) d
theorem Jy(i:PT X a tA):PW X (.BoolOp .And [a] pos) tA:=by
 intro l d s j H Q I h;refine isTrue_and (aJ (i d s j H Q I h) λc k e=>?_);cases c with
 |true=>exact isTrue_and_nil e|false=>exact e
theorem Jz(i:PT X a tA):PW X (.BoolOp .Or [a] pos) tA:=by
 intro l d s j H Q I h;refine isTrue_or (aJ (i d s j H Q I h) λc k e=>?_);cases c with
 |false=>exact isTrue_or_nil e|true=>exact e
theorem JA{rest:List Expr}(l:PT X a tA)(n:PW X (.BoolOp .And (b::rest) pos) tB'):PW X (.BoolOp .And (a::b::rest) pos) (Jv tA tB'):=by
 intro p d s k H Q I h;refine isTrue_and (aJ (l d s k H _ I h) λc o ⟨e,i,j⟩=>?_);cases c with
 |true=>exact n p d o k e Q i j|false=>exact⟨e,i,j⟩
theorem JB{rest:List Expr}(l:PT X a tA)(n:PW X (.BoolOp .Or (b::rest) pos) tB'):PW X (.BoolOp .Or (a::b::rest) pos) (Jw tA tB'):=by
 intro p d s k H Q I h;refine isTrue_or (aJ (l d s k H _ I h) λc o ⟨e,i,j⟩=>?_);cases c with
 |true=>exact⟨e,i,j⟩|false=>exact n p d o k e Q i j
theorem JC(j:PT X a tA):PT X (.UnaryOp .Not a pos) (Jx tA):=by intro d s k H Q I h;exact isTrue_not (aJ (j d s k H (λc i=>Q (!c) i) I h) λ_ _ ⟨e,J,q⟩=>⟨e,J,q⟩)
noncomputable def JD(ta tb:TE):TE:=λσ H Q=>ta σ H λx d=>∃c,x=.bl c/\if c=b8 then tb σ d Q else Q (.bl b7) d
noncomputable def JE(ta tb:TE):TE:=λσ H Q=>ta σ H λx d=>∃c,x=.bl c/\if c=b8 then Q (.bl b8) d else tb σ d Q
noncomputable def JF(ta:TE):TE:=λσ H Q=>ta σ H λx d=>∃c,x=.bl c/\Q (.bl (!c)) d
theorem JG{op}(h:PE X a t):PE X (.BoolOp op [a] pos) t:=λb0l s σ H Q I hw=>BoolOp_one (h b0l s σ H Q I hw)
theorem JH{rest:List Expr}(l:PE X a ta)(n:PE X (.BoolOp .And (b::rest) pos) tb):PE X (.BoolOp .And (a::b::rest) pos) (JD ta tb):=by
 intro d s k H Q I h;refine BoolOp_and (aJ (l d s k H _ I h) λv p ⟨x,i,j,o,e⟩=>?_);obtain⟨c,rfl,e⟩:=e;cases o;refine ZF ?_;cases c with
 |true=>exact n d p k i Q j e|false=>exact⟨.bl b7,i,j,rfl,e⟩
theorem JI{rest:List Expr}(l:PE X a ta)(n:PE X (.BoolOp .Or (b::rest) pos) tb):PE X (.BoolOp .Or (a::b::rest) pos) (JE ta tb):=by
 intro d s k H Q I h;refine BoolOp_or (aJ (l d s k H _ I h) λv p ⟨x,i,j,o,e⟩=>?_);obtain⟨c,rfl,e⟩:=e;cases o;refine ZF ?_;cases c with
 |false=>exact n d p k i Q j e|true=>exact⟨.bl b8,i,j,rfl,e⟩
theorem JJ(k:PE X a ta):PE X (.UnaryOp .Not a pos) (JF ta):=by intro d s n H Q I h;refine UnaryOp_ (aJ (k d s n H _ I h) λv o ⟨x,i,j,l,e⟩=>?_);obtain⟨c,rfl,e⟩:=e;cases l;exact not_of (ZF ⟨.bl (!c),i,j,rfl,e⟩)
noncomputable def JK(t:TT)(ta tb:TE):TE:=λσ H Q=>t σ H λc d=>if c=b8 then ta σ d Q else tb σ d Q
theorem JL(hc:PT X c tA)(o:PE X a ta)(p:PE X b tb):PE X (.IfExp c a b pos) (JK tA ta tb):=by
 intro e s i H Q I h;refine wpAny_IfExp (aJ (hc e s i H _ I h) λd n ⟨j,k,l⟩=>?_);cases d with
 |true=>exact o e n i j Q k l|false=>exact p e n i j Q k l
noncomputable def SqL(K:X2)(H:Hp)(a:Addr)(xs:gz):Prop:=
 Rd H a (.lst xs) \/
  ∃(o:Obj)(its:Array Value)(n:Nat),K.lookup a=b4 o/\o.cls=.type "list"/\o.dict=b6/\o.data=.seq its n/\its.size<=Yi/\Vals xs its.toList
noncomputable def SqT(K:X2)(H:Hp)(a:Addr)(xs:gz):Prop:=
 Rd H a (.tup xs) \/
  ∃(o:Obj)(its:Array Value)(n:Nat),K.lookup a=b4 o/\o.cls=.type "tuple"/\o.dict=b6/\o.data=.seq its n/\its.size<=Yi/\Vals xs its.toList
noncomputable def JM:Value->Option V
 |.none=>b4 .non|.bool b=>b4 (.bl b)|.int i _=>b4 (.int i)|.str x _=>b4 (.str x)|.bytes b _=>b4 (.byt b)|.float b _=>b4 (.flt b)|.ref a=>b4 (.ref a)|.type n=>b4 (.ty n)|_=>b6
theorem RelV.abs(r:RelV x u):JM u=b4 x:=by
 cases x with
 |non=>cases r;rfl|bl _=>cases r;rfl|int _=>obtain⟨t,rfl⟩:=r;rfl|str _=>obtain⟨t,rfl⟩:=r;rfl|byt _=>obtain⟨t,rfl⟩:=r;rfl|flt _=>obtain⟨t,rfl⟩:=r;rfl|ref _=>cases r;rfl|ty _=>cases r;rfl
theorem RelV.inj(r:RelV x u)(q:RelV y u):x=y:=Ym (r.abs.symm.trans q.abs)
theorem Vals.inj:∀{xs ys}{us},Vals xs us->Vals ys us->xs=ys
 |_,_,_,.nil,.nil=>rfl|_,_,_,.cons r t,.cons r' t'=>by rw[r.inj r',Vals.inj t t']
theorem SqL.of{K:X2}(h:H a=b4 (.lst xs)):SqL K H a xs:=.inl (.inl h)
theorem SqT.of{K:X2}(h:H a=b4 (.tup xs)):SqT K H a xs:=.inl (.inl h)
theorem Inv.list{σ:St}(I:Inv X b0l σ H s)(h:SqL X.K H a xs):∃its,Vals xs its/\PlainL s.heap a its.toArray/\xs.length<=Yi:=by
 rcases h with h|⟨o,its,n,b,hc,hd,c,d,r⟩
 .obtain⟨z,its,n,r,e⟩:=h.ok I.hok;exact⟨its,r,⟨_,n,e,rfl,rfl,rfl⟩,z⟩
 .refine⟨its.toList,r,⟨o,n,I.kIn a o b,hc,hd,by simpa using c⟩,?_⟩;have e:=r.length;simp only[a0j]at e;lia
theorem Inv.tuple{σ:St}(I:Inv X b0l σ H s)(h:SqT X.K H a xs):∃its,Vals xs its/\a9g s.heap a its.toArray/\xs.length<=Yi:=by
 rcases h with h|⟨o,its,n,b,hc,hd,c,d,r⟩
 .obtain⟨z,its,r,p⟩:=h.ok I.hok;exact⟨its,r,p.tup,z⟩
 .refine⟨its.toList,r,⟨o,I.kIn a o b,hc,n,by simpa using c⟩,?_⟩;have e:=r.length;simp only[a0j]at e;lia
theorem Inv.tupN{σ:St}(I:Inv X b0l σ H s)(h:SqT X.K H a xs):∃its,Vals xs its/\TupN s.heap a its.toArray:=by
 rcases h with h|⟨o,its,n,b,hc,hd,c,d,r⟩
 .obtain⟨z,its,r,p⟩:=h.ok I.hok;exact⟨its,r,p⟩
 .exact⟨its.toList,r,o,I.kIn a o b,hc,n,by simpa using c,hd⟩
theorem Inv.list_inj{σ:St}(I:Inv X b0l σ H s)(h:SqL X.K H a xs)(h':SqL X.K H a ys):xs=ys:=by
 obtain⟨c,r,⟨o,n,e,_,_,d⟩,_⟩:=I.list h;obtain⟨b,k,⟨p,l,j,_,_,i⟩,_⟩:=I.list h';rw[e]at j;cases j;rw[d]at i;injection i with d1 _;have:c=b:=by simpa using congrArg a8N d1
 subst this;exact r.inj k
theorem Inv.tuple_inj{σ:St}(I:Inv X b0l σ H s)(h:SqT X.K H a xs)(h':SqT X.K H a ys):xs=ys:=by
 obtain⟨c,r,⟨o,e,_,n,d⟩,_⟩:=I.tuple h;obtain⟨b,k,⟨p,j,_,l,i⟩,_⟩:=I.tuple h';rw[e]at j;cases j;rw[d]at i;injection i with d1 _;have:c=b:=by simpa using congrArg a8N d1
 subst this;exact r.inj k
noncomputable abbrev Cx.wish(X:Cx)(E:Value->X7->Prop):Cx:={X with xe:=E}
noncomputable abbrev Cx.nox(X:Cx):Cx:=X.wish λ_ _=>False
theorem Cx.Ok.wish{X:Cx}(ok:X.Ok)E:(X.wish E).Ok:=
 ⟨ok.mod,ok.kind,ok.glob,ok.blt,ok.above,ok.inj,ok.has,ok.cab,ok.hd,ok.frames,ok.stk,ok.exf,ok.bs,ok.bsz,ok.noex,ok.exfs,ok.funs,ok.frf⟩
theorem Cx.Ok.unwish{X:Cx}(ok:(X.wish E).Ok):X.Ok:=
 ⟨ok.mod,ok.kind,ok.glob,ok.blt,ok.above,ok.inj,ok.has,ok.cab,ok.hd,ok.frames,ok.stk,ok.exf,ok.bs,ok.bsz,ok.noex,ok.exfs,ok.funs,ok.frf⟩
theorem Inv.wish{σ:St}(I:Inv X b0l σ H s)E:Inv (X.wish E) b0l σ H s:=⟨I.ok.wish E,I.os,I.bare,I.base,I.loc,I.cell,I.free,I.freeC,I.pin,I.hok,I.len⟩
theorem Inv.unwish{σ:St}(I:Inv (X.wish E) b0l σ H s):Inv X b0l σ H s:=⟨I.ok.unwish,I.os,I.bare,I.base,I.loc,I.cell,I.free,I.freeC,I.pin,I.hok,I.len⟩
theorem SP.unwish(h:SP (X.wish E) b0l D f c):SP X b0l D f c:=by
 cases f with
 |next=>obtain⟨a,b,I,q⟩:=h;exact⟨a,b,I.unwish,q⟩|brk=>obtain⟨a,b,I,q⟩:=h;exact⟨a,b,I.unwish,q⟩|cont=>obtain⟨a,b,I,q⟩:=h;exact⟨a,b,I.unwish,q⟩|ret u=>obtain⟨v,a,b,I,r,q⟩:=h;exact⟨v,a,b,I.unwish,r,q⟩
theorem PSs.nox{st:List Stmt}(h:PSs X.nox st t):PSs X st t:=λb0l s σ H D I hw=>Y1 (h b0l s σ H D (I.wish _) hw) (λ_ _ q=>q.unwish) λ_ _ z=>Y4 z
noncomputable def Cv:TS:=λD σ H=>D.nx σ H
noncomputable def JN(t u:TS):TS:=λD σ H=>t {D with nx:=u D} σ H
theorem JO:PSs X [] Cv:=λ_ _ σ H _ I h=>a2e ⟨σ,H,I,h⟩
theorem JP{st:Stmt}{rest:List Stmt}(h1:PS X st t)(i:PSs X rest u):PSs X (st::rest) (JN t u):=by
 intro a s k H D I h;refine a2B (aJ (h1 a s k H {D with nx:=u D} I h) λf j q=>?_);cases f with
 |next=>obtain⟨b,c,d,q⟩:=q;exact i a j b c D d q|ret v=>exact q|brk=>exact q|cont=>exact q
theorem Cw{st:Stmt}(h1:PS X st t):PSs X [st] t:=by
 intro a s b H D I h;refine a2B (aJ (h1 a s b H D I h) λf c q=>?_);cases f with
 |next=>exact a2e q|ret v=>exact q|brk=>exact q|cont=>exact q
theorem JQ:PS X (.Pass pos) Cv:=λ_ _ σ H _ I h=>wpAny_Pass ⟨σ,H,I,h⟩
theorem Inv.quiet{σ:St}(I:Inv X b0l σ H s):interactive X.env=false:=by simp[interactive,I.ok.kind]
noncomputable def JR(te:TE):TS:=λD σ H=>te σ H λ_ a=>D.nx σ a
theorem JS(i:PE X e te)(j:a2C e b6 pos.line X.env=pure false:=by rfl):PS X (.Expr e pos) (JR te):=by intro a s b H D I h;exact a6f (aJ (i a s b H _ I h) λv n ⟨x,c,d,l,k⟩=>⟨b,c,d,k⟩) I.quiet j
noncomputable def JT(te:TE):TS:=λD σ H=>te σ H D.rt
theorem JU(i:PE X e te):PS X (.Return (b4 e) pos) (JT te):=by intro a s b H D I h;exact a8R (aJ (i a s b H _ I h) λv l ⟨x,c,d,k,j⟩=>⟨x,b,c,d,k,j⟩)
noncomputable def JV:TS:=λD _ H=>D.rt .non H
theorem JW:PS X (.Return b6 pos) JV:=λ_ _ σ H _ I h=>wpAny_Return_none ⟨.non,σ,H,I,rfl,h⟩
noncomputable def JX(c:TT)(t u:TS):TS:=λD σ H=>c σ H λb a=>if b=b8 then t D σ a else u D σ a
theorem JY(hc:PT X c p)(q:PSs X a t)(r:PSs X b u):PS X (.If c a b pos) (JX p t u):=by
 intro i s j H D I h;refine wpAny_If (aJ (hc i s j H _ I h) λd o ⟨k,l,n⟩=>?_);cases d with
 |true=>exact q i o j k D l n|false=>exact r i o j k D l n
noncomputable abbrev TG:=V->St->Hp->(St->Hp->Prop)->Prop
noncomputable abbrev oJ:=List V->St->Hp->(St->Hp->Prop)->Prop
noncomputable def PG(X:Cx)(a:Expr)(t:TG):Prop:=
 ∀(b0l:jw)(s:X7)(σ:St)(H:Hp)(v:V)(u:Value)(Q:St->Hp->Prop),Inv X b0l σ H s->RelV v u->t v σ H Q->
  Yl (Yv X.prog X.w) X.A (a4T a X.env u) (λ_ b=>SPn X b0l Q b) X.xe s
noncomputable def qQ(X:Cx)(ts:List Expr)(t:oJ):Prop:=
 ∀(b0l:jw)(s:X7)(σ:St)(H:Hp)(vs:gz)(us:gw)(Q:St->Hp->Prop),Inv X b0l σ H s->Vals vs us->t vs σ H Q->
  Yl (Yv X.prog X.w) X.A (assignInOrder ((a0B ts X.env).map (·.2)) us) (λ_ a=>SPn X b0l Q a) X.xe s
noncomputable abbrev Cy:=V->V->V->Hp->(Hp->Prop)->Prop
noncomputable def JZ(X:Cx)(t:Cy):Prop:=
 ∀(b0l:jw)(s:X7)(σ:St)(H:Hp)(o i v:V)(c b u:Value)(Q:Hp->Prop),Inv X b0l σ H s->RelV o c->RelV i b->RelV v u->t o i v H Q->
  Yl (Yv X.prog X.w) X.A (setItem c b u) (λ_ d=>∃a,Inv X b0l σ a d/\Q a) X.xe s
noncomputable def xI(i:Nat):TG:=λv σ H Q=>Q (σ.set i (b4 v)) H
theorem Cz(c:X.N.Nodup)(e:X.N[i]?=b4 x)(j:Loc X.env.scope x)(d:X.fn x=b8\/X.env.scope.names.lookup x=b4 .local:=by first|exact .inl rfl|exact .inr rfl|assumption):PG X (.Name x pos) (xI i):=by intro b s l H v u Q I r h;exact a8Q (Ct I c e j r (λk a=>⟨_,H,a,h⟩) d)
noncomputable def CA:oJ:=λvs σ H Q=>vs=[]/\Q σ H
noncomputable def CB(t:TG)(u:oJ):oJ:=λvs σ H Q=>∃v r,vs=v::r/\t v σ H λa H'=>u r a H' Q
theorem J0:qQ X [] CA:=by intro a s b H d c Q I r h;obtain⟨e,h⟩:=h;subst e;cases r;exact assignInOrder_nil ⟨b,H,I,h⟩
theorem J1(h1:PG X e t)(j:qQ X es u)(k:(a0B (e::es) X.env).map (·.2)=a4T e X.env::(a0B es X.env).map (·.2):=by rfl):qQ X (e::es) (CB t u):=by
 intro a s p H x q Q I r h;obtain⟨v,w,i,h⟩:=h;subst i;cases r with
 |cons r n=>rw[k];refine assignInOrder_cons (aJ (h1 a s p H _ _ _ I r h) λ_ o ⟨b,c,d,l⟩=>?_);exact j a o b c _ _ Q d n l
noncomputable def CC(te:TE)(g:TG):TS:=λD σ H=>te σ H λx a=>g x σ a D.nx
theorem J2(i:PE X e te)(j:PG X tg g)(k:swapsWithSole [tg] e pos.line X.env=pure false:=by rfl)(hw:a6K [tg] e X.env=pure none:=by rfl)(h1:(a0B [tg] X.env).map (·.2)=[a4T tg X.env]:=by rfl):PS X (.Assign [tg] e pos) (CC te g):=by
 intro a s b H D I h;refine wpAny_Assign_stores (aJ (i a s b H _ I h) λv o ⟨x,c,d,n,l⟩=>?_) k hw;rw[h1];exact aJ (j a o b c x v _ d n l) λ_ p q=>q
theorem CD(k:X.N.Nodup)(o:X.N[i]?=b4 x)(q:Loc X.env.scope x)(l:PE X e te)(p:a2C e (b4 (.Name x a)) pos.line X.env=pure false:=by rfl)(n:X.fn x=b8\/X.env.scope.names.lookup x=b4 .local:=by first|exact .inl rfl|exact .inr rfl|assumption):
  PS X (.Assign [.Name x a] e pos) (CC te (xI i)):=by
 intro b s w H D I h;refine a8S (aJ (l b s w H _ I h) λv z ⟨y,c,d,u,r⟩=>?_) p;exact Ct d k o q u (λA j=>⟨_,c,j,r⟩) n
noncomputable def J5(c:TT)(i:TS):TS:=λD σ H=>∃W:Nat->St->Hp->Prop,(∃m,W m σ H)/\∀m σ H,W m σ H->
 c σ H λb e=>if b=b8 then ∃N:St->Hp->Prop,(∀a d,N a d->∃h,h<m/\W h a d)/\i {D with nx:=N,ct:=N,bk:=D.nx} σ e else D.nx σ e
theorem J6(B:a5G (Yv X.prog X.w) X.A X.env X.xe)(hc:PT X c G)(K:PSs X body E):PS X (.While c body [] pos) (J5 G E):=by
 intro e s U H D I h;obtain⟨W,⟨L,R⟩,turn⟩:=h;refine wpAny_While (codeAny_whileLoop (λn M=>∃j w,Inv X e j w M/\W n j w) ?_ L ⟨U,H,I,R⟩);rintro n O ⟨d,x,J,T⟩;refine a1q B (aJ (hc e O d x _ J (turn n d x T)) λb Q ⟨y,z,k⟩=>?_);cases b with
 |true=>
  obtain⟨N,A,k⟩:=k;rw[if_pos rfl];refine a1q B (aJ (K e Q d y _ z k) λf Y l=>?_);cases f with
  |next=>obtain⟨a,i,o,r⟩:=l;obtain⟨q,p,u⟩:=A a i r;exact⟨q,p,a,i,o,u⟩|cont=>obtain⟨a,i,o,r⟩:=l;obtain⟨q,p,u⟩:=A a i r;exact⟨q,p,a,i,o,u⟩|brk=>exact l|ret v=>exact l
 |false=>rw[if_neg Yj];exact a2e ⟨d,y,z,k⟩
structure It where
 go:Nat->Hp->Prop
 yld:Nat->Hp->V->Hp->Prop
 stop:Nat->Hp->Prop
noncomputable def gN(X:Cx)(b0l:jw)(H:Hp)(b:Addr):Prop:=
 H b=b6/\b≠X.env.locals/\b∉X.fs/\(b∈X.ex\/X.s₀.heap.objs.size<=b)/\(∀x c,X.env.cells.lookup x=b4 c->c≠b)/\∀p∈X.pn++b0l,p.1≠b
theorem Inv.fpOk{σ:St}{b:Addr}(I:Inv X b0l σ H s)(a:s.heap.objs.size<=b)(d:H' b=b6):gN X b0l H' b:=by
 refine⟨d,Zz (YE I.lt a),I.nofs a,.inr (Y6 I.sz a),λx c e z=>?_,λp h z=>?_⟩
 .obtain⟨v,q⟩:=I.cell x c e;exact absurd (YE q.lt (by rw[z];exact a)) (ZM _)
 .exact absurd (YE (Yc (I.pin p h).1) (by rw[z];exact a)) (ZM _)
noncomputable abbrev Qc(X:Cx):Prop:=X.calm=b8
structure Turn(q:Cx->Prop)(P:Yt)(w:YL)(K:X2)(tg:Expr)(J:It)(fp:List Addr)(it:Addr)(tn:Nat->Y5->Prop):Prop where
 mem:it∈fp
 obj:∀i h,tn i h->∀b∈fp,∃o,h.get? b=b4 o/\∀v,o.data≠.cell v
 keep:∀i h h',tn i h->(∀b∈fp,∀o,h.get? b=b4 o->h'.get? b=b4 o)->tn i h'
 item:∀(X:Cx),X.prog=P->X.w=w->X.K=K->q X->∀(i:Nat)(b0l:jw)(s:X7)(σ:St)(H:Hp)(E:Value->X7->Prop),Inv X b0l σ H s->(∀b∈fp,gN X b0l H b)->tn i s.heap->J.go i H->
  Yl (Yv P w) X.A (a0X (.ref it)) (λr s1=>∃u,r=b4 u /\
   Yl (Yv P w) X.A (a3Y tg (.ref it) u) (λ_ s2=>∃x H',Inv X b0l σ H' s2/\RelV x u/\J.yld i H x H'/\tn (i+1) s2.heap/\∀b∈fp,H' b=b6) E s1) E s
 done:∀(X:Cx),X.prog=P->X.w=w->X.K=K->q X->∀(i:Nat)(b0l:jw)(s:X7)(σ:St)(H:Hp)(E:Value->X7->Prop),Inv X b0l σ H s->(∀b∈fp,gN X b0l H b)->tn i s.heap->J.stop i H->
  Yl (Yv P w) X.A (a0X (.ref it)) (λr s1=>r=b6/\Inv X b0l σ H s1) E s
 self:∀(A:YI)(i:Nat)(s:X7)(Q:Value->X7->Prop)(E:Value->X7->Prop),tn i s.heap->Q (.ref it) s->Yl (Yv P w) A (a5A (.ref it)) Q E s
noncomputable abbrev TI:=St->Hp->(It->Hp->Prop)->Prop
inductive PIEq (q:Cx->Prop)(X:Cx)(b0l:jw)(σ:St)(tg:Expr)(R:It->Hp->Prop)(itv:Value)(s2:X7):Prop
 |mk (it:Addr)(fp:List Addr)(tn:Nat->Y5->Prop)(J:It)(H':Hp)(e:itv=.ref it)(I:Inv X b0l σ H' s2)(T:Turn q X.prog X.w X.K tg J fp it tn)(t0:tn 0 s2.heap)(f:∀b∈fp,gN X b0l H' b)(r:R J H'):PIEq q X b0l σ tg R itv s2
noncomputable abbrev xJ:=PIEq Qc
noncomputable def qR(q:Cx->Prop)(X:Cx)(tg iter:Expr)(b:TI):Prop:=
 ∀(b0l:jw)(s:X7)(σ:St)(H:Hp)(R:It->Hp->Prop),Inv X b0l σ H s->b σ H R->
  Yl (Yv X.prog X.w) X.A (eval iter X.env) (λv a=>Yl (Yv X.prog X.w) X.A (a5A v) (PIEq q X b0l σ tg R) X.xe a) X.xe s
noncomputable abbrev PI:=qR Qc
theorem lH(d:s.heap.get? b=b4 o)(hc:o.cls=.type n)(hd:o.data=.fields vs)(c:["enumerate","zip","dict_itemiterator","dict_reverseitemiterator","odict_iterator","itertools.zip_longest","itertools.pairwise"].contains n=b7)(a:Q () s):Yl M A (a3Y tg (.ref b) u) Q E s:=by
 unfold a3Y
 cases tg<;>first
  | exact Yb a
  | (cases u<;>first
    | exact Yb a
    | (refine X1 (a4P d ?_)
       rw [hc,hd]
       show Yl M A (if (["enumerate","zip","dict_itemiterator","dict_reverseitemiterator","odict_iterator","itertools.zip_longest","itertools.pairwise"].contains n&&vs[0]? == b4 (a0F _))=b8 then _ else _) Q E s
       rw [if_neg (by intro h;rw [c,a8w] at h;cases h)]
       exact Yb a))
noncomputable def xK (K:X2)(a:Addr):It:=
 ⟨fun i H=>∃ b x,SqL K H a b/\b[i]? = b4 x,fun i H x c=>c=H/\∀ b,SqL K H a b->b[i]? = b4 x,fun i H=>∃ b,SqL K H a b/\b.length<=i⟩
noncomputable def xM(K:X2)(a:Addr):It:=
 ⟨λi H=>∃b x,SqT K H a b/\b[i]?=b4 x,λi H x c=>c=H/\∀b,SqT K H a b->b[i]?=b4 x,λi H=>∃b,SqT K H a b/\b.length<=i⟩
noncomputable def kJ(lo:Int)(n:Nat):It:=⟨λi _=>i<n,λi H x H'=>H'=H/\x=.int (lo+i),λi _=>n<=i⟩
theorem J7{K:X2}a l:Turn Qc P w K tg (xK K a) [l] l (λi h=>h.IsListIter l a i) where
 mem:=by simp
 obj:=λi h st b j=>by
  have e:b=l:=by simpa using j
  subst e;obtain⟨o,e,c,d⟩:=st;exact⟨o,e,λv z=>by rw[d]at z;cases z⟩
 keep:=λi h r st k=>st.at λo e=>k l (by simp) o e;item:=by intro X O hw N hc i n s Y H E I y st Q;subst O hw N;obtain⟨xs,x,A,R⟩:=Q;obtain⟨T,U,p,hz⟩:=I.list A;obtain⟨u,hu,ru⟩:=U.get R;obtain⟨B,G,f2,J,L,M⟩:=y l (by simp);refine a7g st p.isList (x:=u) (by simpa using hu) λr q sb=>?_;have Z:Inv X n Y H {s with heap:=r}:=I.turned (t':=s.toks) (λb o j e=>(sb.2 b j).trans e) B G J L M;obtain⟨o,e,c,d⟩:=id q;exact⟨u,rfl,lH (s:={s with heap:=r}) e c d (by decide) ⟨x,H,Z,ru,⟨rfl,λys hy=>by rw[I.list_inj hy A];exact R⟩,q,λb j=>(y b j).1⟩⟩
 done:=by intro X O hw N hc i n s Y H E I y st Q;subst O hw N;obtain⟨xs,A,R⟩:=Q;obtain⟨T,U,p,hz⟩:=I.list A;obtain⟨B,G,f2,J,L,M⟩:=y l (by simp);have hl:=U.length;exact a7I (I.ok.hd hc) st p.isList (by simp;lia) λr eb=>⟨rfl,I.turned (t':=s.toks) (λb o j e=>eb b o j e) B G J L M⟩
 self:=λ_ _ _ _ _ st h=>wpAny_pyIter_listiter st h
theorem J8{K:X2}a l:Turn Qc P w K tg (xM K a) [l] l (λi h=>h.IsTupleIter l a i) where
 mem:=by simp
 obj:=λi h st b j=>by
  have e:b=l:=by simpa using j
  subst e;obtain⟨o,e,c,d⟩:=st;exact⟨o,e,λv z=>by rw[d]at z;cases z⟩
 keep:=λi h y st k=>st.at λo e=>k l (by simp) o e;item:=by intro X Q hw O hc i q s Y H E I A st R;subst Q hw O;obtain⟨xs,x,B,T⟩:=R;obtain⟨n,U,p,hz⟩:=I.tuple B;obtain⟨u,hu,ru⟩:=U.get T;obtain⟨G,J,f2,L,M,N⟩:=A l (by simp);refine a6R st (show s.heap.IsTuple a n.toArray from p) (x:=u) (by simpa using hu) λy r sb=>?_;have Z:Inv X q Y H {s with heap:=y}:=I.turned (t':=s.toks) (λb o j e=>(sb.2 b j).trans e) G J L M N;obtain⟨o,e,c,d⟩:=id r;exact⟨u,rfl,lH (s:={s with heap:=y}) e c d (by decide) ⟨x,H,Z,ru,⟨rfl,λys hy=>by rw[I.tuple_inj hy B];exact T⟩,r,λb j=>(A b j).1⟩⟩
 done:=by intro X Q hw O hc i q s Y H E I A st R;subst Q hw O;obtain⟨xs,B,T⟩:=R;obtain⟨n,U,p,hz⟩:=I.tuple B;obtain⟨G,J,f2,L,M,N⟩:=A l (by simp);have hl:=U.length;exact a7e (I.ok.hd hc) st (show s.heap.IsTuple a n.toArray from p) (by simp;lia) λy eb=>⟨rfl,I.turned (t':=s.toks) (λb o j e=>eb b o j e) G J L M N⟩
 self:=λ_ _ _ _ _ st h=>wpAny_pyIter_tupleiter st h
theorem oK{K:X2}a lo n:Turn Qc P w K tg (kJ lo n) [a] a (λi h=>a1j h a (lo+(i:Nat)*1) ((n:Int)-(i:Nat)) 1) where
 mem:=by simp
 obj:=λi h st b c=>by
  have e:b=a:=by simpa using c
  subst e;exact⟨_,st,λv z=>by
   have T:Zg _=a3s v:=z;cases T⟩
 keep:=λi h l st k=>k a (by simp) _ st;item:=by intro X B hw A hc i d s L H E I p st G;subst B hw A;obtain⟨q,r,O,u,x,y⟩:=p a (by simp);have W:=a8Z (prog:=X.prog) (w:=X.w) (I.ok.hd hc) a lo 1 n;refine W.item i s _ _ G st λv l J Q j R=>?_;obtain⟨t,rfl⟩:=Q;have M:Inv X d L H {s with heap:=l,toks:=J}:=I.turned (λb o c e=>R b o (by simpa using c) e) q r u x y;refine⟨_,rfl,lH (s:={s with heap:=l,toks:=J}) (n:="range_iterator") j rfl rfl (by decide) ⟨.int (lo+i),H,M,⟨t,?_⟩,⟨rfl,rfl⟩,j,λb c=>(p b c).1⟩⟩;rw[a9R]
 done:=by intro X B hw A hc i d s L H E I p st G;subst B hw A;obtain⟨q,r,O,u,x,y⟩:=p a (by simp);exact a7f (I.ok.hd hc) st (by have:n<=i:=G;lia) λl N=>⟨rfl,I.turned (t':=s.toks) (λb o c e=>N b o c e) q r u x y⟩
 self:=λ_ _ _ _ _ st h=>a7h st h
theorem CF(tr:∀d lo n,Turn q X.prog X.w X.K tg (kJ lo n) [d] d (λi h=>a1j h d (lo+(i:Nat)*1) ((n:Int)-(i:Nat)) 1)){σ:St}{lo:Int}(I:Inv X b0l σ H s)(h1:-(2^62)<=lo)(l:lo<2^62)(p:-(2^62)<=a)(r:a<2^62)(w:R (kJ lo (a-lo).toNat) H):Yl (Yv X.prog X.w) X.A (a5A (.ref s.heap.objs.size)) (PIEq q X b0l σ tg R) E {s with heap:=s.heap.push {cls:=.type "range",data:=.fields #[.int lo t,.int a u,.int 1 v]},toks:=tk}:=by
 refine a8y (a8u ..) (small_one h1 l p r) ?_;have c:Inv X b0l σ H {s with heap:=s.heap.push {cls:=.type "range",data:=.fields #[.int lo t,.int a u,.int 1 v]},toks:=tk}:=I.kept λb o e=>X6 _ e;refine⟨(s.heap.push {cls:=.type "range",data:=.fields #[.int lo t,.int a u,.int 1 v]}).objs.size,[(s.heap.push {cls:=.type "range",data:=.fields #[.int lo t,.int a u,.int 1 v]}).objs.size],_,_,H,rfl,
  c.kept (t':=tk) λb o e=>X6 _ e,tr _ lo (a-lo).toNat,?_,λb x=>?_,w⟩
 .have j:lo+((0:Nat):Int)*1=lo:=by simp
  have k:(((a-lo).toNat:Nat):Int)-((0:Nat):Int)=Zl lo a 1:=by rw[rangeSize_one];split<;>lia
  show a1j _ _ (lo+((0:Nat):Int)*1) ((((a-lo).toNat:Nat):Int)-((0:Nat):Int)) 1;rw[j,k];exact Yh _ rfl
 .have e:b=(s.heap.push {cls:=.type "range",data:=.fields #[.int lo t,.int a u,.int 1 v]}).objs.size:=by simpa using x
  subst e;exact c.fpOk (Yd _) (c.hok.fresh (Yd _))
noncomputable def J9(b:TA):TI:=λσ H R=>b σ H λvs a=>∃j:Int,vs=[.int j]/\-(2^62)<=j/\j<2^62/\R (kJ 0 j.toNat) a
noncomputable def Ka(b:TA):TI:=λσ H R=>b σ H λvs a=>∃i j:Int,vs=[.int i,.int j]/\(-(2^62)<=i/\i<2^62/\-(2^62)<=j/\j<2^62)/\R (kJ i (j-i).toNat) a
theorem Kb(tr:∀c lo n,Turn q X.prog X.w X.K tg (kJ lo n) [c] c (λi h=>a1j h c (lo+(i:Nat)*1) ((n:Int)-(i:Nat)) 1))(u:Gl X "range")(v:X.mg "range"=b6)(o:PA X [a] k)(w:YJ [a] X.env=[(b7,eval a X.env)]:=by rfl):qR q X tg (.Call (.Name "range" p) [a] [] pos) (J9 k):=by
 intro b s B H R I h;refine a9h (fB I u v a8G (Zp (aJ (o pos b s B H _ I h) λJ G ⟨K,E,l,z,d⟩=>?_) w rfl));obtain⟨j,e,d,x,y⟩:=d;subst e;cases z with
 |cons r A=>cases A;obtain⟨t,rfl⟩:=r;exact call_range_1 (CF tr l (by lia) (by lia) d x (by simpa using y))
theorem Kc(v:Gl X "range")(w:X.mg "range"=b6)(u:PA X [a,b] n)(x:YJ [a,b] X.env=[(b7,eval a X.env),(b7,eval b X.env)]:=by rfl)(c:YJ [b] X.env=[(b7,eval b X.env)]:=by rfl):
  PI X tg (.Call (.Name "range" p) [a,b] [] pos) (Ka n):=by
 intro d s G H R I h;refine a9h (fB I v w a8G (Zp (aJ (u pos d s G H _ I h) λM K ⟨N,J,o,E,k⟩=>?_) (by rw[x,c]) (by rw[c];rfl)));obtain⟨i,j,e,⟨k,y,z,A⟩,q⟩:=k;subst e;cases E with
 |cons r l=>
  cases l with
  |cons B l=>cases l;obtain⟨t,rfl⟩:=r;obtain⟨L,rfl⟩:=B;exact call_range_2 (CF oK o k y z A q)
noncomputable def Kd(k:TI)(g:TG)(j:TS):TS:=λD σ H=>k σ H λJ e=>∃W:Nat->Nat->St->Hp->Prop,(∃m,W 0 m σ e)/\∀i m σ H,W i m σ H->
 (J.stop i H/\D.nx σ H)\/(J.go i H/\∃N:St->Hp->Prop,(∀b a,N b a->∃d,d<m/\W (i+1) d b a)/\∀x a,J.yld i H x a->g x σ a λc h=>j {D with nx:=N,ct:=N,bk:=D.nx} c h)
noncomputable def qS(a:List Addr)(h:Y5):jw:=a.filterMap λb=>(h.get? b).map λo=>(b,o)
theorem tW(c:b∈a)(e:h.get? b=b4 o):(b,o)∈qS a h:=a7b.mpr ⟨b,c,by rw[e];rfl⟩
theorem Ke(i:p∈qS a h):p.1∈a/\h.get? p.1=b4 p.2:=by
 obtain⟨b,d,e⟩:=a7b.mp i;cases q:h.get? b with
 |none=>rw[q]at e;cases e|some o=>rw[q]at e;have c:(b,o)=p:=Ym e;subst c;exact⟨d,q⟩
theorem Inv.pinned{σ:St}(I:Inv X b0l σ H s)(l:∀b∈a,gN X b0l H b)(n:∀b∈a,∃o,s.heap.get? b=b4 o/\∀v,o.data≠.cell v):Inv X (b0l++qS a s.heap) σ H s:=
 I.pins_of λp q=>(YU.mp q).elim (λz=>I.pin p (ZK _ z)) λz=>by obtain⟨h,e⟩:=Ke z;obtain⟨i,j,k,_⟩:=l p.1 h;obtain⟨o,c,d⟩:=n p.1 h;rw[e]at c;cases c;exact⟨e,i,j,k,d⟩
theorem Inv.unpinned{σ:St}(I:Inv X (b0l++pl) σ H s):Inv X b0l σ H s:=I.pins_of λp a=>I.pin p (ZK _ (a6D _ a))
theorem Kf(G:a5G (Yv X.prog X.w) X.A X.env X.xe)(hc:X.calm=b8)(hi:PI X tg iter wi)(hg:PG X tg g)(p:PSs X body tb)(hs:∀x,a1y iter X.env x=pure x:=by intro _;rfl):PS X (.For tg iter body [] pos) (Kd wi g tb):=by
 intro c s σ H D I h;refine wpAny_For (aJ (hi c s σ H _ I h) λv s1 h1=>aJ h1 λitv s2 h2=>?_) hs;obtain⟨it,B,tn,J,H2,e,I2,T,Z,f2,W,⟨m0,w0⟩,turn⟩:=h2;subst e
  -- what stays b8 of the iterator's objects through the loop
 have q:∀{H':Hp},(∀b∈B,H' b=b6)->∀b∈B,gN X c H' b:=λhn b p=>⟨hn b p,(f2 b p).2⟩;refine codeAny_forLoop_any (λn s'=>∃i w H',Inv X c w H' s'/\tn i s'.heap/\(∀b∈B,H' b=b6)/\W i n w H') ?_ m0 ⟨0,σ,H2,I2,Z,λb p=>(f2 b p).1,w0⟩;rintro n s3 ⟨i,y,O,I3,L,E,w3⟩;rcases turn i n y O w3 with⟨M,qn⟩|⟨go,N,hN,step⟩
 .refine a1q G (aJ (T.done X rfl rfl rfl hc i c s3 y O X.xe I3 (q E) L M) λr s4 ⟨U,I4⟩=>?_);subst U;exact a2e ⟨y,O,I4,qn⟩
 .refine a1q G (aJ (T.item X rfl rfl rfl hc i c s3 y O X.xe I3 (q E) L go) λr s4 ⟨u,U,h4⟩=>?_);subst U;refine a1q G (aJ h4 λ_ s5 ⟨x,H5,I5,r5,y5,A,R⟩=>?_);have Q:=I5.pinned (q R) (T.obj _ _ A);refine a1q G (aJ (hg _ s5 y H5 x u _ Q r5 (step x H5 y5)) λ_ s6 ⟨σ6,H6,I6,q6⟩=>?_);refine a1q G (aJ (p _ s6 σ6 H6 _ I6 q6) λf Y z=>?_);have l:∀{a:St}{j:Hp},Inv X (c++qS B s5.heap) a j Y->N a j->∃m,m<n/\∃i w H',Inv X c w H' Y/\tn i Y.heap/\(∀b∈B,H' b=b6)/\W i m w H':=λ{a j} k K=>by obtain⟨m',hm,w7⟩:=hN a j K;refine⟨m',hm,i+1,a,j,k.unpinned,T.keep _ _ _ A λb p o e=>(k.pin (b,o) (ZK _ (ZK _ (tW p e)))).1,λb p=>?_,w7⟩;obtain⟨o,e,d⟩:=T.obj _ _ A b p;exact(k.pin (b,o) (ZK _ (ZK _ (tW p e)))).2.1
  cases f with
  |next=>obtain⟨a,j,k,K⟩:=z;exact l k K|cont=>obtain⟨a,j,k,K⟩:=z;exact l k K|brk=>obtain⟨a,j,k,z⟩:=z;exact⟨a,j,k.unpinned,z⟩|ret v=>obtain⟨x7,a,j,k,r7,z⟩:=z;exact⟨x7,a,j,k.unpinned,r7,z⟩
noncomputable abbrev R2:=V->V->Hp->VK->Prop
noncomputable def OpR(X:Cx)(f:Value->Value->a8s Value)(r:R2):Prop:=
 ∀(b0l:jw)(s:X7)(σ:St)(H:Hp)(x y:V)(v u:Value)(Q:VK),Inv X b0l σ H s->RelV x v->RelV y u->r x y H Q->
  Yl (Yv X.prog X.w) X.A (f v u) (EP X b0l σ Q) X.xe s
noncomputable def xN(X:Cx)(f:Value->a8s Value)(r:V->Hp->VK->Prop):Prop:=
 ∀(b0l:jw)(s:X7)(σ:St)(H:Hp)(x:V)(v:Value)(Q:VK),Inv X b0l σ H s->RelV x v->r x H Q->
  Yl (Yv X.prog X.w) X.A (f v) (EP X b0l σ Q) X.xe s
noncomputable def CallR(X:Cx)(f:Value)(r:gz->Hp->VK->Prop):Prop:=
 ∀(b0l:jw)(s:X7)(σ:St)(H:Hp)(xs:gz)(us:gw)(Q:VK),Inv X b0l σ H s->Vals xs us->r xs H Q->
  Yl (Yv X.prog X.w) X.A (call f us) (EP X b0l σ Q) X.xe s
noncomputable def Kg(X:Cx)(r:V->Hp->(Bool->Hp->Prop)->Prop):Prop:=
 ∀(b0l:jw)(s:X7)(σ:St)(H:Hp)(x:V)(v:Value)(Q:Bool->Hp->Prop),Inv X b0l σ H s->RelV x v->r x H Q->
  Yl (Yv X.prog X.w) X.A (truthy v) (TP X b0l σ Q) X.xe s
noncomputable def qT(r:R2)(c d:TE):TE:=λσ H Q=>c σ H λx a=>d σ a λy b=>r x y b Q
noncomputable def Kh(r:V->Hp->VK->Prop)(b:TE):TE:=λσ H Q=>b σ H λx a=>r x a Q
noncomputable def rI(C:Int->Int->Prop)(g:Int->Int->V):R2:=λx y H Q=>∃i j,x=.int i/\y=.int j/\C i j/\Q (g i j) H
noncomputable def gO(g:Int->Int->V):R2:=λx y H Q=>∃i j,x=.int i/\y=.int j/\Q (g i j) H
noncomputable def rU(g:Int->V):V->Hp->VK->Prop:=λx H Q=>∃i,x=.int i/\Q (g i) H
theorem xO(o:PE X a ta)(p:PE X b tb){σ:St}{R:V->V->Hp->Prop}(I:Inv X b0l σ H s)(h:ta σ H λx k=>tb σ k λy d=>R x y d){f:Value->Value->a8s Value}(q:∀v u j x y d,Inv X b0l σ d j->RelV x v->RelV y u->R x y d->Yl (Yv X.prog X.w) X.A (f v u) Q X.xe j):
  Yl (Yv X.prog X.w) X.A (eval a X.env) (λv e=>Yl (Yv X.prog X.w) X.A (eval b X.env) (λu i=>Yl (Yv X.prog X.w) X.A (f v u) Q X.xe i) X.xe e) X.xe s:=by
 refine aJ (o b0l s σ H _ I h) λv B ⟨x,k,l,z,r⟩=>?_;refine aJ (p b0l B σ k _ l r) λu j ⟨y,d,n,A,w⟩=>?_;exact q v u j x y d n z A w
theorem Ki(l:OpR X (a1Z op) r)(j:PE X a ta)(k:PE X b tb):PE X (.BinOp a op b pos) (qT r ta tb):=by intro d s w H Q I h;exact wpAny_BinOp (xO j k I h λv u p x y e i n o q=>l d p w e x y v u Q i n o q)
theorem Kj(l:xN X (unaryOp op) r)(k:PE X a ta):PE X (.UnaryOp op a pos) (Kh r ta):=by intro d s e H Q I h;exact UnaryOp_ (aJ (k d s e H _ I h) λv p ⟨x,i,j,o,n⟩=>l d p e i x v Q j o n)
theorem xP{g:Int->Int->Int}(d:∀i j t u s Q E,C i j->Q (.int (g i j) s.toks) {s with toks:=s.toks+1}->Yl (Yv X.prog X.w) X.A (f (.int i t) (.int j u)) Q E s):
  OpR X f (rI C λi j=>.int (g i j)):=by
 intro e s o H x y v u Q I k l h;obtain⟨i,j,rfl,rfl,hc,q⟩:=h;obtain⟨t,rfl⟩:=k;obtain⟨n,rfl⟩:=l;exact d i j t n s _ _ hc ⟨.int (g i j),H,I.tok _,⟨_,rfl⟩,q⟩
theorem CG{g:Int->Int->Int}(d:∀i j t u s Q E,Q (.int (g i j) s.toks) {s with toks:=s.toks+1}->Yl (Yv X.prog X.w) X.A (f (.int i t) (.int j u)) Q E s):
  OpR X f (gO λi j=>.int (g i j)):=by
 intro e s o H x y v u Q I k l h;obtain⟨i,j,rfl,rfl,q⟩:=h;obtain⟨t,rfl⟩:=k;obtain⟨n,rfl⟩:=l;exact d i j t n s _ _ ⟨.int (g i j),H,I.tok _,⟨_,rfl⟩,q⟩
theorem tX{g:Int->Int->Bool}(d:∀i j t u s Q E,Q (.bool (g i j)) s->Yl (Yv X.prog X.w) X.A (f (.int i t) (.int j u)) Q E s):
  OpR X f (gO λi j=>.bl (g i j)):=by
 intro e s o H x y v u Q I k l h;obtain⟨i,j,rfl,rfl,q⟩:=h;obtain⟨t,rfl⟩:=k;obtain⟨n,rfl⟩:=l;exact d i j t n s _ _ ⟨.bl (g i j),H,I,rfl,q⟩
noncomputable def CMul(i j:Int):Prop:=(-(2^64)<i/\i<2^64)\/(-(2^64)<j/\j<2^64)
theorem CMul.ok(h:CMul i j):a8l i j:=by
 rcases h with⟨d,e⟩|⟨d,e⟩
 .exact .of_left (intBits_le_64 d e)
 .exact .of_right (intBits_le_64 d e)
theorem op_add:OpR X (a1Z .Add) (gO λi j=>.int (i+j)):=CG λ_ _ _ _ _ _ _ q=>add_int q
theorem Kk:OpR X (a1Z .Sub) (gO λi j=>.int (i-j)):=CG λ_ _ _ _ _ _ _ q=>sub_int q
theorem Kl:OpR X (a1Z .Mod) (rI (λ_ j=>0<j) λi j=>.int (i%j)):=xP λi j _ _ _ _ _ hc q=>by have d:(0:Int)<j:=hc;exact mod_int' (by lia) (by rw[Int.fmod_eq_emod_of_nonneg i (by lia)];exact q)
theorem lJ{g:Int->Int}(d:∀i t s Q E,Q (.int (g i) s.toks) {s with toks:=s.toks+1}->Yl (Yv X.prog X.w) X.A (f (.int i t)) Q E s):
  xN X f (rU λi=>.int (g i)):=by
 intro e s k H x v Q I j h;obtain⟨i,rfl,q⟩:=h;obtain⟨t,rfl⟩:=j;exact d i t s _ _ ⟨.int (g i),H,I.tok _,⟨_,rfl⟩,q⟩
theorem Km:xN X (unaryOp .USub) (rU λi=>.int (-i)):=lJ λ_ _ _ _ _ q=>neg_int q
theorem mT{σ:St}(I:Inv X b0l σ H s)(q:Q (.bl k) H)(e:k=k'):EP X b0l σ Q (.bool k') s:=by subst e;exact⟨.bl k,H,I,rfl,q⟩
theorem xQ:OpR X (Zy .Lt) (gO λi j=>.bl (decide (i<j))):=tX λ_ _ _ _ _ _ _ q=>lt_int q
theorem xR:OpR X (Zy .LtE) (gO λi j=>.bl (decide (i<=j))):=tX λ_ _ _ _ _ _ _ q=>le_int q
theorem xS:OpR X (Zy .Gt) (gO λi j=>.bl (decide (j<i))):=tX λ_ _ _ _ _ _ _ q=>gt_int q
theorem xT:OpR X (Zy .GtE) (gO λi j=>.bl (decide (j<=i))):=tX λ_ _ _ _ _ _ _ q=>ge_int q
theorem CH:OpR X (Zy .In) (λx y H Q=>∃i j,x=.str i/\y=.str j/\Q (.bl (!(ZP j i 0 j.length 1).isEmpty)) H):=by intro d s n H x y v u Q I e k h;obtain⟨i,j,rfl,rfl,q⟩:=h;obtain⟨t,rfl⟩:=e;obtain⟨l,rfl⟩:=k;exact in_str (mT I q rfl)
theorem CI:OpR X (Zy .Is) (λx y H Q=>y=.non/\Q (.bl (decide (x=.non))) H):=by
 intro e s j H x y v u Q I d i h;obtain⟨rfl,q⟩:=h;cases i;refine is_none_gen (mT I q ?_);cases x<;>first
  |(cases d;rfl)|(obtain⟨t,rfl⟩:=d;rfl)
theorem CJ:OpR X (Zy .IsNot) (λx y H Q=>y=.non/\Q (.bl (!decide (x=.non))) H):=by
 intro e s j H x y v u Q I d i h;obtain⟨rfl,q⟩:=h;cases i;refine isnot_none_gen (mT I q ?_);cases x<;>first
  |(cases d;rfl)|(obtain⟨t,rfl⟩:=d;rfl)
theorem OpR.or(h:OpR X f r)(h':OpR X f e):OpR X f (λx y H Q=>r x y H Q\/e x y H Q):=by
 intro d s k H x y v u Q I i j q;rcases q with q|q
 .exact h d s k H x y v u Q I i j q
 .exact h' d s k H x y v u Q I i j q
theorem dW b(h:op≠.In:=by decide)(i:op≠.NotIn:=by decide):a1t op b=false:=by
 have d:(op==CmpOp.In)=false:=by cases op<;>first|rfl|exact absurd rfl h
 have e:(op==CmpOp.NotIn)=false:=by cases op<;>first|rfl|exact absurd rfl i
 cases b<;>simp[a1t,d,e]
theorem Kn(n:OpR X (Zy op) r)(j:PE X a ta)(k:PE X b tb)(l:a1t op b=b7):PE X (.Compare a [op] [b] pos) (qT r ta tb):=by intro d s z H Q I h;exact b0c (xO j k I h λv u w x y e i o p q=>n d w z e x y v u Q i o p q) l
noncomputable def CK(t:TE):TT:=λσ H Q=>t σ H λx H'=>∃k,x=.bl k/\Q k H'
theorem Ko(E:OpR X (Zy op) r)(w:PE X a ta)(A:PE X b tb)(B:a1t op b=b7):PT X (.Compare a [op] [b] pos) (CK (qT r ta tb)):=by
 intro d s i H Q I h;refine wpAny_isTrue_Compare1 (aJ (w d s i H _ I h) λv O ⟨x,j,o,L,G⟩=>aJ (A d O i j _ o G) λu R ⟨y,l,p,M,J⟩=>
  aJ (E d R i l x y v u _ p L M J) λc T ⟨z,n,q,N,k,e,K⟩=>?_) B
 subst e;cases N;exact ZF ⟨n,q,K⟩
noncomputable def xU(r j:R2)(ta tb tc:TE):TE:=λσ H Q=>ta σ H λx e=>tb σ e λy h=>r x y h λz d=>∃k,z=.bl k /\
 (if k=b8 then tc σ d λl i=>j y l i Q else Q (.bl b7) d)
theorem Kq(R:OpR X (Zy op) r)(n:OpR X (Zy j) w)(M:PE X a ta)(N:PE X b tb)(hc:PE X c tc)(O:a9k [op,j] [b,c]=false:=by with_unfolding_all rfl):PE X (.Compare a [op,j] [b,c] pos) (xU r w ta tb tc):=by
 intro i s l H Q I h;refine Compare_chain (aJ (M i s l H _ I h) λv s1 ⟨x,B,J,Z,T⟩=>chain_link (aJ (N i s1 l B _ J T) λu s2 ⟨y,E,K,A,U⟩=>
  aJ (R i s2 l E x y v u _ K Z A U) λd s3 ⟨z,o,p,r3,k,e,q⟩=>?_)) O
 subst e;cases r3;refine ZF ?_;cases k with
 |false=>exact ite_ff ⟨.bl b7,o,p,rfl,q⟩|true=>exact ite_tt (chain_last (aJ (hc i s3 l o _ p q) λw' s4 ⟨z',G,L,r4,Y⟩=>n i s4 l G y z' u w' Q L A r4 Y))
theorem Kr(Z:OpR X (Zy op) r)(n:OpR X (Zy j) w)(T:PE X a ta)(U:PE X b tb)(hc:PE X c tc)(Y:a9k [op,j] [b,c]=false:=by with_unfolding_all rfl):PT X (.Compare a [op,j] [b,c] pos) (CK (xU r w ta tb tc)):=by
 intro i s l H Q I h;refine isTrue_chain (aJ (T i s l H _ I h) λv s1 ⟨x,B,K,r1,q1⟩=>test_link (aJ (U i s1 l B _ K q1) λu s2 ⟨y,E,L,A,q2⟩=>
  aJ (Z i s2 l E x y v u _ L r1 A q2) λd s3 ⟨z,o,p,r3,k,e,q⟩=>?_)) Y
 subst e;cases r3;refine ZF ?_;cases k with
 |false=>obtain⟨k',O,q'⟩:=q;cases O;exact ite_ff ⟨o,p,q'⟩|true=>refine ite_tt (test_last (aJ (hc i s3 l o _ p q) λw' s4 ⟨z',G,M,r4,q4⟩=>aJ (n i s4 l G y z' u w' _ M A r4 q4) λd' s5 ⟨z2,J,N,r5,k2,R,q5⟩=>?_));subst R;cases r5;exact ZF ⟨J,N,q5⟩
noncomputable def xV(K:X2)(x:V)(H:Hp)(k:Bool):Prop:=
 match x with
 |.non=>k=b7|.bl b=>k=b|.int i=>k=(i != 0)|.str y=>y.length<=Yi/\k=((y.length:Int) != 0)|.byt y=>y.size<=Yi/\k=((y.size:Int) != 0)|.ref p=>(∃e,SqL K H p e/\k=!e.isEmpty)\/(∃e,SqT K H p e/\k=!e.isEmpty)\/∃d,H p=b4 (.dK d)/\k=!d.isEmpty|_=>False
theorem Ks{kvs:List (κ×V)}{vs:List (κ×Value)}(r:KV kvs vs):(!vs.isEmpty)=!kvs.isEmpty:=by cases r<;>rfl
theorem CL(r:Vals xs its):(!its.toArray.isEmpty)=!xs.isEmpty:=by cases r<;>simp
theorem lK:(Yi:Nat)<2^63:=by rw[Yz];decide
theorem Kt:Kg X (λx H Q=>∃k,xV X.K x H k/\Q k H):=by
 intro E s M H x v Q I o h;obtain⟨k,e,q⟩:=h;have K:=lK;have L:Yi=16777216:=Yz;cases x with
 |non=>cases o;have d:k=false:=e;subst d;exact truthy_none ⟨H,I,q⟩|bl b=>cases o;have d:k=b:=e;subst d;exact ZF ⟨H,I,q⟩|int i=>obtain⟨t,rfl⟩:=o;have d:k=(i != 0):=e;subst d;exact PySem.P.truthy_int ⟨H,I,q⟩|str y=>obtain⟨t,rfl⟩:=o;obtain⟨J,d⟩:y.length<=Yi/\k=((y.length:Int) != 0):=e;subst d;exact PySem.P.truthy_str (by lia) ⟨H,I.tok _,q⟩|byt y=>obtain⟨t,rfl⟩:=o;obtain⟨J,d⟩:y.size<=Yi/\k=((y.size:Int) != 0):=e;subst d;exact PySem.W.truthy_bytes (by lia) ⟨H,I.tok _,q⟩|ref p=>
  cases o;have d:(∃n,SqL X.K H p n/\k=!n.isEmpty)\/(∃n,SqT X.K H p n/\k=!n.isEmpty)\/∃j,H p=b4 (.dK j)/\k=!j.isEmpty:=e;rcases d with⟨n,u,d⟩|⟨n,u,d⟩|⟨j,u,d⟩
  .subst d;obtain⟨z,r,A,B⟩:=I.list u;have l:=r.length;exact wpAny_truthy_list A.isList (by simp only[Ys];lia) ⟨H,I.tok _,by rw[CL r];exact q⟩
  .subst d;obtain⟨z,r,A,B⟩:=I.tuple u;have l:=r.length;exact truthy_tuple A (by simp only[Ys];lia) ⟨H,I.tok _,by rw[CL r];exact q⟩
  .subst d;obtain⟨B,G,w,r,m⟩:j.length<=Yi/\(p==ZA)=b7/\∃w,KV j w/\s.heap.DictOf (f6 X.prog X.w) p w:=I.hok p _ u;have l:j.length=w.length:=a5r r;exact wpAny_truthy_dict G m (by lia) ⟨H,I.tok _,by rw[Ks r];exact q⟩
 |_=>exact(show False from e).elim
theorem Ku(o:PE X a ta)(p:∀d,a5C a X.env d=(do let v <- d;a7l a.pos;holding [v] (truthy v))):
  PT X a (λi H Q=>ta i H λx j=>∃k,xV X.K x j k/\Q k j):=by
 intro e s i H Q I h;exact isTrue_plain (aJ (o e s i H _ I h) λv u ⟨x,l,n,r,q⟩=>Kt e u i l x v Q n r q) (p _)
theorem op_add_str:OpR X (a1Z .Add) (λx y H Q=>∃i j,x=.str i/\y=.str j/\i.length+j.length<=Yi/\Q (.str (i++j)) H):=by intro d s p H x y v u Q I k l h;obtain⟨i,j,rfl,rfl,e,q⟩:=h;obtain⟨t,rfl⟩:=k;obtain⟨n,rfl⟩:=l;exact add_str (λn o=>⟨.str (i++j),H,I.tok _,⟨_,rfl⟩,q⟩) e
theorem fQ(r:Vals [x] us):∃u,us=[u]/\RelV x u:=by
 cases r with
 |cons d e=>cases e;exact⟨_,rfl,d⟩
theorem qU(r:Vals [x,y] us):∃u d,us=[u,d]/\RelV x u/\RelV y d:=by
 cases r with
 |cons e h=>
  cases h with
  |cons i j=>cases j;exact⟨_,_,rfl,e,i⟩
theorem Kv(hc:X.calm=b8):CallR X (.builtin "max") (λxs H Q=>∃i j,xs=[.int i,.int j]/\Q (.int (if j>i then j else i)) H):=by
 intro e s w H xs p Q I r h;obtain⟨i,j,rfl,q⟩:=h;obtain⟨u,v,rfl,⟨t,rfl⟩,⟨n,rfl⟩⟩:=qU r;refine max_two_ints (I.ok.hd hc) λl o k=>⟨_,H,I.kept k,?_,q⟩;by_cases d:j>i
 .rw[if_pos d,if_pos d];exact⟨_,rfl⟩
 .rw[if_neg d,if_neg d];exact⟨_,rfl⟩
theorem Kw(hc:X.calm=b8):CallR X (.builtin "min") (λxs H Q=>∃i j,xs=[.int i,.int j]/\Q (.int (if j<i then j else i)) H):=by
 intro e s w H xs p Q I r h;obtain⟨i,j,rfl,q⟩:=h;obtain⟨u,v,rfl,⟨t,rfl⟩,⟨n,rfl⟩⟩:=qU r;refine min_two_ints (I.ok.hd hc) λl o k=>⟨_,H,I.kept k,?_,q⟩;by_cases d:j<i
 .rw[if_pos d,if_pos d];exact⟨_,rfl⟩
 .rw[if_neg d,if_neg d];exact⟨_,rfl⟩
structure ObjM(h:Y5)(x dx C:Addr)(mA:Str->Option Value):Prop where
 obj:h.get? x=b4 (a6W C dx)
 ns:h.Ns1 dx mA
 ne:dx≠x
theorem RelO.some_of(r:RelO (b4 v) o):∃u,o=b4 u/\RelV v u:=by
 cases o with
 |none=>exact(show False from r).elim|some u=>exact⟨u,rfl,r⟩
theorem Ky(r:RelV v u):PySem.W.handedIn u=true:=by
 cases v with
 |non=>cases(show u=Y3 from r);rfl|bl b=>cases(show u=Z3 b from r);rfl|int i=>obtain⟨t,e⟩:=(show ∃t,u=Zh i t from r);cases e;rfl|str x=>obtain⟨t,e⟩:=(show ∃t,u=a2K x t from r);cases e;rfl|byt b=>obtain⟨t,e⟩:=(show ∃t,u=a9c b t from r);cases e;rfl|flt b=>obtain⟨t,e⟩:=(show ∃t,u=a9b b t from r);cases e;rfl|ref a=>cases(show u=Ye a from r);rfl|ty n=>cases(show u=Yq n from r);rfl
structure Cls(K:X2)(C:Addr):Prop where
 pg:PySem.W.plainGet K C Str.empty=b8
 hd:PySem.W.hasDictIn K C=b8
 po:PySem.W.plainOver K C=b8
 sa:ZI K (.ref C) "__setattr__"=b4 (b4 (.builtin "object.__setattr__"))
structure Con(K:X2)(C:Addr)(f:Str)(v:V)(u:Value):Prop where
 at_:ZI K (.ref C) f=b4 (b4 u)
 rel:RelV v u
 get:a2R K u "__get__"=b4 b6
 cp:PySem.W.copiedNames.contains f=b7
structure Meth(K:X2)(C:Addr)(m:Str)(f:Addr):Prop where
 at_:ZI K (.ref C) m=b4 (b4 (.ref f))
 fn:a8e K (.ref f)=b8
 kp:Za K (.ref f)=b8
theorem Kz(c:a0Y e f env (eval e env)=eval e env)(h:Yl (Yv prog w) A (eval e env) (λo b=>Yl (Yv prog w) A (getAttr o f b8) Q E b) E s):Yl (Yv prog w) A (eval (.Attribute e f pos) env) Q E s:=
 Attribute_any_ h (by rw[arm_eval_Attribute,c])
section
variable{X:Cx}{b0l:jw}{σ:St}{H:Hp}{s:X7}{A:YI}{E:Value->X7->Prop}{Q:Value->X7->Prop}{c:Value}{b:Bool}
inductive TyOf (K:X2)(H:Hp):V->Value->Prop where
 |non:TyOf K H .non (.type "NoneType")
 |bl (x:Bool):TyOf K H (.bl x) (.type "bool")
 |int (i:Int):TyOf K H (.int i) (.type "int")
 |str (x:Str):TyOf K H (.str x) (.type "str")
 |flt (x:UInt64):TyOf K H (.flt x) (.type "float")
 |lst {a:Addr}{xs:gz}(e:H a=b4 (.lst xs)):TyOf K H (.ref a) (.type "list")
 |frz {a:Addr}{o:Obj}{xs:gz}(e:H a=b4 (.frz o (.lst xs))):TyOf K H (.ref a) (.type "list")
 |tup {a:Addr}{xs:gz}(e:H a=b4 (.tup xs)):TyOf K H (.ref a) (.type "tuple")
 |dK {a:Addr}{kvs:List (aU×V)}(e:H a=b4 (.dK kvs)):TyOf K H (.ref a) (.type "dict")
 |dT {a:Addr}{kvs:List (List aU×V)}(e:H a=b4 (.dT kvs)):TyOf K H (.ref a) (.type "dict")
 |ins {a C dx:Addr}{fs:List (Str×V)}(e:H a=b4 (.ins C dx fs))(cl:Cls K C)(ha:ZI K (.ref C) "__class__"=b4 (b4 (.builtin "object.__class__")))
   (hn:a2R K (.builtin "object.__class__") "__get__"=b4 (b4 (.builtin "getset_descriptor.__get__"))) (htk:a6V K (.builtin "object.__class__")=b4 b8)
   (hm:a7L K C (.type "object")=b4 b8):TyOf K H (.ref a) (.ref C)
end
structure Room(k:Nat)(A:YI):Prop where
 hd:A.handled=b6
 dp:A.depth+3*k+5<a3n
 un:A.units+16*k+200<ZO
theorem Room.deeper(r:Room (k+1) A)env:Room k (A.deeper env):=
 ⟨r.hd,by have:=r.dp;show A.depth+1+3*k+5<_;lia,by have:=r.un;show A.units+3+16*k+200<_;lia⟩
theorem KA{A:YI}{us:gw}:(A.under (.builtin "type.__call__" ⟨.ref C::us,a⟩)).depth=A.depth+1:=by first|rfl|simp[a5Q,Code.weight,Code.isCreation,Code.isGuard,Code.isCaller,a9u,a6b,guardIds]
theorem KG{A:YI}{us:gw}:(A.under (.builtin "type.__call__" ⟨.ref C::us,a⟩)).units=A.units+1:=by first|rfl|simp[a5Q,Code.cUnits,a9u,a6b]
theorem Room.make(r:Room (k+1) A)C(us:gw)a:Room k (A.under (.builtin "type.__call__" ⟨.ref C::us,a⟩)):=
 ⟨r.hd,by have:=r.dp;rw[KA];lia,by have:=r.un;rw[KG];lia⟩
theorem Room.depth(r:Room k A):A.depth<a3n:=by have:=r.dp;lia
theorem Room.units(r:Room k A):A.units+64<ZO:=by have:=r.un;lia
noncomputable def xW:TA:=λ_ H Q=>Q [] H
noncomputable def CM(c:TE)(tr:TA):TA:=λσ H Q=>c σ H λx a=>tr σ a λxs b=>Q (x::xs) b
theorem tY:PA X [] xW:=λ_ _ _ _ H Q I h=>a2c ⟨[],H,I,.nil,h⟩
theorem qV(k:PE X e te)(l:PA X es t)(n:YJ (e::es) X.env=(b7,eval e X.env)::YJ es X.env:=by rfl):PA X (e::es) (CM te t):=by intro pos a s b H Q I h;rw[n];show Yl _ _ (a8T ((b7,eval e X.env)::a0s pos (YJ es X.env))) _ _ s;refine a1S (aJ (k a s b H _ I h) λu v ⟨x,c,i,q,o⟩=>?_);exact aJ (l pos a v b c _ i o) λz y ⟨w,d,j,r,p⟩=>⟨x::w,d,j,.cons q r,p⟩
noncomputable def KH(t:TA):TE:=λσ H Q=>t σ H λxs a=>xs.length<=Yi/\∀p,a p=b6->Q (.ref p) (upd a p (.tup xs))
noncomputable def KI(t:TA):TE:=λσ H Q=>t σ H λxs a=>xs.length<=Yi/\∀p,a p=b6->Q (.ref p) (upd a p (.lst xs))
theorem CN{x1}(h:PA X es t):PE X (.Tuple es x1 pos) (KH t):=by intro c s o H Q I k;refine wpAny_Tuple_spliced (aJ (h pos c s o H _ I k) λl a ⟨n,d,i,r,z,q⟩=>⟨by rw[<- r.length];exact z,?_⟩);have j:d a.heap.objs.size=none:=i.hok.fresh (Yd _);refine⟨.ref a.heap.objs.size,upd d a.heap.objs.size (.tup n),i.laid (t':=a.toks) (λb u e=>X6 _ e) (Yd _) ?_,rfl,q _ j⟩;exact⟨z,l,r,⟨_,Yh _ rfl,rfl,_,rfl,rfl⟩⟩
theorem KJ(h:PA X es t):PE X (.List es pos) (KI t):=by intro c s o H Q I k;refine wpAny_List_spliced (aJ (h pos c s o H _ I k) λl a ⟨n,d,i,r,z,q⟩=>⟨by rw[<- r.length];exact z,?_⟩);have j:d a.heap.objs.size=none:=i.hok.fresh (Yd _);refine⟨.ref a.heap.objs.size,upd d a.heap.objs.size (.lst n),i.laid (t':=a.toks) (λb u e=>X6 _ e) (Yd _) ?_,rfl,q _ j⟩;exact⟨z,l,0,r,Yh _ rfl⟩
noncomputable abbrev Sp:=List V->Hp->VK->XK->Prop
noncomputable abbrev gP:=List a2Y->Hp->X7->XK->Value->X7->Prop
structure Env0(P:Yt)(w:YL)(K:X2)(mg:Str->Option Value)(base:Y5)(A:YI)(outer:List a2Y)(s:X7)(H:Hp):Prop where
 frames:A.frames=b4 outer
 mod:Mod K mg base
 bs:∀b o,base.get? b=b4 o->s.heap.get? b=b4 o/\H b=b6
 bsz:base.objs.size<=s.heap.objs.size
 funs:s.heap.FunFrames base outer
 frf:∀b∈dG outer,H b=b6
 hok:HOk P w H s.heap
 bare:a3y s.gens
inductive CE (outer:List a2Y)(P:Yt)(w:YL)(H:Hp)(s:X7)(Q:VK)(u:Value)(s':X7):Prop
 |mk (v:V)(H':Hp)(o:s'.os=s.os)(b:a3y s'.gens)(n:Un (dG outer) [] H H' s.heap s'.heap)(k:HOk P w H' s'.heap)(r:RelV v u)(q:Q v H'):CE outer P w H s Q u s'
noncomputable def CR(CX:gP)(outer:List a2Y)(P:Yt)(w:YL)(H:Hp)(s:X7)(Q:VK)(E:XK)(r:a4m)(a:X7):Prop:=
 match r with
 |.ok (.ret u)=>CE outer P w H s Q u a|.ok _=>False|.error e=>CX outer H s E e a
structure FnOk(P:Yt)(w:YL)(K:X2)(mg:Str->Option Value)(base:Y5)(CX:gP)(k:Nat)(f:Addr)(fd:ZU)(ps:List Str)(sp:Sp):Prop where
 len:∀vs H Q E,sp vs H Q E->vs.length=ps.length
 run:∀(A:YI)(outer:List a2Y)(s:X7)(H:Hp)(args:Args)(us:gw)(vs:gz)(Q:VK)(E:XK),Room k A->Env0 P w K mg base A outer s H->a4v s fd args (ps.zip us)->Vals vs us->sp vs H Q E->
  a1z (Yv P w) A (.call (.ref f) args) (CR CX outer P w H s Q E) s
theorem Env0.make{K:X2}(e:Env0 P w K a base A outer s H)C(us:gw)b:
  Env0 P w K a base (A.under (.builtin "type.__call__" ⟨.ref C::us,b⟩)) outer s H:=⟨by first|exact e.frames|(simpa[a5Q,Code.envs,a6b,pushEnvs]using e.frames),e.mod,e.bs,e.bsz,e.funs,e.frf,e.hok,e.bare⟩
theorem Inv.env0{σ:St}(I:Inv X b0l σ H s):Env0 X.prog X.w X.K X.mg X.base X.A X.stack s H:=
 ⟨I.ok.frames,I.ok.mod,I.bs,Y6 I.ok.bsz I.sz,I.stack,I.stkFree,I.hok,I.bare⟩
theorem Inv.after{σ:St}(I:Inv X b0l σ H s)(h:CE X.stack X.prog X.w H s Q u s'):EP X b0l σ Q u s':=by obtain⟨v,e,j,a,un,hok,r,q⟩:=h;obtain⟨i,g,d,t,c⟩:=s';obtain rfl:c=s.os:=j;exact⟨v,e,I.call (h':=i) (g':=g) (d':=d) (t':=t) (ch:=[]) un hok a (λb z=>absurd z (by simp)),r,q⟩
noncomputable def xX(sp:Sp)(a:gz)(E:XK)(t:TA):TE:=λσ H Q=>t σ H λvs b=>sp (vs++a) b Q E
noncomputable def Binds(K:X2)(a:ZU)(ps:List Str)(ds:gw):Prop:=
 ∀(s:X7)(us:gw),K.In s.heap->(us++ds).length=ps.length->a4v s a ⟨us,[]⟩ (ps.zip (us++ds))
theorem Binds.all{K:X2}(h:∀us:gw,us.length=ps.length->a6q a ⟨us,[]⟩=pure (ps.zip us)):Binds K a ps []:=λs us _ b=>by rw[Zw]at b ⊢;exact .of_eq (h us b)
noncomputable def tZ(CX:gP)(X:Cx)(E:XK):Prop:=∀(b0l:jw)(σ:St)(H:Hp)(s:X7)(e:Value)(a:X7),Inv X b0l σ H s->CX X.stack H s E e a->X.xe e a
section
variable{X:Cx}{CX:gP}{k:Nat}{f C:Addr}{fd:ZU}{ps:List Str}{sp:Sp}{dvs:gz}{ds:gw}{E:XK}{x m:Str}{p pos apos:ZL}{e o:Expr}{es:List Expr}{ta:TE}{t:TA}
theorem CO{σ:St}(F:FnOk X.prog X.w X.K X.mg X.base CX k f fd ps sp)(j:Room k X.A)(d:Binds X.K fd ps ds)(hd:Vals dvs ds)(l:tZ CX X E)(I:Inv X b0l σ H s)(r:Vals vs us)(h:sp (vs++dvs) H Q E):Yl (Yv X.prog X.w) X.A (call (.ref f) us) (EP X b0l σ Q) X.xe s:=by
 have b:Vals (vs++dvs) (us++ds):=r.append hd;have i:(us++ds).length=ps.length:=by rw[<- b.length];exact F.len _ _ _ _ h
 refine a3m (a2p (F.run X.A X.stack s H ⟨us,[]⟩ (us++ds) (vs++dvs) Q E j I.env0 (d s us I.kIn i) b h) λr n a=>?_);cases r with
 |error e=>exact l b0l σ H s e n I a|ok c=>
  cases c with
  |ret u=>exact I.after a|next=>exact Y4 a|brk=>exact Y4 a|cont=>exact Y4 a
theorem KL(F:FnOk X.prog X.w X.K X.mg X.base CX k f fd ps sp)(w:Room k X.A)(n:Gl X x)(v:X.mg x=b4 (.ref f))(u:Za X.K (.ref f)=b8)(j:Binds X.K fd ps ds)(hd:Vals dvs ds)(y:tZ CX X E)
  (i:PA X (e::es) t)(b:(x==("__debug__":Str))=false:=by decide) (l:YJ (e::es) X.env=(b7,eval e X.env)::YJ es X.env:=by rfl)(c:(a0s pos (YJ es X.env)).any (·.1)=false:=by rfl) :
  PE X (.Call (.Name x p) (e::es) [] pos) (xX sp dvs E t):=by
 intro a s z H Q I h;refine Zk (f7 I n v ?_ b);refine a1M (h₀:=X.base) I.ok.mod.kin u (aJ (i pos a s z H _ I h) λG B ⟨J,A,d,r,q⟩=>⟨d.kIn,?_⟩) l c;exact CO F w j hd y d r q
theorem KN(F:FnOk X.prog X.w X.K X.mg X.base CX k f fd ps sp)(l:Room k X.A)(d:Gl X x)(j:X.mg x=b4 (.ref f))(i:Za X.K (.ref f)=b8)(c:Binds X.K fd ps ds)(hd:Vals dvs ds)(n:tZ CX X E)
  (a:(x==("__debug__":Str))=false:=by decide):PE X (.Call (.Name x p) [] [] pos) (xX sp dvs E xW):=by
 intro b s q H Q I h;refine Zk (f7 I d j ?_ a);exact PySem.W.callWith_K0 I.kIn i (CO (us:=[]) F l c hd n I .nil h)
structure Mk(K:X2)(C f:Addr):Prop where
 makes:PySem.W.makesIn K C=b8
 init:ZI K (.ref C) "__init__"=b4 (b4 (.ref f))
 fn:a8e K (.ref f)=b8
 kp:Za K (.ref C)=b8
end
section
variable{X:Cx}{CX:gP}{k:Nat}{f C:Addr}{fd:ZU}{ps ks:List Str}{sp:Sp}{E:XK}{x m:Str}{p pos apos kpos:ZL}{e o:Expr}{es:List Expr}{kws:List a1C}{te ta:TE}{t tk:TA}{nm:Option Str}
structure KBinds(K:X2)(fd:ZU)(ps ks:List Str)(g:gw->gw->gw)(gV:gz->gz->gz):Prop where
 to:∀(s:X7)(us ws:gw),K.In s.heap->(g us ws).length=ps.length->a4v s fd ⟨us,ks.zip ws⟩ (ps.zip (g us ws))
 rel:∀{vs:gz}{us:gw}{zs:gz}{ws:gw},Vals vs us->Vals zs ws->Vals (gV vs zs) (g us ws)
variable{g:gw->gw->gw}{gV:gz->gz->gz}
end
structure FnScope(N P:List Str)(sc:a0t):Prop where
 kind:sc.kind=.function
 co:sc.isCoroutine=b7
 gen:sc.isGenerator=b7
 nd:N.Nodup
 pre:N.take P.length=P
 par:∀x∈P,sc.names.lookup x=b4 .local\/sc.names.lookup x=b4 .cell
 nofree:∀y∈sc.names,y.2≠.free
theorem CP{kindOf:Str->Option a0Q}:∀{a}{m},(∀v,(x,v)∉a)->a6o kindOf a m x=m x
 |[],_,_=>rfl|(n,v)::r,m,h=>by
  unfold a6o;rw[CP λw hw=>h w (YK _ hw)];split
  .have:x≠n:=by rintro rfl;exact h v YQ
   simp[this]
  .rfl
theorem CQ{kindOf:Str->Option a0Q}:∀{a}{m},(∀v,(x,v)∉a)->a6p kindOf a m x=m x
 |[],_,_=>rfl|(n,v)::r,m,h=>by
  unfold a6p;rw[CQ λw hw=>h w (YK _ hw)];split
  .rfl
  .have:x≠n:=by rintro rfl;exact h v YQ
   simp[this]
theorem CS{kindOf:Str->Option a0Q}:∀{P:List Str}{vs:gw}{i:Nat}{m},P.Nodup->P[i]?=b4 x->vs[i]?=b4 v->kindOf x=b4 .local->
  a6o kindOf (P.zip vs) m x=b4 v
 |[],_,_,_,_,h,_,_=>by simp at h
 |_::_,[],_,_,_,_,h,_=>by simp at h
 |p::P,w::vs,0,m,nd,h1,h2,hk=>by simp at h1 h2;subst h1;subst h2;show a6o kindOf ((p,w)::P.zip vs) m p=_;unfold a6o;rw[CP λv a=>(YT.mp nd).1 (a3G a).1,if_pos hk];simp
 |p::P,w::vs,i+1,m,nd,h1,h2,hk=>by show a6o kindOf ((p,w)::P.zip vs) m x=_;unfold a6o;exact CS (i:=i) (YT.mp nd).2 (by simpa using h1) (by simpa using h2) hk
theorem CT{kindOf:Str->Option a0Q}:∀{P:List Str}{vs:gw}{i:Nat}{m},P.Nodup->P[i]?=b4 x->vs[i]?=b4 v->kindOf x≠b4 .local->
  a6p kindOf (P.zip vs) m x=b4 v
 |[],_,_,_,_,h,_,_=>by simp at h
 |_::_,[],_,_,_,_,h,_=>by simp at h
 |p::P,w::vs,0,m,nd,h1,h2,hk=>by simp at h1 h2;subst h1;subst h2;show a6p kindOf ((p,w)::P.zip vs) m p=_;unfold a6p;rw[CQ λv a=>(YT.mp nd).1 (a3G a).1,if_neg hk];simp
 |p::P,w::vs,i+1,m,nd,h1,h2,hk=>by show a6p kindOf ((p,w)::P.zip vs) m x=_;unfold a6p;exact CT (i:=i) (YT.mp nd).2 (by simpa using h1) (by simpa using h2) hk
noncomputable def start(N:List Str)(vs:gz):St:=vs.map b4++a0g (N.length-vs.length) b6
noncomputable def dO(CX:gP)(P:Yt)(w:YL)(K:X2)(d:Str->Option Value)(base:Y5)(N:List Str)(qual:Str)(scope:a0t)(f:Addr)(b:Value)(A:YI)(outer:List a2Y)(s:X7)(H:Hp)(E:XK):Cx where
 prog:=P
 w:=w
 K:=K
 mg:=d
 base:=base
 A:=A.deeper (envOfC qual scope s.heap.objs.size f b)
 N:=N
 s₀:=s
 H₀:=H
 env:=envOfC qual scope s.heap.objs.size f b
 outer:=outer
 stack:=envOfC qual scope s.heap.objs.size f b::outer
 ex:=[]
 calm:=b8
 fn:=λ_=>b8
 pn:=[]
 xe:=λe h=>Yl (Yv P w) (A.deeper (envOfC qual scope s.heap.objs.size f b)) (a8V (envOfC qual scope s.heap.objs.size f b) e) (λ_ a=>CX outer H s E e a) (λc a=>CX outer H s E c a) h
theorem CU{sc:a0t}(h:sc.names.lookup x=b4 .cell):∃c,(a5D n sc.names []).lookup x=b4 c:=by have q:=a3o sc.names n [] (.inl h);exact Y2.mp q
theorem CV{K:X2}(S:FnScope N ps scope)(hd:A.handled=b6)(j:Env0 P w K L base A outer s H)(X:vs.length=ps.length)(r:Vals vs us)(x:InCallC s s.heap.objs.size (a6o (envOfC qual scope s.heap.objs.size f G).kindOf (ps.zip us) λ_=>b6) (a5D (s.heap.objs.size+1) scope.names []) (a6p (envOfC qual scope s.heap.objs.size f G).kindOf (ps.zip us) λ_=>b6) s1):
  Inv (dO CX P w K L base N qual scope f G A outer s H E) [] (start N vs) H s1:=by
 have R:ps.length<=N.length:=by have:=congrArg Zf S.pre;rw[Zs]at this;lia
 obtain⟨I,Y,rfl,M⟩:=x.done;have n:∀b:Addr,b∉(dO CX P w K L base N qual scope f G A outer s H E).ex:=λb z=>absurd (show b∈([]:List Addr)from z) (by simp);refine⟨⟨j.mod,S.kind,rfl,rfl,Yd _,λy z c I d=>?_,λy l=>?_,λy c _ h=>?_,λ_=>hd,a6c j.frames,.inr ⟨rfl,rfl⟩,λb z=>absurd z (n b),j.bs,j.bsz,λb _ _=>n b,λb z=>absurd z (n b),j.funs,j.frf⟩,
  rfl,j.bare,Un.kept M,⟨_,x.toInCall.ns,λi y v I d U=>?_⟩,λy c h=>⟨_,x.cell y c h⟩,j.hok.fresh (Yd _),λy c h=>?_,λp o=>absurd (show p∈([]:jw)from o) (by simp),j.hok.kept M,?_⟩
 .exact name_of_addr x.apart (ZH I) (ZH d)
 .have l:scope.names.lookup y=b4 .cell\/scope.names.lookup y=b4 .free:=l;rcases l with l|l
  .exact CU l
  .exact absurd rfl (S.nofree _ (ZH l))
 .exact a0O (x.above y c (ZH h))
 .have J:i<vs.length:=by
   unfold start at d;by_cases J:i<vs.length
   .exact J
   .rw[a0h (by simpa using J)]at d;rw[a0V]at d;split at d<;>cases d
  have Q:vs[i]?=b4 v:=by
   unfold start at d;rw[Y8 (by simpa using J),Yo]at d;cases e:vs[i]? with
   |none=>rw[e]at d;cases d|some a=>rw[e]at d;cases d;rfl
  obtain⟨u,O,T⟩:=r.get Q;have o:ps[i]?=b4 y:=by rw[<- S.pre,a5O (by lia)];exact I
  have B:ps.Nodup:=by rw[<- S.pre];exact S.nd.sublist (List.take_sublist _ _)
  refine⟨u,T,?_⟩;rcases S.par y (Ze o)with k|k
  .exact .inl ⟨k,CS B o O k⟩
  .obtain⟨c,e⟩:=CU (n:=s.heap.objs.size+1) k;refine .inr ⟨.inl k,c,e,?_⟩;have q:=x.cell y c e;rw[CT B o O (by show scope.names.lookup y≠_;rw[k];decide)]at q;exact q
 .exact j.hok.fresh (a0O (x.above y c (ZH h)))
 .unfold start;show _=N.length;rw[Yr,X3,a0H];lia
theorem xY{K:X2}{kV:Value}(lk:K.lookup f=b4 ⟨oc,od,.func (ZN name qual c body scope Y kV l Z an a ct),O⟩)(G:a1V K a qual=b8)(S:FnScope N ps scope)(len:∀vs H Q E,sp vs H Q E->vs.length=ps.length)(h:∀A outer s H(vs:gz)Q E,Room k (A.deeper (envOfC qual scope s.heap.objs.size f a))->sp vs H Q E->
   ∃t,PSs (dO CX P w K B base N qual scope f a A outer s H E) body t/\t {nx:=λ_ H'=>Q .non H',rt:=Q} (start N vs) H):
  FnOk P w K B base CX (k+1) f (ZN name qual c body scope Y kV l Z an a ct) ps sp:=by
 refine⟨len,λA outer s H X us vs Q E L p hb r z=>?_⟩;have hl:=len _ _ _ _ z;have U:K.In s.heap:=p.mod.kin.keeps λb o e=>(p.bs b o e).1;have M:s.heap.NoLimit:=p.mod.nolimit.keeps λb o e=>(p.bs b o e).1;have i:∀y∈ps.zip us,scope.names.lookup y.1=b4 .local\/(scope.names.lookup y.1=b4 .cell/\((a5D (s.heap.objs.size+1) scope.names []).lookup y.1).isSome=b8):=λ⟨n,v⟩ hy=>by
  rcases S.par n (a3G hy).1 with q|q
  .exact .inl q
  .exact .inr ⟨q,a3o _ _ _ (.inl q)⟩
 refine a7K L.depth (U _ _ lk) rfl S.co S.gen rfl (a6v U G) (hb _ _ _ _ ?_);refine a6e S.kind i λenv he s1 x=>?_;subst he;refine⟨M.keeps x.toInCall.keep,codeAny_func ?_⟩;obtain⟨t,ht,hq⟩:=h A outer s H vs Q E (L.deeper _) z;have I:Inv (dO CX P w K B base N qual scope f a A outer s H E) [] (start N vs) H s1:=CV S L.hd p hl r x;refine Y1 (ht [] s1 (start N vs) H _ I hq) (λfl T j=>?_) λe T j=>j;have fin:∀{d:St}{H':Hp}{v:V}{u:Value},Inv (dO CX P w K B base N qual scope f a A outer s H E) [] d H' T->RelV v u->Q v H'->CE outer P w H s Q u T:=
  λ{d H' v u} J R q=>⟨v,H',J.os,J.bare,J.base,J.hok,R,q⟩
 cases fl with
 |ret u=>obtain⟨v,d,H',J,R,q⟩:=j;exact fin J R q|next=>obtain⟨d,H',J,q⟩:=j;exact fin (v:=V.non) (u:=Y3) J rfl q|brk=>obtain⟨_,_,_,q⟩:=j;exact Y4 q|cont=>obtain⟨_,_,_,q⟩:=j;exact Y4 q
noncomputable def t5(r:gz->Hp->VK->Prop)(t:TA):TE:=λσ H Q=>t σ H λvs a=>r vs a Q
theorem KO{id:String}(hc:CallR X (.builtin id) r)(n:Gl X x)(o:X.mg x=b6)(u:Z5 x=b4 (.builtin id))(k:PA X (e::es) t)(q:x ≠ "__name__":=by decide)(b:(x==("__debug__":Str))=false:=by decide)(l:YJ (e::es) X.env=(b7,eval e X.env)::YJ es X.env:=by rfl)(c:(a0s pos (YJ es X.env)).any (·.1)=false:=by rfl):PE X (.Call (.Name x p) (e::es) [] pos) (t5 r t):=by
 intro a s d H Q I h;refine Zk (fB I n o u ?_ q b);exact a0f (aJ (k pos a s d H _ I h) λz y ⟨A,i,j,w,v⟩=>hc a y d i A z Q j w v) l c
theorem KP(hc:CallR X (.type T) r)(n:Gl X x)(o:X.mg x=b6)(u:Z5 x=b4 (.type T))(k:PA X (e::es) t)(q:x ≠ "__name__":=by decide)(b:(x==("__debug__":Str))=false:=by decide)(l:YJ (e::es) X.env=(b7,eval e X.env)::YJ es X.env:=by rfl)(c:(a0s pos (YJ es X.env)).any (·.1)=false:=by rfl):PE X (.Call (.Name x p) (e::es) [] pos) (t5 r t):=by
 intro a s d H Q I h;refine Zk (fB I n o u ?_ q b);exact Zp (aJ (k pos a s d H _ I h) λz y ⟨A,i,j,w,v⟩=>hc a y d i A z Q j w v) l c
section
variable{κ:Type} [DecidableEq κ]
noncomputable def iE(kvs:List (κ×V))(k:κ):Option V:=(kvs.find? λa=>decide (a.1=k)).map (·.2)
theorem KQ{k:κ}(e:p.1=k):iE (p::r) k=b4 p.2:=by simp[iE,Zv,e]
theorem KR{k:κ}(e:¬ p.1=k):iE (p::r) k=iE r k:=by simp[iE,Zv,e]
theorem RelO.isSome_eq(r:RelO o u):o.isSome=u.isSome:=by
 cases o with
 |none=>cases u with
  |none=>rfl|some _=>exact(show False from r).elim
 |some _=>cases u with
  |none=>exact(show False from r).elim|some _=>rfl
theorem RelO.getD(r:RelO o u)(a:RelV d d'):RelV (o.getD d) (u.getD d'):=by
 cases o with
 |none=>cases u with
  |none=>exact a|some _=>exact(show False from r).elim
 |some _=>cases u with
  |none=>exact(show False from r).elim|some _=>exact r
theorem KV.val(r:KV kvs vs)(k:κ):RelO (iE kvs k) (a4n vs k):=by
 unfold KV at r;induction r with
 |nil=>exact a1c|@cons p q l c h t j=>
  obtain⟨d,i⟩:=h;by_cases e:p.1=k
  .have a:q.1=k:=d.symm.trans e;have b:a4n (q::c) k=b4 q.2:=by simp[a4n,Zv,a]
   rw[KQ e,b];exact i
  .have a:¬ q.1=k:=λz=>e (d.trans z);have b:a4n (q::c) k=a4n c k:=by simp[a4n,Zv,a]
   rw[KR e,b];exact j
theorem KV.length{kvs:List (κ×V)}(r:KV kvs vs):kvs.length=vs.length:=a5r r
end
theorem CW(r:RelV (kV k) u):(f6 P w).is k u=true:=by
 cases k with
 |inl i=>obtain⟨t,e⟩:=(show ∃t,u=Zh i t from r);subst e;exact Ji P w i t|inr x=>obtain⟨t,e⟩:=(show ∃t,u=a2K x t from r);subst e;exact Jj P w x t
theorem Inv.big{σ:St}(I:Inv X b0l σ H s):ZA<s.heap.objs.size:=by have h:Y0<s.heap.objs.size:=(I.mod.glob.keeps I.bk).lt;exact a4A (by decide) h
theorem t6{σ:St}(I:Inv X b0l σ H s)(i:qP (H a))(h:a0i a s.heap h')(e:∃q,h'.get? a=b4 q)(new:ObjOk X.prog X.w (upd H a c) h' a c):
  Inv X b0l σ (upd H a c) {s with heap:=h',toks:=t'}:=
 I.write (x:=a) (e:=a) i (.inl rfl) (λb q d z=>(h.2 b d).trans z) e new
noncomputable def CY(i:Expr):Prop:=∀b a,a5I i b7 b a=operate [b,a] (a5V b a)
theorem CZ{id:String}(p:a0J (.type T) "__getitem__"=pure (b4 (.builtin id)))(q:CY a)(h:Yl (Yv prog w) A (eval b env) (λo e=>Yl (Yv prog w) A (eval a env) (λi c=>c.TypeIs o T/\Yl (Yv prog w) A (a5V o i) Q E c) E e) E s):
  Yl (Yv prog w) A (eval (.Subscript b a pos) env) Q E s:=by
 refine a6s (Y1 h (λo e k=>Y1 k (λi c d=>?_) λ_ _ x=>x) λ_ _ x=>x);obtain⟨n,d⟩:=d;unfold a4G;refine X1 ?_;rw[getitemInPython_of_ne n.not_modules];refine X1 (a2d n p ?_);have fin:Yl (Yv prog w) A (a5I a b7 o i) (λr j=>Yl (Yv prog w) A (letTemporaryGo b o r >>= λ_=>pure r) Q E j) E c:=by rw[q o i];exact wpAny_operating (Y1 d (λr j l=>X1 (wpAny_letTemporaryGo (Yb l))) λ_ _ x=>x)
 first
  |exact Yb (X1 fin)|exact X1 (Yb (X1 fin))|exact X1 fin
noncomputable def C0:List (TE×TE)->St->Hp->(List (V×V)->Hp->Prop)->Prop
 |[],_,H,Q=>Q [] H|(tk,tv)::r,σ,H,Q=>tk σ H λx a=>tv σ a λy b=>C0 r σ b λd c=>Q ((x,y)::d) c
noncomputable abbrev VV:List (V×V)->List (Value×Value)->Prop:=a2G λp q=>RelV p.1 q.1/\RelV p.2 q.2
noncomputable def KS(X:Cx)(pos:ZL)(keys:List (Option Expr))(a:List Expr)(b:List (TE×TE)):Prop:=
 ∀(b0l:jw)(s:X7)(σ:St)(H:Hp)(Q:List (V×V)->Hp->Prop),Inv X b0l σ H s->C0 b σ H Q->
  Yl (Yv X.prog X.w) X.A (evalPairs (pairTrees keys a X.env pos)) (λh e=>∃d c,Inv X b0l σ c e/\VV d h/\Q d c) X.xe s
structure M1(X:Cx)(o:Expr)(m:Str)(apos:ZL)(e:Expr)(cpos:ZL):Prop where
 base:a0Y o m X.env (eval o X.env)=eval o X.env
 few:((a0s cpos (YJ [e] X.env)).all (λx=>!x.1)&&(a5d cpos (a3v [] X.env)).all (λx=>x.1.isSome)
  && decide (([e]:List Expr).length+([]:List a1C).length+(if([]:List a1C).isEmpty then 0 else 1)<30))=b8
 line:(apos.endLine==cpos.line)=b8
 trees:a0s cpos (YJ [e] X.env)=[(b7,eval e X.env)]
structure M2(X:Cx)(o:Expr)(m:Str)(apos:ZL)(e f:Expr)(cpos:ZL):Prop where
 base:a0Y o m X.env (eval o X.env)=eval o X.env
 few:((a0s cpos (YJ [e,f] X.env)).all (λx=>!x.1)&&(a5d cpos (a3v [] X.env)).all (λx=>x.1.isSome)
  && decide (([e,f]:List Expr).length+([]:List a1C).length+(if([]:List a1C).isEmpty then 0 else 1)<30))=b8
 line:(apos.endLine==cpos.line)=b8
 trees:a0s cpos (YJ [e,f] X.env)=[(b7,eval e X.env),(b7,eval f X.env)]
noncomputable def IsD(H:Hp)(a:Addr):Prop:=(∃kvs,Rd H a (.dK kvs))\/∃kvs,Rd H a (.dT kvs)
end L2
namespace HT
open PySem PyProof.Rows
noncomputable def lexLt:List Int->List Int->Bool
 |[],[]=>b7|[],_::_=>b8|_::_,[]=>b7|x::xs,y::ys=>if x=y then lexLt xs ys else decide (x<y)
theorem KU x y xs ys:lexLt (x::xs) (y::ys)=if x=y then lexLt xs ys else decide (x<y):=rfl
theorem KW:lexLt [] []=false:=rfl
theorem KY y ys:lexLt [] (y::ys)=true:=rfl
theorem KZ x xs:lexLt (x::xs) []=false:=rfl
theorem K0 A s a t c u:∃e,a2P A s (.int a t) (.int c u) e/\(e=b8↔a=c):=
 ⟨(a==c),SeqAt.EqAt.int_int a t c u,by simp⟩
theorem K1 A s a t c u prog w E Q(h:Q (.bool (decide (a<c))) s):
  Yl (Yv prog w) A (a1L .Lt (.int a t) (.int c u)) Q E s:=
 (a9H h:Yl (Yv prog w) A (Zy .Lt (.int a t) (.int c u)) Q E s)
section
open PySem.SeqAt
open PySem.AutoSeq1 (wpAny_loadPart')
open PySem.MeetsSeq PySem.MeetsSeq2 PySem.MeetsSeq3
theorem K2 l b items i n n2 dd M sl Q ns ms(T:a1R items.toList ns)(U:a1R i.toList ms):
  Meets (Builtin.«tuple.__lt__» ⟨[.ref l,.ref b],[]⟩)
   (λ_ R s=>s.heap.get? l=b4 {cls:=.type "tuple",dict:=dd,data:=.seq items n,slots:=sl}/\s.heap.get? b=b4 {cls:=.type "tuple",dict:=M,data:=.seq i n2,slots:=Q} /\
    R (.ok (.ret (.bool (lexLt ns ms)))) s):=
 .of_wp λB w A R s h=>by
  obtain⟨J,g,d,L,K⟩:=s;obtain⟨hl,Y,h⟩:=h;have f2:=AutoSeq1.sub_tuple_tuple;have z1:items.size=ns.length:=by rw[<- T.length];simp
  have z2:i.size=ms.length:=by rw[<- U.length];simp
  wp_walk using a9z hl,a9z Y,a5x _ (λrest b O=>b.1=b6/\O=⟨J,g,d,L,K⟩/\∃(vs ws:gw)(o k:List Int),rest=vs.zip ws /\
   a1R vs o/\a1R ws k/\o.length+i.size=k.length+items.size/\R (.ok (.ret (.bool (lexLt o k)))) ⟨J,g,d,L,K⟩) _
  case turn=>
   rintro⟨y,x⟩ rest b O ⟨E,rfl,vs,ws,o,k,r,G,p,j,v⟩;cases G with
   |nil=>rw[List.zip_nil_left]at r;cases r|cons a t H=>
    cases p with
    |nil=>rw[List.zip_nil_right]at r;cases r|cons c u I=>
     rw[a4g]at r;injection r with hyx hrest;injection hyx with hy hx;subst hy hx;rw[KU]at v;simp only[YB]at j;obtain⟨e,Z,z⟩:=K0 A.in1 ⟨J,g,d,L,K⟩ a t c u;refine X1 (Z B w _ _ ?_);cases e with
     |true=>rw[if_pos (z.mp rfl)]at v;wp_walk;exact⟨rfl,rfl,_,_,_,_,hrest,H,I,by lia,v⟩|false=>rw[if_neg (λq=>absurd (z.mpr q) Yj)]at v;have N:=K1 A.in1 ⟨J,g,d,L,K⟩ a t c u B w;wp_walk using N;exact⟨_,rfl,by simpa using v⟩
  case fin=>
   rintro⟨b1,b2⟩ O ⟨E,rfl,vs,ws,o,k,r,G,p,j,v⟩;simp only at E;subst E;have X:lexLt o k=decide (items.size<i.size):=by
    cases G with
    |nil=>
     cases p with
     |nil=>simp only[a1g]at j;rw[KW];exact(decide_eq_false (by lia)).symm|cons c u hw=>simp only[a1g,YB]at j;rw[KY];exact(decide_eq_true (by lia)).symm
    |cons a t X=>
     cases p with
     |nil=>simp only[a1g,YB]at j;rw[KZ];exact(decide_eq_false (by lia)).symm|cons c u hw=>rw[a4g]at r;cases r
   rw[X]at v;wp_walk;exact⟨_,rfl,by simpa[a9w]using v⟩
  case h=>exact⟨rfl,rfl,items.toList,i.toList,ns,ms,rfl,T,U,by lia,h⟩
end
theorem lt_tupInts(z:a9g s.heap l items)(u:a9g s.heap b a)(v:a1R items.toList ns)(y:a1R a.toList ms)(B:A.units<ZO)(h:Q (.bool (lexLt ns ms)) s):Yl (Yv prog w) A (Zy .Lt (.ref l) (.ref b)) Q E s:=by
 obtain⟨⟨cls,r,p,H⟩,q,hc,n,hd⟩:=id z;obtain⟨⟨o,j,i,k⟩,e,c,G,d⟩:=id u;simp only at hc hd c d;subst hc hd c d;exact richCompare_meets_room (op:=.Lt) ⟨_,q,rfl⟩ ⟨_,e,rfl⟩ PySem.F.slot_tuple_lt PySem.F.entry_tuple_lt (PySem.F.args_tuple_lt_2 _ _) (K2 l b items a n G r j H k ns ms v y)
  ⟨q,e,show Z3 (lexLt ns ms)≠Value.notImplemented/\Q (.bool (lexLt ns ms)) s from⟨(λx=>nomatch x),h⟩⟩ B
noncomputable def sIx(n d:Nat):Option Int->Nat
 |none=>d|some v=>if v<0 then(v+(n:Int)).toNat else min v.toNat n
theorem sIx_none n d:sIx n d b6=d:=rfl
theorem sIx_nat(n d k:Nat):sIx n d (b4 (k:Int))=min k n:=by show(if(k:Int)<0 then((k:Int)+(n:Int)).toNat else min (k:Int).toNat n)=min k n;rw[if_neg (by lia),a0k]
end HT
namespace L2
open PySem PySem.Spec PyProof.Rows
noncomputable abbrev TO:=St->Hp->(Option Int->Hp->Prop)->Prop
noncomputable def PO(X:Cx)(e:Option Expr)(t:TO):Prop:=
 ∀(b0l:jw)(s:X7)(σ:St)(H:Hp)(Q:Option Int->Hp->Prop),Inv X b0l σ H s->t σ H Q->
  Yl (Yv X.prog X.w) X.A (evalPart e X.env) (λu b=>∃o a,Inv X b0l σ a b/\IsPart u o/\Q o a) X.xe s
noncomputable def K3:TO:=λ_ H Q=>Q b6 H
noncomputable def K4(t:TE):TO:=λσ H Q=>t σ H λx a=>∃i,x=.int i/\Q (b4 i) a
theorem xZ:∀{us},Vals (ns.map V.int) us->a1R us ns:=by
 induction ns with
 |nil=>intro us r;rw[a4q]at r;cases r;exact .nil|cons n ns a=>
  intro us r;rw[Yk]at r;cases r with
  |cons b c=>obtain⟨t,e⟩:=b;subst e;exact .cons n t (a c)
theorem K5:PO X b6 K3:=by intro a s b H Q I h;rw[evalPart_none];exact Yb ⟨b6,H,I,.none,h⟩
theorem K6(h:PE X e te):PO X (b4 e) (K4 te):=by intro a s k H Q I hw;rw[evalPart_some];refine aJ (h a s k H _ I hw) λu l ⟨x,b,c,j,d⟩=>?_;obtain⟨i,rfl,q⟩:=d;obtain⟨t,rfl⟩:=j;exact⟨b4 i,b,c,.int i t,q⟩
noncomputable def x8(X:Cx)(r:V->Option Int->Option Int->Hp->VK->Prop):Prop:=
 ∀(b0l:jw)(s:X7)(σ:St)(H:Hp)(x:V)(v b c:Value)(lo hi:Option Int)(a:Addr)(Q:VK),Inv X b0l σ H s->RelV x v->s.heap.IsSliceOf a b c .none->IsPart b lo->IsPart c hi->r x lo hi H Q->
  ∃T id,a0J (.type T) "__getitem__"=pure (b4 (.builtin id))/\s.TypeIs v T/\Yl (Yv X.prog X.w) X.A (a5V v (.ref a)) (EP X b0l σ Q) X.xe s
noncomputable def K7(r:V->Option Int->Option Int->Hp->VK->Prop)(te:TE)(tl th:TO):TE:=λσ H Q=>te σ H λx a=>tl σ a λl b=>th σ b λu c=>r x l u c Q
theorem K8{lo:Option Expr}(J:x8 X r)(B:PE X e te)(G:PO X lo tl)(L:PO X hi th):PE X (.Subscript e (.Slice lo hi b6 p2) pos) (K7 r te tl th):=by intro a s d H Q I h;refine a6s (aJ (B a s d H _ I h) λv Z ⟨x,n,p,Y,O⟩=>?_);refine wpAny_Slice (aJ (G a Z d n _ p O) λi s2 ⟨l,o,w,M,R⟩=>aJ (L a s2 d o _ w R) λj c ⟨u,k,y,N,U⟩=>?_);rw[evalPart_none];refine Yb ?_;have z:Inv X a d k {c with heap:=c.heap.push {cls:=.type "slice",data:=.fields #[i,j,.none]}}:=y.kept (t':=c.toks) λb ob q=>X6 _ q;obtain⟨T,id,A,K,E⟩:=J a {c with heap:=c.heap.push {cls:=.type "slice",data:=.fields #[i,j,.none]}} d k x v i j l u c.heap.objs.size Q z Y (a4Y ..) M N U;show Yl (Yv X.prog X.w) X.A (a4G e (.Slice lo hi b6 p2) v (.ref c.heap.objs.size)) (EP X a d Q) X.xe {c with heap:=c.heap.push {cls:=.type "slice",data:=.fields #[i,j,.none]}};exact b0e (ops:=[.ref c.heap.objs.size,v]) K A E (by with_unfolding_all rfl)
noncomputable def lO(xs:gz)(lo hi:Option Int):gz:=(xs.drop (HT.sIx xs.length 0 lo)).take (HT.sIx xs.length xs.length hi-HT.sIx xs.length 0 lo)
theorem K9 xs lo hi:(lO xs lo hi).length<=xs.length:=by unfold lO;rw[Zs,a1A];lia
noncomputable def jI(n:Nat)(i:Int):Option Nat:=if 0<=i then(if i<n then b4 i.toNat else b6)else if -(n:Int)<=i then b4 (i+n).toNat else b6
noncomputable def atI{a:Type}(xs:List a)(i:Int):Option a:=(jI xs.length i).bind λj=>xs[j]?
theorem C1(h:jI n i=b4 j):a5z i n=b4 j/\j<n/\-(n:Int)<=i/\i<n:=by
 unfold jI at h;by_cases b:0<=i
 .rw[if_pos b]at h;by_cases a:i<n
  .rw[if_pos a]at h;have e:i.toNat=j:=Ym h;exact⟨by rw[a8a b a,e],by lia,by lia,a⟩
  .rw[if_neg a]at h;cases h
 .rw[if_neg b]at h;by_cases a:-(n:Int)<=i
  .rw[if_pos a]at h;have e:(i+n).toNat=j:=Ym h;exact⟨by rw[a7m (by lia) a,e],by lia,a,by lia⟩
  .rw[if_neg a]at h;cases h
theorem x9{xs:List a}{v:a}(h:atI xs i=b4 v):∃j,a5z i xs.length=b4 j/\xs[j]?=b4 v/\j<xs.length/\-(xs.length:Int)<=i/\i<xs.length:=by
 unfold atI at h;cases e:jI xs.length i with
 |none=>rw[e]at h;cases h|some j=>rw[e]at h;obtain⟨b,c,d,k⟩:=C1 e;exact⟨j,b,h,c,d,k⟩
noncomputable def yA(b:Expr):Prop:=∀o i,a5I b b7 o i=operate [o,i] (a5V o i)
noncomputable def IxR(X:Cx)(r:R2):Prop:=
 ∀(b a:Expr)(b0l:jw)(s:X7)(σ:St)(H:Hp)(x y:V)(v u:Value)(Q:VK),Inv X b0l σ H s->RelV x v->RelV y u->r x y H Q->
  a5I a b7 v u=operate [v,u] (a5V v u)->Yl (Yv X.prog X.w) X.A (a4G b a v u) (EP X b0l σ Q) X.xe s
noncomputable def La(X:Cx)(id:String)(r:V->gz->Hp->VK->Prop):Prop:=
 ∀(b0l:jw)(s:X7)(σ:St)(H:Hp)(x:V)(xs:gz)(v:Value)(us:gw)(Q:VK),Inv X b0l σ H s->RelV x v->Vals xs us->r x xs H Q->
  Yl (Yv X.prog X.w) X.A (call (.builtin id) (v::us)) (EP X b0l σ Q) X.xe s
theorem IxR.or(h:IxR X r)(h':IxR X j):IxR X (λx y H Q=>r x y H Q\/j x y H Q):=by
 intro d c e s n H x y v u Q I k l q i;rcases q with q|q
 .exact h d c e s n H x y v u Q I k l q i
 .exact h' d c e s n H x y v u Q I k l q i
theorem Lb(k:IxR X r)(i:PE X a ta)(j:PE X b tb)(l:yA b):PE X (.Subscript a b pos) (qT r ta tb):=by intro c s w H Q I h;exact a6s (xO i j I h λv u p x y d e n o q=>k a b c p w d x y v u Q e n o q (l _ _))
noncomputable def C2(K:X2):R2:=λx y H Q=>∃p xs i v,x=.ref p/\y=.int i/\SqL K H p xs/\atI xs i=b4 v/\Q v H
noncomputable def C3(K:X2):R2:=λx y H Q=>∃p xs i v,x=.ref p/\y=.int i/\SqT K H p xs/\atI xs i=b4 v/\Q v H
noncomputable def C4:R2:=λx y H Q=>∃z i c,x=.str z/\y=.int i/\z.length<=Yi/\atI z.cps.toList i=b4 c/\Q (.str ⟨#[c]⟩) H
theorem ix_list:IxR X (C2 X.K):=by
 intro A o c s J H x y v u Q I T U h G;obtain⟨p,xs,i,z,rfl,rfl,R,N,q⟩:=h;cases T;obtain⟨t,rfl⟩:=U;obtain⟨k,r,l,hz⟩:=I.list R;obtain⟨j,d,K,Z,L,M⟩:=x9 N;obtain⟨w,B,n⟩:=r.get K;have O:=r.length;have hn:=lK;have fin:EP X c J Q w s:=⟨z,H,I,n,q⟩;by_cases E:0<=i
 .have e:i.toNat=j:=by rw[a8a E M]at d;exact Ym d
  exact item_listR l.isList E (by lia) (by rw[e];simpa using B) fin G
 .have e:(i+(k.toArray.size:Int)).toNat=j:=by rw[a7m (by lia) L]at d;rw[Ys,<- O];exact Ym d
  exact a7k (x:=w) l.isList.typeIs a5b.lookup
   (wpAny_getItem_list_neg (Q:=λr Y=>r=w/\EP X c J Q r Y) l.isList (by lia) (by rw[Ys]<;>lia) (by lia) (by rw[e];simpa using B) ⟨rfl,fin⟩) G
theorem ix_tup:IxR X (C3 X.K):=by
 intro k e c s n H x y v u Q I M N h K;obtain⟨p,xs,i,z,rfl,rfl,J,E,q⟩:=h;cases M;obtain⟨t,rfl⟩:=N;obtain⟨L,r,l,Z⟩:=I.tuple J;obtain⟨j,A,B,R,T,U⟩:=x9 E;obtain⟨w,o,d⟩:=r.get B;have G:=r.length;have Y:=lK;have fin:EP X c n Q w s:=⟨z,H,I,d,q⟩;exact a7k (x:=w) l.typeIs slot_tuple_getitem.lookup
  (getItem_tuple (j:=j) (Q:=λr O=>r=w/\EP X c n Q r O) l (by lia) (by lia) (by rw[Ys,<- G];exact A) (by simpa using o) ⟨rfl,fin⟩) K
theorem Lc:IxR X C4:=by
 intro e d l s O H x y v u Q I G J h E
 obtain ⟨z,i,c,rfl,rfl,M,A,q⟩:=h
 obtain ⟨t,rfl⟩:=G
 obtain ⟨N,rfl⟩:=J
 obtain ⟨j,k,p,K,r,w⟩:=x9 A
 have B:z.cps.toList.length=z.length:=by simp [Str.length]
 rw [B] at k r w
 have L:=lK
 exact b0e (typeIs_str s z t) slot_str_getitem.lookup (getItem_str (c:=c) (by
  have n:decide (i < -(2 ^ 63:Int))=false:=decide_eq_false (by lia)
  have o:decide (i >= 2 ^ 63)=false:=decide_eq_false (by lia)
  rw [n,o,a4f]) (by rw [k];simpa using p) ⟨.str ⟨#[c]⟩,H,I.tok _,⟨_,rfl⟩,q⟩) E
noncomputable def C5 (K:X2):R2:=fun x y H Q=>C2 K x y H Q\/C3 K x y H Q\/C4 x y H Q
theorem Ld:IxR X (C5 X.K):=ix_list.or (ix_tup.or Lc)
theorem Le(its:gw)n j u:Y7 (·.setIfInBounds j u) {cls:=.type "list",data:=.seq its.toArray n}={cls:=.type "list",data:=.seq (its.set j u).toArray n}:=by simp[Y7]
theorem Inv.lst{X:Cx}{b0l:jw}{σ:St}{H:Hp}{s:X7}{p:Addr}{xs:gz}(I:Inv X b0l σ H s)(h:H p=b4 (.lst xs)) :
  ∃(its:gw)(n:Nat),Vals xs its/\s.heap.get? p=b4 {cls:=.type "list",data:=.seq its.toArray n}/\xs.length<=Yi:=by
 obtain⟨z,its,n,r,e⟩:=I.hok p _ h;exact⟨its,n,r,e,z⟩
theorem Inv.lstUpd{σ:St}{its:gw}(I:Inv X b0l σ H s)(h:H p=b4 (.lst xs))(j:s.heap.get? p=b4 {cls:=.type "list",data:=.seq its.toArray n})(d:f {cls:=.type "list",data:=.seq its.toArray n}={cls:=.type "list",data:=.seq its'.toArray c})(r:Vals ys its')(hz:ys.length<=Yi)t:
  Inv X b0l σ (upd H p (.lst ys)) {s with heap:=s.heap.update p f,toks:=t}:=by
 have e:(s.heap.update p f).get? p=b4 {cls:=.type "list",data:=.seq its'.toArray c}:=by rw[YM f j (by rw[d]<;>rfl),d]
 refine I.write (x:=p) (e:=p) (by rw[h];trivial) (.inl rfl) (λb u i q=>(YF _ _ (YW i)).trans q) ⟨_,e⟩ ?_;exact⟨hz,its',c,r,e⟩
noncomputable def yB:V->V->V->Hp->(Hp->Prop)->Prop:=λo i v H Q=>∃p xs k j,o=.ref p/\i=.int k/\H p=b4 (.lst xs)/\jI xs.length k=b4 j/\Q (upd H p (.lst (xs.set j v)))
theorem Lf:JZ X yB:=by
 intro e s O H o i v Y U u Q I L K M h;obtain⟨p,N,k,j,rfl,rfl,E,G,q⟩:=h;cases L;obtain⟨t,rfl⟩:=K;obtain⟨c,n,r,x,J⟩:=I.lst E;obtain⟨d,R,A,B⟩:=C1 G;have w:=r.length;have T:=lK;have y:Inv X e O (upd H p (.lst (N.set j v))) {s with heap:=s.heap.update p (Y7 (·.setIfInBounds j u))}:=
  I.lstUpd E x (Le c n j u) (r.set M j) (by rw[ZD];exact J) s.toks
 by_cases z:0<=k
 .have l:k.toNat=j:=by rw[a8a z B]at d;exact Ym d
  exact PySem.W.ki_setAt x z (by lia) (by rw[Ys,<- w];exact B) (by rw[l];exact⟨_,y,q⟩)
 .have l:(k+(c.toArray.size:Int)).toNat=j:=by rw[a7m (by lia) A]at d;rw[Ys,<- w];exact Ym d
  exact PySem.W.ki_setBack x (by lia) (by rw[Ys,<- w];exact A) (by lia) (by rw[l];exact⟨_,y,q⟩)
theorem Lg lo c n:(a1h lo c b6 n).1=((HT.sIx n 0 lo:Nat):Int)/\(a1h lo c b6 n).2.1=((HT.sIx n n c:Nat):Int)/\(a1h lo c b6 n).2.2=1:=by
 refine⟨?_,?_,rfl⟩
 .cases lo with
  |none=>simp[a1h,HT.sIx]|some i=>
   simp only[a1h,HT.sIx,a3j,show(1:Int)>0 by decide,if_true];by_cases h:i<0
   .simp only[h,if_true]<;>lia
   .simp only[h,if_false]<;>lia
 .cases c with
  |none=>simp[a1h,HT.sIx]|some i=>
   simp only[a1h,HT.sIx,a3j,show(1:Int)>0 by decide,if_true];by_cases h:i<0
   .simp only[h,if_true]<;>lia
   .simp only[h,if_false]<;>lia
theorem Lh(its:gw)lo c:a6S its.toArray lo c b6=((its.drop (HT.sIx its.length 0 lo)).take (HT.sIx its.length its.length c-HT.sIx its.length 0 lo)).toArray:=by obtain⟨d,e,h⟩:=Lg lo c its.toArray.size;unfold a6S;rw[d,e,h];simp only[sliceRange_one,pick_run,Ys]<;>rfl
noncomputable def yC(K:X2):V->Option Int->Option Int->Hp->VK->Prop:=λx lo c H Q=>∃a xs,x=.ref a/\SqL K H a xs/\∀p,H p=b6->Q (.ref p) (upd H p (.lst (lO xs lo c)))
theorem Li:x8 X (yC X.K):=by intro k s G H x v B E e i A Q I y l u w h;obtain⟨a,c,rfl,n,q⟩:=h;cases y;obtain⟨p,r,j,o⟩:=I.list n;have d:=r.length;refine⟨"list",_,a5b.lookup,j.isList.typeIs,?_⟩;refine a6I j.isList l u w .none (by simp) ?_ (by rw[Ys]<;>lia);rw[Lh,<- d];refine⟨.ref s.heap.objs.size,_,I.laid (t':=s.toks) (o:=.lst (lO c e i)) (λb z q=>X6 _ q) (Yd _) ?_,rfl,q _ (I.hok.fresh (Yd _))⟩;exact⟨Y6 (K9 c e i) o,_,0,(r.drop (HT.sIx c.length 0 e)).take (HT.sIx c.length c.length i-HT.sIx c.length 0 e),Yh _ rfl⟩
theorem C6:OpR X (Zy .NotIn) (λx y H Q=>∃i j,x=.str i/\y=.str j/\Q (.bl (!(!(ZP j i 0 j.length 1).isEmpty))) H):=by intro c s l H x y v u Q I d e h;obtain⟨i,j,rfl,rfl,q⟩:=h;obtain⟨t,rfl⟩:=d;obtain⟨k,rfl⟩:=e;exact notIn_str ⟨.bl _,H,I,rfl,q⟩
theorem call_len_seq:CallR X (.builtin "len") (λxs H Q=>∃p ys,xs=[.ref p]/\(SqL X.K H p ys\/SqT X.K H p ys)/\Q (.int ys.length) H):=by
 intro k s w H xs v Q I r h;obtain⟨p,ys,rfl,d,q⟩:=h;obtain⟨u,rfl,n⟩:=fQ r;cases n;have o:=lK;rcases d with d|d
 .obtain⟨e,j,i,l⟩:=I.list d;have c:=j.length;exact Calls.call_len_list i.isList (by simp only[Ys]<;>lia) ⟨.int ys.length,H,I.tok _,⟨s.toks+1,by rw[Ys,c]⟩,q⟩
 .obtain⟨e,j,i,l⟩:=I.tuple d;have c:=j.length;exact len_tuple i (by simp only[Ys]<;>lia) ⟨.int ys.length,H,I.tok _,⟨s.toks+1,by rw[Ys,c]⟩,q⟩
theorem Lj:CallR X (.builtin "len") (λxs H Q=>∃z,xs=[.str z]/\z.length<=Yi/\Q (.int z.length) H):=by intro c s j H xs i Q I r h;obtain⟨z,rfl,e,q⟩:=h;obtain⟨u,rfl,t,rfl⟩:=fQ r;have d:=lK;exact len_str (by lia) ⟨.int z.length,H,I.tok _,⟨_,rfl⟩,q⟩
theorem CallR.or(h:CallR X f r)(h':CallR X f d):CallR X f (λxs H Q=>r xs H Q\/d xs H Q):=by
 intro c s j H xs i Q I e q;rcases q with q|q
 .exact h c s j H xs i Q I e q
 .exact h' c s j H xs i Q I e q
theorem call_list_of:CallR X (.type "list") (λxs H Q=>∃p ys,xs=[.ref p]/\(SqL X.K H p ys\/SqT X.K H p ys)/\∀l,H l=b6->Q (.ref l) (upd H l (.lst ys))):=by
 intro v s A H xs B Q I r h;obtain⟨p,ys,rfl,i,q⟩:=h;obtain⟨u,rfl,z⟩:=fQ r;cases z;have fin:∀(its:gw),Vals ys its->ys.length<=Yi->∀(h':Y5)(c':Nat),(∀b y,s.heap.get? b=b4 y->h'.get? b=b4 y)->
   h'.get? s.heap.objs.size=b4 {cls:=.type "list",dict:=b6,data:=.seq its.toArray c',slots:=#[]}->EP X v A Q (.ref s.heap.objs.size) {s with heap:=h'}:=λits c j h' c' k e=>
  ⟨.ref s.heap.objs.size,_,I.laid (t':=s.toks) k (Yd _) (show ObjOk X.prog X.w _ h' _ (.lst ys)from⟨j,its,c',c,e⟩),rfl,q _ (I.hok.fresh (Yd _))⟩
 rcases i with i|i
 .obtain⟨its,c,x,j⟩:=I.list i;have d:=c.length;obtain⟨o,w,hc,n,hd⟩:=x.isList;exact call_list_seq p (.inl rfl) w hc hd (λh' c' k e=>fin its c j h' c' k e) (by simp only[Ys]<;>lia)
 .obtain⟨its,c,x,j⟩:=I.tuple i;have d:=c.length;obtain⟨o,w,hc,n,hd⟩:=x;exact call_list_seq p (.inr rfl) w hc hd (λh' c' k e=>fin its c j h' c' k e) (by simp only[Ys]<;>lia)
theorem C7:CallR X (.type "tuple") (λxs H Q=>∃p ys,xs=[.ref p]/\((SqL X.K H p ys/\∀l,H l=b6->Q (.ref l) (upd H l (.tup ys)))\/(SqT X.K H p ys/\Q (.ref p) H))):=by
 intro d s y H xs E Q I r h;obtain⟨p,ys,rfl,h⟩:=h;obtain⟨u,rfl,B⟩:=fQ r;cases B;rcases h with⟨j,q⟩|⟨j,q⟩
 .obtain⟨c,n,k,x⟩:=I.list j;have w:=n.length;refine call_tuple_list k.isList (λi A=>?_) (by simp only[Ys]<;>lia);have v:Inv X d y H {s with heap:=i}:=I.kept (t':=s.toks) A;have z:Inv X d y (upd H i.objs.size (.tup ys)) {s with heap:=i.push {cls:=.type "tuple",data:=.seq c.toArray}}:=
   v.laid (t':=s.toks) (λb o e=>X6 _ e) (Yd _) (show ObjOk X.prog X.w _ _ _ (.tup ys)from⟨x,c,n,TupN.new _ _⟩)
  exact⟨.ref i.objs.size,_,z,rfl,q _ (v.hok.fresh (Yd _))⟩
 .obtain⟨c,n,k,x⟩:=I.tuple j;exact call_tuple_same k ⟨.ref p,H,I,rfl,q⟩
noncomputable def yD(K:X2)(T:String)(x:V)(H:Hp):Prop:=match x with
 |.str _=>T="str"|.int _=>T="int"|.ref p=>(T="list"/\∃d,SqL K H p d)\/(T="tuple"/\∃o,K.lookup p=b4 o/\o.cls=.type "tuple"/\o.dict=b6) \/
   (T="dict"/\((∃c,H p=b4 (.dK c))\/∃c,H p=b4 (.dT c)))\/(T="set"/\∃S n,H p=b4 (.set S n))
 |_=>False
theorem Lk{σ:St}(I:Inv X b0l σ H s)(r:RelV x v)(ty:yD X.K T x H):
  s.TypeIs v T/\∀a,v=.ref a->∃l,s.heap.get? a=b4 l/\l.dict=none:=by
 cases x with
 |str z=>obtain⟨t,rfl⟩:=r;cases(show T="str" from ty);exact⟨typeIs_str s z t,λ_ e=>nomatch e⟩|int i=>obtain⟨t,rfl⟩:=r;cases(show T="int" from ty);exact⟨typeIs_int s i t,λ_ e=>nomatch e⟩|ref p=>
  cases r;rcases ty with⟨rfl,y,u⟩|⟨rfl,o,d,hc,hd⟩|⟨rfl,d⟩|⟨rfl,S,n,d⟩
  .obtain⟨w,_,q,_⟩:=I.list u;refine⟨q.isList.typeIs,λa e=>?_⟩;cases e;obtain⟨o,n,e,c,hd,_⟩:=q;exact⟨o,e,hd⟩
  .refine⟨⟨o,I.kIn p o d,hc⟩,λa e=>?_⟩;cases e;exact⟨o,I.kIn _ o d,hd⟩
  .have z:∃o,s.heap.get? p=b4 o/\o.ExactDict:=by
    rcases d with⟨k,d⟩|⟨k,d⟩
    .obtain⟨_,_,_,_,o,_,_,e,h,_⟩:=I.hok p _ d;exact⟨o,e,h⟩
    .obtain⟨_,_,_,_,o,_,_,e,h,_⟩:=I.hok p _ d;exact⟨o,e,h⟩
   obtain⟨o,e,h⟩:=z;refine⟨⟨o,e,h.1⟩,λa j=>?_⟩;cases j;exact⟨o,e,h.2.1⟩
  .obtain⟨o,_,_,_,e,h,_⟩:=I.hok p _ d;refine⟨⟨o,e,h.1⟩,λa j=>?_⟩;cases j;exact⟨o,e,h.2.1⟩
 |_=>exact Y4 ty
noncomputable def C8(K:X2)(T:String)(r:V->gz->Hp->VK->Prop)(to:TE)(t:TA):TE:=λσ H Q=>to σ H λx c=>yD K T x c/\t σ c λxs d=>r x xs d Q
theorem Ll{id:String}(M:PlainAttrs T)(l:Slot T name id)(n:b0d (.builtin id)=pure (.type "method_descriptor"))(J:La X id r)(K:PE X o to)(G:PA X (e::es) t)(i:a0Y o name X.env (eval o X.env)=eval o X.env:=by rfl)(k:((a0s cpos (YJ (e::es) X.env)).all (λx=>!x.1)&&(a5d cpos (a3v [] X.env)).all (λx=>x.1.isSome)
   && decide ((e::es).length+([]:List a1C).length+(if([]:List a1C).isEmpty then 0 else 1)<30))=true:=by rfl)(j:(apos.endLine==cpos.line)=true:=by rfl)(L:YJ (e::es) X.env=(b7,eval e X.env)::YJ es X.env:=by rfl)(c:(a0s cpos (YJ es X.env)).any (·.1)=false:=by rfl):
  PE X (.Call (.Attribute o name apos) (e::es) [] cpos) (C8 X.K T r to t):=by
 intro d s p H Q I h;refine a7i i k j rfl (aJ (K d s p H _ I h) λv U ⟨x,y,q,w,ty,N⟩=>?_);obtain⟨B,E⟩:=Lk q w ty;refine⟨T,id,M,l,n,B,E,?_⟩;have u:=G cpos d U p y _ q N;rw[L]at u ⊢;refine a1a (by show(b7||(a0s cpos (YJ es X.env)).any (·.1))=b7;rw[c]<;>rfl) (a3Q ?_);exact aJ u λZ Y ⟨vs,z,A,R,O⟩=>J d Y p z x vs v Z Q A w R O
noncomputable def jJ(X:Cx)(id:String)(r:V->gz->Hp->VK->Prop):Prop:=
 ∀(b0l:jw)(s:X7)(σ:St)(H:Hp)(x:V)(xs:gz)(v:Value)(us:gw)(Q:VK),Inv X b0l σ H s->RelV x v->Vals xs us->r x xs H Q->
  Yl (Yv X.prog X.w) X.A (call (.builtin id) (v::us)) (EP X b0l σ Q) X.xe s
theorem Vals.one(h:Vals [x] us):∃u,us=[u]/\RelV x u:=by
 cases h with
 |cons r t=>cases t;exact⟨_,rfl,r⟩
theorem Vals.two(h:Vals [x,y] us):∃u v,us=[u,v]/\RelV x u/\RelV y v:=by
 cases h with
 |cons r t=>obtain⟨v,rfl,q⟩:=Vals.one t;exact⟨_,v,rfl,r,q⟩
theorem Vals.eraseIdx:∀{xs}{us}i,Vals xs us->Vals (xs.eraseIdx i) (us.eraseIdx i)
 |_,_,_,.nil=>.nil|_,_,0,.cons _ t=>t|_,_,i+1,.cons r t=>.cons r (Vals.eraseIdx i t)
theorem C9{a:Type}:∀(l:List a)i,(l.eraseIdx i).length<=l.length
 |[],_=>Yd _|_::_,0=>a1w _|_::r,i+1=>Nat.succ_le_succ (C9 r i)
theorem Inv.lset{σ:St}{its:gw}(I:Inv X b0l σ H s)(a:H l=b4 (.lst xs))(e:s.heap.get? l=b4 {cls:=.type "list",data:=.seq its.toArray n})(d:f its.toArray=its'.toArray)(i:Vals ys its')(hz:ys.length<=Yi):
  Inv X b0l σ (upd H l (.lst ys)) {s with heap:=s.heap.update l (Y7 f),toks:=t'}:=by
 have q:=PySem.IsL.update e f;rw[d]at q;refine I.write (x:=l) (e:=l) (by rw[a];exact trivial) (.inl rfl) (λj u c h=>(YF s.heap (Y7 f) (YW c)).trans h) ⟨_,q⟩ ?_;exact⟨hz,its',_,i,q⟩
theorem Inv.lnew{σ:St}(I:Inv X b0l σ H s)(a:Vals ys its)(hz:ys.length<=Yi):
  Inv X b0l σ (upd H s.heap.objs.size (.lst ys)) {s with heap:=s.heap.push {cls:=.type "list",data:=.seq its.toArray},toks:=t'}:=
 I.laid (λ_ _ q=>X6 _ q) (Yd _) ⟨hz,its,0,a,Yh _ rfl⟩
theorem Inv.fresh{σ:St}(I:Inv X b0l σ H s):H s.heap.objs.size=none:=I.hok.fresh (Yd _)
theorem Inv.lstM{σ:St}(I:Inv X b0l σ H s)(a:H l=b4 (.lst xs)):xs.length<=Yi/\∃(its:gw)(n:Nat),Vals xs its/\xs.length=its.length/\s.heap.get? l=b4 {cls:=.type "list",data:=.seq its.toArray n}:=by obtain⟨z,its,n,r,e⟩:=I.hok l _ a;exact⟨z,its,n,r,r.length,e⟩
theorem Lm(h:n<=Yi):a2A n=false:=by unfold a2A;exact decide_eq_false (by lia)
noncomputable def Dd:V->gz->Hp->VK->Prop:=λx vs H Q=>∃l xs y,x=.ref l/\vs=[y]/\H l=b4 (.lst xs)/\xs.length<Yi/\Q .non (upd H l (.lst (xs++[y])))
theorem De:jJ X "list.append" Dd:=by intro c s B H x w v p Q I j i h;obtain⟨l,A,y,rfl,rfl,b,o,q⟩:=h;cases j;obtain⟨u,rfl,d⟩:=i.one;obtain⟨z,a,n,r,k,e⟩:=I.lstM b;refine a4S F.slot_list_append ⟨_,e,rfl⟩ F.entry_list_append (F.args_list_append_2 _ _) (PySem.list_append l a.toArray n u (by rw[Ys];lia)) ⟨e,?_⟩;refine⟨.non,_,I.lset (its':=a++[u]) b e (by simp) (r.append (.cons d .nil)) ?_,rfl,q⟩;rw[Yr,a3I];lia
noncomputable def Df:V->gz->Hp->VK->Prop:=λx vs H Q=>∃l b xs a,x=.ref l/\vs=[.ref b]/\H l=b4 (.lst xs)/\H b=b4 (.lst a)/\xs.length+a.length<=Yi/\Q .non (upd H l (.lst (xs++a)))
theorem Ln:jJ X "list.extend" Df:=by
 intro k s T H x M v L Q I G E h;obtain⟨l,b,N,R,rfl,rfl,j,p,K,q⟩:=h;cases G;obtain⟨u,rfl,B⟩:=E.one;cases B;obtain⟨z,c,n,r,J,e⟩:=I.lstM j;obtain⟨O,a,y,A,w,o⟩:=I.lstM p;have i:c.toArray.size+a.toArray.size<=Yi:=by rw[Ys,Ys];lia
 have d:¬ (!c.toArray.isEmpty&&a2A (c.toArray.size+a.toArray.size))=true:=by rw[Lm i,Bool.and_false];exact Yj
 refine a4S F.slot_list_extend ⟨_,e,rfl⟩ F.entry_list_extend (F.args_list_extend_2 _ _)
  (AutoSeq1.list_extend_list_list_0 l c.toArray n b a.toArray y d (by rw[Ys];lia) (by lia)) ⟨e,o,?_⟩
 refine⟨.non,_,I.lset (its':=c++a) j e (by simp) (r.append A) ?_,rfl,q⟩;rw[Yr];lia
noncomputable def Dg:V->gz->Hp->VK->Prop:=λx vs H Q=>∃l xs i k y,x=.ref l/\vs=[.int i]/\H l=b4 (.lst xs)/\-(2^63)<=i/\i<2^63/\a5z i xs.length=b4 k/\xs[k]?=b4 y/\Q y (upd H l (.lst (xs.eraseIdx k)))
theorem Lo:jJ X "list.pop" Dg:=by
 intro d s N H x M v L Q I J G h;obtain⟨l,K,i,k,y,rfl,rfl,c,j,o,p,B,q⟩:=h;cases J;obtain⟨u,rfl,E⟩:=G.one;obtain⟨t,rfl⟩:=E;obtain⟨z,a,n,r,A,e⟩:=I.lstM c;obtain⟨w,hw,b⟩:=r.get B;refine a4S F.slot_list_pop ⟨_,e,rfl⟩ F.entry_list_pop (F.args_list_pop_2 _ _)
  (MeetsSeq.list_pop_at l a.toArray n i t k w (fitsIndex_both j o) (by rw[Ys,<- A];exact p) (by rw[<- ZG];exact hw) (by rw[Ys];lia)) ⟨e,?_⟩
 refine⟨y,_,I.lset (its':=a.eraseIdx k) c e ?_ (r.eraseIdx k) ?_,b,q⟩
 .show a.toArray.eraseIdxIfInBounds k=(a.eraseIdx k).toArray;rw[List.eraseIdxIfInBounds_toArray]
 .have:=C9 K k;lia
noncomputable def Dh:R2:=λx y H Q=>∃l b xs a,x=.ref l/\y=.ref b/\H l=b4 (.lst xs)/\H b=b4 (.lst a)/\xs.length+a.length<=Yi/\∀p,H p=b6->Q (.ref p) (upd H p (.lst (xs++a)))
theorem Lp:OpR X (a1Z .Add) Dh:=by
 intro d s N H x y v u Q I A B h;obtain⟨l,b,K,M,rfl,rfl,o,k,G,q⟩:=h;cases A;cases B;obtain⟨z,c,n,r,E,e⟩:=I.lstM o;obtain⟨L,a,J,w,p,i⟩:=I.lstM k;refine PySem.P.add_list e i ?_ (by rw[Ys,Ys];lia);have j:c.toArray++a.toArray=(c++a).toArray:=by simp
 rw[j];exact⟨.ref _,_,I.lnew (t':=s.toks) (r.append w) (by rw[Yr];lia),rfl,q _ I.fresh⟩
end L2
namespace Att
open PySem PySem.W PySem.Calls PyProof.Rows
theorem Lq:∀ns(vs:gw),WellAll P h vs (ns.map a2s)->a1R vs ns:=by
 intro ns;induction ns with
 |nil=>intro vs w;rw[a4q]at w;cases w;exact .nil|cons n ns c=>
  intro vs w;rw[Yk]at w;cases w with
  |cons a b=>cases a;exact .cons _ _ (c _ b)
theorem script_of{l:OpenLaw}(y:l.most=b4 n){e:gw}(c:l.row.toRowW.claim.pre args=b8)(s:WellAll P h e args):
  ∃a u b,e=[Ye a]/\args=[WData.list (b.map a2s)]/\h.get? a=b4 {cls:=.type "list",data:=.seq u.toArray}/\a1R u b/\b.length<=n:=by
 have p:WShape.hasAll [] args [.list .int]=true:=(pre_splitW c).1;have hc:l.pre.holds [] {args:=args}=true:=(pre_splitW c).2;obtain⟨d,r,rfl,v,w⟩:=hasAllW_cons p;obtain rfl:=hasAllW_nil w;obtain⟨G,rfl,x⟩:=hasW_list v;obtain⟨b,rfl⟩:=items_int x;have j:b.length<=n:=by
  unfold OpenLaw.pre at hc;have k:(WTm.not (.lt (.lit (.int (n:Int))) (.len (.arg 0)))).holds [] {args:=[.list (b.map .int)]}=true:=by have k:=(holds_andW hc).1;rw[y]at k;exact k
  have o:=condW_of k (w_not (w_lt w_lit (w_len_list (w_arg rfl))));rw[X3]at o;refine a8h λq=>?_;have A:(n:Int)<((b.length:Nat):Int):=by lia
  first
   |(rw[decide_eq_true A]at o;exact absurd o (by decide))|(simp at o;lia)
 cases s with
 |cons B E=>
  cases E;cases B with
  |list z i=>exact⟨_,_,b,rfl,rfl,z,Lq b _ i,j⟩
theorem post_true(l:OpenLaw)args:l.row.toRowW.claim.post args (.bool b8) args=true:=
 postW_of (r:=l.row.toRowW) (X:=(b8==b8))
  (show a9a [] (.bool b8) .bool=b8 by first|rfl|decide|simp[a9a,WShape.arms,WShape.armsAll])
  (show(WTm.eq .res (.lit (.bool b8))).value [] {args:=args,res:=b4 (.bool b8),after:=args}=b4 (.bool (b8==b8))from w_eq_bool (w_res rfl) w_lit) rfl
end Att
namespace L2
open PySem PySem.Spec PyProof.Rows
theorem Di:∀{vs:gw}{ns},a1R vs ns->Vals (ns.map V.int) vs
 |_,_,.nil=>.nil|_,_,.cons n t h=>.cons ⟨t,rfl⟩ (Di h)
noncomputable def Dj(H:Hp):Prop:=∀b,H b=b6\/∃o xs,H b=b4 (.frz o (.lst xs))
theorem law_call{K:X2}{vs:gw}(KX:K.In c.heap)(I:c.heap.Ns Y0 M)(i:c.heap.Ns a8F Z)(U:∀x:Str,x ≠ "__name__"->Z x=Z5 x)(G:c.heap.NoLimit)(hg:c.gens=#[])(O:c.heap.get? a=b4 {cls:=.type "list",data:=.seq vs.toArray})(hi:a1R vs ns)(hl:ns.length<=Yi)(hr:Room k a5c)(F:∀j,K.In j->j.Ns Y0 M->FnOk P w K M j CX k R fd [x] sp)(A:∀s u,a4v s fd ⟨[u],[]⟩ [(x,u)])(Y:∀H,Dj H->SqL K H a (ns.map V.int)->sp [.ref a] H (λv _=>v=.bl b8) λ_ _ _=>False)(T:∀H e l,CX [] H c (λ_ _ _=>False) e l->False):
  a1z (Yv P w) a5c (.call (.ref R) ⟨[.ref a],[]⟩) (λr l=>r=.ok (.ret (.bool b8))/\OldK c.heap l.heap/\l.os=c.os/\a3y l.gens) c:=by
 have rv:=Di hi;have L:=hi.length
  -- from an abstract heap in which nothing but the script may be tracked
 have y:∀H:Hp,Dj H->SqL K H a (ns.map V.int)->HOk P w H c.heap->(∀b,H b≠b6->b=a)->(H a≠b6->K.lookup a=b6)->
   a1z (Yv P w) a5c (.call (.ref R) ⟨[.ref a],[]⟩) (λr l=>r=.ok (.ret (.bool b8))/\OldK c.heap l.heap/\l.os=c.os/\a3y l.gens) c:=by
  intro H hO hS hok hA hK;have kS:∀{b:Addr}{o:Obj},c.heap.get? b=b4 o->H b=b6->(kI c.heap H).get? b=b4 o:=λe n=>Jl e n;have noA:∀{b:Addr}{o:Obj}{es:Array DictEntry}{ep:Nat},c.heap.get? b=b4 o->o.data=.dict es ep->H b=none:=λ{b o es ep} e d=>by
   cases q:H b with
   |none=>rfl|some u=>have Q:b=a:=hA b (by rw[q];simp);subst Q;rw[O]at e;cases e;have d':a3r vs.toArray _=a1D es ep:=d;cases d'
  have p:∀{b:Addr}{m:Str->Option Value},c.heap.Ns b m->(kI c.heap H).Ns b m:=λ{b m} ⟨o,es,ep,e,d,r⟩=>⟨o,es,ep,kS e (noA e d),d,r⟩;have E:K.In (kI c.heap H):=λb o e=>kS (KX b o e) (by
   cases q:H b with
   |none=>rfl|some u=>
    have Q:b=a:=hA b (by rw[q];simp);subst Q;rw[hK (by rw[q];simp)]at e;cases e)
  have hM:Mod K M (kI c.heap H):=⟨E,p I,⟨Z,p i,U⟩,let⟨mc,h1,h2⟩:=G;⟨mc,p h1,h2⟩⟩;have e0:Env0 P w K M (kI c.heap H) a5c [] c H:=⟨rfl,hM,λb o e=>Jm e,a3E (Jk _ _),trivial,λb i=>absurd (show b∈([]:List Addr)from i) (by simp),hok,.of_eq hg⟩;refine a2p ((F _ E (p I)).run a5c [] c H ⟨[.ref a],[]⟩ [.ref a] [.ref a] _ _ hr e0 (A c (.ref a)) (.cons rfl .nil) (Y H hO hS)) λr l h=>?_;cases r with
  |error e=>exact(T H e l h).elim|ok fl=>
   cases fl with
   |next=>exact Y4 h|brk=>exact Y4 h|cont=>exact Y4 h|ret u=>
    obtain⟨v,H',os,B,un,J,r',q⟩:=h;have q':v=.bl true:=q;subst q';obtain rfl:u=Z3 true:=r';refine⟨rfl,OldK.of_keep λb o e=>?_,os,B⟩;cases q:H b with
    |none=>exact un.keep b o e q (by intro z;exact absurd (show b∈([]:List Addr)from z) (by simp)) (by simp)|some u=>
     rcases hO b with z|⟨ob,xs,z⟩
     .rw[q]at z;cases z
     .have z2:=un.frzs b ob _ z;obtain⟨e1,_⟩:=hok b _ z;obtain⟨e2,_⟩:=J b _ z2;rw[e]at e1;cases e1;exact e2
 cases X:K.lookup a with
 |some o=>-- the script is one of the module's own objects
  have e:=KX a o X;rw[O]at e;cases e;refine y (λ_=>b6) (λ_=>.inl rfl) (.inr ⟨_,vs.toArray,_,X,rfl,rfl,rfl,by rw[Ys,L];exact hl,by simpa using rv⟩) (λb u z=>by have N:(b6:Option HO)=b4 u:=z;cases N) (λb z=>absurd rfl z) λz=>absurd rfl z
 |none=>
  refine y (λb=>if b=a then b4 (.frz {cls:=.type "list",data:=.seq vs.toArray} (.lst (ns.map V.int)))else b6) (λb=>?_) (.inl (.inr ⟨{cls:=.type "list",data:=.seq vs.toArray},if_pos rfl⟩)) (λb u z=>?_) (λb z=>?_) λ_=>X
  .by_cases i:b=a
   .exact .inr ⟨_,_,if_pos i⟩
   .exact .inl (if_neg i)
  .by_cases i:b=a
   .have N:=(if_pos i).symm.trans z;cases N;subst i;exact⟨O,by rw[X3];exact hl,vs,_,rv,O⟩
   .have N:=(if_neg i).symm.trans z;cases N
  .by_cases i:b=a
   .exact i
   .exact absurd (if_neg i) z
noncomputable def f9(s:Stmt):a9y:=match s with
 |.FunctionDef _ a _ _ _ _ _ _ _ _=>a|_=>{posonlyargs:=[],args:=[],vararg:=b6,kwonlyargs:=[],kw_defaults:=[],kwarg:=b6,defaults:=[]}
noncomputable def cG(s:Stmt):List Stmt:=match s with
 |.FunctionDef _ _ b _ _ _ _ _ _ _=>b|_=>[]
noncomputable def a9(s:Stmt):a0t:=match s with
 |.FunctionDef _ _ _ _ _ _ sc _ _ _=>sc|_=>{kind:=.function,names:=[],isGenerator:=b7,isCoroutine:=b7}
noncomputable abbrev dP:gP:=λ_ _ _ _ _ _=>False
noncomputable abbrev E0:XK:=λ_ _ _=>False
theorem Dk:tZ dP X E0:=λ_ _ _ _ _ _ _ h=>h.elim
structure Fun(K:X2)(x qual:Str)(st:Stmt)(f:Addr)(fd:ZU):Prop where
 ex:∃(oc:Value)(od:Option Addr)(dV kV doc pm:Value)(an:Option Addr)(cdv ct:Value)(osl:Array (Option Value)),
  fd=ZN x qual (f9 st) (cG st) (a9 st) dV kV doc pm an cdv ct/\K.lookup f=b4 ⟨oc,od,.func fd,osl⟩/\a1V K cdv qual=b8
 kp:Za K (.ref f)=b8
theorem Fun.ok{K:X2}{st:Stmt}(F:Fun K x qual st f e)(S:FnScope N ps (a9 st))(len:∀vs H Q E,sp vs H Q E->vs.length=ps.length)(b:∀a A outer s H(vs:gz)Q E,Room k (A.deeper (envOfC qual (a9 st) s.heap.objs.size f a))->sp vs H Q E->
   ∃t,PSs (dO dP P w K mg base N qual (a9 st) f a A outer s H E).nox (cG st) t/\t {nx:=λ_ i=>Q .non i,rt:=Q} (start N vs) H):FnOk P w K mg base dP (k+1) f e ps sp:=by
 obtain⟨r,u,p,kV,j,v,o,a,ct,n,rfl,lk,c⟩:=F.ex;refine xY lk c S len λA outer s H vs Q E l d=>?_;obtain⟨t,h,q⟩:=b a A outer s H vs Q E l d;exact⟨t,h.nox,q⟩
theorem Dl{K:X2}{st:Stmt}{kV:Value}(l:K.lookup f=b4 ⟨i,j,.func (ZN x qual (f9 st) (cG st) (a9 st) e kV b h an a ct),d⟩)(c:a1V K a qual=b8)(k:Za K (.ref f)=b8):Fun K x qual st f (ZN x qual (f9 st) (cG st) (a9 st) e kV b h an a ct):=⟨⟨i,j,e,kV,b,h,an,a,ct,d,rfl,l,c⟩,k⟩
theorem Lr(a:Room k A):A.units+1<ZO:=a7C (Nat.add_le_add_left (by decide:1<=64) _) a.units
theorem pv i(b:X.N[i]?=b4 x:=by rfl)(c:lG X.env.scope x:=by first|exact a5M rfl|exact a4p (a5M rfl)|exact a4p (a4p rfl))(hd:(x==("__debug__":Str))=false:=by decide)(a:(x==("__classdict__":Str))=false:=by decide):PE X (.Name x pos) (mS i):=oH b c hd a
theorem lP{A:Prop}(h:B):if b7=b8 then A else B:=by rw[if_neg Yj];exact h
theorem lQ{A:Prop}(h:A):if b8=b8 then A else B:=by rw[if_pos rfl];exact h
section
variable{κ:Type} [DecidableEq κ]
end
end L2
namespace L3
open PySem PySem.W
theorem left_cut{Yf:X7 → Q}{Ya:YL → Q}{hA hB hC hD:ZJ → Y5}(j:∀w,(fencedOpening a0r p w N).map (λs=>(s.heap,s.gens,s.drawn,s.toks))=b4 (a2l w.params,YX [],Zt,a5E))(size:∀w:YL,((a2l w.params).isNs Y0,(a2l w.params).objs.size,(a2l w.params).nsMap Y0 "__annotations__")=(b8,b,i))(pre:∀w a,topGo a0r p w b i x ⟨a2l w.params,YX [],Zt,a5E,a⟩ (topStub p)=b4 (⟨hA w.params,YX [],Zt,kA,a⟩,⟨denote a0r (.body (YD p) env),.body (YD p) env,H,[a1Y l]⟩))(z:∀w a,a4Q a0r p w b i 1 n ⟨hA w.params,YX [],Zt,kA,a⟩ (blockOf (YD p) env (.body (YD p) env) H [a1Y l])=b4 (.next,⟨hA w.params,YX [],Zt,kA,a⟩,.body (YD p) env,y))(s1:∀w a,a4Q a0r p w b i 1 o ⟨hA w.params,YX [],Zt,kA,a⟩ (a4k ((YD p).take i1) env (.body (YD p) env) y [a1Y l])=b4 (.next,⟨hB w.params,YX [],Zt,B,a⟩,.body (YD p) env,I))(s2:∀w a,a4Q a0r p w b i 1 u ⟨hB w.params,YX [],Zt,B,a⟩ (a4k (((YD p).drop i1).take i2) env (.body (YD p) env) I [a1Y l])=b4 (.next,⟨hC w.params,YX [],Zt,E,a⟩,.body (YD p) env,J))(s3:∀w a,a4Q a0r p w b i 1 v ⟨hC w.params,YX [],Zt,E,a⟩ (a4k ((((YD p).drop i1).drop i2).take i3) env (.body (YD p) env) J [a1Y l])=b4 (.next,⟨hD w.params,YX [],Zt,G,a⟩,.body (YD p) env,K))(fin:∀w a,((topRun a0r p w b i n4 ⟨hD w.params,YX [],Zt,G,a⟩ (restOf ((((YD p).drop i1).drop i2).drop i3) env (.body (YD p) env) K [a1Y l])).bind λc=>match staticsOk (a9C p.main.body) (a2l w.params) c.heap&&namesBound p c.heap&&gensDone c&&laidKept (a2l w.params) c.heap with
   |true=>b4 c
   |false=>b6).map (λs=>(openSeen q loose (a9C p.main.body) Xt A s,Yf s))=b4 (openGood q loose,Ya w))(le:Nat.ble (x+(n+(o+(u+(v+n4))))) N=b8):LeftO p q loose Xt Yf Ya N A:=λw=>by
 obtain⟨⟨h,T,d,k,a⟩,e,R⟩:=X5.mp (j w);obtain⟨rfl,rfl,rfl,rfl⟩:h=a2l w.params ∧ T=YX [] ∧ d=Zt ∧ k=a5E:=by simpa using R
 obtain⟨z1,z2,z3⟩:_ ∧ _ ∧ _:=by simpa only[Prod.mk.injEq]using size w
 obtain⟨s,Y,Z⟩:=X5.mp (fin w a);obtain⟨c,U,X⟩:=X0.mp Y;have O:=a9j (s3 w a) U;rw[a1i]at O;have M:=a9j (s2 w a) O;rw[a1i]at M;have L:=a9j (s1 w a) M;rw[a1i]at L;have r0:=go_top (pre w a) (piece_block (z w a) L);have r:=topRun_mono (N-(x+(n+(o+(u+(v+n4)))))) _ _ _ _ r0;rw[show x+(n+(o+(u+(v+n4))))+(N-(x+(n+(o+(u+(v+n4))))))=N by have:=Nat.le_of_ble_eq_true le;lia]at r;have t:topFrom a0r p w N ⟨a2l w.params,YX [],Zt,a5E,a⟩=b4 s:=by unfold topFrom;dsimp only;rw[z1,z2,z3,r];exact X
 unfold openEnds;rw[e];show(topFrom a0r p w N _).map _=_;rw[t];exact congrArg b4 Z
end L3
namespace Lw
open PySem L2
noncomputable def aH(i:Nat):Stmt:=Zr.main.body.getD i (.Pass ⟨0,0,0,0⟩)
noncomputable def fR(i j:Nat):Stmt:=match aH i with|.ClassDef _ _ _ b _ _ _ _ _ _ _=>b.getD j (.Pass ⟨0,0,0,0⟩)|_=>.Pass ⟨0,0,0,0⟩
noncomputable def Vw:Yt:={Zr with main:={Zr.main with body:=aH 1::aH 2::aH 3::aH 4::aH 5::aH 6::aH 7::aH 8::aH 9::aH 10::aH 11::aH 12::aH 13::aH 14::aH 16::aH 17::aH 18::aH 19::aH 20::aH 21::aH 22::aH 23::aH 25::aH 26::aH 27::aH 28::aH 29::aH 30::aH 31::aH 32::aH 33::aH 34::aH 35::aH 37::aH 39::aH 40::aH 41::aH 42::aH 44::aH 45::aH 46::aH 47::aH 48::aH 50::aH 51::aH 52::aH 53::aH 54::aH 55::aH 56::aH 57::aH 58::aH 59::aH 60::aH 61::aH 62::aH 63::aH 64::aH 66::aH 67::aH 68::aH 69::aH 70::aH 71::aH 72::aH 73::aH 74::[]}}
noncomputable abbrev vS(x:String)(n:Nat):Value:=a2K (Z7 x) n
noncomputable abbrev vI(i:Int):Value:=Zh i 0
noncomputable abbrev vR(a:Addr):Value:=Ye a
noncomputable abbrev vN:Value:=Y3
noncomputable abbrev cO(fs:Array Value):Obj:={cls:=Yq "code",data:=Zg fs}
noncomputable abbrev kO(x y:String)(a b c:Nat)(l n i j k:Int)(r:Addr)(q:Int)(vs:Array Value)(t d:Int)(e:Nat):Obj:={cls:=Yq "code",data:=Zg (#[vS x a,vS x b,vS y c,vI l,vI n,vI i,vI j,vI k,vR r,Z3 b8,vI q]++vs++#[vI t,vI d,vS y e])}
noncomputable abbrev tO(fs:Array Value):Obj:={cls:=Yq "tuple",data:=a3r fs}
noncomputable abbrev fO(x:Str)(n:Nat)(m:Value)(c:Addr):Obj:=⟨Yq "function",b6,.func (ZN x x (f9 (aH n)) (cG (aH n)) (a9 (aH n)) Y3 Y3 Y3 m b6 (Ye c) Y3),#[]⟩
noncomputable abbrev eO(P:ZJ)(x:String)(n:Nat)(v:Value):DictEntry:={hash:=PyData.keyHash P (Z7 x),key:=a2K (Z7 x) n,val:=v}
noncomputable abbrev eR(P:ZJ)(x:String)(n:Nat)(a:Addr):DictEntry:=eO P x n (vR a)
noncomputable abbrev kA(p:Addr×Obj)(R:X2):X2:=p::R
noncomputable def Dm:List String → Nat → List Value
 |[],_=>[]|x::xs,n=>vS x n::Dm xs (n+1)
noncomputable abbrev tN(xs:List String)(n:Nat):Obj:=tO (YX (Dm xs n))
open PySem.W in
noncomputable def lA(P:ZJ):List Obj:=((boot_o_0 P)::(boot_o_1 P)::(boot_o_2 P)::(boot_o_3 P)::(boot_o_4 P)::(boot_o_5 P)::(boot_o_6 P)::(boot_o_7 P)::(boot_o_8 P)::(boot_o_9 P)::(boot_o_10 P)::(tO #[])::({cls:=vN,data:=Zg #[]})::(cO #[vS "<module>" 182,vS "<module>" 183,vS "/claim/cut.py" 184,vI 1,vI 0,vI 0,vI 0,vI 0,vR 11,Z3 b7,vI 181,vR 12,vN,vN,vN,vN,vI 185,vI 1,vS "/claim/cut.py" 186])::({cls:=Yq "frame",slots:=#[b4 (vR 13),b4 (vR 3),b4 (vR 3),b6,b4 (vS "__main__" 164),b6,b4 (vR 0)]})::[])
open PySem.W in
noncomputable def jK(P:ZJ)(a:Nat)(c:String)(d:Nat)(b:Nat)(R:List Obj):List Obj:=(tO #[vR 24])::({cls:=Yq "builtin_function_or_method",data:=Zg #[Y9 "type.__prepare__",Yq "type"]})::({cls:=Yq "dict",data:=a1D #[eO P "__module__" a (vS "creasecourt.errors" 187),eO P "__qualname__" (a+2) (vS c (a+1)),eO P "__firstlineno__" (a+4) (Zh d (a+3)),eR P "__static_attributes__" (a+5) b] 4})::(tO #[])::({cls:=vN,data:=Zg #[]})::(cO #[vS c (a-5),vS c (a-4),vS "/claim/cut.py" (a-3),vI d,vI 0,vI 0,vI 0,vI 0,vR (b-4),Z3 b7,vI 181,vR (b-3),vN,vN,vN,vN,vI (a-2),vI d,vS "/claim/cut.py" (a-1)])::({cls:=Yq "frame",slots:=#[b4 (vR (b-2)),b4 (vR 3),b4 (vR (b-5)),b6,b4 (vS "creasecourt.errors" 187),b6,b4 (vR 0)]})::(tO #[])::({cls:=Yq "dict",data:=a1D #[eO P "__module__" a (vS "creasecourt.errors" 187),eO P "__firstlineno__" (a+4) (Zh d (a+3)),eR P "__static_attributes__" (a+5) b,eO P "__doc__" (a+6) vN] 2})::({cls:=Yq "type",data:=a6G {name:=Z7 c,bases:=[vR 24],mro:=[vR (b+2),vR 24,Yq "ValueError",Yq "Exception",Yq "BaseException",Yq "object"],ns:=(b+1),qualname:=Z7 c},slots:=#[b4 (vR (b-7)),b6,b4 (vS c (a-7)),b4 (vS c (a+1)),b4 (Y9 "ValueError.__new__"),b4 (Z3 b8)]})::({cls:=Yq "super",data:=Zg #[vR (b+2),vR (b+2),vR (b+2)]})::({cls:=Yq "builtin_function_or_method",data:=Zg #[Y9 "object.__init_subclass__",vR (b+2)]})::R
open PySem.W in
noncomputable def yE(P:ZJ)(a:Nat)(c:String)(d:Nat)(b:Nat)(i:List String)(h:String)(e:Nat)(j:List String)(R:List Obj):List Obj:=(tO #[vR 24])::({cls:=Yq "builtin_function_or_method",data:=Zg #[Y9 "type.__prepare__",Yq "type"]})::({cls:=Yq "dict",data:=a1D #[eO P "__module__" a (vS "creasecourt.errors" 187),eO P "__qualname__" (a+2) (vS c (a+1)),eO P "__firstlineno__" (a+4) (Zh d (a+3)),eR P "__init__" (a+12) b,eR P "__static_attributes__" (a+14) (b+1)] 5})::(tO #[])::({cls:=vN,data:=Zg #[vI (d+2),vI 4,vR (b-1)]})::(cO #[vS c (a-5),vS c (a-4),vS "/claim/cut.py" (a-3),vI d,vI 0,vI 0,vI 0,vI 0,vR (b-10),Z3 b7,vI 181,vR (b-9),vN,vN,vN,vN,vI (a-2),vI d,vS "/claim/cut.py" (a-1)])::({cls:=Yq "frame",slots:=#[b4 (vR (b-8)),b4 (vR 3),b4 (vR (b-11)),b6,b4 (vS "creasecourt.errors" 187),b6,b4 (vR 0)]})::(tO #[])::({cls:=vN,data:=Zg #[]})::(tN i (a+8))::(tO #[])::(⟨vN,b6,.func ({ZN "__init__" h (f9 (fR e 0)) (cG (fR e 0)) (a9 (fR e 0)) vN vN vN vN (b6) vN vN with globals:=0}),#[]⟩)::(cO #[vS "__init__" (a+5),vS h (a+6),vS "/claim/cut.py" (a+7),vI (d+2),vI 2,vI 0,vI 0,vI 3,vR (b-6),Z3 b8,vI 181,vR (b-5),vN,vR (b-4),vR (b-3),vR (b-2),vI (a+10),vI (d+2),vS "/claim/cut.py" (a+11)])::(⟨Yq "function",b6,.func (ZN "__init__" h (f9 (fR e 0)) (cG (fR e 0)) (a9 (fR e 0)) vN vN vN (vS "creasecourt.errors" 187) (b6) (vR (b-1)) vN),#[]⟩)::(tN j (a+13))::({cls:=Yq "dict",data:=a1D #[eO P "__module__" a (vS "creasecourt.errors" 187),eO P "__firstlineno__" (a+4) (Zh d (a+3)),eR P "__init__" (a+12) b,eR P "__static_attributes__" (a+14) (b+1),eO P "__doc__" (a+15) vN] 2})::({cls:=Yq "type",data:=a6G {name:=Z7 c,bases:=[vR 24],mro:=[vR (b+3),vR 24,Yq "ValueError",Yq "Exception",Yq "BaseException",Yq "object"],ns:=(b+2),qualname:=Z7 c},slots:=#[b4 (vR (b-13)),b6,b4 (vS c (a-7)),b4 (vS c (a+1)),b4 (Y9 "ValueError.__new__"),b4 (Z3 b8)]})::({cls:=Yq "super",data:=Zg #[vR (b+3),vR (b+3),vR (b+3)]})::({cls:=Yq "builtin_function_or_method",data:=Zg #[Y9 "object.__init_subclass__",vR (b+3)]})::R
open PySem.W in
noncomputable def cE(i:List String)(b:Nat)(c:String)(d:Nat)(e:Nat)(j:Nat)(a:Nat)(h:Nat)(k:String)(l:Nat)(R:List Obj):List Obj:=(tO #[])::({cls:=vN,data:=Zg #[]})::(tN i b)::(tO #[])::(⟨vN,b6,.func ({ZN c c (f9 (aH d)) (cG (aH d)) (a9 (aH d)) vN vN vN vN (b6) vN vN with globals:=0}),#[]⟩)::(kO c "/claim/cut.py" (b-3) (b-2) (b-1) e j 0 0 3 a 181 #[vR (a+1),vN,vR (a+2),vR (a+3),vR (a+4)] h e (h+1))::(fO c d (vS k l) (a+5))::R
open PySem.W in
noncomputable def fS(b:String)(c:Nat)(a:Nat)(e:Nat)(h:Nat)(d:Nat)(i:String)(j:Nat)(R:List Obj):List Obj:=(tO #[])::({cls:=vN,data:=Zg #[]})::(⟨vN,b6,.func ({ZN b b (f9 (aH c)) (cG (aH c)) (a9 (aH c)) vN vN vN vN (b6) vN vN with globals:=0}),#[]⟩)::(kO b "/claim/cut.py" a (a+1) (a+2) e h 0 0 3 d 181 #[vR (d+1),vN,vN,vN,vR (d+2)] (a+3) e (a+4))::(fO b c (vS i j) (d+3))::R
open PySem.W in
noncomputable def t7(b:Nat)(a:Nat)(c:Nat)(R:List Obj):List Obj:=(tO #[Zh b a,Zh c (a+1)])::R
open PySem.W in
noncomputable def lN(P:ZJ):List DictEntry:=[eO P "__doc__" 166 vN,eO P "__package__" 167 vN,eO P "__loader__" 168 (Y9 "__main__.__loader__#opaque"),eO P "__spec__" 169 vN,eR P "__annotations__" 170 6,eR P "__builtins__" 171 4,eO P "__file__" 173 (vS "/claim/cut.py" 172),eO P "__cached__" 174 vN,eR P "CreaseError" 206 24,eR P "NoSize" 222 37,eR P "NoMark" 238 49,eR P "NoText" 254 61,eR P "NoRound" 270 73,eR P "NoOrder" 286 85,eR P "TooMany" 302 97,eR P "NoFold" 318 109,eR P "NoRow" 334 121,eR P "NoName" 350 133,eR P "Taken" 366 145,eR P "NoEdge" 391 164,eR P "Twice" 416 183,eR P "Barred" 441 202,eR P "EIGHT_EDGES" 466 213,eR P "FOUR_EDGES" 479 218,eR P "is_whole" 486 225,eR P "is_place" 493 232,eR P "is_corner" 500 239,eR P "is_edge" 507 246,eR P "moved_by" 513 251,eR P "edges_round" 520 258,eR P "MARKS" 526 259,eR P "is_size" 533 266,eR P "check_size" 541 273,eR P "is_mark" 548 280,eR P "is_within" 557 287,eR P "places_within" 563 292,eR P "edges_in" 569 297,eR P "corners_in" 575 302,eR P "is_inner_edge" 584 309,eR P "sheet_of" 596 316,eR P "marks_in" 603 323,eR P "is_good" 611 328,eR P "creases_at" 619 333,eR P "gaps_at" 625 338,eR P "barred" 633 345,eR P "check_corners" 641 352,eR P "tie_of" 653 359,eR P "is_least" 661 366,eR P "ties_of_gap" 672 373,eR P "ties_at" 684 380,eR P "ties" 693 387,eR P "TURNED" 702 388,eR P "walked_back" 709 395,eR P "steps_from" 718 402,eR P "is_marked" 725 409,eR P "marked_creases" 731 414,eR P "last_steps" 744 421,eR P "way_by" 754 428,eR P "is_alike" 760 433,eR P "back_by" 766 438,eR P "round_by_step" 774 445,eR P "round_within" 788 452,eR P "round_of" 800 459,eR P "carried_mark" 811 466,eR P "carried" 817 471,eR P "way_to" 826 478,eR P "_law_nth" 836 485,eR P "_law_round_a" 842 490,eR P "_law_inner" 852 497,eR P "_law_barred" 858 502,eR P "_law_kinds" 864 507,eR P "_law_asked" 872 514,eR P "_law_refused" 882 521,eR P "_law_corner" 892 528,eR P "law" 898 533]
noncomputable def lM:gw:=List.flatMap (λp:Nat×Nat=>[vI p.1,vI 0,vR p.2]) [(2,20),(4,33),(6,45),(8,57),(10,69),(12,81),(14,93),(16,105),(18,117),(20,129),(22,141),(24,153),(29,172),(34,191),(42,224),(44,231),(46,238),(48,245),(52,250),(54,257),(58,265),(60,272),(63,279),(65,286),(67,291),(72,296),(74,301),(76,308),(78,315),(91,322),(94,327),(101,332),(104,337),(111,344),(116,351),(121,358),(123,365),(125,372),(131,379),(141,386),(149,394),(151,401),(157,408),(159,413),(161,420),(173,427),(180,432),(182,437),(184,444),(186,451),(197,458),(208,465),(214,470),(218,477),(224,484),(226,489),(237,496),(244,501),(251,506),(257,513),(266,520),(273,527),(280,532)]
open PySem.W in
noncomputable def lB(P:ZJ):List Obj:=(((lA P).set 3 ({cls:=Yq "dict",data:=a1D (YX (eO P "__name__" 165 (vS "creasecourt.errors" 187)::(lN P).take 18)) 19})).set 12 ({cls:=vN,data:=Zg (YX (lM.take 30))}))++((tO #[Yq "ValueError"])::(({cls:=Yq "builtin_function_or_method",data:=Zg #[Y9 "type.__prepare__",Yq "type"]})::(({cls:=Yq "dict",data:=a1D #[eO P "__module__" 196 (vS "creasecourt.errors" 187),eO P "__qualname__" 198 (vS "CreaseError" 197),eO P "__firstlineno__" 200 (Zh 2 199),eR P "__static_attributes__" 201 22] 4})::((tO #[])::(({cls:=vN,data:=Zg #[]})::((cO #[vS "CreaseError" 191,vS "CreaseError" 192,vS "/claim/cut.py" 193,vI 2,vI 0,vI 0,vI 0,vI 0,vR 18,Z3 b7,vI 181,vR 19,vN,vN,vN,vN,vI 194,vI 2,vS "/claim/cut.py" 195])::(({cls:=Yq "frame",slots:=#[b4 (vR 20),b4 (vR 3),b4 (vR 17),b6,b4 (vS "creasecourt.errors" 187),b6,b4 (vR 0)]})::((tO #[])::(({cls:=Yq "dict",data:=a1D #[eO P "__module__" 196 (vS "creasecourt.errors" 187),eO P "__firstlineno__" 200 (Zh 2 199),eR P "__static_attributes__" 201 22,eR P "__weakref__" 203 25,eO P "__doc__" 204 vN] 3})::(({cls:=Yq "type",data:=a6G {name:=Z7 "CreaseError",bases:=[Yq "ValueError"],mro:=[vR 24,Yq "ValueError",Yq "Exception",Yq "BaseException",Yq "object"],ns:=23,qualname:=Z7 "CreaseError",subclasses:=[vR 37,vR 49,vR 61,vR 73,vR 85,vR 97,vR 109,vR 121,vR 133]},slots:=#[b4 (vR 15),b6,b4 (vS "CreaseError" 189),b4 (vS "CreaseError" 197),b4 (Y9 "ValueError.__new__"),b4 (Z3 b8)]})::(({cls:=Yq "getset_descriptor",data:=Zg #[vS "__weakref__" 202,vR 24,Y9 "ExceptionGroup.__weakref__",vN]})::(({cls:=Yq "super",data:=Zg #[vR 24,vR 24,vR 24]})::(({cls:=Yq "builtin_function_or_method",data:=Zg #[Y9 "object.__init_subclass__",vR 24]})::(jK P 214 "NoSize" 4 35 (jK P 230 "NoMark" 6 47 (jK P 246 "NoText" 8 59 (jK P 262 "NoRound" 10 71 (jK P 278 "NoOrder" 12 83 (jK P 294 "TooMany" 14 95 (jK P 310 "NoFold" 16 107 (jK P 326 "NoRow" 18 119 (jK P 342 "NoName" 20 131 []))))))))))))))))))))))
open PySem.W in
noncomputable def lC(P:ZJ):List Obj:=((((lB P).set 3 ({cls:=Yq "dict",data:=a1D (YX (eO P "__name__" 165 (vS "creasecourt.carried" 694)::(lN P).take 51)) 52})).set 12 ({cls:=vN,data:=Zg (YX (lM.take 120))})).set 24 ({cls:=Yq "type",data:=a6G {name:=Z7 "CreaseError",bases:=[Yq "ValueError"],mro:=[vR 24,Yq "ValueError",Yq "Exception",Yq "BaseException",Yq "object"],ns:=23,qualname:=Z7 "CreaseError",subclasses:=[vR 37,vR 49,vR 61,vR 73,vR 85,vR 97,vR 109,vR 121,vR 133,vR 145,vR 164,vR 183,vR 202]},slots:=#[b4 (vR 15),b6,b4 (vS "CreaseError" 189),b4 (vS "CreaseError" 197),b4 (Y9 "ValueError.__new__"),b4 (Z3 b8)]}))++(jK P 358 "Taken" 22 143 (yE P 374 "NoEdge" 24 161 ["self","edge"] "NoEdge.__init__" 12 ["edge"] (yE P 399 "Twice" 29 180 ["self","edge"] "Twice.__init__" 13 ["edge"] (yE P 424 "Barred" 34 199 ["self","corner"] "Barred.__init__" 14 ["corner"] (t7 2 444 0 (t7 1 446 1 (t7 0 448 2 ((tO #[Zh (-1) 451,Zh 1 452])::((tO #[Zh (-2) 454,Zh 0 455])::((tO #[Zh (-1) 457,Zh (-1) 459])::((tO #[Zh 0 460,Zh (-2) 462])::((tO #[Zh 1 463,Zh (-1) 465])::((tO #[vR 205,vR 206,vR 207,vR 208,vR 209,vR 210,vR 211,vR 212])::(t7 1 467 1 ((tO #[Zh (-1) 470,Zh 1 471])::((tO #[Zh (-1) 473,Zh (-1) 475])::((tO #[Zh 1 476,Zh (-1) 478])::((tO #[vR 214,vR 215,vR 216,vR 217])::(cE ["value"] 483 "is_whole" 18 42 1 219 484 "creasecourt.places" 442 (cE ["value"] 490 "is_place" 19 44 1 226 491 "creasecourt.places" 442 (cE ["place"] 497 "is_corner" 20 46 1 233 498 "creasecourt.places" 442 (cE ["place"] 504 "is_edge" 21 48 1 240 505 "creasecourt.places" 442 (fS "moved_by" 22 508 52 2 247 "creasecourt.places" 442 (cE ["corner"] 517 "edges_round" 23 54 1 252 518 "creasecourt.places" 442 ((tN ["h","v","o"] 523)::(cE ["value"] 530 "is_size" 26 58 1 260 531 "creasecourt.sheets" 521 (cE ["wide","high"] 537 "check_size" 27 60 2 267 539 "creasecourt.sheets" 521 (cE ["value"] 545 "is_mark" 28 63 1 274 546 "creasecourt.sheets" 521 (cE ["wide","high","place"] 552 "is_within" 29 65 3 281 555 "creasecourt.sheets" 521 (fS "places_within" 30 558 67 2 288 "creasecourt.sheets" 521 (fS "edges_in" 31 564 72 2 293 "creasecourt.sheets" 521 (fS "corners_in" 32 570 74 2 298 "creasecourt.sheets" 521 (cE ["wide","high","value"] 579 "is_inner_edge" 33 76 3 303 582 "creasecourt.sheets" 521 (cE ["wide","high","creases","marks","crease","edge"] 588 "sheet_of" 34 78 3 310 594 "creasecourt.sheets" 521 (cE ["sheet"] 600 "marks_in" 35 91 1 317 601 "creasecourt.sheets" 521 (fS "is_good" 37 606 94 1 324 "creasecourt.wedges" 604 (fS "creases_at" 39 614 101 2 329 "creasecourt.corners" 612 (fS "gaps_at" 40 620 104 2 334 "creasecourt.corners" 612 (cE ["sheet","corner"] 629 "barred" 41 111 1 339 631 "creasecourt.corners" 612 (cE ["sheet","corner"] 637 "check_corners" 42 116 1 346 639 "creasecourt.corners" 612 (cE ["one","other","alike","corner"] 647 "tie_of" 44 121 4 353 651 "creasecourt.ties" 642 (cE ["gaps","k"] 657 "is_least" 45 123 2 360 659 "creasecourt.ties" 642 (cE ["creases","k","corner","count","told"] 665 "ties_of_gap" 46 125 3 367 670 "creasecourt.ties" 642 (cE ["sheet","corner","creases","gaps","told","k"] 676 "ties_at" 47 131 2 374 682 "creasecourt.ties" 642 (cE ["sheet","told","corner"] 688 "ties" 48 141 1 381 691 "creasecourt.ties" 642 [])))))))))))))))))))))))))))))))))))))))))))))
open PySem.W in
noncomputable def lD(P:ZJ):List Obj:=(((lC P).set 3 ({cls:=Yq "dict",data:=a1D (YX (eO P "__name__" 165 (vS "law_creasecourt_k56_barred_refused" 827)::(lN P).take 75)) 76})).set 12 ({cls:=vN,data:=Zg (YX (lM.take 189))}))++(({cls:=Yq "dict",data:=a1D #[eO P "h" 696 (vS "v" 697),eO P "v" 698 (vS "h" 699)] 2})::(cE ["step"] 706 "walked_back" 51 149 1 389 707 "creasecourt.carried" 694 (cE ["sheet","steps","tie"] 713 "steps_from" 52 151 1 396 716 "creasecourt.carried" 694 (cE ["mark"] 722 "is_marked" 53 157 1 403 723 "creasecourt.carried" 694 (fS "marked_creases" 54 726 159 1 410 "creasecourt.carried" 694 (cE ["steps","starts","reached","start","due","here","step"] 735 "last_steps" 55 161 2 415 742 "creasecourt.carried" 694 (cE ["reached","edge","way","step"] 748 "way_by" 56 173 2 422 752 "creasecourt.carried" 694 (fS "is_alike" 57 755 180 1 429 "creasecourt.carried" 694 (fS "back_by" 58 761 182 1 434 "creasecourt.carried" 694 (cE ["reached","step"] 770 "round_by_step" 59 184 2 439 772 "creasecourt.carried" 694 (cE ["steps","marks","start","reached","edge","way","step","found"] 778 "round_within" 60 186 3 446 786 "creasecourt.carried" 694 (cE ["sheet","steps","marks","seen","start","found"] 792 "round_of" 61 197 1 453 798 "creasecourt.carried" 694 (cE ["marks","reached","edge","way","first"] 804 "carried_mark" 62 208 3 460 809 "creasecourt.carried" 694 (fS "carried" 63 812 214 1 467 "creasecourt.carried" 694 (cE ["sheet","edge","reached"] 821 "way_to" 64 218 2 472 824 "creasecourt.carried" 694 (cE ["_law_script","_law_k"] 832 "_law_nth" 66 224 2 479 834 "law_creasecourt_k56_barred_refused" 827 (fS "_law_round_a" 67 837 226 2 486 "law_creasecourt_k56_barred_refused" 827 (cE ["_law_sheet","_law_found","_law_x","_law_y"] 846 "_law_inner" 68 237 1 491 850 "law_creasecourt_k56_barred_refused" 827 (fS "_law_barred" 69 853 244 1 498 "law_creasecourt_k56_barred_refused" 827 (fS "_law_kinds" 70 859 251 1 503 "law_creasecourt_k56_barred_refused" 827 (cE ["_law_road","_law_sheet"] 868 "_law_asked" 71 257 2 508 870 "law_creasecourt_k56_barred_refused" 827 (cE ["_law_road","_law_sheet","_law_told","_law_e"] 876 "_law_refused" 72 266 2 515 880 "law_creasecourt_k56_barred_refused" 827 (cE ["_law_road","_law_sheet","_law_told","_law_e"] 886 "_law_corner" 73 273 2 522 890 "law_creasecourt_k56_barred_refused" 827 (fS "law" 74 893 280 1 529 "law_creasecourt_k56_barred_refused" 827 []))))))))))))))))))))))))
noncomputable def As:List Addr:=[3,2,22,23,24,25,35,36,37,47,48,49,59,60,61,71,72,73,83,84,85,95,96,97,107,108,109,119,120,121,131,132,133,143,144,145,160,161,162,163,164,179,180,181,182,183,198,199,200,201,202,205,206,207,208,209,210,211,212,213,214,215,216,217,218,224,225,231,232,238,239,245,246,250,251,257,258,259,265,266,272,273,279,280,286,287,291,292,296,297,301,302,308,309,315,316,322,323,327,328,332,333,337,338,344,345,351,352,358,359,365,366,372,373,379,380,386,387,388,394,395,401,402,408,409,413,414,420,421,427,428,432,433,437,438,444,445,451,452,458,459,465,466,470,471,477,478,484,485,489,490,496,497,501,502,506,507,513,514,520,521,527,528,532,533]
noncomputable def Kx:ZJ → X2:=λP=>As.map λa=>(a,((lD P)[a]?).getD (tO #[]))
theorem qW:∀P,As=(Kx P).map (·.1):=λ_=>by kernel_rfl
noncomputable def vE:a2Y:={scope:=Zr.main.scope,locals:=mainNs,globals:=mainNs,cells:=[],code:=Ye 13,frame:=b4 14}
open PySem.W PyProof.Rows in
set_option maxRecDepth 100000 in
set_option maxHeartbeats 0 in
theorem Ls(w:YL)(a:a2L):topGo a0r (Zc X9).prog w 11 (b4 (Ye 6)) 12 ⟨a2l w.params,YX [],Zt,a5E,a⟩ (topStub (Zc X9).prog)=b4 (⟨⟨YX (lA w.params),{}⟩,YX [],Zt,187,a⟩,⟨denote a0r (.body (YD (Zc X9).prog) vE),(.body (YD (Zc X9).prog) vE),⟨0,0,0,0⟩,[a1Y ⟨0,0,0,0⟩]⟩):=by kernel_rfl
open PySem.W PyProof.Rows in
set_option maxRecDepth 100000 in
set_option maxHeartbeats 0 in
theorem Lu(w:YL)(a:a2L):a4Q a0r (Zc X9).prog w 11 (b4 (Ye 6)) 1 1 ⟨⟨YX (lA w.params),{}⟩,YX [],Zt,187,a⟩ (blockOf (YD (Zc X9).prog) vE (.body (YD (Zc X9).prog) vE) ⟨0,0,0,0⟩ [a1Y ⟨0,0,0,0⟩])=b4 (.next,⟨⟨YX (lA w.params),{}⟩,YX [],Zt,187,a⟩,(.body (YD (Zc X9).prog) vE),⟨0,0,0,0⟩):=by kernel_rfl
open PySem.W PyProof.Rows in
set_option maxRecDepth 100000 in
set_option maxHeartbeats 0 in
theorem Lv w a:a4Q a0r (Zc X9).prog w 11 (b4 (Ye 6)) 1 2113 ⟨⟨YX (lA w.params),{}⟩,YX [],Zt,187,a⟩ (a4k ((YD (Zc X9).prog).take 11) vE (.body (YD (Zc X9).prog) vE) ⟨0,0,0,0⟩ [a1Y ⟨0,0,0,0⟩])=b4 (.next,⟨⟨YX (lB w.params),{}⟩,YX [],Zt,351,a⟩,(.body (YD (Zc X9).prog) vE),⟨20,0,21,8⟩):=by kernel_rfl
open PySem.W PyProof.Rows in
set_option maxRecDepth 100000 in
set_option maxHeartbeats 0 in
theorem Lx w a:a4Q a0r (Zc X9).prog w 11 (b4 (Ye 6)) 1 1894 ⟨⟨YX (lB w.params),{}⟩,YX [],Zt,351,a⟩ (a4k (((YD (Zc X9).prog).drop 11).take 39) vE (.body (YD (Zc X9).prog) vE) ⟨20,0,21,8⟩ [a1Y ⟨0,0,0,0⟩])=b4 (.next,⟨⟨YX (lC w.params),{}⟩,YX [],Zt,696,a⟩,(.body (YD (Zc X9).prog) vE),⟨147,0,147,8⟩):=by kernel_rfl
open PySem.W PyProof.Rows in
set_option maxRecDepth 100000 in
set_option maxHeartbeats 0 in
theorem Ly b(w:YL)a:a4Q a0r (Zc X9).prog (w.withFollow "special-get-raises" b) 11 (b4 (Ye 6)) 1 734 ⟨⟨YX (lC (w.withFollow "special-get-raises" b).params),{}⟩,YX [],Zt,696,a⟩ (a4k ((((YD (Zc X9).prog).drop 11).drop 39).take 25) vE (.body (YD (Zc X9).prog) vE) ⟨147,0,147,8⟩ [a1Y ⟨0,0,0,0⟩])=b4 (.next,⟨⟨YX (lD (w.withFollow "special-get-raises" b).params),{}⟩,YX [],Zt,899,a⟩,(.body (YD (Zc X9).prog) vE),⟨280,0,295,15⟩):=by cases b<;>kernel_rfl
open PySem.W PyProof.Rows in
set_option maxRecDepth 100000 in
set_option maxHeartbeats 0 in
theorem Lz w a:a4Q a0r (Zc X9).prog w 11 (b4 (Ye 6)) 1 734 ⟨⟨YX (lC w.params),{}⟩,YX [],Zt,696,a⟩ (a4k ((((YD (Zc X9).prog).drop 11).drop 39).take 25) vE (.body (YD (Zc X9).prog) vE) ⟨147,0,147,8⟩ [a1Y ⟨0,0,0,0⟩])=b4 (.next,⟨⟨YX (lD w.params),{}⟩,YX [],Zt,899,a⟩,(.body (YD (Zc X9).prog) vE),⟨280,0,295,15⟩):=by have h:=Ly (w.params.followText "special-get-raises") w a;rw[World.withFollow_self]at h;exact h
open PySem.W PyProof.Rows in
set_option maxRecDepth 100000 in
set_option maxHeartbeats 0 in
theorem run:LeftO (Zc X9).prog Vw ["TURNED"] (λs=>xlAt Vw [] s&&recOk (a9d (a7B (Zc X9))) s) (Hook.obs (b0j Kx As qW)) (Hook.val (b0j Kx As qW)) 9602:=
 L3.left_cut (hA:=λP=>⟨YX (lA P),{}⟩) (hB:=λP=>⟨YX (lB P),{}⟩) (hC:=λP=>⟨YX (lC P),{}⟩) (hD:=λP=>⟨YX (lD P),{}⟩) (n4:=201) (i1:=11) (i2:=39) (i3:=25) (env:=vE) (boot_open (by kernel_rfl) (by kernel_rfl) (λ_=>by kernel_rfl)) (λw=>by kernel_rfl) Ls Lu Lv Lx Lz (λw a=>by kernel_rfl) (by kernel_rfl)
end Lw
set_option maxHeartbeats 4000000
namespace L3
open PySem
open PySem.SetTable (Probe Met Slot bits runEnd leap turns insertAt sizeAbove)
namespace Tb
noncomputable def LA(m:Nat)(p:Probe):Probe:=
 if p.more>0 then{p with j:=p.j+1,more:=p.more-1}else
 {p with j:=(leap m p.i p.perturb).1,more:=runEnd m (leap m p.i p.perturb).1-(leap m p.i p.perturb).1,i:=(leap m p.i p.perturb).1,perturb:=(leap m p.i p.perturb).2}
noncomputable def LB(m:Nat)(b:Nat):Probe:={j:=b%(m+1),more:=runEnd m (b%(m+1))-b%(m+1),i:=b%(m+1),perturb:=b,dummy:=b6}
noncomputable def yF(m b:Nat):Nat->Probe
 |0=>LB m b|k+1=>LA m (yF m b k)
noncomputable def hd(m i q:Nat):Probe:={j:=i,more:=runEnd m i-i,i:=i,perturb:=q,dummy:=b6}
noncomputable def nx(m i:Nat):Nat:=(i*5+1)%(m+1)
noncomputable def Dn(m:Nat):Nat->Nat->Nat
 |0,i=>i|n+1,i=>Dn m n (nx m i)
noncomputable def iF(m:Nat):Nat->Nat->Nat->Nat
 |0,_,acc=>acc|f+1,i,acc=>iF m f (nx m i) (acc ||| (1 <<< i))
noncomputable def LC(m:Nat):Bool:=iF m (m+1) 0 0==2^(m+1)-1&&Dn m (m+1) 0==0
noncomputable def Dp(m:Nat)(S:List Nat)(b j:Nat):Prop:=∃k,(yF m b k).j=j/\∀k',k'<k->(yF m b k').j∈S
noncomputable abbrev t8:=Nat×Int×Value
structure Ok(t:a8d)(R:List t8):Prop where
 place:t.place.toList=R.map (·.1)
 dum:t.dummies=#[]
 rise:(R.map (·.1)).Pairwise (·<·)
 le:∀r∈R,r.1<=t.mask
 cov:LC t.mask=b8
 odd:t.mask%2=1
 room:R.length<=t.mask
 road:∀r∈R,Dp t.mask (R.map (·.1)) (bits r.2.1) r.1
theorem Ok.size(o:Ok t R):t.place.size=R.length:=by have:=congrArg Zf o.place;simpa using this
theorem Ok.getD(o:Ok t R)(a:i<R.length):t.place.getD i 0=(R[i]).1:=by
 have h:t.place.toList[i]?=(R.map (·.1))[i]?:=by rw[o.place]
 have b:i<t.place.size:=by rw[o.size];exact a
 simp[a,b]at h;simp[a5o,b,h]
noncomputable def lv(m:Nat)(a:Array (Option Nat)):List (Nat×Nat):=(YR (m+1)).filterMap λj=>(a.getD j b6).map (j,·)
structure Ow(m:Nat)(ds:List Int)(ow:Array (Option Nat)):Prop where
 size:ow.size=m+1
 lt:∀j i,ow.getD j b6=b4 i->i<ds.length
 all:∀i,i<ds.length->∃j,ow.getD j b6=b4 i
 inj:∀j j' i,ow.getD j b6=b4 i->ow.getD j' b6=b4 i->j=j'
 road:∀j i,ow.getD j b6=b4 i->Dp m ((lv m ow).map (·.1)) (bits (ds.getD i 0)) j
theorem Ow.nil m:Ow m [] (a4V (m+1) b6):=by
 have e:∀j,(a4V (m+1) (b6:Option Nat)).getD j b6=none:=λj=>by simp[a5o]
 have a:∀{P:Prop}(j i:Nat),(a4V (m+1) (b6:Option Nat)).getD j b6=b4 i->P:=λj i h=>by rw[e]at h;exact nomatch h
 exact⟨by simp,λj i h=>a j i h,λi h=>absurd h (a5j _),λj b i h _=>a j i h,λj i h=>a j i h⟩
end Tb
end L3
namespace L3
open PySem
open PySem.SetTable (Probe Met Slot bits runEnd leap turns insertAt sizeAbove)
namespace Tb
section
variable{prog:Yt}{w:YL}{K:Type} [DecidableEq K] {knd:KeyKind prog w K}{A:YI}{E:Value->X7->Prop}{s:X7}
theorem fits_of{es:Array (Int×Value)}(o:Ok t R)(c:es.toList=R.map (·.2)):t.fits es.size=true:=by
 have a:es.size=R.length:=by simpa using congrArg Zf c
 have b:=o.room;unfold SetTable.fits SetTable.fill;rw[o.size,a,o.dum];simp;exact b
end
noncomputable abbrev El:=List Int×Addr
noncomputable def hashT(k:List Int):Int:=reduceHash (a9v (k.map hashInt))
noncomputable def LD(p:El):Int×Value:=(hashT p.1,Ye p.2)
noncomputable def LF(m:Nat):Prop:=m=7\/m=31\/m=127\/m=511
noncomputable def Dq(w:YL):Bool:=w.params.followText "set-order"
noncomputable def Dr(a:Bool)(L:List El)(o:Obj):Prop:=∃es ep t R,o.ExactSet/\o.data=.set es ep t/\es.toList=R.map (·.2)/\Ok t R/\es.toList.Perm (L.map LD)/\(L.map (·.1)).Nodup/\LF t.mask/\L.length*5<t.mask*3/\t.plain=b8/\t.led=a
noncomputable def SObj(L:List El)(o:Obj):Prop:=∃a,Dr a L o
noncomputable def Cy(prog:Yt)(w:YL)(h:Y5)(a:Addr)(L:List El):Prop:=∃o,h.get? a=b4 o/\Dr (!Dq w) L o/\∀p∈L,IsTupleKey (a0P prog w) h p.1 p.2
end Tb
end L3
namespace L3
open PySem
namespace Tb
section
variable{prog:Yt}{w:YL}{A:YI}{E:Value->X7->Prop}{s:X7}
structure SAt(w:YL)(h:Y5)(a:Addr)(es:Array (Int×Value))(ep:Nat)(t:a8d)(R:List t8):Prop where
 at_:∃o,h.get? a=b4 o/\o.cls=.type "set"/\o.data=.set es ep t
 he:es.toList=R.map (·.2)
 ok:Ok t R
 pl:t.plain=b8
 led:t.led=!Dq w
end
end Tb
end L3
namespace L3
open PySem L2
inductive D where
 |non|bl (b:Bool)|int (i:Int)|str (x:Str)|tup (xs:List D)|rol (xs:List D)|loc (a:Nat)|ty (n:String)
 deriving Inhabited
inductive C where
 |lst (xs:List D)
 |dK (kvs:List (aU×D))
 |st (ks:List (List Int))
 |dT (kvs:List (List Int×D))
 |dF (kvs:List (List Int×D))
 |exc (x:Str)(ns:List Str)(ds:List D)
 deriving Inhabited
noncomputable abbrev Hm:=List C
noncomputable abbrev aE:=List (Option D)
noncomputable abbrev ME:=aE->Hm->Option (D×Hm)
noncomputable abbrev MT:=aE->Hm->Option (Bool×Hm)
noncomputable abbrev MA:=aE->Hm->Option (List D×Hm)
abbrev jk:=Option (D×Hm)
abbrev jx:=List (List Int×D)
abbrev jz:=D×Hm->Prop
inductive Fl where
 |nx|rt (d:D)|bk|ct
noncomputable abbrev MS:=aE->Hm->Option (Fl×aE×Hm)
noncomputable abbrev MF:=List D->Hm->jk
noncomputable def RoL(K:X2)(H:Hp)(p:Addr)(xs:gz):Prop:=
 (∃o,H p=b4 (.frz o (.lst xs))) \/
  ∃(o:Obj)(its:Array Value)(n:Nat),K.lookup p=b4 o/\o.cls=.type "list"/\o.dict=b6/\o.data=.seq its n/\its.size<=Yi/\Vals xs its.toList
theorem RoL.sq(h:RoL K H p xs):SqL K H p xs:=by
 rcases h with⟨o,h⟩|h
 .exact .inl (.inr ⟨o,h⟩)
 .exact .inr h
mutual
inductive IsD (K:X2)(π:Nat->Addr)(n:Nat)(H:Hp):V->D->Prop where
 |non:IsD K π n H .non .non
 |bl (b:Bool):IsD K π n H (.bl b) (.bl b)
 |int (i:Int):IsD K π n H (.int i) (.int i)
 |str (x:Str):IsD K π n H (.str x) (.str x)
 |tup {p:Addr}{vs:gz}{ds:List D}(h:SqT K H p vs)(t:IsDs K π n H vs ds):IsD K π n H (.ref p) (.tup ds)
 |rol {p:Addr}{vs:gz}{ds:List D}(h:RoL K H p vs)(t:IsDs K π n H vs ds):IsD K π n H (.ref p) (.rol ds)
 |loc {a:Nat}(h:a<n):IsD K π n H (.ref (π a)) (.loc a)
 |ty (x:String):IsD K π n H (.ty x) (.ty x)
inductive IsDs (K:X2)(π:Nat->Addr)(n:Nat)(H:Hp):gz->List D->Prop where
 |nil:IsDs K π n H [] []
 |cons {v:V}{d:D}{vs:gz}{ds:List D}(h:IsD K π n H v d)(t:IsDs K π n H vs ds):IsDs K π n H (v::vs) (d::ds)
end
structure Ext(π:Nat->Addr)(n:Nat)(H:Hp)(π':Nat->Addr)(n':Nat)(H':Hp):Prop where
 le:n<=n'
 pi:∀a,a<n->π' a=π a
 tup:∀p vs,H p=b4 (.tup vs)->H' p=b4 (.tup vs)
 frz:∀p o u,H p=b4 (.frz o u)->H' p=b4 (.frz o u)
structure Ext0(π:Nat->Addr)(n:Nat)(H:Hp)(π':Nat->Addr)(n':Nat)(H':Hp):Prop where
 le:n<=n'
 pi:∀a,a<n->π' a=π a
 tup:∀p vs,H p=b4 (.tup vs)->H' p=b4 (.tup vs)
 frz:∀p o u,(∀φ,u≠HO.ext φ)->H p=b4 (.frz o u)->H' p=b4 (.frz o u)
section
variable{K:X2}{π π' π2:Nat->Addr}{n n' n2:Nat}{H H' H2:Hp}
theorem Ext.weak(e:Ext π n H π' n' H'):Ext0 π n H π' n' H':=⟨e.le,e.pi,e.tup,λp o u _ h=>e.frz p o u h⟩
theorem Ext.refl:Ext π n H π n H:=⟨Yd _,λ_ _=>rfl,λ_ _ h=>h,λ_ _ _ h=>h⟩
theorem Ext.trans(a:Ext π n H π' n' H')(b:Ext π' n' H' π2 n2 H2):Ext π n H π2 n2 H2:=
 ⟨Y6 a.le b.le,λi h=>(b.pi i (YE h a.le)).trans (a.pi i h),λp c h=>b.tup p c (a.tup p c h),λp o u h=>b.frz p o u (a.frz p o u h)⟩
theorem Ext0.sqT(e:Ext0 π n H π' n' H')(h:SqT K H p vs):SqT K H' p vs:=by
 rcases h with h|h
 .rcases h with h|⟨o,h⟩
  .exact .inl (.inl (e.tup _ _ h))
  .exact .inl (.inr ⟨o,e.frz _ _ _ (λ_ z=>nomatch z) h⟩)
 .exact .inr h
theorem Ext.sqT(e:Ext π n H π' n' H')(h:SqT K H p vs):SqT K H' p vs:=e.weak.sqT h
theorem Ext0.roL(e:Ext0 π n H π' n' H')(h:RoL K H p vs):RoL K H' p vs:=by
 rcases h with⟨o,h⟩|h
 .exact .inl ⟨o,e.frz _ _ _ (λ_ z=>nomatch z) h⟩
 .exact .inr h
theorem Ext.roL(e:Ext π n H π' n' H')(h:RoL K H p vs):RoL K H' p vs:=e.weak.roL h
mutual
theorem IsD.mono0{v:V}{d:D}(e:Ext0 π n H π' n' H'):IsD K π n H v d->IsD K π' n' H' v d
 |.non=>.non|.bl b=>.bl b|.int i=>.int i|.str x=>.str x|.ty x=>.ty x|.tup h t=>.tup (e.sqT h) (IsDs.mono0 e t)|.rol h t=>.rol (e.roL h) (IsDs.mono0 e t)|.loc h=>by rw[<- e.pi _ h];exact .loc (YE h e.le)
theorem IsDs.mono0{vs:gz}{ds:List D}(e:Ext0 π n H π' n' H'):IsDs K π n H vs ds->IsDs K π' n' H' vs ds
 |.nil=>.nil|.cons h t=>.cons (IsD.mono0 e h) (IsDs.mono0 e t)
end
theorem IsD.mono(e:Ext π n H π' n' H')(h:IsD K π n H v d):IsD K π' n' H' v d:=h.mono0 e.weak
theorem IsDs.mono(e:Ext π n H π' n' H')(h:IsDs K π n H vs ds):IsDs K π' n' H' vs ds:=h.mono0 e.weak
theorem IsDs.length(h:IsDs K π n H vs ds):vs.length=ds.length:=by
 induction ds generalizing vs with
 |nil=>cases h;rfl|cons d ds a=>
  cases h with
  |cons h t=>rw[YB,YB,a t]
theorem IsDs.get(h:IsDs K π n H vs ds){i:Nat}(e:ds[i]?=b4 d):∃v,vs[i]?=b4 v/\IsD K π n H v d:=by
 induction ds generalizing vs i with
 |nil=>simp at e|cons j ds c=>
  cases h with
  |cons h t=>
   cases i with
   |zero=>simp at e;subst e;exact⟨_,rfl,h⟩|succ i=>obtain⟨v,a,b⟩:=c t (by simpa using e);exact⟨v,by simpa using a,b⟩
theorem IsDs.append(h:IsDs K π n H vs ds)(a:IsDs K π n H ws es):IsDs K π n H (vs++ws) (ds++es):=by
 induction ds generalizing vs with
 |nil=>cases h;exact a|cons d ds b=>
  cases h with
  |cons h t=>exact .cons h (b t)
theorem IsDs.drop(h:IsDs K π n H vs ds)k:IsDs K π n H (vs.drop k) (ds.drop k):=by
 induction ds generalizing vs k with
 |nil=>cases h;simpa using IsDs.nil|cons d ds a=>
  cases h with
  |cons h t=>
   cases k with
   |zero=>exact .cons h t|succ k=>exact a t k
theorem IsDs.take(h:IsDs K π n H vs ds)k:IsDs K π n H (vs.take k) (ds.take k):=by
 induction ds generalizing vs k with
 |nil=>cases h;simpa using IsDs.nil|cons d ds a=>
  cases h with
  |cons h t=>
   cases k with
   |zero=>exact .nil|succ k=>exact .cons h (a t k)
theorem IsDs.atI(h:IsDs K π n H vs ds)(e:L2.atI ds i=b4 d):∃v,L2.atI vs i=b4 v/\IsD K π n H v d:=by
 unfold L2.atI at e ⊢;rw[h.length];cases q:jI ds.length i with
 |none=>rw[q]at e;cases e|some j=>rw[q]at e;exact h.get e
end
noncomputable def t9(p:Addr)(L:List Tb.El):HO:=.ext λh=>∃o,h.get? p=b4 o/\Tb.SObj L o
noncomputable def uA(p:List Int×Addr×V)(w:Value):DictEntry:=⟨Tb.hashT p.1,.ref p.2.1,w⟩
noncomputable def aM(a:Addr)(ps:List (List Int×Addr×V)):HO:=.ext λh=>∃ws:gw,Vals (ps.map (·.2.2)) ws/\(a==ZA)=b7/\ps.length<=Yi /\
 ∃o b c,h.get? a=b4 o/\o.ExactDict/\o.data=.dict b c/\b.toList=a3w uA ps ws/\(ps.map (·.1)).Nodup
noncomputable def ExcIs(K:X2)(π:Nat->Addr)(n:Nat)(H:Hp)(b:Obj)(x:Str)(ns:List Str)(ds:List D):Prop:=
 Zn K Y0 x=b4 (b4 b.cls)/\(∃a,b.data=.fields a) /\
  (ns=[]/\ds=[]/\b.dict=b6\/∃c d a,b.dict=b4 c/\H c=b4 (.frz d (.xd a))/\a.map (·.1)=ns/\IsDs K π n H (a.map (·.2)) ds)
theorem ExcIs.mono0(e:Ext0 π n H a c H')(h:ExcIs K π n H d x ns ds):ExcIs K a c H' d x ns ds:=by
 obtain⟨p,q,b⟩:=h;refine⟨p,q,?_⟩;rcases b with b|⟨i,r,s,j,k,l,o⟩
 .exact .inl b
 .exact .inr ⟨i,r,s,j,e.frz _ _ _ (λ_ z=>nomatch z) k,l,o.mono0 e⟩
theorem ExcIs.mono(e:Ext π n H a b H')(h:ExcIs K π n H c x ns ds):ExcIs K a b H' c x ns ds:=h.mono0 e.weak
structure Rp(K:X2)(π:Nat->Addr)(H:Hp)(μ:Hm):Prop where
 inj:∀a b,a<μ.length->b<μ.length->π a=π b->a=b
 has:∀a,a<μ.length->(H (π a)).isSome=b8
 lst:∀a xs,μ[a]?=b4 (.lst xs)->∃vs,H (π a)=b4 (.lst vs)/\IsDs K π μ.length H vs xs
 dK:∀a kvs,μ[a]?=b4 (.dK kvs)->∃vs,H (π a)=b4 (.dK vs)/\vs.map (·.1)=kvs.map (·.1)/\IsDs K π μ.length H (vs.map (·.2)) (kvs.map (·.2))
 st:∀a ks,μ[a]?=b4 (.st ks)->∃L:List Tb.El,H (π a)=b4 (t9 (π a) L)/\L.map (·.1)=ks/\IsDs K π μ.length H (L.map λp=>V.ref p.2) (ks.map λk=>D.tup (k.map D.int))
 dT:∀a kvs,μ[a]?=b4 (.dT kvs)->∃ps:List (List Int×Addr×V),H (π a)=b4 (aM (π a) ps)/\ps.map (·.1)=kvs.map (·.1)/\IsDs K π μ.length H (ps.map λp=>V.ref p.2.1) (kvs.map λk=>D.tup (k.1.map D.int))/\IsDs K π μ.length H (ps.map (·.2.2)) (kvs.map (·.2))
 dF:∀a kvs,μ[a]?=b4 (.dF kvs)->∃(ob:Obj)(ps:List (List Int×Addr×V)),H (π a)=b4 (.frz ob (aM (π a) ps))/\ps.map (·.1)=kvs.map (·.1)/\IsDs K π μ.length H (ps.map λp=>V.ref p.2.1) (kvs.map λk=>D.tup (k.1.map D.int))/\IsDs K π μ.length H (ps.map (·.2.2)) (kvs.map (·.2))
 exc:∀a x ns ds,μ[a]?=b4 (.exc x ns ds)->∃(ob:Obj)(φ:Y5->Prop),H (π a)=b4 (.frz ob (.ext φ))/\ExcIs K π μ.length H ob x ns ds
structure En(K:X2)(π:Nat->Addr)(n:Nat)(H:Hp)(σ:St)(ρ:aE):Prop where
 len:σ.length=ρ.length
 get:∀(i:Nat)(d:D),ρ[i]?=b4 (b4 d)->∃v,σ[i]?=b4 (b4 v)/\IsD K π n H v d
theorem En.mono(E:En K π n H σ ρ)(e:Ext π n H π' n' H'):En K π' n' H' σ ρ:=
 ⟨E.len,λi d h=>let⟨v,a,b⟩:=E.get i d h;⟨v,a,b.mono e⟩⟩
theorem En.set(E:En K π n H σ ρ)(h:IsD K π n H v d)i:En K π n H (σ.set i (b4 v)) (ρ.set i (b4 d)):=by
 refine⟨by rw[ZD,ZD];exact E.len,λj c e=>?_⟩;rw[a7E]at e ⊢;by_cases a:i=j
 .subst a;rw[if_pos rfl]at e ⊢;rw[E.len];by_cases b:i<ρ.length
  .rw[if_pos b]at e ⊢;cases e;exact⟨v,rfl,h⟩
  .rw[if_neg b]at e;cases e
 .rw[if_neg a]at e ⊢;exact E.get j c e
theorem Rp.ne(R:Rp K π H μ)(h:H p=b6)(b:a<μ.length):π a≠p:=λe=>by have:=R.has a b;rw[e,h]at this;cases this
theorem Rp.fresh(R:Rp K π H μ)(h:H p=b6):Ext π μ.length H π μ.length (upd H p o)/\Rp K π (upd H p o) μ:=by
 have c:∀b u,H b=b4 u->upd H p o b=b4 u:=λb u e=>by rw[aN (iD e h)];exact e
 have e:Ext π μ.length H π μ.length (upd H p o):=⟨Yd _,λ_ _=>rfl,λq l e=>c q _ e,λq o u e=>c q _ e⟩;refine⟨e,R.inj,λa d=>?_,λa z d=>?_,λa k d=>?_,λa w d=>?_
  ,λa k d=>?_
  ,λa k d=>?_
  ,λa x y ds d=>?_
  ⟩
 .rw[aN (R.ne h d)];exact R.has a d
 .obtain⟨l,i,j⟩:=R.lst a z d;exact⟨l,c _ _ i,j.mono e⟩
 .obtain⟨l,i,j,r⟩:=R.dK a k d;exact⟨l,c _ _ i,j,r.mono e⟩
 .obtain⟨l,i,j,r⟩:=R.st a w d;exact⟨l,c _ _ i,j,r.mono e⟩
 .obtain⟨l,i,j,r,s⟩:=R.dT a k d;exact⟨l,c _ _ i,j,r.mono e,s.mono e⟩
 .obtain⟨v,l,i,j,r,s⟩:=R.dF a k d;exact⟨v,l,c _ _ i,j,r.mono e,s.mono e⟩
 .obtain⟨v,A,i,j⟩:=R.exc a x y ds d;exact⟨v,A,c _ _ i,j.mono e⟩
noncomputable def oM(K:X2)(π:Nat->Addr)(n:Nat)(H:Hp)(p:Addr):C->HO->Prop
 |.lst xs,.lst vs=>IsDs K π n H vs xs|.dK kvs,.dK vs=>vs.map (·.1)=kvs.map (·.1)/\IsDs K π n H (vs.map (·.2)) (kvs.map (·.2))|.st ks,o=>∃L:List Tb.El,o=t9 p L/\L.map (·.1)=ks/\IsDs K π n H (L.map λp=>V.ref p.2) (ks.map λk=>D.tup (k.map D.int))|.dT kvs,o=>∃ps:List (List Int×Addr×V),o=aM p ps/\ps.map (·.1)=kvs.map (·.1)/\IsDs K π n H (ps.map λp=>V.ref p.2.1) (kvs.map λk=>D.tup (k.1.map D.int))/\IsDs K π n H (ps.map (·.2.2)) (kvs.map (·.2))|.dF kvs,o=>∃(a:Obj)(ps:List (List Int×Addr×V)),o=.frz a (aM p ps)/\ps.map (·.1)=kvs.map (·.1)/\IsDs K π n H (ps.map λp=>V.ref p.2.1) (kvs.map λk=>D.tup (k.1.map D.int))/\IsDs K π n H (ps.map (·.2.2)) (kvs.map (·.2))|.exc x ns ds,o=>∃(a:Obj)(b:Y5->Prop),o=.frz a (.ext b)/\ExcIs K π n H a x ns ds|_,_=>False
noncomputable def iG(π:Nat->Addr)(n:Nat)(p:Addr):Nat->Addr:=λa=>if a=n then p else π a
theorem Rp.alloc(R:Rp K π H μ)(h:H p=b6)(hc:oM K π μ.length H p c o):
  Ext π μ.length H (iG π μ.length p) (μ++[c]).length (upd H p o)/\Rp K (iG π μ.length p) (upd H p o) (μ++[c])/\iG π μ.length p μ.length=p:=by
 have J:(μ++[c]).length=μ.length+1:=by simp
 have i:∀b u,H b=b4 u->upd H p o b=b4 u:=λb u e=>by rw[aN (iD e h)];exact e
 have A:iG π μ.length p μ.length=p:=if_pos rfl;have w:∀a,a<μ.length->iG π μ.length p a=π a:=λa d=>if_neg (Yn d);have e:Ext π μ.length H (iG π μ.length p) (μ++[c]).length (upd H p o):=⟨by rw[J];exact a1w _,w,λq s e=>i q _ e,λq o u e=>i q _ e⟩;have split:∀a,a<(μ++[c]).length->a<μ.length\/a=μ.length:=λa d=>by rw[J]at d;lia
 have get:∀a,a<μ.length->(μ++[c])[a]?=μ[a]?:=λa d=>Y8 d;have k:(μ++[c])[μ.length]?=b4 c:=by simp
 refine⟨e,⟨λa b d G q=>?_,λa d=>?_,λa O d=>?_,λa z d=>?_,λa M d=>?_
  ,λa z d=>?_
  ,λa z d=>?_
  ,λa x N ds d=>?_
  ⟩,A⟩
 .rcases split a d with d|rfl<;>rcases split b G with G|rfl
  .rw[w a d,w b G]at q;exact R.inj a b d G q
  .rw[w a d,A]at q;exact absurd q (R.ne h d)
  .rw[A,w b G]at q;exact absurd q.symm (R.ne h G)
  .rfl
 .rcases split a d with d|rfl
  .rw[w a d,aN (R.ne h d)];exact R.has a d
  .rw[A,bN];rfl
 .have j:a<(μ++[c]).length:=(X8.mp d).1;rcases split a j with r|rfl
  .rw[get a r]at d;obtain⟨s,y,l⟩:=R.lst a O d;rw[w a r];exact⟨s,i _ _ y,l.mono e⟩
  .rw[k]at d;cases d;cases o with
   |lst s=>rw[A];exact⟨s,bN,IsDs.mono e hc⟩|_=>exact Y4 hc
 .have j:a<(μ++[c]).length:=(X8.mp d).1;rcases split a j with r|rfl
  .rw[get a r]at d;obtain⟨s,y,l,v⟩:=R.dK a z d;rw[w a r];exact⟨s,i _ _ y,l,v.mono e⟩
  .rw[k]at d;cases d;cases o with
   |dK s=>rw[A];exact⟨s,bN,hc.1,IsDs.mono e hc.2⟩|_=>exact Y4 hc
 .have j:a<(μ++[c]).length:=(X8.mp d).1;rcases split a j with r|rfl
  .rw[get a r]at d;obtain⟨s,y,l,v⟩:=R.st a M d;rw[w a r];exact⟨s,i _ _ y,l,v.mono e⟩
  .rw[k]at d;cases d;obtain⟨L,rfl,l,v⟩:=hc;rw[A];exact⟨L,bN,l,v.mono e⟩
 .have j:a<(μ++[c]).length:=(X8.mp d).1;rcases split a j with r|rfl
  .rw[get a r]at d;obtain⟨s,y,l,v,B⟩:=R.dT a z d;rw[w a r];exact⟨s,i _ _ y,l,v.mono e,B.mono e⟩
  .rw[k]at d;cases d;obtain⟨L,rfl,l,v,B⟩:=hc;rw[A];exact⟨L,bN,l,v.mono e,B.mono e⟩
 .have j:a<(μ++[c]).length:=(X8.mp d).1;rcases split a j with r|rfl
  .rw[get a r]at d;obtain⟨E,s,y,l,v,B⟩:=R.dF a z d;rw[w a r];exact⟨E,s,i _ _ y,l,v.mono e,B.mono e⟩
  .rw[k]at d;cases d;obtain⟨E,L,rfl,l,v,B⟩:=hc;rw[A];exact⟨E,L,bN,l,v.mono e,B.mono e⟩
 .have j:a<(μ++[c]).length:=(X8.mp d).1;rcases split a j with r|rfl
  .rw[get a r]at d;obtain⟨E,I,y,l⟩:=R.exc a x N ds d;rw[w a r];exact⟨E,I,i _ _ y,l.mono e⟩
  .rw[k]at d;cases d;obtain⟨E,I,rfl,l⟩:=hc;rw[A];exact⟨E,I,bN,l.mono e⟩
theorem Rp.putU(R:Rp K π H μ)(M:a<μ.length)(G:H (π a)=b4 u)(I:(∀vs,u≠.tup vs)/\∀w v,(∀A,v≠HO.ext A)->u≠.frz w v)(hc:oM K π μ.length H (π a) c o):
  Ext0 π μ.length H π (μ.set a c).length (upd H (π a) o)/\Rp K π (upd H (π a) o) (μ.set a c):=by
 have r:(μ.set a c).length=μ.length:=ZD ..;have e:Ext0 π μ.length H π (μ.set a c).length (upd H (π a) o):=by
  refine⟨a3E r.symm,λ_ _=>rfl,λq vs z=>?_,λq T U nx z=>?_⟩
  .rw[aN]
   .exact z
   .intro e;subst e;rw[G]at z;exact I.1 _ (Ym z)
  .rw[aN]
   .exact z
   .intro e;subst e;rw[G]at z;exact I.2 _ _ nx (Ym z)
 have j:∀b,b<μ.length->b≠a->upd H (π a) o (π b)=H (π b):=λb d E=>aN λq=>E (R.inj b a d M q);refine⟨e,⟨λb J d B=>R.inj b J (r▸d) (r▸B),λb d=>?_,λb Q d=>?_,λb s d=>?_,λb N d=>?_
  ,λb s d=>?_
  ,λb s d=>?_
  ,λb x O ds d=>?_
  ⟩⟩
 .by_cases h:b=a
  .subst h;rw[bN];rfl
  .rw[j b (r▸d) h];exact R.has b (r▸d)
 .have i:b<μ.length:=r▸(X8.mp d).1;by_cases h:b=a
  .subst h;rw[YY i]at d;cases d;cases o with
   |lst vs=>exact⟨vs,bN,IsDs.mono0 e hc⟩|_=>exact Y4 hc
  .rw[Yx (YW h)]at d;obtain⟨vs,p,k⟩:=R.lst b Q d;exact⟨vs,by rw[j b i h];exact p,k.mono0 e⟩
 .have i:b<μ.length:=r▸(X8.mp d).1;by_cases h:b=a
  .subst h;rw[YY i]at d;cases d;cases o with
   |dK vs=>exact⟨vs,bN,hc.1,IsDs.mono0 e hc.2⟩|_=>exact Y4 hc
  .rw[Yx (YW h)]at d;obtain⟨vs,p,k,l⟩:=R.dK b s d;exact⟨vs,by rw[j b i h];exact p,k,l.mono0 e⟩
 .have i:b<μ.length:=r▸(X8.mp d).1;by_cases h:b=a
  .subst h;rw[YY i]at d;cases d;obtain⟨L,rfl,k,l⟩:=hc;exact⟨L,bN,k,l.mono0 e⟩
  .rw[Yx (YW h)]at d;obtain⟨vs,p,k,l⟩:=R.st b N d;exact⟨vs,by rw[j b i h];exact p,k,l.mono0 e⟩
 .have i:b<μ.length:=r▸(X8.mp d).1;by_cases h:b=a
  .subst h;rw[YY i]at d;cases d;obtain⟨L,rfl,k,l,y⟩:=hc;exact⟨L,bN,k,l.mono0 e,y.mono0 e⟩
  .rw[Yx (YW h)]at d;obtain⟨vs,p,k,l,y⟩:=R.dT b s d;exact⟨vs,by rw[j b i h];exact p,k,l.mono0 e,y.mono0 e⟩
 .have i:b<μ.length:=r▸(X8.mp d).1;by_cases h:b=a
  .subst h;rw[YY i]at d;cases d;obtain⟨w,L,rfl,k,l,y⟩:=hc;exact⟨w,L,bN,k,l.mono0 e,y.mono0 e⟩
  .rw[Yx (YW h)]at d;obtain⟨w,vs,p,k,l,y⟩:=R.dF b s d;exact⟨w,vs,by rw[j b i h];exact p,k,l.mono0 e,y.mono0 e⟩
 .have i:b<μ.length:=r▸(X8.mp d).1;by_cases h:b=a
  .subst h;rw[YY i]at d;cases d;obtain⟨w,A,rfl,k⟩:=hc;exact⟨w,A,bN,k.mono0 e⟩
  .rw[Yx (YW h)]at d;obtain⟨w,A,p,k⟩:=R.exc b x O ds d;exact⟨w,A,by rw[j b i h];exact p,k.mono0 e⟩
theorem Rp.put0(R:Rp K π H μ)(h:a<μ.length)(i:H (π a)=b4 u)(e:(∃vs,u=.lst vs)\/(∃vs,u=.dK vs)\/(∃d,u=.ext d)\/∃b d,u=.frz b (.ext d))(hc:oM K π μ.length H (π a) c o):
  Ext0 π μ.length H π (μ.set a c).length (upd H (π a) o)/\Rp K π (upd H (π a) o) (μ.set a c):=
 R.putU h i ⟨λvs z=>(by rcases e with⟨w,rfl⟩|⟨w,rfl⟩|⟨w,rfl⟩|⟨b,w,rfl⟩<;>cases z),λb v nx z=>by
  rcases e with⟨w,rfl⟩|⟨w,rfl⟩|⟨w,rfl⟩|⟨b,w,rfl⟩<;>cases z;exact nx _ rfl⟩ hc
theorem Rp.putE(R:Rp K π H μ)(i:a<μ.length)(d:H (π a)=b4 u)(b:(∀vs,u≠.tup vs)/\∀h v,u≠.frz h v)(hc:oM K π μ.length H (π a) c o):
  Ext π μ.length H π (μ.set a c).length (upd H (π a) o)/\Rp K π (upd H (π a) o) (μ.set a c):=by
 have e:Ext π μ.length H π (μ.set a c).length (upd H (π a) o):=by
  refine⟨a3E (ZD ..).symm,λ_ _=>rfl,λq vs z=>?_,λq j k z=>?_⟩
  .rw[aN]
   .exact z
   .intro e;subst e;rw[d]at z;exact b.1 _ (Ym z)
  .rw[aN]
   .exact z
   .intro e;subst e;rw[d]at z;exact b.2 _ _ (Ym z)
 exact⟨e,(R.putU i d ⟨b.1,λh v _=>b.2 h v⟩ hc).2⟩
theorem Rp.put(R:Rp K π H μ)(d:a<μ.length)(e:H (π a)=b4 u)(b:(∃vs,u=.lst vs)\/(∃vs,u=.dK vs)\/∃h,u=.ext h)(hc:oM K π μ.length H (π a) c o):
  Ext π μ.length H π (μ.set a c).length (upd H (π a) o)/\Rp K π (upd H (π a) o) (μ.set a c):=
 R.putE d e ⟨λvs z=>(by rcases b with⟨w,rfl⟩|⟨w,rfl⟩|⟨w,rfl⟩<;>cases z),λi v z=>by rcases b with⟨w,rfl⟩|⟨w,rfl⟩|⟨w,rfl⟩<;>cases z⟩ hc
noncomputable def KC(K:X2)(Q:VK)(π:Nat->Addr)(n:Nat)(H:Hp)(d:D)(μ':Hm):Prop:=
 ∀a v b,Ext π n H a μ'.length b->Rp K a b μ'->IsD K a μ'.length b v d->Q v b
theorem KC.after(k:KC K Q π n H d μ')(e:Ext π n H a h c):KC K Q a h c d μ':=
 λb v j l R i=>k b v j (e.trans l) R i
inductive tM (K:X2)(m:ME)(σ:St)(H:Hp)(Q:VK):Prop
 |mk (π:Nat->Addr)(ρ:aE)(μ:Hm)(d:D)(μ':Hm)(R:Rp K π H μ)(E:En K π μ.length H σ ρ)(hm:m ρ μ=b4 (d,μ'))(k:KC K Q π μ.length H d μ'):tM K m σ H Q
inductive tMT (K:X2)(m:MT)(σ:St)(H:Hp)(Q:Bool->Hp->Prop):Prop
 |mk (π:Nat->Addr)(ρ:aE)(μ:Hm)(b:Bool)(μ':Hm)(R:Rp K π H μ)(E:En K π μ.length H σ ρ)(hm:m ρ μ=b4 (b,μ'))(k:∀π' H',Ext π μ.length H π' μ'.length H'->Rp K π' H' μ'->Q b H'):tMT K m σ H Q
inductive tMA (K:X2)(m:MA)(σ:St)(H:Hp)(Q:gz->Hp->Prop):Prop
 |mk (π:Nat->Addr)(ρ:aE)(μ:Hm)(ds:List D)(μ':Hm)(R:Rp K π H μ)(E:En K π μ.length H σ ρ)(hm:m ρ μ=b4 (ds,μ'))(k:∀π' vs H',Ext π μ.length H π' μ'.length H'->Rp K π' H' μ'->IsDs K π' μ'.length H' vs ds->Q vs H'):tMA K m σ H Q
noncomputable def mV(K:X2)(E:Ends)(π:Nat->Addr)(n:Nat)(H:Hp)(h:Fl)(e:aE)(μ':Hm):Prop:=
 match h with
 |.nx=>∀a b c,Ext π n H a μ'.length c->Rp K a c μ'->En K a μ'.length c b e->E.nx b c|.bk=>∀a b c,Ext π n H a μ'.length c->Rp K a c μ'->En K a μ'.length c b e->E.bk b c|.ct=>∀a b c,Ext π n H a μ'.length c->Rp K a c μ'->En K a μ'.length c b e->E.ct b c|.rt d=>KC K E.rt π n H d μ'
inductive tMS (K:X2)(m:MS)(E:Ends)(σ:St)(H:Hp):Prop
 |mk (π:Nat->Addr)(ρ:aE)(μ:Hm)(fl:Fl)(ρ':aE)(μ':Hm)(R:Rp K π H μ)(EN:En K π μ.length H σ ρ)(hm:m ρ μ=b4 (fl,ρ',μ'))(k:mV K E π μ.length H fl ρ' μ'):tMS K m E σ H
inductive spI0 (K:X2)(f:MF)(vs:gz)(H:Hp)(Q:VK):Prop
 |mk (π:Nat->Addr)(ds:List D)(μ:Hm)(d:D)(μ':Hm)(R:Rp K π H μ)(i:IsDs K π μ.length H vs ds)(hm:f ds μ=b4 (d,μ'))(k:KC K Q π μ.length H d μ'):spI0 K f vs H Q
noncomputable def fT(K:X2)(k:Nat)(f:MF):Sp:=λvs H Q _=>vs.length=k/\spI0 K f vs H Q
theorem cZ(h:PE X e t)(hw:∀σ H Q,tM X.K m σ H Q->t σ H Q):PE X e (tM X.K m):=λb0l s σ H Q I q=>h b0l s σ H Q I (hw σ H Q q)
theorem qX(h:PT X e t)(hw:∀σ H Q,tMT X.K m σ H Q->t σ H Q):PT X e (tMT X.K m):=λb0l s σ H Q I q=>h b0l s σ H Q I (hw σ H Q q)
theorem Ds(h:PW X e t)(hw:∀σ H Q,tMT X.K m σ H Q->t σ H Q):PW X e (tMT X.K m):=λd b0l s σ H Q I q=>h d b0l s σ H Q I (hw σ H Q q)
theorem Dt(h:PA X es t)(hw:∀σ H Q,tMA X.K m σ H Q->t σ H Q):PA X es (tMA X.K m):=λp b0l s σ H Q I q=>h p b0l s σ H Q I (hw σ H Q q)
theorem iW(h:PS X st t)(hw:∀E σ H,tMS X.K m E σ H->t E σ H):PS X st (tMS X.K m):=λb0l s σ H E I q=>h b0l s σ H E I (hw E σ H q)
theorem Du(h:PSs X st t)(hw:∀E σ H,tMS X.K m E σ H->t E σ H):PSs X st (tMS X.K m):=λb0l s σ H E I q=>h b0l s σ H E I (hw E σ H q)
noncomputable def aA(i:Nat):ME:=λj h=>match j[i]? with|some (b4 d)=>b4 (d,h)|_=>b6
noncomputable def mC(d:D):ME:=λ_ h=>b4 (d,h)
theorem Dv(h:aA i k j=b4 (d,μ')):k[i]?=b4 (b4 d)/\μ'=j:=by
 unfold aA at h;split at h
 .rename_i l e;cases h;exact⟨e,rfl⟩
 .cases h
theorem LG i(h:PE X (.Name x pos) (mS i)):PE X (.Name x pos) (tM X.K (aA i)):=cZ h (by
 rintro u H Q ⟨q,s,r,d,p,R,E,o,k⟩;obtain⟨j,rfl⟩:=Dv o;obtain⟨v,l,n⟩:=E.get i d j;exact⟨v,l,k q v H .refl R n⟩)
theorem oN(h:PE X e (tC v))(hd:∀π n H,IsD X.K π n H v d):PE X e (tM X.K (mC d)):=cZ h (by
 rintro q H Q ⟨π,p,o,l,j,R,E,i,k⟩;cases i;exact k π v H .refl R (hd _ _ _))
theorem LH:PE X (.Constant (.int i) j pos) (tM X.K (mC (.int i))):=oN Jp λ_ _ _=>.int i
theorem LI:PE X (.Constant (.bool i) j pos) (tM X.K (mC (.bl i))):=oN Jq λ_ _ _=>.bl i
theorem LJ:PE X (.Constant (.str i) j pos) (tM X.K (mC (.str i))):=oN Cu λ_ _ _=>.str i
theorem LK:PE X (.Constant .none j pos) (tM X.K (mC .non)):=oN Jr λ_ _ _=>.non
noncomputable def aC(f:D->D->Hm->jk)(a b:ME):ME:=λd h=>(a d h).bind λp=>(b d p.2).bind λq=>f p.1 q.1 q.2
noncomputable def c9(K:X2)(f:D->D->Hm->jk)(r:R2):Prop:=
 ∀j H h x y d i k l Q,Rp K j H h->IsD K j h.length H k x->IsD K j h.length H l y->f x y h=b4 (d,i)->KC K Q j h.length H d i->r k l H Q
theorem qY(A:c9 K f r):∀σ H Q,tM K (aC f ma mb) σ H Q->qT r (tM K ma) (tM K mb) σ H Q:=by rintro σ H Q ⟨M,s,L,d,l,R,E,h,k⟩;obtain⟨⟨x,i⟩,w,h⟩:=X0.mp h;obtain⟨⟨y,j⟩,z,h⟩:=X0.mp h;exact⟨M,s,L,x,i,R,E,w,λn I N p v B=>⟨n,s,i,y,j,v,E.mono p,z,λo J u q R2 G=>A o u j x y d l I J Q R2 (B.mono q) G h (k.after (p.trans q))⟩⟩
theorem LL(j:OpR X (a1Z op) r)(i:c9 X.K f r)(d:PE X a (tM X.K ma))(h:PE X b (tM X.K mb)):PE X (.BinOp a op b pos) (tM X.K (aC f ma mb)):=
 cZ (Ki j d h) (qY i)
theorem fJ(k:OpR X (Zy op) r)(i:c9 X.K f r)(d:PE X a (tM X.K ma))(h:PE X b (tM X.K mb))(j:a1t op b=b7):PE X (.Compare a [op] [b] pos) (tM X.K (aC f ma mb)):=
 cZ (Kn k d h j) (qY i)
noncomputable def aP(m:ME):MT:=λh d=>(m h d).bind λp=>match p.1 with|.bl b=>b4 (b,p.2)|_=>b6
theorem yG:∀σ H Q,tMT K (aP m) σ H Q->tM K m σ H λx H'=>∃k,x=.bl k/\Q k H':=by
 rintro σ H Q ⟨r,s,o,b,p,R,E,d,k⟩;obtain⟨⟨x,q⟩,l,d⟩:=X0.mp d;cases x with
 |bl c=>cases d;refine⟨r,s,o,_,_,R,E,l,λh v H' j i n=>?_⟩;cases n;exact⟨_,rfl,k h H' j i⟩|_=>cases d
theorem fK(n:OpR X (Zy op) r)(k:c9 X.K f r)(i:PE X a (tM X.K ma))(j:PE X b (tM X.K mb))(l:a1t op b=b7):PT X (.Compare a [op] [b] pos) (tMT X.K (aP (aC f ma mb))):=
 qX (Ko n i j l) λd H Q h=>qY k d H _ (yG d H Q h)
theorem LM(h:PE X e (tM X.K m))(i:∀d,a5C e X.env d=(do let v <- d;a7l e.pos;holding [v] (truthy v)):=by intro _;rfl):PT X e (tMT X.K (aP m)):=
 qX (Ju h i) λj H Q h=>yG j H Q h
section
variable{X:Cx}{e a b c:Expr}{m ma mb mc:ME}{pos:ZL}{mt mu:MT}{rest:List Expr}
noncomputable def jL(a b:MT):MT:=λd h=>(a d h).bind λp=>match p.1 with|true=>b d p.2|false=>b4 (b7,p.2)
noncomputable def kK(a b:MT):MT:=λd h=>(a d h).bind λp=>match p.1 with|true=>b4 (b8,p.2)|false=>b d p.2
noncomputable def iH(a:MT):MT:=λh d=>(a h d).map λp=>(!p.1,p.2)
theorem LN(d:PT X a (tMT X.K mt)):PW X (.BoolOp .And [a] pos) (tMT X.K mt):=Jy d
theorem LO(d:PT X a (tMT X.K mt)):PW X (.BoolOp .Or [a] pos) (tMT X.K mt):=Jz d
theorem LP(w:PT X a (tMT X.K mt))(y:PW X (.BoolOp .And (b::rest) pos) (tMT X.K mu)):PW X (.BoolOp .And (a::b::rest) pos) (tMT X.K (jL mt mu)):=Ds (JA w y) (by
 rintro B H Q ⟨A,q,z,d,n,R,E,j,k⟩;obtain⟨⟨x,h⟩,v,j⟩:=X0.mp j;refine⟨A,q,z,x,h,R,E,v,λi r l p=>?_⟩;cases x with
 |true=>refine lQ ?_;exact⟨i,q,h,d,n,p,E.mono l,j,λo s u R2=>k o s (l.trans u) R2⟩|false=>
  refine lP ?_;cases j;exact k i r l p)
theorem LQ(w:PT X a (tMT X.K mt))(y:PW X (.BoolOp .Or (b::rest) pos) (tMT X.K mu)):PW X (.BoolOp .Or (a::b::rest) pos) (tMT X.K (kK mt mu)):=Ds (JB w y) (by
 rintro B H Q ⟨A,q,z,d,n,R,E,j,k⟩;obtain⟨⟨x,h⟩,v,j⟩:=X0.mp j;refine⟨A,q,z,x,h,R,E,v,λi r l p=>?_⟩;cases x with
 |true=>refine lQ ?_;cases j;exact k i r l p|false=>
  refine lP ?_;exact⟨i,q,h,d,n,p,E.mono l,j,λo s u R2=>k o s (l.trans u) R2⟩)
theorem LR(q:PT X a (tMT X.K mt)):PT X (.UnaryOp .Not a pos) (tMT X.K (iH mt)):=qX (JC q) (by
 rintro w H Q ⟨u,v,r,d,s,R,E,h,k⟩;obtain⟨⟨x,i⟩,p,h⟩:=X5.mp h;cases h;exact⟨u,v,r,x,i,R,E,p,λj l o n=>k j l o n⟩)
noncomputable def eL(a b:ME):ME:=λd h=>(a d h).bind λp=>match p.1 with|.bl b8=>b d p.2|.bl b7=>b4 (.bl b7,p.2)|_=>b6
noncomputable def yH(a b:ME):ME:=λd h=>(a d h).bind λp=>match p.1 with|.bl b8=>b4 (.bl b8,p.2)|.bl b7=>b d p.2|_=>b6
noncomputable def mW(a:ME):ME:=λh d=>(a h d).bind λp=>match p.1 with|.bl b=>b4 (.bl (!b),p.2)|_=>b6
theorem LS(h:PE X a (tM X.K m)):PE X (.BoolOp op [a] pos) (tM X.K m):=JG h
theorem LU(s:PE X a (tM X.K ma))(u:PE X (.BoolOp .And (b::rest) pos) (tM X.K mb)):PE X (.BoolOp .And (a::b::rest) pos) (tM X.K (eL ma mb)):=cZ (JH s u) (by
 rintro A H Q ⟨y,p,w,d,n,R,E,h,k⟩;obtain⟨⟨x,i⟩,r,h⟩:=X0.mp h;cases x with
 |bl c=>
  refine⟨y,p,w,.bl c,i,R,E,r,λj z q l o v=>?_⟩;cases v;refine⟨c,rfl,?_⟩;cases c with
  |true=>refine lQ ?_;exact⟨j,p,i,d,n,o,E.mono l,h,k.after l⟩|false=>refine lP ?_;cases h;exact k j _ q l o (.bl b7)
 |_=>cases h)
theorem LV(s:PE X a (tM X.K ma))(u:PE X (.BoolOp .Or (b::rest) pos) (tM X.K mb)):PE X (.BoolOp .Or (a::b::rest) pos) (tM X.K (yH ma mb)):=cZ (JI s u) (by
 rintro A H Q ⟨y,p,w,d,n,R,E,h,k⟩;obtain⟨⟨x,i⟩,r,h⟩:=X0.mp h;cases x with
 |bl c=>
  refine⟨y,p,w,.bl c,i,R,E,r,λj z q l o v=>?_⟩;cases v;refine⟨c,rfl,?_⟩;cases c with
  |true=>refine lQ ?_;cases h;exact k j _ q l o (.bl b8)|false=>refine lP ?_;exact⟨j,p,i,d,n,o,E.mono l,h,k.after l⟩
 |_=>cases h)
theorem LW(p:PE X a (tM X.K ma)):PE X (.UnaryOp .Not a pos) (tM X.K (mW ma)):=cZ (JJ p) (by
 rintro z H Q ⟨v,w,r,d,s,R,E,h,k⟩;obtain⟨⟨x,u⟩,o,h⟩:=X0.mp h;cases x with
 |bl c=>cases h;refine⟨v,w,r,_,_,R,E,o,λi y j n l q=>?_⟩;cases q;exact⟨_,rfl,k i _ j n l (.bl _)⟩
 |_=>cases h)
noncomputable def mX(t:MT)(a b:ME):ME:=λd h=>(t d h).bind λp=>match p.1 with|true=>a d p.2|false=>b d p.2
theorem LX(hc:PT X c (tMT X.K mt))(r:PE X a (tM X.K ma))(s:PE X b (tM X.K mb)):PE X (.IfExp c a b pos) (tM X.K (mX mt ma mb)):=cZ (JL hc r s) (by
 rintro y H Q ⟨v,o,u,d,i,R,E,n,k⟩;obtain⟨⟨x,h⟩,q,n⟩:=X0.mp n;refine⟨v,o,u,x,h,R,E,q,λj w l p=>?_⟩;cases x with
 |true=>refine lQ ?_;exact⟨j,o,h,d,i,p,E.mono l,n,k.after l⟩|false=>
  refine lP ?_;exact⟨j,o,h,d,i,p,E.mono l,n,k.after l⟩)
noncomputable def aD:MA:=λ_ d=>b4 ([],d)
noncomputable def aB(a:ME)(r:MA):MA:=λd h=>(a d h).bind λp=>(r d p.2).bind λq=>b4 (p.1::q.1,q.2)
variable{es:List Expr}{ms:MA}
theorem LY:PA X [] (tMA X.K aD):=Dt tY (by
 rintro o H Q ⟨j,n,l,d,i,R,E,h,k⟩;cases h;exact k j [] H .refl R .nil)
theorem LZ(w:PE X e (tM X.K m))(y:PA X es (tMA X.K ms))(z:YJ (e::es) X.env=(b7,eval e X.env)::YJ es X.env:=by rfl):PA X (e::es) (tMA X.K (aB m ms)):=Dt (qV w y z) (by
 rintro O H Q ⟨K,q,I,d,J,R,E,h,k⟩;obtain⟨⟨x,i⟩,u,h⟩:=X0.mp h;obtain⟨⟨G,j⟩,v,h⟩:=X0.mp h;cases h;exact⟨K,q,I,x,i,R,E,u,λl M L o s A=>⟨l,q,i,G,j,s,E.mono o,v,λn N r p R2 B=>k n _ r (o.trans p) R2 (.cons (A.mono p) B)⟩⟩)
noncomputable def dE(ms:MA):ME:=λh d=>(ms h d).bind λp=>if p.1.length<=Yi then b4 (.tup p.1,p.2)else b6
noncomputable def bV(ms:MA):ME:=λh d=>(ms h d).bind λp=>if p.1.length<=Yi then b4 (.loc p.2.length,p.2++[.lst p.1])else b6
theorem L0(h:PA X es (tMA X.K ms)):PE X (.Tuple es x1 pos) (tM X.K (dE ms)):=cZ (CN h) (by
 rintro I H Q ⟨z,A,w,d,x,R,E,i,k⟩;obtain⟨⟨G,y⟩,r,i⟩:=X0.mp i;split at i
 .rename_i s;cases i;refine⟨z,A,w,_,_,R,E,r,λj v B q o n=>⟨by rw[n.length];exact s,λp u=>?_⟩⟩;obtain⟨l,R2⟩:=o.fresh (o:=.tup v) u;exact k j _ _ (q.trans l) R2 (.tup (.of bN) (n.mono l))
 .cases i)
theorem L1(h:PA X es (tMA X.K ms)):PE X (.List es pos) (tM X.K (bV ms)):=cZ (KJ h) (by
 rintro K H Q ⟨I,J,B,d,G,R,E,j,k⟩;obtain⟨⟨n,i⟩,x,j⟩:=X0.mp j;split at j
 .rename_i y;cases j;refine⟨I,J,B,n,i,R,E,x,λl o r v u s=>⟨by rw[s.length];exact y,λp z=>?_⟩⟩;obtain⟨w,R2,q⟩:=u.alloc (c:=.lst n) (o:=.lst o) z s;have A:IsD X.K (iG l i.length p) (i++[C.lst n]).length (upd r p (.lst o)) (.ref p) (.loc i.length):=by have:=IsD.loc (K:=X.K) (π:=iG l i.length p) (n:=(i++[C.lst n]).length) (H:=upd r p (.lst o)) (a:=i.length) (by simp);rw[q]at this;exact this
  exact k _ _ _ (v.trans w) R2 A
 .cases j)
noncomputable def aF(f:MF)(ms:MA):ME:=λh d=>(ms h d).bind λp=>f p.1 p.2
theorem L4(w:∀j i ds μ',ms j i=b4 (ds,μ')->ds.length=n):∀σ H Q,tM K (aF f ms) σ H Q->xX (fT K n f) [] E (tMA K ms) σ H Q:=by rintro σ H Q ⟨y,j,i,d,μ',R,E,l,k⟩;obtain⟨⟨o,h⟩,q,l⟩:=X0.mp l;refine⟨y,j,i,o,h,R,E,q,λp x s v u r=>?_⟩;show fT K n f (x++[]) s Q _;rw[Zw];exact⟨by rw[r.length];exact w j i o h q,p,o,h,d,μ',u,r,l,k.after v⟩
theorem L5:∀i d ds μ',aD i d=b4 (ds,μ')->ds.length=0:=by intro i d ds μ' h;cases h;rfl
theorem L6(h:∀i j ds μ',ms i j=b4 (ds,μ')->ds.length=n):∀i j ds μ',aB m ms i j=b4 (ds,μ')->ds.length=n+1:=by intro i j ds μ' d;obtain⟨⟨x,k⟩,q,d⟩:=X0.mp d;obtain⟨⟨o,p⟩,l,d⟩:=X0.mp d;cases d;rw[YB,h i k o _ l]
theorem L7(F:FnOk X.prog X.w X.K X.mg X.base dP k f j ps (fT X.K n l))(y:Room k X.A)(s:Gl X x)(v:X.mg x=b4 (.ref f))(u:Za X.K (.ref f)=b8)(q:Binds X.K j ps [])(o:PA X (e::es) (tMA X.K ms))(w:∀A z ds i,ms A z=b4 (ds,i)->ds.length=n)(d:(x==("__debug__":Str))=false:=by decide)(r:YJ (e::es) X.env=(b7,eval e X.env)::YJ es X.env:=by rfl)(h:(a0s pos (YJ es X.env)).any (·.1)=false:=by rfl):
  PE X (.Call (.Name x p) (e::es) [] pos) (tM X.K (aF l ms)):=
 cZ (KL F y s v u q .nil (E:=E0) Dk o d r h) (L4 w)
noncomputable def dQ(K:X2)(f:MF)(r:gz->Hp->VK->Prop):Prop:=
 ∀j H i l d h k Q,Rp K j H i->IsDs K j i.length H k l->f l i=b4 (d,h)->KC K Q j i.length H d h->r k H Q
theorem yI(u:dQ K f r):∀σ H Q,tM K (aF f ms) σ H Q->t5 r (tMA K ms) σ H Q:=by rintro σ H Q ⟨y,z,x,d,j,R,E,i,k⟩;obtain⟨⟨n,h⟩,s,i⟩:=X0.mp i;exact⟨y,z,x,n,h,R,E,s,λl w o q p v=>u l o h n d j w Q p v i (k.after q)⟩
theorem L8{id:String}(hc:CallR X (.builtin id) r)(k:dQ X.K f r)(l:Gl X x)(n:X.mg x=b6)(q:Z5 x=b4 (.builtin id))(i:PA X (e::es) (tMA X.K ms))(o:x ≠ "__name__":=by decide)(d:(x==("__debug__":Str))=false:=by decide)(j:YJ (e::es) X.env=(b7,eval e X.env)::YJ es X.env:=by rfl)(h:(a0s pos (YJ es X.env)).any (·.1)=false:=by rfl):PE X (.Call (.Name x p) (e::es) [] pos) (tM X.K (aF f ms)):=
 cZ (KO hc l n q i o d j h) (yI k)
theorem L9(hc:CallR X (.type T) r)(k:dQ X.K f r)(l:Gl X x)(n:X.mg x=b6)(q:Z5 x=b4 (.type T))(i:PA X (e::es) (tMA X.K ms))(o:x ≠ "__name__":=by decide)(d:(x==("__debug__":Str))=false:=by decide)(j:YJ (e::es) X.env=(b7,eval e X.env)::YJ es X.env:=by rfl)(h:(a0s pos (YJ es X.env)).any (·.1)=false:=by rfl):PE X (.Call (.Name x p) (e::es) [] pos) (tM X.K (aF f ms)):=
 cZ (KP hc l n q i o d j h) (yI k)
noncomputable def a8(d:Hm):D->Option (List D)
 |.tup xs=>b4 xs|.rol xs=>b4 xs|.loc a=>match d[a]? with|some (.lst xs)=>b4 xs|_=>b6
 |_=>b6
noncomputable def eD:D->D->Hm->jk
 |.str z,.int i,μ=>if z.length<=Yi then(atI z.cps.toList i).map λc=>(.str ⟨#[c]⟩,μ)else b6|x,.int i,μ=>(a8 μ x).bind λh=>(atI h i).map λd=>(d,μ)|_,_,_=>b6
theorem Ma:c9 K eD (C5 K):=by
 intro q H O x y d I M N Q R s E j k;cases E with
 |int i=>
  cases s with
  |str z=>
   simp only[eD]at j;split at j
   .rename_i A;obtain⟨c,l,n⟩:=X5.mp j;cases n;exact .inr (.inr ⟨z,i,c,rfl,rfl,A,l,k q _ H .refl R (.str _)⟩)
   .cases j
  |tup h t=>simp only[eD,a8,Yy]at j;obtain⟨r,l,n⟩:=X5.mp j;cases n;obtain⟨v,o,p⟩:=t.atI l;exact .inr (.inl ⟨_,_,i,v,rfl,rfl,h,o,k q _ H .refl R p⟩)|rol h t=>simp only[eD,a8,Yy]at j;obtain⟨r,l,n⟩:=X5.mp j;cases n;obtain⟨v,o,p⟩:=t.atI l;exact .inl ⟨_,_,i,v,rfl,rfl,h.sq,o,k q _ H .refl R p⟩|@loc a J=>
   simp only[eD,a8]at j;split at j
   .rename_i G B;simp only[Yy]at j;obtain⟨r,l,n⟩:=X5.mp j;cases n;obtain⟨L,u,w⟩:=R.lst a G B;obtain⟨v,o,p⟩:=w.atI l;exact .inl ⟨_,_,i,v,rfl,rfl,.of u,o,k q _ H .refl R p⟩
   .cases j
  |_=>simp[eD,a8]at j
 |_=>cases s<;>simp[eD]at j
theorem Mb(d:PE X a (tM X.K ma))(h:PE X b (tM X.K mb))(i:yA b):PE X (.Subscript a b pos) (tM X.K (aC eD ma mb)):=cZ (Lb Ld d h i) (qY Ma)
noncomputable def jM(xs:List D)(lo d:Option Int):List D:=(xs.drop (HT.sIx xs.length 0 lo)).take (HT.sIx xs.length xs.length d-HT.sIx xs.length 0 lo)
noncomputable abbrev MO:=aE->Hm->Option (Option Int×Hm)
noncomputable def kL:MO:=λ_ d=>b4 (b6,d)
noncomputable def jN(m:ME):MO:=λh d=>(m h d).bind λp=>match p.1 with|.int i=>b4 (b4 i,p.2)|_=>b6
inductive tMO (K:X2)(m:MO)(σ:St)(H:Hp)(Q:Option Int->Hp->Prop):Prop
 |mk (π:Nat->Addr)(ρ:aE)(μ:Hm)(o:Option Int)(μ':Hm)(R:Rp K π H μ)(E:En K π μ.length H σ ρ)(hm:m ρ μ=b4 (o,μ'))(k:∀π' H',Ext π μ.length H π' μ'.length H'->Rp K π' H' μ'->Q o H'):tMO K m σ H Q
theorem Mc:PO X b6 (tMO X.K kL):=λb0l s σ H Q I q=>K5 b0l s σ H Q I (by
 obtain⟨i,l,j,o,h,R,E,d,k⟩:=q;cases d;exact k i H .refl R)
theorem Md(h:PE X e (tM X.K m)):PO X (b4 e) (tMO X.K (jN m)):=λb0l s σ H Q I q=>K6 h b0l s σ H Q I (by
 obtain⟨z,A,v,o,w,R,E,d,k⟩:=q;obtain⟨⟨x,y⟩,r,d⟩:=X0.mp d;cases x with
 |int i=>cases d;refine⟨z,A,v,_,_,R,E,r,λj B l p n u=>?_⟩;cases u;exact⟨_,rfl,k j l p n⟩
 |_=>cases d)
noncomputable abbrev Dw(K:X2):V->Option Int->Option Int->Hp->VK->Prop:=yC K
theorem Me:x8 X (Dw X.K):=Li
theorem Dx(h:yC K x lo d H Q):Dw K x lo d H Q:=h
noncomputable def mY(a:ME)(lo h:MO):ME:=λd j=>(a d j).bind λp=>(lo d p.2).bind λq=>(h d q.2).bind λr=>
 match p.1 with
 |.tup _=>b6|x=>(a8 r.2 x).bind λi=>b4 (.loc r.2.length,r.2++[.lst (jM i q.1 r.1)])
theorem Dy(h:IsDs K π n H vs ds)lo d:IsDs K π n H (lO vs lo d) (jM ds lo d):=by unfold lO jM;rw[h.length];exact(h.drop _).take _
theorem iX{d:Hm}{c:C}:IsD K (iG π d.length p) (d++[c]).length H (.ref p) (.loc d.length):=by have:=IsD.loc (K:=K) (π:=iG π d.length p) (n:=(d++[c]).length) (H:=H) (a:=d.length) (by simp);rw[show iG π d.length p d.length=p from if_pos rfl]at this;exact this
theorem Mf(ha:PE X a (tM X.K ma))(hl:PO X lo (tMO X.K M))(hu:PO X K (tMO X.K L)):PE X (.Subscript a (.Slice lo K b6 p2) pos) (tM X.K (mY ma M L)):=cZ (K8 Me ha hl hu) (by
 rintro σ H Q ⟨π,J,μ,d,μ',R,E,j,k⟩;obtain⟨⟨x,n⟩,T,j⟩:=X0.mp j;obtain⟨⟨l,o⟩,U,j⟩:=X0.mp j;obtain⟨⟨u,B⟩,Y,j⟩:=X0.mp j;refine⟨π,J,μ,x,n,R,E,T,λG v1 H1 r O i1=>⟨G,J,n,l,o,O,E.mono r,U,λI H2 s R2=>⟨I,J,o,u,B,R2,(E.mono r).mono s,Y,λπ3 H3 y v=>?_⟩⟩⟩;have i3:=(i1.mono s).mono y;cases i3 with
 |rol h t=>simp only[a8,Yy]at j;cases j;refine Dx ⟨_,_,rfl,h.sq,λp A=>?_⟩;obtain⟨z,w,q⟩:=v.alloc (c:=.lst (jM _ l u)) (o:=.lst (lO _ l u)) A (Dy t l u);exact k _ _ _ (((r.trans s).trans y).trans z) w iX|@loc i hi'=>
  simp only[a8]at j;split at j
  .rename_i N hx;simp only[Yy]at j;cases j;obtain⟨vs,Z,h6⟩:=v.lst i N hx;refine Dx ⟨_,_,rfl,.of Z,λp A=>?_⟩;obtain⟨z,w,q⟩:=v.alloc (c:=.lst (jM N l u)) (o:=.lst (lO vs l u)) A (Dy h6 l u);exact k _ _ _ (((r.trans s).trans y).trans z) w iX
  .cases j
 |tup h t=>simp at j
 |_=>simp[a8]at j)
end
noncomputable def cA:MS:=λh d=>b4 (.nx,h,d)
noncomputable def aK(a b:MS):MS:=λh d=>(a h d).bind λp=>match p.1 with|.nx=>b p.2.1 p.2.2|_=>b4 p
noncomputable def aQ(m:ME):MS:=λd h=>(m d h).map λp=>(.rt p.1,d,p.2)
noncomputable def bI(m:ME):MS:=λd h=>(m d h).map λp=>(.nx,d,p.2)
noncomputable def bL(t:MT)(a b:MS):MS:=λd h=>(t d h).bind λp=>match p.1 with|true=>a d p.2|false=>b d p.2
noncomputable def aO(i:Nat)(m:ME):MS:=λd h=>(m d h).map λp=>(.nx,d.set i (b4 p.1),p.2)
theorem Mg:PSs X [] (tMS X.K cA):=Du JO (by
 rintro E n H ⟨j,q,p,o,l,i,R,d,h,k⟩;cases h;exact k j n H .refl R d)
theorem Mh{rest:List Stmt}(h1:PS X st (tMS X.K ms))(B:PSs X rest (tMS X.K mr)):PSs X (st::rest) (tMS X.K (aK ms mr)):=Du (JP h1 B) (by
 rintro E M H ⟨I,J,G,x,v,s,R,z,j,k⟩;obtain⟨⟨w,q,p⟩,h1,j⟩:=X0.mp j;refine⟨I,J,G,w,q,p,R,z,h1,?_⟩;cases w with
 |nx=>
  intro u K L r A y;refine⟨u,q,p,x,v,s,A,y,j,?_⟩;cases x with
  |nx=>exact λh i n o R2 l=>k h i n (r.trans o) R2 l|bk=>exact λh i n o R2 l=>k h i n (r.trans o) R2 l|ct=>exact λh i n o R2 l=>k h i n (r.trans o) R2 l|rt d=>exact KC.after k r
 |rt d=>cases j;exact k|bk=>cases j;exact k
 |ct=>cases j;exact k)
theorem Mi(h1:PS X st (tMS X.K ms)):PSs X [st] (tMS X.K ms):=Cw h1
theorem Mj:PS X (.Pass pos) (tMS X.K cA):=iW JQ (by
 rintro E n H ⟨j,q,p,o,l,i,R,d,h,k⟩;cases h;exact k j n H .refl R d)
theorem Ml(l:PE X e (tM X.K m)):PS X (.Return (b4 e) pos) (tMS X.K (aQ m)):=iW (JU l) (by
 rintro E u H ⟨p,q,n,s,r,o,R,i,d,k⟩;obtain⟨⟨x,h⟩,j,d⟩:=X5.mp d;cases d;exact⟨p,q,n,x,h,R,i,j,k⟩)
theorem Mm(q:PE X e (tM X.K m))(r:a2C e b6 pos.line X.env=pure false:=by rfl):PS X (.Expr e pos) (tMS X.K (bI m)):=iW (JS q r) (by
 rintro E z H ⟨v,w,s,A,y,u,R,j,d,k⟩;obtain⟨⟨x,h⟩,p,d⟩:=X5.mp d;cases d;exact⟨v,w,s,x,h,R,j,p,λi G n l o B=>k i z n l o (j.mono l)⟩)
theorem Mn{mt:MT}(hc:PT X c (tMT X.K mt))(I:PSs X body (tMS X.K ms))(J:PSs X orelse (tMS X.K mu)):PS X (.If c body orelse pos) (tMS X.K (bL mt ms mu)):=iW (JY hc I J) (by
 rintro E M H ⟨L,y,K,u,o,l,R,w,v,k⟩;obtain⟨⟨x,j⟩,G,v⟩:=X0.mp v;refine⟨L,y,K,x,j,R,w,G,λn B p z=>?_⟩;have A:mV X.K E n j.length B u o l:=by
  cases u with
  |nx=>exact λh i r s R2 q=>k h i r (p.trans s) R2 q|bk=>exact λh i r s R2 q=>k h i r (p.trans s) R2 q|ct=>exact λh i r s R2 q=>k h i r (p.trans s) R2 q|rt d=>exact KC.after k p
 cases x with
 |true=>refine lQ ?_;exact⟨n,y,j,u,o,l,z,w.mono p,v,A⟩|false=>
  refine lP ?_;exact⟨n,y,j,u,o,l,z,w.mono p,v,A⟩)
theorem Dz(s:X.N.Nodup)(w:X.N[i]?=b4 x)(z:Loc X.env.scope x)(u:PE X e (tM X.K m))(y:a2C e (b4 (.Name x d)) pos.line X.env=pure false:=by rfl)(v:X.fn x=b8\/X.env.scope.names.lookup x=b4 .local:=by first|exact .inl rfl|exact .inr rfl|assumption):PS X (.Assign [.Name x d] e pos) (tMS X.K (aO i m)):=iW (CD s w z u y v) (by
 rintro E N H ⟨I,J,B,L,K,G,R,n,h,k⟩;obtain⟨⟨x,j⟩,r,h⟩:=X5.mp h;cases h;exact⟨I,J,B,x,j,R,n,r,λl M p o q A=>k l _ p o q ((n.mono o).set A i)⟩)
noncomputable def qZ(n:Nat)(ds:List D):aE:=ds.map b4++a0g (n-ds.length) b6
noncomputable def q0(n:Nat)(m:MS):MF:=λds a=>(m (qZ n ds) a).bind λp=>match p.1 with|.rt d=>b4 (d,p.2.2)|.nx=>b4 (.non,p.2.2)|_=>b6
theorem yJ(h:IsDs K π n H vs ds)(p:vs.length<=N.length):En K π n H (L2.start N vs) (qZ N.length ds):=by
 have a:=h.length;refine⟨by simp[L2.start,qZ,a],λi d e=>?_⟩;unfold qZ at e;unfold L2.start;by_cases b:i<ds.length
 .rw[Y8 (by simpa using b),Yo]at e;obtain⟨o,c,j⟩:=X5.mp e;cases j;obtain⟨v,k,l⟩:=h.get c;exact⟨v,by rw[Y8 (by rw[X3,a];exact b),Yo,k];rfl,l⟩
 .rw[a0h (by simpa using a2W.mp b)]at e;have:=a0V (n:=N.length-ds.length) (a:=(b6:Option D)) (i:=i-(ds.map b4).length);rw[this]at e;split at e<;>simp at e
theorem Mo(F:Fun K x qual st f o)(S:FnScope N ps (a9 st))(e:ps.length<=N.length)(b:∀a A outer s H E,Room k (A.deeper (a2j qual (a9 st) s.heap.objs.size f a))->
   PSs (dO dP P w K mg base N qual (a9 st) f a A outer s H E).nox (cG st) (tMS K m)):FnOk P w K mg base dP (k+1) f o ps (fT K ps.length (q0 N.length m)):=by
 refine F.ok S (λG H Q E h=>h.1) λa A outer s H G Q E z h=>⟨_,b a A outer s H E z,?_⟩;obtain⟨B,L,ds,I,d,J,R,i,c,q⟩:=h;obtain⟨⟨p,n,j⟩,y,c⟩:=X0.mp c;refine⟨L,_,I,p,n,j,R,yJ i (by rw[B];exact e),y,?_⟩;cases p with
 |rt T=>cases c;exact q|nx=>cases c;exact λl M r v u O=>q l .non r v u .non|bk=>cases c|ct=>cases c
open SeqAt (EqAt RcAt RcNeAt)
inductive KD where
 |non|bl (b:Bool)|int (i:Int)|str (x:Str)|tup (n:Nat)|lst (n:Nat)
inductive IsK (s:X7):Value->KD->Prop where
 |non:IsK s .none .non
 |bl (b:Bool):IsK s (.bool b) (.bl b)
 |int (i:Int)(t:a5W):IsK s (.int i t) (.int i)
 |str (x:Str)(t:a5W):IsK s (.str x t) (.str x)
 |tup {l:Addr}{its:gw}(h:s.heap.IsTuple l its.toArray):IsK s (.ref l) (.tup its.length)
 |lst {l:Addr}{its:gw}(h:s.heap.IsList l its.toArray):IsK s (.ref l) (.lst its.length)
noncomputable def uB(e:Nat->Bool):KD->KD->Bool
 |.non,.non=>b8|.bl a,.bl b=>a==b|.bl a,.int b=>(if a then 1 else 0)==b|.int a,.bl b=>a==(if b then 1 else 0)|.int a,.int b=>a==b|.str a,.str b=>a==b|.tup n,.tup k=>(YR (min n k)).all e&&n==k|.lst n,.lst k=>(YR (min n k)).all e&&n==k|_,_=>b7
noncomputable def uC(A:YI)(s:X7)(u v:Value)(e:Nat->Bool):Prop:=
 (∀l b c a,u=.ref l->v=.ref b->s.heap.IsTuple l c->s.heap.IsTuple b a->∀j (h1:j<c.size)(d:j<a.size),EqAt A.in1 s c[j] a[j] (e j)) /\
 (∀l b c a,u=.ref l->v=.ref b->s.heap.IsList l c->s.heap.IsList b a->∀j (h1:j<c.size)(d:j<a.size),EqAt A.in1 s c[j] a[j] (e j))
theorem DA e(h:n=k):((YR (min n k)).all e&&n==k)=(YR n).all e:=by subst h;simp
theorem DB e(h:n≠k):((YR (min n k)).all e&&n==k)=false:=by simp[h]
theorem yK(h:IsK s u k)(h':IsK s v k')(c:A.units<ZO)(p:uC A s u v e):RcAt A s u v (uB e k k'):=by
 cases h with
 |non=>
  cases h' with
  |non=>exact RcAt.none_none|bl b=>exact RcAt.none_bool b|int i t=>exact RcAt.none_int i t|str x t=>exact RcAt.none_str x t|tup h=>exact RcAt.none_tuple h c|lst h=>exact RcAt.none_list h c
 |bl a=>
  cases h' with
  |non=>exact RcAt.bool_none a|bl b=>exact RcAt.bool_bool a b|int i t=>exact RcAt.bool_int a i t|str x t=>exact RcAt.bool_str a x t|tup h=>exact RcAt.bool_tuple a h c|lst h=>exact RcAt.bool_list a h c
 |int a j=>
  cases h' with
  |non=>exact RcAt.int_none a j|bl b=>exact RcAt.int_bool a j b|int i t=>exact RcAt.int_int a j i t|str x t=>exact RcAt.int_str a j x t|tup h=>exact RcAt.int_tuple a j h c|lst h=>exact RcAt.int_list a j h c
 |str a j=>
  cases h' with
  |non=>exact RcAt.str_none a j|bl b=>exact RcAt.str_bool a j b|int i t=>exact RcAt.str_int a j i t|str x t=>exact RcAt.str_str a j x t|tup h=>exact RcAt.str_tuple a j h c|lst h=>exact RcAt.str_list a j h c
 |tup g=>
  cases h' with
  |non=>exact RcAt.tuple_none g c|bl b=>exact RcAt.tuple_bool b g c|int i t=>exact RcAt.tuple_int i t g c|str x t=>exact RcAt.tuple_str x t g c|tup h=>have:=RcAt.tuples (e:=e) g h c (p.1 _ _ _ _ rfl rfl g h);exact this|lst h=>exact RcAt.tuple_list g h c
 |lst g=>
  cases h' with
  |non=>exact RcAt.list_none g c|bl b=>exact RcAt.list_bool b g c|int i t=>exact RcAt.list_int i t g c|str x t=>exact RcAt.list_str x t g c|tup h=>exact RcAt.list_tuple g h c|@lst b d h=>
   rename_i l n;by_cases o:n.length=d.length
   .have:=RcAt.lists (e:=e) g h (by simpa using o) c (p.2 _ _ _ _ rfl rfl g h);show RcAt A s _ _ ((YR (min n.length d.length)).all e&&n.length==d.length);rw[DA e o];simpa using this
   .have:=RcAt.lists_lengths g h (by simpa using o) c;show RcAt A s _ _ ((YR (min n.length d.length)).all e&&n.length==d.length);rw[DB e o];exact this
theorem Mp(h:IsK s u k)(h':IsK s v k')(c:A.units<ZO)(p:uC A s u v e):RcNeAt A s u v (!uB e k k'):=by
 cases h with
 |non=>
  cases h' with
  |non=>exact RcNeAt.none_none|bl b=>exact RcNeAt.none_bool b|int i t=>exact RcNeAt.none_int i t|str x t=>exact RcNeAt.none_str x t|tup h=>exact RcNeAt.none_tuple h c|lst h=>exact RcNeAt.none_list h c
 |bl a=>
  cases h' with
  |non=>exact RcNeAt.bool_none a|bl b=>exact RcNeAt.bool_bool a b|int i t=>exact RcNeAt.bool_int a i t|str x t=>exact RcNeAt.bool_str a x t|tup h=>exact RcNeAt.bool_tuple a h c|lst h=>exact RcNeAt.bool_list a h c
 |int a j=>
  cases h' with
  |non=>exact RcNeAt.int_none a j|bl b=>exact RcNeAt.int_bool a j b|int i t=>exact RcNeAt.int_int a j i t|str x t=>exact RcNeAt.int_str a j x t|tup h=>exact RcNeAt.int_tuple a j h c|lst h=>exact RcNeAt.int_list a j h c
 |str a j=>
  cases h' with
  |non=>exact RcNeAt.str_none a j|bl b=>exact RcNeAt.str_bool a j b|int i t=>exact RcNeAt.str_int a j i t|str x t=>exact RcNeAt.str_str a j x t|tup h=>exact RcNeAt.str_tuple a j h c|lst h=>exact RcNeAt.str_list a j h c
 |tup g=>
  cases h' with
  |non=>exact RcNeAt.tuple_none g c|bl b=>exact RcNeAt.tuple_bool b g c|int i t=>exact RcNeAt.tuple_int i t g c|str x t=>exact RcNeAt.tuple_str x t g c|tup h=>have:=RcNeAt.tuples (e:=e) g h c (p.1 _ _ _ _ rfl rfl g h);exact this|lst h=>exact RcNeAt.tuple_list g h c
 |lst g=>
  cases h' with
  |non=>exact RcNeAt.list_none g c|bl b=>exact RcNeAt.list_bool b g c|int i t=>exact RcNeAt.list_int i t g c|str x t=>exact RcNeAt.list_str x t g c|tup h=>exact RcNeAt.list_tuple g h c|@lst b d h=>
   rename_i l n;by_cases o:n.length=d.length
   .have:=RcNeAt.lists (e:=e) g h (by simpa using o) c (p.2 _ _ _ _ rfl rfl g h);show RcNeAt A s _ _ (!((YR (min n.length d.length)).all e&&n.length==d.length));rw[DA e o];simpa using this
   .have:=RcNeAt.lists_lengths g h (by simpa using o) c;show RcNeAt A s _ _ (!((YR (min n.length d.length)).all e&&n.length==d.length));rw[DB e o];exact this
theorem Mq(h:IsK s u k)(h':IsK s v k')(c:A.units<ZO)(p:uC A s u v e)(o:∀l b,u=.ref l->v=.ref b->l≠b):EqAt A s u v (uB e k k'):=by
 cases h with
 |non=>
  cases h' with
  |non=>exact EqAt.same _|bl b=>exact EqAt.none_bool b|int i t=>exact EqAt.none_int i t|str x t=>exact EqAt.none_str x t|tup h=>exact EqAt.none_tuple h c|lst h=>exact EqAt.none_list h c
 |bl a=>
  cases h' with
  |non=>exact EqAt.bool_none a|bl b=>exact EqAt.bool_bool a b|int i t=>exact EqAt.bool_int a i t|str x t=>exact EqAt.bool_str a x t|tup h=>exact EqAt.bool_tuple a h c|lst h=>exact EqAt.bool_list a h c
 |int a d=>
  cases h' with
  |non=>exact EqAt.int_none a d|bl b=>exact EqAt.int_bool a d b|int i t=>exact EqAt.int_int a d i t|str x t=>exact EqAt.int_str a d x t|tup h=>exact EqAt.int_tuple a d h c|lst h=>exact EqAt.int_list a d h c
 |str a d=>
  cases h' with
  |non=>exact EqAt.str_none a d|bl b=>exact EqAt.str_bool a d b|int i t=>exact EqAt.str_int a d i t|str x t=>exact EqAt.str_str a d x t|tup h=>exact EqAt.str_tuple a d h c|lst h=>exact EqAt.str_list a d h c
 |@tup l n g=>
  cases h' with
  |non=>exact EqAt.tuple_none g c|bl b=>exact EqAt.tuple_bool b g c|int i t=>exact EqAt.tuple_int i t g c|str x t=>exact EqAt.tuple_str x t g c|@tup b j h=>exact EqAt.of_refs (o l b rfl rfl) (yK (k:=.tup n.length) (k':=.tup j.length) (.tup g) (.tup h) c p)|lst h=>exact EqAt.tuple_list g h c
 |@lst l n g=>
  cases h' with
  |non=>exact EqAt.list_none g c|bl b=>exact EqAt.list_bool b g c|int i t=>exact EqAt.list_int i t g c|str x t=>exact EqAt.list_str x t g c|tup h=>exact EqAt.list_tuple g h c|@lst b j h=>exact EqAt.of_refs (o l b rfl rfl) (yK (k:=.lst n.length) (k':=.lst j.length) (.lst g) (.lst h) c p)
inductive KdD where
 |non|bl (b:Bool)|int (i:Int)|str (x:Str)|tup (xs:List D)|lst (xs:List D)
noncomputable def fL(c:Hm):D->Option KdD
 |.non=>b4 .non|.bl b=>b4 (.bl b)|.int i=>b4 (.int i)|.str x=>b4 (.str x)|.tup xs=>b4 (.tup xs)|.rol xs=>b4 (.lst xs)|.loc a=>match c[a]? with|some (.lst xs)=>b4 (.lst xs)|_=>b6
 |.ty _=>b6
noncomputable def jO(f:D->D->Option Bool):List D->List D->Option Bool
 |x::xs,y::ys=>(f x y).bind λb=>(jO f xs ys).map λc=>b&&c|[],[]=>b4 b8|_,_=>b4 b7
noncomputable def oO(f:D->D->Option Bool):KdD->KdD->Option Bool
 |.non,.non=>b4 b8|.bl a,.bl b=>b4 (a==b)|.bl a,.int b=>b4 ((if a then 1 else 0)==b)|.int a,.bl b=>b4 (a==(if b then 1 else 0))|.int a,.int b=>b4 (a==b)|.str a,.str b=>b4 (a==b)|.tup xs,.tup ys=>jO f xs ys|.lst xs,.lst ys=>jO f xs ys|_,_=>b4 b7
noncomputable abbrev yL(f:D->D->Option Bool):D->D->Option Bool:=f
theorem DC(h:yL f x y=b4 b):f x y=b4 b\/(b=b8/\∃a,x=.loc a/\y=.loc a):=.inl h
noncomputable def dC:Nat->Hm->D->D->Option Bool
 |0,_,_,_=>b6|n+1,μ,x,y=>(fL μ x).bind λa=>(fL μ y).bind λb=>oO (yL (dC n μ)) a b
noncomputable abbrev kM(n:Nat)(a:Hm):D->D->Option Bool:=yL (dC n a)
noncomputable def yM:KdD->KD
 |.non=>.non|.bl b=>.bl b|.int i=>.int i|.str x=>.str x|.tup xs=>.tup xs.length|.lst xs=>.lst xs.length
noncomputable def oP:KdD->List D
 |.tup xs=>xs|.lst xs=>xs|_=>[]
section
variable{X:Cx}{b0l:jw}{σ:St}{H:Hp}{s:X7}{π:Nat->Addr}{μ:Hm}
inductive KdAt (X:Cx)(π:Nat->Addr)(n:Nat)(H:Hp)(s:X7)(u:Value):KdD->Prop where
 |non (h:u=.none):KdAt X π n H s u .non
 |bl (b:Bool)(h:u=.bool b):KdAt X π n H s u (.bl b)
 |int (i:Int)(t:a5W)(h:u=.int i t):KdAt X π n H s u (.int i)
 |str (x:Str)(t:a5W)(h:u=.str x t):KdAt X π n H s u (.str x)
 |tup {xs:List D}(p:Addr)(vs:gz)(its:gw)(h:u=.ref p)(q:SqT X.K H p vs)(i:IsDs X.K π n H vs xs)(r:Vals vs its)(t:s.heap.IsTuple p its.toArray):KdAt X π n H s u (.tup xs)
 |lst {xs:List D}(p:Addr)(vs:gz)(its:gw)(h:u=.ref p)(q:SqL X.K H p vs)(i:IsDs X.K π n H vs xs)(r:Vals vs its)(t:s.heap.IsList p its.toArray):KdAt X π n H s u (.lst xs)
theorem oQ(I:Inv X b0l σ H s)(R:Rp X.K π H μ)(h:IsD X.K π μ.length H v d)(r:RelV v u)(e:fL μ d=b4 k):KdAt X π μ.length H s u k:=by
 cases h with
 |non=>cases e;exact .non r|bl b=>cases e;exact .bl b r|int i=>cases e;obtain⟨t,q⟩:=r;exact .int i t q|str x=>cases e;obtain⟨t,q⟩:=r;exact .str x t q|ty x=>cases e|tup q t=>cases e;obtain⟨c,j,p,_⟩:=I.tuple q;exact .tup _ _ c r q t j p|rol q t=>cases e;obtain⟨c,j,p,_⟩:=I.list q.sq;exact .lst _ _ c r q.sq t j p.isList|@loc a z=>
  simp only[fL]at e;split at e
  .rename_i y o;cases e;obtain⟨w,l,n⟩:=R.lst a y o;have q:SqL X.K H (π a) w:=.of l;obtain⟨c,j,p,_⟩:=I.list q;exact .lst _ _ c r q n j p.isList
  .cases e
theorem KdAt.isK(h:KdAt X π n H s u k):IsK s u (yM k):=by
 cases h with
 |non h=>subst h;exact .non|bl b h=>subst h;exact .bl b|int i t h=>subst h;exact .int i t|str x t h=>subst h;exact .str x t|tup p c a h q i r t=>subst h;have:a.length=_:=r.length.symm.trans i.length;show IsK s (.ref p) (.tup _);rw[<- this];exact .tup t|lst p c a h q i r t=>subst h;have:a.length=_:=r.length.symm.trans i.length;show IsK s (.ref p) (.lst _);rw[<- this];exact .lst t
noncomputable def iI(f:D->D->Option Bool)(xs ys:List D)(j:Nat):Bool:=match xs[j]?,ys[j]? with
 |some x,b4 y=>(f x y).getD b7|_,_=>b7
theorem yN:∀{xs ys}{b},jO f xs ys=b4 b->b=((YR (min xs.length ys.length)).all (iI f xs ys)&&xs.length==ys.length)/\∀j x y,xs[j]?=b4 x->ys[j]?=b4 y->f x y=b4 (iI f xs ys j)
 |[],[],b,h=>by cases h;exact⟨rfl,λj x y e=>by simp at e⟩
 |x::xs,[],b,h=>by cases h;exact⟨by simp,λj x y _ e=>by simp at e⟩
 |[],y::ys,b,h=>by cases h;exact⟨by simp,λj x y e=>by simp at e⟩
 |x::xs,y::ys,b,h=>by
  simp only[jO]at h;obtain⟨c,l,o⟩:=X0.mp h;obtain⟨d,p,q⟩:=X5.mp o;obtain⟨r,u⟩:=yN p;have k:iI f (x::xs) (y::ys) 0=c:=by simp[iI,l]
  have n:∀j,iI f (x::xs) (y::ys) (j+1)=iI f xs ys j:=λj=>by simp[iI]
  refine⟨?_,λj v w a i=>?_⟩
  .subst q;rw[r];simp only[YB,Nat.add_min_add_right];rw[a3x,YO,a6a,k];have:(iI f (x::xs) (y::ys)∘Nat.succ)=iI f xs ys:=funext λj=>n j;rw[this];simp[Bool.and_assoc]
  .cases j with
   |zero=>simp at a i;subst a;subst i;rw[k,l]|succ j=>rw[n j];exact u j v w (by simpa using a) (by simpa using i)
theorem DD(h:oO f k k'=b4 b):b=uB (iI f (oP k) (oP k')) (yM k) (yM k'):=by
 cases k<;>cases k'<;>first
  |(have a:=Ym h;subst a;rfl)|(obtain⟨c,_⟩:=yN h;rw[c];rfl)
theorem Mr(I:Inv X b0l σ H s)(R:Rp X.K π H μ):∀n{v}{u}{x y}{b},RelV v u->IsD X.K π μ.length H v x->IsD X.K π μ.length H v y->dC n μ x y=b4 b->b=true:=by
 intro n;induction n with
 |zero=>intro v u x y b _ _ _ h;cases h|succ n ih=>
  intro v u x y b r hx hy h;obtain⟨k,U,h⟩:=X0.mp h;obtain⟨k',h2,h⟩:=X0.mp h;have a1:=oQ I R hx r U;have B:=oQ I R hy r h2;have l:∀{vs:gz}{xs ys:List D}{c:Bool},(∀v∈vs,∃u,RelV v u)->IsDs X.K π μ.length H vs xs->IsDs X.K π μ.length H vs ys->jO (kM n μ) xs ys=b4 c->c=true:=by
   intro vs;induction vs with
   |nil=>intro xs ys c _ Z A h;cases Z;cases A;cases h;rfl|cons w vs ihv=>
    intro xs ys c hr Z A h;cases Z with
    |cons p1 t1=>
     cases A with
     |cons M G=>simp only[jO]at h;obtain⟨c1,U,h3⟩:=X0.mp h;obtain⟨c2,h4,h5⟩:=X5.mp h3;obtain⟨T,O⟩:=hr w (YQ ..);have a:c1=true:=(DC U).elim (ih O p1 M) (·.1);have o:=ihv (λv K=>hr v (YK _ K)) t1 G h4;subst a;subst o;exact h5.symm
  cases a1 with
  |non a=>
   subst a;cases B with
   |non _=>exact(Ym h).symm|bl _ e=>cases e|int _ _ e=>cases e|str _ _ e=>cases e|tup _ _ _ e=>cases e|lst _ _ _ e=>cases e
  |bl c a=>
   subst a;cases B with
   |non e=>cases e|bl _ e=>cases e;exact(Ym h).symm.trans (beq_self_eq_true _)|int _ _ e=>cases e|str _ _ e=>cases e|tup _ _ _ e=>cases e|lst _ _ _ e=>cases e
  |int c t a=>
   subst a;cases B with
   |non e=>cases e|bl _ e=>cases e|int _ _ e=>cases e;exact(Ym h).symm.trans (beq_self_eq_true _)|str _ _ e=>cases e|tup _ _ _ e=>cases e|lst _ _ _ e=>cases e
  |str c t a=>
   subst a;cases B with
   |non e=>cases e|bl _ e=>cases e|int _ _ e=>cases e|str _ _ e=>cases e;exact(Ym h).symm.trans (beq_self_eq_true _)|tup _ _ _ e=>cases e|lst _ _ _ e=>cases e
  |tup p vs L a q i Q t=>
   have z:KdAt X π μ.length H s (.ref p) _:=a▸KdAt.tup p vs L a q i Q t;rw[a]at B;cases B with
   |non e=>cases e|bl _ e=>cases e|int _ _ e=>cases e|str _ _ e=>cases e|tup M J d o N A E G=>
    cases o;have:=I.tuple_inj q N;subst this;exact l (λv K=>by
     obtain⟨j,Y,rfl⟩:=a6N K;obtain⟨T,_,O⟩:=Q.get (Yg Y);exact⟨T,O⟩) i A h
   |lst M J d o N A E G=>cases o;exact absurd rfl (a0d G t)
  |lst p vs L a q i Q t=>
   rw[a]at B;cases B with
   |non e=>cases e|bl _ e=>cases e|int _ _ e=>cases e|str _ _ e=>cases e|tup M J d o N A E G=>cases o;exact absurd rfl (a0d t G)|lst M J d o N A E G=>
    cases o;have:=I.list_inj q N;subst this;exact l (λv K=>by
     obtain⟨j,Y,rfl⟩:=a6N K;obtain⟨T,_,O⟩:=Q.get (Yg Y);exact⟨T,O⟩) i A h
theorem iY(A:YI):A.in1.units=A.units+1:=rfl
theorem DE(I:Inv X b0l σ H s)(ih:∀{A}{v v'}{u u'}{x y}{b},A.units+n<ZO->RelV v u->RelV v' u'->IsD X.K π μ.length H v x->IsD X.K π μ.length H v' y->dC n μ x y=b4 b->EqAt A s u u' b)(hu:A.units+(n+1)<ZO)(a1:KdAt X π μ.length H s u k)(a2:KdAt X π μ.length H s u' k')(h:oO (kM n μ) k k'=b4 b):uC A s u u' (iI (kM n μ) (oP k) (oP k')):=by
 have K:∀{vs T:gz}{its its':gw}{xs ys:List D}{c:Bool},Vals vs its->Vals T its'->IsDs X.K π μ.length H vs xs->IsDs X.K π μ.length H T ys->jO (kM n μ) xs ys=b4 c->
   ∀j (h1:j<its.length)(Y:j<its'.length),EqAt A.in1 s its[j] its'[j] (iI (kM n μ) xs ys j):=by
  intro vs T its its' xs ys c r r' i i' e j h1 Y;have l1:=r.length;have l2:=r'.length;have l3:=i.length;have l4:=i'.length;have hx:xs[j]?=b4 (xs[j]'(by lia)):=Yg _;have hy:ys[j]?=b4 (ys[j]'(by lia)):=Yg _;obtain⟨v,v1,v2⟩:=i.get hx;obtain⟨v',v1',v2'⟩:=i'.get hy;obtain⟨w,w1,w2⟩:=r.get v1;obtain⟨w',w1',w2'⟩:=r'.get v1';rw[Yg h1]at w1;rw[Yg Y]at w1';cases w1;cases w1';have key:∀{x y:D}{b:Bool},IsD X.K π μ.length H v x->IsD X.K π μ.length H v' y->kM n μ x y=b4 b->EqAt A.in1 s its[j] its'[j] b:=λ{x y b} i1 L hq=>by
   rcases DC hq with hq|⟨rfl,a,rfl,rfl⟩
   .exact ih (by rw[iY];lia) w2 w2' i1 L hq
   .cases i1;cases L;have z1:its[j]=Ye (π a):=w2;have z2:its'[j]=Ye (π a):=w2';rw[z1,z2];exact EqAt.same _
  exact key v2 v2' ((yN e).2 j _ _ hx hy)
 constructor
 .intro l b' J E e1 e2 t1 t2 j h1 Y;subst e1;subst e2;cases a1 with
  |tup p vs its e q i r t=>
   cases e;cases a2 with
   |tup p2 U G d q2 L Z R=>
    cases d;have z1:J=its.toArray:=by obtain⟨o,M,g2,n1,O⟩:=t1;obtain⟨o',z,N,Q,B⟩:=t;rw[M]at z;cases z;rw[O]at B;injection B
    have z2:E=G.toArray:=by obtain⟨o,M,g2,n1,O⟩:=t2;obtain⟨o',z,N,Q,B⟩:=R;rw[M]at z;cases z;rw[O]at B;injection B
    subst z1;subst z2;have:=K r Z i L h j (by simpa using h1) (by simpa using Y);simpa[oP]using this
   |lst p2 U G d q2 L Z R=>cases d;exact absurd rfl (a0d R t2)|non d=>cases d|bl _ d=>cases d|int _ _ d=>cases d|str _ _ d=>cases d
  |lst p vs its e q i r t=>cases e;exact absurd rfl (a0d t t1)|non e=>cases e|bl _ e=>cases e|int _ _ e=>cases e|str _ _ e=>cases e
 .intro l b' J E e1 e2 t1 t2 j h1 Y;subst e1;subst e2;cases a1 with
  |lst p vs its e q i r t=>
   cases e;cases a2 with
   |lst p2 U G d q2 L Z R=>
    cases d;have z1:J=its.toArray:=by obtain⟨o,M,g2,n1,O⟩:=t1;obtain⟨o',z,N,Q,B⟩:=t;rw[M]at z;cases z;rw[O]at B;injection B
    have z2:E=G.toArray:=by obtain⟨o,M,g2,n1,O⟩:=t2;obtain⟨o',z,N,Q,B⟩:=R;rw[M]at z;cases z;rw[O]at B;injection B
    subst z1;subst z2;have:=K r Z i L h j (by simpa using h1) (by simpa using Y);simpa[oP]using this
   |tup p2 U G d q2 L Z R=>cases d;exact absurd rfl (a0d t2 R)|non d=>cases d|bl _ d=>cases d|int _ _ d=>cases d|str _ _ d=>cases d
  |tup p vs its e q i r t=>cases e;exact absurd rfl (a0d t1 t)|non e=>cases e|bl _ e=>cases e|int _ _ e=>cases e|str _ _ e=>cases e
theorem yO(I:Inv X b0l σ H s)(R:Rp X.K π H μ):∀n{A}{v c}{u a}{x y}{b},A.units+n<ZO->RelV v u->RelV c a->IsD X.K π μ.length H v x->IsD X.K π μ.length H c y->dC n μ x y=b4 b->EqAt A s u a b:=by
 intro n;induction n with
 |zero=>intro A v c u a x y b _ _ _ _ _ h;cases h|succ n L=>
  intro A v c u a x y b K r p j o h;have B:=h;obtain⟨k,E,h⟩:=X0.mp h;obtain⟨N,G,h⟩:=X0.mp h;have d:=oQ I R j r E;have e:=oQ I R o p G;by_cases i:u=a
  .subst i;have:v=c:=r.inj p;subst this;have:=Mr I R (n+1) r j o B;subst this;exact EqAt.same _
  .have J:=DE I L K d e h;rw[DD h];exact Mq d.isK e.isK (by lia) J λl M q w z=>i (by rw[q,w,z])
theorem DF(I:Inv X b0l σ H s)(R:Rp X.K π H μ)n(o:A.units+n<ZO)(r:RelV v u)(w:RelV i d)(p:IsD X.K π μ.length H v x)(q:IsD X.K π μ.length H i y)(h:dC n μ x y=b4 b):
  RcAt A s u d b/\RcNeAt A s u d (!b):=by
 cases n with
 |zero=>cases h|succ n=>obtain⟨k,j,h⟩:=X0.mp h;obtain⟨z,l,h⟩:=X0.mp h;have a:=oQ I R p r j;have c:=oQ I R q w l;have e:=DE I (A:=A) (yO I R n) o a c h;rw[DD h];exact⟨yK a.isK c.isK (by lia) e,Mp a.isK c.isK (by lia) e⟩
end
noncomputable def lR(g:Int->Int->Option Int):D->D->Hm->jk
 |.int i,.int j,μ=>(g i j).map λz=>(.int z,μ)|_,_,_=>b6
theorem DG(h:lR g x y a=b4 (d,μ')):∃i j z,x=.int i/\y=.int j/\g i j=b4 z/\d=.int z/\μ'=a:=by
 unfold lR at h;split at h
 .rename_i i j;obtain⟨z,b,c⟩:=X5.mp h;cases c;exact⟨i,j,z,rfl,rfl,b,rfl,rfl⟩
 .cases h
theorem yP{g':Int->Int->Int}(e:∀i j z,g i j=b4 z->a i j/\z=g' i j):c9 K (lR g) (rI a λi j=>.int (g' i j)):=by intro p H s x y d o q r Q R l n h k;obtain⟨i,j,z,rfl,rfl,b,rfl,rfl⟩:=DG h;cases l;cases n;obtain⟨c,rfl⟩:=e i j z b;exact⟨i,j,rfl,rfl,c,k p _ H .refl R (.int _)⟩
theorem Ms{g':Int->Int->Int}:c9 K (lR λi j=>b4 (g' i j)) (gO λi j=>.int (g' i j)):=by intro l H p x y d h n o Q R c e b k;obtain⟨i,j,z,rfl,rfl,a,rfl,rfl⟩:=DG b;cases c;cases e;cases a;exact⟨i,j,rfl,rfl,k l _ H .refl R (.int _)⟩
noncomputable def jP:=lR λi j=>b4 (i-j)
noncomputable def DH:=lR λi j=>if((-(2^64)<i/\i<2^64)\/(-(2^64)<j/\j<2^64))\/(i.natAbs<2^4000/\j.natAbs<2^4000)\/YZ i+YZ j<=134217728 then b4 (i*j)else b6
noncomputable def eV:D->D->Hm->jk
 |x,y,μ=>DH x y μ
noncomputable def jQ:=lR λi j=>if 0<j/\j<2^4000 then b4 (i/j)else b6
noncomputable def bY:=lR λi j=>if 0<j then b4 (i%j)else b6
noncomputable def CMulB(i j:Int):Prop:=CMul i j\/(i.natAbs<2^4000/\j.natAbs<2^4000)\/YZ i+YZ j<=134217728
noncomputable def DI(i j:Int):Prop:=0<j/\j<2^4000
theorem DJ(h:i.natAbs<2^4000):YZ i<=4000:=by
 unfold YZ;split
 .exact a0l _
 .rename_i b;have a:i.natAbs≠0:=by intro z;exact b (by simpa using z)
  have:=(a9Q a).mpr h;lia
theorem CMulB.ok(h:CMulB i j):a8l i j:=by
 rcases h with h|⟨b,c⟩|h
 .exact h.ok
 rotate_left
 .have a:a1U (YZ i+YZ j)=false:=by
   unfold a1U;rw[decide_eq_false];have:bitsLine=134217728:=by decide
   lia
  unfold a8l;rw[a];simp
 .have d:=DJ b;have e:=DJ c;have a:a1U (YZ i+YZ j)=false:=by
   unfold a1U;rw[decide_eq_false];have:(8000:Int)<=bitsLine:=by decide
   lia
  unfold a8l;rw[a];simp
theorem Mt:OpR X (a1Z .Mult) (rI CMulB λi j=>.int (i*j)):=xP λ_ _ _ _ _ _ _ hc q=>a9F q hc.ok
theorem Mu:OpR X (a1Z .FloorDiv) (rI DI λi j=>.int (i/j)):=xP λi j _ _ _ _ _ hc q=>by
 have c:(0:Int)<j:=hc.1;have d:j<2^4000:=hc.2;have a:j.natAbs≠0:=by lia
 have b:j.natAbs<2^4000:=by
  have:((2^4000:Nat):Int)=2^4000:=by decide
  lia
 have e:=(a9Q a).mpr b;exact a9I (by lia) (by rw[Int.fdiv_eq_ediv_of_nonneg i (by lia)];exact q) (.inl (PyProof.noPylong_of_log2 (by lia)))
theorem yQ[Decidable c]{a:Int}(h:(if c then b4 a else b6)=b4 z):c/\z=a:=by
 split at h
 .cases h;exact⟨by assumption,rfl⟩
 .cases h
theorem Mv:c9 K jP (gO λi j=>.int (i-j)):=Ms
theorem Mw:c9 K DH (rI CMulB λi j=>.int (i*j)):=yP λi j z h=>by have:=yQ h;exact this
theorem Mx:c9 K eV (rI CMulB λi j=>.int (i*j)):=Mw
theorem My:c9 K jQ (rI DI λi j=>.int (i/j)):=yP λi j z h=>by have:=yQ h;exact this
theorem Mz:c9 K bY (rI (λ_ j=>0<j) λi j=>.int (i%j)):=yP λ_ _ _ h=>yQ h
noncomputable def DK:D->Option D
 |.int i=>b4 (.int (-i))|_=>b6
noncomputable def cB:D->D->Hm->jk
 |.int i,.int j,μ=>b4 (.int (i+j),μ)|.str x,.str y,μ=>if x.length+y.length<=Yi then b4 (.str (x++y),μ)else b6|.loc a,.loc b,μ=>match μ[a]?,μ[b]? with
  |some (.lst xs),b4 (.lst ys)=>if xs.length+ys.length<=Yi then b4 (.loc μ.length,μ++[.lst (xs++ys)])else b6|_,_=>b6
 |_,_,_=>b6
noncomputable def yR(K:X2):R2:=λx y H Q=>gO (λi j=>.int (i+j)) x y H Q\/(∃i j,x=.str i/\y=.str j/\i.length+j.length<=Yi/\Q (.str (i++j)) H)\/Dh x y H Q
theorem MB:OpR X (a1Z .Add) (yR X.K):=op_add.or (op_add_str.or Lp)
noncomputable abbrev yS(K:X2):R2:=yR K
theorem MC:OpR X (a1Z .Add) (yS X.K):=MB
theorem yT(h:yR K x y H Q):yS K x y H Q:=h
theorem MH:c9 K cB (yS K):=by
 intro s H I x y d B E G Q R c e a k;unfold cB at a;split at a
 .cases a;cases c;cases e;exact yT (.inl ⟨_,_,rfl,rfl,k s _ H .refl R (.int _)⟩)
 .split at a
  .rename_i b;cases a;cases c;cases e;exact yT (.inr (.inl ⟨_,_,rfl,rfl,b,k s _ H .refl R (.str _)⟩))
  .cases a
 .split at a
  .rename_i o r w z;split at a
   .rename_i b;cases a;cases c;cases e;obtain⟨l,h,i⟩:=R.lst _ o w;obtain⟨n,v,j⟩:=R.lst _ r z;refine yT (.inr (.inr ⟨_,_,l,n,rfl,rfl,by first|exact h|exact .inl (.inl h),v,by rw[i.length,j.length];exact b,λp A=>?_⟩));obtain⟨u,R2,q⟩:=R.alloc (c:=.lst (o++r)) (o:=.lst (l++n)) A (i.append j);exact k _ _ _ u R2 iX
   .cases a
  .cases a
 .cases a
noncomputable def gC(p:Int->Int->Bool):D->D->Hm->jk
 |.int i,.int j,μ=>b4 (.bl (p i j),μ)|_,_,_=>b6
theorem iJ:c9 K (gC p) (gO λi j=>.bl (p i j)):=by
 intro h H o x y d e l n Q R b c a k;unfold gC at a;split at a
 .cases a;cases b;cases c;exact⟨_,_,rfl,rfl,k h _ H .refl R (.bl _)⟩
 .cases a
noncomputable def gD:=gC λi j=>decide (i<j)
noncomputable def oR:=gC λi j=>decide (i<=j)
noncomputable def q8:=gC λi j=>decide (j<i)
noncomputable def rA:=gC λi j=>decide (j<=i)
noncomputable def yU(K:X2)(ne:Bool):R2:=λx y H Q=>∃π a c d b,Rp K π H a/\IsD K π a.length H x c/\IsD K π a.length H y d/\dC 8 a c d=b4 b/\Q (.bl (if ne then !b else b)) H
theorem DL(c:X.A.units+8<ZO):OpR X (Zy .Eq) (yU X.K b7):=by intro a s r H x y v u Q I j k h;obtain⟨p,o,l,n,b,R,d,i,e,q⟩:=h;exact(DF I R 8 c j k d i e).1 _ _ _ _ ⟨.bl b,H,I,rfl,q⟩
theorem DM(c:X.A.units+8<ZO):OpR X (Zy .NotEq) (yU X.K b8):=by intro a s r H x y v u Q I j k h;obtain⟨p,o,l,n,b,R,d,i,e,q⟩:=h;exact(DF I R 8 c j k d i e).2 _ _ _ _ ⟨.bl (!b),H,I,rfl,q⟩
noncomputable def bE(ne:Bool):D->D->Hm->jk:=λx y a=>(dC 8 a x y).map λb=>(.bl (if ne then !b else b),a)
theorem uD:c9 K (bE ne) (yU K ne):=by intro a H l x y d n o p Q R i j h k;obtain⟨b,c,e⟩:=X5.mp h;cases e;exact⟨a,l,x,y,b,R,i,j,c,k a _ H .refl R (.bl _)⟩
noncomputable def yV:D->D->Hm->jk
 |.str i,.str j,μ=>b4 (.bl (!(ZP j i 0 j.length 1).isEmpty),μ)|_,_,_=>b6
theorem DN:c9 K yV (λx y H Q=>∃i j,x=.str i/\y=.str j/\Q (.bl (!(ZP j i 0 j.length 1).isEmpty)) H):=by
 intro h H o x y d e l n Q R b c a k;unfold yV at a;split at a
 .cases a;cases b;cases c;exact⟨_,_,rfl,rfl,k h _ H .refl R (.bl _)⟩
 .cases a
theorem uE(r:Room k A):A.units+8<ZO:=by have:=r.un;lia
theorem MJ(v:PE X a (tM X.K ma)):PE X (.UnaryOp .USub a pos) (tM X.K (λl h=>(ma l h).bind λp=>(DK p.1).map λd=>(d,p.2))):=cZ (Kj Km v) (by
 rintro I H Q ⟨B,l,h,d,z,R,E,e,k⟩;obtain⟨⟨x,A⟩,s,e⟩:=X0.mp e;obtain⟨y,n,u⟩:=X5.mp e;cases u;cases x with
 |int i=>cases n;refine⟨B,l,h,_,_,R,E,s,λj G o r q w=>?_⟩;cases w;exact⟨_,rfl,k j _ o r q (.int _)⟩
 |_=>cases n)
theorem MK(d:Gl X x)(e:X.mg x=b6)(i:Z5 x=b4 (.type n))(h:x ≠ "__name__":=by decide)(hd:(x==("__debug__":Str))=false:=by decide):PE X (.Name x pos) (tM X.K (mC (.ty n))):=
 oN (Jt (v:=.ty n) d e i rfl h hd) λ_ _ _=>.ty n
noncomputable def yW(b:Hm):D->Option String
 |.non=>b4 "NoneType"|.bl _=>b4 "bool"|.int _=>b4 "int"|.str _=>b4 "str"|.tup _=>b4 "tuple"|.rol _=>b4 "list"|.loc a=>match b[a]? with
  |some (.lst _)=>b4 "list"|some (.dK _)=>b4 "dict"|some (.dT _)=>b4 "dict"|_=>b6
 |.ty _=>b6
noncomputable def uF(t c:String):Option Bool:=match c with
 | "int"=>b4 (t=="int" || t=="bool")| "bool"=>b4 (t=="bool")| "str"=>b4 (t=="str")| "list"=>b4 (t=="list")| "tuple"=>b4 (t=="tuple")| "dict"=>b4 (t=="dict")|_=>b6
noncomputable def kN:MF:=λds a=>match ds with
 |[x,.ty c]=>(yW a x).bind λt=>(uF t c).map λb=>(.bl b,a)|_=>b6
theorem kP K(d:t = "NoneType"\/t = "bool"\/t = "int"\/t = "str"\/t = "tuple"\/t = "list"\/t = "dict")(h:uF t c=b4 b):a2E K (.type t) (.type c)=b4 b:=by
 unfold uF at h
 split at h<;>first
  | cases h;done
  | (have a:=Ym h;subst a
     rcases d with rfl|rfl|rfl|rfl|rfl|rfl|rfl<;>first|rfl|decide +kernel|(unfold a2E;simp;rfl))
end L3
namespace L3
open PySem L2
noncomputable abbrev MG:=D->aE->Hm->Option aE
inductive tMG (K:X2)(g:MG)(v:V)(σ:St)(H:Hp)(Q:St->Hp->Prop):Prop
 |mk (π:Nat->Addr)(ρ:aE)(μ:Hm)(d:D)(ρ':aE)(R:Rp K π H μ)(E:En K π μ.length H σ ρ)(i:IsD K π μ.length H v d)(hm:g d ρ μ=b4 ρ')(k:∀σ',En K π μ.length H σ' ρ'->Q σ' H):tMG K g v σ H Q
noncomputable def cW(i:Nat):MG:=λd a _=>b4 (a.set i (b4 d))
theorem DO(b:X.N.Nodup)(e:X.N[i]?=b4 x)(l:Loc X.env.scope x)(c:X.fn x=b8\/X.env.scope.names.lookup x=b4 .local:=by first|exact .inl rfl|exact .inr rfl|assumption):PG X (.Name x pos) (tMG X.K (cW i)):=by intro a s o H v u Q I r h;obtain⟨q,w,p,d,n,R,E,hd,j,k⟩:=h;cases j;exact Cz b e l c a s o H v u Q I r (k _ (E.set hd i))
noncomputable def ML(K:X2)(c:TE):TI:=λσ H R=>c σ H λx b=>∃a,x=.ref a/\(((∃xs,SqL K b a xs)/\R (xK K a) b)\/((∃xs,SqT K b a xs)/\R (xM K a) b))
theorem MM(w:PE X l u):PI X tg l (ML X.K u):=by
 intro j s G H R I h;refine aJ (w j s G H _ I h) λv c ⟨x,r,d,A,z⟩=>?_;obtain⟨a,e,q⟩:=z;subst e;cases A;rcases q with⟨⟨E,n⟩,q⟩|⟨⟨E,n⟩,q⟩
 .obtain⟨i,B,p,y⟩:=d.list n;refine a3u p.isList ?_;refine⟨c.heap.objs.size,[c.heap.objs.size],_,_,r,rfl,d.kept (t':=c.toks) λb o e=>X6 _ e,J7 a _,⟨_,Yh _ rfl,rfl,rfl⟩,λb k=>?_,q⟩;have e:b=c.heap.objs.size:=by simpa using k
  subst e;exact d.fpOk (Yd _) (d.hok.fresh (Yd _))
 .obtain⟨i,B,p,y⟩:=d.tuple n;refine a1l (show c.heap.IsTuple a i.toArray from p) ?_;refine⟨c.heap.objs.size,[c.heap.objs.size],_,_,r,rfl,d.kept (t':=c.toks) λb o e=>X6 _ e,J8 a _,⟨_,Yh _ rfl,rfl,rfl⟩,λb k=>?_,q⟩;have e:b=c.heap.objs.size:=by simpa using k
  subst e;exact d.fpOk (Yd _) (d.hok.fresh (Yd _))
structure Wk(K:X2)(J:It)(src:Hm->Nat->Option (Option D))(π:Nat->Addr)(n:Nat)(H:Hp):Prop where
 stop:∀π' μ H' i,Ext π n H π' μ.length H'->Rp K π' H' μ->src μ i=b4 b6->J.stop i H'
 go:∀π' μ H' i d,Ext π n H π' μ.length H'->Rp K π' H' μ->src μ i=b4 (b4 d)->J.go i H'/\∀x H2,J.yld i H' x H2->Ext π' μ.length H' π' μ.length H2/\Rp K π' H2 μ/\IsD K π' μ.length H2 x d
noncomputable def kQ(x:D):Hm->Nat->Option (Option D):=λa i=>(a8 a x).map λxs=>xs[i]?
theorem MN(R:Rp K π H E)(h:IsD K π E.length H v x)(G:a8 E x=b4 xs):
  ∃a,v=.ref a/\(((∃b,SqL K H a b)/\Wk K (xK K a) (kQ x) π E.length H)\/((∃b,SqT K H a b)/\Wk K (xM K a) (kQ x) π E.length H)):=by
 cases h with
 |@tup p b ds q t=>
  refine⟨p,rfl,.inr ⟨⟨b,q⟩,⟨λl k s i e n z=>?_,λl k s i d e n z=>?_⟩⟩⟩
  .simp only[kQ,a8,YG]at z;have j:ds[i]?=none:=Ym z;exact⟨b,e.sqT q,by rw[t.length];exact YV.mp j⟩
  .simp only[kQ,a8,YG]at z;have j:ds[i]?=b4 d:=Ym z;obtain⟨w,c,o⟩:=t.get j;refine⟨⟨b,w,e.sqT q,c⟩,λy L ⟨u,A⟩=>?_⟩;subst u;have:=A b (e.sqT q);rw[c]at this;cases this;exact⟨.refl,n,o.mono e⟩
 |@rol p b ds q t=>
  refine⟨p,rfl,.inl ⟨⟨b,q.sq⟩,⟨λl k s i e n z=>?_,λl k s i d e n z=>?_⟩⟩⟩
  .simp only[kQ,a8,YG]at z;have j:ds[i]?=none:=Ym z;exact⟨b,(e.roL q).sq,by rw[t.length];exact YV.mp j⟩
  .simp only[kQ,a8,YG]at z;have j:ds[i]?=b4 d:=Ym z;obtain⟨w,c,o⟩:=t.get j;refine⟨⟨b,w,(e.roL q).sq,c⟩,λy L ⟨u,A⟩=>?_⟩;subst u;have:=A b (e.roL q).sq;rw[c]at this;cases this;exact⟨.refl,n,o.mono e⟩
 |@loc a N=>
  have hc:∃b,H (π a)=b4 (.lst b):=by
   simp only[a8]at G;split at G
   .rename_i r B;obtain⟨b,c,_⟩:=R.lst a r B;exact⟨b,c⟩
   .cases G
  obtain⟨J,I⟩:=hc;refine⟨π a,rfl,.inl ⟨⟨J,.of I⟩,⟨λl k s i e n z=>?_,λl k s i d e n z=>?_⟩⟩⟩
  .simp only[kQ,a8]at z;split at z
   .rename_i r B;obtain⟨b,c,o⟩:=n.lst a r B;rw[e.pi a N]at c;have j:r[i]?=none:=Ym z;exact⟨b,.of c,by rw[o.length];exact YV.mp j⟩
   .cases z
  .simp only[kQ,a8]at z;split at z
   .rename_i r B;obtain⟨b,c,o⟩:=n.lst a r B;rw[e.pi a N]at c;have j:r[i]?=b4 d:=Ym z;obtain⟨w,M,O⟩:=o.get j;refine⟨⟨b,w,.of c,M⟩,λy L ⟨u,A⟩=>?_⟩;subst u;have:=A b (.of c);rw[M]at this;cases this;exact⟨.refl,n,O⟩
   .cases z
 |_=>cases G
noncomputable def fU(a:Hm->Nat->Option (Option D))(g:MG)(b:MS):Nat->Nat->MS
 |0,_,_,_=>b6|n+1,i,ρ,μ=>(a μ i).bind λo=>match o with
  |none=>b4 (.nx,ρ,μ)|some d=>(g d ρ μ).bind λc=>(b c μ).bind λp=>match p.1 with
   |.nx=>fU a g b n (i+1) p.2.1 p.2.2|.ct=>fU a g b n (i+1) p.2.1 p.2.2|.bk=>b4 (.nx,p.2.1,p.2.2)|.rt d=>b4 (.rt d,p.2.1,p.2.2)
theorem MP(W:Wk K J A π O M)(hE:mV K E π O M z l μ')(e1:Ext π O M B s.length H1)(R1:Rp K B H1 s)(E1:En K B s.length H1 σ1 R)(h:fU A g b n 0 R s=b4 (z,l,μ')):
  ∃Wd:Nat->Nat->St->Hp->Prop,(∃m,Wd 0 m σ1 H1)/\∀i m U H,Wd i m U H->
   (J.stop i H/\E.nx U H)\/(J.go i H/\∃N,(∀v r,N v r->∃m',m'<m/\Wd (i+1) m' v r)/\∀x r,J.yld i H x r->tMG K g x U r λσ2 Z=>tMS K b {E with nx:=N,ct:=N,bk:=E.nx} σ2 Z):=by
 have lift:∀{a:Nat->Addr}{n2:Nat}{Z:Hp}(e:Ext π O M a n2 Z){z:Fl}{l:aE}{μ':Hm},mV K E π O M z l μ'->mV K E a n2 Z z l μ':=λ{a n2 Z} e {z l μ'} k=>by
  cases z with
  |nx=>exact λu q H3 e3 R3 L=>k u q H3 (e.trans e3) R3 L|bk=>exact λu q H3 e3 R3 L=>k u q H3 (e.trans e3) R3 L|ct=>exact λu q H3 e3 R3 L=>k u q H3 (e.trans e3) R3 L|rt d=>exact KC.after k e
 refine⟨λi m U H=>∃a j G,Ext π O M a j.length H/\Rp K a H j/\En K a j.length H U G/\fU A g b m i G j=b4 (z,l,μ'),⟨n,B,s,R,e1,R1,E1,h⟩,?_⟩;rintro i m U H ⟨a,j,G,w,R2,E2,h2⟩;cases m with
 |zero=>cases h2|succ m=>
  obtain⟨o,h3,h4⟩:=X0.mp h2;cases o with
  |none=>cases h4;exact .inl ⟨W.stop a _ H i w R2 h3,hE a U H w R2 E2⟩|some d=>
   obtain⟨g1,g2⟩:=W.go a j H i d w R2 h3;obtain⟨ρ3,h5,h6⟩:=X0.mp h4;obtain⟨⟨f4,T,Q⟩,h7,h8⟩:=X0.mp h6;refine .inr ⟨g1,λv r=>∃c I p,Ext π O M c p.length r/\Rp K c r p/\En K c p.length r v I/\fU A g b m (i+1) I p=b4 (z,l,μ'),
    λv r ⟨c,I,p,a1,a2,a3,a4⟩=>⟨m,Z9 _,c,p,I,a1,a2,a3,a4⟩,λx r y=>?_⟩
   obtain⟨ex,Rx,hx⟩:=g2 x r y;have w:=w.trans ex;refine⟨a,G,j,d,ρ3,Rx,E2.mono ex,hx,h5,λq L=>⟨a,ρ3,j,f4,T,Q,Rx,L,h7,?_⟩⟩;cases f4 with
   |nx=>exact λc X H5 e5 R5 Y=>⟨c,T,Q,w.trans e5,R5,Y,h8⟩|ct=>exact λc X H5 e5 R5 Y=>⟨c,T,Q,w.trans e5,R5,Y,h8⟩|bk=>cases h8;exact λc X H5 e5 R5 Y=>hE c X H5 (w.trans e5) R5 Y|rt d'=>cases h8;exact KC.after hE w
noncomputable def iZ(lo:Int)(n:Nat):Hm->Nat->Option (Option D):=λ_ i=>b4 (if i<n then b4 (.int (lo+i))else b6)
theorem DP:Wk K (kJ lo k) (iZ lo k) π n H:=by
 refine⟨λb o c i e R z=>?_,λb o c i d e R z=>?_⟩
 .have a:=Ym z;split at a
  .cases a
  .exact a2W.mp (by assumption)
 .have a:=Ym z;split at a
  .cases a;rename_i h;exact⟨h,λx p ⟨j,l⟩=>by subst j;rw[l];exact⟨.refl,R,.int _⟩⟩
  .cases a
noncomputable def oS(y:Str):Str:="#"++y
noncomputable def aW(xs N:List Str):List Str:=N.map λy=>if xs.contains y then oS y else y
theorem mZ xs N:(aW xs N).length=N.length:=by unfold aW;simp
theorem MQ{i:Nat}(h:(aW xs N)[i]?=b4 y):∃a,N[i]?=b4 a/\((xs.contains a=b8/\y=oS a)\/(xs.contains a=b7/\y=a)):=by
 unfold aW at h;rw[Yo]at h;obtain⟨a,c,b⟩:=X5.mp h;refine⟨a,c,?_⟩;cases hc:xs.contains a with
 |true=>rw[hc]at b;exact .inl ⟨rfl,by simpa using b.symm⟩|false=>rw[hc]at b;exact .inr ⟨rfl,by simpa using b.symm⟩
noncomputable def cH(X:Cx)(scope:a0t)(a:List (Str×Addr))(C:Addr)(N:List Str)(s₀:X7)(H₀:Hp)(b:List Addr):Cx:=
 {X with N:=N,s₀:=s₀,H₀:=H₀,env:=a2o scope a C X.env,outer:=X.stack,stack:=X.stack,ex:=b,fn:=λ_=>b7,pn:=[],xe:=λ_ _=>False}
theorem DQ{env:a2Y}:∀(names:List (Str×a0Q))x,(names.map λ(n,k)=>if(k==a0y&&env.scope.kind==.function&&env.kindOf n==b4 .cell)then(n,a0I)else(n,k)).lookup x
  = (names.lookup x).map λk=>if(k==a0y&&env.scope.kind==.function&&env.kindOf x==b4 .cell)then a0I else k
 |[],_=>rfl|(n,k)::r,x=>by
  have d:=DQ (env:=env) r x;rw[Yk];by_cases c:x=n
  .subst c;have a:∀(k':a0Q)(l:List (Str×a0Q)),a2u x ((x,k')::l)=b4 k':=λk' l=>by simp[a2m]
   rw[a];show a2u x ((if(k==a0y&&env.scope.kind==.function&&env.kindOf x==b4 .cell)=b8 then(x,a0I)else(x,k))::_)=b4 (if(k==a0y&&env.scope.kind==.function&&env.kindOf x==b4 .cell)=b8 then a0I else k);split
   .rw[a]
   .rw[a]
  .have b:(x==n)=false:=by simpa using c
   have a:∀(k':a0Q)(l:List (Str×a0Q)),a2u x ((n,k')::l)=a2u x l:=λk' l=>by simp only[a2m,b]
   rw[a];show a2u x ((if(k==a0y&&env.scope.kind==.function&&env.kindOf n==b4 .cell)=b8 then(n,a0I)else(n,k))::_)=_;split
   .rw[a];exact d
   .rw[a];exact d
structure CompOk(X:Cx)(scope:a0t)(cl:List (Str×Addr))(xs:List Str):Prop where
 clos:a8C scope X.env=pure cl
 nocell:∀y∈scope.names,y.2≠.cell
 kind:scope.kind=.function
 names:∀y∈scope.names,y.2=.local->scope.names.lookup y.1=b4 .local
 here:∀x∈xs,scope.names.lookup x=b4 .local
 sub:∀y c,cl.lookup y=b4 c->X.env.cells.lookup y=b4 c
 free:∀y,scope.names.lookup y=b4 .free->(X.env.kindOf y=b4 .cell\/X.env.kindOf y=b4 .free)/\∃c,cl.lookup y=b4 c
 own:∀y,scope.names.lookup y=b4 .local->y∉aW xs X.N
 hidn:∀y∈X.N,xs.contains y=b8->scope.names.lookup (oS y)=b6
theorem CompOk.kindOf(O:CompOk X scope cl xs)C y:(a2o scope cl C X.env).kindOf y=(scope.names.lookup y).map λk=>if(k==a0y&&X.env.scope.kind==.function&&X.env.kindOf y==b4 .cell)then a0I else k:=
 DQ scope.names y
theorem CompOk.outer(O:CompOk X scope cl xs){C:Addr}(h:(a2o scope cl C X.env).kindOf y=b4 .cell\/(a2o scope cl C X.env).kindOf y=b4 .free):scope.names.lookup y=b4 .free:=by
 rw[O.kindOf]at h;cases q:scope.names.lookup y with
 |none=>rw[q]at h;rcases h with h|h<;>cases h
 |some k=>
  rw[q]at h;cases k with
  |free=>rfl|cell=>exact absurd rfl (O.nocell _ (ZH q))| «local»=>rcases h with h|h<;>simp at h
  |globalExplicit=>rcases h with h|h<;>simp at h
  |globalImplicit=>rcases h with h|h<;>simp at h
theorem CompOk.inv{σ:St}(O:CompOk X scope cl xs)(I:Inv X b0l σ H s)(E:∀b∈Y,gN X b0l H b)(hob:∀b∈Y,∃o,s.heap.get? b=b4 o)(hns:d.Ns s.heap.objs.size m)(N:∀b o,s.heap.get? b=b4 o->d.get? b=b4 o):
  Inv (cH X scope cl s.heap.objs.size (aW xs X.N++xs) s H Y) [] (σ++a0g xs.length b6) H {s with heap:=d,toks:=tk}:=by
 refine⟨⟨I.ok.mod,O.kind,I.ok.glob,I.ok.blt,Yd _,λy z c Z B=>?_,λy hy=>?_,(λy c h=>by cases h),I.ok.hd,I.ok.frames,.inl rfl,λb J=>?_,λb o e=>I.bs b o e,Y6 I.ok.bsz I.sz,λb o e J=>?_,λb J hb2=>?_,I.stack,I.stkFree⟩,
  rfl,I.bare,Un.kept N,⟨m,hns,λi y v Z B x=>?_⟩,λy c h=>?_,I.hok.fresh (Yd _),λy c h=>I.freeC y c (O.sub y c h),λp hp=>absurd (show p∈([]:jw)from hp) (by simp),I.hok.kept N,?_⟩
 .exact I.ok.inj y z c (O.sub y c Z) (O.sub z c B)
 .exact(O.free y (O.outer hy)).2
 .obtain⟨f0,R,T,A,U,f5⟩:=E b J;obtain⟨o,M⟩:=hob b J;exact⟨Yn (Yc M),λy c h=>U y c (O.sub y c h)⟩
 .obtain⟨f0,R,T,A,U,f5⟩:=E b J;rcases A with A|A
  .exact I.ok.noex b o e A
  .exact absurd (YE (Yc (I.ok.bs b o e).1) A) (ZM _)
 .obtain⟨f0,R,T,A,U,f5⟩:=E b J;rcases YN.mp (I.stkSub b hb2)with z|z
  .exact R z
  .exact T z
 .have L:i<σ.length:=by
   by_cases L:i<σ.length
   .exact L
   .rw[a0h (a2W.mp L),a0V]at B;split at B<;>cases B
  rw[Y8 L]at B;have K:(aW xs X.N)[i]?=b4 y:=by have w:(aW xs X.N++xs)[i]?=b4 y:=Z;rw[Y8 (by rw[mZ,<- I.len];exact L)]at w;exact w
  have n:scope.names.lookup y≠b4 .local:=λz=>O.own y z (Ze K);have G:=O.kindOf s.heap.objs.size y;have h1':X.N[i]?=b4 y:=by
   obtain⟨y0,q1,Q⟩:=MQ K;rcases Q with⟨Q,q3⟩|⟨Q,q3⟩
   .exfalso;have hz:=O.hidn y0 (Ze q1) Q;rw[<- q3]at hz;rw[hz]at G;have a:(a2o scope cl s.heap.objs.size X.env).kindOf y=b4 .local\/(a2o scope cl s.heap.objs.size X.env).kindOf y=b4 .cell\/(a2o scope cl s.heap.objs.size X.env).kindOf y=b4 .free:=x;rw[G]at a;rcases a with a|a|a<;>cases a
   .rw[q3];exact q1
  have a:(a2o scope cl s.heap.objs.size X.env).kindOf y=b4 .cell\/(a2o scope cl s.heap.objs.size X.env).kindOf y=b4 .free:=by
   rcases x with x|x|x
   .exfalso;have a:(a2o scope cl s.heap.objs.size X.env).kindOf y=b4 .local:=x;rw[G]at a;cases q:scope.names.lookup y with
    |none=>rw[q]at a;cases a|some k=>
     rw[q]at a;cases k with
     | «local»=>exact n q|cell=>simp at a|free=>simp only[YG]at a;split at a<;>cases a|globalExplicit=>simp at a|globalImplicit=>simp at a
   .exact .inl x
   .exact .inr x
  obtain⟨j,c,hc⟩:=O.free y (O.outer a);obtain⟨m0,hn0,hl0⟩:=I.loc;obtain⟨u,r,l⟩:=hl0 i y v h1' B (by rcases j with j|j;exact .inr (.inl j);exact .inr (.inr j));refine⟨u,r,.inr ⟨a,c,hc,?_⟩⟩;rcases l with⟨lk,_⟩|⟨_,c',e',z⟩
  .exfalso;rcases j with j|j
   .rw[j]at lk;cases lk
   .rw[j]at lk;cases lk
  .rw[O.sub y c hc]at e';cases e';obtain⟨o,M,hd⟩:=z;exact⟨o,N c o M,hd⟩
 .obtain⟨v,q⟩:=I.cell y c (O.sub y c h);exact⟨v,by obtain⟨o,M,hd⟩:=q;exact⟨o,N c o M,hd⟩⟩
 .show(σ++a0g xs.length b6).length=(aW xs X.N++xs).length;rw[Yr,Yr,I.len,a0H,mZ]
theorem CompOk.back{σ B:St}(I:Inv X b0l σ H s)(p:∀b∈i,gN X b0l H b)(J:Inv (cH X scope cl s.heap.objs.size N s H i) pl B H' s1)(l:∀b o,b≠s.heap.objs.size->s1.heap.get? b=b4 o->h'.get? b=b4 o):Inv X b0l σ H' {s1 with heap:=h'}:=by
 have u:Un (dG X.stack) i H H' s.heap h':=by
  have h:Un (dG X.stack) i H H' s.heap s1.heap:=J.base;have ne:∀b o,s.heap.get? b=b4 o->b≠s.heap.objs.size:=λb o e=>Yn (Yc e);refine⟨λb o e n j k=>l b o (ne b o e) (h.keep b o e n j k),λb o e n j k=>?_,h.free,λb o e k=>?_,h.tups,h.frzs,h.tbls⟩
  .obtain⟨O,q⟩:=h.slot b o e n j k;exact⟨O,l b _ (ne b o e) q⟩
  .obtain⟨M,q⟩:=h.there b o e k;exact⟨M,l b _ (ne b o e) q⟩
 have a:H' s.heap.objs.size=none:=J.free;have hok:HOk X.prog X.w H' h':=λb v e=>by
  refine(J.hok b v e).stay (λc w hc q=>l c w ?_ q) (λ_ q=>q) λ_ _ q=>q;rcases hc with z|z
  .rw[z];intro A;rw[A,a]at e;cases e
  .intro A;rw[A,a]at z;cases z
 have x:s1.os=s.os:=J.os;obtain⟨T,g,d,t,y⟩:=s1;obtain rfl:y=s.os:=x;have r:=Inv.call (X:=X) (b0l:=b0l) (σ:=σ) (H:=H) (s:=s) (h':=h') (g':=g) (d':=d) (t':=t) (ch:=i) I u hok J.bare λb j=>let⟨Q,E,R,G,K,L⟩:=p b j;⟨G,E,K,L⟩;exact r
theorem MU(I:Nat->X7->Prop)(turn:∀n s,I n s->Yl (Yv prog w) A (a0X B) (λr d=>match r with
   |none=>R (.ok .next) d
   |some v=>Yl (Yv prog w) A (a3Y a B v) (λ_ e=>Yl (Yv prog w) A (a4T a env v) (λ_ l=>
     Yl (Yv prog w) A (forIn ifs b8 λc r=>if r=b8 then do let ok <- a5C c env (eval c env);pure (a0p ok)else pure (a0p r)) (λok i=>
      if ok=b8 then Yl (Yv prog w) A (eval elt env) (λx o=>
       Yl (Yv prog w) A (call (.builtin "list.append") [acc,x]) (λ_ p=>∃m,m<n/\I m p) (λ_ _=>False) o) (λ_ _=>False) i
      else ∃m,m<n/\I m i) (λ_ _=>False) l) (λ_ _=>False) e) (λ_ _=>False) d) (λ_ _=>False) s)n(h:I n s):
  a1z (Yv prog w) A (.compLoop (.ListComp elt [⟨a,iter,ifs,0⟩] scope pos) 0 B acc env) R s:=by
 refine codeAny_loop rfl I (λn s E=>?_) n h;show Yl _ A ((compTurn (.ListComp elt [⟨a,iter,ifs,0⟩] scope pos) 0 B acc env).onRaise (λx=>do a5B x env;theTreesLotGoes x)) _ _ s;refine wpAny_noted ?_;rw[compTurn_list];refine X1 (a3z (X1 (Y1 (turn n s E) (λr d j=>?_) λ_ _ b=>b.elim)));cases r with
 |none=>exact Yb j|some v=>
  refine X1 (Y1 j (λ_ e q=>?_) λ_ _ b=>b.elim);refine X1 (Y1 q (λ_ l u=>X1 (Y1 u (λok i k=>?_) λ_ _ b=>b.elim)) λ_ _ b=>b.elim);cases ok with
  |false=>exact Yb ⟨rfl,k⟩|true=>exact X1 (X1 (Y1 k (λx o y=>X1 (Y1 y (λ_ p z=>Yb (Yb ⟨rfl,z⟩)) λ_ _ b=>b.elim)) λ_ _ b=>b.elim))
noncomputable def oU(b:Hm)(a:Nat)(y:D):Option Hm:=match b[a]? with
 |some (.lst xs)=>if xs.length<Yi then b4 (b.set a (.lst (xs++[y])))else b6|_=>b6
noncomputable abbrev BD:=D->Hm->Option aE
noncomputable def m3:BD:=λd _=>b4 [b4 d]
noncomputable def jR(k:Nat):BD:=λd a=>(a8 a d).bind λxs=>if xs.length=k then b4 (xs.map b4)else b6
noncomputable def gQ(a:Hm->Nat->Option (Option D))(j:BD)(c:MT)(e:ME)(b:aE)(h:Nat):Nat->Nat->Hm->Option Hm
 |0,_,_=>b6|n+1,i,μ=>(a μ i).bind λo=>match o with
  |none=>b4 μ|some d=>(j d μ).bind λx=>(c (b++x) μ).bind λp=>match p.1 with
   |true=>(e (b++x) p.2).bind λq=>(oU q.2 h q.1).bind λk=>gQ a j c e b h n (i+1) k|false=>gQ a j c e b h n (i+1) p.2
noncomputable def dH:MT:=λ_ a=>b4 (b8,a)
noncomputable def m4(X:Cx)(ifs:List Expr)(m:MT):Prop:=
 ∀(b0l:jw)(s:X7)(σ:St)(H:Hp)(Q:Bool->Hp->Prop),Inv X b0l σ H s->tMT X.K m σ H Q->
  Yl (Yv X.prog X.w) X.A (forIn ifs b8 λc r=>if r=b8 then do let ok <- a5C c X.env (eval c X.env);pure (a0p ok)else pure (a0p r)) (TP X b0l σ Q) X.xe s
theorem MV:m4 X [] dH:=by intro a s l H Q I h;obtain⟨e,j,i,b,d,R,E,c,k⟩:=h;cases c;exact wpAny_tests_nil ⟨H,I,k e H .refl R⟩
theorem MW(h:PT X c (tMT X.K m)):m4 X [c] m:=λb0l s σ H Q I q=>wpAny_tests_one (h b0l s σ H Q I q)
theorem DR(j:t≠e):∀n i s(Q:gw->X7->Prop),s.heap.IsListIter e t i->s.heap.IsList t items->i+n<=items.size->
  (∀l,l.IsListIter e t (i+n)->a0i e s.heap l->Q ((items.toList.drop i).take n) {s with heap:=l})->Yl (Yv prog w) A (draw (.ref e) n) Q E s
 |0,i,s,Q,hit,_,_,hQ=>by show Yl _ _ (pure []) Q E s;exact Yb (by simpa using hQ s.heap hit (a2x ..))
 |n+1,i,s,Q,hit,ht,hle,hQ=>by
  have h:i<items.size:=by lia
  show Yl _ _ (a0X (.ref e) >>= _) Q E s;refine X1 (a7g hit ht (x:=items[i]) (by simp[h]) λo b a=>?_);refine X1 (YS (DR j n (i+1) _ _ b (ht.extBut a.extBut j) (by lia) λk c d=>Yb ?_));have hd:items.toList.drop i=items[i]::items.toList.drop (i+1):=by simp[a1G,h]
  have:=hQ k (by rw[show i+(n+1)=i+1+n by lia];exact c) (a.trans d);rw[hd,List.take_succ_cons]at this;exact this
theorem MX{Q:gw->X7->Prop}(u:A.handled=b6)(k:s.heap.IsList t items)(r:∀p,a3i s.heap.objs.size s.heap p->Q items.toList {s with heap:=p}):Yl (Yv prog w) A (unpackItems (.ref t) items.size b6) Q E s:=by
 have j:t≠s.heap.objs.size:=by obtain⟨o,v,_⟩:=k;exact Yn (Yc v)
 unfold unpackItems;refine X1 ?_
 .unfold notIterableAtAll;refine X1 (a2d k.typeIs slot_list_iter.lookup ?_);refine Yb ?_;simp only[YH,if_false];refine X1 (YS (a3u k ?_));refine X1 (YS (DR j items.size 0 _ _ ⟨_,Yh _ rfl,rfl,rfl⟩ (k.push _) (by lia) λl c a=>?_));have i:List.take items.size (List.drop 0 items.toList)=items.toList:=by rw[a5t];exact a1d (by simp)
  rw[i];rw[if_neg (by simp)];have h:l.IsList t items:=(k.push _).extBut a.extBut j;refine X1 (YS (a7I u c h (by simp) λn d=>?_));simp only[Option.isSome_none,YH,if_false];refine Yb (r n λb o q e=>d b o q (a.extBut b o q (X6 _ e)))
theorem MY{x1}(d:A.handled=b6)(i:s.heap.IsList t items)(e:(a0B a env).length=items.size)(b:(a0B a env).findIdx? (·.1)=b6)(h:∀c,a3i s.heap.objs.size s.heap c->Yl (Yv prog w) A (assignInOrder ((a0B a env).map (·.2)) items.toList) Q E {s with heap:=c}):
  Yl (Yv prog w) A (a4T (.Tuple a x1 pos) env (.ref t)) Q E s:=by
 rw[a9P];refine X1 (a3z ?_);unfold unpack;rw[e,b];exact X1 (YS (MX d i h))
noncomputable def m5:aE->List Nat->List D->aE
 |ρ,i::is,x::xs=>m5 (ρ.set i (b4 x)) is xs|ρ,_,_=>ρ
noncomputable def oV(a:List Nat):MG:=λd c b=>(a8 b d).bind λxs=>if xs.length=a.length then b4 (m5 c a xs)else b6
noncomputable def uG:List Nat->oJ
 |[]=>CA|i::r=>CB (xI i) (uG r)
theorem yX:∀a{vs}{xs}{σ}{c}{Q},IsDs K π n H vs xs->En K π n H σ c->xs.length=a.length->(∀b,En K π n H b (m5 c a xs)->Q b H)->uG a vs σ H Q
 |[],vs,xs,σ,c,Q,h,E,hl,k=>by
  cases h with
  |nil=>exact⟨rfl,k σ E⟩|cons h t=>cases hl
 |i::a,vs,xs,σ,c,Q,h,E,hl,k=>by
  cases h with
  |nil=>cases hl|cons h t=>exact⟨_,_,rfl,yX a t (E.set h i) (by simpa using hl) k⟩
theorem MZ(hc:X.calm=b8)(h:qQ X es (uG n))(N:(a0B es X.env).length=n.length:=by rfl)(x:(a0B es X.env).findIdx? (·.1)=none:=by rfl):
  PG X (.Tuple es k pos) (tMG X.K (oV n)):=by
 intro j s A H v u Q I r hw;obtain⟨U,ρ,T,d,ρ',R,E,hd,hm,O⟩:=hw;obtain⟨M,l,J⟩:=X0.mp hm;split at J
 .rename_i z;cases J;have w:(∃a i,v=.ref a/\SqT X.K H a i/\IsDs X.K U T.length H i M)\/(∃a i,v=.ref a/\SqL X.K H a i/\IsDs X.K U T.length H i M):=by
   cases hd with
   |tup q t=>cases l;exact .inl ⟨_,_,rfl,q,t⟩|rol q t=>cases l;exact .inr ⟨_,_,rfl,q.sq,t⟩|@loc a ha=>
    simp only[a8]at l;split at l
    .rename_i ys hy;cases l;obtain⟨i,Y,Z⟩:=R.lst a M hy;exact .inr ⟨_,i,rfl,.of Y,Z⟩
    .cases l
   |_=>cases l
  rcases w with⟨a,i,rfl,q,t⟩|⟨a,i,rfl,q,t⟩
  .cases r;obtain⟨p,y,K,hz⟩:=I.tuple q;have c:p.length=n.length:=by rw[<- y.length,t.length];exact z
   refine a9O (I.ok.hd hc) K (by simp[N,c]) x λG L=>?_;have B:Inv X j A H {s with heap:=G}:=I.kept (t':=s.toks) λb o e=>L b o (Yn (Yc e)) e;exact h j _ A H i _ Q B (by simpa using y) (yX n t E z O)
  .cases r;obtain⟨p,y,K,hz⟩:=I.list q;have c:p.length=n.length:=by rw[<- y.length,t.length];exact z
   refine MY (I.ok.hd hc) K.isList (by simp[N,c]) x λG L=>?_;have B:Inv X j A H {s with heap:=G}:=I.kept (t':=s.toks) λb o e=>L b o (Yn (Yc e)) e;exact h j _ A H i _ Q B (by simpa using y) (yX n t E z O)
 .cases J
noncomputable def yY(m:ME)(g:MG):MS:=λb c=>(m b c).bind λp=>(g p.1 b p.2).map λa=>(.nx,a,p.2)
theorem M0(q:PE X e (tM X.K m))(r:PG X tg (tMG X.K g))(s:swapsWithSole [tg] e pos.line X.env=pure false:=by rfl)(hw:a6K [tg] e X.env=pure none:=by rfl)(h1:(a0B [tg] X.env).map (·.2)=[a4T tg X.env]:=by rfl):PS X (.Assign [tg] e pos) (tMS X.K (yY m g)):=iW (J2 q r s hw h1) (by
 rintro E I H ⟨y,l,v,B,z,w,R,h,a,k⟩;obtain⟨⟨x,c⟩,h1,a⟩:=X0.mp a;obtain⟨A,p,a⟩:=X5.mp a;cases a;exact⟨y,l,v,x,c,R,h,h1,λb G o j i u=>⟨b,l,_,x,_,i,h.mono j,u,p,λd n=>k b d o j i n⟩⟩)
noncomputable def rB:MF:=λds a=>match ds with
 |[.str z]=>if z.length<=Yi then b4 (.int z.length,a)else b6|[x]=>(a8 a x).map λb=>(.int b.length,a)|_=>b6
noncomputable def yZ(K:X2):gz->Hp->VK->Prop:=λxs H Q=>(∃p ys,xs=[.ref p]/\(SqL K H p ys\/SqT K H p ys)/\Q (.int ys.length) H)\/(∃z,xs=[.str z]/\z.length<=Yi/\Q (.int z.length) H)
theorem call_lenM:CallR X (.builtin "len") (yZ X.K):=call_len_seq.or Lj
theorem m7(R:Rp K π H b)(h:IsD K π b.length H v x)(e:a8 b x=b4 xs):∃p vs,v=.ref p/\(SqL K H p vs\/SqT K H p vs)/\IsDs K π b.length H vs xs:=by
 cases h with
 |tup q t=>cases e;exact⟨_,_,rfl,.inr q,t⟩|rol q t=>cases e;exact⟨_,_,rfl,.inl q.sq,t⟩|@loc a j=>
  simp only[a8]at e;split at e
  .rename_i k i;cases e;obtain⟨vs,c,d⟩:=R.lst a xs i;exact⟨_,vs,rfl,.inl (.of c),d⟩
  .cases e
 |_=>cases e
theorem DS:dQ K rB (yZ K):=by
 intro b H s o d l n Q R i a k;unfold rB at a;split at a
 .split at a
  .rename_i h;cases a;cases i with
   |cons i t=>cases i;cases t;exact .inr ⟨_,rfl,h,k b _ H .refl R (.int _)⟩
  .cases a
 .obtain⟨r,c,e⟩:=X5.mp a;cases e;cases i with
  |cons i t=>cases t;obtain⟨p,j,rfl,q,hd⟩:=m7 R i c;refine .inl ⟨p,j,rfl,q,?_⟩;rw[hd.length];exact k b _ H .refl R (.int _)
 .cases a
noncomputable def rF:MF:=λds a=>match ds with
 |[x]=>(a8 a x).map λb=>(.loc a.length,a++[.lst b])|_=>b6
theorem DT:dQ K rF (λxs H Q=>∃p ys,xs=[.ref p]/\(SqL K H p ys\/SqT K H p ys)/\∀l,H l=b6->Q (.ref l) (upd H l (.lst ys))):=by
 intro s H r xs d n o Q R i a k;unfold rF at a;split at a
 .obtain⟨ys,e,h⟩:=X5.mp a;cases h;cases i with
  |cons i t=>cases t;obtain⟨p,b,rfl,q,hd⟩:=m7 R i e;refine⟨p,b,rfl,q,λl j=>?_⟩;obtain⟨c,R2,_⟩:=R.alloc (c:=.lst ys) (o:=.lst b) j hd;exact k _ _ _ c R2 iX
 .cases a
noncomputable def DU(K:X2):gz->Hp->VK->Prop:=λvs H Q=>∃π a x v t c b,vs=[v,.ty c]/\Rp K π H a/\IsD K π a.length H v x/\yW a x=b4 t/\uF t c=b4 b/\Q (.bl b) H
theorem M3:dQ K kN (DU K):=by
 intro c H r q d o p Q R i a k;unfold kN at a;split at a
 .obtain⟨t,e,a⟩:=X0.mp a;obtain⟨b,h,a⟩:=X5.mp a;cases a;cases i with
  |cons i l=>
   cases l with
   |cons j n=>cases n;cases j;exact⟨c,_,_,_,t,_,b,rfl,R,i,e,h,k c _ H .refl R (.bl _)⟩
 .cases a
theorem M4:CallR X (.builtin "isinstance") (DU X.K):=by
 intro J s σ H O us Q I r h;obtain⟨M,μ,x,v,t,c,b,rfl,R,i,d,k,q⟩:=h;obtain⟨u,u2,rfl,w,Y⟩:=qU r;cases Y;have fin:∀L,EP X J σ Q (.bool b) {s with toks:=L}:=λL=>⟨.bl b,H,I.tok L,rfl,q⟩;cases i with
 |non=>cases d;cases w;exact a0e PySem.W.kitx_none I.kIn a1c (kP X.K (by simp) k) (λz=>nomatch z) fin|bl y=>cases d;cases w;exact a0e PySem.W.kitx_bool I.kIn a1c (kP X.K (by simp) k) (λz=>nomatch z) fin|int y=>cases d;obtain⟨t,rfl⟩:=w;exact a0e PySem.W.kitx_int I.kIn a1c (kP X.K (by simp) k) (λz=>nomatch z) fin|str y=>cases d;obtain⟨t,rfl⟩:=w;exact a0e PySem.W.kitx_str I.kIn a1c (kP X.K (by simp) k) (λz=>nomatch z) fin|tup g t=>cases d;cases w;obtain⟨E,N,p,_⟩:=I.tuple g;obtain⟨o,e,j,_⟩:=p;exact a0e PySem.W.kitx_tuple I.kIn ⟨o,e,j⟩ (kP X.K (by simp) k) (λz=>nomatch z) fin|rol g t=>cases d;cases w;obtain⟨E,N,p,_⟩:=I.list g.sq;obtain⟨o,e,j,_⟩:=p.isList;exact a0e a6A I.kIn ⟨o,e,j⟩ (kP X.K (by simp) k) (λz=>nomatch z) fin|@loc a ha=>
  cases w;simp only[yW]at d;split at d
  .rename_i O B;cases d;obtain⟨G,A,h4⟩:=R.lst a O B;obtain⟨E,N,p,_⟩:=I.list (SqL.of (K:=X.K) A);obtain⟨o,e,j,_⟩:=p.isList;exact a0e a6A I.kIn ⟨o,e,j⟩ (kP X.K (by simp) k) (λz=>nomatch z) fin
  .rename_i l B;cases d;obtain⟨G,A,_⟩:=R.dK a l B;obtain⟨_,_,Z,_,p⟩:=(show ObjOk X.prog X.w H s.heap (M a) (.dK G)from I.hok _ _ A);obtain⟨o,U,T,e,j,_⟩:=p;exact a0e a6B I.kIn ⟨o,e,j.1⟩ (kP X.K (by simp) k) (λz=>nomatch z) fin
  .rename_i l B;cases d;obtain⟨G,A,_⟩:=R.dT a l B;obtain⟨⟨Z,_,_,_,o,U,T,e,j,_⟩,_⟩:=(show ObjOk X.prog X.w H s.heap (M a) (aM (M a) G)from I.hok _ _ A);exact a0e a6B I.kIn ⟨o,e,j.1⟩ (kP X.K (by simp) k) (λz=>nomatch z) fin
  .cases d
 |ty n=>cases d
noncomputable def y8:D->Option aU
 |.int i=>b4 (.inl i)|.str x=>b4 (.inr x)|_=>b6
noncomputable def jS(kvs:List (aU×D))(k:aU):Option D:=(kvs.find? λa=>decide (a.1=k)).map (·.2)
inductive IsKs (K:X2)(π:Nat->Addr)(n:Nat)(H:Hp):List (aU×V)->List (aU×D)->Prop where
 |nil:IsKs K π n H [] []
 |cons {k:aU}{v:V}{d:D}{vs:List (aU×V)}{ds:List (aU×D)}(h:IsD K π n H v d)(t:IsKs K π n H vs ds):IsKs K π n H ((k,v)::vs) ((k,d)::ds)
theorem IsKs.val(h:IsKs K π n H vs ds)k:(jS ds k=b6/\iE vs k=b6)\/∃v d,jS ds k=b4 d/\iE vs k=b4 v/\IsD K π n H v d:=by
 induction h with
 |nil=>exact .inl ⟨rfl,rfl⟩|@cons a c b vs ds h t l=>
  by_cases e:a=k
  .exact .inr ⟨c,b,by simp[jS,Zv,e],by simp[iE,Zv,e],h⟩
  .have i:jS ((a,b)::ds) k=jS ds k:=by simp[jS,Zv,e]
   have j:iE ((a,c)::vs) k=iE vs k:=by simp[iE,Zv,e]
   rw[i,j];exact l
theorem IsKs.length(h:IsKs K π n H vs ds):vs.length=ds.length:=by
 induction h with
 |nil=>rfl|cons h t a=>rw[YB,YB,a]
theorem DV(h:IsD K π n H y d)(e:y8 d=b4 k):y=kV k:=by cases h<;>first|cases e;done|(cases e;rfl)
noncomputable def M5(K:X2)(a:List (ME×ME)):List (TE×TE):=a.map λp=>(tM K p.1,tM K p.2)
theorem fV(r:Room k A):A.units+1<ZO:=by have:=r.un;lia
noncomputable def lT(a:ME):ME:=λc b=>(a c b).bind λp=>(DK p.1).map λd=>(d,p.2)
noncomputable def gE(cells:List (Str×Addr)):List (Str×a0Q)->List (Str×Addr)->List (Str×Addr)
 |[],acc=>acc|(n,k)::r,acc=>if k=.free then(match cells.lookup n with|some c=>gE cells r ((n,c)::acc)|none=>gE cells r acc)else gE cells r acc
theorem DW:∀names acc,(∀y∈names,y.2=.free->∃c,env.cells.lookup y.1=b4 c)->
  (forIn names acc λx b=>(do
   if x.2==.free then(do let c <- cellOf env x.1;pure (a0p ((x.1,c)::b)))else pure (a0p b):a8s (ForInStep (List (Str×Addr)))))=pure (gE env.cells names acc)
 |[],acc,_=>rfl|(n,k)::r,acc,h=>by
  have d:=λacc=>DW r acc λy i=>h y (YK _ i);rw[a8i];by_cases a:k=.free
  .subst a;obtain⟨c,hc⟩:=h (n,.free) (YQ ..) rfl;dsimp only at hc;have e:cellOf env n=pure c:=by unfold cellOf;rw[hc]
   simp only[gE,hc,e,beq_self_eq_true,if_true,pure_bind];exact d _
  .have e:(k==a0y)=false:=by simpa using a
   simp only[gE,e,a,if_false,YH,pure_bind];exact d _
theorem M6(h:∀y∈scope.names,y.2=.free->∃c,env.cells.lookup y.1=b4 c):a8C scope env=pure (gE env.cells scope.names []):=by have:=DW (env:=env) scope.names [] h;unfold a8C;simp only[bind_pure]at *;exact this
theorem uH:∀names acc,(∀y c,acc.lookup y=b4 c->cells.lookup y=b4 c)->∀y c,(gE cells names acc).lookup y=b4 c->cells.lookup y=b4 c
 |[],acc,h=>h|(n,k)::r,acc,h=>by
  unfold gE;split
  .split
   .rename_i b hc;refine uH r _ λy c e=>?_;rw[a2m]at e;by_cases a:y=n
    .subst a;simp only[beq_self_eq_true]at e;cases e;exact hc
    .have:(y==n)=false:=by simpa using a
     rw[this]at e;exact h y c e
   .exact uH r acc h
  .exact uH r acc h
theorem uI:∀names acc y,(∃c,acc.lookup y=b4 c)->∃c,(gE cells names acc).lookup y=b4 c
 |[],acc,y,h=>h|(n,k)::r,acc,y,h=>by
  unfold gE;split
  .split
   .refine uI r _ y ?_;rw[a2m];by_cases a:(y==n)=b8
    .rw[a];exact⟨_,rfl⟩
    .have:(y==n)=false:=by simpa using a
     rw[this];exact h
   .exact uI r acc y h
  .exact uI r acc y h
theorem uJ:∀names acc y,(y,a0y)∈names->(∃c,cells.lookup y=b4 c)->∃c,(gE cells names acc).lookup y=b4 c
 |[],acc,y,h,_=>by cases h
 |(n,k)::r,acc,y,h,hc=>by
  unfold gE;rcases YN.mp h with h|h
  .cases h;obtain⟨c,hc⟩:=hc;rw[if_pos rfl,hc];exact uI r _ _ ⟨c,by simp[a2m]⟩
  .split
   .split
    .exact uJ r _ y h hc
    .exact uJ r _ y h hc
   .exact uJ r _ y h hc
structure CompSt(osc:a0t)(N:List Str)(scope:a0t)(xs:List Str):Prop where
 nocell:∀y∈scope.names,y.2≠.cell
 kind:scope.kind=.function
 names:∀y∈scope.names,y.2=.local->scope.names.lookup y.1=b4 .local
 here:∀x∈xs,scope.names.lookup x=b4 .local
 free:∀y∈scope.names,y.2=.free->osc.names.lookup y.1=b4 .cell\/osc.names.lookup y.1=b4 .free
 own:∀y∈scope.names,y.2=.local->y.1∉aW xs N
 nd:N.Nodup
 hnd:(aW xs N).Nodup
 hidn:∀y∈N,xs.contains y=b8->scope.names.lookup (oS y)=b6
theorem CompSt.ok(S:CompSt X.env.scope X.N scope xs)(ok:X.Ok):CompOk X scope (gE X.env.cells scope.names []) xs:=by
 have has:∀y∈scope.names,y.2=.free->∃c,X.env.cells.lookup y.1=b4 c:=λy d b=>ok.has y.1 (S.free y d b);refine⟨M6 has,S.nocell,S.kind,S.names,S.here,uH scope.names [] (λy c e=>by cases e),λy e=>?_,λy e=>?_,S.hidn⟩
 .have a:=ZH e;exact⟨S.free _ a rfl,uJ scope.names [] y a (has _ a rfl)⟩
 .exact S.own _ (ZH e) rfl
noncomputable def bR(e:Expr):Bool:=!(e.ctorIdx==22)
theorem cX(h:bR e=b8):YJ (e::es) env=(b7,eval e env)::YJ es env:=by cases e<;>first|rfl|cases h
theorem i0:∀{es},es.all bR=b8->(a0s pos (YJ es env)).any (·.1)=b7
 |[],_=>rfl|e::es,h=>by rw[YO,X4]at h;rw[cX h.1];have:=i0 (pos:=pos) (env:=env) h.2;simpa[a0s]using this
theorem uK(h:bR e=b8):a0B (e::es) env=(b7,a4T e env)::a0B es env:=by cases e<;>first|rfl|cases h
theorem DX:∀{es},es.all bR=b8->(a0B es env).length=es.length
 |[],_=>rfl|e::es,h=>by rw[YO,X4]at h;rw[uK h.1,YB,YB,DX h.2]
theorem DY:∀{es},es.all bR=b8->(a0B es env).findIdx? (·.1)=b6
 |[],_=>rfl|e::es,h=>by rw[YO,X4]at h;rw[uK h.1,List.findIdx?_cons,DY h.2];rfl
structure QE(X:Cx)(e:Expr)(m:ME):Prop where
 h:PE X e (tM X.K m)
structure QT(X:Cx)(e:Expr)(m:MT):Prop where
 h:PT X e (tMT X.K m)
structure QW(X:Cx)(e:Expr)(m:MT):Prop where
 h:PW X e (tMT X.K m)
structure QA(X:Cx)(es:List Expr)(m:MA)(n:Nat):Prop where
 h:PA X es (tMA X.K m)
 l:∀ρ μ ds μ',m ρ μ=b4 (ds,μ')->ds.length=n
 s:es.all bR=b8
structure QO(X:Cx)(e:Option Expr)(m:MO):Prop where
 h:PO X e (tMO X.K m)
structure QS(X:Cx)(st:Stmt)(m:MS):Prop where
 h:PS X st (tMS X.K m)
structure QB(X:Cx)(st:List Stmt)(m:MS):Prop where
 h:PSs X st (tMS X.K m)
structure QG(X:Cx)(e:Expr)(g:MG):Prop where
 h:PG X e (tMG X.K g)
structure QGs(X:Cx)(es:List Expr)(is:List Nat):Prop where
 h:qQ X es (uG is)
 n:es.length=is.length
 s:es.all bR=b8
structure QI(X:Cx)(ifs:List Expr)(m:MT):Prop where
 h:m4 X ifs m
structure QP(X:Cx)(pos:ZL)(keys:List (Option Expr))(values:List Expr)(prs:List (ME×ME)):Prop where
 h:KS X pos keys values (M5 X.K prs)
 a:keys.all (·.isSome)=b8
 l:keys.length=values.length
theorem DZ i(h:X.N[i]?=b4 x:=by rfl)(j:lG X.env.scope x:=by first|exact a5M rfl|exact a4p (a5M rfl)|exact a4p (a4p rfl))(hd:(x==("__debug__":Str))=false:=by decide)(d:(x==("__classdict__":Str))=false:=by decide):QE X (.Name x pos) (aA i):=⟨LG i (oH h j hd d)⟩
theorem D0:QE X (.Constant (.int i) j pos) (mC (.int i)):=⟨LH⟩
theorem D1:QE X (.Constant (.bool i) j pos) (mC (.bl i)):=⟨LI⟩
theorem D2:QE X (.Constant (.str i) j pos) (mC (.str i)):=⟨LJ⟩
theorem D3:QE X (.Constant .none j pos) (mC .non):=⟨LK⟩
theorem rG(j:OpR X (a1Z op) r)(i:c9 X.K f r)(d:QE X a ma)(h:QE X b mb):QE X (.BinOp a op b pos) (aC f ma mb):=⟨LL j i d.h h.h⟩
theorem D4(d:QE X a ma)(h:QE X b mb):QE X (.BinOp a .Add b pos) (aC cB ma mb):=rG MC MH d h
theorem M7(d:QE X a ma)(h:QE X b mb):QE X (.BinOp a .Sub b pos) (aC jP ma mb):=rG Kk Mv d h
theorem M8(d:QE X a ma)(h:QE X b mb):QE X (.BinOp a .Mult b pos) (aC eV ma mb):=rG Mt Mx d h
theorem M9(d:QE X a ma)(h:QE X b mb):QE X (.BinOp a .FloorDiv b pos) (aC jQ ma mb):=rG Mu My d h
theorem Na(d:QE X a ma)(h:QE X b mb):QE X (.BinOp a .Mod b pos) (aC bY ma mb):=rG Kl Mz d h
theorem Nb(d:QE X a ma):QE X (.UnaryOp .USub a pos) (lT ma):=⟨MJ d.h⟩
theorem D5(d:QE X a ma):QE X (.UnaryOp .Not a pos) (mW ma):=⟨LW d.h⟩
theorem Nc(i:Room k X.A)(d:QE X a ma)(h:QE X b mb):QE X (.Compare a [.Eq] [b] pos) (aC (bE b7) ma mb):=⟨fJ (DL (uE i)) uD d.h h.h (dW _)⟩
theorem Nd(i:Room k X.A)(d:QE X a ma)(h:QE X b mb):QE X (.Compare a [.NotEq] [b] pos) (aC (bE b8) ma mb):=⟨fJ (DM (uE i)) uD d.h h.h (dW _)⟩
theorem Nf(d:QE X a ma)(h:QE X b mb):QE X (.Compare a [.Lt] [b] pos) (aC gD ma mb):=⟨fJ xQ iJ d.h h.h (dW _)⟩
theorem Ng(d:QE X a ma)(h:QE X b mb):QE X (.Compare a [.LtE] [b] pos) (aC oR ma mb):=⟨fJ xR iJ d.h h.h (dW _)⟩
theorem Nh(d:QE X a ma)(h:QE X b mb):QE X (.Compare a [.Gt] [b] pos) (aC q8 ma mb):=⟨fJ xS iJ d.h h.h (dW _)⟩
theorem Ni(d:QE X a ma)(h:QE X b mb):QE X (.Compare a [.GtE] [b] pos) (aC rA ma mb):=⟨fJ xT iJ d.h h.h (dW _)⟩
noncomputable def eM(e:Expr):Bool:=!(e.ctorIdx==7)
theorem iK(h:eM b=b8):a1t op b=false:=by cases b<;>first|rfl|cases h
theorem Nj(h:QE X a m):QE X (.BoolOp op [a] pos) m:=⟨LS h.h⟩
theorem Nk{rest:List Expr}(d:QE X a ma)(h:QE X (.BoolOp .And (b::rest) pos) mb):QE X (.BoolOp .And (a::b::rest) pos) (eL ma mb):=⟨LU d.h h.h⟩
theorem Nl{rest:List Expr}(d:QE X a ma)(h:QE X (.BoolOp .Or (b::rest) pos) mb):QE X (.BoolOp .Or (a::b::rest) pos) (yH ma mb):=⟨LV d.h h.h⟩
theorem Nm{mt:MT}(hc:QT X c mt)(d:QE X a ma)(h:QE X b mb):QE X (.IfExp c a b pos) (mX mt ma mb):=⟨LX hc.h d.h h.h⟩
theorem Nn:QA X [] aD 0:=⟨LY,L5,rfl⟩
theorem Np(i:QE X e m)(d:QA X es ms n)(h:bR e=true:=by rfl):QA X (e::es) (aB m ms) (n+1):=⟨LZ i.h d.h (cX h),L6 d.l,by rw[YO,h,d.s];rfl⟩
theorem Nq(h:QA X es ms n):QE X (.Tuple es x1 pos) (dE ms):=⟨L0 h.h⟩
theorem D6(h:QA X es ms n):QE X (.List es pos) (bV ms):=⟨L1 h.h⟩
noncomputable def lU(e:Expr):Bool:=!(e.ctorIdx==26)
theorem y9(h:lU b=b8):yA b:=by intro o i;cases b<;>first|rfl|cases h
theorem D7(d:QE X a ma)(i:QE X b mb)(h:lU b=true:=by rfl):QE X (.Subscript a b pos) (aC eD ma mb):=⟨Mb d.h i.h (y9 h)⟩
theorem Nr:QO X b6 kL:=⟨Mc⟩
theorem Nt(h:QE X e m):QO X (b4 e) (jN m):=⟨Md h.h⟩
theorem Nu(j:QE X a ma)(k:QO X lo i)(l:QO X d h):QE X (.Subscript a (.Slice lo d b6 o) pos) (mY ma i h):=⟨Mf j.h k.h l.h⟩
theorem Nv(F:FnOk X.prog X.w X.K X.mg X.base dP k f j ps (fT X.K n l))(u:Room k X.A)(s:X.mg x=b4 (.ref f))(r:Za X.K (.ref f)=b8)(o:Binds X.K j ps [])(d:QA X (e::es) ms n)(q:Gl X x:=by rfl)(h:(x==("__debug__":Str))=false:=by decide):QE X (.Call (.Name x p) (e::es) [] pos) (aF l ms):=by
 have i:=d.s;rw[YO,X4]at i;exact⟨L7 F u q s r o d.h d.l h (cX i.1) (i0 i.2)⟩
theorem Nw{id:String}(hc:CallR X (.builtin id) r)(j:dQ X.K f r)(l:X.mg x=b6)(q:Z5 x=b4 (.builtin id))(i:QA X (e::es) ms n)(k:Gl X x:=by rfl)(o:x ≠ "__name__":=by decide)(d:(x==("__debug__":Str))=false:=by decide):QE X (.Call (.Name x p) (e::es) [] pos) (aF f ms):=by
 have h:=i.s;rw[YO,X4]at h;exact⟨L8 hc j k l q i.h o d (cX h.1) (i0 h.2)⟩
theorem Nx(hc:CallR X (.type T) r)(j:dQ X.K f r)(l:X.mg x=b6)(q:Z5 x=b4 (.type T))(i:QA X (e::es) ms n)(k:Gl X x:=by rfl)(o:x ≠ "__name__":=by decide)(d:(x==("__debug__":Str))=false:=by decide):QE X (.Call (.Name x p) (e::es) [] pos) (aF f ms):=by
 have h:=i.s;rw[YO,X4]at h;exact⟨L9 hc j k l q i.h o d (cX h.1) (i0 h.2)⟩
theorem Ny(h:X.mg x=b6)(j:Z5 x=b4 (.type n))(d:Gl X x:=by rfl)(i:x ≠ "__name__":=by decide)(hd:(x==("__debug__":Str))=false:=by decide):QE X (.Name x pos) (mC (.ty n)):=⟨MK d h j i hd⟩
theorem Nz(i:Room k X.A)(d:QE X a ma)(h:QE X b mb):QT X (.Compare a [.Eq] [b] pos) (aP (aC (bE b7) ma mb)):=⟨fK (DL (uE i)) uD d.h h.h (dW _)⟩
theorem NA(i:Room k X.A)(d:QE X a ma)(h:QE X b mb):QT X (.Compare a [.NotEq] [b] pos) (aP (aC (bE b8) ma mb)):=⟨fK (DM (uE i)) uD d.h h.h (dW _)⟩
theorem NB(d:QE X a ma)(h:QE X b mb):QT X (.Compare a [.Lt] [b] pos) (aP (aC gD ma mb)):=⟨fK xQ iJ d.h h.h (dW _)⟩
theorem NC(d:QE X a ma)(h:QE X b mb):QT X (.Compare a [.LtE] [b] pos) (aP (aC oR ma mb)):=⟨fK xR iJ d.h h.h (dW _)⟩
theorem ND(d:QE X a ma)(h:QE X b mb):QT X (.Compare a [.Gt] [b] pos) (aP (aC q8 ma mb)):=⟨fK xS iJ d.h h.h (dW _)⟩
theorem NF(d:QE X a ma)(h:QE X b mb):QT X (.Compare a [.GtE] [b] pos) (aP (aC rA ma mb)):=⟨fK xT iJ d.h h.h (dW _)⟩
noncomputable def lV:Expr->Bool
 |.UnaryOp .Not ..=>b7|.BoolOp ..=>b7|.IfExp ..=>b7|.Compare ..=>b7|_=>b8
theorem D8(h:lV e=b8):∀d,a5C e env d=(do let v <- d;a7l e.pos;holding [v] (truthy v)):=by
 intro d;cases e<;>first|rfl|cases h|skip
 rename_i i x p;cases i<;>first|rfl|cases h
theorem D9(h:QE X e m)(d:lV e=true:=by rfl):QT X e (aP m):=⟨LM h.h (D8 d)⟩
theorem NG{mt:MT}(d:QT X a mt):QT X (.UnaryOp .Not a pos) (iH mt):=⟨LR d.h⟩
theorem NH{mt:MT}(d:QT X a mt):QW X (.BoolOp .And [a] pos) mt:=⟨LN d.h⟩
theorem NI{mt:MT}(d:QT X a mt):QW X (.BoolOp .Or [a] pos) mt:=⟨LO d.h⟩
theorem NJ{mt:MT}{rest:List Expr}(d:QT X a mt)(h:QW X (.BoolOp .And (b::rest) pos) mu):QW X (.BoolOp .And (a::b::rest) pos) (jL mt mu):=⟨LP d.h h.h⟩
theorem NK{mt:MT}{rest:List Expr}(d:QT X a mt)(h:QW X (.BoolOp .Or (b::rest) pos) mu):QW X (.BoolOp .Or (a::b::rest) pos) (kK mt mu):=⟨LQ d.h h.h⟩
theorem Ea{mt:MT}(h:QW X e mt):QT X e mt:=⟨h.h.pt⟩
theorem NL:QI X [] dH:=⟨MV⟩
theorem NM{mt:MT}(h:QT X c mt):QI X [c] mt:=⟨MW h.h⟩
theorem NN:QB X [] cA:=⟨Mg⟩
theorem NO{rest:List Stmt}(h1:QS X st ms)(d:QB X rest mr):QB X (st::rest) (aK ms mr):=⟨Mh h1.h d.h⟩
theorem Eb(h1:QS X st ms):QB X [st] ms:=⟨Mi h1.h⟩
theorem NP:QS X (.Pass pos) cA:=⟨Mj⟩
theorem Ec(d:QE X e m):QS X (.Return (b4 e) pos) (aQ m):=⟨Ml d.h⟩
noncomputable def eN(e:Expr):Bool:=!(e.ctorIdx==8||e.ctorIdx==9||e.ctorIdx==10)
theorem lW(h:eN e=b8):a2C e t n env=pure false:=by cases e<;>first|rfl|cases h
theorem NQ(d:QE X e m)(h:eN e=true:=by rfl):QS X (.Expr e pos) (bI m):=⟨Mm d.h (lW h)⟩
theorem Ee{mt:MT}(hc:QT X c mt)(d:QB X body ms)(h:QB X orelse mu):QS X (.If c body orelse pos) (bL mt ms mu):=⟨Mn hc.h d.h h.h⟩
theorem zA i(j:X.N.Nodup)(k:QE X e m)(h:eN e=true:=by rfl)(o:X.N[i]?=b4 x:=by rfl)(p:Loc X.env.scope x:=by first|exact a5M rfl|exact a4p rfl)(l:X.fn x=b8\/X.env.scope.names.lookup x=b4 .local:=by first|exact .inl rfl|exact .inr rfl):QS X (.Assign [.Name x d] e pos) (aO i m):=⟨Dz j o p k.h (lW h) l⟩
theorem NR i(d:X.N.Nodup)(j:X.N[i]?=b4 x:=by rfl)(k:Loc X.env.scope x:=by first|exact a5M rfl|exact a4p rfl)(h:X.fn x=b8\/X.env.scope.names.lookup x=b4 .local:=by first|exact .inl rfl|exact .inr rfl):QG X (.Name x pos) (cW i):=⟨DO d j k h⟩
theorem Ef:QGs X [] []:=⟨J0,rfl,rfl⟩
theorem Eg i(h:X.N.Nodup)(d:QGs X es is)(k:X.N[i]?=b4 x:=by rfl)(l:Loc X.env.scope x:=by first|exact a5M rfl|exact a4p rfl)(j:X.fn x=b8\/X.env.scope.names.lookup x=b4 .local:=by first|exact .inl rfl|exact .inr rfl):QGs X (.Name x pos::es) (i::is):=
 ⟨J1 (Cz h k l j) d.h (by rw[uK (e:=.Name x pos) rfl];rfl),by rw[YB,YB,d.n],by rw[YO,d.s];rfl⟩
theorem zB(h:QGs X es is)(hc:X.calm=true:=by rfl):QG X (.Tuple es k pos) (oV is):=⟨MZ hc h.h ((DX h.s).trans h.n) (DY h.s)⟩
noncomputable def zC(e:Expr):Bool:=!(e.ctorIdx==25)
theorem NS(h:zC e=b8):a6K [.Tuple es k pt] e env=pure none:=by cases e<;>first|rfl|cases h
theorem NT(d:QE X e m)(i:QG X (.Tuple es k pt) g)(h:zC e=true:=by rfl):QS X (.Assign [.Tuple es k pt] e pos) (yY m g):=
 ⟨M0 d.h i.h (by cases e<;>rfl) (NS h) (by rw[uK (e:=.Tuple es k pt) rfl];rfl)⟩
theorem NU(F:Fun K x qual st f e)(S:FnScope N ps (a9 st))(d:ps.length<=N.length)(c:cG st=body)(b:∀a A outer s H E,Room k (A.deeper (a2j qual (a9 st) s.heap.objs.size f a))->
   QB (dO dP P w K mg base N qual (a9 st) f a A outer s H E).nox body m):FnOk P w K mg base dP (k+1) f e ps (fT K ps.length (q0 N.length m)):=
 Mo F S d λa A outer s H E h=>by rw[c];exact(b a A outer s H E h).h
noncomputable abbrev eW:=Hm->Nat->Option (Option D)
noncomputable abbrev MI:=aE->Hm->Option (eW×Nat×Hm)
inductive tMI (K:X2)(m:MI)(σ:St)(H:Hp)(R:It->Hp->Prop):Prop
 |mk (π:Nat->Addr)(ρ:aE)(μ:Hm)(src:eW)(n:Nat)(μ':Hm)(r:Rp K π H μ)(E:En K π μ.length H σ ρ)(hm:m ρ μ=b4 (src,n,μ'))(k:∀π' H' J,Ext π μ.length H π' μ'.length H'->Rp K π' H' μ'->Wk K J src π' μ'.length H'->R J H'):tMI K m σ H R
structure QJ(X:Cx)(e:Expr)(m:MI):Prop where
 h:∀tg,PI X tg e (tMI X.K m)
noncomputable def Eh:MI:=λ_ _=>b6
theorem NV:QJ X e Eh:=⟨λtg b0l s σ H R I hw=>by
 obtain⟨i,j,h,b,n,c,d,E,a,k⟩:=hw;cases a⟩
noncomputable def rH(x:Str):List D:=x.cps.toList.map λc=>.str ⟨#[c]⟩
noncomputable def jT(a:Hm):D->Option (List D)
 |.str x=>b4 (rH x)|d=>a8 a d
noncomputable def dX(x:D):eW:=λa i=>(jT a x).map λxs=>xs[i]?
noncomputable def zD(x:Str):It:=⟨λi _=>i<x.cps.size,λi H v H'=>H'=H/\∃c,x.cps[i]?=b4 c/\v=.str ⟨#[c]⟩,λi _=>x.cps.size<=i⟩
theorem NW(J:T="str_ascii_iterator"\/T="str_iterator")a x t:Turn Qc P w K tg (zD x) [a] a (λi h=>h.IsStrIter a T x t i) where
 mem:=by simp
 obj:=λi h st b j=>by
  have e:b=a:=by simpa using j
  subst e;obtain⟨o,e,c,d⟩:=st;exact⟨o,e,λv z=>by rw[d]at z;cases z⟩
 keep:=λi h n st k=>let⟨o,e,c,d⟩:=st;⟨o,k a (by simp) o e,c,d⟩;item:=by
  intro X O hw N hc i l s U H E I L st Q;subst O hw N;obtain⟨r,y,f2,A,B,G⟩:=L a (by simp);have W:Walks X.prog X.w X.A a [a] [a] x.cps.size (SignAt x) (λi h=>h.IsStrIter a T x t i):=by
   rcases J with rfl|rfl
   .exact Walks.strAscii (I.ok.hd hc) a x t
   .exact Walks.strWide (I.ok.hd hc) a x t
  refine W.item i s _ _ Q st λv n R hv q kk=>?_;obtain⟨c,u,hx,rfl⟩:=hv;have Y:Inv X l U H {s with heap:=n,toks:=R}:=I.turned (λb o j e=>kk b o (by simpa using j) e) r y A B G;obtain⟨o,e,Z,d⟩:=id q;exact⟨_,rfl,lH (s:={s with heap:=n,toks:=R}) e Z d (by rcases J with rfl|rfl<;>decide) ⟨.str ⟨#[c]⟩,H,Y,⟨u,rfl⟩,⟨rfl,c,hx,rfl⟩,q,λb j=>(L b j).1⟩⟩
 done:=by
  intro X O hw N hc i l s U H E I L st Q;subst O hw N;obtain⟨r,y,f2,A,B,G⟩:=L a (by simp);have p:x.cps.size<=i:=Q;rcases J with rfl|rfl
  .exact wpAny_pyNext_ascii_end (I.ok.hd hc) st (by simp[p]) λn M=>⟨rfl,I.turned (t':=s.toks) (λb o j e=>M b o j e) r y A B G⟩
  .exact wpAny_pyNext_wide_end (I.ok.hd hc) st (by simp[p]) λn M=>⟨rfl,I.turned (t':=s.toks) (λb o j e=>M b o j e) r y A B G⟩
 self:=λ_ _ _ _ _ st h=>by
  rcases J with rfl|rfl
  .exact wpAny_pyIter_striter_ascii st h
  .exact wpAny_pyIter_striter_wide st h
theorem NX(r:PE X l k):PI X tg l (λσ H R=>k σ H λv d=>∃x,v=.str x/\R (zD x) d):=by
 intro c s σ H R I h;refine aJ (r c s σ H _ I h) λv a ⟨y,d,i,w,u⟩=>?_;obtain⟨x,e,q⟩:=u;subst e;obtain⟨t,rfl⟩:=w;have fin:∀T,(T="str_ascii_iterator"\/T="str_iterator")->xJ X c σ tg R (.ref a.heap.objs.size) {a with heap:=a.heap.push {cls:=.type T,data:=.fields #[.str x t,.int 0 0]}}:=λT n=>by
  refine⟨a.heap.objs.size,[a.heap.objs.size],_,_,d,rfl,i.kept (t':=a.toks) λb o e=>X6 _ e,NW n _ x t,⟨_,Yh _ rfl,rfl,rfl⟩,λb p=>?_,q⟩;have e:b=a.heap.objs.size:=by simpa using p
  subst e;exact i.fpOk (Yd _) (i.hok.fresh (Yd _))
 cases j:x.cps.all (·<128)
 .exact wpAny_pyIter_wide j (fin _ (.inr rfl))
 .exact wpAny_pyIter_ascii j (fin _ (.inl rfl))
theorem NY:Wk K (zD x) (dX (.str x)) π n H:=by
 refine⟨λb q k i e R z=>?_,λb q k i d e R z=>?_⟩
 .have a:(rH x)[i]?=none:=Ym z;have:=YV.mp a;rw[rH,X3,a0j]at this;exact this
 .have a:(rH x)[i]?=b4 d:=Ym z;unfold rH at a;rw[Yo,ZG]at a;obtain⟨c,j,p⟩:=X5.mp a;subst p;refine⟨(Zx.mp j).1,λv r ⟨l,s,h,o⟩=>?_⟩;subst l;rw[j]at h;cases h;rw[o];exact⟨.refl,R,.str _⟩
noncomputable def cI(m:ME):MI:=λb a=>(m b a).bind λp=>(jT p.2 p.1).map λxs=>(dX p.1,xs.length+1,p.2)
theorem NZ(h:QE X e m):QJ X e (cI m):=⟨λtg b0l s σ H R I hw=>by
 obtain⟨G,J,B,M,n,Q,u,E,d,k⟩:=hw;obtain⟨⟨x,r⟩,w,d⟩:=X0.mp d;obtain⟨O,K,d⟩:=X5.mp d;cases d;have o:∀(y:a8 r x=b4 O)(A:dX x=kQ x),Yl (Yv X.prog X.w) X.A (eval e X.env) (λv L=>Yl (Yv X.prog X.w) X.A (a5A v) (xJ X b0l σ tg R) X.xe L) X.xe s:=λy A=>by
  refine MM h.h b0l s σ H R I ⟨G,J,B,x,_,u,E,w,λb N i j c l=>?_⟩;obtain⟨a,e,q⟩:=MN c l y;subst e;refine⟨a,rfl,?_⟩;dsimp only at k;rw[A]at k;rcases q with⟨p,W⟩|⟨p,W⟩
  .exact .inl ⟨p,k b i _ j c W⟩
  .exact .inr ⟨p,k b i _ j c W⟩
 cases x with
 |str z=>refine NX h.h b0l s σ H R I ⟨G,J,B,.str z,_,u,E,w,λb N i j c l=>?_⟩;cases l;exact⟨z,rfl,k b i _ j c NY⟩
 |_=>exact o K rfl⟩
noncomputable def gR(ms:MA):MI:=λb a=>(ms b a).bind λp=>match p.1 with
 |[.int j]=>if -(2^62)<=j/\j<2^62 then b4 (iZ 0 j.toNat,j.toNat+1,p.2)else b6|_=>b6
theorem Ei(tr:∀o lo n,Turn q X.prog X.w X.K tg (kJ lo n) [o] o (λi h=>a1j h o (lo+(i:Nat)*1) ((n:Int)-(i:Nat)) 1))(c:Gl X "range")(d:X.mg "range"=b6)(v:QA X [a] ms n):qR q X tg (.Call (.Name "range" p) [a] [] pos) (tMI X.K (gR ms)):=λb0l s σ H R I hw=>by
 have y:=v.s;rw[YO,X4]at y;obtain⟨O,Q,M,K,T,N,B,E,b,k⟩:=hw;obtain⟨⟨x,r⟩,J,b⟩:=X0.mp b;refine Kb tr c d v.h (cX y.1) b0l s σ H R I ⟨O,Q,M,x,r,B,E,J,λu U z G A l=>?_⟩;dsimp only at b;split at b
 .rename_i j;split at b
  .rename_i w;cases b;cases l with
   |cons l L=>cases l;cases L;exact⟨j,rfl,w.1,w.2,k u z _ G A DP⟩
  .cases b
 .cases b
theorem N0(b:Gl X "range")(c:X.mg "range"=b6)(d:QA X [a] ms n):QJ X (.Call (.Name "range" p) [a] [] pos) (gR ms):=⟨λtg=>Ei oK b c d⟩
noncomputable def lX(ms:MA):MI:=λb a=>(ms b a).bind λp=>match p.1 with
 |[.int i,.int j]=>if -(2^62)<=i/\i<2^62/\-(2^62)<=j/\j<2^62 then b4 (iZ i (j-i).toNat,(j-i).toNat+1,p.2)else b6|_=>b6
theorem N3(h:Gl X "range")(l:X.mg "range"=b6)(u:QA X [a,b] ms n):QJ X (.Call (.Name "range" p) [a,b] [] pos) (lX ms):=⟨λtg b0l s σ H R I hw=>by
 have d:=u.s;rw[YO,X4,YO,X4]at d;obtain⟨O,Q,M,J,T,N,y,E,c,k⟩:=hw;obtain⟨⟨x,q⟩,A,c⟩:=X0.mp c;refine Kc h l u.h (by rw[cX d.1,cX d.2.1];rfl) (by rw[cX d.2.1];rfl) b0l s σ H R I ⟨O,Q,M,x,q,y,E,A,λr U v z w o=>?_⟩;dsimp only at c;split at c
 .rename_i i j;split at c
  .rename_i B;cases c;cases o with
   |cons o K=>
    cases o;cases K with
    |cons G L=>cases G;cases L;exact⟨i,j,rfl,B,k r v _ z w DP⟩
  .cases c
 .cases c⟩
noncomputable def cY(c:MI)(g:MG)(b:MS):MS:=λa d=>(c a d).bind λp=>fU p.1 g b p.2.1 0 a p.2.2
noncomputable def eE(d:BD)(h:MI)(c:MT)(e:ME):ME:=λb i=>(h b i).bind λp=>(gQ p.1 d c e b p.2.2.length p.2.1 0 (p.2.2++[.lst []])).map λa=>(.loc p.2.2.length,a)
noncomputable abbrev dY(a:MI)(c:MT)(e:ME):ME:=eE m3 a c e
noncomputable def gB(n:Nat)(a:BD):MG:=λd c b=>(a d b).map λx=>c.take n++x
theorem N4(l:X.N.length=n+1)(h:PG X (.Name x j) (tMG X.K (cW n))):PG X (.Name x j) (tMG X.K (gB n m3)):=by
 intro b s z H v u Q I r hw;obtain⟨w,a,q,d,y,R,E,hd,o,k⟩:=hw;cases o;refine h b s z H v u Q I r ⟨w,a,q,d,_,R,E,hd,rfl,λc i=>k c ?_⟩;have p:a.length=n+1:=by rw[<- E.len,I.len,l]
 have e:a.set n (b4 d)=a.take n++[b4 d]:=by rw[List.set_eq_take_append_cons_drop,if_pos (by lia),List.drop_of_length_le (by lia)]
 rw[e]at i;exact i
theorem Ej:∀xs a b,b.length=xs.length->m5 (a++b) (a3f a.length xs.length) xs=a++xs.map b4
 |[],a,[],_=>by simp[m5]
 |x::xs,a,y::b,h=>by have c:=Ej xs (a++[b4 x]) b (by simpa using h);rw[YB,a3p];show m5 ((a++y::b).set a.length (b4 x)) (a3f (a.length+1) xs.length) xs=_;rw[a3H _ _ (Yd _),Nat.sub_self,a0n];rw[Yr,a3I]at c;rw[a0u,List.singleton_append]at c;rw[c];simp
theorem N5(x:X.N.length=n+k)(h:PG X tg (tMG X.K (oV (a3f n k)))):PG X tg (tMG X.K (gB n (jR k))):=by
 intro b s L H v u Q I r hw;obtain⟨J,a,G,d,K,R,E,hd,z,B⟩:=hw;obtain⟨y,p,q⟩:=X5.mp z;obtain⟨o,w,c⟩:=X0.mp p;split at c
 .rename_i l;cases c;subst q;have A:a.length=n+k:=by rw[<- E.len,I.len,x]
  refine h b s L H v u Q I r ⟨J,a,G,d,m5 a (a3f n k) o,R,E,hd,(by simp only[oV,w,Yy,List.length_range',if_pos l]),λi j=>B i ?_⟩;have e:=Ej o (a.take n) (a.drop n) (by rw[a1A];lia);rw[a1i,Zs,a5k (by lia),l]at e;rw[e]at j;exact j
 .cases c
theorem N6(E:En K π n H σ (b++o))(c:o.length=k):En K π n H σ (b++a0g k b6):=by
 refine⟨by rw[E.len,Yr,Yr,a0H,c],λi d q=>?_⟩;by_cases a:i<b.length
 .rw[Y8 a]at q;exact E.get i d (by rw[Y8 a];exact q)
 .rw[a0h (a2W.mp a),a0V]at q;split at q<;>cases q
theorem Ek(O:CompOk X scope cl xs)(hq:∀b0l σ H s k,Inv X b0l σ H s->q (cH X scope cl s.heap.objs.size (aW xs X.N++xs) s H k))(hi:qR q X tg iter (tMI X.K mi))(hb':∀d μ z,bd d μ=b4 z->z.length=xs.length)(hg:∀C s₀ H₀ k,PG (cH X scope cl C (aW xs X.N++xs) s₀ H₀ k) tg (tMG X.K (gB X.N.length bd)))(hc:∀C s₀ H₀ k,m4 (cH X scope cl C (aW xs X.N++xs) s₀ H₀ k) ifs mc)(he:∀C s₀ H₀ k,PE (cH X scope cl C (aW xs X.N++xs) s₀ H₀ k) elt (tM X.K me))(hs:∀x,a1y iter X.env x=pure x){σ:St}(I:Inv X b0l σ H s)(R:Rp X.K π H μ)(E:En X.K π μ.length H σ U)(hm:eE bd mi mc me U μ=b4 (d,μ'))(fin:∀p C l H'(s':X7),Ext π μ.length H l μ'.length H'->Rp X.K l H' μ'->IsD X.K l μ'.length H' (.ref p) d->(∃m,s'.heap.Ns C m)->X.s₀.heap.objs.size<=C->C≠X.env.locals->H' C=b6->
   (∀y c,X.env.cells.lookup y=b4 c->c≠C)->(∀q∈X.pn++b0l,q.1≠C)->(∀h',(∀b o,b≠C->s'.heap.get? b=b4 o->h'.get? b=b4 o)->Inv X b0l σ H' {s' with heap:=h'})->
   compPost (Yv X.prog X.w) X.A X.xe use QQ (.ref p) C (.ok .next) s'):
  Yl (Yv X.prog X.w) X.A (comprehension (.ListComp elt [⟨tg,iter,ifs,0⟩] scope pos) scope X.env ppos (newList []) b7 (eval iter X.env) use) QQ X.xe s:=by
 obtain⟨⟨src,nt,a⟩,h1,hm⟩:=X0.mp hm;obtain⟨μ2,h3,hm⟩:=X5.mp hm;cases hm;have hit:Yl (Yv X.prog X.w) X.A (eval iter X.env) (λv s1=>Yl (Yv X.prog X.w) X.A (a5A v) (PIEq q X b0l σ tg λJ H1=>∃Y,Ext π μ.length H Y a.length H1/\Rp X.K Y H1 a/\Wk X.K J src Y a.length H1) X.xe s1) X.xe s:=
  hi b0l s σ H _ I ⟨π,U,μ,src,nt,a,R,E,h1,λY H1 J e1 R1 W=>⟨Y,e1,R1,W⟩⟩
 refine wpAny_comprehension_free rfl hs O.clos O.kind O.names (Y1 hit (λv s1 hv=>Y1 hv (λitv B h4=>?_) λ_ _ z=>z) λ_ _ z=>z);obtain⟨it,k,tn,J,H2,rfl,I2,T,st2,f2,Y,e1,R1,W⟩:=h4;refine Zi (wpAny_newFunctionEnv O.nocell (by intro y hy;simp at hy) (λZ K L=>?_) O.kind);dsimp only at K L ⊢;have hfr:H2 B.heap.objs.size=none:=I2.hok.fresh (Yd _);have I3:Inv X b0l σ (upd H2 B.heap.objs.size (.lst [])) {B with heap:=B.heap.push {cls:=.type "list",dict:=b6,data:=.seq ([]:gw).toArray}}:=
  I2.laid (t':=B.toks) (λb u e=>X6 _ e) (Yd _) ⟨a0l _,[],0,.nil,Yh _ rfl⟩
 obtain⟨e2,R2,q2⟩:=R1.alloc (c:=.lst []) (o:=.lst []) hfr .nil;generalize hs3:({B with heap:=B.heap.push {cls:=.type "list",dict:=b6,data:=.seq ([]:gw).toArray}}:X7)=s3 at I3;have G:B.heap.push {cls:=.type "list",dict:=b6,data:=.seq ([]:gw).toArray}=s3.heap:=by rw[<- hs3]
 have e12:=e1.trans e2;generalize hH3:upd H2 B.heap.objs.size (.lst [])=H3 at I3 e2 R2 e12;generalize hπ3:iG Y a.length B.heap.objs.size=π3 at e2 R2 q2 e12;have hob:∀b∈k,∃o,s3.heap.get? b=b4 o:=λb A=>by obtain⟨o,ho,_⟩:=T.obj 0 _ st2 b A;exact⟨o,by rw[<- G];exact X6 _ ho⟩
 have f3:∀b∈k,gN X b0l H3 b:=λb A=>by obtain⟨o,ho,_⟩:=T.obj 0 _ st2 b A;refine⟨?_,(f2 b A).2⟩;rw[<- hH3,aN (Yn (Yc ho))];exact(f2 b A).1
 have st3:tn 0 s3.heap:=T.keep 0 _ _ st2 λb A o e=>by rw[<- G];exact X6 _ e
 have hC:(B.heap.push {cls:=.type "list",dict:=b6,data:=.seq ([]:gw).toArray}).objs.size=s3.heap.objs.size:=by rw[G]
 rw[G]at K L;have hk1:∀b o,s3.heap.get? b=b4 o->Z.get? b=b4 o:=λb o e=>L.extBut b o (Yn (Yc e)) (X6 _ e);have E3:En X.K π3 (a++[C.lst []]).length H3 (σ++a0g xs.length b6) (U++a0g xs.length b6):=by
  have E':=E.mono e12;refine⟨by rw[Yr,Yr,E'.len,a0H,a0H],λi d' q=>?_⟩;by_cases hi:i<U.length
  .rw[Y8 hi]at q;obtain⟨v,h5,h6⟩:=E'.get i d' q;exact⟨v,by rw[Y8 (by rw[E'.len];exact hi)];exact h5,h6⟩
  .rw[a0h (a2W.mp hi),a0V]at q;split at q<;>cases q
 have hlen:U.length=X.N.length:=by rw[<- E.len];exact I.len
 have stat:∀{H':Hp}{pl:jw},(∀b∈k,H' b=b6)->pl=[]->∀b∈k,gN (cH X scope cl s3.heap.objs.size (aW xs X.N++xs) s3 H3 k) pl H' b:=λ{H' pl} hn hpl b A=>by
  obtain⟨f0,f1,f2',f3',f4,f5⟩:=f3 b A;obtain⟨o,ho⟩:=hob b A;refine⟨hn b A,Yn (Yc ho),λz=>?_,.inl A,λy c h=>f4 y c (O.sub y c h),λp hp=>?_⟩
  .rcases YN.mp (I3.stkSub b z)with z|z
   .exact f1 z
   .exact f2' z
  .subst hpl;exact absurd (show p∈([]:jw)from hp) (by simp)
 have loop:∀s4:X7,(∃tk,s4={s3 with heap:=Z,toks:=tk})->
   a1z (Yv X.prog X.w) X.A (.compLoop (.ListComp elt [⟨tg,iter,ifs,0⟩] scope pos) 0 (.ref it) (.ref B.heap.objs.size) (a2o scope cl s3.heap.objs.size X.env))
    (compPost (Yv X.prog X.w) X.A X.xe use QQ (.ref B.heap.objs.size) s3.heap.objs.size) s4:=by
  rintro s4 ⟨tk,rfl⟩;have I4:=O.inv (tk:=tk) I3 f3 hob K hk1;refine MU (λn s'=>∃i Q H' l M o,Inv (cH X scope cl s3.heap.objs.size (aW xs X.N++xs) s3 H3 k) [] Q H' s'/\tn i s'.heap/\(∀b∈k,H' b=b6)/\Ext π3 (a++[C.lst []]).length H3 l M.length H'/\Rp X.K l H' M /\
   En X.K l M.length H' Q (U++o)/\o.length=xs.length/\gQ src bd mc me U a.length n i M=b4 μ') ?_ nt
   ⟨0,_,H3,π3,a++[C.lst []],a0g xs.length b6,I4,T.keep 0 _ _ st3 λb A o e=>hk1 b o e,λb A=>(f3 b A).1,.refl,R2,E3,a0H,h3⟩
  rintro n s5 ⟨i,σ5,H5,N,μ5,o5,I5,st5,fr5,e5,R5,E5,l5,g5⟩;cases n with
  |zero=>cases g5|succ n=>
   obtain⟨o,h6,h7⟩:=X0.mp g5;cases o with
   |none=>
    cases h7;have stop:=W.stop N _ H5 i (e2.trans e5) R5 h6;refine Y1 (T.done (cH X scope cl s3.heap.objs.size (aW xs X.N++xs) s3 H3 k) rfl rfl rfl (hq b0l σ H3 s3 k I3) i [] s5 σ5 H5 (λ_ _=>False) I5 (stat fr5 rfl) st5 stop) (λr s6 ⟨hr,I6⟩=>?_) λ_ _ z=>z;subst hr;obtain⟨m6,hn6,_⟩:=id I6.loc;have hp:N a.length=B.heap.objs.size:=by rw[e5.pi a.length (by simp),q2]
    refine fin B.heap.objs.size s3.heap.objs.size N H5 s6 (e12.trans e5) R5 ?_ ⟨m6,hn6⟩ I3.sz (YW (Yn I3.lt)) I6.free (λy c hc z=>?_) (λq hq z=>?_) λh' hh=>CompOk.back I3 f3 I6 hh
    .rw[<- hp];exact .loc (YE (by simp) e5.le)
    .obtain⟨v,o,ho,_⟩:=I3.cell y c hc;exact Yn (Yc ho) z
    .exact Yn (Yc (I3.pin q hq).1) z
   |some d=>
    obtain⟨z,hz,h7⟩:=X0.mp h7;obtain⟨⟨b,μ6⟩,h8,h9⟩:=X0.mp h7;obtain⟨g1,g2⟩:=W.go N μ5 H5 i d (e2.trans e5) R5 h6;refine Y1 (T.item (cH X scope cl s3.heap.objs.size (aW xs X.N++xs) s3 H3 k) rfl rfl rfl (hq b0l σ H3 s3 k I3) i [] s5 σ5 H5 (λ_ _=>False) I5 (stat fr5 rfl) st5 g1) (λr s6 ⟨u,hr,h10⟩=>?_) λ_ _ z=>z;subst hr;refine Y1 h10 (λ_ s7 ⟨v,H7,I7,r7,y7,st7,fr7⟩=>?_) λ_ _ z=>z;obtain⟨e7,R7,hd⟩:=g2 v H7 y7;have I7':=I7.pinned (stat fr7 rfl) (T.obj _ _ st7);have e5:=e5.trans e7;refine Y1 (hg _ _ _ _ _ s7 σ5 H7 v u (λQ H'=>En X.K N μ5.length H7 Q (U++z)/\H'=H7) I7' r7
     ⟨N,U++a0g xs.length b6,μ5,d,U++z,R7,N6 (E5.mono e7) l5,hd,(by
      show(bd d μ5).map (λx=>(U++a0g xs.length b6).take X.N.length++x)=_;rw[hz,<- hlen,List.take_left];rfl),λQ E'=>⟨E',rfl⟩⟩) (λ_ s8 ⟨σ8,H8,I8,E8,z2⟩=>?_) λ_ _ z=>z
    subst z2;have again:∀{s9:X7}{H9:Hp}{j:Nat->Addr}{μ9:Hm},Inv (cH X scope cl s3.heap.objs.size (aW xs X.N++xs) s3 H3 k) ([]++qS k s7.heap) σ8 H9 s9->Ext π3 (a++[C.lst []]).length H3 j μ9.length H9->Rp X.K j H9 μ9->
      En X.K j μ9.length H9 σ8 (U++z)->gQ src bd mc me U a.length n (i+1) μ9=b4 μ'->
      ∃m,m<n+1/\∃i Q H' l M o,Inv (cH X scope cl s3.heap.objs.size (aW xs X.N++xs) s3 H3 k) [] Q H' s9/\tn i s9.heap/\(∀b∈k,H' b=b6)/\Ext π3 (a++[C.lst []]).length H3 l M.length H'/\Rp X.K l H' M /\
       En X.K l M.length H' Q (U++o)/\o.length=xs.length/\gQ src bd mc me U a.length m i M=b4 μ':=λ{s9 H9 j μ9} I9 e9 R9 E9 g9=>by
     refine⟨n,Z9 _,i+1,_,H9,j,μ9,z,I9.unpinned,T.keep _ _ _ st7 λb A o e=>(I9.pin (b,o) (ZK _ (ZK _ (tW A e)))).1,λb A=>?_,e9,R9,E9,hb' _ _ _ hz,g9⟩;obtain⟨o,e,_⟩:=T.obj _ _ st7 b A;exact(I9.pin (b,o) (ZK _ (ZK _ (tW A e)))).2.1
    refine Y1 (hc _ _ _ _ _ s8 _ H8 (λb' H'=>∃j,b'=b/\Ext N μ5.length H8 j μ6.length H'/\Rp X.K j H' μ6) I8 ⟨N,_,μ5,b,μ6,R7,E8,h8,λj H9 e9 R9=>⟨j,rfl,e9,R9⟩⟩) (λok s9 ⟨H9,I9,j,A,e9,R9⟩=>?_) λ_ _ z=>z;subst A;cases ok with
    |false=>rw[if_neg Yj];exact again I9 (e5.trans e9) R9 (E8.mono e9) h9|true=>
     rw[if_pos rfl];obtain⟨⟨dy,μ7⟩,h11,h12⟩:=X0.mp h9;obtain⟨μ8,h13,h14⟩:=X0.mp h12;refine Y1 (he _ _ _ _ _ s9 _ H9 (λy H'=>∃w,Ext j μ6.length H9 w μ7.length H'/\Rp X.K w H' μ7/\IsD X.K w μ7.length H' y dy) I9 ⟨j,_,μ6,dy,μ7,R9,E8.mono e9,h11,λw y H10 e10 R10 i10=>⟨w,e10,R10,i10⟩⟩)
      (λu' s10 ⟨y,H10,I10,ry,w,e10,R10,i10⟩=>?_) λ_ _ z=>z
     unfold oU at h13;split at h13
     .rename_i zs hz;split at h13
      .rename_i hl;cases h13;obtain⟨vs,h15,h16⟩:=R10.lst _ zs hz;have eall:=(e5.trans e9).trans e10;have hp:w a.length=B.heap.objs.size:=by rw[eall.pi a.length (by simp),q2]
       obtain⟨e11,R11⟩:=R10.put (a:=a.length) (c:=.lst (zs++[dy])) (o:=.lst (vs++[y])) (X8.mp hz).1 h15 (.inl ⟨vs,rfl⟩) (h16.append (.cons i10 .nil));rw[hp]at h15 e11 R11;refine Y1 (De (X:=cH X scope cl s3.heap.objs.size (aW xs X.N++xs) s3 H3 k) _ s10 _ H10 (.ref B.heap.objs.size) [y] (.ref B.heap.objs.size) [u'] (λ_ H'=>H'=upd H10 B.heap.objs.size (.lst (vs++[y]))) I10 rfl (.cons ry .nil)
        ⟨B.heap.objs.size,vs,y,rfl,rfl,h15,by rw[h16.length];exact hl,rfl⟩) (λ_ s11 ⟨_,H11,I11,_,z⟩=>?_) λ_ _ z=>z
       subst z;exact again I11 (eall.trans e11) R11 ((E8.mono (e9.trans e10)).mono e11) h14
      .cases h13
     .cases h13
 have l4:=loop {s3 with heap:=Z,toks:=B.toks+([]:List (Str×Value)).length} ⟨_,rfl⟩;have hst4:tn 0 Z:=T.keep 0 _ _ st3 λb A o e=>hk1 b o e;subst hs3;exact codeAny_compStart_list l4 (T.self _ 0 _ _ _ hst4 l4)
theorem Em(O:CompOk X scope cl xs)(N:∀b0l σ H s a,Inv X b0l σ H s->q (cH X scope cl s.heap.objs.size (aW xs X.N++xs) s H a))(J:qR q X tg iter (tMI X.K mi))(c:∀d u z,bd d u=b4 z->z.length=xs.length)(G:∀C s₀ H₀ a,PG (cH X scope cl C (aW xs X.N++xs) s₀ H₀ a) tg (tMG X.K (gB X.N.length bd)))(hc:∀C s₀ H₀ a,m4 (cH X scope cl C (aW xs X.N++xs) s₀ H₀ a) ifs mc)(B:∀C s₀ H₀ a,PE (cH X scope cl C (aW xs X.N++xs) s₀ H₀ a) elt (tM X.K me))(T:∀x,a1y iter X.env x=pure x):PE X (.ListComp elt [⟨tg,iter,ifs,0⟩] scope pos) (tM X.K (eE bd mi mc me)):=by
 intro b0l s σ H Q I hw;obtain⟨π,ρ,u,d,μ',R,E,K,k⟩:=hw;rw[eval_ListComp];refine Ek (use:=b6) O N J c G hc B T I R E K λp C j l s' w v Y i U M h n r back=>?_;obtain⟨m,L⟩:=i;exact⟨m,L,λy Z=>⟨.ref p,l,back y (λb o A e=>(Z.2 b A).trans e),rfl,k j _ l w v Y⟩⟩
theorem N7(O:CompOk X scope cl xs)(a:X.calm=b8)(i:PI X tg iter (tMI X.K mi))(c:∀d k z,bd d k=b4 z->z.length=xs.length)(h:∀C s₀ H₀ b,PG (cH X scope cl C (aW xs X.N++xs) s₀ H₀ b) tg (tMG X.K (gB X.N.length bd)))(hc:∀C s₀ H₀ b,m4 (cH X scope cl C (aW xs X.N++xs) s₀ H₀ b) ifs mc)(e:∀C s₀ H₀ b,PE (cH X scope cl C (aW xs X.N++xs) s₀ H₀ b) elt (tM X.K me))(j:∀x,a1y iter X.env x=pure x):PE X (.ListComp elt [⟨tg,iter,ifs,0⟩] scope pos) (tM X.K (eE bd mi mc me)):=Em O (λ_ _ _ _ _ _=>a) i c h hc e j
theorem N8(O:CompOk X scope cl xs)(hN:X.N.Nodup)(j:X.calm=b8)(hi:PI X tg iter (tMI X.K mi))(G:∀d Z z,bd d Z=b4 z->z.length=xs.length)(hg:∀C s₀ H₀ q,PG (cH X scope cl C (aW xs X.N++xs) s₀ H₀ q) tg (tMG X.K (gB X.N.length bd)))(hc:∀C s₀ H₀ q,m4 (cH X scope cl C (aW xs X.N++xs) s₀ H₀ q) ifs mc)(he:∀C s₀ H₀ q,PE (cH X scope cl C (aW xs X.N++xs) s₀ H₀ q) elt (tM X.K me))(hs:∀x,a1y iter X.env x=pure x)(hy:X.N[i]?=b4 y)(Y:X.env.scope.names.lookup y=b4 .local)(L:a2C (.ListComp elt [⟨tg,iter,ifs,0⟩] scope pos) (b4 (.Name y py)) h.line X.env=pure b8):
  PS X (.Assign [.Name y py] (.ListComp elt [⟨tg,iter,ifs,0⟩] scope pos) h) (tMS X.K (aO i (eE bd mi mc me))):=by
 intro n s σ H EN I hw;obtain⟨π,ρ,Z,fl,ρ',μ',R,E,J,k⟩:=hw;obtain⟨⟨d,μ1⟩,h1,J⟩:=X5.mp J;cases J;rw[exec_Assign_Name_used _ _ _ _ L];refine X1 (a3z ?_);refine X1 (X1 ?_);refine Ek (use:=b4 (a4T (.Name y py) X.env)) (QQ:=λ_ v=>Yl (Yv X.prog X.w) X.A (pure ()) (λ_ N=>Yl (Yv X.prog X.w) X.A (pure Flow.next) (SP X n EN) X.xe N) X.xe v) O (λ_ _ _ _ _ _=>j) hi G hg hc he hs I R E h1 λp C T w v U R1 i1 K M r l c u back=>?_;obtain⟨m,hn⟩:=K;have I1:Inv X n σ w v:=back v.heap λb o _ e=>e;show Yl (Yv X.prog X.w) X.A (a4T (.Name y py) X.env (.ref p)) _ X.xe v;refine a8Q ?_;refine tV I1 hN hy (.inl Y) (show RelV (.ref p) (.ref p)from rfl) (λs2 I2 ⟨a,sb,B⟩=>?_) (.inr Y);have A:C≠a:=by
  rcases B with rfl|B
  .exact r
  .exact YW (c _ _ B)
 refine⟨m,hn.sameBut sb A,λh' Q=>Yb (Yb ?_)⟩;refine⟨σ.set i (b4 (.ref p)),w,I2.turned (t':=s2.toks) (λb o hb e=>(Q.2 b hb).trans e) l r (.inr M) c u,?_⟩;exact k T _ w U R1 ((E.mono U).set i1 i)
noncomputable def aX:ME:=λ_ _=>b6
noncomputable def jU:MT:=λ_ _=>b6
noncomputable def bP:MS:=λ_ _=>b6
section
variable{X:Cx}{e a b c o:Expr}{m m1 m2 ma mb mc:ME}{pos:ZL}{mt mu:MT}{rest es:List Expr}{ms:MA}{n:Nat}
theorem bD:QE X e aX:=⟨λb0l s σ H Q I h=>by
 obtain⟨p,q,l,d,j,R,E,i,k⟩:=h;cases i⟩
theorem uL:QT X e jU:=⟨λb0l s σ H Q I h=>by
 obtain⟨p,q,l,d,j,R,E,i,k⟩:=h;cases i⟩
theorem N9:QW X e jU:=⟨λl b0l s σ H Q I h=>by
 obtain⟨q,r,p,d,j,R,E,i,k⟩:=h;cases i⟩
theorem cC:QS X st bP:=⟨λb0l s σ H D I h=>by
 obtain⟨q,r,p,l,j,i,R,E,d,k⟩:=h;cases d⟩
theorem uM(p:∀d l j,g d l j=b6):QG X e g:=⟨λb0l s σ H v u Q I r h=>by
 obtain⟨w,l,j,d,q,R,E,hd,i,k⟩:=h;rw[p]at i;cases i⟩
theorem m8(h1:QE X e m1)(u:QE X e m2)(h:∀j i r,m j i=b4 r->m1 j i=b4 r\/m2 j i=b4 r):QE X e m:=⟨λb0l s σ H Q I q=>by
 obtain⟨p,j,i,d,l,R,E,v,k⟩:=q;rcases h j i _ v with z|z
 .exact h1.h b0l s σ H Q I ⟨p,j,i,d,l,R,E,z,k⟩
 .exact u.h b0l s σ H Q I ⟨p,j,i,d,l,R,E,z,k⟩⟩
theorem oW{m m1 m2:MT}(h1:QT X e m1)(u:QT X e m2)(h:∀j i r,m j i=b4 r->m1 j i=b4 r\/m2 j i=b4 r):QT X e m:=⟨λb0l s σ H Q I q=>by
 obtain⟨p,j,i,d,l,R,E,v,k⟩:=q;rcases h j i _ v with z|z
 .exact h1.h b0l s σ H Q I ⟨p,j,i,d,l,R,E,z,k⟩
 .exact u.h b0l s σ H Q I ⟨p,j,i,d,l,R,E,z,k⟩⟩
theorem gT{f k l:D->D->Hm->jk}(h:∀x y d r,f x y d=b4 r->k x y d=b4 r\/l x y d=b4 r) :
  ∀j d r,aC f ma mb j d=b4 r->aC k ma mb j d=b4 r\/aC l ma mb j d=b4 r:=by
 intro j d r i;obtain⟨p,s,i⟩:=X0.mp i;obtain⟨q,u,i⟩:=X0.mp i;rcases h _ _ _ _ i with z|z
 .exact .inl (X0.mpr ⟨p,s,X0.mpr ⟨q,u,z⟩⟩)
 .exact .inr (X0.mpr ⟨p,s,X0.mpr ⟨q,u,z⟩⟩)
theorem oX(h:∀i d r,m i d=b4 r->m1 i d=b4 r\/m2 i d=b4 r):∀i d r,aP m i d=b4 r->aP m1 i d=b4 r\/aP m2 i d=b4 r:=by
 intro i d r j;obtain⟨p,k,j⟩:=X0.mp j;rcases h _ _ _ k with z|z
 .exact .inl (X0.mpr ⟨p,z,j⟩)
 .exact .inr (X0.mpr ⟨p,z,j⟩)
noncomputable def oY:List D->Option (List Int)
 |[]=>b4 []|.int i::r=>(oY r).map (i::·)|_=>b6
noncomputable def cN:D->Option (List Int)
 |.tup ds=>oY ds|_=>b6
noncomputable def aT(kvs:jx)(k:List Int):Option D:=(kvs.find? λp=>decide (p.1=k)).map (·.2)
noncomputable def bS(kvs:jx)(k:List Int)(d:D):jx:=if(aT kvs k).isSome then kvs.map (λp=>if p.1=k then(p.1,d)else p)else kvs++[(k,d)]
noncomputable def aG:D->D->Hm->jk:=λx y h=>match x with
 |.loc a=>match h[a]? with
  |some (.dT kvs)=>(cN y).bind λk=>(aT kvs k).map λd=>(d,h)|some (.dF kvs)=>(cN y).bind λk=>(aT kvs k).map λd=>(d,h)|_=>eD x y h
 |_=>eD x y h
noncomputable def Eo(kvs:List (aU×D))(mb:ME):ME:=λi h=>(mb i h).bind λp=>(y8 p.1).bind λk=>(jS kvs k).map λd=>(d,p.2)
structure TabOk(X:Cx)(x:Str)(kvs:List (aU×D)):Prop where
 ex:∃(p:Addr)(vs:List (aU×V))(ws:List (aU×Value)),X.mg x=b4 (.ref p)/\(p==ZA)=b7/\(∀h:Y5,X.K.In h->h.DictOf (f6 X.prog X.w) p ws)/\KV vs ws/\∀π n H,IsKs X.K π n H vs kvs
theorem Oa(T:TabOk X x kvs)(hg:Gl X x)(hd:(x==("__debug__":Str))=b7)(hb:QE X b mb)(h:lU b=b8):QE X (.Subscript (.Name x p) b pos) (Eo kvs mb):=⟨by
 obtain⟨q,vs,ws,hm,_,O,hv,hk⟩:=T.ex;intro u s σ H Q I hw;obtain⟨π,ρ,Z,d,μ',R,E,j,k⟩:=hw;obtain⟨⟨y,l⟩,h1,j⟩:=X0.mp j;obtain⟨K,h2,j⟩:=X0.mp j;obtain⟨d',w,j⟩:=X5.mp j;cases j;have M:∀{H':Hp}{U:X7},Inv X u σ H' U->U.TypeIs (.ref q) "dict":=λI'=>(O _ I'.kIn).typeIs;refine CZ a4W.lookup (y9 h) (f7 I hg hm ?_ hd);refine aJ (hb.h u s σ H _ I ⟨π,ρ,Z,y,_,R,E,h1,λi Y r B A J=>(⟨i,B,A,J⟩:∃i,Ext π Z.length H i l.length r/\Rp X.K i r l/\IsD X.K i l.length r Y y)⟩) λiv s2 ⟨Y,r,z,r1,i,B,A,J⟩=>?_;refine⟨M z,?_⟩;have ev:=DV J h2;subst ev;have dd:=O _ z.kIn;rcases(hk i l.length r).val K with⟨N,_⟩|⟨v,d2,N,z2,z3⟩
 .rw[N]at w;cases w
 .rw[N]at w;cases w;obtain⟨w',G,L⟩:=RelO.some_of (v:=v) (o:=a4n ws K) (by rw[<- z2];exact hv.val K);exact wpAny_getItem_of (CW r1) dd.mapOf G ⟨v,r,z.tok _,L,k i v r B A z3⟩⟩
noncomputable def zE(kvs:List (aU×D))(ma:ME):ME:=λh d=>(ma h d).bind λp=>(y8 p.1).map λk=>(.bl (jS kvs k).isSome,p.2)
theorem Ob(T:TabOk X x kvs)(hg:Gl X x)(hd:(x==("__debug__":Str))=b7)(ha:QE X a ma):QE X (.Compare a [.In] [.Name x p] pos) (zE kvs ma):=⟨by
 obtain⟨q,vs,ws,hm,hs,hD,hv,hk⟩:=T.ex;intro z s σ H Q I hw;obtain⟨M,ρ,L,d,μ',R,E,i,k⟩:=hw;obtain⟨⟨y,j⟩,Y,i⟩:=X0.mp i;obtain⟨r,Z,i⟩:=X5.mp i;cases i;refine b0c (aJ (ha.h z s σ H _ I ⟨M,ρ,L,y,_,R,E,Y,λh G l A w B=>(⟨h,A,w,B⟩:∃h,Ext M L.length H h j.length l/\Rp X.K h l j/\IsD X.K h j.length l G y)⟩) λiv s2 ⟨G,l,u,r1,h,A,w,B⟩=>f7 u hg hm ?_ hd) rfl;have U:=DV B Z;subst U;have N:=hD _ u.kIn;refine wpAny_in_of (CW r1) hs N.mapOf ⟨.bl _,l,u.tok _,rfl,?_⟩;have O:(a4n ws r).isSome=(jS kvs r).isSome:=by rw[<- (hv.val r).isSome_eq];rcases(hk h j.length l).val r with⟨J,K⟩|⟨v,d2,J,K,z3⟩<;>rw[J,K]<;>rfl
 rw[O];exact k h _ l A w (.bl _)⟩
theorem Ep{σ:St}(I:Inv X b0l σ H s)(h:X.K.lookup p=b4 d):H p=none:=(I.bs p d (I.mod.kin p d h)).2
theorem Er(R:Rp K π H k)(s:d<k.length):∃u,H (π d)=b4 u/\(∀vs,u≠.tup vs)/\∀j v,(∀l,v≠HO.ext l)->u≠.frz j v:=by
 cases q:k[d]? with
 |none=>exact absurd (YV.mp q) (by lia)|some p=>
  cases p with
  |lst i=>obtain⟨vs,h,_⟩:=R.lst d i q;exact⟨_,h,(λ_ z=>nomatch z),λ_ _ _ z=>nomatch z⟩|dK i=>obtain⟨vs,h,_⟩:=R.dK d i q;exact⟨_,h,(λ_ z=>nomatch z),λ_ _ _ z=>nomatch z⟩|st i=>obtain⟨vs,h,_⟩:=R.st d i q;exact⟨_,h,(λ_ z=>nomatch z),λ_ _ _ z=>nomatch z⟩|dT i=>obtain⟨vs,h,_⟩:=R.dT d i q;exact⟨_,h,(λ_ z=>nomatch z),λ_ _ _ z=>nomatch z⟩|dF i=>obtain⟨j,vs,h,_⟩:=R.dF d i q;exact⟨_,h,(λ_ z=>nomatch z),λ_ _ n z=>n _ (by cases z;rfl)⟩|exc x r ds=>obtain⟨j,l,h,_⟩:=R.exc d x r ds q;exact⟨_,h,(λ_ z=>nomatch z),λ_ _ n z=>n _ (by cases z;rfl)⟩
section
variable{b0l:jw}{σ:St}{H:Hp}{s:X7}{π:Nat->Addr}{μ:Hm}
theorem Es(I:Inv X b0l σ H s)(R:Rp X.K π H μ)(l:i<μ.length)(h:SqT X.K H (π i) vs):False:=by
 obtain⟨u,d,j,k⟩:=Er R l;rcases h with(h|⟨r,h⟩)|⟨r,q,n,p,_⟩
 .rw[d]at h;exact j _ (Ym h)
 .rw[d]at h;exact k _ (.tup vs) (λv z=>nomatch z) (Ym h)
 .rw[Ep I p]at d;cases d
theorem Et(I:Inv X b0l σ H s)(R:Rp X.K π H μ)(k:i<μ.length)(h:RoL X.K H (π i) vs):False:=by
 obtain⟨u,d,r,j⟩:=Er R k;rcases h with⟨q,h⟩|⟨q,p,n,l,_⟩
 .rw[d]at h;exact j _ (.lst vs) (λv z=>nomatch z) (Ym h)
 .rw[Ep I l]at d;cases d
theorem Eu(I:Inv X b0l σ H s)(h:SqT X.K H p vs)(h':RoL X.K H p ws):False:=by obtain⟨i,_,t,_⟩:=I.tuple h;obtain⟨d,_,l,_⟩:=I.list h'.sq;exact absurd rfl (a0d l.isList t)
mutual
theorem zF(I:Inv X b0l σ H s)(R:Rp X.K π H μ){v:V}{d d':D}:IsD X.K π μ.length H v d->IsD X.K π μ.length H v d'->d=d'
 |.non,h'=>by cases h';rfl
 |.bl _,h'=>by cases h';rfl
 |.int _,h'=>by cases h';rfl
 |.str _,h'=>by cases h';rfl
 |.ty _,h'=>by cases h';rfl
 |.tup h t,h'=>by
  cases h' with
  |tup i j=>have:=I.tuple_inj h i;subst this;rw[zG I R t j]|rol i j=>exact(Eu I h i).elim|loc i=>exact(Es I R i h).elim
 |.rol h t,h'=>by
  cases h' with
  |tup i j=>exact(Eu I i h).elim|rol i j=>have:=I.list_inj h.sq i.sq;subst this;rw[zG I R t j]|loc i=>exact(Et I R i h).elim
 |.loc (a:=a1) ha,h'=>by
  generalize hz:V.ref (π a1)=z at h';cases h' with
  |tup i j=>cases hz;exact(Es I R ha i).elim|rol i j=>cases hz;exact(Et I R ha i).elim|loc i=>have:=R.inj _ _ ha i (V.ref.inj hz);rw[this]|_=>cases hz
theorem zG(I:Inv X b0l σ H s)(R:Rp X.K π H μ){vs:gz}{ds d:List D}:IsDs X.K π μ.length H vs ds->IsDs X.K π μ.length H vs d->ds=d
 |.nil,h'=>by cases h';rfl
 |.cons h t,h'=>by
  cases h' with
  |cons i j=>rw[zF I R h i,zG I R t j]
end
end
noncomputable def kR(a:Hm)(x:D):List D->Option Bool
 |[]=>b4 b7|y::r=>(dC 8 a y x).bind λb=>(kR a x r).map λc=>b||c
noncomputable def m9(a:Bool):D->D->Hm->jk:=λx y c=>(a8 c y).bind λys=>(kR c x ys).map λb=>(.bl (if a then !b else b),c)
noncomputable def zH(K:X2)(c:Bool):R2:=λx y H Q=>∃π a d e ys b,Rp K π H a/\IsD K π a.length H x d/\IsD K π a.length H y e/\a8 a e=b4 ys/\kR a d ys=b4 b/\Q (.bl (if c then !b else b)) H
theorem uN{c:Bool}:c9 K (m9 c) (zH K c):=by intro e H r x y d o p q Q R j l a k;obtain⟨n,h,a⟩:=X0.mp a;obtain⟨b,i,a⟩:=X5.mp a;cases a;exact⟨e,_,x,y,n,b,R,j,l,h,i,k e _ H .refl R (.bl _)⟩
theorem uO{σ:St}{e:Hm}(I:Inv X b0l σ H s)(R:Rp X.K π H e)(T:A.units+8<ZO)(rx:RelV x v)(ix:IsD X.K π e.length H x l):
  ∀{ys}{vs}{us}{b},IsDs X.K π e.length H vs ys->Vals vs us->kR e l ys=b4 b->
   ∃g,(∀u∈us,a2P A s u v (g u))/\us.any g=b:=by
 classical
 intro ys vs us b j k d
 have o:∀{ys:List D}{vs:gz}{us:gw}{b:Bool},IsDs X.K π e.length H vs ys->Vals vs us->kR e l ys=b4 b->(∀u∈us,∃c,a2P A s u v c/\∃w n,RelV w u/\IsD X.K π e.length H w n/\dC 8 e n l=b4 c):=by
  intro ys
  induction ys with
  |nil=>
   intro vs us b j k d u a
   cases j
   cases k
   cases a
  |cons y ys J=>
   intro vs us b j k d u a
   cases j with
   |cons h t=>
    cases k with
    |cons r rt=>
     obtain⟨c,B,d⟩:=X0.mp d
     obtain⟨N,E,d⟩:=X5.mp d
     rcases YN.mp a with rfl|a
     .exact⟨c,yO I R 8 T r rx h ix B,_,_,r,h,B⟩
     .exact J t rt E u a
 have p:=o j k d
 refine⟨λu=>if h:u∈us then a1n (p u h)else b7,λu a=>?_,?_⟩
 .simp only[dif_pos a]
  exact(a1X (p u a)).1
 .have K:∀u (h:u∈us) w n c,RelV w u->IsD X.K π e.length H w n->dC 8 e n l=b4 c->a1n (p u h)=c:=by
   intro u h w n c L Z M
   obtain⟨_,w2,O,r2,Y,Q⟩:=a1X (p u h)
   have:w2=w:=r2.inj L
   subst this
   have:=zF I R Y Z
   subst this
   rw[Q]at M
   exact Ym M
  have q:∀{ys:List D}{vs:gz}{i:gw}{b:Bool},(∀u∈i,u∈us)->IsDs X.K π e.length H vs ys->Vals vs i->kR e l ys=b4 b->i.any (λu=>if h:u∈us then a1n (p u h)else b7)=b:=by
   intro ys
   induction ys with
   |nil=>
    intro vs i b G j k d
    cases j
    cases k
    cases d
    rfl
   |cons y ys J=>
    intro vs i b G j k d
    cases j with
    |cons h t=>
     cases k with
     |@cons _ u _ us2 r rt=>
      obtain⟨c,B,d⟩:=X0.mp d
      obtain⟨N,E,d⟩:=X5.mp d
      have fV:u∈us:=G u (YQ ..)
      rw[a5P,J (λz U=>G z (YK _ U)) t rt E,dif_pos fV,K u fV _ _ c r h B]
      exact d
  exact q (λ_ h=>h) j k d
theorem uP(r:Room k A):A.units+9<ZO:=by have:=r.un;lia
theorem Ew(J:X.A.units+9<ZO):OpR X (Zy .In) (zH X.K b7):=by
 intro n s O H x y v u Q I l B h;obtain⟨N,M,E,G,L,b,R,k,A,o,j,q⟩:=h;obtain⟨p,K,rfl,c,hd⟩:=m7 R A o;cases B;rcases c with c|c
 .obtain⟨a,r,i,z⟩:=I.list c;obtain⟨g,d,e⟩:=uO I R (A:=X.A.in1) (by rw[iY];lia) l k hd r j;refine SeqAt.in_listAt g i.isList (λw hw=>d w (by simpa using hw)) ⟨.bl _,H,I,rfl,?_⟩;rw[show a.toArray.any g=a.any g by simp,e];exact q
 .obtain⟨a,r,i,z⟩:=I.tuple c;obtain⟨g,d,e⟩:=uO I R (A:=X.A.in1) (by rw[iY];lia) l k hd r j;refine SeqAt.in_tupleAt g i (λw hw=>d w (by simpa using hw)) ⟨.bl _,H,I,rfl,?_⟩;rw[show a.toArray.any g=a.any g by simp,e];exact q
theorem Ey(J:X.A.units+9<ZO):OpR X (Zy .NotIn) (zH X.K b8):=by
 intro n s O H x y v u Q I l B h;obtain⟨N,M,E,G,L,b,R,k,A,o,j,q⟩:=h;obtain⟨p,K,rfl,c,hd⟩:=m7 R A o;cases B;rcases c with c|c
 .obtain⟨a,r,i,z⟩:=I.list c;obtain⟨g,d,e⟩:=uO I R (A:=X.A.in1) (by rw[iY];lia) l k hd r j;refine SeqAt.notIn_listAt g i.isList (λw hw=>d w (by simpa using hw)) ⟨.bl _,H,I,rfl,?_⟩;rw[show a.toArray.any g=a.any g by simp,e];exact q
 .obtain⟨a,r,i,z⟩:=I.tuple c;obtain⟨g,d,e⟩:=uO I R (A:=X.A.in1) (by rw[iY];lia) l k hd r j;refine SeqAt.notIn_tupleAt g i (λw hw=>d w (by simpa using hw)) ⟨.bl _,H,I,rfl,?_⟩;rw[show a.toArray.any g=a.any g by simp,e];exact q
noncomputable def dA(b:Bool):D->D->Hm->jk
 |.str i,.str j,μ=>b4 (.bl (if b then !(!(ZP j i 0 j.length 1).isEmpty)else !(ZP j i 0 j.length 1).isEmpty),μ)|x,.loc a,μ=>match μ[a]? with
  |some (.dT kvs)=>(cN x).map λk=>(.bl (if b then !(aT kvs k).isSome else(aT kvs k).isSome),μ)|some (.dF kvs)=>(cN x).map λk=>(.bl (if b then !(aT kvs k).isSome else(aT kvs k).isSome),μ)|_=>m9 b x (.loc a) μ
 |x,y,μ=>m9 b x y μ
noncomputable def zI:D->D->Hm->jk
 |.str i,.str j,μ=>b4 (.bl (!(!(ZP j i 0 j.length 1).isEmpty)),μ)|_,_,_=>b6
theorem Ez:c9 K zI (λx y H Q=>∃i j,x=.str i/\y=.str j/\Q (.bl (!(!(ZP j i 0 j.length 1).isEmpty))) H):=by
 intro h H o x y d e l n Q R b c a k;unfold zI at a;split at a
 .cases a;cases b;cases c;exact⟨_,_,rfl,rfl,k h _ H .refl R (.bl _)⟩
 .cases a
noncomputable def jV(a:Bool):D->D->Hm->jk
 |x,.non,μ=>b4 (.bl (match x with|.non=>!a|_=>a),μ)|_,_,_=>b6
theorem EA:c9 K (jV b7) (λx y H Q=>y=.non/\Q (.bl (decide (x=.non))) H):=by
 intro h H l x y d e i j Q R b c a k;unfold jV at a;split at a
 .cases a;cases c;refine⟨rfl,?_⟩;cases b<;>exact k h _ H .refl R (.bl _)
 .cases a
theorem EB:c9 K (jV b8) (λx y H Q=>y=.non/\Q (.bl (!decide (x=.non))) H):=by
 intro h H l x y d e i j Q R b c a k;unfold jV at a;split at a
 .cases a;cases c;refine⟨rfl,?_⟩;cases b<;>exact k h _ H .refl R (.bl _)
 .cases a
theorem Od(c:QE X a ma)(d:QE X b mb):QE X (.Compare a [.Is] [b] pos) (aC (jV b7) ma mb):=⟨fJ CI EA c.h d.h (dW _)⟩
theorem Oe(c:QE X a ma)(d:QE X b mb):QE X (.Compare a [.IsNot] [b] pos) (aC (jV b8) ma mb):=⟨fJ CJ EB c.h d.h (dW _)⟩
theorem Of(c:QE X a ma)(d:QE X b mb):QT X (.Compare a [.Is] [b] pos) (aP (aC (jV b7) ma mb)):=⟨fK CI EA c.h d.h (dW _)⟩
theorem Og(c:QE X a ma)(d:QE X b mb):QT X (.Compare a [.IsNot] [b] pos) (aP (aC (jV b8) ma mb)):=⟨fK CJ EB c.h d.h (dW _)⟩
end
noncomputable def oZ(d:Hm):D->Bool
 |.rol _=>b8|.loc a=>match d[a]? with|some (.lst _)=>b8|_=>b7
 |_=>b7
noncomputable def dZ(f:D->List D->Hm->jk)(mo:ME)(ms:MA):ME:=λd h=>(mo d h).bind λp=>match oZ p.2 p.1 with
 |true=>(ms d p.2).bind λq=>f p.1 q.1 q.2|false=>b6
noncomputable def i7(K:X2)(f:D->List D->Hm->jk)(r:V->gz->Hp->VK->Prop):Prop:=
 ∀j H h x l d i v k Q,Rp K j H h->IsD K j h.length H v x->IsDs K j h.length H k l->f x l h=b4 (d,i)->KC K Q j h.length H d i->r v k H Q
theorem Oh(R:Rp K π H d)(h:IsD K π d.length H v x)(e:oZ d x=b8):yD K "list" v H:=by
 cases h with
 |rol h t=>exact .inl ⟨rfl,_,h.sq⟩|@loc a p=>
  simp only[oZ]at e;split at e
  .rename_i l j;obtain⟨k,i,_⟩:=R.lst a l j;exact .inl ⟨rfl,k,.of i⟩
  .cases e
 |_=>cases e
theorem Oi(I:i7 K f r):∀σ H Q,tM K (dZ f mo ms) σ H Q->C8 K "list" r (tM K mo) (tMA K ms) σ H Q:=by
 rintro σ H Q ⟨T,z,O,d,l,R,E,h,k⟩;obtain⟨⟨x,i⟩,B,h⟩:=X0.mp h;dsimp only at h;split at h
 .rename_i J;obtain⟨⟨y,j⟩,G,h⟩:=X0.mp h;refine⟨T,z,O,x,i,R,E,B,λp M U u s w=>⟨Oh s w J,p,z,i,y,j,s,E.mono u,G,λq N A v R2 L=>?_⟩⟩;exact I q A j x y d l M N Q R2 (w.mono v) L h (k.after (u.trans v))
 .cases h
noncomputable def gU:Expr->Bool
 |.Call (.Name _ _) [] [] _=>b7|_=>b8
theorem kS(h:gU o=b8):a0Y o j env d=d:=by
 cases o with
 |Call f i k p=>
  cases f with
  |Name id q=>
   cases i with
   |nil=>
    cases k with
    |nil=>cases h|cons _ _=>rfl
   |cons _ _=>rfl
  |_=>rfl
 |_=>rfl
theorem EC(h:(e::es).all bR=b8)(j:(e::es).length<30):
  ((a0s cpos (YJ (e::es) env)).all (λx=>!x.1)&&(a5d cpos (a3v [] env)).all (λx=>x.1.isSome)
   && decide ((e::es).length+([]:List a1C).length+(if([]:List a1C).isEmpty then 0 else 1)<30))=true:=by
 have d:(a0s cpos (YJ (e::es) env)).all (λx=>!x.1)=true:=by have:=i0 (pos:=cpos) (env:=env) h;rw[List.all_eq_not_any_not];simpa using this
 rw[d];have i:(e::es).length+([]:List a1C).length+(if([]:List a1C).isEmpty then 0 else 1)<30:=by show(e::es).length+0+0<30;lia
 rw[decide_eq_true i];rfl
theorem uQ{id:String}(i:Slot "list" name id)(j:b0d (.builtin id)=pure (.type "method_descriptor"))(q:jJ X id r)(l:i7 X.K f r)(u:QE X o mo)(k:QA X (e::es) ms n)(v:gU o=b8)(p:(apos.endLine==cpos.line)=b8)(s:(e::es).length<30):QE X (.Call (.Attribute o name apos) (e::es) [] cpos) (dZ f mo ms):=by
 have h:=k.s;have d:=h;rw[YO,X4]at d;exact⟨cZ (Ll PySem.F.plainAttrs_list i j q u.h k.h (kS v) (EC h s) p (cX d.1) (i0 d.2)) (Oi l)⟩
noncomputable def fW:D->List D->Hm->jk
 |.loc a,[y],μ=>(oU μ a y).map λd=>(.non,d)|_,_,_=>b6
noncomputable def kT:D->List D->Hm->jk
 |.loc a,[.loc b],μ=>match μ[a]?,μ[b]? with
  |some (.lst xs),b4 (.lst ys)=>if xs.length+ys.length<=Yi then b4 (.non,μ.set a (.lst (xs++ys)))else b6|_,_=>b6
 |_,_,_=>b6
theorem Oj(h:IsDs K π n H vs ds):IsDs K π n H vs.reverse ds.reverse:=by
 induction ds generalizing vs with
 |nil=>cases h;exact .nil|cons d ds i=>
  cases h with
  |cons h t=>rw[a3e,a3e];exact(i t).append (.cons h .nil)
theorem Ol:i7 K fW Dd:=by
 intro J H N x M d G v L Q R B j i k;unfold fW at i;split at i
 .rename_i a y;obtain⟨I,h,i⟩:=X5.mp i;cases i;unfold oU at h;split at h
  .rename_i s r;split at h
   .rename_i z;cases h;obtain⟨l,p,q⟩:=R.lst a s r;cases B;cases j with
    |cons E A=>cases A;obtain⟨w,u⟩:=R.put (a:=a) (c:=.lst (s++[y])) (o:=.lst (l++[_])) (X8.mp r).1 p (.inl ⟨l,rfl⟩) (q.append (.cons E .nil));exact⟨_,l,_,rfl,rfl,p,by rw[q.length];exact z,k J _ _ w u .non⟩
   .cases h
  .cases h
 .cases i
theorem Om:i7 K kT Df:=by
 intro M H T x O d L v N Q R I i h k;unfold kT at h;split at h
 .rename_i a b;split at h
  .rename_i w u r E;split at h
   .rename_i B;cases h;obtain⟨j,l,p⟩:=R.lst a w r;obtain⟨s,A,q⟩:=R.lst b u E;cases I;cases i with
    |cons J G=>cases G;cases J;obtain⟨z,y⟩:=R.put (a:=a) (c:=.lst (w++u)) (o:=.lst (j++s)) (X8.mp r).1 l (.inl ⟨j,rfl⟩) (p.append q);exact⟨_,_,j,s,rfl,rfl,l,A,by rw[p.length,q.length];exact B,k M _ _ z y .non⟩
   .cases h
  .cases h
 .cases h
noncomputable def nB:D->List D->Hm->jk
 |.loc a,[.int i],μ=>match μ[a]? with
  |some (.lst xs)=>if 0<=i/\i<2^62 then(xs[i.toNat]?).map λy=>(y,μ.set a (.lst (xs.eraseIdx i.toNat)))else b6|_=>b6
 |_,_,_=>b6
theorem Oo(h:IsDs K π n H vs ds)k:IsDs K π n H (vs.eraseIdx k) (ds.eraseIdx k):=by rw[a4B,a4B];exact(h.take k).append (h.drop (k+1))
theorem Oq(d:0<=i)(h:i.toNat<n):a5z i n=b4 i.toNat:=by have e:(if i<0 then i+(n:Int)else i)=i:=if_neg (by lia);unfold a5z;dsimp only;rw[e,if_pos (by rw[X4,decide_eq_true_iff,decide_eq_true_iff];lia)]
theorem Ot:i7 K nB Dg:=by
 intro M H T x O d L v N Q R I i h k;unfold nB at h;split at h
 .split at h
  .rename_i u s;split at h
   .rename_i E;obtain⟨y,A,h⟩:=X5.mp h;cases h;obtain⟨j,p,q⟩:=R.lst _ u s;cases I;cases i with
    |cons G J=>cases G;cases J;obtain⟨w,r,B⟩:=q.get A;obtain⟨l,z⟩:=R.put (c:=.lst (u.eraseIdx _)) (o:=.lst (j.eraseIdx _)) (X8.mp s).1 p (.inl ⟨j,rfl⟩) (Oo q _);have hw:=(X8.mp r).1;refine⟨_,j,_,_,w,rfl,rfl,p,by lia,by lia,Oq E.1 hw,r,k M w _ l z (B.mono l)⟩
   .cases h
  .cases h
 .cases h
noncomputable def lY(d:Hm):D->Option Bool
 |.non=>b4 b7|.bl b=>b4 b|.int i=>b4 (i != 0)|.str z=>if z.length<=Yi then b4 ((z.length:Int) != 0)else b6|.tup xs=>b4 (!xs.isEmpty)|.rol xs=>b4 (!xs.isEmpty)|.loc a=>match d[a]? with|some (.lst xs)=>b4 (!xs.isEmpty)|some (.dK kvs)=>b4 (!kvs.isEmpty)|_=>b6
 |.ty _=>b6
theorem uR{d i:Type}{xs:List d}{ys:List i}(h:xs.length=ys.length):xs.isEmpty=ys.isEmpty:=by cases xs<;>cases ys<;>first|rfl|cases h
theorem Ou(R:Rp K π H q)(h:IsD K π q.length H v x)(e:lY q x=b4 b):xV K v H b:=by
 cases h with
 |non=>cases e;rfl|bl c=>cases e;rfl|int i=>cases e;rfl|str z=>
  simp only[lY]at e;split at e
  .rename_i r;cases e;exact⟨r,rfl⟩
  .cases e
 |tup h t=>cases e;exact .inr (.inl ⟨_,h,by rw[uR t.length]⟩)|rol h t=>cases e;exact .inl ⟨_,h.sq,by rw[uR t.length]⟩|@loc a u=>
  simp only[lY]at e;split at e
  .rename_i s k;cases e;obtain⟨p,d,j⟩:=R.lst a s k;exact .inl ⟨p,.of d,by rw[uR j.length]⟩
  .rename_i l k;cases e;obtain⟨p,d,j,_⟩:=R.dK a l k;refine .inr (.inr ⟨p,d,?_⟩);have:=congrArg Zf j;rw[X3,X3]at this;rw[uR this]
  .cases e
 |ty n=>cases e
noncomputable def eF(m:ME):MT:=λh d=>(m h d).bind λp=>(lY p.2 p.1).map λb=>(b,p.2)
theorem Ov(h:QE X e m)(s:lV e=b8):QT X e (eF m):=⟨qX (Ku h.h (D8 s)) (by
 rintro I H Q ⟨z,A,v,b,w,R,E,d,k⟩;obtain⟨⟨x,y⟩,q,d⟩:=X0.mp d;obtain⟨B,r,d⟩:=X5.mp d;cases d;exact⟨z,A,v,x,_,R,E,q,λi G l p j u=>⟨_,Ou j u r,k i l p j⟩⟩)⟩
theorem Ox(F:FnOk X.prog X.w X.K X.mg X.base dP k f l ps (fT X.K 0 q))(w:Room k X.A)(h:X.mg x=b4 (.ref f))(v:Za X.K (.ref f)=b8)(s:Binds X.K l ps [])(u:Gl X x)(i:(x==("__debug__":Str))=b7):QE X (.Call (.Name x p) [] [] pos) (aF q aD):=
 ⟨cZ (KN F w u h v s .nil (E:=E0) Dk i) (by
  rintro I H Q ⟨A,G,y,d,j,R,E,h,k⟩;obtain⟨⟨B,z⟩,r,h⟩:=X0.mp h;cases r;exact⟨rfl,A,[],y,d,j,R,.nil,h,k⟩)⟩
noncomputable def nC(c:MT)(b:MS):Nat->MS
 |0,_,_=>b6|n+1,ρ,μ=>(c ρ μ).bind λp=>match p.1 with
  |false=>b4 (.nx,ρ,p.2)|true=>(b ρ p.2).bind λq=>match q.1 with
   |.nx=>nC c b n q.2.1 q.2.2|.ct=>nC c b n q.2.1 q.2.2|.bk=>b4 (.nx,q.2.1,q.2.2)|.rt d=>b4 (.rt d,q.2.1,q.2.2)
noncomputable def o7(n:Nat)(c:MT)(b:MS):MS:=nC c b n
theorem Oy{mt:MT}n(hc:QT X c mt)(hb:QB X body mb)(hp:a5G (Yv X.prog X.w) X.A X.env X.xe):QS X (.While c body [] pos) (o7 n mt mb):=⟨iW (J6 hp hc.h hb.h) (by
 rintro E σ H ⟨Z,ρ,Y,T,G,A,R,EN,hm,k⟩;have r:∀{i:Nat->Addr}{n2:Nat}{H2:Hp}(e:Ext Z Y.length H i n2 H2),mV X.K E i n2 H2 T G A:=λ{i n2 H2} e=>by
  cases T with
  |nx=>exact λj u z l y K=>k j u z (e.trans l) y K|bk=>exact λj u z l y K=>k j u z (e.trans l) y K|ct=>exact λj u z l y K=>k j u z (e.trans l) y K|rt d=>exact KC.after k e
 refine⟨λm w x=>∃i p s,Ext Z Y.length H i p.length x/\Rp X.K i x p/\En X.K i p.length x w s/\nC mt mb m s p=b4 (T,G,A),⟨n,Z,Y,ρ,.refl,R,EN,hm⟩,?_⟩;rintro m σ1 H1 ⟨i,p,s,N,R2,E2,h2⟩;cases m with
 |zero=>cases h2|succ m=>
  obtain⟨⟨b,Q⟩,h3,h4⟩:=X0.mp h2;refine⟨i,s,p,b,Q,R2,E2,h3,λj z l y=>?_⟩;cases b with
  |false=>refine lP ?_;cases h4;exact r N j σ1 z l y (E2.mono l)|true=>
   refine lQ ?_;obtain⟨⟨f4,I,B⟩,h5,U⟩:=X0.mp h4;refine⟨λw x=>∃h v q,Ext Z Y.length H h q.length x/\Rp X.K h x q/\En X.K h q.length x w v/\nC mt mb m v q=b4 (T,G,A),
    λw x ⟨h,v,q,a1,a2,a3,a4⟩=>⟨m,Z9 _,h,q,v,a1,a2,a3,a4⟩,j,s,Q,f4,I,B,y,E2.mono l,h5,?_⟩
   cases f4 with
   |nx=>exact λh J H5 O M L=>⟨h,I,B,(N.trans l).trans O,M,L,U⟩|ct=>exact λh J H5 O M L=>⟨h,I,B,(N.trans l).trans O,M,L,U⟩|bk=>cases U;exact λh J H5 O M L=>r (N.trans l) h J H5 O M L|rt d'=>
    cases U;exact r (N.trans l))⟩
theorem Oz:QS X (.Return b6 pos) (aQ (mC .non)):=⟨iW JW (by
 rintro E s H ⟨i,r,q,p,j,h,R,l,d,k⟩;cases d;exact k i .non H .refl R .non)⟩
noncomputable def o8:List D->Option (List Bool)
 |[]=>b4 []|.bl b::r=>(o8 r).map (b::·)|_=>b6
noncomputable def uS:MF:=λds a=>match ds with
 |[x]=>(a8 a x).bind λb=>(o8 b).map λbs=>(.bl (bs.all id),a)|_=>b6
theorem ED:∀{xs}{vs}{bs},IsDs K π n H vs xs->o8 xs=b4 bs->vs=bs.map V.bl
 |[],_,bs,h,e=>by cases h;cases e;rfl
 |x::xs,vs,bs,h,e=>by
  cases h with
  |cons h t=>
   cases x with
   |bl b=>obtain⟨a,c,d⟩:=X5.mp e;subst d;cases h;rw[ED t c];rfl|_=>cases e
noncomputable def EE(K:X2)(g:List Bool->Bool):gz->Hp->VK->Prop:=λxs H Q=>∃p bs,xs=[.ref p]/\(SqL K H p (bs.map V.bl)\/SqT K H p (bs.map V.bl))/\Q (.bl (g bs)) H
theorem OA{f:MF}(h:f=λds b=>match ds with|[x]=>(a8 b x).bind λxs=>(o8 xs).map λbs=>(.bl (g bs),b)|_=>b6):dQ K f (EE K g):=by
 subst h;intro l H b xs d j n Q R i a k;dsimp only at a;split at a
 .obtain⟨r,c,a⟩:=X0.mp a;obtain⟨bs,e,a⟩:=X5.mp a;cases a;cases i with
  |cons i t=>cases t;obtain⟨p,o,rfl,q,hd⟩:=m7 R i c;have:=ED hd e;subst this;exact⟨p,bs,rfl,q,k l _ H .refl R (.bl _)⟩
 .cases a
theorem EF{bs:List Bool}(a:n=bs.length):(YR n).all (λi=>bs.getD i b7)=bs.all id:=by
 subst a;induction bs with
 |nil=>rfl|cons b bs c=>rw[YB,a3x,YO,a6a,YO,<- c];rfl
theorem EG{bs:List Bool}(r:Vals (bs.map V.bl) its):TruthOf prog w A (λi v=>its.toArray[i]?=b4 v) (λi=>bs.getD i b7):=by
 intro i v s Q E j b;have a:its[i]?=b4 v:=by simpa using j
 have d:i<bs.length:=by have:=(X8.mp a).1;have:=r.length;rw[X3]at this;lia
 obtain⟨u,c,h⟩:=r.get (i:=i) (x:=.bl bs[i]) (by rw[Yo,Yg d];rfl);rw[a]at c;cases c;cases h;have e:bs.getD i b7=bs[i]:=by simp[Zm,d]
 dsimp only at b;rw[e]at b;exact ZF b
theorem OB(hc:X.calm=b8):CallR X (.builtin "all") (EE X.K (·.all id)):=by
 intro z s K H J G Q I r h;obtain⟨p,bs,rfl,k,q⟩:=h;obtain⟨u,rfl,E⟩:=fQ r;cases E;have y:X.A.in1.handled=none:=I.ok.hd hc;rcases k with k|k
 .obtain⟨a,l,j,B⟩:=I.list k;refine call_all_walk (a3u j.isList ?_);have d:p≠s.heap.objs.size:=by obtain⟨o,v,_⟩:=j.isList;exact Yn (Yc v)
  refine⟨s.heap.objs.size,_,_,_,_,_,λi=>bs.getD i b7,rfl,a9m y _ p d a.toArray,⟨⟨_,Yh _ rfl,rfl,rfl⟩,j.isList.push _⟩,EG l,λA x w=>?_⟩;have c:a.toArray.size=bs.length:=by rw[Ys,<- l.length,X3]
  refine⟨.bl _,H,I.kept (t':=x) λb o e=>w b o ?_ (X6 _ e),rfl,?_⟩
  .intro n;have:b=s.heap.objs.size:=by simpa using n
   exact Yn (Yc e) this
  .rw[EF c];exact q
 .obtain⟨a,l,j,B⟩:=I.tuple k;refine call_all_walk (a1l (show s.heap.IsTuple p a.toArray from j) ?_);have d:p≠s.heap.objs.size:=by obtain⟨o,v,_⟩:=j;exact Yn (Yc v)
  refine⟨s.heap.objs.size,_,_,_,_,_,λi=>bs.getD i b7,rfl,a4J y _ p d a.toArray,⟨⟨_,Yh _ rfl,rfl,rfl⟩,a3W j _⟩,EG l,λA x w=>?_⟩;have c:a.toArray.size=bs.length:=by rw[Ys,<- l.length,X3]
  refine⟨.bl _,H,I.kept (t':=x) λb o e=>w b o ?_ (X6 _ e),rfl,?_⟩
  .intro n;have:b=s.heap.objs.size:=by simpa using n
   exact Yn (Yc e) this
  .rw[EF c];exact q
open PyProof.Rows (IntsAre)
open PySem.W (KasT kas_asc kas_desc kas_tail3 kas_descPart kas_count kas_place kas_bin kas_sort kas_rev kas_ask)
noncomputable def rJ(ans:Nat->Nat->Bool):KasT b->b
 |.ret a=>a|.ask i j k=>rJ ans (k (ans i j))
noncomputable def InR(n:Nat)(R:c->Prop):KasT c->Prop
 |.ret a=>R a|.ask i j k=>i<n/\j<n/\∀b,InR n R (k b)
theorem InR.bind{R:c->Prop}{R':e->Prop}{f:c->KasT e}(d:∀a,R a->InR n R' (f a)):∀{t},InR n R t->InR n R' (t.bind f)
 |.ret a,q=>d a q|.ask i j k,q=>⟨q.1,q.2.1,λb=>InR.bind d (q.2.2 b)⟩
theorem EH{R:c->Prop}(hc:∀i j (C:Bool->X7->Prop),i<n->j<n->C (ans i j) s->b i j C s){Q:c->X7->Prop}:
  ∀{t},InR n R t->Q (rJ ans t) s->t.kasWp b Q s
 |.ret a,_,q=>q|.ask i j k,h,q=>hc i j _ h.1 h.2.1 (EH hc (h.2.2 _) q)
theorem EI{R:b->Prop}:∀{t},InR n R t->R (rJ ans t)
 |.ret a,q=>q|.ask i j k,h=>EI (t:=k (ans i j)) (h.2.2 _)
noncomputable def IxOk(n:Nat)(p:Array Nat):Prop:=p.Perm (YR n).toArray
theorem IxOk.lt{n:Nat}{p:Array Nat}(h:IxOk n p)(c:0<n)(i:Nat):p.getD i 0<n:=by
 by_cases a:i<p.size
 .have e:p.getD i 0=p[i]:=by simp[a5o,a]
  rw[e];have d:p[i]∈p:=Array.getElem_mem a;have b:p[i]∈(YR n).toArray:=h.mem_iff.mp d;simpa using b
 .have e:p.getD i 0=0:=by simp[a5o,a]
  rw[e];exact c
theorem IxOk.rev(h:IxOk n p)i j:IxOk n (a7o p i j):=(a9G _ _ _ _).trans h
theorem IxOk.bub(h:IxOk n p)i j:IxOk n (a9N p i j):=(a9M _ _ _).trans h
theorem zJ(h:IxOk n p)(a:0<n):∀f m,InR n (λ_=>True) (kas_asc p f m)
 |0,m=>trivial
 |f+1,m=>⟨h.lt a _,h.lt a _,λb=>by
   cases b with
   |true=>exact trivial
   |false=>exact zJ h a f (m+1)⟩
theorem uT(a:0<n):∀f p m q,IxOk n p->InR n (λr=>IxOk n r.1) (b0i f p m q)
 |0,p,m,q,h=>h
 |f+1,p,m,q,h=>⟨h.lt a _,h.lt a _,λb=>by
   cases b with
   |true=>
    show InR n _ (if q>0 then b0i f (a7o p (m-(q+1)) m) (m+1) 0 else b0i f p (m+1) 0);split
    .exact uT a f _ _ _ (h.rev _ _)
    .exact uT a f _ _ _ h
   |false=>
    refine⟨h.lt a _,h.lt a _,λd=>?_⟩;cases d with
    |true=>exact h
    |false=>exact uT a f _ _ _ h⟩
theorem EJ(c:0<n)(h:IxOk n p)a r:InR n (λr=>IxOk n r.2) (a6U a r p):=
 by
 have b:IxOk n (a7o p 0 a):=h.rev 0 a;unfold a6U;refine InR.bind (R:=λ_=>True) (λm _=>?_) (zJ b c _ _);exact b
theorem EK(b:0<n)(h:IxOk n p)a r:InR n (λr=>IxOk n r.2) (a7p a r p):=
 InR.bind (λq c=>by
  show InR n _ (if q.2.2>0 then a6U q.2.1 r (a7o q.1 (q.2.1-(q.2.2+1)) q.2.1)else a6U q.2.1 r q.1);split
  .exact EJ b (c.rev _ _) _ _
  .exact EJ b c _ _) (uT b _ _ _ _ h)
theorem OC(a:0<n)(h:IxOk n p)r:InR n (λr=>IxOk n r.2) (kas_count r p):=
 InR.bind (λm _=>by
  show InR n _ (if(m==r)=b8 then a6F (m,p)else if m>1 then KasT.ask (p.getD 0 0) (p.getD (m-1) 0) (λc=>if c=b8 then a6F (m,p)else a7p m r (a7o p 0 m))else a7p m r p);split
  .exact h
  .split
   .refine⟨h.lt a _,h.lt a _,λb=>?_⟩;cases b with
    |true=>exact h|false=>exact EK a (h.rev _ _) _ _
   .exact EK a h _ _) (zJ h a _ _)
theorem zK(h:IxOk n p)(a:0<n)k:∀f l r,InR n (λ_=>True) (a9l p k f l r)
 |0,l,r=>trivial|f+1,l,r=>by
  show InR n _ (if l >= r then a6F l else KasT.ask (p.getD k 0) (p.getD ((l+r)/2) 0) λc=>if c=b8 then a9l p k f l ((l+r)/2)else a9l p k f ((l+r)/2+1) r);split
  .exact trivial
  .refine⟨h.lt a _,h.lt a _,λb=>?_⟩;cases b with
   |true=>exact zK h a k f _ _|false=>exact zK h a k f _ _
theorem EL(a:0<n):∀f p k,IxOk n p->InR n (IxOk n) (kas_bin f p k)
 |0,p,k,h=>h|f+1,p,k,h=>InR.bind (λl _=>EL a f _ _ (h.bub _ _)) (zK h a k _ _ _)
theorem rK(a:0<n):InR n (IxOk n) (b0h n):=
 InR.bind (λr b=>by
  show InR n _ (if r.1<n then kas_bin (n-max r.1 1) r.2 (max r.1 1)else a6F r.2);split
  .exact EL a _ _ _ b
  .exact b) (OC a (Array.Perm.refl _) n)
noncomputable def cR(lt:Nat->Nat->Bool)(n:Nat):List Nat:=(rJ lt (b0h n)).toList
theorem EM lt(a:0<n):(cR lt n).Perm (YR n):=by have h:IxOk n (rJ lt (b0h n)):=EI (rK a);have:=Array.perm_iff_toList_perm.mp h;simpa[cR]using this
theorem OD(x:ObjOk P w H h a o):∃c,h.get? a=b4 c:=by
 cases o with
 |lst d=>obtain⟨_,_,_,_,e⟩:=x;exact⟨_,e⟩|tup d=>obtain⟨_,_,_,c,e,_⟩:=x;exact⟨_,e⟩|dK b=>obtain⟨_,_,_,_,o,_,_,e,_⟩:=x;exact⟨_,e⟩|dT b=>obtain⟨_,_,_,_,o,_,_,e,_⟩:=x;exact⟨_,e⟩|set S n=>obtain⟨o,_,_,_,e,_⟩:=x;exact⟨_,e⟩|ins C i fs=>obtain⟨_,_,_,e,_⟩:=x;exact⟨_,e⟩|own y=>exact x|xd fs=>obtain⟨_,⟨_,_,_,e,_⟩,_⟩:=x;exact⟨_,e⟩|rng k j=>obtain⟨_,_,_,e⟩:=x;exact⟨_,e⟩|frz c u=>exact⟨_,x.1⟩|tbl l=>exact⟨_,x⟩|met f y=>exact⟨_,x⟩|ext p=>exact x.2.1
section
open PyProof.Rows
theorem EO{us:gw}(h:us.length<2)(g:s.heap.get? c=b4 (Z6 "list" us.toArray z))(q:R (.done (.ret .none)) {s with heap:=a6g s.heap c us us.toArray}):
  Yl (Yv prog w) A (Builtin.«list.sort» ⟨[.ref c],[]⟩) R E s:=by
 rw[a9B];have lt:c<s.heap.objs.size:=Yc g;refine X1 (listItems_at g rfl (X1 (a4H g rfl ?_)));obtain⟨y,d⟩:∃y,(s.heap.update c (Y7 λ_=>#[])).get? c=b4 (Z6 "list" #[] y):=⟨_,a9D g _⟩;refine X1 (a5J d rfl (X1 (a6d (X1 (a4F (YS ?_))))));have e:(((s.heap.update c (Y7 λ_=>#[])).push (Z6 "tuple" us.toArray 0)).push (Z6 "list" #[] 0)).get? c=b4 (Z6 "list" #[] y):=
  X6 _ (X6 _ d)
 show Yl (Yv prog w) A _ R E ⟨((s.heap.update c (Y7 λ_=>#[])).push (Z6 "tuple" us.toArray 0)).push (Z6 "list" #[] 0),s.gens,s.drawn,s.toks,s.os⟩;dsimp only;have a:us.toArray.size<2:=by simpa using h
 rw[if_pos a,if_pos a];refine X1 (Yb ?_);rw[StateT.run_pure];refine X1 (Yb ?_);dsimp only;have b:a9Z (λx=>x.2) (arrOf (SortSt.mk' general' (us.toArray.zip us.toArray) #[] 7 b6))=us.toArray:=by show a9Z (λx=>x.2) (us.toArray.zip us.toArray)=us.toArray;exact Array.ext (by simp) (λi j k=>by simp)
 refine X1 (a5J e rfl (X1 (a4H e rfl ?_ (hsz2:=by rw[b,Yz];lia))));rw[b];simp only[bne_self_eq_false,YH,if_false];exact Yb q
end
theorem ER lt:cR lt 1=[0]:=rfl
theorem zL lt:cR lt 0=[]:=rfl
theorem jW lt n:(cR lt n).Perm (YR n):=by
 cases n with
 |zero=>rw[zL];exact .nil|succ n=>exact EM lt (Nat.succ_pos n)
theorem OE(h:Vals (ns.map V.int) us):a1R us ns:=xZ h
end L3
namespace L3
open PySem L2 PySem.Spec PyProof.Rows
structure XRec(h:Y5)(e:Addr)(cls:Value)(dc:Option Addr)(T:Option (Addr×Value)):Prop where
 ob:∃o vs,h.get? e=b4 o/\o.cls=cls/\o.dict=dc/\o.data=.fields vs/\vs[1]?=b4 (match T with|none=>Y3|some p=>.ref p.1)/\vs[2]?=b4 Y3
 tb:∀p,T=b4 p->p.1≠e/\∃oT ts,h.get? p.1=b4 oT/\oT.data=.fields ts/\ts[3]?=b4 p.2
structure XKept(fs:List Addr)(e:Addr)(T:Option (Addr×Value))(h h':Y5):Prop where
 keep:∀b o,h.get? b=b4 o->b≠e->(∀p,T=b4 p->b≠p.1)->b∉fs->h'.get? b=b4 o
 slot:∀b o,h.get? b=b4 o->b≠e->(∀p,T=b4 p->b≠p.1)->∃sl,h'.get? b=b4 {o with slots:=sl}
theorem ES(o:Obj) (f):(o.mapFields f).dict=o.dict:=by
 cases o with
 |mk c d a b=>cases a<;>rfl
theorem XRec.noFrame(x:XRec h e cls dc T)(d:h.FunFrames base l):e∉dG l/\∀p,T=b4 p->p.1∉dG l:=by
 obtain⟨o,v,k,_,_,n,_,_⟩:=x.ob;refine⟨λc=>?_,λp q c=>?_⟩
 .obtain⟨_,r,a,b⟩:=d.mem c;rw[k]at a;cases a;exact b v n
 .obtain⟨_,w,u,i,j,_⟩:=x.tb p q;obtain⟨_,r,a,b⟩:=d.mem c;rw[i]at a;cases a;exact b u j
theorem ET{s:X7}(j:A.frames=b4 (env::outer))(w:s.heap.FunFrames base (env::outer))(U:env.frame=b4 L)(x:XRec s.heap e cls dc T)(k:∀d n,XRec d e cls dc (b4 (n,a0F L))->s.heap.objs.size<=n->XKept (dG (env::outer)) e T s.heap d->Q () {s with heap:=d}):
  Yl M A (do a6h (.ref e) 1 (<- a5H hd (<- frameOf env) .none (a0F L) .none (<- entryPlaceOf L nx))) Q E s:=by
 obtain⟨o,Z,I,J,K,v,N,O⟩:=x.ob;have z:1<Z.size:=(Zx.mp N).1;have ne:=(x.noFrame w).1;refine X1 (wpAny_frameOf_fun j w U λa c=>?_);refine X1 (wpAny_entryPlaceOf λH y=>?_);unfold a5H newFields;refine X1 (Zi ?_ (y.sizeOk5 _ _ _ _ _));have r:a.get? e=b4 o:=(c.2.1 e ne).trans I;generalize hob:({cls:=.type "traceback",dict:=b6,data:=.fields ([hd,.ref L,.none,a0F L,.none]++(if H.isEmpty then a0g 6 Y3 else H)).toArray}:Obj)=tb;have u:(a.push tb).get? e=b4 o:=X6 _ r;refine a1J u v z (k _ a.objs.size ?_ ?_ ?_)
 .have B:a.objs.size≠e:=Zz (Yc r);have q:=a1f v (·.setIfInBounds 1 (Ye a.objs.size));refine⟨⟨_,_,YM _ u (a1m q),by rw[a4y];exact J,?_,q,by simp[z],by simp[O]⟩,λp l=>?_⟩
  .rw[<- K,ES]
  .cases l;refine⟨B,tb,_,?_,by rw[<- hob],?_⟩
   .rw[YF _ _ (YW B)];exact Yh _ (by rw[<- hob];rfl)
   .first|(simp;done)|(rcases y with rfl|⟨_,_,_,_,_,_,_,rfl⟩<;>simp)
 .rw[c.1];exact Yd _
 .refine⟨λb G i h _ R=>?_,λb G i h _=>?_⟩
  .rw[YF _ _ (YW h)];exact X6 _ ((c.2.1 b R).trans i)
  .obtain⟨Y,X⟩:=c.2.2 b G i;refine⟨Y,?_⟩;rw[YF _ _ (YW h)];exact X6 _ X
theorem EU{s:X7}{L:Addr}(i:∀p,T=b4 p->p.2=.none\/p.2=a0F L)(l:A.frames=b4 (env::outer))(J:s.heap.FunFrames base (env::outer))(I:env.frame=b4 L)(x:XRec s.heap e cls dc T)(k:∀h d,XRec h e cls dc (b4 (d,a0F L))->(s.heap.objs.size<=d\/∃p,T=b4 p/\d=p.1)->XKept (dG (env::outer)) e T s.heap h->Q () {s with heap:=h}):Yl M A (a5B (.ref e) env) Q E s:=by
 obtain⟨o,vs,y,X,Y,B,G,Z⟩:=x.ob;unfold a5B;simp only[I];refine X1 (a0a y B G ?_);cases T with
 |none=>rw[if_neg (by decide)];exact ET l J I x λh d R N v=>k h d R (.inl N) v|some p=>
  obtain⟨O,oT,ts,r,u,w⟩:=x.tb p rfl;rw[if_pos (show(Ye p.1 != Y3)=b8 by simp)];refine X1 (a0a r u w ?_);rcases i p rfl with i|i;case inr=>rw[i,if_pos (beq_self_eq_true _)];exact Yb (k s.heap p.1 ⟨⟨o,vs,y,X,Y,B,G,Z⟩,λq K=>by cases K;exact⟨O,oT,ts,r,u,by rw[<- i];exact w⟩⟩ (.inr ⟨p,rfl,rfl⟩) ⟨λb o c _ _ _=>c,λb o c _ _=>⟨o.slots,c⟩⟩)
  rw[i,if_neg (show ¬ (Y3==a0F L)=b8 by simp[a0F])];refine X1 (a1J r u (Zx.mp w).1 ?_);have a:∀b,b≠p.1->(s.heap.update p.1 (a2t (·.setIfInBounds 3 Y3))).get? b=s.heap.get? b:=λb c=>YF _ _ (YW c);have nfr:=(x.noFrame J).2 p rfl;refine ET (T:=b4 p) l (J.of_keeps λb n c nf=>⟨n,(a b λz=>by rw[z,r]at c;cases c;exact nf ts u).trans c,rfl⟩) I ⟨⟨o,vs,(a e (YW O)).trans y,X,Y,B,G,Z⟩,λq K=>?_⟩ λh d R N v=>k h d R (.inl (by simpa using N)) ⟨λb n c H j h3=>?_,λb n c H j=>?_⟩
  .cases K;have U:=a1f u (·.setIfInBounds 3 Y3);exact⟨O,_,_,YM _ r (a1m U),U,by rw[i];simp[(Zx.mp w).1]⟩
  .exact v.keep b n ((a b (j p rfl)).trans c) H j h3
  .exact v.slot b n ((a b (j p rfl)).trans c) H j
theorem rL{h:Y5}{T:Option (Addr×Value)}{a:Addr}(c:h.get? b=b4 o)(i:∀p,T=b4 p->b≠p.1)(z:h.objs.size<=a\/∃p,T=b4 p/\a=p.1):b≠a:=by
 rcases z with z|⟨p,d,rfl⟩
 .exact Yn (YE (Yc c) z)
 .exact i p d
theorem zM(x:XRec s.heap e cls dc (b4 (T,r)))(k:∀h',XRec h' e cls dc (b4 (T,.none))->h'.objs.size=s.heap.objs.size->(∀b,b≠T->h'.get? b=s.heap.get? b)->Q () {s with heap:=h'}):
  Yl M A (a5y (.ref e) b6) Q E s:=by
 obtain⟨o,B,d,u,v,h,i,w⟩:=x.ob;obtain⟨j,G,H,l,n,q⟩:=x.tb _ rfl;unfold a5y;refine X1 (a0a d h i ?_);rw[if_pos (show(Ye T != Y3)=b8 by simp)];have a:∀b,b≠T->(s.heap.update T (a2t (·.setIfInBounds 3 Y3))).get? b=s.heap.get? b:=λb y=>YF _ _ (YW y);have c:=a1f n (·.setIfInBounds 3 Y3);refine a1J l n (Zx.mp q).1 (k _ ⟨⟨o,B,(a e (YW j)).trans d,u,v,h,i,w⟩,λp z=>?_⟩ (by simp) a);cases z;exact⟨j,_,_,YM _ l (a1m c),c,by simp[(Zx.mp q).1]⟩
theorem OF{s:X7}{L:Addr}(y:∀p,T=b4 p->p.2=.none\/p.2=a0F L)(i:A.frames=b4 (env::outer))(B:s.heap.FunFrames base (env::outer))(z:env.frame=b4 L)(x:XRec s.heap e cls dc T)(k:∀h d,XRec h e cls dc (b4 (d,.none))->(s.heap.objs.size<=d\/∃p,T=b4 p/\d=p.1)->XKept (dG (env::outer)) e T s.heap h->Q () {s with heap:=h}):Yl M A (a8V env (.ref e)) Q E s:=by
 unfold a8V;refine X1 (EU y i B z x λu r I l n=>?_);refine zM (s:={s with heap:=u}) I λv J _ q=>k v r J l ⟨λb o a j c G=>?_,λb o a j c=>?_⟩
 .rw[q b (rL a c l)];exact n.keep b o a j c G
 .obtain⟨H,w⟩:=n.slot b o a j c;refine⟨H,?_⟩;rw[q b (rL a c l)];exact w
structure Ex(X:Cx)(b0l:jw)(H:Hp)(s:X7)(e:Addr)(cls:Value)(dc:Option Addr)(T:Option (Addr×Value)):Prop where
 rc:XRec s.heap e cls dc T
 hT:∀p,T=b4 p->p.2=.none\/∃L,X.env.frame=b4 L/\p.2=a0F L
 lo:X.s₀.heap.get? e=b6/\∀p,T=b4 p->X.s₀.heap.get? p.1=b6
 fr:H e=b6/\∀p,T=b4 p->H p.1=b6
 pn:∀q∈X.pn++b0l,q.1≠e/\∀p,T=b4 p->q.1≠p.1
noncomputable def i8(P:Yt)(w:YL):gP:=λouter H s E e a=>∃b H' cls c T,e=.ref b/\a.os=s.os/\a3y a.gens/\Un (dG outer) [] H H' s.heap a.heap/\HOk P w H' a.heap /\
 XRec a.heap b cls c (b4 (T,.none))/\s.heap.get? b=b6/\s.heap.get? T=b6/\H' b=b6/\H' T=b6/\E cls c H'
theorem XKept.hok(k:XKept fs e T h h')(ok:HOk P w H h)(l:H e=b6)(j:∀p,T=b4 p->H p.1=b6)(n:∀b∈fs,H b=b6):HOk P w H h':=λb u q=>by
 have ne:∀c v,H c=b4 v->c≠e/\(∀p,T=b4 p->c≠p.1)/\c∉fs:=λc v hc=>⟨(λz=>by rw[z,l]at hc;cases hc),(λp o z=>by rw[z,j p o]at hc;cases hc),(λz=>by rw[n c z]at hc;cases hc)⟩;refine(ok b u q).stay (λc v hc g=>?_) (λ_ g=>g) λ_ _ g=>g;rcases hc with rfl|hc
 .obtain⟨a,d,i⟩:=ne c u q;exact k.keep c v g a d i
 .obtain⟨a,d,i⟩:=ne c _ hc;exact k.keep c v g a d i
theorem OG{σ:L2.St}(j:X.ex=[])(I:Inv X b0l σ H s)(h:i8 X.prog X.w X.stack H s E v s'):∃e H' cls dc T,v=.ref e/\Inv X b0l σ H' s'/\Ex X b0l H' s' e cls dc (b4 (T,.none))/\E cls dc H':=by
 obtain⟨e,H',cls,dc,T,rfl,y,i,un,hok,A,k,l,n,r,u⟩:=h;have old:∀a,s.heap.get? a=b6->X.s₀.heap.get? a=none:=λa w=>by
  cases q:X.s₀.heap.get? a with
  |none=>rfl|some o=>obtain⟨B,g⟩:=I.base.there a o q (by rw[j];simp);rw[w]at g;cases g
 refine⟨e,H',cls,dc,T,rfl,I.call' (ch:=[]) y un hok i (λb z=>absurd z (by simp)),⟨A,(λp d=>by cases d;exact .inl rfl),⟨old e k,(λp d=>by cases d;exact old T l)⟩,⟨n,(λp d=>by cases d;exact r)⟩,λq x=>?_⟩,u⟩;have c:=(I.pin q x).1;exact⟨(λz=>by rw[z,k]at c;cases c),(λp d z=>by cases d;rw[z,l]at c;cases c)⟩
theorem EV{σ:L2.St}(I:Inv X b0l σ H s)(k:X.ex=[])(h1:∀b∈ch,X.s₀.heap.get? b=b6)(p:∀b∈ch,∃o vs,s.heap.get? b=b4 o/\o.data=.fields vs):Inv {X with ex:=ch} b0l σ H s:=by
 have i:∀b o,X.s₀.heap.get? b=b4 o->b∉ch:=λb o a z=>by rw[h1 b z]at a;cases a
 have o:=I.ok;refine⟨⟨o.mod,o.kind,o.glob,o.blt,o.above,o.inj,o.has,o.cab,o.hd,o.frames,o.stk,λb a=>?_,o.bs,o.bsz,λb j a=>i b j (o.bs b j a).1,λb a q=>?_,o.funs,o.frf⟩,I.os,I.bare,?_,I.loc,I.cell,I.free,I.freeC,I.pin,I.hok,I.len⟩
 .obtain⟨j,vs,l,n⟩:=p b a;refine⟨λz=>?_,λy c hc z=>?_⟩
  .obtain⟨m,⟨x,w,r,d,h,_⟩,_⟩:=I.loc;have z:b=X.env.locals:=z;rw[<- z,l]at d;cases d;rw[n]at h;cases h
  .obtain⟨v,A,d,h⟩:=I.cell y c hc;rw[z,l]at d;cases d;rw[n]at h;cases h
 .obtain⟨_,j,d,_⟩:=o.funs.mem q;exact i b j d a
 .have u:=I.base;rw[k]at u;exact u.mono (λ_ z=>z) (by simp)
theorem EW{σ:L2.St}(I:Inv {X with ex:=ch} b0l σ H s)(h:X.ex=[])(h1:∀b∈ch,X.s₀.heap.get? b=b6):Inv X b0l σ H s:=by
 have d:∀b o,X.s₀.heap.get? b=b4 o->b∉ch:=λb o a z=>by rw[h1 b z]at a;cases a
 have o:=I.ok;have u:=I.base;refine⟨⟨o.mod,o.kind,o.glob,o.blt,o.above,o.inj,o.has,o.cab,o.hd,o.frames,o.stk,(by rw[h];intro b z;cases z),o.bs,o.bsz,(by rw[h];intro b _ _ z;cases z),(by rw[h];intro b z;cases z),o.funs,o.frf⟩,I.os,I.bare,?_,I.loc,I.cell,I.free,I.freeC,I.pin,I.hok,I.len⟩;exact⟨λb c a n i _=>u.keep b c a n i (d b c a),λb c a n i _=>u.slot b c a n i (d b c a),λb c a n _=>u.free b c a n (d b c a),λb c a _=>u.there b c a (d b c a),u.tups,u.frzs,u.tbls⟩
noncomputable def nD(e:Addr)(T:Option (Addr×Value)):List Addr:=e::(match T with|none=>[]|some p=>[p.1])
theorem mem_ch:b∈nD e T↔b=e\/∃p,T=b4 p/\b=p.1:=by
 unfold nD;cases T with
 |none=>simp|some p=>simp
theorem Ex.kept{σ:L2.St}(h:X.ex=[])(I:Inv X b0l σ H s)(x:Ex X b0l H s e cls dc T)(k:XKept (dG X.stack) e T s.heap h'):Inv X b0l σ H {s with heap:=h'}:=by
 have r:∀b∈nD e T,X.s₀.heap.get? b=none:=λb a=>by
  rcases mem_ch.mp a with rfl|⟨p,d,rfl⟩
  .exact x.lo.1
  .exact x.lo.2 p d
 have G:∀b∈nD e T,∃o l,s.heap.get? b=b4 o/\o.data=.fields l:=λb a=>by
  rcases mem_ch.mp a with rfl|⟨p,d,rfl⟩
  .obtain⟨o,l,j,_,_,E,_,_⟩:=x.rc.ob
   exact⟨o,l,j,E⟩
  .obtain⟨_,O,Q,j,B,_⟩:=x.rc.tb p d
   exact⟨O,Q,j,B⟩
 have ne:∀b,b∉nD e T->b≠e/\∀p,T=b4 p->b≠p.1:=λb a=>⟨λz=>a (mem_ch.mpr (.inl z)),λp d z=>a (mem_ch.mpr (.inr ⟨p,d,z⟩))⟩
 have i:=EV I h r G
 have w:=i.step (H':=H) (h':=h') (g':=s.gens) (d':=s.drawn) (t':=s.toks) (ch:=nD e T) (λb a=>⟨.inl a,(i.ok.exf b a).1,(i.ok.exf b a).2,λq u=>?_⟩)
  (λb o M N c g _=>k.keep b o g (ne b c).1 (ne b c).2 λz=>(YN.mp (I.stkSub b z)).elim M N)
  (λb o _ _ c g _=>k.slot b o g (ne b c).1 (ne b c).2) (λ_ _ _ _ n=>n) (λb o c g=>let⟨_,z⟩:=k.slot b o g (ne b c).1 (ne b c).2;⟨_,z⟩)
  (λ_ _ g=>g) (λ_ _ _ g=>g) (λb U g=>⟨#[],by rw[g];simp⟩) (λm J=>?_) (k.hok I.hok x.fr.1 x.fr.2 I.stkFree) I.bare
 .exact EW w h r
 .rcases mem_ch.mp a with rfl|⟨p,d,rfl⟩
  .exact(x.pn q u).1
  .exact(x.pn q u).2 p d
 .obtain⟨R,A,y,K,L⟩:=J
  have v:X.env.locals∉nD e T:=λz=>(i.ok.exf _ z).1 rfl
  obtain⟨Y,g⟩:=k.slot _ _ K (ne _ v).1 (ne _ v).2
  exact⟨_,A,y,g,L⟩
theorem OH{K:X2}{σ:L2.St}(I:Inv (dO (i8 P w) P w K B base N qual scope f i A outer s₀ H₀ E) b0l σ H s)(x:Ex (dO (i8 P w) P w K B base N qual scope f i A outer s₀ H₀ E) b0l H s e cls u T)(h:E cls u H):
  (dO (i8 P w) P w K B base N qual scope f i A outer s₀ H₀ E).xe (.ref e) s:=by
 have c:∀b o,s₀.heap.get? b=b4 o->b≠e/\(∀p,T=b4 p->b≠p.1)/\b≠s₀.heap.objs.size:=λb o a=>⟨(λz=>by rw[z]at a;rw[show s₀.heap.get? e=b6 from x.lo.1]at a;cases a),(λp d z=>by rw[z]at a;rw[show s₀.heap.get? p.1=b6 from x.lo.2 p d]at a;cases a),Yn (Yc a)⟩;have y:dG (envOfC qual scope s₀.heap.objs.size f i::outer)=s₀.heap.objs.size::dG outer:=rfl;show Yl (Yv P w) (A.deeper (envOfC qual scope s₀.heap.objs.size f i)) (a8V (envOfC qual scope s₀.heap.objs.size f i) (.ref e)) _ _ s;refine OF (λp d=>(x.hT p d).imp id λ⟨L,Q,q⟩=>by cases Q;exact q) I.ok.frames I.stack rfl x.rc λY O X M k=>?_;refine⟨e,H,cls,u,O,rfl,I.os,I.bare,⟨λb o a n r _=>?_,λb o a n r _=>?_,λb o a n _=>I.base.free b o a n (by simp[dO]),λb o a _=>?_,I.base.tups,I.base.frzs,I.base.tbls⟩,k.hok I.hok x.fr.1 x.fr.2 I.stkFree,X,x.lo.1,M.elim (λz=>a2w (Y6 I.sz z)) (λ⟨p,d,q⟩=>q▸x.lo.2 p d),x.fr.1,M.elim (λz=>I.hok.fresh z) (λ⟨p,d,q⟩=>q▸x.fr.2 p d),h⟩
 .obtain⟨j,l,G⟩:=c b o a;refine k.keep b o (I.base.keep b o a n r (by simp[dO])) j l ?_;rw[y];intro z;rcases YN.mp z with z|z
  .exact G z
  .exact r z
 .obtain⟨j,l,G⟩:=c b o a;obtain⟨U,g⟩:=I.base.slot b o a n r (by simp[dO]);obtain⟨J,v⟩:=k.slot b _ g j l;exact⟨J,v⟩
 .obtain⟨j,l,G⟩:=c b o a;obtain⟨R,g⟩:=I.base.there b o a (by simp[dO]);obtain⟨U,v⟩:=k.slot b R g j l;exact⟨_,v⟩
end L3
namespace L3
open PySem L2
noncomputable abbrev Xn:=Str×List (Str×D)
noncomputable abbrev MR:=aE->Hm->Option (Xn×aE×Hm)
noncomputable abbrev RF:=List D->Hm->Option (Xn×Hm)
noncomputable def OI(K:X2)(cls:Value)(x:Str):Prop:=Zn K Y0 x=b4 (b4 cls)
noncomputable def uU(K:X2)(π:Nat->Addr)(n:Nat)(H:Hp)(cls:Value)(a:Option Addr)(x:Xn):Prop:=
 OI K cls x.1/\(x.2=[]/\a=b6\/∃(b:Addr)(c:Obj)(vs:List (Str×V)),a=b4 b/\H b=b4 (.frz c (.xd vs))/\vs.map (·.1)=x.2.map (·.1)/\IsDs K π n H (vs.map (·.2)) (x.2.map (·.2)))
noncomputable def Wish(X:Cx)(b0l:jw)(π:Nat->Addr)(n:Nat)(H:Hp)(x:Xn)(h:aE)(μ':Hm):Prop:=
 ∀a c b d e cls i T,Ext π n H a μ'.length b->Rp X.K a b μ'->En X.K a μ'.length b c h->Inv X b0l c b d->Ex X b0l b d e cls i T->uU X.K a μ'.length b cls i x->X.xe (.ref e) d
theorem Wish.after(h:Wish X b0l π n H x c μ')(e:Ext π n H b k j):Wish X b0l b k j x c μ':=
 λd i l q a cls o T p=>h d i l q a cls o T (e.trans p)
structure QRE(X:Cx)(e:Expr)(r:MR):Prop where
 h:∀b0l s σ H π ρ μ x ρ' μ',Inv X b0l σ H s->Rp X.K π H μ->En X.K π μ.length H σ ρ->r ρ μ=b4 (x,ρ',μ')->Wish X b0l π μ.length H x ρ' μ'->Yl (Yv X.prog X.w) X.A (eval e X.env) (λ_ _=>False) X.xe s
structure QR(X:Cx)(st:Stmt)(r:MR):Prop where
 h:∀b0l s σ H π ρ μ x ρ' μ',Inv X b0l σ H s->Rp X.K π H μ->En X.K π μ.length H σ ρ->r ρ μ=b4 (x,ρ',μ')->Wish X b0l π μ.length H x ρ' μ'->Yl (Yv X.prog X.w) X.A (exec st X.env) (λ_ _=>False) X.xe s
structure QRB(X:Cx)(st:List Stmt)(r:MR):Prop where
 h:∀b0l s σ H π ρ μ x ρ' μ',Inv X b0l σ H s->Rp X.K π H μ->En X.K π μ.length H σ ρ->r ρ μ=b4 (x,ρ',μ')->Wish X b0l π μ.length H x ρ' μ'->Yl (Yv X.prog X.w) X.A (execs st X.env) (λ_ _=>False) X.xe s
noncomputable def aV:MR:=λ_ _=>b6
theorem gW:QR X st aV:=⟨λ_ _ _ _ _ _ _ _ _ _ _ _ _ h=>by cases h⟩
theorem zN:QRE X e aV:=⟨λ_ _ _ _ _ _ _ _ _ _ _ _ _ h=>by cases h⟩
theorem OJ:QRB X st aV:=⟨λ_ _ _ _ _ _ _ _ _ _ _ _ _ h=>by cases h⟩
theorem OK(j:QRE X e r)(h:eN e=b8):QR X (.Expr e pos) r:=
 ⟨λc s p H n o l x i d I R E k w=>a6f (aJ (j.h c s p H n o l x i d I R E k w) λ_ _ z=>z.elim) I.quiet (lW h)⟩
theorem OL(i:QRE X e r):QR X (.Return (b4 e) pos) r:=
 ⟨λc s o H l n k x h d I R E j w=>a8R (aJ (i.h c s o H l n k x h d I R E j w) λ_ _ z=>z.elim)⟩
theorem OM(k:QRE X e r)(h:eN e=b8):QR X (.Assign [.Name y c] e pos) r:=
 ⟨λd s q H o p n x j i I R E l w=>a8S (aJ (k.h d s q H o p n x j i I R E l w) λ_ _ z=>z.elim) (lW h)⟩
noncomputable def bJ(m:MS)(ra rb:MR):MR:=λd c=>match ra d c with
 |some p=>b4 p|none=>match m d c with
  |some (.nx,ρ1,μ1)=>rb ρ1 μ1|_=>b6
theorem ON{rest:List Stmt}(T:QS X.nox st m)(O:QR X st ra)(Q:QRB X rest rb):QRB X (st::rest) (bJ m ra rb):=by
 refine⟨λi s L H J K G x v o I R E n w=>a2B ?_⟩;unfold bJ at n;split at n
 .rename_i p U;cases n;exact aJ (O.h i s L H J K G x v o I R E U w) λ_ _ z=>z.elim
 .split at n
  .rename_i j d N;have k:=T.h i s L H {nx:=λh l=>∃c,Ext J G.length H c d.length l/\Rp X.K c l d/\En X.K c d.length l h j,rt:=λ_ _=>False} (I.wish _)
    ⟨J,K,G,.nx,j,d,R,E,N,λc h l B A y=>⟨c,B,A,y⟩⟩
   refine Y1 k (λf Y q=>?_) λ_ _ z=>Y4 z;cases f with
   |next=>obtain⟨h,l,M,c,B,A,y⟩:=q;exact Q.h i Y h l c j d x v o M.unwish A y n (w.after B)|ret u=>obtain⟨_,_,_,_,_,q⟩:=q;exact q.elim|brk=>obtain⟨_,_,_,q⟩:=q;exact q.elim|cont=>obtain⟨_,_,_,q⟩:=q;exact q.elim
  .cases n
theorem OO:QRB X [] aV:=OJ
noncomputable def fC(t:MT)(ra rb:MR):MR:=λc d=>(t c d).bind λp=>if p.1=b8 then ra c p.2 else rb c p.2
theorem OP(hc:QT X.nox c t)(N:QRB X a ra)(O:QRB X b rb):QR X (.If c a b pos) (fC t ra rb):=by
 refine⟨λj s B H L A K x u p I R E l w=>wpAny_If ?_⟩;obtain⟨⟨d,i⟩,M,l⟩:=X0.mp l;have k:=hc.h j s B H (λy n=>y=d/\∃h,Ext L K.length H h i.length n/\Rp X.K h n i) (I.wish _) ⟨L,A,K,d,i,R,E,M,λh n o v=>⟨rfl,h,o,v⟩⟩;refine Y1 k (λy J q=>?_) λ_ _ z=>Y4 z;obtain⟨n,G,rfl,h,o,v⟩:=q;dsimp only at l;cases y with
 |true=>rw[if_pos rfl]at l;exact N.h j J B n h A i x u p G.unwish v (E.mono o) l (w.after o)|false=>rw[if_neg (by decide)]at l;exact O.h j J B n h A i x u p G.unwish v (E.mono o) l (w.after o)
inductive spR0 (K:X2)(r:RF)(vs:gz)(H:Hp)(E:XK):Prop
 |mk (π:Nat->Addr)(ds:List D)(μ:Hm)(x:Xn)(μ':Hm)(R:Rp K π H μ)(i:IsDs K π μ.length H vs ds)(hm:r ds μ=b4 (x,μ'))(k:∀π' H' cls dc,Ext π μ.length H π' μ'.length H'->Rp K π' H' μ'->uU K π' μ'.length H' cls dc x->E cls dc H'):spR0 K r vs H E
noncomputable def o9(K:X2)(n:Nat)(r:RF):Sp:=λvs H _ E=>vs.length=n/\spR0 K r vs H E
noncomputable def eP(r:RF)(ms:MA):MR:=λa b=>(ms a b).bind λp=>(r p.1 p.2).map λq=>(q.1,a,q.2)
theorem OQ(hex:X.ex=[])(F:FnOk X.prog X.w X.K X.mg X.base (i8 X.prog X.w) k f fd ps (o9 X.K n r))(hr:Room k X.A)(hg:Gl X x)(hm:X.mg x=b4 (.ref f))(hk:Za X.K (.ref f)=b8)(hb:Binds X.K fd ps [])(Y:QA X.nox (e::es) ms n)(Z:(x==("__debug__":Str))=b7):QRE X (.Call (.Name x p) (e::es) [] pos) (eP r ms):=by
 refine⟨λU s σ H π ρ μ y ρ' μ' I R E h w=>?_⟩;obtain⟨⟨ds,b⟩,h1,h⟩:=X0.mp h;obtain⟨⟨y',i⟩,h2,h⟩:=X5.mp h;cases h;have hst:=Y.s;have d:=hst;rw[YO,X4]at d;refine Zk (f7 I hg hm ?_ Z);have k1:=Y.h pos U s σ H (λA j=>∃a,Ext π μ.length H a b.length j/\Rp X.K a j b/\IsDs X.K a b.length j A ds) (I.wish _) ⟨π,ρ,μ,ds,b,R,E,h1,λa A j L Q M=>⟨a,L,Q,M⟩⟩;refine a1M (h₀:=X.base) I.ok.mod.kin hk (Y1 k1 (λN s1 ⟨A,j,o,rv,a,L,Q,M⟩=>⟨o.unwish.kIn,?_⟩) λ_ _ z=>Y4 z) (cX d.1) (i0 d.2);have o:=o.unwish;have hn:A.length=n:=by rw[M.length];exact Y.l ρ μ ds b h1
 have G:o9 X.K n r A j (λ_ _=>False) (λcls J l=>∃c,Ext a b.length j c i.length l/\Rp X.K c l i/\uU X.K c i.length l cls J y'):=
  ⟨hn,a,ds,b,y',i,Q,M,h2,λc l cls J K O ix=>⟨c,K,O,ix⟩⟩
 have hl:N.length=ps.length:=by rw[<- rv.length];exact F.len _ _ _ _ G
 refine a3m (a2p (F.run X.A X.stack s1 j ⟨N,[]⟩ N A _ _ hr o.env0 (by have:=hb s1 N o.kIn (by simpa using hl);rwa [Zw]at this) rv G) λrr s' B=>?_);cases rr with
 |error v=>obtain⟨ee,l,cls,J,T,rfl,I',x',c,K,O,ix⟩:=OG hex o B;exact w c σ l s' ee cls J (b4 (T,.none)) (L.trans K) O ((E.mono L).mono K) I' x' ix|ok fl=>
  cases fl with
  |ret u=>obtain⟨_,_,_,_,_,_,_,q⟩:=B;exact q|next=>exact Y4 B|brk=>exact Y4 B|cont=>exact Y4 B
noncomputable def zO(n:Nat)(r:MR):RF:=λds a=>(r (qZ n ds) a).map λp=>(p.1,p.2.2)
theorem OR(F:Fun K x qual st f G)(S:FnScope N ps (a9 st))(p:ps.length<=N.length)(l:cG st=body)(b:∀a A outer s H E,Room k (A.deeper (a2j qual (a9 st) s.heap.objs.size f a))->
   QRB (dO (i8 P w) P w K J base N qual (a9 st) f a A outer s H E) body r):FnOk P w K J base (i8 P w) (k+1) f G ps (o9 K ps.length (zO N.length r)):=by
 obtain⟨oc,od,dV,kV,X,pm,an,a,ct,osl,rfl,lk,n⟩:=F.ex;refine xY (CX:=i8 P w) (sp:=o9 K ps.length (zO N.length r)) lk n S (λL H Q E h=>h.1) λA outer s H L Q E hr h=>⟨λ_ c d=>c=L2.start N L/\d=H,?_,rfl,rfl⟩;obtain⟨hv,π,ds,μ,y,μ',R,i,o,kc⟩:=h;obtain⟨⟨y',v,q⟩,Z,o⟩:=X5.mp o;cases o;rintro j s1 σ B D I ⟨rfl,rfl⟩;rw[l];refine aJ ((b a A outer s B E hr).h j s1 _ B π _ μ y' v q I R (yJ i (by rw[hv];exact p)) Z λu c d s' e cls U T Y O E' M x' ix=>?_) λ_ _ z=>Y4 z;exact OH M x' (kc u d cls U Y O ix)
noncomputable abbrev nE:gw:=[.type "ValueError",.type "Exception",.type "BaseException",.type "object"]
structure ClsK(K:X2)(x:Str)(C:Addr):Prop where
 exc:a3S K C nE "ValueError.__new__"=b8
 nm:Zn K Y0 x=b4 (b4 (.ref C))
theorem OS{C:Addr}{c:gw}(X:K.In h)(q:a3S K C c newId=b8):
  ∃d N s u bs hd sn b p a r i j k l o v,h.get? C=b4 (a0c s u C N bs d hd sn b p a r i j k l o newId)/\h.Ns N v/\v "__init__"=b6/\a5i h c d:=by
 unfold a3S at q;split at q
 .rename_i r x O A;split at q
  .rename_i Q d i j k l n o z B;rw[X4,X4,X4,X4,X4,beq_iff_eq,beq_iff_eq,beq_iff_eq,a2h]at q;obtain⟨⟨⟨⟨⟨H,I⟩,J⟩,L⟩,w⟩,M⟩:=q;subst H I;cases x with
   |mk s bs E G u hd sn b p a y=>cases z;cases J;have e:O=#[i,j,k,l,b4 (.builtin n),o]:=a4E.mp B;subst e;exact⟨d,G,s,u,bs,hd,sn,b,p,a,r,i,j,k,l,o,_,X _ _ A,.of_isNs (a6u X w),PySem.W.nsMap_none_of_in X w M,a6t X L⟩
  .cases q
 .cases q
noncomputable def EX(x:Str)(ms:MA):MR:=λa b=>(ms a b).map λp=>((x,[]),a,p.2)
theorem OT(ok:HOk P w H h)(b:h.get? a=b6):H a=none:=by
 cases q:H a with
 |none=>rfl|some u=>obtain⟨o,g⟩:=OD (ok a u q);rw[b]at g;cases g
theorem EY{σ:L2.St}(I:Inv X b0l σ H s)(b:X.ex=[])(c:s.heap.get? a=b6):X.s₀.heap.get? a=none:=by
 cases q:X.s₀.heap.get? a with
 |none=>rfl|some o=>obtain⟨d,g⟩:=I.base.there a o q (by rw[b];simp);rw[c]at g;cases g
theorem OU{C:Addr}(c:ClsK X.K x C)(L:X.ex=[])(hc:X.calm=b8)(hg:Gl X x)(J:QA X.nox (e::es) ms n)(hn:n<=30)(K:(x==("__debug__":Str))=b7):QR X (.Raise (b4 (.Call (.Name x np) (e::es) [] a)) b6 pos) (EX x ms):=by
 refine⟨λo s Z H π ρ Y y ρ' μ' I R E h w=>?_⟩;obtain⟨⟨ds,k⟩,h1,h⟩:=X5.mp h;cases h;have O:=J.s;have d:=O;rw[YO,X4]at d;have he:YJ (e::es) X.env=_:=cX d.1;have M:(a0s a (YJ es X.env)).any (·.1)=false:=i0 d.2;obtain⟨bm,N,nm,qn,bs,hd,sn,T,ab,G,dd,k0,Q,k2,k3,k5,mN,o1,o2,o3,o4⟩:=OS I.mod.kin c.exc;refine wpAny_Raise_call_subT (C:=C) (nm:=nm) (q:=qn) (N:=N) (bs:=bs) (bm:=bm) (hdct:=hd) (sn:=sn) (sub:=T) (ab:=ab) (col:=G) (dd:=dd) (k0:=k0) (k1:=Q) (k2:=k2) (k3:=k3) (k5:=k5) a0C (mN:=mN)
  (o4.hasType a0C.hasBase) (I.ok.hd hc) (by rw[he];show(b7||(a0s a (YJ es X.env)).any (·.1))=b7;rw[M];rfl) o3 (f7 I hg (a0z I.mod.kin I.mod.glob c.nm) ⟨rfl,?_⟩ K)
 have Q:=J.h a o s Z H (λU l=>∃b,Ext π Y.length H b k.length l/\Rp X.K b l k/\U.length=n) (I.wish _) ⟨π,ρ,Y,ds,k,R,E,h1,λb U l A B i1=>⟨b,A,B,by rw[i1.length];exact J.l ρ Y ds k h1⟩⟩;have u:Yl (Yv X.prog X.w) X.A (a8T (a0s a (YJ (e::es) X.env))) _ _ s:=Q;rw[he]at u ⊢;refine a3Q (Y1 u (λus s1 ⟨U,l,i,rv,b,A,B,hl⟩=>?_) λ_ _ z=>Y4 z);have i:=i.unwish;have v:us.length<=Yi:=by have:=rv.length;rw[<- this,hl,Yz];lia
 refine⟨rfl,v,i.bk _ _ o1,o2.keeps i.bk,o4.keeps i.bk,λh' ea r=>?_⟩;obtain⟨t,t1,_,_⟩:=r.there;have I2:Inv X o Z l {s1 with heap:=h'}:=i.kept (t':=s1.toks) r.keeps;refine w b Z l _ ea (.ref C) b6 b6 A B (E.mono A) I2 ⟨⟨⟨_,_,t1,rfl,rfl,rfl,rfl,rfl⟩,λp j=>nomatch j⟩,(λp j=>nomatch j),⟨EY i L r.new,λp j=>nomatch j⟩,⟨OT i.hok r.new,λp j=>nomatch j⟩,λq hq=>⟨λz=>?_,λp j=>nomatch j⟩⟩ ⟨c.nm,.inl ⟨rfl,rfl⟩⟩;have:=(i.pin q hq).1;rw[z,r.new]at this;cases this
end L3
namespace L3
open PySem L2 PySem.Spec PyProof.Rows
noncomputable def pE(K:X2)(C:Addr):Option (List Value):=match K.lookup C with
 |some ⟨.type "type",_,.cls cd,sl⟩=>(match cd.mro,sl.toList with
  |.ref C'::bm,[_,_,_,_,b4 (.builtin n),_]=>if(C'==C&&n=="ValueError.__new__" && !cd.hasDel&&bm.contains (.type "BaseException")&&cd.hasDict)=b8 then b4 bm else b6
  |_,_=>b6)
 |_=>b6
theorem pG{K:X2}{C:Addr}{bm:gw}(X:K.In h)(q:pE K C=b4 bm):
  (∃N r s bs sn b o a p d i j k l,h.get? C=b4 (a0c r s C N bs bm b8 sn b o a p d i j k l "ValueError.__new__"))/\bm.contains (.type "BaseException")=true:=by
 unfold pE at q;split at q
 .rename_i p A L G;split at q
  .rename_i M u d i j k n l E H;split at q
   .rename_i c;cases q;rw[X4,X4,X4,X4,beq_iff_eq,beq_iff_eq,a2h]at c;obtain⟨⟨⟨⟨v,w⟩,x⟩,y⟩,z⟩:=c;subst v w;cases A with
    |mk r bs I J s hd sn b o a B=>cases E;cases x;cases z;have e:L=#[d,i,j,k,b4 (.builtin "ValueError.__new__"),l]:=a4E.mp H;subst e;exact⟨⟨J,r,s,bs,sn,b,o,a,p,d,i,j,k,l,X _ _ G⟩,y⟩
   .cases q
  .cases q
 .cases q
noncomputable def gX(K:X2)(x:Str):Option Addr:=match Zn K Y0 x with
 |some (b4 (.ref C))=>b4 C|_=>b6
theorem lZ{K:X2}{C:Addr}(h:gX K x=b4 C):Zn K Y0 x=b4 (b4 (.ref C)):=by
 unfold gX at h;split at h
 .cases h;assumption
 .cases h
noncomputable def rM(K:X2)(x y:Str):Option Bool:=(gX K x).bind λB=>(gX K y).bind λC=>(pE K B).bind λa=>(pE K C).map λ_=>(Ye B::a).contains (.ref C)
theorem OV{C:Addr}{K:Addr}{bs bm p a:gw}{sub l:gw}(hB:s.heap.get? B=b4 (a0c nm q B N bs bm hdct sn sub ab col dd k0 k1 k2 k3 k5 "ValueError.__new__"))(hC:s.heap.get? C=b4 (a0c G O C K p a i H l o j r v w x y z "ValueError.__new__"))(L:s.heap.get? e=b4 J)(k:J.cls=.ref B)(c:a.contains (.type "BaseException")=b8)(I:Q ((Ye B::bm).contains (.ref C)) s):Yl M A (excMatches (.ref e) (.ref C)) Q E s:=by
 obtain⟨h,g,d,t,R⟩:=s;have u:(Ye C::a).contains (.type "BaseException")=true:=by rw[a2S,c,a4u]
 have f:=tc_notTuple;have n:∃b,(Ye B::bm).contains (.ref C)=b:=⟨_,rfl⟩;obtain⟨b,n⟩:=n;rw[n]at I;unfold excMatches;repeat (first|(with_reducible refine Zj L ?_;rw[k])|with_reducible refine Zj hC ?_|(with_reducible refine a1b hC ?_;rw[u])|(with_reducible refine a1b hB ?_;rw[n])|wp_step)
 cases b<;>(wp_walk;exact I)
noncomputable def OW(o:Obj):Prop:=∃vs,o.data=.fields vs/\vs[2]?=b4 Y3
noncomputable def nF(e:Addr)(H:Hp):Prop:=∃o u,H e=b4 (.frz o u)/\OW o
structure QBh(X:Cx)(e:Addr)(st:List Stmt)(m:MS):Prop where
 h:∀(b0l:jw)(s:X7)(σ:L2.St)(H:Hp)(D:Ends),nF e H->Inv X b0l σ H s->tMS X.K m D σ H->Yl (Yv X.prog X.w) X.A (execs st X.env) (SP X b0l D) X.xe s
theorem QB.soft{st:List Stmt}(h:QB X st m):QBh X e st m:=⟨λb0l s σ H D _ I t=>h.h b0l s σ H D I t⟩
noncomputable abbrev _root_.L2.Cx.hnd(X:Cx)(e:Value):Cx:={X with A:=X.A.mark (b4 e),calm:=b7,xe:=λ_ _=>False}
theorem EZ{σ:L2.St}(I:Inv X b0l σ H s)v:Inv (X.hnd v) b0l σ H s:=
 ⟨⟨I.ok.mod,I.ok.kind,I.ok.glob,I.ok.blt,I.ok.above,I.ok.inj,I.ok.has,I.ok.cab,(λz=>nomatch z),I.ok.frames,I.ok.stk,I.ok.exf,I.ok.bs,I.ok.bsz,I.ok.noex,I.ok.exfs,I.ok.funs,I.ok.frf⟩,I.os,I.bare,I.base,I.loc,I.cell,I.free,I.freeC,I.pin,I.hok,I.len⟩
theorem uV{σ:L2.St}(ok:X.Ok)(I:Inv (X.hnd v) b0l σ H s):Inv X b0l σ H s:=⟨ok,I.os,I.bare,I.base,I.loc,I.cell,I.free,I.freeC,I.pin,I.hok,I.len⟩
theorem OX{σ:L2.St}(l:X.ex=[])(c:X.stack=X.env::X.outer)(w:X.env.frame=b4 L)(I:Inv X b0l σ H s)(x:Ex X b0l H s e cls dc T)(k:∀s' B,Inv X b0l σ H s'->Ex X b0l H s' e cls dc (b4 (B,.none))->Q () s'):Yl M X.A (a5B (.ref e) X.env) (λ_ i=>Yl M X.A (a5y (.ref e) b6) Q E i) E s:=by
 refine EU (λp a=>(x.hT p a).imp id λ⟨L,v,q⟩=>by rw[w]at v;cases v;exact q) (by rw[<- c];exact I.ok.frames) (by rw[<- c];exact I.stack) w x.rc λJ G U j y=>?_;refine zM (s:={s with heap:=J}) U λu Y _ A=>?_;have N:XKept (dG X.stack) e T s.heap u:=by
  rw[c];refine⟨λb o d r h O=>?_,λb o d r h=>?_⟩
  .rw[A b (rL d h j)];exact y.keep b o d r h O
  .obtain⟨R,K⟩:=y.slot b o d r h;refine⟨R,?_⟩;rw[A b (rL d h j)];exact K
 refine k {s with heap:=u} G (x.kept l I N) ⟨Y,(λp a=>by cases a;exact .inl rfl),⟨x.lo.1,λp a=>?_⟩,⟨x.fr.1,λp a=>?_⟩,λq n=>⟨(x.pn q n).1,λp a=>?_⟩⟩
 .cases a;exact j.elim (λz=>a2w (Y6 I.sz z)) (λ⟨p,a,q⟩=>q▸x.lo.2 p a)
 .cases a;exact j.elim (λz=>I.hok.fresh z) (λ⟨p,a,q⟩=>q▸x.fr.2 p a)
 .cases a;exact rL (I.pin q n).1 (x.pn q n).2 j
theorem OY{σ:L2.St}(c:X.ex=[])(I:Inv X b0l σ H s)(x:Ex X b0l H s e cls dc (b4 (T,.none)))(k:∀s',Inv X b0l σ H s'->Ex X b0l H s' e cls dc (b4 (T,.none))->Q () s'):Yl M A (a5y (.ref e) b6) Q E s:=by
 refine zM x.rc λh i _ d=>k {s with heap:=h} (x.kept c I ⟨λb o a _ n _=>?_,λb o a _ n=>⟨o.slots,?_⟩⟩) ⟨i,x.hT,x.lo,x.fr,x.pn⟩
 .rw[d b (n _ rfl)];exact a
 .rw[d b (n _ rfl)];exact a
theorem Ex.cell{σ:L2.St}(j:X.ex=[])(I:Inv X b0l σ H s)(x:Ex X b0l H s e cls dc T)(R:Rp X.K π H d)(E:uU X.K π d.length H cls dc y):
  ∃i H',Ext π d.length H i (d++[C.exc y.1 (y.2.map (·.1)) (y.2.map (·.2))]).length H'/\Rp X.K i H' (d++[C.exc y.1 (y.2.map (·.1)) (y.2.map (·.2))])/\Inv X b0l σ H' s/\i d.length=e/\nF e H':=by
 obtain⟨o,w,r,L,A,v,g5,M⟩:=x.rc.ob;have hc:oM X.K π d.length H e (C.exc y.1 (y.2.map (·.1)) (y.2.map (·.2))) (.frz o (.ext λ_=>True)):=by
  refine⟨o,_,rfl,by rw[L];exact E.1,⟨w,v⟩,?_⟩;rcases E.2 with⟨h,Y⟩|⟨J,od,us,N,O,Q,U⟩
  .rw[h];exact .inl ⟨rfl,rfl,A.trans Y⟩
  .exact .inr ⟨J,od,us,by rw[A];exact N,O,Q,U⟩
 obtain⟨K,G,p1⟩:=R.alloc x.fr.1 hc;refine⟨_,_,K,G,?_,p1,o,_,bN,w,v,M⟩;have l:∀b u,H b=b4 u->b≠e:=λb u h z=>by rw[z,x.fr.1]at h;cases h
 have B:∀b∈[e],X.s₀.heap.get? b=none:=λb a=>by cases YA.mp a;exact x.lo.1
 have q:=EV I j B λb a=>by cases YA.mp a;exact⟨o,w,r,v⟩
 have k:=q.step (H':=upd H e (.frz o (.ext λ_=>True))) (h':=s.heap) (g':=s.gens) (d':=s.drawn) (t':=s.toks) (ch:=[e]) (λb a=>?_) (λb o _ _ _ g _=>g) (λb o _ _ _ g _=>⟨o.slots,g⟩)
  (λb o nc g n=>?_) (λb o _ g=>⟨o,g⟩) (λb xs h=>by rw[aN (l _ _ h)];exact h) (λb o u h=>by rw[aN (l _ _ h)];exact h) (λb ps h=>⟨#[],by rw[aN (l _ _ h),h];simp⟩) (λ_ h=>h) ?_ I.bare
 .exact EW k j B
 .refine⟨.inl a,(q.ok.exf b a).1,(q.ok.exf b a).2,λp Z=>?_⟩;cases YA.mp a;exact(x.pn p Z).1
 .rw[aN (λz=>nc (by rw[z];exact YA.mpr rfl))];exact n
 .intro b u h;by_cases a:b=e
  .subst a;rw[bN]at h;cases h;exact⟨r,trivial,⟨o,r⟩,λ_ _ _ _=>trivial⟩
  .rw[aN a]at h;exact(I.hok b u h).stay (λ_ _ _ g=>g) (λc g=>by rw[aN (l _ _ g)];exact g) (λc xs g=>by rw[aN (l _ _ g)];exact g)
theorem En.unset{K:X2}(E:En K π n H σ b)i:En K π n H (σ.set i b6) (b.set i b6):=by
 refine⟨by rw[ZD,ZD];exact E.len,λj c e=>?_⟩;rw[a7E]at e ⊢;by_cases a:i=j
 .rw[if_pos a]at e;split at e<;>cases e
 .rw[if_neg a]at e ⊢;exact E.get j c e
theorem uW{σ:L2.St}(I:Inv X b0l σ H s)(Y:X.N.Nodup)(N:X.N[i]?=b4 y)(O:X.env.scope.names.lookup y=b4 .local)(h:∀s',Inv X b0l (σ.set i b6) H s'->Q () s'):Yl M A (do bindName X.env y .none;a7Y X.env y pos) Q E s:=by
 have Z:X.env.kindOf y=b4 .local:=O;have G:(X.env.scope.kind==.class||(X.env.scope.kind==.module&&X.env.locals != X.env.globals))=false:=by rw[I.ok.kind];rfl
 refine X1 (wpAny_bindName (tV (v:=.non) I Y N (.inl O) rfl (λs1 a _=>?_) (.inr O)));unfold a7Y;refine wpAny_onRaise ?_;unfold unbindName;refine X1 (a7X (X1 ?_));unfold deleteName;simp only[Z,G];rw[if_neg (by decide)];obtain⟨m,hn,hl⟩:=id a.loc;have r:i<(σ.set i (b4 V.non)).length:=by rw[a.len];exact(X8.mp N).1
 have my:(m y).isSome=true:=by
  obtain⟨u,_,q⟩:=hl i y .non N (by rw[YY (by simpa using r)]) (.inl O);rcases q with⟨_,q⟩|⟨q,_⟩
  .rw[q];rfl
  .rw[Z]at q;rcases q with q|q<;>cases q
 refine X1 (wpAny_nsDel_keeps hn λh2 v U x=>?_);simp only[my,a2r,YH,if_false];refine Yb (a7X (h _ ?_));have cne:=a.cne;obtain⟨oL,_,_,hoL,_⟩:=id hn;refine⟨I.ok,a.os,a.bare,⟨λb o e n R K=>?_,λb o e n R K=>?_,a.base.free,λb o e K=>?_,a.base.tups,a.base.frzs,a.base.tbls⟩,⟨_,U,λj z v' B L e3=>?_⟩,λy c e=>?_,a.free,a.freeC,λp hp=>?_,λb ob e=>?_,by rw[ZD];exact I.len⟩
 .exact(x.2 b (Yn (YE (Yc e) I.ok.above))).trans (a.base.keep b o e n R K)
 .obtain⟨sl,B⟩:=a.base.slot b o e n R K;exact⟨sl,(x.2 b (Yn (YE (Yc e) I.ok.above))).trans B⟩
 .obtain⟨o',B⟩:=a.base.there b o e K;exact⟨o',(x.2 b (Yn (YE (Yc e) I.ok.above))).trans B⟩
 .have J:j≠i:=λJ=>by subst J;rw[YY (by simpa using r)]at L;cases L
  rw[Yx (YW J)]at L;obtain⟨u',r',q⟩:=hl j z v' B (by rw[Yx (YW J)];exact L) e3;refine⟨u',r',?_⟩;rcases q with⟨k,e⟩|⟨k,c,e,w⟩
  .refine .inl ⟨k,?_⟩;have:z≠y:=λe=>J (xH Y B (e▸N));simp[this,e]
  .exact .inr ⟨k,c,e,w.sameBut x (cne z c e)⟩
 .obtain⟨w',z⟩:=a.cell y c e;exact⟨w',z.sameBut x (cne y c e)⟩
 .obtain⟨e,n,ne,nf,d⟩:=a.pin p hp;exact⟨(x.2 p.1 ne).trans e,n,ne,nf,d⟩
 .refine(a.hok b ob e).stay (λc w' hc q=>(x.2 c ?_).trans q) (λ_ q=>q) λ_ _ q=>q;intro z;have l:=a.free;rw[<- z]at l;rcases hc with hc|hc
  .rw[hc,e]at l;cases l
  .rw[l]at hc;cases hc
noncomputable def jX(m:MS)(r:MR)(sup:Str->Option Bool)(i:Nat)(c:MS):MS:=λb a=>match r b a with
 |some p=>if sup p.1.1=b4 b8 then(c (p.2.1.set i (b4 (.loc p.2.2.length))) (p.2.2++[C.exc p.1.1 (p.1.2.map (·.1)) (p.1.2.map (·.2))])).map λq=>(q.1,q.2.1.set i b6,q.2.2)else b6|none=>m b a
theorem OZ(O:X.ex=[])(hst:X.stack=X.env::X.outer)(hf:X.env.frame=b4 L)(hN:X.N.Nodup)(hi:X.N[i]?=b4 y)(hy:X.env.scope.names.lookup y=b4 .local)(hg:Gl X c)(hdb:(c==("__debug__":Str))=b7)(hs:∀x b,sup x=b4 b->rM X.K x c=b4 b)(hm:QB X.nox body m)(hr:∀E,QRB (X.wish E) body r)(hh:∀e,QBh (X.hnd (.ref e)) e (l::hb) mh):
  QS X (.Try body [.ExceptHandler (b4 (.Name c cp)) (b4 y) (l::hb) hp] [] [] pos) (jX m r sup i mh):=by
 refine⟨λj s A H D I t=>wpAny_Try_except ?_⟩;obtain⟨π,ρ,μ,fl,ρ',μ',R,En0,o,n⟩:=t;unfold jX at o;split at o
 .rename_i p hp';obtain⟨x,ρ1,Y⟩:=p;dsimp only at o;split at o
  .rename_i w;obtain⟨⟨fl2,ρ2,μ2⟩,hq,o⟩:=X5.mp o;cases o;refine aJ ((hr (λe s₁=>Yl (Yv X.prog X.w) X.A (a5B e X.env) (λ_ s₂=>Yl (Yv X.prog X.w) X.A (a5y e b6) (λ_ s₃=>Yl (Yv X.prog X.w) X.A (handleBy e X.env [.ExceptHandler (b4 (.Name c cp)) (b4 y) (l::hb) hp]) (SP X j D) X.xe s₃) X.xe s₂) X.xe s₁)).h j s A H π ρ μ x ρ1 Y (I.wish _) R En0 hp' ?_) λ_ _ z=>z.elim;intro π1 σ1 H1 s1 e cls dc T e1 R1 E1 I1 U ix;have I1:=I1.unwish;have U:Ex X j H1 s1 e cls dc T:=⟨U.rc,U.hT,U.lo,U.fr,U.pn⟩;refine OX O hst hf I1 U λs2 T2 I2 x2=>?_;obtain⟨B,hB⟩:∃B,gX X.K x.1=b4 B:=by have:=hs _ _ w;unfold rM at this;obtain⟨B,hB,_⟩:=X0.mp this;exact⟨B,hB⟩
   have a:=hs _ _ w;unfold rM at a;rw[hB,Yy]at a;obtain⟨Ca,hC,a⟩:=X0.mp a;obtain⟨b1,hb1,a⟩:=X0.mp a;obtain⟨b2,hb2,a⟩:=X5.mp a;have hcls:cls=.ref B:=by have h1:Zn X.K Y0 x.1=b4 (b4 cls):=ix.1;rw[lZ hB]at h1;cases h1;rfl
   subst hcls;have hmg:X.mg c=b4 (.ref Ca):=a0z I.mod.kin I.mod.glob (lZ hC);have kin:=I2.kIn;obtain⟨⟨N1,mH,q1,bs1,sn1,su1,ab1,col1,dd1,a0,a1,a2,a3,a5,o1⟩,_⟩:=pG kin hb1;obtain⟨⟨N2,nm2,q2,bs2,sn2,su2,ab2,col2,dd2,c0,c1,c2,c3,c5,o2⟩,ob2⟩:=pG kin hb2;obtain⟨oe,vs,g1,g2,_⟩:=x2.rc.ob;refine wpAny_handleBy_cons (codeAny_handlers_test ?_) (by intro q;cases q);refine f7 (X:=X.hnd (.ref e)) (EZ I2 (.ref e)) hg hmg ?_ hdb;refine OV o1 o2 g1 g2 ob2 ?_;rw[a];dsimp only[if_true];refine codeAny_handlers_suite_as ?_;refine OY O I2 x2 λs3 I3 x3=>?_;obtain⟨π4,H4,e4,R4,I4,p4,sf⟩:=x3.cell O I3 R1 ix;refine tV (v:=.ref e) I4 hN hi (.inl hy) rfl (λs5 I5 _=>?_) (.inr hy);have dl:IsD X.K π4 (Y++[C.exc x.1 (x.2.map (·.1)) (x.2.map (·.2))]).length H4 (.ref e) (.loc Y.length):=by rw[<- p4];exact .loc (by simp)
   have k:=(hh e).h j s5 _ H4 {nx:=λA H=>D.nx (A.set i b6) H,bk:=λA H=>D.bk (A.set i b6) H,ct:=λA H=>D.ct (A.set i b6) H,rt:=D.rt} sf (EZ I5 (.ref e))
    ⟨π4,_,_,fl2,ρ2,μ2,R4,(E1.mono e4).set dl i,hq,?_⟩
   .refine Y1 k (λf s6 q=>?_) λ_ _ z=>Y4 z;cases f with
    |next=>obtain⟨Z,J,K,Q⟩:=q;exact uW (uV I.ok K) hN hi hy λs7 M=>⟨_,J,M,Q⟩|brk=>obtain⟨Z,J,K,Q⟩:=q;exact uW (uV I.ok K) hN hi hy λs7 M=>⟨_,J,M,Q⟩|cont=>obtain⟨Z,J,K,Q⟩:=q;exact uW (uV I.ok K) hN hi hy λs7 M=>⟨_,J,M,Q⟩|ret u=>obtain⟨v6,Z,J,K,r6,Q⟩:=q;exact uW (uV I.ok K) hN hi hy λs7 M=>⟨v6,_,J,M,r6,Q⟩
   .have ee:=e1.trans e4;cases fl2 with
    |nx=>exact λh σ' G N R' E'=>n h _ G (ee.trans N) R' (E'.unset i)|bk=>exact λh σ' G N R' E'=>n h _ G (ee.trans N) R' (E'.unset i)|ct=>exact λh σ' G N R' E'=>n h _ G (ee.trans N) R' (E'.unset i)|rt d=>exact λh v G N=>n h v G (ee.trans N)
  .cases o
 .refine Y1 (hm.h j s A H D (I.wish _) ⟨π,ρ,μ,fl,ρ',μ',R,En0,o,n⟩) (λf s1 q=>?_) λ_ _ z=>Y4 z;cases f with
  |next=>exact a2e (SP.unwish (f:=.next) q)|brk=>exact SP.unwish (f:=.brk) q|cont=>exact SP.unwish (f:=.cont) q|ret u=>exact SP.unwish (f:=.ret u) q
noncomputable abbrev pH(h:Y5)(C:Addr)(rest:gw):Y5:=(h.push {cls:=.type "tuple",data:=.seq rest.toArray}).push {cls:=.ref C,data:=.fields #[.ref h.objs.size,.none,.none,.none,.bool b7,.none]}
theorem uX{C:Addr}{rest:gw}:∀b o,h.get? b=b4 o->(pH h C rest).get? b=b4 o:=λb o q=>X6 _ (X6 _ q)
theorem E4 h C rest:(pH h C rest).get? (h.objs.size+1)=b4 {cls:=.ref C,data:=.fields #[.ref h.objs.size,.none,.none,.none,.bool b7,.none]}:=by heap_get
theorem O0{s:X7}{C:Addr}{bs bm bmB:gw}{sub:gw}{rest:gw}(F:ExcBaseFacts B newId initId bmB)(T:a5i s.heap bmB bm)(hC:s.heap.get? C=b4 (a0c nm q C N bs bm hdct sn sub ab col dd k0 k1 k2 k3 k5 newId))(y:s.heap.Ns N mN)(u:mN "__init__"=b4 (.ref fI))(p:s.heap.get? fI=b4 k)(e:k.cls=.type "function")(v:rest.length<=Yi)(z:Yl (Yv prog w) A (call (.ref fI) (.ref (s.heap.objs.size+1)::rest)) (λr l=>r=.none/\Q (.done (.ret (.ref (s.heap.objs.size+1)))) l) E {s with heap:=pH s.heap C rest}):
  Yl (Yv prog w) A (Builtin.«type.__call__» ⟨.ref C::rest,[]⟩) Q E s:=by
 obtain⟨h,g,d,t,G⟩:=s;repeat (first|with_reducible refine Zj hC ?_|with_reducible refine wpAny_madeBy_exc hC ?_|wp_step)
 refine codeAny_call_builtin_code (a7c _ F.quiet) (wpAny_check_new_subT F T hC (codeAny_exc_new_subT F T hC ?_ v));show Yl _ _ _ _ _ (⟨pH h C rest,g,d,t,G⟩:X7);have a:=uX (C:=C) (rest:=rest) _ _ hC;have i:=y.keeps (uX (h:=h) (C:=C) (rest:=rest));have c:=uX (C:=C) (rest:=rest) _ _ p;have n:=T.keeps (uX (h:=h) (C:=C) (rest:=rest));have o:=E4 h C rest;have b:(Ye C::bm).contains (.ref C)=true:=by simp
 unfold a6l;repeat (first|with_reducible refine Zj o ?_|(with_reducible refine a1b a ?_;rw[b])|wp_step)
 show Yl _ _ (a0J (.ref C) _) _ _ _;refine wpAny_typeLookup_tail a i n F.mroIs F.init.lookup ?_;rw[u];refine YS (X1 ?_);unfold bindSpecial;refine X1 (a3c (T:="function") ⟨_,c,e⟩ ?_);rw[if_pos (by decide)];refine Yb (X1 (Y1 z (λr l j=>?_) λ_ _ x=>x));obtain⟨rfl,j⟩:=j;wp_walk;exact j
theorem O1{s:X7}{C:Addr}{bs bm bmB:gw}{sub:gw}{rest:gw}(F:ExcBaseFacts B newId initId bmB)(T:a5i s.heap bmB bm)(hC:s.heap.get? C=b4 (a0c nm q C N bs bm hdct sn sub ab col dd k0 k1 k2 k3 k5 newId))(j:s.heap.Ns N mN)(e:mN "__init__"=b4 (.ref fI))(c:s.heap.get? fI=b4 b)(a:b.cls=.type "function")(i:rest.length<=Yi)(k:Yl (Yv prog w) (A.under (.builtin "type.__call__" ⟨.ref C::rest,[]⟩)) (call (.ref fI) (.ref (s.heap.objs.size+1)::rest)) (λr l=>r=.none/\Q (.ref (s.heap.objs.size+1)) l) E {s with heap:=pH s.heap C rest}):
  Yl (Yv prog w) A (call (.ref C) rest) Q E s:=by
 have n:=tc_lookup;have o:=tc_bind (.ref C);have p:s.TypeIs (.ref C) "type":=⟨_,hC,rfl⟩;obtain⟨h,g,d,t,u⟩:=s;refine a3m (codeAny_of_tree ?_);show Yl _ _ (callAny (.ref C) _) _ _ _;repeat (any_goals (first|assumption|with_reducible refine Zj hC ?_|wp_step))
 refine⟨rfl,?_⟩;exact codeAny_call_builtin_at (a7c _ (by decide +kernel)) entry_typeCall (wpAny_check_type_call_sub hC (O0 F T hC j e c a i k))
theorem O2{C:Addr}{bs bm:gw}{sub:gw}(b:bm.contains (.type "BaseException")=b8)(r:A.handled=b6)(h:Yl (Yv prog w) A x (λv a=>∃e i k,v=.ref e/\a.heap.get? C=b4 (a0c nm q C N bs bm hdct sn sub ab col dd k0 k1 k2 k3 k5 newId)/\a.heap.get? e=b4 i/\i.cls=.ref C/\i.data=.fields k/\k[1]?=b4 .none/\E (.ref e) a) E s):
  Yl (Yv prog w) A (raiseStmt env (b4 x) b6) Q E s:=by
 have j:(Ye C::bm).contains (.type "BaseException")=true:=by rw[a2S,b,a4u]
 unfold raiseStmt;refine X1 (Y1 h (λv a c=>?_) λ_ _ x=>x);obtain⟨e,i,k,rfl,l,n,hc,hd,o,p⟩:=c;obtain⟨G,H,u,y⟩:=i;cases hc;cases hd;obtain⟨z,g,d,J,I⟩:=a;repeat (first|with_reducible refine Zj n ?_|with_reducible refine Zj l ?_|(with_reducible refine a1b l ?_;rw[j])|with_reducible refine a0a n rfl o ?_|wp_step)
 exact wpAny_raiseNew_none r p
theorem O3{C:Addr}{bs bm:gw}{sub:gw}(T:a5i s.heap nE bm)(hC:s.heap.get? C=b4 (a0c nm q C N bs bm b8 sn sub ab col dd k0 k1 k2 k3 k5 newId))(i:s.heap.get? x=b4 o)(hc:o.cls=.ref C)(e:Q () s):
  Yl M A (a3N "object.__setattr__" ⟨[.ref x,a,v],[]⟩) Q E s:=by
 have b:=a2T;have c:(Ye C::bm).contains (.type "object")=true:=by rw[a2S,T.hasType b.hasOwner,a4u]
 have j:=b.args (.ref x) a v;obtain⟨h,g,d,t,k⟩:=s;simp only[a3N,b.kind,b.split];refine X1 ?_;unfold a6l;repeat (first|(with_reducible refine Zj i ?_;rw[hc])|(with_reducible refine a1b hC ?_;rw[c])|wp_step)
 exact e
theorem O4{C:Addr}{bs bm:gw}{sub:gw}(T:a5i s.heap nE bm)(hC:s.heap.get? C=b4 (a0c nm q C N bs bm b8 sn sub ab col dd k0 k1 k2 k3 k5 newId))(O:a1E (Yv prog w) s.heap (a0J (.ref C) name) b6)(G:s.heap.get? x=b4 o)(hc:o.cls=.ref C)(hd:o.data=.fields vs)(hnd:o.dict=b6)(L:∀a R J,a.get? x=b4 {o with dict:=b4 s.heap.objs.size}->a.get? s.heap.objs.size=b4 R->a.Ns1 s.heap.objs.size (λy=>if y=name then b4 v else b6)->(∀b I,b≠x->s.heap.get? b=b4 I->a.get? b=b4 I)->Q (.done (.ret .none)) {s with heap:=a,toks:=J}):
  Yl (Yv prog w) A (Builtin.«object.__setattr__» ⟨[.ref x,.str name tk,v],[]⟩) Q E s:=by
 have U:=a2T;have c:refuseLoop (.ref x) "__setattr__" (.ref C::bm)=pure ():=by
  rw[b0f];clear hC O L;induction T with
  |base=>exact U.passes _|own _ _ _ _ ih=>rw[b0f];exact ih
 obtain⟨h,g,d,t,os⟩:=s;unfold Builtin.«object.__setattr__»;repeat (first|rw[refuse_eq]|rw[c]|(with_reducible refine Zj G ?_;rw[hc])|with_reducible refine wpAny_mroOf_exc hC ?_|with_reducible refine Z4 (s:=⟨h,g,d,_,os⟩) O ?_|wp_step)
 rw[hnd,if_neg (by simp[typeHasDict])];rw[hd];have k:(h.push {cls:=.type "dict",data:=.dict #[]}).get? x=b4 o:=X6 _ G;have l:x≠h.objs.size:=Yn (Yc G);refine X1 (wpAny_alloc' ?_);refine X1 (wpAny_update' k (Yb ?_));have H:((h.push {cls:=.type "dict",data:=.dict #[]}).update x λo=>{cls:=o.cls,dict:=b4 h.objs.size,data:=o.data,slots:=o.slots}).get? x=b4 {o with dict:=b4 h.objs.size}:=by refine YM _ k ?_;obtain⟨oc,R,odt,osl⟩:=o;cases hd;rfl
 have u:((h.push {cls:=.type "dict",data:=.dict #[]}).update x λo=>{cls:=o.cls,dict:=b4 h.objs.size,data:=o.data,slots:=o.slots}).get? h.objs.size=b4 {cls:=.type "dict",data:=.dict #[]}:=
  (a6P _ _ _ _ l.symm).trans (Heap.get?_push_at rfl rfl)
 have z:((h.push {cls:=.type "dict",data:=.dict #[]}).update x λo=>{cls:=o.cls,dict:=b4 h.objs.size,data:=o.data,slots:=o.slots}).Ns h.objs.size (λ_=>b6):=⟨_,#[],_,u,rfl,(λe Z=>absurd Z (by simp)),λ_=>rfl⟩;show Yl _ _ (a3t h.objs.size (.str name tk) name v) _ _ _;unfold a3t a7R;refine X1 (Yb (X1 (wpAny_nsSet1 (Heap.Ns1.of_empty z) λa i M=>?_)));obtain⟨oD,Y,X,j,r,p⟩:=i.count (Within.cons name v Within.nil);refine X1 (wpAny_lookBehind j (by rw[r];exact pastItsLine_dict (Y6 p (by rw[YB,a1g,Yz];lia))) ?_);wp_walk;exact L a oD _ ((M.2 x l).trans H) j i λb I n K=>(M.2 b (Yn (Yc K))).trans ((a6P _ _ _ _ n).trans (X6 _ K))
theorem O5{C:Addr}{bs bm:gw}{sub:gw}(T:a5i s.heap nE bm)(hC:s.heap.get? C=b4 (a0c nm q C N bs bm b8 sn sub ab col dd k0 k1 k2 k3 k5 newId))(G:a1E (Yv prog w) s.heap (a0J (.ref C) "__setattr__") (b4 (.builtin "object.__setattr__")))(H:a1E (Yv prog w) s.heap (a0J (.ref C) name) b6)(i:s.heap.get? x=b4 o)(hc:o.cls=.ref C)(hd:o.data=.fields vs)(hnd:o.dict=b6)(z:∀a j c,a.get? x=b4 {o with dict:=b4 s.heap.objs.size}->a.get? s.heap.objs.size=b4 j->a.Ns1 s.heap.objs.size (λy=>if y=name then b4 v else b6)->(∀b l,b≠x->s.heap.get? b=b4 l->a.get? b=b4 l)->Q () {s with heap:=a,toks:=c}):
  Yl (Yv prog w) A (setAttr (.ref x) name v) Q E s:=by
 have e:=a2T;have I:=e.slot.bind (.ref x);obtain⟨h,g,d,t,k⟩:=s;unfold setAttr callSpecial? specialOf;repeat (any_goals (first|assumption|(with_reducible refine Zj i ?_;rw[hc])|with_reducible refine Z4 (s:=⟨h,g,d,_,k⟩) G ?_|wp_step))
 refine a2O e.slot.plain e.entry (O3 (s:=⟨h,g,d,t+1,k⟩) T hC i hc (O4 (s:=⟨h,g,d,t+1,k⟩) T hC H i hc hd hnd λa j c n p r u=>?_));repeat (any_goals (first|assumption|wp_step))
 exact z a j c n p r u
noncomputable def XO(e C:Addr)(a:Option Addr):HO:=.ext λh=>∃o vs,h.get? e=b4 o/\o.cls=.ref C/\o.dict=a/\o.data=.fields vs/\(vs[1]?=b4 .none/\vs[2]?=b4 .none)/\∃t,vs[0]?=b4 (.ref t)
theorem zP{C:Addr}(h1:h.get? e=b4 o)(d:o.cls=.ref C)(i:o.dict=b)(j:o.data=.fields vs)(l:vs[1]?=b4 .none/\vs[2]?=b4 .none)(n:vs[0]?=b4 (.ref t)):ObjOk P w H h e (XO e C b):=
 ⟨⟨o,vs,h1,d,i,j,l,t,n⟩,⟨o,h1⟩,λ_ _ ⟨p,a,c,g⟩ k=>⟨p,a,k _ c,g⟩⟩
noncomputable def uY(K:X2)(C f:Addr):Bool:=match K.lookup C with
 |some ⟨.type "type",_,.cls cd,sl⟩=>(match cd.mro,sl.toList with
  |.ref C'::bm,[_,_,_,_,b4 (.builtin n),_]=>C'==C&&n=="ValueError.__new__" && !cd.hasDel&&cd.hasDict&&PySem.W.tailIn K nE bm&&PySem.W.nsOkIn K cd.ns&&Zn K cd.ns "__init__"==b4 (b4 (.ref f))
  |_,_=>b7)
 |_=>b7
theorem O6{K:X2}(X:K.In h)(G:h.Ns N m)(e:Zn K N n=b4 (b4 v)):m n=b4 v:=by
 obtain⟨o,p,l,j,hd,_,i⟩:=G;unfold Zn at e;split at e
 .rename_i c d b r s q;have g:=X _ _ q;rw[j]at g;cases g;cases hd;split at e
  .rename_i k a;cases e;rw[<- i n];unfold nsFind findBy;rw[<- Array.find?_toList,a];rfl
  .split at e<;>cases e
 .cases e
theorem uZ{K:X2}{C:Addr}(X:K.In h)(q:uY K C f=b8):
  ∃d N s u bs sn b p a r i j k l o v,h.get? C=b4 (a0c s u C N bs d b8 sn b p a r i j k l o "ValueError.__new__")/\h.Ns N v/\v "__init__"=b4 (.ref f)/\a5i h nE d:=by
 unfold uY at q;split at q
 .rename_i r w Q z;split at q
  .rename_i R d i j k l n o y A;rw[X4,X4,X4,X4,X4,X4,beq_iff_eq,beq_iff_eq,beq_iff_eq,a2h]at q;obtain⟨⟨⟨⟨⟨⟨G,H⟩,I⟩,O⟩,J⟩,L⟩,M⟩:=q;subst G H;cases w with
   |mk s bs B E u hd sn b p a x=>cases y;cases I;cases O;have e:Q=#[i,j,k,l,b4 (.builtin "ValueError.__new__"),o]:=a4E.mp A;subst e;have c:=a6u X L;exact⟨d,E,s,u,bs,sn,b,p,a,r,i,j,k,l,o,_,X _ _ z,.of_isNs c,O6 X (.of_isNs c) M,a6t X J⟩
  .cases q
 .cases q
noncomputable def zQ(K:X2)(B:Addr):Bool:=PySem.W.readsIn K B (.type "type")&&(match a6Y K (.ref B) (.type "type") "__init__" with|some (.val (.builtin n))=>n=="ValueError.__init__" |_=>b7) &&
 a2R K (.ref B) "__getattribute__"==b4 (b4 (.builtin "type.__getattribute__"))
noncomputable def nG(C:Addr)(b:Str):Sp:=λvs H Q _=>∃e v,vs=[V.ref e,v]/\H e=b4 (XO e C b6)/\∀a c,H a=b6->a≠e->Q .non (upd (upd H e (XO e C (b4 a))) a (.frz c (.xd [(b,v)])))
structure InitK(K:X2)(C f B:Addr)(bn at':Str):Prop where
 cls:uY K C f=b8
 base:zQ K B=b8
 bnm:Zn K Y0 bn=b4 (b4 (.ref B))
 set:ZI K (.ref C) "__setattr__"=b4 (b4 (.builtin "object.__setattr__"))
 none:ZI K (.ref C) at'=b4 b6
theorem O7{σ:L2.St}{C:Addr}{us:gw}(c:InitK X.K C f B bn at')(I:Inv X b0l σ H s)(l:H e=b4 (XO e C b6))(hl:us.length<=Yi)(k:∀G,Inv X b0l σ H G->Q .none G):Yl (Yv X.prog X.w) X.A (call (.builtin "ValueError.__init__") (.ref e::us)) Q E s:=by
 obtain⟨bm,N,nm,qn,bs,sn,U,Z,K,dd,k0,k1,k2,k3,k5,mN,M,hn,_,T⟩:=uZ I.kIn c.cls;have F:=a0C;obtain⟨⟨o,Y,v,w,L,j,x,ta,y⟩,_⟩:=I.hok e _ l;obtain⟨h,g,d,t,R⟩:=s;refine a3m (a2O F.init.plain F.initEntry (wpAny_check_init_subT F T M v w ?_));have a:(h.push {cls:=.type "tuple",data:=.seq us.toArray}).get? e=b4 o:=X6 _ v;have A:0<Y.size:=(Zx.mp y).1;unfold Builtin.«BaseException.__init__»;repeat (first|with_reducible refine a0a a j y ?_|with_reducible refine a1J a j A ?_|wp_step)
 have i:upd H e (XO e C b6)=H:=by
  funext b;unfold upd;split
  .rename_i z;rw[z,l]
  .rfl
 have J:Inv X b0l σ H ⟨h.push {cls:=.type "tuple",data:=.seq us.toArray},g,d,t,R⟩:=I.kept (t':=t) λb u q=>X6 _ q;have p:=a1f j (·.setIfInBounds 0 (Ye h.objs.size));have r:=YM (a2t (·.setIfInBounds 0 (Ye h.objs.size))) a (a1m p);have n:=J.write (x:=e) (e:=e) (o:=XO e C b6) (h':=(h.push {cls:=.type "tuple",data:=.seq us.toArray}).update e (a2t (·.setIfInBounds 0 (Ye h.objs.size)))) (t':=t) (by rw[l];trivial) (.inl rfl) (λb u O q=>by rw[YF _ _ (YW O)];exact q) ⟨_,r⟩
  (zP r (by rw[a4y];exact w) (by rw[ES];exact L) p ⟨by rw[a2y];simpa using x.1,by rw[a2y];simpa using x.2⟩ (t:=h.objs.size) (by rw[a2y];simp[A]))
 rw[i]at n;exact k _ n
theorem O8{kk}(l:(d.endLine == b.line)=b8):eval (.Call (.Attribute (.Name bn c) "__init__" d) [.Name sf i,.Constant (.str k) kk j] [] b) env=(do
   let h <- eval (.Name bn c) env
   a7l d.atName
   let (f,first) <- holding [h] (getMethod h "__init__" (do return (<- importBound (.Name bn c) env).getD b8))
   callWith b f first (a0s b (YJ [.Name sf i,.Constant (.str k) kk j] env)) (a5d b (a3v [] env))):=by
 rw [arm_eval_Call]
 have n:∀ a,methodCallPos a (.Name bn c) env d b=pure b:=fun a=>by
  unfold methodCallPos
  rw [l]
  cases a<;>rfl
 simp only [methodCall,n,pure_bind]
 rfl
theorem O9{σ:L2.St}{C:Addr}(c:InitK X.K C f B bn at')(I:Inv X b0l σ H s)(j:H e=b4 (XO e C b6))(r:RelV v u)(k:∀Y A x,H A=b6->A≠e->Inv X b0l σ (upd (upd H e (XO e C (b4 A))) A (.frz x (.xd [(at',v)]))) Y->Q () Y):Yl (Yv X.prog X.w) X.A (setAttr (.ref e) at' u) Q E s:=by
 obtain⟨bm,N,nm,qn,bs,sn,sub,ab,col,dd,k0,k1,k2,k3,k5,mN,hC,hn,_,T⟩:=uZ I.kIn c.cls
 obtain⟨⟨o,vs,O,R,g3,U,g5,ta,g6⟩,_⟩:=I.hok e _ j
 refine O5 T hC (a0o I.kIn c.set) (a0o I.kIn c.none) O R U g3 λh' x K M Z a3 l=>?_
 have ne:s.heap.objs.size≠e:=Zz (Yc O)
 have nd:H s.heap.objs.size=none:=I.hok.fresh (Yd _)
 refine k _ s.heap.objs.size x nd ne ?_
 have w:∀b z,H b=b4 z->b≠s.heap.objs.size:=λb z q L=>by rw[L,nd]at q;cases q
 have up:∀b,b≠e->b≠s.heap.objs.size->upd (upd H e (XO e C (b4 s.heap.objs.size))) s.heap.objs.size (.frz x (.xd [(at',v)])) b=H b:=λb h1 h2=>by rw[aN h2,aN h1]
 have nx:∀b z,H b=b4 z->z≠XO e C b6->b≠e:=λb z q G L=>by rw[L,j]at q;cases q;exact G rfl
 refine I.step (H':=upd (upd H e (XO e C (b4 s.heap.objs.size))) s.heap.objs.size (.frz x (.xd [(at',v)]))) (h':=h') (g':=s.gens) (d':=s.drawn) (t':=K) (ch:=[]) (λb h=>nomatch h)
  (λb i _ _ _ q n=>l b i (λz=>by rw[z,j]at n;cases n) q) (λb i _ _ _ q n=>⟨i.slots,l b i (λz=>by rw[z,j]at n;cases n) q⟩)
  (λb i _ q n=>?_) (λb i _ q=>?_) (λb xs q=>?_) (λb i z q=>?_) (λb ps q=>⟨#[],?_⟩) (λm hm=>?_) ?_ I.bare
 .rw[up b (λz=>by rw[z,j]at n;cases n) (Yn (Yc q))]
  exact n
 .by_cases h:b=e
  .exact⟨_,by rw[h];exact M⟩
  .exact⟨_,l b i h q⟩
 .rw[up b (nx _ _ q (by intro z;cases z)) (w _ _ q)]
  exact q
 .rw[up b (nx _ _ q (by intro z;cases z)) (w _ _ q)]
  exact q
 .rw[up b (nx _ _ q (by intro z;cases z)) (w _ _ q)]
  simpa using q
 .obtain⟨oL,es,ep,q1,q2⟩:=hm
  exact⟨oL,es,ep,l _ _ (λz=>by have:=I.free;rw[z,j]at this;cases this) q1,q2⟩
 .intro b z q
  by_cases hd:b=s.heap.objs.size
  .subst hd
   rw[bN]at q
   cases q
   refine⟨Z,_,a3,λy=>?_⟩
   by_cases J:y=at'
   .subst J
    simp[RelO,r]
   .have:(y==at')=false:=beq_eq_false_iff_ne.mpr J
    simp[a2u,this,J,RelO]
  .rw[aN hd]at q
   by_cases h:b=e
   .subst h
    rw[bN]at q
    cases q
    exact zP M R rfl U g5 g6
   .rw[aN h]at q
    refine(I.hok b z q).stay (λp u' a d=>l p u' (λG=>?_) d) (λp d=>?_) λp xs d=>?_
    .rcases a with a|a
     .exact h (a.symm.trans G)
     .rw[G,j]at a;cases a
    .rw[up p (nx _ _ d (by intro z;cases z)) (w _ _ d)]
     exact d
    .rw[up p (nx _ _ d (by intro z;cases z)) (w _ _ d)]
     exact d
theorem Pa{K:X2}{st:Stmt}{C:Addr}{kk}(F:Fun K x qual st f fd)(S:FnScope [sf,ar] [sf,ar] (a9 st))(L:cG st=[.Expr (.Call (.Attribute (.Name bn p1) "__init__" p2) [.Name sf p3,.Constant (.str U) kk p4] [] T) p6,.Assign [.Attribute (.Name sf p7) a p8] (.Name ar p9) R])(hl:(p2.endLine==T.line)=b8)(c:InitK K C f B bn a)(hg:(a9 st).names.lookup bn=b4 .globalImplicit)(N:((bn==("__debug__":Str))||(sf==("__debug__":Str))||(ar==("__debug__":Str))||(sf==("__classdict__":Str))||(ar==("__classdict__":Str)))=b7):
  FnOk P w K r base CX (k+1) f fd [sf,ar] (nG C a):=by
 obtain⟨oc,od,dV,kV,doc,pm,an,b,ct,osl,rfl,lk,M⟩:=F.ex;have N:((((bn==("__debug__":Str))=b7/\(sf==("__debug__":Str))=b7)/\(ar==("__debug__":Str))=b7)/\(sf==("__classdict__":Str))=b7)/\(ar==("__classdict__":Str))=false:=by simpa[Bool.or_eq_false_iff,and_assoc]using N
 obtain⟨⟨⟨⟨n1,n2⟩,n3⟩,n4⟩,n5⟩:=N;refine xY (sp:=nG C a) lk M S (λG H Q E h=>by obtain⟨e,v,rfl,_⟩:=h;rfl) λA outer s H G Q E hr h=>?_;obtain⟨e,v,rfl,he,h⟩:=h;refine⟨λD y H'=>y=L2.start [sf,ar] [V.ref e,v]/\H'=H/\∀l od,H l=b6->l≠e->D.nx y (upd (upd H e (XO e C (b4 l))) l (.frz od (.xd [(a,v)]))),?_,rfl,rfl,h⟩;rintro i s1 σ d D I ⟨rfl,rfl,hD⟩;rw[L];have Z:InitK (dO CX P w K r base [sf,ar] qual (a9 st) f b A outer s d E).K C f B bn a:=c;have J:=c.base;unfold zQ at J;rw[X4,X4,beq_iff_eq]at J;obtain⟨⟨b1,p⟩,b3⟩:=J;have p:a6Y K (.ref B) (.type "type") "__init__"=b4 (.val (.builtin "ValueError.__init__")):=by
  split at p
  .rename_i n q;rw[q,beq_iff_eq.mp p]
  .cases p
 have vS:PE (dO CX P w K r base [sf,ar] qual (a9 st) f b A outer s d E) (.Name sf p3) (mS 0):=oH rfl ((S.par sf (by simp)).elim .inl λz=>.inr (.inl z)) n2 n4;have Y:PE (dO CX P w K r base [sf,ar] qual (a9 st) f b A outer s d E) (.Name sf p7) (mS 0):=oH rfl ((S.par sf (by simp)).elim .inl λz=>.inr (.inl z)) n2 n4;have vA:PE (dO CX P w K r base [sf,ar] qual (a9 st) f b A outer s d E) (.Name ar p9) (mS 1):=oH rfl ((S.par ar (by simp)).elim .inl λz=>.inr (.inl z)) n3 n5;have o:=qV vS (qV (Cu (x:=U) (j:=kk) (pos:=p4)) tY);refine a2B (a6f ?_ I.quiet (lW rfl));refine PySem.W.methodCall_KW (pl:=(do return(<- importBound (.Name bn p1) _).getD b8)) (f7 I hg (a0z I.mod.kin I.mod.glob c.bnm) ?_ n1) (O8 hl);refine PySem.W.method_cls I.kIn b3 (PySem.W.cls_value I.kIn b1 p rfl ?_);refine a0f (aJ (o T i _ _ d (λG j=>[V.ref e,V.str U]=G/\d=j) (I.tok _) ⟨V.ref e,rfl,rfl,rfl⟩) λus s2 ⟨G,j,I2,u,e1,e2⟩=>?_);subst e1 e2;cases u with
 |cons r1 u=>
  rename_i u1 us _;obtain rfl:u1=Ye e:=r1;cases u with
  |cons r2 u=>cases u;refine O7 Z I2 he (by rw[Yz];simp) λs3 I3=>?_;refine a2B (plainObj_wpAny_Assign_Attribute (aJ (vA i _ _ _ (λX j=>v=X/\d=j) I3 ⟨v,rfl,rfl,rfl⟩) λu4 s4 ⟨v4,H4,I4,r4,e3,e4⟩=>?_));subst e3 e4;refine aJ (Y i _ _ _ (λX j=>V.ref e=X/\d=j) I4 ⟨V.ref e,rfl,rfl,rfl⟩) λu5 s5 ⟨v5,H5,I5,r5,e5,e6⟩=>?_;subst e5 e6;obtain rfl:u5=Ye e:=r5;exact O9 Z I5 he r4 λs6 l O z1 z2 I6=>a2e ⟨_,_,I6,hD l O z1 z2⟩
theorem Inv.untrack{σ:L2.St}(I:Inv X b0l σ H s)(r:H e=b4 (.ext B))(h1:H' e=b6)(h:∀b,b≠e->H' b=H b):Inv X b0l σ H' s:=by
 have a:∀b,H b=b6->H' b=none:=λb q=>by
  by_cases d:b=e
  .rw[d];exact h1
  .rw[h b d];exact q
 have up:∀b z,H b=b4 z->(∀E,z≠.ext E)->H' b=b4 z:=λb z q n=>by rw[h b λA=>by rw[A,r]at q;cases q;exact n _ rfl];exact q
 refine⟨I.ok,I.os,I.bare,⟨I.base.keep,I.base.slot,λb o q n w=>a b (I.base.free b o q n w),I.base.there,λb i q=>up _ _ (I.base.tups b i q) (λ_ z=>nomatch z),λb o u q=>up _ _ (I.base.frzs b o u q) (λ_ z=>nomatch z),λb x q=>?_⟩,I.loc,I.cell,a _ I.free,λy c q=>a _ (I.freeC y c q),λp v=>?_,λb u q=>?_,I.len⟩
 .obtain⟨more,z⟩:=I.base.tbls b x q;exact⟨more,up _ _ z (λ_ z=>nomatch z)⟩
 .obtain⟨j,k,l⟩:=I.pin p v;exact⟨j,a _ k,l⟩
 .have d:b≠e:=λz=>by rw[z,h1]at q;cases q
  rw[h b d]at q;exact(I.hok b u q).stay (λ_ _ _ z=>z) (λc z=>up _ _ z (λ_ z=>nomatch z)) λc i z=>up _ _ z (λ_ z=>nomatch z)
theorem Pb{C:Addr}(c:InitK X.K C f B bn e)(F:FnOk X.prog X.w X.K X.mg X.base dP k f M [sf,ar] (nG C e))(hb:Binds X.K M [sf,ar] [])(G:∃I,X.K.lookup f=b4 I/\I.cls=.type "function")(hr:Room (k+1) X.A){σ:L2.St}(j:Inv X b0l σ h s1)(rv:RelV v u)(K:∀a d i o vs r,s1.heap.get? a=b6->h a=b6->h d=b6->d≠a->Inv X b0l σ (upd (upd (upd h a (XO a C b6)) a (XO a C (b4 d))) d (.frz i (.xd [(e,v)]))) r->r.heap.get? a=b4 o->o.cls=.ref C->o.dict=b4 d->o.data=.fields vs->(vs[1]?=b4 .none/\vs[2]?=b4 .none)->Q (.ref a) r):
  Yl (Yv X.prog X.w) X.A (call (.ref C) [u]) Q E s1:=by
 obtain⟨bm,N,nm',qn,bs,sn,sub,ab,U,dd,k0,k1,k2,k3,k5,mN,hC,hn,hi,T⟩:=uZ j.mod.kin c.cls;obtain⟨I,lI,fI⟩:=G;have l:s1.heap.get? (s1.heap.objs.size+1)=none:=a2w (a1w _);have n:h (s1.heap.objs.size+1)=none:=j.hok.fresh (a1w _);have w:Inv X b0l σ (upd h (s1.heap.objs.size+1) (XO (s1.heap.objs.size+1) C b6)) {s1 with heap:=pH s1.heap C [u]}:=by refine Inv.laid (t':=s1.toks) (s:={s1 with heap:=s1.heap.push {cls:=.type "tuple",data:=.seq [u].toArray}}) (j.kept (t':=s1.toks) λb o q=>X6 _ q) (λb o q=>X6 _ q) (by show(s1.heap.push _).objs.size<=_;rw[ZZ];exact Yd _) ?_;exact zP (E4 s1.heap C [u]) rfl rfl rfl ⟨rfl,rfl⟩ rfl
 refine O1 a0C (T.keeps j.bk) (j.bk _ _ hC) (hn.keeps j.bk) hi (j.kIn _ _ lI) fI (by rw[Yz];simp) ?_;generalize hea:s1.heap.objs.size+1=a at l n w ⊢;have H:nG C e [V.ref a,v] (upd h a (XO a C b6)) (λO R=>O=.non/\∃d i,upd h a (XO a C b6) d=b6/\d≠a/\upd (upd (upd h a (XO a C b6)) a (XO a C (b4 d))) d (.frz i (.xd [(e,v)]))=R) (λ_ _ _=>False):=
  ⟨a,v,rfl,bN,λd i x s=>⟨rfl,d,i,x,s,rfl⟩⟩
 have r2:Vals [V.ref a,v] [Ye a,u]:=.cons rfl (.cons rv .nil);refine a3m (a2p (F.run _ X.stack _ _ ⟨[Ye a,u],[]⟩ [Ye a,u] _ _ (λ_ _ _=>False) (hr.make C [u] []) (w.env0.make C [u] []) (by have:=hb _ [Ye a,u] w.kIn rfl;rwa [Zw]at this) r2 H) λrr r p=>?_);cases rr with
 |error z=>exact Y4 p|ok fl=>
  cases fl with
  |next=>exact Y4 p|brk=>exact Y4 p|cont=>exact Y4 p|ret u'=>
   obtain⟨O,H3,L,J,Z,d,i,x,s,Y⟩:=w.after p;subst Z Y;refine⟨J,?_⟩;have A:h d=none:=by rw[aN s]at x;exact x
   have y:upd (upd (upd h a (XO a C b6)) a (XO a C (b4 d))) d (.frz i (.xd [(e,v)])) a=b4 (XO a C (b4 d)):=by rw[aN (YW s),bN]
   obtain⟨⟨o,vs,g1,g2,g3,g4,g5,ta,g6⟩,_⟩:=L.hok a _ y;exact K a d i o vs r l n A s L g1 g2 g3 g4 g5
noncomputable def rN(x a:Str)(m:ME):MR:=λb c=>(m b c).map λp=>((x,[(a,p.1)]),b,p.2)
theorem Pc{C:Addr}(c:InitK X.K C f B bn i)(nm:Zn X.K Y0 x=b4 (b4 (.ref C)))(hk:Za X.K (.ref C)=b8)(F:FnOk X.prog X.w X.K X.mg X.base dP k f fd [sf,ar] (nG C i))(hb:Binds X.K fd [sf,ar] [])(hfn:∃oI,X.K.lookup f=b4 oI/\oI.cls=.type "function")(hr:Room (k+1) X.A)(hex:X.ex=[])(hc:X.calm=b8)(hg:Gl X x)(ha:QE X.nox a m)(hs:bR a=b8)(hdb:(x==("__debug__":Str))=b7):QR X (.Raise (b4 (.Call (.Name x np) [a] [] Q)) b6 pos) (rN x i m):=by
 refine⟨λM s σ H π ρ μ y ρ' μ' I R E h w=>?_⟩;obtain⟨⟨d,r⟩,h1,h⟩:=X5.mp h;cases h;have hst:YJ [a] X.env=(b7,eval a X.env)::YJ [] X.env:=cX hs;obtain⟨bm,N,nm',qn,bs,sn,sub,ab,O,dd,k0,k1,k2,k3,k5,mN,hC,hn,hi,T⟩:=uZ I.mod.kin c.cls;rw[arm_exec_Raise];refine X1 (a3z (O2 (C:=C) (nm:=nm') (q:=qn) (N:=N) (bs:=bs) (bm:=bm) (hdct:=b8) (sn:=sn) (sub:=sub) (ab:=ab) (col:=O) (dd:=dd) (k0:=k0) (k1:=k1) (k2:=k2) (k3:=k3) (k5:=k5) (newId:="ValueError.__new__") (T.hasType a0C.hasBase) (I.ok.hd hc) (X1 (aJ (Q:=λv l=>∃e oe vs,v=.ref e/\l.heap.get? C=b4 (a0c nm' qn C N bs bm b8 sn sub ab O dd k0 k1 k2 k3 k5 "ValueError.__new__")/\l.heap.get? e=b4 oe/\oe.cls=.ref C/\oe.data=.fields vs/\vs[1]?=b4 .none/\X.xe (.ref e) l) (Zk (f7 I hg (a0z I.mod.kin I.mod.glob nm) ?_ hdb)) (λv s₃ h₃=>X1 (a3z (Yb h₃)))))));have k1:=ha.h M s σ H (λv G=>∃j,Ext π μ.length H j r.length G/\Rp X.K j G r/\IsD X.K j r.length G v d) (I.wish _) ⟨π,ρ,μ,d,r,R,E,h1,λj v G e1 R1 i1=>⟨j,e1,R1,i1⟩⟩;refine a1M (h₀:=X.base) I.ok.mod.kin hk (a4o (Y1 k1 (λu s1 ⟨v,G,L,rv,j,e1,R1,i1⟩=>b0k ⟨L.unwish.kIn,?_⟩) λ_ _ z=>Y4 z) hst) hst rfl;have L:=L.unwish;refine Pb c F hb hfn hr L rv λA J od o vs s' Y Z hd1 z2 I3 g1 g2 g3 g4 g5=>?_;have hE3:upd (upd (upd G A (XO A C b6)) A (XO A C (b4 J))) J (.frz od (.xd [(i,v)])) A=b4 (XO A C (b4 J)):=by rw[aN (YW z2),bN]
 have I4:Inv X M σ (upd G J (.frz od (.xd [(i,v)]))) s':=Inv.untrack I3 hE3 (by rw[aN (YW z2)];exact Z) λb U=>by
  by_cases K:b=J
  .rw[K,bN,bN]
  .rw[aN K,aN K,aN U,aN U]
 obtain⟨e4,R4⟩:=R1.fresh (o:=.frz od (.xd [(i,v)])) hd1;refine⟨A,o,vs,rfl,I4.bk _ _ hC,g1,g2,g4,g5.1,?_⟩;refine w j σ _ s' A (.ref C) (b4 J) b6 (e1.trans e4) R4 ((E.mono e1).mono e4) I4 ⟨⟨⟨o,vs,g1,g2,g3,g4,g5.1,g5.2⟩,λp n=>nomatch n⟩,(λp n=>nomatch n),⟨EY L hex Y,λp n=>nomatch n⟩,⟨by rw[aN (YW z2)];exact Z,λp n=>nomatch n⟩,λq hq=>⟨λz=>?_,λp n=>nomatch n⟩⟩
  ⟨nm,.inr ⟨J,od,[(i,v)],rfl,bN,rfl,.cons (i1.mono e4) .nil⟩⟩
 have:=(L.pin q hq).1;rw[z,Y]at this;cases this
theorem E6{C:Addr}{bs bm:gw}{sub:gw}(e:bm.contains (.type "BaseException")=b8)(hC:s.heap.get? C=b4 (a0c nm q C N bs bm b8 sn sub ab col dd k0 k1 k2 k3 k5 newId))(k:s.heap.get? x=b4 o)(hc:o.cls=.ref C)(j:Q () s):
  Yl M A (a3N "BaseException.__getattribute__" ⟨[.ref x,a],[]⟩) Q E s:=by
 have i:builtinKind "BaseException.__getattribute__"=b4 .slot:=by decide +kernel
 have c:splitId "BaseException.__getattribute__"=b4 ("BaseException","__getattribute__"):=by decide +kernel
 have b:(Ye C::bm).contains (.type "BaseException")=true:=by rw[a2S,e,a4u]
 have l:=PySem.F.args_bexc_ga (.ref x) a;obtain⟨h,g,d,t,n⟩:=s;simp only[a3N,i,c];refine X1 ?_;unfold a6l;repeat (first|(with_reducible refine Zj k ?_;rw[hc])|(with_reducible refine a1b hC ?_;rw[b])|wp_step)
 exact j
theorem Pd{C:Addr}{bs bm:gw}{sub:gw}(hC:s.heap.get? C=b4 (a0c nm q C N bs bm b8 sn sub ab col dd k0 k1 k2 k3 k5 newId))(j:a1E (Yv prog w) s.heap (a0J (.ref C) name) b6)(c:s.heap.get? x=b4 o)(hc:o.cls=.ref C)(hd:o.data=.fields vs)(a:o.dict=b4 dx)(b:s.heap.Ns1 dx mA)(i:mA name=b4 v)(e:Q (.done (.ret v)) s):
  Yl (Yv prog w) A (Builtin.«object.__getattribute__» ⟨[.ref x,.str name tk],[]⟩) Q E s:=by
 obtain⟨h,g,d,t,k⟩:=s;unfold Builtin.«object.__getattribute__»;repeat (first|(with_reducible refine Zj c ?_;rw[hc])|with_reducible refine Z4 (s:=⟨h,g,d,_,k⟩) j ?_|wp_step)
 rw[hd];unfold instanceDict;repeat (first|(with_reducible refine Zj c ?_;rw[hc])|with_reducible refine Zj hC ?_|wp_step)
 rw[a];repeat (first|(with_reducible refine wpAny_nsGet b.ns ?_;rw[i])|wp_step)
 exact e
theorem Pe{C:Addr}{bs bm:gw}{sub:gw}(l:bm.contains (.type "BaseException")=b8)(hC:s.heap.get? C=b4 (a0c nm q C N bs bm b8 sn sub ab col dd k0 k1 k2 k3 k5 newId))(y:a1E (Yv prog w) s.heap (a0J (.ref C) "__getattribute__") (b4 (.builtin "BaseException.__getattribute__")))(z:a1E (Yv prog w) s.heap (a0J (.ref C) "__getattr__") b6)(B:a1E (Yv prog w) s.heap (a0J (.ref C) name) b6)(i:s.heap.get? x=b4 o)(hc:o.cls=.ref C)(hd:o.data=.fields vs)(c:o.dict=b4 dx)(e:s.heap.Ns1 dx mA)(p:mA name=b4 v)(n:handedOut v=pure v)(H:Q v {s with toks:=s.toks+1}):
  Yl (Yv prog w) A (getAttr (.ref x) name a) Q E s:=by
 have k:=a4L;have G:=k.ga.bind (.ref x);have r:(a&&a6T (Y9 "BaseException.__getattribute__"))=false:=by cases a<;>rfl
 have j:(Y9 "BaseException.__getattribute__"==Y9 "object.__getattribute__")=false:=by decide +kernel
 have u:(a6T (Ye C)&&Y9 "BaseException.__getattribute__"==Y9 "object.__getattribute__")=false:=by rw[j];rfl
 obtain⟨h,g,d,t,b⟩:=s;unfold getAttr;repeat (any_goals (first|assumption|(with_reducible refine Zj i ?_;rw[hc])|with_reducible refine Z4 (s:=⟨h,g,d,_,b⟩) y ?_|with_reducible refine Z4 (s:=⟨h,g,d,_,b⟩) z ?_|wp_step))
 refine a2O k.ga.plain a5L (E6 (s:=⟨h,g,d,t+1,b⟩) l hC i hc (Pd (s:=⟨h,g,d,t+1,b⟩) hC B i hc hd c e p ?_));repeat (any_goals (first|assumption|(rw[n])|wp_step))
noncomputable def l6(b:Str)(ok:Str->Bool)(m:ME):ME:=λe c=>(m e c).bind λp=>match p.1 with
 |.loc a=>(match p.2[a]? with
  |some (.exc x ns ds)=>if ok x=b8 then((ns.zip ds).lookup b).map λd=>(d,p.2)else b6
  |_=>b6)
 |_=>b6
noncomputable def u6(K:X2)(a x:Str):Bool:=match gX K x with
 |some C=>(pE K C).isSome&&ZI K (.ref C) "__getattribute__"==b4 (b4 (.builtin "BaseException.__getattribute__"))&&ZI K (.ref C) "__getattr__"==b4 b6&&ZI K (.ref C) a==b4 b6|none=>b7
theorem E7{K:X2}:∀(us:List (Str×V))ns ds,us.map (·.1)=ns->IsDs K π n H (us.map (·.2)) ds->(ns.zip ds).lookup k=b4 d->∃v,us.lookup k=b4 v/\IsD K π n H v d
 |[],_,_,e,_,h=>by subst e;cases h
 |(y,v)::us,_,_,e,i,h=>by
  subst e;cases i with
  |cons c j=>
   rename_i l b;simp only[Yk,a4g,a2u]at h ⊢;cases a:k==y with
   |true=>rw[a]at h;cases h;exact⟨v,rfl,c⟩|false=>rw[a]at h;exact E7 us _ _ rfl j h
theorem Fb(ho:QE X o m)(hs:gU o=b8)(hok:∀x,ok x=b8->u6 X.K c x=b8):QE X (.Attribute o c pos) (l6 c ok m):=by
 refine⟨λq s σ H Q I t=>?_⟩;obtain⟨T,ρ,O,d,J,R,E,h,kc⟩:=t;unfold l6 at h;obtain⟨⟨d1,e⟩,h1,h⟩:=X0.mp h;dsimp only at h;split at h
 .rename_i a;split at h
  .rename_i x N ds hx;split at h
   .rename_i B;obtain⟨d2,M,h⟩:=X5.mp h;obtain⟨rfl,rfl⟩:d2=d/\e=J:=by cases h;exact⟨rfl,rfl⟩
    refine Kz (kS hs) (aJ (ho.h q s σ H (λv i=>∃b,Ext T O.length H b e.length i/\Rp X.K b i e/\IsD X.K b e.length i v (.loc a)) I ⟨T,ρ,O,_,e,R,E,h1,λb v i r n G=>⟨b,r,n,G⟩⟩) λu s1 ⟨v,i,j,rv,b,r,n,G⟩=>?_);cases G;obtain rfl:u=Ye (b a):=rv;obtain⟨ob,φ,g1,L,⟨vs,g3⟩,y⟩:=n.exc a x N ds hx;rcases y with⟨rfl,rfl,_⟩|⟨dx,od,us,y,g5,g6,g7⟩
    .cases M
    obtain⟨w,lw,iw⟩:=E7 us N ds g6 g7 M;have l:=hok x B;unfold u6 at l;split at l
    .rename_i C hC;rw[X4,X4,X4,beq_iff_eq,beq_iff_eq,beq_iff_eq]at l;obtain⟨⟨⟨p,U⟩,Y⟩,Z⟩:=l;obtain⟨bm,p⟩:=Y2.mp p;have z:ob.cls=.ref C:=by rw[lZ hC]at L;exact(Ym (Ym L)).symm
     obtain⟨⟨N1,mH,q1,bs1,sn1,su1,ab1,K,dd1,b0,b1,b2,b3,b5,o1⟩,hB⟩:=pG j.kIn p;obtain⟨y1,_⟩:=j.hok _ _ g1;obtain⟨y2,mA,y3,y4⟩:=j.hok _ _ g5;have k:=y4 c;rw[lw]at k;cases A:mA c with
     |none=>rw[A]at k;exact k.elim|some u=>rw[A]at k;exact Pe hB o1 (a0o j.kIn U) (a0o j.kIn Y) (a0o j.kIn Z) y1 z g3 y y3 A (PySem.W.handedOut_of (Ky k)) ⟨w,i,j.tok _,k,kc b w i r n iw⟩
    .cases l
   .cases h
  .cases h
 .cases h
noncomputable def nH(K:X2)(C:Addr):Bool:=(pE K C).isSome&&ZI K (.ref C) "__getattribute__"==b4 (b4 (.builtin "BaseException.__getattribute__"))&&ZI K (.ref C) "__getattr__"==b4 b6 &&
 (PySem.W.clsIn K C).isSome&&ZI K (.ref C) "__class__"==b4 (b4 (.builtin "object.__class__"))&&a2R K (.builtin "object.__class__") "__get__"==b4 (b4 (.builtin "getset_descriptor.__get__")) &&
 a6V K (.builtin "object.__class__")==b4 b8&&a7L K C (.type "object")==b4 b8
theorem Pf{K:X2}{C:Addr}(c:nH K C=b8)(X:K.In s.heap)(I:a3B s.heap x ox C od)(h:Q (b4 (.ref C)) {s with toks:=s.toks+1}):Yl (Yv prog w) A (a8c (.ref x) "__class__") Q E s:=by
 unfold nH at c;rw[X4,X4,X4,X4,X4,X4,X4,beq_iff_eq,beq_iff_eq,beq_iff_eq,beq_iff_eq,beq_iff_eq,beq_iff_eq]at c;obtain⟨⟨⟨⟨⟨⟨⟨e,r⟩,u⟩,i⟩,y⟩,B⟩,G⟩,H⟩:=c;obtain⟨bm,e⟩:=Y2.mp e;obtain⟨⟨N1,mH,q1,q,sn1,su1,p,l,J,b0,b1,b2,b3,b5,L⟩,N⟩:=pG X e;have O:a6X K C od "__class__"=b4 (.bind (.builtin "getset_descriptor.__get__") (.builtin "object.__class__")):=by obtain⟨cd,i⟩:=Y2.mp i;unfold a6X;rw[i,Yy,y,Yy];simp[B,G]
 have k:=a4L;have f3:=k.ga.bind (.ref x);have R:(b7&&a6T (Y9 "BaseException.__getattribute__"))=false:=rfl;have j:(Y9 "BaseException.__getattribute__"==Y9 "object.__getattribute__")=false:=by decide +kernel
 have T:(a6T (Ye C)&&Y9 "BaseException.__getattribute__"==Y9 "object.__getattribute__")=false:=by rw[j];rfl
 obtain⟨a,g,d,t,b⟩:=s;have Y:=a0o (M:=Yv prog w) X r;have Z:=a0o (M:=Yv prog w) X u;have l4:=PySem.W.looks_find (M:=Yv prog w) X I O;have U:=I.type (M:=Yv prog w);have n:=I.at_;have hc:=I.cls;unfold a8c getAttrBy?;repeat (any_goals (first|assumption|(with_reducible refine Zj n ?_;rw[hc])|with_reducible refine Z4 (s:=⟨a,g,d,_,b⟩) Y ?_|with_reducible refine Z4 (s:=⟨a,g,d,_,b⟩) Z ?_|wp_step))
 refine a2O k.ga.plain a5L (E6 (s:=⟨a,g,d,t+1,b⟩) N L n hc ?_);have M:Yl (Yv prog w) A.in1 (call (.builtin "getset_descriptor.__get__") [.builtin "object.__class__",.ref x,.ref C]) (λv o=>v=.ref C/\o=⟨a,g,d,t+1,b⟩) (λ_ _=>False) ⟨a,g,d,t+1,b⟩:=
  a3m (PySem.W.class_get (s:=⟨a,g,d,t+1,b⟩) X I H ⟨rfl,rfl⟩)
 refine X1 (Yb (X1 (Yb (X1 (Z4 (s:=⟨a,g,d,t+1,b⟩) U (X1 (Z4 (s:=⟨a,g,d,t+1,b⟩) l4 ?_)))))));refine X1 (YS (Y1 M (λv o z=>?_) λ_ _ z=>z.elim));obtain⟨rfl,rfl⟩:=z;repeat (any_goals (first|assumption|wp_step))
theorem Fc{K:X2}{C:Addr}(c:nH K C=b8)(hc:p.cls=.ref C)(hd:∃vs,p.data=.fields vs):PySem.W.KitX K (.ref x) (.ref C) (λh=>∃H,a3B h x p C H) where
 ty:=λ_ _ _ ⟨_,I⟩=>I.type
 it:=λM h X _=>by unfold nH at c;rw[X4,X4,X4,X4,X4,X4,X4]at c;obtain⟨B,j⟩:=Y2.mp c.1.1.1.1.1.1.1;obtain⟨⟨u,mH,J,i,r,s,d,b,l,v,w,y,z,A,a⟩,E⟩:=pG X j;intro N Q O T k q;unfold isType loadHead;exact X1 (wpAny_loadPart (k _ _ a) (Yb q))
 ne:=λh L R G n U X o=>by unfold nH at c;rw[X4,X4,X4,X4,X4,X4,X4]at c;obtain⟨B,j⟩:=Y2.mp c.1.1.1.1.1.1.1;obtain⟨⟨u,mH,J,i,r,s,d,b,l,v,w,y,z,A,a⟩,E⟩:=pG X j;refine Bool.eq_false_iff.mpr λq=>?_;have e:C=L:=Value.ref.inj (beq_iff_eq.mp q);subst e;rw[o]at a;injection a with a;injection a with h1;injection h1 with h2;exact absurd h2 (by decide)
 ca:=λX ⟨_,I⟩ k=>Pf c X I k
noncomputable def cS(sup:Str->Option Bool)(m:ME):ME:=λd c=>(m d c).bind λp=>match p.1 with
 |.loc a=>(match p.2[a]? with
  |some (.exc x _ _)=>(sup x).map λb=>(.bl b,p.2)
  |_=>b6)
 |_=>b6
noncomputable def iL(K:X2)(cv:Value)(x:Str):Option Bool:=(gX K x).bind λB=>if nH K B=b8 then a2E K (.ref B) cv else b6
theorem Fd(ha:QE X a m)(hs:bR a=b8)(hg:Gl X "isinstance")(hm:X.mg "isinstance"=b6)(L:∀k s J H Q,Inv X k J H s->Q cv s->Yl (Yv X.prog X.w) X.A (eval (.Name c G) X.env) Q X.xe s)(y:∀x b,sup x=b4 b->iL X.K cv x=b4 b):
  QE X (.Call (.Name "isinstance" p) [a,.Name c G] [] pos) (cS sup m):=by
 refine⟨λk s J H Q I t=>?_⟩;obtain⟨π,ρ,μ,d,U,R,E,h,kc⟩:=t;unfold cS at h;obtain⟨⟨d1,j⟩,h1,h⟩:=X0.mp h;dsimp only at h;split at h
 .rename_i i;split at h
  .rename_i x ns ds hx;obtain⟨b,h2,h⟩:=X5.mp h;obtain⟨rfl,rfl⟩:D.bl b=d/\j=U:=by cases h;exact⟨rfl,rfl⟩
   have w:YJ [a,.Name c G] X.env=(b7,eval a X.env)::YJ [.Name c G] X.env:=cX hs;refine Zk (fB I hg hm a1v ?_);refine a0f (a4o (aJ (ha.h k s J H (λv l=>∃e,Ext π μ.length H e j.length l/\Rp X.K e l j/\IsD X.K e j.length l v (.loc i)) I ⟨π,ρ,μ,_,j,R,E,h1,λe v l K A N=>⟨e,K,A,N⟩⟩) λu s1 ⟨v,l,q,rv,e,K,A,N⟩=>a4o (L k s1 J l _ q (b0k ?_))) w) w rfl;cases N;obtain rfl:u=Ye (e i):=rv;obtain⟨O,φ,g1,Y,⟨vs,Z⟩,r⟩:=A.exc i x ns ds hx;have o:=y x b h2;unfold iL at o;obtain⟨B,hB,o⟩:=X0.mp o;split at o
   .rename_i hI;have n:O.cls=.ref B:=by rw[lZ hB]at Y;exact(Ym (Ym Y)).symm
    obtain⟨y1,_⟩:=q.hok _ _ g1;have M:∃T,a3B s1.heap (e i) O B T:=by
     have no:a3A O=true:=by unfold a3A;rw[Z]
     rcases r with⟨_,_,r⟩|⟨dx,T,us,r,g5,_⟩
     .exact⟨b6,y1,n,no,by rw[r];trivial⟩
     .obtain⟨y2,_⟩:=q.hok _ _ g5;exact⟨b4 T,y1,n,no,by rw[r];exact y2⟩
    exact a0e (Fc hI n ⟨vs,Z⟩) q.kIn M o (λz=>nomatch z) λtk=>⟨.bl b,l,q.tok tk,rfl,kc e _ l K A (.bl b)⟩
   .cases o
  .cases h
 .cases h
noncomputable def Soft(X:Cx):Prop:=∃e,X.A.handled=b4 (.ref e)/\nF e X.H₀
structure FnU(l:Bool)(P:Yt)(w:YL)(K:X2)(mg:Str->Option Value)(base:Y5)(f:Addr)(fd:ZU)(ps:List Str)(sp:Sp):Prop where
 len:∀vs H Q E,sp vs H Q E->vs.length=ps.length
 run:∀(A:YI)(outer:List a2Y)(s:X7)(H:Hp)(args:Args)(us:gw)(vs:gz)(Q:VK)(E:XK),A.depth<a3n->(l=b8->∃e,A.handled=b4 (.ref e)/\nF e H)->Env0 P w K mg base A outer s H->a4v s fd args (ps.zip us)->Vals vs us->sp vs H Q E->
  a1z (Yv P w) A (.call (.ref f) args) (CR dP outer P w H s Q E) s
noncomputable abbrev l7(P:Yt)(w:YL)(K:X2)(b:Str->Option Value)(base:Y5)(N:List Str)(qual:Str)(scope:a0t)(f:Addr)(a:Value)(A:YI)(outer:List a2Y)(s:X7)(H:Hp):Cx:=
 {dO dP P w K b base N qual scope f a A outer s H (λ_ _ _=>False)with calm:=b7,xe:=λ_ _=>False}
theorem Pg{K:X2}(S:FnScope N ps scope)(a:Env0 P w K mg base A outer s H)(c:vs.length=ps.length)(r:Vals vs us)(x:InCallC s s.heap.objs.size (a6o (envOfC qual scope s.heap.objs.size f b).kindOf (ps.zip us) λ_=>b6) (a5D (s.heap.objs.size+1) scope.names []) (a6p (envOfC qual scope s.heap.objs.size f b).kindOf (ps.zip us) λ_=>b6) s1):
  Inv (l7 P w K mg base N qual scope f b A outer s H) [] (L2.start N vs) H s1:=by
 have I:=CV (CX:=dP) (A:={A with handled:=b6}) (E:=λ_ _ _=>False) S rfl ⟨a.frames,a.mod,a.bs,a.bsz,a.funs,a.frf,a.hok,a.bare⟩ c r x;exact⟨⟨I.ok.mod,I.ok.kind,I.ok.glob,I.ok.blt,I.ok.above,I.ok.inj,I.ok.has,I.ok.cab,(λz=>nomatch z),a6c a.frames,I.ok.stk,I.ok.exf,I.ok.bs,I.ok.bsz,I.ok.noex,I.ok.exfs,I.ok.funs,I.ok.frf⟩,I.os,I.bare,I.base,I.loc,I.cell,I.free,I.freeC,I.pin,I.hok,I.len⟩
theorem Ph{K:X2}{kV:Value}(lk:K.lookup f=b4 ⟨oc,od,.func (ZN name qual a body scope X kV k Y an c ct),O⟩)(G:a1V K c qual=b8)(S:FnScope N ps scope)(len:∀vs H Q E,sp vs H Q E->vs.length=ps.length)(d:∀A outer s H(vs:gz)Q E,(l=b8->Soft (l7 P w K mg base N qual scope f c A outer s H))->sp vs H Q E->
   ∃t,PSs (l7 P w K mg base N qual scope f c A outer s H) body t/\t {nx:=λ_ j=>Q .non j,rt:=Q} (L2.start N vs) H):
  FnU l P w K mg base f (ZN name qual a body scope X kV k Y an c ct) ps sp:=by
 refine⟨len,λA outer s H U us vs Q E hr L p hb r B=>?_⟩;have hl:=len _ _ _ _ B;have T:K.In s.heap:=p.mod.kin.keeps λb o e=>(p.bs b o e).1;have M:s.heap.NoLimit:=p.mod.nolimit.keeps λb o e=>(p.bs b o e).1;have h:∀y∈ps.zip us,scope.names.lookup y.1=b4 .local\/(scope.names.lookup y.1=b4 .cell/\((a5D (s.heap.objs.size+1) scope.names []).lookup y.1).isSome=b8):=λ⟨n,v⟩ hy=>by
  rcases S.par n (a3G hy).1 with q|q
  .exact .inl q
  .exact .inr ⟨q,a3o _ _ _ (.inl q)⟩
 refine a7K hr (T _ _ lk) rfl S.co S.gen rfl (a6v T G) (hb _ _ _ _ ?_);refine a6e S.kind h λenv he Z x=>?_;subst he;refine⟨M.keeps x.toInCall.keep,codeAny_func ?_⟩;obtain⟨t,ht,hq⟩:=d A outer s H vs Q E (λz=>L z) B;have I:Inv (l7 P w K mg base N qual scope f c A outer s H) [] (L2.start N vs) H Z:=Pg S p hl r x;refine Y1 (ht [] Z (L2.start N vs) H _ I hq) (λfl s' i=>?_) λe s' i=>i.elim;cases fl with
 |ret u=>obtain⟨v,R,j,J,rv,q⟩:=i;exact⟨v,j,J.os,J.bare,J.base,J.hok,rv,q⟩|next=>obtain⟨R,j,J,q⟩:=i;exact⟨.non,j,J.os,J.bare,J.base,J.hok,rfl,q⟩|brk=>obtain⟨_,_,_,q⟩:=i;exact Y4 q|cont=>obtain⟨_,_,_,q⟩:=i;exact Y4 q
theorem Pj{K:X2}{st:Stmt}(F:Fun K x qual st f q)(S:FnScope N ps (a9 st))(j:ps.length<=N.length)(b:∀a A outer s H,(l=b8->Soft (l7 P w K mg base N qual (a9 st) f a A outer s H))->QB (l7 P w K mg base N qual (a9 st) f a A outer s H) (cG st) m):FnU l P w K mg base f q ps (fT K ps.length (q0 N.length m)):=by
 obtain⟨oc,od,dV,kV,z,pm,Y,a,ct,J,rfl,lk,e⟩:=F.ex;refine Ph lk e S (λL H Q E h=>h.1) λA outer s H L Q E k h=>⟨_,(b a A outer s H k).h,?_⟩;obtain⟨I,T,ds,M,d,O,R,i,c,u⟩:=h;obtain⟨⟨r,p,n⟩,G,c⟩:=X0.mp c;refine⟨T,_,M,r,p,n,R,yJ i (by rw[I];exact j),G,?_⟩;cases r with
 |rt Z=>cases c;exact u|nx=>cases c;exact λo U v B y X=>u o .non v B y .non|bk=>cases c|ct=>cases c
theorem Pk(F:FnU b8 X.prog X.w X.K X.mg X.base f G ps (fT X.K 1 j))(hr:X.A.depth<a3n)(hm:X.mg x=b4 (.ref f))(hk:Za X.K (.ref f)=b8)(Y:Binds X.K G ps [])(hi:X.N[i]?=b4 y)(hN:X.N.Nodup)(hv:lG X.env.scope y)(hy:(y==("__debug__":Str))=b7)(z:(y==("__classdict__":Str))=b7)(Z:Gl X x)(n:(x==("__debug__":Str))=b7)(hh:X.A.handled=b4 (.ref e))b0l s(σ:L2.St)H Q(sf:nF e H)(I:Inv X b0l σ H s)(t:tM X.K (aF j (aB (aA i) aD)) σ H Q):
  Yl (Yv X.prog X.w) X.A (eval (.Call (.Name x p) [.Name y py] [] pos) X.env) (EP X b0l σ Q) X.xe s:=by
 have U:PA X [.Name y py] (CM (mS i) xW):=qV (oH hi hv hy z) tY (cX rfl);obtain⟨π,ρ,μ,d,A,R,E,o,k⟩:=t;obtain⟨⟨xs,μ1⟩,l,w⟩:=X0.mp o;obtain⟨⟨B,μ2⟩,M,l⟩:=X0.mp l;cases l;obtain⟨N,rfl⟩:=Dv M;obtain⟨v,O,T⟩:=E.get i B N;refine Zk (f7 I Z hm ?_ n);refine a1M (h₀:=X.base) I.ok.mod.kin hk (aJ (U pos b0l s σ H (λK c=>K=[v]/\c=H) I ⟨v,O,rfl,rfl⟩) λb J ⟨K,c,h,r,q1,q2⟩=>⟨h.kIn,?_⟩) (cX rfl) rfl;subst q1 q2;have q:fT X.K 1 j [v] c Q E0:=⟨rfl,π,[B],_,d,A,R,.cons T .nil,w,k⟩;have hl:(b++[]).length=ps.length:=by rw[Zw,<- r.length];exact F.len _ _ _ _ q
 have r2:Vals [v] (b++[]):=by rw[Zw];exact r
 refine a3m (a2p (F.run X.A X.stack J c ⟨b,[]⟩ (b++[]) [v] Q E0 hr (λ_=>⟨e,hh,sf⟩) h.env0 (Y J b h.kIn hl) r2 q) λr s' a=>?_);cases r with
 |error e=>exact a.elim|ok L=>
  cases L with
  |ret u=>exact h.after a|next=>exact Y4 a|brk=>exact Y4 a|cont=>exact Y4 a
noncomputable def u7(X:Cx):List Expr->List Addr->Prop
 |[],[]=>True|.Name x _::r,C::l=>Gl X x/\X.mg x=b4 (.ref C)/\(x==("__debug__":Str))=b7/\u7 X r l|_,_=>False
theorem Pl:∀{l},u7 X es l->PA X es (λ_ H Q=>Q (l.map V.ref) H)/\es.all bR=true:=by
 induction es with
 |nil=>
  intro l h;cases l with
  |nil=>exact⟨tY,rfl⟩|cons=>exact h.elim
 |cons e r o=>
  intro l h;cases e with
  |Name x p=>
   cases l with
   |nil=>exact h.elim|cons C l=>obtain⟨b,c,d,i⟩:=h;obtain⟨n,j⟩:=o i;refine⟨?_,by rw[YO,j];rfl⟩;have k:=qV (X:=X) (e:=.Name x p) (te:=λ_ H Q=>Q (V.ref C) H) (λa s q H Q I h=>f7 I b c ⟨V.ref C,H,I,rfl,h⟩ d) n (cX rfl);exact k
  |_=>exact h.elim
theorem Fe:∀{l:List Addr}{us},Vals (l.map V.ref) us->us=l.map Ye
 |[],_,.nil=>rfl|C::l,_,.cons ra rb=>by rw[Yk,<- Fe rb,show _=Ye C from ra]
theorem Pm{K:X2}{b:List Bool}{l:List Addr}(h:l.map (λC=>a2E K (.ref B) (.ref C))=b.map b4):a7q K (.ref B) (l.map Ye)=b4 (b.any id):=by
 induction l generalizing b with
 |nil=>cases b with
  |nil=>rfl|cons=>cases h
 |cons C l a=>cases b with
  |nil=>cases h|cons c b=>
   rw[Yk,Yk,a3k]at h;rw[Yk];unfold a7q;rw[h.1];cases c
   .exact(a (b:=b) h.2)
   .rfl
theorem Pn{sup:Str->Option (List Bool)}(ha:QE X a m)(hs:bR a=b8)(hg:Gl X "isinstance")(hm:X.mg "isinstance"=b6)(hl:u7 X es l)(hz:l.length<=Yi)(O:∀x b,sup x=b4 b->l.map (λC=>iL X.K (.ref C) x)=b.map b4/\b≠[]):
  QE X (.Call (.Name "isinstance" p) [a,.Tuple es Y Z] [] pos) (cS (λx=>(sup x).map λb=>b.any id) m):=by
 refine⟨λG s σ H Q I t=>?_⟩;obtain⟨π,ρ,μ,d,μ',R,E,h,kc⟩:=t;unfold cS at h;obtain⟨⟨d1,j⟩,h1,h⟩:=X0.mp h;dsimp only at h;split at h
 .rename_i i;split at h
  .rename_i x ns ds hx;obtain⟨b0,h2,h⟩:=X5.mp h;obtain⟨rfl,rfl⟩:D.bl b0=d/\j=μ':=by cases h;exact⟨rfl,rfl⟩
   obtain⟨b,h3,rfl⟩:=X5.mp h2;have N:YJ [a,.Tuple es Y Z] X.env=(b7,eval a X.env)::YJ [.Tuple es Y Z] X.env:=cX hs;refine Zk (fB I hg hm a1v ?_);have tpl:=CN (x1:=Y) (pos:=Z) (Pl hl).1;refine a0f (a4o (aJ (ha.h G s σ H (λv k=>∃e,Ext π μ.length H e j.length k/\Rp X.K e k j/\IsD X.K e j.length k v (.loc i)) I ⟨π,ρ,μ,_,j,R,E,h1,λe v k e1 R1 i1=>⟨e,e1,R1,i1⟩⟩) λu s1 ⟨v,k,I1,rv,e,e1,R1,i1⟩=>
    a4o (aJ (tpl G s1 σ k (λv2 H2=>∃q,v2=.ref q/\k q=b6/\H2=upd k q (.tup (l.map V.ref))) I1 ⟨by rw[X3];exact hz,λq hq=>⟨q,rfl,hq,rfl⟩⟩) λu2 s2 ⟨v2,H2,A,rv2,q,hv2,hq,hH2⟩=>b0k ?_)) N) N rfl
   subst hv2 hH2;obtain rfl:u2=Ye q:=rv2;cases i1;obtain rfl:u=Ye (e i):=rv;obtain⟨e2,R2⟩:=R1.fresh (o:=.tup (l.map V.ref)) hq;obtain⟨ob,φ,g1,g2,⟨vs,g3⟩,J⟩:=R2.exc i x ns ds hx;obtain⟨y,hne⟩:=O x b h3;obtain⟨B,T,U,y⟩:∃B,gX X.K x=b4 B/\nH X.K B=b8/\l.map (λC=>a2E X.K (.ref B) (.ref C))=b.map some:=by
    cases l with
    |nil=>cases b with
     |nil=>exact absurd rfl hne|cons=>cases y
    |cons C l=>
     cases b with
     |nil=>cases y|cons c b=>
      have L:=y;rw[Yk,Yk,a3k]at L;have K:=L.1;unfold iL at K;obtain⟨B,T,K⟩:=X0.mp K;split at K
      .rename_i U;refine⟨B,T,U,?_⟩;rw[<- y];refine ZQ λC' _=>?_;unfold iL;rw[T,Yy,if_pos U]
      .cases K
   have w:ob.cls=.ref B:=by rw[lZ T]at g2;exact(Ym (Ym g2)).symm
   obtain⟨y1,_⟩:=A.hok _ _ g1;have hin:∃od,a3B s2.heap (e i) ob B od:=by
    have no:a3A ob=true:=by unfold a3A;rw[g3]
    rcases J with⟨_,_,J⟩|⟨dx,od,us,J,g5,_⟩
    .exact⟨b6,y1,w,no,by rw[J];trivial⟩
    .obtain⟨y2,_⟩:=A.hok _ _ g5;exact⟨b4 od,y1,w,no,by rw[J];exact y2⟩
   obtain⟨z,its,r,o,t1,t2,n,t3,t4⟩:=(show ObjOk X.prog X.w _ s2.heap q (.tup (l.map V.ref))from A.hok q _ bN);have M:its=l.map Ye:=Fe r;subst M;have ho:s2.heap.get? q=b4 ⟨.type "tuple",o.dict,.seq (l.map Ye).toArray n,o.slots⟩:=by rw[t1];cases o;cases t2;cases t3;rfl
   exact PySem.W.kia_tup (Fc U w ⟨vs,g3⟩) A.kIn hin ho (Pm y) (λz=>nomatch z) λtk=>⟨.bl _,_,A.tok tk,rfl,kc e _ _ (e1.trans e2) R2 (.bl _)⟩
  .cases h
 .cases h
theorem Po:entryFor table "proto.unchain"=b4 Builtin.«proto.unchain»:=entryFor_of_fast (by kernel_rfl)
theorem Pp{step:Int}(k:A.handled=b4 (.ref e))(l:s.heap.get? e=b4 o)(hd:o.data=.fields vs)(y:vs[2]?=b4 Y3)(hit:a1j s.heap c x left step)(a:left<=0)(v:∀i,a3i c s.heap i->Q b6 {s with heap:=i}):Yl (Yv prog w) A (a0X (.ref c)) Q E s:=by
 have j:s.TypeIs (.ref c) "range_iterator":=⟨_,hit,rfl⟩;unfold a0X;refine X1 (a6J (a3L (name:=Z7 "__next__") j F.slot_range_iterator_next
  (a0b F.slot_range_iterator_next j F.entry_range_iterator_next ?_ (F.args_range_iterator_next_1 _))))
 show Yl _ _ (field (.ref c) 0 >>= _) _ _ s;refine X1 (a0a hit rfl (x:=a0F x) rfl ?_);show Yl _ _ (field (.ref c) 1 >>= _) _ _ s;refine X1 (a0a hit rfl (x:=a0F left) rfl ?_);show Yl _ _ (field (.ref c) 2 >>= _) _ _ s;refine X1 (a0a hit rfl (x:=a0F step) rfl ?_);show Yl _ _ (if left<=0 then _ else _) _ _ s;rw[if_pos a];refine X1 (a1K ?_);refine X1 ?_;show Yl _ _ (a7n (.type "StopIteration") [] >>= _) _ _ _;refine X1 ?_;simp only[a7n,a6i];refine X1 (Zi ?_ (by size_fits));refine X1 (m:=a2n _ _) (a4i (a:=Y3) (by first|rfl|(simp only[a2n];rfl)) ?_);refine Zi ?_ (by size_fits);simp only[b0g];refine X1 (a6H ?_);first|rw[show A.in1.handled=b4 (.ref e)from k]|rw[k]
 have h:(Ye e != Ye (s.heap.push {cls:=Yq "tuple",data:=a3r #[]}).objs.size)=true:=by have p:=Yc l;have r:(s.heap.push {cls:=Yq "tuple",data:=a3r #[]}).objs.size=s.heap.objs.size+1:=ZZ ..;have u:e≠(s.heap.push {cls:=Yq "tuple",data:=a3r #[]}).objs.size:=Yn (r▸a1o p);rw[bne_iff_ne];intro z;injection z with z;exact u z
 dsimp only;rw[if_pos h];have n:=λ(z:Obj)=>X6 z (X6 {cls:=Yq "tuple",data:=a3r #[]} l);refine X1 (YS (b0a (ZE Po ?_)));show Yl _ _ (field (.ref e) 2 >>= _) _ _ _;refine X1 (a0a (n _) hd y ?_);rw[if_pos (by rfl)];refine Yb ?_;show Yl _ _ (updateField _ 2 (Ye e) >>= _) _ _ _;simp only[updateField];refine X1 (X1 (a4P (Yh _ rfl) ?_));dsimp only;rw[if_pos (by rw[Array.size_append];show 2<6+_;lia)];refine wpAny_update (Yh _ rfl) (a7V ?_);refine X1 (a1Q (T:="StopIteration") (b:=b8) ⟨_,YM _ (Yh _ rfl) rfl,rfl⟩ a6k ?_);refine Yb (v _ λb G B q=>?_);have d:=Yc q;rw[YF _ _ (Zz (by rw[ZZ];exact a1o d))];exact X6 _ (X6 _ q)
theorem Soft.at{σ:L2.St}(S:Soft X)(I:Inv X b0l σ H s):∃e,X.A.handled=b4 (.ref e)/\nF e H/\∃o vs,s.heap.get? e=b4 o/\o.data=.fields vs/\vs[2]?=b4 Y3:=by obtain⟨e,d,o,u,h,vs,a,b⟩:=S;have c:=I.base.frzs _ _ _ h;exact⟨e,d,⟨o,u,c,vs,a,b⟩,o,vs,(I.hok _ _ c).1,a,b⟩
theorem Pq{K:X2}a lo n:Turn Soft P w K tg (kJ lo n) [a] a (λi h=>a1j h a (lo+(i:Nat)*1) ((n:Int)-(i:Nat)) 1) where
 mem:=(oK (P:=P) (w:=w) (K:=K) (tg:=tg) a lo n).mem
 obj:=(oK (P:=P) (w:=w) (K:=K) (tg:=tg) a lo n).obj
 keep:=(oK (P:=P) (w:=w) (K:=K) (tg:=tg) a lo n).keep
 item:=by
  intro X A hw z hc i c s G H E I p st q;subst A hw z;obtain⟨r,u,O,v,x,y⟩:=p a (by simp);have q:i<n:=q;refine wpAny_pyNext_range_item st (by lia) λl j B=>?_;have J:Inv X c G H {s with heap:=l,toks:=s.toks+1}:=I.turned (λb o d e=>B.extBut b o (by simpa using d) e) r u v x y;have k:a1j l a (lo+((i+1:Nat):Int)*1) ((n:Int)-((i+1:Nat):Int)) 1:=by
   have L:lo+((i+1:Nat):Int)*1=lo+(i:Int)*1+1:=by lia
   have M:(n:Int)-((i+1:Nat):Int)=(n:Int)-(i:Int)-1:=by lia
   rw[L,M];exact j
  refine⟨_,rfl,lH (s:={s with heap:=l,toks:=s.toks+1}) (n:="range_iterator") k rfl rfl (by decide) ⟨.int (lo+i),H,J,⟨s.toks,?_⟩,⟨rfl,rfl⟩,k,λb d=>(p b d).1⟩⟩;rw[a9R]
 done:=by intro X A hw z hc i c s G H E I p st q;subst A hw z;obtain⟨r,u,O,v,x,y⟩:=p a (by simp);obtain⟨e,Q,_,o,Y,R,T,U⟩:=hc.at I;exact Pp Q R T U st (by have:n<=i:=q;lia) λl N=>⟨rfl,I.turned (t':=s.toks) (λb o d e=>N b o d e) r u v x y⟩
 self:=(oK (P:=P) (w:=w) (K:=K) (tg:=tg) a lo n).self
theorem Pr(k:QRE X e r)(j:bR e=b8)(c:es.all bR=b8)(l:Gl X x)(o:X.mg x=b4 (.ref f))(n:Za X.K (.ref f)=b8)(b:(x==("__debug__":Str))=b7):QRE X (.Call (.Name x p) (e::es) [] pos) r:=by refine⟨λa s A H u v q y i d I R E h w=>Zk (f7 I l o ?_ b)⟩;exact a1M (h₀:=X.base) I.ok.mod.kin n (a4o (aJ (k.h a s A H u v q y i d I R E h w) λ_ _ z=>z.elim) (cX j)) (cX j) (i0 c)
theorem Pt(d:QRE X iter r)(i:eM iter=b8):QR X (.For tg iter body [] pos) r:=
 ⟨λa s n H k l j x c b I R E h w=>wpAny_For (aJ (d.h a s n H k l j x c b I R E h w) λ_ _ z=>z.elim) (by intro z;cases iter<;>first|rfl|cases i)⟩
end L3
namespace L3
open PySem PySem.Spec
namespace Tb
noncomputable abbrev IsT(prog:Yt)(w:YL)(h:Y5)(k:List Int)(b:Addr):Prop:=IsTupleKey (a0P prog w) h k b
noncomputable abbrev eM(a:Bool):Obj:={cls:=.type "set",dict:=b6,data:=.set #[] 0 (.fresh 0 0 a)}
end Tb
end L3
namespace L3
open PySem L2
open PyProof.Rows (IntsAre)
theorem zR:∀{ds}{k},oY ds=b4 k->ds=k.map D.int
 |[],k,h=>by cases h;rfl
 |d::ds,k,h=>by
  cases d with
  |int i=>obtain⟨c,a,b⟩:=X5.mp h;subst b;rw[zR a];rfl|_=>cases h
theorem rO(h:cN x=b4 k):x=.tup (k.map D.int):=by
 cases x with
 |tup ds=>rw[zR h]|_=>cases h
noncomputable def eX(b:Hm):D->Option (List D)
 |.rol xs=>b4 xs|.loc a=>match b[a]? with
  |some (.lst xs)=>b4 xs|_=>b6
 |_=>b6
theorem pI(R:Rp K π H μ)(h:IsD K π μ.length H v x)(e:eX μ x=b4 xs):∃p vs,v=.ref p/\SqL K H p vs/\IsDs K π μ.length H vs xs:=by
 cases h with
 |rol q t=>cases e;exact⟨_,_,rfl,q.sq,t⟩|@loc a i=>
  simp only[eX]at e;split at e
  .rename_i j d;cases e;obtain⟨vs,b,c⟩:=R.lst a xs d;exact⟨_,vs,rfl,.of b,c⟩
  .cases e
 |_=>cases e
theorem ints_of':∀{vs}{k:List Int},IsDs K π n H vs (k.map D.int)->vs=k.map V.int
 |_,[],h=>by cases h;rfl
 |_,i::k,h=>by
  cases h with
  |cons h t=>cases h;rw[ints_of' t];rfl
theorem u9:∀(k:List Int),IsDs K π n H (k.map V.int) (k.map D.int)
 |[]=>.nil|i::k=>.cons (.int i) (u9 k)
theorem Ff{X:Cx}:∀{k}{xs},Vals (k.map V.int) xs->ItemsAre (a0P X.prog X.w) k xs
 |[],_,h=>by cases h;exact .nil
 |i::k,_,h=>by
  cases h with
  |cons h t=>obtain⟨a,rfl⟩:=h;exact .cons (intKind_is _ _ _ _) (Ff t)
theorem jY{σ:St}(I:Inv X b0l σ H s)(h:SqT X.K H b (k.map V.int)):Tb.IsT X.prog X.w s.heap k b:=by obtain⟨j,i,⟨a,e,c,n,d⟩,_⟩:=I.tuple h;exact⟨a,j.toArray,n,e,c,d,by simpa using Ff i⟩
theorem call_lenT:CallR X (.builtin "len") (λxs H Q=>∃a L,xs=[V.ref a]/\H a=b4 (t9 a L)/\Q (.int L.length) H):=by
 intro b0l s σ H xs A Q I r h;obtain⟨a,L,rfl,e,q⟩:=h;obtain⟨u,rfl,y⟩:=fQ r;cases y;obtain⟨⟨o,p,x,d,z,t,R,c,hd,i,ok,v,hnd,l,j,w,k⟩,_,_⟩:=I.hok a _ e;have b:d.size=L.length:=by have:=v.length_eq;simpa using this
 have n:t.mask<=511:=by rcases l with h|h|h|h<;>lia
 refine call_len_set p c hd (Tb.fits_of ok i) (by rw[b];lia) ?_;rw[b];exact⟨.int L.length,H,I.tok _,⟨_,rfl⟩,q⟩
end L3
namespace L3
open PySem L2
theorem Fg:∀{vs}{xs}i,IsDs K π n H vs xs->IsD K π n H (vs.getD i .non) (xs.getD i .non)
 |_,_,i,.nil=>by simp;exact .non
 |_,_,0,.cons h _=>h|_,_,i+1,.cons _ t=>by simpa using Fg i t
theorem Fh(h:IsDs K π n H vs xs):∀(l:List Nat),IsDs K π n H (l.map λi=>vs.getD i .non) (l.map λi=>xs.getD i .non)
 |[]=>.nil|i::l=>.cons (Fg i h) (Fh h l)
open PyProof.Rows (IntsAre Fr News seqObj)
end L3
namespace L3
open PySem
open PySem.W (KasT kas_asc kas_desc kas_tail3 kas_descPart kas_count kas_place kas_bin kas_sort kas_rev)
open PyProof.Rows (mirror bubble getElem?_bubble getElem?_mirror_all mirror_size bubble_size)
section
variable{ans:Nat->Nat->Bool}{κ:Nat->Nat}(hk:∀i j,ans i j=decide (κ i<κ j))
noncomputable def gK(κ:Nat->Nat)(p:Array Nat)(k:Nat):Nat:=κ (p.getD k 0)
structure Falls(κ:Nat->Nat)(p:Array Nat)(n q:Nat):Prop where
 fall:∀i j,i<=j->j<n->gK κ p j<=gK κ p i
 alike:∀k,n-1-q<=k->k<n->gK κ p k=gK κ p (n-1)
 qn:q<n
end
section
variable{α:Type}{lt:α->α->Bool}(irr:∀a,lt a a=b7)(tr:∀a b c,lt a b=b8->lt b c=b8->lt a c=b8)(nt:∀a b c,lt a b=b8->lt a c=b8\/lt c b=b8)
end
end L3
namespace L3
open PySem L2
noncomputable def i9(f g:D->D->Hm->jk)(a b c:ME):ME:=λd e=>(a d e).bind λp=>(b d p.2).bind λq=>(f p.1 q.1 q.2).bind λr=>match r.1 with
 |.bl b8=>(c d r.2).bind λt=>g q.1 t.1 t.2|.bl b7=>b4 (.bl b7,r.2)|_=>b6
theorem Fi(hf:c9 K f r)(hg:c9 K g L):∀σ H Q,tM K (i9 f g ma mb mc) σ H Q->xU r L (tM K ma) (tM K mb) (tM K mc) σ H Q:=by
 rintro σ H Q ⟨π,A,μ,d,s,R,E,e,k⟩;obtain⟨⟨x,h⟩,Z,e⟩:=X0.mp e;obtain⟨⟨y,i⟩,h2,e⟩:=X0.mp e;obtain⟨⟨z,j⟩,h3,e⟩:=X0.mp e;refine⟨π,A,μ,x,h,R,E,Z,λu v1 H1 o U i1=>⟨u,A,h,y,i,U,E.mono o,h2,λv M N p R2 J=>?_⟩⟩;refine hf v N i x y z j v1 M _ R2 (i1.mono p) J h3 λn v3 O q B i3=>?_;cases z with
 |bl G=>
  cases i3;refine⟨G,rfl,?_⟩;cases G with
  |true=>refine lQ ?_;obtain⟨⟨t,l⟩,h4,e⟩:=X0.mp e;exact⟨n,A,j,t,l,B,((E.mono o).mono p).mono q,h4,λw v4 T I Y i4=>hg w T l y t d s M v4 Q Y ((J.mono q).mono I) i4 e (k.after (((o.trans p).trans q).trans I))⟩|false=>refine lP ?_;cases e;exact k n _ O ((o.trans p).trans q) B (.bl b7)
 |_=>cases e
noncomputable def kU:a2b->Option (Int->Int->Bool)
 |.Lt=>b4 λi j=>decide (i<j)|.LtE=>b4 λi j=>decide (i<=j)|.Gt=>b4 λi j=>decide (j<i)|.GtE=>b4 λi j=>decide (j<=i)|_=>b6
theorem pJ(h:kU op=b4 p):OpR X (Zy op) (gO λi j=>.bl (p i j))/\(op=.Lt\/op=.LtE\/op=.Gt\/op=.GtE):=by cases op<;>first|(cases h;first|exact⟨xQ,by simp⟩|exact⟨xR,by simp⟩|exact⟨xS,by simp⟩|exact⟨xT,by simp⟩)|cases h
theorem Fj(h':d=.Lt\/d=.LtE\/d=.Gt\/d=.GtE):a9k [op,d] [b,c]=false:=by show a1t d c=b7;rcases h' with rfl|rfl|rfl|rfl<;>exact dW _
theorem Pu(h:kU op=b4 p)(h':kU d=b4 q)(e:QE X a ma)(i:QE X b mb)(hc:QE X c mc):QE X (.Compare a [op,d] [b,c] pos) (i9 (gC p) (gC q) ma mb mc):=
 ⟨cZ (Kq (pJ h).1 (pJ h').1 e.h i.h hc.h (Fj (pJ (X:=X) h').2)) (Fi iJ iJ)⟩
theorem Pw(h:kU op=b4 p)(h':kU d=b4 q)(i:QE X a ma)(j:QE X b mb)(hc:QE X c mc):QT X (.Compare a [op,d] [b,c] pos) (aP (i9 (gC p) (gC q) ma mb mc)):=
 ⟨qX (Kr (pJ h).1 (pJ h').1 i.h j.h hc.h (Fj (pJ (X:=X) h').2)) λe H Q h=>Fi iJ iJ e H _ (yG e H Q h)⟩
noncomputable def vB(d:Bool):D->D->Hm->jk
 |.bl b,.bl c,μ=>b4 (.bl (if d then !(b==c)else b==c),μ)|.int _,.bl _,μ=>b4 (.bl d,μ)|_,_,_=>b6
noncomputable def eY(d:Bool):D->D->Hm->jk:=λx y e=>match y with
 |.bl _=>vB d x y e|_=>jV d x y e
noncomputable def zS(d:Bool):R2:=λx y H Q=>∃c,y=.bl c/\((∃b,x=.bl b/\Q (.bl (if d then !(b==c)else b==c)) H)\/((∃i,x=.int i)/\Q (.bl d) H))
theorem vC:c9 K (vB h) (zS h):=by
 intro l H q x y d n o p Q R i j e k;unfold vB at e;split at e
 .cases e;cases i;cases j;exact⟨_,rfl,.inl ⟨_,rfl,k l _ H .refl R (.bl _)⟩⟩
 .cases e;cases i;cases j;exact⟨_,rfl,.inr ⟨⟨_,rfl⟩,k l _ H .refl R (.bl _)⟩⟩
 .cases e
theorem Fm:OpR X (Zy .Is) (zS b7):=by
 intro e s k H x y v u Q I d j h;obtain⟨c,rfl,h⟩:=h;cases j;rcases h with⟨b,rfl,q⟩|⟨⟨i,rfl⟩,q⟩
 .cases d;exact Yb (mT I q (by cases b<;>cases c<;>rfl))
 .obtain⟨t,rfl⟩:=d;exact Yb (mT I q rfl)
theorem Fn:OpR X (Zy .IsNot) (zS b8):=by
 intro e s k H x y v u Q I d j h;obtain⟨c,rfl,h⟩:=h;cases j;rcases h with⟨b,rfl,q⟩|⟨⟨i,rfl⟩,q⟩
 .cases d;exact Yb (mT I q (by cases b<;>cases c<;>rfl))
 .obtain⟨t,rfl⟩:=d;exact Yb (mT I q rfl)
theorem vD x y e r(h:eY d x y e=b4 r):vB d x y e=b4 r\/jV d x y e=b4 r:=by
 unfold eY at h;split at h
 .exact .inl h
 .exact .inr h
theorem Px(d:QE X a ma)(e:QE X b mb):QE X (.Compare a [.Is] [b] pos) (aC (eY b7) ma mb):=m8 ⟨fJ Fm vC d.h e.h (dW _)⟩ (Od d e) (gT vD)
theorem Py(d:QE X a ma)(e:QE X b mb):QE X (.Compare a [.IsNot] [b] pos) (aC (eY b8) ma mb):=m8 ⟨fJ Fn vC d.h e.h (dW _)⟩ (Oe d e) (gT vD)
theorem Pz(d:QE X a ma)(e:QE X b mb):QT X (.Compare a [.Is] [b] pos) (aP (aC (eY b7) ma mb)):=oW ⟨fK Fm vC d.h e.h (dW _)⟩ (Of d e) (oX (gT vD))
theorem PB(d:QE X a ma)(e:QE X b mb):QT X (.Compare a [.IsNot] [b] pos) (aP (aC (eY b8) ma mb)):=oW ⟨fK Fn vC d.h e.h (dW _)⟩ (Og d e) (oX (gT vD))
noncomputable def kW:MF:=λds a=>match ds with
 |[x]=>(a8 a x).bind λc=>(oY c).map λb=>(.int b.sum,a)|_=>b6
noncomputable def Fo(K:X2):gz->Hp->VK->Prop:=λxs H Q=>∃(p:Addr)(a:List Int),xs=[.ref p]/\(SqL K H p (a.map V.int)\/SqT K H p (a.map V.int))/\Q (.int a.sum) H
theorem PC:dQ K kW (Fo K):=by
 intro j H s o d h l Q R i a k;unfold kW at a;split at a
 .obtain⟨r,b,a⟩:=X0.mp a;obtain⟨e,c,a⟩:=X5.mp a;cases a;cases i with
  |cons i t=>cases t;obtain⟨p,n,rfl,q,hd⟩:=m7 R i b;rw[zR c]at hd;have:=ints_of' hd;subst this;exact⟨p,e,rfl,q,k j _ H .refl R (.int _)⟩
 .cases a
theorem Fp(a:List Int):∀n,n<=a.length->preSum (λi=>a.getD i 0) n=(a.take n).sum
 |0,_=>rfl|n+1,h=>by
  have b:=Fp a n (by lia);have e:a.take (n+1)=a.take n++[a[n]]:=by rw[a0T,Yg (by lia)];rfl
  show preSum (λi=>a.getD i 0) n+a.getD n 0=_;rw[b,e,List.sum_append];simp[Zm,Yg (show n<a.length by lia)]
theorem Fq{σ:St}(I:Inv X b0l σ H s)(m:Moved l (λa b=>b=a) s2 c)(n:∀b o,s.heap.get? b=b4 o->s2.heap.get? b=b4 o)(hw:∀b∈l,s.heap.objs.size<=b)(d:s2.gens=s.gens/\s2.drawn=s.drawn/\s2.os=s.os):Inv X b0l σ H c:=by have k:∀b o,s.heap.get? b=b4 o->c.heap.get? b=b4 o:=λb o e=>m.heap b o (λz=>absurd (YE (Yc e) (hw b z)) (ZM _)) (n b o e);have h:c.gens=s.gens:=m.gens.trans d.1;have i:c.drawn=s.drawn:=m.drawn.trans d.2.1;have j:c.os=s.os:=m.os.trans d.2.2;obtain⟨u,r,q,p,v⟩:=c;dsimp only at h i j k;subst h i j;exact I.kept (t':=p) k
theorem Fs{a:List Int}(r:Vals (a.map V.int) its){i:Nat}(h:its.toArray[i]?=b4 v):∃t,v=.int (a.getD i 0) t:=by
 have b:its[i]?=b4 v:=by simpa using h
 have d:i<a.length:=by have:=(X8.mp b).1;have:=r.length;rw[X3]at this;lia
 obtain⟨u,c,e⟩:=r.get (i:=i) (x:=.int a[i]) (by rw[Yo,Yg d];rfl);rw[b]at c;cases c;obtain⟨t,rfl⟩:=e;exact⟨t,by simp[Zm,d]⟩
theorem PD(hc:X.calm=b8):CallR X (.builtin "sum") (Fo X.K):=by
 intro E s N H M L Q I r h;obtain⟨p,d,rfl,x,q⟩:=h;obtain⟨u,rfl,J⟩:=fQ r;cases J;have B:X.A.in1.handled=none:=I.ok.hd hc;have fin:∀a:gw,Vals (d.map V.int) a->preSum (λi=>d.getD i 0) a.toArray.size=d.sum:=λa n=>by
  have w:a.toArray.size=d.length:=by rw[Ys,<- n.length,X3]
  rw[w,Fp d _ (Yd _),Z8]
 rcases x with x|x
 .obtain⟨a,n,j,G⟩:=I.list x;refine a8X (a3u j.isList ?_);have k:p≠s.heap.objs.size:=by obtain⟨o,l,_⟩:=j.isList;exact Yn (Yc l)
  refine⟨s.heap.objs.size,_,_,_,_,_,_,λi=>d.getD i 0,rfl,(a9m B _ p k a.toArray).toS,⟨⟨_,Yh _ rfl,rfl,rfl⟩,j.isList.push _⟩,?_,λi v z=>Fs n z,λK A m=>?_⟩
  .intro b c;show b<(s.heap.push _).objs.size;rw[ZZ];obtain⟨o,l,_⟩:=j.isList;have y:=Yc l;simp only[YN,Z0,or_false]at c;rcases c with rfl|rfl
   .exact Z9 _
   .exact a1o y
  .refine⟨.int d.sum,H,Fq I m (λb o e=>X6 _ e) (λb c=>?_) ⟨rfl,rfl,rfl⟩,⟨A,?_⟩,q⟩
   .have e:b=s.heap.objs.size:=by simpa using c
    exact a3E e.symm
   .rw[fin a n]
 .obtain⟨a,n,j,G⟩:=I.tuple x;refine a8X (a1l (show s.heap.IsTuple p a.toArray from j) ?_);have k:p≠s.heap.objs.size:=by obtain⟨o,l,_⟩:=j;exact Yn (Yc l)
  refine⟨s.heap.objs.size,_,_,_,_,_,_,λi=>d.getD i 0,rfl,(a4J B _ p k a.toArray).toS,⟨⟨_,Yh _ rfl,rfl,rfl⟩,a3W j _⟩,?_,λi v z=>Fs n z,λK A m=>?_⟩
  .intro b c;show b<(s.heap.push _).objs.size;rw[ZZ];obtain⟨o,l,_⟩:=j;have y:=Yc l;simp only[YN,Z0,or_false]at c;rcases c with rfl|rfl
   .exact Z9 _
   .exact a1o y
  .refine⟨.int d.sum,H,Fq I m (λb o e=>X6 _ e) (λb c=>?_) ⟨rfl,rfl,rfl⟩,⟨A,?_⟩,q⟩
   .have e:b=s.heap.objs.size:=by simpa using c
    exact a3E e.symm
   .rw[fin a n]
noncomputable def zT:MF:=λds a=>match ds with
 |[.int i,.int j]=>b4 (.int (if j<i then j else i),a)|_=>b6
noncomputable def zU:MF:=λds a=>match ds with
 |[.int i,.int j]=>b4 (.int (if j>i then j else i),a)|_=>b6
theorem PF:dQ K zT (λxs H Q=>∃i j,xs=[.int i,.int j]/\Q (.int (if j<i then j else i)) H):=by
 intro h H n xs d e l Q R i a k;unfold zT at a;split at a
 .cases a;cases i with
  |cons i t=>
   cases i;cases t with
   |cons b c=>cases b;cases c;exact⟨_,_,rfl,k h _ H .refl R (.int _)⟩
 .cases a
theorem PH:dQ K zU (λxs H Q=>∃i j,xs=[.int i,.int j]/\Q (.int (if j>i then j else i)) H):=by
 intro h H n xs d e l Q R i a k;unfold zU at a;split at a
 .cases a;cases i with
  |cons i t=>
   cases i;cases t with
   |cons b c=>cases b;cases c;exact⟨_,_,rfl,k h _ H .refl R (.int _)⟩
 .cases a
noncomputable def eQ{b:Type}(xs:List b)(lo a st:Option Int):List b:=(a8A (a1h lo a st xs.length).1 (a1h lo a st xs.length).2.1 (a1h lo a st xs.length).2.2).filterMap (xs[·]?)
noncomputable def pK(a:ME)(lo d st:MO):ME:=λb e=>(a b e).bind λp=>(lo b p.2).bind λq=>(d b q.2).bind λr=>(st b r.2).bind λt=>if t.1≠b4 0 then(eX t.2 p.1).bind λc=>if(eQ c q.1 r.1 t.1).length<=Yi then b4 (.loc t.2.length,t.2++[.lst (eQ c q.1 r.1 t.1)])else b6 else b6
theorem PJ(h:IsDs K π n H vs ds)lo a st:IsDs K π n H (eQ vs lo a st) (eQ ds lo a st):=by
 unfold eQ;rw[h.length];generalize a8A _ _ _=l;induction l with
 |nil=>exact .nil|cons i l b=>
  rw[a0A,a0A];cases a:ds[i]? with
  |none=>
   have:vs[i]?=none:=by rw[YV]at a ⊢;rw[h.length];exact a
   rw[this];exact b
  |some d=>obtain⟨v,c,e⟩:=h.get a;rw[c];exact .cons e b
theorem PK(r:Vals vs its)lo a st:Vals (eQ vs lo a st) (eQ its lo a st):=by
 unfold eQ;rw[r.length];generalize a8A _ _ _=l;induction l with
 |nil=>exact .nil|cons i l b=>
  rw[a0A,a0A];cases a:vs[i]? with
  |none=>
   have:its[i]?=none:=by rw[YV]at a ⊢;rw[<- r.length];exact a
   rw[this];exact b
  |some v=>obtain⟨u,c,d⟩:=r.get a;rw[c];exact .cons d b
noncomputable def PL(K:X2)(te:TE)(tl th tt:TO):TE:=λσ H Q=>te σ H λx c=>tl σ c λl d=>th σ d λu h=>tt σ h λt b=>t≠b4 0/\∃a xs,x=.ref a/\SqL K b a xs/\(eQ xs l u t).length<=Yi/\∀p,b p=b6->Q (.ref p) (upd b p (.lst (eQ xs l u t)))
open PyProof.Rows in
theorem PM{X:Cx}{e:Expr}{te:TE}{lo hi:Option Expr}{st:Expr}{tl th tt:TO}{pos p2:ZL}(O:PE X e te)(R:PO X lo tl)(U:PO X hi th)(T:PO X (b4 st) tt):PE X (.Subscript e (.Slice lo hi (b4 st) p2) pos) (PL X.K te tl th tt):=by
 intro c s j H Q I h;refine a6s (aJ (O c s j H _ I h) λv s1 ⟨x,A,J,r1,q1⟩=>?_);refine wpAny_Slice (aJ (R c s1 j A _ J q1) λw s2 ⟨l,B,K,pl,q2⟩=>aJ (U c s2 j B _ K q2) λz s3 ⟨u,E,L,pu,q3⟩=>aJ (T c s3 j E _ L q3) λy d ⟨t,G,M,pt,q4⟩=>?_);obtain⟨N,a,xs,rfl,Y,Z,q⟩:=q4;cases r1;have o:Inv X c j G {d with heap:=d.heap.push {cls:=.type "slice",data:=.fields #[w,z,y]}}:=M.kept (t':=d.toks) λb ob q=>X6 _ q;obtain⟨n,r,k,hz'⟩:=o.list Y;have p:=r.length;show Yl (Yv X.prog X.w) X.A (a4G e (.Slice lo hi (b4 st) p2) (.ref a) (.ref d.heap.objs.size)) (EP X c j Q) X.xe {d with heap:=d.heap.push {cls:=.type "slice",data:=.fields #[w,z,y]}};refine b0e (ops:=[.ref a,.ref d.heap.objs.size]) k.isList.typeIs a5b.lookup ?_ (by with_unfolding_all rfl);refine a6I k.isList (a4Y ..) pl pu pt N ?_ (by rw[Ys]<;>lia);have i:a6S n.toArray l u t=(eQ n l u t).toArray:=by unfold a6S eQ;simp
 rw[i];refine⟨.ref _,_,o.laid (t':=d.toks) (o:=.lst (eQ xs l u t)) (λb ob q=>X6 _ q) (Yd _) ?_,rfl,q _ (o.hok.fresh (Yd _))⟩;exact⟨Z,_,0,PK r l u t,Yh _ rfl⟩
theorem PN(he:QE X e B)(hl:QO X lo I)(hu:QO X hi G)(ht:QO X (b4 st) J):QE X (.Subscript e (.Slice lo hi (b4 st) p2) pos) (pK B I G J):=⟨cZ (PM he.h hl.h hu.h ht.h) (by
 rintro σ H Q ⟨π,o,μ,d,μ',R,E,a,k⟩;obtain⟨⟨x,c⟩,U,a⟩:=X0.mp a;obtain⟨⟨l,h⟩,Y,a⟩:=X0.mp a;obtain⟨⟨u,i⟩,Z,a⟩:=X0.mp a;obtain⟨⟨t,s⟩,h4,a⟩:=X0.mp a;refine⟨π,o,μ,x,c,R,E,U,λv v1 H1 j L i1=>⟨v,o,c,l,h,L,E.mono j,Y,λw H2 n R2=>⟨w,o,h,u,i,R2,(E.mono j).mono n,Z,λy H3 r M=>⟨y,o,i,t,s,M,((E.mono j).mono n).mono r,h4,λπ4 H4 A z=>?_⟩⟩⟩⟩;split at a
 .rename_i T;obtain⟨xs,h5,a⟩:=X0.mp a;split at a
  .rename_i hz;cases a;obtain⟨p,K,rfl,q,hd⟩:=pI z (((i1.mono n).mono r).mono A) h5;have b:=PJ hd l u t;refine⟨T,p,K,rfl,q,by rw[b.length];exact hz,λp' hp=>?_⟩;obtain⟨O,N,_⟩:=z.alloc (c:=.lst (eQ xs l u t)) (o:=.lst (eQ K l u t)) hp b;exact k _ _ _ ((((j.trans n).trans r).trans A).trans O) N iX
  .cases a
 .cases a)⟩
theorem zV{σ:St}{ch:List Addr}{a:Addr}(I:Inv X b0l σ H s)(k:∀b u,b∉ch->s.heap.get? b=b4 u->h'.get? b=b4 u)(j:∀b∈ch,gN X b0l H b)(l:s.heap.objs.size<=a)(new:ObjOk X.prog X.w (upd H a o) h' a o):Inv X b0l σ (upd H a o) {s with heap:=h',toks:=t'}:=by
 have d:=I.hok.fresh l;have h:∀b u,H b=b4 u->b∉ch:=λb u e z=>by have:=(j b z).1;rw[e]at this;cases this
 refine I.step (g':=s.gens) (d':=s.drawn) (ch:=ch) (λb i=>let⟨L,y,M,A,B,E⟩:=j b i;⟨A,y,B,E⟩) (λb o _ _ hc e _=>k b o hc e) (λb o _ _ hc e _=>⟨o.slots,k b o hc e⟩) (λb K hc e n=>?_)
  (λb o hc e=>⟨o,k b o hc e⟩) (λb p q=>?_) (λb K p q=>?_) (λb N q=>?_) (λm G=>?_) (λb u e=>?_) I.bare
 .rw[aN (Yn (YE (Yc e) l))];exact n
 .rw[aN (iD q d)];exact q
 .rw[aN (iD q d)];exact q
 .exact⟨#[],by rw[aN (iD q d),q];simp⟩
 .obtain⟨o,x,w,J,r⟩:=G;exact⟨o,x,w,k _ o (λz=>(j _ z).2.1 rfl) J,r⟩
 .by_cases i:b=a
  .subst i;rw[bN]at e;cases e;exact new
  .rw[aN i]at e;refine(I.hok b u e).stay (λc v hc q=>k c v ?_ q) (λc q=>by rw[aN (iD q d)];exact q) λc p q=>by rw[aN (iD q d)];exact q
   rcases hc with z|z
   .rw[z];exact h b u e
   .exact h c _ z
theorem Ft{σ:St}{ch:List Addr}(I:Inv X b0l σ H s)(k:∀b u,b∉ch->s.heap.get? b=b4 u->h'.get? b=b4 u)(d:∀b∈ch,gN X b0l H b):Inv X b0l σ H {s with heap:=h',toks:=t'}:=by
 have a:∀b u,H b=b4 u->b∉ch:=λb u e z=>by have:=(d b z).1;rw[e]at this;cases this
 refine I.step (g':=s.gens) (d':=s.drawn) (ch:=ch) (λb y=>let⟨G,l,J,p,w,x⟩:=d b y;⟨p,l,w,x⟩) (λb o _ _ hc e _=>k b o hc e) (λb o _ _ hc e _=>⟨o.slots,k b o hc e⟩) (λb E hc e n=>n)
  (λb o hc e=>⟨o,k b o hc e⟩) (λb h q=>q) (λb E h q=>q) (λb K q=>⟨#[],by rw[q];simp⟩) (λm A=>?_) (λb u e=>?_) I.bare
 .obtain⟨o,j,i,B,r⟩:=A;exact⟨o,j,i,k _ o (λz=>(d _ z).2.1 rfl) B,r⟩
 .refine(I.hok b u e).stay (λc v hc q=>k c v ?_ q) (λc q=>q) λc h q=>q;rcases hc with z|z
  .rw[z];exact a b u e
  .exact a c _ z
noncomputable def zW(K:X2)(a:Addr):It:=
 ⟨λi H=>∃b x,SqL K H a b/\b[i]?=b4 x,λi H x c=>∃p v,x=.ref p/\H p=b6/\c=upd H p (.tup [.int i,v])/\∀b,SqL K H a b->b[i]?=b4 v,λi H=>∃b,SqL K H a b/\b.length<=i⟩
theorem PQ a e n(y:e≠n):
  Turn Qc P w K (.Tuple es kx pt) (zW K a) [e,n] e (λi h=>∃old,IsEnum h e n i old/\h.IsListIter n a i) where
 mem:=by simp
 obj:=λi h ⟨old,st,l⟩ b q=>by
  have j:b=e\/b=n:=by simpa using q
  rcases j with rfl|rfl
  .exact⟨_,st,λv z=>by
    have z':Zg _=a3s v:=z;cases z'⟩
  .obtain⟨o,L,c,d⟩:=l;exact⟨o,L,λv z=>by rw[d]at z;cases z⟩
 keep:=λi h h' ⟨old,st,l⟩ k=>⟨old,k e (by simp) _ st,l.at λo L=>k n (by simp) o L⟩;item:=by
  intro X O hw N hc i J s σ H E I B ⟨old,st,l⟩ T;subst O hw N;obtain⟨xs,x,G,hx⟩:=T;obtain⟨its,rv,p,hz⟩:=I.list G;obtain⟨u,hu,ru⟩:=rv.get hx;refine wpAny_pyNext_enum_item st l p.isList (x:=u) (by simpa using hu) y λh1 ho hit ht hsz hk=>⟨_,rfl,wpAny_letOwnedTupleGo_enum ho λh2 Q r=>?_⟩;have A:e<s.heap.objs.size:=Yc st;have U:s.heap.objs.size≠e:=Zz A;have Z:h2.get? s.heap.objs.size=b4 {cls:=.type "tuple",data:=.seq #[.int i s.toks,u]}:=(r.2 _ U).trans ht;have R:H s.heap.objs.size=none:=I.hok.fresh (Yd _);refine⟨.ref s.heap.objs.size,upd H s.heap.objs.size (.tup [.int i,x]),?_,rfl,⟨s.heap.objs.size,x,rfl,R,rfl,λys hy=>by rw[I.list_inj hy G];exact hx⟩,⟨u,Q,hit.extBut r.extBut (YW y)⟩,λb q=>?_⟩
  .refine zV (s:=s) (h':=h2) (t':=s.toks+1) (ch:=[e,n]) I (λb ob q M=>?_) B (Yd _) ?_
   .have j:b≠e/\b≠n:=by simpa using q
    exact(r.2 b j.1).trans (hk b ob j.1 j.2 M)
   .exact⟨by show(2:Nat)<=Yi;decide,[.int i s.toks,u],.cons ⟨_,rfl⟩ (.cons ru .nil),_,Z,rfl,0,rfl,rfl⟩
  .have j:b=e\/b=n:=by simpa using q
   have hn:=(B b q).1;obtain⟨o,Y,_⟩:=l;rw[aN]
   .exact hn
   .rcases j with rfl|rfl
    .exact Yn A
    .exact Yn (Yc Y)
 done:=by
  intro X O hw N hc i J s σ H E I B ⟨old,st,l⟩ T;subst O hw N;obtain⟨xs,G,hx⟩:=T;obtain⟨its,rv,p,hz⟩:=I.list G;have hl:=rv.length;refine wpAny_pyNext_enum_end (I.ok.hd hc) st l p.isList (by simp;lia) λh' M=>⟨rfl,Ft (t':=s.toks) (ch:=[e,n]) I (λb o q z=>M b o ?_ z) B⟩;have j:b≠e/\b≠n:=by simpa using q
  exact j.2
 self:=λ_ _ _ _ _ ⟨old,st,_⟩ h=>a8P st h
structure QJT(X:Cx)(e:Expr)(m:MI):Prop where
 h:∀es k p,PI X (.Tuple es k p) e (tMI X.K m)
theorem QJ.t(h:QJ X e m):QJT X e m:=⟨λes k p=>h.h _⟩
noncomputable def rP(x:D):eW:=λa i=>(a8 a x).map λxs=>(xs[i]?).map λd=>.tup [.int i,d]
noncomputable def pL(ms:MA):MI:=λc b=>(ms c b).bind λp=>match p.1 with
 |[x]=>(eX p.2 x).map λa=>(rP x,a.length+1,p.2)|_=>b6
theorem PR(R:Rp K π H u)(h:IsD K π u.length H v x)(A:eX u x=b4 xs):∃a,v=.ref a/\(∃vs,SqL K H a vs)/\Wk K (zW K a) (rP x) π u.length H:=by
 have hw:a8 u x=b4 xs:=by
  cases x with
  |rol l=>exact A|loc b=>exact A|_=>cases A
 obtain⟨p,vs,rfl,U,_⟩:=pI R h A;refine⟨p,rfl,⟨vs,U⟩,?_⟩
  -- the list as it stands k
 have k:∀j c n,Ext π u.length H j c.length n->Rp K j n c->∀l,a8 c x=b4 l->∃o,SqL K n p o/\IsDs K j c.length n o l:=λj c n e r l L=>by
  have Y:=h.mono e;have Q:eX c x=b4 l:=by
   cases x with
   |rol zs=>exact L|loc b=>exact L|_=>cases A
  obtain⟨p',o,M,s,w⟩:=pI r Y Q;cases M;exact⟨o,s,w⟩
 refine⟨λj c n i e r z=>?_,λj c n i d e r z=>?_⟩
 .obtain⟨l,E,B⟩:=X5.mp z;obtain⟨o,s,w⟩:=k j c n e r l E;have G:l[i]?=none:=by
   cases q:l[i]? with
   |none=>rfl|some d=>rw[q]at B;cases B
  exact⟨o,s,by rw[w.length];exact YV.mp G⟩
 .obtain⟨l,E,B⟩:=X5.mp z;obtain⟨d',G,N⟩:=X5.mp B;subst N;obtain⟨o,s,w⟩:=k j c n e r l E;obtain⟨v,J,O⟩:=w.get G;refine⟨⟨o,v,s,J⟩,?_⟩;rintro y Z ⟨t,v',rfl,T,rfl,X⟩;have:=X o s;rw[J]at this;cases this;obtain⟨I,R2⟩:=r.fresh (o:=.tup [.int i,v]) T;exact⟨I,R2,.tup (.of bN) (.cons (.int _) (.cons (O.mono I) .nil))⟩
noncomputable def PU(K:X2)(c:TA):TI:=λσ H R=>c σ H λvs b=>∃a,vs=[.ref a]/\(∃xs,SqL K b a xs)/\R (zW K a) b
open PyProof.Rows in
theorem PV{X:Cx}{a:Expr}{l:TA}{p pos pt:ZL}{es:List Expr}{K:Nat}(y:Gl X "enumerate") (A:X.mg "enumerate"=b6) (w:PA X [a] l)(E:YJ [a] X.env=[(b7,eval a X.env)]):PI X (.Tuple es K pt) (.Call (.Name "enumerate" p) [a] [] pos) (PU X.K l):=by
 intro e s n H R I h;refine a9h (fB I y A Boot.«enumerate» (callWith_type1 (aJ (w pos e s n H _ I h) λU c ⟨Y,j,d,N,M⟩=>?_) E rfl));obtain⟨r,rfl,⟨Z,B⟩,q⟩:=M;obtain⟨u,rfl,O⟩:=fQ N;cases O;obtain⟨J,T,L,Q⟩:=d.list B;refine call_enumerate_list L.isList λv k hit G z=>?_;refine a8P k ?_;have o:Inv X e n j {c with heap:=v}:=d.kept (t':=c.toks) z;refine⟨c.heap.objs.size+1,[c.heap.objs.size+1,c.heap.objs.size],_,_,j,rfl,o,PQ r _ _ (Nat.succ_ne_self _),⟨_,k,hit⟩,λb x=>?_,q⟩;have i:b=c.heap.objs.size+1\/b=c.heap.objs.size:=by simpa using x
 rcases i with rfl|rfl
 .exact d.fpOk (a1w _) (d.hok.fresh (a1w _))
 .exact d.fpOk (Yd _) (d.hok.fresh (Yd _))
theorem PX(c:Gl X "enumerate")(d:X.mg "enumerate"=b6)(l:QA X [a] ms n):QJT X (.Call (.Name "enumerate" p) [a] [] pos) (pL ms):=⟨λes M pt b0l s σ H R I hw=>by
 have o:=l.s;rw[YO,X4]at o;obtain⟨K,L,G,A,N,J,r,E,b,k⟩:=hw;obtain⟨⟨x,h⟩,w,b⟩:=X0.mp b;refine PV c d l.h (cX o.1) b0l s σ H R I ⟨K,L,G,x,h,r,E,w,λi O q v j e=>?_⟩;dsimp only at b;split at b
 .rename_i x;obtain⟨Q,y,b⟩:=X5.mp b;cases b;cases e with
  |cons e B=>cases B;obtain⟨u,rfl,z,W⟩:=PR j e y;exact⟨u,rfl,z,k i q _ v j W⟩
 .cases b⟩
theorem zX(K:PI X tg iter (tMI X.K x))(I:QG X tg g)(G:QB X body w)(L:a5G (Yv X.prog X.w) X.A X.env X.xe)(hc:X.calm=b8)(M:eM iter=b8):
  QS X (.For tg iter body [] pos) (cY x g w):=⟨iW (Kf L hc K I.h G.h (by intro z;cases iter<;>first|rfl|cases M)) (by
 rintro E U H ⟨Q,T,O,v,s,q,R,u,o,k⟩;obtain⟨⟨p,n,l⟩,B,o⟩:=X0.mp o;refine⟨Q,T,O,p,n,l,R,u,B,λr y J i A W=>?_⟩;have N:mV X.K E r l.length y v s q:=by
  cases v with
  |nx=>exact λa b e j h c=>k a b e (i.trans j) h c|bk=>exact λa b e j h c=>k a b e (i.trans j) h c|ct=>exact λa b e j h c=>k a b e (i.trans j) h c|rt d=>exact KC.after k i
 exact MP W N .refl A (u.mono i) o)⟩
theorem PY(h1:QS X st i)(n:QS X st j)(h:∀b a r,m b a=b4 r->i b a=b4 r\/j b a=b4 r):QS X st m:=⟨λb0l s σ H D I q=>by
 obtain⟨l,b,a,e,d,c,R,E,o,k⟩:=q;rcases h b a _ o with z|z
 .exact h1.h b0l s σ H D I ⟨l,b,a,e,d,c,R,E,z,k⟩
 .exact n.h b0l s σ H D I ⟨l,b,a,e,d,c,R,E,z,k⟩⟩
noncomputable def nJ(put:D->D->D->Hm->Option Hm)(o i v:ME):MS:=λa b=>(v a b).bind λp=>(o a p.2).bind λq=>(i a q.2).bind λr=>(put q.1 r.1 p.1 r.2).map λμ'=>(.nx,a,μ')
noncomputable def pM:D->D->D->Hm->Option Hm
 |.loc a,.int i,d,μ=>match μ[a]? with
  |some (.lst xs)=>(jI xs.length i).map λj=>μ.set a (.lst (xs.set j d))|_=>b6
 |_,_,_,_=>b6
noncomputable def rQ:D->D->D->Hm->Option Hm
 |.loc a,y,d,μ=>match μ[a]? with
  |some (.dT kvs)=>(cN y).bind λk=>if kvs.length<Yi then b4 (μ.set a (.dT (bS kvs k d)))else b6|_=>b6
 |_,_,_,_=>b6
noncomputable def rR:D->D->D->Hm->Option Hm:=λo i d b=>match o with
 |.loc a=>match b[a]? with
  |some (.dT _)=>rQ o i d b|_=>pM o i d b
 |_=>b6
noncomputable def l8:=nJ rR
theorem Fu:∀{vs}{ds}j{v}{d},IsDs K π n H vs ds->IsD K π n H v d->IsDs K π n H (vs.set j v) (ds.set j d)
 |_,_,j,_,_,.nil,h=>by simp;exact .nil
 |_,_,0,_,_,.cons _ t,h=>.cons h t|_,_,j+1,_,_,.cons h0 t,h=>.cons h0 (Fu j t h)
noncomputable def PZ(e ty h:TE):TS:=λD σ H=>h σ H λv a=>e σ a λx b=>ty σ b λy c=>yB x y v c λd=>D.nx σ d
open PyProof.Rows in
theorem P0{X:Cx}{pos:ZL}{o i a:Expr}{c:ZL}{e ty j:TE}(E:PE X o e)(B:PE X i ty)(J:PE X a j)(G:a2C a (b4 (.Subscript o i c)) pos.line X.env=pure b7):PS X (.Assign [.Subscript o i c] a pos) (PZ e ty j):=by intro b s d H D I h;refine a7j (aJ (J b s d H _ I h) λr U ⟨v,k,q,Q,L⟩=>aJ (E b U d k _ q L) λu Y ⟨x,l,w,R,M⟩=>aJ (B b Y d l _ w M) λK Z ⟨y,n,z,T,N⟩=>?_) G;exact aJ (Lf b Z d n x y v u K r _ z R T Q N) λ_ s4 ⟨p,A,O⟩=>⟨d,p,A,O⟩
theorem P1(R:Rp K π H b)(w:IsD K π b.length H o y)(A:IsD K π b.length H i z)(u:IsD K π b.length H v x)(h:pM y z x b=b4 μ')(k:∀H',Ext π b.length H π μ'.length H'->Rp K π H' μ'->Q H'):yB o i v H Q:=by
 cases y with
 |loc a=>
  cases z with
  |int i=>
   simp only[pM]at h;split at h
   .rename_i n l;obtain⟨j,r,s⟩:=X5.mp h;subst s;obtain⟨c,d,e⟩:=R.lst _ n l;cases w;cases A;obtain⟨q,p⟩:=R.put (c:=.lst (n.set j x)) (o:=.lst (c.set j v)) (X8.mp l).1 d (.inl ⟨c,rfl⟩) (Fu j e u);exact⟨_,c,i,j,rfl,rfl,d,by rw[e.length];exact r,k _ q p⟩
   .cases h
  |_=>simp[pM]at h
 |_=>simp[pM]at h
theorem P2(U:QE X o G)(T:QE X i B)(Q:QE X e A)(h:eN e=b8):QS X (.Assign [.Subscript o i b] e pos) (nJ pM G B A):=
 ⟨iW (P0 U.h T.h Q.h (lW h)) (by
 rintro E σ H ⟨π,v,μ,fl,ρ',μ',R,j,a,k⟩;obtain⟨⟨x,c⟩,L,a⟩:=X0.mp a;obtain⟨⟨y,d⟩,M,a⟩:=X0.mp a;obtain⟨⟨z,q⟩,N,a⟩:=X0.mp a;obtain⟨μ4,O,a⟩:=X5.mp a;cases a;exact⟨π,v,μ,x,c,R,j,L,λr v1 H1 l I Y=>⟨r,v,c,y,d,I,j.mono l,M,λs v2 H2 n R2 Z=>⟨s,v,d,z,q,R2,(j.mono l).mono n,N,λu v3 H3 p J i3=>P1 J (Z.mono p) i3 ((Y.mono n).mono p) O λH4 w K=>k u σ _ (((l.trans n).trans p).trans w) K ((((j.mono l).mono n).mono p).mono w)⟩⟩⟩)⟩
theorem P4(h:∀x y z b r,f x y z b=b4 r->k x y z b=b4 r\/l x y z b=b4 r):∀d b r,nJ f j i e d b=b4 r->nJ k j i e d b=b4 r\/nJ l j i e d b=b4 r:=by
 intro d b r a;obtain⟨p,n,a⟩:=X0.mp a;obtain⟨q,o,a⟩:=X0.mp a;obtain⟨t,s,a⟩:=X0.mp a;obtain⟨c,u,a⟩:=X5.mp a;rcases h _ _ _ _ _ u with z|z
 .exact .inl (X0.mpr ⟨p,n,X0.mpr ⟨q,o,X0.mpr ⟨t,s,X5.mpr ⟨c,z,a⟩⟩⟩⟩)
 .exact .inr (X0.mpr ⟨p,n,X0.mpr ⟨q,o,X0.mpr ⟨t,s,X5.mpr ⟨c,z,a⟩⟩⟩⟩)
theorem Fv:QS X st (aO i aX):=⟨λb0l s σ H D I q=>by
 obtain⟨h,j,e,d,c,b,R,E,a,k⟩:=q;cases a⟩
noncomputable def l9(a:Hm)(x:D):List D->Option (List Bool)
 |[]=>b4 []|y::r=>(dC 8 a y x).bind λb=>(l9 a x r).map λc=>b::c
noncomputable def pN:D->List D->Hm->jk
 |.loc a,[x],μ=>match μ[a]? with
  |some (.lst xs)=>(l9 μ x xs).bind λbs=>if bs.findIdx id<bs.length/\bs.length<=Yi then b4 (.int (bs.findIdx id:Nat),μ)else b6|_=>b6
 |_,_,_=>b6
noncomputable def Fw(K:X2):V->gz->Hp->VK->Prop:=λx vs H Q=>∃π b a xs y c bs,Rp K π H b/\x=.ref (π a)/\vs=[y]/\b[a]?=b4 (.lst xs)/\IsD K π b.length H y c/\l9 b c xs=b4 bs/\bs.findIdx id<bs.length/\Q (.int (bs.findIdx id:Nat)) H
theorem P5:i7 K pN (Fw K):=by
 intro b H p x ds d q v r Q R l j a k;unfold pN at a;split at a
 .split at a
  .rename_i o h;obtain⟨bs,c,a⟩:=X0.mp a;split at a
   .rename_i e;cases a;cases j with
    |cons i n=>cases n;cases l;exact⟨b,p,_,o,_,_,bs,R,rfl,rfl,h,i,c,e.1,k b _ H .refl R (.int _)⟩
   .cases a
  .cases a
 .cases a
theorem P6{σ:St}(I:Inv X b0l σ H s)(R:Rp X.K π H e)(T:A.units+8<ZO)(rx:RelV x v)(ix:IsD X.K π e.length H x l):
  ∀{ys}{vs}{us}{bs},IsDs X.K π e.length H vs ys->Vals vs us->l9 e l ys=b4 bs->
   ∃g,(∀u∈us,a2P A s u v (g u))/\us.map g=bs:=by
 classical
 intro ys vs us bs j k d
 have o:∀{ys:List D}{vs:gz}{us:gw}{bs:List Bool},IsDs X.K π e.length H vs ys->Vals vs us->l9 e l ys=b4 bs->(∀u∈us,∃c,a2P A s u v c/\∃w n,RelV w u/\IsD X.K π e.length H w n/\dC 8 e n l=b4 c):=by
  intro ys
  induction ys with
  |nil=>
   intro vs us b j k d u a
   cases j
   cases k
   cases a
  |cons y ys J=>
   intro vs us b j k d u a
   cases j with
   |cons h t=>
    cases k with
    |cons r rt=>
     obtain⟨c,B,d⟩:=X0.mp d
     obtain⟨N,E,d⟩:=X5.mp d
     rcases YN.mp a with rfl|a
     .exact⟨c,yO I R 8 T r rx h ix B,_,_,r,h,B⟩
     .exact J t rt E u a
 have p:=o j k d
 refine⟨λu=>if h:u∈us then a1n (p u h)else b7,λu a=>?_,?_⟩
 .simp only[dif_pos a]
  exact(a1X (p u a)).1
 .have K:∀u (h:u∈us) w n c,RelV w u->IsD X.K π e.length H w n->dC 8 e n l=b4 c->a1n (p u h)=c:=by
   intro u h w n c L Z M
   obtain⟨_,w2,O,r2,Y,Q⟩:=a1X (p u h)
   have:w2=w:=r2.inj L
   subst this
   have:=zF I R Y Z
   subst this
   rw[Q]at M
   exact Ym M
  have q:∀{ys:List D}{vs:gz}{i:gw}{bs:List Bool},(∀u∈i,u∈us)->IsDs X.K π e.length H vs ys->Vals vs i->l9 e l ys=b4 bs->i.map (λu=>if h:u∈us then a1n (p u h)else b7)=bs:=by
   intro ys
   induction ys with
   |nil=>
    intro vs i b G j k d
    cases j
    cases k
    cases d
    rfl
   |cons y ys J=>
    intro vs i b G j k d
    cases j with
    |cons h t=>
     cases k with
     |@cons _ u _ us2 r rt=>
      obtain⟨c,B,d⟩:=X0.mp d
      obtain⟨N,E,d⟩:=X5.mp d
      have fV:u∈us:=G u (YQ ..)
      rw[Yk,J (λz U=>G z (YK _ U)) t rt E,dif_pos fV,K u fV _ _ c r h B]
      exact d
  exact q (λ_ h=>h) j k d
theorem P7(hu:X.A.units+20<ZO):jJ X "list.index" (Fw X.K):=by
 intro E s σ H x vs v us Q I Y U h
 obtain⟨π,μ,a,Z,y,dy,bs,R,rfl,rfl,M,O,L,p,q⟩:=h
 cases Y
 obtain⟨u,rfl,T⟩:=U.one
 obtain⟨ws,J,hd⟩:=R.lst a Z M
 obtain⟨z,b,n,r,hl,e⟩:=I.lstM J
 obtain⟨g,G,B⟩:=P6 I R (A:=X.A.in1) (by rw[iY];lia) T O hd r L
 have j:bs.length=b.length:=by rw[<- B,X3]
 have w:bs.findIdx id<b.toArray.size:=by rw[Ys,<- j];exact p
 have c:∀m (o:m<b.length),bs[m]?=b4 (g b[m]):=λm o=>by
  rw[<- B,Yo,Yg o];rfl
 have small:((bs.findIdx id:Nat):Int)<2^63-1:=by
  have k:bs.findIdx id<b.length:=by simpa using w
  have d:=lK
  have i:(bs.findIdx id:Nat)<Yi:=by lia
  have l:((Yi:Nat):Int)<=2^63-1:=by decide
  lia
 refine a4S F.slot_list_index ⟨_,e,rfl⟩ F.entry_list_index (F.args_list_index_2 _ _) (SeqAt.list_indexAt (π a) b.toArray n b6 #[] u g (bs.findIdx id) w small ?_ ?_) ⟨e,λy N=>G y (by simpa using N),⟨.int (bs.findIdx id:Nat),H,I.tok _,⟨_,rfl⟩,q⟩⟩
 .have k:bs.findIdx id<b.length:=by simpa using w
  have d:=List.findIdx_getElem (p:=id) (xs:=bs) (w:=p)
  have i:=c _ k
  rw[Yg p]at i
  have l:=Ym i
  rw[l]at d
  simpa using d
 .intro m o A
  have k:m<b.length:=by simpa using o
  have d:=List.not_of_lt_findIdx (p:=id) (xs:=bs) A
  have i:=c _ k
  have K:m<bs.length:=by lia
  rw[Yg K]at i
  have l:=Ym i
  rw[l]at d
  simpa using d
theorem P8:a0J (.type "list_reverseiterator") "__len__"=pure none:=by rw[a5R,a4c];kernel_rfl
theorem P9:a0J (.type "list_reverseiterator") "__length_hint__"=pure (b4 (.builtin "list_reverseiterator.__length_hint__")):=by rw[a5R,a4c];kernel_rfl
theorem Qa(b:s.TypeIs (.ref r) "list_reverseiterator")(h:Q b7 s):Yl (Yv prog w) A (a4e (.ref r)) Q E s:=by unfold a4e;refine X1 (a2d b P8 ?_);dsimp only;refine a1r (λa=>absurd a (by decide +kernel)) (λ_=>?_);refine a1r (λa=>absurd a (by decide)) (λ_=>?_);refine X1 (a2d b P9 ?_);generalize aW:("list_reverseiterator.__length_hint__":String)=id0;wp_delta;rw[show splitId id0=b4 ("list_reverseiterator","__length_hint__")from by subst aW;decide +kernel];subst aW;refine X1 (a1Q (T:="list_reverseiterator") (b:=b8) b (by rw[isSubtype_type];kernel_rfl) ?_);refine a1r (λa=>absurd a (by decide)) (λ_=>?_);refine a1r (λ_=>?_) (λa=>absurd (by decide +kernel) a);refine a1r (λa=>absurd a (by decide +kernel)) (λ_=>?_);exact Yb h
theorem Qb(Z:A.handled=b6)(hit:s.heap.IsRevIter p a ((its.size:Int)-1))(hl:s.heap.IsList a its)(I:a≠p)S(r:S≠p)(B:S≠a)res k(Y:s.heap.get? S=b4 {cls:=.type "list",data:=.seq #[] k})(X:∀y tk c q,(∀b o,b≠S->b≠p->s.heap.get? b=b4 o->y.get? b=b4 o)->y.get? S=b4 {cls:=.type "list",dict:=b6,data:=.seq c q,slots:=#[]}->ItemsOf (λi v=>its[its.size-1-i]?=b4 v) c its.size->R (.ok (.ret res)) {s with heap:=y,toks:=tk})(hn:its.size<=Yi):
  Yl (Yv prog w) A.in1 (ZC (.ref S) (.ref p) res)
   (λfin n=>match fin with|.done f=>R (.ok f) n|.again q=>q.quiet=b8/\a1z (Yv prog w) A q R n) (λe n=>R (.error e) n) s:=by
 have G:S∉[p,a]:=by simp only[YN,Z0,or_false,not_or];exact⟨r,B⟩
 have W:=Walks.listRev (prog:=prog) (w:=w) (A:=A.in1) Z p a I its;have L:∀(h:Y5)(d tk:Nat),h.IsRevIter p a ((its.size:Int)-1)->h.IsList a its->(∀b o,b≠S->s.heap.get? b=b4 o->h.get? b=b4 o)->
   h.get? S=b4 {cls:=.type "list",data:=.seq #[] d}->a1z (Yv prog w) A (.builtin "list.extend.loop" ⟨[.ref S,.ref p,res],[]⟩) R {s with heap:=h,toks:=tk}:=by
  intro h d tk K x hk l;refine codeAny_extend_loopS W.toS hn S G res its.size 0 _ #[] d rfl (a0l _) ⟨a0l _,by simpa using K,x⟩ l (ItemsOf.nil _) λn c q N z u=>?_;rw[Moved.eq_with N];refine X n.heap n.toks c q (λb o M J e=>N.heap b o (λj=>?_) (hk b o M e)) z u;rcases YN.mp j with O|j
  .exact M O
  .exact J (YA.mp j)
 unfold ZC;refine X1 (a3c (T:="list_reverseiterator") hit.typeIs ?_);have Q:a1p (.ref S) (.ref p)=false:=by simp[a1p,r]
 have T:(Yq "list_reverseiterator"==Yq "list")=false:=by decide +kernel
 have U:(Yq "list_reverseiterator"==Yq "tuple")=false:=by decide +kernel
 simp only[Q,T,U,a4f,YH,if_false];refine X1 (a4h hit ?_);refine X1 (YS (Qa hit.typeIs ?_));refine a1r (λH=>absurd H (by decide +kernel)) (λ_=>Yb ⟨ZW PySem.F.plain_extend_loop _,?_⟩);exact L _ k s.toks hit hl (λb o _ e=>e) Y
theorem Qd(J:A.handled=b6)(hit:s.heap.IsRevIter p a ((its.size:Int)-1))(L:s.heap.IsList a its)(B:a≠p)S(n:S≠p)(l:S≠a)(y:s.heap.get? S=b4 {cls:=.type "list",data:=.seq #[]})(I:∀k H c j,(∀b o,b≠S->b≠p->s.heap.get? b=b4 o->k.get? b=b4 o)->k.get? S=b4 {cls:=.type "list",dict:=b6,data:=.seq c j,slots:=#[]}->ItemsOf (λi v=>its[its.size-1-i]?=b4 v) c its.size->R (.ok (.ret .none)) {s with heap:=k,toks:=H})(M:its.size<=Yi):
  Yl (Yv prog w) A.in1 (Builtin.«list.__init__» ⟨[.ref S,.ref p],[]⟩)
   (λfin u=>match fin with|.done f=>R (.ok f) u|.again j=>j.quiet=b8/\a1z (Yv prog w) A j R u) (λe u=>R (.error e) u) s:=by
 show Yl _ _ (do let old <- a1I (.ref S);a4D (.ref S) (λ_=>#[]);letGo old.toList.reverse;ZC (.ref S) (.ref p) .none) _ _ s;refine X1 ?_;unfold a1I;refine X1 (a0w y rfl (Yb ?_));show Yl _ _ (a2k S (λ_=>#[]) >>= λ_=>letGo (#[]:Array Value).toList.reverse >>= λ_=>ZC (.ref S) (.ref p) .none) _ _ s;refine X1 (ZT y rfl ?_);have d:=YM (Y7 (λ_=>(#[]:Array Value))) y rfl;have h:∀b o,b≠S->s.heap.get? b=b4 o->(s.heap.update S (Y7 (λ_=>(#[]:Array Value)))).get? b=b4 o:=
  λb o r e=>(YF _ _ (YW r)).trans e
 refine X1 (a0x ?_);refine Qb J (hit.at λo e=>h p o (YW n) e) (let⟨o,N,x⟩:=L;⟨o,h a o (YW l) N,x⟩) B S n l .none _ d (λk H c j K z q=>?_) M;exact I k H c j (λb o r G e=>K b o r G (h b o r e)) z q
theorem Qe(J:A.handled=b6)(hit:s.heap.IsRevIter p a ((its.size:Int)-1))(B:s.heap.IsList a its)(u:a≠p)(L:its.size<=Yi)(G:∀h y c q,(∀b o,b≠p->s.heap.get? b=b4 o->h.get? b=b4 o)->h.get? s.heap.objs.size=b4 {cls:=.type "list",dict:=b6,data:=.seq c q,slots:=#[]}->ItemsOf (λi v=>its[its.size-1-i]?=b4 v) c its.size->Q (.ref s.heap.objs.size) {s with heap:=h,toks:=y}):
  Yl (Yv prog w) A (call (.type "list") [.ref p]) Q E s:=by
 refine a6n (Q₁:=λn d=>n=.ref s.heap.objs.size/\d={s with heap:=s.heap.push {cls:=.type "list",data:=.seq #[]}}) a5X (a5p _) a5q
  (code_list_new _ ⟨rfl,rfl⟩) λn d l=>?_
 obtain⟨rfl,rfl⟩:=l;have z:(s.heap.push {cls:=.type "list",data:=.seq #[]}).get? s.heap.objs.size=b4 {cls:=.type "list",data:=.seq #[]}:=Yh _ rfl;have M:p<s.heap.objs.size:=let⟨o,k,_⟩:=hit;Yc k;have H:a<s.heap.objs.size:=let⟨o,k,_⟩:=B;Yc k;refine⟨⟨_,z,rfl⟩,a5f _ _,Qd (A:=A.in1) J (hit.at λo e=>X6 _ e) (let⟨o,k,x⟩:=B;⟨o,X6 _ k,x⟩) u _ (Zz M) (Zz H) z (λh y c q K r j=>?_) L⟩;exact⟨rfl,G h y c q (λb o I e=>K b o (Yn (Yc e)) I (X6 _ e)) r j⟩
noncomputable def Fx(K:X2):gz->Hp->VK->Prop:=λxs H Q=>∃(p:Addr)(ys:gz),xs=[.ref p]/\SqL K H p ys/\∀l,H l=b6->Q (.ref l) (upd H l (.lst ys.reverse))
theorem Fy:∀{ys}{its},Vals ys its->Vals ys.reverse its.reverse
 |_,_,.nil=>.nil|_,_,.cons h t=>by rw[a3e,a3e];exact(Fy t).append (.cons h .nil)
theorem Qf(hc:X.calm=b8)(R:Gl X "list")(U:X.mg "list"=b6)(w:Gl X "reversed")(z:X.mg "reversed"=b6)(O:PA X [e] t)(Z:YJ [e] X.env=(b7,eval e X.env)::YJ [] X.env):
  PE X (.Call (.Name "list" p) [.Call (.Name "reversed" K) [e] [] d] [] pos) (t5 (Fx X.K) t):=by
 intro r s σ H Q I h;refine Zk (fB I R U a0Z ?_ (by decide) (by decide));refine Zp ?_ rfl rfl;show Yl _ _ (a8T ((b7,eval (.Call (.Name "reversed" K) [e] [] d) X.env)::a0s pos (YJ [] X.env))) _ _ s;refine a1S (Zk (fB I w z a7t ?_ (by decide) (by decide)));refine Zp (aJ (O d r s σ H _ I h) λus l ⟨vs,H1,n,r1,q1⟩=>?_) Z rfl;obtain⟨q,ys,rfl,Y,k⟩:=q1;obtain⟨u,rfl,ru⟩:=fQ r1;cases ru;obtain⟨a,L,pl,hz⟩:=n.list Y;have J:=L.length;have y:=pl.isList;have B:q<l.heap.objs.size:=let⟨o,A,_⟩:=y;Yc A;refine a8D y ?_;refine a2c ?_;refine Qe (n.ok.hd hc) (p:=l.heap.objs.size) (a:=q) (its:=a.toArray) ⟨_,Yh _ rfl,rfl,rfl⟩ (let⟨o,A,x⟩:=y;⟨o,X6 _ A,x⟩) (Yn B) (by simp only[Ys]<;>lia) λh' tk c M kp G j=>?_;have v:c.toList=a.reverse:=by
  refine a3h λi=>?_;have hn:c.size=a.length:=by simpa using j.1
  by_cases T:i<a.length
  .have N:=j.2 i c[i] (a3b (by lia));rw[ZG,a3b (by lia),<- N,a3K T,Ys,List.getElem?_toArray]
  .rw[ZS (by rw[a0j];lia),ZS (by rw[a0R];lia)]
 have E:(l.heap.push (revObj q ((a.toArray.size:Int)-1))).objs.size=l.heap.objs.size+1:=by simp[Heap.push]
 rw[E]at G ⊢;refine⟨.ref (l.heap.objs.size+1),_,n.laid (t':=tk) (a:=l.heap.objs.size+1) (o:=.lst ys.reverse) (λb o e=>kp b o (Yn (Yc e)) (X6 _ e)) (by lia) ⟨by rw[a0R];exact hz,a.reverse,M,Fy L,by rw[<- v];simpa using G⟩,rfl,k _ (n.hok.fresh (by lia))⟩
noncomputable def mB:MF:=λds b=>match ds with
 |[.loc a]=>match b[a]? with
  |some (.lst xs)=>b4 (.loc b.length,b++[.lst xs.reverse])|_=>b6
 |_=>b6
theorem Qg:dQ K mB (Fx K):=by
 intro v H u s d q r Q R i b k;unfold mB at b;split at b
 .rename_i a;split at b
  .rename_i e p;cases b;cases i with
   |cons i t=>cases t;cases i;obtain⟨c,j,n⟩:=R.lst a e p;refine⟨_,c,rfl,.of j,λl o=>?_⟩;obtain⟨h,R2,_⟩:=R.alloc (c:=.lst e.reverse) (o:=.lst c.reverse) o (Oj n);exact k _ _ _ h R2 iX
  .cases b
 .cases b
theorem Qh(hc:X.calm=b8)(d:X.mg "list"=b6)(h:X.mg "reversed"=b6)(i:QA X [e] ms n)(b:Gl X "list")(c:Gl X "reversed"):
  QE X (.Call (.Name "list" p) [.Call (.Name "reversed" k) [e] [] a] [] pos) (aF mB ms):=by
 have j:=i.s;rw[YO,X4]at j;exact⟨cZ (Qf hc b d c h i.h (cX j.1)) (yI Qg)⟩
noncomputable def zY(lo c:Int)(n:Nat):It:=⟨λi _=>i<n,λi H x H'=>H'=H/\x=.int (lo+(i:Nat)*c),λi _=>n<=i⟩
theorem Qi a lo c n:Turn Qc P w K tg (zY lo c n) [a] a (λi h=>a1j h a (lo+(i:Nat)*c) ((n:Int)-(i:Nat)) c) where
 mem:=by simp
 obj:=λi h st b d=>by
  have e:b=a:=by simpa using d
  subst e;exact⟨_,st,λv z=>by
   have U:Zg _=a3s v:=z;cases U⟩
 keep:=λi h p st k=>k a (by simp) _ st;item:=by intro X G hw B hc i j s M H E I q st J;subst G hw B;obtain⟨r,u,Q,x,y,A⟩:=q a (by simp);have W:=a8Z (prog:=X.prog) (w:=X.w) (I.ok.hd hc) a lo c n;refine W.item i s _ _ J st λv p L R l T=>?_;obtain⟨t,rfl⟩:=R;have N:Inv X j M H {s with heap:=p,toks:=L}:=I.turned (λb o d e=>T b o (by simpa using d) e) r u x y A;exact⟨_,rfl,lH (s:={s with heap:=p,toks:=L}) (n:="range_iterator") l rfl rfl (by decide) ⟨.int (lo+(i:Nat)*c),H,N,⟨t,rfl⟩,⟨rfl,rfl⟩,l,λb d=>(q b d).1⟩⟩
 done:=by intro X G hw B hc i j s M H E I q st J;subst G hw B;obtain⟨r,u,Q,x,y,A⟩:=q a (by simp);exact a7f (I.ok.hd hc) st (by have:n<=i:=J;lia) λp O=>⟨rfl,I.turned (t':=s.toks) (λb o d e=>O b o d e) r u x y A⟩
 self:=λ_ _ _ _ _ st h=>a7h st h
noncomputable def vF(a b c:Int):Bool:=a9x a b c&&decide (c≠0)&&decide (c.natAbs<1073741824)&&decide (0<=Zl a b c)
noncomputable def Qj(e:TA):TI:=λσ H R=>e σ H λvs d=>∃a b c:Int,vs=[.int a,.int b,.int c]/\vF a b c=b8/\R (zY a c (Zl a b c).toNat) d
open PyProof.Rows in
theorem Qk{X:Cx}{tg a b c:Expr}{G:TA}{p pos:ZL}(Q:Gl X "range") (T:X.mg "range"=b6) (N:PA X [a,b,c] G)(Y:YJ [a,b,c] X.env=(b7,eval a X.env)::YJ [b,c] X.env)(z:(a0s pos (YJ [b,c] X.env)).any (·.1)=b7) :
  PI X tg (.Call (.Name "range" p) [a,b,c] [] pos) (Qj G):=by
 intro n s J H R I h;refine a9h (fB I Q T a8G (Zp (aJ (N pos n s J H _ I h) λus l ⟨vs,E,K,r1,Z⟩=>?_) Y z));obtain⟨i,j,k,e,hok,q⟩:=Z;subst e;unfold vF at hok;rw[X4,X4,X4,decide_eq_true_eq,decide_eq_true_eq,decide_eq_true_eq]at hok;obtain⟨⟨⟨A,x⟩,y⟩,U⟩:=hok;cases r1 with
 |cons r u=>
  cases u with
  |cons r' u=>
   cases u with
   |cons B u=>
    cases u;obtain⟨t,rfl⟩:=r;obtain⟨v,rfl⟩:=r';obtain⟨d,rfl⟩:=B;refine call_range_3 x ?_ (.inl (PyProof.noPylong_small y));refine a8y (a8u ..) A ?_;have w:Inv X n J E {l with heap:=l.heap.push {cls:=.type "range",data:=.fields #[.int i t,.int j v,.int k d]},toks:=l.toks}:=K.kept λb o e=>X6 _ e;refine⟨(l.heap.push {cls:=.type "range",data:=.fields #[.int i t,.int j v,.int k d]}).objs.size,[(l.heap.push {cls:=.type "range",data:=.fields #[.int i t,.int j v,.int k d]}).objs.size],_,_,E,rfl,
     w.kept (t':=l.toks) λb o e=>X6 _ e,Qi _ i k (Zl i j k).toNat,?_,λb O=>?_,q⟩
    .have L:i+((0:Nat):Int)*k=i:=by simp
     have M:(((Zl i j k).toNat:Nat):Int)-((0:Nat):Int)=Zl i j k:=by lia
     show a1j _ _ (i+((0:Nat):Int)*k) ((((Zl i j k).toNat:Nat):Int)-((0:Nat):Int)) k;rw[L,M];exact Yh _ rfl
    .have e:b=(l.heap.push {cls:=.type "range",data:=.fields #[.int i t,.int j v,.int k d]}).objs.size:=by simpa using O
     subst e;exact w.fpOk (Yd _) (w.hok.fresh (Yd _))
noncomputable def zZ(lo c:Int)(n:Nat):eW:=λ_ i=>b4 (if i<n then b4 (.int (lo+(i:Nat)*c))else b6)
theorem Ql:Wk K (zY lo c k) (zZ lo c k) π n H:=by
 refine⟨λb p j i e R z=>?_,λb p j i d e R z=>?_⟩
 .have a:=Ym z;split at a
  .cases a
  .exact a2W.mp (by assumption)
 .have a:=Ym z;split at a
  .cases a;rename_i h;exact⟨h,λx q ⟨l,o⟩=>by subst l;rw[o];exact⟨.refl,R,.int _⟩⟩
  .cases a
noncomputable def pO(ms:MA):MI:=λb a=>(ms b a).bind λp=>match p.1 with
 |[.int i,.int j,.int c]=>if vF i j c=b8 then b4 (zZ i c (Zl i j c).toNat,(Zl i j c).toNat+1,p.2)else b6|_=>b6
theorem Qm(e:Gl X "range")(h:X.mg "range"=b6)(u:QA X [a,b,c] ms n):QJ X (.Call (.Name "range" p) [a,b,c] [] pos) (pO ms):=⟨λtg b0l s σ H R I hw=>by
 have l:=u.s;rw[YO,X4]at l;obtain⟨T,U,O,K,Y,Q,y,E,d,k⟩:=hw;obtain⟨⟨x,q⟩,A,d⟩:=X0.mp d;refine Qk e h u.h (cX l.1) (i0 l.2) b0l s σ H R I ⟨T,U,O,x,q,y,E,A,λr Z v z w o=>?_⟩;dsimp only at d;split at d
 .rename_i i j c;split at d
  .rename_i B;cases d;cases o with
   |cons o L=>
    cases o;cases L with
    |cons G M=>
     cases G;cases M with
     |cons J N=>cases J;cases N;exact⟨i,j,c,rfl,B,k r v _ z w Ql⟩
  .cases d
 .cases d⟩
noncomputable def z7(K:X2)(a:Addr)(n:Nat):It:=⟨λi H=>i<n/\∃xs x,SqL K H a xs/\xs[n-1-i]?=b4 x,λi H x H'=>H'=H/\∀xs,SqL K H a xs->xs[n-1-i]?=b4 x,λi _=>i=n⟩
theorem Qn a l n:Turn Qc P w K tg (z7 K a n) [l] l (λi h=>h.IsRevIter l a ((n:Int)-1-(i:Nat))) where
 mem:=by simp
 obj:=λi h st b j=>by
  have e:b=l:=by simpa using j
  subst e;obtain⟨o,e,c,d⟩:=st;exact⟨o,e,λv z=>by rw[d]at z;cases z⟩
 keep:=λi h y st k=>st.at λo e=>k l (by simp) o e;item:=by
  intro X O hw N hc i r s Y H E I A st Q;subst O hw N;obtain⟨hi,xs,x,T,U⟩:=Q;obtain⟨its,rv,p,hz⟩:=I.list T;obtain⟨u,hu,ru⟩:=rv.get U;obtain⟨B,G,f2,J,L,M⟩:=A l (by simp);have R:(n:Int)-1-(i:Nat)=((n-1-i:Nat):Int):=by lia
  rw[R]at st;refine wpAny_pyNext_rev_item st p.isList (x:=u) (by simpa using hu) λy q sb=>?_;have Z:Inv X r Y H {s with heap:=y}:=I.turned (t':=s.toks) (λb o j e=>(sb.2 b j).trans e) B G J L M;rw[<- R,show(n:Int)-1-(i:Nat)-1=(n:Int)-1-((i+1:Nat):Nat) by lia]at q;obtain⟨o,e,c,d⟩:=id q;exact⟨u,rfl,lH (s:={s with heap:=y}) e c d (by decide) ⟨x,H,Z,ru,⟨rfl,λys hy=>by rw[I.list_inj hy T];exact U⟩,q,λb j=>(A b j).1⟩⟩
 done:=by intro X O hw N hc i r s Y H E I A st Q;subst O hw N;have hg':i=n:=Q;obtain⟨B,G,f2,J,L,M⟩:=A l (by simp);rw[show(n:Int)-1-(i:Nat)=-1 by lia]at st;exact wpAny_pyNext_rev_end (I.ok.hd hc) st λy eb=>⟨rfl,I.turned (t':=s.toks) (λb o j e=>eb b o j e) B G J L M⟩
 self:=λ_ _ _ _ _ st h=>a4h st h
noncomputable def Qo(K:X2)(c:TA):TI:=λσ H R=>c σ H λvs b=>∃a xs,vs=[.ref a]/\SqL K b a xs/\R (z7 K a xs.length) b
open PyProof.Rows in
theorem Qp{X:Cx}{tg a:Expr}{r:TA}{p pos:ZL}(y:Gl X "reversed") (z:X.mg "reversed"=b6) (w:PA X [a] r)(B:YJ [a] X.env=[(b7,eval a X.env)]):PI X tg (.Call (.Name "reversed" p) [a] [] pos) (Qo X.K r):=by
 intro k s M H R I h;refine a9h (fB I y z Boot.«reversed» (callWith_type1 (aJ (w pos k s M H _ I h) λO d ⟨Q,v,i,J,G⟩=>?_) B rfl));obtain⟨j,l,rfl,A,q⟩:=G;obtain⟨u,rfl,K⟩:=fQ J;cases K;obtain⟨c,L,E,N⟩:=i.list A;have n:=L.length;refine a8D E.isList ?_;have hit:(d.heap.push (revObj j ((c.toArray.size:Int)-1))).IsRevIter d.heap.objs.size j ((c.toArray.size:Int)-1):=⟨_,Yh _ rfl,rfl,rfl⟩;refine a4h hit ?_;refine⟨d.heap.objs.size,[d.heap.objs.size],_,_,v,rfl,i.kept (t':=d.toks) λb o e=>X6 _ e,Qn j _ l.length,?_,λb x=>?_,q⟩
 .have e:(l.length:Int)-1-((0:Nat):Int)=(c.toArray.size:Int)-1:=by simp only[Ys];lia
  show Heap.IsRevIter _ _ _ ((l.length:Int)-1-((0:Nat):Int));rw[e];exact hit
 .have e:b=d.heap.objs.size:=by simpa using x
  subst e;exact i.fpOk (Yd _) (i.hok.fresh (Yd _))
noncomputable def jZ(a n:Nat):eW:=λb i=>match b[a]? with
 |some (.lst xs)=>if i<n then(xs[n-1-i]?).map b4 else if i=n then b4 b6 else b6|_=>b6
theorem Qq(u:a<n):Wk K (z7 K (π a) k) (jZ a k) π n H:=by
 refine⟨λc G o i e R z=>?_,λc G o i d e R z=>?_⟩
 .unfold jZ at z;split at z
  .split at z
   .obtain⟨y,_,h⟩:=X5.mp z;cases h
   .split at z
    .assumption
    .cases z
  .cases z
 .unfold jZ at z;split at z
  .rename_i E A;split at z
   .rename_i x;obtain⟨y,B,h⟩:=X5.mp z;cases h;obtain⟨l,b,r⟩:=R.lst a E A;rw[e.pi a u]at b;obtain⟨w,j,s⟩:=r.get B;refine⟨⟨x,l,w,.of b,j⟩,λv I ⟨p,q⟩=>?_⟩;subst p;have:=q l (.of b);rw[j]at this;cases this;exact⟨.refl,R,s⟩
   .split at z
    .cases z
    .cases z
  .cases z
noncomputable def rS(ms:MA):MI:=λc b=>(ms c b).bind λp=>match p.1 with
 |[.loc a]=>match p.2[a]? with
  |some (.lst xs)=>b4 (jZ a xs.length,xs.length+1,p.2)|_=>b6
 |_=>b6
theorem Qr(d:Gl X "reversed")(e:X.mg "reversed"=b6)(o:QA X [a] ms n):QJ X (.Call (.Name "reversed" p) [a] [] pos) (rS ms):=⟨λtg b0l s σ H R I hw=>by
 have q:=o.s;rw[YO,X4]at q;obtain⟨O,Q,M,G,T,N,v,E,c,k⟩:=hw;obtain⟨⟨x,i⟩,y,c⟩:=X0.mp c;refine Qp d e o.h (cX q.1) b0l s σ H R I ⟨O,Q,M,x,i,v,E,y,λj U u w l h=>?_⟩;dsimp only at c;split at c
 .rename_i b;split at c
  .rename_i L r;cases c;cases h with
   |cons h J=>cases J;cases h;obtain⟨K,z,A⟩:=l.lst b L r;have B:=(X8.mp r).1;refine⟨_,K,rfl,.of z,?_⟩;rw[A.length];exact k j u _ w l (Qq B)
  .cases c
 .cases c⟩
noncomputable abbrev aZ:=List (List Int×Addr×V)
noncomputable def bG(ps:aZ)(ws:gw):List (List Int×Addr×Value):=a3w (λp w=>(p.1,p.2.1,w)) ps ws
theorem vG:∀(ps:aZ)(ws:gw),a3w uA ps ws=(bG ps ws).map (a4R (a1s (a0P P w)))
 |[],_=>by simp[bG]
 |p::ps,[]=>by simp[bG]
 |p::ps,u::ws=>by have a:=vG (P:=P) (w:=w) ps ws;unfold bG at a ⊢;rw[Zb,Zb,Yk,a];rfl
theorem kX:∀{ps}{ws},Vals (ps.map (·.2.2)) ws->(bG ps ws).map (·.1)=ps.map (·.1)
 |[],_,_=>by simp[bG]
 |p::ps,_,.cons r t=>by have a:=kX (ps:=ps) t;unfold bG at a ⊢;rw[Zb,Yk,Yk,a]
theorem z8:∀{ps}{ws}{x},x∈bG ps ws->∃p∈ps,p.1=x.1/\p.2.1=x.2.1
 |[],_,x,h=>by simp[bG]at h
 |p::ps,[],x,h=>by simp[bG]at h
 |p::ps,u::ws,x,h=>by
  unfold bG at h;rw[Zb]at h;rcases YN.mp h with e|h
  .subst e;exact⟨p,YQ ..,rfl,rfl⟩
  .obtain⟨q,a,e⟩:=z8 (ps:=ps) (ws:=ws) h;exact⟨q,YK _ a,e⟩
noncomputable def d7(ps:aZ)(k:List Int):Option V:=(ps.find? λp=>decide (p.1=k)).map (·.2.2)
noncomputable def dJ(ps:aZ)(k:List Int)(b:Addr)(v:V):aZ:=if(d7 ps k).isSome then ps.map (λp=>if p.1=k then(p.1,p.2.1,v)else p)else ps++[(k,b,v)]
theorem nK:∀{ps}{ws},Vals (ps.map (·.2.2)) ws->∀k,RelO (d7 ps k) ((a3O (bG ps ws) k).map (·.2))
 |[],_,.nil,k=>by simp[d7,bG,a3O];exact a1c
 |p::ps,_,.cons r t,k=>by
  have a:=nK (ps:=ps) t k;unfold d7 a3O bG at a ⊢;rw[Zb,Zv,Zv];by_cases e:p.1=k
  .simp only[e,decide_true];exact r
  .simp only[e,decide_false];exact a
theorem rV ps k b v:(dJ ps k b v).length<=ps.length+1:=by unfold dJ;split<;>simp
theorem Fz(d:RelV v u):∀{ps}{ws},Vals (ps.map (·.2.2)) ws->
  ∃a,Vals ((ps.map λp=>if p.1=k then(p.1,p.2.1,v)else p).map (·.2.2)) a/\(bG ps ws).map (putAt k u)=bG (ps.map λp=>if p.1=k then(p.1,p.2.1,v)else p) a
 |[],_,.nil=>⟨[],.nil,by simp[bG]⟩|p::ps,_,.cons (b:=w) r t=>by
  obtain⟨a,c,b⟩:=Fz d (ps:=ps) t;by_cases e:p.1=k
  .refine⟨u::a,?_,?_⟩
   .rw[Yk,Yk,if_pos e];exact .cons d c
   .unfold bG at b ⊢;rw[Zb,Yk,b,Yk,if_pos e,Zb];unfold putAt;rw[if_pos e]
  .refine⟨w::a,?_,?_⟩
   .rw[Yk,Yk,if_neg e];exact .cons r c
   .unfold bG at b ⊢;rw[Zb,Yk,b,Yk,if_neg e,Zb];unfold putAt;rw[if_neg e]
theorem FA:∀{ps}{ws},Vals (ps.map (·.2.2)) ws->bG ps ws++[(k,b,u)]=bG (ps++[(k,b,v)]) (ws++[u])
 |[],_,.nil=>by simp[bG]
 |p::ps,_,.cons r t=>by have a:=FA (k:=k) (b:=b) (v:=v) (u:=u) (ps:=ps) t;unfold bG at a ⊢;rw[Zb,Z1,a,Z1,Z1,Zb]
theorem vH(r:Vals (ps.map (·.2.2)) ws)k b(c:RelV v u):
  ∃a,Vals ((dJ ps k b v).map (·.2.2)) a/\a2J (bG ps ws) k b u=bG (dJ ps k b v) a:=by
 have e:=(nK r k).isSome_eq;rw[a2V]at e;unfold dJ a2J;rw[e];by_cases h:(a3O (bG ps ws) k).isSome=b8
 .rw[if_pos h,if_pos h];exact Fz c r
 .rw[if_neg h,if_neg h];refine⟨ws++[u],?_,FA r⟩;rw[YC];exact a8H r c
noncomputable def dB(K:X2)(H:Hp)(ps:aZ):Prop:=∀p∈ps,SqT K H p.2.1 (p.1.map V.int)
theorem gY{σ:St}{ps:aZ}(I:Inv X b0l σ H s)(e:Rd H a (aM a ps))(u:dB X.K H ps):(a==ZA)=b7/\ps.length<=Yi /\
  ∃b,Vals (ps.map (·.2.2)) b/\s.heap.DictOfH (a1s (a0P X.prog X.w)) a (bG ps b):=by
 obtain⟨⟨b,r,y,v,o,i,h,j,k,l,n,q⟩,_⟩:=(show ObjOk X.prog X.w H s.heap a (aM a ps)from e.ok I.hok);refine⟨y,v,b,r,o,i,h,j,k,l,by rw[n];exact vG ps b,λx z=>?_,by rw[kX r];exact q⟩;obtain⟨p,w,c,d⟩:=z8 z;rw[<- c,<- d];exact jY I (u p w)
theorem rW{ps:aZ}(n:(a==ZA)=b7)(l:ps.length<=Yi)(r:Vals (ps.map (·.2.2)) ws)(d:h'.DictOfH (a1s (a0P P w)) a (bG ps ws)):ObjOk P w H' h' a (aM a ps):=by obtain⟨o,e,c,b,h,i,j,_,k⟩:=d;refine⟨⟨ws,r,n,l,o,e,c,b,h,i,by rw[j,vG (P:=P) (w:=w)],by rw[<- kX r];exact k⟩,⟨o,b⟩,?_⟩;rintro q u ⟨ws,r,n,l,o,e,c,b,h,i,j,k⟩ p;exact⟨ws,r,n,l,o,e,c,p o b,h,i,j,k⟩
theorem Qs{σ:St}{ps:aZ}(I:Inv X b0l σ H s)(e:Rd H a (aM a ps))(b:dB X.K H ps):s.TypeIs (.ref a) "dict":=by obtain⟨_,_,c,_,d⟩:=gY I e b;exact d.typeIs
theorem nM{X:Cx}{A:YI}(b:A.units+1<ZO):(a1s (a0P X.prog X.w)).room A.in1:=by show A.in1.units<ZO;rw[iY];lia
theorem Qt{σ:St}{ps:aZ}(u:A.units+1<ZO)(I:Inv X b0l σ H s)(e:Rd H a (aM a ps))(o:dB X.K H ps)(n:SqT X.K H b (k.map V.int))(w:d7 ps k=b4 v)(h:∀c l,Inv X b0l σ H l->RelV v c->Q c l):Yl (Yv X.prog X.w) A (a5V (.ref a) (.ref b)) Q E s:=by
 obtain⟨z,y,x,r,d⟩:=gY I e o;obtain⟨c,hw,j⟩:=RelO.some_of (v:=v) (o:=(a3O (bG ps x) k).map (·.2)) (by rw[<- w];exact nK r k);obtain⟨p,q,i⟩:=X5.mp hw;refine wpAny_getItem_heap (nM u) (jY I n) d q ?_;rw[i];exact h c _ (I.tok _) j
theorem Qu{σ:St}{ps:aZ}(n:A.units+1<ZO)(I:Inv X b0l σ H s)(e:Rd H a (aM a ps))(j:dB X.K H ps)(i:SqT X.K H b (k.map V.int))(h:∀c,Inv X b0l σ H c->Q (.bool (d7 ps k).isSome) c):Yl (Yv X.prog X.w) A (Zy .In (.ref b) (.ref a)) Q E s:=by
 obtain⟨l,o,p,r,d⟩:=gY I e j;refine wpAny_in_heap (nM n) (jY I i) l d ?_;have q:=(nK r k).isSome_eq;rw[a2V]at q;rw[<- q];exact h _ (I.tok _)
theorem Qv{σ:St}{ps:aZ}(n:A.units+1<ZO)(I:Inv X b0l σ H s)(e:Rd H a (aM a ps))(j:dB X.K H ps)(i:SqT X.K H b (k.map V.int))(h:∀c,Inv X b0l σ H c->Q (.bool (!(d7 ps k).isSome)) c):Yl (Yv X.prog X.w) A (Zy .NotIn (.ref b) (.ref a)) Q E s:=by
 obtain⟨l,o,p,r,d⟩:=gY I e j;refine a9E (nM n) (jY I i) l d ?_;have q:=(nK r k).isSome_eq;rw[a2V]at q;rw[<- q];exact h _ (I.tok _)
theorem Qw{σ:St}{ps:aZ}(z:A.units+1<ZO)(I:Inv X b0l σ H s)(e:H a=b4 (aM a ps))(w:dB X.K H ps)(o:SqT X.K H b (k.map V.int))(hz:ps.length<Yi)(J:RelV v u)(h:∀j,Inv X b0l σ (upd H a (aM a (dJ ps k b v))) j->Q () j):Yl (Yv X.prog X.w) A (setItem (.ref a) (.ref b) u) Q E s:=by
 obtain⟨y,M,K,r,d⟩:=gY I (.of e) w;have B:(bG ps K).length<=Yi:=by have:=congrArg Zf (kX r);rw[X3,X3]at this;lia
 refine wpAny_setItem_heap (hsz:=B) (nM z) (jY I o) d λn c i=>h _ ?_;obtain⟨L,G,l⟩:=vH r k b J;rw[l]at c;have p:∃q,n.get? a=b4 q:=let⟨q,_,_,x,_⟩:=c;⟨q,x⟩;exact t6 I (by rw[e];exact a1c) i p (rW y (by have:=rV ps k b v;lia) G c)
noncomputable def IsTs(K:X2)(π:Nat->Addr)(n:Nat)(H:Hp):aZ->jx->Prop:=a2G λp q=>p.1=q.1/\SqT K H p.2.1 (p.1.map V.int)/\IsD K π n H p.2.2 q.2
theorem Qx{k:List Int}(h:IsD K π n H (.ref b) (.tup (k.map D.int))):SqT K H b (k.map V.int):=by
 cases h with
 |tup q t=>rw[ints_of' t]at q;exact q
theorem IsTs.of:∀{ps}{kvs},ps.map (·.1)=kvs.map (·.1)->IsDs K π n H (ps.map λp=>V.ref p.2.1) (kvs.map λk=>D.tup (k.1.map D.int))->IsDs K π n H (ps.map (·.2.2)) (kvs.map (·.2))->IsTs K π n H ps kvs
 |[],[],_,_,_=>.nil|[],_::_,h,_,_=>by cases h
 |_::_,[],h,_,_=>by cases h
 |p::ps,q::kvs,h,h2,h3=>by
  cases h2 with
  |cons a b=>
   cases h3 with
   |cons c d=>rw[Yk,Yk,a3k]at h;refine .cons ⟨h.1,?_,c⟩ (IsTs.of h.2 b d);rw[h.1];exact Qx a
theorem IsTs.keys:∀{ps}{kvs},IsTs K π n H ps kvs->dB K H ps
 |_,_,.nil=>λp a=>nomatch a|_,_,.cons h t=>λp a=>by
  rcases YN.mp a with e|a
  .subst e;exact h.2.1
  .exact IsTs.keys t p a
theorem IsTs.to:∀{ps}{kvs},IsTs K π n H ps kvs->ps.map (·.1)=kvs.map (·.1)/\IsDs K π n H (ps.map λp=>V.ref p.2.1) (kvs.map λk=>D.tup (k.1.map D.int))/\IsDs K π n H (ps.map (·.2.2)) (kvs.map (·.2))
 |_,_,.nil=>⟨rfl,.nil,.nil⟩|_,_,.cons (a:=p) (b:=q) h t=>by obtain⟨a,b,c⟩:=IsTs.to t;refine⟨by rw[Yk,Yk,h.1,a],.cons ?_ b,.cons h.2.2 c⟩;show IsD K π n H (.ref p.2.1) (.tup (q.1.map D.int));rw[<- h.1];exact .tup h.2.1 (u9 p.1)
theorem IsTs.val k:∀{ps}{kvs},IsTs K π n H ps kvs->(d7 ps k=b6/\aT kvs k=b6)\/∃v d,d7 ps k=b4 v/\aT kvs k=b4 d/\IsD K π n H v d
 |_,_,.nil=>.inl ⟨rfl,rfl⟩|_,_,.cons (a:=p) (b:=q) h t=>by
  have a:=IsTs.val k t;unfold d7 aT at a ⊢;rw[Zv,Zv,<- h.1];by_cases e:p.1=k
  .simp only[e,decide_true];exact .inr ⟨_,_,rfl,rfl,h.2.2⟩
  .simp only[e,decide_false];exact a
theorem IsTs.put(h:IsTs K π n H ps kvs)k(l:SqT K H b (k.map V.int))(j:IsD K π n H v d):IsTs K π n H (dJ ps k b v) (bS kvs k d):=by
 have e:(d7 ps k).isSome=(aT kvs k).isSome:=by rcases h.val k with⟨c,i⟩|⟨v,d,c,i,_⟩<;>rw[c,i]<;>rfl
 have a:∀{ps:aZ}{kvs:jx},IsTs K π n H ps kvs->IsTs K π n H (ps.map λp=>if p.1=k then(p.1,p.2.1,v)else p) (kvs.map λp=>if p.1=k then(p.1,d)else p):=by
  intro ps kvs h;unfold IsTs at h;induction h with
  |nil=>exact .nil|@cons p q ps r h t o=>
   rw[Yk,Yk];refine .cons ?_ o;by_cases z:p.1=k
   .rw[if_pos z,if_pos (h.1.symm.trans z)];exact⟨h.1,h.2.1,j⟩
   .rw[if_neg z,if_neg λy=>z (h.1.trans y)];exact h
 unfold dJ bS;rw[e];split
 .exact a h
 .exact a8H h ⟨rfl,l,j⟩
theorem gF{kvs:jx}(R:Rp K π H μ)(h:μ[a]?=b4 (.dT kvs)):∃ps,H (π a)=b4 (aM (π a) ps)/\IsTs K π μ.length H ps kvs:=by obtain⟨ps,b,c,d,e⟩:=R.dT a kvs h;exact⟨ps,b,.of c d e⟩
theorem vJ{kvs:jx}(R:Rp K π H μ)(h:μ[a]?=b4 (.dF kvs)):∃b ps,H (π a)=b4 (.frz b (aM (π a) ps))/\IsTs K π μ.length H ps kvs:=by obtain⟨b,ps,c,d,e,i⟩:=R.dF a kvs h;exact⟨b,ps,c,.of d e i⟩
theorem mD(h:IsD K π n H v x)(e:cN x=b4 k):∃b,v=.ref b/\SqT K H b (k.map V.int):=by
 have:=rO e;subst this;cases h with
 |tup q t=>rw[ints_of' t]at q;exact⟨_,rfl,q⟩
noncomputable def j0:ME:=λ_ a=>b4 (.loc a.length,a++[.dT []])
theorem FC(h:Y5)(a:ZA<h.objs.size):ObjOk P w H (h.push {cls:=.type "dict",data:=.dict #[]}) h.objs.size (aM h.objs.size []):=
 rW (ws:=[]) (beq_eq_false_iff_ne.mpr (YW (Yn a))) (a0l _) .nil (a9S h)
noncomputable def Qy:TE:=λ_ H Q=>∀p,H p=b6->Q (.ref p) (upd H p (aM p []))
theorem Qz:PE X (.Dict [] [] pos) Qy:=λb0l s σ H Q I h=>wpAny_Dict_empty ⟨.ref s.heap.objs.size,_,I.laid (a:=s.heap.objs.size) (o:=aM s.heap.objs.size []) (t':=s.toks) (λ_ _ q=>X6 _ q) (Yd _) (FC s.heap I.big),rfl,h _ (I.hok.fresh (Yd _))⟩
theorem QC:QE X (.Dict [] [] pos) j0:=⟨cZ Qz (by
 rintro o H Q ⟨l,n,j,d,h,R,E,c,k⟩ p e;cases c;obtain⟨b,a,i⟩:=R.alloc (c:=.dT []) (o:=aM p []) e ⟨[],rfl,rfl,.nil,.nil⟩;exact k _ _ _ b a iX)⟩
noncomputable def rX:D->D->Hm->jk
 |.loc a,y,μ=>match μ[a]? with
  |some (.dT kvs)=>(cN y).bind λk=>(aT kvs k).map λd=>(d,μ)|some (.dF kvs)=>(cN y).bind λk=>(aT kvs k).map λd=>(d,μ)|_=>b6
 |_,_,_=>b6
noncomputable def FD(K:X2):R2:=λx y H Q=>∃a b ps k v,x=.ref a/\y=.ref b/\Rd H a (aM a ps)/\dB K H ps/\SqT K H b (k.map V.int)/\d7 ps k=b4 v/\Q v H
theorem QD(E:X.A.units+1<ZO)(A:PE X a td)(z:PE X b ty)(B:CY b):PE X (.Subscript a b pos) (λσ H Q=>td σ H λx d=>ty σ d λy i=>FD X.K x y i Q):=by intro c s σ H Q I h;refine CZ a4W.lookup B (aJ (A c s σ H _ I h) λu O ⟨x,d,o,M,K⟩=>aJ (z c O σ d _ o K) λJ T ⟨y,i,l,N,a,b,R,k,v,q,r,e,n,w,G,L⟩=>?_);subst q r;obtain rfl:u=Ye a:=M;obtain rfl:J=Ye b:=N;exact⟨Qs l e n,Qt E l e n w G λY U p j=>⟨v,i,p,j,L⟩⟩
theorem QF:c9 K rX (FD K):=by
 intro A H M x y d I J L Q R u w c k;unfold rX at c;split at c
 .split at c
  .rename_i o hc;obtain⟨i,l,c⟩:=X0.mp c;obtain⟨B,h,c⟩:=X5.mp c;cases c;cases u;obtain⟨p,j,T⟩:=gF R hc;obtain⟨b,rfl,n⟩:=mD w l;rcases T.val i with⟨_,z⟩|⟨v,E,q,r,s⟩
   .rw[z]at h;cases h
   .rw[r]at h;cases h;exact⟨_,b,p,i,v,rfl,rfl,.of j,T.keys,n,q,k A _ H .refl R s⟩
  .rename_i o hc;obtain⟨i,l,c⟩:=X0.mp c;obtain⟨B,h,c⟩:=X5.mp c;cases c;cases u;obtain⟨G,p,j,T⟩:=vJ R hc;obtain⟨b,rfl,n⟩:=mD w l;rcases T.val i with⟨_,z⟩|⟨v,E,q,r,s⟩
   .rw[z]at h;cases h
   .rw[r]at h;cases h;exact⟨_,b,p,i,v,rfl,rfl,.inr ⟨G,j⟩,T.keys,n,q,k A _ H .refl R s⟩
  .cases c
 .cases c
theorem QH(i:Room k X.A)(c:QE X a ma)(d:QE X b mb)(h:lU b=b8):QE X (.Subscript a b pos) (aC rX ma mb):=⟨cZ (QD (fV i) c.h d.h (y9 h)) (qY QF)⟩
noncomputable def QK(K:X2)(td ty tv:TE):TS:=λD σ H=>tv σ H λv d=>td σ d λx h=>ty σ h λy c=>∃a b ps k,x=.ref a/\y=.ref b/\c a=b4 (aM a ps)/\dB K c ps/\SqT K c b (k.map V.int)/\ps.length<Yi/\D.nx σ (upd c a (aM a (dJ ps k b v)))
theorem QL(L:X.A.units+1<ZO)(J:PE X o td)(E:PE X i ty)(M:PE X e tv)(K:a2C e (b4 (.Subscript o i tpos)) pos.line X.env=pure b7):
  PS X (.Assign [.Subscript o i tpos] e pos) (QK X.K td ty tv):=by
 intro c s d H D I h;refine a7j (aJ (M c s d H _ I h) λr s1 ⟨v,j,n,U,Q⟩=>aJ (J c s1 d j _ n Q) λu s2 ⟨x,l,p,Y,R⟩=>aJ (E c s2 d l _ p R) λO s3 ⟨y,H3,q,Z,a,b,ps,k,z,A,e,G,B,N,T⟩=>?_) K;subst z A;obtain rfl:u=Ye a:=Y;obtain rfl:O=Ye b:=Z;exact Qw L q e G B N U λs4 w=>⟨d,_,w,T⟩
theorem QM(hr:Room j X.A)(ho:QE X o mo)(hi:QE X i mi)(he:QE X e me)(h:eN e=b8):QS X (.Assign [.Subscript o i tpos] e pos) (nJ rQ mo mi me):=
 ⟨iW (QL (Lr hr) ho.h hi.h he.h (lW h)) (by
 rintro E σ H ⟨π,L,μ,fl,ρ',μ',R,p,d,k⟩;obtain⟨⟨x,l⟩,h1,d⟩:=X0.mp d;obtain⟨⟨y,n⟩,h2,d⟩:=X0.mp d;obtain⟨⟨z,G⟩,h3,d⟩:=X0.mp d;obtain⟨μ4,c,d⟩:=X5.mp d;cases d;refine⟨π,L,μ,x,l,R,p,h1,λI v1 H1 q U i1=>⟨I,L,l,y,n,U,p.mono q,h2,λJ v2 H2 r R2 i2=>⟨J,L,n,z,G,R2,(p.mono q).mono r,h3,λK v3 H3 s M i3=>?_⟩⟩⟩;cases y with
 |loc a=>
  simp only[rQ]at c;split at c
  .rename_i A hc;obtain⟨j,h5,c⟩:=X0.mp c;split at c
   .rename_i hz;cases c;have w:=i2.mono s;cases w with
    |loc u=>
     obtain⟨B,O,T⟩:=gF M hc;obtain⟨b,rfl,Q⟩:=mD i3 h5;have hv:=(i1.mono r).mono s;have Z:=T.put j Q hv;obtain⟨g1,g2,g3⟩:=Z.to;have v:B.length<Yi:=by have:=congrArg Zf (T.to).1;rw[X3,X3]at this;lia
     refine⟨_,b,B,j,rfl,rfl,O,T.keys,Q,v,?_⟩;obtain⟨N,Y⟩:=M.put (c:=.dT (bS A j x)) (o:=aM _ (dJ B j b v1)) u O (.inr (.inr ⟨_,rfl⟩)) ⟨_,rfl,g1,g2,g3⟩;exact k K σ _ (((q.trans r).trans s).trans N) Y ((((p.mono q).mono r).mono s).mono N)
   .cases c
  .cases c
 |_=>simp[rQ]at c)⟩
noncomputable def rY(b:Bool):D->D->Hm->jk
 |x,.loc a,μ=>match μ[a]? with
  |some (.dT kvs)=>(cN x).map λk=>(.bl (if b then !(aT kvs k).isSome else(aT kvs k).isSome),μ)|some (.dF kvs)=>(cN x).map λk=>(.bl (if b then !(aT kvs k).isSome else(aT kvs k).isSome),μ)|_=>b6
 |_,_,_=>b6
noncomputable def z9(K:X2)(c:Bool):R2:=λx y H Q=>∃a b ps k,x=.ref b/\y=.ref a/\Rd H a (aM a ps)/\dB K H ps/\SqT K H b (k.map V.int)/\Q (.bl (if c then !(d7 ps k).isSome else(d7 ps k).isSome)) H
theorem FE(l:X.A.units+1<ZO):OpR X (Zy .In) (z9 X.K b7):=by intro d s w H x y v u Q I n o h;obtain⟨a,b,p,k,rfl,rfl,e,j,i,q⟩:=h;obtain rfl:v=Ye b:=n;obtain rfl:u=Ye a:=o;exact Qu l I e j i λr c=>⟨.bl _,H,c,rfl,q⟩
theorem FF(l:X.A.units+1<ZO):OpR X (Zy .NotIn) (z9 X.K b8):=by intro d s w H x y v u Q I n o h;obtain⟨a,b,p,k,rfl,rfl,e,j,i,q⟩:=h;obtain rfl:v=Ye b:=n;obtain rfl:u=Ye a:=o;exact Qv l I e j i λr c=>⟨.bl _,H,c,rfl,q⟩
theorem vK:c9 K (rY l) (z9 K l):=by
 intro s H B x y d w z A Q R q r a k;unfold rY at a;split at a
 .split at a
  .rename_i i hc;obtain⟨h,c,a⟩:=X5.mp a;cases a;cases r;obtain⟨n,o,T⟩:=gF R hc;obtain⟨b,rfl,p⟩:=mD q c;have e:(d7 n h).isSome=(aT i h).isSome:=by rcases T.val h with⟨c,j⟩|⟨v,d,c,j,_⟩<;>rw[c,j]<;>rfl
   refine⟨_,b,n,h,rfl,rfl,.of o,T.keys,p,?_⟩;rw[e];exact k s _ H .refl R (.bl _)
  .rename_i i hc;obtain⟨h,c,a⟩:=X5.mp a;cases a;cases r;obtain⟨u,n,o,T⟩:=vJ R hc;obtain⟨b,rfl,p⟩:=mD q c;have e:(d7 n h).isSome=(aT i h).isSome:=by rcases T.val h with⟨c,j⟩|⟨v,d,c,j,_⟩<;>rw[c,j]<;>rfl
   refine⟨_,b,n,h,rfl,rfl,.inr ⟨u,o⟩,T.keys,p,?_⟩;rw[e];exact k s _ H .refl R (.bl _)
  .cases a
 .cases a
noncomputable def RawD(h:Y5)(d:Addr)(es:Array DictEntry)(ep:Nat):Prop:=∃z,h.get? d=b4 z/\z.ExactDict/\z.data=.dict es ep
theorem RawD.ty{s:X7}{es ep}(g:RawD s.heap d es ep):s.TypeIs (.ref d) "dict":=let⟨z,a,b,_⟩:=g;⟨z,a,b.1⟩
theorem RawD.stay{es ep}(g:RawD h d es ep)(k:∀o,h.get? d=b4 o->h'.get? d=b4 o):RawD h' d es ep:=let⟨z,a,b⟩:=g;⟨z,k z a,b⟩
theorem RawD.lt{h:Y5}{d:Addr} {es ep} (g:RawD h d es ep):d<h.objs.size:=let⟨_,a,_⟩:=g;Yc a
theorem FG(lo:(d==ZA)=b7)(g:RawD s.heap d es ep)(q:Q (.ref s.heap.objs.size) {s with heap:=s.heap.push {cls:=.type "dict_keyiterator",data:=.fields #[.ref d,.int 0 0,.int es.size 0,.int ep 0]}}):Yl (Yv P w) A (a5A (.ref d)) Q E s:=by
 obtain⟨z,a,c,b⟩:=id g;refine a8O g.ty F.slot_dict_iter (a0b F.slot_dict_iter g.ty F.entry_dict_iter ?_ (F.args_dict_iter_1 _));unfold Builtin.«dict.__iter__» a9Y;refine X1 (X1 (a1u g.ty ?_));show Yl _ _ (pure (Ye d)) _ _ _;refine Yb ?_;show Yl _ _ (a0W d >>= _) _ _ _;unfold a0W;rw[if_neg (λx=>Yj (lo.symm.trans x))];refine X1 (Yb (X1 (ZY a b (X1 (a2f a b (X1 (Zi (Yb ?_))))))));exact⟨_,rfl,"dict_keyiterator",_,⟨_,Yh _ rfl,rfl⟩,F.slot_dict_keyiterator_next.lookup,by simpa[a0F]using q⟩
theorem vL(p:A.handled=b6)(j:s.heap.IsKeyIter it d i es.size ep)(g:RawD s.heap d es ep)(q1:∀e a,es[i]?=b4 e->a.IsKeyIter it d (i+1) es.size ep->a0i it s.heap a->Q (b4 e.key) {s with heap:=a})(q2:es[i]?=b6->∀a,a3i it s.heap a->Q b6 {s with heap:=a}):Yl (Yv P w) A (a0X (.ref it)) Q E s:=by
 obtain⟨y,c,r,b⟩:=id j;obtain⟨z,l,v,n⟩:=id g;have k:∀{Q:String->X7->Prop}{A:YI}{E:Value->X7->Prop},Q "dict_keyiterator" s->Yl (Yv P w) A (a9A (.ref it)) Q E s:=λq=>wpAny_typeNameOfWhole_keyiter j.typeIs q;unfold a0X;refine X1 (a6J (a3L (name:=Z7 "__next__") j.typeIs F.slot_dict_keyiterator_next (a0b F.slot_dict_keyiterator_next j.typeIs F.entry_dict_keyiterator_next ?_ (F.args_dict_keyiterator_next_1 _))));refine X1 (Yb (X1 (X1 (X1 (k (Yb (X1 (b0b c b ?_))))))));simp only[show a1P "dict_keyiterator"=b7 by decide,YH,if_false];show Yl _ _ (if(Ye d==Y3)=b8 then _ else _) _ _ _;rw[if_neg (show ¬ (Ye d==Y3)=b8 from λx=>Yj x)];refine X1 (Yb (X1 (ZY l n ?_)));rw[if_neg (λx=>by simp at x)];refine X1 (Yb (X1 (a2f l n ?_)));rw[if_neg (λx=>by simp at x)];refine Yb ?_;simp only[if_neg (show ¬ ((i:Int)<0) by lia),a0k];cases o:es[i]? with
 |some e=>
  refine X1 (X1 (k (Yb (X1 (a7J j.typeIs ?_)))));show Yl _ _ (a6h (.ref it) 1 (a0F ((i:Int)+1)) >>= _) _ _ _;refine X1 (a1J c b (by simp) ?_);have h:(s.heap.update it (a2t (·.setIfInBounds 1 (a0F ((i:Int)+1))))).IsKeyIter it d (i+1) es.size ep:=
   ⟨_,YM _ c (a1m (a1f b _)),(a4y ..).trans r,by simp[a1f b,a0F]⟩
  generalize hu:s.heap.update it (a2t (·.setIfInBounds 1 (a0F ((i:Int)+1))))=u at h;refine X1 (YS (X1 (a7J (s:={s with heap:=u}) h.typeIs ?_)));show Yl _ _ (pure e.key) _ _ _;exact Yb (Yb ⟨_,rfl,Yb (q1 e u o h (hu▸Zo ..))⟩)
 |none=>refine X1 (X1 (k (Yb ?_)));show Yl _ _ (a6h (.ref it) 0 .none >>= _) _ _ _;refine X1 (a1J c b (by simp) ?_);show Yl _ _ (a7n (.type "StopIteration") [] >>= _) _ _ _;simp only[a7n,a6i];refine X1 (X1 (Zi ?_ (by size_fits)));refine X1 (m:=a2n _ _) (a4i (a:=Y3) (by first|rfl|(simp only[a2n];rfl)) (Zi ?_ (by size_fits)));simp only[b0g];refine X1 (a6H ?_);rw[show A.in1.handled=b6 from p];refine X1 (Yb (a7V ?thrown));case thrown=>exact X1 (a1Q (T:="StopIteration") (b:=b8) ⟨_,Yh _ rfl,rfl⟩ a6k (Yb (q2 o _ (((Zo ..).extBut.push _).push _))))
theorem QN(p:A.handled=b6)(n:d≠it)es ep:Walks P w A it [it,d] [it] es.size (λi v=>∃e,es[i]?=b4 e/\v=e.key) (λi h=>h.IsKeyIter it d i es.size ep/\RawD h d es ep) where
 sub:=λb a=>by rw[YA.mp a];exact YQ ..
 frame:=λ_ _ _ st k=>⟨st.1.at λo e=>k it (by simp) o e,st.2.stay λo e=>k d (by simp) o e⟩
 item:=λi s Q E y st q=>vL p st.1 st.2 (λe l c u r=>q _ l s.toks ⟨e,c,rfl⟩ ⟨u,st.2.stay λo j=>r.extBut d o n j⟩ λb o a j=>r.extBut b o (λz=>a (by simp[z])) j) (λc=>by simp at c;lia)
 done:=λs Q E st q=>vL p st.1 st.2 (λe l c=>by simp at c) (λ_ l x=>q l s.toks λb o a j=>x b o (λz=>a (by simp[z])) j)
 self:=λ_ _ _ _ st q=>a7W st.1 q
theorem QU(lo:(d==ZA)=b7):PySem.W.KdlSrc P w "dict" d d es.size (λi v=>∃e,es[i]?=b4 e/\v=e.key) (λh=>RawD h d es ep) where
 type:=λ_ g=>g.ty
 there:=λ_ g=>⟨g.lt,g.lt⟩
 keep:=λ_ _ g k=>g.stay λo e=>k d (.inl rfl) o e
 notList:=by decide
 notTuple:=by decide
 hint:=λ_ _ _ _ g q=>PySem.W.kdl_hint_dict g.ty q
 iter:=λ_ _ a g=>⟨_,_,(λ_ _ q=>FG lo g q),QN a (Yn g.lt) es ep,⟨⟨_,Yh _ rfl,rfl,rfl⟩,g.stay λo e=>X6 _ e⟩⟩
theorem QV(lo:(d==ZA)=b7):a9f P w (Builtin.«dict.__len__» ⟨[.ref d],[]⟩) (λ_ R s=>∃es ep,RawD s.heap d es ep/\R (.ok (.ret (.int (es.size:Nat) s.toks))) {s with toks:=s.toks+1}):=
 .of_wp λA R s ⟨es,ep,⟨z,a,c,b⟩,q⟩=>by show Yl _ _ (dictSize d >>= _) _ _ _;unfold dictSize;refine X1 (X1 (ZY a b (Yb ?_)));show Yl _ _ (a9U d >>= _) _ _ _;refine X1 (wpAny_pendingCount_other lo (wpAny_ret_mkInt ?_));rw[Nat.add_zero];exact q
theorem QX{s:X7}(lo:(d==ZA)=b7)(g:RawD s.heap d es ep)(hz:es.size<=Yi)(q:Q (.int (es.size:Nat) (s.toks+1)) {s with toks:=s.toks+1+1}):Yl (Yv P w) A (call (.builtin "len") [.ref d]) Q E s:=
 a9L g.ty F.slot_dict_len (λb a=>a2q F.slot_dict_len g.ty F.entry_dict_len (F.args_dict_len_1 _) (QV lo) ⟨es,ep,g,a⟩) (by lia) (by rw[Yz]at hz;lia) q
theorem Aa:∀{ps}{ws},Vals (ps.map (·.2.2)) ws->(bG ps ws).map (λx=>Ye x.2.1)=ps.map λp=>Ye p.2.1
 |[],_,_=>by simp[bG]
 |p::ps,_,.cons r t=>by have a:=Aa (ps:=ps) t;unfold bG at a ⊢;rw[Zb,Yk,Yk,a]
theorem FH:∀ps:aZ,Vals (ps.map λp=>V.ref p.2.1) (ps.map λp=>Ye p.2.1)
 |[]=>.nil|p::ps=>.cons rfl (FH ps)
theorem rZ{σ:St}{ps:aZ}(I:Inv X b0l σ H s)(e:H a=b4 (aM a ps))(i:dB X.K H ps):(a==ZA)=b7/\ps.length<=Yi/\∃es ep,RawD s.heap a es ep/\es.toList.map (·.key)=ps.map λp=>Ye p.2.1:=by obtain⟨k,j,l,r,z,es,ep,b,c,d,h,_⟩:=gY I (.of e) i;refine⟨k,j,es,ep,⟨z,b,c,d⟩,?_⟩;rw[h,Yu,<- Aa r];rfl
noncomputable def FI(K:X2):gz->Hp->VK->Prop:=λxs H Q=>∃a ps,xs=[V.ref a]/\H a=b4 (aM a ps)/\dB K H ps/\Q (.int ps.length) H
theorem QY:CallR X (.builtin "len") (FI X.K):=by
 intro b0l s σ H p o Q I r h;obtain⟨a,ps,rfl,c,e,q⟩:=h;obtain⟨u,rfl,k⟩:=fQ r;cases k;obtain⟨j,n,b,l,g,d⟩:=rZ I c e;have i:b.size=ps.length:=by have:=congrArg Zf d;simpa using this
 refine QX j g (by lia) ?_;rw[i];exact⟨.int ps.length,H,(I.tok _).tok _,⟨_,rfl⟩,q⟩
noncomputable def FJ(K:X2):gz->Hp->VK->Prop:=λxs H Q=>∃a ps,xs=[V.ref a]/\H a=b4 (aM a ps)/\dB K H ps/\∀l,H l=b6->Q (.ref l) (upd H l (.lst (ps.map λp=>V.ref p.2.1)))
theorem QZ(hc:X.calm=b8):CallR X (.type "list") (FJ X.K):=by
 intro b0l s σ H O N Q I r h;obtain⟨a,ps,rfl,y,z,q⟩:=h;obtain⟨u,rfl,G⟩:=fQ r;cases G;obtain⟨E,A,n,K,g,d⟩:=rZ I y z;have M:n.size=ps.length:=by have:=congrArg Zf d;simpa using this
 refine PySem.W.kdl_call (QU E) (I.ok.hd hc) g (by lia) λL J b k B x c=>?_;refine⟨.ref s.heap.objs.size,_,I.laid (t':=J) (a:=s.heap.objs.size) (o:=.lst (ps.map λp=>V.ref p.2.1)) B (Yd _) ?_,rfl,q _ (I.hok.fresh (Yd _))⟩;refine⟨by rw[X3];exact A,b.toList,k,?_,by simpa using x⟩;have l:b.toList=ps.map λp=>Ye p.2.1:=by
  rw[<- d];refine a3h λi=>?_;rw[Yo,ZG,ZG];cases j:b[i]? with
  |some v=>obtain⟨e,o,w⟩:=c.2 i v j;rw[o,w];rfl|none=>
   have:b.size<=i:=by simpa using j
   rw[a5U (by rw[<- c.1];exact this)];rfl
 rw[l];exact FH ps
theorem Q0(n:Room k X.A)(j:QE X a ma)(l:QE X b mb)(h:lU b=b8):QE X (.Subscript a b pos) (aC aG ma mb):=
 m8 (QH n j l h) (D7 j l h) (gT λx y p r c=>by
  unfold aG at c;split at c
  .split at c
   .rename_i d hc;refine .inl ?_;simp only[rX,hc];exact c
   .rename_i d hc;refine .inl ?_;simp only[rX,hc];exact c
   .exact .inr c
  .exact .inr c)
noncomputable def pP(c:Bool):D->D->Hm->jk:=λx y d=>match rY c x y d with
 |some r=>b4 r|none=>m9 c x y d
theorem vM x y d r(h:pP c x y d=b4 r):rY c x y d=b4 r\/m9 c x y d=b4 r:=by
 unfold pP at h;split at h
 .rename_i z;rw[z];exact .inl h
 .exact .inr h
theorem FK x y n r(h:dA l x y n=b4 r):(∃i j,x=.str i/\y=.str j)\/pP l x y n=b4 r:=by
 cases y with
 |loc a=>
  refine .inr ?_;have e:dA l x (.loc a) n=(match n[a]? with
   |some (.dT d)=>(cN x).map λk=>(D.bl (if l then !(aT d k).isSome else(aT d k).isSome),n)|some (.dF d)=>(cN x).map λk=>(D.bl (if l then !(aT d k).isSome else(aT d k).isSome),n)
   |_=>m9 l x (.loc a) n):=by cases x<;>rfl
  rw[e]at h;unfold pP;simp only[rY];cases hc:n[a]? with
  |none=>rw[hc]at h;exact h|some c=>
   rw[hc]at h;cases c with
   |dT d=>dsimp only at h ⊢;rw[h]|dF d=>dsimp only at h ⊢;rw[h]|_=>exact h
 |str j=>
  cases x with
  |str i=>exact .inl ⟨i,j,rfl,rfl⟩|_=>exact .inr h
 |_=>cases x<;>exact .inr h
theorem FL x y c r(h:dA b7 x y c=b4 r):yV x y c=b4 r\/pP b7 x y c=b4 r:=by
 rcases FK x y c r h with⟨i,j,rfl,rfl⟩|z
 .exact .inl h
 .exact .inr z
theorem FN x y c r(h:dA b8 x y c=b4 r):zI x y c=b4 r\/pP b8 x y c=b4 r:=by
 rcases FK x y c r h with⟨i,j,rfl,rfl⟩|z
 .exact .inl h
 .exact .inr z
theorem Q1(j:Room k X.A)(c:QE X a ma)(d:QE X b mb)(h:eM b=b8):QE X (.Compare a [.In] [b] pos) (aC (dA b7) ma mb):=
 m8 ⟨fJ CH DN c.h d.h (iK h)⟩ (m8 ⟨fJ (FE (fV j)) vK c.h d.h (iK h)⟩ ⟨fJ (Ew (uP j)) uN c.h d.h (iK h)⟩ (gT vM)) (gT FL)
theorem Q2(j:Room k X.A)(c:QE X a ma)(d:QE X b mb)(h:eM b=b8):QE X (.Compare a [.NotIn] [b] pos) (aC (dA b8) ma mb):=
 m8 ⟨fJ C6 Ez c.h d.h (iK h)⟩ (m8 ⟨fJ (FF (fV j)) vK c.h d.h (iK h)⟩ ⟨fJ (Ey (uP j)) uN c.h d.h (iK h)⟩ (gT vM)) (gT FN)
theorem Q3(j:Room k X.A)(c:QE X a ma)(d:QE X b mb)(h:eM b=b8):QT X (.Compare a [.In] [b] pos) (aP (aC (dA b7) ma mb)):=
 oW ⟨fK CH DN c.h d.h (iK h)⟩ (oW ⟨fK (FE (fV j)) vK c.h d.h (iK h)⟩ ⟨fK (Ew (uP j)) uN c.h d.h (iK h)⟩ (oX (gT vM))) (oX (gT FL))
theorem Q4(j:Room k X.A)(c:QE X a ma)(d:QE X b mb)(h:eM b=b8):QT X (.Compare a [.NotIn] [b] pos) (aP (aC (dA b8) ma mb)):=
 oW ⟨fK C6 Ez c.h d.h (iK h)⟩ (oW ⟨fK (FF (fV j)) vK c.h d.h (iK h)⟩ ⟨fK (Ey (uP j)) uN c.h d.h (iK h)⟩ (oX (gT vM))) (oX (gT FN))
theorem Q5(n:Room k X.A)(l:QE X o mo)(j:QE X i mi)(d:QE X e me)(h:eN e=b8):QS X (.Assign [.Subscript o i tpos] e pos) (l8 mo mi me):=
 PY (QM n l j d h) (P2 l j d h) (P4 λx y z p r c=>by
  unfold rR at c;split at c
  .split at c
   .exact .inl c
   .exact .inr c
  .cases c)
noncomputable def Ab(K:X2)(a b:Addr):It:=
 ⟨λi H=>∃c d x y,SqL K H a c/\SqL K H b d/\c[i]?=b4 x/\d[i]?=b4 y,
   λi H z e=>∃p v u,z=.ref p/\H p=b6/\e=upd H p (.tup [v,u])/\(∀c,SqL K H a c->c[i]?=b4 v)/\∀d,SqL K H b d->d[i]?=b4 u,
   λi H=>∃c d,SqL K H a c/\SqL K H b d/\(c.length<=i\/d.length<=i)⟩
theorem Q6(G:ZipApart z A to n r a b):
  Turn Qc P w K (.Tuple es kx pt) (Ab K a b) [z,A,to,n,r] z (λi h=>IsZip h z A to .none/\IsPair h A (.ref n) (.ref r)/\(∃u v,IsPair h to u v)/\h.IsListIter n a i/\h.IsListIter r b i) where
 mem:=by simp
 obj:=λi h ⟨B,J,⟨u,v,M⟩,N,O⟩ c hc=>by
  have hc':c=z\/c=A\/c=to\/c=n\/c=r:=by simpa using hc
  rcases hc' with rfl|rfl|rfl|rfl|rfl
  .exact⟨_,B,λq e=>by
    have U:Zg _=a3s q:=e;cases U⟩
  .exact⟨_,J,λq e=>by
    have U:a3r _ _=a3s q:=e;cases U⟩
  .exact⟨_,M,λq e=>by
    have U:a3r _ _=a3s q:=e;cases U⟩
  .obtain⟨o,e1,c,d⟩:=N;exact⟨o,e1,λv e=>by rw[d]at e;cases e⟩
  .obtain⟨o,e1,c,d⟩:=O;exact⟨o,e1,λv e=>by rw[d]at e;cases e⟩
 keep:=λi h h' ⟨B,J,⟨u,v,M⟩,N,O⟩ k=>⟨k z (by simp) _ B,k A (by simp) _ J,⟨u,v,k to (by simp) _ M⟩,N.at λo e=>k n (by simp) o e,O.at λo e=>k r (by simp) o e⟩;item:=by
  intro X hP hw hK hc i b0l s σ H E I Z ⟨B,J,⟨u,v,M⟩,N,O⟩ hg;subst hP hw hK;obtain⟨xs,ys,x,y,hq,L,T,hy⟩:=hg;obtain⟨its,rv,p,hz⟩:=I.list hq;obtain⟨Y,Q,p2,hz2⟩:=I.list L;obtain⟨u1,fV,ru1⟩:=rv.get T;obtain⟨u2,hu2,ru2⟩:=Q.get hy;refine wpAny_pyNext_zip_item G B J M N O p.isList p2.isList (x:=u1) (y:=u2) (by simpa using fV) (by simpa using hu2) λh1 a1 a2 a3 a4 a5 a6 hk=>⟨_,rfl,wpAny_letOwnedTupleGo_zip a1 λh2 b1 l=>?_⟩;have ne:∀{c o},s.heap.get? c=b4 o->s.heap.objs.size≠c:=λe=>Zz (Yc e);have l4:∃o,s.heap.get? n=b4 o:=let⟨o,e,_⟩:=N;⟨o,e⟩;have l5:∃o,s.heap.get? r=b4 o:=let⟨o,e,_⟩:=O;⟨o,e⟩;have ht2:h2.get? s.heap.objs.size=b4 {cls:=.type "tuple",data:=.seq #[u1,u2]}:=(l.2 _ (ne B)).trans a5;have hfr:H s.heap.objs.size=none:=I.hok.fresh (Yd _);have g2':IsPair h2 A (.ref n) (.ref r):=(l.2 _ G.TIz).trans (hk _ _ G.TIz G.TITO G.TIi1 G.TIi2 J);refine⟨.ref s.heap.objs.size,upd H s.heap.objs.size (.tup [x,y]),?_,rfl,⟨s.heap.objs.size,x,y,rfl,hfr,rfl,λws hw=>by rw[I.list_inj hw hq];exact T,λws hw=>by rw[I.list_inj hw L];exact hy⟩,
   ⟨b1,g2',⟨_,_,(l.2 _ G.TOz).trans a2⟩,a3.extBut l.extBut G.i1z,a4.extBut l.extBut G.i2z⟩,λc R=>?_⟩
  .refine zV (s:=s) (h':=h2) (t':=s.toks) (ch:=[z,A,to,n,r]) I (λc oc R ec=>?_) Z (Yd _) ?_
   .have j:c≠z/\c≠A/\c≠to/\c≠n/\c≠r:=by simpa using R
    exact(l.2 c j.1).trans (hk c oc j.1 j.2.2.1 j.2.2.2.1 j.2.2.2.2 ec)
   .exact⟨by show(2:Nat)<=Yi;decide,[u1,u2],.cons ru1 (.cons ru2 .nil),_,ht2,rfl,0,rfl,rfl⟩
  .have j:c=z\/c=A\/c=to\/c=n\/c=r:=by simpa using R
   have hn:=(Z c R).1;rw[aN]
   .exact hn
   .rcases j with rfl|rfl|rfl|rfl|rfl
    .exact(ne B).symm
    .exact(ne J).symm
    .exact(ne M).symm
    .exact(ne l4.choose_spec).symm
    .exact(ne l5.choose_spec).symm
 done:=by
  intro X hP hw hK hc i b0l s σ H E I Z ⟨B,J,⟨u,v,M⟩,N,O⟩ hg;subst hP hw hK;obtain⟨xs,ys,hq,L,T⟩:=hg;obtain⟨its,rv,p,hz⟩:=I.list hq;obtain⟨Y,Q,p2,hz2⟩:=I.list L;have hl:=rv.length;have hl2:=Q.length;refine wpAny_pyNext_zip_end (I.ok.hd hc) G B J M N O p.isList p2.isList ?_ λh' eb=>⟨rfl,Ft (t':=s.toks) (ch:=[z,A,to,n,r]) I (λc o R e=>?_) Z⟩
  .rcases T with T|T
   .exact .inl (by simp;lia)
   .exact .inr (by simp;lia)
  .have j:c≠z/\c≠A/\c≠to/\c≠n/\c≠r:=by simpa using R
   exact eb c o j.1 j.2.2.1 j.2.2.2.1 j.2.2.2.2 e
 self:=λ_ _ _ _ _ ⟨B,_⟩ h=>a9i B h
noncomputable def r8(x y:D):eW:=λa i=>(a8 a x).bind λxs=>(a8 a y).map λys=>(xs[i]?).bind λd=>(ys[i]?).map λe=>.tup [d,e]
noncomputable def r9(ms:MA):MI:=λd c=>(ms d c).bind λp=>match p.1 with
 |[x,y]=>(eX p.2 x).bind λa=>(eX p.2 y).map λb=>(r8 x y,min a.length b.length+1,p.2)|_=>b6
theorem FP(R:Rp K π H k)(h:IsD K π k.length H v x)(l:eX k x=b4 xs):∃p,v=.ref p/\(∃vs,SqL K H p vs) /\
  ∀c a d,Ext π k.length H c a.length d->Rp K c d a->∀j,a8 a x=b4 j->∃i,SqL K d p i/\IsDs K c a.length d i j:=by
 obtain⟨p,vs,rfl,u,_⟩:=pI R h l;refine⟨p,rfl,⟨vs,u⟩,λc a d e o j n=>?_⟩;have s:eX a x=b4 j:=by
  cases x with
  |rol z=>exact n|loc b=>exact n|_=>cases l
 obtain⟨y,i,r,w,q⟩:=pI o (h.mono e) s;cases r;exact⟨i,w,q⟩
theorem Q7(R:Rp K π H n)(h:IsD K π n.length H v x)(h':IsD K π n.length H Y y)(hs:eX n x=b4 xs)(G:eX n y=b4 ys):
  ∃a b,v=.ref a/\Y=.ref b/\(∃L,SqL K H a L)/\(∃L,SqL K H b L)/\Wk K (Ab K a b) (r8 x y) π n.length H:=by
 obtain⟨a,rfl,qa,Q⟩:=FP R h hs;obtain⟨b,rfl,qb,T⟩:=FP R h' G;refine⟨a,b,rfl,rfl,qa,qb,λj c o i e k z=>?_,λj c o i d e k z=>?_⟩
 .obtain⟨p,B,z⟩:=X0.mp z;obtain⟨bs,E,z⟩:=X5.mp z;obtain⟨u,q,w⟩:=Q j c o e k p B;obtain⟨s,r,A⟩:=T j c o e k bs E;refine⟨u,s,q,r,?_⟩;rw[w.length,A.length];cases M:p[i]? with
  |none=>exact .inl (YV.mp M)|some d=>
   cases l:bs[i]? with
   |none=>exact .inr (YV.mp l)|some d'=>rw[M,l]at z;cases z
 .obtain⟨p,B,z⟩:=X0.mp z;obtain⟨bs,E,z⟩:=X5.mp z;obtain⟨d1',h3,z⟩:=X0.mp z;obtain⟨d2',h4,h5⟩:=X5.mp z;subst h5;obtain⟨u,q,w⟩:=Q j c o e k p B;obtain⟨s,r,A⟩:=T j c o e k bs E;obtain⟨Z,N,k1⟩:=w.get h3;obtain⟨w2,O,k2⟩:=A.get h4;refine⟨⟨u,s,Z,w2,q,r,N,O⟩,?_⟩;rintro y H2 ⟨t,v1,v2,rfl,hn,rfl,I,J⟩;have U:=I u q;have X:=J s r;rw[N]at U;rw[O]at X;cases U;cases X;obtain⟨l,R2⟩:=k.fresh (o:=.tup [Z,w2]) hn;exact⟨l,R2,.tup (.of bN) (.cons (k1.mono l) (.cons (k2.mono l) .nil))⟩
noncomputable def Q8(K:X2)(d:TA):TI:=λσ H R=>d σ H λvs c=>∃a b,vs=[.ref a,.ref b]/\(∃xs,SqL K c a xs)/\(∃ys,SqL K c b ys)/\R (Ab K a b) c
open PyProof.Rows in
theorem Q9{X:Cx}{a b:Expr}{B:TA}{p pos pt:ZL}{es:List Expr}{kx:Nat}(T:Gl X "zip") (Y:X.mg "zip"=b6) (Q:PA X [a,b] B)(hs:YJ [a,b] X.env=(b7,eval a X.env)::YJ [b] X.env)(u:(a0s pos (YJ [b] X.env)).any (·.1)=b7) :
  PI X (.Tuple es kx pt) (.Call (.Name "zip" p) [a,b] [] pos) (Q8 X.K B):=by
 intro j s E H R I h;refine a9h (fB I T Y Boot.«zip» (Zp (aJ (Q pos j s E H _ I h) λus d ⟨vs,x,i,r1,q1⟩=>?_) hs u));obtain⟨n,o,rfl,⟨ws,Z⟩,⟨ws2,r⟩,q⟩:=q1;cases r1 with
 |cons ru v=>
  cases v with
  |cons w v=>
   cases v;cases ru;cases w;obtain⟨its,rv,A,hz⟩:=i.list Z;obtain⟨z,rv2,l,hz2⟩:=i.list r;have la:n<d.heap.objs.size:=let⟨_,e,_⟩:=A.isList;Yc e;have lb:o<d.heap.objs.size:=let⟨_,e,_⟩:=l.isList;Yc e;refine call_zip_2 A.isList l.isList λO y K L M N hsz U=>a9i y ?_;have G:Inv X j E x {d with heap:=O}:=i.kept (t':=d.toks) U;have J:ZipApart (d.heap.objs.size+4) (d.heap.objs.size+2) (d.heap.objs.size+3) d.heap.objs.size (d.heap.objs.size+1) n o:=by have la':@LT.lt Nat _ n d.heap.objs.size:=la;have lb':@LT.lt Nat _ o d.heap.objs.size:=lb;constructor<;>(show @Ne Nat _ _;lia)
   refine⟨d.heap.objs.size+4,[d.heap.objs.size+4,d.heap.objs.size+2,d.heap.objs.size+3,d.heap.objs.size,d.heap.objs.size+1],_,_,x,rfl,G,Q6 J,⟨y,K,⟨_,_,L⟩,M,N⟩,λc hc=>?_,q⟩;have k:d.heap.objs.size<=c:=by simp only[YN,Z0,or_false]at hc;rcases hc with rfl|rfl|rfl|rfl|rfl<;>first|exact Nat.le_add_right _ _|exact Yd _
   exact i.fpOk k (i.hok.fresh k)
theorem Ra(d:Gl X "zip")(e:X.mg "zip"=b6)(q:QA X [a,b] ms n):QJT X (.Call (.Name "zip" p) [a,b] [] pos) (r9 ms):=⟨λes Z pt b0l s σ H R I hw=>by
 have h:=q.s;rw[YO,X4,YO,X4]at h;obtain⟨U,Y,Q,M,n',T,u,E,c,k⟩:=hw;obtain⟨⟨x,j⟩,A,c⟩:=X0.mp c;refine Q9 d e q.h (cX h.1) (by rw[cX h.2.1];rfl) b0l s σ H R I ⟨U,Y,Q,x,j,u,E,A,λl vs r z o i=>?_⟩;dsimp only at c;split at c
 .rename_i x y;obtain⟨xs,B,c⟩:=X0.mp c;obtain⟨ys,G,c⟩:=X5.mp c;cases c;cases i with
  |cons i N=>
   cases N with
   |cons J O=>cases O;obtain⟨v,w,rfl,rfl,K,L,W⟩:=Q7 o i J B G;exact⟨v,w,rfl,K,L,k l r _ z o W⟩
 .cases c⟩
theorem Rb:a0J (.type "tuple") "keys"=pure none:=by rw[a5R,a4c];kernel_rfl
theorem Rf(g:s.heap.get? a=b4 o)(j:o.cls=.type "tuple")(l:o.data=.seq xs k)(n:o.dict=b6)(hA:A.handled=b6)(q:∀h p,(∀b u,s.heap.get? b=b4 u->h.get? b=b4 u)->Q b6 {s with heap:=h,toks:=p}):Yl (Yv P w) A (a8c (.ref a) "keys") Q E s:=by
 obtain⟨c,v,r,G⟩:=o;dsimp only at j l n;subst j l n;obtain⟨z,y,x,p,B⟩:=s;have ty:∀d,(⟨z,y,x,d,B⟩:X7).TypeIs (.ref a) "tuple":=λ_=>⟨_,g,rfl⟩;have H:=sub_AttributeError;have I:=F.slot_tuple_getattribute.lookup;have J:=F.slot_tuple_getattribute.bind (.ref a);have K:=am_tuple_getattr_none;unfold a8c getAttrBy? getAttrBy;repeat (any_goals (first|assumption|exact ty _|((with_reducible show Yl _ _ (call (Y9 "tuple.__getattribute__") _ _) _ _ _);refine a4S F.slot_tuple_getattribute (ty _) am_entry_tuple_getattribute (F.args_tuple_getattribute_2 _ _) (meets_getattribute_miss_tuple a xs k G "keys" _ Rb (by decide +kernel)) ⟨g,hA,λh d e ne=>?_⟩)|wp_step))
 obtain⟨L,M,i⟩:=ne.there;show Yl _ _ (a8B _ _ _ _ b6 b7 b7) _ _ _;unfold a8B;repeat (any_goals (first|assumption|wp_step))
 exact q _ _ ne.of.keeps
theorem FQ:entryFor table "dict.update.loop"=b4 Builtin.«dict.update.loop»:=entryFor_of_tree (by kernel_rfl)
theorem vO:plainId "dict.update.loop"=true:=by decide +kernel
noncomputable def nN(ps:aZ):List (Addr×List Int×Addr×V)->aZ
 |[]=>ps|r::L=>nN (dJ ps r.2.1 r.2.2.1 r.2.2.2) L
theorem Rg{σ:St}{ps:aZ}(G:A.units<ZO)(I:Inv X b0l σ H s)(e:H d=b4 (aM d ps))(y:dB X.K H ps)(w:SqT X.K H b (k.map V.int))(hz:ps.length<Yi)(L:RelV v u)(h:∀j,Inv X b0l σ (upd H d (aM d (dJ ps k b v))) j->(∀c o,c≠d->s.heap.get? c=b4 o->j.heap.get? c=b4 o)->Q () j):Yl (Yv X.prog X.w) A (dictSet d (.ref b) u) Q E s:=by
 obtain⟨B,O,M,r,l⟩:=gY I (.of e) y;have J:(bG ps M).length<=Yi:=by have:=congrArg Zf (kX r);rw[X3,X3]at this;lia
 refine wpAny_dictSet_heap (hsz:=J) (show(a1s (a0P X.prog X.w)).room A from G) (jY I w) l λp i a=>h _ ?_ λc o hc e=>a.extBut c o hc e;obtain⟨N,K,n⟩:=vH r k b L;rw[n]at i;have x:∃q,p.get? d=b4 q:=let⟨q,_,_,z,_⟩:=i;⟨q,z⟩;exact t6 I (by rw[e];exact a1c) a x (rW B (by have:=rV ps k b v;lia) K i)
theorem sA{ps:aZ}(e:H d=b4 (aM d ps))(h:SqT K H b vs):SqT K (upd H d o) b vs:=by
 have ne:∀{u},H b=b4 u->(∀c,u≠aM d c)->b≠d:=λz f y=>by rw[y,e]at z;cases z;exact f ps rfl
 rcases h with(h|⟨a,h⟩)|h
 .exact .inl (.inl (by rw[aN (ne h λ_ z=>by cases z)];exact h))
 .exact .inl (.inr ⟨a,by rw[aN (ne h λ_ z=>by cases z)];exact h⟩)
 .exact .inr h
theorem Rh(h:dB K H ps)(i:SqT K H b (k.map V.int)):dB K H (dJ ps k b v):=by
 intro p a;unfold dJ at a;split at a
 .obtain⟨d,c,e⟩:=Yw.mp a;by_cases z:d.1=k
  .rw[if_pos z]at e;subst e;exact h d c
  .rw[if_neg z]at e;subst e;exact h d c
 .rcases YU.mp a with a|a
  .exact h p a
  .rw[YA.mp a];exact i
theorem FR:upd (upd H d o) d a=upd H d a:=by
 funext b;unfold upd;split
 .rfl
 .rfl
theorem Ri{Q:gw->X7->Prop}(h:a9g s.heap p xs)(q:Q xs.toList s):Yl (Yv P w) A (a4N (.ref p)) Q E s:=by obtain⟨o,g,c,n,a⟩:=h;have ty:s.TypeIs (.ref p) "tuple":=⟨o,g,c⟩;unfold a4N;refine X1 (a3c ty ?_);rw[if_pos (by decide)];unfold a2D;refine X1 (X1 (a4P g ?_));rw[a];exact Yb (Yb q)
theorem Rj{σ:St}(hh:A.handled=b6)(hu:A.in1.units<ZO):∀L i(ps:aZ)H s,Inv X b0l σ H s->H d=b4 (aM d ps)->dB X.K H ps->SqT X.K H t ys->ys.drop i=L.map (λr=>V.ref r.1)->
  (∀r∈L,SqT X.K H r.1 [.ref r.2.2.1,r.2.2.2]/\SqT X.K H r.2.2.1 (r.2.1.map V.int))->gN X b0l H it->s.heap.IsTupleIter it t i->ps.length+L.length<=Yi->
  (∀J,Inv X b0l σ (upd H d (aM d (nN ps L))) J->R (.ok (.ret .none)) J)->a1z (Yv X.prog X.w) A (.builtin "dict.update.loop" ⟨[.ref d,.ref it,a0F i,.none],[]⟩) R s:=by
 intro L;induction L with
 |nil=>
  intro i ps H s I e Q B hd E O st U q;obtain⟨h,rv,p,Y⟩:=I.tuple B;obtain⟨k,n,f2,v,w,y⟩:=O;have hl:=rv.length;have hlen:ys.length<=i:=by have:=congrArg Zf hd;simp at this;lia
  refine ZE FQ ?_;rw[Zd vO _];show Yl _ A.in1 (a0X (.ref it) >>= _) _ _ s;refine X1 (a7e hh st (show s.heap.IsTuple t h.toArray from p) (by simp;lia) λK eb=>?_);have l:Inv X b0l σ H {s with heap:=K}:=I.turned (t':=s.toks) (λb o M e=>eb b o M e) k n v w y;show Yl _ _ (a4t d [] >>= _) _ _ _;refine X1 (Yb (Yb (q _ ?_)));have:upd H d (aM d (nN ps []))=H:=by
   funext b;unfold upd;split
   .rename_i z;rw[z];exact e.symm
   .rfl
  rw[this];exact l
 |cons r L ih=>
  intro i ps H s I e Q B hd E O st U q;obtain⟨h,rv,p,Y⟩:=I.tuple B;obtain⟨k,n,f2,v,w,y⟩:=id O;have G:ys[i]?=b4 (.ref r.1):=by have:=congrArg (·[0]?) hd;simpa using this
  obtain⟨u,fV,ru⟩:=rv.get G;cases ru;refine ZE FQ ?_;rw[Zd vO _];show Yl _ A.in1 (a0X (.ref it) >>= _) _ _ s;refine X1 (a6R st (show s.heap.IsTuple t h.toArray from p) (x:=.ref r.1) (by simpa using fV) λK st' sb=>?_);have l:Inv X b0l σ H {s with heap:=K}:=I.turned (t':=s.toks) (λb o M e=>(sb.2 b M).trans e) k n v w y;have a:=E r (YQ ..);obtain⟨its2,rv2,p2,_⟩:=l.tuple a.1;cases rv2 with
  |cons rk Z=>
   cases Z with
   |cons rw' Z=>
    cases Z;cases rk;rename_i w0;refine X1 (YS (X1 (a0m (Ri p2 ?_))));have T:ps.length<Yi:=by rw[YB]at U;lia
    refine YS (Rg hu l e Q a.2 T rw' λJ I2 kp=>?_);refine Yb ⟨ZW vO _,?_⟩;have aW:it≠d:=λz=>by rw[<- z,k]at e;cases e
    have c:∀x∈L,SqT X.K (upd H d (aM d (dJ ps r.2.1 r.2.2.1 r.2.2.2))) x.1 [.ref x.2.2.1,x.2.2.2]/\SqT X.K (upd H d (aM d (dJ ps r.2.1 r.2.2.1 r.2.2.2))) x.2.2.1 (x.2.1.map V.int):=λx G=>⟨sA e (E x (YK _ G)).1,sA e (E x (YK _ G)).2⟩;have N:ys.drop (i+1)=L.map (λr=>V.ref r.1):=by have:=congrArg List.tail hd;simpa[List.tail_drop]using this
    refine ih (i+1) (dJ ps r.2.1 r.2.2.1 r.2.2.2) _ J I2 bN (Rh (λp hp=>sA e (Q p hp)) (sA e a.2)) (sA e B) N c ⟨by rw[aN aW];exact k,n,f2,v,w,y⟩ (st'.at λo ho=>kp it o aW ho) ?_ λs'' j=>q s'' ?_
    .have:=rV ps r.2.1 r.2.2.1 r.2.2.2;rw[YB]at U;lia
    .rw[FR]at j;exact j
noncomputable def FT(K:X2):gz->Hp->VK->Prop:=λxs H Q=>∃(t:Addr)(L:List (Addr×List Int×Addr×V)),xs=[V.ref t]/\SqT K H t (L.map λr=>V.ref r.1) /\
 (∀r∈L,SqT K H r.1 [.ref r.2.2.1,r.2.2.2]/\SqT K H r.2.2.1 (r.2.1.map V.int))/\∀d,H d=b6->Q (.ref d) (upd H d (aM d (nN [] L)))
theorem Rk(hc:X.calm=b8)(Z:X.A.units+64<ZO):CallR X (.type "dict") (FT X.K):=by
 intro d s O H xs us Q I r h;obtain⟨t,L,rfl,x,N,k⟩:=h;obtain⟨u,rfl,ru⟩:=fQ r;cases ru;have M:H s.heap.objs.size=none:=I.hok.fresh (Yd _);refine a6n (Q₁:=λj c=>j=.ref s.heap.objs.size/\c={s with heap:=s.heap.push {cls:=.type "dict",data:=.dict #[]}}) F.kt_called_dict (F.kt_typeCall_dict_1 _) F.entry_dict_init (kt_code_dict_new _ ⟨rfl,rfl⟩) ?_;rintro j c ⟨rfl,rfl⟩;have G:Inv X d O (upd H s.heap.objs.size (aM s.heap.objs.size [])) {s with heap:=s.heap.push {cls:=.type "dict",data:=.dict #[]}}:=I.laid (a:=s.heap.objs.size) (o:=aM s.heap.objs.size []) (t':=s.toks) (λ_ _ q=>X6 _ q) (Yd _) (FC s.heap I.big);have ty:({s with heap:=s.heap.push {cls:=.type "dict",data:=.dict #[]}}:X7).TypeIs (.ref s.heap.objs.size) "dict":=⟨_,Yh _ rfl,rfl⟩;refine⟨ty,F.args_dict_init_2 _ _,?_⟩;unfold Builtin.«dict.__init__»;refine X1 ?_;unfold a4s;refine X1 (a1u ty ?_);show Yl _ _ (pure (s.heap.objs.size,[Ye t])) _ _ _;refine Yb ?_;show Yl _ _ (a1x "dict.__init__" s.heap.objs.size (.ref t) [] .none) _ _ _;unfold a1x;have mono:∀{b:Addr}{vs:gz},SqT X.K H b vs->SqT X.K (upd H s.heap.objs.size (aM s.heap.objs.size [])) b vs:=λ{b vs} z=>by
  have ne:H b≠b6->b≠s.heap.objs.size:=λf y=>by rw[y]at f;exact f M
  rcases z with(z|⟨B,z⟩)|z
  .exact .inl (.inl (by rw[aN (ne (by rw[z];exact λy=>nomatch y))];exact z))
  .exact .inl (.inr ⟨B,by rw[aN (ne (by rw[z];exact λy=>nomatch y))];exact z⟩)
  .exact .inr z
 obtain⟨its,rv,B,J,K,n,T,U⟩:=G.tupN (mono x);refine X1 (a3c ⟨B,J,K⟩ ?_);rw[if_pos (by decide)];refine X1 (Rf J K T U (I.ok.hd hc) λw v kp=>?_);have l:Inv X d O (upd H s.heap.objs.size (aM s.heap.objs.size [])) {s with heap:=w,toks:=v}:=G.kept (t':=v) kp;show Yl _ _ (rule _ >>= _) _ _ _;refine X1 (a1K ?_);obtain⟨a,rv',p',A⟩:=l.tuple (mono x);refine X1 (a1l (t:=t) (items:=a.toArray) (show({s with heap:=w,toks:=v}:X7).heap.IsTuple t a.toArray from p') ?_);have R:=l.kept (t':=v) (h':=w.push {cls:=.type "tuple_iterator",data:=.fields #[.ref t,.int 0 0]}) λb o e=>X6 _ e;refine Yb ⟨ZW vO _,?_⟩;refine Rj (A:=X.A.in1) (I.ok.hd hc) ?_ L 0 [] _ _ R bN (λp Y=>nomatch Y) (mono x) rfl (λr i=>⟨mono (N r i).1,mono (N r i).2⟩) (l.fpOk (Yd _) (l.hok.fresh (Yd _))) ⟨_,Yh _ rfl,rfl,rfl⟩ ?_ λs' E=>?_
 .show X.A.units+1+1<ZO;lia
 .have:=A;simp at this ⊢;exact this
 .rw[FR]at E;exact⟨rfl,.ref s.heap.objs.size,_,E,rfl,k _ M⟩
noncomputable def pQ:List D->Option (jx)
 |[]=>b4 []|.tup [x,v]::r=>(cN x).bind λk=>(pQ r).map λl=>(k,v)::l|_::_=>b6
noncomputable def nO:MF:=λds a=>match ds with
 |[.tup xs]=>(pQ xs).map λl=>(.loc a.length,a++[.dT (l.foldl (λq p=>bS q p.1 p.2) [])])|_=>b6
noncomputable abbrev FU(K:X2)(π:Nat->Addr)(n:Nat)(H:Hp):List (Addr×List Int×Addr×V)->jx->Prop:=
 a2G λr p=>r.2.1=p.1/\SqT K H r.1 [.ref r.2.2.1,r.2.2.2]/\SqT K H r.2.2.1 (r.2.1.map V.int)/\IsD K π n H r.2.2.2 p.2
theorem FV:∀{xs}{ws}{l},IsDs K π n H ws xs->pQ xs=b4 l->∃L,ws=L.map (λr=>V.ref r.1)/\FU K π n H L l
 |[],_,_,.nil,h=>by cases h;exact⟨[],rfl,.nil⟩
 |x::xs,_,l,.cons i t,h=>by
  unfold pQ at h;split at h
  .rename_i a;cases a
  .rename_i y v r a;cases a;obtain⟨k,d,h⟩:=X0.mp h;obtain⟨p,e,rfl⟩:=X5.mp h;obtain⟨L,rfl,P⟩:=FV t e;cases i with
   |tup q z=>
    cases z with
    |cons j z=>
     cases z with
     |cons o z=>cases z;obtain⟨b,rfl,c⟩:=mD j d;exact⟨(_,k,b,_)::L,rfl,.cons ⟨rfl,q,c,o⟩ P⟩
  .cases h
theorem FW:∀{L}{l},FU K π n H L l->∀{ps}{kvs},IsTs K π n H ps kvs->IsTs K π n H (nN ps L) (l.foldl (λq p=>bS q p.1 p.2) kvs)
 |_,_,.nil,_,_,h=>h|r::L,p::l,.cons e t,ps,kvs,h=>by obtain⟨a,_,b,c⟩:=e;show IsTs K π n H (nN (dJ ps r.2.1 r.2.2.1 r.2.2.2) L) (l.foldl _ (bS kvs p.1 p.2));rw[<- a];exact FW t (h.put r.2.1 b c)
theorem Rl:dQ K nO (FT K):=by
 intro y H x s d u w Q R i a k;unfold nO at a;split at a
 .rename_i s;obtain⟨l,c,n⟩:=X5.mp a;cases n;cases i with
  |cons i t=>
   cases t;cases i with
   |tup q z=>
    obtain⟨L,rfl,P⟩:=FV z c;refine⟨_,L,rfl,q,?_,λd hd=>?_⟩
    .clear q z k a c;induction P with
     |nil=>exact λr b=>nomatch b|cons e t o=>
      intro r b;rcases YN.mp b with rfl|b
      .exact⟨e.2.1,e.2.2.1⟩
      .exact o r b
    .have T:=FW P (ps:=[]) (kvs:=[]) .nil;obtain⟨j,h,v⟩:=R.alloc (c:=.dT (l.foldl (λq p=>bS q p.1 p.2) [])) (o:=aM d (nN [] L)) hd ⟨_,rfl,T.to.1,T.to.2.1,T.to.2.2⟩;exact k _ _ _ j h iX
 .cases a
noncomputable def ItI(h:Y5)(c d S:Addr)(i n ep:Nat):Prop:=∃(b ok j:Value)(e:Bool),h.get? c=b4 {cls:=.type "dict_itemiterator",dict:=b6,data:=.fields #[b,.bool e,.ref d,.int i 0,.int n 0,.int ep 0,ok,j],slots:=#[]} /\
 (b=.none\/∃(a:Addr)(o:Obj),b=a0F a/\h.get? a=b4 o/\a≠c/\a≠S)
theorem ItI.stay{i n ep}(j:ItI h c d S i n ep)(q:c≠S)(k:∀b o,b≠S->h.get? b=b4 o->h'.get? b=b4 o):ItI h' c d S i n ep:=by
 obtain⟨x,ok,s,p,e,r⟩:=j;refine⟨x,ok,s,p,k _ _ q e,?_⟩;rcases r with r|⟨a,o,u,v,w,l⟩
 .exact .inl r
 .exact .inr ⟨a,o,u,k _ _ l v,w,l⟩
theorem Ac{i ep:Nat}(hh:A.handled=b6)(B:s.heap.get? it=b4 {cls:=.type "dict_itemiterator",dict:=b6,data:=.fields #[p,.bool M,.ref d,.int i 0,.int es.size 0,.int ep 0,ok,H],slots:=#[]})(jr:p=.none\/∃(a:Addr)(o:Obj),p=a0F a/\s.heap.get? a=b4 o/\a≠it/\a≠S)(g:RawD s.heap d es ep)(hS:S<s.heap.objs.size)(q1:∀e j,es[i]?=b4 e->ItI j it d S (i+1) es.size ep->(p=.none->a4M j it d (i+1) es.size ep e.key e.val s.heap.objs.size)->j.get? s.heap.objs.size=b4 {cls:=.type "tuple",data:=.seq #[e.key,e.val]}->j.objs.size=s.heap.objs.size+1->(∀b o,b≠it->s.heap.get? b=b4 o->j.get? b=b4 o)->Q (b4 (.ref s.heap.objs.size)) {s with heap:=j})(q2:es[i]?=b6->∀j,a3i it s.heap j->Q b6 {s with heap:=j}):Yl (Yv P w) A (a0X (.ref it)) Q E s:=by
 obtain⟨z,g1,g2,g3⟩:=id g;have ty:s.TypeIs (.ref it) "dict_itemiterator":=⟨_,B,rfl⟩;obtain⟨c,y,r,I,G⟩:=s;have U:∀{Q:String->X7->Prop}{A:YI}{E:Value->X7->Prop},Q "dict_itemiterator" ⟨c,y,r,I,G⟩->Yl (Yv P w) A (a9A (.ref it)) Q E ⟨c,y,r,I,G⟩:=λq=>wpAny_typeNameOfWhole_itemiter ty q;unfold a0X;refine X1 (a6J (a3L (name:=Z7 "__next__") ty F.slot_dict_itemiterator_next (a0b F.slot_dict_itemiterator_next ty F.entry_dict_itemiterator_next ?_ (F.args_dict_itemiterator_next_1 _))));refine X1 (Yb (X1 (X1 (X1 (U (Yb (X1 (b0b B rfl ?_))))))));simp only[show a1P "dict_itemiterator"=b8 by decide,if_true];show Yl _ _ (if(Ye d==Y3)=b8 then _ else _) _ _ _;rw[if_neg (show ¬ (Ye d==Y3)=b8 from λx=>Yj x)];refine X1 (Yb (X1 (ZY g1 g3 ?_)));rw[if_neg (λx=>by simp at x)];refine X1 (Yb (X1 (a2f g1 g3 ?_)));rw[if_neg (λx=>by simp at x)];refine Yb ?_;simp only[if_neg (show ¬ ((i:Int)<0) by lia),a0k];have T:it<c.objs.size:=Yc B;cases he:es[i]? with
 |some e=>
  refine X1 (X1 (U (Yb (X1 (a3U ty ?_)))));show Yl _ _ (a6h (.ref it) 3 (a0F ((i:Int)+1)) >>= _) _ _ _;refine X1 (a1k B (by simp) λu O R=>?_);replace R:a0i it c u:=R;replace O:u.get? it=b4 {cls:=.type "dict_itemiterator",dict:=b6,data:=.fields #[p,.bool M,.ref d,.int ((i+1:Nat):Int) 0,.int es.size 0,.int ep 0,ok,H],slots:=#[]}:=by rw[show((i+1:Nat):Int)=(i:Int)+1 by lia];simpa[a0F]using O
  have J:Shared.TypeIs ⟨u,y,r,I,G⟩ (.ref it) "dict_itemiterator":=⟨_,O,rfl⟩;refine X1 (YS (X1 (a3U J (X1 (a3U J ?_)))));show Yl _ _ (a3l (.ref it) 6 e.key e.val) _ _ _;unfold a3l;refine X1 (a6d ?_);have zu:u.objs.size=c.objs.size:=R.1;have k:=X6 {cls:=.type "tuple",data:=.seq #[e.key,e.val]} O;have Z:(u.push {cls:=.type "tuple",data:=.seq #[e.key,e.val]}).get? c.objs.size=b4 {cls:=.type "tuple",data:=.seq #[e.key,e.val]}:=zu▸Yh u rfl;have vz:(u.push {cls:=.type "tuple",data:=.seq #[e.key,e.val]}).objs.size=c.objs.size+1:=by rw[ZZ,zu]
  have K:∀b o,b≠it->c.get? b=b4 o->(u.push {cls:=.type "tuple",data:=.seq #[e.key,e.val]}).get? b=b4 o:=λb o N x=>X6 _ (R.extBut b o N x);show Yl _ _ (a2Z (.ref it) >>= _) _ _ ⟨u.push {cls:=.type "tuple",data:=.seq #[e.key,e.val]},y,r,I,G⟩;rw[zu];generalize u.push {cls:=.type "tuple",data:=.seq #[e.key,e.val]}=v at k Z vz K;have h:c.objs.size≠it:=Zz T;have fin:∀l:Y5,ItI l it d S (i+1) es.size ep->(p=.none->a4M l it d (i+1) es.size ep e.key e.val c.objs.size)->a0i it v l->Q (b4 (.ref c.objs.size)) ⟨l,y,r,I,G⟩:=λl j' jo Y=>q1 e l he j' jo (Y.extBut _ _ h Z) (by show l.objs.size=_;rw[Y.1,vz]) λb o N x=>Y.extBut b o N (K b o N x);refine X1 ?_;unfold a2Z;rcases jr with rfl|⟨a,o,rfl,X,n,r4⟩
  .refine X1 (a0a k rfl (x:=.none) rfl (Yb ?_));simp only[if_true];refine X1 (a0a k rfl (x:=ok) rfl (X1 (a0a k rfl (x:=H) rfl ?_)));refine X1 (a1k k (by simp) λv3 x3 L=>X1 (a1k x3 (by simp) λv4 x4 y4=>X1 (a1k x4 (by simp) λv5 x5 y5=>X1 (a1k x5 (by simp) λv6 x6 y6=>?_))));have x7:a4M v6 it d (i+1) es.size ep e.key e.val c.objs.size:=x6;refine X1 (a0x (Yb (Yb ⟨_,rfl,Yb (fin v6 ?_ (λ_=>x7) ?_)⟩)))
   .refine⟨a0F c.objs.size,e.key,e.val,b7,x7,.inr ⟨c.objs.size,_,rfl,y6.extBut _ _ h (y5.extBut _ _ h (y4.extBut _ _ h (L.extBut _ _ h Z))),h,Zz hS⟩⟩
   .exact((L.trans y4).trans y5).trans y6
  .refine X1 (a0a k rfl (x:=a0F a) rfl ?_);show Yl _ _ (loadIfAlive ((a:Int).toNat) >>= _) _ _ _;rw[a0k];refine X1 (PySem.W.kdx_alive (K a o n X) ?_);simp only[Option.isNone_some,YH,if_false];refine X1 (a0a k rfl (x:=.bool M) rfl ?_);cases M with
   |true=>rw[if_neg (show ¬ ((Z3 b8 != Z3 b8)=b8)from λx=>Yj x)];refine Yb ?_;simp only[YH,if_false];exact Yb (Yb ⟨_,rfl,Yb (fin v ⟨_,ok,H,b8,k,.inr ⟨a,o,rfl,K a o n X,n,r4⟩⟩ (λz=>nomatch z) (a2x _ _))⟩)|false=>rw[if_pos (show(Z3 b7 != Z3 b8)=b8 from rfl)];refine X1 (a1k k (by simp) λv3 x3 L=>Yb ?_);simp only[YH,if_false];exact Yb (Yb ⟨_,rfl,Yb (fin v3 ⟨_,ok,H,b8,by simpa using x3,.inr ⟨a,o,rfl,L.extBut a o n (K a o n X),n,r4⟩⟩ (λz=>nomatch z) L)⟩)
 |none=>refine X1 (X1 (U (Yb ?_)));show Yl _ _ (a6h (.ref it) 2 .none >>= _) _ _ _;refine X1 (a1J B rfl (by simp) ?_);show Yl _ _ (a7n (.type "StopIteration") [] >>= _) _ _ _;simp only[a7n,a6i];refine X1 (X1 (Zi ?_ (by size_fits)));refine X1 (m:=a2n _ _) (a4i (a:=Y3) (by first|rfl|(simp only[a2n];rfl)) (Zi ?_ (by size_fits)));simp only[b0g];refine X1 (a6H ?_);rw[show A.in1.handled=b6 from hh];refine X1 (Yb (a7V ?thrown));case thrown=>exact X1 (a1Q (T:="StopIteration") (b:=b8) ⟨_,Yh _ rfl,rfl⟩ a6k (Yb (q2 he _ (((Zo ..).extBut.push _).push _))))
theorem FX(a:s.heap.IsItemsView r d)(g:RawD s.heap d es ep)(q:Q (.ref s.heap.objs.size) {s with heap:=s.heap.push {cls:=.type "dict_itemiterator",data:=.fields #[.none,.bool b7,.ref d,.int 0 0,.int es.size 0,.int ep 0,.none,.none]}}):Yl (Yv P w) A (a5A (.ref r)) Q E s:=by
 obtain⟨y,e,k,h⟩:=id a;obtain⟨z,b,j,c⟩:=id g;refine a8O a.typeIs F.slot_dict_items_iter (a0b F.slot_dict_items_iter a.typeIs F.entry_dict_items_iter ?_ (F.args_dict_items_iter_1 _));unfold Builtin.«dict_items.__iter__» a7T a7S;refine X1 (Yb (X1 (X1 (a0a e h (x:=.ref d) rfl (Yb (X1 (X1 (ZY b c (X1 (a2f b c ?_))))))))));simp only[show a1P "dict_itemiterator"=b8 by decide,if_true];refine Zi (Yb ⟨_,rfl,"dict_itemiterator",_,⟨_,Yh _ rfl,rfl⟩,F.slot_dict_itemiterator_next.lookup,?_⟩) (by simp only[sizeOk,a3a,Ys,Yr,YB,a1g];rw[Yz];lia);simpa[a0F,a3a]using q
structure PrsAt(es:Array DictEntry)(lo:Addr)(h:Y5)(as:List Addr):Prop where
 up:as.Pairwise (·<·)
 over:∀a∈as,lo<a
 prs:∀(j:Nat)(a:Addr),as[j]?=b4 a->∃e,es[j]?=b4 e/\h.get? a=b4 {cls:=.type "tuple",data:=.seq #[e.key,e.val]}
theorem PrsAt.stay(p:PrsAt es lo h as)(k:∀b o,lo<b->h.get? b=b4 o->h'.get? b=b4 o):PrsAt es lo h' as:=
 ⟨p.up,p.over,λj a c=>let⟨e,d,i⟩:=p.prs j a c;⟨e,d,k a _ (p.over a (Ze c)) i⟩⟩
theorem PrsAt.lt{es:Array DictEntry}{lo:Addr}{h:Y5}{as:List Addr}(p:PrsAt es lo h as){a:Addr}(b:a∈as):a<h.objs.size:=by obtain⟨j,c⟩:=a0G.mp b;obtain⟨_,_,e⟩:=p.prs j a c;exact Yc e
theorem PrsAt.snoc(p:PrsAt es lo h as)(l:∀a∈as,a<b)(o:lo<b)(n:es[as.length]?=b4 e)(q:h.get? b=b4 {cls:=.type "tuple",data:=.seq #[e.key,e.val]}):PrsAt es lo h (as++[b]):=by
 refine⟨List.pairwise_append.mpr ⟨p.up,List.pairwise_singleton _ _,λa d c hc=>by rw[YA.mp hc];exact l a d⟩,λa d=>?_,λj a i=>?_⟩
 .rcases YU.mp d with d|d
  .exact p.over a d
  .rw[YA.mp d];exact o
 .rcases a4z j as.length with k|k|k
  .rw[Y8 k]at i;exact p.prs j a i
  .subst k;have:b=a:=by simpa using i
   subst this;exact⟨e,n,q⟩
  .rw[ZS (by simp;lia)]at i;cases i
theorem Rm{s:X7}(Q:A.handled=b6)(u:S<I)(H:d≠S)(G:d≠I)(hn:es.size<=Yi)res{h1:Y5}(T:∀h' tk acc c as,(∀b o,b≠S->b≠I->h1.get? b=b4 o->h'.get? b=b4 o)->h'.get? S=b4 {cls:=.type "list",dict:=b6,data:=.seq acc c,slots:=#[]}->as.length=es.size->PrsAt es I h' as->acc.toList=as.map Ye->R (.ok (.ret res)) {s with heap:=h',toks:=tk}):
  ∀k i h tk c acc as,es.size-i=k->i<=es.size->ItI h I d S i es.size ep->RawD h d es ep->(∀b o,b≠S->b≠I->h1.get? b=b4 o->h.get? b=b4 o)->h.get? S=b4 {cls:=.type "list",dict:=b6,data:=.seq acc c,slots:=#[]}->
   acc.toList=as.map Ye->as.length=i->PrsAt es I h as->I<h.objs.size->a1z (Yv P w) A (.builtin "list.extend.loop" ⟨[.ref S,.ref I,res],[]⟩) R {s with heap:=h,toks:=tk}:=by
 have ne:S≠I:=Yn u;intro k;induction k with
 |zero=>intro i h tk c acc as X U ⟨_,_,_,_,L,M⟩ g N n B v E lt;refine ZE F.entry_extend_loop ?_;rw[Zd F.plain_extend_loop _];refine X1 (m:=a0X (.ref I)) (Ac (s:={s with heap:=h,toks:=tk}) (A:=A.in1) Q L M g (Yc n) (λe h' l=>?_) λ_ h' x=>Yb (T h' tk acc c as (λb o y q z=>x b o q (N b o y q z)) (x S _ ne n) (by lia) (E.stay λb o p z=>x b o (Zz p) z) B));rw[a5U (by lia)]at l;cases l|succ k Z=>
  intro i h tk c acc as X U ⟨_,_,_,_,L,M⟩ g N n B v E lt;have sz:acc.size=i:=by rw[<- a0j,B,X3,v]
  refine ZE F.entry_extend_loop ?_;rw[Zd F.plain_extend_loop _];refine X1 (m:=a0X (.ref I)) (Ac (s:={s with heap:=h,toks:=tk}) (A:=A.in1) Q L M g (Yc n) (λe h' l j' _ K Y j=>?_) λl=>?_)
  .dsimp only at K Y j ⊢;have r:=j S _ ne n;have O:S<h.objs.size:=Yc n;have up:∀b o,b≠S->h'.get? b=b4 o->(h'.update S (Y7 (·.push (Ye h.objs.size)))).get? b=b4 o:=λb o p z=>(YF _ _ (YW p)).trans z;refine X1 (m:=a2k S (·.push (Ye h.objs.size))) (ZT r rfl (Yb ⟨ZW F.plain_extend_loop _,?_⟩) (by rw[sz];lia) (by show(acc.push (Ye h.objs.size)).size<=Yi+1;rw[Array.size_push,sz];lia));refine Z (i+1) _ tk _ (acc.push (Ye h.objs.size)) (as++[h.objs.size]) (by lia) (by lia) (j'.stay (YW ne) up) (g.stay λo z=>up d o H (j d o G z)) (λb o y q z=>up b o y (j b o q (N b o y q z))) (YM _ r rfl) (by rw[Array.toList_push,B,YC];rfl) (by rw[Yr,v];rfl) ?_ ?_
   .exact((E.stay λb o p z=>up b o (Zz (a4A u p)) (j b o (Zz p) z))).snoc (λa J=>E.lt J) lt (by rw[v];exact l) (up _ _ (Zz O) K)
   .exact a4A lt (Yc (up _ _ (Zz O) K))
  .rw[a3b (by lia)]at l;cases l
theorem FY(K:A.handled=b6)(q:s.heap.IsItemsView r d)(g:RawD s.heap d es ep)(E:S≠r)(y:d≠S)(B:s.heap.get? S=b4 {cls:=.type "list",data:=.seq #[] c0})(M:es.size<=Yi)(H:∀h' tk acc c as,(∀b o,b≠S->s.heap.get? b=b4 o->h'.get? b=b4 o)->h'.get? S=b4 {cls:=.type "list",dict:=b6,data:=.seq acc c,slots:=#[]}->as.length=es.size->PrsAt es s.heap.objs.size h' as->acc.toList=as.map Ye->R (.ok (.ret res)) {s with heap:=h',toks:=tk}):
  Yl (Yv P w) A.in1 (ZC (.ref S) (.ref r) res) (λfin n=>match fin with|.done f=>R (.ok f) n|.again c'=>c'.quiet=b8/\a1z (Yv P w) A c' R n) (λe n=>R (.error e) n) s:=by
 have x:S<s.heap.objs.size:=Yc B;have G:d<s.heap.objs.size:=g.lt;have run:∀(h:Y5)(p tk:Nat),(∀b o,b≠S->(s.heap.push {cls:=.type "dict_itemiterator",data:=.fields #[.none,.bool b7,.ref d,.int 0 0,.int es.size 0,.int ep 0,.none,.none]}).get? b=b4 o->h.get? b=b4 o)->h.get? S=b4 {cls:=.type "list",data:=.seq #[] p}->
   a1z (Yv P w) A (.builtin "list.extend.loop" ⟨[.ref S,.ref s.heap.objs.size,res],[]⟩) R {s with heap:=h,toks:=tk}:=by
  intro h p tk u i;have z:=u s.heap.objs.size _ (Zz x) (Yh _ rfl);exact Rm (s:=s) (h1:=s.heap) (ep:=ep) K x y (Yn G) M res (λh' v acc c as O Q T U X=>H h' v acc c as (λb o k e=>O b o k (Yn (Yc e)) e) Q T U X) es.size 0 h tk p #[] [] (a6y _) (a0l _)
   ⟨.none,.none,.none,b7,z,.inl rfl⟩ (g.stay λo e=>u d o y (X6 _ e)) (λb o k _ e=>u b o k (X6 _ e)) i rfl rfl ⟨a5u,λ_ J=>(by cases J),λj a L=>(by simp at L)⟩ (Yc z)
 unfold ZC;refine X1 (a3c (T:="dict_items") q.typeIs ?_);simp only[show a1p (.ref S) (.ref r)=b7 by simp[a1p,E],show(Yq "dict_items"==Yq "list")=b7 by decide,show(Yq "dict_items"==Yq "tuple")=b7 by decide,a4f,YH,if_false];refine X1 (FX q g ?_);have i:=X6 {cls:=.type "dict_itemiterator",data:=.fields #[.none,.bool b7,.ref d,.int 0 0,.int es.size 0,.int ep 0,.none,.none]} B;refine X1 (YS (PySem.W.kdx_hint (let⟨o,N,hc,_⟩:=q;⟨o,X6 _ N,hc⟩) ?_));refine a1r (λ_=>?_) (λ_=>Yb ⟨ZW F.plain_extend_loop _,run _ c0 _ (λb o _ e=>e) i⟩);refine X1 (a1K (X1 ?_));refine X1 (m:=a2k S (·.push .none)) (ZT i rfl ?_);have l:=YM (Y7 (·.push Y3)) i rfl;refine ZT (hz:=by seq_fits) l rfl (Yb ⟨ZW F.plain_extend_loop _,run _ _ _ (λb o k e=>?_) (YM (Y7 (·.pop)) l rfl)⟩);exact(YF _ _ (YW k)).trans ((YF _ _ (YW k)).trans e)
theorem Rn{T:gw->X7->Prop}(G:A.handled=b6)(u:s.heap.IsItemsView r d)(g:RawD s.heap d es ep)(H:es.size<=Yi)(q:∀h' tk as,(∀b o,s.heap.get? b=b4 o->h'.get? b=b4 o)->as.length=es.size->PrsAt es s.heap.objs.size h' as->s.heap.objs.size<=h'.objs.size->T (as.map Ye) {s with heap:=h',toks:=tk}):Yl (Yv P w) A (collect (.ref r)) T E s:=by
 have J:r<s.heap.objs.size:=let⟨_,n,_⟩:=u;Yc n
 unfold collect
 refine X1 (b0a (ZE a9J ?_))
 rw[Zd F.plain_proto_collect _]
 refine X1 (m:=newList []) (Zi (Yb ⟨ZW F.plain_list_iadd _,ZE a9K ?_⟩))
 rw[Zd F.plain_list_iadd _]
 have z:(s.heap.push {cls:=.type "list",data:=.seq ([]:gw).toArray}).get? s.heap.objs.size=b4 {cls:=.type "list",data:=.seq #[]}:=Yh _ rfl
 have all:=FY (A:=A) (s:={s with heap:=s.heap.push {cls:=.type "list",data:=.seq ([]:gw).toArray}}) (P:=P) (w:=w) (es:=es) (ep:=ep) (res:=.ref s.heap.objs.size) (c0:=0)
  (R:=λ(q:a4m)(p:X7)=>∃(h':Y5)(tk:Nat)(acc:Array Value)(c:Nat)(as:List Addr),q=.ok (.ret (.ref s.heap.objs.size))/\p={s with heap:=h',toks:=tk}/\(∀b o,s.heap.get? b=b4 o->h'.get? b=b4 o)/\h'.get? s.heap.objs.size=b4 {cls:=.type "list",dict:=b6,data:=.seq acc c,slots:=#[]}/\as.length=es.size/\PrsAt es s.heap.objs.size h' as/\acc.toList=as.map Ye)
  G (let⟨o,n,x⟩:=u;⟨o,X6 _ n,x⟩) (g.stay λo e=>X6 _ e) (Zz J) (Yn g.lt) z H
  (λh' tk acc c as j h k i l=>⟨h',tk,acc,c,as,rfl,rfl,λb o e=>j b o (Yn (Yc e)) (X6 _ e),h,k,⟨i.up,λa B=>a4A (Z9 _) (by have:=i.over a B;rw[ZZ]at this;exact this),i.prs⟩,l⟩)
 refine Y1 all (λfin p x=>?_) λe p x=>?_
 .cases fin with
  |done f=>
   obtain⟨h',tk,acc,c,as,e,rfl,j,h,k,i,l⟩:=x
   cases e
   refine X1 (m:=load s.heap.objs.size) (a4P h (Yb ?_))
   show T acc.toList _
   rw[l]
   exact q h' tk as j k i (a0O (Yc h))
  |again K=>
   refine⟨x.1,a2p x.2 λy L x=>?_⟩
   obtain⟨h',tk,acc,c,as,rfl,rfl,j,h,k,i,l⟩:=x
   refine X1 (m:=load s.heap.objs.size) (a4P h (Yb ?_))
   show T acc.toList _
   rw[l]
   exact q h' tk as j k i (a0O (Yc h))
 .obtain⟨_,_,_,_,_,v,_⟩:=x
  cases v
end L3
namespace L3
open PySem L2 PySem.W PyProof.Rows
theorem FZ(q:Q b8 s):Yl (Yv P w) A (eqBool v v) Q E s:=by unfold eqBool;refine YS ?_;rw[if_pos (by simp)];exact X1 (a1K (Yb q))
theorem vP:∀k,HT.lexLt k k=b7
 |[]=>rfl|a::k=>by simp[HT.lexLt,vP k]
noncomputable def jA(P:Yt)(w:YL)(h:Y5)(b:Addr)(k:List Int):Prop:=Tb.IsT P w h k b/\∃xs:gw,a9g h b xs.toArray/\a1R xs k
theorem Ro{C:Bool->X7->Prop}(l:A.units<ZO)(o:s.heap.get? a=b4 {cls:=.type "tuple",data:=.seq #[.ref b,v]})(d:s.heap.get? h=b4 {cls:=.type "tuple",data:=.seq #[.ref i,n]})(j:jA P w s.heap b k)(c:jA P w s.heap i k')(p:k=k'->v=n)(q:C (HT.lexLt k k') s):Yl (Yv P w) A (keyLt' (tuples' b7) (.ref a) (.ref h)) C (λ_ _=>False) s:=by
 refine kat_lt o rfl d rfl ?_;refine a6j ((a1s (a0P P w)).eqBool l j.1 c.1 ?_);by_cases e:k=k'
 .obtain rfl:=p e;subst e;rw[decide_eq_true rfl];refine a8W (a6j (FZ (a8W (kat_nil ?_))));rw[vP]at q;exact q
 .rw[decide_eq_false e];obtain⟨z,x,r⟩:=j.2;obtain⟨B,y,u⟩:=c.2;refine kat_no (kat_one _ _ (HT.lt_tupInts x y (by simpa using r) (by simpa using u) l ?_));exact q
noncomputable def pR(P:Yt)(w:YL)(A:YI)(us:gw)(an:Nat->Nat->Bool)(s:X7):Prop:=
 Yl (Yv P w) A (keyKind' us.toArray) (λb a=>a=s/\∀(i j:Nat)(C:Bool->X7->Prop),i<us.length->j<us.length->C (an i j) s->Yl (Yv P w) A (keyLt' b (us.getD i .none) (us.getD j .none)) C (λ_ _=>False) s) (λ_ _=>False) s
theorem Rq{lo:Addr}{bs:List Addr}{ks:List (List Int)}(hu:A.units<ZO)(p:PrsAt es lo s.heap as)(h0:0<as.length)(hl:as.length=es.size)(hk:ks.length=es.size)(Z:bs.length=es.size)(key:∀j e,es[j]?=b4 e->e.key=.ref (bs.getD j 0)/\jA P w s.heap (bs.getD j 0) (ks.getD j []))(nd:ks.Nodup):pR P w A (as.map Ye) (λi j=>HT.lexLt (ks.getD i []) (ks.getD j [])) s:=by
 have k:∀i,i<as.length->∃(e:DictEntry),es[i]?=b4 e/\s.heap.get? (as.getD i 0)=b4 {cls:=.type "tuple",data:=.seq #[.ref (bs.getD i 0),e.val]}/\jA P w s.heap (bs.getD i 0) (ks.getD i []):=λi d=>by
  have O:as[i]?=b4 (as.getD i 0):=by simp[Zm,d]
  obtain⟨e,B,r⟩:=p.prs i _ O;obtain⟨k1,G⟩:=key i e B;rw[k1]at r;exact⟨e,B,r,G⟩
 unfold pR;have u:KatTups s.heap (as.map Ye) (bs.map Ye):=by
  have go:∀(n:Nat)(a c:List Addr),a.length=n->c.length=n->(∀i,i<n->∃v:Value,s.heap.get? (a.getD i 0)=b4 {cls:=.type "tuple",data:=.seq #[.ref (c.getD i 0),v]})->KatTups s.heap (a.map Ye) (c.map Ye):=by
   intro n;induction n with
   |zero=>intro a c l q _;rw[a1W.mp l,a1W.mp q];exact .nil|succ n ih=>
    intro a c l q M;match a,c,l,q with
    |x::a,y::c,l,q=>obtain⟨v,K⟩:=M 0 (by lia);refine .cons K rfl rfl (by simp) (ih a c (by simpa using l) (by simpa using q) λi d=>?_);have:=M (i+1) (by lia);simpa using this
  refine go as.length as bs rfl (by lia) λi d=>?_;obtain⟨e,_,r,_⟩:=k i d;exact⟨_,r⟩
 refine kat_kind (T:=.type "tuple") u (by rw[X3];lia) (λv K=>?_) (by decide) ⟨rfl,λi j C d J X=>?_⟩
 .obtain⟨b,Y,rfl⟩:=Yw.mp K;obtain⟨i,d⟩:=a0G.mp Y;have H:i<as.length:=by have:=(X8.mp d).1;lia
  obtain⟨e,_,_,G⟩:=k i H;have:bs.getD i 0=b:=by simp[Zm,d]
  rw[this]at G;obtain⟨xs,⟨o,o1,o2,_⟩,_⟩:=G.2;exact kitAt_ty _ _ ⟨o,o1,o2⟩
 .rw[X3]at d J;obtain⟨e,B,r,N⟩:=k i d;obtain⟨e',L,Q,R⟩:=k j J;have T:(as.map Ye).getD i .none=.ref (as.getD i 0):=by simp[Zm,d]
  have U:(as.map Ye).getD j .none=.ref (as.getD j 0):=by simp[Zm,J]
  rw[T,U];refine Ro hu r Q N R (λz=>?_) X;have I:i=j:=by
   have l:ks.getD i []=ks[i]:=by simp[Zm,show i<ks.length by lia]
   have q:ks.getD j []=ks[j]:=by simp[Zm,show j<ks.length by lia]
   rw[l,q]at z;rcases a4z i j with h|h|h
   .exact absurd z ((a1F.mp nd) i j (by lia) (by lia) h)
   .exact h
   .exact absurd z.symm ((a1F.mp nd) j i (by lia) (by lia) h)
  subst I;rw[B]at L;cases L;rfl
theorem F0(N:2<=us.length)(n:us.length<64)(g:s.heap.get? c=b4 (Z6 "list" us.toArray z))(H:∀J,(∀b o,b≠c->s.heap.get? b=b4 o->J.get? b=b4 o)->pR P w A us an {s with heap:=J})(q:R (.done (.ret .none)) {s with heap:=a6g s.heap c us ((cR an us.length).map λi=>us.getD i Y3).toArray}):Yl (Yv P w) A (Builtin.«list.sort» ⟨[.ref c],[]⟩) R E s:=by
 rw[a9B]
 refine X1 (listItems_at g rfl (X1 (a4H g rfl ?_ (by rw[Ys,Yz];lia) (a0l _))))
 obtain⟨y,G⟩:∃y,(s.heap.update c (Y7 λ_=>#[])).get? c=b4 (Z6 "list" #[] y):=⟨_,a9D g _⟩
 refine X1 (a5J G rfl (X1 (a6d (X1 (a4F (YS ?_) (a0l _))) (by show us.length<=_;rw[Yz];lia))))
 have I:(((s.heap.update c (Y7 λ_=>#[])).push (Z6 "tuple" us.toArray 0)).push (Z6 "list" #[] 0)).get? c=b4 (Z6 "list" #[] y):=
  X6 _ (X6 _ G)
 have l:=H (((s.heap.update c (Y7 λ_=>#[])).push (Z6 "tuple" us.toArray 0)).push (Z6 "list" #[] 0)) λb o Q e=>X6 _ (X6 _ ((YF _ _ (YW Q)).trans e))
 show Yl (Yv P w) A _ R E ⟨((s.heap.update c (Y7 λ_=>#[])).push (Z6 "tuple" us.toArray 0)).push (Z6 "list" #[] 0),s.gens,s.drawn,s.toks,s.os⟩
 dsimp only
 have h:¬ us.toArray.size<2:=by rw[Ys];lia
 rw[if_neg h,if_neg h]
 refine X1 (Y1 l (λY k u=>?_) λ_ _ x=>x.elim)
 obtain⟨rfl,u⟩:=u
 refine X1 (Y1 (kat_run (ks:=us) (vs:=us) (κ:=Y) (Q:=λa k=>k={s with heap:=((s.heap.update c (Y7 λ_=>#[])).push (Z6 "tuple" us.toArray 0)).push (Z6 "list" #[] 0)}/\failedOf a=b6/\(arrOf a).map (·.2)=((cR an us.length).map λi=>us.getD i Y3).toArray)
  (G:=λp k=>k={s with heap:=((s.heap.update c (Y7 λ_=>#[])).push (Z6 "tuple" us.toArray 0)).push (Z6 "list" #[] 0)}/\p.toList=cR an us.length) rfl N n (λp a k Z L M B=>⟨B.1,M,by rw[kat_snds rfl L,B.2]⟩)
  (EH (n:=us.length) (ans:=an) (λi j C T U O=>u i j C T U O) (rK (by lia)) ⟨rfl,rfl⟩)) (λr k X=>?_) λ_ _ e=>e)
 obtain⟨⟨⟩,a⟩:=r
 obtain⟨rfl,K,d⟩:=X
 dsimp only at K d ⊢
 rw[d]
 have v:((cR an us.length).map λi=>us.getD i Y3).length=us.length:=by
  rw[X3,(EM an (n:=us.length) (by lia)).length_eq,ZV]
 refine X1 (a5J I rfl (X1 (a4H I rfl ?_ (hsz2:=by rw[Ys,v,Yz];lia))))
 rw[K]
 simp only[bne_self_eq_false,YH,if_false]
 exact Yb q
theorem Rt(K:A.handled=b6)(M:s.heap.IsItemsView r d)(g:RawD s.heap d es ep)(G:es.size<64)(H:2<=es.size->∀h tk as,(∀b o,s.heap.get? b=b4 o->h.get? b=b4 o)->as.length=es.size->PrsAt es s.heap.objs.size h as->pR P w A.in1.in1 (as.map Ye) an {s with heap:=h,toks:=tk})(q:∀h tk as(L e:Nat),(∀b o,s.heap.get? b=b4 o->h.get? b=b4 o)->as.length=es.size->PrsAt es s.heap.objs.size h as->s.heap.objs.size<=L->(∀a∈as,a≠L)->h.get? L=b4 (Z6 "list" ((cR an es.size).map λi=>Ye (as.getD i 0)).toArray e)->Q (.ref L) {s with heap:=h,toks:=tk}):
  Yl (Yv P w) A (call (.builtin "sorted") [.ref r]) Q E s:=by
 refine a5w kind_sorted plain_sorted entry_sorted (args_sorted1 _) ?_
 unfold a6z
 refine X1 (m:=checkCount "sorted" 1 1 _) (Yb (X1 (Rn (A:=A.in1) K M g (by rw[Yz];lia) λc tk as z n v l=>?_)))
 have B:(as.map Ye).length=es.size:=by rw[X3,n]
 refine X1 (a4F ?_ (by rw[B,Yz];lia))
 have k:(c.push (Z6 "list" (as.map Ye).toArray 0)).get? c.objs.size=b4 (Z6 "list" (as.map Ye).toArray 0):=Yh _ rfl
 have fin:∀j:gw,j=((cR an es.size).map λi=>Ye (as.getD i 0))->Q (.ref c.objs.size) {s with heap:=a6g (c.push (Z6 "list" (as.map Ye).toArray 0)) c.objs.size (as.map Ye) j.toArray,toks:=tk}:=by
  rintro j rfl
  obtain⟨e,J⟩:=sortedHeap_at (h:=c.push (Z6 "list" (as.map Ye).toArray 0)) (out:=((cR an es.size).map λi=>Ye (as.getD i 0)).toArray) k
  have old:∀b o,c.get? b=b4 o->(a6g (c.push (Z6 "list" (as.map Ye).toArray 0)) c.objs.size (as.map Ye) ((cR an es.size).map λi=>Ye (as.getD i 0)).toArray).get? b=b4 o:=λb o x=>by
   rw[sortedHeap_old (Yn (Yc x)) (by rw[ZZ];exact a1o (Yc x))]
   exact X6 _ x
  exact q _ tk as c.objs.size e (λb o x=>old b o (z b o x)) n (v.stay λb o _ x=>old b o x) l (λa I=>Yn (v.lt I)) J
 by_cases p:2<=es.size
 .refine X1 (YS (a0b a4j (s:={s with heap:=c.push (Z6 "list" (as.map Ye).toArray 0),toks:=tk}) ⟨_,k,rfl⟩ a3Z (F0 (an:=an) (by lia) (by lia) k (λh y=>?_) ⟨_,rfl,?_⟩) (a4l _)))
  .exact H p h tk as (λb o e=>y b o (Yn (YE (Yc e) l)) (X6 _ (z b o e))) n (v.stay λb o N e=>y b o (Yn (Yc e)) (X6 _ e))
  .refine Yb ⟨_,rfl,fin _ ?_⟩
   rw[B]
   refine ZQ λi u=>?_
   have u:i<as.length:=by
    have:=Zq.mp ((jW an es.size).mem_iff.mp u)
    lia
   simp[Zm,u]
 .refine X1 (YS (a0b a4j (s:={s with heap:=c.push (Z6 "list" (as.map Ye).toArray 0),toks:=tk}) ⟨_,k,rfl⟩ a3Z (EO (by lia) k ⟨_,rfl,?_⟩) (a4l _)))
  refine Yb ⟨_,rfl,fin (as.map Ye) ?_⟩
  match as,n with
  |[],e=>rw[<- e];show[]=(cR _ 0).map _;rw[zL];rfl
  |[b],e=>rw[<- e];show[Ye b]=(cR _ 1).map _;rw[ER];rfl
  |_::_::_,e=>rw[<- e]at p;simp at p
end L3
namespace L3
open PySem L2
theorem Ad d(hd:(d==ZA)=b7):a9f P w (Builtin.«dict.items» ⟨[.ref d],[]⟩) (λ_ R s=>(∃es ep,RawD s.heap d es ep) /\
   R (.ok (.ret (.ref s.heap.objs.size))) {s with heap:=s.heap.push {cls:=.type "dict_items",data:=.fields #[.ref d]}}):=
 .of_wp λA R s ⟨⟨es,ep,g⟩,h⟩=>by unfold Builtin.«dict.items»;refine X1 ?_;unfold a9V;refine X1 (a1u g.ty ?_);show Yl _ _ (pure d) _ _ s;refine Yb ?_;show Yl _ _ (a0W d >>= _) _ _ s;unfold a0W;rw[if_neg (by rw[hd];exact Yj)];refine X1 (Yb ?_);exact X1 (Zi (Yb ⟨_,rfl,h⟩))
noncomputable def vQ(kvs:jx):jx:=(cR (λi j=>HT.lexLt ((kvs.map (·.1)).getD i []) ((kvs.map (·.1)).getD j [])) kvs.length).map λi=>kvs.getD i ([],.non)
theorem F1{R:b->c->Prop}{as:List b}{bs:List c}(h:a2G R as bs)d j:∀i,i<as.length->R (as.getD i d) (bs.getD i j):=by
 induction h with
 |nil=>exact λi a=>nomatch a|cons e t k=>
  intro i a;cases i with
  |zero=>exact e|succ i=>exact k i (by simpa using a)
theorem F2{R:a->b->Prop}{f:Nat->a}{g:Nat->b}:∀{l:List Nat},(∀i∈l,R (f i) (g i))->a2G R (l.map f) (l.map g)
 |[],_=>.nil|i::l,h=>.cons (h i (YQ ..)) (F2 λj c=>h j (YK _ c))
theorem Inv.freeze{σ:St}{ps:aZ}(I:Inv X b0l σ H s)(e:H a=b4 (aM a ps))(c:s.heap.get? a=b4 ob):Inv X b0l σ (upd H a (.frz ob (aM a ps))) s:=by have ok:ObjOk X.prog X.w H s.heap a (aM a ps):=I.hok a _ e;exact I.write (x:=a) (e:=a) (h':=s.heap) (t':=s.toks) (by rw[e];exact a1c) (.inl rfl) (λb q _ z=>z) ⟨ob,c⟩ ⟨c,ok⟩
theorem Inv.thaw{σ σ0:St}{ps ps0:aZ}(r:Inv X pins0 σ0 H0 s0)(v:H0 a=b4 (aM a ps0))(I:Inv X b0l σ H s)(e:H a=b4 (.frz ob (aM a ps))):Inv X b0l σ (upd H a (aM a ps)) s:=by
 have ne:∀{b:Addr},H b=b6->b≠a:=λ{b} h z=>by rw[z,e]at h;cases h
 refine⟨I.ok,I.os,I.bare,⟨I.base.keep,I.base.slot,λb o d i j=>?_,I.base.there,λb l h=>?_,λb o u h=>?_,λb y h=>?_⟩,I.loc,I.cell,?_,λx c h=>?_,λp w=>?_,λb u q=>?_,I.len⟩
 .have:=I.base.free b o d i j;rw[aN (ne this)];exact this
 .have:=I.base.tups b l h;rw[aN λz=>by rw[z,e]at this;cases this];exact this
 .have:=I.base.frzs b o u h;rw[aN λz=>by
   have n:=r.base.frzs b o u h;rw[z,v]at n;cases n]
  exact this
 .obtain⟨more,d⟩:=I.base.tbls b y h;exact⟨more,by rw[aN λz=>by rw[z,e]at d;cases d];exact d⟩
 .rw[aN (ne I.free)];exact I.free
 .have:=I.freeC x c h;rw[aN (ne this)];exact this
 .obtain⟨d,i,j⟩:=I.pin p w;exact⟨d,by rw[aN (ne i)];exact i,j⟩
 .by_cases k:b=a
  .subst k;rw[bN]at q;cases q;exact(show ObjOk X.prog X.w H s.heap b (.frz ob (aM b ps))from I.hok b _ e).2
  .rw[aN k]at q;exact(I.hok b u q).stay (λ_ _ _ z=>z) (λc h=>by rw[aN λz=>by rw[z,e]at h;cases h];exact h) λc l h=>by rw[aN λz=>by rw[z,e]at h;cases h];exact h
noncomputable def pS(i:Nat)(c:aE)(b:Hm):Option (Nat×jx):=match c[i]? with
 |some (b4 (.loc a))=>match b[a]? with
  |some (.dT kvs)=>b4 (a,kvs)|_=>b6
 |_=>b6
theorem F3(h:pS i c b=b4 (a,kvs)):b[a]?=b4 (.dT kvs):=by
 unfold pS at h;split at h
 .split at h
  .rename_i hc;cases h;exact hc
  .cases h
 .cases h
noncomputable def vT(i:Nat)(d e:ME):ME:=λc b=>match pS i c b with
 |some (a,kvs)=>(d c (b.set a (.dF kvs))).bind λr=>match r.2[a]? with
  |some (.dF kvs')=>b4 (r.1,r.2.set a (.dT kvs'))|_=>b6
 |none=>e c b
noncomputable def nP(i:Nat)(d e:MS):MS:=λc b=>match pS i c b with
 |some (a,kvs)=>(d c (b.set a (.dF kvs))).bind λr=>match r.2.2[a]? with
  |some (.dF kvs')=>b4 (r.1,r.2.1,r.2.2.set a (.dT kvs'))|_=>b6
 |none=>e c b
theorem F5{σ:St}{kvs:jx}(I:Inv X b0l σ H s)(R:Rp X.K π H μ)(E:En X.K π μ.length H σ ρ)(hc:μ[a]?=b4 (.dT kvs)):∃b ps,H (π a)=b4 (aM (π a) ps)/\Inv X b0l σ (upd H (π a) (.frz b (aM (π a) ps))) s /\
  Rp X.K π (upd H (π a) (.frz b (aM (π a) ps))) (μ.set a (.dF kvs))/\En X.K π (μ.set a (.dF kvs)).length (upd H (π a) (.frz b (aM (π a) ps))) σ ρ:=by
 obtain⟨ps,c,T⟩:=gF R hc;obtain⟨_,⟨b,e⟩,_⟩:=(show ObjOk X.prog X.w H s.heap (π a) (aM (π a) ps)from I.hok _ _ c);obtain⟨d,R2⟩:=R.put (c:=.dF kvs) (o:=.frz b (aM (π a) ps)) (X8.mp hc).1 c (.inr (.inr ⟨_,rfl⟩)) ⟨b,ps,rfl,T.to⟩;exact⟨b,ps,c,Inv.freeze I c e,R2,E.mono d⟩
theorem sC{σ:St}{μ:Hm}{kvs:jx}{n:St}{ps:aZ}{d:jx}(I:Inv X b0l σ H s)(e:H (π a)=b4 (aM (π a) ps))(y:a<μ.length)(x:Inv X i n H' w)(R':Rp X.K c H' μ')(k:Ext π (μ.set a (.dF kvs)).length (upd H (π a) (.frz B (aM (π a) ps))) c μ'.length H')(hc:μ'[a]?=b4 (.dF d)):
  ∃q,Inv X i n q w/\Ext π μ.length H c (μ'.set a (.dT d)).length q/\Rp X.K c q (μ'.set a (.dT d))/\Ext0 c μ'.length H' c (μ'.set a (.dT d)).length q:=by
 have r:c a=π a:=k.pi a (by rw[ZD];exact y);obtain⟨E,j,v,T⟩:=vJ R' hc;obtain⟨J,R2⟩:=R'.put0 (c:=.dT d) (o:=aM (c a) j) (X8.mp hc).1 v (.inr (.inr (.inr ⟨_,_,rfl⟩))) ⟨j,rfl,T.to⟩;rw[r]at v;refine⟨upd H' (c a) (aM (c a) j),?_,⟨?_,λb A=>k.pi b (by rw[ZD];exact A),λp G h=>?_,λp o u h=>?_⟩,R2,J⟩
 .rw[r];exact Inv.thaw I e x v
 .have:=k.le;rw[ZD]at this ⊢;exact this
 .have l:p≠π a:=λz=>by rw[z,e]at h;cases h
  have:=k.tup p G (by rw[aN l];exact h);rw[r,aN l];exact this
 .have l:p≠π a:=λz=>by rw[z,e]at h;cases h
  have:=k.frz p o u (by rw[aN l];exact h);rw[r,aN l];exact this
theorem En.mono0(E:En K π n H σ ρ)(e:Ext0 π n H b c H'):En K b c H' σ ρ:=
 ⟨E.len,λi d h=>let⟨v,j,k⟩:=E.get i d h;⟨v,j,k.mono0 e⟩⟩
theorem Ru(h1:QE X e A)(h2:QE X e B):QE X e (vT i A B):=⟨by
 intro l s K H Q I hw;obtain⟨n,J,G,d,w,R,E,c,k⟩:=hw;unfold vT at c;split at c
 .rename_i a r hv;obtain⟨⟨x,h⟩,g1,c⟩:=X0.mp c;dsimp only at c;split at c
  .rename_i z p;cases c;have hc:=F3 hv;obtain⟨ob,ps,Y,M,T,L⟩:=F5 I R E hc;refine aJ (h1.h l s K _ (λv j=>∃b,Ext n (G.set a (.dF r)).length (upd H (n a) (.frz ob (aM (n a) ps))) b h.length j/\Rp X.K b j h/\IsD X.K b h.length j v d) M ⟨n,J,_,d,h,T,L,g1,λb v j o R2 q=>⟨b,o,R2,q⟩⟩) λu s2 ⟨v,j,N,rv,b,o,R2,q⟩=>?_;obtain⟨y,O,Z,U,x3⟩:=sC I Y (X8.mp hc).1 N R2 o p;exact⟨v,y,O,rv,k b v y Z U (q.mono0 x3)⟩
  .cases c
 .exact h2.h l s K H Q I ⟨n,J,G,d,w,R,E,c,k⟩⟩
theorem F6(h1:QS X st m1)(h2:QS X st m2):QS X st (nP i m1 m2):=⟨by
 intro L s σ H D I hw;obtain⟨n,ρ,M,J,r,Y,R,E,x,k⟩:=hw;unfold nP at x;split at x
 .rename_i a y hv;obtain⟨⟨fl1,ρ1,h⟩,g1,x⟩:=X0.mp x;dsimp only at x;split at x
  .rename_i Z w;cases x;have hc:=F3 hv;have O:=(X8.mp hc).1;obtain⟨Q,T,N,I1,R1,E1⟩:=F5 I R E hc;refine aJ (h1.h L s σ _ ⟨λc j=>J=.nx/\∃b,Ext n (M.set a (.dF y)).length (upd H (n a) (.frz Q (aM (n a) T))) b h.length j/\Rp X.K b j h/\En X.K b h.length j c r,
     λv j=>∃d,J=.rt d/\∃b,Ext n (M.set a (.dF y)).length (upd H (n a) (.frz Q (aM (n a) T))) b h.length j/\Rp X.K b j h/\IsD X.K b h.length j v d,
     λc j=>J=.bk/\∃b,Ext n (M.set a (.dF y)).length (upd H (n a) (.frz Q (aM (n a) T))) b h.length j/\Rp X.K b j h/\En X.K b h.length j c r,
     λc j=>J=.ct/\∃b,Ext n (M.set a (.dF y)).length (upd H (n a) (.frz Q (aM (n a) T))) b h.length j/\Rp X.K b j h/\En X.K b h.length j c r⟩ I1 ⟨n,ρ,_,J,r,h,R1,E1,g1,?_⟩) λf s2 q=>?_
   .cases J with
    |nx=>exact λb c j l R2 o=>⟨rfl,b,l,R2,o⟩|bk=>exact λb c j l R2 o=>⟨rfl,b,l,R2,o⟩|ct=>exact λb c j l R2 o=>⟨rfl,b,l,R2,o⟩|rt d=>exact λb v j l R2 U=>⟨d,rfl,b,l,R2,U⟩
   .cases f with
    |next=>obtain⟨c,j,z,rfl,b,l,R2,o⟩:=q;obtain⟨p,A,G,B,K⟩:=sC I N O z R2 l w;exact⟨c,p,A,k b c p G B (En.mono0 o K)⟩|brk=>obtain⟨c,j,z,rfl,b,l,R2,o⟩:=q;obtain⟨p,A,G,B,K⟩:=sC I N O z R2 l w;exact⟨c,p,A,k b c p G B (En.mono0 o K)⟩|cont=>obtain⟨c,j,z,rfl,b,l,R2,o⟩:=q;obtain⟨p,A,G,B,K⟩:=sC I N O z R2 l w;exact⟨c,p,A,k b c p G B (En.mono0 o K)⟩|ret u=>obtain⟨v,c,j,z,rv,d,rfl,b,l,R2,U⟩:=q;obtain⟨p,A,G,B,K⟩:=sC I N O z R2 l w;exact⟨v,c,p,A,rv,k b v p G B (U.mono0 K)⟩
  .cases x
 .exact h2.h L s σ H D I ⟨n,ρ,M,J,r,Y,R,E,x,k⟩⟩
noncomputable def Ae(d:Addr)(a:Obj)(ps:aZ):It:=⟨λi H=>H d=b4 (.frz a (aM d ps))/\i<ps.length,λi H x H'=>H'=H/\∃p,ps[i]?=b4 p/\x=.ref p.2.1,λi H=>H d=b4 (.frz a (aM d ps))/\ps.length<=i⟩
theorem nQ{σ:St}{ps:aZ}(I:Inv X b0l σ H s)(e:H d=b4 (.frz c (aM d ps))):
  (d==ZA)=b7/\ps.length<=Yi/\∃a b,RawD s.heap d a b/\c.data=.dict a b/\a.toList.map (·.key)=ps.map λp=>Ye p.2.1:=by
 obtain⟨h,⟨v,r,q,n,o,a,b,i,k,j,l,u⟩,_⟩:=(show ObjOk X.prog X.w H s.heap d (.frz c (aM d ps))from I.hok d _ e);rw[h]at i;cases i;refine⟨q,n,a,b,⟨c,h,k,j⟩,j,?_⟩;rw[l,vG (P:=X.prog) (w:=X.w),Yu,<- Aa r];rfl
theorem F7:∀(ps:aZ)(ws:gw),ps.length=ws.length->(a3w uA ps ws).map (·.val)=ws
 |[],[],_=>rfl|[],_::_,h=>by cases h
 |_::_,[],h=>by cases h
 |p::ps,u::ws,h=>by rw[Zb,Yk,F7 ps ws (by simpa using h)];rfl
theorem Rv{σ:St}{ps:aZ}(I:Inv X b0l σ H s)(e:H d=b4 (.frz c (aM d ps))):
  (d==ZA)=b7/\ps.length<=Yi/\∃a b,RawD s.heap d a b/\c.data=.dict a b/\Vals (ps.map (·.2.2)) (a.toList.map (·.val)):=by
 obtain⟨i,⟨h,r,u,q,o,a,b,j,n,k,p,v⟩,_⟩:=(show ObjOk X.prog X.w H s.heap d (.frz c (aM d ps))from I.hok d _ e);rw[i]at j;cases j;refine⟨u,q,a,b,⟨c,i,n,k⟩,k,?_⟩;have l:(a3w uA ps h).map (·.val)=h:=F7 ps h (by
  have:=r.length;rw[X3]at this;exact this)
 rw[p,l];exact r
theorem Rw(hd:Y.data=.dict es ep):Turn Qc P w K tg (Ae d Y ps) [p] p (λi h=>h.IsKeyIter p d i es.size ep) where
 mem:=by simp
 obj:=λi h st b j=>by
  have e:b=p:=by simpa using j
  subst e;obtain⟨o,e,c,d⟩:=st;exact⟨o,e,λv z=>by rw[d]at z;cases z⟩
 keep:=λi h r st k=>st.at λo e=>k p (by simp) o e;item:=by
  intro X Q hw O hc i q s Z H E I y st R;subst Q hw O;obtain⟨n,u⟩:=R;obtain⟨lo,hl,B,A,g,a,x⟩:=nQ I n;rw[hd]at a;cases a;have hs:es.size=ps.length:=by have:=congrArg Zf x;simpa using this
  obtain⟨G,J,f2,L,M,N⟩:=y p (by simp);refine vL (I.ok.hd hc) st g (λe r l U sb=>?_) λhn=>by simp at hn;lia
  have I1:Inv X q Z H {s with heap:=r}:=I.turned (t':=s.toks) (λb o j e=>(sb.2 b j).trans e) G J L M N;obtain⟨o,e1,c,d1⟩:=id U;have T:ps[i]?=b4 ps[i]:=Yg u;have ek:e.key=.ref (ps[i]).2.1:=by have:=congrArg (·[i]?) x;simp only[Yo,ZG,l,T,YG]at this;exact Ym this
  exact⟨e.key,rfl,lH (s:={s with heap:=r}) e1 c d1 (by decide) ⟨.ref (ps[i]).2.1,H,I1,ek,⟨rfl,ps[i],T,rfl⟩,U,λb j=>(y b j).1⟩⟩
 done:=by
  intro X Q hw O hc i q s Z H E I y st R;subst Q hw O;obtain⟨n,u⟩:=R;obtain⟨lo,hl,B,A,g,a,x⟩:=nQ I n;rw[hd]at a;cases a;have hs:es.size=ps.length:=by have:=congrArg Zf x;simpa using this
  obtain⟨G,J,f2,L,M,N⟩:=y p (by simp);exact vL (I.ok.hd hc) st g (λe r l=>by
   have:=(Zx.mp l).1;lia) λ_ r eb=>⟨rfl,I.turned (t':=s.toks) (λb o j e=>eb b o j e) G J L M N⟩
 self:=λ_ _ _ _ _ st h=>a7W st h
theorem Ry(n:PE X l p):PI X tg l (λσ H R=>p σ H λv a=>∃d k ps,v=.ref d/\a d=b4 (.frz k (aM d ps))/\R (Ae d k ps) a):=by
 intro j s σ H R I h;refine aJ (n j s σ H _ I h) λv i ⟨y,a,c,z,x⟩=>?_;obtain⟨d,k,ps,e,u,q⟩:=x;subst e;obtain rfl:v=Ye d:=z;obtain⟨w,n,B,A,g,hd,E⟩:=nQ c u;refine FG w g ⟨i.heap.objs.size,[i.heap.objs.size],_,_,a,rfl,c.kept (t':=i.toks) λb o e=>X6 _ e,Rw hd,⟨_,Yh _ rfl,rfl,rfl⟩,λb r=>?_,q⟩;have e:b=i.heap.objs.size:=by simpa using r
 subst e;exact c.fpOk (Yd _) (c.hok.fresh (Yd _))
noncomputable def gZ(kvs:jx):List D:=kvs.map λk=>D.tup (k.1.map D.int)
theorem Rz{ps:aZ}(c:H d=b4 (.frz j (aM d ps)))(T:IsTs K π n H ps kvs):Wk K (Ae d j ps) (dX (.tup (gZ kvs))) π n H:=by
 have x:ps.length=kvs.length:=by have:=congrArg Zf T.to.1;simpa using this
 refine⟨λb u k i e R z=>?_,λb u k i l e R z=>?_⟩
 .have a:(gZ kvs)[i]?=none:=Ym z;have:=YV.mp a;rw[gZ,X3]at this;exact⟨e.frz _ _ _ c,by lia⟩
 .have a:(gZ kvs)[i]?=b4 l:=Ym z;have y:i<kvs.length:=by have:=(X8.mp a).1;rwa [gZ,X3]at this
  refine⟨⟨e.frz _ _ _ c,by lia⟩,λv w ⟨o,p,q,r⟩=>?_⟩;subst o r;obtain⟨A,h,s⟩:=(T.to.2.1.mono e).get a;rw[Yo,q]at h;cases h;exact⟨.refl,R,s⟩
noncomputable def kY(m:ME):MI:=λc b=>(m c b).bind λp=>match p.1 with
 |.loc a=>match p.2[a]? with
  |some (.dF kvs)=>b4 (dX (.tup (gZ kvs)),kvs.length+1,p.2)|_=>b6
 |_=>b6
theorem Af(h:QE X e m):QJ X e (kY m):=⟨λtg b0l s σ H R I hw=>by
 obtain⟨A,B,w,v,n,y,j,E,a,k⟩:=hw;obtain⟨⟨x,z⟩,o,a⟩:=X0.mp a;dsimp only at a;split at a
 .split at a
  .rename_i q hc;cases a;refine Ry h.h b0l s σ H R I ⟨A,B,w,_,_,j,E,o,λb G i l c p=>?_⟩;cases p;obtain⟨r,u,d,T⟩:=vJ c hc;exact⟨_,r,u,rfl,d,k b i _ l c (Rz d T)⟩
  .cases a
 .cases a⟩
end L3
namespace L3
open PySem L2 PySem.W PyProof.Rows
end L3
namespace L3
open PySem L2
noncomputable def sD(b:Hm):D->Bool
 |.loc a=>match b[a]? with|some (.dT _)=>b8|_=>b7
 |_=>b7
noncomputable def gG(f:D->List D->Hm->jk)(b:ME)(ms:MA):ME:=λa c=>(b a c).bind λp=>match sD p.2 p.1 with
 |true=>(ms a p.2).bind λq=>f p.1 q.1 q.2|false=>b6
noncomputable def Ag(K:X2)(x:V)(H:Hp):Prop:=∃a ps,x=.ref a/\H a=b4 (aM a ps)/\dB K H ps
theorem RA(R:Rp K π H b)(h:IsD K π b.length H v x)(e:sD b x=b8):Ag K v H:=by
 cases h with
 |@loc a j=>
  simp only[sD]at e;split at e
  .rename_i k d;obtain⟨i,c,T⟩:=gF R d;exact⟨_,i,rfl,c,T.keys⟩
  .cases e
 |_=>cases e
theorem RB{id:String}(p:Slot "dict" name id)(y:b0d (.builtin id)=pure (.type "method_descriptor"))(O:jJ X id r)(R:PE X o to)(M:PA X (e::es) t)(i:a0Y o name X.env (eval o X.env)=eval o X.env)(l:((a0s cpos (YJ (e::es) X.env)).all (λx=>!x.1)&&(a5d cpos (a3v [] X.env)).all (λx=>x.1.isSome)&&decide ((e::es).length+([]:List a1C).length+(if([]:List a1C).isEmpty then 0 else 1)<30))=b8)(j:(apos.endLine==cpos.line)=b8)(T:YJ (e::es) X.env=(b7,eval e X.env)::YJ es X.env)(c:(a0s cpos (YJ es X.env)).any (·.1)=b7):
  PE X (.Call (.Attribute o name apos) (e::es) [] cpos) (λk H Q=>to k H λx q=>Ag X.K x q/\t k q λu w=>r x u w Q):=by
 intro d s k H Q I h;refine a7i i l j rfl (aJ (R d s k H _ I h) λv s1 ⟨x,q,A,Z,ty,U⟩=>?_);obtain⟨a,ps,rfl,J,N⟩:=ty;obtain rfl:v=Ye a:=Z;obtain⟨lo,hl,u,ep,g,_⟩:=rZ A J N;refine⟨"dict",id,a1N,p,y,g.ty,λb G=>?_,?_⟩
 .cases G;obtain⟨z,K,L,_⟩:=g;exact⟨z,K,L.2.1⟩
 have B:=M cpos d s1 k q _ A U;rw[T]at B ⊢;refine a1a (by show(b7||(a0s cpos (YJ es X.env)).any (·.1))=b7;rw[c]<;>rfl) (a3Q ?_);exact aJ B λus s2 ⟨u,w,E,r2,Y⟩=>O d s2 k w (.ref a) u _ us Q E rfl r2 Y
theorem RC(B:i7 K f r):∀σ H Q,tM K (gG f mo ms) σ H Q->tM K mo σ H λx h=>Ag K x h/\tMA K ms σ h λvs i=>r x vs i Q:=by
 rintro σ H Q ⟨M,y,L,d,j,R,E,a,k⟩;obtain⟨⟨x,b⟩,z,a⟩:=X0.mp a;dsimp only at a;split at a
 .rename_i G;obtain⟨⟨w,c⟩,A,a⟩:=X0.mp a;refine⟨M,y,L,x,b,R,E,z,λl J h s q v=>⟨RA q v G,l,y,b,w,c,q,E.mono s,A,λp vs i u R2 I=>?_⟩⟩;exact B p i c x w d j J vs Q R2 (v.mono u) I a (k.after (s.trans u))
 .cases a
theorem Ah{id:String}(c:Slot "dict" name id)(d:b0d (.builtin id)=pure (.type "method_descriptor"))(k:jJ X id r)(i:i7 X.K f r)(p:QE X o mo)(h:QA X (e::es) ms n)(q:gU o=b8)(j:(apos.endLine==cpos.line)=b8)(l:(e::es).length<30):QE X (.Call (.Attribute o name apos) (e::es) [] cpos) (gG f mo ms):=by
 have b:=h.s;have a:=b;rw[YO,X4]at a;exact⟨cZ (RB c d k p.h h.h (kS q) (EC b l) j (cX a.1) (i0 a.2)) (RC i)⟩
noncomputable def hJ:D->List D->Hm->jk
 |.loc a,[y,z],μ=>match μ[a]? with
  |some (.dT kvs)=>(cN y).map λk=>((aT kvs k).getD z,μ)|_=>b6
 |_,_,_=>b6
noncomputable def F8(K:X2):V->gz->Hp->VK->Prop:=λx vs H Q=>∃a b ps k z,x=.ref a/\vs=[.ref b,z]/\H a=b4 (aM a ps)/\dB K H ps/\SqT K H b (k.map V.int)/\Q ((d7 ps k).getD z) H
theorem RD:i7 K hJ (F8 K):=by
 intro y H E x B d w v A Q R o c a k;unfold hJ at a;split at a
 .split at a
  .rename_i r hc;obtain⟨i,l,a⟩:=X5.mp a;cases a;cases o;cases c with
   |cons p t=>
    cases t with
    |cons q t=>
     cases t;obtain⟨s,j,T⟩:=gF R hc;obtain⟨b,rfl,n⟩:=mD p l;refine⟨_,b,s,i,_,rfl,rfl,j,T.keys,n,k y _ H .refl R ?_⟩;rcases T.val i with⟨e,h⟩|⟨v,z,e,h,u⟩
     .rw[e,h];exact q
     .rw[e,h];exact u
  .cases a
 .cases a
theorem RE(B:X.A.units+1<ZO):jJ X "dict.get" (F8 X.K):=by
 intro o s R H x N v M Q I J G h;obtain⟨a,b,i,k,z,rfl,rfl,e,w,p,q⟩:=h;cases J;obtain⟨u,K,rfl,E,j⟩:=G.two;obtain rfl:u=Ye b:=E;obtain⟨A,L,n,r,d⟩:=gY I (.of e) w;refine a2q a5K d.typeIs PySem.F.entry_dict_get (PySem.F.args_dict_get_3 _ _ _) (meetsH_dict_get_default (a1s (a0P X.prog X.w)) a b A K) ⟨nM B,k,_,jY I p,d,?_⟩;refine⟨(d7 i k).getD z,H,I.tok _,?_,q⟩;have:=nK r k;cases l:d7 i k with
 |none=>
  rw[l]at this;cases c:(a3O (bG i n) k).map (·.2)with
  |none=>exact j|some y=>rw[c]at this;exact this.elim
 |some O=>
  rw[l]at this;cases c:(a3O (bG i n) k).map (·.2)with
  |none=>rw[c]at this;exact this.elim|some y=>rw[c]at this;exact this
section
variable{P:Yt}{w:YL}{K:Type} [DecidableEq K] {knd:a8m P w K}{A:YI}{E:Value->X7->Prop}{s:X7}{d a:Addr}{k:K}{xs:List (K×Addr×Value)}
theorem RG(G:knd.room A)(u:knd.is s.heap k a)(L:s.heap.DictOfH knd d xs)(hz:xs.length<=Yi)(h1:∀p,a3O xs k=b4 p->Q p.2 {s with toks:=s.toks+knd.draws k})(J:a3O xs k=b6->∀r,r.DictOfH knd d (a2J xs k a v)->a0i d s.heap r->Q v {s with heap:=r,toks:=s.toks+knd.draws k}):
  Yl (Yv P w) A (a6m d (.ref a) v) Q E s:=by
 obtain⟨o,M,I,h,hc,hd,q,i,z⟩:=id L;unfold a6m;refine YS (X1 (knd.pyHash G u (X1 (a8o (s:={s with toks:=s.toks+knd.draws k}) G u h hd q i z (λl=>?_) λj p B=>?_))))
 .have b:=a8Y l;have n:k∉xs.map (·.1):=a8p l;refine X1 (a1K (X1 (a7U (hz:=by have e:=a3X q;lia) (s:={s with toks:=s.toks+knd.draws k}) h hd (Yb (J b _ ⟨_,_,I+1,YM _ h (a2M (a0M hd _)),hc.mapDictKeys _,a0M hd _,?_,λx c=>?_,?_⟩ (Zo ..))))))
  .rw[a2N b];simp[q,a4R]
  .rw[a2N b]at c;rcases YU.mp c with c|c
   .exact knd.keeps (i x c) h hd (Zo ..)
   .rw[YA]at c;subst c;exact knd.keeps u h hd (Zo ..)
  .rw[a2N b,YC,a0K];exact⟨z,by simp,λx c y H e=>by
    simp only[Yk,a4q,YA]at H;subst H;exact n (e▸c)⟩
 .refine X1 (ZY (s:={s with toks:=s.toks+knd.draws k}) h hd ?_);rw[entry_at q j,B];exact X1 (a1K (Yb (h1 _ (atKey_of_get z B))))
theorem RH(knd:a8m P w K)d a(hd:(d==ZA)=b7)v:a9f P w (Builtin.«dict.setdefault» ⟨[.ref d,.ref a,v],[]⟩) (λA R s=>knd.room A.in1/\∃k xs,knd.is s.heap k a/\s.heap.DictOfH knd d xs/\xs.length<=Yi /\
   (∀p,a3O xs k=b4 p->R (.ok (.ret p.2)) {s with toks:=s.toks+knd.draws k})/\(a3O xs k=b6->∀b,b.DictOfH knd d (a2J xs k a v)->a0i d s.heap b->R (.ok (.ret v)) {s with heap:=b,toks:=s.toks+knd.draws k})):=
 .of_wp λA R s ⟨q,k,xs,l,h,r,i,j⟩=>by unfold Builtin.«dict.setdefault»;refine X1 ?_;unfold a9X;refine X1 (a1u h.typeIs (Yb ?_));show Yl _ _ (if(d==ZA)=b8 then _ else(a6m d (.ref a) v >>= _)) _ _ s;rw[if_neg (by rw[hd];exact Yj)];exact X1 (RG q l h r (λp o=>Yb ⟨_,rfl,i p o⟩) λn b c e=>Yb ⟨v,rfl,j n b c e⟩)
end
noncomputable def iM:D->List D->Hm->jk
 |.loc a,[y,z],μ=>match μ[a]? with
  |some (.dT kvs)=>(cN y).bind λk=>match aT kvs k with
   |some d=>b4 (d,μ)|none=>if kvs.length<Yi then b4 (z,μ.set a (.dT (bS kvs k z)))else b6
  |_=>b6
 |_,_,_=>b6
noncomputable def F9(K:X2):V->gz->Hp->VK->Prop:=λx vs H Q=>∃a b ps k z,x=.ref a/\vs=[.ref b,z]/\H a=b4 (aM a ps)/\dB K H ps/\SqT K H b (k.map V.int)/\((∃v,d7 ps k=b4 v/\Q v H)\/(d7 ps k=b6/\ps.length<Yi/\Q z (upd H a (aM a (dJ ps k b z)))))
theorem RI:i7 K iM (F9 K):=by
 intro s H N x M d G v L Q R A i a k;unfold iM at a;split at a
 .split at a
  .rename_i e hc;obtain⟨c,y,a⟩:=X0.mp a;cases A with
   |loc h=>
    cases i with
    |cons B t=>
     cases t with
     |cons r t=>
      cases t;obtain⟨j,o,T⟩:=gF R hc;obtain⟨b,rfl,q⟩:=mD B y;refine⟨_,b,j,c,_,rfl,rfl,o,T.keys,q,?_⟩;have z:j.length=e.length:=by have:=congrArg Zf T.to.1;simpa using this
      rcases T.val c with⟨l,n⟩|⟨v,I,l,n,E⟩
      .rw[n]at a;dsimp only at a;split at a
       .rename_i J;cases a;have w:=T.put c q r;obtain⟨p,u⟩:=R.put (c:=.dT (bS e c d)) (o:=aM _ (dJ j c b _)) h o (.inr (.inr ⟨_,rfl⟩)) ⟨_,rfl,w.to⟩;exact .inr ⟨l,by lia,k s _ _ p u (r.mono p)⟩
       .cases a
      .rw[n]at a;cases a;exact .inl ⟨v,l,k s _ H .refl R E⟩
  .cases a
 .cases a
theorem RJ(O:X.A.units+1<ZO):jJ X "dict.setdefault" (F9 X.K):=by
 intro A s σ H x vs v us Q I Z Y h;obtain⟨a,b,w,k,z,rfl,rfl,e,K,G,q⟩:=h;cases Z;obtain⟨u,u2,rfl,U,j⟩:=Y.two;obtain rfl:u=Ye b:=U;obtain⟨o,hl,ws,r,d⟩:=gY I (.of e) K;have R:(bG w ws).length<=Yi:=by have:=congrArg Zf (kX r);rw[X3,X3]at this;lia
 have c:=nK r k;refine a2q a4x d.typeIs PySem.F.entry_dict_setdefault (PySem.F.args_dict_setdefault_3 _ _ _) (RH (a1s (a0P X.prog X.w)) a b o u2) ⟨nM O,k,_,jY I G,d,R,λp M=>?_,λL E l n=>?_⟩
 .rw[M]at c;rcases q with⟨y,i,q⟩|⟨i,_⟩
  .rw[i]at c;exact⟨y,H,I.tok _,c,q⟩
  .rw[i]at c;exact c.elim
 .rw[L]at c;rcases q with⟨y,i,q⟩|⟨i,hz,q⟩
  .rw[i]at c;exact c.elim
  .obtain⟨ws',T,B⟩:=vH r k b j;rw[B]at l;have J:∃q,E.get? a=b4 q:=let⟨q,_,_,N,_⟩:=l;⟨q,N⟩;exact⟨z,_,t6 I (by rw[e];exact a1c) n J (rW o (by have:=rV w k b z;lia) T l),j,q⟩
theorem RK{bs:List Addr}(g:RawD s.heap d es ep)(o:es.toList.map (·.key)=bs.map Ye)(G:∀b∈bs,s.TypeIs (.ref b) "tuple")(nd:(es.toList.map (·.hash)).Nodup)(q:Q es s):Yl (Yv P w) A (a4b nm d) Q E s:=by
 obtain⟨z,r,H,u⟩:=id g;unfold a4b;refine X1 (ZY r u (X1 ?_));rw[<- Array.forIn_toList];refine a5x _ (λrest _ c=>c=s/\∀e∈rest,e∈es.toList) _ (λe rest b c ⟨h,j⟩=>?_) (λb c ⟨h,_⟩=>?_) _ _ ⟨rfl,λe i=>i⟩
 .subst h;have i:=j e (YQ ..);have y:e.key∈bs.map Ye:=by rw[<- o];exact Yw.mpr ⟨e,i,rfl⟩
  obtain⟨a,v,p⟩:=Yw.mp y;have quiet:∀{Q:Bool->X7->Prop},Q b7 c->Yl (Yv P w) A (a4Z e.key) Q E c:=λ{Q} q=>by rw[<- p];unfold a4Z;exact X1 (a2d (G a v) PySem.F.slot_tuple_eq.lookup (Yb q))
  refine X1 (quiet ?_);have one:((es.filter (·.hash==e.hash)).size>1)=False:=by
   refine eq_false λz=>?_;have I:1<(es.toList.filter λx=>x.hash==e.hash).length:=by have l:(es.filter (·.hash==e.hash)).toList=es.toList.filter λx=>x.hash==e.hash:=Array.toList_filter ..;have n:=congrArg Zf l;simp only[a0j]at n;lia
   have k:(es.toList.filter λx=>x.hash==e.hash).length=(es.toList.map (·.hash)).count e.hash:=by rw[List.count,List.countP_map,<- List.countP_eq_length_filter];rfl
   have:=List.nodup_iff_count.mp nd e.hash;lia
  simp only[a3T,if_true,one,if_false];exact Yb ⟨rfl,λx B=>j x (YK _ B)⟩
 .subst h;exact Yb q
noncomputable abbrev sE:=List (List Int×Addr×Value)
inductive Hits (A:YI)(s:X7)(ys:sE):sE->Bool->Prop
 |nil:Hits A s ys [] b8
 |miss {x:List Int×Addr×Value}{r:sE}:a3O ys x.1=b6->Hits A s ys (x::r) b7
 |hit {x:List Int×Addr×Value}{p:Addr×Value}{r:sE}{e b:Bool}:a3O ys x.1=b4 p->a2P A s x.2.2 p.2 e->Hits A s ys r b->Hits A s ys (x::r) (e&&b)
noncomputable abbrev Ai(n:Nat):Prop:=n<64
theorem Ga{σ:St}(I:Inv X b0l σ H s)(k:∀b u,s.heap.get? b=b4 u->h'.get? b=b4 u)(old:∀b,b<s.heap.objs.size->H' b=H b)(new:∀b o,s.heap.objs.size<=b->H' b=b4 o->ObjOk X.prog X.w H' h' b o):
  Inv X b0l σ H' {s with heap:=h',toks:=t'}:=by
 have lt:∀b u,H b=b4 u->b<s.heap.objs.size:=λb u e=>Nat.lt_of_not_le λz=>by rw[I.hok.fresh z]at e;cases e
 have a:∀b u,H b=b4 u->H' b=b4 u:=λb u e=>by rw[old b (lt b u e)];exact e
 refine I.un ⟨λb u q _ _ _=>k b u q,λb u q _ _ _=>⟨u.slots,k b u q⟩,λb u q n _=>by rw[old b (Yc q)];exact n,λb u q _=>⟨u,k b u q⟩,λb h q=>a b _ q,λb u h q=>a b _ q,λb i q=>⟨#[],by rw[a b _ q];simp⟩⟩ λb u e=>?_;by_cases d:b<s.heap.objs.size
 .rw[old b d]at e;exact(I.hok b u e).stay (λc v _ q=>k c v q) (λc q=>a c _ q) λc h q=>a c _ q
 .exact new b u (a8h d) e
noncomputable def eB(H:Hp):List Addr->aZ->Hp
 |a::as,p::ps=>eB (upd H a (.tup [.ref p.2.1,p.2.2])) as ps|_,_=>H
theorem j4:∀{as}{ps}{H}{b},b∉as->eB H as ps b=H b
 |[],_,_,_,_=>by simp[eB]
 |a::as,[],_,_,_=>rfl|a::as,p::ps,H,b,h=>by rw[YN,not_or]at h;show eB (upd H a _) as ps b=H b;rw[j4 h.2,aN h.1]
theorem pT:∀{as:List Addr}{ps:aZ}{H:Hp}{i:Nat}{a:Addr}{p:List Int×Addr×V},as.Nodup->as[i]?=b4 a->ps[i]?=b4 p->eB H as ps a=b4 (.tup [.ref p.2.1,p.2.2])
 |[],_,_,_,_,_,_,h,_=>by simp at h
 |_::_,[],_,_,_,_,_,_,h=>by simp at h
 |x::as,y::ps,H,0,a,p,nd,h1,h2=>by
  obtain rfl:x=a:=by simpa using h1
  obtain rfl:y=p:=by simpa using h2
  rw[YT]at nd;show eB (upd H x _) as ps x=_;rw[j4 nd.1,bN]
 |x::as,y::ps,H,i+1,a,p,nd,h1,h2=>by rw[YT]at nd;exact pT (as:=as) (ps:=ps) (i:=i) nd.2 (by simpa using h1) (by simpa using h2)
noncomputable def cJ(ps:aZ):List Nat:=cR (λi j=>HT.lexLt ((ps.map (·.1)).getD i []) ((ps.map (·.1)).getD j [])) ps.length
noncomputable def fD(as:List Addr)(ps:aZ):gz:=(cJ ps).map λi=>V.ref (as.getD i 0)
theorem RL{σ:St}(hc:X.calm=b8)(hun:X.A.units+64<ZO)(I:Inv X b0l σ H s){ps:aZ}(e:H d=b4 (aM d ps))(hk:dB X.K H ps)(O:Ai ps.length)(hv:s.heap.IsItemsView r d)(k:∀as L l,as.length=ps.length->(l::L::as).Nodup->(∀a∈l::L::as,H a=b6)->Q (.ref l) (upd (upd (eB H as ps) L (.lst (fD as ps))) l (.tup (fD as ps)))):
  Yl (Yv X.prog X.w) X.A (call (.builtin "sorted") [.ref r]) (λv s'=>Yl (Yv X.prog X.w) X.A (call (.type "tuple") [v]) (EP X b0l σ Q) X.xe s') X.xe s:=by
 obtain⟨lo,hl,ws,rv,z,es,ep,z1,z2,z3,z4,z5,z6⟩:=gY I (.of e) hk;have hwl:ws.length=ps.length:=by have:=rv.length;rw[X3]at this;exact this.symm
 have hxl:(bG ps ws).length=ps.length:=by unfold bG;rw[a6L,hwl,a9p]
 have B:es.size=ps.length:=by rw[<- a0j,z4,X3,hxl]
 have nd:(ps.map (·.1)).Nodup:=by rw[kX rv]at z6;exact z6
 have N:∀(j:Nat)(w:DictEntry),es[j]?=b4 w->∃p u,ps[j]?=b4 p/\ws[j]?=b4 u/\w.key=.ref p.2.1/\w.val=u:=λj w h=>by
  rw[<- ZG,z4,Yo]at h;obtain⟨x,y,rfl⟩:=X5.mp h;unfold bG at y;rw[a3J]at y;cases E:ps[j]? with
  |none=>rw[E]at y;simp at y|some p=>
   cases hw:ws[j]? with
   |none=>rw[E,hw]at y;simp at y|some u=>
    rw[E,hw]at y;have:(p.1,p.2.1,u)=x:=by simpa using y
    subst this;exact⟨p,u,rfl,rfl,rfl,rfl⟩
 have O:ps.length<64:=O;refine Rt (an:=λi j=>HT.lexLt ((ps.map (·.1)).getD i []) ((ps.map (·.1)).getD j [])) (I.ok.hd hc) hv ⟨z,z1,z2,z3⟩ (by lia) (λh22 h3 M as kp Z K=>?_) (λh3 M as L w kp Z K hL nL gL=>?_)
 .have I3:Inv X b0l σ H {s with heap:=h3,toks:=M}:=I.kept (t':=M) kp;refine Rq (A:=X.A.in1.in1) (s:={s with heap:=h3,toks:=M}) (bs:=ps.map (·.2.1)) (ks:=ps.map (·.1)) (by show X.A.units+1+1<ZO;lia) K (by lia) Z (by rw[X3,B]) (by rw[X3,B]) (λj w A=>?_) nd;obtain⟨p,u,J,p2,p3,p4⟩:=N j w A;have q:j<ps.length:=(X8.mp J).1;have n:(ps.map (·.2.1)).getD j 0=p.2.1:=by simp[Zm,J]
  have ek:(ps.map (·.1)).getD j []=p.1:=by simp[Zm,J]
  rw[n,ek];have sq:=hk p (Ze J);refine⟨p3,jY I3 sq,?_⟩;obtain⟨xs,rx,t,_⟩:=I3.tuple sq;exact⟨xs,t,OE rx⟩
 .rw[B]at gL Z;have G:as.Nodup:=K.up.imp λh=>Yn h;have hin:∀i∈cJ ps,i<ps.length:=λi hi=>Zq.mp ((jW _ _).mem_iff.mp hi);have Y:(cJ ps).length=ps.length:=by have:=(jW (λi j=>HT.lexLt ((ps.map (·.1)).getD i []) ((ps.map (·.1)).getD j [])) ps.length).length_eq;rw[ZV]at this;exact this
  have nLa:L∉as:=λh=>nL L h rfl;have I1:Inv X b0l σ (upd (eB H as ps) L (.lst (fD as ps))) {s with heap:=h3,toks:=M}:=by
   refine Ga (t':=M) I kp (λb hb=>?_) λb o hb n=>?_
   .rw[aN (Yn (YE hb hL)),j4 λh=>a9r hb (K.over b h)]
   .by_cases T:b=L
    .subst T;rw[bN]at n;cases n;refine⟨by unfold fD;rw[X3,Y];exact hl,(cJ ps).map λi=>Ye (as.getD i 0),w,?_,gL⟩;unfold fD;exact F2 λi _=>rfl
    .rw[aN T]at n;by_cases U:b∈as
     .obtain⟨j,A⟩:=a0G.mp U;have q:j<ps.length:=by have:=(X8.mp A).1;lia
      have E:ps[j]?=b4 ps[j]:=Yg q;rw[pT G A E]at n;cases n;obtain⟨x,x1,x2⟩:=K.prs j _ A;obtain⟨p,u,J,p2,p3,p4⟩:=N j x x1;rw[E]at J;cases J;obtain⟨u',g1,g2⟩:=rv.get (i:=j) (x:=ps[j].2.2) (by rw[Yo,E];rfl);rw[p2]at g1;cases g1;rw[p3,p4]at x2;exact⟨by show(2:Nat)<=Yi;decide,[.ref ps[j].2.1,u],.cons rfl (.cons g2 .nil),_,x2,rfl,0,rfl,rfl⟩
     .rw[j4 U,I.hok.fresh hb]at n;cases n
  refine C7 b0l _ σ _ [.ref L] [.ref L] Q I1 (.cons rfl .nil) ⟨L,fD as ps,rfl,.inl ⟨.inl (.inl bN),λl c=>?_⟩⟩;have lL:l≠L:=λh=>by rw[h,bN]at c;cases c
  rw[aN lL]at c;have la:l∉as:=λh=>by
   obtain⟨j,A⟩:=a0G.mp h;have q:j<ps.length:=by have:=(X8.mp A).1;lia
   rw[pT G A (Yg q)]at c;cases c
  rw[j4 la]at c;refine k as L l Z ?_ λa R=>?_
  .rw[YT,YT];exact⟨λh=>(YN.mp h).elim lL la,nLa,G⟩
  .rcases YN.mp R with rfl|R
   .exact c
   rcases YN.mp R with rfl|R
   .exact I.hok.fresh hL
   .exact I.hok.fresh (a0O (K.over a R))
noncomputable def iN(k:List Int×D):D:=.tup [.tup (k.1.map D.int),k.2]
noncomputable def vU:D->Hm->jk
 |.loc a,μ=>match μ[a]? with
  |some (.dT kvs)=>if Ai kvs.length then b4 (.tup ((vQ kvs).map iN),μ)else b6|_=>b6
 |_,_=>b6
noncomputable def vV(m:ME):ME:=λb a=>(m b a).bind λr=>vU r.1 r.2
noncomputable def Gb(K:X2):V->Hp->VK->Prop:=λx H Q=>∃a ps,x=.ref a/\H a=b4 (aM a ps)/\dB K H ps/\Ai ps.length /\
 ∀(as:List Addr)(L l:Addr),as.length=ps.length->(l::L::as).Nodup->(∀a∈l::L::as,H a=b6)->Q (.ref l) (upd (upd (eB H as ps) L (.lst (fD as ps))) l (.tup (fD as ps)))
theorem RM(hc:X.calm=b8)(y:X.A.units+64<ZO)(u:X.mg "sorted"=b6)(w:X.mg "tuple"=b6)(n:Gl X "sorted")(r:Gl X "tuple")(R:PE X o to)(c:a0Y o "items" X.env (eval o X.env)=eval o X.env)(d:(apos.endLine==cpos.line)=b8):
  PE X (.Call (.Name "tuple" p) [.Call (.Name "sorted" p2) [.Call (.Attribute o "items" apos) [] [] cpos] [] pos2] [] pos) (λj H Q=>to j H λx k=>Gb X.K x k Q):=by
 intro i s j H Q I h;refine Zk (fB I r w a2a ?_);refine Zp ?_ rfl rfl;refine a1S ?_;refine Zk (fB I n u a3C ?_);refine a0f ?_ rfl rfl;refine a1S ?_;refine a3M c d (aJ (R i s j H _ I h) λv A ⟨x,k,B,Y,a,ps,M,e,E,l,q⟩=>?_);subst M;obtain rfl:v=Ye a:=Y;obtain⟨U,hl,L,K,g,Z⟩:=rZ B e E;refine⟨"dict","dict.items",a1N,a0q,a3d,g.ty,λb J=>?_,a1a rfl (a3V ?_)⟩
 .cases J;obtain⟨z,N,O,_⟩:=g;exact⟨z,N,O.2.1⟩
 refine a2q a0q g.ty a2U (a2Q _) (Ad a U) ⟨⟨L,K,g⟩,?_⟩;refine a2c ?_;have G:Inv X i j k {A with heap:=A.heap.push {cls:=.type "dict_items",data:=.fields #[.ref a]}}:=B.kept (t':=A.toks) λb o e=>X6 _ e;refine aJ (RL hc y G e E l ⟨_,Yh _ rfl,rfl,rfl⟩ q) λv s' T=>a2c T
theorem Aj:∀{as}{ps}{H},Rp K π H c->as.Nodup->(∀a∈as,H a=b6)->Ext π c.length H π c.length (eB H as ps)/\Rp K π (eB H as ps) c
 |[],_,H,R,_,_=>by simp only[eB];exact⟨.refl,R⟩
 |a::as,[],H,R,_,_=>⟨.refl,R⟩|a::as,p::ps,H,R,nd,hf=>by
  rw[YT]at nd;obtain⟨h,e⟩:=R.fresh (o:=.tup [.ref p.2.1,p.2.2]) (hf a (YQ ..));obtain⟨i,R2⟩:=Aj (as:=as) (ps:=ps) e nd.2 λb d=>by rw[aN (λw:b=a=>nd.1 (w▸d))];exact hf b (YK _ d)
  exact⟨h.trans i,R2⟩
theorem RN:∀σ H Q,tM K (vV Y) σ H Q->tM K Y σ H λx o=>Gb K x o Q:=by
 rintro σ H Q ⟨π,ρ,μ,d,p,R,E,h,k⟩;obtain⟨⟨x,G⟩,h1,h⟩:=X0.mp h;refine⟨π,ρ,μ,x,G,R,E,h1,λn v1 o e1 I i1=>?_⟩;have k1:=k.after e1;dsimp only at h;unfold vU at h;split at h
 .split at h
  .rename_i b hc;split at h
   .rename_i hb;cases h;cases i1;obtain⟨c,e2,T⟩:=gF I hc;have X:c.length=b.length:=by have:=congrArg Zf T.to.1;simpa using this
    refine⟨_,c,rfl,e2,T.keys,by rw[X];exact hb,λe L l al nd y=>?_⟩;rw[YT,YT]at nd;obtain⟨J,R3⟩:=Aj (ps:=c) I nd.2.2 λa ha=>y a (YK _ (YK _ ha));have hL:eB o e c L=none:=by rw[j4 nd.2.1];exact y L (YK _ (YQ ..))
    obtain⟨M,R4⟩:=R3.fresh (o:=.lst (fD e c)) hL;have hl:upd (eB o e c) L (.lst (fD e c)) l=none:=by rw[aN (λw:l=L=>nd.1 (by rw[w];exact YQ ..)),j4 λw=>nd.1 (YK _ w)];exact y l (YQ ..)
    obtain⟨N,R5⟩:=R4.fresh (o:=.tup (fD e c)) hl;refine k1 n _ _ ((J.trans M).trans N) R5 (.tup (.of bN) ?_);have A:c.map (·.1)=b.map (·.1):=T.to.1;have B:∀q:List Nat,(∀i∈q,i<b.length)->IsDs K n p.length (upd (upd (eB o e c) L (.lst (fD e c))) l (.tup (fD e c))) (q.map λi=>V.ref (e.getD i 0)) (q.map (iN∘λi=>b.getD i ([],.non))):=λq s=>by
     induction q with
     |nil=>exact .nil|cons i q ih=>
      have u:=s i (YQ ..);have r:e[i]?=b4 (e.getD i 0):=by simp[Zm,show i<e.length by lia]
      have z:c[i]?=b4 c[i]:=Yg (by lia);have hik:b[i]?=b4 b[i]:=Yg u;have O:b.getD i ([],.non)=b[i]:=by simp[Zm,u]
      have ep:c.getD i ([],0,.non)=c[i]:=by simp[Zm,show i<c.length by lia]
      have Z:=F1 T ([],0,.non) ([],.non) i (by lia);rw[ep,O]at Z;obtain⟨q1,q2,q3⟩:=Z;refine .cons ?_ (ih λj hj=>s j (YK _ hj));have v:upd (upd (eB o e c) L (.lst (fD e c))) l (.tup (fD e c)) (e.getD i 0)=b4 (.tup [.ref c[i].2.1,c[i].2.2]):=by have h:=Ze r;rw[aN (λw:e.getD i 0=l=>nd.1 (by rw[<- w];exact YK _ h)),aN (λw:e.getD i 0=L=>nd.2.1 (by rw[<- w];exact h))];exact pT nd.2.2 r z
      show IsD K n p.length _ (.ref (e.getD i 0)) (iN (b.getD i ([],.non)));rw[O];have U:=(J.trans M).trans N;have ik:IsD K n p.length o (.ref c[i].2.1) (.tup (b[i].1.map D.int)):=by rw[<- q1];exact .tup q2 (u9 _)
      exact .tup (.of v) (.cons (ik.mono U) (.cons (q3.mono U) .nil))
    have ey:fD e c=(cR (λi j=>HT.lexLt ((b.map (·.1)).getD i []) ((b.map (·.1)).getD j [])) b.length).map λi=>V.ref (e.getD i 0):=by unfold fD cJ;rw[A,X]
    have fin:=B (cR (λi j=>HT.lexLt ((b.map (·.1)).getD i []) ((b.map (·.1)).getD j [])) b.length) λi u=>Zq.mp ((jW _ _).mem_iff.mp u);rw[<- ey]at fin;unfold vQ;rw[Yu];exact fin
   .cases h
  .cases h
 .cases h
theorem RO(hc:X.calm=b8)(j:X.A.units+64<ZO)(h:X.mg "sorted"=b6)(i:X.mg "tuple"=b6)(d:Gl X "sorted")(e:Gl X "tuple")(n:QE X o k)(q:gU o=b8)(l:(a.endLine==b.line)=b8):
  QE X (.Call (.Name "tuple" p) [.Call (.Name "sorted" r) [.Call (.Attribute o "items" a) [] [] b] [] c] [] pos) (vV k):=
 ⟨cZ (RM hc j h i d e n.h (kS q) l) RN⟩
end L3
namespace L3
open PySem L2 PySem.W PyProof.Rows
theorem RP(K:A.handled=b6)(v:s.heap.IsItemsView r d)(g:RawD s.heap d es ep)(L:es.size<=Yi)(H:∀h' tk c as,(∀b o,s.heap.get? b=b4 o->h'.get? b=b4 o)->h'.get? s.heap.objs.size=b4 (Z6 "list" (as.map Ye).toArray c)->as.length=es.size->PrsAt es s.heap.objs.size h' as->Q (.ref s.heap.objs.size) {s with heap:=h',toks:=tk}):
  Yl (Yv P w) A (call (.type "list") [.ref r]) Q E s:=by
 refine a6n (Q₁:=λk h=>k=.ref s.heap.objs.size/\h={s with heap:=s.heap.push {cls:=.type "list",data:=.seq #[]}}) a5X (a5p _) a5q
  (code_list_new _ ⟨rfl,rfl⟩) λk h j=>?_
 obtain⟨rfl,rfl⟩:=j;have l:(s.heap.push {cls:=.type "list",data:=.seq #[]}).get? s.heap.objs.size=b4 {cls:=.type "list",data:=.seq #[]}:=Yh _ rfl;have M:r<s.heap.objs.size:=let⟨_,n,_⟩:=v;Yc n;have z:=g.lt;refine⟨⟨_,l,rfl⟩,a5f _ _,?_⟩;show Yl _ _ (do let old <- a1I (.ref s.heap.objs.size);a4D (.ref s.heap.objs.size) (λ_=>#[]);letGo old.toList.reverse;ZC (.ref s.heap.objs.size) (.ref r) .none) _ _ _;refine X1 ?_;unfold a1I;refine X1 (a0w l rfl (Yb ?_));show Yl _ _ (a2k s.heap.objs.size (λ_=>#[]) >>= λ_=>letGo (#[]:Array Value).toList.reverse >>= λ_=>ZC (.ref s.heap.objs.size) (.ref r) .none) _ _ _;refine X1 (ZT l rfl ?_);have i:=YM (Y7 (λ_=>(#[]:Array Value))) l rfl;have q:∀b o,b≠s.heap.objs.size->(s.heap.push {cls:=.type "list",data:=.seq #[]}).get? b=b4 o->((s.heap.push {cls:=.type "list",data:=.seq #[]}).update s.heap.objs.size (Y7 (λ_=>(#[]:Array Value)))).get? b=b4 o:=
  λb o J e=>(YF _ _ (YW J)).trans e
 have old:∀b o,s.heap.get? b=b4 o->((s.heap.push {cls:=.type "list",data:=.seq #[]}).update s.heap.objs.size (Y7 (λ_=>(#[]:Array Value)))).get? b=b4 o:=λb o e=>q b o (Yn (Yc e)) (X6 _ e);have p:((s.heap.push {cls:=.type "list",data:=.seq #[]}).update s.heap.objs.size (Y7 (λ_=>(#[]:Array Value)))).objs.size=s.heap.objs.size+1:=by rw[a7Q,ZZ]
 refine X1 (a0x ?_);refine FY (A:=A.in1) (s:={s with heap:=(s.heap.push {cls:=.type "list",data:=.seq #[]}).update s.heap.objs.size (Y7 (λ_=>(#[]:Array Value)))}) K (let⟨o,n,x⟩:=v;⟨o,old _ _ n,x⟩) (g.stay λo e=>old _ _ e) (Zz M) (Yn z) i L (λh' tk y c as N O R u T=>?_);refine⟨rfl,H h' tk c as (λb o e=>N b o (Yn (Yc e)) (old b o e)) ?_ R ⟨u.up,λa I=>?_,u.prs⟩⟩
 .rw[O,<- T,Array.toArray_toList]
 .have B:_<a:=u.over a I;have G:s.heap.objs.size+1<a:=p▸B;exact a0N G
noncomputable def vW:D->Hm->jk
 |.loc a,μ=>match μ[a]? with
  |some (.dT kvs)=>b4 (.loc μ.length,μ++[.lst (kvs.map iN)])|_=>b6
 |_,_=>b6
noncomputable def nR(m:ME):ME:=λb a=>(m b a).bind λr=>vW r.1 r.2
noncomputable def Gd(K:X2):V->Hp->VK->Prop:=λx H Q=>∃a ps,x=.ref a/\H a=b4 (aM a ps)/\dB K H ps /\
 ∀(as:List Addr)(L:Addr),as.length=ps.length->(L::as).Nodup->(∀a∈L::as,H a=b6)->Q (.ref L) (upd (eB H as ps) L (.lst (as.map V.ref)))
theorem Ge:∀as:List Addr,Vals (as.map V.ref) (as.map Ye)
 |[]=>.nil|a::as=>.cons rfl (Ge as)
theorem RQ{σ:L2.St}{ps:aZ}(hc:X.calm=b8)(I:L2.Inv X b0l σ H s)(e:H d=b4 (aM d ps))(hk:dB X.K H ps)(hv:s.heap.IsItemsView r d)(k:∀as L,as.length=ps.length->(L::as).Nodup->(∀a∈L::as,H a=b6)->Q (.ref L) (upd (eB H as ps) L (.lst (as.map V.ref)))):
  Yl (Yv X.prog X.w) X.A (call (.type "list") [.ref r]) (EP X b0l σ Q) X.xe s:=by
 obtain⟨lo,hl,B,rv,z,U,ep,z1,z2,z3,z4,z5,z6⟩:=gY I (.of e) hk;have O:B.length=ps.length:=by have:=rv.length;rw[X3]at this;exact this.symm
 have R:(bG ps B).length=ps.length:=by unfold bG;rw[a6L,O,a9p]
 have K:U.size=ps.length:=by rw[<- a0j,z4,X3,R]
 have G:∀(j:Nat)(n:DictEntry),U[j]?=b4 n->∃p u,ps[j]?=b4 p/\B[j]?=b4 u/\n.key=.ref p.2.1/\n.val=u:=λj n h=>by
  rw[<- ZG,z4,Yo]at h;obtain⟨x,c,rfl⟩:=X5.mp h;unfold bG at c;rw[a3J]at c;cases l:ps[j]? with
  |none=>rw[l]at c;simp at c|some p=>
   cases hw:B[j]? with
   |none=>rw[l,hw]at c;simp at c|some u=>
    rw[l,hw]at c;have:(p.1,p.2.1,u)=x:=by simpa using c
    subst this;exact⟨p,u,rfl,rfl,rfl,rfl⟩
 refine RP (I.ok.hd hc) hv ⟨z,z1,z2,z3⟩ (by lia) λh3 tk n as kp gL E y=>?_;rw[K]at E;have w:as.Nodup:=y.up.imp λh=>Yn h;have T:s.heap.objs.size∉as:=λh=>ZM _ (y.over _ h);have hf:∀a∈s.heap.objs.size::as,H a=none:=λa J=>by
  rcases YN.mp J with rfl|J
  .exact I.hok.fresh (Yd _)
  .exact I.hok.fresh (a0O (y.over a J))
 refine⟨.ref s.heap.objs.size,_,?_,rfl,k as s.heap.objs.size E (YT.mpr ⟨T,w⟩) hf⟩;refine Ga (t':=tk) I kp (λb A=>?_) λb o A i=>?_
 .rw[aN (Yn A),j4 λh=>a9r A (y.over b h)]
 .by_cases q:b=s.heap.objs.size
  .subst q;rw[bN]at i;cases i;exact⟨by rw[X3,E];exact hl,as.map Ye,n,Ge as,gL⟩
  .rw[aN q]at i;by_cases v:b∈as
   .obtain⟨j,M⟩:=a0G.mp v;have N:j<ps.length:=by have:=(X8.mp M).1;lia
    have l:ps[j]?=b4 ps[j]:=Yg N;rw[pT w M l]at i;cases i;obtain⟨x,x1,x2⟩:=y.prs j _ M;obtain⟨p,u,Z,p2,p3,p4⟩:=G j x x1;rw[l]at Z;cases Z;obtain⟨u',Y,g2⟩:=rv.get (i:=j) (x:=ps[j].2.2) (by rw[Yo,l];rfl);rw[p2]at Y;cases Y;rw[p3,p4]at x2;exact⟨by show(2:Nat)<=Yi;decide,[.ref ps[j].2.1,u],.cons rfl (.cons g2 .nil),_,x2,rfl,0,rfl,rfl⟩
   .rw[j4 v,I.hok.fresh A]at i;cases i
theorem RR(hc:X.calm=b8)(n:X.mg "list"=b6)(l:Gl X "list")(L:PE X o to)(i:a0Y o "items" X.env (eval o X.env)=eval o X.env)(j:(c.endLine==d.line)=b8):
  PE X (.Call (.Name "list" p) [.Call (.Attribute o "items" c) [] [] d] [] pos) (λσ H Q=>to σ H λx k=>Gd X.K x k Q):=by
 intro b0l s σ H Q I h;refine Zk (fB I l n a0Z ?_);refine Zp ?_ rfl rfl;refine a1S ?_;refine a3M i j (aJ (L b0l s σ H _ I h) λv r ⟨x,k,u,N,a,T,G,e,w,q⟩=>?_);subst G;obtain rfl:v=Ye a:=N;obtain⟨M,R,E,B,g,O⟩:=rZ u e w;refine⟨"dict","dict.items",a1N,a0q,a3d,g.ty,λb A=>?_,a1a rfl (a3V ?_)⟩
 .cases A;obtain⟨z,J,K,_⟩:=g;exact⟨z,J,K.2.1⟩
 refine a2q a0q g.ty a2U (a2Q _) (Ad a M) ⟨⟨E,B,g⟩,?_⟩;refine a2c ?_;have y:Inv X b0l σ k {r with heap:=r.heap.push {cls:=.type "dict_items",data:=.fields #[.ref a]}}:=u.kept (t':=r.toks) λb o e=>X6 _ e;exact RQ hc y e w ⟨_,Yh _ rfl,rfl,rfl⟩ q
theorem RS{K:X2}:∀σ H Q,tM K (nR I) σ H Q->tM K I σ H λx p=>Gd K x p Q:=by
 rintro σ H Q ⟨π,ρ,μ,d,μ',R,E,n,k⟩;obtain⟨⟨x,h⟩,h1,n⟩:=X0.mp n;refine⟨π,ρ,μ,x,h,R,E,h1,λo v1 p O A i1=>?_⟩;have k1:=k.after O;dsimp only at n;unfold vW at n;split at n
 .split at n
  .rename_i b hc;cases n;cases i1;obtain⟨e,U,T⟩:=gF A hc;have el:e.length=b.length:=by have:=congrArg Zf T.to.1;simpa using this
   refine⟨_,e,rfl,U,T.keys,λc L al nd G=>?_⟩;rw[YT]at nd;obtain⟨v,M⟩:=Aj (ps:=e) A nd.2 λa ha=>G a (YK _ ha);have hL:eB p c e L=none:=by rw[j4 nd.1];exact G L (YQ ..)
   have r:IsDs K o h.length (eB p c e) (c.map V.ref) (b.map iN):=by
    have z:∀q:List Nat,(∀i∈q,i<b.length)->IsDs K o h.length (eB p c e) (q.map λi=>V.ref (c.getD i 0)) (q.map λi=>iN (b.getD i ([],.non))):=λq u=>by
     induction q with
     |nil=>exact .nil|cons i q ih=>
      have l:=u i (YQ ..);have w:c[i]?=b4 (c.getD i 0):=by simp[Zm,show i<c.length by lia]
      have y:e[i]?=b4 e[i]:=Yg (by lia);have B:b.getD i ([],.non)=b[i]:=by simp[Zm,l]
      have ep:e.getD i ([],0,.non)=e[i]:=by simp[Zm,show i<e.length by lia]
      have J:=F1 T ([],0,.non) ([],.non) i (by lia);rw[ep,B]at J;obtain⟨q1,q2,q3⟩:=J;refine .cons ?_ (ih λj hj=>u j (YK _ hj));show IsD K o h.length _ (.ref (c.getD i 0)) (iN (b.getD i ([],.non)));rw[B];have ik:IsD K o h.length p (.ref e[i].2.1) (.tup (b[i].1.map D.int)):=by rw[<- q1];exact .tup q2 (u9 _)
      exact .tup (.of (pT nd.2 w y)) (.cons (ik.mono v) (.cons (q3.mono v) .nil))
    have:=z (YR b.length) λi l=>Zq.mp l;have Z:(YR b.length).map (λi=>V.ref (c.getD i 0))=c.map V.ref:=by
     apply a3h;intro i;rw[Yo,Yo];by_cases l:i<b.length
     .rw[a2H l,Yg (show i<c.length by lia)];simp[Zm,show i<c.length by lia]
     .rw[ZS (by simp;lia),ZS (by lia)];rfl
    have e6:(YR b.length).map (λi=>iN (b.getD i ([],.non)))=b.map iN:=by
     apply a3h;intro i;rw[Yo,Yo];by_cases l:i<b.length
     .rw[a2H l,Yg l];simp[Zm,l]
     .rw[ZS (by simp;lia),ZS (by lia)];rfl
    rw[Z,e6]at this;exact this
   obtain⟨Y,N,_⟩:=M.alloc (c:=.lst (b.map iN)) (o:=.lst (c.map V.ref)) hL r;exact k1 _ _ _ (v.trans Y) N iX
  .cases n
 .cases n
theorem RT(hc:X.calm=b8)(d:X.mg "list"=b6)(c:Gl X "list")(i:QE X o e)(j:gU o=b8)(h:(a.endLine==b.line)=b8):
  QE X (.Call (.Name "list" p) [.Call (.Attribute o "items" a) [] [] b] [] pos) (nR e):=
 ⟨cZ (RR hc d c i.h (kS j) h) RS⟩
end L3
namespace L3
open PySem L2
theorem Gf(h:A.handled=b6)(j:IsItemIter s.heap it d i es.size ep ok ov)(g:RawD s.heap d es ep)(q1:∀e a,es[i]?=b4 e->a4M a it d (i+1) es.size ep e.key e.val s.heap.objs.size->a.get? s.heap.objs.size=b4 {cls:=.type "tuple",data:=.seq #[e.key,e.val]}->
   (∀b o,b≠it->s.heap.get? b=b4 o->a.get? b=b4 o)->Q (b4 (.ref s.heap.objs.size)) {s with heap:=a})(q2:es[i]?=b6->∀a,a3i it s.heap a->Q b6 {s with heap:=a}):Yl (Yv P w) A (a0X (.ref it)) Q E s:=
 Ac (S:=d) h j (.inl rfl) g g.lt (λe a c _ o l _ k=>q1 e a c (o rfl) l k) q2
noncomputable def Ak(d:Addr)(a:Obj)(ps:aZ):It:=⟨λi H=>H d=b4 (.frz a (aM d ps))/\i<ps.length,λi H x H'=>∃t p,x=.ref t/\H t=b6/\ps[i]?=b4 p/\H'=upd H t (.tup [.ref p.2.1,p.2.2]),λi H=>H d=b4 (.frz a (aM d ps))/\ps.length<=i⟩
theorem RU(hd:ob.data=.dict es ep):Turn Qc P w K (.Tuple el kx pt) (Ak d ob ps) [j] j (λi h=>∃ok q,IsItemIter h j d i es.size ep ok q) where
 mem:=by simp
 obj:=λi h ⟨ok,q,st⟩ b p=>by
  have e:b=j:=by simpa using p
  subst e;exact⟨_,st,λv z=>by
   have z':Zg _=a3s v:=z;cases z'⟩
 keep:=λi h R ⟨ok,q,st⟩ k=>⟨ok,q,k j (by simp) _ st⟩;item:=by
  intro X U hw T hc i M s σ H E I J ⟨ok,q,st⟩ Z;subst U hw T;obtain⟨n,y⟩:=Z;obtain⟨lo,hl,O,N,g,a,L⟩:=nQ I n;rw[hd]at a;cases a;obtain⟨_,_,es2,ep2,_,x,he⟩:=Rv I n;rw[hd]at x;cases x;have hs:es.size=ps.length:=by have:=congrArg Zf L;simpa using this
  refine Gf (I.ok.hd hc) st g (λe R l a1 a2 a3=>⟨_,rfl,wpAny_letOwnedTupleGo_items a1 λh2 b1 G=>?_⟩) λhn=>by simp at hn;lia
  have hp:ps[i]?=b4 ps[i]:=Yg y;have ek:e.key=.ref (ps[i]).2.1:=by have:=congrArg (·[i]?) L;simp only[Yo,ZG,l,hp,YG]at this;exact Ym this
  obtain⟨u,u1,u2⟩:=he.get (i:=i) (x:=ps[i].2.2) (by rw[Yo,hp];rfl);rw[Yo,ZG,l]at u1;cases u1;have B:j<s.heap.objs.size:=Yc st;have ht2:h2.get? s.heap.objs.size=b4 {cls:=.type "tuple",data:=.seq #[e.key,e.val]}:=(G.2 _ (Zz B)).trans a2;have Y:H s.heap.objs.size=none:=I.hok.fresh (Yd _);refine⟨.ref s.heap.objs.size,upd H s.heap.objs.size (.tup [.ref (ps[i]).2.1,(ps[i]).2.2]),?_,rfl,⟨_,ps[i],rfl,Y,hp,rfl⟩,⟨_,_,b1⟩,λc p=>?_⟩
  .refine zV (s:=s) (h':=h2) (t':=s.toks) (ch:=[j]) I (λc oc p ec=>?_) J (Yd _) ?_
   .have r:c≠j:=by simpa using p
    exact(G.2 c r).trans (a3 c oc r ec)
   .exact⟨by show(2:Nat)<=Yi;decide,[e.key,e.val],.cons ek (.cons u2 .nil),_,ht2,rfl,0,rfl,rfl⟩
  .rw[aN]
   .exact(J c p).1
   .have e:c=j:=by simpa using p
    rw[e];exact Yn B
 done:=by
  intro X U hw T hc i M s σ H E I J ⟨ok,q,st⟩ Z;subst U hw T;obtain⟨n,y⟩:=Z;obtain⟨lo,hl,O,N,g,a,L⟩:=nQ I n;rw[hd]at a;cases a;have hs:es.size=ps.length:=by have:=congrArg Zf L;simpa using this
  obtain⟨f0,f1,f2,f3,f4,f5⟩:=J j (by simp);exact Gf (I.ok.hd hc) st g (λe R l=>by
   have:=(Zx.mp l).1;lia) λ_ R eb=>⟨rfl,I.turned (t':=s.toks) (λb o p e=>eb b o p e) f0 f1 f3 f4 f5⟩
 self:=λA i s Q E ⟨ok,q,st⟩ h=>PySem.W.kcp_self st h
theorem RV(K:PE X l M)(j:a0Y l "items" X.env (eval l X.env)=eval l X.env)(k:(a.endLine==c.line)=b8):
  PI X (.Tuple G L pt) (.Call (.Attribute l "items" a) [] [] c) (λr H R=>M r H λv n=>∃d A B,v=.ref d/\n d=b4 (.frz A (aM d B))/\R (Ak d A B) n):=by
 intro i s r H R I h;refine a3M j k (aJ (K i s r H _ I h) λv p ⟨y,n,E,r1,q1⟩=>?_);obtain⟨d,A,B,e,J,q⟩:=q1;subst e;obtain rfl:v=Ye d:=r1;obtain⟨lo,K,T,O,g,hd,he⟩:=nQ E J;refine⟨"dict","dict.items",a1N,a0q,a3d,g.ty,λb N=>?_,a1a rfl (a3V ?_)⟩
 .cases N;obtain⟨z,Y,w,_⟩:=g;exact⟨z,Y,w.2.1⟩
 refine a2q a0q g.ty a2U (a2Q _) (Ad d lo) ⟨⟨T,O,g⟩,?_⟩;have u:Inv X i r n {p with heap:=p.heap.push {cls:=.type "dict_items",data:=.fields #[.ref d]}}:=E.kept (t':=p.toks) λb o e=>X6 _ e;obtain⟨lo2,hl2,U,Q,w,x,he2⟩:=nQ u J;show Yl (Yv X.prog X.w) X.A (a5A (.ref p.heap.objs.size)) (xJ X i r (.Tuple G L pt) R) X.xe _;refine FX ⟨_,Yh _ rfl,rfl,rfl⟩ w ⟨_,[_],_,_,n,rfl,u.kept (t':=p.toks) λb o e=>X6 _ e,RU x,⟨_,_,Yh _ rfl⟩,λb Z=>?_,q⟩;have e:=YA.mp Z;subst e;exact u.fpOk (Yd _) (u.hok.fresh (Yd _))
noncomputable def nU(kvs:jx):List D:=kvs.map λk=>.tup [.tup (k.1.map D.int),k.2]
theorem RW{ps:aZ}(j:H d=b4 (.frz o (aM d ps)))(T:IsTs K π n H ps kvs):Wk K (Ak d o ps) (dX (.tup (nU kvs))) π n H:=by
 have I:ps.length=kvs.length:=by have:=congrArg Zf T.to.1;simpa using this
 refine⟨λh E q i e R z=>?_,λh E q i r e R z=>?_⟩
 .have a:(nU kvs)[i]?=none:=Ym z;have:=YV.mp a;rw[nU,X3]at this;exact⟨e.frz _ _ _ j,by lia⟩
 .have a:(nU kvs)[i]?=b4 r:=Ym z;have B:i<kvs.length:=by have:=(X8.mp a).1;rwa [nU,X3]at this
  refine⟨⟨e.frz _ _ _ j,by lia⟩,λv G ⟨t,p,s,u,w,x⟩=>?_⟩;subst s x;have b:kvs[i]?=b4 kvs[i]:=Yg B;obtain⟨J,k,y⟩:=(T.to.2.1.mono e).get (i:=i) (d:=D.tup ((kvs[i]).1.map D.int)) (by rw[Yo,b];rfl);obtain⟨L,l,A⟩:=(T.to.2.2.mono e).get (i:=i) (d:=(kvs[i]).2) (by rw[Yo,b];rfl);rw[Yo,w]at k l;cases k;cases l;obtain⟨c,R2⟩:=R.fresh (o:=.tup [.ref p.2.1,p.2.2]) u;rw[nU,Yo,b]at a;cases a;exact⟨c,R2,.tup (.of bN) (.cons (y.mono c) (.cons (A.mono c) .nil))⟩
theorem RX(k:PE X l j):PE X l (λσ H Q=>j σ H λv a=>∃d ps,v=.ref d/\a d=b4 (aM d ps)/\∀c,Q v (upd a d (.frz c (aM d ps)))):=by intro b s σ H Q I h;refine aJ (k b s σ H _ I h) λv r ⟨y,a,i,p,o⟩=>?_;obtain⟨d,ps,rfl,e,q⟩:=o;obtain⟨_,⟨c,n⟩,_⟩:=(show ObjOk X.prog X.w a r.heap d (aM d ps)from i.hok _ _ e);exact⟨_,_,Inv.freeze i e n,p,q c⟩
noncomputable def Gg(m:ME):MI:=λc b=>(m c b).bind λp=>match p.1 with
 |.loc a=>match p.2[a]? with
  |some (.dT kvs)=>b4 (dX (.tup (nU kvs)),kvs.length+1,p.2.set a (.dF kvs))|_=>b6
 |_=>b6
theorem RY(h:QE X e m)(y:gU e=b8)(w:(a.endLine==b.line)=b8):QJT X (.Call (.Attribute e "items" a) [] [] b) (Gg m):=⟨λes N pt b0l s σ H R I hw=>by
 obtain⟨K,L,B,A,n,G,r,E,c,k⟩:=hw;obtain⟨⟨x,J⟩,v,c⟩:=X0.mp c;dsimp only at c;split at c
 .split at c
  .rename_i j hc;cases c;refine RV (RX h.h) (kS y) w b0l s σ H R I ⟨K,L,B,_,_,r,E,v,λo O M u p z=>?_⟩;cases z;obtain⟨d,q,T⟩:=gF p hc;refine⟨_,d,rfl,q,λl=>?_⟩;obtain⟨i,R2⟩:=p.put (c:=.dF j) (o:=.frz l (aM _ d)) (X8.mp hc).1 q (.inr (.inr ⟨_,rfl⟩)) ⟨l,d,rfl,T.to⟩;exact⟨_,l,d,rfl,bN,k o _ _ (u.trans i) R2 (RW bN (IsTs.of T.to.1 (T.to.2.1.mono i) (T.to.2.2.mono i)))⟩
  .cases c
 .cases c⟩
open PyProof.Rows (IsTup IntsAre)
noncomputable def sF(h:Y5)(v:Value)(p:Int×Int):Prop:=∃a xs,v=.ref a/\a9g h a xs/\a1R xs.toList [p.1,p.2]
theorem RZ(c:A.units<ZO)(a:sF s.heap u p)(b:sF s.heap v q)(h:Q (.bool (HT.lexLt [p.1,p.2] [q.1,q.2])) s):Yl (Yv P w) A (a1L .Lt u v) Q E s:=by obtain⟨a,k,rfl,i,d⟩:=a;obtain⟨b,l,rfl,j,e⟩:=b;exact HT.lt_tupInts i j d e c h
theorem R0(N:A.units+2<ZO)(a:sF s.heap u p)(b:sF s.heap v q)(h:Q (.bool (HT.lexLt [q.1,q.2] [p.1,p.2])) s):Yl (Yv P w) A (a1L .Gt u v) Q E s:=by
 obtain⟨a,J,rfl,⟨B,n,r,O,M⟩,d⟩:=a;obtain⟨b,K,rfl,⟨G,l,o,R,L⟩,j⟩:=b;obtain⟨J⟩:=J;obtain⟨K⟩:=K;refine wpAny_richCompare_same_room (op:=.Gt) ⟨B,n,r⟩ ⟨G,l,o⟩ F.slot_tuple_gt (a0b F.slot_tuple_gt ⟨B,n,r⟩ F.entry_tuple_gt ?_ (F.args_tuple_gt_2 _ _)) (by lia);refine X1 (m:=a6l (.ref b) (.type "tuple")) (a1Q ⟨G,l,o⟩ isSubtype_tuple_tuple ?_);simp only[a2r,YH,if_false];refine X1 (a8x n M (X1 (a8x l L (X1 ?_))));cases d with
 |cons x t d=>
 cases d with
 |cons T H d=>
 cases d;cases j with
 |cons y u j=>
 cases j with
 |cons U I j=>
 cases j;show Yl _ _ (forIn [(Zh p.1 t,Zh q.1 u),(Zh p.2 H,Zh q.2 I)] _ _) _ _ s;simp only[a8i,List.forIn_nil];have c:∀(i:Int)(t:a5W),(a0P P w).is i (.int i t)=true:=λi t=>by simp[a0P,a6r]
 refine X1 (X1 ((a0P P w).eqBool (c p.1 t) (c q.1 u) ?_));by_cases e:p.1=q.1
 .rw[decide_eq_true e];simp only[a2r,YH,if_false];refine Yb (X1 (X1 ((a0P P w).eqBool (c p.2 H) (c q.2 I) ?_)));by_cases k:p.2=q.2
  .rw[decide_eq_true k];rw[e,k,vP]at h;simp only[a2r,YH,if_false];exact Yb (Yb (Yb ⟨.bool b7,rfl,(λz=>nomatch z),h⟩))
  .rw[decide_eq_false k];simp only[a3T,if_true];refine X1 (a1K (X1 (a5g ?_)));have:HT.lexLt [q.1,q.2] [p.1,p.2]=decide (q.2<p.2):=by simp[HT.lexLt,e,YW k]
   rw[this]at h;exact X1 (Yb (Yb (Yb (Yb ⟨_,rfl,(λz=>nomatch z),h⟩))))
 .rw[decide_eq_false e];simp only[a3T,if_true];refine X1 (a1K (X1 (a5g ?_)));have:HT.lexLt [q.1,q.2] [p.1,p.2]=decide (q.1<p.1):=by simp[HT.lexLt,YW e]
  rw[this]at h;exact X1 (Yb (Yb (Yb (Yb ⟨_,rfl,(λz=>nomatch z),h⟩))))
theorem R6{St:Nat->Y5->Prop}(K:Walks P w A.in1 I U B 2 (λi v=>(#[a,b]:Array Value)[i]?=b4 v) St)(N:S∉U)(st:St 0 s.heap)(H:s.heap.get? S=b4 {cls:=.type "list",dict:=b6,data:=.seq #[] z,slots:=#[]})(hc:∀t (Q E:Value->X7->Prop),(∀x o,x∉B->x≠S->s.heap.get? x=b4 o->t.heap.get? x=b4 o)->Q (.bool c) t->Yl (Yv P w) A.in1 (a1L .Lt b a) Q E t)(q:∀Z tk,(∀x o,x∉B->x≠S->s.heap.get? x=b4 o->Z.get? x=b4 o)->R (.ok (.ret (if c then b else a))) {s with heap:=Z,toks:=tk}):a1z (Yv P w) A (.builtin "min.loop" ⟨[.ref I,.none,.ref S],[]⟩) R s:=by
 have r:S∉B:=λz=>N (K.sub _ z);have O:(toString "min"++toString ".loop":String)="min.loop":=by decide
 have d:∀{h:Y5}{u:Value}(x:Addr)(o:Obj),x≠S->h.get? x=b4 o->(h.update S (Y7 λ_=>#[u,u])).get? x=b4 o:=λx o n e=>(YF _ _ (YW n)).trans e;refine ZE F.entry_min_loop ?_;rw[Zd F.plain_min_loop _];refine X1 (m:=a2D (.ref S)) (a0w H rfl (X1 (m:=tryCatch (a0X (.ref I)) _) (a0m (K.item 0 s _ _ (by decide) st λv h1 tk1 pv T L=>?_))));obtain rfl:a=v:=by simpa using pv
 refine X1 (m:=a2k S λ_=>#[a,a]) (ZT (L S _ r H) rfl ?_);rw[O];refine Yb ⟨ZW F.plain_min_loop _,ZE F.entry_min_loop ?_⟩;rw[Zd F.plain_min_loop _];have X:=YM (Y7 λ_=>#[a,a]) (L S _ r H) rfl;refine X1 (m:=a2D (.ref S)) (a0w X rfl (X1 (m:=tryCatch (a0X (.ref I)) _) (a0m (K.item 1 _ _ _ (by decide) (K.frame _ _ _ T λx J o e=>d x o (λz=>N (z▸J)) e) λv h2 tk2 pv y k2=>?_))));obtain rfl:b=v:=by simpa using pv
 have M:∀x o,x∉B->x≠S->s.heap.get? x=b4 o->h2.get? x=b4 o:=λx o j k e=>k2 x o j (d x o k (L x o j e));have G:=k2 S _ r X;show Yl _ A.in1 (tryCatch (holding [b,b] (a1L .Lt b a >>= _)) _ >>= _) _ _ _;refine X1 (a0m (YS (X1 (hc _ _ _ M (X1 (YS (ZF (X1 (a0x (Yb ?_))))))))));cases c with
 |true=>simp only[if_true]at q ⊢;refine X1 (ZT G rfl (X1 (a0x ?_)));rw[O];refine Yb ⟨ZW F.plain_min_loop _,ZE F.entry_min_loop ?_⟩;rw[Zd F.plain_min_loop _];have Y:=YM (Y7 λ_=>#[b,b]) G rfl;refine X1 (m:=a2D (.ref S)) (a0w Y rfl (X1 (m:=tryCatch (a0X (.ref I)) _) (a0m (K.done _ _ _ (K.frame _ _ _ y λx J o e=>d x o (λz=>N (z▸J)) e) λh4 l p=>?_))));refine X1 (m:=a2k S λ_=>#[]) (ZT (p S _ r Y) rfl (X1 (a0x (Yb ?_))));exact q _ l λx o j k e=>(YF _ _ (YW k)).trans (p x o j (d x o k (M x o j k e)))|false=>simp only[YH,if_false]at q ⊢;refine X1 (a0x ?_);rw[O];refine Yb ⟨ZW F.plain_min_loop _,ZE F.entry_min_loop ?_⟩;rw[Zd F.plain_min_loop _];refine X1 (m:=a2D (.ref S)) (a0w G rfl (X1 (m:=tryCatch (a0X (.ref I)) _) (a0m (K.done _ _ _ y λh4 l p=>?_))));refine X1 (m:=a2k S λ_=>#[]) (ZT (p S _ r G) rfl (X1 (a0x (Yb ?_))));exact q _ l λx o j k e=>(YF _ _ (YW k)).trans (p x o j (M x o j k e))
theorem R8(v:A.handled=b6)(hc:∀t (Q E:Value->X7->Prop),(∀x o,s.heap.get? x=b4 o->t.heap.get? x=b4 o)->Q (.bool c) t->Yl (Yv P w) A.in1 (a1L .Lt b a) Q E t)(q:∀i n,(∀x o,s.heap.get? x=b4 o->i.get? x=b4 o)->Q (if c then b else a) {s with heap:=i,toks:=n}):Yl (Yv P w) A (call (.builtin "min") [a,b]) Q E s:=by
 have y:(toString "min"++toString ".loop":String)="min.loop":=by decide
 refine a8E F.kind_min F.plain_min F.entry_min (F.args_min2 _ _) ?_;refine X1 (m:=a3R "min" ["key","default"] 0 ⟨[],[]⟩) (a4i (show _=pure [b6,b6]from rfl) ?_);refine X1 (m:=a6i [a,b]) (Zi ?_);have p:(s.heap.push {cls:=.type "tuple",data:=.seq #[a,b]}).IsTuple s.heap.objs.size #[a,b]:=⟨_,Yh _ rfl,rfl,0,rfl⟩;have j:(s.heap.push {cls:=.type "tuple",data:=.seq #[a,b]}).objs.size=s.heap.objs.size+1:=ZZ ..;refine X1 (a1l p (X1 (Zi ?_)));have d:((s.heap.push {cls:=.type "tuple",data:=.seq #[a,b]}).push {cls:=.type "tuple_iterator",data:=.fields #[.ref s.heap.objs.size,.int 0 0]}).objs.size=s.heap.objs.size+2:=by rw[ZZ,j]
 rw[y];have old:∀x o,s.heap.get? x=b4 o->x<s.heap.objs.size:=λx o e=>Yc e;refine Yb ⟨ZW F.plain_min_loop _,R6 (c:=c) (a4J (A:=A.in1) v _ s.heap.objs.size (by rw[j];exact Yn (Z9 _)) #[a,b]) ?_ ⟨⟨_,X6 _ (Yh _ rfl),rfl,rfl⟩,(p.push _).push _⟩ (Yh _ rfl) (λt u r k h=>hc t u r (λx o e=>?_) h) λi n k=>q i n λx o e=>?_⟩
 .rw[d,j];simp
 all_goals
  have l:=old x o e;refine k x o (λz=>?_) (λz=>?_) (X6 _ (X6 _ (X6 _ e)))
  .rw[j]at z;rw[YA.mp z]at l;exact ZM _ (a0N l)
  .rw[z,d]at l;exact ZM _ (a0N (a0N l))
theorem Sa{St:Nat->Y5->Prop}(K:Walks P w A.in1 I U B 2 (λi v=>(#[a,b]:Array Value)[i]?=b4 v) St)(N:S∉U)(st:St 0 s.heap)(H:s.heap.get? S=b4 {cls:=.type "list",dict:=b6,data:=.seq #[] z,slots:=#[]})(hc:∀t (Q E:Value->X7->Prop),(∀x o,x∉B->x≠S->s.heap.get? x=b4 o->t.heap.get? x=b4 o)->Q (.bool c) t->Yl (Yv P w) A.in1 (a1L .Gt b a) Q E t)(q:∀Z tk,(∀x o,x∉B->x≠S->s.heap.get? x=b4 o->Z.get? x=b4 o)->R (.ok (.ret (if c then b else a))) {s with heap:=Z,toks:=tk}):a1z (Yv P w) A (.builtin "max.loop" ⟨[.ref I,.none,.ref S],[]⟩) R s:=by
 have r:S∉B:=λz=>N (K.sub _ z);have O:(toString "max"++toString ".loop":String)="max.loop":=by decide
 have d:∀{h:Y5}{u:Value}(x:Addr)(o:Obj),x≠S->h.get? x=b4 o->(h.update S (Y7 λ_=>#[u,u])).get? x=b4 o:=λx o n e=>(YF _ _ (YW n)).trans e;refine ZE F.entry_max_loop ?_;rw[Zd F.plain_max_loop _];refine X1 (m:=a2D (.ref S)) (a0w H rfl (X1 (m:=tryCatch (a0X (.ref I)) _) (a0m (K.item 0 s _ _ (by decide) st λv h1 tk1 pv T L=>?_))));obtain rfl:a=v:=by simpa using pv
 refine X1 (m:=a2k S λ_=>#[a,a]) (ZT (L S _ r H) rfl ?_);rw[O];refine Yb ⟨ZW F.plain_max_loop _,ZE F.entry_max_loop ?_⟩;rw[Zd F.plain_max_loop _];have X:=YM (Y7 λ_=>#[a,a]) (L S _ r H) rfl;refine X1 (m:=a2D (.ref S)) (a0w X rfl (X1 (m:=tryCatch (a0X (.ref I)) _) (a0m (K.item 1 _ _ _ (by decide) (K.frame _ _ _ T λx J o e=>d x o (λz=>N (z▸J)) e) λv h2 tk2 pv y k2=>?_))));obtain rfl:b=v:=by simpa using pv
 have M:∀x o,x∉B->x≠S->s.heap.get? x=b4 o->h2.get? x=b4 o:=λx o j k e=>k2 x o j (d x o k (L x o j e));have G:=k2 S _ r X;show Yl _ A.in1 (tryCatch (holding [b,b] (a1L .Gt b a >>= _)) _ >>= _) _ _ _;refine X1 (a0m (YS (X1 (hc _ _ _ M (X1 (YS (ZF (X1 (a0x (Yb ?_))))))))));cases c with
 |true=>simp only[if_true]at q ⊢;refine X1 (ZT G rfl (X1 (a0x ?_)));rw[O];refine Yb ⟨ZW F.plain_max_loop _,ZE F.entry_max_loop ?_⟩;rw[Zd F.plain_max_loop _];have Y:=YM (Y7 λ_=>#[b,b]) G rfl;refine X1 (m:=a2D (.ref S)) (a0w Y rfl (X1 (m:=tryCatch (a0X (.ref I)) _) (a0m (K.done _ _ _ (K.frame _ _ _ y λx J o e=>d x o (λz=>N (z▸J)) e) λh4 l p=>?_))));refine X1 (m:=a2k S λ_=>#[]) (ZT (p S _ r Y) rfl (X1 (a0x (Yb ?_))));exact q _ l λx o j k e=>(YF _ _ (YW k)).trans (p x o j (d x o k (M x o j k e)))|false=>simp only[YH,if_false]at q ⊢;refine X1 (a0x ?_);rw[O];refine Yb ⟨ZW F.plain_max_loop _,ZE F.entry_max_loop ?_⟩;rw[Zd F.plain_max_loop _];refine X1 (m:=a2D (.ref S)) (a0w G rfl (X1 (m:=tryCatch (a0X (.ref I)) _) (a0m (K.done _ _ _ y λh4 l p=>?_))));refine X1 (m:=a2k S λ_=>#[]) (ZT (p S _ r G) rfl (X1 (a0x (Yb ?_))));exact q _ l λx o j k e=>(YF _ _ (YW k)).trans (p x o j (M x o j k e))
theorem Sb(v:A.handled=b6)(hc:∀t (Q E:Value->X7->Prop),(∀x o,s.heap.get? x=b4 o->t.heap.get? x=b4 o)->Q (.bool c) t->Yl (Yv P w) A.in1 (a1L .Gt b a) Q E t)(q:∀i n,(∀x o,s.heap.get? x=b4 o->i.get? x=b4 o)->Q (if c then b else a) {s with heap:=i,toks:=n}):Yl (Yv P w) A (call (.builtin "max") [a,b]) Q E s:=by
 have y:(toString "max"++toString ".loop":String)="max.loop":=by decide
 refine a8E F.kind_max F.plain_max F.entry_max (F.args_max2 _ _) ?_;refine X1 (m:=a3R "max" ["key","default"] 0 ⟨[],[]⟩) (a4i (show _=pure [b6,b6]from rfl) ?_);refine X1 (m:=a6i [a,b]) (Zi ?_);have p:(s.heap.push {cls:=.type "tuple",data:=.seq #[a,b]}).IsTuple s.heap.objs.size #[a,b]:=⟨_,Yh _ rfl,rfl,0,rfl⟩;have j:(s.heap.push {cls:=.type "tuple",data:=.seq #[a,b]}).objs.size=s.heap.objs.size+1:=ZZ ..;refine X1 (a1l p (X1 (Zi ?_)));have d:((s.heap.push {cls:=.type "tuple",data:=.seq #[a,b]}).push {cls:=.type "tuple_iterator",data:=.fields #[.ref s.heap.objs.size,.int 0 0]}).objs.size=s.heap.objs.size+2:=by rw[ZZ,j]
 rw[y];have old:∀x o,s.heap.get? x=b4 o->x<s.heap.objs.size:=λx o e=>Yc e;refine Yb ⟨ZW F.plain_max_loop _,Sa (c:=c) (a4J (A:=A.in1) v _ s.heap.objs.size (by rw[j];exact Yn (Z9 _)) #[a,b]) ?_ ⟨⟨_,X6 _ (Yh _ rfl),rfl,rfl⟩,(p.push _).push _⟩ (Yh _ rfl) (λt u r k h=>hc t u r (λx o e=>?_) h) λi n k=>q i n λx o e=>?_⟩
 .rw[d,j];simp
 all_goals
  have l:=old x o e;refine k x o (λz=>?_) (λz=>?_) (X6 _ (X6 _ (X6 _ e)))
  .rw[j]at z;rw[YA.mp z]at l;exact ZM _ (a0N l)
  .rw[z,d]at l;exact ZM _ (a0N (a0N l))
noncomputable def Al(x:D):Option (Int×Int):=(cN x).bind λk=>match k with
 |[a,b]=>b4 (a,b)|_=>b6
noncomputable def vX(f:Int×Int->Int×Int->Bool)(g:MF):MF:=λds a=>match ds with
 |[x,y]=>(match Al x,Al y with
  |some p,b4 q=>b4 (if f p q then y else x,a)
  |_,_=>g ds a)
 |_=>g ds a
noncomputable def Am:MF:=vX (λp q=>HT.lexLt [q.1,q.2] [p.1,p.2]) zT
noncomputable def An:MF:=vX (λp q=>HT.lexLt [p.1,p.2] [q.1,q.2]) zU
inductive rMm (f:Int×Int->Int×Int->Bool)(K:X2):gz->Hp->VK->Prop
 |mk {H:Hp}{Q:VK}{a b:Addr}{p q:Int×Int}(ha:SqT K H a ([p.1,p.2].map V.int))(hb:SqT K H b ([q.1,q.2].map V.int))(k:Q (.ref (if f p q then b else a)) H):rMm f K [.ref a,.ref b] H Q
theorem Gh(h:Al x=b4 p):x=.tup ([p.1,p.2].map D.int):=by
 obtain⟨k,b,a⟩:=X0.mp h;rw[rO b];split at a
 .cases a;rfl
 .cases a
theorem sG{p:List Int}(h:IsD K π n H v (.tup (p.map D.int))):∃a,v=.ref a/\SqT K H a (p.map V.int):=by
 cases h with
 |@tup a c ds b hd=>have:=ints_of' hd;subst this;exact⟨a,rfl,b⟩
theorem Gi(j:dQ K g r):dQ K (vX f g) (λxs H Q=>rMm f K xs H Q\/r xs H Q):=by
 intro h H s xs d e q Q R i c k;unfold vX at c;split at c
 .split at c
  .rename_i u v;cases c;cases i with
   |cons l t=>
   cases t with
   |cons n t=>
   cases t;have o:=l;have p:=n;rw[Gh u]at o;rw[Gh v]at p;obtain⟨a,rfl,w⟩:=sG o;obtain⟨b,rfl,x⟩:=sG p;refine .inl (.mk w x (k h _ H .refl R ?_));split
   .exact n
   .exact l
  .exact .inr (j h H s _ d e q Q R i c k)
 .exact .inr (j h H s _ d e q Q R i c k)
theorem vY{σ:St}(I:Inv X b0l σ H s)(h:SqT X.K H a ([p.1,p.2].map V.int))(c:∀x o,s.heap.get? x=b4 o->h'.get? x=b4 o):sF h' (.ref a) p:=by obtain⟨b,r,⟨o,e,z⟩,_⟩:=I.tuple h;exact⟨a,_,rfl,⟨o,c _ _ e,z⟩,xZ r⟩
theorem Se(hc:X.calm=b8)(o:X.A.units+64<ZO):CallR X (.builtin "min") (rMm (λp q=>HT.lexLt [q.1,q.2] [p.1,p.2]) X.K):=by intro b s z H y x Q I r h;obtain⟨c,d,k⟩:=h;obtain⟨u,v,rfl,e,i⟩:=qU r;cases e;cases i;refine R8 (I.ok.hd hc) (λt l j a h=>RZ (by rw[iY];lia) (vY I d a) (vY I c a) h) λn w a=>⟨_,H,I.kept a,?_,k⟩;split<;>rfl
theorem Sf(hc:X.calm=b8)(o:X.A.units+64<ZO):CallR X (.builtin "max") (rMm (λp q=>HT.lexLt [p.1,p.2] [q.1,q.2]) X.K):=by intro b s z H y x Q I r h;obtain⟨c,d,k⟩:=h;obtain⟨u,v,rfl,e,i⟩:=qU r;cases e;cases i;refine Sb (I.ok.hd hc) (λt l j a h=>R0 (by rw[iY];lia) (vY I d a) (vY I c a) h) λn w a=>⟨_,H,I.kept a,?_,k⟩;split<;>rfl
end L3
namespace L3
open PySem L2 PySem.W PyProof.Rows
noncomputable abbrev Ti:=List Int×List Int×Bool×List Int
noncomputable def j5:Ti:=([],[],b7,[])
noncomputable def vZ(x y:Ti):Bool:=if x.1=y.1 then(if x.2.1=y.2.1 then(if x.2.2.1=y.2.2.1 then HT.lexLt x.2.2.2 y.2.2.2 else y.2.2.1)else HT.lexLt x.2.1 y.2.1)else HT.lexLt x.1 y.1
section
variable{P:Yt}{w:YL}{A:YI}{E:Value->X7->Prop}{s:X7}
inductive TiAt (P:Yt)(w:YL)(h:Y5)(a:Addr)(t:Ti):Prop
 |mk (o:Obj)(n:Nat)(b c e:Addr)(g:h.get? a=b4 o)(k:o.cls=.type "tuple") (d:o.data=.seq #[.ref b,.ref c,.bool t.2.2.1,.ref e] n)(h1:jA P w h b t.1)(h2:jA P w h c t.2.1)(h3:jA P w h e t.2.2.2)
theorem Sg(h:a≠b):a2P A s (.bool a) (.bool b) false:=λprog w E Q q=>by unfold eqBool;refine YS ?_;rw[if_neg (by simpa using h)];refine X1 (SeqAt.RcAt.bool_bool a b prog w E _ (ZF ?_));rw[show(a==b)=b7 by simpa using h];exact q
theorem Ao(h:A.units<ZO)(d:jA P w s.heap b k)(a:jA P w s.heap c k')(q1:k=k'->KatLex P w A b7 fin Q r (i+1) s)(q2:k≠k'->Q (HT.lexLt k k') s):
  KatLex P w A b7 fin Q ((.ref b,.ref c)::r) i s:=by
 refine a6j ((a1s (a0P P w)).eqBool h d.1 a.1 ?_);by_cases e:k=k'
 .rw[decide_eq_true e];exact a8W (q1 e)
 .rw[decide_eq_false e];obtain⟨p,n,j⟩:=d.2;obtain⟨q,o,l⟩:=a.2;exact kat_no (kat_one _ _ (HT.lt_tupInts n o (by simpa using j) (by simpa using l) h (q2 e)))
theorem Sh{C:Bool->X7->Prop}(h:A.units<ZO)(x:TiAt P w s.heap a t)(y:TiAt P w s.heap i t')(q:C (vZ t t') s):Yl (Yv P w) A (keyLt' (tuples' b7) (.ref a) (.ref i)) C (λ_ _=>False) s:=by
 obtain⟨o,n,b,c,e,g,_,d,B,G,H⟩:=x;obtain⟨M,L,j,k,p,r,_,l,I,J,K⟩:=y;unfold vZ at q;refine kat_lt g d r l ?_;show KatLex P w A b7 _ C [(.ref b,.ref j),(.ref c,.ref k),(.bool t.2.2.1,.bool t'.2.2.1),(.ref e,.ref p)] 0 s;refine Ao h B I (λz=>?_) λz=>by rw[if_neg z]at q;exact q
 rw[if_pos z]at q;refine Ao h G J (λz=>?_) λz=>by rw[if_neg z]at q;exact q
 rw[if_pos z]at q;by_cases f:t.2.2.1=t'.2.2.1
 .rw[if_pos f]at q;rw[f];refine a6j (FZ (a8W (Ao h H K (λz=>kat_nil ?_) λ_=>q)));rw[z,vP]at q;exact q
 .rw[if_neg f]at q;refine a6j (Sg f P w _ _ (kat_no (kat_one _ _ (lt_bool ?_))));have:decide (b2i t.2.2.1<b2i t'.2.2.1)=t'.2.2.1:=by generalize t.2.2.1=u at f;generalize t'.2.2.1=v at f;cases u<;>cases v<;>first|exact absurd rfl f|decide
  rw[this];exact q
theorem Si{as:List Addr}{ts:List Ti}(K:A.units<ZO)(I:0<as.length)(x:ts.length=as.length)(d:∀i,i<as.length->TiAt P w s.heap (as.getD i 0) (ts.getD i j5)):pR P w A (as.map Ye) (λi j=>vZ (ts.getD i j5) (ts.getD j j5)) s:=by
 have p:∃fs:gw,fs.length=as.length/\KatTups s.heap (as.map Ye) fs/\∀v∈fs,∃b k,v=Ye b/\jA P w s.heap b k:=by
  clear I;induction as generalizing ts with
  |nil=>exact⟨[],rfl,.nil,λv h=>nomatch h⟩|cons a as L=>
   match ts,x with
   |t::ts,x=>
    obtain⟨fs,y,q,r⟩:=L (ts:=ts) (by simpa using x) λi l=>by simpa using d (i+1) (by simpa using l)
    obtain⟨o,n,b,c,e,z,B,G,H,_⟩:=d 0 (by simp);refine⟨.ref b::fs,by simp[y],.cons z B G (by simp) q,λv h=>?_⟩;rcases YN.mp h with rfl|h
    .exact⟨b,_,rfl,H⟩
    .exact r v h
 obtain⟨fs,y,q,r⟩:=p;refine kat_kind (T:=.type "tuple") q (by lia) (λv h=>?_) (by decide) ⟨rfl,λi j C l u J=>?_⟩
 .obtain⟨b,k,rfl,M⟩:=r v h;obtain⟨N,⟨o,o1,o2,_⟩,_⟩:=M.2;exact kitAt_ty _ _ ⟨o,o1,o2⟩
 .rw[X3]at l u;rw[show(as.map Ye).getD i .none=.ref (as.getD i 0) by simp[Zm,l],show(as.map Ye).getD j .none=.ref (as.getD j 0) by simp[Zm,u]];exact Sh K (d i l) (d j u) J
theorem Sj(d:us.length<64)(h:s.heap.IsList l us.toArray)(H:2<=us.length->∀c,(∀b o,s.heap.get? b=b4 o->c.get? b=b4 o)->pR P w A.in1.in1 us an {s with heap:=c})(q:Q (.ref (s.heap.objs.size+1)) {s with heap:=sortedAll s.heap us ((cR an us.length).map λi=>us.getD i Y3).toArray}):Yl (Yv P w) A (call (.builtin "sorted") [.ref l]) Q E s:=by
 have k:us.length<=Yi:=by rw[Yz];lia
 refine a5w kind_sorted plain_sorted entry_sorted (args_sorted1 _) ?_;unfold a6z;refine X1 (m:=checkCount "sorted" 1 1 _) (Yb (X1 (collect_list h (X1 (a4F ?_ (by lia))) (by lia))));have z:((s.heap.push (Z6 "list" #[] 0)).update s.heap.objs.size (Y7 (·++us.toArray))).objs.size=s.heap.objs.size+1:=by rw[a7Q,size_push']
 have g:(((s.heap.push (Z6 "list" #[] 0)).update s.heap.objs.size (Y7 (·++us.toArray))).push (Z6 "list" us.toArray 0)).get? (s.heap.objs.size+1)=b4 (Z6 "list" us.toArray 0):=z▸Yh _ rfl;show Yl _ _ _ _ _ ⟨((s.heap.push (Z6 "list" #[] 0)).update s.heap.objs.size (Y7 (·++us.toArray))).push (Z6 "list" us.toArray 0),s.gens,s.drawn,s.toks,s.os⟩;rw[z];by_cases a:2<=us.length
 .refine X1 (YS (a0b a4j ⟨_,g,rfl⟩ a3Z (F0 a d g (λc j=>H a c λb o e=>j b o ?_ ?_) ⟨_,rfl,?_⟩) (a4l _)))
  .exact Yn (a1o (Yc e))
  .exact X6 _ ((YF _ _ (Zz (Yc e))).trans (X6 _ e))
  .exact Yb ⟨_,rfl,q⟩
 .refine X1 (YS (a0b a4j ⟨_,g,rfl⟩ a3Z (EO (us:=us) (by lia) g ⟨_,rfl,?_⟩) (a4l _)));refine Yb ⟨_,rfl,?_⟩;match us,a,q with
  |[],_,q=>rw[a1g,zL]at q;exact q|[b],_,q=>rw[a3I,ER]at q;exact q|_::_::_,a,_=>simp at a
end
noncomputable def sH:D->Option Ti
 |.tup [x,y,.bl b,z]=>(cN x).bind λk=>(cN y).bind λm=>(cN z).map λn=>(k,m,b,n)|_=>b6
noncomputable def dM(t:Ti):D:=.tup [.tup (t.1.map D.int),.tup (t.2.1.map D.int),.bl t.2.2.1,.tup (t.2.2.2.map D.int)]
theorem Sk(h:sH x=b4 t):x=dM t:=by
 unfold sH at h;split at h
 .obtain⟨k,a,h⟩:=X0.mp h;obtain⟨m,b,h⟩:=X0.mp h;obtain⟨n,c,rfl⟩:=X5.mp h;rw[rO a,rO b,rO c];rfl
 .cases h
noncomputable def sI:List D->Option (List Ti)
 |[]=>b4 []|x::r=>(sH x).bind λt=>(sI r).map (t::·)
theorem Gj:∀{xs}{ts},sI xs=b4 ts->xs=ts.map dM
 |[],_,h=>by cases h;rfl
 |x::xs,ts,h=>by obtain⟨t,a,h⟩:=X0.mp h;obtain⟨r,b,rfl⟩:=X5.mp h;rw[Sk a,Gj b];rfl
noncomputable def kZ(ts:List Ti):Nat->Nat->Bool:=λi j=>vZ (ts.getD i j5) (ts.getD j j5)
noncomputable def nV:MF:=λds b=>match ds with
 |[x]=>(eX b x).bind λc=>(sI c).bind λa=>if a.length<64 then b4 (.loc b.length,b++[.lst ((cR (kZ a) a.length).map λi=>c.getD i .non)])else b6|_=>b6
inductive TiV (K:X2)(H:Hp)(v:V)(t:Ti):Prop
 |mk (a b c e:Addr)(g:v=.ref a)(s:SqT K H a [.ref b,.ref c,.bl t.2.2.1,.ref e])(s1:SqT K H b (t.1.map V.int))(s2:SqT K H c (t.2.1.map V.int))(s3:SqT K H e (t.2.2.2.map V.int))
inductive rSortTi (K:X2):gz->Hp->VK->Prop
 |mk {H:Hp}{Q:VK}{q:Addr}{ws:gz}{ts:List Ti}(hq:SqL K H q ws)(hw:a2G (TiV K H) ws ts)(h:ws.length<64)(k:∀l,H l=b6->Q (.ref l) (upd H l (.lst ((cR (kZ ts) ws.length).map λi=>ws.getD i .non)))):rSortTi K [.ref q] H Q
theorem Gk{K:X2}:∀{vs}{ts},IsDs K π n H vs (ts.map dM)->a2G (TiV K H) vs ts
 |_,[],h=>by cases h;exact .nil
 |_,t::ts,h=>by
  cases h with
  |cons h r=>
  refine .cons ?_ (Gk r);cases h with
  |@tup a vs ds l hd=>
  cases hd with
  |cons d hd=>
  cases hd with
  |cons i hd=>
  cases hd with
  |cons j hd=>
  cases hd with
  |cons k hd=>
  cases hd;cases j;obtain⟨b,rfl,o⟩:=sG d;obtain⟨c,rfl,p⟩:=sG i;obtain⟨e,rfl,q⟩:=sG k;exact⟨a,b,c,e,rfl,l,o,p,q⟩
theorem Sm{K:X2}:dQ K nV (rSortTi K):=by
 intro z H y x d v w Q R i a k;unfold nV at a;split at a
 .obtain⟨u,o,a⟩:=X0.mp a;obtain⟨c,r,a⟩:=X0.mp a;split at a
  .rename_i s;cases a;cases i with
   |cons i t=>
    cases t;obtain⟨p,h,rfl,q,hd⟩:=pI R i o;have b:=hd;rw[Gj r]at b;have j:h.length=c.length:=by rw[b.length,X3]
    refine .mk q (Gk b) (by rw[j];exact s) λl e=>?_;obtain⟨n,R2,_⟩:=R.alloc (c:=.lst ((cR (kZ c) c.length).map λi=>u.getD i .non)) (o:=.lst ((cR (kZ c) h.length).map λi=>h.getD i .non)) e (by
     show IsDs _ _ _ _ _ _;rw[j];exact Fh hd _)
    exact k _ _ _ n R2 iX
  .cases a
 .cases a
theorem Gm(h:Vals vs us):∀l:List Nat,Vals (l.map λi=>vs.getD i .non) (l.map λi=>us.getD i .none)
 |[]=>.nil|i::l=>by
  refine .cons ?_ (Gm h l);have z:=h.length;cases e:vs[i]? with
  |some v=>obtain⟨u,a,b⟩:=h.get e;simp only[Zm,e,a];exact b|none=>have:=h.none_of e;simp only[Zm,e,this];rfl
theorem Ap{σ:L2.St}(I:Inv X b0l σ H s)(h:SqT X.K H b (k.map V.int)):jA X.prog X.w s.heap b k:=by obtain⟨a,r,t,_⟩:=I.tuple h;exact⟨jY I h,a,t,xZ r⟩
theorem Sn(hun:X.A.units+64<ZO):CallR X (.builtin "sorted") (rSortTi X.K):=by
 intro B s σ H xs us Q I r h;obtain⟨O,hw,E,k⟩:=h;rename_i q M v;obtain⟨u,rfl,l⟩:=fQ r;cases l;obtain⟨j,A,T,R⟩:=I.list O;have p:=A.length;have G:v.length=M.length:=hw.length.symm;have y:∃w:List Addr,j=w.map Ye/\∀i,i<w.length->∃b c e,SqT X.K H (w.getD i 0) [.ref b,.ref c,.bl (v.getD i j5).2.2.1,.ref e]/\SqT X.K H b ((v.getD i j5).1.map V.int)/\SqT X.K H c ((v.getD i j5).2.1.map V.int)/\SqT X.K H e ((v.getD i j5).2.2.2.map V.int):=by
  clear R T k O I p G E;induction hw generalizing j with
  |nil=>cases A;exact⟨[],rfl,λi x=>nomatch x⟩|cons h _ ih=>
   cases A with
   |cons K L=>
    obtain⟨w,e,f⟩:=ih _ L;obtain⟨a,b,c,d,rfl,t,t1,t2,t3⟩:=h;cases K;refine⟨a::w,by rw[e];rfl,λi x=>?_⟩;cases i with
    |zero=>exact⟨b,c,d,t,t1,t2,t3⟩|succ i=>simpa using f i (by simpa using x)
 obtain⟨w,N,pr⟩:=y;have hal:w.length=j.length:=by rw[N,X3]
 refine Sj (us:=j) (an:=kZ v) (by lia) T.isList (λh2 h3 kp=>?_) ?_
 .rw[N];refine Si (by rw[iY,iY];lia) (by lia) (by lia) λi x=>?_;obtain⟨b,c,e,g,g1,g2,g3⟩:=pr i x;have J:Inv X B σ H {s with heap:=h3,toks:=s.toks}:=I.kept (t':=s.toks) kp;obtain⟨us,l,⟨o,U,Y,n,Z⟩,_⟩:=J.tuple g;cases l with
  |cons K l=>
  cases l with
  |cons L l=>
  cases l with
  |cons r3 l=>
  cases l with
  |cons r4 l=>
  cases l;cases K;cases L;cases r3;cases r4;exact⟨o,n,b,c,e,U,Y,Z,Ap J g1,Ap J g2,Ap J g3⟩
 .obtain⟨e,he⟩:=sortedAll_at s.heap j ((cR (kZ v) j.length).map λi=>j.getD i Y3).toArray;refine⟨.ref (s.heap.objs.size+1),_,I.laid (t':=s.toks) (a:=s.heap.objs.size+1) (o:=.lst ((cR (kZ v) M.length).map λi=>M.getD i .non)) (λb ob z=>sortedAll_old z) (a1w _) ?_,rfl,k _ (I.hok.fresh (a1w _))⟩;refine⟨?_,_,e,?_,he⟩
  .rw[X3,(jW _ _).length_eq,ZV];exact R
  .rw[<- p];exact Gm A _
end L3
namespace L3
open PySem L2
section
variable{P:Yt}{w:YL}{K:Type} [DecidableEq K] {knd:a8m P w K}{A:YI}{E:Value->X7->Prop}{s:X7}{d o a:Addr}{k:K}{xs ys:List (K×Addr×Value)}
theorem So(N:knd.room A)(J:knd.is s.heap k a)(M:s.heap.DictOfH knd d xs)(hz:xs.length<=Yi)(q:∀h',h'.DictOfH knd d (a2J xs k a v)->a0i d s.heap h'->Q () {s with heap:=h'}):
  Yl (Yv P w) A (a4I d (.ref a) (knd.hash k) v) Q E s:=by
 obtain⟨O,L,H,c,hc,hd,B,i,r⟩:=id M;unfold a4I;refine YS (X1 (a8o N J c hd B i r (λu=>?_) λj p I=>?_))
 .have n:=a8Y u;have z:k∉xs.map (·.1):=a8p u;refine X1 (a1K (a7U (hz:=by have e:=a3X B;lia) c hd (q _ ⟨_,_,H+1,YM _ c (a2M (a0M hd _)),hc.mapDictKeys _,a0M hd _,?_,λx b=>?_,?_⟩ (Zo ..))))
  .rw[a2N n];simp[B,a4R]
  .rw[a2N n]at b;rcases YU.mp b with b|b
   .exact knd.keeps (i x b) c hd (Zo ..)
   .rw[YA]at b;subst b;exact knd.keeps J c hd (Zo ..)
  .rw[a2N n,YC,a0K];exact⟨r,by simp,λx b y G e=>by
    simp only[Yk,a4q,YA]at G;subst G;exact z (e▸b)⟩
 .have h:=atKey_of_get r I;refine X1 (a1K (X1 (wpAny_updateDict c hd (a7X (q _ ⟨_,_,H,YM _ c (a2M (a8f hd _)),hc.mapDict _,a8f hd _,?_,λx b=>?_,?_⟩ (Zo ..))))))
  .have t:=modify_map_putAt (a4R knd) (λe:DictEntry=>{e with val:=v}) k v (λ_ _=>rfl) r I;rw[a7Z h];rw[<- B]at t;obtain⟨l⟩:=L;simpa using t
  .rw[a7Z h]at b;obtain⟨y,G,rfl⟩:=Yw.mp b;unfold putAt;split<;>exact knd.keeps (i y G) c hd (Zo ..)
  .rw[a7Z h,keys_map_putAt];exact r
noncomputable def iO(xs ys:List (K×Addr×Value)):List (K×Addr×Value):=ys.foldl (λacc x=>a2J acc x.1 x.2.1 x.2.2) xs
theorem Sq xs(k:K)a v:(a2J xs k a v).length<=xs.length+1:=by
 unfold a2J;split
 .rw[X3];lia
 .rw[Yr];exact Yd _
theorem Gn:∀(ys xs:List (K×Addr×Value)),(iO xs ys).length<=xs.length+ys.length
 |[],xs=>Yd _|y::ys,xs=>by have b:=Gn ys (a2J xs y.1 y.2.1 y.2.2);have c:=Sq xs y.1 y.2.1 y.2.2;show(iO (a2J xs y.1 y.2.1 y.2.2) ys).length<=_;rw[YB];lia
theorem Gp:∀(ys xs:List (K×Addr×Value)),((xs++ys).map (·.1)).Nodup->iO xs ys=xs++ys
 |[],xs,_=>(Zw xs).symm|y::ys,xs,h=>by
  have b:a3O xs y.1=none:=by
   unfold a3O;rw[a0E.mpr]
   .rfl
   .intro x c;rw[decide_eq_true_iff];intro e;rw[YC,Yk]at h;exact(a0K.mp h).2.2 x.1 (Yw.mpr ⟨x,c,rfl⟩) y.1 (.head _) e
  show iO (a2J xs y.1 y.2.1 y.2.2) ys=_;rw[a2N b,Gp ys _ (by rw[a0u];exact h),a0u];rfl
theorem Ss(hu:knd.room A)(r:(d==o)=b7)(hoS:(o==ZA)=b7)(hd:s.heap.DictOfH knd d xs)(ho:s.heap.DictOfH knd o ys)(tt:∀y∈ys,s.TypeIs (.ref y.2.1) "tuple")(nh:(ys.map λy=>knd.hash y.1).Nodup)(hz:xs.length+ys.length<=Yi)(q:∀c,c.DictOfH knd d (iO xs ys)->a0i d s.heap c->Q () {s with heap:=c}):Yl (Yv P w) A (a4O nm d o) Q E s:=by
 obtain⟨od,ed,epd,U,d2,J,d4,d5,d6⟩:=id hd
 obtain⟨oo,h,epo,o1,o2,I,T,o5,o6⟩:=id ho
 have hne:d≠o:=λe=>by rw[e,beq_self_eq_true]at r;cases r
 have lo:=a3X T
 unfold a4O
 rw[if_neg (by rw[r];exact Yj)]
 unfold a0W
 rw[if_neg (by rw[hoS];exact Yj)]
 refine X1 (Yb (X1 (ZY o1 I ?_)))
 have n:Yl (Yv P w) A (do
   let p <- dictEpoch o
   let l <- dictEntries o
   forIn [:l.size] a5h λi (_:PUnit)=>(do
     let l' <- dictEntries o
     match l'[i]? with
      |some e=>do
       holding [e.key,e.val] (a4I d e.key e.hash e.val)
       let Z <- dictEpoch o
       if(Z != p)=b8 then do
         (unsupported (toString nm++toString ":source-changed-during-callback"):a8s PUnit)
         pure (a0p a5h)
        else pure (a0p a5h)
      |_=>do
       (unsupported "internal:dict-merge":a8s PUnit)
       pure (a0p a5h):a8s (ForInStep PUnit))
   pure ()) Q E s:=by
  refine X1 (a2f o1 I (X1 (ZY o1 I (X1 ?_))))
  rw[a8r]
  simp only[a8q,a6y,Nat.add_sub_cancel,Nat.div_one]
  refine a5x _ (λrest _ s'=>∃c i,s'={s with heap:=c}/\rest=a3f i (h.size-i)/\i<=h.size/\c.DictOfH knd d (iO xs (ys.take i))/\c.get? o=b4 oo/\(∀y∈ys,knd.is c y.1 y.2.1)/\a0i d s.heap c)
   _ ?_ ?_ _ _ ⟨s.heap,0,rfl,by simp,a0l _,by rw[a2g];exact hd,o1,o5,a2x _ _⟩
  .rintro x rest b s' ⟨c,i,rfl,v,hi,j,u,H,B⟩
   have hlt:i<h.size:=by
    rcases a9q i h.size with z|z
    .exact z
    .rw[Nat.sub_eq_zero_of_le z]at v;cases v
   rw[show h.size-i=(h.size-(i+1))+1 by lia,a3p]at v
   injection v with e1 e2
   subst e1
   have hx:x<ys.length:=by lia
   have en:=entry_at T x
   rw[Yg hx]at en
   refine X1 (ZY u I ?_)
   rw[en]
   have hl2:(iO xs (ys.take x)).length<=Yi:=by
    have:=Gn (ys.take x) xs
    rw[Zs]at this
    lia
   obtain⟨od',_,_,X,_,Y,_⟩:=id j
   show Yl _ _ (holding [_,_] (a4I d (.ref ys[x].2.1) (knd.hash ys[x].1) ys[x].2.2) >>= _) _ _ _
   refine X1 (YS (So (s:={s with heap:=c}) hu (H _ (a0U hx)) j hl2 λh2 L G=>?_))
   have O:h2.get? o=b4 oo:=(G.2 o (YW hne)).trans u
   refine X1 (a2f (s:={s with heap:=h2}) O I ?_)
   rw[if_neg (by simp)]
   refine Yb ⟨h2,x+1,rfl,e2,hlt,?_,O,λy R=>knd.keeps (H y R) X Y G,B.trans G⟩
   have et:ys.take (x+1)=ys.take x++[ys[x]]:=by rw[a0T,Yg hx];rfl
   rw[et]
   unfold iO at L ⊢
   rw[List.foldl_append]
   exact L
  .rintro b s' ⟨c,i,rfl,v,hi,j,u,H,B⟩
   have hin:i=h.size:=by
    rcases a9q i h.size with z|z
    .rw[show h.size-i=(h.size-(i+1))+1 by lia,a3p]at v;exact nomatch v
    .exact Nat.le_antisymm hi z
   rw[hin,lo,Z8]at j
   exact Yb (q c j B)
 dsimp only
 split
 .refine X1 (ZY U J ?_)
  split
  .rename_i M
   have xn:xs=[]:=by
    have z:ed=#[]:=a7d.mp M
    have:=a3X d4
    rw[z]at this
    exact a1W.mp this.symm
   subst xn
   have ek:h.toList.map (·.key)=(ys.map (·.2.1)).map Ye:=by
    rw[T,Yu,Yu]
    rfl
   refine X1 (RK (bs:=ys.map (·.2.1)) ⟨oo,o1,o2,I⟩ ek (λb hb=>?_) ?_ ?_)
   .obtain⟨y,R,rfl⟩:=Yw.mp hb
    exact tt y R
   .rw[T,Yu]
    exact nh
   have em:iO [] ys=ys:=Gp ys [] o6
   rw[em]at q
   split
   .refine X1 (wpAny_updateDictKeysTo U J (Yb (q _ ⟨_,_,epd+1,YM _ U (a2M (a0M J _)),d2.mapDictKeys _,a0M J _,T,λy R=>knd.keeps (o5 y R) U J (Zo ..),o6⟩ (Zo ..))) ?_)
    rw[a1g,Nat.zero_add]at hz
    lia
   .rename_i N
    have z:h=#[]:=a7d.mp (by simpa using N)
    have yn:ys=[]:=by
     rw[z]at lo
     exact a1W.mp lo.symm
    subst yn
    exact Yb (q _ hd (a2x _ _))
  .exact n
 .exact n
theorem Su(knd:a8m P w K)d o:a9f P w (Builtin.«dict.update» ⟨[.ref d,.ref o],[]⟩) (λA R s=>knd.room A.in1/\(d==o)=b7/\(o==ZA)=b7/\∃xs ys,s.heap.DictOfH knd d xs/\s.heap.DictOfH knd o ys/\(∀y∈ys,s.TypeIs (.ref y.2.1) "tuple")/\(ys.map λy=>knd.hash y.1).Nodup/\xs.length+ys.length<=Yi /\
   ∀b,b.DictOfH knd d (iO xs ys)->a0i d s.heap b->R (.ok (.ret .none)) {s with heap:=b}):=
 .of_wp λA R s ⟨l,h,i,xs,ys,hd,c,r,p,n,q⟩=>by unfold Builtin.«dict.update»;refine X1 ?_;unfold a4s;refine X1 (a1u hd.typeIs (Yb ?_));show Yl _ _ (a1x "dict.update" d (.ref o) [] .none) _ _ s;unfold a1x;refine X1 (a3c c.typeIs ?_);rw[if_neg (by decide)];refine X1 ?_;unfold a9W a9T;refine X1 (X1 (a1Q c.typeIs isSubtype_dict_dict ?_));simp only[a2r,YH,if_false];refine X1 (a2d c.typeIs F.slot_dict_iter.lookup (Yb ?_));simp only[beq_self_eq_true,if_true];refine X1 (Yb (Ss l h i hd c r p n λb e j=>?_));show Yl _ _ (a4t d [] >>= _) _ _ _;exact X1 (Yb (Yb ⟨.none,rfl,q b e j⟩))
end
noncomputable def nW(ps qs:aZ):aZ:=qs.foldl (λq p=>dJ q p.1 p.2.1 p.2.2) ps
noncomputable def pU(kvs more:jx):jx:=more.foldl (λq p=>bS q p.1 p.2) kvs
noncomputable def nX:D->List D->Hm->jk
 |.loc a,[.loc b],μ=>match μ[a]?,μ[b]? with
  |some (.dT kvs),b4 (.dT more)=>if kvs.length+more.length<=Yi/\(more.map λp=>Tb.hashT p.1).Nodup/\a≠b then b4 (.non,μ.set a (.dT (pU kvs more)))else b6|_,_=>b6
 |_,_,_=>b6
noncomputable def Gq(K:X2):V->gz->Hp->VK->Prop:=λx vs H Q=>∃a b ps qs,x=.ref a/\vs=[.ref b]/\H a=b4 (aM a ps)/\dB K H ps/\H b=b4 (aM b qs)/\dB K H qs/\a≠b/\ps.length+qs.length<=Yi/\(qs.map λp=>Tb.hashT p.1).Nodup/\Q .non (upd H a (aM a (nW ps qs)))
theorem IsTs.upd:∀{qs}{more},IsTs K π n H qs more->∀{ps}{kvs},IsTs K π n H ps kvs->IsTs K π n H (nW ps qs) (pU kvs more)
 |_,_,.nil,_,_,h=>h|p::qs,m::more,.cons e t,ps,kvs,h=>by obtain⟨b,c,d⟩:=e;have a:=h.put p.1 c d;rw[show bS kvs p.1 m.2=bS kvs m.1 m.2 by rw[b]]at a;exact IsTs.upd t a
theorem Gr:∀qs ps,(nW ps qs).length<=ps.length+qs.length
 |[],ps=>Yd _|q::qs,ps=>by have a:=Gr qs (dJ ps q.1 q.2.1 q.2.2);have b:=rV ps q.1 q.2.1 q.2.2;show(nW (dJ ps q.1 q.2.1 q.2.2) qs).length<=_;rw[YB];lia
theorem Gs:∀{qs}{us},Vals (qs.map (·.2.2)) us->∀{ps}{ws},Vals (ps.map (·.2.2)) ws->∃a,Vals ((nW ps qs).map (·.2.2)) a/\iO (bG ps ws) (bG qs us)=bG (nW ps qs) a
 |[],_,.nil,ps,ws,r=>⟨ws,r,rfl⟩|q::qs,_,.cons ru t,ps,ws,r=>by obtain⟨i,d,b⟩:=vH r q.1 q.2.1 ru;obtain⟨h,e,c⟩:=Gs t d;refine⟨h,e,?_⟩;show iO (a2J (bG ps ws) q.1 q.2.1 _) (bG qs _)=_;rw[b];exact c
theorem Sv:i7 K nX (Gq K):=by
 intro L H U x N d J v M Q R z i a k;unfold nX at a;split at a
 .split at a
  .rename_i j more hc h;split at a
   .rename_i y;obtain⟨O,G,I⟩:=y;cases a;cases z with
    |loc n=>
     cases i with
     |cons A t=>
      cases t;cases A with
      |loc w=>
       obtain⟨o,l,T⟩:=gF R hc;obtain⟨c,r,b⟩:=gF R h;have B:=congrArg Zf T.to.1;have E:=congrArg Zf b.to.1;rw[X3,X3]at B E;obtain⟨s,q⟩:=R.put (c:=.dT (pU j more)) (o:=aM _ (nW o c)) n l (.inr (.inr ⟨_,rfl⟩)) ⟨_,rfl,(b.upd T).to⟩;refine⟨_,_,o,c,rfl,rfl,l,T.keys,r,b.keys,λe=>I (R.inj _ _ n w e),by lia,?_,k L _ _ s q .non⟩;have u:(c.map λp=>Tb.hashT p.1)=(c.map (·.1)).map Tb.hashT:=by rw[Yu];rfl
       rw[u,b.to.1,Yu];exact G
   .cases a
  .cases a
 .cases a
theorem Sw(U:X.A.units+1<ZO):jJ X "dict.update" (Gq X.K):=by
 intro z s σ H x vs v us Q I w rv h;obtain⟨a,b,ps,l,rfl,rfl,e,M,B,c,ne,Z,nh,q⟩:=h;cases w;obtain⟨u,rfl,ru⟩:=fQ rv;obtain rfl:u=Ye b:=ru;obtain⟨T,hl,ws,r,d⟩:=gY I (.of e) M;obtain⟨k,N,o,n,A⟩:=gY I (.of B) c;have len:∀{ps:aZ}{ws:gw},Vals (ps.map (·.2.2)) ws->(bG ps ws).length=ps.length:=λr=>by have:=congrArg Zf (kX r);rwa [X3,X3]at this
 refine a2q a5e d.typeIs PySem.F.entry_dict_update (PySem.F.args_dict_update_2 _ _) (Su (a1s (a0P X.prog X.w)) a b) ⟨nM U,beq_eq_false_iff_ne.mpr ne,k,_,_,d,A,λy Y=>?_,?_,by rw[len r,len n];exact Z,λK i ss=>?_⟩
 .obtain⟨p,O,J⟩:=z8 Y;obtain⟨its,w,⟨ot,E,j,_⟩,_⟩:=I.tuple (c p O);rw[<- J.2];exact⟨ot,E,j⟩
 .have G:((bG l o).map λy=>(a1s (a0P X.prog X.w)).hash y.1)=l.map λp=>Tb.hashT p.1:=by have:=congrArg (a8t Tb.hashT) (kX n);rw[Yu,Yu]at this;exact this
  rw[G];exact nh
 .obtain⟨w2,r2,j⟩:=Gs n r;rw[j]at i;have L:∃q,K.get? a=b4 q:=let⟨q,_,_,R,_⟩:=i;⟨q,R⟩;exact⟨.non,_,t6 I (by rw[e];exact a1c) ss L (rW T (by have:=Gr l ps;lia) r2 i),rfl,q⟩
structure Sig where
 fn:List (Str×Nat)
 con:List (Str×D)
 tab:List (Str×List (aU×D))
 no:List Str
 dIt:List Str
 dEq:List Str
 dMe:List Str
 cls:List (Str×Str):=[]
 sup:List (Str×List Str):=[]
 rz:List Str:=[]
 uf:List (Str×Stmt):=[]
 ul:List (Str×Stmt):=[]
structure Cs where
 N:List Str
 ks:List (Str×a0Q)
noncomputable def eZ(x:Str):List Str->Option Nat
 |[]=>b6|y::r=>if x=y then b4 0 else(eZ x r).map (·+1)
theorem j6:∀{N}{i},eZ x N=b4 i->N[i]?=b4 x
 |[],_,h=>by cases h
 |y::r,i,h=>by
  unfold eZ at h;split at h
  .rename_i e;cases h;subst e;rfl
  .obtain⟨j,a,b⟩:=X5.mp h;subst b;have:=j6 a;simpa using this
noncomputable def glob(c:Cs)(x:Str):Bool:=decide (c.ks.lookup x=b4 .globalImplicit)&&!(x==("__debug__":Str))
noncomputable def iF(c:Cs)(x:Str):Bool:=(decide (c.ks.lookup x=b4 .local)||decide (c.ks.lookup x=b4 .cell)||decide (c.ks.lookup x=b4 .free))&&!(x==("__debug__":Str))&&!(x==("__classdict__":Str))
noncomputable def gH(c:Cs)(x:Str):Bool:=decide (c.ks.lookup x=b4 .local)||decide (c.ks.lookup x=b4 .cell)
noncomputable def Aq(x:Str):Option String:=
 if x="int" then b4 "int" else if x="bool" then b4 "bool" else if x="str" then b4 "str" else if x="list" then b4 "list" else if x="tuple" then b4 "tuple" else if x="dict" then b4 "dict" else b6
theorem Sx(h:Aq x=b4 n):Z5 x=b4 (.type n)/\x ≠ "__name__":=by
 unfold Aq at h;split at h
 .rename_i e;subst e;cases h;exact⟨a7x,by decide⟩
 split at h
 .rename_i e;subst e;cases h;exact⟨a7y,by decide⟩
 split at h
 .rename_i e;subst e;cases h;exact⟨a7s,by decide⟩
 split at h
 .rename_i e;subst e;cases h;exact⟨a0Z,by decide⟩
 split at h
 .rename_i e;subst e;cases h;exact⟨a2a,by decide⟩
 split at h
 .rename_i e;subst e;cases h;exact⟨a3P,by decide⟩
 .cases h
noncomputable def Ar(S:Sig)(c:Cs)(x:Str):ME:=
 if iF c x=b8 then(match eZ x c.N with|some i=>aA i|none=>aX)
 else if glob c x=b8 then(match S.con.lookup x with
  |some d=>mC d
  |none=>if S.no.contains x=b8 then(match Aq x with|some n=>mC (.ty n)|none=>aX)else aX)
 else aX
noncomputable def eS(r:Expr->ME):List Expr->MA
 |[]=>aD|e::es=>aB (r e) (eS r es)
noncomputable def sJ(op:BoolOp):List ME->ME
 |[]=>aX|[m]=>m|m::r=>match op with
  |.And=>eL m (sJ op r)|.Or=>yH m (sJ op r)
noncomputable def sL(op:BoolOp):List MT->MT
 |[]=>jU|[m]=>m|m::r=>match op with
  |.And=>jL m (sL op r)|.Or=>kK m (sL op r)
noncomputable def Gu(op:a6w)(a b:ME):ME:=match op with
 |.Add=>aC cB a b|.Sub=>aC jP a b|.Mult=>aC eV a b|.FloorDiv=>aC jQ a b|.Mod=>aC bY a b|_=>aX
noncomputable def mE(op:a2b)(ns:Bool)(a b:ME):ME:=match op with
 |.Eq=>aC (bE b7) a b|.NotEq=>aC (bE b8) a b|.Lt=>aC gD a b|.LtE=>aC oR a b|.Gt=>aC q8 a b|.GtE=>aC rA a b|.In=>if ns=b8 then aC (dA b7) a b else aX|.NotIn=>if ns=b8 then aC (dA b8) a b else aX|.Is=>aC (eY b7) a b|.IsNot=>aC (eY b8) a b
noncomputable def pV(r:Expr->ME):Option Expr->MO
 |none=>kL|some e=>jN (r e)
noncomputable def v7(S:Sig)(c:Cs):Expr->Option (List (aU×D))
 |.Name x _=>if glob c x=b8 then S.tab.lookup x else b6|_=>b6
noncomputable def cF:MF:=λds b=>match ds with
 |[.loc a]=>match b[a]? with
  |some (.lst xs)=>b4 (.int xs.length,b)|some (.st ks)=>b4 (.int ks.length,b)|some (.dT kvs)=>b4 (.int kvs.length,b)|_=>b6
 |_=>rB ds b
noncomputable def Au:MF:=λds a=>match ds with
 |[x]=>(a8 a x).map λb=>(.tup b,a)|_=>b6
theorem Sy:dQ K Au (λxs H Q=>∃p ys,xs=[.ref p]/\((SqL K H p ys/\∀l,H l=b6->Q (.ref l) (upd H l (.tup ys)))\/(SqT K H p ys/\Q (.ref p) H))):=by
 intro e H s xs d o r Q R i a k;unfold Au at a;split at a
 .obtain⟨ys,h,j⟩:=X5.mp a;cases j;cases i with
  |cons i t=>
   cases t;obtain⟨p,c,rfl,q,hd⟩:=m7 R i h;refine⟨p,c,rfl,?_⟩;rcases q with q|q
   .refine .inl ⟨q,λl n=>?_⟩;obtain⟨b,R2⟩:=R.fresh (o:=.tup c) n;exact k e _ _ b R2 (.tup (.of bN) (hd.mono b))
   .exact .inr ⟨q,k e _ H .refl R (.tup q hd)⟩
 .cases a
noncomputable def j7:MF:=λds b=>match ds with
 |[.loc a]=>match b[a]? with
  |some (.dT kvs)=>b4 (.loc b.length,b++[.lst (kvs.map λk=>D.tup (k.1.map D.int))])|_=>rF [.loc a] b
 |ds=>rF ds b
theorem Sz:dQ K j7 (λxs H Q=>(∃p ys,xs=[.ref p]/\(SqL K H p ys\/SqT K H p ys)/\∀l,H l=b6->Q (.ref l) (upd H l (.lst ys)))\/FJ K xs H Q):=by
 intro o H n xs d c j Q R i b k;unfold j7 at b;split at b
 .rename_i a;split at b
  .rename_i e u;cases b;cases i with
   |cons i t=>cases t;cases i;obtain⟨h,r,T⟩:=gF R u;refine .inr ⟨_,h,rfl,r,T.keys,λl s=>?_⟩;obtain⟨q,R2,_⟩:=R.alloc (c:=.lst (e.map λk:List Int×D=>D.tup (k.1.map D.int))) (o:=.lst (h.map λp:List Int×Addr×V=>V.ref p.2.1)) s T.to.2.1;exact k _ _ _ q R2 iX
  .exact .inl (DT o H n _ d c j Q R i b k)
 .exact .inl (DT o H n _ d c j Q R i b k)
noncomputable def Av(x:Str):Option MF:=
 if x="len" then b4 cF
 else if x="isinstance" then b4 kN
 else if x="list" then b4 j7
 else if x="tuple" then b4 Au
 else if x="all" then b4 uS
 else if x="sorted" then b4 nV
 else if x="sum" then b4 kW
 else if x="min" then b4 Am else if x="max" then b4 An
 else b6
noncomputable def SA(K:X2):gz->Hp->VK->Prop:=λxs H Q=>yZ K xs H Q\/(∃a L,xs=[V.ref a]/\H a=b4 (t9 a L)/\Q (.int L.length) H)\/FI K xs H Q
theorem SE:dQ K cF (SA K):=by
 intro h H n s d e l Q R i b k;unfold cF at b;split at b
 .rename_i a;split at b
  .rename_i u c;refine .inl (DS h H n _ d e l Q R i ?_ k);simp only[rB,a8,c];exact b
  .rename_i p c;cases b;cases i with
   |cons i t=>cases t;cases i;obtain⟨L,j,o,_⟩:=R.st a p c;have:=congrArg Zf o;rw[X3]at this;refine .inr (.inl ⟨_,L,rfl,j,?_⟩);rw[this];exact k h _ H .refl R (.int _)
  .rename_i q c;cases b;cases i with
   |cons i t=>cases t;cases i;obtain⟨r,j,T⟩:=gF R c;have:=congrArg Zf T.to.1;rw[X3,X3]at this;refine .inr (.inr ⟨_,r,rfl,j,T.keys,?_⟩);rw[this];exact k h _ H .refl R (.int _)
  .cases b
 .exact .inl (DS h H n _ d e l Q R i b k)
theorem SG(a:X.calm=b8)(b:X.A.units+64<ZO)(h:Av x=b4 f):∃v r,Z5 x=b4 v/\((∃id,v=.builtin id)\/∃T,v=.type T)/\CallR X v r/\dQ X.K f r/\x ≠ "__name__":=by
 unfold Av at h;split at h
 .rename_i e;subst e;cases h;exact⟨_,_,a7w,.inl ⟨_,rfl⟩,call_lenM.or (call_lenT.or QY),SE,by decide⟩
 split at h
 .rename_i e;subst e;cases h;exact⟨_,_,a1v,.inl ⟨_,rfl⟩,M4,M3,by decide⟩
 split at h
 .rename_i e;subst e;cases h;exact⟨_,_,a0Z,.inr ⟨_,rfl⟩,call_list_of.or (QZ a),Sz,by decide⟩
 split at h
 .rename_i e;subst e;cases h;exact⟨_,_,a2a,.inr ⟨_,rfl⟩,C7,Sy,by decide⟩
 split at h
 .rename_i e;subst e;cases h;exact⟨_,_,a7z,.inl ⟨_,rfl⟩,OB a,OA rfl,by decide⟩
 split at h
 .rename_i e;subst e;cases h;exact⟨_,_,a3C,.inl ⟨_,rfl⟩,Sn b,Sm,by decide⟩
 split at h
 .rename_i e;subst e;cases h;exact⟨_,_,a7r,.inl ⟨_,rfl⟩,PD a,PC,by decide⟩
 split at h
 .rename_i e;subst e;cases h;exact⟨_,_,a7u,.inl ⟨_,rfl⟩,(Se a b).or (Kw a),Gi PF,by decide⟩
 split at h
 .rename_i e;subst e;cases h;exact⟨_,_,a7v,.inl ⟨_,rfl⟩,(Sf a b).or (Kv a),Gi PH,by decide⟩
 .cases h
noncomputable def Aw(x:Str):Option MF:=
 if x="dict" then b4 nO else
 Av x
theorem SJ(a:X.calm=b8)(b:X.A.units+64<ZO)(h:Aw x=b4 f):∃v r,Z5 x=b4 v/\((∃id,v=.builtin id)\/∃T,v=.type T)/\CallR X v r/\dQ X.K f r/\x ≠ "__name__":=by
 unfold Aw at h;split at h
 .rename_i e;subst e;cases h;exact⟨_,_,a3P,.inr ⟨_,rfl⟩,Rk a b,Rl,by decide⟩
 exact SG a b h
noncomputable def v8:Expr->Option (Expr×List Expr)
 |.Call f as [] _=>b4 (f,as)|_=>b6
theorem Gv(h:v8 e=b4 (f,as)):∃pos,e=.Call f as [] pos:=by
 unfold v8 at h;split at h
 .cases h;exact⟨_,rfl⟩
 .cases h
noncomputable def fM:Expr->Option Str
 |.Name x _=>b4 x|_=>b6
theorem iP(h:fM e=b4 x):∃p,e=.Name x p:=by
 unfold fM at h;split at h
 .cases h;exact⟨_,rfl⟩
 .cases h
noncomputable def o1:List Expr->Option Expr
 |[e]=>b4 e|_=>b6
theorem Ax(h:o1 l=b4 e):l=[e]:=by
 unfold o1 at h;split at h
 .cases h;rfl
 .cases h
noncomputable def o2:List Expr->Option (Expr×Expr)
 |[a,b]=>b4 (a,b)|_=>b6
theorem SK(h:o2 l=b4 (a,b)):l=[a,b]:=by
 unfold o2 at h;split at h
 .cases h;rfl
 .cases h
noncomputable def Gw(m:Str)(n:Nat):Option (D->List D->Hm->jk):=
 if n=1 then(if m="append" then b4 fW
  else if m="extend" then b4 kT
  else if m="index" then b4 pN
  else if m="pop" then b4 nB
  else b6)
 else b6
noncomputable def Gx(S:Sig)(o:Expr)(m:Str)(n:Nat):Option (D->List D->Hm->jk):=
 if m="setdefault"/\n=2 then b4 iM else
 if m="get"/\n=2 then b4 hJ else
 if m="update"/\n=1 then b4 nX else
 b6
noncomputable def Ay(S:Sig)(c:Cs)(tg:Expr):Expr->Option Nat
 |.Name x _=>match tg with
  |.Name _ _=>if S.dIt.contains x=b8 then eZ x c.N else b6|_=>b6
 |_=>b6
noncomputable def Az(S:Sig)(F:Str->MF)(r:Expr->ME)(c:Cs)(f:Expr)(args:List Expr)(a:ZL):ME:=match f with
 |.Name x _=>if glob c x&&args.all bR then(match S.fn.lookup x with
   |some n=>if args.length=n then aF (F x) (eS r args)else aX|none=>
   if S.no.contains x&&!args.isEmpty then(match Aw x with|some g=>aF g (eS r args)|none=>aX)else aX)
  else aX
 |.Attribute o m apos=>if gU o&&(apos.endLine==a.line)&&args.all bR then(
   match Gx S o m args.length with
   |some g=>gG g (r o) (eS r args)|none=>
   match Gw m args.length with
   |some g=>dZ g (r o) (eS r args)|none=>
    aX)
  else aX
 |_=>aX
noncomputable def AA(f:Expr)(args:List Expr):Option (Str×Str×Expr):=(fM f).bind λx=>(o1 args).bind λa=>(v8 a).bind λg=>(fM g.1).bind λy=>(o1 g.2).map λe=>(x,y,e)
theorem Gy(h:AA f args=b4 (x,y,e)):∃p c pos,f=.Name x p/\args=[.Call (.Name y c) [e] [] pos]:=by obtain⟨n,d,h⟩:=X0.mp h;obtain⟨a,i,h⟩:=X0.mp h;obtain⟨g,j,h⟩:=X0.mp h;obtain⟨o,b,h⟩:=X0.mp h;obtain⟨l,k,h⟩:=X5.mp h;cases h;obtain⟨p,rfl⟩:=iP d;obtain⟨pos,rfl⟩:=Gv j;obtain⟨c,b⟩:=iP b;exact⟨p,c,pos,rfl,by rw[Ax i,b,Ax k]⟩
noncomputable def SM(f:Expr)(args:List Expr):Option (Bool×Expr):=(AA f args).bind λt=>
 if t.1="list"/\t.2.1="reversed" then b4 (b8,t.2.2)else
 b6
noncomputable def Gz:Bool->Str
 |false=>"range"|true=>"reversed"
noncomputable def lstM:Bool->MF
 |true=>mB|false=>mB
noncomputable def AB(S:Sig)(F:Str->MF)(r:Expr->ME)(c:Cs)(f:Expr)(args:List Expr)(a:ZL):ME:=
 match SM f args with
 |some (b,e)=>if glob c "list" && glob c (Gz b)&&S.no.contains "list" && S.no.contains (Gz b)&&bR e then aF (lstM b) (eS r [e])else aX|none=>Az S F r c f args a
noncomputable def v9:Expr->Option (Expr×ZL×ZL)
 |.Call g [] [] cpos=>match g with
  |.Attribute o m apos=>if m="items" then b4 (o,apos,cpos)else b6|_=>b6
 |_=>b6
theorem GA(h:v9 e=b4 (o,a,b)):e=.Call (.Attribute o "items" a) [] [] b:=by
 unfold v9 at h;split at h
 .split at h
  .split at h
   .rename_i c;cases h;rw[c]
   .cases h
  .cases h
 .cases h
noncomputable def SN(f:Expr)(args:List Expr):Option (Expr×ZL×ZL):=(AA f args).bind λt=>if t.1="tuple"/\t.2.1="sorted" then v9 t.2.2 else b6
noncomputable def GB(f:Expr)(args:List Expr):Option (Str×Expr):=(fM f).bind λx=>(o1 args).map λe=>(x,e)
theorem SO(h:GB f args=b4 (x,e)):∃p,f=.Name x p/\args=[e]:=by obtain⟨d,b,h⟩:=X0.mp h;obtain⟨a,c,h⟩:=X5.mp h;cases h;obtain⟨p,rfl⟩:=iP b;exact⟨p,rfl,Ax c⟩
noncomputable def SQ(f:Expr)(args:List Expr):Option (Expr×ZL×ZL):=(GB f args).bind λt=>if t.1="list" then v9 t.2 else b6
noncomputable def AD(S:Sig)(F:Str->MF)(r:Expr->ME)(c:Cs)(f:Expr)(args:List Expr)(a:ZL):ME:=
 match SN f args with
 |some q=>if glob c "sorted" && glob c "tuple" && S.no.contains "sorted" && S.no.contains "tuple" && gU q.1&&(q.2.1.endLine==q.2.2.line)then vV (r q.1)else aX|none=>
 match SQ f args with
 |some q=>if glob c "list" && S.no.contains "list" && gU q.1&&(q.2.1.endLine==q.2.2.line)then nR (r q.1)else aX|none=>
 AB S F r c f args a
noncomputable def nY(c:Cs)(scope:a0t)(xs:List Str):Bool:=
 (scope.names.all λy=>decide (y.2≠.cell))&&decide (scope.kind=.function)&&(scope.names.all λy=>decide (y.2≠.local)||decide (scope.names.lookup y.1=b4 .local)) &&
 (xs.all λx=>decide (scope.names.lookup x=b4 .local))&&decide xs.Nodup&&(scope.names.all λy=>decide (y.2≠.free)||decide (c.ks.lookup y.1=b4 .cell)||decide (c.ks.lookup y.1=b4 .free)) &&
 (scope.names.all λy=>decide (y.2≠.local)||!(aW xs c.N).contains y.1)&&decide (aW xs c.N).Nodup&&(c.N.all λy=>!xs.contains y||decide (scope.names.lookup (oS y)=b6))
noncomputable def mF(c:Cs)(scope:a0t)(xs:List Str):Cs:=
 ⟨aW xs c.N++xs,scope.names.map λ(n,k)=>if(k==a0y&&c.ks.lookup n==b4 .cell)then(n,a0I)else(n,k)⟩
noncomputable def AE(r:Expr->MT):List Expr->MT
 |[]=>dH|[t]=>r t|_=>jU
noncomputable def pW(S:Sig)(c:Cs):Expr->Option (List Expr)
 |.Call (.Name x _) args [] _=>if x="range" then(if glob c x&&S.no.contains x&&args.all bR then b4 args else b6)else b6|_=>b6
noncomputable def AF(S:Sig)(c:Cs):Expr->Option Expr
 |.Call (.Name x _) [a] [] _=>if x="reversed" then(if glob c x&&S.no.contains x&&bR a then b4 a else b6)else b6|_=>b6
noncomputable def wA(S:Sig)(r:Expr->ME)(c:Cs)(e:Expr):MI:=match pW S c e with
 |some [a]=>gR (eS r [a])|some [a,b]=>lX (eS r [a,b])|some [a,b,d]=>pO (eS r [a,b,d])|some _=>Eh|none=>match AF S c e with
  |some a=>rS (eS r [a])|none=>cI (r e)
noncomputable def AG(S:Sig)(c:Cs):Expr->Option Expr
 |.Call (.Name x _) [a] [] _=>if x="enumerate" then(if glob c x&&S.no.contains x&&bR a then b4 a else b6)else b6|_=>b6
noncomputable def AH(S:Sig)(r:Expr->ME)(c:Cs)(e:Expr):MI:=match AG S c e with
 |some a=>pL (eS r [a])|none=>wA S r c e
noncomputable def GC(S:Sig)(c:Cs)(e:Expr):Option (Expr×Expr):=(v8 e).bind λg=>(fM g.1).bind λx=>(o2 g.2).bind λt=>if x="zip" then(if glob c x&&S.no.contains x&&bR t.1&&bR t.2 then b4 t else b6)else b6
noncomputable def AI(S:Sig)(r:Expr->ME)(c:Cs)(e:Expr):MI:=match GC S c e with
 |some (a,b)=>r9 (eS r [a,b])|none=>AH S r c e
noncomputable def AJ:Expr->Option (List Str)
 |.Name x _=>b4 [x]|.Tuple es _ _=>es.mapM λe=>match e with|.Name x _=>b4 x|_=>b6
 |_=>b6
noncomputable def AK:Expr->Nat->BD
 |.Tuple ..,n=>jR n|_,_=>m3
noncomputable def sM(S:Sig)(r:Expr->ME)(c:Cs)(tg e:Expr):MI:=match tg with
 |.Tuple ..=>AI S r c e|_=>wA S r c e
noncomputable def mG(b:MI)(d:Cs->Expr->ME)(e:Cs->Expr->MT)(c:Cs)(elt tg iter:Expr)(ifs:List Expr)(scope:a0t):ME:=match AJ tg with
 |some a=>if nY c scope a&&eM iter then eE (AK tg a.length) b (AE (e (mF c scope a)) ifs) (d (mF c scope a) elt)else aX|none=>aX
noncomputable def AL(S:Sig)(a:Cs->Expr->ME)(b:Cs->Expr->MT)(c:Cs)(elt tg iter:Expr)(ifs:List Expr)(scope:a0t):ME:=
 match Ay S c tg iter with
 |some i=>vT i (mG (kY (a c iter)) a b c elt tg iter ifs scope) aX|none=>
 mG (sM S (a c) c tg iter) a b c elt tg iter ifs scope
noncomputable def wB:Const->ME
 |.int i=>mC (.int i)|.bool b=>mC (.bl b)|.str s=>mC (.str s)|.none=>mC .non|_=>aX
noncomputable def GD(m:ME):UnaryOp->ME
 |.USub=>lT m|.Not=>mW m|_=>aX
noncomputable def AM(S:Sig)(r:Expr->ME)(a:Expr):List a2b->List Expr->ME
 |[op],[b]=>mE op (eM b) (r a) (r b)
 |[op,op'],[b,b']=>(match kU op,kU op' with
  |some p,b4 q=>i9 (gC p) (gC q) (r a) (r b) (r b')
  |_,_=>aX)
 |_,_=>aX
noncomputable def AN(S:Sig)(c:Cs):List a2b->List Expr->Option (List (aU×D))
 |[.In],[b]=>v7 S c b|_,_=>b6
noncomputable def AO(S:Sig)(c:Cs)(r:Expr->ME)(a:Expr)(ops:List a2b)(bs:List Expr):ME:=match AN S c ops bs with
 |some b=>zE b (r a)|none=>AM S r a ops bs
noncomputable def AQ(r:Expr->ME):List (Option Expr)->List Expr->ME
 |[],[]=>j0|_,_=>aX
noncomputable def AR(S:Sig)(r:Expr->ME)(c:Cs)(a b:Expr):ME:=match b with
 |.Slice lo hi b6 _=>mY (r a) (pV r lo) (pV r hi)|.Slice lo hi (b4 st) _=>pK (r a) (pV r lo) (pV r hi) (pV r (b4 st))|b=>if lU b then(match v7 S c a with|some d=>Eo d (r b)|none=>aC aG (r a) (r b))else aX
noncomputable def AS(r:Expr->ME)(es:List Expr):ME:=if es.all bR then dE (eS r es)else aX
noncomputable def AU(r:Expr->ME)(es:List Expr):ME:=if es.all bR then bV (eS r es)else aX
noncomputable def AV(S:Sig)(F:Str->MF)(r:Expr->ME)(c:Cs)(f:Expr)(args:List Expr)(a:ZL):List a1C->ME
 |[]=>AD S F r c f args a|_=>aX
noncomputable def AW(S:Sig)(a:Cs->Expr->ME)(b:Cs->Expr->MT)(c:Cs)(elt:Expr)(scope:a0t):List Comprehension->ME
 |[⟨tg,iter,ifs,0⟩]=>AL S a b c elt tg iter ifs scope|_=>aX
noncomputable def AX(S:Sig)(f:Expr)(args:List Expr):Option (Expr×Str):=match f with
 |.Name x _=>(match args with
  |[a,b]=>(match b with
   |.Name cn _=>if(x=="isinstance" && ((S.sup.lookup cn).isSome||(cn=="ValueError" && !S.sup.isEmpty)))=b8 then b4 (a,cn)else b6
   |_=>b6)
  |_=>b6)
 |_=>b6
theorem SR(h:AX S f args=b4 (a,b)):(∃p q,f=.Name "isinstance" p/\args=[a,.Name b q])/\((S.sup.lookup b).isSome=b8\/b="ValueError"):=by
 unfold AX at h;split at h
 .split at h
  .split at h
   .split at h
    .rename_i hc;cases h;rw[X4,beq_iff_eq,a1T,X4,beq_iff_eq]at hc;rw[hc.1];exact⟨⟨_,_,rfl,rfl⟩,hc.2.imp id (·.1)⟩
    .cases h
   .cases h
  .cases h
 .cases h
noncomputable def GF(S:Sig)(F:Str->MF)(d:Cs->Expr->ME)(e:Cs->Expr->MT)(c:Cs):Expr->ME
 |.Name x _=>Ar S c x|.Constant v _ _=>wB v|.BinOp a op b _=>Gu op (d c a) (d c b)|.UnaryOp op a _=>GD (d c a) op|.Compare a ops bs _=>AO S c (d c) a ops bs|.BoolOp op vs _=>sJ op (vs.map (d c))|.IfExp t a b _=>mX (e c t) (d c a) (d c b)|.Tuple es _ _=>AS (d c) es|.List es _=>AU (d c) es|.Dict keys values _=>AQ (d c) keys values|.Subscript a b _=>AR S (d c) c a b|.Call f args kws cpos=>AV S F (d c) c f args cpos kws|.Attribute o a _=>if gU o then
   l6 a (λx=>S.cls.lookup x==b4 a) (d c o)else aX
 |.ListComp elt gs scope _=>AW S d e c elt scope gs|_=>aX
noncomputable def sN(r:Expr->ME)(e:Expr):MT:=if lV e then eF (r e)else jU
noncomputable def AY(S:Sig)(r:Expr->ME)(a:Expr)(ops:List a2b)(bs:List Expr)(p:ZL):MT:=match ops,bs with
 |[op],[b]=>aP (mE op (eM b) (r a) (r b))
 |[op,op'],[b,b']=>(match kU op,kU op' with
  |some p,b4 q=>aP (i9 (gC p) (gC q) (r a) (r b) (r b'))
  |_,_=>jU)
 |ops,bs=>sN r (.Compare a ops bs p)
noncomputable def SS(r:Expr->ME)(t:MT)(a:Expr)(p:ZL):UnaryOp->MT
 |.Not=>t|op=>sN r (.UnaryOp op a p)
noncomputable def GG(S:Sig)(b:Cs->Expr->ME)(d:Cs->Expr->MT)(c:Cs):Expr->MT
 |.BoolOp op vs _=>sL op (vs.map (d c))|.UnaryOp op a p=>SS (b c) (iH (d c a)) a p op|.Compare a ops bs p=>AY S (b c) a ops bs p|e=>sN (b c) e
noncomputable def tr(S:Sig)(F:Str->MF):Nat->(Cs->Expr->ME)×(Cs->Expr->MT)
 |0=>(λ_ _=>aX,λ_ _=>jU)|n+1=>(GF S F (tr S F n).1 (tr S F n).2,GG S (tr S F n).1 (tr S F n).2)
structure XcOk(S:Sig)(K:X2):Prop where
 att:∀x a,S.cls.lookup x=b4 a->u6 K a x=b8
 sub:∀x ys c,S.sup.lookup x=b4 ys->(S.sup.lookup c).isSome=b8->rM K x c=b4 (ys.contains c)
 isx:∀x ys c,S.sup.lookup x=b4 ys->(S.sup.lookup c).isSome=b8->∃C,gX K c=b4 C/\iL K (.ref C) x=b4 (ys.contains c)
 isv:∀x ys,S.sup.lookup x=b4 ys->iL K (.type "ValueError") x=b4 (ys.contains "ValueError")
 plain:∀x ys,S.sup.lookup x=b4 ys->S.cls.lookup x=b6->∃C,ClsK K x C
 init:∀x a,S.cls.lookup x=b4 a->∃C f B bn fd sf ar,InitK K C f B bn a/\Zn K Y0 x=b4 (b4 (.ref C))/\Za K (.ref C)=b8/\(∀P w mg base k,FnOk P w K mg base dP (k+1) f fd [sf,ar] (nG C a))/\Binds K fd [sf,ar] []/\∃oI,K.lookup f=b4 oI/\oI.cls=.type "function"
structure Okx(S:Sig)(F:Str->MF)(k:Nat)(c:Cs)(X:Cx):Prop where
 N:X.N=c.N
 nd:X.N.Nodup
 ks:X.env.scope.names=c.ks
 kind:X.env.scope.kind=.function
 calm:X.calm=b8
 room:Room k X.A
 never:a5G (Yv X.prog X.w) X.A X.env X.xe
 fn:∀x n,S.fn.lookup x=b4 n->∃(f:Addr)(fd:ZU)(ps:List Str),FnOk X.prog X.w X.K X.mg X.base dP k f fd ps (fT X.K n (F x))/\X.mg x=b4 (.ref f)/\Za X.K (.ref f)=b8/\Binds X.K fd ps []
 con:∀x d,S.con.lookup x=b4 d->∃v u,X.mg x=b4 u/\RelV v u/\∀π n H,IsD X.K π n H v d
 tab:∀x kvs,S.tab.lookup x=b4 kvs->TabOk X x kvs
 no:∀x,S.no.contains x=b8->X.mg x=b6
 xc:XcOk S X.K
theorem sO(ks:X.env.scope.names=c.ks)(h:glob c x=b8):Gl X x/\(x==("__debug__":Str))=false:=by unfold glob at h;rw[X4]at h;refine⟨?_,by simpa using h.2⟩;show X.env.scope.names.lookup x=_;rw[ks];exact of_decide_eq_true h.1
theorem GH{X:Cx}(ks:X.env.scope.names=c.ks)(h:iF c x=b8):lG X.env.scope x/\(x==("__debug__":Str))=b7/\(x==("__classdict__":Str))=false:=by
 unfold iF at h;rw[X4,X4,a1T,a1T]at h;obtain⟨⟨a,b⟩,d⟩:=h;refine⟨?_,by simpa using b,by simpa using d⟩;unfold lG;rw[ks];rcases a with(a|a)|a
 .exact .inl (of_decide_eq_true a)
 .exact .inr (.inl (of_decide_eq_true a))
 .exact .inr (.inr (of_decide_eq_true a))
theorem Okx.gl(O:Okx S F k c X)(h:glob c x=b8):Gl X x/\(x==("__debug__":Str))=false:=sO O.ks h
theorem Okx.vis(O:Okx S F k c X)(h:iF c x=b8):lG X.env.scope x/\(x==("__debug__":Str))=b7/\(x==("__classdict__":Str))=false:=GH O.ks h
theorem SU(O:Okx S F k c X)x pos:QE X (.Name x pos) (Ar S c x):=by
 unfold Ar;split
 .rename_i h;obtain⟨a,b,l⟩:=O.vis h;split
  .rename_i i o;exact DZ i (by rw[O.N];exact j6 o) a b l
  .exact bD
 split
 .rename_i h;obtain⟨a,b⟩:=O.gl h;split
  .rename_i d hd;obtain⟨v,u,m,r,i⟩:=O.con x d hd;exact⟨oN (Js a m r b) i⟩
  .split
   .rename_i p;split
    .rename_i n q;obtain⟨e,j⟩:=Sx q;exact Ny (O.no x p) e a j b
    .exact bD
   .exact bD
 .exact bD
theorem fN(a:∀e,QE X e (r e)):∀es,es.all bR=b8->QA X es (eS r es) es.length
 |[],_=>Nn|e::es,h=>by rw[YO,X4]at h;exact Np (a e) (fN a es h.2) h.1
theorem AZ(a:∀e,QE X e (r e))op pos:∀vs,QE X (.BoolOp op vs pos) (sJ op (vs.map r))
 |[]=>bD|[e]=>Nj (a e)|e::d::es=>by
  have b:=AZ a op pos (d::es);cases op with
  |And=>exact Nk (a e) b|Or=>exact Nl (a e) b
theorem A1(a:∀e,QT X e (r e))op pos:∀vs,QW X (.BoolOp op vs pos) (sL op (vs.map r))
 |[]=>N9|[e]=>by
  cases op with
  |And=>exact NH (a e)|Or=>exact NI (a e)
 |e::d::es=>by
  have b:=A1 a op pos (d::es);cases op with
  |And=>exact NJ (a e) b|Or=>exact NK (a e) b
theorem SV(d:QE X a h)(e:QE X b i)op pos:QE X (.BinOp a op b pos) (Gu op h i):=by
 cases op with
 |Add=>exact D4 d e|Sub=>exact M7 d e|Mult=>exact M8 d e|FloorDiv=>exact M9 d e|Mod=>exact Na d e|_=>exact bD
theorem SW(O:Okx S F k c X)(d:QE X a i)(e:QE X b j)op pos:QE X (.Compare a [op] [b] pos) (mE op (eM b) i j):=by
 cases op with
 |Eq=>exact Nc O.room d e|NotEq=>exact Nd O.room d e|Lt=>exact Nf d e|LtE=>exact Ng d e|Gt=>exact Nh d e|GtE=>exact Ni d e|In=>
  simp only[mE];split
  .rename_i h;exact Q1 O.room d e h
  .exact bD
 |NotIn=>
  simp only[mE];split
  .rename_i h;exact Q2 O.room d e h
  .exact bD
 |Is=>exact Px d e|IsNot=>exact Py d e
theorem GI:QT X e (aP aX):=⟨λb0l s σ H Q I h=>by
 obtain⟨j,l,i,d,b,R,E,a,k⟩:=h;cases a⟩
theorem SX(O:Okx S F k c X)(d:QE X a i)(e:QE X b j)op pos:QT X (.Compare a [op] [b] pos) (aP (mE op (eM b) i j)):=by
 cases op with
 |Eq=>exact Nz O.room d e|NotEq=>exact NA O.room d e|Lt=>exact NB d e|LtE=>exact NC d e|Gt=>exact ND d e|GtE=>exact NF d e|In=>
  simp only[mE];split
  .rename_i h;exact Q3 O.room d e h
  .exact GI
 |NotIn=>
  simp only[mE];split
  .rename_i h;exact Q4 O.room d e h
  .exact GI
 |Is=>exact Pz d e|IsNot=>exact PB d e
theorem sP(a:∀e,QE X e (r e)):∀o,QO X o (pV r o)
 |none=>Nr|some e=>Nt (a e)
theorem GJ(O:Okx S F k c X)(h:v7 S c a=b4 kvs):∃x p,a=.Name x p/\TabOk X x kvs/\Gl X x/\(x==("__debug__":Str))=false:=by
 unfold v7 at h;split at h
 .split at h
  .rename_i e;obtain⟨b,d⟩:=O.gl e;exact⟨_,_,rfl,O.tab _ _ h,b,d⟩
  .cases h
 .cases h
theorem SY(O:Okx S F k c X)(i:∀e,QE X e (r e))f args j:QE X (.Call f args [] j) (Az S F r c f args j):=by
 unfold Az;split
 .rename_i x p;split
  .rename_i w;rw[X4]at w;obtain⟨z,A⟩:=O.gl w.1;have d:=fN i args w.2;split
   .rename_i n y;split
    .rename_i b;obtain⟨Q,R,U,E,a,L,B⟩:=O.fn x n y;subst b;cases args with
     |nil=>exact Ox E O.room a L B z A|cons e u=>exact Nv E O.room a L B d z A
    .exact bD
   .skip;split
    .rename_i h;rw[X4]at h;split
     .rename_i g B;obtain⟨v,Y,H,M,I,J,K⟩:=SJ (X:=X) O.calm O.room.units B;cases args with
      |nil=>exact absurd h.2 (by simp)|cons e u=>
       rcases M with⟨id,rfl⟩|⟨T,rfl⟩
       .exact Nw I J (O.no x h.1) H d z K A
       .exact Nx I J (O.no x h.1) H d z K A
     .exact bD
    .exact bD
  .exact bD
 .rename_i o m G;split
  .rename_i w;rw[X4,X4]at w;obtain⟨⟨q,s⟩,N⟩:=w;have d:=fN i args N;split
   .rename_i g a;unfold Gx at a;split at a
    .rename_i b;obtain⟨rfl,b⟩:=b;cases a;cases args with
     |nil=>cases b|cons e u=>exact Ah a4x PySem.F.type_dict_setdefault (RJ (by have:=O.room.units;lia)) RI (i o) d q s (by rw[b];decide)
    split at a
    .rename_i b;obtain⟨rfl,b⟩:=b;cases a;cases args with
     |nil=>cases b|cons e u=>exact Ah a5K PySem.F.type_dict_get (RE (by have:=O.room.units;lia)) RD (i o) d q s (by rw[b];decide)
    split at a
    .rename_i b;obtain⟨rfl,b⟩:=b;cases a;cases args with
     |nil=>cases b|cons e u=>exact Ah a5e PySem.F.type_dict_update (Sw (by have:=O.room.units;lia)) Sv (i o) d q s (by rw[b];decide)
    cases a
   split
   .rename_i g a;unfold Gw at a;split at a
    .rename_i b;cases args with
     |nil=>cases b|cons e u=>
      have y:(e::u).length<30:=by rw[b];decide
      split at a
      .rename_i l;subst l;cases a;exact uQ PySem.F.slot_list_append PySem.F.type_list_append De Ol (i o) d q s y
      split at a
      .rename_i l;subst l;cases a;exact uQ PySem.F.slot_list_extend PySem.F.type_list_extend Ln Om (i o) d q s y
      split at a
      .rename_i l;subst l;cases a;exact uQ PySem.F.slot_list_index PySem.F.type_list_index (P7 (by have:=O.room.units;lia)) P5 (i o) d q s y
      split at a
      .rename_i l;subst l;cases a;exact uQ PySem.F.slot_list_pop PySem.F.type_list_pop Lo Ot (i o) d q s y
      .cases a
    .cases a
   .skip
    .exact bD
  .exact bD
 .exact bD
theorem S0(O:Okx S F k c X)(l:∀e,QE X e (r e))f args a:QE X (.Call f args [] a) (AB S F r c f args a):=by
 unfold AB;split
 .rename_i b e h;split
  .rename_i j;rw[X4,X4,X4,X4]at j;obtain⟨⟨⟨⟨n,o⟩,u⟩,v⟩,st⟩:=j;have s:=fN l [e] (by rw[YO,st];rfl);obtain⟨t,q,i⟩:=X0.mp h;obtain⟨p,x,w,rfl,rfl⟩:=Gy q;split at i
   .rename_i d;cases i;rw[d.1,d.2];exact Qh O.calm (O.no _ u) (O.no _ v) s (O.gl n).1 (O.gl o).1
   .cases i
  .exact bD
 .exact SY O l f args a
theorem GK{X:Cx}(nd:X.N.Nodup)(e:X.N=c.N)(ks:X.env.scope.names=c.ks)(h:nY c scope xs=b8):CompSt X.env.scope X.N scope xs/\xs.Nodup:=by
 unfold nY at h;rw[X4,X4]at h;obtain⟨⟨h,b⟩,s⟩:=h;have b:=of_decide_eq_true b;have d:∀y∈c.N,xs.contains y=b8->scope.names.lookup (oS y)=none:=λy a hc=>by have:=Z2.mp s y a;rw[hc]at this;simpa using this
 simp only[X4,Z2,decide_eq_true_eq,a1T,a2h,List.contains_eq_mem,decide_eq_false_iff_not]at h;obtain⟨⟨⟨⟨⟨⟨j,l⟩,n⟩,o⟩,r⟩,p⟩,q⟩:=h;refine⟨⟨j,l,λy a i=>(n y a).resolve_left (λz=>z i),o,λy a u=>?_,λy a i=>?_,nd,by rw[e];exact b,by rw[e];exact d⟩,r⟩
 .rw[ks];rcases p y a with(z|z)|z
  .exact absurd u z
  .exact .inl z
  .exact .inr z
 .rw[e];have:=(q y a).resolve_left (λz=>z i);exact this
theorem sQ(O:Okx S F k c X)(h:nY c scope xs=b8):CompSt X.env.scope X.N scope xs/\xs.Nodup:=GK O.nd O.N O.ks h
theorem GL{N:List Str}(h:N.Nodup)(d:xs.Nodup)(i:∀x∈xs,x∉N):(N++xs).Nodup:=by rw[a0K];exact⟨h,d,λa j b l e=>by subst e;exact i _ l j⟩
theorem A2{X:Cx}(Q:CompSt X.env.scope X.N scope xs/\xs.Nodup):(aW xs X.N++xs).Nodup:=GL Q.1.hnd Q.2 λx a=>Q.1.own (x,.local) (ZH (Q.1.here x a)) rfl
theorem GN{X:Cx}(a:X.env.scope.kind=.function)(ks:X.env.scope.names=c.ks)scope xs:(a8U scope X.env).names=(mF c scope xs).ks:=by
 unfold a8U mF;dsimp only;refine ZQ λy _=>?_;obtain⟨n,b⟩:=y;dsimp only;have:(X.env.scope.kind==ScopeKind.function)=true:=by rw[a];rfl
 rw[this,a8M];show(if(b==a0y&&X.env.scope.names.lookup n==b4 a0I)=b8 then _ else _)=_;rw[ks]
theorem Okx.comp(O:Okx S F k c X)(h:nY c scope xs=b8){C:Addr}:Okx S F k (mF c scope xs) (cH X scope b C (aW xs X.N++xs) s₀ H₀ d):=
 ⟨show aW xs X.N++xs=aW xs c.N++xs by rw[O.N],A2 (sQ O h),GN O.kind O.ks scope xs,(sQ O h).1.kind,O.calm,O.room,a6C,O.fn,O.con,λy a q=>⟨(O.tab y a q).ex⟩,O.no
  ,O.xc
  ⟩
theorem A3(l:∀e,QT X e (r e)):∀es,QI X es (AE r es)
 |[]=>NL|[t]=>NM (l t)
 |a::b::es=>⟨λi s u H Q I h=>by
   obtain⟨p,q,o,d,n,R,E,j,k⟩:=h;cases j⟩
theorem A4(O:Okx S F k c X)(h:pW S c e=b4 args):∃p pos,e=.Call (.Name "range" p) args [] pos/\Gl X "range"/\X.mg "range"=b6/\args.all bR=true:=by
 unfold pW at h;split at h
 .split at h
  .rename_i b;subst b;split at h
   .rename_i a;cases h;rw[X4,X4]at a;exact⟨_,_,rfl,(O.gl a.1.1).1,O.no _ a.1.2,a.2⟩
   .cases h
  .cases h
 .cases h
theorem S3(O:Okx S F k c X)(h:AF S c e=b4 a):∃p pos,e=.Call (.Name "reversed" p) [a] [] pos/\Gl X "reversed"/\X.mg "reversed"=b6/\bR a=true:=by
 unfold AF at h;split at h
 .split at h
  .rename_i d;subst d;split at h
   .rename_i b;cases h;rw[X4,X4]at b;exact⟨_,_,rfl,(O.gl b.1.1).1,O.no _ b.1.2,b.2⟩
   .cases h
  .cases h
 .cases h
theorem GO(O:Okx S F k c X)(o:∀e,QE X e (r e))e:QJ X e (wA S r c e):=by
 unfold wA;split
 .rename_i a h;obtain⟨p,n,rfl,i,j,l⟩:=A4 O h;exact N0 i j (fN o [a] l)
 .rename_i a b h;obtain⟨p,n,rfl,i,j,l⟩:=A4 O h;exact N3 i j (fN o [a,b] l)
 .rename_i a b d h;obtain⟨p,n,rfl,i,j,l⟩:=A4 O h;exact Qm i j (fN o [a,b,d] l)
 .exact NV
 .split
  .rename_i a h;obtain⟨p,n,rfl,i,j,l⟩:=S3 O h;exact Qr i j (fN o [a] (by rw[YO,l];rfl))
  .exact NZ (o e)
theorem S4(O:Okx S F k c X)(h:AG S c e=b4 a):∃p pos,e=.Call (.Name "enumerate" p) [a] [] pos/\Gl X "enumerate"/\X.mg "enumerate"=b6/\bR a=true:=by
 unfold AG at h;split at h
 .split at h
  .rename_i d;subst d;split at h
   .rename_i b;cases h;rw[X4,X4]at b;exact⟨_,_,rfl,(O.gl b.1.1).1,O.no _ b.1.2,b.2⟩
   .cases h
  .cases h
 .cases h
theorem S5(O:Okx S F k c X)(b:∀e,QE X e (r e))e:QJT X e (AH S r c e):=by
 unfold AH;split
 .rename_i a h;obtain⟨p,l,rfl,d,i,j⟩:=S4 O h;exact PX d i (fN b [a] (by rw[YO,j];rfl))
 .exact(GO O b e).t
theorem S6(O:Okx S F k c X)(h:GC S c e=b4 (a,b)):∃p pos,e=.Call (.Name "zip" p) [a,b] [] pos/\Gl X "zip"/\X.mg "zip"=b6/\bR a=b8/\bR b=true:=by
 obtain⟨g,j,n⟩:=X0.mp h;obtain⟨x,l,o⟩:=X0.mp n;obtain⟨t,r,d⟩:=X0.mp o;clear h n o;split at d
 .rename_i q;subst q;split at d
  .rename_i i;cases d;rw[X4,X4,X4]at i;obtain⟨pos,j⟩:=Gv j;obtain⟨p,l⟩:=iP l;exact⟨p,pos,by rw[j,l,SK r],(O.gl i.1.1.1).1,O.no _ i.1.1.2,i.1.2,i.2⟩
  .cases d
 .cases d
theorem S7(O:Okx S F k c X)(d:∀e,QE X e (r e))e:QJT X e (AI S r c e):=by
 unfold AI;split
 .rename_i a b h;obtain⟨p,o,rfl,i,j,l,n⟩:=S6 O h;exact Ra i j (fN d [a,b] (by rw[YO,YO,l,n];rfl))
 .exact S5 O d e
theorem A5(O:Okx S F k c X)(a:∀e,QE X e (r e))tg e:PI X tg e (tMI X.K (sM S r c tg e)):=by
 unfold sM;split
 .exact(S7 O a e).h _ _ _
 .exact(GO O a e).h _
theorem A6(h:eM iter=b8):∀x,a1y iter env x=pure x:=by intro z;cases iter<;>first|rfl|cases h
theorem GP(c:X.N.Nodup):∀es xs n,(es.mapM λe=>match e with|.Name x _=>b4 x|_=>b6)=b4 xs->(∀j x,xs[j]?=b4 x->X.N[n+j]?=b4 x/\X.env.scope.names.lookup x=b4 .local)->QGs X es (a3f n xs.length)
 |[],xs,n,h,hx=>by cases h;exact Ef
 |e::es,xs,n,h,hx=>by
  rw[List.mapM_cons]at h;obtain⟨x,b,h⟩:=X0.mp h;obtain⟨k,d,h⟩:=X0.mp h;cases h;cases e with
  |Name y p=>cases b;rw[YB,a3p];have a:=hx 0 x rfl;refine Eg n c (GP c es k (n+1) d λj z i=>?_) (by simpa using a.1) (.inl a.2) (.inr a.2);have:=hx (j+1) z (by simpa using i);rw[show n+1+j=n+(j+1) by lia];exact this|_=>cases b
theorem GQ{c:Cs}(Q:CompSt X.env.scope X.N scope [x]/\[x].Nodup)a C s₀ H₀ b:PG (cH X scope a C (aW [x] X.N++[x]) s₀ H₀ b) (.Name x p) (tMG X.K (gB X.N.length m3)):=by have e:=A2 Q;have d:(a8U scope X.env).names.lookup x=b4 .local:=a8b (Q.1.here x (by simp));exact N4 (X:=cH X scope a C (aW [x] X.N++[x]) s₀ H₀ b) (by show(aW [x] X.N++[x]).length=_;rw[Yr,mZ];rfl) (DO (X:=cH X scope a C (aW [x] X.N++[x]) s₀ H₀ b) e (by show(aW [x] X.N++[x])[X.N.length]?=_;rw[<- mZ [x] X.N];simp) (.inl d) (.inr d))
theorem wC(O:Okx S F k c X)(a:AJ tg=b4 xs)(h:nY c scope xs=b8)b C s₀ H₀ e:
  PG (cH X scope b C (aW xs X.N++xs) s₀ H₀ e) tg (tMG X.K (gB X.N.length (AK tg xs.length)))/\∀d o z,AK tg xs.length d o=b4 z->z.length=xs.length:=by
 obtain⟨St,hnd⟩:=sQ O h;have s:(aW xs X.N++xs).Nodup:=GL St.hnd hnd λx a=>St.own (x,.local) (ZH (St.here x a)) rfl;have i:∀x∈xs,(a8U scope X.env).names.lookup x=b4 .local:=λx a=>a8b (St.here x a);unfold AJ at a;split at a
 .rename_i x p;cases a;refine⟨GQ (c:=c) ⟨St,hnd⟩ b C s₀ H₀ e,λd o z n=>?_⟩;cases n;rfl
 .rename_i r w pt;refine⟨N5 (X:=cH X scope b C (aW xs X.N++xs) s₀ H₀ e) (by show(aW xs X.N++xs).length=_;rw[Yr,mZ]) (zB (X:=cH X scope b C (aW xs X.N++xs) s₀ H₀ e) (GP (X:=cH X scope b C (aW xs X.N++xs) s₀ H₀ e) s r xs X.N.length a λj x q=>⟨?_,i x (Ze q)⟩) O.calm).h,λd o z n=>?_⟩
  .show(aW xs X.N++xs)[X.N.length+j]?=b4 x;rw[a0h (by rw[mZ];lia),mZ,show X.N.length+j-X.N.length=j by lia];exact q
  .obtain⟨y,v,l⟩:=X0.mp n;split at l
   .rename_i u;cases l;rw[X3];exact u
   .cases l
 .cases a
theorem S8(O:Okx S F k c X)(n:∀e,QE X e (r e))f args a:QE X (.Call f args [] a) (AD S F r c f args a):=by
 unfold AD;split
 .rename_i q h;split
  .rename_i d;rw[X4,X4,X4,X4,X4]at d;obtain⟨⟨⟨⟨⟨j,u⟩,s⟩,w⟩,st⟩,o⟩:=d;obtain⟨t,l,b⟩:=X0.mp h;split at b
   .rename_i i;obtain⟨p,y,x,rfl,rfl⟩:=Gy l;rw[i.1,i.2,GA b];exact RO O.calm O.room.units (O.no _ s) (O.no _ w) (O.gl j).1 (O.gl u).1 (n _) st o
   .cases b
  .exact bD
 split
 .rename_i q h;split
  .rename_i d;rw[X4,X4,X4]at d;obtain⟨⟨⟨j,s⟩,st⟩,o⟩:=d;obtain⟨t,l,b⟩:=X0.mp h;split at b
   .rename_i v;obtain⟨p,rfl,rfl⟩:=SO l;rw[v,GA b];exact RT O.calm (O.no _ s) (O.gl j).1 (n _) st o
   .cases b
  .exact bD
 exact S0 O n _ _ _
theorem A7(r:∀c X,Okx S F k c X->∀e,QE X e (o c e))(u:∀c X,Okx S F k c X->∀e,QT X e (p c e))c X(O:Okx S F k c X)elt tg iter ifs scope pos(v:PI X tg iter (tMI X.K n)):QE X (.ListComp elt [⟨tg,iter,ifs,0⟩] scope pos) (mG n o p c elt tg iter ifs scope):=by
 unfold mG;split
 .rename_i y l;split
  .rename_i h;rw[X4]at h;refine⟨λi s x H Q I q=>?_⟩;exact N7 ((sQ O h.1).1.ok I.ok) O.calm v (λd w z=>(wC O l h.1 [] 0 s H []).2 d w z) (λC b a j=>(wC O l h.1 _ C b a j).1) (λC b a j=>(A3 (u _ _ (O.comp h.1)) _).h) (λC b a j=>(r _ _ (O.comp h.1) _).h) (A6 h.2) i s x H Q I q
  .exact bD
 .exact bD
theorem S9(a:∀c X,Okx S F k c X->∀e,QE X e (d c e))(b:∀c X,Okx S F k c X->∀e,QT X e (h c e))c X(O:Okx S F k c X)elt tg iter ifs scope pos:QE X (.ListComp elt [⟨tg,iter,ifs,0⟩] scope pos) (AL S d h c elt tg iter ifs scope):=by
 unfold AL;split
 .exact Ru (A7 a b c X O elt tg iter ifs scope pos ((Af (a c X O iter)).h tg)) bD
 exact A7 a b c X O elt tg iter ifs scope pos (A5 O (a c X O) tg iter)
theorem Ta v n p:QE X (.Constant v n p) (wB v):=by cases v<;>first|exact D0|exact D1|exact D2|exact D3|exact bD
theorem Tc{r:Expr->ME}(b:∀e,QE X e (r e))op a p:QE X (.UnaryOp op a p) (GD (r a) op):=by cases op<;>first|exact Nb (b _)|exact D5 (b _)|exact bD
theorem Td(O:Okx S F k c X)(b:∀e,QE X e (r e))a ops bs p:QE X (.Compare a ops bs p) (AM S r a ops bs):=by
 unfold AM;split
 .exact SW O (b _) (b _) _ _
 .split
  .rename_i d h;exact Pu d h (b _) (b _) (b _)
  .exact bD
 .exact bD
theorem Te(O:Okx S F k c X)(b:∀e,QE X e (r e))a ops bs p:QE X (.Compare a ops bs p) (AO S c r a ops bs):=by
 unfold AO;cases h:AN S c ops bs with
 |none=>exact Td O b a ops bs p|some j=>
  unfold AN at h;split at h
  .obtain⟨x,q,rfl,T,d,i⟩:=GJ O h;exact Ob T d i (b _)
  .cases h
theorem Tf(O:Okx S F k c X)(a:∀e,QE X e (r e))ks vs p:QE X (.Dict ks vs p) (AQ r ks vs):=by
 unfold AQ;try split
 .exact QC
 .exact bD
theorem Tg(O:Okx S F k c X)(d:∀e,QE X e (r e))a b p:QE X (.Subscript a b p) (AR S r c a b):=by
 unfold AR;split
 .exact Nu (d _) (sP d _) (sP d _)
 .exact PN (d _) (sP d _) (sP d _) (sP d _)
 .split
  .rename_i h;split
   .rename_i n l;obtain⟨x,p,rfl,T,i,j⟩:=GJ O l;exact Oa T i j (d _) h
   .exact Q0 O.room (d _) (d _) h
  .exact bD
theorem A8(a:∀e,QE X e (r e))e:QT X e (sN r e):=by
 unfold sN;split
 .rename_i h;exact Ov (a _) h
 .exact uL
theorem Th(O:Okx S F k c X)(b:∀e,QE X e (r e))a ops bs p:QT X (.Compare a ops bs p) (AY S r a ops bs p):=by
 unfold AY;split
 .exact SX O (b _) (b _) _ _
 .split
  .rename_i d h;exact Pw d h (b _) (b _) (b _)
  .exact uL
 .exact A8 b _
theorem Tj(a:∀e,QE X e (r e))es n p:QE X (.Tuple es n p) (AS r es):=by
 unfold AS;split
 .rename_i h;exact Nq (fN a _ h)
 .exact bD
theorem Tn(a:∀e,QE X e (r e))es p:QE X (.List es p) (AU r es):=by
 unfold AU;split
 .rename_i h;exact D6 (fN a _ h)
 .exact bD
theorem To(O:Okx S F k c X)(b:∀e,QE X e (r e))f args a p:QE X (.Call f args a p) (AV S F r c f args p a):=by
 unfold AV;split
 .exact S8 O b _ _ _
 .exact bD
theorem Tp(gl:∀{x},glob c x=b8->Gl X x/\(x==("__debug__":Str))=b7)(no:∀x,S.no.contains x=b8->X.mg x=b6)(w:XcOk S X.K)(J:QE X a m)(q:(S.sup.lookup d).isSome=b8\/d="ValueError"):
  QE X (.Call (.Name "isinstance" T) [a,.Name d U] [] p) (if glob c "isinstance" && S.no.contains "isinstance" && glob c d&&bR a&&(!(d=="ValueError")||S.no.contains "ValueError")then cS (λx=>(S.sup.lookup x).map λe=>e.contains d) m else aX):=by
 split
 .rename_i h;rw[X4,X4,X4,X4]at h;obtain⟨⟨⟨⟨A,B⟩,o⟩,E⟩,O⟩:=h;have K:∀n,(∀x e,S.sup.lookup x=b4 e->iL X.K n x=b4 (e.contains d))->∀x b,(S.sup.lookup x).map (λe=>e.contains d)=b4 b->iL X.K n x=b4 b:=λn j x b R=>by obtain⟨e,M,N⟩:=X5.mp R;rw[<- N];exact j x e M
  by_cases j:d="ValueError"
  .subst j;refine Fd (cv:=.type "ValueError") J E (gl A).1 (no _ B) (λl s Y H Q I z=>?_) (K _ λx e g=>w.isv x e g);have u:S.no.contains "ValueError"=true:=by simpa using O
   exact fB I (gl o).1 (no _ u) a7A z
  .have hc:=q.resolve_right j;obtain⟨y,v⟩:=Y2.mp hc;obtain⟨C,G,_⟩:=w.isx d y d v hc;refine Fd (cv:=.ref C) J E (gl A).1 (no _ B) (λl s Y H Q I z=>?_) (K _ λx e g=>?_)
   .exact f7 I (gl o).1 (a0z I.mod.kin I.mod.glob (lZ G)) z (gl o).2
   .obtain⟨Z,i,L⟩:=w.isx x e d g hc;rw[G]at i;cases i;exact L
 .exact bD
theorem GR(E:∀c X,Okx S F k c X->∀e,QE X e (s c e))(G:∀c X,Okx S F k c X->∀e,QT X e (u c e))c X(O:Okx S F k c X):
  (∀e,QE X e (GF S F s u c e))/\∀e,QT X e (GG S s u c e):=by
 have d:=E c X O;have z:=G c X O;constructor
 .intro e;cases e with
  |Name x p=>exact SU O _ _|Constant v n p=>exact Ta v n p|BinOp a l b p=>exact SV (d _) (d _) _ _|UnaryOp l a p=>exact Tc d l a p|Compare a i bs p=>exact Te O d a i bs p|BoolOp l B p=>exact AZ d _ _ _|IfExp t a b p=>exact Nm (z _) (d _) (d _)|Tuple y n p=>exact Tj d y n p|List y p=>exact Tn d y p|Dict J B p=>exact Tf O d J B p|Subscript a b p=>exact Tg O d a b p|Call f q A r=>exact To O d f q A r|Attribute o a p=>
   show QE X _ (if gU o then _ else aX);split
   .rename_i h;exact Fb (d _) h λx I=>O.xc.att x a (beq_iff_eq.mp I)
   .exact bD
  |ListComp w H j p=>
   show QE X _ (AW S s u c w j H);unfold AW;split
   .exact S9 E G c X O _ _ _ _ _ _
   .exact bD
  |_=>exact bD
 .intro e;cases e with
  |BoolOp l B p=>exact Ea (A1 z _ _ _)|UnaryOp l a p=>
   cases l;case Not=>exact NG (z _)
   all_goals exact A8 d _
  |Compare a i bs p=>exact Th O d a i bs p|_=>exact A8 d _
theorem sR:∀n,(∀c X,Okx S F k c X->∀e,QE X e ((tr S F n).1 c e))/\∀c X,Okx S F k c X->∀e,QT X e ((tr S F n).2 c e)
 |0=>⟨λc X O e=>bD,λc X O e=>uL⟩|n+1=>by have a:=sR (S:=S) (F:=F) (k:=k) n;exact⟨λc X O e=>(GR a.1 a.2 c X O).1 e,λc X O e=>(GR a.1 a.2 c X O).2 e⟩
noncomputable def wD:MG:=λ_ _ _=>b6
noncomputable def sS(c:Cs):List Expr->Option (List Nat)
 |[]=>b4 []|.Name x _::r=>if gH c x then(eZ x c.N).bind λi=>(sS c r).map (i::·)else b6|_=>b6
noncomputable def sT(c:Cs):Expr->MG
 |.Name x _=>if gH c x then(match eZ x c.N with|some i=>cW i|none=>wD)else wD|.Tuple es _ _=>match sS c es with|some a=>oV a|none=>wD
 |_=>wD
noncomputable def gJ(r:Stmt->MS):List Stmt->MS
 |[]=>cA|[s]=>r s|s::t=>aK (r s) (gJ r t)
noncomputable def A9(S:Sig)(E:Cs->Expr->ME)(T:Cs->Expr->MT)(c:Cs)(i:Nat):Expr->MS
 |.ListComp elt [⟨tg,iter,ifs,0⟩] scope _=>match Ay S c tg iter with
  |some j=>nP j (aO i (mG (kY (E c iter)) E T c elt tg iter ifs scope)) bP|none=>aO i (mG (sM S (E c) c tg iter) E T c elt tg iter ifs scope)
 |_=>bP
noncomputable def Ba(S:Sig)(E:Cs->Expr->ME)(T:Cs->Expr->MT)(c:Cs)(tg e:Expr):MS:=match tg with
 |.Name y _=>if gH c y then(match eZ y c.N with
   |some i=>if eN e then aO i (E c e)else A9 S E T c i e
   |none=>bP)else bP
 |.Tuple es _ _=>if zC e then(match sS c es with|some a=>yY (E c e) (oV a)|none=>bP)
   else bP
 |.Subscript o i _=>if eN e&&lU i then l8 (E c o) (E c i) (E c e)else bP|_=>bP
noncomputable def pX:Nat:=1000000000
noncomputable def Bb(tg:Expr):Expr->Option (Expr×ZL×ZL)
 |.Call g [] [] cpos=>match g with
  |.Attribute o m apos=>match tg with
   |.Tuple ..=>if m="items" then b4 (o,apos,cpos)else b6|_=>b6
  |_=>b6
 |_=>b6
theorem Tq(h:Bb tg e=b4 q):e=.Call (.Attribute q.1 "items" q.2.1) [] [] q.2.2/\∃es b p,tg=.Tuple es b p:=by
 unfold Bb at h;split at h
 .split at h
  .split at h
   .split at h
    .rename_i a;cases h;rw[a];exact⟨rfl,_,_,_,rfl⟩
    .cases h
   .cases h
  .cases h
 .cases h
noncomputable def GS(S:Sig)(E:Cs->Expr->ME)(T:Cs->Expr->MT)(c:Cs)(r:Stmt->MS):Stmt->MS
 |.Return (b4 e) _=>aQ (E c e)|.Return b6 _=>aQ (mC .non)|.If t a b _=>bL (T c t) (gJ r a) (gJ r b)|.Assign [tg] e _=>Ba S E T c tg e|.Expr e _=>if eN e then bI (E c e)else bP|.For tg iter body [] _=>if eM iter then
  (match Bb tg iter with
  |some q=>if gU q.1&&(q.2.1.endLine==q.2.2.line)then cY (Gg (E c q.1)) (sT c tg) (gJ r body)else bP|none=>
  (match Ay S c tg iter with
  |some j=>nP j (cY (kY (E c iter)) (sT c tg) (gJ r body)) bP
  |none=>cY (sM S (E c) c tg iter) (sT c tg) (gJ r body))
  )
  else bP
 |.While t body [] _=>o7 pX (T c t) (gJ r body)|.Pass _=>cA|_=>bP
theorem GU{X:Cx}(ks:X.env.scope.names=c.ks)(h:gH c x=b8):L2.Loc X.env.scope x:=by unfold gH at h;rw[a1T]at h;unfold L2.Loc;rw[ks];exact h.imp of_decide_eq_true of_decide_eq_true
theorem Okx.own(O:Okx S F k c X)(h:gH c x=b8):L2.Loc X.env.scope x:=GU O.ks h
theorem Bc(O:Okx S F k c X)(b:∀x,X.fn x=b8):∀es a,sS c es=b4 a->QGs X es a
 |[],a,h=>by cases h;exact Ef
 |e::es,a,h=>by
  cases e with
  |Name x p=>
   unfold sS at h;split at h
   .rename_i l;obtain⟨i,d,h⟩:=X0.mp h;obtain⟨n,j,h⟩:=X5.mp h;subst h;exact Eg i O.nd (Bc O b es n j) (by rw[O.N];exact j6 d) (O.own l) (.inl (b x))
   .cases h
  |_=>cases h
theorem Bd(O:Okx S F k c X)(b:∀x,X.fn x=b8)e:QG X e (sT c e):=by
 unfold sT;split
 .split
  .rename_i d;split
   .rename_i i a;exact NR i O.nd (by rw[O.N];exact j6 a) (O.own d) (.inl (b _))
   .exact uM λ_ _ _=>rfl
  .exact uM λ_ _ _=>rfl
 .split
  .rename_i h a;exact zB (Bc O b _ h a) O.calm
  .exact uM λ_ _ _=>rfl
 .exact uM λ_ _ _=>rfl
theorem hV(a:∀s,QS X s (r s)):∀b,QB X b (gJ r b)
 |[]=>NN|[s]=>Eb (a s)|s::t::ts=>NO (a s) (hV a (t::ts))
theorem Tr:
  ∃b,a2C (.ListComp elt [⟨tg,iter,ifs,0⟩] scope pos) (b4 (.Name y py)) n env=pure b/\(b=b8->env.kindOf y=b4 .local):=by
 refine⟨env.blockKind==.function&&env.kindOf y==b4 .local&&py.line==pos.line&&!(scope.names.any λ(n,k)=>n==y&&(k==.local||k==.cell)),rfl,λh=>?_⟩;simp only[X4,beq_iff_eq]at h;exact h.1.1.2
theorem GV(O:Okx S F k c X)(J:∀x,X.fn x=b8)(v:∀c X,Okx S F k c X->∀e,QE X e (E c e))(w:∀c X,Okx S F k c X->∀e,QT X e (T c e))(A:X.N[i]?=b4 y)(K:gH c y=b8)elt tg iter ifs scope pos(o:PI X tg iter (tMI X.K G)):QS X (.Assign [.Name y py] (.ListComp elt [⟨tg,iter,ifs,0⟩] scope pos) l) (aO i (mG G E T c elt tg iter ifs scope)):=by
  obtain⟨b,n,u⟩:=Tr (elt:=elt) (tg:=tg) (iter:=iter) (ifs:=ifs) (scope:=scope) (pos:=pos) (py:=py) (y:=y) (n:=l.line) (env:=X.env);cases b with
  |false=>exact⟨Dz O.nd A (O.own K) (A7 v w c X O elt tg iter ifs scope pos o).h n (.inl (J y))⟩|true=>
   unfold mG;split
   .rename_i N B;split
    .rename_i h;rw[X4]at h;refine⟨λp s M H D I q=>?_⟩;exact N8 ((sQ O h.1).1.ok I.ok) O.nd O.calm o (λd L z=>(wC O B h.1 [] 0 s H []).2 d L z) (λC j a r=>(wC O B h.1 _ C j a r).1) (λC j a r=>(A3 (w _ _ (O.comp h.1)) _).h) (λC j a r=>(v _ _ (O.comp h.1) _).h) (A6 h.2) A (u rfl) n p s M H D I q
    .exact Fv
   .exact Fv
theorem Ts(O:Okx S F k c X)(h:∀x,X.fn x=b8)(b:∀c X,Okx S F k c X->∀e,QE X e (E c e))(d:∀c X,Okx S F k c X->∀e,QT X e (T c e))(j:X.N[i]?=b4 y)(l:gH c y=b8)e:QS X (.Assign [.Name y py] e a) (A9 S E T c i e):=by
 unfold A9;split
 .split
  .exact F6 (GV O h b d j l _ _ _ _ _ _ ((Af (b c X O _)).h _)) cC
  .exact GV O h b d j l _ _ _ _ _ _ (A5 O (b c X O) _ _)
 .exact cC
theorem Tt(O:Okx S F k c X)(d:∀x,X.fn x=b8)(b:∀c X,Okx S F k c X->∀e,QE X e (E c e))(o:∀c X,Okx S F k c X->∀e,QT X e (T c e))tg e pos:
  QS X (.Assign [tg] e pos) (Ba S E T c tg e):=by
 unfold Ba;split
 .split
  .rename_i n;split
   .rename_i i j;have a:=j6 j;rw[<- O.N]at a;split
    .rename_i l;exact zA i O.nd (b c X O e) l a (O.own n) (.inl (d _))
    .exact Ts O d b o a n e
   .exact cC
  .exact cC
 .split
  .rename_i l;split
   .rename_i p j;exact NT (b c X O e) (zB (Bc O d _ p j) O.calm) l
   .exact cC
  .exact cC
 .split
  .rename_i h;rw[X4]at h;exact Q5 O.room (b c X O _) (b c X O _) (b c X O _) h.1
  .exact cC
 .exact cC
theorem Tu(O:Okx S F k c X)(u:∀x,X.fn x=b8)(i:∀c X,Okx S F k c X->∀e,QE X e (E c e))(v:∀c X,Okx S F k c X->∀e,QT X e (T c e))(j:∀s,QS X s (r s))st:
  QS X st (GS S E T c r st):=by
 cases st with
 |Return o p=>
  cases o with
  |none=>exact Oz|some e=>exact Ec (i c X O _)
 |If t a b p=>exact Ee (v c X O _) (hV j _) (hV j _)|Assign y e p=>
  cases y with
  |nil=>exact cC|cons H I=>
   cases I with
   |nil=>exact Tt O u i v _ _ _|cons _ _=>exact cC
 |Expr e p=>
  show QS X _ (if eN e then bI (E c e)else bP);split
  .rename_i h;exact NQ (i c X O _) h
  .exact cC
 |For H n l d p=>
  cases d with
  |cons _ _=>exact cC|nil=>
   show QS X _ (if eM n then _ else bP);split
   .rename_i h;split
    .rename_i q B;split
     .rename_i w;rw[X4]at w;obtain⟨e,A,G,pt,z⟩:=Tq B;rw[e]at h ⊢;subst z;exact zX ((RY (i c X O _) w.1 w.2).h A G pt) (Bd O u _) (hV j _) O.never O.calm h
     .exact cC
    split
    .exact F6 (zX ((Af (i c X O _)).h _) (Bd O u _) (hV j _) O.never O.calm h) cC
    exact zX (A5 O (i c X O) _ _) (Bd O u _) (hV j _) O.never O.calm h
   .exact cC
 |While t l d p=>
  cases d with
  |nil=>exact Oy _ (v c X O _) (hV j _) O.never|cons _ _=>exact cC
 |Pass p=>exact NP|_=>exact cC
noncomputable def cK(st:Stmt):List Str:=(f9 st).args.map (·.arg)
noncomputable def dR(st:Stmt):List Str:=cK st++(a9 st).names.filterMap λy=>if(y.2==NameKind.local||y.2==a0I)&&!(cK st).contains y.1 then b4 y.1 else b6
noncomputable def k6(st:Stmt):Bool:=
 decide ((a9 st).kind=.function)&&!(a9 st).isCoroutine&&!(a9 st).isGenerator&&decide (dR st).Nodup &&
 ((cK st).all λx=>decide ((a9 st).names.lookup x=b4 .local)||decide ((a9 st).names.lookup x=b4 .cell))&&((a9 st).names.all λy=>decide (y.2≠.free))
theorem Be(h:k6 st=b8):FnScope (dR st) (cK st) (a9 st):=by unfold k6 at h;simp only[X4,decide_eq_true_eq,a2h,Z2,a1T]at h;obtain⟨⟨⟨⟨⟨a,b⟩,c⟩,d⟩,e⟩,i⟩:=h;exact⟨a,b,c,d,by unfold dR;simp,e,i⟩
noncomputable def pY:Nat:=40
noncomputable def pZ:Nat:=40
noncomputable def Bf(S:Sig)(G:Str->RF)(E:Expr->ME)(c:Cs):Expr->MR
 |.Call f args kws p=>(match f,args,kws with
  |.Name x _,e::es,[]=>if glob c x&&decide (S.fn.lookup x=b4 (e::es).length)&&(e::es).all bR&&S.rz.contains x then eP (G x) (eS E (e::es))else
   aV
  |_,_,_=>aV)
 |_=>aV
noncomputable abbrev Bg:=@Bf
noncomputable def Bh(S:Sig)(c:Cs):Expr->Option Expr
 |.Call f args kws _=>(match f,args,kws with
  |.Name x _,e::es,[]=>if glob c x&&decide (S.fn.lookup x=b4 (e::es).length)&&bR e&&es.all bR&&!S.rz.contains x then b4 e else b6
  |_,_,_=>b6)
 |_=>b6
noncomputable def k7(S:Sig)(G:Str->RF)(E:Expr->ME)(c:Cs)(e:Expr):MR:=match Bh S c e with
 |some a=>Bg S G E c a|none=>Bg S G E c e
noncomputable def wF:Option Expr->Option (Str×List Expr)
 |some (.Call f args kws _)=>(match f,kws with
  |.Name x _,[]=>b4 (x,args)
  |_,_=>b6)
 |_=>b6
theorem Tv(h:wF e=b4 (x,args)):∃p q,e=b4 (.Call (.Name x p) args [] q):=by
 unfold wF at h;split at h
 .split at h
  .cases h;exact⟨_,_,rfl⟩
  .cases h
 .cases h
noncomputable def Tw:Nat->Bool
 |_+2=>b8|_=>b7
noncomputable def wG(S:Sig)(k:Nat)(E:Expr->ME)(c:Cs)(x:Str)(args:List Expr):MR:=
 if glob c x then(match S.cls.lookup x with
  |some a=>(match args with
   |[e]=>if Tw k&&bR e then rN x a (E e)else aV
   |_=>aV)
  |none=>(match args with
   |e::es=>if(S.sup.lookup x).isSome&&(e::es).all bR&&decide ((e::es).length<=30)then EX x (eS E (e::es))else aV
   |[]=>aV)
  )else aV
noncomputable def qA(N:Stmt->MS)(r:Stmt->MR):List Stmt->MR
 |[]=>aV|s::t=>bJ (N s) (r s) (qA N r t)
noncomputable def mH:List Expr->Bool
 |[t]=>(fM t).isSome|_=>b7
theorem Tx(h:mH tg=b8):∃x p,tg=[.Name x p]:=by
 cases tg with
 |nil=>cases h|cons t a=>
  cases a with
  |cons _ _=>cases h|nil=>
   cases t with
   |Name x p=>exact⟨x,p,rfl⟩|_=>cases h
noncomputable def Bi(S:Sig)(G:Str->RF)(k:Nat)(E:Expr->ME)(T:Expr->MT)(c:Cs)(N:Stmt->MS)(r:Stmt->MR):Stmt->MR
 |.Expr e _=>if eN e then k7 S G E c e else aV|.Return (b4 e) _=>k7 S G E c e|.Assign tg e _=>if mH tg&&eN e then k7 S G E c e else aV|.For tg iter body els _=>if els.isEmpty&&eM iter then k7 S G E c iter else aV|.If t a b _=>fC (T t) (qA N r a) (qA N r b)
 |.Raise e o _=>if o.isNone then(match wF e with
  |some q=>wG S k E c q.1 q.2
  |none=>aV)else aV
 |_=>aV
noncomputable def Bj(S:Sig)(c:Cs):Expr->ME
 |.Name x _=>if iF c x then(match eZ x c.N with|some i=>aA i|none=>aX)else aX
 |.Attribute o a _=>(match o with
  |.Name x _=>if iF c x then(match eZ x c.N with|some i=>l6 a (λx=>S.cls.lookup x==b4 a) (aA i)|none=>aX)else aX
  |_=>aX)
 |_=>aX
noncomputable def wH:List Expr->Option (List Str)
 |[]=>b4 []|e::r=>(fM e).bind λx=>(wH r).map (x::·)
noncomputable def Bk(f:Expr)(args:List Expr):Option (Expr×List Str):=match f with
 |.Name x _=>if(x=="isinstance")=b8 then(match args with
  |[a,b]=>(match b with
   |.Tuple es _ _=>(wH es).map λl=>(a,l)
   |_=>b6)
  |_=>b6)else b6
 |_=>b6
noncomputable def GW(S:Sig)(U:Str->MF)(c:Cs)(r:Expr->ME)(f:Expr)(args:List Expr):ME:=match AX S f args with
 |some q=>if glob c "isinstance" && S.no.contains "isinstance" && glob c q.2&&bR q.1&&(!(q.2=="ValueError")||S.no.contains "ValueError")then cS (λx=>(S.sup.lookup x).map λa=>a.contains q.2) (r q.1)else aX
 |none=>(match Bk f args with
  |some q=>if glob c "isinstance" && S.no.contains "isinstance" && bR q.1&&(q.2.all λn=>glob c n&&(S.sup.lookup n).isSome)&&decide (q.2.length<=Yi)&&!q.2.isEmpty then cS (λx=>((S.sup.lookup x).map λa=>q.2.map λn=>a.contains n).map λb=>b.any id) (r q.1)else aX
  |none=>aX)
noncomputable def Bl(r:Expr->ME):Expr->MT
 |.BoolOp op es _=>sL op (es.map λe=>if lV e then aP (r e)else jU)|e=>if lV e then aP (r e)else jU
noncomputable def GX(S:Sig)(b:Cs->Expr->ME)(r:Expr->ME)(c:Cs)(elt:Expr)(scope:a0t):List Comprehension->ME
 |[⟨tg,iter,ifs,0⟩]=>(match fM tg with
  |some x=>(match pW S c iter with
   |some [a]=>if nY c scope [x]&&eM iter then eE m3 (gR (eS r [a])) (AE (Bl (b (mF c scope [x]))) ifs) (b (mF c scope [x]) elt)else aX
   |_=>aX)
  |none=>aX)
 |_=>aX
noncomputable def Bm(S:Sig)(U:Str->MF)(q:Bool)(c:Cs)(d:Cs->Expr->ME)(r:Expr->ME):Expr->ME
 |.Constant v _ _=>wB v
 |.UnaryOp op a _=>(match op with
  |.Not=>mW (r a)
  |_=>aX)
 |.BoolOp op es _=>sJ op (es.map r)
 |.Call f args kws _=>(match kws with
  |[]=>GW S U c r f args
  |_=>aX)
 |.List es _=>if es.all bR then bV (eS r es)else aX
 |.BinOp a op b _=>(match op with
  |.Add=>aC cB (r a) (r b)
  |_=>aX)
 |.Subscript a b _=>if lU b then aC eD (r a) (r b)else aX|.ListComp elt gs scope _=>if q then GX S d r c elt scope gs else aX|e=>Bj S c e
noncomputable def mI(S:Sig)(U:Str->MF):Nat->Bool->Cs->Expr->ME
 |0=>λ_ _ _=>aX|n+1=>λq c=>Bm S U q c (mI S U n b7) (mI S U n q c)
noncomputable def sU(c:Cs)(r:Expr->ME):Nat->Stmt->MS
 |0=>λ_=>bP|n+1=>λst=>match st with
  |.Return (b4 e) _=>aQ (r e)|.If t a b _=>if lV t then bL (aP (r t)) (gJ (sU c r n) a) (gJ (sU c r n) b)else bP
  |.Assign tg e _=>(match tg with
   |[t]=>(match fM t with
    |some y=>if gH c y&&eN e then(match eZ y c.N with|some i=>aO i (r e)|none=>bP)else bP
    |none=>bP)
   |_=>bP)
  |_=>bP
noncomputable def nZ:Nat:=9
noncomputable def wI(S:Sig)(q:Bool)(st:Stmt):MF:=q0 (dR st).length (gJ (sU ⟨dR st,(a9 st).names⟩ (mI {S with uf:=[]} (λ_ _ _=>b6) nZ q ⟨dR st,(a9 st).names⟩) nZ) (cG st))
noncomputable def qB(S:Sig)(x:Str):MF:=match S.uf.lookup x with
 |some st=>wI S b7 st|none=>λ_ _=>b6
noncomputable def k8(S:Sig)(x:Str):MF:=match S.ul.lookup x with
 |some st=>wI S b8 st|none=>λ_ _=>b6
noncomputable def GY(S:Sig)(c:Cs):Stmt->MS
 |.Assign tg e _=>(match tg with
  |[t]=>(match fM t with
   |some y=>if gH c y&&eN e then(match eZ y c.N with|some i=>aO i (mI S (qB S) nZ b7 c e)|none=>bP)else bP
   |none=>bP)
  |_=>bP)
 |_=>bP
noncomputable def Bn(S:Sig)(c:Cs)(y:Str):List Stmt->Option (Str×Str)
 |[.Assign [t] e _]=>(fM t).bind λz=>(match e with
  |.Call f args kws _=>(match f,args,kws with
   |.Name g _,[.Name x _],[]=>if(S.ul.lookup g).isSome&&glob c g&&gH c z&&iF c x&&(x==y)then b4 (z,g)else b6
   |_,_,_=>b6)
  |_=>b6)
 |_=>b6
noncomputable def Bo(S:Sig)(c:Cs)(y:Str)(st:List Stmt):MS:=
 match Bn S c y st with
 |some q=>(match eZ q.1 c.N,eZ y c.N with
  |some i,b4 j=>aO i (aF (k8 S q.2) (aB (aA j) aD))
  |_,_=>bP)
 |none=>
 gJ (GY S c) st
noncomputable def Bp:List a6Q->Option (Str×Str×List Stmt)
 |[.ExceptHandler (b4 t) (b4 y) (b::bs) _]=>(match t with
  |.Name cn _=>b4 (cn,y,b::bs)
  |_=>b6)
 |_=>b6
theorem Tz(h:Bp a=b4 q):∃p c b bs,a=[.ExceptHandler (b4 (.Name q.1 p)) (b4 q.2.1) (b::bs) c]/\q.2.2=b::bs:=by
 unfold Bp at h;split at h
 .split at h
  .cases h;exact⟨_,_,_,_,rfl,rfl⟩
  .cases h
 .cases h
noncomputable def GZ(S:Sig)(c:Cs)(N:Stmt->MS)(r:Stmt->MR)(body:List Stmt)(a:List a6Q):MS:=match Bp a with
 |some q=>if glob c q.1&&(S.sup.lookup q.1).isSome&&decide (c.ks.lookup q.2.1=b4 .local)then(match eZ q.2.1 c.N with
  |some i=>jX (gJ N body) (qA N r body) (λx=>(S.sup.lookup x).map λb=>b.contains q.1) i (Bo S c q.2.1 q.2.2)
  |none=>bP)else bP
 |none=>bP
noncomputable def Bq(S:Sig)(E:Cs->Expr->ME)(T:Cs->Expr->MT)(c:Cs)(N:Stmt->MS)(r:Stmt->MR):Stmt->MS
 |.Try body hs [] [] _=>GZ S c N r body hs|st=>GS S E T c N st
noncomputable abbrev TB:=@Bi
noncomputable def hW(S:Sig)(F:Str->MF)(G:Str->RF)(k m:Nat)(c:Cs):Nat->(Stmt->MS)×(Stmt->MR)
 |0=>(λ_=>bP,λ_=>aV)|n+1=>(Bq S (tr S F m).1 (tr S F m).2 c (hW S F G k m c n).1 (hW S F G k m c n).2,TB S G k ((tr S F m).1 c) ((tr S F m).2 c) c (hW S F G k m c n).1 (hW S F G k m c n).2)
noncomputable abbrev qC(l:Bool)(L:List (Str×Stmt))(U:Str->MF)(X:Cx):Prop:=∀x,(L.lookup x).isSome=b8->∃(f:Addr)(a:ZU)(ps:List Str),FnU l X.prog X.w X.K X.mg X.base f a ps (fT X.K 1 (U x))/\X.mg x=b4 (.ref f)/\Za X.K (.ref f)=b8/\Binds X.K a ps []
structure Okr(S:Sig)(F:Str->MF)(G:Str->RF)(k:Nat)(c:Cs)(Y:Cx):Prop where
 o:Okx S F k c Y.nox
 ex:Y.ex=[]
 st:Y.stack=Y.env::Y.outer
 fr:∃L,Y.env.frame=b4 L
 own:∀x,Y.fn x=b8
 rf:∀x n,S.fn.lookup x=b4 n->∃(f:Addr)(fd:ZU)(ps:List Str),FnOk Y.prog Y.w Y.K Y.mg Y.base (i8 Y.prog Y.w) k f fd ps (o9 Y.K n (G x))/\Y.mg x=b4 (.ref f)/\Za Y.K (.ref f)=b8/\Binds Y.K fd ps []
 uf:qC b7 S.uf (qB S) Y
 ul:qC b8 S.ul (k8 S) Y
section
variable{S:Sig}{F:Str->MF}{G:Str->RF}{k:Nat}{c:Cs}{Y:Cx}
theorem TC(O:Okr S F G k c Y)(o:∀e,QE Y.nox e (E e))e:QRE Y e (Bf S G E c e):=by
 unfold Bf;split
 .split
  .split
   .rename_i h;rw[X4,X4,X4,decide_eq_true_eq]at h;obtain⟨⟨⟨a,b⟩,d⟩,_⟩:=h;obtain⟨f,p,q,i,j,l,n⟩:=O.rf _ _ b;exact OQ O.ex i O.o.room (O.o.gl a).1 j l n (fN o _ d) (O.o.gl a).2
   .exact zN
  .exact zN
 .exact zN
theorem G0(O:Okr S F G k c Y)(a:∀e,QE Y.nox e (E e))e:QRE Y e (Bg S G E c e):=TC O a e
theorem wJ(O:Okr S F G k c Y)(d:∀e,QE Y.nox e (E e))e:QRE Y e (k7 S G E c e):=by
 unfold k7;cases h:Bh S c e with
 |none=>exact G0 O d e|some a=>
  unfold Bh at h;split at h
  .split at h
   .split at h
    .rename_i q;cases h;rw[X4,X4,X4,X4,decide_eq_true_eq]at q;obtain⟨⟨⟨⟨b,i⟩,j⟩,l⟩,_⟩:=q;obtain⟨f,p,s,_,n,o,r⟩:=O.rf _ _ i;exact Pr (G0 O d _) j l (O.o.gl b).1 n o (O.o.gl b).2
    .cases h
   .cases h
  .cases h
theorem TF(O:Okr S F G k c Y)(d:∀e,QE Y.nox e (E e))x args p q pos:QR Y (.Raise (b4 (.Call (.Name x p) args [] q)) b6 pos) (wG S k E c x args):=by
 unfold wG;split
 .rename_i b;split
  .rename_i a o;split
   .split
    .rename_i h;rw[X4]at h;obtain⟨C,f,B,J,K,L,I,u,v,w,y,z,A⟩:=O.o.xc.init x a o;match k,h.1,O with
     |k+2,_,O=>exact Pc (k:=k+1) u v w (y _ _ _ _ k) z A O.o.room O.ex O.o.calm (O.o.gl b).1 (d _) h.2 (O.o.gl b).2
    .exact gW
   .exact gW
  .rename_i r;split
   .split
    .rename_i h;rw[X4,X4,decide_eq_true_eq]at h;obtain⟨⟨i,j⟩,l⟩:=h;obtain⟨H,s⟩:=Y2.mp i;obtain⟨C,n⟩:=O.o.xc.plain x H s r;exact OU n O.ex O.o.calm (O.o.gl b).1 (fN d _ j) l (O.o.gl b).2
    .exact gW
   .exact gW
 .exact gW
theorem sV(a:∀s,QS Y.nox s (N s))(b:∀s,QR Y s (r s)):∀d,QRB Y d (qA N r d)
 |[]=>OO|s::t=>ON (a s) (b s) (sV a b t)
theorem TH(O:Okr S F G k c Y)(j:∀e,QE Y.nox e (E e))(y:∀e,QT Y.nox e (T e))(u:∀s,QS Y.nox s (N s))(v:∀s,QR Y s (r s))st:QR Y st (Bi S G k E T c N r st):=by
 cases st with
 |Expr e p=>
  show QR Y _ (if eN e then k7 S G E c e else aV);split
  .rename_i h;exact OK (wJ O j _) h
  .exact gW
 |Return o p=>
  cases o with
  |none=>exact gW|some e=>exact OL (wJ O j _)
 |Assign w e p=>
  show QR Y _ (if mH w&&eN e then k7 S G E c e else aV);split
  .rename_i h;rw[X4]at h;obtain⟨x,p,rfl⟩:=Tx h.1;exact OM (wJ O j _) h.2
  .exact gW
 |For w d n i p=>
  show QR Y _ (if i.isEmpty&&eM d then k7 S G E c d else aV);split
  .rename_i h;rw[X4]at h;cases i with
   |nil=>exact Pt (wJ O j _) h.2|cons _ _=>cases h.1
  .exact gW
 |If t a b p=>exact OP (y _) (sV u v _) (sV u v _)|Raise e o p=>
  cases o with
  |some _=>exact gW|none=>
   show QR Y _ (match wF e with
    |some q=>wG S k E c q.1 q.2
    |none=>aV)
   split
   .rename_i q z;obtain⟨x,l⟩:=q;obtain⟨A,B,rfl⟩:=Tv z;exact TF O j _ _ _ _ _
   .exact gW
 |_=>exact gW
theorem TJ(n:X.N=c.N)(ks:X.env.scope.names=c.ks)(q:XcOk S X.K)e:QE X e (Bj S c e):=by
 have b:∀x p i,iF c x=b8->eZ x c.N=b4 i->QE X (.Name x p) (aA i):=λx p i h a=>by obtain⟨d,j,l⟩:=GH ks h;exact DZ i (by rw[n];exact j6 a) d j l
 unfold Bj;split
 .split
  .rename_i h;split
   .rename_i i a;exact b _ _ i h a
   .exact bD
  .exact bD
 .split
  .split
   .rename_i h;split
    .rename_i i a;exact Fb (b _ _ i h a) rfl λx o=>q.att x _ (beq_iff_eq.mp o)
    .exact bD
   .exact bD
  .exact bD
 .exact bD
theorem TK(h:Bk f args=b4 (a,l)):∃p es i j,f=.Name "isinstance" p/\args=[a,.Tuple es i j]/\wH es=b4 l:=by
 unfold Bk at h;split at h
 .split at h
  .rename_i e;cases beq_iff_eq.mp e;split at h
   .split at h
    .obtain⟨n,b,d⟩:=X5.mp h;cases d;exact⟨_,_,_,_,rfl,rfl,b⟩
    .cases h
   .cases h
  .cases h
 .cases h
theorem G1(ks:X.env.scope.names=c.ks)(b:X.K.In X.base)(q:X.base.Ns Y0 X.mg)(j:XcOk S X.K):∀{es}{l},wH es=b4 l->(l.all λn=>glob c n&&(S.sup.lookup n).isSome)=b8->
  ∃Cs,u7 X es Cs/\Cs.length=l.length/\∀x d,S.sup.lookup x=b4 d->Cs.map (λC=>iL X.K (.ref C) x)=(l.map λn=>d.contains n).map b4
 |[],l,h,_=>by cases h;exact⟨[],trivial,rfl,λ_ _ _=>rfl⟩
 |e::r,l,h,ha=>by obtain⟨x,A,h⟩:=X0.mp h;obtain⟨J,w,z⟩:=X5.mp h;cases z;obtain⟨p,rfl⟩:=iP A;rw[YO,X4,X4]at ha;obtain⟨Cs,B,E,H⟩:=G1 ks b q j w ha.2;obtain⟨o,i⟩:=Y2.mp ha.1.2;obtain⟨C,s,_⟩:=j.isx x o x i ha.1.2;have g:=sO (X:=X) ks ha.1.1;refine⟨C::Cs,⟨g.1,a0z b q (lZ s),g.2,B⟩,by rw[YB,YB,E],λy d u=>?_⟩;obtain⟨I,a,v⟩:=j.isx y d x u ha.1.2;rw[s]at a;cases a;rw[Yk,Yk,Yk,v,H y d u]
structure Okw(S:Sig)(U:Str->MF)(q:Bool)(c:Cs)(X:Cx):Prop where
 N:X.N=c.N
 nd:X.N.Nodup
 ks:X.env.scope.names=c.ks
 kind:X.env.scope.kind=.function
 no:∀x,S.no.contains x=b8->X.mg x=b6
 xc:XcOk S X.K
 uf:qC b7 S.uf U X
 hd:S.uf≠[]->X.A.depth<a3n
 sf:q=b8->Soft X
theorem trK_ok' v j pos:QE X (.Constant v j pos) (wB v):=by
 cases v with
 |int i=>exact D0|bool b=>exact D1|str s=>exact D2|none=>exact D3|_=>exact bD
theorem TL(h:pW S c iter=b4 [a]):∃d e,iter=.Call (.Name "range" d) [a] [] e/\glob c "range"=b8/\S.no.contains "range"=b8/\[a].all bR=true:=by
 unfold pW at h;split at h
 .split at h
  .rename_i b;subst b;split at h
   .rename_i hc;cases h;rw[X4,X4]at hc;exact⟨_,_,rfl,hc.1.1,hc.1.2,hc.2⟩
   .cases h
  .cases h
 .cases h
theorem TM(b:∀e,QE X e (r e))e:QT X e (Bl r e):=by
 have one:∀e,QT X e (if lV e then aP (r e)else jU):=λe=>by
  split
  .rename_i a;exact D9 (b e) a
  .exact uL
 unfold Bl;split
 .exact Ea (A1 one _ _ _)
 .exact one _
theorem sW:∀n q c X,Okw S U q c X->∀e,QE X e (mI S U n q c e)
 |0,_,_,_,_,_=>bD|n+1,q,c,X,O,e=>by
  have o:=sW (U:=U) n q c X O;show QE X e (Bm S U q c (mI S U n b7) (mI S U n q c) e);unfold Bm;split
  .exact trK_ok' _ _ _
  .split
   .exact D5 (o _)
   .exact bD
  .exact AZ o _ _ _
  .split
   .unfold GW;split
    .rename_i q v;obtain⟨a,cn⟩:=q;obtain⟨⟨p1,p2,rfl,rfl⟩,J⟩:=SR v;exact Tp (sO O.ks) O.no O.xc (o a) J
    .split
     .rename_i q v;obtain⟨a,l⟩:=q;obtain⟨p,es,kt,tp,rfl,rfl,hl⟩:=TK v;split
      .rename_i h;rw[X4,X4,X4,X4,X4,decide_eq_true_eq]at h;obtain⟨⟨⟨⟨⟨A,E⟩,T⟩,Z⟩,h5⟩,h6⟩:=h;refine⟨λr s w H Q I t=>?_⟩;obtain⟨Cs,t1,t2,t3⟩:=G1 O.ks I.mod.kin I.mod.glob O.xc hl Z;refine(Pn (sup:=λx=>(S.sup.lookup x).map λK=>l.map λn=>K.contains n) (o a) T (sO O.ks A).1 (O.no _ E) t1 (by rw[t2];exact h5) λx b hb=>?_).h r s w H Q I t;obtain⟨K,y,rfl⟩:=X5.mp hb;refine⟨t3 x K y,λz=>?_⟩;rw[a4a]at z;subst z;cases h6
      .exact bD
     .exact bD
   .exact bD
  .split
   .rename_i h;exact D6 (fN o _ h)
   .exact bD
  .split
   .exact D4 (o _) (o _)
   .exact bD
  .split
   .rename_i h;exact D7 (o _) (o _) h
   .exact bD
  .split
   .rename_i v;subst v;unfold GX;split
    .split
     .rename_i x hx;obtain⟨px,rfl⟩:=iP hx;split
      .rename_i a ha;split
       .rename_i h;rw[X4]at h;obtain⟨p1,p2,rfl,y,N,R⟩:=TL ha;have B:=GK O.nd O.N O.ks h.1;have L:∀M C j i u,Okw S U b7 (mF c _ [x]) (cH X _ M C (aW [x] X.N++[x]) j i u):=λM C j i u=>⟨show aW [x] X.N++[x]=aW [x] c.N++[x] by rw[O.N],A2 B,GN O.kind O.ks _ _,B.1.kind,O.no,O.xc,O.uf,O.hd,λz=>nomatch z⟩;refine⟨λr s w H Q I t=>?_⟩;refine Em (q:=Soft) (B.1.ok I.ok) (λr w H s u I=>?_) (Ei Pq (sO O.ks y).1 (O.no _ N) (fN o [a] R)) (λd μ z hz=>by cases hz;rfl) (λC j i u=>GQ (c:=c) B _ C j i u) (λC j i u=>(A3 (λe=>?_) _).h) (λC j i u=>(sW n b7 _ _ (L _ C j i u) _).h) (A6 h.2) r s w H Q I t
        .obtain⟨e,A,E,_⟩:=(O.sf rfl).at I;exact⟨e,A,E⟩
        .exact TM (sW n b7 _ _ (L _ C j i u)) e
       .exact bD
      .exact bD
     .exact bD
    .exact bD
   .exact bD
  .exact TJ O.N O.ks O.xc _
theorem Br(b:X.N=c.N)(nd:X.N.Nodup)(d:∀{y},gH c y=b8->Loc X.env.scope y)(fn:∀x,X.fn x=b8)(a:∀e,QE X e (r e)):∀n st,QS X st (sU c r n st)
 |0,_=>cC|n+1,st=>by
  unfold sU;split
  .exact Ec (a _)
  .split
   .rename_i h;exact Ee (D9 (a _) h) (hV (Br b nd d fn a n) _) (hV (Br b nd d fn a n) _)
   .exact cC
  .split
   .split
    .rename_i y l;obtain⟨p,rfl⟩:=iP l;split
     .rename_i h;rw[X4]at h;split
      .rename_i i j;exact zA i nd (a _) h.2 (by rw[b];exact j6 j) (d h.1) (.inl (fn _))
      .exact cC
     .exact cC
    .exact cC
   .exact cC
  .exact cC
theorem TN(O:Okr S F G k c Y)v st:QS (Y.hnd v) st (GY S c st):=by
 have a:∀e,QE (Y.hnd v) e (mI S (qB S) nZ b7 c e):=sW nZ b7 c (Y.hnd v) ⟨O.o.N,O.o.nd,O.o.ks,O.o.kind,O.o.no,O.o.xc,O.uf,λ_=>O.o.room.depth,λz=>nomatch z⟩;cases st with
 |Assign d e p=>
  cases d with
  |nil=>exact cC|cons t j=>
   cases j with
   |cons _ _=>exact cC|nil=>
    cases t with
    |Name y p=>
     show QS _ _ (if gH c y&&eN e then(match eZ y c.N with|some i=>aO i _|none=>bP)else bP);split
     .rename_i h;rw[X4]at h;split
      .rename_i i b;exact zA (X:=Y.hnd v) i O.o.nd (a _) h.2 (by show Y.N[i]?=_;rw[show Y.N=c.N from O.o.N];exact j6 b) (O.o.own h.1) (.inl (O.own _))
      .exact cC
     .exact cC
    |_=>exact cC
 |_=>exact cC
theorem TQ(h:Bn S c y st=b4 (z,g)):∃b p py n o,st=[.Assign [.Name z b] (.Call (.Name g p) [.Name y py] [] n) o]/\(S.ul.lookup g).isSome=b8/\glob c g=b8/\gH c z=b8/\iF c y=true:=by
 unfold Bn at h;split at h
 .obtain⟨q,l,a⟩:=X0.mp h;clear h;obtain⟨b,rfl⟩:=iP l;split at a
  .split at a
   .split at a
    .rename_i hc;cases a;rw[X4,X4,X4,X4,beq_iff_eq]at hc;obtain⟨⟨⟨⟨d,e⟩,i⟩,j⟩,rfl⟩:=hc;exact⟨_,_,_,_,_,rfl,d,e,i,j⟩
    .cases a
   .cases a
  .cases a
 .cases h
theorem TR(O:Okr S F G k c Y)y e st:QBh (Y.hnd (.ref e)) e st (Bo S c y st):=by
 unfold Bo;split
 .rename_i q hq;obtain⟨z,g⟩:=q;obtain⟨pz,pg,py,p1,p2,rfl,J,u,K,L⟩:=TQ hq;split
  .rename_i i j Z hj;obtain⟨f,fd,ps,M,N,T,U⟩:=O.ul _ J;obtain⟨A,v2,v3⟩:=O.o.vis L;refine⟨λa s b H D sf I t=>?_⟩;have w:∀{n:Nat}{x:Str},eZ x c.N=b4 n->Y.N[n]?=b4 x:=λh=>by rw[show Y.N=c.N from O.o.N];exact j6 h
   have l:PE (Y.hnd (.ref e)) (.Call (.Name g pg) [.Name y py] [] p1) (λb H Q=>nF e H/\tM Y.K (aF (k8 S g) (aB (aA j) aD)) b H Q):=λa s b H Q I t=>Pk (X:=Y.hnd (.ref e)) M O.o.room.depth N T U (w hj) O.o.nd A v2 v3 (O.o.gl u).1 (O.o.gl u).2 rfl a s b H Q t.1 I t.2;refine Cw (CD (X:=Y.hnd (.ref e)) O.o.nd (w Z) (O.o.own K) l (lW rfl) (.inl (O.own _))) a s b H D I ⟨sf,?_⟩;obtain⟨π,ρ,μ,fl,ρ',μ',R,r,d,k⟩:=t;obtain⟨⟨x,o⟩,X,d⟩:=X5.mp d;cases d;exact⟨π,ρ,μ,x,o,R,r,X,λp A B v E i1=>k p _ B v E ((r.mono v).set i1 i)⟩
  .exact(Eb cC).soft
 .exact(hV (TN O (.ref e)) st).soft
theorem wK:∀n Y,Okr S F G k c Y->(∀st,QS Y.nox st ((hW S F G k m c n).1 st))/\∀st,QR Y st ((hW S F G k m c n).2 st)
 |0,Y,O=>⟨λ_=>cC,λ_=>gW⟩|n+1,Y,O=>by
  have a:=wK (m:=m) n;refine⟨λst=>?_,λst=>?_⟩;rotate_left
  .have d:QR Y st (Bi S G k ((tr S F m).1 c) ((tr S F m).2 c) c (hW S F G k m c n).1 (hW S F G k m c n).2 st):=TH O ((sR m).1 c _ O.o) ((sR m).2 c _ O.o) (a Y O).1 (a Y O).2 st;exact d
  show QS Y.nox st (Bq S (tr S F m).1 (tr S F m).2 c (hW S F G k m c n).1 (hW S F G k m c n).2 st);unfold Bq;split
  .unfold GZ;split
   .rename_i q y;obtain⟨H,I,b,bs,rfl,u⟩:=Tz y;split
    .rename_i h;rw[X4,X4,decide_eq_true_eq]at h;obtain⟨⟨j,p⟩,r⟩:=h;split
     .rename_i i w;obtain⟨L,s⟩:=O.fr;refine OZ (X:=Y.nox) O.ex O.st s O.o.nd (by show Y.N[i]?=_;rw[show Y.N=c.N from O.o.N];exact j6 w) (by rw[<- r,<- O.o.ks]) (O.o.gl j).1 (O.o.gl j).2 (λx B z=>?_) (hV (a Y O).1 _) (λE=>?_) (λv=>?_)
      .obtain⟨A,l,o⟩:=X5.mp z;rw[<- o];exact O.o.xc.sub x A _ l p
      .have e:Okr S F G k c (Y.nox.wish E):=⟨O.o,O.ex,O.st,O.fr,O.own,O.rf
        ,O.uf
        ,O.ul
        ⟩
       exact sV (a _ e).1 (a _ e).2 _
      .rw[u];exact TR O _ v (b::bs)
     .exact cC
    .exact cC
   .exact cC
  .exact Tu O.o O.own (sR m).1 (sR m).2 (a Y O).1 st
end
noncomputable abbrev lk(_:Sig)(ds:List (Str×Stmt))(x:Str):Option Stmt:=ds.lookup x
noncomputable abbrev Sig.at(S:Sig)(_:Nat):Sig:=S
noncomputable def Bs(S:Sig)(F:Str->MF)(G:Str->RF)(k:Nat)(st:Stmt):MF:=q0 (dR st).length (gJ (hW (S.at k) F G k pY ⟨dR st,(a9 st).names⟩ pZ).1 (cG st))
noncomputable def Bt(S:Sig)(F:Str->MF)(G:Str->RF)(k:Nat)(st:Stmt):RF:=zO (dR st).length (qA (hW (S.at k) F G k pY ⟨dR st,(a9 st).names⟩ pZ).1 (hW (S.at k) F G k pY ⟨dR st,(a9 st).names⟩ pZ).2 (cG st))
noncomputable def qD(S:Sig)(ds:List (Str×Stmt)):Nat->(Str->MF)×(Str->RF)
 |0=>(λ_ _ _=>b6,λ_ _ _=>b6)
 |k+1=>(λx=>match lk S ds x with
   |none=>λ_ _=>b6|some st=>Bs S (qD S ds k).1 (qD S ds k).2 k st,λx=>match lk S ds x with
   |none=>λ_ _=>b6
   |some st=>Bt S (qD S ds k).1 (qD S ds k).2 k st)
noncomputable def iQ(S:Sig)(ds:List (Str×Stmt))(k:Nat):Str->MF:=(qD S ds k).1
noncomputable def mJ(S:Sig)(ds:List (Str×Stmt))(k:Nat):Str->RF:=(qD S ds k).2
structure DefAt(K:X2)(mg:Str->Option Value)(x:Str)(st:Stmt):Prop where
 ex:∃f fd,Fun K x x st f fd/\mg x=b4 (.ref f)/\Binds K fd (cK st) []
structure TxtOk(P:Yt)(w:YL)(K:X2)(mg:Str->Option Value)(S:Sig)(ds:List (Str×Stmt)):Prop where
 fns:∀x n,S.fn.lookup x=b4 n->∃st,ds.lookup x=b4 st/\(cK st).length=n
 defs:∀x st,ds.lookup x=b4 st->DefAt K mg x st/\k6 st=b8
 con:∀x d,S.con.lookup x=b4 d->∃v u,mg x=b4 u/\RelV v u/\∀π n H,IsD K π n H v d
 tab:∀x kvs,S.tab.lookup x=b4 kvs->∃(p:Addr)(vs:List (aU×V))(ws:List (aU×Value)),mg x=b4 (.ref p)/\(p==ZA)=b7/\(∀h:Y5,K.In h->h.DictOf (f6 P w) p ws)/\KV vs ws/\∀π n H,IsKs K π n H vs kvs
 no:∀x,S.no.contains x=b8->mg x=b6
 xc:XcOk S K
 uf:∀x st,S.uf.lookup x=b4 st->ds.lookup x=b4 st/\(cK st).length=1
 ul:∀x st,S.ul.lookup x=b4 st->ds.lookup x=b4 st/\(cK st).length=1
theorem G2(T:TxtOk P w K j S ds)l L(u:∀x st,L.lookup x=b4 st->ds.lookup x=b4 st/\(cK st).length=1)U(v:∀x st,L.lookup x=b4 st->U x=wI S l st)X(h1:X.prog=P)(n:X.w=w)(o:X.K=K)(p:X.mg=j):qC l L U X:=λx G=>by
 subst h1 n o p;obtain⟨st,i⟩:=Y2.mp G;obtain⟨B,E⟩:=u x st i;obtain⟨r,q⟩:=T.defs x st B;obtain⟨f,k,F,m,b⟩:=r.ex;have c:=Be q;refine⟨f,k,cK st,?_,m,F.kp,b⟩;rw[v x st i,<- E];unfold wI;refine Pj F c (by unfold dR;simp) λa A outer s H d=>?_;refine hV (Br (X:=l7 X.prog X.w X.K X.mg X.base (dR st) x (a9 st) f a A outer s H) (c:=⟨dR st,(a9 st).names⟩) rfl c.nd (λ{y} h=>GU (c:=⟨dR st,(a9 st).names⟩) rfl h) (λ_=>rfl) (λe=>?_) nZ) (cG st);exact sW (S:={S with uf:=[]}) nZ l ⟨dR st,(a9 st).names⟩ (l7 X.prog X.w X.K X.mg X.base (dR st) x (a9 st) f a A outer s H) ⟨rfl,c.nd,rfl,c.kind,T.no,{T.xc with},(λy I=>nomatch I),(λz=>absurd rfl z),d⟩ e
theorem TU(T:TxtOk P w K a S ds)X(h1:X.prog=P)(b:X.w=w)(c:X.K=K)(d:X.mg=a):qC b7 S.uf (qB S) X:=
 G2 T b7 S.uf T.uf (qB S) (λx st e=>by unfold qB;rw[e]) X h1 b c d
theorem TV(T:TxtOk P w K a S ds)X(h1:X.prog=P)(b:X.w=w)(c:X.K=K)(d:X.mg=a):qC b8 S.ul (k8 S) X:=
 G2 T b8 S.ul T.ul (k8 S) (λx st e=>by unfold k8;rw[e]) X h1 b c d
theorem TxtOk.at(T:TxtOk P w K a S ds)k:TxtOk P w K a (S.at k) ds:=
 T
theorem Bu(h:ds.lookup x=b4 st):lk S ds x=b4 st:=by unfold lk;rw[h]
theorem TxtOk.sc(T:TxtOk P w K a S ds)(h:lk S ds x=b4 st):k6 st=true:=(T.defs _ _ h).2
theorem TX(T:TxtOk P w K B S ds)k:∀x st nm q f z,lk S ds x=b4 st->Fun K nm q st f z->
  FnOk P w K B base dP k f z (cK st) (fT K (cK st).length (iQ S ds k x))/\FnOk P w K B base (i8 P w) k f z (cK st) (o9 K (cK st).length (mJ S ds k x)):=by
 induction k using Nat.strongRecOn with
 |_ k X=>
 intro x st nm q f z L hF;cases k with
 |zero=>exact⟨⟨λvs H Q E h=>h.1,λA outer s H p us vs Q E j he hb hv N=>by
   obtain⟨_,π,I,μ,d,μ',R,i,M,kc⟩:=N;cases M⟩,⟨λvs H Q E h=>h.1,λA outer s H p us vs Q E j he hb hv N=>by
   obtain⟨_,π,I,μ,d,μ',R,i,M,kc⟩:=N;cases M⟩⟩
 |succ k=>
  have ih:=X k (Z9 k);have e:iQ S ds (k+1) x=Bs S (iQ S ds k) (mJ S ds k) k st:=by show(match lk S ds x with|none=>_|some st=>Bs S (iQ S ds k) (mJ S ds k) k st)=_;rw[L]
  have e2:mJ S ds (k+1) x=Bt S (iQ S ds k) (mJ S ds k) k st:=by show(match lk S ds x with|none=>_|some st=>Bt S (iQ S ds k) (mJ S ds k) k st)=_;rw[L]
  rw[e,e2];have v:=Be (T.sc L);have O:∀(CX:gP)(a:Value)(A:YI)(outer:List a2Y)(s:X7)(H:Hp)(E:XK),Room k (A.deeper (a2j q (a9 st) s.heap.objs.size f a))->Okr (S.at k) (iQ S ds k) (mJ S ds k) k ⟨dR st,(a9 st).names⟩ (dO CX P w K B base (dR st) q (a9 st) f a A outer s H E):=λCX a A outer s H E j=>by
   refine⟨⟨rfl,v.nd,rfl,v.kind,rfl,j,a6C,λy n U=>?_,T.con,λy Y q=>⟨T.tab y Y q⟩,T.no,(T.at k).xc
    ⟩,rfl,rfl,⟨_,rfl⟩,λ_=>rfl,λy n U=>?_
    ,TU (T.at k) _ rfl rfl rfl rfl
    ,TV (T.at k) _ rfl rfl rfl rfl
    ⟩
   .obtain⟨b,u,J⟩:=T.fns y n U;obtain⟨r,c,l,Z,G⟩:=(T.defs y b u).1.ex;subst J;exact⟨r,c,cK b,(ih y b _ _ r c (Bu u) l).1,Z,l.kp,G⟩
   .obtain⟨b,u,J⟩:=T.fns y n U;obtain⟨r,c,l,Z,G⟩:=(T.defs y b u).1.ex;subst J;exact⟨r,c,cK b,(ih y b _ _ r c (Bu u) l).2,Z,l.kp,G⟩
  refine⟨NU hF v (by unfold dR;simp) rfl λa A outer s H E j=>?_,OR hF v (by unfold dR;simp) rfl λa A outer s H E j=>?_⟩
  .exact hV (wK (m:=pY) pZ _ (O dP a A outer s H E j)).1 (cG st)
  .have o:=O (i8 P w) a A outer s H E j;exact sV (wK (m:=pY) pZ _ o).1 (wK (m:=pY) pZ _ o).2 (cG st)
theorem TY(T:TxtOk P w K b S ds)k x st f a(d:ds.lookup x=b4 st)(c:Fun K x x st f a):
  FnOk P w K b base dP k f a (cK st) (fT K (cK st).length (iQ S ds k x)):=(TX T k x st x x f a (Bu d) c).1
theorem G3:∀{ns:List Int}{b},a2F (ns.map a2s)<=b->∀n∈ns,YZ n<=b
 |[],_,_,n,a=>nomatch a|m::ns,b,h,n,a=>by
  have e:a2F ((m::ns).map a2s)=a4U (.int m)+1+a2F (ns.map a2s):=rfl;have c:a4U (.int m)=YZ m:=rfl;rw[e,c]at h;rcases YN.mp a with rfl|a
  .lia
  .exact G3 (b:=b) (by lia) n a
section
open PySem PySem.W PySem.Calls PyProof.Rows
theorem TZ{l:a6Z}(X:l.most=b4 n)(z:d.params.defaults=[])(call:∀w s₀ b u E h o H s c a(vs:gw)ns,
   Ground q loose [] XP w s₀ u E b.heap->YP w b.heap->
   b.heap.get? h=b4 o->o.data=.func (docDef d.name d.params d.body d.scope H s c)->b.heap.CodeRec s d.name->u d.name=b4 (.ref h)->
   b.heap.get? a=b4 {cls:=.type "list",data:=.seq vs.toArray}->a1R vs ns->ns.length<=n->(∀m∈ns,YZ m<=2^20)->b.gens=#[]->
   a1z (Yv l.prog w) a5c (.call (.ref h) ⟨[.ref a],[]⟩) (λr v=>r=.ok (.ret (.bool b8))/\OldK b.heap v.heap/\v.os=b.os/\a3y v.gens) b):
  a7M q loose XP YP l.row.toRowW d [] (λf vs=>a9n f vs):=by
 intro w s₀ b u E G Y h o H s c L kV Z hd y J A R I K as p i hrd B T;obtain rfl:L=.none:=Dflts.none J z;obtain rfl:kV=.none:=Dflts.noKw J;obtain⟨a,vs,ns,rfl,rfl,k,e,j⟩:=Att.script_of X p B;have Q:∀m∈ns,YZ m<=2^20:=by
  have x:a4K (.list (ns.map a2s))=true:=by have:=i;unfold a9o at this;simpa using this
  unfold a4K at x;rw[X4]at x;exact G3 (of_decide_eq_true x.2)
 refine enter_call (a2p (call w s₀ b u E h o H s c a vs ns G Y Z (fd_plain hd) y A k e j Q R) λr v hq=>?_);obtain⟨rfl,M,N,O⟩:=hq;exact⟨.inl ⟨.bool b8,.bool b8,[],rfl,λ_=>rfl,.bool b8,Att.post_true l _,λ_=>⟨a5u,λ_ U=>(nomatch U)⟩⟩,M,N,O⟩
end
theorem walkM{l:a6Z}{K:ZJ->X2}(hn:l.most=b4 63)(N:d.params.defaults=[])(hr:Room k a5c)(hY:∀w h,YP w h->(K w.params).In h)(hl:ds.lookup d.name=b4 st)(hx:cK st=[x])(T:∀w E h,(K w.params).In h->h.Ns Y0 E->TxtOk l.prog w (K w.params) E S ds/\∃f J,Fun (K w.params) d.name d.name st f J/\E d.name=b4 (.ref f)/\∀s u,a4v s J ⟨[u],[]⟩ [(x,u)])(M:∀b:List Int,b.length<=63->(∀m∈b,YZ m<=2^20)->∃y,iQ S ds k d.name [.rol (b.map D.int)] []=b4 (.bl b8,y)):
  a7M q loose XP YP l.row.toRowW d [] (λf vs=>a9n f vs):=by
 refine TZ hn N λw Z s₁ E mb fa o pm cd doc a vs b G Y ho hd hcd Q B p c L hg=>?_;have U:=hY w _ Y;obtain⟨hT,f,J,hF,X,hb⟩:=T w E _ U G.T.g;rw[Q]at X;cases X;refine L2.law_call (CX:=dP) (sp:=fT (K w.params) 1 (iQ S ds k d.name)) U G.T.g G.T.b G.T.builtins G.T.nolimit hg B p (Y6 c (by decide)) hr (λA hb1 hb2=>?_) hb (λH hO hS=>?_) λH e s' z=>z
 .have:=TY (base:=A) hT k d.name st fa J hl hF;rw[hx]at this;exact this
 .obtain⟨y,hM⟩:=M b c L;have R:RoL (K w.params) H a (b.map V.int):=by
   rcases hS with(h|h)|h
   .rcases hO a with z|⟨o,I,z⟩
    .rw[z]at h;cases h
    .rw[z]at h;cases h
   .exact .inl h
   .exact .inr h
  refine⟨rfl,λ_=>0,[.rol (b.map D.int)],[],.bl b8,y,⟨λi j O=>absurd O (a5j _),λi O=>absurd O (a5j _),λi I h=>(by cases h),λi I h=>(by cases h),λi I h=>(by cases h)
   ,λi I h=>(by cases h)
   ,λi I h=>(by cases h)
   ,λi x b ds h=>(by cases h)
   ⟩,.cons (.rol R ?_) .nil,hM,λπ' v H' _ _ hv=>?_⟩
  .have:∀b:List Int,IsDs (K w.params) (λ_=>0) ([]:Hm).length H (b.map V.int) (b.map D.int):=λb=>by
    induction b with
    |nil=>exact .nil|cons n r ih=>exact .cons (.int n) ih
   exact this b
  .cases hv;rfl
end L3
namespace L3
open PySem L2
theorem hX{a:Type}:∀{l:List (Str×a)}{x}{b},l.lookup x=b4 b->(x,b)∈l:=λh=>ZH h
theorem T3{S:Sig}{ds:List (Str×Stmt)}(h:(S.fn.all λp=>match ds.lookup p.1 with|some st=>decide ((cK st).length=p.2)|none=>b7)=b8):∀x n,S.fn.lookup x=b4 n->∃st,ds.lookup x=b4 st/\(cK st).length=n:=by
 intro x n e;have:=Z2.mp h (x,n) (hX e);dsimp only at this;split at this
 .rename_i st a;exact⟨st,a,of_decide_eq_true this⟩
 .cases this
theorem T4{ds:List (Str×Stmt)}(h:∀p∈ds,DefAt K a p.1 p.2/\k6 p.2=b8):∀x st,ds.lookup x=b4 st->DefAt K a x st/\k6 st=true:=λx st e=>h (x,st) (hX e)
theorem T5{b:Str->Option Value}{a:List (Str×D)}(h:∀p∈a,∃v u,b p.1=b4 u/\RelV v u/\∀π n H,IsD K π n H v p.2):∀x d,a.lookup x=b4 d->∃v u,b x=b4 u/\RelV v u/\∀π n H,IsD K π n H v d:=λx d e=>h (x,d) (hX e)
theorem T6{b:Str->Option Value}{ts:List (Str×List (aU×D))}(h:∀t∈ts,∃(p:Addr)(vs:List (aU×V))(ws:List (aU×Value)),b t.1=b4 (.ref p)/\(p==ZA)=b7/\(∀h,K.In h->h.DictOf (f6 P w) p ws)/\KV vs ws/\∀π n H,IsKs K π n H vs t.2):
  ∀x a,ts.lookup x=b4 a->∃(p:Addr)(vs:List (aU×V))(ws:List (aU×Value)),b x=b4 (.ref p)/\(p==ZA)=b7/\(∀h,K.In h->h.DictOf (f6 P w) p ws)/\KV vs ws/\∀π n H,IsKs K π n H vs a:=λx a e=>h (x,a) (hX e)
theorem G4{L ds:List (Str×Stmt)}(h:L.map (λp=>ds.lookup p.1)=L.map λp=>b4 p.2)(a:(L.all λp=>decide ((cK p.2).length=1))=b8):∀x st,L.lookup x=b4 st->ds.lookup x=b4 st/\(cK st).length=1:=
 λx st e=>⟨a4r.mp h (x,st) (hX e),of_decide_eq_true (Z2.mp a (x,st) (hX e))⟩
inductive EntsOf (w:YL):List DictEntry->List (aU×Value)->Prop where
 |nil:EntsOf w [] []
 |cons {e:DictEntry}{k:aU}{v:Value}{es:List DictEntry}{kvs:List (aU×Value)}(h:kG k e.key=b8)(hh:e.hash=Cr w k)(hv:e.val=v)(t:EntsOf w es kvs):EntsOf w (e::es) ((k,v)::kvs)
theorem EntsOf.pairs(x:EntsOf w es kvs):Pairs (f6 P w) es kvs:=by
 induction x with
 |nil=>exact .nil|cons h c a _ b=>exact .cons h a b
theorem EntsOf.keys(x:EntsOf w es kvs):∀e∈es,∃k,(f6 P w).is k e.key=b8/\e.hash=(f6 P w).hash k:=by
 induction x with
 |nil=>intro e a;exact nomatch a|@cons e k v es kvs h c i _ d=>
  intro b a;rcases YN.mp a with rfl|a
  .exact⟨k,h,c⟩
  .exact d b a
theorem T7{h:Y5}(b:h.get? p=b4 {cls:=.type "dict",data:=.dict es.toArray ep})(x:EntsOf w es kvs)(d:ks.Nodup)(c:kvs.map (·.1)=ks):h.DictOf (f6 P w) p kvs:=
 ⟨_,es.toArray,ep,b,⟨rfl,rfl,rfl⟩,rfl,λe a=>x.keys e (by simpa using a),by simpa using x.pairs,c▸d⟩
theorem G5 x t:kG (.inr x) (.str x t)=true:=by simp[kG,a5F]
theorem T8{a:Str->Option Value}{ns:List Str}(h:∀x∈ns,a x=b6):∀x,ns.contains x=b8->a x=none:=λx e=>h x (by simpa using e)
noncomputable def wL:Nat->(Nat->Value)->gw
 |0,_=>[]|n+1,u=>u 0::wL n λi=>u (i+1)
theorem G6:∀us,∃u,us=wL us.length u
 |[]=>⟨λ_=>.none,rfl⟩|v::us=>let⟨u,a⟩:=G6 us;⟨λi=>match i with|0=>v|i+1=>u i,congrArg (v::·) a⟩
noncomputable abbrev G7:Type:=Value->Value->Value->Option Addr->Value->Value->(Nat->Value)->a8s (List (Str×Value))
noncomputable def T9(x:Str)(st:Stmt)(m:Value)(c:Addr):Obj:=⟨Yq "function",b6,.func (ZN x x (f9 st) (cG st) (a9 st) .none .none .none m b6 (.ref c) .none),#[]⟩
noncomputable def G8(K:X2)(d:(Str×Stmt)×Value×Addr×Addr):Option (Option Value)×Option Obj×Bool×Bool×Bool×G7:=(Zn K Y0 d.1.1,K.lookup d.2.2.2,a1V K (.ref d.2.2.1) d.1.1,Za K (.ref d.2.2.2),k6 d.1.2,λkV b c an a ct u=>a6q (ZN d.1.1 d.1.1 (f9 d.1.2) (cG d.1.2) (a9 d.1.2) .none kV b c an a ct) ⟨wL (cK d.1.2).length u,[]⟩)
noncomputable def G9(d:(Str×Stmt)×Value×Addr×Addr):Option (Option Value)×Option Obj×Bool×Bool×Bool×G7:=(b4 (b4 (.ref d.2.2.2)),b4 (T9 d.1.1 d.1.2 d.2.1 d.2.2.1),b8,b8,b8,λ_ _ _ _ _ _ u=>pure ((cK d.1.2).zip (wL (cK d.1.2).length u)))
noncomputable def wM(K:X2)(d:Str×Stmt):(Str×Stmt)×Value×Addr×Addr:=(d,match Zn K Y0 d.1 with
 |some (b4 (.ref f))=>(match K.lookup f with
  |some ⟨_,_,.func fd,_⟩=>(match fd.code with
   |.ref c=>(fd.pyModule,c,f)
   |_=>(.none,0,0))
  |_=>(.none,0,0))
 |_=>(.none,0,0))
noncomputable def wN(K:X2)(ds:List (Str×Stmt)):Prop:=ds.map (λd=>G8 K (wM K d))=ds.map λd=>G9 (wM K d)
theorem Ha(X:K.In h)(G:h.Ns Y0 j)(q:wN K ds):∀p∈ds,(DefAt K j p.1 p.2/\k6 p.2=b8)/\∃f n,Fun K p.1 p.1 p.2 f n/\j p.1=b4 (.ref f)/\∀us:gw,us.length=(cK p.2).length->a6q n ⟨us,[]⟩=pure ((cK p.2).zip us):=by
 intro i v;have t:=a4r.mp q i v;have e:(wM K i).1=i:=rfl;generalize wM K i=d at t e;obtain⟨p,m,c,f⟩:=d;cases e;unfold G8 G9 at t;obtain⟨a,t⟩:=a3D t;obtain⟨l,t⟩:=a3D t;obtain⟨c,t⟩:=a3D t;obtain⟨k,t⟩:=a3D t;obtain⟨s,b⟩:=a3D t;have F:=Dl (st:=p.2) l c k;have D:=λkV doc pm an cdv ct (us:gw)(r:us.length=(cK p.2).length)=>(by
  obtain⟨u,o⟩:=G6 us;rw[r]at o;rw[o];exact congrFun (congrFun (congrFun (congrFun (congrFun (congrFun (congrFun b kV) doc) pm) an) cdv) ct) u:a6q (ZN p.1 p.1 (f9 p.2) (cG p.2) (a9 p.2) .none kV doc pm an cdv ct) ⟨us,[]⟩=pure ((cK p.2).zip us))
 exact⟨⟨⟨_,_,F,a0z X G a,Binds.all (D _ _ _ _ _ _)⟩,s⟩,_,_,F,a0z X G a,D _ _ _ _ _ _⟩
theorem Ua(X:K.In h)(G:h.Ns Y0 c)(q:wN K ds)(d:ds.lookup x=b4 st)(e:cK st=[y]):∃f a,Fun K x x st f a/\c x=b4 (.ref f)/\∀s u,a4v s a ⟨[u],[]⟩ [(y,u)]:=by obtain⟨f,a,F,m,b⟩:=(Ha X G q (x,st) (hX d)).2;dsimp only at b;rw[e]at b;exact⟨f,a,F,m,λs u=>.of_eq (b [u] rfl)⟩
theorem Ub(X:K.In h)(G:h.Ns Y0 a){ns:List Str}(q:ns.map (Zn K Y0)=ns.map λ_=>b4 b6):∀x∈ns,a x=none:=λx b=>PySem.W.mg_none_of X G (a4r.mp q x b)
noncomputable def sX{c d:Type}(f:c->d->Bool):List c->List d->Bool
 |[],[]=>b8|a::as,b::bs=>f a b&&sX f as bs|_,_=>b7
noncomputable def sY(K:X2):Nat->Value->D->Bool
 |0,_,_=>b7|k+1,u,d=>match d with
  |.non=>(match u with|.none=>b8|_=>b7)|.bl b=>(match u with|.bool c=>decide (b=c)|_=>b7)|.int i=>(match u with|.int j _=>decide (i=j)|_=>b7)|.str x=>(match u with|.str y _=>decide (x=y)|_=>b7)
  |.tup ds=>(match u with
   |.ref p=>(match K.lookup p with
    |some ⟨.type t,b6,.seq its _,_⟩=>decide (t="tuple")&&decide (its.size<=1000)&&sX (sY K k) its.toList ds
    |_=>b7)
   |_=>b7)
  |.rol ds=>(match u with
   |.ref p=>(match K.lookup p with
    |some ⟨.type t,b6,.seq its _,_⟩=>decide (t="list")&&decide (its.size<=1000)&&sX (sY K k) its.toList ds
    |_=>b7)
   |_=>b7)
  |_=>b7
theorem Hb(h:∀u d,f u d=b8->∃v,RelV v u/\∀π n H,IsD K π n H v d):∀us ds,sX f us ds=b8->∃vs,Vals vs us/\∀π n H,IsDs K π n H vs ds
 |[],[],_=>⟨[],.nil,λ_ _ _=>.nil⟩|u::us,d::ds,e=>by obtain⟨a,b⟩:=a0L.mp e;obtain⟨v,r,q⟩:=h u d a;obtain⟨vs,i,c⟩:=Hb h us ds b;exact⟨v::vs,.cons r i,λ_ _ _=>.cons (q _ _ _) (c _ _ _)⟩
 |[],_::_,e=>nomatch e|_::_,[],e=>nomatch e
theorem Hc:∀k u d,sY K k u d=b8->∃v,RelV v u/\∀π n H,IsD K π n H v d
 |0,_,_,e=>nomatch e|k+1,u,d,e=>by
  have seq:∀{p:Addr}{ds:List D}{c:String},(match K.lookup p with|some ⟨.type t,b6,.seq h _,_⟩=>decide (t=c)&&decide (h.size<=1000)&&sX (sY K k) h.toList ds|_=>b7)=b8->∃j h n o,K.lookup p=b4 ⟨.type c,b6,.seq h n,o⟩/\h.size<=Yi/\Vals j h.toList/\∀π n H,IsDs K π n H j ds:=λ{p ds c} e=>by
   split at e
   .rename_i t h n o l;obtain⟨e,q⟩:=a0L.mp e;obtain⟨a,b⟩:=a0L.mp e;cases of_decide_eq_true a;obtain⟨j,r,i⟩:=Hb (Hc k) _ _ q;exact⟨j,h,n,o,l,Y6 (of_decide_eq_true b) (by decide),r,i⟩
   .cases e
  cases d with
  |non=>cases u with
   |none=>exact⟨.non,rfl,λ_ _ _=>.non⟩|_=>cases e
  |bl b=>cases u with
   |bool c=>cases of_decide_eq_true e;exact⟨.bl b,rfl,λ_ _ _=>.bl _⟩|_=>cases e
  |int b=>cases u with
   |int c=>cases of_decide_eq_true e;exact⟨.int b,⟨_,rfl⟩,λ_ _ _=>.int _⟩|_=>cases e
  |str b=>cases u with
   |str c=>cases of_decide_eq_true e;exact⟨.str b,⟨_,rfl⟩,λ_ _ _=>.str _⟩|_=>cases e
  |tup ds=>cases u with
   |ref p=>obtain⟨j,h,n,o,l,s,r,i⟩:=seq e;exact⟨.ref p,rfl,λ_ _ _=>.tup (vs:=j) (.inr ⟨_,h,n,l,rfl,rfl,rfl,s,r⟩) (i _ _ _)⟩|_=>cases e
  |rol ds=>cases u with
   |ref p=>obtain⟨j,h,n,o,l,s,r,i⟩:=seq e;exact⟨.ref p,rfl,λ_ _ _=>.rol (vs:=j) (.inr ⟨_,h,n,l,rfl,rfl,rfl,s,r⟩) (i _ _ _)⟩|_=>cases e
  |_=>cases e
noncomputable def Hd(K:X2)(a:List (Str×D)):Bool:=a.all λc=>match Zn K Y0 c.1 with|some (b4 u)=>sY K 8 u c.2|_=>b7
theorem Uc(X:K.In h)(G:h.Ns Y0 b)(q:Hd K a=b8):∀p∈a,∃v u,b p.1=b4 u/\RelV v u/\∀π n H,IsD K π n H v p.2:=λp c=>by
 have t:=Z2.mp q p c;split at t
 .rename_i u d;obtain⟨v,r,i⟩:=Hc _ _ _ t;exact⟨v,u,a0z X G d,r,i⟩
 .cases t
noncomputable def He:Expr->Option Str
 |.Constant v _ _=>(match v with
  |.str s=>b4 s
  |_=>b6)
 |_=>b6
theorem Ud(h:He e=b4 s):∃k p,e=.Constant (.str s) k p:=by
 cases e with
 |Constant v k p=>
  cases v with
  |str t=>cases h;exact⟨_,_,rfl⟩|_=>cases h
 |_=>cases h
noncomputable def Bv:Expr->Option (Expr×Str×ZL)
 |.Attribute o m p=>b4 (o,m,p)|_=>b6
theorem Hf(h:Bv e=b4 q):e=.Attribute q.1 q.2.1 q.2.2:=by
 cases e with
 |Attribute o m p=>cases h;rfl|_=>cases h
noncomputable def Hg(f:Expr)(args:List Expr)(a:List a1C)(c:ZL):Option (Str×Str):=
 match args with
 |[a1,a2]=>(match a with
  |[]=>(fM a1).bind λd=>(He a2).bind λ_=>(Bv f).bind λq=>(fM q.1).bind λb=>if(q.2.1=="__init__" && (q.2.2.endLine==c.line))=b8 then b4 (b,d)else b6
  |_::_=>b6)
 |_=>b6
noncomputable def Hh:Stmt->Option (Str×Str)
 |.Expr e _=>(match e with
  |.Call f args kws p5=>Hg f args kws p5
  |_=>b6)
 |_=>b6
noncomputable def Hi:Stmt->Option (Str×Str×Str)
 |.Assign ts e _=>(match ts with
  |[t]=>(Bv t).bind λq=>(fM q.1).bind λb=>(fM e).bind λa=>b4 (b,q.2.1,a)
  |_=>b6)
 |_=>b6
theorem Ue(h:Hh st=b4 (bn,sf)):∃r j k l n o c p,st=.Expr (.Call (.Attribute (.Name bn k) "__init__" l) [.Name sf n,.Constant (.str r) j o] [] c) p/\(l.endLine==c.line)=true:=by
 cases st with
 |Expr e p=>
  cases e with
  |Call f a b c=>
   have h:Hg f a b c=b4 (bn,sf):=h;match a,h with
   |[a1,a2],h=>
    cases b with
    |cons _ _=>cases h|nil=>
     obtain⟨z,v,h⟩:=X0.mp h;obtain⟨r,w,h⟩:=X0.mp h;obtain⟨q,x,h⟩:=X0.mp h;obtain⟨s,y,d⟩:=X0.mp h;obtain⟨n,rfl⟩:=iP v;obtain⟨j,o,rfl⟩:=Ud w;obtain⟨k,u⟩:=iP y;have i:=Hf x;rw[u]at i;subst i;by_cases hc:(q.2.1=="__init__" && (q.2.2.endLine==c.line))=b8
     .rw[if_pos hc]at d;cases d;rw[X4,beq_iff_eq]at hc;rw[hc.1];exact⟨_,_,_,_,_,_,_,_,rfl,hc.2⟩
     .rw[if_neg hc]at d;cases d
  |_=>cases h
 |_=>cases h
theorem Ug(h:Hi st=b4 (sf,a,ar)):∃c p d b,st=.Assign [.Attribute (.Name sf c) a p] (.Name ar d) b:=by
 cases st with
 |Assign s e b=>
  match s,h with
  |[t],h=>obtain⟨q,l,h⟩:=X0.mp h;obtain⟨r,n,h⟩:=X0.mp h;obtain⟨j,o,h⟩:=X0.mp h;cases h;obtain⟨c,k⟩:=iP n;obtain⟨d,rfl⟩:=iP o;have i:=Hf l;rw[k]at i;exact⟨c,_,d,b,by rw[i]⟩
 |_=>cases h
noncomputable def sZ(K:X2)(x bn:Str):Addr×Addr×Addr×Value×Addr:=
 let C:=(gX K x).getD 0
 let f:=(match K.lookup C with
  |some ⟨_,_,.cls cd,_⟩=>(match Zn K cd.ns "__init__" with
   |some (b4 (.ref f))=>f
   |_=>0)
  |_=>0)
 let q:=(match K.lookup f with
  |some ⟨_,_,.func fd,_⟩=>(match fd.code with
   |.ref c=>(fd.pyModule,c)
   |_=>(.none,0))
  |_=>(.none,0))
 (C,f,(gX K bn).getD 0,q.1,q.2)
noncomputable def Uh(x qual:Str)(st:Stmt)(m:Value)(c:Addr):Obj:=⟨Yq "function",b6,.func (ZN x qual (f9 st) (cG st) (a9 st) .none .none .none m b6 (.ref c) .none),#[]⟩
noncomputable def qE(K:X2)(x a bn qual:Str)(st:Stmt):Bool:=
 let q:=sZ K x bn
 Zn K Y0 x==b4 (b4 (.ref q.1))&&uY K q.1 q.2.1&&zQ K q.2.2.1&&Zn K Y0 bn==b4 (b4 (.ref q.2.2.1))&&ZI K (.ref q.1) "__setattr__"==b4 (b4 (.builtin "object.__setattr__")) &&
 ZI K (.ref q.1) a==b4 b6&&Za K (.ref q.1)&&a1V K (.ref q.2.2.2.2) qual&&Za K (.ref q.2.1)&&k6 st
noncomputable abbrev tD(K:X2)(x a:Str):Prop:=∃C f B bn b sf ar,InitK K C f B bn a/\Zn K Y0 x=b4 (b4 (.ref C))/\Za K (.ref C)=b8/\(∀P w d base k,FnOk P w K d base dP (k+1) f b [sf,ar] (nG C a))/\Binds K b [sf,ar] []/\∃c,K.lookup f=b4 c/\c.cls=.type "function"
theorem Bw(hB:qE K x a bn qual st=b8)(b:K.lookup (sZ K x bn).2.1=b4 (Uh "__init__" qual st (sZ K x bn).2.2.2.1 (sZ K x bn).2.2.2.2))(M:cG st=[s1,s2])(h1:Hh s1=b4 (bn,sf))(H:Hi s2=b4 (sf,a,ar))(J:dR st=[sf,ar])(L:cK st=[sf,ar])(N:(a9 st).names.lookup bn=b4 .globalImplicit)(O:((bn==("__debug__":Str))||(sf==("__debug__":Str))||(ar==("__debug__":Str))||(sf==("__classdict__":Str))||(ar==("__classdict__":Str)))=b7)(hD:∀kV h R an e ct u v,a6q (ZN "__init__" qual (f9 st) (cG st) (a9 st) .none kV h R an e ct) ⟨[u,v],[]⟩=pure [(sf,u),(ar,v)]):
  tD K x a:=by
 unfold qE at hB;generalize sZ K x bn=q at hB b;obtain⟨C,f,B,m,c⟩:=q;dsimp only at hB b;rw[X4,X4,X4,X4,X4,X4,X4,X4,X4,beq_iff_eq,beq_iff_eq,beq_iff_eq,beq_iff_eq]at hB;obtain⟨⟨⟨⟨⟨⟨⟨⟨⟨o,p⟩,r⟩,s⟩,y⟩,z⟩,A⟩,E⟩,G⟩,d⟩:=hB;have I:InitK K C f B bn a:=⟨p,r,s,y,z⟩;have F:=Dl (st:=st) b E G;obtain⟨tx,U,Y,Z,p3,p4,p5,p6,rfl,j⟩:=Ue h1;obtain⟨p7,p8,p9,Q,rfl⟩:=Ug H;have l:=Be d;rw[J,L]at l;refine⟨C,f,B,bn,_,sf,ar,I,o,A,λP w X n k=>Pa F l M j I N O,Binds.all λT i=>?_,_,b,rfl⟩;match T,i with
 |[u,v],_=>exact hD _ _ _ _ _ _ u v
theorem Ui(h1:(S.cls.all λp=>u6 K p.2 p.1)=b8)(n:(S.sup.all λp=>S.sup.all λq=>rM K p.1 q.1==b4 (p.2.contains q.1))=b8)(o:(S.sup.all λp=>S.sup.all λq=>match gX K q.1 with|some C=>iL K (.ref C) p.1==b4 (p.2.contains q.1)|none=>b7)=b8)(r:(S.sup.all λp=>iL K (.type "ValueError") p.1==b4 (p.2.contains "ValueError"))=b8)(s:(S.sup.all λp=>(S.cls.lookup p.1).isSome||match gX K p.1 with|some C=>a3S K C nE "ValueError.__new__" |none=>b7)=b8)(u:∀p∈S.cls,tD K p.1 p.2): XcOk S K:=by
 have two:∀{g:Str×List Str->Str×List Str->Bool},(S.sup.all λp=>S.sup.all λq=>g p q)=b8->∀x b c d,S.sup.lookup x=b4 b->S.sup.lookup c=b4 d->g (x,b) (c,d)=true:=λ{g} h x b c d k l=>Z2.mp (Z2.mp h (x,b) (hX k)) (c,d) (hX l);refine⟨λx a e=>Z2.mp h1 (x,a) (hX e),λx b c e hc=>?_,λx b c e hc=>?_,λx b e=>?_,λx b e v=>?_,λx a e=>u (x,a) (hX e)⟩
 .obtain⟨d,j⟩:=Y2.mp hc;exact beq_iff_eq.mp (two n x b c d e j)
 .obtain⟨d,j⟩:=Y2.mp hc;have:=two o x b c d e j;dsimp only at this;split at this
  .rename_i C i;exact⟨C,i,beq_iff_eq.mp this⟩
  .cases this
 .exact beq_iff_eq.mp (Z2.mp r (x,b) (hX e))
 .have:=Z2.mp s (x,b) (hX e);dsimp only at this;rw[v]at this;split at this
  .rename_i C i;exact⟨C,by simpa using this,lZ i⟩
  .simp at this
noncomputable def W{a:Type}(o:Option a)(Q:a->Prop):Prop:=∃r,o=b4 r/\Q r
theorem W_some{r:α}{Q:α->Prop}:W (b4 r) Q↔Q r:=⟨λ⟨_,h,q⟩=>by cases h;exact q,λq=>⟨r,rfl,q⟩⟩
theorem W_none{Q:α->Prop}:W b6 Q↔False:=⟨λ⟨_,h,_⟩=>(by cases h),λh=>h.elim⟩
theorem W_bind{o:Option α}{g:α->Option β}{Q:β->Prop}:W (o.bind g) Q↔W o λr=>W (g r) Q:=by
 cases o with
 |none=>exact⟨λ⟨_,h,_⟩=>(by cases h),λ⟨_,h,_⟩=>(by cases h)⟩|some a=>simp[W_some]
theorem W_map{o:Option α}{g:α->β}{Q:β->Prop}:W (o.map g) Q↔W o λr=>Q (g r):=by
 cases o with
 |none=>exact⟨λ⟨_,h,_⟩=>(by cases h),λ⟨_,h,_⟩=>(by cases h)⟩|some a=>simp[W_some]
theorem bA{o:Option α}{Q:α->Prop}{a:α->Prop}(h:W o Q)(k:∀r,Q r->a r):W o a:=let⟨r,e,q⟩:=h;⟨r,e,k r q⟩
theorem wO{Q:α->Prop}[Decidable c]{a b:Option α}:W (if c then a else b) Q↔if c then W a Q else W b Q:=by split<;>rfl
noncomputable def fin:Option (Fl×aE×Hm)->jk:=λo=>o.bind λp=>match p.1 with|.rt d=>b4 (d,p.2.2)|.nx=>b4 (.non,p.2.2)|_=>b6
noncomputable def j8:Option (Xn×aE×Hm)->Option (Xn×Hm):=λo=>o.map λp=>(p.1,p.2.2)
theorem W_fin{Q:jz}:W (fin o) Q↔W o λp=>match p.1 with|.rt d=>Q (d,p.2.2)|.nx=>Q (.non,p.2.2)|_=>False:=by
 unfold fin;rw[W_bind];constructor
 .exact λh=>bA h λp q=>by obtain⟨a,c,b⟩:=p;cases a<;>simpa[W_some,W_none]using q
 .exact λh=>bA h λp q=>by obtain⟨a,c,b⟩:=p;cases a<;>simpa[W_some,W_none]using q
theorem aI{b μ':Hm}(h:b<+:μ'){a:Nat}(e:b[a]?=b4 c):μ'[a]?=b4 c:=by obtain⟨t,rfl⟩:=h;have d:=(X8.mp e).1;rw[Y8 d];exact e
theorem aR(a:Hm)(c:C):a<+:a++[c]:=⟨[c],rfl⟩
theorem dS{b μ':Hm}(h:b<+:μ')(d:b.length<=a)c:b<+:μ'.set a c:=by obtain⟨t,rfl⟩:=h;rw[a3H _ _ d];exact⟨_,rfl⟩
theorem w_mSeq{Q}:W (aK a b d c) Q↔W (a d c) λp=>match p.1 with|.nx=>W (b p.2.1 p.2.2) Q|_=>Q p:=by
 unfold aK;rw[W_bind];constructor
 .exact λh=>bA h λp q=>by obtain⟨e,d,c⟩:=p;cases e<;>simpa[W_some,W_none]using q
 .exact λh=>bA h λp q=>by obtain⟨e,d,c⟩:=p;cases e<;>simpa[W_some,W_none]using q
theorem w_mRet{Q}:W (aQ m a b) Q↔W (m a b) λp=>Q (.rt p.1,a,p.2):=W_map
theorem w_mDrop{Q}:W (bI m a b) Q↔W (m a b) λp=>Q (.nx,a,p.2):=W_map
theorem w_mSet{Q}:W (aO i m a b) Q↔W (m a b) λp=>Q (.nx,a.set i (b4 p.1),p.2):=W_map
theorem w_mNext{Q}:W (cA b a) Q↔Q (.nx,b,a):=W_some
theorem w_mIfS{Q}:W (bL t a b c d) Q↔W (t c d) λp=>if p.1=b8 then W (a c p.2) Q else W (b c p.2) Q:=by unfold bL;rw[W_bind];constructor<;>exact λh=>bA h λp q=>by obtain⟨x,d⟩:=p;cases x<;>simpa using q
theorem w_mIfE{Q}:W (mX t a b c d) Q↔W (t c d) λp=>if p.1=b8 then W (a c p.2) Q else W (b c p.2) Q:=by unfold mX;rw[W_bind];constructor<;>exact λh=>bA h λp q=>by obtain⟨x,d⟩:=p;cases x<;>simpa using q
theorem w_mAndT{Q}:W (jL a b d c) Q↔W (a d c) λp=>if p.1=b8 then W (b d p.2) Q else Q (b7,p.2):=by unfold jL;rw[W_bind];constructor<;>exact λh=>bA h λp q=>by obtain⟨x,c⟩:=p;cases x<;>simpa[W_some]using q
theorem w_mOrT{Q}:W (kK a b d c) Q↔W (a d c) λp=>if p.1=b8 then Q (b8,p.2)else W (b d p.2) Q:=by unfold kK;rw[W_bind];constructor<;>exact λh=>bA h λp q=>by obtain⟨x,c⟩:=p;cases x<;>simpa[W_some]using q
theorem w_mNotT{Q}:W (iH a c b) Q↔W (a c b) λp=>Q (!p.1,p.2):=W_map
theorem w_mOp{Q}:W (aC f a b c d) Q↔W (a c d) λp=>W (b c p.2) λq=>W (f p.1 q.1 q.2) Q:=by unfold aC;rw[W_bind];simp only[W_bind]
theorem fE{Q}:W (mC d b a) Q↔Q (d,a):=W_some
theorem cM{b:aE}{Q}:W (aA 0 (b4 d::b) a) Q↔Q (d,a):=by show W (b4 (d,a)) Q↔_;exact W_some
theorem dN{b:aE}{Q}:W (aA (i+1) (x::b) a) Q↔W (aA i b a) Q:=by unfold aA;rw[List.getElem?_cons_succ]
theorem eH{Q}:W (aD b a) Q↔Q ([],a):=W_some
theorem w_mCons{Q}:W (aB a r b c) Q↔W (a b c) λp=>W (r b p.2) λq=>Q (p.1::q.1,q.2):=by unfold aB;simp only[W_bind,W_some]
theorem w_mTup{Q}:W (dE ms b a) Q↔W (ms b a) fun p=>p.1.length<=Yi/\Q (.tup p.1,p.2):=by
 unfold dE
 rw [W_bind]
 constructor<;>exact fun h=>bA h fun p q=>by
  first
  | (rw [wO] at q;split at q
     .exact ⟨by assumption,W_some.mp q⟩
     .exact (W_none.mp q).elim)
  | (rw [if_pos q.1];exact W_some.mpr q.2)
theorem w_mLst{Q}:W (bV ms b a) Q↔W (ms b a) fun p=>p.1.length<=Yi/\Q (.loc p.2.length,p.2++[.lst p.1]):=by
 unfold bV
 rw [W_bind]
 constructor<;>exact fun h=>bA h fun p q=>by
  first
  | (rw [wO] at q;split at q
     .exact ⟨by assumption,W_some.mp q⟩
     .exact (W_none.mp q).elim)
  | (rw [if_pos q.1];exact W_some.mpr q.2)
theorem w_mCall{Q}:W (aF f ms b a) Q↔W (ms b a) fun p=>W (f p.1 p.2) Q:=W_bind
theorem w_mTest{Q}:W (aP m c a) Q↔W (m c a) λp=>match p.1 with|.bl b=>Q (b,p.2)|_=>False:=by unfold aP;rw[W_bind];constructor<;>exact λh=>bA h λp q=>by obtain⟨d,a⟩:=p;cases d<;>simpa[W_some,W_none]using q
theorem w_mTru{Q}:W (eF m c a) Q↔W (m c a) λp=>W (lY p.2 p.1) λb=>Q (b,p.2):=by unfold eF;simp only[W_bind,W_map]
theorem Uj{Q}:W (mW a e c) Q↔W (a e c) λp=>match p.1 with|.bl b=>Q (.bl (!b),p.2)|_=>False:=by unfold mW;rw[W_bind];constructor<;>exact λh=>bA h λp q=>by obtain⟨d,c⟩:=p;cases d<;>simpa[W_some,W_none]using q
theorem w_mAndV{Q}:W (eL a b i e) Q↔W (a i e) λp=>match p.1 with|.bl c=>if c=b8 then W (b i p.2) Q else Q (.bl b7,p.2)|_=>False:=by
 unfold eL;rw[W_bind];constructor<;>exact λh=>bA h λp q=>by
  obtain⟨d,e⟩:=p;cases d with
  |bl c=>cases c<;>simpa[W_some]using q|_=>simpa[W_none]using q
theorem w_addI{Q:jz}:W (cB (.int i) (.int j) μ) Q↔Q (.int (i+j),μ):=W_some
theorem w_subI{Q:jz}:W (jP (.int i) (.int j) μ) Q↔Q (.int (i-j),μ):=W_some
theorem jB{Q:jz}(h:0<j):W (bY (.int i) (.int j) μ) Q↔Q (.int (i%j),μ):=by show W ((if 0<j then b4 (i%j)else b6).map λz=>(D.int z,μ)) Q↔_;rw[if_pos h];exact W_some
theorem Uk:(1073741824:Int)<2^4000:=by decide +kernel
theorem Ul{Q:jz}(h:0<j)(k:j<2^4000):W (jQ (.int i) (.int j) μ) Q↔Q (.int (i/j),μ):=by show W ((if 0<j/\j<2^4000 then b4 (i/j)else b6).map λz=>(D.int z,μ)) Q↔_;rw[if_pos ⟨h,k⟩];exact W_some
theorem Bx{Q:jz}(h:0<j)(k:j<1073741824):W (jQ (.int i) (.int j) μ) Q↔Q (.int (i/j),μ):=Ul h (Int.lt_trans k Uk)
theorem tE{Q:jz}(h:(-(2^64)<i/\i<2^64)\/(-(2^64)<j/\j<2^64)):W (eV (.int i) (.int j) μ) Q↔Q (.int (i*j),μ):=by show W ((if((-(2^64)<i/\i<2^64)\/(-(2^64)<j/\j<2^64))\/(i.natAbs<2^4000/\j.natAbs<2^4000)\/YZ i+YZ j<=134217728 then b4 (i*j)else b6).map λz=>(D.int z,μ)) Q↔_;rw[if_pos (.inl h)];exact W_some
theorem w_eqI{Q:jz}:W (bE b7 (.int i) (.int j) μ) Q↔Q (.bl (i==j),μ):=W_some
theorem w_neI{Q:jz}:W (bE b8 (.int i) (.int j) μ) Q↔Q (.bl (!(i==j)),μ):=W_some
theorem w_ltI{Q:jz}:W (gD (.int i) (.int j) μ) Q↔Q (.bl (decide (i<j)),μ):=W_some
theorem w_leI{Q:jz}:W (oR (.int i) (.int j) μ) Q↔Q (.bl (decide (i<=j)),μ):=W_some
theorem Um{Q:jz}:W (q8 (.int i) (.int j) μ) Q↔Q (.bl (decide (j<i)),μ):=W_some
theorem Uo{Q:jz}:W (rA (.int i) (.int j) μ) Q↔Q (.bl (decide (j<=i)),μ):=W_some
theorem By{Q:jz}:W (aG (.tup [a,b]) (.int 0) μ) Q↔Q (a,μ):=W_some
theorem w_it21{Q:jz}:W (aG (.tup [a,b]) (.int 1) μ) Q↔Q (b,μ):=W_some
theorem w_truB:W (lY μ (.bl b)) Q↔Q b:=W_some
theorem n6{Q:jz}(h:b[a]?=b4 (.lst xs))(c:atI xs i=b4 d):W (aG (.loc a) (.int i) b) Q↔Q (d,b):=by
 have:aG (.loc a) (.int i) b=b4 (d,b):=by simp only[aG,eD,a8,h,Yy,c,YG]
 rw[this];exact W_some
theorem w_iSeq:W (cI m b a) Q↔W (m b a) λp=>W (jT p.2 p.1) λxs=>Q (dX p.1,xs.length+1,p.2):=by unfold cI;simp only[W_bind,W_map]
theorem w_mForI{Q}:W (cY c g b a d) Q↔W (c a d) λp=>W (fU p.1 g b p.2.1 0 a p.2.2) Q:=W_bind
theorem tF{j:Int}:W (gR ms e c) Q↔W (ms e c) fun p=>match p.1 with|[.int j]=>(-(2 ^ 62)<=j/\j<2 ^ 62)/\Q (iZ 0 j.toNat,j.toNat+1,p.2)|_=>False:=by
 unfold gR
 rw [W_bind]
 constructor<;>exact fun h=>bA h fun p q=>by
  obtain ⟨l,c⟩:=p
  match l,q with
  | [],q=>simpa [W_none] using q
  | [d],q=>
   cases d with
   | int j=>
    first
    | (dsimp only at q;rw [wO] at q;split at q
       .rename_i i;exact ⟨i,W_some.mp q⟩
       .exact (W_none.mp q).elim)
    | (dsimp only;rw [if_pos q.1];exact W_some.mpr q.2)
   | _=>simpa [W_none] using q
  | a::b::l,q=>simpa [W_none] using q
theorem w_iRng2:W (lX ms b a) Q↔W (ms b a) fun p=>match p.1 with|[.int i,.int j]=>(-(2 ^ 62)<=i/\i<2 ^ 62/\-(2 ^ 62)<=j/\j<2 ^ 62)/\Q (iZ i (j - i).toNat,(j - i).toNat+1,p.2)|_=>False:=by
 unfold lX
 rw [W_bind]
 constructor<;>exact fun h=>bA h fun p q=>by
  split at q
  .rename_i e
   try rw [e]
   first
   | (rw [wO] at q;split at q
      .rename_i c;exact ⟨c,W_some.mp q⟩
      .exact (W_none.mp q).elim)
   | ((try dsimp only);rw [if_pos q.1];exact W_some.mpr q.2)
  .first
   | exact (W_none.mp q).elim
   | exact q.elim
theorem tG{j:eW}{b:MS}(I:Nat->aE->Hm->Prop)(go:∀ i c a,i<N->I i c a->∃ d k,j a i=b4 (b4 d)/\g d c a=b4 k/\W (b k a) fun p=>match p.1 with|.nx=>I (i+1) p.2.1 p.2.2|.ct=>I (i+1) p.2.1 p.2.2|.bk=>Q (.nx,p.2.1,p.2.2)|.rt d=>Q (.rt d,p.2.1,p.2.2))(e:∀ c a,I N c a->j a N=b4 b6/\Q (.nx,c,a)):∀m i c a,i+m=N->I i c a->W (fU j g b (m+1) i c a) Q
 | 0,i,c,a,h,hI=>by
  have:i=N:=by lia
  subst this
  obtain ⟨o,r⟩:=e c a hI
  unfold fU
  rw [o]
  exact W_some.mpr r
 | m+1,i,c,a,h,hI=>by
  obtain ⟨d,k,o,r,u⟩:=go i c a (by lia) hI
  unfold fU
  rw [o]
  simp only [Yy,r]
  rw [W_bind]
  refine bA u fun p q=>?_
  obtain ⟨s,n,l⟩:=p
  cases s with
  | nx=>exact tG I go e m (i+1) n l (by lia) q
  | ct=>exact tG I go e m (i+1) n l (by lia) q
  | bk=>exact W_some.mpr q
  | rt d=>exact W_some.mpr q
theorem k9{b:MS}(I:Nat->aE->Hm->Prop)(o:I 0 h c)(n:∀i h c,I i h c->c[a]?=b4 (.lst xs))(go:∀i d h c,xs[i]?=b4 d->I i h c->∃j,g d h c=b4 j/\W (b j c) λp=>match p.1 with|.nx=>I (i+1) p.2.1 p.2.2|.ct=>I (i+1) p.2.1 p.2.2|.bk=>Q (.nx,p.2.1,p.2.2)|.rt d=>Q (.rt d,p.2.1,p.2.2))(l:∀h c,I xs.length h c->Q (.nx,h,c)):W (fU (dX (.loc a)) g b (xs.length+1) 0 h c) Q:=by
 refine tG (N:=xs.length) I (λi h c s k=>?_) (λh c k=>⟨?_,l h c k⟩) xs.length 0 h c (by lia) o
 .have e:xs[i]?=b4 xs[i]:=Yg s;obtain⟨j,q,r⟩:=go i xs[i] h c e k;refine⟨xs[i],j,?_,q,r⟩;simp only[dX,jT,a8,n i h c k,YG,e]
 .simp only[dX,jT,a8,n _ h c k,YG];simp
theorem Up(l:∀a,jT a x=b4 xs){b:MS}(I:Nat->aE->Hm->Prop)(n:I 0 c a)(go:∀i d c a,xs[i]?=b4 d->I i c a->∃h,g d c a=b4 h/\W (b h a) λp=>match p.1 with|.nx=>I (i+1) p.2.1 p.2.2|.ct=>I (i+1) p.2.1 p.2.2|.bk=>Q (.nx,p.2.1,p.2.2)|.rt d=>Q (.rt d,p.2.1,p.2.2))(j:∀c a,I xs.length c a->Q (.nx,c,a)):W (fU (dX x) g b (xs.length+1) 0 c a) Q:=by
 refine tG (N:=xs.length) I (λi c a r k=>?_) (λc a k=>⟨?_,j c a k⟩) xs.length 0 c a (by lia) n
 .have e:xs[i]?=b4 xs[i]:=Yg r;obtain⟨h,o,q⟩:=go i xs[i] c a e k;refine⟨xs[i],h,?_,o,q⟩;simp only[dX,l,YG,e]
 .simp only[dX,l,YG];simp
theorem n8{b:MS}(I:Nat->aE->Hm->Prop)(l:I 0 c a)(go:∀i c a,i<n->I i c a->∃e,g (.int (lo+i)) c a=b4 e/\W (b e a) λp=>match p.1 with|.nx=>I (i+1) p.2.1 p.2.2|.ct=>I (i+1) p.2.1 p.2.2|.bk=>Q (.nx,p.2.1,p.2.2)|.rt d=>Q (.rt d,p.2.1,p.2.2))(h:∀c a,I n c a->Q (.nx,c,a)):W (fU (iZ lo n) g b (n+1) 0 c a) Q:=by
 refine tG (N:=n) I (λi c a k j=>?_) (λc a j=>⟨?_,h c a j⟩) n 0 c a (by lia) l
 .obtain⟨e,o,q⟩:=go i c a k j;exact⟨_,e,by simp only[iZ,if_pos k],o,q⟩
 .simp only[iZ,ZM,if_false]
theorem Bz(h:b[a]?=b4 (.lst ys))(c:ys.length<Yi):oU b a y=b4 (b.set a (.lst (ys++[y]))):=by unfold oU;rw[h];exact if_pos c
theorem BA{x:eW}{h:Hm}{xs:List D}(A:∀a i,h<+:a->x a i=b4 xs[i]?)(J:xs.length<=Yi)(hc:∀d a,d∈xs->h<+:a->W (c (I++[b4 d]) a) λr=>r.1=p d/\a<+:r.2)(B:∀d a,d∈xs->p d=b8->h<+:a->W (e (I++[b4 d]) a) λr=>r.1=v d/\a<+:r.2)(fin:∀a,h<+:a->a[h.length]?=b4 (.lst ((xs.filter p).map v))->Q a):
  ∀m i(a:Hm),i+m=xs.length->h<+:a->a[h.length]?=b4 (.lst (((xs.take i).filter p).map v))->W (gQ x m3 c e I h.length (m+1) i a) Q
 |0,i,a,hi,hp,ha=>by
  have:i=xs.length:=by lia
  subst this;unfold gQ;rw[A a _ hp];rw[ZS (Yd _)];simp only[Yy];refine W_some.mpr (fin a hp ?_);simpa using ha
 |m+1,i,a,hi,hp,ha=>by
  have u:i<xs.length:=by lia
  have K:xs[i]?=b4 xs[i]:=Yg u;have k:xs[i]∈xs:=a0U u;unfold gQ;rw[A a _ hp,K];simp only[Yy,m3];rw[W_bind];refine bA (hc _ a k hp) λr q=>?_;obtain⟨b,z⟩:=r;obtain⟨L,w⟩:=q;dsimp only at L w ⊢;subst L;have j:xs.take (i+1)=xs.take i++[xs[i]]:=by rw[a0T,K];rfl
  have n:=aI w ha;cases l:p xs[i]with
  |false=>refine BA A J hc B fin m (i+1) z (by lia) (hp.trans w) ?_;rw[n,j,a1e];simp[l]|true=>
   dsimp only;rw[W_bind];refine bA (B _ z k l (hp.trans w)) λr q=>?_;obtain⟨y,H⟩:=r;obtain⟨M,G⟩:=q;dsimp only at M G ⊢;subst M;have o:=aI G n;have s:(((xs.take i).filter p).map v).length<Yi:=by have N:=ZR p (xs.take i);rw[X3];rw[Zs]at N;lia
   rw[Bz o s,Yy];have E:h<+:H:=(hp.trans w).trans G;refine BA A J hc B fin m (i+1) _ (by lia) (dS E (Yd _) _) ?_;rw[YY (X8.mp o).1,j,a1e];simp[l]
theorem hZ{xs:List D}{Q:jz}(hit:W (x b y) λr=>(∀a i,r.2.2<+:a->r.1 a i=b4 xs[i]?)/\r.2.1=xs.length+1/\xs.length<=Yi /\
   (∀d a,d∈xs->r.2.2<+:a->W (c (b++[b4 d]) a) λs=>s.1=p d/\a<+:s.2)/\(∀d a,d∈xs->p d=b8->r.2.2<+:a->W (e (b++[b4 d]) a) λs=>s.1=v d/\a<+:s.2) /\
   ∀a,r.2.2<+:a->a[r.2.2.length]?=b4 (.lst ((xs.filter p).map v))->Q (.loc r.2.2.length,a)):W (dY x c e b y) Q:=by
 unfold dY eE;rw[W_bind];refine bA hit λr q=>?_;obtain⟨z,n,h⟩:=r;obtain⟨j,k,l,o,u,w⟩:=q;dsimp only at j k l o u w ⊢;subst k;rw[W_map];exact BA j l o u w xs.length 0 (h++[.lst []]) (by lia) (aR _ _) (by simp)
theorem jC{b:Hm}(h:b[a]?=b4 (.lst xs)):∀μ' i,b<+:μ'->dX (.loc a) μ' i=b4 xs[i]?:=λμ' i c=>by simp only[dX,jT,a8,aI c h,YG]
theorem Uq{a:Hm}:∀μ' i,a<+:μ'->dX (.tup xs) μ' i=b4 xs[i]?:=λμ' i b=>rfl
noncomputable def fX(lo:Int)(n:Nat):List D:=(YR n).map λ(i:Nat)=>.int (lo+(i:Int))
theorem BB{a:Hm}:∀μ' i,a<+:μ'->iZ lo n μ' i=b4 (fX lo n)[i]?:=λμ' i _=>by
 unfold iZ fX;rw[Yo];by_cases h:i<n
 .rw[if_pos h,a2H h];rfl
 .rw[if_neg h,ZS (by simpa using a2W.mp h)];rfl
noncomputable abbrev P(x y:Int):D:=.tup [.int x,.int y]
noncomputable abbrev PP(p:Int×Int):D:=P p.1 p.2
theorem BC n e p q:dC (n+2) e (PP p) (PP q)=b4 (p==q):=by obtain⟨a,b⟩:=p;obtain⟨c,d⟩:=q;show b4 (a==c&&(b==d&&b8))=b4 ((a,b)==(c,d));rw[a8M];rfl
theorem Hj n a:∀ps qs:List Int,jO (kM (n+1) a) (ps.map D.int) (qs.map D.int)=b4 (ps==qs)
 |[],[]=>rfl|[],_::_=>rfl|_::_,[]=>rfl|p::ps,q::qs=>by rw[Yk,Yk];show(dC (n+1) a (.int p) (.int q)).bind (λb=>(jO (kM (n+1) a) (ps.map D.int) (qs.map D.int)).map λc=>b&&c)=_;rw[Hj n a ps qs];rfl
theorem Ur{ps:List Int}{Q:jz}(h:c[a]?=b4 (.lst (ps.map D.int)))(i:c[b]?=b4 (.lst (qs.map D.int))):W (bE ne (.loc a) (.loc b) c) Q↔Q (.bl (if ne then !(ps==qs)else ps==qs),c):=by
 have d:fL c (.loc a)=b4 (.lst (ps.map D.int)):=by simp only[fL,h]
 have e:fL c (.loc b)=b4 (.lst (qs.map D.int)):=by simp only[fL,i]
 have:dC 8 c (.loc a) (.loc b)=b4 (ps==qs):=by show(fL c (.loc a)).bind (λx=>(fL c (.loc b)).bind λy=>oO (kM 7 c) x y)=_;rw[d,e];exact Hj 6 c ps qs
 unfold bE;rw[this];exact W_some
theorem tH{Q:jz}(d:c[a]?=b4 (.lst xs))(e:c[b]?=b4 (.lst ys))(h:xs.length+ys.length<=Yi):W (cB (.loc a) (.loc b) c) Q↔Q (.loc c.length,c++[.lst (xs++ys)]):=by simp only[cB,d,e,if_pos h];exact W_some
theorem jD{Q:jz}(h:W (b a c) λp=>oZ p.2 p.1=b8/\W (ms a p.2) λq=>W (f p.1 q.1 q.2) Q):W (dZ f b ms a c) Q:=by unfold dZ;rw[W_bind];refine bA h λp q=>?_;rw[q.1];exact W_bind.mpr q.2
theorem iR(h:b[a]?=b4 (.lst xs)):oZ b (.loc a)=true:=by simp only[oZ,h]
theorem n9{Q:jz}(h:b[a]?=b4 (.lst xs))(c:xs.length<Yi):W (fW (.loc a) [y] b) Q↔Q (.non,b.set a (.lst (xs++[y]))):=by simp only[fW,Bz h c,YG];exact W_some
theorem BE{Q:jz}(h:c[a]?=b4 (.lst xs))(d:c[b]?=b4 (.lst ys))(e:xs.length+ys.length<=Yi):W (kT (.loc a) [.loc b] c) Q↔Q (.non,c.set a (.lst (xs++ys))):=by simp only[kT,h,d,if_pos e];exact W_some
theorem Us{Q:jz}:W (kN [.int i,.ty "bool"] a) Q↔Q (.bl b7,a):=W_some
theorem Ut{Q:jz}:W (kN [.int i,.ty "int"] a) Q↔Q (.bl b8,a):=W_some
theorem fY{Q:jz}(h:b[a]?=b4 (.lst xs)):W (cF [.loc a] b) Q↔Q (.int xs.length,b):=by simp only[cF,rB,a8,h,YG];exact W_some
theorem w_lenR{Q:jz}:W (cF [.rol xs] a) Q↔Q (.int xs.length,a):=W_some
theorem eC(h:b[a]?=b4 (.lst xs)):W (jT b (.loc a)) Q↔Q xs:=by simp only[jT,a8,h];exact W_some
theorem w_seqT:W (jT a (.tup xs)) Q↔Q xs:=W_some
theorem wQ:W (kL b a) Q↔Q (b6,a):=W_some
theorem wR:W (jN m b a) Q↔W (m b a) λp=>match p.1 with|.int i=>Q (b4 i,p.2)|_=>False:=by unfold jN;rw[W_bind];constructor<;>exact λh=>bA h λp q=>by obtain⟨d,a⟩:=p;cases d<;>simpa[W_some,W_none]using q
theorem Hk{Q:jz}(h:W (a b j) λp=>∃l,p.1=.loc l/\W (lo b p.2) λq=>W (c b q.2) λr=>∃xs,r.2[l]?=b4 (.lst xs)/\Q (.loc r.2.length,r.2++[.lst (jM xs q.1 r.1)])):W (mY a lo c b j) Q:=by unfold mY;rw[W_bind];refine bA h λp q=>?_;obtain⟨d,o⟩:=p;obtain⟨l,e,i⟩:=q;dsimp only at e i ⊢;subst e;rw[W_bind];refine bA i λs q=>?_;rw[W_bind];refine bA q λr q=>?_;obtain⟨xs,k,n⟩:=q;simp only[a8,k,Yy];exact W_some.mpr n
theorem bB(a:Hm)c:(a++[c])[a.length]?=b4 c:=by simp
theorem w_mChain{Q}:W (i9 f g a b c e i) Q↔W (a e i) λp=>W (b e p.2) λq=>W (f p.1 q.1 q.2) λr=>match r.1 with|.bl k=>if k=b8 then W (c e r.2) λt=>W (g q.1 t.1 t.2) Q else Q (.bl b7,r.2)|_=>False:=by
 unfold i9;simp only[W_bind];constructor<;>exact λh=>bA h λp q=>bA q λn l=>bA l λr j=>by
  obtain⟨d,i⟩:=r;cases d with
  |bl k=>cases k<;>simpa[W_some,W_bind]using j|_=>simpa[W_none]using j
theorem w_isnotNN{Q:jz}:W (eY b8 .non .non μ) Q↔Q (.bl b7,μ):=W_some
theorem w_isnotLN{Q:jz}:W (eY b8 (.loc a) .non μ) Q↔Q (.bl b8,μ):=W_some
theorem w_isnotTN{Q:jz}:W (eY b8 (.tup xs) .non μ) Q↔Q (.bl b8,μ):=W_some
theorem BF:∀a,oY (a.map D.int)=b4 a
 |[]=>rfl|i::a=>by show(oY (a.map D.int)).map (i::·)=_;rw[BF a];rfl
theorem BG{Q:jz}{b:List Int}(h:μ[a]?=b4 (.lst (b.map D.int))):W (kW [.loc a] μ) Q↔Q (.int b.sum,μ):=by simp only[kW,a8,h,Yy,BF,YG];exact W_some
theorem Uu{Q:jz}{bs:List Bool}(h:μ[a]?=b4 (.lst (bs.map D.bl))):W (uS [.loc a] μ) Q↔Q (.bl (bs.all id),μ):=by
 have e:∀bs:List Bool,o8 (bs.map D.bl)=b4 bs:=λbs=>by
  induction bs with
  |nil=>rfl|cons b bs c=>show(o8 (bs.map D.bl)).map (b::·)=_;rw[c];rfl
 simp only[uS,a8,h,Yy,e,YG];exact W_some
theorem Hl{Q:jz}(h:W (a b j) λp=>∃l,p.1=.loc l/\W (lo b p.2) λq=>W (c b q.2) λr=>W (st b r.2) λt=>t.1≠b4 0/\∃xs,t.2[l]?=b4 (.lst xs)/\(eQ xs q.1 r.1 t.1).length<=Yi/\Q (.loc t.2.length,t.2++[.lst (eQ xs q.1 r.1 t.1)])):W (pK a lo c st b j) Q:=by unfold pK;rw[W_bind];refine bA h λp q=>?_;obtain⟨d,v⟩:=p;obtain⟨l,e,i⟩:=q;dsimp only at e i ⊢;subst e;rw[W_bind];refine bA i λs q=>?_;rw[W_bind];refine bA q λr q=>?_;rw[W_bind];refine bA q λt q=>?_;obtain⟨k,xs,n,o,u⟩:=q;rw[if_pos k];simp only[eX,n,Yy];rw[if_pos o];exact W_some.mpr u
theorem Uv(h:W (ms i e) λp=>∃a xs,p.1=[.loc a]/\p.2[a]?=b4 (.lst xs)/\Q (rP (.loc a),xs.length+1,p.2)):W (pL ms i e) Q:=by unfold pL;rw[W_bind];refine bA h λp q=>?_;obtain⟨l,j⟩:=p;obtain⟨a,xs,b,c,d⟩:=q;dsimp only at b c d ⊢;subst b;dsimp only;simp only[eX,c,YG];exact W_some.mpr d
noncomputable def iS:Nat->List D->List D
 |_,[]=>[]|n,d::r=>.tup [.int n,d]::iS (n+1) r
theorem wU:∀xs(n i:Nat),(iS n xs)[i]?=(xs[i]?).map λd=>.tup [.int ((n+i:Nat):Int),d]
 |[],n,i=>by simp[iS]
 |d::r,n,0=>by simp[iS]
 |d::r,n,i+1=>by show(iS (n+1) r)[i]?=_;rw[wU r (n+1) i,show n+1+i=n+(i+1) by lia];simp
theorem BH:∀xs n,(iS n xs).length=xs.length
 |[],_=>rfl|d::r,n=>by rw[iS,YB,BH r,YB]
theorem Uw{b:Hm}(h:b[a]?=b4 (.lst xs)):∀μ' i,b<+:μ'->rP (.loc a) μ' i=b4 (iS 0 xs)[i]?:=λμ' i c=>by simp only[rP,a8,aI c h,YG,wU];congr 3;simp
theorem wV{n:eW}(I:Nat->List D->Hm->Prop)(B:N<=Yi)(k:∀i ys j,I i ys j->ys.length<=i)(go:∀i ys j,i<N->I i ys j->j[a]?=b4 (.lst ys)->∃d x,n j i=b4 (b4 d)/\A d j=b4 x/\W (c (z++x) j) λr=>(r.1=b7->r.2[a]?=b4 (.lst ys)/\I (i+1) ys r.2) /\
   (r.1=b8->W (e (z++x) r.2) λs=>s.2[a]?=b4 (.lst ys)/\I (i+1) (ys++[s.1]) (s.2.set a (.lst (ys++[s.1])))))(l:∀ys j,I N ys j->j[a]?=b4 (.lst ys)->n j N=b4 b6/\Q j):∀m i ys j,i+m=N->I i ys j->j[a]?=b4 (.lst ys)->W (gQ n A c e z a (m+1) i j) Q
 |0,i,ys,j,h,hI,hg=>by
  have:i=N:=by lia
  subst this;obtain⟨u,v⟩:=l ys j hI hg;unfold gQ;rw[u];exact W_some.mpr v
 |m+1,i,ys,j,h,hI,hg=>by
  obtain⟨d,x,u,v,E⟩:=go i ys j (by lia) hI hg;unfold gQ;rw[u];simp only[Yy,v];rw[W_bind];refine bA E λr q=>?_;obtain⟨b,w⟩:=r;cases b with
  |false=>obtain⟨o,p⟩:=q.1 rfl;exact wV I B k go l m (i+1) ys w (by lia) p o|true=>dsimp only;rw[W_bind];refine bA (q.2 rfl) λs q=>?_;obtain⟨y,G⟩:=s;obtain⟨o,p⟩:=q;dsimp only at o p ⊢;have H:=k i ys j hI;rw[Bz o (by lia),Yy];refine wV I B k go l m (i+1) _ _ (by lia) p ?_;rw[YY (X8.mp o).1]
theorem Hn{Q:jz}(hit:W (y h a) λr=>∃(N:Nat)(I:Nat->List D->Hm->Prop),r.2.1=N+1/\N<=Yi/\(∀i b a,I i b a->b.length<=i)/\I 0 [] (r.2.2++[.lst []]) /\
   (∀i b a,i<N->I i b a->a[r.2.2.length]?=b4 (.lst b)->∃d x,r.1 a i=b4 (b4 d)/\j d a=b4 x/\W (c (h++x) a) λp=>(p.1=b7->p.2[r.2.2.length]?=b4 (.lst b)/\I (i+1) b p.2) /\
    (p.1=b8->W (e (h++x) p.2) λs=>s.2[r.2.2.length]?=b4 (.lst b)/\I (i+1) (b++[s.1]) (s.2.set r.2.2.length (.lst (b++[s.1]))))) /\
   (∀b a,I N b a->a[r.2.2.length]?=b4 (.lst b)->r.1 a N=b4 b6/\Q (.loc r.2.2.length,a))):W (eE j y c e h a) Q:=by
 unfold eE;rw[W_bind];refine bA hit λr q=>?_;obtain⟨z,n,A⟩:=r;obtain⟨N,I,k,l,o,u,v,w⟩:=q;dsimp only at k l o u v w ⊢;subst k;rw[W_map];exact wV I l o v w N 0 [] _ (by lia) u (by simp)
theorem Ux{z:eW}{h:Hm}{xs:List D}{x:D->aE}(J:∀a i,h<+:a->z a i=b4 xs[i]?)(O:xs.length<=Yi)(M:∀d a,d∈xs->H d a=b4 (x d))(hc:∀d a,d∈xs->h<+:a->W (c (G++x d) a) λr=>r.1=p d/\a<+:r.2)(N:∀d a,d∈xs->p d=b8->h<+:a->W (e (G++x d) a) λr=>r.1=v d/\a<+:r.2)(fin:∀a,h<+:a->a[h.length]?=b4 (.lst ((xs.filter p).map v))->Q a):W (gQ z H c e G h.length (xs.length+1) 0 (h++[.lst []])) Q:=by
 refine wV (N:=xs.length) (λi A a=>A=((xs.take i).filter p).map v/\h<+:a) O ?_ ?_ ?_ xs.length 0 [] _ (by lia) ⟨by simp,aR _ _⟩ (by simp)
 .rintro i A a ⟨rfl,_⟩;rw[X3];refine Y6 (ZR _ _) ?_;rw[Zs];lia
 .rintro i A a I ⟨rfl,l⟩ w;have K:xs[i]?=b4 xs[i]:=Yg I;have j:xs[i]∈xs:=a0U I;have k:xs.take (i+1)=xs.take i++[xs[i]]:=by rw[a0T,K];rfl
  refine⟨xs[i],x xs[i],by rw[J a i l,K],M _ _ j,bA (hc _ a j l) λr q=>?_⟩;obtain⟨b,E⟩:=r;obtain⟨o,u⟩:=q;dsimp only at o u ⊢;refine⟨λn=>⟨aI u w,?_,l.trans u⟩,λn=>?_⟩
  .rw[k,a1e];rw[n]at o;simp[<- o]
  .rw[n]at o;refine bA (N _ E j o.symm (l.trans u)) λs q=>?_;obtain⟨y,R⟩:=s;obtain⟨L,B⟩:=q;dsimp only at L B ⊢;subst L;refine⟨aI (u.trans B) w,?_,dS ((l.trans u).trans B) (Yd _) _⟩;rw[k,a1e,YC];simp[<- o]
 .rintro A a ⟨rfl,l⟩ w;refine⟨by rw[J a _ l];simp,fin a l ?_⟩;rw[Z8]at w;exact w
theorem tI{xs:List D}{x:D->aE}{Q:jz}(hit:W (z b A) λr=>(∀a i,r.2.2<+:a->r.1 a i=b4 xs[i]?)/\r.2.1=xs.length+1/\xs.length<=Yi/\(∀d a,d∈xs->h d a=b4 (x d)) /\
   (∀d a,d∈xs->r.2.2<+:a->W (c (b++x d) a) λs=>s.1=p d/\a<+:s.2)/\(∀d a,d∈xs->p d=b8->r.2.2<+:a->W (e (b++x d) a) λs=>s.1=v d/\a<+:s.2) /\
   ∀a,r.2.2<+:a->a[r.2.2.length]?=b4 (.lst ((xs.filter p).map v))->Q (.loc r.2.2.length,a)):W (eE h z c e b A) Q:=by
 unfold eE;rw[W_bind];refine bA hit λr q=>?_;obtain⟨B,n,E⟩:=r;obtain⟨j,k,l,o,u,w,y⟩:=q;dsimp only at j k l o u w y ⊢;subst k;rw[W_map];exact Ux j l o u w y
theorem w_mTrue:W (dH b a) Q↔Q (b8,a):=W_some
theorem w_mPut{Q}:W (l8 o i v a b) Q↔W (v a b) λp=>W (o a p.2) λq=>W (i a q.2) λr=>W (rR q.1 r.1 p.1 r.2) λμ'=>Q (.nx,a,μ'):=by unfold l8 nJ;simp only[W_bind,W_map]
theorem Uy(h:W (ms d c) λp=>∃a b xs ys,p.1=[.loc a,.loc b]/\p.2[a]?=b4 (.lst xs)/\p.2[b]?=b4 (.lst ys)/\Q (r8 (.loc a) (.loc b),min xs.length ys.length+1,p.2)):W (r9 ms d c) Q:=by unfold r9;rw[W_bind];refine bA h λp q=>?_;obtain⟨a,b,xs,ys,e,i,j,q⟩:=q;rw[e];simp only[eX,i,j,Yy,YG];exact W_some.mpr q
theorem BI k:cN (.tup (k.map D.int))=b4 k:=BF k
theorem w_mDNewT{Q:jz}:W (j0 ρ μ) Q↔Q (.loc μ.length,μ++[.dT []]):=W_some
theorem Uz{kvs:jx}{Q:jz}(h:μ[a]?=b4 (.dT kvs))(b:cN y=b4 k)(c:aT kvs k=b4 d):W (aG (.loc a) y μ) Q↔Q (d,μ):=by simp only[aG,h,b,Yy,c,YG];exact W_some
theorem wW{kvs:jx}{Q:jz}(h:μ[a]?=b4 (.dT kvs))(c:cN y=b4 k):W (dA b y (.loc a) μ) Q↔Q (.bl (if b then !(aT kvs k).isSome else(aT kvs k).isSome),μ):=by
 have:dA b y (.loc a) μ=b4 (.bl (if b then !(aT kvs k).isSome else(aT kvs k).isSome),μ):=by simp only[dA,h,c,YG]
 rw[this];exact W_some
theorem wX(h:μ[a]?=b4 (.dT kvs))(b:cN y=b4 k)(c:kvs.length<Yi):W (rR (.loc a) y d μ) Q↔Q (μ.set a (.dT (bS kvs k d))):=by simp only[rR,rQ,h,b,Yy,if_pos c];exact W_some
theorem UA{kvs:jx}{Q:jz}(h:μ[a]?=b4 (.dT kvs)):W (j7 [.loc a] μ) Q↔Q (.loc μ.length,μ++[.lst (kvs.map λk=>D.tup (k.1.map D.int))]):=by simp only[j7,h];exact W_some
theorem UB{Q:jz}(h:μ[a]?=b4 (.lst xs)):W (j7 [.loc a] μ) Q↔Q (.loc μ.length,μ++[.lst xs]):=by simp only[j7,h,rF,a8,YG];exact W_some
theorem UC{ps:List Int}{Q:jz}(d:c[a]?=b4 (.lst (ps.map D.int)))(e:c[b]?=b4 (.lst (qs.map D.int))):W (bE b8 (.loc a) (.loc b) c) Q↔Q (.bl (!(ps==qs)),c):=Ur d e
theorem UD{Q:jz}(h:b[a]?=b4 (.lst xs)):W (mB [.loc a] b) Q↔Q (.loc b.length,b++[.lst xs.reverse]):=by simp only[mB,h];exact W_some
theorem BJ{Q:jz}(hz:z.length<=Yi)(h:atI z.cps.toList i=b4 c):W (aG (.str z) (.int i) a) Q↔Q (.str ⟨#[c]⟩,a):=by
 have:aG (.str z) (.int i) a=b4 (.str ⟨#[c]⟩,a):=by simp only[aG,eD];rw[if_pos hz,h];rfl
 rw[this];exact W_some
theorem UE(h:W (ms b a) λp=>∃i j c,p.1=[.int i,.int j,.int c]/\vF i j c=b8/\Q (zZ i c (Zl i j c).toNat,(Zl i j c).toNat+1,p.2)):W (pO ms b a) Q:=by unfold pO;rw[W_bind];refine bA h λp q=>?_;obtain⟨i,j,c,d,e,k⟩:=q;rw[d];dsimp only;rw[if_pos e];exact W_some.mpr k
theorem UG(h:W (ms c b) λp=>∃a xs,p.1=[.loc a]/\p.2[a]?=b4 (.lst xs)/\Q (jZ a xs.length,xs.length+1,p.2)):W (rS ms c b) Q:=by unfold rS;rw[W_bind];refine bA h λp q=>?_;obtain⟨a,xs,d,e,i⟩:=q;rw[d];dsimp only;rw[e];exact W_some.mpr i
theorem Ho(h:r e d=b4 (x,b,a))(j:sup x.1=b4 b8):
  W (jX m r sup i c e d) Q↔W (c (b.set i (b4 (.loc a.length))) (a++[C.exc x.1 (x.2.map (·.1)) (x.2.map (·.2))])) λq=>Q (q.1,q.2.1.set i b6,q.2.2):=by
 unfold jX;rw[h];dsimp only;rw[if_pos j];exact W_map
theorem UH(h:r b a=b6):W (jX m r sup i c b a) Q↔W (m b a) Q:=by unfold jX;rw[h]
theorem UI{Q:jz}:W (l6 c ok m j i) Q↔W (m j i) λp=>∃a x ns ds d,p.1=.loc a/\p.2[a]?=b4 (.exc x ns ds)/\ok x=b8/\(ns.zip ds).lookup c=b4 d/\Q (d,p.2):=by
 unfold l6;rw[W_bind];constructor
 .rintro⟨p,h,a,b,e⟩;refine⟨p,h,?_⟩;split at b
  .rename_i k q;split at b
   .rename_i x ns ds s;split at b
    .rename_i r;obtain⟨d,hd,rfl⟩:=X5.mp b;exact⟨k,x,ns,ds,d,q,s,r,hd,e⟩
    .cases b
   .cases b
  .cases b
 .rintro⟨p,h,a,x,ns,ds,d,b,e,l,n,o⟩;refine⟨p,h,_,?_,o⟩;rw[b];dsimp only;rw[e];dsimp only;rw[if_pos l,n];rfl
theorem w_rCall:W (eP r ms a b) Q↔W (ms a b) λp=>W (r p.1 p.2) λq=>Q (q.1,a,q.2):=by unfold eP;rw[W_bind];exact⟨λ⟨p,h,k⟩=>⟨p,h,W_map.mp k⟩,λ⟨p,h,k⟩=>⟨p,h,W_map.mpr k⟩⟩
theorem w_rRaiseI:W (rN x a m b c) Q↔W (m b c) λp=>Q ((x,[(a,p.1)]),b,p.2):=by unfold rN;exact W_map
theorem w_rIf:W (fC t b c a d) Q↔W (t a d) λp=>W (if p.1=b8 then b a p.2 else c a p.2) Q:=by unfold fC;exact W_bind
theorem dU(h:W (a c b) Q):W (bJ m a i c b) Q:=by obtain⟨p,d,e⟩:=h;refine⟨p,?_,e⟩;unfold bJ;rw[d]
theorem Hq(h:c b a=b6)(k:W (m b a) λp=>p.1=.nx/\W (d p.2.1 p.2.2) Q):W (bJ m c d b a) Q:=by obtain⟨⟨f,o,n⟩,e,i,p,j,l⟩:=k;cases i;refine⟨p,?_,l⟩;unfold bJ;rw[h,e];exact j
theorem oA:W (j8 o) Q↔W o λp=>Q (p.1,p.2.2):=W_map
end L3
namespace Lw
open PySem L2 L3
noncomputable def ds:List (Str×Stmt):=(("is_whole",aH 18)::("is_place",aH 19)::("is_corner",aH 20)::("is_edge",aH 21)::("moved_by",aH 22)::("edges_round",aH 23)::("is_size",aH 26)::("check_size",aH 27)::("is_mark",aH 28)::("is_within",aH 29)::("places_within",aH 30)::("edges_in",aH 31)::("corners_in",aH 32)::("is_inner_edge",aH 33)::("sheet_of",aH 34)::("marks_in",aH 35)::("is_good",aH 37)::("creases_at",aH 39)::("gaps_at",aH 40)::("barred",aH 41)::("check_corners",aH 42)::("tie_of",aH 44)::("is_least",aH 45)::("ties_of_gap",aH 46)::("ties_at",aH 47)::("ties",aH 48)::("walked_back",aH 51)::("steps_from",aH 52)::("is_marked",aH 53)::("marked_creases",aH 54)::("last_steps",aH 55)::("way_by",aH 56)::("is_alike",aH 57)::("back_by",aH 58)::("round_by_step",aH 59)::("round_within",aH 60)::("round_of",aH 61)::("carried_mark",aH 62)::("carried",aH 63)::("way_to",aH 64)::("_law_nth",aH 66)::("_law_round_a",aH 67)::("_law_inner",aH 68)::("_law_barred",aH 69)::("_law_kinds",aH 70)::("_law_asked",aH 71)::("_law_refused",aH 72)::("_law_corner",aH 73)::("law",aH 74)::[])
noncomputable def Hr:D:=(.tup [(.tup [(.int 2),(.int 0)]),(.tup [(.int 1),(.int 1)]),(.tup [(.int 0),(.int 2)]),(.tup [(.int (-1)),(.int 1)]),(.tup [(.int (-2)),(.int 0)]),(.tup [(.int (-1)),(.int (-1))]),(.tup [(.int 0),(.int (-2))]),(.tup [(.int 1),(.int (-1))])])
noncomputable def Hs:D:=(.tup [(.tup [(.int 1),(.int 1)]),(.tup [(.int (-1)),(.int 1)]),(.tup [(.int (-1)),(.int (-1))]),(.tup [(.int 1),(.int (-1))])])
noncomputable def Ht:D:=(.tup [(.str "h"),(.str "v"),(.str "o")])
noncomputable def BK:List (aU×D):=[((.inr "h"),(.str "v")),((.inr "v"),(.str "h"))]
noncomputable def S:Sig:={fn:=(("is_whole",1)::("is_place",1)::("is_corner",1)::("is_edge",1)::("moved_by",2)::("edges_round",1)::("is_size",1)::("check_size",2)::("is_mark",1)::("is_within",3)::("places_within",2)::("edges_in",2)::("corners_in",2)::("is_inner_edge",3)::("sheet_of",3)::("marks_in",1)::("is_good",1)::("creases_at",2)::("gaps_at",2)::("barred",1)::("check_corners",1)::("tie_of",4)::("is_least",2)::("ties_of_gap",3)::("ties_at",2)::("ties",1)::("walked_back",1)::("steps_from",1)::("is_marked",1)::("marked_creases",1)::("last_steps",2)::("way_by",2)::("is_alike",1)::("back_by",1)::("round_by_step",2)::("round_within",3)::("round_of",1)::("carried_mark",3)::("carried",1)::("way_to",2)::("_law_nth",2)::("_law_round_a",2)::("_law_inner",1)::("_law_barred",1)::("_law_kinds",1)::("_law_asked",2)::("_law_refused",2)::("_law_corner",2)::("law",1)::[]),con:=[("EIGHT_EDGES",Hr),("FOUR_EDGES",Hs),("MARKS",Ht)],tab:=[("TURNED",BK)],no:=["ValueError","all","bool","dict","enumerate","int","isinstance","len","list","max","min","range","reversed","sorted","str","sum","tuple","zip"],dIt:=["marks","reached"],dEq:=[],dMe:=[],cls:=[("NoEdge","edge"),("Twice","edge"),("Barred","corner")],sup:=[("CreaseError",["CreaseError","ValueError"]),("NoSize",["NoSize","CreaseError","ValueError"]),("NoMark",["NoMark","CreaseError","ValueError"]),("NoText",["NoText","CreaseError","ValueError"]),("NoRound",["NoRound","CreaseError","ValueError"]),("NoOrder",["NoOrder","CreaseError","ValueError"]),("TooMany",["TooMany","CreaseError","ValueError"]),("NoFold",["NoFold","CreaseError","ValueError"]),("NoRow",["NoRow","CreaseError","ValueError"]),("NoName",["NoName","CreaseError","ValueError"]),("Taken",["Taken","CreaseError","ValueError"]),("NoEdge",["NoEdge","CreaseError","ValueError"]),("Twice",["Twice","CreaseError","ValueError"]),("Barred",["Barred","CreaseError","ValueError"])],rz:=["ties","check_corners","steps_from","round_of","carried","way_to","_law_asked"],ul:=[("_law_kinds",aH 70)]}
@[irreducible] noncomputable def f(k:Nat)(x:Str):MF:=iQ S ds k x
@[irreducible] noncomputable def g(k:Nat)(x:Str):RF:=mJ S ds k x
noncomputable abbrev sup(c x:Str):Option Bool:=(S.sup.lookup x).map λys=>ys.contains c
noncomputable abbrev att(a x:Str):Bool:=S.cls.lookup x==b4 a
noncomputable def qE:MS:=bL (jL (aP (aC (bE b7) (aC bY (aA 2) (mC (.int 2))) (mC (.int 0)))) (aP (aC (bE b7) (aC bY (aA 2) (mC (.int 4))) (aC bY (aA 3) (mC (.int 4)))))) (bI (dZ fW (aA 1) (aB (dE (aB (aA 2) (aB (aA 3) aD))) aD))) cA
noncomputable def BL:MS:=aK (aO 7 (aC cB (aC bY (aC jP (aC jP (aC aG (aA 5) (aC bY (aC cB (aA 3) (mC (.int 1))) (aF cF (aB (aA 5) aD)))) (aC aG (aA 5) (aA 3))) (mC (.int 1))) (aF cF (aB (aA 4) aD))) (mC (.int 1)))) (bI (dZ fW (aA 6) (aB (aC eV (aA 7) (aC jQ (mC (.int 8)) (aF cF (aB (aA 4) aD)))) aD)))
noncomputable def BM(k:Nat):MS:=aK (aO 3 (aC aG (aF (f k "_law_round_a") (aB (aA 1) (aB (aA 2) aD))) (mC (.int 1)))) (bL (kK (aP (aC (bE b7) (aC bY (aF cF (aB (aA 3) aD)) (mC (.int 2))) (mC (.int 1)))) (aP (aC (bE b8) (aF kW (aB (eE (jR 2) (pL (aB (aA 3) aD)) dH (aC eV (aA 5) (aC jP (mC (.int 1)) (aC eV (mC (.int 2)) (aC bY (aA 4) (mC (.int 2))))))) aD)) (mC (.int 0))))) (aQ (aA 2)) cA)
noncomputable def BN(k:Nat):MS:=aK (aO 5 (aC aG (aA 4) (mC (.int 0)))) (aK (bL (iH (eF (aF (f k "is_inner_edge") (aB (aA 0) (aB (aA 1) (aB (aA 5) aD)))))) bP cA) (aK (bL (iH (eF (aF (f k "is_mark") (aB (aC aG (aA 4) (mC (.int 1))) aD)))) bP cA) (aK (bL (aP (aC (dA b7) (aA 5) (aA 3))) bP cA) (l8 (aA 3) (aA 5) (aC aG (aA 4) (mC (.int 1)))))))
noncomputable def BO:MS:=bL (aP (aC (dA b8) (aC aG (aA 6) (mC (.int 1))) (aA 2))) (aK (l8 (aA 2) (aC aG (aA 6) (mC (.int 1))) (aA 6)) (bI (dZ fW (aA 4) (aB (aC aG (aA 6) (mC (.int 1))) aD)))) cA
noncomputable def BP:MS:=aK (aO 5 (dZ nB (aA 4) (aB (mC (.int 0)) aD))) (cY (cI (gG hJ (aA 0) (aB (aA 5) (aB (bV aD) aD)))) (cW 6) BO)
noncomputable def Hu(k:Nat):MS:=aK (aO 7 (aF (f k "round_by_step") (aB (aA 3) (aB (aA 6) aD)))) (bL (iH (eF (aF (f k "is_alike") (aB (aA 7) aD)))) (aQ (aA 7)) cA)
noncomputable def Hv(k:Nat):MT:=jL (eF (aF (f k "is_marked") (aB (aC aG (aA 1) (aA 4)) aD))) (jL (eF (aF (f k "is_marked") (aB (aC aG (aA 1) (aA 2)) aD))) (aP (aC (bE b8) (aF (f k "is_alike") (aB (aA 5) aD)) (aC (bE b7) (aC aG (aA 1) (aA 4)) (aC aG (aA 1) (aA 2))))))
noncomputable def BQ(k:Nat):MS:=aK (aO 5 (aF (f k "way_by") (aB (aA 3) (aB (aA 4) aD)))) (aK (bL (Hv k) (aQ (aA 5)) cA) (cY (cI (gG hJ (aA 0) (aB (aA 4) (aB (bV aD) aD)))) (cW 6) (Hu k)))
noncomputable def BR(k:Nat):MS:=bL (aP (aC (dA b8) (aA 4) (aA 3))) (aK (aO 5 (aF (f k "round_within") (aB (aA 1) (aB (aA 2) (aB (aA 4) aD))))) (aK (bL (aP (aC (eY b8) (aA 5) (mC .non))) (aQ (aA 5)) cA) (bI (gG nX (aA 3) (aB (aF (f k "last_steps") (aB (aA 1) (aB (bV (aB (aA 4) aD)) aD))) aD))))) cA
noncomputable def BS(k:Nat):MS:=aK (aO 6 (aF (f k "_law_nth") (aB (aA 0) (aB (aC cB (mC (.int 1)) (aA 5)) aD)))) (l8 (aA 4) (aC aG (aA 3) (aC bY (aC jQ (aA 6) (mC (.int 3))) (aF cF (aB (aA 3) aD)))) (aC aG (mC (.str "ohv")) (aC bY (aA 6) (mC (.int 3)))))
noncomputable def Hw(k:Nat):MS:=aK (aO 7 (aF (f k "sheet_of") (aB (aC aG (aA 2) (mC (.int 0))) (aB (aC aG (aA 2) (mC (.int 1))) (aB (nR (aA 4)) aD))))) (aK (aO 8 (aF (f k "_law_barred") (aB (aA 7) aD))) (aK (bL (aP (aC (eY b7) (aA 8) (mC .non))) (aQ (aC (bE b7) (dY (cI (bV (aB (mC (.int 0)) (aB (mC (.int 1)) aD)))) dH (aF (f k "_law_refused") (aB (aA 10) (aB (aA 7) aD)))) (bV (aB (bV aD) (aB (bV aD) aD))))) cA) (aK (cY (gR (aB (mC (.int 4)) aD)) (cW 9) (bL (kK (aP (aC (bE b8) (aF (f k "_law_refused") (aB (aA 9) (aB (aA 7) aD))) (bV (aB (mC (.int 0)) (aB (mC (.int 1)) aD))))) (aP (aC (bE b8) (aF (f k "_law_corner") (aB (aA 9) (aB (aA 7) aD))) (aA 8)))) (aQ (mC (.bl b7))) cA)) (aQ (mC (.bl b8))))))
theorem Hx k a b:f (k+1) "is_whole" [a] b=fin ((aQ (eL (aF kN (aB (aA 0) (aB (mC (.ty "int")) aD))) (mW (aF kN (aB (aA 0) (aB (mC (.ty "bool")) aD)))))) [b4 a] b):=by kernel_rfl
theorem UJ k a b:f (k+1) "is_place" [a] b=fin ((aQ (eL (aF kN (aB (aA 0) (aB (mC (.ty "tuple")) aD))) (eL (aC (bE b7) (aF cF (aB (aA 0) aD)) (mC (.int 2))) (eL (aF (f k "is_whole") (aB (aC aG (aA 0) (mC (.int 0))) aD)) (aF (f k "is_whole") (aB (aC aG (aA 0) (mC (.int 1))) aD)))))) [b4 a] b):=by kernel_rfl
theorem UK k a b:f (k+1) "is_corner" [a] b=fin ((aQ (eL (aC (bE b7) (aC bY (aC aG (aA 0) (mC (.int 0))) (mC (.int 2))) (mC (.int 0))) (aC (bE b7) (aC bY (aC aG (aA 0) (mC (.int 0))) (mC (.int 4))) (aC bY (aC aG (aA 0) (mC (.int 1))) (mC (.int 4)))))) [b4 a] b):=by kernel_rfl
theorem UL k a b:f (k+1) "is_edge" [a] b=fin ((aK (bL (aP (aC (bE b7) (aC bY (aC aG (aA 0) (mC (.int 0))) (mC (.int 2))) (mC (.int 1)))) (aQ (aC (bE b7) (aC bY (aC aG (aA 0) (mC (.int 1))) (mC (.int 2))) (mC (.int 1)))) cA) (aQ (eL (aC (bE b7) (aC bY (aC aG (aA 0) (mC (.int 1))) (mC (.int 2))) (mC (.int 0))) (aC (bE b8) (aC bY (aC aG (aA 0) (mC (.int 0))) (mC (.int 4))) (aC bY (aC aG (aA 0) (mC (.int 1))) (mC (.int 4))))))) [b4 a] b):=by kernel_rfl
theorem UM k a b c:f (k+1) "moved_by" [a,b] c=fin ((aQ (dY (cI (aA 1)) dH (dE (aB (aC cB (aC aG (aA 0) (mC (.int 0))) (aC aG (aA 2) (mC (.int 0)))) (aB (aC cB (aC aG (aA 0) (mC (.int 1))) (aC aG (aA 2) (mC (.int 1)))) aD))))) [b4 a,b4 b] c):=by kernel_rfl
theorem UN k a b:f (k+1) "edges_round" [a] b=fin ((aQ (aF (f k "moved_by") (aB (aA 0) (aB (mX (aP (aC (bE b7) (aC bY (aC aG (aA 0) (mC (.int 0))) (mC (.int 4))) (mC (.int 0)))) (mC Hr) (mC Hs)) aD)))) [b4 a] b):=by kernel_rfl
theorem UO k a b:f (k+1) "is_size" [a] b=fin ((aQ (eL (aF (f k "is_whole") (aB (aA 0) aD)) (i9 oR oR (mC (.int 1)) (aA 0) (mC (.int 6))))) [b4 a] b):=by kernel_rfl
theorem UP k a b c:f (k+1) "check_size" [a,b] c=fin ((bL (iH (jL (eF (aF (f k "is_size") (aB (aA 0) aD))) (eF (aF (f k "is_size") (aB (aA 1) aD))))) bP cA) [b4 a,b4 b] c):=by kernel_rfl
theorem BU k a b:f (k+1) "is_mark" [a] b=fin ((aQ (eL (aF kN (aB (aA 0) (aB (mC (.ty "str")) aD))) (aC (dA b7) (aA 0) (mC Ht)))) [b4 a] b):=by kernel_rfl
theorem UQ k a b c d:f (k+1) "is_within" [a,b,c] d=fin ((aQ (eL (i9 gD gD (mC (.int 0)) (aC aG (aA 2) (mC (.int 0))) (aC eV (mC (.int 4)) (aA 0))) (i9 gD gD (mC (.int 0)) (aC aG (aA 2) (mC (.int 1))) (aC eV (mC (.int 4)) (aA 1))))) [b4 a,b4 b,b4 c] d):=by kernel_rfl
theorem UR k a b c:f (k+1) "places_within" [a,b] c=fin ((aK (aO 2 (bV aD)) (aK (cY (lX (aB (mC (.int 1)) (aB (aC eV (mC (.int 4)) (aA 0)) aD))) (cW 3) (bI (dZ kT (aA 2) (aB (dY (lX (aB (mC (.int 1)) (aB (aC eV (mC (.int 4)) (aA 1)) aD))) dH (dE (aB (aA 3) (aB (aA 4) aD)))) aD)))) (aQ (aA 2)))) [b4 a,b4 b,b6,b6] c):=by kernel_rfl
theorem US k a b c:f (k+1) "edges_in" [a,b] c=fin ((aQ (dY (cI (aF (f k "places_within") (aB (aA 0) (aB (aA 1) aD)))) (eF (aF (f k "is_edge") (aB (aA 2) aD))) (aA 2))) [b4 a,b4 b] c):=by kernel_rfl
theorem UT k a b c:f (k+1) "corners_in" [a,b] c=fin ((aQ (dY (cI (aF (f k "places_within") (aB (aA 0) (aB (aA 1) aD)))) (eF (aF (f k "is_corner") (aB (aA 2) aD))) (aA 2))) [b4 a,b4 b] c):=by kernel_rfl
theorem UU k a b c d:f (k+1) "is_inner_edge" [a,b,c] d=fin ((aQ (eL (aF (f k "is_place") (aB (aA 2) aD)) (eL (aF (f k "is_within") (aB (aA 0) (aB (aA 1) (aB (aA 2) aD)))) (aF (f k "is_edge") (aB (aA 2) aD))))) [b4 a,b4 b,b4 c] d):=by kernel_rfl
theorem UW k a b c d:f (k+1) "sheet_of" [a,b,c] d=fin ((aK (bI (aF (f k "check_size") (aB (aA 0) (aB (aA 1) aD)))) (aK (aO 3 j0) (aK (cY (cI (aA 2)) (cW 4) (BN k)) (aQ (dE (aB (aA 0) (aB (aA 1) (aB (vV (aA 3)) aD)))))))) [b4 a,b4 b,b4 c,b6,b6,b6] d):=by kernel_rfl
theorem Hy k a b:f (k+1) "marks_in" [a] b=fin ((aQ (aF nO (aB (aC aG (aA 0) (mC (.int 2))) aD))) [b4 a] b):=by kernel_rfl
theorem UX k a b:f (k+1) "is_good" [a] b=fin ((aK (bL (kK (aP (aC q8 (aF cF (aB (aA 0) aD)) (mC (.int 8)))) (aP (aC (bE b7) (aC bY (aF cF (aB (aA 0) aD)) (mC (.int 2))) (mC (.int 1))))) (aQ (mC (.bl b7))) cA) (aK (bL (iH (eF (aF uS (aB (dY (cI (aA 0)) dH (eL (aF (f k "is_whole") (aB (aA 1) aD)) (aC rA (aA 1) (mC (.int 1))))) aD)))) (aQ (mC (.bl b7))) cA) (aQ (aC (bE b7) (aF kW (aB (pK (aA 0) kL kL (jN (mC (.int 2)))) aD)) (aF kW (aB (pK (aA 0) (jN (mC (.int 1))) kL (jN (mC (.int 2)))) aD)))))) [b4 a] b):=by kernel_rfl
theorem UY k a b c:f (k+1) "creases_at" [a,b] c=fin ((aK (aO 2 (aF (f k "marks_in") (aB (aA 0) aD))) (aQ (dY (cI (aF (f k "edges_round") (aB (aA 1) aD))) (aP (aC (dA b7) (aA 3) (aA 2))) (aA 3)))) [b4 a,b4 b,b6] c):=by kernel_rfl
theorem UZ k a b c:f (k+1) "gaps_at" [a,b] c=fin ((aK (aO 2 (aF (f k "edges_round") (aB (aA 1) aD))) (aK (aO 3 (aF (f k "creases_at") (aB (aA 0) (aB (aA 1) aD)))) (aK (aO 4 (dY (cI (aA 3)) dH (dZ pN (aA 2) (aB (aA 7) aD)))) (aK (aO 5 (aC cB (mY (aA 4) (jN (mC (.int 1))) kL) (dY (cI (mY (aA 4) kL (jN (mC (.int 1))))) dH (aC cB (aA 7) (aF cF (aB (aA 2) aD)))))) (aK (aO 6 (aC jQ (mC (.int 8)) (aF cF (aB (aA 2) aD)))) (aQ (eE (jR 2) (r9 (aB (aA 4) (aB (aA 5) aD))) dH (aC eV (aC jP (aA 8) (aA 7)) (aA 6))))))))) [b4 a,b4 b,b6,b6,b6,b6,b6] c):=by kernel_rfl
theorem U0 k a b:f (k+1) "barred" [a] b=fin ((aK (cY (cI (aF (f k "corners_in") (aB (aC aG (aA 0) (mC (.int 0))) (aB (aC aG (aA 0) (mC (.int 1))) aD)))) (cW 1) (bL (iH (eF (aF (f k "is_good") (aB (aF (f k "gaps_at") (aB (aA 0) (aB (aA 1) aD))) aD)))) (aQ (aA 1)) cA)) (aQ (mC .non))) [b4 a,b6] b):=by kernel_rfl
theorem U1 k a b:f (k+1) "check_corners" [a] b=fin ((aK (aO 1 (aF (f k "barred") (aB (aA 0) aD))) (bL (aP (aC (eY b8) (aA 1) (mC .non))) bP cA)) [b4 a,b6] b):=by kernel_rfl
theorem Hz k a b:g (k+3) "check_corners" [a] b=j8 ((bJ (aO 1 (aF (f (k+2) "barred") (aB (aA 0) aD))) aV (bJ (bL (aP (aC (eY b8) (aA 1) (mC .non))) bP cA) (fC (aP (aC (eY b8) (aA 1) (mC .non))) (bJ bP (rN "Barred" "corner" (aA 1)) aV) aV) aV)) [b4 a,b6] b):=by kernel_rfl
theorem U2 k a b c d e:f (k+1) "tie_of" [a,b,c,d] e=fin ((aQ (dE (aB (aF Am (aB (aA 0) (aB (aA 1) aD))) (aB (aF An (aB (aA 0) (aB (aA 1) aD))) (aB (aA 2) (aB (aA 3) aD)))))) [b4 a,b4 b,b4 c,b4 d] e):=by kernel_rfl
theorem U3 k a b c:f (k+1) "is_least" [a,b] c=fin ((aQ (eL (aC gD (aC aG (aA 0) (aA 1)) (aC aG (aA 0) (aC jP (aA 1) (mC (.int 1))))) (aC gD (aC aG (aA 0) (aA 1)) (aC aG (aA 0) (aC bY (aC cB (aA 1) (mC (.int 1))) (aF cF (aB (aA 0) aD))))))) [b4 a,b4 b] c):=by kernel_rfl
theorem U4 k a b c d:f (k+1) "ties_of_gap" [a,b,c] d=fin ((aK (aO 3 (aF cF (aB (aA 0) aD))) (aK (aO 4 (bV (aB (aF (f k "tie_of") (aB (aC aG (aA 0) (aA 1)) (aB (aC aG (aA 0) (aC bY (aC cB (aA 1) (mC (.int 1))) (aA 3))) (aB (mC (.bl b7)) (aB (aA 2) aD))))) aD))) (aK (bL (aP (aC (bE b7) (aA 3) (mC (.int 4)))) (bI (dZ fW (aA 4) (aB (aF (f k "tie_of") (aB (aC aG (aA 0) (aC bY (aC cB (aA 1) (mC (.int 2))) (mC (.int 4)))) (aB (aC aG (aA 0) (aC bY (aC cB (aA 1) (mC (.int 3))) (mC (.int 4)))) (aB (mC (.bl b8)) (aB (aA 2) aD))))) aD))) cA) (aQ (aA 4))))) [b4 a,b4 b,b4 c,b6,b6] d):=by kernel_rfl
theorem U5 k a b c:f (k+1) "ties_at" [a,b] c=fin ((aK (aO 2 (aF (f k "creases_at") (aB (aA 0) (aB (aA 1) aD)))) (aK (aO 3 (aF (f k "gaps_at") (aB (aA 0) (aB (aA 1) aD)))) (aK (bL (aP (aC (bE b7) (aF cF (aB (aA 2) aD)) (mC (.int 2)))) (aQ (bV (aB (aF (f k "tie_of") (aB (aC aG (aA 2) (mC (.int 0))) (aB (aC aG (aA 2) (mC (.int 1))) (aB (mC (.bl b8)) (aB (aA 1) aD))))) aD))) cA) (aK (aO 4 (bV aD)) (aK (cY (gR (aB (aF cF (aB (aA 2) aD)) aD)) (cW 5) (bL (eF (aF (f k "is_least") (aB (aA 3) (aB (aA 5) aD)))) (bI (dZ kT (aA 4) (aB (aF (f k "ties_of_gap") (aB (aA 2) (aB (aA 5) (aB (aA 1) aD)))) aD))) cA)) (aQ (aA 4))))))) [b4 a,b4 b,b6,b6,b6,b6] c):=by kernel_rfl
theorem U6 k a b:f (k+1) "ties" [a] b=fin ((aK (bI (aF (f k "check_corners") (aB (aA 0) aD))) (aK (aO 1 (bV aD)) (aK (cY (cI (aF (f k "corners_in") (aB (aC aG (aA 0) (mC (.int 0))) (aB (aC aG (aA 0) (mC (.int 1))) aD)))) (cW 2) (bI (dZ kT (aA 1) (aB (aF (f k "ties_at") (aB (aA 0) (aB (aA 2) aD))) aD)))) (aQ (aF nV (aB (aA 1) aD)))))) [b4 a,b6,b6] b):=by kernel_rfl
theorem HA k a b:g (k+3) "ties" [a] b=j8 ((bJ (bI (aF (f (k+2) "check_corners") (aB (aA 0) aD))) (eP (g (k+2) "check_corners") (aB (aA 0) aD)) (bJ (aO 1 (bV aD)) aV (bJ (cY (cI (aF (f (k+2) "corners_in") (aB (aC aG (aA 0) (mC (.int 0))) (aB (aC aG (aA 0) (mC (.int 1))) aD)))) (cW 2) (bI (dZ kT (aA 1) (aB (aF (f (k+2) "ties_at") (aB (aA 0) (aB (aA 2) aD))) aD)))) aV (bJ (aQ (aF nV (aB (aA 1) aD))) aV aV)))) [b4 a,b6,b6] b):=by kernel_rfl
theorem U7 k a b:f (k+1) "walked_back" [a] b=fin ((aQ (dE (aB (aC aG (aA 0) (mC (.int 1))) (aB (aC aG (aA 0) (mC (.int 0))) (aB (aC aG (aA 0) (mC (.int 2))) (aB (aC aG (aA 0) (mC (.int 3))) aD)))))) [b4 a] b):=by kernel_rfl
theorem U8 k a b:f (k+1) "steps_from" [a] b=fin ((aK (aO 1 j0) (aK (cY (cI (aF (f k "ties") (aB (aA 0) aD))) (cW 2) (aK (bI (dZ fW (gG iM (aA 1) (aB (aC aG (aA 2) (mC (.int 0))) (aB (bV aD) aD))) (aB (aA 2) aD))) (bI (dZ fW (gG iM (aA 1) (aB (aC aG (aA 2) (mC (.int 1))) (aB (bV aD) aD))) (aB (aF (f k "walked_back") (aB (aA 2) aD)) aD))))) (aQ (aA 1)))) [b4 a,b6,b6] b):=by kernel_rfl
theorem HB k a b:g (k+3) "steps_from" [a] b=j8 ((bJ (aO 1 j0) aV (bJ (cY (cI (aF (f (k+2) "ties") (aB (aA 0) aD))) (cW 2) (aK (bI (dZ fW (gG iM (aA 1) (aB (aC aG (aA 2) (mC (.int 0))) (aB (bV aD) aD))) (aB (aA 2) aD))) (bI (dZ fW (gG iM (aA 1) (aB (aC aG (aA 2) (mC (.int 1))) (aB (bV aD) aD))) (aB (aF (f (k+2) "walked_back") (aB (aA 2) aD)) aD))))) (eP (g (k+2) "ties") (aB (aA 0) aD)) (bJ (aQ (aA 1)) aV aV))) [b4 a,b6,b6] b):=by kernel_rfl
theorem U9 k a b:f (k+1) "is_marked" [a] b=fin ((aQ (zE BK (aA 0))) [b4 a] b):=by kernel_rfl
theorem Va k a b:f (k+1) "marked_creases" [a] b=fin ((aQ (eE (jR 2) (cI (aC aG (aA 0) (mC (.int 2)))) (eF (aF (f k "is_marked") (aB (aA 2) aD))) (aA 1))) [b4 a] b):=by kernel_rfl
theorem Vb k a b c:f (k+1) "last_steps" [a,b] c=fin ((aK (aO 2 j0) (aK (cY (cI (aA 1)) (cW 3) (l8 (aA 2) (aA 3) (mC .non))) (aK (aO 4 (aF j7 (aB (aA 1) aD))) (aK (o7 pX (eF (aA 4)) BP) (aQ (aA 2)))))) [b4 a,b4 b,b6,b6,b6,b6,b6] c):=by kernel_rfl
theorem Vc k a b c:f (k+1) "way_by" [a,b] c=fin ((aK (aO 2 (bV aD)) (aK (aO 3 (aC aG (aA 0) (aA 1))) (aK (o7 pX (aP (aC (eY b8) (aA 3) (mC .non))) (aK (bI (dZ fW (aA 2) (aB (aA 3) aD))) (aO 3 (aC aG (aA 0) (aC aG (aA 3) (mC (.int 0))))))) (aQ (aF mB (aB (aA 2) aD)))))) [b4 a,b4 b,b6,b6] c):=by kernel_rfl
theorem Vd k a b:f (k+1) "is_alike" [a] b=fin ((aQ (aC (bE b7) (aC bY (aF cF (aB (dY (cI (aA 0)) (iH (eF (aC aG (aA 1) (mC (.int 2))))) (aA 1)) aD)) (mC (.int 2))) (mC (.int 0)))) [b4 a] b):=by kernel_rfl
theorem Ve k a b:f (k+1) "back_by" [a] b=fin ((aQ (dY (rS (aB (aA 0) aD)) dH (aF (f k "walked_back") (aB (aA 1) aD)))) [b4 a] b):=by kernel_rfl
theorem Vf k a b c:f (k+1) "round_by_step" [a,b] c=fin ((aQ (aC cB (aC cB (aF (f k "way_by") (aB (aA 0) (aB (aC aG (aA 1) (mC (.int 0))) aD))) (bV (aB (aA 1) aD))) (aF (f k "back_by") (aB (aF (f k "way_by") (aB (aA 0) (aB (aC aG (aA 1) (mC (.int 1))) aD))) aD)))) [b4 a,b4 b] c):=by kernel_rfl
theorem Vg k a b c d:f (k+1) "round_within" [a,b,c] d=fin ((aK (aO 3 (aF (f k "last_steps") (aB (aA 0) (aB (bV (aB (aA 2) aD)) aD)))) (aK (nP 3 (cY (kY (aA 3)) (cW 4) (BQ k)) bP) (aQ (mC .non)))) [b4 a,b4 b,b4 c,b6,b6,b6,b6,b6] d):=by kernel_rfl
theorem Vh k a b:f (k+1) "round_of" [a] b=fin ((aK (aO 1 (aF (f k "steps_from") (aB (aA 0) aD))) (aK (aO 2 (aF (f k "marks_in") (aB (aA 0) aD))) (aK (aO 3 j0) (aK (cY (cI (aC cB (aF (f k "marked_creases") (aB (aA 0) aD)) (aF j7 (aB (aA 2) aD)))) (cW 4) (BR k)) (aQ (mC .non)))))) [b4 a,b6,b6,b6,b6,b6] b):=by kernel_rfl
theorem HC k a b:g (k+3) "round_of" [a] b=j8 ((bJ (aO 1 (aF (f (k+2) "steps_from") (aB (aA 0) aD))) (eP (g (k+2) "steps_from") (aB (aA 0) aD)) (bJ (aO 2 (aF (f (k+2) "marks_in") (aB (aA 0) aD))) aV (bJ (aO 3 j0) aV (bJ (cY (cI (aC cB (aF (f (k+2) "marked_creases") (aB (aA 0) aD)) (aF j7 (aB (aA 2) aD)))) (cW 4) (bL (aP (aC (dA b8) (aA 4) (aA 3))) (aK (aO 5 (aF (f (k+2) "round_within") (aB (aA 1) (aB (aA 2) (aB (aA 4) aD))))) (aK (bL (aP (aC (eY b8) (aA 5) (mC .non))) (aQ (aA 5)) cA) (bI (gG nX (aA 3) (aB (aF (f (k+2) "last_steps") (aB (aA 1) (aB (bV (aB (aA 4) aD)) aD))) aD))))) cA)) aV (bJ (aQ (mC .non)) aV aV))))) [b4 a,b6,b6,b6,b6,b6] b):=by kernel_rfl
theorem Vi k a b:g (k+3) "carried" [a] b=j8 ((bJ (aO 1 (aF (f (k+2) "last_steps") (aB (aF (f (k+2) "steps_from") (aB (aA 0) aD)) (aB (aF (f (k+2) "marked_creases") (aB (aA 0) aD)) aD)))) (eP (g (k+2) "steps_from") (aB (aA 0) aD)) (bJ (aO 2 (aF (f (k+2) "marks_in") (aB (aA 0) aD))) aV (bJ (aQ (vT 2 (dY (kY (aA 2)) dH (dE (aB (aA 3) (aB (aF (f (k+2) "carried_mark") (aB (aA 2) (aB (aA 1) (aB (aA 3) aD)))) aD)))) aX)) aV aV))) [b4 a,b6,b6] b):=by kernel_rfl
theorem Vj k a b c:g (k+3) "way_to" [a,b] c=j8 ((bJ (aO 2 (aF (f (k+2) "last_steps") (aB (aF (f (k+2) "steps_from") (aB (aA 0) aD)) (aB (aF (f (k+2) "marked_creases") (aB (aA 0) aD)) aD)))) (eP (g (k+2) "steps_from") (aB (aA 0) aD)) (bJ (bL (aP (aC (dA b8) (aA 1) (aA 2))) (aQ (mC .non)) cA) (fC (aP (aC (dA b8) (aA 1) (aA 2))) (bJ (aQ (mC .non)) aV aV) aV) (bJ (aQ (aF (f (k+2) "way_by") (aB (aA 2) (aB (aA 1) aD)))) aV aV))) [b4 a,b4 b,b6] c):=by kernel_rfl
theorem Vk k a b c:f (k+1) "_law_nth" [a,b] c=fin ((aQ (mX (aP (aC gD (aA 1) (aF cF (aB (aA 0) aD)))) (aC aG (aA 0) (aA 1)) (mC (.int 0)))) [b4 a,b4 b] c):=by kernel_rfl
theorem Vl k a b c:f (k+1) "_law_round_a" [a,b] c=fin ((aK (aO 2 (bV (aB (dE (aB (mC (.int 2)) (aB (mC (.int 0)) aD))) (aB (dE (aB (mC (.int 1)) (aB (mC (.int 1)) aD))) (aB (dE (aB (mC (.int 0)) (aB (mC (.int 2)) aD))) (aB (dE (aB (lT (mC (.int 1))) (aB (mC (.int 1)) aD))) (aB (dE (aB (lT (mC (.int 2))) (aB (mC (.int 0)) aD))) (aB (dE (aB (lT (mC (.int 1))) (aB (lT (mC (.int 1))) aD))) (aB (dE (aB (mC (.int 0)) (aB (lT (mC (.int 2))) aD))) (aB (dE (aB (mC (.int 1)) (aB (lT (mC (.int 1))) aD))) aD)))))))))) (aK (bL (aP (aC (bE b7) (aC bY (aC aG (aA 1) (mC (.int 0))) (mC (.int 4))) (mC (.int 2)))) (aO 2 (dY (pO (aB (mC (.int 1)) (aB (mC (.int 8)) (aB (mC (.int 2)) aD)))) dH (aC aG (aA 2) (aA 8)))) cA) (aK (aO 4 (eE (jR 2) (cI (aA 2)) dH (dE (aB (aC cB (aC aG (aA 1) (mC (.int 0))) (aA 8)) (aB (aC cB (aC aG (aA 1) (mC (.int 1))) (aA 9)) aD))))) (aK (aO 5 (dY (gR (aB (aF cF (aB (aA 4) aD)) aD)) (aP (aC (dA b7) (aC aG (aA 4) (aA 8)) (aA 0))) (aA 8))) (aK (aO 6 (bV aD)) (aK (cY (gR (aB (aF cF (aB (aA 5) aD)) aD)) (cW 3) BL) (aQ (dE (aB (dY (cI (aA 5)) dH (aC aG (aA 4) (aA 8))) (aB (aA 6) aD)))))))))) [b4 a,b4 b,b6,b6,b6,b6,b6,b6] c):=by kernel_rfl
theorem Vm k a b:f (k+1) "_law_inner" [a] b=fin ((aK (aO 1 (bV aD)) (aK (cY (lX (aB (mC (.int 1)) (aB (aC eV (mC (.int 4)) (aC aG (aA 0) (mC (.int 0)))) aD))) (cW 2) (cY (lX (aB (mC (.int 1)) (aB (aC eV (mC (.int 4)) (aC aG (aA 0) (mC (.int 1)))) aD))) (cW 3) qE)) (aQ (aA 1)))) [b4 a,b6,b6,b6] b):=by kernel_rfl
theorem Vn k a b:f (k+1) "_law_barred" [a] b=fin ((aK (aO 1 (eE (jR 2) (cI (aC aG (aA 0) (mC (.int 2)))) dH (aA 4))) (aK (cY (cI (aF (f k "_law_inner") (aB (aA 0) aD))) (cW 2) (BM k)) (aQ (mC .non)))) [b4 a,b6,b6,b6] b):=by kernel_rfl
theorem Vo a b:k8 S "_law_kinds" [a] b=fin ((aK (aO 1 (bV (aB (cS (sup "ValueError") (aA 0)) (aB (cS (sup "Barred") (aA 0)) (aB (cS (sup "NoOrder") (aA 0)) (aB (cS (sup "NoMark") (aA 0)) aD)))))) (aK (aO 1 (aC cB (aA 1) (bV (aB (cS (sup "NoRound") (aA 0)) (aB (cS (sup "NoEdge") (aA 0)) (aB (cS (sup "NoFold") (aA 0)) (aB (cS (sup "NoName") (aA 0)) aD))))))) (aK (aO 1 (aC cB (aA 1) (bV (aB (cS (sup "NoRow") (aA 0)) (aB (cS (sup "NoSize") (aA 0)) (aB (cS (sup "NoText") (aA 0)) (aB (cS (sup "Taken") (aA 0)) aD))))))) (aK (aO 1 (aC cB (aA 1) (bV (aB (cS (sup "TooMany") (aA 0)) (aB (cS (sup "Twice") (aA 0)) aD))))) (aQ (dY (gR (aB (mC (.int 14)) aD)) (aP (aC eD (aA 1) (aA 2))) (aA 2))))))) [b4 a,b6] b):=by kernel_rfl
theorem Vp k a b c:f (k+1) "_law_asked" [a,b] c=fin ((bL (aP (aC (bE b7) (aA 0) (mC (.int 0)))) (bI (aF (f k "ties") (aB (aA 1) aD))) (bL (aP (aC (bE b7) (aA 0) (mC (.int 1)))) (bI (aF (f k "round_of") (aB (aA 1) aD))) (bL (aP (aC (bE b7) (aA 0) (mC (.int 2)))) (bI (aF (f k "carried") (aB (aA 1) aD))) (bI (aF (f k "way_to") (aB (aA 1) (aB (aC aG (aC aG (aC aG (aA 1) (mC (.int 2))) (mC (.int 0))) (mC (.int 0))) aD))))))) [b4 a,b4 b] c):=by kernel_rfl
theorem HD k a b c:g (k+3) "_law_asked" [a,b] c=j8 ((bJ (bL (aP (aC (bE b7) (aA 0) (mC (.int 0)))) (bI (aF (f (k+2) "ties") (aB (aA 1) aD))) (bL (aP (aC (bE b7) (aA 0) (mC (.int 1)))) (bI (aF (f (k+2) "round_of") (aB (aA 1) aD))) (bL (aP (aC (bE b7) (aA 0) (mC (.int 2)))) (bI (aF (f (k+2) "carried") (aB (aA 1) aD))) (bI (aF (f (k+2) "way_to") (aB (aA 1) (aB (aC aG (aC aG (aC aG (aA 1) (mC (.int 2))) (mC (.int 0))) (mC (.int 0))) aD))))))) (fC (aP (aC (bE b7) (aA 0) (mC (.int 0)))) (bJ (bI (aF (f (k+2) "ties") (aB (aA 1) aD))) (eP (g (k+2) "ties") (aB (aA 1) aD)) aV) (bJ (bL (aP (aC (bE b7) (aA 0) (mC (.int 1)))) (bI (aF (f (k+2) "round_of") (aB (aA 1) aD))) (bL (aP (aC (bE b7) (aA 0) (mC (.int 2)))) (bI (aF (f (k+2) "carried") (aB (aA 1) aD))) (bI (aF (f (k+2) "way_to") (aB (aA 1) (aB (aC aG (aC aG (aC aG (aA 1) (mC (.int 2))) (mC (.int 0))) (mC (.int 0))) aD)))))) (fC (aP (aC (bE b7) (aA 0) (mC (.int 1)))) (bJ (bI (aF (f (k+2) "round_of") (aB (aA 1) aD))) (eP (g (k+2) "round_of") (aB (aA 1) aD)) aV) (bJ (bL (aP (aC (bE b7) (aA 0) (mC (.int 2)))) (bI (aF (f (k+2) "carried") (aB (aA 1) aD))) (bI (aF (f (k+2) "way_to") (aB (aA 1) (aB (aC aG (aC aG (aC aG (aA 1) (mC (.int 2))) (mC (.int 0))) (mC (.int 0))) aD))))) (fC (aP (aC (bE b7) (aA 0) (mC (.int 2)))) (bJ (bI (aF (f (k+2) "carried") (aB (aA 1) aD))) (eP (g (k+2) "carried") (aB (aA 1) aD)) aV) (bJ (bI (aF (f (k+2) "way_to") (aB (aA 1) (aB (aC aG (aC aG (aC aG (aA 1) (mC (.int 2))) (mC (.int 0))) (mC (.int 0))) aD)))) (eP (g (k+2) "way_to") (aB (aA 1) (aB (aC aG (aC aG (aC aG (aA 1) (mC (.int 2))) (mC (.int 0))) (mC (.int 0))) aD))) aV)) aV)) aV)) aV) [b4 a,b4 b] c):=by kernel_rfl
theorem HE k a b c:f (k+1) "_law_refused" [a,b] c=fin ((aK (aO 2 (bV aD)) (aK (jX (bI (aF (f k "_law_asked") (aB (aA 0) (aB (aA 1) aD)))) (bJ (bI (aF (f k "_law_asked") (aB (aA 0) (aB (aA 1) aD)))) (eP (g k "_law_asked") (aB (aA 0) (aB (aA 1) aD))) aV) (sup "CreaseError") 3 (aO 2 (aF (k8 S "_law_kinds") (aB (aA 3) aD)))) (aQ (aA 2)))) [b4 a,b4 b,b6,b6] c):=by kernel_rfl
theorem Vq k a b c:f (k+1) "_law_corner" [a,b] c=fin ((aK (aO 2 (mC .non)) (aK (jX (bI (aF (f k "_law_asked") (aB (aA 0) (aB (aA 1) aD)))) (bJ (bI (aF (f k "_law_asked") (aB (aA 0) (aB (aA 1) aD)))) (eP (g k "_law_asked") (aB (aA 0) (aB (aA 1) aD))) aV) (sup "Barred") 3 (aO 2 (l6 "corner" (att "corner") (aA 3)))) (aQ (aA 2)))) [b4 a,b4 b,b6,b6] c):=by kernel_rfl
theorem Vr k a b:f (k+1) "law" [a] b=fin ((aK (aO 1 (aF (f k "_law_nth") (aB (aA 0) (aB (mC (.int 0)) aD)))) (aK (aO 2 (dE (aB (aC cB (mC (.int 1)) (aC bY (aA 1) (mC (.int 3)))) (aB (aC cB (mC (.int 1)) (aC bY (aC jQ (aA 1) (mC (.int 3))) (mC (.int 3)))) aD)))) (aK (aO 3 (aF (f k "edges_in") (aB (aC aG (aA 2) (mC (.int 0))) (aB (aC aG (aA 2) (mC (.int 1))) aD)))) (aK (aO 4 j0) (aK (cY (gR (aB (aC cB (mC (.int 1)) (aC bY (aC jQ (aA 1) (mC (.int 9))) (mC (.int 4)))) aD)) (cW 5) (BS k)) (Hw k)))))) [b4 a,b6,b6,b6,b6,b6,b6,b6,b6,b6] b):=by kernel_rfl
theorem w_mul2{Q:jz}:W (eV (.int 2) (.int z) a) Q↔Q (.int (2*z),a):=tE (.inl ⟨by decide,by decide⟩)
theorem w_mul4{Q:jz}:W (eV (.int 4) (.int z) a) Q↔Q (.int (4*z),a):=tE (.inl ⟨by decide,by decide⟩)
theorem w_mod2{Q:jz}:W (bY (.int z) (.int 2) a) Q↔Q (.int (z%2),a):=jB (by decide)
theorem HF{Q:jz}:W (bY (.int z) (.int 4) a) Q↔Q (.int (z%4),a):=jB (by decide)
theorem Vs:(2:Nat)<=Yi:=by decide
theorem BV:([a,b]:List D).length<=Yi:=Vs
theorem Vt:(1:Nat)<=Yi:=by decide
theorem HG:([a]:List D).length<=Yi:=Vt
noncomputable def lJ:D->Int
 |.int i=>i|_=>0
theorem HH(h:d∈fX lo n):∃j,j<n/\d=.int (lo+(j:Int)):=by unfold fX at h;obtain⟨j,a,rfl⟩:=Yw.mp h;exact⟨j,Zq.mp a,rfl⟩
theorem bT{o:Option α}{r:α}{Q:α->Prop}(h:o=b4 r)(q:Q r):W o Q:=⟨r,h,q⟩
theorem cL{Q:jz}(e:o=fin a)(h:W a λp=>match p.1 with|.rt d=>Q (d,p.2.2)|.nx=>Q (.non,p.2.2)|_=>False):W o Q:=e▸W_fin.mpr h
theorem bO{C:MS}(h:W (m ρ μ) λp=>W (C (ρ.set i (b4 p.1)) p.2) R):W (aK (aO i m) C ρ μ) R:=w_mSeq.mpr (w_mSet.mpr h)
theorem jE{C:MS}(h:W (A ρ μ) λp=>p.1=.nx/\W (C p.2.1 p.2.2) R):W (aK A C ρ μ) R:=w_mSeq.mpr (bA h λp q=>by rw[q.1];exact q.2)
theorem wY{C:MS}(h:W (m ρ μ) λp=>W (C ρ p.2) R):W (aK (bI m) C ρ μ) R:=w_mSeq.mpr (w_mDrop.mpr h)
theorem cP(h:W (m ρ μ) λp=>R (.rt p.1,ρ,p.2)):W (aQ m ρ μ) R:=w_mRet.mpr h
theorem aS{g:MF}{ds:List D}{Q:jz}(h:ms ρ μ=b4 (ds,μ'))(k:W (g ds μ') Q):W (aF g ms ρ μ) Q:=w_mCall.mpr ⟨_,h,k⟩
theorem j9{g:MF}{Q:jz}(h:W (ms ρ μ) λp=>W (g p.1 p.2) Q):W (aF g ms ρ μ) Q:=w_mCall.mpr h
theorem bC(h:W (m ρ μ) λp=>W (ms ρ p.2) λq=>Q (p.1::q.1,q.2)):W (aB m ms ρ μ) Q:=w_mCons.mpr h
theorem Vu{g:MF}{Q:jz}(h:W (m ρ μ) λp=>W (g [p.1] p.2) Q):W (aF g (aB m aD) ρ μ) Q:=w_mCall.mpr (w_mCons.mpr (bA h λ_ q=>⟨_,rfl,q⟩))
theorem tJ{C:MS}(h:t ρ μ=b4 (b,μ'))(h1:b=b8->W (aK A C ρ μ') R)(a:b=b7->W (aK B C ρ μ') R):W (aK (bL t A B) C ρ μ) R:=by
 refine w_mSeq.mpr (w_mIfS.mpr ⟨_,h,?_⟩);cases b
 .exact w_mSeq.mp (a rfl)
 .exact w_mSeq.mp (h1 rfl)
theorem Vv{C:MS}(h:W (t ρ μ) λp=>p.1=b8/\W (aK A C ρ p.2) R):W (aK (bL t A B) C ρ μ) R:=w_mSeq.mpr (w_mIfS.mpr (bA h λp q=>by rw[if_pos q.1];exact w_mSeq.mp q.2))
theorem wZ{C:MS}(h:W (t ρ μ) λp=>p.1=b7/\W (aK B C ρ p.2) R):W (aK (bL t A B) C ρ μ) R:=w_mSeq.mpr (w_mIfS.mpr (bA h λp q=>by rw[if_neg (by rw[q.1];exact Yj)];exact w_mSeq.mp q.2))
theorem qF(h:W (t ρ μ) λp=>T (!p.1,p.2)):W (iH t ρ μ) T:=w_mNotT.mpr h
theorem iA(h:W (m ρ μ) λp=>p.1=.bl b/\T (b,p.2)):W (eF m ρ μ) T:=w_mTru.mpr (bA h λp ⟨e,q⟩=>by rw[e];exact w_truB.mpr q)
theorem w4{C:MS}(h:W (m ρ μ) λp=>R (.rt p.1,ρ,p.2)):W (aK (aQ m) C ρ μ) R:=w_mSeq.mpr (w_mRet.mpr h)
theorem mK{C:MS}(h:W (C ρ μ) R):W (aK cA C ρ μ) R:=w_mSeq.mpr (w_mNext.mpr h)
theorem eI(h:W (m ρ μ) λp=>∃b,p.1=.bl b/\T (b,p.2)):W (aP m ρ μ) T:=w_mTest.mpr (bA h λp ⟨b,e,q⟩=>by rw[e];exact q)
theorem Vx(h:W (s ρ μ) λp=>p.1=b7/\W (t ρ p.2) T):W (kK s t ρ μ) T:=w_mOrT.mpr (bA h λp q=>by rw[if_neg (by rw[q.1];exact Yj)];exact q.2)
theorem bU{Q:jz}(h1:a ρ μ=b4 (x,c))(e:b ρ c=b4 (y,d))(k:W (h x y d) Q):W (aC h a b ρ μ) Q:=w_mOp.mpr ⟨_,h1,_,e,k⟩
theorem bF{Q:jz}(k:W (a ρ μ) λp=>W (b ρ p.2) λq=>W (h p.1 q.1 q.2) Q):W (aC h a b ρ μ) Q:=w_mOp.mpr k
noncomputable def e8:D->Int×Int
 |.tup [.int x,.int y]=>(x,y)|_=>(0,0)
theorem BW p(l:jq):((l.map PP).filter λd=>p (e8 d)).map (λd=>d)=(l.filter p).map PP:=by
 rw[a5Y];induction l with
 |nil=>rfl|cons a l b=>
  have e:(a8t PP (a::l)).filter (λd=>p (e8 d))=if p a then PP a::(l.map PP).filter (λd=>p (e8 d))else(l.map PP).filter λd=>p (e8 d):=by rw[Yk,a1B];rfl
  rw[e,b,a1B];split<;>rfl
theorem qG{l:jq}(h:d∈l.map PP):∃x y,d=P x y:=by obtain⟨p,_,rfl⟩:=Yw.mp h;exact⟨p.1,p.2,rfl⟩
theorem HI{n:Nat}{i:Int}(a:0<=i)(h:i<n):jI n i=b4 i.toNat:=by unfold jI;rw[if_pos a,if_pos h]
theorem Vy{a:List Int}{i:Int}(b:0<=i)(h:i<a.length):atI (a.map D.int) i=b4 (.int (a.getD i.toNat 0)):=by
 unfold atI;rw[X3,HI b h,Yy,Yo];have c:i.toNat<a.length:=by lia
 simp[Zm,c]
theorem Vz{Q:jz}(h:atI xs i=b4 d):W (aG (.rol xs) (.int i) a) Q↔Q (d,a):=by
 have:aG (.rol xs) (.int i) a=b4 (d,a):=by simp only[aG,eD,a8,Yy,h,YG]
 rw[this];exact W_some
noncomputable def oB:List Int->Int
 |[]=>0|g::r=>g-oB r
noncomputable def fA(a:List Int):Bool:=decide (a.length<=8)&&decide (a.length%2=0)&&a.all (λg=>decide (1<=g))&&oB a==0
theorem VA k i a(Q:jz):W (f (k+1) "is_whole" [.int i] a) Q↔Q (.bl b8,a):=by rw[Hx,W_fin];simp only[w_mRet,w_mAndV,Uj,w_mCall,w_mCons,eH,cM,fE,Us,Ut];simp
theorem VB:∀i,i.length<=8->i.length%2=0->∃es j:List Int,eQ (i.map D.int) b6 b6 (b4 2)=es.map D.int/\eQ (i.map D.int) (b4 1) b6 (b4 2)=j.map D.int/\es.sum-j.sum=oB i/\es.length<=8/\j.length<=8
 |[],_,_=>⟨[],[],rfl,rfl,rfl,by decide,by decide⟩|[_],_,h=>by simp at h
 |[a,b],_,_=>⟨[a],[b],by kernel_rfl,by kernel_rfl,by simp[oB]<;>lia,by simp,by simp⟩|[_,_,_],_,h=>by simp at h
 |[a,b,c,d],_,_=>⟨[a,c],[b,d],by kernel_rfl,by kernel_rfl,by simp[oB]<;>lia,by simp,by simp⟩|[_,_,_,_,_],_,h=>by simp at h
 |[a,b,c,d,e,g],_,_=>⟨[a,c,e],[b,d,g],by kernel_rfl,by kernel_rfl,by simp[oB]<;>lia,by simp,by simp⟩|[_,_,_,_,_,_,_],_,h=>by simp at h
 |[a,b,c,d,e,g,x,y],_,_=>⟨[a,c,e,x],[b,d,g,y],by kernel_rfl,by kernel_rfl,by simp[oB]<;>lia,by simp,by simp⟩|_::_::_::_::_::_::_::_::_::_,h,_=>absurd h (by simp)
theorem HJ{a:List Int}(h:d∈a.map D.int):∃g∈a,d=.int g:=by obtain⟨g,b,rfl⟩:=Yw.mp h;exact⟨g,b,rfl⟩
theorem w5{a:Type}(l:List a):l.filter (λ_=>b8)=l:=by simp
theorem VC k a b(hz:b.length<=1000)(o:Hm)(Q:jz)(h:o[a]?=b4 (.lst (b.map D.int)))(H:∀μ',o<+:μ'->Q (.bl (fA b),μ')):W (f (k+2) "is_good" [.loc a] o) Q:=by
 rw[UX,W_fin];simp only[w_mSeq,w_mIfS,w_mOrT,w_mTest,w_mOp,w_mCall,w_mCons,eH,cM,fE];refine(fY h).mpr ?_;simp only[Um,X3];by_cases r:(8:Int)<b.length
 .have e:fA b=false:=by unfold fA;rw[decide_eq_false (show ¬ b.length<=8 by lia)];rfl
  simp only[r,decide_true,if_true,w_mRet,fE];rw[<- e];exact H _ (Yp _)
 .simp only[r,decide_false,YH,if_false];refine(fY h).mpr ?_;simp only[w_mod2,w_eqI,X3];by_cases v:(b.length:Int)%2=1
  .have e:fA b=false:=by unfold fA;rw[decide_eq_false (show ¬ b.length%2=0 by lia)];simp
   simp only[v,beq_self_eq_true,if_true,w_mRet,fE];rw[<- e];exact H _ (Yp _)
  .have w:((b.length:Int)%2==1)=false:=by simpa using v
   simp only[w,YH,if_false,w_mNext,w_mNotT,w_mTru,w_mCall,w_mCons,eH];refine hZ (xs:=b.map D.int) (p:=λ_=>b8) (v:=λd=>.bl (decide (1<=lJ d))) ?_;simp only[w_iSeq,cM];refine(eC h).mpr ?_;refine⟨jC h,rfl,by rw[X3,Yz];lia,λd μ' hd y=>w_mTrue.mpr ⟨rfl,Yp _⟩,λd μ' hd _ y=>?_,λq c p=>?_⟩
   .obtain⟨g,_,rfl⟩:=HJ hd;simp only[Z1,a0v,w_mAndV,w_mCall,w_mCons,eH,cM,dN,VA,if_true,w_mOp,fE,Uo];exact⟨rfl,Yp _⟩
   .have l:q[o.length]?=b4 (.lst ((b.map λg=>decide (1<=g)).map D.bl)):=by rw[p,w5,Yu,Yu];rfl
    refine(Uu l).mpr ?_;have j:(b.map λg=>decide (1<=g)).all id=b.all λg=>decide (1<=g):=by rw[a6a];rfl
    rw[j];simp only[w_truB];cases s:b.all λg=>decide (1<=g)with
    |false=>
     have e:fA b=false:=by unfold fA;rw[s];simp
     simp only[a3T,if_true,w_mRet,fE];rw[<- e];exact H _ c
    |true=>
     simp only[a2r,YH,if_false,w_mNext,w_mRet,w_mOp,w_mCall,w_mCons,eH];obtain⟨x,z,u,n,A,B,E⟩:=VB b (by lia) (by lia);have i:=aI c h;refine Hl ?_;simp only[cM];refine⟨a,rfl,?_⟩;simp only[wQ,wR,fE];refine⟨by decide,_,i,?_,?_⟩
     .rw[u,X3,Yz];lia
     rw[u];refine(BG (bB _ _)).mpr ?_;refine Hl ?_;simp only[cM];refine⟨a,rfl,?_⟩;simp only[wQ,wR,fE];refine⟨by decide,_,aI (aR _ _) i,?_,?_⟩
     .rw[n,X3,Yz];lia
     rw[n];refine(BG (bB _ _)).mpr ?_;refine(w_eqI).mpr ?_;have e:fA b=(x.sum==z.sum):=by unfold fA;rw[s,decide_eq_true (show b.length<=8 by lia),decide_eq_true (show b.length%2=0 by lia)];simp only[a8K];rw[a5a,beq_iff_eq,beq_iff_eq];lia
     rw[<- e];exact H _ (c.trans ((aR _ _).trans (aR _ _)))
noncomputable def mL(h:Int)(x:Int):jq:=(YR (4*h-1).toNat).map λ(j:Nat)=>(x,1+(j:Int))
noncomputable def lE(h:Int)(n:Nat):jq:=(YR n).flatMap λ(i:Nat)=>mL h (1+(i:Int))
noncomputable def fF(w h:Int):jq:=lE h (4*w-1).toNat
theorem HK h n:lE h (n+1)=lE h n++mL h (1+(n:Int)):=by unfold lE;rw[a3F,a2I];simp
theorem HL h x:(mL h x).length=(4*h-1).toNat:=by unfold mL;simp
theorem BX h:∀n,(lE h n).length=n*(4*h-1).toNat
 |0=>by simp[lE]
 |n+1=>by rw[HK,Yr,BX h n,HL,a6x]
theorem HM{h:Int}(b:h<=6)(a:n<=23):n*(4*h-1).toNat<=529:=by have:n*(4*h-1).toNat<=23*23:=a8I a (by lia);lia
theorem VD h x:((fX 1 (4*h-1).toNat).filter λ_=>b8).map (λd=>P x (lJ d))=(mL h x).map PP:=by unfold fX mL;rw[show ∀l:List D,l.filter (λ_=>b8)=l from λl=>by simp,Yu,Yu];rfl
theorem HN k w h(hw:1<=w/\w<=6)(u:1<=h/\h<=6)(c:Hm)(Q:jz)(H:∀a μ',c<+:μ'->μ'[a]?=b4 (.lst ((fF w h).map PP))->c.length<=a->Q (.loc a,μ')):W (f (k+1) "places_within" [.int w,.int h] c) Q:=by
 rw[UR,W_fin];simp only[w_mSeq,w_mSet,w_mLst,eH];refine⟨a0l _,?_⟩;simp only[a0n,a0D,w_mForI,w_iRng2,w_mCons,eH,fE,w_mOp,cM,dN,w_mul4];refine⟨by lia,?_⟩;refine n8 (lo:=1) (λi r μ'=>c<+:μ'/\μ'[c.length]?=b4 (.lst ((lE h i).map PP))/\∃o,r=[b4 (.int w),b4 (.int h),b4 (.loc c.length),o]) ⟨aR _ _,bB _ _,b6,rfl⟩ ?_ ?_
 .rintro i r q x ⟨p,e,o,rfl⟩;refine⟨_,rfl,?_⟩;simp only[a0n,a0D,w_mDrop];refine jD ?_;simp only[cM,dN];refine⟨iR e,?_⟩;simp only[w_mCons,eH];refine hZ (xs:=fX 1 (4*h-1).toNat) (p:=λ_=>b8) (v:=λd=>P (1+(i:Int)) (lJ d)) ?_;simp only[w_iRng2,w_mCons,eH,fE,w_mOp,cM,dN,w_mul4];refine⟨by lia,BB,by simp[fX],by rw[Yz];simp[fX];lia,?_,?_,?_⟩
  .intro d μ' hd p;exact w_mTrue.mpr ⟨rfl,Yp _⟩
  .intro d μ' hd _ p;obtain⟨j,y,rfl⟩:=HH hd;simp only[Z1,a0v,w_mTup,w_mCons,eH,cM,dN,BV,true_and];exact⟨rfl,Yp _⟩
  .intro v b l;rw[VD]at l;have n:((lE h i).map PP).length+((mL h (1+(i:Int))).map PP).length<=Yi:=by have s:=HM (h:=h) u.2 (n:=i+1) (by lia);rw[a6x]at s;rw[X3,X3,BX,HL,Yz];lia
   refine(BE (aI b e) l n).mpr ?_;refine⟨dS (p.trans b) (Yd _) _,?_,_,rfl⟩;rw[YY (X8.mp (aI b e)).1,HK,YC]
 .rintro r q ⟨p,e,o,rfl⟩;simp only[w_mRet,cM,dN];exact H _ _ p e (Yd _)
theorem BY(hw:w<=6)(a:h<=6):(fF w h).length<=529:=by unfold fF;rw[BX];exact HM a (by lia)
noncomputable def mv(x y:Int)(l:jq):jq:=l.map λs=>(x+s.1,y+s.2)
theorem HP k x y l(i:l.length<=63)(c:Hm)(Q:jz)(h:∀a μ',c<+:μ'->μ'[a]?=b4 (.lst ((mv x y l).map PP))->c.length<=a->Q (.loc a,μ')):W (f (k+1) "moved_by" [P x y,.tup (l.map PP)] c) Q:=by
 rw[UM,W_fin];simp only[w_mRet];refine hZ (xs:=l.map PP) (p:=λ_=>b8) (v:=λd=>PP (x+(e8 d).1,y+(e8 d).2)) ?_;simp only[w_iSeq,cM,dN];refine w_seqT.mpr ?_;refine⟨Uq,rfl,by rw[X3,Yz];lia,λd μ' hd b=>W_some.mpr ⟨rfl,Yp _⟩,λd μ' hd _ b=>?_,λμ' b e=>?_⟩
 .obtain⟨u,v,rfl⟩:=qG hd;simp only[Z1,a0v,w_mTup,w_mOp,fE,w_mCons,eH,cM,dN,By,w_it21,w_addI,BV,true_and];exact⟨rfl,Yp _⟩
 .refine h _ _ b ?_ (Yd _);rw[e,a1H.mpr (λ_ _=>rfl),Yu];unfold mv;rw[Yu];rfl
noncomputable def E8:jq:=[(2,0),(1,1),(0,2),(-1,1),(-2,0),(-1,-1),(0,-2),(1,-1)]
noncomputable def F4:jq:=[(1,1),(-1,1),(-1,-1),(1,-1)]
noncomputable def bK(x:Int):jq:=if x%4=0 then E8 else F4
theorem HQ k x y(b:Hm)(Q:jz)(h:∀a μ',b<+:μ'->μ'[a]?=b4 (.lst ((mv x y (bK x)).map PP))->b.length<=a->Q (.loc a,μ')):W (f (k+2) "edges_round" [P x y] b) Q:=by
 rw[UN,W_fin];simp only[w_mRet,w_mCall,w_mCons,eH,cM,w_mIfE,w_mTest,w_mOp,fE,By,HF,w_eqI];unfold bK at h;by_cases e:x%4=0
 .rw[if_pos e]at h;rw[e];exact HP k x y E8 (by decide) b _ h
 .rw[if_neg e]at h;rw[if_neg (by simpa using e)];exact HP k x y F4 (by decide) b _ h
theorem HR a q:∀ps:jq,kR a (PP q) (ps.map PP)=b4 (ps.any λp=>p==q)
 |[]=>rfl|p::ps=>by rw[Yk];show(dC 8 a (PP p) (PP q)).bind (λb=>(kR a (PP q) (ps.map PP)).map λc=>b||c)=_;rw[BC 6,HR a q ps];rfl
noncomputable def kE(lo:Int)(n m:Nat):jq:=(YR n).flatMap λ(i:Nat)=>(YR m).map λ(j:Nat)=>(lo+(i:Int),lo+(j:Int))
noncomputable def jF(lo x:Int)(m:Nat):jq:=(YR m).map λ(j:Nat)=>(x,lo+(j:Int))
theorem HS lo n m:kE lo (n+1) m=kE lo n m++jF lo (lo+(n:Int)) m:=by unfold kE jF;rw[a3F,a2I];simp
theorem VE lo x m:jF lo x (m+1)=jF lo x m++[(x,lo+(m:Int))]:=by unfold jF;rw[a3F,YC];rfl
theorem HU lo x m:(jF lo x m).length=m:=by unfold jF;simp
theorem HV lo m:∀n,(kE lo n m).length=n*m
 |0=>by simp[kE]
 |n+1=>by rw[HS,Yr,HV lo m n,HU,a6x]
theorem fP{b:Hm}(h:b[a]?=b4 c):(b.set a c')[a]?=b4 c':=by rw[YY (X8.mp h).1]
theorem VF(a:Hm)(c c':C):(a++[c]).set a.length c'=a++[c']:=by rw[a3H _ _ (Yd _)];simp
theorem HW{b:Hm}(h:b[a]?=b4 c):b.set a c=b:=by obtain⟨d,rfl⟩:=X8.mp h;exact List.set_getElem_self d
noncomputable def aY(p:Int×Int):List Int:=[p.1,p.2]
theorem HX{a:Type}l(d:a):(YR l.length).map (λi=>l.getD i d)=l:=by refine List.ext_getElem (by simp) λi c b=>?_;simp[Zm,b]
theorem qH{es:jq}{i:Nat}(h:(es.map PP)[i]?=b4 d):∃p,es[i]?=b4 p/\d=PP p:=by rw[Yo]at h;obtain⟨p,a,b⟩:=X5.mp h;exact⟨p,a,b.symm⟩
theorem tK kvs k:(aT kvs k).isSome=kvs.any λp=>decide (p.1=k):=by unfold aT;rw[a2V,a5a,List.find?_isSome,a7P]
theorem VG kvs k k' d:(aT (bS kvs k d) k').isSome=(decide (k=k')||(aT kvs k').isSome):=by
 unfold bS;split
 .rename_i h;have e:(kvs.map λp=>if p.1=k then(p.1,d)else p).any (λp=>decide (p.1=k'))=kvs.any λp=>decide (p.1=k'):=by rw[a5Z];congr 1;funext p;simp only[Function.comp];split<;>rfl
  rw[tK,e,tK kvs k'];by_cases z:k=k'
  .subst z;rw[tK]at h;rw[h];simp
  .simp[z]
 .rw[tK,List.any_append,tK];simp only[a5P,List.any_nil,a4f];exact Bool.or_comm _ _
theorem fG q:cN (PP q)=b4 (aY q):=rfl
noncomputable def cJ(bs:List Bool):List Int:=((YR bs.length).filter λi=>bs.getD i b7).map λ(i:Nat)=>(i:Int)
noncomputable def eU(bs:List Bool):List Int:=((cJ bs).zip ((cJ bs).drop 1++((cJ bs).take 1).map λs=>s+(bs.length:Int))).map λp=>(p.2-p.1)*(8/(bs.length:Int))
noncomputable def MD(m:(Int×Int)×Str):D:=.tup [PP m.1,.str m.2]
noncomputable def cT(p:Int×Int):Bool:=p.1%2==0&&p.1%4==p.2%4
theorem VH k x y a(Q:jz):W (f (k+1) "is_corner" [P x y] a) Q↔Q (.bl (cT (x,y)),a):=by rw[UK,W_fin];simp only[w_mRet,w_mAndV,w_mOp,fE,cM,By,w_it21,w_eqI,w_mod2,HF];unfold cT;cases x%2==0<;>simp
noncomputable def aL(ms:List ((Int×Int)×Str))(p:Int×Int):Bool:=(ms.map (·.1)).any λq=>q==p
theorem HY:∀ms:List ((Int×Int)×Str),pQ (ms.map MD)=b4 (ms.map λm=>(aY m.1,D.str m.2))
 |[]=>rfl|m::ms=>by rw[Yk,Yk];show(cN (PP m.1)).bind (λk=>(pQ (ms.map MD)).map λl=>(k,D.str m.2)::l)=_;rw[HY ms];rfl
theorem HZ k:∀(l kvs:jx),(aT (l.foldl (λq p=>bS q p.1 p.2) kvs) k).isSome=((aT kvs k).isSome||l.any λp=>decide (p.1=k))
 |[],kvs=>by simp
 |p::l,kvs=>by rw[a8j,HZ k l,VG,a5P];cases decide (p.1=k)<;>cases(aT kvs k).isSome<;>simp
theorem VI p q:decide (aY p=aY q)=(p==q):=by rw[a5a];simp only[decide_eq_true_eq,beq_iff_eq,aY,a3k,and_true,a9e]
theorem VJ ms p:(aT ((ms.map λm=>(aY m.1,D.str m.2)).foldl (λq p=>bS q p.1 p.2) []) (aY p)).isSome=aL ms p:=by rw[HZ];unfold aL;rw[a5Z,a5Z];show(b7||_)=_;rw[a8L];congr 1;funext m;exact VI m.1 p
theorem w_it32{Q:jz}:W (aG (.tup [a,b,c]) (.int 2) d) Q↔Q (c,d):=W_some
theorem w_it30{Q:jz}:W (aG (.tup [a,b,c]) (.int 0) d) Q↔Q (a,d):=W_some
theorem w_it31{Q:jz}:W (aG (.tup [a,b,c]) (.int 1) d) Q↔Q (b,d):=W_some
noncomputable abbrev SH(w h:Int)(ms:List ((Int×Int)×Str)):D:=.tup [.int w,.int h,.tup (ms.map MD)]
theorem w_dict{ms:List ((Int×Int)×Str)}{Q:jz}:W (nO [.tup (ms.map MD)] a) Q↔Q (.loc a.length,a++[.dT ((ms.map λm=>(aY m.1,D.str m.2)).foldl (λq p=>bS q p.1 p.2) [])]):=by
 have:nO [.tup (ms.map MD)] a=b4 (.loc a.length,a++[.dT ((ms.map λm=>(aY m.1,D.str m.2)).foldl (λq p=>bS q p.1 p.2) [])]):=by simp only[nO,HY,YG]
 rw[this];exact W_some
theorem Ia k w h ms x y(i:Hm)(Q:jz)(H:∀a μ',i<+:μ'->μ'[a]?=b4 (.lst (((mv x y (bK x)).filter (aL ms)).map PP))->Q (.loc a,μ')):W (f (k+3) "creases_at" [SH w h ms,P x y] i) Q:=by
 rw[UY,W_fin];simp only[w_mSeq,w_mSet,w_mCall,w_mCons,eH,cM,dN];rw[Hy,W_fin];simp only[w_mRet,w_mCall,w_mCons,eH,w_mOp,cM,fE,w_it32,w_dict,a0n,a0D];refine hZ (xs:=(mv x y (bK x)).map PP) (p:=λd=>aL ms (e8 d)) (v:=λd=>d) ?_;simp only[w_iSeq,w_mCall,w_mCons,eH,cM,dN];refine HQ k x y _ _ λa l e c n=>?_;refine(eC c).mpr ⟨jC c,rfl,?_,λd μ' hd b=>?_,λd μ' hd _ b=>?_,λμ' b j=>?_⟩
 .rw[X3,Yz];unfold mv bK;rw[X3];split<;>decide
 .obtain⟨u,v,rfl⟩:=qG hd;simp only[Z1,a0v,w_mTest,w_mOp,cM,dN];refine(wW (aI (e.trans b) (bB _ _)) (fG (u,v))).mpr ?_;simp only[YH,if_false];exact⟨VJ ms (u,v),Yp _⟩
 .simp only[Z1,a0v,cM,dN];exact⟨trivial,Yp _⟩
 .refine H _ _ ((aR _ _).trans (e.trans b)) ?_;rw[j,BW (aL ms)]
theorem Ib a q:∀ps:jq,l9 a (PP q) (ps.map PP)=b4 (ps.map λp=>p==q)
 |[]=>rfl|p::ps=>by rw[Yk,Yk];simp only[l9,Ib a q ps];rw[BC 6];rfl
theorem VL{ps:jq}{Q:jz}(h:b[a]?=b4 (.lst (ps.map PP)))(d:q∈ps)(hz:ps.length<=Yi):W (pN (.loc a) [PP q] b) Q↔Q (.int (ps.idxOf q:Nat),b):=by
 have e:(ps.map λp=>p==q).findIdx id=ps.idxOf q:=by rw[List.findIdx_map];rfl
 have c:ps.idxOf q<ps.length:=a5m d;simp only[pN,h,Ib,Yy];rw[e,X3,if_pos ⟨c,hz⟩];exact W_some
theorem VM{es:jq}(d:es.Nodup)(a:i<es.length):es.idxOf (es.getD i (0,0))=i:=by
 have e:es.getD i (0,0)=es[i]:=by simp[Zm,a]
 rw[e];have b:es.idxOf es[i]<es.length:=a5m (a0U a);have c:es[es.idxOf es[i]]=es[i]:=List.getElem_idxOf b;rcases a4z (es.idxOf es[i]) i with h|h|h
 .exact absurd c ((a1F.mp d) _ i b a h)
 .exact h
 .exact absurd c.symm ((a1F.mp d) i _ a b h)
theorem BZ{es:jq}(d:es.Nodup)m:(es.filter m).map (λq=>((es.idxOf q:Nat):Int))=cJ (es.map m):=by
 have b:es.filter m=((YR es.length).filter λi=>m (es.getD i (0,0))).map λi=>es.getD i (0,0):=by
  conv=>lhs;rw[<- HX es (0,0)]
  rw[a2z];rfl
 unfold cJ;rw[b,Yu,X3];have c:(YR es.length).filter (λi=>m (es.getD i (0,0)))=(YR es.length).filter λi=>(es.map m).getD i false:=by refine List.filter_congr λi a=>?_;have a:=Zq.mp a;simp[Zm,a]
 rw[<- c];refine ZQ λi a=>?_;have a:=Zq.mp (Zu.mp a).1;show((es.idxOf (es.getD i (0,0)):Nat):Int)=_;rw[VM d a]
theorem B0 x y(h:l.Nodup):(mv x y l).Nodup:=by unfold mv;show List.Pairwise _ _;rw[a7D];refine a9t (λ{a b} c e=>c ?_) h;simp only[a9e]at e ⊢;lia
theorem B1 x:(bK x).Nodup:=by unfold bK;split<;>decide
theorem w6 x:(bK x).length=8\/(bK x).length=4:=by
 unfold bK;split
 .exact .inl rfl
 .exact .inr rfl
theorem VN(b:List Int):jM (b.map D.int) (b4 1) b6=(b.drop 1).map D.int:=by
 cases b with
 |nil=>rfl|cons a l=>unfold jM;rw[show(1:Int)=((1:Nat):Int)from rfl,HT.sIx_nat,HT.sIx_none,X3,a5k (by simp),<- List.map_drop,a1d (by rw[X3,a1A];lia)]
theorem VO(b:List Int):jM (b.map D.int) b6 (b4 1)=(b.take 1).map D.int:=by
 cases b with
 |nil=>rfl|cons a l=>unfold jM;rw[show(1:Int)=((1:Nat):Int)from rfl,HT.sIx_nat,HT.sIx_none,X3,a5k (by simp),a5t,a6y,a8J]
noncomputable def oC(a b:List Int):List D:=(a.zip b).map PP
theorem VP{e:Hm}(j:e[a]?=b4 (.lst (c.map D.int)))(k:e[b]?=b4 (.lst (d.map D.int))):∀μ' i,e<+:μ'->r8 (.loc a) (.loc b) μ' i=b4 (oC c d)[i]?:=λμ' i h=>by simp only[r8,a8,aI h j,aI h k,Yy,YG];unfold oC List.zip;rw[Yo,Yo,Yo,a3J];cases c[i]?<;>cases d[i]?<;>rfl
theorem Ic k w h ms x y(N:Hm)(Q:jz)(H:∀a μ',N<+:μ'->μ'[a]?=b4 (.lst ((eU ((mv x y (bK x)).map (aL ms))).map D.int))->Q (.loc a,μ')):W (f (k+4) "gaps_at" [SH w h ms,P x y] N) Q:=by
 have B:=w6 x;have l:(mv x y (bK x)).length=(bK x).length:=by unfold mv;rw[X3]
 have hnd:=B0 x y (B1 x);rw[UZ,W_fin];simp only[w_mSeq,w_mSet,w_mCall,w_mCons,eH,cM,dN];refine HQ (k+1) x y _ _ λa1 μ1 Z O l1=>?_;simp only[a0n,a0D,cM,dN];refine Ia k w h ms x y _ _ λa2 I K r=>?_;simp only[a0n,a0D];have c:=aI K O;generalize hes:mv x y (bK x)=es at c r l hnd H;have E:(es.filter (aL ms)).length<=8:=Y6 (ZR _ _) (by lia);refine hZ (xs:=(es.filter (aL ms)).map PP) (p:=λ_=>b8) (v:=λd=>.int ((es.idxOf (e8 d):Nat):Int)) ?_;simp only[w_iSeq,cM,dN];refine(eC r).mpr ⟨jC r,rfl,by rw[X3,Yz];lia,λd μ' hd e=>w_mTrue.mpr ⟨rfl,Yp _⟩,λd μ' hd _ e=>?_,λb L R=>?_⟩
 .obtain⟨q,X,rfl⟩:=Yw.mp hd;refine jD ?_;simp only[Z1,a0v,cM,dN];refine⟨iR (aI e c),?_⟩;simp only[w_mCons,eH,cM,dN];exact(VL (aI e c) (Zu.mp X).1 (by rw[Yz];lia)).mpr ⟨rfl,Yp _⟩
 .have j:b[I.length]?=b4 (.lst ((cJ (es.map (aL ms))).map D.int)):=by rw[R,w5,Yu,<- BZ hnd,Yu];rfl
  have G:(cJ (es.map (aL ms))).length<=8:=by rw[<- BZ hnd,X3];exact E
  generalize hix:cJ (es.map (aL ms))=is at j G;simp only[w_mOp];refine Hk ?_;simp only[cM,dN,wR,fE,wQ];refine⟨_,rfl,_,j,?_⟩;rw[VN];have J:=aI (aR b (C.lst ((is.drop 1).map D.int))) j;have o:=aI (L.trans (aR b (C.lst ((is.drop 1).map D.int)))) c;refine hZ (xs:=(is.take 1).map D.int) (p:=λ_=>b8) (v:=λd=>.int (lJ d+(es.length:Int))) ?_;simp only[w_iSeq];refine Hk ?_;simp only[cM,dN,wR,fE,wQ];refine⟨_,rfl,_,J,?_⟩;rw[VO];refine(eC (bB _ _)).mpr ⟨jC (bB _ _),rfl,by rw[X3,Zs,Yz];lia,λd μ' hd e=>w_mTrue.mpr ⟨rfl,Yp _⟩,λd μ' hd _ e=>?_,λn p5 T=>?_⟩
  .obtain⟨i,_,rfl⟩:=HJ hd;simp only[Z1,a0v,w_mOp,cM,dN,w_mCall,w_mCons,eH];refine(fY (aI ((aR _ _).trans e) o)).mpr ?_;simp only[w_addI,X3];exact⟨rfl,Yp _⟩
  .have M:=(aR (b++[C.lst ((is.drop 1).map D.int)]) (C.lst ((is.take 1).map D.int))).trans p5;have u:n[(b++[C.lst ((is.drop 1).map D.int)]++[C.lst ((is.take 1).map D.int)]).length]?=b4 (.lst (((is.take 1).map λs=>s+(es.length:Int)).map D.int)):=by rw[T,w5,Yu,Yu];rfl
   have v:=aI M (bB b (C.lst ((is.drop 1).map D.int)));refine(tH v u (by rw[X3,X3,X3,a1A,Zs,Yz];lia)).mpr ?_;rw[<- YC];simp only[a0n,a0D,w_mOp,fE,w_mCall,w_mCons,eH,cM,dN];have p:=M.trans (aR n (C.lst ((is.drop 1++(is.take 1).map λs=>s+(es.length:Int)).map D.int)));refine(fY (aI p o)).mpr ?_;rw[X3];refine(Bx (by lia) (by lia)).mpr ?_;simp only[a0n,a0D,w_mRet];have z:=aI p J;have A:=bB n (C.lst ((is.drop 1++(is.take 1).map λs=>s+(es.length:Int)).map D.int));generalize hjs:is.drop 1++(is.take 1).map (λs=>s+(es.length:Int))=js at z A p;have Y:(oC is js).length<=8:=by unfold oC;rw[X3,a4X];lia
   have h8:8/(es.length:Int)=1\/8/(es.length:Int)=2:=by
    rcases B with h|h
    .left;rw[l,h];rfl
    .right;rw[l,h];rfl
   refine tI (xs:=oC is js) (x:=λd=>[b4 (.int (e8 d).1),b4 (.int (e8 d).2)]) (p:=λ_=>b8) (v:=λd=>.int (((e8 d).2-(e8 d).1)*(8/(es.length:Int)))) ?_;refine Uy ?_;simp only[w_mCons,eH,cM,dN];refine⟨_,_,_,_,rfl,z,A,VP z A,?_,by rw[Yz];lia,λd μ' hd=>?_,λd μ' hd e=>w_mTrue.mpr ⟨rfl,Yp _⟩,λd μ' hd _ e=>?_,λμ8 p8 U=>?_⟩
   .unfold oC;simp only[X3,a4X]
   .obtain⟨q,_,rfl⟩:=Yw.mp hd;rfl
   .obtain⟨q,_,rfl⟩:=Yw.mp hd;simp only[Z1,a0v,w_mOp,cM,dN,w_subI];exact(tE (.inr (by lia))).mpr ⟨rfl,Yp _⟩
   .refine H _ _ (Z.trans (K.trans (L.trans ((aR _ _).trans (p.trans p8))))) ?_;rw[U,w5];unfold oC eU;rw[hix,X3,hjs,Yu,Yu];rfl
theorem bZ{o:Option a}{r:a}:W o (λx=>x=r)->o=b4 r:=λ⟨_,e,q⟩=>e.trans (congrArg b4 q)
noncomputable def cU(p:Int×Int):List Int:=[p.1,p.2]
noncomputable def eJ(p q:Int×Int):Int×Int:=if HT.lexLt (cU q) (cU p)then q else p
noncomputable def eK(p q:Int×Int):Int×Int:=if HT.lexLt (cU p) (cU q)then q else p
noncomputable def mM(p q:Int×Int)(a:Bool)(c:Int×Int):Ti:=(cU (eJ p q),cU (eK p q),a,cU c)
theorem VQ p q a:Am [PP p,PP q] a=b4 (PP (eJ p q),a):=by show b4 (if HT.lexLt (cU q) (cU p)then PP q else PP p,a)=_;unfold eJ;split<;>rfl
theorem VR p q a:An [PP p,PP q] a=b4 (PP (eK p q),a):=by show b4 (if HT.lexLt (cU p) (cU q)then PP q else PP p,a)=_;unfold eK;split<;>rfl
theorem VS(h:n=4):n<=Yi:=by rw[h];decide
theorem B2 k p q a c b(Q:jz)(H:Q (dM (mM p q a c),b)):W (f (k+1) "tie_of" [PP p,PP q,.bl a,PP c] b) Q:=
 cL (U2 k _ _ _ _ b) (cP (w_mTup.mpr (bC (aS rfl (bT (VQ p q b) (bC (aS rfl (bT (VR p q b) ⟨_,rfl,VS rfl,H⟩))))))))
theorem oE{i:Nat}{d:D}(e:xs[i]?=b4 d):atI xs (i:Int)=b4 d:=by have a:=(X8.mp e).1;unfold atI;rw[HI (by lia) (by lia)];simpa using e
theorem VT{xs:List D}(h:i<xs.length):atI xs ((i:Int)-1)=xs[(i+(xs.length-1))%xs.length]?:=by
 unfold atI jI;cases i with
 |zero=>
  rw[if_neg (by lia),if_pos (by lia)];have e:(((0:Nat):Int)-1+xs.length).toNat=(0+(xs.length-1))%xs.length:=by rw[a8g (by lia)];lia
  rw[e];rfl
 |succ i=>
  rw[if_pos (by lia),if_pos (by lia)];have e:(((i+1:Nat):Int)-1).toNat=(i+1+(xs.length-1))%xs.length:=by
   have:i+1+(xs.length-1)=i+xs.length:=by lia
   rw[this,Nat.add_mod_right,a8g (by lia)];lia
  rw[e];rfl
theorem w8{a:List Int}(h:i<a.length):(a.map D.int)[i]?=b4 (.int (a.getD i 0)):=by rw[Yo,Yg h];simp[Zm,h]
theorem VU{a:jq}(h:i<a.length):(a.map PP)[i]?=b4 (PP (a.getD i (0,0))):=by rw[Yo,Yg h];simp[Zm,h]
noncomputable def qI(a:List Int)(i:Nat):Bool:=decide (a.getD i 0<a.getD ((i+(a.length-1))%a.length) 0)&&decide (a.getD i 0<a.getD ((i+1)%a.length) 0)
theorem B3(i n:Nat):((i:Int)+1)%(n:Int)=(((i+1)%n:Nat):Int):=by simp[Int.natCast_emod]
theorem VW k(g:c[a]?=b4 (.lst (b.map D.int)))(h:i<b.length)(Q:jz)(H:Q (.bl (qI b i),c)):W (f (k+1) "is_least" [.loc a,.int i] c) Q:=by
 have u:(i+(b.length-1))%b.length<b.length:=a2X _ (by lia);have v:(i+1)%b.length<b.length:=a2X _ (by lia);have l:∀{d},d=c->aG (.loc a) (.int i) d=b4 (.int (b.getD i 0),d):=λe=>by subst e;exact bZ ((n6 g (oE (w8 h))).mpr rfl)
 have o:aG (.loc a) (.int ((i:Int)-1)) c=b4 (.int (b.getD ((i+(b.length-1))%b.length) 0),c):=bZ ((n6 g (by
  rw[VT (by rw[X3];exact h),X3];exact w8 u)).mpr rfl)
 have q:aG (.loc a) (.int (((i:Int)+1)%(b.length:Nat))) c=b4 (.int (b.getD ((i+1)%b.length) 0),c):=bZ ((n6 g (by rw[B3];exact oE (w8 v))).mpr rfl);refine cL (U3 k _ _ c) (cP (w_mAndV.mpr (bF (bU rfl rfl ⟨_,l rfl,bF ⟨_,rfl,bU rfl rfl (w_subI.mpr ⟨_,o,w_ltI.mpr ?_⟩)⟩⟩))));unfold qI at H;have j:W (aC gD (aC aG (aA 0) (aA 1)) (aC aG (aA 0) (aC bY (aC cB (aA 1) (mC (.int 1))) (aF cF (aB (aA 0) aD)))) [b4 (.loc a),b4 (.int i)] c) λp=>p=(.bl (decide (b.getD i 0<b.getD ((i+1)%b.length) 0)),c):=by refine bF (bU rfl rfl ⟨_,l rfl,bF ⟨_,rfl,bF (bU rfl rfl (w_addI.mpr (aS rfl ((fY g).mpr ?_))))⟩⟩);rw[X3];exact(jB (by lia)).mpr ⟨_,q,w_ltI.mpr rfl⟩
 cases n:decide (b.getD i 0<b.getD ((i+(b.length-1))%b.length) 0)with
 |true=>rw[n,a8K]at H;obtain⟨r,s,rfl⟩:=j;exact(if_pos rfl).mpr ⟨_,s,H⟩|false=>rw[n,a8w]at H;exact(if_neg Yj).mpr H
noncomputable def mO(a:jq)(c:Int×Int)(i:Nat):List Ti:=mM (a.getD i (0,0)) (a.getD ((i+1)%a.length) (0,0)) b7 c::(if a.length=4 then[mM (a.getD ((i+2)%4) (0,0)) (a.getD ((i+3)%4) (0,0)) b8 c]else[])
theorem mP{b:jq}(g:c[a]?=b4 (.lst (b.map PP)))(h:i<b.length):aG (.loc a) (.int (i:Int)) c=b4 (PP (b.getD i (0,0)),c):=bZ ((n6 g (oE (VU h))).mpr rfl)
theorem VX k{d:Hm}(g:d[a]?=b4 (.lst (b.map PP)))(h:i<b.length)c(Q:jz)(H:∀l μ',d<+:μ'->μ'[l]?=b4 (.lst ((mO b c i).map dM))->Q (.loc l,μ')):W (f (k+2) "ties_of_gap" [.loc a,.int i,PP c] d) Q:=by
 have u:(i+1)%b.length<b.length:=a2X _ (by lia);have p:aG (.loc a) (.int (((i:Int)+1)%(b.length:Nat))) d=b4 (PP (b.getD ((i+1)%b.length) (0,0)),d):=by rw[B3];exact mP g u
 have s:cF [.loc a] d=b4 (.int (b.length:Nat),d):=bZ ((fY g).mpr (by rw[X3]));refine cL (U4 (k+1) _ _ _ d) (bO (aS rfl (bT s (bO (w_mLst.mpr (bC (j9 (bC (bU rfl rfl ⟨_,mP g h,bC (bF ⟨_,rfl,bF (bU rfl rfl (w_addI.mpr ⟨_,rfl,(jB (by lia)).mpr ⟨_,p,_,rfl,?_⟩⟩))⟩)⟩)))))))));refine B2 k _ _ _ _ _ _ ⟨_,rfl,HG,?_⟩;have gl:=bB d (C.lst [dM (mM (b.getD i (0,0)) (b.getD ((i+1)%b.length) (0,0)) b7 c)]);have o:=aI (aR d (C.lst [dM (mM (b.getD i (0,0)) (b.getD ((i+1)%b.length) (0,0)) b7 c)])) g;refine tJ (b:=((b.length:Nat):Int)==4) (μ':=d++[C.lst [dM (mM (b.getD i (0,0)) (b.getD ((i+1)%b.length) (0,0)) b7 c)]]) (bZ (eI (bU rfl rfl (w_eqI.mpr ⟨_,rfl,rfl⟩)))) (λe=>?_) λe=>mK (cP ⟨_,rfl,H _ _ (aR _ _) ?_⟩)
 .have e:b.length=4:=by have:=beq_iff_eq.mp e;lia
  have v:(i+2)%4<b.length:=by lia
  have w:(i+3)%4<b.length:=by lia
  have q:∀{n:Hm},n[a]?=b4 (.lst (b.map PP))->aG (.loc a) (.int (((i:Int)+2)%4)) n=b4 (PP (b.getD ((i+2)%4) (0,0)),n):=λj=>by rw[show((i:Int)+2)%4=(((i+2)%4:Nat):Int) by lia];exact mP j v
  have r:∀{n:Hm},n[a]?=b4 (.lst (b.map PP))->aG (.loc a) (.int (((i:Int)+3)%4)) n=b4 (PP (b.getD ((i+3)%4) (0,0)),n):=λj=>by rw[show((i:Int)+3)%4=(((i+3)%4:Nat):Int) by lia];exact mP j w
  refine wY (jD ⟨_,rfl,iR gl,bC (j9 (bC (bF ⟨_,rfl,bF (bU rfl rfl (w_addI.mpr ⟨_,rfl,(jB (by decide)).mpr ⟨_,q o,bC (bF ⟨_,rfl,bF (bU rfl rfl (w_addI.mpr ⟨_,rfl,(jB (by decide)).mpr ⟨_,r o,_,rfl,?_⟩⟩))⟩)⟩⟩))⟩)))⟩);refine B2 k _ _ _ _ _ _ ⟨_,rfl,(n9 gl (by show(1:Nat)<Yi;decide)).mpr (cP ⟨_,rfl,H _ _ (dS (aR _ _) (Yd _) _) ?_⟩)⟩;rw[fP gl];unfold mO;rw[if_pos e];rfl
 .have e:¬ b.length=4:=λz=>by rw[z]at e;cases e
  unfold mO;rw[if_neg e];exact gl
noncomputable def cV(m:Int×Int->Bool)(p:Int×Int):jq:=(mv p.1 p.2 (bK p.1)).filter m
noncomputable def dD(m:Int×Int->Bool)(p:Int×Int):List Int:=eU ((mv p.1 p.2 (bK p.1)).map m)
theorem qJ m p:(dD m p).length=(cV m p).length:=by have e:=congrArg Zf (BZ (B0 p.1 p.2 (B1 p.1)) m);rw[X3]at e;unfold dD eU cV;rw[X3,a4X,Yr,X3,a1A,Zs,e];lia
theorem tL m p:(cV m p).length<=8:=by refine Y6 (ZR _ _) ?_;have:(mv p.1 p.2 (bK p.1)).length=(bK p.1).length:=X3 ..;have:=w6 p.1;lia
noncomputable def iT(m:Int×Int->Bool)(p:Int×Int)(i:Nat):List Ti:=if qI (dD m p) i then mO (cV m p) p i else[]
noncomputable def gM(m:Int×Int->Bool)(p:Int×Int):List Ti:=if(cV m p).length=2 then[mM ((cV m p).getD 0 (0,0)) ((cV m p).getD 1 (0,0)) b8 p]else(YR (cV m p).length).flatMap (iT m p)
theorem B4 m p i:(iT m p i).length<=2:=by
 unfold iT mO;split
 .split<;>simp
 .simp
theorem tP{a b:Type}{f:a->List b}(h:∀x,(f x).length<=n):∀l:List a,(l.flatMap f).length<=n*l.length
 |[]=>by simp
 |x::l=>by have c:=tP h l;have d:=h x;rw[a7F,Yr,YB,Nat.mul_succ];lia
theorem Ie m p:(gM m p).length<=16:=by
 unfold gM;split
 .simp
 .have a:=tP (B4 m p) (YR (cV m p).length);rw[ZV]at a;have:=tL m p;lia
inductive TaI (a0 a1 a2 a3:Option D)(l:Nat)(ν:Hm)(F:Nat->List Ti):Nat->aE->Hm->Prop
 |mk {i:Nat}{x:Option D}{μ:Hm}(p:ν<+:μ)(g:μ[l]?=b4 (.lst (((YR i).flatMap F).map dM))):TaI a0 a1 a2 a3 l ν F i [a0,a1,a2,a3,b4 (.loc l),x] μ
theorem VY k w h ms p(r:Hm)(Q:jz)(H:∀l μ',r<+:μ'->μ'[l]?=b4 (.lst ((gM (aL ms) p).map dM))->Q (.loc l,μ')):W (f (k+6) "ties_at" [SH w h ms,PP p] r) Q:=by
 refine cL (U5 (k+5) _ _ r) (bO (aS rfl (Ia (k+2) w h ms p.1 p.2 r _ λa o T s=>bO (aS rfl (Ic (k+1) w h ms p.1 p.2 o _ λb c G q=>?_)))));replace s:o[a]?=b4 (.lst ((cV (aL ms) p).map PP)):=s;replace q:c[b]?=b4 (.lst ((dD (aL ms) p).map D.int)):=q;have n:=aI G s;have R:=qJ (aL ms) p;have Y:=tL (aL ms) p;have N:cF [.loc a] c=b4 (.int ((cV (aL ms) p).length:Nat),c):=bZ ((fY n).mpr (by rw[X3]));have J:=T.trans G;refine tJ (b:=(((cV (aL ms) p).length:Nat):Int)==2) (μ':=c) (bZ (eI (bF (aS rfl (bT N ⟨_,rfl,w_eqI.mpr ⟨_,rfl,rfl⟩⟩))))) (λe=>?_) λe=>mK ?_
 .have e:(cV (aL ms) p).length=2:=by have:=beq_iff_eq.mp e;lia
  refine w4 (w_mLst.mpr (bC (j9 (bC (bU rfl rfl ⟨_,mP (i:=0) n (by lia),bC (bU rfl rfl ⟨_,mP (i:=1) n (by lia),_,rfl,?_⟩)⟩)))));refine B2 (k+4) _ _ _ _ _ _ ⟨_,rfl,HG,H _ _ (J.trans (aR _ _)) ?_⟩;unfold gM;rw[if_pos e];exact bB _ _
 .have e:¬ (cV (aL ms) p).length=2:=λz=>by rw[z]at e;cases e
  have O:=aI (aR c (C.lst [])) n;have gB:=aI (aR c (C.lst [])) q;have M:cF [.loc a] (c++[C.lst []])=b4 (.int ((cV (aL ms) p).length:Nat),c++[C.lst []]):=bZ ((fY O).mpr (by rw[X3]));refine bO (w_mLst.mpr ⟨_,rfl,a0l _,jE (w_mForI.mpr ((tF (j:=0)).mpr (bC (aS rfl (bT M ⟨_,rfl,⟨by lia,by lia⟩,?_⟩)))))⟩);dsimp only;rw[a0k];refine n8 (TaI (b4 (SH w h ms)) (b4 (PP p)) (b4 (.loc a)) (b4 (.loc b)) c.length c (iT (aL ms) p)) (.mk (aR _ _) (bB _ _)) ?_ ?_
  .rintro i v u E ⟨j,d⟩;refine⟨_,rfl,?_⟩;rw[a4C];refine w_mIfS.mpr (iA (aS rfl (VW (k+4) (aI j q) (by rw[R];exact E) _ ⟨rfl,?_⟩)));have x:(YR (i+1)).flatMap (iT (aL ms) p)=(YR i).flatMap (iT (aL ms) p)++iT (aL ms) p i:=by rw[a3F,a2I];simp
   have K:=tP (B4 (aL ms) p) (YR i);rw[ZV]at K;cases B:qI (dD (aL ms) p) i with
   |false=>refine(if_neg Yj).mpr (w_mNext.mpr (.mk j ?_));rw[x];unfold iT at d ⊢;rw[B,if_neg Yj,Zw];exact d|true=>
    refine(if_pos rfl).mpr (w_mDrop.mpr (jD ⟨_,rfl,iR d,bC (aS rfl (VX (k+3) (aI j n) E p _ λl U I y=>⟨_,rfl,?_⟩))⟩));have L:mO (cV (aL ms) p) p i=iT (aL ms) p i:=by unfold iT;rw[B,if_pos rfl]
    rw[L]at y;have X:=B4 (aL ms) p i;have A:=aI I d;refine(BE A y (by rw[X3,X3,Yz];lia)).mpr (.mk (dS (j.trans I) (Yd _) _) ?_);rw[fP A,x,YC]
  .rintro v u ⟨j,d⟩;refine⟨rfl,cP ⟨_,rfl,H _ _ (J.trans j) ?_⟩⟩;unfold gM;rw[if_neg e];exact d
theorem Ig k(hw:1<=w/\w<=6)(n:1<=h/\h<=6)(c:Hm)(Q:jz)(H:∀a μ',c<+:μ'->μ'[a]?=b4 (.lst (((fF w h).filter cT).map PP))->Q (.loc a,μ')):W (f (k+2) "corners_in" [.int w,.int h] c) Q:=by
 refine cL (UT (k+1) _ _ c) (cP (hZ (xs:=(fF w h).map PP) (p:=λd=>cT (e8 d)) (v:=λd=>d) (w_iSeq.mpr (aS rfl (HN _ w h (by lia) (by lia) _ _ λa l j e o=>?_)))));refine(eC e).mpr ⟨jC e,rfl,?_,λd μ' hd b=>?_,λd μ' hd _ b=>⟨_,rfl,rfl,Yp _⟩,λμ' b i=>?_⟩
 .have:=BY (w:=w) (h:=h) (by lia) (by lia);rw[X3,Yz];lia
 .obtain⟨u,v,rfl⟩:=qG hd;exact iA (aS rfl ((VH k u v _ _).mpr ⟨rfl,rfl,Yp _⟩))
 .refine H _ _ (j.trans b) ?_;rw[i,BW cT]
theorem Ih{a:Type}{l A B:List a}{x:a}{q:a->Bool}(b:l=A++x::B)(hA:∀y∈A,q y=b7)(c:q x=b8):l.find? q=b4 x:=by
 rw[b,a7G];have:A.find? q=none:=a0E.mpr λy d=>by rw[hA y d];exact Yj
 rw[this,List.find?_cons_of_pos c];rfl
theorem Ii{a:Type}{l:List a}{x:a}(h:l[i]?=b4 x):l=l.take i++x::l.drop (i+1):=by obtain⟨b,rfl⟩:=X8.mp h;rw[<- a1G b,a1i]
noncomputable def Ij:Option (Int×Int)->D
 |none=>.non|some p=>PP p
noncomputable def bH(w h:Int):jq:=(fF w h).filter cT
noncomputable def bW(m:Int×Int->Bool)(p:Int×Int):Bool:=!(fA (dD m p))
inductive BaI (ms:List ((Int×Int)×Str))(w h:Int)(cs:jq)(q:Int×Int->Bool)(ν:Hm):Nat->aE->Hm->Prop
 |mk {i:Nat}{x:Option D}{μ:Hm}(p:ν<+:μ)(ok:∀z∈cs.take i,q z=b7):BaI ms w h cs q ν i [b4 (SH w h ms),x] μ
theorem Ik{b:jq}{q:Int×Int->Bool}(ok:∀y∈b.take i,q y=b7)(hz:b[i]?=b4 z)(c:q z=b7):∀y∈b.take (i+1),q y=false:=λy a=>by
 rw[a0T,hz]at a;rcases YU.mp a with a|a
 .exact ok y a
 .have:y=z:=by simpa using a
  rw[this];exact c
theorem B5 k(hw:1<=w/\w<=6)(A:1<=h/\h<=6)ms(l:Hm)(Q:jz)(H:∀μ',l<+:μ'->Q (Ij ((bH w h).find? (bW (aL ms))),μ')):W (f (k+5) "barred" [SH w h ms] l) Q:=by
 refine cL (U0 (k+4) _ l) (w_mSeq.mpr (w_mForI.mpr (w_iSeq.mpr (aS rfl (Ig (k+2) hw A _ _ λa n s q=>(eC q).mpr ?_)))));refine k9 (xs:=(bH w h).map PP) (BaI ms w h (bH w h) (bW (aL ms)) n) (.mk (Yp _) λz j=>by simp at j) (by rintro _ _ _ ⟨p,_⟩;exact aI p q) ?_ ?_
 .rintro i d I o hd ⟨c,ok⟩;obtain⟨z,j,rfl⟩:=qH hd;refine⟨_,rfl,w_mIfS.mpr (qF (iA (b:=fA (dD (aL ms) z)) (j9 (bC (aS rfl (Ic k w h ms z.1 z.2 _ _ λb E u x=>⟨_,rfl,?_⟩))))))⟩;refine VC (k+2) b (dD (aL ms) z) (by have:=qJ (aL ms) z;have:=tL (aL ms) z;lia) _ _ x λG v=>⟨rfl,?_⟩;cases r:fA (dD (aL ms) z)with
  |true=>exact(if_neg Yj).mpr (w_mNext.mpr (.mk (c.trans (u.trans v)) (Ik ok j (by unfold bW;rw[r];rfl))))|false=>have e:=Ih (q:=bW (aL ms)) (Ii j) ok (by unfold bW;rw[r];rfl);rw[e]at H;exact(if_pos rfl).mpr (w_mRet.mpr ⟨_,rfl,H _ (s.trans (c.trans (u.trans v)))⟩)
 .rintro I o ⟨c,ok⟩;rw[X3,Z8]at ok;have e:(bH w h).find? (bW (aL ms))=none:=a0E.mpr λy B=>by rw[ok y B];exact Yj
  rw[e]at H;exact cP ⟨_,rfl,H _ (s.trans c)⟩
noncomputable def iB(m:Int×Int->Bool)(w h:Int):List Ti:=(bH w h).flatMap (gM m)
noncomputable def kF(ts:List Ti):List Ti:=(cR (kZ ts) ts.length).map λi=>ts.getD i j5
theorem Il:∀ts,sI (ts.map dM)=b4 ts
 |[]=>rfl|t::ts=>by
  have h:sH (dM t)=b4 t:=by show(cN (.tup (t.1.map D.int))).bind (λk=>(cN (.tup (t.2.1.map D.int))).bind λm=>(cN (.tup (t.2.2.2.map D.int))).map λn=>(k,m,t.2.2.1,n))=_;rw[BI,BI,BI];rfl
  show(sH (dM t)).bind (λx=>(sI (ts.map dM)).map (x::·))=_;rw[h,Il ts];rfl
theorem VZ(g:b[a]?=b4 (.lst (ts.map dM)))(h:ts.length<64):nV [.loc a] b=b4 (.loc b.length,b++[.lst ((kF ts).map dM)]):=by
 have e:eX b (.loc a)=b4 (ts.map dM):=by simp only[eX,g]
 simp only[nV,e,Yy,Il,if_pos h];have d:(cR (kZ ts) ts.length).map (λi=>(ts.map dM).getD i .non)=(kF ts).map dM:=by unfold kF;rw[Yu];refine ZQ λi c=>?_;have c:i<ts.length:=Zq.mp ((jW _ _).mem_iff.mp c);simp[Zm,c]
 rw[d]
theorem V0 k(hw:1<=w/\w<=6)(c:1<=h/\h<=6)(b:(bH w h).find? (bW (aL ms))=b6)(a:Hm)(Q:jz)(H:∀μ',a<+:μ'->Q (.non,μ')):W (f (k+6) "check_corners" [SH w h ms] a) Q:=by refine cL (U1 (k+5) _ a) (bO (aS rfl (B5 k hw c ms _ _ λμ' d=>?_)));rw[b];exact w_mIfS.mpr (eI (bU rfl rfl (w_isnotNN.mpr ⟨_,rfl,(if_neg Yj).mpr (w_mNext.mpr (H _ d))⟩)))
inductive TzI (ms:List ((Int×Int)×Str))(w h:Int)(l:Nat)(ν:Hm):Nat->aE->Hm->Prop
 |mk {i:Nat}{x:Option D}{μ:Hm}(p:ν<+:μ)(g:μ[l]?=b4 (.lst ((((bH w h).take i).flatMap (gM (aL ms))).map dM))):TzI ms w h l ν i [b4 (SH w h ms),b4 (.loc l),x] μ
theorem V1(hw:1<=w/\w<=6)(c:1<=h/\h<=6):(bH w h).length<=1000:=by have a:=BY (w:=w) (h:=h) (by lia) (by lia);have b:=ZR cT (fF w h);unfold bH;lia
theorem Im k(hw:1<=w/\w<=6)(p:1<=h/\h<=6)(E:(bH w h).find? (bW (aL ms))=b6)(G:(iB (aL ms) w h).length<64)(o:Hm)(Q:jz)(H:∀l μ',o<+:μ'->o.length<=l->μ'[l]?=b4 (.lst ((kF (iB (aL ms) w h)).map dM))->Q (.loc l,μ')):W (f (k+7) "ties" [SH w h ms] o) Q:=by
 refine cL (U6 (k+6) _ o) (wY (aS rfl (V0 k hw p E _ _ λb r=>bO (w_mLst.mpr ⟨_,rfl,a0l _,jE (w_mForI.mpr (w_iSeq.mpr (aS rfl (Ig (k+4) hw p _ _ λa K s c=>(eC c).mpr ?_))))⟩))));have I:=r.trans (aR b (C.lst []));have hc:=V1 hw p;have j:a≠b.length\/bH w h=[]:=by
  by_cases z:a=b.length
  .right;have J:=aI s (bB b (C.lst []));rw[z,J]at c;injection c with c;injection c with c;exact a4a.mp c.symm
  .exact .inl z
 refine k9 (xs:=(bH w h).map PP) (λi x μ'=>TzI ms w h b.length b i x μ'/\μ'[a]?=b4 (.lst ((bH w h).map PP))) ⟨.mk ((aR _ _).trans s) (aI s (bB _ _)),c⟩ (by rintro _ _ _ ⟨_,g⟩;exact g) ?_ ?_
 .rintro i d M v hd ⟨⟨n,e⟩,B⟩;obtain⟨z,q,rfl⟩:=qH hd;refine⟨_,rfl,w_mDrop.mpr (jD ⟨_,rfl,iR e,bC (aS rfl (VY k w h ms z _ _ λl L u A=>⟨_,rfl,?_⟩))⟩)⟩;have y:=aI u e;have N:=tP (Ie (aL ms)) ((bH w h).take i);have O:=Ie (aL ms) z;have R:=List.length_take_le i (bH w h);have T:=List.length_take_le' i (bH w h);refine(BE y A (by rw[X3,X3,Yz];lia)).mpr ⟨.mk (dS (n.trans u) (Yd _) _) ?_,?_⟩
  .rw[fP y,a0T,q];simp
  .rcases j with j|j
   .rw[Yx (YW j)];exact aI u B
   .rw[j]at q;cases q
 .rintro M v ⟨⟨n,e⟩,_⟩;rw[X3,Z8]at e;exact⟨rfl,cP (aS rfl (bT (VZ (ts:=iB (aL ms) w h) e G) (H _ _ ((r.trans n).trans (aR _ _)) (Y6 r.length_le n.length_le) (bB _ _))))⟩
noncomputable abbrev bX(c:Int×Int):Xn:=(("Barred":Str),[(("corner":Str),PP c)])
theorem V2 k(hw:1<=w/\w<=6)(d:1<=h/\h<=6)(b:(bH w h).find? (bW (aL ms))=b4 c)a:W (g (k+6) "check_corners" [SH w h ms] a) λq=>q.1=bX c/\a<+:q.2:=by rw[Hz,oA];refine Hq rfl ?_;refine w_mSet.mpr (aS rfl (B5 k hw d ms _ _ λi e=>⟨rfl,?_⟩));rw[b];refine dU (w_rIf.mpr (eI (bU rfl rfl (w_isnotTN.mpr ⟨_,rfl,?_⟩))));rw[if_pos rfl];exact dU (w_rRaiseI.mpr ⟨_,rfl,rfl,e⟩)
theorem Io k(hw:1<=w/\w<=6)(d:1<=h/\h<=6)(b:(bH w h).find? (bW (aL ms))=b4 c)a:W (g (k+7) "ties" [SH w h ms] a) λq=>q.1=bX c/\a<+:q.2:=by rw[HA,oA];exact dU (w_rCall.mpr ⟨_,rfl,V2 k hw d b a⟩)
theorem B6(e:t ρ μ=b4 (b8,μ'))(k:W (ra ρ μ') Q):W (fC t ra rb ρ μ) Q:=by unfold fC;rw[e];exact k
theorem qK(e:t ρ μ=b4 (b7,μ'))(k:W (rb ρ μ') Q):W (fC t ra rb ρ μ) Q:=by unfold fC;rw[e];exact k
theorem B7 k(hw:1<=w/\w<=6)(d:1<=h/\h<=6)(b:(bH w h).find? (bW (aL ms))=b4 c)a:W (g (k+8) "steps_from" [SH w h ms] a) λq=>q.1=bX c/\a<+:q.2:=by rw[HB,oA];exact Hq rfl (w_mSet.mpr (w_mDNewT.mpr ⟨rfl,dU (w_rCall.mpr ⟨_,rfl,bA (Io k hw d b _) λq z=>⟨z.1,(aR _ _).trans z.2⟩⟩)⟩))
theorem V3 k(hw:1<=w/\w<=6)(d:1<=h/\h<=6)(b:(bH w h).find? (bW (aL ms))=b4 c)a:W (g (k+9) "round_of" [SH w h ms] a) λq=>q.1=bX c/\a<+:q.2:=by rw[HC,oA];exact dU (w_rCall.mpr ⟨_,rfl,B7 k hw d b a⟩)
theorem V4 k(hw:1<=w/\w<=6)(d:1<=h/\h<=6)(b:(bH w h).find? (bW (aL ms))=b4 c)a:W (g (k+9) "carried" [SH w h ms] a) λq=>q.1=bX c/\a<+:q.2:=by rw[Vi,oA];exact dU (w_rCall.mpr ⟨_,rfl,B7 k hw d b a⟩)
theorem V5 k(hw:1<=w/\w<=6)(e:1<=h/\h<=6)(b:(bH w h).find? (bW (aL ms))=b4 c)d a:W (g (k+9) "way_to" [SH w h ms,d] a) λq=>q.1=bX c/\a<+:q.2:=by rw[Vj,oA];exact dU (w_rCall.mpr ⟨_,rfl,B7 k hw e b a⟩)
theorem V6(h:atI xs i=b4 d)a:aG (.tup xs) (.int i) a=b4 (d,a):=by simp only[aG,eD,a8,Yy,h,YG]
theorem Ip k(hw:1<=w/\w<=6)(d:1<=h/\h<=6)(b:(bH w h).find? (bW (aL ms))=b4 c)(n:ms≠[])(e:0<=i/\i<4)a:W (g (k+10) "_law_asked" [.int i,SH w h ms] a) λq=>q.1=bX c/\a<+:q.2:=by
 rw[HD,oA];have e:i=0\/i=1\/i=2\/i=3:=by lia
 rcases e with rfl|rfl|rfl|rfl
 .exact dU (B6 rfl (dU (w_rCall.mpr ⟨_,rfl,Io (k+2) hw d b a⟩)))
 .exact dU (qK rfl (dU (B6 rfl (dU (w_rCall.mpr ⟨_,rfl,V3 k hw d b a⟩)))))
 .exact dU (qK rfl (dU (qK rfl (dU (B6 rfl (dU (w_rCall.mpr ⟨_,rfl,V4 k hw d b a⟩)))))))
 .cases ms with
  |nil=>exact absurd rfl n|cons m ms=>
   have j:=V6 (show atI ((m::ms).map MD) ((0:Nat):Int)=b4 (MD m)from oE rfl) a;have l:aB (aA 1) (aB (aC aG (aC aG (aC aG (aA 1) (mC (.int 2))) (mC (.int 0))) (mC (.int 0))) aD) [b4 (.int 3),b4 (SH w h (m::ms))] a=b4 ([SH w h (m::ms),PP m.1],a):=by refine bZ (bC ⟨_,rfl,bC (bF (bF (bU rfl rfl (w_it32.mpr ⟨_,rfl,?_⟩))))⟩);exact⟨_,j,_,rfl,_,rfl,_,rfl,rfl⟩
   exact dU (qK rfl (dU (qK rfl (dU (qK rfl (dU (w_rCall.mpr ⟨_,l,V5 k hw d b _ a⟩)))))))
theorem fH(i:d b a=b6)(j:∀b a,e b a=b6):bJ m d e b a=none:=by
 unfold bJ;rw[i];dsimp only;split
 .exact j _ _
 .rfl
theorem qL{ds:List D}(e:ms b a=b4 (ds,μ'))(h:r ds μ'=b6):eP r ms b a=none:=by unfold eP;rw[e];show(r ds μ').map _=b6;rw[h];rfl
theorem V7 k(hw:1<=w/\w<=6)(j:1<=h/\h<=6)(i:(bH w h).find? (bW (aL ms))=b6)b:g (k+6) "check_corners" [SH w h ms] b=none:=by rw[Hz];obtain⟨p,e,a,rfl⟩:W (f (k+5) "barred" [SH w h ms] b) λp=>∃a,p=(.non,a):=B5 k hw j ms b _ λa _=>⟨a,by rw[i];rfl⟩;have d:aO 1 (aF (f (k+5) "barred") (aB (aA 0) aD)) [b4 (SH w h ms),b6] b=b4 (.nx,[b4 (SH w h ms),b4 .non],a):=bZ (w_mSet.mpr (aS rfl ⟨_,e,rfl⟩));show j8 (bJ _ aV _ _ _)=b6;unfold bJ aV;rw[d];rfl
theorem w9(h:o=b6):j8 o=none:=by rw[h];rfl
theorem V8(k:i d b=b6)(l:∀a μ',m d b=b4 (.nx,a,μ')->j a μ'=b6):bJ m i j d b=none:=by
 unfold bJ;rw[k];dsimp only;split
 .rename_i e;exact l _ _ e
 .rfl
theorem Iq k(hw:1<=w/\w<=6)(d:1<=h/\h<=6)(b:(bH w h).find? (bW (aL ms))=b6)a:g (k+7) "ties" [SH w h ms] a=none:=
 (HA (k+4) _ a).trans (w9 (fH (qL rfl (V7 k hw d b a)) λ_ _=>fH rfl λ_ _=>fH rfl λ_ _=>fH rfl λ_ _=>rfl))
theorem V9 k(hw:1<=w/\w<=6)(l:1<=h/\h<=6)(j:(bH w h).find? (bW (aL ms))=b6)a:g (k+8) "steps_from" [SH w h ms] a=none:=
 (HB (k+5) _ a).trans (w9 (V8 rfl λd b e=>by
  have i:b4 (Fl.nx,[b4 (SH w h ms),b4 (D.loc a.length),b6],a++[C.dT []])=b4 (.nx,d,b):=e;cases i;exact fH (qL rfl (Iq k hw l j _)) λ_ _=>fH rfl λ_ _=>rfl))
theorem Wa k(hw:1<=w/\w<=6)(d:1<=h/\h<=6)(b:(bH w h).find? (bW (aL ms))=b6)a:g (k+9) "round_of" [SH w h ms] a=none:=
 (HC (k+6) _ a).trans (w9 (fH (qL rfl (V9 k hw d b a)) λ_ _=>fH rfl λ_ _=>fH rfl λ_ _=>fH rfl λ_ _=>fH rfl λ_ _=>rfl))
theorem Ir(e:t a d=b4 (b8,μ'))(h:b a μ'=b6):fC t b i a d=none:=by unfold fC;rw[e];exact h
theorem Wb(e:t a d=b4 (b7,μ'))(h:b a μ'=b6):fC t i b a d=none:=by unfold fC;rw[e];exact h
theorem Wc k(hw:1<=w/\w<=6)(d:1<=h/\h<=6)(b:(bH w h).find? (bW (aL ms))=b6)(e:i=0\/i=1)a:g (k+10) "_law_asked" [.int i,SH w h ms] a=none:=by
 refine(HD (k+7) _ _ a).trans (w9 ?_);rcases e with rfl|rfl
 .exact fH (Ir rfl (fH (qL rfl (Iq (k+2) hw d b a)) λ_ _=>rfl)) λ_ _=>rfl
 .exact fH (Wb rfl (fH (Ir rfl (fH (qL rfl (Wa k hw d b a)) λ_ _=>rfl)) λ_ _=>rfl)) λ_ _=>rfl
theorem We(e:s d a=b4 (b,a))(h:t d a=b4 (c,a)):jL s t d a=b4 (b&&c,a):=bZ (w_mAndT.mpr ⟨_,e,by
 cases b with
 |true=>exact(if_pos rfl).mpr ⟨_,h,rfl⟩
 |false=>exact(if_neg Yj).mpr rfl⟩)
theorem Wf{L:jq}(g:b[a]?=b4 (.lst (L.map PP)))(h:L.length<1000)(H:R (.nx,[c,b4 (.loc a),b4 (.int x),b4 (.int y)],b.set a (.lst ((L++[(x,y)].filter cT).map PP)))):W (qE [c,b4 (.loc a),b4 (.int x),b4 (.int y)] b) R:=by
 refine w_mIfS.mpr ⟨_,We (b:=x%2==0) (c:=x%4==y%4) (by kernel_rfl) (by kernel_rfl),?_⟩;have e:(x%2==0&&x%4==y%4)=cT (x,y):=rfl;rw[e];cases d:cT (x,y)with
 |true=>rw[a5S d,a8k,YC]at H;exact(if_pos rfl).mpr (w_mDrop.mpr (jD ⟨_,rfl,iR g,bC ⟨_,rfl,_,rfl,(n9 g (by rw[X3,Yz];lia)).mpr H⟩⟩))|false=>rw[a5T (by rw[d];exact Yj),a8k,Zw,HW g]at H;exact(if_neg Yj).mpr (w_mNext.mpr H)
inductive RoI (d0:Option D)(a:Nat)(F:Nat->jq)(x:Option D)(ν:Hm):Nat->aE->Hm->Prop
 |mk {i:Nat}{o:Option D}{μ:Hm}(e:μ=ν.set a (.lst ((F i).map PP))):RoI d0 a F x ν i [d0,b4 (.loc a),x,o] μ
inductive RuI (d0:Option D)(a:Nat)(F:Nat->jq)(ν:Hm):Nat->aE->Hm->Prop
 |mk {i:Nat}{o o':Option D}{μ:Hm}(e:μ=ν.set a (.lst ((F i).map PP))):RuI d0 a F ν i [d0,b4 (.loc a),o,o'] μ
theorem set_two'{b:Hm}:(b.set a x).set a y=b.set a y:=by simp
theorem Wg k(hw:1<=w/\w<=6)(q:1<=h/\h<=6)ms a(Q:jz)(H:Q (.loc a.length,a++[.lst ((bH w h).map PP)])):W (f (k+1) "_law_inner" [SH w h ms] a) Q:=by
 have fin:∀w∈[(1:Int),2,3,4,5,6],∀h∈[(1:Int),2,3,4,5,6],(kE 1 (4*w-1).toNat (4*h-1).toNat).filter cT=bH w h:=by decide +kernel
 have e:∀{z:Int},1<=z/\z<=6->z∈[(1:Int),2,3,4,5,6]:=λ{z} v=>by
  have:z=1\/z=2\/z=3\/z=4\/z=5\/z=6:=by lia
  simpa using this
 rw[<- fin w (e hw) h (e q)]at H;refine cL (Vm k _ a) (bO (w_mLst.mpr ⟨_,rfl,a0l _,jE (w_mForI.mpr (w_iRng2.mpr (bC ⟨_,rfl,bC (bF ⟨_,rfl,bU rfl rfl (w_it30.mpr (w_mul4.mpr ⟨_,rfl,⟨by lia,by lia,by lia⟩,?_⟩))⟩)⟩)))⟩));have sz:(4*h-1).toNat<=23/\(4*w-1).toNat<=23:=by lia
 generalize(4*w-1).toNat=n at H sz;generalize hm:(4*h-1).toNat=m at H sz;refine n8 (RuI (b4 (SH w h ms)) a.length (λi=>(kE 1 i m).filter cT) (a++[C.lst []])) (.mk (HW (bB _ _)).symm) ?_ ?_
 .rintro i d b s ⟨rfl⟩;refine⟨_,rfl,w_mForI.mpr (w_iRng2.mpr (bC ⟨_,rfl,bC (bF ⟨_,rfl,bU rfl rfl (w_it31.mpr (w_mul4.mpr ⟨_,rfl,⟨by lia,by lia,by lia⟩,?_⟩))⟩)⟩))⟩;rw[hm];refine n8 (b:=qE) (RoI (b4 (SH w h ms)) a.length (λj=>(kE 1 i m).filter cT++(jF 1 (1+(i:Int)) j).filter cT) (b4 (.int (1+(i:Int)))) (a++[C.lst []])) (.mk (by show _=_;simp[jF])) ?_ ?_
  .rintro j d c u ⟨rfl⟩;have p:=fP (c':=C.lst (((kE 1 i m).filter cT++(jF 1 (1+(i:Int)) j).filter cT).map PP)) (bB a (C.lst []));have l:=ZR cT (kE 1 i m);have o:=ZR cT (jF 1 (1+(i:Int)) j);rw[HV]at l;rw[HU]at o;have r:=a8I (show i<=23 by lia) (show m<=23 by lia);refine⟨_,rfl,Wf p (by rw[Yr];lia) (.mk ?_)⟩;rw[set_two',VE,a1e,a0u]
  .rintro d c ⟨rfl⟩;refine .mk ?_;rw[HS,a1e]
 .rintro d b ⟨rfl⟩;refine⟨rfl,cP ⟨_,rfl,?_⟩⟩;rw[VF];exact H
theorem Wh{ps:jq}{Q:jz}(h:c[a]?=b4 (.lst (ps.map PP))):W (dA b (PP q) (.loc a) c) Q↔Q (.bl (if b then !(ps.any λp=>p==q)else ps.any λp=>p==q),c):=by
 have e:dA b (PP q) (.loc a) c=b4 (.bl (if b then !(ps.any λp=>p==q)else ps.any λp=>p==q),c):=by
  simp only[dA,h];unfold m9;have e:a8 c (.loc a)=b4 (ps.map PP):=by simp only[a8,h]
  rw[e];show(kR c (PP q) (ps.map PP)).map _=_;rw[HR];rfl
 rw[e];exact W_some
noncomputable def nI:D->Int
 |.int i=>i|_=>0
theorem Wi(h:cT z=b8):z.1%4=0\/z.1%4=2:=by
 unfold cT at h;have:z.1%2=0:=by simpa using(a0L.mp h).1
 lia
theorem Wj{μ:Hm}(hz:cT z=b8)(g:μ[s]?=b4 (.lst (E8.map PP)))(H:∀s μ',μ<+:μ'->μ'[s]?=b4 (.lst ((bK z.1).map PP))->R (.nx,[a0,b4 (PP z),b4 (.loc s),a3,a4,a5,a6,a7],μ')):
  W (bL (aP (aC (bE b7) (aC bY (aC aG (aA 1) (mC (.int 0))) (mC (.int 4))) (mC (.int 2)))) (aO 2 (dY (pO (aB (mC (.int 1)) (aB (mC (.int 8)) (aB (mC (.int 2)) aD)))) dH (aC aG (aA 2) (aA 8)))) cA [a0,b4 (PP z),b4 (.loc s),a3,a4,a5,a6,a7] μ) R:=by
 refine w_mIfS.mpr ⟨(z.1%4==2,μ),by kernel_rfl,?_⟩;rcases Wi hz with e|e
 .rw[e];refine(if_neg (show ¬ ((0:Int)==2)=b8 by decide)).mpr (w_mNext.mpr (H s μ (Yp _) ?_));unfold bK;rw[if_pos e];exact g
 .rw[e];refine(if_pos rfl).mpr (w_mSet.mpr (hZ (xs:=[.int 1,.int 3,.int 5,.int 7]) (p:=λ_=>b8) (v:=λd=>PP (E8.getD (nI d).toNat (0,0))) (UE ⟨_,rfl,1,8,2,rfl,by decide,λμ' i _=>?_,rfl,by decide,λd μ' hd a=>w_mTrue.mpr ⟨rfl,Yp _⟩,λd μ' hd _ a=>?_,λμ' a b=>H _ _ a ?_⟩)))
  .match i with
   |0=>rfl|1=>rfl|2=>rfl|3=>rfl|n+4=>rfl
  .have c:d=.int 1\/d=.int 3\/d=.int 5\/d=.int 7:=by simpa using hd
   rcases c with rfl|rfl|rfl|rfl<;>exact bU rfl rfl ((n6 (aI a g) rfl).mpr ⟨rfl,Yp _⟩)
  .rw[b];unfold bK;rw[if_neg (by lia)];rfl
theorem Wl{μ:Hm}(e:l.length<=63)(g:μ[s]?=b4 (.lst (l.map PP))){Q:jz}(H:∀b μ',μ<+:μ'->μ'[b]?=b4 (.lst ((mv z.1 z.2 l).map PP))->Q (.loc b,μ')):
  W (eE (jR 2) (cI (aA 2)) dH (dE (aB (aC cB (aC aG (aA 1) (mC (.int 0))) (aA 8)) (aB (aC cB (aC aG (aA 1) (mC (.int 1))) (aA 9)) aD))) [a0,b4 (PP z),b4 (.loc s),a3,a4,a5,a6,a7] μ) Q:=by
 refine tI (xs:=l.map PP) (x:=λd=>[b4 (.int (e8 d).1),b4 (.int (e8 d).2)]) (p:=λ_=>b8) (v:=λd=>PP (z.1+(e8 d).1,z.2+(e8 d).2)) (w_iSeq.mpr ⟨_,rfl,(eC g).mpr ⟨jC g,rfl,by rw[X3,Yz];lia,λd μ' hd=>?_,λd μ' hd a=>w_mTrue.mpr ⟨rfl,Yp _⟩,λd μ' hd _ a=>?_,λμ' a c=>H _ _ a ?_⟩⟩)
 .obtain⟨u,v,rfl⟩:=qG hd;rfl
 .obtain⟨u,v,rfl⟩:=qG hd;exact⟨(PP (z.1+u,z.2+v),μ'),by kernel_rfl,rfl,Yp _⟩
 .rw[c,a1H.mpr (λ_ _=>rfl),Yu];unfold mv;rw[Yu];rfl
theorem Wm{μ:Hm}{es ps:jq}(r:es.length<=8)(g:μ[a]?=b4 (.lst (es.map PP)))(n:μ[c]?=b4 (.lst (ps.map PP))){Q:jz}(H:∀b μ',μ<+:μ'->μ'[b]?=b4 (.lst ((cJ (es.map λq=>ps.any λp=>p==q)).map D.int))->Q (.loc b,μ')):
  W (dY (gR (aB (aF cF (aB (aA 4) aD)) aD)) (aP (aC (dA b7) (aC aG (aA 4) (aA 8)) (aA 0))) (aA 8) [b4 (.loc c),b4 (PP z),a3,a5,b4 (.loc a),a6,a7,a0] μ) Q:=by
 have l:cF [.loc a] μ=b4 (.int (es.length:Nat),μ):=bZ ((fY g).mpr (by rw[X3]));refine hZ (xs:=fX 0 es.length) (p:=λd=>(es.map λq=>ps.any λp=>p==q).getD (nI d).toNat b7) (v:=λd=>d) ((tF (j:=0)).mpr (bC (aS rfl (bT l ⟨_,rfl,⟨by lia,by lia⟩,?_⟩))));dsimp only;rw[a0k];refine⟨BB,by unfold fX;rw[X3,ZV],by unfold fX;rw[X3,ZV,Yz];lia,λd μ' hd e=>?_,λd μ' hd _ e=>⟨_,rfl,rfl,Yp _⟩,λμ' e o=>H _ _ e ?_⟩
 .obtain⟨i,h,rfl⟩:=Yw.mp hd;have h:=Zq.mp h;rw[a4C];refine eI (bF (bU rfl rfl ⟨_,mP (aI e g) h,_,rfl,(Wh (aI e n)).mpr ⟨_,rfl,?_,Yp _⟩⟩));show _=(es.map λq=>ps.any λp=>p==q).getD ((i:Int)).toNat b7;rw[a0k];simp[Zm,h]
 .rw[o];unfold fX cJ;rw[a2z,Yu,Yu,X3];have j:((λd:D=>d)∘λ(i:Nat)=>D.int (0+(i:Int)))=D.int∘λ(i:Nat)=>(i:Int):=by funext i;simp
  have k:((λd:D=>(es.map λq=>ps.any λp=>p==q).getD (nI d).toNat b7)∘λ(i:Nat)=>D.int (0+(i:Int)))=λ(i:Nat)=>(es.map λq=>ps.any λp=>p==q).getD i false:=by funext i;simp[nI]
  rw[j,k]
noncomputable def iC(bs:List Bool):List Int:=(YR (cJ bs).length).map λk=>((((cJ bs).getD ((k+1)%(cJ bs).length) 0-(cJ bs).getD k 0-1)%(bs.length:Int))+1)*(8/(bs.length:Int))
theorem Wn:∀a b c d e g h i,iC [a,b,c,d,e,g,h,i]=eU [a,b,c,d,e,g,h,i]:=by decide +kernel
theorem Wo:∀a b c d,iC [a,b,c,d]=eU [a,b,c,d]:=by decide +kernel
theorem Wq m x y:iC ((mv x y (bK x)).map m)=eU ((mv x y (bK x)).map m):=by
 unfold bK mv;split
 .exact Wn ..
 .exact Wo ..
theorem Wr{es:jq}m:(cJ (es.map m)).map (λi=>es.getD i.toNat (0,0))=es.filter m:=by
 unfold cJ;rw[Yu,X3];induction es with
 |nil=>rfl|cons e es b=>
  rw[YB,a3x,a1B,a2z];have c:((λi=>((e::es).map m).getD i b7)∘Nat.succ)=λi=>(es.map m).getD i false:=by funext i;simp
  rw[c];cases a:m e with
  |true=>simp only[Yk,a6O,a,if_true,a5S];rw[Yu,<- b];rfl|false=>simp only[Yk,a6O,a,YH,if_false];rw[a5T (by rw[a];exact Yj),Yu,<- b];rfl
theorem Iu{b:List Int}(g:c[a]?=b4 (.lst (b.map D.int)))(h:i<b.length):aG (.loc a) (.int (i:Int)) c=b4 (.int (b.getD i 0),c):=bZ ((n6 g (oE (w8 h))).mpr rfl)
theorem Ws{n:Nat}(z:n=8\/n=4)(w:es.length=n){d:List Int}(y:k<d.length)(v:e[a]?=b4 (.lst es))(h:e[b]?=b4 (.lst (d.map D.int)))(r:e[c]?=b4 (.lst (i.map D.int)))(G:i.length<=100)(H:∀x,R (.nx,[l,o,p,b4 (.int (k:Int)),b4 (.loc a),b4 (.loc b),b4 (.loc c),x],e.set c (.lst ((i++[(((d.getD ((k+1)%d.length) 0-d.getD k 0-1)%(n:Int))+1)*(8/(n:Int))]).map D.int)))):
  W (BL [l,o,p,b4 (.int (k:Int)),b4 (.loc a),b4 (.loc b),b4 (.loc c),x] e) R:=by
 have A:(k+1)%d.length<d.length:=a2X _ (by lia);have u:cF [.loc b] e=b4 (.int (d.length:Nat),e):=bZ ((fY h).mpr (by rw[X3]));have q:cF [.loc a] e=b4 (.int (n:Nat),e):=bZ ((fY v).mpr (by rw[w]));have s:aG (.loc b) (.int (((k:Int)+1)%(d.length:Nat))) e=b4 (.int (d.getD ((k+1)%d.length) 0),e):=by rw[B3];exact Iu h A
 have j:(0:Int)<(n:Int):=by lia
 refine bO (bF (bF (bF (bF (bF ⟨_,rfl,bF (bU rfl rfl (w_addI.mpr (aS rfl (bT u ((jB (by lia)).mpr ⟨_,s,bU rfl rfl ⟨_,Iu h y,w_subI.mpr ⟨_,rfl,w_subI.mpr (aS rfl (bT q ((jB j).mpr ⟨_,rfl,w_addI.mpr ?_⟩)))⟩⟩⟩)))))⟩)))));have B:=a8v (d.getD ((k+1)%d.length) 0-d.getD k 0-1) (show(n:Int)≠0 by lia);have E:=a7H (d.getD ((k+1)%d.length) 0-d.getD k 0-1) j;rw[YC]at H;refine w_mDrop.mpr (jD ⟨_,rfl,iR r,bC (bF ⟨_,rfl,bF ⟨_,rfl,aS rfl (bT q ((Bx j ?_).mpr ((tE (.inl (by lia))).mpr ⟨_,rfl,(n9 r (by rw[X3,Yz];lia)).mpr (H _)⟩)))⟩⟩)⟩);rcases z with rfl|rfl<;>decide
inductive RaI (d0 d1 d2:Option D)(a b c:Nat)(ν:Hm)(F:Nat->List Int):Nat->aE->Hm->Prop
 |mk {i:Nat}{x y:Option D}{μ:Hm}(p:ν<+:μ)(g:μ[c]?=b4 (.lst ((F i).map D.int))):RaI d0 d1 d2 a b c ν F i [d0,d1,d2,x,b4 (.loc a),b4 (.loc b),b4 (.loc c),y] μ
theorem Wt k(hz:cT z=b8){o:Hm}(T:o[c]?=b4 (.lst ((ms.map (·.1)).map PP)))(Q:jz)(H:∀a b μ',o<+:μ'->μ'[a]?=b4 (.lst ((cV (aL ms) z).map PP))->μ'[b]?=b4 (.lst ((dD (aL ms) z).map D.int))->Q (.tup [.loc a,.loc b],μ')):W (f (k+1) "_law_round_a" [.loc c,PP z] o) Q:=by
 have w:(mv z.1 z.2 (bK z.1)).length=8\/(mv z.1 z.2 (bK z.1)).length=4:=by have:=w6 z.1;unfold mv;rw[X3];exact this
 refine cL (Vl k _ _ o) ?_;refine bO (bT (r:=(.loc o.length,o++[.lst (E8.map PP)])) (by kernel_rfl) ?_);refine jE ?_;refine Wj (s:=o.length) hz (bB _ _) λs μ1 Z R=>⟨rfl,?_⟩;refine bO ?_;refine Wl (by have:=w6 z.1;lia) R λa μ2 p2 G=>?_;refine bO ?_;have K:=(aR o (C.lst (E8.map PP))).trans (Z.trans p2);refine Wm (by lia) G (aI K T) λb h J q=>?_;refine bO (bT (r:=(.loc h.length,h++[C.lst []])) rfl ?_);refine jE (w_mForI.mpr ?_);replace q:h[b]?=b4 (.lst ((cJ ((mv z.1 z.2 (bK z.1)).map (aL ms))).map D.int)):=q;have p:=aI J G;generalize hbs:(mv z.1 z.2 (bK z.1)).map (aL ms)=bs at q;have I:bs.length=(mv z.1 z.2 (bK z.1)).length:=by rw[<- hbs,X3]
 have E:iC bs=dD (aL ms) z:=by rw[<- hbs];exact Wq _ _ _
 have hx:(cJ bs).length<=8:=by
  have h1:=qJ (aL ms) z;have h2:=tL (aL ms) z;have U:(iC bs).length=(cJ bs).length:=by unfold iC;rw[X3,ZV]
  rw[E]at U;lia
 have gB:=aI (aR h (C.lst [])) q;have gA:=aI (aR h (C.lst [])) p;have N:cF [.loc b] (h++[C.lst []])=b4 (.int ((cJ bs).length:Nat),h++[C.lst []]):=bZ ((fY gB).mpr (by rw[X3]));refine(tF (j:=0)).mpr (bC (aS rfl (bT N ⟨_,rfl,⟨by lia,by lia⟩,?_⟩)));dsimp only;rw[a0k];refine n8 (b:=BL) (RaI (b4 (.loc c)) (b4 (PP z)) (b4 (.loc s)) a b h.length h (λi=>(iC bs).take i)) (.mk (aR _ _) (by rw[a2g];exact bB _ _)) ?_ ?_
 .rintro i B A u ⟨n,r⟩;refine⟨_,rfl,?_⟩;rw[a4C];have L:(iC bs).take (i+1)=(iC bs).take i++[(((cJ bs).getD ((i+1)%(cJ bs).length) 0-(cJ bs).getD i 0-1)%(((mv z.1 z.2 (bK z.1)).length:Nat):Int)+1)*(8/(((mv z.1 z.2 (bK z.1)).length:Nat):Int))]:=by rw[a0T,<- I];unfold iC;rw[Yo,a2H u];rfl
  refine Ws (es:=(mv z.1 z.2 (bK z.1)).map PP) w (by rw[X3]) u (aI n p) (aI n q) r (by rw[Zs];unfold iC;rw[X3,ZV];lia) λx=>.mk (dS n (Yd _) _) ?_;rw[fP r,L]
 .rintro B A ⟨n,r⟩;have M:(iC bs).take (cJ bs).length=dD (aL ms) z:=by rw[<- E];exact a1d (by unfold iC;rw[X3,ZV];exact Yd _)
  rw[M]at r;refine⟨rfl,cP (w_mTup.mpr (bC (hZ (xs:=(cJ bs).map D.int) (p:=λ_=>b8) (v:=λd=>PP ((mv z.1 z.2 (bK z.1)).getD (nI d).toNat (0,0))) (w_iSeq.mpr ⟨_,rfl,(eC (aI n q)).mpr ⟨jC (aI n q),rfl,by rw[X3,Yz];lia,λd μ' hd v=>w_mTrue.mpr ⟨rfl,Yp _⟩,λd μ' hd _ v=>?_,λμ' v X=>⟨_,rfl,BV,H _ _ _ (K.trans (J.trans (n.trans v))) ?_ (aI v r)⟩⟩⟩))))⟩
  .obtain⟨i,u,rfl⟩:=Yw.mp hd;have y:0<=i/\i.toNat<(mv z.1 z.2 (bK z.1)).length:=by unfold cJ at u;obtain⟨j,Y,rfl⟩:=Yw.mp u;have:=Zq.mp (Zu.mp Y).1;rw[I]at this;exact⟨by lia,by lia⟩
   have O:i=((i.toNat:Nat):Int):=by lia
   refine bU rfl rfl ⟨(PP ((mv z.1 z.2 (bK z.1)).getD i.toNat (0,0)),μ'),?_,rfl,Yp _⟩;show aG (.loc a) (.int i) μ'=b4 (PP ((mv z.1 z.2 (bK z.1)).getD i.toNat (0,0)),μ');rw[O];exact mP (aI (n.trans v) p) y.2
  .rw[X,a1H.mpr (λ_ _=>rfl),Yu];have e:=congrArg (a8t PP) (Wr (es:=mv z.1 z.2 (bK z.1)) (aL ms));rw[hbs,Yu]at e;exact congrArg (λl=>b4 (C.lst l)) e
noncomputable def Kp(l:Nat)(a μ':Hm):Prop:=∀j y,j≠l->a[j]?=b4 y->μ'[j]?=b4 y
theorem Kp.pre{a μ':Hm}(p:a<+:μ'):Kp l a μ':=λ_ _ _ h=>aI p h
theorem Kp.trans(a:Kp l d μ')(b:Kp l μ' c):Kp l d c:=λj y n h=>b j y n (a j y n h)
theorem Kp.set:Kp l a (a.set l x):=λj y n h=>by rw[Yx (YW n)];exact h
theorem Kp.all{b:Hm}(a:Kp l c μ')(p:b<+:c)(h:b.length<=l):b<+:μ':=by refine List.prefix_iff_getElem?.mpr λi d=>?_;exact a i _ (by lia) (aI p (Yg d))
theorem Wu(n:aA 0 l j=b4 (SH w h ms,j))(q:∀e s μ',aA v (l++[b4 (PP e),b4 (.str s)]) μ'=b4 (PP e,μ'))(r:ms.length<=1000){Q:jz}(H:∀c μ',j<+:μ'->μ'[c]?=b4 (.lst ((ms.map (·.1)).map PP))->j.length<=c->Q (.loc c,μ')):W (eE (jR 2) (cI (aC aG (aA 0) (mC (.int 2)))) dH (aA v) l j) Q:=by
 refine tI (xs:=ms.map MD) (x:=λd=>match d with|.tup [a,b]=>[b4 a,b4 b]|_=>[]) (p:=λ_=>b8) (v:=λd=>match d with|.tup [a,_]=>a|_=>.non) (w_iSeq.mpr (bU n rfl (w_it32.mpr ⟨_,rfl,λμ' i k=>rfl,rfl,by rw[X3,Yz];lia,λd μ' hd=>?_,λd μ' hd k=>w_mTrue.mpr ⟨rfl,Yp _⟩,λd μ' hd _ k=>?_,λμ' k p=>H _ _ k ?_ (Yd _)⟩)))
 .obtain⟨e,o,rfl⟩:=Yw.mp hd;rfl
 .obtain⟨e,o,rfl⟩:=Yw.mp hd;exact⟨_,q e.1 e.2 μ',rfl,Yp _⟩
 .rw[p,a1H.mpr (λ_ _=>rfl),Yu,Yu];rfl
inductive LtI (w h:Int)(ms:List ((Int×Int)×Str))(c l:Nat)(ν:Hm):Nat->aE->Hm->Prop
 |mk {i:Nat}{x3 x4 x5 x6 x7:Option D}{μ:Hm}(kp:Kp l ν μ)(g:μ[l]?=b4 (.lst ((((bH w h).take i).flatMap (gM (aL ms))).map dM))):LtI w h ms c l ν i [b4 (SH w h ms),b4 (.loc c),b4 (.loc l),x3,x4,x5,x6,x7] μ
noncomputable def xA:D->Int
 |.tup [.int i,.int g]=>g*(1-2*(i%2))|_=>0
noncomputable def B8(a:List Int):Int:=((iS 0 (a.map D.int)).map xA).sum
noncomputable def xB(a:List Int):Bool:=(a.length:Int)%2==1||!(B8 a==0)
theorem Wv:∀a b c d e g h i,xB (eU [a,b,c,d,e,g,h,i])=!(fA (eU [a,b,c,d,e,g,h,i])):=by decide +kernel
theorem Ww:∀a b c d,xB (eU [a,b,c,d])=!(fA (eU [a,b,c,d])):=by decide +kernel
theorem Wx m p:xB (dD m p)=bW m p:=by
 unfold bW dD bK mv;split
 .exact Wv ..
 .exact Ww ..
noncomputable def Wz:D->aE
 |.tup [a,b]=>[b4 a,b4 b]|_=>[]
theorem WA(p:aA 3 n j=b4 (.loc a,j))(l:∃x y z t,n=[x,y,z,t])(g:j[a]?=b4 (.lst (b.map D.int)))(u:b.length<=8)(q:∀x∈b,-100<=x/\x<=100){Q:jz}(H:∀μ',j<+:μ'->Q (.int (B8 b),μ')):
  W (aF kW (aB (eE (jR 2) (pL (aB (aA 3) aD)) dH (aC eV (aA 5) (aC jP (mC (.int 1)) (aC eV (mC (.int 2)) (aC bY (aA 4) (mC (.int 2))))))) aD) n j) Q:=by
 obtain⟨x,y,z,t,rfl⟩:=l;refine Vu (tI (xs:=iS 0 (b.map D.int)) (x:=Wz) (p:=λ_=>b8) (v:=λd=>.int (xA d)) (Uv (bC ⟨_,p,_,rfl,a,_,rfl,g,Uw g,by rw[BH],by rw[BH,X3,Yz];lia,λd μ' hd=>?_,λd μ' hd k=>w_mTrue.mpr ⟨rfl,Yp _⟩,λd μ' hd _ k=>?_,λμ' k c=>?_⟩)))
 .obtain⟨i,h⟩:=a6E hd;rw[wU]at h;obtain⟨e,_,rfl⟩:=X5.mp h;rfl
 .obtain⟨i,h⟩:=a6E hd;rw[wU]at h;obtain⟨e,o,rfl⟩:=X5.mp h;rw[Yo]at o;obtain⟨v,r,rfl⟩:=X5.mp o;have s:=q v (Ze r);exact bF ⟨_,rfl,bF ⟨_,rfl,bF ⟨_,rfl,bU rfl rfl (w_mod2.mpr (w_mul2.mpr (w_subI.mpr ((tE (.inl (by lia))).mpr ⟨rfl,Yp _⟩))))⟩⟩⟩
 .rw[a1H.mpr (λ_ _=>rfl)]at c;have e:(iS 0 (b.map D.int)).map (λd=>D.int (xA d))=((iS 0 (b.map D.int)).map xA).map D.int:=by rw[Yu];rfl
  rw[e]at c;exact(BG c).mpr (H _ k)
theorem WB:∀a b c d e g h i,∀x∈eU [a,b,c,d,e,g,h,i],-100<=x/\x<=100:=by decide +kernel
theorem WC:∀a b c d,∀x∈eU [a,b,c,d],-100<=x/\x<=100:=by decide +kernel
theorem WD m p:∀x∈dD m p,-100<=x/\x<=100:=by
 unfold dD bK mv;split
 .exact WB _ _ _ _ _ _ _ _
 .exact WC _ _ _ _
theorem WE k{h:Hm}(hz:cT p=b8)(v:h[c]?=b4 (.lst ((ms.map (·.1)).map PP)))(l:bW (aL ms) p=b8->∀x μ',h<+:μ'->R (.rt (PP p),[i,b4 (.loc c),b4 (PP p),x],μ'))(s:bW (aL ms) p=b7->∀x μ',h<+:μ'->R (.nx,[i,b4 (.loc c),b4 (PP p),x],μ')):W (BM (k+1) [i,b4 (.loc c),b4 (PP p),x] h) R:=by
 refine bO (bF (aS rfl (Wt k hz v _ λa b e j _ n=>⟨_,rfl,w_it21.mpr ?_⟩)));have z:=qJ (aL ms) p;have y:=tL (aL ms) p;have u:cF [.loc b] e=b4 (.int ((dD (aL ms) p).length:Nat),e):=bZ ((fY n).mpr (by rw[X3]));have d:=Wx (aL ms) p;unfold xB at d;refine w_mIfS.mpr (w_mOrT.mpr ⟨_,bZ (r:=(((dD (aL ms) p).length:Int)%2==1,e)) (eI (bF (bF (aS rfl (bT u ⟨_,rfl,w_mod2.mpr ⟨_,rfl,w_eqI.mpr ⟨_,rfl,rfl⟩⟩⟩))))),?_⟩);cases o:((dD (aL ms) p).length:Int)%2==1 with
 |true=>rw[o,Bool.true_or]at d;exact(if_pos rfl).mpr ((if_pos rfl).mpr (w_mRet.mpr ⟨_,rfl,l d.symm _ _ j⟩))|false=>
  rw[o,a8L]at d;refine(if_neg Yj).mpr (eI (bF (WA rfl ⟨_,_,_,_,rfl⟩ n (by lia) (WD _ _) λw r=>⟨_,rfl,w_neI.mpr ⟨_,rfl,?_⟩⟩)));cases q:B8 (dD (aL ms) p)==0 with
  |true=>rw[q]at d;exact(if_neg Yj).mpr (w_mNext.mpr (s d.symm _ _ (j.trans r)))|false=>rw[q]at d;exact(if_pos rfl).mpr (w_mRet.mpr ⟨_,rfl,l d.symm _ _ (j.trans r)⟩)
inductive LbI (w h:Int)(ms:List ((Int×Int)×Str))(c:Nat)(ν:Hm):Nat->aE->Hm->Prop
 |mk {i:Nat}{x y:Option D}{μ:Hm}(p:ν<+:μ)(ok:∀z∈(bH w h).take i,bW (aL ms) z=b7):LbI w h ms c ν i [b4 (SH w h ms),b4 (.loc c),x,y] μ
theorem WG k(hw:1<=w/\w<=6)(B:1<=h/\h<=6)(E:ms.length<=1000)(q:Hm)(Q:jz)(H:∀μ',q<+:μ'->Q (Ij ((bH w h).find? (bW (aL ms))),μ')):W (f (k+2) "_law_barred" [SH w h ms] q) Q:=by
 refine cL (Vn (k+1) _ q) ?_;refine bO (Wu rfl (λ_ _ _=>rfl) E λc a I A hc=>?_);refine w_mSeq.mpr (w_mForI.mpr (w_iSeq.mpr (aS rfl (Wg k hw B ms _ _ ((eC (bB _ _)).mpr ?_)))));have u:=aI (aR a (C.lst ((bH w h).map PP))) A;have v:=bB a (C.lst ((bH w h).map PP));have o:=I.trans (aR a (C.lst ((bH w h).map PP)));generalize a++[C.lst ((bH w h).map PP)]=μ2 at u v o ⊢;refine k9 (b:=BM (k+1)) (LbI w h ms c μ2) (.mk (Yp _) λz b=>by simp at b) (by rintro _ _ _ ⟨p,_⟩;exact aI p v) ?_ ?_
 .rintro i d J r hd ⟨j,ok⟩;obtain⟨z,b,rfl⟩:=qH hd;refine⟨_,rfl,WE k (Zu.mp (Ze b)).2 (aI j u) (λl x s n=>?_) λl x s n=>.mk (j.trans n) (Ik ok b l)⟩;have e:=Ih (q:=bW (aL ms)) (Ii b) ok l;rw[e]at H;exact H _ (o.trans (j.trans n))
 .rintro J r ⟨j,ok⟩;rw[X3,Z8]at ok;have e:(bH w h).find? (bW (aL ms))=none:=a0E.mpr λy G=>by rw[ok y G];exact Yj
  rw[e]at H;exact cP ⟨_,rfl,H _ (o.trans j)⟩
noncomputable def fZ(ns:List Int)(i:Int):Int:=if i<ns.length then ns.getD i.toNat 0 else 0
theorem Iv k ns(b:0<=i)a(Q:jz)(H:Q (.int (fZ ns i),a)):W (f (k+1) "_law_nth" [.rol (ns.map D.int),.int i] a) Q:=by
 refine cL (Vk k _ _ a) (cP (w_mIfE.mpr ⟨_,bZ (r:=(decide (i<ns.length),a)) (eI (bF ⟨_,rfl,aS rfl (w_lenR.mpr (w_ltI.mpr ⟨_,rfl,by rw[X3]⟩))⟩)),?_⟩));unfold fZ at H;by_cases h:i<ns.length
 .rw[if_pos h]at H;rw[decide_eq_true h];exact(if_pos rfl).mpr (bU rfl rfl ((Vz (Vy b h)).mpr H))
 .rw[if_neg h]at H;rw[decide_eq_false h];exact(if_neg Yj).mpr ⟨_,rfl,H⟩
theorem Iw(nd:(l.map (·.1)).Nodup)(h:(k,d)∈l):aT l k=b4 d:=by
 induction l with
 |nil=>cases h|cons p l a=>
  rw[Yk,YT]at nd;unfold aT;rw[Zv];rcases YN.mp h with h|h
  .rw[<- h];simp
  .have:decide (p.1=k)=false:=decide_eq_false λz=>nd.1 (Yw.mpr ⟨_,h,z.symm⟩);rw[this];exact a nd.2 h
theorem lF(h:aY p=aY q):p=q:=by unfold aY at h;injection h with h1 h2;injection h2 with h2;exact a0S h1 h2
theorem tQ{a:Type}{l:List a}{x:a}(h:l[n]?=b4 x):l.take (n+1)=l.take n++[x]:=by rw[List.take_add_one,h];rfl
theorem Iy{c:Type}{l:List c}(nd:l.Nodup){x:c}(h:l[n]?=b4 x):x∉l.take n:=λi=>by
 obtain⟨j,a⟩:=a0G.mp i;have b:j<n:=by have:=(X8.mp a).1;rw[Zs]at this;lia
 rw[a5O b]at a;have k:n<l.length:=(X8.mp h).1;have d:=(X8.mp a).2;have e:=(X8.mp h).2;exact absurd ((a7O nd).mp (d.trans e.symm)) (by lia)
noncomputable def jG(p:Int×Int):Bool:=if p.1%2==1 then p.2%2==1 else p.2%2==0&&!(p.1%4==p.2%4)
theorem mQ(i:a h e=b4 (.bl c,e))(j:b h e=b4 (.bl d,e)):eL a b h e=b4 (.bl (c&&d),e):=bZ (w_mAndV.mpr ⟨_,i,by
 cases c with
 |true=>exact(if_pos rfl).mpr ⟨_,j,rfl⟩
 |false=>exact(if_neg Yj).mpr rfl⟩)
theorem Iz k p a(Q:jz)(H:Q (.bl (jG p),a)):W (f (k+1) "is_edge" [PP p] a) Q:=by
 unfold jG at H;refine cL (UL k _ a) (tJ (b:=p.1%2==1) (μ':=a) (by kernel_rfl) (λh=>w4 (bT (r:=(.bl (p.2%2==1),a)) (by kernel_rfl) ?_)) λh=>mK (cP (bT (mQ (c:=p.2%2==0) (d:=!(p.1%4==p.2%4)) (by kernel_rfl) (by kernel_rfl)) ?_)))
 .rw[h]at H;exact H
 .rw[h]at H;exact H
theorem WH k(hw:1<=w/\w<=6)(n:1<=h/\h<=6)(c:Hm)(Q:jz)(H:∀a μ',c<+:μ'->μ'[a]?=b4 (.lst (((fF w h).filter jG).map PP))->Q (.loc a,μ')):W (f (k+2) "edges_in" [.int w,.int h] c) Q:=by
 refine cL (US (k+1) _ _ c) (cP (hZ (xs:=(fF w h).map PP) (p:=λd=>jG (e8 d)) (v:=λd=>d) (w_iSeq.mpr (aS rfl (HN _ w h (by lia) (by lia) _ _ λa l j e o=>?_)))));refine(eC e).mpr ⟨jC e,rfl,?_,λd μ' hd b=>?_,λd μ' hd _ b=>⟨_,rfl,rfl,Yp _⟩,λμ' b i=>?_⟩
 .have:=BY (w:=w) (h:=h) (by lia) (by lia);rw[X3,Yz];lia
 .obtain⟨u,v,rfl⟩:=qG hd;exact iA (aS rfl (Iz k (u,v) _ _ ⟨rfl,rfl,Yp _⟩))
 .refine H _ _ (j.trans b) ?_;rw[i,BW jG]
noncomputable def xC(a:List Int):Nat:=if a.length=2 then 1 else((YR a.length).map λi=>if qI a i then(if a.length=4 then 2 else 1)else 0).sum
theorem WI:∀a b c d e g h i,fA (eU [a,b,c,d,e,g,h,i])=b8->2*xC (eU [a,b,c,d,e,g,h,i])<=(eU [a,b,c,d,e,g,h,i]).length:=by decide +kernel
theorem WJ:∀a b c d,fA (eU [a,b,c,d])=b8->2*xC (eU [a,b,c,d])<=(eU [a,b,c,d]).length:=by decide +kernel
theorem WK m p:(gM m p).length=xC (dD m p):=by
 have e:=qJ m p;unfold gM xC;rw[e];by_cases h:(cV m p).length=2
 .rw[if_pos h,if_pos h];rfl
 .rw[if_neg h,if_neg h,a6M];congr 1;refine ZQ λi _=>?_;unfold iT mO;cases qI (dD m p) i with
  |false=>rfl|true=>
   by_cases a:(cV m p).length=4
   .rw[if_pos rfl,if_pos a,if_pos rfl,if_pos a];rfl
   .rw[if_pos rfl,if_neg a,if_pos rfl,if_neg a];rfl
theorem WL(h:bW m p=b7):2*(gM m p).length<=(cV m p).length:=by
 have e:=qJ m p;rw[WK,<- e];replace h:fA (dD m p)=true:=by
  unfold bW at h;cases z:fA (dD m p)with
  |true=>rfl|false=>rw[z]at h;cases h
 revert h;unfold dD bK mv;split
 .exact WI _ _ _ _ _ _ _ _
 .exact WJ _ _ _ _
noncomputable def tR(e:Int×Int):jq:=if e.1%2=1 then(if(e.1-e.2)%4=0 then[(e.1-1,e.2-1),(e.1+1,e.2+1)]else[(e.1+1,e.2-1),(e.1-1,e.2+1)])else if e.1%4=0 then[(e.1,e.2-2),(e.1,e.2+2)]else[(e.1-2,e.2),(e.1+2,e.2)]
theorem WM e:(tR e).length=2:=by
 unfold tR;split
 .split<;>rfl
 .split<;>rfl
theorem WN(hc:cT c=b8)(d:e∈mv c.1 c.2 (bK c.1)):c∈tR e:=by
 obtain⟨s,a,rfl⟩:=Yw.mp d;obtain⟨x,y⟩:=c;unfold cT at hc;simp only[X4,beq_iff_eq]at hc;unfold bK E8 F4 at a;have one:∀{z b:Int×Int},(x,y)=z->(x,y)∈[z,b]:=λh=>by rw[h];exact .head _
 have two:∀{z b:Int×Int},(x,y)=z->(x,y)∈[b,z]:=λh=>by rw[h];exact .tail _ (.head _)
 unfold tR;dsimp only at a ⊢;split at a<;>simp only[YN,Z0,or_false]at a
 .rcases a with rfl|rfl|rfl|rfl|rfl|rfl|rfl|rfl<;>dsimp only
  .rw[if_neg (by lia),if_neg (by lia)];exact one (a0S (by dsimp only;lia) (by dsimp only;lia))
  .rw[if_pos (by lia),if_pos (by lia)];exact one (a0S (by dsimp only;lia) (by dsimp only;lia))
  .rw[if_neg (by lia),if_pos (by lia)];exact one (a0S (by dsimp only;lia) (by dsimp only;lia))
  .rw[if_pos (by lia),if_neg (by lia)];exact one (a0S (by dsimp only;lia) (by dsimp only;lia))
  .rw[if_neg (by lia),if_neg (by lia)];exact two (a0S (by dsimp only;lia) (by dsimp only;lia))
  .rw[if_pos (by lia),if_pos (by lia)];exact two (a0S (by dsimp only;lia) (by dsimp only;lia))
  .rw[if_neg (by lia),if_pos (by lia)];exact two (a0S (by dsimp only;lia) (by dsimp only;lia))
  .rw[if_pos (by lia),if_neg (by lia)];exact two (a0S (by dsimp only;lia) (by dsimp only;lia))
 .rcases a with rfl|rfl|rfl|rfl<;>dsimp only
  .rw[if_pos (by lia),if_pos (by lia)];exact one (a0S (by dsimp only;lia) (by dsimp only;lia))
  .rw[if_pos (by lia),if_neg (by lia)];exact one (a0S (by dsimp only;lia) (by dsimp only;lia))
  .rw[if_pos (by lia),if_pos (by lia)];exact two (a0S (by dsimp only;lia) (by dsimp only;lia))
  .rw[if_pos (by lia),if_neg (by lia)];exact two (a0S (by dsimp only;lia) (by dsimp only;lia))
theorem IA:∀{l:jq},l.Nodup->(l.filter λp=>e==p||m p).length<=(if e∈l then 1 else 0)+(l.filter m).length
 |[],_=>Yd _|x::l,h=>by
  have c:=IA (e:=e) (m:=m) (YT.mp h).2;have b:=(YT.mp h).1;rw[a1B,a1B];by_cases a:e=x
  .rw[if_pos (by rw[a];simp),if_pos (by rw[a];exact .head _)];rw[if_neg (by rw[a];exact b)]at c;split<;>(try simp only[YB])<;>lia
  .have:(e∈x::l)↔e∈l:=by simp[a]
   rw[show(e==x||m x)=m x by simp[a]];simp only[this];split<;>(try simp only[YB])<;>lia
theorem IB:∀{a:jq},(∀c∈a,cT c=b8)->(a.map λc=>if e∈mv c.1 c.2 (bK c.1)then 1 else 0).sum<=(a.filter λc=>decide (c∈tR e)).length
 |[],_=>Yd _|c::a,h=>by
  have b:=IB (e:=e) λc hc=>h c (.tail _ hc);rw[Yk,a1O,a1B];by_cases hc:e∈mv c.1 c.2 (bK c.1)
  .rw[if_pos hc,if_pos (decide_eq_true (WN (h c (.head _)) hc)),YB];lia
  .rw[if_neg hc];split<;>(try simp only[YB])<;>lia
theorem WO{a:jq}(nd:a.Nodup)(h:∀c∈a,cT c=b8):(a.map λc=>if e∈mv c.1 c.2 (bK c.1)then 1 else 0).sum<=2:=by refine Y6 (IB h) (WM e▸ZX (nd.sublist List.filter_sublist) λc hc=>?_);exact of_decide_eq_true (Zu.mp hc).2
theorem xD{c:Type}{a b:c->Nat}:∀{l:List c},(∀x∈l,a x<=b x)->(l.map a).sum<=(l.map b).sum
 |[],_=>Yd _|x::l,h=>by have:=xD λy d=>h y (.tail _ d);have:=h x (.head _);rw[Yk,Yk,a1O,a1O];lia
theorem B9{c:Type}{a b:c->Nat}:∀l:List c,(l.map λx=>a x+b x).sum=(l.map a).sum+(l.map b).sum
 |[]=>rfl|x::l=>by have:=B9 (a:=a) (b:=b) l;rw[Yk,Yk,Yk,a1O,a1O,a1O];lia
theorem IC{a:jq}(nd:a.Nodup)(h:∀c∈a,cT c=b8):∀es:jq,(a.map λc=>(cV (λp=>es.any λq=>q==p) c).length).sum<=2*es.length
 |[]=>by
  refine Y6 (xD (b:=λ_=>0) λc _=>?_) ?_
  .unfold cV;rw[show(λp:Int×Int=>([]:jq).any λq=>q==p)=λ_=>b7 from rfl];simp
  .clear h nd;induction a with
   |nil=>exact Yd _|cons _ _ b=>rw[Yk,a1O];lia
 |e::es=>by
  have b:=IC nd h es;have d:=WO (e:=e) nd h;refine Y6 (xD (b:=λc=>(if e∈mv c.1 c.2 (bK c.1)then 1 else 0)+(cV (λp=>es.any λq=>q==p) c).length) λc _=>?_) ?_
  .exact IA (B0 _ _ (B1 _))
  .rw[B9,YB];lia
theorem WQ:∀w∈[(1:Int),2,3,4,5,6],∀h∈[(1:Int),2,3,4,5,6],(bH w h).Nodup:=by decide +kernel
theorem WR(hw:1<=w/\w<=6)(i:1<=h/\h<=6)(e:(bH w h).find? (bW (aL ms))=b6):(iB (aL ms) w h).length<=ms.length:=by
 have b:∀{z:Int},1<=z/\z<=6->z∈[(1:Int),2,3,4,5,6]:=λ{z} j=>by
  have:z=1\/z=2\/z=3\/z=4\/z=5\/z=6:=by lia
  simpa using this
 have nd:=WQ w (b hw) h (b i);have a:=IC nd (λc hc=>(Zu.mp hc).2) (ms.map (·.1));rw[X3]at a;have d:((bH w h).map λc=>(gM (aL ms) c).length+(gM (aL ms) c).length).sum<=((bH w h).map λc=>(cV (aL ms) c).length).sum:=xD λc hc=>by
  have:=WL (m:=aL ms) (p:=c) (by
   have:=a0E.mp e c hc;cases z:bW (aL ms) c with
   |false=>rfl
   |true=>exact absurd z this)
  lia
 rw[B9]at d;unfold iB;rw[a6M];have:((bH w h).map λc=>(cV (aL ms) c).length).sum<=2*ms.length:=a;lia
theorem WS{b:MS}(I:Nat->aE->Hm->Prop)(v:∀m a i,I m a i->W (c a i) λp=>if p.1=b8 then W (b a p.2) λq=>match q.1 with
   |.nx=>∃e,e<m/\I e q.2.1 q.2.2|.ct=>∃e,e<m/\I e q.2.1 q.2.2|.bk=>Q (.nx,q.2.1,q.2.2)
   |.rt d=>Q (.rt d,q.2.1,q.2.2)else Q (.nx,a,p.2)):∀n m a i,m<n->I m a i->W (nC c b n a i) Q:=by
 intro n;induction n with
 |zero=>intro m a i h;lia|succ n o=>
  intro m a i A u;unfold nC;rw[W_bind];refine bA (v m a i u) λp l=>?_;obtain⟨w,x⟩:=p;cases w with
  |false=>exact W_some.mpr (by simpa using l)|true=>
   simp only[if_true]at l;dsimp only;rw[W_bind];refine bA l λq j=>?_;obtain⟨r,z,y⟩:=q;cases r with
   |nx=>obtain⟨e,s,k⟩:=j;exact o e _ _ (by lia) k|ct=>obtain⟨e,s,k⟩:=j;exact o e _ _ (by lia) k|bk=>exact W_some.mpr j|rt d=>exact W_some.mpr j
theorem ID{b:MS}(I:Nat->aE->Hm->Prop)m(j:m<1000000000)(i:I m a e)(k:∀m a e,I m a e->W (c a e) λp=>if p.1=b8 then W (b a p.2) λq=>match q.1 with
   |.nx=>∃h,h<m/\I h q.2.1 q.2.2|.ct=>∃h,h<m/\I h q.2.1 q.2.2|.bk=>Q (.nx,q.2.1,q.2.2)
   |.rt d=>Q (.rt d,q.2.1,q.2.2)else Q (.nx,a,p.2)):W (o7 pX c b a e) Q:=by
 unfold o7;exact WS I k pX m a e (by unfold pX;exact j) i
theorem mem_pl:p∈fF w h↔(0<p.1/\p.1<4*w)/\0<p.2/\p.2<4*h:=by
 unfold fF lE mL;rw[a3q];constructor
 .rintro⟨i,a,c⟩;obtain⟨j,b,rfl⟩:=Yw.mp c;have:=Zq.mp a;have:=Zq.mp b;dsimp only;lia
 .intro⟨d,e⟩;refine⟨(p.1-1).toNat,Zq.mpr (by lia),Yw.mpr ⟨(p.2-1).toNat,Zq.mpr (by lia),a0S ?_ ?_⟩⟩<;>dsimp only<;>lia
noncomputable def Cb(w h:Int)(p:Int×Int):Prop:=p∈(fF w h).filter jG
theorem IE(h:a e d=b4 (.int x,d))(i:b e d=b4 (.int y,d))(hc:c e d=b4 (.int z,d)):i9 gD gD a b c e d=b4 (.bl (decide (x<y)&&decide (y<z)),d):=bZ (w_mChain.mpr ⟨_,h,_,i,w_ltI.mpr (by
 show if _ then _ else _
 cases decide (x<y)with
 |true=>exact(if_pos rfl).mpr ⟨_,hc,w_ltI.mpr rfl⟩
 |false=>exact(if_neg Yj).mpr rfl)⟩)
theorem tS(h:m c a=b4 (.bl b,a)):aP m c a=b4 (b,a):=bZ (eI ⟨_,h,_,rfl,rfl⟩)
theorem oF{g:MF}{ds:List D}(h:ms b a=b4 (ds,μ'))(e:g ds μ'=b4 r):aF g ms b a=b4 r:=bZ (aS h ⟨_,e,rfl⟩)
theorem tT(e:o=fin (aQ m b a))(h:m b a=b4 r):o=b4 r:=bZ (cL e (cP ⟨_,h,rfl⟩))
theorem Cd k i a:f (k+1) "is_whole" [.int i] a=b4 (.bl b8,a):=(Hx k _ a).trans (by kernel_rfl)
theorem IF k(h:1<=i/\i<=6)a:f (k+2) "is_size" [.int i] a=b4 (.bl b8,a):=tT (UO (k+1) _ a) (mQ (oF rfl (Cd k i a)) (bZ (w_mChain.mpr ⟨_,rfl,_,rfl,w_leI.mpr (by
 rw[decide_eq_true h.1];exact(if_pos rfl).mpr ⟨_,rfl,w_leI.mpr (by rw[decide_eq_true h.2])⟩)⟩)))
theorem WT k(hw:1<=w/\w<=6)(b:1<=h/\h<=6)a:f (k+3) "check_size" [.int w,.int h] a=b4 (.non,a):=bZ (cL (UP (k+2) _ _ a) (w_mIfS.mpr (qF (w_mAndT.mpr (iA (aS rfl (bT (IF k hw a) ⟨rfl,(if_pos rfl).mpr (iA (aS rfl (bT (IF k b a) ⟨rfl,(if_neg Yj).mpr (w_mNext.mpr rfl)⟩)))⟩)))))))
theorem WU k{s:Str}(h:s="o"\/s="h"\/s="v")a:f (k+1) "is_mark" [.str s] a=b4 (.bl b8,a):=by
 rcases h with rfl|rfl|rfl
 .exact(BU k _ a).trans (by kernel_rfl)
 .exact(BU k _ a).trans (by kernel_rfl)
 .exact(BU k _ a).trans (by kernel_rfl)
theorem WV k(l:Cb w h e)a:f (k+3) "is_inner_edge" [.int w,.int h,PP e] a=b4 (.bl b8,a):=by
 obtain⟨n,j⟩:=Zu.mp l;obtain⟨⟨b,c⟩,d,i⟩:=mem_pl.mp n;refine tT (UU (k+2) _ _ _ a) (mQ (d:=b8) (oF rfl (tT (UJ (k+1) _ a) (mQ (c:=b8) (d:=b8) (by kernel_rfl) (mQ (c:=b8) (d:=b8) (by kernel_rfl) (mQ (oF rfl (Cd k _ a)) (oF rfl (Cd k _ a))))))) (mQ (c:=b8) (d:=b8) (oF rfl (tT (UQ (k+1) _ _ _ a) ?_)) (oF rfl (bZ (Iz (k+1) e a _ ?_)))))
 .refine mQ (c:=b8) (d:=b8) ?_ ?_
  .refine(IE (x:=0) (y:=e.1) (z:=4*w) rfl rfl rfl).trans ?_;rw[decide_eq_true b,decide_eq_true c];rfl
  .refine(IE (x:=0) (y:=e.2) (z:=4*h) rfl rfl rfl).trans ?_;rw[decide_eq_true d,decide_eq_true i];rfl
 .rw[j]
noncomputable def bQ(ms:List ((Int×Int)×Str)):jx:=ms.map λm=>(aY m.1,.str m.2)
theorem IG(h:p∉ms.map (·.1)):aT (bQ ms) (aY p)=none:=by
 unfold aT;rw[a0E.mpr]
 .rfl
 .intro x a;obtain⟨z,b,rfl⟩:=Yw.mp a;rw[decide_eq_true_iff];exact λe=>h (lF e▸Yw.mpr ⟨z,b,rfl⟩)
theorem Ce(h:m.1∉ms.map (·.1)):bS (bQ ms) (aY m.1) (.str m.2)=bQ (ms++[m]):=by unfold bS;rw[IG h,if_neg (by simp)];unfold bQ;rw[YC];rfl
theorem WW ms:∃S:List ((Int×Int)×Str),S.Perm ms/\(vQ (bQ ms)).map iN=S.map MD:=by
 refine⟨(cR (λi j=>HT.lexLt (((bQ ms).map (·.1)).getD i []) (((bQ ms).map (·.1)).getD j [])) (bQ ms).length).map λi=>ms.getD i ((0,0),""),?_,?_⟩
 .have p:=(jW (λi j=>HT.lexLt (((bQ ms).map (·.1)).getD i []) (((bQ ms).map (·.1)).getD j [])) (bQ ms).length).map λi=>ms.getD i ((0,0),"");have e:(bQ ms).length=ms.length:=X3 ..;rw[e,HX]at p;rw[e];exact p
 .unfold vQ;rw[Yu,Yu];refine ZQ λi a=>?_;have a:i<(bQ ms).length:=Zq.mp ((jW _ _).mem_iff.mp a);have a:i<ms.length:=by unfold bQ at a;rw[X3]at a;exact a
  unfold bQ;simp[a,MD,iN,aY,PP,P]
inductive SoI (w h:Int)(a l:Nat)(ν:Hm)(ms:List ((Int×Int)×Str)):Nat->aE->Hm->Prop
 |mk {i:Nat}{x y:Option D}{μ:Hm}(p:ν<+:μ)(g:μ[l]?=b4 (.dT (bQ (ms.take i)))):SoI w h a l ν ms i [b4 (.int w),b4 (.int h),b4 (.loc a),b4 (.loc l),x,y] μ
theorem WX k{m:(Int×Int)×Str}(d:Cb w h m.1)(e:m.2="o"\/m.2="h"\/m.2="v")(c:m.1∉ms.map (·.1))(i:ms.length<=900)(g:b[l]?=b4 (.dT (bQ ms)))(H:∀y,R (.nx,[b4 (.int w),b4 (.int h),b4 (.loc a),b4 (.loc l),b4 (MD m),y],b.set l (.dT (bQ (ms++[m]))))):W (BN (k+3) [b4 (.int w),b4 (.int h),b4 (.loc a),b4 (.loc l),b4 (MD m),y] b) R:=by
 refine bO ⟨_,rfl,wZ (qF (iA (aS rfl (bT (WV k d b) ⟨rfl,rfl,mK (wZ (qF (iA (aS rfl (bT (WU (k+2) e b) ⟨rfl,rfl,mK (wZ (eI (bU rfl rfl ((wW g (fG m.1)).mpr ?_))))⟩)))))⟩))))⟩;rw[IG c];refine⟨_,rfl,rfl,mK (w_mPut.mpr ⟨_,rfl,_,rfl,_,rfl,(wX g (fG m.1) (by unfold bQ;rw[X3,Yz];lia)).mpr ?_⟩)⟩;rw[Ce c];exact H _
theorem WY k(hw:1<=w/\w<=6)(u:1<=h/\h<=6){ms:List ((Int×Int)×Str)}(v:ms.length<64)(nd:(ms.map (·.1)).Nodup)(s:∀m∈ms,Cb w h m.1)(ok:∀m∈ms,m.2="o"\/m.2="h"\/m.2="v"){b:Hm}(o:b[a]?=b4 (.lst (ms.map MD)))(Q:jz)(H:∀S c,b<+:c->S.Perm ms->Q (SH w h S,c)):W (f (k+4) "sheet_of" [.int w,.int h,.loc a] b) Q:=by
 refine cL (UW (k+3) _ _ _ b) (wY (aS rfl (bT (WT k hw u b) (bO (w_mDNewT.mpr (jE (w_mForI.mpr (w_iSeq.mpr ⟨_,rfl,(eC (aI (aR _ _) o)).mpr ?_⟩))))))));refine k9 (b:=BN (k+3)) (SoI w h a b.length b ms) (.mk (aR _ _) (by rw[a2g];exact bB _ _)) (by rintro _ _ _ ⟨p,_⟩;exact aI p o) ?_ ?_
 .rintro i d _ _ hd ⟨p,g⟩;rw[Yo]at hd;obtain⟨m,l,rfl⟩:=X5.mp hd;have n:=Ze l;refine⟨_,rfl,WX k (s m n) (ok m n) ?_ (by rw[Zs];lia) g λy=>.mk (dS p (Yd _) _) ?_⟩
  .have:=Iy nd (n:=i) (x:=m.1) (by rw[Yo,l];rfl);rw[<- a8J]at this;exact this
  .rw[fP g,tQ l]
 .rintro _ j ⟨p,g⟩;rw[X3,Z8]at g;obtain⟨S,q,r⟩:=WW ms;have e:vU (.loc b.length) j=b4 (.tup (S.map MD),j):=by simp only[vU,g];rw[if_pos (by first|exact trivial|(unfold bQ;rw[X3];lia)),r]
  exact⟨rfl,cP (w_mTup.mpr (bC ⟨_,rfl,bC ⟨_,rfl,bC (W_bind.mpr ⟨_,rfl,_,e,_,rfl,by show(3:Nat)<=Yi;decide,H _ _ p q⟩)⟩⟩))⟩
noncomputable abbrev Ed:=Int×Int
noncomputable abbrev St:=Ed×Ed×Bool×Ed
noncomputable def jH(s:St):St:=(s.2.1,s.1,s.2.2.1,s.2.2.2)
noncomputable def cQ(T:List St)(e:Ed):List St:=T.flatMap λt=>(if t.1=e then[t]else[])++if t.2.1=e then[jH t]else[]
theorem fr_mem:s∈cQ T e↔s.1=e/\(s∈T\/jH s∈T):=by
 unfold cQ;rw[a3q];constructor
 .rintro⟨t,b,a⟩;rcases YU.mp a with a|a
  .by_cases h:t.1=e
   .rw[if_pos h]at a;rw[YA.mp a];exact⟨h,.inl b⟩
   .rw[if_neg h]at a;cases a
  .by_cases h:t.2.1=e
   .rw[if_pos h]at a;rw[YA.mp a];exact⟨h,.inr b⟩
   .rw[if_neg h]at a;cases a
 .rintro⟨h,a|a⟩
  .exact⟨s,a,YU.mpr (.inl (by rw[if_pos h];exact .head _))⟩
  .exact⟨jH s,a,YU.mpr (.inr (by rw[if_pos (show(jH s).2.1=e from h)];exact .head _))⟩
inductive Rc (T:List St)(M:List Ed):List (Ed×Option St)->Prop
 |st:Rc T M (M.map λe=>(e,b6))
 |sn {R:List (Ed×Option St)}{s:St}(h:Rc T M R)(hs:s∈cQ T s.1)(h1:s.1∈R.map (·.1))(h2:s.2.1∉R.map (·.1)):Rc T M (R++[(s.2.1,b4 s)])
theorem xE(M:List Ed):(M.map λe=>(e,(b6:Option St))).map (·.1)=M:=by rw[Yu];exact a5Y _
theorem Rc.nd(c:M.Nodup)(h:Rc T M R):(R.map (·.1)).Nodup:=by
 induction h with
 |st=>rw[xE];exact c|sn h k j b i=>rw[YC];refine a0K.mpr ⟨i,YT.mpr ⟨Z0,.nil⟩,λx a y d e=>b ?_⟩;have:y=_:=YA.mp d;rw[e,this]at a;exact a
theorem Rc.up(h:Rc T M R):∀e o,(e,o)∈R->match o with|none=>e∈M|some s=>s.2.1=e/\s∈cQ T s.1/\s.1∈R.map (·.1)/\(R.map (·.1)).idxOf s.1<(R.map (·.1)).idxOf e:=by
 induction h with
 |st=>intro e o h;obtain⟨x,q,k⟩:=Yw.mp h;cases k;exact q|@sn R s h p j l r=>
  intro e o i;rw[YC];rcases YU.mp i with i|i
  .have:=r e o i;have n:e∈R.map (·.1):=Yw.mpr ⟨_,i,rfl⟩;cases o with
   |none=>exact this|some t=>obtain⟨a,b,c,d⟩:=this;refine⟨a,b,YU.mpr (.inl c),?_⟩;rw[a3g,a3g,if_pos c,if_pos n];exact d
  .cases YA.mp i;refine⟨rfl,p,YU.mpr (.inl j),?_⟩;rw[a3g,a3g,if_pos j,if_neg l];have:=a5N.mpr j;lia
inductive Wy (T:List St):Ed->List St->Ed->Prop
 |nil (e:Ed):Wy T e [] e
 |cons {s:St}{w:List St}{e:Ed}(hs:s∈cQ T s.1)(h:Wy T s.2.1 w e):Wy T s.1 (s::w) e
noncomputable def Cf(w:List St):Nat:=(w.filter λs=>!s.2.2.1).length
inductive Cn (T:List St):Ed->Ed->Prop
 |rf (e:Ed):Cn T e e
 |go {e:Ed}{s:St}(h:Cn T e s.1)(hs:s∈cQ T s.1):Cn T e s.2.1
noncomputable def bM(s:St):D:=.tup [PP s.1,PP s.2.1,.bl s.2.2.1,PP s.2.2.2]
theorem WZ kvs k k' d:aT (kvs.map λp=>if p.1=k then(p.1,d)else p) k'=if k'=k then(aT kvs k').map λ_=>d else aT kvs k':=by
 induction kvs with
 |nil=>split<;>rfl|cons x e b=>
  unfold aT at b ⊢;rw[Yk,Zv,Zv];have c:(if x.1=k then(x.1,d)else x).1=x.1:=by split<;>rfl
  rw[c];by_cases h:x.1=k'
  .rw[decide_eq_true h];by_cases a:x.1=k
   .rw[if_pos a,if_pos (h.symm.trans a)];rfl
   .rw[if_neg a,if_neg (λz=>a (h.trans z))]
  .rw[decide_eq_false h];exact b
theorem Cg kvs k k' d:aT (bS kvs k d) k'=if k'=k then b4 d else aT kvs k':=by
 unfold bS;by_cases h:(aT kvs k).isSome=b8
 .rw[if_pos h,WZ];by_cases e:k'=k
  .rw[if_pos e,if_pos e,e];obtain⟨v,b⟩:=Y2.mp h;rw[b];rfl
  .rw[if_neg e,if_neg e]
 .rw[if_neg h];have a:kvs.find? (λp=>decide (p.1=k))=none:=by
   unfold aT at h;cases z:kvs.find? (λp=>decide (p.1=k))with
   |none=>rfl|some v=>rw[z]at h;exact absurd rfl h
  unfold aT;rw[a7G];by_cases e:k'=k
  .rw[if_pos e,e,a];simp
  .rw[if_neg e];cases kvs.find? (λp=>decide (p.1=k'))with
   |some v=>rfl|none=>rw[Zv,decide_eq_false (λz=>e z.symm)];rfl
theorem IH kvs k d:(bS kvs k d).length<=kvs.length+1:=by
 unfold bS;split
 .rw[X3];lia
 .rw[Yr];exact Yd _
structure SD(ν:Hm)(κ:Nat)(μ:Hm)(a:Nat)(kvs:jx)(F:Ed->List St):Prop where
 pre:ν<+:μ
 la:ν.length<=a/\ν.length<=κ/\κ<=μ.length
 dic:μ[a]?=b4 (.dT kvs)
 no:∀e,aT kvs (aY e)=b6->F e=[]
 ats:∀e d,aT kvs (aY e)=b4 d->∃l,d=.loc l/\κ<=l/\μ[l]?=b4 (.lst ((F e).map bM))
 inj:∀e e' d,aT kvs (aY e)=b4 d->aT kvs (aY e')=b4 d->e=e'
theorem SD.more{μ':Hm}(h:SD ν κ μ a kvs F)(p:μ<+:μ'):SD ν κ μ' a kvs F:=⟨h.pre.trans p,⟨h.la.1,h.la.2.1,Y6 h.la.2.2 p.length_le⟩,aI p h.dic,h.no,λe d z=>(h.ats e d z).imp λl ⟨x,y,g⟩=>⟨x,y,aI p g⟩,h.inj⟩
noncomputable def iU(F:Ed->List St)(s:St):Ed->List St:=λx=>if x=s.1 then F x++[s]else F x
theorem SD.ne(h:SD ν κ μ a kvs F)(g:μ[l]?=b4 (.lst xs)):l≠a:=λz=>by have:=h.dic;rw[<- z,g]at this;cases this
theorem SD.old(h:SD ν κ μ a kvs F)(c:aT kvs (aY s.1)=b4 (.loc l)):SD ν κ (μ.set l (.lst ((F s.1).map bM++[bM s]))) a kvs (iU F s):=by
 obtain⟨p,e,j,g⟩:=h.ats _ _ c;cases e;refine⟨dS h.pre (Y6 h.la.2.1 j) _,⟨h.la.1,h.la.2.1,by rw[ZD];exact h.la.2.2⟩,by rw[Yx (h.ne g)];exact h.dic,λe b=>?_,λe d b=>?_,h.inj⟩
 .unfold iU;rw[if_neg λz=>by rw[z,c]at b;cases b];exact h.no e b
 .unfold iU;by_cases z:e=s.1
  .rw[if_pos z];rw[z,c]at b;cases b;exact⟨l,rfl,j,by rw[fP g,z,YC];rfl⟩
  .rw[if_neg z];obtain⟨k,i,o,n⟩:=h.ats _ _ b;refine⟨k,i,o,?_⟩;rw[Yx (λy:l=k=>z (h.inj _ _ _ (by rw[b,i,y]) c))];exact n
theorem SD.new(h:SD ν κ μ a kvs F)(u:aT kvs (aY s.1)=b6):SD ν κ (((μ++[C.lst []]).set a (.dT (bS kvs (aY s.1) (.loc μ.length)))).set μ.length (.lst [bM s])) a (bS kvs (aY s.1) (.loc μ.length)) (iU F s):=by
 have j:=aR μ (C.lst []);have lt:a<μ.length:=(X8.mp h.dic).1;have p:=h.pre.length_le;have A:=bB μ (C.lst []);refine⟨dS (dS (h.pre.trans j) h.la.1 _) p _,⟨h.la.1,h.la.2.1,by rw[ZD,ZD];exact Y6 h.la.2.2 j.length_le⟩,?_,λe b=>?_,λe d b=>?_,λe q d b c=>?_⟩
 .rw[Yx (by lia),fP (aI j h.dic)]
 .rw[Cg]at b;by_cases z:aY e=aY s.1
  .rw[if_pos z]at b;cases b
  .rw[if_neg z]at b;unfold iU;rw[if_neg λy=>z (congrArg aY y)];exact h.no e b
 .rw[Cg]at b;unfold iU;by_cases z:aY e=aY s.1
  .rw[if_pos z]at b;cases b;rw[if_pos (lF z)];refine⟨_,rfl,h.la.2.2,?_⟩;rw[YY (by rw[ZD,Yr];exact Z9 _),lF z,h.no _ u];rfl
  .rw[if_neg z]at b;rw[if_neg λy=>z (congrArg aY y)];obtain⟨o,n,r,i⟩:=h.ats _ _ b;refine⟨o,n,r,?_⟩;have w:o<μ.length:=(X8.mp i).1;rw[Yx (by lia),Yx (YW (h.ne i))];exact aI j i
 .have fresh:∀x,aT kvs (aY x)≠b4 (.loc μ.length):=λx v=>by obtain⟨o,n,_,i⟩:=h.ats _ _ v;cases n;exact absurd (X8.mp i).1 (ZM _)
  rw[Cg]at b c;by_cases z:aY e=aY s.1<;>by_cases k:aY q=aY s.1
  .exact(lF z).trans (lF k).symm
  .rw[if_pos z]at b;rw[if_neg k]at c;cases b;exact absurd c (fresh _)
  .rw[if_neg z]at b;rw[if_pos k]at c;cases c;exact absurd b (fresh _)
  .rw[if_neg z]at b;rw[if_neg k]at c;exact h.inj _ _ _ b c
theorem xF{kvs:jx}{f:D->List D->Hm->jk}{Q:jz}(d:c b μ=b4 (.loc a,μ))(hc:μ[a]?=b4 (.dT kvs))(h:W (ms b μ) λq=>W (f (.loc a) q.1 q.2) Q):W (gG f c ms b μ) Q:=by unfold gG;rw[d,Yy,show sD μ (.loc a)=b8 by simp only[sD,hc]];exact W_bind.mpr h
theorem II(y:∀μ,aA i n μ=b4 (.loc a,μ))(h1:∀μ,p n μ=b4 (PP s.1,μ))(v:∀μ,q n μ=b4 (bM s,μ))(J:SD ν κ μ a kvs F)(z:(F s.1).length<=900)(A:kvs.length<=900)(H:∀μ' h,SD ν κ μ' a h (iU F s)->h.length<=kvs.length+1->(∀b c,b<κ->b≠a->μ[b]?=b4 c->μ'[b]?=b4 c)->R (.nx,n,μ')):
  W (bI (dZ fW (gG iM (aA i) (aB p (aB (bV aD) aD))) (aB q aD)) n μ) R:=by
 have j:=aR μ (C.lst []);have lt:a<μ.length:=(X8.mp J.dic).1;refine w_mDrop.mpr (jD (xF (y μ) J.dic (bC ⟨_,h1 μ,bC ⟨_,rfl,_,rfl,?_⟩⟩)));have u:=aI j J.dic;cases k:aT kvs (aY s.1)with
 |some d=>
  obtain⟨l,rfl,B,g⟩:=J.ats _ _ k;have e:iM (.loc a) [PP s.1,.loc μ.length] (μ++[C.lst []])=b4 (.loc l,μ++[C.lst []]):=by simp only[iM,u,fG,Yy,k]
  refine⟨_,e,iR (aI j g),bC ⟨_,v _,_,rfl,(n9 (aI j g) (by rw[X3,Yz];lia)).mpr (H _ _ ((J.more j).old k) (a1w _) λb c x _ o=>?_)⟩⟩;rw[Yx (by lia)];exact aI j o
 |none=>
  have e:iM (.loc a) [PP s.1,.loc μ.length] (μ++[C.lst []])=b4 (.loc μ.length,(μ++[C.lst []]).set a (.dT (bS kvs (aY s.1) (.loc μ.length)))):=by simp only[iM,u,fG,Yy,k];rw[if_pos (by rw[Yz];lia)]
  have r:((μ++[C.lst []]).set a (.dT (bS kvs (aY s.1) (.loc μ.length))))[μ.length]?=b4 (.lst []):=by rw[Yx (by lia)];exact bB _ _
  refine⟨_,e,iR r,bC ⟨_,v _,_,rfl,(n9 r (by decide)).mpr (H _ _ (J.new k) (IH _ _ _) λb c x w o=>?_)⟩⟩;have:=J.la.2.2;rw[Yx (by lia),Yx (YW w)];exact aI j o
noncomputable def Ci(l:List Int):Ed:=(l.getD 0 0,l.getD 1 0)
noncomputable def W0(t:Ti):St:=(Ci t.1,Ci t.2.1,t.2.2.1,Ci t.2.2.2)
theorem IJ{a:Type}{l:List a}(h:i<l.length)d:l.getD i d∈l:=by rw[a5s,Yg h];exact a0U h
theorem IK(b:t∈iB m w h):∃p q a c,t=mM p q a c/\m p=b8/\m q=true:=by
 obtain⟨c,_,b⟩:=a3q.mp b;have d:∀{i:Nat},i<(cV m c).length->m ((cV m c).getD i (0,0))=true:=λe=>(Zu.mp (IJ e (0,0))).2;unfold gM at b;split at b
 .rename_i l;rw[YA.mp b];exact⟨_,_,_,_,rfl,d (by lia),d (by lia)⟩
 .obtain⟨i,e,b⟩:=a3q.mp b;have e:=Zq.mp e;have k:0<(cV m c).length:=by lia
  unfold iT at b;split at b
  .unfold mO at b;rcases YN.mp b with rfl|b
   .exact⟨_,_,_,_,rfl,d e,d (a2X _ k)⟩
   .split at b
    .rename_i j;rw[YA.mp b];exact⟨_,_,_,_,rfl,d (by rw[j];exact a2X _ (by decide)),d (by rw[j];exact a2X _ (by decide))⟩
    .cases b
  .cases b
theorem W2 p q:eJ p q=p\/eJ p q=q:=by
 unfold eJ;split
 .exact .inr rfl
 .exact .inl rfl
theorem W3 p q:eK p q=p\/eK p q=q:=by
 unfold eK;split
 .exact .inr rfl
 .exact .inl rfl
theorem xG p q:HT.lexLt (cU p) (cU q)=b8↔p.1<q.1\/p.1=q.1/\p.2<q.2:=by
 unfold cU;simp only[HT.lexLt];by_cases a:p.1<q.1
 .simp[a];lia
 .by_cases b:q.1<p.1
  .simp[a,b];lia
  .have:p.1=q.1:=by lia
   simp[this];lia
theorem W4(h:HT.lexLt (cU p) (cU q)=b8):HT.lexLt (cU q) (cU p)=false:=by
 cases z:HT.lexLt (cU q) (cU p)with
 |false=>rfl|true=>have:=(xG _ _).mp h;have:=(xG _ _).mp z;lia
theorem W5(h:HT.lexLt (cU p) (cU q)=b7)(g:HT.lexLt (cU q) (cU p)=b7):p=q:=by have h:¬ _:=λz=>Yj (h.symm.trans ((xG p q).mpr z));have g:¬ _:=λz=>Yj (g.symm.trans ((xG q p).mpr z));exact a0S (by lia) (by lia)
theorem W6 p q:eJ (eJ p q) (eK p q)=eJ p q/\eK (eJ p q) (eK p q)=eK p q/\eJ (eK p q) (eJ p q)=eJ p q/\eK (eK p q) (eJ p q)=eK p q:=by
 cases h:HT.lexLt (cU q) (cU p)with
 |true=>simp only[eJ,eK,h,W4 h,if_true,YH,if_false,and_self]|false=>
  cases g:HT.lexLt (cU p) (cU q)with
  |true=>simp only[eJ,eK,h,g,if_true,YH,if_false,and_self]|false=>cases W5 g h;simp only[eJ,eK,h,YH,if_false,and_self]
noncomputable def TT(ms:List ((Int×Int)×Str))(w h:Int):List St:=(kF (iB (aL ms) w h)).map W0
theorem rK(h:t∈kF ts):t∈ts:=by unfold kF at h;obtain⟨i,a,rfl⟩:=Yw.mp h;exact IJ (Zq.mp ((jW _ _).mem_iff.mp a)) _
theorem IL ts:(kF ts).length=ts.length:=by unfold kF;rw[X3,(jW _ _).length_eq,ZV]
theorem W7 ms w h:(kF (iB (aL ms) w h)).map dM=(TT ms w h).map bM:=by unfold TT;rw[Yu];refine ZQ λt b=>?_;obtain⟨p,q,a,c,rfl,_,_⟩:=IK (rK b);rfl
theorem IM(h:aL ms p=b8):p∈ms.map (·.1):=by obtain⟨x,a,e⟩:=a7P.mp h;rw[<- beq_iff_eq.mp e];exact a
theorem W8(i:t∈TT ms w h):(t.1∈ms.map (·.1)/\t.2.1∈ms.map (·.1))/\(eJ t.1 t.2.1=t.1/\eK t.1 t.2.1=t.2.1/\eJ t.2.1 t.1=t.1/\eK t.2.1 t.1=t.2.1):=by
 obtain⟨u,j,rfl⟩:=Yw.mp i;obtain⟨p,q,a,c,rfl,b,d⟩:=IK (rK j);have b:=IM b;have d:=IM d;refine⟨⟨?_,?_⟩,W6 p q⟩
 .show eJ p q∈_;rcases W2 p q with e|e<;>rw[e]<;>assumption
 .show eK p q∈_;rcases W3 p q with e|e<;>rw[e]<;>assumption
theorem IP k s a:f (k+1) "walked_back" [bM s] a=b4 (bM (jH s),a):=(U7 k _ a).trans (by kernel_rfl)
theorem W9 T t:cQ (T++[t])=iU (iU (cQ T) t) (jH t):=by
 funext e;unfold cQ iU;rw[a2I,a7F,List.flatMap_nil,Zw];show _=if e=t.2.1 then _ else _
 by_cases a:t.1=e<;>by_cases b:t.2.1=e
 .rw[if_pos a,if_pos b,if_pos b.symm,if_pos a.symm,a0u]
 .rw[if_pos a,if_neg b,if_neg (YW b),if_pos a.symm,Zw]
 .rw[if_neg a,if_pos b,if_pos b.symm,if_neg (YW a),a0v]
 .rw[if_neg a,if_neg b,if_neg (YW b),if_neg (YW a),Zw,Zw]
theorem Xa T e:(cQ T e).length<=2*T.length:=by refine tP (λt=>?_) T;rw[Yr];split<;>split<;>simp
inductive SfI (d0:Option D)(ν:Hm)(κ a b:Nat)(T:List St):Nat->aE->Hm->Prop
 |mk {i:Nat}{kvs:jx}{x:Option D}{μ:Hm}(J:SD ν κ μ a kvs (cQ (T.take i)))(hk:kvs.length<=2*i)(gb:μ[b]?=b4 (.lst (T.map bM))):SfI d0 ν κ a b T i [d0,b4 (.loc a),x] μ
theorem Cj{T:List St}{i:Nat}(h:(T.map bM)[i]?=b4 d):∃s,T[i]?=b4 s/\bM s=d:=by rw[Yo]at h;exact X5.mp h
theorem Xb k(hw:1<=w/\w<=6)(M:1<=h/\h<=6)(L:(bH w h).find? (bW (aL ms))=b6)(y:(iB (aL ms) w h).length<64)c(Q:jz)(H:∀κ μ' a kvs,SD c κ μ' a kvs (cQ (TT ms w h))->Q (.loc a,μ')):W (f (k+9) "steps_from" [SH w h ms] c) Q:=by
 have K:(TT ms w h).length<64:=by unfold TT;rw[X3,IL];exact y
 refine cL (U8 (k+8) _ c) (bO (w_mDNewT.mpr (jE (w_mForI.mpr (w_iSeq.mpr (aS rfl (Im (k+1) hw M L y _ _ λb l E r j=>?_)))))));rw[W7]at j;generalize TT ms w h=T at K j H;have q:=aI E (bB c (C.dT []));have u:b≠c.length:=λz=>by rw[z,q]at j;cases j
 have r:b<l.length:=(X8.mp j).1;have Z:c.length<l.length:=(X8.mp q).1;refine(eC j).mpr (k9 (SfI (b4 (SH w h ms)) c l.length c.length b T) (.mk (kvs:=[]) ⟨(aR _ _).trans E,⟨Yd _,by lia,Yd _⟩,q,λ_ _=>rfl,λ_ _ z=>(nomatch z),λ_ _ _ z=>(nomatch z)⟩ (Yd _) j) (by rintro _ _ _ ⟨_,_,g⟩;exact g) ?_ ?_)
 .rintro i d _ s hd ⟨J,N,x⟩;obtain⟨t,A,rfl⟩:=Cj hd;have Y:=(X8.mp A).1;have v:∀e,(cQ (T.take i) e).length<=130:=λe=>by have:=Xa (T.take i) e;rw[Zs]at this;lia
  refine⟨_,rfl,jE (II (i:=1) (s:=t) (λ_=>rfl) (λ_=>rfl) (λ_=>rfl) J (Y6 (v _) (by decide)) (by lia) λU B G O o=>⟨rfl,II (i:=1) (s:=jH t) (λ_=>rfl) (λ_=>rfl) (λμ'=>oF rfl (IP (k+7) t μ')) G ?_ (by lia) λX n I R p=>.mk (kvs:=n) ?_ (by lia) (p _ _ r u (o _ _ r u x))⟩)⟩
  .show(iU _ t _).length<=_;unfold iU;have:=v (jH t).1;split
   .rw[Yr];show _+1<=_;lia
   .lia
  .rw[tQ A,W9];exact I
 .rintro _ s ⟨J,N,x⟩;rw[X3,Z8]at J;exact⟨rfl,cP ⟨_,rfl,H _ _ _ _ J⟩⟩
noncomputable def mR(s:Str):Bool:=(jS BK (.inr s)).isSome
theorem Ck k s a:f (k+1) "is_marked" [.str s] a=b4 (.bl (mR s),a):=(U9 k _ a).trans (by kernel_rfl)
noncomputable def iV(ms:List ((Int×Int)×Str)):List Ed:=(ms.filter λm=>mR m.2).map (·.1)
theorem Xc k(o:ms.length<=1000)(j:Hm)(Q:jz)(H:∀a μ',j<+:μ'->μ'[a]?=b4 (.lst ((iV ms).map PP))->Q (.loc a,μ')):W (f (k+2) "marked_creases" [SH w h ms] j) Q:=by
 refine cL (Va (k+1) _ j) (cP (tI (xs:=ms.map MD) (x:=λd=>match d with|.tup [a,b]=>[b4 a,b4 b]|_=>[]) (p:=λd=>match d with|.tup [_,.str s]=>mR s|_=>b7) (v:=λd=>match d with|.tup [a,_]=>a|_=>.non) (w_iSeq.mpr (bU rfl rfl (w_it32.mpr ⟨_,rfl,λμ' i c=>rfl,rfl,by rw[X3,Yz];lia,λd μ' hd=>?_,λd μ' hd c=>?_,λd μ' hd _ c=>?_,λμ' c n=>H _ _ c ?_⟩)))))
 .obtain⟨e,l,rfl⟩:=Yw.mp hd;rfl
 .obtain⟨e,l,rfl⟩:=Yw.mp hd;exact iA (aS rfl (bT (Ck k e.2 μ') ⟨rfl,rfl,Yp _⟩))
 .obtain⟨e,l,rfl⟩:=Yw.mp hd;exact⟨_,rfl,rfl,Yp _⟩
 .rw[n,a2z,Yu];unfold iV;rw[Yu];rfl
noncomputable def rD:Option St->D
 |none=>.non|some s=>bM s
noncomputable def cD(R:List (Ed×Option St)):jx:=R.map λr=>(aY r.1,rD r.2)
theorem Xd R:(cD R).map (·.1)=(R.map (·.1)).map aY:=by unfold cD;rw[Yu,Yu];rfl
theorem Cm(nd:(R.map (·.1)).Nodup){e:Ed}(h:(e,o)∈R):aT (cD R) (aY e)=b4 (rD o):=Iw (by rw[Xd];exact a5v _ (λa b c x=>c (lF x)) nd) (Yw.mpr ⟨_,h,rfl⟩)
theorem IQ{e:Ed}(h:e∉R.map (·.1)):aT (cD R) (aY e)=none:=by
 unfold aT;rw[a0E.mpr]
 .rfl
 .intro x a;obtain⟨z,b,rfl⟩:=Yw.mp a;rw[decide_eq_true_iff];exact λy=>h (lF y▸Yw.mpr ⟨z,b,rfl⟩)
theorem IS{e:Ed}(h:e∉R.map (·.1)):bS (cD R) (aY e) (rD o)=cD (R++[(e,o)]):=by unfold bS;rw[IQ h,if_neg (by simp)];unfold cD;rw[YC];rfl
noncomputable def qM(st a r:Nat)(x:Option D)(q:Nat)(h s:Option D):aE:=[b4 (.loc st),b4 (.loc a),b4 (.loc r),x,b4 (.loc q),h,s]
inductive LsJ (T:List St)(M U:List Ed)(μ0:Hm)(r q n:Nat)(R:List (Ed×Option St))(μ:Hm):Prop
 |mk (rc:Rc T M R)(hC:∀e∈R.map (·.1),e∈U)(p:μ0<+:μ)(hr:μ0.length<=r)(hq:μ0.length<=q)(gr:μ[r]?=b4 (.dT (cD R)))(gq:μ[q]?=b4 (.lst (((R.drop n).map (·.1)).map PP)))
theorem Xe(hM:M.Nodup)(hC:U.length<=100)(L:∀t∈T,t.1∈U/\t.2.1∈U)(hn:n<=R.length)(J:LsJ T M U u r q n R k)(N:s∈cQ T s.1)(h1:s.1∈R.map (·.1))(H:∀w d,(∃l,w=R++l)->LsJ T M U u r q n w d->s.2.1∈w.map (·.1)->(∀b c,b≠r->b≠q->k[b]?=b4 c->d[b]?=b4 c)->Q (.nx,qM st Y r x q h (b4 (bM s)),d)):W (BO (qM st Y r x q h (b4 (bM s))) k) Q:=by
 obtain⟨I,G,p,B,A,i,v⟩:=J;have nd:=I.nd hM;have rl:R.length<=100:=by have:=ZX nd G;rw[X3]at this;lia
 have X:q≠r:=λz=>by rw[z,i]at v;cases v
 refine w_mIfS.mpr (eI (bU rfl rfl ((wW i (fG s.2.1)).mpr ⟨_,rfl,?_⟩)));by_cases j:s.2.1∈R.map (·.1)
 .obtain⟨⟨e,o⟩,a,O⟩:=Yw.mp j;dsimp only at O;subst O;rw[Cm nd a];exact(if_neg Yj).mpr (w_mNext.mpr (H R k ⟨[],(Zw _).symm⟩ ⟨I,G,p,B,A,i,v⟩ j λ_ _ _ _ g=>g))
 .rw[IQ j];refine(if_pos rfl).mpr (w_mSeq.mpr (w_mPut.mpr ⟨_,rfl,_,rfl,_,rfl,(wX i (fG s.2.1) (by unfold cD;rw[X3,Yz];lia)).mpr ?_⟩));have y:(k.set r (.dT (bS (cD R) (aY s.2.1) (bM s))))[q]?=b4 (.lst (((R.drop n).map (·.1)).map PP)):=by rw[Yx (YW X)];exact v
  refine w_mDrop.mpr (jD ⟨_,rfl,iR y,_,rfl,(n9 y (by rw[X3,X3,a1A,Yz];lia)).mpr ?_⟩);have K:=Rc.sn I N h1 j;refine H (R++[(s.2.1,b4 s)]) _ ⟨_,rfl⟩ ⟨K,λe a=>?_,dS (dS p B _) A _,B,A,?_,?_⟩ (by rw[YC];exact YU.mpr (.inr (.head _))) λb c Z b2 g=>?_
  .rw[YC]at a;rcases YU.mp a with a|a
   .exact G e a
   .rw[YA.mp a];rcases(fr_mem.mp N).2 with E|E
    .exact(L _ E).2
    .exact(L _ E).1
  .rw[Yx X,fP i];exact congrArg (λz=>b4 (C.dT z)) (IS (o:=b4 s) j)
  .rw[fP y,List.drop_append_of_le_length hn,YC,YC];rfl
  .rw[Yx (YW b2),Yx (YW Z)];exact g
inductive LqI (T:List St)(M U:List Ed)(μ0:Hm)(st ss r q n l:Nat)(h:Option D)(e:Ed)(R:List (Ed×Option St)):Nat->aE->Hm->Prop
 |mk {i:Nat}{x s:Option D}{R':List (Ed×Option St)}{μ:Hm}(J:LsJ T M U μ0 r q (n+1) R' μ)(ex:∃l,R'=R++l)(cl:∀t∈(cQ T e).take i,t.2.1∈R'.map (·.1))(gl:μ[l]?=b4 (.lst ((cQ T e).map bM))):LqI T M U μ0 st ss r q n l h e R i (qM st ss r x q h s) μ
inductive LwI (T:List St)(M U:List Ed)(μ0:Hm)(st ss r q:Nat):Nat->aE->Hm->Prop
 |mk {m n:Nat}{x h s:Option D}{R:List (Ed×Option St)}{μ:Hm}(J:LsJ T M U μ0 r q n R μ)(hm:m+n=200)(hn:n<=R.length)(cl:∀e∈(R.take n).map (·.1),∀t∈cQ T e,t.2.1∈R.map (·.1)):LwI T M U μ0 st ss r q m (qM st ss r x q h s) μ
theorem Xf{Q:jz}(h:b[a]?=b4 (.lst xs))(j:0<=i/\i<1000)(c:xs[i.toNat]?=b4 d):W (nB (.loc a) [.int i] b) Q↔Q (d,b.set a (.lst (xs.eraseIdx i.toNat))):=by
 have e:nB (.loc a) [.int i] b=b4 (d,b.set a (.lst (xs.eraseIdx i.toNat))):=by simp only[nB,h];rw[if_pos (by lia),c];rfl
 rw[e];exact W_some
theorem Xg(hM:M.Nodup)(hU:U.length<=100)(hT:∀t∈T,t.1∈U/\t.2.1∈U)(hl:T.length<=100)(S:SD ν κ b st kvs (cQ T))(J:LsJ T M U b r q n R K)(hm:m+n=200)(X:n<R.length)(cl:∀e∈(R.take n).map (·.1),∀t∈cQ T e,t.2.1∈R.map (·.1)):
  W (BP (qM st I r x q h s) K) λp=>p.1=.nx/\∃H,H<m/\LwI T M U b st I r q H p.2.1 p.2.2:=by
 obtain⟨rc,rC,p,hr,hq,gr,v⟩:=J;have nd:=rc.nd hM;have rl:R.length<=100:=by have:=ZX nd rC;rw[X3]at this;lia
 have rq:q≠r:=λz=>by rw[z,gr]at v;cases v
 rw[a1G X,Yk,Yk]at v;have E:R[n]∈R:=a0U X;have G:R.take (n+1)=R.take n++[R[n]]:=by rw[a0T,Yg X];rfl
 generalize R[n]=en at v E G;refine bO (jD ⟨_,rfl,iR v,_,rfl,(Xf v (by lia) rfl).mpr ?_⟩);have w:=fP (c':=C.lst (((R.drop (n+1)).map (·.1)).map PP)) v;have y:(K.set q (C.lst (((R.drop (n+1)).map (·.1)).map PP)))[r]?=b4 (.dT (cD R)):=by rw[Yx rq];exact gr
 have O:=dS (c:=C.lst (((R.drop (n+1)).map (·.1)).map PP)) p hq;show W (cY _ _ _ _ (K.set q (C.lst (((R.drop (n+1)).map (·.1)).map PP)))) _;generalize K.set q (C.lst (((R.drop (n+1)).map (·.1)).map PP))=μ1 at w y O ⊢;have L:=S.more O;have he:en.1∈R.map (·.1):=Yw.mpr ⟨_,E,rfl⟩;have o:∀l k,μ1<+:k->l≠r->l≠q->k[l]?=b4 (.lst ((cQ T en.1).map bM))->W (fU (dX (.loc l)) (cW 6) BO (((cQ T en.1).map bM).length+1) 0 (qM st I r x q (b4 (PP en.1)) s) k) λp=>p.1=.nx/\∃H,H<m/\LwI T M U b st I r q H p.2.1 p.2.2:=λl k j l1 l2 gl=>by
  refine k9 (LqI T M U b st I r q n l (b4 (PP en.1)) en.1 R) (.mk (R':=R) ⟨rc,rC,O.trans j,hr,hq,aI j y,aI j w⟩ ⟨[],(Zw _).symm⟩ (λ_ z=>by rw[a2g]at z;cases z) gl) (by rintro _ _ _ ⟨_,_,_,g⟩;exact g) ?_ ?_
  .rintro i d _ Z hd ⟨J,⟨l',rfl⟩,c,g⟩;obtain⟨t,A,rfl⟩:=Cj hd;have hf:=Ze A;have e1:=(fr_mem.mp hf).1;refine⟨_,rfl,Xe hM hU hT (by rw[Yr];lia) J (by rw[e1];exact hf) (by rw[e1,YC];exact YU.mpr (.inl he)) λR' μ' ⟨Y,e2⟩ J' hs fr=>.mk J' ⟨l'++Y,by rw[e2,a0u]⟩ (λu B=>?_) (fr _ _ l1 l2 g)⟩;rw[tQ A]at B;rcases YU.mp B with B|B
   .rw[e2,YC];exact YU.mpr (.inl (c u B))
   .rw[YA.mp B];exact hs
  .rintro _ Z ⟨J,⟨l',rfl⟩,c,g⟩;rw[X3,Z8]at c;refine⟨rfl,m-1,by lia,.mk (n:=n+1) J (by lia) (by rw[Yr];lia) λe a t A=>?_⟩;rw[List.take_append_of_le_length (by lia),G,YC]at a;rcases YU.mp a with a|a
   .rw[YC];exact YU.mpr (.inl (cl e a t A))
   .rw[YA.mp a]at A;exact c t A
 have lr:=L.dic;refine w_mForI.mpr (w_iSeq.mpr (xF (a:=st) rfl L.dic (bC ⟨_,rfl,bC ⟨_,rfl,_,rfl,?_⟩⟩)));have j:=aR μ1 (C.lst []);cases N:aT kvs (aY en.1)with
 |some d=>
  obtain⟨l,rfl,_,g0⟩:=S.ats _ _ N;have l0:l<b.length:=(X8.mp g0).1;have Q:hJ (.loc st) [PP en.1,.loc μ1.length] (μ1++[C.lst []])=b4 (.loc l,μ1++[C.lst []]):=by simp only[hJ,aI j L.dic,fG,YG,N,a7a]
  have gl:=aI (O.trans j) g0;exact⟨_,Q,(eC gl).mpr (o l _ j (by lia) (by lia) gl)⟩
 |none=>
  have Q:hJ (.loc st) [PP en.1,.loc μ1.length] (μ1++[C.lst []])=b4 (.loc μ1.length,μ1++[C.lst []]):=by simp only[hJ,aI j L.dic,fG,YG,N,a3j]
  have gl:(μ1++[C.lst []])[μ1.length]?=b4 (.lst ((cQ T en.1).map bM)):=by rw[S.no _ N];exact bB _ _
  have b1:r<μ1.length:=(X8.mp y).1;have b2:q<μ1.length:=(X8.mp w).1;exact⟨_,Q,(eC gl).mpr (o _ _ j (by lia) (by lia) gl)⟩
inductive L0I (d0 d1:Option D)(ν:Hm)(r:Nat)(M:List Ed):Nat->aE->Hm->Prop
 |mk {i:Nat}{x:Option D}{μ:Hm}(p:ν<+:μ)(g:μ[r]?=b4 (.dT (cD ((M.take i).map λe=>(e,b6))))):L0I d0 d1 ν r M i [d0,d1,b4 (.loc r),x,b6,b6,b6] μ
inductive Rch (T:List St)(M U:List Ed)(R:List (Ed×Option St)):Prop
 |mk (rc:Rc T M R)(hU:∀e∈R.map (·.1),e∈U)(cl:∀e∈R.map (·.1),∀t∈cQ T e,t.2.1∈R.map (·.1))
theorem IT k(u:M.Nodup)(B:U.length<=100)(K:∀e∈M,e∈U)(hT:∀t∈T,t.1∈U/\t.2.1∈U)(hl:T.length<=100)(S:SD ν κ a st kvs (cQ T))(q:a[j]?=b4 (.lst (M.map PP)))(Q:jz)(H:∀r c R,a<+:c->a.length<=r->c[r]?=b4 (.dT (cD R))->Rch T M U R->Q (.loc r,c)):W (f (k+1) "last_steps" [.loc st,.loc j] a) Q:=by
 have ml:M.length<=100:=Y6 (ZX u K) B;have L:=aR a (C.dT []);refine cL (Vb k _ _ a) (bO (w_mDNewT.mpr (jE (w_mForI.mpr (w_iSeq.mpr ⟨_,rfl,(eC (aI L q)).mpr ?_⟩)))));refine k9 (L0I (b4 (.loc st)) (b4 (.loc j)) a a.length M) (.mk L (by rw[a2g];exact bB _ _)) (by rintro _ _ _ ⟨p,_⟩;exact aI p q) ?_ ?_
 .rintro i d _ b hd ⟨p,g⟩;obtain⟨z,I,rfl⟩:=qH hd;refine⟨_,rfl,w_mPut.mpr ⟨_,rfl,_,rfl,_,rfl,(wX g (fG z) (by unfold cD;rw[X3,X3,Zs,Yz];lia)).mpr (.mk (dS p (Yd _) _) ?_)⟩⟩;rw[fP g,tQ I,YC];exact congrArg (λy=>b4 (C.dT y)) (IS (o:=b6) (by rw[xE];exact Iy u I))
 .rintro _ b ⟨p,g⟩;rw[X3,Z8]at g;refine⟨rfl,bO (aS rfl ((UB (aI p q)).mpr (jE ?_)))⟩;have N:=aR b (C.lst (M.map PP));have J:LsJ T M U a a.length b.length 0 (M.map λe=>(e,b6)) (b++[C.lst (M.map PP)]):=⟨.st,by rw[xE];exact K,p.trans N,Yd _,p.length_le,aI N g,by rw[a5t,xE];exact bB _ _⟩;refine ID (b:=BP) (LwI T M U a st j a.length b.length) 200 (by decide) (.mk (n:=0) J rfl (a0l _) λe E=>by rw[a2g]at E;cases E) ?_;rintro m _ v ⟨J,hm,hn,l⟩;rename_i n x h s R;obtain⟨Y,X,O,hr,hq,A,w⟩:=J;have Z:lY v (.loc b.length)=b4 (!(((R.drop n).map (·.1)).map PP).isEmpty):=by simp only[lY,w]
  refine w_mTru.mpr ⟨_,rfl,_,Z,?_⟩;by_cases hd:n<R.length
  .have o:(((R.drop n).map (·.1)).map PP).isEmpty=false:=by rw[a1G hd];rfl
   rw[o];refine(if_pos rfl).mpr (bA (Xg u B hT hl S ⟨Y,X,O,hr,hq,A,w⟩ hm hd l) λp G=>?_);rw[G.1];exact G.2
  .have o:(((R.drop n).map (·.1)).map PP).isEmpty=true:=by rw[List.drop_eq_nil_of_le (by lia)];rfl
   rw[o];rw[a1d (by lia)]at l;exact(if_neg Yj).mpr ⟨rfl,cP ⟨_,rfl,H _ _ R O (Yd _) A ⟨Y,X,l⟩⟩⟩
theorem Rc.m(h:Rc T M R):∀e∈M,(e,b6)∈R:=by
 induction h with
 |st=>exact λe a=>Yw.mpr ⟨e,a,rfl⟩|sn h i c d b=>exact λe a=>YU.mpr (.inl (b e a))
theorem Xh{R:List (Ed×Option St)}(nd:(R.map (·.1)).Nodup)(h:(e,o)∈R)(h':(e,a)∈R):o=a:=by
 induction R with
 |nil=>cases h|cons x R b=>
  rw[Yk,YT]at nd;rcases YN.mp h with h|h<;>rcases YN.mp h' with h'|h'
  .rw[<- h']at h;exact congrArg Prod.snd h
  .exact absurd (Yw.mpr ⟨_,h',by rw[<- h]⟩) nd.1
  .exact absurd (Yw.mpr ⟨_,h,by rw[<- h']⟩) nd.1
  .exact b nd.2 h h'
noncomputable def Dc(b:Hm)(a:Nat)(kvs:jx):Prop:=b[a]?=b4 (.dT kvs)\/b[a]?=b4 (.dF kvs)
theorem Dc.more{μ':Hm}(I:Dc b a kvs)(h:b<+:μ'):Dc μ' a kvs:=I.elim (λe=>.inl (aI h e)) λe=>.inr (aI h e)
theorem IU(h:Dc b a kvs)(c:cN y=b4 k)(e:aT kvs k=b4 d):aG (.loc a) y b=b4 (d,b):=by rcases h with h|h<;>simp only[aG,h,c,Yy,e,YG]
theorem Dc.set(I:Dc d a kvs)(h:b≠a):Dc (d.set b c) a kvs:=I.elim (λe=>.inl (by rw[Yx h];exact e)) λe=>.inr (by rw[Yx h];exact e)
theorem Dc.lt{b:Hm}{a:Nat}{kvs:jx}(I:Dc b a kvs):a<b.length:=I.elim (λe=>(X8.mp e).1) λe=>(X8.mp e).1
inductive WbI (T:List St)(M:List Ed)(R:List (Ed×Option St))(ν:Hm)(r l:Nat)(e:Ed):Nat->aE->Hm->Prop
 |mk {m:Nat}{x:Ed}{o:Option St}{acc:List St}{μ:Hm}(p:ν<+:μ)(g:μ[l]?=b4 (.lst (acc.map bM)))(hx:(x,o)∈R)(hw:Wy T x acc.reverse e)(hm:m=(R.map (·.1)).idxOf x)(ha:acc.length+m<=100)(h0:acc=[]->x=e)(h1:e∈M->acc=[]):WbI T M R ν r l e m [b4 (.loc r),b4 (PP e),b4 (.loc l),b4 (rD o)] μ
theorem Co k(N:M.Nodup)(hU:U.length<=100)(O:Rch T M U R)(j:Dc a r (cD R))(B:e∈R.map (·.1))(Q:jz)(H:∀l c w m,a<+:c->c[l]?=b4 (.lst (w.map bM))->m∈M->Wy T m w e->w.length<=100->(e∈M->w=[])->Q (.loc l,c)):W (f (k+1) "way_by" [.loc r,PP e] a) Q:=by
 obtain⟨q,rU,cl⟩:=O;have nd:=q.nd N;have rl:R.length<=100:=by have:=ZX nd rU;rw[X3]at this;lia
 obtain⟨⟨x,o⟩,E,u⟩:=Yw.mp B;dsimp only at u;subst u;have J:=aR a (C.lst []);have ll:r<a.length:=j.lt;refine cL (Vc k _ _ a) (bO ⟨_,rfl,bO (bU rfl rfl ⟨_,IU (j.more J) (fG x) (Cm nd E),jE ?_⟩)⟩);have Y:=a5N.mpr B;rw[X3]at Y;refine ID (WbI T M R a r a.length x) ((R.map (·.1)).idxOf x) (by lia) (.mk (acc:=[]) J (bB _ _) E (.nil _) rfl (by show 0+_<=_;lia) (λ_=>rfl) λ_=>rfl) ?_;rintro m _ i ⟨p,g,G,hw,X,ha,L,A⟩;rename_i y Z d;have up:=q.up _ _ G;cases Z with
 |none=>refine eI (bU rfl rfl (w_isnotNN.mpr ⟨_,rfl,(if_neg Yj).mpr ⟨rfl,cP (aS rfl ((UD g).mpr ?_))⟩⟩));rw[<- a7N];exact H _ _ _ y (p.trans (aR _ _)) (bB _ _) up hw (by rw[a0R];lia) λb=>by rw[A b];rfl
 |some s=>
  obtain⟨u1,u2,u3,u4⟩:=up;obtain⟨⟨z,oz⟩,I,v⟩:=Yw.mp u3;dsimp only at v;subst v;refine eI (bU rfl rfl (w_isnotTN.mpr ⟨_,rfl,(if_pos rfl).mpr (wY (jD ⟨_,rfl,iR g,_,rfl,(n9 g (by rw[X3,Yz];lia)).mpr ?_⟩))⟩));have n:Dc (i.set a.length (.lst (d.map bM++[bM s]))) r (cD R):=(j.more p).set (by lia);refine w_mSet.mpr (bF ⟨_,rfl,bU rfl rfl ⟨_,rfl,_,IU n (fG s.1) (Cm nd I),_,by rw[X];exact u4,?_⟩⟩);have h:WbI T M R a r a.length x ((R.map (·.1)).idxOf s.1) [b4 (.loc r),b4 (PP x),b4 (.loc a.length),b4 (rD oz)] (i.set a.length (.lst ((d++[s]).map bM))):=by
   refine .mk (dS p (Yd _) _) (fP g) I ?_ rfl (by rw[Yr];show _+1+_<=_;lia) (λz=>by simp at z) λb=>?_
   .rw[List.reverse_append];exact .cons u2 (u1▸hw)
   .have K:=A b;have:=L K;subst this;cases Xh nd G (q.m _ b)
  rw[YC]at h;exact h
noncomputable def IV:D->Bool
 |.tup [_,_,.bl b,_]=>!b|_=>b7
theorem IW k(h:w.length<=900){a:Hm}(g:a[l]?=b4 (.lst (w.map bM)))(Q:jz)(H:∀μ',a<+:μ'->Q (.bl ((Cf w:Int)%2==0),μ')):W (f (k+1) "is_alike" [.loc l] a) Q:=by
 refine cL (Vd k _ a) (cP (bF (bF (j9 (bC (hZ (xs:=w.map bM) (p:=IV) (v:=λd=>d) (w_iSeq.mpr ⟨_,rfl,(eC g).mpr ⟨jC g,rfl,by rw[X3,Yz];lia,λd μ' hd b=>?_,λd μ' hd _ b=>⟨_,rfl,rfl,Yp _⟩,λμ' b c=>⟨_,rfl,(fY c).mpr ⟨_,rfl,(jB (by decide)).mpr ⟨_,rfl,w_eqI.mpr ?_⟩⟩⟩⟩⟩)))))))
 .obtain⟨s,i,rfl⟩:=Yw.mp hd;exact qF (iA (bU rfl rfl ⟨_,rfl,rfl,rfl,Yp _⟩))
 .have e:(((w.map bM).filter IV).map λd=>d).length=Cf w:=by rw[X3,a2z,X3];rfl
  rw[e];exact H _ b
theorem IX:∀l ps,((ps++l).map (·.1)).Nodup->(l.map λm=>(aY m.1,D.str m.2)).foldl (λq p=>bS q p.1 p.2) (bQ ps)=bQ (ps++l)
 |[],ps,_=>by rw[Zw];rfl
 |m::l,ps,h=>by
  rw[Yk,a8j];have a:m.1∉ps.map (·.1):=λz=>by rw[YC,Yk]at h;exact(a0K.mp h).2.2 _ z _ (.head _) rfl
  rw[Ce a,IX l (ps++[m]) (by rw[a0u];exact h),a0u];rfl
theorem Xi k(nd:(ms.map (·.1)).Nodup)a:f (k+1) "marks_in" [SH w h ms] a=b4 (.loc a.length,a++[.dT (bQ ms)]):=tT (Hy k _ a) (bZ (aS rfl (w_dict.mpr (by
 rw[show(ms.map λm=>(aY m.1,D.str m.2)).foldl (λq p=>bS q p.1 p.2) []=_ from IX ms [] nd];rfl))))
theorem IY(nd:(ms.map (·.1)).Nodup)(h:m∈ms):aT (bQ ms) (aY m.1)=b4 (.str m.2):=Iw (by
 unfold bQ;rw[Yu];have:((ms.map (·.1)).map aY).Nodup:=a5v _ (λa b c x=>c (lF x)) nd;rw[Yu]at this;exact this) (Yw.mpr ⟨_,h,rfl⟩)
theorem mkd_mem:x∈iV ms↔∃m∈ms,mR m.2=b8/\m.1=x:=by
 unfold iV;rw[Yw];constructor
 .rintro⟨m,a,e⟩;exact⟨m,(Zu.mp a).1,(Zu.mp a).2,e⟩
 .rintro⟨m,a,b,e⟩;exact⟨m,Zu.mpr ⟨a,b⟩,e⟩
theorem Xj c a b d:bE c (.str a) (.str b) d=b4 (.bl (if c then !(a==b)else a==b),d):=by cases c<;>rfl
theorem Xk{kvs:jx}(h:c[i]?=b4 (b4 (.loc a)))(hc:b[a]?=b4 (.dT kvs))(H:W (d c (b.set a (.dF kvs))) λr=>r.2.2[a]?=b4 (.dF kvs)/\Q (r.1,r.2.1,r.2.2.set a (.dT kvs))):W (nP i d j c b) Q:=by
 have e:pS i c b=b4 (a,kvs):=by simp only[pS,h,hc]
 unfold nP;rw[e];rw[W_bind];refine bA H λr q=>?_;rw[q.1];exact W_some.mpr q.2
theorem Xl(g:b[a]?=b4 (.lst xs))(h:i<xs.length):jZ a xs.length b i=b4 xs.reverse[i]?:=by unfold jZ;rw[g];dsimp only;rw[if_pos h,a3K h,Yg (by lia)];rfl
theorem Xm(g:b[a]?=b4 (.lst xs)):jZ a xs.length b xs.length=b4 none:=by unfold jZ;rw[g];dsimp only;rw[if_neg (ZM _),if_pos rfl]
theorem Xo k{y:List St}(n:y.length<=100){b:Hm}(g:b[l]?=b4 (.lst (y.map bM)))(Q:jz)(H:∀a μ',b<+:μ'->μ'[a]?=b4 (.lst ((y.reverse.map jH).map bM))->Q (.loc a,μ')):W (f (k+2) "back_by" [.loc l] b) Q:=by
 refine cL (Ve (k+1) _ b) (cP (Hn (UG ⟨_,rfl,l,_,rfl,g,(y.map bM).length,λi j μ'=>b<+:μ'/\j=((y.reverse.take i).map jH).map bM,rfl,by rw[X3,Yz];lia,?_,⟨aR _ _,rfl⟩,?_,?_⟩)))
 .rintro i _ _ ⟨_,rfl⟩;rw[X3,X3,Zs];lia
 .rintro i _ μ' d ⟨p,rfl⟩ c;rw[X3]at d;have e:y.reverse[i]?=b4 y[y.length-1-i]:=by rw[a3K d,Yg]
  have h:jZ l (y.map bM).length μ' i=b4 (b4 (bM y[y.length-1-i])):=by rw[Xl (aI p g) (by rw[X3];exact d),<- a7N,Yo,e];rfl
  refine⟨bM y[y.length-1-i],[b4 (bM y[y.length-1-i])],h,rfl,w_mTrue.mpr ⟨(λz=>nomatch z),λ_=>aS rfl (bT (IP k _ μ') ⟨c,dS p (Yd _) _,?_⟩)⟩⟩;rw[tQ e,YC,YC];rfl
 .rintro _ μ' ⟨p,rfl⟩ c;refine⟨Xm (aI p g),H _ _ p ?_⟩;rw[c,X3,a1d (by rw[a0R];exact Yd _)]
theorem Xp k(h:M.Nodup)(j:U.length<=100)(i:Rch T M U R)(e:Dc b r (cD R))(h1:s.1∈R.map (·.1))(z:s.2.1∈R.map (·.1))(Q:jz)(H:∀l μ' (y:List St),b<+:μ'->μ'[l]?=b4 (.lst (y.map bM))->y.length<=201->Q (.loc l,μ')):W (f (k+3) "round_by_step" [.loc r,bM s] b) Q:=by
 refine cL (Vf (k+2) _ _ b) (cP (bF (bF (aS rfl (Co (k+1) h j i e h1 _ λI a q L n u _ _ A _=>⟨_,rfl,?_⟩)))));have d:=aR a (C.lst ([s].map bM));refine(tH (aI d u) (bB _ _) (by rw[X3,Yz];show _+1<=_;lia)).mpr (j9 (bC (aS rfl (Co (k+1) h j i (e.more ?_) z _ λJ E B N o v _ _ c _=>⟨_,rfl,Xo k c v _ λK G p w=>?_⟩))))
 .exact n.trans (d.trans (aR _ _))
 .have x:=aI (o.trans p) (bB (a++[C.lst ([s].map bM)]) (C.lst (q.map bM++[s].map bM)));refine(tH x w (by rw[Yr,X3,X3,X3,X3,a0R,Yz];show _+1+_<=_;lia)).mpr (H _ _ (q++[s]++B.reverse.map jH) ?_ ?_ ?_)
  .exact n.trans (d.trans ((aR _ _).trans (o.trans (p.trans (aR _ _)))))
  .rw[YC,YC];exact bB _ _
  .rw[Yr,Yr,X3,a0R];show _+1+_<=_;lia
noncomputable def qN(st mk:Nat)(s:Ed)(r:Nat)(a x5 b c:Option D):aE:=[b4 (.loc st),b4 (.loc mk),b4 (PP s),b4 (.loc r),a,x5,b,c]
inductive RwI (st mk:Nat)(s:Ed)(r:Nat)(x4:Option D)(ν:Hm):Nat->aE->Hm->Prop
 |mk {i:Nat}{x5 x6 x7:Option D}{μ:Hm}(p:ν<+:μ):RwI st mk s r x4 ν i (qN st mk s r x4 x5 x6 x7) μ
noncomputable def Xq(a:Hm)(Q:Fl×aE×Hm->Prop):Prop:=∀l b μ',a<+:μ'->Q (.rt (.loc l),b,μ')
theorem Xr k(nd:(ms.map (·.1)).Nodup)(h:m∈ms)(i:s∈ms){a:Hm}(j:a[mk]?=b4 (.dT (bQ ms))){y:List St}(n:y.length<=900)(gl:a[l]?=b4 (.lst (y.map bM)))(H:∀b μ',a<+:μ'->Q (b,μ')):W (Hv (k+1) (qN st mk s.1 r (b4 (PP m.1)) (b4 (.loc l)) q u) a) Q:=by
 have c:∀{z:(Int×Int)×Str},z∈ms->∀{μ'},a<+:μ'->aG (.loc mk) (PP z.1) μ'=b4 (.str z.2,μ'):=λ{z} p {μ'} o=>bZ ((Uz (aI o j) (fG z.1) (IY nd p)).mpr rfl);have d:=Yp a;refine w_mAndT.mpr (iA (j9 (bC (bU rfl rfl ⟨_,c h d,_,rfl,bT (Ck k m.2 a) ⟨rfl,?_⟩⟩))));cases mR m.2 with
 |false=>exact(if_neg Yj).mpr (H _ _ d)|true=>
  refine(if_pos rfl).mpr (w_mAndT.mpr (iA (j9 (bC (bU rfl rfl ⟨_,c i d,_,rfl,bT (Ck k s.2 a) ⟨rfl,?_⟩⟩)))));cases mR s.2 with
  |false=>exact(if_neg Yj).mpr (H _ _ d)|true=>refine(if_pos rfl).mpr (eI (bF (aS rfl (IW k n gl _ λv e=>?_))));refine bF (bU rfl rfl ⟨_,c h e,bU rfl rfl ⟨_,c i e,_,Xj b7 _ _ _,_,rfl,_,rfl,H _ _ e⟩⟩)
theorem Xs k(Y:M.Nodup)(nd:(ms.map (·.1)).Nodup)(K:ms.length<=100)(G:Rch T M (ms.map (·.1)) R){e:Ed}(v:e∈R.map (·.1))(hs:s∈ms)(S:SD ν κ o st kvs (cQ T))(gm:o[mk]?=b4 (.dT (bQ ms)))(X:Dc o r (cD R))(O:Xq o Q)(H:∀x5 A B μ',o<+:μ'->Q (.nx,qN st mk s.1 r (b4 (PP e)) x5 A B,μ')):
  W (BQ (k+3) (qN st mk s.1 r (b4 (PP e)) x5 A B) o) Q:=by
 have I:=G;obtain⟨rc,rU,cl⟩:=I;have Z:(ms.map (·.1)).length<=100:=by rw[X3];exact K
 obtain⟨m,hm,rfl⟩:=Yw.mp (rU e v);refine bO (aS rfl (Co (k+2) Y Z G X v _ λl μ1 y z L g1 _ _ hl _=>?_));refine w_mSeq.mpr (w_mIfS.mpr (Xr (k+2) nd hm hs (aI L gm) (Y6 hl (by decide)) g1 λb c p2=>?_));cases b with
 |true=>exact(if_pos rfl).mpr (w_mRet.mpr ⟨_,rfl,O _ _ _ (L.trans p2)⟩)|false=>
  refine(if_neg Yj).mpr (w_mNext.mpr ?_);have x:=L.trans p2;have q:=S.more x;have n:∀a h,c<+:h->h[a]?=b4 (.lst ((cQ T m.1).map bM))->W (fU (dX (.loc a)) (cW 6) (Hu (k+3)) (((cQ T m.1).map bM).length+1) 0 (qN st mk s.1 r (b4 (PP m.1)) (b4 (.loc l)) A B) h) Q:=λa h j ga=>by
   refine k9 (RwI st mk s.1 r (b4 (PP m.1)) h) (.mk (Yp _)) (by rintro _ _ _ ⟨p⟩;exact aI p ga) ?_ ?_
   .rintro i d _ N hd ⟨u⟩;obtain⟨t,ht,rfl⟩:=Cj hd;have hf:=Ze ht;have e1:=(fr_mem.mp hf).1;refine⟨_,rfl,bO (aS rfl (Xp k Y Z G (X.more (x.trans (j.trans u))) (by rw[e1];exact v) (cl _ v _ hf) _ λa2 μ6 y2 p6 g6 J=>?_))⟩;refine w_mIfS.mpr (qF (iA (aS rfl (IW (k+2) (Y6 J (by decide)) g6 _ λμ7 p7=>⟨rfl,?_⟩))));cases(Cf y2:Int)%2==0 with
    |true=>exact(if_neg Yj).mpr (w_mNext.mpr (.mk (u.trans (p6.trans p7))))|false=>exact(if_pos rfl).mpr (w_mRet.mpr ⟨_,rfl,O _ _ _ (x.trans (j.trans (u.trans (p6.trans p7))))⟩)
   .rintro _ N ⟨u⟩;exact H _ _ _ _ (x.trans (j.trans u))
  refine w_mForI.mpr (w_iSeq.mpr (xF (a:=st) rfl q.dic (bC ⟨_,rfl,bC ⟨_,rfl,_,rfl,?_⟩⟩)));have j:=aR c (C.lst []);cases w:aT kvs (aY m.1)with
  |some d=>
   obtain⟨a,rfl,_,U⟩:=q.ats _ _ w;have E:hJ (.loc st) [PP m.1,.loc c.length] (c++[C.lst []])=b4 (.loc a,c++[C.lst []]):=by simp only[hJ,aI j q.dic,fG,YG,w,a7a]
   exact⟨_,E,(eC (aI j U)).mpr (n a _ j (aI j U))⟩
  |none=>
   have E:hJ (.loc st) [PP m.1,.loc c.length] (c++[C.lst []])=b4 (.loc c.length,c++[C.lst []]):=by simp only[hJ,aI j q.dic,fG,YG,w,a3j]
   have gl:(c++[C.lst []])[c.length]?=b4 (.lst ((cQ T m.1).map bM)):=by rw[q.no _ w];exact bB _ _
   exact⟨_,E,(eC gl).mpr (n _ _ j gl)⟩
inductive RxI (st mk:Nat)(s:Ed)(r:Nat)(ν:Hm):Nat->aE->Hm->Prop
 |mk {i:Nat}{x4 x5 x6 x7:Option D}{μ:Hm}(p:ν<+:μ):RxI st mk s r ν i (qN st mk s r x4 x5 x6 x7) μ
theorem c_seq'{A:MS}(h:W (A b a) λp=>match p.1 with|.nx=>W (B p.2.1 p.2.2) R|f=>R (f,p.2.1,p.2.2)):W (aK A B b a) R:=w_mSeq.mpr (bA h λp q=>by
 obtain⟨x,y⟩:=p;cases x<;>exact q)
theorem Xu R:gZ (cD R)=(R.map (·.1)).map PP:=by unfold gZ cD;rw[Yu,Yu];rfl
theorem Xv k{T:List St}(nd:(ms.map (·.1)).Nodup)(h:ms.length<=100)(E:∀t∈T,t.1∈ms.map (·.1)/\t.2.1∈ms.map (·.1))(I:T.length<=100)(y:s∈ms)(S:SD L κ a st kvs (cQ T))(B:a[mk]?=b4 (.dT (bQ ms)))(Q:jz)(H:∀d μ',a<+:μ'->(d=.non\/∃l,d=.loc l)->Q (d,μ')):W (f (k+4) "round_within" [.loc st,.loc mk,PP s.1] a) Q:=by
 have G:(ms.map (·.1)).length<=100:=by rw[X3];exact h
 have z:=aR a (C.lst ([s.1].map PP));refine cL (Vg (k+3) _ _ _ a) (bO (j9 (bC ⟨_,rfl,bC (bT (r:=(.loc a.length,a++[C.lst ([s.1].map PP)])) rfl ⟨_,rfl,IT (k+2) (M:=[s.1]) (YT.mpr ⟨Z0,.nil⟩) G (λe q=>by rw[YA.mp q];exact Yw.mpr ⟨s,y,rfl⟩) E I (S.more z) (bB _ _) _ λr n R J A w x=>?_⟩)⟩)));have K:=z.trans J;have p:=x;obtain⟨N,rU,M⟩:=p;have u:a.length<r:=by rw[Yr]at A;exact A
 refine c_seq' (Xk (a:=r) (kvs:=cD R) rfl w ?_);have c:=fP (c':=C.dF (cD R)) w;have j:=dS (c:=C.dF (cD R)) K (a0O u);show W (cY _ _ _ _ (n.set r (C.dF (cD R)))) _;generalize n.set r (C.dF (cD R))=μ2 at c j ⊢;have hit:kY (aA 3) [b4 (.loc st),b4 (.loc mk),b4 (PP s.1),b4 (.loc r),b6,b6,b6,b6] μ2=b4 (dX (.tup (gZ (cD R))),(cD R).length+1,μ2):=by show(kY (λ_ a=>b4 (D.loc r,a)) [] μ2)=_;simp only[kY,Yy,c]
 refine w_mForI.mpr ⟨_,hit,?_⟩;rw[show(cD R).length=(gZ (cD R)).length by unfold gZ;rw[X3]];refine Up (x:=.tup (gZ (cD R))) (xs:=gZ (cD R)) (b:=BQ (k+3)) (λ_=>rfl) (RxI st mk s.1 r μ2) (.mk (Yp _)) ?_ ?_
 .rintro i d _ v hd ⟨b⟩;rw[Xu]at hd;obtain⟨e,q,rfl⟩:=qH hd;refine⟨_,rfl,Xs k (YT.mpr ⟨Z0,.nil⟩) nd h x (Ze q) y (S.more (j.trans b)) (aI (j.trans b) B) (.inr (aI b c)) (λl O μ' o=>?_) λ_ _ _ μ' o=>.mk (b.trans o)⟩;exact⟨aI (b.trans o) c,H _ _ (dS (j.trans (b.trans o)) (a0O u) _) (.inr ⟨l,rfl⟩)⟩
 .rintro _ v ⟨b⟩;exact⟨aI b c,cP ⟨_,rfl,H _ _ (dS (j.trans b) (a0O u) _) (.inl rfl)⟩⟩
theorem IZ{c d:Type}{h:c->d}:∀{U:List c},(U.map h).Nodup->∀x∈U,∀y∈U,h x=h y->x=y
 |[],_,_,a,_,_,_=>nomatch a|u::U,nd,x,a,y,hy,e=>by
  rw[Yk,YT]at nd;rcases YN.mp a with b|a<;>rcases YN.mp hy with ey|hy
  .rw[b,ey]
  .exact absurd (Yw.mpr ⟨y,hy,by rw[<- e,b]⟩) nd.1
  .exact absurd (Yw.mpr ⟨x,a,by rw[e,ey]⟩) nd.1
  .exact IZ nd.2 x a y hy e
theorem Ja{c k:Type}{h:c->k}{U V:List c}(nd:V.Nodup)(sub:∀e∈V,e∈U)(d:(U.map h).Nodup):(V.map h).Nodup:=a7D.mpr (a9s (λ{a b} i j ne e=>ne (IZ d a (sub a i) b (sub b j) e)) nd)
noncomputable def oG(e:Ed):Int:=Tb.hashT (aY e)
theorem Xw{kvs more:jx}{Q:jz}(d:c[a]?=b4 (.dT kvs))(e:c[b]?=b4 (.dT more))(hz:kvs.length+more.length<=Yi)(nd:(more.map λp=>Tb.hashT p.1).Nodup)(ne:a≠b)(H:Q (.non,c.set a (.dT (pU kvs more)))):W (nX (.loc a) [.loc b] c) Q:=by refine⟨_,?_,H⟩;simp only[nX,d,e];rw[if_pos ⟨hz,nd,ne⟩]
theorem Jb:∀more kvs,(pU kvs more).length<=kvs.length+more.length
 |[],kvs=>Yd _|p::more,kvs=>by have a:=Jb more (bS kvs p.1 p.2);have b:=IH kvs p.1 p.2;show(pU (bS kvs p.1 p.2) more).length<=_;rw[YB];lia
inductive RvJ (d0:Option D)(st mk sn:Nat)(ν:Hm):Nat->aE->Hm->Prop
 |mk {i:Nat}{kvs:jx}{x4 x5:Option D}{μ:Hm}(kp:Kp sn ν μ)(g:μ[sn]?=b4 (.dT kvs))(hk:kvs.length<=100*i):RvJ d0 st mk sn ν i [d0,b4 (.loc st),b4 (.loc mk),b4 (.loc sn),x4,x5] μ
theorem Xx k{T:List St}(nd:(ms.map (·.1)).Nodup)(n:ms.length<=100)(L:((ms.map (·.1)).map oG).Nodup)(w:∀t∈T,t.1∈ms.map (·.1)/\t.2.1∈ms.map (·.1))(x:T.length<=100)(y:s∈ms){a:jx}(S:SD Y κ i st kvs (cQ T))(E:i[mk]?=b4 (.dT (bQ ms)))(j:i[sn]?=b4 (.dT a))(hk:a.length<=100000)(B:∀d Z μ',i<+:μ'->Q (.rt d,Z,μ'))(H:∀c x5 μ',Kp sn i μ'->μ'[sn]?=b4 (.dT c)->c.length<=a.length+100->Q (.nx,[v,b4 (.loc st),b4 (.loc mk),b4 (.loc sn),b4 (PP s.1),x5],μ')):
  W (BR (k+4) [v,b4 (.loc st),b4 (.loc mk),b4 (.loc sn),b4 (PP s.1),x5] i) Q:=by
 have J:(ms.map (·.1)).length<=100:=by rw[X3];exact n
 refine w_mIfS.mpr (eI (bU rfl rfl ((wW j (fG s.1)).mpr ⟨_,rfl,?_⟩)));cases(aT a (aY s.1)).isSome with
 |true=>exact(if_neg Yj).mpr (w_mNext.mpr (H a _ i (λ_ _ _ h=>h) j (by lia)))|false=>
  refine(if_pos rfl).mpr (bO (aS rfl (Xv k nd n w x y S E _ λd b o hd=>?_)));rcases hd with rfl|⟨l,rfl⟩
  .refine wZ (eI (bU rfl rfl (w_isnotNN.mpr ⟨_,rfl,rfl,mK (w_mDrop.mpr (xF (a:=sn) rfl (aI o j) (bC (j9 (bC ⟨_,rfl,bC (bT (r:=(.loc b.length,b++[C.lst ([s.1].map PP)])) rfl ⟨_,rfl,?_⟩)⟩)))))⟩)));have z:=aR b (C.lst ([s.1].map PP));refine IT (k+3) (M:=[s.1]) (YT.mpr ⟨Z0,.nil⟩) J (λe K=>by rw[YA.mp K];exact Yw.mpr ⟨s,y,rfl⟩) w x (S.more (o.trans z)) (bB _ _) _ λr X R N U G I=>?_;obtain⟨O,rU,_⟩:=I;have A:=O.nd (YT.mpr ⟨Z0,.nil⟩);have u:=ZX A rU;rw[X3]at u;have q:=o.trans (z.trans N);have ls:sn<b.length:=YE (X8.mp j).1 o.length_le;have M:(cD R).length=R.length:=X3 ..;rw[Yr]at U;refine⟨_,rfl,Xw (aI q j) G (by rw[M,Yz];lia) ?_ (by lia) (H _ _ _ ((Kp.pre q).trans .set) (fP (aI q j)) ?_)⟩
   .have e:((cD R).map λp=>Tb.hashT p.1)=(R.map (·.1)).map oG:=by unfold cD;rw[Yu,Yu];rfl
    rw[e];exact Ja A rU L
   .have:=Jb (cD R) a;lia
  .exact Vv (eI (bU rfl rfl (w_isnotLN.mpr ⟨_,rfl,rfl,w4 ⟨_,rfl,B _ _ _ o⟩⟩)))
theorem Xy k(hw:1<=w/\w<=6)(hh:1<=h/\h<=6)(nd:(ms.map (·.1)).Nodup)(hms:ms.length<=55)(hs:((ms.map (·.1)).map oG).Nodup)(hb:(bH w h).find? (bW (aL ms))=b6)(J:(iB (aL ms) w h).length<64)(G:Hm)(Q:jz)(H:∀d μ',G<+:μ'->Q (d,μ')):W (f (k+10) "round_of" [SH w h ms] G) Q:=by
 have hT:(TT ms w h).length<64:=by unfold TT;rw[X3,IL];exact J
 refine cL (Vh (k+9) _ G) (bO (aS rfl (Xb k hw hh hb J _ _ λκ c st kvs S=>bO (aS rfl (bT (Xi (k+8) nd c) (bO (w_mDNewT.mpr ?_)))))));have N:=aR c (C.dT (bQ ms));have p:=bB c (C.dT (bQ ms));have u:=S.more N;generalize hμ2:c++[C.dT (bQ ms)]=μ2 at N p u ⊢;generalize c.length=mk at p ⊢;have O:=aR μ2 (C.dT []);have Z:=bB μ2 (C.dT []);have lk:mk<μ2.length:=(X8.mp p).1;refine c_seq' (w_mForI.mpr (w_iSeq.mpr (bF (aS rfl (Xc (k+7) (by lia) _ _ λa j A Y=>?_)))));have x:=aI (O.trans A) p;refine aS rfl ((UA x).mpr ((tH (aI (aR _ _) Y) (bB _ _) ?_).mpr ?_))
 .unfold iV bQ;have:=ZR (λm:(Int×Int)×Str=>mR m.2) ms;rw[X3,X3,X3,X3,Yz];lia
 have U:(bQ ms).map (λk=>D.tup (k.1.map D.int))=(ms.map (·.1)).map PP:=by unfold bQ;rw[Yu,Yu];rfl
 rw[U,<- YC];have B:=(aR j (C.lst ((ms.map (·.1)).map PP))).trans (aR _ (C.lst ((iV ms++ms.map (·.1)).map PP)));have n:=bB (j++[C.lst ((ms.map (·.1)).map PP)]) (C.lst ((iV ms++ms.map (·.1)).map PP));generalize(j++[C.lst ((ms.map (·.1)).map PP)]).length=b at n ⊢;generalize(j++[C.lst ((ms.map (·.1)).map PP)])++[C.lst ((iV ms++ms.map (·.1)).map PP)]=μ5 at B n ⊢;have q:=aI (A.trans B) Z;have T:b≠μ2.length:=λz=>by rw[z,q]at n;cases n
 have R:μ2<+:μ5:=O.trans (A.trans B);have ln:(iV ms++ms.map (·.1)).length<=110:=by have:=ZR (λm:(Int×Int)×Str=>mR m.2) ms;unfold iV;rw[Yr,X3,X3];lia
 have M:∀e∈iV ms++ms.map (·.1),∃m∈ms,m.1=e:=λe l=>by
  rcases YU.mp l with l|l
  .obtain⟨m,r,_,v⟩:=mkd_mem.mp l;exact⟨m,r,v⟩
  .obtain⟨m,r,v⟩:=Yw.mp l;exact⟨m,r,v⟩
 generalize iV ms++ms.map (·.1)=L at n ln M;refine(eC n).mpr (k9 (b:=BR (k+9)) (RvJ (b4 (SH w h ms)) st mk μ2.length μ5) (.mk (λ_ _ _ h=>h) q (Yd _)) (by rintro _ _ _ ⟨o,_,_⟩;exact o _ _ T n) ?_ ?_)
 .rintro i d _ s hd ⟨o,I,hk⟩;obtain⟨e,l,rfl⟩:=qH hd;have hi:=(X8.mp l).1;obtain⟨m,r,rfl⟩:=M e (Ze l);have E:μ2<+:s:=o.all R (Yd _);refine⟨_,rfl,Xx (k+5) nd (by lia) hs (λt ht=>(W8 ht).1) (by lia) r (u.more E) (aI E p) I (by lia) (λd ρ μ' p'=>?_) λK _ μ' y X hk'=>.mk (o.trans y) X (by lia)⟩;exact H _ _ (u.pre.trans (E.trans p'))
 .rintro _ s ⟨o,I,hk⟩;exact cP ⟨_,rfl,H _ _ (u.pre.trans (o.all R (Yd _)))⟩
theorem Xz{ds:List D}{Q:jz}(n:h[i]?=b4 (b4 (.loc a)))(j:c[a]?=b4 (.exc x ns ds))(l:att b x=b8)(k:(ns.zip ds).lookup b=b4 d)(H:Q (d,c)):W (l6 b (att b) (aA i) h c) Q:=by
 have e:aA i h c=b4 (.loc a,c):=by simp[aA,n]
 rw[UI,e];exact⟨_,rfl,a,x,ns,ds,d,rfl,j,l,k,H⟩
theorem qO{ds:List D}{Q:jz}(k:d[i]?=b4 (b4 (.loc a)))(h:c[a]?=b4 (.exc x ns ds))(j:s x=b4 b)(H:Q (.bl b,c)):W (cS s (aA i) d c) Q:=by
 have e:cS s (aA i) d c=b4 (.bl b,c):=by simp[cS,aA,k,h,j]
 exact⟨_,e,H⟩
theorem XA{bs:List Bool}{Q:jz}(h:b[a]?=b4 (.lst (bs.map D.bl)))(d:i<bs.length)(H:Q (.bl (bs.getD i b7),b)):W (eD (.loc a) (.int (i:Int)) b) Q:=by
 have c:atI (bs.map D.bl) (i:Int)=b4 (.bl (bs.getD i b7)):=oE (by
  rw[Yo,a5s,Yg d];rfl)
 have e:eD (.loc a) (.int (i:Int)) b=b4 (.bl (bs.getD i b7),b):=by simp only[eD,a8,h,Yy,c,YG]
 exact⟨_,e,H⟩
theorem Cp{o:aE}(b:d[a]?=b4 (C.exc "Barred" ["corner"] [PP c]))(h1:sup e "Barred"=b4 q1)(k:sup h "Barred"=b4 q2)(l:sup i "Barred"=b4 q3)(n:sup j "Barred"=b4 q4):
  bV (aB (cS (sup e) (aA 0)) (aB (cS (sup h) (aA 0)) (aB (cS (sup i) (aA 0)) (aB (cS (sup j) (aA 0)) aD)))) (b4 (.loc a)::o) d=b4 (.loc d.length,d++[.lst ([q1,q2,q3,q4].map D.bl)]):=
 bZ (w_mLst.mpr (bC (qO rfl b h1 (bC (qO rfl b k (bC (qO rfl b l (bC (qO rfl b n ⟨_,rfl,by show(4:Nat)<=Yi;decide,rfl⟩)))))))))
theorem Cq{xs:List Bool}(d:c[a]?=b4 (.lst (xs.map D.bl)))(e:c[b]?=b4 (.lst (ys.map D.bl)))(h:xs.length+ys.length<=20):cB (.loc a) (.loc b) c=b4 (.loc c.length,c++[.lst ((xs++ys).map D.bl)]):=by rw[YC];exact bZ ((tH d e (by rw[X3,X3,Yz];lia)).mpr rfl)
noncomputable def kBs:List Bool:=[b8,b8,b7,b7]++[b7,b7,b7,b7]++[b7,b7,b7,b7]++[b7,b7]
theorem XB:(fX 0 14).filter (λd=>kBs.getD (lJ d).toNat b7)=[0,1].map D.int:=rfl
theorem XC{e:Hm}(j:e[a]?=b4 (C.exc "Barred" ["corner"] [PP c]))(Q:jz)(H:∀b μ',e<+:μ'->e.length<=b->μ'[b]?=b4 (.lst ([0,1].map D.int))->Q (.loc b,μ')):W (k8 S "_law_kinds" [.loc a] e) Q:=by
 refine cL (Vo _ e) (bO (bT (Cp (q1:=b8) (q2:=b8) (q3:=b7) (q4:=b7) j rfl rfl rfl rfl) ?_));have h:=aR e (C.lst ([b8,b8,b7,b7].map D.bl));have q:=bB e (C.lst ([b8,b8,b7,b7].map D.bl));generalize e++[C.lst ([b8,b8,b7,b7].map D.bl)]=μ1 at h q ⊢;refine bO (bF ⟨_,rfl,bT (Cp (q1:=b7) (q2:=b7) (q3:=b7) (q4:=b7) (aI h j) rfl rfl rfl rfl) (bT (Cq (aI (aR _ _) q) (bB _ _) (by decide)) ?_)⟩);have l:=(aR μ1 (C.lst ([b7,b7,b7,b7].map D.bl))).trans (aR _ (C.lst (([b8,b8,b7,b7]++[b7,b7,b7,b7]).map D.bl)));have r:=bB (μ1++[C.lst ([b7,b7,b7,b7].map D.bl)]) (C.lst (([b8,b8,b7,b7]++[b7,b7,b7,b7]).map D.bl));generalize μ1++[C.lst ([b7,b7,b7,b7].map D.bl)]++[C.lst (([b8,b8,b7,b7]++[b7,b7,b7,b7]).map D.bl)]=μ2 at l r ⊢;refine bO (bF ⟨_,rfl,bT (Cp (q1:=b7) (q2:=b7) (q3:=b7) (q4:=b7) (aI (h.trans l) j) rfl rfl rfl rfl) (bT (Cq (aI (aR _ _) r) (bB _ _) (by decide)) ?_)⟩);have o:=(aR μ2 (C.lst ([b7,b7,b7,b7].map D.bl))).trans (aR _ (C.lst (([b8,b8,b7,b7]++[b7,b7,b7,b7]++[b7,b7,b7,b7]).map D.bl)));have s:=bB (μ2++[C.lst ([b7,b7,b7,b7].map D.bl)]) (C.lst (([b8,b8,b7,b7]++[b7,b7,b7,b7]++[b7,b7,b7,b7]).map D.bl));generalize μ2++[C.lst ([b7,b7,b7,b7].map D.bl)]++[C.lst (([b8,b8,b7,b7]++[b7,b7,b7,b7]++[b7,b7,b7,b7]).map D.bl)]=μ3 at o s ⊢;have p:=aI (h.trans (l.trans o)) j;refine bO (bF ⟨_,rfl,w_mLst.mpr (bC (qO rfl p (b:=b7) rfl (bC (qO rfl p (b:=b7) rfl ⟨_,rfl,by show(2:Nat)<=Yi;decide,bT (Cq (ys:=[b7,b7]) (aI (aR _ _) s) (bB _ _) (by decide)) ?_⟩))))⟩);have v:=(aR μ3 (C.lst ([b7,b7].map D.bl))).trans (aR _ (C.lst (kBs.map D.bl)));have n:=bB (μ3++[C.lst ([b7,b7].map D.bl)]) (C.lst (kBs.map D.bl));show W (aQ _ [b4 (.loc a),b4 (.loc (μ3++[C.lst ([b7,b7].map D.bl)]).length)] (μ3++[C.lst ([b7,b7].map D.bl)]++[C.lst (kBs.map D.bl)])) _;generalize μ3++[C.lst ([b7,b7].map D.bl)]++[C.lst (kBs.map D.bl)]=μ4 at v n ⊢;generalize(μ3++[C.lst ([b7,b7].map D.bl)]).length=n4 at n ⊢;have w:=h.trans (l.trans (o.trans v));refine cP (hZ (xs:=fX 0 14) (p:=λd=>kBs.getD (lJ d).toNat b7) (v:=λd=>d) ⟨(iZ 0 14,15,μ4),rfl,BB,rfl,by rw[Yz];decide,λd μ' hd k=>?_,λd μ' hd _ k=>⟨_,rfl,rfl,Yp _⟩,λμ' k u=>?_⟩)
 .obtain⟨i,x,rfl⟩:=HH hd;rw[a4C];exact eI (bU rfl rfl (XA (aI k n) (by show i<14;exact x) ⟨_,rfl,rfl,Yp _⟩))
 .rw[a5Y,XB]at u;exact H _ _ (w.trans k) w.length_le u
theorem XD k(hw:1<=w/\w<=6)(s:1<=h/\h<=6)(r:(bH w h).find? (bW (aL ms))=b4 c)(v:ms≠[])(u:0<=i/\i<4)(d:Hm)(Q:jz)(H:∀b μ',d<+:μ'->μ'[b]?=b4 (.lst ([0,1].map D.int))->Q (.loc b,μ')):W (f (k+11) "_law_refused" [.int i,SH w h ms] d) Q:=by refine cL (HE (k+10) _ _ d) (bO ⟨_,rfl,w_mSeq.mpr ?_⟩);have j:=aR d (C.lst []);show W (jX _ _ _ _ _ [b4 (.int i),b4 (SH w h ms),b4 (.loc d.length),b6] (d++[C.lst []])) _;generalize d++[C.lst []]=μ0 at j ⊢;obtain⟨⟨x,a⟩,o,rfl,A⟩:=Ip k hw s r v u μ0;have z:W ((bJ (bI (aF (f (k+10) "_law_asked") (aB (aA 0) (aB (aA 1) aD)))) (eP (g (k+10) "_law_asked") (aB (aA 0) (aB (aA 1) aD))) aV) [b4 (.int i),b4 (SH w h ms),b4 (.loc d.length),b6] μ0) λq=>q=(bX c,[b4 (.int i),b4 (SH w h ms),b4 (.loc d.length),b6],a):=dU (w_rCall.mpr ⟨_,rfl,_,o,rfl⟩);obtain⟨p,y,rfl⟩:=z;refine(Ho y rfl).mpr ?_;have l:=aR a (C.exc (bX c).1 ((bX c).2.map (·.1)) ((bX c).2.map (·.2)));have e:(a++[C.exc (bX c).1 ((bX c).2.map (·.1)) ((bX c).2.map (·.2))])[a.length]?=b4 (C.exc "Barred" ["corner"] [PP c]):=bB a _;generalize a++[C.exc (bX c).1 ((bX c).2.map (·.1)) ((bX c).2.map (·.2))]=μ2 at l e;exact w_mSet.mpr (aS rfl (XC e _ λb E B _ n=>cP ⟨_,rfl,H _ _ (j.trans (A.trans (l.trans B))) n⟩))
theorem XE k(hw:1<=w/\w<=6)(n:1<=h/\h<=6)(l:(bH w h).find? (bW (aL ms))=b4 c)(r:ms≠[])(o:0<=i/\i<4)(b:Hm)(Q:jz)(H:∀μ',b<+:μ'->Q (PP c,μ')):W (f (k+11) "_law_corner" [.int i,SH w h ms] b) Q:=by refine cL (Vq (k+10) _ _ b) (bO ⟨_,rfl,w_mSeq.mpr ?_⟩);obtain⟨⟨x,a⟩,j,rfl,v⟩:=Ip k hw n l r o b;have u:W ((bJ (bI (aF (f (k+10) "_law_asked") (aB (aA 0) (aB (aA 1) aD)))) (eP (g (k+10) "_law_asked") (aB (aA 0) (aB (aA 1) aD))) aV) [b4 (.int i),b4 (SH w h ms),b4 .non,b6] b) λq=>q=(bX c,[b4 (.int i),b4 (SH w h ms),b4 .non,b6],a):=dU (w_rCall.mpr ⟨_,rfl,_,j,rfl⟩);obtain⟨p,s,rfl⟩:=u;refine(Ho s rfl).mpr ?_;have e:=aR a (C.exc (bX c).1 ((bX c).2.map (·.1)) ((bX c).2.map (·.2)));have d:(a++[C.exc (bX c).1 ((bX c).2.map (·.1)) ((bX c).2.map (·.2))])[a.length]?=b4 (C.exc "Barred" ["corner"] [PP c]):=bB a _;generalize a++[C.exc (bX c).1 ((bX c).2.map (·.1)) ((bX c).2.map (·.2))]=μ2 at e d;exact w_mSet.mpr (Xz rfl d rfl rfl (cP ⟨_,rfl,H _ (v.trans e)⟩))
theorem XF k(hw:1<=w/\w<=6)(j:1<=h/\h<=6)(nd:(ms.map (·.1)).Nodup)(b:ms.length<=55)(q:((ms.map (·.1)).map oG).Nodup)(e:(bH w h).find? (bW (aL ms))=b6)(n:(iB (aL ms) w h).length<64)(o:i=0\/i=1)(a:Hm)(Q:jz)(H:∀μ',a<+:μ'->Q (.non,μ')):W (f (k+11) "_law_asked" [.int i,SH w h ms] a) Q:=by
 refine cL (Vp (k+10) _ _ a) (w_mIfS.mpr ?_);rcases o with rfl|rfl
 .exact⟨_,tS (b:=b8) rfl,(if_pos rfl).mpr (w_mDrop.mpr (aS rfl (Im (k+3) hw j e n a _ λl μ' p _ _=>H _ p)))⟩
 .exact⟨_,tS (b:=b7) rfl,(if_neg Yj).mpr (w_mIfS.mpr ⟨_,tS (b:=b8) rfl,(if_pos rfl).mpr (w_mDrop.mpr (aS rfl (Xy k hw j nd b q e n a _ λd μ' p=>H _ p)))⟩)⟩
theorem XG k(hw:1<=w/\w<=6)(j:1<=h/\h<=6)(nd:(ms.map (·.1)).Nodup)(d:ms.length<=55)(p:((ms.map (·.1)).map oG).Nodup)(e:(bH w h).find? (bW (aL ms))=b6)(o:(iB (aL ms) w h).length<64)(l:i=0\/i=1)(a:Hm)(Q:jz)(H:∀b μ',a<+:μ'->a.length<=b->μ'[b]?=b4 (.lst [])->Q (.loc b,μ')):W (f (k+12) "_law_refused" [.int i,SH w h ms] a) Q:=by refine cL (HE (k+11) _ _ a) (bO ⟨_,rfl,w_mSeq.mpr ((UH (fH (qL rfl (Wc (k+1) hw j e l _)) λ_ _=>rfl)).mpr (w_mDrop.mpr (aS rfl (XF k hw j nd d p e o l _ _ λμ' n=>?_))))⟩);exact cP ⟨_,rfl,H _ _ ((aR _ _).trans n) (Yd _) (aI n (bB _ _))⟩
theorem XH(nd:(ms.map (·.1)).Nodup)e s:∃c,bS (bQ ms) (aY e) (.str s)=bQ c/\(c.map (·.1)).Nodup/\c.length<=ms.length+1/\c≠[]/\∀m∈c,m∈ms\/m=(e,s):=by
 by_cases h:e∈ms.map (·.1)
 .obtain⟨m,d,rfl⟩:=Yw.mp h;have i:(ms.map λx=>if x.1=m.1 then(x.1,s)else x).map (·.1)=ms.map (·.1):=by rw[Yu];refine ZQ λx _=>?_;show(if x.1=m.1 then(x.1,s)else x).1=x.1;split<;>rfl
  refine⟨ms.map λx=>if x.1=m.1 then(x.1,s)else x,?_,by rw[i];exact nd,by rw[X3];lia,λz=>?_,λx l=>?_⟩
  .unfold bS;rw[IY nd d,if_pos (show(b4 (D.str m.2)).isSome=b8 from rfl)];unfold bQ;rw[Yu,Yu];refine ZQ λx _=>?_;show(if aY x.1=aY m.1 then(aY x.1,D.str s)else(aY x.1,D.str x.2))=(aY (if x.1=m.1 then(x.1,s)else x).1,D.str (if x.1=m.1 then(x.1,s)else x).2);by_cases z:x.1=m.1
   .rw[if_pos z,if_pos (by rw[z])]
   .rw[if_neg z,if_neg λy=>z (lF y)]
  .rw[a4a.mp z]at d;cases d
  .obtain⟨y,n,rfl⟩:=Yw.mp l;by_cases z:y.1=m.1
   .exact .inr (by rw[if_pos z,z])
   .exact .inl (by rw[if_neg z];exact n)
 .refine⟨ms++[(e,s)],Ce (m:=(e,s)) h,?_,by rw[Yr];exact Yd _,by simp,λm d=>?_⟩
  .rw[YC];refine a0K.mpr ⟨nd,YT.mpr ⟨Z0,.nil⟩,λa j b k z=>h ?_⟩;rw[<- (YA.mp k:b=e),<- z];exact j
  .rcases YU.mp d with d|d
   .exact .inl d
   .exact .inr (YA.mp d)
theorem XI(h:0<=i/\i<3):∃s:Str,(s="o"\/s="h"\/s="v")/\∀a,aG (.str "ohv") (.int i) a=b4 (.str s,a):=by
 have h:i=0\/i=1\/i=2:=by lia
 rcases h with rfl|rfl|rfl
 .exact⟨"o",.inl rfl,λa=>bZ ((BJ (by decide) rfl).mpr rfl)⟩
 .exact⟨"h",.inr (.inl rfl),λa=>bZ ((BJ (by decide) rfl).mpr rfl)⟩
 .exact⟨"v",.inr (.inr rfl),λa=>bZ ((BJ (by decide) rfl).mpr rfl)⟩
theorem XJ:(((fF 3 3).filter jG).map oG).Nodup:=by decide +kernel
inductive ShI (d0 d1 d2:Option D)(l d:Nat)(es:jq)(ν:Hm):Nat->aE->Hm->Prop
 |mk {i:Nat}{x5 x6:Option D}{μ:Hm}{ms:List ((Int×Int)×Str)}(p:ν<+:μ)(g:μ[d]?=b4 (.dT (bQ ms)))(nd:(ms.map (·.1)).Nodup)(hl:ms.length<=i)(hn:0<i->ms≠[])(hE:∀m∈ms,m.1∈es)(ok:∀m∈ms,m.2="o"\/m.2="h"\/m.2="v"):ShI d0 d1 d2 l d es ν i [d0,d1,d2,b4 (.loc l),b4 (.loc d),x5,x6,b6,b6,b6] μ
theorem XM k(ns:List Int){x5:Option D}{es:jq}(B:es≠[])(gl:e[l]?=b4 (.lst (es.map PP)))(hd:e.length<=d)(M:i<4)(I:ShI (b4 (.rol (ns.map D.int))) q r l d es e i y c):∃o,cW 5 (.int (0+(i:Int))) y c=b4 o/\W (BS (k+1) o c) λp=>match p.1 with|.nx=>ShI (b4 (.rol (ns.map D.int))) q r l d es e (i+1) p.2.1 p.2.2|.ct=>ShI (b4 (.rol (ns.map D.int))) q r l d es e (i+1) p.2.1 p.2.2|_=>False:=by
 obtain⟨p,g,nd,N,O,A,ok⟩:=I;rename_i J;refine⟨_,rfl,bO (aS rfl (Iv k ns (by lia) _ _ ?_))⟩;generalize fZ ns (1+(0+(i:Int)))=n;obtain⟨s,H,u⟩:=XI (i:=n%3) (by lia);have L:0<es.length:=List.length_pos_iff.mpr B;obtain⟨j,E⟩:∃j:Nat,n/3%(es.length:Int)=j:=⟨(n/3%(es.length:Int)).toNat,by have:=a8v (n/3) (b:=(es.length:Int)) (by lia);lia⟩;have a:j<es.length:=by have:=a7H (n/3) (b:=(es.length:Int)) (by lia);lia
 refine w_mPut.mpr (bF ⟨_,rfl,bF ⟨_,rfl,_,rfl,(jB (by decide)).mpr ⟨_,u c,_,rfl,bF ⟨_,rfl,bF (bF ⟨_,rfl,_,rfl,(Bx (by decide) (by decide)).mpr (aS rfl ((fY (aI p gl)).mpr ?_))⟩)⟩⟩⟩⟩);rw[X3];refine(jB (by lia)).mpr ?_;rw[E];refine(n6 (aI p gl) (oE (by rw[Yo,Yg a];rfl))).mpr ((wX g (fG _) (by unfold bQ;rw[X3,Yz];lia)).mpr ?_);obtain⟨K,z,x,G,w,b⟩:=XH nd es[j] s;show ShI _ _ _ _ _ _ _ _ _ (c.set d (.dT (bS (bQ J) (aY es[j]) (.str s))));rw[z];refine .mk (dS p hd _) (fP g) x (by lia) (λ_=>w) (λm v=>?_) λm v=>?_
 .rcases b m v with h|rfl
  .exact A m h
  .exact a0U a
 .rcases b m v with h|rfl
  .exact ok m h
  .exact H
theorem XN(n:c[a]?=b4 (.lst [.loc e,.loc i]))(o:c[b]?=b4 (.lst [.loc j,.loc k]))(h1:c[e]?=b4 (.lst []))(p:c[i]?=b4 (.lst []))(q:c[j]?=b4 (.lst []))(r:c[k]?=b4 (.lst [])):bE b7 (.loc a) (.loc b) c=b4 (.bl b8,c):=by
 have d:∀{x:Nat}{xs:List D},c[x]?=b4 (.lst xs)->fL c (.loc x)=b4 (.lst xs):=λh=>by simp only[fL,h]
 have l:∀{x y:Nat},c[x]?=b4 (.lst [])->c[y]?=b4 (.lst [])->dC 7 c (.loc x) (.loc y)=b4 true:=λ{x y} s w=>by show(fL c (.loc x)).bind (λu=>(fL c (.loc y)).bind λv=>oO (dC 6 c) u v)=_;rw[d s,d w];rfl
 have:dC 8 c (.loc a) (.loc b)=b4 true:=by show(fL c (.loc a)).bind (λx=>(fL c (.loc b)).bind λy=>oO (dC 7 c) x y)=_;rw[d n,d o];show(dC 7 c (.loc e) (.loc j)).bind (λu=>((dC 7 c (.loc i) (.loc k)).bind λu=>(b4 b8).map λv=>u&&v).map λv=>u&&v)=_;rw[l h1 q,l p r];rfl
 unfold bE;rw[this];rfl
theorem XQ(M:∀i(c:Hm)(Q:jz),i=0\/i=1->(∀b μ',c<+:μ'->c.length<=b->μ'[b]?=b4 (.lst [])->Q (.loc b,μ'))->W (F [.int i,x] c) Q){Q:jz}(H:∀a k l μ',μ'[a]?=b4 (.lst [.loc k,.loc l])->μ'[k]?=b4 (.lst [])->μ'[l]?=b4 (.lst [])->Q (.loc a,μ')):
  W (dY (cI (bV (aB (mC (.int 0)) (aB (mC (.int 1)) aD)))) dH (aF F (aB (aA 10) (aB (aA 7) aD))) [u,v,w,A,B,E,G,b4 x,I,J] c) Q:=by
 refine Hn (w_iSeq.mpr ⟨(.loc c.length,c++[C.lst ([0,1].map D.int)]),rfl,?_⟩);have n:=bB c (C.lst ([0,1].map D.int));generalize c++[C.lst ([0,1].map D.int)]=μ1 at n ⊢;refine(eC n).mpr ⟨2,λi O μ'=>μ1<+:μ'/\∃bs:List Nat,O=bs.map D.loc/\bs.length=i/\∀b∈bs,μ1.length<b/\μ'[b]?=b4 (.lst []),rfl,by rw[Yz];decide,?_,⟨aR _ _,[],rfl,rfl,λ_ h=>nomatch h⟩,?_,?_⟩
 .rintro i _ μ' ⟨_,bs,rfl,o,_⟩;rw[X3];lia
 .rintro i _ μ' R ⟨p,bs,rfl,o,j⟩ g;have q:i=0\/i=1:=by lia
  have lt:μ1.length<μ'.length:=(X8.mp g).1;have K:dX (.loc c.length) μ' i=b4 (b4 (.int (i:Int))):=by rw[jC n μ' i p];rcases q with rfl|rfl<;>rfl
  refine⟨_,_,K,rfl,w_mTrue.mpr ⟨(λz=>nomatch z),λ_=>aS rfl (M _ _ _ (by lia) λb s r N L=>⟨aI r g,dS (p.trans r) (Yd _) _,bs++[b],by rw[YC];rfl,by rw[Yr,o];rfl,λy e=>?_⟩)⟩⟩;have d:μ1.length<y/\s[y]?=b4 (.lst []):=by
   rcases YU.mp e with e|e
   .exact⟨(j y e).1,aI r (j y e).2⟩
   .rw[YA.mp e];exact⟨YE lt N,L⟩
  refine⟨d.1,?_⟩;exact(Yx (Yn d.1)).trans d.2
 .rintro _ μ' ⟨p,bs,rfl,o,j⟩ g;refine⟨jC n μ' 2 p,?_⟩;match bs,o with
  |[k,l],_=>exact H _ _ _ _ g (j k (YQ ..)).2 (j l (YK _ (YQ ..))).2
theorem XR p a:bE b8 (PP p) (PP p) a=b4 (.bl b7,a):=by show(dC 8 a (PP p) (PP p)).map (λb=>(D.bl (!b),a))=_;rw[BC 6];simp
theorem XS k(hw:1<=w/\w<=3)(hh:1<=h/\h<=3){ms:List ((Int×Int)×Str)}(nd:(ms.map (·.1)).Nodup)(hl:ms.length<=4)(hn:ms≠[])(O:∀m∈ms,m.1∈(fF w h).filter jG)(ok:∀m∈ms,m.2="o"\/m.2="h"\/m.2="v")(g:l[d]?=b4 (.dT (bQ ms))):W (Hw (k+12) [v,y,b4 (.tup [.int w,.int h]),A,b4 (.loc d),B,E,b6,b6,b6] l) λp=>match p.1 with|.rt x=>x=.bl b8|_=>False:=by
 have q:1<=w/\w<=6:=by lia
 have n:1<=h/\h<=6:=by lia
 have Z:vW (.loc d) l=b4 (.loc l.length,l++[C.lst (ms.map MD)]):=by simp only[vW,g];unfold bQ;rw[Yu];rfl
 have em:nR (aA 4) [v,y,b4 (.tup [.int w,.int h]),A,b4 (.loc d),B,E,b6,b6,b6] l=b4 (.loc l.length,l++[C.lst (ms.map MD)]):=by unfold nR;exact Z
 have Y:aB (aC aG (aA 2) (mC (.int 0))) (aB (aC aG (aA 2) (mC (.int 1))) (aB (nR (aA 4)) aD)) [v,y,b4 (.tup [.int w,.int h]),A,b4 (.loc d),B,E,b6,b6,b6] l=b4 ([.int w,.int h,.loc l.length],l++[C.lst (ms.map MD)]):=
  bZ (bC (bT (r:=(.int w,l)) rfl (bC (bT (r:=(.int h,l)) rfl (bC (bT (r:=(.loc l.length,l++[C.lst (ms.map MD)])) em ⟨_,rfl,rfl⟩))))))
 refine bO (aS Y (WY (k+8) q n (by lia) nd O ok (bB _ _) _ λS μ1 _ r=>?_));have lS:=r.length_eq;have s:(S.map (·.1)).Nodup:=(r.map (·.1)).nodup_iff.mpr nd;have T:S≠[]:=λz=>hn (by rw[z]at r;exact List.nil_perm.mp r);have I:((S.map (·.1)).map oG).Nodup:=Ja s (λe he=>by
  obtain⟨m,hm,rfl⟩:=Yw.mp he;obtain⟨a,b⟩:=Zu.mp (O m (r.mem_iff.mp hm));have a':=mem_pl.mp a;exact Zu.mpr ⟨mem_pl.mpr (by lia),b⟩) XJ
 refine bO (aS rfl (WG (k+10) q n (by lia) _ _ λμ2 p2=>?_));cases G:(bH w h).find? (bW (aL S))with
 |none=>have hT:(iB (aL S) w h).length<64:=a7C (WR q n G) (by lia);refine tJ (b:=b8) (tS rfl) (λ_=>w4 (bF (XQ (λi l Q R H=>XG k q n s (by lia) I G hT R l Q H) λa b1 b2 j g3 h1 h2=>?_))) λz=>nomatch z;have U:=aR j (C.lst []);have J:=aR (j++[C.lst []]) (C.lst []);have K:=aR (j++[C.lst []]++[C.lst []]) (C.lst [.loc j.length,.loc (j++[C.lst []]).length]);have L:=U.trans (J.trans K);exact bT (r:=(.loc (j++[C.lst []]++[C.lst []]).length,j++[C.lst []]++[C.lst []]++[C.lst [.loc j.length,.loc (j++[C.lst []]).length]])) rfl ⟨_,XN (aI L g3) (bB _ _) (aI L h1) (aI L h2) (aI (J.trans K) (bB _ _)) (aI K (bB _ _)),rfl⟩|some c=>
  refine tJ (b:=b7) (tS rfl) (λz=>nomatch z) λ_=>mK (c_seq' (w_mForI.mpr ((tF (j:=0)).mpr ⟨_,rfl,by decide,?_⟩)));refine n8 (lo:=0) (n:=4) (λi X M=>∃o,X=[v,y,b4 (.tup [.int w,.int h]),A,b4 (.loc d),B,E,b4 (SH w h S),b4 (PP c),o]) ⟨b6,rfl⟩ ?_ λX M ⟨o,e⟩=>by rw[e];exact cP ⟨_,rfl,rfl⟩
  rintro i _ j R ⟨o,rfl⟩;refine⟨_,rfl,w_mIfS.mpr (Vx (eI (bF (aS rfl (XD (k+1) q n G T (by lia) _ _ λb u U g4=>bT (r:=(.loc u.length,u++[C.lst ([0,1].map D.int)])) rfl ((UC (ps:=[0,1]) (qs:=[0,1]) (aI (aR _ _) g4) (bB _ _)).mpr ⟨_,rfl,rfl,eI (bF (aS rfl (XE (k+1) q n G T (by lia) _ _ λN J=>⟨_,rfl,_,XR c N,_,rfl,?_⟩)))⟩))))))⟩;exact(if_neg Yj).mpr (w_mNext.mpr ⟨_,rfl⟩)
theorem XT k(ns:List Int)e:W (f (k+13) "law" [.rol (ns.map D.int)] e) λp=>p.1=.bl true:=by
 refine cL (Vr (k+12) _ e) (bO (aS rfl (Iv (k+11) ns (by lia) _ _ ?_)));refine bO (bT (r:=(.tup [.int (1+fZ ns 0%3),.int (1+fZ ns 0/3%3)],e)) (by kernel_rfl) ?_);have hw:1<=1+fZ ns 0%3/\1+fZ ns 0%3<=3:=by lia
 have r:1<=1+fZ ns 0/3%3/\1+fZ ns 0/3%3<=3:=by lia
 generalize 1+fZ ns 0%3=w at hw ⊢;generalize 1+fZ ns 0/3%3=h at r ⊢;refine bO (aS rfl (WH (k+10) (w:=w) (h:=h) (by lia) (by lia) _ _ λl a K u=>?_));have A:(fF w h).filter jG≠[]:=λz=>by have:(1,1)∈(fF w h).filter jG:=Zu.mpr ⟨mem_pl.mpr ⟨⟨by decide,show(1:Int)<4*w by lia⟩,by decide,show(1:Int)<4*h by lia⟩,by decide⟩;rw[z]at this;cases this
 refine bO (w_mDNewT.mpr (c_seq' (w_mForI.mpr ((tF (j:=0)).mpr ⟨([.int (1+fZ ns 0/9%4)],a++[C.dT []]),by kernel_rfl,by lia,?_⟩))));obtain⟨n,B⟩:∃n:Nat,1+fZ ns 0/9%4=n:=⟨(1+fZ ns 0/9%4).toNat,by lia⟩;have E:1<=n/\n<=4:=by lia
 rw[B,a0k];have G:=aR a (C.dT []);refine n8 (lo:=0) (n:=n) (b:=BS (k+12)) (ShI (b4 (.rol (ns.map D.int))) (b4 (.int (fZ ns 0))) (b4 (.tup [.int w,.int h])) l a.length ((fF w h).filter jG) a) (.mk (ms:=[]) G (bB _ _) .nil (Yd _) (λz=>absurd z (ZM _)) (λ_ z=>nomatch z) (λ_ z=>nomatch z)) (λi L j H I=>?_) ?_
 .obtain⟨o,s,v⟩:=XM (x5:=b6) (k+11) ns A u (Yd _) (by lia) I;refine⟨o,s,bA v λp b=>?_⟩;obtain⟨c,q⟩:=p;cases c with
  |nx=>exact b|ct=>exact b|_=>exact b.elim
 .rintro _ j ⟨p,g,nd,J,d,y,ok⟩;refine bA (XS k hw r nd (by lia) (d (by lia)) y ok g) λp b=>?_;obtain⟨c,q⟩:=p;cases c with
  |rt x=>exact b|_=>exact b.elim
theorem XU:∀ns:List Int,ns.length<=63->∃μ',iQ S ds 13 "law" [.rol (ns.map D.int)] []=b4 (.bl b8,μ'):=λns _=>by obtain⟨⟨d,μ'⟩,a,b⟩:=XT 0 ns [];dsimp only at b;subst b;refine⟨μ',?_⟩;unfold f at a;exact a
theorem XW Q:tD (Kx Q) "NoEdge" "edge":=Bw (K:=Kx Q) (x:="NoEdge") (a:="edge") (bn:="CreaseError") (qual:="NoEdge.__init__") (sf:="self") (ar:="edge") (st:=fR 12 0) (s1:=(cG (fR 12 0)).getD 0 (.Pass ⟨0,0,0,0⟩)) (s2:=(cG (fR 12 0)).getD 1 (.Pass ⟨0,0,0,0⟩)) (by kernel_rfl) (by kernel_rfl) (by kernel_rfl) (by kernel_rfl) (by kernel_rfl) (by kernel_rfl) (by kernel_rfl) (by kernel_rfl) (by kernel_rfl) (λkV b c an a ct u v=>by kernel_rfl)
theorem XX Q:tD (Kx Q) "Twice" "edge":=Bw (K:=Kx Q) (x:="Twice") (a:="edge") (bn:="CreaseError") (qual:="Twice.__init__") (sf:="self") (ar:="edge") (st:=fR 13 0) (s1:=(cG (fR 13 0)).getD 0 (.Pass ⟨0,0,0,0⟩)) (s2:=(cG (fR 13 0)).getD 1 (.Pass ⟨0,0,0,0⟩)) (by kernel_rfl) (by kernel_rfl) (by kernel_rfl) (by kernel_rfl) (by kernel_rfl) (by kernel_rfl) (by kernel_rfl) (by kernel_rfl) (by kernel_rfl) (λkV b c an a ct u v=>by kernel_rfl)
theorem XY Q:tD (Kx Q) "Barred" "corner":=Bw (K:=Kx Q) (x:="Barred") (a:="corner") (bn:="CreaseError") (qual:="Barred.__init__") (sf:="self") (ar:="corner") (st:=fR 14 0) (s1:=(cG (fR 14 0)).getD 0 (.Pass ⟨0,0,0,0⟩)) (s2:=(cG (fR 14 0)).getD 1 (.Pass ⟨0,0,0,0⟩)) (by kernel_rfl) (by kernel_rfl) (by kernel_rfl) (by kernel_rfl) (by kernel_rfl) (by kernel_rfl) (by kernel_rfl) (by kernel_rfl) (by kernel_rfl) (λkV b c an a ct u v=>by kernel_rfl)
theorem xz Q:XcOk S (Kx Q):=Ui (by kernel_rfl) (by kernel_rfl) (by kernel_rfl) (by kernel_rfl) (by kernel_rfl) (a2v.mpr ⟨XW Q,a2v.mpr ⟨XX Q,a2v.mpr ⟨XY Q,λ_ z=>nomatch z⟩⟩⟩)
theorem dz Q:wN (Kx Q) ds:=by unfold wN;kernel_rfl
theorem cz Q:Hd (Kx Q) S.con=true:=by kernel_rfl
theorem nz Q:S.no.map (Zn (Kx Q) Y0)=S.no.map λ_=>b4 none:=by kernel_rfl
theorem XZ{P:Yt}{w:YL}{Q:ZJ}
  {a:Addr}{o:a5W}{j:a5W}{q:a5W}{k:a5W}{b:Nat}
  (g_TURNED:Zn (Kx Q) Y0 "TURNED"=b4 (b4 (.ref a)))
  (hd0:(Kx Q).lookup a=b4 {cls:=.type "dict",data:=.dict #[⟨hashStr w "h",.str "h" o,.str "v" j⟩,⟨hashStr w "v",.str "v" q,.str "h" k⟩] b})
  (zd0:(a==ZA)=b7)
  {h:Y5}{d:Str → Option Value}(X:(Kx Q).In h)(G:h.Ns Y0 d):TxtOk P w (Kx Q) d S ds ∧ ∃f i,Fun (Kx Q) "law" "law" (aH 74) f i ∧ d "law"=b4 (.ref f) ∧ ∀(s:X7)(u:Value),a4v s i ⟨[u],[]⟩ [("_law_script",u)]:=by
 refine⟨⟨T3 (by decide +kernel),T4 λp n=>(Ha X G (dz Q) p n).1,T5 (Uc X G (cz Q)),λx c e=>?_,T8 (Ub X G (nz Q)),xz Q,G4 (by kernel_rfl) (by kernel_rfl),G4 (by kernel_rfl) (by kernel_rfl)⟩,Ua X G (dz Q) (by kernel_rfl) (by kernel_rfl)⟩
 .refine T6 ?_ x c e;refine a2v.mpr ⟨⟨a,[(a2i "h",(.str "v")),(a2i "v",(.str "h"))],[(a2i "h",a2K "v" j),(a2i "v",a2K "h" k)],a0z X G g_TURNED,zd0,λr l=>T7 (ks:=[a2i "h",a2i "v"]) (l _ _ hd0) (.cons (G5 _ _) rfl rfl (.cons (G5 _ _) rfl rfl (.nil))) (by decide +kernel) rfl,.cons ⟨rfl,⟨_,rfl⟩⟩ (.cons ⟨rfl,⟨_,rfl⟩⟩ (.nil)),λ_ _ _=>.cons (.str _) (.cons (.str _) (.nil))⟩,λ_ z=>nomatch z⟩
end Lw
open PySem PySem.W PyProof.Rows
set_option maxRecDepth 100000 in
set_option maxHeartbeats 0 in
theorem PySem.Challenge.cw_creasecourt_k56_barred_refused_holds : PySem.Challenge.rw_creasecourt_k56_barred_refused.Holds := by
 w_on
 refine holds_law (by decide +kernel) fun a=>?_
 refine holds_open (q:=Lw.Vw) (loose:=["TURNED"]) (Xt:=fun s=>xlAt Lw.Vw [] s&&recOk (a9d (a7B (Zc X9))) s) (XP:=XL Lw.Vw []) (Yf:=Hook.obs (b0j Lw.Kx Lw.As Lw.qW)) (Ya:=Hook.val (b0j Lw.Kx Lw.As Lw.qW)) (YP:=Hook.says (b0j Lw.Kx Lw.As Lw.qW)) (N:=9602) Lw.run (Hook.of _) (Hook.keeps _) (fun s e=>xl_of s (a0L.mp e).1) XL.keeps (by rfl) (by rfl) (by rfl) (fun s e=>recFacts_of (a0L.mp e).2) (by rfl) (by first|assumption|decide +kernel) (by decide +kernel) ⟨rfl,rfl,rfl,rfl,rfl,by decide +kernel⟩ ?hw ?hc
 case hw=>w_witness2
 k_fill
 refine L3.walkM (l:=X9) (S:=Lw.S) (ds:=Lw.ds) (k:=13) (st:=Lw.aH 74) (x:="_law_script") rfl rfl ⟨rfl,by decide,by decide⟩ (fun w h Y=>PySem.W.kIn_of Y) (by kernel_rfl) (by kernel_rfl) ?F (fun c h _=>Lw.XU c h)
 case F=>
  intro w d h b G
  refine' @Lw.XZ Zr w _ 388 696 697 698 699 2 ?g_TURNED ?hd0 ?zd0 _ _ b G
  (case g_TURNED=>kernel_rfl)
  (case hd0=>kernel_rfl)
  (case zd0=>exact rfl)
