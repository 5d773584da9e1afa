import PyProof.Rows.All
import Wide.All
import OpenK.AllK
import PySem.Challenge.RW_creasecourt_k84_sheets_unfolded
open Option renaming some->a7,none->b0
open Bool renaming false->b3,true->b5
open And renaming symm->a9l
open Array renaming mk->a1r,getElem?_toList->a1y,length_toList->a2p,getElem?_eq_none->a4n,getElem?_eq_some_iff->a4X,getElem?_eq_getElem->a5k,replicate->a7t,getD->a7M,toList->b0R,map->b2g
open Bool renaming and_eq_true->a0j,false_eq_true->a0t,false_ne_true->a0K,eq_iff_iff->a2c,not_false->a2E,not_true->a2N,or_eq_true->a3m,and_eq_true_iff->a3O,not_eq_true'->a5r,or_false->a5t,noConfusion->b0j,and_false->b0D,and_true->b0Q,or_comm->b1i
open Classical renaming choose->a3E,choose_spec->a4k
open False renaming elim->a2w
open ForInStep renaming yield->a3U
open Int renaming toNat_natCast->a4u,emod_lt_of_pos->a5g,mul_eq_zero->a5U,emod_nonneg->a5V,add_zero->a7g,emod_emod_of_dvd->a9k,emod_add_emod->b0h,emod_two_eq->b0C,mul_nonneg->b0O,mul_le_mul->b0P,le_refl->b1X
open List renaming length_map->a0d,getElem?_eq_some_iff->a0f,getElem?_set_ne->a0p,length_append->a0q,map_cons->a0r,mem_map->a0u,getElem?_map->a0v,getElem?_eq_getElem->a0w,map_map->a0x,map_append->a0z,mem_cons->a0D,prefix_refl->a0E,mem_cons_of_mem->a0F,set_cons_zero->a0H,set_cons_succ->a0I,size_toArray->a0J,mem_singleton->a0N,mem_cons_self->a0P,length_cons->a0Q,mem_of_getElem?->a0S,getElem?_append_left->a0W,cons_append->a0X,mem_filter->a0Y,length_filter_le->a0Z,getElem?_set_self->a1a,length_set->a1d,all_cons->a1e,nil_append->a1h,getElem?_eq_none_iff->a1i,length->a1n,range->a1o,zipWith_cons_cons->a1p,mem_append->a1t,filter_cons_of_neg->a1u,map_congr_left->a1v,length_take->a1w,filter_cons_of_pos->a1x,contains_iff_mem->a1B,filter_append->a1D,getD->a1H,getElem?_append_right->a1I,take_length->a1N,append_nil->a1O,mem_append_right->a1Z,lookup->a2r,length_singleton->a2s,mem_range->a2u,find?_eq_none->a2x,all_eq_true->a2z,filterMap_cons->a2G,nodup_cons->a2I,filter_nil->a2J,mem_of_find?_eq_some->a2K,length_eq_zero_iff->a2R,length_reverse->a2U,not_mem_nil->a3a,replicate->a3b,take_append_drop->a3d,length_replicate->a3e,getElem?_eq_none->a3f,find?_cons->a3l,nodup_append->a3n,append_assoc->a3o,getElem?_replicate->a3s,filter_eq_nil_iff->a3x,foldl_cons->a3z,forall_mem_cons->a3N,map_nil->a3S,lookup_cons->a3T,pairwise_iff_getElem->a3W,filter_sublist->a3X,any_cons->a4d,zip_cons_cons->a4g,any_map->a4q,set_append_right->a4x,set_append_left->a4E,filter_map->a4I,flatMap_append->a4P,filter_eq_self->a4Q,zipWith->a4R,idxOf_lt_length_of_mem->a4S,prefix_append->a4Z,mem_filterMap->a5a,getD_eq_getElem?_getD->a5b,reverse_cons->a5p,length_drop->a5A,getElem_mem->a5B,take_of_length_le->a5I,range_succ_eq_map->a5J,length_nil->a5P,find?_some->a5Q,mem_iff_getElem?->a5T,take_succ->a6d,range'->a6e,mem_of_mem_take->a6f,mem_append_left->a6g,map_eq_nil_iff->a6v,length_pos_iff->a6w,zip_nil_right->a6H,set_set->a6Q,length_range->a6R,foldl_append->a6S,find?_append->a6T,ext_getElem?->a6U,any_eq_false->a6V,range_succ->a7v,of_mem_zip->a7w,length_zip->a7x,exists_mem_of_ne_nil->a8a,drop_eq_getElem_cons->a8b,map_take->a8j,getElem?_take_of_lt->a8k,pairwise_singleton->a8o,getElem?_cons_succ->a8p,all_eq_not_any_not->a8q,append_eq_nil_iff->a8u,all_map->a8v,singleton_append->a8I,getElem?_zipWith->a8J,eq_nil_or_concat->a8K,dropLast_eq_take->a8L,concat_eq_append->a8M,map_id->a8V,map->a8W,length_take_le'->a8X,getElem?_of_mem->a8Y,getElem_of_mem->a9i,getD_cons_zero->a9j,pairwise_cons->a9u,getElem_idxOf->a9v,take_add_one->a9S,pairwise_map->a9T,map_inj_left->a9U,filter_congr->a9V,range'_succ->b0b,map_reverse->b0c,getElem_inj->b0d,filter_cons->b0e,ext_getElem->b0f,any_eq_true->b0g,range_zero->b0u,forIn_cons->b0v,tail_drop->b0y,nodup_nil->b0z,drop_zero->b0A,map_id'->b1g,any_nil->b1h,tail->b2u
open List.Pairwise renaming map->a4F,nil->a7R,imp->b1w
open List.cons renaming injEq->a4y
open Nat renaming le_refl->a0l,ne_of_lt->a0y,lt_of_lt_of_le->a0V,le_trans->a1l,lt_succ_self->a1A,zero_le->a1U,ne_of_gt->a2h,lt_irrefl->a2Z,le_succ->a3w,le_of_eq->a3V,not_lt->a4j,lt_succ_of_lt->a4t,le_of_lt->a4U,sub_self->a5O,not_lt_zero->a5S,mul_le_mul->a6r,lt_trichotomy->a7e,lt_trans->a7f,min_eq_left->a7J,succ_pos->a8G,succ_mul->a8H,le_of_not_lt->b0t,sub_zero->b1v,log2_lt->b1W
open Ne renaming symm->a1j
open Option renaming bind_eq_some_iff->a0a,map_eq_some_iff->a0g,bind_some->a0G,map_some->a0M,isSome_map->a5e,getD_none->a6P,isSome_iff_exists->a7Q
open Option.some renaming inj->a0B,injEq->b2t
open Or renaming inr->a6O,inl->a8i
open PUnit renaming unit->b1t
open Prod renaming ext->a1g,ext_iff->a6N
open Prod.mk renaming inj->a3i,injEq->a9Z
open PyProof.Rows renaming callWith_type1->a1M,seqObj->a2d,IntsAre->a3y,IsTup->a3M,entry_list_sort->a5c,slot_list_sort->a5w,args_list_sort->a5z,callWith_builtin1->a6a,sortedAll_old->a6F,sortedAll_at->a6M,AllBare->a6X,subscriptTail->a7i,listUpdate_at->a7j,sortedHeap->a7p,assignInOrder_cons->a7q,lt_int->a7H,envOfC->a7I,seqEpoch_at->a8e,Subscript_->a8E,subscriptTail_builtinR->a9B,plain_sorted->a9C,entry_sorted->a9H,args_sorted1->a9I,kind_sorted->b0p,boot_range->b0M,assignInOrder_nil->b0X,list_sort_plain->b1C,get?_update_seq->b1E,wpAny_notIn_heap->b1G,sorted_ints->b1H,pow_int_small->b1I,pow_int->b1J,oneLt_int->b1K,mul_int->b1L,mirror_perm->b1M,floordiv_int->b1N,entry_proto_collect'->b1O,entry_list_iadd'->b1P,call_len_slot->b1Q,callWith_kw->b1R,bubble_perm->b1S,bubble->b1T,assign_Tuple_tuple->b1U,assign_Tuple->b1V,tail_any->b2i,sortedHeap_old->b2j,Call_->b2v
open PyProof.Rows.Boot renaming dict->a3u,sorted->a4i,list->a4s,tuple->a5R,min->a6b,int->a6c,sum->a9K,str->a9L,reversed->a9M,len->a9N,isinstance->a9O,bool->a9P,all->a9Q
open PySem renaming wpAny_bind->a0b,wpAny_pure->a0h,Shared->a0i,sizeLine->a0s,wpAny->a0A,model->a0L,sizeLine_eq->a0O,Program->a0R,starEach->a0T,Around->a1b,World->a1f,wpAny_holding->a1q,Heap->a1C,compareOp->a1J,wpAny_newObj_type->a1K,mainGlobals->a1L,wpAny_mono->a1R,Pos->a1V,sysModules->a1W,mem_of_lookup->a1X,cLine->a2e,wpAny_dictEntries->a2f,Params->a2j,wpAny_call_entry->a2k,wpAny_Call_Name_kw->a2n,plainId_quiet->a2o,bootBuiltins->a2q,wpAny_truthy_bool->a2v,codeAny_builtin->a2A,backTo->a2F,FuncData->a2L,wpAny_notOrdered_dict->a2O,attributeBase->a2Q,sliceBounds->a2S,treeTable->a2W,assignEach->a2Y,keywordEach->a3g,Scope->a3k,codeAny->a3q,NameKind->a3r,wpAny_setField_rec->a3B,pyNext->a3C,Keyword->a3D,wpAny_updateSeq->a3G,wpAny_passesOwn->a3H,wpAny_ite_split->a3I,wpAny_dictEpoch->a3J,swappedStores->a3K,behindInMarks->a3L,rawInt->a3P,wpAny_pyIter_list->a3Q,foldedSetIterable->a3R,wpAny_tryCatch->a3Y,wpAny_rule->a3Z,binaryOp->a4a,wpAny_isInstance->a4e,tupleKind->a4f,wpAny_newList->a4l,backToKw->a4m,wpAny_specialOf->a4o,argBest->a4p,wpAny_Call_method0_late->a4v,intKind->a4A,firstArgMember->a4B,compEnvC->a4C,builtinLookup_eq_fast->a4G,evalArgs_none->a4H,CmpOp->a4J,swapsWith->a4M,wpAny_field->a4T,IsRangeIter->a4V,Paired->a5d,wpAny_typeOf->a5m,call_meetsIn->a5n,OsState->a5o,wpAny_setField->a5u,wpAny_pyIter_tuple->a5v,getattributeRaised->a5x,constantsAlone->a5y,wpAny_letGo->a5G,richCompare->a5H,wpAny_standAt->a5K,pyIter->a5L,foldedForSure->a5M,wpAny_callSpecial?_slot->a5W,Env->a6h,wpAny_pyNext_list_item->a6i,wpAny_isOneOf_itemiter->a6j,typeLookup->a6k,codeAny_mono->a6l,call_meets->a6m,Result->a6n,wpAny_execs_nil->a6s,typeLookup_type->a6t,letOwnedTupleGo->a6u,wpAny_pyNext_list_end->a6y,wpAny_isOneOf_valiter->a6z,wpAny_seqItems->a6I,wpAny_of_eq->a6J,callType_codes->a6K,atKey->a6L,swapsWithSole->a7h,assignInOrder->a7k,IsItemIterOut->a7m,assign->a7r,wpAny_pyIter_slot->a7A,slot_list_getitem->a7B,setField->a7C,callerA->a7E,BindsTo->a7L,updateSeq->a7S,kt_code_dict_new->a7U,getMethod->a7V,PassesOwn->a7Z,subscripted->a8d,typeNameOfWhole->a8m,Within->a8n,standAt->a8r,getItem->a8s,wpAny_newTuple->a8x,wpAny_load->a8y,wpAny_fieldsOf->a8z,sliceRange->a8A,isSubtype_stop->a8B,dictSetDefault->a8C,bindArgs->a8D,Operator->a8F,wpAny_handled->a9c,wpAny_getItem_list_slice->a9d,wpAny_attempt->a9e,wpAny_pyNext_tuple_item->a9m,slicePick->a9n,seqItems?->a9o,bindL->a9q,bindC->a9r,wpAny_pyNext_tuple_end->a9w,wpAny_pyNext_range_end->a9x,wpAny_pyIter_rangeiter->a9y,wpAny_Call_method_late->a9z,typeOf->a9A,newExc->a9D,isTrue->a9G,wpAny_isOneOf_keyiter->a9W,Sem->a9X,wpAny_throw->b0k,wpAny_pyIter_keyiter->b0l,unpackItems->b0m,storedH_new->b0n,lookup_relabel_local->b0o,getAttr?->b0q,bindName->b0r,SetTable->b0s,IntMulOk->b0w,GenState->b0x,wpAny_tupleItemsOf->b0E,wpAny_pyIter_range->b0F,wpAny_Name->b0G,sub_AttributeError->b0H,entryOfKey->b0I,closureFor->b0J,checkCount->b0K,builtinsNs->b0L,wpAny_pyIter_enum->b0S,wpAny_assign_Name->b0T,storedH->b0U,relabel->b0V,call_sum_walkAnyS->b0W,MeetsIn->b1f,wpAny_pyIter_zip->b1j,wpAny_forIn_list->b1k,wpAny_execs_cons->b1l,lastMarks->b1n,cellsFrom->b1p,call->b1q,wpAny_loadPart'->b1B,importedModules->b1D,wpAny_bindName->b2h,recursionLimit->b2k,raiseNew->b2l,newTuple->b2m,methodCallForm->b2n,callWith->b2r,Tok->b2s
open PySem.Around renaming under_plainId->a1P,under->a8l
open PySem.Builtin renaming sorted->a6D
open PySem.Builtin.Builtins renaming bindParams->a3p
open PySem.Builtin.Dict renaming showsAll->a2C,updateFrom->a2M,selfAndRest->a4L,noArgs->a5E,entriesForEmpty->a6x,addKeywords->a6W,pairItems->a7o,quietEq->a7z,readDirectly->b2a,pendingCount->b2b,mergeDict->b2c,merge->b2d,keyAndDefault->b2e,dictSlotNone->b2f
open PySem.Builtin.Dict_items renaming ownsTuple->a2H,ownedTupleIsFree->a5i,ownedTupleFields->a5j,pairFromOwner->a5s,newIterator->a5D,dictOf->a5Y
open PySem.Builtin.Int renaming intBits->a1k,intTooBig->a4h
open PySem.Builtin.List renaming listExtendWith->a2t,listSameRef->a3F,listTooLong->a4K,listLengthHint->a6E,listItems->a7n,listUpdate->b1Z
open PySem.Builtin.Range renaming rangeSize->a1s,small->b1A
open PySem.Builtin.Str renaming occurrences->a2i
open PySem.Builtin.Tuple renaming tupleHashOf->b1y,tupleCompareSizes->b1z
open PySem.Calls renaming callWith_builtin->a2V,spliced_cons->a4W,call_function_entry->a5h,spliced_nil->a5l,Name_function_global->a7K,evalArgs_plain->a8N
open PySem.Challenge renaming rw_creasecourt_k84_sheets_unfolded->a0k,pw_creasecourt_k84_sheets_unfolded->a1E
open PySem.Code renaming isFrame->a8w,frames->b1x
open PySem.Data renaming fields->a1c,dict->a3A,cell->a5C,seq->a9a,cls->a9b
open PySem.F renaming slot_dict_items->a4b,plainAttrs_dict->a4c,slot_dict_setdefault->a7d,args_dict_items_1->a7u,slot_dict_values->a7F,entry_dict_items->a7G,type_dict_items->a7N,plainAttrs_list->a7O,plain_min_loop->a7Y,slot_dict_get->a8h,plain_min->a8R,entry_min->a8S,kind_min->a9h
open PySem.Flow renaming next->b0i
open PySem.Heap renaming get?_push_of_some->a0e,lt_size->a0m,get?_push_size->a0o,get?_update_other->a1Q,get?_update_self->a2a,SameBut->a2X,size_push->a3c,ExtBut->a5q
open PySem.Heap.DictOfH renaming new->b1Y
open PySem.Heap.IsSliceOf renaming new->a7y
open PySem.Heap.IsTuple renaming push->a6p
open PySem.Heap.SameBut renaming update->a2y,refl->a8c
open PySem.IsRange renaming new->b0B
open PySem.NameKind renaming free->a2T,cell->a3j
open PySem.Obj renaming mapSeq->a2g,data_mapFields->a5f,data_mapDictKeys->a6q,mapFields->a6G,isFreed_of_fields->a8U,isFreed_of_dict->a9t,cls_mapFields->b0a
open PySem.Obj.ExactDict renaming mapDictKeys->b1u
open PySem.Paired renaming length->a7P,snoc->b0N
open PySem.PassesOwn renaming never->a8T
open PySem.SeqAt renaming ne_of_list_tuple->a2D,EqAt->a5F
open PySem.SeqAt.EqAt renaming int_int->a8f
open PySem.Str renaming ofString->a1T
open PySem.Value renaming ref->a0n,type->a0C,int->a1m,none->a1z,builtin->a1G,bool->a2b,str->a6Y,float->b1b,bytes->b1c
open PySem.W renaming Frag->a0c,behindTheImports->a0U,boot_drawn->a1S,findIn->a1Y,keepIn->a2l,fnOf->a2m,emptyDict->a2B,kia_one->a2P,instObj->a3h,nsIn->a3t,plainGet->a4r,boot_heap->a4w,topFrame->a4z,codeIn->a4N,hasDictIn->a4Y,lookIn->a5N,plainGet_of->a5X,mg_of->a5Z,callWith_K->a6o,plainOver->a6A,methodObj->a6B,isFn->a6C,takerIn->a7b,makesIn->a7c,piecesOf->a7D,segRun->a7T,boot_toks->a7W,cellsFrom_some->a7X,methodCall_KW->a8g,callWith_K0->a8t,specialIn->a8O,kitx_list->a8P,kitx_dict->a8Q,handedIn->a9g,kas_tail3->a9p,OpenLaw->a9s,kas_rev->a9E,kas_descPart->a9F,kitOne->a9J,WalkO->a9Y,piece_app->b1m,kas_place->b1o,kas_sort->b2o,kas_desc->b2p,kHook->b2q
open PySem.W.KasFin renaming intro->b1e
open PySem.W.KasT renaming ret->a8Z
open PySem.W.Looks renaming here->b1s
open PySem.W.OpenLaw renaming row->a1F
open PySem.W.OpenRow renaming toRowW->a9R
open PySem.W.RowW renaming records->b1d
open PySem.W.WData renaming int->a4D,weightAll->a4O,layable->a7l,weight->a7s,layableAll->b1r
open PySem.W.WShape renaming has->b1a
open PySem.Walks renaming list->a9f,tuple->b0Y,range->b0Z
open PySem.Within renaming cons->b1F
open Sum renaming inr->a6Z,inl->a7a
open True renaming intro->a3v
set_option compiler.extract_closed false
set_option bootstrap.genMatcherCode false
set_option genSizeOf false
set_option genSizeOfSpec false
set_option Elab.async false
set_option linter.all false
set_option maxRecDepth 100000
set_option linter.all false
abbrev gq:=List PySem.Value
abbrev jw:=List<|PySem.Addr×PySem.Obj
abbrev jq:=List<|Int×Int
namespace L2
open PySem PySem.Spec PyProof.Rows
noncomputable abbrev cA:=Sum Int Str
noncomputable def xW:cA->Value->Bool
 |.inl k,v=>Value.isInt k v|.inr x,v=>Value.isStrOf x v
noncomputable def Cr(w:a1f):cA->Int
 |.inl k=>hashInt k|.inr x=>hashStr w x
theorem kT:∀{k}{v},xW k v=b5->(∃i t,k=a7a i/\v=a1m i t)\/(∃x t,k=a6Z x/\v=a6Y x t)
 |.inl i,v,h=>by obtain⟨t,e⟩:=Value.isInt_shape (k:=i) (v:=v) h;exact .inl ⟨i,t,rfl,e⟩
 |.inr x,v,h=>by obtain⟨t,e⟩:=Value.isStrOf_shape (x:=x) (v:=v) h;exact .inr ⟨x,t,rfl,e⟩
theorem Kh a b:decide ((a7a a:cA)=a7a b)=(a==b):=by
 by_cases e:a=b
 .subst e;simp
 .have h:¬ (a7a a:cA)=a7a b:=λq=>e<|Sum.inl.inj q;rw[decide_eq_false h];exact(beq_eq_false_iff_ne.mpr e).symm
theorem Ki a b:decide ((a6Z a:cA)=a6Z b)=decide (a=b):=by
 by_cases e:a=b
 .subst e;simp
 .have h:¬ (a6Z a:cA)=a6Z b:=λq=>e<|Sum.inr.inj q;rw[decide_eq_false h,decide_eq_false e]
theorem Kj a b:decide ((a7a a:cA)=a6Z b)=false:=decide_eq_false λq=>nomatch q
theorem Kk a b:decide ((a6Z a:cA)=a7a b)=false:=decide_eq_false λq=>nomatch q
noncomputable def q0 prog w:PySem.KeyKind prog w cA where
 is:=xW
 hash:=Cr w
 inj:=λv a b g d=>by
  rcases kT g with⟨i,t,rfl,rfl⟩|⟨x,t,rfl,rfl⟩
  .rcases kT d with⟨j,u,rfl,e⟩|⟨y,u,rfl,e⟩
   .injection e with e1 _;rw[e1]
   .exact nomatch e
  .rcases kT d with⟨j,u,rfl,e⟩|⟨y,u,rfl,e⟩
   .exact nomatch e
   .injection e with e1 _;rw[e1]
 byValue:=λk v h=>by rcases kT h with⟨i,t,rfl,rfl⟩|⟨x,t,rfl,rfl⟩<;>rfl
 pyHash:=λc h=>by
  rcases kT c with⟨i,t,rfl,rfl⟩|⟨x,t,rfl,rfl⟩
  .exact wpAny_pyHash_int h
  .exact wpAny_pyHash_str h
 eqBool:=λl c h=>by
  rcases kT l with⟨i,t,rfl,rfl⟩|⟨x,t,rfl,rfl⟩
  .rcases kT c with⟨j,u,rfl,rfl⟩|⟨y,u,rfl,rfl⟩
   .rw[Kh]at h;exact wpAny_eqBool_int h
   .rw[Kj]at h;exact SeqAt.EqAt.int_str i t y u _ _ _ _ h
  .rcases kT c with⟨j,u,rfl,rfl⟩|⟨y,u,rfl,rfl⟩
   .rw[Kk]at h;exact SeqAt.EqAt.str_int x t j u _ _ _ _ h
   .rw[Ki]at h;exact wpAny_eqBool_str h
 «strs»:=λk x t v h=>by
  rcases kT h with⟨i,u,rfl,e⟩|⟨y,u,rfl,e⟩
  .exact nomatch e
  .injection e with e1 _;subst e1;cases v<;>rfl
inductive V where
 |non|bl (b:Bool)|int (i:Int)|str (x:Str)|byt (b:Array UInt8)|flt (b:UInt64)|ref (a:Addr)|ty (n:String)
 deriving DecidableEq
abbrev gw:=List V
noncomputable def RelV:V->Value->Prop
 |.non,u=>u=a1z|.bl b,u=>u=a2b b|.int i,u=>∃t,u=a1m i t|.str x,u=>∃t,u=a6Y x t|.byt b,u=>∃t,u=b1c b t|.flt b,u=>∃t,u=b1b b t|.ref a,u=>u=a0n a|.ty n,u=>u=a0C n
noncomputable abbrev Vals:gw->gq->Prop:=a5d RelV
theorem Vals.length(r:Vals xs us):xs.length=us.length:=a7P r
theorem Vals.get:∀{xs}{us}{i:Nat}{x},Vals xs us->xs[i]?=a7 x->∃u,us[i]?=a7 u/\RelV x u
 |_,_,_,_,.nil,e=>by simp at e
 |_,_,0,_,.cons r _,e=>by simp at e;subst e;exact⟨_,rfl,r⟩
 |_,_,i+1,x,.cons _ t,e=>by obtain⟨u,a,b⟩:=Vals.get (i:=i) (x:=x) t (by simpa using e);exact⟨u,by simpa using a,b⟩
theorem Vals.append:∀{xs a}{us ws},Vals xs us->Vals a ws->Vals (xs++a) (us++ws)
 |_,_,_,_,.nil,s=>s|_,_,_,_,.cons r t,s=>.cons r<|Vals.append t s
theorem Vals.take:∀{xs}{us}n,Vals xs us->Vals (xs.take n) (us.take n)
 |_,_,0,_=>.nil|_,_,_+1,.nil=>.nil|_,_,n+1,.cons r t=>.cons r<|Vals.take n t
theorem Vals.drop:∀{xs}{us}n,Vals xs us->Vals (xs.drop n) (us.drop n)
 |_,_,0,r=>r|_,_,_+1,.nil=>.nil|_,_,n+1,.cons _ t=>Vals.drop n t
theorem Vals.none_of:∀{xs}{us}{i:Nat},Vals xs us->xs[i]?=b0->us[i]?=none:=λ{xs us i} r e=>by have a:=r.length;have b:xs.length<=i:=a1i.mp e;exact a1i.mpr<|by lia
noncomputable def RelO:Option V->Option Value->Prop
 |some v,a7 u=>RelV v u|none,b0=>True|_,_=>False
noncomputable def KV{κ:Type}:List (κ×V)->List (κ×Value)->Prop:=a5d λ(p:κ×V)(q:κ×Value)=>p.1=q.1/\RelV p.2 q.2
noncomputable def kV:cA->V
 |.inl i=>.int i|.inr x=>.str x
inductive HO where
 |lst (xs:gw)
 |tup (xs:gw)
 |dK (kvs:List (cA×V))|dT (kvs:List (List cA×V))
 |set (S:Int->Bool)(n:Nat)
 |ins (C dx:Addr)(fs:List (Str×V))
 |own (x:Addr)
 |xd (fs:List (Str×V))
 |met (f x:Addr)
 |rng (lo hi:Int)
 |frz (o:Obj)(u:HO)
 |tbl (ps:Array Value)
 |ext (φ:a1C->Prop)
noncomputable abbrev Hp:=Addr->Option HO
noncomputable def aK(H:Hp)(a:Addr)(o:HO):Hp:=λb=>if b=a then a7 o else H b
theorem cP:aK H a o a=a7 o:=by unfold aK;rw[if_pos rfl]
theorem a9(h:b≠a):aK H a o b=H b:=by unfold aK;rw[if_neg h]
theorem eX{H:Hp}(h:H a=a7 o)(h':H b=b0):a≠b:=by intro e;subst e;rw[h]at h';cases h'
section
variable(P:a0R)(w:a1f)
noncomputable def TupN(h:a1C)(a:Addr)(xs:Array Value):Prop:=∃o,h.get? a=a7 o/\o.cls=.type "tuple"/\∃n,o.data=.seq xs n/\o.dict=b0
theorem TupN.tup{h:a1C}{a:Addr}{xs:Array Value}(x:TupN h a xs):a3M h a xs:=let⟨o,e,c,n,d,_⟩:=x;⟨o,e,c,n,d⟩
theorem TupN.new(h:a1C)items:TupN (h.push {cls:=.type "tuple",data:=.seq items}) h.objs.size items:=⟨_,a0o _ rfl,rfl,_,rfl,rfl⟩
noncomputable def ObjOk(H:Hp)(h:a1C)(a:Addr):HO->Prop
 |.lst b=>b.length<=a0s/\∃(its:gq)(n:Nat),Vals b its/\h.get? a=a7 {cls:=.type "list",data:=.seq its.toArray n}|.tup b=>b.length<=a0s/\∃its:gq,Vals b its/\TupN h a its.toArray|.dK kvs=>kvs.length<=a0s/\(a==a1W)=b3/\∃i,KV kvs i/\h.DictOf (q0 P w) a i|.dT kvs=>kvs.length<=a0s/\(a==a1W)=b3/\∃b:List (List cA×Addr×Value),
   a5d (λ(p:List cA×V)(q:List cA×Addr×Value)=>p.1=q.1/\H q.2.1=a7 (.tup<|p.1.map kV)/\RelV p.2 q.2.2) kvs b /\
   ∃o d j,h.get? a=a7 o/\o.ExactDict/\o.data=.dict d j/\d.toList=b.map (b0I<|a4f<|q0 P w)/\(b.map (·.1)).Nodup
 |.set S n=>h.SetOf (a4A P w) a S n|.ins C dx fs=>H dx=a7 (.own a)/\fs.length<=1000/\dx≠a/\h.get? a=a7 (a3h C dx) /\
   ∃c,h.Ns1 dx c/\(∀f,RelO (fs.lookup f) (c f))/\a8n c (fs.map (·.1))
 |.own _=>∃o,h.get? a=a7 o|.xd fs=>∃c,h.Ns1 a c/\∀f,RelO (fs.lookup f) (c f)|.rng lo hi=>∃t u v,h.get? a=a7 {cls:=.type "range",data:=.fields #[.int lo t,.int hi u,.int 1 v]}|.frz o u=>h.get? a=a7 o/\ObjOk H h a u|.tbl ps=>h.get? a=a7 {cls:=.none,data:=.fields ps}|.met f x=>h.get? a=a7 (a6B (.ref f)<|.ref x)|.ext φ=>φ h/\(∃o,h.get? a=a7 o)/\∀e g:a1C,φ e->(∀o,e.get? a=a7 o->g.get? a=a7 o)->φ g
noncomputable def HOk(H:Hp)(h:a1C):Prop:=∀a o,H a=a7 o->ObjOk P w H h a o
end
theorem ObjOk.lt{P:a0R}{w:a1f}{H:Hp}{h:a1C}{a:Addr}{o:HO}(x:ObjOk P w H h a o):a<h.objs.size:=by
 cases o with
 |lst c=>obtain⟨_,_,_,_,e⟩:=x;exact a0m e|tup c=>obtain⟨_,_,_,p⟩:=x;exact p.tup.lt|dK b=>obtain⟨_,_,_,_,o,_,_,e,_⟩:=x;exact a0m e|dT b=>obtain⟨_,_,_,_,o,_,_,e,_⟩:=x;exact a0m e|set S n=>obtain⟨o,_,_,_,e,_⟩:=x;exact a0m e|ins C d fs=>obtain⟨_,_,_,e,_⟩:=x;exact a0m e|own y=>obtain⟨_,e⟩:=x;exact a0m e|xd fs=>obtain⟨_,⟨_,_,_,e,_⟩,_⟩:=x;exact a0m e|rng i g=>obtain⟨_,_,_,e⟩:=x;exact a0m e|frz j u=>obtain⟨e,_⟩:=x;exact a0m e|tbl k=>exact a0m (show h.get? a=a7 _ from x)|met f y=>exact a0m (show h.get? a=a7 _ from x)|ext l=>obtain⟨_,⟨_,e⟩,_⟩:=x;exact a0m e
theorem a5d.mapP{F G:d->e->Prop}:∀{l₁}{c},a5d F l₁ c->(∀a b,F a b->G a b)->a5d G l₁ c
 |_,_,.nil,_=>.nil|_,_,.cons r t,f=>.cons (f _ _ r)<|a5d.mapP t f
theorem ObjOk.stay(x:ObjOk P w H h a o)(k:∀b u,(b=a\/H b=a7 (.own a))->h.get? b=a7 u->h'.get? b=a7 u)(I:∀b,H b=a7 (.own a)->H' b=a7 (.own a))(J:∀b m,H b=a7 (.tup m)->H' b=a7 (.tup m)):ObjOk P w H' h' a o:=by
 induction o with
 |lst m=>obtain⟨z,l,n,r,e⟩:=x;exact⟨z,l,n,r,k _ _ (.inl rfl) e⟩|tup m=>obtain⟨z,l,r,g,e,c⟩:=x;exact⟨z,l,r,g,k _ _ (.inl rfl) e,c⟩|dK s=>obtain⟨z,y,L,r,g,j,i,e,c⟩:=x;exact⟨z,y,L,r,g,j,i,k _ _ (.inl rfl) e,c⟩|dT s=>obtain⟨z,y,m,r,g,j,i,e,c⟩:=x;exact⟨z,y,m,a5d.mapP r λp q z=>⟨z.1,J _ _ z.2.1,z.2.2⟩,g,j,i,k _ _ (.inl rfl) e,c⟩|set S n=>obtain⟨g,j,i,t,e,c⟩:=x;exact⟨g,j,i,t,k _ _ (.inl rfl) e,c⟩|ins C M fs=>obtain⟨d,z,ne,e,A,⟨B,j,i,G,c⟩,r⟩:=x;exact⟨I _ d,z,ne,k _ _ (.inl rfl) e,A,⟨B,j,i,k _ _ (.inr d) G,c⟩,r⟩|own y=>obtain⟨g,e⟩:=x;exact⟨g,k _ _ (.inl rfl) e⟩|xd fs=>obtain⟨A,⟨B,j,i,e,c⟩,r⟩:=x;exact⟨A,⟨B,j,i,k _ _ (.inl rfl) e,c⟩,r⟩|rng O N=>obtain⟨t,u,v,e⟩:=x;exact⟨t,u,v,k _ _ (.inl rfl) e⟩|frz g u K=>obtain⟨e,q⟩:=x;exact⟨k _ _ (.inl rfl) e,K q⟩|tbl E=>have e:h.get? a=a7 {cls:=.none,data:=.fields E}:=x;show h'.get? a=a7 {cls:=.none,data:=.fields E};exact k a _ (.inl rfl) e|met f y=>have e:h.get? a=a7 (a6B (.ref f)<|.ref y):=x;show h'.get? a=a7 (a6B (.ref f)<|.ref y);exact k a _ (.inl rfl) e|ext Q=>obtain⟨p,⟨o,e⟩,st⟩:=x;exact⟨st _ _ p λo q=>k _ _ (.inl rfl) q,⟨o,k _ _ (.inl rfl) e⟩,st⟩
theorem HOk.lt{P:a0R}{w:a1f}{H:Hp}{h:a1C}{a:Addr}{o:HO}(x:HOk P w H h)(e:H a=a7 o):a<h.objs.size:=(x a o e).lt
theorem HOk.fresh{a:Addr}(x:HOk P w H h)(e:h.objs.size<=a):H a=none:=by
 cases q:H a with
 |none=>rfl|some u=>exact absurd (a0V (x.lt q) e)<|a2Z _
theorem HOk.kept(x:HOk P w H h)(k:∀b u,h.get? b=a7 u->h'.get? b=a7 u):HOk P w H h':=λa o e=>(x a o e).stay (λb u _ q=>k b u q) (λ_ q=>q) λ_ _ q=>q
theorem HOk.laid{a:Addr}(x:HOk P w H h)(k:∀b u,h.get? b=a7 u->h'.get? b=a7 u)(i:h.objs.size<=a)(new:ObjOk P w (aK H a o) h' a o):HOk P w (aK H a o) h':=λb u e=>by
 have g:=x.fresh i;by_cases d:b=a
 .subst d;rw[cP]at e;cases e;exact new
 .rw[a9 d]at e;exact(x b u e).stay (λc v _ q=>k c v q) (λc q=>by rw[a9<|eX q g];exact q) λc j q=>by rw[a9<|eX q g];exact q
noncomputable def Rd(H:Hp)(a:Addr)(u:HO):Prop:=H a=a7 u\/∃o,H a=a7 (.frz o u)
theorem Rd.of(h:H a=a7 u):Rd H a u:=.inl h
theorem Rd.ok(r:Rd H a u)(x:HOk P w H h):ObjOk P w H h a u:=by
 rcases r with r|⟨o,r⟩
 .exact x a u r
 .obtain⟨_,q⟩:=x a _ r;exact q
noncomputable def q8:Option HO->Prop
 |some (.lst _)=>True|some (.dK _)=>True|some (.dT _)=>True|some (.set _ _)=>True|some (.ins _ _ _)=>True|some (.ext _)=>True|_=>False
theorem HOk.write(ok:HOk P w H h)(j:q8 (H x))(n:e=x\/H e=a7 (.own x))(k:∀b u,b≠e->h.get? b=a7 u->h'.get? b=a7 u)(m:∃u,h'.get? e=a7 u)(new:ObjOk P w (aK H x o') h' x o'):HOk P w (aK H x o') h':=λb u q=>by
 have d:∀c y,H c=a7 (.own y)->c≠x:=λc y r z=>by subst z;rw[r]at j;exact j
 have g:∀c l,H c=a7 (.tup l)->c≠x:=λc l r z=>by subst z;rw[r]at j;exact j
 by_cases i:b=x
 .subst i;rw[cP]at q;cases q;exact new
 .rw[a9 i]at q;by_cases a:b=e
  .have o:H b=a7 (.own x):=by
    rcases n with z|z
    .exact absurd (a.trans z) i
    .rw[a];exact z
   rw[q]at o;cases o;obtain⟨v,p⟩:=m;exact⟨v,by rw[a];exact p⟩
  .refine(ok b u q).stay (λc v hc r=>k c v ?_ r) (λc r=>by rw[a9<|d c b r];exact r) λc l r=>by rw[a9<|g c l r];exact r
   rcases hc with rfl|hc
   .exact a
   .rintro rfl;rcases n with z|z
    .exact d c b hc z
    .rw[hc]at z;cases z;exact i rfl
structure Un(fs ex:List Addr)(H H':Hp)(h h':a1C):Prop where
 keep:∀b o,h.get? b=a7 o->H b=b0->b∉fs->b∉ex->h'.get? b=a7 o
 slot:∀b o,h.get? b=a7 o->H b=b0->b∈fs->b∉ex->∃sl,h'.get? b=a7 {o with slots:=sl}
 free:∀b o,h.get? b=a7 o->H b=b0->b∉ex->H' b=b0
 there:∀b o,h.get? b=a7 o->b∉ex->∃o',h'.get? b=a7 o'
 tups:∀b xs,H b=a7 (.tup xs)->H' b=a7 (.tup xs)
 frzs:∀b o u,H b=a7 (.frz o u)->H' b=a7 (.frz o u)
 tbls:∀b ps,H b=a7 (.tbl ps)->∃more,H' b=a7 (.tbl<|ps++more)
theorem Un.any(u:Un fs ex H H1 h h1)(q:h.get? b=a7 ob)(n:H b=b0)(d:b∉ex):∃g,h1.get? b=a7 {ob with slots:=g}:=by
 by_cases c:b∈fs
 .exact u.slot b ob q n c d
 .exact⟨ob.slots,u.keep b ob q n c d⟩
theorem Un.kept(k:∀b u,h.get? b=a7 u->h'.get? b=a7 u):Un fs ex H H h h':=
 ⟨λb c q _ _ _=>k b c q,λb c q _ _ _=>⟨c.slots,k b c q⟩,λ_ _ _ n _=>n,λb c q _=>⟨c,k b c q⟩,λ_ _ q=>q,λ_ _ _ q=>q,λ_ d q=>⟨#[],by rw[q];simp⟩⟩
theorem Un.refl:Un fs ex H H h h:=Un.kept λ_ _ q=>q
theorem Un.laid{h:a1C}{a:Addr}(k:∀b u,h.get? b=a7 u->h'.get? b=a7 u)(d:h.objs.size<=a)(c:H a=b0):Un fs ex H (aK H a o) h h' where
 keep:=λb u q _ _ _=>k b u q
 slot:=λb u q _ _ _=>⟨u.slots,k b u q⟩
 free:=λb u q n _=>by rw[a9<|a0y<|a0V (a0m q) d];exact n
 there:=λb u q _=>⟨u,k b u q⟩
 tups:=λb g q=>by rw[a9<|eX q c];exact q
 frzs:=λb u g q=>by rw[a9<|eX q c];exact q
 tbls:=λb i q=>⟨#[],by rw[a9<|eX q c,q];simp⟩
theorem Un.write(d:q8 (H x))(m:e=x\/H e=a7 (.own x))(k:∀b u,b≠e->h.get? b=a7 u->h'.get? b=a7 u)(g:∃u,h'.get? e=a7 u):Un fs ex H (aK H x o) h h':=by
 have l:∀b,H b=b0->b≠x:=λb n z=>by subst z;rw[n]at d;exact d
 have j:∀b,H b=b0->b≠e:=λb n z=>by
  subst z;rcases m with r|r
  .exact l b n r
  .rw[n]at r;cases r
 have i:∀b u,H b=a7 u->¬ q8 (a7 u)->b≠x:=λb u q p z=>by subst z;rw[q]at d;exact p d
 refine⟨λb u q n _ _=>k b u (j b n) q,λb u q n _ _=>⟨u.slots,k b u (j b n) q⟩,λb u q n _=>by rw[a9<|l b n];exact n,λb u q _=>?_,
  λb s q=>by rw[a9<|i b _ q λz=>z];exact q,λb u s q=>by rw[a9<|i b _ q λz=>z];exact q,λb v q=>⟨#[],by rw[a9<|i b _ q λz=>z,q];simp⟩⟩
 by_cases c:b=e
 .subst c;exact g
 .exact⟨u,k b u c q⟩
noncomputable def t8(h:a1C)(H:Hp):List Addr:=(a1o h.objs.size).filter λa=>(H a).isSome
noncomputable def kU(h:a1C)(H:Hp):a1C:=PySem.W.hideAll h<|t8 h H
theorem Kl h H:(kU h H).objs.size=h.objs.size:=PySem.W.hideAll_size _ _
theorem Km(e:h.get? b=a7 o)(n:H b=b0):(kU h H).get? b=a7 o:=
 PySem.W.hideAll_get _ e λa=>by have q:(H b).isSome=true:=(a0Y.mp a).2;rw[n]at q;simp at q
theorem Kn(e:(kU h H).get? b=a7 o):h.get? b=a7 o/\H b=none:=by
 have a:h.get? b=a7 o:=PySem.W.of_hideAll (t8 h H) e;refine⟨a,?_⟩;cases q:H b with
 |none=>rfl|some x=>have c:b∈t8 h H:=a0Y.mpr ⟨a2u.mpr<|a0m a,by simp[q]⟩;have z:(kU h H).get? b=none:=PySem.W.hideAll_none (t8 h H) c;rw[z]at e;cases e
noncomputable def t9(g h:a1C)(L:Addr):jw:=(a1o h.objs.size).filterMap λa=>if a=L\/(g.get? a).isSome=b5 then b0 else(h.get? a).map λo=>(a,o)
theorem xX(h1:a≠L)(c:g.get? a=b0)(b:h.get? a=a7 o):(a,o)∈t9 g h L:=
 a5a.mpr ⟨a,a2u.mpr<|a0m b,by simp[h1,c,b]⟩
theorem Ko(c:p∈t9 g h L):p.1≠L/\g.get? p.1=b0/\h.get? p.1=a7 p.2:=by
 obtain⟨b,_,e⟩:=a5a.mp c;split at e
 .cases e
 .rename_i a;cases q:h.get? b with
  |none=>rw[q]at e;simp at e|some u=>
   rw[q]at e;simp only[a0M,b2t]at e;subst e;refine⟨λz=>a<|.inl z,?_,q⟩;show g.get? b=b0;cases r:g.get? b with
   |none=>rfl|some v=>exact(a<|.inr<|by simp[r]).elim
noncomputable def bV(g h:a1C)(L d:Addr):jw:=(t9 g h L).filter λp=>decide<|p.1≠d
theorem Kp:News g L h (t9 g h L):=λp d=>let⟨a,b,c⟩:=Ko d;⟨c,a,b⟩
structure Mod(K:a0c)(mg:Str->Option Value)(base:a1C):Prop where
 kin:K.In base
 glob:base.Ns a1L mg
 blt:∃mb,base.Ns b0L mb/\∀x:Str,x ≠ "__name__"->mb x=a2q x
 nolimit:base.NoLimit
structure Cx where
 prog:a0R
 w:a1f
 K:a0c
 mg:Str->Option Value
 base:a1C
 A:a1b
 N:List Str
 s₀:a0i
 H₀:Hp
 env:a6h
 outer:List a6h
 stack:List a6h
 ex:List Addr
 fn:Str->Bool
 calm:Bool
 pn:jw
 xe:Value->a0i->Prop
noncomputable def iI(l:List a6h):List Addr:=l.filterMap (·.frame)
noncomputable abbrev Cx.fs(X:Cx):List Addr:=iI X.outer
noncomputable def nE(sc:a3k)(x:Str):Prop:=sc.names.lookup x=a7 .local\/sc.names.lookup x=a7 .cell\/sc.names.lookup x=a7 .free
noncomputable def Loc(sc:a3k)(x:Str):Prop:=sc.names.lookup x=a7 .local\/sc.names.lookup x=a7 .cell
noncomputable def Kq(env:a6h)(h:a1C)(m:Str->Option Value)(x:Str)(u:Value):Prop:=
 (env.kindOf x=a7 .local/\m x=a7 u)\/((env.kindOf x=a7 .cell\/env.kindOf x=a7 .free)/\∃c,env.cells.lookup x=a7 c/\h.IsCell c (a7 u))
structure Cx.Ok(X:Cx):Prop where
 mod:Mod X.K X.mg X.base
 kind:X.env.scope.kind=.function
 glob:X.env.globals=a1L
 blt:X.env.builtins=b0L
 above:X.s₀.heap.objs.size<=X.env.locals
 inj:∀x y c,X.env.cells.lookup x=a7 c->X.env.cells.lookup y=a7 c->x=y
 has:∀x,(X.env.kindOf x=a7 .cell\/X.env.kindOf x=a7 .free)->∃c,X.env.cells.lookup x=a7 c
 cab:∀x c,X.fn x=b5->X.env.cells.lookup x=a7 c->X.s₀.heap.objs.size<=c
 hd:X.calm=b5->X.A.handled=b0
 frames:X.A.frames=a7 X.stack
 stk:X.stack=X.outer\/(X.stack=X.env::X.outer/\X.env.frame=a7 X.env.locals)
 exf:∀b∈X.ex,b≠X.env.locals/\∀x c,X.env.cells.lookup x=a7 c->c≠b
 bs:∀b o,X.base.get? b=a7 o->X.s₀.heap.get? b=a7 o/\X.H₀ b=b0
 bsz:X.base.objs.size<=X.s₀.heap.objs.size
 noex:∀b o,X.base.get? b=a7 o->b∉X.ex
 exfs:∀b∈X.ex,b∉X.fs
 funs:X.s₀.heap.FunFrames X.base X.outer
 frf:∀b∈X.fs,X.H₀ b=b0
structure Inv(X:Cx)(b2w:jw)(σ:List (Option V))(H:Hp)(s:a0i):Prop where
 ok:X.Ok
 os:s.os=X.s₀.os
 bare:a6X s.gens
 base:Un X.fs X.ex X.H₀ H X.s₀.heap s.heap
 loc:∃m,s.heap.Ns X.env.locals m/\∀(i:Nat)(x:Str)(v:V),X.N[i]?=a7 x->σ[i]?=a7 (a7 v)->nE X.env.scope x->∃u,RelV v u/\Kq X.env s.heap m x u
 cell:∀x c,X.env.cells.lookup x=a7 c->∃v,s.heap.IsCell c v
 free:H X.env.locals=b0
 freeC:∀x c,X.env.cells.lookup x=a7 c->H c=b0
 pin:∀p∈X.pn++b2w,s.heap.get? p.1=a7 p.2/\H p.1=b0/\p.1≠X.env.locals/\p.1∉X.fs/\∀v,p.2.data≠.cell v
 hok:HOk X.prog X.w H s.heap
 len:σ.length=X.N.length
theorem Cx.Ok.nofr{X:Cx}(ok:X.Ok)(e:X.base.get? b=a7 o):b∉X.fs:=λa=>by have:=(ok.funs.mem a).1;rw[e]at this;cases this
theorem Inv.bs(I:Inv X b2w σ H s):∀b o,X.base.get? b=a7 o->s.heap.get? b=a7 o/\H b=none:=λb o e=>⟨I.base.keep b o (I.ok.bs b o e).1 (I.ok.bs b o e).2 (I.ok.nofr e)<|I.ok.noex b o e,I.base.free b o (I.ok.bs b o e).1 (I.ok.bs b o e).2<|I.ok.noex b o e⟩
theorem Inv.bk(I:Inv X b2w σ H s):∀b o,X.base.get? b=a7 o->s.heap.get? b=a7 o:=λb o e=>(I.bs b o e).1
theorem Inv.mod(I:Inv X b2w σ H s):Mod X.K X.mg X.base:=I.ok.mod
theorem Inv.kIn(I:Inv X b2w σ H s):X.K.In s.heap:=I.ok.mod.kin.keeps I.bk
theorem Inv.fr(I:Inv X b2w σ H s):∃m,Fr X.base X.env.locals s.heap m:=
 let⟨m,a,_⟩:=I.loc
 ⟨m,a,I.bk,a1l I.ok.bsz I.ok.above⟩
theorem Inv.lt{X:Cx}{b2w:jw}{σ:List (Option V)}{H:Hp}{s:a0i}(I:Inv X b2w σ H s):X.env.locals<s.heap.objs.size:=let⟨_,a,_⟩:=I.loc;a.lt
theorem Inv.sz(I:Inv X b2w σ H s):X.s₀.heap.objs.size<=s.heap.objs.size:=a1l I.ok.above<|a4U I.lt
theorem Inv.nofs(I:Inv X b2w σ H s){a:Addr}(h:s.heap.objs.size<=a):a∉X.fs:=λb=>by obtain⟨_,o,c,_⟩:=I.ok.funs.mem b;exact absurd (a0V (a0m c)<|a1l I.sz h)<|a2Z _
theorem Inv.cne(I:Inv X b2w σ H s):∀x c,X.env.cells.lookup x=a7 c->c≠X.env.locals:=λx c e z=>by obtain⟨v,o,d,hd⟩:=I.cell x c e;obtain⟨m,⟨i,h,g,b,a,_⟩,_⟩:=I.loc;rw[z,b]at d;cases d;rw[a]at hd;cases hd
theorem Inv.funs(I:Inv X b2w σ H s):s.heap.FunFrames X.base X.outer:=by
 have all:∀(l:List a6h),(∀b∈iI l,b∈X.fs)->X.s₀.heap.FunFrames X.base l->s.heap.FunFrames X.base l:=by
  intro l;induction l with
  |nil=>intro _ _;trivial|cons h r p=>intro g j;obtain⟨i,⟨L,o,d,k,m,hd⟩,n⟩:=j;have a:L∈X.fs:=g L (by unfold iI;rw[a2G,d];exact a0P);obtain⟨q,e⟩:=I.base.slot L o m (I.ok.frf L a) a λz=>I.ok.exfs L z a;exact⟨i,⟨L,_,d,k,e,hd⟩,p (λb c=>g b<|by unfold iI;rw[a2G,d];exact a0F _ c) n⟩
 exact all X.outer (λ_ c=>c) I.ok.funs
theorem Inv.stack(I:Inv X b2w σ H s):s.heap.FunFrames X.base X.stack:=by
 rcases I.ok.stk with e|⟨e,a⟩
 .rw[e];exact I.funs
 .rw[e];obtain⟨m,b,_⟩:=I.loc;refine .cons (by rw[I.ok.kind];decide) a b ?_ I.funs;exact Heap.get?_none_of_le<|a1l I.ok.bsz I.ok.above
theorem Inv.stkSub(I:Inv X b2w σ H s):∀b∈iI X.stack,b∈X.env.locals::X.fs:=λb a=>by
 rcases I.ok.stk with e|⟨e,c⟩
 .rw[e]at a;exact a0F _ a
 .rw[e]at a;unfold iI at a;rw[a2G,c]at a;exact a
theorem Inv.stkFree(I:Inv X b2w σ H s):∀b∈iI X.stack,H b=none:=λb a=>by
 rcases a0D.mp (I.stkSub b a)with e|a
 .rw[e];exact I.free
 .obtain⟨_,o,c,_⟩:=I.ok.funs.mem a;exact I.base.free b o c (I.ok.frf b a) λz=>I.ok.exfs b z a
theorem Inv.step{ch:List Addr}(I:Inv X b2w σ H s)(h:∀b∈ch,(b∈X.ex\/X.s₀.heap.objs.size<=b)/\b≠X.env.locals/\(∀x c,X.env.cells.lookup x=a7 c->c≠b)/\∀p∈X.pn++b2w,p.1≠b)(keep:∀b o,b≠X.env.locals->b∉X.fs->b∉ch->s.heap.get? b=a7 o->H b=b0->h'.get? b=a7 o)(A:∀b o,b≠X.env.locals->b∈X.fs->b∉ch->s.heap.get? b=a7 o->H b=b0->∃U,h'.get? b=a7 {o with slots:=U})(free:∀b o,b∉ch->s.heap.get? b=a7 o->H b=b0->H' b=b0)(G:∀b o,b∉ch->s.heap.get? b=a7 o->∃N,h'.get? b=a7 N)(Q:∀b B,H b=a7 (.tup B)->H' b=a7 (.tup B))(L:∀b o u,H b=a7 (.frz o u)->H' b=a7 (.frz o u))(O:∀b R,H b=a7 (.tbl R)->∃more,H' b=a7 (.tbl<|R++more))(ns:∀m,s.heap.Ns X.env.locals m->h'.Ns X.env.locals m)(T:HOk X.prog X.w H' h')(hg:a6X g'):
  Inv X b2w σ H' {s with heap:=h',gens:=g',drawn:=d',toks:=t'}:=by
 have M:∀b o,X.s₀.heap.get? b=a7 o->b≠X.env.locals:=λb o e=>a0y<|a0V (a0m e) I.ok.above;have y:∀b o,X.s₀.heap.get? b=a7 o->b∉X.ex->b∉ch:=λb o e a E=>by
  rcases(h b E).1 with z|z
  .exact a z
  .exact absurd (a0V (a0m e) z)<|a2Z _
 have g:∀x c,X.env.cells.lookup x=a7 c->∀v,s.heap.IsCell c v->h'.IsCell c v:=λx c e v ⟨o,J,hd⟩=>by
  have j:c∉ch:=λz=>(h c z).2.2.1 x c e rfl;by_cases hc:c∈X.fs
  .obtain⟨U,q⟩:=A c o (I.cne x c e) hc j J<|I.freeC x c e;exact⟨_,q,hd⟩
  .exact⟨o,keep c o (I.cne x c e) hc j J<|I.freeC x c e,hd⟩
 refine⟨I.ok,I.os,hg,⟨λb o e n E a=>?_,λb o e n E a=>?_,λb o e n a=>?_,λb o e a=>?_,λb B e=>Q b B<|I.base.tups b B e,λb o B e=>L b o B<|I.base.frzs b o B e,λb R e=>?_⟩,?_,λx c e=>?_,?_,λx c e=>?_,λp Z=>?_,T,I.len⟩
 .exact keep b o (M b o e) E (y b o e a) (I.base.keep b o e n E a)<|I.base.free b o e n a
 .obtain⟨U,w⟩:=I.base.slot b o e n E a;obtain⟨Y,K⟩:=A b _ (M b o e) E (y b o e a) w<|I.base.free b o e n a;exact⟨Y,K⟩
 .obtain⟨N,w⟩:=I.base.there b o e a;exact free b N (y b o e a) w<|I.base.free b o e n a
 .obtain⟨N,w⟩:=I.base.there b o e a;exact G b N (y b o e a) w
 .obtain⟨m1,w⟩:=I.base.tbls b R e;obtain⟨m2,K⟩:=O b _ w;exact⟨m1++m2,by rw[K,Array.append_assoc]⟩
 .obtain⟨m,hn,hl⟩:=I.loc;refine⟨m,ns m hn,λi x v w K e3=>?_⟩;obtain⟨u,r,l⟩:=hl i x v w K e3;refine⟨u,r,?_⟩;rcases l with l|⟨k,c,e,z⟩
  .exact .inl l
  .exact .inr ⟨k,c,e,g x c e _ z⟩
 .obtain⟨v,z⟩:=I.cell x c e;exact⟨v,g x c e v z⟩
 .obtain⟨m,⟨o,_,_,J,_⟩,_⟩:=I.loc;exact free _ o (λz=>(h _ z).2.1 rfl) J I.free
 .obtain⟨v,o,J,hd⟩:=I.cell x c e;exact free c o (λz=>(h c z).2.2.1 x c e rfl) J<|I.freeC x c e
 .obtain⟨e,n,ne,nf,d⟩:=I.pin p Z;have j:p.1∉ch:=λz=>(h p.1 z).2.2.2 p Z rfl;exact⟨keep p.1 p.2 ne nf j e n,free p.1 p.2 j e n,ne,nf,d⟩
theorem Inv.un(I:Inv X b2w σ H s)(u:Un X.fs [] H H' s.heap h')(h:HOk X.prog X.w H' h'):Inv X b2w σ H' {s with heap:=h',toks:=t'}:=by
 obtain⟨m,⟨o,q,p,i,r⟩,_⟩:=id I.loc;obtain⟨x,j⟩:=u.any i I.free (by simp);exact I.step (g':=s.gens) (d':=s.drawn) (ch:=[]) (λ_ z=>nomatch z) (λb o _ g _ e n=>u.keep b o e n g<|by simp) (λb o _ g _ e n=>u.slot b o e n g<|by simp) (λb o _ e n=>u.free b o e n<|by simp) (λb o _ e=>u.there b o e<|by simp) u.tups u.frzs u.tbls (λv k=>by
  obtain⟨w,d,c,a,l⟩:=k;rw[i]at a;cases a;exact⟨_,d,c,j,l⟩) h I.bare
theorem Inv.call(I:Inv X b2w σ H s)(u:Un (iI X.stack) ch H H' s.heap h')(j:HOk X.prog X.w H' h')(q:a6X g')(a:∀b∈ch,(b∈X.ex\/X.s₀.heap.objs.size<=b)/\b≠X.env.locals/\(∀x c,X.env.cells.lookup x=a7 c->c≠b)/\∀p∈X.pn++b2w,p.1≠b):
  Inv X b2w σ H' {s with heap:=h',gens:=g',drawn:=d',toks:=t'}:=by
 obtain⟨m,⟨o,A,y,k,r⟩,_⟩:=id I.loc;obtain⟨G,i⟩:=u.any k I.free λz=>(a _ z).2.1 rfl;exact I.step (ch:=ch) a (λb o i l hc e n=>u.keep b o e n (λz=>(a0D.mp<|I.stkSub b z).elim i l) hc) (λb o _ _ hc e n=>u.any e n hc) (λb o hc e n=>u.free b o e n hc) (λb o hc e=>u.there b o e hc) u.tups u.frzs u.tbls (λB v=>by
  obtain⟨E,h,g,d,w⟩:=v;rw[k]at d;cases d;exact⟨_,h,g,i,w⟩) j q
theorem Inv.turned(I:Inv X b2w σ H s)(k:∀b o,b≠a->s.heap.get? b=a7 o->h'.get? b=a7 o)(A:H a=b0)(g:a≠X.env.locals)(h1:a∈X.ex\/X.s₀.heap.objs.size<=a)(j:∀x c,X.env.cells.lookup x=a7 c->c≠a)(l:∀p∈X.pn++b2w,p.1≠a):Inv X b2w σ H {s with heap:=h',toks:=t'}:=by
 have d:∀b u,H b=a7 u->b≠a:=λb u e z=>by rw[z,A]at e;cases e
 refine I.step (g':=s.gens) (d':=s.drawn) (ch:=[a]) (λb w=>?_) (λb o _ _ hc e _=>k b o (λz=>hc<|by simp[z]) e) (λb o _ _ hc e _=>⟨o.slots,k b o (λz=>hc<|by simp[z]) e⟩) (λ_ _ _ _ n=>n)
  (λb o hc e=>⟨o,k b o (λz=>hc<|by simp[z]) e⟩) (λ_ _ e=>e) (λ_ _ _ e=>e) (λb E e=>⟨#[],by rw[e];simp⟩) (λm y=>?_) (λb u e=>?_) I.bare
 .have e:b=a:=by simpa using w
  subst e;exact⟨h1,g,j,l⟩
 .obtain⟨o,i,h,B,r⟩:=y;exact⟨o,i,h,k _ o (a1j g) B,r⟩
 .refine(I.hok b u e).stay (λc v hc q=>k c v ?_ q) (λ_ q=>q) λ_ _ q=>q;rcases hc with z|z
  .rw[z];exact d b u e
  .exact d c _ z
theorem Inv.tok(I:Inv X b2w σ H s)t:Inv X b2w σ H {s with toks:=t}:=I.un (h':=s.heap) (t':=t) Un.refl I.hok
theorem Inv.kept(I:Inv X b2w σ H s)(k:∀b u,s.heap.get? b=a7 u->h'.get? b=a7 u):Inv X b2w σ H {s with heap:=h',toks:=t'}:=I.un (Un.kept k)<|I.hok.kept k
theorem Inv.laid{a:Addr}(I:Inv X b2w σ H s)(k:∀b u,s.heap.get? b=a7 u->h'.get? b=a7 u)(c:s.heap.objs.size<=a)(new:ObjOk X.prog X.w (aK H a o) h' a o):
  Inv X b2w σ (aK H a o) {s with heap:=h',toks:=t'}:=I.un (Un.laid k c<|I.hok.fresh c)<|I.hok.laid k c new
theorem Inv.write(I:Inv X b2w σ H s)(d:q8 (H x))(c:e=x\/H e=a7 (.own x))(k:∀b u,b≠e->s.heap.get? b=a7 u->h'.get? b=a7 u)(a:∃u,h'.get? e=a7 u)(new:ObjOk X.prog X.w (aK H x o) h' x o):Inv X b2w σ (aK H x o) {s with heap:=h',toks:=t'}:=I.un (Un.write d c k a)<|I.hok.write d c k a new
theorem Inv.pins_of(I:Inv X b2w σ H s)(h:∀p∈a,s.heap.get? p.1=a7 p.2/\H p.1=b0/\p.1≠X.env.locals/\p.1∉X.fs/\∀v,p.2.data≠.cell v):Inv X a σ H s:=
 ⟨I.ok,I.os,I.bare,I.base,I.loc,I.cell,I.free,I.freeC,λp b=>(a1t.mp b).elim (λz=>I.pin p<|a6g _ z)<|h p,I.hok,I.len⟩
theorem Ct{N:List Str}(e:N.Nodup){i:Nat}(a:N[i]?=a7 x)(b:N[j]?=a7 x):i=j:=by obtain⟨g,c⟩:=a0f.mp a;obtain⟨h,d⟩:=a0f.mp b;exact(b0d e).mp<|c.trans d.symm
theorem Cu(I:Inv X b2w σ H s)(hN:X.N.Nodup)(Z:X.N[i]?=a7 x)(B:Loc X.env.scope x)(r:RelV v u)(h:∀s',Inv X b2w (σ.set i<|a7 v) H s'->(∃a,a2X a s.heap s'.heap/\(a=X.env.locals\/X.env.cells.lookup x=a7 a))->Q () s')(hf:X.fn x=b5\/X.env.scope.names.lookup x=a7 .local:=by first|exact .inl rfl|exact .inr rfl|assumption):a0A M A (storeName X.env x u) Q E s:=by
 obtain⟨m,hn,hl⟩:=id I.loc;have Y:(X.env.scope.kind==.class||(X.env.scope.kind==.module&&X.env.locals != X.env.globals))=false:=by rw[I.ok.kind];rfl
 have K:i<σ.length:=by rw[I.len];exact(a0f.mp Z).1
 have cne:=I.cne;have w:∀{a:Addr}{h':a1C},(∃o,s.heap.get? a=a7 o/\H a=b0)->a2X a s.heap h'->HOk X.prog X.w H h':=λ{a h'} ha g b ob e=>by
  obtain⟨_,_,G⟩:=ha;refine(I.hok b ob e).stay (λc w' hc q=>(g.2 c ?_).trans q) (λ_ q=>q) λ_ _ q=>q;rintro rfl;rcases hc with rfl|hc
  .rw[G]at e;cases e
  .rw[G]at hc;cases hc
 rcases B with L|L
 .refine wpAny_storeName_local L hn (λh' hn' g=>?_) Y;obtain⟨oL,_,_,hoL,_⟩:=id hn;refine h _ ⟨I.ok,I.os,I.bare,⟨λb o e n N B=>?_,λb o e n N B=>?_,I.base.free,λb o e B=>?_,I.base.tups,I.base.frzs,I.base.tbls⟩,⟨_,hn',λj y v' l J e3=>?_⟩,λy c e=>?_,I.free,I.freeC,λp hp=>?_,w ⟨oL,hoL,I.free⟩ g,by simpa using I.len⟩ ⟨_,g,.inl rfl⟩
  .exact(g.2 b<|a0y<|a0V (a0m e) I.ok.above).trans<|I.base.keep b o e n N B
  .obtain⟨sl,l⟩:=I.base.slot b o e n N B;exact⟨sl,(g.2 b<|a0y<|a0V (a0m e) I.ok.above).trans l⟩
  .obtain⟨o',l⟩:=I.base.there b o e B;exact⟨o',(g.2 b<|a0y<|a0V (a0m e) I.ok.above).trans l⟩
  .by_cases R:j=i
   .subst R;rw[Z]at l;cases l;rw[a1a K]at J;cases J;exact⟨u,r,.inl ⟨L,by simp⟩⟩
   .rw[a0p<|a1j R]at J;obtain⟨u',r',q⟩:=hl j y v' l J e3;refine⟨u',r',?_⟩;rcases q with⟨k,e⟩|⟨k,c,e,z⟩
    .refine .inl ⟨k,?_⟩;have:y≠x:=λe=>R<|Ct hN l<|e▸Z;simp[this,e]
    .exact .inr ⟨k,c,e,z.sameBut g<|cne y c e⟩
  .obtain⟨w',z⟩:=I.cell y c e;exact⟨w',z.sameBut g<|cne y c e⟩
  .obtain⟨e,n,ne,nf,d⟩:=I.pin p hp;exact⟨(g.2 p.1 ne).trans e,n,ne,nf,d⟩
 .have O:X.fn x=true:=by
   rcases hf with z|z
   .exact z
   .rw[z]at L;cases L
  obtain⟨c,hc⟩:=I.ok.has x<|.inl L;obtain⟨w',z⟩:=I.cell x c hc;refine wpAny_storeName_cell I.ok.kind L hc z λh' T g=>?_;obtain⟨oc,hoc,hocd⟩:=id z;refine h {s with heap:=h'} ⟨I.ok,I.os,I.bare,⟨λb o e n N B=>?_,λb o e n N B=>?_,I.base.free,λb o e B=>?_,I.base.tups,I.base.frzs,I.base.tbls⟩,⟨m,hn.sameBut g<|a1j<|cne x c hc,λj y v' l J e3=>?_⟩,λy c' e=>?_,I.free,I.freeC,λp hp=>?_,w ⟨oc,hoc,I.freeC x c hc⟩ g,by simpa using I.len⟩ ⟨c,g,.inr hc⟩
  .exact(g.2 b<|a0y<|a0V (a0m e)<|I.ok.cab x c O hc).trans<|I.base.keep b o e n N B
  .obtain⟨sl,l⟩:=I.base.slot b o e n N B;exact⟨sl,(g.2 b<|a0y<|a0V (a0m e)<|I.ok.cab x c O hc).trans l⟩
  .obtain⟨o',l⟩:=I.base.there b o e B;exact⟨o',(g.2 b<|a0y<|a0V (a0m e)<|I.ok.cab x c O hc).trans l⟩
  .by_cases R:j=i
   .subst R;rw[Z]at l;cases l;rw[a1a K]at J;cases J;exact⟨u,r,.inr ⟨.inl L,c,hc,T⟩⟩
   .rw[a0p<|a1j R]at J;obtain⟨u',r',q⟩:=hl j y v' l J e3;refine⟨u',r',?_⟩;rcases q with q|⟨k,c',e,z'⟩
    .exact .inl q
    .refine .inr ⟨k,c',e,z'.sameBut g ?_⟩;rintro rfl;exact R<|Ct hN l<|I.ok.inj _ _ _ e hc▸Z
  .by_cases U:c'=c
   .subst U;exact⟨_,T⟩
   .obtain⟨w2,z2⟩:=I.cell y c' e;exact⟨w2,z2.sameBut g U⟩
  .obtain⟨e,n,ne,nf,d⟩:=I.pin p hp;refine⟨(g.2 p.1 ?_).trans e,n,ne,nf,d⟩;intro q;rw[q,hoc]at e;have q':oc=p.2:=a0B e;exact d w'<|by rw[<- q'];exact hocd
theorem uA(I:Inv X b2w σ H s)(c:X.N.Nodup)(e:X.N[i]?=a7 x)(g:Loc X.env.scope x)(r:RelV v u)(h:∀a,Inv X b2w (σ.set i<|a7 v) H a->Q () a)(d:X.fn x=b5\/X.env.scope.names.lookup x=a7 .local:=by first|exact .inl rfl|exact .inr rfl|assumption):a0A M A (storeName X.env x u) Q E s:=
 Cu I c e g r (λa b _=>h a b) d
noncomputable abbrev XK:=Value->Option Addr->Hp->Prop
noncomputable abbrev St:=List<|Option V
noncomputable abbrev VK:=V->Hp->Prop
noncomputable abbrev TE:=St->Hp->VK->Prop
noncomputable abbrev TT:=St->Hp->(Bool->Hp->Prop)->Prop
noncomputable abbrev TA:=St->Hp->(List V->Hp->Prop)->Prop
structure Ends where
 nx:St->Hp->Prop
 rt:VK
 bk:St->Hp->Prop:=λ_ _=>False
 ct:St->Hp->Prop:=λ_ _=>False
noncomputable abbrev TS:=Ends->St->Hp->Prop
inductive EP (X:Cx)(b2w:jw)(σ:St)(Q:VK)(u:Value)(s':a0i):Prop
 |mk (v:V)(H':Hp)(I:Inv X b2w σ H' s')(r:RelV v u)(q:Q v H'):EP X b2w σ Q u s'
inductive TP (X:Cx)(b2w:jw)(σ:St)(Q:Bool->Hp->Prop)(b:Bool)(s':a0i):Prop
 |mk (H':Hp)(I:Inv X b2w σ H' s')(q:Q b H'):TP X b2w σ Q b s'
inductive AP (X:Cx)(b2w:jw)(σ:St)(Q:gw->Hp->Prop)(us:gq)(s':a0i):Prop
 |mk (vs:gw)(H':Hp)(I:Inv X b2w σ H' s')(r:Vals vs us)(q:Q vs H'):AP X b2w σ Q us s'
inductive SPn (X:Cx)(b2w:jw)(Q:St->Hp->Prop)(s':a0i):Prop
 |mk (σ':St)(H':Hp)(I:Inv X b2w σ' H' s')(q:Q σ' H'):SPn X b2w Q s'
inductive SPr (X:Cx)(b2w:jw)(Q:VK)(u:Value)(s':a0i):Prop
 |mk (v:V)(σ':St)(H':Hp)(I:Inv X b2w σ' H' s')(r:RelV v u)(q:Q v H'):SPr X b2w Q u s'
noncomputable def SP(X:Cx)(b2w:jw)(D:Ends)(f:Flow)(a:a0i):Prop:=
 match f with
 |.next=>SPn X b2w D.nx a|.brk=>SPn X b2w D.bk a|.cont=>SPn X b2w D.ct a|.ret u=>SPr X b2w D.rt u a
noncomputable def PE(X:Cx)(e:Expr)(t:TE):Prop:=
 ∀(b2w:jw)(s:a0i)(σ:St)(H:Hp)(Q:VK),Inv X b2w σ H s->t σ H Q->a0A (a0L X.prog X.w) X.A (eval e X.env) (EP X b2w σ Q) X.xe s
noncomputable def PT(X:Cx)(e:Expr)(t:TT):Prop:=
 ∀(b2w:jw)(s:a0i)(σ:St)(H:Hp)(Q:Bool->Hp->Prop),Inv X b2w σ H s->t σ H Q->a0A (a0L X.prog X.w) X.A (a9G e X.env<|eval e X.env) (TP X b2w σ Q) X.xe s
noncomputable def PW(X:Cx)(e:Expr)(t:TT):Prop:=
 ∀(a:a9X Value)(b2w:jw)(s:a0i)(σ:St)(H:Hp)(Q:Bool->Hp->Prop),Inv X b2w σ H s->t σ H Q->a0A (a0L X.prog X.w) X.A (a9G e X.env a) (TP X b2w σ Q) X.xe s
theorem PW.pt(h:PW X e t):PT X e t:=h _
noncomputable def PA(X:Cx)(es:List Expr)(t:TA):Prop:=
 ∀(pos:a1V)(b2w:jw)(s:a0i)(σ:St)(H:Hp)(Q:gw->Hp->Prop),Inv X b2w σ H s->t σ H Q->a0A (a0L X.prog X.w) X.A (spliced<|a2F pos<|a0T es X.env) (AP X b2w σ Q) X.xe s
noncomputable def PS(X:Cx)(st:Stmt)(t:TS):Prop:=
 ∀(b2w:jw)(s:a0i)(σ:St)(H:Hp)(D:Ends),Inv X b2w σ H s->t D σ H->a0A (a0L X.prog X.w) X.A (exec st X.env) (SP X b2w D) X.xe s
noncomputable def PSs(X:Cx)(st:List Stmt)(t:TS):Prop:=
 ∀(b2w:jw)(s:a0i)(σ:St)(H:Hp)(D:Ends),Inv X b2w σ H s->t D σ H->a0A (a0L X.prog X.w) X.A (execs st X.env) (SP X b2w D) X.xe s
theorem aP{t:a9X c}{Q b:c->a0i->Prop}(h:a0A M A t Q E s)(d:∀a s,Q a s->b a s):a0A M A t b E s:=a1R h d λ_ _ x=>x
noncomputable def xY(i:Nat):TE:=λσ H Q=>∃v,σ[i]?=a7 (a7 v)/\Q v H
noncomputable def tC(v:V):TE:=λ_ H Q=>Q v H
theorem Cv(j:X.N[i]?=a7 x)(p:nE X.env.scope x)(hd:(x==("__debug__":Str))=false:=by decide)(g:(x==("__classdict__":Str))=false:=by decide):PE X (.Name x pos) (xY i):=by
 intro d s q H Q I h;obtain⟨v,e,h⟩:=h;obtain⟨m,o,k⟩:=I.loc;obtain⟨u,r,l⟩:=k i x v j e p;have fin:EP X d q Q u s:=⟨v,H,I,r,h⟩;rcases l with⟨b,n⟩|⟨b,c,hc,a⟩
 .exact b0G (wpAny_loadName_local I.ok.kind b o n fin) hd
 .rcases b with b|b
  .exact b0G (wpAny_loadName_cell I.ok.kind b hc a fin) hd
  .exact b0G (wpAny_loadName_free I.ok.kind b hc a fin g) hd
theorem Kr{i j pos}:PE X (.Constant (.int i) j pos) (tC<|.int i):=λ_ _ _ H _ I h=>wpAny_Constant_int ⟨.int i,H,I.tok _,⟨_,rfl⟩,h⟩
theorem Ks{b j pos}:PE X (.Constant (.bool b) j pos) (tC<|.bl b):=λ_ _ _ H _ I h=>Constant_bool ⟨.bl b,H,I,rfl,h⟩
theorem Kt{j pos}:PE X (.Constant .none j pos) (tC .non):=λ_ _ _ H _ I h=>Constant_none ⟨.non,H,I,rfl,h⟩
theorem Ku{x j pos}:PE X (.Constant (.str x) j pos) (tC<|.str x):=λ_ _ _ H _ I h=>Calls.Constant_str ⟨.str x,H,I.tok _,⟨_,rfl⟩,h⟩
noncomputable def Gl(X:Cx)(x:Str):Prop:=X.env.kindOf x=a7 .globalImplicit
theorem uB{σ:St}(I:Inv X b2w σ H s)(a:Gl X x)(b:X.mg x=a7 u)(h:Q u s)(hd:(x==("__debug__":Str))=false:=by decide):a0A (a0L X.prog X.w) X.A (eval (.Name x pos) X.env) Q E s:=
 a7K I.ok.kind a (Calls.loadGlobal_global (by rw[I.ok.glob];exact I.mod.glob.keeps I.bk) b h) hd
theorem gW{σ:St}(I:Inv X b2w σ H s)(c:Gl X x)(d:X.mg x=b0)(g:a2q x=a7 u)(h:Q u s)(e:x ≠ "__name__":=by decide)(hd:(x==("__debug__":Str))=false:=by decide):a0A (a0L X.prog X.w) X.A (eval (.Name x pos) X.env) Q E s:=by
 obtain⟨i,a,b⟩:=I.mod.blt;exact a7K I.ok.kind c (Calls.loadGlobal_builtin (by rw[I.ok.glob];exact I.mod.glob.keeps I.bk) d (by rw[I.ok.blt];exact a.keeps I.bk) ((b x e).trans g) h) hd
theorem Kw(a:Gl X x)(b:X.mg x=a7 u)(r:RelV v u)(hd:(x==("__debug__":Str))=false:=by decide):PE X (.Name x pos) (tC v):=
 λ_ _ _ H _ I h=>uB I a b ⟨v,H,I,r,h⟩ hd
theorem Ky(a:Gl X x)(b:X.mg x=b0)(d:a2q x=a7 u)(r:RelV v u)(c:x ≠ "__name__":=by decide)(hd:(x==("__debug__":Str))=false:=by decide):PE X (.Name x pos) (tC v):=
 λ_ _ _ H _ I h=>gW I a b d ⟨v,H,I,r,h⟩ c hd
noncomputable def Kz(t u:TT):TT:=λσ H Q=>t σ H λc d=>if c=b5 then u σ d Q else Q b3 d
noncomputable def KA(t u:TT):TT:=λσ H Q=>t σ H λc d=>if c=b5 then Q b5 d else u σ d Q
noncomputable def KG(t:TT):TT:=λσ H Q=>t σ H λc d=>Q (!c) d
theorem KH(g:PT X a tA):PW X (.BoolOp .And [a] pos) tA:=by
 intro k d s i H Q I h;refine isTrue_and<|aP (g d s i H Q I h) λc j e=>?_;cases c with
 |true=>exact isTrue_and_nil e|false=>exact e
theorem KI(g:PT X a tA):PW X (.BoolOp .Or [a] pos) tA:=by
 intro k d s i H Q I h;refine isTrue_or<|aP (g d s i H Q I h) λc j e=>?_;cases c with
 |false=>exact isTrue_or_nil e|true=>exact e
theorem KJ{bV:List Expr}(k:PT X a tA)(l:PW X (.BoolOp .And (b::bV) pos) tB'):PW X (.BoolOp .And (a::b::bV) pos) (Kz tA tB'):=by
 intro n d s j H Q I h;refine isTrue_and<|aP (k d s j H _ I h) λc m ⟨e,g,i⟩=>?_;cases c with
 |true=>exact l n d m j e Q g i|false=>exact⟨e,g,i⟩
theorem KL{bV:List Expr}(k:PT X a tA)(l:PW X (.BoolOp .Or (b::bV) pos) tB'):PW X (.BoolOp .Or (a::b::bV) pos) (KA tA tB'):=by
 intro n d s j H Q I h;refine isTrue_or<|aP (k d s j H _ I h) λc m ⟨e,g,i⟩=>?_;cases c with
 |true=>exact⟨e,g,i⟩|false=>exact l n d m j e Q g i
theorem KN(i:PT X a tA):PT X (.UnaryOp .Not a pos) (KG tA):=by intro d s j H Q I h;exact isTrue_not<|aP (i d s j H (λc g=>Q (!c) g) I h) λ_ _ ⟨e,J,q⟩=>⟨e,J,q⟩
noncomputable def KO(ta tb:TE):TE:=λσ H Q=>ta σ H λx d=>∃c,x=.bl c/\if c=b5 then tb σ d Q else Q (.bl b3) d
noncomputable def KP(ta tb:TE):TE:=λσ H Q=>ta σ H λx d=>∃c,x=.bl c/\if c=b5 then Q (.bl b5) d else tb σ d Q
noncomputable def KQ(ta:TE):TE:=λσ H Q=>ta σ H λx d=>∃c,x=.bl c/\Q (.bl<|!c) d
theorem KR{op}(h:PE X a t):PE X (.BoolOp op [a] pos) t:=λb2w s σ H Q I hw=>BoolOp_one<|h b2w s σ H Q I hw
theorem KS{bV:List Expr}(k:PE X a ta)(l:PE X (.BoolOp .And (b::bV) pos) tb):PE X (.BoolOp .And (a::b::bV) pos) (KO ta tb):=by
 intro d s j H Q I h;refine BoolOp_and<|aP (k d s j H _ I h) λv n ⟨x,g,i,m,e⟩=>?_;obtain⟨c,rfl,e⟩:=e;cases m;refine a2v ?_;cases c with
 |true=>exact l d n j g Q i e|false=>exact⟨.bl b3,g,i,rfl,e⟩
theorem KU{bV:List Expr}(k:PE X a ta)(l:PE X (.BoolOp .Or (b::bV) pos) tb):PE X (.BoolOp .Or (a::b::bV) pos) (KP ta tb):=by
 intro d s j H Q I h;refine BoolOp_or<|aP (k d s j H _ I h) λv n ⟨x,g,i,m,e⟩=>?_;obtain⟨c,rfl,e⟩:=e;cases m;refine a2v ?_;cases c with
 |false=>exact l d n j g Q i e|true=>exact⟨.bl b5,g,i,rfl,e⟩
theorem KW(j:PE X a ta):PE X (.UnaryOp .Not a pos) (KQ ta):=by intro d s l H Q I h;refine UnaryOp_<|aP (j d s l H _ I h) λv m ⟨x,g,i,k,e⟩=>?_;obtain⟨c,rfl,e⟩:=e;cases k;exact not_of<|a2v ⟨.bl<|!c,g,i,rfl,e⟩
noncomputable def KY(t:TT)(ta tb:TE):TE:=λσ H Q=>t σ H λc d=>if c=b5 then ta σ d Q else tb σ d Q
theorem KZ(hc:PT X c tA)(m:PE X a ta)(n:PE X b tb):PE X (.IfExp c a b pos) (KY tA ta tb):=by
 intro e s g H Q I h;refine wpAny_IfExp<|aP (hc e s g H _ I h) λd l ⟨i,j,k⟩=>?_;cases d with
 |true=>exact m e l g i Q j k|false=>exact n e l g i Q j k
noncomputable def SqL(K:a0c)(H:Hp)(a:Addr)(xs:gw):Prop:=
 Rd H a (.lst xs) \/
  ∃(o:Obj)(its:Array Value)(n:Nat),K.lookup a=a7 o/\o.cls=.type "list"/\o.dict=b0/\o.data=.seq its n/\its.size<=a0s/\Vals xs its.toList
noncomputable def SqT(K:a0c)(H:Hp)(a:Addr)(xs:gw):Prop:=
 Rd H a (.tup xs) \/
  ∃(o:Obj)(its:Array Value)(n:Nat),K.lookup a=a7 o/\o.cls=.type "tuple"/\o.dict=b0/\o.data=.seq its n/\its.size<=a0s/\Vals xs its.toList
noncomputable def K0:Value->Option V
 |.none=>a7 .non|.bool b=>a7 (.bl b)|.int i _=>a7 (.int i)|.str x _=>a7 (.str x)|.bytes b _=>a7 (.byt b)|.float b _=>a7 (.flt b)|.ref a=>a7 (.ref a)|.type n=>a7 (.ty n)|_=>b0
theorem RelV.abs(r:RelV x u):K0 u=a7 x:=by
 cases x with
 |non=>cases r;rfl|bl _=>cases r;rfl|int _=>obtain⟨t,rfl⟩:=r;rfl|str _=>obtain⟨t,rfl⟩:=r;rfl|byt _=>obtain⟨t,rfl⟩:=r;rfl|flt _=>obtain⟨t,rfl⟩:=r;rfl|ref _=>cases r;rfl|ty _=>cases r;rfl
theorem RelV.inj(r:RelV x u)(q:RelV y u):x=y:=a0B<|r.abs.symm.trans q.abs
theorem Vals.inj:∀{xs a}{us},Vals xs us->Vals a us->xs=a
 |_,_,_,.nil,.nil=>rfl|_,_,_,.cons r t,.cons r' t'=>by rw[r.inj r',Vals.inj t t']
theorem SqL.of{K:a0c}(h:H a=a7 (.lst xs)):SqL K H a xs:=.inl<|.inl h
theorem SqT.of{K:a0c}(h:H a=a7 (.tup xs)):SqT K H a xs:=.inl<|.inl h
theorem Inv.list{σ:St}(I:Inv X b2w σ H s)(h:SqL X.K H a xs):∃its,Vals xs its/\PlainL s.heap a its.toArray/\xs.length<=a0s:=by
 rcases h with h|⟨o,its,n,b,hc,hd,c,d,r⟩
 .obtain⟨z,its,n,r,e⟩:=h.ok I.hok;exact⟨its,r,⟨_,n,e,rfl,rfl,rfl⟩,z⟩
 .refine⟨its.toList,r,⟨o,n,I.kIn a o b,hc,hd,by simpa using c⟩,?_⟩;have e:=r.length;simp only[a2p]at e;lia
theorem Inv.tuple{σ:St}(I:Inv X b2w σ H s)(h:SqT X.K H a xs):∃its,Vals xs its/\a3M s.heap a its.toArray/\xs.length<=a0s:=by
 rcases h with h|⟨o,its,n,b,hc,hd,c,d,r⟩
 .obtain⟨z,its,r,p⟩:=h.ok I.hok;exact⟨its,r,p.tup,z⟩
 .refine⟨its.toList,r,⟨o,I.kIn a o b,hc,n,by simpa using c⟩,?_⟩;have e:=r.length;simp only[a2p]at e;lia
theorem Inv.tupN{σ:St}(I:Inv X b2w σ H s)(h:SqT X.K H a xs):∃its,Vals xs its/\TupN s.heap a its.toArray:=by
 rcases h with h|⟨o,its,n,b,hc,hd,c,d,r⟩
 .obtain⟨z,its,r,p⟩:=h.ok I.hok;exact⟨its,r,p⟩
 .exact⟨its.toList,r,o,I.kIn a o b,hc,n,by simpa using c,hd⟩
theorem Inv.list_inj{σ:St}(I:Inv X b2w σ H s)(h:SqL X.K H a xs)(h':SqL X.K H a ys):xs=ys:=by
 obtain⟨c,r,⟨o,n,e,_,_,d⟩,_⟩:=I.list h;obtain⟨b,j,⟨l,k,i,_,_,g⟩,_⟩:=I.list h';rw[e]at i;cases i;rw[d]at g;injection g with d1 _;have:c=b:=by simpa using congrArg b0R d1
 subst this;exact r.inj j
theorem Inv.tuple_inj{σ:St}(I:Inv X b2w σ H s)(h:SqT X.K H a xs)(h':SqT X.K H a ys):xs=ys:=by
 obtain⟨c,r,⟨o,e,_,n,d⟩,_⟩:=I.tuple h;obtain⟨b,j,⟨l,i,_,k,g⟩,_⟩:=I.tuple h';rw[e]at i;cases i;rw[d]at g;injection g with d1 _;have:c=b:=by simpa using congrArg b0R d1
 subst this;exact r.inj j
noncomputable abbrev Cx.wish(X:Cx)(E:Value->a0i->Prop):Cx:={X with xe:=E}
noncomputable abbrev Cx.nox(X:Cx):Cx:=X.wish λ_ _=>False
theorem Cx.Ok.wish{X:Cx}(ok:X.Ok)E:(X.wish E).Ok:=
 ⟨ok.mod,ok.kind,ok.glob,ok.blt,ok.above,ok.inj,ok.has,ok.cab,ok.hd,ok.frames,ok.stk,ok.exf,ok.bs,ok.bsz,ok.noex,ok.exfs,ok.funs,ok.frf⟩
theorem Cx.Ok.unwish{X:Cx}(ok:(X.wish E).Ok):X.Ok:=
 ⟨ok.mod,ok.kind,ok.glob,ok.blt,ok.above,ok.inj,ok.has,ok.cab,ok.hd,ok.frames,ok.stk,ok.exf,ok.bs,ok.bsz,ok.noex,ok.exfs,ok.funs,ok.frf⟩
theorem Inv.wish{σ:St}(I:Inv X b2w σ H s)E:Inv (X.wish E) b2w σ H s:=⟨I.ok.wish E,I.os,I.bare,I.base,I.loc,I.cell,I.free,I.freeC,I.pin,I.hok,I.len⟩
theorem Inv.unwish{σ:St}(I:Inv (X.wish E) b2w σ H s):Inv X b2w σ H s:=⟨I.ok.unwish,I.os,I.bare,I.base,I.loc,I.cell,I.free,I.freeC,I.pin,I.hok,I.len⟩
theorem SP.unwish(h:SP (X.wish E) b2w D f c):SP X b2w D f c:=by
 cases f with
 |next=>obtain⟨a,b,I,q⟩:=h;exact⟨a,b,I.unwish,q⟩|brk=>obtain⟨a,b,I,q⟩:=h;exact⟨a,b,I.unwish,q⟩|cont=>obtain⟨a,b,I,q⟩:=h;exact⟨a,b,I.unwish,q⟩|ret u=>obtain⟨v,a,b,I,r,q⟩:=h;exact⟨v,a,b,I.unwish,r,q⟩
theorem PSs.nox{st:List Stmt}(h:PSs X.nox st t):PSs X st t:=λb2w s σ H D I hw=>a1R (h b2w s σ H D (I.wish _) hw) (λ_ _ q=>q.unwish) λ_ _ z=>a2w z
noncomputable def Cw:TS:=λD σ H=>D.nx σ H
noncomputable def K1(t u:TS):TS:=λD σ H=>t {D with nx:=u D} σ H
theorem K2:PSs X [] Cw:=λ_ _ σ H _ I h=>a6s ⟨σ,H,I,h⟩
theorem K3{st:Stmt}{bV:List Stmt}(h1:PS X st t)(g:PSs X bV u):PSs X (st::bV) (K1 t u):=by
 intro a s j H D I h;refine b1l<|aP (h1 a s j H {D with nx:=u D} I h) λf i q=>?_;cases f with
 |next=>obtain⟨b,c,d,q⟩:=q;exact g a i b c D d q|ret v=>exact q|brk=>exact q|cont=>exact q
theorem K5{st:Stmt}(h1:PS X st t):PSs X [st] t:=by
 intro a s b H D I h;refine b1l<|aP (h1 a s b H D I h) λf c q=>?_;cases f with
 |next=>exact a6s q|ret v=>exact q|brk=>exact q|cont=>exact q
theorem K6:PS X (.Pass pos) Cw:=λ_ _ σ H _ I h=>wpAny_Pass ⟨σ,H,I,h⟩
theorem Inv.quiet{σ:St}(I:Inv X b2w σ H s):interactive X.env=false:=by simp[interactive,I.ok.kind]
noncomputable def K7(te:TE):TS:=λD σ H=>te σ H λ_ a=>D.nx σ a
theorem K9(g:PE X e te)(i:a4M e b0 pos.line X.env=pure false:=by rfl):PS X (.Expr e pos) (K7 te):=by intro a s b H D I h;exact wpAny_Expr_any (aP (g a s b H _ I h) λv l ⟨x,c,d,k,j⟩=>⟨b,c,d,j⟩) I.quiet i
noncomputable def La(te:TE):TS:=λD σ H=>te σ H D.rt
theorem Lb(g:PE X e te):PS X (.Return (a7 e) pos) (La te):=by intro a s b H D I h;exact wpAny_Return_some<|aP (g a s b H _ I h) λv k ⟨x,c,d,j,i⟩=>⟨x,b,c,d,j,i⟩
noncomputable def Lc:TS:=λD _ H=>D.rt .non H
theorem Ld:PS X (.Return b0 pos) Lc:=λ_ _ σ H _ I h=>wpAny_Return_none ⟨.non,σ,H,I,rfl,h⟩
noncomputable def Le(c:TT)(t u:TS):TS:=λD σ H=>c σ H λb a=>if b=b5 then t D σ a else u D σ a
theorem Lf(hc:PT X c n)(o:PSs X a t)(p:PSs X b u):PS X (.If c a b pos) (Le n t u):=by
 intro g s i H D I h;refine wpAny_If<|aP (hc g s i H _ I h) λd m ⟨j,k,l⟩=>?_;cases d with
 |true=>exact o g m i j D k l|false=>exact p g m i j D k l
noncomputable abbrev TG:=V->St->Hp->(St->Hp->Prop)->Prop
noncomputable abbrev oZ:=List V->St->Hp->(St->Hp->Prop)->Prop
noncomputable def PG(X:Cx)(a:Expr)(t:TG):Prop:=
 ∀(b2w:jw)(s:a0i)(σ:St)(H:Hp)(v:V)(u:Value)(Q:St->Hp->Prop),Inv X b2w σ H s->RelV v u->t v σ H Q->
  a0A (a0L X.prog X.w) X.A (a7r a X.env u) (λ_ b=>SPn X b2w Q b) X.xe s
noncomputable def rA(X:Cx)(b:List Expr)(t:oZ):Prop:=
 ∀(b2w:jw)(s:a0i)(σ:St)(H:Hp)(vs:gw)(us:gq)(Q:St->Hp->Prop),Inv X b2w σ H s->Vals vs us->t vs σ H Q->
  a0A (a0L X.prog X.w) X.A (a7k ((a2Y b X.env).map (·.2)) us) (λ_ a=>SPn X b2w Q a) X.xe s
noncomputable def xZ(i:Nat):TG:=λv σ H Q=>Q (σ.set i<|a7 v) H
theorem Cy(c:X.N.Nodup)(e:X.N[i]?=a7 x)(g:Loc X.env.scope x)(d:X.fn x=b5\/X.env.scope.names.lookup x=a7 .local:=by first|exact .inl rfl|exact .inr rfl|assumption):PG X (.Name x pos) (xZ i):=by intro b s k H v u Q I r h;exact b0T<|uA I c e g r (λj a=>⟨_,H,a,h⟩) d
noncomputable def Cz:oZ:=λvs σ H Q=>vs=[]/\Q σ H
noncomputable def CA(t:TG)(u:oZ):oZ:=λvs σ H Q=>∃v r,vs=v::r/\t v σ H λa b=>u r a b Q
theorem Lg:rA X [] Cz:=by intro a s b H d c Q I r h;obtain⟨e,h⟩:=h;subst e;cases r;exact b0X ⟨b,H,I,h⟩
theorem Lh(h1:PG X e t)(i:rA X es u)(j:(a2Y (e::es) X.env).map (·.2)=a7r e X.env::(a2Y es X.env).map (·.2):=by rfl):rA X (e::es) (CA t u):=by
 intro a s n H q o Q I r h;obtain⟨v,p,g,h⟩:=h;subst g;cases r with
 |cons r l=>rw[j];refine a7q<|aP (h1 a s n H _ _ _ I r h) λ_ m ⟨b,c,d,k⟩=>?_;exact i a m b c _ _ Q d l k
noncomputable def CB(b:TE)(g:TG):TS:=λD σ H=>b σ H λx a=>g x σ a D.nx
theorem Li(j:PE X e b)(k:PG X tg g)(l:a7h [tg] e pos.line X.env=pure false:=by rfl)(hw:a3K [tg] e X.env=pure none:=by rfl)(h1:(a2Y [tg] X.env).map (·.2)=[a7r tg X.env]:=by rfl):PS X (.Assign [tg] e pos) (CB b g):=by
 intro a s c H D I h;refine wpAny_Assign_stores (aP (j a s c H _ I h) λv o ⟨x,d,i,n,m⟩=>?_) l hw;rw[h1];exact aP (k a o c d x v _ i n m) λ_ p q=>q
theorem Lj(k:X.N.Nodup)(n:X.N[i]?=a7 x)(p:Loc X.env.scope x)(l:PE X e c)(o:a4M e (a7<|.Name x a) pos.line X.env=pure false:=by rfl)(m:X.fn x=b5\/X.env.scope.names.lookup x=a7 .local:=by first|exact .inl rfl|exact .inr rfl|assumption):
  PS X (.Assign [.Name x a] e pos) (CB c<|xZ i):=by
 intro b s u H D I h;refine wpAny_Assign_Name (aP (l b s u H _ I h) λv w ⟨y,d,g,r,q⟩=>?_) o;exact uA g k n p r (λz j=>⟨_,d,j,q⟩) m
noncomputable def Lk(i j:Nat)(b:TA):TS:=λD σ H=>b σ H λvs a=>∃v w,vs=[v,w]/\D.nx ((σ.set i<|a7 v).set j<|a7 w) a
theorem Ll{K:TA}{kt k2 pt2}(hc:X.calm=b5)(E:X.N.Nodup)(Y:X.N[i]?=a7 x)(Z:X.N[j]?=a7 y)(m:i≠j)(G:X.env.scope.names.lookup x=a7 .local)(J:X.env.scope.names.lookup y=a7 .local)(U:PA X [a,b] K)(hw:a3K [.Tuple [.Name x r,.Name y py] kt pt] (.Tuple [a,b] k2 pt2) X.env=pure (a7 [x,y]))(hs:a7h [.Tuple [.Name x r,.Name y py] kt pt] (.Tuple [a,b] k2 pt2) pos.line X.env=pure false:=by rfl):
  PS X (.Assign [.Tuple [.Name x r,.Name y py] kt pt] (.Tuple [a,b] k2 pt2) pos) (Lk i j K):=by
 intro l s L H D I h;rw[exec_Assign_arm];refine a0b<|a5K ?_;rw[hs];refine a0b<|a0h ?_;rw[if_neg<|by decide];refine a0b<|Tuple_<|aP (U _ l s L H _ I h) λus d ⟨vs,A,M,r1,u⟩=>?_;obtain⟨v,w,R,u⟩:=u;subst R;obtain⟨g,k,rfl,rv,z⟩:∃g k,us=[g,k]/\RelV v g/\RelV w k:=by
  cases r1 with
  |cons p q=>
   cases q with
   |cons p' q'=>cases q';exact⟨_,_,rfl,p,p'⟩
 refine a1K ?_ (by show 2<=a0s;decide);have N:Inv X l L A {d with heap:=d.heap.push {cls:=.type "tuple",data:=.seq [g,k].toArray}}:=M.kept (t':=d.toks) λb o e=>a0e _ e;rw[hw];refine a0b<|a0h ?_;show a0A (a0L X.prog X.w) X.A (do rule "assign.swapped-stores";let c <- b0m (.ref d.heap.objs.size) 2 b0;a7k [λv=>b0r X.env y v,λv=>b0r X.env x v] c.reverse;pure b0i) _ _ _;refine a0b<|a3Z<|a0b<|unpackItems_tuple (items:=#[g,k]) (I.ok.hd hc) (IsTup.new d.heap _) λT n=>?_;have O:=N.kept (h':=T) (t':=d.toks) λb o e=>n b o (a0y<|a0m e) e;show a0A _ _ (a7k [λv=>b0r X.env y v,λv=>b0r X.env x v] [k,g] >>= λ_=>pure b0i) _ _ _;refine a0b<|a7q<|b2h<|uA O E Z (.inl J) z (λs2 Q=>?_)<|.inr J;refine a7q<|b2h<|uA Q E Y (.inl G) rv (λs3 B=>b0X<|a0h ?_)<|.inr G;rw[List.set_comm _ _<|a1j m]at B;exact⟨_,A,B,u⟩
noncomputable def Lm(c:TT)(h:TS):TS:=λD σ H=>∃W:Nat->St->Hp->Prop,(∃m,W m σ H)/\∀m σ H,W m σ H->
 c σ H λb e=>if b=b5 then ∃N:St->Hp->Prop,(∀a d,N a d->∃g,g<m/\W g a d)/\h {D with nx:=N,ct:=N,bk:=D.nx} σ e else D.nx σ e
theorem Ln(z:a7Z (a0L X.prog X.w) X.A X.env X.xe)(hc:PT X c B)(G:PSs X body A):PS X (.While c body [] pos) (Lm B A):=by
 intro e s R H D I h;obtain⟨W,⟨J,O⟩,turn⟩:=h;refine wpAny_While<|codeAny_whileLoop (λn K=>∃i r,Inv X e i r K/\W n i r) ?_ J ⟨R,H,I,O⟩;rintro n L ⟨d,u,E,Q⟩;refine a3H z<|aP (hc e L d u _ E<|turn n d u Q) λb M ⟨w,x,j⟩=>?_;cases b with
 |true=>
  obtain⟨N,y,j⟩:=j;rw[if_pos rfl];refine a3H z<|aP (G e M d w _ x j) λf T k=>?_;cases f with
  |next=>obtain⟨a,g,l,p⟩:=k;obtain⟨o,m,q⟩:=y a g p;exact⟨o,m,a,g,l,q⟩|cont=>obtain⟨a,g,l,p⟩:=k;obtain⟨o,m,q⟩:=y a g p;exact⟨o,m,a,g,l,q⟩|brk=>exact k|ret v=>exact k
 |false=>rw[if_neg a0K];exact a6s ⟨d,w,x,j⟩
structure It where
 go:Nat->Hp->Prop
 yld:Nat->Hp->V->Hp->Prop
 stop:Nat->Hp->Prop
noncomputable def fZ(X:Cx)(b2w:jw)(H:Hp)(b:Addr):Prop:=
 H b=b0/\b≠X.env.locals/\b∉X.fs/\(b∈X.ex\/X.s₀.heap.objs.size<=b)/\(∀x c,X.env.cells.lookup x=a7 c->c≠b)/\∀p∈X.pn++b2w,p.1≠b
theorem Inv.fpOk{σ:St}{b:Addr}(I:Inv X b2w σ H s)(a:s.heap.objs.size<=b)(g:d b=b0):fZ X b2w d b:=by
 refine⟨g,a2h<|a0V I.lt a,I.nofs a,.inr<|a1l I.sz a,λx c e z=>?_,λp h z=>?_⟩
 .obtain⟨v,q⟩:=I.cell x c e;exact absurd (a0V q.lt<|by rw[z];exact a)<|a2Z _
 .exact absurd (a0V (a0m (I.pin p h).1)<|by rw[z];exact a)<|a2Z _
noncomputable abbrev Qc(X:Cx):Prop:=X.calm=b5
structure Turn(q:Cx->Prop)(P:a0R)(w:a1f)(K:a0c)(tg:Expr)(J:It)(fp:List Addr)(it:Addr)(tn:Nat->a1C->Prop):Prop where
 mem:it∈fp
 obj:∀i h,tn i h->∀b∈fp,∃o,h.get? b=a7 o/\∀v,o.data≠.cell v
 keep:∀i h h',tn i h->(∀b∈fp,∀o,h.get? b=a7 o->h'.get? b=a7 o)->tn i h'
 item:∀(X:Cx),X.prog=P->X.w=w->X.K=K->q X->∀(i:Nat)(b2w:jw)(s:a0i)(σ:St)(H:Hp)(E:Value->a0i->Prop),Inv X b2w σ H s->(∀b∈fp,fZ X b2w H b)->tn i s.heap->J.go i H->
  a0A (a0L P w) X.A (a3C<|.ref it) (λr s1=>∃u,r=a7 u /\
   a0A (a0L P w) X.A (a6u tg (.ref it) u) (λ_ s2=>∃x H',Inv X b2w σ H' s2/\RelV x u/\J.yld i H x H'/\tn (i+1) s2.heap/\∀b∈fp,H' b=b0) E s1) E s
 done:∀(X:Cx),X.prog=P->X.w=w->X.K=K->q X->∀(i:Nat)(b2w:jw)(s:a0i)(σ:St)(H:Hp)(E:Value->a0i->Prop),Inv X b2w σ H s->(∀b∈fp,fZ X b2w H b)->tn i s.heap->J.stop i H->
  a0A (a0L P w) X.A (a3C<|.ref it) (λr s1=>r=b0/\Inv X b2w σ H s1) E s
 self:∀(A:a1b)(i:Nat)(s:a0i)(Q:Value->a0i->Prop)(E:Value->a0i->Prop),tn i s.heap->Q (.ref it) s->a0A (a0L P w) A (a5L<|.ref it) Q E s
noncomputable abbrev TI:=St->Hp->(It->Hp->Prop)->Prop
inductive PIEq (q:Cx->Prop)(X:Cx)(b2w:jw)(σ:St)(tg:Expr)(R:It->Hp->Prop)(itv:Value)(s2:a0i):Prop
 |mk (it:Addr)(fp:List Addr)(tn:Nat->a1C->Prop)(J:It)(H':Hp)(e:itv=.ref it)(I:Inv X b2w σ H' s2)(T:Turn q X.prog X.w X.K tg J fp it tn)(t0:tn 0 s2.heap)(f:∀b∈fp,fZ X b2w H' b)(r:R J H'):PIEq q X b2w σ tg R itv s2
noncomputable abbrev yA:=PIEq Qc
noncomputable def rB(q:Cx->Prop)(X:Cx)(tg iter:Expr)(b:TI):Prop:=
 ∀(b2w:jw)(s:a0i)(σ:St)(H:Hp)(R:It->Hp->Prop),Inv X b2w σ H s->b σ H R->
  a0A (a0L X.prog X.w) X.A (eval iter X.env) (λv a=>a0A (a0L X.prog X.w) X.A (a5L v) (PIEq q X b2w σ tg R) X.xe a) X.xe s
noncomputable abbrev PI:=rB Qc
theorem o3(d:s.heap.get? b=a7 o)(hc:o.cls=.type n)(hd:o.data=.fields vs)(c:["enumerate","zip","dict_itemiterator","dict_reverseitemiterator","odict_iterator","itertools.zip_longest","itertools.pairwise"].contains n=b3)(a:Q () s):a0A M A (a6u tg (.ref b) u) Q E s:=by
 unfold a6u
 cases tg<;>first
  | exact a0h a
  | (cases u<;>first
    | exact a0h a
    | (refine a0b<|a8y d ?_
       rw [hc,hd]
       show a0A M A (if (["enumerate","zip","dict_itemiterator","dict_reverseitemiterator","odict_iterator","itertools.zip_longest","itertools.pairwise"].contains n&&vs[0]? == a7 (a3P _))=b5 then _ else _) Q E s
       rw [if_neg<|by intro h;rw [c,Bool.false_and] at h;cases h]
       exact a0h a))
noncomputable def yB (K:a0c)(a:Addr):It:=
 ⟨fun i H=>∃ b x,SqL K H a b/\b[i]? = a7 x,fun i H x c=>c=H/\∀ b,SqL K H a b->b[i]? = a7 x,fun i H=>∃ b,SqL K H a b/\b.length<=i⟩
noncomputable def yC(K:a0c)(a:Addr):It:=
 ⟨λi H=>∃b x,SqT K H a b/\b[i]?=a7 x,λi H x c=>c=H/\∀b,SqT K H a b->b[i]?=a7 x,λi H=>∃b,SqT K H a b/\b.length<=i⟩
noncomputable def lT(lo:Int)(n:Nat):It:=⟨λi _=>i<n,λi H x a=>a=H/\x=.int (lo+i),λi _=>n<=i⟩
theorem Lo{K:a0c}a j:Turn Qc P w K tg (yB K a) [j] j (λi h=>h.IsListIter j a i) where
 mem:=by simp
 obj:=λi h st b g=>by
  have e:b=j:=by simpa using g
  subst e;obtain⟨o,e,c,d⟩:=st;exact⟨o,e,λv z=>by rw[d]at z;cases z⟩
 keep:=λi h n st k=>st.at λo e=>k j (by simp) o e;item:=by intro X M hw L hc i l s T H E I q st N;subst M hw L;obtain⟨xs,x,r,O⟩:=N;obtain⟨Q,R,p,hz⟩:=I.list r;obtain⟨u,hu,ru⟩:=R.get O;obtain⟨y,A,Z,B,G,J⟩:=q j (by simp);refine a6i st p.isList (x:=u) (by simpa using hu) λn m sb=>?_;have U:Inv X l T H {s with heap:=n}:=I.turned (t':=s.toks) (λb o g e=>(sb.2 b g).trans e) y A B G J;obtain⟨o,e,c,d⟩:=id m;exact⟨u,rfl,o3 (s:={s with heap:=n}) e c d (by decide) ⟨x,H,U,ru,⟨rfl,λys hy=>by rw[I.list_inj hy r];exact O⟩,m,λb g=>(q b g).1⟩⟩
 done:=by intro X M hw L hc i l s T H E I q st N;subst M hw L;obtain⟨xs,r,O⟩:=N;obtain⟨Q,R,p,hz⟩:=I.list r;obtain⟨y,A,Z,B,G,J⟩:=q j (by simp);have hl:=R.length;exact a6y (I.ok.hd hc) st p.isList (by simp;lia) λn Y=>⟨rfl,I.turned (t':=s.toks) (λb o g e=>Y b o g e) y A B G J⟩
 self:=λ_ _ _ _ _ st h=>wpAny_pyIter_listiter st h
theorem Lp{K:a0c}a j:Turn Qc P w K tg (yC K a) [j] j (λi h=>h.IsTupleIter j a i) where
 mem:=by simp
 obj:=λi h st b g=>by
  have e:b=j:=by simpa using g
  subst e;obtain⟨o,e,c,d⟩:=st;exact⟨o,e,λv z=>by rw[d]at z;cases z⟩
 keep:=λi h q st k=>st.at λo e=>k j (by simp) o e;item:=by intro X N hw M hc i m s T H E I r st O;subst N hw M;obtain⟨xs,x,y,Q⟩:=O;obtain⟨l,R,p,hz⟩:=I.tuple y;obtain⟨u,hu,ru⟩:=R.get Q;obtain⟨A,B,Z,G,J,L⟩:=r j (by simp);refine a9m st (show s.heap.IsTuple a l.toArray from p) (x:=u) (by simpa using hu) λq n sb=>?_;have U:Inv X m T H {s with heap:=q}:=I.turned (t':=s.toks) (λb o g e=>(sb.2 b g).trans e) A B G J L;obtain⟨o,e,c,d⟩:=id n;exact⟨u,rfl,o3 (s:={s with heap:=q}) e c d (by decide) ⟨x,H,U,ru,⟨rfl,λys hy=>by rw[I.tuple_inj hy y];exact Q⟩,n,λb g=>(r b g).1⟩⟩
 done:=by intro X N hw M hc i m s T H E I r st O;subst N hw M;obtain⟨xs,y,Q⟩:=O;obtain⟨l,R,p,hz⟩:=I.tuple y;obtain⟨A,B,Z,G,J,L⟩:=r j (by simp);have hl:=R.length;exact a9w (I.ok.hd hc) st (show s.heap.IsTuple a l.toArray from p) (by simp;lia) λq Y=>⟨rfl,I.turned (t':=s.toks) (λb o g e=>Y b o g e) A B G J L⟩
 self:=λ_ _ _ _ _ st h=>wpAny_pyIter_tupleiter st h
theorem CC{K:a0c}a lo n:Turn Qc P w K tg (lT lo n) [a] a (λi h=>a4V h a (lo+(i:Nat)*1) ((n:Int)-(i:Nat)) 1) where
 mem:=by simp
 obj:=λi h st b c=>by
  have e:b=a:=by simpa using c
  subst e;exact⟨_,st,λv z=>by
   have Q:a1c _=a5C v:=z;cases Q⟩
 keep:=λi h j st k=>k a (by simp) _ st;item:=by intro X y hw x hc i d s G H E I l st A;subst y hw x;obtain⟨m,p,M,q,r,u⟩:=l a (by simp);have W:=b0Z (prog:=X.prog) (w:=X.w) (I.ok.hd hc) a lo 1 n;refine W.item i s _ _ A st λv j B N g O=>?_;obtain⟨t,rfl⟩:=N;have J:Inv X d G H {s with heap:=j,toks:=B}:=I.turned (λb o c e=>O b o (by simpa using c) e) m p q r u;refine⟨_,rfl,o3 (s:={s with heap:=j,toks:=B}) (n:="range_iterator") g rfl rfl (by decide) ⟨.int<|lo+i,H,J,⟨t,?_⟩,⟨rfl,rfl⟩,g,λb c=>(l b c).1⟩⟩;rw[Int.mul_one]
 done:=by intro X y hw x hc i d s G H E I l st A;subst y hw x;obtain⟨m,p,M,q,r,u⟩:=l a (by simp);exact a9x (I.ok.hd hc) st (by have:n<=i:=A;lia) λj L=>⟨rfl,I.turned (t':=s.toks) (λb o c e=>L b o c e) m p q r u⟩
 self:=λ_ _ _ _ _ st h=>a9y st h
theorem CD(tr:∀d lo n,Turn q X.prog X.w X.K tg (lT lo n) [d] d λi h=>a4V h d (lo+(i:Nat)*1) ((n:Int)-(i:Nat)) 1){σ:St}{lo:Int}(I:Inv X b2w σ H s)(h1:-(2^62)<=lo)(k:lo<2^62)(l:-(2^62)<=a)(m:a<2^62)(p:R (lT lo (a-lo).toNat) H):a0A (a0L X.prog X.w) X.A (a5L<|.ref s.heap.objs.size) (PIEq q X b2w σ tg R) E {s with heap:=s.heap.push {cls:=.type "range",data:=.fields #[.int lo t,.int a u,.int 1 v]},toks:=tk}:=by
 refine b0F (b0B ..) (small_one h1 k l m) ?_;have c:Inv X b2w σ H {s with heap:=s.heap.push {cls:=.type "range",data:=.fields #[.int lo t,.int a u,.int 1 v]},toks:=tk}:=I.kept λb o e=>a0e _ e;refine⟨(s.heap.push {cls:=.type "range",data:=.fields #[.int lo t,.int a u,.int 1 v]}).objs.size,[(s.heap.push {cls:=.type "range",data:=.fields #[.int lo t,.int a u,.int 1 v]}).objs.size],_,_,H,rfl,
  c.kept (t':=tk) λb o e=>a0e _ e,tr _ lo (a-lo).toNat,?_,λb r=>?_,p⟩
 .have g:lo+((0:Nat):Int)*1=lo:=by simp
  have j:(((a-lo).toNat:Nat):Int)-((0:Nat):Int)=a1s lo a 1:=by rw[rangeSize_one];split<;>lia
  show a4V _ _ (lo+((0:Nat):Int)*1) ((((a-lo).toNat:Nat):Int)-((0:Nat):Int)) 1;rw[g,j];exact a0o _ rfl
 .have e:b=(s.heap.push {cls:=.type "range",data:=.fields #[.int lo t,.int a u,.int 1 v]}).objs.size:=by simpa using r
  subst e;exact c.fpOk (a0l _)<|c.hok.fresh<|a0l _
noncomputable def Lq(b:TA):TI:=λσ H R=>b σ H λvs a=>∃j:Int,vs=[.int j]/\-(2^62)<=j/\j<2^62/\R (lT 0 j.toNat) a
noncomputable def Lr(b:TA):TI:=λσ H R=>b σ H λvs a=>∃i j:Int,vs=[.int i,.int j]/\(-(2^62)<=i/\i<2^62/\-(2^62)<=j/\j<2^62)/\R (lT i (j-i).toNat) a
theorem Ls(tr:∀c lo n,Turn q X.prog X.w X.K tg (lT lo n) [c] c λi h=>a4V h c (lo+(i:Nat)*1) ((n:Int)-(i:Nat)) 1)(m:Gl X "range")(o:X.mg "range"=b0)(l:PA X [a] g)(u:a0T [a] X.env=[(b3,eval a X.env)]:=by rfl):rB q X tg (.Call (.Name "range" p) [a] [] pos) (Lq g):=by
 intro b s z H R I h;refine b2v<|gW I m o b0M<|a1M (aP (l pos b s z H _ I h) λE B ⟨G,A,k,x,d⟩=>?_) u rfl;obtain⟨j,e,d,v,w⟩:=d;subst e;cases x with
 |cons r y=>cases y;obtain⟨t,rfl⟩:=r;exact call_range_1<|CD tr k (by lia) (by lia) d v<|by simpa using w
theorem Lu(o:Gl X "range")(u:X.mg "range"=b0)(n:PA X [a,b] l)(v:a0T [a,b] X.env=[(b3,eval a X.env),(b3,eval b X.env)]:=by rfl)(c:a0T [b] X.env=[(b3,eval b X.env)]:=by rfl):
  PI X tg (.Call (.Name "range" p) [a,b] [] pos) (Lr l):=by
 intro d s B H R I h;refine b2v (gW I o u b0M<|a1M (aP (n pos d s B H _ I h) λK G ⟨L,E,m,A,g⟩=>?_) (by rw[v,c])<|by rw[c];rfl);obtain⟨i,j,e,⟨g,w,x,y⟩,q⟩:=g;subst e;cases A with
 |cons r k=>
  cases k with
  |cons z k=>cases k;obtain⟨t,rfl⟩:=r;obtain⟨J,rfl⟩:=z;exact call_range_2<|CD CC m g w x y q
noncomputable def Lv(k:TI)(g:TG)(j:TS):TS:=λD σ H=>k σ H λJ e=>∃W:Nat->Nat->St->Hp->Prop,(∃m,W 0 m σ e)/\∀i m σ H,W i m σ H->
 (J.stop i H/\D.nx σ H)\/(J.go i H/\∃N:St->Hp->Prop,(∀b a,N b a->∃d,d<m/\W (i+1) d b a)/\∀x a,J.yld i H x a->g x σ a λc h=>j {D with nx:=N,ct:=N,bk:=D.nx} c h)
noncomputable def rC(a:List Addr)(h:a1C):jw:=a.filterMap λb=>(h.get? b).map λo=>(b,o)
theorem uC(c:b∈a)(e:h.get? b=a7 o):(b,o)∈rC a h:=a5a.mpr ⟨b,c,by rw[e];rfl⟩
theorem Lx(g:p∈rC a h):p.1∈a/\h.get? p.1=a7 p.2:=by
 obtain⟨b,d,e⟩:=a5a.mp g;cases q:h.get? b with
 |none=>rw[q]at e;cases e|some o=>rw[q]at e;have c:(b,o)=p:=a0B e;subst c;exact⟨d,q⟩
theorem Inv.pinned{σ:St}(I:Inv X b2w σ H s)(k:∀b∈a,fZ X b2w H b)(l:∀b∈a,∃o,s.heap.get? b=a7 o/\∀v,o.data≠.cell v):Inv X (b2w++rC a s.heap) σ H s:=
 I.pins_of λp m=>(a1t.mp m).elim (λz=>I.pin p<|a1Z _ z) λz=>by obtain⟨g,e⟩:=Lx z;obtain⟨h,i,j,_⟩:=k p.1 g;obtain⟨o,c,d⟩:=l p.1 g;rw[e]at c;cases c;exact⟨e,h,i,j,d⟩
theorem Inv.unpinned{σ:St}(I:Inv X (b2w++pl) σ H s):Inv X b2w σ H s:=I.pins_of λp a=>I.pin p<|a1Z _<|a6g _ a
theorem Lz(K:a7Z (a0L X.prog X.w) X.A X.env X.xe)(hc:X.calm=b5)(hi:PI X tg iter wi)(hg:PG X tg g)(p:PSs X body tb)(hs:∀x,a3R iter X.env x=pure x:=by intro _;rfl):PS X (.For tg iter body [] pos) (Lv wi g tb):=by
 intro c s σ H D I h;refine wpAny_For (aP (hi c s σ H _ I h) λv s1 h1=>aP h1 λitv s2 h2=>?_) hs;obtain⟨it,E,tn,J,H2,e,I2,T,st2,f2,W,⟨m0,w0⟩,turn⟩:=h2;subst e
  -- what stays b5 of the iterator's objects through the loop
 have q:∀{z:Hp},(∀b∈E,z b=b0)->∀b∈E,fZ X c z b:=λhn b p=>⟨hn b p,(f2 b p).2⟩;refine codeAny_forLoop_any (λn s'=>∃i w z,Inv X c w z s'/\tn i s'.heap/\(∀b∈E,z b=b0)/\W i n w z) ?_ m0 ⟨0,σ,H2,I2,st2,λb p=>(f2 b p).1,w0⟩;rintro n s3 ⟨i,y,Q,I3,M,G,w3⟩;rcases turn i n y Q w3 with⟨O,qn⟩|⟨go,N,hN,step⟩
 .refine a3H K<|aP (T.done X rfl rfl rfl hc i c s3 y Q X.xe I3 (q G) M O) λr s4 ⟨Y,I4⟩=>?_;subst Y;exact a6s ⟨y,Q,I4,qn⟩
 .refine a3H K<|aP (T.item X rfl rfl rfl hc i c s3 y Q X.xe I3 (q G) M go) λr s4 ⟨u,Y,h4⟩=>?_;subst Y;refine a3H K<|aP h4 λ_ s5 ⟨x,H5,I5,r5,y5,B,U⟩=>?_;have R:=I5.pinned (q U)<|T.obj _ _ B;refine a3H K<|aP (hg _ s5 y H5 x u _ R r5<|step x H5 y5) λ_ s6 ⟨σ6,H6,I6,q6⟩=>?_;refine a3H K<|aP (p _ s6 σ6 H6 _ I6 q6) λf Z A=>?_;have l:∀{a:St}{j:Hp},Inv X (c++rC E s5.heap) a j Z->N a j->∃m,m<n/\∃i w z,Inv X c w z Z/\tn i Z.heap/\(∀b∈E,z b=b0)/\W i m w z:=λ{a j} k L=>by obtain⟨m',hm,w7⟩:=hN a j L;refine⟨m',hm,i+1,a,j,k.unpinned,T.keep _ _ _ B λb p o e=>(k.pin (b,o)<|a1Z _<|a1Z _<|uC p e).1,λb p=>?_,w7⟩;obtain⟨o,e,d⟩:=T.obj _ _ B b p;exact(k.pin (b,o)<|a1Z _<|a1Z _<|uC p e).2.1
  cases f with
  |next=>obtain⟨a,j,k,L⟩:=A;exact l k L|cont=>obtain⟨a,j,k,L⟩:=A;exact l k L|brk=>obtain⟨a,j,k,A⟩:=A;exact⟨a,j,k.unpinned,A⟩|ret v=>obtain⟨x7,a,j,k,r7,A⟩:=A;exact⟨x7,a,j,k.unpinned,r7,A⟩
noncomputable abbrev R2:=V->V->Hp->VK->Prop
noncomputable def OpR(X:Cx)(f:Value->Value->a9X Value)(r:R2):Prop:=
 ∀(b2w:jw)(s:a0i)(σ:St)(H:Hp)(x y:V)(v u:Value)(Q:VK),Inv X b2w σ H s->RelV x v->RelV y u->r x y H Q->
  a0A (a0L X.prog X.w) X.A (f v u) (EP X b2w σ Q) X.xe s
noncomputable def yD(X:Cx)(f:Value->a9X Value)(r:V->Hp->VK->Prop):Prop:=
 ∀(b2w:jw)(s:a0i)(σ:St)(H:Hp)(x:V)(v:Value)(Q:VK),Inv X b2w σ H s->RelV x v->r x H Q->
  a0A (a0L X.prog X.w) X.A (f v) (EP X b2w σ Q) X.xe s
noncomputable def CallR(X:Cx)(f:Value)(r:gw->Hp->VK->Prop):Prop:=
 ∀(b2w:jw)(s:a0i)(σ:St)(H:Hp)(xs:gw)(us:gq)(Q:VK),Inv X b2w σ H s->Vals xs us->r xs H Q->
  a0A (a0L X.prog X.w) X.A (call f us) (EP X b2w σ Q) X.xe s
noncomputable def LA(X:Cx)(r:V->Hp->(Bool->Hp->Prop)->Prop):Prop:=
 ∀(b2w:jw)(s:a0i)(σ:St)(H:Hp)(x:V)(v:Value)(Q:Bool->Hp->Prop),Inv X b2w σ H s->RelV x v->r x H Q->
  a0A (a0L X.prog X.w) X.A (truthy v) (TP X b2w σ Q) X.xe s
noncomputable def rD(r:R2)(c d:TE):TE:=λσ H Q=>c σ H λx a=>d σ a λy b=>r x y b Q
noncomputable def LB(r:V->Hp->VK->Prop)(b:TE):TE:=λσ H Q=>b σ H λx a=>r x a Q
noncomputable def rI(C:Int->Int->Prop)(g:Int->Int->V):R2:=λx y H Q=>∃i j,x=.int i/\y=.int j/\C i j/\Q (g i j) H
noncomputable def gX(g:Int->Int->V):R2:=λx y H Q=>∃i j,x=.int i/\y=.int j/\Q (g i j) H
noncomputable def rU(g:Int->V):V->Hp->VK->Prop:=λx H Q=>∃i,x=.int i/\Q (g i) H
theorem yE(m:PE X a ta)(n:PE X b tb){σ:St}{R:V->V->Hp->Prop}(I:Inv X b2w σ H s)(h:ta σ H λx j=>tb σ j λy d=>R x y d){f:Value->Value->a9X Value}(o:∀v u i x y d,Inv X b2w σ d i->RelV x v->RelV y u->R x y d->a0A (a0L X.prog X.w) X.A (f v u) Q X.xe i):
  a0A (a0L X.prog X.w) X.A (eval a X.env) (λv e=>a0A (a0L X.prog X.w) X.A (eval b X.env) (λu g=>a0A (a0L X.prog X.w) X.A (f v u) Q X.xe g) X.xe e) X.xe s:=by
 refine aP (m b2w s σ H _ I h) λv z ⟨x,j,k,r,p⟩=>?_;refine aP (n b2w z σ j _ k p) λu i ⟨y,d,l,w,q⟩=>?_;exact o v u i x y d l r w q
theorem LC(k:OpR X (a4a op) r)(i:PE X a ta)(j:PE X b tb):PE X (.BinOp a op b pos) (rD r ta tb):=by intro d s o H Q I h;exact wpAny_BinOp<|yE i j I h λv u n x y e g l m q=>k d n o e x y v u Q g l m q
theorem LF(k:yD X (unaryOp op) r)(j:PE X a ta):PE X (.UnaryOp op a pos) (LB r ta):=by intro d s e H Q I h;exact UnaryOp_<|aP (j d s e H _ I h) λv n ⟨x,g,i,m,l⟩=>k d n e g x v Q i m l
theorem uD{g:Int->Int->Int}(d:∀i j t u s Q E,C i j->Q (.int (g i j) s.toks) {s with toks:=s.toks+1}->a0A (a0L X.prog X.w) X.A (f (.int i t)<|.int j u) Q E s):
  OpR X f (rI C λi j=>.int<|g i j):=by
 intro e s n H x y v u Q I k l h;obtain⟨i,j,rfl,rfl,hc,q⟩:=h;obtain⟨t,rfl⟩:=k;obtain⟨m,rfl⟩:=l;exact d i j t m s _ _ hc ⟨.int<|g i j,H,I.tok _,⟨_,rfl⟩,q⟩
theorem CF{g:Int->Int->Int}(d:∀i j t u s Q E,Q (.int (g i j) s.toks) {s with toks:=s.toks+1}->a0A (a0L X.prog X.w) X.A (f (.int i t)<|.int j u) Q E s):
  OpR X f (gX λi j=>.int<|g i j):=by
 intro e s n H x y v u Q I k l h;obtain⟨i,j,rfl,rfl,q⟩:=h;obtain⟨t,rfl⟩:=k;obtain⟨m,rfl⟩:=l;exact d i j t m s _ _ ⟨.int<|g i j,H,I.tok _,⟨_,rfl⟩,q⟩
theorem uE{g:Int->Int->Bool}(d:∀i j t u s Q E,Q (.bool<|g i j) s->a0A (a0L X.prog X.w) X.A (f (.int i t)<|.int j u) Q E s):
  OpR X f (gX λi j=>.bl<|g i j):=by
 intro e s n H x y v u Q I k l h;obtain⟨i,j,rfl,rfl,q⟩:=h;obtain⟨t,rfl⟩:=k;obtain⟨m,rfl⟩:=l;exact d i j t m s _ _ ⟨.bl<|g i j,H,I,rfl,q⟩
noncomputable def LG(i j:Int):Prop:=0<=j/\j<=1000000/\i.natAbs<2^64
noncomputable def CMul(i j:Int):Prop:=(-(2^64)<i/\i<2^64)\/(-(2^64)<j/\j<2^64)
theorem CMul.ok(h:CMul i j):b0w i j:=by
 rcases h with⟨d,e⟩|⟨d,e⟩
 .exact .of_left<|intBits_le_64 d e
 .exact .of_right<|intBits_le_64 d e
theorem op_add:OpR X (a4a .Add) (gX λi j=>.int<|i+j):=CF λ_ _ _ _ _ _ _ q=>add_int q
theorem LH:OpR X (a4a .Sub) (gX λi j=>.int<|i-j):=CF λ_ _ _ _ _ _ _ q=>sub_int q
theorem LJ:OpR X (a4a .Mod) (rI (λ_ j=>0<j) λi j=>.int<|i%j):=uD λi j _ _ _ _ _ hc q=>by have d:(0:Int)<j:=hc;exact mod_int' (by lia)<|by rw[Int.fmod_eq_emod_of_nonneg i<|by lia];exact q
theorem o4{g:Int->Int}(d:∀i t s Q E,Q (.int (g i) s.toks) {s with toks:=s.toks+1}->a0A (a0L X.prog X.w) X.A (f<|.int i t) Q E s):
  yD X f (rU λi=>.int<|g i):=by
 intro e s k H x v Q I j h;obtain⟨i,rfl,q⟩:=h;obtain⟨t,rfl⟩:=j;exact d i t s _ _ ⟨.int<|g i,H,I.tok _,⟨_,rfl⟩,q⟩
theorem LK:yD X (unaryOp .USub) (rU λi=>.int<|-i):=o4 λ_ _ _ _ _ q=>neg_int q
theorem nF{σ:St}(I:Inv X b2w σ H s)(q:Q (.bl k) H)(e:k=k'):EP X b2w σ Q (.bool k') s:=by subst e;exact⟨.bl k,H,I,rfl,q⟩
theorem yF:OpR X (a1J .Lt) (gX λi j=>.bl<|decide<|i<j):=uE λ_ _ _ _ _ _ _ q=>lt_int q
theorem yG:OpR X (a1J .LtE) (gX λi j=>.bl<|decide<|i<=j):=uE λ_ _ _ _ _ _ _ q=>le_int q
theorem yH:OpR X (a1J .Gt) (gX λi j=>.bl<|decide<|j<i):=uE λ_ _ _ _ _ _ _ q=>gt_int q
theorem yI:OpR X (a1J .GtE) (gX λi j=>.bl<|decide<|j<=i):=uE λ_ _ _ _ _ _ _ q=>ge_int q
theorem CG:OpR X (a1J .In) (λx y H Q=>∃i j,x=.str i/\y=.str j/\Q (.bl<|!(a2i j i 0 j.length 1).isEmpty) H):=by intro d s l H x y v u Q I e g h;obtain⟨i,j,rfl,rfl,q⟩:=h;obtain⟨t,rfl⟩:=e;obtain⟨k,rfl⟩:=g;exact in_str<|nF I q rfl
theorem CH:OpR X (a1J .Is) (λx y H Q=>y=.non/\Q (.bl<|decide<|x=.non) H):=by
 intro e s i H x y v u Q I d g h;obtain⟨rfl,q⟩:=h;cases g;refine is_none_gen<|nF I q ?_;cases x<;>first
  |(cases d;rfl)|(obtain⟨t,rfl⟩:=d;rfl)
theorem CI:OpR X (a1J .IsNot) (λx y H Q=>y=.non/\Q (.bl<|!decide (x=.non)) H):=by
 intro e s i H x y v u Q I d g h;obtain⟨rfl,q⟩:=h;cases g;refine isnot_none_gen<|nF I q ?_;cases x<;>first
  |(cases d;rfl)|(obtain⟨t,rfl⟩:=d;rfl)
theorem OpR.or(h:OpR X f r)(h':OpR X f e):OpR X f (λx y H Q=>r x y H Q\/e x y H Q):=by
 intro d s j H x y v u Q I g i q;rcases q with q|q
 .exact h d s j H x y v u Q I g i q
 .exact h' d s j H x y v u Q I g i q
theorem d5 b(h:op≠.In:=by decide)(g:op≠.NotIn:=by decide):a3L op b=false:=by
 have d:(op==CmpOp.In)=false:=by cases op<;>first|rfl|exact absurd rfl h
 have e:(op==CmpOp.NotIn)=false:=by cases op<;>first|rfl|exact absurd rfl g
 cases b<;>simp[a3L,d,e]
theorem LL(l:OpR X (a1J op) r)(i:PE X a ta)(j:PE X b tb)(k:a3L op b=b3):PE X (.Compare a [op] [b] pos) (rD r ta tb):=by intro d s p H Q I h;exact wpAny_Compare1 (yE i j I h λv u o x y e g m n q=>l d o p e x y v u Q g m n q) k
noncomputable def CJ(t:TE):TT:=λσ H Q=>t σ H λx d=>∃k,x=.bl k/\Q k d
theorem LM(A:OpR X (a1J op) r)(p:PE X a ta)(q:PE X b tb)(w:a3L op b=b3):PT X (.Compare a [op] [b] pos) (CJ<|rD r ta tb):=by
 intro d s g H Q I h;refine wpAny_isTrue_Compare1 (aP (p d s g H _ I h) λv M ⟨x,i,m,J,B⟩=>aP (q d M g i _ m B) λu N ⟨y,j,n,K,E⟩=>
  aP (A d N g j x y v u _ n J K E) λc O ⟨z,l,o,L,k,e,G⟩=>?_) w
 subst e;cases L;exact a2v ⟨l,o,G⟩
noncomputable def yJ(r i:R2)(ta tb tc:TE):TE:=λσ H Q=>ta σ H λx e=>tb σ e λy g=>r x y g λz d=>∃k,z=.bl k /\
 (if k=b5 then tc σ d λj h=>i y j h Q else Q (.bl b3) d)
theorem LN(N:OpR X (a1J op) r)(l:OpR X (a1J i) p)(K:PE X a ta)(L:PE X b tb)(hc:PE X c tc)(M:b1n [op,i] [b,c]=false:=by with_unfolding_all rfl):PE X (.Compare a [op,i] [b,c] pos) (yJ r p ta tb tc):=by
 intro g s j H Q I h;refine Compare_chain (aP (K g s j H _ I h) λv s1 ⟨x,w,E,U,O⟩=>chain_link<|aP (L g s1 j w _ E O) λu s2 ⟨y,A,G,q,R⟩=>
  aP (N g s2 j A x y v u _ G U q R) λd s3 ⟨z,m,n,Y,k,e,o⟩=>?_) M
 subst e;cases Y;refine a2v ?_;cases k with
 |false=>exact ite_ff ⟨.bl b3,m,n,rfl,o⟩|true=>exact ite_tt<|chain_last<|aP (hc g s3 j m _ n o) λw' s4 ⟨z',B,J,Z,T⟩=>l g s4 j B y z' u w' Q J q Z T
theorem LO(U:OpR X (a1J op) r)(l:OpR X (a1J i) p)(O:PE X a ta)(R:PE X b tb)(hc:PE X c tc)(T:b1n [op,i] [b,c]=false:=by with_unfolding_all rfl):PT X (.Compare a [op,i] [b,c] pos) (CJ<|yJ r p ta tb tc):=by
 intro g s j H Q I h;refine isTrue_chain (aP (O g s j H _ I h) λv s1 ⟨x,w,G,r1,Z⟩=>test_link<|aP (R g s1 j w _ G Z) λu s2 ⟨y,A,J,q,q2⟩=>
  aP (U g s2 j A x y v u _ J r1 q q2) λd s3 ⟨z,m,n,r3,k,e,o⟩=>?_) T
 subst e;cases r3;refine a2v ?_;cases k with
 |false=>obtain⟨k',M,Y⟩:=o;cases M;exact ite_ff ⟨m,n,Y⟩|true=>refine ite_tt<|test_last<|aP (hc g s3 j m _ n o) λw' s4 ⟨z',B,K,r4,q4⟩=>aP (l g s4 j B y z' u w' _ K q r4 q4) λd' s5 ⟨z2,E,L,r5,k2,N,q5⟩=>?_;subst N;cases r5;exact a2v ⟨E,L,q5⟩
noncomputable def yK(K:a0c)(x:V)(H:Hp)(k:Bool):Prop:=
 match x with
 |.non=>k=b3|.bl b=>k=b|.int i=>k=(i != 0)|.str y=>y.length<=a0s/\k=((y.length:Int) != 0)|.byt y=>y.size<=a0s/\k=((y.size:Int) != 0)|.ref p=>(∃e,SqL K H p e/\k=!e.isEmpty)\/(∃e,SqT K H p e/\k=!e.isEmpty)\/∃d,H p=a7 (.dK d)/\k=!d.isEmpty|_=>False
theorem LP{kvs:List (κ×V)}{vs:List (κ×Value)}(r:KV kvs vs):(!vs.isEmpty)=!kvs.isEmpty:=by cases r<;>rfl
theorem CK(r:Vals xs its):(!its.toArray.isEmpty)=!xs.isEmpty:=by cases r<;>simp
theorem nG:(a0s:Nat)<2^63:=by rw[a0O];decide
theorem LQ:LA X (λx H Q=>∃k,yK X.K x H k/\Q k H):=by
 intro B s L H x v Q I n h;obtain⟨k,e,q⟩:=h;have J:=nG;have K:a0s=16777216:=a0O;cases x with
 |non=>cases n;have d:k=false:=e;subst d;exact truthy_none ⟨H,I,q⟩|bl b=>cases n;have d:k=b:=e;subst d;exact a2v ⟨H,I,q⟩|int i=>obtain⟨t,rfl⟩:=n;have d:k=(i != 0):=e;subst d;exact PySem.P.truthy_int ⟨H,I,q⟩|str y=>obtain⟨t,rfl⟩:=n;obtain⟨G,d⟩:y.length<=a0s/\k=((y.length:Int) != 0):=e;subst d;exact PySem.P.truthy_str (by lia) ⟨H,I.tok _,q⟩|byt y=>obtain⟨t,rfl⟩:=n;obtain⟨G,d⟩:y.size<=a0s/\k=((y.size:Int) != 0):=e;subst d;exact PySem.W.truthy_bytes (by lia) ⟨H,I.tok _,q⟩|ref p=>
  cases n;have d:(∃l,SqL X.K H p l/\k=!l.isEmpty)\/(∃l,SqT X.K H p l/\k=!l.isEmpty)\/∃g,H p=a7 (.dK g)/\k=!g.isEmpty:=e;rcases d with⟨l,o,d⟩|⟨l,o,d⟩|⟨g,o,d⟩
  .subst d;obtain⟨w,r,z,A⟩:=I.list o;have j:=r.length;exact wpAny_truthy_list z.isList (by simp only[a0J];lia) ⟨H,I.tok _,by rw[CK r];exact q⟩
  .subst d;obtain⟨w,r,z,A⟩:=I.tuple o;have j:=r.length;exact truthy_tuple z (by simp only[a0J];lia) ⟨H,I.tok _,by rw[CK r];exact q⟩
  .subst d;obtain⟨A,E,u,r,m⟩:g.length<=a0s/\(p==a1W)=b3/\∃u,KV g u/\s.heap.DictOf (q0 X.prog X.w) p u:=I.hok p _ o;have j:g.length=u.length:=a7P r;exact wpAny_truthy_dict E m (by lia) ⟨H,I.tok _,by rw[LP r];exact q⟩
 |_=>exact(show False from e).elim
theorem LR(m:PE X a ta)(n:∀d,a9G a X.env d=(do let v <- d;a8r a.pos;holding [v] (truthy v))):
  PT X a (λg H Q=>ta g H λx i=>∃k,yK X.K x i k/\Q k i):=by
 intro e s g H Q I h;exact isTrue_plain (aP (m e s g H _ I h) λv q ⟨x,j,l,p,o⟩=>LQ e q g j x v Q l p o)<|n _
theorem op_add_str:OpR X (a4a .Add) (λx y H Q=>∃i j,x=.str i/\y=.str j/\i.length+j.length<=a0s/\Q (.str<|i++j) H):=by intro d s n H x y v u Q I g k h;obtain⟨i,j,rfl,rfl,e,q⟩:=h;obtain⟨t,rfl⟩:=g;obtain⟨l,rfl⟩:=k;exact add_str (λl m=>⟨.str<|i++j,H,I.tok _,⟨_,rfl⟩,q⟩) e
theorem d6(r:Vals [x] us):∃u,us=[u]/\RelV x u:=by
 cases r with
 |cons d e=>cases e;exact⟨_,rfl,d⟩
theorem CL(r:Vals [x,y] us):∃u d,us=[u,d]/\RelV x u/\RelV y d:=by
 cases r with
 |cons e g=>
  cases g with
  |cons h i=>cases i;exact⟨_,_,rfl,e,h⟩
theorem LS:CallR X (.type "int") (λxs H Q=>(∃i,xs=[.int i]/\Q (.int i) H)\/∃k,xs=[.bl k]/\Q (.int<|if k then 1 else 0) H):=by
 intro d s j H xs g Q I r h;rcases h with⟨i,rfl,q⟩|⟨k,rfl,q⟩
 .obtain⟨u,rfl,t,rfl⟩:=d6 r;exact call_int_int ⟨.int i,H,I,⟨_,rfl⟩,q⟩
 .obtain⟨u,rfl,e⟩:=d6 r;cases e;exact call_int_bool ⟨.int<|if k then 1 else 0,H,I.tok _,⟨_,rfl⟩,q⟩
structure ObjM(h:a1C)(x dx C:Addr)(mA:Str->Option Value):Prop where
 obj:h.get? x=a7 (a3h C dx)
 ns:h.Ns1 dx mA
 ne:dx≠x
theorem LU{h:a1C}(n:h.Ns1 c g):∃i,h.get? c=a7 i/\∀name,a5N name i=a7 (g name):=by
 obtain⟨o,d,r,m,hd,k,_,l⟩:=n;refine⟨o,m,λname=>?_⟩;have e:=l name;unfold nsFind findBy at e;rw[<- Array.find?_toList]at e;unfold a5N;rw[hd];dsimp only;split
 .rename_i y q;rw[q]at e;exact congrArg a7 e
 .rename_i q;rw[q]at e;have a:d.toList.any (·.refKey)=false:=by rw[a6V];intro y p;obtain⟨z,t,b⟩:=k y<|Array.mem_toList_iff.mp p;simp[DictEntry.refKey,b]
  have j:¬ d.toList.any (·.refKey)=true:=by rw[a];exact a0K
  rw[if_neg j];exact congrArg a7 e
theorem ObjM.look(I:ObjM h x b C c):∃a,PySem.W.InstAt h x (a3h C b) C (a7 a)/\∀name,a5N name a=a7 (c name):=
 let⟨a,e,d⟩:=LU I.ns
 ⟨a,⟨I.obj,rfl,rfl,e⟩,d⟩
theorem LV{K:a0c}(X:K.In s.heap)(I:ObjM s.heap x dx C mA)(d:a4r K C name=b5)(e:a4Y K C=b5)(c:a1Y K (.ref C) name=a7 b0)(i:mA name=a7 v)(b:a9g v=b5)(h:Q v {s with toks:=s.toks+1}):
  a0A (a0L prog w) A (getAttr (.ref x) name a) Q E s:=by
 obtain⟨j,J,g⟩:=I.look;exact PySem.W.get_value X J (a5X d).1 (PySem.W.findObj_own e c rfl<|by rw[g,i]) b h
theorem LW{K:a0c}(X:K.In s.heap)(I:ObjM s.heap x dx C mA)(a:a4r K C name=b5)(b:a1Y K (.ref C) name=a7 (a7<|.ref f))(d:a6C K (.ref f)=b5)(e:mA name=b0)(h:Q (.ref f,[.ref x]) s):
  a0A (a0L prog w) A (a7V (.ref x) name pl) Q E s:=by
 obtain⟨g,J,c⟩:=I.look;exact PySem.W.method_fn X J (a5X a).1 (a5X a).2 b (beq_iff_eq.mp d) (by show(a5N name g).map (·.isSome)=a7 b3;rw[c,e];rfl) h
theorem LX{K:a0c}(X:K.In s.heap)(I:ObjM s.heap x dx C mA)(o:a1Y K (.ref C) "__setattr__"=a7 (a7<|.builtin "object.__setattr__"))(n:a6A K C=b5)(p:a7b K C name=a7 b0)(m:a4Y K C=b5)(hw:a8n mA ns)(hsz:ns.length<=a0s)(h:∀d,ObjM d x dx C (λy=>if y=name then a7 v else mA y)->a2X dx s.heap d->Q () {s with heap:=d,toks:=s.toks+2}):
  a0A (a0L prog w) A (setAttr (.ref x) name v) Q E s:=by
 obtain⟨B,J,u⟩:=I.look;refine PySem.W.set_plain X J o<|PySem.W.osa_open (s:={s with toks:=s.toks+1}) (r:=b0) X J n p λb=>?_;obtain⟨r,hc,g⟩:=PySem.W.any_some m;have q:s.heap.get? x=a7 ⟨.ref C,a7 dx,.plain,#[]⟩:=I.obj;refine a0b<|a0h<|a0b<|a0b<|wpAny_loadPart q<|a0b<|b1s (s:={s with toks:=s.toks+1}) (PySem.W.looks_clsIn X hc) ?_;rw[g];refine a0h (a:=a7 dx)<|a0b<|a0h<|a0b ?_;refine wpAny_nsSet1 (s:={s with toks:=s.toks+1}) I.ns λd a c=>?_;obtain⟨z,l,k,j,i,e⟩:=a.count<|b1F name v hw;refine a0b (wpAny_lookBehind j (by rw[i];exact pastItsLine_dict<|a1l e<|by rw[a0Q];lia) ?_);exact a0h<|h _ ⟨(c.2 _<|a1j I.ne).trans I.obj,a,I.ne⟩ c
theorem LY{s:a0i}{K:a0c}{vs:gq}(X:K.In s.heap)(i:a7c K C=b5)(e:a1Y K (.ref C) "__init__"=a7 (a7<|.ref f))(c:PySem.W.typeIn K (.ref f)=a7 (.type "function"))(h:a3q (a0L prog w) (A.under<|.builtin "type.__call__" ⟨.ref C::vs,b⟩) (.call (.ref f) ⟨.ref (s.heap.objs.size+1)::vs,b⟩) (PySem.W.InitBack (s.heap.objs.size+1) R)
   {s with heap:=(s.heap.push a2B).push<|a3h C s.heap.objs.size}):
  a3q (a0L prog w) A (.call (.ref C) ⟨vs,b⟩) R s:=by
 obtain⟨j,g,d,t,k⟩:=s;exact PySem.W.make_core (PySem.W.makes_of X i) (PySem.W.looks_findIn X e) (λa=>PySem.W.bind_fn X a c) (.inl rfl) h
noncomputable def eC(f:Str)(v:V):List (Str×V)->List (Str×V)
 |[]=>[(f,v)]|(g,x)::r=>if g=f then(g,v)::r else(g,x)::eC f v r
theorem CM f g v:∀fs,(eC f v fs).lookup g=if g=f then a7 v else fs.lookup g
 |[]=>by
  show a2r g [(f,v)]=_;by_cases h:g=f
  .have a:(g==f)=true:=beq_iff_eq.mpr h;simp only[a2r,a,if_pos h]
  .have a:(g==f)=false:=beq_eq_false_iff_ne.mpr h;simp only[a2r,a,if_neg h]
 |(k,x)::r=>by
  have c:=CM f g v r;rw[show eC f v ((k,x)::r)=(if k=f then(k,v)::r else(k,x)::eC f v r)from rfl];by_cases b:k=f
  .rw[if_pos b];by_cases h:g=k
   .have a:(g==k)=true:=beq_iff_eq.mpr h;simp only[a2r,a,if_pos<|h.trans b]
   .have a:(g==k)=false:=beq_eq_false_iff_ne.mpr h;simp only[a2r,a,if_neg λe:g=f=>h<|e.trans b.symm]
  .rw[if_neg b];by_cases h:g=k
   .have a:(g==k)=true:=beq_iff_eq.mpr h;simp only[a2r,a,if_neg λe:g=f=>b<|h.symm.trans e]
   .have a:(g==k)=false:=beq_eq_false_iff_ne.mpr h;simp only[a2r,a];exact c
theorem yL f v:∀fs,f∈(eC f v fs).map (·.1)/\∀g,g∈fs.map (·.1)->g∈(eC f v fs).map (·.1)
 |[]=>⟨by simp[eC],λg h=>by simp at h⟩|(k,x)::r=>by
  obtain⟨b,c⟩:=yL f v r;rw[show eC f v ((k,x)::r)=(if k=f then(k,v)::r else(k,x)::eC f v r)from rfl];by_cases a:k=f
  .rw[if_pos a];subst a;exact⟨by simp,λg h=>by simpa using h⟩
  .rw[if_neg a];refine⟨?_,λg h=>?_⟩
   .rw[a0r];exact a0F _ b
   .rw[a0r]at h ⊢;rcases a0D.mp h with e|e
    .exact a0D.mpr<|.inl e
    .exact a0F _<|c g e
theorem CN f v:∀fs,(eC f v fs).length<=fs.length+1
 |[]=>by simp[eC]
 |(k,x)::r=>by
  have b:=CN f v r;rw[show eC f v ((k,x)::r)=(if k=f then(k,v)::r else(k,x)::eC f v r)from rfl];by_cases a:k=f
  .rw[if_pos a,a0Q,a0Q];lia
  .rw[if_neg a,a0Q,a0Q];lia
theorem RelO.some_of(r:RelO (a7 v) o):∃u,o=a7 u/\RelV v u:=by
 cases o with
 |none=>exact(show False from r).elim|some u=>exact⟨u,rfl,r⟩
theorem RelO.none_of(r:RelO b0 o):o=none:=by
 cases o with
 |none=>rfl|some u=>exact(show False from r).elim
theorem LZ(r:RelV v u):a9g u=true:=by
 cases v with
 |non=>cases(show u=a1z from r);rfl|bl b=>cases(show u=a2b b from r);rfl|int i=>obtain⟨t,e⟩:=(show ∃t,u=a1m i t from r);cases e;rfl|str x=>obtain⟨t,e⟩:=(show ∃t,u=a6Y x t from r);cases e;rfl|byt b=>obtain⟨t,e⟩:=(show ∃t,u=b1c b t from r);cases e;rfl|flt b=>obtain⟨t,e⟩:=(show ∃t,u=b1b b t from r);cases e;rfl|ref a=>cases(show u=a0n a from r);rfl|ty n=>cases(show u=a0C n from r);rfl
theorem yM(c:HOk P w H h)(e:H a=a7 (.ins C dx fs)):∃b,ObjM h a dx C b/\(∀f,RelO (fs.lookup f) (b f))/\a8n b (fs.map (·.1))/\fs.length<=1000/\H dx=a7 (.own a):=by obtain⟨d,z,ne,g,b,n,r,q⟩:=(show ObjOk P w H h a (.ins C dx fs)from c a _ e);exact⟨b,⟨g,n,ne⟩,r,q,z,d⟩
structure Cls(K:a0c)(C:Addr):Prop where
 pg:a4r K C Str.empty=b5
 hd:a4Y K C=b5
 po:a6A K C=b5
 sa:a1Y K (.ref C) "__setattr__"=a7 (a7<|.builtin "object.__setattr__")
theorem Cls.get{K:a0c}(c:Cls K C)f:a4r K C f=true:=c.pg
noncomputable def NoAttr(K:a0c)(C:Addr)(f:Str):Prop:=a1Y K (.ref C) f=a7 b0
theorem NoAttr.taker{K:a0c}(n:NoAttr K C f):a7b K C f=a7 none:=by unfold a7b;rw[show a1Y K (.ref C) f=a7 b0 from n];rfl
structure Con(K:a0c)(C:Addr)(f:Str)(v:V)(u:Value):Prop where
 at_:a1Y K (.ref C) f=a7 (a7 u)
 rel:RelV v u
 get:a8O K u "__get__"=a7 b0
 cp:PySem.W.copiedNames.contains f=b3
structure Meth(K:a0c)(C:Addr)(m:Str)(f:Addr):Prop where
 at_:a1Y K (.ref C) m=a7 (a7<|.ref f)
 fn:a6C K (.ref f)=b5
 kp:a2l K (.ref f)=b5
theorem L0{σ:St}(I:Inv X b2w σ H s)(e:H a=a7 (.ins C dx fs))(c:Cls X.K C)(n:NoAttr X.K C f)(l:fs.lookup f=a7 v)(h:∀u g,Inv X b2w σ H g->RelV v u->Q u g):a0A (a0L X.prog X.w) A (getAttr (.ref a) f b) Q E s:=by
 obtain⟨j,O,r,_,_,_⟩:=yM I.hok e;obtain⟨u,i,d⟩:=RelO.some_of (v:=v) (o:=j f) (by rw[<- l];exact r f);exact LV I.kIn O (c.get f) c.hd n i (LZ d)<|h u _ (I.tok _) d
theorem CO{σ:St}(I:Inv X b2w σ H s)(e:H a=a7 (.ins C dx fs))(c:Cls X.K C)(k:Meth X.K C m g)(l:fs.lookup m=b0)(h:Q (.ref g,[.ref a]) s):a0A (a0L X.prog X.w) A (a7V (.ref a) m pl) Q E s:=by
 obtain⟨d,O,r,_,_,_⟩:=yM I.hok e;have b:d m=none:=RelO.none_of (by rw[<- l];exact r m);exact LW I.kIn O (c.get m) k.at_ k.fn b h
theorem L1{σ:St}(I:Inv X b2w σ H s)(e:H a=a7 (.ins C dx fs))(c:Cls X.K C)(n:NoAttr X.K C f)(K:fs.length<1000)(G:RelV y u)(h:∀k,Inv X b2w σ (aK H a<|.ins C dx<|eC f y fs) k->Q () k):a0A (a0L X.prog X.w) A (setAttr (.ref a) f u) Q E s:=by
 obtain⟨j,O,r,l,_,i⟩:=yM I.hok e;have B:(fs.map (·.1)).length<=a0s:=by rw[a0d,a0O];lia
 refine LX I.kIn O c.sa c.po n.taker c.hd l B λp d J=>h _ ?_;have hd:∃o,p.get? dx=a7 o:=let⟨o,_,_,m,_⟩:=d.ns;⟨o,m⟩;refine I.write (x:=a) (e:=dx) (by rw[e];exact a3v) (.inr i) (λb q w z=>(J.2 b w).trans z) hd ?_;refine⟨by rw[a9 O.ne];exact i,?_,O.ne,d.obj,_,d.ns,λg=>?_,λg x=>?_⟩
 .have:=CN f y fs;lia
 .show RelO ((eC f y fs).lookup g) (if g=f then a7 u else j g);rw[CM];by_cases q:g=f
  .rw[if_pos q,if_pos q];exact G
  .rw[if_neg q,if_neg q];exact r g
 .by_cases q:g=f
  .rw[q];exact(yL f y fs).1
  .refine(yL f y fs).2 g<|l g λz=>x ?_;show(if g=f then a7 u else j g)=b0;rw[if_neg q];exact z
theorem Inv.made{σ:St}(I:Inv X b2w σ H s):Inv X b2w σ (aK (aK H s.heap.objs.size<|.own<|s.heap.objs.size+1) (s.heap.objs.size+1)<|.ins C s.heap.objs.size [])
  {s with heap:=(s.heap.push a2B).push<|a3h C s.heap.objs.size}:=by
 have c:(s.heap.push a2B).get? s.heap.objs.size=a7 a2B:=a0o s.heap rfl;have g:((s.heap.push a2B).push<|a3h C s.heap.objs.size).get? (s.heap.objs.size+1)=a7 (a3h C s.heap.objs.size):=by have:=a0o (s.heap.push a2B) (o:=a3h C s.heap.objs.size) rfl;rwa [a3c]at this
 have h:(s.heap.push a2B).Ns s.heap.objs.size (λ_=>b0):=⟨a2B,#[],_,c,rfl,(λe i=>absurd i<|by simp),λ_=>rfl⟩;have d:=I.laid (a:=s.heap.objs.size) (o:=.own (s.heap.objs.size+1)) (h':=s.heap.push a2B) (t':=s.toks) (λb u q=>a0e _ q) (a0l _) ⟨_,c⟩;refine d.laid (a:=s.heap.objs.size+1) (o:=.ins C s.heap.objs.size []) (t':=s.toks) (λb u q=>a0e _ q) (a3V<|a3c _ _) ?_;have ne:s.heap.objs.size≠s.heap.objs.size+1:=a0y<|a1A _;refine⟨by rw[a9 ne,cP],a1U _,ne,g,λ_=>b0,(Heap.Ns1.of_empty h).at λo q=>a0e _ q,λ_=>a3v,λy j=>absurd rfl j⟩
theorem L4(c:a2Q e f env (eval e env)=eval e env)(h:a0A (a0L prog w) A (eval e env) (λo b=>a0A (a0L prog w) A (getAttr o f b5) Q E b) E s):a0A (a0L prog w) A (eval (.Attribute e f pos) env) Q E s:=
 Attribute_any_ h<|by rw[arm_eval_Attribute,c]
noncomputable def L6(K:a0c)(d:TE)(f:Str):TE:=λσ H Q=>d σ H λx b=>∃a C c fs v,x=.ref a/\b a=a7 (.ins C c fs)/\Cls K C/\NoAttr K C f/\fs.lookup f=a7 v/\Q v b
noncomputable def L7(K:a0c)(e g:TE)(f:Str):TS:=λD σ H=>g σ H λy d=>e σ d λx b=>∃a C c fs,x=.ref a/\b a=a7 (.ins C c fs)/\Cls K C/\NoAttr K C f/\fs.length<1000 /\
 D.nx σ (aK b a<|.ins C c<|eC f y fs)
theorem L8(p:PE X e ta)(m:a2Q e f X.env (eval e X.env)=eval e X.env):PE X (.Attribute e f pos) (L6 X.K ta f):=by intro b s y H Q I h;refine L4 m<|aP (p b s y H _ I h) λu A ⟨x,d,g,w,a,C,z,fs,v,k,j,c,n,l,q⟩=>?_;subst k;obtain rfl:u=a0n a:=w;exact L0 g j c n l λE B i r=>⟨v,d,i,r,q⟩
theorem L9(r:PE X o ta)(w:PE X value tv)(v:a4M value (a7<|.Attribute o f pos') pos.line X.env=pure b3):PS X (.Assign [.Attribute o f pos'] value pos) (L7 X.K ta tv f):=by intro b s d H D I h;refine plainObj_wpAny_Assign_Attribute (aP (w b s d H _ I h) λu G ⟨y,g,i,E,q⟩=>aP (r b G d g _ i q) λz L ⟨x,J,j,B,a,C,K,fs,p,m,c,n,l,A⟩=>?_) v;subst p;obtain rfl:z=a0n a:=B;exact L1 j m c n l E λM k=>⟨d,_,k,A⟩
section
variable{X:Cx}{b2w:jw}{σ:St}{H:Hp}{s:a0i}{A:a1b}{E:Value->a0i->Prop}{Q:Value->a0i->Prop}{c:Value}{b:Bool}
inductive TyOf (K:a0c)(H:Hp):V->Value->Prop where
 |non:TyOf K H .non<|.type "NoneType"
 |bl (x:Bool):TyOf K H (.bl x)<|.type "bool"
 |int (i:Int):TyOf K H (.int i)<|.type "int"
 |str (x:Str):TyOf K H (.str x)<|.type "str"
 |flt (x:UInt64):TyOf K H (.flt x)<|.type "float"
 |lst {a:Addr}{xs:gw}(e:H a=a7 (.lst xs)):TyOf K H (.ref a)<|.type "list"
 |frz {a:Addr}{o:Obj}{xs:gw}(e:H a=a7 (.frz o<|.lst xs)):TyOf K H (.ref a)<|.type "list"
 |tup {a:Addr}{xs:gw}(e:H a=a7 (.tup xs)):TyOf K H (.ref a)<|.type "tuple"
 |dK {a:Addr}{kvs:List (cA×V)}(e:H a=a7 (.dK kvs)):TyOf K H (.ref a)<|.type "dict"
 |dT {a:Addr}{kvs:List (List cA×V)}(e:H a=a7 (.dT kvs)):TyOf K H (.ref a)<|.type "dict"
 |ins {a C dx:Addr}{fs:List (Str×V)}(e:H a=a7 (.ins C dx fs))(cl:Cls K C)(ha:a1Y K (.ref C) "__class__"=a7 (a7<|.builtin "object.__class__"))
   (hn:a8O K (.builtin "object.__class__") "__get__"=a7 (a7<|.builtin "getset_descriptor.__get__")) (htk:PySem.W.takesIn K (.builtin "object.__class__")=a7 b5)
   (hm:PySem.W.mroIn K C (.type "object")=a7 b5):TyOf K H (.ref a)<|.ref C
end
structure Room(k:Nat)(A:a1b):Prop where
 hd:A.handled=b0
 dp:A.depth+3*k+5<b2k
 un:A.units+16*k+200<a2e
theorem Room.deeper(r:Room (k+1) A)env:Room k (A.deeper env):=
 ⟨r.hd,by have:=r.dp;show A.depth+1+3*k+5<_;lia,by have:=r.un;show A.units+3+16*k+200<_;lia⟩
theorem Ma{A:a1b}{us:gq}:(A.under<|.builtin "type.__call__" ⟨.ref C::us,a⟩).depth=A.depth+1:=by first|rfl|simp[a8l,Code.weight,Code.isCreation,Code.isGuard,Code.isCaller,b1x,a8w,guardIds]
theorem Mb{A:a1b}{us:gq}:(A.under<|.builtin "type.__call__" ⟨.ref C::us,a⟩).units=A.units+1:=by first|rfl|simp[a8l,Code.cUnits,b1x,a8w]
theorem Room.make(r:Room (k+1) A)C(us:gq)a:Room k (A.under<|.builtin "type.__call__" ⟨.ref C::us,a⟩):=
 ⟨r.hd,by have:=r.dp;rw[Ma];lia,by have:=r.un;rw[Mb];lia⟩
theorem Room.depth(r:Room k A):A.depth<b2k:=by have:=r.dp;lia
theorem Room.units(r:Room k A):A.units+64<a2e:=by have:=r.un;lia
noncomputable def uF:TA:=λ_ H Q=>Q [] H
noncomputable def CP(c:TE)(tr:TA):TA:=λσ H Q=>c σ H λx a=>tr σ a λxs b=>Q (x::xs) b
theorem CQ:PA X [] uF:=λ_ _ _ _ H Q I h=>a5l ⟨[],H,I,.nil,h⟩
theorem CS(j:PE X e te)(k:PA X es t)(l:a0T (e::es) X.env=(b3,eval e X.env)::a0T es X.env:=by rfl):PA X (e::es) (CP te t):=by intro pos a s b H Q I h;rw[l];show a0A _ _ (spliced<|(b3,eval e X.env)::a2F pos (a0T es X.env)) _ _ s;refine a4W<|aP (j a s b H _ I h) λu q ⟨x,c,g,o,m⟩=>?_;exact aP (k pos a q b c _ g m) λw v ⟨r,d,i,p,n⟩=>⟨x::r,d,i,.cons o p,n⟩
noncomputable def Mc(t:TA):TE:=λσ H Q=>t σ H λxs a=>xs.length<=a0s/\∀p,a p=b0->Q (.ref p) (aK a p<|.tup xs)
noncomputable def Md(t:TA):TE:=λσ H Q=>t σ H λxs a=>xs.length<=a0s/\∀p,a p=b0->Q (.ref p) (aK a p<|.lst xs)
theorem Me{x1}(h:PA X es t):PE X (.Tuple es x1 pos) (Mc t):=by intro c s m H Q I j;refine wpAny_Tuple_spliced (aP (h pos c s m H _ I j) λk a ⟨l,d,g,r,z,q⟩=>⟨by rw[<- r.length];exact z,?_⟩);have i:d a.heap.objs.size=none:=g.hok.fresh<|a0l _;refine⟨.ref a.heap.objs.size,aK d a.heap.objs.size<|.tup l,g.laid (t':=a.toks) (λb u e=>a0e _ e) (a0l _) ?_,rfl,q _ i⟩;exact⟨z,k,r,⟨_,a0o _ rfl,rfl,_,rfl,rfl⟩⟩
theorem Mf(h:PA X es t):PE X (.List es pos) (Md t):=by intro c s m H Q I j;refine wpAny_List_spliced (aP (h pos c s m H _ I j) λk a ⟨l,d,g,r,z,q⟩=>⟨by rw[<- r.length];exact z,?_⟩);have i:d a.heap.objs.size=none:=g.hok.fresh<|a0l _;refine⟨.ref a.heap.objs.size,aK d a.heap.objs.size<|.lst l,g.laid (t':=a.toks) (λb u e=>a0e _ e) (a0l _) ?_,rfl,q _ i⟩;exact⟨z,k,0,r,a0o _ rfl⟩
noncomputable abbrev Sp:=List V->Hp->VK->XK->Prop
noncomputable abbrev j8:=List a6h->Hp->a0i->XK->Value->a0i->Prop
structure Env0(P:a0R)(w:a1f)(K:a0c)(mg:Str->Option Value)(base:a1C)(A:a1b)(outer:List a6h)(s:a0i)(H:Hp):Prop where
 frames:A.frames=a7 outer
 mod:Mod K mg base
 bs:∀b o,base.get? b=a7 o->s.heap.get? b=a7 o/\H b=b0
 bsz:base.objs.size<=s.heap.objs.size
 funs:s.heap.FunFrames base outer
 frf:∀b∈iI outer,H b=b0
 hok:HOk P w H s.heap
 bare:a6X s.gens
inductive CE (outer:List a6h)(P:a0R)(w:a1f)(H:Hp)(s:a0i)(Q:VK)(u:Value)(s':a0i):Prop
 |mk (v:V)(H':Hp)(o:s'.os=s.os)(b:a6X s'.gens)(n:Un (iI outer) [] H H' s.heap s'.heap)(k:HOk P w H' s'.heap)(r:RelV v u)(q:Q v H'):CE outer P w H s Q u s'
noncomputable def CR(CX:j8)(outer:List a6h)(P:a0R)(w:a1f)(H:Hp)(s:a0i)(Q:VK)(E:XK)(r:a6n)(a:a0i):Prop:=
 match r with
 |.ok (.ret u)=>CE outer P w H s Q u a|.ok _=>False|.error e=>CX outer H s E e a
structure FnOk(P:a0R)(w:a1f)(K:a0c)(mg:Str->Option Value)(base:a1C)(CX:j8)(k:Nat)(f:Addr)(fd:a2L)(ps:List Str)(sp:Sp):Prop where
 len:∀vs H Q E,sp vs H Q E->vs.length=ps.length
 run:∀(A:a1b)(outer:List a6h)(s:a0i)(H:Hp)(args:Args)(us:gq)(vs:gw)(Q:VK)(E:XK),Room k A->Env0 P w K mg base A outer s H->a7L s fd args (ps.zip us)->Vals vs us->sp vs H Q E->
  a3q (a0L P w) A (.call (.ref f) args) (CR CX outer P w H s Q E) s
theorem Env0.make{K:a0c}(e:Env0 P w K a base A outer s H)C(us:gq)b:
  Env0 P w K a base (A.under<|.builtin "type.__call__" ⟨.ref C::us,b⟩) outer s H:=⟨by first|exact e.frames|(simpa[a8l,Code.envs,a8w,pushEnvs]using e.frames),e.mod,e.bs,e.bsz,e.funs,e.frf,e.hok,e.bare⟩
theorem Inv.env0{σ:St}(I:Inv X b2w σ H s):Env0 X.prog X.w X.K X.mg X.base X.A X.stack s H:=
 ⟨I.ok.frames,I.ok.mod,I.bs,a1l I.ok.bsz I.sz,I.stack,I.stkFree,I.hok,I.bare⟩
theorem Inv.after{σ:St}(I:Inv X b2w σ H s)(h:CE X.stack X.prog X.w H s Q u s'):EP X b2w σ Q u s':=by obtain⟨v,i,k,a,un,c,r,q⟩:=h;obtain⟨j,g,d,t,e⟩:=s';obtain rfl:e=s.os:=k;exact⟨v,i,I.call (h':=j) (g':=g) (d':=d) (t':=t) (ch:=[]) un c a λb z=>absurd z<|by simp,r,q⟩
noncomputable def yN(sp:Sp)(a:gw)(E:XK)(t:TA):TE:=λσ H Q=>t σ H λvs b=>sp (vs++a) b Q E
noncomputable def yO(C:Addr)(m:Str)(sp:Sp)(b:gw)(E:XK)(g:TE)(t:TA):TE:=λσ H Q=>g σ H λx c=>∃a e fs,x=.ref a/\c a=a7 (.ins C e fs)/\fs.lookup m=b0 /\
 t σ c λh d=>sp (x::(h++b)) d Q E
noncomputable def CT(C:Addr)(sp:Sp)(c:gw)(E:XK)(t:TA):TE:=λσ H Q=>t σ H λvs b=>∀x a,b x=b0->b a=b0->a≠x->
 sp (.ref x::(vs++c)) (aK (aK b a<|.own x) x<|.ins C a []) (λv d=>v=.non/\Q (.ref x) d) E
noncomputable def Binds(K:a0c)(a:a2L)(ps:List Str)(ds:gq):Prop:=
 ∀(s:a0i)(us:gq),K.In s.heap->(us++ds).length=ps.length->a7L s a ⟨us,[]⟩ (ps.zip<|us++ds)
theorem Binds.all{K:a0c}(h:∀us:gq,us.length=ps.length->a8D a ⟨us,[]⟩=pure (ps.zip us)):Binds K a ps []:=λs us _ b=>by rw[a1O]at b ⊢;exact .of_eq<|h us b
noncomputable def lU(CX:j8)(X:Cx)(E:XK):Prop:=∀(b2w:jw)(σ:St)(H:Hp)(s:a0i)(e:Value)(a:a0i),Inv X b2w σ H s->CX X.stack H s E e a->X.xe e a
section
variable{X:Cx}{CX:j8}{k:Nat}{f C:Addr}{fd:a2L}{ps:List Str}{sp:Sp}{dvs:gw}{ds:gq}{E:XK}{x m:Str}{p pos apos:a1V}{e o:Expr}{es:List Expr}{ta:TE}{t:TA}
theorem uG{σ:St}(F:FnOk X.prog X.w X.K X.mg X.base CX k f fd ps sp)(i:Room k X.A)(d:Binds X.K fd ps ds)(hd:Vals dvs ds)(j:lU CX X E)(I:Inv X b2w σ H s)(r:Vals vs us)(h:sp (vs++dvs) H Q E):a0A (a0L X.prog X.w) X.A (call (.ref f) us) (EP X b2w σ Q) X.xe s:=by
 have b:Vals (vs++dvs) (us++ds):=r.append hd;have g:(us++ds).length=ps.length:=by rw[<- b.length];exact F.len _ _ _ _ h
 refine wpAny_call<|a6l (F.run X.A X.stack s H ⟨us,[]⟩ (us++ds) (vs++dvs) Q E i I.env0 (d s us I.kIn g) b h) λr l a=>?_;cases r with
 |error e=>exact j b2w σ H s e l I a|ok c=>
  cases c with
  |ret u=>exact I.after a|next=>exact a2w a|brk=>exact a2w a|cont=>exact a2w a
theorem Mg(F:FnOk X.prog X.w X.K X.mg X.base CX k f fd ps sp)(v:Room k X.A)(l:Gl X x)(u:X.mg x=a7 (.ref f))(n:a2l X.K (.ref f)=b5)(i:Binds X.K fd ps ds)(hd:Vals dvs ds)(w:lU CX X E)
  (g:PA X (e::es) t)(b:(x==("__debug__":Str))=false:=by decide) (j:a0T (e::es) X.env=(b3,eval e X.env)::a0T es X.env:=by rfl)(c:(a2F pos<|a0T es X.env).any (·.1)=false:=by rfl) :
  PE X (.Call (.Name x p) (e::es) [] pos) (yN sp dvs E t):=by
 intro a s y H Q I h;refine a2n<|uB I l u ?_ b;refine a6o (h₀:=X.base) I.ok.mod.kin n (aP (g pos a s y H _ I h) λB A ⟨G,z,d,r,q⟩=>⟨d.kIn,?_⟩) j c;exact uG F v i hd w d r q
theorem Mh(F:FnOk X.prog X.w X.K X.mg X.base CX k f fd ps sp)(j:Room k X.A)(d:Gl X x)(i:X.mg x=a7 (.ref f))(g:a2l X.K (.ref f)=b5)(c:Binds X.K fd ps ds)(hd:Vals dvs ds)(l:lU CX X E)
  (a:(x==("__debug__":Str))=false:=by decide):PE X (.Call (.Name x p) [] [] pos) (yN sp dvs E uF):=by
 intro b s n H Q I h;refine a2n<|uB I d i ?_ a;exact a8t I.kIn g<|uG (us:=[]) F j c hd l I .nil h
theorem Mi(J:PE X o ta)(c:Cls X.K C)(n:Meth X.K C m f)(F:FnOk X.prog X.w X.K X.mg X.base CX k f fd ps sp)(K:Room k X.A)(G:Binds X.K fd ps ds)(hd:Vals dvs ds)(M:lU CX X E)(B:PA X (e::es) t)(g:a0T (e::es) X.env=(b3,eval e X.env)::a0T es X.env:=by rfl)(d:(a2F pos<|a0T es X.env).any (·.1)=false:=by rfl)(L:eval (.Call (.Attribute o m apos) (e::es) [] pos) X.env=(do
   let v <- eval o X.env
   a8r apos.atName
   let (f,first) <- holding [v] (a7V v m pl)
   b2r pos f first (a2F pos<|a0T (e::es) X.env) (a4m pos<|a3g [] X.env)):=by rfl):
  PE X (.Call (.Attribute o m apos) (e::es) [] pos) (yO C m sp dvs E ta t):=by
 intro b s w H Q I h
 refine a8g (pl:=pl) (aP (J b s w H _ I h) fun u R ⟨x,y,i,O,a,Z,fs,A,z,l,q⟩=>?_) L
 subst A
 obtain rfl:u=a0n a:=O
 refine CO i z c n l ?_
 refine a6o (first:=[.ref a]) (h₀:=X.base) I.ok.mod.kin n.kp (aP (B pos b R w y _ i q) fun T s2 ⟨U,Y,j,r,N⟩=>⟨j.kIn,?_⟩) g d
 exact uG (us:=.ref a::T) (vs:=.ref a::U) F K G hd M j (.cons rfl r) N
theorem Mj(v:PE X o ta)(c:Cls X.K C)(g:Meth X.K C m f)(F:FnOk X.prog X.w X.K X.mg X.base CX k f fd ps sp)(w:Room k X.A)(r:Binds X.K fd ps ds)(hd:Vals dvs ds)(z:lU CX X E)(y:eval (.Call (.Attribute o m apos) [] [] pos) X.env=(do
   let i <- eval o X.env
   a8r apos.atName
   let (f,first) <- holding [i] (a7V i m pl)
   b2r pos f first (a2F pos<|a0T [] X.env) (a4m pos<|a3g [] X.env)):=by rfl):
  PE X (.Call (.Attribute o m apos) [] [] pos) (yO C m sp dvs E ta uF):=by
 intro d s B H Q I h
 refine a8g (pl:=pl) (aP (v d s B H _ I h) fun u K ⟨x,G,b,A,a,J,fs,n,j,l,q⟩=>?_) y
 subst n
 obtain rfl:u=a0n a:=A
 refine CO b j c g l ?_
 exact a8t (first:=[.ref a]) b.kIn g.kp<|uG (us:=[.ref a]) (vs:=[.ref a]) F w r hd z b (.cons rfl .nil) q
structure Mk(K:a0c)(C f:Addr):Prop where
 makes:a7c K C=b5
 init:a1Y K (.ref C) "__init__"=a7 (a7<|.ref f)
 fn:a6C K (.ref f)=b5
 kp:a2l K (.ref C)=b5
theorem Ml{σ:St}(M:Mk X.K C f)(F:FnOk X.prog X.w X.K X.mg X.base CX k f fd ps sp)(z:Room (k+1) X.A)(w:Binds X.K fd ps ds)(hd:Vals dvs ds)(A:lU CX X E)(I:Inv X b2w σ H s)(r:Vals vs us)(h:∀x c,H x=b0->H c=b0->c≠x->sp (.ref x::(vs++dvs)) (aK (aK H c<|.own x) x<|.ins C c []) (λv j=>v=.non/\Q (.ref x) j) E):
  a0A (a0L X.prog X.w) X.A (call (.ref C) us) (EP X b2w σ Q) X.xe s:=by
 have d:=h (s.heap.objs.size+1) s.heap.objs.size (I.hok.fresh<|a3w _) (I.hok.fresh<|a0l _)<|a0y<|a1A _;have b:=Inv.made (C:=C) I;have g:Vals (V.ref (s.heap.objs.size+1)::(vs++dvs)) (a0n (s.heap.objs.size+1)::(us++ds)):=.cons rfl<|r.append hd;have y:(a0n (s.heap.objs.size+1)::us++ds).length=ps.length:=by have e:=g.length;rw[F.len _ _ _ _ d]at e;exact e.symm
 refine wpAny_call<|LY (f:=f) I.kIn M.makes M.init (beq_iff_eq.mp M.fn)<|a6l (F.run _ X.stack _ _ ⟨a0n (s.heap.objs.size+1)::us,[]⟩ (a0n (s.heap.objs.size+1)::(us++ds)) _ _ E (z.make C us [])
  (b.env0.make C us []) (w _ (a0n (s.heap.objs.size+1)::us) b.kIn y) g d) λr J a=>?_
 cases r with
 |error e=>exact A b2w σ _ _ e J b a|ok q=>
  cases q with
  |ret u=>obtain⟨v,i,l,G,n,B⟩:=b.after a;subst n;exact⟨G,⟨V.ref<|s.heap.objs.size+1,i,l,rfl,B⟩⟩|next=>exact a2w a|brk=>exact a2w a|cont=>exact a2w a
theorem Mm(M:Mk X.K C f)(F:FnOk X.prog X.w X.K X.mg X.base CX k f fd ps sp)(u:Room (k+1) X.A)(l:Gl X x)(n:X.mg x=a7 (.ref C))(i:Binds X.K fd ps ds)(hd:Vals dvs ds)(v:lU CX X E)
  (g:PA X (e::es) t)(b:(x==("__debug__":Str))=false:=by decide) (j:a0T (e::es) X.env=(b3,eval e X.env)::a0T es X.env:=by rfl)(c:(a2F pos<|a0T es X.env).any (·.1)=false:=by rfl) :
  PE X (.Call (.Name x p) (e::es) [] pos) (CT C sp dvs E t):=by
 intro a s w H Q I h;refine a2n<|uB I l n ?_ b;refine a6o (h₀:=X.base) I.ok.mod.kin M.kp (aP (g pos a s w H _ I h) λA z ⟨B,y,d,r,q⟩=>⟨d.kIn,?_⟩) j c;exact Ml M F u i hd v d r q
end
noncomputable def PK(X:Cx)(a:List a3D)(t:TA):Prop:=
 ∀(pos:a1V)(b2w:jw)(s:a0i)(σ:St)(H:Hp)(Q:gw->Hp->Prop),Inv X b2w σ H s->t σ H Q->a0A (a0L X.prog X.w) X.A (evalAll<|(a4m pos<|a3g a X.env).map (·.2)) (AP X b2w σ Q) X.xe s
section
variable{X:Cx}{CX:j8}{k:Nat}{f C:Addr}{fd:a2L}{ps ks:List Str}{sp:Sp}{E:XK}{x m:Str}{p pos apos kpos:a1V}{e o:Expr}{es:List Expr}{kws:List a3D}{te ta:TE}{t tk:TA}{nm:Option Str}
theorem Mn:PK X [] uF:=λ_ _ _ _ H Q I h=>wpAny_evalAll_nil ⟨[],H,I,.nil,h⟩
theorem Mo(j:PE X e te)(l:PK X kws t):PK X (⟨nm,e,kpos⟩::kws) (CP te t):=by intro pos a s b H Q I h;show a0A _ _ (evalAll<|(do let v <- eval e X.env;a8r pos;pure v)::(a4m pos<|a3g kws X.env).map (·.2)) _ _ s;refine wpAny_evalAll_cons<|a0b<|aP (j a s b H _ I h) λu y ⟨x,c,g,r,n⟩=>a0b<|a5K<|a0h ?_;exact aP (l pos a y b c _ g n) λB A ⟨z,d,i,w,q⟩=>⟨x::z,d,i,.cons r w,q⟩
structure KBinds(K:a0c)(fd:a2L)(ps ks:List Str)(g:gq->gq->gq)(gV:gw->gw->gw):Prop where
 to:∀(s:a0i)(us ws:gq),K.In s.heap->(g us ws).length=ps.length->a7L s fd ⟨us,ks.zip ws⟩ (ps.zip<|g us ws)
 rel:∀{vs:gw}{us:gq}{zs:gw}{ws:gq},Vals vs us->Vals zs ws->Vals (gV vs zs) (g us ws)
variable{g:gq->gq->gq}{gV:gw->gw->gw}
end
structure FnScope(N P:List Str)(sc:a3k):Prop where
 kind:sc.kind=.function
 co:sc.isCoroutine=b3
 gen:sc.isGenerator=b3
 nd:N.Nodup
 pre:N.take P.length=P
 par:∀x∈P,sc.names.lookup x=a7 .local\/sc.names.lookup x=a7 .cell
 nofree:∀y∈sc.names,y.2≠.free
theorem CU{kindOf:Str->Option a3r}:∀{a}{m},(∀v,(x,v)∉a)->a9q kindOf a m x=m x
 |[],_,_=>rfl|(n,v)::r,m,h=>by
  unfold a9q;rw[CU λw hw=>h w<|a0F _ hw];split
  .have:x≠n:=by rintro rfl;exact h v a0P
   simp[this]
  .rfl
theorem CV{kindOf:Str->Option a3r}:∀{a}{m},(∀v,(x,v)∉a)->a9r kindOf a m x=m x
 |[],_,_=>rfl|(n,v)::r,m,h=>by
  unfold a9r;rw[CV λw hw=>h w<|a0F _ hw];split
  .rfl
  .have:x≠n:=by rintro rfl;exact h v a0P
   simp[this]
theorem CW{kindOf:Str->Option a3r}:∀{P:List Str}{vs:gq}{i:Nat}{m},P.Nodup->P[i]?=a7 x->vs[i]?=a7 v->kindOf x=a7 .local->
  a9q kindOf (P.zip vs) m x=a7 v
 |[],_,_,_,_,h,_,_=>by simp at h
 |_::_,[],_,_,_,_,h,_=>by simp at h
 |p::P,w::vs,0,m,nd,h1,h2,hk=>by simp at h1 h2;subst h1;subst h2;show a9q kindOf ((p,w)::P.zip vs) m p=_;unfold a9q;rw[CU λv a=>(a2I.mp nd).1 (a7w a).1,if_pos hk];simp
 |p::P,w::vs,i+1,m,nd,h1,h2,hk=>by show a9q kindOf ((p,w)::P.zip vs) m x=_;unfold a9q;exact CW (i:=i) (a2I.mp nd).2 (by simpa using h1) (by simpa using h2) hk
theorem CY{kindOf:Str->Option a3r}:∀{P:List Str}{vs:gq}{i:Nat}{m},P.Nodup->P[i]?=a7 x->vs[i]?=a7 v->kindOf x≠a7 .local->
  a9r kindOf (P.zip vs) m x=a7 v
 |[],_,_,_,_,h,_,_=>by simp at h
 |_::_,[],_,_,_,_,h,_=>by simp at h
 |p::P,w::vs,0,m,nd,h1,h2,hk=>by simp at h1 h2;subst h1;subst h2;show a9r kindOf ((p,w)::P.zip vs) m p=_;unfold a9r;rw[CV λv a=>(a2I.mp nd).1 (a7w a).1,if_neg hk];simp
 |p::P,w::vs,i+1,m,nd,h1,h2,hk=>by show a9r kindOf ((p,w)::P.zip vs) m x=_;unfold a9r;exact CY (i:=i) (a2I.mp nd).2 (by simpa using h1) (by simpa using h2) hk
noncomputable def start(N:List Str)(vs:gw):St:=vs.map a7++a3b (N.length-vs.length) b0
noncomputable def kW(CX:j8)(P:a0R)(w:a1f)(K:a0c)(g:Str->Option Value)(base:a1C)(N:List Str)(a:Str)(scope:a3k)(f:Addr)(c:Value)(A:a1b)(outer:List a6h)(s:a0i)(H:Hp)(E:XK):Cx where
 prog:=P
 w:=w
 K:=K
 mg:=g
 base:=base
 A:=A.deeper<|envOfC a scope s.heap.objs.size f c
 N:=N
 s₀:=s
 H₀:=H
 env:=envOfC a scope s.heap.objs.size f c
 outer:=outer
 stack:=envOfC a scope s.heap.objs.size f c::outer
 ex:=[]
 calm:=b5
 fn:=λ_=>b5
 pn:=[]
 xe:=λe h=>a0A (a0L P w) (A.deeper<|envOfC a scope s.heap.objs.size f c) (leaving (envOfC a scope s.heap.objs.size f c) e) (λ_ b=>CX outer H s E e b) (λd b=>CX outer H s E d b) h
theorem CZ{sc:a3k}(h:sc.names.lookup x=a7 .cell):∃c,(b1p n sc.names []).lookup x=a7 c:=by have q:=a7X sc.names n []<|.inl h;exact a7Q.mp q
theorem Mp{K:a0c}(S:FnScope N ps scope)(hd:A.handled=b0)(j:Env0 P w K J base A outer s H)(X:vs.length=ps.length)(r:Vals vs us)(x:InCallC s s.heap.objs.size (a9q (envOfC d scope s.heap.objs.size f B).kindOf (ps.zip us) λ_=>b0) (b1p (s.heap.objs.size+1) scope.names []) (a9r (envOfC d scope s.heap.objs.size f B).kindOf (ps.zip us) λ_=>b0) O):
  Inv (kW CX P w K J base N d scope f B A outer s H E) [] (start N vs) H O:=by
 have R:ps.length<=N.length:=by have:=congrArg a1n S.pre;rw[a1w]at this;lia
 obtain⟨G,Y,rfl,L⟩:=x.done;have m:∀b:Addr,b∉(kW CX P w K J base N d scope f B A outer s H E).ex:=λb z=>absurd (show b∈([]:List Addr)from z) (by simp);refine⟨⟨j.mod,S.kind,rfl,rfl,a0l _,λy z c G g=>?_,λy l=>?_,λy c _ h=>?_,λ_=>hd,Around.frames_deeper j.frames,.inr ⟨rfl,rfl⟩,λb z=>absurd z<|m b,j.bs,j.bsz,λb _ _=>m b,λb z=>absurd z<|m b,j.funs,j.frf⟩,
  rfl,j.bare,Un.kept L,⟨_,x.toInCall.ns,λi y v G g U=>?_⟩,λy c h=>⟨_,x.cell y c h⟩,j.hok.fresh<|a0l _,λy c h=>?_,λp n=>absurd (show p∈([]:jw)from n)<|by simp,j.hok.kept L,?_⟩
 .exact name_of_addr x.apart (a1X G)<|a1X g
 .have l:scope.names.lookup y=a7 .cell\/scope.names.lookup y=a7 .free:=l;rcases l with l|l
  .exact CZ l
  .exact absurd rfl<|S.nofree _<|a1X l
 .exact a4U<|x.above y c<|a1X h
 .have I:i<vs.length:=by
   unfold start at g;by_cases I:i<vs.length
   .exact I
   .rw[a1I<|by simpa using I]at g;rw[a3s]at g;split at g<;>cases g
  have Q:vs[i]?=a7 v:=by
   unfold start at g;rw[a0W<|by simpa using I,a0v]at g;cases e:vs[i]? with
   |none=>rw[e]at g;cases g|some a=>rw[e]at g;cases g;rfl
  obtain⟨u,M,T⟩:=r.get Q;have n:ps[i]?=a7 y:=by rw[<- S.pre,a8k<|by lia];exact G
  have o:ps.Nodup:=by rw[<- S.pre];exact S.nd.sublist<|List.take_sublist _ _
  refine⟨u,T,?_⟩;rcases S.par y (a0S n)with k|k
  .exact .inl ⟨k,CW o n M k⟩
  .obtain⟨c,e⟩:=CZ (n:=s.heap.objs.size+1) k;refine .inr ⟨.inl k,c,e,?_⟩;have q:=x.cell y c e;rw[CY o n M<|by show scope.names.lookup y≠_;rw[k];decide]at q;exact q
 .exact j.hok.fresh<|a4U<|x.above y c<|a1X h
 .unfold start;show _=N.length;rw[a0q,a0d,a3e];lia
theorem Mq{K:a0c}{kV:Value}(lk:K.lookup f=a7 ⟨oc,od,.func<|a2m name a d body scope Y kV m Z an c ct,O⟩)(G:a4N K c a=b5)(S:FnScope N ps scope)(len:∀vs H Q E,sp vs H Q E->vs.length=ps.length)(i:∀A outer s H(vs:gw)Q E,Room k (A.deeper<|envOfC a scope s.heap.objs.size f c)->sp vs H Q E->
   ∃t,PSs (kW CX P w K B base N a scope f c A outer s H E) body t/\t {nx:=λ_ h=>Q .non h,rt:=Q} (start N vs) H):
  FnOk P w K B base CX (k+1) f (a2m name a d body scope Y kV m Z an c ct) ps sp:=by
 refine⟨len,λA outer s H X us vs Q E L p hb r z=>?_⟩;have hl:=len _ _ _ _ z;have U:K.In s.heap:=p.mod.kin.keeps λb o e=>(p.bs b o e).1;have M:s.heap.NoLimit:=p.mod.nolimit.keeps λb o e=>(p.bs b o e).1;have j:∀y∈ps.zip us,scope.names.lookup y.1=a7 .local\/(scope.names.lookup y.1=a7 .cell/\((b1p (s.heap.objs.size+1) scope.names []).lookup y.1).isSome=b5):=λ⟨n,v⟩ hy=>by
  rcases S.par n (a7w hy).1 with q|q
  .exact .inl q
  .exact .inr ⟨q,a7X _ _ _<|.inl q⟩
 refine codeAny_call_function L.depth (U _ _ lk) rfl S.co S.gen rfl (PySem.W.codeRec_of U G)<|hb _ _ _ _ ?_;refine wpAny_newFunctionEnv_cells S.kind j λenv he s1 x=>?_;subst he;refine⟨M.keeps x.toInCall.keep,codeAny_func ?_⟩;obtain⟨t,ht,hq⟩:=i A outer s H vs Q E (L.deeper _) z;have I:Inv (kW CX P w K B base N a scope f c A outer s H E) [] (start N vs) H s1:=Mp S L.hd p hl r x;refine a1R (ht [] s1 (start N vs) H _ I hq) (λfl T l=>?_) λe T l=>l;have fin:∀{g:St}{h:Hp}{v:V}{u:Value},Inv (kW CX P w K B base N a scope f c A outer s H E) [] g h T->RelV v u->Q v h->CE outer P w H s Q u T:=
  λ{g h v u} J R q=>⟨v,h,J.os,J.bare,J.base,J.hok,R,q⟩
 cases fl with
 |ret u=>obtain⟨v,g,h,J,R,q⟩:=l;exact fin J R q|next=>obtain⟨g,h,J,q⟩:=l;exact fin (v:=V.non) (u:=a1z) J rfl q|brk=>obtain⟨_,_,_,q⟩:=l;exact a2w q|cont=>obtain⟨_,_,_,q⟩:=l;exact a2w q
noncomputable def uH(r:gw->Hp->VK->Prop)(t:TA):TE:=λσ H Q=>t σ H λvs a=>r vs a Q
theorem Mr{id:String}(hc:CallR X (.builtin id) r)(l:Gl X x)(m:X.mg x=b0)(o:a2q x=a7 (.builtin id))(j:PA X (e::es) t)(n:x ≠ "__name__":=by decide)(b:(x==("__debug__":Str))=false:=by decide)(k:a0T (e::es) X.env=(b3,eval e X.env)::a0T es X.env:=by rfl)(c:(a2F pos<|a0T es X.env).any (·.1)=false:=by rfl):PE X (.Call (.Name x p) (e::es) [] pos) (uH r t):=by
 intro a s d H Q I h;refine a2n<|gW I l m o ?_ n b;exact a6a (aP (j pos a s d H _ I h) λw v ⟨y,g,i,u,q⟩=>hc a v d g y w Q i u q) k c
theorem Ms(hc:CallR X (.type T) r)(l:Gl X x)(m:X.mg x=b0)(o:a2q x=a7 (.type T))(j:PA X (e::es) t)(n:x ≠ "__name__":=by decide)(b:(x==("__debug__":Str))=false:=by decide)(k:a0T (e::es) X.env=(b3,eval e X.env)::a0T es X.env:=by rfl)(c:(a2F pos<|a0T es X.env).any (·.1)=false:=by rfl):PE X (.Call (.Name x p) (e::es) [] pos) (uH r t):=by
 intro a s d H Q I h;refine a2n<|gW I l m o ?_ n b;exact a1M (aP (j pos a s d H _ I h) λw v ⟨y,g,i,u,q⟩=>hc a v d g y w Q i u q) k c
section
variable{κ:Type} [DecidableEq κ]
theorem RelO.isSome_eq(r:RelO o u):o.isSome=u.isSome:=by
 cases o with
 |none=>cases u with
  |none=>rfl|some _=>exact(show False from r).elim
 |some _=>cases u with
  |none=>exact(show False from r).elim|some _=>rfl
theorem RelO.getD(r:RelO o u)(a:RelV d d'):RelV (o.getD d) (u.getD d'):=by
 cases o with
 |none=>cases u with
  |none=>exact a|some _=>exact(show False from r).elim
 |some _=>cases u with
  |none=>exact(show False from r).elim|some _=>exact r
theorem KV.length{kvs:List (κ×V)}(r:KV kvs vs):kvs.length=vs.length:=a7P r
end
theorem Inv.big{σ:St}(I:Inv X b2w σ H s):a1W<s.heap.objs.size:=by have h:a1L<s.heap.objs.size:=(I.mod.glob.keeps I.bk).lt;exact a7f (by decide) h
theorem yP{σ:St}(I:Inv X b2w σ H s)(g:q8 (H a))(e:a2X a s.heap h')(d:∃q,h'.get? a=a7 q)(new:ObjOk X.prog X.w (aK H a ob) h' a ob):
  Inv X b2w σ (aK H a ob) {s with heap:=h',toks:=t'}:=
 I.write (x:=a) (e:=a) g (.inl rfl) (λb q c z=>(e.2 b c).trans z) d new
noncomputable def C0(i:Expr):Prop:=∀b a,a8d i b3 b a=operate [b,a] (a8s b a)
theorem Mt{id:String}(m:a6k (.type T) "__getitem__"=pure (a7<|.builtin id))(n:C0 a)(h:a0A (a0L prog w) A (eval b env) (λo e=>a0A (a0L prog w) A (eval a env) (λi c=>c.TypeIs o T/\a0A (a0L prog w) A (a8s o i) Q E c) E e) E s):
  a0A (a0L prog w) A (eval (.Subscript b a pos) env) Q E s:=by
 refine a8E<|a1R h (λo e j=>a1R j (λi c d=>?_) λ_ _ x=>x) λ_ _ x=>x;obtain⟨l,d⟩:=d;unfold a7i;refine a0b ?_;rw[getitemInPython_of_ne l.not_modules];refine a0b<|a4o l m ?_;have fin:a0A (a0L prog w) A (a8d a b3 o i) (λr g=>a0A (a0L prog w) A (letTemporaryGo b o r >>= λ_=>pure r) Q E g) E c:=by rw[n o i];exact wpAny_operating<|a1R d (λr g k=>a0b<|wpAny_letTemporaryGo<|a0h k) λ_ _ x=>x
 first
  |exact a0h (a0b fin)|exact a0b (a0h<|a0b fin)|exact a0b fin
noncomputable def C1:List (TE×TE)->St->Hp->(List (V×V)->Hp->Prop)->Prop
 |[],_,H,Q=>Q [] H|(tk,tv)::r,σ,H,Q=>tk σ H λx a=>tv σ a λy b=>C1 r σ b λd c=>Q ((x,y)::d) c
noncomputable abbrev VV:List (V×V)->List (Value×Value)->Prop:=a5d λp q=>RelV p.1 q.1/\RelV p.2 q.2
noncomputable def Mu(X:Cx)(pos:a1V)(keys:List (Option Expr))(a:List Expr)(b:List (TE×TE)):Prop:=
 ∀(b2w:jw)(s:a0i)(σ:St)(H:Hp)(Q:List (V×V)->Hp->Prop),Inv X b2w σ H s->C1 b σ H Q->
  a0A (a0L X.prog X.w) X.A (evalPairs<|pairTrees keys a X.env pos) (λg e=>∃d c,Inv X b2w σ c e/\VV d g/\Q d c) X.xe s
structure M1(X:Cx)(o:Expr)(m:Str)(apos:a1V)(e:Expr)(cpos:a1V):Prop where
 base:a2Q o m X.env (eval o X.env)=eval o X.env
 few:((a2F cpos (a0T [e] X.env)).all (λx=>!x.1)&&(a4m cpos (a3g [] X.env)).all (λx=>x.1.isSome)
  && decide (([e]:List Expr).length+([]:List a3D).length+(if([]:List a3D).isEmpty then 0 else 1)<30))=b5
 line:(apos.endLine==cpos.line)=b5
 trees:a2F cpos (a0T [e] X.env)=[(b3,eval e X.env)]
structure M2(X:Cx)(o:Expr)(m:Str)(apos:a1V)(e f:Expr)(cpos:a1V):Prop where
 base:a2Q o m X.env (eval o X.env)=eval o X.env
 few:((a2F cpos (a0T [e,f] X.env)).all (λx=>!x.1)&&(a4m cpos (a3g [] X.env)).all (λx=>x.1.isSome)
  && decide (([e,f]:List Expr).length+([]:List a3D).length+(if([]:List a3D).isEmpty then 0 else 1)<30))=b5
 line:(apos.endLine==cpos.line)=b5
 trees:a2F cpos (a0T [e,f] X.env)=[(b3,eval e X.env),(b3,eval f X.env)]
noncomputable def IsD(H:Hp)(a:Addr):Prop:=(∃kvs,Rd H a (.dK kvs))\/∃kvs,Rd H a (.dT kvs)
end L2
namespace HT
open PySem PyProof.Rows
noncomputable def lexLt:List Int->List Int->Bool
 |[],[]=>b3|[],_::_=>b5|_::_,[]=>b3|x::xs,y::ys=>if x=y then lexLt xs ys else decide (x<y)
theorem lexLt_cons x y xs a:lexLt (x::xs) (y::a)=if x=y then lexLt xs a else decide (x<y):=rfl
theorem Mv:lexLt [] []=false:=rfl
theorem Mw y a:lexLt [] (y::a)=true:=rfl
theorem Mx x xs:lexLt (x::xs) []=false:=rfl
theorem My A s a t c u:∃e,a5F A s (.int a t) (.int c u) e/\(e=b5↔a=c):=
 ⟨(a==c),a8f a t c u,by simp⟩
theorem Mz A s a t c u prog w E Q(h:Q (.bool<|decide<|a<c) s):
  a0A (a0L prog w) A (a5H .Lt (.int a t)<|.int c u) Q E s:=
 (a7H h:a0A (a0L prog w) A (a1J .Lt (.int a t)<|.int c u) Q E s)
section
open PySem.SeqAt
open PySem.AutoSeq1 (wpAny_loadPart')
open PySem.MeetsSeq PySem.MeetsSeq2 PySem.MeetsSeq3
theorem MB l b items i n n2 X L sl O ns ms(Q:a3y items.toList ns)(T:a3y i.toList ms):
  Meets (Builtin.«tuple.__lt__» ⟨[.ref l,.ref b],[]⟩)
   (λ_ R s=>s.heap.get? l=a7 {cls:=.type "tuple",dict:=X,data:=.seq items n,slots:=sl}/\s.heap.get? b=a7 {cls:=.type "tuple",dict:=L,data:=.seq i n2,slots:=O} /\
    R (.ok<|.ret<|.bool<|lexLt ns ms) s):=
 .of_wp λz w A R s h=>by
  obtain⟨I,g,d,K,J⟩:=s;obtain⟨hl,Y,h⟩:=h;have f2:=AutoSeq1.sub_tuple_tuple;have z1:items.size=ns.length:=by rw[<- Q.length];simp
  have z2:i.size=ms.length:=by rw[<- T.length];simp
  wp_walk using b1B hl,b1B Y,b1k _ (λbV b N=>b.1=b0/\N=⟨I,g,d,K,J⟩/\∃(vs ws:gq)(m k:List Int),bV=vs.zip ws /\
   a3y vs m/\a3y ws k/\m.length+i.size=k.length+items.size/\R (.ok<|.ret<|.bool<|lexLt m k) ⟨I,g,d,K,J⟩) _
  case turn=>
   rintro⟨y,x⟩ bV b N ⟨B,rfl,vs,ws,m,k,p,E,o,j,r⟩;cases E with
   |nil=>rw[List.zip_nil_left]at p;cases p|cons a t G=>
    cases o with
    |nil=>rw[a6H]at p;cases p|cons c u H=>
     rw[a4g]at p;injection p with hyx hrest;injection hyx with hy hx;subst hy hx;rw[lexLt_cons]at r;simp only[a0Q]at j;obtain⟨e,Z,v⟩:=My A.in1 ⟨I,g,d,K,J⟩ a t c u;refine a0b<|Z z w _ _ ?_;cases e with
     |true=>rw[if_pos<|v.mp rfl]at r;wp_walk;exact⟨rfl,rfl,_,_,_,_,hrest,G,H,by lia,r⟩|false=>rw[if_neg λq=>absurd (v.mpr q) a0K]at r;have M:=Mz A.in1 ⟨I,g,d,K,J⟩ a t c u z w;wp_walk using M;exact⟨_,rfl,by simpa using r⟩
  case fin=>
   rintro⟨b1,b2⟩ N ⟨B,rfl,vs,ws,m,k,p,E,o,j,r⟩;simp only at B;subst B;have U:lexLt m k=decide (items.size<i.size):=by
    cases E with
    |nil=>
     cases o with
     |nil=>simp only[a5P]at j;rw[Mv];exact(decide_eq_false<|by lia).symm|cons c u hw=>simp only[a5P,a0Q]at j;rw[Mw];exact(decide_eq_true<|by lia).symm
    |cons a t U=>
     cases o with
     |nil=>simp only[a5P,a0Q]at j;rw[Mx];exact(decide_eq_false<|by lia).symm|cons c u hw=>rw[a4g]at p;cases p
   rw[U]at r;wp_walk;exact⟨_,rfl,by simpa[b1z]using r⟩
  case h=>exact⟨rfl,rfl,items.toList,i.toList,ns,ms,rfl,Q,T,by lia,h⟩
end
theorem lt_tupInts(v:a3M s.heap l items)(q:a3M s.heap b a)(r:a3y items.toList ns)(u:a3y a.toList ms)(y:A.units<a2e)(h:Q (.bool<|lexLt ns ms) s):a0A (a0L prog w) A (a1J .Lt (.ref l)<|.ref b) Q E s:=by
 obtain⟨⟨cls,p,m,B⟩,o,hc,n,hd⟩:=id v;obtain⟨⟨k,i,g,j⟩,e,c,z,d⟩:=id q;simp only at hc hd c d;subst hc hd c d;exact richCompare_meets_room (op:=.Lt) ⟨_,o,rfl⟩ ⟨_,e,rfl⟩ PySem.F.slot_tuple_lt PySem.F.entry_tuple_lt (PySem.F.args_tuple_lt_2 _ _) (MB l b items a n z p i B j ns ms r u)
  ⟨o,e,show a2b (lexLt ns ms)≠Value.notImplemented/\Q (.bool<|lexLt ns ms) s from⟨(λx=>nomatch x),h⟩⟩ y
noncomputable def sIx(n d:Nat):Option Int->Nat
 |none=>d|some v=>if v<0 then(v+(n:Int)).toNat else min v.toNat n
theorem sIx_none n d:sIx n d b0=d:=rfl
theorem sIx_nat(n d k:Nat):sIx n d (a7 (k:Int))=min k n:=by show(if(k:Int)<0 then((k:Int)+(n:Int)).toNat else min (k:Int).toNat n)=min k n;rw[if_neg<|by lia,a4u]
end HT
namespace L2
open PySem PySem.Spec PyProof.Rows
noncomputable abbrev TO:=St->Hp->(Option Int->Hp->Prop)->Prop
noncomputable def PO(X:Cx)(e:Option Expr)(t:TO):Prop:=
 ∀(b2w:jw)(s:a0i)(σ:St)(H:Hp)(Q:Option Int->Hp->Prop),Inv X b2w σ H s->t σ H Q->
  a0A (a0L X.prog X.w) X.A (evalPart e X.env) (λu b=>∃o a,Inv X b2w σ a b/\IsPart u o/\Q o a) X.xe s
noncomputable def MC:TO:=λ_ H Q=>Q b0 H
noncomputable def MH(t:TE):TO:=λσ H Q=>t σ H λx a=>∃i,x=.int i/\Q (a7 i) a
theorem uI:∀{us},Vals (ns.map V.int) us->a3y us ns:=by
 induction ns with
 |nil=>intro us r;rw[a3S]at r;cases r;exact .nil|cons n ns a=>
  intro us r;rw[a0r]at r;cases r with
  |cons b c=>obtain⟨t,e⟩:=b;subst e;exact .cons n t<|a c
theorem MJ:PO X b0 MC:=by intro a s b H Q I h;rw[evalPart_none];exact a0h ⟨b0,H,I,.none,h⟩
theorem MK(h:PE X e te):PO X (a7 e) (MH te):=by intro a s j H Q I hw;rw[evalPart_some];refine aP (h a s j H _ I hw) λu k ⟨x,b,c,g,d⟩=>?_;obtain⟨i,rfl,q⟩:=d;obtain⟨t,rfl⟩:=g;exact⟨a7 i,b,c,.int i t,q⟩
noncomputable def yQ(X:Cx)(r:V->Option Int->Option Int->Hp->VK->Prop):Prop:=
 ∀(b2w:jw)(s:a0i)(σ:St)(H:Hp)(x:V)(v b c:Value)(lo hi:Option Int)(a:Addr)(Q:VK),Inv X b2w σ H s->RelV x v->s.heap.IsSliceOf a b c .none->IsPart b lo->IsPart c hi->r x lo hi H Q->
  ∃T id,a6k (.type T) "__getitem__"=pure (a7<|.builtin id)/\s.TypeIs v T/\a0A (a0L X.prog X.w) X.A (a8s v<|.ref a) (EP X b2w σ Q) X.xe s
noncomputable def ML(r:V->Option Int->Option Int->Hp->VK->Prop)(te:TE)(tl th:TO):TE:=λσ H Q=>te σ H λx a=>tl σ a λl b=>th σ b λu c=>r x l u c Q
theorem MM{lo:Option Expr}(E:yQ X r)(z:PE X e te)(B:PO X lo tl)(J:PO X hi th):PE X (.Subscript e (.Slice lo hi b0 p2) pos) (ML r te tl th):=by intro a s d H Q I h;refine a8E<|aP (z a s d H _ I h) λv U ⟨x,k,n,R,M⟩=>?_;refine wpAny_Slice<|aP (B a U d k _ n M) λg Y ⟨l,m,o,K,N⟩=>aP (J a Y d m _ o N) λi c ⟨u,j,p,L,O⟩=>?_;rw[evalPart_none];refine a0h ?_;have w:Inv X a d j {c with heap:=c.heap.push {cls:=.type "slice",data:=.fields #[g,i,.none]}}:=p.kept (t':=c.toks) λb Z q=>a0e _ q;obtain⟨T,id,y,G,A⟩:=E a {c with heap:=c.heap.push {cls:=.type "slice",data:=.fields #[g,i,.none]}} d j x v g i l u c.heap.objs.size Q w R (a7y ..) K L O;show a0A (a0L X.prog X.w) X.A (a7i e (.Slice lo hi b0 p2) v<|.ref c.heap.objs.size) (EP X a d Q) X.xe {c with heap:=c.heap.push {cls:=.type "slice",data:=.fields #[g,i,.none]}};exact b2i (ops:=[.ref c.heap.objs.size,v]) G y A<|by with_unfolding_all rfl
noncomputable def lV(xs:gw)(lo hi:Option Int):gw:=(xs.drop<|HT.sIx xs.length 0 lo).take<|HT.sIx xs.length xs.length hi-HT.sIx xs.length 0 lo
theorem MN xs lo hi:(lV xs lo hi).length<=xs.length:=by unfold lV;rw[a1w,a5A];lia
noncomputable def lW(n:Nat)(i:Int):Option Nat:=if 0<=i then(if i<n then a7 i.toNat else b0)else if -(n:Int)<=i then a7 (i+n).toNat else b0
noncomputable def atI{a:Type}(xs:List a)(i:Int):Option a:=(lW xs.length i).bind λj=>xs[j]?
theorem MP(h:lW n i=a7 j):seqIndex? i n=a7 j/\j<n/\-(n:Int)<=i/\i<n:=by
 unfold lW at h;by_cases b:0<=i
 .rw[if_pos b]at h;by_cases a:i<n
  .rw[if_pos a]at h;have e:i.toNat=j:=a0B h;exact⟨by rw[seqIndex_of b a,e],by lia,by lia,a⟩
  .rw[if_neg a]at h;cases h
 .rw[if_neg b]at h;by_cases a:-(n:Int)<=i
  .rw[if_pos a]at h;have e:(i+n).toNat=j:=a0B h;exact⟨by rw[seqIndex_neg (by lia) a,e],by lia,a,by lia⟩
  .rw[if_neg a]at h;cases h
theorem yR{xs:List a}{v:a}(h:atI xs i=a7 v):∃j,seqIndex? i xs.length=a7 j/\xs[j]?=a7 v/\j<xs.length/\-(xs.length:Int)<=i/\i<xs.length:=by
 unfold atI at h;cases e:lW xs.length i with
 |none=>rw[e]at h;cases h|some j=>rw[e]at h;obtain⟨b,c,d,g⟩:=MP e;exact⟨j,b,h,c,d,g⟩
noncomputable def yS(b:Expr):Prop:=∀o i,a8d b b3 o i=operate [o,i] (a8s o i)
noncomputable def IxR(X:Cx)(r:R2):Prop:=
 ∀(b a:Expr)(b2w:jw)(s:a0i)(σ:St)(H:Hp)(x y:V)(v u:Value)(Q:VK),Inv X b2w σ H s->RelV x v->RelV y u->r x y H Q->
  a8d a b3 v u=operate [v,u] (a8s v u)->a0A (a0L X.prog X.w) X.A (a7i b a v u) (EP X b2w σ Q) X.xe s
noncomputable def C2(X:Cx)(id:String)(r:V->gw->Hp->VK->Prop):Prop:=
 ∀(b2w:jw)(s:a0i)(σ:St)(H:Hp)(x:V)(xs:gw)(v:Value)(us:gq)(Q:VK),Inv X b2w σ H s->RelV x v->Vals xs us->r x xs H Q->
  a0A (a0L X.prog X.w) X.A (call (.builtin id)<|v::us) (EP X b2w σ Q) X.xe s
theorem IxR.or(h:IxR X r)(h':IxR X i):IxR X (λx y H Q=>r x y H Q\/i x y H Q):=by
 intro d c e s l H x y v u Q I j k q g;rcases q with q|q
 .exact h d c e s l H x y v u Q I j k q g
 .exact h' d c e s l H x y v u Q I j k q g
theorem MQ(j:IxR X r)(g:PE X a ta)(i:PE X b tb)(k:yS b):PE X (.Subscript a b pos) (rD r ta tb):=by intro c s o H Q I h;exact a8E<|yE g i I h λv u n x y d e l m q=>j a b c n o d x y v u Q e l m q<|k _ _
noncomputable def C3(K:a0c):R2:=λx y H Q=>∃p xs i v,x=.ref p/\y=.int i/\SqL K H p xs/\atI xs i=a7 v/\Q v H
noncomputable def C4(K:a0c):R2:=λx y H Q=>∃p xs i v,x=.ref p/\y=.int i/\SqT K H p xs/\atI xs i=a7 v/\Q v H
noncomputable def C5:R2:=λx y H Q=>∃z i c,x=.str z/\y=.int i/\z.length<=a0s/\atI z.cps.toList i=a7 c/\Q (.str ⟨#[c]⟩) H
theorem ix_list:IxR X (C3 X.K):=by
 intro n m c s E H x y v u Q I O R h B;obtain⟨p,xs,i,z,rfl,rfl,N,L,q⟩:=h;cases O;obtain⟨t,rfl⟩:=R;obtain⟨g,r,k,Z⟩:=I.list N;obtain⟨j,d,G,U,J,K⟩:=yR L;obtain⟨w,o,l⟩:=r.get G;have M:=r.length;have Y:=nG;have fin:EP X c E Q w s:=⟨z,H,I,l,q⟩;by_cases A:0<=i
 .have e:i.toNat=j:=by rw[seqIndex_of A K]at d;exact a0B d
  exact item_listR k.isList A (by lia) (by rw[e];simpa using o) fin B
 .have e:(i+(g.toArray.size:Int)).toNat=j:=by rw[seqIndex_neg (by lia) J]at d;rw[a0J,<- M];exact a0B d
  exact a9B (x:=w) k.isList.typeIs a7B.lookup
   (wpAny_getItem_list_neg (Q:=λr T=>r=w/\EP X c E Q r T) k.isList (by lia) (by rw[a0J]<;>lia) (by lia) (by rw[e];simpa using o) ⟨rfl,fin⟩) B
theorem ix_tup:IxR X (C4 X.K):=by
 intro g e c s l H x y v u Q I K L h G;obtain⟨p,Y,i,z,rfl,rfl,E,A,q⟩:=h;cases K;obtain⟨t,rfl⟩:=L;obtain⟨J,r,k,U⟩:=I.tuple E;obtain⟨j,n,o,N,O,R⟩:=yR A;obtain⟨w,m,d⟩:=r.get o;have B:=r.length;have T:=nG;have fin:EP X c l Q w s:=⟨z,H,I,d,q⟩;exact a9B (x:=w) k.typeIs slot_tuple_getitem.lookup
  (getItem_tuple (j:=j) (Q:=λr M=>r=w/\EP X c l Q r M) k (by lia) (by lia) (by rw[a0J,<- B];exact n) (by simpa using m) ⟨rfl,fin⟩) G
theorem MR:IxR X C5:=by
 intro e d k s M H x y v u Q I B E h A
 obtain ⟨z,i,c,rfl,rfl,K,r,q⟩:=h
 obtain ⟨t,rfl⟩:=B
 obtain ⟨L,rfl⟩:=E
 obtain ⟨j,g,n,G,o,p⟩:=yR r
 have w:z.cps.toList.length=z.length:=by simp [Str.length]
 rw [w] at g o p
 have J:=nG
 exact b2i (typeIs_str s z t) slot_str_getitem.lookup (getItem_str (c:=c) (by
  have l:decide (i < -(2 ^ 63:Int))=false:=decide_eq_false<|by lia
  have m:decide (i >= 2 ^ 63)=false:=decide_eq_false<|by lia
  rw [l,m,a5t]) (by rw [g];simpa using n) ⟨.str ⟨#[c]⟩,H,I.tok _,⟨_,rfl⟩,q⟩) A
noncomputable def C6 (K:a0c):R2:=fun x y H Q=>C3 K x y H Q\/C4 K x y H Q\/C5 x y H Q
theorem MU:IxR X (C6 X.K):=ix_list.or<|ix_tup.or MR
theorem MV lo c n:(a2S lo c b0 n).1=((HT.sIx n 0 lo:Nat):Int)/\(a2S lo c b0 n).2.1=((HT.sIx n n c:Nat):Int)/\(a2S lo c b0 n).2.2=1:=by
 refine⟨?_,?_,rfl⟩
 .cases lo with
  |none=>simp[a2S,HT.sIx]|some i=>
   simp only[a2S,HT.sIx,a6P,show(1:Int)>0 by decide,if_true];by_cases h:i<0
   .simp only[h,if_true]<;>lia
   .simp only[h,if_false]<;>lia
 .cases c with
  |none=>simp[a2S,HT.sIx]|some i=>
   simp only[a2S,HT.sIx,a6P,show(1:Int)>0 by decide,if_true];by_cases h:i<0
   .simp only[h,if_true]<;>lia
   .simp only[h,if_false]<;>lia
theorem MW(its:gq)lo c:a9n its.toArray lo c b0=((its.drop<|HT.sIx its.length 0 lo).take<|HT.sIx its.length its.length c-HT.sIx its.length 0 lo).toArray:=by obtain⟨d,e,g⟩:=MV lo c its.toArray.size;unfold a9n;rw[d,e,g];simp only[sliceRange_one,pick_run,a0J]<;>rfl
noncomputable def yT(K:a0c):V->Option Int->Option Int->Hp->VK->Prop:=λx lo c H Q=>∃a xs,x=.ref a/\SqL K H a xs/\∀p,H p=b0->Q (.ref p) (aK H p<|.lst<|lV xs lo c)
theorem MX:yQ X (yT X.K):=by intro j s B H x v z A e g y Q I u k o p h;obtain⟨a,c,rfl,l,q⟩:=h;cases u;obtain⟨n,r,i,m⟩:=I.list l;have d:=r.length;refine⟨"list",_,a7B.lookup,i.isList.typeIs,?_⟩;refine a9d i.isList k o p .none (by simp) ?_ (by rw[a0J]<;>lia);rw[MW,<- d];refine⟨.ref s.heap.objs.size,_,I.laid (t':=s.toks) (o:=.lst (lV c e g)) (λb w q=>a0e _ q) (a0l _) ?_,rfl,q _<|I.hok.fresh<|a0l _⟩;exact⟨a1l (MN c e g) m,_,0,(r.drop<|HT.sIx c.length 0 e).take<|HT.sIx c.length c.length g-HT.sIx c.length 0 e,a0o _ rfl⟩
theorem C7:OpR X (a1J .NotIn) (λx y H Q=>∃i j,x=.str i/\y=.str j/\Q (.bl<|!(!(a2i j i 0 j.length 1).isEmpty)) H):=by intro c s k H x y v u Q I d e h;obtain⟨i,j,rfl,rfl,q⟩:=h;obtain⟨t,rfl⟩:=d;obtain⟨g,rfl⟩:=e;exact notIn_str ⟨.bl _,H,I,rfl,q⟩
theorem call_len_seq:CallR X (.builtin "len") (λxs H Q=>∃p d,xs=[.ref p]/\(SqL X.K H p d\/SqT X.K H p d)/\Q (.int d.length) H):=by
 intro k s v H xs o Q I r h;obtain⟨p,d,rfl,e,q⟩:=h;obtain⟨u,rfl,m⟩:=d6 r;cases m;have n:=nG;rcases e with e|e
 .obtain⟨g,j,i,l⟩:=I.list e;have c:=j.length;exact Calls.call_len_list i.isList (by simp only[a0J]<;>lia) ⟨.int d.length,H,I.tok _,⟨s.toks+1,by rw[a0J,c]⟩,q⟩
 .obtain⟨g,j,i,l⟩:=I.tuple e;have c:=j.length;exact len_tuple i (by simp only[a0J]<;>lia) ⟨.int d.length,H,I.tok _,⟨s.toks+1,by rw[a0J,c]⟩,q⟩
theorem MY:CallR X (.builtin "len") (λxs H Q=>∃z,xs=[.str z]/\z.length<=a0s/\Q (.int z.length) H):=by intro c s i H xs g Q I r h;obtain⟨z,rfl,e,q⟩:=h;obtain⟨u,rfl,t,rfl⟩:=d6 r;have d:=nG;exact len_str (by lia) ⟨.int z.length,H,I.tok _,⟨_,rfl⟩,q⟩
theorem CallR.or(h:CallR X f r)(h':CallR X f d):CallR X f (λxs H Q=>r xs H Q\/d xs H Q):=by
 intro c s i H xs g Q I e q;rcases q with q|q
 .exact h c s i H xs g Q I e q
 .exact h' c s i H xs g Q I e q
theorem call_list_of:CallR X (.type "list") (λxs H Q=>∃p g,xs=[.ref p]/\(SqL X.K H p g\/SqT X.K H p g)/\∀l,H l=b0->Q (.ref l) (aK H l<|.lst g)):=by
 intro v s A H xs B Q I r h;obtain⟨p,g,rfl,j,q⟩:=h;obtain⟨u,rfl,z⟩:=d6 r;cases z;have fin:∀(its:gq),Vals g its->g.length<=a0s->∀(h':a1C)(c:Nat),(∀b y,s.heap.get? b=a7 y->h'.get? b=a7 y)->
   h'.get? s.heap.objs.size=a7 {cls:=.type "list",dict:=b0,data:=.seq its.toArray c,slots:=#[]}->EP X v A Q (.ref s.heap.objs.size) {s with heap:=h'}:=λits d k h' c m e=>
  ⟨.ref s.heap.objs.size,_,I.laid (t':=s.toks) m (a0l _)<|show ObjOk X.prog X.w _ h' _ (.lst g)from⟨k,its,c,d,e⟩,rfl,q _<|I.hok.fresh<|a0l _⟩
 rcases j with j|j
 .obtain⟨its,d,x,k⟩:=I.list j;have i:=d.length;obtain⟨o,w,hc,n,hd⟩:=x.isList;exact call_list_seq p (.inl rfl) w hc hd (λh' c m e=>fin its d k h' c m e)<|by simp only[a0J]<;>lia
 .obtain⟨its,d,x,k⟩:=I.tuple j;have i:=d.length;obtain⟨o,w,hc,n,hd⟩:=x;exact call_list_seq p (.inr rfl) w hc hd (λh' c m e=>fin its d k h' c m e)<|by simp only[a0J]<;>lia
theorem MZ:CallR X (.type "tuple") (λxs H Q=>∃p d,xs=[.ref p]/\((SqL X.K H p d/\∀l,H l=b0->Q (.ref l) (aK H l<|.tup d))\/(SqT X.K H p d/\Q (.ref p) H))):=by
 intro g s x H xs B Q I r h;obtain⟨p,d,rfl,h⟩:=h;obtain⟨u,rfl,A⟩:=d6 r;cases A;rcases h with⟨j,q⟩|⟨j,q⟩
 .obtain⟨c,m,k,w⟩:=I.list j;have v:=m.length;refine call_tuple_list k.isList (λi z=>?_) (by simp only[a0J]<;>lia);have n:Inv X g x H {s with heap:=i}:=I.kept (t':=s.toks) z;have y:Inv X g x (aK H i.objs.size<|.tup d) {s with heap:=i.push {cls:=.type "tuple",data:=.seq c.toArray}}:=
   n.laid (t':=s.toks) (λb o e=>a0e _ e) (a0l _)<|show ObjOk X.prog X.w _ _ _ (.tup d)from⟨w,c,m,TupN.new _ _⟩
  exact⟨.ref i.objs.size,_,y,rfl,q _<|n.hok.fresh<|a0l _⟩
 .obtain⟨c,m,k,w⟩:=I.tuple j;exact call_tuple_same k ⟨.ref p,H,I,rfl,q⟩
noncomputable def uJ(K:a0c)(T:String)(x:V)(H:Hp):Prop:=match x with
 |.str _=>T="str"|.int _=>T="int"|.ref p=>(T="list"/\∃d,SqL K H p d)\/(T="tuple"/\∃o,K.lookup p=a7 o/\o.cls=.type "tuple"/\o.dict=b0) \/
   (T="dict"/\((∃c,H p=a7 (.dK c))\/∃c,H p=a7 (.dT c)))\/(T="set"/\∃S n,H p=a7 (.set S n))
 |_=>False
theorem C8{σ:St}(I:Inv X b2w σ H s)(r:RelV x v)(ty:uJ X.K T x H):
  s.TypeIs v T/\∀a,v=.ref a->∃k,s.heap.get? a=a7 k/\k.dict=none:=by
 cases x with
 |str z=>obtain⟨t,rfl⟩:=r;cases(show T="str" from ty);exact⟨typeIs_str s z t,λ_ e=>nomatch e⟩|int i=>obtain⟨t,rfl⟩:=r;cases(show T="int" from ty);exact⟨typeIs_int s i t,λ_ e=>nomatch e⟩|ref p=>
  cases r;rcases ty with⟨rfl,u,m⟩|⟨rfl,o,d,hc,hd⟩|⟨rfl,d⟩|⟨rfl,S,n,d⟩
  .obtain⟨q,_,l,_⟩:=I.list m;refine⟨l.isList.typeIs,λa e=>?_⟩;cases e;obtain⟨o,n,e,c,hd,_⟩:=l;exact⟨o,e,hd⟩
  .refine⟨⟨o,I.kIn p o d,hc⟩,λa e=>?_⟩;cases e;exact⟨o,I.kIn _ o d,hd⟩
  .have z:∃o,s.heap.get? p=a7 o/\o.ExactDict:=by
    rcases d with⟨j,d⟩|⟨j,d⟩
    .obtain⟨_,_,_,_,o,_,_,e,g,_⟩:=I.hok p _ d;exact⟨o,e,g⟩
    .obtain⟨_,_,_,_,o,_,_,e,g,_⟩:=I.hok p _ d;exact⟨o,e,g⟩
   obtain⟨o,e,g⟩:=z;refine⟨⟨o,e,g.1⟩,λa h=>?_⟩;cases h;exact⟨o,e,g.2.1⟩
  .obtain⟨o,_,_,_,e,g,_⟩:=I.hok p _ d;refine⟨⟨o,e,g.1⟩,λa h=>?_⟩;cases h;exact⟨o,e,g.2.1⟩
 |_=>exact a2w ty
noncomputable def C9(K:a0c)(T:String)(r:V->gw->Hp->VK->Prop)(to:TE):TE:=λσ H Q=>to σ H λx c=>uJ K T x c/\r x [] c Q
noncomputable def Dd(K:a0c)(T:String)(r:V->gw->Hp->VK->Prop)(to:TE)(t:TA):TE:=λσ H Q=>to σ H λx c=>uJ K T x c/\t σ c λxs d=>r x xs d Q
theorem M0{id:String}(y:PlainAttrs T)(i:Slot T name id)(j:a9A (.builtin id)=pure (.type "method_descriptor"))(u:C2 X id r)(w:PE X o to)(c:a2Q o name X.env (eval o X.env)=eval o X.env:=by rfl)(d:(apos.endLine==cpos.line)=true:=by rfl):PE X (.Call (.Attribute o name apos) [] [] cpos) (C9 X.K T r to):=by
 intro g s m H Q I h;refine a4v c d<|aP (w g s m H _ I h) λv A ⟨x,n,k,l,ty,z⟩=>?_;obtain⟨p,q⟩:=C8 k l ty;exact⟨T,id,y,i,j,p,q,a2V rfl<|a4H<|u g A m n x [] v [] Q k l .nil z⟩
theorem M3{id:String}(K:PlainAttrs T)(k:Slot T name id)(l:a9A (.builtin id)=pure (.type "method_descriptor"))(E:C2 X id r)(G:PE X o to)(B:PA X (e::es) t)(g:a2Q o name X.env (eval o X.env)=eval o X.env:=by rfl)(j:((a2F cpos (a0T (e::es) X.env)).all (λx=>!x.1)&&(a4m cpos (a3g [] X.env)).all (λx=>x.1.isSome)
   && decide ((e::es).length+([]:List a3D).length+(if([]:List a3D).isEmpty then 0 else 1)<30))=true:=by rfl)(i:(apos.endLine==cpos.line)=true:=by rfl)(J:a0T (e::es) X.env=(b3,eval e X.env)::a0T es X.env:=by rfl)(c:(a2F cpos (a0T es X.env)).any (·.1)=false:=by rfl):
  PE X (.Call (.Attribute o name apos) (e::es) [] cpos) (Dd X.K T r to t):=by
 intro d s m H Q I h;refine a9z g j i rfl (aP (G d s m H _ I h) λv O ⟨x,u,n,q,ty,L⟩=>?_);obtain⟨z,A⟩:=C8 n q ty;refine⟨T,id,K,k,l,z,A,?_⟩;have p:=B cpos d O m u _ n L;rw[J]at p ⊢;refine a2V (by show(b3||(a2F cpos (a0T es X.env)).any (·.1))=b3;rw[c]<;>rfl) (a8N ?_);exact aP p λU R ⟨Y,w,y,N,M⟩=>E d R m w x Y v U Q y q N M
noncomputable def j9(X:Cx)(id:String)(r:V->gw->Hp->VK->Prop):Prop:=
 ∀(b2w:jw)(s:a0i)(σ:St)(H:Hp)(x:V)(xs:gw)(v:Value)(us:gq)(Q:VK),Inv X b2w σ H s->RelV x v->Vals xs us->r x xs H Q->
  a0A (a0L X.prog X.w) X.A (call (.builtin id)<|v::us) (EP X b2w σ Q) X.xe s
theorem Vals.one(h:Vals [x] us):∃u,us=[u]/\RelV x u:=by
 cases h with
 |cons r t=>cases t;exact⟨_,rfl,r⟩
theorem Vals.two(h:Vals [x,y] us):∃u v,us=[u,v]/\RelV x u/\RelV y v:=by
 cases h with
 |cons r t=>obtain⟨v,rfl,q⟩:=Vals.one t;exact⟨_,v,rfl,r,q⟩
theorem Vals.zero:∀{us},Vals [] us->us=[]
 |_,.nil=>rfl
theorem Vals.dropLast(h:Vals xs us):Vals xs.dropLast us.dropLast:=by
 induction h with
 |nil=>exact .nil|cons r t a=>
  cases t with
  |nil=>exact .nil|cons q b=>exact .cons r a
theorem M4{d:Type}(l:List d):l.eraseIdx (l.length-1)=l.dropLast:=by
 induction l with
 |nil=>rfl|cons a r c=>
  cases r with
  |nil=>rfl|cons b r=>
   have e:(a::b::r).length-1=((b::r).length-1)+1:=by have g:(a::b::r).length=r.length+2:=rfl;have h:(b::r).length=r.length+1:=rfl;lia
   rw[e,List.eraseIdx_cons_succ,c];all_goals rfl
theorem Inv.lset{σ:St}{its:gq}(I:Inv X b2w σ H s)(a:H l=a7 (.lst xs))(e:s.heap.get? l=a7 {cls:=.type "list",data:=.seq its.toArray n})(d:f its.toArray=its'.toArray)(h:Vals ys its')(hz:ys.length<=a0s):
  Inv X b2w σ (aK H l<|.lst ys) {s with heap:=s.heap.update l<|a2g f,toks:=t'}:=by
 have q:=PySem.IsL.update e f;rw[d]at q;refine I.write (x:=l) (e:=l) (by rw[a];exact trivial) (.inl rfl) (λi u c g=>(a1Q s.heap (a2g f)<|a1j c).trans g) ⟨_,q⟩ ?_;exact⟨hz,its',_,h,q⟩
theorem Inv.lnew{σ:St}(I:Inv X b2w σ H s)(a:Vals ys its)(hz:ys.length<=a0s):
  Inv X b2w σ (aK H s.heap.objs.size<|.lst ys) {s with heap:=s.heap.push {cls:=.type "list",data:=.seq its.toArray},toks:=t'}:=
 I.laid (λ_ _ q=>a0e _ q) (a0l _) ⟨hz,its,0,a,a0o _ rfl⟩
theorem Inv.fresh{σ:St}(I:Inv X b2w σ H s):H s.heap.objs.size=none:=I.hok.fresh<|a0l _
theorem Inv.lstM{σ:St}(I:Inv X b2w σ H s)(a:H l=a7 (.lst xs)):xs.length<=a0s/\∃(its:gq)(n:Nat),Vals xs its/\xs.length=its.length/\s.heap.get? l=a7 {cls:=.type "list",data:=.seq its.toArray n}:=by obtain⟨z,its,n,r,e⟩:=I.hok l _ a;exact⟨z,its,n,r,r.length,e⟩
theorem M5(h:n<=a0s):a4K n=false:=by unfold a4K;exact decide_eq_false<|by lia
noncomputable def De:V->gw->Hp->VK->Prop:=λx vs H Q=>∃l xs y,x=.ref l/\vs=[y]/\H l=a7 (.lst xs)/\xs.length<a0s/\Q .non (aK H l<|.lst<|xs++[y])
theorem Df:j9 X "list.append" De:=by intro c s w H x o v m Q I i g h;obtain⟨l,p,y,rfl,rfl,b,k,q⟩:=h;cases i;obtain⟨u,rfl,d⟩:=g.one;obtain⟨z,a,n,r,j,e⟩:=I.lstM b;refine a6m F.slot_list_append ⟨_,e,rfl⟩ F.entry_list_append (F.args_list_append_2 _ _) (PySem.list_append l a.toArray n u<|by rw[a0J];lia) ⟨e,?_⟩;refine⟨.non,_,I.lset (its':=a++[u]) b e (by simp) (r.append<|.cons d .nil) ?_,rfl,q⟩;rw[a0q,a2s];lia
noncomputable def Dg:V->gw->Hp->VK->Prop:=λx vs H Q=>∃l b xs a,x=.ref l/\vs=[.ref b]/\H l=a7 (.lst xs)/\H b=a7 (.lst a)/\xs.length+a.length<=a0s/\Q .non (aK H l<|.lst<|xs++a)
theorem M6:j9 X "list.extend" Dg:=by
 intro j s O H x K v J Q I B A h;obtain⟨l,b,L,N,rfl,rfl,i,m,G,q⟩:=h;cases B;obtain⟨u,rfl,y⟩:=A.one;cases y;obtain⟨z,c,n,r,E,e⟩:=I.lstM i;obtain⟨M,a,p,w,o,k⟩:=I.lstM m;have g:c.toArray.size+a.toArray.size<=a0s:=by rw[a0J,a0J];lia
 have d:¬ (!c.toArray.isEmpty&&a4K (c.toArray.size+a.toArray.size))=true:=by rw[M5 g,b0D];exact a0K
 refine a6m F.slot_list_extend ⟨_,e,rfl⟩ F.entry_list_extend (F.args_list_extend_2 _ _)
  (AutoSeq1.list_extend_list_list_0 l c.toArray n b a.toArray p d (by rw[a0J];lia)<|by lia) ⟨e,k,?_⟩
 refine⟨.non,_,I.lset (its':=c++a) i e (by simp) (r.append w) ?_,rfl,q⟩;rw[a0q];lia
noncomputable def Dh:V->gw->Hp->VK->Prop:=λx vs H Q=>∃l xs y,x=.ref l/\vs=[]/\H l=a7 (.lst xs)/\xs[xs.length-1]?=a7 y/\Q y (aK H l<|.lst xs.dropLast)
theorem M7:j9 X "list.pop" Dh:=by
 intro g s E H x A v w Q I p o h;obtain⟨l,B,y,rfl,rfl,d,k,q⟩:=h;cases p;have b:=o.zero;subst b;obtain⟨z,a,n,r,i,e⟩:=I.lstM d;obtain⟨u,j,m⟩:=r.get k;have c:a.toArray[a.toArray.size-1]?=a7 u:=by show a.toArray[a.length-1]?=a7 u;rw[<- a1y,<- i];exact j
 refine a6m F.slot_list_pop ⟨_,e,rfl⟩ F.entry_list_pop (F.args_list_pop_1 _) (MeetsSeq.list_pop_last l a.toArray n u c<|by rw[a0J];lia) ⟨e,?_⟩;refine⟨y,_,I.lset (its':=a.dropLast) d e ?_ r.dropLast ?_,m,q⟩
 .show a.toArray.eraseIdxIfInBounds (a.toArray.size-1)=a.dropLast.toArray;rw[a0J,List.eraseIdxIfInBounds_toArray,M4]
 .rw[List.length_dropLast];lia
noncomputable def Di:R2:=λx y H Q=>∃l b xs a,x=.ref l/\y=.ref b/\H l=a7 (.lst xs)/\H b=a7 (.lst a)/\xs.length+a.length<=a0s/\∀p,H p=b0->Q (.ref p) (aK H p<|.lst<|xs++a)
theorem M8:OpR X (a4a .Add) Di:=by
 intro d s L H x y v u Q I p w h;obtain⟨l,b,G,K,rfl,rfl,k,j,B,q⟩:=h;cases p;cases w;obtain⟨z,c,n,r,A,e⟩:=I.lstM k;obtain⟨J,a,E,o,m,g⟩:=I.lstM j;refine PySem.P.add_list e g ?_ (by rw[a0J,a0J];lia);have i:c.toArray++a.toArray=(c++a).toArray:=by simp
 rw[i];exact⟨.ref _,_,I.lnew (t':=s.toks) (r.append o)<|by rw[a0q];lia,rfl,q _ I.fresh⟩
end L2
namespace Att
open PySem PySem.W PySem.Calls PyProof.Rows
theorem M9:∀ns(vs:gq),WellAll P h vs (ns.map a4D)->a3y vs ns:=by
 intro ns;induction ns with
 |nil=>intro vs w;rw[a3S]at w;cases w;exact .nil|cons n ns c=>
  intro vs w;rw[a0r]at w;cases w with
  |cons a b=>cases a;exact .cons _ _<|c _ b
theorem script_of{l:OpenLaw}(w:l.most=a7 n){e:gq}(c:l.row.toRowW.claim.pre args=b5)(o:WellAll P h e args):
  ∃a p b,e=[a0n a]/\args=[WData.list<|b.map a4D]/\h.get? a=a7 {cls:=.type "list",data:=.seq p.toArray}/\a3y p b/\b.length<=n:=by
 have m:WShape.hasAll [] args [.list .int]=true:=(pre_splitW c).1;have hc:l.pre.holds [] {args:=args}=true:=(pre_splitW c).2;obtain⟨d,r,rfl,s,u⟩:=hasAllW_cons m;obtain rfl:=hasAllW_nil u;obtain⟨B,rfl,v⟩:=hasW_list s;obtain⟨b,rfl⟩:=items_int v;have i:b.length<=n:=by
  unfold OpenLaw.pre at hc;have j:(WTm.not<|.lt (.lit<|.int (n:Int))<|.len<|.arg 0).holds [] {args:=[.list<|b.map .int]}=true:=by have j:=(holds_andW hc).1;rw[w]at j;exact j
  have k:=condW_of j<|w_not<|w_lt w_lit<|w_len_list<|w_arg rfl;rw[a0d]at k;refine b0t λq=>?_;have y:(n:Int)<((b.length:Nat):Int):=by lia
  first
   |(rw[decide_eq_true y]at k;exact absurd k<|by decide)|(simp at k;lia)
 cases o with
 |cons z A=>
  cases A;cases z with
  |list x g=>exact⟨_,_,b,rfl,rfl,x,M9 b _ g,i⟩
theorem post_true(l:OpenLaw)args:l.row.toRowW.claim.post args (.bool b5) args=true:=
 postW_of (r:=l.row.toRowW) (X:=(b5==b5))
  (show b1a [] (.bool b5) .bool=b5 by first|rfl|decide|simp[b1a,WShape.arms,WShape.armsAll])
  (show(WTm.eq .res<|.lit<|.bool b5).value [] {args:=args,res:=a7<|.bool b5,after:=args}=a7 (.bool<|b5==b5)from w_eq_bool (w_res rfl) w_lit) rfl
end Att
namespace L2
open PySem PySem.Spec PyProof.Rows
theorem yU:∀{vs:gq}{ns},a3y vs ns->Vals (ns.map V.int) vs
 |_,_,.nil=>.nil|_,_,.cons n t h=>.cons ⟨t,rfl⟩<|yU h
noncomputable def Dj(H:Hp):Prop:=∀b,H b=b0\/∃o xs,H b=a7 (.frz o<|.lst xs)
theorem law_call{K:a0c}{vs:gq}(KX:K.In c.heap)(G:c.heap.Ns a1L M)(g:c.heap.Ns b0L Z)(U:∀x:Str,x ≠ "__name__"->Z x=a2q x)(E:c.heap.NoLimit)(hg:c.gens=#[])(O:c.heap.get? a=a7 {cls:=.type "list",data:=.seq vs.toArray})(hi:a3y vs ns)(hl:ns.length<=a0s)(hr:Room k a7E)(F:∀i,K.In i->i.Ns a1L M->FnOk P w K M i CX k R fd [x] sp)(y:∀s u,a7L s fd ⟨[u],[]⟩ [(x,u)])(Y:∀H,Dj H->SqL K H a (ns.map V.int)->sp [.ref a] H (λv _=>v=.bl b5) λ_ _ _=>False)(T:∀H e j,CX [] H c (λ_ _ _=>False) e j->False):
  a3q (a0L P w) a7E (.call (.ref R) ⟨[.ref a],[]⟩) (λr j=>r=.ok (.ret<|.bool b5)/\OldK c.heap j.heap/\j.os=c.os/\a6X j.gens) c:=by
 have rv:=yU hi;have L:=hi.length
  -- from an abstract heap in which nothing but the script may be tracked
 have p:∀H:Hp,Dj H->SqL K H a (ns.map V.int)->HOk P w H c.heap->(∀b,H b≠b0->b=a)->(H a≠b0->K.lookup a=b0)->
   a3q (a0L P w) a7E (.call (.ref R) ⟨[.ref a],[]⟩) (λr j=>r=.ok (.ret<|.bool b5)/\OldK c.heap j.heap/\j.os=c.os/\a6X j.gens) c:=by
  intro H hO hS I hA hK;have iS:∀{b:Addr}{o:Obj},c.heap.get? b=a7 o->H b=b0->(kU c.heap H).get? b=a7 o:=λe n=>Km e n;have noA:∀{b:Addr}{o:Obj}{es:Array DictEntry}{ep:Nat},c.heap.get? b=a7 o->o.data=.dict es ep->H b=none:=λ{b o es ep} e d=>by
   cases q:H b with
   |none=>rfl|some u=>have Q:b=a:=hA b (by rw[q];simp);subst Q;rw[O]at e;cases e;have d':a9a vs.toArray _=a3A es ep:=d;cases d'
  have l:∀{b:Addr}{m:Str->Option Value},c.heap.Ns b m->(kU c.heap H).Ns b m:=λ{b m} ⟨o,es,ep,e,d,r⟩=>⟨o,es,ep,iS e<|noA e d,d,r⟩;have B:K.In (kU c.heap H):=λb o e=>iS (KX b o e)<|by
   cases q:H b with
   |none=>rfl|some u=>
    have Q:b=a:=hA b (by rw[q];simp);subst Q;rw[hK<|by rw[q];simp]at e;cases e
  have hM:Mod K M (kU c.heap H):=⟨B,l G,⟨Z,l g,U⟩,let⟨mc,h1,h2⟩:=E;⟨mc,l h1,h2⟩⟩;have e0:Env0 P w K M (kU c.heap H) a7E [] c H:=⟨rfl,hM,λb o e=>Kn e,a3V<|Kl _ _,trivial,λb g=>absurd (show b∈([]:List Addr)from g)<|by simp,I,.of_eq hg⟩;refine a6l ((F _ B<|l G).run a7E [] c H ⟨[.ref a],[]⟩ [.ref a] [.ref a] _ _ hr e0 (y c<|.ref a) (.cons rfl .nil)<|Y H hO hS) λr j h=>?_;cases r with
  |error e=>exact(T H e j h).elim|ok fl=>
   cases fl with
   |next=>exact a2w h|brk=>exact a2w h|cont=>exact a2w h|ret u=>
    obtain⟨v,H',os,A,un,J,r',q⟩:=h;have q':v=.bl true:=q;subst q';obtain rfl:u=a2b true:=r';refine⟨rfl,OldK.of_keep λb o e=>?_,os,A⟩;cases q:H b with
    |none=>exact un.keep b o e q (by intro z;exact absurd (show b∈([]:List Addr)from z)<|by simp) (by simp)|some u=>
     rcases hO b with z|⟨ob,xs,z⟩
     .rw[q]at z;cases z
     .have z2:=un.frzs b ob _ z;obtain⟨e1,_⟩:=I b _ z;obtain⟨e2,_⟩:=J b _ z2;rw[e]at e1;cases e1;exact e2
 cases X:K.lookup a with
 |some o=>-- the script is one of the module's own objects
  have e:=KX a o X;rw[O]at e;cases e;refine p (λ_=>b0) (λ_=>.inl rfl) (.inr ⟨_,vs.toArray,_,X,rfl,rfl,rfl,by rw[a0J,L];exact hl,by simpa using rv⟩) (λb u z=>by have N:(b0:Option HO)=a7 u:=z;cases N) (λb z=>absurd rfl z) λz=>absurd rfl z
 |none=>
  refine p (λb=>if b=a then a7 (.frz {cls:=.type "list",data:=.seq vs.toArray}<|.lst<|ns.map V.int)else b0) (λb=>?_) (.inl<|.inr ⟨{cls:=.type "list",data:=.seq vs.toArray},if_pos rfl⟩) (λb u z=>?_) (λb z=>?_) λ_=>X
  .by_cases g:b=a
   .exact .inr ⟨_,_,if_pos g⟩
   .exact .inl<|if_neg g
  .by_cases g:b=a
   .have N:=(if_pos g).symm.trans z;cases N;subst g;exact⟨O,by rw[a0d];exact hl,vs,_,rv,O⟩
   .have N:=(if_neg g).symm.trans z;cases N
  .by_cases g:b=a
   .exact g
   .exact absurd (if_neg g) z
noncomputable def f6(s:Stmt):Arguments:=match s with
 |.FunctionDef _ a _ _ _ _ _ _ _ _=>a|_=>{posonlyargs:=[],args:=[],vararg:=b0,kwonlyargs:=[],kw_defaults:=[],kwarg:=b0,defaults:=[]}
noncomputable def eU(s:Stmt):List Stmt:=match s with
 |.FunctionDef _ _ b _ _ _ _ _ _ _=>b|_=>[]
noncomputable def cH(s:Stmt):a3k:=match s with
 |.FunctionDef _ _ _ _ _ _ sc _ _ _=>sc|_=>{kind:=.function,names:=[],isGenerator:=b3,isCoroutine:=b3}
noncomputable abbrev eE:j8:=λ_ _ _ _ _ _=>False
noncomputable abbrev E0:XK:=λ_ _ _=>False
theorem rF:lU eE X E0:=λ_ _ _ _ _ _ _ h=>h.elim
structure Fun(K:a0c)(x qual:Str)(st:Stmt)(f:Addr)(fd:a2L):Prop where
 ex:∃(oc:Value)(od:Option Addr)(dV kV doc pm:Value)(an:Option Addr)(cdv ct:Value)(osl:Array (Option Value)),
  fd=a2m x qual (f6 st) (eU st) (cH st) dV kV doc pm an cdv ct/\K.lookup f=a7 ⟨oc,od,.func fd,osl⟩/\a4N K cdv qual=b5
 kp:a2l K (.ref f)=b5
theorem Fun.ok{K:a0c}{st:Stmt}(F:Fun K x a st f g)(S:FnScope N ps (cH st))(len:∀vs H Q E,sp vs H Q E->vs.length=ps.length)(c:∀b A outer s H(vs:gw)Q E,Room k (A.deeper<|envOfC a (cH st) s.heap.objs.size f b)->sp vs H Q E->
   ∃t,PSs (kW eE P w K mg base N a (cH st) f b A outer s H E).nox (eU st) t/\t {nx:=λ_ i=>Q .non i,rt:=Q} (start N vs) H):FnOk P w K mg base eE (k+1) f g ps sp:=by
 obtain⟨p,r,o,kV,j,u,n,b,ct,m,rfl,lk,d⟩:=F.ex;refine Mq lk d S len λA outer s H vs Q E l e=>?_;obtain⟨t,h,q⟩:=c b A outer s H vs Q E l e;exact⟨t,h.nox,q⟩
theorem Dk{K:a0c}{st:Stmt}{kV:Value}(l:K.lookup f=a7 ⟨i,j,.func<|a2m x a (f6 st) (eU st) (cH st) g kV d h an b ct,e⟩)(c:a4N K b a=b5)(k:a2l K (.ref f)=b5):Fun K x a st f (a2m x a (f6 st) (eU st) (cH st) g kV d h an b ct):=⟨⟨i,j,g,kV,d,h,an,b,ct,e,rfl,l,c⟩,k⟩
theorem Na(a:Room k A):A.units+1<a2e:=Nat.lt_of_le_of_lt (Nat.add_le_add_left (by decide:1<=64) _) a.units
theorem pv i(b:X.N[i]?=a7 x:=by rfl)(c:nE X.env.scope x:=by first|exact a8i rfl|exact a6O (a8i rfl)|exact a6O<|a6O rfl)(hd:(x==("__debug__":Str))=false:=by decide)(a:(x==("__classdict__":Str))=false:=by decide):PE X (.Name x pos) (xY i):=Cv b c hd a
theorem lX{A:Prop}(h:B):if b3=b5 then A else B:=by rw[if_neg a0K];exact h
theorem lY{A:Prop}(h:A):if b5=b5 then A else B:=by rw[if_pos rfl];exact h
section
variable{κ:Type} [DecidableEq κ]
end
end L2
namespace L3
open PySem PySem.W
theorem left_cut{Yf:a0i → O}{Ya:a1f → O}{hA hB hC hD:a2j → a1C}(i:∀w,(fencedOpening a2W p w N).map (λs=>(s.heap,s.gens,s.drawn,s.toks))=a7 (a4w w.params,a1r [],a1S,a7W))(size:∀w:a1f,((a4w w.params).isNs a1L,(a4w w.params).objs.size,(a4w w.params).nsMap a1L "__annotations__")=(b5,b,g))(y:∀w a,topGo a2W p w b g u ⟨a4w w.params,a1r [],a1S,a7W,a⟩ (topStub p)=a7 (⟨hA w.params,a1r [],a1S,kA,a⟩,⟨denote a2W<|.body (a0U p) env,.body (a0U p) env,G,[a4z j]⟩))(x:∀w a,a7T a2W p w b g 1 l ⟨hA w.params,a1r [],a1S,kA,a⟩ (blockOf (a0U p) env (.body (a0U p) env) G [a4z j])=a7 (.next,⟨hA w.params,a1r [],a1S,kA,a⟩,.body (a0U p) env,v))(s1:∀w a,a7T a2W p w b g 1 m ⟨hA w.params,a1r [],a1S,kA,a⟩ (a7D ((a0U p).take i1) env (.body (a0U p) env) v [a4z j])=a7 (.next,⟨hB w.params,a1r [],a1S,A,a⟩,.body (a0U p) env,H))(s2:∀w a,a7T a2W p w b g 1 n ⟨hB w.params,a1r [],a1S,A,a⟩ (a7D (((a0U p).drop i1).take i2) env (.body (a0U p) env) H [a4z j])=a7 (.next,⟨hC w.params,a1r [],a1S,B,a⟩,.body (a0U p) env,I))(s3:∀w a,a7T a2W p w b g 1 o ⟨hC w.params,a1r [],a1S,B,a⟩ (a7D ((((a0U p).drop i1).drop i2).take i3) env (.body (a0U p) env) I [a4z j])=a7 (.next,⟨hD w.params,a1r [],a1S,E,a⟩,.body (a0U p) env,J))(fin:∀w a,((topRun a2W p w b g n4 ⟨hD w.params,a1r [],a1S,E,a⟩<|restOf ((((a0U p).drop i1).drop i2).drop i3) env (.body (a0U p) env) J [a4z j]).bind λc=>match staticsOk (b1D p.main.body) (a4w w.params) c.heap&&namesBound p c.heap&&gensDone c&&laidKept (a4w w.params) c.heap with
   |true=>a7 c
   |false=>b0).map (λs=>(openSeen q loose (b1D p.main.body) Xt z s,Yf s))=a7 (openGood q loose,Ya w))(le:Nat.ble (u+(l+(m+(n+(o+n4))))) N=b5):LeftO p q loose Xt Yf Ya N z:=λw=>by
 obtain⟨⟨h,R,d,k,a⟩,e,Q⟩:=a0g.mp<|i w;obtain⟨rfl,rfl,rfl,rfl⟩:h=a4w w.params ∧ R=a1r [] ∧ d=a1S ∧ k=a7W:=by simpa using Q
 obtain⟨z1,z2,z3⟩:_ ∧ _ ∧ _:=by simpa only[a9Z]using size w
 obtain⟨s,X,Y⟩:=a0g.mp<|fin w a;obtain⟨c,T,U⟩:=a0a.mp X;have M:=b1m (s3 w a) T;rw[a3d]at M;have L:=b1m (s2 w a) M;rw[a3d]at L;have K:=b1m (s1 w a) L;rw[a3d]at K;have Z:=go_top (y w a)<|piece_block (x w a) K;have r:=topRun_mono (N-(u+(l+(m+(n+(o+n4)))))) _ _ _ _ Z;rw[show u+(l+(m+(n+(o+n4))))+(N-(u+(l+(m+(n+(o+n4))))))=N by have:=Nat.le_of_ble_eq_true le;lia]at r;have t:topFrom a2W p w N ⟨a4w w.params,a1r [],a1S,a7W,a⟩=a7 s:=by unfold topFrom;dsimp only;rw[z1,z2,z3,r];exact U
 unfold openEnds;rw[e];show(topFrom a2W p w N _).map _=_;rw[t];exact congrArg a7 Y
end L3
namespace Lw
open PySem L2
noncomputable def aJ(i:Nat):Stmt:=a1E.main.body.getD i<|.Pass ⟨0,0,0,0⟩
noncomputable def eK(i j:Nat):Stmt:=match aJ i with|.ClassDef _ _ _ b _ _ _ _ _ _ _=>b.getD j (.Pass ⟨0,0,0,0⟩)|_=>.Pass ⟨0,0,0,0⟩
noncomputable def Vw:a0R:={a1E with main:={a1E.main with body:=aJ 1::aJ 2::aJ 3::aJ 4::aJ 6::aJ 7::aJ 8::aJ 9::aJ 10::aJ 11::aJ 12::aJ 13::aJ 14::aJ 15::aJ 16::aJ 17::aJ 18::aJ 19::aJ 20::aJ 22::aJ 23::aJ 24::aJ 25::aJ 26::aJ 27::aJ 29::aJ 30::aJ 31::aJ 32::aJ 33::aJ 34::aJ 35::aJ 36::aJ 37::aJ 39::aJ 41::aJ 42::aJ 43::aJ 44::aJ 46::aJ 48::aJ 49::aJ 50::aJ 51::aJ 52::aJ 54::aJ 55::aJ 56::aJ 57::aJ 58::aJ 59::aJ 60::aJ 62::aJ 63::aJ 64::aJ 65::aJ 66::aJ 67::aJ 68::aJ 69::aJ 70::aJ 71::aJ 72::aJ 73::aJ 74::aJ 75::[]}}
noncomputable abbrev vS(x:String)(n:Nat):Value:=a6Y (a1T x) n
noncomputable abbrev vI(i:Int):Value:=a1m i 0
noncomputable abbrev vR(a:Addr):Value:=a0n a
noncomputable abbrev vN:Value:=a1z
noncomputable abbrev cO(fs:Array Value):Obj:={cls:=a0C "code",data:=a1c fs}
noncomputable abbrev kO(x y:String)(a b c:Nat)(l n i j k:Int)(r:Addr)(q:Int)(vs:Array Value)(t d:Int)(e:Nat):Obj:={cls:=a0C "code",data:=a1c<|#[vS x a,vS x b,vS y c,vI l,vI n,vI i,vI j,vI k,vR r,a2b b5,vI q]++vs++#[vI t,vI d,vS y e]}
noncomputable abbrev tO(fs:Array Value):Obj:={cls:=a0C "tuple",data:=a9a fs}
noncomputable abbrev fO(x:Str)(n:Nat)(m:Value)(c:Addr):Obj:=⟨a0C "function",b0,.func<|a2m x x (f6<|aJ n) (eU<|aJ n) (cH<|aJ n) a1z a1z a1z m b0 (a0n c) a1z,#[]⟩
noncomputable abbrev eO(P:a2j)(x:String)(n:Nat)(v:Value):DictEntry:={hash:=PyData.keyHash P<|a1T x,key:=a6Y (a1T x) n,val:=v}
noncomputable abbrev eR(P:a2j)(x:String)(n:Nat)(a:Addr):DictEntry:=eO P x n<|vR a
noncomputable abbrev kA(p:Addr×Obj)(R:a0c):a0c:=p::R
noncomputable def Dl:List String → Nat → List Value
 |[],_=>[]|x::xs,n=>vS x n::Dl xs (n+1)
noncomputable abbrev tN(xs:List String)(n:Nat):Obj:=tO<|a1r<|Dl xs n
open PySem.W in
noncomputable def lA(P:a2j):List Obj:=((boot_o_0 P)::(boot_o_1 P)::(boot_o_2 P)::(boot_o_3 P)::(boot_o_4 P)::(boot_o_5 P)::(boot_o_6 P)::(boot_o_7 P)::(boot_o_8 P)::(boot_o_9 P)::(boot_o_10 P)::(tO #[])::({cls:=vN,data:=a1c #[]})::(cO #[vS "<module>" 182,vS "<module>" 183,vS "/claim/cut.py" 184,vI 1,vI 0,vI 0,vI 0,vI 0,vR 11,a2b b3,vI 181,vR 12,vN,vN,vN,vN,vI 185,vI 1,vS "/claim/cut.py" 186])::({cls:=a0C "frame",slots:=#[a7 (vR 13),a7 (vR 3),a7 (vR 3),b0,a7 (vS "__main__" 164),b0,a7 (vR 0)]})::[])
open PySem.W in
noncomputable def Dm(P:a2j)(a:Nat)(c:String)(d:Nat)(b:Nat)(R:List Obj):List Obj:=(tO #[vR 24])::({cls:=a0C "builtin_function_or_method",data:=a1c #[a1G "type.__prepare__",a0C "type"]})::({cls:=a0C "dict",data:=a3A #[eO P "__module__" a (vS "creasecourt.errors" 187),eO P "__qualname__" (a+2) (vS c<|a+1),eO P "__firstlineno__" (a+4) (a1m d<|a+3),eR P "__static_attributes__" (a+5) b] 4})::(tO #[])::({cls:=vN,data:=a1c #[]})::(cO #[vS c (a-5),vS c (a-4),vS "/claim/cut.py" (a-3),vI d,vI 0,vI 0,vI 0,vI 0,vR (b-4),a2b b3,vI 181,vR (b-3),vN,vN,vN,vN,vI (a-2),vI d,vS "/claim/cut.py" (a-1)])::({cls:=a0C "frame",slots:=#[a7 (vR<|b-2),a7 (vR 3),a7 (vR<|b-5),b0,a7 (vS "creasecourt.errors" 187),b0,a7 (vR 0)]})::(tO #[])::({cls:=a0C "dict",data:=a3A #[eO P "__module__" a (vS "creasecourt.errors" 187),eO P "__firstlineno__" (a+4) (a1m d<|a+3),eR P "__static_attributes__" (a+5) b,eO P "__doc__" (a+6) vN] 2})::({cls:=a0C "type",data:=a9b {name:=a1T c,bases:=[vR 24],mro:=[vR<|b+2,vR 24,a0C "ValueError",a0C "Exception",a0C "BaseException",a0C "object"],ns:=(b+1),qualname:=a1T c},slots:=#[a7 (vR<|b-7),b0,a7 (vS c<|a-7),a7 (vS c<|a+1),a7 (a1G "ValueError.__new__"),a7 (a2b b5)]})::({cls:=a0C "super",data:=a1c #[vR (b+2),vR (b+2),vR (b+2)]})::({cls:=a0C "builtin_function_or_method",data:=a1c #[a1G "object.__init_subclass__",vR (b+2)]})::R
open PySem.W in
noncomputable def bW(h:List String)(b:Nat)(c:String)(d:Nat)(e:Nat)(i:Nat)(a:Nat)(g:Nat)(j:String)(k:Nat)(R:List Obj):List Obj:=(tO #[])::({cls:=vN,data:=a1c #[]})::(tN h b)::(tO #[])::(⟨vN,b0,.func<|{a2m c c (f6<|aJ d) (eU<|aJ d) (cH<|aJ d) vN vN vN vN (b0) vN vN with globals:=0},#[]⟩)::(kO c "/claim/cut.py" (b-3) (b-2) (b-1) e i 0 0 3 a 181 #[vR (a+1),vN,vR (a+2),vR (a+3),vR (a+4)] g e<|g+1)::(fO c d (vS j k)<|a+5)::R
open PySem.W in
noncomputable def f7(b:String)(c:Nat)(a:Nat)(e:Nat)(g:Nat)(d:Nat)(h:String)(i:Nat)(R:List Obj):List Obj:=(tO #[])::({cls:=vN,data:=a1c #[]})::(⟨vN,b0,.func<|{a2m b b (f6<|aJ c) (eU<|aJ c) (cH<|aJ c) vN vN vN vN (b0) vN vN with globals:=0},#[]⟩)::(kO b "/claim/cut.py" a (a+1) (a+2) e g 0 0 3 d 181 #[vR (d+1),vN,vN,vN,vR (d+2)] (a+3) e<|a+4)::(fO b c (vS h i)<|d+3)::R
open PySem.W in
noncomputable def l6(c:String)(d:String)(a:Nat)(b:Nat)(R:List Obj):List Obj:=(⟨vN,b0,.func<|{a2m c d (f6<|eK a b) (eU<|eK a b) (cH<|eK a b) vN vN vN vN (b0) vN vN with globals:=0},#[]⟩)::R
open PySem.W in
noncomputable def nH(e:String)(b:Nat)(g:String)(c:Nat)(h:Nat)(a:Nat)(d:Nat)(R:List Obj):List Obj:=(cO #[vS e b,vS g (b+1),vS "/claim/cut.py" (b+2),vI c,vI h,vI 0,vI 0,vI 3,vR a,a2b b5,vI 181,vR (a+1),vN,vR (a+2),vR (a+3),vR (a+4),vI d,vI c,vS "/claim/cut.py" (d+1)])::R
open PySem.W in
noncomputable def nI(c:String)(d:String)(a:Nat)(b:Nat)(e:String)(g:Nat)(h:Nat)(R:List Obj):List Obj:=(⟨a0C "function",b0,.func<|a2m c d (f6<|eK a b) (eU<|eK a b) (cH<|eK a b) vN vN vN (vS e g) (b0) (vR h) vN,#[]⟩)::R
open PySem.W in
noncomputable def uK(b:Nat)(a:Nat)(c:Nat)(R:List Obj):List Obj:=(tO #[a1m b a,a1m c (a+1)])::R
open PySem.W in
noncomputable def lN(P:a2j):List DictEntry:=[eO P "__doc__" 166 vN,eO P "__package__" 167 vN,eO P "__loader__" 168<|a1G "__main__.__loader__#opaque",eO P "__spec__" 169 vN,eR P "__annotations__" 170 6,eR P "__builtins__" 171 4,eO P "__file__" 173<|vS "/claim/cut.py" 172,eO P "__cached__" 174 vN,eR P "CreaseError" 206 24,eR P "NoSize" 222 37,eR P "NoFold" 238 49,eR P "Barred" 263 68,eR P "EIGHT_EDGES" 288 79,eR P "FOUR_EDGES" 301 84,eR P "is_whole" 308 91,eR P "is_corner" 315 98,eR P "is_edge" 322 105,eR P "is_quarter" 329 112,eR P "line_of" 336 119,eR P "beside" 345 126,eR P "sides_of" 351 131,eR P "edges_of" 357 136,eR P "moved_by" 363 141,eR P "edges_round" 370 148,eR P "number_by" 378 155,eR P "hand_of" 388 162,eR P "mirrored" 400 169,eR P "STILL" 409 170,eR P "laying_by" 418 177,eR P "mirror_in" 425 184,eR P "led" 435 191,eR P "then" 443 198,eR P "is_turned" 450 205,eR P "is_size" 459 212,eR P "check_size" 467 219,eR P "is_within" 476 226,eR P "places_within" 482 231,eR P "quarters_in" 488 236,eR P "edges_in" 494 241,eR P "corners_in" 500 246,eR P "neighbours_in" 506 251,eR P "marks_in" 513 258,eR P "is_good" 521 263,eR P "creases_at" 529 268,eR P "gaps_at" 535 273,eR P "barred" 543 280,eR P "check_corners" 551 287,eR P "laid" 567 294,eR P "heights_in" 580 301,eR P "is_above" 589 308,eR P "turned_first" 598 315,eR P "mark_by_heights" 608 322,eR P "marks_by" 614 327,eR P "copied_piles" 626 334,eR P "folded_layings" 640 341,eR P "folded_piles" 656 348,eR P "check_fold" 662 353,eR P "creased_edges" 674 360,eR P "unfolded" 685 367,eR P "Folding" 763 425,eR P "_law_cell" 774 436,eR P "_law_quarters" 785 443,eR P "_law_inner" 796 450,eR P "_law_beside" 805 457,eR P "_law_led" 819 464,eR P "_law_over" 835 471,eR P "_law_value" 843 478,eR P "_law_begun" 854 485,eR P "_law_folded" 860 490,eR P "_law_plan" 875 497,eR P "_law_mark" 893 504,eR P "_law_right" 907 511,eR P "_law_laid_right" 923 518,eR P "law" 940 525]
noncomputable def lM:gq:=List.flatMap (λp:Nat×Nat=>[vI p.1,vI 0,vR p.2]) [(2,20),(4,33),(6,45),(8,57),(16,90),(18,97),(20,104),(24,111),(28,118),(32,125),(36,130),(38,135),(40,140),(42,147),(44,154),(52,161),(58,168),(72,176),(74,183),(76,190),(80,197),(82,204),(85,211),(87,218),(90,225),(92,230),(97,235),(99,240),(101,245),(103,250),(105,257),(108,262),(115,267),(118,272),(125,279),(130,286),(135,293),(149,300),(155,307),(157,314),(162,321),(165,326),(169,333),(174,340),(181,347),(193,352),(197,359),(204,366),(211,373),(245,435),(252,442),(259,449),(266,456),(273,463),(276,470),(286,477),(288,484),(295,489),(315,496),(327,503),(336,510),(344,517),(353,524)]
open PySem.W in
noncomputable def lB(P:a2j):List Obj:=(((lA P).set 3<|{cls:=a0C "dict",data:=a3A (a1r<|eO P "__name__" 165 (vS "creasecourt.places" 264)::(lN P).take 17) 18}).set 12<|{cls:=vN,data:=a1c<|a1r<|lM.take 21})++((tO #[a0C "ValueError"])::(({cls:=a0C "builtin_function_or_method",data:=a1c #[a1G "type.__prepare__",a0C "type"]})::(({cls:=a0C "dict",data:=a3A #[eO P "__module__" 196 (vS "creasecourt.errors" 187),eO P "__qualname__" 198 (vS "CreaseError" 197),eO P "__firstlineno__" 200 (a1m 2 199),eR P "__static_attributes__" 201 22] 4})::((tO #[])::(({cls:=vN,data:=a1c #[]})::((cO #[vS "CreaseError" 191,vS "CreaseError" 192,vS "/claim/cut.py" 193,vI 2,vI 0,vI 0,vI 0,vI 0,vR 18,a2b b3,vI 181,vR 19,vN,vN,vN,vN,vI 194,vI 2,vS "/claim/cut.py" 195])::(({cls:=a0C "frame",slots:=#[a7 (vR 20),a7 (vR 3),a7 (vR 17),b0,a7 (vS "creasecourt.errors" 187),b0,a7 (vR 0)]})::((tO #[])::(({cls:=a0C "dict",data:=a3A #[eO P "__module__" 196 (vS "creasecourt.errors" 187),eO P "__firstlineno__" 200 (a1m 2 199),eR P "__static_attributes__" 201 22,eR P "__weakref__" 203 25,eO P "__doc__" 204 vN] 3})::(({cls:=a0C "type",data:=a9b {name:=a1T "CreaseError",bases:=[a0C "ValueError"],mro:=[vR 24,a0C "ValueError",a0C "Exception",a0C "BaseException",a0C "object"],ns:=23,qualname:=a1T "CreaseError",subclasses:=[vR 37,vR 49,vR 68]},slots:=#[a7 (vR 15),b0,a7 (vS "CreaseError" 189),a7 (vS "CreaseError" 197),a7 (a1G "ValueError.__new__"),a7 (a2b b5)]})::(({cls:=a0C "getset_descriptor",data:=a1c #[vS "__weakref__" 202,vR 24,a1G "ExceptionGroup.__weakref__",vN]})::(({cls:=a0C "super",data:=a1c #[vR 24,vR 24,vR 24]})::(({cls:=a0C "builtin_function_or_method",data:=a1c #[a1G "object.__init_subclass__",vR 24]})::(Dm P 214 "NoSize" 4 35<|Dm P 230 "NoFold" 6 47<|(tO #[vR 24])::(({cls:=a0C "builtin_function_or_method",data:=a1c #[a1G "type.__prepare__",a0C "type"]})::(({cls:=a0C "dict",data:=a3A #[eO P "__module__" 246 (vS "creasecourt.errors" 187),eO P "__qualname__" 248 (vS "Barred" 247),eO P "__firstlineno__" 250 (a1m 8 249),eR P "__init__" 258 65,eR P "__static_attributes__" 260 66] 5})::((tO #[])::(({cls:=vN,data:=a1c #[vI 10,vI 4,vR 64]})::((cO #[vS "Barred" 241,vS "Barred" 242,vS "/claim/cut.py" 243,vI 8,vI 0,vI 0,vI 0,vI 0,vR 55,a2b b3,vI 181,vR 56,vN,vN,vN,vN,vI 244,vI 8,vS "/claim/cut.py" 245])::(({cls:=a0C "frame",slots:=#[a7 (vR 57),a7 (vR 3),a7 (vR 54),b0,a7 (vS "creasecourt.errors" 187),b0,a7 (vR 0)]})::((tO #[])::(({cls:=vN,data:=a1c #[]})::((tN ["self","corner"] 254)::((tO #[])::(l6 "__init__" "Barred.__init__" 4 0<|nH "__init__" 251 "Barred.__init__" 10 2 59 256<|nI "__init__" "Barred.__init__" 4 0 "creasecourt.errors" 187 64<|(tN ["corner"] 259)::(({cls:=a0C "dict",data:=a3A #[eO P "__module__" 246 (vS "creasecourt.errors" 187),eO P "__firstlineno__" 250 (a1m 8 249),eR P "__init__" 258 65,eR P "__static_attributes__" 260 66,eO P "__doc__" 261 vN] 2})::(({cls:=a0C "type",data:=a9b {name:=a1T "Barred",bases:=[vR 24],mro:=[vR 68,vR 24,a0C "ValueError",a0C "Exception",a0C "BaseException",a0C "object"],ns:=67,qualname:=a1T "Barred" },slots:=#[a7 (vR 52),b0,a7 (vS "Barred" 239),a7 (vS "Barred" 247),a7 (a1G "ValueError.__new__"),a7 (a2b b5)]})::(({cls:=a0C "super",data:=a1c #[vR 68,vR 68,vR 68]})::(({cls:=a0C "builtin_function_or_method",data:=a1c #[a1G "object.__init_subclass__",vR 68]})::(uK 2 266 0<|uK 1 268 1<|uK 0 270 2<|(tO #[a1m (-1) 273,a1m 1 274])::((tO #[a1m (-2) 276,a1m 0 277])::((tO #[a1m (-1) 279,a1m (-1) 281])::((tO #[a1m 0 282,a1m (-2) 284])::((tO #[a1m 1 285,a1m (-1) 287])::((tO #[vR 71,vR 72,vR 73,vR 74,vR 75,vR 76,vR 77,vR 78])::(uK 1 289 1<|(tO #[a1m (-1) 292,a1m 1 293])::((tO #[a1m (-1) 295,a1m (-1) 297])::((tO #[a1m 1 298,a1m (-1) 300])::((tO #[vR 80,vR 81,vR 82,vR 83])::(bW ["value"] 305 "is_whole" 8 16 1 85 306 "creasecourt.places" 264<|bW ["place"] 312 "is_corner" 9 18 1 92 313 "creasecourt.places" 264<|bW ["place"] 319 "is_edge" 10 20 1 99 320 "creasecourt.places" 264 []))))))))))))))))))))))))))))))))))))))))
open PySem.W in
noncomputable def lC(P:a2j):List Obj:=(((lB P).set 3<|{cls:=a0C "dict",data:=a3A (a1r<|eO P "__name__" 165 (vS "creasecourt.piles" 568)::(lN P).take 50) 51}).set 12<|{cls:=vN,data:=a1c<|a1r<|lM.take 117})++(bW ["place"] 326 "is_quarter" 11 24 1 106 327 "creasecourt.places" 264<|bW ["edge"] 333 "line_of" 12 28 1 113 334 "creasecourt.places" 264<|bW ["place","x","y"] 340 "beside" 13 32 1 120 343 "creasecourt.places" 264<|f7 "sides_of" 14 346 36 1 127 "creasecourt.places" 264<|f7 "edges_of" 15 352 38 1 132 "creasecourt.places" 264<|f7 "moved_by" 16 358 40 2 137 "creasecourt.places" 264<|bW ["corner"] 367 "edges_round" 17 42 1 142 368 "creasecourt.places" 264<|bW ["line","place"] 374 "number_by" 18 44 2 149 376 "creasecourt.places" 264<|bW ["place","edge","line","ahead"] 382 "hand_of" 19 52 2 156 386 "creasecourt.places" 264<|bW ["place","edge","x","y","line","number"] 392 "mirrored" 20 58 2 163 398 "creasecourt.places" 264<|(tO #[a1m 1 403,a1m 0 404,a1m 0 405,a1m 1 406,a1m 0 407,a1m 0 408])::(bW ["start","right","down"] 413 "laying_by" 23 72 3 171 416 "creasecourt.layings" 401<|bW ["edge"] 422 "mirror_in" 24 74 1 178 423 "creasecourt.layings" 401<|bW ["laying","place","x","y"] 429 "led" 25 76 2 185 433 "creasecourt.layings" 401<|bW ["one","other"] 439 "then" 26 80 2 192 441 "creasecourt.layings" 401<|bW ["laying"] 447 "is_turned" 27 82 1 199 448 "creasecourt.layings" 401<|bW ["value"] 456 "is_size" 29 85 1 206 457 "creasecourt.sheets" 451<|bW ["wide","high"] 463 "check_size" 30 87 2 213 465 "creasecourt.sheets" 451<|bW ["wide","high","place"] 471 "is_within" 31 90 3 220 474 "creasecourt.sheets" 451<|f7 "places_within" 32 477 92 2 227 "creasecourt.sheets" 451<|f7 "quarters_in" 33 483 97 2 232 "creasecourt.sheets" 451<|f7 "edges_in" 34 489 99 2 237 "creasecourt.sheets" 451<|f7 "corners_in" 35 495 101 2 242 "creasecourt.sheets" 451<|f7 "neighbours_in" 36 501 103 3 247 "creasecourt.sheets" 451<|bW ["sheet"] 510 "marks_in" 37 105 1 252 511 "creasecourt.sheets" 451<|f7 "is_good" 39 516 108 1 259 "creasecourt.wedges" 514<|f7 "creases_at" 41 524 115 2 264 "creasecourt.corners" 522<|f7 "gaps_at" 42 530 118 2 269 "creasecourt.corners" 522<|bW ["sheet","corner"] 539 "barred" 43 125 1 274 541 "creasecourt.corners" 522<|bW ["sheet","corner"] 547 "check_corners" 44 130 1 281 549 "creasecourt.corners" 522<|bW ["sheet","marks","first","layings","due","here","edge","other"] 557 "laid" 46 135 1 288 565 "creasecourt.laid" 552<|bW ["piles","heights","pile","height","quarter"] 573 "heights_in" 48 149 1 295 578 "creasecourt.piles" 568<|bW ["heights","one","other"] 584 "is_above" 49 155 3 302 587 "creasecourt.piles" 568 []))
open PySem.W in
noncomputable def lD(P:a2j):List Obj:=(((lC P).set 3<|{cls:=a0C "dict",data:=a3A (a1r<|eO P "__name__" 165 (vS "law_creasecourt_k84_sheets_unfolded" 764)::(lN P).take 74) 75}).set 12<|{cls:=vN,data:=a1c<|a1r<|lM.take 189})++(bW ["layings","edge","sides"] 593 "turned_first" 50 157 2 309 596 "creasecourt.piles" 568<|bW ["heights","layings","edge","sides"] 602 "mark_by_heights" 51 162 3 316 606 "creasecourt.piles" 568<|f7 "marks_by" 52 609 165 3 323 "creasecourt.piles" 568<|bW ["piles","told","place","pile"] 620 "copied_piles" 54 169 1 328 624 "creasecourt.folding" 615<|bW ["layings","edge","side","mirror","told","quarter","laying","goes"] 630 "folded_layings" 55 174 3 335 638 "creasecourt.folding" 615<|bW ["piles","edge","side","over","told","place","pile","goal","coming","there"] 644 "folded_piles" 56 181 4 342 654 "creasecourt.folding" 615<|f7 "check_fold" 57 657 193 2 349 "creasecourt.folding" 615<|bW ["wide","high","layings","told","edge","sides"] 666 "creased_edges" 58 197 3 354 672 "creasecourt.folding" 615<|bW ["wide","high","layings","piles","quarter"] 678 "unfolded" 59 204 2 361 683 "creasecourt.folding" 615<|(tO #[])::(({cls:=a0C "builtin_function_or_method",data:=a1c #[a1G "type.__prepare__",a0C "type"]})::(({cls:=a0C "dict",data:=a3A #[eO P "__module__" 693 (vS "creasecourt.folding" 615),eO P "__qualname__" 695 (vS "Folding" 694),eO P "__firstlineno__" 697 (a1m 211 696),eR P "__init__" 706 381,eR P "fold" 718 389,eR P "back" 725 396,eR P "many" 732 403,eR P "layings" 739 410,eR P "piles" 746 417,eR P "sheet" 752 422,eR P "__static_attributes__" 756 423] 11})::((tO #[])::(({cls:=vN,data:=a1c #[vI 213,vI 4,vR 380,vI 219,vI 4,vR 388,vI 225,vI 4,vR 395,vI 230,vI 4,vR 402,vI 233,vI 4,vR 409,vI 236,vI 4,vR 416,vI 239,vI 4,vR 421]})::((cO #[vS "Folding" 688,vS "Folding" 689,vS "/claim/cut.py" 690,vI 211,vI 0,vI 0,vI 0,vI 0,vR 371,a2b b3,vI 181,vR 372,vN,vN,vN,vN,vI 691,vI 211,vS "/claim/cut.py" 692])::(({cls:=a0C "frame",slots:=#[a7 (vR 373),a7 (vR 3),a7 (vR 370),b0,a7 (vS "creasecourt.folding" 615),b0,a7 (vR 0)]})::((tO #[])::(({cls:=vN,data:=a1c #[]})::((tN ["self","wide","high"] 701)::((tO #[])::(l6 "__init__" "Folding.__init__" 60 0<|nH "__init__" 698 "Folding.__init__" 213 3 375 704<|nI "__init__" "Folding.__init__" 60 0 "creasecourt.folding" 615 380<|(tO #[a2b b5,a2b b5])::((tO #[])::(({cls:=vN,data:=a1c #[]})::((tN ["self","edge","ahead","over","now","side"] 710)::((tO #[])::(l6 "fold" "Folding.fold" 60 1<|nH "fold" 707 "Folding.fold" 219 4 383 716<|(⟨a0C "function",b0,.func<|a2m "fold" "Folding.fold" (f6<|eK 60 1) (eU<|eK 60 1) (cH<|eK 60 1) (vR 382) vN vN (vS "creasecourt.folding" 615) (b0) (vR 388) vN,#[]⟩)::((tO #[])::(({cls:=vN,data:=a1c #[]})::((tN ["self"] 722)::((tO #[])::(l6 "back" "Folding.back" 60 2<|nH "back" 719 "Folding.back" 225 1 390 723<|nI "back" "Folding.back" 60 2 "creasecourt.folding" 615 395<|(tO #[])::(({cls:=vN,data:=a1c #[]})::((tN ["self"] 729)::((tO #[])::(l6 "many" "Folding.many" 60 3<|nH "many" 726 "Folding.many" 230 1 397 730<|nI "many" "Folding.many" 60 3 "creasecourt.folding" 615 402<|(tO #[])::(({cls:=vN,data:=a1c #[]})::((tN ["self"] 736)::((tO #[])::(l6 "layings" "Folding.layings" 60 4<|nH "layings" 733 "Folding.layings" 233 1 404 737<|nI "layings" "Folding.layings" 60 4 "creasecourt.folding" 615 409<|(tO #[])::(({cls:=vN,data:=a1c #[]})::((tN ["self"] 743)::((tO #[])::(l6 "piles" "Folding.piles" 60 5<|nH "piles" 740 "Folding.piles" 236 1 411 744<|nI "piles" "Folding.piles" 60 5 "creasecourt.folding" 615 416<|(tO #[])::(({cls:=vN,data:=a1c #[]})::(l6 "sheet" "Folding.sheet" 60 6<|(cO #[vS "sheet" 747,vS "Folding.sheet" 748,vS "/claim/cut.py" 749,vI 239,vI 1,vI 0,vI 0,vI 3,vR 418,a2b b5,vI 181,vR 419,vN,vN,vN,vR 420,vI 750,vI 239,vS "/claim/cut.py" 751])::(nI "sheet" "Folding.sheet" 60 6 "creasecourt.folding" 615 421<|(tN ["high","states","wide"] 753)::(({cls:=a0C "dict",data:=a3A #[eO P "__module__" 693 (vS "creasecourt.folding" 615),eO P "__firstlineno__" 697 (a1m 211 696),eR P "__init__" 706 381,eR P "fold" 718 389,eR P "back" 725 396,eR P "many" 732 403,eR P "layings" 739 410,eR P "piles" 746 417,eR P "sheet" 752 422,eR P "__static_attributes__" 756 423,eR P "__dict__" 758 426,eR P "__weakref__" 760 427,eO P "__doc__" 761 vN] 4})::(({cls:=a0C "type",data:=a9b {name:=a1T "Folding",bases:=[a0C "object"],mro:=[vR 425,a0C "object"],ns:=424,qualname:=a1T "Folding" },slots:=#[b0,b0,a7 (vS "Folding" 686),a7 (vS "Folding" 694),a7 (a1G "object.__new__"),a7 (a2b b5)]})::(({cls:=a0C "getset_descriptor",data:=a1c #[vS "__dict__" 757,vR 425,a1G "function.__dict__",a1G "function.__dict__#set"]})::(({cls:=a0C "getset_descriptor",data:=a1c #[vS "__weakref__" 759,vR 425,a1G "ExceptionGroup.__weakref__",vN]})::(({cls:=a0C "super",data:=a1c #[vR 425,vR 425,vR 425]})::(({cls:=a0C "builtin_function_or_method",data:=a1c #[a1G "object.__init_subclass__",vR 425]})::(bW ["_law_script","_law_k","_law_number"] 769 "_law_cell" 62 245 2 430 772 "law_creasecourt_k84_sheets_unfolded" 764<|bW ["_law_wide","_law_high","_law_found","_law_x","_law_y"] 778 "_law_quarters" 63 252 2 437 783 "law_creasecourt_k84_sheets_unfolded" 764<|bW ["_law_wide","_law_high","_law_found","_law_x","_law_y"] 789 "_law_inner" 64 259 2 444 794 "law_creasecourt_k84_sheets_unfolded" 764<|bW ["_law_edge","_law_x","_law_y"] 800 "_law_beside" 65 266 1 451 803 "law_creasecourt_k84_sheets_unfolded" 764<|bW ["_law_laying","_law_place","_law_a","_law_b","_law_c","_law_d","_law_e","_law_f"] 809 "_law_led" 66 273 2 458 817 "law_creasecourt_k84_sheets_unfolded" 764<|bW ["_law_laying","_law_line","_law_a","_law_b","_law_c","_law_d","_law_e","_law_f","_law_kind","_law_n"] 823 "_law_over" 67 276 2 465 833 "law_creasecourt_k84_sheets_unfolded" 764<|bW ["_law_place","_law_kind"] 839 "_law_value" 68 286 2 472 841 "law_creasecourt_k84_sheets_unfolded" 764<|bW ["_law_wide","_law_high","_law_layings","_law_piles","_law_quarter"] 847 "_law_begun" 69 288 2 479 852 "law_creasecourt_k84_sheets_unfolded" 764<|f7 "_law_folded" 70 855 295 4 486 "law_creasecourt_k84_sheets_unfolded" 764<|bW ["_law_state","_law_number","_law_far","_law_kind","_law_places","_law_near","_law_n","_law_j","_law_edge"] 864 "_law_plan" 71 315 3 491 873 "law_creasecourt_k84_sheets_unfolded" 764<|bW ["_law_layings","_law_piles","_law_two","_law_one","_law_other","_law_a","_law_b","_law_c","_law_d","_law_e","_law_f","_law_pile"] 879 "_law_mark" 72 327 3 498 891 "law_creasecourt_k84_sheets_unfolded" 764<|bW ["_law_one","_law_state","_law_wide","_law_high","_law_due","_law_edge","_law_mark_here","_law_found"] 897 "_law_right" 73 336 4 505 905 "law_creasecourt_k84_sheets_unfolded" 764<|bW ["_law_one","_law_layings","_law_wide","_law_high","_law_told","_law_first","_law_quarter","_law_right_here","_law_down","_law_place"] 911 "_law_laid_right" 74 344 4 512 921 "law_creasecourt_k84_sheets_unfolded" 764<|bW ["_law_script","_law_wide","_law_high","_law_one","_law_states","_law_k","_law_edge","_law_line","_law_ahead","_law_over_here","_law_after"] 927 "law" 75 353 1 519 938 "law_creasecourt_k84_sheets_unfolded" 764 []))))))))))))))))))))))))))))))))))))))))))))
noncomputable def As:List Addr:=[3,2,22,23,24,25,35,36,37,47,48,49,64,65,66,67,68,71,72,73,74,75,76,77,78,79,80,81,82,83,84,90,91,97,98,104,105,111,112,118,119,125,126,130,131,135,136,140,141,147,148,154,155,161,162,168,169,170,176,177,183,184,190,191,197,198,204,205,211,212,218,219,225,226,230,231,235,236,240,241,245,246,250,251,257,258,262,263,267,268,272,273,279,280,286,287,293,294,300,301,307,308,314,315,321,322,326,327,340,341,347,348,352,353,359,360,366,367,380,381,382,388,389,395,396,402,403,409,410,416,417,421,422,423,424,425,426,427,435,436,442,443,449,450,456,457,463,464,470,471,477,478,484,485,489,490,496,497,503,504,510,511,517,518,524,525]
noncomputable def Kx:a2j → a0c:=λP=>As.map λa=>(a,((lD P)[a]?).getD<|tO #[])
theorem rG:∀P,As=(Kx P).map (·.1):=λ_=>by kernel_rfl
noncomputable def vE:a6h:={scope:=a1E.main.scope,locals:=mainNs,globals:=mainNs,cells:=[],code:=a0n 13,frame:=a7 14}
open PySem.W PyProof.Rows in
set_option maxRecDepth 100000 in
set_option maxHeartbeats 0 in
theorem Nb(w:a1f)(a:a5o):topGo a2W (a1F a0k).prog w 11 (a7<|a0n 6) 12 ⟨a4w w.params,a1r [],a1S,a7W,a⟩ (topStub (a1F a0k).prog)=a7 (⟨⟨a1r<|lA w.params,{}⟩,a1r [],a1S,187,a⟩,⟨denote a2W<|.body (a0U (a1F a0k).prog) vE,(.body (a0U (a1F a0k).prog) vE),⟨0,0,0,0⟩,[a4z ⟨0,0,0,0⟩]⟩):=by kernel_rfl
open PySem.W PyProof.Rows in
set_option maxRecDepth 100000 in
set_option maxHeartbeats 0 in
theorem Nc(w:a1f)(a:a5o):a7T a2W (a1F a0k).prog w 11 (a7<|a0n 6) 1 1 ⟨⟨a1r<|lA w.params,{}⟩,a1r [],a1S,187,a⟩ (blockOf (a0U (a1F a0k).prog) vE (.body (a0U (a1F a0k).prog) vE) ⟨0,0,0,0⟩ [a4z ⟨0,0,0,0⟩])=a7 (.next,⟨⟨a1r<|lA w.params,{}⟩,a1r [],a1S,187,a⟩,(.body (a0U (a1F a0k).prog) vE),⟨0,0,0,0⟩):=by kernel_rfl
open PySem.W PyProof.Rows in
set_option maxRecDepth 100000 in
set_option maxHeartbeats 0 in
theorem Nd w a:a7T a2W (a1F a0k).prog w 11 (a7<|a0n 6) 1 1081 ⟨⟨a1r<|lA w.params,{}⟩,a1r [],a1S,187,a⟩ (a7D ((a0U (a1F a0k).prog).take 11) vE (.body (a0U (a1F a0k).prog) vE) ⟨0,0,0,0⟩ [a4z ⟨0,0,0,0⟩])=a7 (.next,⟨⟨a1r<|lB w.params,{}⟩,a1r [],a1S,323,a⟩,(.body (a0U (a1F a0k).prog) vE),⟨20,0,23,61⟩):=by kernel_rfl
open PySem.W PyProof.Rows in
set_option maxRecDepth 100000 in
set_option maxHeartbeats 0 in
theorem Nf w a:a7T a2W (a1F a0k).prog w 11 (a7<|a0n 6) 1 1001 ⟨⟨a1r<|lB w.params,{}⟩,a1r [],a1S,323,a⟩ (a7D (((a0U (a1F a0k).prog).drop 11).take 39) vE (.body (a0U (a1F a0k).prog) vE) ⟨20,0,23,61⟩ [a4z ⟨0,0,0,0⟩])=a7 (.next,⟨⟨a1r<|lC w.params,{}⟩,a1r [],a1S,590,a⟩,(.body (a0U (a1F a0k).prog) vE),⟨155,0,156,40⟩):=by kernel_rfl
open PySem.W PyProof.Rows in
set_option maxRecDepth 100000 in
set_option maxHeartbeats 0 in
theorem Ng w a:a7T a2W (a1F a0k).prog w 11 (a7<|a0n 6) 1 1202 ⟨⟨a1r<|lC w.params,{}⟩,a1r [],a1S,590,a⟩ (a7D ((((a0U (a1F a0k).prog).drop 11).drop 39).take 26) vE (.body (a0U (a1F a0k).prog) vE) ⟨155,0,156,40⟩ [a4z ⟨0,0,0,0⟩])=a7 (.next,⟨⟨a1r<|lD w.params,{}⟩,a1r [],a1S,941,a⟩,(.body (a0U (a1F a0k).prog) vE),⟨353,0,371,70⟩):=by kernel_rfl
open PySem.W PyProof.Rows in
set_option maxRecDepth 100000 in
set_option maxHeartbeats 0 in
theorem run:LeftO (a1F a0k).prog Vw [] (λs=>xlAt Vw [] s&&recOk (b1d<|a9R<|a1F a0k) s) (Hook.obs<|b2q Kx As rG) (Hook.val<|b2q Kx As rG) 6688:=
 L3.left_cut (hA:=λP=>⟨a1r<|lA P,{}⟩) (hB:=λP=>⟨a1r<|lB P,{}⟩) (hC:=λP=>⟨a1r<|lC P,{}⟩) (hD:=λP=>⟨a1r<|lD P,{}⟩) (n4:=201) (i1:=11) (i2:=39) (i3:=26) (env:=vE) (boot_open (by kernel_rfl) (by kernel_rfl) λ_=>by kernel_rfl) (λw=>by kernel_rfl) Nb Nc Nd Nf Ng (λw a=>by kernel_rfl)<|by kernel_rfl
open PySem.W PyProof.Rows in
set_option maxRecDepth 100000 in
set_option maxHeartbeats 0 in
theorem Nh:a0k.wellSaid=true:=by decide +kernel
end Lw
set_option maxHeartbeats 4000000
namespace L3
open PySem
open PySem.SetTable (Probe Met Slot bits runEnd leap turns insertAt sizeAbove)
namespace Tb
noncomputable def Ni(m:Nat)(p:Probe):Probe:=
 if p.more>0 then{p with j:=p.j+1,more:=p.more-1}else
 {p with j:=(leap m p.i p.perturb).1,more:=runEnd m (leap m p.i p.perturb).1-(leap m p.i p.perturb).1,i:=(leap m p.i p.perturb).1,perturb:=(leap m p.i p.perturb).2}
noncomputable def Nj(m:Nat)(b:Nat):Probe:={j:=b%(m+1),more:=runEnd m (b%(m+1))-b%(m+1),i:=b%(m+1),perturb:=b,dummy:=b0}
noncomputable def yV(m b:Nat):Nat->Probe
 |0=>Nj m b|k+1=>Ni m<|yV m b k
noncomputable def hd(m i q:Nat):Probe:={j:=i,more:=runEnd m i-i,i:=i,perturb:=q,dummy:=b0}
noncomputable def nx(m i:Nat):Nat:=(i*5+1)%(m+1)
noncomputable def Dn(m:Nat):Nat->Nat->Nat
 |0,i=>i|n+1,i=>Dn m n<|nx m i
noncomputable def nJ(m:Nat):Nat->Nat->Nat->Nat
 |0,_,acc=>acc|f+1,i,acc=>nJ m f (nx m i)<|acc ||| (1 <<< i)
noncomputable def Nk(m:Nat):Bool:=nJ m (m+1) 0 0==2^(m+1)-1&&Dn m (m+1) 0==0
noncomputable def Dp(m:Nat)(S:List Nat)(b j:Nat):Prop:=∃k,(yV m b k).j=j/\∀k',k'<k->(yV m b k').j∈S
noncomputable abbrev uL:=Nat×Int×Value
structure Ok(t:b0s)(R:List uL):Prop where
 place:t.place.toList=R.map (·.1)
 dum:t.dummies=#[]
 rise:(R.map (·.1)).Pairwise (·<·)
 le:∀r∈R,r.1<=t.mask
 cov:Nk t.mask=b5
 odd:t.mask%2=1
 room:R.length<=t.mask
 road:∀r∈R,Dp t.mask (R.map (·.1)) (bits r.2.1) r.1
theorem Ok.size(o:Ok t R):t.place.size=R.length:=by have:=congrArg a1n o.place;simpa using this
theorem Ok.getD(o:Ok t R)(a:i<R.length):t.place.getD i 0=(R[i]).1:=by
 have h:t.place.toList[i]?=(R.map (·.1))[i]?:=by rw[o.place]
 have b:i<t.place.size:=by rw[o.size];exact a
 simp[a,b]at h;simp[a7M,b,h]
noncomputable def lv(m:Nat)(a:Array (Option Nat)):List (Nat×Nat):=(a1o<|m+1).filterMap λj=>(a.getD j b0).map (j,·)
structure Ow(m:Nat)(ds:List Int)(ow:Array (Option Nat)):Prop where
 size:ow.size=m+1
 lt:∀j i,ow.getD j b0=a7 i->i<ds.length
 all:∀i,i<ds.length->∃j,ow.getD j b0=a7 i
 inj:∀j j' i,ow.getD j b0=a7 i->ow.getD j' b0=a7 i->j=j'
 road:∀j i,ow.getD j b0=a7 i->Dp m ((lv m ow).map (·.1)) (bits<|ds.getD i 0) j
theorem Ow.nil m:Ow m [] (a7t (m+1) b0):=by
 have e:∀j,(a7t (m+1) (b0:Option Nat)).getD j b0=none:=λj=>by simp[a7M]
 have a:∀{P:Prop}(j i:Nat),(a7t (m+1) (b0:Option Nat)).getD j b0=a7 i->P:=λj i h=>by rw[e]at h;exact nomatch h
 exact⟨by simp,λj i h=>a j i h,λi h=>absurd h<|a5S _,λj b i h _=>a j i h,λj i h=>a j i h⟩
end Tb
end L3
namespace L3
open PySem
open PySem.SetTable (Probe Met Slot bits runEnd leap turns insertAt sizeAbove)
namespace Tb
section
variable{prog:a0R}{w:a1f}{K:Type} [DecidableEq K] {knd:KeyKind prog w K}{A:a1b}{E:Value->a0i->Prop}{s:a0i}
theorem fits_of{es:Array (Int×Value)}(o:Ok t R)(c:es.toList=R.map (·.2)):t.fits es.size=true:=by
 have a:es.size=R.length:=by simpa using congrArg a1n c
 have b:=o.room;unfold SetTable.fits SetTable.fill;rw[o.size,a,o.dum];simp;exact b
end
noncomputable abbrev El:=List Int×Addr
noncomputable def hashT(k:List Int):Int:=reduceHash<|b1y<|k.map hashInt
noncomputable def Nl(p:El):Int×Value:=(hashT p.1,a0n p.2)
noncomputable def Nm(m:Nat):Prop:=m=7\/m=31\/m=127\/m=511
noncomputable def Nn(w:a1f):Bool:=w.params.followText "set-order"
noncomputable def Np(a:Bool)(L:List El)(o:Obj):Prop:=∃es ep t R,o.ExactSet/\o.data=.set es ep t/\es.toList=R.map (·.2)/\Ok t R/\es.toList.Perm (L.map Nl)/\(L.map (·.1)).Nodup/\Nm t.mask/\L.length*5<t.mask*3/\t.plain=b5/\t.led=a
noncomputable def SObj(L:List El)(o:Obj):Prop:=∃a,Np a L o
end Tb
end L3
namespace L3
open PySem
namespace Tb
section
variable{prog:a0R}{w:a1f}{A:a1b}{E:Value->a0i->Prop}{s:a0i}
structure SAt(w:a1f)(h:a1C)(a:Addr)(es:Array (Int×Value))(ep:Nat)(t:b0s)(R:List uL):Prop where
 at_:∃o,h.get? a=a7 o/\o.cls=.type "set"/\o.data=.set es ep t
 he:es.toList=R.map (·.2)
 ok:Ok t R
 pl:t.plain=b5
 led:t.led=!Nn w
end
end Tb
end L3
namespace L3
open PySem L2
inductive D where
 |non|bl (b:Bool)|int (i:Int)|str (x:Str)|tup (xs:List D)|rol (xs:List D)|loc (a:Nat)|ty (n:String)
 deriving Inhabited
inductive C where
 |lst (xs:List D)
 |dK (kvs:List (cA×D))
 |st (ks:List (List Int))
 |dT (kvs:List (List Int×D))
 |dF (kvs:List (List Int×D))
 |ins (x:Str)(fs:List (Str×D))
 deriving Inhabited
noncomputable abbrev Hm:=List C
noncomputable abbrev aG:=List<|Option D
noncomputable abbrev ME:=aG->Hm->Option (D×Hm)
noncomputable abbrev MT:=aG->Hm->Option (Bool×Hm)
noncomputable abbrev MA:=aG->Hm->Option (List D×Hm)
abbrev jk:=Option<|D×Hm
abbrev jx:=List<|List Int×D
abbrev jz:=D×Hm->Prop
inductive Fl where
 |nx|rt (d:D)|bk|ct
noncomputable abbrev MS:=aG->Hm->Option (Fl×aG×Hm)
noncomputable abbrev MF:=List D->Hm->jk
noncomputable def RoL(K:a0c)(H:Hp)(p:Addr)(xs:gw):Prop:=
 (∃o,H p=a7 (.frz o<|.lst xs)) \/
  ∃(o:Obj)(its:Array Value)(n:Nat),K.lookup p=a7 o/\o.cls=.type "list"/\o.dict=b0/\o.data=.seq its n/\its.size<=a0s/\Vals xs its.toList
theorem RoL.sq(h:RoL K H p xs):SqL K H p xs:=by
 rcases h with⟨o,h⟩|h
 .exact .inl<|.inr ⟨o,h⟩
 .exact .inr h
mutual
inductive IsD (K:a0c)(π:Nat->Addr)(n:Nat)(H:Hp):V->D->Prop where
 |non:IsD K π n H .non .non
 |bl (b:Bool):IsD K π n H (.bl b)<|.bl b
 |int (i:Int):IsD K π n H (.int i)<|.int i
 |str (x:Str):IsD K π n H (.str x)<|.str x
 |tup {p:Addr}{vs:gw}{ds:List D}(h:SqT K H p vs)(t:IsDs K π n H vs ds):IsD K π n H (.ref p)<|.tup ds
 |rol {p:Addr}{vs:gw}{ds:List D}(h:RoL K H p vs)(t:IsDs K π n H vs ds):IsD K π n H (.ref p)<|.rol ds
 |loc {a:Nat}(h:a<n):IsD K π n H (.ref<|π a)<|.loc a
 |ty (x:String):IsD K π n H (.ty x)<|.ty x
inductive IsDs (K:a0c)(π:Nat->Addr)(n:Nat)(H:Hp):gw->List D->Prop where
 |nil:IsDs K π n H [] []
 |cons {v:V}{d:D}{vs:gw}{ds:List D}(h:IsD K π n H v d)(t:IsDs K π n H vs ds):IsDs K π n H (v::vs)<|d::ds
end
structure Ext(π:Nat->Addr)(n:Nat)(H:Hp)(π':Nat->Addr)(n':Nat)(H':Hp):Prop where
 le:n<=n'
 pi:∀a,a<n->π' a=π a
 tup:∀p vs,H p=a7 (.tup vs)->H' p=a7 (.tup vs)
 frz:∀p o u,H p=a7 (.frz o u)->H' p=a7 (.frz o u)
structure Ext0(π:Nat->Addr)(n:Nat)(H:Hp)(π':Nat->Addr)(n':Nat)(H':Hp):Prop where
 le:n<=n'
 pi:∀a,a<n->π' a=π a
 tup:∀p vs,H p=a7 (.tup vs)->H' p=a7 (.tup vs)
 frz:∀p o u,(∀φ,u≠HO.ext φ)->H p=a7 (.frz o u)->H' p=a7 (.frz o u)
section
variable{K:a0c}{π π' π2:Nat->Addr}{n n' n2:Nat}{H H' H2:Hp}
theorem Ext.weak(e:Ext π n H π' n' H'):Ext0 π n H π' n' H':=⟨e.le,e.pi,e.tup,λp o u _ h=>e.frz p o u h⟩
theorem Ext.refl:Ext π n H π n H:=⟨a0l _,λ_ _=>rfl,λ_ _ h=>h,λ_ _ _ h=>h⟩
theorem Ext.trans(a:Ext π n H π' n' H')(b:Ext π' n' H' π2 n2 H2):Ext π n H π2 n2 H2:=
 ⟨a1l a.le b.le,λi h=>(b.pi i<|a0V h a.le).trans<|a.pi i h,λp c h=>b.tup p c<|a.tup p c h,λp o u h=>b.frz p o u<|a.frz p o u h⟩
theorem Ext0.sqT(e:Ext0 π n H π' n' H')(h:SqT K H p vs):SqT K H' p vs:=by
 rcases h with h|h
 .rcases h with h|⟨o,h⟩
  .exact .inl<|.inl<|e.tup _ _ h
  .exact .inl<|.inr ⟨o,e.frz _ _ _ (λ_ z=>nomatch z) h⟩
 .exact .inr h
theorem Ext.sqT(e:Ext π n H π' n' H')(h:SqT K H p vs):SqT K H' p vs:=e.weak.sqT h
theorem Ext0.roL(e:Ext0 π n H π' n' H')(h:RoL K H p vs):RoL K H' p vs:=by
 rcases h with⟨o,h⟩|h
 .exact .inl ⟨o,e.frz _ _ _ (λ_ z=>nomatch z) h⟩
 .exact .inr h
theorem Ext.roL(e:Ext π n H π' n' H')(h:RoL K H p vs):RoL K H' p vs:=e.weak.roL h
mutual
theorem IsD.mono0{v:V}{d:D}(e:Ext0 π n H π' n' H'):IsD K π n H v d->IsD K π' n' H' v d
 |.non=>.non|.bl b=>.bl b|.int i=>.int i|.str x=>.str x|.ty x=>.ty x|.tup h t=>.tup (e.sqT h) (IsDs.mono0 e t)|.rol h t=>.rol (e.roL h) (IsDs.mono0 e t)|.loc h=>by rw[<- e.pi _ h];exact .loc<|a0V h e.le
theorem IsDs.mono0{vs:gw}{ds:List D}(e:Ext0 π n H π' n' H'):IsDs K π n H vs ds->IsDs K π' n' H' vs ds
 |.nil=>.nil|.cons h t=>.cons (IsD.mono0 e h)<|IsDs.mono0 e t
end
theorem IsD.mono(e:Ext π n H π' n' H')(h:IsD K π n H v d):IsD K π' n' H' v d:=h.mono0 e.weak
theorem IsDs.mono(e:Ext π n H π' n' H')(h:IsDs K π n H vs ds):IsDs K π' n' H' vs ds:=h.mono0 e.weak
theorem IsDs.length(h:IsDs K π n H vs ds):vs.length=ds.length:=by
 induction ds generalizing vs with
 |nil=>cases h;rfl|cons d ds a=>
  cases h with
  |cons h t=>rw[a0Q,a0Q,a t]
theorem IsDs.get(h:IsDs K π n H vs ds){i:Nat}(e:ds[i]?=a7 d):∃v,vs[i]?=a7 v/\IsD K π n H v d:=by
 induction ds generalizing vs i with
 |nil=>simp at e|cons g ds c=>
  cases h with
  |cons h t=>
   cases i with
   |zero=>simp at e;subst e;exact⟨_,rfl,h⟩|succ i=>obtain⟨v,a,b⟩:=c t (by simpa using e);exact⟨v,by simpa using a,b⟩
theorem IsDs.append(h:IsDs K π n H vs ds)(a:IsDs K π n H ws es):IsDs K π n H (vs++ws) (ds++es):=by
 induction ds generalizing vs with
 |nil=>cases h;exact a|cons d ds b=>
  cases h with
  |cons h t=>exact .cons h<|b t
theorem IsDs.drop(h:IsDs K π n H vs ds)k:IsDs K π n H (vs.drop k) (ds.drop k):=by
 induction ds generalizing vs k with
 |nil=>cases h;simpa using IsDs.nil|cons d ds a=>
  cases h with
  |cons h t=>
   cases k with
   |zero=>exact .cons h t|succ k=>exact a t k
theorem IsDs.take(h:IsDs K π n H vs ds)k:IsDs K π n H (vs.take k) (ds.take k):=by
 induction ds generalizing vs k with
 |nil=>cases h;simpa using IsDs.nil|cons d ds a=>
  cases h with
  |cons h t=>
   cases k with
   |zero=>exact .nil|succ k=>exact .cons h<|a t k
theorem IsDs.atI(h:IsDs K π n H vs ds)(e:L2.atI ds i=a7 d):∃v,L2.atI vs i=a7 v/\IsD K π n H v d:=by
 unfold L2.atI at e ⊢;rw[h.length];cases q:lW ds.length i with
 |none=>rw[q]at e;cases e|some j=>rw[q]at e;exact h.get e
end
noncomputable def uM(p:Addr)(L:List Tb.El):HO:=.ext λh=>∃o,h.get? p=a7 o/\Tb.SObj L o
noncomputable def rH(p:List Int×Addr×V)(w:Value):DictEntry:=⟨Tb.hashT p.1,.ref p.2.1,w⟩
noncomputable def aM(a:Addr)(ps:List (List Int×Addr×V)):HO:=.ext λh=>∃ws:gq,Vals (ps.map (·.2.2)) ws/\(a==a1W)=b3/\ps.length<=a0s /\
 ∃o b c,h.get? a=a7 o/\o.ExactDict/\o.data=.dict b c/\b.toList=a4R rH ps ws/\(ps.map (·.1)).Nodup
noncomputable def InsIs(K:a0c)(π:Nat->Addr)(n:Nat)(H:Hp)(o:HO)(x:Str)(fs:List (Str×D)):Prop:=
 ∃(C a:Addr)(vs:List (Str×V)),o=.ins C a vs/\a3t K a1L x=a7 (a7<|.ref C)/\vs.map (·.1)=fs.map (·.1)/\IsDs K π n H (vs.map (·.2)) (fs.map (·.2))
theorem InsIs.mono0(e:Ext0 π n H a c b)(h:InsIs K π n H o x fs):InsIs K a c b o x fs:=
 let⟨C,d,l,g,i,j,k⟩:=h;⟨C,d,l,g,i,j,k.mono0 e⟩
structure Rp(K:a0c)(π:Nat->Addr)(H:Hp)(μ:Hm):Prop where
 inj:∀a b,a<μ.length->b<μ.length->π a=π b->a=b
 has:∀a,a<μ.length->(H<|π a).isSome=b5
 lst:∀a xs,μ[a]?=a7 (.lst xs)->∃vs,H (π a)=a7 (.lst vs)/\IsDs K π μ.length H vs xs
 dK:∀a kvs,μ[a]?=a7 (.dK kvs)->∃vs,H (π a)=a7 (.dK vs)/\vs.map (·.1)=kvs.map (·.1)/\IsDs K π μ.length H (vs.map (·.2)) (kvs.map (·.2))
 st:∀a ks,μ[a]?=a7 (.st ks)->∃L:List Tb.El,H (π a)=a7 (uM (π a) L)/\L.map (·.1)=ks/\IsDs K π μ.length H (L.map λp=>V.ref p.2) (ks.map λk=>D.tup<|k.map D.int)
 dT:∀a kvs,μ[a]?=a7 (.dT kvs)->∃ps:List (List Int×Addr×V),H (π a)=a7 (aM (π a) ps)/\ps.map (·.1)=kvs.map (·.1)/\IsDs K π μ.length H (ps.map λp=>V.ref p.2.1) (kvs.map λk=>D.tup<|k.1.map D.int)/\IsDs K π μ.length H (ps.map (·.2.2)) (kvs.map (·.2))
 dF:∀a kvs,μ[a]?=a7 (.dF kvs)->∃(ob:Obj)(ps:List (List Int×Addr×V)),H (π a)=a7 (.frz ob<|aM (π a) ps)/\ps.map (·.1)=kvs.map (·.1)/\IsDs K π μ.length H (ps.map λp=>V.ref p.2.1) (kvs.map λk=>D.tup<|k.1.map D.int)/\IsDs K π μ.length H (ps.map (·.2.2)) (kvs.map (·.2))
 ins:∀a x fs,μ[a]?=a7 (.ins x fs)->∃o,H (π a)=a7 o/\InsIs K π μ.length H o x fs
structure En(K:a0c)(π:Nat->Addr)(n:Nat)(H:Hp)(σ:St)(ρ:aG):Prop where
 len:σ.length=ρ.length
 get:∀(i:Nat)(d:D),ρ[i]?=a7 (a7 d)->∃v,σ[i]?=a7 (a7 v)/\IsD K π n H v d
theorem En.mono(E:En K π n H σ ρ)(e:Ext π n H π' n' H'):En K π' n' H' σ ρ:=
 ⟨E.len,λi d h=>let⟨v,a,b⟩:=E.get i d h;⟨v,a,b.mono e⟩⟩
theorem En.set(E:En K π n H σ ρ)(h:IsD K π n H v d)i:En K π n H (σ.set i<|a7 v) (ρ.set i<|a7 d):=by
 refine⟨by rw[a1d,a1d];exact E.len,λj c e=>?_⟩;rw[List.getElem?_set]at e ⊢;by_cases a:i=j
 .subst a;rw[if_pos rfl]at e ⊢;rw[E.len];by_cases b:i<ρ.length
  .rw[if_pos b]at e ⊢;cases e;exact⟨v,rfl,h⟩
  .rw[if_neg b]at e;cases e
 .rw[if_neg a]at e ⊢;exact E.get j c e
theorem Rp.ne(R:Rp K π H μ)(h:H p=b0)(b:a<μ.length):π a≠p:=λe=>by have:=R.has a b;rw[e,h]at this;cases this
theorem Rp.fresh(R:Rp K π H μ)(h:H p=b0):Ext π μ.length H π μ.length (aK H p o)/\Rp K π (aK H p o) μ:=by
 have keep:∀b u,H b=a7 u->aK H p o b=a7 u:=λb u e=>by rw[a9<|eX e h];exact e
 have e:Ext π μ.length H π μ.length (aK H p o):=⟨a0l _,λ_ _=>rfl,λq j e=>keep q _ e,λq o u e=>keep q _ e⟩;refine⟨e,R.inj,λa c=>?_,λa s c=>?_,λa i c=>?_,λa m c=>?_
  ,λa i c=>?_
  ,λa i c=>?_
  ,λa x fs c=>?_
  ⟩
 .rw[a9<|R.ne h c];exact R.has a c
 .obtain⟨j,d,g⟩:=R.lst a s c;exact⟨j,keep _ _ d,g.mono e⟩
 .obtain⟨j,d,g,k⟩:=R.dK a i c;exact⟨j,keep _ _ d,g,k.mono e⟩
 .obtain⟨j,d,g,k⟩:=R.st a m c;exact⟨j,keep _ _ d,g,k.mono e⟩
 .obtain⟨j,d,g,k,l⟩:=R.dT a i c;exact⟨j,keep _ _ d,g,k.mono e,l.mono e⟩
 .obtain⟨r,j,d,g,k,l⟩:=R.dF a i c;exact⟨r,j,keep _ _ d,g,k.mono e,l.mono e⟩
 .obtain⟨o,d,g⟩:=R.ins a x fs c;exact⟨o,keep _ _ d,g.mono0 e.weak⟩
noncomputable def rJ(K:a0c)(π:Nat->Addr)(n:Nat)(H:Hp)(p:Addr):C->HO->Prop
 |.lst xs,.lst vs=>IsDs K π n H vs xs|.dK kvs,.dK vs=>vs.map (·.1)=kvs.map (·.1)/\IsDs K π n H (vs.map (·.2)) (kvs.map (·.2))|.st ks,o=>∃L:List Tb.El,o=uM p L/\L.map (·.1)=ks/\IsDs K π n H (L.map λp=>V.ref p.2) (ks.map λk=>D.tup<|k.map D.int)|.dT kvs,o=>∃ps:List (List Int×Addr×V),o=aM p ps/\ps.map (·.1)=kvs.map (·.1)/\IsDs K π n H (ps.map λp=>V.ref p.2.1) (kvs.map λk=>D.tup<|k.1.map D.int)/\IsDs K π n H (ps.map (·.2.2)) (kvs.map (·.2))|.dF kvs,o=>∃(ob:Obj)(ps:List (List Int×Addr×V)),o=.frz ob (aM p ps)/\ps.map (·.1)=kvs.map (·.1)/\IsDs K π n H (ps.map λp=>V.ref p.2.1) (kvs.map λk=>D.tup<|k.1.map D.int)/\IsDs K π n H (ps.map (·.2.2)) (kvs.map (·.2))|.ins x fs,o=>InsIs K π n H o x fs|_,_=>False
noncomputable def f9(π:Nat->Addr)(n:Nat)(p:Addr):Nat->Addr:=λa=>if a=n then p else π a
theorem Rp.alloc(R:Rp K π H μ)(h:H p=b0)(hc:rJ K π μ.length H p c o):
  Ext π μ.length H (f9 π μ.length p) (μ++[c]).length (aK H p o)/\Rp K (f9 π μ.length p) (aK H p o) (μ++[c])/\f9 π μ.length p μ.length=p:=by
 have B:(μ++[c]).length=μ.length+1:=by simp
 have keep:∀b u,H b=a7 u->aK H p o b=a7 u:=λb u e=>by rw[a9<|eX e h];exact e
 have w:f9 π μ.length p μ.length=p:=if_pos rfl;have r:∀a,a<μ.length->f9 π μ.length p a=π a:=λa d=>if_neg<|a0y d;have e:Ext π μ.length H (f9 π μ.length p) (μ++[c]).length (aK H p o):=⟨by rw[B];exact a3w _,r,λq l e=>keep q _ e,λq o u e=>keep q _ e⟩;have split:∀a,a<(μ++[c]).length->a<μ.length\/a=μ.length:=λa d=>by rw[B]at d;lia
 have get:∀a,a<μ.length->(μ++[c])[a]?=μ[a]?:=λa d=>a0W d;have i:(μ++[c])[μ.length]?=a7 c:=by simp
 refine⟨e,⟨λa b d z q=>?_,λa d=>?_,λa I d=>?_,λa v d=>?_,λa E d=>?_
  ,λa v d=>?_
  ,λa v d=>?_
  ,λa x fs d=>?_
  ⟩,w⟩
 .rcases split a d with d|rfl<;>rcases split b z with z|rfl
  .rw[r a d,r b z]at q;exact R.inj a b d z q
  .rw[r a d,w]at q;exact absurd q<|R.ne h d
  .rw[w,r b z]at q;exact absurd q.symm<|R.ne h z
  .rfl
 .rcases split a d with d|rfl
  .rw[r a d,a9<|R.ne h d];exact R.has a d
  .rw[w,cP];rfl
 .have g:a<(μ++[c]).length:=(a0f.mp d).1;rcases split a g with j|rfl
  .rw[get a j]at d;obtain⟨l,s,k⟩:=R.lst a I d;rw[r a j];exact⟨l,keep _ _ s,k.mono e⟩
  .rw[i]at d;cases d;cases o with
   |lst l=>rw[w];exact⟨l,cP,IsDs.mono e hc⟩|_=>exact a2w hc
 .have g:a<(μ++[c]).length:=(a0f.mp d).1;rcases split a g with j|rfl
  .rw[get a j]at d;obtain⟨l,s,k,m⟩:=R.dK a v d;rw[r a j];exact⟨l,keep _ _ s,k,m.mono e⟩
  .rw[i]at d;cases d;cases o with
   |dK l=>rw[w];exact⟨l,cP,hc.1,IsDs.mono e hc.2⟩|_=>exact a2w hc
 .have g:a<(μ++[c]).length:=(a0f.mp d).1;rcases split a g with j|rfl
  .rw[get a j]at d;obtain⟨l,s,k,m⟩:=R.st a E d;rw[r a j];exact⟨l,keep _ _ s,k,m.mono e⟩
  .rw[i]at d;cases d;obtain⟨L,rfl,k,m⟩:=hc;rw[w];exact⟨L,cP,k,m.mono e⟩
 .have g:a<(μ++[c]).length:=(a0f.mp d).1;rcases split a g with j|rfl
  .rw[get a j]at d;obtain⟨l,s,k,m,y⟩:=R.dT a v d;rw[r a j];exact⟨l,keep _ _ s,k,m.mono e,y.mono e⟩
  .rw[i]at d;cases d;obtain⟨L,rfl,k,m,y⟩:=hc;rw[w];exact⟨L,cP,k,m.mono e,y.mono e⟩
 .have g:a<(μ++[c]).length:=(a0f.mp d).1;rcases split a g with j|rfl
  .rw[get a j]at d;obtain⟨A,l,s,k,m,y⟩:=R.dF a v d;rw[r a j];exact⟨A,l,keep _ _ s,k,m.mono e,y.mono e⟩
  .rw[i]at d;cases d;obtain⟨A,L,rfl,k,m,y⟩:=hc;rw[w];exact⟨A,L,cP,k,m.mono e,y.mono e⟩
 .have g:a<(μ++[c]).length:=(a0f.mp d).1;rcases split a g with j|rfl
  .rw[get a j]at d;obtain⟨G,s,k⟩:=R.ins a x fs d;rw[r a j];exact⟨G,keep _ _ s,k.mono0 e.weak⟩
  .rw[i]at d;cases d;rw[w];exact⟨o,cP,InsIs.mono0 e.weak hc⟩
theorem Rp.putU(R:Rp K π H μ)(G:a<μ.length)(y:H (π a)=a7 u)(A:(∀vs,u≠.tup vs)/\∀ob v,(∀M,v≠HO.ext M)->u≠.frz ob v)(hc:rJ K π μ.length H (π a) c o):
  Ext0 π μ.length H π (μ.set a c).length (aK H (π a) o)/\Rp K π (aK H (π a) o) (μ.set a c):=by
 have m:(μ.set a c).length=μ.length:=a1d ..;have e:Ext0 π μ.length H π (μ.set a c).length (aK H (π a) o):=by
  refine⟨a3V m.symm,λ_ _=>rfl,λq vs z=>?_,λq B N nx z=>?_⟩
  .rw[a9]
   .exact z
   .intro e;subst e;rw[y]at z;exact A.1 _<|a0B z
  .rw[a9]
   .exact z
   .intro e;subst e;rw[y]at z;exact A.2 _ _ nx<|a0B z
 have i:∀b,b<μ.length->b≠a->aK H (π a) o (π b)=H (π b):=λb d w=>a9 λq=>w<|R.inj b a d G q;refine⟨e,⟨λb E d s=>R.inj b E (m▸d)<|m▸s,λb d=>?_,λb J d=>?_,λb p d=>?_,λb I d=>?_
  ,λb p d=>?_
  ,λb p d=>?_
  ,λb x fs d=>?_
  ⟩⟩
 .by_cases h:b=a
  .subst h;rw[cP];rfl
  .rw[i b (m▸d) h];exact R.has b<|m▸d
 .have g:b<μ.length:=m▸(a0f.mp d).1;by_cases h:b=a
  .subst h;rw[a1a g]at d;cases d;cases o with
   |lst vs=>exact⟨vs,cP,IsDs.mono0 e hc⟩|_=>exact a2w hc
  .rw[a0p<|a1j h]at d;obtain⟨vs,l,j⟩:=R.lst b J d;exact⟨vs,by rw[i b g h];exact l,j.mono0 e⟩
 .have g:b<μ.length:=m▸(a0f.mp d).1;by_cases h:b=a
  .subst h;rw[a1a g]at d;cases d;cases o with
   |dK vs=>exact⟨vs,cP,hc.1,IsDs.mono0 e hc.2⟩|_=>exact a2w hc
  .rw[a0p<|a1j h]at d;obtain⟨vs,l,j,k⟩:=R.dK b p d;exact⟨vs,by rw[i b g h];exact l,j,k.mono0 e⟩
 .have g:b<μ.length:=m▸(a0f.mp d).1;by_cases h:b=a
  .subst h;rw[a1a g]at d;cases d;obtain⟨L,rfl,j,k⟩:=hc;exact⟨L,cP,j,k.mono0 e⟩
  .rw[a0p<|a1j h]at d;obtain⟨vs,l,j,k⟩:=R.st b I d;exact⟨vs,by rw[i b g h];exact l,j,k.mono0 e⟩
 .have g:b<μ.length:=m▸(a0f.mp d).1;by_cases h:b=a
  .subst h;rw[a1a g]at d;cases d;obtain⟨L,rfl,j,k,r⟩:=hc;exact⟨L,cP,j,k.mono0 e,r.mono0 e⟩
  .rw[a0p<|a1j h]at d;obtain⟨vs,l,j,k,r⟩:=R.dT b p d;exact⟨vs,by rw[i b g h];exact l,j,k.mono0 e,r.mono0 e⟩
 .have g:b<μ.length:=m▸(a0f.mp d).1;by_cases h:b=a
  .subst h;rw[a1a g]at d;cases d;obtain⟨ob,L,rfl,j,k,r⟩:=hc;exact⟨ob,L,cP,j,k.mono0 e,r.mono0 e⟩
  .rw[a0p<|a1j h]at d;obtain⟨ob,vs,l,j,k,r⟩:=R.dF b p d;exact⟨ob,vs,by rw[i b g h];exact l,j,k.mono0 e,r.mono0 e⟩
 .have g:b<μ.length:=m▸(a0f.mp d).1;by_cases h:b=a
  .subst h;rw[a1a g]at d;cases d;exact⟨o,cP,InsIs.mono0 e hc⟩
  .rw[a0p<|a1j h]at d;obtain⟨B,l,j⟩:=R.ins b x fs d;exact⟨B,by rw[i b g h];exact l,j.mono0 e⟩
theorem Rp.put0(R:Rp K π H μ)(e:a<μ.length)(g:H (π a)=a7 u)(d:(∃vs,u=.lst vs)\/(∃vs,u=.dK vs)\/(∃b,u=.ext b)\/∃ob b,u=.frz ob (.ext b))(hc:rJ K π μ.length H (π a) c o):
  Ext0 π μ.length H π (μ.set a c).length (aK H (π a) o)/\Rp K π (aK H (π a) o) (μ.set a c):=
 R.putU e g ⟨λvs z=>(by rcases d with⟨w,rfl⟩|⟨w,rfl⟩|⟨w,rfl⟩|⟨ob,w,rfl⟩<;>cases z),λob v nx z=>by
  rcases d with⟨w,rfl⟩|⟨w,rfl⟩|⟨w,rfl⟩|⟨ob,w,rfl⟩<;>cases z;exact nx _ rfl⟩ hc
theorem Rp.putE(R:Rp K π H μ)(g:a<μ.length)(d:H (π a)=a7 u)(b:(∀vs,u≠.tup vs)/\∀ob v,u≠.frz ob v)(hc:rJ K π μ.length H (π a) c o):
  Ext π μ.length H π (μ.set a c).length (aK H (π a) o)/\Rp K π (aK H (π a) o) (μ.set a c):=by
 have e:Ext π μ.length H π (μ.set a c).length (aK H (π a) o):=by
  refine⟨a3V (a1d ..).symm,λ_ _=>rfl,λq vs z=>?_,λq h i z=>?_⟩
  .rw[a9]
   .exact z
   .intro e;subst e;rw[d]at z;exact b.1 _<|a0B z
  .rw[a9]
   .exact z
   .intro e;subst e;rw[d]at z;exact b.2 _ _<|a0B z
 exact⟨e,(R.putU g d ⟨b.1,λob v _=>b.2 ob v⟩ hc).2⟩
theorem Rp.put(R:Rp K π H μ)(d:a<μ.length)(e:H (π a)=a7 u)(b:(∃vs,u=.lst vs)\/(∃vs,u=.dK vs)\/∃g,u=.ext g)(hc:rJ K π μ.length H (π a) c o):
  Ext π μ.length H π (μ.set a c).length (aK H (π a) o)/\Rp K π (aK H (π a) o) (μ.set a c):=
 R.putE d e ⟨λvs z=>(by rcases b with⟨w,rfl⟩|⟨w,rfl⟩|⟨w,rfl⟩<;>cases z),λh v z=>by rcases b with⟨w,rfl⟩|⟨w,rfl⟩|⟨w,rfl⟩<;>cases z⟩ hc
noncomputable def KC(K:a0c)(Q:VK)(π:Nat->Addr)(n:Nat)(H:Hp)(d:D)(μ':Hm):Prop:=
 ∀a v b,Ext π n H a μ'.length b->Rp K a b μ'->IsD K a μ'.length b v d->Q v b
theorem KC.after(k:KC K Q π n H d μ')(e:Ext π n H a g c):KC K Q a g c d μ':=
 λb v h j R i=>k b v h (e.trans j) R i
inductive tM (K:a0c)(m:ME)(σ:St)(H:Hp)(Q:VK):Prop
 |mk (π:Nat->Addr)(ρ:aG)(μ:Hm)(d:D)(μ':Hm)(R:Rp K π H μ)(E:En K π μ.length H σ ρ)(hm:m ρ μ=a7 (d,μ'))(k:KC K Q π μ.length H d μ'):tM K m σ H Q
inductive tMT (K:a0c)(m:MT)(σ:St)(H:Hp)(Q:Bool->Hp->Prop):Prop
 |mk (π:Nat->Addr)(ρ:aG)(μ:Hm)(b:Bool)(μ':Hm)(R:Rp K π H μ)(E:En K π μ.length H σ ρ)(hm:m ρ μ=a7 (b,μ'))(k:∀π' H',Ext π μ.length H π' μ'.length H'->Rp K π' H' μ'->Q b H'):tMT K m σ H Q
inductive tMA (K:a0c)(m:MA)(σ:St)(H:Hp)(Q:gw->Hp->Prop):Prop
 |mk (π:Nat->Addr)(ρ:aG)(μ:Hm)(ds:List D)(μ':Hm)(R:Rp K π H μ)(E:En K π μ.length H σ ρ)(hm:m ρ μ=a7 (ds,μ'))(k:∀π' vs H',Ext π μ.length H π' μ'.length H'->Rp K π' H' μ'->IsDs K π' μ'.length H' vs ds->Q vs H'):tMA K m σ H Q
noncomputable def nK(K:a0c)(E:Ends)(π:Nat->Addr)(n:Nat)(H:Hp)(g:Fl)(e:aG)(μ':Hm):Prop:=
 match g with
 |.nx=>∀a b c,Ext π n H a μ'.length c->Rp K a c μ'->En K a μ'.length c b e->E.nx b c|.bk=>∀a b c,Ext π n H a μ'.length c->Rp K a c μ'->En K a μ'.length c b e->E.bk b c|.ct=>∀a b c,Ext π n H a μ'.length c->Rp K a c μ'->En K a μ'.length c b e->E.ct b c|.rt d=>KC K E.rt π n H d μ'
inductive tMS (K:a0c)(m:MS)(E:Ends)(σ:St)(H:Hp):Prop
 |mk (π:Nat->Addr)(ρ:aG)(μ:Hm)(fl:Fl)(ρ':aG)(μ':Hm)(R:Rp K π H μ)(EN:En K π μ.length H σ ρ)(hm:m ρ μ=a7 (fl,ρ',μ'))(k:nK K E π μ.length H fl ρ' μ'):tMS K m E σ H
inductive spI0 (K:a0c)(f:MF)(vs:gw)(H:Hp)(Q:VK):Prop
 |mk (π:Nat->Addr)(ds:List D)(μ:Hm)(d:D)(μ':Hm)(R:Rp K π H μ)(i:IsDs K π μ.length H vs ds)(hm:f ds μ=a7 (d,μ'))(k:KC K Q π μ.length H d μ'):spI0 K f vs H Q
noncomputable def eF(K:a0c)(k:Nat)(f:MF):Sp:=λvs H Q _=>vs.length=k/\spI0 K f vs H Q
theorem cT(h:PE X e t)(hw:∀σ H Q,tM X.K m σ H Q->t σ H Q):PE X e (tM X.K m):=λb2w s σ H Q I q=>h b2w s σ H Q I<|hw σ H Q q
theorem uN(h:PT X e t)(hw:∀σ H Q,tMT X.K m σ H Q->t σ H Q):PT X e (tMT X.K m):=λb2w s σ H Q I q=>h b2w s σ H Q I<|hw σ H Q q
theorem Dq(h:PW X e t)(hw:∀σ H Q,tMT X.K m σ H Q->t σ H Q):PW X e (tMT X.K m):=λd b2w s σ H Q I q=>h d b2w s σ H Q I<|hw σ H Q q
theorem Ds(h:PA X es t)(hw:∀σ H Q,tMA X.K m σ H Q->t σ H Q):PA X es (tMA X.K m):=λp b2w s σ H Q I q=>h p b2w s σ H Q I<|hw σ H Q q
theorem iJ(h:PS X st t)(hw:∀E σ H,tMS X.K m E σ H->t E σ H):PS X st (tMS X.K m):=λb2w s σ H E I q=>h b2w s σ H E I<|hw E σ H q
theorem Dt(h:PSs X st t)(hw:∀E σ H,tMS X.K m E σ H->t E σ H):PSs X st (tMS X.K m):=λb2w s σ H E I q=>h b2w s σ H E I<|hw E σ H q
noncomputable def aA(i:Nat):ME:=λg μ=>match g[i]? with|some (a7 d)=>a7 (d,μ)|_=>b0
noncomputable def mC(d:D):ME:=λ_ μ=>a7 (d,μ)
theorem Nq(h:aA i g μ=a7 (d,μ')):g[i]?=a7 (a7 d)/\μ'=μ:=by
 unfold aA at h;split at h
 .rename_i j e;cases h;exact⟨e,rfl⟩
 .cases h
theorem Nr i(h:PE X (.Name x pos) (xY i)):PE X (.Name x pos) (tM X.K<|aA i):=cT h<|by
 rintro s H Q ⟨p,r,q,d,o,R,E,n,k⟩;obtain⟨g,rfl⟩:=Nq n;obtain⟨v,j,l⟩:=E.get i d g;exact⟨v,j,k p v H .refl R l⟩
theorem o8(h:PE X e (tC v))(hd:∀π n H,IsD X.K π n H v d):PE X e (tM X.K<|mC d):=cT h<|by
 rintro p H Q ⟨π,o,l,j,i,R,E,g,k⟩;cases g;exact k π v H .refl R<|hd _ _ _
theorem Nt:PE X (.Constant (.int i) j pos) (tM X.K<|mC<|.int i):=o8 Kr λ_ _ _=>.int i
theorem Nu:PE X (.Constant (.bool i) j pos) (tM X.K<|mC<|.bl i):=o8 Ks λ_ _ _=>.bl i
theorem Nv:PE X (.Constant (.str i) j pos) (tM X.K<|mC<|.str i):=o8 Ku λ_ _ _=>.str i
theorem Nw:PE X (.Constant .none j pos) (tM X.K<|mC .non):=o8 Kt λ_ _ _=>.non
noncomputable def aC(f:D->D->Hm->jk)(a b:ME):ME:=λd μ=>(a d μ).bind λp=>(b d p.2).bind λq=>f p.1 q.1 q.2
noncomputable def c8(K:a0c)(f:D->D->Hm->jk)(r:R2):Prop:=
 ∀i H g x y d h j k Q,Rp K i H g->IsD K i g.length H j x->IsD K i g.length H k y->f x y g=a7 (d,h)->KC K Q i g.length H d h->r j k H Q
theorem rK(z:c8 K f r):∀σ H Q,tM K (aC f ma mb) σ H Q->rD r (tM K ma) (tM K mb) σ H Q:=by rintro σ H Q ⟨L,q,J,d,j,R,E,g,k⟩;obtain⟨⟨x,h⟩,v,g⟩:=a0a.mp g;obtain⟨⟨y,i⟩,w,g⟩:=a0a.mp g;exact⟨L,q,J,x,h,R,E,v,λl G M o u A=>⟨l,q,h,y,i,u,E.mono o,w,λn I s p R2 B=>z n s i x y d j G I Q R2 (A.mono p) B g<|k.after<|o.trans p⟩⟩
theorem Nx(i:OpR X (a4a op) r)(h:c8 X.K f r)(d:PE X a (tM X.K ma))(g:PE X b (tM X.K mb)):PE X (.BinOp a op b pos) (tM X.K<|aC f ma mb):=
 cT (LC i d g)<|rK h
theorem fA(j:OpR X (a1J op) r)(h:c8 X.K f r)(d:PE X a (tM X.K ma))(g:PE X b (tM X.K mb))(i:a3L op b=b3):PE X (.Compare a [op] [b] pos) (tM X.K<|aC f ma mb):=
 cT (LL j d g i)<|rK h
noncomputable def aS(m:ME):MT:=λd μ=>(m d μ).bind λp=>match p.1 with|.bl b=>a7 (b,p.2)|_=>b0
theorem Du:∀σ H Q,tMT K (aS m) σ H Q->tM K m σ H λx g=>∃k,x=.bl k/\Q k g:=by
 rintro σ H Q ⟨r,s,o,b,p,R,E,d,k⟩;obtain⟨⟨x,q⟩,l,d⟩:=a0a.mp d;cases x with
 |bl c=>cases d;refine⟨r,s,o,_,_,R,E,l,λh v g j i n=>?_⟩;cases n;exact⟨_,rfl,k h g j i⟩|_=>cases d
theorem fD(l:OpR X (a1J op) r)(j:c8 X.K f r)(g:PE X a (tM X.K ma))(i:PE X b (tM X.K mb))(k:a3L op b=b3):PT X (.Compare a [op] [b] pos) (tMT X.K<|aS<|aC f ma mb):=
 uN (LM l g i k) λd H Q h=>rK j d H _<|Du d H Q h
section
variable{X:Cx}{e a b c:Expr}{m ma mb mc:ME}{pos:a1V}{mt mu:MT}{bV:List Expr}
noncomputable def jH(a b:MT):MT:=λd μ=>(a d μ).bind λp=>match p.1 with|true=>b d p.2|false=>a7 (b3,p.2)
noncomputable def iK(a b:MT):MT:=λd μ=>(a d μ).bind λp=>match p.1 with|true=>a7 (b5,p.2)|false=>b d p.2
noncomputable def iL(a:MT):MT:=λd μ=>(a d μ).map λp=>(!p.1,p.2)
theorem Ny(d:PT X a (tMT X.K mt)):PW X (.BoolOp .And [a] pos) (tMT X.K mt):=KH d
theorem Nz(d:PT X a (tMT X.K mt)):PW X (.BoolOp .Or [a] pos) (tMT X.K mt):=KI d
theorem NA(v:PT X a (tMT X.K mt))(w:PW X (.BoolOp .And (b::bV) pos) (tMT X.K mu)):PW X (.BoolOp .And (a::b::bV) pos) (tMT X.K<|jH mt mu):=Dq (KJ v w)<|by
 rintro A H Q ⟨z,p,y,d,l,R,E,i,k⟩;obtain⟨⟨x,g⟩,u,i⟩:=a0a.mp i;refine⟨z,p,y,x,g,R,E,u,λh q j o=>?_⟩;cases x with
 |true=>refine lY ?_;exact⟨h,p,g,d,l,o,E.mono j,i,λn r s R2=>k n r (j.trans s) R2⟩|false=>
  refine lX ?_;cases i;exact k h q j o
theorem NC(v:PT X a (tMT X.K mt))(w:PW X (.BoolOp .Or (b::bV) pos) (tMT X.K mu)):PW X (.BoolOp .Or (a::b::bV) pos) (tMT X.K<|iK mt mu):=Dq (KL v w)<|by
 rintro A H Q ⟨z,p,y,d,l,R,E,i,k⟩;obtain⟨⟨x,g⟩,u,i⟩:=a0a.mp i;refine⟨z,p,y,x,g,R,E,u,λh q j o=>?_⟩;cases x with
 |true=>refine lY ?_;cases i;exact k h q j o|false=>
  refine lX ?_;exact⟨h,p,g,d,l,o,E.mono j,i,λn r s R2=>k n r (j.trans s) R2⟩
theorem ND(p:PT X a (tMT X.K mt)):PT X (.UnaryOp .Not a pos) (tMT X.K<|iL mt):=uN (KN p)<|by
 rintro v H Q ⟨s,u,q,d,r,R,E,g,k⟩;obtain⟨⟨x,h⟩,o,g⟩:=a0g.mp g;cases g;exact⟨s,u,q,x,h,R,E,o,λi j n l=>k i j n l⟩
noncomputable def gA(a b:ME):ME:=λd μ=>(a d μ).bind λp=>match p.1 with|.bl b5=>b d p.2|.bl b3=>a7 (.bl b3,p.2)|_=>b0
noncomputable def yW(a b:ME):ME:=λd μ=>(a d μ).bind λp=>match p.1 with|.bl b5=>a7 (.bl b5,p.2)|.bl b3=>b d p.2|_=>b0
noncomputable def o9(a:ME):ME:=λd μ=>(a d μ).bind λp=>match p.1 with|.bl b=>a7 (.bl<|!b,p.2)|_=>b0
theorem NF(h:PE X a (tM X.K m)):PE X (.BoolOp op [a] pos) (tM X.K m):=KR h
theorem NG(r:PE X a (tM X.K ma))(s:PE X (.BoolOp .And (b::bV) pos) (tM X.K mb)):PE X (.BoolOp .And (a::b::bV) pos) (tM X.K<|gA ma mb):=cT (KS r s)<|by
 rintro z H Q ⟨w,o,v,d,l,R,E,g,k⟩;obtain⟨⟨x,h⟩,q,g⟩:=a0a.mp g;cases x with
 |bl c=>
  refine⟨w,o,v,.bl c,h,R,E,q,λi y p j n u=>?_⟩;cases u;refine⟨c,rfl,?_⟩;cases c with
  |true=>refine lY ?_;exact⟨i,o,h,d,l,n,E.mono j,g,k.after j⟩|false=>refine lX ?_;cases g;exact k i _ p j n<|.bl b3
 |_=>cases g
theorem NH(r:PE X a (tM X.K ma))(s:PE X (.BoolOp .Or (b::bV) pos) (tM X.K mb)):PE X (.BoolOp .Or (a::b::bV) pos) (tM X.K<|yW ma mb):=cT (KU r s)<|by
 rintro z H Q ⟨w,o,v,d,l,R,E,g,k⟩;obtain⟨⟨x,h⟩,q,g⟩:=a0a.mp g;cases x with
 |bl c=>
  refine⟨w,o,v,.bl c,h,R,E,q,λi y p j n u=>?_⟩;cases u;refine⟨c,rfl,?_⟩;cases c with
  |true=>refine lY ?_;cases g;exact k i _ p j n (.bl b5)|false=>refine lX ?_;exact⟨i,o,h,d,l,n,E.mono j,g,k.after j⟩
 |_=>cases g
theorem NI(o:PE X a (tM X.K ma)):PE X (.UnaryOp .Not a pos) (tM X.K<|o9 ma):=cT (KW o)<|by
 rintro y H Q ⟨u,v,q,d,r,R,E,g,k⟩;obtain⟨⟨x,s⟩,n,g⟩:=a0a.mp g;cases x with
 |bl c=>cases g;refine⟨u,v,q,_,_,R,E,n,λh w i l j p=>?_⟩;cases p;exact⟨_,rfl,k h _ i l j<|.bl _⟩
 |_=>cases g
noncomputable def fK(t:MT)(a b:ME):ME:=λd μ=>(t d μ).bind λp=>match p.1 with|true=>a d p.2|false=>b d p.2
theorem NJ(hc:PT X c (tMT X.K mt))(q:PE X a (tM X.K ma))(r:PE X b (tM X.K mb)):PE X (.IfExp c a b pos) (tM X.K<|fK mt ma mb):=cT (KZ hc q r)<|by
 rintro w H Q ⟨u,n,s,d,h,R,E,l,k⟩;obtain⟨⟨x,g⟩,p,l⟩:=a0a.mp l;refine⟨u,n,s,x,g,R,E,p,λi v j o=>?_⟩;cases x with
 |true=>refine lY ?_;exact⟨i,n,g,d,h,o,E.mono j,l,k.after j⟩|false=>
  refine lX ?_;exact⟨i,n,g,d,h,o,E.mono j,l,k.after j⟩
noncomputable def aD:MA:=λ_ μ=>a7 ([],μ)
noncomputable def aB(a:ME)(r:MA):MA:=λd μ=>(a d μ).bind λp=>(r d p.2).bind λq=>a7 (p.1::q.1,q.2)
variable{es:List Expr}{ms:MA}
theorem NK:PA X [] (tMA X.K aD):=Ds CQ<|by
 rintro n H Q ⟨i,l,j,d,h,R,E,g,k⟩;cases g;exact k i [] H .refl R .nil
theorem NL(v:PE X e (tM X.K m))(w:PA X es (tMA X.K ms))(y:a0T (e::es) X.env=(b3,eval e X.env)::a0T es X.env:=by rfl):PA X (e::es) (tMA X.K<|aB m ms):=Ds (CS v w y)<|by
 rintro N H Q ⟨J,p,G,d,I,R,E,g,k⟩;obtain⟨⟨x,h⟩,s,g⟩:=a0a.mp g;obtain⟨⟨B,i⟩,u,g⟩:=a0a.mp g;cases g;exact⟨J,p,G,x,h,R,E,s,λj L K n r z=>⟨j,p,h,B,i,r,E.mono n,u,λl M q o R2 A=>k l _ q (n.trans o) R2<|.cons (z.mono o) A⟩⟩
noncomputable def aX(ms:MA):ME:=λd μ=>(ms d μ).bind λp=>if p.1.length<=a0s then a7 (.tup p.1,p.2)else b0
noncomputable def cQ(ms:MA):ME:=λd μ=>(ms d μ).bind λp=>if p.1.length<=a0s then a7 (.loc p.2.length,p.2++[.lst p.1])else b0
theorem NM(h:PA X es (tMA X.K ms)):PE X (.Tuple es v pos) (tM X.K<|aX ms):=cT (Me h)<|by
 rintro I H Q ⟨z,A,w,d,x,R,E,g,k⟩;obtain⟨⟨G,y⟩,q,g⟩:=a0a.mp g;split at g
 .rename_i r;cases g;refine⟨z,A,w,_,_,R,E,q,λi u B o n l=>⟨by rw[l.length];exact r,λp s=>?_⟩⟩;obtain⟨j,R2⟩:=n.fresh (o:=.tup u) s;exact k i _ _ (o.trans j) R2<|.tup (.of cP)<|l.mono j
 .cases g
theorem NN(h:PA X es (tMA X.K ms)):PE X (.List es pos) (tM X.K<|cQ ms):=cT (Mf h)<|by
 rintro J H Q ⟨G,I,A,d,B,R,E,i,k⟩;obtain⟨⟨l,g⟩,w,i⟩:=a0a.mp i;split at i
 .rename_i x;cases i;refine⟨G,I,A,l,g,R,E,w,λj n o u s r=>⟨by rw[r.length];exact x,λp y=>?_⟩⟩;obtain⟨v,R2,q⟩:=s.alloc (c:=.lst l) (o:=.lst n) y r;have z:IsD X.K (f9 j g.length p) (g++[C.lst l]).length (aK o p<|.lst n) (.ref p) (.loc g.length):=by have:=IsD.loc (K:=X.K) (π:=f9 j g.length p) (n:=(g++[C.lst l]).length) (H:=aK o p (.lst n)) (a:=g.length) (by simp);rw[q]at this;exact this
  exact k _ _ _ (u.trans v) R2 z
 .cases i
noncomputable def aF(f:MF)(ms:MA):ME:=λd μ=>(ms d μ).bind λp=>f p.1 p.2
theorem NO(u:∀h μ ds μ',ms h μ=a7 (ds,μ')->ds.length=n):∀σ H Q,tM K (aF f ms) σ H Q->yN (eF K n f) [] E (tMA K ms) σ H Q:=by rintro σ H Q ⟨w,h,μ,d,μ',R,E,i,k⟩;obtain⟨⟨j,g⟩,o,i⟩:=a0a.mp i;refine⟨w,h,μ,j,g,R,E,o,λl v q s r p=>?_⟩;show eF K n f (v++[]) q Q _;rw[a1O];exact⟨by rw[p.length];exact u h μ j g o,l,j,g,d,μ',r,p,i,k.after s⟩
theorem Dv:∀d μ ds μ',aD d μ=a7 (ds,μ')->ds.length=0:=by intro d μ ds μ' h;cases h;rfl
theorem NP(h:∀g μ ds μ',ms g μ=a7 (ds,μ')->ds.length=n):∀g μ ds μ',aB m ms g μ=a7 (ds,μ')->ds.length=n+1:=by intro g μ ds μ' d;obtain⟨⟨x,i⟩,o,d⟩:=a0a.mp d;obtain⟨⟨k,l⟩,j,d⟩:=a0a.mp d;cases d;rw[a0Q,h g i k _ j]
theorem NQ(F:FnOk X.prog X.w X.K X.mg X.base eE k f i ps (eF X.K n j))(w:Room k X.A)(r:Gl X x)(u:X.mg x=a7 (.ref f))(s:a2l X.K (.ref f)=b5)(o:Binds X.K i ps [])(l:PA X (e::es) (tMA X.K ms))(v:∀z y ds h,ms z y=a7 (ds,h)->ds.length=n)(d:(x==("__debug__":Str))=false:=by decide)(q:a0T (e::es) X.env=(b3,eval e X.env)::a0T es X.env:=by rfl)(g:(a2F pos<|a0T es X.env).any (·.1)=false:=by rfl):
  PE X (.Call (.Name x p) (e::es) [] pos) (tM X.K<|aF j ms):=
 cT (Mg F w r u s o .nil (E:=E0) rF l d q g)<|NO v
noncomputable def dJ(K:a0c)(f:MF)(r:gw->Hp->VK->Prop):Prop:=
 ∀i H h k d g j Q,Rp K i H h->IsDs K i h.length H j k->f k h=a7 (d,g)->KC K Q i h.length H d g->r j H Q
theorem yX(s:dJ K f r):∀σ H Q,tM K (aF f ms) σ H Q->uH r (tMA K ms) σ H Q:=by rintro σ H Q ⟨x,y,w,d,i,R,E,h,k⟩;obtain⟨⟨l,g⟩,q,h⟩:=a0a.mp h;exact⟨x,y,w,l,g,R,E,q,λj v n p o u=>s j n g l d i v Q o u h<|k.after p⟩
theorem NR{id:String}(hc:CallR X (.builtin id) r)(j:dJ X.K f r)(k:Gl X x)(l:X.mg x=b0)(o:a2q x=a7 (.builtin id))(h:PA X (e::es) (tMA X.K ms))(n:x ≠ "__name__":=by decide)(d:(x==("__debug__":Str))=false:=by decide)(i:a0T (e::es) X.env=(b3,eval e X.env)::a0T es X.env:=by rfl)(g:(a2F pos<|a0T es X.env).any (·.1)=false:=by rfl):PE X (.Call (.Name x p) (e::es) [] pos) (tM X.K<|aF f ms):=
 cT (Mr hc k l o h n d i g)<|yX j
theorem NS(hc:CallR X (.type T) r)(j:dJ X.K f r)(k:Gl X x)(l:X.mg x=b0)(o:a2q x=a7 (.type T))(h:PA X (e::es) (tMA X.K ms))(n:x ≠ "__name__":=by decide)(d:(x==("__debug__":Str))=false:=by decide)(i:a0T (e::es) X.env=(b3,eval e X.env)::a0T es X.env:=by rfl)(g:(a2F pos<|a0T es X.env).any (·.1)=false:=by rfl):PE X (.Call (.Name x p) (e::es) [] pos) (tM X.K<|aF f ms):=
 cT (Ms hc k l o h n d i g)<|yX j
noncomputable def bF(μ:Hm):D->Option (List D)
 |.tup xs=>a7 xs|.rol xs=>a7 xs|.loc a=>match μ[a]? with|some (.lst xs)=>a7 xs|_=>b0
 |_=>b0
noncomputable def gY:D->D->Hm->jk
 |.str z,.int i,μ=>if z.length<=a0s then(atI z.cps.toList i).map λc=>(.str ⟨#[c]⟩,μ)else b0|x,.int i,μ=>(bF μ x).bind λg=>(atI g i).map λd=>(d,μ)|_,_,_=>b0
theorem NT:c8 K gY (C6 K):=by
 intro p H N x y d G L M Q R r B g k;cases B with
 |int i=>
  cases r with
  |str z=>
   simp only[gY]at g;split at g
   .rename_i w;obtain⟨c,j,l⟩:=a0g.mp g;cases l;exact .inr<|.inr ⟨z,i,c,rfl,rfl,w,j,k p _ H .refl R<|.str _⟩
   .cases g
  |tup h t=>simp only[gY,bF,a0G]at g;obtain⟨q,j,l⟩:=a0g.mp g;cases l;obtain⟨v,n,o⟩:=t.atI j;exact .inr (.inl ⟨_,_,i,v,rfl,rfl,h,n,k p _ H .refl R o⟩)|rol h t=>simp only[gY,bF,a0G]at g;obtain⟨q,j,l⟩:=a0g.mp g;cases l;obtain⟨v,n,o⟩:=t.atI j;exact .inl ⟨_,_,i,v,rfl,rfl,h.sq,n,k p _ H .refl R o⟩|@loc a I=>
   simp only[gY,bF]at g;split at g
   .rename_i E A;simp only[a0G]at g;obtain⟨q,j,l⟩:=a0g.mp g;cases l;obtain⟨J,s,u⟩:=R.lst a E A;obtain⟨v,n,o⟩:=u.atI j;exact .inl ⟨_,_,i,v,rfl,rfl,.of s,n,k p _ H .refl R o⟩
   .cases g
  |_=>simp[gY,bF]at g
 |_=>cases r<;>simp[gY]at g
theorem NU(d:PE X a (tM X.K ma))(g:PE X b (tM X.K mb))(h:yS b):PE X (.Subscript a b pos) (tM X.K<|aC gY ma mb):=cT (MQ MU d g h)<|rK NT
noncomputable def kE(xs:List D)(lo d:Option Int):List D:=(xs.drop<|HT.sIx xs.length 0 lo).take<|HT.sIx xs.length xs.length d-HT.sIx xs.length 0 lo
noncomputable abbrev MO:=aG->Hm->Option (Option Int×Hm)
noncomputable def gZ:MO:=λ_ μ=>a7 (b0,μ)
noncomputable def iM(m:ME):MO:=λd μ=>(m d μ).bind λp=>match p.1 with|.int i=>a7 (a7 i,p.2)|_=>b0
inductive tMO (K:a0c)(m:MO)(σ:St)(H:Hp)(Q:Option Int->Hp->Prop):Prop
 |mk (π:Nat->Addr)(ρ:aG)(μ:Hm)(o:Option Int)(μ':Hm)(R:Rp K π H μ)(E:En K π μ.length H σ ρ)(hm:m ρ μ=a7 (o,μ'))(k:∀π' H',Ext π μ.length H π' μ'.length H'->Rp K π' H' μ'->Q o H'):tMO K m σ H Q
theorem NV:PO X b0 (tMO X.K gZ):=λb2w s σ H Q I q=>MJ b2w s σ H Q I<|by
 obtain⟨h,j,i,o,g,R,E,d,k⟩:=q;cases d;exact k h H .refl R
theorem NW(h:PE X e (tM X.K m)):PO X (a7 e) (tMO X.K<|iM m):=λb2w s σ H Q I q=>MK h b2w s σ H Q I<|by
 obtain⟨y,z,u,o,v,R,E,d,k⟩:=q;obtain⟨⟨x,w⟩,p,d⟩:=a0a.mp d;cases x with
 |int i=>cases d;refine⟨y,z,u,_,_,R,E,p,λg A j n l r=>?_⟩;cases r;exact⟨_,rfl,k g j n l⟩
 |_=>cases d
noncomputable abbrev Dw(K:a0c):V->Option Int->Option Int->Hp->VK->Prop:=yT K
theorem NX:yQ X (Dw X.K):=MX
theorem Dx(h:yT K x lo d H Q):Dw K x lo d H Q:=h
noncomputable def nM(a:ME)(lo g:MO):ME:=λd μ=>(a d μ).bind λp=>(lo d p.2).bind λq=>(g d q.2).bind λr=>
 match p.1 with
 |.tup _=>b0|x=>(bF r.2 x).bind λh=>a7 (.loc r.2.length,r.2++[.lst<|kE h q.1 r.1])
theorem Dy(h:IsDs K π n H vs ds)lo d:IsDs K π n H (lV vs lo d) (kE ds lo d):=by unfold lV kE;rw[h.length];exact(h.drop _).take _
theorem gC{μ:Hm}{c:C}:IsD K (f9 π μ.length p) (μ++[c]).length H (.ref p) (.loc μ.length):=by have:=IsD.loc (K:=K) (π:=f9 π μ.length p) (n:=(μ++[c]).length) (H:=H) (a:=μ.length) (by simp);rw[show f9 π μ.length p μ.length=p from if_pos rfl]at this;exact this
theorem NY(ha:PE X a (tM X.K ma))(hl:PO X lo (tMO X.K L))(hu:PO X J (tMO X.K K)):PE X (.Subscript a (.Slice lo J b0 p2) pos) (tM X.K<|nM ma L K):=cT (MM NX ha hl hu)<|by
 rintro σ H Q ⟨π,I,μ,d,μ',R,E,g,k⟩;obtain⟨⟨x,j⟩,O,g⟩:=a0a.mp g;obtain⟨⟨l,n⟩,T,g⟩:=a0a.mp g;obtain⟨⟨u,A⟩,U,g⟩:=a0a.mp g;refine⟨π,I,μ,x,j,R,E,O,λB v1 H1 o N i1=>⟨B,I,j,l,n,N,E.mono o,T,λG H2 r R2=>⟨G,I,n,u,A,R2,(E.mono o).mono r,U,λπ3 H3 w s=>?_⟩⟩⟩;have i3:=(i1.mono r).mono w;cases i3 with
 |rol h t=>simp only[bF,a0G]at g;cases g;refine Dx ⟨_,_,rfl,h.sq,λp z=>?_⟩;obtain⟨y,v,q⟩:=s.alloc (c:=.lst (kE _ l u)) (o:=.lst (lV _ l u)) z<|Dy t l u;exact k _ _ _ (((o.trans r).trans w).trans y) v gC|@loc i hi'=>
  simp only[bF]at g;split at g
  .rename_i M hx;simp only[a0G]at g;cases g;obtain⟨vs,Y,Z⟩:=s.lst i M hx;refine Dx ⟨_,_,rfl,.of Y,λp z=>?_⟩;obtain⟨y,v,q⟩:=s.alloc (c:=.lst (kE M l u)) (o:=.lst (lV vs l u)) z<|Dy Z l u;exact k _ _ _ (((o.trans r).trans w).trans y) v gC
  .cases g
 |tup h t=>simp at g
 |_=>simp[bF]at g
end
noncomputable def bA:MS:=λd μ=>a7 (.nx,d,μ)
noncomputable def aH(a b:MS):MS:=λd μ=>(a d μ).bind λp=>match p.1 with|.nx=>b p.2.1 p.2.2|_=>a7 p
noncomputable def aQ(m:ME):MS:=λd μ=>(m d μ).map λp=>(.rt p.1,d,p.2)
noncomputable def cY(m:ME):MS:=λd μ=>(m d μ).map λp=>(.nx,d,p.2)
noncomputable def aZ(t:MT)(a b:MS):MS:=λd μ=>(t d μ).bind λp=>match p.1 with|true=>a d p.2|false=>b d p.2
noncomputable def aR(i:Nat)(m:ME):MS:=λd μ=>(m d μ).map λp=>(.nx,d.set i<|a7 p.1,p.2)
theorem NZ:PSs X [] (tMS X.K bA):=Dt K2<|by
 rintro E l H ⟨i,p,o,n,j,h,R,d,g,k⟩;cases g;exact k i l H .refl R d
theorem N0{bV:List Stmt}(h1:PS X st (tMS X.K ms))(A:PSs X bV (tMS X.K mr)):PSs X (st::bV) (tMS X.K<|aH ms mr):=Dt (K3 h1 A)<|by
 rintro E L H ⟨G,I,B,w,u,r,R,y,i,k⟩;obtain⟨⟨v,p,o⟩,h1,i⟩:=a0a.mp i;refine⟨G,I,B,v,p,o,R,y,h1,?_⟩;cases v with
 |nx=>
  intro s J K q z x;refine⟨s,p,o,w,u,r,z,x,i,?_⟩;cases w with
  |nx=>exact λg h l n R2 j=>k g h l (q.trans n) R2 j|bk=>exact λg h l n R2 j=>k g h l (q.trans n) R2 j|ct=>exact λg h l n R2 j=>k g h l (q.trans n) R2 j|rt d=>exact KC.after k q
 |rt d=>cases i;exact k|bk=>cases i;exact k
 |ct=>cases i;exact k
theorem N1(h1:PS X st (tMS X.K ms)):PSs X [st] (tMS X.K ms):=K5 h1
theorem N2:PS X (.Pass pos) (tMS X.K bA):=iJ K6<|by
 rintro E l H ⟨i,p,o,n,j,h,R,d,g,k⟩;cases g;exact k i l H .refl R d
theorem N3(j:PE X e (tM X.K m)):PS X (.Return (a7 e) pos) (tMS X.K<|aQ m):=iJ (Lb j)<|by
 rintro E s H ⟨o,p,l,r,q,n,R,h,d,k⟩;obtain⟨⟨x,g⟩,i,d⟩:=a0g.mp d;cases d;exact⟨o,p,l,x,g,R,h,i,k⟩
theorem N4(p:PE X e (tM X.K m))(q:a4M e b0 pos.line X.env=pure false:=by rfl):PS X (.Expr e pos) (tMS X.K<|cY m):=iJ (K9 p q)<|by
 rintro E y H ⟨u,v,r,z,w,s,R,i,d,k⟩;obtain⟨⟨x,g⟩,o,d⟩:=a0g.mp d;cases d;exact⟨u,v,r,x,g,R,i,o,λh B l j n A=>k h y l j n<|i.mono j⟩
theorem N5{mt:MT}(hc:PT X c (tMT X.K mt))(G:PSs X body (tMS X.K ms))(I:PSs X orelse (tMS X.K mu)):PS X (.If c body orelse pos) (tMS X.K<|aZ mt ms mu):=iJ (Lf hc G I)<|by
 rintro E L H ⟨K,w,J,s,n,j,R,v,u,k⟩;obtain⟨⟨x,i⟩,B,u⟩:=a0a.mp u;refine⟨K,w,J,x,i,R,v,B,λl A o y=>?_⟩;have z:nK X.K E l i.length A s n j:=by
  cases s with
  |nx=>exact λg h q r R2 p=>k g h q (o.trans r) R2 p|bk=>exact λg h q r R2 p=>k g h q (o.trans r) R2 p|ct=>exact λg h q r R2 p=>k g h q (o.trans r) R2 p|rt d=>exact KC.after k o
 cases x with
 |true=>refine lY ?_;exact⟨l,w,i,s,n,j,y,v.mono o,u,z⟩|false=>
  refine lX ?_;exact⟨l,w,i,s,n,j,y,v.mono o,u,z⟩
theorem Dz(r:X.N.Nodup)(v:X.N[i]?=a7 x)(y:Loc X.env.scope x)(s:PE X e (tM X.K m))(w:a4M e (a7<|.Name x d) pos.line X.env=pure false:=by rfl)(u:X.fn x=b5\/X.env.scope.names.lookup x=a7 .local:=by first|exact .inl rfl|exact .inr rfl|assumption):PS X (.Assign [.Name x d] e pos) (tMS X.K<|aR i m):=iJ (Lj r v y s w u)<|by
 rintro E M H ⟨G,I,A,K,J,B,R,l,g,k⟩;obtain⟨⟨x,h⟩,q,g⟩:=a0g.mp g;cases g;exact⟨G,I,A,x,h,R,l,q,λj L o n p z=>k j _ o n p<|(l.mono n).set z i⟩
noncomputable def uO(n:Nat)(ds:List D):aG:=ds.map a7++a3b (n-ds.length) b0
noncomputable def yY(n:Nat)(m:MS):MF:=λds μ=>(m (uO n ds) μ).bind λp=>match p.1 with|.rt d=>a7 (d,p.2.2)|.nx=>a7 (.non,p.2.2)|_=>b0
theorem N6(h:IsDs K π n H vs ds)(m:vs.length<=N.length):En K π n H (L2.start N vs) (uO N.length ds):=by
 have a:=h.length;refine⟨by simp[L2.start,uO,a],λi d e=>?_⟩;unfold uO at e;unfold L2.start;by_cases b:i<ds.length
 .rw[a0W<|by simpa using b,a0v]at e;obtain⟨l,c,g⟩:=a0g.mp e;cases g;obtain⟨v,j,k⟩:=h.get c;exact⟨v,by rw[a0W<|by rw[a0d,a];exact b,a0v,j];rfl,k⟩
 .rw[a1I<|by simpa using a4j.mp b]at e;have:=a3s (n:=N.length-ds.length) (a:=(b0:Option D)) (i:=i-(ds.map a7).length);rw[this]at e;split at e<;>simp at e
theorem N7(F:Fun K x a st f o)(S:FnScope N ps (cH st))(g:ps.length<=N.length)(c:∀b A outer s H E,Room k (A.deeper<|a7I a (cH st) s.heap.objs.size f b)->
   PSs (kW eE P w K mg base N a (cH st) f b A outer s H E).nox (eU st) (tMS K m)):FnOk P w K mg base eE (k+1) f o ps (eF K ps.length<|yY N.length m):=by
 refine F.ok S (λG H Q E h=>h.1) λb A outer s H G Q E z h=>⟨_,c b A outer s H E z,?_⟩;obtain⟨B,L,ds,I,d,J,R,i,e,q⟩:=h;obtain⟨⟨p,n,j⟩,y,e⟩:=a0a.mp e;refine⟨L,_,I,p,n,j,R,N6 i<|by rw[B];exact g,y,?_⟩;cases p with
 |rt T=>cases e;exact q|nx=>cases e;exact λl M r v u O=>q l .non r v u .non|bk=>cases e|ct=>cases e
open SeqAt (EqAt RcAt RcNeAt)
inductive KD where
 |non|bl (b:Bool)|int (i:Int)|str (x:Str)|tup (n:Nat)|lst (n:Nat)
inductive IsK (s:a0i):Value->KD->Prop where
 |non:IsK s .none .non
 |bl (b:Bool):IsK s (.bool b)<|.bl b
 |int (i:Int)(t:b2s):IsK s (.int i t)<|.int i
 |str (x:Str)(t:b2s):IsK s (.str x t)<|.str x
 |tup {l:Addr}{its:gq}(h:s.heap.IsTuple l its.toArray):IsK s (.ref l)<|.tup its.length
 |lst {l:Addr}{its:gq}(h:s.heap.IsList l its.toArray):IsK s (.ref l)<|.lst its.length
noncomputable def uP(e:Nat->Bool):KD->KD->Bool
 |.non,.non=>b5|.bl a,.bl b=>a==b|.bl a,.int b=>(if a then 1 else 0)==b|.int a,.bl b=>a==(if b then 1 else 0)|.int a,.int b=>a==b|.str a,.str b=>a==b|.tup n,.tup k=>(a1o<|min n k).all e&&n==k|.lst n,.lst k=>(a1o<|min n k).all e&&n==k|_,_=>b3
noncomputable def uQ(A:a1b)(s:a0i)(u v:Value)(e:Nat->Bool):Prop:=
 (∀l b c a,u=.ref l->v=.ref b->s.heap.IsTuple l c->s.heap.IsTuple b a->∀j (h1:j<c.size)(d:j<a.size),EqAt A.in1 s c[j] a[j] (e j)) /\
 (∀l b c a,u=.ref l->v=.ref b->s.heap.IsList l c->s.heap.IsList b a->∀j (h1:j<c.size)(d:j<a.size),EqAt A.in1 s c[j] a[j] (e j))
theorem DA e(h:n=k):((a1o<|min n k).all e&&n==k)=(a1o n).all e:=by subst h;simp
theorem DB e(h:n≠k):((a1o<|min n k).all e&&n==k)=false:=by simp[h]
theorem yZ(h:IsK s u k)(h':IsK s v k')(c:A.units<a2e)(o:uQ A s u v e):RcAt A s u v (uP e k k'):=by
 cases h with
 |non=>
  cases h' with
  |non=>exact RcAt.none_none|bl b=>exact RcAt.none_bool b|int i t=>exact RcAt.none_int i t|str x t=>exact RcAt.none_str x t|tup h=>exact RcAt.none_tuple h c|lst h=>exact RcAt.none_list h c
 |bl a=>
  cases h' with
  |non=>exact RcAt.bool_none a|bl b=>exact RcAt.bool_bool a b|int i t=>exact RcAt.bool_int a i t|str x t=>exact RcAt.bool_str a x t|tup h=>exact RcAt.bool_tuple a h c|lst h=>exact RcAt.bool_list a h c
 |int a j=>
  cases h' with
  |non=>exact RcAt.int_none a j|bl b=>exact RcAt.int_bool a j b|int i t=>exact RcAt.int_int a j i t|str x t=>exact RcAt.int_str a j x t|tup h=>exact RcAt.int_tuple a j h c|lst h=>exact RcAt.int_list a j h c
 |str a j=>
  cases h' with
  |non=>exact RcAt.str_none a j|bl b=>exact RcAt.str_bool a j b|int i t=>exact RcAt.str_int a j i t|str x t=>exact RcAt.str_str a j x t|tup h=>exact RcAt.str_tuple a j h c|lst h=>exact RcAt.str_list a j h c
 |tup g=>
  cases h' with
  |non=>exact RcAt.tuple_none g c|bl b=>exact RcAt.tuple_bool b g c|int i t=>exact RcAt.tuple_int i t g c|str x t=>exact RcAt.tuple_str x t g c|tup h=>have:=RcAt.tuples (e:=e) g h c<|o.1 _ _ _ _ rfl rfl g h;exact this|lst h=>exact RcAt.tuple_list g h c
 |lst g=>
  cases h' with
  |non=>exact RcAt.list_none g c|bl b=>exact RcAt.list_bool b g c|int i t=>exact RcAt.list_int i t g c|str x t=>exact RcAt.list_str x t g c|tup h=>exact RcAt.list_tuple g h c|@lst b d h=>
   rename_i l m;by_cases n:m.length=d.length
   .have:=RcAt.lists (e:=e) g h (by simpa using n) c<|o.2 _ _ _ _ rfl rfl g h;show RcAt A s _ _ ((a1o<|min m.length d.length).all e&&m.length==d.length);rw[DA e n];simpa using this
   .have:=RcAt.lists_lengths g h (by simpa using n) c;show RcAt A s _ _ ((a1o<|min m.length d.length).all e&&m.length==d.length);rw[DB e n];exact this
theorem N8(h:IsK s u k)(h':IsK s v k')(c:A.units<a2e)(o:uQ A s u v e):RcNeAt A s u v (!uP e k k'):=by
 cases h with
 |non=>
  cases h' with
  |non=>exact RcNeAt.none_none|bl b=>exact RcNeAt.none_bool b|int i t=>exact RcNeAt.none_int i t|str x t=>exact RcNeAt.none_str x t|tup h=>exact RcNeAt.none_tuple h c|lst h=>exact RcNeAt.none_list h c
 |bl a=>
  cases h' with
  |non=>exact RcNeAt.bool_none a|bl b=>exact RcNeAt.bool_bool a b|int i t=>exact RcNeAt.bool_int a i t|str x t=>exact RcNeAt.bool_str a x t|tup h=>exact RcNeAt.bool_tuple a h c|lst h=>exact RcNeAt.bool_list a h c
 |int a j=>
  cases h' with
  |non=>exact RcNeAt.int_none a j|bl b=>exact RcNeAt.int_bool a j b|int i t=>exact RcNeAt.int_int a j i t|str x t=>exact RcNeAt.int_str a j x t|tup h=>exact RcNeAt.int_tuple a j h c|lst h=>exact RcNeAt.int_list a j h c
 |str a j=>
  cases h' with
  |non=>exact RcNeAt.str_none a j|bl b=>exact RcNeAt.str_bool a j b|int i t=>exact RcNeAt.str_int a j i t|str x t=>exact RcNeAt.str_str a j x t|tup h=>exact RcNeAt.str_tuple a j h c|lst h=>exact RcNeAt.str_list a j h c
 |tup g=>
  cases h' with
  |non=>exact RcNeAt.tuple_none g c|bl b=>exact RcNeAt.tuple_bool b g c|int i t=>exact RcNeAt.tuple_int i t g c|str x t=>exact RcNeAt.tuple_str x t g c|tup h=>have:=RcNeAt.tuples (e:=e) g h c<|o.1 _ _ _ _ rfl rfl g h;exact this|lst h=>exact RcNeAt.tuple_list g h c
 |lst g=>
  cases h' with
  |non=>exact RcNeAt.list_none g c|bl b=>exact RcNeAt.list_bool b g c|int i t=>exact RcNeAt.list_int i t g c|str x t=>exact RcNeAt.list_str x t g c|tup h=>exact RcNeAt.list_tuple g h c|@lst b d h=>
   rename_i l m;by_cases n:m.length=d.length
   .have:=RcNeAt.lists (e:=e) g h (by simpa using n) c<|o.2 _ _ _ _ rfl rfl g h;show RcNeAt A s _ _ (!((a1o<|min m.length d.length).all e&&m.length==d.length));rw[DA e n];simpa using this
   .have:=RcNeAt.lists_lengths g h (by simpa using n) c;show RcNeAt A s _ _ (!((a1o<|min m.length d.length).all e&&m.length==d.length));rw[DB e n];exact this
theorem N9(h:IsK s u k)(h':IsK s v k')(c:A.units<a2e)(o:uQ A s u v e)(n:∀l b,u=.ref l->v=.ref b->l≠b):EqAt A s u v (uP e k k'):=by
 cases h with
 |non=>
  cases h' with
  |non=>exact EqAt.same _|bl b=>exact EqAt.none_bool b|int i t=>exact EqAt.none_int i t|str x t=>exact EqAt.none_str x t|tup h=>exact EqAt.none_tuple h c|lst h=>exact EqAt.none_list h c
 |bl a=>
  cases h' with
  |non=>exact EqAt.bool_none a|bl b=>exact EqAt.bool_bool a b|int i t=>exact EqAt.bool_int a i t|str x t=>exact EqAt.bool_str a x t|tup h=>exact EqAt.bool_tuple a h c|lst h=>exact EqAt.bool_list a h c
 |int a d=>
  cases h' with
  |non=>exact EqAt.int_none a d|bl b=>exact EqAt.int_bool a d b|int i t=>exact EqAt.int_int a d i t|str x t=>exact EqAt.int_str a d x t|tup h=>exact EqAt.int_tuple a d h c|lst h=>exact EqAt.int_list a d h c
 |str a d=>
  cases h' with
  |non=>exact EqAt.str_none a d|bl b=>exact EqAt.str_bool a d b|int i t=>exact EqAt.str_int a d i t|str x t=>exact EqAt.str_str a d x t|tup h=>exact EqAt.str_tuple a d h c|lst h=>exact EqAt.str_list a d h c
 |@tup l m g=>
  cases h' with
  |non=>exact EqAt.tuple_none g c|bl b=>exact EqAt.tuple_bool b g c|int i t=>exact EqAt.tuple_int i t g c|str x t=>exact EqAt.tuple_str x t g c|@tup b j h=>exact EqAt.of_refs (n l b rfl rfl) (yZ (k:=.tup m.length) (k':=.tup j.length) (.tup g) (.tup h) c o)|lst h=>exact EqAt.tuple_list g h c
 |@lst l m g=>
  cases h' with
  |non=>exact EqAt.list_none g c|bl b=>exact EqAt.list_bool b g c|int i t=>exact EqAt.list_int i t g c|str x t=>exact EqAt.list_str x t g c|tup h=>exact EqAt.list_tuple g h c|@lst b j h=>exact EqAt.of_refs (n l b rfl rfl)<|yZ (k:=.lst m.length) (k':=.lst j.length) (.lst g) (.lst h) c o
inductive KdD where
 |non|bl (b:Bool)|int (i:Int)|str (x:Str)|tup (xs:List D)|lst (xs:List D)
noncomputable def hU(μ:Hm):D->Option KdD
 |.non=>a7 .non|.bl b=>a7 (.bl b)|.int i=>a7 (.int i)|.str x=>a7 (.str x)|.tup xs=>a7 (.tup xs)|.rol xs=>a7 (.lst xs)|.loc a=>match μ[a]? with|some (.lst xs)=>a7 (.lst xs)|_=>b0
 |.ty _=>b0
noncomputable def gD(f:D->D->Option Bool):List D->List D->Option Bool
 |x::xs,y::ys=>(f x y).bind λb=>(gD f xs ys).map λc=>b&&c|[],[]=>a7 b5|_,_=>a7 b3
noncomputable def rL(f:D->D->Option Bool):KdD->KdD->Option Bool
 |.non,.non=>a7 b5|.bl a,.bl b=>a7 (a==b)|.bl a,.int b=>a7 ((if a then 1 else 0)==b)|.int a,.bl b=>a7 (a==(if b then 1 else 0))|.int a,.int b=>a7 (a==b)|.str a,.str b=>a7 (a==b)|.tup xs,.tup ys=>gD f xs ys|.lst xs,.lst ys=>gD f xs ys|_,_=>a7 b3
noncomputable abbrev zA(f:D->D->Option Bool):D->D->Option Bool:=f
theorem DC(h:zA f x y=a7 b):f x y=a7 b\/(b=b5/\∃a,x=.loc a/\y=.loc a):=.inl h
noncomputable def cI:Nat->Hm->D->D->Option Bool
 |0,_,_,_=>b0|n+1,μ,x,y=>(hU μ x).bind λa=>(hU μ y).bind λb=>rL (zA<|cI n μ) a b
noncomputable abbrev l8(n:Nat)(μ:Hm):D->D->Option Bool:=zA<|cI n μ
noncomputable def zB:KdD->KD
 |.non=>.non|.bl b=>.bl b|.int i=>.int i|.str x=>.str x|.tup xs=>.tup xs.length|.lst xs=>.lst xs.length
noncomputable def pE:KdD->List D
 |.tup xs=>xs|.lst xs=>xs|_=>[]
section
variable{X:Cx}{b2w:jw}{σ:St}{H:Hp}{s:a0i}{π:Nat->Addr}{μ:Hm}
inductive KdAt (X:Cx)(π:Nat->Addr)(n:Nat)(H:Hp)(s:a0i)(u:Value):KdD->Prop where
 |non (h:u=.none):KdAt X π n H s u .non
 |bl (b:Bool)(h:u=.bool b):KdAt X π n H s u<|.bl b
 |int (i:Int)(t:b2s)(h:u=.int i t):KdAt X π n H s u<|.int i
 |str (x:Str)(t:b2s)(h:u=.str x t):KdAt X π n H s u<|.str x
 |tup {xs:List D}(p:Addr)(vs:gw)(its:gq)(h:u=.ref p)(q:SqT X.K H p vs)(i:IsDs X.K π n H vs xs)(r:Vals vs its)(t:s.heap.IsTuple p its.toArray):KdAt X π n H s u<|.tup xs
 |lst {xs:List D}(p:Addr)(vs:gw)(its:gq)(h:u=.ref p)(q:SqL X.K H p vs)(i:IsDs X.K π n H vs xs)(r:Vals vs its)(t:s.heap.IsList p its.toArray):KdAt X π n H s u<|.lst xs
theorem pF(I:Inv X b2w σ H s)(R:Rp X.K π H μ)(h:IsD X.K π μ.length H v d)(r:RelV v u)(e:hU μ d=a7 k):KdAt X π μ.length H s u k:=by
 cases h with
 |non=>cases e;exact .non r|bl b=>cases e;exact .bl b r|int i=>cases e;obtain⟨t,q⟩:=r;exact .int i t q|str x=>cases e;obtain⟨t,q⟩:=r;exact .str x t q|ty x=>cases e|tup q t=>cases e;obtain⟨c,g,p,_⟩:=I.tuple q;exact .tup _ _ c r q t g p|rol q t=>cases e;obtain⟨c,g,p,_⟩:=I.list q.sq;exact .lst _ _ c r q.sq t g p.isList|@loc a w=>
  simp only[hU]at e;split at e
  .rename_i o m;cases e;obtain⟨n,j,l⟩:=R.lst a o m;have q:SqL X.K H (π a) n:=.of j;obtain⟨c,g,p,_⟩:=I.list q;exact .lst _ _ c r q l g p.isList
  .cases e
theorem KdAt.isK(h:KdAt X π n H s u k):IsK s u (zB k):=by
 cases h with
 |non h=>subst h;exact .non|bl b h=>subst h;exact .bl b|int i t h=>subst h;exact .int i t|str x t h=>subst h;exact .str x t|tup p c a h q i r t=>subst h;have:a.length=_:=r.length.symm.trans i.length;show IsK s (.ref p) (.tup _);rw[<- this];exact .tup t|lst p c a h q i r t=>subst h;have:a.length=_:=r.length.symm.trans i.length;show IsK s (.ref p) (.lst _);rw[<- this];exact .lst t
noncomputable def iN(f:D->D->Option Bool)(xs a:List D)(j:Nat):Bool:=match xs[j]?,a[j]? with
 |some x,a7 y=>(f x y).getD b3|_,_=>b3
theorem zC:∀{xs a}{b},gD f xs a=a7 b->b=((a1o<|min xs.length a.length).all (iN f xs a)&&xs.length==a.length)/\∀j x y,xs[j]?=a7 x->a[j]?=a7 y->f x y=a7 (iN f xs a j)
 |[],[],b,h=>by cases h;exact⟨rfl,λj x y e=>by simp at e⟩
 |x::xs,[],b,h=>by cases h;exact⟨by simp,λj x y _ e=>by simp at e⟩
 |[],y::a,b,h=>by cases h;exact⟨by simp,λj x y e=>by simp at e⟩
 |x::xs,y::a,b,h=>by
  simp only[gD]at h;obtain⟨c,l,n⟩:=a0a.mp h;obtain⟨d,o,p⟩:=a0g.mp n;obtain⟨q,r⟩:=zC o;have k:iN f (x::xs) (y::a) 0=c:=by simp[iN,l]
  have m:∀j,iN f (x::xs) (y::a) (j+1)=iN f xs a j:=λj=>by simp[iN]
  refine⟨?_,λj u v g i=>?_⟩
  .subst p;rw[q];simp only[a0Q,Nat.add_min_add_right];rw[a5J,a1e,a8v,k];have:(iN f (x::xs) (y::a)∘Nat.succ)=iN f xs a:=funext λj=>m j;rw[this];simp[Bool.and_assoc]
  .cases j with
   |zero=>simp at g i;subst g;subst i;rw[k,l]|succ j=>rw[m j];exact r j u v (by simpa using g)<|by simpa using i
theorem DD(h:rL f k k'=a7 b):b=uP (iN f (pE k)<|pE k') (zB k) (zB k'):=by
 cases k<;>cases k'<;>first
  |(have a:=a0B h;subst a;rfl)|(obtain⟨c,_⟩:=zC h;rw[c];rfl)
theorem Oa(I:Inv X b2w σ H s)(R:Rp X.K π H μ):∀n{v}{u}{x y}{b},RelV v u->IsD X.K π μ.length H v x->IsD X.K π μ.length H v y->cI n μ x y=a7 b->b=true:=by
 intro n;induction n with
 |zero=>intro v u x y b _ _ _ h;cases h|succ n ih=>
  intro v u x y b r hx hy h;obtain⟨k,T,h⟩:=a0a.mp h;obtain⟨k',h2,h⟩:=a0a.mp h;have a1:=pF I R hx r T;have o:=pF I R hy r h2;have g:∀{vs:gw}{xs Q:List D}{c:Bool},(∀v∈vs,∃u,RelV v u)->IsDs X.K π μ.length H vs xs->IsDs X.K π μ.length H vs Q->gD (l8 n μ) xs Q=a7 c->c=true:=by
   intro vs;induction vs with
   |nil=>intro xs Q c _ Y m h;cases Y;cases m;cases h;rfl|cons w vs Z=>
    intro xs Q c hr Y m h;cases Y with
    |cons p1 t1=>
     cases m with
     |cons K B=>simp only[gD]at h;obtain⟨c1,T,h3⟩:=a0a.mp h;obtain⟨c2,h4,h5⟩:=a0g.mp h3;obtain⟨O,M⟩:=hr w<|a0P ..;have a:c1=true:=(DC T).elim (ih M p1 K) (·.1);have l:=Z (λv G=>hr v<|a0F _ G) t1 B h4;subst a;subst l;exact h5.symm
  cases a1 with
  |non a=>
   subst a;cases o with
   |non _=>exact(a0B h).symm|bl _ e=>cases e|int _ _ e=>cases e|str _ _ e=>cases e|tup _ _ _ e=>cases e|lst _ _ _ e=>cases e
  |bl c a=>
   subst a;cases o with
   |non e=>cases e|bl _ e=>cases e;exact(a0B h).symm.trans (beq_self_eq_true _)|int _ _ e=>cases e|str _ _ e=>cases e|tup _ _ _ e=>cases e|lst _ _ _ e=>cases e
  |int c t a=>
   subst a;cases o with
   |non e=>cases e|bl _ e=>cases e|int _ _ e=>cases e;exact(a0B h).symm.trans (beq_self_eq_true _)|str _ _ e=>cases e|tup _ _ _ e=>cases e|lst _ _ _ e=>cases e
  |str c t a=>
   subst a;cases o with
   |non e=>cases e|bl _ e=>cases e|int _ _ e=>cases e|str _ _ e=>cases e;exact(a0B h).symm.trans (beq_self_eq_true _)|tup _ _ _ e=>cases e|lst _ _ _ e=>cases e
  |tup p vs J a q i N t=>
   have z:KdAt X π μ.length H s (.ref p) _:=a▸KdAt.tup p vs J a q i N t;rw[a]at o;cases o with
   |non e=>cases e|bl _ e=>cases e|int _ _ e=>cases e|str _ _ e=>cases e|tup K E d l L m A B=>
    cases l;have:=I.tuple_inj q L;subst this;exact g (λv G=>by
     obtain⟨j,U,rfl⟩:=a9i G;obtain⟨O,_,M⟩:=N.get<|a0w U;exact⟨O,M⟩) i m h
   |lst K E d l L m A B=>cases l;exact absurd rfl<|a2D B t
  |lst p vs J a q i N t=>
   rw[a]at o;cases o with
   |non e=>cases e|bl _ e=>cases e|int _ _ e=>cases e|str _ _ e=>cases e|tup K E d l L m A B=>cases l;exact absurd rfl (a2D t B)|lst K E d l L m A B=>
    cases l;have:=I.list_inj q L;subst this;exact g (λv G=>by
     obtain⟨j,U,rfl⟩:=a9i G;obtain⟨O,_,M⟩:=N.get<|a0w U;exact⟨O,M⟩) i m h
theorem nN(A:a1b):A.in1.units=A.units+1:=rfl
theorem DE(I:Inv X b2w σ H s)(ih:∀{A}{v v'}{u u'}{x y}{b},A.units+n<a2e->RelV v u->RelV v' u'->IsD X.K π μ.length H v x->IsD X.K π μ.length H v' y->cI n μ x y=a7 b->EqAt A s u u' b)(hu:A.units+(n+1)<a2e)(a1:KdAt X π μ.length H s u k)(a2:KdAt X π μ.length H s u' k')(h:rL (l8 n μ) k k'=a7 b):uQ A s u u' (iN (l8 n μ) (pE k)<|pE k'):=by
 have G:∀{vs Q:gw}{its its':gq}{xs U:List D}{c:Bool},Vals vs its->Vals Q its'->IsDs X.K π μ.length H vs xs->IsDs X.K π μ.length H Q U->gD (l8 n μ) xs U=a7 c->
   ∀j (h1:j<its.length)(T:j<its'.length),EqAt A.in1 s its[j] its'[j] (iN (l8 n μ) xs U j):=by
  intro vs Q its its' xs U c r r' i i' e j h1 T;have l1:=r.length;have l2:=r'.length;have l3:=i.length;have l4:=i'.length;have hx:xs[j]?=a7 (xs[j]'(by lia)):=a0w _;have hy:U[j]?=a7 (U[j]'(by lia)):=a0w _;obtain⟨v,v1,v2⟩:=i.get hx;obtain⟨v',v1',v2'⟩:=i'.get hy;obtain⟨w,w1,w2⟩:=r.get v1;obtain⟨w',w1',w2'⟩:=r'.get v1';rw[a0w h1]at w1;rw[a0w T]at w1';cases w1;cases w1';have key:∀{x y:D}{b:Bool},IsD X.K π μ.length H v x->IsD X.K π μ.length H v' y->l8 n μ x y=a7 b->EqAt A.in1 s its[j] its'[j] b:=λ{x y b} i1 J hq=>by
   rcases DC hq with hq|⟨rfl,a,rfl,rfl⟩
   .exact ih (by rw[nN];lia) w2 w2' i1 J hq
   .cases i1;cases J;have z1:its[j]=a0n (π a):=w2;have z2:its'[j]=a0n (π a):=w2';rw[z1,z2];exact EqAt.same _
  exact key v2 v2'<|(zC e).2 j _ _ hx hy
 constructor
 .intro l b' E z e1 e2 Z t2 j h1 T;subst e1;subst e2;cases a1 with
  |tup p vs its e q i r t=>
   cases e;cases a2 with
   |tup p2 R B d q2 J Y O=>
    cases d;have z1:E=its.toArray:=by obtain⟨o,K,g2,n1,M⟩:=Z;obtain⟨o',g,L,N,m⟩:=t;rw[K]at g;cases g;rw[M]at m;injection m
    have z2:z=B.toArray:=by obtain⟨o,K,g2,n1,M⟩:=t2;obtain⟨o',g,L,N,m⟩:=O;rw[K]at g;cases g;rw[M]at m;injection m
    subst z1;subst z2;have:=G r Y i J h j (by simpa using h1) (by simpa using T);simpa[pE]using this
   |lst p2 R B d q2 J Y O=>cases d;exact absurd rfl (a2D O t2)|non d=>cases d|bl _ d=>cases d|int _ _ d=>cases d|str _ _ d=>cases d
  |lst p vs its e q i r t=>cases e;exact absurd rfl (a2D t Z)|non e=>cases e|bl _ e=>cases e|int _ _ e=>cases e|str _ _ e=>cases e
 .intro l b' E z e1 e2 Z t2 j h1 T;subst e1;subst e2;cases a1 with
  |lst p vs its e q i r t=>
   cases e;cases a2 with
   |lst p2 R B d q2 J Y O=>
    cases d;have z1:E=its.toArray:=by obtain⟨o,K,g2,n1,M⟩:=Z;obtain⟨o',g,L,N,m⟩:=t;rw[K]at g;cases g;rw[M]at m;injection m
    have z2:z=B.toArray:=by obtain⟨o,K,g2,n1,M⟩:=t2;obtain⟨o',g,L,N,m⟩:=O;rw[K]at g;cases g;rw[M]at m;injection m
    subst z1;subst z2;have:=G r Y i J h j (by simpa using h1) (by simpa using T);simpa[pE]using this
   |tup p2 R B d q2 J Y O=>cases d;exact absurd rfl (a2D t2 O)|non d=>cases d|bl _ d=>cases d|int _ _ d=>cases d|str _ _ d=>cases d
  |tup p vs its e q i r t=>cases e;exact absurd rfl (a2D Z t)|non e=>cases e|bl _ e=>cases e|int _ _ e=>cases e|str _ _ e=>cases e
theorem zD(I:Inv X b2w σ H s)(R:Rp X.K π H μ):∀n{A}{v c}{u a}{x y}{b},A.units+n<a2e->RelV v u->RelV c a->IsD X.K π μ.length H v x->IsD X.K π μ.length H c y->cI n μ x y=a7 b->EqAt A s u a b:=by
 intro n;induction n with
 |zero=>intro A v c u a x y b _ _ _ _ _ h;cases h|succ n J=>
  intro A v c u a x y b G r m i j h;have q:=h;obtain⟨k,w,h⟩:=a0a.mp h;obtain⟨L,B,h⟩:=a0a.mp h;have d:=pF I R i r w;have e:=pF I R j m B;by_cases g:u=a
  .subst g;have:v=c:=r.inj m;subst this;have:=Oa I R (n+1) r i j q;subst this;exact EqAt.same _
  .have E:=DE I J G d e h;rw[DD h];exact N9 d.isK e.isK (by lia) E λl K o p z=>g<|by rw[o,p,z]
theorem DF(I:Inv X b2w σ H s)(R:Rp X.K π H μ)n(l:A.units+n<a2e)(r:RelV v u)(p:RelV g d)(m:IsD X.K π μ.length H v x)(o:IsD X.K π μ.length H g y)(h:cI n μ x y=a7 b):
  RcAt A s u d b/\RcNeAt A s u d (!b):=by
 cases n with
 |zero=>cases h|succ n=>obtain⟨k,i,h⟩:=a0a.mp h;obtain⟨q,j,h⟩:=a0a.mp h;have a:=pF I R m r i;have c:=pF I R o p j;have e:=DE I (A:=A) (zD I R n) l a c h;rw[DD h];exact⟨yZ a.isK c.isK (by lia) e,N8 a.isK c.isK (by lia) e⟩
end
noncomputable def kX(g:Int->Int->Option Int):D->D->Hm->jk
 |.int i,.int j,μ=>(g i j).map λz=>(.int z,μ)|_,_,_=>b0
theorem DG(h:kX g x y μ=a7 (d,μ')):∃i j z,x=.int i/\y=.int j/\g i j=a7 z/\d=.int z/\μ'=μ:=by
 unfold kX at h;split at h
 .rename_i i j;obtain⟨z,a,b⟩:=a0g.mp h;cases b;exact⟨i,j,z,rfl,rfl,a,rfl,rfl⟩
 .cases h
theorem uR{g':Int->Int->Int}(e:∀i j z,g i j=a7 z->a i j/\z=g' i j):c8 K (kX g) (rI a λi j=>.int<|g' i j):=by intro o H r x y d n p q Q R l m h k;obtain⟨i,j,z,rfl,rfl,b,rfl,rfl⟩:=DG h;cases l;cases m;obtain⟨c,rfl⟩:=e i j z b;exact⟨i,j,rfl,rfl,c,k o _ H .refl R<|.int _⟩
theorem Ob{g':Int->Int->Int}:c8 K (kX λi j=>a7<|g' i j) (gX λi j=>.int<|g' i j):=by intro h H n x y d g l m Q R c e b k;obtain⟨i,j,z,rfl,rfl,a,rfl,rfl⟩:=DG b;cases c;cases e;cases a;exact⟨i,j,rfl,rfl,k h _ H .refl R<|.int _⟩
noncomputable def cB:=kX λi j=>a7<|i-j
noncomputable def DH:=kX λi j=>if((-(2^64)<i/\i<2^64)\/(-(2^64)<j/\j<2^64))\/(i.natAbs<2^4000/\j.natAbs<2^4000)\/a1k i+a1k j<=134217728 then a7 (i*j)else b0
noncomputable def bG:D->D->Hm->jk
 |x,y,μ=>DH x y μ
noncomputable def dM:=kX λi j=>if 0<j/\j<2^4000 then a7 (i/j)else b0
noncomputable def bC:=kX λi j=>if 0<j then a7 (i%j)else b0
noncomputable def kY:=kX λi j=>if(0<=j/\j<=1000000/\i.natAbs<2^64)\/(0<=j/\j<=100/\i.natAbs<2^4000)then a7 (i^j.toNat)else b0
noncomputable def CMulB(i j:Int):Prop:=CMul i j\/(i.natAbs<2^4000/\j.natAbs<2^4000)\/a1k i+a1k j<=134217728
noncomputable def DI(i j:Int):Prop:=0<j/\j<2^4000
noncomputable def DJ(i j:Int):Prop:=LG i j\/(0<=j/\j<=100/\i.natAbs<2^4000)
theorem zE(h:i.natAbs<2^4000):a1k i<=4000:=by
 unfold a1k;split
 .exact a1U _
 .rename_i b;have a:i.natAbs≠0:=by intro z;exact b<|by simpa using z
  have:=(b1W a).mpr h;lia
theorem CMulB.ok(h:CMulB i j):b0w i j:=by
 rcases h with h|⟨b,c⟩|h
 .exact h.ok
 rotate_left
 .have a:a4h (a1k i+a1k j)=false:=by
   unfold a4h;rw[decide_eq_false];have:bitsLine=134217728:=by decide
   lia
  unfold b0w;rw[a];simp
 .have d:=zE b;have e:=zE c;have a:a4h (a1k i+a1k j)=false:=by
   unfold a4h;rw[decide_eq_false];have:(8000:Int)<=bitsLine:=by decide
   lia
  unfold b0w;rw[a];simp
theorem Oc:OpR X (a4a .Mult) (rI CMulB λi j=>.int<|i*j):=uD λ_ _ _ _ _ _ _ hc q=>b1L q hc.ok
theorem Od:OpR X (a4a .FloorDiv) (rI DI λi j=>.int<|i/j):=uD λi j _ _ _ _ _ hc q=>by
 have c:(0:Int)<j:=hc.1;have d:j<2^4000:=hc.2;have a:j.natAbs≠0:=by lia
 have b:j.natAbs<2^4000:=by
  have:((2^4000:Nat):Int)=2^4000:=by decide
  lia
 have e:=(b1W a).mpr b;exact b1N (by lia) (by rw[Int.fdiv_eq_ediv_of_nonneg i<|by lia];exact q)<|.inl<|PyProof.noPylong_of_log2<|by lia
theorem Oe:OpR X (a4a .Pow) (rI DJ λi j=>.int<|i^j.toNat):=uD λi j _ _ _ _ _ hc q=>by
 rcases hc with hc|⟨a,c,d⟩
 .exact b1I hc.1 hc.2.1 hc.2.2 q
 .have b:=zE d;refine b1J a ?_ q;have:(a1k i:Int)*j<=4000*100:=b0P (by lia) c a (by lia);lia
theorem uS[Decidable c]{a:Int}(h:(if c then a7 a else b0)=a7 z):c/\z=a:=by
 split at h
 .cases h;exact⟨by assumption,rfl⟩
 .cases h
theorem Of:c8 K cB (gX λi j=>.int<|i-j):=Ob
theorem Og:c8 K DH (rI CMulB λi j=>.int<|i*j):=uR λi j z h=>by have:=uS h;exact this
theorem Oh:c8 K bG (rI CMulB λi j=>.int<|i*j):=Og
theorem Oi:c8 K dM (rI DI λi j=>.int<|i/j):=uR λi j z h=>by have:=uS h;exact this
theorem Oj:c8 K bC (rI (λ_ j=>0<j) λi j=>.int<|i%j):=uR λ_ _ _ h=>uS h
theorem Ol:c8 K kY (rI DJ λi j=>.int<|i^j.toNat):=uR λi j z h=>by have:=uS h;exact this
noncomputable def zF:D->Option D
 |.int i=>a7 (.int<|-i)|_=>b0
noncomputable def bI:D->D->Hm->jk
 |.int i,.int j,μ=>a7 (.int<|i+j,μ)|.str x,.str y,μ=>if x.length+y.length<=a0s then a7 (.str<|x++y,μ)else b0|.loc a,.loc b,μ=>match μ[a]?,μ[b]? with
  |some<|.lst xs,a7 (.lst ys)=>if xs.length+ys.length<=a0s then a7 (.loc μ.length,μ++[.lst<|xs++ys])else b0|_,_=>b0
 |_,_,_=>b0
noncomputable def zG(K:a0c):R2:=λx y H Q=>gX (λi j=>.int<|i+j) x y H Q\/(∃i j,x=.str i/\y=.str j/\i.length+j.length<=a0s/\Q (.str<|i++j) H)\/Di x y H Q
theorem Om:OpR X (a4a .Add) (zG X.K):=op_add.or<|op_add_str.or M8
noncomputable abbrev zH(K:a0c):R2:=zG K
theorem Oo:OpR X (a4a .Add) (zH X.K):=Om
theorem zI(h:zG K x y H Q):zH K x y H Q:=h
theorem Oq:c8 K bI (zH K):=by
 intro o H E x y d z A B Q R c e a k;unfold bI at a;split at a
 .cases a;cases c;cases e;exact zI<|.inl ⟨_,_,rfl,rfl,k o _ H .refl R<|.int _⟩
 .split at a
  .rename_i b;cases a;cases c;cases e;exact zI<|.inr<|.inl ⟨_,_,rfl,rfl,b,k o _ H .refl R<|.str _⟩
  .cases a
 .split at a
  .rename_i m n u v;split at a
   .rename_i b;cases a;cases c;cases e;obtain⟨j,g,h⟩:=R.lst _ m u;obtain⟨l,s,i⟩:=R.lst _ n v;refine zI (.inr<|.inr ⟨_,_,j,l,rfl,rfl,by first|exact g|exact .inl<|.inl g,s,by rw[h.length,i.length];exact b,λp w=>?_⟩);obtain⟨r,R2,q⟩:=R.alloc (c:=.lst (m++n)) (o:=.lst (j++l)) w<|h.append i;exact k _ _ _ r R2 gC
   .cases a
  .cases a
 .cases a
noncomputable def fE(p:Int->Int->Bool):D->D->Hm->jk
 |.int i,.int j,μ=>a7 (.bl<|p i j,μ)|_,_,_=>b0
theorem iO:c8 K (fE p) (gX λi j=>.bl<|p i j):=by
 intro g H m x y d e h l Q R b c a k;unfold fE at a;split at a
 .cases a;cases b;cases c;exact⟨_,_,rfl,rfl,k g _ H .refl R<|.bl _⟩
 .cases a
noncomputable def jI:=fE λi j=>decide<|i<j
noncomputable def pG:=fE λi j=>decide<|i<=j
noncomputable def iP:=fE λi j=>decide<|j<i
noncomputable def rM:=fE λi j=>decide<|j<=i
noncomputable def zJ(K:a0c)(ne:Bool):R2:=λx y H Q=>∃π μ a c b,Rp K π H μ/\IsD K π μ.length H x a/\IsD K π μ.length H y c/\cI 8 μ a c=a7 b/\Q (.bl<|if ne then !b else b) H
theorem DK(c:X.A.units+8<a2e):OpR X (a1J .Eq) (zJ X.K b3):=by intro a s o H x y v u Q I i j h;obtain⟨n,m,k,l,b,R,d,g,e,q⟩:=h;exact(DF I R 8 c i j d g e).1 _ _ _ _ ⟨.bl b,H,I,rfl,q⟩
theorem DL(c:X.A.units+8<a2e):OpR X (a1J .NotEq) (zJ X.K b5):=by intro a s o H x y v u Q I i j h;obtain⟨n,m,k,l,b,R,d,g,e,q⟩:=h;exact(DF I R 8 c i j d g e).2 _ _ _ _ ⟨.bl<|!b,H,I,rfl,q⟩
noncomputable def aT(ne:Bool):D->D->Hm->jk:=λx y μ=>(cI 8 μ x y).map λb=>(.bl<|if ne then !b else b,μ)
theorem uT:c8 K (aT ne) (zJ K ne):=by intro a H j x y d l m n Q R h i g k;obtain⟨b,c,e⟩:=a0g.mp g;cases e;exact⟨a,j,x,y,b,R,h,i,c,k a _ H .refl R<|.bl _⟩
noncomputable def zK:D->D->Hm->jk
 |.str i,.str j,μ=>a7 (.bl<|!(a2i j i 0 j.length 1).isEmpty,μ)|_,_,_=>b0
theorem DM:c8 K zK (λx y H Q=>∃i j,x=.str i/\y=.str j/\Q (.bl<|!(a2i j i 0 j.length 1).isEmpty) H):=by
 intro g H m x y d e h l Q R b c a k;unfold zK at a;split at a
 .cases a;cases b;cases c;exact⟨_,_,rfl,rfl,k g _ H .refl R<|.bl _⟩
 .cases a
theorem uU(r:Room k A):A.units+8<a2e:=by have:=r.un;lia
theorem Ot(r:PE X a (tM X.K ma)):PE X (.UnaryOp .USub a pos) (tM X.K λh μ=>(ma h μ).bind λp=>(zF p.1).map λd=>(d,p.2)):=cT (LF LK r)<|by
 rintro A H Q ⟨w,h,μ,d,u,R,E,e,k⟩;obtain⟨⟨x,v⟩,o,e⟩:=a0a.mp e;obtain⟨y,j,q⟩:=a0g.mp e;cases q;cases x with
 |int i=>cases j;refine⟨w,h,μ,_,_,R,E,o,λg z l n m s=>?_⟩;cases s;exact⟨_,rfl,k g _ l n m<|.int _⟩
 |_=>cases j
theorem Ou(d:Gl X x)(e:X.mg x=b0)(h:a2q x=a7 (.type n))(g:x ≠ "__name__":=by decide)(hd:(x==("__debug__":Str))=false:=by decide):PE X (.Name x pos) (tM X.K<|mC<|.ty n):=
 o8 (Ky (v:=.ty n) d e h rfl g hd) λ_ _ _=>.ty n
noncomputable def zL(μ:Hm):D->Option String
 |.non=>a7 "NoneType"|.bl _=>a7 "bool"|.int _=>a7 "int"|.str _=>a7 "str"|.tup _=>a7 "tuple"|.rol _=>a7 "list"|.loc a=>match μ[a]? with
  |some (.lst _)=>a7 "list"|some (.dK _)=>a7 "dict"|some (.dT _)=>a7 "dict"|_=>b0
 |.ty _=>b0
noncomputable def uV(t c:String):Option Bool:=match c with
 | "int"=>a7 (t=="int" || t=="bool")| "bool"=>a7 (t=="bool")| "str"=>a7 (t=="str")| "list"=>a7 (t=="list")| "tuple"=>a7 (t=="tuple")| "dict"=>a7 (t=="dict")|_=>b0
noncomputable def l9:MF:=λds μ=>match ds with
 |[x,.ty c]=>(zL μ x).bind λt=>(uV t c).map λb=>(.bl b,μ)|_=>b0
theorem kZ K(d:t = "NoneType"\/t = "bool"\/t = "int"\/t = "str"\/t = "tuple"\/t = "list"\/t = "dict")(h:uV t c=a7 b):a9J K (.type t) (.type c)=a7 b:=by
 unfold uV at h
 split at h<;>first
  | cases h;done
  | (have a:=a0B h;subst a
     rcases d with rfl|rfl|rfl|rfl|rfl|rfl|rfl<;>first|rfl|decide +kernel|(unfold a9J;simp;rfl))
end L3
namespace L3
open PySem L2
noncomputable abbrev MG:=D->aG->Hm->Option aG
inductive tMG (K:a0c)(g:MG)(v:V)(σ:St)(H:Hp)(Q:St->Hp->Prop):Prop
 |mk (π:Nat->Addr)(ρ:aG)(μ:Hm)(d:D)(ρ':aG)(R:Rp K π H μ)(E:En K π μ.length H σ ρ)(i:IsD K π μ.length H v d)(hm:g d ρ μ=a7 ρ')(k:∀σ',En K π μ.length H σ' ρ'->Q σ' H):tMG K g v σ H Q
noncomputable def cZ(i:Nat):MG:=λd a _=>a7<|a.set i<|a7 d
theorem DN(b:X.N.Nodup)(e:X.N[i]?=a7 x)(j:Loc X.env.scope x)(c:X.fn x=b5\/X.env.scope.names.lookup x=a7 .local:=by first|exact .inl rfl|exact .inr rfl|assumption):PG X (.Name x pos) (tMG X.K<|cZ i):=by intro a s m H v u Q I r h;obtain⟨o,p,n,d,l,R,E,hd,g,k⟩:=h;cases g;exact Cy b e j c a s m H v u Q I r<|k _<|E.set hd i
noncomputable def Ov(K:a0c)(c:TE):TI:=λσ H R=>c σ H λx b=>∃a,x=.ref a/\(((∃xs,SqL K b a xs)/\R (yB K a) b)\/((∃xs,SqT K b a xs)/\R (yC K a) b))
theorem Ox(r:PE X l n):PI X tg l (Ov X.K n):=by
 intro i s B H R I h;refine aP (r i s B H _ I h) λv c ⟨x,m,d,y,w⟩=>?_;obtain⟨a,e,q⟩:=w;subst e;cases y;rcases q with⟨⟨A,k⟩,q⟩|⟨⟨A,k⟩,q⟩
 .obtain⟨g,z,p,u⟩:=d.list k;refine a3Q p.isList ?_;refine⟨c.heap.objs.size,[c.heap.objs.size],_,_,m,rfl,d.kept (t':=c.toks) λb o e=>a0e _ e,Lo a _,⟨_,a0o _ rfl,rfl,rfl⟩,λb j=>?_,q⟩;have e:b=c.heap.objs.size:=by simpa using j
  subst e;exact d.fpOk (a0l _)<|d.hok.fresh<|a0l _
 .obtain⟨g,z,p,u⟩:=d.tuple k;refine a5v (show c.heap.IsTuple a g.toArray from p) ?_;refine⟨c.heap.objs.size,[c.heap.objs.size],_,_,m,rfl,d.kept (t':=c.toks) λb o e=>a0e _ e,Lp a _,⟨_,a0o _ rfl,rfl,rfl⟩,λb j=>?_,q⟩;have e:b=c.heap.objs.size:=by simpa using j
  subst e;exact d.fpOk (a0l _)<|d.hok.fresh<|a0l _
structure Wk(K:a0c)(J:It)(src:Hm->Nat->Option (Option D))(π:Nat->Addr)(n:Nat)(H:Hp):Prop where
 stop:∀π' μ H' i,Ext π n H π' μ.length H'->Rp K π' H' μ->src μ i=a7 b0->J.stop i H'
 go:∀π' μ H' i d,Ext π n H π' μ.length H'->Rp K π' H' μ->src μ i=a7 (a7 d)->J.go i H'/\∀x H2,J.yld i H' x H2->Ext π' μ.length H' π' μ.length H2/\Rp K π' H2 μ/\IsD K π' μ.length H2 x d
noncomputable def k0(x:D):Hm->Nat->Option (Option D):=λμ i=>(bF μ x).map λxs=>xs[i]?
theorem Oy(R:Rp K π H μ)(h:IsD K π μ.length H v x)(A:bF μ x=a7 xs):
  ∃a,v=.ref a/\(((∃b,SqL K H a b)/\Wk K (yB K a) (k0 x) π μ.length H)\/((∃b,SqT K H a b)/\Wk K (yC K a) (k0 x) π μ.length H)):=by
 cases h with
 |@tup p b ds q t=>
  refine⟨p,rfl,.inr ⟨⟨b,q⟩,⟨λk j o i e l z=>?_,λk j o i d e l z=>?_⟩⟩⟩
  .simp only[k0,bF,a0M]at z;have g:ds[i]?=none:=a0B z;exact⟨b,e.sqT q,by rw[t.length];exact a1i.mp g⟩
  .simp only[k0,bF,a0M]at z;have g:ds[i]?=a7 d:=a0B z;obtain⟨w,c,m⟩:=t.get g;refine⟨⟨b,w,e.sqT q,c⟩,λy G ⟨r,s⟩=>?_⟩;subst r;have:=s b<|e.sqT q;rw[c]at this;cases this;exact⟨.refl,l,m.mono e⟩
 |@rol p b ds q t=>
  refine⟨p,rfl,.inl ⟨⟨b,q.sq⟩,⟨λk j o i e l z=>?_,λk j o i d e l z=>?_⟩⟩⟩
  .simp only[k0,bF,a0M]at z;have g:ds[i]?=none:=a0B z;exact⟨b,(e.roL q).sq,by rw[t.length];exact a1i.mp g⟩
  .simp only[k0,bF,a0M]at z;have g:ds[i]?=a7 d:=a0B z;obtain⟨w,c,m⟩:=t.get g;refine⟨⟨b,w,(e.roL q).sq,c⟩,λy G ⟨r,s⟩=>?_⟩;subst r;have:=s b (e.roL q).sq;rw[c]at this;cases this;exact⟨.refl,l,m.mono e⟩
 |@loc a J=>
  have hc:∃b,H (π a)=a7 (.lst b):=by
   simp only[bF]at A;split at A
   .rename_i n u;obtain⟨b,c,_⟩:=R.lst a n u;exact⟨b,c⟩
   .cases A
  obtain⟨E,B⟩:=hc;refine⟨π a,rfl,.inl ⟨⟨E,.of B⟩,⟨λk j o i e l z=>?_,λk j o i d e l z=>?_⟩⟩⟩
  .simp only[k0,bF]at z;split at z
   .rename_i n u;obtain⟨b,c,m⟩:=l.lst a n u;rw[e.pi a J]at c;have g:n[i]?=none:=a0B z;exact⟨b,.of c,by rw[m.length];exact a1i.mp g⟩
   .cases z
  .simp only[k0,bF]at z;split at z
   .rename_i n u;obtain⟨b,c,m⟩:=l.lst a n u;rw[e.pi a J]at c;have g:n[i]?=a7 d:=a0B z;obtain⟨w,I,L⟩:=m.get g;refine⟨⟨b,w,.of c,I⟩,λy G ⟨r,s⟩=>?_⟩;subst r;have:=s b<|.of c;rw[I]at this;cases this;exact⟨.refl,l,L⟩
   .cases z
 |_=>cases A
noncomputable def eL(a:Hm->Nat->Option (Option D))(g:MG)(b:MS):Nat->Nat->MS
 |0,_,_,_=>b0|n+1,i,ρ,μ=>(a μ i).bind λo=>match o with
  |none=>a7 (.nx,ρ,μ)|some d=>(g d ρ μ).bind λc=>(b c μ).bind λp=>match p.1 with
   |.nx=>eL a g b n (i+1) p.2.1 p.2.2|.ct=>eL a g b n (i+1) p.2.1 p.2.2|.bk=>a7 (.nx,p.2.1,p.2.2)|.rt d=>a7 (.rt d,p.2.1,p.2.2)
theorem Oz(W:Wk K J z π M L)(hE:nK K E π M L w l μ')(e1:Ext π M L A μ1.length H1)(R1:Rp K A H1 μ1)(E1:En K A μ1.length H1 σ1 Q)(h:eL z g b n 0 Q μ1=a7 (w,l,μ')):
  ∃Wd:Nat->Nat->St->Hp->Prop,(∃m,Wd 0 m σ1 H1)/\∀i m T H,Wd i m T H->
   (J.stop i H/\E.nx T H)\/(J.go i H/\∃N,(∀u r,N u r->∃m',m'<m/\Wd (i+1) m' u r)/\∀x r,J.yld i H x r->tMG K g x T r λσ2 Y=>tMS K b {E with nx:=N,ct:=N,bk:=E.nx} σ2 Y):=by
 have lift:∀{a:Nat->Addr}{n2:Nat}{Y:Hp}(e:Ext π M L a n2 Y){w:Fl}{l:aG}{μ':Hm},nK K E π M L w l μ'->nK K E a n2 Y w l μ':=λ{a n2 Y} e {w l μ'} k=>by
  cases w with
  |nx=>exact λs q Z e3 R3 I=>k s q Z (e.trans e3) R3 I|bk=>exact λs q Z e3 R3 I=>k s q Z (e.trans e3) R3 I|ct=>exact λs q Z e3 R3 I=>k s q Z (e.trans e3) R3 I|rt d=>exact KC.after k e
 refine⟨λi m T H=>∃a j B,Ext π M L a j.length H/\Rp K a H j/\En K a j.length H T B/\eL z g b m i B j=a7 (w,l,μ'),⟨n,A,μ1,Q,e1,R1,E1,h⟩,?_⟩;rintro i m T H ⟨a,j,B,v,R2,E2,h2⟩;cases m with
 |zero=>cases h2|succ m=>
  obtain⟨o,h3,h4⟩:=a0a.mp h2;cases o with
  |none=>cases h4;exact .inl ⟨W.stop a _ H i v R2 h3,hE a T H v R2 E2⟩|some d=>
   obtain⟨g1,g2⟩:=W.go a j H i d v R2 h3;obtain⟨ρ3,h5,h6⟩:=a0a.mp h4;obtain⟨⟨f4,R,O⟩,h7,h8⟩:=a0a.mp h6;refine .inr ⟨g1,λu r=>∃c G p,Ext π M L c p.length r/\Rp K c r p/\En K c p.length r u G/\eL z g b m (i+1) G p=a7 (w,l,μ'),
    λu r ⟨c,G,p,a1,a2,a3,a4⟩=>⟨m,a1A _,c,p,G,a1,a2,a3,a4⟩,λx r y=>?_⟩
   obtain⟨ex,Rx,hx⟩:=g2 x r y;have v:=v.trans ex;refine⟨a,B,j,d,ρ3,Rx,E2.mono ex,hx,h5,λq I=>⟨a,ρ3,j,f4,R,O,Rx,I,h7,?_⟩⟩;cases f4 with
   |nx=>exact λc U H5 e5 R5 X=>⟨c,R,O,v.trans e5,R5,X,h8⟩|ct=>exact λc U H5 e5 R5 X=>⟨c,R,O,v.trans e5,R5,X,h8⟩|bk=>cases h8;exact λc U H5 e5 R5 X=>hE c U H5 (v.trans e5) R5 X|rt d'=>cases h8;exact KC.after hE v
noncomputable def hV(lo:Int)(n:Nat):Hm->Nat->Option (Option D):=λ_ i=>a7<|if i<n then a7 (.int<|lo+i)else b0
theorem DO:Wk K (lT lo k) (hV lo k) π n H:=by
 refine⟨λb m c i e R z=>?_,λb m c i d e R z=>?_⟩
 .have a:=a0B z;split at a
  .cases a
  .exact a4j.mp<|by assumption
 .have a:=a0B z;split at a
  .cases a;rename_i h;exact⟨h,λx o ⟨j,l⟩=>by subst j;rw[l];exact⟨.refl,R,.int _⟩⟩
  .cases a
noncomputable def pH(y:Str):Str:="#"++y
noncomputable def bH(xs N:List Str):List Str:=N.map λy=>if xs.contains y then pH y else y
theorem nO xs N:(bH xs N).length=N.length:=by unfold bH;simp
theorem OA{i:Nat}(h:(bH xs N)[i]?=a7 y):∃a,N[i]?=a7 a/\((xs.contains a=b5/\y=pH a)\/(xs.contains a=b3/\y=a)):=by
 unfold bH at h;rw[a0v]at h;obtain⟨a,c,b⟩:=a0g.mp h;refine⟨a,c,?_⟩;cases hc:xs.contains a with
 |true=>rw[hc]at b;exact .inl ⟨rfl,by simpa using b.symm⟩|false=>rw[hc]at b;exact .inr ⟨rfl,by simpa using b.symm⟩
noncomputable def cR(X:Cx)(scope:a3k)(a:List (Str×Addr))(C:Addr)(N:List Str)(s₀:a0i)(H₀:Hp)(b:List Addr):Cx:=
 {X with N:=N,s₀:=s₀,H₀:=H₀,env:=a4C scope a C X.env,outer:=X.stack,stack:=X.stack,ex:=b,fn:=λ_=>b3,pn:=[],xe:=λ_ _=>False}
theorem DP{env:a6h}:∀(names:List (Str×a3r))x,(names.map λ(n,k)=>if(k==a2T&&env.scope.kind==.function&&env.kindOf n==a7 .cell)then(n,a3j)else(n,k)).lookup x
  = (names.lookup x).map λk=>if(k==a2T&&env.scope.kind==.function&&env.kindOf x==a7 .cell)then a3j else k
 |[],_=>rfl|(n,k)::r,x=>by
  have c:=DP (env:=env) r x;rw[a0r];by_cases b:x=n
  .subst b;have key:∀(k':a3r)(l:List (Str×a3r)),a2r x ((x,k')::l)=a7 k':=λk' l=>by simp[a3T]
   rw[key];show a2r x ((if(k==a2T&&env.scope.kind==.function&&env.kindOf x==a7 .cell)=b5 then(x,a3j)else(x,k))::_)=a7 (if(k==a2T&&env.scope.kind==.function&&env.kindOf x==a7 .cell)=b5 then a3j else k);split
   .rw[key]
   .rw[key]
  .have a:(x==n)=false:=by simpa using b
   have key:∀(k':a3r)(l:List (Str×a3r)),a2r x ((n,k')::l)=a2r x l:=λk' l=>by simp only[a3T,a]
   rw[key];show a2r x ((if(k==a2T&&env.scope.kind==.function&&env.kindOf n==a7 .cell)=b5 then(n,a3j)else(n,k))::_)=_;split
   .rw[key];exact c
   .rw[key];exact c
structure CompOk(X:Cx)(scope:a3k)(cl:List (Str×Addr))(xs:List Str):Prop where
 clos:b0J scope X.env=pure cl
 nocell:∀y∈scope.names,y.2≠.cell
 kind:scope.kind=.function
 names:∀y∈scope.names,y.2=.local->scope.names.lookup y.1=a7 .local
 here:∀x∈xs,scope.names.lookup x=a7 .local
 sub:∀y c,cl.lookup y=a7 c->X.env.cells.lookup y=a7 c
 free:∀y,scope.names.lookup y=a7 .free->(X.env.kindOf y=a7 .cell\/X.env.kindOf y=a7 .free)/\∃c,cl.lookup y=a7 c
 own:∀y,scope.names.lookup y=a7 .local->y∉bH xs X.N
 hidn:∀y∈X.N,xs.contains y=b5->scope.names.lookup (pH y)=b0
theorem CompOk.kindOf(O:CompOk X scope cl xs)C y:(a4C scope cl C X.env).kindOf y=(scope.names.lookup y).map λk=>if(k==a2T&&X.env.scope.kind==.function&&X.env.kindOf y==a7 .cell)then a3j else k:=
 DP scope.names y
theorem CompOk.outer(O:CompOk X scope cl xs){C:Addr}(h:(a4C scope cl C X.env).kindOf y=a7 .cell\/(a4C scope cl C X.env).kindOf y=a7 .free):scope.names.lookup y=a7 .free:=by
 rw[O.kindOf]at h;cases q:scope.names.lookup y with
 |none=>rw[q]at h;rcases h with h|h<;>cases h
 |some k=>
  rw[q]at h;cases k with
  |free=>rfl|cell=>exact absurd rfl (O.nocell _<|a1X q)| «local»=>rcases h with h|h<;>simp at h
  |globalExplicit=>rcases h with h|h<;>simp at h
  |globalImplicit=>rcases h with h|h<;>simp at h
theorem CompOk.inv{σ:St}(O:CompOk X scope cl xs)(I:Inv X b2w σ H s)(B:∀b∈U,fZ X b2w H b)(hob:∀b∈U,∃o,s.heap.get? b=a7 o)(hns:d.Ns s.heap.objs.size m)(M:∀b o,s.heap.get? b=a7 o->d.get? b=a7 o):
  Inv (cR X scope cl s.heap.objs.size (bH xs X.N++xs) s H U) [] (σ++a3b xs.length b0) H {s with heap:=d,toks:=tk}:=by
 refine⟨⟨I.ok.mod,O.kind,I.ok.glob,I.ok.blt,a0l _,λy z c Y A=>?_,λy hy=>?_,(λy c h=>by cases h),I.ok.hd,I.ok.frames,.inl rfl,λb G=>?_,λb o e=>I.bs b o e,a1l I.ok.bsz I.sz,λb o e G=>?_,λb G hb2=>?_,I.stack,I.stkFree⟩,
  rfl,I.bare,Un.kept M,⟨m,hns,λi y v Y A w=>?_⟩,λy c h=>?_,I.hok.fresh<|a0l _,λy c h=>I.freeC y c<|O.sub y c h,λp hp=>absurd (show p∈([]:jw)from hp)<|by simp,I.hok.kept M,?_⟩
 .exact I.ok.inj y z c (O.sub y c Y)<|O.sub z c A
 .exact(O.free y<|O.outer hy).2
 .obtain⟨f0,Q,R,x,T,f5⟩:=B b G;obtain⟨o,L⟩:=hob b G;exact⟨a0y<|a0m L,λy c h=>T y c<|O.sub y c h⟩
 .obtain⟨f0,Q,R,x,T,f5⟩:=B b G;rcases x with x|x
  .exact I.ok.noex b o e x
  .exact absurd (a0V (a0m (I.ok.bs b o e).1) x)<|a2Z _
 .obtain⟨f0,Q,R,x,T,f5⟩:=B b G;rcases a0D.mp (I.stkSub b hb2)with z|z
  .exact Q z
  .exact R z
 .have K:i<σ.length:=by
   by_cases K:i<σ.length
   .exact K
   .rw[a1I<|a4j.mp K,a3s]at A;split at A<;>cases A
  rw[a0W K]at A;have J:(bH xs X.N)[i]?=a7 y:=by have n:(bH xs X.N++xs)[i]?=a7 y:=Y;rw[a0W<|by rw[nO,<- I.len];exact K]at n;exact n
  have j:scope.names.lookup y≠a7 .local:=λz=>O.own y z<|a0S J;have E:=O.kindOf s.heap.objs.size y;have Z:X.N[i]?=a7 y:=by
   obtain⟨y0,q1,N⟩:=OA J;rcases N with⟨N,q3⟩|⟨N,q3⟩
   .exfalso;have hz:=O.hidn y0 (a0S q1) N;rw[<- q3]at hz;rw[hz]at E;have a:(a4C scope cl s.heap.objs.size X.env).kindOf y=a7 .local\/(a4C scope cl s.heap.objs.size X.env).kindOf y=a7 .cell\/(a4C scope cl s.heap.objs.size X.env).kindOf y=a7 .free:=w;rw[E]at a;rcases a with a|a|a<;>cases a
   .rw[q3];exact q1
  have a:(a4C scope cl s.heap.objs.size X.env).kindOf y=a7 .cell\/(a4C scope cl s.heap.objs.size X.env).kindOf y=a7 .free:=by
   rcases w with w|w|w
   .exfalso;have a:(a4C scope cl s.heap.objs.size X.env).kindOf y=a7 .local:=w;rw[E]at a;cases q:scope.names.lookup y with
    |none=>rw[q]at a;cases a|some k=>
     rw[q]at a;cases k with
     | «local»=>exact j q|cell=>simp at a|free=>simp only[a0M]at a;split at a<;>cases a|globalExplicit=>simp at a|globalImplicit=>simp at a
   .exact .inl w
   .exact .inr w
  obtain⟨g,c,hc⟩:=O.free y<|O.outer a;obtain⟨m0,hn0,hl0⟩:=I.loc;obtain⟨u,r,l⟩:=hl0 i y v Z A (by rcases g with g|g;exact .inr<|.inl g;exact .inr<|.inr g);refine⟨u,r,.inr ⟨a,c,hc,?_⟩⟩;rcases l with⟨lk,_⟩|⟨_,c',e',z⟩
  .exfalso;rcases g with g|g
   .rw[g]at lk;cases lk
   .rw[g]at lk;cases lk
  .rw[O.sub y c hc]at e';cases e';obtain⟨o,L,hd⟩:=z;exact⟨o,M c o L,hd⟩
 .obtain⟨v,q⟩:=I.cell y c<|O.sub y c h;exact⟨v,by obtain⟨o,L,hd⟩:=q;exact⟨o,M c o L,hd⟩⟩
 .show(σ++a3b xs.length b0).length=(bH xs X.N++xs).length;rw[a0q,a0q,I.len,a3e,nO]
theorem CompOk.back{σ G:St}(I:Inv X b2w σ H s)(x:∀b∈k,fZ X b2w H b)(J:Inv (cR X scope cl s.heap.objs.size N s H k) pl G i j)(p:∀b o,b≠s.heap.objs.size->j.heap.get? b=a7 o->h'.get? b=a7 o):Inv X b2w σ i {j with heap:=h'}:=by
 have u:Un (iI X.stack) k H i s.heap h':=by
  have h:Un (iI X.stack) k H i s.heap j.heap:=J.base;have ne:∀b o,s.heap.get? b=a7 o->b≠s.heap.objs.size:=λb o e=>a0y<|a0m e;refine⟨λb o e n l m=>p b o (ne b o e)<|h.keep b o e n l m,λb o e n l m=>?_,h.free,λb o e m=>?_,h.tups,h.frzs,h.tbls⟩
  .obtain⟨R,q⟩:=h.slot b o e n l m;exact⟨R,p b _ (ne b o e) q⟩
  .obtain⟨Q,q⟩:=h.there b o e m;exact⟨Q,p b _ (ne b o e) q⟩
 have a:i s.heap.objs.size=none:=J.free;have y:HOk X.prog X.w i h':=λb v e=>by
  refine(J.hok b v e).stay (λc w hc q=>p c w ?_ q) (λ_ q=>q) λ_ _ q=>q;rcases hc with z|z
  .rw[z];intro E;rw[E,a]at e;cases e
  .intro E;rw[E,a]at z;cases z
 have A:j.os=s.os:=J.os;obtain⟨Y,g,d,t,B⟩:=j;obtain rfl:B=s.os:=A;have r:=Inv.call (X:=X) (b2w:=b2w) (σ:=σ) (H:=H) (s:=s) (h':=h') (g':=g) (d':=d) (t':=t) (ch:=k) I u y J.bare λb l=>let⟨T,K,U,L,M,O⟩:=x b l;⟨L,K,M,O⟩;exact r
theorem OB(I:Nat->a0i->Prop)(turn:∀n s,I n s->a0A (a0L prog w) A (a3C B) (λr d=>match r with
   |none=>R (.ok .next) d
   |some v=>a0A (a0L prog w) A (a6u a B v) (λ_ e=>a0A (a0L prog w) A (a7r a env v) (λ_ k=>
     a0A (a0L prog w) A (forIn ifs b5 λc r=>if r=b5 then do let ok <- a9G c env (eval c env);pure (a3U ok)else pure (a3U r)) (λok g=>
      if ok=b5 then a0A (a0L prog w) A (eval elt env) (λx l=>
       a0A (a0L prog w) A (call (.builtin "list.append") [p,x]) (λ_ o=>∃m,m<n/\I m o) (λ_ _=>False) l) (λ_ _=>False) g
      else ∃m,m<n/\I m g) (λ_ _=>False) k) (λ_ _=>False) e) (λ_ _=>False) d) (λ_ _=>False) s)n(h:I n s):
  a3q (a0L prog w) A (.compLoop (.ListComp elt [⟨a,iter,ifs,0⟩] scope pos) 0 B p env) R s:=by
 refine codeAny_loop rfl I (λn s E=>?_) n h;show a0A _ A ((compTurn (.ListComp elt [⟨a,iter,ifs,0⟩] scope pos) 0 B p env).onRaise λx=>do noteFrame x env;theTreesLotGoes x) _ _ s;refine wpAny_noted ?_;rw[compTurn_list];refine a0b<|a5K<|a0b<|a1R (turn n s E) (λr d i=>?_) λ_ _ b=>b.elim;cases r with
 |none=>exact a0h i|some v=>
  refine a0b<|a1R i (λ_ e q=>?_) λ_ _ b=>b.elim;refine a0b<|a1R q (λ_ k u=>a0b<|a1R u (λok g j=>?_) λ_ _ b=>b.elim) λ_ _ b=>b.elim;cases ok with
  |false=>exact a0h ⟨rfl,j⟩|true=>exact a0b<|a0b<|a1R j (λx l y=>a0b<|a1R y (λ_ o z=>a0h<|a0h ⟨rfl,z⟩) λ_ _ b=>b.elim) λ_ _ b=>b.elim
noncomputable def pI(μ:Hm)(a:Nat)(y:D):Option Hm:=match μ[a]? with
 |some (.lst xs)=>if xs.length<a0s then a7 (μ.set a<|.lst<|xs++[y])else b0|_=>b0
noncomputable abbrev BD:=D->Hm->Option aG
noncomputable def pJ:BD:=λd _=>a7 [a7 d]
noncomputable def uW(k:Nat):BD:=λd μ=>(bF μ d).bind λxs=>if xs.length=k then a7 (xs.map a7)else b0
noncomputable def hW(a:Hm->Nat->Option (Option D))(h:BD)(c:MT)(e:ME)(b:aG)(g:Nat):Nat->Nat->Hm->Option Hm
 |0,_,_=>b0|n+1,i,μ=>(a μ i).bind λo=>match o with
  |none=>a7 μ|some d=>(h d μ).bind λx=>(c (b++x) μ).bind λp=>match p.1 with
   |true=>(e (b++x) p.2).bind λq=>(pI q.2 g q.1).bind λj=>hW a h c e b g n (i+1) j|false=>hW a h c e b g n (i+1) p.2
noncomputable def gE:MT:=λ_ μ=>a7 (b5,μ)
noncomputable def nP(X:Cx)(ifs:List Expr)(m:MT):Prop:=
 ∀(b2w:jw)(s:a0i)(σ:St)(H:Hp)(Q:Bool->Hp->Prop),Inv X b2w σ H s->tMT X.K m σ H Q->
  a0A (a0L X.prog X.w) X.A (forIn ifs b5 λc r=>if r=b5 then do let ok <- a9G c X.env (eval c X.env);pure (a3U ok)else pure (a3U r)) (TP X b2w σ Q) X.xe s
theorem OC:nP X [] gE:=by intro a s j H Q I h;obtain⟨e,i,g,b,d,R,E,c,k⟩:=h;cases c;exact wpAny_tests_nil ⟨H,I,k e H .refl R⟩
theorem OD(h:PT X c (tMT X.K m)):nP X [c] m:=λb2w s σ H Q I q=>wpAny_tests_one<|h b2w s σ H Q I q
theorem DQ(h:t≠e):∀n i s(Q:gq->a0i->Prop),s.heap.IsListIter e t i->s.heap.IsList t items->i+n<=items.size->
  (∀k,k.IsListIter e t (i+n)->a2X e s.heap k->Q ((items.toList.drop i).take n) {s with heap:=k})->a0A (a0L prog w) A (draw (.ref e) n) Q E s
 |0,i,s,Q,hit,_,_,hQ=>by show a0A _ _ (pure []) Q E s;exact a0h<|by simpa using hQ s.heap hit (a8c ..)
 |n+1,i,s,Q,hit,ht,hle,hQ=>by
  have g:i<items.size:=by lia
  show a0A _ _ (a3C (.ref e) >>= _) Q E s;refine a0b (a6i hit ht (x:=items[i]) (by simp[g]) λl b a=>?_);refine a0b (a1q<|DQ h n (i+1) _ _ b (ht.extBut a.extBut h) (by lia) λj c d=>a0h ?_);have hd:items.toList.drop i=items[i]::items.toList.drop (i+1):=by simp[a8b,g]
  have:=hQ j (by rw[show i+(n+1)=i+1+n by lia];exact c)<|a.trans d;rw[hd,List.take_succ_cons]at this;exact this
theorem OE{Q:gq->a0i->Prop}(q:A.handled=b0)(j:s.heap.IsList t items)(p:∀m,a5q s.heap.objs.size s.heap m->Q items.toList {s with heap:=m}):a0A (a0L prog w) A (b0m (.ref t) items.size b0) Q E s:=by
 have i:t≠s.heap.objs.size:=by obtain⟨o,r,_⟩:=j;exact a0y<|a0m r
 unfold b0m;refine a0b ?_
 .unfold notIterableAtAll;refine a0b<|a4o j.typeIs slot_list_iter.lookup ?_;refine a0h ?_;simp only[a0t,if_false];refine a0b<|a1q<|a3Q j ?_;refine a0b (a1q<|DQ i items.size 0 _ _ ⟨_,a0o _ rfl,rfl,rfl⟩ (j.push _) (by lia) λk c a=>?_);have h:List.take items.size (List.drop 0 items.toList)=items.toList:=by rw[b0A];exact a5I<|by simp
  rw[h];rw[if_neg<|by simp];have g:k.IsList t items:=(j.push _).extBut a.extBut i;refine a0b (a1q<|a6y q c g (by simp) λl d=>?_);simp only[Option.isSome_none,a0t,if_false];refine a0h<|p l λb o n e=>d b o n<|a.extBut b o n<|a0e _ e
theorem OF{x1}(d:A.handled=b0)(g:s.heap.IsList t items)(e:(a2Y a env).length=items.size)(b:(a2Y a env).findIdx? (·.1)=b0)(h:∀c,a5q s.heap.objs.size s.heap c->a0A (a0L prog w) A (a7k ((a2Y a env).map (·.2)) items.toList) Q E {s with heap:=c}):
  a0A (a0L prog w) A (a7r (.Tuple a x1 pos) env<|.ref t) Q E s:=by
 rw[b1V];refine a0b<|a5K ?_;unfold unpack;rw[e,b];exact a0b<|a1q<|OE d g h
noncomputable def mB:aG->List Nat->List D->aG
 |ρ,i::is,x::xs=>mB (ρ.set i<|a7 x) is xs|ρ,_,_=>ρ
noncomputable def c4(is:List Nat):MG:=λd a μ=>(bF μ d).bind λxs=>if xs.length=is.length then a7 (mB a is xs)else b0
noncomputable def uX:List Nat->oZ
 |[]=>Cz|i::r=>CA (xZ i)<|uX r
theorem zM:∀is{vs}{xs}{σ}{b}{Q},IsDs K π n H vs xs->En K π n H σ b->xs.length=is.length->(∀a,En K π n H a (mB b is xs)->Q a H)->uX is vs σ H Q
 |[],vs,xs,σ,b,Q,h,E,hl,k=>by
  cases h with
  |nil=>exact⟨rfl,k σ E⟩|cons h t=>cases hl
 |i::is,vs,xs,σ,b,Q,h,E,hl,k=>by
  cases h with
  |nil=>cases hl|cons h t=>exact⟨_,_,rfl,zM is t (E.set h i) (by simpa using hl) k⟩
theorem OG(hc:X.calm=b5)(h:rA X es (uX is))(K:(a2Y es X.env).length=is.length:=by rfl)(n:(a2Y es X.env).findIdx? (·.1)=none:=by rfl):
  PG X (.Tuple es k pos) (tMG X.K<|c4 is):=by
 intro i s x H v u Q I r hw;obtain⟨N,ρ,M,d,ρ',R,E,hd,U,L⟩:=hw;obtain⟨J,j,A⟩:=a0a.mp U;split at A
 .rename_i w;cases A;have m:(∃a g,v=.ref a/\SqT X.K H a g/\IsDs X.K N M.length H g J)\/(∃a g,v=.ref a/\SqL X.K H a g/\IsDs X.K N M.length H g J):=by
   cases hd with
   |tup q t=>cases j;exact .inl ⟨_,_,rfl,q,t⟩|rol q t=>cases j;exact .inr ⟨_,_,rfl,q.sq,t⟩|@loc a ha=>
    simp only[bF]at j;split at j
    .rename_i ys Y;cases j;obtain⟨g,O,T⟩:=R.lst a J Y;exact .inr ⟨_,g,rfl,.of O,T⟩
    .cases j
   |_=>cases j
  rcases m with⟨a,g,rfl,q,t⟩|⟨a,g,rfl,q,t⟩
  .cases r;obtain⟨l,p,B,Z⟩:=I.tuple q;have c:l.length=is.length:=by rw[<- p.length,t.length];exact w
   refine b1U (I.ok.hd hc) B (by simp[K,c]) n λz G=>?_;have y:Inv X i x H {s with heap:=z}:=I.kept (t':=s.toks) λb o e=>G b o (a0y<|a0m e) e;exact h i _ x H g _ Q y (by simpa using p)<|zM is t E w L
  .cases r;obtain⟨l,p,B,Z⟩:=I.list q;have c:l.length=is.length:=by rw[<- p.length,t.length];exact w
   refine OF (I.ok.hd hc) B.isList (by simp[K,c]) n λz G=>?_;have y:Inv X i x H {s with heap:=z}:=I.kept (t':=s.toks) λb o e=>G b o (a0y<|a0m e) e;exact h i _ x H g _ Q y (by simpa using p)<|zM is t E w L
 .cases A
noncomputable def hX(m:ME)(g:MG):MS:=λb μ=>(m b μ).bind λp=>(g p.1 b p.2).map λa=>(.nx,a,p.2)
theorem OH(q:PE X e (tM X.K m))(r:PG X tg (tMG X.K g))(s:a7h [tg] e pos.line X.env=pure false:=by rfl)(hw:a3K [tg] e X.env=pure none:=by rfl)(h1:(a2Y [tg] X.env).map (·.2)=[a7r tg X.env]:=by rfl):PS X (.Assign [tg] e pos) (tMS X.K<|hX m g):=iJ (Li q r s hw h1)<|by
 rintro E I H ⟨y,l,v,B,z,w,R,h,a,k⟩;obtain⟨⟨x,c⟩,h1,a⟩:=a0a.mp a;obtain⟨A,p,a⟩:=a0g.mp a;cases a;exact⟨y,l,v,x,c,R,h,h1,λb G o j i u=>⟨b,l,_,x,_,i,h.mono j,u,p,λd n=>k b d o j i n⟩⟩
noncomputable def rN:MF:=λds μ=>match ds with
 |[.str z]=>if z.length<=a0s then a7 (.int z.length,μ)else b0|[x]=>(bF μ x).map λa=>(.int a.length,μ)|_=>b0
noncomputable def zN(K:a0c):gw->Hp->VK->Prop:=λxs H Q=>(∃p a,xs=[.ref p]/\(SqL K H p a\/SqT K H p a)/\Q (.int a.length) H)\/(∃z,xs=[.str z]/\z.length<=a0s/\Q (.int z.length) H)
theorem call_lenM:CallR X (.builtin "len") (zN X.K):=call_len_seq.or MY
theorem nQ(R:Rp K π H μ)(h:IsD K π μ.length H v x)(e:bF μ x=a7 xs):∃p vs,v=.ref p/\(SqL K H p vs\/SqT K H p vs)/\IsDs K π μ.length H vs xs:=by
 cases h with
 |tup q t=>cases e;exact⟨_,_,rfl,.inr q,t⟩|rol q t=>cases e;exact⟨_,_,rfl,.inl q.sq,t⟩|@loc a g=>
  simp only[bF]at e;split at e
  .rename_i i d;cases e;obtain⟨vs,b,c⟩:=R.lst a xs d;exact⟨_,vs,rfl,.inl<|.of b,c⟩
  .cases e
 |_=>cases e
theorem DR:dJ K rN (zN K):=by
 intro b H o m d j l Q R i a k;unfold rN at a;split at a
 .split at a
  .rename_i g;cases a;cases i with
   |cons i t=>cases i;cases t;exact .inr ⟨_,rfl,g,k b _ H .refl R<|.int _⟩
  .cases a
 .obtain⟨n,c,e⟩:=a0g.mp a;cases e;cases i with
  |cons i t=>cases t;obtain⟨p,h,rfl,q,hd⟩:=nQ R i c;refine .inl ⟨p,h,rfl,q,?_⟩;rw[hd.length];exact k b _ H .refl R<|.int _
 .cases a
noncomputable def nR:MF:=λds μ=>match ds with
 |[.int i]=>a7 (.int i,μ)|[.bl b]=>a7 (.int<|if b then 1 else 0,μ)|_=>b0
theorem OI:dJ K nR (λxs H Q=>(∃i,xs=[.int i]/\Q (.int i) H)\/∃k,xs=[.bl k]/\Q (.int<|if k then 1 else 0) H):=by
 intro b H g xs d c e Q R i a k;unfold nR at a;split at a
 .cases a;cases i with
  |cons i t=>cases i;cases t;exact .inl ⟨_,rfl,k b _ H .refl R<|.int _⟩
 .cases a;cases i with
  |cons i t=>cases i;cases t;exact .inr ⟨_,rfl,k b _ H .refl R<|.int _⟩
 .cases a
noncomputable def rO:MF:=λds μ=>match ds with
 |[x]=>(bF μ x).map λa=>(.loc μ.length,μ++[.lst a])|_=>b0
theorem DS:dJ K rO (λxs H Q=>∃p a,xs=[.ref p]/\(SqL K H p a\/SqT K H p a)/\∀l,H l=b0->Q (.ref l) (aK H l<|.lst a)):=by
 intro r H o xs d m n Q R i b k;unfold rO at b;split at b
 .obtain⟨a,g,h⟩:=a0g.mp b;cases h;cases i with
  |cons i t=>cases t;obtain⟨p,c,rfl,q,hd⟩:=nQ R i g;refine⟨p,c,rfl,q,λl j=>?_⟩;obtain⟨e,R2,_⟩:=R.alloc (c:=.lst a) (o:=.lst c) j hd;exact k _ _ _ e R2 gC
 .cases b
noncomputable def DT(K:a0c):gw->Hp->VK->Prop:=λvs H Q=>∃π μ x v t c b,vs=[v,.ty c]/\Rp K π H μ/\IsD K π μ.length H v x/\zL μ x=a7 t/\uV t c=a7 b/\Q (.bl b) H
theorem OJ:dJ K l9 (DT K):=by
 intro c H p o d m n Q R i a k;unfold l9 at a;split at a
 .obtain⟨t,e,a⟩:=a0a.mp a;obtain⟨b,g,a⟩:=a0g.mp a;cases a;cases i with
  |cons i j=>
   cases j with
   |cons h l=>cases l;cases h;exact⟨c,_,_,_,t,_,b,rfl,R,i,e,g,k c _ H .refl R<|.bl _⟩
 .cases a
theorem OK:CallR X (.builtin "isinstance") (DT X.K):=by
 intro G s Z H N us Q I r h;obtain⟨L,μ,x,v,t,c,b,rfl,R,i,d,k,q⟩:=h;obtain⟨u,u2,rfl,m,U⟩:=CL r;cases U;have fin:∀J,EP X G Z Q (.bool b) {s with toks:=J}:=λJ=>⟨.bl b,H,I.tok J,rfl,q⟩;cases i with
 |non=>cases d;cases m;exact a2P PySem.W.kitx_none I.kIn a3v (kZ X.K (by simp) k) (λz=>nomatch z) fin|bl y=>cases d;cases m;exact a2P PySem.W.kitx_bool I.kIn a3v (kZ X.K (by simp) k) (λz=>nomatch z) fin|int y=>cases d;obtain⟨t,rfl⟩:=m;exact a2P PySem.W.kitx_int I.kIn a3v (kZ X.K (by simp) k) (λz=>nomatch z) fin|str y=>cases d;obtain⟨t,rfl⟩:=m;exact a2P PySem.W.kitx_str I.kIn a3v (kZ X.K (by simp) k) (λz=>nomatch z) fin|tup g t=>cases d;cases m;obtain⟨B,M,p,_⟩:=I.tuple g;obtain⟨o,e,j,_⟩:=p;exact a2P PySem.W.kitx_tuple I.kIn ⟨o,e,j⟩ (kZ X.K (by simp) k) (λz=>nomatch z) fin|rol g t=>cases d;cases m;obtain⟨B,M,p,_⟩:=I.list g.sq;obtain⟨o,e,j,_⟩:=p.isList;exact a2P a8P I.kIn ⟨o,e,j⟩ (kZ X.K (by simp) k) (λz=>nomatch z) fin|@loc a ha=>
  cases m;simp only[zL]at d;split at d
  .rename_i N A;cases d;obtain⟨E,w,h4⟩:=R.lst a N A;obtain⟨B,M,p,_⟩:=I.list<|SqL.of (K:=X.K) w;obtain⟨o,e,j,_⟩:=p.isList;exact a2P a8P I.kIn ⟨o,e,j⟩ (kZ X.K (by simp) k) (λz=>nomatch z) fin
  .rename_i l A;cases d;obtain⟨E,w,_⟩:=R.dK a l A;obtain⟨_,_,Y,_,p⟩:=(show ObjOk X.prog X.w H s.heap (L a) (.dK E)from I.hok _ _ w);obtain⟨o,T,O,e,j,_⟩:=p;exact a2P a8Q I.kIn ⟨o,e,j.1⟩ (kZ X.K (by simp) k) (λz=>nomatch z) fin
  .rename_i l A;cases d;obtain⟨E,w,_⟩:=R.dT a l A;obtain⟨⟨Y,_,_,_,o,T,O,e,j,_⟩,_⟩:=(show ObjOk X.prog X.w H s.heap (L a) (aM (L a) E)from I.hok _ _ w);exact a2P a8Q I.kIn ⟨o,e,j.1⟩ (kZ X.K (by simp) k) (λz=>nomatch z) fin
  .cases d
 |ty n=>cases d
inductive IsKs (K:a0c)(π:Nat->Addr)(n:Nat)(H:Hp):List (cA×V)->List (cA×D)->Prop where
 |nil:IsKs K π n H [] []
 |cons {k:cA}{v:V}{d:D}{vs:List (cA×V)}{ds:List (cA×D)}(h:IsD K π n H v d)(t:IsKs K π n H vs ds):IsKs K π n H ((k,v)::vs)<|(k,d)::ds
theorem IsKs.length(h:IsKs K π n H vs ds):vs.length=ds.length:=by
 induction h with
 |nil=>rfl|cons h t a=>rw[a0Q,a0Q,a]
noncomputable def OL(K:a0c)(a:List (ME×ME)):List (TE×TE):=a.map λp=>(tM K p.1,tM K p.2)
theorem fF(r:Room k A):A.units+1<a2e:=by have:=r.un;lia
noncomputable def cK(a:ME):ME:=λb μ=>(a b μ).bind λp=>(zF p.1).map λd=>(d,p.2)
noncomputable def gG(cells:List (Str×Addr)):List (Str×a3r)->List (Str×Addr)->List (Str×Addr)
 |[],acc=>acc|(n,k)::r,acc=>if k=.free then(match cells.lookup n with|some c=>gG cells r ((n,c)::acc)|none=>gG cells r acc)else gG cells r acc
theorem DU:∀names a,(∀y∈names,y.2=.free->∃c,env.cells.lookup y.1=a7 c)->
  (forIn names a λx d=>(do
   if x.2==.free then(do let c <- cellOf env x.1;pure (a3U<|(x.1,c)::d))else pure (a3U d):a9X (ForInStep<|List<|Str×Addr)))=pure (gG env.cells names a)
 |[],a,_=>rfl|(n,k)::r,a,h=>by
  have g:=λa=>DU r a λy i=>h y<|a0F _ i;rw[b0v];by_cases b:k=.free
  .subst b;obtain⟨c,hc⟩:=h (n,.free) (a0P ..) rfl;dsimp only at hc;have e:cellOf env n=pure c:=by unfold cellOf;rw[hc]
   simp only[gG,hc,e,beq_self_eq_true,if_true,pure_bind];exact g _
  .have e:(k==a2T)=false:=by simpa using b
   simp only[gG,e,b,if_false,a0t,pure_bind];exact g _
theorem OM(h:∀y∈scope.names,y.2=.free->∃c,env.cells.lookup y.1=a7 c):b0J scope env=pure (gG env.cells scope.names []):=by have:=DU (env:=env) scope.names [] h;unfold b0J;simp only[bind_pure]at *;exact this
theorem uY:∀names a,(∀y c,a.lookup y=a7 c->cells.lookup y=a7 c)->∀y c,(gG cells names a).lookup y=a7 c->cells.lookup y=a7 c
 |[],a,h=>h|(n,k)::r,a,h=>by
  unfold gG;split
  .split
   .rename_i c0 hc;refine uY r _ λy c e=>?_;rw[a3T]at e;by_cases b:y=n
    .subst b;simp only[beq_self_eq_true]at e;cases e;exact hc
    .have:(y==n)=false:=by simpa using b
     rw[this]at e;exact h y c e
   .exact uY r a h
  .exact uY r a h
theorem uZ:∀names a y,(∃c,a.lookup y=a7 c)->∃c,(gG cells names a).lookup y=a7 c
 |[],a,y,h=>h|(n,k)::r,a,y,h=>by
  unfold gG;split
  .split
   .refine uZ r _ y ?_;rw[a3T];by_cases b:(y==n)=b5
    .rw[b];exact⟨_,rfl⟩
    .have:(y==n)=false:=by simpa using b
     rw[this];exact h
   .exact uZ r a y h
  .exact uZ r a y h
theorem u3:∀names a y,(y,a2T)∈names->(∃c,cells.lookup y=a7 c)->∃c,(gG cells names a).lookup y=a7 c
 |[],a,y,h,_=>by cases h
 |(n,k)::r,a,y,h,hc=>by
  unfold gG;rcases a0D.mp h with h|h
  .cases h;obtain⟨c,hc⟩:=hc;rw[if_pos rfl,hc];exact uZ r _ _ ⟨c,by simp[a3T]⟩
  .split
   .split
    .exact u3 r _ y h hc
    .exact u3 r _ y h hc
   .exact u3 r _ y h hc
structure CompSt(osc:a3k)(N:List Str)(scope:a3k)(xs:List Str):Prop where
 nocell:∀y∈scope.names,y.2≠.cell
 kind:scope.kind=.function
 names:∀y∈scope.names,y.2=.local->scope.names.lookup y.1=a7 .local
 here:∀x∈xs,scope.names.lookup x=a7 .local
 free:∀y∈scope.names,y.2=.free->osc.names.lookup y.1=a7 .cell\/osc.names.lookup y.1=a7 .free
 own:∀y∈scope.names,y.2=.local->y.1∉bH xs N
 nd:N.Nodup
 hnd:(bH xs N).Nodup
 hidn:∀y∈N,xs.contains y=b5->scope.names.lookup (pH y)=b0
theorem CompSt.ok(S:CompSt X.env.scope X.N scope xs)(ok:X.Ok):CompOk X scope (gG X.env.cells scope.names []) xs:=by
 have has:∀y∈scope.names,y.2=.free->∃c,X.env.cells.lookup y.1=a7 c:=λy d b=>ok.has y.1 (S.free y d b);refine⟨OM has,S.nocell,S.kind,S.names,S.here,uY scope.names [] (λy c e=>by cases e),λy e=>?_,λy e=>?_,S.hidn⟩
 .have a:=a1X e;exact⟨S.free _ a rfl,u3 scope.names [] y a (has _ a rfl)⟩
 .exact S.own _ (a1X e) rfl
noncomputable def pK(i j:Nat)(ms:MA):MS:=λa μ=>(ms a μ).bind λp=>match p.1 with
 |[v,w]=>a7 (.nx,(a.set i<|a7 v).set j<|a7 w,p.2)|_=>b0
theorem ON(hc:X.calm=b5)(v:X.N.Nodup)(z:X.N[i]?=a7 x)(A:X.N[j]?=a7 y)(e:i≠j)(G:X.env.scope.names.lookup x=a7 .local)(I:X.env.scope.names.lookup y=a7 .local)(w:PA X [a,b] (tMA X.K ms))(hw:a3K [.Tuple [.Name x m,.Name y py] l pt] (.Tuple [a,b] h c) X.env=pure (a7 [x,y]))(B:a7h [.Tuple [.Name x m,.Name y py] l pt] (.Tuple [a,b] h c) pos.line X.env=pure false:=by rfl):
  PS X (.Assign [.Tuple [.Name x m,.Name y py] l pt] (.Tuple [a,b] h c) pos) (tMS X.K<|pK i j ms):=iJ (Ll hc v z A e G I w hw B)<|by
 rintro E Z H ⟨O,Q,M,U,T,N,R,p,d,k⟩;obtain⟨⟨ds,n⟩,u,d⟩:=a0a.mp d;refine⟨O,Q,M,ds,n,R,p,u,λo Y r q s g=>?_⟩;dsimp only at d;split at d
 .cases d;cases g with
  |cons g K=>
   cases K with
   |cons J L=>cases L;exact⟨_,_,rfl,k o _ r q s<|((p.mono q).set g i).set J j⟩
 .cases d
noncomputable def c9(e:Expr):Bool:=!(e.ctorIdx==22)
theorem eM(h:c9 e=b5):a0T (e::es) env=(b3,eval e env)::a0T es env:=by cases e<;>first|rfl|cases h
theorem jJ:∀{es},es.all c9=b5->(a2F pos<|a0T es env).any (·.1)=b3
 |[],_=>rfl|e::es,h=>by rw[a1e,a0j]at h;rw[eM h.1];have:=jJ (pos:=pos) (env:=env) h.2;simpa[a2F]using this
theorem u4(h:c9 e=b5):a2Y (e::es) env=(b3,a7r e env)::a2Y es env:=by cases e<;>first|rfl|cases h
theorem DV:∀{es},es.all c9=b5->(a2Y es env).length=es.length
 |[],_=>rfl|e::es,h=>by rw[a1e,a0j]at h;rw[u4 h.1,a0Q,a0Q,DV h.2]
theorem DW:∀{es},es.all c9=b5->(a2Y es env).findIdx? (·.1)=b0
 |[],_=>rfl|e::es,h=>by rw[a1e,a0j]at h;rw[u4 h.1,List.findIdx?_cons,DW h.2];rfl
structure QE(X:Cx)(e:Expr)(m:ME):Prop where
 h:PE X e<|tM X.K m
structure QT(X:Cx)(e:Expr)(m:MT):Prop where
 h:PT X e<|tMT X.K m
structure QW(X:Cx)(e:Expr)(m:MT):Prop where
 h:PW X e<|tMT X.K m
structure QA(X:Cx)(es:List Expr)(m:MA)(n:Nat):Prop where
 h:PA X es<|tMA X.K m
 l:∀ρ μ ds μ',m ρ μ=a7 (ds,μ')->ds.length=n
 s:es.all c9=b5
structure QO(X:Cx)(e:Option Expr)(m:MO):Prop where
 h:PO X e<|tMO X.K m
structure QS(X:Cx)(st:Stmt)(m:MS):Prop where
 h:PS X st<|tMS X.K m
structure QB(X:Cx)(st:List Stmt)(m:MS):Prop where
 h:PSs X st<|tMS X.K m
structure QG(X:Cx)(e:Expr)(g:MG):Prop where
 h:PG X e<|tMG X.K g
structure QGs(X:Cx)(es:List Expr)(is:List Nat):Prop where
 h:rA X es<|uX is
 n:es.length=is.length
 s:es.all c9=b5
structure QI(X:Cx)(ifs:List Expr)(m:MT):Prop where
 h:nP X ifs m
structure QP(X:Cx)(pos:a1V)(keys:List (Option Expr))(values:List Expr)(prs:List (ME×ME)):Prop where
 h:Mu X pos keys values<|OL X.K prs
 a:keys.all (·.isSome)=b5
 l:keys.length=values.length
theorem OO i(g:X.N[i]?=a7 x:=by rfl)(h:nE X.env.scope x:=by first|exact a8i rfl|exact a6O (a8i rfl)|exact a6O<|a6O rfl)(hd:(x==("__debug__":Str))=false:=by decide)(d:(x==("__classdict__":Str))=false:=by decide):QE X (.Name x pos) (aA i):=⟨Nr i<|Cv g h hd d⟩
theorem OP:QE X (.Constant (.int i) j pos) (mC<|.int i):=⟨Nt⟩
theorem OQ:QE X (.Constant (.bool i) j pos) (mC<|.bl i):=⟨Nu⟩
theorem OR:QE X (.Constant (.str i) j pos) (mC<|.str i):=⟨Nv⟩
theorem OS:QE X (.Constant .none j pos) (mC .non):=⟨Nw⟩
theorem pL(i:OpR X (a4a op) r)(h:c8 X.K f r)(d:QE X a ma)(g:QE X b mb):QE X (.BinOp a op b pos) (aC f ma mb):=⟨Nx i h d.h g.h⟩
theorem OT(d:QE X a ma)(g:QE X b mb):QE X (.BinOp a .Add b pos) (aC bI ma mb):=pL Oo Oq d g
theorem OU(d:QE X a ma)(g:QE X b mb):QE X (.BinOp a .Sub b pos) (aC cB ma mb):=pL LH Of d g
theorem OV(d:QE X a ma)(g:QE X b mb):QE X (.BinOp a .Mult b pos) (aC bG ma mb):=pL Oc Oh d g
theorem OW(d:QE X a ma)(g:QE X b mb):QE X (.BinOp a .FloorDiv b pos) (aC dM ma mb):=pL Od Oi d g
theorem OX(d:QE X a ma)(g:QE X b mb):QE X (.BinOp a .Mod b pos) (aC bC ma mb):=pL LJ Oj d g
theorem OY(d:QE X a ma)(g:QE X b mb):QE X (.BinOp a .Pow b pos) (aC kY ma mb):=pL Oe Ol d g
theorem OZ(d:QE X a ma):QE X (.UnaryOp .USub a pos) (cK ma):=⟨Ot d.h⟩
theorem O0(d:QE X a ma):QE X (.UnaryOp .Not a pos) (o9 ma):=⟨NI d.h⟩
theorem O1(h:Room k X.A)(d:QE X a ma)(g:QE X b mb):QE X (.Compare a [.Eq] [b] pos) (aC (aT b3) ma mb):=⟨fA (DK<|uU h) uT d.h g.h<|d5 _⟩
theorem O2(h:Room k X.A)(d:QE X a ma)(g:QE X b mb):QE X (.Compare a [.NotEq] [b] pos) (aC (aT b5) ma mb):=⟨fA (DL<|uU h) uT d.h g.h<|d5 _⟩
theorem O3(d:QE X a ma)(g:QE X b mb):QE X (.Compare a [.Lt] [b] pos) (aC jI ma mb):=⟨fA yF iO d.h g.h<|d5 _⟩
theorem O4(d:QE X a ma)(g:QE X b mb):QE X (.Compare a [.LtE] [b] pos) (aC pG ma mb):=⟨fA yG iO d.h g.h<|d5 _⟩
theorem O5(d:QE X a ma)(g:QE X b mb):QE X (.Compare a [.Gt] [b] pos) (aC iP ma mb):=⟨fA yH iO d.h g.h<|d5 _⟩
theorem O6(d:QE X a ma)(g:QE X b mb):QE X (.Compare a [.GtE] [b] pos) (aC rM ma mb):=⟨fA yI iO d.h g.h<|d5 _⟩
noncomputable def fL(e:Expr):Bool:=!(e.ctorIdx==7)
theorem iQ(h:fL b=b5):a3L op b=false:=by cases b<;>first|rfl|cases h
theorem O7(h:QE X a m):QE X (.BoolOp op [a] pos) m:=⟨NF h.h⟩
theorem O8{bV:List Expr}(d:QE X a ma)(g:QE X (.BoolOp .And (b::bV) pos) mb):QE X (.BoolOp .And (a::b::bV) pos) (gA ma mb):=⟨NG d.h g.h⟩
theorem O9{bV:List Expr}(d:QE X a ma)(g:QE X (.BoolOp .Or (b::bV) pos) mb):QE X (.BoolOp .Or (a::b::bV) pos) (yW ma mb):=⟨NH d.h g.h⟩
theorem Pa{mt:MT}(hc:QT X c mt)(d:QE X a ma)(g:QE X b mb):QE X (.IfExp c a b pos) (fK mt ma mb):=⟨NJ hc.h d.h g.h⟩
theorem Pb:QA X [] aD 0:=⟨NK,Dv,rfl⟩
theorem Pc(g:QE X e m)(d:QA X es ms n)(h:c9 e=true:=by rfl):QA X (e::es) (aB m ms) (n+1):=⟨NL g.h d.h<|eM h,NP d.l,by rw[a1e,h,d.s];rfl⟩
theorem Pd(h:QA X es ms n):QE X (.Tuple es d pos) (aX ms):=⟨NM h.h⟩
theorem Pe(h:QA X es ms n):QE X (.List es pos) (cQ ms):=⟨NN h.h⟩
noncomputable def pM(e:Expr):Bool:=!(e.ctorIdx==26)
theorem DX(h:pM b=b5):yS b:=by intro o i;cases b<;>first|rfl|cases h
theorem Pf(d:QE X a ma)(g:QE X b mb)(h:pM b=true:=by rfl):QE X (.Subscript a b pos) (aC gY ma mb):=⟨NU d.h g.h<|DX h⟩
theorem Pg:QO X b0 gZ:=⟨NV⟩
theorem Ph(h:QE X e m):QO X (a7 e) (iM m):=⟨NW h.h⟩
theorem Pj(i:QE X a ma)(j:QO X lo h)(k:QO X d g):QE X (.Subscript a (.Slice lo d b0 l) pos) (nM ma h g):=⟨NY i.h j.h k.h⟩
theorem Pk(F:FnOk X.prog X.w X.K X.mg X.base eE k f i ps (eF X.K n j))(s:Room k X.A)(r:X.mg x=a7 (.ref f))(q:a2l X.K (.ref f)=b5)(l:Binds X.K i ps [])(d:QA X (e::es) ms n)(o:Gl X x:=by rfl)(g:(x==("__debug__":Str))=false:=by decide):QE X (.Call (.Name x p) (e::es) [] pos) (aF j ms):=by
 have h:=d.s;rw[a1e,a0j]at h;exact⟨NQ F s o r q l d.h d.l g (eM h.1)<|jJ h.2⟩
theorem zO{id:String}(hc:CallR X (.builtin id) r)(i:dJ X.K f r)(k:X.mg x=b0)(o:a2q x=a7 (.builtin id))(h:QA X (e::es) ms n)(j:Gl X x:=by rfl)(l:x ≠ "__name__":=by decide)(d:(x==("__debug__":Str))=false:=by decide):QE X (.Call (.Name x p) (e::es) [] pos) (aF f ms):=by
 have g:=h.s;rw[a1e,a0j]at g;exact⟨NR hc i j k o h.h l d (eM g.1)<|jJ g.2⟩
theorem DY(hc:CallR X (.type T) r)(i:dJ X.K f r)(k:X.mg x=b0)(o:a2q x=a7 (.type T))(h:QA X (e::es) ms n)(j:Gl X x:=by rfl)(l:x ≠ "__name__":=by decide)(d:(x==("__debug__":Str))=false:=by decide):QE X (.Call (.Name x p) (e::es) [] pos) (aF f ms):=by
 have g:=h.s;rw[a1e,a0j]at g;exact⟨NS hc i j k o h.h l d (eM g.1)<|jJ g.2⟩
theorem Pl(g:X.mg x=b0)(i:a2q x=a7 (.type n))(d:Gl X x:=by rfl)(h:x ≠ "__name__":=by decide)(hd:(x==("__debug__":Str))=false:=by decide):QE X (.Name x pos) (mC<|.ty n):=⟨Ou d g i h hd⟩
theorem Pm(h:Room k X.A)(d:QE X a ma)(g:QE X b mb):QT X (.Compare a [.Eq] [b] pos) (aS<|aC (aT b3) ma mb):=⟨fD (DK<|uU h) uT d.h g.h<|d5 _⟩
theorem Pn(h:Room k X.A)(d:QE X a ma)(g:QE X b mb):QT X (.Compare a [.NotEq] [b] pos) (aS<|aC (aT b5) ma mb):=⟨fD (DL<|uU h) uT d.h g.h<|d5 _⟩
theorem Po(d:QE X a ma)(g:QE X b mb):QT X (.Compare a [.Lt] [b] pos) (aS<|aC jI ma mb):=⟨fD yF iO d.h g.h<|d5 _⟩
theorem Pp(d:QE X a ma)(g:QE X b mb):QT X (.Compare a [.LtE] [b] pos) (aS<|aC pG ma mb):=⟨fD yG iO d.h g.h<|d5 _⟩
theorem Pq(d:QE X a ma)(g:QE X b mb):QT X (.Compare a [.Gt] [b] pos) (aS<|aC iP ma mb):=⟨fD yH iO d.h g.h<|d5 _⟩
theorem Pr(d:QE X a ma)(g:QE X b mb):QT X (.Compare a [.GtE] [b] pos) (aS<|aC rM ma mb):=⟨fD yI iO d.h g.h<|d5 _⟩
noncomputable def zP:Expr->Bool
 |.UnaryOp .Not ..=>b3|.BoolOp ..=>b3|.IfExp ..=>b3|.Compare ..=>b3|_=>b5
theorem Pt(h:zP e=b5):∀d,a9G e env d=(do let v <- d;a8r e.pos;holding [v] (truthy v)):=by
 intro d;cases e<;>first|rfl|cases h|skip
 rename_i g x p;cases g<;>first|rfl|cases h
theorem Pu{mt:MT}(d:QT X a mt):QT X (.UnaryOp .Not a pos) (iL mt):=⟨ND d.h⟩
theorem Pw{mt:MT}(d:QT X a mt):QW X (.BoolOp .And [a] pos) mt:=⟨Ny d.h⟩
theorem Px{mt:MT}(d:QT X a mt):QW X (.BoolOp .Or [a] pos) mt:=⟨Nz d.h⟩
theorem Py{mt:MT}{bV:List Expr}(d:QT X a mt)(g:QW X (.BoolOp .And (b::bV) pos) mu):QW X (.BoolOp .And (a::b::bV) pos) (jH mt mu):=⟨NA d.h g.h⟩
theorem PB{mt:MT}{bV:List Expr}(d:QT X a mt)(g:QW X (.BoolOp .Or (b::bV) pos) mu):QW X (.BoolOp .Or (a::b::bV) pos) (iK mt mu):=⟨NC d.h g.h⟩
theorem PC{mt:MT}(h:QW X e mt):QT X e mt:=⟨h.h.pt⟩
theorem PD:QI X [] gE:=⟨OC⟩
theorem PF{mt:MT}(h:QT X c mt):QI X [c] mt:=⟨OD h.h⟩
theorem PH:QB X [] bA:=⟨NZ⟩
theorem PL{bV:List Stmt}(h1:QS X st ms)(d:QB X bV mr):QB X (st::bV) (aH ms mr):=⟨N0 h1.h d.h⟩
theorem PM(h1:QS X st ms):QB X [st] ms:=⟨N1 h1.h⟩
theorem PN:QS X (.Pass pos) bA:=⟨N2⟩
theorem PQ(d:QE X e m):QS X (.Return (a7 e) pos) (aQ m):=⟨N3 d.h⟩
noncomputable def jK(e:Expr):Bool:=!(e.ctorIdx==8||e.ctorIdx==9||e.ctorIdx==10)
theorem u5(h:jK e=b5):a4M e t n env=pure false:=by cases e<;>first|rfl|cases h
theorem PR(d:QE X e m)(h:jK e=true:=by rfl):QS X (.Expr e pos) (cY m):=⟨N4 d.h<|u5 h⟩
theorem PU{mt:MT}(hc:QT X c mt)(d:QB X body ms)(h:QB X orelse mu):QS X (.If c body orelse pos) (aZ mt ms mu):=⟨N5 hc.h d.h h.h⟩
theorem PV i(j:X.N.Nodup)(k:QE X e m)(h:jK e=true:=by rfl)(o:X.N[i]?=a7 x:=by rfl)(p:Loc X.env.scope x:=by first|exact a8i rfl|exact a6O rfl)(l:X.fn x=b5\/X.env.scope.names.lookup x=a7 .local:=by first|exact .inl rfl|exact .inr rfl):QS X (.Assign [.Name x d] e pos) (aR i m):=⟨Dz j o p k.h (u5 h) l⟩
theorem PX i(d:X.N.Nodup)(j:X.N[i]?=a7 x:=by rfl)(k:Loc X.env.scope x:=by first|exact a8i rfl|exact a6O rfl)(h:X.fn x=b5\/X.env.scope.names.lookup x=a7 .local:=by first|exact .inl rfl|exact .inr rfl):QG X (.Name x pos) (cZ i):=⟨DN d j k h⟩
theorem DZ:QGs X [] []:=⟨Lg,rfl,rfl⟩
theorem D0 i(h:X.N.Nodup)(d:QGs X es is)(k:X.N[i]?=a7 x:=by rfl)(l:Loc X.env.scope x:=by first|exact a8i rfl|exact a6O rfl)(j:X.fn x=b5\/X.env.scope.names.lookup x=a7 .local:=by first|exact .inl rfl|exact .inr rfl):QGs X (.Name x pos::es) (i::is):=
 ⟨Lh (Cy h k l j) d.h<|by rw[u4 (e:=.Name x pos) rfl];rfl,by rw[a0Q,a0Q,d.n],by rw[a1e,d.s];rfl⟩
theorem zQ(h:QGs X es is)(hc:X.calm=true:=by rfl):QG X (.Tuple es k pos) (c4 is):=⟨OG hc h.h ((DV h.s).trans h.n)<|DW h.s⟩
noncomputable def zR(e:Expr):Bool:=!(e.ctorIdx==25)
theorem PY(h:zR e=b5):a3K [.Tuple es k pt] e env=pure none:=by cases e<;>first|rfl|cases h
theorem PZ(d:QE X e m)(i:QG X (.Tuple es k pt) g)(h:zR e=true:=by rfl):QS X (.Assign [.Tuple es k pt] e pos) (hX m g):=
 ⟨OH d.h i.h (by cases e<;>rfl) (PY h)<|by rw[u4 (e:=.Tuple es k pt) rfl];rfl⟩
theorem P0 i j(p:X.N.Nodup)(q:QA X [a,b] ms n)(h:i≠j:=by decide)(hc:X.calm=true:=by rfl)(r:X.N[i]?=a7 x:=by rfl)(s:X.N[j]?=a7 y:=by rfl)(u:X.env.scope.names.lookup x=a7 .local:=by rfl)(v:X.env.scope.names.lookup y=a7 .local:=by rfl)(hw:a3K [.Tuple [.Name x o,.Name y py] l pt] (.Tuple [a,b] k d) X.env=pure (a7 [x,y]):=by rfl):
  QS X (.Assign [.Tuple [.Name x o,.Name y py] l pt] (.Tuple [a,b] k d) pos) (pK i j ms):=⟨ON hc p r s h u v q.h hw<|by rfl⟩
theorem P1(F:Fun K x a st f g)(S:FnScope N ps (cH st))(e:ps.length<=N.length)(d:eU st=body)(c:∀b A outer s H E,Room k (A.deeper<|a7I a (cH st) s.heap.objs.size f b)->
   QB (kW eE P w K mg base N a (cH st) f b A outer s H E).nox body m):FnOk P w K mg base eE (k+1) f g ps (eF K ps.length<|yY N.length m):=
 N7 F S e λb A outer s H E h=>by rw[d];exact(c b A outer s H E h).h
noncomputable abbrev fG:=Hm->Nat->Option (Option D)
noncomputable abbrev MI:=aG->Hm->Option (fG×Nat×Hm)
inductive tMI (K:a0c)(m:MI)(σ:St)(H:Hp)(R:It->Hp->Prop):Prop
 |mk (π:Nat->Addr)(ρ:aG)(μ:Hm)(src:fG)(n:Nat)(μ':Hm)(r:Rp K π H μ)(E:En K π μ.length H σ ρ)(hm:m ρ μ=a7 (src,n,μ'))(k:∀π' H' J,Ext π μ.length H π' μ'.length H'->Rp K π' H' μ'->Wk K J src π' μ'.length H'->R J H'):tMI K m σ H R
structure QJ(X:Cx)(e:Expr)(m:MI):Prop where
 h:∀tg,PI X tg e (tMI X.K m)
noncomputable def D1:MI:=λ_ _=>b0
theorem D2:QJ X e D1:=⟨λtg b2w s σ H R I hw=>by
 obtain⟨h,i,g,b,n,c,d,E,a,k⟩:=hw;cases a⟩
noncomputable def kF(μ:Hm):D->Option (List D)
 |d=>bF μ d
noncomputable def dQ(x:D):fG:=λμ i=>(kF μ x).map λxs=>xs[i]?
noncomputable def cU(m:ME):MI:=λa μ=>(m a μ).bind λp=>(kF p.2 p.1).map λxs=>(dQ p.1,xs.length+1,p.2)
theorem P2(h:QE X e m):QJ X e (cU m):=⟨λtg b2w s σ H R I hw=>by
 obtain⟨K,L,G,A,n,J,r,E,b,k⟩:=hw;obtain⟨⟨x,i⟩,u,b⟩:=a0a.mp b;obtain⟨B,w,b⟩:=a0g.mp b;cases b;have key:∀(o:bF i x=a7 B)(p:dQ x=k0 x),a0A (a0L X.prog X.w) X.A (eval e X.env) (λv z=>a0A (a0L X.prog X.w) X.A (a5L v) (yA X b2w σ tg R) X.xe z) X.xe s:=λo p=>by
  refine Ox h.h b2w s σ H R I ⟨K,L,G,x,_,r,E,u,λc M j l d y=>?_⟩;obtain⟨a,e,q⟩:=Oy d y o;subst e;refine⟨a,rfl,?_⟩;dsimp only at k;rw[p]at k;rcases q with⟨g,W⟩|⟨g,W⟩
  .exact .inl ⟨g,k c j _ l d W⟩
  .exact .inr ⟨g,k c j _ l d W⟩
 cases x with
 |_=>exact key w rfl⟩
noncomputable def nT(ms:MA):MI:=λa μ=>(ms a μ).bind λp=>match p.1 with
 |[.int j]=>if -(2^62)<=j/\j<2^62 then a7 (hV 0 j.toNat,j.toNat+1,p.2)else b0|_=>b0
theorem P4(tr:∀l lo n,Turn q X.prog X.w X.K tg (lT lo n) [l] l λi h=>a4V h l (lo+(i:Nat)*1) ((n:Int)-(i:Nat)) 1)(c:Gl X "range")(d:X.mg "range"=b0)(u:QA X [a] ms n):rB q X tg (.Call (.Name "range" p) [a] [] pos) (tMI X.K<|nT ms):=λb2w s σ H R I hw=>by
 have w:=u.s;rw[a1e,a0j]at w;obtain⟨N,O,L,J,Q,M,A,E,b,k⟩:=hw;obtain⟨⟨x,o⟩,G,b⟩:=a0a.mp b;refine Ls tr c d u.h (eM w.1) b2w s σ H R I ⟨N,O,L,x,o,A,E,G,λr T y B z g=>?_⟩;dsimp only at b;split at b
 .rename_i j;split at b
  .rename_i v;cases b;cases g with
   |cons g K=>cases g;cases K;exact⟨j,rfl,v.1,v.2,k r y _ B z DO⟩
  .cases b
 .cases b
theorem P5(b:Gl X "range")(c:X.mg "range"=b0)(d:QA X [a] ms n):QJ X (.Call (.Name "range" p) [a] [] pos) (nT ms):=⟨λtg=>P4 CC b c d⟩
noncomputable def mD(ms:MA):MI:=λa μ=>(ms a μ).bind λp=>match p.1 with
 |[.int i,.int j]=>if -(2^62)<=i/\i<2^62/\-(2^62)<=j/\j<2^62 then a7 (hV i (j-i).toNat,(j-i).toNat+1,p.2)else b0|_=>b0
theorem P6(g:Gl X "range")(h:X.mg "range"=b0)(r:QA X [a,b] ms n):QJ X (.Call (.Name "range" p) [a,b] [] pos) (mD ms):=⟨λtg b2w s σ H R I hw=>by
 have d:=r.s;rw[a1e,a0j,a1e,a0j]at d;obtain⟨N,O,L,G,Q,M,w,E,c,k⟩:=hw;obtain⟨⟨x,o⟩,z,c⟩:=a0a.mp c;refine Lu g h r.h (by rw[eM d.1,eM d.2.1];rfl) (by rw[eM d.2.1];rfl) b2w s σ H R I ⟨N,O,L,x,o,w,E,z,λq T u y v l=>?_⟩;dsimp only at c;split at c
 .rename_i i j;split at c
  .rename_i A;cases c;cases l with
   |cons l J=>
    cases l;cases J with
    |cons B K=>cases B;cases K;exact⟨i,j,rfl,A,k q u _ y v DO⟩
  .cases c
 .cases c⟩
noncomputable def cD(c:MI)(g:MG)(b:MS):MS:=λa μ=>(c a μ).bind λp=>eL p.1 g b p.2.1 0 a p.2.2
noncomputable def jL(d:BD)(g:MI)(c:MT)(e:ME):ME:=λb μ=>(g b μ).bind λp=>(hW p.1 d c e b p.2.2.length p.2.1 0<|p.2.2++[.lst []]).map λa=>(.loc p.2.2.length,a)
noncomputable abbrev eN(a:MI)(c:MT)(e:ME):ME:=jL pJ a c e
noncomputable def gB(n:Nat)(a:BD):MG:=λd b μ=>(a d μ).map λx=>b.take n++x
theorem P7(j:X.N.length=n+1)(h:PG X (.Name x i) (tMG X.K<|cZ n)):PG X (.Name x i) (tMG X.K<|gB n pJ):=by
 intro b s w H v u Q I r hw;obtain⟨p,a,o,d,q,R,E,hd,l,k⟩:=hw;cases l;refine h b s w H v u Q I r ⟨p,a,o,d,_,R,E,hd,rfl,λc g=>k c ?_⟩;have m:a.length=n+1:=by rw[<- E.len,I.len,j]
 have e:a.set n (a7 d)=a.take n++[a7 d]:=by rw[List.set_eq_take_append_cons_drop,if_pos<|by lia,List.drop_of_length_le<|by lia]
 rw[e]at g;exact g
theorem D4:∀xs a b,b.length=xs.length->mB (a++b) (a6e a.length xs.length) xs=a++xs.map a7
 |[],a,[],_=>by simp[mB]
 |x::xs,a,y::b,h=>by have c:=D4 xs (a++[a7 x]) b (by simpa using h);rw[a0Q,b0b];show mB ((a++y::b).set a.length<|a7 x) (a6e (a.length+1) xs.length) xs=_;rw[a4x _ _<|a0l _,a5O,a0H];rw[a0q,a2s]at c;rw[a3o,a8I]at c;rw[c];simp
theorem P8(q:X.N.length=n+k)(h:PG X tg (tMG X.K<|c4<|a6e n k)):PG X tg (tMG X.K<|gB n<|uW k):=by
 intro b s J H v u Q I r hw;obtain⟨B,a,A,d,G,R,E,hd,w,z⟩:=hw;obtain⟨y,m,o⟩:=a0g.mp w;obtain⟨l,p,c⟩:=a0a.mp m;split at c
 .rename_i j;cases c;subst o;have x:a.length=n+k:=by rw[<- E.len,I.len,q]
  refine h b s J H v u Q I r ⟨B,a,A,d,mB a (a6e n k) l,R,E,hd,(by simp only[c4,p,a0G,List.length_range',if_pos j]),λg i=>z g ?_⟩;have e:=D4 l (a.take n) (a.drop n) (by rw[a5A];lia);rw[a3d,a1w,a7J<|by lia,j]at e;rw[e]at i;exact i
 .cases c
theorem P9(E:En K π n H σ (b++o))(c:o.length=k):En K π n H σ (b++a3b k b0):=by
 refine⟨by rw[E.len,a0q,a0q,a3e,c],λi d q=>?_⟩;by_cases a:i<b.length
 .rw[a0W a]at q;exact E.get i d<|by rw[a0W a];exact q
 .rw[a1I<|a4j.mp a,a3s]at q;split at q<;>cases q
inductive CpI (Y:Cx)(K:a0c)(tn:Nat->a1C->Prop)(fp:List Addr)(π:Nat->Addr)(k:Nat)(H:Hp)(ρ:aG)(l:Nat)(F:Nat->Nat->Hm->Option Hm)(μ':Hm)(n:Nat)(s:a0i):Prop
 |mk (i:Nat){σ':St}{H':Hp}{π':Nat->Addr}{μi:Hm}{o:aG}(I:Inv Y [] σ' H' s)(st:tn i s.heap)(fr:∀b∈fp,H' b=b0)(e:Ext π k H π' μi.length H')(R:Rp K π' H' μi)(E:En K π' μi.length H' σ' (ρ++o))(hl:o.length=l)(g:F n i μi=a7 μ')
theorem D5(O:CompOk X scope cl xs)(hq:∀b2w σ H s j,Inv X b2w σ H s->q (cR X scope cl s.heap.objs.size (bH xs X.N++xs) s H j))(hi:rB q X tg iter (tMI X.K mi))(hb':∀d μ z,bd d μ=a7 z->z.length=xs.length)(hg:∀C s₀ H₀ j,PG (cR X scope cl C (bH xs X.N++xs) s₀ H₀ j) tg (tMG X.K<|gB X.N.length bd))(hc:∀C s₀ H₀ j,nP (cR X scope cl C (bH xs X.N++xs) s₀ H₀ j) ifs mc)(he:∀C s₀ H₀ j,PE (cR X scope cl C (bH xs X.N++xs) s₀ H₀ j) elt (tM X.K me))(hs:∀x,a3R iter X.env x=pure x){σ:St}(I:Inv X b2w σ H s)(R:Rp X.K π H μ)(E:En X.K π μ.length H σ M)(hm:jL bd mi mc me M μ=a7 (d,μ'))(fin:∀p C π' A(s':a0i),Ext π μ.length H π' μ'.length A->Rp X.K π' A μ'->IsD X.K π' μ'.length A (.ref p) d->(∃m,s'.heap.Ns C m)->X.s₀.heap.objs.size<=C->C≠X.env.locals->A C=b0->
   (∀y c,X.env.cells.lookup y=a7 c->c≠C)->(∀q∈X.pn++b2w,q.1≠C)->(∀h',(∀b o,b≠C->s'.heap.get? b=a7 o->h'.get? b=a7 o)->Inv X b2w σ A {s' with heap:=h'})->
   compPost (a0L X.prog X.w) X.A X.xe use QQ (.ref p) C (.ok .next) s'):
  a0A (a0L X.prog X.w) X.A (comprehension (.ListComp elt [⟨tg,iter,ifs,0⟩] scope pos) scope X.env ppos (newList []) b3 (eval iter X.env) use) QQ X.xe s:=by
 obtain⟨⟨src,nt,a⟩,h1,hm⟩:=a0a.mp hm;obtain⟨μ2,h3,hm⟩:=a0g.mp hm;cases hm;have hit:a0A (a0L X.prog X.w) X.A (eval iter X.env) (λv s1=>a0A (a0L X.prog X.w) X.A (a5L v) (PIEq q X b2w σ tg λJ H1=>∃N,Ext π μ.length H N a.length H1/\Rp X.K N H1 a/\Wk X.K J src N a.length H1) X.xe s1) X.xe s:=
  hi b2w s σ H _ I ⟨π,M,μ,src,nt,a,R,E,h1,λN H1 J e1 R1 W=>⟨N,e1,R1,W⟩⟩
 refine wpAny_comprehension_free rfl hs O.clos O.kind O.names<|a1R hit (λv s1 hv=>a1R hv (λitv w h4=>?_) λ_ _ z=>z) λ_ _ z=>z;obtain⟨it,j,tn,J,H2,rfl,I2,T,st2,f2,N,e1,R1,W⟩:=h4;refine a1K (wpAny_newFunctionEnv O.nocell (by intro y hy;simp at hy) (λQ G K=>?_) O.kind);dsimp only at G K ⊢;have hfr:H2 w.heap.objs.size=none:=I2.hok.fresh<|a0l _;have I3:Inv X b2w σ (aK H2 w.heap.objs.size<|.lst []) {w with heap:=w.heap.push {cls:=.type "list",dict:=b0,data:=.seq ([]:gq).toArray}}:=
  I2.laid (t':=w.toks) (λb u e=>a0e _ e) (a0l _) ⟨a1U _,[],0,.nil,a0o _ rfl⟩
 obtain⟨e2,R2,q2⟩:=R1.alloc (c:=.lst []) (o:=.lst []) hfr .nil;generalize hs3:({w with heap:=w.heap.push {cls:=.type "list",dict:=b0,data:=.seq ([]:gq).toArray}}:a0i)=s3 at I3;have B:w.heap.push {cls:=.type "list",dict:=b0,data:=.seq ([]:gq).toArray}=s3.heap:=by rw[<- hs3]
 have e12:=e1.trans e2;generalize hH3:aK H2 w.heap.objs.size (.lst [])=H3 at I3 e2 R2 e12;generalize hπ3:f9 N a.length w.heap.objs.size=π3 at e2 R2 q2 e12;have hob:∀b∈j,∃o,s3.heap.get? b=a7 o:=λb l=>by obtain⟨o,ho,_⟩:=T.obj 0 _ st2 b l;exact⟨o,by rw[<- B];exact a0e _ ho⟩
 have f3:∀b∈j,fZ X b2w H3 b:=λb l=>by obtain⟨o,ho,_⟩:=T.obj 0 _ st2 b l;refine⟨?_,(f2 b l).2⟩;rw[<- hH3,a9<|a0y<|a0m ho];exact(f2 b l).1
 have st3:tn 0 s3.heap:=T.keep 0 _ _ st2 λb l o e=>by rw[<- B];exact a0e _ e
 have hC:(w.heap.push {cls:=.type "list",dict:=b0,data:=.seq ([]:gq).toArray}).objs.size=s3.heap.objs.size:=by rw[B]
 rw[B]at G K;have hk1:∀b o,s3.heap.get? b=a7 o->Q.get? b=a7 o:=λb o e=>K.extBut b o (a0y<|a0m e)<|a0e _ e;have E3:En X.K π3 (a++[C.lst []]).length H3 (σ++a3b xs.length b0) (M++a3b xs.length b0):=by
  have E':=E.mono e12;refine⟨by rw[a0q,a0q,E'.len,a3e,a3e],λi d' q=>?_⟩;by_cases hi:i<M.length
  .rw[a0W hi]at q;obtain⟨v,h5,h6⟩:=E'.get i d' q;exact⟨v,by rw[a0W<|by rw[E'.len];exact hi];exact h5,h6⟩
  .rw[a1I<|a4j.mp hi,a3s]at q;split at q<;>cases q
 have hlen:M.length=X.N.length:=by rw[<- E.len];exact I.len
 have stat:∀{A:Hp}{pl:jw},(∀b∈j,A b=b0)->pl=[]->∀b∈j,fZ (cR X scope cl s3.heap.objs.size (bH xs X.N++xs) s3 H3 j) pl A b:=λ{A pl} hn hpl b l=>by
  obtain⟨f0,f1,f2',f3',f4,f5⟩:=f3 b l;obtain⟨o,ho⟩:=hob b l;refine⟨hn b l,a0y<|a0m ho,λz=>?_,.inl l,λy c h=>f4 y c<|O.sub y c h,λp hp=>?_⟩
  .rcases a0D.mp (I3.stkSub b z)with z|z
   .exact f1 z
   .exact f2' z
  .subst hpl;exact absurd (show p∈([]:jw)from hp)<|by simp
 have loop:∀s4:a0i,(∃tk,s4={s3 with heap:=Q,toks:=tk})->
   a3q (a0L X.prog X.w) X.A (.compLoop (.ListComp elt [⟨tg,iter,ifs,0⟩] scope pos) 0 (.ref it) (.ref w.heap.objs.size)<|a4C scope cl s3.heap.objs.size X.env)
    (compPost (a0L X.prog X.w) X.A X.xe use QQ (.ref w.heap.objs.size) s3.heap.objs.size) s4:=by
  rintro s4 ⟨tk,rfl⟩;have I4:=O.inv (tk:=tk) I3 f3 hob G hk1;refine OB (CpI (cR X scope cl s3.heap.objs.size (bH xs X.N++xs) s3 H3 j) X.K tn j π3 (a++[C.lst []]).length H3 M xs.length (hW src bd mc me M a.length) μ') ?_ nt
  <|.mk 0 I4 (T.keep 0 _ _ st3 λb l o e=>hk1 b o e) (λb l=>(f3 b l).1) .refl R2 E3 a3e h3
  rintro n s5 hI5;cases hI5 with
  |@mk i σ5 H5 L Z o5 I5 st5 fr5 e5 R5 E5 l5 g5=>
  cases n with
  |zero=>cases g5|succ n=>
   obtain⟨o,h6,h7⟩:=a0a.mp g5;cases o with
   |none=>
    cases h7;have stop:=W.stop L _ H5 i (e2.trans e5) R5 h6;refine a1R (T.done (cR X scope cl s3.heap.objs.size (bH xs X.N++xs) s3 H3 j) rfl rfl rfl (hq b2w σ H3 s3 j I3) i [] s5 σ5 H5 (λ_ _=>False) I5 (stat fr5 rfl) st5 stop) (λr s6 Y=>?_) λ_ _ z=>z;obtain⟨hr,I6⟩:=Y;subst hr;obtain⟨m6,hn6,_⟩:=id I6.loc;have hp:L a.length=w.heap.objs.size:=by rw[e5.pi a.length<|by simp,q2]
    refine fin w.heap.objs.size s3.heap.objs.size L H5 s6 (e12.trans e5) R5 ?_ ⟨m6,hn6⟩ I3.sz (a1j<|a0y I3.lt) I6.free (λy c hc z=>?_) (λq hq z=>?_) λh' hh=>CompOk.back I3 f3 I6 hh
    .rw[<- hp];exact .loc<|a0V (by simp) e5.le
    .obtain⟨v,o,ho,_⟩:=I3.cell y c hc;exact a0y (a0m ho) z
    .exact a0y (a0m (I3.pin q hq).1) z
   |some d=>
    obtain⟨z,hz,h7⟩:=a0a.mp h7;obtain⟨⟨b,μ6⟩,h8,h9⟩:=a0a.mp h7;obtain⟨g1,g2⟩:=W.go L Z H5 i d (e2.trans e5) R5 h6;refine a1R (T.item (cR X scope cl s3.heap.objs.size (bH xs X.N++xs) s3 H3 j) rfl rfl rfl (hq b2w σ H3 s3 j I3) i [] s5 σ5 H5 (λ_ _=>False) I5 (stat fr5 rfl) st5 g1) (λr s6 Y=>?_) λ_ _ z=>z;obtain⟨u,hr,h10⟩:=Y;subst hr;refine a1R h10 (λ_ s7 Y=>?_) λ_ _ z=>z;obtain⟨v,H7,I7,r7,y7,st7,fr7⟩:=Y;obtain⟨e7,R7,hd⟩:=g2 v H7 y7;have I7':=I7.pinned (stat fr7 rfl)<|T.obj _ _ st7;have e5:=e5.trans e7;refine a1R (hg _ _ _ _ _ s7 σ5 H7 v u (λσ' A=>En X.K L Z.length H7 σ' (M++z)/\A=H7) I7' r7
     ⟨L,M++a3b xs.length b0,Z,d,M++z,R7,P9 (E5.mono e7) l5,hd,(by
      show(bd d Z).map (λx=>(M++a3b xs.length b0).take X.N.length++x)=_;rw[hz,<- hlen,List.take_left];rfl),λσ' E'=>⟨E',rfl⟩⟩) (λ_ s8 Y=>?_) λ_ _ z=>z
    obtain⟨σ8,H8,I8,E8,z2⟩:=Y;subst z2;have again:∀{s9:a0i}{H9:Hp}{g:Nat->Addr}{μ9:Hm},Inv (cR X scope cl s3.heap.objs.size (bH xs X.N++xs) s3 H3 j) ([]++rC j s7.heap) σ8 H9 s9->Ext π3 (a++[C.lst []]).length H3 g μ9.length H9->Rp X.K g H9 μ9->
      En X.K g μ9.length H9 σ8 (M++z)->hW src bd mc me M a.length n (i+1) μ9=a7 μ'->
      ∃m,m<n+1/\CpI (cR X scope cl s3.heap.objs.size (bH xs X.N++xs) s3 H3 j) X.K tn j π3 (a++[C.lst []]).length H3 M xs.length (hW src bd mc me M a.length) μ' m s9:=λ{s9 H9 g μ9} I9 e9 R9 E9 g9=>by
     refine⟨n,a1A _,.mk (i+1) I9.unpinned (T.keep _ _ _ st7 λb l o e=>(I9.pin (b,o)<|a1Z _<|a1Z _<|uC l e).1) (λb l=>?_) e9 R9 E9 (hb' _ _ _ hz) g9⟩;obtain⟨o,e,_⟩:=T.obj _ _ st7 b l;exact(I9.pin (b,o)<|a1Z _<|a1Z _<|uC l e).2.1
    refine a1R (hc _ _ _ _ _ s8 _ H8 (λb' A=>∃g,b'=b/\Ext L Z.length H8 g μ6.length A/\Rp X.K g A μ6) I8 ⟨L,_,Z,b,μ6,R7,E8,h8,λg H9 e9 R9=>⟨g,rfl,e9,R9⟩⟩) (λok s9 Y=>?_) λ_ _ z=>z;obtain⟨H9,I9,g,l,e9,R9⟩:=Y;subst l;cases ok with
    |false=>rw[if_neg a0K];exact again I9 (e5.trans e9) R9 (E8.mono e9) h9|true=>
     rw[if_pos rfl];obtain⟨⟨dy,μ7⟩,h11,h12⟩:=a0a.mp h9;obtain⟨μ8,U,h14⟩:=a0a.mp h12;refine a1R (he _ _ _ _ _ s9 _ H9 (λy A=>∃k,Ext g μ6.length H9 k μ7.length A/\Rp X.K k A μ7/\IsD X.K k μ7.length A y dy) I9 ⟨g,_,μ6,dy,μ7,R9,E8.mono e9,h11,λk y H10 e10 R10 i10=>⟨k,e10,R10,i10⟩⟩)
      (λu' s10 Y=>?_) λ_ _ z=>z
     obtain⟨y,H10,I10,ry,k,e10,R10,i10⟩:=Y;unfold pI at U;split at U
     .rename_i zs hz;split at U
      .rename_i hl;cases U;obtain⟨vs,h15,h16⟩:=R10.lst _ zs hz;have eall:=(e5.trans e9).trans e10;have hp:k a.length=w.heap.objs.size:=by rw[eall.pi a.length<|by simp,q2]
       obtain⟨e11,R11⟩:=R10.put (a:=a.length) (c:=.lst (zs++[dy])) (o:=.lst (vs++[y])) (a0f.mp hz).1 h15 (.inl ⟨vs,rfl⟩)<|h16.append<|.cons i10 .nil;rw[hp]at h15 e11 R11;refine a1R (Df (X:=cR X scope cl s3.heap.objs.size (bH xs X.N++xs) s3 H3 j) _ s10 _ H10 (.ref w.heap.objs.size) [y] (.ref w.heap.objs.size) [u'] (λ_ A=>A=aK H10 w.heap.objs.size (.lst<|vs++[y])) I10 rfl (.cons ry .nil)
        ⟨w.heap.objs.size,vs,y,rfl,rfl,h15,by rw[h16.length];exact hl,rfl⟩) (λ_ s11 Y=>?_) λ_ _ z=>z
       obtain⟨_,H11,I11,_,z⟩:=Y;subst z;exact again I11 (eall.trans e11) R11 ((E8.mono<|e9.trans e10).mono e11) h14
      .cases U
     .cases U
 have l4:=loop {s3 with heap:=Q,toks:=w.toks+([]:List (Str×Value)).length} ⟨_,rfl⟩;have hst4:tn 0 Q:=T.keep 0 _ _ st3 λb l o e=>hk1 b o e;subst hs3;exact codeAny_compStart_list l4<|T.self _ 0 _ _ _ hst4 l4
theorem Qa(O:CompOk X scope cl xs)(L:∀b2w σ H s a,Inv X b2w σ H s->q (cR X scope cl s.heap.objs.size (bH xs X.N++xs) s H a))(B:rB q X tg iter (tMI X.K mi))(c:∀d μ z,bd d μ=a7 z->z.length=xs.length)(A:∀C s₀ H₀ a,PG (cR X scope cl C (bH xs X.N++xs) s₀ H₀ a) tg (tMG X.K<|gB X.N.length bd))(hc:∀C s₀ H₀ a,nP (cR X scope cl C (bH xs X.N++xs) s₀ H₀ a) ifs mc)(y:∀C s₀ H₀ a,PE (cR X scope cl C (bH xs X.N++xs) s₀ H₀ a) elt (tM X.K me))(M:∀x,a3R iter X.env x=pure x):PE X (.ListComp elt [⟨tg,iter,ifs,0⟩] scope pos) (tM X.K<|jL bd mi mc me):=by
 intro b2w s σ H Q I hw;obtain⟨π,ρ,μ,d,Y,R,E,G,k⟩:=hw;rw[eval_ListComp];refine D5 (use:=b0) O L B c A hc y M I R E G λp C i j Z u r T h N K g l n back=>?_;obtain⟨m,J⟩:=h;exact⟨m,J,λv U=>⟨.ref p,j,back v λb o w e=>(U.2 b w).trans e,rfl,k i _ j u r T⟩⟩
theorem Qb(O:CompOk X scope cl xs)(a:X.calm=b5)(h:PI X tg iter (tMI X.K mi))(c:∀d μ z,bd d μ=a7 z->z.length=xs.length)(g:∀C s₀ H₀ b,PG (cR X scope cl C (bH xs X.N++xs) s₀ H₀ b) tg (tMG X.K<|gB X.N.length bd))(hc:∀C s₀ H₀ b,nP (cR X scope cl C (bH xs X.N++xs) s₀ H₀ b) ifs mc)(e:∀C s₀ H₀ b,PE (cR X scope cl C (bH xs X.N++xs) s₀ H₀ b) elt (tM X.K me))(i:∀x,a3R iter X.env x=pure x):PE X (.ListComp elt [⟨tg,iter,ifs,0⟩] scope pos) (tM X.K<|jL bd mi mc me):=Qa O (λ_ _ _ _ _ _=>a) h c g hc e i
theorem Qd(O:CompOk X scope cl xs)(hN:X.N.Nodup)(h:X.calm=b5)(hi:PI X tg iter (tMI X.K mi))(B:∀d μ z,bd d μ=a7 z->z.length=xs.length)(hg:∀C s₀ H₀ n,PG (cR X scope cl C (bH xs X.N++xs) s₀ H₀ n) tg (tMG X.K<|gB X.N.length bd))(hc:∀C s₀ H₀ n,nP (cR X scope cl C (bH xs X.N++xs) s₀ H₀ n) ifs mc)(he:∀C s₀ H₀ n,PE (cR X scope cl C (bH xs X.N++xs) s₀ H₀ n) elt (tM X.K me))(hs:∀x,a3R iter X.env x=pure x)(hy:X.N[i]?=a7 y)(U:X.env.scope.names.lookup y=a7 .local)(K:a4M (.ListComp elt [⟨tg,iter,ifs,0⟩] scope pos) (a7<|.Name y py) g.line X.env=pure b5):
  PS X (.Assign [.Name y py] (.ListComp elt [⟨tg,iter,ifs,0⟩] scope pos) g) (tMS X.K<|aR i<|jL bd mi mc me):=by
 intro l s Y H Z I hw;obtain⟨π,ρ,μ,fl,ρ',μ',R,E,G,k⟩:=hw;obtain⟨⟨d,μ1⟩,h1,G⟩:=a0g.mp G;cases G;rw[exec_Assign_Name_used _ _ _ _ K];refine a0b<|a5K ?_;refine a0b<|a0b ?_;refine D5 (use:=a7 (a7r (.Name y py) X.env)) (QQ:=λ_ u=>a0A (a0L X.prog X.w) X.A (pure ()) (λ_ M=>a0A (a0L X.prog X.w) X.A (pure b0i) (SP X l Z) X.xe M) X.xe u) O (λ_ _ _ _ _ _=>h) hi B hg hc he hs I R E h1 λp C Q v u T R1 i1 J L q j c r back=>?_;obtain⟨m,hn⟩:=J;have I1:Inv X l Y v u:=back u.heap λb o _ e=>e;show a0A (a0L X.prog X.w) X.A (a7r (.Name y py) X.env<|.ref p) _ X.xe u;refine b0T ?_;refine Cu I1 hN hy (.inl U) (show RelV (.ref p) (.ref p)from rfl) (λs2 I2 ⟨a,sb,A⟩=>?_)<|.inr U;have w:C≠a:=by
  rcases A with rfl|A
  .exact q
  .exact a1j<|c _ _ A
 refine⟨m,hn.sameBut sb w,λh' N=>a0h<|a0h ?_⟩;refine⟨Y.set i<|a7<|.ref p,v,I2.turned (t':=s2.toks) (λb o hb e=>(N.2 b hb).trans e) j q (.inr L) c r,?_⟩;exact k Q _ v T R1<|(E.mono T).set i1 i
noncomputable def bP:ME:=λ_ _=>b0
noncomputable def nU:MT:=λ_ _=>b0
noncomputable def cC:MS:=λ_ _=>b0
section
variable{X:Cx}{e a b c o:Expr}{m m1 m2 ma mb mc:ME}{pos:a1V}{mt mu:MT}{bV es:List Expr}{ms:MA}{n:Nat}
theorem bL:QE X e bP:=⟨λb2w s σ H Q I h=>by
 obtain⟨l,p,j,d,i,R,E,g,k⟩:=h;cases g⟩
theorem u6:QT X e nU:=⟨λb2w s σ H Q I h=>by
 obtain⟨l,p,j,d,i,R,E,g,k⟩:=h;cases g⟩
theorem Qe:QW X e nU:=⟨λj b2w s σ H Q I h=>by
 obtain⟨p,q,l,d,i,R,E,g,k⟩:=h;cases g⟩
theorem dA:QS X st cC:=⟨λb2w s σ H D I h=>by
 obtain⟨p,q,l,j,i,g,R,E,d,k⟩:=h;cases d⟩
theorem u7(l:∀d j μ,g d j μ=b0):QG X e g:=⟨λb2w s σ H v u Q I r h=>by
 obtain⟨q,j,μ,d,p,R,E,hd,i,k⟩:=h;rw[l]at i;cases i⟩
theorem nV(h1:QE X e m1)(l:QE X e m2)(h:∀g μ r,m g μ=a7 r->m1 g μ=a7 r\/m2 g μ=a7 r):QE X e m:=⟨λb2w s σ H Q I q=>by
 obtain⟨j,g,μ,d,i,R,E,p,k⟩:=q;rcases h g μ _ p with z|z
 .exact h1.h b2w s σ H Q I ⟨j,g,μ,d,i,R,E,z,k⟩
 .exact l.h b2w s σ H Q I ⟨j,g,μ,d,i,R,E,z,k⟩⟩
theorem pN{m m1 m2:MT}(h1:QT X e m1)(l:QT X e m2)(h:∀g μ r,m g μ=a7 r->m1 g μ=a7 r\/m2 g μ=a7 r):QT X e m:=⟨λb2w s σ H Q I q=>by
 obtain⟨j,g,μ,d,i,R,E,p,k⟩:=q;rcases h g μ _ p with z|z
 .exact h1.h b2w s σ H Q I ⟨j,g,μ,d,i,R,E,z,k⟩
 .exact l.h b2w s σ H Q I ⟨j,g,μ,d,i,R,E,z,k⟩⟩
theorem iA{f i j:D->D->Hm->jk}(h:∀x y μ r,f x y μ=a7 r->i x y μ=a7 r\/j x y μ=a7 r) :
  ∀g μ r,aC f ma mb g μ=a7 r->aC i ma mb g μ=a7 r\/aC j ma mb g μ=a7 r:=by
 intro g μ r d;obtain⟨p,k,d⟩:=a0a.mp d;obtain⟨q,l,d⟩:=a0a.mp d;rcases h _ _ _ _ d with z|z
 .exact .inl<|a0a.mpr ⟨p,k,a0a.mpr ⟨q,l,z⟩⟩
 .exact .inr<|a0a.mpr ⟨p,k,a0a.mpr ⟨q,l,z⟩⟩
theorem pO(h:∀d μ r,m d μ=a7 r->m1 d μ=a7 r\/m2 d μ=a7 r):∀d μ r,aS m d μ=a7 r->aS m1 d μ=a7 r\/aS m2 d μ=a7 r:=by
 intro d μ r g;obtain⟨p,i,g⟩:=a0a.mp g;rcases h _ _ _ i with z|z
 .exact .inl<|a0a.mpr ⟨p,z,g⟩
 .exact .inr<|a0a.mpr ⟨p,z,g⟩
noncomputable def mE:List D->Option (List Int)
 |[]=>a7 []|.int i::r=>(mE r).map (i::·)|_=>b0
noncomputable def c5:D->Option (List Int)
 |.tup ds=>mE ds|_=>b0
noncomputable def bJ(kvs:jx)(k:List Int):Option D:=(kvs.find? λp=>decide<|p.1=k).map (·.2)
noncomputable def cS(kvs:jx)(k:List Int)(d:D):jx:=if(bJ kvs k).isSome then kvs.map (λp=>if p.1=k then(p.1,d)else p)else kvs++[(k,d)]
noncomputable def aE:D->D->Hm->jk:=λx y μ=>match x with
 |.loc a=>match μ[a]? with
  |some (.dT kvs)=>(c5 y).bind λk=>(bJ kvs k).map λd=>(d,μ)|some (.dF kvs)=>(c5 y).bind λk=>(bJ kvs k).map λd=>(d,μ)|_=>gY x y μ
 |_=>gY x y μ
structure TabOk(X:Cx)(x:Str)(kvs:List (cA×D)):Prop where
 ex:∃(p:Addr)(vs:List (cA×V))(ws:List (cA×Value)),X.mg x=a7 (.ref p)/\(p==a1W)=b3/\(∀h:a1C,X.K.In h->h.DictOf (q0 X.prog X.w) p ws)/\KV vs ws/\∀π n H,IsKs X.K π n H vs kvs
theorem D6{σ:St}(I:Inv X b2w σ H s)(h:X.K.lookup p=a7 ob):H p=none:=(I.bs p ob<|I.mod.kin p ob h).2
theorem D7(R:Rp K π H μ)(k:d<μ.length):∃u,H (π d)=a7 u/\(∀vs,u≠.tup vs)/\∀ob v,(∀j,v≠HO.ext j)->u≠.frz ob v:=by
 cases q:μ[d]? with
 |none=>exact absurd (a1i.mp q) (by lia)|some i=>
  cases i with
  |lst g=>obtain⟨vs,h,_⟩:=R.lst d g q;exact⟨_,h,(λ_ z=>nomatch z),λ_ _ _ z=>nomatch z⟩|dK g=>obtain⟨vs,h,_⟩:=R.dK d g q;exact⟨_,h,(λ_ z=>nomatch z),λ_ _ _ z=>nomatch z⟩|st g=>obtain⟨vs,h,_⟩:=R.st d g q;exact⟨_,h,(λ_ z=>nomatch z),λ_ _ _ z=>nomatch z⟩|dT g=>obtain⟨vs,h,_⟩:=R.dT d g q;exact⟨_,h,(λ_ z=>nomatch z),λ_ _ _ z=>nomatch z⟩|dF g=>obtain⟨ob,vs,h,_⟩:=R.dF d g q;exact⟨_,h,(λ_ z=>nomatch z),λ_ _ n z=>n _<|by cases z;rfl⟩|ins x fs=>obtain⟨_,h,_,_,_,rfl,_⟩:=R.ins d x fs q;exact⟨_,h,(λ_ z=>nomatch z),λ_ _ _ z=>nomatch z⟩
section
variable{b2w:jw}{σ:St}{H:Hp}{s:a0i}{π:Nat->Addr}{μ:Hm}
theorem D8(I:Inv X b2w σ H s)(R:Rp X.K π H μ)(k:g<μ.length)(h:SqT X.K H (π g) vs):False:=by
 obtain⟨u,d,i,j⟩:=D7 R k;rcases h with(h|⟨q,h⟩)|⟨q,p,n,l,_⟩
 .rw[d]at h;exact i _<|a0B h
 .rw[d]at h;exact j _ (.tup vs) (λr z=>nomatch z)<|a0B h
 .rw[D6 I l]at d;cases d
theorem D9(I:Inv X b2w σ H s)(R:Rp X.K π H μ)(j:g<μ.length)(h:RoL X.K H (π g) vs):False:=by
 obtain⟨u,d,q,i⟩:=D7 R j;rcases h with⟨p,h⟩|⟨p,l,n,k,_⟩
 .rw[d]at h;exact i _ (.lst vs) (λr z=>nomatch z)<|a0B h
 .rw[D6 I k]at d;cases d
theorem Ea(I:Inv X b2w σ H s)(h:SqT X.K H p vs)(h':RoL X.K H p ws):False:=by obtain⟨g,_,t,_⟩:=I.tuple h;obtain⟨d,_,l,_⟩:=I.list h'.sq;exact absurd rfl<|a2D l.isList t
mutual
theorem zT(I:Inv X b2w σ H s)(R:Rp X.K π H μ){v:V}{d d':D}:IsD X.K π μ.length H v d->IsD X.K π μ.length H v d'->d=d'
 |.non,h'=>by cases h';rfl
 |.bl _,h'=>by cases h';rfl
 |.int _,h'=>by cases h';rfl
 |.str _,h'=>by cases h';rfl
 |.ty _,h'=>by cases h';rfl
 |.tup h t,h'=>by
  cases h' with
  |tup g i=>have:=I.tuple_inj h g;subst this;rw[zU I R t i]|rol g i=>exact(Ea I h g).elim|loc g=>exact(D8 I R g h).elim
 |.rol h t,h'=>by
  cases h' with
  |tup g i=>exact(Ea I g h).elim|rol g i=>have:=I.list_inj h.sq g.sq;subst this;rw[zU I R t i]|loc g=>exact(D9 I R g h).elim
 |.loc (a:=a1) ha,h'=>by
  generalize hz:V.ref (π a1)=z at h';cases h' with
  |tup g i=>cases hz;exact(D8 I R ha g).elim|rol g i=>cases hz;exact(D9 I R ha g).elim|loc g=>have:=R.inj _ _ ha g<|V.ref.inj hz;rw[this]|_=>cases hz
theorem zU(I:Inv X b2w σ H s)(R:Rp X.K π H μ){vs:gw}{ds d:List D}:IsDs X.K π μ.length H vs ds->IsDs X.K π μ.length H vs d->ds=d
 |.nil,h'=>by cases h';rfl
 |.cons h t,h'=>by
  cases h' with
  |cons g i=>rw[zT I R h g,zU I R t i]
end
end
noncomputable def k5(μ:Hm)(x:D):List D->Option Bool
 |[]=>a7 b3|y::r=>(cI 8 μ y x).bind λb=>(k5 μ x r).map λc=>b||c
noncomputable def mF(a:Bool):D->D->Hm->jk:=λx y μ=>(bF μ y).bind λc=>(k5 μ x c).map λb=>(.bl<|if a then !b else b,μ)
noncomputable def zV(K:a0c)(a:Bool):R2:=λx y H Q=>∃π μ c d e b,Rp K π H μ/\IsD K π μ.length H x c/\IsD K π μ.length H y d/\bF μ d=a7 e/\k5 μ c e=a7 b/\Q (.bl<|if a then !b else b) H
theorem u9{c:Bool}:c8 K (mF c) (zV K c):=by intro e H p x y d m n o Q R i j a k;obtain⟨l,g,a⟩:=a0a.mp a;obtain⟨b,h,a⟩:=a0g.mp a;cases a;exact⟨e,_,x,y,l,b,R,i,j,g,h,k e _ H .refl R<|.bl _⟩
theorem vA{σ:St}(I:Inv X b2w σ H s)(R:Rp X.K π H μ)(O:A.units+8<a2e)(rx:RelV x v)(Y:IsD X.K π μ.length H x l):
  ∀{e}{vs}{us}{b},IsDs X.K π μ.length H vs e->Vals vs us->k5 μ l e=a7 b->
   ∃g,(∀u∈us,a5F A s u v (g u))/\us.any g=b:=by
 classical
 intro e vs us b j k d
 have n:∀{e:List D}{vs:gw}{us:gq}{b:Bool},IsDs X.K π μ.length H vs e->Vals vs us->k5 μ l e=a7 b->(∀u∈us,∃c,a5F A s u v c/\∃w m,RelV w u/\IsD X.K π μ.length H w m/\cI 8 μ m l=a7 c):=by
  intro e
  induction e with
  |nil=>
   intro vs us b j k d u a
   cases j
   cases k
   cases a
  |cons y e G=>
   intro vs us b j k d u a
   cases j with
   |cons h t=>
    cases k with
    |cons r rt=>
     obtain⟨c,q,d⟩:=a0a.mp d
     obtain⟨L,B,d⟩:=a0g.mp d
     rcases a0D.mp a with rfl|a
     .exact⟨c,zD I R 8 O r rx h Y q,_,_,r,h,q⟩
     .exact G t rt B u a
 have o:=n j k d
 refine⟨λu=>if h:u∈us then a3E (o u h)else b3,λu a=>?_,?_⟩
 .simp only[dif_pos a]
  exact(a4k<|o u a).1
 .have key:∀u (h:u∈us) w m c,RelV w u->IsD X.K π μ.length H w m->cI 8 μ m l=a7 c->a3E (o u h)=c:=by
   intro u h w m c J U K
   obtain⟨_,w2,M,Z,T,N⟩:=a4k<|o u h
   have:w2=w:=Z.inj J
   subst this
   have:=zT I R T U
   subst this
   rw[N]at K
   exact a0B K
  have p:∀{e:List D}{vs:gw}{i:gq}{b:Bool},(∀u∈i,u∈us)->IsDs X.K π μ.length H vs e->Vals vs i->k5 μ l e=a7 b->i.any (λu=>if h:u∈us then a3E (o u h)else b3)=b:=by
   intro e
   induction e with
   |nil=>
    intro vs i b E j k d
    cases j
    cases k
    cases d
    rfl
   |cons y e G=>
    intro vs i b E j k d
    cases j with
    |cons h t=>
     cases k with
     |@cons _ u _ us2 r rt=>
      obtain⟨c,q,d⟩:=a0a.mp d
      obtain⟨L,B,d⟩:=a0g.mp d
      have fF:u∈us:=E u<|a0P ..
      rw[a4d,G (λz Q=>E z<|a0F _ Q) t rt B,dif_pos fF,key u fF _ _ c r h q]
      exact d
  exact p (λ_ h=>h) j k d
theorem vB(r:Room k A):A.units+9<a2e:=by have:=r.un;lia
theorem Eb(G:X.A.units+9<a2e):OpR X (a1J .In) (zV X.K b3):=by
 intro m s N H x y v u Q I l A h;obtain⟨M,L,B,E,K,b,R,k,z,n,j,q⟩:=h;obtain⟨p,J,rfl,c,hd⟩:=nQ R z n;cases A;rcases c with c|c
 .obtain⟨a,r,i,o⟩:=I.list c;obtain⟨g,d,e⟩:=vA I R (A:=X.A.in1) (by rw[nN];lia) l k hd r j;refine SeqAt.in_listAt g i.isList (λw hw=>d w<|by simpa using hw) ⟨.bl _,H,I,rfl,?_⟩;rw[show a.toArray.any g=a.any g by simp,e];exact q
 .obtain⟨a,r,i,o⟩:=I.tuple c;obtain⟨g,d,e⟩:=vA I R (A:=X.A.in1) (by rw[nN];lia) l k hd r j;refine SeqAt.in_tupleAt g i (λw hw=>d w<|by simpa using hw) ⟨.bl _,H,I,rfl,?_⟩;rw[show a.toArray.any g=a.any g by simp,e];exact q
theorem Ec(G:X.A.units+9<a2e):OpR X (a1J .NotIn) (zV X.K b5):=by
 intro m s N H x y v u Q I l A h;obtain⟨M,L,B,E,K,b,R,k,z,n,j,q⟩:=h;obtain⟨p,J,rfl,c,hd⟩:=nQ R z n;cases A;rcases c with c|c
 .obtain⟨a,r,i,o⟩:=I.list c;obtain⟨g,d,e⟩:=vA I R (A:=X.A.in1) (by rw[nN];lia) l k hd r j;refine SeqAt.notIn_listAt g i.isList (λw hw=>d w<|by simpa using hw) ⟨.bl _,H,I,rfl,?_⟩;rw[show a.toArray.any g=a.any g by simp,e];exact q
 .obtain⟨a,r,i,o⟩:=I.tuple c;obtain⟨g,d,e⟩:=vA I R (A:=X.A.in1) (by rw[nN];lia) l k hd r j;refine SeqAt.notIn_tupleAt g i (λw hw=>d w<|by simpa using hw) ⟨.bl _,H,I,rfl,?_⟩;rw[show a.toArray.any g=a.any g by simp,e];exact q
noncomputable def cL(b:Bool):D->D->Hm->jk
 |.str i,.str j,μ=>a7 (.bl<|if b then !(!(a2i j i 0 j.length 1).isEmpty)else !(a2i j i 0 j.length 1).isEmpty,μ)|x,.loc a,μ=>match μ[a]? with
  |some (.dT kvs)=>(c5 x).map λk=>(.bl<|if b then !(bJ kvs k).isSome else(bJ kvs k).isSome,μ)|some (.dF kvs)=>(c5 x).map λk=>(.bl<|if b then !(bJ kvs k).isSome else(bJ kvs k).isSome,μ)|_=>mF b x (.loc a) μ
 |x,y,μ=>mF b x y μ
noncomputable def zW:D->D->Hm->jk
 |.str i,.str j,μ=>a7 (.bl<|!(!(a2i j i 0 j.length 1).isEmpty),μ)|_,_,_=>b0
theorem Ed:c8 K zW (λx y H Q=>∃i j,x=.str i/\y=.str j/\Q (.bl<|!(!(a2i j i 0 j.length 1).isEmpty)) H):=by
 intro g H m x y d e h l Q R b c a k;unfold zW at a;split at a
 .cases a;cases b;cases c;exact⟨_,_,rfl,rfl,k g _ H .refl R<|.bl _⟩
 .cases a
noncomputable def kG(a:Bool):D->D->Hm->jk
 |x,.non,μ=>a7 (.bl<|match x with|.non=>!a|_=>a,μ)|_,_,_=>b0
theorem Ee:c8 K (kG b3) (λx y H Q=>y=.non/\Q (.bl<|decide<|x=.non) H):=by
 intro g H j x y d e h i Q R b c a k;unfold kG at a;split at a
 .cases a;cases c;refine⟨rfl,?_⟩;cases b<;>exact k g _ H .refl R<|.bl _
 .cases a
theorem Ef:c8 K (kG b5) (λx y H Q=>y=.non/\Q (.bl<|!decide (x=.non)) H):=by
 intro g H j x y d e h i Q R b c a k;unfold kG at a;split at a
 .cases a;cases c;refine⟨rfl,?_⟩;cases b<;>exact k g _ H .refl R<|.bl _
 .cases a
theorem Qf(c:QE X a ma)(d:QE X b mb):QE X (.Compare a [.Is] [b] pos) (aC (kG b3) ma mb):=⟨fA CH Ee c.h d.h<|d5 _⟩
theorem Qg(c:QE X a ma)(d:QE X b mb):QE X (.Compare a [.IsNot] [b] pos) (aC (kG b5) ma mb):=⟨fA CI Ef c.h d.h<|d5 _⟩
theorem Qh(c:QE X a ma)(d:QE X b mb):QT X (.Compare a [.Is] [b] pos) (aS<|aC (kG b3) ma mb):=⟨fD CH Ee c.h d.h<|d5 _⟩
theorem Qi(c:QE X a ma)(d:QE X b mb):QT X (.Compare a [.IsNot] [b] pos) (aS<|aC (kG b5) ma mb):=⟨fD CI Ef c.h d.h<|d5 _⟩
end
noncomputable def mG(μ:Hm):D->Bool
 |.rol _=>b5|.loc a=>match μ[a]? with|some (.lst _)=>b5|_=>b3
 |_=>b3
noncomputable def cV(f:D->List D->Hm->jk)(mo:ME)(ms:MA):ME:=λd μ=>(mo d μ).bind λp=>match mG p.2 p.1 with
 |true=>(ms d p.2).bind λq=>f p.1 q.1 q.2|false=>b0
noncomputable def iR(K:a0c)(f:D->List D->Hm->jk)(r:V->gw->Hp->VK->Prop):Prop:=
 ∀i H g x k d h v j Q,Rp K i H g->IsD K i g.length H v x->IsDs K i g.length H j k->f x k g=a7 (d,h)->KC K Q i g.length H d h->r v j H Q
theorem Eg(R:Rp K π H μ)(h:IsD K π μ.length H v x)(e:mG μ x=b5):uJ K "list" v H:=by
 cases h with
 |rol h t=>exact .inl ⟨rfl,_,h.sq⟩|@loc a k=>
  simp only[mG]at e;split at e
  .rename_i j g;obtain⟨i,d,_⟩:=R.lst a j g;exact .inl ⟨rfl,i,.of d⟩
  .cases e
 |_=>cases e
theorem Qj(G:iR K f r):∀σ H Q,tM K (cV f mo ms) σ H Q->Dd K "list" r (tM K mo) (tMA K ms) σ H Q:=by
 rintro σ H Q ⟨O,y,N,d,j,R,E,g,k⟩;obtain⟨⟨x,h⟩,A,g⟩:=a0a.mp g;dsimp only at g;split at g
 .rename_i I;obtain⟨⟨w,i⟩,B,g⟩:=a0a.mp g;refine⟨O,y,N,x,h,R,E,A,λl L T s q v=>⟨Eg q v I,l,y,h,w,i,q,E.mono s,B,λp M z u R2 J=>?_⟩⟩;exact G p z i x w d j L M Q R2 (v.mono u) J g<|k.after<|s.trans u
 .cases g
theorem Qk(w:iR K f r):∀σ H Q,tM K (cV f mo aD) σ H Q->C9 K "list" r (tM K mo) σ H Q:=by
 rintro σ H Q ⟨G,I,A,d,i,R,E,g,k⟩;obtain⟨⟨x,h⟩,u,g⟩:=a0a.mp g;dsimp only at g;split at g
 .rename_i y;obtain⟨⟨J,B⟩,v,g⟩:=a0a.mp g;cases v;refine⟨G,I,A,x,h,R,E,u,λj z q s l p=>⟨Eg l p y,?_⟩⟩;exact w j q h x [] d i z [] Q l p .nil g<|k.after s
 .cases g
noncomputable def d7:Expr->Bool
 |.Call (.Name _ _) [] [] _=>b3|_=>b5
theorem iS(h:d7 o=b5):a2Q o i env d=d:=by
 cases o with
 |Call f g j p=>
  cases f with
  |Name id q=>
   cases g with
   |nil=>
    cases j with
    |nil=>cases h|cons _ _=>rfl
   |cons _ _=>rfl
  |_=>rfl
 |_=>rfl
theorem Eh(h:(e::es).all c9=b5)(i:(e::es).length<30):
  ((a2F cpos (a0T (e::es) env)).all (λx=>!x.1)&&(a4m cpos (a3g [] env)).all (λx=>x.1.isSome)
   && decide ((e::es).length+([]:List a3D).length+(if([]:List a3D).isEmpty then 0 else 1)<30))=true:=by
 have d:(a2F cpos (a0T (e::es) env)).all (λx=>!x.1)=true:=by have:=jJ (pos:=cpos) (env:=env) h;rw[a8q];simpa using this
 rw[d];have g:(e::es).length+([]:List a3D).length+(if([]:List a3D).isEmpty then 0 else 1)<30:=by show(e::es).length+0+0<30;lia
 rw[decide_eq_true g];rfl
theorem zX{id:String}(h:Slot "list" name id)(i:a9A (.builtin id)=pure (.type "method_descriptor"))(p:j9 X id r)(k:iR X.K f r)(s:QE X o mo)(j:QA X (e::es) ms n)(u:d7 o=b5)(l:(apos.endLine==cpos.line)=b5)(q:(e::es).length<30):QE X (.Call (.Attribute o name apos) (e::es) [] cpos) (cV f mo ms):=by
 have g:=j.s;have d:=g;rw[a1e,a0j]at d;exact⟨cT (M3 a7O h i p s.h j.h (iS u) (Eh g q) l (eM d.1)<|jJ d.2)<|Qj k⟩
theorem Ql{id:String}(d:Slot "list" name id)(g:a9A (.builtin id)=pure (.type "method_descriptor"))(j:j9 X id r)(h:iR X.K f r)(k:QE X o mo)(l:d7 o=b5)(i:(apos.endLine==cpos.line)=b5):QE X (.Call (.Attribute o name apos) [] [] cpos) (cV f mo aD):=
 ⟨cT (M0 a7O d g j k.h (iS l) i)<|Qk h⟩
noncomputable def eV:D->List D->Hm->jk
 |.loc a,[y],μ=>(pI μ a y).map λd=>(.non,d)|_,_,_=>b0
noncomputable def pP:D->List D->Hm->jk
 |.loc a,[.loc b],μ=>match μ[a]?,μ[b]? with
  |some<|.lst xs,a7 (.lst ys)=>if xs.length+ys.length<=a0s then a7 (.non,μ.set a<|.lst<|xs++ys)else b0|_,_=>b0
 |_,_,_=>b0
noncomputable def k7:D->List D->Hm->jk
 |.loc a,[],μ=>match μ[a]? with
  |some (.lst xs)=>(xs[xs.length-1]?).map λy=>(y,μ.set a<|.lst xs.dropLast)|_=>b0
 |_,_,_=>b0
theorem Qm(h:IsDs K π n H vs ds):IsDs K π n H vs.reverse ds.reverse:=by
 induction ds generalizing vs with
 |nil=>cases h;exact .nil|cons d ds g=>
  cases h with
  |cons h t=>rw[a5p,a5p];exact(g t).append<|.cons h .nil
theorem Qn(h:IsDs K π n H vs ds):IsDs K π n H vs.dropLast ds.dropLast:=by rw[a8L,a8L,h.length];exact h.take _
theorem Qo:iR K eV De:=by
 intro I H M x L d E v J Q R A i h k;unfold eV at h;split at h
 .rename_i a y;obtain⟨G,g,h⟩:=a0g.mp h;cases h;unfold pI at g;split at g
  .rename_i r q;split at g
   .rename_i w;cases g;obtain⟨j,l,p⟩:=R.lst a r q;cases A;cases i with
    |cons B z=>cases z;obtain⟨u,s⟩:=R.put (a:=a) (c:=.lst (r++[y])) (o:=.lst (j++[_])) (a0f.mp q).1 l (.inl ⟨j,rfl⟩)<|p.append<|.cons B .nil;exact⟨_,j,_,rfl,rfl,l,by rw[p.length];exact w,k I _ _ u s .non⟩
   .cases g
  .cases g
 .cases h
theorem Qp:iR K pP Dg:=by
 intro L H O x N d J v M Q R G h g k;unfold pP at g;split at g
 .rename_i a b;split at g
  .rename_i u s q B;split at g
   .rename_i A;cases g;obtain⟨i,j,l⟩:=R.lst a u q;obtain⟨r,z,p⟩:=R.lst b s B;cases G;cases h with
    |cons I E=>cases E;cases I;obtain⟨y,w⟩:=R.put (a:=a) (c:=.lst (u++s)) (o:=.lst (i++r)) (a0f.mp q).1 j (.inl ⟨i,rfl⟩)<|l.append p;exact⟨_,_,i,r,rfl,rfl,j,z,by rw[l.length,p.length];exact A,k L _ _ y w .non⟩
   .cases g
  .cases g
 .cases g
theorem Qq:iR K k7 Dh:=by
 intro G H L x J d E v I Q R B i g k;unfold k7 at g;split at g
 .rename_i a;split at g
  .rename_i r q;obtain⟨y,u,g⟩:=a0g.mp g;cases g;obtain⟨j,p,h⟩:=R.lst a r q;cases B;cases i;obtain⟨w,z,A⟩:=h.get u;obtain⟨l,s⟩:=R.put (a:=a) (c:=.lst r.dropLast) (o:=.lst j.dropLast) (a0f.mp q).1 p (.inl ⟨j,rfl⟩)<|Qn h;refine⟨_,j,w,rfl,rfl,p,by rw[h.length];exact z,k G w _ l s<|A.mono l⟩
  .cases g
 .cases g
noncomputable def mH(μ:Hm):D->Option Bool
 |.non=>a7 b3|.bl b=>a7 b|.int i=>a7 (i != 0)|.str z=>if z.length<=a0s then a7 ((z.length:Int) != 0)else b0|.tup xs=>a7 (!xs.isEmpty)|.rol xs=>a7 (!xs.isEmpty)|.loc a=>match μ[a]? with|some (.lst xs)=>a7 (!xs.isEmpty)|some (.dK kvs)=>a7 (!kvs.isEmpty)|_=>b0
 |.ty _=>b0
theorem vC{g i:Type}{xs:List g}{d:List i}(h:xs.length=d.length):xs.isEmpty=d.isEmpty:=by cases xs<;>cases d<;>first|rfl|cases h
theorem Qr(R:Rp K π H μ)(h:IsD K π μ.length H v x)(e:mH μ x=a7 b):yK K v H b:=by
 cases h with
 |non=>cases e;rfl|bl c=>cases e;rfl|int i=>cases e;rfl|str z=>
  simp only[mH]at e;split at e
  .rename_i p;cases e;exact⟨p,rfl⟩
  .cases e
 |tup h t=>cases e;exact .inr (.inl ⟨_,h,by rw[vC t.length]⟩)|rol h t=>cases e;exact .inl ⟨_,h.sq,by rw[vC t.length]⟩|@loc a r=>
  simp only[mH]at e;split at e
  .rename_i q j;cases e;obtain⟨l,d,g⟩:=R.lst a q j;exact .inl ⟨l,.of d,by rw[vC g.length]⟩
  .rename_i k j;cases e;obtain⟨l,d,g,_⟩:=R.dK a k j;refine .inr<|.inr ⟨l,d,?_⟩;have:=congrArg a1n g;rw[a0d,a0d]at this;rw[vC this]
  .cases e
 |ty n=>cases e
noncomputable def dE(m:ME):MT:=λd μ=>(m d μ).bind λp=>(mH p.2 p.1).map λb=>(b,p.2)
theorem Qs(h:QE X e m)(r:zP e=b5):QT X e (dE m):=⟨uN (LR h.h<|Pt r)<|by
 rintro G H Q ⟨y,z,u,b,v,R,E,d,k⟩;obtain⟨⟨x,w⟩,p,d⟩:=a0a.mp d;obtain⟨A,q,d⟩:=a0g.mp d;cases d;exact⟨y,z,u,x,_,R,E,p,λg B j l i s=>⟨_,Qr i s q,k g j l i⟩⟩⟩
theorem Qt(F:FnOk X.prog X.w X.K X.mg X.base eE k f j ps (eF X.K 0 l))(v:Room k X.A)(g:X.mg x=a7 (.ref f))(u:a2l X.K (.ref f)=b5)(r:Binds X.K j ps [])(s:Gl X x)(h:(x==("__debug__":Str))=b3):QE X (.Call (.Name x p) [] [] pos) (aF l aD):=
 ⟨cT (Mh F v s g u r .nil (E:=E0) rF h)<|by
  rintro G H Q ⟨z,B,w,d,i,R,E,g,k⟩;obtain⟨⟨A,y⟩,q,g⟩:=a0a.mp g;cases q;exact⟨rfl,z,[],w,d,i,R,.nil,g,k⟩⟩
noncomputable def nW(c:MT)(b:MS):Nat->MS
 |0,_,_=>b0|n+1,ρ,μ=>(c ρ μ).bind λp=>match p.1 with
  |false=>a7 (.nx,ρ,p.2)|true=>(b ρ p.2).bind λq=>match q.1 with
   |.nx=>nW c b n q.2.1 q.2.2|.ct=>nW c b n q.2.1 q.2.2|.bk=>a7 (.nx,q.2.1,q.2.2)|.rt d=>a7 (.rt d,q.2.1,q.2.2)
noncomputable def rP(n:Nat)(c:MT)(b:MS):MS:=nW c b n
theorem Qu{mt:MT}n(hc:QT X c mt)(hb:QB X body mb)(hp:a7Z (a0L X.prog X.w) X.A X.env X.xe):QS X (.While c body [] pos) (rP n mt mb):=⟨iJ (Ln hp hc.h hb.h)<|by
 rintro E σ H ⟨Y,ρ,U,Q,B,z,R,EN,hm,k⟩;have q:∀{h:Nat->Addr}{n2:Nat}{H2:Hp}(e:Ext Y U.length H h n2 H2),nK X.K E h n2 H2 Q B z:=λ{h n2 H2} e=>by
  cases Q with
  |nx=>exact λi s y j x J=>k i s y (e.trans j) x J|bk=>exact λi s y j x J=>k i s y (e.trans j) x J|ct=>exact λi s y j x J=>k i s y (e.trans j) x J|rt d=>exact KC.after k e
 refine⟨λm v w=>∃h l r,Ext Y U.length H h l.length w/\Rp X.K h w l/\En X.K h l.length w v r/\nW mt mb m r l=a7 (Q,B,z),⟨n,Y,U,ρ,.refl,R,EN,hm⟩,?_⟩;rintro m σ1 H1 ⟨h,l,r,M,R2,Z,h2⟩;cases m with
 |zero=>cases h2|succ m=>
  obtain⟨⟨b,O⟩,h3,h4⟩:=a0a.mp h2;refine⟨h,r,l,b,O,R2,Z,h3,λi y j x=>?_⟩;cases b with
  |false=>refine lX ?_;cases h4;exact q M i σ1 y j x (Z.mono j)|true=>
   refine lY ?_;obtain⟨⟨f4,G,A⟩,h5,T⟩:=a0a.mp h4;refine⟨λv w=>∃g u p,Ext Y U.length H g p.length w/\Rp X.K g w p/\En X.K g p.length w v u/\nW mt mb m u p=a7 (Q,B,z),
    λv w ⟨g,u,p,a1,a2,a3,a4⟩=>⟨m,a1A _,g,p,u,a1,a2,a3,a4⟩,i,r,O,f4,G,A,x,Z.mono j,h5,?_⟩
   cases f4 with
   |nx=>exact λg I H5 N L K=>⟨g,G,A,(M.trans j).trans N,L,K,T⟩|ct=>exact λg I H5 N L K=>⟨g,G,A,(M.trans j).trans N,L,K,T⟩|bk=>cases T;exact λg I H5 N L K=>q (M.trans j) g I H5 N L K|rt d'=>
    cases T;exact q<|M.trans j⟩
theorem Qv:QS X (.Return b0 pos) (aQ<|mC .non):=⟨iJ Ld<|by
 rintro E r H ⟨h,q,p,l,i,g,R,j,d,k⟩;cases d;exact k h .non H .refl R .non⟩
noncomputable def pQ:List D->Option (List Bool)
 |[]=>a7 []|.bl b::r=>(pQ r).map (b::·)|_=>b0
noncomputable def vD:MF:=λds μ=>match ds with
 |[x]=>(bF μ x).bind λa=>(pQ a).map λbs=>(.bl<|bs.all id,μ)|_=>b0
theorem Ei:∀{xs}{vs}{bs},IsDs K π n H vs xs->pQ xs=a7 bs->vs=bs.map V.bl
 |[],_,bs,h,e=>by cases h;cases e;rfl
 |x::xs,vs,bs,h,e=>by
  cases h with
  |cons h t=>
   cases x with
   |bl b=>obtain⟨a,c,d⟩:=a0g.mp e;subst d;cases h;rw[Ei t c];rfl|_=>cases e
noncomputable def Ej(K:a0c)(g:List Bool->Bool):gw->Hp->VK->Prop:=λxs H Q=>∃p bs,xs=[.ref p]/\(SqL K H p (bs.map V.bl)\/SqT K H p (bs.map V.bl))/\Q (.bl<|g bs) H
theorem Qw{f:MF}(e:f=λds μ=>match ds with|[x]=>(bF μ x).bind λxs=>(pQ xs).map λbs=>(.bl<|g bs,μ)|_=>b0):dJ K f (Ej K g):=by
 subst e;intro j H μ xs d h l Q R i a k;dsimp only at a;split at a
 .obtain⟨n,b,a⟩:=a0a.mp a;obtain⟨bs,c,a⟩:=a0g.mp a;cases a;cases i with
  |cons i t=>cases t;obtain⟨p,m,rfl,q,hd⟩:=nQ R i b;have:=Ei hd c;subst this;exact⟨p,bs,rfl,q,k j _ H .refl R<|.bl _⟩
 .cases a
theorem Ek{bs:List Bool}(a:n=bs.length):(a1o n).all (λi=>bs.getD i b3)=bs.all id:=by
 subst a;induction bs with
 |nil=>rfl|cons b bs c=>rw[a0Q,a5J,a1e,a8v,a1e,<- c];rfl
theorem Em{bs:List Bool}(r:Vals (bs.map V.bl) its):TruthOf prog w A (λi v=>its.toArray[i]?=a7 v) (λi=>bs.getD i b3):=by
 intro i v s Q E h b;have a:its[i]?=a7 v:=by simpa using h
 have d:i<bs.length:=by have:=(a0f.mp a).1;have:=r.length;rw[a0d]at this;lia
 obtain⟨u,c,g⟩:=r.get (i:=i) (x:=.bl bs[i]) (by rw[a0v,a0w d];rfl);rw[a]at c;cases c;cases g;have e:bs.getD i b3=bs[i]:=by simp[a1H,d]
 dsimp only at b;rw[e]at b;exact a2v b
theorem Qx(hc:X.calm=b5):CallR X (.builtin "all") (Ej X.K (·.all id)):=by
 intro x s G H E B Q I r h;obtain⟨p,bs,rfl,j,q⟩:=h;obtain⟨u,rfl,A⟩:=d6 r;cases A;have w:X.A.in1.handled=none:=I.ok.hd hc;rcases j with j|j
 .obtain⟨a,k,g,z⟩:=I.list j;refine call_all_walk<|a3Q g.isList ?_;have d:p≠s.heap.objs.size:=by obtain⟨o,m,_⟩:=g.isList;exact a0y<|a0m m
  refine⟨s.heap.objs.size,_,_,_,_,_,λi=>bs.getD i b3,rfl,a9f w _ p d a.toArray,⟨⟨_,a0o _ rfl,rfl,rfl⟩,g.isList.push _⟩,Em k,λy v n=>?_⟩;have c:a.toArray.size=bs.length:=by rw[a0J,<- k.length,a0d]
  refine⟨.bl _,H,I.kept (t':=v) λb o e=>n b o ?_<|a0e _ e,rfl,?_⟩
  .intro l;have:b=s.heap.objs.size:=by simpa using l
   exact a0y (a0m e) this
  .rw[Ek c];exact q
 .obtain⟨a,k,g,z⟩:=I.tuple j;refine call_all_walk<|a5v (show s.heap.IsTuple p a.toArray from g) ?_;have d:p≠s.heap.objs.size:=by obtain⟨o,m,_⟩:=g;exact a0y<|a0m m
  refine⟨s.heap.objs.size,_,_,_,_,_,λi=>bs.getD i b3,rfl,b0Y w _ p d a.toArray,⟨⟨_,a0o _ rfl,rfl,rfl⟩,a6p g _⟩,Em k,λy v n=>?_⟩;have c:a.toArray.size=bs.length:=by rw[a0J,<- k.length,a0d]
  refine⟨.bl _,H,I.kept (t':=v) λb o e=>n b o ?_<|a0e _ e,rfl,?_⟩
  .intro l;have:b=s.heap.objs.size:=by simpa using l
   exact a0y (a0m e) this
  .rw[Ek c];exact q
open PyProof.Rows (IntsAre)
open PySem.W (KasT kas_asc kas_desc kas_tail3 kas_descPart kas_count kas_place kas_bin kas_sort kas_rev kas_ask)
noncomputable def rQ(ans:Nat->Nat->Bool):KasT b->b
 |.ret a=>a|.ask i j k=>rQ ans<|k<|ans i j
noncomputable def InR(n:Nat)(R:c->Prop):KasT c->Prop
 |.ret a=>R a|.ask i j k=>i<n/\j<n/\∀b,InR n R (k b)
theorem InR.bind{R:c->Prop}{d:g->Prop}{f:c->KasT g}(e:∀a,R a->InR n d (f a)):∀{t},InR n R t->InR n d (t.bind f)
 |.ret a,q=>e a q|.ask i j k,q=>⟨q.1,q.2.1,λb=>InR.bind e<|q.2.2 b⟩
theorem zY{R:c->Prop}(hc:∀i j (C:Bool->a0i->Prop),i<n->j<n->C (ans i j) s->b i j C s){Q:c->a0i->Prop}:
  ∀{t},InR n R t->Q (rQ ans t) s->t.kasWp b Q s
 |.ret a,_,q=>q|.ask i j k,h,q=>hc i j _ h.1 h.2.1<|zY hc (h.2.2 _) q
theorem Eo{R:b->Prop}:∀{t},InR n R t->R (rQ ans t)
 |.ret a,q=>q|.ask i j k,h=>Eo (t:=k (ans i j))<|h.2.2 _
noncomputable def IxOk(n:Nat)(p:Array Nat):Prop:=p.Perm (a1o n).toArray
theorem IxOk.lt{n:Nat}{p:Array Nat}(h:IxOk n p)(c:0<n)(i:Nat):p.getD i 0<n:=by
 by_cases a:i<p.size
 .have e:p.getD i 0=p[i]:=by simp[a7M,a]
  rw[e];have d:p[i]∈p:=Array.getElem_mem a;have b:p[i]∈(a1o n).toArray:=h.mem_iff.mp d;simpa using b
 .have e:p.getD i 0=0:=by simp[a7M,a]
  rw[e];exact c
theorem IxOk.rev(h:IxOk n p)i j:IxOk n (a9E p i j):=(b1M _ _ _ _).trans h
theorem IxOk.bub(h:IxOk n p)i j:IxOk n (b1T p i j):=(b1S _ _ _).trans h
theorem zZ(h:IxOk n p)(a:0<n):∀f m,InR n (λ_=>True) (kas_asc p f m)
 |0,m=>trivial
 |f+1,m=>⟨h.lt a _,h.lt a _,λb=>by
   cases b with
   |true=>exact trivial
   |false=>exact zZ h a f<|m+1⟩
theorem vF(a:0<n):∀f p m q,IxOk n p->InR n (λr=>IxOk n r.1) (b2p f p m q)
 |0,p,m,q,h=>h
 |f+1,p,m,q,h=>⟨h.lt a _,h.lt a _,λb=>by
   cases b with
   |true=>
    show InR n _ (if q>0 then b2p f (a9E p (m-(q+1)) m) (m+1) 0 else b2p f p (m+1) 0);split
    .exact vF a f _ _ _<|h.rev _ _
    .exact vF a f _ _ _ h
   |false=>
    refine⟨h.lt a _,h.lt a _,λd=>?_⟩;cases d with
    |true=>exact h
    |false=>exact vF a f _ _ _ h⟩
theorem Ep(c:0<n)(h:IxOk n p)a r:InR n (λr=>IxOk n r.2) (a9p a r p):=
 by
 have b:IxOk n (a9E p 0 a):=h.rev 0 a;unfold a9p;refine InR.bind (R:=λ_=>True) (λm _=>?_)<|zZ b c _ _;exact b
theorem Er(b:0<n)(h:IxOk n p)a r:InR n (λr=>IxOk n r.2) (a9F a r p):=
 InR.bind (λq c=>by
  show InR n _ (if q.2.2>0 then a9p q.2.1 r (a9E q.1 (q.2.1-(q.2.2+1)) q.2.1)else a9p q.2.1 r q.1);split
  .exact Ep b (c.rev _ _) _ _
  .exact Ep b c _ _)<|vF b _ _ _ _ h
theorem Qy(a:0<n)(h:IxOk n p)r:InR n (λr=>IxOk n r.2) (kas_count r p):=
 InR.bind (λm _=>by
  show InR n _ (if(m==r)=b5 then a8Z (m,p)else if m>1 then KasT.ask (p.getD 0 0) (p.getD (m-1) 0) (λc=>if c=b5 then a8Z (m,p)else a9F m r (a9E p 0 m))else a9F m r p);split
  .exact h
  .split
   .refine⟨h.lt a _,h.lt a _,λb=>?_⟩;cases b with
    |true=>exact h|false=>exact Er a (h.rev _ _) _ _
   .exact Er a h _ _)<|zZ h a _ _
theorem z7(h:IxOk n p)(a:0<n)k:∀f l r,InR n (λ_=>True) (b1o p k f l r)
 |0,l,r=>trivial|f+1,l,r=>by
  show InR n _ (if l >= r then a8Z l else KasT.ask (p.getD k 0) (p.getD ((l+r)/2) 0) λc=>if c=b5 then b1o p k f l ((l+r)/2)else b1o p k f ((l+r)/2+1) r);split
  .exact trivial
  .refine⟨h.lt a _,h.lt a _,λb=>?_⟩;cases b with
   |true=>exact z7 h a k f _ _|false=>exact z7 h a k f _ _
theorem Es(a:0<n):∀f p k,IxOk n p->InR n (IxOk n) (kas_bin f p k)
 |0,p,k,h=>h|f+1,p,k,h=>InR.bind (λl _=>Es a f _ _<|h.bub _ _)<|z7 h a k _ _ _
theorem z8(a:0<n):InR n (IxOk n) (b2o n):=
 InR.bind (λr b=>by
  show InR n _ (if r.1<n then kas_bin (n-max r.1 1) r.2 (max r.1 1)else a8Z r.2);split
  .exact Es a _ _ _ b
  .exact b)<|Qy a (Array.Perm.refl _) n
noncomputable def cM(lt:Nat->Nat->Bool)(n:Nat):List Nat:=(rQ lt<|b2o n).toList
theorem pR lt(a:0<n):(cM lt n).Perm (a1o n):=by have h:IxOk n (rQ lt<|b2o n):=Eo<|z8 a;have:=Array.perm_iff_toList_perm.mp h;simpa[cM]using this
theorem Et(x:ObjOk P w H h a o):∃ob,h.get? a=a7 ob:=by
 cases o with
 |lst c=>obtain⟨_,_,_,_,e⟩:=x;exact⟨_,e⟩|tup c=>obtain⟨_,_,_,ob,e,_⟩:=x;exact⟨_,e⟩|dK b=>obtain⟨_,_,_,_,o,_,_,e,_⟩:=x;exact⟨_,e⟩|dT b=>obtain⟨_,_,_,_,o,_,_,e,_⟩:=x;exact⟨_,e⟩|set S n=>obtain⟨o,_,_,_,e,_⟩:=x;exact⟨_,e⟩|ins C d fs=>obtain⟨_,_,_,e,_⟩:=x;exact⟨_,e⟩|own y=>exact x|xd fs=>obtain⟨_,⟨_,_,_,e,_⟩,_⟩:=x;exact⟨_,e⟩|rng i g=>obtain⟨_,_,_,e⟩:=x;exact⟨_,e⟩|frz ob u=>exact⟨_,x.1⟩|tbl j=>exact⟨_,x⟩|met f y=>exact⟨_,x⟩|ext k=>exact x.2.1
theorem Qz{σ:St}{D:Addr}(I:Inv X b2w σ H s)(l:s.heap.Ns X.env.locals m)(keep:∀b ob,b≠X.env.locals->s.heap.get? b=a7 ob->h'.get? b=a7 ob)(j:h'.Ns X.env.locals m)(hD:s.heap.get? D=b0)(new:ObjOk X.prog X.w (aK H D o) h' D o):Inv X b2w σ (aK H D o) {s with heap:=h',toks:=t'}:=by
 have d:H D=none:=by
  cases q:H D with
  |none=>rfl|some u=>obtain⟨ob,e⟩:=Et<|I.hok D u q;rw[hD]at e;cases e
 have g:∀b u,H b=a7 u->b≠X.env.locals:=λb u e z=>by rw[z,I.free]at e;cases e
 refine I.step (g':=s.gens) (d':=s.drawn) (ch:=[]) (λ_ z=>nomatch z) (λb ob a _ _ e _=>keep b ob a e) (λb ob a _ _ e _=>⟨ob.slots,keep b ob a e⟩) (λb ob _ e n=>?_) (λb ob _ e=>?_)
  (λb p e=>by rw[a9<|eX e d];exact e) (λb ob u e=>by rw[a9<|eX e d];exact e) (λb w e=>⟨#[],by rw[a9<|eX e d,e];simp⟩) (λr h=>?_) (λb u e=>?_) I.bare
 .have:b≠D:=λz=>by rw[z,hD]at e;cases e
  rw[a9 this];exact n
 .by_cases a:b=X.env.locals
  .obtain⟨i,_,_,k,_⟩:=j;exact⟨i,by rw[a];exact k⟩
  .exact⟨ob,keep b ob a e⟩
 .rw[h.eq_nsMap,<- l.eq_nsMap];exact j
 .by_cases a:b=D
  .subst a;rw[cP]at e;cases e;exact new
  .rw[a9 a]at e;refine(I.hok b u e).stay (λc v hc q=>keep c v ?_ q) (λc q=>by rw[a9<|eX q d];exact q) λc p q=>by rw[a9<|eX q d];exact q
   rcases hc with rfl|hc
   .exact g _ _ e
   .exact g _ _ hc
theorem z9:∀{us vs:gq}{ns ms}i,a3y us ns->a3y vs ms->Q (HT.lexLt ns ms) s->
  PySem.W.KatLex prog w A b5 (decide<|us.length<vs.length) Q (us.zip vs) i s
 |_,_,_,_,i,.nil,.nil,h=>by exact h
 |_,_,_,_,i,.nil,.cons c u hv,h=>by show Q (decide<|0<_+1) s;rw[decide_eq_true<|a8G _];exact h
 |_,_,_,_,i,.cons a t hu,.nil,h=>by show Q (decide<|_+1<0) s;rw[decide_eq_false<|a5S _];exact h
 |_,_,_,_,i,.cons (vs:=us) (ns:=ns) a t hu,.cons (vs:=vs) (ns:=ms) c u hv,h=>by
  rw[HT.lexLt_cons]at h;refine PySem.W.kat_cons<|a8f a t c u prog w _ _ ?_;by_cases e:a=c
  .subst e;rw[if_pos rfl]at h;rw[beq_self_eq_true];refine PySem.W.kat_yes ?_;have:=z9 (prog:=prog) (w:=w) (A:=A) (s:=s) (Q:=Q) (i+1) hu hv h;have d:decide ((a1m a t::us).length<(a1m a u::vs).length)=decide (us.length<vs.length):=by simp
   rw[d];exact this
  .rw[if_neg e]at h;have b:(a==c)=false:=by simpa using e
   rw[b];refine PySem.W.kat_no ?_;cases g:(b5&&i==0)with
   |true=>exact b1K h|false=>exact PySem.W.kat_one _ _<|a7H h
noncomputable abbrev TupsV(K:a0c)(H:Hp):gw->List (List Int)->Prop:=a5d λv t=>∃a,v=V.ref a/\SqT K H a (t.map V.int)
theorem TupsV.get:∀{vs}{b}{i},TupsV K H vs b->i<vs.length->∃a,vs[i]?=a7 (V.ref a)/\SqT K H a ((b.getD i []).map V.int)
 |_,_,_,.nil,h=>by simp at h
 |_,_,0,.cons ⟨a,e,q⟩ _,_=>⟨a,by rw[e];rfl,q⟩|_,_,i+1,.cons _ t,h=>by obtain⟨a,e,q⟩:=TupsV.get (i:=i) t (by simpa using h);exact⟨a,by simpa using e,q⟩
section
open PyProof.Rows
theorem Aa{us:gq}(h:us.length<2)(g:s.heap.get? c=a7 (a2d "list" us.toArray z))(q:R (.done<|.ret .none) {s with heap:=a7p s.heap c us us.toArray}):
  a0A (a0L prog w) A (Builtin.«list.sort» ⟨[.ref c],[]⟩) R E s:=by
 rw[b1C];have lt:c<s.heap.objs.size:=a0m g;refine a0b<|listItems_at g rfl<|a0b<|a7j g rfl ?_;obtain⟨y,d⟩:∃y,(s.heap.update c<|a2g λ_=>#[]).get? c=a7 (a2d "list" #[] y):=⟨_,b1E g _⟩;refine a0b<|a8e d rfl<|a0b<|a8x<|a0b<|a4l<|a1q ?_;have e:(((s.heap.update c<|a2g λ_=>#[]).push<|a2d "tuple" us.toArray 0).push<|a2d "list" #[] 0).get? c=a7 (a2d "list" #[] y):=
  a0e _<|a0e _ d
 show a0A (a0L prog w) A _ R E ⟨((s.heap.update c<|a2g λ_=>#[]).push<|a2d "tuple" us.toArray 0).push<|a2d "list" #[] 0,s.gens,s.drawn,s.toks,s.os⟩;dsimp only;have a:us.toArray.size<2:=by simpa using h
 rw[if_pos a,if_pos a];refine a0b<|a0h ?_;rw[StateT.run_pure];refine a0b<|a0h ?_;dsimp only;have b:b2g (λx=>x.2) (arrOf<|SortSt.mk' general' (us.toArray.zip us.toArray) #[] 7 b0)=us.toArray:=by show b2g (λx=>x.2) (us.toArray.zip us.toArray)=us.toArray;exact Array.ext (by simp) λi j k=>by simp
 refine a0b (a8e e rfl<|a0b<|a7j e rfl ?_ (hsz2:=by rw[b,a0O];lia));rw[b];simp only[bne_self_eq_false,a0t,if_false];exact a0h q
theorem QC{s:a0i}(a:s.heap.IsList l [u].toArray)(q:Q (.ref<|s.heap.objs.size+1) {s with heap:=sortedAll s.heap [u] [u].toArray}):a0A (a0L prog w) A (call (.builtin "sorted") [.ref l]) Q E s:=by
 refine a5h b0p a9C a9H (a9I _) ?_;unfold a6D;refine a0b (m:=b0K "sorted" 1 1 _)<|a0h<|a0b<|collect_list a<|a0b<|a4l ?_;have z:((s.heap.push<|a2d "list" #[] 0).update s.heap.objs.size<|a2g (·++[u].toArray)).objs.size=s.heap.objs.size+1:=by rw[Heap.size_update,size_push']
 have g:(((s.heap.push<|a2d "list" #[] 0).update s.heap.objs.size<|a2g (·++[u].toArray)).push<|a2d "list" [u].toArray 0).get? (s.heap.objs.size+1)=a7 (a2d "list" [u].toArray 0):=z▸a0o _ rfl;show a0A _ _ _ _ _ ⟨((s.heap.push<|a2d "list" #[] 0).update s.heap.objs.size<|a2g (·++[u].toArray)).push<|a2d "list" [u].toArray 0,s.gens,s.drawn,s.toks,s.os⟩;rw[z];refine a0b (a1q<|a2k a5w ⟨_,g,rfl⟩ a5c (Aa (us:=[u]) (by simp) g ⟨_,rfl,?_⟩)<|a5z _);exact a0h ⟨_,rfl,q⟩
end
theorem Ab lt:cM lt 1=[0]:=rfl
theorem Ac lt:cM lt 0=[]:=rfl
theorem pS lt n:(cM lt n).Perm (a1o n):=by
 cases n with
 |zero=>rw[Ac];exact .nil|succ n=>exact pR lt<|a8G n
theorem QD{σ:St}(I:Inv X b2w σ H s)(c:SqL X.K H q [v])(k:∀l,H l=b0->Q (.ref l) (aK H l<|.lst [v])):
  a0A (a0L X.prog X.w) X.A (call (.builtin "sorted") [.ref q]) (EP X b2w σ Q) X.xe s:=by
 obtain⟨d,i,g,j⟩:=I.list c;cases i with
 |cons h rt=>cases rt;rename_i u;refine QC (u:=u) g.isList ?_;obtain⟨e,a⟩:=a6M s.heap [u] [u].toArray;refine⟨.ref<|s.heap.objs.size+1,_,I.laid (t':=s.toks) (a:=s.heap.objs.size+1) (o:=.lst [v]) (λb m z=>a6F z) (a3w _) ?_,rfl,k _<|I.hok.fresh<|a3w _⟩;exact⟨by rw[a0O];show 1<=_;decide,[u],e,.cons h .nil,a⟩
noncomputable def Ad(K:a0c):gw->Hp->VK->Prop:=λxs H Q=>∃q ws a,xs=[.ref q]/\SqL K H q ws/\TupsV K H ws a/\1<=ws.length/\ws.length<64/\(∀t∈a,t≠[]) /\
 ∀l,H l=b0->Q (.ref l) (aK H l<|.lst<|(cM (λi j=>HT.lexLt (a.getD i [])<|a.getD j []) ws.length).map λi=>ws.getD i .non)
theorem Eu(h:Vals (ns.map V.int) us):a3y us ns:=uI h
theorem QF:CallR X (.builtin "sorted") (Ad X.K):=by
 intro b2w s σ H xs us Q I r h;obtain⟨q,ws,o,rfl,hq,E,h1,h64,y,k⟩:=h;obtain⟨u,rfl,ru⟩:=d6 r;cases ru;by_cases h2:ws.length<2
 .obtain⟨v,rfl⟩:=List.length_eq_one_iff.mp (by lia:ws.length=1);refine QD I hq λl hl=>?_;have z:=k l hl;rw[a2s,Ab]at z;exact z
 replace h2:2<=ws.length:=b0t h2;obtain⟨its,G,pl,hz⟩:=I.list hq;obtain⟨m,F⟩:=I.fr;have Y:=G.length;refine PySem.W.kat_sorted F (Kp (g:=X.base) (h:=s.heap) (L:=X.env.locals)) pl.isList (by lia) (by lia) λD e1 h' F' N' hD=>?_;have keep:∀b ob,b≠X.env.locals->s.heap.get? b=a7 ob->h'.get? b=a7 ob:=λb ob hb e=>by
  cases z:X.base.get? b with
  |some M=>have:=I.bk b M z;rw[e]at this;cases this;exact F'.keep b _ z|none=>exact(N' (b,ob)<|a0F _<|xX hb z e).1
 have T:=N' (D,_)<|a0P ..;have U:s.heap.get? D=none:=by
  cases z:s.heap.get? D with
  |none=>rfl|some ob=>exact absurd (hD (D,ob)<|xX T.2.1 T.2.2 z)<|a2Z _
 have neL:∀{a:Addr}{vs:gw},SqT X.K H a vs->a≠X.env.locals:=λ{a vs} w z=>by
  subst z;rcases w with(w|⟨ob,w⟩)|⟨ob,_,_,hk,_⟩
  .rw[I.free]at w;cases w
  .rw[I.free]at w;cases w
  .have h1:X.env.locals<X.base.objs.size:=a0m<|I.mod.kin _ _ hk;exact a2Z _<|a0V h1 F.above
  -- the tuples stand there still
 have g:∀{a:Addr}{t:List Int},SqT X.K H a (t.map V.int)->∃(ob:Obj)(xs:gq)(n:Nat),h'.get? a=a7 ob/\ob.cls=.type "tuple"/\ob.data=.seq xs.toArray n/\a3y xs t:=λ{a t} w=>by obtain⟨xs,rx,⟨ob,e,c,n,d⟩,_⟩:=I.tuple w;exact⟨ob,xs,n,keep a ob (neL w) e,c,d,Eu rx⟩
 have Z:∀{ws:gw}{its:gq}{o:List (List Int)},Vals ws its->TupsV X.K H ws o->(∀t∈o,t≠[])->∃fs:gq,fs.length=its.length/\PySem.W.KatTups h' its fs/\∀v∈fs,∃i t,v=a1m i t:=by
  intro ws its o G E;induction E generalizing its with
  |nil=>intro _;cases G;exact⟨[],rfl,.nil,λv A=>nomatch A⟩|@cons v t ws o A _ ih=>
   intro y;cases G with
   |cons r1 r2=>
    obtain⟨a,rfl,w⟩:=A;cases r1;obtain⟨fs,h1,h3,h4⟩:=ih r2 λt E=>y t<|a0F _ E;obtain⟨ob,xs,n,e,c,d,J⟩:=g w;cases J with
    |nil=>exact absurd rfl (y []<|a0P ..)|@cons i tk xs' ns' hi'=>
     refine⟨a1m i tk::fs,by simp[h1],.cons e c d (by simp) h3,λv A=>?_⟩;rcases a0D.mp A with rfl|A
     .exact⟨i,tk,rfl⟩
     .exact h4 v A
 obtain⟨fs,hf1,hf2,hf3⟩:=Z G E y;refine PySem.W.kat_kind (T:=.type "int") hf2 (by lia) (λv A=>?_) rfl ?_
 .obtain⟨i,t,rfl⟩:=hf3 v A;exact .now
 have htl:o.length=ws.length:=E.length.symm;refine zY (n:=its.length) (ans:=λi j=>HT.lexLt (o.getD i [])<|o.getD j []) (λi j C J hj hC=>?_) (z8<|by lia) ?_
 .obtain⟨a,ea,sa⟩:=E.get (i:=i) (by lia);obtain⟨b,eb,sb⟩:=E.get (i:=j) (by lia);obtain⟨ua,ha1,ha2⟩:=G.get ea;obtain⟨ub,hb1,hb2⟩:=G.get eb;cases ha2;cases hb2;have ga:its.getD i a1z=.ref a:=by simp[a1H,ha1]
  have gb:its.getD j a1z=.ref b:=by simp[a1H,hb1]
  unfold kas_ask;rw[ga,gb];obtain⟨oa,xa,na,e1,_,d1,i1⟩:=g sa;obtain⟨ob,xb,nb,e2,_,d2,i2⟩:=g sb;refine PySem.W.kat_lt e1 d1 e2 d2 ?_;have:=z9 (prog:=X.prog) (w:=X.w) (A:=X.A.in1.in1) (s:={s with heap:=h'}) (Q:=C) 0 i1 i2 hC;exact this
 .refine b1e F' N' (.head λp hp=>a0y<|hD p hp) λh'' c N O=>?_;have L:∀b ob,b≠X.env.locals->s.heap.get? b=a7 ob->h''.get? b=a7 ob:=λb ob hb e=>by
   cases z:X.base.get? b with
   |some M=>have:=I.bk b M z;rw[e]at this;cases this;exact N.keep b _ z|none=>exact(O (b,ob)<|a0F _<|xX hb z e).1
  have B:=(O (D,_)<|a0P ..).1;rw[<- Y]at B;have x:=pR (λi j=>HT.lexLt (o.getD i [])<|o.getD j []) (n:=ws.length) (by lia);have K:Vals ((cM (λi j=>HT.lexLt (o.getD i [])<|o.getD j []) ws.length).map λi=>ws.getD i .non) ((cM (λi j=>HT.lexLt (o.getD i [])<|o.getD j []) ws.length).map λi=>its.getD i a1z):=by
   have R:∀l:List Nat,(∀i∈l,i<ws.length)->Vals (l.map λi=>ws.getD i .non) (l.map λi=>its.getD i a1z):=λl=>by
    induction l with
    |nil=>intro _;exact .nil|cons i l ih=>
     intro hl;refine .cons ?_<|ih λj hj=>hl j<|a0F _ hj;have J:=hl i<|a0P ..;obtain⟨u,g1,g2⟩:=G.get<|a0w J;have e1:ws.getD i .non=ws[i]:=by simp[a1H,J]
     have e2:its.getD i a1z=u:=by simp[a1H,g1]
     show RelV (ws.getD i .non) (its.getD i a1z);rw[e1,e2];exact g2
   exact R _ λi J=>by simpa using x.mem_iff.mp J
  refine⟨.ref D,_,Qz (s:=s) (o:=.lst _) (t':=s.toks) I F.ns L N.ns U ⟨?_,_,_,K,B⟩,rfl,k D ?_⟩
  .rw[a0d,x.length_eq,a6R];exact hz
  .cases z:H D with
   |none=>rfl|some u=>obtain⟨ob,e⟩:=Et<|I.hok D u z;rw[U]at e;cases e
end L3
namespace L3
open PySem L2
noncomputable def CAt(K:a0c)(x:Str)(C:Addr):Prop:=a3t K a1L x=a7 (a7<|.ref C)
theorem CAt.eq{C:Addr}(h:CAt K x C)(h':CAt K x a):C=a:=by unfold CAt at h h';rw[h]at h';cases h';rfl
theorem Ae:∀(us:List (Str×V))(fs:List (Str×D)),us.map (·.1)=fs.map (·.1)->IsDs K π n H (us.map (·.2)) (fs.map (·.2))->(fs.lookup k=b0->us.lookup k=b0)/\∀d,fs.lookup k=a7 d->∃v,us.lookup k=a7 v/\IsD K π n H v d
 |[],[],_,_=>⟨λ_=>rfl,λd h=>nomatch h⟩|[],_::_,e,_=>nomatch e|_::_,[],e,_=>nomatch e|(y,v)::us,(z,d)::fs,e,i=>by
  rw[a0r,a0r,a4y]at e;obtain⟨a,b⟩:=e;dsimp only at a;subst a;cases i with
  |cons j l=>
   obtain⟨c,g⟩:=Ae us fs b l;simp only[a2r];cases o:k==y with
   |true=>exact⟨λh=>(nomatch h),λm h=>by cases h;exact⟨v,rfl,j⟩⟩|false=>exact⟨c,g⟩
noncomputable def iB(f:Str)(v:D):List (Str×D)->List (Str×D)
 |[]=>[(f,v)]|(g,x)::r=>if g=f then(g,v)::r else(g,x)::iB f v r
theorem Ew(a:IsD K π n H v d):∀us fs,us.map (·.1)=fs.map (·.1)->IsDs K π n H (us.map (·.2)) (fs.map (·.2))->
  (eC k v us).map (·.1)=(iB k d fs).map (·.1)/\IsDs K π n H ((eC k v us).map (·.2)) ((iB k d fs).map (·.2))
 |[],[],_,_=>⟨rfl,.cons a .nil⟩|[],_::_,e,_=>nomatch e|_::_,[],e,_=>nomatch e|(y,w)::us,(z,d')::fs,e,i=>by
  rw[a0r,a0r,a4y]at e;obtain⟨b,c⟩:=e;dsimp only at b;subst b;cases i with
  |cons l g=>
   obtain⟨h,j⟩:=Ew a us fs c g;unfold eC iB;split
   .exact⟨by rw[a0r,a0r,c],.cons a g⟩
   .exact⟨by rw[a0r,a0r,h],.cons l j⟩
noncomputable def eH(x f:Str)(m:ME):ME:=λb μ=>(m b μ).bind λp=>match p.1 with
 |.loc a=>(match p.2[a]? with
  |some (.ins y fs)=>if y=x then(fs.lookup f).map λd=>(d,p.2)else b0
  |_=>b0)
 |_=>b0
noncomputable def mI(x f:Str)(c mv:ME):MS:=λb μ=>(mv b μ).bind λp=>(c b p.2).bind λq=>match q.1 with
 |.loc a=>(match q.2[a]? with
  |some (.ins y fs)=>if y=x/\fs.length<100 then a7 (.nx,b,q.2.set a<|.ins y<|iB f p.1 fs)else b0
  |_=>b0)
 |_=>b0
noncomputable def iC(x m:Str)(c:MF)(d:ME)(ms:MA):ME:=λb μ=>(d b μ).bind λp=>match p.1 with
 |.loc a=>(match p.2[a]? with
  |some (.ins y fs)=>if y=x/\fs.lookup m=b0 then(ms b p.2).bind λq=>c (.loc a::q.1) q.2 else b0
  |_=>b0)
 |_=>b0
noncomputable def mJ(x:Str)(a:MF)(ms:MA):ME:=λb μ=>(ms b μ).bind λq=>(a (.loc q.2.length::q.1)<|q.2++[.ins x []]).bind λr=>match r.1 with
 |.non=>a7 (.loc q.2.length,r.2)|_=>b0
theorem Rp.insAt(R:Rp K π H μ){C:Addr}(h:μ[a]?=a7 (.ins x fs))(hc:CAt K x C):∃b vs,H (π a)=a7 (.ins C b vs)/\vs.map (·.1)=fs.map (·.1)/\IsDs K π μ.length H (vs.map (·.2)) (fs.map (·.2)):=by obtain⟨o,c,i,b,vs,rfl,d,e,g⟩:=R.ins a x fs h;obtain rfl:=CAt.eq hc d;exact⟨b,vs,c,e,g⟩
theorem QH{C:Addr}(I:QE X o mo)(J:d7 o=b5)(hC:CAt X.K x C)(c:Cls X.K C)(N:NoAttr X.K C f):QE X (.Attribute o f pos) (eH x f mo):=
 ⟨cT (L8 I.h<|iS J)<|by
  rintro σ H Q ⟨π,ρ,U,d,Y,R,E,l,M⟩;unfold eH at l;obtain⟨⟨d1,Z⟩,B,h⟩:=a0a.mp l;dsimp only at h;split at h
  .rename_i a;split at h
   .rename_i y fs K;split at h
    .rename_i b;subst b;obtain⟨d2,G,h⟩:=a0g.mp h;cases h;refine⟨π,ρ,U,_,_,R,E,B,λi v q s j L=>?_⟩;cases L;obtain⟨r,p,u,z,A⟩:=j.insAt K hC;obtain⟨w,O,T⟩:=(Ae p fs z A).2 _ G;exact⟨_,C,r,p,w,rfl,u,c,N,O,M i w q s j T⟩
    .cases h
   .cases h
  .cases h⟩
theorem QK{C:Addr}(Y:QE X o mo)(Z:QE X value mv)(U:jK value=b5)(hC:CAt X.K x C)(c:Cls X.K C)(na:NoAttr X.K C f):QS X (.Assign [.Attribute o f pos'] value pos) (mI x f mo mv):=
 ⟨iJ (L9 Y.h Z.h<|u5 U)<|by
  rintro D σ H ⟨π,L,μ,fl,ρ',μ',R,E,I,kc⟩;unfold mI at I;obtain⟨⟨d,b⟩,Q,h⟩:=a0a.mp I;obtain⟨⟨d2,r⟩,T,G⟩:=a0a.mp h;clear h;have h:=G;clear G;dsimp only at h;split at h
  .rename_i a;split at h
   .rename_i y fs K;split at h
    .rename_i q;obtain⟨rfl,hl⟩:=q;cases h;refine⟨π,L,μ,_,b,R,E,Q,λs v H1 l M i1=>⟨s,L,b,_,r,M,E.mono l,T,λu v2 H2 p R2 i2=>?_⟩⟩;cases i2;obtain⟨j,i,A,B,O⟩:=R2.insAt K hC;have J:i.length=fs.length:=by simpa using congrArg a1n B
     obtain⟨p1,p2⟩:=Ew (k:=f) (i1.mono p) i fs B O;obtain⟨w,N⟩:=R2.putE (c:=.ins y (iB f d fs)) (o:=.ins C j (eC f v i)) (a0f.mp K).1 A ⟨λ_ z=>(nomatch z),λ_ _ z=>(nomatch z)⟩ ⟨C,j,_,rfl,hC,p1,p2⟩;exact⟨_,C,j,i,rfl,A,c,na,by lia,kc u _ _ ((l.trans p).trans w) N<|((E.mono l).mono p).mono w⟩
    .cases h
   .cases h
  .cases h⟩
theorem Ex(l:d7 o=b5)(i:(apos.endLine == cpos.line)=b5)(c:args.all c9=b5)(j:args.length<30):eval (.Call (.Attribute o m apos) args [] cpos) env=(do
   let d <- eval o env
   a8r apos.atName
   let (f,first) <- holding [d] (a7V d m<|do return (<- importBound o env).getD b5)
   b2r cpos f first (a2F cpos<|a0T args env) (a4m cpos<|a3g [] env)):=by
 have h:(a2F cpos<|a0T args env).all (fun x=>!x.1)=true:=by
  have:=jJ (pos:=cpos) (env:=env) c
  rw [a8q]
  simpa using this
 have a:b2n (args.length+([]:List a3D).length) (a2F cpos<|a0T args env) (a4m cpos<|a3g [] env)=true:=by
  unfold b2n
  rw [h]
  simpa [a4m,a3g] using j
 have b:methodCallPos b5 o env apos cpos=pure cpos:=by unfold methodCallPos;simp [i]
 rw [arm_eval_Call,iS l]
 congr 1
 funext d
 congr 1
 funext _
 unfold methodCall
 rw [a]
 unfold calleeOf
 simp only [if_true]
 congr 1
 funext p
 rw [b]
 rfl
theorem Ey{C:Addr}(hC:CAt K x C)(U:∀i μ ds μ',ms i μ=a7 (ds,μ')->ds.length=n):∀σ H Q,tM K (iC x m fm mo ms) σ H Q->yO C m (eF K (n+1) fm) [] E (tM K mo) (tMA K ms) σ H Q:=by
 rintro σ H Q ⟨π,i,μ,d,μ',R,E,z,kc⟩;unfold iC at z;obtain⟨⟨d1,b⟩,O,h⟩:=a0a.mp z;dsimp only at h;split at h
 .rename_i a;split at h
  .rename_i y fs Y;split at h
   .rename_i l;obtain⟨rfl,j⟩:=l;obtain⟨⟨p,c⟩,A,h⟩:=a0a.mp h;refine⟨π,i,μ,_,b,R,E,O,λq v H1 u s Z=>?_⟩;cases Z;rename_i T;obtain⟨J,G,L,M,N⟩:=s.insAt Y hC;refine⟨_,J,G,rfl,L,(Ae G fs M N).1 j,q,i,b,p,c,s,E.mono u,A,λr ws I w R2 B=>?_⟩;show eF K (n+1) fm (_::(ws++[])) I Q _;rw[a1O];refine⟨by rw[a0Q,B.length,U i b p c A],r,.loc a::p,c,d,μ',R2,.cons ((IsD.loc T).mono w) B,h,kc.after<|u.trans w⟩
   .cases h
  .cases h
 .cases h
theorem QL{C:Addr}(l:QE X o mo)(q:d7 o=b5)(h:(apos.endLine==cpos.line)=b5)(hC:CAt X.K x C)(c:Cls X.K C)(i:Meth X.K C m g)(F:FnOk X.prog X.w X.K X.mg X.base eE k g fd ps (eF X.K (n+1) fm))(p:Room k X.A)(d:Binds X.K fd ps [])(b:QA X (e::es) ms n)(j:(e::es).length<30):
  QE X (.Call (.Attribute o m apos) (e::es) [] cpos) (iC x m fm mo ms):=by
 have a:=b.s;rw[a1e,a0j]at a;exact⟨cT (Mi l.h c i F p d .nil (E:=E0) rF b.h (eM a.1) (jJ a.2)<|Ex q h b.s j)<|Ey hC b.l⟩
theorem QM{C:Addr}(I:QE X o mo)(K:d7 o=b5)(B:(apos.endLine==cpos.line)=b5)(hC:CAt X.K x C)(c:Cls X.K C)(G:Meth X.K C m g)(F:FnOk X.prog X.w X.K X.mg X.base eE k g fd ps (eF X.K 1 fm))(J:Room k X.A)(z:Binds X.K fd ps []):
  QE X (.Call (.Attribute o m apos) [] [] cpos) (iC x m fm mo aD):=
 ⟨cT (Mj I.h c G F J z .nil (E:=E0) rF<|Ex K B rfl<|by decide) λσ H Q h=>by
  obtain⟨Y,Z,O,d,i,R,E,w,N⟩:=Ey (n:=0) (E:=E0) hC Dv σ H Q h;refine⟨Y,Z,O,d,i,R,E,w,λj v p s q L=>?_⟩;obtain⟨a,r,fs,u,A,b,l,ρ2,T,xs,U,R2,E2,y,M⟩:=N j v p s q L;cases y;exact⟨a,r,fs,u,A,b,M l [] p .refl R2 .nil⟩⟩
theorem QN{C:Addr}(hC:CAt K x C)(U:∀i μ ds μ',ms i μ=a7 (ds,μ')->ds.length=n):∀σ H Q,tM K (mJ x fm ms) σ H Q->CT C (eF K (n+1) fm) [] E (tMA K ms) σ H Q:=by
 rintro σ H Q ⟨π,i,μ,d,μ',R,E,A,kc⟩;unfold mJ at A;obtain⟨⟨s,a⟩,B,h⟩:=a0a.mp A;obtain⟨⟨d2,μ2⟩,G,h⟩:=a0a.mp h;dsimp only at h G;split at h
 .cases h;refine⟨π,i,μ,s,a,R,E,B,λb ws J T M I p c Y hd l=>?_⟩;obtain⟨w,R2⟩:=M.fresh (o:=.own p) hd;obtain⟨y,N,p3⟩:=R2.alloc (p:=p) (c:=.ins x []) (o:=.ins C c []) (by rw[a9<|a1j l];exact Y) ⟨C,c,[],rfl,hC,rfl,.nil⟩;show eF K (n+1) fm (_::(ws++[])) _ _ _;rw[a1O];have j:a.length<(a++[L3.C.ins x []]).length:=by rw[a0q];exact a1A _
  have q:IsD K (f9 b a.length p) (a++[L3.C.ins x []]).length (aK (aK J c<|.own p) p<|.ins C c []) (V.ref<|f9 b a.length p a.length) (.loc a.length):=IsD.loc j;rw[p3]at q;refine⟨by rw[a0Q,I.length,U i μ s a B],_,.loc a.length::s,_,.non,_,N,.cons q<|(I.mono w).mono y,G,λu v L z O Z=>?_⟩;cases Z;have r:=q.mono z;exact⟨rfl,kc u _ L (((T.trans w).trans y).trans z) O r⟩
 .cases h
theorem QR{C:Addr}(M:Mk X.K C g)(hC:CAt X.K x C)(F:FnOk X.prog X.w X.K X.mg X.base eE k g fd ps (eF X.K (n+1) fm))(q:Room (k+1) X.A)(l:Gl X x)(j:Binds X.K fd ps [])(c:QA X (e::es) ms n)(d:(x==("__debug__":Str))=b3):
  QE X (.Call (.Name x p) (e::es) [] pos) (mJ x fm ms):=by
 have a:=c.s;rw[a1e,a0j]at a;refine⟨λb s i H Q I h=>?_⟩;exact Mm M F q l (a5Z I.mod.kin I.mod.glob hC) j .nil (E:=E0) rF c.h d (eM a.1) (jJ a.2) b s i H Q I<|QN hC c.l i H Q h
theorem QU(h:∀b μ,m b μ=b0):QE X e m:=⟨λb2w s σ H Q I t=>by
 obtain⟨i,b,μ,d,c,R,E,a,g⟩:=t;rw[h]at a;cases a⟩
end L3
namespace L3
open PySem PySem.Spec
namespace Tb
noncomputable abbrev IsT(prog:a0R)(w:a1f)(h:a1C)(k:List Int)(b:Addr):Prop:=IsTupleKey (a4A prog w) h k b
noncomputable abbrev fL(a:Bool):Obj:={cls:=.type "set",dict:=b0,data:=.set #[] 0<|.fresh 0 0 a}
end Tb
end L3
namespace L3
open PySem L2
open PyProof.Rows (IntsAre)
noncomputable def rR:List D->Option (List<|List Int)
 |[]=>a7 []|x::r=>(c5 x).bind λk=>(rR r).map (k::·)
theorem vG:∀{ds}{k},mE ds=a7 k->ds=k.map D.int
 |[],k,h=>by cases h;rfl
 |d::ds,k,h=>by
  cases d with
  |int i=>obtain⟨c,a,b⟩:=a0g.mp h;subst b;rw[vG a];rfl|_=>cases h
theorem Ez(h:c5 x=a7 k):x=.tup (k.map D.int):=by
 cases x with
 |tup ds=>rw[vG h]|_=>cases h
theorem EA:∀{xs}{ks},rR xs=a7 ks->xs=ks.map λk=>D.tup<|k.map D.int
 |[],ks,h=>by cases h;rfl
 |x::xs,ks,h=>by obtain⟨k,a,h⟩:=a0a.mp h;obtain⟨d,b,c⟩:=a0g.mp h;subst c;rw[Ez a,EA b];rfl
noncomputable def d8(μ:Hm):D->Option (List D)
 |.rol xs=>a7 xs|.loc a=>match μ[a]? with
  |some (.lst xs)=>a7 xs|_=>b0
 |_=>b0
theorem mK(R:Rp K π H μ)(h:IsD K π μ.length H v x)(e:d8 μ x=a7 xs):∃p vs,v=.ref p/\SqL K H p vs/\IsDs K π μ.length H vs xs:=by
 cases h with
 |rol q t=>cases e;exact⟨_,_,rfl,q.sq,t⟩|@loc a g=>
  simp only[d8]at e;split at e
  .rename_i i d;cases e;obtain⟨vs,b,c⟩:=R.lst a xs d;exact⟨_,vs,rfl,.of b,c⟩
  .cases e
 |_=>cases e
theorem ints_of':∀{vs}{k:List Int},IsDs K π n H vs (k.map D.int)->vs=k.map V.int
 |_,[],h=>by cases h;rfl
 |_,i::k,h=>by
  cases h with
  |cons h t=>cases h;rw[ints_of' t];rfl
theorem Af:∀(k:List Int),IsDs K π n H (k.map V.int) (k.map D.int)
 |[]=>.nil|i::k=>.cons (.int i)<|Af k
theorem EB{X:Cx}:∀{k}{xs},Vals (k.map V.int) xs->ItemsAre (a4A X.prog X.w) k xs
 |[],_,h=>by cases h;exact .nil
 |i::k,_,h=>by
  cases h with
  |cons h t=>obtain⟨a,rfl⟩:=h;exact .cons (intKind_is _ _ _ _)<|EB t
theorem kH{σ:St}(I:Inv X b2w σ H s)(h:SqT X.K H b (k.map V.int)):Tb.IsT X.prog X.w s.heap k b:=by obtain⟨i,g,⟨a,e,c,n,d⟩,_⟩:=I.tuple h;exact⟨a,i.toArray,n,e,c,d,by simpa using EB g⟩
theorem call_lenT:CallR X (.builtin "len") (λxs H Q=>∃a L,xs=[V.ref a]/\H a=a7 (uM a L)/\Q (.int L.length) H):=by
 intro b2w s σ H xs z Q I r h;obtain⟨a,L,rfl,e,q⟩:=h;obtain⟨u,rfl,x⟩:=d6 r;cases x;obtain⟨⟨o,n,w,d,y,t,R,c,hd,g,ok,p,m,k,i,v,j⟩,_,_⟩:=I.hok a _ e;have b:d.size=L.length:=by have:=p.length_eq;simpa using this
 have l:t.mask<=511:=by rcases k with h|h|h|h<;>lia
 refine call_len_set n c hd (Tb.fits_of ok g) (by rw[b];lia) ?_;rw[b];exact⟨.int L.length,H,I.tok _,⟨_,rfl⟩,q⟩
end L3
namespace L3
open PySem L2
noncomputable def Ag(ks:List (List Int)):Nat->Nat->Bool:=λi j=>HT.lexLt (ks.getD i [])<|ks.getD j []
noncomputable def rS:MF:=λds μ=>match ds with
 |[x]=>(d8 μ x).bind λb=>(rR b).bind λa=>if 1<=a.length/\a.length<64/\∀t∈a,t≠[]then a7 (.loc μ.length,μ++[.lst<|(cM (Ag a) a.length).map λi=>b.getD i .non])else b0|_=>b0
theorem EC:∀{vs}{ks},IsDs K π n H vs (ks.map λk=>D.tup<|k.map D.int)->TupsV K H vs ks
 |_,[],h=>by cases h;exact .nil
 |_,k::ks,h=>by
  cases h with
  |cons h t=>
   cases h with
   |@tup p vs ds a hd=>have:=ints_of' hd;subst this;exact .cons ⟨p,rfl,a⟩<|EC t
theorem ED:∀{vs}{xs}i,IsDs K π n H vs xs->IsD K π n H (vs.getD i .non) (xs.getD i .non)
 |_,_,i,.nil=>by simp;exact .non
 |_,_,0,.cons h _=>h|_,_,i+1,.cons _ t=>by simpa using ED i t
theorem EE(h:IsDs K π n H vs xs):∀(l:List Nat),IsDs K π n H (l.map λi=>vs.getD i .non) (l.map λi=>xs.getD i .non)
 |[]=>.nil|i::l=>.cons (ED i h)<|EE h l
theorem QV:dJ K rS (Ad K):=by
 intro y H x w d u v Q R i a k;unfold rS at a;split at a
 .obtain⟨s,m,a⟩:=a0a.mp a;obtain⟨c,n,a⟩:=a0a.mp a;split at a
  .rename_i o;cases a;cases i with
   |cons i t=>
    cases t;obtain⟨p,e,rfl,q,hd⟩:=mK R i m;have b:=hd;rw[EA n]at b;have r:e.length=c.length:=by have:=b.length;rw[a0d]at this;exact this
    refine⟨p,e,c,rfl,q,EC b,by lia,by lia,o.2.2,λl g=>?_⟩;obtain⟨h,R2,_⟩:=R.alloc (c:=.lst ((cM (Ag c) c.length).map λi=>s.getD i .non)) (o:=.lst ((cM (λi j=>HT.lexLt (c.getD i [])<|c.getD j []) e.length).map λi=>e.getD i .non)) g<|by
     show IsDs _ _ _ _ _ _;rw[r];exact EE hd _
    exact k _ _ _ h R2 gC
  .cases a
 .cases a
open PyProof.Rows (IntsAre Fr News seqObj)
theorem vH:∀a,HT.lexLt a a=b3
 |[]=>rfl|x::a=>by rw[HT.lexLt_cons,if_pos rfl];exact vH a
theorem vJ:∀{a b c},HT.lexLt a b=b5->HT.lexLt b c=b5->HT.lexLt a c=b5
 |_,[],[],_,h=>absurd h (by intro z;cases z)|_,_::_,[],_,h=>absurd h (by intro z;cases z)|[],_,_::_,_,_=>rfl|_::_,[],_::_,h,_=>absurd h (by intro z;cases z)|x::a,y::b,z::c,h1,h2=>by
  rw[HT.lexLt_cons]at h1 h2 ⊢;by_cases e:x=y
  .subst e;rw[if_pos rfl]at h1;by_cases d:x=z
   .subst d;rw[if_pos rfl]at h2 ⊢;exact vJ h1 h2
   .rw[if_neg d]at h2 ⊢;exact h2
  .rw[if_neg e]at h1;by_cases d:y=z
   .subst d;rw[if_neg e];exact h1
   .rw[if_neg d]at h2;rw[decide_eq_true_eq]at h1 h2;rw[if_neg<|by lia,decide_eq_true_eq];lia
end L3
namespace L3
open PySem
open PySem.W (KasT kas_asc kas_desc kas_tail3 kas_descPart kas_count kas_place kas_bin kas_sort kas_rev)
open PyProof.Rows (mirror bubble getElem?_bubble getElem?_mirror_all mirror_size bubble_size)
section
variable{ans:Nat->Nat->Bool}{κ:Nat->Nat}(hk:∀i j,ans i j=decide (κ i<κ j))
noncomputable def gK(κ:Nat->Nat)(p:Array Nat)(k:Nat):Nat:=κ<|p.getD k 0
structure Falls(κ:Nat->Nat)(p:Array Nat)(n q:Nat):Prop where
 fall:∀i j,i<=j->j<n->gK κ p j<=gK κ p i
 alike:∀k,n-1-q<=k->k<n->gK κ p k=gK κ p (n-1)
 qn:q<n
end
section
variable{α:Type}{lt:α->α->Bool}(irr:∀a,lt a a=b3)(tr:∀a b c,lt a b=b5->lt b c=b5->lt a c=b5)(nt:∀a b c,lt a b=b5->lt a c=b5\/lt c b=b5)
end
end L3
namespace L3
open PySem L2
noncomputable def jM(f g:D->D->Hm->jk)(a b c:ME):ME:=λd μ=>(a d μ).bind λp=>(b d p.2).bind λq=>(f p.1 q.1 q.2).bind λr=>match r.1 with
 |.bl b5=>(c d r.2).bind λt=>g q.1 t.1 t.2|.bl b3=>a7 (.bl b3,r.2)|_=>b0
theorem EF(hf:c8 K f r)(hg:c8 K g J):∀σ H Q,tM K (jM f g ma mb mc) σ H Q->yJ r J (tM K ma) (tM K mb) (tM K mc) σ H Q:=by
 rintro σ H Q ⟨π,w,μ,d,q,R,E,e,k⟩;obtain⟨⟨x,h⟩,Y,e⟩:=a0a.mp e;obtain⟨⟨y,i⟩,Z,e⟩:=a0a.mp e;obtain⟨⟨z,j⟩,h3,e⟩:=a0a.mp e;refine⟨π,w,μ,x,h,R,E,Y,λs v1 H1 n T i1=>⟨s,w,h,y,i,T,E.mono n,Z,λu L M o R2 I=>?_⟩⟩;refine hf u M i x y z j v1 L _ R2 (i1.mono o) I h3 λm v3 N p A i3=>?_;cases z with
 |bl B=>
  cases i3;refine⟨B,rfl,?_⟩;cases B with
  |true=>refine lY ?_;obtain⟨⟨t,l⟩,h4,e⟩:=a0a.mp e;exact⟨m,w,j,t,l,A,((E.mono n).mono o).mono p,h4,λv v4 O G U i4=>hg v O l y t d q L v4 Q U ((I.mono p).mono G) i4 e<|k.after<|((n.trans o).trans p).trans G⟩|false=>refine lX ?_;cases e;exact k m _ N ((n.trans o).trans p) A<|.bl b3
 |_=>cases e
noncomputable def fM:a4J->Option (Int->Int->Bool)
 |.Lt=>a7 λi j=>decide (i<j)|.LtE=>a7 λi j=>decide (i<=j)|.Gt=>a7 λi j=>decide (j<i)|.GtE=>a7 λi j=>decide (j<=i)|_=>b0
theorem pT(h:fM op=a7 p):OpR X (a1J op) (gX λi j=>.bl<|p i j)/\(op=.Lt\/op=.LtE\/op=.Gt\/op=.GtE):=by cases op<;>first|(cases h;first|exact⟨yF,by simp⟩|exact⟨yG,by simp⟩|exact⟨yH,by simp⟩|exact⟨yI,by simp⟩)|cases h
theorem EG(h':d=.Lt\/d=.LtE\/d=.Gt\/d=.GtE):b1n [op,d] [b,c]=false:=by show a3L d c=b3;rcases h' with rfl|rfl|rfl|rfl<;>exact d5 _
theorem QX(h:fM op=a7 p)(h':fM d=a7 q)(e:QE X a ma)(g:QE X b mb)(hc:QE X c mc):QE X (.Compare a [op,d] [b,c] pos) (jM (fE p) (fE q) ma mb mc):=
 ⟨cT (LN (pT h).1 (pT h').1 e.h g.h hc.h<|EG (pT (X:=X) h').2)<|EF iO iO⟩
theorem QY(h:fM op=a7 p)(h':fM d=a7 q)(g:QE X a ma)(i:QE X b mb)(hc:QE X c mc):QT X (.Compare a [op,d] [b,c] pos) (aS<|jM (fE p) (fE q) ma mb mc):=
 ⟨uN (LO (pT h).1 (pT h').1 g.h i.h hc.h<|EG (pT (X:=X) h').2) λe H Q h=>EF iO iO e H _<|Du e H Q h⟩
noncomputable def vK(d:Bool):D->D->Hm->jk
 |.bl b,.bl c,μ=>a7 (.bl<|if d then !(b==c)else b==c,μ)|.int _,.bl _,μ=>a7 (.bl d,μ)|_,_,_=>b0
noncomputable def fN(d:Bool):D->D->Hm->jk:=λx y μ=>match y with
 |.bl _=>vK d x y μ|_=>kG d x y μ
noncomputable def Ah(d:Bool):R2:=λx y H Q=>∃c,y=.bl c/\((∃b,x=.bl b/\Q (.bl<|if d then !(b==c)else b==c) H)\/((∃i,x=.int i)/\Q (.bl d) H))
theorem vL:c8 K (vK g) (Ah g):=by
 intro j H o x y d l m n Q R h i e k;unfold vK at e;split at e
 .cases e;cases h;cases i;exact⟨_,rfl,.inl ⟨_,rfl,k j _ H .refl R<|.bl _⟩⟩
 .cases e;cases h;cases i;exact⟨_,rfl,.inr ⟨⟨_,rfl⟩,k j _ H .refl R<|.bl _⟩⟩
 .cases e
theorem EH:OpR X (a1J .Is) (Ah b3):=by
 intro e s j H x y v u Q I d g h;obtain⟨c,rfl,h⟩:=h;cases g;rcases h with⟨b,rfl,q⟩|⟨⟨i,rfl⟩,q⟩
 .cases d;exact a0h<|nF I q<|by cases b<;>cases c<;>rfl
 .obtain⟨t,rfl⟩:=d;exact a0h<|nF I q rfl
theorem EI:OpR X (a1J .IsNot) (Ah b5):=by
 intro e s j H x y v u Q I d g h;obtain⟨c,rfl,h⟩:=h;cases g;rcases h with⟨b,rfl,q⟩|⟨⟨i,rfl⟩,q⟩
 .cases d;exact a0h<|nF I q<|by cases b<;>cases c<;>rfl
 .obtain⟨t,rfl⟩:=d;exact a0h<|nF I q rfl
theorem vM x y μ r(h:fN d x y μ=a7 r):vK d x y μ=a7 r\/kG d x y μ=a7 r:=by
 unfold fN at h;split at h
 .exact .inl h
 .exact .inr h
theorem QZ(d:QE X a ma)(e:QE X b mb):QE X (.Compare a [.Is] [b] pos) (aC (fN b3) ma mb):=nV ⟨fA EH vL d.h e.h<|d5 _⟩ (Qf d e)<|iA vM
theorem Q0(d:QE X a ma)(e:QE X b mb):QE X (.Compare a [.IsNot] [b] pos) (aC (fN b5) ma mb):=nV ⟨fA EI vL d.h e.h<|d5 _⟩ (Qg d e)<|iA vM
theorem Q1(d:QE X a ma)(e:QE X b mb):QT X (.Compare a [.Is] [b] pos) (aS<|aC (fN b3) ma mb):=pN ⟨fD EH vL d.h e.h<|d5 _⟩ (Qh d e)<|pO<|iA vM
theorem Q2(d:QE X a ma)(e:QE X b mb):QT X (.Compare a [.IsNot] [b] pos) (aS<|aC (fN b5) ma mb):=pN ⟨fD EI vL d.h e.h<|d5 _⟩ (Qi d e)<|pO<|iA vM
noncomputable def nX:MF:=λds μ=>match ds with
 |[x]=>(bF μ x).bind λb=>(mE b).map λa=>(.int a.sum,μ)|_=>b0
noncomputable def EJ(K:a0c):gw->Hp->VK->Prop:=λxs H Q=>∃(p:Addr)(is:List Int),xs=[.ref p]/\(SqL K H p (is.map V.int)\/SqT K H p (is.map V.int))/\Q (.int is.sum) H
theorem Q3:dJ K nX (EJ K):=by
 intro h H o m d g j Q R i a k;unfold nX at a;split at a
 .obtain⟨n,b,a⟩:=a0a.mp a;obtain⟨e,c,a⟩:=a0g.mp a;cases a;cases i with
  |cons i t=>cases t;obtain⟨p,l,rfl,q,hd⟩:=nQ R i b;rw[vG c]at hd;have:=ints_of' hd;subst this;exact⟨p,e,rfl,q,k h _ H .refl R<|.int _⟩
 .cases a
theorem EK(is:List Int):∀n,n<=is.length->preSum (λi=>is.getD i 0) n=(is.take n).sum
 |0,_=>rfl|n+1,h=>by
  have a:=EK is n (by lia);have e:is.take (n+1)=is.take n++[is[n]]:=by rw[a6d,a0w<|by lia];rfl
  show preSum (λi=>is.getD i 0) n+is.getD n 0=_;rw[a,e,List.sum_append];simp[a1H,a0w<|show n<is.length by lia]
theorem EL{σ:St}(I:Inv X b2w σ H s)(m:Moved l (λa b=>b=a) d c)(n:∀b o,s.heap.get? b=a7 o->d.heap.get? b=a7 o)(hw:∀b∈l,s.heap.objs.size<=b)(g:d.gens=s.gens/\d.drawn=s.drawn/\d.os=s.os):Inv X b2w σ H c:=by have k:∀b o,s.heap.get? b=a7 o->c.heap.get? b=a7 o:=λb o e=>m.heap b o (λz=>absurd (a0V (a0m e)<|hw b z)<|a2Z _)<|n b o e;have h:c.gens=s.gens:=m.gens.trans g.1;have i:c.drawn=s.drawn:=m.drawn.trans g.2.1;have j:c.os=s.os:=m.os.trans g.2.2;obtain⟨u,r,q,p,v⟩:=c;dsimp only at h i j k;subst h i j;exact I.kept (t':=p) k
theorem EM{is:List Int}(r:Vals (is.map V.int) its){i:Nat}(h:its.toArray[i]?=a7 v):∃t,v=.int (is.getD i 0) t:=by
 have a:its[i]?=a7 v:=by simpa using h
 have c:i<is.length:=by have:=(a0f.mp a).1;have:=r.length;rw[a0d]at this;lia
 obtain⟨u,b,d⟩:=r.get (i:=i) (x:=.int is[i]) (by rw[a0v,a0w c];rfl);rw[a]at b;cases b;obtain⟨t,rfl⟩:=d;exact⟨t,by simp[a1H,c]⟩
theorem Q4(hc:X.calm=b5):CallR X (.builtin "sum") (EJ X.K):=by
 intro B s M H L K Q I r h;obtain⟨p,d,rfl,w,q⟩:=h;obtain⟨u,rfl,G⟩:=d6 r;cases G;have A:X.A.in1.handled=none:=I.ok.hd hc;have fin:∀a:gq,Vals (d.map V.int) a->preSum (λi=>d.getD i 0) a.toArray.size=d.sum:=λa l=>by
  have n:a.toArray.size=d.length:=by rw[a0J,<- l.length,a0d]
  rw[n,EK d _<|a0l _,a1N]
 rcases w with w|w
 .obtain⟨a,l,g,E⟩:=I.list w;refine b0W<|a3Q g.isList ?_;have j:p≠s.heap.objs.size:=by obtain⟨o,k,_⟩:=g.isList;exact a0y<|a0m k
  refine⟨s.heap.objs.size,_,_,_,_,_,_,λi=>d.getD i 0,rfl,(a9f A _ p j a.toArray).toS,⟨⟨_,a0o _ rfl,rfl,rfl⟩,g.isList.push _⟩,?_,λi v y=>EM l y,λJ z m=>?_⟩
  .intro b c;show b<(s.heap.push _).objs.size;rw[a3c];obtain⟨o,k,_⟩:=g.isList;have x:=a0m k;simp only[a0D,a3a,or_false]at c;rcases c with rfl|rfl
   .exact a1A _
   .exact a4t x
  .refine⟨.int d.sum,H,EL I m (λb o e=>a0e _ e) (λb c=>?_) ⟨rfl,rfl,rfl⟩,⟨z,?_⟩,q⟩
   .have e:b=s.heap.objs.size:=by simpa using c
    exact a3V e.symm
   .rw[fin a l]
 .obtain⟨a,l,g,E⟩:=I.tuple w;refine b0W<|a5v (show s.heap.IsTuple p a.toArray from g) ?_;have j:p≠s.heap.objs.size:=by obtain⟨o,k,_⟩:=g;exact a0y<|a0m k
  refine⟨s.heap.objs.size,_,_,_,_,_,_,λi=>d.getD i 0,rfl,(b0Y A _ p j a.toArray).toS,⟨⟨_,a0o _ rfl,rfl,rfl⟩,a6p g _⟩,?_,λi v y=>EM l y,λJ z m=>?_⟩
  .intro b c;show b<(s.heap.push _).objs.size;rw[a3c];obtain⟨o,k,_⟩:=g;have x:=a0m k;simp only[a0D,a3a,or_false]at c;rcases c with rfl|rfl
   .exact a1A _
   .exact a4t x
  .refine⟨.int d.sum,H,EL I m (λb o e=>a0e _ e) (λb c=>?_) ⟨rfl,rfl,rfl⟩,⟨z,?_⟩,q⟩
   .have e:b=s.heap.objs.size:=by simpa using c
    exact a3V e.symm
   .rw[fin a l]
noncomputable def dU{b:Type}(xs:List b)(lo a st:Option Int):List b:=(a8A (a2S lo a st xs.length).1 (a2S lo a st xs.length).2.1 (a2S lo a st xs.length).2.2).filterMap (xs[·]?)
noncomputable def mL(a:ME)(lo d st:MO):ME:=λb μ=>(a b μ).bind λp=>(lo b p.2).bind λq=>(d b q.2).bind λr=>(st b r.2).bind λt=>if t.1≠a7 0 then(d8 t.2 p.1).bind λc=>if(dU c q.1 r.1 t.1).length<=a0s then a7 (.loc t.2.length,t.2++[.lst<|dU c q.1 r.1 t.1])else b0 else b0
theorem Q5(h:IsDs K π n H vs ds)lo a st:IsDs K π n H (dU vs lo a st) (dU ds lo a st):=by
 unfold dU;rw[h.length];generalize a8A _ _ _=l;induction l with
 |nil=>exact .nil|cons i l b=>
  rw[a2G,a2G];cases a:ds[i]? with
  |none=>
   have:vs[i]?=none:=by rw[a1i]at a ⊢;rw[h.length];exact a
   rw[this];exact b
  |some d=>obtain⟨v,c,e⟩:=h.get a;rw[c];exact .cons e b
theorem Q6(r:Vals vs its)lo a st:Vals (dU vs lo a st) (dU its lo a st):=by
 unfold dU;rw[r.length];generalize a8A _ _ _=l;induction l with
 |nil=>exact .nil|cons i l b=>
  rw[a2G,a2G];cases a:vs[i]? with
  |none=>
   have:its[i]?=none:=by rw[a1i]at a ⊢;rw[<- r.length];exact a
   rw[this];exact b
  |some v=>obtain⟨u,c,d⟩:=r.get a;rw[c];exact .cons d b
noncomputable def Q7(K:a0c)(te:TE)(tl th tt:TO):TE:=λσ H Q=>te σ H λx c=>tl σ c λl d=>th σ d λu g=>tt σ g λt b=>t≠a7 0/\∃a xs,x=.ref a/\SqL K b a xs/\(dU xs l u t).length<=a0s/\∀p,b p=b0->Q (.ref p) (aK b p<|.lst<|dU xs l u t)
open PyProof.Rows in
theorem Q8{X:Cx}{e:Expr}{te:TE}{lo hi:Option Expr}{st:Expr}{tl th tt:TO}{pos p2:a1V}(M:PE X e te)(N:PO X lo tl)(R:PO X hi th)(O:PO X (a7 st) tt):PE X (.Subscript e (.Slice lo hi (a7 st) p2) pos) (Q7 X.K te tl th tt):=by
 intro c s i H Q I h;refine a8E<|aP (M c s i H _ I h) λv s1 ⟨x,y,E,r1,q1⟩=>?_;refine wpAny_Slice<|aP (N c s1 i y _ E q1) λo s2 ⟨l,z,G,pl,q2⟩=>aP (R c s2 i z _ G q2) λw s3 ⟨u,A,J,pu,q3⟩=>aP (O c s3 i A _ J q3) λp d ⟨t,B,K,pt,q4⟩=>?_;obtain⟨L,a,xs,rfl,T,U,q⟩:=q4;cases r1;have m:Inv X c i B {d with heap:=d.heap.push {cls:=.type "slice",data:=.fields #[o,w,p]}}:=K.kept (t':=d.toks) λb Z q=>a0e _ q;obtain⟨k,r,j,Y⟩:=m.list T;have n:=r.length;show a0A (a0L X.prog X.w) X.A (a7i e (.Slice lo hi (a7 st) p2) (.ref a)<|.ref d.heap.objs.size) (EP X c i Q) X.xe {d with heap:=d.heap.push {cls:=.type "slice",data:=.fields #[o,w,p]}};refine b2i (ops:=[.ref a,.ref d.heap.objs.size]) j.isList.typeIs a7B.lookup ?_ (by with_unfolding_all rfl);refine a9d j.isList (a7y ..) pl pu pt L ?_ (by rw[a0J]<;>lia);have g:a9n k.toArray l u t=(dU k l u t).toArray:=by unfold a9n dU;simp
 rw[g];refine⟨.ref _,_,m.laid (t':=d.toks) (o:=.lst (dU xs l u t)) (λb Z q=>a0e _ q) (a0l _) ?_,rfl,q _<|m.hok.fresh<|a0l _⟩;exact⟨U,_,0,Q6 r l u t,a0o _ rfl⟩
theorem Q9{mt:MO}(Y:QE X e me)(Z:QO X lo A)(hu:QO X hi z)(ht:QO X (a7 st) mt):QE X (.Subscript e (.Slice lo hi (a7 st) p2) pos) (mL me A z mt):=⟨cT (Q8 Y.h Z.h hu.h ht.h)<|by
 rintro σ H Q ⟨π,m,μ,d,μ',R,E,a,k⟩;obtain⟨⟨x,c⟩,M,a⟩:=a0a.mp a;obtain⟨⟨l,g⟩,N,a⟩:=a0a.mp a;obtain⟨⟨u,h⟩,O,a⟩:=a0a.mp a;obtain⟨⟨t,o⟩,T,a⟩:=a0a.mp a;refine⟨π,m,μ,x,c,R,E,M,λr v1 H1 i G i1=>⟨r,m,c,l,g,G,E.mono i,N,λs H2 j R2=>⟨s,m,g,u,h,R2,(E.mono i).mono j,O,λv H3 n I=>⟨v,m,h,t,o,I,((E.mono i).mono j).mono n,T,λπ4 H4 y w=>?_⟩⟩⟩⟩;split at a
 .rename_i L;obtain⟨xs,U,a⟩:=a0a.mp a;split at a
  .rename_i hz;cases a;obtain⟨p,B,rfl,q,hd⟩:=mK w (((i1.mono j).mono n).mono y) U;have b:=Q5 hd l u t;refine⟨L,p,B,rfl,q,by rw[b.length];exact hz,λp' hp=>?_⟩;obtain⟨K,J,_⟩:=w.alloc (c:=.lst (dU xs l u t)) (o:=.lst (dU B l u t)) hp b;exact k _ _ _ ((((i.trans j).trans n).trans y).trans K) J gC
  .cases a
 .cases a⟩
theorem Ai{σ:St}{ch:List Addr}{a:Addr}(I:Inv X b2w σ H s)(k:∀b u,b∉ch->s.heap.get? b=a7 u->h'.get? b=a7 u)(i:∀b∈ch,fZ X b2w H b)(j:s.heap.objs.size<=a)(new:ObjOk X.prog X.w (aK H a o) h' a o):Inv X b2w σ (aK H a o) {s with heap:=h',toks:=t'}:=by
 have d:=I.hok.fresh j;have g:∀b u,H b=a7 u->b∉ch:=λb u e z=>by have:=(i b z).1;rw[e]at this;cases this
 refine I.step (g':=s.gens) (d':=s.drawn) (ch:=ch) (λb h=>let⟨K,x,L,y,A,B⟩:=i b h;⟨y,x,A,B⟩) (λb o _ _ hc e _=>k b o hc e) (λb o _ _ hc e _=>⟨o.slots,k b o hc e⟩) (λb J hc e n=>?_)
  (λb o hc e=>⟨o,k b o hc e⟩) (λb l q=>?_) (λb J l q=>?_) (λb M q=>?_) (λm E=>?_) (λb u e=>?_) I.bare
 .rw[a9<|a0y<|a0V (a0m e) j];exact n
 .rw[a9<|eX q d];exact q
 .rw[a9<|eX q d];exact q
 .exact⟨#[],by rw[a9<|eX q d,q];simp⟩
 .obtain⟨o,w,p,G,r⟩:=E;exact⟨o,w,p,k _ o (λz=>(i _ z).2.1 rfl) G,r⟩
 .by_cases h:b=a
  .subst h;rw[cP]at e;cases e;exact new
  .rw[a9 h]at e;refine(I.hok b u e).stay (λc v hc q=>k c v ?_ q) (λc q=>by rw[a9<|eX q d];exact q) λc l q=>by rw[a9<|eX q d];exact q
   rcases hc with z|z
   .rw[z];exact g b u e
   .exact g c _ z
theorem EO{σ:St}{ch:List Addr}(I:Inv X b2w σ H s)(k:∀b u,b∉ch->s.heap.get? b=a7 u->h'.get? b=a7 u)(d:∀b∈ch,fZ X b2w H b):Inv X b2w σ H {s with heap:=h',toks:=t'}:=by
 have a:∀b u,H b=a7 u->b∉ch:=λb u e z=>by have:=(d b z).1;rw[e]at this;cases this
 refine I.step (g':=s.gens) (d':=s.drawn) (ch:=ch) (λb x=>let⟨E,j,G,l,p,w⟩:=d b x;⟨l,j,p,w⟩) (λb o _ _ hc e _=>k b o hc e) (λb o _ _ hc e _=>⟨o.slots,k b o hc e⟩) (λb B hc e n=>n)
  (λb o hc e=>⟨o,k b o hc e⟩) (λb g q=>q) (λb B g q=>q) (λb J q=>⟨#[],by rw[q];simp⟩) (λm y=>?_) (λb u e=>?_) I.bare
 .obtain⟨o,i,h,A,r⟩:=y;exact⟨o,i,h,k _ o (λz=>(d _ z).2.1 rfl) A,r⟩
 .refine(I.hok b u e).stay (λc v hc q=>k c v ?_ q) (λc q=>q) λc g q=>q;rcases hc with z|z
  .rw[z];exact a b u e
  .exact a c _ z
noncomputable def Aj(K:a0c)(a:Addr):It:=
 ⟨λi H=>∃b x,SqL K H a b/\b[i]?=a7 x,λi H x c=>∃p v,x=.ref p/\H p=b0/\c=aK H p (.tup [.int i,v])/\∀b,SqL K H a b->b[i]?=a7 v,λi H=>∃b,SqL K H a b/\b.length<=i⟩
theorem Ra a e m(r:e≠m):
  Turn Qc P w K (.Tuple es kx pt) (Aj K a) [e,m] e (λi h=>∃l,IsEnum h e m i l/\h.IsListIter m a i) where
 mem:=by simp
 obj:=λi h ⟨l,st,j⟩ b n=>by
  have g:b=e\/b=m:=by simpa using n
  rcases g with rfl|rfl
  .exact⟨_,st,λv z=>by
    have z':a1c _=a5C v:=z;cases z'⟩
  .obtain⟨o,J,c,d⟩:=j;exact⟨o,J,λv z=>by rw[d]at z;cases z⟩
 keep:=λi h h' ⟨l,st,j⟩ k=>⟨l,k e (by simp) _ st,j.at λo J=>k m (by simp) o J⟩;item:=by
  intro X N hw M hc i G s σ H E I A ⟨l,st,j⟩ R;subst N hw M;obtain⟨xs,x,B,Z⟩:=R;obtain⟨its,rv,p,hz⟩:=I.list B;obtain⟨u,hu,ru⟩:=rv.get Z;refine wpAny_pyNext_enum_item st j p.isList (x:=u) (by simpa using hu) r λh1 ho hit ht hsz hk=>⟨_,rfl,wpAny_letOwnedTupleGo_enum ho λh2 O q=>?_⟩;have y:e<s.heap.objs.size:=a0m st;have T:s.heap.objs.size≠e:=a2h y;have Y:h2.get? s.heap.objs.size=a7 {cls:=.type "tuple",data:=.seq #[.int i s.toks,u]}:=(q.2 _ T).trans ht;have Q:H s.heap.objs.size=none:=I.hok.fresh<|a0l _;refine⟨.ref s.heap.objs.size,aK H s.heap.objs.size<|.tup [.int i,x],?_,rfl,⟨s.heap.objs.size,x,rfl,Q,rfl,λys hy=>by rw[I.list_inj hy B];exact Z⟩,⟨u,O,hit.extBut q.extBut<|a1j r⟩,λb n=>?_⟩
  .refine Ai (s:=s) (h':=h2) (t':=s.toks+1) (ch:=[e,m]) I (λb ob n L=>?_) A (a0l _) ?_
   .have g:b≠e/\b≠m:=by simpa using n
    exact(q.2 b g.1).trans<|hk b ob g.1 g.2 L
   .exact⟨by show(2:Nat)<=a0s;decide,[.int i s.toks,u],.cons ⟨_,rfl⟩<|.cons ru .nil,_,Y,rfl,0,rfl,rfl⟩
  .have g:b=e\/b=m:=by simpa using n
   have hn:=(A b n).1;obtain⟨o,U,_⟩:=j;rw[a9]
   .exact hn
   .rcases g with rfl|rfl
    .exact a0y y
    .exact a0y<|a0m U
 done:=by
  intro X N hw M hc i G s σ H E I A ⟨l,st,j⟩ R;subst N hw M;obtain⟨xs,B,Z⟩:=R;obtain⟨its,rv,p,hz⟩:=I.list B;have hl:=rv.length;refine wpAny_pyNext_enum_end (I.ok.hd hc) st j p.isList (by simp;lia) λh' L=>⟨rfl,EO (t':=s.toks) (ch:=[e,m]) I (λb o n z=>L b o ?_ z) A⟩;have g:b≠e/\b≠m:=by simpa using n
  exact g.2
 self:=λ_ _ _ _ _ ⟨l,st,_⟩ h=>b0S st h
structure QJT(X:Cx)(e:Expr)(m:MI):Prop where
 h:∀es k p,PI X (.Tuple es k p) e (tMI X.K m)
theorem QJ.t(h:QJ X e m):QJT X e m:=⟨λes k p=>h.h _⟩
noncomputable def nY(x:D):fG:=λμ i=>(bF μ x).map λxs=>(xs[i]?).map λd=>.tup [.int i,d]
noncomputable def rV(ms:MA):MI:=λb μ=>(ms b μ).bind λp=>match p.1 with
 |[x]=>(d8 p.2 x).map λa=>(nY x,a.length+1,p.2)|_=>b0
theorem Rb(R:Rp K π H μ)(h:IsD K π μ.length H v x)(s:d8 μ x=a7 xs):∃a,v=.ref a/\(∃vs,SqL K H a vs)/\Wk K (Aj K a) (nY x) π μ.length H:=by
 have hw:bF μ x=a7 xs:=by
  cases x with
  |rol k=>exact s|loc b=>exact s|_=>cases s
 obtain⟨p,vs,rfl,O,_⟩:=mK R h s;refine⟨p,rfl,⟨vs,O⟩,?_⟩
  -- the list as it stands j
 have j:∀g c l,Ext π μ.length H g c.length l->Rp K g l c->∀k,bF c x=a7 k->∃m,SqL K l p m/\IsDs K g c.length l m k:=λg c l e n k G=>by
  have T:=h.mono e;have M:d8 c x=a7 k:=by
   cases x with
   |rol zs=>exact G|loc b=>exact G|_=>cases s
  obtain⟨Y,m,I,o,r⟩:=mK n T M;cases I;exact⟨m,o,r⟩
 refine⟨λg c l i e n z=>?_,λg c l i d e n z=>?_⟩
 .obtain⟨k,w,u⟩:=a0g.mp z;obtain⟨m,o,r⟩:=j g c l e n k w;have A:k[i]?=none:=by
   cases q:k[i]? with
   |none=>rfl|some d=>rw[q]at u;cases u
  exact⟨m,o,by rw[r.length];exact a1i.mp A⟩
 .obtain⟨k,w,u⟩:=a0g.mp z;obtain⟨X,A,J⟩:=a0g.mp u;subst J;obtain⟨m,o,r⟩:=j g c l e n k w;obtain⟨v,E,L⟩:=r.get A;refine⟨⟨m,v,o,E⟩,?_⟩;rintro y U ⟨t,Z,rfl,N,rfl,Q⟩;have:=Q m o;rw[E]at this;cases this;obtain⟨B,R2⟩:=n.fresh (o:=.tup [.int i,v]) N;exact⟨B,R2,.tup (.of cP)<|.cons (.int _)<|.cons (L.mono B) .nil⟩
noncomputable def Rc(K:a0c)(c:TA):TI:=λσ H R=>c σ H λvs b=>∃a,vs=[.ref a]/\(∃xs,SqL K b a xs)/\R (Aj K a) b
open PyProof.Rows in
theorem Rf{X:Cx}{a:Expr}{k:TA}{p pos pt:a1V}{es:List Expr}{G:Nat}(w:Gl X "enumerate") (y:X.mg "enumerate"=b0) (r:PA X [a] k)(A:a0T [a] X.env=[(b3,eval a X.env)]):PI X (.Tuple es G pt) (.Call (.Name "enumerate" p) [a] [] pos) (Rc X.K k):=by
 intro e s l H R I h;refine b2v<|gW I w y Boot.«enumerate»<|callWith_type1 (aP (r pos e s l H _ I h) λQ c ⟨T,i,d,L,K⟩=>?_) A rfl;obtain⟨n,rfl,⟨U,z⟩,q⟩:=K;obtain⟨u,rfl,M⟩:=d6 L;cases M;obtain⟨E,O,J,N⟩:=d.list z;refine call_enumerate_list J.isList λo j hit B x=>?_;refine b0S j ?_;have m:Inv X e l i {c with heap:=o}:=d.kept (t':=c.toks) x;refine⟨c.heap.objs.size+1,[c.heap.objs.size+1,c.heap.objs.size],_,_,i,rfl,m,Ra n _ _<|Nat.succ_ne_self _,⟨_,j,hit⟩,λb v=>?_,q⟩;have g:b=c.heap.objs.size+1\/b=c.heap.objs.size:=by simpa using v
 rcases g with rfl|rfl
 .exact d.fpOk (a3w _)<|d.hok.fresh<|a3w _
 .exact d.fpOk (a0l _)<|d.hok.fresh<|a0l _
theorem Rg(c:Gl X "enumerate")(d:X.mg "enumerate"=b0)(j:QA X [a] ms n):QJT X (.Call (.Name "enumerate" p) [a] [] pos) (rV ms):=⟨λes K pt b2w s σ H R I hw=>by
 have l:=j.s;rw[a1e,a0j]at l;obtain⟨G,J,A,y,L,B,o,E,b,k⟩:=hw;obtain⟨⟨x,g⟩,u,b⟩:=a0a.mp b;refine Rf c d j.h (eM l.1) b2w s σ H R I ⟨G,J,A,x,g,o,E,u,λh M m r i e=>?_⟩;dsimp only at b;split at b
 .rename_i x;obtain⟨N,v,b⟩:=a0g.mp b;cases b;cases e with
  |cons e z=>cases z;obtain⟨q,rfl,w,W⟩:=Rb i e v;exact⟨q,rfl,w,k h m _ r i W⟩
 .cases b⟩
theorem rW(I:PI X tg iter (tMI X.K w))(G:QG X tg g)(B:QB X body v)(K:a7Z (a0L X.prog X.w) X.A X.env X.xe)(hc:X.calm=b5)(L:fL iter=b5):
  QS X (.For tg iter body [] pos) (cD w g v):=⟨iJ (Lz K hc I G.h B.h<|by intro z;cases iter<;>first|rfl|cases L)<|by
 rintro E T H ⟨O,Q,N,u,r,p,R,s,m,k⟩;obtain⟨⟨o,n,l⟩,A,m⟩:=a0a.mp m;refine⟨O,Q,N,o,n,l,R,s,A,λq x J i y W=>?_⟩;have M:nK X.K E q l.length x u r p:=by
  cases u with
  |nx=>exact λa b e j h c=>k a b e (i.trans j) h c|bk=>exact λa b e j h c=>k a b e (i.trans j) h c|ct=>exact λa b e j h c=>k a b e (i.trans j) h c|rt d=>exact KC.after k i
 exact Oz W M .refl y (s.mono i) m⟩
noncomputable def Ak(put:D->D->D->Hm->Option Hm)(o i v:ME):MS:=λa μ=>(v a μ).bind λp=>(o a p.2).bind λq=>(i a q.2).bind λr=>(put q.1 r.1 p.1 r.2).map λμ'=>(.nx,a,μ')
noncomputable def rX:D->D->D->Hm->Option Hm
 |.loc a,y,d,μ=>match μ[a]? with
  |some (.dT kvs)=>(c5 y).bind λk=>if kvs.length<a0s then a7 (μ.set a<|.dT<|cS kvs k d)else b0|_=>b0
 |_,_,_,_=>b0
noncomputable def kI:D->D->D->Hm->Option Hm:=rX
noncomputable def dN:=Ak kI
theorem ER:QS X st (aR i bP):=⟨λb2w s σ H D I q=>by
 obtain⟨g,h,e,d,c,b,R,E,a,k⟩:=q;cases a⟩
noncomputable def mM(μ:Hm)(x:D):List D->Option (List Bool)
 |[]=>a7 []|y::r=>(cI 8 μ y x).bind λb=>(mM μ x r).map λc=>b::c
noncomputable def kJ:D->List D->Hm->jk
 |.loc a,[x],μ=>match μ[a]? with
  |some (.lst xs)=>(mM μ x xs).bind λbs=>if bs.findIdx id<bs.length/\bs.length<=a0s then a7 (.int (bs.findIdx id:Nat),μ)else b0|_=>b0
 |_,_,_=>b0
noncomputable def ES(K:a0c):V->gw->Hp->VK->Prop:=λx vs H Q=>∃π μ a xs y b bs,Rp K π H μ/\x=.ref (π a)/\vs=[y]/\μ[a]?=a7 (.lst xs)/\IsD K π μ.length H y b/\mM μ b xs=a7 bs/\bs.findIdx id<bs.length/\Q (.int (bs.findIdx id:Nat)) H
theorem Rh:iR K kJ (ES K):=by
 intro b H n x ds d o v p Q R j i a k;unfold kJ at a;split at a
 .split at a
  .rename_i m g;obtain⟨bs,c,a⟩:=a0a.mp a;split at a
   .rename_i e;cases a;cases i with
    |cons h l=>cases l;cases j;exact⟨b,n,_,m,_,_,bs,R,rfl,rfl,g,h,c,e.1,k b _ H .refl R<|.int _⟩
   .cases a
  .cases a
 .cases a
theorem Ri{σ:St}(I:Inv X b2w σ H s)(R:Rp X.K π H μ)(O:A.units+8<a2e)(rx:RelV x v)(Y:IsD X.K π μ.length H x l):
  ∀{e}{vs}{us}{bs},IsDs X.K π μ.length H vs e->Vals vs us->mM μ l e=a7 bs->
   ∃g,(∀u∈us,a5F A s u v (g u))/\us.map g=bs:=by
 classical
 intro e vs us bs j k d
 have n:∀{e:List D}{vs:gw}{us:gq}{bs:List Bool},IsDs X.K π μ.length H vs e->Vals vs us->mM μ l e=a7 bs->(∀u∈us,∃c,a5F A s u v c/\∃w m,RelV w u/\IsD X.K π μ.length H w m/\cI 8 μ m l=a7 c):=by
  intro e
  induction e with
  |nil=>
   intro vs us b j k d u a
   cases j
   cases k
   cases a
  |cons y e G=>
   intro vs us b j k d u a
   cases j with
   |cons h t=>
    cases k with
    |cons r rt=>
     obtain⟨c,q,d⟩:=a0a.mp d
     obtain⟨L,B,d⟩:=a0g.mp d
     rcases a0D.mp a with rfl|a
     .exact⟨c,zD I R 8 O r rx h Y q,_,_,r,h,q⟩
     .exact G t rt B u a
 have o:=n j k d
 refine⟨λu=>if h:u∈us then a3E (o u h)else b3,λu a=>?_,?_⟩
 .simp only[dif_pos a]
  exact(a4k<|o u a).1
 .have key:∀u (h:u∈us) w m c,RelV w u->IsD X.K π μ.length H w m->cI 8 μ m l=a7 c->a3E (o u h)=c:=by
   intro u h w m c J U K
   obtain⟨_,w2,M,Z,T,N⟩:=a4k<|o u h
   have:w2=w:=Z.inj J
   subst this
   have:=zT I R T U
   subst this
   rw[N]at K
   exact a0B K
  have p:∀{e:List D}{vs:gw}{i:gq}{bs:List Bool},(∀u∈i,u∈us)->IsDs X.K π μ.length H vs e->Vals vs i->mM μ l e=a7 bs->i.map (λu=>if h:u∈us then a3E (o u h)else b3)=bs:=by
   intro e
   induction e with
   |nil=>
    intro vs i b E j k d
    cases j
    cases k
    cases d
    rfl
   |cons y e G=>
    intro vs i b E j k d
    cases j with
    |cons h t=>
     cases k with
     |@cons _ u _ us2 r rt=>
      obtain⟨c,q,d⟩:=a0a.mp d
      obtain⟨L,B,d⟩:=a0g.mp d
      have fF:u∈us:=E u<|a0P ..
      rw[a0r,G (λz Q=>E z<|a0F _ Q) t rt B,dif_pos fF,key u fF _ _ c r h q]
      exact d
  exact p (λ_ h=>h) j k d
theorem Rj(hu:X.A.units+20<a2e):j9 X "list.index" (ES X.K):=by
 intro E s σ H x vs v us Q I Y U h
 obtain⟨π,μ,a,Z,y,dy,bs,R,rfl,rfl,M,O,L,p,q⟩:=h
 cases Y
 obtain⟨u,rfl,T⟩:=U.one
 obtain⟨ws,J,hd⟩:=R.lst a Z M
 obtain⟨z,b,n,r,hl,e⟩:=I.lstM J
 obtain⟨g,G,B⟩:=Ri I R (A:=X.A.in1) (by rw[nN];lia) T O hd r L
 have j:bs.length=b.length:=by rw[<- B,a0d]
 have w:bs.findIdx id<b.toArray.size:=by rw[a0J,<- j];exact p
 have c:∀m (o:m<b.length),bs[m]?=a7 (g b[m]):=λm o=>by
  rw[<- B,a0v,a0w o];rfl
 have small:((bs.findIdx id:Nat):Int)<2^63-1:=by
  have k:bs.findIdx id<b.length:=by simpa using w
  have d:=nG
  have i:(bs.findIdx id:Nat)<a0s:=by lia
  have l:((a0s:Nat):Int)<=2^63-1:=by decide
  lia
 refine a6m F.slot_list_index ⟨_,e,rfl⟩ F.entry_list_index (F.args_list_index_2 _ _) (SeqAt.list_indexAt (π a) b.toArray n b0 #[] u g (bs.findIdx id) w small ?_ ?_) ⟨e,λy N=>G y<|by simpa using N,⟨.int (bs.findIdx id:Nat),H,I.tok _,⟨_,rfl⟩,q⟩⟩
 .have k:bs.findIdx id<b.length:=by simpa using w
  have d:=List.findIdx_getElem (p:=id) (xs:=bs) (w:=p)
  have i:=c _ k
  rw[a0w p]at i
  have l:=a0B i
  rw[l]at d
  simpa using d
 .intro m o A
  have k:m<b.length:=by simpa using o
  have d:=List.not_of_lt_findIdx (p:=id) (xs:=bs) A
  have i:=c _ k
  have K:m<bs.length:=by lia
  rw[a0w K]at i
  have l:=a0B i
  rw[l]at d
  simpa using d
noncomputable def gH(is:List Int):List Int:=is.mergeSort λa b=>decide<|a<=b
theorem Rk(g:ns.Perm is)(i:ns.Pairwise (·<=·)):ns=gH is:=by
 have d:(gH is).Perm is:=List.mergeSort_perm _ _;have e:(gH is).Pairwise (·<=·):=by have:=List.pairwise_mergeSort (le:=λa b:Int=>decide<|a<=b) (λa b c d e=>by simp only[decide_eq_true_eq]at *;lia) (λa b=>by simp only[a3m,decide_eq_true_eq];lia) is;exact this.imp λh=>by simpa using h
 exact List.Perm.eq_of_pairwise (le:=λa b:Int=>a<=b) (λa b _ _ d e=>by lia) i e<|g.trans d.symm
noncomputable def nZ:MF:=λds μ=>match ds with
 |[x]=>(d8 μ x).bind λb=>(mE b).bind λa=>if a.length<64 then a7 (.loc μ.length,μ++[.lst<|(gH a).map D.int])else b0|_=>b0
noncomputable def Al(K:a0c):gw->Hp->VK->Prop:=λxs H Q=>∃(p:Addr)(is:List Int),xs=[.ref p]/\SqL K H p (is.map V.int)/\is.length<64/\∀l,H l=b0->Q (.ref l) (aK H l<|.lst<|(gH is).map V.int)
theorem Rl:dJ K nZ (Al K):=by
 intro v H u r d m n Q R i a k;unfold nZ at a;split at a
 .obtain⟨s,e,a⟩:=a0a.mp a;obtain⟨b,g,a⟩:=a0a.mp a;split at a
  .rename_i h;cases a;cases i with
   |cons i t=>cases t;obtain⟨p,o,rfl,q,hd⟩:=mK R i e;rw[vG g]at hd;have:=ints_of' hd;subst this;refine⟨p,b,rfl,q,h,λl j=>?_⟩;obtain⟨c,R2,_⟩:=R.alloc (c:=.lst ((gH b).map D.int)) (o:=.lst ((gH b).map V.int)) j<|Af _;exact k _ _ _ c R2 gC
  .cases a
 .cases a
theorem call_sortI:CallR X (.builtin "sorted") (Al X.K):=by
 intro q s N H M L Q I r h;obtain⟨p,g,rfl,A,w,k⟩:=h;obtain⟨u,rfl,E⟩:=d6 r;cases E;obtain⟨i,m,B,J⟩:=I.list A;have a:=m.length;rw[a0d]at a;refine b1H B.isList (uI m) (by lia) λc j n l o=>?_;obtain⟨e,x⟩:=a6M s.heap i c;have y:H (s.heap.objs.size+1)=none:=I.hok.fresh<|a3w _;have v:j=gH g:=Rk l o;subst v;refine⟨.ref<|s.heap.objs.size+1,_,I.laid (t':=s.toks) (a:=s.heap.objs.size+1) (o:=.lst ((gH g).map V.int)) (λb K z=>a6F z) (a3w _) ?_,rfl,k _ y⟩;have d:(gH g).length<=a0s:=by have:=l.length_eq;have G:=a0O;lia
 refine⟨by rw[a0d];exact d,c.toList,e,yU n,?_⟩;rw[x]
noncomputable def mN:MF:=λds μ=>match nZ ds μ with
 |some r=>a7 r|none=>rS ds μ
theorem Rm:dJ K mN (λxs H Q=>Al K xs H Q\/Ad K xs H Q):=by
 intro g H e xs d a c Q R i b k;unfold mN at b;split at b
 .rename_i r h;cases b;exact .inl<|Rl g H e xs d a c Q R i h k
 .exact .inr<|QV g H e xs d a c Q R i b k
theorem Rn:a6k (.type "list_reverseiterator") "__len__"=pure none:=by rw[a6t,a4G];kernel_rfl
theorem Ro:a6k (.type "list_reverseiterator") "__length_hint__"=pure (a7<|.builtin "list_reverseiterator.__length_hint__"):=by rw[a6t,a4G];kernel_rfl
theorem Rq(b:s.TypeIs (.ref r) "list_reverseiterator")(h:Q b3 s):a0A (a0L prog w) A (a6E<|.ref r) Q E s:=by unfold a6E;refine a0b<|a4o b Rn ?_;dsimp only;refine a3I (λa=>absurd a<|by decide +kernel) λ_=>?_;refine a3I (λa=>absurd a<|by decide) λ_=>?_;refine a0b<|a4o b Ro ?_;generalize bH:("list_reverseiterator.__length_hint__":String)=id0;wp_delta;rw[show splitId id0=a7 ("list_reverseiterator","__length_hint__")from by subst bH;decide +kernel];subst bH;refine a0b (a4e (T:="list_reverseiterator") (b:=b5) b (by rw[isSubtype_type];kernel_rfl) ?_);refine a3I (λa=>absurd a<|by decide) λ_=>?_;refine a3I (λ_=>?_) (λa=>absurd (by decide +kernel) a);refine a3I (λa=>absurd a<|by decide +kernel) λ_=>?_;exact a0h h
theorem Rt(U:A.handled=b0)(hit:s.heap.IsRevIter p a ((its.size:Int)-1))(Y:s.heap.IsList a its)(G:a≠p)S(n:S≠p)(y:S≠a)res j(T:s.heap.get? S=a7 {cls:=.type "list",data:=.seq #[] j})(Q:∀u tk c m,(∀b o,b≠S->b≠p->s.heap.get? b=a7 o->u.get? b=a7 o)->u.get? S=a7 {cls:=.type "list",dict:=b0,data:=.seq c m,slots:=#[]}->ItemsOf (λi v=>its[its.size-1-i]?=a7 v) c its.size->R (.ok<|.ret res) {s with heap:=u,toks:=tk})(Z:its.size<=a0s):
  a0A (a0L prog w) A.in1 (a2t (.ref S) (.ref p) res)
   (λfin l=>match fin with|.done f=>R (.ok f) l|.again m=>m.quiet=b5/\a3q (a0L prog w) A m R l) (λe l=>R (.error e) l) s:=by
 have z:S∉[p,a]:=by simp only[a0D,a3a,or_false,not_or];exact⟨n,y⟩
 have W:=Walks.listRev (prog:=prog) (w:=w) (A:=A.in1) U p a G its;have key:∀(h:a1C)(d tk:Nat),h.IsRevIter p a ((its.size:Int)-1)->h.IsList a its->(∀b o,b≠S->s.heap.get? b=a7 o->h.get? b=a7 o)->
   h.get? S=a7 {cls:=.type "list",data:=.seq #[] d}->a3q (a0L prog w) A (.builtin "list.extend.loop" ⟨[.ref S,.ref p,res],[]⟩) R {s with heap:=h,toks:=tk}:=by
  intro h d tk I r X k;refine codeAny_extend_loopS W.toS Z S z res its.size 0 _ #[] d rfl (a1U _) ⟨a1U _,by simpa using I,r⟩ k (ItemsOf.nil _) λl c m K x q=>?_;rw[Moved.eq_with K];refine Q l.heap l.toks c m (λb o J H e=>K.heap b o (λg=>?_)<|X b o J e) x q;rcases a0D.mp g with L|g
  .exact J L
  .exact H<|a0N.mp g
 unfold a2t;refine a0b<|a5m (T:="list_reverseiterator") hit.typeIs ?_;have M:a3F (.ref S) (.ref p)=false:=by simp[a3F,n]
 have N:(a0C "list_reverseiterator"==a0C "list")=false:=by decide +kernel
 have O:(a0C "list_reverseiterator"==a0C "tuple")=false:=by decide +kernel
 simp only[M,N,O,a5t,a0t,if_false];refine a0b<|wpAny_pyIter_revIter hit ?_;refine a0b<|a1q<|Rq hit.typeIs ?_;refine a3I (λB=>absurd B<|by decide +kernel) λ_=>a0h ⟨a2o PySem.F.plain_extend_loop _,?_⟩;exact key _ j s.toks hit Y (λb o _ e=>e) T
theorem Ru(H:A.handled=b0)(hit:s.heap.IsRevIter p a ((its.size:Int)-1))(J:s.heap.IsList a its)(u:a≠p)S(k:S≠p)(j:S≠a)(q:s.heap.get? S=a7 {cls:=.type "list",data:=.seq #[]})(G:∀h B c g,(∀b o,b≠S->b≠p->s.heap.get? b=a7 o->h.get? b=a7 o)->h.get? S=a7 {cls:=.type "list",dict:=b0,data:=.seq c g,slots:=#[]}->ItemsOf (λi v=>its[its.size-1-i]?=a7 v) c its.size->R (.ok<|.ret .none) {s with heap:=h,toks:=B})(K:its.size<=a0s):
  a0A (a0L prog w) A.in1 (Builtin.«list.__init__» ⟨[.ref S,.ref p],[]⟩)
   (λfin n=>match fin with|.done f=>R (.ok f) n|.again g=>g.quiet=b5/\a3q (a0L prog w) A g R n) (λe n=>R (.error e) n) s:=by
 show a0A _ _ (do let z <- a7n (.ref S);b1Z (.ref S) λ_=>#[];letGo z.toList.reverse;a2t (.ref S) (.ref p) .none) _ _ s;refine a0b ?_;unfold a7n;refine a0b<|a6I q rfl<|a0h ?_;show a0A _ _ (a7S S (λ_=>#[]) >>= λ_=>letGo (#[]:Array Value).toList.reverse >>= λ_=>a2t (.ref S) (.ref p) .none) _ _ s;refine a0b<|a3G q rfl ?_;have d:=a2a (a2g λ_=>(#[]:Array Value)) q rfl;have j6:∀b o,b≠S->s.heap.get? b=a7 o->(s.heap.update S<|a2g λ_=>(#[]:Array Value)).get? b=a7 o:=
  λb o m e=>(a1Q _ _<|a1j m).trans e
 refine a0b<|a5G ?_;refine Rt H (hit.at λo e=>j6 p o (a1j k) e) (let⟨o,L,x⟩:=J;⟨o,j6 a o (a1j j) L,x⟩) u S k j .none _ d (λh B c g I r l=>?_) K;exact G h B c g (λb o m y e=>I b o m y<|j6 b o m e) r l
theorem Rv(H:A.handled=b0)(hit:s.heap.IsRevIter p a ((its.size:Int)-1))(y:s.heap.IsList a its)(q:a≠p)(J:its.size<=a0s)(z:∀g r c m,(∀b o,b≠p->s.heap.get? b=a7 o->g.get? b=a7 o)->g.get? s.heap.objs.size=a7 {cls:=.type "list",dict:=b0,data:=.seq c m,slots:=#[]}->ItemsOf (λi v=>its[its.size-1-i]?=a7 v) c its.size->Q (.ref s.heap.objs.size) {s with heap:=g,toks:=r}):
  a0A (a0L prog w) A (call (.type "list") [.ref p]) Q E s:=by
 refine a6K (Q₁:=λl d=>l=.ref s.heap.objs.size/\d={s with heap:=s.heap.push {cls:=.type "list",data:=.seq #[]}}) PySem.F.called_list (PySem.F.typeCall_list_1 _) PySem.F.entry_list_init
  (code_list_new _ ⟨rfl,rfl⟩) λl d k=>?_
 obtain⟨rfl,rfl⟩:=k;have u:(s.heap.push {cls:=.type "list",data:=.seq #[]}).get? s.heap.objs.size=a7 {cls:=.type "list",data:=.seq #[]}:=a0o _ rfl;have K:p<s.heap.objs.size:=let⟨o,j,_⟩:=hit;a0m j;have B:a<s.heap.objs.size:=let⟨o,j,_⟩:=y;a0m j;refine⟨⟨_,u,rfl⟩,PySem.F.args_list_init_2 _ _,Ru (A:=A.in1) H (hit.at λo e=>a0e _ e) (let⟨o,j,x⟩:=y;⟨o,a0e _ j,x⟩) q _ (a2h K) (a2h B) u (λg r c m I n h=>?_) J⟩;exact⟨rfl,z g r c m (λb o G e=>I b o (a0y<|a0m e) G<|a0e _ e) n h⟩
noncomputable def ET(K:a0c):gw->Hp->VK->Prop:=λxs H Q=>∃(p:Addr)(a:gw),xs=[.ref p]/\SqL K H p a/\∀l,H l=b0->Q (.ref l) (aK H l<|.lst a.reverse)
theorem EU:∀{a}{its},Vals a its->Vals a.reverse its.reverse
 |_,_,.nil=>.nil|_,_,.cons h t=>by rw[a5p,a5p];exact(EU t).append<|.cons h .nil
theorem Rw(hc:X.calm=b5)(N:Gl X "list")(R:X.mg "list"=b0)(r:Gl X "reversed")(w:X.mg "reversed"=b0)(M:PA X [e] t)(U:a0T [e] X.env=(b3,eval e X.env)::a0T [] X.env):
  PE X (.Call (.Name "list" p) [.Call (.Name "reversed" G) [e] [] d] [] pos) (uH (ET X.K) t):=by
 intro m s σ H Q I h;refine a2n (gW I N R a4s ?_ (by decide)<|by decide);refine a1M ?_ rfl rfl;show a0A _ _ (spliced<|(b3,eval (.Call (.Name "reversed" G) [e] [] d) X.env)::a2F pos (a0T [] X.env)) _ _ s;refine a4W (a2n<|gW I r w a9M ?_ (by decide)<|by decide);refine a1M (aP (M d m s σ H _ I h) λus j ⟨vs,H1,l,r1,q1⟩=>?_) U rfl;obtain⟨q,ys,rfl,T,k⟩:=q1;obtain⟨u,rfl,ru⟩:=d6 r1;cases ru;obtain⟨a,J,pl,Y⟩:=l.list T;have E:=J.length;have v:=pl.isList;have z:q<j.heap.objs.size:=let⟨o,y,_⟩:=v;a0m y;refine call_reversed_list v ?_;refine a5l ?_;refine Rv (l.ok.hd hc) (p:=j.heap.objs.size) (a:=q) (its:=a.toArray) ⟨_,a0o _ rfl,rfl,rfl⟩ (let⟨o,y,x⟩:=v;⟨o,a0e _ y,x⟩) (a0y z) (by simp only[a0J]<;>lia) λh' tk c K Z B g=>?_;have n:c.toList=a.reverse:=by
  refine a6U λi=>?_;have hn:c.size=a.length:=by simpa using g.1
  by_cases O:i<a.length
  .have L:=g.2 i c[i] (a5k<|by lia);rw[a1y,a5k<|by lia,<- L,List.getElem?_reverse O,a0J,List.getElem?_toArray]
  .rw[a3f<|by rw[a2p];lia,a3f<|by rw[a2U];lia]
 have A:(j.heap.push<|revObj q<|(a.toArray.size:Int)-1).objs.size=j.heap.objs.size+1:=by simp[Heap.push]
 rw[A]at B ⊢;refine⟨.ref<|j.heap.objs.size+1,_,l.laid (t':=tk) (a:=j.heap.objs.size+1) (o:=.lst ys.reverse) (λb o e=>Z b o (a0y<|a0m e)<|a0e _ e) (by lia) ⟨by rw[a2U];exact Y,a.reverse,K,EU J,by rw[<- n];simpa using B⟩,rfl,k _<|l.hok.fresh<|by lia⟩
noncomputable def mO:MF:=λds μ=>match ds with
 |[.loc a]=>match μ[a]? with
  |some (.lst xs)=>a7 (.loc μ.length,μ++[.lst xs.reverse])|_=>b0
 |_=>b0
theorem Ry:dJ K mO (ET K):=by
 intro s H r q d o p Q R i b k;unfold mO at b;split at b
 .rename_i a;split at b
  .rename_i e n;cases b;cases i with
   |cons i t=>cases t;cases i;obtain⟨c,h,j⟩:=R.lst a e n;refine⟨_,c,rfl,.of h,λl m=>?_⟩;obtain⟨g,R2,_⟩:=R.alloc (c:=.lst e.reverse) (o:=.lst c.reverse) m<|Qm j;exact k _ _ _ g R2 gC
  .cases b
 .cases b
theorem Rz(hc:X.calm=b5)(d:X.mg "list"=b0)(g:X.mg "reversed"=b0)(h:QA X [e] ms n)(b:Gl X "list")(c:Gl X "reversed"):
  QE X (.Call (.Name "list" p) [.Call (.Name "reversed" j) [e] [] a] [] pos) (aF mO ms):=by
 have i:=h.s;rw[a1e,a0j]at i;exact⟨cT (Rw hc b d c g h.h<|eM i.1)<|yX Ry⟩
noncomputable def Am(lo c:Int)(n:Nat):It:=⟨λi _=>i<n,λi H x a=>a=H/\x=.int (lo+(i:Nat)*c),λi _=>n<=i⟩
theorem RA a lo c n:Turn Qc P w K tg (Am lo c n) [a] a (λi h=>a4V h a (lo+(i:Nat)*c) ((n:Int)-(i:Nat)) c) where
 mem:=by simp
 obj:=λi h st b d=>by
  have e:b=a:=by simpa using d
  subst e;exact⟨_,st,λv z=>by
   have R:a1c _=a5C v:=z;cases R⟩
 keep:=λi h l st k=>k a (by simp) _ st;item:=by intro X A hw y hc i g s J H E I m st B;subst A hw y;obtain⟨p,q,N,r,u,x⟩:=m a (by simp);have W:=b0Z (prog:=X.prog) (w:=X.w) (I.ok.hd hc) a lo c n;refine W.item i s _ _ B st λv l G O j Q=>?_;obtain⟨t,rfl⟩:=O;have L:Inv X g J H {s with heap:=l,toks:=G}:=I.turned (λb o d e=>Q b o (by simpa using d) e) p q r u x;exact⟨_,rfl,o3 (s:={s with heap:=l,toks:=G}) (n:="range_iterator") j rfl rfl (by decide) ⟨.int<|lo+(i:Nat)*c,H,L,⟨t,rfl⟩,⟨rfl,rfl⟩,j,λb d=>(m b d).1⟩⟩
 done:=by intro X A hw y hc i g s J H E I m st B;subst A hw y;obtain⟨p,q,N,r,u,x⟩:=m a (by simp);exact a9x (I.ok.hd hc) st (by have:n<=i:=B;lia) λl M=>⟨rfl,I.turned (t':=s.toks) (λb o d e=>M b o d e) p q r u x⟩
 self:=λ_ _ _ _ _ st h=>a9y st h
noncomputable def rY(a b c:Int):Bool:=b1A a b c&&decide (c≠0)&&decide (c.natAbs<1073741824)&&decide (0<=a1s a b c)
noncomputable def RB(e:TA):TI:=λσ H R=>e σ H λvs d=>∃a b c:Int,vs=[.int a,.int b,.int c]/\rY a b c=b5/\R (Am a c (a1s a b c).toNat) d
open PyProof.Rows in
theorem RC{X:Cx}{tg a b c:Expr}{E:TA}{p pos:a1V}(O:Gl X "range") (Q:X.mg "range"=b0) (M:PA X [a,b,c] E)(U:a0T [a,b,c] X.env=(b3,eval a X.env)::a0T [b,c] X.env)(y:(a2F pos<|a0T [b,c] X.env).any (·.1)=b3) :
  PI X tg (.Call (.Name "range" p) [a,b,c] [] pos) (RB E):=by
 intro m s G H R I h;refine b2v<|gW I O Q b0M<|a1M (aP (M pos m s G H _ I h) λus l ⟨vs,B,J,r1,Y⟩=>?_) U y;obtain⟨i,j,k,e,g,q⟩:=Y;subst e;unfold rY at g;rw[a0j,a0j,a0j,decide_eq_true_eq,decide_eq_true_eq,decide_eq_true_eq]at g;obtain⟨⟨⟨z,w⟩,x⟩,T⟩:=g;cases r1 with
 |cons r n=>
  cases n with
  |cons Z n=>
   cases n with
   |cons A n=>
    cases n;obtain⟨t,rfl⟩:=r;obtain⟨u,rfl⟩:=Z;obtain⟨d,rfl⟩:=A;refine call_range_3 w ?_<|.inl<|PyProof.noPylong_small x;refine b0F (b0B ..) z ?_;have v:Inv X m G B {l with heap:=l.heap.push {cls:=.type "range",data:=.fields #[.int i t,.int j u,.int k d]},toks:=l.toks}:=J.kept λb o e=>a0e _ e;refine⟨(l.heap.push {cls:=.type "range",data:=.fields #[.int i t,.int j u,.int k d]}).objs.size,[(l.heap.push {cls:=.type "range",data:=.fields #[.int i t,.int j u,.int k d]}).objs.size],_,_,B,rfl,
     v.kept (t':=l.toks) λb o e=>a0e _ e,RA _ i k (a1s i j k).toNat,?_,λb N=>?_,q⟩
    .have K:i+((0:Nat):Int)*k=i:=by simp
     have L:(((a1s i j k).toNat:Nat):Int)-((0:Nat):Int)=a1s i j k:=by lia
     show a4V _ _ (i+((0:Nat):Int)*k) ((((a1s i j k).toNat:Nat):Int)-((0:Nat):Int)) k;rw[K,L];exact a0o _ rfl
    .have e:b=(l.heap.push {cls:=.type "range",data:=.fields #[.int i t,.int j u,.int k d]}).objs.size:=by simpa using N
     subst e;exact v.fpOk (a0l _)<|v.hok.fresh<|a0l _
noncomputable def pU(lo c:Int)(n:Nat):fG:=λ_ i=>a7<|if i<n then a7 (.int<|lo+(i:Nat)*c)else b0
theorem RD:Wk K (Am lo c k) (pU lo c k) π n H:=by
 refine⟨λb m g i e R z=>?_,λb m g i d e R z=>?_⟩
 .have a:=a0B z;split at a
  .cases a
  .exact a4j.mp<|by assumption
 .have a:=a0B z;split at a
  .cases a;rename_i h;exact⟨h,λx o ⟨j,l⟩=>by subst j;rw[l];exact⟨.refl,R,.int _⟩⟩
  .cases a
noncomputable def rZ(ms:MA):MI:=λa μ=>(ms a μ).bind λp=>match p.1 with
 |[.int i,.int j,.int c]=>if rY i j c=b5 then a7 (pU i c (a1s i j c).toNat,(a1s i j c).toNat+1,p.2)else b0|_=>b0
theorem RE(e:Gl X "range")(g:X.mg "range"=b0)(q:QA X [a,b,c] ms n):QJ X (.Call (.Name "range" p) [a,b,c] [] pos) (rZ ms):=⟨λtg b2w s σ H R I hw=>by
 have h:=q.s;rw[a1e,a0j]at h;obtain⟨O,Q,M,G,T,N,v,E,d,k⟩:=hw;obtain⟨⟨x,m⟩,y,d⟩:=a0a.mp d;refine RC e g q.h (eM h.1) (jJ h.2) b2w s σ H R I ⟨O,Q,M,x,m,v,E,y,λo U r w u l=>?_⟩;dsimp only at d;split at d
 .rename_i i j c;split at d
  .rename_i z;cases d;cases l with
   |cons l J=>
    cases l;cases J with
    |cons A K=>
     cases A;cases K with
     |cons B L=>cases B;cases L;exact⟨i,j,c,rfl,z,k o r _ w u RD⟩
  .cases d
 .cases d⟩
noncomputable abbrev bN:=List<|List Int×Addr×V
noncomputable def bY(ps:bN)(ws:gq):List (List Int×Addr×Value):=a4R (λp w=>(p.1,p.2.1,w)) ps ws
theorem vO:∀(ps:bN)(ws:gq),a4R rH ps ws=(bY ps ws).map (b0I<|a4f<|a4A P w)
 |[],_=>by simp[bY]
 |p::ps,[]=>by simp[bY]
 |p::ps,u::ws=>by have a:=vO (P:=P) (w:=w) ps ws;unfold bY at a ⊢;rw[a1p,a1p,a0r,a];rfl
theorem n5:∀{ps}{ws},Vals (ps.map (·.2.2)) ws->(bY ps ws).map (·.1)=ps.map (·.1)
 |[],_,_=>by simp[bY]
 |p::ps,_,.cons r t=>by have a:=n5 (ps:=ps) t;unfold bY at a ⊢;rw[a1p,a0r,a0r,a]
theorem EV:∀{ps}{ws}{x},x∈bY ps ws->∃p∈ps,p.1=x.1/\p.2.1=x.2.1
 |[],_,x,h=>by simp[bY]at h
 |p::ps,[],x,h=>by simp[bY]at h
 |p::ps,u::ws,x,h=>by
  unfold bY at h;rw[a1p]at h;rcases a0D.mp h with e|h
  .subst e;exact⟨p,a0P ..,rfl,rfl⟩
  .obtain⟨q,a,e⟩:=EV (ps:=ps) (ws:=ws) h;exact⟨q,a0F _ a,e⟩
noncomputable def dY(ps:bN)(k:List Int):Option V:=(ps.find? λp=>decide<|p.1=k).map (·.2.2)
noncomputable def dO(ps:bN)(k:List Int)(b:Addr)(v:V):bN:=if(dY ps k).isSome then ps.map (λp=>if p.1=k then(p.1,p.2.1,v)else p)else ps++[(k,b,v)]
theorem n6:∀{ps}{ws},Vals (ps.map (·.2.2)) ws->∀k,RelO (dY ps k) ((a6L (bY ps ws) k).map (·.2))
 |[],_,.nil,k=>by simp[dY,bY,a6L];exact a3v
 |p::ps,_,.cons r t,k=>by
  have a:=n6 (ps:=ps) t k;unfold dY a6L bY at a ⊢;rw[a1p,a3l,a3l];by_cases e:p.1=k
  .simp only[e,decide_true];exact r
  .simp only[e,decide_false];exact a
theorem r6 ps k b v:(dO ps k b v).length<=ps.length+1:=by unfold dO;split<;>simp
theorem EW(d:RelV v u):∀{ps}{ws},Vals (ps.map (·.2.2)) ws->
  ∃a,Vals ((ps.map λp=>if p.1=k then(p.1,p.2.1,v)else p).map (·.2.2)) a/\(bY ps ws).map (putAt k u)=bY (ps.map λp=>if p.1=k then(p.1,p.2.1,v)else p) a
 |[],_,.nil=>⟨[],.nil,by simp[bY]⟩|p::ps,_,.cons (b:=w) r t=>by
  obtain⟨a,c,b⟩:=EW d (ps:=ps) t;by_cases e:p.1=k
  .refine⟨u::a,?_,?_⟩
   .rw[a0r,a0r,if_pos e];exact .cons d c
   .unfold bY at b ⊢;rw[a1p,a0r,b,a0r,if_pos e,a1p];unfold putAt;rw[if_pos e]
  .refine⟨w::a,?_,?_⟩
   .rw[a0r,a0r,if_neg e];exact .cons r c
   .unfold bY at b ⊢;rw[a1p,a0r,b,a0r,if_neg e,a1p];unfold putAt;rw[if_neg e]
theorem EX:∀{ps}{ws},Vals (ps.map (·.2.2)) ws->bY ps ws++[(k,b,u)]=bY (ps++[(k,b,v)]) (ws++[u])
 |[],_,.nil=>by simp[bY]
 |p::ps,_,.cons r t=>by have a:=EX (k:=k) (b:=b) (v:=v) (u:=u) (ps:=ps) t;unfold bY at a ⊢;rw[a1p,a0X,a,a0X,a0X,a1p]
theorem An(r:Vals (ps.map (·.2.2)) ws)k b(c:RelV v u):
  ∃a,Vals ((dO ps k b v).map (·.2.2)) a/\b0U (bY ps ws) k b u=bY (dO ps k b v) a:=by
 have e:=(n6 r k).isSome_eq;rw[a5e]at e;unfold dO b0U;rw[e];by_cases h:(a6L (bY ps ws) k).isSome=b5
 .rw[if_pos h,if_pos h];exact EW c r
 .rw[if_neg h,if_neg h];refine⟨ws++[u],?_,EX r⟩;rw[a0z];exact b0N r c
noncomputable def dG(K:a0c)(H:Hp)(ps:bN):Prop:=∀p∈ps,SqT K H p.2.1 (p.1.map V.int)
theorem kK{σ:St}{ps:bN}(I:Inv X b2w σ H s)(e:Rd H a (aM a ps))(n:dG X.K H ps):(a==a1W)=b3/\ps.length<=a0s /\
  ∃b,Vals (ps.map (·.2.2)) b/\s.heap.DictOfH (a4f<|a4A X.prog X.w) a (bY ps b):=by
 obtain⟨⟨b,r,v,q,o,h,g,i,j,k,l,m⟩,_⟩:=(show ObjOk X.prog X.w H s.heap a (aM a ps)from e.ok I.hok);refine⟨v,q,b,r,o,h,g,i,j,k,by rw[l];exact vO ps b,λx w=>?_,by rw[n5 r];exact m⟩;obtain⟨p,u,c,d⟩:=EV w;rw[<- c,<- d];exact kH I<|n p u
theorem vP{ps:bN}(l:(a==a1W)=b3)(k:ps.length<=a0s)(r:Vals (ps.map (·.2.2)) ws)(d:h'.DictOfH (a4f<|a4A P w) a (bY ps ws)):ObjOk P w m h' a (aM a ps):=by obtain⟨o,e,c,b,g,h,i,_,j⟩:=d;refine⟨⟨ws,r,l,k,o,e,c,b,g,h,by rw[i,vO (P:=P) (w:=w)],by rw[<- n5 r];exact j⟩,⟨o,b⟩,?_⟩;rintro p q ⟨ws,r,l,k,o,e,c,b,g,h,i,j⟩ n;exact⟨ws,r,l,k,o,e,c,n o b,g,h,i,j⟩
theorem RF{σ:St}{ps:bN}(I:Inv X b2w σ H s)(e:Rd H a (aM a ps))(b:dG X.K H ps):s.TypeIs (.ref a) "dict":=by obtain⟨_,_,c,_,d⟩:=kK I e b;exact d.typeIs
theorem pV{X:Cx}{A:a1b}(b:A.units+1<a2e):(a4f<|a4A X.prog X.w).room A.in1:=by show A.in1.units<a2e;rw[nN];lia
theorem RG{σ:St}{ps:bN}(o:A.units+1<a2e)(I:Inv X b2w σ H s)(e:Rd H a (aM a ps))(m:dG X.K H ps)(l:SqT X.K H b (k.map V.int))(q:dY ps k=a7 v)(h:∀c j,Inv X b2w σ H j->RelV v c->Q c j):a0A (a0L X.prog X.w) A (a8s (.ref a)<|.ref b) Q E s:=by
 obtain⟨x,w,u,r,d⟩:=kK I e m;obtain⟨c,hw,i⟩:=RelO.some_of (v:=v) (o:=(a6L (bY ps u) k).map (·.2)) (by rw[<- q];exact n6 r k);obtain⟨p,n,g⟩:=a0g.mp hw;refine wpAny_getItem_heap (pV o) (kH I l) d n ?_;rw[g];exact h c _ (I.tok _) i
theorem RH{σ:St}{ps:bN}(l:A.units+1<a2e)(I:Inv X b2w σ H s)(e:Rd H a (aM a ps))(i:dG X.K H ps)(g:SqT X.K H b (k.map V.int))(h:∀c,Inv X b2w σ H c->Q (.bool (dY ps k).isSome) c):a0A (a0L X.prog X.w) A (a1J .In (.ref b)<|.ref a) Q E s:=by
 obtain⟨j,m,n,r,d⟩:=kK I e i;refine wpAny_in_heap (pV l) (kH I g) j d ?_;have q:=(n6 r k).isSome_eq;rw[a5e]at q;rw[<- q];exact h _<|I.tok _
theorem RI{σ:St}{ps:bN}(l:A.units+1<a2e)(I:Inv X b2w σ H s)(e:Rd H a (aM a ps))(i:dG X.K H ps)(g:SqT X.K H b (k.map V.int))(h:∀c,Inv X b2w σ H c->Q (.bool<|!(dY ps k).isSome) c):a0A (a0L X.prog X.w) A (a1J .NotIn (.ref b)<|.ref a) Q E s:=by
 obtain⟨j,m,n,r,d⟩:=kK I e i;refine b1G (pV l) (kH I g) j d ?_;have q:=(n6 r k).isSome_eq;rw[a5e]at q;rw[<- q];exact h _<|I.tok _
theorem RJ{σ:St}{ps:bN}(x:A.units+1<a2e)(I:Inv X b2w σ H s)(e:H a=a7 (aM a ps))(o:dG X.K H ps)(m:SqT X.K H b (k.map V.int))(hz:ps.length<a0s)(B:RelV v u)(h:∀i,Inv X b2w σ (aK H a<|aM a<|dO ps k b v) i->Q () i):a0A (a0L X.prog X.w) A (setItem (.ref a) (.ref b) u) Q E s:=by
 obtain⟨w,K,G,r,d⟩:=kK I (.of e) o;have y:(bY ps G).length<=a0s:=by have:=congrArg a1n<|n5 r;rw[a0d,a0d]at this;lia
 refine wpAny_setItem_heap (hsz:=y) (pV x) (kH I m) d λl c g=>h _ ?_;obtain⟨J,z,j⟩:=An r k b B;rw[j]at c;have n:∃q,l.get? a=a7 q:=let⟨q,_,_,p,_⟩:=c;⟨q,p⟩;exact yP I (by rw[e];exact a3v) g n<|vP w (by have:=r6 ps k b v;lia) z c
noncomputable def IsTs(K:a0c)(π:Nat->Addr)(n:Nat)(H:Hp):bN->jx->Prop:=a5d λp q=>p.1=q.1/\SqT K H p.2.1 (p.1.map V.int)/\IsD K π n H p.2.2 q.2
theorem RK{k:List Int}(h:IsD K π n H (.ref b) (.tup<|k.map D.int)):SqT K H b (k.map V.int):=by
 cases h with
 |tup q t=>rw[ints_of' t]at q;exact q
theorem IsTs.of:∀{ps}{kvs},ps.map (·.1)=kvs.map (·.1)->IsDs K π n H (ps.map λp=>V.ref p.2.1) (kvs.map λk=>D.tup<|k.1.map D.int)->IsDs K π n H (ps.map (·.2.2)) (kvs.map (·.2))->IsTs K π n H ps kvs
 |[],[],_,_,_=>.nil|[],_::_,h,_,_=>by cases h
 |_::_,[],h,_,_=>by cases h
 |p::ps,q::kvs,h,h2,h3=>by
  cases h2 with
  |cons a b=>
   cases h3 with
   |cons c d=>rw[a0r,a0r,a4y]at h;refine .cons ⟨h.1,?_,c⟩<|IsTs.of h.2 b d;rw[h.1];exact RK a
theorem IsTs.keys:∀{ps}{kvs},IsTs K π n H ps kvs->dG K H ps
 |_,_,.nil=>λp a=>nomatch a|_,_,.cons h t=>λp a=>by
  rcases a0D.mp a with e|a
  .subst e;exact h.2.1
  .exact IsTs.keys t p a
theorem IsTs.to:∀{ps}{kvs},IsTs K π n H ps kvs->ps.map (·.1)=kvs.map (·.1)/\IsDs K π n H (ps.map λp=>V.ref p.2.1) (kvs.map λk=>D.tup<|k.1.map D.int)/\IsDs K π n H (ps.map (·.2.2)) (kvs.map (·.2))
 |_,_,.nil=>⟨rfl,.nil,.nil⟩|_,_,.cons (a:=p) (b:=q) h t=>by obtain⟨a,b,c⟩:=IsTs.to t;refine⟨by rw[a0r,a0r,h.1,a],.cons ?_ b,.cons h.2.2 c⟩;show IsD K π n H (.ref p.2.1) (.tup<|q.1.map D.int);rw[<- h.1];exact .tup h.2.1<|Af p.1
theorem IsTs.val k:∀{ps}{kvs},IsTs K π n H ps kvs->(dY ps k=b0/\bJ kvs k=b0)\/∃v d,dY ps k=a7 v/\bJ kvs k=a7 d/\IsD K π n H v d
 |_,_,.nil=>.inl ⟨rfl,rfl⟩|_,_,.cons (a:=p) (b:=q) h t=>by
  have a:=IsTs.val k t;unfold dY bJ at a ⊢;rw[a3l,a3l,<- h.1];by_cases e:p.1=k
  .simp only[e,decide_true];exact .inr ⟨_,_,rfl,rfl,h.2.2⟩
  .simp only[e,decide_false];exact a
theorem IsTs.put(h:IsTs K π n H ps kvs)k(j:SqT K H b (k.map V.int))(i:IsD K π n H v d):IsTs K π n H (dO ps k b v) (cS kvs k d):=by
 have e:(dY ps k).isSome=(bJ kvs k).isSome:=by rcases h.val k with⟨c,g⟩|⟨v,d,c,g,_⟩<;>rw[c,g]<;>rfl
 have a:∀{ps:bN}{kvs:jx},IsTs K π n H ps kvs->IsTs K π n H (ps.map λp=>if p.1=k then(p.1,p.2.1,v)else p) (kvs.map λp=>if p.1=k then(p.1,d)else p):=by
  intro ps kvs h;unfold IsTs at h;induction h with
  |nil=>exact .nil|@cons p q ps m h t l=>
   rw[a0r,a0r];refine .cons ?_ l;by_cases z:p.1=k
   .rw[if_pos z,if_pos<|h.1.symm.trans z];exact⟨h.1,h.2.1,i⟩
   .rw[if_neg z,if_neg λy=>z<|h.1.trans y];exact h
 unfold dO cS;rw[e];split
 .exact a h
 .exact b0N h ⟨rfl,j,i⟩
theorem fP{kvs:jx}(R:Rp K π H μ)(h:μ[a]?=a7 (.dT kvs)):∃ps,H (π a)=a7 (aM (π a) ps)/\IsTs K π μ.length H ps kvs:=by obtain⟨ps,b,c,d,e⟩:=R.dT a kvs h;exact⟨ps,b,.of c d e⟩
theorem pW{kvs:jx}(R:Rp K π H μ)(h:μ[a]?=a7 (.dF kvs)):∃ob ps,H (π a)=a7 (.frz ob<|aM (π a) ps)/\IsTs K π μ.length H ps kvs:=by obtain⟨ob,ps,b,c,d,e⟩:=R.dF a kvs h;exact⟨ob,ps,b,.of c d e⟩
theorem jN(h:IsD K π n H v x)(e:c5 x=a7 k):∃b,v=.ref b/\SqT K H b (k.map V.int):=by
 have:=Ez e;subst this;cases h with
 |tup q t=>rw[ints_of' t]at q;exact⟨_,rfl,q⟩
noncomputable def jO:ME:=λ_ μ=>a7 (.loc μ.length,μ++[.dT []])
theorem vQ(h:a1C)(a:a1W<h.objs.size):ObjOk P w H (h.push {cls:=.type "dict",data:=.dict #[]}) h.objs.size (aM h.objs.size []):=
 vP (ws:=[]) (beq_eq_false_iff_ne.mpr<|a1j<|a0y a) (a1U _) .nil<|b1Y h
noncomputable def RM:TE:=λ_ H Q=>∀p,H p=b0->Q (.ref p) (aK H p<|aM p [])
theorem RN:PE X (.Dict [] [] pos) RM:=λb2w s σ H Q I h=>wpAny_Dict_empty ⟨.ref s.heap.objs.size,_,I.laid (a:=s.heap.objs.size) (o:=aM s.heap.objs.size []) (t':=s.toks) (λ_ _ q=>a0e _ q) (a0l _)<|vQ s.heap I.big,rfl,h _<|I.hok.fresh<|a0l _⟩
theorem RO:QE X (.Dict [] [] pos) jO:=⟨cT RN<|by
 rintro m H Q ⟨j,l,i,d,g,R,E,c,k⟩ p e;cases c;obtain⟨b,a,h⟩:=R.alloc (c:=.dT []) (o:=aM p []) e ⟨[],rfl,rfl,.nil,.nil⟩;exact k _ _ _ b a gC⟩
noncomputable def r8:D->D->Hm->jk
 |.loc a,y,μ=>match μ[a]? with
  |some (.dT kvs)=>(c5 y).bind λk=>(bJ kvs k).map λd=>(d,μ)|some (.dF kvs)=>(c5 y).bind λk=>(bJ kvs k).map λd=>(d,μ)|_=>b0
 |_,_,_=>b0
noncomputable def EY(K:a0c):R2:=λx y H Q=>∃a b ps k v,x=.ref a/\y=.ref b/\Rd H a (aM a ps)/\dG K H ps/\SqT K H b (k.map V.int)/\dY ps k=a7 v/\Q v H
theorem RP(A:X.A.units+1<a2e)(w:PE X a td)(r:PE X b ty)(z:C0 b):PE X (.Subscript a b pos) (λσ H Q=>td σ H λx d=>ty σ d λy g=>EY X.K x y g Q):=by intro c s σ H Q I h;refine Mt PySem.F.slot_dict_getitem.lookup z<|aP (w c s σ H _ I h) λu M ⟨x,d,m,K,G⟩=>aP (r c M σ d _ m G) λE O ⟨y,g,j,L,a,b,N,k,v,o,p,e,l,q,B,J⟩=>?_;subst o p;obtain rfl:u=a0n a:=K;obtain rfl:E=a0n b:=L;exact⟨RF j e l,RG A j e l q B λT R n i=>⟨v,g,n,i,J⟩⟩
theorem RQ:c8 K r8 (EY K):=by
 intro u H J x y d E G I Q R r s c k;unfold r8 at c;split at c
 .split at c
  .rename_i m hc;obtain⟨h,j,c⟩:=a0a.mp c;obtain⟨w,g,c⟩:=a0g.mp c;cases c;cases r;obtain⟨n,i,T⟩:=fP R hc;obtain⟨b,rfl,l⟩:=jN s j;rcases T.val h with⟨_,z⟩|⟨v,A,o,p,q⟩
   .rw[z]at g;cases g
   .rw[p]at g;cases g;exact⟨_,b,n,h,v,rfl,rfl,.of i,T.keys,l,o,k u _ H .refl R q⟩
  .rename_i m hc;obtain⟨h,j,c⟩:=a0a.mp c;obtain⟨w,g,c⟩:=a0g.mp c;cases c;cases r;obtain⟨B,n,i,T⟩:=pW R hc;obtain⟨b,rfl,l⟩:=jN s j;rcases T.val h with⟨_,z⟩|⟨v,A,o,p,q⟩
   .rw[z]at g;cases g
   .rw[p]at g;cases g;exact⟨_,b,n,h,v,rfl,rfl,.inr ⟨B,i⟩,T.keys,l,o,k u _ H .refl R q⟩
  .cases c
 .cases c
theorem RR(g:Room k X.A)(c:QE X a ma)(d:QE X b mb)(h:pM b=b5):QE X (.Subscript a b pos) (aC r8 ma mb):=⟨cT (RP (fF g) c.h d.h<|DX h)<|rK RQ⟩
noncomputable def RS(K:a0c)(td ty tv:TE):TS:=λD σ H=>tv σ H λv d=>td σ d λx g=>ty σ g λy c=>∃a b ps k,x=.ref a/\y=.ref b/\c a=a7 (aM a ps)/\dG K c ps/\SqT K c b (k.map V.int)/\ps.length<a0s/\D.nx σ (aK c a<|aM a<|dO ps k b v)
theorem RT(J:X.A.units+1<a2e)(E:PE X o td)(A:PE X i ty)(K:PE X e tv)(G:a4M e (a7<|.Subscript o i tpos) pos.line X.env=pure b3):
  PS X (.Assign [.Subscript o i tpos] e pos) (RS X.K td ty tv):=by
 intro c s d H D I h;refine wpAny_Assign_Subscript (aP (K c s d H _ I h) λr Y ⟨v,g,l,R,N⟩=>aP (E c Y d g _ l N) λu Z ⟨x,j,m,T,O⟩=>aP (A c Z d j _ m O) λM s3 ⟨y,H3,n,U,a,b,ps,k,q,w,e,B,z,L,Q⟩=>?_) G;subst q w;obtain rfl:u=a0n a:=T;obtain rfl:M=a0n b:=U;exact RJ J n e B z L R λs4 p=>⟨d,_,p,Q⟩
theorem RU(hr:Room g X.A)(ho:QE X o mo)(hi:QE X i mi)(he:QE X e me)(h:jK e=b5):QS X (.Assign [.Subscript o i tpos] e pos) (Ak rX mo mi me):=
 ⟨iJ (RT (Na hr) ho.h hi.h he.h<|u5 h)<|by
 rintro E σ H ⟨π,J,μ,fl,ρ',μ',R,m,d,k⟩;obtain⟨⟨x,j⟩,h1,d⟩:=a0a.mp d;obtain⟨⟨y,l⟩,h2,d⟩:=a0a.mp d;obtain⟨⟨z,A⟩,h3,d⟩:=a0a.mp d;obtain⟨μ4,c,d⟩:=a0g.mp d;cases d;refine⟨π,J,μ,x,j,R,m,h1,λB v1 H1 n O i1=>⟨B,J,j,y,l,O,m.mono n,h2,λG v2 H2 p R2 i2=>⟨G,J,l,z,A,R2,(m.mono n).mono p,h3,λI v3 H3 q K i3=>?_⟩⟩⟩;cases y with
 |loc a=>
  simp only[rX]at c;split at c
  .rename_i v hc;obtain⟨g,h5,c⟩:=a0a.mp c;split at c
   .rename_i hz;cases c;have u:=i2.mono q;cases u with
    |loc r=>
     obtain⟨w,M,T⟩:=fP K hc;obtain⟨b,rfl,N⟩:=jN i3 h5;have hv:=(i1.mono p).mono q;have U:=T.put g N hv;obtain⟨Y,Z,g3⟩:=U.to;have s:w.length<a0s:=by have:=congrArg a1n (T.to).1;rw[a0d,a0d]at this;lia
     refine⟨_,b,w,g,rfl,rfl,M,T.keys,N,s,?_⟩;obtain⟨L,Q⟩:=K.put (c:=.dT (cS v g x)) (o:=aM _ (dO w g b v1)) r M (.inr<|.inr ⟨_,rfl⟩) ⟨_,rfl,Y,Z,g3⟩;exact k I σ _ (((n.trans p).trans q).trans L) Q<|(((m.mono n).mono p).mono q).mono L
   .cases c
  .cases c
 |_=>simp[rX]at c⟩
noncomputable def r9(b:Bool):D->D->Hm->jk
 |x,.loc a,μ=>match μ[a]? with
  |some (.dT kvs)=>(c5 x).map λk=>(.bl<|if b then !(bJ kvs k).isSome else(bJ kvs k).isSome,μ)|some (.dF kvs)=>(c5 x).map λk=>(.bl<|if b then !(bJ kvs k).isSome else(bJ kvs k).isSome,μ)|_=>b0
 |_,_,_=>b0
noncomputable def Ao(K:a0c)(c:Bool):R2:=λx y H Q=>∃a b ps k,x=.ref b/\y=.ref a/\Rd H a (aM a ps)/\dG K H ps/\SqT K H b (k.map V.int)/\Q (.bl<|if c then !(dY ps k).isSome else(dY ps k).isSome) H
theorem EZ(j:X.A.units+1<a2e):OpR X (a1J .In) (Ao X.K b3):=by intro d s p H x y v u Q I l m h;obtain⟨a,b,n,k,rfl,rfl,e,i,g,q⟩:=h;obtain rfl:v=a0n b:=l;obtain rfl:u=a0n a:=m;exact RH j I e i g λo c=>⟨.bl _,H,c,rfl,q⟩
theorem E4(j:X.A.units+1<a2e):OpR X (a1J .NotIn) (Ao X.K b5):=by intro d s p H x y v u Q I l m h;obtain⟨a,b,n,k,rfl,rfl,e,i,g,q⟩:=h;obtain rfl:v=a0n b:=l;obtain rfl:u=a0n a:=m;exact RI j I e i g λo c=>⟨.bl _,H,c,rfl,q⟩
theorem vT:c8 K (r9 j) (Ao K j):=by
 intro q H z x y d s u w Q R o p a k;unfold r9 at a;split at a
 .split at a
  .rename_i h hc;obtain⟨g,c,a⟩:=a0g.mp a;cases a;cases p;obtain⟨l,m,T⟩:=fP R hc;obtain⟨b,rfl,n⟩:=jN o c;have e:(dY l g).isSome=(bJ h g).isSome:=by rcases T.val g with⟨c,i⟩|⟨v,d,c,i,_⟩<;>rw[c,i]<;>rfl
   refine⟨_,b,l,g,rfl,rfl,.of m,T.keys,n,?_⟩;rw[e];exact k q _ H .refl R<|.bl _
  .rename_i h hc;obtain⟨g,c,a⟩:=a0g.mp a;cases a;cases p;obtain⟨r,l,m,T⟩:=pW R hc;obtain⟨b,rfl,n⟩:=jN o c;have e:(dY l g).isSome=(bJ h g).isSome:=by rcases T.val g with⟨c,i⟩|⟨v,d,c,i,_⟩<;>rw[c,i]<;>rfl
   refine⟨_,b,l,g,rfl,rfl,.inr ⟨r,m⟩,T.keys,n,?_⟩;rw[e];exact k q _ H .refl R<|.bl _
  .cases a
 .cases a
noncomputable def RawD(h:a1C)(d:Addr)(es:Array DictEntry)(ep:Nat):Prop:=∃z,h.get? d=a7 z/\z.ExactDict/\z.data=.dict es ep
theorem RawD.ty{s:a0i}{es ep}(g:RawD s.heap d es ep):s.TypeIs (.ref d) "dict":=let⟨z,a,b,_⟩:=g;⟨z,a,b.1⟩
theorem RawD.stay{es ep}(g:RawD h d es ep)(k:∀o,h.get? d=a7 o->h'.get? d=a7 o):RawD h' d es ep:=let⟨z,a,b⟩:=g;⟨z,k z a,b⟩
theorem RawD.lt{h:a1C}{d:Addr} {es ep} (g:RawD h d es ep):d<h.objs.size:=let⟨_,a,_⟩:=g;a0m a
theorem Ap(lo:(d==a1W)=b3)(g:RawD s.heap d es ep)(q:Q (.ref s.heap.objs.size) {s with heap:=s.heap.push {cls:=.type "dict_keyiterator",data:=.fields #[.ref d,.int 0 0,.int es.size 0,.int ep 0]}}):a0A (a0L P w) A (a5L<|.ref d) Q E s:=by
 obtain⟨z,a,c,b⟩:=id g;refine a7A g.ty F.slot_dict_iter<|a2k F.slot_dict_iter g.ty F.entry_dict_iter ?_<|F.args_dict_iter_1 _;unfold Builtin.«dict.__iter__» b2f;refine a0b<|a0b<|a2O g.ty ?_;show a0A _ _ (pure<|a0n d) _ _ _;refine a0h ?_;show a0A _ _ (a2C d >>= _) _ _ _;unfold a2C;rw[if_neg λx=>a0K<|lo.symm.trans x];refine a0b<|a0h<|a0b<|a2f a b<|a0b<|a3J a b<|a0b<|a1K<|a0h ?_;exact⟨_,rfl,"dict_keyiterator",_,⟨_,a0o _ rfl,rfl⟩,F.slot_dict_keyiterator_next.lookup,by simpa[a3P]using q⟩
theorem vU(o:A.handled=b0)(j:s.heap.IsKeyIter it d i es.size ep)(g:RawD s.heap d es ep)(r:∀e a,es[i]?=a7 e->a.IsKeyIter it d (i+1) es.size ep->a2X it s.heap a->Q (a7 e.key) {s with heap:=a})(v:es[i]?=b0->∀a,a5q it s.heap a->Q b0 {s with heap:=a}):a0A (a0L P w) A (a3C<|.ref it) Q E s:=by
 obtain⟨y,c,p,b⟩:=id j;obtain⟨z,l,B,m⟩:=id g;have k:∀{Q:String->a0i->Prop}{A:a1b}{E:Value->a0i->Prop},Q "dict_keyiterator" s->a0A (a0L P w) A (a8m<|.ref it) Q E s:=λq=>wpAny_typeNameOfWhole_keyiter j.typeIs q;unfold a3C;refine a0b<|a9e<|a5W (name:=a1T "__next__") j.typeIs F.slot_dict_keyiterator_next<|a2k F.slot_dict_keyiterator_next j.typeIs F.entry_dict_keyiterator_next ?_<|F.args_dict_keyiterator_next_1 _;refine a0b<|a0h<|a0b<|a0b<|a0b<|k<|a0h<|a0b<|a8z c b ?_;rw[show a2H "dict_keyiterator"=b3 by decide,if_neg a0K];show a0A _ _ (if(a0n d==a1z)=b5 then _ else _) _ _ _;rw[if_neg<|show ¬ (a0n d==a1z)=b5 from λx=>a0K x];refine a0b<|a0h<|a0b<|a2f l m ?_;rw[if_neg λx=>by simp at x];refine a0b<|a0h<|a0b<|a3J l m ?_;rw[if_neg λx=>by simp at x];refine a0h ?_;dsimp only;rw[if_neg<|show ¬ ((i:Int)<0) by lia,a4u];cases n:es[i]? with
 |some e=>
  refine a0b<|a0b<|k<|a0h<|a0b<|a9W j.typeIs ?_;show a0A _ _ (a7C (.ref it) 1 (a3P<|(i:Int)+1) >>= _) _ _ _;refine a0b (a5u c b (by simp) ?_);have h:(s.heap.update it<|a6G (·.setIfInBounds 1<|a3P<|(i:Int)+1)).IsKeyIter it d (i+1) es.size ep:=
   ⟨_,a2a _ c<|a8U<|a5f b _,(b0a ..).trans p,by simp[a5f b,a3P]⟩
  generalize hu:s.heap.update it (a6G (·.setIfInBounds 1<|a3P<|(i:Int)+1))=u at h;refine a0b<|a1q<|a0b<|a9W (s:={s with heap:=u}) h.typeIs ?_;show a0A _ _ (pure e.key) _ _ _;exact a0h<|a0h ⟨_,rfl,a0h<|r e u n h<|hu▸a2y ..⟩
 |none=>refine a0b<|a0b<|k<|a0h ?_;show a0A _ _ (a7C (.ref it) 0 .none >>= _) _ _ _;refine a0b (a5u c b (by simp) ?_);show a0A _ _ (a9D (.type "StopIteration") [] >>= _) _ _ _;simp only[a9D,b2m];refine a0b (a0b<|a1K ?_<|by size_fits);refine a0b (m:=a4B _ _) (a6J (a:=a1z) (by first|rfl|(simp only[a4B];rfl))<|a1K ?_<|by size_fits);unfold b2l;refine a0b<|a9c ?_;rw[show A.in1.handled=b0 from o];refine a0b<|a0h<|b0k ?thrown;case thrown=>exact a0b<|a4e (T:="StopIteration") (b:=b5) ⟨_,a0o _ rfl,rfl⟩ a8B<|a0h<|v n _<|((a2y ..).extBut.push _).push _
theorem E6(m:A.handled=b0)(l:d≠it)es ep:Walks P w A it [it,d] [it] es.size (λi v=>∃e,es[i]?=a7 e/\v=e.key) (λi h=>h.IsKeyIter it d i es.size ep/\RawD h d es ep) where
 sub:=λb a=>by rw[a0N.mp a];exact a0P ..
 frame:=λ_ _ _ st k=>⟨st.1.at λo e=>k it (by simp) o e,st.2.stay λo e=>k d (by simp) o e⟩
 item:=λi s Q E r st q=>vU m st.1 st.2 (λe j c p n=>q _ j s.toks ⟨e,c,rfl⟩ ⟨p,st.2.stay λo g=>n.extBut d o l g⟩ λb o a g=>n.extBut b o (λz=>a<|by simp[z]) g) λc=>by simp at c;lia
 done:=λs Q E st q=>vU m st.1 st.2 (λe j c=>by simp at c) λ_ j x=>q j s.toks λb o a g=>x b o (λz=>a<|by simp[z]) g
 self:=λ_ _ _ _ st q=>b0l st.1 q
theorem E7(lo:(d==a1W)=b3):PySem.W.KdlSrc P w "dict" d d es.size (λi v=>∃e,es[i]?=a7 e/\v=e.key) (λh=>RawD h d es ep) where
 type:=λ_ g=>g.ty
 there:=λ_ g=>⟨g.lt,g.lt⟩
 keep:=λ_ _ g k=>g.stay λo e=>k d (.inl rfl) o e
 notList:=by decide
 notTuple:=by decide
 hint:=λ_ _ _ _ g q=>PySem.W.kdl_hint_dict g.ty q
 iter:=λ_ _ a g=>⟨_,_,(λ_ _ q=>Ap lo g q),E6 a (a0y g.lt) es ep,⟨⟨_,a0o _ rfl,rfl,rfl⟩,g.stay λo e=>a0e _ e⟩⟩
theorem RV(lo:(d==a1W)=b3):b1f P w (Builtin.«dict.__len__» ⟨[.ref d],[]⟩) (λ_ R s=>∃es ep,RawD s.heap d es ep/\R (.ok<|.ret<|.int (es.size:Nat) s.toks) {s with toks:=s.toks+1}):=
 .of_wp λA R s ⟨es,ep,⟨z,a,c,b⟩,q⟩=>by show a0A _ _ (dictSize d >>= _) _ _ _;unfold dictSize;refine a0b<|a0b<|a2f a b<|a0h ?_;show a0A _ _ (b2b d >>= _) _ _ _;refine a0b<|wpAny_pendingCount_other lo<|wpAny_ret_mkInt ?_;rw[Nat.add_zero];exact q
theorem RW{s:a0i}(lo:(d==a1W)=b3)(g:RawD s.heap d es ep)(hz:es.size<=a0s)(q:Q (.int (es.size:Nat)<|s.toks+1) {s with toks:=s.toks+1+1}):a0A (a0L P w) A (call (.builtin "len") [.ref d]) Q E s:=
 b1Q g.ty F.slot_dict_len (λb a=>a5n F.slot_dict_len g.ty F.entry_dict_len (F.args_dict_len_1 _) (RV lo) ⟨es,ep,g,a⟩) (by lia) (by rw[a0O]at hz;lia) q
theorem Aq:∀{ps}{ws},Vals (ps.map (·.2.2)) ws->(bY ps ws).map (λx=>a0n x.2.1)=ps.map λp=>a0n p.2.1
 |[],_,_=>by simp[bY]
 |p::ps,_,.cons r t=>by have a:=Aq (ps:=ps) t;unfold bY at a ⊢;rw[a1p,a0r,a0r,a]
theorem Fb:∀ps:bN,Vals (ps.map λp=>V.ref p.2.1) (ps.map λp=>a0n p.2.1)
 |[]=>.nil|p::ps=>.cons rfl<|Fb ps
theorem n8{σ:St}{ps:bN}(I:Inv X b2w σ H s)(e:H a=a7 (aM a ps))(h:dG X.K H ps):(a==a1W)=b3/\ps.length<=a0s/\∃es ep,RawD s.heap a es ep/\es.toList.map (·.key)=ps.map λp=>a0n p.2.1:=by obtain⟨j,i,k,r,z,es,ep,b,c,d,g,_⟩:=kK I (.of e) h;refine⟨j,i,es,ep,⟨z,b,c,d⟩,?_⟩;rw[g,a0x,<- Aq r];rfl
noncomputable def Fc(K:a0c):gw->Hp->VK->Prop:=λxs H Q=>∃a ps,xs=[V.ref a]/\H a=a7 (aM a ps)/\dG K H ps/\Q (.int ps.length) H
theorem RX:CallR X (.builtin "len") (Fc X.K):=by
 intro b2w s σ H o n Q I r h;obtain⟨a,ps,rfl,c,e,q⟩:=h;obtain⟨u,rfl,k⟩:=d6 r;cases k;obtain⟨j,m,b,l,g,d⟩:=n8 I c e;have i:b.size=ps.length:=by have:=congrArg a1n d;simpa using this
 refine RW j g (by lia) ?_;rw[i];exact⟨.int ps.length,H,(I.tok _).tok _,⟨_,rfl⟩,q⟩
noncomputable def Fd(K:a0c):gw->Hp->VK->Prop:=λxs H Q=>∃a ps,xs=[V.ref a]/\H a=a7 (aM a ps)/\dG K H ps/\∀l,H l=b0->Q (.ref l) (aK H l<|.lst<|ps.map λp=>V.ref p.2.1)
theorem RY(hc:X.calm=b5):CallR X (.type "list") (Fd X.K):=by
 intro b2w s σ H N M Q I r h;obtain⟨a,ps,rfl,x,y,q⟩:=h;obtain⟨u,rfl,E⟩:=d6 r;cases E;obtain⟨B,z,m,J,g,d⟩:=n8 I x y;have L:m.size=ps.length:=by have:=congrArg a1n d;simpa using this
 refine PySem.W.kdl_call (E7 B) (I.ok.hd hc) g (by lia) λK G b k A w c=>?_;refine⟨.ref s.heap.objs.size,_,I.laid (t':=G) (a:=s.heap.objs.size) (o:=.lst (ps.map λp=>V.ref p.2.1)) A (a0l _) ?_,rfl,q _<|I.hok.fresh<|a0l _⟩;refine⟨by rw[a0d];exact z,b.toList,k,?_,by simpa using w⟩;have l:b.toList=ps.map λp=>a0n p.2.1:=by
  rw[<- d];refine a6U λi=>?_;rw[a0v,a1y,a1y];cases j:b[i]? with
  |some v=>obtain⟨e,n,o⟩:=c.2 i v j;rw[n,o];rfl|none=>
   have:b.size<=i:=by simpa using j
   rw[a4n<|by rw[<- c.1];exact this];rfl
 rw[l];exact Fb ps
theorem RZ(l:Room k X.A)(g:QE X a ma)(j:QE X b mb)(h:pM b=b5):QE X (.Subscript a b pos) (aC aE ma mb):=
 nV (RR l g j h) (Pf g j h)<|iA λx y m r c=>by
  unfold aE at c;split at c
  .split at c
   .rename_i d hc;refine .inl ?_;simp only[r8,hc];exact c
   .rename_i d hc;refine .inl ?_;simp only[r8,hc];exact c
   .exact .inr c
  .exact .inr c
noncomputable def pX(c:Bool):D->D->Hm->jk:=λx y μ=>match r9 c x y μ with
 |some r=>a7 r|none=>mF c x y μ
theorem vV x y μ r(h:pX c x y μ=a7 r):r9 c x y μ=a7 r\/mF c x y μ=a7 r:=by
 unfold pX at h;split at h
 .rename_i z;rw[z];exact .inl h
 .exact .inr h
theorem Fe x y μ r(h:cL g x y μ=a7 r):(∃i j,x=.str i/\y=.str j)\/pX g x y μ=a7 r:=by
 cases y with
 |loc a=>
  refine .inr ?_;have e:cL g x (.loc a) μ=(match μ[a]? with
   |some (.dT d)=>(c5 x).map λk=>(D.bl<|if g then !(bJ d k).isSome else(bJ d k).isSome,μ)|some (.dF d)=>(c5 x).map λk=>(D.bl<|if g then !(bJ d k).isSome else(bJ d k).isSome,μ)
   |_=>mF g x (.loc a) μ):=by cases x<;>rfl
  rw[e]at h;unfold pX;simp only[r9];cases hc:μ[a]? with
  |none=>rw[hc]at h;exact h|some c=>
   rw[hc]at h;cases c with
   |dT d=>dsimp only at h ⊢;rw[h]|dF d=>dsimp only at h ⊢;rw[h]|_=>exact h
 |str j=>
  cases x with
  |str i=>exact .inl ⟨i,j,rfl,rfl⟩|_=>exact .inr h
 |_=>cases x<;>exact .inr h
theorem Ff x y μ r(h:cL b3 x y μ=a7 r):zK x y μ=a7 r\/pX b3 x y μ=a7 r:=by
 rcases Fe x y μ r h with⟨i,j,rfl,rfl⟩|z
 .exact .inl h
 .exact .inr z
theorem Fg x y μ r(h:cL b5 x y μ=a7 r):zW x y μ=a7 r\/pX b5 x y μ=a7 r:=by
 rcases Fe x y μ r h with⟨i,j,rfl,rfl⟩|z
 .exact .inl h
 .exact .inr z
theorem R0(g:Room k X.A)(c:QE X a ma)(d:QE X b mb)(h:fL b=b5):QE X (.Compare a [.In] [b] pos) (aC (cL b3) ma mb):=
 nV ⟨fA CG DM c.h d.h<|iQ h⟩ (nV ⟨fA (EZ<|fF g) vT c.h d.h<|iQ h⟩ ⟨fA (Eb<|vB g) u9 c.h d.h<|iQ h⟩<|iA vV)<|iA Ff
theorem R6(g:Room k X.A)(c:QE X a ma)(d:QE X b mb)(h:fL b=b5):QE X (.Compare a [.NotIn] [b] pos) (aC (cL b5) ma mb):=
 nV ⟨fA C7 Ed c.h d.h<|iQ h⟩ (nV ⟨fA (E4<|fF g) vT c.h d.h<|iQ h⟩ ⟨fA (Ec<|vB g) u9 c.h d.h<|iQ h⟩<|iA vV)<|iA Fg
theorem R8(g:Room k X.A)(c:QE X a ma)(d:QE X b mb)(h:fL b=b5):QT X (.Compare a [.In] [b] pos) (aS<|aC (cL b3) ma mb):=
 pN ⟨fD CG DM c.h d.h<|iQ h⟩ (pN ⟨fD (EZ<|fF g) vT c.h d.h<|iQ h⟩ ⟨fD (Eb<|vB g) u9 c.h d.h<|iQ h⟩<|pO<|iA vV)<|pO<|iA Ff
theorem Sa(g:Room k X.A)(c:QE X a ma)(d:QE X b mb)(h:fL b=b5):QT X (.Compare a [.NotIn] [b] pos) (aS<|aC (cL b5) ma mb):=
 pN ⟨fD C7 Ed c.h d.h<|iQ h⟩ (pN ⟨fD (E4<|fF g) vT c.h d.h<|iQ h⟩ ⟨fD (Ec<|vB g) u9 c.h d.h<|iQ h⟩<|pO<|iA vV)<|pO<|iA Fg
theorem Sb(j:Room k X.A)(g:QE X o mo)(d:QE X i mi)(c:QE X e me)(h:jK e=b5):QS X (.Assign [.Subscript o i tpos] e pos) (dN mo mi me):=RU j g d c h
noncomputable def Ar(K:a0c)(a b:Addr):It:=
 ⟨λi H=>∃c d x y,SqL K H a c/\SqL K H b d/\c[i]?=a7 x/\d[i]?=a7 y,
   λi H z e=>∃p v u,z=.ref p/\H p=b0/\e=aK H p (.tup [v,u])/\(∀c,SqL K H a c->c[i]?=a7 v)/\∀d,SqL K H b d->d[i]?=a7 u,
   λi H=>∃c d,SqL K H a c/\SqL K H b d/\(c.length<=i\/d.length<=i)⟩
theorem Se(A:ZipApart z n to l m a b):
  Turn Qc P w K (.Tuple es kx pt) (Ar K a b) [z,n,to,l,m] z (λi h=>IsZip h z n to .none/\IsPair h n (.ref l) (.ref m)/\(∃u v,IsPair h to u v)/\h.IsListIter l a i/\h.IsListIter m b i) where
 mem:=by simp
 obj:=λi h ⟨r,B,⟨u,v,J⟩,L,M⟩ c hc=>by
  have hc':c=z\/c=n\/c=to\/c=l\/c=m:=by simpa using hc
  rcases hc' with rfl|rfl|rfl|rfl|rfl
  .exact⟨_,r,λq e=>by
    have R:a1c _=a5C q:=e;cases R⟩
  .exact⟨_,B,λq e=>by
    have R:a9a _ _=a5C q:=e;cases R⟩
  .exact⟨_,J,λq e=>by
    have R:a9a _ _=a5C q:=e;cases R⟩
  .obtain⟨o,e1,c,d⟩:=L;exact⟨o,e1,λv e=>by rw[d]at e;cases e⟩
  .obtain⟨o,e1,c,d⟩:=M;exact⟨o,e1,λv e=>by rw[d]at e;cases e⟩
 keep:=λi h h' ⟨r,B,⟨u,v,J⟩,L,M⟩ k=>⟨k z (by simp) _ r,k n (by simp) _ B,⟨u,v,k to (by simp) _ J⟩,L.at λo e=>k l (by simp) o e,M.at λo e=>k m (by simp) o e⟩;item:=by
  intro X hP hw hK hc i Z s σ H E I U ⟨r,B,⟨u,v,J⟩,L,M⟩ hg;subst hP hw hK;obtain⟨xs,ys,x,y,Y,G,Q,hy⟩:=hg;obtain⟨its,rv,p,hz⟩:=I.list Y;obtain⟨T,N,p2,hz2⟩:=I.list G;obtain⟨u1,fF,ru1⟩:=rv.get Q;obtain⟨u2,hu2,ru2⟩:=N.get hy;refine wpAny_pyNext_zip_item A r B J L M p.isList p2.isList (x:=u1) (y:=u2) (by simpa using fF) (by simpa using hu2) λh1 a1 a2 a3 a4 a5 a6 hk=>⟨_,rfl,wpAny_letOwnedTupleGo_zip a1 λh2 b1 j=>?_⟩;have ne:∀{c o},s.heap.get? c=a7 o->s.heap.objs.size≠c:=λe=>a2h<|a0m e;have l4:∃o,s.heap.get? l=a7 o:=let⟨o,e,_⟩:=L;⟨o,e⟩;have l5:∃o,s.heap.get? m=a7 o:=let⟨o,e,_⟩:=M;⟨o,e⟩;have ht2:h2.get? s.heap.objs.size=a7 {cls:=.type "tuple",data:=.seq #[u1,u2]}:=(j.2 _<|ne r).trans a5;have hfr:H s.heap.objs.size=none:=I.hok.fresh<|a0l _;have g2':IsPair h2 n (.ref l) (.ref m):=(j.2 _ A.TIz).trans<|hk _ _ A.TIz A.TITO A.TIi1 A.TIi2 B;refine⟨.ref s.heap.objs.size,aK H s.heap.objs.size<|.tup [x,y],?_,rfl,⟨s.heap.objs.size,x,y,rfl,hfr,rfl,λws hw=>by rw[I.list_inj hw Y];exact Q,λws hw=>by rw[I.list_inj hw G];exact hy⟩,
   ⟨b1,g2',⟨_,_,(j.2 _ A.TOz).trans a2⟩,a3.extBut j.extBut A.i1z,a4.extBut j.extBut A.i2z⟩,λc O=>?_⟩
  .refine Ai (s:=s) (h':=h2) (t':=s.toks) (ch:=[z,n,to,l,m]) I (λc oc O ec=>?_) U (a0l _) ?_
   .have g:c≠z/\c≠n/\c≠to/\c≠l/\c≠m:=by simpa using O
    exact(j.2 c g.1).trans<|hk c oc g.1 g.2.2.1 g.2.2.2.1 g.2.2.2.2 ec
   .exact⟨by show(2:Nat)<=a0s;decide,[u1,u2],.cons ru1<|.cons ru2 .nil,_,ht2,rfl,0,rfl,rfl⟩
  .have g:c=z\/c=n\/c=to\/c=l\/c=m:=by simpa using O
   have hn:=(U c O).1;rw[a9]
   .exact hn
   .rcases g with rfl|rfl|rfl|rfl|rfl
    .exact(ne r).symm
    .exact(ne B).symm
    .exact(ne J).symm
    .exact(ne l4.choose_spec).symm
    .exact(ne l5.choose_spec).symm
 done:=by
  intro X hP hw hK hc i Z s σ H E I U ⟨r,B,⟨u,v,J⟩,L,M⟩ hg;subst hP hw hK;obtain⟨xs,ys,Y,G,Q⟩:=hg;obtain⟨its,rv,p,hz⟩:=I.list Y;obtain⟨T,N,p2,hz2⟩:=I.list G;have hl:=rv.length;have hl2:=N.length;refine wpAny_pyNext_zip_end (I.ok.hd hc) A r B J L M p.isList p2.isList ?_ λh' eb=>⟨rfl,EO (t':=s.toks) (ch:=[z,n,to,l,m]) I (λc o O e=>?_) U⟩
  .rcases Q with Q|Q
   .exact .inl<|by simp;lia
   .exact .inr<|by simp;lia
  .have g:c≠z/\c≠n/\c≠to/\c≠l/\c≠m:=by simpa using O
   exact eb c o g.1 g.2.2.1 g.2.2.2.1 g.2.2.2.2 e
 self:=λ_ _ _ _ _ ⟨r,_⟩ h=>b1j r h
noncomputable def sC(x y:D):fG:=λμ i=>(bF μ x).bind λxs=>(bF μ y).map λa=>(xs[i]?).bind λd=>(a[i]?).map λe=>.tup [d,e]
noncomputable def sD(ms:MA):MI:=λc μ=>(ms c μ).bind λp=>match p.1 with
 |[x,y]=>(d8 p.2 x).bind λa=>(d8 p.2 y).map λb=>(sC x y,min a.length b.length+1,p.2)|_=>b0
theorem Fh(R:Rp K π H μ)(h:IsD K π μ.length H v x)(j:d8 μ x=a7 xs):∃p,v=.ref p/\(∃vs,SqL K H p vs) /\
  ∀c a d,Ext π μ.length H c a.length d->Rp K c d a->∀i,bF a x=a7 i->∃g,SqL K d p g/\IsDs K c a.length d g i:=by
 obtain⟨p,vs,rfl,q,_⟩:=mK R h j;refine⟨p,rfl,⟨vs,q⟩,λc a d e l i k=>?_⟩;have o:d8 a x=a7 i:=by
  cases x with
  |rol u=>exact k|loc b=>exact k|_=>cases j
 obtain⟨s,g,n,r,m⟩:=mK l (h.mono e) o;cases n;exact⟨g,r,m⟩
theorem Sf(R:Rp K π H μ)(h:IsD K π μ.length H v x)(h':IsD K π μ.length H T y)(hs:d8 μ x=a7 xs)(A:d8 μ y=a7 ys):
  ∃a b,v=.ref a/\T=.ref b/\(∃G,SqL K H a G)/\(∃G,SqL K H b G)/\Wk K (Ar K a b) (sC x y) π μ.length H:=by
 obtain⟨a,rfl,qa,M⟩:=Fh R h hs;obtain⟨b,rfl,qb,N⟩:=Fh R h' A;refine⟨a,b,rfl,rfl,qa,qb,λg c l i e j z=>?_,λg c l i d e j z=>?_⟩
 .obtain⟨m,u,z⟩:=a0a.mp z;obtain⟨bs,w,z⟩:=a0g.mp z;obtain⟨q,n,r⟩:=M g c l e j m u;obtain⟨p,o,s⟩:=N g c l e j bs w;refine⟨q,p,n,o,?_⟩;rw[r.length,s.length];cases I:m[i]? with
  |none=>exact .inl (a1i.mp I)|some d=>
   cases k:bs[i]? with
   |none=>exact .inr (a1i.mp k)|some d'=>rw[I,k]at z;cases z
 .obtain⟨m,u,z⟩:=a0a.mp z;obtain⟨bs,w,z⟩:=a0g.mp z;obtain⟨Y,h3,z⟩:=a0a.mp z;obtain⟨Z,h4,h5⟩:=a0g.mp z;subst h5;obtain⟨q,n,r⟩:=M g c l e j m u;obtain⟨p,o,s⟩:=N g c l e j bs w;obtain⟨U,J,k1⟩:=r.get h3;obtain⟨X,L,k2⟩:=s.get h4;refine⟨⟨q,p,U,X,n,o,J,L⟩,?_⟩;rintro y H2 ⟨t,v1,v2,rfl,hn,rfl,B,E⟩;have O:=B q n;have Q:=E p o;rw[J]at O;rw[L]at Q;cases O;cases Q;obtain⟨k,R2⟩:=j.fresh (o:=.tup [U,X]) hn;exact⟨k,R2,.tup (.of cP)<|.cons (k1.mono k)<|.cons (k2.mono k) .nil⟩
noncomputable def Sg(K:a0c)(d:TA):TI:=λσ H R=>d σ H λvs c=>∃a b,vs=[.ref a,.ref b]/\(∃xs,SqL K c a xs)/\(∃e,SqL K c b e)/\R (Ar K a b) c
open PyProof.Rows in
theorem Si{X:Cx}{a b:Expr}{z:TA}{p pos pt:a1V}{es:List Expr}{kx:Nat}(O:Gl X "zip") (T:X.mg "zip"=b0) (N:PA X [a,b] z)(Y:a0T [a,b] X.env=(b3,eval a X.env)::a0T [b] X.env)(o:(a2F pos<|a0T [b] X.env).any (·.1)=b3) :
  PI X (.Tuple es kx pt) (.Call (.Name "zip" p) [a,b] [] pos) (Sg X.K z):=by
 intro i s A H R I h;refine b2v<|gW I O T Boot.«zip»<|a1M (aP (N pos i s A H _ I h) λus d ⟨vs,v,g,r1,q1⟩=>?_) Y o;obtain⟨l,m,rfl,⟨ws,U⟩,⟨ws2,n⟩,q⟩:=q1;cases r1 with
 |cons ru r=>
  cases r with
  |cons u r=>
   cases r;cases ru;cases u;obtain⟨its,rv,y,hz⟩:=g.list U;obtain⟨x,rv2,k,hz2⟩:=g.list n;have la:l<d.heap.objs.size:=let⟨_,e,_⟩:=y.isList;a0m e;have lb:m<d.heap.objs.size:=let⟨_,e,_⟩:=k.isList;a0m e;refine call_zip_2 y.isList k.isList λM w G J K L Z Q=>b1j w ?_;have B:Inv X i A v {d with heap:=M}:=g.kept (t':=d.toks) Q;have E:ZipApart (d.heap.objs.size+4) (d.heap.objs.size+2) (d.heap.objs.size+3) d.heap.objs.size (d.heap.objs.size+1) l m:=by have la':@LT.lt Nat _ l d.heap.objs.size:=la;have lb':@LT.lt Nat _ m d.heap.objs.size:=lb;constructor<;>(show @Ne Nat _ _;lia)
   refine⟨d.heap.objs.size+4,[d.heap.objs.size+4,d.heap.objs.size+2,d.heap.objs.size+3,d.heap.objs.size,d.heap.objs.size+1],_,_,v,rfl,B,Se E,⟨w,G,⟨_,_,J⟩,K,L⟩,λc hc=>?_,q⟩;have j:d.heap.objs.size<=c:=by simp only[a0D,a3a,or_false]at hc;rcases hc with rfl|rfl|rfl|rfl|rfl<;>first|exact Nat.le_add_right _ _|exact a0l _
   exact g.fpOk j<|g.hok.fresh j
theorem Sj(d:Gl X "zip")(e:X.mg "zip"=b0)(m:QA X [a,b] ms n):QJT X (.Call (.Name "zip" p) [a,b] [] pos) (sD ms):=⟨λes U pt b2w s σ H R I hw=>by
 have g:=m.s;rw[a1e,a0j,a1e,a0j]at g;obtain⟨Q,T,N,K,Y,O,q,E,c,k⟩:=hw;obtain⟨⟨x,i⟩,w,c⟩:=a0a.mp c;refine Si d e m.h (eM g.1) (by rw[eM g.2.1];rfl) b2w s σ H R I ⟨Q,T,N,x,i,q,E,w,λj Z o v l h=>?_⟩;dsimp only at c;split at c
 .rename_i x y;obtain⟨xs,z,c⟩:=a0a.mp c;obtain⟨ys,A,c⟩:=a0g.mp c;cases c;cases h with
  |cons h L=>
   cases L with
   |cons B M=>cases M;obtain⟨r,u,rfl,rfl,G,J,W⟩:=Sf l h B z A;exact⟨r,u,rfl,G,J,k j o _ v l W⟩
 .cases c⟩
theorem Sk:a6k (.type "tuple") "keys"=pure none:=by rw[a6t,a4G];kernel_rfl
theorem Sm(g:s.heap.get? a=a7 o)(j:o.cls=.type "tuple")(l:o.data=.seq xs k)(m:o.dict=b0)(hA:A.handled=b0)(q:∀h n,(∀b u,s.heap.get? b=a7 u->h.get? b=a7 u)->Q b0 {s with heap:=h,toks:=n}):a0A (a0L P w) A (b0q (.ref a) "keys") Q E s:=by
 obtain⟨c,r,p,B⟩:=o;dsimp only at j l m;subst j l m;obtain⟨y,x,v,n,z⟩:=s;have ty:∀d,(⟨y,x,v,d,z⟩:a0i).TypeIs (.ref a) "tuple":=λ_=>⟨_,g,rfl⟩;have G:=b0H;have H:=F.slot_tuple_getattribute.lookup;have I:=F.slot_tuple_getattribute.bind<|.ref a;have J:=am_tuple_getattr_none;unfold b0q getAttrBy? getAttrBy;repeat (any_goals (first|assumption|exact ty _|((with_reducible show a0A _ _ (call (a1G "tuple.__getattribute__") _ _) _ _ _);refine a6m F.slot_tuple_getattribute (ty _) am_entry_tuple_getattribute (F.args_tuple_getattribute_2 _ _) (meets_getattribute_miss_tuple a xs k B "keys" _ Sk<|by decide +kernel) ⟨g,hA,λh d e ne=>?_⟩)|wp_step))
 obtain⟨K,L,i⟩:=ne.there;show a0A _ _ (a5x _ _ _ _ b0 b3 b3) _ _ _;unfold a5x;repeat (any_goals (first|assumption|wp_step))
 exact q _ _ ne.of.keeps
theorem vW:entryFor table "dict.update.loop"=a7 Builtin.«dict.update.loop»:=entryFor_of_tree<|by kernel_rfl
theorem mP:plainId "dict.update.loop"=true:=by decide +kernel
noncomputable def gJ(ps:bN):List (Addr×List Int×Addr×V)->bN
 |[]=>ps|r::L=>gJ (dO ps r.2.1 r.2.2.1 r.2.2.2) L
theorem Au{σ:St}{ps:bN}(z:A.units<a2e)(I:Inv X b2w σ H s)(e:H d=a7 (aM d ps))(w:dG X.K H ps)(n:SqT X.K H b (k.map V.int))(hz:ps.length<a0s)(J:RelV v u)(h:∀i,Inv X b2w σ (aK H d<|aM d<|dO ps k b v) i->(∀c o,c≠d->s.heap.get? c=a7 o->i.heap.get? c=a7 o)->Q () i):a0A (a0L X.prog X.w) A (dictSet d (.ref b) u) Q E s:=by
 obtain⟨y,M,K,r,j⟩:=kK I (.of e) w;have B:(bY ps K).length<=a0s:=by have:=congrArg a1n<|n5 r;rw[a0d,a0d]at this;lia
 refine wpAny_dictSet_heap (hsz:=B) (show(a4f<|a4A X.prog X.w).room A from z) (kH I n) j λm g a=>h _ ?_ λc o hc e=>a.extBut c o hc e;obtain⟨L,G,l⟩:=An r k b J;rw[l]at g;have p:∃q,m.get? d=a7 q:=let⟨q,_,_,x,_⟩:=g;⟨q,x⟩;exact yP I (by rw[e];exact a3v) a p<|vP y (by have:=r6 ps k b v;lia) G g
theorem mQ{ps:bN}(e:H d=a7 (aM d ps))(h:SqT K H b vs):SqT K (aK H d o) b vs:=by
 have ne:∀{u},H b=a7 u->(∀c,u≠aM d c)->b≠d:=λz f y=>by rw[y,e]at z;cases z;exact f ps rfl
 rcases h with(h|⟨a,h⟩)|h
 .exact .inl<|.inl<|by rw[a9<|ne h λ_ z=>by cases z];exact h
 .exact .inl<|.inr ⟨a,by rw[a9<|ne h λ_ z=>by cases z];exact h⟩
 .exact .inr h
theorem Fi(h:dG K H ps)(g:SqT K H b (k.map V.int)):dG K H (dO ps k b v):=by
 intro p a;unfold dO at a;split at a
 .obtain⟨d,c,e⟩:=a0u.mp a;by_cases z:d.1=k
  .rw[if_pos z]at e;subst e;exact h d c
  .rw[if_neg z]at e;subst e;exact h d c
 .rcases a1t.mp a with a|a
  .exact h p a
  .rw[a0N.mp a];exact g
theorem vX:aK (aK H d o) d a=aK H d a:=by
 funext b;unfold aK;split
 .rfl
 .rfl
theorem Fj{Q:gq->a0i->Prop}(h:a3M s.heap p xs)(q:Q xs.toList s):a0A (a0L P w) A (a7o<|.ref p) Q E s:=by obtain⟨o,g,c,n,a⟩:=h;have ty:s.TypeIs (.ref p) "tuple":=⟨o,g,c⟩;unfold a7o;refine a0b<|a5m ty ?_;rw[if_pos<|by decide];unfold a9o;refine a0b<|a0b<|a8y g ?_;rw[a];exact a0h<|a0h q
theorem Sn{σ:St}(hh:A.handled=b0)(hu:A.in1.units<a2e):∀L i(ps:bN)H s,Inv X b2w σ H s->H d=a7 (aM d ps)->dG X.K H ps->SqT X.K H t ys->ys.drop i=L.map (λr=>V.ref r.1)->
  (∀r∈L,SqT X.K H r.1 [.ref r.2.2.1,r.2.2.2]/\SqT X.K H r.2.2.1 (r.2.1.map V.int))->fZ X b2w H it->s.heap.IsTupleIter it t i->ps.length+L.length<=a0s->
  (∀E,Inv X b2w σ (aK H d<|aM d<|gJ ps L) E->R (.ok<|.ret .none) E)->a3q (a0L X.prog X.w) A (.builtin "dict.update.loop" ⟨[.ref d,.ref it,a3P i,.none],[]⟩) R s:=by
 intro L;induction L with
 |nil=>
  intro i ps H s I e N w hd y M st Q q;obtain⟨g,Y,p,T⟩:=I.tuple w;obtain⟨j,l,f2,m,n,v⟩:=M;have hl:=Y.length;have hlen:ys.length<=i:=by have:=congrArg a1n hd;simp at this;lia
  refine a2A vW ?_;rw[a1P mP _];show a0A _ A.in1 (a3C (.ref it) >>= _) _ _ s;refine a0b (a9w hh st (show s.heap.IsTuple t g.toArray from p) (by simp;lia) λG eb=>?_);have k:Inv X b2w σ H {s with heap:=G}:=I.turned (t':=s.toks) (λb o J e=>eb b o J e) j l m n v;show a0A _ _ (a6W d [] >>= _) _ _ _;refine a0b<|a0h<|a0h<|q _ ?_;have:aK H d (aM d<|gJ ps [])=H:=by
   funext b;unfold aK;split
   .rename_i z;rw[z];exact e.symm
   .rfl
  rw[this];exact k
 |cons r L ih=>
  intro i ps H s I e N w hd y M st Q q;obtain⟨g,Y,p,T⟩:=I.tuple w;obtain⟨j,l,f2,m,n,v⟩:=id M;have B:ys[i]?=a7 (.ref r.1):=by have:=congrArg (·[0]?) hd;simpa using this
  obtain⟨u,fF,ru⟩:=Y.get B;cases ru;refine a2A vW ?_;rw[a1P mP _];show a0A _ A.in1 (a3C (.ref it) >>= _) _ _ s;refine a0b (a9m st (show s.heap.IsTuple t g.toArray from p) (x:=.ref r.1) (by simpa using fF) λG st' sb=>?_);have k:Inv X b2w σ H {s with heap:=G}:=I.turned (t':=s.toks) (λb o J e=>(sb.2 b J).trans e) j l m n v;have a:=y r<|a0P ..;obtain⟨its2,Z,p2,_⟩:=k.tuple a.1;cases Z with
  |cons rk U=>
   cases U with
   |cons rw' U=>
    cases U;cases rk;rename_i w0;refine a0b<|a1q<|a0b<|a3Y<|Fj p2 ?_;have O:ps.length<a0s:=by rw[a0Q]at Q;lia
    refine a1q<|Au hu k e N a.2 O rw' λE I2 kp=>?_;refine a0h ⟨a2o mP _,?_⟩;have bH:it≠d:=λz=>by rw[<- z,j]at e;cases e
    have c:∀x∈L,SqT X.K (aK H d<|aM d<|dO ps r.2.1 r.2.2.1 r.2.2.2) x.1 [.ref x.2.2.1,x.2.2.2]/\SqT X.K (aK H d<|aM d<|dO ps r.2.1 r.2.2.1 r.2.2.2) x.2.2.1 (x.2.1.map V.int):=λx B=>⟨mQ e (y x<|a0F _ B).1,mQ e (y x<|a0F _ B).2⟩;have K:ys.drop (i+1)=L.map (λr=>V.ref r.1):=by have:=congrArg b2u hd;simpa[b0y]using this
    refine ih (i+1) (dO ps r.2.1 r.2.2.1 r.2.2.2) _ E I2 cP (Fi (λp hp=>mQ e<|N p hp)<|mQ e a.2) (mQ e w) K c ⟨by rw[a9 bH];exact j,l,f2,m,n,v⟩ (st'.at λo ho=>kp it o bH ho) ?_ λs'' h=>q s'' ?_
    .have:=r6 ps r.2.1 r.2.2.1 r.2.2.2;rw[a0Q]at Q;lia
    .rw[vX]at h;exact h
noncomputable def Fm(K:a0c):gw->Hp->VK->Prop:=λxs H Q=>∃(t:Addr)(L:List (Addr×List Int×Addr×V)),xs=[V.ref t]/\SqT K H t (L.map λr=>V.ref r.1) /\
 (∀r∈L,SqT K H r.1 [.ref r.2.2.1,r.2.2.2]/\SqT K H r.2.2.1 (r.2.1.map V.int))/\∀d,H d=b0->Q (.ref d) (aK H d<|aM d<|gJ [] L)
theorem So(hc:X.calm=b5)(U:X.A.units+64<a2e):CallR X (.type "dict") (Fm X.K):=by
 intro d s M H xs us Q I r h;obtain⟨t,L,rfl,v,K,k⟩:=h;obtain⟨u,rfl,ru⟩:=d6 r;cases ru;have J:H s.heap.objs.size=none:=I.hok.fresh<|a0l _;refine a6K (Q₁:=λi c=>i=.ref s.heap.objs.size/\c={s with heap:=s.heap.push {cls:=.type "dict",data:=.dict #[]}}) F.kt_called_dict (F.kt_typeCall_dict_1 _) F.entry_dict_init (a7U _ ⟨rfl,rfl⟩) ?_;rintro i c ⟨rfl,rfl⟩;have B:Inv X d M (aK H s.heap.objs.size<|aM s.heap.objs.size []) {s with heap:=s.heap.push {cls:=.type "dict",data:=.dict #[]}}:=I.laid (a:=s.heap.objs.size) (o:=aM s.heap.objs.size []) (t':=s.toks) (λ_ _ q=>a0e _ q) (a0l _)<|vQ s.heap I.big;have ty:({s with heap:=s.heap.push {cls:=.type "dict",data:=.dict #[]}}:a0i).TypeIs (.ref s.heap.objs.size) "dict":=⟨_,a0o _ rfl,rfl⟩;refine⟨ty,F.args_dict_init_2 _ _,?_⟩;unfold Builtin.«dict.__init__»;refine a0b ?_;unfold a4L;refine a0b<|a2O ty ?_;show a0A _ _ (pure (s.heap.objs.size,[a0n t])) _ _ _;refine a0h ?_;show a0A _ _ (a2M "dict.__init__" s.heap.objs.size (.ref t) [] .none) _ _ _;unfold a2M;have mono:∀{b:Addr}{vs:gw},SqT X.K H b vs->SqT X.K (aK H s.heap.objs.size<|aM s.heap.objs.size []) b vs:=λ{b vs} z=>by
  have ne:H b≠b0->b≠s.heap.objs.size:=λf y=>by rw[y]at f;exact f J
  rcases z with(z|⟨x,z⟩)|z
  .exact .inl<|.inl<|by rw[a9<|ne<|by rw[z];exact λy=>nomatch y];exact z
  .exact .inl<|.inr ⟨x,by rw[a9<|ne<|by rw[z];exact λy=>nomatch y];exact z⟩
  .exact .inr z
 obtain⟨Y,rv,x,E,G,n,O,R⟩:=B.tupN<|mono v;refine a0b<|a5m ⟨x,E,G⟩ ?_;rw[if_pos<|by decide];refine a0b<|Sm E G O R (I.ok.hd hc) λm l Z=>?_;have j:Inv X d M (aK H s.heap.objs.size<|aM s.heap.objs.size []) {s with heap:=m,toks:=l}:=B.kept (t':=l) Z;show a0A _ _ (rule _ >>= _) _ _ _;refine a0b<|a3Z ?_;obtain⟨a,rv',p',w⟩:=j.tuple<|mono v;refine a0b<|a5v (t:=t) (items:=a.toArray) (show({s with heap:=m,toks:=l}:a0i).heap.IsTuple t a.toArray from p') ?_;have N:=j.kept (t':=l) (h':=m.push {cls:=.type "tuple_iterator",data:=.fields #[.ref t,.int 0 0]}) λb o e=>a0e _ e;refine a0h ⟨a2o mP _,?_⟩;refine Sn (A:=X.A.in1) (I.ok.hd hc) ?_ L 0 [] _ _ N cP (λp T=>nomatch T) (mono v) rfl (λr g=>⟨mono (K r g).1,mono (K r g).2⟩) (j.fpOk (a0l _)<|j.hok.fresh<|a0l _) ⟨_,a0o _ rfl,rfl,rfl⟩ ?_ λs' A=>?_
 .show X.A.units+1+1<a2e;lia
 .have:=w;simp at this ⊢;exact this
 .rw[vX]at A;exact⟨rfl,.ref s.heap.objs.size,_,A,rfl,k _ J⟩
noncomputable def pY:List D->Option (jx)
 |[]=>a7 []|.tup [x,v]::r=>(c5 x).bind λk=>(pY r).map λl=>(k,v)::l|_::_=>b0
noncomputable def n9:MF:=λds μ=>match ds with
 |[.tup xs]=>(pY xs).map λl=>(.loc μ.length,μ++[.dT<|l.foldl (λq p=>cS q p.1 p.2) []])|_=>b0
noncomputable abbrev Fn(K:a0c)(π:Nat->Addr)(n:Nat)(H:Hp):List (Addr×List Int×Addr×V)->jx->Prop:=
 a5d λr p=>r.2.1=p.1/\SqT K H r.1 [.ref r.2.2.1,r.2.2.2]/\SqT K H r.2.2.1 (r.2.1.map V.int)/\IsD K π n H r.2.2.2 p.2
theorem Fo:∀{xs}{ws}{l},IsDs K π n H ws xs->pY xs=a7 l->∃L,ws=L.map (λr=>V.ref r.1)/\Fn K π n H L l
 |[],_,_,.nil,h=>by cases h;exact⟨[],rfl,.nil⟩
 |x::xs,_,l,.cons i t,h=>by
  unfold pY at h;split at h
  .rename_i a;cases a
  .rename_i y v r a;cases a;obtain⟨k,d,h⟩:=a0a.mp h;obtain⟨m,e,rfl⟩:=a0g.mp h;obtain⟨L,rfl,P⟩:=Fo t e;cases i with
   |tup q z=>
    cases z with
    |cons g z=>
     cases z with
     |cons j z=>cases z;obtain⟨b,rfl,c⟩:=jN g d;exact⟨(_,k,b,_)::L,rfl,.cons ⟨rfl,q,c,j⟩ P⟩
  .cases h
theorem Fp:∀{L}{l},Fn K π n H L l->∀{ps}{kvs},IsTs K π n H ps kvs->IsTs K π n H (gJ ps L) (l.foldl (λq p=>cS q p.1 p.2) kvs)
 |_,_,.nil,_,_,h=>h|r::L,p::l,.cons e t,ps,kvs,h=>by obtain⟨a,_,b,c⟩:=e;show IsTs K π n H (gJ (dO ps r.2.1 r.2.2.1 r.2.2.2) L) (l.foldl _<|cS kvs p.1 p.2);rw[<- a];exact Fp t<|h.put r.2.1 b c
theorem Sq:dJ K n9 (Fm K):=by
 intro w H v n d o u Q R i a k;unfold n9 at a;split at a
 .rename_i n;obtain⟨l,c,j⟩:=a0g.mp a;cases j;cases i with
  |cons i t=>
   cases t;cases i with
   |tup q z=>
    obtain⟨L,rfl,P⟩:=Fo z c;refine⟨_,L,rfl,q,?_,λd hd=>?_⟩
    .clear q z k a c;induction P with
     |nil=>exact λr b=>nomatch b|cons e t m=>
      intro r b;rcases a0D.mp b with rfl|b
      .exact⟨e.2.1,e.2.2.1⟩
      .exact m r b
    .have T:=Fp P (ps:=[]) (kvs:=[]) .nil;obtain⟨h,g,s⟩:=R.alloc (c:=.dT (l.foldl (λq p=>cS q p.1 p.2) [])) (o:=aM d (gJ [] L)) hd ⟨_,rfl,T.to.1,T.to.2.1,T.to.2.2⟩;exact k _ _ _ h g gC
 .cases a
noncomputable def ItI(h:a1C)(c d S:Addr)(i n ep:Nat):Prop:=∃(b ok g:Value)(e:Bool),h.get? c=a7 {cls:=.type "dict_itemiterator",dict:=b0,data:=.fields #[b,.bool e,.ref d,.int i 0,.int n 0,.int ep 0,ok,g],slots:=#[]} /\
 (b=.none\/∃(a:Addr)(o:Obj),b=a3P a/\h.get? a=a7 o/\a≠c/\a≠S)
theorem ItI.stay{i n ep}(j:ItI h c d S i n ep)(m:c≠S)(k:∀b o,b≠S->h.get? b=a7 o->h'.get? b=a7 o):ItI h' c d S i n ep:=by
 obtain⟨v,ok,p,l,e,r⟩:=j;refine⟨v,ok,p,l,k _ _ m e,?_⟩;rcases r with r|⟨a,o,q,s,u,g⟩
 .exact .inl r
 .exact .inr ⟨a,o,q,k _ _ g s,u,g⟩
theorem Av{i ep:Nat}(hh:A.handled=b0)(y:s.heap.get? it=a7 {cls:=.type "dict_itemiterator",dict:=b0,data:=.fields #[n,.bool L,.ref d,.int i 0,.int es.size 0,.int ep 0,ok,G],slots:=#[]})(jr:n=.none\/∃(a:Addr)(o:Obj),n=a3P a/\s.heap.get? a=a7 o/\a≠it/\a≠S)(g:RawD s.heap d es ep)(hS:S<s.heap.objs.size)(q1:∀e j,es[i]?=a7 e->ItI j it d S (i+1) es.size ep->(n=.none->a7m j it d (i+1) es.size ep e.key e.val s.heap.objs.size)->j.get? s.heap.objs.size=a7 {cls:=.type "tuple",data:=.seq #[e.key,e.val]}->j.objs.size=s.heap.objs.size+1->(∀b o,b≠it->s.heap.get? b=a7 o->j.get? b=a7 o)->Q (a7<|.ref s.heap.objs.size) {s with heap:=j})(q2:es[i]?=b0->∀j,a5q it s.heap j->Q b0 {s with heap:=j}):a0A (a0L P w) A (a3C<|.ref it) Q E s:=by
 obtain⟨z,g1,g2,g3⟩:=id g;have ty:s.TypeIs (.ref it) "dict_itemiterator":=⟨_,y,rfl⟩;obtain⟨c,r,p,H,B⟩:=s;have T:∀{Q:String->a0i->Prop}{A:a1b}{E:Value->a0i->Prop},Q "dict_itemiterator" ⟨c,r,p,H,B⟩->a0A (a0L P w) A (a8m<|.ref it) Q E ⟨c,r,p,H,B⟩:=λq=>wpAny_typeNameOfWhole_itemiter ty q;unfold a3C;refine a0b<|a9e<|a5W (name:=a1T "__next__") ty F.slot_dict_itemiterator_next<|a2k F.slot_dict_itemiterator_next ty F.entry_dict_itemiterator_next ?_<|F.args_dict_itemiterator_next_1 _;refine a0b<|a0h<|a0b<|a0b<|a0b<|T<|a0h<|a0b<|a8z y rfl ?_;rw[show a2H "dict_itemiterator"=b5 by decide,if_pos rfl];show a0A _ _ (if(a0n d==a1z)=b5 then _ else _) _ _ _;rw[if_neg<|show ¬ (a0n d==a1z)=b5 from λx=>a0K x];refine a0b<|a0h<|a0b<|a2f g1 g3 ?_;rw[if_neg λx=>by simp at x];refine a0b<|a0h<|a0b<|a3J g1 g3 ?_;rw[if_neg λx=>by simp at x];refine a0h ?_;dsimp only;rw[if_neg<|show ¬ ((i:Int)<0) by lia,a4u];have R:it<c.objs.size:=a0m y;cases he:es[i]? with
 |some e=>
  refine a0b<|a0b<|T<|a0h<|a0b<|a6j ty ?_;show a0A _ _ (a7C (.ref it) 3 (a3P<|(i:Int)+1) >>= _) _ _ _;refine a0b (a3B y (by simp) λu N O=>?_);replace O:a2X it c u:=O;replace N:u.get? it=a7 {cls:=.type "dict_itemiterator",dict:=b0,data:=.fields #[n,.bool L,.ref d,.int ((i+1:Nat):Int) 0,.int es.size 0,.int ep 0,ok,G],slots:=#[]}:=by rw[show((i+1:Nat):Int)=(i:Int)+1 by lia];simpa[a3P]using N
  have I:Shared.TypeIs ⟨u,r,p,H,B⟩ (.ref it) "dict_itemiterator":=⟨_,N,rfl⟩;refine a0b<|a1q<|a0b<|a6j I<|a0b<|a6j I ?_;show a0A _ _ (a5s (.ref it) 6 e.key e.val) _ _ _;unfold a5s;refine a0b<|a8x ?_;have zu:u.objs.size=c.objs.size:=O.1;have k:=a0e {cls:=.type "tuple",data:=.seq #[e.key,e.val]} N;have Y:(u.push {cls:=.type "tuple",data:=.seq #[e.key,e.val]}).get? c.objs.size=a7 {cls:=.type "tuple",data:=.seq #[e.key,e.val]}:=zu▸a0o u rfl;have vz:(u.push {cls:=.type "tuple",data:=.seq #[e.key,e.val]}).objs.size=c.objs.size+1:=by rw[a3c,zu]
  have J:∀b o,b≠it->c.get? b=a7 o->(u.push {cls:=.type "tuple",data:=.seq #[e.key,e.val]}).get? b=a7 o:=λb o M x=>a0e _<|O.extBut b o M x;show a0A _ _ (a5i (.ref it) >>= _) _ _ ⟨u.push {cls:=.type "tuple",data:=.seq #[e.key,e.val]},r,p,H,B⟩;rw[zu];generalize u.push {cls:=.type "tuple",data:=.seq #[e.key,e.val]}=v at k Y vz J;have h:c.objs.size≠it:=a2h R;have fin:∀l:a1C,ItI l it d S (i+1) es.size ep->(n=.none->a7m l it d (i+1) es.size ep e.key e.val c.objs.size)->a2X it v l->Q (a7<|.ref c.objs.size) ⟨l,r,p,H,B⟩:=λl j' jo X=>q1 e l he j' jo (X.extBut _ _ h Y) (by show l.objs.size=_;rw[X.1,vz]) λb o M x=>X.extBut b o M<|J b o M x;refine a0b ?_;unfold a5i;rcases jr with rfl|⟨a,o,rfl,U,m,r4⟩
  .refine a0b<|a4T k rfl (x:=.none) rfl<|a0h ?_;simp only[if_true];refine a0b<|a4T k rfl (x:=ok) rfl<|a0b<|a4T k rfl (x:=G) rfl ?_;refine a0b (a3B k (by simp) λv3 Z K=>a0b<|a3B Z (by simp) λv4 x4 y4=>a0b<|a3B x4 (by simp) λv5 x5 y5=>a0b<|a3B x5 (by simp) λv6 x6 y6=>?_);have x7:a7m v6 it d (i+1) es.size ep e.key e.val c.objs.size:=x6;refine a0b<|a5G<|a0h<|a0h ⟨_,rfl,a0h<|fin v6 ?_ (λ_=>x7) ?_⟩
   .refine⟨a3P c.objs.size,e.key,e.val,b3,x7,.inr ⟨c.objs.size,_,rfl,y6.extBut _ _ h<|y5.extBut _ _ h<|y4.extBut _ _ h<|K.extBut _ _ h Y,h,a2h hS⟩⟩
   .exact((K.trans y4).trans y5).trans y6
  .refine a0b<|a4T k rfl (x:=a3P a) rfl ?_;show a0A _ _ (loadIfAlive ((a:Int).toNat) >>= _) _ _ _;rw[a4u];refine a0b<|PySem.W.kdx_alive (J a o m U) ?_;simp only[Option.isNone_some,a0t,if_false];refine a0b<|a4T k rfl (x:=.bool L) rfl ?_;cases L with
   |true=>rw[if_neg<|show ¬ ((a2b b5 != a2b b5)=b5)from λx=>a0K x];refine a0h ?_;simp only[a0t,if_false];exact a0h (a0h ⟨_,rfl,a0h<|fin v ⟨_,ok,G,b5,k,.inr ⟨a,o,rfl,J a o m U,m,r4⟩⟩ (λz=>nomatch z)<|a8c _ _⟩)|false=>rw[if_pos<|show(a2b b3 != a2b b5)=b5 from rfl];refine a0b (a3B k (by simp) λv3 Z K=>a0h ?_);simp only[a0t,if_false];exact a0h<|a0h ⟨_,rfl,a0h<|fin v3 ⟨_,ok,G,b5,by simpa using Z,.inr ⟨a,o,rfl,K.extBut a o m<|J a o m U,m,r4⟩⟩ (λz=>nomatch z) K⟩
 |none=>refine a0b<|a0b<|T<|a0h ?_;show a0A _ _ (a7C (.ref it) 2 .none >>= _) _ _ _;refine a0b (a5u y rfl (by simp) ?_);show a0A _ _ (a9D (.type "StopIteration") [] >>= _) _ _ _;simp only[a9D,b2m];refine a0b (a0b<|a1K ?_<|by size_fits);refine a0b (m:=a4B _ _) (a6J (a:=a1z) (by first|rfl|(simp only[a4B];rfl))<|a1K ?_<|by size_fits);unfold b2l;refine a0b<|a9c ?_;rw[show A.in1.handled=b0 from hh];refine a0b<|a0h<|b0k ?thrown;case thrown=>exact a0b<|a4e (T:="StopIteration") (b:=b5) ⟨_,a0o _ rfl,rfl⟩ a8B<|a0h<|q2 he _<|((a2y ..).extBut.push _).push _
theorem Fq(a:s.heap.IsItemsView r d)(g:RawD s.heap d es ep)(q:Q (.ref s.heap.objs.size) {s with heap:=s.heap.push {cls:=.type "dict_itemiterator",data:=.fields #[.none,.bool b3,.ref d,.int 0 0,.int es.size 0,.int ep 0,.none,.none]}}):a0A (a0L P w) A (a5L<|.ref r) Q E s:=by
 obtain⟨y,e,k,h⟩:=id a;obtain⟨z,b,j,c⟩:=id g;refine a7A a.typeIs F.slot_dict_items_iter<|a2k F.slot_dict_items_iter a.typeIs F.entry_dict_items_iter ?_<|F.args_dict_items_iter_1 _;unfold Builtin.«dict_items.__iter__» a5Y a5D;refine a0b<|a0h<|a0b<|a0b<|a4T e h (x:=.ref d) rfl<|a0h<|a0b<|a0b<|a2f b c<|a0b<|a3J b c ?_;simp only[show a2H "dict_itemiterator"=b5 by decide,if_true];refine a1K (a0h ⟨_,rfl,"dict_itemiterator",_,⟨_,a0o _ rfl,rfl⟩,F.slot_dict_itemiterator_next.lookup,?_⟩) (by simp only[sizeOk,a5j,a0J,a0q,a0Q,a5P];rw[a0O];lia);simpa[a3P,a5j]using q
structure PrsAt(es:Array DictEntry)(lo:Addr)(h:a1C)(as:List Addr):Prop where
 up:as.Pairwise (·<·)
 over:∀a∈as,lo<a
 prs:∀(j:Nat)(a:Addr),as[j]?=a7 a->∃e,es[j]?=a7 e/\h.get? a=a7 {cls:=.type "tuple",data:=.seq #[e.key,e.val]}
theorem PrsAt.stay(p:PrsAt es lo h c)(k:∀b o,lo<b->h.get? b=a7 o->h'.get? b=a7 o):PrsAt es lo h' c:=
 ⟨p.up,p.over,λj a d=>let⟨e,g,i⟩:=p.prs j a d;⟨e,g,k a _ (p.over a<|a0S d) i⟩⟩
theorem PrsAt.lt{es:Array DictEntry}{lo:Addr}{h:a1C}{b:List Addr}(p:PrsAt es lo h b){a:Addr}(c:a∈b):a<h.objs.size:=by obtain⟨j,d⟩:=a5T.mp c;obtain⟨_,_,e⟩:=p.prs j a d;exact a0m e
theorem PrsAt.snoc(p:PrsAt es lo h g)(l:∀a∈g,a<b)(n:lo<b)(m:es[g.length]?=a7 e)(o:h.get? b=a7 {cls:=.type "tuple",data:=.seq #[e.key,e.val]}):PrsAt es lo h (g++[b]):=by
 refine⟨List.pairwise_append.mpr ⟨p.up,a8o _ _,λa d c hc=>by rw[a0N.mp hc];exact l a d⟩,λa d=>?_,λj a i=>?_⟩
 .rcases a1t.mp d with d|d
  .exact p.over a d
  .rw[a0N.mp d];exact n
 .rcases a7e j g.length with k|k|k
  .rw[a0W k]at i;exact p.prs j a i
  .subst k;have:b=a:=by simpa using i
   subst this;exact⟨e,m,o⟩
  .rw[a3f<|by simp;lia]at i;cases i
theorem Ss{s:a0i}(T:A.handled=b0)(v:S<I)(J:d≠S)(H:d≠I)(hn:es.size<=a0s)res{h1:a1C}(U:∀h' tk j c l,(∀b o,b≠S->b≠I->h1.get? b=a7 o->h'.get? b=a7 o)->h'.get? S=a7 {cls:=.type "list",dict:=b0,data:=.seq j c,slots:=#[]}->l.length=es.size->PrsAt es I h' l->j.toList=l.map a0n->R (.ok<|.ret res) {s with heap:=h',toks:=tk}):
  ∀k i h tk c j l,es.size-i=k->i<=es.size->ItI h I d S i es.size ep->RawD h d es ep->(∀b o,b≠S->b≠I->h1.get? b=a7 o->h.get? b=a7 o)->h.get? S=a7 {cls:=.type "list",dict:=b0,data:=.seq j c,slots:=#[]}->
   j.toList=l.map a0n->l.length=i->PrsAt es I h l->I<h.objs.size->a3q (a0L P w) A (.builtin "list.extend.loop" ⟨[.ref S,.ref I,res],[]⟩) R {s with heap:=h,toks:=tk}:=by
 have ne:S≠I:=a0y v;intro k;induction k with
 |zero=>intro i h tk c j l Y X ⟨_,_,_,_,M,N⟩ g O p E y G lt;refine a2A F.entry_extend_loop ?_;rw[a1P F.plain_extend_loop _];refine a0b (m:=a3C (.ref I)) (Av (s:={s with heap:=h,toks:=tk}) (A:=A.in1) T M N g (a0m p) (λe h' n=>?_) λ_ h' x=>a0h<|U h' tk j c l (λb o B r z=>x b o r<|O b o B r z) (x S _ ne p) (by lia) (G.stay λb o q z=>x b o (a2h q) z) E);rw[a4n<|by lia]at n;cases n|succ k ih=>
  intro i h tk c j l Y X ⟨_,_,_,_,M,N⟩ g O p E y G lt;have sz:j.size=i:=by rw[<- a2p,E,a0d,y]
  refine a2A F.entry_extend_loop ?_;rw[a1P F.plain_extend_loop _];refine a0b (m:=a3C (.ref I))<|Av (s:={s with heap:=h,toks:=tk}) (A:=A.in1) T M N g (a0m p) (λe h' n j' _ L Z m=>?_) λn=>?_
  .dsimp only at L Z m ⊢;have u:=m S _ ne p;have Q:S<h.objs.size:=a0m p;have up:∀b o,b≠S->h'.get? b=a7 o->(h'.update S<|a2g (·.push<|a0n h.objs.size)).get? b=a7 o:=λb o q z=>(a1Q _ _<|a1j q).trans z;refine a0b (m:=a7S S (·.push<|a0n h.objs.size)) (a3G u rfl (a0h ⟨a2o F.plain_extend_loop _,?_⟩) (by rw[sz];lia)<|by show(j.push<|a0n h.objs.size).size<=a0s+1;rw[Array.size_push,sz];lia);refine ih (i+1) _ tk _ (j.push<|a0n h.objs.size) (l++[h.objs.size]) (by lia) (by lia) (j'.stay (a1j ne) up) (g.stay λo z=>up d o J<|m d o H z) (λb o B r z=>up b o B<|m b o r<|O b o B r z) (a2a _ u rfl) (by rw[Array.toList_push,E,a0z];rfl) (by rw[a0q,y];rfl) ?_ ?_
   .exact((G.stay λb o q z=>up b o (a2h<|a7f v q)<|m b o (a2h q) z)).snoc (λa K=>G.lt K) lt (by rw[y];exact n)<|up _ _ (a2h Q) L
   .exact a7f lt<|a0m<|up _ _ (a2h Q) L
  .rw[a5k<|by lia]at n;cases n
theorem Su(K:A.handled=b0)(q:s.heap.IsItemsView r d)(g:RawD s.heap d es ep)(E:S≠r)(y:d≠S)(B:s.heap.get? S=a7 {cls:=.type "list",data:=.seq #[] c0})(M:es.size<=a0s)(H:∀h' tk k c m,(∀b o,b≠S->s.heap.get? b=a7 o->h'.get? b=a7 o)->h'.get? S=a7 {cls:=.type "list",dict:=b0,data:=.seq k c,slots:=#[]}->m.length=es.size->PrsAt es s.heap.objs.size h' m->k.toList=m.map a0n->R (.ok<|.ret res) {s with heap:=h',toks:=tk}):
  a0A (a0L P w) A.in1 (a2t (.ref S) (.ref r) res) (λfin p=>match fin with|.done f=>R (.ok f) p|.again c'=>c'.quiet=b5/\a3q (a0L P w) A c' R p) (λe p=>R (.error e) p) s:=by
 have x:S<s.heap.objs.size:=a0m B;have G:d<s.heap.objs.size:=g.lt;have run:∀(h:a1C)(c1 tk:Nat),(∀b o,b≠S->(s.heap.push {cls:=.type "dict_itemiterator",data:=.fields #[.none,.bool b3,.ref d,.int 0 0,.int es.size 0,.int ep 0,.none,.none]}).get? b=a7 o->h.get? b=a7 o)->h.get? S=a7 {cls:=.type "list",data:=.seq #[] c1}->
   a3q (a0L P w) A (.builtin "list.extend.loop" ⟨[.ref S,.ref s.heap.objs.size,res],[]⟩) R {s with heap:=h,toks:=tk}:=by
  intro h c1 tk u i;have z:=u s.heap.objs.size _ (a2h x)<|a0o _ rfl;exact Ss (s:=s) (h1:=s.heap) (ep:=ep) K x y (a0y G) M res (λh' v k c m O Q T U X=>H h' v k c m (λb o l e=>O b o l (a0y<|a0m e) e) Q T U X) es.size 0 h tk c1 #[] [] (b1v _) (a1U _)
   ⟨.none,.none,.none,b3,z,.inl rfl⟩ (g.stay λo e=>u d o y<|a0e _ e) (λb o l _ e=>u b o l<|a0e _ e) i rfl rfl ⟨a7R,λ_ J=>(by cases J),λj a L=>(by simp at L)⟩<|a0m z
 unfold a2t;refine a0b<|a5m (T:="dict_items") q.typeIs ?_;simp only[show a3F (.ref S) (.ref r)=b3 by simp[a3F,E],show(a0C "dict_items"==a0C "list")=b3 by decide,show(a0C "dict_items"==a0C "tuple")=b3 by decide,a5t,a0t,if_false];refine a0b<|Fq q g ?_;have i:=a0e {cls:=.type "dict_itemiterator",data:=.fields #[.none,.bool b3,.ref d,.int 0 0,.int es.size 0,.int ep 0,.none,.none]} B;refine a0b<|a1q<|PySem.W.kdx_hint (let⟨o,N,hc,_⟩:=q;⟨o,a0e _ N,hc⟩) ?_;refine a3I (λ_=>?_) λ_=>a0h ⟨a2o F.plain_extend_loop _,run _ c0 _ (λb o _ e=>e) i⟩;refine a0b<|a3Z<|a0b ?_;refine a0b (m:=a7S S (·.push .none))<|a3G i rfl ?_;have n:=a2a (a2g (·.push a1z)) i rfl;refine a3G (hz:=by seq_fits) n rfl<|a0h ⟨a2o F.plain_extend_loop _,run _ _ _ (λb o l e=>?_)<|a2a (a2g (·.pop)) n rfl⟩;exact(a1Q _ _<|a1j l).trans<|(a1Q _ _<|a1j l).trans e
theorem Sv{T:gq->a0i->Prop}(H:A.handled=b0)(v:s.heap.IsItemsView r d)(g:RawD s.heap d es ep)(J:es.size<=a0s)(q:∀h' tk i,(∀b o,s.heap.get? b=a7 o->h'.get? b=a7 o)->i.length=es.size->PrsAt es s.heap.objs.size h' i->s.heap.objs.size<=h'.objs.size->T (i.map a0n) {s with heap:=h',toks:=tk}):a0A (a0L P w) A (collect<|.ref r) T E s:=by
 have K:r<s.heap.objs.size:=let⟨_,p,_⟩:=v;a0m p
 unfold collect
 refine a0b<|wpAny_runValue<|a2A b1O ?_
 rw[a1P F.plain_proto_collect _]
 refine a0b (m:=newList [])<|a1K<|a0h ⟨a2o F.plain_list_iadd _,a2A b1P ?_⟩
 rw[a1P F.plain_list_iadd _]
 have B:(s.heap.push {cls:=.type "list",data:=.seq ([]:gq).toArray}).get? s.heap.objs.size=a7 {cls:=.type "list",data:=.seq #[]}:=a0o _ rfl
 have all:=Su (A:=A) (s:={s with heap:=s.heap.push {cls:=.type "list",data:=.seq ([]:gq).toArray}}) (P:=P) (w:=w) (es:=es) (ep:=ep) (res:=.ref s.heap.objs.size) (c0:=0)
  (R:=λ(q:a6n)(u:a0i)=>∃(h':a1C)(tk:Nat)(h:Array Value)(c:Nat)(i:List Addr),q=.ok (.ret<|.ref s.heap.objs.size)/\u={s with heap:=h',toks:=tk}/\(∀b o,s.heap.get? b=a7 o->h'.get? b=a7 o)/\h'.get? s.heap.objs.size=a7 {cls:=.type "list",dict:=b0,data:=.seq h c,slots:=#[]}/\i.length=es.size/\PrsAt es s.heap.objs.size h' i/\h.toList=i.map a0n)
  H (let⟨o,p,x⟩:=v;⟨o,a0e _ p,x⟩) (g.stay λo e=>a0e _ e) (a2h K) (a0y g.lt) B J
  λh' tk h c i l j m k n=>⟨h',tk,h,c,i,rfl,rfl,λb o e=>l b o (a0y<|a0m e)<|a0e _ e,j,m,⟨k.up,λa G=>a7f (a1A _)<|by have:=k.over a G;rw[a3c]at this;exact this,k.prs⟩,n⟩
 refine a1R all (λfin u x=>?_) λe u x=>?_
 .cases fin with
  |done f=>
   obtain⟨h',tk,h,c,i,e,rfl,l,j,m,k,n⟩:=x
   cases e
   refine a0b (m:=load s.heap.objs.size)<|a8y j<|a0h ?_
   show T h.toList _
   rw[n]
   exact q h' tk i l m k<|a4U<|a0m j
  |again c1=>
   refine⟨x.1,a6l x.2 λy L x=>?_⟩
   obtain⟨h',tk,h,c,i,rfl,rfl,l,j,m,k,n⟩:=x
   refine a0b (m:=load s.heap.objs.size)<|a8y j<|a0h ?_
   show T h.toList _
   rw[n]
   exact q h' tk i l m k<|a4U<|a0m j
 .obtain⟨_,_,_,_,_,z,_⟩:=x
  cases z
end L3
namespace L3
open PySem L2 PySem.W PyProof.Rows
theorem Sw(q:Q b5 s):a0A (a0L P w) A (eqBool v v) Q E s:=by unfold eqBool;refine a1q ?_;rw[if_pos<|by simp];exact a0b<|a3Z<|a0h q
theorem Aw:∀k,HT.lexLt k k=b3
 |[]=>rfl|a::k=>by simp[HT.lexLt,Aw k]
noncomputable def jP(P:a0R)(w:a1f)(h:a1C)(b:Addr)(k:List Int):Prop:=Tb.IsT P w h k b/\∃xs:gq,a3M h b xs.toArray/\a3y xs k
theorem Sx{C:Bool->a0i->Prop}(j:A.units<a2e)(m:s.heap.get? a=a7 {cls:=.type "tuple",data:=.seq #[.ref b,v]})(d:s.heap.get? g=a7 {cls:=.type "tuple",data:=.seq #[.ref h,l]})(i:jP P w s.heap b k)(c:jP P w s.heap h k')(n:k=k'->v=l)(q:C (HT.lexLt k k') s):a0A (a0L P w) A (keyLt' (tuples' b3) (.ref a)<|.ref g) C (λ_ _=>False) s:=by
 refine kat_lt m rfl d rfl ?_;refine kat_cons<|(a4f<|a4A P w).eqBool j i.1 c.1 ?_;by_cases e:k=k'
 .obtain rfl:=n e;subst e;rw[decide_eq_true rfl];refine kat_yes<|kat_cons<|Sw<|kat_yes<|kat_nil ?_;rw[Aw]at q;exact q
 .rw[decide_eq_false e];obtain⟨x,r,o⟩:=i.2;obtain⟨y,u,p⟩:=c.2;refine kat_no (kat_one _ _<|HT.lt_tupInts r u (by simpa using o) (by simpa using p) j ?_);exact q
noncomputable def pZ(P:a0R)(w:a1f)(A:a1b)(us:gq)(an:Nat->Nat->Bool)(s:a0i):Prop:=
 a0A (a0L P w) A (keyKind' us.toArray) (λb a=>a=s/\∀(i j:Nat)(C:Bool->a0i->Prop),i<us.length->j<us.length->C (an i j) s->a0A (a0L P w) A (keyLt' b (us.getD i .none)<|us.getD j .none) C (λ_ _=>False) s) (λ_ _=>False) s
theorem Sy{lo:Addr}{bs:List Addr}{ks:List (List Int)}(hu:A.units<a2e)(p:PrsAt es lo s.heap d)(h0:0<d.length)(hl:d.length=es.size)(hk:ks.length=es.size)(Z:bs.length=es.size)(key:∀j e,es[j]?=a7 e->e.key=.ref (bs.getD j 0)/\jP P w s.heap (bs.getD j 0) (ks.getD j []))(nd:ks.Nodup):pZ P w A (d.map a0n) (λi j=>HT.lexLt (ks.getD i [])<|ks.getD j []) s:=by
 have k:∀i,i<d.length->∃(e:DictEntry),es[i]?=a7 e/\s.heap.get? (d.getD i 0)=a7 {cls:=.type "tuple",data:=.seq #[.ref (bs.getD i 0),e.val]}/\jP P w s.heap (bs.getD i 0) (ks.getD i []):=λi g=>by
  have N:d[i]?=a7 (d.getD i 0):=by simp[a1H,g]
  obtain⟨e,u,q⟩:=p.prs i _ N;obtain⟨k1,B⟩:=key i e u;rw[k1]at q;exact⟨e,u,q,B⟩
 unfold pZ;have r:KatTups s.heap (d.map a0n) (bs.map a0n):=by
  have U:∀(n:Nat)(a c:List Addr),a.length=n->c.length=n->(∀i,i<n->∃v:Value,s.heap.get? (a.getD i 0)=a7 {cls:=.type "tuple",data:=.seq #[.ref (c.getD i 0),v]})->KatTups s.heap (a.map a0n) (c.map a0n):=by
   intro n;induction n with
   |zero=>intro a c l m _;rw[a2R.mp l,a2R.mp m];exact .nil|succ n ih=>
    intro a c l m L;match a,c,l,m with
    |x::a,y::c,l,m=>obtain⟨v,J⟩:=L 0 (by lia);refine .cons J rfl rfl (by simp) (ih a c (by simpa using l) (by simpa using m) λi g=>?_);have:=L (i+1) (by lia);simpa using this
  refine U d.length d bs rfl (by lia) λi g=>?_;obtain⟨e,_,q,_⟩:=k i g;exact⟨_,q⟩
 refine kat_kind (T:=.type "tuple") r (by rw[a0d];lia) (λv J=>?_) (by decide) ⟨rfl,λi j C g I X=>?_⟩
 .obtain⟨b,Y,rfl⟩:=a0u.mp J;obtain⟨i,g⟩:=a5T.mp Y;have G:i<d.length:=by have:=(a0f.mp g).1;lia
  obtain⟨e,_,_,B⟩:=k i G;have:bs.getD i 0=b:=by simp[a1H,g]
  rw[this]at B;obtain⟨xs,⟨o,o1,o2,_⟩,_⟩:=B.2;exact kitAt_ty _ _ ⟨o,o1,o2⟩
 .rw[a0d]at g I;obtain⟨e,u,q,M⟩:=k i g;obtain⟨e',K,O,Q⟩:=k j I;have R:(d.map a0n).getD i .none=.ref (d.getD i 0):=by simp[a1H,g]
  have T:(d.map a0n).getD j .none=.ref (d.getD j 0):=by simp[a1H,I]
  rw[R,T];refine Sx hu q O M Q (λz=>?_) X;have H:i=j:=by
   have l:ks.getD i []=ks[i]:=by simp[a1H,show i<ks.length by lia]
   have m:ks.getD j []=ks[j]:=by simp[a1H,show j<ks.length by lia]
   rw[l,m]at z;rcases a7e i j with h|h|h
   .exact absurd z<|(a3W.mp nd) i j (by lia) (by lia) h
   .exact h
   .exact absurd z.symm<|(a3W.mp nd) j i (by lia) (by lia) h
  subst H;rw[u]at K;cases K;rfl
theorem Fs(M:2<=us.length)(m:us.length<64)(g:s.heap.get? c=a7 (a2d "list" us.toArray z))(H:∀I,(∀b o,b≠c->s.heap.get? b=a7 o->I.get? b=a7 o)->pZ P w A us an {s with heap:=I})(q:R (.done<|.ret .none) {s with heap:=a7p s.heap c us ((cM an us.length).map λi=>us.getD i a1z).toArray}):a0A (a0L P w) A (Builtin.«list.sort» ⟨[.ref c],[]⟩) R E s:=by
 rw[b1C]
 refine a0b<|listItems_at g rfl<|a0b<|a7j g rfl ?_ (by rw[a0J,a0O];lia)<|a1U _
 obtain⟨y,B⟩:∃y,(s.heap.update c<|a2g λ_=>#[]).get? c=a7 (a2d "list" #[] y):=⟨_,b1E g _⟩
 refine a0b<|a8e B rfl<|a0b<|a8x (a0b<|a4l (a1q ?_)<|a1U _)<|by show us.length<=_;rw[a0O];lia
 have G:(((s.heap.update c<|a2g λ_=>#[]).push<|a2d "tuple" us.toArray 0).push<|a2d "list" #[] 0).get? c=a7 (a2d "list" #[] y):=
  a0e _<|a0e _ B
 have l:=H (((s.heap.update c<|a2g λ_=>#[]).push<|a2d "tuple" us.toArray 0).push<|a2d "list" #[] 0) λb o O e=>a0e _<|a0e _<|(a1Q _ _<|a1j O).trans e
 show a0A (a0L P w) A _ R E ⟨((s.heap.update c<|a2g λ_=>#[]).push<|a2d "tuple" us.toArray 0).push<|a2d "list" #[] 0,s.gens,s.drawn,s.toks,s.os⟩
 dsimp only
 have h:¬ us.toArray.size<2:=by rw[a0J];lia
 rw[if_neg h,if_neg h]
 refine a0b<|a1R l (λX k n=>?_) λ_ _ x=>x.elim
 obtain⟨rfl,n⟩:=n
 refine a0b<|a1R (kat_run (ks:=us) (vs:=us) (κ:=X) (Q:=λa k=>k={s with heap:=((s.heap.update c<|a2g λ_=>#[]).push<|a2d "tuple" us.toArray 0).push<|a2d "list" #[] 0}/\failedOf a=b0/\(arrOf a).map (·.2)=((cM an us.length).map λi=>us.getD i a1z).toArray)
  (G:=λp k=>k={s with heap:=((s.heap.update c<|a2g λ_=>#[]).push<|a2d "tuple" us.toArray 0).push<|a2d "list" #[] 0}/\p.toList=cM an us.length) rfl M m (λp a k Y K L v=>⟨v.1,L,by rw[kat_snds rfl K,v.2]⟩)
 <|zY (n:=us.length) (ans:=an) (λi j C Q T N=>n i j C Q T N) (z8<|by lia) ⟨rfl,rfl⟩) (λr k U=>?_) λ_ _ e=>e
 obtain⟨⟨⟩,a⟩:=r
 obtain⟨rfl,J,d⟩:=U
 dsimp only at J d ⊢
 rw[d]
 have u:((cM an us.length).map λi=>us.getD i a1z).length=us.length:=by
  rw[a0d,(pR an (n:=us.length)<|by lia).length_eq,a6R]
 refine a0b<|a8e G rfl<|a0b<|a7j G rfl ?_ (hsz2:=by rw[a0J,u,a0O];lia)
 rw[J]
 simp only[bne_self_eq_false,a0t,if_false]
 exact a0h q
theorem Sz(M:A.handled=b0)(N:s.heap.IsItemsView r d)(g:RawD s.heap d es ep)(I:es.size<64)(H:2<=es.size->∀j tk c,(∀b o,s.heap.get? b=a7 o->j.get? b=a7 o)->c.length=es.size->PrsAt es s.heap.objs.size j c->pZ P w A.in1.in1 (c.map a0n) an {s with heap:=j,toks:=tk})(q:∀j tk c(L e:Nat),(∀b o,s.heap.get? b=a7 o->j.get? b=a7 o)->c.length=es.size->PrsAt es s.heap.objs.size j c->s.heap.objs.size<=L->(∀a∈c,a≠L)->j.get? L=a7 (a2d "list" ((cM an es.size).map λi=>a0n<|c.getD i 0).toArray e)->Q (.ref L) {s with heap:=j,toks:=tk}):
  a0A (a0L P w) A (call (.builtin "sorted") [.ref r]) Q E s:=by
 refine a5h b0p a9C a9H (a9I _) ?_
 unfold a6D
 refine a0b (m:=b0K "sorted" 1 1 _)<|a0h<|a0b<|Sv (A:=A.in1) M N g (by rw[a0O];lia) λh tk c B p y m=>?_
 have G:(c.map a0n).length=es.size:=by rw[a0d,p]
 refine a0b<|a4l ?_<|by rw[G,a0O];lia
 have l:(h.push<|a2d "list" (c.map a0n).toArray 0).get? h.objs.size=a7 (a2d "list" (c.map a0n).toArray 0):=a0o _ rfl
 have fin:∀k:gq,k=((cM an es.size).map λi=>a0n<|c.getD i 0)->Q (.ref h.objs.size) {s with heap:=a7p (h.push<|a2d "list" (c.map a0n).toArray 0) h.objs.size (c.map a0n) k.toArray,toks:=tk}:=by
  rintro k rfl
  obtain⟨e,K⟩:=sortedHeap_at (h:=h.push (a2d "list" (c.map a0n).toArray 0)) (out:=((cM an es.size).map λi=>a0n<|c.getD i 0).toArray) l
  have n:∀b o,h.get? b=a7 o->(a7p (h.push<|a2d "list" (c.map a0n).toArray 0) h.objs.size (c.map a0n) ((cM an es.size).map λi=>a0n<|c.getD i 0).toArray).get? b=a7 o:=λb o x=>by
   rw[b2j (a0y<|a0m x)<|by rw[a3c];exact a4t<|a0m x]
   exact a0e _ x
  exact q _ tk c h.objs.size e (λb o x=>n b o<|B b o x) p (y.stay λb o _ x=>n b o x) m (λa J=>a0y<|y.lt J) K
 by_cases u:2<=es.size
 .refine a0b<|a1q<|a2k a5w (s:={s with heap:=h.push<|a2d "list" (c.map a0n).toArray 0,toks:=tk}) ⟨_,l,rfl⟩ a5c (Fs (an:=an) (by lia) (by lia) l (λj z=>?_) ⟨_,rfl,?_⟩)<|a5z _
  .exact H u j tk c (λb o e=>z b o (a0y<|a0V (a0m e) m)<|a0e _<|B b o e) p<|y.stay λb o O e=>z b o (a0y<|a0m e)<|a0e _ e
  .refine a0h ⟨_,rfl,fin _ ?_⟩
   rw[G]
   refine a1v λi v=>?_
   have v:i<c.length:=by
    have:=a2u.mp<|(pS an es.size).mem_iff.mp v
    lia
   simp[a1H,v]
 .refine a0b<|a1q<|a2k a5w (s:={s with heap:=h.push<|a2d "list" (c.map a0n).toArray 0,toks:=tk}) ⟨_,l,rfl⟩ a5c (Aa (by lia) l ⟨_,rfl,?_⟩)<|a5z _
  refine a0h ⟨_,rfl,fin (c.map a0n) ?_⟩
  match c,p with
  |[],e=>rw[<- e];show[]=(cM _ 0).map _;rw[Ac];rfl
  |[b],e=>rw[<- e];show[a0n b]=(cM _ 1).map _;rw[Ab];rfl
  |_::_::_,e=>rw[<- e]at u;simp at u
end L3
namespace L3
open PySem L2
theorem SA:a6k (.type "list") "keys"=pure none:=by rw[a6t,a4G];kernel_rfl
theorem SD(g:s.heap.get? a=a7 o)(j:o.cls=.type "list")(l:o.data=.seq xs k)(m:o.dict=b0)(hA:A.handled=b0)(q:∀h n,(∀b u,s.heap.get? b=a7 u->h.get? b=a7 u)->Q b0 {s with heap:=h,toks:=n}):a0A (a0L P w) A (b0q (.ref a) "keys") Q E s:=by
 obtain⟨c,r,p,B⟩:=o;dsimp only at j l m;subst j l m;obtain⟨y,x,v,n,z⟩:=s;have ty:∀d,(⟨y,x,v,d,z⟩:a0i).TypeIs (.ref a) "list":=λ_=>⟨_,g,rfl⟩;have G:=b0H;have H:=F.slot_list_getattribute.lookup;have I:=F.slot_list_getattribute.bind<|.ref a;have J:=am_list_getattr_none;unfold b0q getAttrBy? getAttrBy;repeat (any_goals (first|assumption|exact ty _|((with_reducible show a0A _ _ (call (a1G "list.__getattribute__") _ _) _ _ _);refine a6m F.slot_list_getattribute (ty _) am_entry_list_getattribute (F.args_list_getattribute_2 _ _) (meets_getattribute_miss_list a xs k B "keys" _ SA<|by decide +kernel) ⟨g,hA,λh d e ne=>?_⟩)|wp_step))
 obtain⟨K,L,i⟩:=ne.there;show a0A _ _ (a5x _ _ _ _ b0 b3 b3) _ _ _;unfold a5x;repeat (any_goals (first|assumption|wp_step))
 exact q _ _ ne.of.keeps
theorem SE{σ:St}(hh:A.handled=b0)(hu:A.in1.units<a2e)(ld:l≠d)(li:l≠it):∀L i(ps:bN)H s,Inv X b2w σ H s->H d=a7 (aM d ps)->dG X.K H ps->s.heap.IsList l items->items.toList.drop i=L.map (λr=>a0n r.1)->
  (∀r∈L,(∃u,RelV r.2.2.2 u/\a3M s.heap r.1 #[.ref r.2.2.1,u])/\SqT X.K H r.2.2.1 (r.2.1.map V.int)/\r.1≠d/\r.1≠it)->fZ X b2w H it->s.heap.IsListIter it l i->ps.length+L.length<=a0s->
  (∀j,Inv X b2w σ (aK H d<|aM d<|gJ ps L) j->R (.ok<|.ret .none) j)->a3q (a0L X.prog X.w) A (.builtin "dict.update.loop" ⟨[.ref d,.ref it,a3P i,.none],[]⟩) R s:=by
 intro L;induction L with
 |nil=>
  intro i ps H s I e M y hd O K st T q;obtain⟨g,k,f2,m,n,v⟩:=K;have h:items.size<=i:=by have:=congrArg a1n hd;simp at this;lia
  refine a2A vW ?_;rw[a1P mP _];show a0A _ A.in1 (a3C (.ref it) >>= _) _ _ s;refine a0b<|a6y hh st y (a4n h) λw eb=>?_;have E:Inv X b2w σ H {s with heap:=w}:=I.turned (t':=s.toks) (λb o G e=>eb b o G e) g k m n v;show a0A _ _ (a6W d [] >>= _) _ _ _;refine a0b<|a0h<|a0h<|q _ ?_;have:aK H d (aM d<|gJ ps [])=H:=by
   funext b;unfold aK;split
   .rename_i z;rw[z];exact e.symm
   .rfl
  rw[this];exact E
 |cons r L ih=>
  intro i ps H s I e M y hd O K st T q;obtain⟨g,k,f2,m,n,v⟩:=id K;have Q:items[i]?=a7 (.ref r.1):=by have:=congrArg (·[0]?) hd;simpa using this
  refine a2A vW ?_;rw[a1P mP _];show a0A _ A.in1 (a3C (.ref it) >>= _) _ _ s;refine a0b<|a6i st y Q λw st' B=>?_;have E:Inv X b2w σ H {s with heap:=w}:=I.turned (t':=s.toks) (λb o G e=>(B.2 b G).trans e) g k m n v;obtain⟨⟨u,ru,t0⟩,sq,r1,r2⟩:=O r<|a0P ..;have t1:a3M ({s with heap:=w}:a0i).heap r.1 #[.ref r.2.2.1,u]:=let⟨o,o1,o2⟩:=t0;⟨o,B.extBut _ o r2 o1,o2⟩;refine a0b<|a1q<|a0b<|a3Y<|Fj t1 ?_;have N:ps.length<a0s:=by rw[a0Q]at T;lia
  refine a1q<|Au hu E e M sq N ru λj I2 U=>?_;refine a0h ⟨a2o mP _,?_⟩;have bH:it≠d:=λz=>by rw[<- z,g]at e;cases e
  have a:∀x∈L,(∃u,RelV x.2.2.2 u/\a3M j.heap x.1 #[.ref x.2.2.1,u])/\SqT X.K (aK H d<|aM d<|dO ps r.2.1 r.2.2.1 r.2.2.2) x.2.2.1 (x.2.1.map V.int)/\x.1≠d/\x.1≠it:=λx Q=>by obtain⟨⟨u',Y,⟨o,o1,o2⟩⟩,sq',x1,x2⟩:=O x<|a0F _ Q;exact⟨⟨u',Y,o,U _ o x1<|B.extBut _ o x2 o1,o2⟩,mQ e sq',x1,x2⟩
  have J:items.toList.drop (i+1)=L.map (λr=>a0n r.1):=by have:=congrArg b2u hd;simpa[b0y]using this
  refine ih (i+1) (dO ps r.2.1 r.2.2.1 r.2.2.2) _ j I2 cP (Fi (λp hp=>mQ e<|M p hp)<|mQ e sq) ?_ J a ⟨by rw[a9 bH];exact g,k,f2,m,n,v⟩ (st'.at λo ho=>U it o bH ho) ?_ λZ c=>q Z ?_
  .obtain⟨o,o1,o2⟩:=y;exact⟨o,U l o ld<|B.extBut l o li o1,o2⟩
  .have:=r6 ps r.2.1 r.2.2.1 r.2.2.2;rw[a0Q]at T;lia
  .rw[vX]at c;exact c
theorem Ft:∀L ps,(ps.map (·.1)++L.map (·.2.1)).Nodup->gJ ps L=ps++L.map (·.2)
 |[],ps,_=>by simp[gJ]
 |r::L,ps,h=>by
  have d:r.2.1∉ps.map (·.1):=λz=>by rw[a0r]at h;exact(a3n.mp h).2.2 _ z _ (a0P ..) rfl
  have e:dO ps r.2.1 r.2.2.1 r.2.2.2=ps++[r.2]:=by unfold dO;rw[if_neg];intro z;obtain⟨v,c⟩:=a7Q.mp z;unfold dY at c;obtain⟨p,a,_⟩:=a0g.mp c;have b:=a5Q a;simp only[decide_eq_true_eq]at b;exact d<|a0u.mpr ⟨p,a2K a,b⟩
  show gJ (dO ps r.2.1 r.2.2.1 r.2.2.2) L=_;rw[e,Ft L _<|by simpa using h];simp
theorem SF{σ:St}(hc:X.calm=b5)(O:X.A.units+64<a2e)(I:Inv X b2w σ H s)(w:s.heap.get? l=a7 {cls:=.type "list",data:=.seq (L.map λr=>a0n r.1).toArray e})(K:L.length<=a0s)(N:∀r∈L,(∃u,RelV r.2.2.2 u/\a3M s.heap r.1 #[.ref r.2.2.1,u])/\SqT X.K H r.2.2.1 (r.2.1.map V.int))(k:∀d,H d=b0->Q (.ref d) (aK H d<|aM d<|gJ [] L)):
  a0A (a0L X.prog X.w) X.A (call (.type "dict") [.ref l]) (EP X b2w σ Q) X.xe s:=by
 have E:H s.heap.objs.size=none:=I.hok.fresh<|a0l _;refine a6K (Q₁:=λh a=>h=.ref s.heap.objs.size/\a={s with heap:=s.heap.push {cls:=.type "dict",data:=.dict #[]}}) F.kt_called_dict (F.kt_typeCall_dict_1 _) F.entry_dict_init (a7U _ ⟨rfl,rfl⟩) ?_;rintro h a ⟨rfl,rfl⟩;have G:Inv X b2w σ (aK H s.heap.objs.size<|aM s.heap.objs.size []) {s with heap:=s.heap.push {cls:=.type "dict",data:=.dict #[]}}:=I.laid (a:=s.heap.objs.size) (o:=aM s.heap.objs.size []) (t':=s.toks) (λ_ _ q=>a0e _ q) (a0l _)<|vQ s.heap I.big;have ty:({s with heap:=s.heap.push {cls:=.type "dict",data:=.dict #[]}}:a0i).TypeIs (.ref s.heap.objs.size) "dict":=⟨_,a0o _ rfl,rfl⟩;refine⟨ty,F.args_dict_init_2 _ _,?_⟩;unfold Builtin.«dict.__init__»;refine a0b ?_;unfold a4L;refine a0b<|a2O ty ?_;show a0A _ _ (pure (s.heap.objs.size,[a0n l])) _ _ _;refine a0h ?_;show a0A _ _ (a2M "dict.__init__" s.heap.objs.size (.ref l) [] .none) _ _ _;unfold a2M;have mono:∀{b:Addr}{vs:gw},SqT X.K H b vs->SqT X.K (aK H s.heap.objs.size<|aM s.heap.objs.size []) b vs:=λ{b vs} z=>by
  have ne:H b≠b0->b≠s.heap.objs.size:=λf y=>by rw[y]at f;exact f E
  rcases z with(z|⟨R,z⟩)|z
  .exact .inl<|.inl<|by rw[a9<|ne<|by rw[z];exact λy=>nomatch y];exact z
  .exact .inl<|.inr ⟨R,by rw[a9<|ne<|by rw[z];exact λy=>nomatch y];exact z⟩
  .exact .inr z
 have v:=a0e {cls:=.type "dict",data:=.dict #[]} w;refine a0b<|a5m (T:="list") ⟨_,v,rfl⟩ ?_;rw[if_pos<|by decide];refine a0b<|SD v rfl rfl rfl (I.ok.hd hc) λi m j=>?_;have n:Inv X b2w σ (aK H s.heap.objs.size<|aM s.heap.objs.size []) {s with heap:=i,toks:=m}:=G.kept (t':=m) j;show a0A _ _ (rule _ >>= _) _ _ _;refine a0b<|a3Z ?_;have c:({s with heap:=i,toks:=m}:a0i).heap.IsList l (L.map λr=>a0n r.1).toArray:=⟨_,j _ _ v,rfl,_,rfl⟩;refine a0b<|a3Q c ?_;have J:=n.kept (t':=m) (h':=i.push {cls:=.type "list_iterator",data:=.fields #[.ref l,.int 0 0]}) λb o e=>a0e _ e;refine a0h ⟨a2o mP _,?_⟩;have g:∀{b:Addr}{o:Obj},s.heap.get? b=a7 o->b≠s.heap.objs.size:=λx=>a0y<|a0m x;have qG:∀{b:Addr}{o:Obj},s.heap.get? b=a7 o->b≠i.objs.size:=λx=>a0y<|a0m<|j _ _<|a0e _ x;refine SE (A:=X.A.in1) (items:=(L.map λr=>a0n r.1).toArray) (I.ok.hd hc) (by show X.A.units+1+1<a2e;lia) (g w) (qG w) L 0 [] _ _ J cP (λp M=>nomatch M) (let⟨o,o1,o2⟩:=c;⟨o,a0e _ o1,o2⟩) (by simp) (λr A=>?_) (n.fpOk (a0l _)<|n.hok.fresh<|a0l _) ⟨_,a0o _ rfl,rfl,rfl⟩ (by simpa using K) λU B=>?_
 .obtain⟨⟨u,T,o,o1,o2⟩,sq⟩:=N r A;exact⟨⟨u,T,o,a0e _<|j _ _<|a0e _ o1,o2⟩,mono sq,g o1,qG o1⟩
 .rw[vX]at B;exact⟨rfl,.ref s.heap.objs.size,_,B,rfl,k _ E⟩
noncomputable def fQ(ps:bN):bN:=(cM (λi j=>HT.lexLt ((ps.map (·.1)).getD i [])<|(ps.map (·.1)).getD j []) ps.length).map λi=>ps.getD i ([],0,.non)
theorem sortT_perm:(fQ ps).Perm ps:=by
 unfold fQ;have p:=(pS (λi j=>HT.lexLt ((ps.map (·.1)).getD i [])<|(ps.map (·.1)).getD j []) ps.length).map λi=>ps.getD i ([],0,.non);have e:(a1o ps.length).map (λi=>ps.getD i ([],0,.non))=ps:=by refine b0f (by simp) λi b a=>?_;simp[a1H,a]
 rw[e]at p;exact p
theorem SG{σ:St}(hc:X.calm=b5)(R:X.A.units+64<a2e)(I:Inv X b2w σ H s){ps:bN}(e:H d=a7 (aM d ps))(M:dG X.K H ps)(h2:2<=ps.length)(h64:ps.length<64)(hv:s.heap.IsItemsView r d)(k:∀l,H l=b0->Q (.ref l) (aK H l<|aM l<|fQ ps)):
  a0A (a0L X.prog X.w) X.A (call (.builtin "sorted") [.ref r]) (λv s'=>a0A (a0L X.prog X.w) X.A (call (.type "dict") [v]) (EP X b2w σ Q) X.xe s') X.xe s:=by
 obtain⟨lo,hl,E,rv,z,es,ep,z1,z2,z3,z4,z5,z6⟩:=kK I (.of e) M;have T:E.length=ps.length:=by have:=rv.length;rw[a0d]at this;exact this.symm
 have U:(bY ps E).length=ps.length:=by unfold bY;rw[List.length_zipWith,T,Nat.min_self]
 have g:es.size=ps.length:=by rw[<- a2p,z4,a0d,U]
 have nd:(ps.map (·.1)).Nodup:=by rw[n5 rv]at z6;exact z6
 have q:∀(j:Nat)(a:DictEntry),es[j]?=a7 a->∃p u,ps[j]?=a7 p/\E[j]?=a7 u/\a.key=.ref p.2.1/\a.val=u:=λj a h=>by
  rw[<- a1y,z4,a0v]at h;obtain⟨x,b,rfl⟩:=a0g.mp h;unfold bY at b;rw[a8J]at b;cases O:ps[j]? with
  |none=>rw[O]at b;simp at b|some p=>
   cases hw:E[j]? with
   |none=>rw[O,hw]at b;simp at b|some u=>
    rw[O,hw]at b;have:(p.1,p.2.1,u)=x:=by simpa using b
    subst this;exact⟨p,u,rfl,rfl,rfl,rfl⟩
 refine Sz (an:=λi j=>HT.lexLt ((ps.map (·.1)).getD i [])<|(ps.map (·.1)).getD j []) (I.ok.hd hc) hv ⟨z,z1,z2,z3⟩ (by lia) (λh22 B o n Y al pr=>?_) λB o n L a Y al pr hL nL G=>?_
 .have A:Inv X b2w σ H {s with heap:=B,toks:=o}:=I.kept (t':=o) Y;refine Sy (A:=X.A.in1.in1) (s:={s with heap:=B,toks:=o}) (bs:=ps.map (·.2.1)) (ks:=ps.map (·.1)) (by show X.A.units+1+1<a2e;lia) pr (by lia) al (by rw[a0d,g]) (by rw[a0d,g]) (λj a hj=>?_) nd;obtain⟨p,u,c,p2,Z,p4⟩:=q j a hj;have hjl:j<ps.length:=(a0f.mp c).1;have eb:(ps.map (·.2.1)).getD j 0=p.2.1:=by simp[a1H,c]
  have ek:(ps.map (·.1)).getD j []=p.1:=by simp[a1H,c]
  rw[eb,ek];have sq:=M p<|a0S c;refine⟨Z,kH A sq,?_⟩;obtain⟨xs,rx,t,_⟩:=A.tuple sq;exact⟨xs,t,Eu rx⟩
 .have A:Inv X b2w σ H {s with heap:=B,toks:=o}:=I.kept (t':=o) Y;rw[g]at G;have m:=(pR (λi j=>HT.lexLt ((ps.map (·.1)).getD i [])<|(ps.map (·.1)).getD j []) (n:=ps.length)<|by lia);have w:∀i∈cM (λi j=>HT.lexLt ((ps.map (·.1)).getD i [])<|(ps.map (·.1)).getD j []) ps.length,i<ps.length:=λi J=>a2u.mp<|m.mem_iff.mp J;generalize hix:cM (λi j=>HT.lexLt ((ps.map (·.1)).getD i [])<|(ps.map (·.1)).getD j []) ps.length=ix at G m w;have y:fQ ps=ix.map λi=>ps.getD i ([],0,.non):=by unfold fQ;rw[hix]
  refine SF hc R A (L:=ix.map λi=>(n.getD i 0,ps.getD i ([],0,.non))) (e:=a) ?_ (by rw[a0d,m.length_eq,a6R];exact hl) (λr hr=>?_) λl N=>?_
  .rw[a0x];exact G
  .obtain⟨i,J,rfl⟩:=a0u.mp hr;have hi':=w i J;have K:n[i]?=a7 (n.getD i 0):=by simp[a1H,show i<n.length by lia]
   obtain⟨x,x1,x2⟩:=pr.prs i _ K;obtain⟨p,u,c,p2,Z,p4⟩:=q i x x1;have ep:ps.getD i ([],0,.non)=p:=by simp[a1H,c]
   dsimp only;rw[ep];obtain⟨u',g1,g2⟩:=rv.get (i:=i) (x:=p.2.2) (by rw[a0v,c];rfl);rw[p2]at g1;cases g1;rw[Z,p4]at x2;exact⟨⟨u,g2,_,x2,rfl,_,rfl⟩,M p<|a0S c⟩
  .have hf:gJ [] (ix.map λi=>(n.getD i 0,ps.getD i ([],0,.non)))=fQ ps:=by
    rw[Ft _ [] ?_,a1h,a0x,y]
    .rfl
    .rw[a3S,a1h,a0x];have pm:=(sortT_perm (ps:=ps)).map (·.1);rw[y,a0x]at pm;exact pm.nodup_iff.mpr nd
   rw[hf];exact k l N
theorem Fu d(hd:(d==a1W)=b3):b1f P w (Builtin.«dict.items» ⟨[.ref d],[]⟩) (λ_ R s=>(∃es ep,RawD s.heap d es ep) /\
   R (.ok<|.ret<|.ref s.heap.objs.size) {s with heap:=s.heap.push {cls:=.type "dict_items",data:=.fields #[.ref d]}}):=
 .of_wp λA R s ⟨⟨es,ep,g⟩,h⟩=>by unfold Builtin.«dict.items»;refine a0b ?_;unfold a5E;refine a0b<|a2O g.ty ?_;show a0A _ _ (pure d) _ _ s;refine a0h ?_;show a0A _ _ (a2C d >>= _) _ _ s;unfold a2C;rw[if_neg<|by rw[hd];exact a0K];refine a0b<|a0h ?_;exact a0b<|a1K<|a0h ⟨_,rfl,h⟩
noncomputable def Fv(K:a0c):V->gw->Hp->VK->Prop:=λx _ H Q=>∃a ps,x=.ref a/\H a=a7 (aM a ps)/\dG K H ps/\2<=ps.length/\ps.length<64/\∀l,H l=b0->Q (.ref l) (aK H l<|aM l<|fQ ps)
theorem SJ(hc:X.calm=b5)(w:X.A.units+64<a2e)(r:X.mg "sorted"=b0)(u:X.mg "dict"=b0)(m:Gl X "sorted")(n:Gl X "dict")(R:PE X o to)(c:a2Q o "items" X.env (eval o X.env)=eval o X.env)(d:(apos.endLine==cpos.line)=b5):
  PE X (.Call (.Name "dict" p) [.Call (.Name "sorted" p2) [.Call (.Attribute o "items" apos) [] [] cpos] [] pos2] [] pos) (λj H Q=>to j H λx k=>Fv X.K x [] k Q):=by
 intro i s j H Q I h;refine a2n<|gW I n u a3u ?_;refine a1M ?_ rfl rfl;refine a4W ?_;refine a2n<|gW I m r a4i ?_;refine a6a ?_ rfl rfl;refine a4W ?_;refine a4v c d<|aP (R i s j H _ I h) λv y ⟨x,k,A,Y,a,ps,L,e,B,O,l,q⟩=>?_;subst L;obtain rfl:v=a0n a:=Y;obtain⟨U,hl,K,J,g,Z⟩:=n8 A e B;refine⟨"dict","dict.items",a4c,a4b,a7N,g.ty,λb G=>?_,a2V rfl<|a4H ?_⟩
 .cases G;obtain⟨z,M,N,_⟩:=g;exact⟨z,M,N.2.1⟩
 refine a5n a4b g.ty a7G (a7u _) (Fu a U) ⟨⟨K,J,g⟩,?_⟩;refine a5l ?_;have E:Inv X i j k {y with heap:=y.heap.push {cls:=.type "dict_items",data:=.fields #[.ref a]}}:=A.kept (t':=y.toks) λb o e=>a0e _ e;refine aP (SG hc w E e B O l ⟨_,a0o _ rfl,rfl,rfl⟩ q) λv s' T=>a5l T
noncomputable def jQ(kvs:jx):jx:=(cM (λi j=>HT.lexLt ((kvs.map (·.1)).getD i [])<|(kvs.map (·.1)).getD j []) kvs.length).map λi=>kvs.getD i ([],.non)
noncomputable def qA:D->Hm->jk
 |.loc a,μ=>match μ[a]? with
  |some (.dT kvs)=>if 2<=kvs.length/\kvs.length<64 then a7 (.loc μ.length,μ++[.dT<|jQ kvs])else b0|_=>b0
 |_,_=>b0
noncomputable def qB(m:ME):ME:=λa μ=>(m a μ).bind λr=>qA r.1 r.2
theorem SK{R:c->d->Prop}{a:List c}{bs:List d}(h:a5d R a bs)g j:∀i,i<a.length->R (a.getD i g) (bs.getD i j):=by
 induction h with
 |nil=>exact λi b=>nomatch b|cons e t k=>
  intro i b;cases i with
  |zero=>exact e|succ i=>exact k i<|by simpa using b
theorem Fw{R:a->b->Prop}{f:Nat->a}{g:Nat->b}:∀{l:List Nat},(∀i∈l,R (f i) (g i))->a5d R (l.map f) (l.map g)
 |[],_=>.nil|i::l,h=>.cons (h i<|a0P ..)<|Fw λj c=>h j<|a0F _ c
theorem Fx(h:IsTs K π n H ps kvs):ps.length=kvs.length/\IsTs K π n H (fQ ps) (jQ kvs):=by
 have a:=h.to.1;have b:ps.length=kvs.length:=by have:=congrArg a1n a;simpa using this
 refine⟨b,?_⟩;unfold fQ jQ;rw[a,b];refine Fw λi c=>SK h _ _ i ?_;have:=a2u.mp<|(pS _ kvs.length).mem_iff.mp c;lia
theorem SM:∀σ H Q,tM K (qB i) σ H Q->tM K i σ H λx g=>Fv K x [] g Q:=by
 rintro σ H Q ⟨y,A,v,d,w,R,E,a,k⟩;obtain⟨⟨x,e⟩,q,a⟩:=a0a.mp a;refine⟨y,A,v,x,e,R,E,q,λz J g n h s=>?_⟩;have u:=k.after n;dsimp only at a;unfold qA at a;split at a
 .split at a
  .rename_i c hc;split at a
   .rename_i G;cases a;cases s;obtain⟨j,o,T⟩:=fP h hc;obtain⟨B,b⟩:=Fx T;refine⟨_,j,rfl,o,T.keys,by lia,by lia,λl r=>?_⟩;obtain⟨p,m,I⟩:=h.alloc (c:=.dT (jQ c)) (o:=aM l (fQ j)) r ⟨_,rfl,b.to.1,b.to.2.1,b.to.2.2⟩;exact u _ _ _ p m gC
   .cases a
  .cases a
 .cases a
theorem SN(hc:X.calm=b5)(i:X.A.units+64<a2e)(g:X.mg "sorted"=b0)(h:X.mg "dict"=b0)(d:Gl X "sorted")(e:Gl X "dict")(l:QE X o j)(m:d7 o=b5)(k:(a.endLine==b.line)=b5):
  QE X (.Call (.Name "dict" p) [.Call (.Name "sorted" n) [.Call (.Attribute o "items" a) [] [] b] [] c] [] pos) (qB j):=
 ⟨cT (SJ hc i g h d e l.h (iS m) k) SM⟩
noncomputable def qC(mk mv:ME):ME:=λa μ=>(mk a<|μ++[.dT []]).bind λp=>(mv a p.2).bind λq=>match q.2[μ.length]? with
 |some (.dT [])=>(c5 p.1).map λk=>(.loc μ.length,q.2.set μ.length<|.dT [(k,q.1)])|_=>b0
noncomputable def SO(K:a0c)(tk tv:TE):TE:=λσ H Q=>∀p,H p=b0->tk σ (aK H p<|aM p []) λx d=>tv σ d λy a=>a p=a7 (aM p [])/\∃b c,x=.ref b/\SqT K a b (c.map V.int)/\Q (.ref p) (aK a p<|aM p [(c,b,y)])
theorem SQ(K:X.A.units+1<a2e)(n:PE X k tk)(w:PE X v tv):PE X (.Dict [a7 k] [v] pos) (SO X.K tk tv):=by intro a s c H Q I q;have o:=I.hok.fresh<|a0l s.heap.objs.size;have h:=I.laid (a:=s.heap.objs.size) (o:=aM s.heap.objs.size []) (h':=s.heap.push {cls:=.type "dict",data:=.dict #[]}) (t':=s.toks) (λ_ _ q=>a0e _ q) (a0l _)<|vQ s.heap I.big;refine wpAny_Dict_any rfl rfl (by simp) (by simp)<|pairTrees_cons_walk<|aP (n a _ c _ _ h<|q _ o) λu G ⟨x,d,i,B,z⟩=>aP (w a G c d _ i z) λO N ⟨y,J,j,E,e,b,L,l,m,A⟩=>pairTrees_nil_walk ?_;subst l;obtain rfl:u=a0n b:=B;unfold storeAll;refine a0b (a0b<|Au (by lia) j e (λp r=>nomatch r) m (by rw[a0O];simp) E λM g _=>a0h<|a0h ?_);exact⟨.ref s.heap.objs.size,_,g,rfl,A⟩
theorem SR(Z:Room n X.A)(U:QE X k mk)(hv:QE X v mv):QE X (.Dict [a7 k] [v] pos) (qC mk mv):=⟨cT (SQ (fF Z) U.h hv.h)<|by
 rintro σ H Q ⟨π,K,h,d,μ',R,E,a,kc⟩ p Y;obtain⟨⟨x,c⟩,N,a⟩:=a0a.mp a;obtain⟨⟨y,e⟩,O,a⟩:=a0a.mp a;obtain⟨q,M,q1⟩:=R.alloc (c:=.dT []) (o:=aM p []) Y ⟨[],rfl,rfl,.nil,.nil⟩;refine⟨_,K,_,x,c,M,E.mono q,N,λz v1 H1 m R2 i1=>⟨z,K,c,y,e,R2,(E.mono q).mono m,O,λg J L r A i2=>?_⟩⟩;dsimp only at a;split at a
 .rename_i hc;obtain⟨l,u,a⟩:=a0g.mp a;cases a;have i:h.length<e.length:=(a0f.mp hc).1;have w:(h++[C.dT []]).length<=c.length:=m.le;have j:g h.length=p:=by rw[r.pi h.length<|by simp at w;lia,m.pi h.length<|by simp,q1]
  obtain⟨ps,s,T⟩:=fP A hc;cases T;obtain⟨b,rfl,I⟩:=jN (i1.mono r) u;obtain⟨G,B⟩:=A.put (a:=h.length) (c:=.dT [(l,y)]) (o:=aM _ [(l,b,J)]) i s (.inr<|.inr ⟨_,rfl⟩)<|by
   have o:IsTs X.K g e.length L [(l,b,J)] [(l,y)]:=.cons ⟨rfl,I,i2⟩ .nil;exact⟨_,rfl,o.to.1,o.to.2.1,o.to.2.2⟩
  rw[j]at s G B;refine⟨s,b,l,rfl,I,kc g _ _ (((q.trans m).trans r).trans G) B ?_⟩;rw[<- j];exact .loc<|by rw[a1d];exact i
 .cases a⟩
theorem Inv.freeze{σ:St}{ps:bN}(I:Inv X b2w σ H s)(e:H a=a7 (aM a ps))(c:s.heap.get? a=a7 ob):Inv X b2w σ (aK H a<|.frz ob<|aM a ps) s:=by have ok:ObjOk X.prog X.w H s.heap a (aM a ps):=I.hok a _ e;exact I.write (x:=a) (e:=a) (h':=s.heap) (t':=s.toks) (by rw[e];exact a3v) (.inl rfl) (λb q _ z=>z) ⟨ob,c⟩ ⟨c,ok⟩
theorem Inv.thaw{σ σ0:St}{ps ps0:bN}(m:Inv X pins0 σ0 H0 s0)(n:H0 a=a7 (aM a ps0))(I:Inv X b2w σ H s)(e:H a=a7 (.frz ob<|aM a ps)):Inv X b2w σ (aK H a<|aM a ps) s:=by
 have ne:∀{b:Addr},H b=b0->b≠a:=λ{b} h z=>by rw[z,e]at h;cases h
 refine⟨I.ok,I.os,I.bare,⟨I.base.keep,I.base.slot,λb o d g i=>?_,I.base.there,λb k h=>?_,λb o u h=>?_,λb v h=>?_⟩,I.loc,I.cell,?_,λx c h=>?_,λp r=>?_,λb u q=>?_,I.len⟩
 .have:=I.base.free b o d g i;rw[a9<|ne this];exact this
 .have:=I.base.tups b k h;rw[a9 λz=>by rw[z,e]at this;cases this];exact this
 .have:=I.base.frzs b o u h;rw[a9 λz=>by
   have l:=m.base.frzs b o u h;rw[z,n]at l;cases l]
  exact this
 .obtain⟨more,d⟩:=I.base.tbls b v h;exact⟨more,by rw[a9 λz=>by rw[z,e]at d;cases d];exact d⟩
 .rw[a9<|ne I.free];exact I.free
 .have:=I.freeC x c h;rw[a9<|ne this];exact this
 .obtain⟨d,g,i⟩:=I.pin p r;exact⟨d,by rw[a9<|ne g];exact g,i⟩
 .by_cases j:b=a
  .subst j;rw[cP]at q;cases q;exact(show ObjOk X.prog X.w H s.heap b (.frz ob<|aM b ps)from I.hok b _ e).2
  .rw[a9 j]at q;exact(I.hok b u q).stay (λ_ _ _ z=>z) (λc h=>by rw[a9 λz=>by rw[z,e]at h;cases h];exact h) λc k h=>by rw[a9 λz=>by rw[z,e]at h;cases h];exact h
noncomputable def sE(i:Nat)(a:aG):Option D:=if i<1000 then(a[i]?).bind id else match a[i/1000-1]? with
 |some (a7<|.tup ds)=>ds[i%1000]?|_=>b0
noncomputable def qD(i:Nat)(b:aG)(μ:Hm):Option (Nat×jx):=match sE i b with
 |some (.loc a)=>match μ[a]? with
  |some (.dT kvs)=>a7 (a,kvs)|_=>b0
 |_=>b0
theorem Fy(h:qD i b μ=a7 (a,kvs)):μ[a]?=a7 (.dT kvs):=by
 unfold qD at h;split at h
 .split at h
  .rename_i hc;cases h;exact hc
  .cases h
 .cases h
noncomputable def Ax(i:Nat)(c d:ME):ME:=λb μ=>match qD i b μ with
 |some (a,kvs)=>(c b<|μ.set a<|.dF kvs).bind λr=>match r.2[a]? with
  |some (.dF kvs')=>a7 (r.1,r.2.set a<|.dT kvs')|_=>b0
 |none=>d b μ
noncomputable def d9(i:Nat)(c d:MS):MS:=λb μ=>match qD i b μ with
 |some (a,kvs)=>(c b<|μ.set a<|.dF kvs).bind λr=>match r.2.2[a]? with
  |some (.dF kvs')=>a7 (r.1,r.2.1,r.2.2.set a<|.dT kvs')|_=>b0
 |none=>d b μ
theorem Fz{σ:St}{kvs:jx}(I:Inv X b2w σ H s)(R:Rp X.K π H μ)(E:En X.K π μ.length H σ ρ)(hc:μ[a]?=a7 (.dT kvs)):∃ob ps,H (π a)=a7 (aM (π a) ps)/\Inv X b2w σ (aK H (π a)<|.frz ob<|aM (π a) ps) s /\
  Rp X.K π (aK H (π a)<|.frz ob<|aM (π a) ps) (μ.set a<|.dF kvs)/\En X.K π (μ.set a<|.dF kvs).length (aK H (π a)<|.frz ob<|aM (π a) ps) σ ρ:=by
 obtain⟨ps,b,T⟩:=fP R hc;obtain⟨_,⟨ob,d⟩,_⟩:=(show ObjOk X.prog X.w H s.heap (π a) (aM (π a) ps)from I.hok _ _ b);obtain⟨c,R2⟩:=R.put (c:=.dF kvs) (o:=.frz ob (aM (π a) ps)) (a0f.mp hc).1 b (.inr<|.inr ⟨_,rfl⟩) ⟨ob,ps,rfl,T.to⟩;exact⟨ob,ps,b,Inv.freeze I b d,R2,E.mono c⟩
theorem sF{σ:St}{μ:Hm}{kvs:jx}{m:St}{ps:bN}{d:jx}(I:Inv X b2w σ H s)(e:H (π a)=a7 (aM (π a) ps))(y:a<μ.length)(x:Inv X g m j w)(v:Rp X.K c j μ')(k:Ext π (μ.set a<|.dF kvs).length (aK H (π a)<|.frz ob<|aM (π a) ps) c μ'.length j)(hc:μ'[a]?=a7 (.dF d)):
  ∃n,Inv X g m n w/\Ext π μ.length H c (μ'.set a<|.dT d).length n/\Rp X.K c n (μ'.set a<|.dT d)/\Ext0 c μ'.length j c (μ'.set a<|.dT d).length n:=by
 have q:c a=π a:=k.pi a (by rw[a1d];exact y);obtain⟨B,i,r,T⟩:=pW v hc;obtain⟨G,R2⟩:=v.put0 (c:=.dT d) (o:=aM (c a) i) (a0f.mp hc).1 r (.inr<|.inr<|.inr ⟨_,_,rfl⟩) ⟨i,rfl,T.to⟩;rw[q]at r;refine⟨aK j (c a)<|aM (c a) i,?_,⟨?_,λb A=>k.pi b<|by rw[a1d];exact A,λp E h=>?_,λp o u h=>?_⟩,R2,G⟩
 .rw[q];exact Inv.thaw I e x r
 .have:=k.le;rw[a1d]at this ⊢;exact this
 .have l:p≠π a:=λz=>by rw[z,e]at h;cases h
  have:=k.tup p E (by rw[a9 l];exact h);rw[q,a9 l];exact this
 .have l:p≠π a:=λz=>by rw[z,e]at h;cases h
  have:=k.frz p o u (by rw[a9 l];exact h);rw[q,a9 l];exact this
theorem En.mono0(E:En K π n H σ ρ)(e:Ext0 π n H b g c):En K b g c σ ρ:=
 ⟨E.len,λi d h=>let⟨v,j,k⟩:=E.get i d h;⟨v,j,k.mono0 e⟩⟩
theorem SS(h1:QE X e y)(Z:QE X e z):QE X e (Ax i y z):=⟨by
 intro j s G H Q I hw;obtain⟨l,B,A,d,q,R,E,c,k⟩:=hw;unfold Ax at c;split at c
 .rename_i a p hv;obtain⟨⟨x,g⟩,Y,c⟩:=a0a.mp c;dsimp only at c;split at c
  .rename_i w n;cases c;have hc:=Fy hv;obtain⟨ob,ps,T,K,N,J⟩:=Fz I R E hc;refine aP (h1.h j s G _ (λv h=>∃b,Ext l (A.set a<|.dF p).length (aK H (l a)<|.frz ob<|aM (l a) ps) b g.length h/\Rp X.K b h g/\IsD X.K b g.length h v d) K ⟨l,B,_,d,g,N,J,Y,λb v h m R2 o=>⟨b,m,R2,o⟩⟩) λu s2 ⟨v,h,L,rv,b,m,R2,o⟩=>?_;obtain⟨r,M,U,O,x3⟩:=sF I T (a0f.mp hc).1 L R2 m n;exact⟨v,r,M,rv,k b v r U O<|o.mono0 x3⟩
  .cases c
 .exact Z.h j s G H Q I ⟨l,B,A,d,q,R,E,c,k⟩⟩
theorem vY(h1:QS X st Y)(h2:QS X st Z):QS X st (d9 i Y Z):=⟨by
 intro J s σ H D I hw;obtain⟨l,ρ,K,B,o,T,R,E,r,k⟩:=hw;unfold d9 at r;split at r
 .rename_i a w hv;obtain⟨⟨fl1,ρ1,g⟩,g1,r⟩:=a0a.mp r;dsimp only at r;split at r
  .rename_i U p;cases r;have hc:=Fy hv;have M:=(a0f.mp hc).1;obtain⟨N,O,L,I1,R1,E1⟩:=Fz I R E hc;refine aP (h1.h J s σ _ ⟨λc h=>B=.nx/\∃b,Ext l (K.set a<|.dF w).length (aK H (l a)<|.frz N<|aM (l a) O) b g.length h/\Rp X.K b h g/\En X.K b g.length h c o,
     λv h=>∃d,B=.rt d/\∃b,Ext l (K.set a<|.dF w).length (aK H (l a)<|.frz N<|aM (l a) O) b g.length h/\Rp X.K b h g/\IsD X.K b g.length h v d,
     λc h=>B=.bk/\∃b,Ext l (K.set a<|.dF w).length (aK H (l a)<|.frz N<|aM (l a) O) b g.length h/\Rp X.K b h g/\En X.K b g.length h c o,
     λc h=>B=.ct/\∃b,Ext l (K.set a<|.dF w).length (aK H (l a)<|.frz N<|aM (l a) O) b g.length h/\Rp X.K b h g/\En X.K b g.length h c o⟩ I1 ⟨l,ρ,_,B,o,g,R1,E1,g1,?_⟩) λf s2 q=>?_
   .cases B with
    |nx=>exact λb c h j R2 m=>⟨rfl,b,j,R2,m⟩|bk=>exact λb c h j R2 m=>⟨rfl,b,j,R2,m⟩|ct=>exact λb c h j R2 m=>⟨rfl,b,j,R2,m⟩|rt d=>exact λb v h j R2 Q=>⟨d,rfl,b,j,R2,Q⟩
   .cases f with
    |next=>obtain⟨c,h,x,rfl,b,j,R2,m⟩:=q;obtain⟨n,y,A,z,G⟩:=sF I L M x R2 j p;exact⟨c,n,y,k b c n A z<|En.mono0 m G⟩|brk=>obtain⟨c,h,x,rfl,b,j,R2,m⟩:=q;obtain⟨n,y,A,z,G⟩:=sF I L M x R2 j p;exact⟨c,n,y,k b c n A z<|En.mono0 m G⟩|cont=>obtain⟨c,h,x,rfl,b,j,R2,m⟩:=q;obtain⟨n,y,A,z,G⟩:=sF I L M x R2 j p;exact⟨c,n,y,k b c n A z<|En.mono0 m G⟩|ret u=>obtain⟨v,c,h,x,rv,d,rfl,b,j,R2,Q⟩:=q;obtain⟨n,y,A,z,G⟩:=sF I L M x R2 j p;exact⟨v,c,n,y,rv,k b v n A z<|Q.mono0 G⟩
  .cases r
 .exact h2.h J s σ H D I ⟨l,ρ,K,B,o,T,R,E,r,k⟩⟩
noncomputable def Ay(d:Addr)(ob:Obj)(ps:bN):It:=⟨λi H=>H d=a7 (.frz ob<|aM d ps)/\i<ps.length,λi H x a=>a=H/\∃p,ps[i]?=a7 p/\x=.ref p.2.1,λi H=>H d=a7 (.frz ob<|aM d ps)/\ps.length<=i⟩
theorem oA{σ:St}{ps:bN}(I:Inv X b2w σ H s)(e:H d=a7 (.frz ob<|aM d ps)):
  (d==a1W)=b3/\ps.length<=a0s/\∃a b,RawD s.heap d a b/\ob.data=.dict a b/\a.toList.map (·.key)=ps.map λp=>a0n p.2.1:=by
 obtain⟨c,⟨n,r,l,k,o,a,b,g,i,h,j,m⟩,_⟩:=(show ObjOk X.prog X.w H s.heap d (.frz ob<|aM d ps)from I.hok d _ e);rw[c]at g;cases g;refine⟨l,k,a,b,⟨ob,c,i,h⟩,h,?_⟩;rw[j,vO (P:=X.prog) (w:=X.w),a0x,<- Aq r];rfl
theorem FA:∀(ps:bN)(ws:gq),ps.length=ws.length->(a4R rH ps ws).map (·.val)=ws
 |[],[],_=>rfl|[],_::_,h=>by cases h
 |_::_,[],h=>by cases h
 |p::ps,u::ws,h=>by rw[a1p,a0r,FA ps ws<|by simpa using h];rfl
theorem sG{σ:St}{ps:bN}(I:Inv X b2w σ H s)(e:H d=a7 (.frz ob<|aM d ps)):
  (d==a1W)=b3/\ps.length<=a0s/\∃a b,RawD s.heap d a b/\ob.data=.dict a b/\Vals (ps.map (·.2.2)) (a.toList.map (·.val)):=by
 obtain⟨g,⟨c,r,n,m,o,a,b,h,k,i,l,p⟩,_⟩:=(show ObjOk X.prog X.w H s.heap d (.frz ob<|aM d ps)from I.hok d _ e);rw[g]at h;cases h;refine⟨n,m,a,b,⟨ob,g,k,i⟩,i,?_⟩;have j:(a4R rH ps c).map (·.val)=c:=FA ps c<|by
  have:=r.length;rw[a0d]at this;exact this
 rw[l,j];exact r
theorem SU(hd:ob.data=.dict es ep):Turn Qc P w K tg (Ay d ob ps) [n] n (λi h=>h.IsKeyIter n d i es.size ep) where
 mem:=by simp
 obj:=λi h st b j=>by
  have e:b=n:=by simpa using j
  subst e;obtain⟨o,e,c,d⟩:=st;exact⟨o,e,λv z=>by rw[d]at z;cases z⟩
 keep:=λi h q st k=>st.at λo e=>k n (by simp) o e;item:=by
  intro X O hw N hc i p s U H E I x st Q;subst O hw N;obtain⟨m,r⟩:=Q;obtain⟨lo,hl,A,y,g,a,u⟩:=oA I m;rw[hd]at a;cases a;have hs:es.size=ps.length:=by have:=congrArg a1n u;simpa using this
  obtain⟨B,G,f2,J,L,M⟩:=x n (by simp);refine vU (I.ok.hd hc) st g (λe q l T sb=>?_) λhn=>by simp at hn;lia
  have Y:Inv X p U H {s with heap:=q}:=I.turned (t':=s.toks) (λb o j e=>(sb.2 b j).trans e) B G J L M;obtain⟨o,e1,c,Z⟩:=id T;have R:ps[i]?=a7 ps[i]:=a0w r;have ek:e.key=.ref (ps[i]).2.1:=by have:=congrArg (·[i]?) u;simp only[a0v,a1y,l,R,a0M]at this;exact a0B this
  exact⟨e.key,rfl,o3 (s:={s with heap:=q}) e1 c Z (by decide) ⟨.ref (ps[i]).2.1,H,Y,ek,⟨rfl,ps[i],R,rfl⟩,T,λb j=>(x b j).1⟩⟩
 done:=by
  intro X O hw N hc i p s U H E I x st Q;subst O hw N;obtain⟨m,r⟩:=Q;obtain⟨lo,hl,A,y,g,a,u⟩:=oA I m;rw[hd]at a;cases a;have hs:es.size=ps.length:=by have:=congrArg a1n u;simpa using this
  obtain⟨B,G,f2,J,L,M⟩:=x n (by simp);exact vU (I.ok.hd hc) st g (λe q l=>by
   have:=(a4X.mp l).1;lia) λ_ q eb=>⟨rfl,I.turned (t':=s.toks) (λb o j e=>eb b o j e) B G J L M⟩
 self:=λ_ _ _ _ _ st h=>b0l st h
theorem SV(k:PE X l m):PI X tg l (λσ H R=>m σ H λv a=>∃d ob ps,v=.ref d/\a d=a7 (.frz ob<|aM d ps)/\R (Ay d ob ps) a):=by
 intro j s σ H R I h;refine aP (k j s σ H _ I h) λv i ⟨y,a,c,w,u⟩=>?_;obtain⟨d,ob,ps,e,p,q⟩:=u;subst e;obtain rfl:v=a0n d:=w;obtain⟨r,k,z,x,g,hd,A⟩:=oA c p;refine Ap r g ⟨i.heap.objs.size,[i.heap.objs.size],_,_,a,rfl,c.kept (t':=i.toks) λb o e=>a0e _ e,SU hd,⟨_,a0o _ rfl,rfl,rfl⟩,λb n=>?_,q⟩;have e:b=i.heap.objs.size:=by simpa using n
 subst e;exact c.fpOk (a0l _)<|c.hok.fresh<|a0l _
noncomputable def jR(kvs:jx):List D:=kvs.map λk=>D.tup<|k.1.map D.int
theorem SW{ps:bN}(c:H d=a7 (.frz ob<|aM d ps))(T:IsTs K π n H ps kvs):Wk K (Ay d ob ps) (dQ<|.tup<|jR kvs) π n H:=by
 have s:ps.length=kvs.length:=by have:=congrArg a1n T.to.1;simpa using this
 refine⟨λb q h i e R z=>?_,λb q h i j e R z=>?_⟩
 .have a:(jR kvs)[i]?=none:=a0B z;have:=a1i.mp a;rw[jR,a0d]at this;exact⟨e.frz _ _ _ c,by lia⟩
 .have a:(jR kvs)[i]?=a7 j:=a0B z;have u:i<kvs.length:=by have:=(a0f.mp a).1;rwa [jR,a0d]at this
  refine⟨⟨e.frz _ _ _ c,by lia⟩,λv r ⟨k,p,l,m⟩=>?_⟩;subst k m;obtain⟨w,g,o⟩:=(T.to.2.1.mono e).get a;rw[a0v,l]at g;cases g;exact⟨.refl,R,o⟩
noncomputable def iT(m:ME):MI:=λb μ=>(m b μ).bind λp=>match p.1 with
 |.loc a=>match p.2[a]? with
  |some (.dF kvs)=>a7 (dQ<|.tup<|jR kvs,kvs.length+1,p.2)|_=>b0
 |_=>b0
theorem Az(h:QE X e m):QJ X e (iT m):=⟨λtg b2w s σ H R I hw=>by
 obtain⟨z,A,v,u,n,w,i,E,a,k⟩:=hw;obtain⟨⟨x,y⟩,l,a⟩:=a0a.mp a;dsimp only at a;split at a
 .split at a
  .rename_i p hc;cases a;refine SV h.h b2w s σ H R I ⟨z,A,v,_,_,i,E,l,λb B g j c o=>?_⟩;cases o;obtain⟨q,r,d,T⟩:=pW c hc;exact⟨_,q,r,rfl,d,k b g _ j c<|SW d T⟩
  .cases a
 .cases a⟩
end L3
namespace L3
open PySem L2 PySem.W PyProof.Rows
noncomputable def FC(h:a1C)(b:Addr)(k:List Int):Prop:=∃xs:gq,a3M h b xs.toArray/\a3y xs k
theorem SX{bs:List Addr}{ks:List (List Int)}(J:0<bs.length)(r:ks.length=bs.length)(key:∀j b,bs[j]?=a7 b->FC s.heap b (ks.getD j [])/\ks.getD j []≠[]):pZ P w A (bs.map a0n) (λi j=>HT.lexLt (ks.getD i [])<|ks.getD j []) s:=by
 have l:∃fs:gq,fs.length=bs.length/\KatTups s.heap (bs.map a0n) fs/\∀v∈fs,∃i t,v=a1m i t:=by
  clear J;induction bs generalizing ks with
  |nil=>exact⟨[],rfl,.nil,λv a=>nomatch a⟩|cons b bs O=>
   match ks,r with
   |k::ks,r=>
    obtain⟨fs,u,m,p⟩:=O (ks:=ks) (by simpa using r) λj c hc=>by simpa using key (j+1) c (by simpa using hc)
    obtain⟨⟨xs,⟨o,e,c,n,d⟩,g⟩,h⟩:=key 0 b rfl;simp only[a9j]at g h;cases g with
    |nil=>exact absurd rfl h|@cons i x R Q L=>
     refine⟨a1m i x::fs,by simp[u],.cons e c d (by simp) m,λv a=>?_⟩;rcases a0D.mp a with rfl|a
     .exact⟨i,x,rfl⟩
     .exact p v a
 obtain⟨fs,u,m,p⟩:=l;unfold pZ;refine kat_kind (T:=.type "int") m ?_ (λv a=>?_) rfl ⟨rfl,λi j C g q K=>?_⟩
 .lia
 .obtain⟨i,t,rfl⟩:=p v a;exact .now
 .rw[a0d]at g q;obtain⟨⟨xa,⟨Z,B,T,X,y⟩,M⟩,_⟩:=key i bs[i]<|a0w g;obtain⟨⟨xb,⟨ob,G,U,Y,z⟩,N⟩,_⟩:=key j bs[j]<|a0w q;have H:(bs.map a0n).getD i .none=.ref bs[i]:=by simp[a1H,g]
  have I:(bs.map a0n).getD j .none=.ref bs[j]:=by simp[a1H,q]
  rw[H,I];exact kat_lt B y G z<|z9 0 M N K
theorem SY{bs:List Addr}{ks:List (List Int)}(K:A.handled=b0)(lo:(d==a1W)=b3)(g:RawD s.heap d es ep)(u:es.toList.map (·.key)=bs.map a0n)(I:es.size<64)(M:ks.length=bs.length)(key:∀j b,bs[j]?=a7 b->FC s.heap b (ks.getD j [])/\ks.getD j []≠[])(q:∀(h' p:a1C)tk e,(∀b o,s.heap.get? b=a7 o->h'.get? b=a7 o)->(∀b o,h'.get? b=a7 o->p.get? b=a7 o)->p.get? h'.objs.size=a7 (a2d "list" ((cM (λi j=>HT.lexLt (ks.getD i [])<|ks.getD j []) es.size).map λi=>a0n<|bs.getD i 0).toArray e)->Q (.ref h'.objs.size) {s with heap:=p,toks:=tk}):
  a0A (a0L P w) A (call (.builtin "sorted") [.ref d]) Q E s:=by
 have l:bs.length=es.size:=by have:=congrArg a1n u;simpa using this.symm
 refine a5h b0p a9C a9H (a9I _) ?_;unfold a6D;refine a0b (m:=b0K "sorted" 1 1 _) (a0h<|a0b<|kdu_collect (A:=A.in1) (E7 lo) K g (by rw[a0O];lia) λh' tk c B a=>?_);have H:c.toList=bs.map a0n:=by
  rw[<- u];refine a6U λi=>?_;rw[a0v,a1y,a1y];cases z:c[i]? with
  |some v=>obtain⟨e,R,T⟩:=a.2 i v z;rw[R,T];rfl|none=>
   have:c.size<=i:=by simpa using z
   rw[a4n<|by rw[<- a.1];exact this];rfl
 rw[H];have G:(bs.map a0n).length=es.size:=by rw[a0d,l]
 refine a0b (a4l ?_<|by rw[G,a0O];lia);have k:(h'.push<|a2d "list" (bs.map a0n).toArray 0).get? h'.objs.size=a7 (a2d "list" (bs.map a0n).toArray 0):=a0o _ rfl;have fin:∀h:gq,h=((cM (λi j=>HT.lexLt (ks.getD i [])<|ks.getD j []) es.size).map λi=>a0n<|bs.getD i 0)->Q (.ref h'.objs.size) {s with heap:=a7p (h'.push<|a2d "list" (bs.map a0n).toArray 0) h'.objs.size (bs.map a0n) h.toArray,toks:=tk}:=by rintro h rfl;obtain⟨e,J⟩:=sortedHeap_at (h:=h'.push (a2d "list" (bs.map a0n).toArray 0)) (out:=((cM (λi j=>HT.lexLt (ks.getD i [])<|ks.getD j []) es.size).map λi=>a0n<|bs.getD i 0).toArray) k;refine q h' _ tk e B (λb o x=>?_) J;rw[b2j (a0y<|a0m x)<|by rw[a3c];exact a4t<|a0m x];exact a0e _ x
 by_cases y:2<=es.size
 .refine a0b<|a1q<|a2k a5w (s:={s with heap:=h'.push<|a2d "list" (bs.map a0n).toArray 0,toks:=tk}) ⟨_,k,rfl⟩ a5c (Fs (an:=λi j=>HT.lexLt (ks.getD i [])<|ks.getD j []) (by lia) (by lia) k (λp N=>?_) ⟨_,rfl,?_⟩)<|a5z _
  .refine SX (by lia) M λj b L=>?_;obtain⟨⟨O,⟨o,o1,o2⟩,m⟩,r⟩:=key j b L;have n:=B _ _ o1;exact⟨⟨O,⟨o,N b o (a0y<|a0m n)<|a0e _ n,o2⟩,m⟩,r⟩
  .refine a0h ⟨_,rfl,fin _ ?_⟩;rw[G];refine a1v λi m=>?_;have m:i<bs.length:=by have:=a2u.mp ((pR _ (n:=es.size)<|by lia).mem_iff.mp m);lia
   simp[a1H,m]
 .refine a0b (a1q<|a2k a5w (s:={s with heap:=h'.push<|a2d "list" (bs.map a0n).toArray 0,toks:=tk}) ⟨_,k,rfl⟩ a5c (Aa (by lia) k ⟨_,rfl,?_⟩)<|a5z _);refine a0h ⟨_,rfl,fin (bs.map a0n) ?_⟩;match bs,l with
  |[],e=>rw[<- e];show[]=(cM _ 0).map _;rw[Ac];rfl|[b],e=>rw[<- e];show[a0n b]=(cM _ 1).map _;rw[Ab];rfl|_::_::_,e=>rw[<- e]at y;simp at y
end L3
namespace L3
open PySem L2
noncomputable def FD(K:a0c):gw->Hp->VK->Prop:=λxs H Q=>∃a ps,xs=[V.ref a]/\H a=a7 (aM a ps)/\dG K H ps/\ps.length<64/\(∀p∈ps,p.1≠[])/\∀l,H l=b0->Q (.ref l) (aK H l<|.lst<|(fQ ps).map λp=>V.ref p.2.1)
theorem S3(hc:X.calm=b5):CallR X (.builtin "sorted") (FD X.K):=by
 intro n s σ H xs us Q I r h;obtain⟨a,c,rfl,R,E,O,x,q⟩:=h;obtain⟨u,rfl,ru⟩:=d6 r;cases ru;obtain⟨lo,m,K,ep,g,B⟩:=n8 I R E;have T:K.size=c.length:=by have:=congrArg a1n B;simpa using this
 have M:∀{j:Nat}{b:Addr},(c.map (·.2.1))[j]?=a7 b->∃p∈c,c[j]?=a7 p/\p.2.1=b:=λ{j b} d=>by rw[a0v]at d;obtain⟨p,k,L⟩:=a0g.mp d;exact⟨p,a0S k,k,L⟩
 refine SY (bs:=c.map (·.2.1)) (ks:=c.map (·.1)) (I.ok.hd hc) lo g (by rw[B,a0x];rfl) (by lia) (by simp) (λj b d=>?_) λo N z e Y Z k3=>?_
 .obtain⟨p,G,k,rfl⟩:=M d;have J:(c.map (·.1)).getD j []=p.1:=by simp[a1H,k]
  rw[J];obtain⟨y,rx,t,_⟩:=I.tuple<|E p G;exact⟨⟨y,t,uI rx⟩,x p G⟩
 .have A:Inv X n σ H {s with heap:=o,toks:=z}:=I.kept (t':=z) Y;refine⟨.ref o.objs.size,_,A.laid (t':=z) (h':=N) (a:=o.objs.size) (o:=.lst ((fQ c).map λp=>V.ref p.2.1)) Z (a0l _) ?_,rfl,q _<|A.hok.fresh<|a0l _⟩;have w:(fQ c).length=c.length:=sortT_perm.length_eq;refine⟨by rw[a0d,w];exact m,_,e,?_,k3⟩;unfold fQ;rw[T,a0x];have:∀l:List Nat,(∀i∈l,i<c.length)->Vals (l.map<|(λp:List Int×Addr×V=>V.ref p.2.1)∘λi=>c.getD i ([],0,.non)) (l.map λi=>a0n<|(c.map (·.2.1)).getD i 0):=λl m=>by
   induction l with
   |nil=>exact .nil|cons i l U=>refine .cons ?_<|U λj d=>m j<|a0F _ d;have v:=m i<|a0P ..;show a0n _=a0n _;simp[a1H,v]
  exact this _ λi v=>a2u.mp<|(pS _ c.length).mem_iff.mp v
noncomputable def qE(μ:Hm):D->Bool
 |.loc a=>match μ[a]? with|some (.dT _)=>b5|_=>b3
 |_=>b3
noncomputable def k8(f:D->List D->Hm->jk)(b:ME)(ms:MA):ME:=λa μ=>(b a μ).bind λp=>match qE p.2 p.1 with
 |true=>(ms a p.2).bind λq=>f p.1 q.1 q.2|false=>b0
noncomputable def AA(K:a0c)(x:V)(H:Hp):Prop:=∃a ps,x=.ref a/\H a=a7 (aM a ps)/\dG K H ps
theorem S4(R:Rp K π H μ)(h:IsD K π μ.length H v x)(e:qE μ x=b5):AA K v H:=by
 cases h with
 |@loc a g=>
  simp only[qE]at e;split at e
  .rename_i i c;obtain⟨d,b,T⟩:=fP R c;exact⟨_,d,rfl,b,T.keys⟩
  .cases e
 |_=>cases e
theorem S5{id:String}(m:Slot "dict" name id)(w:a9A (.builtin id)=pure (.type "method_descriptor"))(N:j9 X id r)(O:PE X o to)(L:PA X (e::es) t)(i:a2Q o name X.env (eval o X.env)=eval o X.env)(l:((a2F cpos<|a0T (e::es) X.env).all (λx=>!x.1)&&(a4m cpos<|a3g [] X.env).all (λx=>x.1.isSome)&&decide ((e::es).length+([]:List a3D).length+(if([]:List a3D).isEmpty then 0 else 1)<30))=b5)(j:(apos.endLine==cpos.line)=b5)(R:a0T (e::es) X.env=(b3,eval e X.env)::a0T es X.env)(c:(a2F cpos<|a0T es X.env).any (·.1)=b3):
  PE X (.Call (.Attribute o name apos) (e::es) [] cpos) (λk H Q=>to k H λx p=>AA X.K x p/\t k p λq u=>r x q u Q):=by
 intro d s k H Q I h;refine a9z i l j rfl<|aP (O d s k H _ I h) λv s1 ⟨x,p,y,Y,ty,T⟩=>?_;obtain⟨a,ps,rfl,G,M⟩:=ty;obtain rfl:v=a0n a:=Y;obtain⟨lo,hl,q,ep,g,_⟩:=n8 y G M;refine⟨"dict",id,a4c,m,w,g.ty,λb E=>?_,?_⟩
 .cases E;obtain⟨z,J,K,_⟩:=g;exact⟨z,J,K.2.1⟩
 have A:=L cpos d s1 k p _ y T;rw[R]at A ⊢;refine a2V (by show(b3||(a2F cpos<|a0T es X.env).any (·.1))=b3;rw[c]<;>rfl)<|a8N ?_;exact aP A λus s2 ⟨q,u,B,Z,U⟩=>N d s2 k u (.ref a) q _ us Q B rfl Z U
theorem S6(z:iR K f r):∀σ H Q,tM K (k8 f mo ms) σ H Q->tM K mo σ H λx g=>AA K x g/\tMA K ms σ g λvs h=>r x vs h Q:=by
 rintro σ H Q ⟨J,v,I,d,i,R,E,a,k⟩;obtain⟨⟨x,b⟩,w,a⟩:=a0a.mp a;dsimp only at a;split at a
 .rename_i A;obtain⟨⟨u,c⟩,y,a⟩:=a0a.mp a;refine⟨J,v,I,x,b,R,E,w,λj G g p m s=>⟨S4 m s A,j,v,b,u,c,m,E.mono p,y,λl vs h q R2 B=>?_⟩⟩;exact z l h c x u d i G vs Q R2 (s.mono q) B a<|k.after<|p.trans q
 .cases a
theorem FE{id:String}(c:Slot "dict" name id)(d:a9A (.builtin id)=pure (.type "method_descriptor"))(j:j9 X id r)(h:iR X.K f r)(l:QE X o mo)(g:QA X (e::es) ms n)(m:d7 o=b5)(i:(apos.endLine==cpos.line)=b5)(k:(e::es).length<30):QE X (.Call (.Attribute o name apos) (e::es) [] cpos) (k8 f mo ms):=by
 have b:=g.s;have a:=b;rw[a1e,a0j]at a;exact⟨cT (S5 c d j l.h g.h (iS m) (Eh b k) i (eM a.1)<|jJ a.2)<|S6 h⟩
noncomputable def kL:D->List D->Hm->jk
 |.loc a,[y,z],μ=>match μ[a]? with
  |some (.dT kvs)=>(c5 y).map λk=>((bJ kvs k).getD z,μ)|_=>b0
 |_,_,_=>b0
noncomputable def FF(K:a0c):V->gw->Hp->VK->Prop:=λx vs H Q=>∃a b ps k z,x=.ref a/\vs=[.ref b,z]/\H a=a7 (aM a ps)/\dG K H ps/\SqT K H b (k.map V.int)/\Q ((dY ps k).getD z) H
theorem S7:iR K kL (FF K):=by
 intro u H A x z d s v y Q R m c a k;unfold kL at a;split at a
 .split at a
  .rename_i p hc;obtain⟨h,j,a⟩:=a0g.mp a;cases a;cases m;cases c with
   |cons n t=>
    cases t with
    |cons o t=>
     cases t;obtain⟨q,i,T⟩:=fP R hc;obtain⟨b,rfl,l⟩:=jN n j;refine⟨_,b,q,h,_,rfl,rfl,i,T.keys,l,k u _ H .refl R ?_⟩;rcases T.val h with⟨e,g⟩|⟨v,w,e,g,r⟩
     .rw[e,g];exact o
     .rw[e,g];exact r
  .cases a
 .cases a
theorem S8(w:X.A.units+1<a2e):j9 X "dict.get" (FF X.K):=by
 intro m s N H x L v K Q I E B h;obtain⟨a,b,g,k,z,rfl,rfl,e,o,n,q⟩:=h;cases E;obtain⟨u,G,rfl,A,i⟩:=B.two;obtain rfl:u=a0n b:=A;obtain⟨p,J,l,r,d⟩:=kK I (.of e) o;refine a5n a8h d.typeIs PySem.F.entry_dict_get (PySem.F.args_dict_get_3 _ _ _) (meetsH_dict_get_default (a4f<|a4A X.prog X.w) a b p G) ⟨pV w,k,_,kH I n,d,?_⟩;refine⟨(dY g k).getD z,H,I.tok _,?_,q⟩;have:=n6 r k;cases j:dY g k with
 |none=>
  rw[j]at this;cases c:(a6L (bY g l) k).map (·.2)with
  |none=>exact i|some y=>rw[c]at this;exact this.elim
 |some M=>
  rw[j]at this;cases c:(a6L (bY g l) k).map (·.2)with
  |none=>rw[c]at this;exact this.elim|some y=>rw[c]at this;exact this
section
variable{P:a0R}{w:a1f}{K:Type} [DecidableEq K] {knd:HeapKind P w K}{A:a1b}{E:Value->a0i->Prop}{s:a0i}{d a:Addr}{k:K}{xs:List (K×Addr×Value)}
theorem S9(z:knd.room A)(q:knd.is s.heap k a)(I:s.heap.DictOfH knd d xs)(hz:xs.length<=a0s)(h1:∀p,a6L xs k=a7 p->Q p.2 {s with toks:=s.toks+knd.draws k})(H:a6L xs k=b0->∀n,n.DictOfH knd d (b0U xs k a v)->a2X d s.heap n->Q v {s with heap:=n,toks:=s.toks+knd.draws k}):
  a0A (a0L P w) A (a8C d (.ref a) v) Q E s:=by
 obtain⟨o,J,G,g,hc,hd,m,h,r⟩:=id I;unfold a8C;refine a1q<|a0b<|knd.pyHash z q<|a0b<|wpAny_dictFind_heap (s:={s with toks:=s.toks+knd.draws k}) z q g hd m h r (λi=>?_) λj p u=>?_
 .have b:=atKey_none_of_get i;have l:k∉xs.map (·.1):=not_mem_keys_of_get i;refine a0b<|a3Z<|a0b<|wpAny_updateDictKeys (hz:=by have e:=size_of_entries m;lia) (s:={s with toks:=s.toks+knd.draws k}) g hd<|a0h<|H b _ ⟨_,_,G+1,a2a _ g<|a9t<|a6q hd _,hc.mapDictKeys _,a6q hd _,?_,λx c=>?_,?_⟩<|a2y ..
  .rw[b0n b];simp[m,b0I]
  .rw[b0n b]at c;rcases a1t.mp c with c|c
   .exact knd.keeps (h x c) g hd<|a2y ..
   .rw[a0N]at c;subst c;exact knd.keeps q g hd<|a2y ..
  .rw[b0n b,a0z,a3n];exact⟨r,by simp,λx c y B e=>by
    simp only[a0r,a3S,a0N]at B;subst B;exact l<|e▸c⟩
 .refine a0b<|a2f (s:={s with toks:=s.toks+knd.draws k}) g hd ?_;rw[entry_at m j,u];exact a0b<|a3Z<|a0h<|h1 _<|atKey_of_get r u
theorem Ta(knd:HeapKind P w K)d a(hd:(d==a1W)=b3)v:b1f P w (Builtin.«dict.setdefault» ⟨[.ref d,.ref a,v],[]⟩) (λA R s=>knd.room A.in1/\∃k xs,knd.is s.heap k a/\s.heap.DictOfH knd d xs/\xs.length<=a0s /\
   (∀p,a6L xs k=a7 p->R (.ok<|.ret p.2) {s with toks:=s.toks+knd.draws k})/\(a6L xs k=b0->∀b,b.DictOfH knd d (b0U xs k a v)->a2X d s.heap b->R (.ok<|.ret v) {s with heap:=b,toks:=s.toks+knd.draws k})):=
 .of_wp λA R s ⟨n,k,xs,j,g,o,h,i⟩=>by unfold Builtin.«dict.setdefault»;refine a0b ?_;unfold b2e;refine a0b<|a2O g.typeIs<|a0h ?_;show a0A _ _ (if(d==a1W)=b5 then _ else(a8C d (.ref a) v >>= _)) _ _ s;rw[if_neg<|by rw[hd];exact a0K];exact a0b<|S9 n j g o (λp m=>a0h ⟨_,rfl,h p m⟩) λl b c e=>a0h ⟨v,rfl,i l b c e⟩
end
noncomputable def AB:D->List D->Hm->jk
 |.loc a,[y,z],μ=>match μ[a]? with
  |some (.dT kvs)=>(c5 y).bind λk=>match bJ kvs k with
   |some d=>a7 (d,μ)|none=>if kvs.length<a0s then a7 (z,μ.set a<|.dT<|cS kvs k z)else b0
  |_=>b0
 |_,_,_=>b0
noncomputable def FG(K:a0c):V->gw->Hp->VK->Prop:=λx vs H Q=>∃a b ps k z,x=.ref a/\vs=[.ref b,z]/\H a=a7 (aM a ps)/\dG K H ps/\SqT K H b (k.map V.int)/\((∃v,dY ps k=a7 v/\Q v H)\/(dY ps k=b0/\ps.length<a0s/\Q z (aK H a<|aM a<|dO ps k b z)))
theorem Tc:iR K AB (FG K):=by
 intro q H L x J d B v I Q R y h a k;unfold AB at a;split at a
 .split at a
  .rename_i e hc;obtain⟨c,u,a⟩:=a0a.mp a;cases y with
   |loc g=>
    cases h with
    |cons z t=>
     cases t with
     |cons p t=>
      cases t;obtain⟨i,m,T⟩:=fP R hc;obtain⟨b,rfl,o⟩:=jN z u;refine⟨_,b,i,c,_,rfl,rfl,m,T.keys,o,?_⟩;have w:i.length=e.length:=by have:=congrArg a1n T.to.1;simpa using this
      rcases T.val c with⟨j,l⟩|⟨v,E,j,l,A⟩
      .rw[l]at a;dsimp only at a;split at a
       .rename_i G;cases a;have s:=T.put c o p;obtain⟨n,r⟩:=R.put (c:=.dT (cS e c d)) (o:=aM _ (dO i c b _)) g m (.inr<|.inr ⟨_,rfl⟩) ⟨_,rfl,s.to⟩;exact .inr ⟨j,by lia,k q _ _ n r<|p.mono n⟩
       .cases a
      .rw[l]at a;cases a;exact .inl ⟨v,j,k q _ H .refl R A⟩
  .cases a
 .cases a
theorem Td(M:X.A.units+1<a2e):j9 X "dict.setdefault" (FG X.K):=by
 intro w s σ H x vs v us Q I U T h;obtain⟨a,b,n,k,z,rfl,rfl,e,G,B,q⟩:=h;cases U;obtain⟨u,Y,rfl,R,i⟩:=T.two;obtain rfl:u=a0n b:=R;obtain⟨m,hl,Z,r,d⟩:=kK I (.of e) G;have N:(bY n Z).length<=a0s:=by have:=congrArg a1n<|n5 r;rw[a0d,a0d]at this;lia
 have c:=n6 r k;refine a5n a7d d.typeIs PySem.F.entry_dict_setdefault (PySem.F.args_dict_setdefault_3 _ _ _) (Ta (a4f<|a4A X.prog X.w) a b m Y) ⟨pV M,k,_,kH I B,d,N,λp K=>?_,λJ A j l=>?_⟩
 .rw[K]at c;rcases q with⟨o,g,q⟩|⟨g,_⟩
  .rw[g]at c;exact⟨o,H,I.tok _,c,q⟩
  .rw[g]at c;exact c.elim
 .rw[J]at c;rcases q with⟨o,g,q⟩|⟨g,hz,q⟩
  .rw[g]at c;exact c.elim
  .obtain⟨ws',O,y⟩:=An r k b i;rw[y]at j;have E:∃q,A.get? a=a7 q:=let⟨q,_,_,L,_⟩:=j;⟨q,L⟩;exact⟨z,_,yP I (by rw[e];exact a3v) l E<|vP m (by have:=r6 n k b z;lia) O j,i,q⟩
theorem Te{bs:List Addr}(g:RawD s.heap d es ep)(n:es.toList.map (·.key)=bs.map a0n)(G:∀b∈bs,s.TypeIs (.ref b) "tuple")(nd:(es.toList.map (·.hash)).Nodup)(q:Q es s):a0A (a0L P w) A (a6x B d) Q E s:=by
 obtain⟨z,p,H,r⟩:=id g;unfold a6x;refine a0b<|a2f p r<|a0b ?_;rw[<- Array.forIn_toList];refine b1k _ (λbV _ c=>c=s/\∀e∈bV,e∈es.toList) _ (λe bV b c ⟨h,j⟩=>?_) (λb c ⟨h,_⟩=>?_) _ _ ⟨rfl,λe i=>i⟩
 .subst h;have i:=j e<|a0P ..;have v:e.key∈bs.map a0n:=by rw[<- n];exact a0u.mpr ⟨e,i,rfl⟩
  obtain⟨a,u,o⟩:=a0u.mp v;have quiet:∀{Q:Bool->a0i->Prop},Q b3 c->a0A (a0L P w) A (a7z e.key) Q E c:=λ{Q} q=>by rw[<- o];unfold a7z;exact a0b<|a4o (G a u) PySem.F.slot_tuple_eq.lookup<|a0h q
  refine a0b<|quiet ?_;have one:((es.filter (·.hash==e.hash)).size>1)=False:=by
   refine eq_false λz=>?_;have I:1<(es.toList.filter λx=>x.hash==e.hash).length:=by have l:(es.filter (·.hash==e.hash)).toList=es.toList.filter λx=>x.hash==e.hash:=Array.toList_filter ..;have m:=congrArg a1n l;simp only[a2p]at m;lia
   have k:(es.toList.filter λx=>x.hash==e.hash).length=(es.toList.map (·.hash)).count e.hash:=by rw[List.count,List.countP_map,<- List.countP_eq_length_filter];rfl
   have:=List.nodup_iff_count.mp nd e.hash;lia
  simp only[a2E,if_true,one,if_false];exact a0h ⟨rfl,λx y=>j x<|a0F _ y⟩
 .subst h;exact a0h q
theorem FH:∀(ps:bN)(ws:gq),ps.length=ws.length->(a4R rH ps ws).map (·.hash)=ps.map λp=>Tb.hashT p.1
 |[],_,_=>by simp
 |p::ps,[],h=>by cases h
 |p::ps,u::ws,h=>by rw[a1p,a0r,a0r,FH ps ws<|by simpa using h];rfl
theorem Tf{es:Array DictEntry}(c:bs≠[])(a:es.toList.map (·.key)=bs.map a0n):(es.all λe=>(keyPart e.key).isSome)=false:=by
 rw[<- Array.all_toList];generalize es.toList=l at a;cases bs with
 |nil=>exact absurd rfl c|cons b bs=>
  cases l with
  |nil=>cases a|cons e l=>rw[a0r,a0r,a4y]at a;rw[a1e,a.1];rfl
theorem Tg{es:Array DictEntry}(a:bs≠[])(c:es.toList.map (·.key)=bs.map a0n):es.isEmpty=false:=by have b:=congrArg a1n c;simp only[a0d,a2p]at b;have:bs.length≠0:=λz=>a<|a2R.mp z;rw[Array.isEmpty];exact decide_eq_false<|by lia
noncomputable def FI(K:a0c):gw->Hp->VK->Prop:=λxs H Q=>∃a ps,xs=[V.ref a]/\H a=a7 (aM a ps)/\dG K H ps/\(ps.map λp=>Tb.hashT p.1).Nodup/\∀l,H l=b0->Q (.ref l) (aK H l<|aM l ps)
theorem Th:CallR X (.type "dict") (FI X.K):=by
 intro b2w s σ H xs us Q I r h;obtain⟨a,d,rfl,ha,hk,nd,q⟩:=h;obtain⟨u,rfl,ru⟩:=d6 r;cases ru;have hn:H s.heap.objs.size=none:=I.hok.fresh<|a0l _;obtain⟨⟨m,T,lo,w,o,c,x,i,v,B,K,h5⟩,_⟩:=(show ObjOk X.prog X.w H s.heap a (aM a d)from I.hok a _ ha);obtain⟨_,_,es',ep',g,E⟩:=n8 I ha hk;obtain⟨z,U,g2,Y⟩:=id g;rw[i]at U;cases U;rw[B]at Y;cases Y;have R:c.size=d.length:=by have:=congrArg a1n E;simpa using this
 have N:(c.toList.map (·.hash)).Nodup:=by
  have:c.toList.map (·.hash)=d.map λp=>Tb.hashT p.1:=by rw[K];exact FH d m<|by rw[<- T.length,a0d]
  rw[this];exact nd
 refine a6K (Q₁:=λy j=>y=.ref s.heap.objs.size/\j={s with heap:=s.heap.push {cls:=.type "dict",data:=.dict #[]}}) F.kt_called_dict (F.kt_typeCall_dict_1 _) F.entry_dict_init (a7U _ ⟨rfl,rfl⟩) ?_;rintro y j ⟨rfl,rfl⟩;have n:({s with heap:=s.heap.push {cls:=.type "dict",data:=.dict #[]}}:a0i).heap.get? s.heap.objs.size=a7 {cls:=.type "dict",data:=.dict #[]}:=a0o _ rfl;have ty:({s with heap:=s.heap.push {cls:=.type "dict",data:=.dict #[]}}:a0i).TypeIs (.ref s.heap.objs.size) "dict":=⟨_,n,rfl⟩;have ga:RawD (s.heap.push {cls:=.type "dict",data:=.dict #[]}) a c x:=g.stay λo e=>a0e _ e;refine⟨ty,F.args_dict_init_2 _ _,?_⟩;unfold Builtin.«dict.__init__»;refine a0b ?_;unfold a4L;refine a0b<|a2O ty<|a0h ?_;show a0A _ _ (a2M "dict.__init__" s.heap.objs.size (.ref a) [] .none) _ _ _;unfold a2M;refine a0b<|a5m (T:="dict") ⟨_,a0e _ i,v.1⟩ ?_;rw[if_neg<|by decide];refine a0b ?_;unfold b2d b2a;have A:({s with heap:=s.heap.push {cls:=.type "dict",data:=.dict #[]}}:a0i).TypeIs (.ref a) "dict":=⟨_,a0e _ i,v.1⟩;refine a0b<|a0b<|a4e A isSubtype_dict_dict ?_;simp only[a2N,a0t,if_false];refine a0b<|a4o A F.slot_dict_iter.lookup<|a0h ?_;simp only[beq_self_eq_true,if_true];refine a0b<|a0h ?_;unfold b2c;have L:(s.heap.objs.size==a)=false:=beq_eq_false_iff_ne.mpr<|a1j<|a0y<|a0m i;rw[if_neg<|by rw[L];exact a0K];unfold a2C;rw[if_neg<|by rw[lo];exact a0K];have k:=a0e {cls:=.type "dict",data:=.dict #[]} i;refine a0b<|a0h<|a0b<|a2f k B ?_;have big:(s.heap.objs.size==a1W)=false:=beq_eq_false_iff_ne.mpr<|a1j<|a0y I.big;by_cases l:d=[]
 .have z:c=#[]:=Array.eq_empty_of_size_eq_zero (by rw[R,l];rfl);subst z;have fe:(decide ((#[]:Array DictEntry).size<=8)&&(#[]:Array DictEntry).all λe=>(keyPart e.key).isSome)=true:=by simp
  simp only[fe,a2N,a0t,if_false];refine a0b<|a3J k B ?_;refine a0b<|a2f k B ?_;have fr:∀g:Nat->PUnit->a9X (ForInStep PUnit),(forIn [:(#[]:Array DictEntry).size] b1t g:a9X PUnit)=pure b1t:=λg=>by simp
  rw[fr];refine a0b<|a0h<|a0h ?_;refine a0b<|a0h<|a0h ?_;refine⟨rfl,.ref s.heap.objs.size,_,I.laid (t':=s.toks) (a:=s.heap.objs.size) (o:=aM s.heap.objs.size d) (λb u e=>a0e _ e) (a0l _) ⟨⟨m,T,big,w,_,#[],0,n,⟨rfl,rfl,rfl⟩,rfl,K,h5⟩,⟨_,n⟩,?_⟩,rfl,q _ hn⟩;rintro k1 k2 ⟨m,r,O,w,o,c,x,i,v⟩ M;exact⟨m,r,O,w,o,c,x,M o i,v⟩
 have J:=Tf (bs:=d.map (·.2.1)) (λz=>l<|a6v.mp z) (by rw[E,a0x];rfl);simp only[J,b0D,a2E,if_true];refine a0b<|a2f n rfl ?_;simp only[Array.isEmpty_empty,if_true];have hes:c.size<=a0s:=by lia
 have G:=Tg (bs:=d.map (·.2.1)) (λz=>l<|a6v.mp z) (by rw[E,a0x];rfl);refine a0b<|Te (bs:=d.map (·.2.1)) ga (by rw[E,a0x];rfl) (λb hb=>?_) N ?_
 .obtain⟨p,hp,rfl⟩:=a0u.mp hb;obtain⟨its,rx,⟨ot,e1,e2,_⟩,_⟩:=I.tuple<|hk p hp;exact⟨ot,a0e _ e1,e2⟩
 simp only[G,a2E,if_true];refine a0b (wpAny_updateDictKeysTo n rfl (a0h ?_)<|by lia);have Z:=a2a (Obj.mapDictKeys λ_=>c) n<|a9t<|a6q (o:={cls:=.type "dict",data:=.dict #[]}) rfl _;refine a0b<|a0h<|a0h ?_;refine⟨rfl,.ref s.heap.objs.size,_,I.laid (t':=s.toks) (a:=s.heap.objs.size) (o:=aM s.heap.objs.size d) (λb u e=>?_) (a0l _) ⟨⟨m,T,big,w,_,c,1,Z,?_,rfl,K,h5⟩,⟨_,Z⟩,?_⟩,rfl,q _ hn⟩
 .rw[a1Q _ _<|a1j<|a0y<|a0m e];exact a0e _ e
 .exact b1u ⟨rfl,rfl,rfl⟩ _
 .rintro k1 k2 ⟨m,r,O,w,o,c,x,i,v⟩ M;exact⟨m,r,O,w,o,c,x,M o i,v⟩
noncomputable abbrev sH:=List<|List Int×Addr×Value
inductive Hits (A:a1b)(s:a0i)(ys:sH):sH->Bool->Prop
 |nil:Hits A s ys [] b5
 |miss {x:List Int×Addr×Value}{r:sH}:a6L ys x.1=b0->Hits A s ys (x::r) b3
 |hit {x:List Int×Addr×Value}{p:Addr×Value}{r:sH}{e b:Bool}:a6L ys x.1=a7 p->a5F A s x.2.2 p.2 e->Hits A s ys r b->Hits A s ys (x::r) (e&&b)
theorem Ti d(hd:(d==a1W)=b3):b1f P w (Builtin.«dict.values» ⟨[.ref d],[]⟩) (λ_ R s=>(∃es ep,RawD s.heap d es ep) /\
   R (.ok<|.ret<|.ref s.heap.objs.size) {s with heap:=s.heap.push {cls:=.type "dict_values",data:=.fields #[.ref d]}}):=
 .of_wp λA R s ⟨⟨es,ep,g⟩,h⟩=>by show a0A _ _ (a5E "values" _ >>= _) _ _ s;refine a0b ?_;unfold a5E;refine a0b<|a2O g.ty ?_;show a0A _ _ (pure d) _ _ s;refine a0h ?_;show a0A _ _ (a2C d >>= _) _ _ s;unfold a2C;rw[if_neg<|by rw[hd];exact a0K];refine a0b<|a0h ?_;exact a0b<|a1K<|a0h ⟨_,rfl,h⟩
theorem Tj(c:s.heap.IsValuesView v d)(g:RawD s.heap d es ep)(q:Q (.ref s.heap.objs.size) {s with heap:=s.heap.push {cls:=.type "dict_valueiterator",data:=.fields #[.ref d,.int 0 0,.int es.size 0,.int ep 0]}}):a0A (a0L P w) A (a5L<|.ref v) Q E s:=by
 obtain⟨l,b,j,a⟩:=id c;obtain⟨z,e,k,h⟩:=id g;refine a7A c.typeIs F.slot_dict_values_iter<|a2k F.slot_dict_values_iter c.typeIs F.entry_dict_values_iter ?_<|F.args_dict_values_iter_1 _;unfold Builtin.«dict_values.__iter__»;refine a0b<|a0h<|a0b ?_;unfold a5Y;refine a0b<|a4T b a (x:=.ref d) rfl<|a0h<|a0b ?_;unfold a5D;refine a0b<|a2f e h<|a0b<|a3J e h ?_;simp only[show a2H "dict_valueiterator"=b3 by decide,a0t,if_false];refine a1K<|a0h ⟨_,rfl,"dict_valueiterator",_,⟨_,a0o _ rfl,rfl⟩,F.slot_dict_valueiterator_next.lookup,?_⟩;simpa[a3P]using q
theorem FJ(o:A.handled=b0)(j:s.heap.IsValIter it d i es.size ep)(g:RawD s.heap d es ep)(r:∀e a,es[i]?=a7 e->a.IsValIter it d (i+1) es.size ep->a2X it s.heap a->Q (a7 e.val) {s with heap:=a})(v:es[i]?=b0->∀a,a5q it s.heap a->Q b0 {s with heap:=a}):a0A (a0L P w) A (a3C<|.ref it) Q E s:=by
 obtain⟨y,h,p,b⟩:=id j;obtain⟨z,l,B,m⟩:=id g;have k:∀{Q:String->a0i->Prop}{A:a1b}{E:Value->a0i->Prop},Q "dict_valueiterator" s->a0A (a0L P w) A (a8m<|.ref it) Q E s:=λq=>wpAny_typeNameOfWhole_valiter j.typeIs q;unfold a3C;refine a0b<|a9e<|a5W (name:=a1T "__next__") j.typeIs F.slot_dict_valueiterator_next<|a2k F.slot_dict_valueiterator_next j.typeIs F.entry_dict_valueiterator_next ?_<|F.args_dict_valueiterator_next_1 _;refine a0b<|a0h<|a0b<|a0b<|a0b<|k<|a0h<|a0b<|a8z h b ?_;simp only[show a2H "dict_valueiterator"=b3 by decide,a0t,if_false];show a0A _ _ (if(a0n d==a1z)=b5 then _ else _) _ _ _;rw[if_neg<|show ¬ (a0n d==a1z)=b5 from λx=>a0K x];refine a0b<|a0h<|a0b<|a2f l m ?_;rw[if_neg λx=>by simp at x];refine a0b<|a0h<|a0b<|a3J l m ?_;rw[if_neg λx=>by simp at x];refine a0h ?_;simp only[if_neg<|show ¬ ((i:Int)<0) by lia,a4u];cases n:es[i]? with
 |some e=>
  refine a0b<|a0b<|k<|a0h<|a0b<|a6z j.typeIs ?_;show a0A _ _ (a7C (.ref it) 1 (a3P<|(i:Int)+1) >>= _) _ _ _;refine a0b (a5u h b (by simp) ?_);have c:(s.heap.update it<|a6G (·.setIfInBounds 1<|a3P<|(i:Int)+1)).IsValIter it d (i+1) es.size ep:=
   ⟨_,a2a _ h<|a8U<|a5f b _,(b0a ..).trans p,by simp[a5f b,a3P]⟩
  generalize hu:s.heap.update it (a6G (·.setIfInBounds 1<|a3P<|(i:Int)+1))=u at c;refine a0b<|a1q<|a0b<|a6z (s:={s with heap:=u}) c.typeIs<|a0b<|a6z (s:={s with heap:=u}) c.typeIs ?_;show a0A _ _ (pure e.val) _ _ _;exact a0h<|a0h ⟨_,rfl,a0h<|r e u n c<|hu▸a2y ..⟩
 |none=>refine a0b<|a0b<|k<|a0h ?_;show a0A _ _ (a7C (.ref it) 0 .none >>= _) _ _ _;refine a0b (a5u h b (by simp) ?_);show a0A _ _ (a9D (.type "StopIteration") [] >>= _) _ _ _;simp only[a9D,b2m];refine a0b (a0b<|a1K ?_<|by size_fits);refine a0b (m:=a4B _ _) (a6J (a:=a1z) (by first|rfl|(simp only[a4B];rfl))<|a1K ?_<|by size_fits);simp only[b2l];refine a0b<|a9c ?_;rw[show A.in1.handled=b0 from o];refine a0b<|a0h<|b0k ?thrown;case thrown=>exact a0b<|a4e (T:="StopIteration") (b:=b5) ⟨_,a0o _ rfl,rfl⟩ a8B<|a0h<|v n _<|((a2y ..).extBut.push _).push _
noncomputable def AD(d:Addr)(ob:Obj)(ps:bN):It:=⟨λi H=>H d=a7 (.frz ob<|aM d ps)/\i<ps.length,λi H x a=>a=H/\∃p,ps[i]?=a7 p/\x=p.2.2,λi H=>H d=a7 (.frz ob<|aM d ps)/\ps.length<=i⟩
theorem Tn(hd:ob.data=.dict es ep):Turn Qc P w K tg (AD d ob ps) [n] n (λi h=>h.IsValIter n d i es.size ep) where
 mem:=by simp
 obj:=λi h st b j=>by
  have e:b=n:=by simpa using j
  subst e;obtain⟨o,e,c,d⟩:=st;exact⟨o,e,λv z=>by rw[d]at z;cases z⟩
 keep:=λi h q st k=>let⟨o,e,c⟩:=st;⟨o,k n (by simp) o e,c⟩;item:=by
  intro X Q hw O hc i p s Z H E I y st R;subst Q hw O;obtain⟨m,r⟩:=R;obtain⟨lo,hl,B,A,g,a,x⟩:=sG I m;rw[hd]at a;cases a;have hs:es.size=ps.length:=by have:=x.length;rw[a0d,a0d,a2p]at this;exact this.symm
  obtain⟨G,J,f2,L,M,N⟩:=y n (by simp);refine FJ (I.ok.hd hc) st g (λe q l U sb=>?_) λhn=>by simp at hn;lia
  have I1:Inv X p Z H {s with heap:=q}:=I.turned (t':=s.toks) (λb o j e=>(sb.2 b j).trans e) G J L M N;obtain⟨o,e1,c,d1⟩:=id U;have T:ps[i]?=a7 ps[i]:=a0w r;obtain⟨u,Y,u2⟩:=x.get (i:=i) (x:=ps[i].2.2) (by rw[a0v,T];rfl);rw[a0v,a1y,l]at Y;cases Y;exact⟨e.val,rfl,o3 (s:={s with heap:=q}) e1 c d1 (by decide) ⟨ps[i].2.2,H,I1,u2,⟨rfl,ps[i],T,rfl⟩,U,λb j=>(y b j).1⟩⟩
 done:=by
  intro X Q hw O hc i p s Z H E I y st R;subst Q hw O;obtain⟨m,r⟩:=R;obtain⟨lo,hl,B,A,g,a,x⟩:=sG I m;rw[hd]at a;cases a;have hs:es.size=ps.length:=by have:=x.length;rw[a0d,a0d,a2p]at this;exact this.symm
  obtain⟨G,J,f2,L,M,N⟩:=y n (by simp);exact FJ (I.ok.hd hc) st g (λe q l=>by
   have:=(a4X.mp l).1;lia) λ_ q eb=>⟨rfl,I.turned (t':=s.toks) (λb o j e=>eb b o j e) G J L M N⟩
 self:=λ_ _ _ _ _ st h=>wpAny_pyIter_valiter st h
theorem To(G:PE X l J)(j:a2Q l "values" X.env (eval l X.env)=eval l X.env)(k:(a.endLine==c.line)=b5):
  PI X tg (.Call (.Attribute l "values" a) [] [] c) (λp H R=>J p H λv m=>∃d x A,v=.ref d/\m d=a7 (.frz x<|aM d A)/\R (AD d x A) m):=by
 intro i s p H R I h;refine a4v j k<|aP (G i s p H _ I h) λv n ⟨y,m,B,r1,q1⟩=>?_;obtain⟨d,x,A,e,E,q⟩:=q1;subst e;obtain rfl:v=a0n d:=r1;obtain⟨Z,G,N,L,g,hd,he⟩:=sG B E;refine⟨"dict","dict.values",a4c,a7F,PySem.F.type_dict_values,g.ty,λb K=>?_,a2V rfl<|a4H ?_⟩
 .cases K;obtain⟨z,Q,u,_⟩:=g;exact⟨z,Q,u.2.1⟩
 refine a5n a7F g.ty PySem.F.entry_dict_values (PySem.F.args_dict_values_1 _) (Ti d Z) ⟨⟨N,L,g⟩,?_⟩;have r:Inv X i p m {n with heap:=n.heap.push {cls:=.type "dict_values",data:=.fields #[.ref d]}}:=B.kept (t':=n.toks) λb o e=>a0e _ e;obtain⟨lo2,Y,O,M,u,w,U⟩:=sG r E;show a0A (a0L X.prog X.w) X.A (a5L<|.ref n.heap.objs.size) (yA X i p tg R) X.xe _;refine Tj ⟨_,a0o _ rfl,rfl,rfl⟩ u ⟨_,[_],_,_,m,rfl,r.kept (t':=n.toks) λb o e=>a0e _ e,Tn w,⟨_,a0o _ rfl,rfl,rfl⟩,λb T=>?_,q⟩;have e:=a0N.mp T;subst e;exact r.fpOk (a0l _)<|r.hok.fresh<|a0l _
noncomputable def jS(kvs:jx):List D:=kvs.map (·.2)
theorem Tp{ps:bN}(c:H d=a7 (.frz ob<|aM d ps))(T:IsTs K π n H ps kvs):Wk K (AD d ob ps) (dQ<|.tup<|jS kvs) π n H:=by
 have s:ps.length=kvs.length:=by have:=congrArg a1n T.to.1;simpa using this
 refine⟨λb q h i e R z=>?_,λb q h i j e R z=>?_⟩
 .have a:(jS kvs)[i]?=none:=a0B z;have:=a1i.mp a;rw[jS,a0d]at this;exact⟨e.frz _ _ _ c,by lia⟩
 .have a:(jS kvs)[i]?=a7 j:=a0B z;have u:i<kvs.length:=by have:=(a0f.mp a).1;rwa [jS,a0d]at this
  refine⟨⟨e.frz _ _ _ c,by lia⟩,λv r ⟨k,p,l,m⟩=>?_⟩;subst k m;obtain⟨w,g,o⟩:=(T.to.2.2.mono e).get a;rw[a0v,l]at g;cases g;exact⟨.refl,R,o⟩
noncomputable def qF(m:ME):MI:=λb μ=>(m b μ).bind λp=>match p.1 with
 |.loc a=>match p.2[a]? with
  |some (.dF kvs)=>a7 (dQ<|.tup<|jS kvs,kvs.length+1,p.2)|_=>b0
 |_=>b0
theorem Tq(h:QE X e m)(r:d7 e=b5)(q:(a.endLine==b.line)=b5):QJ X (.Call (.Attribute e "values" a) [] [] b) (qF m):=⟨λtg b2w s σ H R I hw=>by
 obtain⟨J,K,A,z,n,B,l,E,c,k⟩:=hw;obtain⟨⟨x,G⟩,p,c⟩:=a0a.mp c;dsimp only at c;split at c
 .split at c
  .rename_i v hc;cases c;refine To h.h (iS r) q b2w s σ H R I ⟨J,K,A,_,_,l,E,p,λd L j o g u=>?_⟩;cases u;obtain⟨w,y,i,T⟩:=pW g hc;exact⟨_,w,y,rfl,i,k d j _ o g<|Tp i T⟩
  .cases c
 .cases c⟩
theorem FK(h:A.handled=b0)(j:IsItemIter s.heap it d i es.size ep ok ov)(g:RawD s.heap d es ep)(m:∀e a,es[i]?=a7 e->a7m a it d (i+1) es.size ep e.key e.val s.heap.objs.size->a.get? s.heap.objs.size=a7 {cls:=.type "tuple",data:=.seq #[e.key,e.val]}->
   (∀b o,b≠it->s.heap.get? b=a7 o->a.get? b=a7 o)->Q (a7<|.ref s.heap.objs.size) {s with heap:=a})(n:es[i]?=b0->∀a,a5q it s.heap a->Q b0 {s with heap:=a}):a0A (a0L P w) A (a3C<|.ref it) Q E s:=
 Av (S:=d) h j (.inl rfl) g g.lt (λe a c _ o l _ k=>m e a c (o rfl) l k) n
noncomputable def AE(d:Addr)(ob:Obj)(ps:bN):It:=⟨λi H=>H d=a7 (.frz ob<|aM d ps)/\i<ps.length,λi H x a=>∃t p,x=.ref t/\H t=b0/\ps[i]?=a7 p/\a=aK H t (.tup [.ref p.2.1,p.2.2]),λi H=>H d=a7 (.frz ob<|aM d ps)/\ps.length<=i⟩
theorem Ts(hd:ob.data=.dict es ep):Turn Qc P w K (.Tuple el kx pt) (AE d ob ps) [j] j (λi h=>∃ok p,IsItemIter h j d i es.size ep ok p) where
 mem:=by simp
 obj:=λi h ⟨ok,p,st⟩ b n=>by
  have e:b=j:=by simpa using n
  subst e;exact⟨_,st,λv z=>by
   have z':a1c _=a5C v:=z;cases z'⟩
 keep:=λi h O ⟨ok,p,st⟩ k=>⟨ok,p,k j (by simp) _ st⟩;item:=by
  intro X T hw R hc i L s σ H E I G ⟨ok,p,st⟩ Y;subst T hw R;obtain⟨m,x⟩:=Y;obtain⟨lo,hl,N,M,g,a,J⟩:=oA I m;rw[hd]at a;cases a;obtain⟨_,_,es2,ep2,_,r,he⟩:=sG I m;rw[hd]at r;cases r;have hs:es.size=ps.length:=by have:=congrArg a1n J;simpa using this
  refine FK (I.ok.hd hc) st g (λe O l a1 a2 a3=>⟨_,rfl,wpAny_letOwnedTupleGo_items a1 λh2 b1 B=>?_⟩) λhn=>by simp at hn;lia
  have Z:ps[i]?=a7 ps[i]:=a0w x;have ek:e.key=.ref (ps[i]).2.1:=by have:=congrArg (·[i]?) J;simp only[a0v,a1y,l,Z,a0M]at this;exact a0B this
  obtain⟨u,u1,u2⟩:=he.get (i:=i) (x:=ps[i].2.2) (by rw[a0v,Z];rfl);rw[a0v,a1y,l]at u1;cases u1;have y:j<s.heap.objs.size:=a0m st;have ht2:h2.get? s.heap.objs.size=a7 {cls:=.type "tuple",data:=.seq #[e.key,e.val]}:=(B.2 _<|a2h y).trans a2;have U:H s.heap.objs.size=none:=I.hok.fresh<|a0l _;refine⟨.ref s.heap.objs.size,aK H s.heap.objs.size<|.tup [.ref (ps[i]).2.1,(ps[i]).2.2],?_,rfl,⟨_,ps[i],rfl,U,Z,rfl⟩,⟨_,_,b1⟩,λc n=>?_⟩
  .refine Ai (s:=s) (h':=h2) (t':=s.toks) (ch:=[j]) I (λc oc n ec=>?_) G (a0l _) ?_
   .have q:c≠j:=by simpa using n
    exact(B.2 c q).trans<|a3 c oc q ec
   .exact⟨by show(2:Nat)<=a0s;decide,[e.key,e.val],.cons ek<|.cons u2 .nil,_,ht2,rfl,0,rfl,rfl⟩
  .rw[a9]
   .exact(G c n).1
   .have e:c=j:=by simpa using n
    rw[e];exact a0y y
 done:=by
  intro X T hw R hc i L s σ H E I G ⟨ok,p,st⟩ Y;subst T hw R;obtain⟨m,x⟩:=Y;obtain⟨lo,hl,N,M,g,a,J⟩:=oA I m;rw[hd]at a;cases a;have hs:es.size=ps.length:=by have:=congrArg a1n J;simpa using this
  obtain⟨f0,f1,f2,f3,f4,f5⟩:=G j (by simp);exact FK (I.ok.hd hc) st g (λe O l=>by
   have:=(a4X.mp l).1;lia) λ_ O eb=>⟨rfl,I.turned (t':=s.toks) (λb o n e=>eb b o n e) f0 f1 f3 f4 f5⟩
 self:=λA i s Q E ⟨ok,p,st⟩ h=>PySem.W.kcp_self st h
theorem FL(J:PE X l L)(j:a2Q l "items" X.env (eval l X.env)=eval l X.env)(k:(a.endLine==c.line)=b5):
  PI X (.Tuple E K pt) (.Call (.Attribute l "items" a) [] [] c) (λp H R=>L p H λv m=>∃d x A,v=.ref d/\m d=a7 (.frz x<|aM d A)/\R (AE d x A) m):=by
 intro i s p H R I h;refine a4v j k<|aP (J i s p H _ I h) λv n ⟨y,m,B,r1,q1⟩=>?_;obtain⟨d,x,A,e,G,q⟩:=q1;subst e;obtain rfl:v=a0n d:=r1;obtain⟨lo,J,Q,N,g,hd,he⟩:=oA B G;refine⟨"dict","dict.items",a4c,a4b,a7N,g.ty,λb M=>?_,a2V rfl<|a4H ?_⟩
 .cases M;obtain⟨z,U,u,_⟩:=g;exact⟨z,U,u.2.1⟩
 refine a5n a4b g.ty a7G (a7u _) (Fu d lo) ⟨⟨Q,N,g⟩,?_⟩;have r:Inv X i p m {n with heap:=n.heap.push {cls:=.type "dict_items",data:=.fields #[.ref d]}}:=B.kept (t':=n.toks) λb o e=>a0e _ e;obtain⟨lo2,hl2,T,O,u,w,Z⟩:=oA r G;show a0A (a0L X.prog X.w) X.A (a5L<|.ref n.heap.objs.size) (yA X i p (.Tuple E K pt) R) X.xe _;refine Fq ⟨_,a0o _ rfl,rfl,rfl⟩ u ⟨_,[_],_,_,m,rfl,r.kept (t':=n.toks) λb o e=>a0e _ e,Ts w,⟨_,_,a0o _ rfl⟩,λb Y=>?_,q⟩;have e:=a0N.mp Y;subst e;exact r.fpOk (a0l _)<|r.hok.fresh<|a0l _
noncomputable def fR(kvs:jx):List D:=kvs.map λk=>.tup [.tup<|k.1.map D.int,k.2]
theorem FN{ps:bN}(h:H d=a7 (.frz ob<|aM d ps))(T:IsTs K π n H ps kvs):Wk K (AE d ob ps) (dQ<|.tup<|fR kvs) π n H:=by
 have B:ps.length=kvs.length:=by have:=congrArg a1n T.to.1;simpa using this
 refine⟨λg y l i e R z=>?_,λg y l i m e R z=>?_⟩
 .have a:(fR kvs)[i]?=none:=a0B z;have:=a1i.mp a;rw[fR,a0d]at this;exact⟨e.frz _ _ _ h,by lia⟩
 .have a:(fR kvs)[i]?=a7 m:=a0B z;have x:i<kvs.length:=by have:=(a0f.mp a).1;rwa [fR,a0d]at this
  refine⟨⟨e.frz _ _ _ h,by lia⟩,λv A ⟨t,p,o,q,r,s⟩=>?_⟩;subst o s;have b:kvs[i]?=a7 kvs[i]:=a0w x;obtain⟨E,j,u⟩:=(T.to.2.1.mono e).get (i:=i) (d:=D.tup ((kvs[i]).1.map D.int)) (by rw[a0v,b];rfl);obtain⟨G,k,w⟩:=(T.to.2.2.mono e).get (i:=i) (d:=(kvs[i]).2) (by rw[a0v,b];rfl);rw[a0v,r]at j k;cases j;cases k;obtain⟨c,R2⟩:=R.fresh (o:=.tup [.ref p.2.1,p.2.2]) q;rw[fR,a0v,b]at a;cases a;exact⟨c,R2,.tup (.of cP)<|.cons (u.mono c)<|.cons (w.mono c) .nil⟩
noncomputable def mR(m:ME):MI:=λb μ=>(m b μ).bind λp=>match p.1 with
 |.loc a=>match p.2[a]? with
  |some (.dF kvs)=>a7 (dQ<|.tup<|fR kvs,kvs.length+1,p.2)|_=>b0
 |_=>b0
theorem Tt(h:QE X e m)(r:d7 e=b5)(q:(a.endLine==b.line)=b5):QJT X (.Call (.Attribute e "items" a) [] [] b) (mR m):=⟨λes L pt b2w s σ H R I hw=>by
 obtain⟨J,K,A,z,n,B,l,E,c,k⟩:=hw;obtain⟨⟨x,G⟩,p,c⟩:=a0a.mp c;dsimp only at c;split at c
 .split at c
  .rename_i v hc;cases c;refine FL h.h (iS r) q b2w s σ H R I ⟨J,K,A,_,_,l,E,p,λd M j o g u=>?_⟩;cases u;obtain⟨w,y,i,T⟩:=pW g hc;exact⟨_,w,y,rfl,i,k d j _ o g<|FN i T⟩
  .cases c
 .cases c⟩
theorem Tu(i:PE X l g):PE X l (λσ H Q=>g σ H λv a=>∃d ps,v=.ref d/\a d=a7 (aM d ps)/\∀ob,Q v (aK a d<|.frz ob<|aM d ps)):=by intro b s σ H Q I h;refine aP (i b s σ H _ I h) λv n ⟨y,a,c,m,k⟩=>?_;obtain⟨d,ps,rfl,e,q⟩:=k;obtain⟨_,⟨ob,j⟩,_⟩:=(show ObjOk X.prog X.w a n.heap d (aM d ps)from c.hok _ _ e);exact⟨_,_,Inv.freeze c e j,m,q ob⟩
noncomputable def FP(m:ME):MI:=λb μ=>(m b μ).bind λp=>match p.1 with
 |.loc a=>match p.2[a]? with
  |some (.dT kvs)=>a7 (dQ<|.tup<|fR kvs,kvs.length+1,p.2.set a<|.dF kvs)|_=>b0
 |_=>b0
theorem Tv(h:QE X e m)(w:d7 e=b5)(v:(a.endLine==b.line)=b5):QJT X (.Call (.Attribute e "items" a) [] [] b) (FP m):=⟨λes M pt b2w s σ H R I hw=>by
 obtain⟨J,K,A,z,n,B,q,E,c,k⟩:=hw;obtain⟨⟨x,G⟩,u,c⟩:=a0a.mp c;dsimp only at c;split at c
 .split at c
  .rename_i i hc;cases c;refine FL (Tu h.h) (iS w) v b2w s σ H R I ⟨J,K,A,_,_,q,E,u,λl N L r o y=>?_⟩;cases y;obtain⟨d,p,T⟩:=fP o hc;refine⟨_,d,rfl,p,λj=>?_⟩;obtain⟨g,R2⟩:=o.put (c:=.dF i) (o:=.frz j (aM _ d)) (a0f.mp hc).1 p (.inr<|.inr ⟨_,rfl⟩) ⟨j,d,rfl,T.to⟩;exact⟨_,j,d,rfl,cP,k l _ _ (r.trans g) R2<|FN cP<|IsTs.of T.to.1 (T.to.2.1.mono g)<|T.to.2.2.mono g⟩
  .cases c
 .cases c⟩
open PyProof.Rows (IsTup kmk_tree seqObj)
noncomputable abbrev Lft(wr:List Addr)(S:Addr)(h h':a1C):Prop:=∀b o,b∉wr->b≠S->h.get? b=a7 o->h'.get? b=a7 o
theorem Tw{St:Nat->a1C->Prop}{J:a1C->Prop}(K:Walks P w A.in1 I fp wr n Pv St)(T:∀h h',J h->Lft wr S h h'->J h')(hc:∀i j vi vj t (Q E:Value->a0i->Prop),J t.heap->Pv i vi->Pv j vj->Q (.bool<|bt i j) t->a0A (a0L P w) A.in1 (a5H .Lt vi vj) Q E t)(U:S∉fp):
  ∀k j s g c,n-(j+1)=k->j+1<=n->St (j+1) s.heap->J s.heap->Pv (a4p bt j) g->s.heap.get? S=a7 {cls:=.type "list",dict:=b0,data:=.seq #[g,g] c,slots:=#[]}->
   (∀v h' G,Pv (a4p bt<|n-1) v->Lft wr S s.heap h'->R (.ok<|.ret v) {s with heap:=h',toks:=G})->a3q (a0L P w) A (.builtin "min.loop" ⟨[.ref I,.none,.ref S],kw⟩) R s:=by
 have Z:S∉wr:=λz=>U<|K.sub _ z;have nm:(toString "min"++toString ".loop":String)="min.loop":=by decide
 intro k;induction k with
 |zero=>
  intro j s g c e1 e2 st Y B u q;obtain rfl:j+1=n:=by lia
  refine a2A F.entry_min_loop ?_;rw[a1P F.plain_min_loop _];refine a0b (m:=a9o (.ref S))<|a6I u rfl ?_;refine a0b (m:=tryCatch (a3C<|.ref I) _)<|a3Y<|K.done s _ _ st λh' G p=>?_;refine a0b (m:=a7S S λ_=>#[])<|a3G (p S _ Z u) rfl<|a0b<|a5G<|a0h ?_;exact q g _ G B λb o d a e=>(a1Q _ _<|a1j a).trans<|p b o d e
 |succ k X=>
  intro j s g c e1 e2 st Y B u q;refine a2A F.entry_min_loop ?_;rw[a1P F.plain_min_loop _];refine a0b (m:=a9o (.ref S))<|a6I u rfl ?_;refine a0b (m:=tryCatch (a3C<|.ref I) _) (a3Y<|K.item (j+1) s _ _ (by lia) st λv h' G pv x p=>?_);have l:=p S _ Z u;have m:=T _ h' Y λb o d _ e=>p b o d e;show a0A _ A.in1 (tryCatch (holding [v,v]<|a5H .Lt v g >>= _) _ >>= _) _ _ _;refine a0b<|a3Y<|a1q<|a0b<|hc (j+1) (a4p bt j) v g _ _ _ m pv B<|a0b<|a1q<|a2v<|a0b<|a5G<|a0h ?_;cases y:bt (j+1) (a4p bt j)with
  |true=>simp only[if_true];refine a0b<|a3G l rfl<|a0b<|a5G ?_;rw[nm];have M:Lft [] S h' (h'.update S<|a2g λ_=>#[v,v]):=λb o _ a e=>(a1Q _ _<|a1j a).trans e;refine a0h ⟨a2o F.plain_min_loop _,X (j+1) _ v _ (by lia) (by lia) (K.frame _ _ _ x λb y o e=>M b o (by simp) (λz=>U<|z▸y) e) (T _ _ m λb o _ a e=>M b o (by simp) a e) (by simp only[a4p,y,if_true];exact pv) (a2a _ l rfl) λO H r N L=>?_⟩;exact q O H r N λb o d a e=>L b o d a (M b o (by simp) a<|p b o d e)|false=>simp only[a0t,if_false];refine a0b<|a5G ?_;rw[nm];exact a0h ⟨a2o F.plain_min_loop _,X (j+1) _ g c (by lia) (by lia) x m (by simp only[a4p,y,a0t,if_false];exact B) l λO H r N L=>q O H r N λb o d a e=>L b o d a<|p b o d e⟩
theorem Tx{St:Nat->a1C->Prop}{J:a1C->Prop}(K:Walks P w A.in1 I fp wr n Pv St)(p:∀h h',J h->Lft wr S h h'->J h')(hc:∀i j vi vj t (Q E:Value->a0i->Prop),J t.heap->Pv i vi->Pv j vj->Q (.bool<|bt i j) t->a0A (a0L P w) A.in1 (a5H .Lt vi vj) Q E t)(q:S∉fp)(st:St 0 s.heap)(N:J s.heap)(G:s.heap.get? S=a7 {cls:=.type "list",dict:=b0,data:=.seq #[] c,slots:=#[]})(Y:0<n->∀v h' k,Pv (a4p bt<|n-1) v->Lft wr S s.heap h'->R (.ok<|.ret v) {s with heap:=h',toks:=k})(Z:n=0->∃x d,kw=[(x,d)]/\∀h' k,Lft wr S s.heap h'->R (.ok<|.ret d) {s with heap:=h',toks:=k}):a3q (a0L P w) A (.builtin "min.loop" ⟨[.ref I,.none,.ref S],kw⟩) R s:=by
 have T:S∉wr:=λz=>q<|K.sub _ z;have U:(toString "min"++toString ".loop":String)="min.loop":=by decide
 refine a2A F.entry_min_loop ?_;rw[a1P F.plain_min_loop _];refine a0b (m:=a9o (.ref S))<|a6I G rfl ?_;by_cases H:n=0
 .subst H;obtain⟨x,d,rfl,q3⟩:=Z rfl;refine a0b (m:=tryCatch (a3C<|.ref I) _)<|a3Y<|K.done s _ _ st λh' k m=>?_;exact a0b<|a3Z<|a0h<|q3 h' k λb o a _ e=>m b o a e
 .refine a0b (m:=tryCatch (a3C<|.ref I) _) (a3Y<|K.item 0 s _ _ (by lia) st λv h' k pv y m=>?_);have l:=m S _ T G;have r:=p _ h' N λb o a _ e=>m b o a e;refine a0b (m:=a7S S λ_=>#[v,v])<|a3G l rfl ?_;rw[U];have u:Lft [] S h' (h'.update S<|a2g λ_=>#[v,v]):=λb o _ g e=>(a1Q _ _<|a1j g).trans e;refine a0h ⟨a2o F.plain_min_loop _,Tw K p hc q _ 0 _ v _ rfl (by lia) (K.frame _ _ _ y λb M o e=>u b o (by simp) (λz=>q<|z▸M) e) (p _ _ r λb o _ g e=>u b o (by simp) g e) pv (a2a _ l rfl) λv' L B X O=>?_⟩;exact Y (by lia) v' L B X λb o a g e=>O b o a g<|u b o (by simp) g<|m b o a e
noncomputable def qG(x y:List Int×List Int):Bool:=if x.1=y.1 then HT.lexLt x.2 y.2 else HT.lexLt x.1 y.1
theorem Tz(X:A.units+2<a2e)(I:a3M s.heap a #[.ref b,.ref c])(p:a3M s.heap i #[.ref j,.ref l])(y:jP P w s.heap b k)(d:jP P w s.heap j k')(hc:jP P w s.heap c m)(g:jP P w s.heap l u)(q:Q (.bool<|qG (k,m) (k',u)) s):a0A (a0L P w) A (a5H .Lt (.ref a)<|.ref i) Q E s:=by
 obtain⟨B,r,x,Y,J⟩:=id I;obtain⟨G,o,v,Z,H⟩:=id p;have h:A.in1.units<a2e:=by show A.units+1<a2e;lia
 refine wpAny_richCompare_same_room (op:=.Lt) ⟨B,r,x⟩ ⟨G,o,v⟩ F.slot_tuple_lt (a2k F.slot_tuple_lt ⟨B,r,x⟩ F.entry_tuple_lt ?_<|F.args_tuple_lt_2 _ _) (by lia);refine a0b (m:=isInstance (.ref i) (.type "tuple"))<|a4e ⟨G,o,v⟩ isSubtype_tuple_tuple ?_;simp only[a2N,a0t,if_false];refine a0b<|b0E r J<|a0b<|b0E o H<|a0b ?_;show a0A _ _ (forIn [(a0n b,a0n j),(a0n c,a0n l)] _ _) _ _ s;simp only[b0v,List.forIn_nil];refine a0b<|a0b<|(a4f<|a4A P w).eqBool h y.1 d.1 ?_;obtain⟨xs,O,K⟩:=y.2;obtain⟨ys,R,L⟩:=d.2;obtain⟨zs,T,M⟩:=hc.2;obtain⟨vs,U,N⟩:=g.2;unfold qG at q;dsimp only at q;by_cases e:k=k'
 .rw[decide_eq_true e];rw[if_pos e]at q;simp only[a2N,a0t,if_false];refine a0h<|a0b<|a0b<|(a4f<|a4A P w).eqBool h hc.1 g.1 ?_;by_cases n:m=u
  .rw[decide_eq_true n];subst n;rw[Aw]at q;simp only[a2N,a0t,if_false];exact a0h<|a0h<|a0h ⟨.bool b3,rfl,(λz=>nomatch z),q⟩
  .rw[decide_eq_false n];simp only[a2E,if_true];refine a0b (a3Z<|a0b<|HT.lt_tupInts T U (by simpa using M) (by simpa using N) h ?_);exact a0b<|a0h<|a0h<|a0h<|a0h ⟨_,rfl,(λz=>nomatch z),q⟩
 .rw[decide_eq_false e];rw[if_neg e]at q;simp only[a2E,if_true];refine a0b (a3Z<|a0b<|HT.lt_tupInts O R (by simpa using K) (by simpa using L) h ?_);exact a0b<|a0h<|a0h<|a0h<|a0h ⟨_,rfl,(λz=>nomatch z),q⟩
theorem FQ(r:Vals xs us){i:Nat}(h:us[i]?=a7 u):∃x,xs[i]?=a7 x/\RelV x u:=by
 cases e:xs[i]? with
 |none=>rw[r.none_of e]at h;cases h|some x=>obtain⟨c,a,b⟩:=r.get e;rw[a]at h;cases h;exact⟨x,rfl,b⟩
section
variable{X:Cx}{b2w:jw}{σ:St}{H:Hp}{s:a0i}
theorem vZ(I:Inv X b2w σ H s)(h:SqT X.K H b (k.map V.int)):jP X.prog X.w s.heap b k:=by obtain⟨a,c,t,_⟩:=I.tuple h;exact⟨kH I h,a,t,uI c⟩
structure PrV(K:a0c)(H:Hp)(v:V)(a b c:Addr)(z:List Int×List Int):Prop where
 v:v=.ref a
 t:SqT K H a [.ref b,.ref c]
 k:SqT K H b<|z.1.map V.int
 m:SqT K H c<|z.2.map V.int
theorem Lft.up{a:a1C}(j:∀b o,a.get? b=a7 o->h.get? b=a7 o)(l:Lft c S h h')(hw:∀b∈c,a.objs.size<=b)(d:a.objs.size<=S):∀b o,a.get? b=a7 o->h'.get? b=a7 o:=λb o e=>l b o (λz=>absurd (a0m e)<|a4j.mpr<|hw b z) (λz=>absurd (a0m e)<|a4j.mpr<|z▸d)<|j b o e
noncomputable def sI(ps:List (List Int×List Int))(i j:Nat):Bool:=qG (ps.getD i ([],[]))<|ps.getD j ([],[])
noncomputable def FR(K:a0c):gw->Hp->VK->Prop:=λxs H Q=>∃(p:Addr)(vs:gw)(ps:List (List Int×List Int)),xs=[.ref p,.non]/\SqL K H p vs/\(∀i v,vs[i]?=a7 v->∃a b c,PrV K H v a b c (ps.getD i ([],[]))) /\
 (vs=[]->Q .non H)/\∀v,vs[a4p (sI ps) (vs.length-1)]?=a7 v->Q v H
theorem TB a:argsOk "min" ⟨[a],[(a1T "default",.none)]⟩:=by unfold argsOk;kernel_rfl
noncomputable abbrev v7(a:Option Value):List (Str×Value):=a.toList.map λd=>(a1T "default",d)
theorem TC a(hd:a=b0\/a=a7 .none)(hit:∀{A}{Q E},Q (.ref s.heap.objs.size) {s with heap:=s.heap.push b}->a0A (a0L P w) A (a5L u) Q E s)(h:a3q (a0L P w) A (.builtin "min.loop" ⟨[.ref s.heap.objs.size,.none,.ref (s.heap.push b).objs.size],v7 a⟩) (λr d=>match r with|.ok (.ret v)=>Q v d|.ok _=>False|.error e=>E e d) {s with heap:=(s.heap.push b).push<|a2d "list" #[] 0}):
  a0A (a0L P w) A (call (.builtin "min") [u]<|v7 a) Q E s:=by
 have c:(toString "min"++toString ".loop":String)="min.loop":=by decide
 rcases hd with rfl|rfl
 .refine call_function_tree a9h a8R a8S (PySem.F.args_min1 _) ?_;refine a0b (m:=a3p "min" ["key","default"] 0 ⟨[],[]⟩)<|a6J (show a3p "min" ["key","default"] 0 ⟨[],[]⟩=pure [b0,b0]from rfl)<|a0b<|a0h<|a0b<|hit<|a0b<|a4l ?_<|a1U _;rw[c];exact a0h ⟨a2o a7Y _,h⟩
 .refine kmk_tree a9h a8R a8S (TB _) ?_;refine a0b (m:=a3p "min" ["key","default"] 0 ⟨[],[(a1T "default",.none)]⟩)<|a6J (show a3p "min" ["key","default"] 0 ⟨[],[(a1T "default",.none)]⟩=pure [b0,a7 .none]from rfl)<|a0b<|a0h<|a0b<|hit<|a0b<|a4l ?_<|a1U _;rw[c];exact a0h ⟨a2o a7Y _,h⟩
theorem FT(I:Inv X b2w σ H s)a(hd:a=b0\/a=a7 .none)(hit:∀{A}{Q E},Q (.ref s.heap.objs.size) {s with heap:=s.heap.push d}->a0A (a0L X.prog X.w) A (a5L u) Q E s){p:Addr}(y:p<s.heap.objs.size){St:Nat->a1C->Prop}(K:Walks X.prog X.w X.A.in1 s.heap.objs.size [s.heap.objs.size,p] [s.heap.objs.size] n g St)(st:St 0 ((s.heap.push d).push<|a2d "list" #[] 0))(c:∀i j k m (t:a0i)(Q E:Value->a0i->Prop),Inv X b2w σ H {s with heap:=t.heap,toks:=t.toks}->g i k->g j m->Q (.bool<|bt i j) t->a0A (a0L X.prog X.w) X.A.in1 (a5H .Lt k m) Q E t)(Z:0<n->∀v,g (a4p bt<|n-1) v->∃x,RelV x v/\Q x H)(q2:n=0->a=a7 .none/\Q .non H):a0A (a0L X.prog X.w) X.A (call (.builtin "min") [u]<|v7 a) (EP X b2w σ Q) X.xe s:=by
 have B:∀b o,s.heap.get? b=a7 o->((s.heap.push d).push<|a2d "list" #[] 0).get? b=a7 o:=λb o e=>a0e _<|a0e _ e;have M:(s.heap.push d).objs.size=s.heap.objs.size+1:=a3c ..;have r:s.heap.objs.size<=(s.heap.push d).objs.size:=by rw[M];exact a3w _
 have J:∀b∈[s.heap.objs.size],s.heap.objs.size<=b:=λb R=>a3V (a0N.mp R).symm;refine TC a hd hit<|Tx (bt:=bt) (J:=λh=>∀b o,s.heap.get? b=a7 o->h.get? b=a7 o) K (λh L j l=>l.up j J r) (λi j k m t O N Y T U q=>c i j k m t O N (I.kept (t':=t.toks) Y) T U q)
  (λz=>?_) st B (a0o _ rfl) (λw v L G pv l=>?_) λw=>?_
 .rcases a0D.mp z with e|z
  .exact a2h (Nat.lt_of_lt_of_eq (a1A _) M.symm) e
  .exact a2h (a0V y r)<|a0N.mp z
 .obtain⟨x,e,q⟩:=Z w v pv;exact⟨x,H,I.kept (t':=G)<|l.up B J r,e,q⟩
 .obtain⟨rfl,q⟩:=q2 w;exact⟨_,_,rfl,λL G l=>⟨.non,H,I.kept (t':=G)<|l.up B J r,rfl,q⟩⟩
theorem TF(hc:X.calm=b5)(M:X.A.units+64<a2e)(I:Inv X b2w σ H s)(L:SqL X.K H p vs)(K:∀i v,vs[i]?=a7 v->∃a b c,PrV X.K H v a b c (ps.getD i ([],[])))l(hd:(l=b0/\vs≠[])\/(l=a7 .none/\(vs=[]->Q .non H)))(Y:∀v,vs[a4p (sI ps) (vs.length-1)]?=a7 v->Q v H):
  a0A (a0L X.prog X.w) X.A (call (.builtin "min") [.ref p]<|v7 l) (EP X b2w σ Q) X.xe s:=by
 have B:X.A.in1.handled=none:=I.ok.hd hc;obtain⟨d,y,w,hz⟩:=I.list L;have G:d.toArray.size=vs.length:=by rw[a0J,<- y.length]
 have k:p<s.heap.objs.size:=by obtain⟨o,J,_⟩:=w.isList;exact a0m J
 refine FT I l (hd.imp And.left And.left) (λq=>a3Q w.isList q) k (a9f B _ p (a0y k) d.toArray) ⟨⟨_,a0e _<|a0o _ rfl,rfl,rfl⟩,(w.isList.push _).push _⟩ (bt:=sI ps) (λi j vi vj t Q' E' m u E q=>?_) (λA v pv=>?_) λA=>?_
 .have e:∀{i v},d.toArray[i]?=a7 v->∃a b c,v=.ref a/\a3M t.heap a #[.ref b,.ref c]/\jP X.prog X.w t.heap b (ps.getD i ([],[])).1/\jP X.prog X.w t.heap c (ps.getD i ([],[])).2:=λ{i v} u=>by obtain⟨x,n,r⟩:=FQ y (i:=i) (u:=v) (by simpa using u);obtain⟨a,b,c,g⟩:=K i x n;obtain⟨rfl⟩:=g.v;cases r;obtain⟨us,ru,t,_⟩:=m.tuple g.t;obtain⟨u1,u2,rfl,Z,r2⟩:=CL ru;cases Z;cases r2;exact⟨a,b,c,rfl,t,(vZ m g.k:),(vZ m g.m:)⟩
  obtain⟨a,b,c,rfl,t1,N,R⟩:=e u;obtain⟨a',b',c',rfl,t2,O,T⟩:=e E;exact Tz (by show X.A.units+1+2<a2e;lia) t1 t2 N O R T q
 .obtain⟨x,n,r⟩:=FQ y (i:=a4p (sI ps) (d.toArray.size-1)) (u:=v) (by simpa using pv);exact⟨x,r,Y x<|by rw[<- G];exact n⟩
 .have z:vs=[]:=a2R.mp (by lia);rcases hd with⟨_,h⟩|⟨rfl,U⟩
  .exact absurd z h
  .exact⟨rfl,U z⟩
theorem TH(hc:X.calm=b5)(a:X.A.units+64<a2e){xs:gw}(I:Inv X b2w σ H s)(r:∃y,xs=[y,.non]/\RelV y u)(h:FR X.K xs H Q):
  a0A (a0L X.prog X.w) X.A (call (.builtin "min") [u] [(a1T "default",.none)]) (EP X b2w σ Q) X.xe s:=by
 obtain⟨p,k,j,rfl,d,c,e,g⟩:=h;obtain⟨y,b,i⟩:=r;cases b;cases i;exact TF hc a I d c (a7 .none) (.inr ⟨rfl,e⟩) g
end
noncomputable def AF:D->Option (List Int×List Int)
 |.tup [a,b]=>(c5 a).bind λk=>(c5 b).map λm=>(k,m)|_=>b0
noncomputable def AG:List D->Option (List<|List Int×List Int)
 |[]=>a7 []|d::ds=>(AF d).bind λz=>(AG ds).map λa=>z::a
noncomputable def v8:MF:=λds μ=>match ds with
 |[.loc a,.non]=>match μ[a]? with
  |some (.lst xs)=>(AG xs).bind λb=>if xs=[]then a7 (.non,μ)else(xs[a4p (sI b) (xs.length-1)]?).map λd=>(d,μ)|_=>b0
 |_=>b0
theorem TJ(h:IsD K π n H v x)(e:AF x=a7 z):∃a b c,PrV K H v a b c z:=by
 unfold AF at e;split at e
 .obtain⟨k,d,e⟩:=a0a.mp e;obtain⟨m,g,e⟩:=a0g.mp e;cases e;cases h with
  |tup j t=>
   cases t with
   |cons l t=>
    cases t with
    |cons o t=>cases t;obtain⟨b,rfl,i⟩:=jN l d;obtain⟨c,rfl,hc⟩:=jN o g;exact⟨_,b,c,rfl,j,i,hc⟩
 .cases e
theorem FU:∀{xs}{vs}{ps},IsDs K π n H vs xs->AG xs=a7 ps->∀i v,vs[i]?=a7 v->∃a b c,PrV K H v a b c (ps.getD i ([],[]))
 |[],_,_,h,_,i,v,hv=>by cases h;cases hv
 |x::xs,_,_,h,e,i,v,hv=>by
  obtain⟨z,d,e⟩:=a0a.mp e;obtain⟨k,g,e⟩:=a0g.mp e;cases e;cases h with
  |cons j t=>
   cases i with
   |zero=>cases hv;exact TJ j d|succ i=>exact FU t g i v hv
theorem TK:dJ K v8 (FR K):=by
 intro h H G g d y E Q R i a k;unfold v8 at a;split at a
 .split at a
  .rename_i g r;obtain⟨w,n,a⟩:=a0a.mp a;cases i with
   |cons s t=>
    cases t with
    |cons u t=>
     cases t;cases u;obtain⟨p,x,e,q,hd⟩:=mK (xs:=g) R s (by simp only[d8,r]);refine⟨p,x,w,by rw[e],q,FU hd n,λj=>?_,λv b=>?_⟩
     .subst j;cases hd;rw[if_pos rfl]at a;cases a;exact k h _ H .refl R .non
     .have c:g≠[]:=λz=>by subst z;cases hd;cases b
      rw[if_neg c]at a;obtain⟨A,o,a⟩:=a0g.mp a;cases a;obtain⟨B,l,m⟩:=hd.get o;rw[hd.length]at b;rw[l]at b;cases b;exact k h _ H .refl R m
  .cases a
 .cases a
theorem TL(hc:X.calm=b5)(B:X.A.units+64<a2e)(hg:Gl X "min")(hm:X.mg "min"=b0)(h:QE X e m)(h1:QE X j O)(hs:c9 e=b5):
  QE X (.Call (.Name "min" p) [e] [⟨a7 "default",j,p1⟩] pos) (aF v8<|aB m<|aB O aD):=⟨by
 intro n s σ H Q I hw;obtain⟨Z,ρ,Y,d,L,R,E,hw,k⟩:=hw;obtain⟨⟨ds,μ2⟩,o,hw⟩:=a0a.mp hw;obtain⟨⟨x,c⟩,g1,o⟩:=a0a.mp o;obtain⟨⟨ds',μ3⟩,A,o⟩:=a0a.mp o;obtain⟨⟨y,g⟩,M,A⟩:=a0a.mp A;cases A;cases o;dsimp only at M hw;refine a2n (gW I hg hm a6b ?_ (by decide)<|by decide);have st:a0T [e] X.env=(b3,eval e X.env)::a0T [] X.env:=eM hs;refine b1R (aP (CS h.h CQ st pos n s σ H (λT i=>∃v a,T=[v]/\Ext Z Y.length H a c.length i/\Rp X.K a i c/\IsD X.K a c.length i v x) I ⟨Z,ρ,Y,x,c,R,E,g1,λa v i j z G=>⟨v,a,rfl,j,z,G⟩⟩) λus s1 ⟨T,i,I1,r1,v,a,ev,j,z,G⟩=>?_) (by rw[st];rfl) (by rw[st];rfl);subst ev;refine aP (Mo h1.h Mn pos n s1 σ i (λU l=>∃w b,U=[w]/\Ext a c.length i b g.length l/\Rp X.K b l g/\IsD X.K b g.length l w y) I1 ⟨a,ρ,c,y,g,z,E.mono j,M,λb w l r R2 J=>⟨w,b,rfl,r,R2,J⟩⟩) λws s2 ⟨U,l,I2,r2,w,b,ew,r,R2,J⟩=>?_;subst ew;obtain⟨u,rfl,ru⟩:=d6 r1;obtain⟨u2,rfl,K⟩:=d6 r2;have N:=TK b l g [x,y] d L [v,w] Q R2 (.cons (G.mono r)<|.cons J .nil) hw<|k.after<|j.trans r;obtain⟨q,vs',ps,e5,hr'⟩:=id N;cases e5;cases K;exact TH hc B I2 ⟨_,rfl,ru⟩ N⟩
noncomputable def TM(K:a0c):gw->Hp->VK->Prop:=λxs H Q=>∃a k b v ps,xs=[V.ref a]/\H a=a7 (aM a<|(k,b,v)::ps)/\dG K H ((k,b,v)::ps)/\(∀p∈ps,HT.lexLt p.1 k=b3)/\Q (.ref b) H
noncomputable abbrev FV:=TM
theorem FW:∀n,(∀j,j<n->bt (j+1) 0=b3)->a4p bt n=0
 |0,_=>rfl|n+1,h=>by have e:=FW n λj a=>h j<|a4t a;simp only[a4p,e,h n<|a1A n,a0t,if_false]
theorem TN(hc:X.calm=b5)(Y:X.A.units+64<a2e):CallR X (.builtin "min") (FV X.K):=by
 intro J s σ H xs us Q I r h;obtain⟨a,k,b,v,d,rfl,R,w,U,q⟩:=h;obtain⟨u,rfl,ru⟩:=d6 r;cases ru;have T:X.A.in1.handled=none:=I.ok.hd hc;obtain⟨lo,hz,l,L,g,A⟩:=n8 I R w;have hs:l.size=d.length+1:=by have:=congrArg a1n A;simpa using this
 have c:∀{i:Nat}{e:DictEntry},l[i]?=a7 e->∃p,((k,b,v)::d)[i]?=a7 p/\e.key=.ref p.2.1:=λ{i e} n=>by have:=congrArg (·[i]?) A;simp only[a0v,a1y,n,a0M]at this;obtain⟨p,y,z⟩:=a0g.mp this.symm;exact⟨p,y,z.symm⟩
 refine FT I b0 (.inl rfl) (λq=>Ap lo g q) g.lt (E6 T (a0y g.lt) l L) ⟨⟨_,a0e _<|a0o _ rfl,rfl,rfl⟩,g.stay λo e=>a0e _<|a0e _ e⟩ (bt:=λi j=>HT.lexLt ((((k,b,v)::d).getD i ([],0,.non)).1)<|(((k,b,v)::d).getD j ([],0,.non)).1) (λi j vi vj t Q' E' x n B q=>?_) (λO w' pv=>?_) λO=>by lia
 .obtain⟨y,M,rfl⟩:=n;obtain⟨z,N,rfl⟩:=B;obtain⟨p1,E,k1⟩:=c M;obtain⟨p2,G,k2⟩:=c N;rw[k1,k2];obtain⟨x1,t1,Z⟩:=(vZ x<|w p1<|a0S E).2;obtain⟨x2,t2,i2⟩:=(vZ x<|w p2<|a0S G).2;refine HT.lt_tupInts t1 t2 (by simpa using Z) (by simpa using i2) (by show X.A.units+1<a2e;lia) ?_;rw[a5b,a5b,E,G]at q;exact q
 .rw[FW _ λj B=>by
   rw[List.getD_cons_succ,a9j,a5b,a0w<|show j<d.length by lia];exact U _<|a5B _]at pv
  obtain⟨e,f,rfl⟩:=pv;obtain⟨p,m,K⟩:=c f;cases m;exact⟨.ref b,K,q⟩
noncomputable def AH:MF:=λds μ=>match ds with
 |[.loc a]=>match μ[a]? with
  |some (.dT<|b::kvs)=>if(kvs.all λp=>!HT.lexLt p.1 b.1)=b5 then a7 (.tup<|b.1.map D.int,μ)else b0|_=>b0
 |_=>b0
theorem TQ:dJ K AH (FV K):=by
 intro s H w v d r u Q R i a k;unfold AH at a;split at a
 .split at a
  .rename_i q e c;split at a
   .rename_i n;cases a;cases i with
    |cons i t=>
     cases t;cases i;obtain⟨g,m,T⟩:=fP R c;have b:=T.to;cases g with
     |nil=>cases b.1|cons p g=>
      obtain⟨h,j⟩:=List.cons.inj b.1;refine⟨_,p.1,p.2.1,p.2.2,g,rfl,m,T.keys,λx o=>?_,?_⟩
      .have:x.1∈e.map (·.1):=by rw[<- j];exact a0u.mpr ⟨x,o,rfl⟩
       obtain⟨y,c,l⟩:=a0u.mp this;have:=a2z.mp n y c;rw[<- l,show p.1=q.1 from h];simpa using this
      .cases b.2.1 with
       |cons i t=>exact k s _ H .refl R i
   .cases a
  .cases a
 .cases a
end L3
namespace L3
open PySem L2
structure Sig where
 fn:List<|Str×Nat
 con:List<|Str×D
 tab:List<|Str×List (cA×D)
 no:List Str
 dIt:List Str
 dEq:List Str
 dMe:List Str
 ob:List (Str×Str):=[]
 mt:List (Str×Str×Str×Nat):=[]
 mc:List (Str×Str×Nat):=[]
 ms:List (Str×Stmt):=[]
structure Cs where
 N:List Str
 ks:List<|Str×a3r
noncomputable def iD(x:Str):List Str->Option Nat
 |[]=>b0|y::r=>if x=y then a7 0 else(iD x r).map (·+1)
theorem oB:∀{N}{i},iD x N=a7 i->N[i]?=a7 x
 |[],_,h=>by cases h
 |y::r,i,h=>by
  unfold iD at h;split at h
  .rename_i e;cases h;subst e;rfl
  .obtain⟨j,a,b⟩:=a0g.mp h;subst b;have:=oB a;simpa using this
noncomputable def glob(c:Cs)(x:Str):Bool:=decide (c.ks.lookup x=a7 .globalImplicit)&&!(x==("__debug__":Str))
noncomputable def nJ(c:Cs)(x:Str):Bool:=(decide (c.ks.lookup x=a7 .local)||decide (c.ks.lookup x=a7 .cell)||decide (c.ks.lookup x=a7 .free))&&!(x==("__debug__":Str))&&!(x==("__classdict__":Str))
noncomputable def mS(c:Cs)(x:Str):Bool:=decide (c.ks.lookup x=a7 .local)||decide (c.ks.lookup x=a7 .cell)
theorem eI{κ b:Type} [BEq κ] [LawfulBEq κ] {x k:κ}{a n:b}{r:List (κ×b)}{P:Prop}(h:a2r x ((k,a)::r)=a7 n)(h1:x=k->a=n->P)(c:a2r x r=a7 n->P):P:=by
 rw[a3T]at h;by_cases e:x=k
 .rw[beq_iff_eq.mpr e]at h;exact h1 e<|a0B h
 .rw[beq_eq_false_iff_ne.mpr e]at h;exact c h
noncomputable def FX(x:Str):Option String:=a2r x [("int","int"),("bool","bool"),("str","str"),("list","list"),("tuple","tuple"),("dict","dict")]
theorem TR(h:FX x=a7 n):a2q x=a7 (.type n)/\x ≠ "__name__":=by
 refine eI h (λe g=>?_) λh=>?_
 .subst e;cases g;exact⟨a6c,by decide⟩
 refine eI h (λe g=>?_) λh=>?_
 .subst e;cases g;exact⟨a9P,by decide⟩
 refine eI h (λe g=>?_) λh=>?_
 .subst e;cases g;exact⟨a9L,by decide⟩
 refine eI h (λe g=>?_) λh=>?_
 .subst e;cases g;exact⟨a4s,by decide⟩
 refine eI h (λe g=>?_) λh=>?_
 .subst e;cases g;exact⟨a5R,by decide⟩
 refine eI h (λe g=>?_) λh=>?_
 .subst e;cases g;exact⟨a3u,by decide⟩
 cases h
noncomputable def AI(S:Sig)(c:Cs)(x:Str):ME:=
 if nJ c x=b5 then(match iD x c.N with|some i=>aA i|none=>bP)
 else if glob c x=b5 then(match S.con.lookup x with
  |some d=>mC d
  |none=>if S.no.contains x=b5 then(match FX x with|some n=>mC (.ty n)|none=>bP)else bP)
 else bP
noncomputable def dP(r:Expr->ME):List Expr->MA
 |[]=>aD|e::es=>aB (r e)<|dP r es
noncomputable def v9(op:BoolOp):List ME->ME
 |[]=>bP|[m]=>m|m::r=>match op with
  |.And=>gA m (v9 op r)|.Or=>yW m<|v9 op r
noncomputable def wA(op:BoolOp):List MT->MT
 |[]=>nU|[m]=>m|m::r=>match op with
  |.And=>jH m (wA op r)|.Or=>iK m<|wA op r
noncomputable def FY(op:a8F)(a b:ME):ME:=match op with
 |.Add=>aC bI a b|.Sub=>aC cB a b|.Mult=>aC bG a b|.FloorDiv=>aC dM a b|.Mod=>aC bC a b|.Pow=>aC kY a b|_=>bP
noncomputable def mT(op:a4J)(ns:Bool)(a b:ME):ME:=match op with
 |.Eq=>aC (aT b3) a b|.NotEq=>aC (aT b5) a b|.Lt=>aC jI a b|.LtE=>aC pG a b|.Gt=>aC iP a b|.GtE=>aC rM a b|.In=>if ns=b5 then aC (cL b3) a b else bP|.NotIn=>if ns=b5 then aC (cL b5) a b else bP|.Is=>aC (fN b3) a b|.IsNot=>aC (fN b5) a b
noncomputable def qH(r:Expr->ME):Option Expr->MO
 |none=>gZ|some e=>iM<|r e
noncomputable def wB:Expr->Option (Expr×List Expr)
 |.Call f as [] _=>a7 (f,as)|_=>b0
theorem FZ(h:wB e=a7 (f,a)):∃pos,e=.Call f a [] pos:=by
 unfold wB at h;split at h
 .cases h;exact⟨_,rfl⟩
 .cases h
noncomputable def kM:Expr->Option Str
 |.Name x _=>a7 x|_=>b0
theorem sJ(h:kM e=a7 x):∃p,e=.Name x p:=by
 unfold kM at h;split at h
 .cases h;exact⟨_,rfl⟩
 .cases h
noncomputable def o1:List Expr->Option Expr
 |[e]=>a7 e|_=>b0
theorem sL(h:o1 l=a7 e):l=[e]:=by
 match l,h with
 |[_],h=>cases h;rfl
noncomputable def o2:List Expr->Option (Expr×Expr)
 |[a,b]=>a7 (a,b)|_=>b0
theorem AJ(h:o2 l=a7 (a,b)):l=[a,b]:=by
 match l,h with
 |[_,_],h=>cases h;rfl
noncomputable def dW:MF:=λds μ=>match ds with
 |[.loc a]=>match μ[a]? with
  |some (.lst xs)=>a7 (.int xs.length,μ)|some (.st ks)=>a7 (.int ks.length,μ)|some (.dT kvs)=>a7 (.int kvs.length,μ)|_=>b0
 |_=>rN ds μ
noncomputable def mU:MF:=λds μ=>match ds with
 |[x]=>(bF μ x).map λa=>(.tup a,μ)|_=>b0
theorem TU:dJ K mU (λxs H Q=>∃p b,xs=[.ref p]/\((SqL K H p b/\∀l,H l=b0->Q (.ref l) (aK H l<|.tup b))\/(SqT K H p b/\Q (.ref p) H))):=by
 intro g H r xs d n o Q R i a k;unfold mU at a;split at a
 .obtain⟨b,h,j⟩:=a0g.mp a;cases j;cases i with
  |cons i t=>
   cases t;obtain⟨p,e,rfl,q,hd⟩:=nQ R i h;refine⟨p,e,rfl,?_⟩;rcases q with q|q
   .refine .inl ⟨q,λl m=>?_⟩;obtain⟨c,R2⟩:=R.fresh (o:=.tup e) m;exact k g _ _ c R2<|.tup (.of cP)<|hd.mono c
   .exact .inr ⟨q,k g _ H .refl R<|.tup q hd⟩
 .cases a
noncomputable def fS:MF:=λds μ=>match ds with
 |[.loc a]=>match μ[a]? with
  |some (.dT kvs)=>a7 (.loc μ.length,μ++[.lst<|kvs.map λk=>D.tup<|k.1.map D.int])|_=>rO [.loc a] μ
 |ds=>rO ds μ
theorem TV:dJ K fS (λxs H Q=>(∃p g,xs=[.ref p]/\(SqL K H p g\/SqT K H p g)/\∀l,H l=b0->Q (.ref l) (aK H l<|.lst g))\/Fd K xs H Q):=by
 intro n H m xs d c j Q R i b k;unfold fS at b;split at b
 .rename_i a;split at b
  .rename_i e s;cases b;cases i with
   |cons i t=>cases t;cases i;obtain⟨h,q,T⟩:=fP R s;refine .inr ⟨_,h,rfl,q,T.keys,λl r=>?_⟩;obtain⟨o,R2,_⟩:=R.alloc (c:=.lst (e.map λk:List Int×D=>D.tup<|k.1.map D.int)) (o:=.lst (h.map λp:List Int×Addr×V=>V.ref p.2.1)) r T.to.2.1;exact k _ _ _ o R2 gC
  .exact .inl<|DS n H m _ d c j Q R i b k
 .exact .inl<|DS n H m _ d c j Q R i b k
noncomputable def bltT:List (Str×MF):=[("len",dW)
 ,("isinstance",l9)
 ,("int",nR)
 ,("list",fS)
 ,("tuple",mU)
 ,("all",vD)
 ,("sorted",mN)
 ,("sum",nX)
 ]
noncomputable def F0(x:Str):Option MF:=bltT.lookup x
noncomputable def TX(K:a0c):gw->Hp->VK->Prop:=λxs H Q=>zN K xs H Q\/(∃a L,xs=[V.ref a]/\H a=a7 (uM a L)/\Q (.int L.length) H)\/Fc K xs H Q
theorem TY:dJ K dW (TX K):=by
 intro g H l q d e j Q R i b k;unfold dW at b;split at b
 .rename_i a;split at b
  .rename_i r c;refine .inl<|DR g H l _ d e j Q R i ?_ k;simp only[rN,bF,c];exact b
  .rename_i n c;cases b;cases i with
   |cons i t=>cases t;cases i;obtain⟨L,h,m,_⟩:=R.st a n c;have:=congrArg a1n m;rw[a0d]at this;refine .inr<|.inl ⟨_,L,rfl,h,?_⟩;rw[this];exact k g _ H .refl R<|.int _
  .rename_i o c;cases b;cases i with
   |cons i t=>cases t;cases i;obtain⟨p,h,T⟩:=fP R c;have:=congrArg a1n T.to.1;rw[a0d,a0d]at this;refine .inr<|.inr ⟨_,p,rfl,h,T.keys,?_⟩;rw[this];exact k g _ H .refl R<|.int _
  .cases b
 .exact .inl<|DR g H l _ d e j Q R i b k
theorem TZ(a:X.calm=b5)(b:X.A.units+64<a2e)(h:F0 x=a7 f):∃v r,a2q x=a7 v/\((∃id,v=.builtin id)\/∃T,v=.type T)/\CallR X v r/\dJ X.K f r/\x ≠ "__name__":=by
 refine eI h (λe g=>?_) λh=>?_
 .subst e;cases g;exact⟨_,_,a9N,.inl ⟨_,rfl⟩,call_lenM.or<|call_lenT.or RX,TY,by decide⟩
 refine eI h (λe g=>?_) λh=>?_
 .subst e;cases g;exact⟨_,_,a9O,.inl ⟨_,rfl⟩,OK,OJ,by decide⟩
 refine eI h (λe g=>?_) λh=>?_
 .subst e;cases g;exact⟨_,_,a6c,.inr ⟨_,rfl⟩,LS,OI,by decide⟩
 refine eI h (λe g=>?_) λh=>?_
 .subst e;cases g;exact⟨_,_,a4s,.inr ⟨_,rfl⟩,call_list_of.or<|RY a,TV,by decide⟩
 refine eI h (λe g=>?_) λh=>?_
 .subst e;cases g;exact⟨_,_,a5R,.inr ⟨_,rfl⟩,MZ,TU,by decide⟩
 refine eI h (λe g=>?_) λh=>?_
 .subst e;cases g;exact⟨_,_,a9Q,.inl ⟨_,rfl⟩,Qx a,Qw rfl,by decide⟩
 refine eI h (λe g=>?_) λh=>?_
 .subst e;cases g;exact⟨_,_,a4i,.inl ⟨_,rfl⟩,call_sortI.or QF,Rm,by decide⟩
 refine eI h (λe g=>?_) λh=>?_
 .subst e;cases g;exact⟨_,_,a9K,.inl ⟨_,rfl⟩,Q4 a,Q3,by decide⟩
 cases h
noncomputable def AK(x:Str):Option MF:=
 if x="dict" then a7 n9 else
 F0 x
theorem T3(a:X.calm=b5)(b:X.A.units+64<a2e)(h:AK x=a7 f):∃v r,a2q x=a7 v/\((∃id,v=.builtin id)\/∃T,v=.type T)/\CallR X v r/\dJ X.K f r/\x ≠ "__name__":=by
 unfold AK at h;split at h
 .rename_i e;subst e;cases h;exact⟨_,_,a3u,.inr ⟨_,rfl⟩,So a b,Sq,by decide⟩
 exact TZ a b h
noncomputable def methT:List ((Str×Nat)×(D->List D->Hm->jk)):=[(("append",1),eV)
 ,(("extend",1),pP)
 ,(("index",1),kJ)
 ,(("pop",0),k7)
 ]
noncomputable def F1(m:Str)(n:Nat):Option (D->List D->Hm->jk):=methT.lookup (m,n)
noncomputable def AL:MF:=λds μ=>match ds with
 |[.loc a]=>match μ[a]? with
  |some (.dT kvs)=>if kvs.length<64/\(∀p∈kvs,p.1≠[])then a7 (.loc μ.length,μ++[.lst<|(jQ kvs).map λk=>D.tup<|k.1.map D.int])else b0|_=>b0
 |_=>b0
theorem T5:dJ K AL (FD K):=by
 intro A H y x d u w Q R i a k;unfold AL at a;split at a
 .split at a
  .rename_i b s;split at a
   .rename_i m;cases a;cases i with
    |cons i t=>
     cases t;cases i;obtain⟨c,j,T⟩:=fP R s;obtain⟨v,g⟩:=Fx T;refine⟨_,c,rfl,j,T.keys,by lia,λp o z=>?_,λl n=>?_⟩
     .have:p.1∈b.map (·.1):=by rw[<- T.to.1];exact a0u.mpr ⟨p,o,rfl⟩
      obtain⟨q,r,e⟩:=a0u.mp this;exact m.2 q r<|e.trans z
     .obtain⟨h,R2,_⟩:=R.alloc (c:=.lst ((jQ b).map λk:List Int×D=>D.tup<|k.1.map D.int)) (o:=.lst ((fQ c).map λp:List Int×Addr×V=>V.ref p.2.1)) n g.to.2.1;exact k _ _ _ h R2 gC
   .cases a
  .cases a
 .cases a
noncomputable def qI:MF:=λds μ=>match ds with
 |[.loc a]=>match μ[a]? with
  |some (.dT kvs)=>if(kvs.map λp=>Tb.hashT p.1).Nodup then a7 (.loc μ.length,μ++[.dT kvs])else b0|_=>b0
 |_=>b0
theorem T6:dJ K qI (FI K):=by
 intro u H s r d o q Q R i a k;unfold qI at a;split at a
 .split at a
  .rename_i b n;split at a
   .rename_i j;cases a;cases i with
    |cons i t=>
     cases t;cases i;obtain⟨c,h,T⟩:=fP R n;have g:=T.to.1;refine⟨_,c,rfl,h,T.keys,?_,λl m=>?_⟩
     .have:(c.map λp=>Tb.hashT p.1)=b.map λp=>Tb.hashT p.1:=by have:=congrArg (a8W Tb.hashT) g;simpa[a0x,Function.comp_def]using this
      rw[this];exact j
     .obtain⟨e,R2,_⟩:=R.alloc (c:=.dT b) (o:=aM l c) m ⟨c,rfl,T.to⟩;exact k _ _ _ e R2 gC
   .cases a
  .cases a
 .cases a
noncomputable def F2(S:Sig)(f:Expr)(args:List Expr):Option Expr:=match f with
 |.Name x _=>match args with
  |[.Name y p]=>if S.dMe.contains y=b5/\x="min" then a7 (.Name y p)else b0|_=>b0
 |_=>b0
noncomputable def T7(e:Expr):Bool:=match e with
 |.Subscript v _ _=>!((kM v).getD "" == "sheet")|_=>b3
noncomputable def T8(S:Sig)(x:Str)(a:Expr):Bool:=match kM a with
 |some y=>S.dMe.contains y|none=>x=="dict" && T7 a&&S.dMe.contains "[]"
noncomputable def F3(S:Sig)(f:Expr)(args:List Expr):Option (Bool×Expr):=(kM f).bind λx=>(o1 args).bind λa=>if(c9 a&&T8 S x a)=b5 then(if x="sorted" then a7 (b5,a)else if x="dict" then a7 (b3,a)else b0)else b0
theorem F5(h:F3 S f args=a7 (b,e)):∃p,f=.Name (if b then "sorted" else "dict") p/\args=[e]/\[e].all c9=true:=by
 obtain⟨x,i,j⟩:=a0a.mp h;obtain⟨a,k,c⟩:=a0a.mp j;obtain⟨p,l⟩:=sJ i;clear h i j;split at c
 .rename_i g;rw[a0j]at g;split at c
  .rename_i d;subst d;cases c;exact⟨p,l,sL k,by rw[a1e,g.1];rfl⟩
  .split at c
   .rename_i d;subst d;cases c;exact⟨p,l,sL k,by rw[a1e,g.1];rfl⟩
   .cases c
 .cases c
noncomputable def dMT:List ((Str×Nat)×(D->List D->Hm->jk)):=
 (("setdefault",2),AB) ::
 (("get",2),kL) ::
 []
noncomputable def F6(S:Sig)(o:Expr)(m:Str)(n:Nat):Option (D->List D->Hm->jk):=
 dMT.lookup (m,n)
noncomputable def F7(S:Sig)(c:Cs):Expr->Option Nat
 |.Name x _=>if S.dIt.contains x=b5 then iD x c.N else b0|.Subscript o i _=>match o,i with
  |.Name x _,.Constant (.int n) _ _=>if S.dIt.contains x=b5 then(iD x c.N).map λj=>1000*(j+1)+n.toNat else b0|_,_=>b0
 |_=>b0
noncomputable def wC(S:Sig)(c:Cs)(tg:Expr)(e:Expr):Option Nat:=match tg with
 |.Name _ _=>F7 S c e|_=>b0
noncomputable def AM(S:Sig)(F:Str->MF)(r:Expr->ME)(c:Cs)(f:Expr)(args:List Expr)(a:a1V):ME:=match f with
 |.Name x _=>if glob c x&&args.all c9 then(match S.fn.lookup x with
   |some n=>if args.length=n then aF (F x) (dP r args)else bP|none=>
   match S.mc.lookup x with
   |some q=>if args.length=q.2&&!args.isEmpty then mJ x (F x) (dP r args)else bP|none=>
   if S.no.contains x&&!args.isEmpty then(match AK x with|some g=>aF g (dP r args)|none=>bP)else bP)
  else bP
 |.Attribute o m apos=>if d7 o&&(apos.endLine==a.line)&&args.all c9 then(
   match S.mt.lookup m with
   |some q=>if args.length=q.2.2&&decide (args.length<30)then iC q.1 m (F q.2.1) (r o) (dP r args)else
    bP
   |none=>
   match F6 S o m args.length with
   |some g=>k8 g (r o) (dP r args)|none=>
   match F1 m args.length with
   |some g=>cV g (r o) (dP r args)|none=>
    bP)
  else bP
 |_=>bP
noncomputable def AN(f:Expr)(args:List Expr):Option (Str×Str×Expr):=(kM f).bind λx=>(o1 args).bind λa=>(wB a).bind λg=>(kM g.1).bind λy=>(o1 g.2).map λe=>(x,y,e)
theorem F8(h:AN f args=a7 (x,y,e)):∃p c pos,f=.Name x p/\args=[.Call (.Name y c) [e] [] pos]:=by obtain⟨m,d,h⟩:=a0a.mp h;obtain⟨a,i,h⟩:=a0a.mp h;obtain⟨g,j,h⟩:=a0a.mp h;obtain⟨n,b,h⟩:=a0a.mp h;obtain⟨l,k,h⟩:=a0g.mp h;cases h;obtain⟨p,rfl⟩:=sJ d;obtain⟨pos,rfl⟩:=FZ j;obtain⟨c,b⟩:=sJ b;exact⟨p,c,pos,rfl,by rw[sL i,b,sL k]⟩
noncomputable def T9(f:Expr)(args:List Expr):Option (Bool×Expr):=(AN f args).bind λt=>
 if t.1="list"/\t.2.1="reversed" then a7 (b5,t.2.2)else
 b0
noncomputable def F9:Bool->Str
 |false=>"range"|true=>"reversed"
noncomputable def lstM:Bool->MF
 |true=>mO|false=>mO
noncomputable def AO(S:Sig)(F:Str->MF)(r:Expr->ME)(c:Cs)(f:Expr)(args:List Expr)(a:a1V):ME:=
 match T9 f args with
 |some (b,e)=>if glob c "list" && glob c (F9 b)&&S.no.contains "list" && S.no.contains (F9 b)&&c9 e then aF (lstM b) (dP r [e])else bP|none=>AM S F r c f args a
noncomputable def AQ:Expr->Option (Expr×a1V×a1V)
 |.Call g [] [] cpos=>match g with
  |.Attribute o m apos=>if m="items" then a7 (o,apos,cpos)else b0|_=>b0
 |_=>b0
theorem Ua(h:AQ e=a7 (o,a,b)):e=.Call (.Attribute o "items" a) [] [] b:=by
 unfold AQ at h;split at h
 .split at h
  .split at h
   .rename_i c;cases h;rw[c]
   .cases h
  .cases h
 .cases h
noncomputable def Ub(f:Expr)(args:List Expr):Option (Expr×a1V×a1V):=(AN f args).bind λt=>if t.1="dict"/\t.2.1="sorted" then AQ t.2.2 else b0
noncomputable def AR(S:Sig)(F:Str->MF)(r:Expr->ME)(c:Cs)(f:Expr)(args:List Expr)(a:a1V):ME:=
 match Ub f args with
 |some q=>if glob c "sorted" && glob c "dict" && S.no.contains "sorted" && S.no.contains "dict" && d7 q.1&&(q.2.1.endLine==q.2.2.line)then qB (r q.1)else bP|none=>
 match F2 S f args with
 |some e=>if glob c "min" && S.no.contains "min" then aF AH (dP r [e])else bP|none=>
 match F3 S f args with
 |some (b5,e)=>if glob c "sorted" && S.no.contains "sorted" then aF AL (dP r [e])else bP|some (b3,e)=>if glob c "dict" && S.no.contains "dict" then aF qI (dP r [e])else bP|none=>
 AO S F r c f args a
noncomputable def qJ(c:Cs)(scope:a3k)(xs:List Str):Bool:=
 (scope.names.all λy=>decide<|y.2≠.cell)&&decide (scope.kind=.function)&&(scope.names.all λy=>decide (y.2≠.local)||decide (scope.names.lookup y.1=a7 .local)) &&
 (xs.all λx=>decide<|scope.names.lookup x=a7 .local)&&decide xs.Nodup&&(scope.names.all λy=>decide (y.2≠.free)||decide (c.ks.lookup y.1=a7 .cell)||decide (c.ks.lookup y.1=a7 .free)) &&
 (scope.names.all λy=>decide (y.2≠.local)||!(bH xs c.N).contains y.1)&&decide (bH xs c.N).Nodup&&(c.N.all λy=>!xs.contains y||decide (scope.names.lookup (pH y)=b0))
noncomputable def sM(c:Cs)(scope:a3k)(xs:List Str):Cs:=
 ⟨bH xs c.N++xs,scope.names.map λ(n,k)=>if(k==a2T&&c.ks.lookup n==a7 .cell)then(n,a3j)else(n,k)⟩
noncomputable def Ga(r:Expr->MT):List Expr->MT
 |[]=>gE|[t]=>r t|_=>nU
noncomputable def oC(S:Sig)(c:Cs)(x:Str)(e:Expr):Option (List Expr):=(wB e).bind λg=>(kM g.1).bind λy=>if y=x/\(glob c x&&S.no.contains x&&g.2.all c9)=b5 then a7 g.2 else b0
noncomputable def Uc(r:Expr->ME):List Expr->MI
 |[a]=>nT (dP r [a])|[a,b]=>mD (dP r [a,b])|[a,b,d]=>rZ (dP r [a,b,d])|_=>D1
noncomputable def wD(S:Sig)(r:Expr->ME)(c:Cs)(e:Expr):MI:=match oC S c "range" e with
 |some a=>Uc r a|none=>cU<|r e
noncomputable def AS(S:Sig)(r:Expr->ME)(c:Cs)(e:Expr):MI:=match(oC S c "enumerate" e).bind o1 with
 |some a=>rV (dP r [a])|none=>wD S r c e
noncomputable def AU(S:Sig)(r:Expr->ME)(c:Cs)(e:Expr):MI:=match(oC S c "zip" e).bind o2 with
 |some (a,b)=>sD (dP r [a,b])|none=>AS S r c e
noncomputable def AV:Expr->Option (List Str)
 |.Name x _=>a7 [x]|.Tuple es _ _=>es.mapM kM|_=>b0
noncomputable def AW:Expr->Nat->BD
 |.Tuple ..,n=>uW n|_,_=>pJ
noncomputable def wF(S:Sig)(r:Expr->ME)(c:Cs)(tg e:Expr):MI:=match tg with
 |.Tuple ..=>AU S r c e|_=>wD S r c e
noncomputable def mV(b:MI)(d:Cs->Expr->ME)(e:Cs->Expr->MT)(c:Cs)(elt tg iter:Expr)(ifs:List Expr)(scope:a3k):ME:=match AV tg with
 |some a=>if qJ c scope a&&fL iter then jL (AW tg a.length) b (Ga (e<|sM c scope a) ifs) (d (sM c scope a) elt)else bP|none=>bP
noncomputable def AX(S:Sig)(a:Cs->Expr->ME)(b:Cs->Expr->MT)(c:Cs)(elt tg iter:Expr)(ifs:List Expr)(scope:a3k):ME:=
 match wC S c tg iter with
 |some i=>Ax i (mV (iT<|a c iter) a b c elt tg iter ifs scope) bP|none=>
 mV (wF S (a c) c tg iter) a b c elt tg iter ifs scope
noncomputable def Gb:Const->ME
 |.int i=>mC (.int i)|.bool b=>mC (.bl b)|.str s=>mC (.str s)|.none=>mC .non|_=>bP
noncomputable def Ge(m:ME):UnaryOp->ME
 |.USub=>cK m|.Not=>o9 m|_=>bP
noncomputable def Gf(S:Sig)(r:Expr->ME)(a:Expr):List a4J->List Expr->ME
 |[op],[b]=>mT op (fL b) (r a)<|r b
 |[op,op'],[b,b']=>(match fM op,fM op' with
  |some p,a7 q=>jM (fE p) (fE q) (r a) (r b)<|r b'
  |_,_=>bP)
 |_,_=>bP
noncomputable def AY(r:Expr->ME):List (Option Expr)->List Expr->ME
 |[],[]=>jO|[a7 k],[v]=>qC (r k) (r v)|_,_=>bP
noncomputable def AZ(S:Sig)(r:Expr->ME)(c:Cs)(a b:Expr):ME:=match b with
 |.Slice lo hi b0 _=>nM (r a) (qH r lo) (qH r hi)|.Slice lo hi (a7 st) _=>mL (r a) (qH r lo) (qH r hi) (qH r<|a7 st)|b=>if pM b then aC aE (r a) (r b)else bP
noncomputable def A1(r:Expr->ME)(es:List Expr):ME:=if es.all c9 then aX (dP r es)else bP
noncomputable def A2(r:Expr->ME)(es:List Expr):ME:=if es.all c9 then cQ (dP r es)else bP
noncomputable def A3(S:Sig)(r:Expr->ME)(c:Cs)(f:Expr)(args:List Expr)(d:Str)(b:Expr):ME:=match f with
 |.Name x _=>match args with
  |[a]=>if x="min"/\d="default"/\(glob c "min" && S.no.contains "min" && c9 a)=b5 then aF v8 (aB (r a)<|aB (r b) aD)else bP|_=>bP
 |_=>bP
noncomputable def A4(S:Sig)(F:Str->MF)(r:Expr->ME)(c:Cs)(f:Expr)(args:List Expr)(a:a1V):List a3D->ME
 |[]=>AR S F r c f args a|[⟨a7 k1,e1,_⟩]=>A3 S r c f args k1 e1|_=>bP
noncomputable def Gh(S:Sig)(a:Cs->Expr->ME)(b:Cs->Expr->MT)(c:Cs)(elt:Expr)(scope:a3k):List Comprehension->ME
 |[⟨tg,iter,ifs,0⟩]=>AX S a b c elt tg iter ifs scope|_=>bP
noncomputable def Gi(S:Sig)(F:Str->MF)(d:Cs->Expr->ME)(e:Cs->Expr->MT)(c:Cs):Expr->ME
 |.Name x _=>AI S c x|.Constant v _ _=>Gb v|.BinOp a op b _=>FY op (d c a) (d c b)|.UnaryOp op a _=>Ge (d c a) op|.Compare a ops bs _=>Gf S (d c) a ops bs|.BoolOp op vs _=>v9 op (vs.map<|d c)|.IfExp t a b _=>fK (e c t) (d c a) (d c b)|.Tuple es _ _=>A1 (d c) es|.List es _=>A2 (d c) es|.Dict keys values _=>AY (d c) keys values|.Subscript a b _=>AZ S (d c) c a b|.Call f args kws cpos=>A4 S F (d c) c f args cpos kws|.Attribute o a _=>if d7 o then(match S.ob.lookup a with|some x=>eH x a (d c o)|none=>bP)else bP|.ListComp elt gs scope _=>Gh S d e c elt scope gs|_=>bP
noncomputable def sN(r:Expr->ME)(e:Expr):MT:=if zP e then dE (r e)else nU
noncomputable def A5(S:Sig)(r:Expr->ME)(a:Expr)(ops:List a4J)(bs:List Expr)(p:a1V):MT:=match ops,bs with
 |[op],[b]=>aS<|mT op (fL b) (r a)<|r b
 |[op,op'],[b,b']=>(match fM op,fM op' with
  |some p,a7 q=>aS<|jM (fE p) (fE q) (r a) (r b)<|r b'
  |_,_=>nU)
 |ops,bs=>sN r<|.Compare a ops bs p
noncomputable def Ud(r:Expr->ME)(t:MT)(a:Expr)(p:a1V):UnaryOp->MT
 |.Not=>t|op=>sN r<|.UnaryOp op a p
noncomputable def Gj(S:Sig)(b:Cs->Expr->ME)(d:Cs->Expr->MT)(c:Cs):Expr->MT
 |.BoolOp op vs _=>wA op (vs.map<|d c)|.UnaryOp op a p=>Ud (b c) (iL<|d c a) a p op|.Compare a ops bs p=>A5 S (b c) a ops bs p|e=>sN (b c) e
noncomputable def tr(S:Sig)(F:Str->MF):Nat->(Cs->Expr->ME)×(Cs->Expr->MT)
 |0=>(λ_ _=>bP,λ_ _=>nU)|n+1=>(Gi S F (tr S F n).1 (tr S F n).2,Gj S (tr S F n).1 (tr S F n).2)
structure Okx(S:Sig)(F:Str->MF)(k:Nat)(c:Cs)(X:Cx):Prop where
 N:X.N=c.N
 nd:X.N.Nodup
 ks:X.env.scope.names=c.ks
 kind:X.env.scope.kind=.function
 calm:X.calm=b5
 room:Room k X.A
 never:a7Z (a0L X.prog X.w) X.A X.env X.xe
 fn:∀x n,S.fn.lookup x=a7 n->∃(f:Addr)(fd:a2L)(ps:List Str),FnOk X.prog X.w X.K X.mg X.base eE k f fd ps (eF X.K n<|F x)/\X.mg x=a7 (.ref f)/\a2l X.K (.ref f)=b5/\Binds X.K fd ps []
 con:∀x d,S.con.lookup x=a7 d->∃v u,X.mg x=a7 u/\RelV v u/\∀π n H,IsD X.K π n H v d
 tab:∀x kvs,S.tab.lookup x=a7 kvs->TabOk X x kvs
 no:∀x,S.no.contains x=b5->X.mg x=b0
 ob:∀f x,S.ob.lookup f=a7 x->∃C,CAt X.K x C/\Cls X.K C/\NoAttr X.K C f
 mt:∀m x y n,S.mt.lookup m=a7 (x,y,n)->∃(C g:Addr)(fd:a2L)(ps:List Str),CAt X.K x C/\Cls X.K C/\Meth X.K C m g/\FnOk X.prog X.w X.K X.mg X.base eE k g fd ps (eF X.K (n+1)<|F y)/\Binds X.K fd ps []
 mc:∀x y n,S.mc.lookup x=a7 (y,n)->(∀ds μ,F x ds μ=b0)\/∃(k':Nat)(C g:Addr)(fd:a2L)(ps:List Str),k=k'+1/\CAt X.K x C/\Mk X.K C g/\FnOk X.prog X.w X.K X.mg X.base eE k' g fd ps (eF X.K (n+1)<|F x)/\Binds X.K fd ps []
theorem Ue(ks:X.env.scope.names=c.ks)(h:glob c x=b5):Gl X x/\(x==("__debug__":Str))=false:=by unfold glob at h;rw[a0j]at h;refine⟨?_,by simpa using h.2⟩;show X.env.scope.names.lookup x=_;rw[ks];exact of_decide_eq_true h.1
theorem Ug{X:Cx}(ks:X.env.scope.names=c.ks)(h:nJ c x=b5):nE X.env.scope x/\(x==("__debug__":Str))=b3/\(x==("__classdict__":Str))=false:=by
 unfold nJ at h;rw[a0j,a0j,a3m,a3m]at h;obtain⟨⟨a,b⟩,d⟩:=h;refine⟨?_,by simpa using b,by simpa using d⟩;unfold nE;rw[ks];rcases a with(a|a)|a
 .exact .inl<|of_decide_eq_true a
 .exact .inr<|.inl<|of_decide_eq_true a
 .exact .inr<|.inr<|of_decide_eq_true a
theorem Okx.gl(O:Okx S F k c X)(h:glob c x=b5):Gl X x/\(x==("__debug__":Str))=false:=Ue O.ks h
theorem Okx.vis(O:Okx S F k c X)(h:nJ c x=b5):nE X.env.scope x/\(x==("__debug__":Str))=b3/\(x==("__classdict__":Str))=false:=Ug O.ks h
theorem Uh(O:Okx S F k c X)x pos:QE X (.Name x pos) (AI S c x):=by
 unfold AI;split
 .rename_i h;obtain⟨a,b,j⟩:=O.vis h;split
  .rename_i i l;exact OO i (by rw[O.N];exact oB l) a b j
  .exact bL
 split
 .rename_i h;obtain⟨a,b⟩:=O.gl h;split
  .rename_i d hd;obtain⟨v,u,m,r,i⟩:=O.con x d hd;exact⟨o8 (Kw a m r b) i⟩
  .split
   .rename_i o;split
    .rename_i n p;obtain⟨e,g⟩:=TR p;exact Pl (O.no x o) e a g b
    .exact bL
   .exact bL
 .exact bL
theorem fT(a:∀e,QE X e (r e)):∀es,es.all c9=b5->QA X es (dP r es) es.length
 |[],_=>Pb|e::es,h=>by rw[a1e,a0j]at h;exact Pc (a e) (fT a es h.2) h.1
theorem Gk(a:∀e,QE X e (r e))op pos:∀vs,QE X (.BoolOp op vs pos) (v9 op<|vs.map r)
 |[]=>bL|[e]=>O7 (a e)|e::d::es=>by
  have b:=Gk a op pos<|d::es;cases op with
  |And=>exact O8 (a e) b|Or=>exact O9 (a e) b
theorem Gm(a:∀e,QT X e (r e))op pos:∀vs,QW X (.BoolOp op vs pos) (wA op<|vs.map r)
 |[]=>Qe|[e]=>by
  cases op with
  |And=>exact Pw (a e)|Or=>exact Px<|a e
 |e::d::es=>by
  have b:=Gm a op pos<|d::es;cases op with
  |And=>exact Py (a e) b|Or=>exact PB (a e) b
theorem Ui(d:QE X a g)(e:QE X b h)op pos:QE X (.BinOp a op b pos) (FY op g h):=by
 cases op with
 |Add=>exact OT d e|Sub=>exact OU d e|Mult=>exact OV d e|FloorDiv=>exact OW d e|Mod=>exact OX d e|Pow=>exact OY d e|_=>exact bL
theorem Uj(O:Okx S F k c X)(d:QE X a g)(e:QE X b i)op pos:QE X (.Compare a [op] [b] pos) (mT op (fL b) g i):=by
 cases op with
 |Eq=>exact O1 O.room d e|NotEq=>exact O2 O.room d e|Lt=>exact O3 d e|LtE=>exact O4 d e|Gt=>exact O5 d e|GtE=>exact O6 d e|In=>
  simp only[mT];split
  .rename_i h;exact R0 O.room d e h
  .exact bL
 |NotIn=>
  simp only[mT];split
  .rename_i h;exact R6 O.room d e h
  .exact bL
 |Is=>exact QZ d e|IsNot=>exact Q0 d e
theorem Gn:QT X e (aS bP):=⟨λb2w s σ H Q I h=>by
 obtain⟨i,j,g,d,b,R,E,a,k⟩:=h;cases a⟩
theorem Uk(O:Okx S F k c X)(d:QE X a g)(e:QE X b i)op pos:QT X (.Compare a [op] [b] pos) (aS<|mT op (fL b) g i):=by
 cases op with
 |Eq=>exact Pm O.room d e|NotEq=>exact Pn O.room d e|Lt=>exact Po d e|LtE=>exact Pp d e|Gt=>exact Pq d e|GtE=>exact Pr d e|In=>
  simp only[mT];split
  .rename_i h;exact R8 O.room d e h
  .exact Gn
 |NotIn=>
  simp only[mT];split
  .rename_i h;exact Sa O.room d e h
  .exact Gn
 |Is=>exact Q1 d e|IsNot=>exact Q2 d e
theorem sO(a:∀e,QE X e (r e)):∀o,QO X o (qH r o)
 |none=>Pg|some e=>Ph<|a e
theorem Ul(O:Okx S F k c X)(j:∀e,QE X e (r e))(h1:d7 o=b5)(i:(d.endLine==h.line)=b5)(n:QA X args (dP r args) args.length)(b:F1 m args.length=a7 g):QE X (.Call (.Attribute o m d) args [] h) (cV g (r o)<|dP r args):=by
 refine eI b (λe g=>?_) λb=>?_
 .obtain⟨rfl,a⟩:=a3i e;cases g;cases args with
  |nil=>cases a|cons e l=>exact zX PySem.F.slot_list_append PySem.F.type_list_append Df Qo (j o) n h1 i<|by rw[a];decide
 refine eI b (λe g=>?_) λb=>?_
 .obtain⟨rfl,a⟩:=a3i e;cases g;cases args with
  |nil=>cases a|cons e l=>exact zX PySem.F.slot_list_extend PySem.F.type_list_extend M6 Qp (j o) n h1 i<|by rw[a];decide
 refine eI b (λe g=>?_) λb=>?_
 .obtain⟨rfl,a⟩:=a3i e;cases g;cases args with
  |nil=>cases a|cons e l=>exact zX PySem.F.slot_list_index PySem.F.type_list_index (Rj<|by have:=O.room.units;lia) Rh (j o) n h1 i<|by rw[a];decide
 refine eI b (λe g=>?_) λb=>?_
 .obtain⟨rfl,a⟩:=a3i e;cases g;cases args with
  |cons e l=>cases a|nil=>exact Ql PySem.F.slot_list_pop PySem.F.type_list_pop M7 Qq (j o) h1 i
 cases b
theorem Um(O:Okx S F k c X)(l:∀e,QE X e (r e))(h1:d7 o=b5)(i:(a.endLine==b.line)=b5)(j:QA X args (dP r args) args.length)(h:dMT.lookup (m,args.length)=a7 g):QE X (.Call (.Attribute o m a) args [] b) (k8 g (r o)<|dP r args):=by
 refine eI h (λe g=>?_) λh=>?_
 .obtain⟨rfl,d⟩:=a3i e;cases g;cases args with
  |nil=>cases d|cons e n=>exact FE a7d PySem.F.type_dict_setdefault (Td<|by have:=O.room.units;lia) Tc (l o) j h1 i<|by rw[d];decide
 refine eI h (λe g=>?_) λh=>?_
 .obtain⟨rfl,d⟩:=a3i e;cases g;cases args with
  |nil=>cases d|cons e n=>exact FE a8h PySem.F.type_dict_get (S8<|by have:=O.room.units;lia) S7 (l o) j h1 i<|by rw[d];decide
 cases h
theorem Uo(O:Okx S F k c X)(w:∀e,QE X e (r e))f args i:QE X (.Call f args [] i) (AM S F r c f args i):=by
 unfold AM;split
 .rename_i x p;split
  .rename_i u;rw[a0j]at u;obtain⟨y,z⟩:=O.gl u.1;have j:=fT w args u.2;split
   .rename_i n hn;split
    .rename_i d;obtain⟨fa,R,Y,a,s,U,b⟩:=O.fn x n hn;subst d;cases args with
     |nil=>exact Qt a O.room s U b y z|cons e A=>exact Pk a O.room s U b j y z
    .exact bL
   .skip;split
    .rename_i q H;split
     .rename_i d;rw[a0j]at d;cases args with
      |nil=>exact absurd d.2 (by simp)|cons e A=>
       rcases O.mc x q.1 q.2 H with hz|⟨k',C,ga,R,Y,rfl,G,M,a,b⟩
       .exact QU λρ μ=>by
         unfold mJ;cases dP r (e::A) ρ μ with
         |none=>rfl|some p=>simp only[a0G,hz,Option.bind_none]
       .have l:=of_decide_eq_true d.1;rw[<- l]at a;exact QR M G a O.room y b j z
     .exact bL
    split
    .rename_i h;rw[a0j]at h;split
     .rename_i g b;obtain⟨v,rr,J,Z,K,L,N⟩:=T3 (X:=X) O.calm O.room.units b;cases args with
      |nil=>exact absurd h.2 (by simp)|cons e A=>
       rcases Z with⟨id,rfl⟩|⟨T,rfl⟩
       .exact zO K L (O.no x h.1) J j y N z
       .exact DY K L (O.no x h.1) J j y N z
     .exact bL
    .exact bL
  .exact bL
 .rename_i o m I;split
  .rename_i u;rw[a0j,a0j]at u;obtain⟨⟨B,E⟩,h3⟩:=u;have j:=fT w args h3;split
   .rename_i q H;split
    .rename_i d;rw[a0j]at d;obtain⟨C,ga,R,Y,G,Q,M,a,b⟩:=O.mt m q.1 q.2.1 q.2.2 H;have l:=of_decide_eq_true d.1;rw[<- l]at a;cases args with
     |nil=>exact QM (w o) B E G Q M a O.room b|cons e A=>exact QL (w o) B E G Q M a O.room b j<|of_decide_eq_true d.2
    .exact bL
   split
   .rename_i g s;unfold F6 at s;exact Um O w B E j s
   split
   .rename_i g s;exact Ul O w B E j s
   .skip
    .exact bL
  .exact bL
 .exact bL
theorem Up(O:Okx S F k c X)(j:∀e,QE X e (r e))f args a:QE X (.Call f args [] a) (AO S F r c f args a):=by
 unfold AO;split
 .rename_i b e h;split
  .rename_i i;rw[a0j,a0j,a0j,a0j]at i;obtain⟨⟨⟨⟨l,m⟩,q⟩,s⟩,st⟩:=i;have o:=fT j [e] (by rw[a1e,st];rfl);obtain⟨t,n,g⟩:=a0a.mp h;obtain⟨p,u,pos,rfl,rfl⟩:=F8 n;split at g
   .rename_i d;cases g;rw[d.1,d.2];exact Rz O.calm (O.no _ q) (O.no _ s) o (O.gl l).1 (O.gl m).1
   .cases g
  .exact bL
 .exact Uo O j f args a
theorem Uq{X:Cx}(nd:X.N.Nodup)(e:X.N=c.N)(ks:X.env.scope.names=c.ks)(h:qJ c scope xs=b5):CompSt X.env.scope X.N scope xs/\xs.Nodup:=by
 unfold qJ at h;rw[a0j,a0j]at h;obtain⟨⟨h,b⟩,q⟩:=h;have b:=of_decide_eq_true b;have d:∀y∈c.N,xs.contains y=b5->scope.names.lookup (pH y)=none:=λy a hc=>by have:=a2z.mp q y a;rw[hc]at this;simpa using this
 simp only[a0j,a2z,decide_eq_true_eq,a3m,a5r,List.contains_eq_mem,decide_eq_false_iff_not]at h;obtain⟨⟨⟨⟨⟨⟨i,j⟩,l⟩,m⟩,p⟩,n⟩,o⟩:=h;refine⟨⟨i,j,λy a g=>(l y a).resolve_left λz=>z g,m,λy a r=>?_,λy a g=>?_,nd,by rw[e];exact b,by rw[e];exact d⟩,p⟩
 .rw[ks];rcases n y a with(z|z)|z
  .exact absurd r z
  .exact .inl z
  .exact .inr z
 .rw[e];have:=(o y a).resolve_left λz=>z g;exact this
theorem sP(O:Okx S F k c X)(h:qJ c scope xs=b5):CompSt X.env.scope X.N scope xs/\xs.Nodup:=Uq O.nd O.N O.ks h
theorem Gp{N:List Str}(h:N.Nodup)(d:xs.Nodup)(g:∀x∈xs,x∉N):(N++xs).Nodup:=by rw[a3n];exact⟨h,d,λa i b j e=>by subst e;exact g _ j i⟩
theorem Gq{X:Cx}(Q:CompSt X.env.scope X.N scope xs/\xs.Nodup):(bH xs X.N++xs).Nodup:=Gp Q.1.hnd Q.2 λx a=>Q.1.own (x,.local) (a1X<|Q.1.here x a) rfl
theorem Ur{X:Cx}(a:X.env.scope.kind=.function)(ks:X.env.scope.names=c.ks)scope xs:(b0V scope X.env).names=(sM c scope xs).ks:=by
 unfold b0V sM;dsimp only;refine a1v λy _=>?_;obtain⟨n,b⟩:=y;dsimp only;have:(X.env.scope.kind==ScopeKind.function)=true:=by rw[a];rfl
 rw[this,b0Q];show(if(b==a2T&&X.env.scope.names.lookup n==a7 a3j)=b5 then _ else _)=_;rw[ks]
theorem Okx.comp(O:Okx S F k c X)(h:qJ c scope xs=b5){C:Addr}:Okx S F k (sM c scope xs) (cR X scope b C (bH xs X.N++xs) s₀ H₀ d):=
 ⟨show bH xs X.N++xs=bH xs c.N++xs by rw[O.N],Gq<|sP O h,Ur O.kind O.ks scope xs,(sP O h).1.kind,O.calm,O.room,a8T,O.fn,O.con,λy a q=>⟨(O.tab y a q).ex⟩,O.no
  ,O.ob,O.mt,O.mc
  ⟩
theorem Gs(j:∀e,QT X e (r e)):∀es,QI X es (Ga r es)
 |[]=>PD|[t]=>PF<|j t
 |a::b::es=>⟨λg s p H Q I h=>by
   obtain⟨n,o,m,d,l,R,E,i,k⟩:=h;cases i⟩
theorem A6(O:Okx S F k c X)(h:oC S c x e=a7 args):∃p pos,e=.Call (.Name x p) args [] pos/\Gl X x/\X.mg x=b0/\args.all c9=true:=by
 obtain⟨g,d,j⟩:=a0a.mp h;obtain⟨y,i,a⟩:=a0a.mp j;clear h j;by_cases z:y=x/\(glob c x&&S.no.contains x&&g.2.all c9)=b5
 .rw[if_pos z]at a;cases a;have b:=z.2;rw[a0j,a0j]at b;obtain⟨pos,d⟩:=FZ d;obtain⟨p,i⟩:=sJ i;exact⟨p,pos,by rw[d,i,z.1],(O.gl b.1.1).1,O.no _ b.1.2,b.2⟩
 .rw[if_neg z]at a;cases a
theorem Gu(O:Okx S F k c X)(i:∀e,QE X e (r e))e:QJ X e (wD S r c e):=by
 unfold wD;cases h:oC S c "range" e with
 |some m=>
  obtain⟨p,pos,rfl,j,l,g⟩:=A6 O h;match m,g with
  |[],_=>exact D2|[a],g=>exact P5 j l (fT i [a] g)|[a,b],g=>exact P6 j l (fT i [a,b] g)|[a,b,d],g=>exact RE j l (fT i [a,b,d] g)|_::_::_::_::_,_=>exact D2
 |none=>exact P2<|i e
theorem Us(O:Okx S F k c X)(b:∀e,QE X e (r e))e:QJT X e (AS S r c e):=by
 unfold AS;cases h:(oC S c "enumerate" e).bind o1 with
 |some a=>obtain⟨m,d,g⟩:=a0a.mp h;obtain rfl:=sL g;obtain⟨p,pos,rfl,i,j,l⟩:=A6 O d;exact Rg i j (fT b [a] l)|none=>exact(Gu O b e).t
theorem Ut(O:Okx S F k c X)(a:∀e,QE X e (r e))e:QJT X e (AU S r c e):=by
 unfold AU;cases h:(oC S c "zip" e).bind o2 with
 |some t=>obtain⟨l,b,d⟩:=a0a.mp h;obtain rfl:=AJ (a:=t.1) (b:=t.2) d;obtain⟨p,pos,rfl,g,i,j⟩:=A6 O b;exact Sj g i (fT a [t.1,t.2] j)|none=>exact Us O a e
theorem A7(O:Okx S F k c X)(a:∀e,QE X e (r e))tg e:PI X tg e (tMI X.K<|wF S r c tg e):=by
 cases tg with
 |Tuple=>exact(Ut O a e).h _ _ _|_=>exact(Gu O a e).h _
theorem Gv(h:fL iter=b5):∀x,a3R iter env x=pure x:=by intro z;cases iter<;>first|rfl|cases h
theorem Gw(b:X.N.Nodup):∀es xs n,es.mapM kM=a7 xs->(∀j x,xs[j]?=a7 x->X.N[n+j]?=a7 x/\X.env.scope.names.lookup x=a7 .local)->QGs X es (a6e n xs.length)
 |[],xs,n,h,hx=>by cases h;exact DZ
 |e::es,xs,n,h,hx=>by rw[List.mapM_cons]at h;obtain⟨x,c,h⟩:=a0a.mp h;obtain⟨i,d,h⟩:=a0a.mp h;cases h;obtain⟨p,rfl⟩:=sJ c;rw[a0Q,b0b];have a:=hx 0 x rfl;refine D0 n b (Gw b es i (n+1) d λj z g=>?_) a.1 (.inl a.2)<|.inr a.2;have:=hx (j+1) z g;rw[<- Nat.add_assoc,Nat.add_right_comm]at this;exact this
theorem Uu{c:Cs}(Q:CompSt X.env.scope X.N scope [x]/\[x].Nodup)a C s₀ H₀ b:PG (cR X scope a C (bH [x] X.N++[x]) s₀ H₀ b) (.Name x p) (tMG X.K<|gB X.N.length pJ):=by have e:=Gq Q;have d:(b0V scope X.env).names.lookup x=a7 .local:=b0o (Q.1.here x<|by simp);exact P7 (X:=cR X scope a C (bH [x] X.N++[x]) s₀ H₀ b) (by show(bH [x] X.N++[x]).length=_;rw[a0q,nO];rfl)<|DN (X:=cR X scope a C (bH [x] X.N++[x]) s₀ H₀ b) e (by show(bH [x] X.N++[x])[X.N.length]?=_;rw[<- nO [x] X.N];simp) (.inl d)<|.inr d
theorem wG(O:Okx S F k c X)(a:AV tg=a7 xs)(h:qJ c scope xs=b5)b C s₀ H₀ e:
  PG (cR X scope b C (bH xs X.N++xs) s₀ H₀ e) tg (tMG X.K<|gB X.N.length<|AW tg xs.length)/\∀d n z,AW tg xs.length d n=a7 z->z.length=xs.length:=by
 obtain⟨St,i⟩:=sP O h;have r:(bH xs X.N++xs).Nodup:=Gp St.hnd i λx a=>St.own (x,.local) (a1X<|St.here x a) rfl;have g:∀x∈xs,(b0V scope X.env).names.lookup x=a7 .local:=λx a=>b0o<|St.here x a;unfold AV at a;split at a
 .rename_i x p;cases a;refine⟨Uu (c:=c) ⟨St,i⟩ b C s₀ H₀ e,λd n z m=>?_⟩;cases m;rfl
 .rename_i q v pt;refine⟨P8 (X:=cR X scope b C (bH xs X.N++xs) s₀ H₀ e) (by show(bH xs X.N++xs).length=_;rw[a0q,nO]) (zQ (X:=cR X scope b C (bH xs X.N++xs) s₀ H₀ e) (Gw (X:=cR X scope b C (bH xs X.N++xs) s₀ H₀ e) r q xs X.N.length a λj x o=>⟨?_,g x<|a0S o⟩) O.calm).h,λd n z m=>?_⟩
  .show(bH xs X.N++xs)[X.N.length+j]?=a7 x;rw[a1I<|by rw[nO];lia,nO,show X.N.length+j-X.N.length=j by lia];exact o
  .obtain⟨w,u,l⟩:=a0a.mp m;split at l
   .rename_i s;cases l;rw[a0d];exact s
   .cases l
 .cases a
theorem Uv(O:Okx S F k c X)(d:∀e,QE X e (r e))f args b:QE X (.Call f args [] b) (AR S F r c f args b):=by
 unfold AR;split
 .rename_i q h;split
  .rename_i a;rw[a0j,a0j,a0j,a0j,a0j]at a;obtain⟨⟨⟨⟨⟨m,n⟩,u⟩,v⟩,st⟩,s⟩:=a;obtain⟨t,o,i⟩:=a0a.mp h;split at i
   .rename_i g;obtain⟨p,w,pos,rfl,rfl⟩:=F8 o;rw[g.1,g.2,Ua i];exact SN O.calm O.room.units (O.no _ u) (O.no _ v) (O.gl m).1 (O.gl n).1 (d _) st s
   .cases i
  .exact bL
 split
 .rename_i e h;split
  .rename_i a;rw[a0j]at a;unfold F2 at h;split at h
   .split at h
    .split at h
     .rename_i l;obtain⟨_,rfl⟩:=l;cases h;exact zO (TN O.calm O.room.units) TQ (O.no _ a.2) a6b (fT d _ rfl) (O.gl a.1).1 (by decide) (O.gl a.1).2
     .cases h
    .cases h
   .cases h
  .exact bL
 split
 .rename_i e h;split
  .rename_i a;rw[a0j]at a;obtain⟨p,rfl,rfl,j⟩:=F5 h;exact zO (S3 O.calm) T5 (O.no _ a.2) a4i (fT d _ j) (O.gl a.1).1 (by decide) (O.gl a.1).2
  .exact bL
 .rename_i e h;split
  .rename_i a;rw[a0j]at a;obtain⟨p,rfl,rfl,j⟩:=F5 h;exact DY Th T6 (O.no _ a.2) a3u (fT d _ j) (O.gl a.1).1 (by decide) (O.gl a.1).2
  .exact bL
 exact Up O d _ _ _
theorem A8(o:∀c X,Okx S F k c X->∀e,QE X e (m c e))(p:∀c X,Okx S F k c X->∀e,QT X e (n c e))c X(O:Okx S F k c X)elt tg iter ifs scope pos(r:PI X tg iter (tMI X.K l)):QE X (.ListComp elt [⟨tg,iter,ifs,0⟩] scope pos) (mV l m n c elt tg iter ifs scope):=by
 unfold mV;split
 .rename_i w j;split
  .rename_i h;rw[a0j]at h;refine⟨λg s v H Q I q=>?_⟩;exact Qb ((sP O h.1).1.ok I.ok) O.calm r (λd u z=>(wG O j h.1 [] 0 s H []).2 d u z) (λC b a i=>(wG O j h.1 _ C b a i).1) (λC b a i=>(Gs (p _ _<|O.comp h.1) _).h) (λC b a i=>(o _ _ (O.comp h.1) _).h) (Gv h.2) g s v H Q I q
  .exact bL
 .exact bL
theorem Uw(a:∀c X,Okx S F k c X->∀e,QE X e (d c e))(b:∀c X,Okx S F k c X->∀e,QT X e (g c e))c X(O:Okx S F k c X)elt tg iter ifs scope pos:QE X (.ListComp elt [⟨tg,iter,ifs,0⟩] scope pos) (AX S d g c elt tg iter ifs scope):=by
 unfold AX;split
 .exact SS (A8 a b c X O elt tg iter ifs scope pos<|(Az<|a c X O iter).h tg) bL
 exact A8 a b c X O elt tg iter ifs scope pos<|A7 O (a c X O) tg iter
theorem Ux v n p:QE X (.Constant v n p) (Gb v):=by cases v<;>first|exact OP|exact OQ|exact OR|exact OS|exact bL
theorem Uy{r:Expr->ME}(b:∀e,QE X e (r e))op a p:QE X (.UnaryOp op a p) (Ge (r a) op):=by cases op<;>first|exact OZ (b _)|exact O0 (b _)|exact bL
theorem Uz(O:Okx S F k c X)(d:∀e,QE X e (r e))a ops bs p:QE X (.Compare a ops bs p) (Gf S r a ops bs):=by
 match ops,bs with
 |[op],[b]=>exact Uj O (d _) (d _) _ _|[op,op'],[b,b']=>
  show QE X _ (match fM op,fM op' with
  |some p,a7 q=>jM (fE p) (fE q) (r a) (r b)<|r b'
  |_,_=>bP)
  cases g:fM op with
  |none=>exact bL|some p=>cases h:fM op' with
   |none=>exact bL|some q=>exact QX g h (d _) (d _)<|d _
 |[],_=>exact bL|[_],[]=>exact bL|[_],_::_::_=>exact bL|[_,_],[]=>exact bL|[_,_],[_]=>exact bL|[_,_],_::_::_::_=>exact bL|_::_::_::_,_=>exact bL
theorem UA(O:Okx S F k c X)(a:∀e,QE X e (r e))ks vs p:QE X (.Dict ks vs p) (AY r ks vs):=by
 unfold AY;try split
 .exact RO
 .exact SR O.room (a _)<|a _
 .exact bL
theorem UB(O:Okx S F k c X)(d:∀e,QE X e (r e))a b p:QE X (.Subscript a b p) (AZ S r c a b):=by
 unfold AZ;split
 .exact Pj (d _) (sO d _)<|sO d _
 .exact Q9 (d _) (sO d _) (sO d _)<|sO d _
 .split
  .rename_i h
   .exact RZ O.room (d _) (d _) h
  .exact bL
theorem k9(a:∀e,QE X e (r e))e:QT X e (sN r e):=by
 unfold sN;split
 .rename_i h;exact Qs (a _) h
 .exact u6
theorem UC(O:Okx S F k c X)(d:∀e,QE X e (r e))a ops bs p:QT X (.Compare a ops bs p) (A5 S r a ops bs p):=by
 match ops,bs with
 |[op],[b]=>exact Uk O (d _) (d _) _ _|[op,op'],[b,b']=>
  unfold A5;dsimp only;cases g:fM op with
  |none=>exact u6|some p=>cases h:fM op' with
   |none=>exact u6|some q=>exact QY g h (d _) (d _)<|d _
 |[],_=>exact k9 d _|[_],[]=>exact k9 d _|[_],_::_::_=>exact k9 d _|[_,_],[]=>exact k9 d _|[_,_],[_]=>exact k9 d _|[_,_],_::_::_::_=>exact k9 d _|_::_::_::_,_=>exact k9 d _
theorem UD(a:∀e,QE X e (r e))es n p:QE X (.Tuple es n p) (A1 r es):=by
 unfold A1;split
 .rename_i h;exact Pd<|fT a _ h
 .exact bL
theorem UE(a:∀e,QE X e (r e))es p:QE X (.List es p) (A2 r es):=by
 unfold A2;split
 .rename_i h;exact Pe<|fT a _ h
 .exact bL
theorem UG(O:Okx S F k c X)(b:∀e,QE X e (r e))f args d a g p:QE X (.Call f args [⟨a7 d,a,g⟩] p) (A3 S r c f args d a):=by
 unfold A3;cases f with
 |Name x i=>
  dsimp only;split
  .split
   .rename_i h;obtain⟨rfl,rfl,h⟩:=h;rw[a0j,a0j]at h;exact TL O.calm O.room.units (O.gl h.1.1).1 (O.no _ h.1.2) (b _) (b _) h.2
   .exact bL
  .exact bL
 |_=>exact bL
theorem UH(O:Okx S F k c X)(b:∀e,QE X e (r e))f args a p:QE X (.Call f args a p) (A4 S F r c f args p a):=by
 unfold A4;split
 .exact Uv O b _ _ _
 .exact UG O b _ _ _ _ _ _
 .exact bL
theorem UI(O:Okx S F k c X)(h:QE X o m):QE X (.Attribute o a p) (if d7 o then(match S.ob.lookup a with|some x=>eH x a m|none=>bP)else bP):=by
 split
 .rename_i g;split
  .rename_i y i;obtain⟨C,b,d,e⟩:=O.ob a y i;exact QH h g b d e
  .exact bL
 .exact bL
theorem Gx(A:∀c X,Okx S F k c X->∀e,QE X e (m c e))(B:∀c X,Okx S F k c X->∀e,QT X e (q c e))c X(O:Okx S F k c X):
  (∀e,QE X e (Gi S F m q c e))/\∀e,QT X e (Gj S m q c e):=by
 have d:=A c X O;have u:=B c X O;constructor
 .intro e;cases e with
  |Name x p=>exact Uh O _ _|Constant v n p=>exact Ux v n p|BinOp a i b p=>exact Ui (d _) (d _) _ _|UnaryOp i a p=>exact Uy d i a p|Compare a g bs p=>exact Uz O d a g bs p|BoolOp i y p=>exact Gk d _ _ _|IfExp t a b p=>exact Pa (u _) (d _) (d _)|Tuple s n p=>exact UD d s n p|List s p=>exact UE d s p|Dict E y p=>exact UA O d E y p|Subscript a b p=>exact UB O d a b p|Call f j w l=>exact UH O d f j w l|Attribute o a p=>exact UI O (d _)|ListComp r z h p=>
   show QE X _ (Gh S m q c r h z);match z with
   |[]=>exact bL|[⟨_,_,_,.ofNat 0⟩]=>exact Uw A B c X O _ _ _ _ _ _|[⟨_,_,_,.ofNat<|_+1⟩]=>exact bL|[⟨_,_,_,.negSucc _⟩]=>exact bL|⟨_,_,_,.ofNat 0⟩::_::_=>exact bL|⟨_,_,_,.ofNat<|_+1⟩::_::_=>exact bL|⟨_,_,_,.negSucc _⟩::_::_=>exact bL
  |_=>exact bL
 .intro e;cases e with
  |BoolOp i y p=>exact PC (Gm u _ _ _)|UnaryOp i a p=>
   cases i;case Not=>exact Pu<|u _
   all_goals exact k9 d _
  |Compare a g bs p=>exact UC O d a g bs p|_=>exact k9 d _
theorem A9:∀n,(∀c X,Okx S F k c X->∀e,QE X e ((tr S F n).1 c e))/\∀c X,Okx S F k c X->∀e,QT X e ((tr S F n).2 c e)
 |0=>⟨λc X O e=>bL,λc X O e=>u6⟩|n+1=>by have a:=A9 (S:=S) (F:=F) (k:=k) n;exact⟨λc X O e=>(Gx a.1 a.2 c X O).1 e,λc X O e=>(Gx a.1 a.2 c X O).2 e⟩
noncomputable def wH:MG:=λ_ _ _=>b0
noncomputable def sQ(c:Cs):List Expr->Option (List Nat)
 |[]=>a7 []|.Name x _::r=>if mS c x then(iD x c.N).bind λi=>(sQ c r).map (i::·)else b0|_=>b0
noncomputable def oE(c:Cs):Expr->MG
 |.Name x _=>if mS c x then(match iD x c.N with|some i=>cZ i|none=>wH)else wH|.Tuple es _ _=>match sQ c es with|some a=>c4 a|none=>wH
 |_=>wH
noncomputable def jT(r:Stmt->MS):List Stmt->MS
 |[]=>bA|[s]=>r s|s::t=>aH (r s)<|jT r t
noncomputable def Ba(S:Sig)(E:Cs->Expr->ME)(T:Cs->Expr->MT)(c:Cs)(i:Nat):Expr->MS
 |.ListComp elt [⟨tg,iter,ifs,0⟩] scope _=>match wC S c tg iter with
  |some j=>d9 j (aR i<|mV (iT<|E c iter) E T c elt tg iter ifs scope) cC|none=>aR i<|mV (wF S (E c) c tg iter) E T c elt tg iter ifs scope
 |_=>cC
noncomputable def Bb(c:Cs)(x y:Str)(d py:a1V)(a b:Expr):Bool:=
 decide (c.ks.lookup x=a7 .local)&&decide (c.ks.lookup y=a7 .local)&&(py.line==d.line)&&decide (x≠y)&&c9 a&&c9 b&&!(a5M 8 a&&a5M 8 b)&&!(a5y 8 a&&a5y 8 b)
noncomputable def wI:Expr->Option (Str×a1V)
 |.Name x p=>a7 (x,p)|_=>b0
theorem Gy(h:wI e=a7 q):e=.Name q.1 q.2:=by
 unfold wI at h;split at h
 .cases h;rfl
 .cases h
noncomputable def Bc:Expr->Option (List Expr)
 |.Tuple es _ _=>a7 es|_=>b0
theorem UJ(h:Bc e=a7 es):∃a p,e=.Tuple es a p:=by
 unfold Bc at h;split at h
 .cases h;exact⟨_,_,rfl⟩
 .cases h
noncomputable def wJ(es:List Expr)(e:Expr):Option ((Str×a1V)×(Str×a1V)×Expr×Expr):=(o2 es).bind λt=>(wI t.1).bind λx=>(wI t.2).bind λy=>(Bc e).bind λu=>(o2 u).map λv=>(x,y,v)
theorem UK(h:wJ es e=a7 (x,y,v)):∃a p,es=[.Name x.1 x.2,.Name y.1 y.2]/\e=.Tuple [v.1,v.2] a p:=by obtain⟨t,b,h⟩:=a0a.mp h;obtain⟨k,c,h⟩:=a0a.mp h;obtain⟨l,d,h⟩:=a0a.mp h;obtain⟨u,g,h⟩:=a0a.mp h;obtain⟨j,i,h⟩:=a0g.mp h;cases h;obtain⟨a,p,rfl⟩:=UJ g;exact⟨a,p,by rw[AJ b,Gy c,Gy d],by rw[AJ i]⟩
noncomputable def Gz(E:Cs->Expr->ME)(c:Cs):Option ((Str×a1V)×(Str×a1V)×Expr×Expr)->MS
 |none=>cC|some q=>if Bb c q.1.1 q.2.1.1 q.1.2 q.2.1.2 q.2.2.1 q.2.2.2 then(match iD q.1.1 c.N with|some i=>(match iD q.2.1.1 c.N with|some j=>pK i j (dP (E c) [q.2.2.1,q.2.2.2])|none=>cC)|none=>cC)else cC
noncomputable def Bd(S:Sig)(E:Cs->Expr->ME)(T:Cs->Expr->MT)(c:Cs)(tg e:Expr):MS:=match tg with
 |.Name y _=>if mS c y then(match iD y c.N with
   |some i=>if jK e then aR i (E c e)else Ba S E T c i e
   |none=>cC)else cC
 |.Tuple es _ _=>if zR e then(match sQ c es with|some b=>hX (E c e) (c4 b)|none=>cC)
   else Gz E c (wJ es e)
 |.Subscript o i _=>if jK e&&pM i then dN (E c o) (E c i) (E c e)else cC|.Attribute o a _=>match S.ob.lookup a with|some x=>if jK e then mI x a (E c o) (E c e)else cC|none=>cC
 |_=>cC
noncomputable def sR:Nat:=1000000000
noncomputable def Be(S:Sig)(c:Cs)(tg:Expr):Expr->Option (Nat×Expr×a1V×a1V)
 |.Call g [] [] cpos=>match g with
  |.Attribute o m apos=>if m="values" then(wC S c tg o).map λj=>(j,o,apos,cpos)else b0|_=>b0
 |_=>b0
theorem UL(h:Be S c tg e=a7 q):e=.Call (.Attribute q.2.1 "values" q.2.2.1) [] [] q.2.2.2:=by
 unfold Be at h;split at h
 .split at h
  .split at h
   .rename_i a;obtain⟨j,_,rfl⟩:=a0g.mp h;rw[a]
   .cases h
  .cases h
 .cases h
noncomputable def Bf(S:Sig)(c:Cs)(tg:Expr):Expr->Option (Nat×Expr×a1V×a1V)
 |.Call g [] [] cpos=>match g with
  |.Attribute o m apos=>match tg with
   |.Tuple ..=>if m="items" then(F7 S c o).map λj=>(j,o,apos,cpos)else b0|_=>b0
  |_=>b0
 |_=>b0
theorem UM(h:Bf S c tg e=a7 q):e=.Call (.Attribute q.2.1 "items" q.2.2.1) [] [] q.2.2.2/\∃es b p,tg=.Tuple es b p:=by
 unfold Bf at h;split at h
 .split at h
  .split at h
   .split at h
    .rename_i a;obtain⟨j,_,rfl⟩:=a0g.mp h;rw[a];exact⟨rfl,_,_,_,rfl⟩
    .cases h
   .cases h
  .cases h
 .cases h
noncomputable def Bg(tg:Expr):Expr->Option (Expr×a1V×a1V)
 |.Call g [] [] cpos=>match g with
  |.Attribute o m apos=>match tg with
   |.Tuple ..=>if m="items" then a7 (o,apos,cpos)else b0|_=>b0
  |_=>b0
 |_=>b0
theorem UN(h:Bg tg e=a7 q):e=.Call (.Attribute q.1 "items" q.2.1) [] [] q.2.2/\∃es b p,tg=.Tuple es b p:=by
 unfold Bg at h;split at h
 .split at h
  .split at h
   .split at h
    .rename_i a;cases h;rw[a];exact⟨rfl,_,_,_,rfl⟩
    .cases h
   .cases h
  .cases h
 .cases h
noncomputable def GA(S:Sig)(E:Cs->Expr->ME)(T:Cs->Expr->MT)(c:Cs)(r:Stmt->MS):Stmt->MS
 |.Return (a7 e) _=>aQ (E c e)|.Return b0 _=>aQ (mC .non)|.If t a b _=>aZ (T c t) (jT r a) (jT r b)|.Assign [tg] e _=>Bd S E T c tg e|.Expr e _=>if jK e then cY (E c e)else cC|.For tg iter body [] _=>if fL iter then
  (match Bf S c tg iter with
  |some q=>if d7 q.2.1&&(q.2.2.1.endLine==q.2.2.2.line)then d9 q.1 (cD (mR<|E c q.2.1) (oE c tg)<|jT r body) cC else cC|none=>
  (match Bg tg iter with
  |some q=>if d7 q.1&&(q.2.1.endLine==q.2.2.line)then cD (FP<|E c q.1) (oE c tg) (jT r body)else cC|none=>
  (match Be S c tg iter with
  |some q=>if d7 q.2.1&&(q.2.2.1.endLine==q.2.2.2.line)then d9 q.1 (cD (qF<|E c q.2.1) (oE c tg)<|jT r body) cC else cC|none=>
  (match wC S c tg iter with
  |some j=>d9 j (cD (iT<|E c iter) (oE c tg)<|jT r body) cC
  |none=>cD (wF S (E c) c tg iter) (oE c tg)<|jT r body)
  )
  )
  )
  else cC
 |.While t body [] _=>rP sR (T c t) (jT r body)|.Pass _=>bA|_=>cC
noncomputable def Bh(S:Sig)(F:Str->MF)(m:Nat)(c:Cs):Nat->Stmt->MS
 |0=>λ_=>cC|n+1=>GA S (tr S F m).1 (tr S F m).2 c<|Bh S F m c n
theorem UO{X:Cx}(ks:X.env.scope.names=c.ks)(h:mS c x=b5):L2.Loc X.env.scope x:=by unfold mS at h;rw[a3m]at h;unfold L2.Loc;rw[ks];exact h.imp of_decide_eq_true of_decide_eq_true
theorem Okx.own(O:Okx S F k c X)(h:mS c x=b5):L2.Loc X.env.scope x:=UO O.ks h
theorem Bi(O:Okx S F k c X)(a:∀x,X.fn x=b5):∀es is,sQ c es=a7 is->QGs X es is
 |[],is,h=>by cases h;exact DZ
 |e::es,is,h=>by
  cases e with
  |Name x p=>
   unfold sQ at h;split at h
   .rename_i g;obtain⟨i,b,h⟩:=a0a.mp h;obtain⟨j,d,h⟩:=a0g.mp h;subst h;exact D0 i O.nd (Bi O a es j d) (by rw[O.N];exact oB b) (O.own g)<|.inl<|a x
   .cases h
  |_=>cases h
theorem sS(O:Okx S F k c X)(b:∀x,X.fn x=b5)e:QG X e (oE c e):=by
 unfold oE;split
 .split
  .rename_i d;split
   .rename_i i a;exact PX i O.nd (by rw[O.N];exact oB a) (O.own d)<|.inl<|b _
   .exact u7 λ_ _ _=>rfl
  .exact u7 λ_ _ _=>rfl
 .split
  .rename_i g a;exact zQ (Bi O b _ g a) O.calm
  .exact u7 λ_ _ _=>rfl
 .exact u7 λ_ _ _=>rfl
theorem kN(a:∀s,QS X s (r s)):∀b,QB X b (jT r b)
 |[]=>PH|[s]=>PM (a s)|s::t::ts=>PL (a s)<|kN a<|t::ts
theorem UP:
  ∃b,a4M (.ListComp elt [⟨tg,iter,ifs,0⟩] scope pos) (a7<|.Name y py) n env=pure b/\(b=b5->env.kindOf y=a7 .local):=by
 refine⟨env.blockKind==.function&&env.kindOf y==a7 .local&&py.line==pos.line&&!(scope.names.any λ(n,k)=>n==y&&(k==.local||k==.cell)),rfl,λh=>?_⟩;simp only[a0j,beq_iff_eq]at h;exact h.1.1.2
theorem GB(O:Okx S F k c X)(B:∀x,X.fn x=b5)(r:∀c X,Okx S F k c X->∀e,QE X e (E c e))(u:∀c X,Okx S F k c X->∀e,QT X e (T c e))(v:X.N[i]?=a7 y)(G:mS c y=b5)elt tg iter ifs scope pos(m:PI X tg iter (tMI X.K A)):QS X (.Assign [.Name y py] (.ListComp elt [⟨tg,iter,ifs,0⟩] scope pos) j) (aR i<|mV A E T c elt tg iter ifs scope):=by
  obtain⟨b,l,p⟩:=UP (elt:=elt) (tg:=tg) (iter:=iter) (ifs:=ifs) (scope:=scope) (pos:=pos) (py:=py) (y:=y) (n:=j.line) (env:=X.env);cases b with
  |false=>exact⟨Dz O.nd v (O.own G) (A8 r u c X O elt tg iter ifs scope pos m).h l<|.inl<|B y⟩|true=>
   unfold mV;split
   .rename_i L w;split
    .rename_i h;rw[a0j]at h;refine⟨λn s K H D I q=>?_⟩;exact Qd ((sP O h.1).1.ok I.ok) O.nd O.calm m (λd J z=>(wG O w h.1 [] 0 s H []).2 d J z) (λC g a o=>(wG O w h.1 _ C g a o).1) (λC g a o=>(Gs (u _ _<|O.comp h.1) _).h) (λC g a o=>(r _ _ (O.comp h.1) _).h) (Gv h.2) v (p rfl) l n s K H D I q
    .exact ER
   .exact ER
theorem UQ(O:Okx S F k c X)(g:∀x,X.fn x=b5)(b:∀c X,Okx S F k c X->∀e,QE X e (E c e))(d:∀c X,Okx S F k c X->∀e,QT X e (T c e))(h:X.N[i]?=a7 y)(j:mS c y=b5)e:QS X (.Assign [.Name y py] e a) (Ba S E T c i e):=by
 unfold Ba;split
 .split
  .exact vY (GB O g b d h j _ _ _ _ _ _<|(Az<|b c X O _).h _) dA
  .exact GB O g b d h j _ _ _ _ _ _<|A7 O (b c X O) _ _
 .exact dA
theorem UR(r:env.scope.kind=.function)(n:env.kindOf x=a7 .local)(o:env.kindOf y=a7 .local)(s:(py.line==m.line)=b5)(j:x≠y)(p:c9 a=b5)(q:c9 b=b5)(i:(a5M 8 a&&a5M 8 b)=b3)(hc:(a5y 8 a&&a5y 8 b)=b3):
  a3K [.Tuple [.Name x m,.Name y py] v pt] (.Tuple [a,b] u l) env=pure (a7 [x,y]):=by
 have bk:(env.blockKind != .function)=false:=by unfold Env.blockKind;rw[r];rfl
 have g:[a,b].all (a5M 8)=false:=by simpa using i
 have e:[a,b].all (a5y 8)=false:=by simpa using hc
 have d:py.line=m.line:=eq_of_beq s;have nd:[x,y].eraseDups.length=2:=by
  have:(y==x)=false:=by simpa using a1j j
  simp[List.eraseDups_cons,this]
 unfold a3K;dsimp only;rw[bk];split
 .rename_i h;simp at h
 split
 .rename_i h;exfalso;simp only[a4d,b1h,a5t,a3m]at h;rcases h with h|h
  .clear i hc g e;cases a<;>first|exact b0j h|cases p
  .clear i hc g e;cases b<;>first|exact b0j h|cases q
 split
 .rename_i h;exfalso;simp[Expr.pos,n,o,d,nd]at h
 rw[g,e];simp[Expr.pos,n,o,d]
theorem US(O:Okx S F k c X)(A:∀c X,Okx S F k c X->∀e,QE X e (E c e))es e I pt pos:QS X (.Assign [.Tuple es I pt] e pos) (Gz E c<|wJ es e):=by
 cases H:wJ es e with
 |none=>exact dA|some q=>
  obtain⟨⟨x,J⟩,⟨y,K⟩,a,b⟩:=q;obtain⟨L,M,rfl,rfl⟩:=UK H;show QS X _ (if Bb c x y J K a b then _ else _);split
  .rename_i h;unfold Bb at h;simp only[a0j,decide_eq_true_eq,a5r]at h;obtain⟨⟨⟨⟨⟨⟨⟨r,s⟩,u⟩,n⟩,o⟩,p⟩,v⟩,w⟩:=h;cases B:iD x c.N with
   |none=>exact dA|some i=>
    cases G:iD y c.N with
    |none=>exact dA|some j=>have g:=r;have l:=s;rw[<- O.ks]at g l;have m:=oB B;have d:=oB G;refine P0 i j O.nd (fT (A c X O) _<|by rw[a1e,a1e,o,p];rfl) (λz=>?_) O.calm (by rw[O.N];exact m) (by rw[O.N];exact d) g l<|UR O.kind g l u n o p v w;subst z;rw[m]at d;exact n<|a0B d
  .exact dA
theorem UT(O:Okx S F k c X)(d:∀x,X.fn x=b5)(a:∀c X,Okx S F k c X->∀e,QE X e (E c e))(p:∀c X,Okx S F k c X->∀e,QT X e (T c e))tg e pos:
  QS X (.Assign [tg] e pos) (Bd S E T c tg e):=by
 unfold Bd;split
 .split
  .rename_i l;split
   .rename_i i g;have b:=oB g;rw[<- O.N]at b;split
    .rename_i j;exact PV i O.nd (a c X O e) j b (O.own l)<|.inl<|d _
    .exact UQ O d a p b l e
   .exact dA
  .exact dA
 .split
  .rename_i j;split
   .rename_i r g;exact PZ (a c X O e) (zQ (Bi O d _ r g) O.calm) j
   .exact dA
  .exact US O a _ _ _ _ _
 .split
  .rename_i h;rw[a0j]at h;exact Sb O.room (a c X O _) (a c X O _) (a c X O _) h.1
  .exact dA
 .split
  .rename_i y q;split
   .rename_i h;obtain⟨C,m,n,o⟩:=O.ob _ y q;exact QK (a c X O _) (a c X O _) h m n o
   .exact dA
  .exact dA
 .exact dA
theorem UU(O:Okx S F k c X)(l:∀x,X.fn x=b5)(i:∀c X,Okx S F k c X->∀e,QE X e (E c e))(y:∀c X,Okx S F k c X->∀e,QT X e (T c e))(j:∀s,QS X s (r s))st:
  QS X st (GA S E T c r st):=by
 cases st with
 |Return o p=>
  cases o with
  |none=>exact Qv|some e=>exact PQ<|i c X O _
 |If t a b p=>exact PU (y c X O _) (kN j _) (kN j _)|Assign A e p=>
  cases A with
  |nil=>exact dA|cons B G=>
   cases G with
   |nil=>exact UT O l i y _ _ _|cons _ _=>exact dA
 |Expr e p=>
  show QS X _ (if jK e then cY (E c e)else cC);split
  .rename_i h;exact PR (i c X O _) h
  .exact dA
 |For B u m d p=>
  cases d with
  |cons _ _=>exact dA|nil=>
   show QS X _ (if fL u then _ else cC);split
   .rename_i h;split
    .rename_i q n;split
     .rename_i g;rw[a0j]at g;obtain⟨e,w,z,pt,v⟩:=UM n;rw[e]at h ⊢;subst v;exact vY (rW ((Tt (i c X O _) g.1 g.2).h w z pt) (sS O l _) (kN j _) O.never O.calm h) dA
     .exact dA
    split
    .rename_i q n;split
     .rename_i g;rw[a0j]at g;obtain⟨e,w,z,pt,v⟩:=UN n;rw[e]at h ⊢;subst v;exact rW ((Tv (i c X O _) g.1 g.2).h w z pt) (sS O l _) (kN j _) O.never O.calm h
     .exact dA
    split
    .rename_i q n;split
     .rename_i g;rw[a0j]at g;have e:=UL n;rw[e]at h ⊢;exact vY (rW ((Tq (i c X O _) g.1 g.2).h _) (sS O l _) (kN j _) O.never O.calm h) dA
     .exact dA
    split
    .exact vY (rW ((Az<|i c X O _).h _) (sS O l _) (kN j _) O.never O.calm h) dA
    exact rW (A7 O (i c X O) _ _) (sS O l _) (kN j _) O.never O.calm h
   .exact dA
 |While t m d p=>
  cases d with
  |nil=>exact Qu _ (y c X O _) (kN j _) O.never|cons _ _=>exact dA
 |Pass p=>exact PN|_=>exact dA
theorem GC(O:Okx S F k c X)(a:∀x,X.fn x=b5)m:∀n st,QS X st (Bh S F m c n st)
 |0,_=>dA|n+1,st=>UU O a (A9 m).1 (A9 m).2 (GC O a m n) st
noncomputable def c6(st:Stmt):List Str:=(f6 st).args.map (·.arg)
noncomputable def mW(st:Stmt):List Str:=c6 st++(cH st).names.filterMap λy=>if(y.2==NameKind.local||y.2==a3j)&&!(c6 st).contains y.1 then a7 y.1 else b0
noncomputable def jU(st:Stmt):Bool:=
 decide ((cH st).kind=.function)&&!(cH st).isCoroutine&&!(cH st).isGenerator&&decide (mW st).Nodup &&
 ((c6 st).all λx=>decide ((cH st).names.lookup x=a7 .local)||decide ((cH st).names.lookup x=a7 .cell))&&((cH st).names.all λy=>decide<|y.2≠.free)
theorem UW(h:jU st=b5):FnScope (mW st) (c6 st) (cH st):=by unfold jU at h;simp only[a0j,decide_eq_true_eq,a5r,a2z,a3m]at h;obtain⟨⟨⟨⟨⟨a,b⟩,c⟩,d⟩,e⟩,g⟩:=h;exact⟨a,b,c,d,by unfold mW;simp,e,g⟩
noncomputable def GD:Nat:=40
noncomputable def GF:Nat:=40
noncomputable def lk(S:Sig)(ds:List (Str×Stmt))(x:Str):Option Stmt:=match ds.lookup x with
 |some st=>a7 st|none=>S.ms.lookup x
noncomputable def Bj(S:Sig)(F:Str->MF)(st:Stmt):MF:=yY (mW st).length<|jT (Bh S F GD ⟨mW st,(cH st).names⟩ GF)<|eU st
noncomputable def fU(S:Sig)(ds:List (Str×Stmt)):Nat->Str->MF
 |0,_=>λ_ _=>b0|k+1,x=>match lk S ds x with
  |none=>match S.mc.lookup x with
   |none=>λ_ _=>b0|some q=>fU S ds k q.1
  |some st=>Bj S (fU S ds k) st
structure DefAt(K:a0c)(mg:Str->Option Value)(x:Str)(st:Stmt):Prop where
 ex:∃f fd,Fun K x x st f fd/\mg x=a7 (.ref f)/\Binds K fd (c6 st) []
noncomputable def oF(K:a0c)(s:Option Stmt)(n:Nat)(g:Addr):Prop:=∃a b q st,s=a7 st/\Fun K b q st g a/\Binds K a (c6 st) []/\(c6 st).length=n+1
structure TxtOk(P:a0R)(w:a1f)(K:a0c)(mg:Str->Option Value)(S:Sig)(ds:List (Str×Stmt)):Prop where
 fns:∀x n,S.fn.lookup x=a7 n->∃st,ds.lookup x=a7 st/\(c6 st).length=n
 defs:∀x st,ds.lookup x=a7 st->DefAt K mg x st/\jU st=b5
 con:∀x d,S.con.lookup x=a7 d->∃v u,mg x=a7 u/\RelV v u/\∀π n H,IsD K π n H v d
 tab:∀x kvs,S.tab.lookup x=a7 kvs->∃(p:Addr)(vs:List (cA×V))(ws:List (cA×Value)),mg x=a7 (.ref p)/\(p==a1W)=b3/\(∀h:a1C,K.In h->h.DictOf (q0 P w) p ws)/\KV vs ws/\∀π n H,IsKs K π n H vs kvs
 no:∀x,S.no.contains x=b5->mg x=b0
 ob:∀f x,S.ob.lookup f=a7 x->∃C,CAt K x C/\Cls K C/\NoAttr K C f
 mt:∀m x y n,S.mt.lookup m=a7 (x,y,n)->∃(C g:Addr),CAt K x C/\Cls K C/\Meth K C m g/\oF K (lk S ds y) n g
 mc:∀x y n,S.mc.lookup x=a7 (y,n)->lk S ds x=b0/\∃(C g:Addr),CAt K x C/\Mk K C g/\oF K (lk S ds y) n g
 ms:∀y st,S.ms.lookup y=a7 st->jU st=b5
theorem GG(h:ds.lookup x=a7 st):lk S ds x=a7 st:=by unfold lk;rw[h]
theorem TxtOk.sc(T:TxtOk P w K b S ds)(h:lk S ds x=a7 st):jU st=true:=by
 unfold lk at h;split at h
 .rename_i a;cases h;exact(T.defs _ _ a).2
 .exact T.ms _ _ h
theorem UX(T:TxtOk P w K M S ds)k:∀x st nm q f J,lk S ds x=a7 st->Fun K nm q st f J->
  FnOk P w K M base eE k f J (c6 st) (eF K (c6 st).length<|fU S ds k x):=by
 induction k using Nat.strongRecOn with
 |_ k u=>
 intro x st nm q f J Y hF;cases k with
 |zero=>exact⟨λvs H Q E h=>h.1,λA outer s H U us vs Q E Z he hb hv hs=>by
   obtain⟨_,π,ds',μ,d,μ',R,i,hm,kc⟩:=hs;cases hm⟩
 |succ k=>
  have ih:=u k<|a1A k;have e:fU S ds (k+1) x=Bj S (fU S ds k) st:=by show(match lk S ds x with|none=>_|some st=>Bj S (fU S ds k) st)=_;rw[Y]
  rw[e];have B:=UW<|T.sc Y;refine P1 hF B (by unfold mW;simp) rfl λI A outer s H E Z=>?_;have O:Okx S (fU S ds k) k ⟨mW st,(cH st).names⟩ (kW eE P w K M base (mW st) q (cH st) f I A outer s H E).nox:=by
   refine⟨rfl,B.nd,rfl,B.kind,rfl,Z,a8T,λy n o=>?_,T.con,λy L q=>⟨T.tab y L q⟩,T.no
    ,T.ob,λm y z n o=>?_,λy z n o=>?_
    ⟩
   .obtain⟨a,l,r⟩:=T.fns y n o;obtain⟨X,b,j,m',p⟩:=(T.defs y a l).1.ex;subst r;exact⟨X,b,c6 a,ih y a _ _ X b (GG l) j,m',j.kp,p⟩
   .obtain⟨C,g,c1,G,c3,b,c,N,a,l,j,p,r⟩:=T.mt m y z n o;have:=ih z a c N g b l j;rw[r]at this;exact⟨C,g,b,c6 a,c1,G,c3,this,p⟩
   .obtain⟨h0,C,g,c1,G,b,c,N,a,l,j,p,r⟩:=T.mc y z n o;cases k with
    |zero=>exact .inl λ_ _=>rfl|succ v=>
     have:=u v (by lia) z a c N g b l j;rw[r]at this;have e3:fU S ds (v+1) y=fU S ds v z:=by show(match lk S ds y with|none=>(match S.mc.lookup y with|none=>λ_ _=>b0|some q=>fU S ds v q.1)|some st=>_)=_;rw[h0];dsimp only;rw[o]
     rw[<- e3]at this;exact .inr ⟨v,C,g,b,c6 a,rfl,c1,G,this,p⟩
  exact kN (GC O (λ_=>rfl) GD GF)<|eU st
theorem UY(T:TxtOk P w K b S ds)k x st f a(d:ds.lookup x=a7 st)(c:Fun K x x st f a):
  FnOk P w K b base eE k f a (c6 st) (eF K (c6 st).length<|fU S ds k x):=UX T k x st x x f a (GG d) c
theorem GH:∀{ns:List Int}{b},a4O (ns.map a4D)<=b->∀n∈ns,a1k n<=b
 |[],_,_,n,a=>nomatch a|m::ns,b,h,n,a=>by
  have e:a4O ((m::ns).map a4D)=a7s (.int m)+1+a4O (ns.map a4D):=rfl;have c:a7s (.int m)=a1k m:=rfl;rw[e,c]at h;rcases a0D.mp a with rfl|a
  .lia
  .exact GH (b:=b) (by lia) n a
section
open PySem PySem.W PySem.Calls PyProof.Rows
theorem UZ{l:a9s}(U:l.most=a7 n)(y:d.params.defaults=[])(call:∀w s₀ b s B g o E p c a(vs:gq)ns,
   Ground q loose [] XP w s₀ s B b.heap->YP w b.heap->
   b.heap.get? g=a7 o->o.data=.func (docDef d.name d.params d.body d.scope E p c)->b.heap.CodeRec p d.name->s d.name=a7 (.ref g)->
   b.heap.get? a=a7 {cls:=.type "list",data:=.seq vs.toArray}->a3y vs ns->ns.length<=n->(∀m∈ns,a1k m<=2^20)->b.gens=#[]->
   a3q (a0L l.prog w) a7E (.call (.ref g) ⟨[.ref a],[]⟩) (λr u=>r=.ok (.ret<|.bool b5)/\OldK b.heap u.heap/\u.os=b.os/\a6X u.gens) b):
  a9Y q loose XP YP l.row.toRowW d [] (λf vs=>b1q f vs):=by
 intro w s₀ b s B G Y g o E p c K kV X hd x I z Q H J as k h hrd A R;obtain rfl:K=.none:=Dflts.none I y;obtain rfl:kV=.none:=Dflts.noKw I;obtain⟨a,vs,ns,rfl,rfl,j,e,i⟩:=Att.script_of U k A;have O:∀m∈ns,a1k m<=2^20:=by
  have v:a7l (.list<|ns.map a4D)=true:=by have:=h;unfold b1r at this;simpa using this
  unfold a7l at v;rw[a0j]at v;exact GH<|of_decide_eq_true v.2
 refine enter_call<|a6l (call w s₀ b s B g o E p c a vs ns G Y X (fd_plain hd) x z j e i O Q) λr u Z=>?_;obtain⟨rfl,L,M,N⟩:=Z;exact⟨.inl ⟨.bool b5,.bool b5,[],rfl,λ_=>rfl,.bool b5,Att.post_true l _,λ_=>⟨a7R,λ_ T=>(nomatch T)⟩⟩,L,M,N⟩
end
theorem walkM{l:a9s}{K:a2j->a0c}(hn:l.most=a7 63)(L:d.params.defaults=[])(hr:Room k a7E)(hY:∀w h,YP w h->(K w.params).In h)(hl:ds.lookup d.name=a7 st)(hx:c6 st=[x])(T:∀w B h,(K w.params).In h->h.Ns a1L B->TxtOk l.prog w (K w.params) B S ds/\∃f I,Fun (K w.params) d.name d.name st f I/\B d.name=a7 (.ref f)/\∀s u,a7L s I ⟨[u],[]⟩ [(x,u)])(M:∀b:List Int,b.length<=63->(∀m∈b,a1k m<=2^20)->∃p,fU S ds k d.name [.rol<|b.map D.int] []=a7 (.bl b5,p)):
  a9Y q loose XP YP l.row.toRowW d [] (λf vs=>b1q f vs):=by
 refine UZ hn L λw X Z B mb fa o pm cd doc a vs b G Y ho hd hcd O A g c J hg=>?_;have R:=hY w _ Y;obtain⟨hT,f,I,hF,U,hb⟩:=T w B _ R G.T.g;rw[O]at U;cases U;refine L2.law_call (CX:=eE) (sp:=eF (K w.params) 1 (fU S ds k d.name)) R G.T.g G.T.b G.T.builtins G.T.nolimit hg A g (a1l c<|by decide) hr (λy hb1 hb2=>?_) hb (λH hO hS=>?_) λH e s' z=>z
 .have:=UY (base:=y) hT k d.name st fa I hl hF;rw[hx]at this;exact this
 .obtain⟨p,hM⟩:=M b c J;have Q:RoL (K w.params) H a (b.map V.int):=by
   rcases hS with(h|h)|h
   .rcases hO a with z|⟨o,E,z⟩
    .rw[z]at h;cases h
    .rw[z]at h;cases h
   .exact .inl h
   .exact .inr h
  refine⟨rfl,λ_=>0,[.rol<|b.map D.int],[],.bl b5,p,⟨λi j N=>absurd N<|a5S _,λi N=>absurd N<|a5S _,λi E h=>(by cases h),λi E h=>(by cases h),λi E h=>(by cases h)
   ,λi E h=>(by cases h)
   ,λi E h=>(by cases h)
   ,λi x fs h=>(by cases h)
   ⟩,.cons (.rol Q ?_) .nil,hM,λπ' v H' _ _ hv=>?_⟩
  .have:∀b:List Int,IsDs (K w.params) (λ_=>0) ([]:Hm).length H (b.map V.int) (b.map D.int):=λb=>by
    induction b with
    |nil=>exact .nil|cons n r ih=>exact .cons (.int n) ih
   exact this b
  .cases hv;rfl
end L3
namespace L3
open PySem L2
theorem mX{a:Type}:∀{l:List (Str×a)}{x}{b},l.lookup x=a7 b->(x,b)∈l:=λh=>a1X h
theorem U0{S:Sig}{ds:List (Str×Stmt)}(h:(S.fn.all λp=>match ds.lookup p.1 with|some st=>decide ((c6 st).length=p.2)|none=>b3)=b5):∀x n,S.fn.lookup x=a7 n->∃st,ds.lookup x=a7 st/\(c6 st).length=n:=by
 intro x n e;have:=a2z.mp h (x,n)<|mX e;dsimp only at this;split at this
 .rename_i st a;exact⟨st,a,of_decide_eq_true this⟩
 .cases this
theorem U1{ds:List (Str×Stmt)}(h:∀p∈ds,DefAt K a p.1 p.2/\jU p.2=b5):∀x st,ds.lookup x=a7 st->DefAt K a x st/\jU st=true:=λx st e=>h (x,st)<|mX e
theorem U2{b:Str->Option Value}{a:List (Str×D)}(h:∀p∈a,∃v u,b p.1=a7 u/\RelV v u/\∀π n H,IsD K π n H v p.2):∀x d,a.lookup x=a7 d->∃v u,b x=a7 u/\RelV v u/\∀π n H,IsD K π n H v d:=λx d e=>h (x,d)<|mX e
inductive EntsOf (w:a1f):List DictEntry->List (cA×Value)->Prop where
 |nil:EntsOf w [] []
 |cons {e:DictEntry}{k:cA}{v:Value}{es:List DictEntry}{kvs:List (cA×Value)}(h:xW k e.key=b5)(hh:e.hash=Cr w k)(hv:e.val=v)(t:EntsOf w es kvs):EntsOf w (e::es)<|(k,v)::kvs
theorem U3{a:Str->Option Value}{ns:List Str}(h:∀x∈ns,a x=b0):∀x,ns.contains x=b5->a x=none:=λx e=>h x<|by simpa using e
noncomputable def qK:Nat->(Nat->Value)->gq
 |0,_=>[]|n+1,u=>u 0::qK n λi=>u<|i+1
theorem Bk:∀us,∃u,us=qK us.length u
 |[]=>⟨λ_=>.none,rfl⟩|v::us=>let⟨u,a⟩:=Bk us;⟨λi=>match i with|0=>v|i+1=>u i,congrArg (v::·) a⟩
noncomputable abbrev GJ:Type:=Value->Value->Value->Option Addr->Value->Value->(Nat->Value)->a9X (List<|Str×Value)
noncomputable def U4(x:Str)(st:Stmt)(m:Value)(c:Addr):Obj:=⟨a0C "function",b0,.func<|a2m x x (f6 st) (eU st) (cH st) .none .none .none m b0 (.ref c) .none,#[]⟩
noncomputable def GK(K:a0c)(d:(Str×Stmt)×Value×Addr×Addr):Option (Option Value)×Option Obj×Bool×Bool×Bool×GJ:=(a3t K a1L d.1.1,K.lookup d.2.2.2,a4N K (.ref d.2.2.1) d.1.1,a2l K<|.ref d.2.2.2,jU d.1.2,λkV b c an a ct u=>a8D (a2m d.1.1 d.1.1 (f6 d.1.2) (eU d.1.2) (cH d.1.2) .none kV b c an a ct) ⟨qK (c6 d.1.2).length u,[]⟩)
noncomputable def GL(d:(Str×Stmt)×Value×Addr×Addr):Option (Option Value)×Option Obj×Bool×Bool×Bool×GJ:=(a7<|a7<|.ref d.2.2.2,a7<|U4 d.1.1 d.1.2 d.2.1 d.2.2.1,b5,b5,b5,λ_ _ _ _ _ _ u=>pure<|(c6 d.1.2).zip<|qK (c6 d.1.2).length u)
noncomputable def wK(K:a0c)(d:Str×Stmt):(Str×Stmt)×Value×Addr×Addr:=(d,match a3t K a1L d.1 with
 |some (a7<|.ref f)=>(match K.lookup f with
  |some ⟨_,_,.func fd,_⟩=>(match fd.code with
   |.ref c=>(fd.pyModule,c,f)
   |_=>(.none,0,0))
  |_=>(.none,0,0))
 |_=>(.none,0,0))
noncomputable def wL(K:a0c)(ds:List (Str×Stmt)):Prop:=ds.map (λd=>GK K<|wK K d)=ds.map λd=>GL<|wK K d
theorem GN(X:K.In h)(G:h.Ns a1L i)(q:wL K ds):∀p∈ds,(DefAt K i p.1 p.2/\jU p.2=b5)/\∃f j,Fun K p.1 p.1 p.2 f j/\i p.1=a7 (.ref f)/\∀us:gq,us.length=(c6 p.2).length->a8D j ⟨us,[]⟩=pure ((c6 p.2).zip us):=by
 intro g r;have t:=a9U.mp q g r;have e:(wK K g).1=g:=rfl;generalize wK K g=d at t e;obtain⟨p,m,c,f⟩:=d;cases e;unfold GK GL at t;obtain⟨a,t⟩:=a3i t;obtain⟨l,t⟩:=a3i t;obtain⟨c,t⟩:=a3i t;obtain⟨k,t⟩:=a3i t;obtain⟨s,b⟩:=a3i t;have F:=Dk (st:=p.2) l c k;have D:=λkV doc pm an cdv ct (us:gq)(o:us.length=(c6 p.2).length)=>(by
  obtain⟨u,n⟩:=Bk us;rw[o]at n;rw[n];exact congrFun (congrFun (congrFun (congrFun (congrFun (congrFun (congrFun b kV) doc) pm) an) cdv) ct) u:a8D (a2m p.1 p.1 (f6 p.2) (eU p.2) (cH p.2) .none kV doc pm an cdv ct) ⟨us,[]⟩=pure ((c6 p.2).zip us))
 exact⟨⟨⟨_,_,F,a5Z X G a,Binds.all<|D _ _ _ _ _ _⟩,s⟩,_,_,F,a5Z X G a,D _ _ _ _ _ _⟩
theorem U5(X:K.In h)(G:h.Ns a1L c)(q:wL K ds)(d:ds.lookup x=a7 st)(e:c6 st=[y]):∃f a,Fun K x x st f a/\c x=a7 (.ref f)/\∀s u,a7L s a ⟨[u],[]⟩ [(y,u)]:=by obtain⟨f,a,F,m,b⟩:=(GN X G q (x,st)<|mX d).2;dsimp only at b;rw[e]at b;exact⟨f,a,F,m,λs u=>.of_eq<|b [u] rfl⟩
theorem U6(X:K.In h)(G:h.Ns a1L a){ns:List Str}(q:ns.map (a3t K a1L)=ns.map λ_=>a7 b0):∀x∈ns,a x=none:=λx b=>PySem.W.mg_none_of X G<|a9U.mp q x b
noncomputable def sT{c d:Type}(f:c->d->Bool):List c->List d->Bool
 |[],[]=>b5|a::as,b::bs=>f a b&&sT f as bs|_,_=>b3
noncomputable def sU(K:a0c):Nat->Value->D->Bool
 |0,_,_=>b3|k+1,u,d=>match d with
  |.non=>(match u with|.none=>b5|_=>b3)|.bl b=>(match u with|.bool c=>decide (b=c)|_=>b3)|.int i=>(match u with|.int j _=>decide (i=j)|_=>b3)|.str x=>(match u with|.str y _=>decide (x=y)|_=>b3)
  |.tup ds=>(match u with
   |.ref p=>(match K.lookup p with
    |some ⟨.type t,b0,.seq its _,_⟩=>decide (t="tuple")&&decide (its.size<=1000)&&sT (sU K k) its.toList ds
    |_=>b3)
   |_=>b3)
  |.rol ds=>(match u with
   |.ref p=>(match K.lookup p with
    |some ⟨.type t,b0,.seq its _,_⟩=>decide (t="list")&&decide (its.size<=1000)&&sT (sU K k) its.toList ds
    |_=>b3)
   |_=>b3)
  |_=>b3
theorem GO(h:∀u d,f u d=b5->∃v,RelV v u/\∀π n H,IsD K π n H v d):∀us ds,sT f us ds=b5->∃vs,Vals vs us/\∀π n H,IsDs K π n H vs ds
 |[],[],_=>⟨[],.nil,λ_ _ _=>.nil⟩|u::us,d::ds,e=>by obtain⟨a,b⟩:=a3O.mp e;obtain⟨v,r,q⟩:=h u d a;obtain⟨vs,g,c⟩:=GO h us ds b;exact⟨v::vs,.cons r g,λ_ _ _=>.cons (q _ _ _)<|c _ _ _⟩
 |[],_::_,e=>nomatch e|_::_,[],e=>nomatch e
theorem GP:∀k u d,sU K k u d=b5->∃v,RelV v u/\∀π n H,IsD K π n H v d
 |0,_,_,e=>nomatch e|k+1,u,d,e=>by
  have seq:∀{p:Addr}{ds:List D}{c:String},(match K.lookup p with|some ⟨.type t,b0,.seq g _,_⟩=>decide (t=c)&&decide (g.size<=1000)&&sT (sU K k) g.toList ds|_=>b3)=b5->∃h g n l,K.lookup p=a7 ⟨.type c,b0,.seq g n,l⟩/\g.size<=a0s/\Vals h g.toList/\∀π n H,IsDs K π n H h ds:=λ{p ds c} e=>by
   split at e
   .rename_i t g n l j;obtain⟨e,q⟩:=a3O.mp e;obtain⟨a,b⟩:=a3O.mp e;cases of_decide_eq_true a;obtain⟨h,r,i⟩:=GO (GP k) _ _ q;exact⟨h,g,n,l,j,a1l (of_decide_eq_true b)<|by decide,r,i⟩
   .cases e
  cases d with
  |non=>cases u with
   |none=>exact⟨.non,rfl,λ_ _ _=>.non⟩|_=>cases e
  |bl b=>cases u with
   |bool c=>cases of_decide_eq_true e;exact⟨.bl b,rfl,λ_ _ _=>.bl _⟩|_=>cases e
  |int b=>cases u with
   |int c=>cases of_decide_eq_true e;exact⟨.int b,⟨_,rfl⟩,λ_ _ _=>.int _⟩|_=>cases e
  |str b=>cases u with
   |str c=>cases of_decide_eq_true e;exact⟨.str b,⟨_,rfl⟩,λ_ _ _=>.str _⟩|_=>cases e
  |tup ds=>cases u with
   |ref p=>obtain⟨h,g,n,l,j,m,r,i⟩:=seq e;exact⟨.ref p,rfl,λ_ _ _=>.tup (vs:=h) (.inr ⟨_,g,n,j,rfl,rfl,rfl,m,r⟩)<|i _ _ _⟩|_=>cases e
  |rol ds=>cases u with
   |ref p=>obtain⟨h,g,n,l,j,m,r,i⟩:=seq e;exact⟨.ref p,rfl,λ_ _ _=>.rol (vs:=h) (.inr ⟨_,g,n,j,rfl,rfl,rfl,m,r⟩)<|i _ _ _⟩|_=>cases e
  |_=>cases e
noncomputable def GQ(K:a0c)(a:List (Str×D)):Bool:=a.all λc=>match a3t K a1L c.1 with|some (a7 u)=>sU K 8 u c.2|_=>b3
theorem U7(X:K.In h)(G:h.Ns a1L b)(q:GQ K a=b5):∀p∈a,∃v u,b p.1=a7 u/\RelV v u/\∀π n H,IsD K π n H v p.2:=λp c=>by
 have t:=a2z.mp q p c;split at t
 .rename_i u d;obtain⟨v,r,i⟩:=GP _ _ _ t;exact⟨v,u,a5Z X G d,r,i⟩
 .cases t
noncomputable def iE(K:a0c)(x:Str):Addr:=match a3t K a1L x with
 |some (a7<|.ref C)=>C|_=>0
noncomputable def sV(K:a0c)(x:Str):Bool:=a3t K a1L x==a7 (a7<|.ref<|iE K x)&&a4r K (iE K x) Str.empty&&a4Y K (iE K x)&&a6A K (iE K x) &&
 a1Y K (.ref<|iE K x) "__setattr__"==a7 (a7<|.builtin "object.__setattr__")
theorem sW(h:sV K x=b5):CAt K x (iE K x)/\Cls K (iE K x):=by unfold sV at h;rw[a0j,a0j,a0j,a0j,beq_iff_eq,beq_iff_eq]at h;obtain⟨⟨⟨⟨a,b⟩,c⟩,d⟩,e⟩:=h;exact⟨a,b,c,d,e⟩
theorem U8{L:List (Str×Str)}(h:(L.all λp=>sV K p.2&&a1Y K (.ref<|iE K p.2) p.1==a7 b0)=b5):∀f x,L.lookup f=a7 x->∃C,CAt K x C/\Cls K C/\NoAttr K C f:=λf x e=>by have:=a2z.mp h (f,x)<|mX e;rw[a0j,beq_iff_eq]at this;exact⟨_,(sW this.1).1,(sW this.1).2,this.2⟩
noncomputable def lE(K:a0c)(x m:Str):Addr:=match a1Y K (.ref<|iE K x) m with
 |some (a7<|.ref g)=>g|_=>0
noncomputable def Bl(K:a0c)(g:Addr):Value×Value×Addr:=match K.lookup g with
 |some ⟨_,_,.func fd,_⟩=>(match fd.code with
  |.ref c=>(fd.defaults,fd.pyModule,c)
  |_=>(.none,.none,0))
 |_=>(.none,.none,0)
noncomputable def GR(x a:Str)(st:Stmt)(q:Value×Value×Addr):a2L:=a2m x a (f6 st) (eU st) (cH st) q.1 .none .none q.2.1 b0 (.ref q.2.2) .none
noncomputable def GS(K:a0c)(x m a:Str)(st:Stmt)(n:Nat):Bool:=a1Y K (.ref<|iE K x) m==a7 (a7<|.ref<|lE K x m)&&a6C K (.ref<|lE K x m)&&a2l K (.ref<|lE K x m) &&
 a4N K (.ref (Bl K<|lE K x m).2.2) a&&decide ((c6 st).length=n+1)
noncomputable abbrev Bm(K:a0c)(x m a:Str)(st:Stmt)(n:Nat):Prop:=GS K x m a st n=b5/\K.lookup (lE K x m)=a7 ⟨.type "function",b0,.func<|GR m a st<|Bl K<|lE K x m,#[]⟩ /\
 (λS u=>PySem.W.peek K S<|a8D (GR m a st<|Bl K<|lE K x m) ⟨qK (n+1) u,[]⟩)=λ_ u=>a7<|(c6 st).zip<|qK (n+1) u
theorem GU(h:Bm K x m a st n):Meth K (iE K x) m (lE K x m)/\oF K (a7 st) n (lE K x m):=by obtain⟨h,l,k⟩:=h;unfold GS at h;rw[a0j,a0j,a0j,a0j,beq_iff_eq,decide_eq_true_eq]at h;obtain⟨⟨⟨⟨g,i⟩,b⟩,j⟩,c⟩:=h;refine⟨⟨g,i,b⟩,_,m,a,st,rfl,Dk (st:=st) l j b,λs o X d=>?_,c⟩;rw[a1O]at d ⊢;obtain⟨u,e⟩:=Bk o;rw[d,c]at e;rw[e];exact PySem.W.kp_binds X λS=>congrFun (congrFun k S) u
theorem U9(h:∀p∈S.mt,sV K p.2.1=b5/\∃a st,lk S ds p.2.2.1=a7 st/\Bm K p.2.1 p.1 a st p.2.2.2):∀m x y n,S.mt.lookup m=a7 (x,y,n)->∃C g,CAt K x C/\Cls K C/\Meth K C m g/\oF K (lk S ds y) n g:=λm x y n e=>by obtain⟨b,a,st,c,d⟩:=h (m,x,y,n)<|mX e;dsimp only at b c d;rw[c];exact⟨_,_,(sW b).1,(sW b).2,GU d⟩
theorem Va(h:∀p∈S.mc,sV K p.1=b5/\lk S ds p.1=b0/\(a7c K (iE K p.1)&&a2l K (.ref<|iE K p.1))=b5/\∃b st,lk S ds p.2.1=a7 st/\Bm K p.1 "__init__" b st p.2.2):
  ∀x y n,S.mc.lookup x=a7 (y,n)->lk S ds x=b0/\∃C g,CAt K x C/\Mk K C g/\oF K (lk S ds y) n g:=λx y n e=>by
 obtain⟨d,i,c,b,st,j,k⟩:=h (x,y,n)<|mX e;dsimp only at d i c j k;rw[j];rw[a0j]at c;obtain⟨m,a⟩:=GU k;exact⟨i,_,_,(sW d).1,⟨c.1,m.at_,m.fn,c.2⟩,a⟩
theorem Vb{L:List (Str×Stmt)}(h:(L.all λp=>jU p.2)=b5):∀y st,L.lookup y=a7 st->jU st=true:=λy st e=>a2z.mp h (y,st)<|mX e
noncomputable def W{a:Type}(o:Option a)(Q:a->Prop):Prop:=∃r,o=a7 r/\Q r
theorem W_some{r:α}{Q:α->Prop}:W (a7 r) Q↔Q r:=⟨λ⟨_,h,q⟩=>by cases h;exact q,λq=>⟨r,rfl,q⟩⟩
theorem W_none{Q:α->Prop}:W b0 Q↔False:=⟨λ⟨_,h,_⟩=>(by cases h),λh=>h.elim⟩
theorem W_bind{o:Option α}{g:α->Option β}{Q:β->Prop}:W (o.bind g) Q↔W o λr=>W (g r) Q:=by
 cases o with
 |none=>exact⟨λ⟨_,h,_⟩=>(by cases h),λ⟨_,h,_⟩=>(by cases h)⟩|some a=>simp[W_some]
theorem jV{o:Option α}{g:α->β}{Q:β->Prop}:W (o.map g) Q↔W o λr=>Q (g r):=by
 cases o with
 |none=>exact⟨λ⟨_,h,_⟩=>(by cases h),λ⟨_,h,_⟩=>(by cases h)⟩|some a=>simp[W_some]
theorem bB{o:Option α}{Q:α->Prop}{a:α->Prop}(h:W o Q)(k:∀r,Q r->a r):W o a:=let⟨r,e,q⟩:=h;⟨r,e,k r q⟩
theorem wM{Q:α->Prop}[Decidable c]{a b:Option α}:W (if c then a else b) Q↔if c then W a Q else W b Q:=by split<;>rfl
noncomputable def fin:Option (Fl×aG×Hm)->jk:=λo=>o.bind λp=>match p.1 with|.rt d=>a7 (d,p.2.2)|.nx=>a7 (.non,p.2.2)|_=>b0
theorem W_fin{Q:jz}:W (fin o) Q↔W o λp=>match p.1 with|.rt d=>Q (d,p.2.2)|.nx=>Q (.non,p.2.2)|_=>False:=by
 unfold fin;rw[W_bind];constructor
 .exact λh=>bB h λp q=>by obtain⟨a,c,b⟩:=p;cases a<;>simpa[W_some,W_none]using q
 .exact λh=>bB h λp q=>by obtain⟨a,c,b⟩:=p;cases a<;>simpa[W_some,W_none]using q
theorem aN{μ μ':Hm}(h:μ<+:μ'){a:Nat}(e:μ[a]?=a7 c):μ'[a]?=a7 c:=by obtain⟨t,rfl⟩:=h;have b:=(a0f.mp e).1;rw[a0W b];exact e
theorem aU(μ:Hm)(c:C):μ<+:μ++[c]:=⟨[c],rfl⟩
theorem gM{μ μ':Hm}(h:μ<+:μ')(b:μ.length<=a)c:μ<+:μ'.set a c:=by obtain⟨t,rfl⟩:=h;rw[a4x _ _ b];exact⟨_,rfl⟩
theorem w_mSeq{Q}:W (aH a b c μ) Q↔W (a c μ) λp=>match p.1 with|.nx=>W (b p.2.1 p.2.2) Q|_=>Q p:=by
 unfold aH;rw[W_bind];constructor
 .exact λh=>bB h λp q=>by obtain⟨d,c,μ⟩:=p;cases d<;>simpa[W_some,W_none]using q
 .exact λh=>bB h λp q=>by obtain⟨d,c,μ⟩:=p;cases d<;>simpa[W_some,W_none]using q
theorem w_mRet{Q}:W (aQ m a μ) Q↔W (m a μ) λp=>Q (.rt p.1,a,p.2):=jV
theorem w_mDrop{Q}:W (cY m a μ) Q↔W (m a μ) λp=>Q (.nx,a,p.2):=jV
theorem w_mSet{Q}:W (aR i m a μ) Q↔W (m a μ) λp=>Q (.nx,a.set i<|a7 p.1,p.2):=jV
theorem w_mNext{Q}:W (bA a μ) Q↔Q (.nx,a,μ):=W_some
theorem w_mIfS{Q}:W (aZ t a b c μ) Q↔W (t c μ) λp=>if p.1=b5 then W (a c p.2) Q else W (b c p.2) Q:=by unfold aZ;rw[W_bind];constructor<;>exact λh=>bB h λp q=>by obtain⟨x,μ⟩:=p;cases x<;>simpa using q
theorem w_mIfE{Q}:W (fK t a b c μ) Q↔W (t c μ) λp=>if p.1=b5 then W (a c p.2) Q else W (b c p.2) Q:=by unfold fK;rw[W_bind];constructor<;>exact λh=>bB h λp q=>by obtain⟨x,μ⟩:=p;cases x<;>simpa using q
theorem w_mAndT{Q}:W (jH a b c μ) Q↔W (a c μ) λp=>if p.1=b5 then W (b c p.2) Q else Q (b3,p.2):=by unfold jH;rw[W_bind];constructor<;>exact λh=>bB h λp q=>by obtain⟨x,μ⟩:=p;cases x<;>simpa[W_some]using q
theorem w_mOrT{Q}:W (iK a b c μ) Q↔W (a c μ) λp=>if p.1=b5 then Q (b5,p.2)else W (b c p.2) Q:=by unfold iK;rw[W_bind];constructor<;>exact λh=>bB h λp q=>by obtain⟨x,μ⟩:=p;cases x<;>simpa[W_some]using q
theorem w_mNotT{Q}:W (iL a b μ) Q↔W (a b μ) λp=>Q (!p.1,p.2):=jV
theorem w_mOp{Q}:W (aC f a b c μ) Q↔W (a c μ) λp=>W (b c p.2) λq=>W (f p.1 q.1 q.2) Q:=by unfold aC;rw[W_bind];simp only[W_bind]
theorem bM{Q}:W (mC d a μ) Q↔Q (d,μ):=W_some
theorem aL{a:aG}{Q}:W (aA 0 (a7 d::a) μ) Q↔Q (d,μ):=by show W (a7 (d,μ)) Q↔_;exact W_some
theorem aO{a:aG}{Q}:W (aA (i+1) (x::a) μ) Q↔W (aA i a μ) Q:=by unfold aA;rw[a8p]
theorem aV{Q}:W (aD a μ) Q↔Q ([],μ):=W_some
theorem w_mCons{Q}:W (aB a r b μ) Q↔W (a b μ) λp=>W (r b p.2) λq=>Q (p.1::q.1,q.2):=by unfold aB;simp only[W_bind,W_some]
theorem w_mTup{Q}:W (aX ms a μ) Q↔W (ms a μ) fun p=>p.1.length<=a0s/\Q (.tup p.1,p.2):=by
 unfold aX
 rw [W_bind]
 constructor<;>exact fun h=>bB h fun p q=>by
  first
  | (rw [wM] at q;split at q
     .exact ⟨by assumption,W_some.mp q⟩
     .exact (W_none.mp q).elim)
  | (rw [if_pos q.1];exact W_some.mpr q.2)
theorem w_mLst{Q}:W (cQ ms a μ) Q↔W (ms a μ) fun p=>p.1.length<=a0s/\Q (.loc p.2.length,p.2++[.lst p.1]):=by
 unfold cQ
 rw [W_bind]
 constructor<;>exact fun h=>bB h fun p q=>by
  first
  | (rw [wM] at q;split at q
     .exact ⟨by assumption,W_some.mp q⟩
     .exact (W_none.mp q).elim)
  | (rw [if_pos q.1];exact W_some.mpr q.2)
theorem w_mCall{Q}:W (aF f ms a μ) Q↔W (ms a μ) fun p=>W (f p.1 p.2) Q:=W_bind
theorem w_mTest{Q}:W (aS m a μ) Q↔W (m a μ) λp=>match p.1 with|.bl b=>Q (b,p.2)|_=>False:=by unfold aS;rw[W_bind];constructor<;>exact λh=>bB h λp q=>by obtain⟨d,μ⟩:=p;cases d<;>simpa[W_some,W_none]using q
theorem w_mTru{Q}:W (dE m a μ) Q↔W (m a μ) λp=>W (mH p.2 p.1) λb=>Q (b,p.2):=by unfold dE;simp only[W_bind,jV]
theorem wN{Q}:W (cK a b μ) Q↔W (a b μ) λp=>match p.1 with|.int i=>Q (.int<|-i,p.2)|_=>False:=by unfold cK;rw[W_bind];constructor<;>exact λh=>bB h λp q=>by obtain⟨d,μ⟩:=p;cases d<;>simpa[W_some,W_none,jV,zF]using q
theorem GV{Q}:W (o9 a c μ) Q↔W (a c μ) λp=>match p.1 with|.bl b=>Q (.bl<|!b,p.2)|_=>False:=by unfold o9;rw[W_bind];constructor<;>exact λh=>bB h λp q=>by obtain⟨d,μ⟩:=p;cases d<;>simpa[W_some,W_none]using q
theorem w_mAndV{Q}:W (gA a b e μ) Q↔W (a e μ) λp=>match p.1 with|.bl c=>if c=b5 then W (b e p.2) Q else Q (.bl b3,p.2)|_=>False:=by
 unfold gA;rw[W_bind];constructor<;>exact λh=>bB h λp q=>by
  obtain⟨d,μ⟩:=p;cases d with
  |bl c=>cases c<;>simpa[W_some]using q|_=>simpa[W_none]using q
theorem w_mPar{Q}:W (pK i j ms d μ) Q↔W (ms d μ) λp=>match p.1 with|[v,w]=>Q (.nx,(d.set i<|a7 v).set j<|a7 w,p.2)|_=>False:=by
 unfold pK;rw[W_bind];constructor<;>exact λh=>bB h λp q=>by
  obtain⟨l,μ⟩:=p;match l,q with
  |[],q=>simpa[W_none]using q|[a],q=>simpa[W_none]using q|[a,b],q=>simpa[W_some]using q|a::b::c::l,q=>simpa[W_none]using q
theorem w_mAsg{Q}:W (hX m g a μ) Q↔W (m a μ) λp=>W (g p.1 a p.2) λb=>Q (.nx,b,p.2):=by unfold hX;simp only[W_bind,jV]
theorem w_addI{Q:jz}:W (bI (.int i) (.int j) μ) Q↔Q (.int<|i+j,μ):=W_some
theorem w_subI{Q:jz}:W (cB (.int i) (.int j) μ) Q↔Q (.int<|i-j,μ):=W_some
theorem gO{Q:jz}(h:0<j):W (bC (.int i) (.int j) μ) Q↔Q (.int<|i%j,μ):=by show W ((if 0<j then a7 (i%j)else b0).map λz=>(D.int z,μ)) Q↔_;rw[if_pos h];exact W_some
theorem Vc:(1073741824:Int)<2^4000:=by decide +kernel
theorem Vd{Q:jz}(h:0<j)(k:j<2^4000):W (dM (.int i) (.int j) μ) Q↔Q (.int<|i/j,μ):=by show W ((if 0<j/\j<2^4000 then a7 (i/j)else b0).map λz=>(D.int z,μ)) Q↔_;rw[if_pos ⟨h,k⟩];exact W_some
theorem wO{Q:jz}(h:0<j)(k:j<1073741824):W (dM (.int i) (.int j) μ) Q↔Q (.int<|i/j,μ):=Vd h<|Int.lt_trans k Vc
theorem jW{Q:jz}(h:(-(2^64)<i/\i<2^64)\/(-(2^64)<j/\j<2^64)):W (bG (.int i) (.int j) μ) Q↔Q (.int<|i*j,μ):=by show W ((if((-(2^64)<i/\i<2^64)\/(-(2^64)<j/\j<2^64))\/(i.natAbs<2^4000/\j.natAbs<2^4000)\/a1k i+a1k j<=134217728 then a7 (i*j)else b0).map λz=>(D.int z,μ)) Q↔_;rw[if_pos<|.inl h];exact W_some
theorem w_eqI{Q:jz}:W (aT b3 (.int i) (.int j) μ) Q↔Q (.bl<|i==j,μ):=W_some
theorem GW{Q:jz}:W (aT b5 (.int i) (.int j) μ) Q↔Q (.bl<|!(i==j),μ):=W_some
theorem w_neP{Q:jz}:W (aT b5 (.tup [.int x,.int y]) (.tup [.int h,.int k]) μ) Q↔Q (.bl<|!(x==h&&(y==k&&b5)),μ):=W_some
theorem w_ltI{Q:jz}:W (jI (.int i) (.int j) μ) Q↔Q (.bl<|decide<|i<j,μ):=W_some
theorem Ve{Q:jz}:W (pG (.int i) (.int j) μ) Q↔Q (.bl<|decide<|i<=j,μ):=W_some
theorem w_gtI{Q:jz}:W (iP (.int i) (.int j) μ) Q↔Q (.bl<|decide<|j<i,μ):=W_some
theorem Vf{Q:jz}:W (rM (.int i) (.int j) μ) Q↔Q (.bl<|decide<|j<=i,μ):=W_some
theorem w_it20{Q:jz}:W (aE (.tup [a,b]) (.int 0) μ) Q↔Q (a,μ):=W_some
theorem w_it21{Q:jz}:W (aE (.tup [a,b]) (.int 1) μ) Q↔Q (b,μ):=W_some
theorem GX{Q:jz}:W (aE (.tup [a,b,c,d,e,g]) (.int 0) μ) Q↔Q (a,μ):=W_some
theorem GY{Q:jz}:W (aE (.tup [a,b,c,d,e,g]) (.int 1) μ) Q↔Q (b,μ):=W_some
theorem G0{Q:jz}:W (aE (.tup [a,b,c,d,e,g]) (.int 2) μ) Q↔Q (c,μ):=W_some
theorem G1{Q:jz}:W (aE (.tup [a,b,c,d,e,g]) (.int 3) μ) Q↔Q (d,μ):=W_some
theorem Vg{Q:jz}:W (aE (.tup [a,b,c,d,e,g]) (.int 4) μ) Q↔Q (e,μ):=W_some
theorem Vh{Q:jz}:W (aE (.tup [a,b,c,d,e,g]) (.int 5) μ) Q↔Q (g,μ):=W_some
theorem w_truB:W (mH μ<|.bl b) Q↔Q b:=W_some
theorem gP{Q:jz}(h:μ[a]?=a7 (.lst xs))(b:atI xs i=a7 d):W (aE (.loc a) (.int i) μ) Q↔Q (d,μ):=by
 have:aE (.loc a) (.int i) μ=a7 (d,μ):=by simp only[aE,gY,bF,h,a0G,b,a0M]
 rw[this];exact W_some
theorem Vi(h:μ[l]?=a7 (.lst [a,b])):W (c4 [i,j] (.loc l) c μ) Q↔Q ((c.set i<|a7 a).set j<|a7 b):=by
 have:c4 [i,j] (.loc l) c μ=a7 ((c.set i<|a7 a).set j<|a7 b):=by simp only[c4,bF,h,a0G];rfl
 rw[this];exact W_some
theorem w_iSeq:W (cU m a μ) Q↔W (m a μ) λp=>W (kF p.2 p.1) λxs=>Q (dQ p.1,xs.length+1,p.2):=by unfold cU;simp only[W_bind,jV]
theorem w_mForI{Q}:W (cD c g b a μ) Q↔W (c a μ) λp=>W (eL p.1 g b p.2.1 0 a p.2.2) Q:=W_bind
theorem G3{j:Int}:W (nT ms c μ) Q↔W (ms c μ) fun p=>match p.1 with|[.int j]=>(-(2 ^ 62)<=j/\j<2 ^ 62)/\Q (hV 0 j.toNat,j.toNat+1,p.2)|_=>False:=by
 unfold nT
 rw [W_bind]
 constructor<;>exact fun h=>bB h fun p q=>by
  obtain ⟨l,μ⟩:=p
  match l,q with
  | [],q=>simpa [W_none] using q
  | [d],q=>
   cases d with
   | int j=>
    first
    | (dsimp only at q;rw [wM] at q;split at q
       .rename_i e;exact ⟨e,W_some.mp q⟩
       .exact (W_none.mp q).elim)
    | (dsimp only;rw [if_pos q.1];exact W_some.mpr q.2)
   | _=>simpa [W_none] using q
  | a::b::l,q=>simpa [W_none] using q
theorem wQ:W (mD ms a μ) Q↔W (ms a μ) fun p=>match p.1 with|[.int i,.int j]=>(-(2 ^ 62)<=i/\i<2 ^ 62/\-(2 ^ 62)<=j/\j<2 ^ 62)/\Q (hV i (j - i).toNat,(j - i).toNat+1,p.2)|_=>False:=by
 unfold mD
 rw [W_bind]
 constructor<;>exact fun h=>bB h fun p q=>by
  split at q
  .rename_i e
   try rw [e]
   first
   | (rw [wM] at q;split at q
      .rename_i b;exact ⟨b,W_some.mp q⟩
      .exact (W_none.mp q).elim)
   | ((try dsimp only);rw [if_pos q.1];exact W_some.mpr q.2)
  .first
   | exact (W_none.mp q).elim
   | exact q.elim
theorem mY{e:fG}{b:MS}(I:Nat->aG->Hm->Prop)(n:∀ i a μ,i<N->I i a μ->∃ d j,e μ i=a7 (a7 d)/\g d a μ=a7 j/\W (b j μ) fun p=>match p.1 with|.nx=>I (i+1) p.2.1 p.2.2|.ct=>I (i+1) p.2.1 p.2.2|.bk=>Q (.nx,p.2.1,p.2.2)|.rt d=>Q (.rt d,p.2.1,p.2.2))(c:∀ a μ,I N a μ->e μ N=a7 b0/\Q (.nx,a,μ)):∀m i a μ,i+m=N->I i a μ->W (eL e g b (m+1) i a μ) Q
 | 0,i,a,μ,h,hI=>by
  have:i=N:=by lia
  subst this
  obtain ⟨o,r⟩:=c a μ hI
  unfold eL
  rw [o]
  exact W_some.mpr r
 | m+1,i,a,μ,h,hI=>by
  obtain ⟨d,j,o,r,u⟩:=n i a μ (by lia) hI
  unfold eL
  rw [o]
  simp only [a0G,r]
  rw [W_bind]
  refine bB u fun p q=>?_
  obtain ⟨s,l,k⟩:=p
  cases s with
  | nx=>exact mY I n c m (i+1) l k (by lia) q
  | ct=>exact mY I n c m (i+1) l k (by lia) q
  | bk=>exact W_some.mpr q
  | rt d=>exact W_some.mpr q
theorem lF{b:MS}(I:Nat->aG->Hm->Prop)(n:I 0 c μ)(l:∀i c μ,I i c μ->μ[a]?=a7 (.lst xs))(m:∀i d c μ,xs[i]?=a7 d->I i c μ->∃h,g d c μ=a7 h/\W (b h μ) λp=>match p.1 with|.nx=>I (i+1) p.2.1 p.2.2|.ct=>I (i+1) p.2.1 p.2.2|.bk=>Q (.nx,p.2.1,p.2.2)|.rt d=>Q (.rt d,p.2.1,p.2.2))(k:∀c μ,I xs.length c μ->Q (.nx,c,μ)):W (eL (dQ<|.loc a) g b (xs.length+1) 0 c μ) Q:=by
 refine mY (N:=xs.length) I (λi c μ r j=>?_) (λc μ j=>⟨?_,k c μ j⟩) xs.length 0 c μ (by lia) n
 .have e:xs[i]?=a7 xs[i]:=a0w r;obtain⟨h,o,q⟩:=m i xs[i] c μ e j;refine⟨xs[i],h,?_,o,q⟩;simp only[dQ,kF,bF,l i c μ j,a0M,e]
 .simp only[dQ,kF,bF,l _ c μ j,a0M];simp
theorem Vj(k:∀μ,kF μ x=a7 xs){b:MS}(I:Nat->aG->Hm->Prop)(m:I 0 a μ)(l:∀i d a μ,xs[i]?=a7 d->I i a μ->∃c,g d a μ=a7 c/\W (b c μ) λp=>match p.1 with|.nx=>I (i+1) p.2.1 p.2.2|.ct=>I (i+1) p.2.1 p.2.2|.bk=>Q (.nx,p.2.1,p.2.2)|.rt d=>Q (.rt d,p.2.1,p.2.2))(h:∀a μ,I xs.length a μ->Q (.nx,a,μ)):W (eL (dQ x) g b (xs.length+1) 0 a μ) Q:=by
 refine mY (N:=xs.length) I (λi a μ q j=>?_) (λa μ j=>⟨?_,h a μ j⟩) xs.length 0 a μ (by lia) m
 .have e:xs[i]?=a7 xs[i]:=a0w q;obtain⟨c,n,o⟩:=l i xs[i] a μ e j;refine⟨xs[i],c,?_,n,o⟩;simp only[dQ,k,a0M,e]
 .simp only[dQ,k,a0M];simp
theorem Bn{b:MS}(I:Nat->aG->Hm->Prop)(l:I 0 a μ)(k:∀i a μ,i<n->I i a μ->∃c,g (.int<|lo+i) a μ=a7 c/\W (b c μ) λp=>match p.1 with|.nx=>I (i+1) p.2.1 p.2.2|.ct=>I (i+1) p.2.1 p.2.2|.bk=>Q (.nx,p.2.1,p.2.2)|.rt d=>Q (.rt d,p.2.1,p.2.2))(e:∀a μ,I n a μ->Q (.nx,a,μ)):W (eL (hV lo n) g b (n+1) 0 a μ) Q:=by
 refine mY (N:=n) I (λi a μ j h=>?_) (λa μ h=>⟨?_,e a μ h⟩) n 0 a μ (by lia) l
 .obtain⟨c,m,o⟩:=k i a μ j h;exact⟨_,c,by simp only[hV,if_pos j],m,o⟩
 .simp only[hV,a2Z,if_false]
theorem Bo(h:μ[a]?=a7 (.lst b))(c:b.length<a0s):pI μ a y=a7 (μ.set a<|.lst<|b++[y]):=by unfold pI;rw[h];exact if_pos c
theorem Bp{s:fG}{μ0:Hm}{xs:List D}(w:∀μ i,μ0<+:μ->s μ i=a7 xs[i]?)(G:xs.length<=a0s)(hc:∀d μ,d∈xs->μ0<+:μ->W (c (E++[a7 d]) μ) λr=>r.1=p d/\μ<+:r.2)(x:∀d μ,d∈xs->p d=b5->μ0<+:μ->W (e (E++[a7 d]) μ) λr=>r.1=v d/\μ<+:r.2)(fin:∀μ,μ0<+:μ->μ[μ0.length]?=a7 (.lst<|(xs.filter p).map v)->Q μ):
  ∀m i(μ:Hm),i+m=xs.length->μ0<+:μ->μ[μ0.length]?=a7 (.lst<|((xs.take i).filter p).map v)->W (hW s pJ c e E μ0.length (m+1) i μ) Q
 |0,i,μ,hi,hp,ha=>by
  have:i=xs.length:=by lia
  subst this;unfold hW;rw[w μ _ hp];rw[a3f<|a0l _];simp only[a0G];refine W_some.mpr<|fin μ hp ?_;simpa using ha
 |m+1,i,μ,hi,hp,ha=>by
  have n:i<xs.length:=by lia
  have H:xs[i]?=a7 xs[i]:=a0w n;have g:xs[i]∈xs:=a5B n;unfold hW;rw[w μ _ hp,H];simp only[a0G,pJ];rw[W_bind];refine bB (hc _ μ g hp) λr q=>?_;obtain⟨b,u⟩:=r;obtain⟨I,o⟩:=q;dsimp only at I o ⊢;subst I;have a:xs.take (i+1)=xs.take i++[xs[i]]:=by rw[a6d,H];rfl
  have j:=aN o ha;cases h:p xs[i]with
  |false=>refine Bp w G hc x fin m (i+1) u (by lia) (hp.trans o) ?_;rw[j,a,a1D];simp[h]|true=>
   dsimp only;rw[W_bind];refine bB (x _ u g h<|hp.trans o) λr q=>?_;obtain⟨y,B⟩:=r;obtain⟨J,A⟩:=q;dsimp only at J A ⊢;subst J;have k:=aN A j;have l:(((xs.take i).filter p).map v).length<a0s:=by have K:=a0Z p<|xs.take i;rw[a0d];rw[a1w]at K;lia
   rw[Bo k l,a0G];have z:μ0<+:B:=(hp.trans o).trans A;refine Bp w G hc x fin m (i+1) _ (by lia) (gM z (a0l _) _) ?_;rw[a1a (a0f.mp k).1,a,a1D];simp[h]
theorem fV{xs:List D}{Q:jz}(hit:W (u b μ) λr=>(∀a i,r.2.2<+:a->r.1 a i=a7 xs[i]?)/\r.2.1=xs.length+1/\xs.length<=a0s /\
   (∀d a,d∈xs->r.2.2<+:a->W (c (b++[a7 d]) a) λs=>s.1=p d/\a<+:s.2)/\(∀d a,d∈xs->p d=b5->r.2.2<+:a->W (e (b++[a7 d]) a) λs=>s.1=v d/\a<+:s.2) /\
   ∀a,r.2.2<+:a->a[r.2.2.length]?=a7 (.lst<|(xs.filter p).map v)->Q (.loc r.2.2.length,a)):W (eN u c e b μ) Q:=by
 unfold eN jL;rw[W_bind];refine bB hit λr q=>?_;obtain⟨w,n,g⟩:=r;obtain⟨h,j,k,l,m,o⟩:=q;dsimp only at h j k l m o ⊢;subst j;rw[jV];exact Bp h k l m o xs.length 0 (g++[.lst []]) (by lia) (aU _ _)<|by simp
theorem jX{μ:Hm}(h:μ[a]?=a7 (.lst xs)):∀μ' i,μ<+:μ'->dQ (.loc a) μ' i=a7 xs[i]?:=λμ' i b=>by simp only[dQ,kF,bF,aN b h,a0M]
theorem wR{μ:Hm}:∀μ' i,μ<+:μ'->dQ (.tup xs) μ' i=a7 xs[i]?:=λμ' i a=>rfl
noncomputable def lG(lo:Int)(n:Nat):List D:=(a1o n).map λ(i:Nat)=>.int<|lo+(i:Int)
theorem Vk{μ:Hm}:∀μ' i,μ<+:μ'->hV lo n μ' i=a7 (lG lo n)[i]?:=λμ' i _=>by
 unfold hV lG;rw[a0v];by_cases h:i<n
 .rw[if_pos h,List.getElem?_range h];rfl
 .rw[if_neg h,a3f<|by simpa using a4j.mp h];rfl
noncomputable abbrev P(x y:Int):D:=.tup [.int x,.int y]
noncomputable abbrev PP(p:Int×Int):D:=P p.1 p.2
theorem G4 n μ p q:cI (n+2) μ (PP p) (PP q)=a7 (p==q):=by obtain⟨a,b⟩:=p;obtain⟨c,d⟩:=q;show a7 (a==c&&(b==d&&b5))=a7 ((a,b)==(c,d));rw[b0Q];rfl
theorem G5 n μ:∀ps qs:List Int,gD (l8 (n+1) μ) (ps.map D.int) (qs.map D.int)=a7 (ps==qs)
 |[],[]=>rfl|[],_::_=>rfl|_::_,[]=>rfl|p::ps,q::qs=>by rw[a0r,a0r];show(cI (n+1) μ (.int p)<|.int q).bind (λb=>(gD (l8 (n+1) μ) (ps.map D.int)<|qs.map D.int).map λc=>b&&c)=_;rw[G5 n μ ps qs];rfl
theorem Bq{Q:jz}(d:μ[a]?=a7 (.lst xs))(e:μ[b]?=a7 (.lst c))(g:xs.length+c.length<=a0s):W (bI (.loc a) (.loc b) μ) Q↔Q (.loc μ.length,μ++[.lst<|xs++c]):=by simp only[bI,d,e,if_pos g];exact W_some
theorem iF{Q:jz}(h:W (b a μ) λp=>mG p.2 p.1=b5/\W (ms a p.2) λq=>W (f p.1 q.1 q.2) Q):W (cV f b ms a μ) Q:=by unfold cV;rw[W_bind];refine bB h λp q=>?_;rw[q.1];exact W_bind.mpr q.2
theorem jY(h:μ[a]?=a7 (.lst xs)):mG μ (.loc a)=true:=by simp only[mG,h]
theorem qL{Q:jz}(h:μ[a]?=a7 (.lst xs))(b:xs.length<a0s):W (eV (.loc a) [y] μ) Q↔Q (.non,μ.set a<|.lst<|xs++[y]):=by simp only[eV,Bo h b,a0M];exact W_some
theorem Vl{Q:jz}(h:μ[a]?=a7 (.lst xs))(d:μ[b]?=a7 (.lst c))(e:xs.length+c.length<=a0s):W (pP (.loc a) [.loc b] μ) Q↔Q (.non,μ.set a<|.lst<|xs++c):=by simp only[pP,h,d,if_pos e];exact W_some
theorem G6{Q:jz}:W (l9 [.int i,.ty "bool"] μ) Q↔Q (.bl b3,μ):=W_some
theorem G7{Q:jz}:W (l9 [.int i,.ty "int"] μ) Q↔Q (.bl b5,μ):=W_some
theorem w_lenT{Q:jz}:W (dW [.tup xs] μ) Q↔Q (.int xs.length,μ):=W_some
theorem mZ{Q:jz}(h:μ[a]?=a7 (.lst xs)):W (dW [.loc a] μ) Q↔Q (.int xs.length,μ):=by simp only[dW,rN,bF,h,a0M];exact W_some
theorem w_lenR{Q:jz}:W (dW [.rol xs] μ) Q↔Q (.int xs.length,μ):=W_some
theorem eA(h:μ[a]?=a7 (.lst xs)):W (kF μ<|.loc a) Q↔Q xs:=by simp only[kF,bF,h];exact W_some
theorem w_seqT:W (kF μ<|.tup xs) Q↔Q xs:=W_some
theorem wU:W (gZ a μ) Q↔Q (b0,μ):=W_some
theorem wV:W (iM m a μ) Q↔W (m a μ) λp=>match p.1 with|.int i=>Q (a7 i,p.2)|_=>False:=by unfold iM;rw[W_bind];constructor<;>exact λh=>bB h λp q=>by obtain⟨d,μ⟩:=p;cases d<;>simpa[W_some,W_none]using q
theorem G8{Q:jz}(h:W (a b μ) λp=>∃l,p.1=.loc l/\W (lo b p.2) λq=>W (c b q.2) λr=>∃xs,r.2[l]?=a7 (.lst xs)/\Q (.loc r.2.length,r.2++[.lst<|kE xs q.1 r.1])):W (nM a lo c b μ) Q:=by unfold nM;rw[W_bind];refine bB h λp q=>?_;obtain⟨d,k⟩:=p;obtain⟨l,e,g⟩:=q;dsimp only at e g ⊢;subst e;rw[W_bind];refine bB g λs q=>?_;rw[W_bind];refine bB q λr q=>?_;obtain⟨xs,i,j⟩:=q;simp only[bF,i,a0G];exact W_some.mpr j
theorem bK(μ:Hm)c:(μ++[c])[μ.length]?=a7 c:=by simp
theorem G9{Q}:W (jM f g a b c e μ) Q↔W (a e μ) λp=>W (b e p.2) λq=>W (f p.1 q.1 q.2) λr=>match r.1 with|.bl k=>if k=b5 then W (c e r.2) λt=>W (g q.1 t.1 t.2) Q else Q (.bl b3,r.2)|_=>False:=by
 unfold jM;simp only[W_bind];constructor<;>exact λh=>bB h λp q=>bB q λl j=>bB j λr i=>by
  obtain⟨d,μ⟩:=r;cases d with
  |bl k=>cases k<;>simpa[W_some,W_bind]using i|_=>simpa[W_none]using i
theorem w_isnotNN{Q:jz}:W (fN b5 .non .non μ) Q↔Q (.bl b3,μ):=W_some
theorem w_isnotTN{Q:jz}:W (fN b5 (.tup xs) .non μ) Q↔Q (.bl b5,μ):=W_some
theorem Br:∀is,mE (is.map D.int)=a7 is
 |[]=>rfl|i::is=>by show(mE<|is.map D.int).map (i::·)=_;rw[Br is];rfl
theorem Ha{Q:jz}{is:List Int}(h:μ[a]?=a7 (.lst<|is.map D.int)):W (nX [.loc a] μ) Q↔Q (.int is.sum,μ):=by simp only[nX,bF,h,a0G,Br,a0M];exact W_some
theorem Vm{Q:jz}{bs:List Bool}(h:μ[a]?=a7 (.lst<|bs.map D.bl)):W (vD [.loc a] μ) Q↔Q (.bl<|bs.all id,μ):=by
 have e:∀bs:List Bool,pQ (bs.map D.bl)=a7 bs:=λbs=>by
  induction bs with
  |nil=>rfl|cons b bs c=>show(pQ<|bs.map D.bl).map (b::·)=_;rw[c];rfl
 simp only[vD,bF,h,a0G,e,a0M];exact W_some
theorem Bs{Q:jz}(h:W (a b μ) λp=>∃l,p.1=.loc l/\W (lo b p.2) λq=>W (c b q.2) λr=>W (st b r.2) λt=>t.1≠a7 0/\∃xs,t.2[l]?=a7 (.lst xs)/\(dU xs q.1 r.1 t.1).length<=a0s/\Q (.loc t.2.length,t.2++[.lst<|dU xs q.1 r.1 t.1])):W (mL a lo c st b μ) Q:=by unfold mL;rw[W_bind];refine bB h λp q=>?_;obtain⟨d,n⟩:=p;obtain⟨l,e,g⟩:=q;dsimp only at e g ⊢;subst e;rw[W_bind];refine bB g λs q=>?_;rw[W_bind];refine bB q λr q=>?_;rw[W_bind];refine bB q λt q=>?_;obtain⟨i,xs,j,k,m⟩:=q;rw[if_pos i];simp only[d8,j,a0G];rw[if_pos k];exact W_some.mpr m
theorem Vn(h:W (ms e μ) λp=>∃a xs,p.1=[.loc a]/\p.2[a]?=a7 (.lst xs)/\Q (nY<|.loc a,xs.length+1,p.2)):W (rV ms e μ) Q:=by unfold rV;rw[W_bind];refine bB h λp q=>?_;obtain⟨l,g⟩:=p;obtain⟨a,xs,b,c,d⟩:=q;dsimp only at b c d ⊢;subst b;dsimp only;simp only[d8,c,a0M];exact W_some.mpr d
theorem Vo{b:MS}(I:Nat->aG->Hm->Prop)(n:I 0 c μ)(l:∀i c μ,I i c μ->μ[a]?=a7 (.lst xs))(m:∀i d c μ,xs[i]?=a7 d->I i c μ->∃h,g (.tup [.int i,d]) c μ=a7 h/\W (b h μ) λp=>match p.1 with|.nx=>I (i+1) p.2.1 p.2.2|.ct=>I (i+1) p.2.1 p.2.2|.bk=>Q (.nx,p.2.1,p.2.2)|.rt d=>Q (.rt d,p.2.1,p.2.2))(k:∀c μ,I xs.length c μ->Q (.nx,c,μ)):W (eL (nY<|.loc a) g b (xs.length+1) 0 c μ) Q:=by
 refine mY (N:=xs.length) I (λi c μ r j=>?_) (λc μ j=>⟨?_,k c μ j⟩) xs.length 0 c μ (by lia) n
 .have e:xs[i]?=a7 xs[i]:=a0w r;obtain⟨h,o,q⟩:=m i xs[i] c μ e j;refine⟨_,h,?_,o,q⟩;simp only[nY,bF,l i c μ j,a0M,e]
 .simp only[nY,bF,l _ c μ j,a0M];simp
theorem Bt{l:fG}(I:Nat->List D->Hm->Prop)(B:N<=a0s)(j:∀i g μ,I i g μ->g.length<=i)(p:∀i g μ,i<N->I i g μ->μ[a]?=a7 (.lst g)->∃d x,l μ i=a7 (a7 d)/\A d μ=a7 x/\W (c (z++x) μ) λr=>(r.1=b3->r.2[a]?=a7 (.lst g)/\I (i+1) g r.2) /\
   (r.1=b5->W (e (z++x) r.2) λs=>s.2[a]?=a7 (.lst g)/\I (i+1) (g++[s.1]) (s.2.set a<|.lst<|g++[s.1])))(k:∀g μ,I N g μ->μ[a]?=a7 (.lst g)->l μ N=a7 b0/\Q μ):∀m i g μ,i+m=N->I i g μ->μ[a]?=a7 (.lst g)->W (hW l A c e z a (m+1) i μ) Q
 |0,i,g,μ,h,hI,hg=>by
  have:i=N:=by lia
  subst this;obtain⟨u,v⟩:=k g μ hI hg;unfold hW;rw[u];exact W_some.mpr v
 |m+1,i,g,μ,h,hI,hg=>by
  obtain⟨d,x,u,v,E⟩:=p i g μ (by lia) hI hg;unfold hW;rw[u];simp only[a0G,v];rw[W_bind];refine bB E λr q=>?_;obtain⟨b,w⟩:=r;cases b with
  |false=>obtain⟨n,o⟩:=q.1 rfl;exact Bt I B j p k m (i+1) g w (by lia) o n|true=>dsimp only;rw[W_bind];refine bB (q.2 rfl) λs q=>?_;obtain⟨y,G⟩:=s;obtain⟨n,o⟩:=q;dsimp only at n o ⊢;have H:=j i g μ hI;rw[Bo n<|by lia,a0G];refine Bt I B j p k m (i+1) _ _ (by lia) o ?_;rw[a1a (a0f.mp n).1]
theorem Vp{n:fG}{μ0:Hm}{xs:List D}{x:D->aG}(E:∀μ i,μ0<+:μ->n μ i=a7 xs[i]?)(K:xs.length<=a0s)(I:∀d μ,d∈xs->A d μ=a7 (x d))(hc:∀d μ,d∈xs->μ0<+:μ->W (c (z++x d) μ) λr=>r.1=p d/\μ<+:r.2)(J:∀d μ,d∈xs->p d=b5->μ0<+:μ->W (e (z++x d) μ) λr=>r.1=v d/\μ<+:r.2)(fin:∀μ,μ0<+:μ->μ[μ0.length]?=a7 (.lst<|(xs.filter p).map v)->Q μ):W (hW n A c e z μ0.length (xs.length+1) 0<|μ0++[.lst []]) Q:=by
 refine Bt (N:=xs.length) (λi o μ=>o=((xs.take i).filter p).map v/\μ0<+:μ) K ?_ ?_ ?_ xs.length 0 [] _ (by lia) ⟨by simp,aU _ _⟩<|by simp
 .rintro i o μ ⟨rfl,_⟩;rw[a0d];refine a1l (a0Z _ _) ?_;rw[a1w];lia
 .rintro i o μ B ⟨rfl,h⟩ m;have G:xs[i]?=a7 xs[i]:=a0w B;have a:xs[i]∈xs:=a5B B;have g:xs.take (i+1)=xs.take i++[xs[i]]:=by rw[a6d,G];rfl
  refine⟨xs[i],x xs[i],by rw[E μ i h,G],I _ _ a,bB (hc _ μ a h) λr q=>?_⟩;obtain⟨b,w⟩:=r;obtain⟨k,l⟩:=q;dsimp only at k l ⊢;refine⟨λj=>⟨aN l m,?_,h.trans l⟩,λj=>?_⟩
  .rw[g,a1D];rw[j]at k;simp[<- k]
  .rw[j]at k;refine bB (J _ w a k.symm<|h.trans l) λs q=>?_;obtain⟨y,L⟩:=s;obtain⟨H,u⟩:=q;dsimp only at H u ⊢;subst H;refine⟨aN (l.trans u) m,?_,gM ((h.trans l).trans u) (a0l _) _⟩;rw[g,a1D,a0z];simp[<- k]
 .rintro o μ ⟨rfl,h⟩ m;refine⟨by rw[E μ _ h];simp,fin μ h ?_⟩;rw[a1N]at m;exact m
theorem Hb{xs:List D}{x:D->aG}{Q:jz}(hit:W (w b μ) λr=>(∀a i,r.2.2<+:a->r.1 a i=a7 xs[i]?)/\r.2.1=xs.length+1/\xs.length<=a0s/\(∀d a,d∈xs->g d a=a7 (x d)) /\
   (∀d a,d∈xs->r.2.2<+:a->W (c (b++x d) a) λs=>s.1=p d/\a<+:s.2)/\(∀d a,d∈xs->p d=b5->r.2.2<+:a->W (e (b++x d) a) λs=>s.1=v d/\a<+:s.2) /\
   ∀a,r.2.2<+:a->a[r.2.2.length]?=a7 (.lst<|(xs.filter p).map v)->Q (.loc r.2.2.length,a)):W (jL g w c e b μ) Q:=by
 unfold jL;rw[W_bind];refine bB hit λr q=>?_;obtain⟨y,n,z⟩:=r;obtain⟨h,j,k,l,m,o,u⟩:=q;dsimp only at h j k l m o u ⊢;subst j;rw[jV];exact Vp h k l m o u
theorem w_mTrue:W (gE a μ) Q↔Q (b5,μ):=W_some
theorem w_mPut{Q}:W (dN o i v a μ) Q↔W (v a μ) λp=>W (o a p.2) λq=>W (i a q.2) λr=>W (kI q.1 r.1 p.1 r.2) λμ'=>Q (.nx,a,μ'):=by unfold dN Ak;simp only[W_bind,jV]
theorem Vq(h:W (ms d μ) λp=>∃a b xs c,p.1=[.loc a,.loc b]/\p.2[a]?=a7 (.lst xs)/\p.2[b]?=a7 (.lst c)/\Q (sC (.loc a)<|.loc b,min xs.length c.length+1,p.2)):W (sD ms d μ) Q:=by unfold sD;rw[W_bind];refine bB h λp q=>?_;obtain⟨a,b,xs,c,e,g,i,q⟩:=q;rw[e];simp only[d8,g,i,a0G,a0M];exact W_some.mpr q
theorem Bu{Q:jz}(h:μ[a]?=a7 (.lst xs)):W (mU [.loc a] μ) Q↔Q (.tup xs,μ):=by simp only[mU,bF,h,a0M];exact W_some
theorem w_mDNewT{Q:jz}:W (jO ρ μ) Q↔Q (.loc μ.length,μ++[.dT []]):=W_some
theorem Bv{kvs:jx}{Q:jz}(h:μ[a]?=a7 (.dT kvs))(b:c5 y=a7 k)(c:bJ kvs k=a7 d):W (aE (.loc a) y μ) Q↔Q (d,μ):=by simp only[aE,h,b,a0G,c,a0M];exact W_some
theorem Bw{kvs:jx}{Q:jz}(h:μ[a]?=a7 (.dT kvs))(c:c5 y=a7 k):W (cL b y (.loc a) μ) Q↔Q (.bl<|if b then !(bJ kvs k).isSome else(bJ kvs k).isSome,μ):=by
 have:cL b y (.loc a) μ=a7 (.bl<|if b then !(bJ kvs k).isSome else(bJ kvs k).isSome,μ):=by simp only[cL,h,c,a0M]
 rw[this];exact W_some
theorem oG(h:μ[a]?=a7 (.dT kvs))(b:c5 y=a7 k)(c:kvs.length<a0s):W (kI (.loc a) y d μ) Q↔Q (μ.set a<|.dT<|cS kvs k d):=by simp only[kI,rX,h,b,a0G,if_pos c];exact W_some
theorem Vr{kvs:jx}{Q:jz}(h:μ[a]?=a7 (.dT kvs)):W (dW [.loc a] μ) Q↔Q (.int kvs.length,μ):=by simp only[dW,h];exact W_some
theorem Hc{kvs:jx}{Q:jz}(h:μ[a]?=a7 (.dT kvs)):W (fS [.loc a] μ) Q↔Q (.loc μ.length,μ++[.lst<|kvs.map λk=>D.tup<|k.1.map D.int]):=by simp only[fS,h];exact W_some
theorem Hd{Q:jz}(h:μ[a]?=a7 (.lst xs)):W (fS [.loc a] μ) Q↔Q (.loc μ.length,μ++[.lst xs]):=by simp only[fS,h,rO,bF,a0M];exact W_some
theorem Vs{Q:jz}(h:μ[a]?=a7 (.lst<|is.map D.int))(b:is.length<64):W (mN [.loc a] μ) Q↔Q (.loc μ.length,μ++[.lst<|(gH is).map D.int]):=by
 have:nZ [.loc a] μ=a7 (.loc μ.length,μ++[.lst<|(gH is).map D.int]):=by simp only[nZ,d8,h,a0G,Br];rw[if_pos b]
 simp only[mN,this];exact W_some
theorem Vt{Q:jz}(h:μ[a]?=a7 (.lst xs)):W (mO [.loc a] μ) Q↔Q (.loc μ.length,μ++[.lst xs.reverse]):=by simp only[mO,h];exact W_some
theorem He{Q:jz}:W (nR [.bl b] μ) Q↔Q (.int<|if b then 1 else 0,μ):=by cases b<;>exact W_some
theorem Vu(h:W (ms a μ) λp=>∃i j c,p.1=[.int i,.int j,.int c]/\rY i j c=b5/\Q (pU i c (a1s i j c).toNat,(a1s i j c).toNat+1,p.2)):W (rZ ms a μ) Q:=by unfold rZ;rw[W_bind];refine bB h λp q=>?_;obtain⟨i,j,c,b,d,e⟩:=q;rw[b];dsimp only;rw[if_pos d];exact W_some.mpr e
theorem Vv{b:MS}(I:Nat->aG->Hm->Prop)(m:I 0 a μ)(l:∀i a μ,i<n->I i a μ->∃e,g (.int<|lo+(i:Nat)*c) a μ=a7 e/\W (b e μ) λp=>match p.1 with|.nx=>I (i+1) p.2.1 p.2.2|.ct=>I (i+1) p.2.1 p.2.2|.bk=>Q (.nx,p.2.1,p.2.2)|.rt d=>Q (.rt d,p.2.1,p.2.2))(h:∀a μ,I n a μ->Q (.nx,a,μ)):W (eL (pU lo c n) g b (n+1) 0 a μ) Q:=by
 refine mY (N:=n) I (λi a μ k j=>?_) (λa μ j=>⟨?_,h a μ j⟩) n 0 a μ (by lia) m
 .obtain⟨e,o,q⟩:=l i a μ k j;refine⟨_,e,?_,o,q⟩;simp only[pU,k,if_true]
 .simp[pU]
end L3
namespace Lw
open PySem L2 L3
noncomputable def ds:List (Str×Stmt):=(("is_whole",aJ 8)::("is_corner",aJ 9)::("is_edge",aJ 10)::("is_quarter",aJ 11)::("line_of",aJ 12)::("beside",aJ 13)::("sides_of",aJ 14)::("edges_of",aJ 15)::("moved_by",aJ 16)::("edges_round",aJ 17)::("number_by",aJ 18)::("hand_of",aJ 19)::("mirrored",aJ 20)::("laying_by",aJ 23)::("mirror_in",aJ 24)::("led",aJ 25)::("then",aJ 26)::("is_turned",aJ 27)::("is_size",aJ 29)::("check_size",aJ 30)::("is_within",aJ 31)::("places_within",aJ 32)::("quarters_in",aJ 33)::("edges_in",aJ 34)::("corners_in",aJ 35)::("neighbours_in",aJ 36)::("marks_in",aJ 37)::("is_good",aJ 39)::("creases_at",aJ 41)::("gaps_at",aJ 42)::("barred",aJ 43)::("check_corners",aJ 44)::("laid",aJ 46)::("heights_in",aJ 48)::("is_above",aJ 49)::("turned_first",aJ 50)::("mark_by_heights",aJ 51)::("marks_by",aJ 52)::("folded_layings",aJ 55)::("folded_piles",aJ 56)::("check_fold",aJ 57)::("creased_edges",aJ 58)::("unfolded",aJ 59)::("_law_cell",aJ 62)::("_law_quarters",aJ 63)::("_law_inner",aJ 64)::("_law_beside",aJ 65)::("_law_led",aJ 66)::("_law_over",aJ 67)::("_law_value",aJ 68)::("_law_begun",aJ 69)::("_law_folded",aJ 70)::("_law_plan",aJ 71)::("_law_mark",aJ 72)::("_law_right",aJ 73)::("_law_laid_right",aJ 74)::("law",aJ 75)::[])
noncomputable def Hf:D:=(.tup [(.tup [(.int 2),(.int 0)]),(.tup [(.int 1),(.int 1)]),(.tup [(.int 0),(.int 2)]),(.tup [(.int<|-1),(.int 1)]),(.tup [(.int<|-2),(.int 0)]),(.tup [(.int<|-1),(.int<|-1)]),(.tup [(.int 0),(.int<|-2)]),(.tup [(.int 1),(.int<|-1)])])
noncomputable def Hg:D:=(.tup [(.tup [(.int 1),(.int 1)]),(.tup [(.int<|-1),(.int 1)]),(.tup [(.int<|-1),(.int<|-1)]),(.tup [(.int 1),(.int<|-1)])])
noncomputable def sX:D:=(.tup [(.int 1),(.int 0),(.int 0),(.int 1),(.int 0),(.int 0)])
noncomputable def S:Sig:={fn:=(("is_whole",1)::("is_corner",1)::("is_edge",1)::("is_quarter",1)::("line_of",1)::("beside",1)::("sides_of",1)::("edges_of",1)::("moved_by",2)::("edges_round",1)::("number_by",2)::("hand_of",2)::("mirrored",2)::("laying_by",3)::("mirror_in",1)::("led",2)::("then",2)::("is_turned",1)::("is_size",1)::("check_size",2)::("is_within",3)::("places_within",2)::("quarters_in",2)::("edges_in",2)::("corners_in",2)::("neighbours_in",3)::("marks_in",1)::("is_good",1)::("creases_at",2)::("gaps_at",2)::("barred",1)::("check_corners",1)::("laid",1)::("heights_in",1)::("is_above",3)::("turned_first",2)::("mark_by_heights",3)::("marks_by",3)::("folded_layings",3)::("folded_piles",4)::("check_fold",2)::("creased_edges",3)::("unfolded",2)::("_law_cell",2)::("_law_quarters",2)::("_law_inner",2)::("_law_beside",1)::("_law_led",2)::("_law_over",2)::("_law_value",2)::("_law_begun",2)::("_law_folded",4)::("_law_plan",3)::("_law_mark",3)::("_law_right",4)::("_law_laid_right",4)::("law",1)::[]),con:=[("EIGHT_EDGES",Hf),("FOUR_EDGES",Hg),("STILL",sX)],tab:=[],no:=["all","bool","dict","enumerate","int","isinstance","len","list","range","reversed","sorted","sum","tuple","zip"],dIt:=["piles","layings","_law_state"],dEq:=[],dMe:=["layings","piles","[]"],ob:=[("wide","Folding"),("high","Folding"),("states","Folding")],mt:=[("fold","Folding","Folding.fold",3),("back","Folding","Folding.back",0),("many","Folding","Folding.many",0),("sheet","Folding","Folding.sheet",0)],mc:=[("Folding","Folding.__init__",2)],ms:=[("Folding.__init__",eK 60 0),("Folding.fold",eK 60 1),("Folding.back",eK 60 2),("Folding.many",eK 60 3),("Folding.sheet",eK 60 6)]}
@[irreducible] noncomputable def f(k:Nat)(x:Str):MF:=fU S ds k x
noncomputable def Bx(k:Nat):MS:=aH (aR 7<|aC (aT b3) (aF (f k "hand_of")<|aB (aF (f k "led")<|aB (aA 6)<|aB (aA 5) aD)<|aB (aA 1) aD)<|aA 2)<|dN (aA 4) (aA 5)<|fK (dE<|aA 7) (aF (f k "then")<|aB (aA 6)<|aB (aA 3) aD)<|aA 6
noncomputable def Hh(k:Nat):MS:=aH (aR 7<|aF (f k "mirrored")<|aB (aA 5)<|aB (aA 1) aD)<|aH (aR 8<|aF mO<|aB (aA 6) aD)<|aH (aR 9<|k8 kL (aA 4)<|aB (aA 7)<|aB (cQ aD) aD)<|dN (aA 4) (aA 7)<|fK (dE<|aA 3) (aC bI (aA 9)<|aA 8)<|aC bI (aA 8)<|aA 9
noncomputable def By(k:Nat):MS:=aH (aR 9<|aF (f k "_law_led")<|aB (aF (f k "_law_over")<|aB (aX<|aB (mC<|.int 1)<|aB (mC<|.int 0)<|aB (mC<|.int 0)<|aB (mC<|.int 1)<|aB (mC<|.int 0)<|aB (mC<|.int 0) aD)<|aB (aA 1) aD)<|aB (aA 5) aD)<|aH (aR 10<|mL (aC aE (aC aE (aA 0)<|mC<|.int 1)<|aA 5) gZ gZ<|iM<|cK<|mC<|.int 1)<|aZ (dE<|aA 3) (dN (aA 8) (aA 9)<|aC bI (k8 kL (aA 8)<|aB (aA 9)<|aB (cQ aD) aD)<|aA 10)<|dN (aA 8) (aA 9)<|aC bI (aA 10)<|k8 kL (aA 8)<|aB (aA 9)<|aB (cQ aD) aD
noncomputable def Hi(k:Nat):MS:=aQ<|fK (dE<|aF (f k "is_above")<|aB (aA 0)<|aB (aC aE (aA 3)<|mC<|.int 0)<|aB (aC aE (aA 3)<|mC<|.int 1) aD) (mC<|.str "v")<|mC<|.str "h"
theorem Hj k a μ:f (k+1) "is_whole" [a] μ=fin ((aQ<|gA (aF l9<|aB (aA 0)<|aB (mC<|.ty "int") aD)<|o9<|aF l9<|aB (aA 0)<|aB (mC<|.ty "bool") aD) [a7 a] μ):=by kernel_rfl
theorem Vx k a μ:f (k+1) "is_corner" [a] μ=fin ((aQ<|gA (aC (aT b3) (aC bC (aC aE (aA 0)<|mC<|.int 0)<|mC<|.int 2)<|mC<|.int 0)<|aC (aT b3) (aC bC (aC aE (aA 0)<|mC<|.int 0)<|mC<|.int 4)<|aC bC (aC aE (aA 0)<|mC<|.int 1)<|mC<|.int 4) [a7 a] μ):=by kernel_rfl
theorem Vy k a μ:f (k+1) "is_edge" [a] μ=fin ((aH (aZ (aS<|aC (aT b3) (aC bC (aC aE (aA 0)<|mC<|.int 0)<|mC<|.int 2)<|mC<|.int 1) (aQ<|aC (aT b3) (aC bC (aC aE (aA 0)<|mC<|.int 1)<|mC<|.int 2)<|mC<|.int 1) bA)<|aQ<|gA (aC (aT b3) (aC bC (aC aE (aA 0)<|mC<|.int 1)<|mC<|.int 2)<|mC<|.int 0)<|aC (aT b5) (aC bC (aC aE (aA 0)<|mC<|.int 0)<|mC<|.int 4)<|aC bC (aC aE (aA 0)<|mC<|.int 1)<|mC<|.int 4) [a7 a] μ):=by kernel_rfl
theorem Vz k a μ:f (k+1) "is_quarter" [a] μ=fin ((aH (aZ (aS<|aC (aT b3) (aC bC (aC aE (aA 0)<|mC<|.int 0)<|mC<|.int 2)<|mC<|.int 1) (aQ<|aC (aT b3) (aC bC (aC aE (aA 0)<|mC<|.int 1)<|mC<|.int 4)<|mC<|.int 2) bA)<|aQ<|gA (aC (aT b3) (aC bC (aC aE (aA 0)<|mC<|.int 0)<|mC<|.int 4)<|mC<|.int 2)<|aC (aT b3) (aC bC (aC aE (aA 0)<|mC<|.int 1)<|mC<|.int 2)<|mC<|.int 1) [a7 a] μ):=by kernel_rfl
theorem VA k a μ:f (k+1) "line_of" [a] μ=fin ((aH (aZ (aS<|aC (aT b3) (aC bC (aC aE (aA 0)<|mC<|.int 0)<|mC<|.int 2)<|mC<|.int 1) (aQ<|fK (aS<|aC (aT b3) (aC bC (aC aE (aA 0)<|mC<|.int 0)<|mC<|.int 4)<|aC bC (aC aE (aA 0)<|mC<|.int 1)<|mC<|.int 4) (mC<|.str "falling")<|mC<|.str "rising") bA)<|aQ<|fK (aS<|aC (aT b3) (aC bC (aC aE (aA 0)<|mC<|.int 1)<|mC<|.int 4)<|mC<|.int 0) (mC<|.str "level")<|mC<|.str "upright") [a7 a] μ):=by kernel_rfl
theorem VB k a μ:f (k+1) "beside" [a] μ=fin ((aH (aR 1<|aC aE (aA 0)<|mC<|.int 0)<|aH (aR 2<|aC aE (aA 0)<|mC<|.int 1)<|aQ<|cQ<|aB (aX<|aB (aC cB (aA 1)<|mC<|.int 1)<|aB (aA 2) aD)<|aB (aX<|aB (aA 1)<|aB (aC cB (aA 2)<|mC<|.int 1) aD)<|aB (aX<|aB (aA 1)<|aB (aC bI (aA 2)<|mC<|.int 1) aD)<|aB (aX<|aB (aC bI (aA 1)<|mC<|.int 1)<|aB (aA 2) aD) aD) [a7 a,b0,b0] μ):=by kernel_rfl
theorem VC k a μ:f (k+1) "sides_of" [a] μ=fin ((aQ<|eN (cU<|aF (f k "beside")<|aB (aA 0) aD) (dE<|aF (f k "is_quarter")<|aB (aA 1) aD)<|aA 1) [a7 a] μ):=by kernel_rfl
theorem VD k a μ:f (k+1) "edges_of" [a] μ=fin ((aQ<|eN (cU<|aF (f k "beside")<|aB (aA 0) aD) (dE<|aF (f k "is_edge")<|aB (aA 1) aD)<|aA 1) [a7 a] μ):=by kernel_rfl
theorem VE k a b μ:f (k+1) "moved_by" [a,b] μ=fin ((aQ<|eN (cU<|aA 1) gE<|aX<|aB (aC bI (aC aE (aA 0)<|mC<|.int 0)<|aC aE (aA 2)<|mC<|.int 0)<|aB (aC bI (aC aE (aA 0)<|mC<|.int 1)<|aC aE (aA 2)<|mC<|.int 1) aD) [a7 a,a7 b] μ):=by kernel_rfl
theorem VF k a μ:f (k+1) "edges_round" [a] μ=fin ((aQ<|aF (f k "moved_by")<|aB (aA 0)<|aB (fK (aS<|aC (aT b3) (aC bC (aC aE (aA 0)<|mC<|.int 0)<|mC<|.int 4)<|mC<|.int 0) (mC Hf)<|mC Hg) aD) [a7 a] μ):=by kernel_rfl
theorem VG k a b μ:f (k+1) "number_by" [a,b] μ=fin ((aH (aZ (aS<|aC (aT b3) (aA 0)<|mC<|.str "level") (aQ<|aC aE (aA 1)<|mC<|.int 1) bA)<|aH (aZ (aS<|aC (aT b3) (aA 0)<|mC<|.str "upright") (aQ<|aC aE (aA 1)<|mC<|.int 0) bA)<|aH (aZ (aS<|aC (aT b3) (aA 0)<|mC<|.str "falling") (aQ<|aC cB (aC aE (aA 1)<|mC<|.int 0)<|aC aE (aA 1)<|mC<|.int 1) bA)<|aQ<|aC bI (aC aE (aA 1)<|mC<|.int 0)<|aC aE (aA 1)<|mC<|.int 1) [a7 a,a7 b] μ):=by kernel_rfl
theorem VH k a b μ:f (k+1) "hand_of" [a,b] μ=fin ((aH (aR 2<|aF (f k "line_of")<|aB (aA 1) aD)<|aH (aR 3<|aC cB (aF (f k "number_by")<|aB (aA 2)<|aB (aA 0) aD)<|aF (f k "number_by")<|aB (aA 2)<|aB (aA 1) aD)<|aH (aZ (aS<|aC iP (aA 3)<|mC<|.int 0) (aQ<|mC<|.int 1) bA)<|aQ<|fK (aS<|aC jI (aA 3)<|mC<|.int 0) (cK<|mC<|.int 1)<|mC<|.int 0) [a7 a,a7 b,b0,b0] μ):=by kernel_rfl
theorem VI k a b μ:f (k+1) "mirrored" [a,b] μ=fin ((aH (aR 2<|aC aE (aA 0)<|mC<|.int 0)<|aH (aR 3<|aC aE (aA 0)<|mC<|.int 1)<|aH (aR 4<|aF (f k "line_of")<|aB (aA 1) aD)<|aH (aR 5<|aF (f k "number_by")<|aB (aA 4)<|aB (aA 1) aD)<|aH (aZ (aS<|aC (aT b3) (aA 4)<|mC<|.str "level") (aQ<|aX<|aB (aA 2)<|aB (aC cB (aC bG (mC<|.int 2)<|aA 5)<|aA 3) aD) bA)<|aH (aZ (aS<|aC (aT b3) (aA 4)<|mC<|.str "upright") (aQ<|aX<|aB (aC cB (aC bG (mC<|.int 2)<|aA 5)<|aA 2)<|aB (aA 3) aD) bA)<|aH (aZ (aS<|aC (aT b3) (aA 4)<|mC<|.str "falling") (aQ<|aX<|aB (aC bI (aA 3)<|aA 5)<|aB (aC cB (aA 2)<|aA 5) aD) bA)<|aQ<|aX<|aB (aC cB (aA 5)<|aA 3)<|aB (aC cB (aA 5)<|aA 2) aD) [a7 a,a7 b,b0,b0,b0,b0] μ):=by kernel_rfl
theorem VJ k a b c μ:f (k+1) "laying_by" [a,b,c] μ=fin ((aQ<|aX<|aB (aC cB (aC aE (aA 1)<|mC<|.int 0)<|aC aE (aA 0)<|mC<|.int 0)<|aB (aC cB (aC aE (aA 2)<|mC<|.int 0)<|aC aE (aA 0)<|mC<|.int 0)<|aB (aC cB (aC aE (aA 1)<|mC<|.int 1)<|aC aE (aA 0)<|mC<|.int 1)<|aB (aC cB (aC aE (aA 2)<|mC<|.int 1)<|aC aE (aA 0)<|mC<|.int 1)<|aB (aC aE (aA 0)<|mC<|.int 0)<|aB (aC aE (aA 0)<|mC<|.int 1) aD) [a7 a,a7 b,a7 c] μ):=by kernel_rfl
theorem VL k a μ:f (k+1) "mirror_in" [a] μ=fin ((aQ<|aF (f k "laying_by")<|aB (aF (f k "mirrored")<|aB (aX<|aB (mC<|.int 0)<|aB (mC<|.int 0) aD)<|aB (aA 0) aD)<|aB (aF (f k "mirrored")<|aB (aX<|aB (mC<|.int 1)<|aB (mC<|.int 0) aD)<|aB (aA 0) aD)<|aB (aF (f k "mirrored")<|aB (aX<|aB (mC<|.int 0)<|aB (mC<|.int 1) aD)<|aB (aA 0) aD) aD) [a7 a] μ):=by kernel_rfl
theorem VM k a b μ:f (k+1) "led" [a,b] μ=fin ((aH (aR 2<|aC aE (aA 1)<|mC<|.int 0)<|aH (aR 3<|aC aE (aA 1)<|mC<|.int 1)<|aQ<|aX<|aB (aC bI (aC bI (aC bG (aC aE (aA 0)<|mC<|.int 0)<|aA 2)<|aC bG (aC aE (aA 0)<|mC<|.int 1)<|aA 3)<|aC aE (aA 0)<|mC<|.int 4)<|aB (aC bI (aC bI (aC bG (aC aE (aA 0)<|mC<|.int 2)<|aA 2)<|aC bG (aC aE (aA 0)<|mC<|.int 3)<|aA 3)<|aC aE (aA 0)<|mC<|.int 5) aD) [a7 a,a7 b,b0,b0] μ):=by kernel_rfl
theorem VN k a b μ:f (k+1) "then" [a,b] μ=fin ((aQ<|aF (f k "laying_by")<|aB (aF (f k "led")<|aB (aA 1)<|aB (aF (f k "led")<|aB (aA 0)<|aB (aX<|aB (mC<|.int 0)<|aB (mC<|.int 0) aD) aD) aD)<|aB (aF (f k "led")<|aB (aA 1)<|aB (aF (f k "led")<|aB (aA 0)<|aB (aX<|aB (mC<|.int 1)<|aB (mC<|.int 0) aD) aD) aD)<|aB (aF (f k "led")<|aB (aA 1)<|aB (aF (f k "led")<|aB (aA 0)<|aB (aX<|aB (mC<|.int 0)<|aB (mC<|.int 1) aD) aD) aD) aD) [a7 a,a7 b] μ):=by kernel_rfl
theorem VO k a μ:f (k+1) "is_turned" [a] μ=fin ((aQ<|aC (aT b3) (aC cB (aC bG (aC aE (aA 0)<|mC<|.int 0)<|aC aE (aA 0)<|mC<|.int 3)<|aC bG (aC aE (aA 0)<|mC<|.int 1)<|aC aE (aA 0)<|mC<|.int 2)<|cK<|mC<|.int 1) [a7 a] μ):=by kernel_rfl
theorem VP k a μ:f (k+1) "is_size" [a] μ=fin ((aQ<|gA (aF (f k "is_whole")<|aB (aA 0) aD)<|jM pG pG (mC<|.int 1) (aA 0)<|mC<|.int 6) [a7 a] μ):=by kernel_rfl
theorem VQ k a b μ:f (k+1) "check_size" [a,b] μ=fin ((aZ (iL<|jH (dE<|aF (f k "is_size")<|aB (aA 0) aD)<|dE<|aF (f k "is_size")<|aB (aA 1) aD) cC bA) [a7 a,a7 b] μ):=by kernel_rfl
theorem VR k a b c μ:f (k+1) "is_within" [a,b,c] μ=fin ((aQ<|gA (jM jI jI (mC<|.int 0) (aC aE (aA 2)<|mC<|.int 0)<|aC bG (mC<|.int 4)<|aA 0)<|jM jI jI (mC<|.int 0) (aC aE (aA 2)<|mC<|.int 1)<|aC bG (mC<|.int 4)<|aA 1) [a7 a,a7 b,a7 c] μ):=by kernel_rfl
theorem VS k a b μ:f (k+1) "places_within" [a,b] μ=fin ((aH (aR 2<|cQ aD)<|aH (cD (mD<|aB (mC<|.int 1)<|aB (aC bG (mC<|.int 4)<|aA 0) aD) (cZ 3)<|cY<|cV pP (aA 2)<|aB (eN (mD<|aB (mC<|.int 1)<|aB (aC bG (mC<|.int 4)<|aA 1) aD) gE<|aX<|aB (aA 3)<|aB (aA 4) aD) aD)<|aQ<|aA 2) [a7 a,a7 b,b0,b0] μ):=by kernel_rfl
theorem VT k a b μ:f (k+1) "quarters_in" [a,b] μ=fin ((aQ<|eN (cU<|aF (f k "places_within")<|aB (aA 0)<|aB (aA 1) aD) (dE<|aF (f k "is_quarter")<|aB (aA 2) aD)<|aA 2) [a7 a,a7 b] μ):=by kernel_rfl
theorem VU k a b μ:f (k+1) "edges_in" [a,b] μ=fin ((aQ<|eN (cU<|aF (f k "places_within")<|aB (aA 0)<|aB (aA 1) aD) (dE<|aF (f k "is_edge")<|aB (aA 2) aD)<|aA 2) [a7 a,a7 b] μ):=by kernel_rfl
theorem VW k a b μ:f (k+1) "corners_in" [a,b] μ=fin ((aQ<|eN (cU<|aF (f k "places_within")<|aB (aA 0)<|aB (aA 1) aD) (dE<|aF (f k "is_corner")<|aB (aA 2) aD)<|aA 2) [a7 a,a7 b] μ):=by kernel_rfl
theorem VX k a b c μ:f (k+1) "neighbours_in" [a,b,c] μ=fin ((aQ<|eN (cU<|aF (f k "edges_of")<|aB (aA 2) aD) (dE<|aF (f k "is_within")<|aB (aA 0)<|aB (aA 1)<|aB (aA 3) aD)<|aX<|aB (aA 3)<|aB (aF (f k "mirrored")<|aB (aA 2)<|aB (aA 3) aD) aD) [a7 a,a7 b,a7 c] μ):=by kernel_rfl
theorem Hk k a μ:f (k+1) "marks_in" [a] μ=fin ((aQ<|aF n9<|aB (aC aE (aA 0)<|mC<|.int 2) aD) [a7 a] μ):=by kernel_rfl
theorem VY k a μ:f (k+1) "is_good" [a] μ=fin ((aH (aZ (iK (aS<|aC iP (aF dW<|aB (aA 0) aD)<|mC<|.int 8)<|aS<|aC (aT b3) (aC bC (aF dW<|aB (aA 0) aD)<|mC<|.int 2)<|mC<|.int 1) (aQ<|mC<|.bl b3) bA)<|aH (aZ (iL<|dE<|aF vD<|aB (eN (cU<|aA 0) gE<|gA (aF (f k "is_whole")<|aB (aA 1) aD)<|aC rM (aA 1)<|mC<|.int 1) aD) (aQ<|mC<|.bl b3) bA)<|aQ<|aC (aT b3) (aF nX<|aB (mL (aA 0) gZ gZ<|iM<|mC<|.int 2) aD)<|aF nX<|aB (mL (aA 0) (iM<|mC<|.int 1) gZ<|iM<|mC<|.int 2) aD) [a7 a] μ):=by kernel_rfl
theorem VZ k a b μ:f (k+1) "creases_at" [a,b] μ=fin ((aH (aR 2<|aF (f k "marks_in")<|aB (aA 0) aD)<|aQ<|eN (cU<|aF (f k "edges_round")<|aB (aA 1) aD) (aS<|aC (cL b3) (aA 3)<|aA 2)<|aA 3) [a7 a,a7 b,b0] μ):=by kernel_rfl
theorem V0 k a b μ:f (k+1) "gaps_at" [a,b] μ=fin ((aH (aR 2<|aF (f k "edges_round")<|aB (aA 1) aD)<|aH (aR 3<|aF (f k "creases_at")<|aB (aA 0)<|aB (aA 1) aD)<|aH (aR 4<|eN (cU<|aA 3) gE<|cV kJ (aA 2)<|aB (aA 7) aD)<|aH (aR 5<|aC bI (nM (aA 4) (iM<|mC<|.int 1) gZ)<|eN (cU<|nM (aA 4) gZ<|iM<|mC<|.int 1) gE<|aC bI (aA 7)<|aF dW<|aB (aA 2) aD)<|aH (aR 6<|aC dM (mC<|.int 8)<|aF dW<|aB (aA 2) aD)<|aQ<|jL (uW 2) (sD<|aB (aA 4)<|aB (aA 5) aD) gE<|aC bG (aC cB (aA 8)<|aA 7)<|aA 6) [a7 a,a7 b,b0,b0,b0,b0,b0] μ):=by kernel_rfl
theorem V1 k a μ:f (k+1) "barred" [a] μ=fin ((aH (cD (cU<|aF (f k "corners_in")<|aB (aC aE (aA 0)<|mC<|.int 0)<|aB (aC aE (aA 0)<|mC<|.int 1) aD) (cZ 1)<|aZ (iL<|dE<|aF (f k "is_good")<|aB (aF (f k "gaps_at")<|aB (aA 0)<|aB (aA 1) aD) aD) (aQ<|aA 1) bA)<|aQ<|mC .non) [a7 a,b0] μ):=by kernel_rfl
theorem V2 k a μ:f (k+1) "check_corners" [a] μ=fin ((aH (aR 1<|aF (f k "barred")<|aB (aA 0) aD)<|aZ (aS<|aC (fN b5) (aA 1)<|mC .non) cC bA) [a7 a,b0] μ):=by kernel_rfl
theorem V3 k a μ:f (k+1) "laid" [a] μ=fin ((aH (cY<|aF (f k "check_corners")<|aB (aA 0) aD)<|aH (aR 1<|aF (f k "marks_in")<|aB (aA 0) aD)<|aH (aR 2<|aC aE (aF (f k "quarters_in")<|aB (aC aE (aA 0)<|mC<|.int 0)<|aB (aC aE (aA 0)<|mC<|.int 1) aD)<|mC<|.int 0)<|aH (aR 3<|qC (aA 2)<|mC sX)<|aH (aR 4<|cQ<|aB (aA 2) aD)<|aH (rP sR (dE<|aA 4)<|aH (aR 5<|cV k7 (aA 4) aD)<|cD (cU<|aF (f k "neighbours_in")<|aB (aC aE (aA 0)<|mC<|.int 0)<|aB (aC aE (aA 0)<|mC<|.int 1)<|aB (aA 5) aD) (c4 [6,7])<|aZ (aS<|aC (cL b5) (aA 7)<|aA 3) (aH (dN (aA 3) (aA 7)<|fK (aS<|aC (cL b3) (aA 6)<|aA 1) (aF (f k "then")<|aB (aF (f k "mirror_in")<|aB (aA 6) aD)<|aB (aC aE (aA 3)<|aA 5) aD)<|aC aE (aA 3)<|aA 5)<|cY<|cV eV (aA 4)<|aB (aA 7) aD) bA)<|aQ<|qB<|aA 3) [a7 a,b0,b0,b0,b0,b0,b0,b0] μ):=by kernel_rfl
theorem V4 k a μ:f (k+1) "heights_in" [a] μ=fin ((aH (aR 1 jO)<|aH (d9 0 (cD (qF<|aA 0) (cZ 2)<|cD (rV<|aB (aA 2) aD) (c4 [3,4])<|dN (aA 1) (aA 4)<|aA 3) cC)<|aQ<|aA 1) [a7 a,b0,b0,b0,b0] μ):=by kernel_rfl
theorem V5 k a b c μ:f (k+1) "is_above" [a,b,c] μ=fin ((aQ<|aC iP (aC aE (aA 0)<|aA 1)<|aC aE (aA 0)<|aA 2) [a7 a,a7 b,a7 c] μ):=by kernel_rfl
theorem V6 k a b μ:f (k+1) "turned_first" [a,b] μ=fin ((aH (aR 2<|aF (f k "sides_of")<|aB (aA 1) aD)<|aH (aZ (dE<|aF (f k "is_turned")<|aB (aC aE (aA 0)<|aC aE (aA 2)<|mC<|.int 0) aD) (aQ<|aA 2) bA)<|aQ<|cQ<|aB (aC aE (aA 2)<|mC<|.int 1)<|aB (aC aE (aA 2)<|mC<|.int 0) aD) [a7 a,a7 b,b0] μ):=by kernel_rfl
theorem V7 k a b c μ:f (k+1) "mark_by_heights" [a,b,c] μ=fin ((aH (aR 3<|aF (f k "turned_first")<|aB (aA 1)<|aB (aA 2) aD)<|Hi k) [a7 a,a7 b,a7 c,b0] μ):=by kernel_rfl
theorem V8 k a b c μ:f (k+1) "marks_by" [a,b,c] μ=fin ((aH (aR 3<|aF (f k "heights_in")<|aB (aA 2) aD)<|aQ<|jL (uW 2) (cU<|aC aE (aA 0)<|mC<|.int 2) gE<|aX<|aB (aA 4)<|aB (aF (f k "mark_by_heights")<|aB (aA 3)<|aB (aA 1)<|aB (aA 4) aD) aD) [a7 a,a7 b,a7 c,b0] μ):=by kernel_rfl
theorem V9 k a b c μ:f (k+1) "folded_layings" [a,b,c] μ=fin ((aH (aR 3<|aF (f k "mirror_in")<|aB (aA 1) aD)<|aH (aR 4 jO)<|aH (d9 0 (cD (mR<|aA 0) (c4 [5,6])<|Bx k) cC)<|aQ<|aA 4) [a7 a,a7 b,a7 c,b0,b0,b0,b0,b0] μ):=by kernel_rfl
theorem Wa k a b c d μ:f (k+1) "folded_piles" [a,b,c,d] μ=fin ((aH (aR 4 jO)<|aH (d9 0 (cD (mR<|aA 0) (c4 [5,6])<|aZ (aS<|aC (aT b5) (aF (f k "hand_of")<|aB (aA 5)<|aB (aA 1) aD)<|aA 2) (dN (aA 4) (aA 5)<|aF fS<|aB (aA 6) aD) bA) cC)<|aH (d9 0 (cD (mR<|aA 0) (c4 [5,6])<|aZ (aS<|aC (aT b3) (aF (f k "hand_of")<|aB (aA 5)<|aB (aA 1) aD)<|aA 2) (Hh k) bA) cC)<|aQ<|aA 4) [a7 a,a7 b,a7 c,a7 d,b0,b0,b0,b0,b0,b0] μ):=by kernel_rfl
theorem Wb k a b μ:f (k+1) "check_fold" [a,b] μ=fin ((aH (d9 0 (aR 2<|eN (iT<|aA 0) gE<|aF (f k "hand_of")<|aB (aA 3)<|aB (aA 1) aD) cC)<|aZ (iK (aS<|aC (cL b5) (mC<|.int 1)<|aA 2)<|aS<|aC (cL b5) (cK<|mC<|.int 1)<|aA 2) cC bA) [a7 a,a7 b,b0] μ):=by kernel_rfl
theorem Wc k a b c μ:f (k+1) "creased_edges" [a,b,c] μ=fin ((aH (aR 3<|cQ aD)<|aH (cD (cU<|aF (f k "edges_in")<|aB (aA 0)<|aB (aA 1) aD) (cZ 4)<|aH (aR 5<|aF (f k "sides_of")<|aB (aA 4) aD)<|aZ (aS<|aC (aT b5) (aC aE (aA 2)<|aC aE (aA 5)<|mC<|.int 0)<|aC aE (aA 2)<|aC aE (aA 5)<|mC<|.int 1) (cY<|cV eV (aA 3)<|aB (aA 4) aD) bA)<|aQ<|aA 3) [a7 a,a7 b,a7 c,b0,b0,b0] μ):=by kernel_rfl
theorem We k a b μ:f (k+1) "unfolded" [a,b] μ=fin ((aH (aR 2 jO)<|aH (aR 3 jO)<|aH (cD (cU<|aF (f k "quarters_in")<|aB (aA 0)<|aB (aA 1) aD) (cZ 4)<|aH (dN (aA 2) (aA 4)<|mC sX)<|dN (aA 3) (aA 4)<|cQ<|aB (aA 4) aD)<|aQ<|aX<|aB (aA 2)<|aB (aA 3) aD) [a7 a,a7 b,b0,b0,b0] μ):=by kernel_rfl
theorem Wg k a b μ:f (k+1) "_law_cell" [a,b] μ=fin ((aH (aZ (aS<|aC jI (aA 1)<|aF dW<|aB (aA 0) aD) (aQ<|aC aE (aA 0)<|aA 1) bA)<|aH (aZ (aS<|aC (aT b3) (aA 0)<|cQ aD) (aQ<|aC bC (aC bG (aC bG (aA 1)<|aA 1)<|mC<|.int 48271)<|mC<|.int 2147483647) bA)<|aH (aR 2<|aC bC (aC bG (aC bI (aC bC (aC aE (aA 0)<|aC bC (aA 1)<|aF dW<|aB (aA 0) aD)<|mC<|.int 2147483629)<|aC bG (aC bG (aA 1)<|aA 1)<|mC<|.int 69623)<|mC<|.int 48271)<|mC<|.int 2147483647)<|aQ<|aC bC (aC bG (aA 2)<|aA 2)<|mC<|.int 2147483629) [a7 a,a7 b,b0] μ):=by kernel_rfl
theorem Wh k a b μ:f (k+1) "_law_quarters" [a,b] μ=fin ((aH (aR 2<|cQ aD)<|aH (cD (nT<|aB (aC bG (mC<|.int 4)<|aA 0) aD) (cZ 3)<|cD (nT<|aB (aC bG (mC<|.int 4)<|aA 1) aD) (cZ 4)<|aZ (iK (jH (aS<|aC (aT b3) (aC bC (aA 3)<|mC<|.int 4)<|mC<|.int 2)<|aS<|aC (aT b3) (aC bC (aA 4)<|mC<|.int 2)<|mC<|.int 1)<|jH (aS<|aC (aT b3) (aC bC (aA 3)<|mC<|.int 2)<|mC<|.int 1)<|aS<|aC (aT b3) (aC bC (aA 4)<|mC<|.int 4)<|mC<|.int 2) (cY<|cV eV (aA 2)<|aB (aX<|aB (aA 3)<|aB (aA 4) aD) aD) bA)<|aQ<|aA 2) [a7 a,a7 b,b0,b0,b0] μ):=by kernel_rfl
theorem Wi k a b μ:f (k+1) "_law_inner" [a,b] μ=fin ((aH (aR 2<|cQ aD)<|aH (cD (mD<|aB (mC<|.int 1)<|aB (aC bG (mC<|.int 4)<|aA 0) aD) (cZ 3)<|cD (mD<|aB (mC<|.int 1)<|aB (aC bG (mC<|.int 4)<|aA 1) aD) (cZ 4)<|aZ (iK (jH (aS<|aC (aT b3) (aC bC (aA 3)<|mC<|.int 2)<|mC<|.int 1)<|aS<|aC (aT b3) (aC bC (aA 4)<|mC<|.int 2)<|mC<|.int 1)<|jH (aS<|aC (aT b3) (aC bC (aA 3)<|mC<|.int 2)<|mC<|.int 0)<|aS<|aC (aT b3) (aC bI (aC bC (aA 3)<|mC<|.int 4)<|aC bC (aA 4)<|mC<|.int 4)<|mC<|.int 2) (cY<|cV eV (aA 2)<|aB (aX<|aB (aA 3)<|aB (aA 4) aD) aD) bA)<|aQ<|aA 2) [a7 a,a7 b,b0,b0,b0] μ):=by kernel_rfl
theorem Wj k a μ:f (k+1) "_law_beside" [a] μ=fin ((aH (hX (aA 0)<|c4 [1,2])<|aH (aZ (aS<|aC (aT b3) (aC bC (aA 2)<|mC<|.int 4)<|mC<|.int 0) (aQ<|cQ<|aB (aX<|aB (aA 1)<|aB (aC cB (aA 2)<|mC<|.int 1) aD)<|aB (aX<|aB (aA 1)<|aB (aC bI (aA 2)<|mC<|.int 1) aD) aD) bA)<|aH (aZ (aS<|aC (aT b3) (aC bC (aA 1)<|mC<|.int 4)<|mC<|.int 0) (aQ<|cQ<|aB (aX<|aB (aC cB (aA 1)<|mC<|.int 1)<|aB (aA 2) aD)<|aB (aX<|aB (aC bI (aA 1)<|mC<|.int 1)<|aB (aA 2) aD) aD) bA)<|aQ<|aF mN<|aB (cQ<|aB (aX<|aB (aC cB (aC bI (aA 1)<|mC<|.int 2)<|aC bC (aA 1)<|mC<|.int 4)<|aB (aA 2) aD)<|aB (aX<|aB (aA 1)<|aB (aC cB (aC bI (aA 2)<|mC<|.int 2)<|aC bC (aA 2)<|mC<|.int 4) aD) aD) aD) [a7 a,b0,b0] μ):=by kernel_rfl
theorem Wl k a b μ:f (k+1) "_law_led" [a,b] μ=fin ((aH (hX (aA 0)<|c4 [2,3,4,5,6,7])<|aQ<|aX<|aB (aC bI (aC bI (aC bG (aA 2)<|aC aE (aA 1)<|mC<|.int 0)<|aC bG (aA 3)<|aC aE (aA 1)<|mC<|.int 1)<|aA 6)<|aB (aC bI (aC bI (aC bG (aA 4)<|aC aE (aA 1)<|mC<|.int 0)<|aC bG (aA 5)<|aC aE (aA 1)<|mC<|.int 1)<|aA 7) aD) [a7 a,a7 b,b0,b0,b0,b0,b0,b0] μ):=by kernel_rfl
theorem Wm k a b μ:f (k+1) "_law_over" [a,b] μ=fin ((aH (hX (aA 0)<|c4 [2,3,4,5,6,7])<|aH (hX (aA 1)<|c4 [8,9])<|aH (aZ (aS<|aC (aT b3) (aA 8)<|mC<|.int 0) (aQ<|aX<|aB (aA 2)<|aB (aA 3)<|aB (cK<|aA 4)<|aB (cK<|aA 5)<|aB (aA 6)<|aB (aC cB (aC bG (mC<|.int 2)<|aA 9)<|aA 7) aD) bA)<|aH (aZ (aS<|aC (aT b3) (aA 8)<|mC<|.int 1) (aQ<|aX<|aB (cK<|aA 2)<|aB (cK<|aA 3)<|aB (aA 4)<|aB (aA 5)<|aB (aC cB (aC bG (mC<|.int 2)<|aA 9)<|aA 6)<|aB (aA 7) aD) bA)<|aH (aZ (aS<|aC (aT b3) (aA 8)<|mC<|.int 2) (aQ<|aX<|aB (aA 4)<|aB (aA 5)<|aB (aA 2)<|aB (aA 3)<|aB (aC bI (aA 7)<|aA 9)<|aB (aC cB (aA 6)<|aA 9) aD) bA)<|aQ<|aX<|aB (cK<|aA 4)<|aB (cK<|aA 5)<|aB (cK<|aA 2)<|aB (cK<|aA 3)<|aB (aC cB (aA 9)<|aA 7)<|aB (aC cB (aA 9)<|aA 6) aD) [a7 a,a7 b,b0,b0,b0,b0,b0,b0,b0,b0] μ):=by kernel_rfl
theorem Wn k a b μ:f (k+1) "_law_value" [a,b] μ=fin ((aQ<|aC aE (cQ<|aB (aC aE (aA 0)<|mC<|.int 1)<|aB (aC aE (aA 0)<|mC<|.int 0)<|aB (aC cB (aC aE (aA 0)<|mC<|.int 0)<|aC aE (aA 0)<|mC<|.int 1)<|aB (aC bI (aC aE (aA 0)<|mC<|.int 0)<|aC aE (aA 0)<|mC<|.int 1) aD)<|aA 1) [a7 a,a7 b] μ):=by kernel_rfl
theorem Wo k a b μ:f (k+1) "_law_begun" [a,b] μ=fin ((aH (aR 2 jO)<|aH (aR 3 jO)<|aH (cD (cU<|aF (f k "_law_quarters")<|aB (aA 0)<|aB (aA 1) aD) (cZ 4)<|aH (dN (aA 2) (aA 4)<|aX<|aB (mC<|.int 1)<|aB (mC<|.int 0)<|aB (mC<|.int 0)<|aB (mC<|.int 1)<|aB (mC<|.int 0)<|aB (mC<|.int 0) aD)<|dN (aA 3) (aA 4)<|cQ<|aB (aA 4) aD)<|aQ<|aX<|aB (aA 2)<|aB (aA 3) aD) [a7 a,a7 b,b0,b0,b0] μ):=by kernel_rfl
theorem Wq k a b c d μ:f (k+1) "_law_folded" [a,b,c,d] μ=fin ((aH (aR 4<|aF qI<|aB (aC aE (aA 0)<|mC<|.int 0) aD)<|aH (d9 1001 (aR 6<|eN (iT<|aC aE (aA 0)<|mC<|.int 1) (aS<|aC (aT b3) (aC iP (aF (f k "_law_value")<|aB (aA 11)<|aB (aC aE (aA 1)<|mC<|.int 0) aD)<|aC aE (aA 1)<|mC<|.int 1)<|aA 2)<|aA 11) cC)<|aH (aZ (iK (aS<|aC (aT b3) (aA 6)<|cQ aD)<|aS<|aC (aT b3) (aF dW<|aB (aA 6) aD)<|aF dW<|aB (aC aE (aA 0)<|mC<|.int 1) aD) (aQ<|mC .non) bA)<|aH (cD (cU<|aF fS<|aB (aA 4) aD) (cZ 7)<|aZ (aS<|aC (cL b3) (aF (f k "_law_led")<|aB (aC aE (aA 4)<|aA 7)<|aB (aA 7) aD)<|aA 6) (dN (aA 4) (aA 7)<|aF (f k "_law_over")<|aB (aC aE (aA 4)<|aA 7)<|aB (aA 1) aD) bA)<|aH (aR 8 jO)<|aH (d9 1001 (cD (iT<|aC aE (aA 0)<|mC<|.int 1) (cZ 5)<|aZ (aS<|aC (cL b5) (aA 5)<|aA 6) (dN (aA 8) (aA 5)<|aF fS<|aB (aC aE (aC aE (aA 0)<|mC<|.int 1)<|aA 5) aD) bA) cC)<|aH (cD (cU<|aA 6) (cZ 5)<|By k)<|aQ<|aX<|aB (aA 4)<|aB (aA 8) aD) [a7 a,a7 b,a7 c,a7 d,b0,b0,b0,b0,b0,b0,b0] μ):=by kernel_rfl
theorem Wr k a b c μ:f (k+1) "_law_plan" [a,b,c] μ=fin ((aH (aR 3<|aC bC (aA 1)<|mC<|.int 4)<|aH (aR 4<|aF fS<|aB (aC aE (aA 0)<|mC<|.int 1) aD)<|aH (aR 5<|aC aE (aA 4)<|aC bC (aC dM (aA 1)<|mC<|.int 64)<|aF dW<|aB (aA 4) aD)<|aH (aR 6<|aC bI (aC bG (aC dM (aF (f k "_law_value")<|aB (aA 5)<|aB (aA 3) aD)<|mC<|.int 4)<|mC<|.int 4)<|aC bG (aC bC (aC dM (aA 1)<|mC<|.int 4)<|mC<|.int 2)<|mC<|.int 4)<|aH (aZ (aS<|aC (aT b3) (aC bC (aC dM (aA 1)<|mC<|.int 8)<|mC<|.int 7)<|mC<|.int 3) (aR 6<|aC bG (mC<|.int 4)<|aC cB (aC bC (aA 2)<|aC bG (mC<|.int 2)<|aC kY (mC<|.int 10)<|mC<|.int 58)<|aC kY (mC<|.int 10)<|mC<|.int 58) bA)<|aH (aR 7<|aC cB (aC bC (aC dM (aA 2)<|mC<|.int 3)<|mC<|.int 9)<|mC<|.int 4)<|aH (aZ (aS<|aC (aT b3) (aC bC (aC dM (aA 1)<|mC<|.int 56)<|mC<|.int 5)<|mC<|.int 2) (aR 7<|aC bC (aC dM (aA 2)<|mC<|.int 7)<|aC kY (mC<|.int 10)<|mC<|.int 57) bA)<|aH (aR 8<|aC aE (cQ<|aB (aX<|aB (aC bI (mC<|.int 2)<|aC bG (mC<|.int 4)<|aA 7)<|aB (aA 6) aD)<|aB (aX<|aB (aA 6)<|aB (aC bI (mC<|.int 2)<|aC bG (mC<|.int 4)<|aA 7) aD)<|aB (aX<|aB (aC bI (aC bI (aA 6)<|mC<|.int 1)<|aC bG (mC<|.int 2)<|aA 7)<|aB (aC bI (mC<|.int 1)<|aC bG (mC<|.int 2)<|aA 7) aD)<|aB (aX<|aB (aC bI (mC<|.int 1)<|aC bG (mC<|.int 2)<|aA 7)<|aB (aC cB (aC cB (aA 6)<|mC<|.int 1)<|aC bG (mC<|.int 2)<|aA 7) aD) aD)<|aA 3)<|aQ<|aX<|aB (aA 8)<|aB (aX<|aB (aA 3)<|aB (aA 6) aD)<|aB (aC (aT b3) (aC bC (aC dM (aA 1)<|mC<|.int 280)<|mC<|.int 2)<|mC<|.int 1)<|aB (aC (aT b3) (aC bC (aC dM (aA 1)<|mC<|.int 560)<|mC<|.int 2)<|mC<|.int 1) aD) [a7 a,a7 b,a7 c,b0,b0,b0,b0,b0,b0] μ):=by kernel_rfl
theorem Ws k a b c μ:f (k+1) "_law_mark" [a,b,c] μ=fin ((aH (hX (aA 2)<|c4 [3,4])<|aH (aZ (aS<|aC (aT b3) (aC aE (aA 0)<|aA 3)<|aC aE (aA 0)<|aA 4) (aQ<|mC .non) bA)<|aH (hX (aC aE (aA 0)<|aA 3)<|c4 [5,6,7,8,9,10])<|aH (aZ (aS<|aC jI (aC cB (aC bG (aA 5)<|aA 8)<|aC bG (aA 6)<|aA 7)<|mC<|.int 0) (pK 3 4<|aB (aA 4)<|aB (aA 3) aD) bA)<|aH (aR 11<|aC aE (aA 1)<|aF (f k "_law_led")<|aB (aC aE (aA 0)<|aA 3)<|aB (aA 3) aD)<|aQ<|aC aE (mC<|.str "hv")<|aF nR<|aB (aC iP (cV kJ (aA 11)<|aB (aA 4) aD)<|cV kJ (aA 11)<|aB (aA 3) aD) aD) [a7 a,a7 b,a7 c,b0,b0,b0,b0,b0,b0,b0,b0,b0] μ):=by kernel_rfl
theorem Wt k a b c d μ:f (k+1) "_law_right" [a,b,c,d] μ=fin ((aH (aR 4<|cQ aD)<|aH (cD (cU<|aF (f k "_law_inner")<|aB (aA 2)<|aB (aA 3) aD) (cZ 5)<|aH (aR 6<|aF (f k "_law_mark")<|aB (aC aE (aA 1)<|mC<|.int 0)<|aB (aC aE (aA 1)<|mC<|.int 1)<|aB (aF (f k "_law_beside")<|aB (aA 5) aD) aD)<|aZ (aS<|aC (fN b5) (aA 6)<|mC .non) (cY<|cV eV (aA 4)<|aB (aX<|aB (aA 5)<|aB (aA 6) aD) aD) bA)<|aH (aR 7<|iC "Folding" "sheet" (f k "Folding.sheet") (aA 0) aD)<|aQ<|gA (aF l9<|aB (aA 7)<|aB (mC<|.ty "tuple") aD)<|gA (aC (aT b3) (aF dW<|aB (aA 7) aD)<|mC<|.int 3)<|aC (aT b3) (aA 7)<|aX<|aB (aA 2)<|aB (aA 3)<|aB (aF mU<|aB (aA 4) aD) aD) [a7 a,a7 b,a7 c,a7 d,b0,b0,b0,b0] μ):=by kernel_rfl
theorem Wu k a b c d μ:f (k+1) "_law_laid_right" [a,b,c,d] μ=fin ((aH (aR 4<|aF (f k "laid")<|aB (iC "Folding" "sheet" (f k "Folding.sheet") (aA 0) aD) aD)<|aH (aR 5<|aC aE (aA 1)<|aC aE (aF (f k "_law_quarters")<|aB (aA 2)<|aB (aA 3) aD)<|mC<|.int 0)<|aH (cD (cU<|aF (f k "_law_quarters")<|aB (aA 2)<|aB (aA 3) aD) (cZ 6)<|cD (cU<|cQ<|aB (aX<|aB (mC<|.int 0)<|aB (mC<|.int 0) aD)<|aB (aX<|aB (mC<|.int 1)<|aB (mC<|.int 0) aD)<|aB (aX<|aB (mC<|.int 0)<|aB (mC<|.int 1) aD) aD) (c4 [7,8])<|aH (aR 9<|aX<|aB (aC bI (aC aE (aA 6)<|mC<|.int 0)<|aA 7)<|aB (aC bI (aC aE (aA 6)<|mC<|.int 1)<|aA 8) aD)<|aZ (aS<|aC (aT b5) (aF (f k "_law_led")<|aB (aA 5)<|aB (aF (f k "_law_led")<|aB (aC aE (aA 4)<|aA 6)<|aB (aA 9) aD) aD)<|aF (f k "_law_led")<|aB (aC aE (aA 1)<|aA 6)<|aB (aA 9) aD) (aQ<|mC<|.bl b3) bA)<|aQ<|mC<|.bl b5) [a7 a,a7 b,a7 c,a7 d,b0,b0,b0,b0,b0,b0] μ):=by kernel_rfl
theorem Wv k a μ:f (k+1) "law" [a] μ=fin ((aH (aR 1<|aC bI (mC<|.int 1)<|aC bC (aF (f k "_law_cell")<|aB (aA 0)<|aB (mC<|.int 0) aD)<|mC<|.int 3)<|aH (aR 2<|aC bI (mC<|.int 1)<|aC bC (aC dM (aF (f k "_law_cell")<|aB (aA 0)<|aB (mC<|.int 0) aD)<|mC<|.int 3)<|mC<|.int 3)<|aH (aR 3<|mJ "Folding" (f k "Folding")<|aB (aA 1)<|aB (aA 2) aD)<|aH (aR 4<|cQ<|aB (aF (f k "_law_begun")<|aB (aA 1)<|aB (aA 2) aD) aD)<|aH (cD (rZ<|aB (mC<|.int 1)<|aB (aC bI (mC<|.int 2)<|aC bG (mC<|.int 2)<|aC bC (aF (f k "_law_cell")<|aB (aA 0)<|aB (mC<|.int 13) aD)<|mC<|.int 6)<|aB (mC<|.int 2) aD) (cZ 5)<|aH (hX (aF (f k "_law_plan")<|aB (aC aE (aA 4)<|cK<|mC<|.int 1)<|aB (aF (f k "_law_cell")<|aB (aA 0)<|aB (aA 5) aD)<|aB (aF (f k "_law_cell")<|aB (aA 0)<|aB (aC bI (aA 5)<|mC<|.int 1) aD) aD)<|c4 [6,7,8,9])<|aH (aR 10<|aF (f k "_law_folded")<|aB (aC aE (aA 4)<|cK<|mC<|.int 1)<|aB (aA 7)<|aB (aA 8)<|aB (aA 9) aD)<|aH (aZ (aS<|aC (fN b5) (aA 10)<|mC .non) (aH (cY<|iC "Folding" "fold" (f k "Folding.fold") (aA 3)<|aB (aA 6)<|aB (aA 8)<|aB (aA 9) aD)<|cY<|cV eV (aA 4)<|aB (aA 10) aD) bA)<|aZ (iL<|dE<|aF (f k "_law_right")<|aB (aA 3)<|aB (aC aE (aA 4)<|cK<|mC<|.int 1)<|aB (aA 1)<|aB (aA 2) aD) (aQ<|mC<|.bl b3) bA)<|aH (aZ (iL<|dE<|aF (f k "_law_laid_right")<|aB (aA 3)<|aB (aC aE (aC aE (aA 4)<|cK<|mC<|.int 1)<|mC<|.int 0)<|aB (aA 1)<|aB (aA 2) aD) (aQ<|mC<|.bl b3) bA)<|aH (aZ (aS<|aC iP (aF dW<|aB (aA 4) aD)<|mC<|.int 1) (aH (cY<|iC "Folding" "back" (f k "Folding.back") (aA 3) aD)<|cY<|cV k7 (aA 4) aD) bA)<|aQ<|aF (f k "_law_right")<|aB (aA 3)<|aB (aC aE (aA 4)<|cK<|mC<|.int 1)<|aB (aA 1)<|aB (aA 2) aD) [a7 a,b0,b0,b0,b0,b0,b0,b0,b0,b0,b0] μ):=by kernel_rfl
theorem Ww k a b c μ:f (k+1) "Folding.__init__" [a,b,c] μ=fin ((aH (cY<|aF (f k "check_size")<|aB (aA 1)<|aB (aA 2) aD)<|aH (mI "Folding" "wide" (aA 0)<|aA 1)<|aH (mI "Folding" "high" (aA 0)<|aA 2)<|mI "Folding" "states" (aA 0)<|cQ<|aB (aF (f k "unfolded")<|aB (aA 1)<|aB (aA 2) aD) aD) [a7 a,a7 b,a7 c] μ):=by kernel_rfl
theorem Wx k a b c d μ:f (k+1) "Folding.fold" [a,b,c,d] μ=fin ((aH (aR 4<|aC aE (eH "Folding" "states"<|aA 0)<|cK<|mC<|.int 1)<|aH (cY<|aF (f k "check_fold")<|aB (aC aE (aA 4)<|mC<|.int 1)<|aB (aA 1) aD)<|aH (aR 5<|fK (dE<|aA 2) (mC<|.int 1)<|cK<|mC<|.int 1)<|cY<|cV eV (eH "Folding" "states"<|aA 0)<|aB (aX<|aB (aF (f k "folded_layings")<|aB (aC aE (aA 4)<|mC<|.int 0)<|aB (aA 1)<|aB (aA 5) aD)<|aB (aF (f k "folded_piles")<|aB (aC aE (aA 4)<|mC<|.int 1)<|aB (aA 1)<|aB (aA 5)<|aB (aA 3) aD) aD) aD) [a7 a,a7 b,a7 c,a7 d,b0,b0] μ):=by kernel_rfl
theorem Wy k a μ:f (k+1) "Folding.back" [a] μ=fin ((aH (aZ (aS<|aC (aT b3) (iC "Folding" "many" (f k "Folding.many") (aA 0) aD)<|mC<|.int 0) cC bA)<|cY<|cV k7 (eH "Folding" "states"<|aA 0) aD) [a7 a] μ):=by kernel_rfl
theorem Wz k a μ:f (k+1) "Folding.many" [a] μ=fin ((aQ<|aC cB (aF dW<|aB (eH "Folding" "states"<|aA 0) aD)<|mC<|.int 1) [a7 a] μ):=by kernel_rfl
theorem WA k a μ:f (k+1) "Folding.sheet" [a] μ=fin ((aH (aR 1<|aC aE (eH "Folding" "states"<|aA 0)<|cK<|mC<|.int 1)<|aH (aR 2<|aF mU<|aB (eN (cU<|aF (f k "creased_edges")<|aB (eH "Folding" "wide"<|aA 0)<|aB (eH "Folding" "high"<|aA 0)<|aB (aC aE (aA 1)<|mC<|.int 0) aD) gE<|aX<|aB (aA 4)<|aB (mC<|.str "o") aD) aD)<|aH (aR 3<|aF (f k "marks_by")<|aB (aX<|aB (eH "Folding" "wide"<|aA 0)<|aB (eH "Folding" "high"<|aA 0)<|aB (aA 2) aD)<|aB (aC aE (aA 1)<|mC<|.int 0)<|aB (aC aE (aA 1)<|mC<|.int 1) aD)<|aQ<|aX<|aB (eH "Folding" "wide"<|aA 0)<|aB (eH "Folding" "high"<|aA 0)<|aB (aF mU<|aB (aA 3) aD) aD) [a7 a,b0,b0,b0] μ):=by kernel_rfl
theorem WB k xs μ:f (k+1) "Folding" xs μ=f k "Folding.__init__" xs μ:=by kernel_rfl
theorem w_mul2{Q:jz}:W (bG (.int 2) (.int z) μ) Q↔Q (.int<|2*z,μ):=jW<|.inl ⟨by decide,by decide⟩
theorem oH{Q:jz}:W (bG (.int 4) (.int z) μ) Q↔Q (.int<|4*z,μ):=jW<|.inl ⟨by decide,by decide⟩
theorem sY{Q:jz}:W (bC (.int z) (.int 2) μ) Q↔Q (.int<|z%2,μ):=gO<|by decide
theorem sZ{Q:jz}:W (bC (.int z) (.int 4) μ) Q↔Q (.int<|z%4,μ):=gO<|by decide
theorem WC:(2:Nat)<=a0s:=by decide
theorem fH:([a,b]:List D).length<=a0s:=WC
theorem WD:(1:Nat)<=a0s:=by decide
theorem Bz:([a]:List D).length<=a0s:=WD
theorem WE{Q:jz}:W (bG (.int z) (.int 4) μ) Q↔Q (.int<|z*4,μ):=jW<|.inr ⟨by decide,by decide⟩
noncomputable def o4:D->Int
 |.int i=>i|_=>0
theorem WG(h:d∈lG lo n):∃j,j<n/\d=.int (lo+(j:Int)):=by unfold lG at h;obtain⟨j,a,rfl⟩:=a0u.mp h;exact⟨j,a2u.mp a,rfl⟩
theorem wW{C:MS}{Q:jz}(h:a c μ=a7 (.nx,b,μ'))(k:W (fin<|C b μ') Q):W (fin<|aH a C c μ) Q:=by unfold aH;rw[h];exact k
theorem Hl(h:m a μ=a7 (d,μ')):aR i m a μ=a7 (.nx,a.set i<|a7 d,μ'):=by unfold aR;rw[h];rfl
theorem BA{o:Option a}{r:a}{Q:a->Prop}(h:W o λx=>x=r):W o Q↔Q r:=by obtain⟨_,h,rfl⟩:=h;rw[h];exact W_some
theorem Hn{o:Option a}{r:a}(h:∀Q,W o Q↔Q r):o=a7 r:=by obtain⟨_,e,b⟩:=(h λx=>x=r).mpr rfl;rw[e,b]
theorem Ho{ds:List D}{Q:jz}(h:ms a μ=a7 (ds,μ'))(k:W (g ds μ') Q):W (aF g ms a μ) Q:=by unfold aF;rw[h];exact k
theorem WH{Q:jz}(h1:a d μ=a7 (x,μ1))(e:b d μ1=a7 (y,c))(k:W (g x y c) Q):W (aC g a b d μ) Q:=by unfold aC;rw[h1,a0G,e];exact k
theorem WI{Q:jz}(k:W (m a μ) Q):W (fin<|aQ m a μ) Q:=W_fin.mpr<|w_mRet.mpr<|bB k λ_ q=>q
noncomputable def tB(x y:Int):Str:=if x%2=1 then(if x%4=y%4 then "falling" else "rising")else if y%4=0 then "level" else "upright"
theorem Hq k x y μ(Q:jz):W (f (k+1) "line_of" [P x y] μ) Q↔Q (.str<|tB x y,μ):=by rw[VA,W_fin];simp only[w_mSeq,w_mRet,w_mNext,w_mIfS,w_mIfE,w_mOp,bM,aL,w_mTest,w_it20,w_it21,w_eqI,gO<|show(0:Int)<2 by decide,gO<|show(0:Int)<4 by decide];unfold tB;split<;>split<;>simp_all
noncomputable def iU(x y:Int)(a b:Int):Int:=if x%2=1 then(if x%4=y%4 then a-b else a+b)else if y%4=0 then b else a
theorem Hr k x y a b μ(Q:jz):W (f (k+1) "number_by" [.str<|tB x y,P a b] μ) Q↔Q (.int<|iU x y a b,μ):=by refine BA ?_;rw[VG];unfold tB iU;split<;>split<;>exact⟨_,rfl,rfl⟩
noncomputable def bO(p e:Int×Int):Int×Int:=
 if e.1%2=1 then(if e.1%4=e.2%4 then(p.2+(e.1-e.2),p.1-(e.1-e.2))else(e.1+e.2-p.2,e.1+e.2-p.1))else if e.2%4=0 then(p.1,2*e.2-p.2)else(2*e.1-p.1,p.2)
theorem BB k x y a b μ(Q:jz):W (f (k+2) "mirrored" [P x y,P a b] μ) Q↔Q (PP<|bO (x,y) (a,b),μ):=by refine BA ?_;rw[VI];refine wW rfl<|wW rfl<|wW (Hl<|Hn<|Hq k a b μ)<|wW (Hl<|Hn<|Hr k a b a b μ) ?_;unfold tB iU bO;split<;>split<;>exact⟨_,rfl,rfl⟩
theorem Hs p a b:bO (bO p (a,b)) (a,b)=p:=by obtain⟨x,y⟩:=p;unfold bO;dsimp only;split<;>split<;>(refine a1g ?_ ?_<;>dsimp only<;>lia)
noncomputable def dH:D->Int×Int
 |.tup [.int x,.int y]=>(x,y)|_=>(0,0)
theorem m3 p(l:jq):((l.map PP).filter λd=>p<|dH d).map (λd=>d)=(l.filter p).map PP:=by
 rw[b1g];induction l with
 |nil=>rfl|cons a l b=>
  have e:(a8W PP<|a::l).filter (λd=>p<|dH d)=if p a then PP a::(l.map PP).filter (λd=>p<|dH d)else(l.map PP).filter λd=>p (dH d):=by rw[a0r,b0e];rfl
  rw[e,b,b0e];split<;>rfl
theorem lH{l:jq}(h:d∈l.map PP):∃x y,d=P x y:=by obtain⟨p,_,rfl⟩:=a0u.mp h;exact⟨p.1,p.2,rfl⟩
theorem wX{n:Nat}{i:Int}(a:0<=i)(h:i<n):lW n i=a7 i.toNat:=by unfold lW;rw[if_pos a,if_pos h]
theorem Ht{a:List Int}{i:Int}(b:0<=i)(h:i<a.length):atI (a.map D.int) i=a7 (.int<|a.getD i.toNat 0):=by
 unfold atI;rw[a0d,wX b h,a0G,a0v];have c:i.toNat<a.length:=by lia
 simp[a1H,c]
theorem Hu{Q:jz}(h:atI xs i=a7 d):W (aE (.rol xs) (.int i) μ) Q↔Q (d,μ):=by
 have:aE (.rol xs) (.int i) μ=a7 (d,μ):=by simp only[aE,gY,bF,a0G,h,a0M]
 rw[this];exact W_some
noncomputable def oI:List Int->Int
 |[]=>0|g::r=>g-oI r
theorem WJ{Q:jz}(d:μ[b]?=a7 (.lst [])):W (aT b3 (.rol<|ns.map D.int) (.loc b) μ) Q↔Q (.bl<|ns==[],μ):=by
 have a:hU μ (.rol<|ns.map D.int)=a7 (.lst<|ns.map D.int):=rfl;have c:hU μ (.loc b)=a7 (.lst<|([]:List Int).map D.int):=by simp only[hU,d];rfl
 have:cI 8 μ (.rol<|ns.map D.int) (.loc b)=a7 (ns==[]):=by show(hU μ<|.rol<|ns.map D.int).bind (λx=>(hU μ<|.loc b).bind λy=>rL (cI 7 μ) x y)=_;rw[a,c];exact G5 6 μ ns []
 unfold aT;rw[this];exact W_some
noncomputable def fW(ns:List Int)(i:Int):Int:=if i<ns.length then ns.getD i.toNat 0 else if ns=[]then i*i*48271%2147483647 else
 ((ns.getD (i%ns.length).toNat 0%2147483629+i*i*69623)*48271%2147483647)*((ns.getD (i%ns.length).toNat 0%2147483629+i*i*69623)*48271%2147483647)%2147483629
theorem WK{i:Int}(a:0<=i/\i<=100):0<=i*i/\i*i<=10000:=by refine⟨b0O a.1 a.1,?_⟩;have:=b0P a.2 a.2 a.1 (by decide);lia
theorem iV{o:Option α}{r:α}{Q:α->Prop}(h:o=a7 r)(q:Q r):W o Q:=⟨r,h,q⟩
theorem fX{Q:jz}(e:o=fin a)(h:W a λp=>match p.1 with|.rt d=>Q (d,p.2.2)|.nx=>Q (.non,p.2.2)|_=>False):W o Q:=e▸W_fin.mpr h
theorem cG{C:MS}(h:W (m ρ μ) λp=>W (C (ρ.set i<|a7 p.1) p.2) R):W (aH (aR i m) C ρ μ) R:=w_mSeq.mpr<|w_mSet.mpr h
theorem iW{C:MS}(h:W (A ρ μ) λp=>p.1=.nx/\W (C p.2.1 p.2.2) R):W (aH A C ρ μ) R:=w_mSeq.mpr<|bB h λp q=>by rw[q.1];exact q.2
theorem BC{C:MS}(h:W (m ρ μ) λp=>W (C ρ p.2) R):W (aH (cY m) C ρ μ) R:=w_mSeq.mpr<|w_mDrop.mpr h
theorem eY(h:W (m ρ μ) λp=>R (.rt p.1,ρ,p.2)):W (aQ m ρ μ) R:=w_mRet.mpr h
theorem cJ{ds:List D}{Q:jz}(h:ms ρ μ=a7 (ds,μ'))(k:W (g ds μ') Q):W (aF g ms ρ μ) Q:=w_mCall.mpr ⟨_,h,k⟩
theorem eP{Q:jz}(h:W (ms ρ μ) λp=>W (g p.1 p.2) Q):W (aF g ms ρ μ) Q:=w_mCall.mpr h
theorem bQ(h:W (m ρ μ) λp=>W (ms ρ p.2) λq=>Q (p.1::q.1,q.2)):W (aB m ms ρ μ) Q:=w_mCons.mpr h
theorem Hv{Q:jz}(h:W (m ρ μ) λp=>W (g [p.1] p.2) Q):W (aF g (aB m aD) ρ μ) Q:=w_mCall.mpr<|w_mCons.mpr<|bB h λ_ q=>⟨_,rfl,q⟩
theorem oJ{C:MS}(h:t ρ μ=a7 (b,μ'))(h1:b=b5->W (aH A C ρ μ') R)(a:b=b3->W (aH B C ρ μ') R):W (aH (aZ t A B) C ρ μ) R:=by
 refine w_mSeq.mpr<|w_mIfS.mpr ⟨_,h,?_⟩;cases b
 .exact w_mSeq.mp<|a rfl
 .exact w_mSeq.mp<|h1 rfl
theorem WL{C:MS}(h:W (t ρ μ) λp=>p.1=b3/\W (aH B C ρ p.2) R):W (aH (aZ t A B) C ρ μ) R:=w_mSeq.mpr<|w_mIfS.mpr<|bB h λp q=>by rw[if_neg<|by rw[q.1];exact a0K];exact w_mSeq.mp q.2
theorem WM{C:MS}(h:W (aH A (aH B C) ρ μ) R):W (aH (aH A B) C ρ μ) R:=w_mSeq.mpr<|w_mSeq.mpr<|bB (w_mSeq.mp h) λp q=>by
 obtain⟨x,y⟩:=p;cases x with
 |nx=>exact w_mSeq.mp q
 |_=>exact q
theorem Hw(h:W (t ρ μ) λp=>T (!p.1,p.2)):W (iL t ρ μ) T:=w_mNotT.mpr h
theorem tD(h:W (m ρ μ) λp=>p.1=.bl b/\T (b,p.2)):W (dE m ρ μ) T:=w_mTru.mpr<|bB h λp ⟨e,q⟩=>by rw[e];exact w_truB.mpr q
theorem tE{C:MS}(h:W (m ρ μ) λp=>R (.rt p.1,ρ,p.2)):W (aH (aQ m) C ρ μ) R:=w_mSeq.mpr<|w_mRet.mpr h
theorem m4{C:MS}(h:W (C ρ μ) R):W (aH bA C ρ μ) R:=w_mSeq.mpr<|w_mNext.mpr h
theorem iX(h:W (m ρ μ) λp=>∃b,p.1=.bl b/\T (b,p.2)):W (aS m ρ μ) T:=w_mTest.mpr<|bB h λp ⟨b,e,q⟩=>by rw[e];exact q
theorem b6{Q:jz}(h1:a ρ μ=a7 (x,μ1))(d:b ρ μ1=a7 (y,c))(k:W (h x y c) Q):W (aC h a b ρ μ) Q:=w_mOp.mpr ⟨_,h1,_,d,k⟩
theorem bS{Q:jz}(k:W (a ρ μ) λp=>W (b ρ p.2) λq=>W (h p.1 q.1 q.2) Q):W (aC h a b ρ μ) Q:=w_mOp.mpr k
theorem qM{o:Option a}{r:a}:W o (λx=>x=r)->o=a7 r:=λ⟨_,e,q⟩=>e.trans<|congrArg a7 q
theorem tF k ns i(b:0<=i/\i<=100)(μ:Hm)(Q:jz)(H:∀μ',μ<+:μ'->Q (.int<|fW ns i,μ')):W (f (k+1) "_law_cell" [.rol<|ns.map D.int,.int i] μ) Q:=by
 have l:=WK b;refine fX (Wg k _ _ μ)<|oJ (b:=decide (i<ns.length)) (μ':=μ) (qM<|iX<|bS ⟨_,rfl,cJ rfl<|w_lenR.mpr<|w_ltI.mpr ⟨_,rfl,by rw[a0d]⟩⟩) (λh=>?_) λh=>m4<|oJ (b:=ns==[]) (μ':=μ++[.lst []]) (qM<|iX<|b6 rfl rfl<|(WJ<|bK _ _).mpr ⟨_,rfl,rfl⟩) (λa=>?_) λa=>m4 ?_
 .have h:=of_decide_eq_true h;refine tE<|b6 rfl rfl<|(Hu<|Ht b.1 h).mpr ?_;have e:fW ns i=ns.getD i.toNat 0:=by unfold fW;rw[if_pos h]
  rw[<- e];exact H _<|a0E _
 .have h:=of_decide_eq_false h;have e:fW ns i=i*i*48271%2147483647:=by unfold fW;rw[if_neg h,if_pos<|by simpa using a]
  refine tE (bS<|bS<|b6 rfl rfl<|(jW<|.inl<|by lia).mpr ⟨_,rfl,(jW<|.inr<|by lia).mpr ⟨_,rfl,(gO<|by decide).mpr ?_⟩⟩);rw[<- e];exact H _<|aU _ _
 .have h:=of_decide_eq_false h;have a:ns≠[]:=λz=>by rw[z]at a;cases a
  have j:0<ns.length:=a6w.mpr a;have c:0<=i%(ns.length:Int)/\i%(ns.length:Int)<ns.length:=⟨a5V _<|by lia,a5g _<|by lia⟩;have e:fW ns i=((ns.getD (i%ns.length).toNat 0%2147483629+i*i*69623)*48271%2147483647)*((ns.getD (i%ns.length).toNat 0%2147483629+i*i*69623)*48271%2147483647)%2147483629:=by unfold fW;rw[if_neg h,if_neg a]
  have d:aC bC (aA 1) (aF dW<|aB (aA 0) aD) [a7<|.rol<|ns.map D.int,a7<|.int i,b0] (μ++[.lst []])=a7 (.int<|i%ns.length,μ++[.lst []]):=qM (bS ⟨_,rfl,cJ rfl<|w_lenR.mpr<|by rw[a0d];exact(gO<|by lia).mpr rfl⟩);refine cG (bS<|bS<|bS<|bS<|bS ⟨_,rfl,_,d,(Hu<|Ht c.1 c.2).mpr ⟨_,rfl,(gO<|by decide).mpr<|bS<|b6 rfl rfl<|(jW<|.inl<|by lia).mpr ⟨_,rfl,(jW<|.inr<|by lia).mpr<|w_addI.mpr ⟨_,rfl,(jW<|.inr<|by lia).mpr ⟨_,rfl,(gO<|by decide).mpr ?_⟩⟩⟩⟩⟩);generalize hy:(ns.getD (i%ns.length).toNat 0%2147483629+i*i*69623)*48271%2147483647=y at e;have g:0<=y/\y<2147483647:=by rw[<- hy];exact⟨a5V _<|by decide,a5g _<|by decide⟩
  refine eY (bS<|b6 rfl rfl<|(jW<|.inl<|by lia).mpr ⟨_,rfl,(gO<|by decide).mpr ?_⟩);rw[<- e];exact H _<|aU _ _
structure Ly where
 a:Int
 b:Int
 c:Int
 d:Int
 e:Int
 g:Int
 deriving DecidableEq
noncomputable abbrev LD(A:Ly):D:=.tup [.int A.a,.int A.b,.int A.c,.int A.d,.int A.e,.int A.g]
noncomputable def Dih(A:Ly):Prop:=(A.b=0/\A.c=0/\(A.a=1\/A.a=-1)/\(A.d=1\/A.d=-1))\/(A.a=0/\A.d=0/\(A.b=1\/A.b=-1)/\(A.c=1\/A.c=-1))
theorem Dih.sm(h:Dih A):(-1<=A.a/\A.a<=1)/\(-1<=A.b/\A.b<=1)/\(-1<=A.c/\A.c<=1)/\(-1<=A.d/\A.d<=1):=by unfold Dih at h;lia
noncomputable def aI(A:Ly)(p:Int×Int):Int×Int:=(A.a*p.1+A.b*p.2+A.e,A.c*p.1+A.d*p.2+A.g)
noncomputable def bR(A B:Ly):Ly:=⟨B.a*A.a+B.b*A.c,B.a*A.b+B.b*A.d,B.c*A.a+B.d*A.c,B.c*A.b+B.d*A.d,B.a*A.e+B.b*A.g+B.e,B.c*A.e+B.d*A.g+B.g⟩
noncomputable def BE(A:Ly):Ly:=⟨A.a,A.c,A.b,A.d,-(A.a*A.e+A.c*A.g),-(A.b*A.e+A.d*A.g)⟩
noncomputable def bU:Ly:=⟨1,0,0,1,0,0⟩
noncomputable def dR(e:Int×Int):Ly:=
 ⟨(bO (1,0) e).1-(bO (0,0) e).1,(bO (0,1) e).1-(bO (0,0) e).1,(bO (1,0) e).2-(bO (0,0) e).2,(bO (0,1) e).2-(bO (0,0) e).2,(bO (0,0) e).1,(bO (0,0) e).2⟩
noncomputable def dB(A:Ly):Int:=A.a*A.d-A.b*A.c
theorem Ly.ext'{A:Ly}(h1:A.a=B.a)(a:A.b=B.b)(b:A.c=B.c)(c:A.d=B.d)(d:A.e=B.e)(e:A.g=B.g):A=B:=by cases A;cases B;simp_all
theorem wY e:Dih (dR e):=by obtain⟨x,y⟩:=e;unfold Dih dR bO;dsimp only;split<;>split<;>dsimp only<;>lia
theorem Hx e:dB (dR e)=-1:=by
 have h:=wY e;obtain⟨x,y⟩:=e;unfold dB dR bO;dsimp only;split<;>split<;>dsimp only
 .rw[show(0:Int)+(x-y)-(0+(x-y))=0 by lia,show(1:Int)+(x-y)-(0+(x-y))=1 by lia,show(1:Int)-(x-y)-(0-(x-y))=1 by lia,show(0:Int)-(x-y)-(0-(x-y))=0 by lia];rfl
 .rw[show x+y-0-(x+y-0)=0 by lia,show x+y-1-(x+y-0)=-1 by lia];rfl
 .rw[show(1:Int)-0=1 by rfl,show 2*y-1-(2*y-0)=-1 by lia,show(0:Int)-0=0 by rfl,show 2*y-0-(2*y-0)=0 by lia];rfl
 .rw[show 2*x-1-(2*x-0)=-1 by lia,show(1:Int)-0=1 by rfl,show 2*x-0-(2*x-0)=0 by lia,show(0:Int)-0=0 by rfl];rfl
theorem kP e p:aI (dR e) p=bO p e:=by
 obtain⟨x,y⟩:=e;obtain⟨u,v⟩:=p;unfold aI dR bO;dsimp only;split<;>split<;>dsimp only
 .rw[show(0:Int)+(x-y)-(0+(x-y))=0 by lia,show(1:Int)+(x-y)-(0+(x-y))=1 by lia,show(1:Int)-(x-y)-(0-(x-y))=1 by lia,show(0:Int)-(x-y)-(0-(x-y))=0 by lia];refine a1g ?_ ?_<;>dsimp only<;>lia
 .rw[show x+y-0-(x+y-0)=0 by lia,show x+y-1-(x+y-0)=-1 by lia];refine a1g ?_ ?_<;>dsimp only<;>lia
 .rw[show(1:Int)-0=1 by rfl,show 2*y-1-(2*y-0)=-1 by lia,show(0:Int)-0=0 by rfl,show 2*y-0-(2*y-0)=0 by lia];refine a1g ?_ ?_<;>dsimp only<;>lia
 .rw[show 2*x-1-(2*x-0)=-1 by lia,show(1:Int)-0=1 by rfl,show 2*x-0-(2*x-0)=0 by lia,show(0:Int)-0=0 by rfl];refine a1g ?_ ?_<;>dsimp only<;>lia
theorem kQ A B p:aI (bR A B) p=aI B (aI A p):=by unfold aI bR;refine a1g ?_ ?_<;>dsimp only<;>grind
theorem BF A B:dB (bR A B)=dB A*dB B:=by unfold dB bR;dsimp only;grind
theorem WN A:bR A bU=A:=by unfold bR bU;exact Ly.ext' (by dsimp only;lia) (by dsimp only;lia) (by dsimp only;lia) (by dsimp only;lia) (by dsimp only;lia)<|by dsimp only;lia
theorem BG A:bR bU A=A:=by unfold bR bU;exact Ly.ext' (by dsimp only;lia) (by dsimp only;lia) (by dsimp only;lia) (by dsimp only;lia) (by dsimp only;lia)<|by dsimp only;lia
theorem tG A B E:bR (bR A B) E=bR A (bR B E):=by unfold bR;refine Ly.ext' ?_ ?_ ?_ ?_ ?_ ?_<;>dsimp only<;>grind
theorem wZ:Dih bU:=.inl ⟨rfl,rfl,.inl rfl,.inl rfl⟩
theorem BH(h:Dih A):∃e g,A=⟨1,0,0,1,e,g⟩\/A=⟨1,0,0,-1,e,g⟩\/A=⟨-1,0,0,1,e,g⟩\/A=⟨-1,0,0,-1,e,g⟩\/A=⟨0,1,1,0,e,g⟩\/A=⟨0,1,-1,0,e,g⟩\/A=⟨0,-1,1,0,e,g⟩\/A=⟨0,-1,-1,0,e,g⟩:=by obtain⟨a,b,c,d,e,g⟩:=A;refine⟨e,g,?_⟩;simp only[Dih]at h;rcases h with⟨rfl,rfl,rfl|rfl,rfl|rfl⟩|⟨rfl,rfl,rfl|rfl,rfl|rfl⟩<;>simp
theorem m5(a:x=1\/x=-1)(b:y=1\/y=-1):x*y=1\/x*y=-1:=by rcases a with rfl|rfl<;>rcases b with rfl|rfl<;>decide
theorem w4(hA:Dih A)(hB:Dih B):Dih (bR A B):=by
 unfold Dih bR;dsimp only;rcases hA with⟨c,d,a,b⟩|⟨c,d,a,b⟩<;>rcases hB with⟨k1,k2,k3,k4⟩|⟨k1,k2,k3,k4⟩<;>rw[c,d,k1,k2]<;>simp only[Int.mul_zero,Int.zero_mul,a7g,Int.zero_add,true_and]
 .exact .inl ⟨m5 k3 a,m5 k4 b⟩
 .exact .inr ⟨m5 k3 b,m5 k4 a⟩
 .exact .inr ⟨m5 k3 a,m5 k4 b⟩
 .exact .inl ⟨m5 k3 b,m5 k4 a⟩
theorem w5(hA:Dih A)p:aI (BE A) (aI A p)=p:=by obtain⟨e,g,h⟩:=BH hA;rcases h with rfl|rfl|rfl|rfl|rfl|rfl|rfl|rfl<;>(refine a1g ?_ ?_<;>dsimp only[aI,BE]<;>lia)
theorem BI(h:∀p,aI A p=aI B p):A=B:=by have a:=h (0,0);have b:=h (1,0);have c:=h (0,1);unfold aI at a b c;simp only[a9Z]at a b c;exact Ly.ext' (by lia) (by lia) (by lia) (by lia) (by lia)<|by lia
theorem w6 p:aI bU p=p:=by unfold aI bU;refine a1g ?_ ?_<;>dsimp only<;>lia
theorem WO e:bR (dR e) (dR e)=bU:=BI λp=>by rw[kQ,kP,kP,w6];exact Hs p e.1 e.2
theorem WQ:([a,b,c,d,e,g]:List D).length<=a0s:=by show(6:Nat)<=a0s;decide
theorem Hy k p q r μ(Q:jz):W (f (k+1) "laying_by" [PP p,PP q,PP r] μ) Q↔Q (LD ⟨q.1-p.1,r.1-p.1,q.2-p.2,r.2-p.2,p.1,p.2⟩,μ):=by rw[VJ,W_fin];simp only[w_mRet,w_mTup,w_mCons,aV,w_mOp,aL,aO,bM,w_it20,w_it21,w_subI,WQ,true_and]
theorem Hz k x y μ(Q:jz):W (f (k+3) "mirror_in" [P x y] μ) Q↔Q (LD<|dR (x,y),μ):=by rw[VL,W_fin];simp only[w_mRet,w_mCall,w_mCons,aV,w_mTup,aL,bM,fH,true_and,BB,Hy];rfl
theorem iY(h:-1<=i/\i<=1){Q:jz}:W (bG (.int i) (.int j) μ) Q↔Q (.int<|i*j,μ):=jW<|.inl ⟨by lia,by lia⟩
theorem BJ k A(hA:Dih A)x y μ(Q:jz):W (f (k+1) "led" [LD A,P x y] μ) Q↔Q (PP<|aI A (x,y),μ):=by obtain⟨a,b,c,d⟩:=hA.sm;rw[VM,W_fin];simp only[w_mSeq,w_mSet,w_mRet,w_mTup,w_mCons,aV,w_mOp,aL,aO,bM,w_it20,w_it21,GX,GY,G0,G1,Vg,Vh,a0H,a0I,iY a,iY b,iY c,iY d,w_addI,fH,true_and];rfl
theorem HA k A B(hA:Dih A)(hB:Dih B)μ(Q:jz):W (f (k+2) "then" [LD A,LD B] μ) Q↔Q (LD<|bR A B,μ):=by
 rw[VN,W_fin];simp only[w_mRet,w_mCall,w_mCons,aV,w_mTup,aL,aO,bM,fH,true_and,BJ _ A hA,BJ _ B hB,Hy];have e:(⟨(aI B<|aI A (1,0)).1-(aI B<|aI A (0,0)).1,(aI B<|aI A (0,1)).1-(aI B<|aI A (0,0)).1,(aI B<|aI A (1,0)).2-(aI B<|aI A (0,0)).2,(aI B<|aI A (0,1)).2-(aI B<|aI A (0,0)).2,(aI B<|aI A (0,0)).1,(aI B<|aI A (0,0)).2⟩:Ly)=bR A B:=by unfold aI bR;refine Ly.ext' ?_ ?_ ?_ ?_ ?_ ?_<;>dsimp only<;>grind
 rw[<- e]
theorem WR k A(hA:Dih A)μ(Q:jz):W (f (k+1) "is_turned" [LD A] μ) Q↔Q (.bl<|dB A==-1,μ):=by obtain⟨a,b,c,d⟩:=hA.sm;rw[VO,W_fin];simp only[w_mRet,w_mOp,aL,bM,wN,GX,GY,G0,G1,iY a,iY b,w_subI,w_eqI];rfl
noncomputable def iZ(lo:Int)(n m:Nat):jq:=(a1o n).flatMap λ(i:Nat)=>(a1o m).map λ(j:Nat)=>(lo+(i:Int),lo+(j:Int))
noncomputable def jZ(lo x:Int)(m:Nat):jq:=(a1o m).map λ(j:Nat)=>(x,lo+(j:Int))
theorem HB lo n m:iZ lo (n+1) m=iZ lo n m++jZ lo (lo+(n:Int)) m:=by unfold iZ jZ;rw[a7v,a4P];simp
theorem HC lo x m:jZ lo x (m+1)=jZ lo x m++[(x,lo+(m:Int))]:=by unfold jZ;rw[a7v,a0z];rfl
theorem HD lo x m:(jZ lo x m).length=m:=by unfold jZ;simp
theorem HE lo m:∀n,(iZ lo n m).length=n*m
 |0=>by simp[iZ]
 |n+1=>by rw[HB,a0q,HE lo m n,HD,a8H]
theorem HF{μ:Hm}:(μ.set a c).set a b=μ.set a b:=a6Q ..
theorem eQ{μ:Hm}(h:μ[a]?=a7 c):(μ.set a b)[a]?=a7 b:=by rw[a1a (a0f.mp h).1]
theorem tH(μ:Hm)(c a:C):(μ++[c]).set μ.length a=μ++[a]:=by rw[a4x _ _<|a0l _];simp
theorem tI{μ:Hm}(h:μ[a]?=a7 c):μ.set a c=μ:=by obtain⟨b,rfl⟩:=a0f.mp h;exact List.set_getElem_self b
noncomputable abbrev HG:MS:=cY<|cV eV (aA 2)<|aB (aX<|aB (aA 3)<|aB (aA 4) aD) aD
theorem WS T(b:Int->Int->Bool)d e a x(q:∀y μ Q,W (T [a7 d,a7 e,a7<|.loc a,a7<|.int x,a7<|.int y] μ) Q↔Q (b x y,μ))lo m(ps:jq)(r:ps.length+m<=1000)μ(g:μ[a]?=a7 (.lst<|ps.map PP))o Q(c:∀o,Q (.nx,[a7 d,a7 e,a7<|.loc a,a7<|.int x,o],μ.set a<|.lst<|(ps++(jZ lo x m).filter λp=>b p.1 p.2).map PP)):W (eL (hV lo m) (cZ 4) (aZ T HG bA) (m+1) 0 [a7 d,a7 e,a7<|.loc a,a7<|.int x,o] μ) Q:=by
 refine Bn (λi k h=>i<=m/\h=μ.set a (.lst<|(ps++(jZ lo x i).filter λp=>b p.1 p.2).map PP)/\∃o,k=[a7 d,a7 e,a7<|.loc a,a7<|.int x,o]) ⟨a1U _,?_,o,rfl⟩ ?_ ?_
 .simp only[jZ,b0u,a3S,a2J,a1O];exact(tI g).symm
 .rintro i k j n ⟨_,rfl,o,rfl⟩;refine⟨_,rfl,?_⟩;simp only[a0H,a0I,w_mIfS];rw[q];cases l:b x (lo+(i:Int))with
  |false=>simp only[a0t,if_false,w_mNext];refine⟨n,?_,_,rfl⟩;rw[HC,a1D];simp[l]|true=>
   simp only[if_true,w_mDrop];refine iF ?_;simp only[aL,aO];refine⟨jY<|eQ g,?_⟩;simp only[w_mCons,aV,w_mTup,aL,aO,fH,true_and];refine(qL (eQ g) ?_).mpr ?_
   .have:=a0Z (λp=>b p.1 p.2)<|jZ lo x i;rw[HD]at this;rw[a0d,a0q,a0O];lia
   refine⟨n,?_,_,rfl⟩;rw[HF,HC,a1D];simp[l,PP,P]
 .rintro k j ⟨_,rfl,o,rfl⟩;exact c o
theorem HH T(d:Int->Int->Bool)b c a(q:MI)lo m(hit:∀o1 o2 μ Q,W (q [a7 b,a7 c,a7<|.loc a,o1,o2] μ) Q↔Q (hV lo m,m+1,μ))(s:∀x y μ Q,W (T [a7 b,a7 c,a7<|.loc a,a7<|.int x,a7<|.int y] μ) Q↔Q (d x y,μ))n(v:n*m+m<=900)μ(k:μ[a]?=a7 (.lst []))Q(e:∀o1 o2,Q (.nx,[a7 b,a7 c,a7<|.loc a,o1,o2],μ.set a<|.lst<|((iZ lo n m).filter λp=>d p.1 p.2).map PP)):W (eL (hV lo n) (cZ 3) (cD q (cZ 4)<|aZ T HG bA) (n+1) 0 [a7 b,a7 c,a7<|.loc a,b0,b0] μ) Q:=by
 refine Bn (λi j g=>i<=n/\g=μ.set a (.lst<|((iZ lo i m).filter λp=>d p.1 p.2).map PP)/\∃o1 o2,j=[a7 b,a7 c,a7<|.loc a,o1,o2]) ⟨a1U _,?_,b0,b0,rfl⟩ ?_ ?_
 .simp only[iZ,b0u,List.flatMap_nil,a2J,a3S];exact(tI k).symm
 .rintro i j h l ⟨_,rfl,o1,o2,rfl⟩;refine⟨_,rfl,?_⟩;simp only[a0H,a0I,w_mForI];rw[hit];refine WS T d b c a _ (s _) lo m _ ?_ _ (eQ k) _ _ λo=>?_
  .have r:=a0Z (λp=>d p.1 p.2)<|iZ lo i m;rw[HE]at r;have u:i*m<=n*m:=Nat.mul_le_mul_right _<|a4U l;lia
  .refine⟨l,?_,_,_,rfl⟩;rw[HF,HB,a1D]
 .rintro j h ⟨_,rfl,o1,o2,rfl⟩;exact e o1 o2
noncomputable def lI(x y:Int):Bool:=(x%2==1&&y%2==1)||(x%2==0&&x%4+y%4==2)
noncomputable def BK(x y:Int):Bool:=(x%4==2&&y%2==1)||(x%2==1&&y%4==2)
noncomputable def b7(w h:Int):jq:=(iZ 0 (4*w).toNat (4*h).toNat).filter λp=>BK p.1 p.2
theorem WT{w h:Int}(hw:1<=w/\w<=3)(e:1<=h/\h<=3):(4*w).toNat*(4*h).toNat+(4*h).toNat<=900/\(4*w-1).toNat*(4*h-1).toNat+(4*h-1).toNat<=900:=by
 have a:(4*w).toNat<=12:=by lia
 have b:(4*h).toNat<=12:=by lia
 have c:=a6r a b;have d:(4*w-1).toNat*(4*h-1).toNat<=12*12:=a6r (by lia) (by lia);lia
theorem BL k w h(hw:1<=w/\w<=3)(a:1<=h/\h<=3)μ(Q:jz)(H:Q (.loc μ.length,μ++[.lst<|(b7 w h).map PP])):W (f (k+1) "_law_quarters" [.int w,.int h] μ) Q:=by
 rw[Wh,W_fin];simp only[w_mSeq,w_mSet,w_mLst,aV];refine⟨a1U _,?_⟩;simp only[a0H,a0I,w_mForI];rw[G3 (j:=0)];simp only[w_mCons,aV,bM,w_mOp,aL,aO,oH];refine⟨by lia,?_⟩;refine HH _ BK _ _ _ _ 0 (4*h).toNat (λo1 o2 μ Q=>?_) (λx y μ Q=>?_) (4*w).toNat (WT hw a).1 _ (bK _ _) _ λo1 o2=>?_
 .rw[G3 (j:=0)];simp only[w_mCons,aV,bM,w_mOp,aL,aO,oH];exact and_iff_right<|by lia
 .simp only[w_mOrT,w_mAndT,w_mTest,w_mOp,aL,aO,bM,sY,sZ,w_eqI,w_addI];unfold BK;cases x%4==2<;>cases y%2==1<;>cases x%2==1<;>cases y%4==2<;>simp
 .simp only[w_mRet,aL,aO];rw[tH];exact H
noncomputable def bE(p:Int×Int):List Int:=[p.1,p.2]
theorem m7{es:jq}{i:Nat}(h:(es.map PP)[i]?=a7 d):∃p,es[i]?=a7 p/\d=PP p:=by rw[a0v]at h;obtain⟨p,a,b⟩:=a0g.mp h;exact⟨p,a,b.symm⟩
theorem cX q:c5 (PP q)=a7 (bE q):=rfl
noncomputable abbrev Kv:=List<|(Int×Int)×Ly
noncomputable def eW(kvs:Kv):jx:=kvs.map λp=>(bE p.1,LD p.2)
theorem BM(nd:(l.map (·.1)).Nodup)(h:(k,d)∈l):bJ l k=a7 d:=by
 induction l with
 |nil=>cases h|cons p l a=>
  rw[a0r,a2I]at nd;unfold bJ;rw[a3l];rcases a0D.mp h with h|h
  .rw[<- h];simp
  .have:decide (p.1=k)=false:=decide_eq_false λz=>nd.1<|a0u.mpr ⟨_,h,z.symm⟩;rw[this];exact a nd.2 h
theorem oK(h:bE p=bE q):p=q:=by unfold bE at h;injection h with h1 h2;injection h2 with h2;exact a1g h1 h2
theorem w_gTup6:W (c4 [i1,i2,i3,h,i,j] (.tup [a,b,c,d,e,g]) k μ) Q↔Q ((((((k.set i1<|a7 a).set i2<|a7 b).set i3<|a7 c).set h<|a7 d).set i<|a7 e).set j<|a7 g):=W_some
theorem WU(nd:(kvs.map (·.1)).Nodup):((eW kvs).map (·.1)).Nodup:=by
 have e:(eW kvs).map (·.1)=(kvs.map (·.1)).map bE:=by unfold eW;rw[a0x,a0x];rfl
 rw[e];exact a4F _ (λa b c z=>c<|oK z) nd
noncomputable abbrev Gr:=List<|(Int×Int)×jq
noncomputable abbrev Zr:=List<|(Int×Int)×jq×Nat
noncomputable def GZ(Z:Zr):Gr:=Z.map λz=>(z.1,z.2.1)
noncomputable def aW(Z:Zr):jx:=Z.map λz=>(bE z.1,D.loc z.2.2)
structure GI(μ0 μ:Hm)(a:Nat)(Z:Zr):Prop where
 pre:μ0<+:μ
 lo:μ0.length<=a
 dic:μ[a]?=a7 (.dT<|aW Z)
 kd:(Z.map (·.1)).Nodup
 bd:(Z.map (·.2.2)).Nodup
 at_:∀z∈Z,μ0.length<=z.2.2/\μ[z.2.2]?=a7 (.lst<|z.2.1.map PP)
theorem tJ(d:(Z.map (·.1)).Nodup)(h:z∈Z):bJ (aW Z) (bE z.1)=a7 (.loc z.2.2):=by
 refine BM ?_<|a0u.mpr ⟨z,h,rfl⟩;have e:(aW Z).map (·.1)=(Z.map (·.1)).map bE:=by unfold aW;rw[a0x,a0x];rfl
 rw[e];exact a4F _ (λa b c x=>c<|oK x) d
theorem BN(h:p∉Z.map (·.1)):bJ (aW Z) (bE p)=none:=by
 unfold bJ;rw[a2x.mpr]
 .rfl
 .intro x a;obtain⟨z,b,rfl⟩:=a0u.mp a;rw[decide_eq_true_iff];exact λe=>h<|a0u.mpr ⟨z,b,oK e⟩
theorem HJ{Z:Zr}(h:p∈Z.map (·.1)):∃z∈Z,z.1=p:=by obtain⟨z,a,b⟩:=a0u.mp h;exact⟨z,a,b⟩
theorem i7 Z:(GZ Z).map (·.1)=Z.map (·.1):=by unfold GZ;rw[a0x];rfl
theorem WV(h:p∉Z.map (·.1)):cS (aW Z) (bE p) (.loc b)=aW (Z++[(p,qs,b)]):=by unfold cS;rw[BN h,if_neg<|by simp];unfold aW;rw[a0z];rfl
theorem WW(h:p∈Z.map (·.1))(d:(Z.map (·.1)).Nodup):cS (aW Z) (bE p) (.loc b)=aW (Z.map λy=>if y.1=p then(y.1,qs,b)else y):=by
 obtain⟨z,c,e⟩:=HJ h;unfold cS;rw[<- e,tJ d c,Option.isSome_some,if_pos rfl];unfold aW;rw[a0x,a0x];refine a1v λy _=>?_;show(if bE y.1=bE z.1 then(bE y.1,D.loc b)else(bE y.1,D.loc y.2.2))=(bE (if y.1=z.1 then(y.1,qs,b)else y).1,D.loc (if y.1=z.1 then(y.1,qs,b)else y).2.2);by_cases a:y.1=z.1
 .rw[if_pos<|by rw[a],if_pos a]
 .rw[if_neg λw=>a<|oK w,if_neg a]
theorem WX{kvs:jx}{Q:jz}(h:μ[a]?=a7 (.dT kvs))(h1:kvs≠[]/\(kvs.map λp=>Tb.hashT p.1).Nodup):W (qI [.loc a] μ) Q↔Q (.loc μ.length,μ++[.dT kvs]):=by simp only[qI,h];rw[if_pos h1.2];exact W_some
theorem BO{f:D->List D->Hm->jk}{Q:jz}(h:W (b a μ) λp=>qE p.2 p.1=b5/\W (ms a p.2) λq=>W (f p.1 q.1 q.2) Q):W (k8 f b ms a μ) Q:=by unfold k8;rw[W_bind];refine bB h λp q=>?_;rw[q.1];exact W_bind.mpr q.2
theorem BP{kvs:jx}(h:μ[a]?=a7 (.dT kvs)):qE μ (.loc a)=true:=by simp only[qE,h]
theorem WY{ds:List D}{Q:jz}(hA:μ[A]?=a7 (.lst ds))(hB:μ[B]?=a7 (.lst [])):W (aT b3 (.loc A) (.loc B) μ) Q↔Q (.bl ds.isEmpty,μ):=by
 have a:∀{x:Nat}{xs:List D},μ[x]?=a7 (.lst xs)->hU μ (.loc x)=a7 (.lst xs):=λh=>by simp only[hU,h]
 have e:cI 8 μ (.loc A) (.loc B)=a7 ds.isEmpty:=by show(hU μ<|.loc A).bind (λu=>(hU μ<|.loc B).bind λv=>rL (cI 7 μ) u v)=_;rw[a hA,a hB];show gD (cI 7 μ) ds []=_;cases ds<;>rfl
 unfold aT;rw[e];exact W_some
theorem w8 Z:(aW Z).length=Z.length:=a0d ..
theorem oM Z:(GZ Z).length=Z.length:=a0d ..
noncomputable def b8(k:Int)(p:Int×Int):Int:=if k=0 then p.2 else if k=1 then p.1 else if k=2 then p.1-p.2 else p.1+p.2
noncomputable def bD(k n:Int):Ly:=if k=0 then⟨1,0,0,-1,0,2*n⟩else if k=1 then⟨-1,0,0,1,2*n,0⟩else if k=2 then⟨0,1,1,0,n,-n⟩else⟨0,-1,-1,0,n,n⟩
theorem w9 k n:Dih (bD k n):=by
 unfold bD;split
 .exact .inl ⟨rfl,rfl,.inl rfl,.inr rfl⟩
 split
 .exact .inl ⟨rfl,rfl,.inr rfl,.inl rfl⟩
 split
 .exact .inr ⟨rfl,rfl,.inl rfl,.inl rfl⟩
 .exact .inr ⟨rfl,rfl,.inr rfl,.inr rfl⟩
theorem HK k n p:aI (bD k n) (aI (bD k n) p)=p:=by
 obtain⟨x,y⟩:=p;unfold bD aI;split
 .refine a1g ?_ ?_<;>dsimp only<;>lia
 split
 .refine a1g ?_ ?_<;>dsimp only<;>lia
 split
 .refine a1g ?_ ?_<;>dsimp only<;>lia
 .refine a1g ?_ ?_<;>dsimp only<;>lia
noncomputable def cE(G:Gr)(p:Int×Int):jq:=match G.find? (λg=>decide<|g.1=p)with|some g=>g.2|none=>[]
noncomputable def gQ(G:Gr)(p:Int×Int)(L:jq):Gr:=if(G.map (·.1)).contains p then G.map (λg=>if g.1=p then(g.1,L)else g)else G++[(p,L)]
theorem HL p:cE [] p=[]:=rfl
theorem gR g(G:Gr)p:cE (g::G) p=if g.1=p then g.2 else cE G p:=by
 unfold cE;rw[a3l];by_cases e:g.1=p
 .rw[if_pos e,decide_eq_true e]
 .rw[if_neg e,decide_eq_false e]
theorem iG(a:(G.map (·.1)).Nodup)(h:g∈G):cE G g.1=g.2:=by
 induction G with
 |nil=>cases h|cons x G b=>
  rw[a0r,a2I]at a;rw[gR];rcases a0D.mp h with rfl|h
  .exact if_pos rfl
  .rw[if_neg λe:x.1=g.1=>a.1<|by rw[e];exact a0u.mpr ⟨g,h,rfl⟩,b a.2 h]
theorem tK(h:p∉G.map (·.1)):cE G p=[]:=by
 induction G with
 |nil=>rfl|cons x G a=>rw[a0r,a0D,not_or]at h;rw[gR,if_neg λe=>h.1 e.symm,a h.2]
theorem HM(h:p∉G.map (·.1)):cE (G++K) p=cE K p:=by
 induction G with
 |nil=>rfl|cons x G a=>rw[a0r,a0D,not_or]at h;rw[a0X,gR,if_neg λe=>h.1 e.symm,a h.2]
theorem atG_append'(h:p∈G.map (·.1)):cE (G++K) p=cE G p:=by
 induction G with
 |nil=>cases h|cons x G a=>
  rw[a0X,gR,gR];by_cases e:x.1=p
  .rw[if_pos e,if_pos e]
  .rw[if_neg e,if_neg e];rw[a0r,a0D]at h;exact a<|h.resolve_left λw=>e w.symm
theorem HN G p L:(gQ G p L).map (·.1)=if(G.map (·.1)).contains p then G.map (·.1)else G.map (·.1)++[p]:=by
 unfold gQ;split
 .rw[a0x];refine a1v λg _=>?_;show(if g.1=p then(g.1,L)else g).1=g.1;split<;>rfl
 .rw[a0z];rfl
theorem WZ(a:(G.map (·.1)).Nodup):((gQ G p L).map (·.1)).Nodup:=by
 rw[HN];split
 .exact a
 .rename_i h;rw[a3n];exact⟨a,by simp,λx b y c e=>h<|a1B.mpr<|by rw[a0N.mp c]at e;exact e▸b⟩
theorem putG_mem:q∈(gQ G p L).map (·.1)↔q∈G.map (·.1)\/q=p:=by
 rw[HN];split
 .rename_i h;exact⟨.inl,λz=>z.elim id λe=>e▸a1B.mp h⟩
 .rw[a1t,a0N]
theorem HP G p q L:cE (gQ G p L) q=if q=p then L else cE G q:=by
 unfold gQ;split
 .rename_i h;have h:=a1B.mp h;induction G with
  |nil=>cases h|cons x G d=>
   rw[a0r,gR,gR];by_cases e:x.1=p
   .rw[if_pos e];by_cases a:q=p
    .rw[if_pos a,if_pos<|by rw[e,a]]
    .rw[if_neg a,if_neg<|by show ¬ x.1=q;rw[e];exact λw=>a w.symm,if_neg<|by rw[e];exact λw=>a w.symm];by_cases b:p∈G.map (·.1)
     .rw[d (a1B.mpr b) b,if_neg a]
     .have:(G.map λg=>if g.1=p then(g.1,L)else g)=G:=by have w:(G.map λg=>if g.1=p then(g.1,L)else g)=G.map id:=a1v λg i=>if_neg λe=>b<|a0u.mpr ⟨g,i,e⟩;rw[w,a8V]
      rw[this]
   .rw[if_neg e];rw[a0r,a0D]at h;have c:=h.resolve_left λw=>e w.symm;rw[d (a1B.mpr c) c];by_cases a:x.1=q
    .rw[if_pos a,if_pos a,if_neg<|by rw[<- a];exact e]
    .rw[if_neg a,if_neg a]
 .rename_i h;have h:p∉G.map (·.1):=λz=>h<|a1B.mpr z;by_cases e:q=p
  .rw[if_pos e,e,HM h,gR,if_pos rfl]
  .rw[if_neg e];by_cases b:q∈G.map (·.1)
   .exact atG_append' b
   .rw[HM b,gR,if_neg λw=>e w.symm,HL,tK b]
theorem W0(h:cE G p≠[]):p∈G.map (·.1):=Classical.byContradiction λz=>h<|tK z
structure Pil(qs:jq)(f:Int×Int->Int×Int)(G:Gr):Prop where
 kd:(G.map (·.1)).Nodup
 ne:∀g∈G,g.2≠[]
 pm:∀p,(cE G p).Perm (qs.filter λq=>decide<|f q=p)
theorem Pil.key{f:Int×Int->Int×Int}(h:Pil qs f G):p∈G.map (·.1)↔∃q∈qs,f q=p:=by
 constructor
 .intro d;obtain⟨g,c,rfl⟩:=a0u.mp d;have a:=h.pm g.1;rw[iG h.kd c]at a;obtain⟨q,b⟩:=a8a _<|h.ne g c;have:=a0Y.mp<|a.mem_iff.mp b;exact⟨q,this.1,of_decide_eq_true this.2⟩
 .rintro⟨q,b,rfl⟩;refine W0 λe=>?_;have a:=h.pm<|f q;rw[e]at a;have:q∈([]:jq):=a.mem_iff.mpr<|a0Y.mpr ⟨b,decide_eq_true rfl⟩;cases this
theorem HQ{g:Type}a b(hd:∀x,a x=b5->b x=b3):∀l:List g,(l.filter λx=>a x||b x).Perm (l.filter a++l.filter b)
 |[]=>.nil|x::l=>by
  have e:=HQ a b hd l;cases c:a x with
  |true=>rw[a1x<|by simp[c],a1x c,a1u<|by simp[hd x c]];exact e.cons x|false=>
   cases d:b x with
   |true=>rw[a1x<|by simp[d],a1u<|by simp[c],a1x d];exact(e.cons x).trans List.perm_middle.symm|false=>rw[a1u<|by simp[c,d],a1u<|by simp[c],a1u<|by simp[d]];exact e
noncomputable def fI(mv:Int×Int->Bool)(G:Gr):Gr:=G.filter λg=>!mv g.1
noncomputable def dZ(mv:Int×Int->Bool)(M:Int×Int->Int×Int)(G:Gr):Gr:=(G.filter λg=>mv g.1).map λg=>(M g.1,g.2.reverse)
noncomputable def c7(a:Bool)(S:Gr)(g:(Int×Int)×jq):Gr:=gQ S g.1<|if a then cE S g.1++g.2 else g.2++cE S g.1
noncomputable def oN(mv:Int×Int->Bool)(M:Int×Int->Int×Int)(a:Bool)(G:Gr):Gr:=(dZ mv M G).foldl (c7 a)<|fI mv G
theorem HR p:∀G,cE (fI mv G) p=if mv p then[]else cE G p
 |[]=>by cases mv p<;>rfl
 |g::G=>by
  have a:=HR (mv:=mv) p G;unfold fI at a ⊢;rw[gR];cases h:mv g.1 with
  |true=>
   rw[a1u<|by simp[h],a];by_cases e:g.1=p
   .rw[<- e,h];rfl
   .rw[if_neg e]
  |false=>
   rw[a1x<|by simp[h],gR];by_cases e:g.1=p
   .rw[if_pos e,if_pos e,<- e,h];rfl
   .rw[if_neg e,if_neg e,a]
theorem HS(a:∀p,M (M p)=p)p:∀G,cE (dZ mv M G) p=if mv (M p)then(cE G<|M p).reverse else[]
 |[]=>by cases mv (M p)<;>rfl
 |g::G=>by
  have b:=HS (mv:=mv) a p G;unfold dZ at b ⊢;rw[gR];have c:M g.1=p↔g.1=M p:=⟨λe=>by rw[<- e,a],λe=>by rw[e,a]⟩;cases h:mv g.1 with
  |true=>
   rw[a1x<|by simp[h],a0r,gR];by_cases e:g.1=M p
   .rw[if_pos<|c.mpr e,if_pos e,<- e,h];rfl
   .rw[if_neg λw=>e<|c.mp w,if_neg e,b]
  |false=>
   rw[a1u<|by simp[h],b];by_cases e:g.1=M p
   .rw[<- e,h];rfl
   .rw[if_neg e]
theorem HU a:∀(K S:Gr),(K.map (·.1)).Nodup->(S.map (·.1)).Nodup->(∀g∈S,g.2≠[])->(∀g∈K,g.2≠[])->
  ((K.foldl (c7 a) S).map (·.1)).Nodup/\(∀g∈K.foldl (c7 a) S,g.2≠[])/\∀p,(cE (K.foldl (c7 a) S) p).Perm (cE S p++cE K p)
 |[],S,_,hs,ns,_=>⟨hs,ns,λp=>by rw[HL,a1O];exact .refl _⟩|g::K,S,hk,hs,ns,nk=>by
  rw[a0r,a2I]at hk;rw[a3z];have b:((c7 a S g).map (·.1)).Nodup:=WZ hs;have i:∀x∈c7 a S g,x.2≠[]:=λx c=>by
   have e:cE (c7 a S g) x.1=x.2:=iG b c;rw[<- e];unfold c7;rw[HP];have k:=nk g<|a0P ..;split
   .cases a
    .exact λw=>k (a8u.mp w).1
    .exact λw=>k (a8u.mp w).2
   .rename_i d;have:x.1∈(c7 a S g).map (·.1):=a0u.mpr ⟨x,c,rfl⟩;rcases putG_mem.mp this with h|h
    .obtain⟨y,j,l⟩:=a0u.mp h;rw[<- l,iG hs j];exact ns y j
    .exact absurd h d
  obtain⟨m,n,o⟩:=HU a K (c7 a S g) hk.2 b i λx c=>nk x<|a0F _ c;refine⟨m,n,λp=>(o p).trans ?_⟩;rw[gR];unfold c7;rw[HP];by_cases e:p=g.1
  .rw[if_pos e,if_pos e.symm,e,tK hk.1,a1O];cases a
   .exact List.perm_append_comm
   .exact .refl _
  .rw[if_neg e,if_neg λw=>e w.symm]
theorem W2{f:Int×Int->Int×Int}(h:Pil qs f G){mv:Int×Int->Bool}(d:∀p,M (M p)=p)c:
  Pil qs (λq=>if mv (f q)then M (f q)else f q) (oN mv M c G):=by
 have j:∀(l:List ((Int×Int)×jq)),l.Sublist G->(l.map (·.1)).Nodup:=λl x=>(x.map _).nodup h.kd;have o:((dZ mv M G).map (·.1)).Nodup:=by
  have e:(dZ mv M G).map (·.1)=((G.filter λg=>mv g.1).map (·.1)).map M:=by unfold dZ;rw[a0x,a0x];rfl
  rw[e];exact a4F _ (λa b k w=>k<|by rw[<- d a,w,d])<|j _ a3X
 obtain⟨r,s,u⟩:=HU c (dZ mv M G) (fI mv G) o (j _ a3X) (λg m=>h.ne g (a0Y.mp m).1) λg m=>by
  obtain⟨y,z,rfl⟩:=a0u.mp m;exact λw=>h.ne y (a0Y.mp z).1<|List.reverse_eq_nil_iff.mp w
 refine⟨r,s,λp=>(u p).trans ?_⟩;rw[HR,HS d];have e:(qs.filter λq=>decide<|(if mv (f q)then M (f q)else f q)=p)=qs.filter λq=>(!mv (f q)&&decide (f q=p))||(mv (f q)&&decide (f q=M p)):=by
  congr 1;funext q;have v:M (f q)=p↔f q=M p:=⟨λe=>by rw[<- e,d],λe=>by rw[e,d]⟩;cases mv (f q)with
  |true=>simp[v]|false=>simp
 rw[e];refine List.Perm.trans ?_ (HQ _ _ (λq n=>?_) qs).symm
 .refine List.Perm.append ?_ ?_
  .cases i:mv p with
   |true=>rw[if_pos rfl,a3x.mpr];intro q _ w;rw[a0j]at w;have e:=of_decide_eq_true w.2;rw[e,i]at w;exact a0K w.1|false=>
    rw[if_neg a0K];have:(qs.filter λq=>!mv (f q)&&decide (f q=p))=qs.filter λq=>decide (f q=p):=by
     congr 1;funext q;by_cases e:f q=p
     .simp[e,i]
     .simp[e]
    rw[this];exact h.pm p
  .cases i:mv (M p)with
   |true=>
    rw[if_pos rfl];have:(qs.filter λq=>mv (f q)&&decide (f q=M p))=qs.filter λq=>decide (f q=M p):=by
     congr 1;funext q;by_cases e:f q=M p
     .simp[e,i]
     .simp[e]
    rw[this];exact(List.reverse_perm _).trans<|h.pm<|M p
   |false=>rw[if_neg a0K,a3x.mpr];intro q _ w;rw[a0j]at w;have e:=of_decide_eq_true w.2;rw[e,i]at w;exact a0K w.1
 .rw[a0j]at n;simp only[a5r]at n;rw[n.1];rfl
theorem W3(a:0<=u/\u<4):atI [D.int p.2,.int p.1,.int<|p.1-p.2,.int<|p.1+p.2] u=a7 (.int<|b8 u p):=by
 have:u=0\/u=1\/u=2\/u=3:=by lia
 rcases this with rfl|rfl|rfl|rfl<;>rfl
theorem w_eqBl{Q:jz}:W (aT b3 (.bl x) (.bl y) μ) Q↔Q (.bl<|x==y,μ):=W_some
theorem fJ(h:1<=w/\w<=3):w∈[(1:Int),2,3]:=by
 have:w=1\/w=2\/w=3:=by lia
 rcases this with rfl|rfl|rfl<;>decide
noncomputable def Dc(μ:Hm)(a:Nat)(kvs:jx):Prop:=μ[a]?=a7 (.dT kvs)\/μ[a]?=a7 (.dF kvs)
theorem i8{Q:jz}(h:Dc μ a kvs)(b:c5 y=a7 k)(c:bJ kvs k=a7 d):W (aE (.loc a) y μ) Q↔Q (d,μ):=by
 have:aE (.loc a) y μ=a7 (d,μ):=by rcases h with h|h<;>simp only[aE,h,b,a0G,c,a0M]
 rw[this];exact W_some
structure HI(μ:Hm)(a:Nat)(Z:Zr):Prop where
 dic:Dc μ a<|aW Z
 kd:(Z.map (·.1)).Nodup
 at_:∀z∈Z,μ[z.2.2]?=a7 (.lst<|z.2.1.map PP)
theorem Dc.more{μ':Hm}(I:Dc μ a kvs)(h:μ<+:μ'):Dc μ' a kvs:=I.elim (λe=>.inl<|aN h e) λe=>.inr<|aN h e
theorem HI.more{μ':Hm}(I:HI μ a Z)(h:μ<+:μ'):HI μ' a Z:=⟨I.dic.more h,I.kd,λz hz=>aN h<|I.at_ z hz⟩
theorem HI.ne(I:HI μ a Z)(h:Dc μ b kvs)(hz:z∈Z):z.2.2≠b:=λe=>by have c:=I.at_ z hz;rw[e]at c;rcases h with h|h<;>(rw[h]at c;cases c)
theorem HI.frz{kvs:jx}(I:HI μ a Z)(h:μ[b]?=a7 (.dT kvs)):HI (μ.set b<|.dF kvs) a Z:=by
 refine⟨?_,I.kd,λz c=>by rw[a0p<|a1j<|I.ne (.inl h) c];exact I.at_ z c⟩;by_cases e:b=a
 .subst e;have:kvs=aW Z:=by
   rcases I.dic with w|w
   .rw[h]at w;injection w with w;injection w
   .rw[h]at w;cases w
  rw[<- this];exact .inr<|eQ h
 .unfold Dc;rw[a0p e];exact I.dic
theorem xA{μ μ1:Hm}{kvs:jx}(hc:μ[a]?=a7 (.dT kvs))(h:μ.set a (.dF kvs)<+:μ1):μ<+:μ1.set a (.dT kvs):=by obtain⟨t,rfl⟩:=h;have b:a<μ.length:=(a0f.mp hc).1;rw[a4E _ _<|by rw[a1d];exact b,a6Q,tI hc];exact a4Z _ _
theorem W4{n:Nat}(h:(aW Z)[n]?=a7 (k,d)):∃z∈Z,Z[n]?=a7 z/\k=bE z.1/\d=.loc z.2.2:=by unfold aW at h;rw[a0v]at h;obtain⟨z,a,b⟩:=a0g.mp h;cases b;exact⟨z,a0S a,a,rfl,rfl⟩
theorem gT{a:Type}{l:List a}{x:a}(h:l[n]?=a7 x):l.take (n+1)=l.take n++[x]:=by rw[a9S,h];rfl
theorem qN{c:Type}{l:List c}(nd:l.Nodup){x:c}(h:l[n]?=a7 x):x∉l.take n:=λg=>by
 obtain⟨j,a⟩:=a5T.mp g;have b:j<n:=by have:=(a0f.mp a).1;rw[a1w]at this;lia
 rw[a8k b]at a;have i:n<l.length:=(a0f.mp h).1;have d:=(a0f.mp a).2;have e:=(a0f.mp h).2;exact absurd ((b0d nd).mp<|d.trans e.symm)<|by lia
theorem HV{a:Type}:∀xs:List a,(a1o xs.length).filterMap (λi=>xs[i]?)=xs
 |[]=>rfl|x::xs=>by rw[a0Q,a5J,a2G,List.filterMap_map];show x::(a1o xs.length).filterMap (λi=>(x::xs)[i+1]?)=x::xs;simp only[a8p];rw[HV xs]
noncomputable abbrev a8(v:Int×Int->D)(ps:jq):jx:=ps.map λp=>(bE p,v p)
theorem j0(nd:ps.Nodup)(h:p∈ps):bJ (a8 v ps) (bE p)=a7 (v p):=by refine BM ?_<|a0u.mpr ⟨p,h,rfl⟩;rw[a0x];exact a4F _ (λa b c x=>c<|oK x) nd
theorem HW(h:p∉ps):bJ (a8 v ps) (bE p)=none:=by
 unfold bJ;rw[a2x.mpr]
 .rfl
 .intro x a;obtain⟨z,b,rfl⟩:=a0u.mp a;rw[decide_eq_true_iff];exact λe=>h<|oK e▸b
theorem HX(h:p∉ps):cS (a8 v ps) (bE p) (v p)=a8 v (ps++[p]):=by unfold cS;rw[HW h,if_neg<|by simp];show _=a8W _ _;rw[a0z];rfl
theorem HY(h:bJ K k=b0):cS K k d=K++[(k,d)]:=by unfold cS;rw[h,if_neg<|by simp]
noncomputable def aY(u n:Int)(a:Bool)(p:Int×Int):Bool:=decide (n<b8 u p)==a
noncomputable def b9(u n:Int)(a:Bool)(F:Int×Int->Ly)(q:Int×Int):Ly:=if aY u n a (aI (F q) q)then bR (F q) (bD u n)else F q
theorem HZ(b:∀q,Dih (F q))q:Dih (b9 u n a F q):=by
 unfold b9;split
 .exact w4 (b q)<|w9 u n
 .exact b q
theorem Ia u n a F q:aI (b9 u n a F q) q=if aY u n a (aI (F q) q)then aI (bD u n) (aI (F q) q)else aI (F q) q:=by
 unfold b9;split
 .rw[kQ]
 .rfl
theorem W5(h:p∉G.map (·.1)):gQ G p L=G++[(p,L)]:=by unfold gQ;rw[if_neg λw=>h<|a1B.mp w]
theorem W6 mv M G g:dZ mv M (G++[g])=if mv g.1 then dZ mv M G++[(M g.1,g.2.reverse)]else dZ mv M G:=by unfold dZ;rw[a1D,a0z];cases h:mv g.1<;>simp[h]
theorem Ib{c:Type} [DecidableEq c]:∀{l m:List c},l.Nodup->(∀x∈l,x∈m)->l.length<=m.length
 |[],_,_,_=>a1U _|x::l,m,h,hs=>by rw[a2I]at h;have a:=hs x<|a0P ..;have d:=Ib (l:=l) (m:=m.erase x) h.2 λy b=>(List.mem_erase_of_ne λe:y=x=>h.1<|e▸b).mpr<|hs y<|a0F _ b;rw[List.length_erase_of_mem a]at d;have:=List.length_pos_of_mem a;rw[a0Q];lia
theorem Pil.len(P:Pil qs g G):G.length<=qs.length/\∀x∈G,x.2.length<=qs.length:=by
 constructor
 .have:=Ib P.kd (m:=qs.map g) λp a=>by obtain⟨q,b,e⟩:=P.key.mp a;exact a0u.mpr ⟨q,b,e⟩
  rw[a0d,a0d]at this;exact this
 .intro x c;have:=(P.pm x.1).length_eq;rw[iG P.kd c]at this;rw[this];exact a0Z _ _
theorem Pil.lenZ(P:Pil qs g (GZ Z)):Z.length<=qs.length/\∀z∈Z,1<=z.2.1.length/\z.2.1.length<=qs.length:=by obtain⟨a,c⟩:=P.len;unfold GZ at a;rw[a0d]at a;refine⟨a,λz d=>?_⟩;have b:(z.1,z.2.1)∈GZ Z:=a0u.mpr ⟨z,d,rfl⟩;exact⟨a6w.mpr<|P.ne _ b,c _ b⟩
theorem Ic{a:Type}[DecidableEq a]:∀{l:List a},l.Nodup->∀{p},p∈l->(l.filter λq=>decide<|q=p)=[p]
 |[],_,_,h=>by cases h
 |x::l,nd,p,h=>by
  rw[a2I]at nd;by_cases e:x=p
  .subst e;rw[a1x<|by simp,a3x.mpr];intro y b w;exact nd.1<|of_decide_eq_true w▸b
  .rw[a1u<|by simp[e]];exact Ic nd.2<|(a0D.mp h).resolve_left λw=>e w.symm
noncomputable def i9(qs:jq):Gr:=qs.map λq=>(q,[q])
theorem BQ qs:(i9 qs).map (·.1)=qs:=by unfold i9;rw[a0x];exact a8V _
theorem W7(nd:qs.Nodup):Pil qs (λq=>aI bU q) (i9 qs):=by
 have a:((i9 qs).map (·.1)).Nodup:=by rw[BQ];exact nd
 refine⟨a,λg b=>?_,λp=>?_⟩
 .obtain⟨q,_,rfl⟩:=a0u.mp b;simp
 .have e:(λq=>decide<|aI bU q=p)=λq=>decide (q=p):=funext λq=>by rw[w6]
  rw[e];by_cases h:p∈qs
  .have:=iG a (g:=(p,[p]))<|a0u.mpr ⟨p,h,rfl⟩;rw[this,Ic nd h]
  .rw[tK<|by rw[BQ];exact h,a3x.mpr];intro q c w;exact h<|of_decide_eq_true w▸c
structure Grw(qs:jq)(μ:Hm)(w h:Nat)(F:Int×Int->Ly)(Z:Zr):Prop where
 hw:μ[w]?=a7 (.dT<|a8 (λq=>LD<|F q) qs)
 hi:HI μ h Z
 hh:μ[h]?=a7 (.dT<|aW Z)
 di:∀q,Dih (F q)
 pl:Pil qs (λq=>aI (F q) q)<|GZ Z
noncomputable def jA(n:Int):Int:=if 0<n then 1 else if n<0 then -1 else 0
theorem W8 k x y a b μ(Q:jz):W (f (k+2) "hand_of" [P x y,P a b] μ) Q↔Q (.int<|jA<|iU a b x y-iU a b a b,μ):=by
 rw[VH,W_fin];simp only[w_mSeq,w_mRet,w_mNext,w_mIfS,w_mIfE,w_mSet,w_mCall,w_mCons,aV,w_mOp,bM,aL,aO,w_mTest,wN,w_subI,w_gtI,w_ltI,Hq,Hr,a0H,a0I];generalize iU a b x y-iU a b a b=n;unfold jA;by_cases c:0<n
 .simp[c]
 .by_cases d:n<0<;>simp[c,d]
noncomputable def oO(h:Int)(x:Int):jq:=(a1o (4*h-1).toNat).map λ(j:Nat)=>(x,1+(j:Int))
noncomputable def m8(h:Int)(n:Nat):jq:=(a1o n).flatMap λ(i:Nat)=>oO h<|1+(i:Int)
noncomputable def eJ(w h:Int):jq:=m8 h (4*w-1).toNat
theorem Ie h n:m8 h (n+1)=m8 h n++oO h (1+(n:Int)):=by unfold m8;rw[a7v,a4P];simp
theorem Ig h x:(oO h x).length=(4*h-1).toNat:=by unfold oO;simp
theorem BR h:∀n,(m8 h n).length=n*(4*h-1).toNat
 |0=>by simp[m8]
 |n+1=>by rw[Ie,a0q,BR h n,Ig,a8H]
theorem Ih{h:Int}(b:h<=6)(a:n<=23):n*(4*h-1).toNat<=529:=by have:n*(4*h-1).toNat<=23*23:=a6r a (by lia);lia
theorem W9 h x:((lG 1 (4*h-1).toNat).filter λ_=>b5).map (λd=>P x<|o4 d)=(oO h x).map PP:=by unfold lG oO;rw[show ∀l:List D,l.filter (λ_=>b5)=l from λl=>by simp,a0x,a0x];rfl
theorem BS k w h(hw:1<=w/\w<=6)(q:1<=h/\h<=6)(μ:Hm)(Q:jz)(H:∀a μ',μ<+:μ'->μ'[a]?=a7 (.lst<|(eJ w h).map PP)->μ.length<=a->Q (.loc a,μ')):W (f (k+1) "places_within" [.int w,.int h] μ) Q:=by
 rw[VS,W_fin];simp only[w_mSeq,w_mSet,w_mLst,aV];refine⟨a1U _,?_⟩;simp only[a0H,a0I,w_mForI,wQ,w_mCons,aV,bM,w_mOp,aL,aO,oH];refine⟨by lia,?_⟩;refine Bn (lo:=1) (λi n μ'=>μ<+:μ'/\μ'[μ.length]?=a7 (.lst<|(m8 h i).map PP)/\∃o,n=[a7<|.int w,a7<|.int h,a7<|.loc μ.length,o]) ⟨aU _ _,bK _ _,b0,rfl⟩ ?_ ?_
 .rintro i n m s ⟨l,c,o,rfl⟩;refine⟨_,rfl,?_⟩;simp only[a0H,a0I,w_mDrop];refine iF ?_;simp only[aL,aO];refine⟨jY c,?_⟩;simp only[w_mCons,aV];refine fV (xs:=lG 1 (4*h-1).toNat) (p:=λ_=>b5) (v:=λd=>P (1+(i:Int))<|o4 d) ?_;simp only[wQ,w_mCons,aV,bM,w_mOp,aL,aO,oH];refine⟨by lia,Vk,by simp[lG],by rw[a0O];simp[lG];lia,?_,?_,?_⟩
  .intro d μ' hd l;exact w_mTrue.mpr ⟨rfl,a0E _⟩
  .intro d μ' hd _ l;obtain⟨j,u,rfl⟩:=WG hd;simp only[a0X,a1h,w_mTup,w_mCons,aV,aL,aO,fH,true_and];exact⟨rfl,a0E _⟩
  .intro r b e;rw[W9]at e;have g:((m8 h i).map PP).length+((oO h<|1+(i:Int)).map PP).length<=a0s:=by have p:=Ih (h:=h) q.2 (n:=i+1) (by lia);rw[a8H]at p;rw[a0d,a0d,BR,Ig,a0O];lia
   refine(Vl (aN b c) e g).mpr ?_;refine⟨gM (l.trans b) (a0l _) _,?_,_,rfl⟩;rw[a1a (a0f.mp<|aN b c).1,Ie,a0z]
 .rintro n m ⟨l,c,o,rfl⟩;simp only[w_mRet,aL,aO];exact H _ _ l c<|a0l _
theorem BU(hw:w<=6)(a:h<=6):(eJ w h).length<=529:=by unfold eJ;rw[BR];exact Ih a<|by lia
noncomputable def bT(p:Int×Int):Bool:=if p.1%2=1 then p.2%4==2 else p.1%4==2&&p.2%2==1
theorem Ii k x y μ(Q:jz):W (f (k+1) "is_quarter" [P x y] μ) Q↔Q (.bl<|bT (x,y),μ):=by
 rw[Vz,W_fin];simp only[w_mSeq,w_mRet,w_mNext,w_mIfS,w_mTest,w_mAndV,w_mOp,bM,aL,w_it20,w_it21,w_eqI,GW,sY,sZ];unfold bT;by_cases h:x%2=1
 .simp[h]
 .have e:(x%2==1)=false:=by simpa using h
  simp only[e,h,a0t,if_false];cases x%4==2<;>simp
theorem Xa k i μ(Q:jz):W (f (k+1) "is_whole" [.int i] μ) Q↔Q (.bl b5,μ):=by rw[Hj,W_fin];simp only[w_mRet,w_mAndV,GV,w_mCall,w_mCons,aV,aL,bM,G7,G6,if_true,a2E]
theorem Ij k(h:1<=i/\i<=6)μ(Q:jz)(H:Q (.bl b5,μ)):W (f (k+2) "is_size" [.int i] μ) Q:=by rw[VP,W_fin];simp only[w_mRet,w_mAndV,w_mCall,w_mCons,aV,aL,bM,Xa,if_true,G9,Ve,decide_eq_true h.1,decide_eq_true h.2];exact H
theorem Xb k(hw:1<=w/\w<=6)(a:1<=h/\h<=6)μ(Q:jz)(H:Q (.non,μ)):W (f (k+3) "check_size" [.int w,.int h] μ) Q:=by rw[VQ,W_fin];simp only[w_mIfS,w_mNotT,w_mAndT,w_mTru,w_mCall,w_mCons,aV,aL,aO];refine Ij k hw _ _ ?_;simp only[w_truB,if_true];refine Ij k a _ _ ?_;simp only[w_truB,a2N,a0t,if_false,w_mNext];exact H
theorem xB{kvs:jx}(h:sE i b=a7 (.loc a))(hc:μ[a]?=a7 (.dT kvs))(H:W (c b<|μ.set a<|.dF kvs) λr=>r.2.2[a]?=a7 (.dF kvs)/\Q (r.1,r.2.1,r.2.2.set a<|.dT kvs)):W (d9 i c d b μ) Q:=by
 have e:qD i b μ=a7 (a,kvs):=by simp only[qD,h,hc]
 unfold d9;rw[e,W_bind];refine bB H λr q=>?_;rw[q.1];exact W_some.mpr q.2
theorem xC{l:MI}{μ:Hm}{kvs:jx}{ds:List D}(h:sE i k=a7 (.loc a))(hc:μ[a]?=a7 (.dT kvs))(hit:l k (μ.set a<|.dF kvs)=a7 (dQ<|.tup ds,ds.length+1,μ.set a<|.dF kvs))(I:Nat->aG->Hm->Prop)(o:I 0 k (μ.set a<|.dF kvs))(m:∀n d c b,ds[n]?=a7 d->I n c b->∃e,g d c b=a7 e/\W (body e b) λp=>p.1=.nx/\I (n+1) p.2.1 p.2.2)(j:∀c b,I ds.length c b->b[a]?=a7 (.dF kvs)/\Q (.nx,c,b.set a<|.dT kvs)):W (d9 i (cD l g body) v k μ) Q:=by
 refine xB h hc ?_;rw[w_mForI,hit,W_some];refine Vj (x:=.tup ds) (λ_=>rfl) I o (λn d c b hd u=>?_) j;obtain⟨e,r,s⟩:=m n d c b hd u;refine⟨e,r,bB s λp q=>?_⟩;rw[q.1];exact q.2
theorem BV(h:me b μ=a7 (.loc a,μ1))(g:μ1[a]?=a7 (.dF kvs)):iT me b μ=a7 (dQ<|.tup<|jR kvs,(jR kvs).length+1,μ1):=by simp only[iT,h,a0G,g,jR,a0d]
theorem BW(h:me b μ=a7 (.loc a,μ1))(g:μ1[a]?=a7 (.dF kvs)):mR me b μ=a7 (dQ<|.tup<|fR kvs,(fR kvs).length+1,μ1):=by simp only[mR,h,a0G,g,fR,a0d]
theorem Ik{V:Int×Int->D}:fR (a8 V qs)=qs.map λq=>.tup [PP q,V q]:=by unfold fR a8;rw[a0x];rfl
theorem xD Z:fR (aW Z)=Z.map λz=>.tup [PP z.1,.loc z.2.2]:=by unfold fR aW;rw[a0x];rfl
theorem xE Z:jR (aW Z)=(Z.map (·.1)).map PP:=by unfold jR aW;rw[a0x,a0x];rfl
theorem lJ(h:l<μ.length)(t:Hm):(μ++t).set l c=μ.set l c++t:=a4E _ _ h
theorem qO(μ:Hm)(h:l<μ.length)(t:Hm):(μ.set l c++t)[l]?=a7 c:=by rw[a0W<|by rw[a1d];exact h,a1a h]
theorem Il(μ:Hm)l c d d'(t:Hm):(μ.set l c++d::t).set μ.length d'=μ.set l c++d'::t:=by rw[a4x _ _<|by rw[a1d];exact a0l _,a1d,a5O];rfl
theorem BX(μ:Hm)l c d(t:Hm):(μ.set l c++d::t)[μ.length]?=a7 d:=by rw[a1I<|by rw[a1d];exact a0l _,a1d,a5O];rfl
theorem BY{μ:Hm}(h:μ[l]?=a7 c)(t:Hm):(μ.set l a++t).set l c=μ++t:=by have b:l<μ.length:=(a0f.mp h).1;rw[a4E _ _<|by rw[a1d];exact b,a6Q,tI h]
structure OnL(e:Int×Int)(u n:Int):Prop where
 u0:0<=u/\u<4
 num:∀p:Int×Int,iU e.1 e.2 p.1 p.2=b8 u p
 at_:b8 u e=n
 mir:∀p,bO p e=aI (bD u n) p
 mirZ:dR e=bD u n
noncomputable def sd(a:Bool):Int:=if a then 1 else -1
theorem BZ(h:b8 u p≠n)a:(jA (b8 u p-n)==sd a)=aY u n a p:=by
 unfold jA sd aY;by_cases b:n<b8 u p
 .have:0<b8 u p-n:=by lia
  rw[if_pos this,decide_eq_true b];cases a<;>rfl
 .have c:¬ 0<b8 u p-n:=by lia
  have d:b8 u p-n<0:=by lia
  rw[if_neg c,if_pos d,decide_eq_false b];cases a<;>rfl
theorem xF k(E:OnL e u n)μ(Q:jz):W (f (k+2) "hand_of" [PP p,PP e] μ) Q↔Q (.int<|jA<|b8 u p-n,μ):=by obtain⟨x,y⟩:=e;obtain⟨a,b⟩:=p;have c:=E.num (a,b);have d:=E.num (x,y);have g:=E.at_;dsimp only at c d;have:=W8 k a b x y μ Q;rw[c,d,g]at this;exact this
theorem Xc k(E:OnL e u n)μ(Q:jz):W (f (k+2) "mirrored" [PP p,PP e] μ) Q↔Q (PP<|aI (bD u n) p,μ):=by obtain⟨x,y⟩:=e;obtain⟨a,b⟩:=p;have:=BB k a b x y μ Q;rw[E.mir (a,b)]at this;exact this
theorem Xd k(E:OnL e u n)μ(Q:jz):W (f (k+3) "mirror_in" [PP e] μ) Q↔Q (LD<|bD u n,μ):=by obtain⟨x,y⟩:=e;have:=Hz k x y μ Q;rw[E.mirZ]at this;exact this
theorem Xe k(d:∀q,Dih (F q))(E:OnL e u n)(h:b8 u (aI (F q) q)≠n)(H:W (kI (.loc m) (PP q) (LD<|b9 u n a F q) g) λb=>∀x,R (.nx,[c,a7<|PP e,a7<|.int<|sd a,a7<|LD<|bD u n,a7<|.loc m,a7<|PP q,a7<|LD<|F q,x],b)):
  W (Bx (k+3) [c,a7<|PP e,a7<|.int<|sd a,a7<|LD<|bD u n,a7<|.loc m,a7<|PP q,a7<|LD<|F q,x] g) R:=by
 refine cG<|bS<|eP<|bQ<|cJ rfl<|(BJ (k+2) (F q) (d q) q.1 q.2 _ _).mpr ⟨_,rfl,(xF (k+1) E _ _).mpr ⟨_,rfl,w_eqI.mpr ?_⟩⟩;rw[BZ h];unfold b9 at H;refine w_mPut.mpr<|w_mIfE.mpr ?_;cases hc:aY u n a (aI (F q) q)with
 |true=>rw[hc,if_pos rfl]at H;exact⟨_,rfl,(if_pos rfl).mpr<|cJ rfl<|(HA (k+1) (F q) (bD u n) (d q) (w9 u n) _ _).mpr ⟨_,rfl,_,rfl,bB H λb z=>z _⟩⟩|false=>rw[hc,if_neg<|by decide]at H;exact⟨_,rfl,(if_neg a0K).mpr ⟨_,rfl,_,rfl,_,rfl,bB H λb z=>z _⟩⟩
theorem Xf k(p:∀q,Dih (F q))(nd:qs.Nodup)(w:qs.length<=100)(E:OnL e u n)(s:∀q∈qs,b8 u (aI (F q) q)≠n)(g:μ[l]?=a7 (.dT<|a8 (λq=>LD<|F q) qs))(Q:jz)(H:Q (.loc μ.length,μ++[.dT<|a8 (λq=>LD<|b9 u n a F q) qs])):W (f (k+4) "folded_layings" [.loc l,PP e,.int<|sd a] μ) Q:=by
 have b:l<μ.length:=(a0f.mp g).1;refine fX (V9 (k+3) _ _ _ μ)<|cG<|cJ rfl<|(Xd k E _ _).mpr<|cG<|w_mDNewT.mpr<|iW ?_;have o:(μ++[C.dT []])[l]?=a7 (.dT<|a8 (λq=>LD<|F q) qs):=by rw[a0W b];exact g
 refine xC (body:=Bx (k+3)) rfl o (BW (a:=l) rfl<|by rw[lJ b];exact qO μ b _) (λi j h=>∃x y z,j=[a7<|.loc l,a7<|PP e,a7<|.int<|sd a,a7<|LD<|bD u n,a7<|.loc μ.length,x,y,z]/\h=μ.set l (.dF<|a8 (λq=>LD<|F q) qs)++[.dT<|a8 (λq=>LD<|b9 u n a F q)<|qs.take i])
  ⟨b0,b0,b0,rfl,lJ b _⟩ (λi d j h hd m=>?_) λj h m=>?_
 .obtain⟨x,y,z,rfl,rfl⟩:=m;rw[Ik,a0v]at hd;obtain⟨q,c,rfl⟩:=a0g.mp hd;have r:i<qs.length:=(a0f.mp c).1;have v:bJ (a8 (λq=>LD<|b9 u n a F q)<|qs.take i) (bE q)=none:=HW<|qN nd c;refine⟨_,rfl,Xe k p E (s q<|a0S c)<|(oG (BX _ _ _ _ _) (cX q)<|by rw[a0d,a1w,a0O];lia).mpr λx=>⟨rfl,_,_,_,rfl,?_⟩⟩;rw[HY v,Il];unfold a8;rw[gT c,a0z];rfl
 .obtain⟨x,y,z,rfl,rfl⟩:=m;refine⟨qO μ b _,rfl,eY ⟨_,rfl,?_⟩⟩;rw[BY g,Ik,a0d,a1N];exact H
noncomputable def dC(c:Nat):Zr->Zr
 |[]=>[]|z::Z=>(z.1,z.2.1,c)::dC (c+1) Z
theorem qP z:∀Z c,dC c (Z++[z])=dC c Z++[(z.1,z.2.1,c+Z.length)]
 |[],c=>rfl|y::Z,c=>by show(y.1,y.2.1,c)::dC (c+1) (Z++[z])=(y.1,y.2.1,c)::(dC (c+1) Z++_);rw[qP z Z<|c+1,a0Q,show c+1+Z.length=c+(Z.length+1) by lia]
theorem qQ:∀Z c,GZ (dC c Z)=GZ Z
 |[],_=>rfl|z::Z,c=>by show(z.1,z.2.1)::GZ (dC (c+1) Z)=(z.1,z.2.1)::GZ Z;rw[qQ Z<|c+1]
theorem B0(h:GZ Z=GZ Y):Z.map (·.1)=Y.map (·.1):=by rw[<- i7,<- i7,h]
theorem B1:∀Z c(μ t:Hm),c=μ.length->∀z∈dC c Z,c<=z.2.2/\(μ++(Z.map λz=>C.lst<|z.2.1.map PP)++t)[z.2.2]?=a7 (.lst<|z.2.1.map PP)
 |[],_,_,_,_,z,a=>nomatch a|y::Z,c,μ,t,hc,z,a=>by
  rcases a0D.mp a with rfl|a
  .refine⟨a0l _,?_⟩;rw[a3o,a1I<|by rw[hc];exact a0l _,hc,a5O];rfl
  .have:=B1 Z (c+1) (μ++[.lst<|y.2.1.map PP]) t (by rw[hc,a0q];rfl) z a;refine⟨by lia,?_⟩;rw[<- this.2,a0r,a3o μ [_],a8I]
structure Pz(μ:Hm)(n a:Nat)(Z:Zr):Prop where
 dic:μ[a]?=a7 (.dT<|aW Z)
 kd:(Z.map (·.1)).Nodup
 at_:∀z∈Z,n<=z.2.2/\μ[z.2.2]?=a7 (.lst<|z.2.1.map PP)
theorem B2{ds:List D}{μ:Hm}(h:μ[i]?=a7 (.lst ds))(b:i≠p):(μ.set p c++d::L)[i]?=a7 (.lst ds):=by have a:=(a0f.mp h).1;rw[a0W<|by rw[a1d];exact a,a0p<|a1j b];exact h
theorem HI.nd(I:HI μ p Z)(h:Z[i]?=a7 z):z.1∉(Z.take i).map (·.1):=by have:=I.kd;rw[a8j];exact qN this<|by rw[a0v,h];rfl
theorem Im{μ:Hm}{Y:Zr}(g:q∉Y.map (·.1))(h:Y.length<=1000)Q(H:Q (μ.set p c++(.dT (aW<|dC (μ.length+1)<|Y++[(q,L,0)])::(Y++[(q,L,0)]:Zr).map λz=>C.lst<|z.2.1.map PP))):
  W (kI (.loc μ.length) (PP q) (.loc (μ.set p c++(.dT (aW<|dC (μ.length+1) Y)::Y.map λz=>C.lst<|z.2.1.map PP)).length)<|(μ.set p c++(.dT (aW<|dC (μ.length+1) Y)::Y.map λz=>C.lst<|z.2.1.map PP))++[.lst<|L.map PP]) Q:=by
 have d:(μ.set p c++(.dT (aW<|dC (μ.length+1) Y)::Y.map λz=>C.lst<|z.2.1.map PP)).length=μ.length+1+Y.length:=by rw[a0q,a1d,a0Q,a0d];lia
 have b:(dC (μ.length+1) Y).map (·.1)=Y.map (·.1):=B0<|qQ _ _;have a:(dC (μ.length+1) Y).length=Y.length:=by simpa using congrArg a1n b
 rw[d,a3o,a0X];refine(oG (BX _ _ _ _ _) (cX q)<|by rw[w8,a,a0O];lia).mpr ?_;rw[HY<|BN<|by rw[b];exact g,Il];have e:aW (dC (μ.length+1) Y)++[(bE q,D.loc<|μ.length+1+Y.length)]=aW (dC (μ.length+1)<|Y++[(q,L,0)]):=by rw[qP];unfold aW;rw[a0z];rfl
 rw[e];rw[a0z]at H;exact H
theorem Xg k(I:HI μ p Z)(g:μ[p]?=a7 (.dT<|aW Z))(A:Z.length<=1000)(E:OnL e u n)(w:∀z∈Z,b8 u z.1≠n)Q(H:∀x y,Q (.nx,[a7<|.loc p,a7<|PP e,a7<|.int<|sd a,a7<|.bl o,a7<|.loc μ.length,x,y,b0,b0,b0],μ++(.dT (aW<|dC (μ.length+1)<|Z.filter λz=>!aY u n a z.1)::(Z.filter λz=>!aY u n a z.1).map λz=>C.lst<|z.2.1.map PP))):
  W (d9 0 (cD (mR<|aA 0) (c4 [5,6])<|aZ (aS<|aC (aT b5) (aF (f (k+2) "hand_of")<|aB (aA 5)<|aB (aA 1) aD)<|aA 2) (dN (aA 4) (aA 5)<|aF fS<|aB (aA 6) aD) bA) cC [a7<|.loc p,a7<|PP e,a7<|.int<|sd a,a7<|.bl o,a7<|.loc μ.length,b0,b0,b0,b0,b0]<|μ++[.dT []]) Q:=by
 have b:p<μ.length:=(a0f.mp g).1;have r:(μ++[C.dT []])[p]?=a7 (.dT<|aW Z):=by rw[a0W b];exact g
 refine xC rfl r (BW (a:=p) rfl<|by rw[lJ b];exact qO μ b _) (λi l j=>∃x y,l=[a7<|.loc p,a7<|PP e,a7<|.int<|sd a,a7<|.bl o,a7<|.loc μ.length,x,y,b0,b0,b0] /\
   j=μ.set p (.dF<|aW Z)++(.dT (aW<|dC (μ.length+1)<|(Z.take i).filter λz=>!aY u n a z.1)::((Z.take i).filter λz=>!aY u n a z.1).map λz=>C.lst<|z.2.1.map PP))
  ⟨b0,b0,rfl,lJ b _⟩ (λi d l j hd m=>?_) λl j m=>?_
 .obtain⟨x,y,rfl,rfl⟩:=m;rw[xD,a0v]at hd;obtain⟨z,q,rfl⟩:=a0g.mp hd;refine⟨_,rfl,?_⟩;have c:=a0S q;have ne:∀{x y:Int}{μ:Hm}{Q:jz},W (aT b5 (.int x) (.int y) μ) Q↔Q (.bl<|!(x==y),μ):=W_some;simp only[mB,a0H,a0I,w_mIfS,w_mTest,w_mOp,w_mCall,w_mCons,aV,aL,aO,xF k E,ne,BZ<|w z c];have e:(Z.take<|i+1).filter (λz=>!aY u n a z.1)=(Z.take i).filter (λz=>!aY u n a z.1)++[z].filter (λz=>!aY u n a z.1):=by rw[gT q,a1D]
  cases hc:aY u n a z.1 with
  |true=>simp only[a2N,a0t,if_false,w_mNext];refine⟨trivial,_,_,rfl,?_⟩;rw[e,a1u<|by rw[hc];decide,a2J,a1O]|false=>
   simp only[a2E,if_true,w_mPut,w_mCall,w_mCons,aV,aL,aO];refine(Hd<|B2 (I.at_ z c)<|I.ne (.inl g) c).mpr ?_;refine Im (λh=>I.nd q ?_) (by have:=a0Z (λz:(Int×Int)×jq×Nat=>!aY u n a z.1)<|Z.take i;rw[a1w]at this;lia) _ ⟨trivial,_,_,rfl,?_⟩
   .obtain⟨y,s,v⟩:=a0u.mp h;exact a0u.mpr ⟨y,(a0Y.mp s).1,v⟩
   .rw[e,a1x<|by rw[hc];rfl,a2J,qP,qP,a0z,a0z];rfl
 .obtain⟨x,y,rfl,rfl⟩:=m;refine⟨qO μ b _,?_⟩;rw[BY g,xD,a0d,a1N];exact H x y
theorem Pz.ne(I:Pz μ n a Z)(hz:z∈Z):z.2.2≠a:=λe=>by have b:=(I.at_ z hz).2;rw[e,I.dic]at b;cases b
theorem Pz.keep(I:Pz μ n a Z)(h:∀(c:Nat)y,μ[c]?=a7 y->μ'[c]?=a7 y):Pz μ' n a Z:=⟨h _ _ I.dic,I.kd,λz hz=>⟨(I.at_ z hz).1,h _ _ (I.at_ z hz).2⟩⟩
theorem Pz.put(I:Pz μ n a Z)(i:μ[b]?=a7 (.lst<|L.map PP))(j:n<=b):
  ∃h,cS (aW Z) (bE p) (.loc b)=aW h/\GZ h=gQ (GZ Z) p L/\Pz (μ.set a<|.dT<|aW h) n a h:=by
 have bs:b≠a:=λe=>by rw[e,I.dic]at i;cases i
 by_cases d:p∈Z.map (·.1)
 .refine⟨Z.map λy=>if y.1=p then(y.1,L,b)else y,WW d I.kd,?_,eQ I.dic,?_,λy c=>?_⟩
  .unfold gQ;rw[i7,if_pos<|a1B.mpr d];unfold GZ;rw[a0x,a0x];refine a1v λz _=>?_;show((if z.1=p then(z.1,L,b)else z).1,(if z.1=p then(z.1,L,b)else z).2.1)=if z.1=p then(z.1,L)else(z.1,z.2.1)
   split<;>rfl
  .have e:(Z.map λy=>if y.1=p then(y.1,L,b)else y).map (·.1)=Z.map (·.1):=by rw[a0x];refine a1v λy _=>?_;show(if y.1=p then(y.1,L,b)else y).1=y.1;split<;>rfl
   rw[e];exact I.kd
  .obtain⟨x,g,rfl⟩:=a0u.mp c;split
   .rw[a0p<|a1j bs];exact⟨j,i⟩
   .rw[a0p<|a1j<|I.ne g];exact I.at_ x g
 .refine⟨Z++[(p,L,b)],WV d,?_,eQ I.dic,?_,λy c=>?_⟩
  .unfold gQ;rw[i7,if_neg λw=>d<|a1B.mp w];unfold GZ;rw[a0z];rfl
  .rw[a0z,a3n];exact⟨I.kd,by simp,λx g y c e=>by
    simp only[a0r,a3S,a0N]at c;rw[e,c]at g;exact d g⟩
  .rcases a1t.mp c with c|c
   .rw[a0p<|a1j<|I.ne c];exact I.at_ y c
   .rw[a0N.mp c,a0p<|a1j bs];exact⟨j,i⟩
theorem Io(I:Pz μ n a Z)(h:μ[b]?=a7 (.lst<|L.map PP))(i:n<=b)(j:Z.length<=10000)Q(H:∀c,GZ c=gQ (GZ Z) p L->Pz (μ.set a<|.dT<|aW c) n a c->Q (μ.set a<|.dT<|aW c)):W (kI (.loc a) (PP p) (.loc b) μ) Q:=by
 obtain⟨c,e,g,d⟩:=I.put (p:=p) h i;refine(oG I.dic (cX p)<|by rw[w8,a0O];lia).mpr ?_;rw[e];exact H c g d
theorem Xh(a:(Z.map (·.1)).Nodup)(h:z∈Z):cE (GZ Z) z.1=z.2.1:=iG (by rw[i7];exact a) (g:=(z.1,z.2.1))<|a0u.mpr ⟨z,h,rfl⟩
theorem Xi(I:Pz μ n a Z)(hd:μ[d]?=a7 (.lst [])):∃c,kL (.loc a) [PP p,.loc d] μ=a7 (.loc c,μ)/\μ[c]?=a7 (.lst<|(cE (GZ Z) p).map PP):=by
 by_cases b:p∈Z.map (·.1)
 .obtain⟨z,e,rfl⟩:=HJ b;refine⟨z.2.2,?_,by rw[Xh I.kd e];exact(I.at_ z e).2⟩;simp only[kL,I.dic,cX,a0M,tJ I.kd e,Option.getD_some]
 .refine⟨d,?_,by rw[tK<|by rw[i7];exact b];exact hd⟩;simp only[kL,I.dic,cX,a0M,BN b,a6P]
theorem B3(h:∀x∈G,x.2.length<=B)p:(cE G p).length<=B:=by
 unfold cE;split
 .rename_i g a;exact h g<|a2K a
 .exact a1U _
theorem Xj(h:∀x∈G,x.2.length<=B)(d:g.2.length<=100):(c7 o G g).length<=G.length+1/\∀x∈c7 o G g,x.2.length<=B+100:=by
 have b:(if o then cE G g.1++g.2 else g.2++cE G g.1).length<=B+100:=by have:=B3 h g.1;split<;>rw[a0q]<;>lia
 unfold c7 gQ;generalize(if o then cE G g.1++g.2 else g.2++cE G g.1)=L at b;split
 .refine⟨by rw[a0d];lia,λx a=>?_⟩;obtain⟨y,c,rfl⟩:=a0u.mp a;split
  .exact b
  .exact a1l (h y c)<|by lia
 .refine⟨by rw[a0q];exact a0l _,λx a=>?_⟩;rcases a1t.mp a with a|a
  .exact a1l (h x a)<|by lia
  .rw[a0N.mp a];exact b
theorem B4 o:∀(K S:Gr)B,(∀x∈S,x.2.length<=B)->(∀x∈K,x.2.length<=100)->(K.foldl (c7 o) S).length<=S.length+K.length/\∀x∈K.foldl (c7 o) S,x.2.length<=B+100*K.length
 |[],S,B,h,_=>⟨a0l _,h⟩|g::K,S,B,h,hk=>by obtain⟨d,b⟩:=Xj (o:=o) h<|hk g<|a0P ..;obtain⟨e,c⟩:=B4 o K (c7 o S g) (B+100) b λx a=>hk x<|a0F _ a;rw[a3z,a0Q];exact⟨by lia,λx a=>by have:=c x a;lia⟩
theorem Xk{Z:Zr}(h:Z[i]?=a7 z):GZ (Z.take<|i+1)=GZ (Z.take i)++[(z.1,z.2.1)]:=by unfold GZ;rw[gT h,a0z];rfl
theorem Ip mv Z:GZ (Z.filter λz=>!mv z.1)=fI mv (GZ Z):=by unfold GZ fI;rw[a4I];rfl
theorem Xl o(g:Z.length<=100)(c:∀z∈Z,z.2.1.length<=100)i:((dZ mv M<|GZ<|Z.take i).foldl (c7 o)<|fI mv<|GZ Z).length<=200/\∀x∈(dZ mv M<|GZ<|Z.take i).foldl (c7 o) (fI mv<|GZ Z),x.2.length<=10100:=by
 have e:∀x∈GZ Z,x.2.length<=100:=λx a=>by obtain⟨z,b,rfl⟩:=a0u.mp a;exact c z b
 have k:(dZ mv M<|GZ<|Z.take i).length<=100:=by unfold dZ;rw[a0d];refine a1l (a0Z _ _) ?_;rw[oM,a1w];lia
 obtain⟨j,d⟩:=B4 o (dZ mv M<|GZ<|Z.take i) (fI mv<|GZ Z) 100 (λx a=>e x (a0Y.mp a).1) λx a=>by obtain⟨y,h,rfl⟩:=a0u.mp a;rw[a2U];have:=(a0Y.mp h).1;obtain⟨z,b,rfl⟩:=a0u.mp this;exact c z<|a6f b
 have l:(fI mv<|GZ Z).length<=100:=by refine a1l (a0Z _ _) ?_;rw[oM];exact g
 exact⟨by lia,λx a=>by have:=d x a;lia⟩
theorem Xm{S:Gr}{Z:Zr}(h:Z[i]?=a7 z):
  (dZ mv M<|GZ<|Z.take<|i+1).foldl (c7 o) S=if mv z.1 then c7 o ((dZ mv M<|GZ<|Z.take i).foldl (c7 o) S) (M z.1,z.2.1.reverse)else(dZ mv M<|GZ<|Z.take i).foldl (c7 o) S:=by
 rw[Xk h,W6];dsimp only;split
 .rw[a6S];rfl
 .rfl
theorem Xn{o a:Option b}{Q:b->Prop}(e:o=a)(h:W a Q):W o Q:=e▸h
theorem Iq{b μ:Hm}{S:Zr}o(x:b<+:μ)(w:b.length<=m)(A:n<=μ.length)(J:Pz μ n m S)(d:μ[r]?=a7 (.lst<|L.map PP))(z:L.length<=100)(v:S.length<=10000)(hA:(cE (GZ S) g).length<=10100):
  ∃c,kL (.loc m) [PP g,.loc μ.length] (μ++[.lst []])=a7 (.loc c,μ++[.lst []])/\∀Q,(∀j a,b<+:a->Pz a n m j->GZ j=c7 o (GZ S) (g,L)->Q a)->W (bI (if o then .loc c else .loc r) (if o then .loc r else .loc c)<|μ++[.lst []]) λp=>W (kI (.loc m) (PP g) p.1 p.2) Q:=by
 have i:Pz (μ++[C.lst []]) n m S:=J.keep λc y h=>aN (aU _ _) h;obtain⟨c,u,k⟩:=Xi (d:=μ.length) i (p:=g)<|bK _ _;refine⟨c,u,λQ H=>?_⟩;have d:=aN (aU μ<|C.lst []) d;have fin:∀{xs:List D},xs=(if o then cE (GZ S) g++L else L++cE (GZ S) g).map PP->W (kI (.loc m) (PP g) (.loc (μ++[C.lst []]).length)<|μ++[C.lst []]++[.lst xs]) Q:=λe=>by subst e;exact Io (i.keep λc y h=>aN (aU _ _) h) (bK _ _) (by rw[a0q];lia) v _ λq s l=>H q _ (gM (x.trans<|(aU _ _).trans<|aU _ _) w _) l s
 cases o with
 |true=>exact(Bq k d<|by rw[a0d,a0d,a0O];lia).mpr (fin (a0z ..).symm)|false=>exact(Bq d k<|by rw[a0d,a0d,a0O];lia).mpr<|fin (a0z ..).symm
theorem Xo k{b μ:Hm}{S:Zr}{L:jq}(E:OnL e u v)(M:b<+:μ)(I:b.length<=m)(K:n<=μ.length)(J:Pz μ n m S)(hc:μ[c]?=a7 (.lst<|L.map PP))(B:L.length<=100)(G:S.length<=10000)(hA:(cE (GZ S)<|aI (bD u v) z).length<=10100)(H:∀g a x y t,b<+:a->Pz a n m g->GZ g=c7 o (GZ S) (aI (bD u v) z,L.reverse)->R (.nx,[l,a7<|PP e,r,a7<|.bl o,a7<|.loc m,a7<|PP z,a7<|.loc c,x,y,t],a)):W (Hh (k+2) [l,a7<|PP e,r,a7<|.bl o,a7<|.loc m,a7<|PP z,a7<|.loc c,x,y,t] μ) R:=by
 have i:=aU μ<|C.lst (L.map PP).reverse;have j:=J.keep λc y h=>aN i h;obtain⟨d,A,w⟩:=Iq (g:=aI (bD u v) z) (L:=L.reverse) o (M.trans i) I (a1l K i.length_le) j (by rw[b0c];exact bK _ _) (by rw[a2U];exact B) G hA;exact cG<|cJ rfl<|(Xc k E _ _).mpr<|cG<|cJ rfl<|(Vt hc).mpr<|cG<|BO ⟨_,rfl,BP j.dic,_,rfl,_,A,w_mPut.mpr<|Xn (by cases o<;>rfl)<|bB (w _ λg a q s e=>H g a _ _ _ q s e) λp x=>⟨_,rfl,_,rfl,x⟩⟩
inductive FpI (μ:Hm)(p:Nat)(Z:Zr)(e:Int×Int)(u n:Int)(a o:Bool):Nat->aG->Hm->Prop
 |mk {i:Nat}{μ':Hm}{S:Zr}{x y gl co th:Option D}(pre:μ.set p (.dF<|aW Z)<+:μ')(J:Pz μ' μ.length μ.length S)(eG:GZ S=(dZ (aY u n a) (aI<|bD u n)<|GZ<|Z.take i).foldl (c7 o) (fI (aY u n a)<|GZ Z)):FpI μ p Z e u n a o i [a7<|.loc p,a7<|PP e,a7<|.int<|sd a,a7<|.bl o,a7<|.loc μ.length,x,y,gl,co,th] μ'
theorem Xp k(I:HI μ p Z)(g:μ[p]?=a7 (.dT<|aW Z))(N:Z.length<=100)(A:∀z∈Z,z.2.1.length<=100)(E:OnL e u n)(B:∀z∈Z,b8 u z.1≠n)(Q:jz)(H:∀S h,μ<+:h->Pz h μ.length μ.length S->GZ S=oN (aY u n a) (aI<|bD u n) o (GZ Z)->Q (.loc μ.length,h)):W (f (k+3) "folded_piles" [.loc p,PP e,.int<|sd a,.bl o] μ) Q:=by
 have c:p<μ.length:=(a0f.mp g).1;refine fX (Wa (k+2) _ _ _ _ μ) (cG<|w_mDNewT.mpr<|iW<|Xg k I g (by lia) E B _ λx y=>⟨rfl,iW ?_⟩);generalize hS:(Z.filter λz=>!aY u n a z.1)=S0;have M:(μ++(C.dT (aW<|dC (μ.length+1) S0)::S0.map λz=>C.lst<|z.2.1.map PP))[p]?=a7 (.dT<|aW Z):=by rw[a0W c];exact g
 have s:(S0.map (·.1)).Nodup:=by rw[<- hS];exact(a3X.map _).nodup I.kd
 refine xC rfl M (BW (a:=p) rfl<|by rw[lJ c];exact qO μ c _) (FpI μ p Z e u n a o) (.mk (S:=dC (μ.length+1) S0) (by rw[lJ c];exact a4Z _ _) ?_ ?_) (λi d w h hd r=>?_) λw h r=>?_
 .rw[lJ c];refine⟨BX _ _ _ _ _,by rw[B0<|qQ _ _];exact s,λz m=>?_⟩;have:=B1 S0 (μ.length+1) (μ.set p (.dF<|aW Z)++[.dT<|aW<|dC (μ.length+1) S0]) [] (by rw[a0q,a1d];rfl) z m;refine⟨by lia,?_⟩;rw[a1O,a3o]at this;exact this.2
 .rw[qQ,<- hS,Ip];rfl
 .obtain⟨b,J,l⟩:=r;rename_i S x y gl K T;rw[xD,a0v]at hd;obtain⟨z,m,rfl⟩:=a0g.mp hd;have j:=a0S m;have q:=Xm (mv:=aY u n a) (M:=aI (bD u n)) (o:=o) (S:=fI (aY u n a) (GZ Z)) m;refine⟨_,rfl,w_mIfS.mpr<|iX<|bS<|cJ rfl<|(xF k E _ _).mpr ⟨_,rfl,w_eqI.mpr ⟨_,rfl,?_⟩⟩⟩;rw[BZ<|B z j];cases hc:aY u n a z.1 with
  |false=>rw[hc]at q;exact w_mNext.mpr ⟨rfl,.mk b J<|l.trans q.symm⟩|true=>rw[hc,if_pos rfl,<- l]at q;obtain⟨R,v⟩:=Xl (mv:=aY u n a) (M:=aI (bD u n)) o N A i;refine Xo k E b (by rw[a1d];exact a0l _) (by have:=b.length_le;rwa [a1d]at this) J (aN b<|by rw[a0p<|a1j<|I.ne (.inl g) j];exact I.at_ z j) (A z j) (by rw[<- oM,l];lia) (B3 (by rw[l];exact v) _) λU h _ _ _ O G L=>⟨rfl,.mk O G<|L.trans q.symm⟩
 .obtain⟨b,J,l⟩:=r;rename_i S x y gl K T;refine⟨aN b<|a1a c,rfl,eY ⟨_,rfl,H S _ (xA g b) ⟨?_,J.kd,λz m=>?_⟩ ?_⟩⟩
  .rw[a0p<|by lia];exact J.dic
  .have:=J.at_ z m;rw[a0p<|by lia];exact this
  .rw[l,xD,a0d,a1N];rfl
theorem Ir k p u(a:0<=u/\u<4)(μ:Hm)(Q:jz)(H:∀μ',μ<+:μ'->Q (.int<|b8 u p,μ')):W (f (k+1) "_law_value" [PP p,.int u] μ) Q:=by rw[Wn];exact WI<|WH rfl rfl<|(gP (bK _ _)<|W3 a).mpr<|H _<|aU _ _
theorem qR k A(hA:Dih A)p μ(Q:jz):W (f (k+1) "_law_led" [LD A,PP p] μ) Q↔Q (PP<|aI A p,μ):=by obtain⟨a,b,c,d⟩:=hA.sm;rw[Wl,W_fin];simp only[w_mSeq,w_mAsg,aL,w_gTup6,a0H,a0I,w_mRet,w_mTup,w_mCons,aV,w_mOp,bM,w_it20,w_it21,aO,iY a,iY b,iY c,iY d,w_addI,fH,true_and];rfl
theorem Xq A n:bR A (bD 0 n)=⟨A.a,A.b,-A.c,-A.d,A.e,2*n-A.g⟩/\bR A (bD 1 n)=⟨-A.a,-A.b,A.c,A.d,2*n-A.e,A.g⟩/\bR A (bD 2 n)=⟨A.c,A.d,A.a,A.b,A.g+n,A.e-n⟩/\bR A (bD 3 n)=⟨-A.c,-A.d,-A.a,-A.b,n-A.g,n-A.e⟩:=by refine⟨?_,?_,?_,?_⟩<;>(unfold bR bD;simp only[if_true,if_false,Int.reduceEq,Ly.mk.injEq];lia)
theorem Iu k A u n(e:0<=u/\u<4)μ(Q:jz):W (f (k+1) "_law_over" [LD A,.tup [.int u,.int n]] μ) Q↔Q (LD<|bR A<|bD u n,μ):=by
 obtain⟨a,b,c,d⟩:=Xq A n;refine BA ?_;rw[Wm];have:u=0\/u=1\/u=2\/u=3:=by lia
 rcases this with rfl|rfl|rfl|rfl
 .rw[a];exact⟨_,rfl,rfl⟩
 .rw[b];exact⟨_,rfl,rfl⟩
 .rw[c];exact⟨_,rfl,rfl⟩
 .rw[d];exact⟨_,rfl,rfl⟩
noncomputable def Iv(n:Nat):List Nat:=a8A (a2S b0 b0 (a7<|-1) n).1 (a2S b0 b0 (a7<|-1) n).2.1 (a2S b0 b0 (a7<|-1) n).2.2
theorem Xr:∀n∈a1o 101,Iv n=(a1o n).reverse:=by decide +kernel
theorem Iw(xs:List a)(h:xs.length<=100):dU xs b0 b0 (a7<|-1)=xs.reverse:=by have e:=Xr xs.length (a2u.mpr<|by lia);unfold Iv at e;unfold dU;rw[e,List.filterMap_reverse,HV]
theorem Xs{L:jq}{Q:jz}(b:L.length<=100)(d:a c μ=a7 (.loc l,μ))(g:μ[l]?=a7 (.lst<|L.map PP))(H:Q (.loc μ.length,μ++[.lst<|L.reverse.map PP])):
  W (mL a gZ gZ (iM<|cK<|mC<|.int 1) c μ) Q:=by
 refine Bs ?_;rw[d,W_some];refine⟨l,rfl,?_⟩;refine W_some.mpr<|W_some.mpr<|W_some.mpr ⟨show(a7 (-1):Option Int)≠a7 0 by decide,_,g,?_,?_⟩
 .show(dU (L.map PP) b0 b0<|a7<|-1).length<=a0s;rw[Iw _<|by rw[a0d];exact b,a2U,a0d,a0O];lia
 .show Q (.loc μ.length,μ++[.lst<|dU (L.map PP) b0 b0<|a7<|-1]);rw[Iw _<|by rw[a0d];exact b,<- b0c];exact H
theorem Iy q μ:∀ps:jq,k5 μ (PP q) (ps.map PP)=a7 (ps.contains q)
 |[]=>rfl|p::ps=>by
  show(cI 8 μ (PP p)<|PP q).bind (λb=>(k5 μ (PP q)<|ps.map PP).map λc=>b||c)=_;rw[G4 6,Iy q μ ps,List.contains_cons];have:(p==q)=(q==p):=by rw[a2c,beq_iff_eq,beq_iff_eq];exact eq_comm
  rw[this];rfl
theorem Iz{ps:jq}{Q:jz}(h:μ[a]?=a7 (.lst<|ps.map PP)):W (cL b (PP q) (.loc a) μ) Q↔Q (.bl<|if b then !(ps.contains q)else ps.contains q,μ):=by
 have:cL b (PP q) (.loc a) μ=a7 (.bl<|if b then !(ps.contains q)else ps.contains q,μ):=by
  have c:bF μ (.loc a)=a7 (ps.map PP):=by simp only[bF,h]
  simp only[cL,mF,h,c,a0G,Iy,a0M]
 rw[this];exact W_some
theorem Xu{V:Int×Int->D}q(a:q∈qs)(nd:qs.Nodup)d:cS (a8 V qs) (bE q) d=a8 (λx=>if x=q then d else V x) qs:=by
 unfold cS;rw[j0 nd a,if_pos<|show(a7<|V q).isSome=b5 from rfl];unfold a8;rw[a0x];refine a1v λx _=>?_;show(if bE x=bE q then(bE x,d)else(bE x,V x))=(bE x,if x=q then d else V x);by_cases e:x=q
 .rw[if_pos<|by rw[e],if_pos e]
 .rw[if_neg λh=>e<|oK h,if_neg e]
theorem IA{r:aG}:(aC aE (aA 0)<|mC<|.int 1) (a7 (.tup [l,.loc p])::r) μ=a7 (.loc p,μ):=rfl
theorem Xv k{μ:Hm}(g:μ[p]?=a7 (.dT<|aW Z))(E:Z.length<=100)(y:0<=u/\u<4){l:Option D}Q(H:∀t b,μ<+:b->b[t]?=a7 (.lst<|((Z.map (·.1)).filter<|aY u n a).map PP)->Q (.nx,[a7<|.tup [m,.loc p],a7<|.tup [.int u,.int n],a7<|.bl a,i,j,s,a7<|.loc t,v,w,x,c],b)):
  W (d9 1001 (aR 6<|eN (iT<|aC aE (aA 0)<|mC<|.int 1) (aS<|aC (aT b3) (aC iP (aF (f (k+1) "_law_value")<|aB (aA 11)<|aB (aC aE (aA 1)<|mC<|.int 0) aD)<|aC aE (aA 1)<|mC<|.int 1)<|aA 2)<|aA 11) z
   [a7<|.tup [m,.loc p],a7<|.tup [.int u,.int n],a7<|.bl a,i,j,s,b0,v,w,x,c] μ) Q:=by
 have h:p<μ.length:=(a0f.mp g).1;have o:(μ.set p<|.dF<|aW Z)[p]?=a7 (.dF<|aW Z):=a1a h;refine xB (a:=p) rfl g ?_;rw[w_mSet];refine fV (xs:=(Z.map (·.1)).map PP) (p:=λd=>aY u n a<|dH d) (v:=λd=>d) ?_;rw[BV (a:=p) IA o,xE,W_some];refine⟨wR,rfl,by rw[a0d,a0d,a0O];lia,λd b hd e=>?_,λd b hd _ e=>?_,λb e r=>?_⟩
 .obtain⟨q,_,rfl⟩:=a0u.mp hd;simp only[a0X,a1h,w_mTest,w_mOp,w_mCall,w_mCons,aV,bM,aL,aO,w_it20,w_it21];refine Ir k q u y _ _ λB A=>?_;simp only[w_gtI];exact w_eqBl.mpr ⟨rfl,A⟩
 .simp only[a0X,a1h,aL,aO];exact⟨trivial,a0E _⟩
 .refine⟨aN e o,?_⟩;dsimp only;rw[m3,a1d]at r;rw[a1d];exact H _ _ (xA g e)<|by rw[a0p<|by lia];exact r
theorem Xw k{μ:Hm}(O:∀q,Dih (F q)){ps:jq}(nd:qs.Nodup)(Z:qs.length<=100)(X:0<=u/\u<4)(g:μ[l]?=a7 (.dT<|a8 (λq=>LD<|F q) qs))(s:μ[t]?=a7 (.lst<|ps.map PP))(R:∀q∈qs,ps.contains (aI (F q) q)=aY u n a (aI (F q) q))Q(H:∀x,Q (.nx,[v,a7<|.tup [.int u,.int n],w,y,a7<|.loc l,G,a7<|.loc t,x,I,J,p],(μ++[C.lst<|qs.map PP]).set l<|.dT<|a8 (λq=>LD<|b9 u n a F q) qs)):
  W (cD (cU<|aF fS<|aB (aA 4) aD) (cZ 7) (aZ (aS<|aC (cL b3) (aF (f (k+1) "_law_led")<|aB (aC aE (aA 4)<|aA 7)<|aB (aA 7) aD)<|aA 6) (dN (aA 4) (aA 7)<|aF (f (k+1) "_law_over")<|aB (aC aE (aA 4)<|aA 7)<|aB (aA 1) aD) bA)
   [v,a7<|.tup [.int u,.int n],w,y,a7<|.loc l,G,a7<|.loc t,b0,I,J,p] μ) Q:=by
 have T:l<μ.length:=(a0f.mp g).1;have E:t≠l:=λe=>by rw[e,g]at s;cases s
 have U:t<μ.length:=(a0f.mp s).1;simp only[w_mForI,w_iSeq,w_mCall,w_mCons,aV,aL,aO];refine(Hc g).mpr ?_;have N:(a8 (λq=>LD<|F q) qs).map (λk=>D.tup<|k.1.map D.int)=qs.map PP:=by unfold a8;rw[a0x];rfl
 rw[N];refine(eA<|bK _ _).mpr ?_;have L:l<(μ++[C.lst<|qs.map PP]).length:=by rw[a0q];lia
 have K:(μ++[C.lst<|qs.map PP])[l]?=a7 (.dT<|a8 (λq=>LD<|F q) qs):=aN (aU _ _) g;refine lF (λi m j=>∃x,m=[v,a7<|.tup [.int u,.int n],w,y,a7<|.loc l,G,a7<|.loc t,x,I,J,p]/\j=(μ++[C.lst<|qs.map PP]).set l (.dT<|a8 (λq=>LD<|if q∈qs.take i then b9 u n a F q else F q) qs))
  ⟨b0,rfl,?_⟩ ?_ (λi d m j hd A=>?_) λm j A=>?_
 .rw[show(λq=>LD<|if q∈qs.take 0 then b9 u n a F q else F q)=λq=>LD (F q)from funext λq=>by rw[if_neg<|by simp]];exact(tI K).symm
 .rintro i m j ⟨x,_,rfl⟩;rw[a0p<|by lia];exact bK _ _
 .obtain⟨x,rfl,rfl⟩:=A;obtain⟨q,B,rfl⟩:=m7 hd;refine⟨_,rfl,?_⟩;have o:q∈qs:=a0S B;have Y:q∉qs.take i:=qN nd B;have gl:((μ++[C.lst<|qs.map PP]).set l<|.dT<|a8 (λq=>LD<|if q∈qs.take i then b9 u n a F q else F q) qs)[l]?=a7 (.dT<|a8 (λq=>LD<|if q∈qs.take i then b9 u n a F q else F q) qs):=eQ K;have z:((μ++[C.lst<|qs.map PP]).set l<|.dT<|a8 (λq=>LD<|if q∈qs.take i then b9 u n a F q else F q) qs)[t]?=a7 (.lst<|ps.map PP):=by rw[a0p<|a1j E];exact aN (aU _ _) s
  have M:∀Q,Q (LD<|F q,(μ++[C.lst<|qs.map PP]).set l<|.dT<|a8 (λq=>LD<|if q∈qs.take i then b9 u n a F q else F q) qs)->W (aE (.loc l) (PP q)<|(μ++[C.lst<|qs.map PP]).set l<|.dT<|a8 (λq=>LD<|if q∈qs.take i then b9 u n a F q else F q) qs) Q:=λQ h=>by refine(Bv gl (cX q)<|j0 nd o).mpr ?_;rw[if_neg Y];exact h
  simp only[a0H,a0I,w_mIfS,w_mTest,w_mOp,w_mCall,w_mCons,aV,aL,aO];refine M _<|(qR k (F q) (O q) q _ _).mpr<|(Iz z).mpr ?_;rw[if_neg a0K,R q o];have r:∀x∈qs,x∈qs.take (i+1)↔x∈qs.take i\/x=q:=λx _=>by rw[gT B,a1t,a0N]
  cases hc:aY u n a (aI (F q) q)with
  |true=>
   simp only[if_true,w_mPut,w_mCall,w_mCons,aV,w_mOp,aL,aO];refine M _ ((Iu k (F q) u n X _ _).mpr<|(oG gl (cX q)<|by rw[a0d,a0O];lia).mpr ⟨_,rfl,?_⟩);rw[Xu q o nd,a6Q];congr 2;refine a1v λx c=>?_;dsimp only;by_cases e:x=q
   .rw[if_pos e,if_pos<|(r x c).mpr<|.inr e,e];unfold b9;rw[if_pos hc]
   .rw[if_neg e];by_cases b:x∈qs.take i
    .rw[if_pos b,if_pos<|(r x c).mpr<|.inl b]
    .rw[if_neg b,if_neg λh=>((r x c).mp h).elim b e]
  |false=>
   simp only[a0t,if_false,w_mNext];refine⟨_,rfl,?_⟩;congr 2;refine a1v λx c=>?_;dsimp only;by_cases b:x∈qs.take i
   .rw[if_pos b,if_pos<|(r x c).mpr<|.inl b]
   .by_cases e:x=q
    .rw[if_neg b,if_pos<|(r x c).mpr<|.inr e,e];unfold b9;rw[if_neg<|by rw[hc];exact a0K]
    .rw[if_neg b,if_neg λh=>((r x c).mp h).elim b e]
 .obtain⟨x,rfl,rfl⟩:=A;have e:a8 (λq=>LD<|if q∈qs.take (qs.map PP).length then b9 u n a F q else F q) qs=a8 (λq=>LD<|b9 u n a F q) qs:=by refine a1v λx c=>?_;dsimp only;rw[a0d,a1N,if_pos c]
  rw[e];exact H x
theorem IB{Z:Zr}(h:q∈Z.map (·.1)):((Z.map (·.1)).filter mv).contains q=mv q:=by rw[a2c,a1B,a0Y];exact⟨λx=>x.2,λx=>⟨h,x⟩⟩
theorem Xx(I:HI μ p Z)(g:μ[p]?=a7 (.dT<|aW Z))(O:Z.length<=100)(u:μ[t]?=a7 (.lst<|((Z.map (·.1)).filter mv).map PP))Q(H:∀x,Q (.nx,[a7<|.tup [q,.loc p],l,m,n,o,x,a7<|.loc t,B,a7<|.loc μ.length,E,c],μ++(C.dT (aW<|dC (μ.length+1)<|Z.filter λz=>!mv z.1)::(Z.filter λz=>!mv z.1).map λz=>C.lst<|z.2.1.map PP))):
  W (d9 1001 (cD (iT<|aC aE (aA 0)<|mC<|.int 1) (cZ 5)<|aZ (aS<|aC (cL b5) (aA 5)<|aA 6) (dN (aA 8) (aA 5)<|aF fS<|aB (aC aE (aC aE (aA 0)<|mC<|.int 1)<|aA 5) aD) bA) N
   [a7<|.tup [q,.loc p],l,m,n,o,b0,a7<|.loc t,B,a7<|.loc μ.length,E,c]<|μ++[C.dT []]) Q:=by
 have a:p<μ.length:=(a0f.mp g).1;have w:t≠p:=λe=>by rw[e,g]at u;cases u
 have G:(μ++[C.dT []])[p]?=a7 (.dT<|aW Z):=by rw[a0W a];exact g
 have r:∀L,(μ.set p (.dF<|aW Z)++L)[p]?=a7 (.dF<|aW Z):=λL=>qO μ a _;refine xC rfl G (BV (a:=p) IA<|by rw[lJ a];exact r _) (λi k j=>∃x,k=[a7<|.tup [q,.loc p],l,m,n,o,x,a7<|.loc t,B,a7<|.loc μ.length,E,c] /\
   j=μ.set p (.dF<|aW Z)++(C.dT (aW<|dC (μ.length+1)<|(Z.take i).filter λz=>!mv z.1)::((Z.take i).filter λz=>!mv z.1).map λz=>C.lst<|z.2.1.map PP))
  ⟨b0,rfl,lJ a _⟩ (λi d k j hd v=>?_) λk j v=>?_
 .obtain⟨x,rfl,rfl⟩:=v;rw[xE,a0x,a0v]at hd;obtain⟨z,A,rfl⟩:=a0g.mp hd;refine⟨_,rfl,?_⟩;have b:=a0S A;have M:z.1∈Z.map (·.1):=a0u.mpr ⟨z,b,rfl⟩;have s:=B2 (p:=p) (c:=.dF (aW Z)) (d:=C.dT (aW<|dC (μ.length+1)<|(Z.take i).filter λz=>!mv z.1)) (L:=((Z.take i).filter λz=>!mv z.1).map λz=>C.lst<|z.2.1.map PP) u w;simp only[Function.comp_apply,a0H,a0I,w_mIfS,w_mTest,w_mOp,aL,aO];refine(Iz s).mpr ?_;rw[if_pos rfl,IB M];have e:(Z.take<|i+1).filter (λz=>!mv z.1)=(Z.take i).filter (λz=>!mv z.1)++[z].filter (λz=>!mv z.1):=by rw[gT A,a1D]
  cases hc:mv z.1 with
  |true=>simp only[a2N,a0t,if_false,w_mNext];refine⟨trivial,_,rfl,?_⟩;rw[e,a1u<|by rw[hc];decide,a2J,a1O]|false=>
   simp only[a2E,if_true,w_mPut,w_mCall,w_mCons,aV,w_mOp,bM,w_it21,aL,aO];refine(i8 (.inr<|r _) (cX z.1)<|tJ I.kd b).mpr ?_;refine(Hd<|B2 (I.at_ z b)<|I.ne (.inl g) b).mpr ?_;refine Im (λh=>I.nd A ?_) (by have:=a0Z (λz:(Int×Int)×jq×Nat=>!mv z.1)<|Z.take i;rw[a1w]at this;lia) _ ⟨trivial,_,rfl,?_⟩
   .obtain⟨y,J,K⟩:=a0u.mp h;exact a0u.mpr ⟨y,(a0Y.mp J).1,K⟩
   .rw[e,a1x<|by rw[hc];rfl,a2J,qP,qP,a0z,a0z];rfl
 .obtain⟨x,rfl,rfl⟩:=v;refine⟨r _,?_⟩;rw[BY g,xE,a0d,a0d,a1N];exact H x
theorem Xy mv M Z:dZ mv M (GZ Z)=(Z.filter λz=>mv z.1).map λz=>(M z.1,z.2.1.reverse):=by unfold dZ GZ;rw[a4I,a0x];rfl
theorem xG mv(Z:Zr):(Z.map (·.1)).filter mv=(Z.filter λz=>mv z.1).map (·.1):=by rw[a4I];rfl
theorem Xz k{b μ:Hm}{S:Zr}(T:0<=u/\u<4){L:jq}(U:b<+:μ)(O:b.length<=m)(Q:n<=μ.length)(J:Pz μ n m S)(M:aE (.loc p) (PP z) μ=a7 (.loc c,μ))(hc:μ[c]?=a7 (.lst<|L.map PP))(I:L.length<=100)(N:S.length<=10000)(hA:(cE (GZ S)<|aI (bD u v) z).length<=10100)(H:∀g a x y,b<+:a->Pz a n m g->GZ g=c7 o (GZ S) (aI (bD u v) z,L.reverse)->R (.nx,[a7<|.tup [B,.loc p],a7<|.tup [.int u,.int v],l,a7<|.bl o,r,a7<|PP z,s,A,a7<|.loc m,x,y],a)):
  W (By (k+1) [a7<|.tup [B,.loc p],a7<|.tup [.int u,.int v],l,a7<|.bl o,r,a7<|PP z,s,A,a7<|.loc m,x,y] μ) R:=by
 have j:=aU μ<|C.lst<|L.reverse.map PP;have i:=J.keep λc y h=>aN j h;obtain⟨d,E,w⟩:=Iq (g:=aI (bD u v) z) (L:=L.reverse) o (U.trans j) O (a1l Q j.length_le) i (bK _ _) (by rw[a2U];exact I) N hA;refine cG (eP<|bQ<|cJ (ds:=[LD bU,.tup [.int u,.int v]]) (μ':=μ) (by kernel_rfl)<|(Iu k bU u v T _ _).mpr ⟨_,rfl,?_⟩);rw[BG];refine(qR k (bD u v) (w9 u v) z _ _).mpr<|cG<|Xs I M hc ?_;have G:=w _ λg a q K e=>H g a (a7<|PP<|aI (bD u v) z) (a7<|.loc μ.length) q K e;cases o with
 |true=>exact w_mIfS.mpr ⟨_,rfl,w_mPut.mpr<|bS<|BO ⟨_,rfl,BP i.dic,_,rfl,_,E,_,rfl,bB G λp x=>⟨_,rfl,_,rfl,x⟩⟩⟩|false=>exact w_mIfS.mpr ⟨_,rfl,w_mPut.mpr<|bS ⟨_,rfl,BO ⟨_,rfl,BP i.dic,_,rfl,_,E,bB G λp x=>⟨_,rfl,_,rfl,x⟩⟩⟩⟩
theorem XA k{μ0 μ:Hm}(r:μ0<+:μ)(I:HI μ0 p Z)(g:μ0[p]?=a7 (.dT<|aW Z))(hl:Z.length<=100)(B:∀z∈Z,z.2.1.length<=100)(hu:0<=u/\u<4)(M:μ0[t]?=a7 (.lst<|((Z.map (·.1)).filter<|aY u n a).map PP))(T:Pz μ μ0.length b S0)(E:μ0.length<=b)(Y:GZ S0=fI (aY u n a) (GZ Z))Q(H:∀x y z S c,μ0<+:c->Pz c μ0.length b S->GZ S=oN (aY u n a) (aI<|bD u n) o (GZ Z)->Q (.nx,[a7<|.tup [v,.loc p],a7<|.tup [.int u,.int n],a7<|.bl a,a7<|.bl o,s,x,a7<|.loc t,L,a7<|.loc b,y,z],c)):
  W (cD (cU<|aA 6) (cZ 5) (By<|k+1) [a7<|.tup [v,.loc p],a7<|.tup [.int u,.int n],a7<|.bl a,a7<|.bl o,s,O,a7<|.loc t,L,a7<|.loc b,b0,b0] μ) Q:=by
 refine w_mForI.mpr<|w_iSeq.mpr ⟨_,rfl,(eA<|aN r M).mpr ?_⟩;refine lF (λi j c=>∃x y z S,j=[a7<|.tup [v,.loc p],a7<|.tup [.int u,.int n],a7<|.bl a,a7<|.bl o,s,x,a7<|.loc t,L,a7<|.loc b,y,z]/\μ0<+:c/\Pz c μ0.length b S /\
   GZ S=(((Z.filter λz=>aY u n a z.1).take i).map λz=>(aI (bD u n) z.1,z.2.1.reverse)).foldl (c7 o) (fI (aY u n a)<|GZ Z))
  ⟨O,b0,b0,S0,rfl,r,T,Y⟩ (by rintro _ _ _ ⟨_,_,_,_,_,h,_⟩;exact aN h M) (λi d j c hd A=>?_) λj c A=>?_
 .obtain⟨x,y,w,S,rfl,l,J,m⟩:=A;rw[xG,a0x,a0v]at hd;obtain⟨z,N,rfl⟩:=a0g.mp hd;have e:=(a0Y.mp<|a0S N).1;have ei:aE (.loc p) (PP z.1) c=a7 (.loc z.2.2,c):=by have h1:c[p]?=a7 (.dT<|aW Z):=aN l g;simp only[aE,h1,cX,a0G,tJ I.kd e,a0M]
  have hK:(((Z.filter λz=>aY u n a z.1).take i).map λz=>(aI (bD u n) z.1,z.2.1.reverse)).length<=100:=by rw[a0d,a1w];have:=a0Z (λz:(Int×Int)×jq×Nat=>aY u n a z.1) Z;lia
  obtain⟨sm1,K⟩:=B4 o (((Z.filter λz=>aY u n a z.1).take i).map λz=>(aI (bD u n) z.1,z.2.1.reverse)) (fI (aY u n a)<|GZ Z) 100 (λx q=>by
    obtain⟨y,G,rfl⟩:=a0u.mp (a0Y.mp q).1;exact B y G) λx q=>by
    obtain⟨y,G,rfl⟩:=a0u.mp q;rw[a2U];exact B y (a0Y.mp<|a6f G).1
  have hS0:(fI (aY u n a)<|GZ Z).length<=100:=by refine a1l (a0Z _ _) ?_;rw[oM];exact hl
  refine⟨_,rfl,Xz k hu l E l.length_le J ei (aN l<|I.at_ z e) (B z e) (by rw[<- oM,m];lia) (B3 (by rw[m];exact λx q=>by have:=K x q;lia) _) λU c _ _ p' R X=>⟨_,_,_,U,rfl,p',R,?_⟩⟩;rw[X,gT N,a0z,a6S,<- m];rfl
 .obtain⟨x,y,w,S,rfl,l,J,m⟩:=A;refine H x y w S _ l J ?_;rw[m,a0d,xG,a0d,a1N,oN,Xy]
noncomputable def lK(Z:Zr)(mv:Int×Int->Bool):Bool:=((Z.map (·.1)).filter mv).isEmpty||(((Z.map (·.1)).filter mv).length==Z.length)
theorem XB k(hF:∀q,Dih (F q)){qs:jq}(nd:qs.Nodup)(hl:qs.length<=100)(E:qs≠[])(hh:(qs.map λq=>Tb.hashT<|bE q).Nodup)(I:HI μ p Z)(g:μ[p]?=a7 (.dT<|aW Z))(gl:μ[l]?=a7 (.dT<|a8 (λq=>LD<|F q) qs))(A:Z.length<=100)(hb:∀z∈Z,z.2.1.length<=100)(hk:∀q∈qs,aI (F q) q∈Z.map (·.1))(H:0<=u/\u<4)(Q:jz)(N:lK Z (aY u n a)=b5->∀c,μ<+:c->Q (.non,c))(H1:lK Z (aY u n a)=b3->∀S J X c,μ<+:c->μ.length<=J->c[J]?=a7 (.dT<|a8 (λq=>LD<|b9 u n a F q) qs)->Pz c μ.length X S->GZ S=oN (aY u n a) (aI<|bD u n) o (GZ Z)->Q (.tup [.loc J,.loc X],c)):
  W (f (k+2) "_law_folded" [.tup [.loc l,.loc p],.tup [.int u,.int n],.bl a,.bl o] μ) Q:=by
 have hlt:l<μ.length:=(a0f.mp gl).1;have hpt:p<μ.length:=(a0f.mp g).1;rw[Wq,W_fin];simp only[w_mSeq,w_mSet,w_mCall,w_mCons,aV,w_mOp,bM,w_it20,aL,aO];refine(WX gl ⟨?_,?_⟩).mpr ?_
 .intro e;have:=congrArg a1n e;rw[a0d]at this;exact E<|a2R.mp this
 .rw[a0x];exact hh
 simp only[a0H,a0I];have K:μ<+:μ++[C.dT<|a8 (λq=>LD<|F q) qs]:=aU _ _;refine Xv k (aN K g) A H (l:=b0) _ λt b L T=>?_;have gc:b[μ.length]?=a7 (.dT<|a8 (λq=>LD<|F q) qs):=aN L<|bK _ _;have g2:=aN (K.trans L) g;have q2:=K.trans L;simp only[w_mIfS,w_mOrT,w_mTest,w_mOp,w_mLst,aV,w_mCall,w_mCons,bM,w_it21,aL,aO];refine⟨a1U _,(WY (aN (aU _ _) T)<|bK _ _).mpr ?_⟩;have v:μ<+:b++[C.lst []]:=q2.trans<|aU _ _;have d:(b++[C.lst []])[t]?=a7 (.lst<|((Z.map (·.1)).filter<|aY u n a).map PP):=aN (aU _ _) T;have h:(b++[C.lst []])[μ.length]?=a7 (.dT<|a8 (λq=>LD<|F q) qs):=aN (aU _ _) gc;have em:(((Z.map (·.1)).filter<|aY u n a).map PP).isEmpty=((Z.map (·.1)).filter<|aY u n a).isEmpty:=by cases(Z.map (·.1)).filter (aY u n a)<;>rfl
 have el:(((((Z.map (·.1)).filter<|aY u n a).map PP).length:Int)==((aW Z).length:Int))=(((Z.map (·.1)).filter<|aY u n a).length==Z.length):=by rw[a0d,w8,a2c,beq_iff_eq,beq_iff_eq];lia
 dsimp only;rw[em];cases w:((Z.map (·.1)).filter<|aY u n a).isEmpty with
 |true=>simp only[if_true,w_mRet,bM];exact N (by unfold lK;rw[w];rfl) _ v|false=>
  simp only[a0t,if_false];refine(mZ d).mpr<|(Vr<|aN v g).mpr<|w_eqI.mpr ?_;dsimp only;rw[el];cases U:(((Z.map (·.1)).filter<|aY u n a).length==Z.length)with
  |true=>simp only[if_true,w_mRet,bM];exact N (by unfold lK;rw[w,U];rfl) _ v|false=>
   simp only[a0t,if_false,w_mNext];refine Xw k hF nd hl H h d (λq hq=>IB<|hk q hq) _ λx=>?_;have B:μ.length<(b++[C.lst []]++[C.lst<|qs.map PP]).length:=by have:=(a0f.mp h).1;rw[a0q];lia
   have m:μ<+:(b++[C.lst []]++[C.lst<|qs.map PP]).set μ.length (.dT<|a8 (λq=>LD<|b9 u n a F q) qs):=gM (v.trans<|aU _ _) (a0l _) _;have j:((b++[C.lst []]++[C.lst<|qs.map PP]).set μ.length<|.dT<|a8 (λq=>LD<|b9 u n a F q) qs)[μ.length]?=a7 (.dT<|a8 (λq=>LD<|b9 u n a F q) qs):=a1a B;have G:t≠μ.length:=λe=>by rw[e,h]at d;cases d
   have i:((b++[C.lst []]++[C.lst<|qs.map PP]).set μ.length<|.dT<|a8 (λq=>LD<|b9 u n a F q) qs)[t]?=a7 (.lst<|((Z.map (·.1)).filter<|aY u n a).map PP):=by rw[a0p<|a1j G];exact aN (aU _ _) d
   generalize(b++[C.lst []]++[C.lst<|qs.map PP]).set μ.length (.dT<|a8 (λq=>LD<|b9 u n a F q) qs)=μ4 at m j i;simp only[w_mDNewT,a0H,a0I];have O:HI μ4 p Z:=I.more m;have R:=aN m g;refine Xx O R A i _ λx=>?_;simp only[];have pr:μ4<+:μ4++(C.dT (aW<|dC (μ4.length+1)<|Z.filter λz=>!aY u n a z.1)::(Z.filter λz=>!aY u n a z.1).map λz=>C.lst<|z.2.1.map PP):=a4Z _ _;refine XA k pr O R A hb H i (S0:=dC (μ4.length+1) (Z.filter λz=>!aY u n a z.1)) ⟨?_,?_,λz s=>?_⟩ (a0l _) (by rw[qQ,Ip]) _ λx y z S M Y r e5=>?_
   .rw[a1I<|a0l _,a5O];rfl
   .rw[B0<|qQ _ _];exact(a3X.map _).nodup I.kd
   .have:=B1 (Z.filter λz=>!aY u n a z.1) (μ4.length+1) (μ4++[.dT<|aW<|dC (μ4.length+1)<|Z.filter λz=>!aY u n a z.1]) [] (by rw[a0q];rfl) z s;refine⟨by lia,?_⟩;rw[a1O,a3o]at this;exact this.2
   .simp only[w_mRet,w_mTup,w_mCons,aV,aL,aO];refine⟨fH,H1 (by unfold lK;rw[w,U];rfl) S _ _ M (m.trans Y) (a0l _) (aN Y j) ⟨r.dic,r.kd,λz s=>⟨a1l m.length_le (r.at_ z s).1,(r.at_ z s).2⟩⟩ e5⟩
theorem IC(u:∀ρ μ Q,W (me ρ μ) Q↔Q (LD bU,μ)){μ0 μ:Hm}(nd:qs.Nodup)(hl:qs.length<=100)(E:μ0<+:μ)(Z:μ0.length<=a)(lb:μ0.length<=b)(L:a≠b)(N:μ[a]?=a7 (.dT []))(O:μ[b]?=a7 (.dT []))(gl:μ[l]?=a7 (.lst<|qs.map PP))Q(H:∀x S g,μ0<+:g->g[a]?=a7 (.dT<|a8 (λ_=>LD bU) qs)->Pz g μ0.length b S->GZ S=i9 qs->Q (.nx,[G,I,a7<|.loc a,a7<|.loc b,x],g)):
  W (eL (dQ<|.loc l) (cZ 4) (aH (dN (aA 2) (aA 4) me)<|dN (aA 3) (aA 4)<|cQ<|aB (aA 4) aD) ((qs.map PP).length+1) 0 [G,I,a7<|.loc a,a7<|.loc b,b0] μ) Q:=by
 have v:l≠a:=λe=>by rw[e,N]at gl;cases gl
 have w:l≠b:=λe=>by rw[e,O]at gl;cases gl
 refine lF (λi k g=>∃x S,k=[G,I,a7<|.loc a,a7<|.loc b,x]/\μ0<+:g/\g[a]?=a7 (.dT<|a8 (λ_=>LD bU)<|qs.take i)/\Pz g μ0.length b S/\GZ S=i9 (qs.take i)/\g[l]?=a7 (.lst<|qs.map PP))
  ⟨b0,[],rfl,E,N,⟨O,b0z,λz r=>nomatch r⟩,rfl,gl⟩ (λ_ _ _ ⟨_,_,_,_,_,_,_,h⟩=>h) ?_ ?_
 .rintro i d k g hd ⟨x,S,rfl,A,m,J,n,M⟩;obtain⟨q,s,rfl⟩:=m7 hd;refine⟨_,rfl,?_⟩;have Y:i<qs.length:=(a0f.mp s).1;have R:q∉qs.take i:=qN nd s;have lS:S.length<=100:=by rw[<- oM,n];unfold i9;rw[a0d,a1w];lia
  simp only[a0H,a0I,w_mSeq,w_mPut,u,aL,aO];refine(oG m (cX q)<|by rw[a0d,a1w,a0O];lia).mpr ?_;rw[HX R,<- gT s];have j:∀(c:Nat)(y:C),c≠a->g[c]?=a7 y->(g.set a<|C.dT<|a8 (λ_=>LD bU)<|qs.take<|i+1)[c]?=a7 y:=λc y h e=>by rw[a0p<|a1j h];exact e
  have K:Pz (g.set a<|C.dT<|a8 (λ_=>LD bU)<|qs.take<|i+1) μ0.length b S:=⟨j _ _ (a1j L) J.dic,J.kd,λz r=>⟨(J.at_ z r).1,j _ _ (λe=>by have:=(J.at_ z r).2;rw[e,m]at this;cases this) (J.at_ z r).2⟩⟩;have B:=gM A Z<|C.dT<|a8 (λ_=>LD bU)<|qs.take<|i+1;have o:(g.set a<|C.dT<|a8 (λ_=>LD bU)<|qs.take<|i+1)[a]?=a7 (C.dT<|a8 (λ_=>LD bU)<|qs.take<|i+1):=eQ m;have p:=j _ _ v M;generalize g.set a (C.dT<|a8 (λ_=>LD bU)<|qs.take<|i+1)=μ2 at K B o p;simp only[w_mLst,w_mCons,aV,aL,aO];refine⟨Bz,?_⟩;refine Io (K.keep λc y h=>aN (aU μ2<|C.lst [PP q]) h) (p:=q) (L:=[q]) (bK _ _) B.length_le (by lia) _ λU X T=>?_;refine⟨_,U,rfl,gM (B.trans<|aU _ _) lb _,by rw[a0p<|a1j L];exact aN (aU _ _) o,T,?_,by rw[a0p<|a1j w];exact aN (aU _ _) p⟩;rw[X,n,W5<|by rw[BQ];exact R,gT s];unfold i9;rw[a0z];rfl
 .rintro k g ⟨x,S,rfl,A,m,J,n,M⟩;rw[a0d,a1N]at m n;exact H x S g A m J n
theorem qS{Q:jz}(h:W (m b μ) λp=>∃a fs d,p.1=.loc a/\p.2[a]?=a7 (.ins x fs)/\fs.lookup g=a7 d/\Q (d,p.2)):W (eH x g m b μ) Q:=by unfold eH;rw[W_bind];refine bB h λp ⟨a,fs,d,c,e,i,j⟩=>?_;rw[c];dsimp only;rw[e];dsimp only;rw[if_pos rfl,i];exact W_some.mpr j
theorem B5(h:W (mv b μ) λp=>W (c b p.2) λq=>∃a fs,q.1=.loc a/\q.2[a]?=a7 (.ins x fs)/\fs.length<100/\Q (.nx,b,q.2.set a<|.ins x<|iB g p.1 fs)):W (mI x g c mv b μ) Q:=by unfold mI;rw[W_bind];refine bB h λp h=>?_;rw[W_bind];refine bB h λq ⟨a,fs,d,e,i,j⟩=>?_;rw[d];dsimp only;rw[e];dsimp only;rw[if_pos ⟨rfl,i⟩];exact W_some.mpr j
theorem tL{Q:jz}(h:W (d b μ) λp=>∃a fs,p.1=.loc a/\p.2[a]?=a7 (.ins x fs)/\fs.lookup m=b0/\W (ms b p.2) λq=>W (c (.loc a::q.1) q.2) Q):W (iC x m c d ms b μ) Q:=by unfold iC;rw[W_bind];refine bB h λp ⟨a,fs,e,g,i,j⟩=>?_;rw[e];dsimp only;rw[g];dsimp only;rw[if_pos ⟨rfl,i⟩,W_bind];exact j
theorem XC{Q:jz}(h:W (ms b μ) λq=>W (a (.loc q.2.length::q.1)<|q.2++[.ins x []]) λr=>r.1=.non/\Q (.loc q.2.length,r.2)):W (mJ x a ms b μ) Q:=by unfold mJ;rw[W_bind];refine bB h λq h=>?_;rw[W_bind];refine bB h λr ⟨c,d⟩=>?_;rw[c];exact W_some.mpr d
theorem ID k w h(hw:1<=w/\w<=3)(j:1<=h/\h<=3)(μ:Hm)(Q:jz)(H:∀a μ',μ<+:μ'->μ'[a]?=a7 (.lst<|((eJ w h).filter bT).map PP)->Q (.loc a,μ')):W (f (k+2) "quarters_in" [.int w,.int h] μ) Q:=by
 rw[VT,W_fin];simp only[w_mRet];refine fV (xs:=(eJ w h).map PP) (p:=λd=>bT<|dH d) (v:=λd=>d) ?_;simp only[w_iSeq,w_mCall,w_mCons,aV,aL,aO];refine BS _ w h (by lia) (by lia) _ _ λa i g c l=>?_;refine(eA c).mpr ⟨jX c,rfl,?_,λd μ' hd b=>?_,λd μ' hd _ b=>?_,λμ' b e=>?_⟩
 .have:=BU (w:=w) (h:=h) (by lia) (by lia);rw[a0d,a0O];lia
 .obtain⟨u,v,rfl⟩:=lH hd;simp only[a0X,a1h,w_mTru,w_mCall,w_mCons,aV,aL,aO,Ii,w_truB];exact⟨rfl,a0E _⟩
 .simp only[a0X,a1h,aL,aO];exact⟨trivial,a0E _⟩
 .refine H _ _ (g.trans b) ?_;rw[e,m3 bT]
theorem tP:∀w∈[(1:Int),2,3],∀h∈[(1:Int),2,3],(eJ w h).filter bT=b7 w h/\(b7 w h).length<=36/\b7 w h≠[]/\(b7 w h).Nodup/\((b7 w h).map λq=>Tb.hashT<|bE q).Nodup/\(b7 w h).all bT=true:=by decide +kernel
theorem IE(h:bT p=b5)(a:n%4=0):b8 u p≠n:=by
 unfold bT at h;unfold b8;split at h
 .simp only[beq_iff_eq]at h;split<;>(try split)<;>(try split)<;>lia
 .simp only[a0j,beq_iff_eq]at h;split<;>(try split)<;>(try split)<;>lia
theorem XD(h:bT p=b5)(e:n%4=0):bT (aI (bD u n) p)=true:=by
 obtain⟨x,y⟩:=p;have q:∀a b:Int,(a%2=1/\b%4=2)\/(a%4=2/\b%2=1)->bT (a,b)=true:=λa b z=>by
  unfold bT;dsimp only;split
  .rw[beq_iff_eq];lia
  .rw[a0j,beq_iff_eq,beq_iff_eq];lia
 have r:(x%2=1/\y%4=2)\/(x%4=2/\y%2=1):=by
  unfold bT at h;dsimp only at h;split at h
  .rw[beq_iff_eq]at h;lia
  .rw[a0j,beq_iff_eq,beq_iff_eq]at h;lia
 obtain⟨m,rfl⟩:∃m,n=4*m:=⟨n/4,by lia⟩;clear e h;unfold bD;split
 .show bT (1*x+0*y+0,0*x+(-1)*y+2*(4*m))=b5;rcases r with⟨c,d⟩|⟨c,d⟩
  .exact q _ _<|.inl ⟨by lia,by lia⟩
  .exact q _ _<|.inr ⟨by lia,by lia⟩
 .split
  .show bT ((-1)*x+0*y+2*(4*m),0*x+1*y+0)=b5;rcases r with⟨c,d⟩|⟨c,d⟩
   .exact q _ _<|.inl ⟨by lia,by lia⟩
   .exact q _ _<|.inr ⟨by lia,by lia⟩
  .split
   .show bT (0*x+1*y+4*m,1*x+0*y+-(4*m))=b5;rcases r with⟨c,d⟩|⟨c,d⟩
    .exact q _ _<|.inr ⟨by lia,by lia⟩
    .exact q _ _<|.inl ⟨by lia,by lia⟩
   .show bT (0*x+(-1)*y+4*m,(-1)*x+0*y+4*m)=b5;rcases r with⟨c,d⟩|⟨c,d⟩
    .exact q _ _<|.inr ⟨by lia,by lia⟩
    .exact q _ _<|.inl ⟨by lia,by lia⟩
noncomputable def j4(u n:Int)(Z:Zr):List Int:=(Z.map (·.1)).map λp=>jA<|b8 u p-n
theorem IG μ x:∀ws:List Int,k5 μ (.int x) (ws.map D.int)=a7 (ws.any λw=>w==x)
 |[]=>rfl|w::ws=>by rw[a0r,a4d];show(cI 8 μ (.int w)<|.int x).bind _=_;have e:cI 8 μ (.int w) (.int x)=a7 (w==x):=rfl;rw[e,IG μ x ws];rfl
theorem XE{ws:List Int}{Q:jz}(h:μ[a]?=a7 (.lst<|ws.map D.int)):W (cL b5 (.int x) (.loc a) μ) Q↔Q (.bl<|!(ws.any λw=>w==x),μ):=by
 have b:bF μ (.loc a)=a7 (ws.map D.int):=by simp only[bF,h]
 have:cL b5 (.int x) (.loc a) μ=a7 (.bl<|!(ws.any λw=>w==x),μ):=by simp only[cL,mF,h,b,a0G,IG,a0M,if_true]
 rw[this];exact W_some
theorem XF k{μ:Hm}(g:μ[p]?=a7 (.dT<|aW Z))(m:Z.length<=100)(E:OnL e u n)Q(H:∀t a,μ<+:a->a[t]?=a7 (.lst<|(j4 u n Z).map D.int)->Q (.nx,[a7<|.loc p,a7<|PP e,a7<|.loc t],a)):
  W (d9 0 (aR 2<|eN (iT<|aA 0) gE<|aF (f (k+2) "hand_of")<|aB (aA 3)<|aB (aA 1) aD) l [a7<|.loc p,a7<|PP e,b0] μ) Q:=by
 have c:p<μ.length:=(a0f.mp g).1;have h:(μ.set p<|.dF<|aW Z)[p]?=a7 (.dF<|aW Z):=a1a c;refine xB (a:=p) rfl g ?_;rw[w_mSet];refine fV (xs:=(Z.map (·.1)).map PP) (p:=λ_=>b5) (v:=λd=>.int<|jA<|b8 u (dH d)-n) ?_;rw[BV (a:=p) rfl h,xE,W_some];refine⟨wR,rfl,by rw[a0d,a0d,a0O];lia,λd a hd b=>w_mTrue.mpr ⟨rfl,a0E _⟩,λd a hd _ b=>?_,λa b i=>?_⟩
 .obtain⟨q,_,rfl⟩:=a0u.mp hd;simp only[a0X,a1h,w_mCall,w_mCons,aV,aL,aO];exact(xF k E _ _).mpr ⟨rfl,a0E _⟩
 .refine⟨aN b h,?_⟩;dsimp only;have j:(((Z.map (·.1)).map PP).filter λ_=>b5).map (λd=>D.int<|jA<|b8 u (dH d)-n)=(j4 u n Z).map D.int:=by rw[a4Q.mpr λ_ _=>rfl];unfold j4;simp only[a0x];rfl
  rw[j,a1d]at i;rw[a1d];exact H _ _ (xA g b)<|by rw[a0p<|by lia];exact i
noncomputable def tQ(u n:Int)(Z:Zr):Bool:=!((j4 u n Z).any λw=>w==1)||!((j4 u n Z).any λw=>w==-1)
theorem XG(g:μ[t]?=a7 (.lst<|(j4 u n Z).map D.int))Q:
  W (iK (aS<|aC (cL b5) (mC<|.int 1)<|aA 2) (aS<|aC (cL b5) (cK<|mC<|.int 1)<|aA 2) [a,b,a7<|.loc t] μ) Q↔Q (tQ u n Z,μ):=by
 simp only[w_mOrT,w_mTest,w_mOp,bM,wN,aL,aO,XE g];unfold tQ;cases !((j4 u n Z).any λw=>w==1)<;>simp
theorem XH k{μ:Hm}(g:μ[p]?=a7 (.dT<|aW Z))(b:Z.length<=100)(E:OnL e u n)(hB:tQ u n Z=b3)(Q:jz)(H:∀μ',μ<+:μ'->Q (.non,μ')):W (f (k+3) "check_fold" [.loc p,PP e] μ) Q:=by rw[Wb,W_fin,w_mSeq];refine XF k g b E _ λt d c a=>?_;simp only[w_mIfS];refine(XG a _).mpr ?_;rw[hB];simp only[a0t,if_false,w_mNext];exact H _ c
theorem B6{a:Type}{p q:a->Bool}:∀{l:List a},(∀z∈l,p z=q z)->l.any p=l.any q
 |[],_=>rfl|x::l,h=>by rw[a4d,a4d,h x<|a0P ..,B6 λz b=>h z<|a0F _ b]
theorem XI a(h:∀z∈Z,b8 u z.1≠n):tQ u n Z=lK Z (aY u n a):=by
 have one:((j4 u n Z).any λw=>w==1)=Z.any λz=>decide (n<b8 u z.1):=by
  unfold j4;rw[a4q,a4q];refine B6 λz b=>?_;show(jA (b8 u z.1-n)==1)=_;unfold jA;by_cases c:n<b8 u z.1
  .rw[if_pos<|by lia,decide_eq_true c];rfl
  .rw[if_neg<|by lia,decide_eq_false c];split<;>rfl
 have two:((j4 u n Z).any λw=>w==-1)=Z.any λz=>!decide (n<b8 u z.1):=by
  unfold j4;rw[a4q,a4q];refine B6 λz b=>?_;have:=h z b;show(jA (b8 u z.1-n)==-1)=_;unfold jA;by_cases c:n<b8 u z.1
  .rw[if_pos<|by lia,decide_eq_true c];rfl
  .rw[if_neg<|by lia,if_pos<|by lia,decide_eq_false c];rfl
 have d:((Z.map (·.1)).filter<|aY u n a).isEmpty=!(Z.any λz=>aY u n a z.1):=by rw[xG];rw[a2c];simp[List.isEmpty_iff,a3x,a6V]
 have e:(((Z.map (·.1)).filter<|aY u n a).length==Z.length)=!(Z.any λz=>!aY u n a z.1):=by rw[xG,a0d,a2c,beq_iff_eq,List.length_filter_eq_length_iff];simp[a6V]
 unfold tQ lK;rw[one,two,d,e];unfold aY;cases a with
 |true=>simp only[beq_true]|false=>simp only[beq_false,Bool.not_not];rw[b1i]
structure StZ(μ:Hm)(b:Nat)(d:D)(F:Int×Int->Ly)(qs:jq)(G:Gr):Prop where
 ex:∃l p Z,d=.tup [.loc l,.loc p]/\μ[l]?=a7 (.dT<|a8 (λq=>LD<|F q) qs)/\HI μ p Z/\μ[p]?=a7 (.dT<|aW Z)/\GZ Z=G/\∀z∈Z,z.2.2≠b
structure Gd(qs:jq)(F:Int×Int->Ly)(G:Gr):Prop where
 di:∀q,Dih (F q)
 pl:Pil qs (λq=>aI (F q) q) G
 qr:∀q∈qs,bT (aI (F q) q)=b5
theorem Gd.fold(h:Gd qs F G)(c:n%4=0)a o:Gd qs (b9 u n a F) (oN (aY u n a) (aI<|bD u n) o G):=by
 refine⟨HZ h.di,?_,λq b=>?_⟩
 .have:=W2 h.pl (mv:=aY u n a) (HK u n) o;rw[show(λq=>aI (b9 u n a F q) q)=λq=>if aY u n a (aI (F q) q)then aI (bD u n) (aI (F q) q)else aI (F q) q from funext λq=>Ia u n a F q];exact this
 .rw[Ia];split
  .exact XD (h.qr q b) c
  .exact h.qr q b
theorem Gd.key(h:Gd qs F (GZ Z)):(∀q∈qs,aI (F q) q∈Z.map (·.1))/\(∀z∈Z,bT z.1=b5)/\Z.length<=qs.length/\∀z∈Z,z.2.1.length<=qs.length:=by
 refine⟨λq a=>?_,λz b=>?_,h.pl.lenZ.1,λz b=>(h.pl.lenZ.2 z b).2⟩
 .rw[<- i7];exact h.pl.key.mpr ⟨q,a,rfl⟩
 .have:z.1∈(GZ Z).map (·.1):=by rw[i7];exact a0u.mpr ⟨z,b,rfl⟩
  obtain⟨q,a,e⟩:=h.pl.key.mp this;rw[<- e];exact h.qr q a
noncomputable def B7(G:Gr)(mv:Int×Int->Bool):Bool:=((G.map (·.1)).filter mv).isEmpty||(((G.map (·.1)).filter mv).length==G.length)
theorem IH Z mv:lK Z mv=B7 (GZ Z) mv:=by unfold lK B7;rw[i7,oM]
noncomputable abbrev j5(w h:Int)(b:Nat):List (Str×D):=[("wide",.int w),("high",.int h),("states",.loc b)]
theorem II xs(d:a):atI (xs++[d]) (-1)=a7 d:=by unfold atI lW;rw[if_neg<|by decide,if_pos<|by rw[a0q,a2s];lia];show(xs++[d])[_]?=_;rw[show((-1:Int)+((xs++[d]).length:Int)).toNat=xs.length by rw[a0q,a2s];lia];simp
theorem IJ{r:aG}(i1:μ[o]?=a7 (.ins "Folding"<|j5 w h b))(i2:μ[b]?=a7 (.lst<|xs++[d]))(Q:jz)(H:Q (d,μ)):W ((aC aE (eH "Folding" "states"<|aA 0)<|cK<|mC<|.int 1) (a7 (.loc o)::r) μ) Q:=by rw[w_mOp];refine qS ?_;simp only[aL];refine⟨o,_,_,rfl,i1,rfl,?_⟩;simp only[wN,bM];exact(gP i2<|II xs d).mpr H
theorem XJ k(i1:μ[o]?=a7 (.ins "Folding"<|j5 w h b))(i2:μ[b]?=a7 (.lst<|xs++[d]))(Q:jz)(H:Q (.int xs.length,μ)):W (f (k+1) "Folding.many" [.loc o] μ) Q:=by rw[Wz,W_fin];simp only[w_mRet,w_mOp,w_mCall,w_mCons,aV];refine qS ?_;simp only[aL];refine⟨o,_,_,rfl,i1,rfl,?_⟩;refine(mZ i2).mpr ?_;simp only[bM,w_subI];rw[show(((xs++[d]).length:Nat):Int)-1=xs.length by rw[a0q,a2s];lia];exact H
theorem XM(G:Gd qs F (GZ Z))(a:n%4=0):(∀q∈qs,b8 u (aI (F q) q)≠n)/\∀z∈Z,b8 u z.1≠n:=⟨λq b=>IE (G.qr q b) a,λz hz=>IE (G.key.2.1 z hz) a⟩
theorem XN k(hw:1<=w/\w<=3)(a:1<=h/\h<=3)(μ:Hm)(Q:jz)(H:∀l p S μ',μ<+:μ'->μ'[l]?=a7 (.dT<|a8 (λ_=>LD bU)<|b7 w h)->Pz μ' μ.length p S->GZ S=i9 (b7 w h)->Q (.tup [.loc l,.loc p],μ')):
  W (f (k+2) "_law_begun" [.int w,.int h] μ) Q:=by
 obtain⟨_,g,i,e,_,_⟩:=tP w (fJ hw) h<|fJ a;rw[Wo,W_fin];simp only[w_mSeq,w_mSet,w_mDNewT,a0H,a0I,w_mForI,w_iSeq,w_mCall,w_mCons,aV,aL,aO];refine BL k w h hw a _ _<|(eA<|bK _ _).mpr ?_;refine IC (me:=aX (aB (mC<|.int 1)<|aB (mC<|.int 0)<|aB (mC<|.int 0)<|aB (mC<|.int 1)<|aB (mC<|.int 0)<|aB (mC<|.int 0) aD)) (λj μ Q=>W_some) (μ0:=μ) e (by lia) (((aU _ _).trans<|aU _ _).trans<|aU _ _) (a0l _) (by rw[a0q];lia) (by rw[a0q];exact a0y<|a1A _) ?_ ?_ (bK _ _) _ λx S μ' d c J b=>?_
 .exact aN ((aU _ _).trans<|aU _ _)<|bK _ _
 .exact aN (aU _ _)<|bK _ _
 .simp only[w_mRet,w_mTup,w_mCons,aV,aL,aO];exact⟨fH,H _ _ S μ' d c J b⟩
theorem XO k(hw:1<=w/\w<=3)(d:1<=h/\h<=3)(μ:Hm)(Q:jz)(H:∀l p S μ',μ<+:μ'->μ'[l]?=a7 (.dT<|a8 (λ_=>LD bU)<|b7 w h)->Pz μ' μ.length p S->GZ S=i9 (b7 w h)->Q (.tup [.loc l,.loc p],μ')):
  W (f (k+3) "unfolded" [.int w,.int h] μ) Q:=by
 obtain⟨m,q,r,n,_,_⟩:=tP w (fJ hw) h<|fJ d;rw[We,W_fin];simp only[w_mSeq,w_mSet,w_mDNewT,a0H,a0I,w_mForI,w_iSeq,w_mCall,w_mCons,aV,aL,aO];refine ID k w h hw d _ _ λc o b a=>?_;rw[m]at a;refine(eA a).mpr ?_;have g:(μ++[C.dT []]).length=μ.length+1:=by rw[a0q];rfl
 refine IC (me:=mC sX) (λs μ Q=>W_some) (μ0:=μ) n (by lia) (((aU _ _).trans<|aU _ _).trans b) (a0l _) (by lia) (by rw[g];exact a0y<|a1A _) ?_ ?_ a _ λx S μ' j i J e=>?_
 .exact aN ((aU _ _).trans b)<|bK _ _
 .exact aN b<|bK _ _
 .simp only[w_mRet,w_mTup,w_mCons,aV,aL,aO];exact⟨fH,H _ _ S μ' j i J e⟩
theorem XQ a:iB "wide" a []=([("wide",a)]:List (Str×D)):=rfl
theorem XR a b:iB "high" b [("wide",a)]=([("wide",a),("high",b)]:List (Str×D)):=by unfold iB;rw[if_neg<|by decide];rfl
theorem XS a b c:iB "states" c [("wide",a),("high",b)]=([("wide",a),("high",b),("states",c)]:List (Str×D)):=by unfold iB;rw[if_neg<|by decide];unfold iB;rw[if_neg<|by decide];rfl
noncomputable def oP(u n j:Int):Int×Int:=if u=0 then(2+4*j,n)else if u=1 then(n,2+4*j)else if u=2 then(n+1+2*j,1+2*j)else(1+2*j,n-1-2*j)
theorem xH(m:∀p,bO p e=aI A p):dR e=A:=by unfold dR;rw[m (1,0),m (0,0),m (0,1)];unfold aI;refine Ly.ext' ?_ ?_ ?_ ?_ ?_ ?_<;>(dsimp only;lia)
theorem XT(a:0<=u/\u<4)(b:n%4=0)j:OnL (oP u n j) u n:=by
 have c:u=0\/u=1\/u=2\/u=3:=by lia
 rcases c with rfl|rfl|rfl|rfl
 .have e:oP 0 n j=(2+4*j,n):=rfl;have m:∀p,bO p (2+4*j,n)=aI (bD 0 n) p:=λp=>by unfold bO;rw[if_neg<|by dsimp only;lia,if_pos b];show(p.1,2*n-p.2)=(1*p.1+0*p.2+0,0*p.1+(-1)*p.2+2*n);congr 1<;>lia
  rw[e];refine⟨a,λp=>?_,rfl,m,?_⟩
  .unfold iU;rw[if_neg<|by dsimp only;lia,if_pos b];rfl
  .exact xH m
 .have e:oP 1 n j=(n,2+4*j):=rfl;have m:∀p,bO p (n,2+4*j)=aI (bD 1 n) p:=λp=>by unfold bO;rw[if_neg<|by dsimp only;lia,if_neg<|by dsimp only;lia];show(2*n-p.1,p.2)=((-1)*p.1+0*p.2+2*n,0*p.1+1*p.2+0);congr 1<;>lia
  rw[e];refine⟨a,λp=>?_,rfl,m,?_⟩
  .unfold iU;rw[if_neg<|by dsimp only;lia,if_neg<|by dsimp only;lia];rfl
  .exact xH m
 .have e:oP 2 n j=(n+1+2*j,1+2*j):=rfl;have m:∀p,bO p (n+1+2*j,1+2*j)=aI (bD 2 n) p:=λp=>by unfold bO;rw[if_pos<|by dsimp only;lia,if_pos<|by dsimp only;lia];show(p.2+(n+1+2*j-(1+2*j)),p.1-(n+1+2*j-(1+2*j)))=(0*p.1+1*p.2+n,1*p.1+0*p.2+-n);congr 1<;>lia
  rw[e];refine⟨a,λp=>?_,?_,m,?_⟩
  .unfold iU;rw[if_pos<|by dsimp only;lia,if_pos<|by dsimp only;lia];rfl
  .show n+1+2*j-(1+2*j)=n;lia
  .exact xH m
 .have e:oP 3 n j=(1+2*j,n-1-2*j):=rfl;have m:∀p,bO p (1+2*j,n-1-2*j)=aI (bD 3 n) p:=λp=>by unfold bO;rw[if_pos<|by dsimp only;lia,if_neg<|by dsimp only;lia];show(1+2*j+(n-1-2*j)-p.2,1+2*j+(n-1-2*j)-p.1)=(0*p.1+(-1)*p.2+n,(-1)*p.1+0*p.2+n);congr 1<;>lia
  rw[e];refine⟨a,λp=>?_,?_,m,?_⟩
  .unfold iU;rw[if_pos<|by dsimp only;lia,if_neg<|by dsimp only;lia];rfl
  .show 1+2*j+(n-1-2*j)=n;lia
  .exact xH m
theorem XU(a:0<=u/\u<4):atI [P (2+4*j) n,P n<|2+4*j,P (n+1+2*j)<|1+2*j,P (1+2*j)<|n-1-2*j] u=a7 (PP<|oP u n j):=by
 have:u=0\/u=1\/u=2\/u=3:=by lia
 rcases this with rfl|rfl|rfl|rfl<;>rfl
theorem XW{ps:jq}{i:Int}(a:0<=i)(h:i<ps.length):∃q,atI (ps.map PP) i=a7 (PP q):=by
 unfold atI;rw[wX a<|by rw[a0d];exact h];have b:i.toNat<ps.length:=by lia
 exact⟨ps[i.toNat],by rw[a0G,a0v,a0w b];rfl⟩
theorem XX(g:μ[p]?=a7 (.dT<|aW Z)):fS [.loc p] μ=a7 (.loc μ.length,μ++[.lst<|(Z.map (·.1)).map PP]):=by
 have e:(aW Z).map (λk=>D.tup<|k.1.map D.int)=(Z.map (·.1)).map PP:=by unfold aW;rw[a0x,a0x];rfl
 exact qM<|(Hc g).mpr<|by rw[e]
theorem XY{r:aG}{ps:jq}(g:μ[l]?=a7 (.lst<|ps.map PP))(h:0<ps.length):∃q,aC aE (aA 4) (aC bC (aC dM (aA 1)<|mC<|.int 64)<|aF dW<|aB (aA 4) aD) (a0::a7 (.int v)::a2::a3::a7 (.loc l)::r) μ=a7 (PP q,μ):=by
 have a:(0:Int)<((ps.map PP).length:Nat):=by rw[a0d];lia
 obtain⟨q,b⟩:=XW (ps:=ps) (i:=v/64%((ps.map PP).length:Nat)) (a5V _<|by lia) (by have:=a5g (v/64) a;rw[a0d]at this ⊢;exact this);refine⟨q,qM<|w_mOp.mpr ⟨_,rfl,bS<|b6 rfl rfl<|(wO (by decide)<|by decide).mpr<|cJ rfl<|(mZ g).mpr<|(gO a).mpr<|(gP g b).mpr rfl⟩⟩
theorem XZ{μ:Hm}{r:aG}k(a:0<=u/\u<4){Q:jz}(H:∀n μ',μ<+:μ'->n%4=0->Q (.int n,μ')):
  W (aC bI (aC bG (aC dM (aF (f (k+1) "_law_value")<|aB (aA 5)<|aB (aA 3) aD)<|mC<|.int 4)<|mC<|.int 4) (aC bG (aC bC (aC dM (aA 1)<|mC<|.int 4)<|mC<|.int 2)<|mC<|.int 4) (a0::a7 (.int v)::a2::a7 (.int u)::a4::a7 (PP q)::r) μ) Q:=by
 refine bS<|bS<|bS<|cJ rfl<|Ir k q u a _ _ λc b=>⟨_,rfl,?_⟩;simp only[wO (show(0:Int)<4 by decide)<|by decide,WE,gO<|show(0:Int)<2 by decide,w_addI,aL,aO,bM,w_mOp];exact H _ _ b<|by lia
theorem IK(h:t a μ=a7 (b,μ'))(c:b=b5):aZ t A B a μ=A a μ':=by unfold aZ;rw[h,c];rfl
theorem IL(h:t a μ=a7 (b,μ'))(c:b=b3):aZ t A B a μ=B a μ':=by unfold aZ;rw[h,c];rfl
theorem X0{r:aG}(b:n%4=0):∃a,a%4=0/\aZ (aS<|aC (aT b3) (aC bC (aC dM (aA 1)<|mC<|.int 8)<|mC<|.int 7)<|mC<|.int 3) (aR 6<|aC bG (mC<|.int 4)<|aC cB (aC bC (aA 2)<|aC bG (mC<|.int 2)<|aC kY (mC<|.int 10)<|mC<|.int 58)<|aC kY (mC<|.int 10)<|mC<|.int 58) bA (a0::a7 (.int v)::a7 (.int far)::a3::a4::a5::a7 (.int n)::r) μ=a7 (.nx,a0::a7 (.int v)::a7 (.int far)::a3::a4::a5::a7 (.int a)::r,μ):=by
 cases c:v/8%7==3
 .exact⟨n,b,IL (μ':=μ) (by kernel_rfl) c⟩
 .exact⟨4*(far%(2*10^58)-10^58),Int.mul_emod_right ..,(IK (μ':=μ) (by kernel_rfl) c).trans<|by kernel_rfl⟩
theorem X1{r:aG}:aC bC (aC dM (aA 2)<|mC<|.int 3) (mC<|.int 9) (a0::a::a7 (.int far)::r) μ=a7 (.int<|far/3%9,μ):=by kernel_rfl
theorem X2{r:aG}:∃b,aZ (aS<|aC (aT b3) (aC bC (aC dM (aA 1)<|mC<|.int 56)<|mC<|.int 5)<|mC<|.int 2) (aR 7<|aC bC (aC dM (aA 2)<|mC<|.int 7)<|aC kY (mC<|.int 10)<|mC<|.int 57) bA (a0::a7 (.int v)::a7 (.int far)::a3::a4::a5::a::a7 (.int j)::r) μ=a7 (.nx,a0::a7 (.int v)::a7 (.int far)::a3::a4::a5::a::a7 (.int b)::r,μ):=by
 cases c:v/56%5==2
 .exact⟨j,IL (μ':=μ) (by kernel_rfl) c⟩
 .exact⟨far/7%10^57,(IK (μ':=μ) (by kernel_rfl) c).trans<|by kernel_rfl⟩
theorem X3{r:aG}(a:0<=u/\u<4):aC aE (cQ<|aB (aX<|aB (aC bI (mC<|.int 2)<|aC bG (mC<|.int 4)<|aA 7)<|aB (aA 6) aD)<|aB (aX<|aB (aA 6)<|aB (aC bI (mC<|.int 2)<|aC bG (mC<|.int 4)<|aA 7) aD)<|aB (aX<|aB (aC bI (aC bI (aA 6)<|mC<|.int 1)<|aC bG (mC<|.int 2)<|aA 7)<|aB (aC bI (mC<|.int 1)<|aC bG (mC<|.int 2)<|aA 7) aD)<|aB (aX<|aB (aC bI (mC<|.int 1)<|aC bG (mC<|.int 2)<|aA 7)<|aB (aC cB (aC cB (aA 6)<|mC<|.int 1)<|aC bG (mC<|.int 2)<|aA 7) aD) aD) (aA 3) (a0::a7 (.int v)::a2::a7 (.int u)::a4::a5::a7 (.int n)::a7 (.int j)::r) μ=a7 (PP<|oP u n j,μ++[.lst [P (2+4*j) n,P n<|2+4*j,P (n+1+2*j)<|1+2*j,P (1+2*j)<|n-1-2*j]]):=by refine qM (b6 (x:=.loc μ.length) (μ1:=μ++[.lst [P (2+4*j) n,P n<|2+4*j,P (n+1+2*j)<|1+2*j,P (1+2*j)<|n-1-2*j]]) (by kernel_rfl) rfl<|(gP (bK _ _)<|XU a).mpr ?_);rfl
theorem X4:∃a o,aX (aB (aA 8)<|aB (aX<|aB (aA 3)<|aB (aA 6) aD)<|aB (aC (aT b3) (aC bC (aC dM (aA 1)<|mC<|.int 280)<|mC<|.int 2)<|mC<|.int 1)<|aB (aC (aT b3) (aC bC (aC dM (aA 1)<|mC<|.int 560)<|mC<|.int 2)<|mC<|.int 1) aD) [a0,a7<|.int v,a2,a7<|.int u,a4,a5,a7<|.int n,b,a7<|PP e] μ=a7 (.tup [PP e,.tup [.int u,.int n],.bl a,.bl o],μ):=⟨v/280%2==1,v/560%2==1,by kernel_rfl⟩
theorem X5 k{μ:Hm}(g:μ[p]?=a7 (.dT<|aW Z))(hz:0<Z.length)v c(Q:jz)(H:∀e u n a o b,μ<+:b->OnL e u n->n%4=0->Q (.tup [PP e,.tup [.int u,.int n],.bl a,.bl o],b)):W (f (k+2) "_law_plan" [.tup [i,.loc p],.int v,.int c] μ) Q:=by
 have d:0<=v%4/\v%4<4:=⟨a5V _<|by decide,a5g _<|by decide⟩;refine fX (Wr (k+1) _ _ _ μ)<|cG<|iV rfl<|cG<|cJ rfl<|iV (XX g)<|cG ?_;obtain⟨q,e⟩:=XY (μ:=μ++[.lst<|(Z.map (·.1)).map PP]) (l:=μ.length) (bK _ _) (by rw[a0d];exact hz);refine iV e<|cG<|XZ k d λs r m l=>iW ?_;obtain⟨n,h,e⟩:=X0 l;refine iV e ⟨rfl,cG<|bS ⟨_,X1,_,rfl,w_subI.mpr<|iW ?_⟩⟩;obtain⟨j,e⟩:=X2;refine iV e ⟨rfl,cG<|iV (X3 d) ?_⟩;obtain⟨a,o,e⟩:=X4;exact eY<|iV e<|H _ _ _ _ _ _ (((aU _ _).trans m).trans<|aU _ _) (XT d h j) h
structure StB(μ:Hm)(B:List Nat)(d:D)(F:Int×Int->Ly)(qs:jq)(G:Gr):Prop where
 ex:∃l p Z,d=.tup [.loc l,.loc p]/\μ[l]?=a7 (.dT<|a8 (λq=>LD<|F q) qs)/\HI μ p Z/\μ[p]?=a7 (.dT<|aW Z)/\GZ Z=G/\∀z∈Z,z.2.2∉B
theorem StB.st(S:StB μ B d F qs G)(h:b∈B):StZ μ b d F qs G:=by obtain⟨l,p,Z,e,g,I,i,a,k⟩:=S.ex;exact⟨l,p,Z,e,g,I,i,a,λz j c=>k z j<|c▸h⟩
theorem StB.keep(S:StB μ B d F qs G)(hB:∀c∈B,∃xs,μ[c]?=a7 (.lst xs))(h:∀c y,c∉B->μ[c]?=a7 y->μ'[c]?=a7 y):StB μ' B d F qs G:=by
 obtain⟨l,p,Z,e,b,I,i,q,n⟩:=S.ex;have o:∀c a,μ[c]?=a7 (.dT a)->c∉B:=λc a g m=>by obtain⟨xs,r⟩:=hB c m;rw[r]at g;cases g
 have j:=h p _ (o _ _ i) i;exact⟨l,p,Z,e,h l _ (o _ _ b) b,⟨.inl j,I.kd,λz k=>h _ _ (n z k)<|I.at_ z k⟩,j,q,n⟩
theorem StB.more{μ':Hm}(S:StB μ B d F qs G)(h:μ<+:μ'):StB μ' B d F qs G:=by obtain⟨l,p,Z,e,b,I,c,a,g⟩:=S.ex;exact⟨l,p,Z,e,aN h b,I.more h,aN h c,a,g⟩
theorem StB.new(g:μ[l]?=a7 (.dT<|a8 (λq=>LD<|F q) qs))(J:Pz μ n p Z)(b:∀c∈B,c<n):StB μ B (.tup [.loc l,.loc p]) F qs (GZ Z):=
 ⟨l,p,Z,rfl,g,⟨.inl J.dic,J.kd,λz a=>(J.at_ z a).2⟩,J.dic,rfl,λz a e=>by have:=(J.at_ z a).1;have:=b _ e;lia⟩
theorem StB.add(S:StB μ B d F qs G)(h:μ.length<=c):StB μ (c::B) d F qs G:=by
 obtain⟨l,p,Z,e,g,I,i,b,j⟩:=S.ex;refine⟨l,p,Z,e,g,I,i,b,λz a m=>?_⟩;rcases a0D.mp m with e|m
 .have:=(a0f.mp<|I.at_ z a).1;lia
 .exact j z a m
theorem X6 k(nd:qs.Nodup)(hl:qs.length<=36)(i1:μ[o]?=a7 (.ins "Folding"<|j5 w h b))(i2:μ[b]?=a7 (.lst<|xs++[d]))(hx:xs.length<=1000)(S:StZ μ b d F qs G)(K:Gd qs F G)(E:OnL e u n)(hn:n%4=0)(hN:B7 G (aY u n a)=b3)(Q:jz)(H:∀O i,(∀c y,c≠b->μ[c]?=a7 y->i[c]?=a7 y)->i[b]?=a7 (.lst<|xs++[d]++[O])->(∀B,(∀c∈B,c<μ.length)->StB i B O (b9 u n a F) qs (oN (aY u n a) (aI<|bD u n) x G))->Q (.non,i)):
  W (f (k+5) "Folding.fold" [.loc o,PP e,.bl a,.bl x] μ) Q:=by
 obtain⟨l,p,Z,rfl,g1,I,R,rfl,nb⟩:=S.ex;obtain⟨v1,T⟩:=XM K (u:=u) hn;obtain⟨_,_,lZ,Y⟩:=K.key;rw[Wx,W_fin,w_mSeq,w_mSet];refine IJ i1 i2 _ ?_;simp only[a0H,a0I,w_mSeq,w_mDrop,w_mCall,w_mCons,aV,w_mOp,bM,w_it21,aL,aO];refine XH (k+1) R (by lia) E (by rw[XI a T,IH];exact hN) _ λg s=>?_;have ib:b<μ.length:=(a0f.mp i2).1;simp only[w_mSet,w_mIfE,w_mTru,aL,aO,w_truB];have step:∀Q:jz,Q (.int<|sd a,g)->(if a=b5 then W ((mC<|.int 1) [a7<|.loc o,a7<|PP e,a7<|.bl a,a7<|.bl x,a7<|.tup [.loc l,.loc p],b0] g) Q else W ((cK<|mC<|.int 1) [a7<|.loc o,a7<|PP e,a7<|.bl a,a7<|.bl x,a7<|.tup [.loc l,.loc p],b0] g) Q):=λQ h=>by
  cases a with
  |true=>exact W_some.mpr h|false=>exact W_some.mpr h
 refine step _ ?_;simp only[a0H,a0I];refine iF<|qS ?_;simp only[aL];have L:=aN s i2;refine⟨o,_,_,rfl,aN s i1,rfl,by simp only[mG,L],?_⟩;simp only[w_mCons,aV,w_mTup,w_mCall,w_mOp,bM,w_it20,w_it21,aL,aO];refine Xf k K.di nd (by lia) E v1 (aN s g1) _ ?_;have j:μ<+:g++[C.dT<|a8 (λq=>LD<|b9 u n a F q) qs]:=s.trans<|aU _ _;have gl:(g++[C.dT<|a8 (λq=>LD<|b9 u n a F q) qs])[g.length]?=a7 (.dT<|a8 (λq=>LD<|b9 u n a F q) qs):=bK _ _;have hge:μ.length<=g.length:=s.length_le;have m:(g++[C.dT<|a8 (λq=>LD<|b9 u n a F q) qs]).length=g.length+1:=by rw[a0q];rfl
 generalize g++[C.dT<|a8 (λq=>LD<|b9 u n a F q) qs]=μ2 at j gl m;refine Xp (k+1) (I.more j) (aN j R) (by lia) (λz r=>by have:=Y z r;lia) E T _ λX v A J e3=>?_;refine⟨fH,(qL (aN (j.trans A) i2)<|by rw[a0q,a2s,a0O];lia).mpr ?_⟩;have M:b<v.length:=a0V ib (j.trans A).length_le;have ne:g.length≠b:=by lia
 have N:μ2.length≠b:=by lia
 refine H _ _ (λc y hc h=>by rw[a0p<|a1j hc];exact aN (j.trans A) h) (a1a M) ?_;have U:Pz (v.set b<|.lst<|xs++[.tup [.loc l,.loc p]]++[.tup [.loc g.length,.loc μ2.length]]) μ2.length μ2.length X:=
  ⟨by rw[a0p<|a1j N];exact J.dic,J.kd,λz r=>⟨(J.at_ z r).1,by rw[a0p<|by have:=(J.at_ z r).1;lia];exact(J.at_ z r).2⟩⟩
 intro B hB;have:=StB.new (B:=B) (l:=g.length) (F:=b9 u n a F) (qs:=qs) (by rw[a0p<|a1j ne];exact aN A gl) U λc hc=>by have:=hB c hc;lia
 rw[e3]at this;exact this
theorem X7 k(hw:1<=w/\w<=3)(v:1<=h/\h<=3)(μ:Hm)(Q:jz)(H:∀b d g,μ<+:g->b<g.length->μ.length<b->g[μ.length]?=a7 (.ins "Folding"<|j5 w h b)->g[b]?=a7 (.lst [d])->(∀B,(∀c∈B,c<μ.length\/c=b)->StB g B d (λ_=>bU) (b7 w h) (i9<|b7 w h))->Q (.non,g)):W (f (k+5) "Folding" [.loc μ.length,.int w,.int h]<|μ++[.ins "Folding" []]) Q:=by
 rw[WB,Ww,W_fin];simp only[w_mSeq,w_mDrop,w_mCall,w_mCons,aV,aL,aO];refine Xb k (by lia) (by lia) _ _ ?_;refine B5 ?_;simp only[aL,aO];refine⟨_,_,rfl,bK _ _,by decide,?_⟩;rw[tH,XQ];try dsimp only
 refine B5 ?_;simp only[aL,aO];refine⟨_,_,rfl,bK _ _,show(1:Nat)<100 by decide,?_⟩;rw[tH,XR];try dsimp only
 refine B5 ?_;simp only[w_mLst,w_mCall,w_mCons,aV,aL,aO];refine XO k hw v _ _ λl p S a m n J r=>⟨Bz,_,_,rfl,aN (m.trans<|aU _ _)<|bK _ _,show(2:Nat)<100 by decide,?_⟩;rw[XS];have o1:μ.length<a.length:=by have:=m.length_le;rw[a0q]at this;exact this
 have ne:a.length≠μ.length:=by lia
 have x:μ<+:(a++[C.lst [.tup [.loc l,.loc p]]]).set μ.length (.ins "Folding"<|j5 w h a.length):=gM (((aU _ _).trans m).trans<|aU _ _) (a0l _) _;have i:∀(c:Nat)(y:C),c≠μ.length->a[c]?=a7 y->((a++[C.lst [.tup [.loc l,.loc p]]]).set μ.length<|.ins "Folding"<|j5 w h a.length)[c]?=a7 y:=λc y hc e=>by rw[a0p<|a1j hc];exact aN (aU _ _) e
 have o:a[μ.length]?=a7 (.ins "Folding" [("wide",.int w),("high",.int h)]):=aN m<|bK _ _;have q:=i p _ (λe=>by have:=J.dic;rw[e,o]at this;cases this) J.dic;refine H a.length _ _ x (by rw[a1d,a0q];exact a1A _) o1 (a1a<|a0V o1 (aU a _).length_le) (by rw[a0p<|a1j ne];exact bK _ _) λB u=>⟨l,p,S,rfl,i l _ (λe=>by rw[e,o]at n;cases n) n,⟨.inl q,J.kd,λz j=>i _ _ (λe=>by have:=(J.at_ z j).2;rw[e,o]at this;cases this) (J.at_ z j).2⟩,q,r,λz j e=>?_⟩;have A:=(a0f.mp (J.at_ z j).2).1;have s:=(J.at_ z j).1;rw[a0q]at s;rcases u _ e with h|h<;>lia
theorem B8{Q:jz}(h:μ[a]?=a7 (.lst<|xs++[y])):W (k7 (.loc a) [] μ) Q↔Q (y,μ.set a<|.lst xs):=by
 have:k7 (.loc a) [] μ=a7 (y,μ.set a<|.lst xs):=by simp only[k7,h];simp
 rw[this];exact W_some
theorem X8 k(i1:μ[o]?=a7 (.ins "Folding"<|j5 w h b))(i2:μ[b]?=a7 (.lst<|xs++[d]++[e]))(Q:jz)(H:Q (.non,μ.set b<|.lst<|xs++[d])):W (f (k+2) "Folding.back" [.loc o] μ) Q:=by
 rw[Wy,W_fin,w_mSeq,w_mIfS,w_mTest,w_mOp];refine tL ?_;simp only[aL];refine⟨o,_,rfl,i1,rfl,?_⟩;simp only[aV];refine XJ k i1 i2 _ ?_;have ne:(((xs++[d]).length:Nat):Int)≠0:=by rw[a0q,a2s];lia
 simp only[bM,w_eqI,beq_eq_false_iff_ne.mpr ne,a0t,if_false,w_mNext,w_mDrop];refine iF<|qS ?_;simp only[aL];refine⟨o,_,_,rfl,i1,rfl,by simp only[mG,i2],?_⟩;simp only[aV];exact(B8 i2).mpr H
noncomputable abbrev MD(p:(Int×Int)×Str):D:=.tup [PP p.1,.str p.2]
theorem tR{μ:Hm}(h:a≠b):(μ.set a c)[b]?=μ[b]?:=a0p h
noncomputable def jB(a:List Int):Bool:=decide (a.length<=8)&&decide (a.length%2=0)&&a.all (λg=>decide<|1<=g)&&oI a==0
theorem X9 k i μ(Q:jz):W (f (k+1) "is_whole" [.int i] μ) Q↔Q (.bl b5,μ):=by rw[Hj,W_fin];simp only[w_mRet,w_mAndV,GV,w_mCall,w_mCons,aV,aL,bM,G6,G7];simp
theorem Yb:∀i,i.length<=8->i.length%2=0->∃es j:List Int,dU (i.map D.int) b0 b0 (a7 2)=es.map D.int/\dU (i.map D.int) (a7 1) b0 (a7 2)=j.map D.int/\es.sum-j.sum=oI i/\es.length<=8/\j.length<=8
 |[],_,_=>⟨[],[],rfl,rfl,rfl,by decide,by decide⟩|[_],_,h=>by simp at h
 |[a,b],_,_=>⟨[a],[b],by kernel_rfl,by kernel_rfl,by simp[oI]<;>lia,by simp,by simp⟩|[_,_,_],_,h=>by simp at h
 |[a,b,c,d],_,_=>⟨[a,c],[b,d],by kernel_rfl,by kernel_rfl,by simp[oI]<;>lia,by simp,by simp⟩|[_,_,_,_,_],_,h=>by simp at h
 |[a,b,c,d,e,g],_,_=>⟨[a,c,e],[b,d,g],by kernel_rfl,by kernel_rfl,by simp[oI]<;>lia,by simp,by simp⟩|[_,_,_,_,_,_,_],_,h=>by simp at h
 |[a,b,c,d,e,g,x,y],_,_=>⟨[a,c,e,x],[b,d,g,y],by kernel_rfl,by kernel_rfl,by simp[oI]<;>lia,by simp,by simp⟩|_::_::_::_::_::_::_::_::_::_,h,_=>absurd h<|by simp
theorem IM{a:List Int}(h:d∈a.map D.int):∃g∈a,d=.int g:=by obtain⟨g,b,rfl⟩:=a0u.mp h;exact⟨g,b,rfl⟩
theorem xI{a:Type}(l:List a):l.filter (λ_=>b5)=l:=by simp
theorem Yc k a b(hz:b.length<=1000)(μ:Hm)(Q:jz)(h:μ[a]?=a7 (.lst<|b.map D.int))(H:∀μ',μ<+:μ'->Q (.bl<|jB b,μ')):W (f (k+2) "is_good" [.loc a] μ) Q:=by
 rw[VY,W_fin];simp only[w_mSeq,w_mIfS,w_mOrT,w_mTest,w_mOp,w_mCall,w_mCons,aV,aL,bM];refine(mZ h).mpr ?_;simp only[w_gtI,a0d];by_cases p:(8:Int)<b.length
 .have e:jB b=false:=by unfold jB;rw[decide_eq_false<|show ¬ b.length<=8 by lia];rfl
  simp only[p,decide_true,if_true,w_mRet,bM];rw[<- e];exact H _<|a0E _
 .simp only[p,decide_false,a0t,if_false];refine(mZ h).mpr ?_;simp only[sY,w_eqI,a0d];by_cases s:(b.length:Int)%2=1
  .have e:jB b=false:=by unfold jB;rw[decide_eq_false<|show ¬ b.length%2=0 by lia];simp
   simp only[s,beq_self_eq_true,if_true,w_mRet,bM];rw[<- e];exact H _<|a0E _
  .have u:((b.length:Int)%2==1)=false:=by simpa using s
   simp only[u,a0t,if_false,w_mNext,w_mNotT,w_mTru,w_mCall,w_mCons,aV];refine fV (xs:=b.map D.int) (p:=λ_=>b5) (v:=λd=>.bl<|decide<|1<=o4 d) ?_;simp only[w_iSeq,aL];refine(eA h).mpr ?_;refine⟨jX h,rfl,by rw[a0d,a0O];lia,λd μ' hd w=>w_mTrue.mpr ⟨rfl,a0E _⟩,λd μ' hd _ w=>?_,λo c n=>?_⟩
   .obtain⟨g,_,rfl⟩:=IM hd;simp only[a0X,a1h,w_mAndV,w_mCall,w_mCons,aV,aL,aO,X9,if_true,w_mOp,bM,Vf];exact⟨rfl,a0E _⟩
   .have l:o[μ.length]?=a7 (.lst<|(b.map λg=>decide<|1<=g).map D.bl):=by rw[n,xI,a0x,a0x];rfl
    refine(Vm l).mpr ?_;have j:(b.map λg=>decide<|1<=g).all id=b.all λg=>decide (1<=g):=by rw[a8v];rfl
    rw[j];simp only[w_truB];cases q:b.all λg=>decide (1<=g)with
    |false=>
     have e:jB b=false:=by unfold jB;rw[q];simp
     simp only[a2E,if_true,w_mRet,bM];rw[<- e];exact H _ c
    |true=>
     simp only[a2N,a0t,if_false,w_mNext,w_mRet,w_mOp,w_mCall,w_mCons,aV];obtain⟨v,x,r,m,y,z,A⟩:=Yb b (by lia) (by lia);have i:=aN c h;refine Bs ?_;simp only[aL];refine⟨a,rfl,?_⟩;simp only[wU,wV,bM];refine⟨by decide,_,i,?_,?_⟩
     .rw[r,a0d,a0O];lia
     rw[r];refine(Ha<|bK _ _).mpr ?_;refine Bs ?_;simp only[aL];refine⟨a,rfl,?_⟩;simp only[wU,wV,bM];refine⟨by decide,_,aN (aU _ _) i,?_,?_⟩
     .rw[m,a0d,a0O];lia
     rw[m];refine(Ha<|bK _ _).mpr ?_;refine(w_eqI).mpr ?_;have e:jB b=(v.sum==x.sum):=by unfold jB;rw[q,decide_eq_true<|show b.length<=8 by lia,decide_eq_true<|show b.length%2=0 by lia];simp only[Bool.true_and];rw[a2c,beq_iff_eq,beq_iff_eq];lia
     rw[<- e];exact H _<|c.trans<|(aU _ _).trans<|aU _ _
noncomputable def mv(x y:Int)(l:jq):jq:=l.map λs=>(x+s.1,y+s.2)
theorem IP k x y l(e:l.length<=63)(μ:Hm)(Q:jz)(h:∀a μ',μ<+:μ'->μ'[a]?=a7 (.lst<|(mv x y l).map PP)->μ.length<=a->Q (.loc a,μ')):W (f (k+1) "moved_by" [P x y,.tup<|l.map PP] μ) Q:=by
 rw[VE,W_fin];simp only[w_mRet];refine fV (xs:=l.map PP) (p:=λ_=>b5) (v:=λd=>PP (x+(dH d).1,y+(dH d).2)) ?_;simp only[w_iSeq,aL,aO];refine w_seqT.mpr ?_;refine⟨wR,rfl,by rw[a0d,a0O];lia,λd μ' hd b=>W_some.mpr ⟨rfl,a0E _⟩,λd μ' hd _ b=>?_,λμ' b c=>?_⟩
 .obtain⟨u,v,rfl⟩:=lH hd;simp only[a0X,a1h,w_mTup,w_mOp,bM,w_mCons,aV,aL,aO,w_it20,w_it21,w_addI,fH,true_and];exact⟨rfl,a0E _⟩
 .refine h _ _ b ?_<|a0l _;rw[c,a4Q.mpr λ_ _=>rfl,a0x];unfold mv;rw[a0x];rfl
noncomputable def E8:jq:=[(2,0),(1,1),(0,2),(-1,1),(-2,0),(-1,-1),(0,-2),(1,-1)]
noncomputable def F4:jq:=[(1,1),(-1,1),(-1,-1),(1,-1)]
noncomputable def dD(x:Int):jq:=if x%4=0 then E8 else F4
theorem IQ k x y(μ:Hm)(Q:jz)(h:∀a μ',μ<+:μ'->μ'[a]?=a7 (.lst<|(mv x y<|dD x).map PP)->μ.length<=a->Q (.loc a,μ')):W (f (k+2) "edges_round" [P x y] μ) Q:=by
 rw[VF,W_fin];simp only[w_mRet,w_mCall,w_mCons,aV,aL,w_mIfE,w_mTest,w_mOp,bM,w_it20,sZ,w_eqI];unfold dD at h;by_cases e:x%4=0
 .rw[if_pos e]at h;rw[e];exact IP k x y E8 (by decide) μ _ h
 .rw[if_neg e]at h;rw[if_neg<|by simpa using e];exact IP k x y F4 (by decide) μ _ h
noncomputable def lL(x y:Int):Int×Int:=if y%4=0 then(0,y)else if x%4=0 then(1,x)else if x%4=y%4 then(2,x-y)else(3,x+y)
noncomputable def mirZ(p l:Int×Int):Int×Int:=if l.1=0 then(p.1,2*l.2-p.2)else if l.1=1 then(2*l.2-p.1,p.2)else if l.1=2 then(p.2+l.2,p.1-l.2)else(l.2-p.2,l.2-p.1)
theorem IS:∀ps:jq,rR (ps.map PP)=a7 (ps.map bE)
 |[]=>rfl|p::ps=>by rw[a0r];show(c5<|PP p).bind (λk=>(rR<|ps.map PP).map (k::·))=_;rw[IS ps];rfl
theorem Yd{ps:jq}(h:ps≠[]):mE (ps.map PP)=none:=by
 cases ps with
 |nil=>exact absurd rfl h|cons p ps=>rfl
theorem B9{a:Type}l(d:a):(a1o l.length).map (λi=>l.getD i d)=l:=by refine b0f (by simp) λi c b=>?_;simp[a1H,b]
noncomputable def oQ(x y:Int):jq:=if y%4=0 then[(x,y-1),(x,y+1)]else if x%4=0 then[(x-1,y),(x+1,y)]else[(x+2-x%4,y),(x,y+2-y%4)]
theorem qT kvs k:(bJ kvs k).isSome=kvs.any λp=>decide (p.1=k):=by unfold bJ;rw[a5e,a2c,List.find?_isSome,b0g]
theorem Ye(h:bJ kvs k=a7 d):(k,d)∈kvs:=by unfold bJ at h;obtain⟨p,a,rfl⟩:=a0g.mp h;have b:=a5Q a;have c:=a2K a;simp only[decide_eq_true_eq]at b;rw[<- b];exact c
theorem Yg kvs k k' d:(bJ (cS kvs k d) k').isSome=(decide (k=k')||(bJ kvs k').isSome):=by
 unfold cS;split
 .rename_i h;have e:(kvs.map λp=>if p.1=k then(p.1,d)else p).any (λp=>decide<|p.1=k')=kvs.any λp=>decide (p.1=k'):=by rw[a4q];congr 1;funext p;simp only[Function.comp];split<;>rfl
  rw[qT,e,qT kvs k'];by_cases z:k=k'
  .subst z;rw[qT]at h;rw[h];simp
  .simp[z]
 .rw[qT,List.any_append,qT];simp only[a4d,b1h,a5t];exact b1i _ _
theorem jC(h:1<=w/\w<=3):w∈[(1:Int),2,3]:=by
 have:w=1\/w=2\/w=3:=by lia
 rcases this with rfl|rfl|rfl<;>decide
noncomputable def xJ(k:Int)(p:Int×Int):Int×Int:=if k=0 then(p.1,-p.2)else if k=1 then(-p.1,p.2)else if k=2 then(p.2,p.1)else(-p.2,-p.1)
noncomputable def m9(k x y:Int):Int:=if k=0 then y else if k=1 then x else if k=2 then x-y else x+y
theorem Yh k x y p:mirZ (x+p.1,y+p.2) (k,m9 k x y)=(x+(xJ k p).1,y+(xJ k p).2):=by
 unfold mirZ xJ m9;dsimp only;by_cases a:k=0
 .simp only[a,if_true];exact a1g rfl<|by dsimp only;lia
 .by_cases b:k=1
  .subst b;simp only[if_true,a,if_false];exact a1g (by dsimp only;lia) rfl
  .by_cases c:k=2
   .subst c;simp only[if_true,a,b,if_false];exact a1g (by dsimp only;lia)<|by dsimp only;lia
   .simp only[a,b,c,if_false];exact a1g (by dsimp only;lia)<|by dsimp only;lia
noncomputable def tS(m:Int×Int->Bool)(es:jq)(p:Int×Int):Int×Int:=es.foldl (λp e=>if m e then mirZ p (lL e.1 e.2)else p) p
noncomputable def qU:List Int->List Bool->Int×Int->Int×Int
 |k::ks,b::bs,p=>qU ks bs (if b then xJ k p else p)|_,_,p=>p
theorem IT m x y:∀l ks p,ks.length=l.length->(∀q∈l.zip ks,lL (x+q.1.1) (y+q.1.2)=(q.2,m9 q.2 x y))->
  tS m (mv x y l) (x+p.1,y+p.2)=(x+(qU ks ((mv x y l).map m) p).1,y+(qU ks ((mv x y l).map m) p).2)
 |[],[],p,_,_=>rfl|[],_::_,_,h,_=>by simp at h
 |_::_,[],_,h,_=>by simp at h
 |o::l,k::ks,p,h,hl=>by
  have b:=hl (o,k) (by simp);have a:=λp=>IT m x y l ks p (by simpa using h) λq c=>hl q (by rw[a4g];exact a0F _ c);unfold tS mv at a ⊢;simp only[a0r,a3z,qU];dsimp only at b;cases d:m (x+o.1,y+o.2)with
  |true=>simp only[if_true];rw[b,Yh];exact a _|false=>simp only[a0t,if_false];exact a p
noncomputable def K8:List Int:=[0,2,1,3,0,2,1,3]
noncomputable def K4:List Int:=[2,3,2,3]
theorem Yi(d:x%4=0)(g:y%4=0):∀q∈E8.zip K8,lL (x+q.1.1) (y+q.1.2)=(q.2,m9 q.2 x y):=by
 have e:∀{a b:Int}{k n:Int},(if b%4=0 then(0,b)else if a%4=0 then(1,a)else if a%4=b%4 then(2,a-b)else(3,a+b):Int×Int)=(k,n)->lL a b=(k,n):=λh=>h;intro q c;simp only[E8,K8,a4g,a6H,a0D,a3a,or_false]at c;rcases c with rfl|rfl|rfl|rfl|rfl|rfl|rfl|rfl<;>refine e ?_<;>dsimp only[m9]
 .rw[if_pos<|by lia];exact a1g rfl<|by simp
 .rw[if_neg<|by lia,if_neg<|by lia,if_pos<|by lia];exact a1g rfl<|by simp<;>lia
 .rw[if_neg<|by lia,if_pos<|by lia];exact a1g rfl<|by simp
 .rw[if_neg<|by lia,if_neg<|by lia,if_neg<|by lia];exact a1g rfl<|by simp<;>lia
 .rw[if_pos<|by lia];exact a1g rfl<|by simp
 .rw[if_neg<|by lia,if_neg<|by lia,if_pos<|by lia];exact a1g rfl<|by simp<;>lia
 .rw[if_neg<|by lia,if_pos<|by lia];exact a1g rfl<|by simp
 .rw[if_neg<|by lia,if_neg<|by lia,if_neg<|by lia];exact a1g rfl<|by simp<;>lia
theorem Yj(d:x%4=2)(g:y%4=2):∀q∈F4.zip K4,lL (x+q.1.1) (y+q.1.2)=(q.2,m9 q.2 x y):=by
 have e:∀{a b:Int}{k n:Int},(if b%4=0 then(0,b)else if a%4=0 then(1,a)else if a%4=b%4 then(2,a-b)else(3,a+b):Int×Int)=(k,n)->lL a b=(k,n):=λh=>h;intro q c;simp only[F4,K4,a4g,a6H,a0D,a3a,or_false]at c;rcases c with rfl|rfl|rfl|rfl<;>refine e ?_<;>dsimp only[m9]
 .rw[if_neg<|by lia,if_neg<|by lia,if_pos<|by lia];exact a1g rfl<|by simp<;>lia
 .rw[if_neg<|by lia,if_neg<|by lia,if_neg<|by lia];exact a1g rfl<|by simp<;>lia
 .rw[if_neg<|by lia,if_neg<|by lia,if_pos<|by lia];exact a1g rfl<|by simp<;>lia
 .rw[if_neg<|by lia,if_neg<|by lia,if_neg<|by lia];exact a1g rfl<|by simp<;>lia
noncomputable def D3:jq:=[(0,0),(2,1),(1,-2)]
noncomputable def jD(m:Int×Int->Bool)(x y:Int):Bool:=D3.all λd=>tS m (mv x y<|dD x) (x+d.1,y+d.2)==(x+d.1,y+d.2)
noncomputable def xK(ks:List Int)(bs:List Bool):Bool:=D3.all λd=>qU ks bs d==d
noncomputable def kR(bs:List Bool):List Int:=((a1o bs.length).filter λi=>bs.getD i b3).map λ(i:Nat)=>(i:Int)
noncomputable def oR(bs:List Bool):List Int:=((kR bs).zip<|(kR bs).drop 1++((kR bs).take 1).map λs=>s+(bs.length:Int)).map λp=>(p.2-p.1)*(8/(bs.length:Int))
theorem Yk:∀a b c d e g h i,jB (oR [a,b,c,d,e,g,h,i])=xK K8 [a,b,c,d,e,g,h,i]:=by decide +kernel
theorem Yl:∀a b c d,jB (oR [a,b,c,d])=xK K4 [a,b,c,d]:=by decide +kernel
theorem IU(a:dD x=l)(b:ks.length=l.length)(c:∀q∈l.zip ks,lL (x+q.1.1) (y+q.1.2)=(q.2,m9 q.2 x y)):jD m x y=xK ks ((mv x y l).map m):=by unfold jD xK;rw[a];congr 1;funext d;rw[IT m x y l ks d b c];generalize qU ks ((mv x y l).map m) d=q;rw[a2c];simp only[beq_iff_eq,a6N];lia
theorem Ym(c:x%2=0)(b:x%4=y%4):jB (oR<|(mv x y<|dD x).map m)=jD m x y:=by
 by_cases h:x%4=0
 .have a:dD x=E8:=by unfold dD;rw[if_pos h]
  rw[IU a rfl<|Yi h<|by lia,a];exact Yk _ _ _ _ _ _ _ _
 .have a:dD x=F4:=by unfold dD;rw[if_neg h]
  rw[IU a rfl<|Yj (by lia)<|by lia,a];exact Yl _ _ _ _
noncomputable def fY(p:Int×Int):Bool:=p.1%2==0&&p.1%4==p.2%4
theorem Yn k x y μ(Q:jz):W (f (k+1) "is_corner" [P x y] μ) Q↔Q (.bl<|fY (x,y),μ):=by rw[Vx,W_fin];simp only[w_mRet,w_mAndV,w_mOp,bM,aL,w_it20,w_it21,w_eqI,sY,sZ];unfold fY;cases x%2==0<;>simp
theorem Yo k w h(hw:1<=w/\w<=3)(j:1<=h/\h<=3)(μ:Hm)(Q:jz)(H:∀a μ',μ<+:μ'->μ'[a]?=a7 (.lst<|((eJ w h).filter fY).map PP)->Q (.loc a,μ')):W (f (k+2) "corners_in" [.int w,.int h] μ) Q:=by
 rw[VW,W_fin];simp only[w_mRet];refine fV (xs:=(eJ w h).map PP) (p:=λd=>fY<|dH d) (v:=λd=>d) ?_;simp only[w_iSeq,w_mCall,w_mCons,aV,aL,aO];refine BS _ w h (by lia) (by lia) _ _ λa i g c l=>?_;refine(eA c).mpr ⟨jX c,rfl,?_,λd μ' hd b=>?_,λd μ' hd _ b=>?_,λμ' b e=>?_⟩
 .have:=BU (w:=w) (h:=h) (by lia) (by lia);rw[a0d,a0O];lia
 .obtain⟨u,v,rfl⟩:=lH hd;simp only[a0X,a1h,w_mTru,w_mCall,w_mCons,aV,aL,aO,Yn,w_truB];exact⟨rfl,a0E _⟩
 .simp only[a0X,a1h,aL,aO];exact⟨trivial,a0E _⟩
 .refine H _ _ (g.trans b) ?_;rw[e,m3 fY]
noncomputable def bX(ms:List ((Int×Int)×Str))(p:Int×Int):Bool:=(ms.map (·.1)).any λq=>q==p
theorem IV:∀ms:List<|(Int×Int)×Str,pY (ms.map MD)=a7 (ms.map λm=>(bE m.1,D.str m.2))
 |[]=>rfl|m::ms=>by rw[a0r,a0r];show(c5<|PP m.1).bind (λk=>(pY<|ms.map MD).map λl=>(k,D.str m.2)::l)=_;rw[IV ms];rfl
theorem IW k:∀(l kvs:jx),(bJ (l.foldl (λq p=>cS q p.1 p.2) kvs) k).isSome=((bJ kvs k).isSome||l.any λp=>decide<|p.1=k)
 |[],kvs=>by simp
 |p::l,kvs=>by rw[a3z,IW k l,Yg,a4d];cases decide (p.1=k)<;>cases(bJ kvs k).isSome<;>simp
theorem Ca p q:decide (bE p=bE q)=(p==q):=by rw[a2c];simp only[decide_eq_true_eq,beq_iff_eq,bE,a4y,and_true,a6N]
theorem IX ms p:(bJ ((ms.map λm=>(bE m.1,D.str m.2)).foldl (λq p=>cS q p.1 p.2) [])<|bE p).isSome=bX ms p:=by rw[IW];unfold bX;rw[a4q,a4q];show(b3||_)=_;rw[Bool.false_or];congr 1;funext m;exact Ca m.1 p
theorem Cb{Q:jz}:W (aE (.tup [a,b,c]) (.int 2) μ) Q↔Q (c,μ):=W_some
theorem Cd{Q:jz}:W (aE (.tup [a,b,c]) (.int 0) μ) Q↔Q (a,μ):=W_some
theorem Ce{Q:jz}:W (aE (.tup [a,b,c]) (.int 1) μ) Q↔Q (b,μ):=W_some
noncomputable abbrev SH(w h:Int)(ms:List ((Int×Int)×Str)):D:=.tup [.int w,.int h,.tup<|ms.map MD]
theorem IY{ms:List ((Int×Int)×Str)}{Q:jz}:W (n9 [.tup<|ms.map MD] μ) Q↔Q (.loc μ.length,μ++[.dT<|(ms.map λm=>(bE m.1,D.str m.2)).foldl (λq p=>cS q p.1 p.2) []]):=by
 have:n9 [.tup<|ms.map MD] μ=a7 (.loc μ.length,μ++[.dT<|(ms.map λm=>(bE m.1,D.str m.2)).foldl (λq p=>cS q p.1 p.2) []]):=by simp only[n9,IV,a0M]
 rw[this];exact W_some
theorem Yp k w h ms x y(μ:Hm)(Q:jz)(H:∀a μ',μ<+:μ'->μ'[a]?=a7 (.lst<|((mv x y<|dD x).filter<|bX ms).map PP)->Q (.loc a,μ')):W (f (k+3) "creases_at" [SH w h ms,P x y] μ) Q:=by
 rw[VZ,W_fin];simp only[w_mSeq,w_mSet,w_mCall,w_mCons,aV,aL,aO];rw[Hk,W_fin];simp only[w_mRet,w_mCall,w_mCons,aV,w_mOp,aL,bM,Cb,IY,a0H,a0I];refine fV (xs:=(mv x y<|dD x).map PP) (p:=λd=>bX ms<|dH d) (v:=λd=>d) ?_;simp only[w_iSeq,w_mCall,w_mCons,aV,aL,aO];refine IQ k x y _ _ λa i e c j=>?_;refine(eA c).mpr ⟨jX c,rfl,?_,λd μ' hd b=>?_,λd μ' hd _ b=>?_,λμ' b g=>?_⟩
 .rw[a0d,a0O];unfold mv dD;rw[a0d];split<;>decide
 .obtain⟨u,v,rfl⟩:=lH hd;simp only[a0X,a1h,w_mTest,w_mOp,aL,aO];refine(Bw (aN (e.trans b)<|bK _ _)<|cX (u,v)).mpr ?_;simp only[a0t,if_false];exact⟨IX ms (u,v),a0E _⟩
 .simp only[a0X,a1h,aL,aO];exact⟨trivial,a0E _⟩
 .refine H _ _ ((aU _ _).trans<|e.trans b) ?_;rw[g,m3<|bX ms]
theorem IZ μ q:∀ps:jq,mM μ (PP q) (ps.map PP)=a7 (ps.map λp=>p==q)
 |[]=>rfl|p::ps=>by rw[a0r,a0r];simp only[mM,IZ μ q ps];rw[G4 6];rfl
theorem Cf{ps:jq}{Q:jz}(h:μ[a]?=a7 (.lst<|ps.map PP))(c:q∈ps)(hz:ps.length<=a0s):W (kJ (.loc a) [PP q] μ) Q↔Q (.int (ps.idxOf q:Nat),μ):=by
 have e:(ps.map λp=>p==q).findIdx id=ps.idxOf q:=by rw[List.findIdx_map];rfl
 have b:ps.idxOf q<ps.length:=a4S c;simp only[kJ,h,IZ,a0G];rw[e,a0d,if_pos ⟨b,hz⟩];exact W_some
theorem Yq{es:jq}(d:es.Nodup)(a:i<es.length):es.idxOf (es.getD i (0,0))=i:=by
 have e:es.getD i (0,0)=es[i]:=by simp[a1H,a]
 rw[e];have b:es.idxOf es[i]<es.length:=a4S<|a5B a;have c:es[es.idxOf es[i]]=es[i]:=a9v b;rcases a7e (es.idxOf es[i]) i with h|h|h
 .exact absurd c<|(a3W.mp d) _ i b a h
 .exact h
 .exact absurd c.symm<|(a3W.mp d) i _ a b h
theorem Ja{es:jq}(d:es.Nodup)m:(es.filter m).map (λq=>((es.idxOf q:Nat):Int))=kR (es.map m):=by
 have b:es.filter m=((a1o es.length).filter λi=>m<|es.getD i (0,0)).map λi=>es.getD i (0,0):=by
  conv=>lhs;rw[<- B9 es (0,0)]
  rw[a4I];rfl
 unfold kR;rw[b,a0x,a0d];have c:(a1o es.length).filter (λi=>m<|es.getD i (0,0))=(a1o es.length).filter λi=>(es.map m).getD i false:=by refine a9V λi a=>?_;have a:=a2u.mp a;simp[a1H,a]
 rw[<- c];refine a1v λi a=>?_;have a:=a2u.mp (a0Y.mp a).1;show((es.idxOf (es.getD i (0,0)):Nat):Int)=_;rw[Yq d a]
theorem Yr x y(h:l.Nodup):(mv x y l).Nodup:=by unfold mv;show List.Pairwise _ _;rw[a9T];refine b1w (λ{a b} c e=>c ?_) h;simp only[a6N]at e ⊢;lia
theorem Ys x:(dD x).Nodup:=by unfold dD;split<;>decide
theorem Jb x:(dD x).length=8\/(dD x).length=4:=by
 unfold dD;split
 .exact .inl rfl
 .exact .inr rfl
theorem Yt(is:List Int):kE (is.map D.int) (a7 1) b0=(is.drop 1).map D.int:=by
 cases is with
 |nil=>rfl|cons a l=>unfold kE;rw[show(1:Int)=((1:Nat):Int)from rfl,HT.sIx_nat,HT.sIx_none,a0d,a7J<|by simp,<- List.map_drop,a5I<|by rw[a0d,a5A];lia]
theorem Yu(is:List Int):kE (is.map D.int) b0 (a7 1)=(is.take 1).map D.int:=by
 cases is with
 |nil=>rfl|cons a l=>unfold kE;rw[show(1:Int)=((1:Nat):Int)from rfl,HT.sIx_nat,HT.sIx_none,a0d,a7J<|by simp,b0A,b1v,a8j]
noncomputable def oS(is a:List Int):List D:=(is.zip a).map PP
theorem Yv{μ:Hm}(e:μ[a]?=a7 (.lst<|is.map D.int))(g:μ[b]?=a7 (.lst<|c.map D.int)):∀μ' i,μ<+:μ'->sC (.loc a) (.loc b) μ' i=a7 (oS is c)[i]?:=λμ' i d=>by simp only[sC,bF,aN d e,aN d g,a0G,a0M];unfold oS List.zip;rw[a0v,a0v,a0v,a8J];cases is[i]?<;>cases c[i]?<;>rfl
theorem Yw k w h ms x y(μ:Hm)(Q:jz)(H:∀a μ',μ<+:μ'->μ'[a]?=a7 (.lst<|(oR<|(mv x y<|dD x).map<|bX ms).map D.int)->Q (.loc a,μ')):W (f (k+4) "gaps_at" [SH w h ms,P x y] μ) Q:=by
 have A:=Jb x;have j:(mv x y<|dD x).length=(dD x).length:=by unfold mv;rw[a0d]
 have l:=Yr x y<|Ys x;rw[V0,W_fin];simp only[w_mSeq,w_mSet,w_mCall,w_mCons,aV,aL,aO];refine IQ (k+1) x y _ _ λa1 μ1 X M l1=>?_;simp only[a0H,a0I,aL,aO];refine Yp k w h ms x y _ _ λa2 G J p=>?_;simp only[a0H,a0I];have c:=aN J M;generalize hes:mv x y (dD x)=es at c p j l H;have B:(es.filter<|bX ms).length<=8:=a1l (a0Z _ _) (by lia);refine fV (xs:=(es.filter<|bX ms).map PP) (p:=λ_=>b5) (v:=λd=>.int ((es.idxOf (dH d):Nat):Int)) ?_;simp only[w_iSeq,aL,aO];refine(eA p).mpr ⟨jX p,rfl,by rw[a0d,a0O];lia,λd μ' hd e=>w_mTrue.mpr ⟨rfl,a0E _⟩,λd μ' hd _ e=>?_,λb K N=>?_⟩
 .obtain⟨q,T,rfl⟩:=a0u.mp hd;refine iF ?_;simp only[a0X,a1h,aL,aO];refine⟨jY<|aN e c,?_⟩;simp only[w_mCons,aV,aL,aO];exact(Cf (aN e c) (a0Y.mp T).1<|by rw[a0O];lia).mpr ⟨rfl,a0E _⟩
 .have g:b[G.length]?=a7 (.lst<|(kR<|es.map<|bX ms).map D.int):=by rw[N,xI,a0x,<- Ja l,a0x];rfl
  have E:(kR<|es.map<|bX ms).length<=8:=by rw[<- Ja l,a0d];exact B
  generalize hix:kR (es.map<|bX ms)=is at g E;simp only[w_mOp];refine G8 ?_;simp only[aL,aO,wV,bM,wU];refine⟨_,rfl,_,g,?_⟩;rw[Yt];have I:=aN (aU b<|C.lst<|(is.drop 1).map D.int) g;have n:=aN (K.trans<|aU b<|C.lst<|(is.drop 1).map D.int) c;refine fV (xs:=(is.take 1).map D.int) (p:=λ_=>b5) (v:=λd=>.int<|o4 d+(es.length:Int)) ?_;simp only[w_iSeq];refine G8 ?_;simp only[aL,aO,wV,bM,wU];refine⟨_,rfl,_,I,?_⟩;rw[Yu];refine(eA<|bK _ _).mpr ⟨jX<|bK _ _,rfl,by rw[a0d,a1w,a0O];lia,λd μ' hd e=>w_mTrue.mpr ⟨rfl,a0E _⟩,λd μ' hd _ e=>?_,λm Y O=>?_⟩
  .obtain⟨i,_,rfl⟩:=IM hd;simp only[a0X,a1h,w_mOp,aL,aO,w_mCall,w_mCons,aV];refine(mZ<|aN ((aU _ _).trans e) n).mpr ?_;simp only[w_addI,a0d];exact⟨rfl,a0E _⟩
  .have L:=(aU (b++[C.lst<|(is.drop 1).map D.int])<|C.lst<|(is.take 1).map D.int).trans Y;have r:m[(b++[C.lst<|(is.drop 1).map D.int]++[C.lst<|(is.take 1).map D.int]).length]?=a7 (.lst<|((is.take 1).map λs=>s+(es.length:Int)).map D.int):=by rw[O,xI,a0x,a0x];rfl
   have u:=aN L<|bK b<|C.lst<|(is.drop 1).map D.int;refine(Bq u r<|by rw[a0d,a0d,a0d,a5A,a1w,a0O];lia).mpr ?_;rw[<- a0z];simp only[a0H,a0I,w_mOp,bM,w_mCall,w_mCons,aV,aL,aO];have o:=L.trans<|aU m<|C.lst<|(is.drop 1++(is.take 1).map λs=>s+(es.length:Int)).map D.int;refine(mZ<|aN o n).mpr ?_;rw[a0d];refine(wO (by lia)<|by lia).mpr ?_;simp only[a0H,a0I,w_mRet];have v:=aN o I;have z:=bK m<|C.lst<|(is.drop 1++(is.take 1).map λs=>s+(es.length:Int)).map D.int;generalize hjs:is.drop 1++(is.take 1).map (λs=>s+(es.length:Int))=js at v z o;have U:(oS is js).length<=8:=by unfold oS;rw[a0d,a7x];lia
   have h8:8/(es.length:Int)=1\/8/(es.length:Int)=2:=by
    rcases A with h|h
    .left;rw[j,h];rfl
    .right;rw[j,h];rfl
   refine Hb (xs:=oS is js) (x:=λd=>[a7<|.int (dH d).1,a7<|.int (dH d).2]) (p:=λ_=>b5) (v:=λd=>.int<|((dH d).2-(dH d).1)*(8/(es.length:Int))) ?_;refine Vq ?_;simp only[w_mCons,aV,aL,aO];refine⟨_,_,_,_,rfl,v,z,Yv v z,?_,by rw[a0O];lia,λd μ' hd=>?_,λd μ' hd e=>w_mTrue.mpr ⟨rfl,a0E _⟩,λd μ' hd _ e=>?_,λμ8 Z R=>?_⟩
   .unfold oS;simp only[a0d,a7x]
   .obtain⟨q,_,rfl⟩:=a0u.mp hd;rfl
   .obtain⟨q,_,rfl⟩:=a0u.mp hd;simp only[a0X,a1h,w_mOp,aL,aO,w_subI];exact(jW<|.inr<|by lia).mpr ⟨rfl,a0E _⟩
   .refine H _ _ (X.trans<|J.trans<|K.trans<|(aU _ _).trans<|o.trans Z) ?_;rw[R,xI];unfold oS oR;rw[hix,a0d,hjs,a0x,a0x];rfl
theorem Yx{a:Type}{l A B:List a}{x:a}{q:a->Bool}(b:l=A++x::B)(hA:∀y∈A,q y=b3)(c:q x=b5):l.find? q=a7 x:=by
 rw[b,a6T];have:A.find? q=none:=a2x.mpr λy d=>by rw[hA y d];exact a0K
 rw[this,List.find?_cons_of_pos c];rfl
theorem Yy{a:Type}{l:List a}{x:a}(h:l[i]?=a7 x):l=l.take i++x::l.drop (i+1):=by obtain⟨b,rfl⟩:=a0f.mp h;rw[<- a8b b,a3d]
noncomputable def oT(ms:List ((Int×Int)×Str))(p:Int×Int):Bool:=fY p&&!(jD (bX ms) p.1 p.2)
noncomputable def Jc:Option (Int×Int)->D
 |none=>.non|some p=>PP p
theorem Yz bs:(oR bs).length<=bs.length:=by
 unfold oR;rw[a0d,a7x];have:(kR bs).length<=bs.length:=by unfold kR;rw[a0d];exact a1l (a0Z _ _)<|by simp
 lia
theorem Jd(h:fY p=b5):p.1%2=0/\p.1%4=p.2%4:=by unfold fY at h;simpa using h
theorem YA k(hw:1<=w/\w<=3)(J:1<=h/\h<=3)ms(μ:Hm)(Q:jz)(H:∀μ',μ<+:μ'->Q (Jc<|(eJ w h).find?<|oT ms,μ')):W (f (k+5) "barred" [SH w h ms] μ) Q:=by
 rw[V1,W_fin];simp only[w_mSeq,w_mForI,w_iSeq,w_mCall,w_mCons,aV,w_mOp,aL,bM,Cd,Ce];refine Yo (k+2) w h hw J _ _ λa r v n=>?_;refine(eA n).mpr ?_;have I:(eJ w h).find? (oT ms)=((eJ w h).filter fY).find? λp=>!(jD (bX ms) p.1 p.2):=by rw[List.find?_filter];congr 1;funext p;unfold oT;cases fY p<;>cases jD (bX ms) p.1 p.2<;>simp
 rw[I]at H;generalize hcs:(eJ w h).filter fY=cs at n H;have o:∀p∈cs,fY p=true:=λp j=>by rw[<- hcs]at j;exact(a0Y.mp j).2
 refine lF (xs:=cs.map PP) (λi m μ'=>r<+:μ'/\(∀q∈cs.take i,(!(jD (bX ms) q.1 q.2))=b3)/\∃o1,m=[a7<|SH w h ms,o1]) ⟨a0E _,λq l=>by simp at l,b0,rfl⟩ (λi m μ' G=>aN G.1 n) ?_ ?_
 .rintro i d m s hd ⟨j,g,o1,rfl⟩;obtain⟨⟨x,y⟩,l,rfl⟩:=m7 hd;have hc:=Jd<|o _<|a0S l;refine⟨_,rfl,?_⟩;simp only[a0H,a0I,w_mIfS,w_mNotT,w_mTru,w_mCall,w_mCons,aV,aL,aO];refine Yw k w h ms x y _ _ λb L z B=>?_;refine Yc (k+2) b _ ?_ _ _ B λM A=>?_
  .have E:=Yz<|(mv x y<|dD x).map<|bX ms;rw[a0d]at E;have N:(mv x y<|dD x).length=(dD x).length:=by unfold mv;rw[a0d]
   have:=Jb x;lia
  rw[Ym hc.1 hc.2];simp only[w_truB];cases u:jD (bX ms) x y with
  |true=>
   simp only[a2N,a0t,if_false,w_mNext];refine⟨j.trans<|z.trans A,λq c=>?_,_,rfl⟩;rw[a6d,l]at c;rcases a1t.mp c with c|c
   .exact g q c
   .have:q=(x,y):=by simpa using c
    rw[this,u];rfl
  |false=>simp only[a2E,if_true,w_mRet,aL,aO];have e:=Yx (q:=λp=>!(jD (bX ms) p.1 p.2)) (Yy l) g (by dsimp only;rw[u];rfl);rw[e]at H;exact H _<|v.trans<|j.trans<|z.trans A
 .rintro m s ⟨j,g,o1,rfl⟩;simp only[w_mRet,bM];rw[a0d,a1N]at g;have e:cs.find? (λp=>!(jD (bX ms) p.1 p.2))=none:=a2x.mpr λy K=>by rw[g y K];exact a0K
  rw[e]at H;exact H _<|v.trans j
noncomputable def st(m:Int×Int->Bool)(e:Int×Int)(A:Ly):Ly:=if m e then bR (dR e) A else A
theorem YB m e A:st m e (st m e A)=A:=by
 unfold st;cases m e with
 |false=>rfl|true=>simp only[if_true];rw[<- tG,WO,BG]
theorem YC(h:Dih A):Dih (st m e A):=by
 unfold st;split
 .exact w4 (wY e) h
 .exact h
noncomputable def jE(m:Int×Int->Bool)(e p:Int×Int):Int×Int:=if m e then bO p e else p
theorem YD m e p:jE m e (jE m e p)=p:=by
 unfold jE;split
 .exact Hs p e.1 e.2
 .rfl
theorem YE m e p A:aI (st m e A) p=aI A (jE m e p):=by
 unfold st jE;split
 .rw[kQ,kP]
 .rfl
noncomputable def xM(m:Int×Int->Bool)(es:jq)(A:Ly):Ly:=es.foldl (λA e=>st m e A) A
theorem Je m p:∀es A,aI (xM m es A) p=aI A (es.foldr (jE m) p)
 |[],A=>rfl|e::es,A=>by show aI (xM m es<|st m e A) p=_;rw[Je m p es,YE];rfl
theorem Jf m:∀(es:jq)p,es.foldr (jE m) (es.foldl (λp e=>jE m e p) p)=p
 |[],p=>rfl|e::es,p=>by rw[a3z,List.foldr_cons,Jf m es,YD]
theorem YF(h:lI e.1 e.2=b5)p:bO p e=mirZ p (lL e.1 e.2):=by
 unfold lI at h;simp only[a3m,a0j,beq_iff_eq]at h;unfold bO lL mirZ;rcases h with h|h
 .rw[if_pos h.1,if_neg<|show ¬ e.2%4=0 by lia,if_neg<|show ¬ e.1%4=0 by lia];by_cases z:e.1%4=e.2%4
  .rw[if_pos z,if_pos z];rfl
  .rw[if_neg z,if_neg z];rfl
 .rw[if_neg<|show ¬ e.1%2=1 by lia];by_cases z:e.2%4=0
  .rw[if_pos z,if_pos z];rfl
  .rw[if_neg z,if_neg z,if_pos<|show e.1%4=0 by lia];rfl
theorem Jg(e:x%4=a%4)(g:y%4=b%4)(h:lI a b=b5):lI x y=true:=by
 have c:x%2=a%2:=by lia
 have d:y%2=b%2:=by lia
 unfold lI at *;rw[c,d,e,g];exact h
theorem YG(c:x%2=0)(b:x%4=y%4):∀e∈mv x y (dD x),lI e.1 e.2=true:=by
 intro e a;obtain⟨d,hd,rfl⟩:=a0u.mp a;unfold dD at hd;split at hd
 .exact Jg (a:=d.1) (b:=d.2) (by dsimp only;lia) (by dsimp only;lia)<|(by decide:∀d∈E8,lI d.1 d.2=b5) d hd
 .exact Jg (a:=2+d.1) (b:=2+d.2) (by dsimp only;lia) (by dsimp only;lia)<|(by decide:∀d∈F4,lI (2+d.1) (2+d.2)=b5) d hd
theorem Jh:∀{es},(∀e∈es,lI e.1 e.2=b5)->∀p,es.foldl (λp e=>jE m e p) p=tS m es p
 |[],_,p=>rfl|e::es,h,p=>by have b:=Jh (m:=m) (es:=es) (λx a=>h x<|a0F _ a)<|jE m e p;rw[a3z,b];unfold jE tS;rw[YF<|h e<|a0P ..,a3z]
noncomputable def j6(e q:Int×Int):Int×Int:=match oQ e.1 e.2 with
 |[a,b]=>if q=a then b else a|_=>q
noncomputable def Ji(L:Int×Int->Ly)(m:Int×Int->Bool)(e:Int×Int):Prop:=∀q∈oQ e.1 e.2,L (j6 e q)=st m e (L q)
noncomputable def Cg(q:Int×Int)(es:jq):Int×Int:=es.foldl (λq e=>j6 e q) q
noncomputable def xN:Int×Int->jq->Bool
 |_,[]=>b5|q,e::es=>decide (q∈oQ e.1 e.2)&&xN (j6 e q) es
theorem Jj:∀es q,(∀e∈es,Ji L m e)->xN q es=b5->L (Cg q es)=xM m es (L q)
 |[],q,_,_=>rfl|e::es,q,h,hb=>by rw[xN,a0j,decide_eq_true_eq]at hb;show L (Cg (j6 e q) es)=xM m es (st m e<|L q);rw[Jj es (j6 e q) (λx a=>h x<|a0F _ a) hb.2,h e (a0P ..) q hb.1]
noncomputable def oU(c:Int×Int):jq:=mv c.1 c.2<|dD c.1
noncomputable def tT(c:Int×Int):Int×Int:=if c.1%4=0 then(c.1+2,c.2-1)else(c.1+1,c.2)
noncomputable def Jk(c:Int×Int):Bool:=xN (tT c) (oU c)&&decide (Cg (tT c) (oU c)=tT c)
noncomputable abbrev Tr:=List<|(Int×Int)×(Int×Int)×(Int×Int)
noncomputable def eT(q:Int×Int):jq:=[(q.1-1,q.2),(q.1,q.2-1),(q.1,q.2+1),(q.1+1,q.2)]
noncomputable def jF(p:Int×Int):Bool:=if p.1%2=1 then p.2%2==1 else p.2%2==0&&!(p.1%4==p.2%4)
noncomputable def tU(w h:Int)(p:Int×Int):Bool:=decide (0<p.1)&&decide (p.1<4*w)&&(decide (0<p.2)&&decide (p.2<4*h))
noncomputable def j7(w h:Int)(q:Int×Int):jq:=((eT q).filter jF).filter<|tU w h
noncomputable def tV(w h:Int):jq:=(eJ w h).filter bT
noncomputable def first(w h:Int):Int×Int:=(tV w h).headD (0,0)
noncomputable def jG(a:Int×Int)(t:Tr):jq:=a::t.map (·.1)
noncomputable def gU(a here:Int×Int)(s:jq×Tr)(e:Int×Int):jq×Tr:=
 if bO here e∈jG a s.2 then s else(s.1++[bO here e],s.2++[(bO here e,e,here)])
noncomputable def tW(w h:Int)(a:Int×Int)(s:jq×Tr):jq×Tr:=match s.1.getLast? with
 |none=>s|some here=>(j7 w h here).foldl (gU a here) (s.1.dropLast,s.2)
noncomputable def e6(w h:Int)(a:Int×Int):Nat->jq×Tr
 |0=>([a],[])|n+1=>tW w h a<|e6 w h a n
noncomputable def e8(w h:Int):Tr:=(e6 w h (first w h) 36).2
noncomputable def qV:jq->Tr->Bool
 |_,[]=>b5|ks,(c,_,p)::t=>!ks.contains c&&ks.contains p&&qV (ks++[c]) t
theorem Ci:∀w∈[(1:Int),2,3],∀h∈[(1:Int),2,3],(e6 w h (first w h) 36).1=[]/\qV [first w h] (e8 w h)=b5/\(∀t∈e8 w h,t.2.2∈oQ t.2.1.1 t.2.1.2/\j6 t.2.1 t.2.2=t.1)/\(∀q∈b7 w h,q∈jG (first w h) (e8 w h))/\first w h=(b7 w h).headD (0,0)/\2<=(e8 w h).length/\(e8 w h).length<=40:=by decide +kernel
noncomputable def cN(kvs:Kv)(q:Int×Int):Ly:=((kvs.find? λp=>p.1==q).map (·.2)).getD bU
theorem YH(h:q∈kvs.map (·.1))r:cN (kvs++r) q=cN kvs q:=by
 obtain⟨p,a,b⟩:=a0u.mp h;unfold cN;rw[a6T];cases z:kvs.find? λp=>p.1==q with
 |some x=>rfl|none=>have:=a2x.mp z p a;simp[b]at this
theorem YI{kvs:Kv}(h:q∉kvs.map (·.1)):cN (kvs++[(q,A)]) q=A:=by
 unfold cN;rw[a6T];have:kvs.find? (λp=>p.1==q)=none:=a2x.mpr λp a=>by intro z;exact h<|a0u.mpr ⟨p,a,by simpa using z⟩
 rw[this];simp
noncomputable def cW(m:Int×Int->Bool):Kv->Tr->Kv
 |kvs,[]=>kvs|kvs,(c,e,p)::t=>cW m (kvs++[(c,st m e<|cN kvs p)]) t
theorem Jl m c e p:∀t kvs,cW m kvs (t++[(c,e,p)])=cW m kvs t++[(c,st m e<|cN (cW m kvs t) p)]
 |[],kvs=>rfl|(c',e',p')::t,kvs=>Jl m c e p t _
theorem xO m:∀t kvs,(cW m kvs t).map (·.1)=kvs.map (·.1)++t.map (·.1)
 |[],kvs=>by simp[cW]
 |(c,e,p)::t,kvs=>by rw[cW,xO m t];simp
theorem Jm(h:∀p∈kvs,Dih p.2)q:Dih (cN kvs q):=by
 unfold cN;cases z:kvs.find? λp=>p.1==q with
 |none=>exact wZ|some x=>exact h x<|a2K z
theorem Jn m:∀t kvs,(∀p∈kvs,Dih p.2)->∀p∈cW m kvs t,Dih p.2
 |[],kvs,h=>h|(c,e,p)::t,kvs,h=>Jn m t _ λx a=>by
  rcases a1t.mp a with a|a
  .exact h x a
  .rw[a0N.mp a];exact YC<|Jm h p
theorem Jo m:∀t kvs,qV (kvs.map (·.1)) t=b5->(∀q∈kvs.map (·.1),cN (cW m kvs t) q=cN kvs q)/\(∀x∈t,cN (cW m kvs t) x.1=st m x.2.1 (cN (cW m kvs t) x.2.2))/\((kvs.map (·.1)).Nodup->(kvs.map (·.1)++t.map (·.1)).Nodup)
 |[],kvs,_=>⟨λq _=>rfl,(λx d=>nomatch d),λh=>by simpa using h⟩|(c,e,p)::t,kvs,h=>by
  rw[qV,a0j,a0j]at h;obtain⟨⟨i,j⟩,o⟩:=h;have i:c∉kvs.map (·.1):=by simpa using i
  have j:p∈kvs.map (·.1):=by simpa using j
  obtain⟨n,s,u⟩:=Jo m t (kvs++[(c,st m e<|cN kvs p)]) (by simpa using o);have g:∀q∈kvs.map (·.1),cN (cW m (kvs++[(c,st m e<|cN kvs p)]) t) q=cN kvs q:=λq l=>by rw[n q<|by rw[a0z];exact a1t.mpr<|.inl l,YH l]
  refine⟨g,λx d=>?_,λnd=>?_⟩
  .rcases a0D.mp d with rfl|d
   .show cN (cW m (kvs++[(c,st m e<|cN kvs p)]) t) c=st m e (cN (cW m (kvs++[(c,st m e<|cN kvs p)]) t) p);rw[g p j,n c<|by simp,YI i]
   .exact s x d
  .have:=u<|by
    rw[a0z,a3n];refine⟨nd,by simp,λa k b r z=>?_⟩;have:b=c:=by simpa using r
    rw[z,this]at k;exact i k
   simpa using this
noncomputable def xP(m:Int×Int->Bool)(w h:Int):Kv:=cW m [(first w h,bU)]<|e8 w h
theorem Jp k x y μ(Q:jz):W (f (k+1) "is_edge" [P x y] μ) Q↔Q (.bl<|jF (x,y),μ):=by
 rw[Vy,W_fin];simp only[w_mSeq,w_mRet,w_mNext,w_mIfS,w_mTest,w_mAndV,w_mOp,bM,aL,w_it20,w_it21,w_eqI,GW,sY,sZ];unfold jF;by_cases h:x%2=1
 .simp[h]
 .have e:(x%2==1)=false:=by simpa using h
  simp only[e,h,a0t,if_false];cases y%2==0<;>simp
theorem Cj:(4:Nat)<=a0s:=by decide
theorem Jq k q μ:f (k+1) "beside" [PP q] μ=a7 (.loc μ.length,μ++[C.lst [P (q.1-1) q.2,P q.1<|q.2-1,P q.1<|q.2+1,P (q.1+1) q.2]]):=by rw[VB];kernel_rfl
theorem YJ k q(μ:Hm)(Q:jz)(H:∀a μ',μ<+:μ'->μ'[a]?=a7 (.lst<|((eT q).filter jF).map PP)->μ.length<=a->Q (.loc a,μ')):W (f (k+2) "edges_of" [PP q] μ) Q:=by
 rw[VD,W_fin];simp only[w_mRet];refine fV (xs:=(eT q).map PP) (p:=λd=>jF<|dH d) (v:=λd=>d) ?_;refine w_iSeq.mpr<|Ho rfl ?_;rw[Jq,W_some];have c:(μ++[C.lst [P (q.1-1) q.2,P q.1<|q.2-1,P q.1<|q.2+1,P (q.1+1) q.2]])[μ.length]?=a7 (.lst<|(eT q).map PP):=bK _ _;refine(eA c).mpr ⟨jX c,rfl,Cj,λd μ' hd b=>?_,λd μ' hd _ b=>?_,λμ' b e=>?_⟩
 .obtain⟨u,v,rfl⟩:=lH hd;simp only[a0X,a1h,w_mTru,w_mCall,w_mCons,aV,aL,aO,Jp,w_truB];exact⟨rfl,a0E _⟩
 .simp only[a0X,a1h,aL,aO];exact⟨trivial,a0E _⟩
 .refine H _ _ ((aU _ _).trans b) ?_ (by simp);rw[e,m3 jF]
theorem YK k w h x y μ(Q:jz):W (f (k+1) "is_within" [.int w,.int h,P x y] μ) Q↔Q (.bl<|tU w h (x,y),μ):=by rw[VR,W_fin];simp only[w_mRet,w_mAndV,G9,w_mOp,bM,aL,aO,w_it20,w_it21,w_ltI,oH];unfold tU;dsimp only;cases decide (0<x)<;>cases decide (x<4*w)<;>cases decide (0<y)<;>cases decide (y<4*h)<;>simp
noncomputable def NB(q e:Int×Int):D:=.tup [PP e,PP<|bO q e]
theorem YL k w h q(μ:Hm)(Q:jz)(H:∀a μ',μ<+:μ'->μ'[a]?=a7 (.lst<|(j7 w h q).map<|NB q)->μ.length<=a->Q (.loc a,μ')):W (f (k+3) "neighbours_in" [.int w,.int h,PP q] μ) Q:=by
 rw[VX,W_fin];simp only[w_mRet];refine fV (xs:=((eT q).filter jF).map PP) (p:=λd=>tU w h<|dH d) (v:=λd=>NB q<|dH d) ?_;simp only[w_iSeq,w_mCall,w_mCons,aV,aL,aO];refine YJ k q _ _ λa i e c j=>?_;refine(eA c).mpr ⟨jX c,rfl,?_,λd μ' hd b=>?_,λd μ' hd _ b=>?_,λμ' b g=>?_⟩
 .rw[a0d];exact a1l (a0Z _ _) Cj
 .obtain⟨u,v,rfl⟩:=lH hd;simp only[a0X,a1h,w_mTru,w_mCall,w_mCons,aV,aL,aO,YK,w_truB];exact⟨rfl,a0E _⟩
 .obtain⟨u,v,rfl⟩:=lH hd;simp only[a0X,a1h,w_mTup,w_mCall,w_mCons,aV,aL,aO,BB,fH,true_and];exact⟨rfl,a0E _⟩
 .refine H _ _ (e.trans b) ?_ e.length_le;rw[g];have:=m3 (tU w h)<|(eT q).filter jF;rw[b1g]at this;rw[this,a0x];rfl
theorem YM k(hw:1<=w/\w<=3)(b:1<=h/\h<=3)ms(a:(eJ w h).find? (oT ms)=b0)(μ:Hm)(Q:jz)(H:∀μ',μ<+:μ'->Q (.non,μ')):W (f (k+6) "check_corners" [SH w h ms] μ) Q:=by rw[V2,W_fin];simp only[w_mSeq,w_mSet,w_mCall,w_mCons,aV,aL];refine YA k hw b ms _ _ λμ' c=>?_;rw[a];simp only[Jc,a0H,a0I,w_mIfS,w_mTest,w_mOp,aL,aO,bM,w_isnotNN,a0t,if_false,w_mNext];exact H _ c
theorem Jr kvs q:(bJ (eW kvs)<|bE q).isSome=decide (q∈kvs.map (·.1)):=by
 rw[qT];induction kvs with
 |nil=>rfl|cons p kvs a=>show(decide (bE p.1=bE q)||(eW kvs).any _)=_;rw[a,Ca];simp only[a0r,a0D,Bool.decide_or];congr 1;rw[a2c,beq_iff_eq,decide_eq_true_iff];exact eq_comm
theorem Js(h:q∈kvs.map (·.1)):bJ (eW kvs) (bE q)=a7 (LD<|cN kvs q):=by
 induction kvs with
 |nil=>simp at h|cons p kvs a=>
  unfold bJ cN eW;rw[a0r,a3l,a3l];dsimp only;rw[Ca];cases z:p.1==q with
  |true=>rfl|false=>
   rcases a0D.mp h with h|h
   .simp[h]at z
   .exact a h
theorem YN(h:q∉kvs.map (·.1))A:cS (eW kvs) (bE q) (LD A)=eW (kvs++[(q,A)]):=by unfold cS;rw[Jr,decide_eq_false h,if_neg<|by simp];unfold eW;rw[a0z];rfl
theorem YO(nd:(l.map (·.1)).Nodup)(b:0<l.length)(h:bJ l k=a7 d):bJ (jQ l) k=a7 d:=by
 have a:(jQ l).Perm l:=by unfold jQ;have p:=(pR (λi j=>HT.lexLt ((l.map (·.1)).getD i [])<|(l.map (·.1)).getD j []) b).map λi=>l.getD i ([],.non);rw[B9]at p;exact p
 exact BM ((a.map (·.1)).nodup_iff.mpr nd)<|a.mem_iff.mpr<|Ye h
theorem YQ{b:MS}(I:Nat->aG->Hm->Prop)(s:∀m a μ,I m a μ->W (c a μ) λp=>if p.1=b5 then W (b a p.2) λq=>match q.1 with
   |.nx=>∃e,e<m/\I e q.2.1 q.2.2|.ct=>∃e,e<m/\I e q.2.1 q.2.2|.bk=>Q (.nx,q.2.1,q.2.2)
   |.rt d=>Q (.rt d,q.2.1,q.2.2)else Q (.nx,a,p.2)):∀n m a μ,m<n->I m a μ->W (nW c b n a μ) Q:=by
 intro n;induction n with
 |zero=>intro m a μ h;lia|succ n k=>
  intro m a μ y r;unfold nW;rw[W_bind];refine bB (s m a μ r) λp j=>?_;obtain⟨u,v⟩:=p;cases u with
  |false=>exact W_some.mpr (by simpa using j)|true=>
   simp only[if_true]at j;dsimp only;rw[W_bind];refine bB j λq g=>?_;obtain⟨l,x,w⟩:=q;cases l with
   |nx=>obtain⟨e,o,i⟩:=g;exact k e _ _ (by lia) i|ct=>obtain⟨e,o,i⟩:=g;exact k e _ _ (by lia) i|bk=>exact W_some.mpr g|rt d=>exact W_some.mpr g
theorem YR{b:MS}(I:Nat->aG->Hm->Prop)m(h:m<1000000000)(g:I m a μ)(i:∀m a μ,I m a μ->W (c a μ) λp=>if p.1=b5 then W (b a p.2) λq=>match q.1 with
   |.nx=>∃e,e<m/\I e q.2.1 q.2.2|.ct=>∃e,e<m/\I e q.2.1 q.2.2|.bk=>Q (.nx,q.2.1,q.2.2)
   |.rt d=>Q (.rt d,q.2.1,q.2.2)else Q (.nx,a,p.2)):W (rP sR c b a μ) Q:=by
 unfold rP;exact YQ I i sR m a μ (by unfold sR;exact h) g
theorem YS(h:μ[a]?=a7 (.lst xs)):W (mH μ<|.loc a) Q↔Q (!xs.isEmpty):=by simp only[mH,h];exact W_some
theorem YT{Q:jz}:W (qB m a μ) Q↔W (m a μ) λp=>W (qA p.1 p.2) Q:=by unfold qB;rw[W_bind]
theorem YU{kvs:jx}{Q:jz}(h:μ[a]?=a7 (.dT kvs))(b:2<=kvs.length/\kvs.length<64):W (qA (.loc a) μ) Q↔Q (.loc μ.length,μ++[.dT<|jQ kvs]):=by
 have:qA (.loc a) μ=a7 (.loc μ.length,μ++[.dT<|jQ kvs]):=by simp only[qA,h];rw[if_pos b]
 rw[this];exact W_some
theorem YV{Q:jz}(h:a[i]?=a7 (a7 x))(b:c5 x=a7 k):W (qC (aA i) (mC y) a μ) Q↔Q (.loc μ.length,μ++[.dT [(k,y)]]):=by
 have:qC (aA i) (mC y) a μ=a7 (.loc μ.length,μ++[.dT [(k,y)]]):=by unfold qC aA mC;simp only[h,a0G,bK,b,a0M,tH]
 rw[this];exact W_some
noncomputable def Ck(ms:List ((Int×Int)×Str)):jx:=(ms.map λm=>(bE m.1,D.str m.2)).foldl (λq p=>cS q p.1 p.2) []
structure LI(ms:List ((Int×Int)×Str))(f0:Int×Int)(μ3:Hm)(s:jq×Tr)(μ':Hm):Prop where
 pre:μ3<+:μ'
 dic:μ'[μ3.length]?=a7 (.dT<|eW<|cW (bX ms) [(f0,bU)] s.2)
 due:μ'[μ3.length+1]?=a7 (.lst<|s.1.map PP)
 sub:∀q∈s.1,q∈jG f0 s.2
theorem tX m a t:(cW m [(a,bU)] t).map (·.1)=jG a t:=xO m t _
theorem Jt m a t q:Dih (cN (cW m [(a,bU)] t) q):=
 Jm (Jn m t _ λp b=>by rw[a0N.mp b];exact wZ) q
theorem Ju m a t:(eW<|cW m [(a,bU)] t).length=t.length+1:=by have:=congrArg a1n<|tX m a t;unfold eW;rw[a0d]at this ⊢;rw[this];simp[jG]
noncomputable def Jv(k:Nat):MS:=aZ (aS<|aC (cL b5) (aA 7)<|aA 3) (aH (dN (aA 3) (aA 7)<|fK (aS<|aC (cL b3) (aA 6)<|aA 1) (aF (f (k+6) "then")<|aB (aF (f (k+6) "mirror_in")<|aB (aA 6) aD)<|aB (aC aE (aA 3)<|aA 5) aD)<|aC aE (aA 3)<|aA 5)<|cY<|cV eV (aA 4)<|aB (aA 7) aD) bA
noncomputable abbrev RL(w h:Int)(ms:List ((Int×Int)×Str))(a:Nat)(b:Int×Int)(n:Nat)(c d e:Option D):aG:=[a7<|SH w h ms,a7<|.loc a,a7<|PP b,a7<|.loc n,a7<|.loc<|n+1,c,d,e]
theorem YW k(x:a[l]?=a7 (.dT<|Ck ms))(I:LI ms g a s μ')(u:here∈jG g s.2)(B:s.1.length<=500)(v:s.2.length<=500)(H:∀d,LI ms g a (gU g here s e) d->(∀b c,a.length+2<=b->μ'[b]?=a7 c->d[b]?=a7 c)->Q (.nx,RL w h ms l g a.length (a7<|PP here) (a7<|PP e)<|a7<|PP<|bO here e,d)):
  W (Jv k (RL w h ms l g a.length (a7<|PP here) (a7<|PP e)<|a7<|PP<|bO here e) μ') Q:=by
 have n:=aN I.pre x;unfold Jv;simp only[w_mIfS,w_mTest,w_mOp,aL,aO];refine(Bw I.dic<|cX _).mpr ?_;rw[Jr,tX];unfold gU at H;by_cases i:bO here e∈jG g s.2
 .rw[if_pos i]at H;simp only[i,decide_true,a2N,if_true,a0t,if_false,w_mNext];exact H _ I λb c _ z=>z
 .rw[if_neg i]at H;simp only[i,decide_false,a2E,if_true,w_mSeq,w_mPut,w_mIfE,w_mTest,w_mOp,aL,aO];refine(Bw n<|cX e).mpr ?_;have p:bJ (eW<|cW (bX ms) [(g,bU)] s.2) (bE here)=a7 (LD<|cN (cW (bX ms) [(g,bU)] s.2) here):=Js (by rw[tX];exact u);have hd:=Jt (bX ms) g s.2 here;have r:(bJ (Ck ms)<|bE e).isSome=bX ms e:=IX ms e;simp only[a0t,if_false,r];have fin:∀A:Ly,A=st (bX ms) e (cN (cW (bX ms) [(g,bU)] s.2) here)->W (kI (.loc a.length) (PP<|bO here e) (LD A) μ') λd=>W (cY (cV eV (aA 4)<|aB (aA 7) aD) (RL w h ms l g a.length (a7<|PP here) (a7<|PP e)<|a7<|PP<|bO here e) d) Q:=by
   rintro A rfl;refine(oG I.dic (cX _)<|by rw[Ju,a0O];lia).mpr ?_;rw[YN<|by rw[tX];exact i];have m:(μ'.set a.length<|.dT<|eW<|cW (bX ms) [(g,bU)] s.2++[(bO here e,st (bX ms) e<|cN (cW (bX ms) [(g,bU)] s.2) here)])[a.length+1]?=a7 (.lst<|s.1.map PP):=by rw[tR<|by lia];exact I.due
   simp only[w_mDrop];refine iF ?_;simp only[aL,aO];refine⟨jY m,?_⟩;simp only[w_mCons,aV,aL,aO];refine(qL m<|by rw[a0d,a0O];lia).mpr ?_;refine H _ ⟨gM (gM I.pre (a0l _) _) (by lia) _,?_,?_,?_⟩ λb c y z=>?_
   .rw[tR<|by lia,Jl];exact eQ I.dic
   .rw[eQ m,a0z];rfl
   .intro q j;show q∈g::(s.2++[(bO here e,e,here)]).map (·.1);rw[a0z];rcases a1t.mp j with j|j
    .rcases a0D.mp (I.sub q j)with z|z
     .exact a0D.mpr<|.inl z
     .exact a0D.mpr<|.inr<|a1t.mpr<|.inl z
    .exact a0D.mpr<|.inr<|a1t.mpr<|.inr j
   .rw[tR<|by lia,tR<|by lia];exact z
  cases o:bX ms e with
  |true=>simp only[if_true,w_mCall,w_mCons,aV,aL,aO,w_mOp];refine(Hz (k+3) e.1 e.2 _ _).mpr ?_;refine(Bv I.dic (cX _) p).mpr<|(HA (k+4) _ _ (wY _) hd _ _).mpr ?_;refine fin _ ?_;unfold st;rw[o,if_pos rfl]|false=>simp only[a0t,if_false,w_mOp,aL,aO];refine(Bv I.dic (cX _) p).mpr<|fin _ ?_;unfold st;rw[o,if_neg<|by simp]
theorem Jw(b:(e6 w h a i).1=[]):∀j,e6 w h a (i+j)=e6 w h a i
 |0=>rfl|j+1=>by show tW w h a (e6 w h a<|i+j)=_;rw[Jw b j];unfold tW;rw[b];rfl
theorem Jx w h q:(j7 w h q).length<=4:=a1l (a0Z _ _)<|a0Z _ _
theorem YX a here e s:(gU a here s e).1.length<=s.1.length+1/\(gU a here s e).2.length<=s.2.length+1:=by
 unfold gU;split
 .lia
 .simp
theorem YY(h:q∈jG a s.2):q∈jG a (gU a here s e).2:=by
 unfold gU;split
 .exact h
 .show q∈a::(s.2++[(bO here e,e,here)]).map (·.1);rw[a0z];rcases a0D.mp h with z|z
  .exact a0D.mpr<|.inl z
  .exact a0D.mpr<|.inr<|a1t.mpr<|.inl z
theorem YZ{es:jq}{i:Nat}(h:(es.map<|NB q)[i]?=a7 d):∃e,es[i]?=a7 e/\d=NB q e:=by rw[a0v]at h;obtain⟨e,a,b⟩:=a0g.mp h;exact⟨e,a,b.symm⟩
theorem Y0{a c:Type}{g:c->a->c}{b:c}{l:List a}{x:a}(h:l[i]?=a7 x):(l.take<|i+1).foldl g b=g ((l.take i).foldl g b) x:=by rw[a9S,h,a6S];rfl
theorem Y1 k(hw:1<=w/\w<=3)(J:1<=h/\h<=3)ms(hb:(eJ w h).find? (oT ms)=b0)(μ:Hm)(Q:jz)(H:∀a B g,μ<+:g->g[a]?=a7 (.dT B)->(∀q∈b7 w h,bJ B (bE q)=a7 (LD<|cN (xP (bX ms) w h) q))->Q (.loc a,g)):W (f (k+7) "laid" [SH w h ms] μ) Q:=by
 obtain⟨t1,t2,t3,t4,t5,t6,t7⟩:=Ci w (jC hw) h<|jC J;rw[V3,W_fin];simp only[w_mSeq,w_mDrop,w_mCall,w_mCons,aV,aL];refine YM k hw J ms hb _ _ λl p1=>?_;simp only[w_mSet,w_mCall,w_mCons,aV,aL];rw[Hk,W_fin];simp only[w_mRet,w_mCall,w_mCons,aV,w_mOp,aL,bM,Cb,IY,a0H,a0I,w_mSeq,w_mSet,aO,Cd,Ce];refine ID (k+4) w h hw J _ _ λb c p3 g3=>?_;have hf:atI ((tV w h).map PP) 0=a7 (PP<|first w h):=by
  have r:tV w h≠[]:=by
   intro z;have hp:∀w∈[(1:Int),2,3],∀h∈[(1:Int),2,3],tV w h≠[]:=by decide +kernel
   exact hp w (jC hw) h (jC J) z
  unfold first
  match hz:tV w h,r with
  |q::qs,_=>unfold atI;rw[wX (b1X 0)<|by simp];rfl
 refine(gP g3 hf).mpr ?_;simp only[a0H,a0I];refine(YV (x:=PP (first w h)) rfl<|cX _).mpr ?_;simp only[a0H,a0I,w_mLst,w_mCons,aV,aL,aO];refine⟨by show(1:Nat)<=a0s;decide,?_⟩;have hm:c[l.length]?=a7 (.dT<|Ck ms):=aN p3<|bK _ _;have pq:μ<+:c:=p1.trans<|(aU _ _).trans p3;refine YR (λm x g=>∃i,m+i=36/\LI ms (first w h) c (e6 w h (first w h) i) g/\(e6 w h (first w h) i).1.length<=5*i+1/\(e6 w h (first w h) i).2.length<=5*i/\∃Z u v,x=RL w h ms l.length (first w h) c.length Z u v) 36 (by decide) ⟨0,rfl,⟨?_,?_,?_,?_⟩,by simp[e6],by simp[e6],b0,b0,b0,?_⟩ ?_
 .exact(aU _ _).trans<|aU _ _
 .refine(aN (aU _ _)<|bK _ _).trans ?_;rfl
 .have:=bK (c++[C.dT [(bE<|first w h,sX)]])<|.lst [PP<|first w h];rw[a0q]at this;exact this
 .intro q r;exact a0D.mpr<|.inl<|by simpa[e6]using r
 .rw[a0q];rfl
 .rintro m x E ⟨i,L,I,n1,n2,Z,u,v,rfl⟩;simp only[w_mTru,aL,aO];refine(YS I.due).mpr ?_;generalize hs:e6 w h (first w h) i=s at I n1 n2;rcases a8K s.1 with z|⟨ds,here,z⟩
  .have K:(!(s.1.map PP).isEmpty)=false:=by rw[z];rfl
   rw[K];simp only[a0t,if_false];have et:s=e6 w h (first w h) 36:=by rw[<- hs,<- L,Nat.add_comm];exact(Jw (by rw[hs];exact z) m).symm
   have A:=I.dic;rw[et]at A;simp only[w_mRet,YT,aL,aO];have n:=Ju (bX ms) (first w h)<|e8 w h;refine(YU A ?_).mpr ?_
   .show 2<=(eW<|cW (bX ms) [(first w h,bU)]<|e8 w h).length/\(eW<|cW (bX ms) [(first w h,bU)]<|e8 w h).length<64;rw[n];lia
   .have nd:((cW (bX ms) [(first w h,bU)]<|e8 w h).map (·.1)).Nodup:=by rw[xO];exact(Jo (bX ms) (e8 w h) [(first w h,bU)] t2).2.2<|by simp
    refine H _ _ _ (pq.trans<|I.pre.trans<|aU _ _) (bK _ _) λq r=>?_;refine YO (WU nd) ?_<|Js (kvs:=cW (bX ms) [(first w h,bU)] (e8 w h)) ?_
    .show 0<(eW<|cW (bX ms) [(first w h,bU)]<|e8 w h).length;rw[n];lia
    .rw[tX];exact t4 q r
  .have K:(!(s.1.map PP).isEmpty)=true:=by rw[z];simp
   rw[K];simp only[if_true,w_mSeq,w_mSet];have hm0:0<m:=by
    rcases Nat.eq_zero_or_pos m with q|q
    .exfalso;have:i=36:=by lia
     subst this;rw[hs]at t1;rw[t1]at z;simp at z
    .exact q
   refine iF ?_;simp only[aL,aO];refine⟨jY I.due,?_⟩;simp only[aV];have o:=I.due;rw[z,a8M,a0z]at o;refine(B8 o).mpr ?_;simp only[a0H,a0I,w_mForI,w_iSeq,w_mCall,w_mCons,aV,w_mOp,bM,aL,aO,Cd,Ce];have zl:s.1.length=ds.length+1:=by rw[z];simp
   have y:LI ms (first w h) c (ds,s.2) (E.set (c.length+1)<|.lst<|ds.map PP):=
    ⟨gM I.pre (by lia) _,by rw[tR<|by lia];exact I.dic,eQ o,λq r=>I.sub q<|by rw[z];simp[r]⟩
   have hk:here∈jG (first w h) s.2:=I.sub here (by rw[z];simp);refine YL (k+3) w h here _ _ λb N M R l5=>?_;refine(eA R).mpr ?_;have hlt:c.length+1<(E.set (c.length+1)<|.lst<|ds.map PP).length:=(a0f.mp y.due).1;have I2:LI ms (first w h) c (ds,s.2) N:=⟨y.pre.trans M,aN M y.dic,aN M y.due,y.sub⟩;have er:e6 w h (first w h) (i+1)=(j7 w h here).foldl (gU (first w h) here) (ds,s.2):=by show tW w h (first w h) (e6 w h (first w h) i)=_;rw[hs];unfold tW;rw[z];simp
   refine lF (λj x g=>LI ms (first w h) c (((j7 w h here).take j).foldl (gU (first w h) here) (ds,s.2)) g/\g[b]?=a7 (.lst<|(j7 w h here).map<|NB here)/\here∈jG (first w h) (((j7 w h here).take j).foldl (gU (first w h) here) (ds,s.2)).2 /\
    (((j7 w h here).take j).foldl (gU (first w h) here) (ds,s.2)).1.length<=ds.length+j/\(((j7 w h here).take j).foldl (gU (first w h) here) (ds,s.2)).2.length<=s.2.length+j/\j<=4/\∃u v,x=RL w h ms l.length (first w h) c.length (a7<|PP here) u v)
    ⟨I2,R,hk,a0l _,a0l _,by lia,u,v,rfl⟩ (λj x g hI=>hI.2.1) ?_ ?_
   .rintro j d x O hd ⟨G,T,p,X,Y,hj,u,v,rfl⟩;obtain⟨e,U,rfl⟩:=YZ hd;refine⟨RL w h ms l.length (first w h) c.length (a7<|PP here) (a7<|PP e)<|a7<|PP<|bO here e,rfl,?_⟩;have hj1:j<(j7 w h here).length:=(a0f.mp U).1;have:=Jx w h here;refine YW k hm G p (by lia) (by lia) λμ7 I7 keep=>?_;rw[Y0 U];have vl:=YX (first w h) here e<|((j7 w h here).take j).foldl (gU (first w h) here) (ds,s.2);exact⟨I7,keep _ _ (by lia) T,YY p,by lia,by lia,by lia,_,_,rfl⟩
   .rintro x O ⟨G,T,p,X,Y,hj,u,v,rfl⟩;rw[a0d,a1N,<- er]at G X Y;have:=Jx w h here;exact⟨m-1,by lia,i+1,by lia,G,by lia,by lia,_,_,_,rfl⟩
theorem Y2(c:i<1000)(h:b[i]?=a7 (a7<|.loc a)):sE i b=a7 (.loc a):=by unfold sE;rw[if_pos c,h];rfl
theorem Y3{kvs:jx}(m:h[i]?=a7 (a7<|.loc a))(hc:μ[a]?=a7 (.dT kvs))(I:Nat->aG->Hm->Prop)(s:I 0 h (μ.set a<|.dF kvs))(r:∀n k d c b,kvs[n]?=a7 (k,d)->I n c b->W (body (c.set j<|a7 d) b) λp=>p.1=.nx/\I (n+1) p.2.1 p.2.2)(g:∀c b,I kvs.length c b->b[a]?=a7 (.dF kvs)/\Q (.nx,c,b.set a<|.dT kvs))(v:i<1000:=by decide):W (d9 i (cD (qF<|aA i) (cZ j) body) w h μ) Q:=by
 refine xB (Y2 v m) hc ?_;have o:(μ.set a<|.dF kvs)[a]?=a7 (.dF kvs):=eQ hc;have hit:qF (aA i) h (μ.set a<|.dF kvs)=a7 (dQ<|.tup<|jS kvs,kvs.length+1,μ.set a<|.dF kvs):=by simp only[qF,aA,m,a0G,o]
 rw[w_mForI,hit,W_some];refine mY (N:=kvs.length) I (λn c b u l=>?_) (λc b l=>⟨?_,g c b l⟩) kvs.length 0 h _ (by lia) s
 .have e:kvs[n]?=a7 (kvs[n].1,kvs[n].2):=a0w u;refine⟨kvs[n].2,_,?_,rfl,bB (r n _ _ c b e l) λp q=>?_⟩
  .show a7 ((jS kvs)[n]?)=_;unfold jS;rw[a0v,e];rfl
  .rw[q.1];exact q.2
 .show a7 ((jS kvs)[kvs.length]?)=_;rw[a3f<|by unfold jS;simp]
theorem vJ:∀a b c,HT.lexLt a b=b5->HT.lexLt b c=b5->HT.lexLt a c=b5
 |[],[],_,h,_=>by cases h
 |[],_::_,[],_,h=>by cases h
 |[],_::_,_::_,_,_=>rfl|_::_,[],_,h,_=>by cases h
 |_::_,_::_,[],_,h=>by cases h
 |x::xs,y::ys,z::zs,e,d=>by
  rw[HT.lexLt_cons]at e d ⊢;by_cases i:x=y
  .subst i;rw[if_pos rfl]at e;by_cases g:x=z
   .rw[if_pos g]at d ⊢;exact vJ xs ys zs e d
   .rw[if_neg g]at d ⊢;exact d
  .rw[if_neg i]at e;have e:=of_decide_eq_true e;by_cases g:y=z
   .subst g;rw[if_neg i];exact decide_eq_true e
   .rw[if_neg g]at d;have d:=of_decide_eq_true d;rw[if_neg<|by lia];exact decide_eq_true<|by lia
theorem vH:∀k,HT.lexLt k k=b3
 |[]=>rfl|a::k=>by rw[HT.lexLt_cons,if_pos rfl];exact vH k
noncomputable def Y4(x y:Int):Bool:=(x%4==2&&y%2==1)||(y%4==2&&x%2==1)
noncomputable def eB(w h:Int):jq:=(iZ 1 (4*w-1).toNat (4*h-1).toNat).filter λp=>Y4 p.1 p.2
noncomputable def tY:List (List Int)->Bool
 |x::y::r=>HT.lexLt x y&&tY (y::r)|_=>b5
theorem Cm:∀{l},tY l=b5->l.Pairwise λx y=>HT.lexLt x y=b5
 |[],_=>.nil|[x],_=>a8o _ _|x::y::r,h=>by
  unfold tY at h;rw[a0j]at h;have b:=Cm h.2;refine a9u.mpr ⟨λz a=>?_,b⟩;rcases a0D.mp a with rfl|a
  .exact h.1
  .exact vJ _ _ _ h.1<|(a9u.mp b).1 z a
noncomputable def qW(ps:jq):jq:=(cM (λi j=>HT.lexLt ((ps.map bE).getD i [])<|(ps.map bE).getD j []) ps.length).map λi=>ps.getD i (0,0)
theorem Jy ps:(qW ps).Perm ps:=by have p:=(pS (λi j=>HT.lexLt ((ps.map bE).getD i [])<|(ps.map bE).getD j []) ps.length).map λi=>ps.getD i (0,0);rw[B9]at p;exact p
theorem Y5:qW []=[]:=a2R.mp (Jy []).length_eq
theorem Y6{Q:jz}(h:μ[a]?=a7 (.lst<|ps.map PP))(l:ps.length<64):W (mN [.loc a] μ) Q↔Q (.loc μ.length,μ++[.lst<|(qW ps).map PP]):=by
 by_cases b:ps=[]
 .subst b;have e:gH []=[]:=by simp[gH]
  rw[Vs (is:=[]) h<|by decide,e,Y5];rfl
 have m:0<ps.length:=a6w.mpr b;have d:nZ [.loc a] μ=none:=by simp only[nZ,d8,h,a0G];rw[Yd b];rfl
 have g:(cM (Ag<|ps.map bE) ps.length).map (λi=>(ps.map PP).getD i .non)=(qW ps).map PP:=by unfold qW;rw[a0x];refine a1v λi c=>?_;have c:i<ps.length:=a2u.mp<|(pS _ _).mem_iff.mp c;simp[a1H,c]
 have j:rS [.loc a] μ=a7 (.loc μ.length,μ++[.lst<|(qW ps).map PP]):=by simp only[rS,d8,h,a0G,IS];rw[if_pos ⟨by rw[a0d];lia,by rw[a0d];lia,λt k=>by obtain⟨p,_,rfl⟩:=a0u.mp k;simp[bE]⟩,a0d,g]
 simp only[mN,d,j];exact W_some
theorem Jz(h:Z[i]?=a7 z):(GZ Z).take (i+1)=(GZ Z).take i++[(z.1,z.2.1)]:=gT<|by unfold GZ;rw[a0v,h];rfl
theorem lO{P:Prop}(h:b=b3)(q:Q):if b=b5 then P else Q:=by rw[h];exact q
theorem lP{P:Prop}(h:b=b5)(q:P):if b=b5 then P else Q:=by rw[h];exact q
theorem Y7 u n p:aI (bD u n) p=if u=0 then(p.1,2*n-p.2)else if u=1 then(2*n-p.1,p.2)else if u=2 then(p.2+n,p.1-n)else(n-p.2,n-p.1):=by
 unfold bD aI;split
 .refine a1g ?_ ?_<;>dsimp only<;>lia
 split
 .refine a1g ?_ ?_<;>dsimp only<;>lia
 split
 .refine a1g ?_ ?_<;>dsimp only<;>lia
 .refine a1g ?_ ?_<;>dsimp only<;>lia
theorem Y8 u n:dB (bD u n)=-1:=by
 unfold bD dB;split
 .rfl
 split
 .rfl
 split
 .rfl
 .rfl
theorem xQ(h:Dih A):(dB A=1/\A.c=-A.b/\A.d=A.a)\/(dB A=-1/\A.c=A.b/\A.d=-A.a):=by
 obtain⟨a,b,c,d,e,g⟩:=A;unfold Dih at h;unfold dB;dsimp only at h ⊢;rcases h with⟨rfl,rfl,i,j⟩|⟨rfl,rfl,i,j⟩
 .rcases i with rfl|rfl<;>rcases j with rfl|rfl<;>decide
 .rcases i with rfl|rfl<;>rcases j with rfl|rfl<;>decide
theorem JA{a:Int}(h1:a*x+b*y=0)(e:a*y-b*x=0)(hd:x*x+y*y≠0):a=0/\b=0:=by
 have c:a*(x*x+y*y)=0:=by grind
 have d:b*(x*x+y*y)=0:=by grind
 exact⟨(a5U.mp c).resolve_right hd,(a5U.mp d).resolve_right hd⟩
theorem Y9{p:Int×Int}(h:p≠q):(p.1-q.1)*(p.1-q.1)+(p.2-q.2)*(p.2-q.2)≠0:=λe=>by
 have b:(p.1-q.1)*(p.1-q.1)=0/\(p.2-q.2)*(p.2-q.2)=0:=by
  have a:∀z:Int,0<=z*z:=λz=>by
   rcases Int.le_total 0 z with h|h
   .exact b0O h h
   .exact Int.mul_nonneg_of_nonpos_of_nonpos h h
  have:=a<|p.1-q.1;have:=a<|p.2-q.2;omega
 refine h<|a1g ?_ ?_
 .rcases a5U.mp b.1 with z|z<;>lia
 .rcases a5U.mp b.2 with z|z<;>lia
theorem Za{C:Ly}(hB:Dih B)(hC:Dih C)(hd:dB B=dB C)(R:p≠q)(h1:aI B p=aI C p)(l:aI B q=aI C q):B=C:=by
 have j:=xQ hB;have k:=xQ hC;have nz:=Y9 R;clear R;obtain⟨x,y⟩:=p;obtain⟨z,w⟩:=q;unfold aI at h1 l;injection h1 with u1 u2;injection l with v1 v2;dsimp only at nz u1 u2 v1 v2;have h:(B.a-C.a)*(x-z)+(B.b-C.b)*(y-w)=0:=by grind
 have i:(B.c-C.c)*(x-z)+(B.d-C.d)*(y-w)=0:=by grind
 have key:B.a-C.a=0/\B.b-C.b=0:=by
  rcases j with⟨a,c,d⟩|⟨a,c,d⟩<;>rcases k with⟨c1,c2,c3⟩|⟨c1,c2,c3⟩
  .exact JA h (by rw[c,d,c2,c3]at i;grind) nz
  .rw[hd,c1]at a;cases a
  .rw[hd,c1]at a;cases a
  .exact JA h (by rw[c,d,c2,c3]at i;grind) nz
 have e:B.a=C.a:=by lia
 have g:B.b=C.b:=by lia
 have b:B.c=C.c/\B.d=C.d:=by
  rcases j with⟨a,c,d⟩|⟨a,c,d⟩<;>rcases k with⟨c1,c2,c3⟩|⟨c1,c2,c3⟩
  .rw[c,d,c2,c3,e,g];exact⟨rfl,rfl⟩
  .rw[hd,c1]at a;cases a
  .rw[hd,c1]at a;cases a
  .rw[c,d,c2,c3,e,g];exact⟨rfl,rfl⟩
 refine Ly.ext' e g b.1 b.2 ?_ ?_
 .rw[e,g]at u1;lia
 .rw[b.1,b.2]at u2;lia
theorem JB{P:Int->Int->Prop}(h:∀a∈[(0:Int),1,2,3],∀b∈[(0:Int),1,2,3],P a b)x y:P (x%4) (y%4):=by
 have m:∀z:Int,z%4∈[(0:Int),1,2,3]:=λz=>by
  have:z%4=0\/z%4=1\/z%4=2\/z%4=3:=by lia
  simpa using this
 exact h _ (m x) _<|m y
theorem xR(z:Int):z%4%2=z%2:=a9k z<|by decide
noncomputable def cF(x y:Int):Bool:=x%2==y%2&&(x%2==1||!(x%4==y%4))
noncomputable def sA(e:Int×Int):Int×Int:=if e.1%2=1 then(e.1,e.2+2-e.2%4)else if e.2%4=0 then(e.1,e.2-1)else(e.1-1,e.2)
noncomputable def sB(e:Int×Int):Int×Int:=if e.1%2=1 then(e.1+2-e.1%4,e.2)else if e.2%4=0 then(e.1,e.2+1)else(e.1+1,e.2)
theorem nB{e:Int×Int}(h:cF e.1 e.2=b5):(e.1%2=1/\e.2%2=1)\/(e.1%2=0/\e.2%4=0/\e.1%4=2)\/(e.1%2=0/\e.2%4=2/\e.1%4=0):=by unfold cF at h;rw[<- xR e.1,<- xR e.2]at h ⊢;revert h;exact JB (P:=λa b=>(a%2==b%2&&(a%2==1||!(a==b)))=b5->(a%2=1/\b%2=1)\/(a%2=0/\b=0/\a=2)\/(a%2=0/\b=2/\a=0)) (by decide) e.1 e.2
theorem Cn(h:cF e.1 e.2=b5):bO (sA e) e=sB e/\bO (sB e) e=sA e:=by
 have:=nB h;unfold bO sA sB;rcases this with⟨b,c⟩|⟨b,c,a⟩|⟨b,c,a⟩
 .simp only[if_pos b];by_cases a:e.1%4=e.2%4
  .simp only[if_pos a];refine⟨a1g ?_ ?_,a1g ?_ ?_⟩<;>dsimp only<;>lia
  .simp only[if_neg a];refine⟨a1g ?_ ?_,a1g ?_ ?_⟩<;>dsimp only<;>lia
 .simp only[if_neg<|show ¬ e.1%2=1 by lia,if_pos c];refine⟨a1g ?_ ?_,a1g ?_ ?_⟩<;>dsimp only<;>lia
 .simp only[if_neg<|show ¬ e.1%2=1 by lia,if_neg<|show ¬ e.2%4=0 by lia];refine⟨a1g ?_ ?_,a1g ?_ ?_⟩<;>dsimp only<;>lia
theorem EdF.pos{F:Int×Int->Ly}(a:cF e.1 e.2=b5)(h:F (sA e)=bR (dR e) (F<|sB e)):aI (F<|sA e) (sA e)=aI (F<|sB e) (sB e):=by rw[h,kQ,kP,(Cn a).1]
theorem Zb u n:bR (bD u n) (bD u n)=bU:=BI λp=>by rw[kQ,HK,w6]
noncomputable def dS(w h:Int):jq:=(iZ 1 (4*w-1).toNat (4*h-1).toNat).filter λp=>cF p.1 p.2
noncomputable def kS:jq:=[(1,1),(1,2),(1,3),(2,1),(2,2),(2,3),(3,1),(3,2),(3,3),(4,1),(5,1),(6,1),(4,2),(5,2),(6,2),(1,4),(1,5),(1,6),(2,4),(2,5),(2,6)]
theorem lQ:∀p∈kS,(1<=p.1/\p.1<=6)/\(1<=p.2/\p.2<=6)/\(eB p.1 p.2).length<=48/\1<=(eB p.1 p.2).length/\tY ((eB p.1 p.2).map bE)=b5/\(dS p.1 p.2).length<=64/\tY ((dS p.1 p.2).map bE)=b5 /\
  ∀e∈dS p.1 p.2,cF e.1 e.2=b5/\sA e∈eB p.1 p.2/\sB e∈eB p.1 p.2/\(0<e.1/\e.1<4*p.1)/\0<e.2/\e.2<4*p.2:=by decide +kernel
theorem JC μ A B:cI 8 μ (LD A) (LD B)=a7 (decide<|A=B):=by
 have:cI 8 μ (LD A) (LD B)=a7 (A.a==B.a&&(A.b==B.b&&(A.c==B.c&&(A.d==B.d&&(A.e==B.e&&(A.g==B.g&&b5)))))):=rfl;rw[this];congr 1;rw[a2c,decide_eq_true_iff];simp only[a0j,beq_iff_eq,and_true];constructor
 .rintro⟨a,b,c,d,e,g⟩;exact Ly.ext' a b c d e g
 .rintro rfl;exact⟨rfl,rfl,rfl,rfl,rfl,rfl⟩
theorem w_neLD{Q:jz}:W (aT b5 (LD A) (LD B) μ) Q↔Q (.bl<|!decide (A=B),μ):=by
 have:aT b5 (LD A) (LD B) μ=a7 (.bl<|!decide (A=B),μ):=by unfold aT;rw[JC];rfl
 rw[this];exact W_some
noncomputable def lR(w h:Int)(F:Int×Int->Ly):jq:=(dS w h).filter λe=>!decide (F (sA e)=F (sB e))
noncomputable def flat(G:Gr):jq:=G.flatMap (·.2)
noncomputable def dX(G:Gr)(q:Int×Int):Int:=match G.find? (λg=>g.2.contains q)with|some g=>(g.2.idxOf q:Nat)|none=>0
theorem JD G g:flat (G++[g])=flat G++g.2:=by unfold flat;rw[a4P];simp
theorem mem_flat:q∈flat G↔∃g∈G,q∈g.2:=List.mem_flatMap
theorem Pil.one{f:Int×Int->Int×Int}(P:Pil qs f G)(a:g∈G)(b:q∈g.2):q∈qs/\f q=g.1:=by have h:=P.pm g.1;rw[iG P.kd a]at h;have:=a0Y.mp<|h.mem_iff.mp b;exact⟨this.1,of_decide_eq_true this.2⟩
theorem Pil.nd{f:Int×Int->Int×Int}(nd:qs.Nodup)(P:Pil qs f G)(a:g∈G):g.2.Nodup:=by have h:=P.pm g.1;rw[iG P.kd a]at h;exact h.nodup_iff.mpr<|nd.sublist a3X
theorem JE{f:Int×Int->Int×Int}:∀{G},(G.map (·.1)).Nodup->(∀g∈G,g.2.Nodup/\∀q∈g.2,f q=g.1)->(flat G).Nodup
 |[],_,_=>b0z|g::G,kd,h=>by rw[a0r,a2I]at kd;show(g.2++flat G).Nodup;rw[a3n];refine⟨(h g<|a0P ..).1,JE kd.2 λx c=>h x<|a0F _ c,λa k b l e=>?_⟩;subst e;obtain⟨x,c,d⟩:=mem_flat.mp l;have i:=(h g<|a0P ..).2 a k;have j:=(h x<|a0F _ c).2 a d;exact kd.1<|a0u.mpr ⟨x,c,by rw[<- j,i]⟩
theorem Pil.flat{f:Int×Int->Int×Int}(nd:qs.Nodup)(P:Pil qs f G):(Lw.flat G).Perm qs:=by
 have c:(Lw.flat G).Nodup:=JE (f:=f) P.kd λg a=>⟨P.nd nd a,λq b=>(P.one a b).2⟩;refine(List.perm_ext_iff_of_nodup c nd).mpr λq=>?_;rw[mem_flat];constructor
 .rintro⟨g,a,b⟩;exact(P.one a b).1
 .intro b;obtain⟨g,a,e⟩:=a0u.mp<|P.key.mpr ⟨q,b,rfl⟩;refine⟨g,a,?_⟩;have h:=P.pm g.1;rw[iG P.kd a]at h;exact h.mem_iff.mpr<|a0Y.mpr ⟨b,decide_eq_true e.symm⟩
theorem xS{f:Int×Int->Int×Int}(nd:qs.Nodup)(P:Pil qs f G)(a:g∈G){i:Nat}(b:g.2[i]?=a7 q):dX G q=i:=by
 have k:=a0S b;have n:G.find? (λx=>x.2.contains q)=a7 g:=by
  cases h:G.find? (λx=>x.2.contains q)with
  |none=>exact absurd (a1B.mpr k) (by have:=a2x.mp h g a;simpa using this)|some x=>
   have l:=a2K h;have c:q∈x.2:=by have d:=a5Q h;exact a1B.mp d
   have e:x.1=g.1:=by rw[<- (P.one l c).2,(P.one a k).2]
   have j:=iG P.kd l;have m:=iG P.kd a;rw[e,m]at j;rw[show x=g from a1g e j.symm]
 unfold dX;rw[n];have o:i<g.2.length:=(a0f.mp b).1;have e:=(a0f.mp b).2;have:g.2.idxOf q=i:=by rw[<- e];exact(P.nd nd a).idxOf_getElem i o
 show((g.2.idxOf q:Nat):Int)=i;rw[this]
theorem Zc{h μ:Hm}(u:∀(i:Nat)q,L[i]?=a7 q->v q=.int (i:Int))(s:∀q∈L,q∉K)(nd:L.Nodup)(A:K.length+L.length<=1000)(m:h<+:μ)(lo:h.length<=b)(gl:h[l]?=a7 (.lst<|L.map PP))(r:μ[b]?=a7 (.dT<|a8 v K))Q(H:∀x y a,h<+:a->a[b]?=a7 (.dT<|a8 v<|K++L)->Q (.nx,[j,a7<|.loc b,k,x,y],a)):
  W (eL (nY<|.loc l) (c4 [3,4]) (dN (aA 1) (aA 4)<|aA 3) ((L.map PP).length+1) 0 [j,a7<|.loc b,k,n,o] μ) Q:=by
 refine Vo (λi c a=>∃x y,c=[j,a7<|.loc b,k,x,y]/\h<+:a/\a[b]?=a7 (.dT<|a8 v<|K++L.take i)) ⟨n,o,rfl,m,by rw[List.take_zero,a1O];exact r⟩ (by rintro _ _ _ ⟨_,_,_,p,_⟩;exact aN p gl) ?_ ?_
 .rintro i d c a hd ⟨x,y,rfl,p,g⟩;obtain⟨q,e,rfl⟩:=m7 hd;refine⟨_,rfl,?_⟩;have z:i<L.length:=(a0f.mp e).1;show W (dN (aA 1) (aA 4) (aA 3) [j,a7<|.loc b,k,a7<|.int i,a7<|PP q] a) _;simp only[w_mPut,aL,aO];refine(oG g (cX q)<|by rw[a0d,a0q,a1w,a0O];lia).mpr ?_;refine⟨_,_,rfl,gM p lo _,?_⟩;rw[eQ g,<- u i q e,HX,gT e,a3o];intro w;rcases a1t.mp w with w|w
  .exact s q (a0S e) w
  .exact qN nd e w
 .rintro c a ⟨x,y,rfl,p,g⟩;rw[a0d,a1N]at g;exact H x y a p g
theorem Zd(nd:qs.Nodup)(o:qs.length<=100)(P:Pil qs g (GZ Z))(hz:Z[i]?=a7 z):
  (∀(j:Nat)q,z.2.1[j]?=a7 q->(λq=>D.int<|dX (GZ Z) q) q=.int (j:Int))/\(∀q∈z.2.1,q∉flat ((GZ Z).take i))/\z.2.1.Nodup/\(flat<|(GZ Z).take i).length+z.2.1.length<=1000:=by
 have a:(z.1,z.2.1)∈GZ Z:=a0u.mpr ⟨z,a0S hz,rfl⟩;refine⟨λj q b=>by dsimp only;rw[xS nd P a b],λq b w=>?_,P.nd nd a,?_⟩
 .obtain⟨x,h,c⟩:=mem_flat.mp w;have d:=a6f h;have e:x.1=z.1:=by rw[<- (P.one d c).2,(P.one a b).2]
  have:z.1∉((GZ Z).take i).map (·.1):=by rw[a8j,i7];have k:=P.kd;rw[i7]at k;exact qN k<|by rw[a0v,hz];rfl
  exact this<|e▸a0u.mpr ⟨x,h,rfl⟩
 .have l:=(P.flat nd).length_eq;have m:(flat<|(GZ Z).take i).length+z.2.1.length=(flat<|(GZ Z).take<|i+1).length:=by rw[Jz hz,JD,a0q]
  have n:(flat<|(GZ Z).take<|i+1).length<=(flat<|GZ Z).length:=by
   have:GZ Z=(GZ Z).take (i+1)++(GZ Z).drop (i+1):=(a3d _ _).symm;conv=>rhs;rw[this]
   unfold flat;rw[a4P,a0q];lia
  lia
theorem Ze k(nd:qs.Nodup)(A:qs.length<=100)(I:HI μ h Z)(e:μ[h]?=a7 (.dT<|aW Z))(P:Pil qs g (GZ Z))(Q:jz)(H:∀b a,μ<+:a->a[b]?=a7 (.dT<|a8 (λq=>.int<|dX (GZ Z) q)<|flat<|GZ Z)->Q (.loc b,a)):W (f (k+1) "heights_in" [.loc h] μ) Q:=by
 have o:h<μ.length:=(a0f.mp e).1;rw[V4,W_fin,w_mSeq];simp only[w_mSet,w_mDNewT,a0H,a0I];rw[w_mSeq];have r:=I.frz e;have l:(μ.set h<|.dF<|aW Z).length=μ.length:=a1d;have p:μ.set h (.dF<|aW Z)<+:(μ++[C.dT []]).set h (.dF<|aW Z):=by rw[a4E _ _ o];exact a4Z _ _
 refine Y3 rfl (aN (aU _ _) e) (λi c a=>∃x y z,c=[a7<|.loc h,a7<|.loc μ.length,x,y,z]/\μ.set h (.dF<|aW Z)<+:a/\a[μ.length]?=a7 (.dT<|a8 (λq=>.int<|dX (GZ Z) q)<|flat<|(GZ Z).take i))
  ⟨b0,b0,b0,rfl,p,by rw[a0p<|by lia];exact bK _ _⟩ ?_ ?_
 .rintro i M d c a w ⟨x,y,R,rfl,m,n⟩;obtain⟨z,s,j,rfl,rfl⟩:=W4 w;simp only[a0H,a0I,w_mForI];refine Vn ?_;simp only[w_mCons,aV,aL,aO];refine⟨z.2.2,z.2.1.map PP,rfl,(r.more m).at_ z s,?_⟩;obtain⟨E,G,J,K⟩:=Zd nd A P j;refine Zc (v:=λq=>.int<|dX (GZ Z) q) (K:=flat ((GZ Z).take i)) E G J K m (by rw[l];exact a0l _) (r.at_ z s) n _ λN O L B u=>?_;refine⟨rfl,_,_,_,rfl,B,?_⟩;rw[Jz j,JD];exact u
 .rintro c a ⟨x,y,z,rfl,m,n⟩;have v:a[h]?=a7 (.dF<|aW Z):=aN m<|eQ e;refine⟨v,?_⟩;simp only[w_mRet,aL,aO];refine H _ _ (xA e m) ?_;rw[a0p<|by lia,n,a5I<|by rw[w8,GZ,a0d];exact a0l _]
noncomputable def iH(F:Int×Int->Ly)(r:Int×Int->Int)(e:Int×Int):Str:=if(decide (r (sB e)<r (sA e))==decide (dB (F<|sA e)<0))=b5 then "v" else "h"
noncomputable def oV(w h:Int)(F:Int×Int->Ly)(r:Int×Int->Int):List ((Int×Int)×Str):=(lR w h F).map λe=>(e,iH F r e)
theorem JF k q(μ:Hm)(Q:jz)(H:∀a μ',μ<+:μ'->μ'[a]?=a7 (.lst<|((eT q).filter bT).map PP)->Q (.loc a,μ')):W (f (k+2) "sides_of" [PP q] μ) Q:=by
 rw[VC,W_fin];simp only[w_mRet];refine fV (xs:=(eT q).map PP) (p:=λd=>bT<|dH d) (v:=λd=>d) ?_;refine w_iSeq.mpr<|Ho rfl ?_;rw[Jq,W_some];have c:(μ++[C.lst [P (q.1-1) q.2,P q.1<|q.2-1,P q.1<|q.2+1,P (q.1+1) q.2]])[μ.length]?=a7 (.lst<|(eT q).map PP):=bK _ _;refine(eA c).mpr ⟨jX c,rfl,Cj,λd μ' hd b=>?_,λd μ' hd _ b=>?_,λμ' b e=>?_⟩
 .obtain⟨u,v,rfl⟩:=lH hd;simp only[a0X,a1h,w_mTru,w_mCall,w_mCons,aV,aL,aO,Ii,w_truB];exact⟨rfl,a0E _⟩
 .simp only[a0X,a1h,aL,aO];exact⟨trivial,a0E _⟩
 .refine H _ _ ((aU _ _).trans b) ?_;rw[e,m3 bT]
noncomputable def oW(F:Int×Int->Ly)(r:Int×Int->Int)(s t:Int×Int):Str:=if(if dB (F s)=-1 then decide (r t<r s)else decide (r s<r t))=b5 then "v" else "h"
theorem JG(h:∀q,Dih (F q))(hd:F (sA e)=bR (dR e) (F<|sB e))(i:r (sA e)≠r (sB e)):oW F r (sA e) (sB e)=iH F r e/\oW F r (sB e) (sA e)=iH F r e:=by
 have d:dB (F<|sA e)=-dB (F<|sB e):=by rw[hd,BF,Hx];lia
 have g:=xQ<|h<|sB e;unfold oW iH;have a:dB (F<|sB e)=1\/dB (F<|sB e)=-1:=g.imp (·.1) (·.1);rw[d];rcases a with a|a
 .rw[a];constructor<;>(by_cases b:r (sB e)<r (sA e)<;>by_cases c:r (sA e)<r (sB e)<;>simp[b,c]<;>lia)
 .rw[a];constructor<;>(by_cases b:r (sB e)<r (sA e)<;>by_cases c:r (sA e)<r (sB e)<;>simp[b,c]<;>lia)
theorem JH p:bT p=b5↔(p.1%2=1/\p.2%4=2)\/(p.1%4=2/\p.2%2=1):=by
 unfold bT;split
 .rw[beq_iff_eq];lia
 .rw[a0j,beq_iff_eq,beq_iff_eq];lia
theorem nC(z:Int):z%2=z%4%2:=(a9k z<|by decide).symm
theorem JI(a:x%4=r%4)(b:y%4=s%4):bT (x,y)=bT (r,s):=by unfold bT;dsimp only;rw[nC x,nC y,a,b,<- nC,<- nC]
theorem Zf x y:bT (-x,y)=bT (x,y):=by
 unfold bT;dsimp only;have a:-x%2=x%2:=by lia
 rcases b0C x with h|h
 .rw[show -x%4=x%4 by lia,a]
 .rw[a,h,if_pos rfl,if_pos rfl]
theorem Zg x y:bT (y,x)=bT (x,y):=by rw[a2c,JH,JH];exact⟨λh=>h.symm.imp a9l a9l,λh=>h.symm.imp a9l a9l⟩
theorem Zh(a:x%4=r)(b:y%4=s)i j:bT (x+i,y+j)=bT (r+i,s+j):=JI (by rw[<- a,b0h])<|by rw[<- b,b0h]
theorem Co(a:x%4=r)(b:y%4=s):(eT (x,y)).filter bT=(([(-1,0),(0,-1),(0,1),(1,0)]:jq).filter λd=>bT (r+d.1,s+d.2)).map λd=>(x+d.1,y+d.2):=by
 have:eT (x,y)=([(-1,0),(0,-1),(0,1),(1,0)]:jq).map λd=>(x+d.1,y+d.2):=by simp only[eT,a0r,a3S,a7g];rfl
 rw[this,a4I];congr 1;exact a9V λd _=>Zh a b d.1 d.2
theorem JJ(h:cF e.1 e.2=b5):(eT e).filter bT=[sA e,sB e]\/(eT e).filter bT=[sB e,sA e]:=by
 have:=nB h;obtain⟨x,y⟩:=e;unfold sA sB;dsimp only at this ⊢;rcases this with⟨d,c⟩|⟨d,c,g⟩|⟨d,c,g⟩
 .have a:x%4=1\/x%4=3:=by lia
  have b:y%4=1\/y%4=3:=by lia
  rw[if_pos d,if_pos d];rcases a with a|a<;>rcases b with b|b<;>rw[Co a b,a,b]
  .exact .inl<|by show[(x+0,y+1),(x+1,y+0)]=_;simp;lia
  .exact .inl<|by show[(x+0,y+-1),(x+1,y+0)]=_;simp;lia
  .exact .inr<|by show[(x+-1,y+0),(x+0,y+1)]=_;simp;lia
  .exact .inr<|by show[(x+-1,y+0),(x+0,y+-1)]=_;simp;lia
 .simp only[if_neg<|show ¬ x%2=1 by lia,if_pos c];rw[Co g c];exact .inl<|by show[(x+0,y+-1),(x+0,y+1)]=_;rw[a7g];rfl
 .simp only[if_neg<|show ¬ x%2=1 by lia,if_neg<|show ¬ y%4=0 by lia];rw[Co g c];exact .inl<|by show[(x+-1,y+0),(x+1,y+0)]=_;rw[a7g];rfl
theorem Zi(a:x%4=r%4)(b:y%4=s%4):cF x y=cF r s:=by unfold cF;rw[nC x,nC y,a,b,<- nC,<- nC]
theorem Zj x y:cF (-x) y=cF x y:=by
 unfold cF;have a:-x%2=x%2:=by lia
 rcases b0C x with h|h
 .rw[show -x%4=x%4 by lia,a]
 .rw[a,h];rfl
theorem Zk x y:cF y x=cF x y:=by
 unfold cF;rw[BEq.comm (a:=y%2),BEq.comm (a:=y%4)];cases h:x%2==y%2
 .rfl
 .rw[eq_of_beq h]
theorem JK{T:Int->Int->Bool}(i:∀{x y r s},x%4=r%4->y%4=s%4->T x y=T r s)(pn:∀x y,T (-x) y=T x y)(ps:∀x y,T y x=T x y)(hA:Dih A)(a:A.e%4=0/\A.g%4=0)e:T (aI A e).1 (aI A e).2=T e.1 e.2:=by
 have c:=pn e.1 e.2;have b:=ps e.1 e.2;have d:T e.1 (-e.2)=T e.1 e.2:=by rw[<- ps,pn,b]
 have h:T (-e.1) (-e.2)=T e.1 e.2:=by rw[pn,d]
 have g:∀{x y r s u v:Int},u%4=0/\v%4=0->T r s=T e.1 e.2->x=r+u->y=s+v->T x y=T e.1 e.2:=λa q j l=>(i (by clear q;lia)<|by clear q;lia).trans q;unfold aI;obtain⟨u,v,k|k|k|k|k|k|k|k⟩:=BH hA<;>subst k<;>dsimp only at a ⊢
 .exact g a rfl (by lia)<|by lia
 .exact g a d (by lia)<|by lia
 .exact g a c (by lia)<|by lia
 .exact g a h (by lia)<|by lia
 .exact g a b (by lia)<|by lia
 .exact g a ((ps _ _).trans c) (by lia)<|by lia
 .exact g a ((pn _ _).trans b) (by lia)<|by lia
 .exact g a ((ps _ _).trans h) (by lia)<|by lia
theorem JM(hA:Dih A)(a:A.e%4=0/\A.g%4=0)(h:cF e.1 e.2=b5):cF (aI A e).1 (aI A e).2=true:=(JK Zi Zj Zk hA a e).trans h
theorem JN k{r:Int×Int->Int}(i:e.Nodup)(h:μ[a]?=a7 (.dT<|a8 (λq=>.int<|r q) e))(j:x∈e)(l:y∈e)(g:μ[c]?=a7 (.lst<|[x,y].map PP))Q(H:Q (.rt<|.str<|if decide (r y<r x)=b5 then "v" else "h",[a7<|.loc a,b,d,a7<|.loc c],μ)):
  W (Hi (k+1) [a7<|.loc a,b,d,a7<|.loc c] μ) Q:=by
 refine eY<|w_mIfE.mpr<|tD (b:=decide (r y<r x))<|eP<|bQ ⟨_,rfl,bQ<|b6 rfl rfl<|(gP g rfl).mpr<|bQ<|b6 rfl rfl<|(gP g rfl).mpr ⟨_,rfl,fX (V5 k _ _ _ _)<|eY<|bS<|b6 rfl rfl<|(i8 (.inl h) (cX x)<|j0 i j).mpr<|b6 rfl rfl<|(i8 (.inl h) (cX y)<|j0 i l).mpr<|w_gtI.mpr ⟨rfl,?_⟩⟩⟩;cases hc:decide (r y<r x)with
 |true=>rw[hc]at H;exact lP rfl ⟨_,rfl,H⟩|false=>rw[hc]at H;exact lO rfl ⟨_,rfl,H⟩
theorem Zl k(p:∀q,Dih (F q))(K:row.Nodup)(x:d.Nodup){μ:Hm}(u:μ[a]?=a7 (.dT<|a8 (λq=>.int<|r q) d))(E:μ[b]?=a7 (.dT<|a8 (λq=>LD<|F q) row))(G:cF e.1 e.2=b5)(v:sA e∈row/\sB e∈row)(m:sA e∈d/\sB e∈d)(hd:F (sA e)=bR (dR e) (F<|sB e))(I:r (sA e)≠r (sB e))(Q:jz)(H:∀j,μ<+:j->Q (.str<|iH F r e,j)):
  W (f (k+4) "mark_by_heights" [.loc a,.loc b,PP e] μ) Q:=by
 have c:∀s t:Int×Int,s∈row->s∈d->t∈d->oW F r s t=iH F r e->(eT e).filter bT=[s,t]->W (f (k+4) "mark_by_heights" [.loc a,.loc b,PP e] μ) Q:=λs t J fs o B A=>by
  refine fX (V7 (k+3) _ _ _ μ)<|cG<|cJ rfl<|fX (V6 (k+2) _ _ μ)<|cG<|cJ rfl<|JF k e _ _ λl L i g=>?_;rw[A]at g;rw[<- B]at H;unfold oW at H;refine w_mSeq.mpr<|w_mIfS.mpr<|tD<|eP<|bQ<|bS ⟨_,rfl,b6 rfl rfl<|(gP g rfl).mpr<|(i8 (.inl<|aN i E) (cX s)<|j0 K J).mpr ⟨_,rfl,(WR (k+1) (F s) (p s) _ _).mpr ⟨rfl,?_⟩⟩⟩;cases n:dB (F s)==-1 with
  |true=>rw[if_pos<|eq_of_beq n]at H;exact lP rfl (eY ⟨_,rfl,JN (k+2) x (aN i u) fs o g _<|H _ i⟩)|false=>rw[if_neg<|show ¬ dB (F s)=-1 from λw=>by rw[w]at n;cases n]at H;exact lO rfl<|w_mNext.mpr<|eY<|w_mLst.mpr<|bQ<|b6 rfl rfl<|(gP g rfl).mpr<|bQ<|b6 rfl rfl<|(gP g rfl).mpr ⟨_,rfl,fH,JN (k+2) x (aN (i.trans<|aU _ _) u) o fs (bK _ _) _<|H _<|i.trans<|aU _ _⟩
 obtain⟨y,z⟩:=JG p hd I;rcases JJ G with h|h
 .exact c _ _ v.1 m.1 m.2 y h
 .exact c _ _ v.2 m.2 m.1 z h
noncomputable def xT:D->D
 |.tup (a::_)=>a|_=>.non
noncomputable def JO:D->D
 |.tup [_,b]=>b|_=>.non
theorem JP(nd:qs.Nodup)(P:Pil qs g G)(l:a∈qs)(p:b∈qs)(ne:a≠b)(e:g a=g b):dX G a≠dX G b:=by
 obtain⟨x,d,k⟩:=a0u.mp<|P.key.mpr ⟨a,l,rfl⟩;have h:=P.pm x.1;rw[iG P.kd d]at h;have n:a∈x.2:=h.mem_iff.mpr<|a0Y.mpr ⟨l,decide_eq_true k.symm⟩;have o:b∈x.2:=h.mem_iff.mpr<|a0Y.mpr ⟨p,decide_eq_true<|e.symm.trans k.symm⟩;obtain⟨i,m⟩:=a8Y n;obtain⟨j,c⟩:=a8Y o;rw[xS nd P d m,xS nd P d c];intro w;have q:i=j:=by lia
 subst q;rw[m]at c;exact ne<|a0B c
theorem nD(h:cF e.1 e.2=b5):sA e≠sB e:=by
 have:=nB h;unfold sA sB;intro w;rcases this with⟨a,b⟩|⟨a,b,c⟩|⟨a,b,c⟩
 .rw[if_pos a,if_pos a]at w;injection w with w1 w2;lia
 .simp only[if_neg<|show ¬ e.1%2=1 by lia,if_pos b]at w;injection w with w1 w2;lia
 .simp only[if_neg<|show ¬ e.1%2=1 by lia,if_neg<|show ¬ e.2%4=0 by lia]at w;injection w with w1 w2;lia
structure CrF(qs:jq)(F:Int×Int->Ly)(e:Int×Int):Prop where
 r:cF e.1 e.2=b5
 a:sA e∈qs
 b:sB e∈qs
 m:F (sA e)=bR (dR e) (F<|sB e)
noncomputable def qX(r:Int×Int):Int:=if r.1%2=1 then(if r.1%4=r.2%4 then 2 else 3)else if r.2%4=0 then 0 else 1
theorem JQ{qs:jq}(up:(qs.map bE).Pairwise λx y=>HT.lexLt x y=b5):qs.Nodup:=by rw[a9T]at up;exact up.imp λ{x y} h e=>by rw[e,vH]at h;exact a0K h
structure Wf(w h:Int)(F:Int×Int->Ly):Prop where
 di:∀q,Dih (F q)
 lt:∀q,(F q).e%4=0/\(F q).g%4=0
 ed:∀e∈dS w h,F (sA e)=F (sB e)\/F (sA e)=bR (dR e) (F<|sB e)
structure Dr(qs:jq)(μ:Hm)(a b:Nat)(F:Int×Int->Ly)(row:jq)(Z:Zr):Prop where
 hw:μ[a]?=a7 (.dT<|a8 (λq=>LD<|F q) row)
 hr:row.Perm qs
 hi:HI μ b Z
 hh:μ[b]?=a7 (.dT<|aW Z)
 pl:Pil qs (λq=>aI (F q) q)<|GZ Z
theorem Dr.more{μ':Hm}(d:Dr qs μ a b F row Z)(p:μ<+:μ'):Dr qs μ' a b F row Z:=⟨aN p d.hw,d.hr,d.hi.more p,aN p d.hh,d.pl⟩
theorem Zm(d:cF r.1 r.2=b5):bD (qX r) (b8 (qX r) r)=dR r:=by
 refine BI λp=>?_;rw[Y7,kP];obtain⟨x,y⟩:=r;obtain⟨u,v⟩:=p;unfold bO qX b8;rcases nB d with⟨a,b⟩|⟨a,b,c⟩|⟨a,b,c⟩<;>dsimp only at a b ⊢
 .simp only[if_pos a];by_cases h:x%4=y%4
  .simp only[if_pos h];refine a1g ?_ ?_<;>simp<;>lia
  .simp only[if_neg h];refine a1g ?_ ?_<;>simp<;>lia
 .simp only[if_neg<|show ¬ x%2=1 by lia,if_pos b];refine a1g ?_ ?_<;>simp
 .simp only[if_neg<|show ¬ x%2=1 by lia,if_neg<|show ¬ y%4=0 by lia];refine a1g ?_ ?_<;>simp
theorem oX{o:Option a}{x:a}(h:W o λr=>r=x):o=a7 x:=by obtain⟨r,e,rfl⟩:=h;exact e
theorem JR(a:s ρ μ=a7 (b,μ))(d:t ρ μ=a7 (c,μ)):jH s t ρ μ=a7 (b&&c,μ):=oX<|w_mAndT.mpr ⟨_,a,by cases b with|true=>exact lP rfl ⟨_,d,rfl⟩|false=>exact lO rfl rfl⟩
theorem Zn(a:s ρ μ=a7 (b,μ))(d:t ρ μ=a7 (c,μ)):iK s t ρ μ=a7 (b||c,μ):=oX<|w_mOrT.mpr ⟨_,a,by cases b with|true=>exact lP rfl rfl|false=>exact lO rfl ⟨_,d,rfl⟩⟩
theorem Zo u(a:n%4=0)(h:A.e%4=0/\A.g%4=0):(bR A<|bD u n).e%4=0/\(bR A<|bD u n).g%4=0:=by
 unfold bR bD;split
 .dsimp only;lia
 split
 .dsimp only;lia
 split
 .dsimp only;lia
 .dsimp only;lia
theorem qY(hw:1<=w/\w<=3)(c:1<=h/\h<=3):(w,h)∈kS:=by
 have a:=fJ hw;have b:=fJ c;revert w h;intro w h _ _ a b;have:∀w∈[(1:Int),2,3],∀h∈[(1:Int),2,3],(w,h)∈kS:=by decide
 exact this w a h b
theorem Zp k{qs:jq}(nd:qs.Nodup)(M:qs.length<=100)(x:∀q,Dih (F q))(g:row.Perm qs){S:List ((Int×Int)×Str)}(N:S.length<=100)(y:∀p∈S,CrF qs F p.1)(z:μ[a]?=a7 (.dT<|a8 (λq=>LD<|F q) row))(I:HI μ b Z)(A:μ[b]?=a7 (.dT<|aW Z))(P:Pil qs (λq=>aI (F q) q) (GZ Z))(Q:jz)(H:∀c e,μ<+:e->μ.length<=c->e[c]?=a7 (.lst<|(S.map λp=>(p.1,iH F (dX<|GZ Z) p.1)).map MD)->Q (.loc c,e)):W (f (k+5) "marks_by" [SH w h S,.loc a,.loc b] μ) Q:=by
 rw[V8,W_fin,w_mSeq];simp only[w_mSet,w_mCall,w_mCons,aV,aL,aO];refine Ze (k+3) nd (by lia) I A P _ λc J j u=>?_;simp only[a0H,a0I,w_mRet];have l:=P.flat nd;refine Hb (xs:=S.map MD) (x:=λd=>[a7<|xT d,a7<|JO d]) (p:=λ_=>b5) (v:=λd=>MD (dH<|xT d,iH F (dX<|GZ Z)<|dH<|xT d)) ?_;simp only[SH,w_iSeq,w_mOp,aL,aO,bM,Cb];refine w_seqT.mpr ⟨wR,rfl,by rw[a0d,a0O];lia,λd e hd=>?_,λd e hd i=>w_mTrue.mpr ⟨rfl,a0E _⟩,λd e hd _ i=>?_,λK E v=>?_⟩
 .obtain⟨m,_,rfl⟩:=a0u.mp hd;rfl
 .obtain⟨m,B,rfl⟩:=a0u.mp hd;simp only[a0X,a1h,w_mTup,w_mCall,w_mCons,aV,aL,aO,xT,JO];obtain⟨n,o,r,s⟩:=y m B;refine Zl k x (g.nodup_iff.mpr nd) (l.nodup_iff.mpr nd) (aN i u) (aN (j.trans i) z) n ⟨g.mem_iff.mpr o,g.mem_iff.mpr r⟩ ⟨l.mem_iff.mpr o,l.mem_iff.mpr r⟩ s (JP nd P o r (nD n)<|EdF.pos n s) _ λL G=>?_;exact⟨fH,rfl,G⟩
 .refine H _ _ (j.trans E) j.length_le ?_;rw[v,a4Q.mpr λ_ _=>rfl,a0x,a0x];rfl
theorem Zq:∀p∈kS,(eJ p.1 p.2).filter jF=dS p.1 p.2:=by decide +kernel
theorem Zs k(g:(w,h)∈kS)(μ:Hm)(Q:jz)(H:∀a μ',μ<+:μ'->μ'[a]?=a7 (.lst<|(dS w h).map PP)->Q (.loc a,μ')):W (f (k+2) "edges_in" [.int w,.int h] μ) Q:=by
 obtain⟨hw,e,_⟩:=lQ _ g;refine fX (VU (k+1) _ _ μ)<|eY<|fV (xs:=(eJ w h).map PP) (p:=λd=>jF<|dH d) (v:=λd=>d)<|w_iSeq.mpr<|cJ rfl<|BS _ w h hw e _ _ λa l j c m=>(eA c).mpr ⟨jX c,rfl,?_,λd μ' hd b=>?_,λd μ' hd _ b=>⟨_,rfl,rfl,a0E _⟩,λμ' b i=>?_⟩
 .have:=BU (w:=w) (h:=h) hw.2 e.2;rw[a0d,a0O];lia
 .obtain⟨u,v,rfl⟩:=lH hd;exact tD (b:=jF (u,v))<|cJ rfl<|(Jp k u v _ _).mpr ⟨rfl,rfl,a0E _⟩
 .refine H _ _ (j.trans b) ?_;rw[i,m3 jF,Zq _ g]
noncomputable def tZ(e:Int×Int):jq:=(eT e).filter bT
theorem Cp(h:cF e.1 e.2=b5):∃s t,tZ e=[s,t]/\s≠t/\((s=sA e/\t=sB e)\/(s=sB e/\t=sA e)):=by
 rcases JJ h with a|a
 .exact⟨_,_,a,nD h,.inl ⟨rfl,rfl⟩⟩
 .exact⟨_,_,a,a1j<|nD h,.inr ⟨rfl,rfl⟩⟩
theorem Zt(h:cF e.1 e.2=b5):bO e e=e:=by
 obtain⟨x,y⟩:=e;unfold bO;rcases nB h with⟨a,b⟩|⟨a,b,c⟩|⟨a,b,c⟩<;>dsimp only at a b ⊢
 .by_cases h:x%4=y%4
  .simp only[if_pos a,if_pos h];refine a1g ?_ ?_<;>dsimp only<;>lia
  .simp only[if_pos a,if_neg h];refine a1g ?_ ?_<;>dsimp only<;>lia
 .simp only[if_neg<|show ¬ x%2=1 by lia,if_pos b];refine a1g ?_ ?_<;>dsimp only<;>lia
 .simp only[if_neg<|show ¬ x%2=1 by lia,if_neg<|show ¬ y%4=0 by lia];refine a1g ?_ ?_<;>dsimp only<;>lia
inductive Sh:jq->jq->Prop where
 |c0 (a b):Sh [a,b] []
 |c1 (a b):Sh [] [a,b]
 |s (a b):Sh [a] [b]
theorem JS p q:q∈eT p↔(q.1=p.1-1/\q.2=p.2)\/(q.1=p.1/\q.2=p.2-1)\/(q.1=p.1/\q.2=p.2+1)\/(q.1=p.1+1/\q.2=p.2):=by unfold eT;simp only[a0D,a3a,or_false,a6N]
theorem Zu(hA:Dih A)(c:A.e%4=0/\A.g%4=0)(h:q∈tZ e):aI A q∈tZ (aI A e):=by
 obtain⟨a,b⟩:=a0Y.mp h;rw[JS]at a;refine a0Y.mpr ⟨?_,?_⟩
 .rw[JS];unfold aI;obtain⟨u,v,h|h|h|h|h|h|h|h⟩:=BH hA<;>subst h<;>dsimp only<;>lia
 .rw[show bT (aI A q)=bT q from JK (T:=λx y=>bT (x,y)) JI Zf Zg hA c q];exact b
theorem Zv(hA:Dih A)(h:p≠q):aI A p≠aI A q:=λe=>h<|by
 have:=congrArg (aI<|BE A) e;rwa [w5 hA,w5 hA]at this
section
variable(c:Int×Int->Int×Int->Int×Int->Bool)
end
theorem Zw(k:0<=u/\u<4)(j:n%4=0)(i:cF p.1 p.2=b5)(hd:aY u n a (sA p)≠aY u n a (sB p)):u=qX p/\n=b8 (qX p) p:=by
 have h:¬ (n<b8 u (sA p)↔n<b8 u (sB p)):=λe=>hd (by unfold aY;rw[decide_eq_decide.mpr e]);clear hd;obtain⟨x,y⟩:=p;revert h;have c:u=0\/u=1\/u=2\/u=3:=by lia
 unfold sA sB qX;rcases nB i with⟨b,d⟩|⟨b,d,g⟩|⟨b,d,g⟩<;>dsimp only at b d ⊢
 .by_cases g:x%4=y%4
  .simp only[if_pos b,if_pos g];rcases c with rfl|rfl|rfl|rfl<;>unfold b8<;>simp<;>lia
  .simp only[if_pos b,if_neg g];rcases c with rfl|rfl|rfl|rfl<;>unfold b8<;>simp<;>lia
 .simp only[if_neg<|show ¬ x%2=1 by lia,if_pos d];rcases c with rfl|rfl|rfl|rfl<;>unfold b8<;>simp<;>lia
 .simp only[if_neg<|show ¬ x%2=1 by lia,if_neg<|show ¬ y%4=0 by lia];rcases c with rfl|rfl|rfl|rfl<;>unfold b8<;>simp<;>lia
theorem JT(h:0<=u/\u<4)(g:n%4=0)(b:cF p.1 p.2=b5)(hd:aY u n a (sA p)≠aY u n a (sB p)):aI (bD u n) p=p/\aI (bD u n) (sA p)=sB p/\aI (bD u n) (sB p)=sA p:=by
 obtain⟨c,d⟩:=Zw h g b hd;have e:bD u n=dR p:=by rw[c,d];exact Zm b
 rw[e,kP,kP,kP];exact⟨Zt b,Cn b⟩
theorem Zx(b:cF p.1 p.2=b5)(h:q∈tZ p):q=sA p\/q=sB p:=by
 obtain⟨s,t,e,_,a⟩:=Cp b;rw[e]at h;have:q=s\/q=t:=by simpa using h
 rcases a with⟨rfl,rfl⟩|⟨rfl,rfl⟩
 .exact this
 .exact this.symm
theorem Zy(b:cF p.1 p.2=b5)(h:q=sA p\/q=sB p):q∈tZ p:=by obtain⟨s,t,e,_,a⟩:=Cp b;rw[e];rcases a with⟨rfl,rfl⟩|⟨rfl,rfl⟩<;>rcases h with rfl|rfl<;>simp
theorem JU(hA:Dih A)(b:A.e%4=0/\A.g%4=0)(a:cF e.1 e.2=b5)(c:q=sA e\/q=sB e):aI A q=sA (aI A e)\/aI A q=sB (aI A e):=Zx (JM hA b a)<|Zu hA b<|Zy a c
noncomputable def JL(F:Int×Int->Ly):Prop:=(∀q,Dih (F q))/\(∀q,(F q).e%4=0/\(F q).g%4=0)/\∀e,cF e.1 e.2=b5->F (sA e)=F (sB e)\/F (sA e)=bR (dR e) (F<|sB e)
theorem Zz:JL λ_=>bU:=⟨λ_=>wZ,λ_=>⟨rfl,rfl⟩,λ_ _=>.inl rfl⟩
theorem ZA(h:x≠y):(x=b5/\y=b3)\/(x=b3/\y=b5):=by cases x<;>cases y<;>simp at h ⊢
theorem ZC F u n a(m:0<=u/\u<4)(k:n%4=0)(h:JL F):JL (b9 u n a F):=by
 obtain⟨c,j,p⟩:=h;refine⟨HZ c,λq=>?_,λe b=>?_⟩
 .unfold b9;split
  .exact Zo u k<|j q
  .exact j q
 .unfold b9;rcases p e b with i|i
  .have s:=JU (c<|sB e) (j<|sB e) b<|.inl rfl;have lt:=JU (c<|sB e) (j<|sB e) b<|.inr rfl;have o:=JM (c<|sB e) (j<|sB e) b;have ne:=Zv (c<|sB e)<|nD b;rw[i];by_cases d:aY u n a (aI (F<|sB e)<|sA e)=aY u n a (aI (F<|sB e)<|sB e)
   .rw[d];exact .inl rfl
   .have l:aI (bD u n) (aI (F<|sB e)<|sA e)=aI (F<|sB e) (sB e)/\aI (bD u n) (aI (F<|sB e)<|sB e)=aI (F<|sB e) (sA e):=by
     rcases s with g|g<;>rcases lt with e2|e2
     .exact absurd (g.trans e2.symm) ne
     .rw[g,e2]at d ⊢;exact(JT m k o d).2
     .rw[g,e2]at d ⊢;exact(JT m k o<|a1j d).2.symm
     .exact absurd (g.trans e2.symm) ne
    obtain⟨v,w⟩:=Cn b;have X:bR (F<|sB e) (bD u n)=bR (dR e) (F<|sB e):=by
     refine Za (w4 (c _)<|w9 u n) (w4 (wY e)<|c _) ?_ (nD b) ?_ ?_
     .rw[BF,BF,Y8,Hx,Int.mul_comm]
     .rw[kQ,kQ,kP,v,l.1]
     .rw[kQ,kQ,kP,w,l.2]
    refine .inr ?_;rcases ZA d with⟨x,y⟩|⟨x,y⟩<;>rw[x,y]
    .exact X
    .show F (sB e)=bR (dR e) (bR (F<|sB e)<|bD u n);rw[<- tG,<- X,tG,Zb,WN]
  .have r:=EdF.pos b i;refine .inr ?_;rw[r];split
   .rw[<- tG,<- i]
   .exact i
theorem JL.wf(b:(w,h)∈kS)(J:JL F):Wf w h F:=⟨J.1,J.2.1,λe a=>J.2.2 e ((lQ _ b).2.2.2.2.2.2.2 e a).1⟩
theorem ZD{w h:Int}(hw:1<=w/\w<=6)(c:1<=h/\h<=6):(4*w-1).toNat*(4*h-1).toNat+(4*h-1).toNat<=900:=by
 have a:(4*w-1).toNat<=23:=by lia
 have b:(4*h-1).toNat<=23:=by lia
 have:=a6r a b;lia
theorem ZE k w h(hw:1<=w/\w<=3)(c:1<=h/\h<=3)μ(Q:jz)(H:Q (.loc μ.length,μ++[.lst<|(dS w h).map PP])):W (f (k+1) "_law_inner" [.int w,.int h] μ) Q:=by
 rw[Wi,W_fin];simp only[w_mSeq,w_mSet,w_mLst,aV];refine⟨a1U _,?_⟩;simp only[a0H,a0I,w_mForI,wQ,w_mCons,aV,bM,w_mOp,aL,aO,oH];refine⟨by lia,?_⟩;refine HH _ cF _ _ _ _ 1 (4*h-1).toNat (λo1 o2 μ Q=>?_) (λx y μ Q=>?_) (4*w-1).toNat (ZD (by lia)<|by lia) _ (bK _ _) _ λo1 o2=>?_
 .simp only[wQ,w_mCons,aV,bM,w_mOp,aL,aO,oH];exact and_iff_right<|by lia
 .have e:cF x y=((x%2==1&&y%2==1)||(x%2==0&&x%4+y%4==2)):=by unfold cF;rw[<- xR x,<- xR y];exact JB (P:=λa b=>(a%2==b%2&&(a%2==1||!(a==b)))=((a%2==1&&b%2==1)||(a%2==0&&a+b==2))) (by decide) x y
  rw[e,Zn (JR (b:=x%2==1) (c:=y%2==1) (by kernel_rfl)<|by kernel_rfl)<|JR (b:=x%2==0) (c:=x%4+y%4==2) (by kernel_rfl)<|by kernel_rfl];exact W_some
 .simp only[w_mRet,aL,aO];rw[tH];exact H
noncomputable def JV(μ:Hm)(l:Nat)(e:Int×Int):Prop:=∃a b,μ[l]?=a7 (.lst<|[a,b].map PP)/\((a=sA e/\b=sB e)\/(a=sB e/\b=sA e))
theorem ZF{P:Int×Int}(n:P≠R){L:jq}(h:L.Perm [P,R]):∃a b,L=[a,b]/\((a=R/\b=P)\/(a=P/\b=R)):=by
 match L,h.length_eq with
 |[a,b],_=>
  refine⟨a,b,rfl,?_⟩;have d:a=P\/a=R:=by simpa using h.mem_iff.mp (show a∈[a,b] by simp)
  have e:b=P\/b=R:=by simpa using h.mem_iff.mp (show b∈[a,b] by simp)
  have c:a≠b:=by simpa using h.nodup_iff.mpr (by simpa using n)
  rcases d with rfl|rfl<;>rcases e with rfl|rfl
  .exact absurd rfl c
  .exact .inr ⟨rfl,rfl⟩
  .exact .inl ⟨rfl,rfl⟩
  .exact absurd rfl c
theorem ZG k(h:cF e.1 e.2=b5)(μ:Hm)(Q:jz)(H:∀l μ',μ<+:μ'->JV μ' l e->Q (.loc l,μ')):W (f (k+1) "_law_beside" [PP e] μ) Q:=by
 obtain⟨x,y⟩:=e;have hc:=nB h;dsimp only at hc;refine fX (Wj k _ μ)<|iW<|iV (r:=(.nx,[a7<|PP (x,y),a7<|.int x,a7<|.int y],μ)) (by kernel_rfl) ⟨rfl,oJ (b:=y%4==0) (μ':=μ) (by kernel_rfl) (λc=>tE<|iV (r:=(.loc μ.length,μ++[.lst [P x<|y-1,P x<|y+1]])) (by kernel_rfl)<|H _ _ (aU _ _) ⟨(x,y-1),(x,y+1),bK _ _,.inl ?_⟩) λc=>m4<|oJ (b:=x%4==0) (μ':=μ) (by kernel_rfl) (λg=>tE<|iV (r:=(.loc μ.length,μ++[.lst [P (x-1) y,P (x+1) y]])) (by kernel_rfl)<|H _ _ (aU _ _) ⟨(x-1,y),(x+1,y),bK _ _,.inl ?_⟩) λg=>m4<|eY<|cJ (ds:=[.loc μ.length]) (μ':=μ++[.lst [P (x+2-x%4) y,P x<|y+2-y%4]]) (by kernel_rfl) ?_⟩
 .have c:=beq_iff_eq.mp c;unfold sA sB;simp only[if_neg<|show ¬ x%2=1 by lia,if_pos c];exact⟨trivial,trivial⟩
 .have c:=beq_eq_false_iff_ne.mp c;have g:=beq_iff_eq.mp g;unfold sA sB;simp only[if_neg<|show ¬ x%2=1 by lia,if_neg c];exact⟨trivial,trivial⟩
 .have c:=beq_eq_false_iff_ne.mp c;have g:=beq_eq_false_iff_ne.mp g;refine(Y6 (ps:=[(x+2-x%4,y),(x,y+2-y%4)]) (bK _ _)<|by show(2:Nat)<64;decide).mpr ?_;have d:sA (x,y)=(x,y+2-y%4)/\sB (x,y)=(x+2-x%4,y):=by unfold sA sB;simp only[if_pos<|show x%2=1 by lia];exact⟨trivial,trivial⟩
  have n:=nD h;rw[d.1,d.2]at n;obtain⟨a,b,i,o⟩:=ZF (a1j n)<|Jy [(x+2-x%4,y),(x,y+2-y%4)];refine H _ _ ((aU _ _).trans<|aU _ _) ⟨a,b,?_,?_⟩
  .rw[i];exact bK _ _
  .rw[d.1,d.2];exact o
theorem ZH:∀p∈kS,dS p.1 p.2≠[]:=by decide +kernel
theorem ZI(d:(w,h)∈kS)(wf:Wf w h F)(c:e∈lR w h F):CrF (eB w h) F e:=by obtain⟨a,b⟩:=a0Y.mp c;obtain⟨j,g,i,_⟩:=(lQ _ d).2.2.2.2.2.2.2 e a;refine⟨j,g,i,(wf.ed e a).resolve_left λz=>?_⟩;rw[z]at b;simp at b
noncomputable def ZJ(k:Nat):MS:=(aH (aR 5<|aF (f k "sides_of")<|aB (aA 4) aD)<|aZ (aS<|aC (aT b5) (aC aE (aA 2)<|aC aE (aA 5)<|mC<|.int 0)<|aC aE (aA 2)<|aC aE (aA 5)<|mC<|.int 1) (cY<|cV eV (aA 3)<|aB (aA 4) aD) bA)
theorem ZK{μ:Hm}k(B:(w,h)∈kS)(m:row.Perm (eB w h))(nd:(eB w h).Nodup)(R:μ[a]?=a7 (.dT<|a8 (λq=>LD<|F q) row))(Q:jz)(H:∀c μ',μ<+:μ'->μ'[c]?=a7 (.lst<|(lR w h F).map PP)->Q (.loc c,μ')):W (f (k+3) "creased_edges" [.int w,.int h,.loc a] μ) Q:=by
 obtain⟨_,_,_,_,_,E,_,fr⟩:=lQ _ B;replace E:(dS w h).length<=64:=E;refine fX (Wc (k+2) _ _ _ μ)<|cG<|w_mLst.mpr ⟨_,rfl,a1U _,iW<|w_mForI.mpr<|w_iSeq.mpr<|cJ rfl<|Zs k B _ _ λl X G u=>(eA u).mpr ?_⟩;have T:μ.length≠l:=λz=>by have:=aN G<|bK μ<|C.lst [];rw[z,u]at this;injection this with this;injection this with this;exact ZH _ B<|a6v.mp this
 refine lF (b:=ZJ (k+2)) (λi g μ'=>∃x y,g=[a7<|.int w,a7<|.int h,a7<|.loc a,a7<|.loc μ.length,x,y]/\μ<+:μ'/\μ'[μ.length]?=a7 (.lst<|(((dS w h).take i).filter λe=>!decide (F (sA e)=F (sB e))).map PP)/\μ'[l]?=a7 (.lst<|(dS w h).map PP)) ⟨b0,b0,rfl,(aU _ _).trans G,aN G<|bK _ _,u⟩ (by rintro _ _ _ ⟨_,_,_,_,_,h⟩;exact h) ?_ ?_
 .rintro i d g I hd ⟨x,y,rfl,n,o,J⟩;obtain⟨e,A,rfl⟩:=m7 hd;obtain⟨U,M,N,_⟩:=fr e<|a0S A;obtain⟨s,t,O,_,r⟩:=Cp U;have b:(s∈row/\t∈row)/\(!decide (F s=F t))=!decide (F (sA e)=F (sB e)):=by
   rcases r with⟨rfl,rfl⟩|⟨rfl,rfl⟩
   .exact⟨⟨m.mem_iff.mpr M,m.mem_iff.mpr N⟩,rfl⟩
   .exact⟨⟨m.mem_iff.mpr N,m.mem_iff.mpr M⟩,by rw[decide_eq_decide.mpr eq_comm]⟩
  refine⟨_,rfl,cG<|cJ rfl<|JF k e _ _ λc Y j v=>?_⟩;rw[show(eT e).filter bT=[s,t]from O]at v;have K:=aN (n.trans j) R;have p:=aN j o;have L:=m.nodup_iff.mpr nd;have lt:(((dS w h).take i).filter λe=>!decide (F (sA e)=F (sB e))).length<=64:=a1l (a0Z _ _)<|a1l (a8X _ _) E;refine w_mIfS.mpr<|iX<|bS<|bS ⟨_,rfl,b6 rfl rfl<|(gP v<|show atI ([s,t].map PP) 0=a7 (PP s)from rfl).mpr<|(i8 (.inl K) (cX _)<|j0 L b.1.1).mpr<|bS ⟨_,rfl,b6 rfl rfl<|(gP v<|show atI ([s,t].map PP) 1=a7 (PP t)from rfl).mpr<|(i8 (.inl K) (cX _)<|j0 L b.1.2).mpr<|w_neLD.mpr ⟨_,rfl,?_⟩⟩⟩;rw[b.2];cases hc:!decide (F (sA e)=F (sB e))with
  |false=>refine lO rfl<|w_mNext.mpr ⟨_,_,rfl,n.trans j,?_,aN j J⟩;rw[gT A,a1D,a1u<|by rw[hc];exact a0K,a2J,a1O];exact p|true=>refine lP rfl (w_mDrop.mpr<|iF ⟨_,rfl,jY p,_,rfl,(qL p<|by rw[a0d,a0O];lia).mpr ⟨_,_,rfl,gM (n.trans j) (a0l _) _,?_,(a0p T).trans<|aN j J⟩⟩);rw[eQ p,gT A,a1D,a1x (p:=λe=>!decide (F (sA e)=F (sB e))) hc,a2J,a0z];rfl
 .rintro g I ⟨x,y,rfl,n,o,_⟩;rw[a0d,a1N]at o;exact⟨rfl,eY ⟨_,rfl,H _ _ n o⟩⟩
theorem JW:∀w∈[(1:Int),2,3],∀h∈[(1:Int),2,3],b7 w h=eB w h:=by decide +kernel
theorem w_gT4:W (c4 [i,j,k,l] (.tup [a,b,c,d]) e μ) Q↔Q ((((e.set i<|a7 a).set j<|a7 b).set k<|a7 c).set l<|a7 d):=W_some
theorem ZL(h:cF e.1 e.2=b5):oQ e.1 e.2=[sA e,sB e]\/oQ e.1 e.2=[sB e,sA e]:=by
 unfold oQ sA sB;rcases nB h with⟨b,a⟩|⟨b,a,c⟩|⟨b,a,c⟩
 .rw[if_neg<|show ¬ e.2%4=0 by lia,if_neg<|show ¬ e.1%4=0 by lia,if_pos b,if_pos b];exact .inr rfl
 .rw[if_pos a,if_neg<|show ¬ e.1%2=1 by lia,if_neg<|show ¬ e.1%2=1 by lia,if_pos a,if_pos a];exact .inl rfl
 .rw[if_neg<|show ¬ e.2%4=0 by lia,if_pos<|show e.1%4=0 by lia,if_neg<|show ¬ e.1%2=1 by lia,if_neg<|show ¬ e.1%2=1 by lia,if_neg<|show ¬ e.2%4=0 by lia,if_neg<|show ¬ e.2%4=0 by lia];exact .inl rfl
noncomputable def xU(w h:Int)(F:Int×Int->Ly)(m:Int×Int->Bool):Prop:=∀e∈dS w h,m e=!decide (F (sA e)=F (sB e))
theorem JX(wf:Wf w h F)(d:xU w h F m)(b:e∈dS w h)(c:cF e.1 e.2=b5):Ji F m e:=by
 have one:F (sA e)=st m e (F<|sB e):=by
  unfold st;rw[d e b];by_cases z:F (sA e)=F (sB e)
  .rw[decide_eq_true z];exact z
  .rw[decide_eq_false z];exact(wf.ed e b).resolve_left z
 have two:F (sB e)=st m e (F<|sA e):=by rw[one,YB]
 have ne:=nD c;intro q a;unfold j6;rcases ZL c with h|h<;>rw[h]at a ⊢<;>dsimp only
 .rcases a0D.mp a with rfl|a
  .rw[if_pos rfl];exact two
  .rw[a0N.mp a,if_neg<|a1j ne];exact one
 .rcases a0D.mp a with rfl|a
  .rw[if_pos rfl];exact one
  .rw[a0N.mp a,if_neg ne];exact two
theorem JY:∀w∈[(1:Int),2,3],∀h∈[(1:Int),2,3],(∀t∈e8 w h,t.2.1∈dS w h)/\∀c∈(eJ w h).filter fY,Jk c=b5/\∀e∈oU c,e∈dS w h:=by decide +kernel
theorem JZ(h:q∈kvs.map (·.1)):∃x∈kvs,x.1=q/\cN kvs q=x.2:=by
 unfold cN;cases z:kvs.find? λp=>p.1==q with
 |some x=>exact⟨x,a2K z,by simpa using a5Q z,rfl⟩|none=>obtain⟨p,a,b⟩:=a0u.mp h;have:=a2x.mp z p a;simp[b]at this
theorem ZM m e A B:bR (st m e A) B=st m e (bR A B):=by
 unfold st;split
 .rw[tG]
 .rfl
theorem J6{F:Int×Int->Ly}A:∀t kvs,qV (kvs.map (·.1)) t=b5->(∀x∈t,F x.1=st m x.2.1 (F x.2.2))->(∀p∈kvs,bR p.2 A=F p.1)->∀p∈cW m kvs t,bR p.2 A=F p.1
 |[],_,_,_,h=>h|(c,e,p)::t,kvs,hw,ht,h=>by
  rw[qV,a0j,a0j]at hw;obtain⟨⟨_,g⟩,i⟩:=hw;obtain⟨x,j,b,d⟩:=JZ (kvs:=kvs) (q:=p) (by simpa using g);refine J6 A t _ (by simpa using i) (λy a=>ht y<|a0F _ a) λy a=>?_;rcases a1t.mp a with a|a
  .exact h y a
  .rw[a0N.mp a];show bR (st m e<|cN kvs p) A=F c;rw[ZM,d,h x j,b];exact(ht (c,e,p)<|a0P ..).symm
theorem ZN(hw:1<=w/\w<=3)(a:1<=h/\h<=3)(wf:Wf w h F)(j:xU w h F m)(l:q∈b7 w h):bR (cN (xP m w h) q) (F<|first w h)=F q:=by
 obtain⟨_,o,r,s,_⟩:=Ci w (jC hw) h<|jC a;obtain⟨c,_⟩:=JY w (jC hw) h<|jC a;have fr:=(lQ _<|qY hw a).2.2.2.2.2.2.2;obtain⟨x,n,g,i⟩:=JZ (kvs:=xP m w h) (q:=q)<|by
  have:(xP m w h).map (·.1)=jG (first w h) (e8 w h):=xO m _ _;rw[this];exact s q l
 rw[i,<- g];refine J6 (F:=F) (m:=m) (F<|first w h) (e8 w h) [(first w h,bU)] o (λt b=>?_) (λp k=>?_) x n
 .obtain⟨d,e⟩:=r t b;have:=JX wf j (c t b) (fr _<|c t b).1 t.2.2 d;rw[e]at this;exact this
 .rw[a0N.mp k];exact BG _
theorem ZO(h:Dih A)(e:aI A p=aI A q):p=q:=by rw[<- w5 h p,e,w5 h q]
theorem ZP(hw:1<=w/\w<=3)(k:1<=h/\h<=3)(wf:Wf w h F)(o:xU w h F m)(hc:c∈(eJ w h).filter fY):jD m c.1 c.2=true:=by obtain⟨_,q⟩:=JY w (jC hw) h<|jC k;obtain⟨b,l⟩:=q c hc;have fr:=(lQ _<|qY hw k).2.2.2.2.2.2.2;have g:=Jd (a0Y.mp hc).2;rw[Jk,a0j,decide_eq_true_eq]at b;have n:=Jj (L:=F) (m:=m) (oU c) (tT c) (λe j=>JX wf o (l e j) (fr e<|l e j).1) b.1;rw[b.2]at n;have a:∀p,(oU c).foldr (jE m) p=p:=λp=>ZO (wf.di<|tT c) (by rw[<- Je,<- n]);unfold jD;refine a2z.mpr λd _=>beq_iff_eq.mpr ?_;have i:=Jf m (oU c) (c.1+d.1,c.2+d.2);rw[a,Jh (es:=oU c)<|YG g.1 g.2]at i;exact i
theorem ZQ:bX ms e=decide (e∈ms.map (·.1)):=by unfold bX;rw[a2c,b0g,decide_eq_true_iff];exact⟨λ⟨x,a,b⟩=>by rw[<- beq_iff_eq.mp b];exact a,λh=>⟨e,h,beq_self_eq_true _⟩⟩
theorem Ka r:xU w h F (bX<|oV w h F r):=λe a=>by rw[ZQ];unfold oV;rw[a0x,show(Prod.fst∘λe=>(e,iH F r e))=id from rfl,a8V,a2c,decide_eq_true_iff];exact⟨λh=>(a0Y.mp h).2,λh=>a0Y.mpr ⟨a,h⟩⟩
theorem ZR(hw:1<=w/\w<=3)(a:1<=h/\h<=3)(wf:Wf w h F)r:(eJ w h).find? (oT<|oV w h F r)=none:=by
 refine a2x.mpr λc hc=>?_;unfold oT;cases z:fY c with
 |false=>exact a0K|true=>rw[ZP hw a wf (Ka r)<|a0Y.mpr ⟨hc,z⟩];exact a0K
theorem w_eqLD{Q:jz}:W (aT b3 (LD A) (LD B) μ) Q↔Q (.bl<|decide<|A=B,μ):=by
 have:aT b3 (LD A) (LD B) μ=a7 (.bl<|decide<|A=B,μ):=by unfold aT;rw[JC];rfl
 rw[this];exact W_some
theorem Kb(nd:qs.Nodup)(P:Pil qs g G)(b:x∈G)(a:q∈x.2):((x.2.idxOf q:Nat):Int)=dX G q:=by refine(xS nd P b (i:=x.2.idxOf q) ?_).symm;have h:=a4S a;rw[a0w h,a9v h]
theorem ZS(b:Bool)μ:aE (.str "hv") (.int<|if b then 1 else 0) μ=a7 (.str<|if b then "v" else "h",μ):=by cases b<;>kernel_rfl
theorem He(b:Bool){Q:jz}(H:Q (.int<|if b then 1 else 0,μ)):W (nR [.bl b] μ) Q:=by cases b<;>exact W_some.mpr H
noncomputable def ZT(k:Nat):MS:=(aH (aR 11<|aC aE (aA 1)<|aF (f k "_law_led")<|aB (aC aE (aA 0)<|aA 3)<|aB (aA 3) aD)<|aQ<|aC aE (mC<|.str "hv")<|aF nR<|aB (aC iP (cV kJ (aA 11)<|aB (aA 4) aD)<|cV kJ (aA 11)<|aB (aA 3) aD) aD)
theorem Kc k(u:∀q,Dih (F q))(nd:qs.Nodup)(I:qs.length<=100)(d:Dr qs μ a b F row Z)(j:s∈qs)(v:t∈qs)(e:aI (F s) s=aI (F t) t)R(H:∀G,R (.rt<|.str<|if decide (dX (GZ Z) s<dX (GZ Z) t)then "v" else "h",G,μ)):
  W (ZT (k+1) [a7<|.loc a,a7<|.loc b,w,a7<|PP s,a7<|PP t,x,y,A,B,E,m,n] μ) R:=by
 have key:=d.pl.key.mpr ⟨s,j,rfl⟩;rw[i7]at key;obtain⟨z,l,h⟩:=a0u.mp key;have i:(z.1,z.2.1)∈GZ Z:=a0u.mpr ⟨z,l,rfl⟩;have g:=d.pl.pm z.1;rw[iG d.pl.kd i]at g;have p:s∈z.2.1:=g.mem_iff.mpr<|a0Y.mpr ⟨j,decide_eq_true h.symm⟩;have r:t∈z.2.1:=g.mem_iff.mpr<|a0Y.mpr ⟨v,decide_eq_true<|e.symm.trans h.symm⟩;have c:=d.hi.at_ z l;have o:z.2.1.length<=a0s:=a1l (a1l (a3V g.length_eq)<|a0Z _ _) (by rw[a0O];lia);refine cG<|bS ⟨_,rfl,eP<|bQ<|b6 rfl rfl<|(i8 (.inl d.hw) (cX s)<|j0 (d.hr.nodup_iff.mpr nd)<|d.hr.mem_iff.mpr j).mpr ⟨_,rfl,(qR k (F s) (u s) s _ _).mpr ?_⟩⟩;rw[<- h];refine(i8 (.inl d.hh) (cX z.1)<|tJ d.hi.kd l).mpr<|eY<|bS ⟨_,rfl,Hv<|bS<|iF ⟨_,rfl,jY c,_,rfl,(Cf c r o).mpr<|iF ⟨_,rfl,jY c,_,rfl,(Cf c p o).mpr<|w_gtI.mpr ?_⟩⟩⟩;rw[Kb nd d.pl i r,Kb nd d.pl i p];exact He _ ⟨_,ZS _ _,H _⟩
theorem ZU k(g:∀q,Dih (F q))(nd:qs.Nodup)(A:qs.length<=100)(d:Dr qs μ a b F row Z)(n:cF e.1 e.2=b5)(i:sA e∈qs)(j:sB e∈qs)(E:F (sA e)=F (sB e)\/F (sA e)=bR (dR e) (F<|sB e))(T:JV μ l e)(Q:jz)(H:Q (if F (sA e)=F (sB e)then .non else .str (iH F (dX<|GZ Z) e),μ)):W (f (k+2) "_law_mark" [.loc a,.loc b,.loc l] μ) Q:=by
 obtain⟨u,v,gl,o⟩:=T;have c:u∈qs/\v∈qs/\decide (F u=F v)=decide (F (sA e)=F (sB e)):=by
  rcases o with⟨rfl,rfl⟩|⟨rfl,rfl⟩
  .exact⟨i,j,rfl⟩
  .exact⟨j,i,decide_eq_decide.mpr eq_comm⟩
 obtain⟨p,r,w⟩:=c;have B:=d.hr.nodup_iff.mpr nd;have z:=λ(s:aG)(Q:jz)(h:Q (LD<|F u,μ))=>(i8 (μ:=μ) (.inl d.hw) (cX u) (j0 B<|d.hr.mem_iff.mpr p) (Q:=Q)).mpr h;have G:=λ(s:aG)(Q:jz)(h:Q (LD<|F v,μ))=>(i8 (μ:=μ) (.inl d.hw) (cX v) (j0 B<|d.hr.mem_iff.mpr r) (Q:=Q)).mpr h;refine fX (Ws (k+1) _ _ _ μ)<|w_mSeq.mpr<|w_mAsg.mpr ⟨_,rfl,(Vi gl).mpr<|oJ (b:=decide (F u=F v)) (μ':=μ) (oX<|iX<|bS<|b6 rfl rfl<|z [] _<|b6 rfl rfl<|G [] _<|w_eqLD.mpr ⟨_,rfl,rfl⟩) (λh=>tE ⟨_,rfl,?_⟩) λh=>m4 ?_⟩
 .rw[w]at h;rw[if_pos<|of_decide_eq_true h]at H;exact H
 .rw[w]at h;have y:=of_decide_eq_false h;rw[if_neg y]at H;have m:=E.resolve_left y;have ne:=JP nd d.pl i j (nD n)<|EdF.pos n m;obtain⟨I,J⟩:=JG g m ne;have x:=EdF.pos n m;have c:oW F (dX<|GZ Z) u v=iH F (dX<|GZ Z) e/\aI (F u) u=aI (F v) v:=by
   rcases o with⟨rfl,rfl⟩|⟨rfl,rfl⟩
   .exact⟨I,x⟩
   .exact⟨J,x.symm⟩
  obtain⟨K,L,N,O⟩:=(g u).sm;refine w_mSeq.mpr<|w_mAsg.mpr<|bS ⟨_,rfl,_,rfl,z [] _<|w_gTup6.mpr ?_⟩;refine oJ (b:=decide (dB (F u)<0)) (μ':=μ) (oX<|iX<|bS<|bS<|b6 rfl rfl<|(iY K).mpr<|b6 rfl rfl<|(iY L).mpr<|w_subI.mpr ⟨_,rfl,w_ltI.mpr ⟨_,rfl,rfl⟩⟩) (λh=>?_) λh=>m4 ?_;all_goals
   have M:dB (F u)=1\/dB (F u)=-1:=(xQ<|g u).imp (·.1) (·.1);rw[<- c.1]at H;unfold oW at H
  .have hd:dB (F u)=-1:=by have:=of_decide_eq_true h;lia
   rw[if_pos hd]at H;refine w_mSeq.mpr<|w_mPar.mpr ⟨_,rfl,Kc k g nd A d r p c.2.symm _ λs=>H⟩
  .have hd:¬ dB (F u)=-1:=by have:=of_decide_eq_false h;lia
   rw[if_neg hd]at H;exact Kc k g nd A d p r c.2 _ λs=>H
theorem ZV r:(((lR w h F).map λe=>(e,("o":Str))).map λp=>(p.1,iH F r p.1))=oV w h F r:=by rw[a0x];rfl
theorem Kd k(m:(w,h)∈kS)(wf:Wf w h F)(nd:(eB w h).Nodup)(i1:μ[o]?=a7 (.ins "Folding"<|j5 w h b))(i2:μ[b]?=a7 (.lst<|xs++[.tup [.loc l,.loc p]]))(d:Dr (eB w h) μ l p F row Z)(Q:jz)(H:∀μ',μ<+:μ'->Q (SH w h<|oV w h F<|dX<|GZ Z,μ')):W (f (k+6) "Folding.sheet" [.loc o] μ) Q:=by
 obtain⟨_,_,x,_,_,n,_,fr⟩:=lQ _ m;replace x:(eB w h).length<=48:=x;replace n:(dS w h).length<=64:=n;have O:(lR w h F).length<=64:=a1l (a0Z _ _) n;have i:∀{μ':Hm}{r:aG},μ<+:μ'->eH "Folding" "wide" (aA 0) (a7 (.loc o)::r) μ'=a7 (.int w,μ')/\eH "Folding" "high" (aA 0) (a7 (.loc o)::r) μ'=a7 (.int h,μ'):=λq=>⟨oX<|qS ⟨_,rfl,o,_,_,rfl,aN q i1,rfl,rfl⟩,oX<|qS ⟨_,rfl,o,_,_,rfl,aN q i1,rfl,rfl⟩⟩;refine fX (WA (k+5) _ μ)<|cG<|IJ i1 i2 _<|cG<|Hv ?_;refine fV (xs:=(lR w h F).map PP) (p:=λ_=>b5) (v:=λd=>MD (dH d,"o"))<|w_iSeq.mpr<|eP<|bQ ⟨_,(i<|a0E _).1,bQ ⟨_,(i<|a0E _).2,bQ<|b6 rfl rfl<|w_it20.mpr ⟨_,rfl,ZK (k+2) m d.hr nd d.hw _ λc K G s=>(eA s).mpr ⟨jX s,rfl,by rw[a0d,a0O];lia,λd μ' hd A=>w_mTrue.mpr ⟨rfl,a0E _⟩,λz μ' E _ A=>?_,λL I y=>(Bu y).mpr ?_⟩⟩⟩⟩
 .obtain⟨e,v,rfl⟩:=a0u.mp E;exact w_mTup.mpr ⟨_,rfl,fH,rfl,a0E _⟩
 .have a:=G.trans I;have j:=d.more a;rw[a4Q.mpr λ_ _=>rfl,a0x,show(a8W ((λd=>MD (dH d,("o":Str)))∘PP)<|lR w h F)=((lR w h F).map λe=>(e,("o":Str))).map MD by rw[a0x];rfl];refine cG (eP<|bQ<|w_mTup.mpr<|bQ ⟨_,(i a).1,bQ ⟨_,(i a).2,_,rfl,by show(3:Nat)<=a0s;decide,bQ<|b6 rfl rfl<|w_it20.mpr<|bQ<|b6 rfl rfl<|w_it21.mpr ⟨_,rfl,?_⟩⟩⟩);refine Zp (k+0) (w:=w) (h:=h) (S:=(lR w h F).map λe=>(e,("o":Str))) nd (by lia) wf.di d.hr (by rw[a0d];lia) (λq B=>?_) j.hw j.hi j.hh j.pl _ λN M J _ u=>?_
  .obtain⟨e,v,rfl⟩:=a0u.mp B;exact ZI m wf v
  .have g:=a.trans J;rw[ZV]at u;exact eY<|w_mTup.mpr<|bQ ⟨_,(i g).1,bQ ⟨_,(i g).2,bQ<|cJ rfl<|(Bu u).mpr ⟨_,rfl,by show(3:Nat)<=a0s;decide,H _ g⟩⟩⟩
theorem ZW μ n p:cI (n+3) μ (MD p) (MD p)=a7 true:=by obtain⟨⟨x,y⟩,s⟩:=p;have e:cI (n+3) μ (MD ((x,y),s)) (MD ((x,y),s))=a7 ((x==x&&(y==y&&b5))&&((s==s)&&b5)):=rfl;rw[e];simp
theorem Ke μ n:∀T:List<|(Int×Int)×Str,gD (cI (n+3) μ) (T.map MD) (T.map MD)=a7 b5
 |[]=>rfl|p::T=>by show(cI (n+3) μ (MD p)<|MD p).bind (λb=>(gD (cI (n+3) μ) (T.map MD)<|T.map MD).map λc=>b&&c)=_;rw[ZW,Ke μ n T];rfl
theorem ZX μ w h T:aT b3 (SH w h T) (SH w h T) μ=a7 (.bl b5,μ):=by
 have e:cI 8 μ (SH w h T) (SH w h T)=a7 true:=by show(a7<|w==w).bind (λb=>((a7<|h==h).bind λa=>((gD (cI 6 μ) (T.map MD)<|T.map MD).bind λd=>(a7 b5).map λc=>d&&c).map λc=>a&&c).map λc=>b&&c)=_;rw[Ke μ 3 T,beq_self_eq_true,beq_self_eq_true];rfl
 unfold aT;rw[e];rfl
noncomputable def ZY(k:Nat):MS:=(aH (aR 6<|aF (f k "_law_mark")<|aB (aC aE (aA 1)<|mC<|.int 0)<|aB (aC aE (aA 1)<|mC<|.int 1)<|aB (aF (f k "_law_beside")<|aB (aA 5) aD) aD)<|aZ (aS<|aC (fN b5) (aA 6)<|mC .non) (cY<|cV eV (aA 4)<|aB (aX<|aB (aA 5)<|aB (aA 6) aD) aD) bA)
noncomputable def oY(w h:Int)(F:Int×Int->Ly)(r:Int×Int->Int)(i:Nat):List ((Int×Int)×Str):=(((dS w h).take i).filter λe=>!decide (F (sA e)=F (sB e))).map λe=>(e,iH F r e)
theorem ZZ k(hw:1<=w/\w<=3)(A:1<=h/\h<=3)(wf:Wf w h F)(i1:μ[o]?=a7 (.ins "Folding"<|j5 w h b))(i2:μ[b]?=a7 (.lst<|xs++[.tup [.loc l,.loc p]]))(d:Dr (eB w h) μ l p F row Z)(d':Dr (eB w h) μ l' p' F row' Z')(L:GZ Z'=GZ Z)(Q:jz)(H:∀μ',μ<+:μ'->Q (.bl b5,μ')):W (f (k+7) "_law_right" [.loc o,.tup [.loc l',.loc p'],.int w,.int h] μ) Q:=by
 have E:=qY hw A;obtain⟨_,_,G,_,up,I,_,fr⟩:=lQ _ E;replace G:(eB w h).length<=48:=G;replace I:(dS w h).length<=64:=I;have nd:(eB w h).Nodup:=JQ<|Cm up;refine fX (Wt (k+6) _ _ _ _ μ)<|cG<|w_mLst.mpr ⟨_,rfl,a1U _,iW<|w_mForI.mpr<|w_iSeq.mpr<|cJ rfl<|ZE (k+5) w h hw A _ _<|(eA<|bK _ _).mpr ?_⟩;refine lF (b:=ZY (k+6)) (λi j μ'=>∃x y,j=[a7<|.loc o,a7<|.tup [.loc l',.loc p'],a7<|.int w,a7<|.int h,a7<|.loc μ.length,x,y,b0]/\μ<+:μ'/\μ'[μ.length]?=a7 (.lst<|(oY w h F (dX<|GZ Z) i).map MD)/\μ'[(μ++[C.lst []]).length]?=a7 (.lst<|(dS w h).map PP)) ⟨b0,b0,rfl,(aU _ _).trans<|aU _ _,aN (aU _ _)<|bK _ _,bK _ _⟩ (by rintro _ _ _ ⟨_,_,_,_,_,h⟩;exact h) ?_ ?_
 .rintro i R j u hd ⟨x,y,rfl,a,q,z⟩;obtain⟨e,s,rfl⟩:=m7 hd;have B:=a0S s;obtain⟨J,N,O,_⟩:=fr e B;refine⟨_,rfl,cG<|eP<|bQ<|b6 rfl rfl<|w_it20.mpr<|bQ<|b6 rfl rfl<|w_it21.mpr<|bQ<|cJ rfl<|ZG (k+5) J _ _ λm v g K=>⟨_,rfl,ZU (k+4) wf.di nd (by lia) (d'.more<|a.trans g) J N O (wf.ed e B) K _ ?_⟩⟩;have n:=a.trans g;have r:=aN g q;have M:((oY w h F (dX<|GZ Z) i).map MD).length<a0s:=by unfold oY;rw[a0d,a0d,a0O];have:=a0Z (λe=>!decide (F (sA e)=F (sB e)))<|(dS w h).take i;have:=a8X i<|dS w h;lia
  by_cases c:F (sA e)=F (sB e)
  .rw[if_pos c];refine w_mIfS.mpr<|iX<|b6 rfl rfl<|w_isnotNN.mpr ⟨_,rfl,lO rfl<|w_mNext.mpr ⟨_,_,rfl,n,?_,aN g z⟩⟩;unfold oY;rw[gT s,a1D,a1u<|by rw[decide_eq_true c];exact a0K,a2J,a1O];exact r
  .rw[if_neg c,L];refine w_mIfS.mpr<|iX<|b6 rfl rfl ⟨_,rfl,_,rfl,lP rfl<|w_mDrop.mpr<|iF ⟨_,rfl,jY r,w_mCons.mpr<|w_mTup.mpr ⟨_,rfl,fH,_,rfl,(qL r M).mpr ⟨_,_,rfl,gM n (a0l _) _,?_,?_⟩⟩⟩⟩
   .rw[eQ r];unfold oY;rw[gT s,a1D,a1x (p:=λe=>!decide (F (sA e)=F (sB e)))<|by rw[decide_eq_false c];rfl,a2J,a0z,a0z];rfl
   .rw[a0p<|by rw[a0q];exact a0y<|a1A _];exact aN g z
 .rintro j u ⟨x,y,rfl,a,q,_⟩;rw[a0d,show oY w h F (dX<|GZ Z) (dS w h).length=oV w h F (dX<|GZ Z) by unfold oY;rw[a1N];rfl]at q;refine⟨rfl,cG<|tL ⟨_,rfl,o,_,rfl,aN a i1,rfl,_,rfl,Kd k E wf nd (aN a i1) (aN a i2) (d.more a) _ λv g=>?_⟩⟩;refine eY<|w_mAndV.mpr<|cJ rfl ⟨_,rfl,lP rfl<|w_mAndV.mpr<|bS<|cJ rfl<|w_lenT.mpr ⟨_,rfl,_,rfl,lP rfl<|bS ⟨_,rfl,w_mTup.mpr<|bQ ⟨_,rfl,bQ ⟨_,rfl,bQ<|cJ rfl<|(Bu<|aN g q).mpr ⟨_,rfl,by show(3:Nat)<=a0s;decide,_,ZX _ _ _ _,H _<|a.trans g⟩⟩⟩⟩⟩⟩
noncomputable def Kf(k:Nat):MS:=(aH (aR 9<|aX<|aB (aC bI (aC aE (aA 6)<|mC<|.int 0)<|aA 7)<|aB (aC bI (aC aE (aA 6)<|mC<|.int 1)<|aA 8) aD)<|aZ (aS<|aC (aT b5) (aF (f k "_law_led")<|aB (aA 5)<|aB (aF (f k "_law_led")<|aB (aC aE (aA 4)<|aA 6)<|aB (aA 9) aD) aD)<|aF (f k "_law_led")<|aB (aC aE (aA 1)<|aA 6)<|aB (aA 9) aD) (aQ<|mC<|.bl b3) bA)
noncomputable def Z0(k:Nat):MS:=(cD (cU<|cQ<|aB (aX<|aB (mC<|.int 0)<|aB (mC<|.int 0) aD)<|aB (aX<|aB (mC<|.int 1)<|aB (mC<|.int 0) aD)<|aB (aX<|aB (mC<|.int 0)<|aB (mC<|.int 1) aD) aD) (c4 [7,8])<|Kf k)
theorem Z1{Q:jz}(e:p=q)(H:Q (.bl b3,μ)):W (aT b5 (PP p) (PP q) μ) Q:=by subst e;refine w_neP.mpr ?_;rw[beq_self_eq_true,beq_self_eq_true];exact H
noncomputable def D84:jq:=[(0,0),(1,0),(0,1)]
theorem Z2 k(hw:1<=w/\w<=3)(e:1<=h/\h<=3)(wf:Wf w h F)(i1:μ[o]?=a7 (.ins "Folding"<|j5 w h b))(i2:μ[b]?=a7 (.lst<|xs++[.tup [.loc l,.loc p]]))(d:Dr (eB w h) μ l p F row Z)(N:row'.Perm (eB w h))(gl:μ[l']?=a7 (.dT<|a8 (λq=>LD<|F q) row'))(Q:jz)(H:∀μ',μ<+:μ'->Q (.bl b5,μ')):W (f (k+8) "_law_laid_right" [.loc o,.loc l',.int w,.int h] μ) Q:=by
 have O:=qY hw e;obtain⟨_,_,l1,_,up,l2,_,fr⟩:=lQ _ O;have nd:(eB w h).Nodup:=JQ<|Cm up;have nr:=N.nodup_iff.mpr nd;have qe:=JW w (fJ hw) h<|fJ e;obtain⟨_,t2,t3,t4,t5,_⟩:=Ci w (jC hw) h<|jC e;obtain⟨_,_,q3,_⟩:=tP w (fJ hw) h<|fJ e;have fst:atI ((b7 w h).map PP) 0=a7 (PP<|first w h)/\first w h∈b7 w h:=by
  rw[t5];match b7 w h,q3 with
  |q::qs,_=>refine⟨?_,a0P ..⟩;unfold atI;rw[wX (b1X 0)<|by simp];rfl
 have R:∀{q:Int×Int},q∈b7 w h->∀{μ':Hm},μ<+:μ'->∀{Q:jz},Q (LD<|F q,μ')->W (aE (.loc l') (PP q) μ') Q:=λ{q} m {μ'} pq Q h=>(i8 (.inl<|aN pq gl) (cX q)<|j0 nr<|N.mem_iff.mpr<|qe▸m).mpr h;refine fX (Wu (k+7) _ _ _ _ μ)<|cG<|eP<|bQ<|tL ⟨_,rfl,o,_,rfl,i1,rfl,_,rfl,Kd (k+1) O wf nd i1 i2 d _ λμ1 p1=>⟨_,rfl,Y1 k hw e _ (ZR hw e wf _) _ _ λa kvs n p2 X hv=>?_⟩⟩;have y:=p1.trans p2;refine cG<|bS ⟨_,rfl,bS<|cJ rfl<|BL (k+6) w h hw e _ _ ⟨_,rfl,(gP (bK _ _) fst.1).mpr<|R fst.2 (y.trans<|aU _ _) ?_⟩⟩;have J:=y.trans<|aU n<|C.lst<|(b7 w h).map PP;have L:=aN (aU n<|C.lst<|(b7 w h).map PP) X;generalize n++[C.lst<|(b7 w h).map PP]=μ3 at J L;refine iW<|w_mForI.mpr<|w_iSeq.mpr<|cJ rfl<|BL (k+6) w h hw e _ _<|(eA<|bK _ _).mpr ?_;have G:=aU μ3<|C.lst<|(b7 w h).map PP;have M:=bK μ3<|C.lst<|(b7 w h).map PP;generalize μ3++[C.lst<|(b7 w h).map PP]=μ4 at G M;refine lF (b:=Z0 (k+7)) (λi c μ'=>∃K r s x,c=[a7<|.loc o,a7<|.loc l',a7<|.int w,a7<|.int h,a7<|.loc a,a7<|LD<|F<|first w h,K,r,s,x]/\μ4<+:μ') ⟨b0,b0,b0,b0,rfl,a0E _⟩ (by rintro _ _ _ ⟨_,_,_,_,_,p⟩;exact aN p M) ?_ ?_
 .rintro i T c g hd ⟨K,r,s,x,rfl,z⟩;obtain⟨q,m,rfl⟩:=m7 hd;have m:=a0S m;have ly:=ZN hw e wf (Ka (w:=w) (h:=h) (F:=F)<|dX<|GZ Z) m;refine⟨_,rfl,w_mForI.mpr<|w_iSeq.mpr<|iV (r:=(.loc g.length,g++[.lst<|D84.map PP])) (by kernel_rfl)<|(eA<|bK _ _).mpr ?_⟩;refine lF (b:=Kf (k+7)) (λi c μ'=>∃r s x,c=[a7<|.loc o,a7<|.loc l',a7<|.int w,a7<|.int h,a7<|.loc a,a7<|LD<|F<|first w h,a7<|PP q,r,s,x]/\(g++[.lst<|D84.map PP])<+:μ') ⟨r,s,x,rfl,a0E _⟩ (by rintro _ _ _ ⟨_,_,_,_,p⟩;exact aN p<|bK _ _) ?_ ?_
  .rintro j T c E hd ⟨y7,y8,y9,rfl,B⟩;obtain⟨⟨u,v⟩,hu,rfl⟩:=m7 hd;have I:=J.trans<|G.trans<|z.trans<|(aU _ _).trans B;have Y:=aN (G.trans<|z.trans<|(aU _ _).trans B) L;have U:=Jt (bX<|oV w h F<|dX<|GZ Z) (first w h) (e8 w h) q;refine⟨_,rfl,cG<|iV (r:=(PP (q.1+u,q.2+v),E)) (by kernel_rfl)<|w_mIfS.mpr<|iX<|bS<|eP<|bQ ⟨_,rfl,bQ<|eP<|bQ<|b6 rfl rfl<|(i8 (.inl Y) (cX q)<|hv q m).mpr ⟨_,rfl,(qR (k+6) _ U _ _ _).mpr ⟨_,rfl,(qR (k+6) _ (wf.di _) _ _ _).mpr<|eP<|bQ<|b6 rfl rfl<|R m I ⟨_,rfl,(qR (k+6) _ (wf.di q) _ _ _).mpr ?_⟩⟩⟩⟩⟩;exact Z1 ((kQ _ _ _).symm.trans<|congrArg (λA=>aI A _) ly) ⟨_,rfl,lO rfl<|w_mNext.mpr ⟨_,_,_,rfl,B⟩⟩
  .rintro c E ⟨y7,y8,y9,rfl,B⟩;exact⟨_,_,_,_,rfl,z.trans<|(aU _ _).trans B⟩
 .rintro c g ⟨K,r,s,x,rfl,z⟩;exact⟨rfl,eY ⟨_,rfl,H _<|J.trans<|G.trans z⟩⟩
structure Si84(μ:Hm)(w h:Int)(o b s:Nat)(ps:List (D×D)):Prop where
 i1:μ[o]?=a7 (.ins "Folding"<|j5 w h b)
 i2:μ[b]?=a7 (.lst<|ps.map (·.1))
 i3:μ[s]?=a7 (.lst<|ps.map (·.2))
 bs:b≠s
 st:∀p∈ps,∃F G,StB μ [s,b] p.1 F (b7 w h) G/\StB μ [s,b] p.2 F (b7 w h) G/\Gd (b7 w h) F G/\JL F
theorem Si84.more{μ':Hm}(I:Si84 μ w h o b s ps)(p:μ<+:μ'):Si84 μ' w h o b s ps:=⟨aN p I.i1,aN p I.i2,aN p I.i3,I.bs,λy e=>let⟨F,G,h1,a,c,d⟩:=I.st y e;⟨F,G,h1.more p,a.more p,c,d⟩⟩
theorem Si84.lst{μ:Hm}{w h:Int}{o b s:Nat}{ps:List (D×D)}(I:Si84 μ w h o b s ps):∀c∈[s,b],∃xs,μ[c]?=a7 (.lst xs):=λc hc=>by
 rcases a0D.mp hc with rfl|hc
 .exact⟨_,I.i3⟩
 .rw[a0N.mp hc];exact⟨_,I.i2⟩
theorem Si84.step(I:Si84 μ w h o b s ps)(i:∀c y,c≠b->c≠s->μ[c]?=a7 y->μ'[c]?=a7 y)(j:μ'[b]?=a7 (.lst<|a.map (·.1)))(k:μ'[s]?=a7 (.lst<|a.map (·.2)))(r:∀p∈a,p∈ps\/∃F G,StB μ' [s,b] p.1 F (b7 w h) G/\StB μ' [s,b] p.2 F (b7 w h) G/\Gd (b7 w h) F G/\JL F):Si84 μ' w h o b s a:=by
 have g:∀(c:Nat)(y:C),c∉[s,b]->μ[c]?=a7 y->μ'[c]?=a7 y:=λc y hc=>i c y (λe=>hc<|e▸by simp) λe=>hc (e▸by simp);refine⟨i o _ (λe=>?_) (λe=>?_) I.i1,j,k,I.bs,λp d=>(r p d).elim (λd=>let⟨F,G,l,m,n,q⟩:=I.st p d;⟨F,G,l.keep I.lst g,m.keep I.lst g,n,q⟩) id⟩
 .have:=I.i1;rw[e,I.i2]at this;cases this
 .have:=I.i1;rw[e,I.i3]at this;cases this
theorem xV(hw:1<=w/\w<=3)(k:1<=h/\h<=3)(S:StB μ B d F (b7 w h) G)(j:Gd (b7 w h) F G):∃l p Z,d=.tup [.loc l,.loc p]/\Dr (eB w h) μ l p F (eB w h) Z/\GZ Z=G:=by obtain⟨l,p,Z,e,c,I,i,a,_⟩:=S.ex;have g:=JW w (fJ hw) h<|fJ k;rw[g]at c;exact⟨l,p,Z,e,⟨c,.refl _,I,i,by rw[a,<- g];exact j.pl⟩,a⟩
theorem Cq k(hw:1<=w/\w<=3)(a:1<=h/\h<=3)(I:Si84 μ w h o b s (ps++[x]))(Q:jz)(H:∀μ',μ<+:μ'->Q (.bl b5,μ')):W (f (k+7) "_law_right" [.loc o,x.2,.int w,.int h] μ) Q:=by obtain⟨F,G,e,g,c,q⟩:=I.st x (by simp);obtain⟨l,p,Z,m,i,r⟩:=xV hw a e c;obtain⟨y,z,v,n,j,u⟩:=xV hw a g c;have d:=I.i2;rw[a0z,show[x].map (·.1)=[x.1]from rfl,m]at d;rw[n];exact ZZ k hw a (q.wf<|qY hw a) I.i1 d i j (u.trans r.symm) Q H
theorem Z3 k(hw:1<=w/\w<=3)(a:1<=h/\h<=3)(I:Si84 μ w h o b s (ps++[x]))(Q:jz)(H:∀μ',μ<+:μ'->Q (.bl b5,μ')):W (aE x.2 (.int 0) μ) λr=>W (f (k+8) "_law_laid_right" [.loc o,r.1,.int w,.int h] r.2) Q:=by obtain⟨F,G,g,i,d,q⟩:=I.st x (by simp);obtain⟨l,p,Z,m,j,z⟩:=xV hw a g d;obtain⟨v,y,u,n,c,A⟩:=xV hw a i d;have e:=I.i2;rw[a0z,show[x].map (·.1)=[x.1]from rfl,m]at e;rw[n];exact w_it20.mpr<|Z2 k hw a (q.wf<|qY hw a) I.i1 e j c.hr c.hw Q H
theorem qZ(I:Si84 μ w h o b s (ps++[x])){Q:jz}(H:Q (x.2,μ)):W (aE (.loc s) (.int<|-1) μ) Q:=by have a:=I.i3;rw[a0z]at a;exact(gP a<|II _ _).mpr H
noncomputable def Kg(k:Nat):MS:=(aH (hX (aF (f k "_law_plan")<|aB (aC aE (aA 4)<|cK<|mC<|.int 1)<|aB (aF (f k "_law_cell")<|aB (aA 0)<|aB (aA 5) aD)<|aB (aF (f k "_law_cell")<|aB (aA 0)<|aB (aC bI (aA 5)<|mC<|.int 1) aD) aD)<|c4 [6,7,8,9])<|aH (aR 10<|aF (f k "_law_folded")<|aB (aC aE (aA 4)<|cK<|mC<|.int 1)<|aB (aA 7)<|aB (aA 8)<|aB (aA 9) aD)<|aH (aZ (aS<|aC (fN b5) (aA 10)<|mC .non) (aH (cY<|iC "Folding" "fold" (f k "Folding.fold") (aA 3)<|aB (aA 6)<|aB (aA 8)<|aB (aA 9) aD)<|cY<|cV eV (aA 4)<|aB (aA 10) aD) bA)<|aZ (iL<|dE<|aF (f k "_law_right")<|aB (aA 3)<|aB (aC aE (aA 4)<|cK<|mC<|.int 1)<|aB (aA 1)<|aB (aA 2) aD) (aQ<|mC<|.bl b3) bA)
inductive LaI (ns:List Int)(w h:Int)(o b s:Nat):Nat->aG->Hm->Prop
 |mk {i:Nat}{ps:List (D×D)}{x:D×D}{μ:Hm}{x5 x6 x7 x8 x9 x10:Option D}(hp:ps.length<=i)(I:Si84 μ w h o b s (ps++[x])):LaI ns w h o b s i [a7<|.rol<|ns.map D.int,a7<|.int w,a7<|.int h,a7<|.loc o,a7<|.loc s,x5,x6,x7,x8,x9,x10] μ
theorem Z4 k{ns:List Int}(hw:1<=w/\w<=3)(hh:1<=h/\h<=3)(hc:0<=c/\c<=50)(hp:ps.length<=20)(I:Si84 μ w h o b s (ps++[x]))R(H:∀d L U X Y y9 i g,d.length<=ps.length+1->Si84 g w h o b s (d++[L])->R (.nx,[a7<|.rol<|ns.map D.int,a7<|.int w,a7<|.int h,a7<|.loc o,a7<|.loc s,a7<|.int c,U,X,Y,y9,i],g)):
  W (Kg (k+7) [a7<|.rol<|ns.map D.int,a7<|.int w,a7<|.int h,a7<|.loc o,a7<|.loc s,a7<|.int c,x6,x7,x8,x9,x10] μ) R:=by
 obtain⟨_,q2,q3,q4,q5,_⟩:=tP w (fJ hw) h<|fJ hh;have m:∀(d:List (D×D))(L:D×D) U X Y y9 i g,d.length<=ps.length+1->Si84 g w h o b s (d++[L])->W ((aZ (iL<|dE<|aF (f (k+7) "_law_right")<|aB (aA 3)<|aB (aC aE (aA 4)<|cK<|mC<|.int 1)<|aB (aA 1)<|aB (aA 2) aD) (aQ<|mC<|.bl b3) bA) [a7<|.rol<|ns.map D.int,a7<|.int w,a7<|.int h,a7<|.loc o,a7<|.loc s,a7<|.int c,U,X,Y,y9,i] g) R:=λd L U X Y y9 i g hl J=>by refine w_mIfS.mpr<|Hw<|tD (b:=b5)<|eP<|bQ ⟨_,rfl,bQ<|b6 rfl rfl<|qZ J ⟨_,rfl,Cq k hw hh J _ λM p2=>⟨rfl,lO rfl<|w_mNext.mpr<|H d L _ _ _ _ _ M hl<|J.more p2⟩⟩⟩
 refine w_mSeq.mpr (w_mAsg.mpr<|eP<|bQ<|b6 rfl rfl<|qZ I<|bQ<|cJ rfl<|tF (k+6) ns c (by lia) _ _ λμ1 p1=>bQ<|eP<|bQ ⟨_,rfl,bQ<|b6 rfl rfl<|w_addI.mpr ⟨_,rfl,tF (k+6) ns (c+1) (by lia) _ _ λM p2=>⟨_,rfl,?_⟩⟩⟩);have I2:=I.more<|p1.trans p2;obtain⟨F,G,S1,S2,T,jl⟩:=I2.st x (by simp);obtain⟨l,p,Z,eD,g1,J,g2,eZ,nb⟩:=S2.ex;obtain⟨x1,x2⟩:=x;dsimp only at eD S1 S2;subst eD;have G2:Gd (b7 w h) F (GZ Z):=by rw[eZ];exact T
 obtain⟨kq,_,lZ,bZ⟩:=G2.key;have zp:0<Z.length:=by
  cases Z with
  |nil=>obtain⟨q,r⟩:=a8a _ q3;exact absurd (kq q r) (by simp)|cons _ _=>exact a8G _
 refine X5 (k+5) g2 zp _ _ _ λe u n a ov N B E hn=>w_gT4.mpr<|cG<|eP<|bQ<|b6 rfl rfl<|qZ (I2.more B) ⟨_,rfl,?_⟩;have O:=I2.more B;refine XB (k+5) T.di q4 (by lia) q3 q5 (J.more B) (aN B g2) (aN B g1) (by lia) (λz hz=>by have:=bZ z hz;lia) kq E.u0 _ (λhN v K=>?_) λhN S l' p' v K _ gl PJ eS=>?_
 .exact iW<|w_mIfS.mpr<|iX<|b6 rfl rfl<|w_isnotNN.mpr ⟨_,rfl,lO rfl<|w_mNext.mpr ⟨rfl,m _ _ _ _ _ _ _ _ (a3w _)<|O.more K⟩⟩
 .rw[IH,eZ]at hN;have j:=O.more K;have i2:=j.i2;rw[a0z]at i2;have bl:b<N.length:=(a0f.mp O.i2).1;have sl:s<N.length:=(a0f.mp O.i3).1;have T4:=StB.new (B:=[s,b]) gl PJ λc hc=>by
   rcases a0D.mp hc with rfl|hc
   .exact sl
   .rw[a0N.mp hc];exact bl
  rw[eS,eZ]at T4;refine iW<|w_mIfS.mpr<|iX<|b6 rfl rfl<|w_isnotTN.mpr ⟨_,rfl,lP rfl<|BC<|tL ⟨_,rfl,o,_,rfl,j.i1,rfl,_,rfl,?_⟩⟩;refine X6 (k+2) q4 (by lia) j.i1 i2 (by rw[a0d];lia) ((S1.more<|B.trans K).st (b:=b)<|by simp) T E hn hN _ λd' A kp gb SB=>?_;have Q:A[s]?=a7 (.lst<|(ps++[(x1,D.tup [.loc l,.loc p])]).map (·.2)):=kp s _ (a1j j.bs) j.i3;refine w_mDrop.mpr (iF ⟨_,rfl,jY Q,_,rfl,(qL Q<|by rw[a0d,a0q,a0O];show _+1<_;lia).mpr ⟨rfl,?_⟩⟩);have k6:∀(c:Nat)(y:C),c≠b->c≠s->v[c]?=a7 y->(A.set s<|.lst<|(ps++[(x1,D.tup [.loc l,.loc p])]).map (·.2)++[D.tup [.loc l',.loc p']])[c]?=a7 y:=λc y h1 h2 h3=>by rw[a0p<|a1j h2];exact kp c y h1 h3
  have L5:∀c∈[s,b],∃xs,A[c]?=a7 (.lst xs):=λc hc=>by
   rcases a0D.mp hc with rfl|hc
   .exact⟨_,Q⟩
   .rw[a0N.mp hc];exact⟨_,gb⟩
  have b4:∀c∈[s,b],c<v.length:=λc hc=>by
   have:=K.length_le;rcases a0D.mp hc with rfl|hc
   .lia
   .rw[a0N.mp hc];lia
  refine m (ps++[(x1,D.tup [.loc l,.loc p])]) (d',D.tup [.loc l',.loc p']) _ _ _ _ _ _ (by rw[a0q];exact a0l _)<|j.step k6 ?_ ?_ λq r=>?_
  .rw[a0p<|a1j j.bs,gb,a0z,a0z];rfl
  .rw[eQ Q,a0z (l₁:=ps++_)];rfl
  .rcases a1t.mp r with r|r
   .exact .inl r
   .rw[a0N.mp r];refine .inr ⟨_,_,(SB [s,b] b4).keep L5 λc y hc h=>?_,T4.keep j.lst λc y hc h=>k6 c y (λe=>hc<|e▸by simp) (λe=>hc<|e▸by simp) h,T.fold hn a ov,ZC F u n a E.u0 hn jl⟩;rw[a0p λe=>hc<|by rw[<- e];simp];exact h
theorem Z5:∀s∈[(0:Int),1,2,3,4,5],rY 1 (2+2*s) 2=b5/\(a1s 1 (2+2*s) 2).toNat<=6:=by decide +kernel
theorem Z6(h:0<=s/\s<6):s∈[(0:Int),1,2,3,4,5]:=by simp only[a0D,a3a,or_false];lia
theorem Z7 k(ns:List Int)μ:W (f (k+9) "law" [.rol<|ns.map D.int] μ) λr=>r.1=.bl true:=by
 refine fX (Wv (k+8) _ μ) (cG<|bS ⟨_,rfl,bS<|cJ rfl<|tF (k+7) ns 0 (by lia) _ _ λμ1 p1=>⟨_,rfl,(gO<|by decide).mpr<|w_addI.mpr<|cG<|bS ⟨_,rfl,bS<|bS<|cJ rfl<|tF (k+7) ns 0 (by lia) _ _ λm p2=>⟨_,rfl,(wO (by decide)<|by decide).mpr ⟨_,rfl,(gO<|by decide).mpr<|w_addI.mpr ?_⟩⟩⟩⟩⟩);have hw:1<=1+fW ns 0%3/\1+fW ns 0%3<=3:=by lia
 have g:1<=1+fW ns 0/3%3/\1+fW ns 0/3%3<=3:=by lia
 generalize 1+fW ns 0%3=w at hw;generalize 1+fW ns 0/3%3=h at g;obtain⟨_,q2,q3,q4,q5,q6⟩:=tP w (fJ hw) h<|fJ g;refine cG<|XC ⟨_,rfl,X7 (k+3) hw g _ _ λb d μ3 p3 bl lb i1 j T=>⟨rfl,cG<|w_mLst.mpr<|bQ<|cJ rfl<|XN (k+6) hw g _ _ λl p Z a A g4 Q Y=>⟨_,rfl,Bz,?_⟩⟩⟩;have gd:Gd (b7 w h) (λ_=>bU) (i9<|b7 w h):=⟨λ_=>wZ,W7 q4,λq hq=>by rw[w6];exact a2z.mp q6 q hq⟩;have U:=(((T [b] λc hc=>.inr<|a0N.mp hc).more A).add<|a0l _).more<|aU a<|C.lst [.tup [.loc l,.loc p]];have M:=((StB.new (B:=[b]) g4 Q λc hc=>by rw[a0N.mp hc];exact bl).add<|a0l _).more<|aU a<|C.lst [.tup [.loc l,.loc p]];rw[Y]at M;have X:b≠a.length:=a0y<|a0V bl A.length_le;have v:Si84 (a++[C.lst [.tup [.loc l,.loc p]]]) w h m.length b a.length ([]++[(d,.tup [.loc l,.loc p])]):=⟨aN (A.trans<|aU _ _) i1,aN (A.trans<|aU _ _) j,bK _ _,X,λy hy=>by
  have:y=(d,.tup [.loc l,.loc p]):=by simpa using hy
  rw[this];exact⟨_,_,U,M,gd,Zz⟩⟩
 generalize a++[C.lst [.tup [.loc l,.loc p]]]=μ5 at v;generalize a.length=s at v;generalize m.length=o at v;refine iW (w_mForI.mpr<|Vu<|bQ ⟨_,rfl,bQ<|bS ⟨_,rfl,bS ⟨_,rfl,bS<|cJ rfl<|tF (k+7) ns 13 (by lia) _ _ λμ6 p6=>⟨_,rfl,(gO<|by decide).mpr<|w_mul2.mpr<|w_addI.mpr ⟨_,rfl,1,_,2,rfl,?_⟩⟩⟩⟩⟩);have N:=Z6 (s:=fW ns 13%6) (by lia);generalize fW ns 13%6=n at N;obtain⟨r1,r2⟩:=Z5 n N;refine⟨r1,Vv (b:=Kg (k+8)) (LaI ns w h o b s) (.mk (a0l _)<|v.more p6) ?_ ?_⟩
 .rintro i K μ' hi ⟨G,J⟩;exact⟨_,rfl,Z4 (k+1) hw g (by lia) (by lia) J _ λps' x' y6 y7 y8 y9 y10 H l7 R=>.mk (by lia) R⟩
 .rintro K H ⟨G,J⟩;rename_i O x x5 x6 x7 x8 x9 x10;refine⟨rfl,WL<|Hw<|tD (b:=b5)<|eP<|bQ ⟨_,rfl,bQ<|bS<|b6 rfl rfl<|qZ J ⟨_,rfl,bB (Z3 k hw g J _ λu p8=>?_) λr h=>⟨_,rfl,h⟩⟩⟩⟩;refine⟨rfl,rfl,m4 ?_⟩;have e:=J.more p8;have z:=e.i3;have j:=e.i2;refine oJ (b:=decide ((1:Int)<(O++[x]).length)) (μ':=u) (oX<|iX<|bS<|cJ rfl<|(mZ z).mpr ⟨_,rfl,w_gtI.mpr ⟨_,rfl,by rw[a0d]⟩⟩) (λc=>?_) λc=>m4<|eY<|eP<|bQ ⟨_,rfl,bQ<|b6 rfl rfl<|qZ e ⟨_,rfl,Cq (k+1) hw g e _ λI p9=>rfl⟩⟩;have c:=of_decide_eq_true c;rcases a8K O with rfl|⟨B,y,rfl⟩
  .simp at c
  .rw[a8M]at e j z;rw[a0z,a0z]at j z;refine WM<|BC<|tL ⟨_,rfl,o,_,rfl,e.i1,rfl,_,rfl,X8 (k+6) e.i1 j _ ?_⟩;have E:=(a0p e.bs (a:=C.lst (B.map (·.1)++[y].map (·.1)))).trans z;refine BC<|iF ⟨_,rfl,jY E,_,rfl,(B8 E).mpr ?_⟩;have L:Si84 ((u.set b<|C.lst<|B.map (·.1)++[y].map (·.1)).set s<|.lst<|B.map (·.2)++[y].map (·.2)) w h o b s (B++[y]):=e.step (λc y h1 h2 h3=>by rw[a0p<|a1j h2,a0p<|a1j h1];exact h3) (by rw[a0p<|a1j e.bs,eQ j,a0z]) (by rw[eQ E,a0z]) λp G=>.inl<|a6g _ G;exact eY<|eP<|bQ ⟨_,rfl,bQ<|b6 rfl rfl<|qZ L ⟨_,rfl,Cq (k+1) hw g L _ λI p9=>rfl⟩⟩
theorem Z8:∀ns:List Int,ns.length<=63->∃μ',fU S ds 9 "law" [.rol<|ns.map D.int] []=a7 (.bl b5,μ'):=λns _=>by obtain⟨⟨d,μ'⟩,a,b⟩:=Z7 0 ns [];dsimp only at b;subst b;refine⟨μ',?_⟩;unfold f at a;exact a
theorem oz Q:∀f x,S.ob.lookup f=a7 x → ∃C,CAt (Kx Q) x C ∧ Cls (Kx Q) C ∧ NoAttr (Kx Q) C f:=U8<|by kernel_rfl
theorem mz Q:∀m x y n,S.mt.lookup m=a7 (x,y,n) → ∃C g,CAt (Kx Q) x C ∧ Cls (Kx Q) C ∧ Meth (Kx Q) C m g ∧ oF (Kx Q) (lk S ds y) n g:=U9<|a3N.mpr ⟨⟨by kernel_rfl,"Folding.fold",eK 60 1,by kernel_rfl,⟨by kernel_rfl,by kernel_rfl,by kernel_rfl⟩⟩,a3N.mpr ⟨⟨by kernel_rfl,"Folding.back",eK 60 2,by kernel_rfl,⟨by kernel_rfl,by kernel_rfl,by kernel_rfl⟩⟩,a3N.mpr ⟨⟨by kernel_rfl,"Folding.many",eK 60 3,by kernel_rfl,⟨by kernel_rfl,by kernel_rfl,by kernel_rfl⟩⟩,a3N.mpr ⟨⟨by kernel_rfl,"Folding.sheet",eK 60 6,by kernel_rfl,⟨by kernel_rfl,by kernel_rfl,by kernel_rfl⟩⟩,λ_ z=>nomatch z⟩⟩⟩⟩
theorem yz Q:∀x y n,S.mc.lookup x=a7 (y,n) → lk S ds x=b0 ∧ ∃C g,CAt (Kx Q) x C ∧ Mk (Kx Q) C g ∧ oF (Kx Q) (lk S ds y) n g:=Va<|a3N.mpr ⟨⟨by kernel_rfl,by kernel_rfl,by kernel_rfl,"Folding.__init__",eK 60 0,by kernel_rfl,⟨by kernel_rfl,by kernel_rfl,by kernel_rfl⟩⟩,λ_ z=>nomatch z⟩
theorem dz Q:wL (Kx Q) ds:=by unfold wL;kernel_rfl
theorem cz Q:GQ (Kx Q) S.con=true:=by kernel_rfl
theorem nz Q:S.no.map (a3t (Kx Q) a1L)=S.no.map λ_=>a7 none:=by kernel_rfl
theorem Z9{P:a0R}{w:a1f}{Q:a2j}
  {h:a1C}{a:Str → Option Value}(X:(Kx Q).In h)(G:h.Ns a1L a):TxtOk P w (Kx Q) a S ds ∧ ∃f b,Fun (Kx Q) "law" "law" (aJ 75) f b ∧ a "law"=a7 (.ref f) ∧ ∀(s:a0i)(u:Value),a7L s b ⟨[u],[]⟩ [("_law_script",u)]:=by
 refine⟨⟨U0<|by decide +kernel,U1 λp c=>(GN X G (dz Q) p c).1,U2<|U7 X G<|cz Q,λx d e=>?_,U3<|U6 X G<|nz Q,oz Q,mz Q,yz Q,Vb<|by kernel_rfl⟩,U5 X G (dz Q) (by kernel_rfl)<|by kernel_rfl⟩
 .cases e
end Lw
open PySem PySem.W PyProof.Rows
set_option maxRecDepth 100000 in
set_option maxHeartbeats 0 in
theorem PySem.Challenge.cw_creasecourt_k84_sheets_unfolded_holds : PySem.Challenge.rw_creasecourt_k84_sheets_unfolded.Holds := by
 w_on
 refine holds_law Lw.Nh fun a=>?_
 refine holds_open (q:=Lw.Vw) (loose:=[]) (Xt:=fun s=>xlAt Lw.Vw [] s&&recOk (b1d<|a9R<|a1F a0k) s) (XP:=XL Lw.Vw []) (Yf:=Hook.obs (b2q Lw.Kx Lw.As Lw.rG)) (Ya:=Hook.val (b2q Lw.Kx Lw.As Lw.rG)) (YP:=Hook.says (b2q Lw.Kx Lw.As Lw.rG)) (N:=6688) Lw.run (Hook.of _) (Hook.keeps _) (fun s e=>xl_of s (a3O.mp e).1) XL.keeps (by rfl) (by rfl) (by rfl) (fun s e=>recFacts_of (a3O.mp e).2) (by rfl) (by first|assumption|decide +kernel) (by decide +kernel) ⟨rfl,rfl,rfl,rfl,rfl,by decide +kernel⟩ ?hw ?hc
 case hw=>w_witness2
 k_fill
 refine L3.walkM (l:=a0k) (S:=Lw.S) (ds:=Lw.ds) (k:=9) (st:=Lw.aJ 75) (x:="_law_script") rfl rfl ⟨rfl,by decide,by decide⟩ (fun w h Y=>PySem.W.kIn_of Y) (by kernel_rfl) (by kernel_rfl) ?F fun c h _=>Lw.Z8 c h
 case F=>
  intro w d h b G
  refine' @Lw.Z9 a1E w _  _ _ b G
