import PyProof.Rows.All
import Wide.All
import OpenK.AllK
import PySem.Challenge.RW_creasecourt_k83_whole_nothing_crosses
open Option renaming some->a7,none->b3
open Bool renaming false->b4,true->b5
open And renaming symm->a8u
open Array renaming mk->a0K,getElem?_toList->a1g,length_toList->a2j,getElem?_eq_some_iff->a4o,getD->a4p,replicate->a6x,getElem?_eq_getElem->a6W,getElem?_eq_none->a7x,toList->b0a,map->b1o
open Bool renaming and_eq_true->ZL,false_eq_true->Z5,false_ne_true->a0a,eq_iff_iff->a0X,not_false->a2r,or_eq_true->a2z,not_true->a2X,and_eq_true_iff->a3l,not_eq_true'->a3I,or_false->a7l,and_true->a7m,not_not->a7E,eq_false_iff->a9a,noConfusion->a9r,false_and->a9L,and_false->a9M
open Classical renaming choose->a5G,choose_spec->a6U
open False renaming elim->a1L
open ForInStep renaming yield->a3s
open Function renaming comp_def->a7U
open Int renaming emod_lt_of_pos->a4u,toNat_natCast->a4I,mul_eq_zero->a5h,emod_nonneg->a5i,add_zero->a6i,emod_emod_of_dvd->a8s,emod_add_emod->a9p,emod_two_eq->a9J,mul_nonneg->a9Y,mul_le_mul->a9Z,le_total->b0E
open List renaming length_map->ZF,getElem?_eq_some_iff->ZG,length_append->ZO,getElem?_set_ne->ZP,mem_map->ZQ,map_cons->ZR,map_map->ZS,getElem?_eq_getElem->ZT,getElem?_map->ZU,mem_of_getElem?->Z1,mem_cons_of_mem->Z2,map_append->Z7,length_cons->Z8,size_toArray->Z9,prefix_refl->a0c,getElem?_append_left->a0f,mem_cons->a0g,set_cons_zero->a0k,mem_cons_self->a0l,set_cons_succ->a0m,append_nil->a0p,map_congr_left->a0q,mem_singleton->a0r,mem_filter->a0s,getElem?_set_self->a0t,all_cons->a0u,length_set->a0v,filter_cons_of_pos->a0w,filter_cons_of_neg->a0x,replicate->a0z,getElem?_eq_none_iff->a0C,length->a0F,length_filter_le->a0G,contains_iff_mem->a0H,zipWith_cons_cons->a0J,range->a0L,mem_append->a0M,getElem?_append_right->a0N,length_take->a0Q,append_assoc->a0R,take_length->a0V,cons_append->a0W,filter_append->a0Y,filter_sublist->a1a,all_eq_true->a1c,mem_append_right->a1l,nodup_cons->a1m,nil_append->a1n,filter_nil->a1o,length_replicate->a1w,getElem?_eq_none->a1H,getD->a1I,mem_range->a1J,reverse_reverse->a1N,getD_eq_getElem?_getD->a1S,filterMap_cons->a1V,lookup->a2b,nodup_append->a2e,length_eq_zero_iff->a2f,length_reverse->a2k,filter_eq_nil_iff->a2m,filter_cons->a2q,length_singleton->a2s,filterMap_append->a2t,eq_replicate_iff->a2u,filterMap_cons_some->a2E,reverse_append->a2I,flatMap_append->a2J,nodup_nil->a2K,getElem_mem->a2L,getElem?_replicate->a2M,reverse->a2R,prefix_append->a2S,pairwise_cons->a2T,map_nil->a2U,find?_cons->a2W,take_append_drop->a2Y,set_append_left->a3g,perm_ext_iff_of_nodup->a3h,mem_of_mem_take->a3i,length_take_le'->a3j,forall_mem_cons->a3k,not_mem_nil->a3q,length_drop->a3r,pairwise_iff_getElem->a3t,length_nil->a3x,mem_filterMap->a3y,take_of_length_le->a3H,set_append_right->a3O,lookup_cons->a3P,mem_append_left->a3U,eq_nil_of_length_eq_zero->a3V,foldl_cons->a3W,map_eq_nil_iff->a4e,length_pos_iff->a4f,filter_eq_self->a4g,zipWith->a4j,mem_of_find?_eq_some->a4x,exists_mem_of_ne_nil->a4y,reverse_cons->a4C,pairwise_map->a4D,any_cons->a4H,flatMap_def->a4O,countP_cons->a4P,range_succ_eq_map->a4W,range_succ->a5d,filter_map->a5e,range'->a5p,pairwise_append->a5q,mem_iff_getElem->a5r,find?_eq_none->a5L,append_of_mem->a5M,set_set->a5T,foldl_append->a5U,ext_getElem?->a5V,any_map->a5W,any_eq_false->a5X,all_map->a5Y,map_reverse->a6p,flatMap_nil->a6q,map_id->a6w,of_mem_zip->a6y,countP_eq_length_filter->a6z,take_zero->a6S,filterMap->a6T,getElem?_take_of_lt->a7k,pairwise_singleton->a7t,getElem?_cons_succ->a7u,flatMap_eq_nil_iff->a7v,all_eq_not_any_not->a7w,filterMap_reverse->a7B,append_eq_nil_iff->a7C,singleton_append->a7S,mem_of_mem_drop->a8f,map->a8g,getElem?_of_mem->a8h,reverse_eq_iff->a8p,getElem_of_mem->a8q,getD_cons_zero->a8r,zip_cons_cons->a8C,take_add_one->a8V,map_inj_left->a8W,length_range->a8X,flatMap_cons->a8Y,filter_congr->a8Z,reverse_nil->a9k,range'_succ->a9l,mem_reverse->a9m,getElem_inj->a9n,ext_getElem->a9o,range_zero->a9B,forIn_cons->a9C,find?_some->a9D,take_succ->a9G,take_left->a9H,map_take->a9X
open List.Pairwise renaming map->a3u,nil->b0C
open List.Perm renaming eq_of_pairwise->a3o
open List.cons renaming injEq->a4G
open Nat renaming le_refl->ZN,ne_of_lt->Z6,lt_of_lt_of_le->a0e,le_trans->a0A,zero_le->a0I,lt_succ_self->a1C,ne_of_gt->a2a,lt_irrefl->a2p,le_succ->a2D,not_lt->a2F,mul_le_mul->a3n,sub_self->a3L,le_of_lt->a4l,le_of_eq->a4m,not_lt_zero->a5g,succ_mul->a6h,succ_pos->a7Q,add_comm->a7R,add_le_add_right->a8o,lt_succ_of_lt->a9j,le_of_not_lt->a9z,le_add_right->a9A,log2_lt->b1e
open Ne renaming symm->a0o
open Option renaming bind_eq_some_iff->ZC,map_eq_some_iff->ZH,bind_some->ZY,map_some->Z4,isSome_map->a5J,getD_none->a5S
open Option.some renaming inj->Z0,injEq->b1A
open Or renaming inr->a5R,inl->a7j
open PUnit renaming unit->b0A
open Prod renaming ext->a0S
open Prod.mk renaming inj->a5c,injEq->a9h
open PyProof.Rows renaming callWith_type1->a1s,seqObj->a1D,IntsAre->a2V,sortedAll_old->a5I,sortedAll_at->a5Q,AllBare->a6a,subscriptTail->a6l,listUpdate_at->a6m,assignInOrder_cons->a6t,lt_int->a6M,envOfC->a6N,seqEpoch_at->a7f,entry_list_sort->a7q,slot_list_sort->a7I,args_list_sort->a7N,Subscript_->a7O,IsTup->a7T,subscriptTail_builtinR->a8I,sortedHeap->a9R,boot_range->a9V,assignInOrder_nil->b0f,list_sort_plain->b0L,get?_update_seq->b0N,wpAny_notIn_heap->b0P,sorted_ints->b0Q,pow_int_small->b0R,pow_int->b0S,oneLt_int->b0T,mul_int->b0U,mirror_perm->b0V,floordiv_int->b0W,call_len_slot->b0X,callWith_kw->b0Y,callWith_builtin1->b0Z,bubble_perm->b1a,bubble->b1b,assign_Tuple_tuple->b1c,assign_Tuple->b1d,tail_any->b1r,Call_->b1B
open PyProof.Rows.Boot renaming list->a3K,min->a3N,sorted->a5b,tuple->a5f,dict->a5m,str->a8M,reversed->a8N,max->a8O,len->a8P,isinstance->a8Q,int->a8R,bool->a8S,all->a8T
open PySem renaming wpAny_bind->ZE,Shared->ZJ,wpAny_pure->ZM,sizeLine->ZX,wpAny->Z3,model->a0d,starEach->a0h,Program->a0j,sizeLine_eq->a0n,Around->a0y,World->a0E,compareOp->a0Z,mainGlobals->a1b,Heap->a1d,wpAny_newObj_type->a1f,wpAny_mono->a1h,wpAny_holding->a1i,mem_of_lookup->a1j,Pos->a1p,wpAny_dictEntries->a1q,sysModules->a1t,Params->a1x,bootBuiltins->a1F,wpAny_truthy_bool->a1K,wpAny_call_entry->a1Q,backTo->a1U,cLine->a1W,FuncData->a1Y,wpAny_Call_Name_kw->a2c,sliceBounds->a2g,treeTable->a2l,assignEach->a2o,keywordEach->a2v,Scope->a2y,NameKind->a2H,attributeBase->a2N,argBest->a2Q,wpAny_setField_rec->a2Z,Keyword->a3b,wpAny_dictEpoch->a3c,swappedStores->a3d,behindInMarks->a3e,wpAny_notOrdered_dict->a3m,foldedSetIterable->a3p,binaryOp->a3v,wpAny_isInstance->a3w,rawInt->a3A,backToKw->a3C,wpAny_specialOf->a3E,wpAny_ite_split->a3F,codeAny->a3G,firstArgMember->a3R,compEnvC->a3S,CmpOp->a3X,tupleKind->a3Z,swapsWith->a4a,pyNext->a4b,wpAny_newList->a4h,plainId_quiet->a4i,wpAny_field->a4k,IsRangeIter->a4n,wpAny_passesOwn->a4s,intKind->a4z,OsState->a4B,wpAny_tryCatch->a4K,wpAny_setField->a4L,constantsAlone->a4M,Paired->a4N,wpAny_pyIter_list->a4T,wpAny_letGo->a4U,richCompare->a4V,wpAny_standAt->a4X,pyIter->a4Y,foldedForSure->a4Z,wpAny_callSpecial?_slot->a5k,Env->a5t,wpAny_rule->a5u,wpAny_isOneOf_itemiter->a5v,call_meetsIn->a5w,wpAny_updateSeq->a5z,letOwnedTupleGo->a5A,wpAny_isOneOf_valiter->a5C,wpAny_seqItems->a5N,wpAny_of_eq->a5O,atKey->a5P,swapsWithSole->a6k,assignInOrder->a6n,IsItemIterOut->a6r,assign->a6u,wpAny_pyIter_slot->a6C,slot_list_getitem->a6D,setField->a6E,codeAny_mono->a6I,callerA->a6J,BindsTo->a6P,getMethod->a6Y,Result->a7a,subscripted->a7e,wpAny_execs_nil->a7o,typeNameOfWhole->a7p,codeAny_builtin->a7r,Within->a7s,standAt->a7y,getItem->a7z,wpAny_newTuple->a7F,wpAny_fieldsOf->a7G,typeLookup->a7H,sliceRange->a7J,isSubtype_stop->a7K,dictSetDefault->a7L,bindArgs->a7M,Operator->a7P,evalArgs_none->a7X,wpAny_handled->a8j,wpAny_getItem_list_slice->a8k,wpAny_attempt->a8l,wpAny_Call_method0_late->a8v,slicePick->a8w,bindL->a8y,bindC->a8z,wpAny_pyNext_range_end->a8E,wpAny_pyNext_list_item->a8F,wpAny_pyIter_rangeiter->a8G,wpAny_Call_method_late->a8H,newExc->a8J,isTrue->a8K,wpAny_pyNext_list_end->a9b,wpAny_isOneOf_keyiter->a9c,builtinLookup_eq_fast->a9d,Sem->a9e,wpAny_throw->a9s,wpAny_pyIter_keyiter->a9t,unpackItems->a9u,storedH_new->a9v,lookup_relabel_local->a9w,bindName->a9x,SetTable->a9y,IntMulOk->a9E,GenState->a9F,wpAny_tupleItemsOf->a9N,wpAny_pyIter_tuple->a9O,wpAny_pyIter_range->a9P,wpAny_Name->a9Q,entryOfKey->a9S,closureFor->a9T,builtinsNs->a9U,wpAny_pyIter_enum->b0b,wpAny_assign_Name->b0c,storedH->b0d,relabel->b0e,MeetsIn->b0m,wpAny_pyIter_zip->b0n,wpAny_forIn_list->b0o,wpAny_execs_cons->b0p,updateSeq->b0q,seqItems?->b0r,lastMarks->b0t,cellsFrom->b0u,call->b0w,PassesOwn->b0z,wpAny_loadPart'->b0J,typeLookup_type->b0K,importedModules->b0M,wpAny_bindName->b1p,typeOf->b1q,recursionLimit->b1s,raiseNew->b1t,newTuple->b1u,methodCallForm->b1v,callWith->b1x,callType_codes->b1y,Tok->b1z
open PySem.Around renaming under_plainId->a5j,under->a7n
open PySem.Builtin renaming sorted->a7W
open PySem.Builtin.Builtins renaming bindParams->a2G
open PySem.Builtin.Dict renaming showsAll->a1P,noArgs->a4S,entriesForEmpty->a5B,updateFrom->a6j,quietEq->a6B,selfAndRest->b1h,readDirectly->b1i,pendingCount->b1j,mergeDict->b1k,merge->b1l,keyAndDefault->b1m,dictSlotNone->b1n
open PySem.Builtin.Dict_items renaming ownsTuple->a1X,ownedTupleIsFree->a4v,ownedTupleFields->a4w,pairFromOwner->a4J,newIterator->a4R,dictOf->a5n
open PySem.Builtin.Int renaming intBits->a0D,intTooBig->a3z
open PySem.Builtin.List renaming listExtendWith->a2P,listTooLong->a3Y,listLengthHint->a5H,listSameRef->a5Z,listItems->a6s,listUpdate->b1g
open PySem.Builtin.Range renaming rangeSize->a0O,small->b0I
open PySem.Builtin.Str renaming occurrences->a1u
open PySem.Builtin.Tuple renaming tupleHashOf->b0G,tupleCompareSizes->b0H
open PySem.Calls renaming callWith_builtin->a3D,Name_function_global->a6O,call_function_entry->a6V,evalArgs_plain->a7V,spliced_cons->a8t,spliced_nil->a8D
open PySem.Challenge renaming rw_creasecourt_k83_whole_nothing_crosses->ZI,pw_creasecourt_k83_whole_nothing_crosses->a0P
open PySem.Code renaming isFrame->a7D,frames->b0F
open PySem.Data renaming fields->a0B,dict->a3B,cell->a4Q,seq->a8i,cls->a9K
open PySem.F renaming plainAttrs_dict->a4A,slot_dict_setdefault->a6g,slot_dict_values->a6L,slot_dict_items->a6Q,plain_min_loop->a7c,slot_dict_get->a7i,plain_min->a8b,entry_min->a8c,kind_min->a8n
open PySem.Flow renaming next->a9q
open PySem.Heap renaming get?_push_of_some->ZK,lt_size->ZV,get?_push_size->ZW,get?_update_other->a1T,get?_update_self->a1Z,SameBut->a2n,size_push->a4r,ExtBut->a4E
open PySem.Heap.DictOfH renaming new->b1f
open PySem.Heap.IsSliceOf renaming new->a6A
open PySem.Heap.IsTuple renaming push->a9g
open PySem.Heap.SameBut renaming update->a1M,refl->a7d
open PySem.IsRange renaming new->a9I
open PySem.NameKind renaming free->a2i,cell->a2x
open PySem.Obj renaming mapSeq->a1G,data_mapFields->a4t,data_mapDictKeys->a5y,mapFields->a5K,isFreed_of_fields->a8e,isFreed_of_dict->a8B,cls_mapFields->a9i
open PySem.Obj.ExactDict renaming mapDictKeys->b0B
open PySem.Paired renaming length->a6R,snoc->a9W
open PySem.PassesOwn renaming never->a8d
open PySem.SeqAt renaming ne_of_list_tuple->a1R,EqAt->a6K
open PySem.SeqAt.EqAt renaming int_int->a7g
open PySem.Str renaming ofString->a1r
open PySem.Value renaming ref->ZZ,type->a0b,none->a0T,bool->a1v,int->a1y,builtin->a1A,str->a6b,float->b0i,bytes->b0j
open PySem.W renaming Frag->ZD,behindTheImports->a0i,boot_drawn->a1e,findIn->a1k,keepIn->a1z,fnOf->a1B,kas_place->a1E,emptyDict->a1O,kia_one->a2d,kas_desc->a2h,instObj->a2w,kas_rev->a2A,kas_asc->a2B,nsIn->a2O,kas_descPart->a3a,plainGet->a3J,boot_heap->a3M,topFrame->a3Q,codeIn->a4c,hasDictIn->a4q,kas_tail3->a4F,lookIn->a5a,plainGet_of->a5l,mg_of->a5o,callWith_K->a5x,plainOver->a5D,methodObj->a5E,isFn->a5F,takerIn->a6e,makesIn->a6f,piecesOf->a6F,kas_sort->a6G,kas_bin->a6H,segRun->a6X,boot_toks->a6Z,cellsFrom_some->a7b,methodCall_KW->a7h,callWith_K0->a7A,specialIn->a7Y,kitx_list->a7Z,kitx_dict->a8a,handedIn->a8m,kas_count->a8x,OpenLaw->a8A,kitOne->a8L,WalkO->a9f,piece_app->b0s,KasT->b0D,kHook->b1w
open PySem.W.KasFin renaming intro->b0l
open PySem.W.KasT renaming ret->a2C,ask->a5s
open PySem.W.Looks renaming here->b0y
open PySem.W.OpenLaw renaming row->a0U
open PySem.W.OpenRow renaming toRowW->a8U
open PySem.W.RowW renaming records->b0k
open PySem.W.WData renaming int->a3T,weightAll->a4d,layable->a6o,weight->a6v,layableAll->b0x
open PySem.W.WShape renaming has->b0h
open PySem.Walks renaming range->b0g,list->b0v
open PySem.Within renaming cons->b0O
open Sum renaming inr->a6c,inl->a6d
open True renaming intro->a3f
set_option compiler.extract_closed false
set_option bootstrap.genMatcherCode false
set_option genSizeOf false
set_option genSizeOfSpec false
set_option Elab.async false
set_option linter.all false
set_option maxRecDepth 100000
set_option linter.all false
abbrev gq:=List PySem.Value
abbrev jw:=List<|PySem.Addr×PySem.Obj
abbrev jq:=List<|Int×Int
namespace L2
open PySem PySem.Spec PyProof.Rows
noncomputable abbrev cH:=Sum Int Str
noncomputable def xW:cH->Value->Bool
 |.inl k,v=>Value.isInt k v|.inr x,v=>Value.isStrOf x v
noncomputable def CH(w:a0E):cH->Int
 |.inl k=>hashInt k|.inr x=>hashStr w x
theorem kQ:∀{k}{v},xW k v=b5->(∃i t,k=a6d i/\v=a1y i t)\/(∃x t,k=a6c x/\v=a6b x t)
 |.inl i,v,h=>by obtain⟨t,e⟩:=Value.isInt_shape (k:=i) (v:=v) h;exact .inl ⟨i,t,rfl,e⟩
 |.inr x,v,h=>by obtain⟨t,e⟩:=Value.isStrOf_shape (x:=x) (v:=v) h;exact .inr ⟨x,t,rfl,e⟩
theorem J9 a b:decide ((a6d a:cH)=a6d b)=(a==b):=by
 by_cases e:a=b
 .subst e;simp
 .have h:¬ (a6d a:cH)=a6d b:=λq=>e<|Sum.inl.inj q;rw[decide_eq_false h];exact(beq_eq_false_iff_ne.mpr e).symm
theorem Ka a b:decide ((a6c a:cH)=a6c b)=decide (a=b):=by
 by_cases e:a=b
 .subst e;simp
 .have h:¬ (a6c a:cH)=a6c b:=λq=>e<|Sum.inr.inj q;rw[decide_eq_false h,decide_eq_false e]
theorem Kb a b:decide ((a6d a:cH)=a6c b)=false:=decide_eq_false λq=>nomatch q
theorem Kc a b:decide ((a6c a:cH)=a6d b)=false:=decide_eq_false λq=>nomatch q
noncomputable def rA prog w:PySem.KeyKind prog w cH where
 is:=xW
 hash:=CH w
 inj:=λv a b g d=>by
  rcases kQ g with⟨i,t,rfl,rfl⟩|⟨x,t,rfl,rfl⟩
  .rcases kQ d with⟨j,u,rfl,e⟩|⟨y,u,rfl,e⟩
   .injection e with e1 _;rw[e1]
   .exact nomatch e
  .rcases kQ d with⟨j,u,rfl,e⟩|⟨y,u,rfl,e⟩
   .exact nomatch e
   .injection e with e1 _;rw[e1]
 byValue:=λk v h=>by rcases kQ h with⟨i,t,rfl,rfl⟩|⟨x,t,rfl,rfl⟩<;>rfl
 pyHash:=λc h=>by
  rcases kQ c with⟨i,t,rfl,rfl⟩|⟨x,t,rfl,rfl⟩
  .exact wpAny_pyHash_int h
  .exact wpAny_pyHash_str h
 eqBool:=λl c h=>by
  rcases kQ l with⟨i,t,rfl,rfl⟩|⟨x,t,rfl,rfl⟩
  .rcases kQ c with⟨j,u,rfl,rfl⟩|⟨y,u,rfl,rfl⟩
   .rw[J9]at h;exact wpAny_eqBool_int h
   .rw[Kb]at h;exact SeqAt.EqAt.int_str i t y u _ _ _ _ h
  .rcases kQ c with⟨j,u,rfl,rfl⟩|⟨y,u,rfl,rfl⟩
   .rw[Kc]at h;exact SeqAt.EqAt.str_int x t j u _ _ _ _ h
   .rw[Ka]at h;exact wpAny_eqBool_str h
 «strs»:=λk x t v h=>by
  rcases kQ h with⟨i,u,rfl,e⟩|⟨y,u,rfl,e⟩
  .exact nomatch e
  .injection e with e1 _;subst e1;cases v<;>rfl
inductive V where
 |non|bl (b:Bool)|int (i:Int)|str (x:Str)|byt (b:Array UInt8)|flt (b:UInt64)|ref (a:Addr)|ty (n:String)
 deriving DecidableEq
abbrev gw:=List V
noncomputable def RelV:V->Value->Prop
 |.non,u=>u=a0T|.bl b,u=>u=a1v b|.int i,u=>∃t,u=a1y i t|.str x,u=>∃t,u=a6b x t|.byt b,u=>∃t,u=b0j b t|.flt b,u=>∃t,u=b0i b t|.ref a,u=>u=ZZ a|.ty n,u=>u=a0b n
noncomputable abbrev Vals:gw->gq->Prop:=a4N RelV
theorem Vals.length(r:Vals xs us):xs.length=us.length:=a6R r
theorem Vals.get:∀{xs}{us}{i:Nat}{x},Vals xs us->xs[i]?=a7 x->∃u,us[i]?=a7 u/\RelV x u
 |_,_,_,_,.nil,e=>by simp at e
 |_,_,0,_,.cons r _,e=>by simp at e;subst e;exact⟨_,rfl,r⟩
 |_,_,i+1,x,.cons _ t,e=>by obtain⟨u,a,b⟩:=Vals.get (i:=i) (x:=x) t (by simpa using e);exact⟨u,by simpa using a,b⟩
theorem Vals.append:∀{xs a}{us ws},Vals xs us->Vals a ws->Vals (xs++a) (us++ws)
 |_,_,_,_,.nil,s=>s|_,_,_,_,.cons r t,s=>.cons r<|Vals.append t s
theorem Vals.take:∀{xs}{us}n,Vals xs us->Vals (xs.take n) (us.take n)
 |_,_,0,_=>.nil|_,_,_+1,.nil=>.nil|_,_,n+1,.cons r t=>.cons r<|Vals.take n t
theorem Vals.drop:∀{xs}{us}n,Vals xs us->Vals (xs.drop n) (us.drop n)
 |_,_,0,r=>r|_,_,_+1,.nil=>.nil|_,_,n+1,.cons _ t=>Vals.drop n t
theorem Vals.none_of:∀{xs}{us}{i:Nat},Vals xs us->xs[i]?=b3->us[i]?=none:=λ{xs us i} r e=>by have a:=r.length;have b:xs.length<=i:=a0C.mp e;exact a0C.mpr<|by lia
noncomputable def RelO:Option V->Option Value->Prop
 |some v,a7 u=>RelV v u|none,b3=>True|_,_=>False
noncomputable def KV{κ:Type}:List (κ×V)->List (κ×Value)->Prop:=a4N λ(p:κ×V)(q:κ×Value)=>p.1=q.1/\RelV p.2 q.2
noncomputable def kV:cH->V
 |.inl i=>.int i|.inr x=>.str x
inductive HO where
 |lst (xs:gw)
 |tup (xs:gw)
 |dK (kvs:List (cH×V))|dT (kvs:List (List cH×V))
 |set (S:Int->Bool)(n:Nat)
 |ins (C dx:Addr)(fs:List (Str×V))
 |own (x:Addr)
 |xd (fs:List (Str×V))
 |met (f x:Addr)
 |rng (lo hi:Int)
 |frz (o:Obj)(u:HO)
 |tbl (ps:Array Value)
 |ext (φ:a1d->Prop)
noncomputable abbrev Hp:=Addr->Option HO
noncomputable def aP(H:Hp)(a:Addr)(o:HO):Hp:=λb=>if b=a then a7 o else H b
theorem dD:aP H a o a=a7 o:=by unfold aP;rw[if_pos rfl]
theorem bN(h:b≠a):aP H a o b=H b:=by unfold aP;rw[if_neg h]
theorem fN{H:Hp}(h:H a=a7 o)(h':H b=b3):a≠b:=by intro e;subst e;rw[h]at h';cases h'
section
variable(P:a0j)(w:a0E)
noncomputable def TupN(h:a1d)(a:Addr)(xs:Array Value):Prop:=∃o,h.get? a=a7 o/\o.cls=.type "tuple"/\∃n,o.data=.seq xs n/\o.dict=b3
theorem TupN.tup{h:a1d}{a:Addr}{xs:Array Value}(x:TupN h a xs):a7T h a xs:=let⟨o,e,c,n,d,_⟩:=x;⟨o,e,c,n,d⟩
theorem TupN.new(h:a1d)items:TupN (h.push {cls:=.type "tuple",data:=.seq items}) h.objs.size items:=⟨_,ZW _ rfl,rfl,_,rfl,rfl⟩
noncomputable def ObjOk(H:Hp)(h:a1d)(a:Addr):HO->Prop
 |.lst b=>b.length<=ZX/\∃(its:gq)(n:Nat),Vals b its/\h.get? a=a7 {cls:=.type "list",data:=.seq its.toArray n}|.tup b=>b.length<=ZX/\∃its:gq,Vals b its/\TupN h a its.toArray|.dK kvs=>kvs.length<=ZX/\(a==a1t)=b4/\∃i,KV kvs i/\h.DictOf (rA P w) a i|.dT kvs=>kvs.length<=ZX/\(a==a1t)=b4/\∃b:List (List cH×Addr×Value),
   a4N (λ(p:List cH×V)(q:List cH×Addr×Value)=>p.1=q.1/\H q.2.1=a7 (.tup<|p.1.map kV)/\RelV p.2 q.2.2) kvs b /\
   ∃o d j,h.get? a=a7 o/\o.ExactDict/\o.data=.dict d j/\d.toList=b.map (a9S<|a3Z<|rA P w)/\(b.map (·.1)).Nodup
 |.set S n=>h.SetOf (a4z P w) a S n|.ins C dx fs=>H dx=a7 (.own a)/\fs.length<=1000/\dx≠a/\h.get? a=a7 (a2w C dx) /\
   ∃c,h.Ns1 dx c/\(∀f,RelO (fs.lookup f) (c f))/\a7s c (fs.map (·.1))
 |.own _=>∃o,h.get? a=a7 o|.xd fs=>∃c,h.Ns1 a c/\∀f,RelO (fs.lookup f) (c f)|.rng lo hi=>∃t u v,h.get? a=a7 {cls:=.type "range",data:=.fields #[.int lo t,.int hi u,.int 1 v]}|.frz o u=>h.get? a=a7 o/\ObjOk H h a u|.tbl ps=>h.get? a=a7 {cls:=.none,data:=.fields ps}|.met f x=>h.get? a=a7 (a5E (.ref f)<|.ref x)|.ext φ=>φ h/\(∃o,h.get? a=a7 o)/\∀e g:a1d,φ e->(∀o,e.get? a=a7 o->g.get? a=a7 o)->φ g
noncomputable def HOk(H:Hp)(h:a1d):Prop:=∀a o,H a=a7 o->ObjOk P w H h a o
end
theorem ObjOk.lt{P:a0j}{w:a0E}{H:Hp}{h:a1d}{a:Addr}{o:HO}(x:ObjOk P w H h a o):a<h.objs.size:=by
 cases o with
 |lst c=>obtain⟨_,_,_,_,e⟩:=x;exact ZV e|tup c=>obtain⟨_,_,_,p⟩:=x;exact p.tup.lt|dK b=>obtain⟨_,_,_,_,o,_,_,e,_⟩:=x;exact ZV e|dT b=>obtain⟨_,_,_,_,o,_,_,e,_⟩:=x;exact ZV e|set S n=>obtain⟨o,_,_,_,e,_⟩:=x;exact ZV e|ins C d fs=>obtain⟨_,_,_,e,_⟩:=x;exact ZV e|own y=>obtain⟨_,e⟩:=x;exact ZV e|xd fs=>obtain⟨_,⟨_,_,_,e,_⟩,_⟩:=x;exact ZV e|rng g hi=>obtain⟨_,_,_,e⟩:=x;exact ZV e|frz i u=>obtain⟨e,_⟩:=x;exact ZV e|tbl j=>exact ZV (show h.get? a=a7 _ from x)|met f y=>exact ZV (show h.get? a=a7 _ from x)|ext k=>obtain⟨_,⟨_,e⟩,_⟩:=x;exact ZV e
theorem a4N.mapP{F G:d->e->Prop}:∀{c}{l₂},a4N F c l₂->(∀a b,F a b->G a b)->a4N G c l₂
 |_,_,.nil,_=>.nil|_,_,.cons r t,f=>.cons (f _ _ r)<|a4N.mapP t f
theorem ObjOk.stay(x:ObjOk P w H h a o)(k:∀b u,(b=a\/H b=a7 (.own a))->h.get? b=a7 u->h'.get? b=a7 u)(I:∀b,H b=a7 (.own a)->H' b=a7 (.own a))(J:∀b m,H b=a7 (.tup m)->H' b=a7 (.tup m)):ObjOk P w H' h' a o:=by
 induction o with
 |lst m=>obtain⟨z,l,n,r,e⟩:=x;exact⟨z,l,n,r,k _ _ (.inl rfl) e⟩|tup m=>obtain⟨z,l,r,g,e,c⟩:=x;exact⟨z,l,r,g,k _ _ (.inl rfl) e,c⟩|dK s=>obtain⟨z,y,L,r,g,j,i,e,c⟩:=x;exact⟨z,y,L,r,g,j,i,k _ _ (.inl rfl) e,c⟩|dT s=>obtain⟨z,y,m,r,g,j,i,e,c⟩:=x;exact⟨z,y,m,a4N.mapP r λp q z=>⟨z.1,J _ _ z.2.1,z.2.2⟩,g,j,i,k _ _ (.inl rfl) e,c⟩|set S n=>obtain⟨g,j,i,t,e,c⟩:=x;exact⟨g,j,i,t,k _ _ (.inl rfl) e,c⟩|ins C M fs=>obtain⟨d,z,ne,e,A,⟨B,j,i,G,c⟩,r⟩:=x;exact⟨I _ d,z,ne,k _ _ (.inl rfl) e,A,⟨B,j,i,k _ _ (.inr d) G,c⟩,r⟩|own y=>obtain⟨g,e⟩:=x;exact⟨g,k _ _ (.inl rfl) e⟩|xd fs=>obtain⟨A,⟨B,j,i,e,c⟩,r⟩:=x;exact⟨A,⟨B,j,i,k _ _ (.inl rfl) e,c⟩,r⟩|rng N hi=>obtain⟨t,u,v,e⟩:=x;exact⟨t,u,v,k _ _ (.inl rfl) e⟩|frz g u K=>obtain⟨e,q⟩:=x;exact⟨k _ _ (.inl rfl) e,K q⟩|tbl E=>have e:h.get? a=a7 {cls:=.none,data:=.fields E}:=x;show h'.get? a=a7 {cls:=.none,data:=.fields E};exact k a _ (.inl rfl) e|met f y=>have e:h.get? a=a7 (a5E (.ref f)<|.ref y):=x;show h'.get? a=a7 (a5E (.ref f)<|.ref y);exact k a _ (.inl rfl) e|ext O=>obtain⟨p,⟨o,e⟩,st⟩:=x;exact⟨st _ _ p λo q=>k _ _ (.inl rfl) q,⟨o,k _ _ (.inl rfl) e⟩,st⟩
theorem HOk.lt{P:a0j}{w:a0E}{H:Hp}{h:a1d}{a:Addr}{o:HO}(x:HOk P w H h)(e:H a=a7 o):a<h.objs.size:=(x a o e).lt
theorem HOk.fresh{a:Addr}(x:HOk P w H h)(e:h.objs.size<=a):H a=none:=by
 cases q:H a with
 |none=>rfl|some u=>exact absurd (a0e (x.lt q) e)<|a2p _
theorem HOk.kept(x:HOk P w H h)(k:∀b u,h.get? b=a7 u->h'.get? b=a7 u):HOk P w H h':=λa o e=>(x a o e).stay (λb u _ q=>k b u q) (λ_ q=>q) λ_ _ q=>q
theorem HOk.laid{a:Addr}(x:HOk P w H h)(k:∀b u,h.get? b=a7 u->h'.get? b=a7 u)(i:h.objs.size<=a)(new:ObjOk P w (aP H a o) h' a o):HOk P w (aP H a o) h':=λb u e=>by
 have g:=x.fresh i;by_cases d:b=a
 .subst d;rw[dD]at e;cases e;exact new
 .rw[bN d]at e;exact(x b u e).stay (λc v _ q=>k c v q) (λc q=>by rw[bN<|fN q g];exact q) λc j q=>by rw[bN<|fN q g];exact q
noncomputable def Rd(H:Hp)(a:Addr)(u:HO):Prop:=H a=a7 u\/∃o,H a=a7 (.frz o u)
theorem Rd.of(h:H a=a7 u):Rd H a u:=.inl h
theorem Rd.ok(r:Rd H a u)(x:HOk P w H h):ObjOk P w H h a u:=by
 rcases r with r|⟨o,r⟩
 .exact x a u r
 .obtain⟨_,q⟩:=x a _ r;exact q
noncomputable def rB:Option HO->Prop
 |some (.lst _)=>True|some (.dK _)=>True|some (.dT _)=>True|some (.set _ _)=>True|some (.ins _ _ _)=>True|some (.ext _)=>True|_=>False
theorem HOk.write(ok:HOk P w H h)(j:rB (H x))(n:e=x\/H e=a7 (.own x))(k:∀b u,b≠e->h.get? b=a7 u->h'.get? b=a7 u)(m:∃u,h'.get? e=a7 u)(new:ObjOk P w (aP H x o') h' x o'):HOk P w (aP H x o') h':=λb u q=>by
 have d:∀c y,H c=a7 (.own y)->c≠x:=λc y r z=>by subst z;rw[r]at j;exact j
 have g:∀c l,H c=a7 (.tup l)->c≠x:=λc l r z=>by subst z;rw[r]at j;exact j
 by_cases i:b=x
 .subst i;rw[dD]at q;cases q;exact new
 .rw[bN i]at q;by_cases a:b=e
  .have o:H b=a7 (.own x):=by
    rcases n with z|z
    .exact absurd (a.trans z) i
    .rw[a];exact z
   rw[q]at o;cases o;obtain⟨v,p⟩:=m;exact⟨v,by rw[a];exact p⟩
  .refine(ok b u q).stay (λc v hc r=>k c v ?_ r) (λc r=>by rw[bN<|d c b r];exact r) λc l r=>by rw[bN<|g c l r];exact r
   rcases hc with rfl|hc
   .exact a
   .rintro rfl;rcases n with z|z
    .exact d c b hc z
    .rw[hc]at z;cases z;exact i rfl
structure Un(fs ex:List Addr)(H H':Hp)(h h':a1d):Prop where
 keep:∀b o,h.get? b=a7 o->H b=b3->b∉fs->b∉ex->h'.get? b=a7 o
 slot:∀b o,h.get? b=a7 o->H b=b3->b∈fs->b∉ex->∃sl,h'.get? b=a7 {o with slots:=sl}
 free:∀b o,h.get? b=a7 o->H b=b3->b∉ex->H' b=b3
 there:∀b o,h.get? b=a7 o->b∉ex->∃o',h'.get? b=a7 o'
 tups:∀b xs,H b=a7 (.tup xs)->H' b=a7 (.tup xs)
 frzs:∀b o u,H b=a7 (.frz o u)->H' b=a7 (.frz o u)
 tbls:∀b ps,H b=a7 (.tbl ps)->∃more,H' b=a7 (.tbl<|ps++more)
theorem Un.any(u:Un fs ex H H1 h h1)(q:h.get? b=a7 ob)(n:H b=b3)(d:b∉ex):∃g,h1.get? b=a7 {ob with slots:=g}:=by
 by_cases c:b∈fs
 .exact u.slot b ob q n c d
 .exact⟨ob.slots,u.keep b ob q n c d⟩
theorem Un.kept(k:∀b u,h.get? b=a7 u->h'.get? b=a7 u):Un fs ex H H h h':=
 ⟨λb c q _ _ _=>k b c q,λb c q _ _ _=>⟨c.slots,k b c q⟩,λ_ _ _ n _=>n,λb c q _=>⟨c,k b c q⟩,λ_ _ q=>q,λ_ _ _ q=>q,λ_ d q=>⟨#[],by rw[q];simp⟩⟩
theorem Un.refl:Un fs ex H H h h:=Un.kept λ_ _ q=>q
theorem Un.laid{h:a1d}{a:Addr}(k:∀b u,h.get? b=a7 u->h'.get? b=a7 u)(d:h.objs.size<=a)(c:H a=b3):Un fs ex H (aP H a o) h h' where
 keep:=λb u q _ _ _=>k b u q
 slot:=λb u q _ _ _=>⟨u.slots,k b u q⟩
 free:=λb u q n _=>by rw[bN<|Z6<|a0e (ZV q) d];exact n
 there:=λb u q _=>⟨u,k b u q⟩
 tups:=λb g q=>by rw[bN<|fN q c];exact q
 frzs:=λb u g q=>by rw[bN<|fN q c];exact q
 tbls:=λb i q=>⟨#[],by rw[bN<|fN q c,q];simp⟩
theorem Un.write(d:rB (H x))(m:e=x\/H e=a7 (.own x))(k:∀b u,b≠e->h.get? b=a7 u->h'.get? b=a7 u)(g:∃u,h'.get? e=a7 u):Un fs ex H (aP H x o) h h':=by
 have l:∀b,H b=b3->b≠x:=λb n z=>by subst z;rw[n]at d;exact d
 have j:∀b,H b=b3->b≠e:=λb n z=>by
  subst z;rcases m with r|r
  .exact l b n r
  .rw[n]at r;cases r
 have i:∀b u,H b=a7 u->¬ rB (a7 u)->b≠x:=λb u q p z=>by subst z;rw[q]at d;exact p d
 refine⟨λb u q n _ _=>k b u (j b n) q,λb u q n _ _=>⟨u.slots,k b u (j b n) q⟩,λb u q n _=>by rw[bN<|l b n];exact n,λb u q _=>?_,
  λb s q=>by rw[bN<|i b _ q λz=>z];exact q,λb u s q=>by rw[bN<|i b _ q λz=>z];exact q,λb v q=>⟨#[],by rw[bN<|i b _ q λz=>z,q];simp⟩⟩
 by_cases c:b=e
 .subst c;exact g
 .exact⟨u,k b u c q⟩
noncomputable def t6(h:a1d)(H:Hp):List Addr:=(a0L h.objs.size).filter λa=>(H a).isSome
noncomputable def kR(h:a1d)(H:Hp):a1d:=PySem.W.hideAll h<|t6 h H
theorem Kd h H:(kR h H).objs.size=h.objs.size:=PySem.W.hideAll_size _ _
theorem Ke(e:h.get? b=a7 o)(n:H b=b3):(kR h H).get? b=a7 o:=
 PySem.W.hideAll_get _ e λa=>by have q:(H b).isSome=true:=(a0s.mp a).2;rw[n]at q;simp at q
theorem Kf(e:(kR h H).get? b=a7 o):h.get? b=a7 o/\H b=none:=by
 have a:h.get? b=a7 o:=PySem.W.of_hideAll (t6 h H) e;refine⟨a,?_⟩;cases q:H b with
 |none=>rfl|some x=>have c:b∈t6 h H:=a0s.mpr ⟨a1J.mpr<|ZV a,by simp[q]⟩;have z:(kR h H).get? b=none:=PySem.W.hideAll_none (t6 h H) c;rw[z]at e;cases e
noncomputable def t7(g h:a1d)(L:Addr):jw:=(a0L h.objs.size).filterMap λa=>if a=L\/(g.get? a).isSome=b5 then b3 else(h.get? a).map λo=>(a,o)
theorem xX(c:a≠L)(d:g.get? a=b3)(b:h.get? a=a7 o):(a,o)∈t7 g h L:=
 a3y.mpr ⟨a,a1J.mpr<|ZV b,by simp[c,d,b]⟩
theorem Kg(c:p∈t7 g h L):p.1≠L/\g.get? p.1=b3/\h.get? p.1=a7 p.2:=by
 obtain⟨b,_,e⟩:=a3y.mp c;split at e
 .cases e
 .rename_i a;cases q:h.get? b with
  |none=>rw[q]at e;simp at e|some u=>
   rw[q]at e;simp only[Z4,b1A]at e;subst e;refine⟨λz=>a<|.inl z,?_,q⟩;show g.get? b=b3;cases r:g.get? b with
   |none=>rfl|some v=>exact(a<|.inr<|by simp[r]).elim
noncomputable def b6(g h:a1d)(L d:Addr):jw:=(t7 g h L).filter λp=>decide<|p.1≠d
theorem Kh:News g L h (t7 g h L):=λp d=>let⟨a,b,c⟩:=Kg d;⟨c,a,b⟩
structure Mod(K:ZD)(mg:Str->Option Value)(base:a1d):Prop where
 kin:K.In base
 glob:base.Ns a1b mg
 blt:∃mb,base.Ns a9U mb/\∀x:Str,x ≠ "__name__"->mb x=a1F x
 nolimit:base.NoLimit
structure Cx where
 prog:a0j
 w:a0E
 K:ZD
 mg:Str->Option Value
 base:a1d
 A:a0y
 N:List Str
 s₀:ZJ
 H₀:Hp
 env:a5t
 outer:List a5t
 stack:List a5t
 ex:List Addr
 fn:Str->Bool
 calm:Bool
 pn:jw
 xe:Value->ZJ->Prop
noncomputable def iY(l:List a5t):List Addr:=l.filterMap (·.frame)
noncomputable abbrev Cx.fs(X:Cx):List Addr:=iY X.outer
noncomputable def nK(sc:a2y)(x:Str):Prop:=sc.names.lookup x=a7 .local\/sc.names.lookup x=a7 .cell\/sc.names.lookup x=a7 .free
noncomputable def Loc(sc:a2y)(x:Str):Prop:=sc.names.lookup x=a7 .local\/sc.names.lookup x=a7 .cell
noncomputable def Ki(env:a5t)(h:a1d)(m:Str->Option Value)(x:Str)(u:Value):Prop:=
 (env.kindOf x=a7 .local/\m x=a7 u)\/((env.kindOf x=a7 .cell\/env.kindOf x=a7 .free)/\∃c,env.cells.lookup x=a7 c/\h.IsCell c (a7 u))
structure Cx.Ok(X:Cx):Prop where
 mod:Mod X.K X.mg X.base
 kind:X.env.scope.kind=.function
 glob:X.env.globals=a1b
 blt:X.env.builtins=a9U
 above:X.s₀.heap.objs.size<=X.env.locals
 inj:∀x y c,X.env.cells.lookup x=a7 c->X.env.cells.lookup y=a7 c->x=y
 has:∀x,(X.env.kindOf x=a7 .cell\/X.env.kindOf x=a7 .free)->∃c,X.env.cells.lookup x=a7 c
 cab:∀x c,X.fn x=b5->X.env.cells.lookup x=a7 c->X.s₀.heap.objs.size<=c
 hd:X.calm=b5->X.A.handled=b3
 frames:X.A.frames=a7 X.stack
 stk:X.stack=X.outer\/(X.stack=X.env::X.outer/\X.env.frame=a7 X.env.locals)
 exf:∀b∈X.ex,b≠X.env.locals/\∀x c,X.env.cells.lookup x=a7 c->c≠b
 bs:∀b o,X.base.get? b=a7 o->X.s₀.heap.get? b=a7 o/\X.H₀ b=b3
 bsz:X.base.objs.size<=X.s₀.heap.objs.size
 noex:∀b o,X.base.get? b=a7 o->b∉X.ex
 exfs:∀b∈X.ex,b∉X.fs
 funs:X.s₀.heap.FunFrames X.base X.outer
 frf:∀b∈X.fs,X.H₀ b=b3
structure Inv(X:Cx)(b1C:jw)(σ:List (Option V))(H:Hp)(s:ZJ):Prop where
 ok:X.Ok
 os:s.os=X.s₀.os
 bare:a6a s.gens
 base:Un X.fs X.ex X.H₀ H X.s₀.heap s.heap
 loc:∃m,s.heap.Ns X.env.locals m/\∀(i:Nat)(x:Str)(v:V),X.N[i]?=a7 x->σ[i]?=a7 (a7 v)->nK X.env.scope x->∃u,RelV v u/\Ki X.env s.heap m x u
 cell:∀x c,X.env.cells.lookup x=a7 c->∃v,s.heap.IsCell c v
 free:H X.env.locals=b3
 freeC:∀x c,X.env.cells.lookup x=a7 c->H c=b3
 pin:∀p∈X.pn++b1C,s.heap.get? p.1=a7 p.2/\H p.1=b3/\p.1≠X.env.locals/\p.1∉X.fs/\∀v,p.2.data≠.cell v
 hok:HOk X.prog X.w H s.heap
 len:σ.length=X.N.length
theorem Cx.Ok.nofr{X:Cx}(ok:X.Ok)(e:X.base.get? b=a7 o):b∉X.fs:=λa=>by have:=(ok.funs.mem a).1;rw[e]at this;cases this
theorem Inv.bs(I:Inv X b1C σ H s):∀b o,X.base.get? b=a7 o->s.heap.get? b=a7 o/\H b=none:=λb o e=>⟨I.base.keep b o (I.ok.bs b o e).1 (I.ok.bs b o e).2 (I.ok.nofr e)<|I.ok.noex b o e,I.base.free b o (I.ok.bs b o e).1 (I.ok.bs b o e).2<|I.ok.noex b o e⟩
theorem Inv.bk(I:Inv X b1C σ H s):∀b o,X.base.get? b=a7 o->s.heap.get? b=a7 o:=λb o e=>(I.bs b o e).1
theorem Inv.mod(I:Inv X b1C σ H s):Mod X.K X.mg X.base:=I.ok.mod
theorem Inv.kIn(I:Inv X b1C σ H s):X.K.In s.heap:=I.ok.mod.kin.keeps I.bk
theorem Inv.fr(I:Inv X b1C σ H s):∃m,Fr X.base X.env.locals s.heap m:=
 let⟨m,a,_⟩:=I.loc
 ⟨m,a,I.bk,a0A I.ok.bsz I.ok.above⟩
theorem Inv.lt{X:Cx}{b1C:jw}{σ:List (Option V)}{H:Hp}{s:ZJ}(I:Inv X b1C σ H s):X.env.locals<s.heap.objs.size:=let⟨_,a,_⟩:=I.loc;a.lt
theorem Inv.sz(I:Inv X b1C σ H s):X.s₀.heap.objs.size<=s.heap.objs.size:=a0A I.ok.above<|a4l I.lt
theorem Inv.nofs(I:Inv X b1C σ H s){a:Addr}(h:s.heap.objs.size<=a):a∉X.fs:=λb=>by obtain⟨_,o,c,_⟩:=I.ok.funs.mem b;exact absurd (a0e (ZV c)<|a0A I.sz h)<|a2p _
theorem Inv.cne(I:Inv X b1C σ H s):∀x c,X.env.cells.lookup x=a7 c->c≠X.env.locals:=λx c e z=>by obtain⟨v,o,d,hd⟩:=I.cell x c e;obtain⟨m,⟨i,h,g,b,a,_⟩,_⟩:=I.loc;rw[z,b]at d;cases d;rw[a]at hd;cases hd
theorem Inv.funs(I:Inv X b1C σ H s):s.heap.FunFrames X.base X.outer:=by
 have all:∀(l:List a5t),(∀b∈iY l,b∈X.fs)->X.s₀.heap.FunFrames X.base l->s.heap.FunFrames X.base l:=by
  intro l;induction l with
  |nil=>intro _ _;trivial|cons h r p=>intro g j;obtain⟨i,⟨L,o,d,k,m,hd⟩,n⟩:=j;have a:L∈X.fs:=g L (by unfold iY;rw[a1V,d];exact a0l);obtain⟨q,e⟩:=I.base.slot L o m (I.ok.frf L a) a λz=>I.ok.exfs L z a;exact⟨i,⟨L,_,d,k,e,hd⟩,p (λb c=>g b<|by unfold iY;rw[a1V,d];exact Z2 _ c) n⟩
 exact all X.outer (λ_ c=>c) I.ok.funs
theorem Inv.stack(I:Inv X b1C σ H s):s.heap.FunFrames X.base X.stack:=by
 rcases I.ok.stk with e|⟨e,a⟩
 .rw[e];exact I.funs
 .rw[e];obtain⟨m,b,_⟩:=I.loc;refine .cons (by rw[I.ok.kind];decide) a b ?_ I.funs;exact Heap.get?_none_of_le<|a0A I.ok.bsz I.ok.above
theorem Inv.stkSub(I:Inv X b1C σ H s):∀b∈iY X.stack,b∈X.env.locals::X.fs:=λb a=>by
 rcases I.ok.stk with e|⟨e,c⟩
 .rw[e]at a;exact Z2 _ a
 .rw[e]at a;unfold iY at a;rw[a1V,c]at a;exact a
theorem Inv.stkFree(I:Inv X b1C σ H s):∀b∈iY X.stack,H b=none:=λb a=>by
 rcases a0g.mp (I.stkSub b a)with e|a
 .rw[e];exact I.free
 .obtain⟨_,o,c,_⟩:=I.ok.funs.mem a;exact I.base.free b o c (I.ok.frf b a) λz=>I.ok.exfs b z a
theorem Inv.step{ch:List Addr}(I:Inv X b1C σ H s)(h:∀b∈ch,(b∈X.ex\/X.s₀.heap.objs.size<=b)/\b≠X.env.locals/\(∀x c,X.env.cells.lookup x=a7 c->c≠b)/\∀p∈X.pn++b1C,p.1≠b)(keep:∀b o,b≠X.env.locals->b∉X.fs->b∉ch->s.heap.get? b=a7 o->H b=b3->h'.get? b=a7 o)(A:∀b o,b≠X.env.locals->b∈X.fs->b∉ch->s.heap.get? b=a7 o->H b=b3->∃U,h'.get? b=a7 {o with slots:=U})(free:∀b o,b∉ch->s.heap.get? b=a7 o->H b=b3->H' b=b3)(G:∀b o,b∉ch->s.heap.get? b=a7 o->∃N,h'.get? b=a7 N)(Q:∀b B,H b=a7 (.tup B)->H' b=a7 (.tup B))(L:∀b o u,H b=a7 (.frz o u)->H' b=a7 (.frz o u))(O:∀b R,H b=a7 (.tbl R)->∃more,H' b=a7 (.tbl<|R++more))(ns:∀m,s.heap.Ns X.env.locals m->h'.Ns X.env.locals m)(T:HOk X.prog X.w H' h')(hg:a6a g'):
  Inv X b1C σ H' {s with heap:=h',gens:=g',drawn:=d',toks:=t'}:=by
 have M:∀b o,X.s₀.heap.get? b=a7 o->b≠X.env.locals:=λb o e=>Z6<|a0e (ZV e) I.ok.above;have y:∀b o,X.s₀.heap.get? b=a7 o->b∉X.ex->b∉ch:=λb o e a E=>by
  rcases(h b E).1 with z|z
  .exact a z
  .exact absurd (a0e (ZV e) z)<|a2p _
 have g:∀x c,X.env.cells.lookup x=a7 c->∀v,s.heap.IsCell c v->h'.IsCell c v:=λx c e v ⟨o,J,hd⟩=>by
  have j:c∉ch:=λz=>(h c z).2.2.1 x c e rfl;by_cases hc:c∈X.fs
  .obtain⟨U,q⟩:=A c o (I.cne x c e) hc j J<|I.freeC x c e;exact⟨_,q,hd⟩
  .exact⟨o,keep c o (I.cne x c e) hc j J<|I.freeC x c e,hd⟩
 refine⟨I.ok,I.os,hg,⟨λb o e n E a=>?_,λb o e n E a=>?_,λb o e n a=>?_,λb o e a=>?_,λb B e=>Q b B<|I.base.tups b B e,λb o B e=>L b o B<|I.base.frzs b o B e,λb R e=>?_⟩,?_,λx c e=>?_,?_,λx c e=>?_,λp Z=>?_,T,I.len⟩
 .exact keep b o (M b o e) E (y b o e a) (I.base.keep b o e n E a)<|I.base.free b o e n a
 .obtain⟨U,w⟩:=I.base.slot b o e n E a;obtain⟨Y,K⟩:=A b _ (M b o e) E (y b o e a) w<|I.base.free b o e n a;exact⟨Y,K⟩
 .obtain⟨N,w⟩:=I.base.there b o e a;exact free b N (y b o e a) w<|I.base.free b o e n a
 .obtain⟨N,w⟩:=I.base.there b o e a;exact G b N (y b o e a) w
 .obtain⟨m1,w⟩:=I.base.tbls b R e;obtain⟨m2,K⟩:=O b _ w;exact⟨m1++m2,by rw[K,Array.append_assoc]⟩
 .obtain⟨m,hn,hl⟩:=I.loc;refine⟨m,ns m hn,λi x v w K e3=>?_⟩;obtain⟨u,r,l⟩:=hl i x v w K e3;refine⟨u,r,?_⟩;rcases l with l|⟨k,c,e,z⟩
  .exact .inl l
  .exact .inr ⟨k,c,e,g x c e _ z⟩
 .obtain⟨v,z⟩:=I.cell x c e;exact⟨v,g x c e v z⟩
 .obtain⟨m,⟨o,_,_,J,_⟩,_⟩:=I.loc;exact free _ o (λz=>(h _ z).2.1 rfl) J I.free
 .obtain⟨v,o,J,hd⟩:=I.cell x c e;exact free c o (λz=>(h c z).2.2.1 x c e rfl) J<|I.freeC x c e
 .obtain⟨e,n,ne,nf,d⟩:=I.pin p Z;have j:p.1∉ch:=λz=>(h p.1 z).2.2.2 p Z rfl;exact⟨keep p.1 p.2 ne nf j e n,free p.1 p.2 j e n,ne,nf,d⟩
theorem Inv.un(I:Inv X b1C σ H s)(u:Un X.fs [] H H' s.heap h')(h:HOk X.prog X.w H' h'):Inv X b1C σ H' {s with heap:=h',toks:=t'}:=by
 obtain⟨m,⟨o,q,p,i,r⟩,_⟩:=id I.loc;obtain⟨x,j⟩:=u.any i I.free (by simp);exact I.step (g':=s.gens) (d':=s.drawn) (ch:=[]) (λ_ z=>nomatch z) (λb o _ g _ e n=>u.keep b o e n g<|by simp) (λb o _ g _ e n=>u.slot b o e n g<|by simp) (λb o _ e n=>u.free b o e n<|by simp) (λb o _ e=>u.there b o e<|by simp) u.tups u.frzs u.tbls (λv k=>by
  obtain⟨w,d,c,a,l⟩:=k;rw[i]at a;cases a;exact⟨_,d,c,j,l⟩) h I.bare
theorem Inv.call(I:Inv X b1C σ H s)(u:Un (iY X.stack) ch H H' s.heap h')(j:HOk X.prog X.w H' h')(q:a6a g')(a:∀b∈ch,(b∈X.ex\/X.s₀.heap.objs.size<=b)/\b≠X.env.locals/\(∀x c,X.env.cells.lookup x=a7 c->c≠b)/\∀p∈X.pn++b1C,p.1≠b):
  Inv X b1C σ H' {s with heap:=h',gens:=g',drawn:=d',toks:=t'}:=by
 obtain⟨m,⟨o,A,y,k,r⟩,_⟩:=id I.loc;obtain⟨G,i⟩:=u.any k I.free λz=>(a _ z).2.1 rfl;exact I.step (ch:=ch) a (λb o i l hc e n=>u.keep b o e n (λz=>(a0g.mp<|I.stkSub b z).elim i l) hc) (λb o _ _ hc e n=>u.any e n hc) (λb o hc e n=>u.free b o e n hc) (λb o hc e=>u.there b o e hc) u.tups u.frzs u.tbls (λB v=>by
  obtain⟨E,h,g,d,w⟩:=v;rw[k]at d;cases d;exact⟨_,h,g,i,w⟩) j q
theorem Inv.turned(I:Inv X b1C σ H s)(k:∀b o,b≠a->s.heap.get? b=a7 o->h'.get? b=a7 o)(B:H a=b3)(g:a≠X.env.locals)(j:a∈X.ex\/X.s₀.heap.objs.size<=a)(l:∀x c,X.env.cells.lookup x=a7 c->c≠a)(w:∀p∈X.pn++b1C,p.1≠a):Inv X b1C σ H {s with heap:=h',toks:=t'}:=by
 have d:∀b u,H b=a7 u->b≠a:=λb u e z=>by rw[z,B]at e;cases e
 refine I.step (g':=s.gens) (d':=s.drawn) (ch:=[a]) (λb y=>?_) (λb o _ _ hc e _=>k b o (λz=>hc<|by simp[z]) e) (λb o _ _ hc e _=>⟨o.slots,k b o (λz=>hc<|by simp[z]) e⟩) (λ_ _ _ _ n=>n)
  (λb o hc e=>⟨o,k b o (λz=>hc<|by simp[z]) e⟩) (λ_ _ e=>e) (λ_ _ _ e=>e) (λb G e=>⟨#[],by rw[e];simp⟩) (λm A=>?_) (λb u e=>?_) I.bare
 .have e:b=a:=by simpa using y
  subst e;exact⟨j,g,l,w⟩
 .obtain⟨o,i,h,E,r⟩:=A;exact⟨o,i,h,k _ o (a0o g) E,r⟩
 .refine(I.hok b u e).stay (λc v hc q=>k c v ?_ q) (λ_ q=>q) λ_ _ q=>q;rcases hc with z|z
  .rw[z];exact d b u e
  .exact d c _ z
theorem Inv.tok(I:Inv X b1C σ H s)t:Inv X b1C σ H {s with toks:=t}:=I.un (h':=s.heap) (t':=t) Un.refl I.hok
theorem Inv.kept(I:Inv X b1C σ H s)(k:∀b u,s.heap.get? b=a7 u->h'.get? b=a7 u):Inv X b1C σ H {s with heap:=h',toks:=t'}:=I.un (Un.kept k)<|I.hok.kept k
theorem Inv.laid{a:Addr}(I:Inv X b1C σ H s)(k:∀b u,s.heap.get? b=a7 u->h'.get? b=a7 u)(c:s.heap.objs.size<=a)(new:ObjOk X.prog X.w (aP H a o) h' a o):
  Inv X b1C σ (aP H a o) {s with heap:=h',toks:=t'}:=I.un (Un.laid k c<|I.hok.fresh c)<|I.hok.laid k c new
theorem Inv.write(I:Inv X b1C σ H s)(d:rB (H x))(c:e=x\/H e=a7 (.own x))(k:∀b u,b≠e->s.heap.get? b=a7 u->h'.get? b=a7 u)(a:∃u,h'.get? e=a7 u)(new:ObjOk X.prog X.w (aP H x o) h' x o):Inv X b1C σ (aP H x o) {s with heap:=h',toks:=t'}:=I.un (Un.write d c k a)<|I.hok.write d c k a new
theorem Inv.pins_of(I:Inv X b1C σ H s)(h:∀p∈a,s.heap.get? p.1=a7 p.2/\H p.1=b3/\p.1≠X.env.locals/\p.1∉X.fs/\∀v,p.2.data≠.cell v):Inv X a σ H s:=
 ⟨I.ok,I.os,I.bare,I.base,I.loc,I.cell,I.free,I.freeC,λp b=>(a0M.mp b).elim (λz=>I.pin p<|a3U _ z)<|h p,I.hok,I.len⟩
theorem CI{N:List Str}(e:N.Nodup){i:Nat}(a:N[i]?=a7 x)(b:N[j]?=a7 x):i=j:=by obtain⟨g,c⟩:=ZG.mp a;obtain⟨h,d⟩:=ZG.mp b;exact(a9n e).mp<|c.trans d.symm
theorem CJ(I:Inv X b1C σ H s)(hN:X.N.Nodup)(hi:X.N[i]?=a7 x)(B:Loc X.env.scope x)(r:RelV v u)(h:∀s',Inv X b1C (σ.set i<|a7 v) H s'->(∃a,a2n a s.heap s'.heap/\(a=X.env.locals\/X.env.cells.lookup x=a7 a))->Q () s')(hf:X.fn x=b5\/X.env.scope.names.lookup x=a7 .local:=by first|exact .inl rfl|exact .inr rfl|assumption):Z3 M A (storeName X.env x u) Q E s:=by
 obtain⟨m,hn,hl⟩:=id I.loc;have Y:(X.env.scope.kind==.class||(X.env.scope.kind==.module&&X.env.locals != X.env.globals))=false:=by rw[I.ok.kind];rfl
 have K:i<σ.length:=by rw[I.len];exact(ZG.mp hi).1
 have cne:=I.cne;have w:∀{a:Addr}{h':a1d},(∃o,s.heap.get? a=a7 o/\H a=b3)->a2n a s.heap h'->HOk X.prog X.w H h':=λ{a h'} ha g b ob e=>by
  obtain⟨_,_,G⟩:=ha;refine(I.hok b ob e).stay (λc w' hc q=>(g.2 c ?_).trans q) (λ_ q=>q) λ_ _ q=>q;rintro rfl;rcases hc with rfl|hc
  .rw[G]at e;cases e
  .rw[G]at hc;cases hc
 rcases B with L|L
 .refine wpAny_storeName_local L hn (λh' hn' g=>?_) Y;obtain⟨oL,_,_,hoL,_⟩:=id hn;refine h _ ⟨I.ok,I.os,I.bare,⟨λb o e n N B=>?_,λb o e n N B=>?_,I.base.free,λb o e B=>?_,I.base.tups,I.base.frzs,I.base.tbls⟩,⟨_,hn',λj y v' l J e3=>?_⟩,λy c e=>?_,I.free,I.freeC,λp hp=>?_,w ⟨oL,hoL,I.free⟩ g,by simpa using I.len⟩ ⟨_,g,.inl rfl⟩
  .exact(g.2 b<|Z6<|a0e (ZV e) I.ok.above).trans<|I.base.keep b o e n N B
  .obtain⟨sl,l⟩:=I.base.slot b o e n N B;exact⟨sl,(g.2 b<|Z6<|a0e (ZV e) I.ok.above).trans l⟩
  .obtain⟨o',l⟩:=I.base.there b o e B;exact⟨o',(g.2 b<|Z6<|a0e (ZV e) I.ok.above).trans l⟩
  .by_cases R:j=i
   .subst R;rw[hi]at l;cases l;rw[a0t K]at J;cases J;exact⟨u,r,.inl ⟨L,by simp⟩⟩
   .rw[ZP<|a0o R]at J;obtain⟨u',r',q⟩:=hl j y v' l J e3;refine⟨u',r',?_⟩;rcases q with⟨k,e⟩|⟨k,c,e,z⟩
    .refine .inl ⟨k,?_⟩;have:y≠x:=λe=>R<|CI hN l<|e▸hi;simp[this,e]
    .exact .inr ⟨k,c,e,z.sameBut g<|cne y c e⟩
  .obtain⟨w',z⟩:=I.cell y c e;exact⟨w',z.sameBut g<|cne y c e⟩
  .obtain⟨e,n,ne,nf,d⟩:=I.pin p hp;exact⟨(g.2 p.1 ne).trans e,n,ne,nf,d⟩
 .have O:X.fn x=true:=by
   rcases hf with z|z
   .exact z
   .rw[z]at L;cases L
  obtain⟨c,hc⟩:=I.ok.has x<|.inl L;obtain⟨w',z⟩:=I.cell x c hc;refine wpAny_storeName_cell I.ok.kind L hc z λh' T g=>?_;obtain⟨oc,Z,hocd⟩:=id z;refine h {s with heap:=h'} ⟨I.ok,I.os,I.bare,⟨λb o e n N B=>?_,λb o e n N B=>?_,I.base.free,λb o e B=>?_,I.base.tups,I.base.frzs,I.base.tbls⟩,⟨m,hn.sameBut g<|a0o<|cne x c hc,λj y v' l J e3=>?_⟩,λy c' e=>?_,I.free,I.freeC,λp hp=>?_,w ⟨oc,Z,I.freeC x c hc⟩ g,by simpa using I.len⟩ ⟨c,g,.inr hc⟩
  .exact(g.2 b<|Z6<|a0e (ZV e)<|I.ok.cab x c O hc).trans<|I.base.keep b o e n N B
  .obtain⟨sl,l⟩:=I.base.slot b o e n N B;exact⟨sl,(g.2 b<|Z6<|a0e (ZV e)<|I.ok.cab x c O hc).trans l⟩
  .obtain⟨o',l⟩:=I.base.there b o e B;exact⟨o',(g.2 b<|Z6<|a0e (ZV e)<|I.ok.cab x c O hc).trans l⟩
  .by_cases R:j=i
   .subst R;rw[hi]at l;cases l;rw[a0t K]at J;cases J;exact⟨u,r,.inr ⟨.inl L,c,hc,T⟩⟩
   .rw[ZP<|a0o R]at J;obtain⟨u',r',q⟩:=hl j y v' l J e3;refine⟨u',r',?_⟩;rcases q with q|⟨k,c',e,z'⟩
    .exact .inl q
    .refine .inr ⟨k,c',e,z'.sameBut g ?_⟩;rintro rfl;exact R<|CI hN l<|I.ok.inj _ _ _ e hc▸hi
  .by_cases U:c'=c
   .subst U;exact⟨_,T⟩
   .obtain⟨w2,z2⟩:=I.cell y c' e;exact⟨w2,z2.sameBut g U⟩
  .obtain⟨e,n,ne,nf,d⟩:=I.pin p hp;refine⟨(g.2 p.1 ?_).trans e,n,ne,nf,d⟩;intro q;rw[q,Z]at e;have q':oc=p.2:=Z0 e;exact d w'<|by rw[<- q'];exact hocd
theorem t8(I:Inv X b1C σ H s)(c:X.N.Nodup)(hi:X.N[i]?=a7 x)(e:Loc X.env.scope x)(r:RelV v u)(h:∀a,Inv X b1C (σ.set i<|a7 v) H a->Q () a)(d:X.fn x=b5\/X.env.scope.names.lookup x=a7 .local:=by first|exact .inl rfl|exact .inr rfl|assumption):Z3 M A (storeName X.env x u) Q E s:=
 CJ I c hi e r (λa b _=>h a b) d
noncomputable abbrev XK:=Value->Option Addr->Hp->Prop
noncomputable abbrev St:=List<|Option V
noncomputable abbrev VK:=V->Hp->Prop
noncomputable abbrev TE:=St->Hp->VK->Prop
noncomputable abbrev TT:=St->Hp->(Bool->Hp->Prop)->Prop
noncomputable abbrev TA:=St->Hp->(List V->Hp->Prop)->Prop
structure Ends where
 nx:St->Hp->Prop
 rt:VK
 bk:St->Hp->Prop:=λ_ _=>False
 ct:St->Hp->Prop:=λ_ _=>False
noncomputable abbrev TS:=Ends->St->Hp->Prop
inductive EP (X:Cx)(b1C:jw)(σ:St)(Q:VK)(u:Value)(s':ZJ):Prop
 |mk (v:V)(H':Hp)(I:Inv X b1C σ H' s')(r:RelV v u)(q:Q v H'):EP X b1C σ Q u s'
inductive TP (X:Cx)(b1C:jw)(σ:St)(Q:Bool->Hp->Prop)(b:Bool)(s':ZJ):Prop
 |mk (H':Hp)(I:Inv X b1C σ H' s')(q:Q b H'):TP X b1C σ Q b s'
inductive AP (X:Cx)(b1C:jw)(σ:St)(Q:gw->Hp->Prop)(us:gq)(s':ZJ):Prop
 |mk (vs:gw)(H':Hp)(I:Inv X b1C σ H' s')(r:Vals vs us)(q:Q vs H'):AP X b1C σ Q us s'
inductive SPn (X:Cx)(b1C:jw)(Q:St->Hp->Prop)(s':ZJ):Prop
 |mk (σ':St)(H':Hp)(I:Inv X b1C σ' H' s')(q:Q σ' H'):SPn X b1C Q s'
inductive SPr (X:Cx)(b1C:jw)(Q:VK)(u:Value)(s':ZJ):Prop
 |mk (v:V)(σ':St)(H':Hp)(I:Inv X b1C σ' H' s')(r:RelV v u)(q:Q v H'):SPr X b1C Q u s'
noncomputable def SP(X:Cx)(b1C:jw)(D:Ends)(f:Flow)(a:ZJ):Prop:=
 match f with
 |.next=>SPn X b1C D.nx a|.brk=>SPn X b1C D.bk a|.cont=>SPn X b1C D.ct a|.ret u=>SPr X b1C D.rt u a
noncomputable def PE(X:Cx)(e:Expr)(t:TE):Prop:=
 ∀(b1C:jw)(s:ZJ)(σ:St)(H:Hp)(Q:VK),Inv X b1C σ H s->t σ H Q->Z3 (a0d X.prog X.w) X.A (eval e X.env) (EP X b1C σ Q) X.xe s
noncomputable def PT(X:Cx)(e:Expr)(t:TT):Prop:=
 ∀(b1C:jw)(s:ZJ)(σ:St)(H:Hp)(Q:Bool->Hp->Prop),Inv X b1C σ H s->t σ H Q->Z3 (a0d X.prog X.w) X.A (a8K e X.env<|eval e X.env) (TP X b1C σ Q) X.xe s
noncomputable def PW(X:Cx)(e:Expr)(t:TT):Prop:=
 ∀(a:a9e Value)(b1C:jw)(s:ZJ)(σ:St)(H:Hp)(Q:Bool->Hp->Prop),Inv X b1C σ H s->t σ H Q->Z3 (a0d X.prog X.w) X.A (a8K e X.env a) (TP X b1C σ Q) X.xe s
theorem PW.pt(h:PW X e t):PT X e t:=h _
noncomputable def PA(X:Cx)(a:List Expr)(t:TA):Prop:=
 ∀(pos:a1p)(b1C:jw)(s:ZJ)(σ:St)(H:Hp)(Q:gw->Hp->Prop),Inv X b1C σ H s->t σ H Q->Z3 (a0d X.prog X.w) X.A (spliced<|a1U pos<|a0h a X.env) (AP X b1C σ Q) X.xe s
noncomputable def PS(X:Cx)(st:Stmt)(t:TS):Prop:=
 ∀(b1C:jw)(s:ZJ)(σ:St)(H:Hp)(D:Ends),Inv X b1C σ H s->t D σ H->Z3 (a0d X.prog X.w) X.A (exec st X.env) (SP X b1C D) X.xe s
noncomputable def PSs(X:Cx)(st:List Stmt)(t:TS):Prop:=
 ∀(b1C:jw)(s:ZJ)(σ:St)(H:Hp)(D:Ends),Inv X b1C σ H s->t D σ H->Z3 (a0d X.prog X.w) X.A (execs st X.env) (SP X b1C D) X.xe s
theorem aW{t:a9e c}{Q b:c->ZJ->Prop}(h:Z3 M A t Q E s)(d:∀a s,Q a s->b a s):Z3 M A t b E s:=a1h h d λ_ _ x=>x
noncomputable def xY(i:Nat):TE:=λσ H Q=>∃v,σ[i]?=a7 (a7 v)/\Q v H
noncomputable def tC(v:V):TE:=λ_ H Q=>Q v H
theorem CK(j:X.N[i]?=a7 x)(p:nK X.env.scope x)(hd:(x==("__debug__":Str))=false:=by decide)(g:(x==("__classdict__":Str))=false:=by decide):PE X (.Name x pos) (xY i):=by
 intro d s q H Q I h;obtain⟨v,e,h⟩:=h;obtain⟨m,o,k⟩:=I.loc;obtain⟨u,r,l⟩:=k i x v j e p;have fin:EP X d q Q u s:=⟨v,H,I,r,h⟩;rcases l with⟨b,n⟩|⟨b,c,hc,a⟩
 .exact a9Q (wpAny_loadName_local I.ok.kind b o n fin) hd
 .rcases b with b|b
  .exact a9Q (wpAny_loadName_cell I.ok.kind b hc a fin) hd
  .exact a9Q (wpAny_loadName_free I.ok.kind b hc a fin g) hd
theorem Kj{i j pos}:PE X (.Constant (.int i) j pos) (tC<|.int i):=λ_ _ _ H _ I h=>wpAny_Constant_int ⟨.int i,H,I.tok _,⟨_,rfl⟩,h⟩
theorem Kk{b j pos}:PE X (.Constant (.bool b) j pos) (tC<|.bl b):=λ_ _ _ H _ I h=>Constant_bool ⟨.bl b,H,I,rfl,h⟩
theorem Kl{j pos}:PE X (.Constant .none j pos) (tC .non):=λ_ _ _ H _ I h=>Constant_none ⟨.non,H,I,rfl,h⟩
theorem Km{x j pos}:PE X (.Constant (.str x) j pos) (tC<|.str x):=λ_ _ _ H _ I h=>Calls.Constant_str ⟨.str x,H,I.tok _,⟨_,rfl⟩,h⟩
noncomputable def Gl(X:Cx)(x:Str):Prop:=X.env.kindOf x=a7 .globalImplicit
theorem t9{σ:St}(I:Inv X b1C σ H s)(a:Gl X x)(b:X.mg x=a7 u)(h:Q u s)(hd:(x==("__debug__":Str))=false:=by decide):Z3 (a0d X.prog X.w) X.A (eval (.Name x pos) X.env) Q E s:=
 a6O I.ok.kind a (Calls.loadGlobal_global (by rw[I.ok.glob];exact I.mod.glob.keeps I.bk) b h) hd
theorem jQ{σ:St}(I:Inv X b1C σ H s)(c:Gl X x)(d:X.mg x=b3)(g:a1F x=a7 u)(h:Q u s)(e:x ≠ "__name__":=by decide)(hd:(x==("__debug__":Str))=false:=by decide):Z3 (a0d X.prog X.w) X.A (eval (.Name x pos) X.env) Q E s:=by
 obtain⟨i,a,b⟩:=I.mod.blt;exact a6O I.ok.kind c (Calls.loadGlobal_builtin (by rw[I.ok.glob];exact I.mod.glob.keeps I.bk) d (by rw[I.ok.blt];exact a.keeps I.bk) ((b x e).trans g) h) hd
theorem Kn(a:Gl X x)(b:X.mg x=a7 u)(r:RelV v u)(hd:(x==("__debug__":Str))=false:=by decide):PE X (.Name x pos) (tC v):=
 λ_ _ _ H _ I h=>t9 I a b ⟨v,H,I,r,h⟩ hd
theorem Ko(a:Gl X x)(b:X.mg x=b3)(d:a1F x=a7 u)(r:RelV v u)(c:x ≠ "__name__":=by decide)(hd:(x==("__debug__":Str))=false:=by decide):PE X (.Name x pos) (tC v):=
 λ_ _ _ H _ I h=>jQ I a b d ⟨v,H,I,r,h⟩ c hd
noncomputable def Kp(t u:TT):TT:=λσ H Q=>t σ H λc d=>if c=b5 then u σ d Q else Q b4 d
noncomputable def Kq(t u:TT):TT:=λσ H Q=>t σ H λc d=>if c=b5 then Q b5 d else u σ d Q
noncomputable def Kr(t:TT):TT:=λσ H Q=>t σ H λc d=>Q (!c) d
theorem Ks(g:PT X a tA):PW X (.BoolOp .And [a] pos) tA:=by
 intro k d s i H Q I h;refine isTrue_and<|aW (g d s i H Q I h) λc j e=>?_;cases c with
 |true=>exact isTrue_and_nil e|false=>exact e
theorem Kt(g:PT X a tA):PW X (.BoolOp .Or [a] pos) tA:=by
 intro k d s i H Q I h;refine isTrue_or<|aW (g d s i H Q I h) λc j e=>?_;cases c with
 |false=>exact isTrue_or_nil e|true=>exact e
theorem Ku{b6:List Expr}(k:PT X a tA)(l:PW X (.BoolOp .And (b::b6) pos) tB'):PW X (.BoolOp .And (a::b::b6) pos) (Kp tA tB'):=by
 intro n d s j H Q I h;refine isTrue_and<|aW (k d s j H _ I h) λc m ⟨e,g,i⟩=>?_;cases c with
 |true=>exact l n d m j e Q g i|false=>exact⟨e,g,i⟩
theorem Kw{b6:List Expr}(k:PT X a tA)(l:PW X (.BoolOp .Or (b::b6) pos) tB'):PW X (.BoolOp .Or (a::b::b6) pos) (Kq tA tB'):=by
 intro n d s j H Q I h;refine isTrue_or<|aW (k d s j H _ I h) λc m ⟨e,g,i⟩=>?_;cases c with
 |true=>exact⟨e,g,i⟩|false=>exact l n d m j e Q g i
theorem Ky(i:PT X a tA):PT X (.UnaryOp .Not a pos) (Kr tA):=by intro d s j H Q I h;exact isTrue_not<|aW (i d s j H (λc g=>Q (!c) g) I h) λ_ _ ⟨e,J,q⟩=>⟨e,J,q⟩
noncomputable def Kz(ta tb:TE):TE:=λσ H Q=>ta σ H λx d=>∃c,x=.bl c/\if c=b5 then tb σ d Q else Q (.bl b4) d
noncomputable def KA(ta tb:TE):TE:=λσ H Q=>ta σ H λx d=>∃c,x=.bl c/\if c=b5 then Q (.bl b5) d else tb σ d Q
noncomputable def KG(ta:TE):TE:=λσ H Q=>ta σ H λx d=>∃c,x=.bl c/\Q (.bl<|!c) d
theorem KH{op}(h:PE X a t):PE X (.BoolOp op [a] pos) t:=λb1C s σ H Q I hw=>BoolOp_one<|h b1C s σ H Q I hw
theorem KI{b6:List Expr}(k:PE X a ta)(l:PE X (.BoolOp .And (b::b6) pos) tb):PE X (.BoolOp .And (a::b::b6) pos) (Kz ta tb):=by
 intro d s j H Q I h;refine BoolOp_and<|aW (k d s j H _ I h) λv n ⟨x,g,i,m,e⟩=>?_;obtain⟨c,rfl,e⟩:=e;cases m;refine a1K ?_;cases c with
 |true=>exact l d n j g Q i e|false=>exact⟨.bl b4,g,i,rfl,e⟩
theorem KJ{b6:List Expr}(k:PE X a ta)(l:PE X (.BoolOp .Or (b::b6) pos) tb):PE X (.BoolOp .Or (a::b::b6) pos) (KA ta tb):=by
 intro d s j H Q I h;refine BoolOp_or<|aW (k d s j H _ I h) λv n ⟨x,g,i,m,e⟩=>?_;obtain⟨c,rfl,e⟩:=e;cases m;refine a1K ?_;cases c with
 |false=>exact l d n j g Q i e|true=>exact⟨.bl b5,g,i,rfl,e⟩
theorem KL(j:PE X a ta):PE X (.UnaryOp .Not a pos) (KG ta):=by intro d s l H Q I h;refine UnaryOp_<|aW (j d s l H _ I h) λv m ⟨x,g,i,k,e⟩=>?_;obtain⟨c,rfl,e⟩:=e;cases k;exact not_of<|a1K ⟨.bl<|!c,g,i,rfl,e⟩
noncomputable def KN(t:TT)(ta tb:TE):TE:=λσ H Q=>t σ H λc d=>if c=b5 then ta σ d Q else tb σ d Q
theorem KO(hc:PT X c tA)(m:PE X a ta)(n:PE X b tb):PE X (.IfExp c a b pos) (KN tA ta tb):=by
 intro e s g H Q I h;refine wpAny_IfExp<|aW (hc e s g H _ I h) λd l ⟨i,j,k⟩=>?_;cases d with
 |true=>exact m e l g i Q j k|false=>exact n e l g i Q j k
noncomputable def SqL(K:ZD)(H:Hp)(a:Addr)(xs:gw):Prop:=
 Rd H a (.lst xs) \/
  ∃(o:Obj)(its:Array Value)(n:Nat),K.lookup a=a7 o/\o.cls=.type "list"/\o.dict=b3/\o.data=.seq its n/\its.size<=ZX/\Vals xs its.toList
noncomputable def SqT(K:ZD)(H:Hp)(a:Addr)(xs:gw):Prop:=
 Rd H a (.tup xs) \/
  ∃(o:Obj)(its:Array Value)(n:Nat),K.lookup a=a7 o/\o.cls=.type "tuple"/\o.dict=b3/\o.data=.seq its n/\its.size<=ZX/\Vals xs its.toList
noncomputable def KP:Value->Option V
 |.none=>a7 .non|.bool b=>a7 (.bl b)|.int i _=>a7 (.int i)|.str x _=>a7 (.str x)|.bytes b _=>a7 (.byt b)|.float b _=>a7 (.flt b)|.ref a=>a7 (.ref a)|.type n=>a7 (.ty n)|_=>b3
theorem RelV.abs(r:RelV x u):KP u=a7 x:=by
 cases x with
 |non=>cases r;rfl|bl _=>cases r;rfl|int _=>obtain⟨t,rfl⟩:=r;rfl|str _=>obtain⟨t,rfl⟩:=r;rfl|byt _=>obtain⟨t,rfl⟩:=r;rfl|flt _=>obtain⟨t,rfl⟩:=r;rfl|ref _=>cases r;rfl|ty _=>cases r;rfl
theorem RelV.inj(r:RelV x u)(q:RelV y u):x=y:=Z0<|r.abs.symm.trans q.abs
theorem Vals.inj:∀{xs a}{us},Vals xs us->Vals a us->xs=a
 |_,_,_,.nil,.nil=>rfl|_,_,_,.cons r t,.cons r' t'=>by rw[r.inj r',Vals.inj t t']
theorem SqL.of{K:ZD}(h:H a=a7 (.lst xs)):SqL K H a xs:=.inl<|.inl h
theorem SqT.of{K:ZD}(h:H a=a7 (.tup xs)):SqT K H a xs:=.inl<|.inl h
theorem Inv.list{σ:St}(I:Inv X b1C σ H s)(h:SqL X.K H a xs):∃its,Vals xs its/\PlainL s.heap a its.toArray/\xs.length<=ZX:=by
 rcases h with h|⟨o,its,n,b,hc,hd,c,d,r⟩
 .obtain⟨z,its,n,r,e⟩:=h.ok I.hok;exact⟨its,r,⟨_,n,e,rfl,rfl,rfl⟩,z⟩
 .refine⟨its.toList,r,⟨o,n,I.kIn a o b,hc,hd,by simpa using c⟩,?_⟩;have e:=r.length;simp only[a2j]at e;lia
theorem Inv.tuple{σ:St}(I:Inv X b1C σ H s)(h:SqT X.K H a xs):∃its,Vals xs its/\a7T s.heap a its.toArray/\xs.length<=ZX:=by
 rcases h with h|⟨o,its,n,b,hc,hd,c,d,r⟩
 .obtain⟨z,its,r,p⟩:=h.ok I.hok;exact⟨its,r,p.tup,z⟩
 .refine⟨its.toList,r,⟨o,I.kIn a o b,hc,n,by simpa using c⟩,?_⟩;have e:=r.length;simp only[a2j]at e;lia
theorem Inv.list_inj{σ:St}(I:Inv X b1C σ H s)(h:SqL X.K H a xs)(h':SqL X.K H a ys):xs=ys:=by
 obtain⟨c,r,⟨o,n,e,_,_,d⟩,_⟩:=I.list h;obtain⟨b,j,⟨l,k,i,_,_,g⟩,_⟩:=I.list h';rw[e]at i;cases i;rw[d]at g;injection g with d1 _;have:c=b:=by simpa using congrArg b0a d1
 subst this;exact r.inj j
theorem Inv.tuple_inj{σ:St}(I:Inv X b1C σ H s)(h:SqT X.K H a xs)(h':SqT X.K H a ys):xs=ys:=by
 obtain⟨c,r,⟨o,e,_,n,d⟩,_⟩:=I.tuple h;obtain⟨b,j,⟨l,i,_,k,g⟩,_⟩:=I.tuple h';rw[e]at i;cases i;rw[d]at g;injection g with d1 _;have:c=b:=by simpa using congrArg b0a d1
 subst this;exact r.inj j
noncomputable abbrev Cx.wish(X:Cx)(E:Value->ZJ->Prop):Cx:={X with xe:=E}
noncomputable abbrev Cx.nox(X:Cx):Cx:=X.wish λ_ _=>False
theorem Cx.Ok.wish{X:Cx}(ok:X.Ok)E:(X.wish E).Ok:=
 ⟨ok.mod,ok.kind,ok.glob,ok.blt,ok.above,ok.inj,ok.has,ok.cab,ok.hd,ok.frames,ok.stk,ok.exf,ok.bs,ok.bsz,ok.noex,ok.exfs,ok.funs,ok.frf⟩
theorem Cx.Ok.unwish{X:Cx}(ok:(X.wish E).Ok):X.Ok:=
 ⟨ok.mod,ok.kind,ok.glob,ok.blt,ok.above,ok.inj,ok.has,ok.cab,ok.hd,ok.frames,ok.stk,ok.exf,ok.bs,ok.bsz,ok.noex,ok.exfs,ok.funs,ok.frf⟩
theorem Inv.wish{σ:St}(I:Inv X b1C σ H s)E:Inv (X.wish E) b1C σ H s:=⟨I.ok.wish E,I.os,I.bare,I.base,I.loc,I.cell,I.free,I.freeC,I.pin,I.hok,I.len⟩
theorem Inv.unwish{σ:St}(I:Inv (X.wish E) b1C σ H s):Inv X b1C σ H s:=⟨I.ok.unwish,I.os,I.bare,I.base,I.loc,I.cell,I.free,I.freeC,I.pin,I.hok,I.len⟩
theorem SP.unwish(h:SP (X.wish E) b1C D f c):SP X b1C D f c:=by
 cases f with
 |next=>obtain⟨a,b,I,q⟩:=h;exact⟨a,b,I.unwish,q⟩|brk=>obtain⟨a,b,I,q⟩:=h;exact⟨a,b,I.unwish,q⟩|cont=>obtain⟨a,b,I,q⟩:=h;exact⟨a,b,I.unwish,q⟩|ret u=>obtain⟨v,a,b,I,r,q⟩:=h;exact⟨v,a,b,I.unwish,r,q⟩
theorem PSs.nox{st:List Stmt}(h:PSs X.nox st t):PSs X st t:=λb1C s σ H D I hw=>a1h (h b1C s σ H D (I.wish _) hw) (λ_ _ q=>q.unwish) λ_ _ z=>a1L z
noncomputable def CL:TS:=λD σ H=>D.nx σ H
noncomputable def KQ(t u:TS):TS:=λD σ H=>t {D with nx:=u D} σ H
theorem KR:PSs X [] CL:=λ_ _ σ H _ I h=>a7o ⟨σ,H,I,h⟩
theorem KS{st:Stmt}{b6:List Stmt}(g:PS X st t)(i:PSs X b6 u):PSs X (st::b6) (KQ t u):=by
 intro a s k H D I h;refine b0p<|aW (g a s k H {D with nx:=u D} I h) λf j q=>?_;cases f with
 |next=>obtain⟨b,c,d,q⟩:=q;exact i a j b c D d q|ret v=>exact q|brk=>exact q|cont=>exact q
theorem KU{st:Stmt}(b:PS X st t):PSs X [st] t:=by
 intro a s c H D I h;refine b0p<|aW (b a s c H D I h) λf d q=>?_;cases f with
 |next=>exact a7o q|ret v=>exact q|brk=>exact q|cont=>exact q
theorem KW:PS X (.Pass pos) CL:=λ_ _ σ H _ I h=>wpAny_Pass ⟨σ,H,I,h⟩
theorem Inv.quiet{σ:St}(I:Inv X b1C σ H s):interactive X.env=false:=by simp[interactive,I.ok.kind]
noncomputable def KY(te:TE):TS:=λD σ H=>te σ H λ_ a=>D.nx σ a
theorem KZ(g:PE X e te)(i:a4a e b3 pos.line X.env=pure false:=by rfl):PS X (.Expr e pos) (KY te):=by intro a s b H D I h;exact wpAny_Expr_any (aW (g a s b H _ I h) λv l ⟨x,c,d,k,j⟩=>⟨b,c,d,j⟩) I.quiet i
noncomputable def K0(te:TE):TS:=λD σ H=>te σ H D.rt
theorem K1(g:PE X e te):PS X (.Return (a7 e) pos) (K0 te):=by intro a s b H D I h;exact wpAny_Return_some<|aW (g a s b H _ I h) λv k ⟨x,c,d,j,i⟩=>⟨x,b,c,d,j,i⟩
noncomputable def K2:TS:=λD _ H=>D.rt .non H
theorem K3:PS X (.Return b3 pos) K2:=λ_ _ σ H _ I h=>wpAny_Return_none ⟨.non,σ,H,I,rfl,h⟩
noncomputable def K5(c:TT)(t u:TS):TS:=λD σ H=>c σ H λb a=>if b=b5 then t D σ a else u D σ a
theorem K6(hc:PT X c n)(o:PSs X a t)(p:PSs X b u):PS X (.If c a b pos) (K5 n t u):=by
 intro g s i H D I h;refine wpAny_If<|aW (hc g s i H _ I h) λd m ⟨j,k,l⟩=>?_;cases d with
 |true=>exact o g m i j D k l|false=>exact p g m i j D k l
noncomputable abbrev TG:=V->St->Hp->(St->Hp->Prop)->Prop
noncomputable abbrev o6:=List V->St->Hp->(St->Hp->Prop)->Prop
noncomputable def PG(X:Cx)(a:Expr)(t:TG):Prop:=
 ∀(b1C:jw)(s:ZJ)(σ:St)(H:Hp)(v:V)(u:Value)(Q:St->Hp->Prop),Inv X b1C σ H s->RelV v u->t v σ H Q->
  Z3 (a0d X.prog X.w) X.A (a6u a X.env u) (λ_ b=>SPn X b1C Q b) X.xe s
noncomputable def rC(X:Cx)(b:List Expr)(t:o6):Prop:=
 ∀(b1C:jw)(s:ZJ)(σ:St)(H:Hp)(vs:gw)(us:gq)(Q:St->Hp->Prop),Inv X b1C σ H s->Vals vs us->t vs σ H Q->
  Z3 (a0d X.prog X.w) X.A (a6n ((a2o b X.env).map (·.2)) us) (λ_ a=>SPn X b1C Q a) X.xe s
noncomputable def xZ(i:Nat):TG:=λv σ H Q=>Q (σ.set i<|a7 v) H
theorem CM(c:X.N.Nodup)(hi:X.N[i]?=a7 x)(e:Loc X.env.scope x)(d:X.fn x=b5\/X.env.scope.names.lookup x=a7 .local:=by first|exact .inl rfl|exact .inr rfl|assumption):PG X (.Name x pos) (xZ i):=by intro b s j H v u Q I r h;exact b0c<|t8 I c hi e r (λg a=>⟨_,H,a,h⟩) d
noncomputable def CN:o6:=λvs σ H Q=>vs=[]/\Q σ H
noncomputable def CO(t:TG)(u:o6):o6:=λvs σ H Q=>∃v r,vs=v::r/\t v σ H λa b=>u r a b Q
theorem K7:rC X [] CN:=by intro a s b H d c Q I r h;obtain⟨e,h⟩:=h;subst e;cases r;exact b0f ⟨b,H,I,h⟩
theorem K8(j:PG X e t)(k:rC X b u)(l:(a2o (e::b) X.env).map (·.2)=a6u e X.env::(a2o b X.env).map (·.2):=by rfl):rC X (e::b) (CO t u):=by
 intro a s p H x q Q I r h;obtain⟨v,w,i,h⟩:=h;subst i;cases r with
 |cons r n=>rw[l];refine a6t<|aW (j a s p H _ _ _ I r h) λ_ o ⟨c,d,g,m⟩=>?_;exact k a o c d _ _ Q g n m
noncomputable def CP(b:TE)(g:TG):TS:=λD σ H=>b σ H λx a=>g x σ a D.nx
theorem K9(k:PE X e b)(l:PG X tg g)(m:a6k [tg] e pos.line X.env=pure false:=by rfl)(hw:a3d [tg] e X.env=pure none:=by rfl)(j:(a2o [tg] X.env).map (·.2)=[a6u tg X.env]:=by rfl):PS X (.Assign [tg] e pos) (CP b g):=by
 intro a s c H D I h;refine wpAny_Assign_stores (aW (k a s c H _ I h) λv p ⟨x,d,i,o,n⟩=>?_) m hw;rw[j];exact aW (l a p c d x v _ i o n) λ_ r q=>q
theorem La(k:X.N.Nodup)(hi:X.N[i]?=a7 x)(o:Loc X.env.scope x)(l:PE X e c)(n:a4a e (a7<|.Name x a) pos.line X.env=pure false:=by rfl)(m:X.fn x=b5\/X.env.scope.names.lookup x=a7 .local:=by first|exact .inl rfl|exact .inr rfl|assumption):
  PS X (.Assign [.Name x a] e pos) (CP c<|xZ i):=by
 intro b s r H D I h;refine wpAny_Assign_Name (aW (l b s r H _ I h) λv u ⟨y,d,g,q,p⟩=>?_) n;exact t8 g k hi o q (λw j=>⟨_,d,j,p⟩) m
noncomputable def Lb(i j:Nat)(b:TA):TS:=λD σ H=>b σ H λvs a=>∃v w,vs=[v,w]/\D.nx ((σ.set i<|a7 v).set j<|a7 w) a
theorem Lc{K:TA}{kt k2 pt2}(hc:X.calm=b5)(E:X.N.Nodup)(hi:X.N[i]?=a7 x)(Y:X.N[j]?=a7 y)(m:i≠j)(G:X.env.scope.names.lookup x=a7 .local)(J:X.env.scope.names.lookup y=a7 .local)(U:PA X [a,b] K)(hw:a3d [.Tuple [.Name x r,.Name y py] kt pt] (.Tuple [a,b] k2 pt2) X.env=pure (a7 [x,y]))(Z:a6k [.Tuple [.Name x r,.Name y py] kt pt] (.Tuple [a,b] k2 pt2) pos.line X.env=pure false:=by rfl):
  PS X (.Assign [.Tuple [.Name x r,.Name y py] kt pt] (.Tuple [a,b] k2 pt2) pos) (Lb i j K):=by
 intro l s L H D I h;rw[exec_Assign_arm];refine ZE<|a4X ?_;rw[Z];refine ZE<|ZM ?_;rw[if_neg<|by decide];refine ZE<|Tuple_<|aW (U _ l s L H _ I h) λus d ⟨vs,A,M,r1,u⟩=>?_;obtain⟨v,w,R,u⟩:=u;subst R;obtain⟨g,k,rfl,rv,z⟩:∃g k,us=[g,k]/\RelV v g/\RelV w k:=by
  cases r1 with
  |cons p q=>
   cases q with
   |cons p' q'=>cases q';exact⟨_,_,rfl,p,p'⟩
 refine a1f ?_ (by show 2<=ZX;decide);have N:Inv X l L A {d with heap:=d.heap.push {cls:=.type "tuple",data:=.seq [g,k].toArray}}:=M.kept (t':=d.toks) λb o e=>ZK _ e;rw[hw];refine ZE<|ZM ?_;show Z3 (a0d X.prog X.w) X.A (do rule "assign.swapped-stores";let c <- a9u (.ref d.heap.objs.size) 2 b3;a6n [λv=>a9x X.env y v,λv=>a9x X.env x v] c.reverse;pure a9q) _ _ _;refine ZE<|a5u<|ZE<|unpackItems_tuple (items:=#[g,k]) (I.ok.hd hc) (IsTup.new d.heap _) λT n=>?_;have O:=N.kept (h':=T) (t':=d.toks) λb o e=>n b o (Z6<|ZV e) e;show Z3 _ _ (a6n [λv=>a9x X.env y v,λv=>a9x X.env x v] [k,g] >>= λ_=>pure a9q) _ _ _;refine ZE<|a6t<|b1p<|t8 O E Y (.inl J) z (λs2 Q=>?_)<|.inr J;refine a6t<|b1p<|t8 Q E hi (.inl G) rv (λs3 B=>b0f<|ZM ?_)<|.inr G;rw[List.set_comm _ _<|a0o m]at B;exact⟨_,A,B,u⟩
structure It where
 go:Nat->Hp->Prop
 yld:Nat->Hp->V->Hp->Prop
 stop:Nat->Hp->Prop
noncomputable def iZ(X:Cx)(b1C:jw)(H:Hp)(b:Addr):Prop:=
 H b=b3/\b≠X.env.locals/\b∉X.fs/\(b∈X.ex\/X.s₀.heap.objs.size<=b)/\(∀x c,X.env.cells.lookup x=a7 c->c≠b)/\∀p∈X.pn++b1C,p.1≠b
theorem Inv.fpOk{σ:St}{b:Addr}(I:Inv X b1C σ H s)(a:s.heap.objs.size<=b)(g:d b=b3):iZ X b1C d b:=by
 refine⟨g,a2a<|a0e I.lt a,I.nofs a,.inr<|a0A I.sz a,λx c e z=>?_,λp h z=>?_⟩
 .obtain⟨v,q⟩:=I.cell x c e;exact absurd (a0e q.lt<|by rw[z];exact a)<|a2p _
 .exact absurd (a0e (ZV (I.pin p h).1)<|by rw[z];exact a)<|a2p _
noncomputable abbrev Qc(X:Cx):Prop:=X.calm=b5
structure Turn(q:Cx->Prop)(P:a0j)(w:a0E)(K:ZD)(tg:Expr)(J:It)(fp:List Addr)(it:Addr)(tn:Nat->a1d->Prop):Prop where
 mem:it∈fp
 obj:∀i h,tn i h->∀b∈fp,∃o,h.get? b=a7 o/\∀v,o.data≠.cell v
 keep:∀i h h',tn i h->(∀b∈fp,∀o,h.get? b=a7 o->h'.get? b=a7 o)->tn i h'
 item:∀(X:Cx),X.prog=P->X.w=w->X.K=K->q X->∀(i:Nat)(b1C:jw)(s:ZJ)(σ:St)(H:Hp)(E:Value->ZJ->Prop),Inv X b1C σ H s->(∀b∈fp,iZ X b1C H b)->tn i s.heap->J.go i H->
  Z3 (a0d P w) X.A (a4b<|.ref it) (λr s1=>∃u,r=a7 u /\
   Z3 (a0d P w) X.A (a5A tg (.ref it) u) (λ_ s2=>∃x H',Inv X b1C σ H' s2/\RelV x u/\J.yld i H x H'/\tn (i+1) s2.heap/\∀b∈fp,H' b=b3) E s1) E s
 done:∀(X:Cx),X.prog=P->X.w=w->X.K=K->q X->∀(i:Nat)(b1C:jw)(s:ZJ)(σ:St)(H:Hp)(E:Value->ZJ->Prop),Inv X b1C σ H s->(∀b∈fp,iZ X b1C H b)->tn i s.heap->J.stop i H->
  Z3 (a0d P w) X.A (a4b<|.ref it) (λr s1=>r=b3/\Inv X b1C σ H s1) E s
 self:∀(A:a0y)(i:Nat)(s:ZJ)(Q:Value->ZJ->Prop)(E:Value->ZJ->Prop),tn i s.heap->Q (.ref it) s->Z3 (a0d P w) A (a4Y<|.ref it) Q E s
noncomputable abbrev TI:=St->Hp->(It->Hp->Prop)->Prop
inductive PIEq (q:Cx->Prop)(X:Cx)(b1C:jw)(σ:St)(tg:Expr)(R:It->Hp->Prop)(itv:Value)(s2:ZJ):Prop
 |mk (it:Addr)(fp:List Addr)(tn:Nat->a1d->Prop)(J:It)(H':Hp)(e:itv=.ref it)(I:Inv X b1C σ H' s2)(T:Turn q X.prog X.w X.K tg J fp it tn)(t0:tn 0 s2.heap)(f:∀b∈fp,iZ X b1C H' b)(r:R J H'):PIEq q X b1C σ tg R itv s2
noncomputable abbrev yA:=PIEq Qc
noncomputable def rD(q:Cx->Prop)(X:Cx)(tg iter:Expr)(b:TI):Prop:=
 ∀(b1C:jw)(s:ZJ)(σ:St)(H:Hp)(R:It->Hp->Prop),Inv X b1C σ H s->b σ H R->
  Z3 (a0d X.prog X.w) X.A (eval iter X.env) (λv a=>Z3 (a0d X.prog X.w) X.A (a4Y v) (PIEq q X b1C σ tg R) X.xe a) X.xe s
noncomputable abbrev PI:=rD Qc
theorem o7(d:s.heap.get? b=a7 o)(hc:o.cls=.type n)(hd:o.data=.fields vs)(c:["enumerate","zip","dict_itemiterator","dict_reverseitemiterator","odict_iterator","itertools.zip_longest","itertools.pairwise"].contains n=b4)(a:Q () s):Z3 M A (a5A tg (.ref b) u) Q E s:=by
 unfold a5A
 cases tg<;>first
  | exact ZM a
  | (cases u<;>first
    | exact ZM a
    | (refine ZE<|wpAny_load d ?_
       rw [hc,hd]
       show Z3 M A (if (["enumerate","zip","dict_itemiterator","dict_reverseitemiterator","odict_iterator","itertools.zip_longest","itertools.pairwise"].contains n&&vs[0]? == a7 (a3A _))=b5 then _ else _) Q E s
       rw [if_neg<|by intro h;rw [c,a9L] at h;cases h]
       exact ZM a))
noncomputable def yB (K:ZD)(a:Addr):It:=
 ⟨fun i H=>∃ b x,SqL K H a b/\b[i]? = a7 x,fun i H x c=>c=H/\∀ b,SqL K H a b->b[i]? = a7 x,fun i H=>∃ b,SqL K H a b/\b.length<=i⟩
noncomputable def yC(K:ZD)(a:Addr):It:=
 ⟨λi H=>∃b x,SqT K H a b/\b[i]?=a7 x,λi H x c=>c=H/\∀b,SqT K H a b->b[i]?=a7 x,λi H=>∃b,SqT K H a b/\b.length<=i⟩
noncomputable def lT(lo:Int)(n:Nat):It:=⟨λi _=>i<n,λi H x a=>a=H/\x=.int (lo+i),λi _=>n<=i⟩
theorem Ld{K:ZD}a j:Turn Qc P w K tg (yB K a) [j] j (λi h=>h.IsListIter j a i) where
 mem:=by simp
 obj:=λi h st b g=>by
  have e:b=j:=by simpa using g
  subst e;obtain⟨o,e,c,d⟩:=st;exact⟨o,e,λv z=>by rw[d]at z;cases z⟩
 keep:=λi h n st k=>st.at λo e=>k j (by simp) o e;item:=by intro X M hw L hc i l s T H E I q st N;subst M hw L;obtain⟨xs,x,r,O⟩:=N;obtain⟨Q,R,p,hz⟩:=I.list r;obtain⟨u,Z,ru⟩:=R.get O;obtain⟨y,A,f2,B,G,J⟩:=q j (by simp);refine a8F st p.isList (x:=u) (by simpa using Z) λn m sb=>?_;have U:Inv X l T H {s with heap:=n}:=I.turned (t':=s.toks) (λb o g e=>(sb.2 b g).trans e) y A B G J;obtain⟨o,e,c,d⟩:=id m;exact⟨u,rfl,o7 (s:={s with heap:=n}) e c d (by decide) ⟨x,H,U,ru,⟨rfl,λys hy=>by rw[I.list_inj hy r];exact O⟩,m,λb g=>(q b g).1⟩⟩
 done:=by intro X M hw L hc i l s T H E I q st N;subst M hw L;obtain⟨xs,r,O⟩:=N;obtain⟨Q,R,p,hz⟩:=I.list r;obtain⟨y,A,f2,B,G,J⟩:=q j (by simp);have hl:=R.length;exact a9b (I.ok.hd hc) st p.isList (by simp;lia) λn Y=>⟨rfl,I.turned (t':=s.toks) (λb o g e=>Y b o g e) y A B G J⟩
 self:=λ_ _ _ _ _ st h=>wpAny_pyIter_listiter st h
theorem Le{K:ZD}a j:Turn Qc P w K tg (yC K a) [j] j (λi h=>h.IsTupleIter j a i) where
 mem:=by simp
 obj:=λi h st b g=>by
  have e:b=j:=by simpa using g
  subst e;obtain⟨o,e,c,d⟩:=st;exact⟨o,e,λv z=>by rw[d]at z;cases z⟩
 keep:=λi h q st k=>st.at λo e=>k j (by simp) o e;item:=by intro X N hw M hc i m s T H E I r st O;subst N hw M;obtain⟨xs,x,y,Q⟩:=O;obtain⟨l,R,p,hz⟩:=I.tuple y;obtain⟨u,Z,ru⟩:=R.get Q;obtain⟨A,B,f2,G,J,L⟩:=r j (by simp);refine wpAny_pyNext_tuple_item st (show s.heap.IsTuple a l.toArray from p) (x:=u) (by simpa using Z) λq n sb=>?_;have U:Inv X m T H {s with heap:=q}:=I.turned (t':=s.toks) (λb o g e=>(sb.2 b g).trans e) A B G J L;obtain⟨o,e,c,d⟩:=id n;exact⟨u,rfl,o7 (s:={s with heap:=q}) e c d (by decide) ⟨x,H,U,ru,⟨rfl,λys hy=>by rw[I.tuple_inj hy y];exact Q⟩,n,λb g=>(r b g).1⟩⟩
 done:=by intro X N hw M hc i m s T H E I r st O;subst N hw M;obtain⟨xs,y,Q⟩:=O;obtain⟨l,R,p,hz⟩:=I.tuple y;obtain⟨A,B,f2,G,J,L⟩:=r j (by simp);have hl:=R.length;exact wpAny_pyNext_tuple_end (I.ok.hd hc) st (show s.heap.IsTuple a l.toArray from p) (by simp;lia) λq Y=>⟨rfl,I.turned (t':=s.toks) (λb o g e=>Y b o g e) A B G J L⟩
 self:=λ_ _ _ _ _ st h=>wpAny_pyIter_tupleiter st h
theorem CQ{K:ZD}a lo n:Turn Qc P w K tg (lT lo n) [a] a (λi h=>a4n h a (lo+(i:Nat)*1) ((n:Int)-(i:Nat)) 1) where
 mem:=by simp
 obj:=λi h st b c=>by
  have e:b=a:=by simpa using c
  subst e;exact⟨_,st,λv z=>by
   have O:a0B _=a4Q v:=z;cases O⟩
 keep:=λi h j st k=>k a (by simp) _ st;item:=by intro X y hw x hc i d s G H E I l st A;subst y hw x;obtain⟨m,p,f2,q,r,u⟩:=l a (by simp);have W:=b0g (prog:=X.prog) (w:=X.w) (I.ok.hd hc) a lo 1 n;refine W.item i s _ _ A st λv j B M g N=>?_;obtain⟨t,rfl⟩:=M;have J:Inv X d G H {s with heap:=j,toks:=B}:=I.turned (λb o c e=>N b o (by simpa using c) e) m p q r u;refine⟨_,rfl,o7 (s:={s with heap:=j,toks:=B}) (n:="range_iterator") g rfl rfl (by decide) ⟨.int<|lo+i,H,J,⟨t,?_⟩,⟨rfl,rfl⟩,g,λb c=>(l b c).1⟩⟩;rw[Int.mul_one]
 done:=by intro X y hw x hc i d s G H E I l st A;subst y hw x;obtain⟨m,p,f2,q,r,u⟩:=l a (by simp);exact a8E (I.ok.hd hc) st (by have:n<=i:=A;lia) λj L=>⟨rfl,I.turned (t':=s.toks) (λb o c e=>L b o c e) m p q r u⟩
 self:=λ_ _ _ _ _ st h=>a8G st h
theorem CS(tr:∀c lo n,Turn q X.prog X.w X.K tg (lT lo n) [c] c λi h=>a4n h c (lo+(i:Nat)*1) ((n:Int)-(i:Nat)) 1){σ:St}{lo:Int}(I:Inv X b1C σ H s)(j:-(2^62)<=lo)(k:lo<2^62)(l:-(2^62)<=hi)(m:hi<2^62)(p:R (lT lo (hi-lo).toNat) H):Z3 (a0d X.prog X.w) X.A (a4Y<|.ref s.heap.objs.size) (PIEq q X b1C σ tg R) E {s with heap:=s.heap.push {cls:=.type "range",data:=.fields #[.int lo t,.int hi u,.int 1 v]},toks:=tk}:=by
 refine a9P (a9I ..) (small_one j k l m) ?_;have a:Inv X b1C σ H {s with heap:=s.heap.push {cls:=.type "range",data:=.fields #[.int lo t,.int hi u,.int 1 v]},toks:=tk}:=I.kept λb o e=>ZK _ e;refine⟨(s.heap.push {cls:=.type "range",data:=.fields #[.int lo t,.int hi u,.int 1 v]}).objs.size,[(s.heap.push {cls:=.type "range",data:=.fields #[.int lo t,.int hi u,.int 1 v]}).objs.size],_,_,H,rfl,
  a.kept (t':=tk) λb o e=>ZK _ e,tr _ lo (hi-lo).toNat,?_,λb r=>?_,p⟩
 .have d:lo+((0:Nat):Int)*1=lo:=by simp
  have g:(((hi-lo).toNat:Nat):Int)-((0:Nat):Int)=a0O lo hi 1:=by rw[rangeSize_one];split<;>lia
  show a4n _ _ (lo+((0:Nat):Int)*1) ((((hi-lo).toNat:Nat):Int)-((0:Nat):Int)) 1;rw[d,g];exact ZW _ rfl
 .have e:b=(s.heap.push {cls:=.type "range",data:=.fields #[.int lo t,.int hi u,.int 1 v]}).objs.size:=by simpa using r
  subst e;exact a.fpOk (ZN _)<|a.hok.fresh<|ZN _
noncomputable def Lf(b:TA):TI:=λσ H R=>b σ H λvs a=>∃j:Int,vs=[.int j]/\-(2^62)<=j/\j<2^62/\R (lT 0 j.toNat) a
noncomputable def Lg(b:TA):TI:=λσ H R=>b σ H λvs a=>∃i j:Int,vs=[.int i,.int j]/\(-(2^62)<=i/\i<2^62/\-(2^62)<=j/\j<2^62)/\R (lT i (j-i).toNat) a
theorem Lh(tr:∀c lo n,Turn q X.prog X.w X.K tg (lT lo n) [c] c λi h=>a4n h c (lo+(i:Nat)*1) ((n:Int)-(i:Nat)) 1)(m:Gl X "range")(o:X.mg "range"=b3)(l:PA X [a] g)(u:a0h [a] X.env=[(b4,eval a X.env)]:=by rfl):rD q X tg (.Call (.Name "range" p) [a] [] pos) (Lf g):=by
 intro b s z H R I h;refine b1B<|jQ I m o a9V<|a1s (aW (l pos b s z H _ I h) λE B ⟨G,A,k,x,d⟩=>?_) u rfl;obtain⟨j,e,d,v,w⟩:=d;subst e;cases x with
 |cons r y=>cases y;obtain⟨t,rfl⟩:=r;exact call_range_1<|CS tr k (by lia) (by lia) d v<|by simpa using w
theorem Li(o:Gl X "range")(u:X.mg "range"=b3)(n:PA X [a,b] l)(v:a0h [a,b] X.env=[(b4,eval a X.env),(b4,eval b X.env)]:=by rfl)(c:a0h [b] X.env=[(b4,eval b X.env)]:=by rfl):
  PI X tg (.Call (.Name "range" p) [a,b] [] pos) (Lg l):=by
 intro d s B H R I h;refine b1B (jQ I o u a9V<|a1s (aW (n pos d s B H _ I h) λK G ⟨L,E,m,A,g⟩=>?_) (by rw[v,c])<|by rw[c];rfl);obtain⟨i,j,e,⟨g,w,x,y⟩,q⟩:=g;subst e;cases A with
 |cons r k=>
  cases k with
  |cons z k=>cases k;obtain⟨t,rfl⟩:=r;obtain⟨J,rfl⟩:=z;exact call_range_2<|CS CQ m g w x y q
noncomputable def Lj(k:TI)(g:TG)(j:TS):TS:=λD σ H=>k σ H λJ e=>∃W:Nat->Nat->St->Hp->Prop,(∃m,W 0 m σ e)/\∀i m σ H,W i m σ H->
 (J.stop i H/\D.nx σ H)\/(J.go i H/\∃N:St->Hp->Prop,(∀b a,N b a->∃d,d<m/\W (i+1) d b a)/\∀x a,J.yld i H x a->g x σ a λc h=>j {D with nx:=N,ct:=N,bk:=D.nx} c h)
noncomputable def rF(a:List Addr)(h:a1d):jw:=a.filterMap λb=>(h.get? b).map λo=>(b,o)
theorem uA(c:b∈a)(e:h.get? b=a7 o):(b,o)∈rF a h:=a3y.mpr ⟨b,c,by rw[e];rfl⟩
theorem Lk(g:p∈rF a h):p.1∈a/\h.get? p.1=a7 p.2:=by
 obtain⟨b,d,e⟩:=a3y.mp g;cases q:h.get? b with
 |none=>rw[q]at e;cases e|some o=>rw[q]at e;have c:(b,o)=p:=Z0 e;subst c;exact⟨d,q⟩
theorem Inv.pinned{σ:St}(I:Inv X b1C σ H s)(j:∀b∈a,iZ X b1C H b)(k:∀b∈a,∃o,s.heap.get? b=a7 o/\∀v,o.data≠.cell v):Inv X (b1C++rF a s.heap) σ H s:=
 I.pins_of λp l=>(a0M.mp l).elim (λz=>I.pin p<|a1l _ z) λz=>by obtain⟨g,e⟩:=Lk z;obtain⟨h,i,f2,_⟩:=j p.1 g;obtain⟨o,c,d⟩:=k p.1 g;rw[e]at c;cases c;exact⟨e,h,i,f2,d⟩
theorem Inv.unpinned{σ:St}(I:Inv X (b1C++pl) σ H s):Inv X b1C σ H s:=I.pins_of λp a=>I.pin p<|a1l _<|a3U _ a
theorem Ll(K:b0z (a0d X.prog X.w) X.A X.env X.xe)(hc:X.calm=b5)(hi:PI X tg iter wi)(hg:PG X tg g)(p:PSs X body tb)(hs:∀x,a3p iter X.env x=pure x:=by intro _;rfl):PS X (.For tg iter body [] pos) (Lj wi g tb):=by
 intro c s σ H D I h;refine wpAny_For (aW (hi c s σ H _ I h) λv s1 h1=>aW h1 λitv s2 h2=>?_) hs;obtain⟨it,E,tn,J,H2,e,I2,T,st2,f2,W,⟨m0,w0⟩,turn⟩:=h2;subst e
  -- what stays b5 of the iterator's objects through the loop
 have q:∀{z:Hp},(∀b∈E,z b=b3)->∀b∈E,iZ X c z b:=λhn b p=>⟨hn b p,(f2 b p).2⟩;refine codeAny_forLoop_any (λn s'=>∃i w z,Inv X c w z s'/\tn i s'.heap/\(∀b∈E,z b=b3)/\W i n w z) ?_ m0 ⟨0,σ,H2,I2,st2,λb p=>(f2 b p).1,w0⟩;rintro n s3 ⟨i,y,Q,I3,M,G,w3⟩;rcases turn i n y Q w3 with⟨O,qn⟩|⟨go,N,hN,step⟩
 .refine a4s K<|aW (T.done X rfl rfl rfl hc i c s3 y Q X.xe I3 (q G) M O) λr s4 ⟨Y,I4⟩=>?_;subst Y;exact a7o ⟨y,Q,I4,qn⟩
 .refine a4s K<|aW (T.item X rfl rfl rfl hc i c s3 y Q X.xe I3 (q G) M go) λr s4 ⟨u,Y,h4⟩=>?_;subst Y;refine a4s K<|aW h4 λ_ s5 ⟨x,H5,I5,r5,y5,B,U⟩=>?_;have R:=I5.pinned (q U)<|T.obj _ _ B;refine a4s K<|aW (hg _ s5 y H5 x u _ R r5<|step x H5 y5) λ_ s6 ⟨σ6,H6,I6,q6⟩=>?_;refine a4s K<|aW (p _ s6 σ6 H6 _ I6 q6) λf Z A=>?_;have l:∀{a:St}{j:Hp},Inv X (c++rF E s5.heap) a j Z->N a j->∃m,m<n/\∃i w z,Inv X c w z Z/\tn i Z.heap/\(∀b∈E,z b=b3)/\W i m w z:=λ{a j} k L=>by obtain⟨m',hm,w7⟩:=hN a j L;refine⟨m',hm,i+1,a,j,k.unpinned,T.keep _ _ _ B λb p o e=>(k.pin (b,o)<|a1l _<|a1l _<|uA p e).1,λb p=>?_,w7⟩;obtain⟨o,e,d⟩:=T.obj _ _ B b p;exact(k.pin (b,o)<|a1l _<|a1l _<|uA p e).2.1
  cases f with
  |next=>obtain⟨a,j,k,L⟩:=A;exact l k L|cont=>obtain⟨a,j,k,L⟩:=A;exact l k L|brk=>obtain⟨a,j,k,A⟩:=A;exact⟨a,j,k.unpinned,A⟩|ret v=>obtain⟨x7,a,j,k,r7,A⟩:=A;exact⟨x7,a,j,k.unpinned,r7,A⟩
noncomputable abbrev R2:=V->V->Hp->VK->Prop
noncomputable def OpR(X:Cx)(f:Value->Value->a9e Value)(r:R2):Prop:=
 ∀(b1C:jw)(s:ZJ)(σ:St)(H:Hp)(x y:V)(v u:Value)(Q:VK),Inv X b1C σ H s->RelV x v->RelV y u->r x y H Q->
  Z3 (a0d X.prog X.w) X.A (f v u) (EP X b1C σ Q) X.xe s
noncomputable def yD(X:Cx)(f:Value->a9e Value)(r:V->Hp->VK->Prop):Prop:=
 ∀(b1C:jw)(s:ZJ)(σ:St)(H:Hp)(x:V)(v:Value)(Q:VK),Inv X b1C σ H s->RelV x v->r x H Q->
  Z3 (a0d X.prog X.w) X.A (f v) (EP X b1C σ Q) X.xe s
noncomputable def CallR(X:Cx)(f:Value)(r:gw->Hp->VK->Prop):Prop:=
 ∀(b1C:jw)(s:ZJ)(σ:St)(H:Hp)(xs:gw)(us:gq)(Q:VK),Inv X b1C σ H s->Vals xs us->r xs H Q->
  Z3 (a0d X.prog X.w) X.A (call f us) (EP X b1C σ Q) X.xe s
noncomputable def Lm(X:Cx)(r:V->Hp->(Bool->Hp->Prop)->Prop):Prop:=
 ∀(b1C:jw)(s:ZJ)(σ:St)(H:Hp)(x:V)(v:Value)(Q:Bool->Hp->Prop),Inv X b1C σ H s->RelV x v->r x H Q->
  Z3 (a0d X.prog X.w) X.A (truthy v) (TP X b1C σ Q) X.xe s
noncomputable def rG(r:R2)(c d:TE):TE:=λσ H Q=>c σ H λx a=>d σ a λy b=>r x y b Q
noncomputable def Lo(r:V->Hp->VK->Prop)(b:TE):TE:=λσ H Q=>b σ H λx a=>r x a Q
noncomputable def rI(C:Int->Int->Prop)(g:Int->Int->V):R2:=λx y H Q=>∃i j,x=.int i/\y=.int j/\C i j/\Q (g i j) H
noncomputable def iJ(g:Int->Int->V):R2:=λx y H Q=>∃i j,x=.int i/\y=.int j/\Q (g i j) H
noncomputable def rU(g:Int->V):V->Hp->VK->Prop:=λx H Q=>∃i,x=.int i/\Q (g i) H
theorem yE(m:PE X a ta)(n:PE X b tb){σ:St}{R:V->V->Hp->Prop}(I:Inv X b1C σ H s)(h:ta σ H λx j=>tb σ j λy d=>R x y d){f:Value->Value->a9e Value}(o:∀v u i x y d,Inv X b1C σ d i->RelV x v->RelV y u->R x y d->Z3 (a0d X.prog X.w) X.A (f v u) Q X.xe i):
  Z3 (a0d X.prog X.w) X.A (eval a X.env) (λv e=>Z3 (a0d X.prog X.w) X.A (eval b X.env) (λu g=>Z3 (a0d X.prog X.w) X.A (f v u) Q X.xe g) X.xe e) X.xe s:=by
 refine aW (m b1C s σ H _ I h) λv z ⟨x,j,k,r,p⟩=>?_;refine aW (n b1C z σ j _ k p) λu i ⟨y,d,l,w,q⟩=>?_;exact o v u i x y d l r w q
theorem Lp(k:OpR X (a3v op) r)(i:PE X a ta)(j:PE X b tb):PE X (.BinOp a op b pos) (rG r ta tb):=by intro d s o H Q I h;exact wpAny_BinOp<|yE i j I h λv u n x y e g l m q=>k d n o e x y v u Q g l m q
theorem Lq(k:yD X (unaryOp op) r)(j:PE X a ta):PE X (.UnaryOp op a pos) (Lo r ta):=by intro d s e H Q I h;exact UnaryOp_<|aW (j d s e H _ I h) λv n ⟨x,g,i,m,l⟩=>k d n e g x v Q i m l
theorem uB{g:Int->Int->Int}(d:∀i j t u s Q E,C i j->Q (.int (g i j) s.toks) {s with toks:=s.toks+1}->Z3 (a0d X.prog X.w) X.A (f (.int i t)<|.int j u) Q E s):
  OpR X f (rI C λi j=>.int<|g i j):=by
 intro e s n H x y v u Q I k l h;obtain⟨i,j,rfl,rfl,hc,q⟩:=h;obtain⟨t,rfl⟩:=k;obtain⟨m,rfl⟩:=l;exact d i j t m s _ _ hc ⟨.int<|g i j,H,I.tok _,⟨_,rfl⟩,q⟩
theorem CT{g:Int->Int->Int}(d:∀i j t u s Q E,Q (.int (g i j) s.toks) {s with toks:=s.toks+1}->Z3 (a0d X.prog X.w) X.A (f (.int i t)<|.int j u) Q E s):
  OpR X f (iJ λi j=>.int<|g i j):=by
 intro e s n H x y v u Q I k l h;obtain⟨i,j,rfl,rfl,q⟩:=h;obtain⟨t,rfl⟩:=k;obtain⟨m,rfl⟩:=l;exact d i j t m s _ _ ⟨.int<|g i j,H,I.tok _,⟨_,rfl⟩,q⟩
theorem uC{g:Int->Int->Bool}(d:∀i j t u s Q E,Q (.bool<|g i j) s->Z3 (a0d X.prog X.w) X.A (f (.int i t)<|.int j u) Q E s):
  OpR X f (iJ λi j=>.bl<|g i j):=by
 intro e s n H x y v u Q I k l h;obtain⟨i,j,rfl,rfl,q⟩:=h;obtain⟨t,rfl⟩:=k;obtain⟨m,rfl⟩:=l;exact d i j t m s _ _ ⟨.bl<|g i j,H,I,rfl,q⟩
noncomputable def Lr(i j:Int):Prop:=0<=j/\j<=1000000/\i.natAbs<2^64
noncomputable def CMul(i j:Int):Prop:=(-(2^64)<i/\i<2^64)\/(-(2^64)<j/\j<2^64)
theorem CMul.ok(h:CMul i j):a9E i j:=by
 rcases h with⟨d,e⟩|⟨d,e⟩
 .exact .of_left<|intBits_le_64 d e
 .exact .of_right<|intBits_le_64 d e
theorem op_add:OpR X (a3v .Add) (iJ λi j=>.int<|i+j):=CT λ_ _ _ _ _ _ _ q=>add_int q
theorem Lu:OpR X (a3v .Sub) (iJ λi j=>.int<|i-j):=CT λ_ _ _ _ _ _ _ q=>sub_int q
theorem Lv:OpR X (a3v .Mod) (rI (λ_ j=>0<j) λi j=>.int<|i%j):=uB λi j _ _ _ _ _ hc q=>by have d:(0:Int)<j:=hc;exact mod_int' (by lia)<|by rw[Int.fmod_eq_emod_of_nonneg i<|by lia];exact q
theorem uD{g:Int->Int}(d:∀i t s Q E,Q (.int (g i) s.toks) {s with toks:=s.toks+1}->Z3 (a0d X.prog X.w) X.A (f<|.int i t) Q E s):
  yD X f (rU λi=>.int<|g i):=by
 intro e s k H x v Q I j h;obtain⟨i,rfl,q⟩:=h;obtain⟨t,rfl⟩:=j;exact d i t s _ _ ⟨.int<|g i,H,I.tok _,⟨_,rfl⟩,q⟩
theorem Lx:yD X (unaryOp .USub) (rU λi=>.int<|-i):=uD λ_ _ _ _ _ q=>neg_int q
theorem nL{σ:St}(I:Inv X b1C σ H s)(q:Q (.bl k) H)(e:k=k'):EP X b1C σ Q (.bool k') s:=by subst e;exact⟨.bl k,H,I,rfl,q⟩
theorem yF:OpR X (a0Z .Lt) (iJ λi j=>.bl<|decide<|i<j):=uC λ_ _ _ _ _ _ _ q=>lt_int q
theorem yG:OpR X (a0Z .LtE) (iJ λi j=>.bl<|decide<|i<=j):=uC λ_ _ _ _ _ _ _ q=>le_int q
theorem yH:OpR X (a0Z .Gt) (iJ λi j=>.bl<|decide<|j<i):=uC λ_ _ _ _ _ _ _ q=>gt_int q
theorem yI:OpR X (a0Z .GtE) (iJ λi j=>.bl<|decide<|j<=i):=uC λ_ _ _ _ _ _ _ q=>ge_int q
theorem CU:OpR X (a0Z .In) (λx y H Q=>∃i j,x=.str i/\y=.str j/\Q (.bl<|!(a1u j i 0 j.length 1).isEmpty) H):=by intro d s l H x y v u Q I e g h;obtain⟨i,j,rfl,rfl,q⟩:=h;obtain⟨t,rfl⟩:=e;obtain⟨k,rfl⟩:=g;exact in_str<|nL I q rfl
theorem CV:OpR X (a0Z .Is) (λx y H Q=>y=.non/\Q (.bl<|decide<|x=.non) H):=by
 intro e s i H x y v u Q I d g h;obtain⟨rfl,q⟩:=h;cases g;refine is_none_gen<|nL I q ?_;cases x<;>first
  |(cases d;rfl)|(obtain⟨t,rfl⟩:=d;rfl)
theorem CW:OpR X (a0Z .IsNot) (λx y H Q=>y=.non/\Q (.bl<|!decide (x=.non)) H):=by
 intro e s i H x y v u Q I d g h;obtain⟨rfl,q⟩:=h;cases g;refine isnot_none_gen<|nL I q ?_;cases x<;>first
  |(cases d;rfl)|(obtain⟨t,rfl⟩:=d;rfl)
theorem OpR.or(h:OpR X f r)(h':OpR X f e):OpR X f (λx y H Q=>r x y H Q\/e x y H Q):=by
 intro d s j H x y v u Q I g i q;rcases q with q|q
 .exact h d s j H x y v u Q I g i q
 .exact h' d s j H x y v u Q I g i q
theorem eD b(h:op≠.In:=by decide)(g:op≠.NotIn:=by decide):a3e op b=false:=by
 have d:(op==CmpOp.In)=false:=by cases op<;>first|rfl|exact absurd rfl h
 have e:(op==CmpOp.NotIn)=false:=by cases op<;>first|rfl|exact absurd rfl g
 cases b<;>simp[a3e,d,e]
theorem Lz(l:OpR X (a0Z op) r)(i:PE X a ta)(j:PE X b tb)(k:a3e op b=b4):PE X (.Compare a [op] [b] pos) (rG r ta tb):=by intro d s p H Q I h;exact wpAny_Compare1 (yE i j I h λv u o x y e g m n q=>l d o p e x y v u Q g m n q) k
noncomputable def CY(t:TE):TT:=λσ H Q=>t σ H λx d=>∃k,x=.bl k/\Q k d
theorem LA(A:OpR X (a0Z op) r)(p:PE X a ta)(q:PE X b tb)(w:a3e op b=b4):PT X (.Compare a [op] [b] pos) (CY<|rG r ta tb):=by
 intro d s g H Q I h;refine wpAny_isTrue_Compare1 (aW (p d s g H _ I h) λv M ⟨x,i,m,J,B⟩=>aW (q d M g i _ m B) λu N ⟨y,j,n,K,E⟩=>
  aW (A d N g j x y v u _ n J K E) λc O ⟨z,l,o,L,k,e,G⟩=>?_) w
 subst e;cases L;exact a1K ⟨l,o,G⟩
noncomputable def yJ(r i:R2)(ta tb tc:TE):TE:=λσ H Q=>ta σ H λx e=>tb σ e λy g=>r x y g λz d=>∃k,z=.bl k /\
 (if k=b5 then tc σ d λj h=>i y j h Q else Q (.bl b4) d)
theorem LB(N:OpR X (a0Z op) r)(l:OpR X (a0Z i) p)(K:PE X a ta)(L:PE X b tb)(hc:PE X c tc)(M:b0t [op,i] [b,c]=false:=by with_unfolding_all rfl):PE X (.Compare a [op,i] [b,c] pos) (yJ r p ta tb tc):=by
 intro g s j H Q I h;refine Compare_chain (aW (K g s j H _ I h) λv s1 ⟨x,w,E,U,O⟩=>chain_link<|aW (L g s1 j w _ E O) λu s2 ⟨y,A,G,q,R⟩=>
  aW (N g s2 j A x y v u _ G U q R) λd s3 ⟨z,m,n,Y,k,e,o⟩=>?_) M
 subst e;cases Y;refine a1K ?_;cases k with
 |false=>exact ite_ff ⟨.bl b4,m,n,rfl,o⟩|true=>exact ite_tt<|chain_last<|aW (hc g s3 j m _ n o) λw' s4 ⟨z',B,J,Z,T⟩=>l g s4 j B y z' u w' Q J q Z T
theorem LC(U:OpR X (a0Z op) r)(l:OpR X (a0Z i) p)(O:PE X a ta)(R:PE X b tb)(hc:PE X c tc)(T:b0t [op,i] [b,c]=false:=by with_unfolding_all rfl):PT X (.Compare a [op,i] [b,c] pos) (CY<|yJ r p ta tb tc):=by
 intro g s j H Q I h;refine isTrue_chain (aW (O g s j H _ I h) λv s1 ⟨x,w,G,r1,Z⟩=>test_link<|aW (R g s1 j w _ G Z) λu s2 ⟨y,A,J,q,q2⟩=>
  aW (U g s2 j A x y v u _ J r1 q q2) λd s3 ⟨z,m,n,r3,k,e,o⟩=>?_) T
 subst e;cases r3;refine a1K ?_;cases k with
 |false=>obtain⟨k',M,Y⟩:=o;cases M;exact ite_ff ⟨m,n,Y⟩|true=>refine ite_tt<|test_last<|aW (hc g s3 j m _ n o) λw' s4 ⟨z',B,K,r4,q4⟩=>aW (l g s4 j B y z' u w' _ K q r4 q4) λd' s5 ⟨z2,E,L,r5,k2,N,q5⟩=>?_;subst N;cases r5;exact a1K ⟨E,L,q5⟩
noncomputable def yK(K:ZD)(x:V)(H:Hp)(k:Bool):Prop:=
 match x with
 |.non=>k=b4|.bl b=>k=b|.int i=>k=(i != 0)|.str y=>y.length<=ZX/\k=((y.length:Int) != 0)|.byt y=>y.size<=ZX/\k=((y.size:Int) != 0)|.ref p=>(∃e,SqL K H p e/\k=!e.isEmpty)\/(∃e,SqT K H p e/\k=!e.isEmpty)\/∃d,H p=a7 (.dK d)/\k=!d.isEmpty|_=>False
theorem LF{kvs:List (κ×V)}{vs:List (κ×Value)}(r:KV kvs vs):(!vs.isEmpty)=!kvs.isEmpty:=by cases r<;>rfl
theorem CZ(r:Vals xs its):(!its.toArray.isEmpty)=!xs.isEmpty:=by cases r<;>simp
theorem o8:(ZX:Nat)<2^63:=by rw[a0n];decide
theorem LG:Lm X (λx H Q=>∃k,yK X.K x H k/\Q k H):=by
 intro B s L H x v Q I n h;obtain⟨k,e,q⟩:=h;have J:=o8;have K:ZX=16777216:=a0n;cases x with
 |non=>cases n;have d:k=false:=e;subst d;exact truthy_none ⟨H,I,q⟩|bl b=>cases n;have d:k=b:=e;subst d;exact a1K ⟨H,I,q⟩|int i=>obtain⟨t,rfl⟩:=n;have d:k=(i != 0):=e;subst d;exact PySem.P.truthy_int ⟨H,I,q⟩|str y=>obtain⟨t,rfl⟩:=n;obtain⟨G,d⟩:y.length<=ZX/\k=((y.length:Int) != 0):=e;subst d;exact PySem.P.truthy_str (by lia) ⟨H,I.tok _,q⟩|byt y=>obtain⟨t,rfl⟩:=n;obtain⟨G,d⟩:y.size<=ZX/\k=((y.size:Int) != 0):=e;subst d;exact PySem.W.truthy_bytes (by lia) ⟨H,I.tok _,q⟩|ref p=>
  cases n;have d:(∃l,SqL X.K H p l/\k=!l.isEmpty)\/(∃l,SqT X.K H p l/\k=!l.isEmpty)\/∃g,H p=a7 (.dK g)/\k=!g.isEmpty:=e;rcases d with⟨l,o,d⟩|⟨l,o,d⟩|⟨g,o,d⟩
  .subst d;obtain⟨w,r,z,A⟩:=I.list o;have j:=r.length;exact wpAny_truthy_list z.isList (by simp only[Z9];lia) ⟨H,I.tok _,by rw[CZ r];exact q⟩
  .subst d;obtain⟨w,r,z,A⟩:=I.tuple o;have j:=r.length;exact truthy_tuple z (by simp only[Z9];lia) ⟨H,I.tok _,by rw[CZ r];exact q⟩
  .subst d;obtain⟨A,E,u,r,m⟩:g.length<=ZX/\(p==a1t)=b4/\∃u,KV g u/\s.heap.DictOf (rA X.prog X.w) p u:=I.hok p _ o;have j:g.length=u.length:=a6R r;exact wpAny_truthy_dict E m (by lia) ⟨H,I.tok _,by rw[LF r];exact q⟩
 |_=>exact(show False from e).elim
theorem LH(m:PE X a ta)(n:∀d,a8K a X.env d=(do let v <- d;a7y a.pos;holding [v] (truthy v))):
  PT X a (λg H Q=>ta g H λx i=>∃k,yK X.K x i k/\Q k i):=by
 intro e s g H Q I h;exact isTrue_plain (aW (m e s g H _ I h) λv q ⟨x,j,l,p,o⟩=>LG e q g j x v Q l p o)<|n _
theorem op_add_str:OpR X (a3v .Add) (λx y H Q=>∃i j,x=.str i/\y=.str j/\i.length+j.length<=ZX/\Q (.str<|i++j) H):=by intro d s n H x y v u Q I g k h;obtain⟨i,j,rfl,rfl,e,q⟩:=h;obtain⟨t,rfl⟩:=g;obtain⟨l,rfl⟩:=k;exact add_str (λl m=>⟨.str<|i++j,H,I.tok _,⟨_,rfl⟩,q⟩) e
theorem fP(r:Vals [x] us):∃u,us=[u]/\RelV x u:=by
 cases r with
 |cons d e=>cases e;exact⟨_,rfl,d⟩
theorem uE(r:Vals [x,y] us):∃u d,us=[u,d]/\RelV x u/\RelV y d:=by
 cases r with
 |cons e g=>
  cases g with
  |cons h i=>cases i;exact⟨_,_,rfl,e,h⟩
theorem LI(hc:X.calm=b5):CallR X (.builtin "max") (λxs H Q=>∃i j,xs=[.int i,.int j]/\Q (.int<|if j>i then j else i) H):=by
 intro e s p H xs n Q I r h;obtain⟨i,j,rfl,q⟩:=h;obtain⟨u,o,rfl,⟨t,rfl⟩,⟨l,rfl⟩⟩:=uE r;refine max_two_ints (I.ok.hd hc) λg m k=>⟨_,H,I.kept k,?_,q⟩;by_cases d:j>i
 .rw[if_pos d,if_pos d];exact⟨_,rfl⟩
 .rw[if_neg d,if_neg d];exact⟨_,rfl⟩
theorem LJ(hc:X.calm=b5):CallR X (.builtin "min") (λxs H Q=>∃i j,xs=[.int i,.int j]/\Q (.int<|if j<i then j else i) H):=by
 intro e s p H xs n Q I r h;obtain⟨i,j,rfl,q⟩:=h;obtain⟨u,o,rfl,⟨t,rfl⟩,⟨l,rfl⟩⟩:=uE r;refine min_two_ints (I.ok.hd hc) λg m k=>⟨_,H,I.kept k,?_,q⟩;by_cases d:j<i
 .rw[if_pos d,if_pos d];exact⟨_,rfl⟩
 .rw[if_neg d,if_neg d];exact⟨_,rfl⟩
structure ObjM(h:a1d)(x dx C:Addr)(mA:Str->Option Value):Prop where
 obj:h.get? x=a7 (a2w C dx)
 ns:h.Ns1 dx mA
 ne:dx≠x
theorem LK{h:a1d}(n:h.Ns1 c g):∃i,h.get? c=a7 i/\∀name,a5a name i=a7 (g name):=by
 obtain⟨o,d,r,m,hd,k,_,l⟩:=n;refine⟨o,m,λname=>?_⟩;have e:=l name;unfold nsFind findBy at e;rw[<- Array.find?_toList]at e;unfold a5a;rw[hd];dsimp only;split
 .rename_i y q;rw[q]at e;exact congrArg a7 e
 .rename_i q;rw[q]at e;have a:d.toList.any (·.refKey)=false:=by rw[a5X];intro y p;obtain⟨z,t,b⟩:=k y<|Array.mem_toList_iff.mp p;simp[DictEntry.refKey,b]
  have j:¬ d.toList.any (·.refKey)=true:=by rw[a];exact a0a
  rw[if_neg j];exact congrArg a7 e
theorem ObjM.look(I:ObjM h x b C c):∃a,PySem.W.InstAt h x (a2w C b) C (a7 a)/\∀name,a5a name a=a7 (c name):=
 let⟨a,e,d⟩:=LK I.ns
 ⟨a,⟨I.obj,rfl,rfl,e⟩,d⟩
theorem LL{K:ZD}(X:K.In s.heap)(I:ObjM s.heap x dx C mA)(d:a3J K C name=b5)(e:a4q K C=b5)(c:a1k K (.ref C) name=a7 b3)(i:mA name=a7 v)(b:a8m v=b5)(h:Q v {s with toks:=s.toks+1}):
  Z3 (a0d prog w) A (getAttr (.ref x) name a) Q E s:=by
 obtain⟨j,J,g⟩:=I.look;exact PySem.W.get_value X J (a5l d).1 (PySem.W.findObj_own e c rfl<|by rw[g,i]) b h
theorem LM{K:ZD}(X:K.In s.heap)(I:ObjM s.heap x dx C mA)(a:a3J K C name=b5)(b:a1k K (.ref C) name=a7 (a7<|.ref f))(d:a5F K (.ref f)=b5)(e:mA name=b3)(h:Q (.ref f,[.ref x]) s):
  Z3 (a0d prog w) A (a6Y (.ref x) name pl) Q E s:=by
 obtain⟨g,J,c⟩:=I.look;exact PySem.W.method_fn X J (a5l a).1 (a5l a).2 b (beq_iff_eq.mp d) (by show(a5a name g).map (·.isSome)=a7 b4;rw[c,e];rfl) h
theorem LN{K:ZD}(X:K.In s.heap)(I:ObjM s.heap x dx C mA)(o:a1k K (.ref C) "__setattr__"=a7 (a7<|.builtin "object.__setattr__"))(n:a5D K C=b5)(p:a6e K C name=a7 b3)(m:a4q K C=b5)(hw:a7s mA ns)(hsz:ns.length<=ZX)(h:∀d,ObjM d x dx C (λy=>if y=name then a7 v else mA y)->a2n dx s.heap d->Q () {s with heap:=d,toks:=s.toks+2}):
  Z3 (a0d prog w) A (setAttr (.ref x) name v) Q E s:=by
 obtain⟨B,J,u⟩:=I.look;refine PySem.W.set_plain X J o<|PySem.W.osa_open (s:={s with toks:=s.toks+1}) (r:=b3) X J n p λb=>?_;obtain⟨r,hc,g⟩:=PySem.W.any_some m;have q:s.heap.get? x=a7 ⟨.ref C,a7 dx,.plain,#[]⟩:=I.obj;refine ZE<|ZM<|ZE<|ZE<|wpAny_loadPart q<|ZE<|b0y (s:={s with toks:=s.toks+1}) (PySem.W.looks_clsIn X hc) ?_;rw[g];refine ZM (a:=a7 dx)<|ZE<|ZM<|ZE ?_;refine wpAny_nsSet1 (s:={s with toks:=s.toks+1}) I.ns λd a c=>?_;obtain⟨z,l,k,j,i,e⟩:=a.count<|b0O name v hw;refine ZE (wpAny_lookBehind j (by rw[i];exact pastItsLine_dict<|a0A e<|by rw[Z8];lia) ?_);exact ZM<|h _ ⟨(c.2 _<|a0o I.ne).trans I.obj,a,I.ne⟩ c
theorem LO{s:ZJ}{K:ZD}{vs:gq}(X:K.In s.heap)(e:a6f K C=b5)(hi:a1k K (.ref C) "__init__"=a7 (a7<|.ref f))(c:PySem.W.typeIn K (.ref f)=a7 (.type "function"))(h:a3G (a0d prog w) (A.under<|.builtin "type.__call__" ⟨.ref C::vs,b⟩) (.call (.ref f) ⟨.ref (s.heap.objs.size+1)::vs,b⟩) (PySem.W.InitBack (s.heap.objs.size+1) R)
   {s with heap:=(s.heap.push a1O).push<|a2w C s.heap.objs.size}):
  a3G (a0d prog w) A (.call (.ref C) ⟨vs,b⟩) R s:=by
 obtain⟨i,g,d,t,j⟩:=s;exact PySem.W.make_core (PySem.W.makes_of X e) (PySem.W.looks_findIn X hi) (λa=>PySem.W.bind_fn X a c) (.inl rfl) h
noncomputable def eU(f:Str)(v:V):List (Str×V)->List (Str×V)
 |[]=>[(f,v)]|(g,x)::r=>if g=f then(g,v)::r else(g,x)::eU f v r
theorem C0 f g v:∀fs,(eU f v fs).lookup g=if g=f then a7 v else fs.lookup g
 |[]=>by
  show a2b g [(f,v)]=_;by_cases h:g=f
  .have a:(g==f)=true:=beq_iff_eq.mpr h;simp only[a2b,a,if_pos h]
  .have a:(g==f)=false:=beq_eq_false_iff_ne.mpr h;simp only[a2b,a,if_neg h]
 |(k,x)::r=>by
  have c:=C0 f g v r;rw[show eU f v ((k,x)::r)=(if k=f then(k,v)::r else(k,x)::eU f v r)from rfl];by_cases b:k=f
  .rw[if_pos b];by_cases h:g=k
   .have a:(g==k)=true:=beq_iff_eq.mpr h;simp only[a2b,a,if_pos<|h.trans b]
   .have a:(g==k)=false:=beq_eq_false_iff_ne.mpr h;simp only[a2b,a,if_neg λe:g=f=>h<|e.trans b.symm]
  .rw[if_neg b];by_cases h:g=k
   .have a:(g==k)=true:=beq_iff_eq.mpr h;simp only[a2b,a,if_neg λe:g=f=>b<|h.symm.trans e]
   .have a:(g==k)=false:=beq_eq_false_iff_ne.mpr h;simp only[a2b,a];exact c
theorem yL f v:∀fs,f∈(eU f v fs).map (·.1)/\∀g,g∈fs.map (·.1)->g∈(eU f v fs).map (·.1)
 |[]=>⟨by simp[eU],λg h=>by simp at h⟩|(k,x)::r=>by
  obtain⟨b,c⟩:=yL f v r;rw[show eU f v ((k,x)::r)=(if k=f then(k,v)::r else(k,x)::eU f v r)from rfl];by_cases a:k=f
  .rw[if_pos a];subst a;exact⟨by simp,λg h=>by simpa using h⟩
  .rw[if_neg a];refine⟨?_,λg h=>?_⟩
   .rw[ZR];exact Z2 _ b
   .rw[ZR]at h ⊢;rcases a0g.mp h with e|e
    .exact a0g.mpr<|.inl e
    .exact Z2 _<|c g e
theorem C1 f v:∀fs,(eU f v fs).length<=fs.length+1
 |[]=>by simp[eU]
 |(k,x)::r=>by
  have b:=C1 f v r;rw[show eU f v ((k,x)::r)=(if k=f then(k,v)::r else(k,x)::eU f v r)from rfl];by_cases a:k=f
  .rw[if_pos a,Z8,Z8];lia
  .rw[if_neg a,Z8,Z8];lia
theorem RelO.some_of(r:RelO (a7 v) o):∃u,o=a7 u/\RelV v u:=by
 cases o with
 |none=>exact(show False from r).elim|some u=>exact⟨u,rfl,r⟩
theorem RelO.none_of(r:RelO b3 o):o=none:=by
 cases o with
 |none=>rfl|some u=>exact(show False from r).elim
theorem LP(r:RelV v u):a8m u=true:=by
 cases v with
 |non=>cases(show u=a0T from r);rfl|bl b=>cases(show u=a1v b from r);rfl|int i=>obtain⟨t,e⟩:=(show ∃t,u=a1y i t from r);cases e;rfl|str x=>obtain⟨t,e⟩:=(show ∃t,u=a6b x t from r);cases e;rfl|byt b=>obtain⟨t,e⟩:=(show ∃t,u=b0j b t from r);cases e;rfl|flt b=>obtain⟨t,e⟩:=(show ∃t,u=b0i b t from r);cases e;rfl|ref a=>cases(show u=ZZ a from r);rfl|ty n=>cases(show u=a0b n from r);rfl
theorem yM(c:HOk P w H h)(e:H a=a7 (.ins C dx fs)):∃b,ObjM h a dx C b/\(∀f,RelO (fs.lookup f) (b f))/\a7s b (fs.map (·.1))/\fs.length<=1000/\H dx=a7 (.own a):=by obtain⟨d,z,ne,g,b,n,r,q⟩:=(show ObjOk P w H h a (.ins C dx fs)from c a _ e);exact⟨b,⟨g,n,ne⟩,r,q,z,d⟩
structure Cls(K:ZD)(C:Addr):Prop where
 pg:a3J K C Str.empty=b5
 hd:a4q K C=b5
 po:a5D K C=b5
 sa:a1k K (.ref C) "__setattr__"=a7 (a7<|.builtin "object.__setattr__")
theorem Cls.get{K:ZD}(c:Cls K C)f:a3J K C f=true:=c.pg
noncomputable def NoAttr(K:ZD)(C:Addr)(f:Str):Prop:=a1k K (.ref C) f=a7 b3
theorem NoAttr.taker{K:ZD}(n:NoAttr K C f):a6e K C f=a7 none:=by unfold a6e;rw[show a1k K (.ref C) f=a7 b3 from n];rfl
structure Con(K:ZD)(C:Addr)(f:Str)(v:V)(u:Value):Prop where
 at_:a1k K (.ref C) f=a7 (a7 u)
 rel:RelV v u
 get:a7Y K u "__get__"=a7 b3
 cp:PySem.W.copiedNames.contains f=b4
structure Meth(K:ZD)(C:Addr)(m:Str)(f:Addr):Prop where
 at_:a1k K (.ref C) m=a7 (a7<|.ref f)
 fn:a5F K (.ref f)=b5
 kp:a1z K (.ref f)=b5
theorem LQ{σ:St}(I:Inv X b1C σ H s)(e:H a=a7 (.ins C dx fs))(c:Cls X.K C)(n:NoAttr X.K C f)(l:fs.lookup f=a7 v)(h:∀u g,Inv X b1C σ H g->RelV v u->Q u g):Z3 (a0d X.prog X.w) A (getAttr (.ref a) f b) Q E s:=by
 obtain⟨j,O,r,_,_,_⟩:=yM I.hok e;obtain⟨u,i,d⟩:=RelO.some_of (v:=v) (o:=j f) (by rw[<- l];exact r f);exact LL I.kIn O (c.get f) c.hd n i (LP d)<|h u _ (I.tok _) d
theorem C2{σ:St}(I:Inv X b1C σ H s)(e:H a=a7 (.ins C dx fs))(c:Cls X.K C)(k:Meth X.K C m g)(l:fs.lookup m=b3)(h:Q (.ref g,[.ref a]) s):Z3 (a0d X.prog X.w) A (a6Y (.ref a) m pl) Q E s:=by
 obtain⟨d,O,r,_,_,_⟩:=yM I.hok e;have b:d m=none:=RelO.none_of (by rw[<- l];exact r m);exact LM I.kIn O (c.get m) k.at_ k.fn b h
theorem LR{σ:St}(I:Inv X b1C σ H s)(e:H a=a7 (.ins C dx fs))(c:Cls X.K C)(n:NoAttr X.K C f)(K:fs.length<1000)(G:RelV y u)(h:∀k,Inv X b1C σ (aP H a<|.ins C dx<|eU f y fs) k->Q () k):Z3 (a0d X.prog X.w) A (setAttr (.ref a) f u) Q E s:=by
 obtain⟨j,O,r,l,_,i⟩:=yM I.hok e;have B:(fs.map (·.1)).length<=ZX:=by rw[ZF,a0n];lia
 refine LN I.kIn O c.sa c.po n.taker c.hd l B λp d J=>h _ ?_;have hd:∃o,p.get? dx=a7 o:=let⟨o,_,_,m,_⟩:=d.ns;⟨o,m⟩;refine I.write (x:=a) (e:=dx) (by rw[e];exact a3f) (.inr i) (λb q w z=>(J.2 b w).trans z) hd ?_;refine⟨by rw[bN O.ne];exact i,?_,O.ne,d.obj,_,d.ns,λg=>?_,λg x=>?_⟩
 .have:=C1 f y fs;lia
 .show RelO ((eU f y fs).lookup g) (if g=f then a7 u else j g);rw[C0];by_cases q:g=f
  .rw[if_pos q,if_pos q];exact G
  .rw[if_neg q,if_neg q];exact r g
 .by_cases q:g=f
  .rw[q];exact(yL f y fs).1
  .refine(yL f y fs).2 g<|l g λz=>x ?_;show(if g=f then a7 u else j g)=b3;rw[if_neg q];exact z
theorem Inv.made{σ:St}(I:Inv X b1C σ H s):Inv X b1C σ (aP (aP H s.heap.objs.size<|.own<|s.heap.objs.size+1) (s.heap.objs.size+1)<|.ins C s.heap.objs.size [])
  {s with heap:=(s.heap.push a1O).push<|a2w C s.heap.objs.size}:=by
 have c:(s.heap.push a1O).get? s.heap.objs.size=a7 a1O:=ZW s.heap rfl;have g:((s.heap.push a1O).push<|a2w C s.heap.objs.size).get? (s.heap.objs.size+1)=a7 (a2w C s.heap.objs.size):=by have:=ZW (s.heap.push a1O) (o:=a2w C s.heap.objs.size) rfl;rwa [a4r]at this
 have h:(s.heap.push a1O).Ns s.heap.objs.size (λ_=>b3):=⟨a1O,#[],_,c,rfl,(λe i=>absurd i<|by simp),λ_=>rfl⟩;have d:=I.laid (a:=s.heap.objs.size) (o:=.own (s.heap.objs.size+1)) (h':=s.heap.push a1O) (t':=s.toks) (λb u q=>ZK _ q) (ZN _) ⟨_,c⟩;refine d.laid (a:=s.heap.objs.size+1) (o:=.ins C s.heap.objs.size []) (t':=s.toks) (λb u q=>ZK _ q) (a4m<|a4r _ _) ?_;have ne:s.heap.objs.size≠s.heap.objs.size+1:=Z6<|a1C _;refine⟨by rw[bN ne,dD],a0I _,ne,g,λ_=>b3,(Heap.Ns1.of_empty h).at λo q=>ZK _ q,λ_=>a3f,λy j=>absurd rfl j⟩
theorem LS(c:a2N e f env (eval e env)=eval e env)(h:Z3 (a0d prog w) A (eval e env) (λo b=>Z3 (a0d prog w) A (getAttr o f b5) Q E b) E s):Z3 (a0d prog w) A (eval (.Attribute e f pos) env) Q E s:=
 Attribute_any_ h<|by rw[arm_eval_Attribute,c]
noncomputable def LU(K:ZD)(d:TE)(f:Str):TE:=λσ H Q=>d σ H λx b=>∃a C c fs v,x=.ref a/\b a=a7 (.ins C c fs)/\Cls K C/\NoAttr K C f/\fs.lookup f=a7 v/\Q v b
noncomputable def LV(K:ZD)(e g:TE)(f:Str):TS:=λD σ H=>g σ H λy d=>e σ d λx b=>∃a C c fs,x=.ref a/\b a=a7 (.ins C c fs)/\Cls K C/\NoAttr K C f/\fs.length<1000 /\
 D.nx σ (aP b a<|.ins C c<|eU f y fs)
theorem LW(p:PE X e ta)(m:a2N e f X.env (eval e X.env)=eval e X.env):PE X (.Attribute e f pos) (LU X.K ta f):=by intro b s y H Q I h;refine LS m<|aW (p b s y H _ I h) λu A ⟨x,d,g,w,a,C,z,fs,v,k,j,c,n,l,q⟩=>?_;subst k;obtain rfl:u=ZZ a:=w;exact LQ g j c n l λE B i r=>⟨v,d,i,r,q⟩
theorem LX(r:PE X o ta)(w:PE X value tv)(v:a4a value (a7<|.Attribute o f pos') pos.line X.env=pure b4):PS X (.Assign [.Attribute o f pos'] value pos) (LV X.K ta tv f):=by intro b s d H D I h;refine plainObj_wpAny_Assign_Attribute (aW (w b s d H _ I h) λu G ⟨y,g,i,E,q⟩=>aW (r b G d g _ i q) λz L ⟨x,J,j,B,a,C,K,fs,p,m,c,n,l,A⟩=>?_) v;subst p;obtain rfl:z=ZZ a:=B;exact LR j m c n l E λM k=>⟨d,_,k,A⟩
section
variable{X:Cx}{b1C:jw}{σ:St}{H:Hp}{s:ZJ}{A:a0y}{E:Value->ZJ->Prop}{Q:Value->ZJ->Prop}{c:Value}{b:Bool}
inductive TyOf (K:ZD)(H:Hp):V->Value->Prop where
 |non:TyOf K H .non<|.type "NoneType"
 |bl (x:Bool):TyOf K H (.bl x)<|.type "bool"
 |int (i:Int):TyOf K H (.int i)<|.type "int"
 |str (x:Str):TyOf K H (.str x)<|.type "str"
 |flt (x:UInt64):TyOf K H (.flt x)<|.type "float"
 |lst {a:Addr}{xs:gw}(e:H a=a7 (.lst xs)):TyOf K H (.ref a)<|.type "list"
 |frz {a:Addr}{o:Obj}{xs:gw}(e:H a=a7 (.frz o<|.lst xs)):TyOf K H (.ref a)<|.type "list"
 |tup {a:Addr}{xs:gw}(e:H a=a7 (.tup xs)):TyOf K H (.ref a)<|.type "tuple"
 |dK {a:Addr}{kvs:List (cH×V)}(e:H a=a7 (.dK kvs)):TyOf K H (.ref a)<|.type "dict"
 |dT {a:Addr}{kvs:List (List cH×V)}(e:H a=a7 (.dT kvs)):TyOf K H (.ref a)<|.type "dict"
 |ins {a C dx:Addr}{fs:List (Str×V)}(e:H a=a7 (.ins C dx fs))(cl:Cls K C)(ha:a1k K (.ref C) "__class__"=a7 (a7<|.builtin "object.__class__"))
   (hn:a7Y K (.builtin "object.__class__") "__get__"=a7 (a7<|.builtin "getset_descriptor.__get__")) (htk:PySem.W.takesIn K (.builtin "object.__class__")=a7 b5)
   (hm:PySem.W.mroIn K C (.type "object")=a7 b5):TyOf K H (.ref a)<|.ref C
end
structure Room(k:Nat)(A:a0y):Prop where
 hd:A.handled=b3
 dp:A.depth+3*k+5<b1s
 un:A.units+16*k+200<a1W
theorem Room.deeper(r:Room (k+1) A)env:Room k (A.deeper env):=
 ⟨r.hd,by have:=r.dp;show A.depth+1+3*k+5<_;lia,by have:=r.un;show A.units+3+16*k+200<_;lia⟩
theorem LY{A:a0y}{us:gq}:(A.under<|.builtin "type.__call__" ⟨.ref C::us,a⟩).depth=A.depth+1:=by first|rfl|simp[a7n,Code.weight,Code.isCreation,Code.isGuard,Code.isCaller,b0F,a7D,guardIds]
theorem LZ{A:a0y}{us:gq}:(A.under<|.builtin "type.__call__" ⟨.ref C::us,a⟩).units=A.units+1:=by first|rfl|simp[a7n,Code.cUnits,b0F,a7D]
theorem Room.make(r:Room (k+1) A)C(us:gq)a:Room k (A.under<|.builtin "type.__call__" ⟨.ref C::us,a⟩):=
 ⟨r.hd,by have:=r.dp;rw[LY];lia,by have:=r.un;rw[LZ];lia⟩
theorem Room.depth(r:Room k A):A.depth<b1s:=by have:=r.dp;lia
theorem Room.units(r:Room k A):A.units+64<a1W:=by have:=r.un;lia
noncomputable def uF:TA:=λ_ H Q=>Q [] H
noncomputable def C3(c:TE)(tr:TA):TA:=λσ H Q=>c σ H λx a=>tr σ a λxs b=>Q (x::xs) b
theorem C4:PA X [] uF:=λ_ _ _ _ H Q I h=>a8D ⟨[],H,I,.nil,h⟩
theorem C5(j:PE X e te)(k:PA X es t)(l:a0h (e::es) X.env=(b4,eval e X.env)::a0h es X.env:=by rfl):PA X (e::es) (C3 te t):=by intro pos a s b H Q I h;rw[l];show Z3 _ _ (spliced<|(b4,eval e X.env)::a1U pos (a0h es X.env)) _ _ s;refine a8t<|aW (j a s b H _ I h) λu q ⟨x,c,g,o,m⟩=>?_;exact aW (k pos a q b c _ g m) λw v ⟨r,d,i,p,n⟩=>⟨x::r,d,i,.cons o p,n⟩
noncomputable def L0(t:TA):TE:=λσ H Q=>t σ H λxs a=>xs.length<=ZX/\∀p,a p=b3->Q (.ref p) (aP a p<|.tup xs)
noncomputable def L4(t:TA):TE:=λσ H Q=>t σ H λxs a=>xs.length<=ZX/\∀p,a p=b3->Q (.ref p) (aP a p<|.lst xs)
theorem L5{x1}(h:PA X es t):PE X (.Tuple es x1 pos) (L0 t):=by intro c s m H Q I j;refine wpAny_Tuple_spliced (aW (h pos c s m H _ I j) λk a ⟨l,d,g,r,z,q⟩=>⟨by rw[<- r.length];exact z,?_⟩);have i:d a.heap.objs.size=none:=g.hok.fresh<|ZN _;refine⟨.ref a.heap.objs.size,aP d a.heap.objs.size<|.tup l,g.laid (t':=a.toks) (λb u e=>ZK _ e) (ZN _) ?_,rfl,q _ i⟩;exact⟨z,k,r,⟨_,ZW _ rfl,rfl,_,rfl,rfl⟩⟩
theorem L6(h:PA X es t):PE X (.List es pos) (L4 t):=by intro c s m H Q I j;refine wpAny_List_spliced (aW (h pos c s m H _ I j) λk a ⟨l,d,g,r,z,q⟩=>⟨by rw[<- r.length];exact z,?_⟩);have i:d a.heap.objs.size=none:=g.hok.fresh<|ZN _;refine⟨.ref a.heap.objs.size,aP d a.heap.objs.size<|.lst l,g.laid (t':=a.toks) (λb u e=>ZK _ e) (ZN _) ?_,rfl,q _ i⟩;exact⟨z,k,0,r,ZW _ rfl⟩
noncomputable abbrev Sp:=List V->Hp->VK->XK->Prop
noncomputable abbrev j9:=List a5t->Hp->ZJ->XK->Value->ZJ->Prop
structure Env0(P:a0j)(w:a0E)(K:ZD)(mg:Str->Option Value)(base:a1d)(A:a0y)(outer:List a5t)(s:ZJ)(H:Hp):Prop where
 frames:A.frames=a7 outer
 mod:Mod K mg base
 bs:∀b o,base.get? b=a7 o->s.heap.get? b=a7 o/\H b=b3
 bsz:base.objs.size<=s.heap.objs.size
 funs:s.heap.FunFrames base outer
 frf:∀b∈iY outer,H b=b3
 hok:HOk P w H s.heap
 bare:a6a s.gens
inductive CE (outer:List a5t)(P:a0j)(w:a0E)(H:Hp)(s:ZJ)(Q:VK)(u:Value)(s':ZJ):Prop
 |mk (v:V)(H':Hp)(o:s'.os=s.os)(b:a6a s'.gens)(n:Un (iY outer) [] H H' s.heap s'.heap)(k:HOk P w H' s'.heap)(r:RelV v u)(q:Q v H'):CE outer P w H s Q u s'
noncomputable def CR(CX:j9)(outer:List a5t)(P:a0j)(w:a0E)(H:Hp)(s:ZJ)(Q:VK)(E:XK)(r:a7a)(a:ZJ):Prop:=
 match r with
 |.ok (.ret u)=>CE outer P w H s Q u a|.ok _=>False|.error e=>CX outer H s E e a
structure FnOk(P:a0j)(w:a0E)(K:ZD)(mg:Str->Option Value)(base:a1d)(CX:j9)(k:Nat)(f:Addr)(fd:a1Y)(ps:List Str)(sp:Sp):Prop where
 len:∀vs H Q E,sp vs H Q E->vs.length=ps.length
 run:∀(A:a0y)(outer:List a5t)(s:ZJ)(H:Hp)(args:Args)(us:gq)(vs:gw)(Q:VK)(E:XK),Room k A->Env0 P w K mg base A outer s H->a6P s fd args (ps.zip us)->Vals vs us->sp vs H Q E->
  a3G (a0d P w) A (.call (.ref f) args) (CR CX outer P w H s Q E) s
theorem Env0.make{K:ZD}(e:Env0 P w K a base A outer s H)C(us:gq)b:
  Env0 P w K a base (A.under<|.builtin "type.__call__" ⟨.ref C::us,b⟩) outer s H:=⟨by first|exact e.frames|(simpa[a7n,Code.envs,a7D,pushEnvs]using e.frames),e.mod,e.bs,e.bsz,e.funs,e.frf,e.hok,e.bare⟩
theorem Inv.env0{σ:St}(I:Inv X b1C σ H s):Env0 X.prog X.w X.K X.mg X.base X.A X.stack s H:=
 ⟨I.ok.frames,I.ok.mod,I.bs,a0A I.ok.bsz I.sz,I.stack,I.stkFree,I.hok,I.bare⟩
theorem Inv.after{σ:St}(I:Inv X b1C σ H s)(h:CE X.stack X.prog X.w H s Q u s'):EP X b1C σ Q u s':=by obtain⟨v,i,k,a,un,c,r,q⟩:=h;obtain⟨j,g,d,t,e⟩:=s';obtain rfl:e=s.os:=k;exact⟨v,i,I.call (h':=j) (g':=g) (d':=d) (t':=t) (ch:=[]) un c a λb z=>absurd z<|by simp,r,q⟩
noncomputable def yN(sp:Sp)(a:gw)(E:XK)(t:TA):TE:=λσ H Q=>t σ H λvs b=>sp (vs++a) b Q E
noncomputable def yO(C:Addr)(m:Str)(sp:Sp)(b:gw)(E:XK)(g:TE)(t:TA):TE:=λσ H Q=>g σ H λx c=>∃a e fs,x=.ref a/\c a=a7 (.ins C e fs)/\fs.lookup m=b3 /\
 t σ c λh d=>sp (x::(h++b)) d Q E
noncomputable def C6(C:Addr)(sp:Sp)(c:gw)(E:XK)(t:TA):TE:=λσ H Q=>t σ H λvs b=>∀x a,b x=b3->b a=b3->a≠x->
 sp (.ref x::(vs++c)) (aP (aP b a<|.own x) x<|.ins C a []) (λv d=>v=.non/\Q (.ref x) d) E
noncomputable def Binds(K:ZD)(a:a1Y)(ps:List Str)(ds:gq):Prop:=
 ∀(s:ZJ)(us:gq),K.In s.heap->(us++ds).length=ps.length->a6P s a ⟨us,[]⟩ (ps.zip<|us++ds)
theorem Binds.all{K:ZD}(h:∀us:gq,us.length=ps.length->a7M a ⟨us,[]⟩=pure (ps.zip us)):Binds K a ps []:=λs us _ b=>by rw[a0p]at b ⊢;exact .of_eq<|h us b
noncomputable def lU(CX:j9)(X:Cx)(E:XK):Prop:=∀(b1C:jw)(σ:St)(H:Hp)(s:ZJ)(e:Value)(a:ZJ),Inv X b1C σ H s->CX X.stack H s E e a->X.xe e a
section
variable{X:Cx}{CX:j9}{k:Nat}{f C:Addr}{fd:a1Y}{ps:List Str}{sp:Sp}{dvs:gw}{ds:gq}{E:XK}{x m:Str}{p pos apos:a1p}{e o:Expr}{es:List Expr}{ta:TE}{t:TA}
theorem uG{σ:St}(F:FnOk X.prog X.w X.K X.mg X.base CX k f fd ps sp)(i:Room k X.A)(d:Binds X.K fd ps ds)(hd:Vals dvs ds)(j:lU CX X E)(I:Inv X b1C σ H s)(r:Vals vs us)(h:sp (vs++dvs) H Q E):Z3 (a0d X.prog X.w) X.A (call (.ref f) us) (EP X b1C σ Q) X.xe s:=by
 have b:Vals (vs++dvs) (us++ds):=r.append hd;have g:(us++ds).length=ps.length:=by rw[<- b.length];exact F.len _ _ _ _ h
 refine wpAny_call<|a6I (F.run X.A X.stack s H ⟨us,[]⟩ (us++ds) (vs++dvs) Q E i I.env0 (d s us I.kIn g) b h) λr l a=>?_;cases r with
 |error e=>exact j b1C σ H s e l I a|ok c=>
  cases c with
  |ret u=>exact I.after a|next=>exact a1L a|brk=>exact a1L a|cont=>exact a1L a
theorem L9(F:FnOk X.prog X.w X.K X.mg X.base CX k f fd ps sp)(v:Room k X.A)(l:Gl X x)(u:X.mg x=a7 (.ref f))(n:a1z X.K (.ref f)=b5)(i:Binds X.K fd ps ds)(hd:Vals dvs ds)(w:lU CX X E)
  (g:PA X (e::es) t)(b:(x==("__debug__":Str))=false:=by decide) (j:a0h (e::es) X.env=(b4,eval e X.env)::a0h es X.env:=by rfl)(c:(a1U pos<|a0h es X.env).any (·.1)=false:=by rfl) :
  PE X (.Call (.Name x p) (e::es) [] pos) (yN sp dvs E t):=by
 intro a s y H Q I h;refine a2c<|t9 I l u ?_ b;refine a5x (h₀:=X.base) I.ok.mod.kin n (aW (g pos a s y H _ I h) λB A ⟨G,z,d,r,q⟩=>⟨d.kIn,?_⟩) j c;exact uG F v i hd w d r q
theorem Ma(F:FnOk X.prog X.w X.K X.mg X.base CX k f fd ps sp)(j:Room k X.A)(d:Gl X x)(i:X.mg x=a7 (.ref f))(g:a1z X.K (.ref f)=b5)(c:Binds X.K fd ps ds)(hd:Vals dvs ds)(l:lU CX X E)
  (a:(x==("__debug__":Str))=false:=by decide):PE X (.Call (.Name x p) [] [] pos) (yN sp dvs E uF):=by
 intro b s n H Q I h;refine a2c<|t9 I d i ?_ a;exact a7A I.kIn g<|uG (us:=[]) F j c hd l I .nil h
theorem Mb(J:PE X o ta)(c:Cls X.K C)(n:Meth X.K C m f)(F:FnOk X.prog X.w X.K X.mg X.base CX k f fd ps sp)(K:Room k X.A)(G:Binds X.K fd ps ds)(hd:Vals dvs ds)(M:lU CX X E)(B:PA X (e::es) t)(g:a0h (e::es) X.env=(b4,eval e X.env)::a0h es X.env:=by rfl)(d:(a1U pos<|a0h es X.env).any (·.1)=false:=by rfl)(L:eval (.Call (.Attribute o m apos) (e::es) [] pos) X.env=(do
   let v <- eval o X.env
   a7y apos.atName
   let (f,first) <- holding [v] (a6Y v m pl)
   b1x pos f first (a1U pos<|a0h (e::es) X.env) (a3C pos<|a2v [] X.env)):=by rfl):
  PE X (.Call (.Attribute o m apos) (e::es) [] pos) (yO C m sp dvs E ta t):=by
 intro b s w H Q I h
 refine a7h (pl:=pl) (aW (J b s w H _ I h) fun u R ⟨x,y,i,O,a,Z,fs,A,z,l,q⟩=>?_) L
 subst A
 obtain rfl:u=ZZ a:=O
 refine C2 i z c n l ?_
 refine a5x (first:=[.ref a]) (h₀:=X.base) I.ok.mod.kin n.kp (aW (B pos b R w y _ i q) fun T s2 ⟨U,Y,j,r,N⟩=>⟨j.kIn,?_⟩) g d
 exact uG (us:=.ref a::T) (vs:=.ref a::U) F K G hd M j (.cons rfl r) N
theorem Mc(v:PE X o ta)(c:Cls X.K C)(g:Meth X.K C m f)(F:FnOk X.prog X.w X.K X.mg X.base CX k f fd ps sp)(w:Room k X.A)(r:Binds X.K fd ps ds)(hd:Vals dvs ds)(z:lU CX X E)(y:eval (.Call (.Attribute o m apos) [] [] pos) X.env=(do
   let i <- eval o X.env
   a7y apos.atName
   let (f,first) <- holding [i] (a6Y i m pl)
   b1x pos f first (a1U pos<|a0h [] X.env) (a3C pos<|a2v [] X.env)):=by rfl):
  PE X (.Call (.Attribute o m apos) [] [] pos) (yO C m sp dvs E ta uF):=by
 intro d s B H Q I h
 refine a7h (pl:=pl) (aW (v d s B H _ I h) fun u K ⟨x,G,b,A,a,J,fs,n,j,l,q⟩=>?_) y
 subst n
 obtain rfl:u=ZZ a:=A
 refine C2 b j c g l ?_
 exact a7A (first:=[.ref a]) b.kIn g.kp<|uG (us:=[.ref a]) (vs:=[.ref a]) F w r hd z b (.cons rfl .nil) q
structure Mk(K:ZD)(C f:Addr):Prop where
 makes:a6f K C=b5
 init:a1k K (.ref C) "__init__"=a7 (a7<|.ref f)
 fn:a5F K (.ref f)=b5
 kp:a1z K (.ref C)=b5
theorem Md{σ:St}(M:Mk X.K C f)(F:FnOk X.prog X.w X.K X.mg X.base CX k f fd ps sp)(z:Room (k+1) X.A)(w:Binds X.K fd ps ds)(hd:Vals dvs ds)(A:lU CX X E)(I:Inv X b1C σ H s)(r:Vals vs us)(h:∀x c,H x=b3->H c=b3->c≠x->sp (.ref x::(vs++dvs)) (aP (aP H c<|.own x) x<|.ins C c []) (λv j=>v=.non/\Q (.ref x) j) E):
  Z3 (a0d X.prog X.w) X.A (call (.ref C) us) (EP X b1C σ Q) X.xe s:=by
 have d:=h (s.heap.objs.size+1) s.heap.objs.size (I.hok.fresh<|a2D _) (I.hok.fresh<|ZN _)<|Z6<|a1C _;have b:=Inv.made (C:=C) I;have g:Vals (V.ref (s.heap.objs.size+1)::(vs++dvs)) (ZZ (s.heap.objs.size+1)::(us++ds)):=.cons rfl<|r.append hd;have y:(ZZ (s.heap.objs.size+1)::us++ds).length=ps.length:=by have e:=g.length;rw[F.len _ _ _ _ d]at e;exact e.symm
 refine wpAny_call<|LO (f:=f) I.kIn M.makes M.init (beq_iff_eq.mp M.fn)<|a6I (F.run _ X.stack _ _ ⟨ZZ (s.heap.objs.size+1)::us,[]⟩ (ZZ (s.heap.objs.size+1)::(us++ds)) _ _ E (z.make C us [])
  (b.env0.make C us []) (w _ (ZZ (s.heap.objs.size+1)::us) b.kIn y) g d) λr J a=>?_
 cases r with
 |error e=>exact A b1C σ _ _ e J b a|ok q=>
  cases q with
  |ret u=>obtain⟨v,i,l,G,n,B⟩:=b.after a;subst n;exact⟨G,⟨V.ref<|s.heap.objs.size+1,i,l,rfl,B⟩⟩|next=>exact a1L a|brk=>exact a1L a|cont=>exact a1L a
theorem Me(M:Mk X.K C f)(F:FnOk X.prog X.w X.K X.mg X.base CX k f fd ps sp)(u:Room (k+1) X.A)(l:Gl X x)(n:X.mg x=a7 (.ref C))(i:Binds X.K fd ps ds)(hd:Vals dvs ds)(v:lU CX X E)
  (g:PA X (e::es) t)(b:(x==("__debug__":Str))=false:=by decide) (j:a0h (e::es) X.env=(b4,eval e X.env)::a0h es X.env:=by rfl)(c:(a1U pos<|a0h es X.env).any (·.1)=false:=by rfl) :
  PE X (.Call (.Name x p) (e::es) [] pos) (C6 C sp dvs E t):=by
 intro a s w H Q I h;refine a2c<|t9 I l n ?_ b;refine a5x (h₀:=X.base) I.ok.mod.kin M.kp (aW (g pos a s w H _ I h) λA z ⟨B,y,d,r,q⟩=>⟨d.kIn,?_⟩) j c;exact Md M F u i hd v d r q
end
noncomputable def PK(X:Cx)(a:List a3b)(t:TA):Prop:=
 ∀(pos:a1p)(b1C:jw)(s:ZJ)(σ:St)(H:Hp)(Q:gw->Hp->Prop),Inv X b1C σ H s->t σ H Q->Z3 (a0d X.prog X.w) X.A (evalAll<|(a3C pos<|a2v a X.env).map (·.2)) (AP X b1C σ Q) X.xe s
section
variable{X:Cx}{CX:j9}{k:Nat}{f C:Addr}{fd:a1Y}{ps ks:List Str}{sp:Sp}{E:XK}{x m:Str}{p pos apos kpos:a1p}{e o:Expr}{es:List Expr}{kws:List a3b}{te ta:TE}{t tk:TA}{nm:Option Str}
theorem Mf:PK X [] uF:=λ_ _ _ _ H Q I h=>wpAny_evalAll_nil ⟨[],H,I,.nil,h⟩
theorem Mg(j:PE X e te)(l:PK X kws t):PK X (⟨nm,e,kpos⟩::kws) (C3 te t):=by intro pos a s b H Q I h;show Z3 _ _ (evalAll<|(do let v <- eval e X.env;a7y pos;pure v)::(a3C pos<|a2v kws X.env).map (·.2)) _ _ s;refine wpAny_evalAll_cons<|ZE<|aW (j a s b H _ I h) λu y ⟨x,c,g,r,n⟩=>ZE<|a4X<|ZM ?_;exact aW (l pos a y b c _ g n) λB A ⟨z,d,i,w,q⟩=>⟨x::z,d,i,.cons r w,q⟩
structure KBinds(K:ZD)(fd:a1Y)(ps ks:List Str)(g:gq->gq->gq)(gV:gw->gw->gw):Prop where
 to:∀(s:ZJ)(us ws:gq),K.In s.heap->(g us ws).length=ps.length->a6P s fd ⟨us,ks.zip ws⟩ (ps.zip<|g us ws)
 rel:∀{vs:gw}{us:gq}{zs:gw}{ws:gq},Vals vs us->Vals zs ws->Vals (gV vs zs) (g us ws)
variable{g:gq->gq->gq}{gV:gw->gw->gw}
end
structure FnScope(N P:List Str)(sc:a2y):Prop where
 kind:sc.kind=.function
 co:sc.isCoroutine=b4
 gen:sc.isGenerator=b4
 nd:N.Nodup
 pre:N.take P.length=P
 par:∀x∈P,sc.names.lookup x=a7 .local\/sc.names.lookup x=a7 .cell
 nofree:∀y∈sc.names,y.2≠.free
theorem C7{kindOf:Str->Option a2H}:∀{a}{m},(∀v,(x,v)∉a)->a8y kindOf a m x=m x
 |[],_,_=>rfl|(n,v)::r,m,h=>by
  unfold a8y;rw[C7 λw hw=>h w<|Z2 _ hw];split
  .have:x≠n:=by rintro rfl;exact h v a0l
   simp[this]
  .rfl
theorem C8{kindOf:Str->Option a2H}:∀{a}{m},(∀v,(x,v)∉a)->a8z kindOf a m x=m x
 |[],_,_=>rfl|(n,v)::r,m,h=>by
  unfold a8z;rw[C8 λw hw=>h w<|Z2 _ hw];split
  .rfl
  .have:x≠n:=by rintro rfl;exact h v a0l
   simp[this]
theorem C9{kindOf:Str->Option a2H}:∀{P:List Str}{vs:gq}{i:Nat}{m},P.Nodup->P[i]?=a7 x->vs[i]?=a7 v->kindOf x=a7 .local->
  a8y kindOf (P.zip vs) m x=a7 v
 |[],_,_,_,_,h,_,_=>by simp at h
 |_::_,[],_,_,_,_,h,_=>by simp at h
 |p::P,w::vs,0,m,nd,h1,h2,hk=>by simp at h1 h2;subst h1;subst h2;show a8y kindOf ((p,w)::P.zip vs) m p=_;unfold a8y;rw[C7 λv a=>(a1m.mp nd).1 (a6y a).1,if_pos hk];simp
 |p::P,w::vs,i+1,m,nd,h1,h2,hk=>by show a8y kindOf ((p,w)::P.zip vs) m x=_;unfold a8y;exact C9 (i:=i) (a1m.mp nd).2 (by simpa using h1) (by simpa using h2) hk
theorem Dd{kindOf:Str->Option a2H}:∀{P:List Str}{vs:gq}{i:Nat}{m},P.Nodup->P[i]?=a7 x->vs[i]?=a7 v->kindOf x≠a7 .local->
  a8z kindOf (P.zip vs) m x=a7 v
 |[],_,_,_,_,h,_,_=>by simp at h
 |_::_,[],_,_,_,_,h,_=>by simp at h
 |p::P,w::vs,0,m,nd,h1,h2,hk=>by simp at h1 h2;subst h1;subst h2;show a8z kindOf ((p,w)::P.zip vs) m p=_;unfold a8z;rw[C8 λv a=>(a1m.mp nd).1 (a6y a).1,if_neg hk];simp
 |p::P,w::vs,i+1,m,nd,h1,h2,hk=>by show a8z kindOf ((p,w)::P.zip vs) m x=_;unfold a8z;exact Dd (i:=i) (a1m.mp nd).2 (by simpa using h1) (by simpa using h2) hk
noncomputable def start(N:List Str)(vs:gw):St:=vs.map a7++a0z (N.length-vs.length) b3
noncomputable def kS(CX:j9)(P:a0j)(w:a0E)(K:ZD)(g:Str->Option Value)(base:a1d)(N:List Str)(a:Str)(scope:a2y)(f:Addr)(c:Value)(A:a0y)(outer:List a5t)(s:ZJ)(H:Hp)(E:XK):Cx where
 prog:=P
 w:=w
 K:=K
 mg:=g
 base:=base
 A:=A.deeper<|envOfC a scope s.heap.objs.size f c
 N:=N
 s₀:=s
 H₀:=H
 env:=envOfC a scope s.heap.objs.size f c
 outer:=outer
 stack:=envOfC a scope s.heap.objs.size f c::outer
 ex:=[]
 calm:=b5
 fn:=λ_=>b5
 pn:=[]
 xe:=λe h=>Z3 (a0d P w) (A.deeper<|envOfC a scope s.heap.objs.size f c) (leaving (envOfC a scope s.heap.objs.size f c) e) (λ_ b=>CX outer H s E e b) (λd b=>CX outer H s E d b) h
theorem De{sc:a2y}(h:sc.names.lookup x=a7 .cell):∃c,(b0u n sc.names []).lookup x=a7 c:=by have q:=a7b sc.names n []<|.inl h;exact Option.isSome_iff_exists.mp q
theorem Mh{K:ZD}(S:FnScope N ps scope)(hd:A.handled=b3)(j:Env0 P w K I base A outer s H)(T:vs.length=ps.length)(r:Vals vs us)(x:InCallC s s.heap.objs.size (a8y (envOfC d scope s.heap.objs.size f B).kindOf (ps.zip us) λ_=>b3) (b0u (s.heap.objs.size+1) scope.names []) (a8z (envOfC d scope s.heap.objs.size f B).kindOf (ps.zip us) λ_=>b3) s1):
  Inv (kS CX P w K I base N d scope f B A outer s H E) [] (start N vs) H s1:=by
 have O:ps.length<=N.length:=by have:=congrArg a0F S.pre;rw[a0Q]at this;lia
 obtain⟨G,U,rfl,J⟩:=x.done;have m:∀b:Addr,b∉(kS CX P w K I base N d scope f B A outer s H E).ex:=λb z=>absurd (show b∈([]:List Addr)from z) (by simp);refine⟨⟨j.mod,S.kind,rfl,rfl,ZN _,λy z c G g=>?_,λy l=>?_,λy c _ h=>?_,λ_=>hd,Around.frames_deeper j.frames,.inr ⟨rfl,rfl⟩,λb z=>absurd z<|m b,j.bs,j.bsz,λb _ _=>m b,λb z=>absurd z<|m b,j.funs,j.frf⟩,
  rfl,j.bare,Un.kept J,⟨_,x.toInCall.ns,λi y v G g R=>?_⟩,λy c h=>⟨_,x.cell y c h⟩,j.hok.fresh<|ZN _,λy c h=>?_,λp n=>absurd (show p∈([]:jw)from n)<|by simp,j.hok.kept J,?_⟩
 .exact name_of_addr x.apart (a1j G)<|a1j g
 .have l:scope.names.lookup y=a7 .cell\/scope.names.lookup y=a7 .free:=l;rcases l with l|l
  .exact De l
  .exact absurd rfl<|S.nofree _<|a1j l
 .exact a4l<|x.above y c<|a1j h
 .have hi:i<vs.length:=by
   unfold start at g;by_cases hi:i<vs.length
   .exact hi
   .rw[a0N<|by simpa using hi]at g;rw[a2M]at g;split at g<;>cases g
  have M:vs[i]?=a7 v:=by
   unfold start at g;rw[a0f<|by simpa using hi,ZU]at g;cases e:vs[i]? with
   |none=>rw[e]at g;cases g|some a=>rw[e]at g;cases g;rfl
  obtain⟨u,L,Q⟩:=r.get M;have n:ps[i]?=a7 y:=by rw[<- S.pre,a7k<|by lia];exact G
  have o:ps.Nodup:=by rw[<- S.pre];exact S.nd.sublist<|List.take_sublist _ _
  refine⟨u,Q,?_⟩;rcases S.par y (Z1 n)with k|k
  .exact .inl ⟨k,C9 o n L k⟩
  .obtain⟨c,e⟩:=De (n:=s.heap.objs.size+1) k;refine .inr ⟨.inl k,c,e,?_⟩;have q:=x.cell y c e;rw[Dd o n L<|by show scope.names.lookup y≠_;rw[k];decide]at q;exact q
 .exact j.hok.fresh<|a4l<|x.above y c<|a1j h
 .unfold start;show _=N.length;rw[ZO,ZF,a1w];lia
theorem Mi{K:ZD}{kV:Value}(lk:K.lookup f=a7 ⟨oc,od,.func<|a1B name a d body scope Y kV m Z an c ct,O⟩)(G:a4c K c a=b5)(S:FnScope N ps scope)(len:∀vs H Q E,sp vs H Q E->vs.length=ps.length)(i:∀A outer s H(vs:gw)Q E,Room k (A.deeper<|envOfC a scope s.heap.objs.size f c)->sp vs H Q E->
   ∃t,PSs (kS CX P w K B base N a scope f c A outer s H E) body t/\t {nx:=λ_ h=>Q .non h,rt:=Q} (start N vs) H):
  FnOk P w K B base CX (k+1) f (a1B name a d body scope Y kV m Z an c ct) ps sp:=by
 refine⟨len,λA outer s H X us vs Q E L p hb r z=>?_⟩;have hl:=len _ _ _ _ z;have U:K.In s.heap:=p.mod.kin.keeps λb o e=>(p.bs b o e).1;have M:s.heap.NoLimit:=p.mod.nolimit.keeps λb o e=>(p.bs b o e).1;have j:∀y∈ps.zip us,scope.names.lookup y.1=a7 .local\/(scope.names.lookup y.1=a7 .cell/\((b0u (s.heap.objs.size+1) scope.names []).lookup y.1).isSome=b5):=λ⟨n,v⟩ hy=>by
  rcases S.par n (a6y hy).1 with q|q
  .exact .inl q
  .exact .inr ⟨q,a7b _ _ _<|.inl q⟩
 refine codeAny_call_function L.depth (U _ _ lk) rfl S.co S.gen rfl (PySem.W.codeRec_of U G)<|hb _ _ _ _ ?_;refine wpAny_newFunctionEnv_cells S.kind j λenv he s1 x=>?_;subst he;refine⟨M.keeps x.toInCall.keep,codeAny_func ?_⟩;obtain⟨t,ht,hq⟩:=i A outer s H vs Q E (L.deeper _) z;have I:Inv (kS CX P w K B base N a scope f c A outer s H E) [] (start N vs) H s1:=Mh S L.hd p hl r x;refine a1h (ht [] s1 (start N vs) H _ I hq) (λfl T l=>?_) λe T l=>l;have fin:∀{g:St}{h:Hp}{v:V}{u:Value},Inv (kS CX P w K B base N a scope f c A outer s H E) [] g h T->RelV v u->Q v h->CE outer P w H s Q u T:=
  λ{g h v u} J R q=>⟨v,h,J.os,J.bare,J.base,J.hok,R,q⟩
 cases fl with
 |ret u=>obtain⟨v,g,h,J,R,q⟩:=l;exact fin J R q|next=>obtain⟨g,h,J,q⟩:=l;exact fin (v:=V.non) (u:=a0T) J rfl q|brk=>obtain⟨_,_,_,q⟩:=l;exact a1L q|cont=>obtain⟨_,_,_,q⟩:=l;exact a1L q
noncomputable def uH(r:gw->Hp->VK->Prop)(t:TA):TE:=λσ H Q=>t σ H λvs a=>r vs a Q
theorem Mj{id:String}(hc:CallR X (.builtin id) r)(l:Gl X x)(m:X.mg x=b3)(o:a1F x=a7 (.builtin id))(j:PA X (e::es) t)(n:x ≠ "__name__":=by decide)(b:(x==("__debug__":Str))=false:=by decide)(k:a0h (e::es) X.env=(b4,eval e X.env)::a0h es X.env:=by rfl)(c:(a1U pos<|a0h es X.env).any (·.1)=false:=by rfl):PE X (.Call (.Name x p) (e::es) [] pos) (uH r t):=by
 intro a s d H Q I h;refine a2c<|jQ I l m o ?_ n b;exact b0Z (aW (j pos a s d H _ I h) λw v ⟨y,g,i,u,q⟩=>hc a v d g y w Q i u q) k c
theorem Mm(hc:CallR X (.type T) r)(l:Gl X x)(m:X.mg x=b3)(o:a1F x=a7 (.type T))(j:PA X (e::es) t)(n:x ≠ "__name__":=by decide)(b:(x==("__debug__":Str))=false:=by decide)(k:a0h (e::es) X.env=(b4,eval e X.env)::a0h es X.env:=by rfl)(c:(a1U pos<|a0h es X.env).any (·.1)=false:=by rfl):PE X (.Call (.Name x p) (e::es) [] pos) (uH r t):=by
 intro a s d H Q I h;refine a2c<|jQ I l m o ?_ n b;exact a1s (aW (j pos a s d H _ I h) λw v ⟨y,g,i,u,q⟩=>hc a v d g y w Q i u q) k c
section
variable{κ:Type} [DecidableEq κ]
theorem RelO.isSome_eq(r:RelO o u):o.isSome=u.isSome:=by
 cases o with
 |none=>cases u with
  |none=>rfl|some _=>exact(show False from r).elim
 |some _=>cases u with
  |none=>exact(show False from r).elim|some _=>rfl
theorem RelO.getD(r:RelO o u)(a:RelV d d'):RelV (o.getD d) (u.getD d'):=by
 cases o with
 |none=>cases u with
  |none=>exact a|some _=>exact(show False from r).elim
 |some _=>cases u with
  |none=>exact(show False from r).elim|some _=>exact r
theorem KV.length{kvs:List (κ×V)}(r:KV kvs vs):kvs.length=vs.length:=a6R r
end
theorem Inv.big{σ:St}(I:Inv X b1C σ H s):a1t<s.heap.objs.size:=by have h:a1b<s.heap.objs.size:=(I.mod.glob.keeps I.bk).lt;exact Nat.lt_trans (by decide) h
theorem Df{σ:St}(I:Inv X b1C σ H s)(g:rB (H a))(e:a2n a s.heap h')(d:∃q,h'.get? a=a7 q)(new:ObjOk X.prog X.w (aP H a ob) h' a ob):
  Inv X b1C σ (aP H a ob) {s with heap:=h',toks:=t'}:=
 I.write (x:=a) (e:=a) g (.inl rfl) (λb q c z=>(e.2 b c).trans z) d new
noncomputable def Dg(i:Expr):Prop:=∀b a,a7e i b4 b a=operate [b,a] (a7z b a)
theorem Mn{id:String}(m:a7H (.type T) "__getitem__"=pure (a7<|.builtin id))(n:Dg a)(h:Z3 (a0d prog w) A (eval b env) (λo e=>Z3 (a0d prog w) A (eval a env) (λi c=>c.TypeIs o T/\Z3 (a0d prog w) A (a7z o i) Q E c) E e) E s):
  Z3 (a0d prog w) A (eval (.Subscript b a pos) env) Q E s:=by
 refine a7O<|a1h h (λo e j=>a1h j (λi c d=>?_) λ_ _ x=>x) λ_ _ x=>x;obtain⟨l,d⟩:=d;unfold a6l;refine ZE ?_;rw[getitemInPython_of_ne l.not_modules];refine ZE<|a3E l m ?_;have fin:Z3 (a0d prog w) A (a7e a b4 o i) (λr g=>Z3 (a0d prog w) A (letTemporaryGo b o r >>= λ_=>pure r) Q E g) E c:=by rw[n o i];exact wpAny_operating<|a1h d (λr g k=>ZE<|wpAny_letTemporaryGo<|ZM k) λ_ _ x=>x
 first
  |exact ZM (ZE fin)|exact ZE (ZM<|ZE fin)|exact ZE fin
noncomputable def Dh:List (TE×TE)->St->Hp->(List (V×V)->Hp->Prop)->Prop
 |[],_,H,Q=>Q [] H|(tk,tv)::r,σ,H,Q=>tk σ H λx a=>tv σ a λy b=>Dh r σ b λd c=>Q ((x,y)::d) c
noncomputable abbrev VV:List (V×V)->List (Value×Value)->Prop:=a4N λp q=>RelV p.1 q.1/\RelV p.2 q.2
noncomputable def Mo(X:Cx)(pos:a1p)(keys:List (Option Expr))(a:List Expr)(b:List (TE×TE)):Prop:=
 ∀(b1C:jw)(s:ZJ)(σ:St)(H:Hp)(Q:List (V×V)->Hp->Prop),Inv X b1C σ H s->Dh b σ H Q->
  Z3 (a0d X.prog X.w) X.A (evalPairs<|pairTrees keys a X.env pos) (λg e=>∃d c,Inv X b1C σ c e/\VV d g/\Q d c) X.xe s
structure M1(X:Cx)(o:Expr)(m:Str)(apos:a1p)(e:Expr)(cpos:a1p):Prop where
 base:a2N o m X.env (eval o X.env)=eval o X.env
 few:((a1U cpos (a0h [e] X.env)).all (λx=>!x.1)&&(a3C cpos (a2v [] X.env)).all (λx=>x.1.isSome)
  && decide (([e]:List Expr).length+([]:List a3b).length+(if([]:List a3b).isEmpty then 0 else 1)<30))=b5
 line:(apos.endLine==cpos.line)=b5
 trees:a1U cpos (a0h [e] X.env)=[(b4,eval e X.env)]
structure M2(X:Cx)(o:Expr)(m:Str)(apos:a1p)(e f:Expr)(cpos:a1p):Prop where
 base:a2N o m X.env (eval o X.env)=eval o X.env
 few:((a1U cpos (a0h [e,f] X.env)).all (λx=>!x.1)&&(a3C cpos (a2v [] X.env)).all (λx=>x.1.isSome)
  && decide (([e,f]:List Expr).length+([]:List a3b).length+(if([]:List a3b).isEmpty then 0 else 1)<30))=b5
 line:(apos.endLine==cpos.line)=b5
 trees:a1U cpos (a0h [e,f] X.env)=[(b4,eval e X.env),(b4,eval f X.env)]
noncomputable def IsD(H:Hp)(a:Addr):Prop:=(∃kvs,Rd H a (.dK kvs))\/∃kvs,Rd H a (.dT kvs)
end L2
namespace HT
open PySem PyProof.Rows
noncomputable def lexLt:List Int->List Int->Bool
 |[],[]=>b4|[],_::_=>b5|_::_,[]=>b4|x::xs,y::ys=>if x=y then lexLt xs ys else decide (x<y)
theorem lexLt_cons x y xs a:lexLt (x::xs) (y::a)=if x=y then lexLt xs a else decide (x<y):=rfl
theorem Mp:lexLt [] []=false:=rfl
theorem Mq y a:lexLt [] (y::a)=true:=rfl
theorem Mr x xs:lexLt (x::xs) []=false:=rfl
theorem Ms A s a t c u:∃e,a6K A s (.int a t) (.int c u) e/\(e=b5↔a=c):=
 ⟨(a==c),a7g a t c u,by simp⟩
theorem Mt A s a t c u prog w E Q(h:Q (.bool<|decide<|a<c) s):
  Z3 (a0d prog w) A (a4V .Lt (.int a t)<|.int c u) Q E s:=
 (a6M h:Z3 (a0d prog w) A (a0Z .Lt (.int a t)<|.int c u) Q E s)
section
open PySem.SeqAt
open PySem.AutoSeq1 (wpAny_loadPart')
open PySem.MeetsSeq PySem.MeetsSeq2 PySem.MeetsSeq3
theorem Mu l b items i n n2 U L sl O ns ms(hi:a2V items.toList ns)(Q:a2V i.toList ms):
  Meets (Builtin.«tuple.__lt__» ⟨[.ref l,.ref b],[]⟩)
   (λ_ R s=>s.heap.get? l=a7 {cls:=.type "tuple",dict:=U,data:=.seq items n,slots:=sl}/\s.heap.get? b=a7 {cls:=.type "tuple",dict:=L,data:=.seq i n2,slots:=O} /\
    R (.ok<|.ret<|.bool<|lexLt ns ms) s):=
 .of_wp λz w A R s h=>by
  obtain⟨I,g,d,K,J⟩:=s;obtain⟨Z,X,h⟩:=h;have f2:=AutoSeq1.sub_tuple_tuple;have z1:items.size=ns.length:=by rw[<- hi.length];simp
  have z2:i.size=ms.length:=by rw[<- Q.length];simp
  wp_walk using b0J Z,b0J X,b0o _ (λb6 b N=>b.1=b3/\N=⟨I,g,d,K,J⟩/\∃(vs ws:gq)(m k:List Int),b6=vs.zip ws /\
   a2V vs m/\a2V ws k/\m.length+i.size=k.length+items.size/\R (.ok<|.ret<|.bool<|lexLt m k) ⟨I,g,d,K,J⟩) _
  case turn=>
   rintro⟨y,x⟩ b6 b N ⟨B,rfl,vs,ws,m,k,p,E,o,j,r⟩;cases E with
   |nil=>rw[List.zip_nil_left]at p;cases p|cons a t G=>
    cases o with
    |nil=>rw[List.zip_nil_right]at p;cases p|cons c u H=>
     rw[a8C]at p;injection p with hyx hrest;injection hyx with hy hx;subst hy hx;rw[lexLt_cons]at r;simp only[Z8]at j;obtain⟨e,Y,v⟩:=Ms A.in1 ⟨I,g,d,K,J⟩ a t c u;refine ZE<|Y z w _ _ ?_;cases e with
     |true=>rw[if_pos<|v.mp rfl]at r;wp_walk;exact⟨rfl,rfl,_,_,_,_,hrest,G,H,by lia,r⟩|false=>rw[if_neg λq=>absurd (v.mpr q) a0a]at r;have M:=Mt A.in1 ⟨I,g,d,K,J⟩ a t c u z w;wp_walk using M;exact⟨_,rfl,by simpa using r⟩
  case fin=>
   rintro⟨b1,b2⟩ N ⟨B,rfl,vs,ws,m,k,p,E,o,j,r⟩;simp only at B;subst B;have T:lexLt m k=decide (items.size<i.size):=by
    cases E with
    |nil=>
     cases o with
     |nil=>simp only[a3x]at j;rw[Mp];exact(decide_eq_false<|by lia).symm|cons c u hw=>simp only[a3x,Z8]at j;rw[Mq];exact(decide_eq_true<|by lia).symm
    |cons a t T=>
     cases o with
     |nil=>simp only[a3x,Z8]at j;rw[Mr];exact(decide_eq_false<|by lia).symm|cons c u hw=>rw[a8C]at p;cases p
   rw[T]at r;wp_walk;exact⟨_,rfl,by simpa[b0H]using r⟩
  case h=>exact⟨rfl,rfl,items.toList,i.toList,ns,ms,rfl,hi,Q,by lia,h⟩
end
theorem lt_tupInts(u:a7T s.heap l items)(q:a7T s.heap b a)(hi:a2V items.toList ns)(r:a2V a.toList ms)(v:A.units<a1W)(h:Q (.bool<|lexLt ns ms) s):Z3 (a0d prog w) A (a0Z .Lt (.ref l)<|.ref b) Q E s:=by
 obtain⟨⟨cls,p,m,z⟩,o,hc,n,hd⟩:=id u;obtain⟨⟨k,i,g,j⟩,e,c,y,d⟩:=id q;simp only at hc hd c d;subst hc hd c d;exact richCompare_meets_room (op:=.Lt) ⟨_,o,rfl⟩ ⟨_,e,rfl⟩ PySem.F.slot_tuple_lt PySem.F.entry_tuple_lt (PySem.F.args_tuple_lt_2 _ _) (Mu l b items a n y p i z j ns ms hi r)
  ⟨o,e,show a1v (lexLt ns ms)≠Value.notImplemented/\Q (.bool<|lexLt ns ms) s from⟨(λx=>nomatch x),h⟩⟩ v
noncomputable def sIx(n d:Nat):Option Int->Nat
 |none=>d|some v=>if v<0 then(v+(n:Int)).toNat else min v.toNat n
end HT
namespace L2
open PySem PySem.Spec PyProof.Rows
noncomputable abbrev TO:=St->Hp->(Option Int->Hp->Prop)->Prop
noncomputable def PO(X:Cx)(e:Option Expr)(t:TO):Prop:=
 ∀(b1C:jw)(s:ZJ)(σ:St)(H:Hp)(Q:Option Int->Hp->Prop),Inv X b1C σ H s->t σ H Q->
  Z3 (a0d X.prog X.w) X.A (evalPart e X.env) (λu b=>∃o a,Inv X b1C σ a b/\IsPart u o/\Q o a) X.xe s
noncomputable def Mv:TO:=λ_ H Q=>Q b3 H
noncomputable def Mw(t:TE):TO:=λσ H Q=>t σ H λx a=>∃i,x=.int i/\Q (a7 i) a
theorem uI:∀{us},Vals (ns.map V.int) us->a2V us ns:=by
 induction ns with
 |nil=>intro us r;rw[a2U]at r;cases r;exact .nil|cons n ns a=>
  intro us r;rw[ZR]at r;cases r with
  |cons b c=>obtain⟨t,e⟩:=b;subst e;exact .cons n t<|a c
theorem Mx:PO X b3 Mv:=by intro a s b H Q I h;rw[evalPart_none];exact ZM ⟨b3,H,I,.none,h⟩
theorem My(h:PE X e te):PO X (a7 e) (Mw te):=by intro a s j H Q I hw;rw[evalPart_some];refine aW (h a s j H _ I hw) λu k ⟨x,b,c,g,d⟩=>?_;obtain⟨i,rfl,q⟩:=d;obtain⟨t,rfl⟩:=g;exact⟨a7 i,b,c,.int i t,q⟩
noncomputable def yP(X:Cx)(r:V->Option Int->Option Int->Hp->VK->Prop):Prop:=
 ∀(b1C:jw)(s:ZJ)(σ:St)(H:Hp)(x:V)(v b c:Value)(lo hi:Option Int)(a:Addr)(Q:VK),Inv X b1C σ H s->RelV x v->s.heap.IsSliceOf a b c .none->IsPart b lo->IsPart c hi->r x lo hi H Q->
  ∃T id,a7H (.type T) "__getitem__"=pure (a7<|.builtin id)/\s.TypeIs v T/\Z3 (a0d X.prog X.w) X.A (a7z v<|.ref a) (EP X b1C σ Q) X.xe s
noncomputable def Mz(r:V->Option Int->Option Int->Hp->VK->Prop)(te:TE)(tl th:TO):TE:=λσ H Q=>te σ H λx a=>tl σ a λl b=>th σ b λu c=>r x l u c Q
theorem MB{lo:Option Expr}(E:yP X r)(z:PE X e te)(B:PO X lo tl)(J:PO X hi th):PE X (.Subscript e (.Slice lo hi b3 p2) pos) (Mz r te tl th):=by intro a s d H Q I h;refine a7O<|aW (z a s d H _ I h) λv U ⟨x,k,n,R,M⟩=>?_;refine wpAny_Slice<|aW (B a U d k _ n M) λg Y ⟨l,m,o,K,N⟩=>aW (J a Y d m _ o N) λi c ⟨u,j,p,L,O⟩=>?_;rw[evalPart_none];refine ZM ?_;have w:Inv X a d j {c with heap:=c.heap.push {cls:=.type "slice",data:=.fields #[g,i,.none]}}:=p.kept (t':=c.toks) λb Z q=>ZK _ q;obtain⟨T,id,y,G,A⟩:=E a {c with heap:=c.heap.push {cls:=.type "slice",data:=.fields #[g,i,.none]}} d j x v g i l u c.heap.objs.size Q w R (a6A ..) K L O;show Z3 (a0d X.prog X.w) X.A (a6l e (.Slice lo hi b3 p2) v<|.ref c.heap.objs.size) (EP X a d Q) X.xe {c with heap:=c.heap.push {cls:=.type "slice",data:=.fields #[g,i,.none]}};exact b1r (ops:=[.ref c.heap.objs.size,v]) G y A<|by with_unfolding_all rfl
noncomputable def lV(xs:gw)(lo hi:Option Int):gw:=(xs.drop<|HT.sIx xs.length 0 lo).take<|HT.sIx xs.length xs.length hi-HT.sIx xs.length 0 lo
theorem MC xs lo hi:(lV xs lo hi).length<=xs.length:=by unfold lV;rw[a0Q,a3r];lia
noncomputable def jR(n:Nat)(i:Int):Option Nat:=if 0<=i then(if i<n then a7 i.toNat else b3)else if -(n:Int)<=i then a7 (i+n).toNat else b3
noncomputable def atI{a:Type}(xs:List a)(i:Int):Option a:=(jR xs.length i).bind λj=>xs[j]?
theorem MH(h:jR n i=a7 j):seqIndex? i n=a7 j/\j<n/\-(n:Int)<=i/\i<n:=by
 unfold jR at h;by_cases b:0<=i
 .rw[if_pos b]at h;by_cases a:i<n
  .rw[if_pos a]at h;have e:i.toNat=j:=Z0 h;exact⟨by rw[seqIndex_of b a,e],by lia,by lia,a⟩
  .rw[if_neg a]at h;cases h
 .rw[if_neg b]at h;by_cases a:-(n:Int)<=i
  .rw[if_pos a]at h;have e:(i+n).toNat=j:=Z0 h;exact⟨by rw[seqIndex_neg (by lia) a,e],by lia,a,by lia⟩
  .rw[if_neg a]at h;cases h
theorem yQ{xs:List a}{v:a}(h:atI xs i=a7 v):∃j,seqIndex? i xs.length=a7 j/\xs[j]?=a7 v/\j<xs.length/\-(xs.length:Int)<=i/\i<xs.length:=by
 unfold atI at h;cases e:jR xs.length i with
 |none=>rw[e]at h;cases h|some j=>rw[e]at h;obtain⟨b,c,d,g⟩:=MH e;exact⟨j,b,h,c,d,g⟩
noncomputable def yR(b:Expr):Prop:=∀o i,a7e b b4 o i=operate [o,i] (a7z o i)
noncomputable def IxR(X:Cx)(r:R2):Prop:=
 ∀(b a:Expr)(b1C:jw)(s:ZJ)(σ:St)(H:Hp)(x y:V)(v u:Value)(Q:VK),Inv X b1C σ H s->RelV x v->RelV y u->r x y H Q->
  a7e a b4 v u=operate [v,u] (a7z v u)->Z3 (a0d X.prog X.w) X.A (a6l b a v u) (EP X b1C σ Q) X.xe s
noncomputable def MJ(X:Cx)(id:String)(r:V->gw->Hp->VK->Prop):Prop:=
 ∀(b1C:jw)(s:ZJ)(σ:St)(H:Hp)(x:V)(xs:gw)(v:Value)(us:gq)(Q:VK),Inv X b1C σ H s->RelV x v->Vals xs us->r x xs H Q->
  Z3 (a0d X.prog X.w) X.A (call (.builtin id)<|v::us) (EP X b1C σ Q) X.xe s
theorem IxR.or(h:IxR X r)(h':IxR X i):IxR X (λx y H Q=>r x y H Q\/i x y H Q):=by
 intro d c e s l H x y v u Q I j k q g;rcases q with q|q
 .exact h d c e s l H x y v u Q I j k q g
 .exact h' d c e s l H x y v u Q I j k q g
theorem MK(j:IxR X r)(g:PE X a ta)(i:PE X b tb)(k:yR b):PE X (.Subscript a b pos) (rG r ta tb):=by intro c s o H Q I h;exact a7O<|yE g i I h λv u n x y d e l m q=>j a b c n o d x y v u Q e l m q<|k _ _
noncomputable def Di(K:ZD):R2:=λx y H Q=>∃p xs i v,x=.ref p/\y=.int i/\SqL K H p xs/\atI xs i=a7 v/\Q v H
noncomputable def Dj(K:ZD):R2:=λx y H Q=>∃p xs i v,x=.ref p/\y=.int i/\SqT K H p xs/\atI xs i=a7 v/\Q v H
noncomputable def Dk:R2:=λx y H Q=>∃z i c,x=.str z/\y=.int i/\z.length<=ZX/\atI z.cps.toList i=a7 c/\Q (.str ⟨#[c]⟩) H
theorem ix_list:IxR X (Di X.K):=by
 intro n m c s E H x y v u Q I O R h B;obtain⟨p,xs,i,z,rfl,rfl,N,L,q⟩:=h;cases O;obtain⟨t,rfl⟩:=R;obtain⟨g,r,k,Z⟩:=I.list N;obtain⟨j,d,G,U,J,K⟩:=yQ L;obtain⟨w,o,l⟩:=r.get G;have M:=r.length;have Y:=o8;have fin:EP X c E Q w s:=⟨z,H,I,l,q⟩;by_cases A:0<=i
 .have e:i.toNat=j:=by rw[seqIndex_of A K]at d;exact Z0 d
  exact item_listR k.isList A (by lia) (by rw[e];simpa using o) fin B
 .have e:(i+(g.toArray.size:Int)).toNat=j:=by rw[seqIndex_neg (by lia) J]at d;rw[Z9,<- M];exact Z0 d
  exact a8I (x:=w) k.isList.typeIs a6D.lookup
   (wpAny_getItem_list_neg (Q:=λr T=>r=w/\EP X c E Q r T) k.isList (by lia) (by rw[Z9]<;>lia) (by lia) (by rw[e];simpa using o) ⟨rfl,fin⟩) B
theorem ix_tup:IxR X (Dj X.K):=by
 intro g e c s l H x y v u Q I K L h G;obtain⟨p,Y,i,z,rfl,rfl,E,A,q⟩:=h;cases K;obtain⟨t,rfl⟩:=L;obtain⟨J,r,k,U⟩:=I.tuple E;obtain⟨j,n,o,N,O,R⟩:=yQ A;obtain⟨w,m,d⟩:=r.get o;have B:=r.length;have T:=o8;have fin:EP X c l Q w s:=⟨z,H,I,d,q⟩;exact a8I (x:=w) k.typeIs slot_tuple_getitem.lookup
  (getItem_tuple (j:=j) (Q:=λr M=>r=w/\EP X c l Q r M) k (by lia) (by lia) (by rw[Z9,<- B];exact n) (by simpa using m) ⟨rfl,fin⟩) G
theorem ML:IxR X Dk:=by
 intro e d k s M H x y v u Q I B E h A
 obtain ⟨z,i,c,rfl,rfl,K,r,q⟩:=h
 obtain ⟨t,rfl⟩:=B
 obtain ⟨L,rfl⟩:=E
 obtain ⟨j,g,n,G,o,p⟩:=yQ r
 have w:z.cps.toList.length=z.length:=by simp [Str.length]
 rw [w] at g o p
 have J:=o8
 exact b1r (typeIs_str s z t) slot_str_getitem.lookup (getItem_str (c:=c) (by
  have l:decide (i < -(2 ^ 63:Int))=false:=decide_eq_false<|by lia
  have m:decide (i >= 2 ^ 63)=false:=decide_eq_false<|by lia
  rw [l,m,a7l]) (by rw [g];simpa using n) ⟨.str ⟨#[c]⟩,H,I.tok _,⟨_,rfl⟩,q⟩) A
noncomputable def Dl (K:ZD):R2:=fun x y H Q=>Di K x y H Q\/Dj K x y H Q\/Dk x y H Q
theorem MN:IxR X (Dl X.K):=ix_list.or<|ix_tup.or ML
theorem MP lo hi n:(a2g lo hi b3 n).1=((HT.sIx n 0 lo:Nat):Int)/\(a2g lo hi b3 n).2.1=((HT.sIx n n hi:Nat):Int)/\(a2g lo hi b3 n).2.2=1:=by
 refine⟨?_,?_,rfl⟩
 .cases lo with
  |none=>simp[a2g,HT.sIx]|some i=>
   simp only[a2g,HT.sIx,a5S,show(1:Int)>0 by decide,if_true];by_cases h:i<0
   .simp only[h,if_true]<;>lia
   .simp only[h,if_false]<;>lia
 .cases hi with
  |none=>simp[a2g,HT.sIx]|some i=>
   simp only[a2g,HT.sIx,a5S,show(1:Int)>0 by decide,if_true];by_cases h:i<0
   .simp only[h,if_true]<;>lia
   .simp only[h,if_false]<;>lia
theorem MQ(its:gq)lo hi:a8w its.toArray lo hi b3=((its.drop<|HT.sIx its.length 0 lo).take<|HT.sIx its.length its.length hi-HT.sIx its.length 0 lo).toArray:=by obtain⟨c,d,e⟩:=MP lo hi its.toArray.size;unfold a8w;rw[c,d,e];simp only[sliceRange_one,pick_run,Z9]<;>rfl
noncomputable def yS(K:ZD):V->Option Int->Option Int->Hp->VK->Prop:=λx lo hi H Q=>∃a xs,x=.ref a/\SqL K H a xs/\∀p,H p=b3->Q (.ref p) (aP H p<|.lst<|lV xs lo hi)
theorem MR:yP X (yS X.K):=by intro i s A H x v y z e hi w Q I p j n o h;obtain⟨a,c,rfl,k,q⟩:=h;cases p;obtain⟨m,r,g,l⟩:=I.list k;have d:=r.length;refine⟨"list",_,a6D.lookup,g.isList.typeIs,?_⟩;refine a8k g.isList j n o .none (by simp) ?_ (by rw[Z9]<;>lia);rw[MQ,<- d];refine⟨.ref s.heap.objs.size,_,I.laid (t':=s.toks) (o:=.lst (lV c e hi)) (λb u q=>ZK _ q) (ZN _) ?_,rfl,q _<|I.hok.fresh<|ZN _⟩;exact⟨a0A (MC c e hi) l,_,0,(r.drop<|HT.sIx c.length 0 e).take<|HT.sIx c.length c.length hi-HT.sIx c.length 0 e,ZW _ rfl⟩
theorem Dm:OpR X (a0Z .NotIn) (λx y H Q=>∃i j,x=.str i/\y=.str j/\Q (.bl<|!(!(a1u j i 0 j.length 1).isEmpty)) H):=by intro c s k H x y v u Q I d e h;obtain⟨i,j,rfl,rfl,q⟩:=h;obtain⟨t,rfl⟩:=d;obtain⟨g,rfl⟩:=e;exact notIn_str ⟨.bl _,H,I,rfl,q⟩
theorem call_len_seq:CallR X (.builtin "len") (λxs H Q=>∃p d,xs=[.ref p]/\(SqL X.K H p d\/SqT X.K H p d)/\Q (.int d.length) H):=by
 intro k s v H xs o Q I r h;obtain⟨p,d,rfl,e,q⟩:=h;obtain⟨u,rfl,m⟩:=fP r;cases m;have n:=o8;rcases e with e|e
 .obtain⟨g,j,i,l⟩:=I.list e;have c:=j.length;exact Calls.call_len_list i.isList (by simp only[Z9]<;>lia) ⟨.int d.length,H,I.tok _,⟨s.toks+1,by rw[Z9,c]⟩,q⟩
 .obtain⟨g,j,i,l⟩:=I.tuple e;have c:=j.length;exact len_tuple i (by simp only[Z9]<;>lia) ⟨.int d.length,H,I.tok _,⟨s.toks+1,by rw[Z9,c]⟩,q⟩
theorem MU:CallR X (.builtin "len") (λxs H Q=>∃z,xs=[.str z]/\z.length<=ZX/\Q (.int z.length) H):=by intro c s i H xs g Q I r h;obtain⟨z,rfl,e,q⟩:=h;obtain⟨u,rfl,t,rfl⟩:=fP r;have d:=o8;exact len_str (by lia) ⟨.int z.length,H,I.tok _,⟨_,rfl⟩,q⟩
theorem CallR.or(h:CallR X f r)(h':CallR X f d):CallR X f (λxs H Q=>r xs H Q\/d xs H Q):=by
 intro c s i H xs g Q I e q;rcases q with q|q
 .exact h c s i H xs g Q I e q
 .exact h' c s i H xs g Q I e q
theorem call_list_of:CallR X (.type "list") (λxs H Q=>∃p d,xs=[.ref p]/\(SqL X.K H p d\/SqT X.K H p d)/\∀l,H l=b3->Q (.ref l) (aP H l<|.lst d)):=by
 intro m s z H xs A Q I r h;obtain⟨p,d,rfl,i,q⟩:=h;obtain⟨u,rfl,y⟩:=fP r;cases y;have fin:∀(its:gq),Vals d its->d.length<=ZX->∀(h':a1d)(c':Nat),(∀b x,s.heap.get? b=a7 x->h'.get? b=a7 x)->
   h'.get? s.heap.objs.size=a7 {cls:=.type "list",dict:=b3,data:=.seq its.toArray c',slots:=#[]}->EP X m z Q (.ref s.heap.objs.size) {s with heap:=h'}:=λits c j h' c' k e=>
  ⟨.ref s.heap.objs.size,_,I.laid (t':=s.toks) k (ZN _)<|show ObjOk X.prog X.w _ h' _ (.lst d)from⟨j,its,c',c,e⟩,rfl,q _<|I.hok.fresh<|ZN _⟩
 rcases i with i|i
 .obtain⟨its,c,w,j⟩:=I.list i;have g:=c.length;obtain⟨o,v,hc,n,hd⟩:=w.isList;exact call_list_seq p (.inl rfl) v hc hd (λh' c' k e=>fin its c j h' c' k e)<|by simp only[Z9]<;>lia
 .obtain⟨its,c,w,j⟩:=I.tuple i;have g:=c.length;obtain⟨o,v,hc,n,hd⟩:=w;exact call_list_seq p (.inr rfl) v hc hd (λh' c' k e=>fin its c j h' c' k e)<|by simp only[Z9]<;>lia
theorem MV:CallR X (.type "tuple") (λxs H Q=>∃p d,xs=[.ref p]/\((SqL X.K H p d/\∀l,H l=b3->Q (.ref l) (aP H l<|.tup d))\/(SqT X.K H p d/\Q (.ref p) H))):=by
 intro g s x H xs B Q I r h;obtain⟨p,d,rfl,h⟩:=h;obtain⟨u,rfl,A⟩:=fP r;cases A;rcases h with⟨j,q⟩|⟨j,q⟩
 .obtain⟨c,m,k,w⟩:=I.list j;have v:=m.length;refine call_tuple_list k.isList (λi z=>?_) (by simp only[Z9]<;>lia);have n:Inv X g x H {s with heap:=i}:=I.kept (t':=s.toks) z;have y:Inv X g x (aP H i.objs.size<|.tup d) {s with heap:=i.push {cls:=.type "tuple",data:=.seq c.toArray}}:=
   n.laid (t':=s.toks) (λb o e=>ZK _ e) (ZN _)<|show ObjOk X.prog X.w _ _ _ (.tup d)from⟨w,c,m,TupN.new _ _⟩
  exact⟨.ref i.objs.size,_,y,rfl,q _<|n.hok.fresh<|ZN _⟩
 .obtain⟨c,m,k,w⟩:=I.tuple j;exact call_tuple_same k ⟨.ref p,H,I,rfl,q⟩
noncomputable def yT(K:ZD)(T:String)(x:V)(H:Hp):Prop:=match x with
 |.str _=>T="str"|.int _=>T="int"|.ref p=>(T="list"/\∃d,SqL K H p d)\/(T="tuple"/\∃o,K.lookup p=a7 o/\o.cls=.type "tuple"/\o.dict=b3) \/
   (T="dict"/\((∃c,H p=a7 (.dK c))\/∃c,H p=a7 (.dT c)))\/(T="set"/\∃S n,H p=a7 (.set S n))
 |_=>False
theorem MW{σ:St}(I:Inv X b1C σ H s)(r:RelV x v)(ty:yT X.K T x H):
  s.TypeIs v T/\∀a,v=.ref a->∃k,s.heap.get? a=a7 k/\k.dict=none:=by
 cases x with
 |str z=>obtain⟨t,rfl⟩:=r;cases(show T="str" from ty);exact⟨typeIs_str s z t,λ_ e=>nomatch e⟩|int i=>obtain⟨t,rfl⟩:=r;cases(show T="int" from ty);exact⟨typeIs_int s i t,λ_ e=>nomatch e⟩|ref p=>
  cases r;rcases ty with⟨rfl,u,m⟩|⟨rfl,o,d,hc,hd⟩|⟨rfl,d⟩|⟨rfl,S,n,d⟩
  .obtain⟨q,_,l,_⟩:=I.list m;refine⟨l.isList.typeIs,λa e=>?_⟩;cases e;obtain⟨o,n,e,c,hd,_⟩:=l;exact⟨o,e,hd⟩
  .refine⟨⟨o,I.kIn p o d,hc⟩,λa e=>?_⟩;cases e;exact⟨o,I.kIn _ o d,hd⟩
  .have z:∃o,s.heap.get? p=a7 o/\o.ExactDict:=by
    rcases d with⟨j,d⟩|⟨j,d⟩
    .obtain⟨_,_,_,_,o,_,_,e,g,_⟩:=I.hok p _ d;exact⟨o,e,g⟩
    .obtain⟨_,_,_,_,o,_,_,e,g,_⟩:=I.hok p _ d;exact⟨o,e,g⟩
   obtain⟨o,e,g⟩:=z;refine⟨⟨o,e,g.1⟩,λa h=>?_⟩;cases h;exact⟨o,e,g.2.1⟩
  .obtain⟨o,_,_,_,e,g,_⟩:=I.hok p _ d;refine⟨⟨o,e,g.1⟩,λa h=>?_⟩;cases h;exact⟨o,e,g.2.1⟩
 |_=>exact a1L ty
noncomputable def Dn(K:ZD)(T:String)(r:V->gw->Hp->VK->Prop)(to:TE)(t:TA):TE:=λσ H Q=>to σ H λx c=>yT K T x c/\t σ c λxs d=>r x xs d Q
theorem MX{id:String}(K:PlainAttrs T)(k:Slot T name id)(l:b1q (.builtin id)=pure (.type "method_descriptor"))(E:MJ X id r)(G:PE X o to)(B:PA X (e::es) t)(g:a2N o name X.env (eval o X.env)=eval o X.env:=by rfl)(j:((a1U cpos (a0h (e::es) X.env)).all (λx=>!x.1)&&(a3C cpos (a2v [] X.env)).all (λx=>x.1.isSome)
   && decide ((e::es).length+([]:List a3b).length+(if([]:List a3b).isEmpty then 0 else 1)<30))=true:=by rfl)(i:(apos.endLine==cpos.line)=true:=by rfl)(J:a0h (e::es) X.env=(b4,eval e X.env)::a0h es X.env:=by rfl)(c:(a1U cpos (a0h es X.env)).any (·.1)=false:=by rfl):
  PE X (.Call (.Attribute o name apos) (e::es) [] cpos) (Dn X.K T r to t):=by
 intro d s m H Q I h;refine a8H g j i rfl (aW (G d s m H _ I h) λv O ⟨x,u,n,q,ty,L⟩=>?_);obtain⟨z,A⟩:=MW n q ty;refine⟨T,id,K,k,l,z,A,?_⟩;have p:=B cpos d O m u _ n L;rw[J]at p ⊢;refine a3D (by show(b4||(a1U cpos (a0h es X.env)).any (·.1))=b4;rw[c]<;>rfl) (a7V ?_);exact aW p λU R ⟨Y,w,y,N,M⟩=>E d R m w x Y v U Q y q N M
noncomputable def nM(X:Cx)(id:String)(r:V->gw->Hp->VK->Prop):Prop:=
 ∀(b1C:jw)(s:ZJ)(σ:St)(H:Hp)(x:V)(xs:gw)(v:Value)(us:gq)(Q:VK),Inv X b1C σ H s->RelV x v->Vals xs us->r x xs H Q->
  Z3 (a0d X.prog X.w) X.A (call (.builtin id)<|v::us) (EP X b1C σ Q) X.xe s
theorem Vals.one(h:Vals [x] us):∃u,us=[u]/\RelV x u:=by
 cases h with
 |cons r t=>cases t;exact⟨_,rfl,r⟩
theorem Vals.two(h:Vals [x,y] us):∃u v,us=[u,v]/\RelV x u/\RelV y v:=by
 cases h with
 |cons r t=>obtain⟨v,rfl,q⟩:=Vals.one t;exact⟨_,v,rfl,r,q⟩
theorem Inv.lset{σ:St}{its:gq}(I:Inv X b1C σ H s)(a:H l=a7 (.lst xs))(e:s.heap.get? l=a7 {cls:=.type "list",data:=.seq its.toArray n})(d:f its.toArray=its'.toArray)(h:Vals ys its')(hz:ys.length<=ZX):
  Inv X b1C σ (aP H l<|.lst ys) {s with heap:=s.heap.update l<|a1G f,toks:=t'}:=by
 have q:=PySem.IsL.update e f;rw[d]at q;refine I.write (x:=l) (e:=l) (by rw[a];exact trivial) (.inl rfl) (λi u c g=>(a1T s.heap (a1G f)<|a0o c).trans g) ⟨_,q⟩ ?_;exact⟨hz,its',_,h,q⟩
theorem Inv.lnew{σ:St}(I:Inv X b1C σ H s)(a:Vals ys its)(hz:ys.length<=ZX):
  Inv X b1C σ (aP H s.heap.objs.size<|.lst ys) {s with heap:=s.heap.push {cls:=.type "list",data:=.seq its.toArray},toks:=t'}:=
 I.laid (λ_ _ q=>ZK _ q) (ZN _) ⟨hz,its,0,a,ZW _ rfl⟩
theorem Inv.fresh{σ:St}(I:Inv X b1C σ H s):H s.heap.objs.size=none:=I.hok.fresh<|ZN _
theorem Inv.lstM{σ:St}(I:Inv X b1C σ H s)(a:H l=a7 (.lst xs)):xs.length<=ZX/\∃(its:gq)(n:Nat),Vals xs its/\xs.length=its.length/\s.heap.get? l=a7 {cls:=.type "list",data:=.seq its.toArray n}:=by obtain⟨z,its,n,r,e⟩:=I.hok l _ a;exact⟨z,its,n,r,r.length,e⟩
theorem MY(h:n<=ZX):a3Y n=false:=by unfold a3Y;exact decide_eq_false<|by lia
noncomputable def Dp:V->gw->Hp->VK->Prop:=λx vs H Q=>∃l xs y,x=.ref l/\vs=[y]/\H l=a7 (.lst xs)/\xs.length<ZX/\Q .non (aP H l<|.lst<|xs++[y])
theorem Dq:nM X "list.append" Dp:=by intro c s w H x o v m Q I i g h;obtain⟨l,p,y,rfl,rfl,b,k,q⟩:=h;cases i;obtain⟨u,rfl,d⟩:=g.one;obtain⟨z,a,n,r,j,e⟩:=I.lstM b;refine call_meets F.slot_list_append ⟨_,e,rfl⟩ F.entry_list_append (F.args_list_append_2 _ _) (PySem.list_append l a.toArray n u<|by rw[Z9];lia) ⟨e,?_⟩;refine⟨.non,_,I.lset (its':=a++[u]) b e (by simp) (r.append<|.cons d .nil) ?_,rfl,q⟩;rw[ZO,a2s];lia
noncomputable def Ds:V->gw->Hp->VK->Prop:=λx vs H Q=>∃l b xs a,x=.ref l/\vs=[.ref b]/\H l=a7 (.lst xs)/\H b=a7 (.lst a)/\xs.length+a.length<=ZX/\Q .non (aP H l<|.lst<|xs++a)
theorem MZ:nM X "list.extend" Ds:=by
 intro j s O H x K v J Q I B A h;obtain⟨l,b,L,N,rfl,rfl,i,m,G,q⟩:=h;cases B;obtain⟨u,rfl,y⟩:=A.one;cases y;obtain⟨z,c,n,r,E,e⟩:=I.lstM i;obtain⟨M,a,p,w,o,k⟩:=I.lstM m;have g:c.toArray.size+a.toArray.size<=ZX:=by rw[Z9,Z9];lia
 have d:¬ (!c.toArray.isEmpty&&a3Y (c.toArray.size+a.toArray.size))=true:=by rw[MY g,a9M];exact a0a
 refine call_meets F.slot_list_extend ⟨_,e,rfl⟩ F.entry_list_extend (F.args_list_extend_2 _ _)
  (AutoSeq1.list_extend_list_list_0 l c.toArray n b a.toArray p d (by rw[Z9];lia)<|by lia) ⟨e,k,?_⟩
 refine⟨.non,_,I.lset (its':=c++a) i e (by simp) (r.append w) ?_,rfl,q⟩;rw[ZO];lia
noncomputable def Dt:R2:=λx y H Q=>∃l b xs a,x=.ref l/\y=.ref b/\H l=a7 (.lst xs)/\H b=a7 (.lst a)/\xs.length+a.length<=ZX/\∀p,H p=b3->Q (.ref p) (aP H p<|.lst<|xs++a)
theorem M0:OpR X (a3v .Add) Dt:=by
 intro d s L H x y v u Q I p w h;obtain⟨l,b,G,K,rfl,rfl,k,j,B,q⟩:=h;cases p;cases w;obtain⟨z,c,n,r,A,e⟩:=I.lstM k;obtain⟨J,a,E,o,m,g⟩:=I.lstM j;refine PySem.P.add_list e g ?_ (by rw[Z9,Z9];lia);have i:c.toArray++a.toArray=(c++a).toArray:=by simp
 rw[i];exact⟨.ref _,_,I.lnew (t':=s.toks) (r.append o)<|by rw[ZO];lia,rfl,q _ I.fresh⟩
end L2
namespace Att
open PySem PySem.W PySem.Calls PyProof.Rows
theorem M3:∀ns(vs:gq),WellAll P h vs (ns.map a3T)->a2V vs ns:=by
 intro ns;induction ns with
 |nil=>intro vs w;rw[a2U]at w;cases w;exact .nil|cons n ns c=>
  intro vs w;rw[ZR]at w;cases w with
  |cons a b=>cases a;exact .cons _ _<|c _ b
theorem script_of{l:OpenLaw}(w:l.most=a7 n){e:gq}(c:l.row.toRowW.claim.pre args=b5)(o:WellAll P h e args):
  ∃a p b,e=[ZZ a]/\args=[WData.list<|b.map a3T]/\h.get? a=a7 {cls:=.type "list",data:=.seq p.toArray}/\a2V p b/\b.length<=n:=by
 have m:WShape.hasAll [] args [.list .int]=true:=(pre_splitW c).1;have hc:l.pre.holds [] {args:=args}=true:=(pre_splitW c).2;obtain⟨d,r,rfl,s,u⟩:=hasAllW_cons m;obtain rfl:=hasAllW_nil u;obtain⟨B,rfl,v⟩:=hasW_list s;obtain⟨b,rfl⟩:=items_int v;have i:b.length<=n:=by
  unfold OpenLaw.pre at hc;have j:(WTm.not<|.lt (.lit<|.int (n:Int))<|.len<|.arg 0).holds [] {args:=[.list<|b.map .int]}=true:=by have j:=(holds_andW hc).1;rw[w]at j;exact j
  have k:=condW_of j<|w_not<|w_lt w_lit<|w_len_list<|w_arg rfl;rw[ZF]at k;refine a9z λq=>?_;have y:(n:Int)<((b.length:Nat):Int):=by lia
  first
   |(rw[decide_eq_true y]at k;exact absurd k<|by decide)|(simp at k;lia)
 cases o with
 |cons z A=>
  cases A;cases z with
  |list x g=>exact⟨_,_,b,rfl,rfl,x,M3 b _ g,i⟩
theorem post_true(l:OpenLaw)args:l.row.toRowW.claim.post args (.bool b5) args=true:=
 postW_of (r:=l.row.toRowW) (X:=(b5==b5))
  (show b0h [] (.bool b5) .bool=b5 by first|rfl|decide|simp[b0h,WShape.arms,WShape.armsAll])
  (show(WTm.eq .res<|.lit<|.bool b5).value [] {args:=args,res:=a7<|.bool b5,after:=args}=a7 (.bool<|b5==b5)from w_eq_bool (w_res rfl) w_lit) rfl
end Att
namespace L2
open PySem PySem.Spec PyProof.Rows
theorem yU:∀{vs:gq}{ns},a2V vs ns->Vals (ns.map V.int) vs
 |_,_,.nil=>.nil|_,_,.cons n t h=>.cons ⟨t,rfl⟩<|yU h
noncomputable def Du(H:Hp):Prop:=∀b,H b=b3\/∃o xs,H b=a7 (.frz o<|.lst xs)
theorem law_call{K:ZD}{vs:gq}(KX:K.In c.heap)(J:c.heap.Ns a1b O)(g:c.heap.Ns a9U mb)(Y:∀x:Str,x ≠ "__name__"->mb x=a1F x)(I:c.heap.NoLimit)(hg:c.gens=#[])(R:c.heap.get? a=a7 {cls:=.type "list",data:=.seq vs.toArray})(hi:a2V vs ns)(hl:ns.length<=ZX)(hr:Room k a6J)(F:∀i,K.In i->i.Ns a1b O->FnOk P w K O i CX k U fd [x] sp)(y:∀s u,a6P s fd ⟨[u],[]⟩ [(x,u)])(hsp:∀H,Du H->SqL K H a (ns.map V.int)->sp [.ref a] H (λv _=>v=.bl b5) λ_ _ _=>False)(X:∀H e j,CX [] H c (λ_ _ _=>False) e j->False):
  a3G (a0d P w) a6J (.call (.ref U) ⟨[.ref a],[]⟩) (λr j=>r=.ok (.ret<|.bool b5)/\OldK c.heap j.heap/\j.os=c.os/\a6a j.gens) c:=by
 have rv:=yU hi;have N:=hi.length
  -- from an abstract heap in which nothing but the script may be tracked
 have p:∀H:Hp,Du H->SqL K H a (ns.map V.int)->HOk P w H c.heap->(∀b,H b≠b3->b=a)->(H a≠b3->K.lookup a=b3)->
   a3G (a0d P w) a6J (.call (.ref U) ⟨[.ref a],[]⟩) (λr j=>r=.ok (.ret<|.bool b5)/\OldK c.heap j.heap/\j.os=c.os/\a6a j.gens) c:=by
  intro H hO hS L hA hK;have kG:∀{b:Addr}{o:Obj},c.heap.get? b=a7 o->H b=b3->(kR c.heap H).get? b=a7 o:=λe n=>Ke e n;have noA:∀{b:Addr}{o:Obj}{E:Array DictEntry}{B:Nat},c.heap.get? b=a7 o->o.data=.dict E B->H b=none:=λ{b o E B} e d=>by
   cases q:H b with
   |none=>rfl|some u=>have T:b=a:=hA b (by rw[q];simp);subst T;rw[R]at e;cases e;have d':a8i vs.toArray _=a3B E B:=d;cases d'
  have l:∀{b:Addr}{m:Str->Option Value},c.heap.Ns b m->(kR c.heap H).Ns b m:=λ{b m} ⟨o,E,B,e,d,r⟩=>⟨o,E,B,kG e<|noA e d,d,r⟩;have G:K.In (kR c.heap H):=λb o e=>kG (KX b o e)<|by
   cases q:H b with
   |none=>rfl|some u=>
    have T:b=a:=hA b (by rw[q];simp);subst T;rw[hK<|by rw[q];simp]at e;cases e
  have hM:Mod K O (kR c.heap H):=⟨G,l J,⟨mb,l g,Y⟩,let⟨mc,h1,h2⟩:=I;⟨mc,l h1,h2⟩⟩;have e0:Env0 P w K O (kR c.heap H) a6J [] c H:=⟨rfl,hM,λb o e=>Kf e,a4m<|Kd _ _,trivial,λb g=>absurd (show b∈([]:List Addr)from g)<|by simp,L,.of_eq hg⟩;refine a6I ((F _ G<|l J).run a6J [] c H ⟨[.ref a],[]⟩ [.ref a] [.ref a] _ _ hr e0 (y c<|.ref a) (.cons rfl .nil)<|hsp H hO hS) λr j h=>?_;cases r with
  |error e=>exact(X H e j h).elim|ok fl=>
   cases fl with
   |next=>exact a1L h|brk=>exact a1L h|cont=>exact a1L h|ret u=>
    obtain⟨v,H',os,A,un,M,r',q⟩:=h;have q':v=.bl true:=q;subst q';obtain rfl:u=a1v true:=r';refine⟨rfl,OldK.of_keep λb o e=>?_,os,A⟩;cases q:H b with
    |none=>exact un.keep b o e q (by intro z;exact absurd (show b∈([]:List Addr)from z)<|by simp) (by simp)|some u=>
     rcases hO b with z|⟨ob,xs,z⟩
     .rw[q]at z;cases z
     .have z2:=un.frzs b ob _ z;obtain⟨e1,_⟩:=L b _ z;obtain⟨e2,_⟩:=M b _ z2;rw[e]at e1;cases e1;exact e2
 cases Z:K.lookup a with
 |some o=>-- the script is one of the module's own objects
  have e:=KX a o Z;rw[R]at e;cases e;refine p (λ_=>b3) (λ_=>.inl rfl) (.inr ⟨_,vs.toArray,_,Z,rfl,rfl,rfl,by rw[Z9,N];exact hl,by simpa using rv⟩) (λb u z=>by have Q:(b3:Option HO)=a7 u:=z;cases Q) (λb z=>absurd rfl z) λz=>absurd rfl z
 |none=>
  refine p (λb=>if b=a then a7 (.frz {cls:=.type "list",data:=.seq vs.toArray}<|.lst<|ns.map V.int)else b3) (λb=>?_) (.inl<|.inr ⟨{cls:=.type "list",data:=.seq vs.toArray},if_pos rfl⟩) (λb u z=>?_) (λb z=>?_) λ_=>Z
  .by_cases g:b=a
   .exact .inr ⟨_,_,if_pos g⟩
   .exact .inl<|if_neg g
  .by_cases g:b=a
   .have Q:=(if_pos g).symm.trans z;cases Q;subst g;exact⟨R,by rw[ZF];exact hl,vs,_,rv,R⟩
   .have Q:=(if_neg g).symm.trans z;cases Q
  .by_cases g:b=a
   .exact g
   .exact absurd (if_neg g) z
noncomputable def gZ(s:Stmt):Arguments:=match s with
 |.FunctionDef _ a _ _ _ _ _ _ _ _=>a|_=>{posonlyargs:=[],args:=[],vararg:=b3,kwonlyargs:=[],kw_defaults:=[],kwarg:=b3,defaults:=[]}
noncomputable def fI(s:Stmt):List Stmt:=match s with
 |.FunctionDef _ _ b _ _ _ _ _ _ _=>b|_=>[]
noncomputable def cR(s:Stmt):a2y:=match s with
 |.FunctionDef _ _ _ _ _ _ sc _ _ _=>sc|_=>{kind:=.function,names:=[],isGenerator:=b4,isCoroutine:=b4}
noncomputable abbrev eV:j9:=λ_ _ _ _ _ _=>False
noncomputable abbrev E0:XK:=λ_ _ _=>False
theorem rH:lU eV X E0:=λ_ _ _ _ _ _ _ h=>h.elim
structure Fun(K:ZD)(x qual:Str)(st:Stmt)(f:Addr)(fd:a1Y):Prop where
 ex:∃(oc:Value)(od:Option Addr)(dV kV doc pm:Value)(an:Option Addr)(cdv ct:Value)(osl:Array (Option Value)),
  fd=a1B x qual (gZ st) (fI st) (cR st) dV kV doc pm an cdv ct/\K.lookup f=a7 ⟨oc,od,.func fd,osl⟩/\a4c K cdv qual=b5
 kp:a1z K (.ref f)=b5
theorem Fun.ok{K:ZD}{st:Stmt}(F:Fun K x a st f g)(S:FnScope N ps (cR st))(len:∀vs H Q E,sp vs H Q E->vs.length=ps.length)(c:∀b A outer s H(vs:gw)Q E,Room k (A.deeper<|envOfC a (cR st) s.heap.objs.size f b)->sp vs H Q E->
   ∃t,PSs (kS eV P w K mg base N a (cR st) f b A outer s H E).nox (fI st) t/\t {nx:=λ_ i=>Q .non i,rt:=Q} (start N vs) H):FnOk P w K mg base eV (k+1) f g ps sp:=by
 obtain⟨p,r,o,kV,j,u,n,b,ct,m,rfl,lk,d⟩:=F.ex;refine Mi lk d S len λA outer s H vs Q E l e=>?_;obtain⟨t,h,q⟩:=c b A outer s H vs Q E l e;exact⟨t,h.nox,q⟩
theorem Dv{K:ZD}{st:Stmt}{kV:Value}(l:K.lookup f=a7 ⟨i,j,.func<|a1B x a (gZ st) (fI st) (cR st) g kV d h an b ct,e⟩)(c:a4c K b a=b5)(k:a1z K (.ref f)=b5):Fun K x a st f (a1B x a (gZ st) (fI st) (cR st) g kV d h an b ct):=⟨⟨i,j,g,kV,d,h,an,b,ct,e,rfl,l,c⟩,k⟩
theorem M4(a:Room k A):A.units+1<a1W:=Nat.lt_of_le_of_lt (Nat.add_le_add_left (by decide:1<=64) _) a.units
theorem pv i(b:X.N[i]?=a7 x:=by rfl)(c:nK X.env.scope x:=by first|exact a7j rfl|exact a5R (a7j rfl)|exact a5R<|a5R rfl)(hd:(x==("__debug__":Str))=false:=by decide)(a:(x==("__classdict__":Str))=false:=by decide):PE X (.Name x pos) (xY i):=CK b c hd a
theorem nN{A:Prop}(h:B):if b4=b5 then A else B:=by rw[if_neg a0a];exact h
theorem nO{A:Prop}(h:A):if b5=b5 then A else B:=by rw[if_pos rfl];exact h
section
variable{κ:Type} [DecidableEq κ]
end
end L2
namespace L3
open PySem PySem.W
theorem left_cut{Yf:ZJ → O}{Ya:a0E → O}{hA hB hC hD:a1x → a1d}(i:∀w,(fencedOpening a2l p w N).map (λs=>(s.heap,s.gens,s.drawn,s.toks))=a7 (a3M w.params,a0K [],a1e,a6Z))(size:∀w:a0E,((a3M w.params).isNs a1b,(a3M w.params).objs.size,(a3M w.params).nsMap a1b "__annotations__")=(b5,b,g))(y:∀w a,topGo a2l p w b g u ⟨a3M w.params,a0K [],a1e,a6Z,a⟩ (topStub p)=a7 (⟨hA w.params,a0K [],a1e,kA,a⟩,⟨denote a2l<|.body (a0i p) env,.body (a0i p) env,G,[a3Q j]⟩))(x:∀w a,a6X a2l p w b g 1 l ⟨hA w.params,a0K [],a1e,kA,a⟩ (blockOf (a0i p) env (.body (a0i p) env) G [a3Q j])=a7 (.next,⟨hA w.params,a0K [],a1e,kA,a⟩,.body (a0i p) env,v))(s1:∀w a,a6X a2l p w b g 1 m ⟨hA w.params,a0K [],a1e,kA,a⟩ (a6F ((a0i p).take i1) env (.body (a0i p) env) v [a3Q j])=a7 (.next,⟨hB w.params,a0K [],a1e,A,a⟩,.body (a0i p) env,H))(s2:∀w a,a6X a2l p w b g 1 n ⟨hB w.params,a0K [],a1e,A,a⟩ (a6F (((a0i p).drop i1).take i2) env (.body (a0i p) env) H [a3Q j])=a7 (.next,⟨hC w.params,a0K [],a1e,B,a⟩,.body (a0i p) env,I))(s3:∀w a,a6X a2l p w b g 1 o ⟨hC w.params,a0K [],a1e,B,a⟩ (a6F ((((a0i p).drop i1).drop i2).take i3) env (.body (a0i p) env) I [a3Q j])=a7 (.next,⟨hD w.params,a0K [],a1e,E,a⟩,.body (a0i p) env,J))(fin:∀w a,((topRun a2l p w b g n4 ⟨hD w.params,a0K [],a1e,E,a⟩<|restOf ((((a0i p).drop i1).drop i2).drop i3) env (.body (a0i p) env) J [a3Q j]).bind λc=>match staticsOk (b0M p.main.body) (a3M w.params) c.heap&&namesBound p c.heap&&gensDone c&&laidKept (a3M w.params) c.heap with
   |true=>a7 c
   |false=>b3).map (λs=>(openSeen q loose (b0M p.main.body) Xt z s,Yf s))=a7 (openGood q loose,Ya w))(le:Nat.ble (u+(l+(m+(n+(o+n4))))) N=b5):LeftO p q loose Xt Yf Ya N z:=λw=>by
 obtain⟨⟨h,R,d,k,a⟩,e,Q⟩:=ZH.mp<|i w;obtain⟨rfl,rfl,rfl,rfl⟩:h=a3M w.params ∧ R=a0K [] ∧ d=a1e ∧ k=a6Z:=by simpa using Q
 obtain⟨z1,z2,z3⟩:_ ∧ _ ∧ _:=by simpa only[a9h]using size w
 obtain⟨s,X,Y⟩:=ZH.mp<|fin w a;obtain⟨c,T,U⟩:=ZC.mp X;have M:=b0s (s3 w a) T;rw[a2Y]at M;have L:=b0s (s2 w a) M;rw[a2Y]at L;have K:=b0s (s1 w a) L;rw[a2Y]at K;have Z:=go_top (y w a)<|piece_block (x w a) K;have r:=topRun_mono (N-(u+(l+(m+(n+(o+n4)))))) _ _ _ _ Z;rw[show u+(l+(m+(n+(o+n4))))+(N-(u+(l+(m+(n+(o+n4))))))=N by have:=Nat.le_of_ble_eq_true le;lia]at r;have t:topFrom a2l p w N ⟨a3M w.params,a0K [],a1e,a6Z,a⟩=a7 s:=by unfold topFrom;dsimp only;rw[z1,z2,z3,r];exact U
 unfold openEnds;rw[e];show(topFrom a2l p w N _).map _=_;rw[t];exact congrArg a7 Y
end L3
namespace Lw
open PySem L2
noncomputable def aK(i:Nat):Stmt:=a0P.main.body.getD i<|.Pass ⟨0,0,0,0⟩
noncomputable def fA(i j:Nat):Stmt:=match aK i with|.ClassDef _ _ _ b _ _ _ _ _ _ _=>b.getD j (.Pass ⟨0,0,0,0⟩)|_=>.Pass ⟨0,0,0,0⟩
noncomputable def Vw:a0j:={a0P with main:={a0P.main with body:=aK 0::aK 2::aK 3::aK 4::aK 6::aK 7::aK 8::aK 9::aK 10::aK 11::aK 12::aK 13::aK 14::aK 16::aK 17::aK 18::aK 19::aK 20::aK 21::aK 23::aK 24::aK 25::aK 26::aK 27::aK 29::aK 30::aK 32::aK 33::aK 34::aK 35::aK 36::aK 37::aK 38::aK 39::aK 40::aK 41::aK 42::aK 43::aK 45::aK 46::aK 47::aK 48::aK 49::aK 50::aK 51::aK 53::aK 54::aK 55::aK 56::aK 57::aK 58::aK 59::aK 60::aK 61::aK 62::aK 63::aK 64::aK 65::aK 66::aK 67::[]}}
noncomputable abbrev vS(x:String)(n:Nat):Value:=a6b (a1r x) n
noncomputable abbrev vI(i:Int):Value:=a1y i 0
noncomputable abbrev vR(a:Addr):Value:=ZZ a
noncomputable abbrev vN:Value:=a0T
noncomputable abbrev cO(fs:Array Value):Obj:={cls:=a0b "code",data:=a0B fs}
noncomputable abbrev kO(x y:String)(a b c:Nat)(l n i j k:Int)(r:Addr)(q:Int)(vs:Array Value)(t d:Int)(e:Nat):Obj:={cls:=a0b "code",data:=a0B<|#[vS x a,vS x b,vS y c,vI l,vI n,vI i,vI j,vI k,vR r,a1v b5,vI q]++vs++#[vI t,vI d,vS y e]}
noncomputable abbrev tO(fs:Array Value):Obj:={cls:=a0b "tuple",data:=a8i fs}
noncomputable abbrev fO(x:Str)(n:Nat)(m:Value)(c:Addr):Obj:=⟨a0b "function",b3,.func<|a1B x x (gZ<|aK n) (fI<|aK n) (cR<|aK n) a0T a0T a0T m b3 (ZZ c) a0T,#[]⟩
noncomputable abbrev eO(P:a1x)(x:String)(n:Nat)(v:Value):DictEntry:={hash:=PyData.keyHash P<|a1r x,key:=a6b (a1r x) n,val:=v}
noncomputable abbrev eR(P:a1x)(x:String)(n:Nat)(a:Addr):DictEntry:=eO P x n<|vR a
noncomputable abbrev kA(p:Addr×Obj)(R:ZD):ZD:=p::R
noncomputable def Dw:List String → Nat → List Value
 |[],_=>[]|x::xs,n=>vS x n::Dw xs (n+1)
noncomputable abbrev tN(xs:List String)(n:Nat):Obj:=tO<|a0K<|Dw xs n
open PySem.W in
noncomputable def lA(P:a1x):List Obj:=((boot_o_0 P)::(boot_o_1 P)::(boot_o_2 P)::(boot_o_3 P)::(boot_o_4 P)::(boot_o_5 P)::(boot_o_6 P)::(boot_o_7 P)::(boot_o_8 P)::(boot_o_9 P)::(boot_o_10 P)::(tO #[])::({cls:=vN,data:=a0B #[]})::(cO #[vS "<module>" 182,vS "<module>" 183,vS "/claim/cut.py" 184,vI 1,vI 0,vI 0,vI 0,vI 0,vR 11,a1v b4,vI 181,vR 12,vN,vN,vN,vN,vI 185,vI 1,vS "/claim/cut.py" 186])::({cls:=a0b "frame",slots:=#[a7 (vR 13),a7 (vR 3),a7 (vR 3),b3,a7 (vS "__main__" 164),b3,a7 (vR 0)]})::[])
open PySem.W in
noncomputable def cC(h:List String)(b:Nat)(c:String)(d:Nat)(e:Nat)(i:Nat)(a:Nat)(g:Nat)(j:String)(k:Nat)(R:List Obj):List Obj:=(tO #[])::({cls:=vN,data:=a0B #[]})::(tN h b)::(tO #[])::(⟨vN,b3,.func<|{a1B c c (gZ<|aK d) (fI<|aK d) (cR<|aK d) vN vN vN vN (b3) vN vN with globals:=0},#[]⟩)::(kO c "/claim/cut.py" (b-3) (b-2) (b-1) e i 0 0 3 a 181 #[vR (a+1),vN,vR (a+2),vR (a+3),vR (a+4)] g e<|g+1)::(fO c d (vS j k)<|a+5)::R
open PySem.W in
noncomputable def Dx(P:a1x)(a:Nat)(c:String)(d:Nat)(b:Nat)(R:List Obj):List Obj:=(tO #[vR 31])::({cls:=a0b "builtin_function_or_method",data:=a0B #[a1A "type.__prepare__",a0b "type"]})::({cls:=a0b "dict",data:=a3B #[eO P "__module__" a (vS "creasecourt.errors" 194),eO P "__qualname__" (a+2) (vS c<|a+1),eO P "__firstlineno__" (a+4) (a1y d<|a+3),eR P "__static_attributes__" (a+5) b] 4})::(tO #[])::({cls:=vN,data:=a0B #[]})::(cO #[vS c (a-5),vS c (a-4),vS "/claim/cut.py" (a-3),vI d,vI 0,vI 0,vI 0,vI 0,vR (b-4),a1v b4,vI 181,vR (b-3),vN,vN,vN,vN,vI (a-2),vI d,vS "/claim/cut.py" (a-1)])::({cls:=a0b "frame",slots:=#[a7 (vR<|b-2),a7 (vR 3),a7 (vR<|b-5),b3,a7 (vS "creasecourt.errors" 194),b3,a7 (vR 0)]})::(tO #[])::({cls:=a0b "dict",data:=a3B #[eO P "__module__" a (vS "creasecourt.errors" 194),eO P "__firstlineno__" (a+4) (a1y d<|a+3),eR P "__static_attributes__" (a+5) b,eO P "__doc__" (a+6) vN] 2})::({cls:=a0b "type",data:=a9K {name:=a1r c,bases:=[vR 31],mro:=[vR<|b+2,vR 31,a0b "ValueError",a0b "Exception",a0b "BaseException",a0b "object"],ns:=(b+1),qualname:=a1r c},slots:=#[a7 (vR<|b-7),b3,a7 (vS c<|a-7),a7 (vS c<|a+1),a7 (a1A "ValueError.__new__"),a7 (a1v b5)]})::({cls:=a0b "super",data:=a0B #[vR (b+2),vR (b+2),vR (b+2)]})::({cls:=a0b "builtin_function_or_method",data:=a0B #[a1A "object.__init_subclass__",vR (b+2)]})::R
open PySem.W in
noncomputable def hU(b:String)(c:Nat)(a:Nat)(e:Nat)(g:Nat)(d:Nat)(h:String)(i:Nat)(R:List Obj):List Obj:=(tO #[])::({cls:=vN,data:=a0B #[]})::(⟨vN,b3,.func<|{a1B b b (gZ<|aK c) (fI<|aK c) (cR<|aK c) vN vN vN vN (b3) vN vN with globals:=0},#[]⟩)::(kO b "/claim/cut.py" a (a+1) (a+2) e g 0 0 3 d 181 #[vR (d+1),vN,vN,vN,vR (d+2)] (a+3) e<|a+4)::(fO b c (vS h i)<|d+3)::R
open PySem.W in
noncomputable def nQ(b:String)(c:String)(a:Nat)(R:List Obj):List Obj:=(⟨vN,b3,.func<|{a1B b c (gZ<|fA 51 a) (fI<|fA 51 a) (cR<|fA 51 a) vN vN vN vN (b3) vN vN with globals:=0},#[]⟩)::R
open PySem.W in
noncomputable def o9(e:String)(b:Nat)(g:String)(c:Nat)(h:Nat)(a:Nat)(d:Nat)(R:List Obj):List Obj:=(cO #[vS e b,vS g (b+1),vS "/claim/cut.py" (b+2),vI c,vI h,vI 0,vI 0,vI 3,vR a,a1v b5,vI 181,vR (a+1),vN,vR (a+2),vR (a+3),vR (a+4),vI d,vI c,vS "/claim/cut.py" (d+1)])::R
open PySem.W in
noncomputable def pE(b:String)(c:String)(a:Nat)(d:Nat)(R:List Obj):List Obj:=(⟨a0b "function",b3,.func<|a1B b c (gZ<|fA 51 a) (fI<|fA 51 a) (cR<|fA 51 a) vN vN vN (vS "creasecourt.folding" 528) (b3) (vR d) vN,#[]⟩)::R
open PySem.W in
noncomputable def lN(P:a1x):List DictEntry:=[eO P "__doc__" 166 vN,eO P "__package__" 167 vN,eO P "__loader__" 168<|a1A "__main__.__loader__#opaque",eO P "__spec__" 169 vN,eR P "__annotations__" 170 6,eR P "__builtins__" 171 4,eO P "__file__" 173<|vS "/claim/cut.py" 172,eO P "__cached__" 174 vN,eR P "_wall" 193 21,eR P "CreaseError" 213 31,eR P "NoSize" 229 44,eR P "NoFold" 245 56,eR P "is_whole" 254 65,eR P "is_edge" 261 72,eR P "is_quarter" 268 79,eR P "line_of" 275 86,eR P "beside" 284 93,eR P "sides_of" 290 98,eR P "number_by" 298 105,eR P "hand_of" 308 112,eR P "mirrored" 320 119,eR P "STILL" 329 120,eR P "laying_by" 338 127,eR P "mirror_in" 345 134,eR P "led" 355 141,eR P "then" 363 148,eR P "is_turned" 370 155,eR P "is_size" 379 162,eR P "check_size" 387 169,eR P "places_within" 393 174,eR P "quarters_in" 399 179,eR P "edges_in" 405 184,eR P "stacks" 416 191,eR P "edges_laid" 426 198,eR P "are_piles" 434 203,eR P "heights_in" 445 210,eR P "quarters_at" 451 215,eR P "joined_at" 457 220,eR P "count_between" 463 225,eR P "is_above" 472 232,eR P "crosses" 483 239,eR P "crossing_at" 489 244,eR P "crossing" 502 251,eR P "turned_first" 511 258,eR P "mark_by_heights" 521 265,eR P "marks_by" 527 270,eR P "copied_piles" 539 277,eR P "folded_layings" 553 284,eR P "folded_piles" 569 291,eR P "check_fold" 575 296,eR P "creased_edges" 587 303,eR P "unfolded" 598 310,eR P "Folding" 676 368,eR P "_law_cell" 687 379,eR P "_law_quarters" 698 386,eR P "_law_inner" 709 393,eR P "_law_beside" 718 400,eR P "_law_led" 732 407,eR P "_law_over" 748 414,eR P "_law_value" 756 421,eR P "_law_begun" 767 428,eR P "_law_folded" 773 433,eR P "_law_plan" 788 440,eR P "_law_go" 807 447,eR P "_law_spots" 819 454,eR P "_law_amid" 825 459,eR P "_law_cross" 831 464,eR P "law" 850 471]
noncomputable def lM:gq:=List.flatMap (λp:Nat×Nat=>[vI p.1,vI 0,vR p.2]) [(1,20),(5,27),(7,40),(9,52),(12,64),(14,71),(18,78),(22,85),(26,92),(30,97),(32,104),(40,111),(46,118),(60,126),(62,133),(64,140),(68,147),(70,154),(73,161),(75,168),(78,173),(83,178),(85,183),(88,190),(93,197),(99,202),(104,209),(110,214),(112,219),(114,224),(118,231),(120,238),(127,243),(135,250),(141,257),(146,264),(149,269),(153,276),(158,283),(165,290),(177,295),(181,302),(188,309),(195,316),(227,378),(234,385),(241,392),(248,399),(255,406),(258,413),(268,420),(270,427),(277,432),(297,439),(309,446),(321,453),(331,458),(334,463),(349,470)]
open PySem.W in
noncomputable def lB(P:a1x):List Obj:=(((lA P).set 3<|{cls:=a0b "dict",data:=a3B (a0K<|eO P "__name__" 165 (vS "creasecourt.places" 246)::(lN P).take 12) 13}).set 12<|{cls:=vN,data:=a0B<|a0K<|lM.take 12})++(cC ["k"] 190 "_wall" 0 1 1 15 191 "__main__" 164<|(tO #[a0b "ValueError"])::(({cls:=a0b "builtin_function_or_method",data:=a0B #[a1A "type.__prepare__",a0b "type"]})::(({cls:=a0b "dict",data:=a3B #[eO P "__module__" 203 (vS "creasecourt.errors" 194),eO P "__qualname__" 205 (vS "CreaseError" 204),eO P "__firstlineno__" 207 (a1y 5 206),eR P "__static_attributes__" 208 29] 4})::((tO #[])::(({cls:=vN,data:=a0B #[]})::((cO #[vS "CreaseError" 198,vS "CreaseError" 199,vS "/claim/cut.py" 200,vI 5,vI 0,vI 0,vI 0,vI 0,vR 25,a1v b4,vI 181,vR 26,vN,vN,vN,vN,vI 201,vI 5,vS "/claim/cut.py" 202])::(({cls:=a0b "frame",slots:=#[a7 (vR 27),a7 (vR 3),a7 (vR 24),b3,a7 (vS "creasecourt.errors" 194),b3,a7 (vR 0)]})::((tO #[])::(({cls:=a0b "dict",data:=a3B #[eO P "__module__" 203 (vS "creasecourt.errors" 194),eO P "__firstlineno__" 207 (a1y 5 206),eR P "__static_attributes__" 208 29,eR P "__weakref__" 210 32,eO P "__doc__" 211 vN] 3})::(({cls:=a0b "type",data:=a9K {name:=a1r "CreaseError",bases:=[a0b "ValueError"],mro:=[vR 31,a0b "ValueError",a0b "Exception",a0b "BaseException",a0b "object"],ns:=30,qualname:=a1r "CreaseError",subclasses:=[vR 44,vR 56]},slots:=#[a7 (vR 22),b3,a7 (vS "CreaseError" 196),a7 (vS "CreaseError" 204),a7 (a1A "ValueError.__new__"),a7 (a1v b5)]})::(({cls:=a0b "getset_descriptor",data:=a0B #[vS "__weakref__" 209,vR 31,a1A "ExceptionGroup.__weakref__",vN]})::(({cls:=a0b "super",data:=a0B #[vR 31,vR 31,vR 31]})::(({cls:=a0b "builtin_function_or_method",data:=a0B #[a1A "object.__init_subclass__",vR 31]})::(Dx P 221 "NoSize" 7 42<|Dx P 237 "NoFold" 9 54 []))))))))))))))
open PySem.W in
noncomputable def lC(P:a1x):List Obj:=(((lB P).set 3<|{cls:=a0b "dict",data:=a3B (a0K<|eO P "__name__" 165 (vS "creasecourt.piles" 427)::(lN P).take 40) 41}).set 12<|{cls:=vN,data:=a0B<|a0K<|lM.take 93})++(cC ["value"] 251 "is_whole" 6 12 1 59 252 "creasecourt.places" 246<|cC ["place"] 258 "is_edge" 7 14 1 66 259 "creasecourt.places" 246<|cC ["place"] 265 "is_quarter" 8 18 1 73 266 "creasecourt.places" 246<|cC ["edge"] 272 "line_of" 9 22 1 80 273 "creasecourt.places" 246<|cC ["place","x","y"] 279 "beside" 10 26 1 87 282 "creasecourt.places" 246<|hU "sides_of" 11 285 30 1 94 "creasecourt.places" 246<|cC ["line","place"] 294 "number_by" 12 32 2 99 296 "creasecourt.places" 246<|cC ["place","edge","line","ahead"] 302 "hand_of" 13 40 2 106 306 "creasecourt.places" 246<|cC ["place","edge","x","y","line","number"] 312 "mirrored" 14 46 2 113 318 "creasecourt.places" 246<|(tO #[a1y 1 323,a1y 0 324,a1y 0 325,a1y 1 326,a1y 0 327,a1y 0 328])::(cC ["start","right","down"] 333 "laying_by" 17 60 3 121 336 "creasecourt.layings" 321<|cC ["edge"] 342 "mirror_in" 18 62 1 128 343 "creasecourt.layings" 321<|cC ["laying","place","x","y"] 349 "led" 19 64 2 135 353 "creasecourt.layings" 321<|cC ["one","other"] 359 "then" 20 68 2 142 361 "creasecourt.layings" 321<|cC ["laying"] 367 "is_turned" 21 70 1 149 368 "creasecourt.layings" 321<|cC ["value"] 376 "is_size" 23 73 1 156 377 "creasecourt.sheets" 371<|cC ["wide","high"] 383 "check_size" 24 75 2 163 385 "creasecourt.sheets" 371<|hU "places_within" 25 388 78 2 170 "creasecourt.sheets" 371<|hU "quarters_in" 26 394 83 2 175 "creasecourt.sheets" 371<|hU "edges_in" 27 400 85 2 180 "creasecourt.sheets" 371<|cC ["layings","told","quarter"] 411 "stacks" 29 88 1 185 414 "creasecourt.laid" 406<|cC ["sheet","layings","told","edge"] 420 "edges_laid" 30 93 2 192 424 "creasecourt.laid" 406<|hU "are_piles" 32 429 99 2 199 "creasecourt.piles" 427<|cC ["piles","heights","pile","height","quarter"] 438 "heights_in" 33 104 1 204 443 "creasecourt.piles" 427<|hU "quarters_at" 34 446 110 3 211 "creasecourt.piles" 427<|hU "joined_at" 35 452 112 3 216 "creasecourt.piles" 427<|hU "count_between" 36 458 114 3 221 "creasecourt.piles" 427<|cC ["heights","one","other"] 467 "is_above" 37 118 3 226 470 "creasecourt.piles" 427 []))
open PySem.W in
noncomputable def lD(P:a1x):List Obj:=(((lC P).set 3<|{cls:=a0b "dict",data:=a3B (a0K<|eO P "__name__" 165 (vS "law_creasecourt_k83_whole_nothing_crosses" 677)::(lN P).take 68) 69}).set 12<|{cls:=vN,data:=a0B<|a0K<|lM.take 177})++(cC ["heights","one","other","ours","theirs"] 476 "crosses" 38 120 3 233 481 "creasecourt.piles" 427<|hU "crossing_at" 39 484 127 4 240 "creasecourt.piles" 427<|cC ["sheet","layings","piles","heights","pairs","place","edges"] 493 "crossing" 40 135 3 245 500 "creasecourt.piles" 427<|cC ["layings","edge","sides"] 506 "turned_first" 41 141 2 252 509 "creasecourt.piles" 427<|cC ["heights","layings","edge","sides"] 515 "mark_by_heights" 42 146 3 259 519 "creasecourt.piles" 427<|hU "marks_by" 43 522 149 3 266 "creasecourt.piles" 427<|cC ["piles","told","place","pile"] 533 "copied_piles" 45 153 1 271 537 "creasecourt.folding" 528<|cC ["layings","edge","side","mirror","told","quarter","laying","goes"] 543 "folded_layings" 46 158 3 278 551 "creasecourt.folding" 528<|cC ["piles","edge","side","over","told","place","pile","goal","coming","there"] 557 "folded_piles" 47 165 4 285 567 "creasecourt.folding" 528<|hU "check_fold" 48 570 177 2 292 "creasecourt.folding" 528<|cC ["wide","high","layings","told","edge","sides"] 579 "creased_edges" 49 181 3 297 585 "creasecourt.folding" 528<|cC ["wide","high","layings","piles","quarter"] 591 "unfolded" 50 188 2 304 596 "creasecourt.folding" 528<|(tO #[])::(({cls:=a0b "builtin_function_or_method",data:=a0B #[a1A "type.__prepare__",a0b "type"]})::(({cls:=a0b "dict",data:=a3B #[eO P "__module__" 606 (vS "creasecourt.folding" 528),eO P "__qualname__" 608 (vS "Folding" 607),eO P "__firstlineno__" 610 (a1y 195 609),eR P "__init__" 619 324,eR P "fold" 631 332,eR P "back" 638 339,eR P "many" 645 346,eR P "layings" 652 353,eR P "piles" 659 360,eR P "sheet" 665 365,eR P "__static_attributes__" 669 366] 11})::((tO #[])::(({cls:=vN,data:=a0B #[vI 197,vI 4,vR 323,vI 203,vI 4,vR 331,vI 209,vI 4,vR 338,vI 212,vI 4,vR 345,vI 215,vI 4,vR 352,vI 218,vI 4,vR 359,vI 221,vI 4,vR 364]})::((cO #[vS "Folding" 601,vS "Folding" 602,vS "/claim/cut.py" 603,vI 195,vI 0,vI 0,vI 0,vI 0,vR 314,a1v b4,vI 181,vR 315,vN,vN,vN,vN,vI 604,vI 195,vS "/claim/cut.py" 605])::(({cls:=a0b "frame",slots:=#[a7 (vR 316),a7 (vR 3),a7 (vR 313),b3,a7 (vS "creasecourt.folding" 528),b3,a7 (vR 0)]})::((tO #[])::(({cls:=vN,data:=a0B #[]})::((tN ["self","wide","high"] 614)::((tO #[])::(nQ "__init__" "Folding.__init__" 0<|o9 "__init__" 611 "Folding.__init__" 197 3 318 617<|pE "__init__" "Folding.__init__" 0 323<|(tO #[a1v b5,a1v b5])::((tO #[])::(({cls:=vN,data:=a0B #[]})::((tN ["self","edge","ahead","over","now","side"] 623)::((tO #[])::(nQ "fold" "Folding.fold" 1<|o9 "fold" 620 "Folding.fold" 203 4 326 629<|(⟨a0b "function",b3,.func<|a1B "fold" "Folding.fold" (gZ<|fA 51 1) (fI<|fA 51 1) (cR<|fA 51 1) (vR 325) vN vN (vS "creasecourt.folding" 528) (b3) (vR 331) vN,#[]⟩)::((tO #[])::(({cls:=vN,data:=a0B #[]})::((tN ["self"] 635)::((tO #[])::(nQ "back" "Folding.back" 2<|o9 "back" 632 "Folding.back" 209 1 333 636<|pE "back" "Folding.back" 2 338<|(tO #[])::(({cls:=vN,data:=a0B #[]})::((tN ["self"] 642)::((tO #[])::(nQ "many" "Folding.many" 3<|o9 "many" 639 "Folding.many" 212 1 340 643<|pE "many" "Folding.many" 3 345<|(tO #[])::(({cls:=vN,data:=a0B #[]})::((tN ["self"] 649)::((tO #[])::(nQ "layings" "Folding.layings" 4<|o9 "layings" 646 "Folding.layings" 215 1 347 650<|pE "layings" "Folding.layings" 4 352<|(tO #[])::(({cls:=vN,data:=a0B #[]})::((tN ["self"] 656)::((tO #[])::(nQ "piles" "Folding.piles" 5<|o9 "piles" 653 "Folding.piles" 218 1 354 657<|pE "piles" "Folding.piles" 5 359<|(tO #[])::(({cls:=vN,data:=a0B #[]})::(nQ "sheet" "Folding.sheet" 6<|(cO #[vS "sheet" 660,vS "Folding.sheet" 661,vS "/claim/cut.py" 662,vI 221,vI 1,vI 0,vI 0,vI 3,vR 361,a1v b5,vI 181,vR 362,vN,vN,vN,vR 363,vI 663,vI 221,vS "/claim/cut.py" 664])::(pE "sheet" "Folding.sheet" 6 364<|(tN ["high","states","wide"] 666)::(({cls:=a0b "dict",data:=a3B #[eO P "__module__" 606 (vS "creasecourt.folding" 528),eO P "__firstlineno__" 610 (a1y 195 609),eR P "__init__" 619 324,eR P "fold" 631 332,eR P "back" 638 339,eR P "many" 645 346,eR P "layings" 652 353,eR P "piles" 659 360,eR P "sheet" 665 365,eR P "__static_attributes__" 669 366,eR P "__dict__" 671 369,eR P "__weakref__" 673 370,eO P "__doc__" 674 vN] 4})::(({cls:=a0b "type",data:=a9K {name:=a1r "Folding",bases:=[a0b "object"],mro:=[vR 368,a0b "object"],ns:=367,qualname:=a1r "Folding" },slots:=#[b3,b3,a7 (vS "Folding" 599),a7 (vS "Folding" 607),a7 (a1A "object.__new__"),a7 (a1v b5)]})::(({cls:=a0b "getset_descriptor",data:=a0B #[vS "__dict__" 670,vR 368,a1A "function.__dict__",a1A "function.__dict__#set"]})::(({cls:=a0b "getset_descriptor",data:=a0B #[vS "__weakref__" 672,vR 368,a1A "ExceptionGroup.__weakref__",vN]})::(({cls:=a0b "super",data:=a0B #[vR 368,vR 368,vR 368]})::(({cls:=a0b "builtin_function_or_method",data:=a0B #[a1A "object.__init_subclass__",vR 368]})::(cC ["_law_script","_law_k","_law_number"] 682 "_law_cell" 53 227 2 373 685 "law_creasecourt_k83_whole_nothing_crosses" 677<|cC ["_law_wide","_law_high","_law_found","_law_x","_law_y"] 691 "_law_quarters" 54 234 2 380 696 "law_creasecourt_k83_whole_nothing_crosses" 677<|cC ["_law_wide","_law_high","_law_found","_law_x","_law_y"] 702 "_law_inner" 55 241 2 387 707 "law_creasecourt_k83_whole_nothing_crosses" 677<|cC ["_law_edge","_law_x","_law_y"] 713 "_law_beside" 56 248 1 394 716 "law_creasecourt_k83_whole_nothing_crosses" 677<|cC ["_law_laying","_law_place","_law_a","_law_b","_law_c","_law_d","_law_e","_law_f"] 722 "_law_led" 57 255 2 401 730 "law_creasecourt_k83_whole_nothing_crosses" 677<|cC ["_law_laying","_law_line","_law_a","_law_b","_law_c","_law_d","_law_e","_law_f","_law_kind","_law_n"] 736 "_law_over" 58 258 2 408 746 "law_creasecourt_k83_whole_nothing_crosses" 677<|cC ["_law_place","_law_kind"] 752 "_law_value" 59 268 2 415 754 "law_creasecourt_k83_whole_nothing_crosses" 677<|cC ["_law_wide","_law_high","_law_layings","_law_piles","_law_quarter"] 760 "_law_begun" 60 270 2 422 765 "law_creasecourt_k83_whole_nothing_crosses" 677<|hU "_law_folded" 61 768 277 4 429 "law_creasecourt_k83_whole_nothing_crosses" 677<|cC ["_law_state","_law_number","_law_far","_law_kind","_law_places","_law_near","_law_n","_law_j","_law_edge"] 777 "_law_plan" 62 297 3 434 786 "law_creasecourt_k83_whole_nothing_crosses" 677<|cC ["_law_script","_law_most","_law_steps","_law_wide","_law_high","_law_one","_law_state","_law_k","_law_edge","_law_line","_law_ahead","_law_over_here","_law_after"] 792 "_law_go" 63 309 3 441 805 "law_creasecourt_k83_whole_nothing_crosses" 677<|cC ["_law_layings","_law_piles","_law_found","_law_place","_law_k","_law_quarter"] 811 "_law_spots" 64 321 2 448 817 "law_creasecourt_k83_whole_nothing_crosses" 677<|hU "_law_amid" 65 820 331 3 455 "law_creasecourt_k83_whole_nothing_crosses" 677<|hU "_law_cross" 66 826 334 3 460 "law_creasecourt_k83_whole_nothing_crosses" 677<|cC ["_law_script","_law_wide","_law_high","_law_one","_law_layings","_law_piles","_law_spots_here","_law_lines","_law_edge","_law_two","_law_place","_law_other","_law_sheet"] 835 "law" 67 349 1 465 848 "law_creasecourt_k83_whole_nothing_crosses" 677 []))))))))))))))))))))))))))))))))))))))))))))
noncomputable def As:List Addr:=[3,2,29,30,31,32,42,43,44,54,55,56,64,65,71,72,78,79,85,86,92,93,97,98,104,105,111,112,118,119,120,126,127,133,134,140,141,147,148,154,155,161,162,168,169,173,174,178,179,183,184,190,191,197,198,202,203,209,210,214,215,219,220,224,225,231,232,238,239,243,244,250,251,257,258,264,265,269,270,276,277,283,284,290,291,295,296,302,303,309,310,323,324,325,331,332,338,339,345,346,352,353,359,360,364,365,366,367,368,369,370,378,379,385,386,392,393,399,400,406,407,413,414,420,421,427,428,432,433,439,440,446,447,453,454,458,459,463,464,470,471]
noncomputable def Kx:a1x → ZD:=λP=>As.map λa=>(a,((lD P)[a]?).getD<|tO #[])
theorem rJ:∀P,As=(Kx P).map (·.1):=λ_=>by kernel_rfl
noncomputable def vE:a5t:={scope:=a0P.main.scope,locals:=mainNs,globals:=mainNs,cells:=[],code:=ZZ 13,frame:=a7 14}
open PySem.W PyProof.Rows in
set_option maxRecDepth 100000 in
set_option maxHeartbeats 0 in
theorem M5(w:a0E)(a:a4B):topGo a2l (a0U ZI).prog w 11 (a7<|ZZ 6) 12 ⟨a3M w.params,a0K [],a1e,a6Z,a⟩ (topStub (a0U ZI).prog)=a7 (⟨⟨a0K<|lA w.params,{}⟩,a0K [],a1e,187,a⟩,⟨denote a2l<|.body (a0i (a0U ZI).prog) vE,(.body (a0i (a0U ZI).prog) vE),⟨0,0,0,0⟩,[a3Q ⟨0,0,0,0⟩]⟩):=by kernel_rfl
open PySem.W PyProof.Rows in
set_option maxRecDepth 100000 in
set_option maxHeartbeats 0 in
theorem M6(w:a0E)(a:a4B):a6X a2l (a0U ZI).prog w 11 (a7<|ZZ 6) 1 1 ⟨⟨a0K<|lA w.params,{}⟩,a0K [],a1e,187,a⟩ (blockOf (a0i (a0U ZI).prog) vE (.body (a0i (a0U ZI).prog) vE) ⟨0,0,0,0⟩ [a3Q ⟨0,0,0,0⟩])=a7 (.next,⟨⟨a0K<|lA w.params,{}⟩,a0K [],a1e,187,a⟩,(.body (a0i (a0U ZI).prog) vE),⟨0,0,0,0⟩):=by kernel_rfl
open PySem.W PyProof.Rows in
set_option maxRecDepth 100000 in
set_option maxHeartbeats 0 in
theorem M7 w a:a6X a2l (a0U ZI).prog w 11 (a7<|ZZ 6) 1 660 ⟨⟨a0K<|lA w.params,{}⟩,a0K [],a1e,187,a⟩ (a6F ((a0i (a0U ZI).prog).take 6) vE (.body (a0i (a0U ZI).prog) vE) ⟨0,0,0,0⟩ [a3Q ⟨0,0,0,0⟩])=a7 (.next,⟨⟨a0K<|lB w.params,{}⟩,a0K [],a1e,248,a⟩,(.body (a0i (a0U ZI).prog) vE),⟨11,0,11,8⟩):=by kernel_rfl
open PySem.W PyProof.Rows in
set_option maxRecDepth 100000 in
set_option maxHeartbeats 0 in
theorem M8 w a:a6X a2l (a0U ZI).prog w 11 (a7<|ZZ 6) 1 841 ⟨⟨a0K<|lB w.params,{}⟩,a0K [],a1e,248,a⟩ (a6F (((a0i (a0U ZI).prog).drop 6).take 32) vE (.body (a0i (a0U ZI).prog) vE) ⟨11,0,11,8⟩ [a3Q ⟨0,0,0,0⟩])=a7 (.next,⟨⟨a0K<|lC w.params,{}⟩,a0K [],a1e,473,a⟩,(.body (a0i (a0U ZI).prog) vE),⟨118,0,119,40⟩):=by kernel_rfl
open PySem.W PyProof.Rows in
set_option maxRecDepth 100000 in
set_option maxHeartbeats 0 in
theorem M9 w a:a6X a2l (a0U ZI).prog w 11 (a7<|ZZ 6) 1 1311 ⟨⟨a0K<|lC w.params,{}⟩,a0K [],a1e,473,a⟩ (a6F ((((a0i (a0U ZI).prog).drop 6).drop 32).take 30) vE (.body (a0i (a0U ZI).prog) vE) ⟨118,0,119,40⟩ [a3Q ⟨0,0,0,0⟩])=a7 (.next,⟨⟨a0K<|lD w.params,{}⟩,a0K [],a1e,851,a⟩,(.body (a0i (a0U ZI).prog) vE),⟨349,0,365,113⟩):=by kernel_rfl
open PySem.W PyProof.Rows in
set_option maxRecDepth 100000 in
set_option maxHeartbeats 0 in
theorem run:LeftO (a0U ZI).prog Vw [] (λs=>xlAt Vw [] s&&recOk (b0k<|a8U<|a0U ZI) s) (Hook.obs<|b1w Kx As rJ) (Hook.val<|b1w Kx As rJ) 5744:=
 L3.left_cut (hA:=λP=>⟨a0K<|lA P,{}⟩) (hB:=λP=>⟨a0K<|lB P,{}⟩) (hC:=λP=>⟨a0K<|lC P,{}⟩) (hD:=λP=>⟨a0K<|lD P,{}⟩) (n4:=201) (i1:=6) (i2:=32) (i3:=30) (env:=vE) (boot_open (by kernel_rfl) (by kernel_rfl) λ_=>by kernel_rfl) (λw=>by kernel_rfl) M5 M6 M7 M8 M9 (λw a=>by kernel_rfl)<|by kernel_rfl
end Lw
set_option maxHeartbeats 4000000
namespace L3
open PySem
open PySem.SetTable (Probe Met Slot bits runEnd leap turns insertAt sizeAbove)
namespace Tb
noncomputable def Na(m:Nat)(p:Probe):Probe:=
 if p.more>0 then{p with j:=p.j+1,more:=p.more-1}else
 {p with j:=(leap m p.i p.perturb).1,more:=runEnd m (leap m p.i p.perturb).1-(leap m p.i p.perturb).1,i:=(leap m p.i p.perturb).1,perturb:=(leap m p.i p.perturb).2}
noncomputable def Nb(m:Nat)(b:Nat):Probe:={j:=b%(m+1),more:=runEnd m (b%(m+1))-b%(m+1),i:=b%(m+1),perturb:=b,dummy:=b3}
noncomputable def yV(m b:Nat):Nat->Probe
 |0=>Nb m b|k+1=>Na m<|yV m b k
noncomputable def lp(m b:Nat):Nat->Nat×Nat
 |0=>(b%(m+1),b)|n+1=>leap m (lp m b n).1 (lp m b n).2
noncomputable def hd(m i q:Nat):Probe:={j:=i,more:=runEnd m i-i,i:=i,perturb:=q,dummy:=b3}
noncomputable def nx(m i:Nat):Nat:=(i*5+1)%(m+1)
noncomputable def Dy(m:Nat):Nat->Nat->Nat
 |0,i=>i|n+1,i=>Dy m n<|nx m i
noncomputable def nR(m:Nat):Nat->Nat->Nat->Nat
 |0,_,acc=>acc|f+1,i,acc=>nR m f (nx m i)<|acc ||| (1 <<< i)
noncomputable def Nc(m:Nat):Bool:=nR m (m+1) 0 0==2^(m+1)-1&&Dy m (m+1) 0==0
noncomputable def Dz(m:Nat)(S:List Nat)(b j:Nat):Prop:=∃k,(yV m b k).j=j/\∀k',k'<k->(yV m b k').j∈S
noncomputable abbrev uJ:=Nat×Int×Value
structure Ok(t:a9y)(R:List uJ):Prop where
 place:t.place.toList=R.map (·.1)
 dum:t.dummies=#[]
 rise:(R.map (·.1)).Pairwise (·<·)
 le:∀r∈R,r.1<=t.mask
 cov:Nc t.mask=b5
 odd:t.mask%2=1
 room:R.length<=t.mask
 road:∀r∈R,Dz t.mask (R.map (·.1)) (bits r.2.1) r.1
theorem Ok.size(o:Ok t R):t.place.size=R.length:=by have:=congrArg a0F o.place;simpa using this
theorem Ok.getD(o:Ok t R)(hi:i<R.length):t.place.getD i 0=(R[i]).1:=by
 have h:t.place.toList[i]?=(R.map (·.1))[i]?:=by rw[o.place]
 have a:i<t.place.size:=by rw[o.size];exact hi
 simp[hi,a]at h;simp[a4p,a,h]
noncomputable def lv(m:Nat)(a:Array (Option Nat)):List (Nat×Nat):=(a0L<|m+1).filterMap λj=>(a.getD j b3).map (j,·)
structure Ow(m:Nat)(ds:List Int)(ow:Array (Option Nat)):Prop where
 size:ow.size=m+1
 lt:∀j i,ow.getD j b3=a7 i->i<ds.length
 all:∀i,i<ds.length->∃j,ow.getD j b3=a7 i
 inj:∀j j' i,ow.getD j b3=a7 i->ow.getD j' b3=a7 i->j=j'
 road:∀j i,ow.getD j b3=a7 i->Dz m ((lv m ow).map (·.1)) (bits<|ds.getD i 0) j
theorem Ow.nil m:Ow m [] (a6x (m+1) b3):=by
 have e:∀j,(a6x (m+1) (b3:Option Nat)).getD j b3=none:=λj=>by simp[a4p]
 have a:∀{P:Prop}(j i:Nat),(a6x (m+1) (b3:Option Nat)).getD j b3=a7 i->P:=λj i h=>by rw[e]at h;exact nomatch h
 exact⟨by simp,λj i h=>a j i h,λi h=>absurd h<|a5g _,λj b i h _=>a j i h,λj i h=>a j i h⟩
end Tb
end L3
namespace L3
open PySem
open PySem.SetTable (Probe Met Slot bits runEnd leap turns insertAt sizeAbove)
namespace Tb
section
variable{prog:a0j}{w:a0E}{K:Type} [DecidableEq K] {knd:KeyKind prog w K}{A:a0y}{E:Value->ZJ->Prop}{s:ZJ}
theorem fits_of{a:Array (Int×Value)}(o:Ok t R)(d:a.toList=R.map (·.2)):t.fits a.size=true:=by
 have b:a.size=R.length:=by simpa using congrArg a0F d
 have c:=o.room;unfold SetTable.fits SetTable.fill;rw[o.size,b,o.dum];simp;exact c
end
noncomputable abbrev El:=List Int×Addr
noncomputable def hashT(k:List Int):Int:=reduceHash<|b0G<|k.map hashInt
noncomputable def Nd(p:El):Int×Value:=(hashT p.1,ZZ p.2)
noncomputable def Nf(m:Nat):Prop:=m=7\/m=31\/m=127\/m=511
noncomputable def Ng(w:a0E):Bool:=w.params.followText "set-order"
noncomputable def Nh(b:Bool)(L:List El)(o:Obj):Prop:=∃a c t R,o.ExactSet/\o.data=.set a c t/\a.toList=R.map (·.2)/\Ok t R/\a.toList.Perm (L.map Nd)/\(L.map (·.1)).Nodup/\Nf t.mask/\L.length*5<t.mask*3/\t.plain=b5/\t.led=b
noncomputable def SObj(L:List El)(o:Obj):Prop:=∃a,Nh a L o
end Tb
end L3
namespace L3
open PySem
namespace Tb
section
variable{prog:a0j}{w:a0E}{A:a0y}{E:Value->ZJ->Prop}{s:ZJ}
structure SAt(w:a0E)(h:a1d)(a:Addr)(es:Array (Int×Value))(ep:Nat)(t:a9y)(R:List uJ):Prop where
 at_:∃o,h.get? a=a7 o/\o.cls=.type "set"/\o.data=.set es ep t
 he:es.toList=R.map (·.2)
 ok:Ok t R
 pl:t.plain=b5
 led:t.led=!Ng w
end
end Tb
end L3
namespace L3
open PySem L2
inductive D where
 |non|bl (b:Bool)|int (i:Int)|str (x:Str)|tup (xs:List D)|rol (xs:List D)|loc (a:Nat)|ty (n:String)
 deriving Inhabited
inductive C where
 |lst (xs:List D)
 |dK (kvs:List (cH×D))
 |st (ks:List (List Int))
 |dT (kvs:List (List Int×D))
 |dF (kvs:List (List Int×D))
 |ins (x:Str)(fs:List (Str×D))
 deriving Inhabited
noncomputable abbrev Hm:=List C
noncomputable abbrev aI:=List<|Option D
noncomputable abbrev ME:=aI->Hm->Option (D×Hm)
noncomputable abbrev MT:=aI->Hm->Option (Bool×Hm)
noncomputable abbrev MA:=aI->Hm->Option (List D×Hm)
abbrev jk:=Option<|D×Hm
abbrev jx:=List<|List Int×D
abbrev jz:=D×Hm->Prop
inductive Fl where
 |nx|rt (d:D)|bk|ct
noncomputable abbrev MS:=aI->Hm->Option (Fl×aI×Hm)
noncomputable abbrev MF:=List D->Hm->jk
noncomputable def RoL(K:ZD)(H:Hp)(p:Addr)(xs:gw):Prop:=
 (∃o,H p=a7 (.frz o<|.lst xs)) \/
  ∃(o:Obj)(its:Array Value)(n:Nat),K.lookup p=a7 o/\o.cls=.type "list"/\o.dict=b3/\o.data=.seq its n/\its.size<=ZX/\Vals xs its.toList
theorem RoL.sq(h:RoL K H p xs):SqL K H p xs:=by
 rcases h with⟨o,h⟩|h
 .exact .inl<|.inr ⟨o,h⟩
 .exact .inr h
mutual
inductive IsD (K:ZD)(π:Nat->Addr)(n:Nat)(H:Hp):V->D->Prop where
 |non:IsD K π n H .non .non
 |bl (b:Bool):IsD K π n H (.bl b)<|.bl b
 |int (i:Int):IsD K π n H (.int i)<|.int i
 |str (x:Str):IsD K π n H (.str x)<|.str x
 |tup {p:Addr}{vs:gw}{ds:List D}(h:SqT K H p vs)(t:IsDs K π n H vs ds):IsD K π n H (.ref p)<|.tup ds
 |rol {p:Addr}{vs:gw}{ds:List D}(h:RoL K H p vs)(t:IsDs K π n H vs ds):IsD K π n H (.ref p)<|.rol ds
 |loc {a:Nat}(h:a<n):IsD K π n H (.ref<|π a)<|.loc a
 |ty (x:String):IsD K π n H (.ty x)<|.ty x
inductive IsDs (K:ZD)(π:Nat->Addr)(n:Nat)(H:Hp):gw->List D->Prop where
 |nil:IsDs K π n H [] []
 |cons {v:V}{d:D}{vs:gw}{ds:List D}(h:IsD K π n H v d)(t:IsDs K π n H vs ds):IsDs K π n H (v::vs)<|d::ds
end
structure Ext(π:Nat->Addr)(n:Nat)(H:Hp)(π':Nat->Addr)(n':Nat)(H':Hp):Prop where
 le:n<=n'
 pi:∀a,a<n->π' a=π a
 tup:∀p vs,H p=a7 (.tup vs)->H' p=a7 (.tup vs)
 frz:∀p o u,H p=a7 (.frz o u)->H' p=a7 (.frz o u)
structure Ext0(π:Nat->Addr)(n:Nat)(H:Hp)(π':Nat->Addr)(n':Nat)(H':Hp):Prop where
 le:n<=n'
 pi:∀a,a<n->π' a=π a
 tup:∀p vs,H p=a7 (.tup vs)->H' p=a7 (.tup vs)
 frz:∀p o u,(∀φ,u≠HO.ext φ)->H p=a7 (.frz o u)->H' p=a7 (.frz o u)
section
variable{K:ZD}{π π' π2:Nat->Addr}{n n' n2:Nat}{H H' H2:Hp}
theorem Ext.weak(e:Ext π n H π' n' H'):Ext0 π n H π' n' H':=⟨e.le,e.pi,e.tup,λp o u _ h=>e.frz p o u h⟩
theorem Ext.refl:Ext π n H π n H:=⟨ZN _,λ_ _=>rfl,λ_ _ h=>h,λ_ _ _ h=>h⟩
theorem Ext.trans(a:Ext π n H π' n' H')(b:Ext π' n' H' π2 n2 H2):Ext π n H π2 n2 H2:=
 ⟨a0A a.le b.le,λi h=>(b.pi i<|a0e h a.le).trans<|a.pi i h,λp c h=>b.tup p c<|a.tup p c h,λp o u h=>b.frz p o u<|a.frz p o u h⟩
theorem Ext0.sqT(e:Ext0 π n H π' n' H')(h:SqT K H p vs):SqT K H' p vs:=by
 rcases h with h|h
 .rcases h with h|⟨o,h⟩
  .exact .inl<|.inl<|e.tup _ _ h
  .exact .inl<|.inr ⟨o,e.frz _ _ _ (λ_ z=>nomatch z) h⟩
 .exact .inr h
theorem Ext.sqT(e:Ext π n H π' n' H')(h:SqT K H p vs):SqT K H' p vs:=e.weak.sqT h
theorem Ext0.roL(e:Ext0 π n H π' n' H')(h:RoL K H p vs):RoL K H' p vs:=by
 rcases h with⟨o,h⟩|h
 .exact .inl ⟨o,e.frz _ _ _ (λ_ z=>nomatch z) h⟩
 .exact .inr h
theorem Ext.roL(e:Ext π n H π' n' H')(h:RoL K H p vs):RoL K H' p vs:=e.weak.roL h
mutual
theorem IsD.mono0{v:V}{d:D}(e:Ext0 π n H π' n' H'):IsD K π n H v d->IsD K π' n' H' v d
 |.non=>.non|.bl b=>.bl b|.int i=>.int i|.str x=>.str x|.ty x=>.ty x|.tup h t=>.tup (e.sqT h) (IsDs.mono0 e t)|.rol h t=>.rol (e.roL h) (IsDs.mono0 e t)|.loc h=>by rw[<- e.pi _ h];exact .loc<|a0e h e.le
theorem IsDs.mono0{vs:gw}{ds:List D}(e:Ext0 π n H π' n' H'):IsDs K π n H vs ds->IsDs K π' n' H' vs ds
 |.nil=>.nil|.cons h t=>.cons (IsD.mono0 e h)<|IsDs.mono0 e t
end
theorem IsD.mono(e:Ext π n H π' n' H')(h:IsD K π n H v d):IsD K π' n' H' v d:=h.mono0 e.weak
theorem IsDs.mono(e:Ext π n H π' n' H')(h:IsDs K π n H vs ds):IsDs K π' n' H' vs ds:=h.mono0 e.weak
theorem IsDs.length(h:IsDs K π n H vs ds):vs.length=ds.length:=by
 induction ds generalizing vs with
 |nil=>cases h;rfl|cons d ds a=>
  cases h with
  |cons h t=>rw[Z8,Z8,a t]
theorem IsDs.get(h:IsDs K π n H vs ds){i:Nat}(e:ds[i]?=a7 d):∃v,vs[i]?=a7 v/\IsD K π n H v d:=by
 induction ds generalizing vs i with
 |nil=>simp at e|cons g ds c=>
  cases h with
  |cons h t=>
   cases i with
   |zero=>simp at e;subst e;exact⟨_,rfl,h⟩|succ i=>obtain⟨v,a,b⟩:=c t (by simpa using e);exact⟨v,by simpa using a,b⟩
theorem IsDs.append(h:IsDs K π n H vs ds)(b:IsDs K π n H ws a):IsDs K π n H (vs++ws) (ds++a):=by
 induction ds generalizing vs with
 |nil=>cases h;exact b|cons d ds c=>
  cases h with
  |cons h t=>exact .cons h<|c t
theorem IsDs.drop(h:IsDs K π n H vs ds)k:IsDs K π n H (vs.drop k) (ds.drop k):=by
 induction ds generalizing vs k with
 |nil=>cases h;simpa using IsDs.nil|cons d ds a=>
  cases h with
  |cons h t=>
   cases k with
   |zero=>exact .cons h t|succ k=>exact a t k
theorem IsDs.take(h:IsDs K π n H vs ds)k:IsDs K π n H (vs.take k) (ds.take k):=by
 induction ds generalizing vs k with
 |nil=>cases h;simpa using IsDs.nil|cons d ds a=>
  cases h with
  |cons h t=>
   cases k with
   |zero=>exact .nil|succ k=>exact .cons h<|a t k
theorem IsDs.atI(h:IsDs K π n H vs ds)(e:L2.atI ds i=a7 d):∃v,L2.atI vs i=a7 v/\IsD K π n H v d:=by
 unfold L2.atI at e ⊢;rw[h.length];cases q:jR ds.length i with
 |none=>rw[q]at e;cases e|some j=>rw[q]at e;exact h.get e
end
noncomputable def uK(p:Addr)(L:List Tb.El):HO:=.ext λh=>∃o,h.get? p=a7 o/\Tb.SObj L o
noncomputable def rK(p:List Int×Addr×V)(w:Value):DictEntry:=⟨Tb.hashT p.1,.ref p.2.1,w⟩
noncomputable def a8(a:Addr)(ps:List (List Int×Addr×V)):HO:=.ext λh=>∃ws:gq,Vals (ps.map (·.2.2)) ws/\(a==a1t)=b4/\ps.length<=ZX /\
 ∃o b c,h.get? a=a7 o/\o.ExactDict/\o.data=.dict b c/\b.toList=a4j rK ps ws/\(ps.map (·.1)).Nodup
noncomputable def InsIs(K:ZD)(π:Nat->Addr)(n:Nat)(H:Hp)(o:HO)(x:Str)(fs:List (Str×D)):Prop:=
 ∃(C a:Addr)(vs:List (Str×V)),o=.ins C a vs/\a2O K a1b x=a7 (a7<|.ref C)/\vs.map (·.1)=fs.map (·.1)/\IsDs K π n H (vs.map (·.2)) (fs.map (·.2))
theorem InsIs.mono0(e:Ext0 π n H a c b)(h:InsIs K π n H o x fs):InsIs K a c b o x fs:=
 let⟨C,d,l,g,i,j,k⟩:=h;⟨C,d,l,g,i,j,k.mono0 e⟩
structure Rp(K:ZD)(π:Nat->Addr)(H:Hp)(μ:Hm):Prop where
 inj:∀a b,a<μ.length->b<μ.length->π a=π b->a=b
 has:∀a,a<μ.length->(H<|π a).isSome=b5
 lst:∀a xs,μ[a]?=a7 (.lst xs)->∃vs,H (π a)=a7 (.lst vs)/\IsDs K π μ.length H vs xs
 dK:∀a kvs,μ[a]?=a7 (.dK kvs)->∃vs,H (π a)=a7 (.dK vs)/\vs.map (·.1)=kvs.map (·.1)/\IsDs K π μ.length H (vs.map (·.2)) (kvs.map (·.2))
 st:∀a ks,μ[a]?=a7 (.st ks)->∃L:List Tb.El,H (π a)=a7 (uK (π a) L)/\L.map (·.1)=ks/\IsDs K π μ.length H (L.map λp=>V.ref p.2) (ks.map λk=>D.tup<|k.map D.int)
 dT:∀a kvs,μ[a]?=a7 (.dT kvs)->∃ps:List (List Int×Addr×V),H (π a)=a7 (a8 (π a) ps)/\ps.map (·.1)=kvs.map (·.1)/\IsDs K π μ.length H (ps.map λp=>V.ref p.2.1) (kvs.map λk=>D.tup<|k.1.map D.int)/\IsDs K π μ.length H (ps.map (·.2.2)) (kvs.map (·.2))
 dF:∀a kvs,μ[a]?=a7 (.dF kvs)->∃(ob:Obj)(ps:List (List Int×Addr×V)),H (π a)=a7 (.frz ob<|a8 (π a) ps)/\ps.map (·.1)=kvs.map (·.1)/\IsDs K π μ.length H (ps.map λp=>V.ref p.2.1) (kvs.map λk=>D.tup<|k.1.map D.int)/\IsDs K π μ.length H (ps.map (·.2.2)) (kvs.map (·.2))
 ins:∀a x fs,μ[a]?=a7 (.ins x fs)->∃o,H (π a)=a7 o/\InsIs K π μ.length H o x fs
structure En(K:ZD)(π:Nat->Addr)(n:Nat)(H:Hp)(σ:St)(ρ:aI):Prop where
 len:σ.length=ρ.length
 get:∀(i:Nat)(d:D),ρ[i]?=a7 (a7 d)->∃v,σ[i]?=a7 (a7 v)/\IsD K π n H v d
theorem En.mono(E:En K π n H σ ρ)(e:Ext π n H π' n' H'):En K π' n' H' σ ρ:=
 ⟨E.len,λi d h=>let⟨v,a,b⟩:=E.get i d h;⟨v,a,b.mono e⟩⟩
theorem En.set(E:En K π n H σ ρ)(h:IsD K π n H v d)i:En K π n H (σ.set i<|a7 v) (ρ.set i<|a7 d):=by
 refine⟨by rw[a0v,a0v];exact E.len,λj c e=>?_⟩;rw[List.getElem?_set]at e ⊢;by_cases a:i=j
 .subst a;rw[if_pos rfl]at e ⊢;rw[E.len];by_cases b:i<ρ.length
  .rw[if_pos b]at e ⊢;cases e;exact⟨v,rfl,h⟩
  .rw[if_neg b]at e;cases e
 .rw[if_neg a]at e ⊢;exact E.get j c e
theorem Rp.ne(R:Rp K π H μ)(h:H p=b3)(b:a<μ.length):π a≠p:=λe=>by have:=R.has a b;rw[e,h]at this;cases this
theorem Rp.fresh(R:Rp K π H μ)(h:H p=b3):Ext π μ.length H π μ.length (aP H p o)/\Rp K π (aP H p o) μ:=by
 have keep:∀b u,H b=a7 u->aP H p o b=a7 u:=λb u e=>by rw[bN<|fN e h];exact e
 have e:Ext π μ.length H π μ.length (aP H p o):=⟨ZN _,λ_ _=>rfl,λq j e=>keep q _ e,λq o u e=>keep q _ e⟩;refine⟨e,R.inj,λa c=>?_,λa s c=>?_,λa i c=>?_,λa m c=>?_
  ,λa i c=>?_
  ,λa i c=>?_
  ,λa x fs c=>?_
  ⟩
 .rw[bN<|R.ne h c];exact R.has a c
 .obtain⟨j,d,g⟩:=R.lst a s c;exact⟨j,keep _ _ d,g.mono e⟩
 .obtain⟨j,d,g,k⟩:=R.dK a i c;exact⟨j,keep _ _ d,g,k.mono e⟩
 .obtain⟨j,d,g,k⟩:=R.st a m c;exact⟨j,keep _ _ d,g,k.mono e⟩
 .obtain⟨j,d,g,k,l⟩:=R.dT a i c;exact⟨j,keep _ _ d,g,k.mono e,l.mono e⟩
 .obtain⟨r,j,d,g,k,l⟩:=R.dF a i c;exact⟨r,j,keep _ _ d,g,k.mono e,l.mono e⟩
 .obtain⟨o,d,g⟩:=R.ins a x fs c;exact⟨o,keep _ _ d,g.mono0 e.weak⟩
noncomputable def rL(K:ZD)(π:Nat->Addr)(n:Nat)(H:Hp)(p:Addr):C->HO->Prop
 |.lst xs,.lst vs=>IsDs K π n H vs xs|.dK kvs,.dK vs=>vs.map (·.1)=kvs.map (·.1)/\IsDs K π n H (vs.map (·.2)) (kvs.map (·.2))|.st ks,o=>∃L:List Tb.El,o=uK p L/\L.map (·.1)=ks/\IsDs K π n H (L.map λp=>V.ref p.2) (ks.map λk=>D.tup<|k.map D.int)|.dT kvs,o=>∃ps:List (List Int×Addr×V),o=a8 p ps/\ps.map (·.1)=kvs.map (·.1)/\IsDs K π n H (ps.map λp=>V.ref p.2.1) (kvs.map λk=>D.tup<|k.1.map D.int)/\IsDs K π n H (ps.map (·.2.2)) (kvs.map (·.2))|.dF kvs,o=>∃(ob:Obj)(ps:List (List Int×Addr×V)),o=.frz ob (a8 p ps)/\ps.map (·.1)=kvs.map (·.1)/\IsDs K π n H (ps.map λp=>V.ref p.2.1) (kvs.map λk=>D.tup<|k.1.map D.int)/\IsDs K π n H (ps.map (·.2.2)) (kvs.map (·.2))|.ins x fs,o=>InsIs K π n H o x fs|_,_=>False
noncomputable def hV(π:Nat->Addr)(n:Nat)(p:Addr):Nat->Addr:=λa=>if a=n then p else π a
theorem Rp.alloc(R:Rp K π H μ)(h:H p=b3)(hc:rL K π μ.length H p c o):
  Ext π μ.length H (hV π μ.length p) (μ++[c]).length (aP H p o)/\Rp K (hV π μ.length p) (aP H p o) (μ++[c])/\hV π μ.length p μ.length=p:=by
 have B:(μ++[c]).length=μ.length+1:=by simp
 have keep:∀b u,H b=a7 u->aP H p o b=a7 u:=λb u e=>by rw[bN<|fN e h];exact e
 have w:hV π μ.length p μ.length=p:=if_pos rfl;have r:∀a,a<μ.length->hV π μ.length p a=π a:=λa d=>if_neg<|Z6 d;have e:Ext π μ.length H (hV π μ.length p) (μ++[c]).length (aP H p o):=⟨by rw[B];exact a2D _,r,λq l e=>keep q _ e,λq o u e=>keep q _ e⟩;have split:∀a,a<(μ++[c]).length->a<μ.length\/a=μ.length:=λa d=>by rw[B]at d;lia
 have get:∀a,a<μ.length->(μ++[c])[a]?=μ[a]?:=λa d=>a0f d;have i:(μ++[c])[μ.length]?=a7 c:=by simp
 refine⟨e,⟨λa b d z q=>?_,λa d=>?_,λa I d=>?_,λa v d=>?_,λa E d=>?_
  ,λa v d=>?_
  ,λa v d=>?_
  ,λa x fs d=>?_
  ⟩,w⟩
 .rcases split a d with d|rfl<;>rcases split b z with z|rfl
  .rw[r a d,r b z]at q;exact R.inj a b d z q
  .rw[r a d,w]at q;exact absurd q<|R.ne h d
  .rw[w,r b z]at q;exact absurd q.symm<|R.ne h z
  .rfl
 .rcases split a d with d|rfl
  .rw[r a d,bN<|R.ne h d];exact R.has a d
  .rw[w,dD];rfl
 .have g:a<(μ++[c]).length:=(ZG.mp d).1;rcases split a g with j|rfl
  .rw[get a j]at d;obtain⟨l,s,k⟩:=R.lst a I d;rw[r a j];exact⟨l,keep _ _ s,k.mono e⟩
  .rw[i]at d;cases d;cases o with
   |lst l=>rw[w];exact⟨l,dD,IsDs.mono e hc⟩|_=>exact a1L hc
 .have g:a<(μ++[c]).length:=(ZG.mp d).1;rcases split a g with j|rfl
  .rw[get a j]at d;obtain⟨l,s,k,m⟩:=R.dK a v d;rw[r a j];exact⟨l,keep _ _ s,k,m.mono e⟩
  .rw[i]at d;cases d;cases o with
   |dK l=>rw[w];exact⟨l,dD,hc.1,IsDs.mono e hc.2⟩|_=>exact a1L hc
 .have g:a<(μ++[c]).length:=(ZG.mp d).1;rcases split a g with j|rfl
  .rw[get a j]at d;obtain⟨l,s,k,m⟩:=R.st a E d;rw[r a j];exact⟨l,keep _ _ s,k,m.mono e⟩
  .rw[i]at d;cases d;obtain⟨L,rfl,k,m⟩:=hc;rw[w];exact⟨L,dD,k,m.mono e⟩
 .have g:a<(μ++[c]).length:=(ZG.mp d).1;rcases split a g with j|rfl
  .rw[get a j]at d;obtain⟨l,s,k,m,y⟩:=R.dT a v d;rw[r a j];exact⟨l,keep _ _ s,k,m.mono e,y.mono e⟩
  .rw[i]at d;cases d;obtain⟨L,rfl,k,m,y⟩:=hc;rw[w];exact⟨L,dD,k,m.mono e,y.mono e⟩
 .have g:a<(μ++[c]).length:=(ZG.mp d).1;rcases split a g with j|rfl
  .rw[get a j]at d;obtain⟨A,l,s,k,m,y⟩:=R.dF a v d;rw[r a j];exact⟨A,l,keep _ _ s,k,m.mono e,y.mono e⟩
  .rw[i]at d;cases d;obtain⟨A,L,rfl,k,m,y⟩:=hc;rw[w];exact⟨A,L,dD,k,m.mono e,y.mono e⟩
 .have g:a<(μ++[c]).length:=(ZG.mp d).1;rcases split a g with j|rfl
  .rw[get a j]at d;obtain⟨G,s,k⟩:=R.ins a x fs d;rw[r a j];exact⟨G,keep _ _ s,k.mono0 e.weak⟩
  .rw[i]at d;cases d;rw[w];exact⟨o,dD,InsIs.mono0 e.weak hc⟩
theorem Rp.putU(R:Rp K π H μ)(G:a<μ.length)(y:H (π a)=a7 u)(A:(∀vs,u≠.tup vs)/\∀ob v,(∀M,v≠HO.ext M)->u≠.frz ob v)(hc:rL K π μ.length H (π a) c o):
  Ext0 π μ.length H π (μ.set a c).length (aP H (π a) o)/\Rp K π (aP H (π a) o) (μ.set a c):=by
 have m:(μ.set a c).length=μ.length:=a0v ..;have e:Ext0 π μ.length H π (μ.set a c).length (aP H (π a) o):=by
  refine⟨a4m m.symm,λ_ _=>rfl,λq vs z=>?_,λq B N nx z=>?_⟩
  .rw[bN]
   .exact z
   .intro e;subst e;rw[y]at z;exact A.1 _<|Z0 z
  .rw[bN]
   .exact z
   .intro e;subst e;rw[y]at z;exact A.2 _ _ nx<|Z0 z
 have i:∀b,b<μ.length->b≠a->aP H (π a) o (π b)=H (π b):=λb d w=>bN λq=>w<|R.inj b a d G q;refine⟨e,⟨λb E d s=>R.inj b E (m▸d)<|m▸s,λb d=>?_,λb J d=>?_,λb p d=>?_,λb I d=>?_
  ,λb p d=>?_
  ,λb p d=>?_
  ,λb x fs d=>?_
  ⟩⟩
 .by_cases h:b=a
  .subst h;rw[dD];rfl
  .rw[i b (m▸d) h];exact R.has b<|m▸d
 .have g:b<μ.length:=m▸(ZG.mp d).1;by_cases h:b=a
  .subst h;rw[a0t g]at d;cases d;cases o with
   |lst vs=>exact⟨vs,dD,IsDs.mono0 e hc⟩|_=>exact a1L hc
  .rw[ZP<|a0o h]at d;obtain⟨vs,l,j⟩:=R.lst b J d;exact⟨vs,by rw[i b g h];exact l,j.mono0 e⟩
 .have g:b<μ.length:=m▸(ZG.mp d).1;by_cases h:b=a
  .subst h;rw[a0t g]at d;cases d;cases o with
   |dK vs=>exact⟨vs,dD,hc.1,IsDs.mono0 e hc.2⟩|_=>exact a1L hc
  .rw[ZP<|a0o h]at d;obtain⟨vs,l,j,k⟩:=R.dK b p d;exact⟨vs,by rw[i b g h];exact l,j,k.mono0 e⟩
 .have g:b<μ.length:=m▸(ZG.mp d).1;by_cases h:b=a
  .subst h;rw[a0t g]at d;cases d;obtain⟨L,rfl,j,k⟩:=hc;exact⟨L,dD,j,k.mono0 e⟩
  .rw[ZP<|a0o h]at d;obtain⟨vs,l,j,k⟩:=R.st b I d;exact⟨vs,by rw[i b g h];exact l,j,k.mono0 e⟩
 .have g:b<μ.length:=m▸(ZG.mp d).1;by_cases h:b=a
  .subst h;rw[a0t g]at d;cases d;obtain⟨L,rfl,j,k,r⟩:=hc;exact⟨L,dD,j,k.mono0 e,r.mono0 e⟩
  .rw[ZP<|a0o h]at d;obtain⟨vs,l,j,k,r⟩:=R.dT b p d;exact⟨vs,by rw[i b g h];exact l,j,k.mono0 e,r.mono0 e⟩
 .have g:b<μ.length:=m▸(ZG.mp d).1;by_cases h:b=a
  .subst h;rw[a0t g]at d;cases d;obtain⟨ob,L,rfl,j,k,r⟩:=hc;exact⟨ob,L,dD,j,k.mono0 e,r.mono0 e⟩
  .rw[ZP<|a0o h]at d;obtain⟨ob,vs,l,j,k,r⟩:=R.dF b p d;exact⟨ob,vs,by rw[i b g h];exact l,j,k.mono0 e,r.mono0 e⟩
 .have g:b<μ.length:=m▸(ZG.mp d).1;by_cases h:b=a
  .subst h;rw[a0t g]at d;cases d;exact⟨o,dD,InsIs.mono0 e hc⟩
  .rw[ZP<|a0o h]at d;obtain⟨B,l,j⟩:=R.ins b x fs d;exact⟨B,by rw[i b g h];exact l,j.mono0 e⟩
theorem Rp.put0(R:Rp K π H μ)(e:a<μ.length)(g:H (π a)=a7 u)(d:(∃vs,u=.lst vs)\/(∃vs,u=.dK vs)\/(∃b,u=.ext b)\/∃ob b,u=.frz ob (.ext b))(hc:rL K π μ.length H (π a) c o):
  Ext0 π μ.length H π (μ.set a c).length (aP H (π a) o)/\Rp K π (aP H (π a) o) (μ.set a c):=
 R.putU e g ⟨λvs z=>(by rcases d with⟨w,rfl⟩|⟨w,rfl⟩|⟨w,rfl⟩|⟨ob,w,rfl⟩<;>cases z),λob v nx z=>by
  rcases d with⟨w,rfl⟩|⟨w,rfl⟩|⟨w,rfl⟩|⟨ob,w,rfl⟩<;>cases z;exact nx _ rfl⟩ hc
theorem Rp.putE(R:Rp K π H μ)(g:a<μ.length)(d:H (π a)=a7 u)(b:(∀vs,u≠.tup vs)/\∀ob v,u≠.frz ob v)(hc:rL K π μ.length H (π a) c o):
  Ext π μ.length H π (μ.set a c).length (aP H (π a) o)/\Rp K π (aP H (π a) o) (μ.set a c):=by
 have e:Ext π μ.length H π (μ.set a c).length (aP H (π a) o):=by
  refine⟨a4m (a0v ..).symm,λ_ _=>rfl,λq vs z=>?_,λq h i z=>?_⟩
  .rw[bN]
   .exact z
   .intro e;subst e;rw[d]at z;exact b.1 _<|Z0 z
  .rw[bN]
   .exact z
   .intro e;subst e;rw[d]at z;exact b.2 _ _<|Z0 z
 exact⟨e,(R.putU g d ⟨b.1,λob v _=>b.2 ob v⟩ hc).2⟩
theorem Rp.put(R:Rp K π H μ)(d:a<μ.length)(e:H (π a)=a7 u)(b:(∃vs,u=.lst vs)\/(∃vs,u=.dK vs)\/∃g,u=.ext g)(hc:rL K π μ.length H (π a) c o):
  Ext π μ.length H π (μ.set a c).length (aP H (π a) o)/\Rp K π (aP H (π a) o) (μ.set a c):=
 R.putE d e ⟨λvs z=>(by rcases b with⟨w,rfl⟩|⟨w,rfl⟩|⟨w,rfl⟩<;>cases z),λh v z=>by rcases b with⟨w,rfl⟩|⟨w,rfl⟩|⟨w,rfl⟩<;>cases z⟩ hc
noncomputable def KC(K:ZD)(Q:VK)(π:Nat->Addr)(n:Nat)(H:Hp)(d:D)(μ':Hm):Prop:=
 ∀a v b,Ext π n H a μ'.length b->Rp K a b μ'->IsD K a μ'.length b v d->Q v b
theorem KC.after(k:KC K Q π n H d μ')(e:Ext π n H a g c):KC K Q a g c d μ':=
 λb v h j R i=>k b v h (e.trans j) R i
inductive tM (K:ZD)(m:ME)(σ:St)(H:Hp)(Q:VK):Prop
 |mk (π:Nat->Addr)(ρ:aI)(μ:Hm)(d:D)(μ':Hm)(R:Rp K π H μ)(E:En K π μ.length H σ ρ)(hm:m ρ μ=a7 (d,μ'))(k:KC K Q π μ.length H d μ'):tM K m σ H Q
inductive tMT (K:ZD)(m:MT)(σ:St)(H:Hp)(Q:Bool->Hp->Prop):Prop
 |mk (π:Nat->Addr)(ρ:aI)(μ:Hm)(b:Bool)(μ':Hm)(R:Rp K π H μ)(E:En K π μ.length H σ ρ)(hm:m ρ μ=a7 (b,μ'))(k:∀π' H',Ext π μ.length H π' μ'.length H'->Rp K π' H' μ'->Q b H'):tMT K m σ H Q
inductive tMA (K:ZD)(m:MA)(σ:St)(H:Hp)(Q:gw->Hp->Prop):Prop
 |mk (π:Nat->Addr)(ρ:aI)(μ:Hm)(ds:List D)(μ':Hm)(R:Rp K π H μ)(E:En K π μ.length H σ ρ)(hm:m ρ μ=a7 (ds,μ'))(k:∀π' vs H',Ext π μ.length H π' μ'.length H'->Rp K π' H' μ'->IsDs K π' μ'.length H' vs ds->Q vs H'):tMA K m σ H Q
noncomputable def pF(K:ZD)(E:Ends)(π:Nat->Addr)(n:Nat)(H:Hp)(g:Fl)(e:aI)(μ':Hm):Prop:=
 match g with
 |.nx=>∀a b c,Ext π n H a μ'.length c->Rp K a c μ'->En K a μ'.length c b e->E.nx b c|.bk=>∀a b c,Ext π n H a μ'.length c->Rp K a c μ'->En K a μ'.length c b e->E.bk b c|.ct=>∀a b c,Ext π n H a μ'.length c->Rp K a c μ'->En K a μ'.length c b e->E.ct b c|.rt d=>KC K E.rt π n H d μ'
inductive tMS (K:ZD)(m:MS)(E:Ends)(σ:St)(H:Hp):Prop
 |mk (π:Nat->Addr)(ρ:aI)(μ:Hm)(fl:Fl)(ρ':aI)(μ':Hm)(R:Rp K π H μ)(EN:En K π μ.length H σ ρ)(hm:m ρ μ=a7 (fl,ρ',μ'))(k:pF K E π μ.length H fl ρ' μ'):tMS K m E σ H
inductive spI0 (K:ZD)(f:MF)(vs:gw)(H:Hp)(Q:VK):Prop
 |mk (π:Nat->Addr)(ds:List D)(μ:Hm)(d:D)(μ':Hm)(R:Rp K π H μ)(i:IsDs K π μ.length H vs ds)(hm:f ds μ=a7 (d,μ'))(k:KC K Q π μ.length H d μ'):spI0 K f vs H Q
noncomputable def eW(K:ZD)(k:Nat)(f:MF):Sp:=λvs H Q _=>vs.length=k/\spI0 K f vs H Q
theorem dE(h:PE X e t)(hw:∀σ H Q,tM X.K m σ H Q->t σ H Q):PE X e (tM X.K m):=λb1C s σ H Q I q=>h b1C s σ H Q I<|hw σ H Q q
theorem uL(h:PT X e t)(hw:∀σ H Q,tMT X.K m σ H Q->t σ H Q):PT X e (tMT X.K m):=λb1C s σ H Q I q=>h b1C s σ H Q I<|hw σ H Q q
theorem DA(h:PW X e t)(hw:∀σ H Q,tMT X.K m σ H Q->t σ H Q):PW X e (tMT X.K m):=λd b1C s σ H Q I q=>h d b1C s σ H Q I<|hw σ H Q q
theorem DB(h:PA X d t)(hw:∀σ H Q,tMA X.K m σ H Q->t σ H Q):PA X d (tMA X.K m):=λp b1C s σ H Q I q=>h p b1C s σ H Q I<|hw σ H Q q
theorem jS(h:PS X st t)(hw:∀E σ H,tMS X.K m E σ H->t E σ H):PS X st (tMS X.K m):=λb1C s σ H E I q=>h b1C s σ H E I<|hw E σ H q
theorem DC(h:PSs X st t)(hw:∀E σ H,tMS X.K m E σ H->t E σ H):PSs X st (tMS X.K m):=λb1C s σ H E I q=>h b1C s σ H E I<|hw E σ H q
noncomputable def aA(i:Nat):ME:=λg μ=>match g[i]? with|some (a7 d)=>a7 (d,μ)|_=>b3
noncomputable def mC(d:D):ME:=λ_ μ=>a7 (d,μ)
theorem Ni(h:aA i g μ=a7 (d,μ')):g[i]?=a7 (a7 d)/\μ'=μ:=by
 unfold aA at h;split at h
 .rename_i j e;cases h;exact⟨e,rfl⟩
 .cases h
theorem Nj i(h:PE X (.Name x pos) (xY i)):PE X (.Name x pos) (tM X.K<|aA i):=dE h<|by
 rintro s H Q ⟨p,r,q,d,o,R,E,n,k⟩;obtain⟨g,rfl⟩:=Ni n;obtain⟨v,j,l⟩:=E.get i d g;exact⟨v,j,k p v H .refl R l⟩
theorem pG(h:PE X e (tC v))(hd:∀π n H,IsD X.K π n H v d):PE X e (tM X.K<|mC d):=dE h<|by
 rintro p H Q ⟨π,o,l,j,i,R,E,g,k⟩;cases g;exact k π v H .refl R<|hd _ _ _
theorem Nk:PE X (.Constant (.int i) j pos) (tM X.K<|mC<|.int i):=pG Kj λ_ _ _=>.int i
theorem Nl:PE X (.Constant (.bool i) j pos) (tM X.K<|mC<|.bl i):=pG Kk λ_ _ _=>.bl i
theorem Nm:PE X (.Constant (.str i) j pos) (tM X.K<|mC<|.str i):=pG Km λ_ _ _=>.str i
theorem Nn:PE X (.Constant .none j pos) (tM X.K<|mC .non):=pG Kl λ_ _ _=>.non
noncomputable def aB(f:D->D->Hm->jk)(a b:ME):ME:=λd μ=>(a d μ).bind λp=>(b d p.2).bind λq=>f p.1 q.1 q.2
noncomputable def dG(K:ZD)(f:D->D->Hm->jk)(r:R2):Prop:=
 ∀i H g x y d h j k Q,Rp K i H g->IsD K i g.length H j x->IsD K i g.length H k y->f x y g=a7 (d,h)->KC K Q i g.length H d h->r j k H Q
theorem rN(z:dG K f r):∀σ H Q,tM K (aB f ma mb) σ H Q->rG r (tM K ma) (tM K mb) σ H Q:=by rintro σ H Q ⟨L,q,J,d,j,R,E,g,k⟩;obtain⟨⟨x,h⟩,v,g⟩:=ZC.mp g;obtain⟨⟨y,i⟩,w,g⟩:=ZC.mp g;exact⟨L,q,J,x,h,R,E,v,λl G M o u A=>⟨l,q,h,y,i,u,E.mono o,w,λn I s p R2 B=>z n s i x y d j G I Q R2 (A.mono p) B g<|k.after<|o.trans p⟩⟩
theorem Np(i:OpR X (a3v op) r)(h:dG X.K f r)(d:PE X a (tM X.K ma))(g:PE X b (tM X.K mb)):PE X (.BinOp a op b pos) (tM X.K<|aB f ma mb):=
 dE (Lp i d g)<|rN h
theorem fY(j:OpR X (a0Z op) r)(h:dG X.K f r)(d:PE X a (tM X.K ma))(g:PE X b (tM X.K mb))(i:a3e op b=b4):PE X (.Compare a [op] [b] pos) (tM X.K<|aB f ma mb):=
 dE (Lz j d g i)<|rN h
noncomputable def aU(m:ME):MT:=λd μ=>(m d μ).bind λp=>match p.1 with|.bl b=>a7 (b,p.2)|_=>b3
theorem DD:∀σ H Q,tMT K (aU m) σ H Q->tM K m σ H λx g=>∃k,x=.bl k/\Q k g:=by
 rintro σ H Q ⟨r,s,o,b,p,R,E,d,k⟩;obtain⟨⟨x,q⟩,l,d⟩:=ZC.mp d;cases x with
 |bl c=>cases d;refine⟨r,s,o,_,_,R,E,l,λh v g j i n=>?_⟩;cases n;exact⟨_,rfl,k h g j i⟩|_=>cases d
theorem fZ(l:OpR X (a0Z op) r)(j:dG X.K f r)(g:PE X a (tM X.K ma))(i:PE X b (tM X.K mb))(k:a3e op b=b4):PT X (.Compare a [op] [b] pos) (tMT X.K<|aU<|aB f ma mb):=
 uL (LA l g i k) λd H Q h=>rN j d H _<|DD d H Q h
section
variable{X:Cx}{e a b c:Expr}{m ma mb mc:ME}{pos:a1p}{mt mu:MT}{b6:List Expr}
noncomputable def i7(a b:MT):MT:=λd μ=>(a d μ).bind λp=>match p.1 with|true=>b d p.2|false=>a7 (b4,p.2)
noncomputable def fJ(a b:MT):MT:=λd μ=>(a d μ).bind λp=>match p.1 with|true=>a7 (b5,p.2)|false=>b d p.2
noncomputable def rO(a:MT):MT:=λd μ=>(a d μ).map λp=>(!p.1,p.2)
theorem Nq(d:PT X a (tMT X.K mt)):PW X (.BoolOp .And [a] pos) (tMT X.K mt):=Ks d
theorem Nr(d:PT X a (tMT X.K mt)):PW X (.BoolOp .Or [a] pos) (tMT X.K mt):=Kt d
theorem Nt(v:PT X a (tMT X.K mt))(w:PW X (.BoolOp .And (b::b6) pos) (tMT X.K mu)):PW X (.BoolOp .And (a::b::b6) pos) (tMT X.K<|i7 mt mu):=DA (Ku v w)<|by
 rintro A H Q ⟨z,p,y,d,l,R,E,i,k⟩;obtain⟨⟨x,g⟩,u,i⟩:=ZC.mp i;refine⟨z,p,y,x,g,R,E,u,λh q j o=>?_⟩;cases x with
 |true=>refine nO ?_;exact⟨h,p,g,d,l,o,E.mono j,i,λn r s R2=>k n r (j.trans s) R2⟩|false=>
  refine nN ?_;cases i;exact k h q j o
theorem Nu(v:PT X a (tMT X.K mt))(w:PW X (.BoolOp .Or (b::b6) pos) (tMT X.K mu)):PW X (.BoolOp .Or (a::b::b6) pos) (tMT X.K<|fJ mt mu):=DA (Kw v w)<|by
 rintro A H Q ⟨z,p,y,d,l,R,E,i,k⟩;obtain⟨⟨x,g⟩,u,i⟩:=ZC.mp i;refine⟨z,p,y,x,g,R,E,u,λh q j o=>?_⟩;cases x with
 |true=>refine nO ?_;cases i;exact k h q j o|false=>
  refine nN ?_;exact⟨h,p,g,d,l,o,E.mono j,i,λn r s R2=>k n r (j.trans s) R2⟩
theorem Nv(p:PT X a (tMT X.K mt)):PT X (.UnaryOp .Not a pos) (tMT X.K<|rO mt):=uL (Ky p)<|by
 rintro v H Q ⟨s,u,q,d,r,R,E,g,k⟩;obtain⟨⟨x,h⟩,o,g⟩:=ZH.mp g;cases g;exact⟨s,u,q,x,h,R,E,o,λi j n l=>k i j n l⟩
noncomputable def i8(a b:ME):ME:=λd μ=>(a d μ).bind λp=>match p.1 with|.bl b5=>b d p.2|.bl b4=>a7 (.bl b4,p.2)|_=>b3
noncomputable def yW(a b:ME):ME:=λd μ=>(a d μ).bind λp=>match p.1 with|.bl b5=>a7 (.bl b5,p.2)|.bl b4=>b d p.2|_=>b3
noncomputable def pH(a:ME):ME:=λd μ=>(a d μ).bind λp=>match p.1 with|.bl b=>a7 (.bl<|!b,p.2)|_=>b3
theorem Nw(h:PE X a (tM X.K m)):PE X (.BoolOp op [a] pos) (tM X.K m):=KH h
theorem Ny(r:PE X a (tM X.K ma))(s:PE X (.BoolOp .And (b::b6) pos) (tM X.K mb)):PE X (.BoolOp .And (a::b::b6) pos) (tM X.K<|i8 ma mb):=dE (KI r s)<|by
 rintro z H Q ⟨w,o,v,d,l,R,E,g,k⟩;obtain⟨⟨x,h⟩,q,g⟩:=ZC.mp g;cases x with
 |bl c=>
  refine⟨w,o,v,.bl c,h,R,E,q,λi y p j n u=>?_⟩;cases u;refine⟨c,rfl,?_⟩;cases c with
  |true=>refine nO ?_;exact⟨i,o,h,d,l,n,E.mono j,g,k.after j⟩|false=>refine nN ?_;cases g;exact k i _ p j n<|.bl b4
 |_=>cases g
theorem Nz(r:PE X a (tM X.K ma))(s:PE X (.BoolOp .Or (b::b6) pos) (tM X.K mb)):PE X (.BoolOp .Or (a::b::b6) pos) (tM X.K<|yW ma mb):=dE (KJ r s)<|by
 rintro z H Q ⟨w,o,v,d,l,R,E,g,k⟩;obtain⟨⟨x,h⟩,q,g⟩:=ZC.mp g;cases x with
 |bl c=>
  refine⟨w,o,v,.bl c,h,R,E,q,λi y p j n u=>?_⟩;cases u;refine⟨c,rfl,?_⟩;cases c with
  |true=>refine nO ?_;cases g;exact k i _ p j n (.bl b5)|false=>refine nN ?_;exact⟨i,o,h,d,l,n,E.mono j,g,k.after j⟩
 |_=>cases g
theorem NA(o:PE X a (tM X.K ma)):PE X (.UnaryOp .Not a pos) (tM X.K<|pH ma):=dE (KL o)<|by
 rintro y H Q ⟨u,v,q,d,r,R,E,g,k⟩;obtain⟨⟨x,s⟩,n,g⟩:=ZC.mp g;cases x with
 |bl c=>cases g;refine⟨u,v,q,_,_,R,E,n,λh w i l j p=>?_⟩;cases p;exact⟨_,rfl,k h _ i l j<|.bl _⟩
 |_=>cases g
noncomputable def i9(t:MT)(a b:ME):ME:=λd μ=>(t d μ).bind λp=>match p.1 with|true=>a d p.2|false=>b d p.2
theorem NB(hc:PT X c (tMT X.K mt))(q:PE X a (tM X.K ma))(r:PE X b (tM X.K mb)):PE X (.IfExp c a b pos) (tM X.K<|i9 mt ma mb):=dE (KO hc q r)<|by
 rintro w H Q ⟨u,n,s,d,h,R,E,l,k⟩;obtain⟨⟨x,g⟩,p,l⟩:=ZC.mp l;refine⟨u,n,s,x,g,R,E,p,λi v j o=>?_⟩;cases x with
 |true=>refine nO ?_;exact⟨i,n,g,d,h,o,E.mono j,l,k.after j⟩|false=>
  refine nN ?_;exact⟨i,n,g,d,h,o,E.mono j,l,k.after j⟩
noncomputable def aD:MA:=λ_ μ=>a7 ([],μ)
noncomputable def aC(a:ME)(r:MA):MA:=λd μ=>(a d μ).bind λp=>(r d p.2).bind λq=>a7 (p.1::q.1,q.2)
variable{es:List Expr}{ms:MA}
theorem NF:PA X [] (tMA X.K aD):=DB C4<|by
 rintro n H Q ⟨i,l,j,d,h,R,E,g,k⟩;cases g;exact k i [] H .refl R .nil
theorem NG(v:PE X e (tM X.K m))(w:PA X es (tMA X.K ms))(y:a0h (e::es) X.env=(b4,eval e X.env)::a0h es X.env:=by rfl):PA X (e::es) (tMA X.K<|aC m ms):=DB (C5 v w y)<|by
 rintro N H Q ⟨J,p,G,d,I,R,E,g,k⟩;obtain⟨⟨x,h⟩,s,g⟩:=ZC.mp g;obtain⟨⟨B,i⟩,u,g⟩:=ZC.mp g;cases g;exact⟨J,p,G,x,h,R,E,s,λj L K n r z=>⟨j,p,h,B,i,r,E.mono n,u,λl M q o R2 A=>k l _ q (n.trans o) R2<|.cons (z.mono o) A⟩⟩
noncomputable def bH(ms:MA):ME:=λd μ=>(ms d μ).bind λp=>if p.1.length<=ZX then a7 (.tup p.1,p.2)else b3
noncomputable def cJ(ms:MA):ME:=λd μ=>(ms d μ).bind λp=>if p.1.length<=ZX then a7 (.loc p.2.length,p.2++[.lst p.1])else b3
theorem NH(h:PA X es (tMA X.K ms)):PE X (.Tuple es v pos) (tM X.K<|bH ms):=dE (L5 h)<|by
 rintro I H Q ⟨z,A,w,d,x,R,E,g,k⟩;obtain⟨⟨G,y⟩,q,g⟩:=ZC.mp g;split at g
 .rename_i r;cases g;refine⟨z,A,w,_,_,R,E,q,λi u B o n l=>⟨by rw[l.length];exact r,λp s=>?_⟩⟩;obtain⟨j,R2⟩:=n.fresh (o:=.tup u) s;exact k i _ _ (o.trans j) R2<|.tup (.of dD)<|l.mono j
 .cases g
theorem NI(h:PA X es (tMA X.K ms)):PE X (.List es pos) (tM X.K<|cJ ms):=dE (L6 h)<|by
 rintro J H Q ⟨G,I,A,d,B,R,E,i,k⟩;obtain⟨⟨l,g⟩,w,i⟩:=ZC.mp i;split at i
 .rename_i x;cases i;refine⟨G,I,A,l,g,R,E,w,λj n o u s r=>⟨by rw[r.length];exact x,λp y=>?_⟩⟩;obtain⟨v,R2,q⟩:=s.alloc (c:=.lst l) (o:=.lst n) y r;have z:IsD X.K (hV j g.length p) (g++[C.lst l]).length (aP o p<|.lst n) (.ref p) (.loc g.length):=by have:=IsD.loc (K:=X.K) (π:=hV j g.length p) (n:=(g++[C.lst l]).length) (H:=aP o p (.lst n)) (a:=g.length) (by simp);rw[q]at this;exact this
  exact k _ _ _ (u.trans v) R2 z
 .cases i
noncomputable def aH(f:MF)(ms:MA):ME:=λd μ=>(ms d μ).bind λp=>f p.1 p.2
theorem NJ(u:∀h μ ds μ',ms h μ=a7 (ds,μ')->ds.length=n):∀σ H Q,tM K (aH f ms) σ H Q->yN (eW K n f) [] E (tMA K ms) σ H Q:=by rintro σ H Q ⟨w,h,μ,d,μ',R,E,i,k⟩;obtain⟨⟨j,g⟩,o,i⟩:=ZC.mp i;refine⟨w,h,μ,j,g,R,E,o,λl v q s r p=>?_⟩;show eW K n f (v++[]) q Q _;rw[a0p];exact⟨by rw[p.length];exact u h μ j g o,l,j,g,d,μ',r,p,i,k.after s⟩
theorem DE:∀d μ ds μ',aD d μ=a7 (ds,μ')->ds.length=0:=by intro d μ ds μ' h;cases h;rfl
theorem NK(h:∀g μ ds μ',ms g μ=a7 (ds,μ')->ds.length=n):∀g μ ds μ',aC m ms g μ=a7 (ds,μ')->ds.length=n+1:=by intro g μ ds μ' d;obtain⟨⟨x,i⟩,o,d⟩:=ZC.mp d;obtain⟨⟨k,l⟩,j,d⟩:=ZC.mp d;cases d;rw[Z8,h g i k _ j]
theorem NL(F:FnOk X.prog X.w X.K X.mg X.base eV k f i ps (eW X.K n j))(w:Room k X.A)(r:Gl X x)(u:X.mg x=a7 (.ref f))(s:a1z X.K (.ref f)=b5)(o:Binds X.K i ps [])(l:PA X (e::es) (tMA X.K ms))(v:∀z y ds h,ms z y=a7 (ds,h)->ds.length=n)(d:(x==("__debug__":Str))=false:=by decide)(q:a0h (e::es) X.env=(b4,eval e X.env)::a0h es X.env:=by rfl)(g:(a1U pos<|a0h es X.env).any (·.1)=false:=by rfl):
  PE X (.Call (.Name x p) (e::es) [] pos) (tM X.K<|aH j ms):=
 dE (L9 F w r u s o .nil (E:=E0) rH l d q g)<|NJ v
noncomputable def dS(K:ZD)(f:MF)(r:gw->Hp->VK->Prop):Prop:=
 ∀i H h k d g j Q,Rp K i H h->IsDs K i h.length H j k->f k h=a7 (d,g)->KC K Q i h.length H d g->r j H Q
theorem yX(s:dS K f r):∀σ H Q,tM K (aH f ms) σ H Q->uH r (tMA K ms) σ H Q:=by rintro σ H Q ⟨x,y,w,d,i,R,E,h,k⟩;obtain⟨⟨l,g⟩,q,h⟩:=ZC.mp h;exact⟨x,y,w,l,g,R,E,q,λj v n p o u=>s j n g l d i v Q o u h<|k.after p⟩
theorem NM{id:String}(hc:CallR X (.builtin id) r)(j:dS X.K f r)(k:Gl X x)(l:X.mg x=b3)(o:a1F x=a7 (.builtin id))(h:PA X (e::es) (tMA X.K ms))(n:x ≠ "__name__":=by decide)(d:(x==("__debug__":Str))=false:=by decide)(i:a0h (e::es) X.env=(b4,eval e X.env)::a0h es X.env:=by rfl)(g:(a1U pos<|a0h es X.env).any (·.1)=false:=by rfl):PE X (.Call (.Name x p) (e::es) [] pos) (tM X.K<|aH f ms):=
 dE (Mj hc k l o h n d i g)<|yX j
theorem NN(hc:CallR X (.type T) r)(j:dS X.K f r)(k:Gl X x)(l:X.mg x=b3)(o:a1F x=a7 (.type T))(h:PA X (e::es) (tMA X.K ms))(n:x ≠ "__name__":=by decide)(d:(x==("__debug__":Str))=false:=by decide)(i:a0h (e::es) X.env=(b4,eval e X.env)::a0h es X.env:=by rfl)(g:(a1U pos<|a0h es X.env).any (·.1)=false:=by rfl):PE X (.Call (.Name x p) (e::es) [] pos) (tM X.K<|aH f ms):=
 dE (Mm hc k l o h n d i g)<|yX j
noncomputable def bK(μ:Hm):D->Option (List D)
 |.tup xs=>a7 xs|.rol xs=>a7 xs|.loc a=>match μ[a]? with|some (.lst xs)=>a7 xs|_=>b3
 |_=>b3
noncomputable def iK:D->D->Hm->jk
 |.str z,.int i,μ=>if z.length<=ZX then(atI z.cps.toList i).map λc=>(.str ⟨#[c]⟩,μ)else b3|x,.int i,μ=>(bK μ x).bind λg=>(atI g i).map λd=>(d,μ)|_,_,_=>b3
theorem NO:dG K iK (Dl K):=by
 intro p H N x y d G L M Q R r B g k;cases B with
 |int i=>
  cases r with
  |str z=>
   simp only[iK]at g;split at g
   .rename_i w;obtain⟨c,j,l⟩:=ZH.mp g;cases l;exact .inr<|.inr ⟨z,i,c,rfl,rfl,w,j,k p _ H .refl R<|.str _⟩
   .cases g
  |tup h t=>simp only[iK,bK,ZY]at g;obtain⟨q,j,l⟩:=ZH.mp g;cases l;obtain⟨v,n,o⟩:=t.atI j;exact .inr (.inl ⟨_,_,i,v,rfl,rfl,h,n,k p _ H .refl R o⟩)|rol h t=>simp only[iK,bK,ZY]at g;obtain⟨q,j,l⟩:=ZH.mp g;cases l;obtain⟨v,n,o⟩:=t.atI j;exact .inl ⟨_,_,i,v,rfl,rfl,h.sq,n,k p _ H .refl R o⟩|@loc a I=>
   simp only[iK,bK]at g;split at g
   .rename_i E A;simp only[ZY]at g;obtain⟨q,j,l⟩:=ZH.mp g;cases l;obtain⟨J,s,u⟩:=R.lst a E A;obtain⟨v,n,o⟩:=u.atI j;exact .inl ⟨_,_,i,v,rfl,rfl,.of s,n,k p _ H .refl R o⟩
   .cases g
  |_=>simp[iK,bK]at g
 |_=>cases r<;>simp[iK]at g
theorem NP(d:PE X a (tM X.K ma))(g:PE X b (tM X.K mb))(h:yR b):PE X (.Subscript a b pos) (tM X.K<|aB iK ma mb):=dE (MK MN d g h)<|rN NO
noncomputable def rP(xs:List D)(lo hi:Option Int):List D:=(xs.drop<|HT.sIx xs.length 0 lo).take<|HT.sIx xs.length xs.length hi-HT.sIx xs.length 0 lo
noncomputable abbrev MO:=aI->Hm->Option (Option Int×Hm)
noncomputable def nT:MO:=λ_ μ=>a7 (b3,μ)
noncomputable def rQ(m:ME):MO:=λd μ=>(m d μ).bind λp=>match p.1 with|.int i=>a7 (a7 i,p.2)|_=>b3
inductive tMO (K:ZD)(m:MO)(σ:St)(H:Hp)(Q:Option Int->Hp->Prop):Prop
 |mk (π:Nat->Addr)(ρ:aI)(μ:Hm)(o:Option Int)(μ':Hm)(R:Rp K π H μ)(E:En K π μ.length H σ ρ)(hm:m ρ μ=a7 (o,μ'))(k:∀π' H',Ext π μ.length H π' μ'.length H'->Rp K π' H' μ'->Q o H'):tMO K m σ H Q
theorem NQ:PO X b3 (tMO X.K nT):=λb1C s σ H Q I q=>Mx b1C s σ H Q I<|by
 obtain⟨h,j,i,o,g,R,E,d,k⟩:=q;cases d;exact k h H .refl R
theorem NR(h:PE X e (tM X.K m)):PO X (a7 e) (tMO X.K<|rQ m):=λb1C s σ H Q I q=>My h b1C s σ H Q I<|by
 obtain⟨y,z,u,o,v,R,E,d,k⟩:=q;obtain⟨⟨x,w⟩,p,d⟩:=ZC.mp d;cases x with
 |int i=>cases d;refine⟨y,z,u,_,_,R,E,p,λg A j n l r=>?_⟩;cases r;exact⟨_,rfl,k g j n l⟩
 |_=>cases d
noncomputable abbrev DF(K:ZD):V->Option Int->Option Int->Hp->VK->Prop:=yS K
theorem NS:yP X (DF X.K):=MR
theorem DG(h:yS K x lo hi H Q):DF K x lo hi H Q:=h
noncomputable def yY(a:ME)(lo hi:MO):ME:=λd μ=>(a d μ).bind λp=>(lo d p.2).bind λq=>(hi d q.2).bind λr=>
 match p.1 with
 |.tup _=>b3|x=>(bK r.2 x).bind λg=>a7 (.loc r.2.length,r.2++[.lst<|rP g q.1 r.1])
theorem DH(h:IsDs K π n H vs ds)lo hi:IsDs K π n H (lV vs lo hi) (rP ds lo hi):=by unfold lV rP;rw[h.length];exact(h.drop _).take _
theorem jC{μ:Hm}{c:C}:IsD K (hV π μ.length p) (μ++[c]).length H (.ref p) (.loc μ.length):=by have:=IsD.loc (K:=K) (π:=hV π μ.length p) (n:=(μ++[c]).length) (H:=H) (a:=μ.length) (by simp);rw[show hV π μ.length p μ.length=p from if_pos rfl]at this;exact this
theorem NT(Z:PE X a (tM X.K ma))(hl:PO X lo (tMO X.K K))(hu:PO X hi (tMO X.K J)):PE X (.Subscript a (.Slice lo hi b3 p2) pos) (tM X.K<|yY ma K J):=dE (MB NS Z hl hu)<|by
 rintro σ H Q ⟨π,I,μ,d,μ',R,E,g,k⟩;obtain⟨⟨x,j⟩,N,g⟩:=ZC.mp g;obtain⟨⟨l,n⟩,O,g⟩:=ZC.mp g;obtain⟨⟨u,A⟩,T,g⟩:=ZC.mp g;refine⟨π,I,μ,x,j,R,E,N,λB v1 H1 o M i1=>⟨B,I,j,l,n,M,E.mono o,O,λG H2 r R2=>⟨G,I,n,u,A,R2,(E.mono o).mono r,T,λπ3 H3 w s=>?_⟩⟩⟩;have i3:=(i1.mono r).mono w;cases i3 with
 |rol h t=>simp only[bK,ZY]at g;cases g;refine DG ⟨_,_,rfl,h.sq,λp z=>?_⟩;obtain⟨y,v,q⟩:=s.alloc (c:=.lst (rP _ l u)) (o:=.lst (lV _ l u)) z<|DH t l u;exact k _ _ _ (((o.trans r).trans w).trans y) v jC|@loc i hi'=>
  simp only[bK]at g;split at g
  .rename_i L hx;simp only[ZY]at g;cases g;obtain⟨vs,U,Y⟩:=s.lst i L hx;refine DG ⟨_,_,rfl,.of U,λp z=>?_⟩;obtain⟨y,v,q⟩:=s.alloc (c:=.lst (rP L l u)) (o:=.lst (lV vs l u)) z<|DH Y l u;exact k _ _ _ (((o.trans r).trans w).trans y) v jC
  .cases g
 |tup h t=>simp at g
 |_=>simp[bK]at g
end
noncomputable def bI:MS:=λd μ=>a7 (.nx,d,μ)
noncomputable def aJ(a b:MS):MS:=λd μ=>(a d μ).bind λp=>match p.1 with|.nx=>b p.2.1 p.2.2|_=>a7 p
noncomputable def aS(m:ME):MS:=λd μ=>(m d μ).map λp=>(.rt p.1,d,p.2)
noncomputable def eE(m:ME):MS:=λd μ=>(m d μ).map λp=>(.nx,d,p.2)
noncomputable def bE(t:MT)(a b:MS):MS:=λd μ=>(t d μ).bind λp=>match p.1 with|true=>a d p.2|false=>b d p.2
noncomputable def aO(i:Nat)(m:ME):MS:=λd μ=>(m d μ).map λp=>(.nx,d.set i<|a7 p.1,p.2)
theorem NU:PSs X [] (tMS X.K bI):=DC KR<|by
 rintro E l H ⟨i,p,o,n,j,h,R,d,g,k⟩;cases g;exact k i l H .refl R d
theorem NV{b6:List Stmt}(r:PS X st (tMS X.K ms))(B:PSs X b6 (tMS X.K mr)):PSs X (st::b6) (tMS X.K<|aJ ms mr):=DC (KS r B)<|by
 rintro E M H ⟨I,J,G,x,v,s,R,z,i,k⟩;obtain⟨⟨w,p,o⟩,r,i⟩:=ZC.mp i;refine⟨I,J,G,w,p,o,R,z,r,?_⟩;cases w with
 |nx=>
  intro u K L q A y;refine⟨u,p,o,x,v,s,A,y,i,?_⟩;cases x with
  |nx=>exact λg h l n R2 j=>k g h l (q.trans n) R2 j|bk=>exact λg h l n R2 j=>k g h l (q.trans n) R2 j|ct=>exact λg h l n R2 j=>k g h l (q.trans n) R2 j|rt d=>exact KC.after k q
 |rt d=>cases i;exact k|bk=>cases i;exact k
 |ct=>cases i;exact k
theorem NW(d:PS X st (tMS X.K ms)):PSs X [st] (tMS X.K ms):=KU d
theorem NX:PS X (.Pass pos) (tMS X.K bI):=jS KW<|by
 rintro E l H ⟨i,p,o,n,j,h,R,d,g,k⟩;cases g;exact k i l H .refl R d
theorem NY(j:PE X e (tM X.K m)):PS X (.Return (a7 e) pos) (tMS X.K<|aS m):=jS (K1 j)<|by
 rintro E s H ⟨o,p,l,r,q,n,R,h,d,k⟩;obtain⟨⟨x,g⟩,i,d⟩:=ZH.mp d;cases d;exact⟨o,p,l,x,g,R,h,i,k⟩
theorem NZ(p:PE X e (tM X.K m))(q:a4a e b3 pos.line X.env=pure false:=by rfl):PS X (.Expr e pos) (tMS X.K<|eE m):=jS (KZ p q)<|by
 rintro E y H ⟨u,v,r,z,w,s,R,i,d,k⟩;obtain⟨⟨x,g⟩,o,d⟩:=ZH.mp d;cases d;exact⟨u,v,r,x,g,R,i,o,λh B l j n A=>k h y l j n<|i.mono j⟩
theorem N0{mt:MT}(hc:PT X c (tMT X.K mt))(G:PSs X body (tMS X.K ms))(I:PSs X orelse (tMS X.K mu)):PS X (.If c body orelse pos) (tMS X.K<|bE mt ms mu):=jS (K6 hc G I)<|by
 rintro E L H ⟨K,w,J,s,n,j,R,v,u,k⟩;obtain⟨⟨x,i⟩,B,u⟩:=ZC.mp u;refine⟨K,w,J,x,i,R,v,B,λl A o y=>?_⟩;have z:pF X.K E l i.length A s n j:=by
  cases s with
  |nx=>exact λg h q r R2 p=>k g h q (o.trans r) R2 p|bk=>exact λg h q r R2 p=>k g h q (o.trans r) R2 p|ct=>exact λg h q r R2 p=>k g h q (o.trans r) R2 p|rt d=>exact KC.after k o
 cases x with
 |true=>refine nO ?_;exact⟨l,w,i,s,n,j,y,v.mono o,u,z⟩|false=>
  refine nN ?_;exact⟨l,w,i,s,n,j,y,v.mono o,u,z⟩
theorem DI(r:X.N.Nodup)(hi:X.N[i]?=a7 x)(w:Loc X.env.scope x)(s:PE X e (tM X.K m))(v:a4a e (a7<|.Name x d) pos.line X.env=pure false:=by rfl)(u:X.fn x=b5\/X.env.scope.names.lookup x=a7 .local:=by first|exact .inl rfl|exact .inr rfl|assumption):PS X (.Assign [.Name x d] e pos) (tMS X.K<|aO i m):=jS (La r hi w s v u)<|by
 rintro E L H ⟨B,G,z,J,I,A,R,l,g,k⟩;obtain⟨⟨x,h⟩,q,g⟩:=ZH.mp g;cases g;exact⟨B,G,z,x,h,R,l,q,λj K o n p y=>k j _ o n p<|(l.mono n).set y i⟩
noncomputable def uM(n:Nat)(ds:List D):aI:=ds.map a7++a0z (n-ds.length) b3
noncomputable def yZ(n:Nat)(m:MS):MF:=λds μ=>(m (uM n ds) μ).bind λp=>match p.1 with|.rt d=>a7 (d,p.2.2)|.nx=>a7 (.non,p.2.2)|_=>b3
theorem N1(h:IsDs K π n H vs ds)(l:vs.length<=N.length):En K π n H (L2.start N vs) (uM N.length ds):=by
 have a:=h.length;refine⟨by simp[L2.start,uM,a],λi d e=>?_⟩;unfold uM at e;unfold L2.start;by_cases hi:i<ds.length
 .rw[a0f<|by simpa using hi,ZU]at e;obtain⟨k,b,c⟩:=ZH.mp e;cases c;obtain⟨v,g,j⟩:=h.get b;exact⟨v,by rw[a0f<|by rw[ZF,a];exact hi,ZU,g];rfl,j⟩
 .rw[a0N<|by simpa using a2F.mp hi]at e;have:=a2M (n:=N.length-ds.length) (a:=(b3:Option D)) (i:=i-(ds.map a7).length);rw[this]at e;split at e<;>simp at e
theorem N2(F:Fun K x a st f o)(S:FnScope N ps (cR st))(g:ps.length<=N.length)(c:∀b A outer s H E,Room k (A.deeper<|a6N a (cR st) s.heap.objs.size f b)->
   PSs (kS eV P w K mg base N a (cR st) f b A outer s H E).nox (fI st) (tMS K m)):FnOk P w K mg base eV (k+1) f o ps (eW K ps.length<|yZ N.length m):=by
 refine F.ok S (λG H Q E h=>h.1) λb A outer s H G Q E z h=>⟨_,c b A outer s H E z,?_⟩;obtain⟨B,L,ds,I,d,J,R,i,e,q⟩:=h;obtain⟨⟨p,n,j⟩,y,e⟩:=ZC.mp e;refine⟨L,_,I,p,n,j,R,N1 i<|by rw[B];exact g,y,?_⟩;cases p with
 |rt T=>cases e;exact q|nx=>cases e;exact λl M r v u O=>q l .non r v u .non|bk=>cases e|ct=>cases e
open SeqAt (EqAt RcAt RcNeAt)
inductive KD where
 |non|bl (b:Bool)|int (i:Int)|str (x:Str)|tup (n:Nat)|lst (n:Nat)
inductive IsK (s:ZJ):Value->KD->Prop where
 |non:IsK s .none .non
 |bl (b:Bool):IsK s (.bool b)<|.bl b
 |int (i:Int)(t:b1z):IsK s (.int i t)<|.int i
 |str (x:Str)(t:b1z):IsK s (.str x t)<|.str x
 |tup {l:Addr}{its:gq}(h:s.heap.IsTuple l its.toArray):IsK s (.ref l)<|.tup its.length
 |lst {l:Addr}{its:gq}(h:s.heap.IsList l its.toArray):IsK s (.ref l)<|.lst its.length
noncomputable def uN(e:Nat->Bool):KD->KD->Bool
 |.non,.non=>b5|.bl a,.bl b=>a==b|.bl a,.int b=>(if a then 1 else 0)==b|.int a,.bl b=>a==(if b then 1 else 0)|.int a,.int b=>a==b|.str a,.str b=>a==b|.tup n,.tup k=>(a0L<|min n k).all e&&n==k|.lst n,.lst k=>(a0L<|min n k).all e&&n==k|_,_=>b4
noncomputable def uO(A:a0y)(s:ZJ)(u v:Value)(e:Nat->Bool):Prop:=
 (∀l b c a,u=.ref l->v=.ref b->s.heap.IsTuple l c->s.heap.IsTuple b a->∀j (d:j<c.size)(g:j<a.size),EqAt A.in1 s c[j] a[j] (e j)) /\
 (∀l b c a,u=.ref l->v=.ref b->s.heap.IsList l c->s.heap.IsList b a->∀j (d:j<c.size)(g:j<a.size),EqAt A.in1 s c[j] a[j] (e j))
theorem DJ e(h:n=k):((a0L<|min n k).all e&&n==k)=(a0L n).all e:=by subst h;simp
theorem DK e(h:n≠k):((a0L<|min n k).all e&&n==k)=false:=by simp[h]
theorem y1(h:IsK s u k)(h':IsK s v k')(c:A.units<a1W)(o:uO A s u v e):RcAt A s u v (uN e k k'):=by
 cases h with
 |non=>
  cases h' with
  |non=>exact RcAt.none_none|bl b=>exact RcAt.none_bool b|int i t=>exact RcAt.none_int i t|str x t=>exact RcAt.none_str x t|tup h=>exact RcAt.none_tuple h c|lst h=>exact RcAt.none_list h c
 |bl a=>
  cases h' with
  |non=>exact RcAt.bool_none a|bl b=>exact RcAt.bool_bool a b|int i t=>exact RcAt.bool_int a i t|str x t=>exact RcAt.bool_str a x t|tup h=>exact RcAt.bool_tuple a h c|lst h=>exact RcAt.bool_list a h c
 |int a j=>
  cases h' with
  |non=>exact RcAt.int_none a j|bl b=>exact RcAt.int_bool a j b|int i t=>exact RcAt.int_int a j i t|str x t=>exact RcAt.int_str a j x t|tup h=>exact RcAt.int_tuple a j h c|lst h=>exact RcAt.int_list a j h c
 |str a j=>
  cases h' with
  |non=>exact RcAt.str_none a j|bl b=>exact RcAt.str_bool a j b|int i t=>exact RcAt.str_int a j i t|str x t=>exact RcAt.str_str a j x t|tup h=>exact RcAt.str_tuple a j h c|lst h=>exact RcAt.str_list a j h c
 |tup g=>
  cases h' with
  |non=>exact RcAt.tuple_none g c|bl b=>exact RcAt.tuple_bool b g c|int i t=>exact RcAt.tuple_int i t g c|str x t=>exact RcAt.tuple_str x t g c|tup h=>have:=RcAt.tuples (e:=e) g h c<|o.1 _ _ _ _ rfl rfl g h;exact this|lst h=>exact RcAt.tuple_list g h c
 |lst g=>
  cases h' with
  |non=>exact RcAt.list_none g c|bl b=>exact RcAt.list_bool b g c|int i t=>exact RcAt.list_int i t g c|str x t=>exact RcAt.list_str x t g c|tup h=>exact RcAt.list_tuple g h c|@lst b d h=>
   rename_i l m;by_cases n:m.length=d.length
   .have:=RcAt.lists (e:=e) g h (by simpa using n) c<|o.2 _ _ _ _ rfl rfl g h;show RcAt A s _ _ ((a0L<|min m.length d.length).all e&&m.length==d.length);rw[DJ e n];simpa using this
   .have:=RcAt.lists_lengths g h (by simpa using n) c;show RcAt A s _ _ ((a0L<|min m.length d.length).all e&&m.length==d.length);rw[DK e n];exact this
theorem N3(h:IsK s u k)(h':IsK s v k')(c:A.units<a1W)(o:uO A s u v e):RcNeAt A s u v (!uN e k k'):=by
 cases h with
 |non=>
  cases h' with
  |non=>exact RcNeAt.none_none|bl b=>exact RcNeAt.none_bool b|int i t=>exact RcNeAt.none_int i t|str x t=>exact RcNeAt.none_str x t|tup h=>exact RcNeAt.none_tuple h c|lst h=>exact RcNeAt.none_list h c
 |bl a=>
  cases h' with
  |non=>exact RcNeAt.bool_none a|bl b=>exact RcNeAt.bool_bool a b|int i t=>exact RcNeAt.bool_int a i t|str x t=>exact RcNeAt.bool_str a x t|tup h=>exact RcNeAt.bool_tuple a h c|lst h=>exact RcNeAt.bool_list a h c
 |int a j=>
  cases h' with
  |non=>exact RcNeAt.int_none a j|bl b=>exact RcNeAt.int_bool a j b|int i t=>exact RcNeAt.int_int a j i t|str x t=>exact RcNeAt.int_str a j x t|tup h=>exact RcNeAt.int_tuple a j h c|lst h=>exact RcNeAt.int_list a j h c
 |str a j=>
  cases h' with
  |non=>exact RcNeAt.str_none a j|bl b=>exact RcNeAt.str_bool a j b|int i t=>exact RcNeAt.str_int a j i t|str x t=>exact RcNeAt.str_str a j x t|tup h=>exact RcNeAt.str_tuple a j h c|lst h=>exact RcNeAt.str_list a j h c
 |tup g=>
  cases h' with
  |non=>exact RcNeAt.tuple_none g c|bl b=>exact RcNeAt.tuple_bool b g c|int i t=>exact RcNeAt.tuple_int i t g c|str x t=>exact RcNeAt.tuple_str x t g c|tup h=>have:=RcNeAt.tuples (e:=e) g h c<|o.1 _ _ _ _ rfl rfl g h;exact this|lst h=>exact RcNeAt.tuple_list g h c
 |lst g=>
  cases h' with
  |non=>exact RcNeAt.list_none g c|bl b=>exact RcNeAt.list_bool b g c|int i t=>exact RcNeAt.list_int i t g c|str x t=>exact RcNeAt.list_str x t g c|tup h=>exact RcNeAt.list_tuple g h c|@lst b d h=>
   rename_i l m;by_cases n:m.length=d.length
   .have:=RcNeAt.lists (e:=e) g h (by simpa using n) c<|o.2 _ _ _ _ rfl rfl g h;show RcNeAt A s _ _ (!((a0L<|min m.length d.length).all e&&m.length==d.length));rw[DJ e n];simpa using this
   .have:=RcNeAt.lists_lengths g h (by simpa using n) c;show RcNeAt A s _ _ (!((a0L<|min m.length d.length).all e&&m.length==d.length));rw[DK e n];exact this
theorem N4(h:IsK s u k)(h':IsK s v k')(c:A.units<a1W)(o:uO A s u v e)(n:∀l b,u=.ref l->v=.ref b->l≠b):EqAt A s u v (uN e k k'):=by
 cases h with
 |non=>
  cases h' with
  |non=>exact EqAt.same _|bl b=>exact EqAt.none_bool b|int i t=>exact EqAt.none_int i t|str x t=>exact EqAt.none_str x t|tup h=>exact EqAt.none_tuple h c|lst h=>exact EqAt.none_list h c
 |bl a=>
  cases h' with
  |non=>exact EqAt.bool_none a|bl b=>exact EqAt.bool_bool a b|int i t=>exact EqAt.bool_int a i t|str x t=>exact EqAt.bool_str a x t|tup h=>exact EqAt.bool_tuple a h c|lst h=>exact EqAt.bool_list a h c
 |int a d=>
  cases h' with
  |non=>exact EqAt.int_none a d|bl b=>exact EqAt.int_bool a d b|int i t=>exact EqAt.int_int a d i t|str x t=>exact EqAt.int_str a d x t|tup h=>exact EqAt.int_tuple a d h c|lst h=>exact EqAt.int_list a d h c
 |str a d=>
  cases h' with
  |non=>exact EqAt.str_none a d|bl b=>exact EqAt.str_bool a d b|int i t=>exact EqAt.str_int a d i t|str x t=>exact EqAt.str_str a d x t|tup h=>exact EqAt.str_tuple a d h c|lst h=>exact EqAt.str_list a d h c
 |@tup l m g=>
  cases h' with
  |non=>exact EqAt.tuple_none g c|bl b=>exact EqAt.tuple_bool b g c|int i t=>exact EqAt.tuple_int i t g c|str x t=>exact EqAt.tuple_str x t g c|@tup b j h=>exact EqAt.of_refs (n l b rfl rfl) (y1 (k:=.tup m.length) (k':=.tup j.length) (.tup g) (.tup h) c o)|lst h=>exact EqAt.tuple_list g h c
 |@lst l m g=>
  cases h' with
  |non=>exact EqAt.list_none g c|bl b=>exact EqAt.list_bool b g c|int i t=>exact EqAt.list_int i t g c|str x t=>exact EqAt.list_str x t g c|tup h=>exact EqAt.list_tuple g h c|@lst b j h=>exact EqAt.of_refs (n l b rfl rfl)<|y1 (k:=.lst m.length) (k':=.lst j.length) (.lst g) (.lst h) c o
inductive KdD where
 |non|bl (b:Bool)|int (i:Int)|str (x:Str)|tup (xs:List D)|lst (xs:List D)
noncomputable def dZ(μ:Hm):D->Option KdD
 |.non=>a7 .non|.bl b=>a7 (.bl b)|.int i=>a7 (.int i)|.str x=>a7 (.str x)|.tup xs=>a7 (.tup xs)|.rol xs=>a7 (.lst xs)|.loc a=>match μ[a]? with|some (.lst xs)=>a7 (.lst xs)|_=>b3
 |.ty _=>b3
noncomputable def hW(f:D->D->Option Bool):List D->List D->Option Bool
 |x::xs,y::ys=>(f x y).bind λb=>(hW f xs ys).map λc=>b&&c|[],[]=>a7 b5|_,_=>a7 b4
noncomputable def nU(f:D->D->Option Bool):KdD->KdD->Option Bool
 |.non,.non=>a7 b5|.bl a,.bl b=>a7 (a==b)|.bl a,.int b=>a7 ((if a then 1 else 0)==b)|.int a,.bl b=>a7 (a==(if b then 1 else 0))|.int a,.int b=>a7 (a==b)|.str a,.str b=>a7 (a==b)|.tup xs,.tup ys=>hW f xs ys|.lst xs,.lst ys=>hW f xs ys|_,_=>a7 b4
noncomputable abbrev y2(f:D->D->Option Bool):D->D->Option Bool:=f
theorem DL(h:y2 f x y=a7 b):f x y=a7 b\/(b=b5/\∃a,x=.loc a/\y=.loc a):=.inl h
noncomputable def c5:Nat->Hm->D->D->Option Bool
 |0,_,_,_=>b3|n+1,μ,x,y=>(dZ μ x).bind λa=>(dZ μ y).bind λb=>nU (y2<|c5 n μ) a b
noncomputable abbrev jT(n:Nat)(μ:Hm):D->D->Option Bool:=y2<|c5 n μ
noncomputable def zA:KdD->KD
 |.non=>.non|.bl b=>.bl b|.int i=>.int i|.str x=>.str x|.tup xs=>.tup xs.length|.lst xs=>.lst xs.length
noncomputable def pI:KdD->List D
 |.tup xs=>xs|.lst xs=>xs|_=>[]
section
variable{X:Cx}{b1C:jw}{σ:St}{H:Hp}{s:ZJ}{π:Nat->Addr}{μ:Hm}
inductive KdAt (X:Cx)(π:Nat->Addr)(n:Nat)(H:Hp)(s:ZJ)(u:Value):KdD->Prop where
 |non (h:u=.none):KdAt X π n H s u .non
 |bl (b:Bool)(h:u=.bool b):KdAt X π n H s u<|.bl b
 |int (i:Int)(t:b1z)(h:u=.int i t):KdAt X π n H s u<|.int i
 |str (x:Str)(t:b1z)(h:u=.str x t):KdAt X π n H s u<|.str x
 |tup {xs:List D}(p:Addr)(vs:gw)(its:gq)(h:u=.ref p)(q:SqT X.K H p vs)(i:IsDs X.K π n H vs xs)(r:Vals vs its)(t:s.heap.IsTuple p its.toArray):KdAt X π n H s u<|.tup xs
 |lst {xs:List D}(p:Addr)(vs:gw)(its:gq)(h:u=.ref p)(q:SqL X.K H p vs)(i:IsDs X.K π n H vs xs)(r:Vals vs its)(t:s.heap.IsList p its.toArray):KdAt X π n H s u<|.lst xs
theorem pJ(I:Inv X b1C σ H s)(R:Rp X.K π H μ)(h:IsD X.K π μ.length H v d)(r:RelV v u)(e:dZ μ d=a7 k):KdAt X π μ.length H s u k:=by
 cases h with
 |non=>cases e;exact .non r|bl b=>cases e;exact .bl b r|int i=>cases e;obtain⟨t,q⟩:=r;exact .int i t q|str x=>cases e;obtain⟨t,q⟩:=r;exact .str x t q|ty x=>cases e|tup q t=>cases e;obtain⟨c,g,p,_⟩:=I.tuple q;exact .tup _ _ c r q t g p|rol q t=>cases e;obtain⟨c,g,p,_⟩:=I.list q.sq;exact .lst _ _ c r q.sq t g p.isList|@loc a w=>
  simp only[dZ]at e;split at e
  .rename_i o m;cases e;obtain⟨n,j,l⟩:=R.lst a o m;have q:SqL X.K H (π a) n:=.of j;obtain⟨c,g,p,_⟩:=I.list q;exact .lst _ _ c r q l g p.isList
  .cases e
theorem KdAt.isK(h:KdAt X π n H s u k):IsK s u (zA k):=by
 cases h with
 |non h=>subst h;exact .non|bl b h=>subst h;exact .bl b|int i t h=>subst h;exact .int i t|str x t h=>subst h;exact .str x t|tup p c a h q i r t=>subst h;have:a.length=_:=r.length.symm.trans i.length;show IsK s (.ref p) (.tup _);rw[<- this];exact .tup t|lst p c a h q i r t=>subst h;have:a.length=_:=r.length.symm.trans i.length;show IsK s (.ref p) (.lst _);rw[<- this];exact .lst t
noncomputable def jD(f:D->D->Option Bool)(xs a:List D)(j:Nat):Bool:=match xs[j]?,a[j]? with
 |some x,a7 y=>(f x y).getD b4|_,_=>b4
theorem zB:∀{xs a}{b},hW f xs a=a7 b->b=((a0L<|min xs.length a.length).all (jD f xs a)&&xs.length==a.length)/\∀j x y,xs[j]?=a7 x->a[j]?=a7 y->f x y=a7 (jD f xs a j)
 |[],[],b,h=>by cases h;exact⟨rfl,λj x y e=>by simp at e⟩
 |x::xs,[],b,h=>by cases h;exact⟨by simp,λj x y _ e=>by simp at e⟩
 |[],y::a,b,h=>by cases h;exact⟨by simp,λj x y e=>by simp at e⟩
 |x::xs,y::a,b,h=>by
  simp only[hW]at h;obtain⟨c,l,n⟩:=ZC.mp h;obtain⟨d,o,p⟩:=ZH.mp n;obtain⟨q,r⟩:=zB o;have k:jD f (x::xs) (y::a) 0=c:=by simp[jD,l]
  have m:∀j,jD f (x::xs) (y::a) (j+1)=jD f xs a j:=λj=>by simp[jD]
  refine⟨?_,λj u v g i=>?_⟩
  .subst p;rw[q];simp only[Z8,Nat.add_min_add_right];rw[a4W,a0u,a5Y,k];have:(jD f (x::xs) (y::a)∘Nat.succ)=jD f xs a:=funext λj=>m j;rw[this];simp[Bool.and_assoc]
  .cases j with
   |zero=>simp at g i;subst g;subst i;rw[k,l]|succ j=>rw[m j];exact r j u v (by simpa using g)<|by simpa using i
theorem DM(h:nU f k k'=a7 b):b=uN (jD f (pI k)<|pI k') (zA k) (zA k'):=by
 cases k<;>cases k'<;>first
  |(have a:=Z0 h;subst a;rfl)|(obtain⟨c,_⟩:=zB h;rw[c];rfl)
theorem N5(I:Inv X b1C σ H s)(R:Rp X.K π H μ):∀n{v}{u}{x y}{b},RelV v u->IsD X.K π μ.length H v x->IsD X.K π μ.length H v y->c5 n μ x y=a7 b->b=true:=by
 intro n;induction n with
 |zero=>intro v u x y b _ _ _ h;cases h|succ n ih=>
  intro v u x y b r hx hy h;obtain⟨k,T,h⟩:=ZC.mp h;obtain⟨k',h2,h⟩:=ZC.mp h;have a1:=pJ I R hx r T;have o:=pJ I R hy r h2;have g:∀{vs:gw}{xs Q:List D}{c:Bool},(∀v∈vs,∃u,RelV v u)->IsDs X.K π μ.length H vs xs->IsDs X.K π μ.length H vs Q->hW (jT n μ) xs Q=a7 c->c=true:=by
   intro vs;induction vs with
   |nil=>intro xs Q c _ Y m h;cases Y;cases m;cases h;rfl|cons w vs Z=>
    intro xs Q c hr Y m h;cases Y with
    |cons p1 t1=>
     cases m with
     |cons K B=>simp only[hW]at h;obtain⟨c1,T,h3⟩:=ZC.mp h;obtain⟨c2,h4,h5⟩:=ZH.mp h3;obtain⟨O,M⟩:=hr w<|a0l ..;have a:c1=true:=(DL T).elim (ih M p1 K) (·.1);have l:=Z (λv G=>hr v<|Z2 _ G) t1 B h4;subst a;subst l;exact h5.symm
  cases a1 with
  |non a=>
   subst a;cases o with
   |non _=>exact(Z0 h).symm|bl _ e=>cases e|int _ _ e=>cases e|str _ _ e=>cases e|tup _ _ _ e=>cases e|lst _ _ _ e=>cases e
  |bl c a=>
   subst a;cases o with
   |non e=>cases e|bl _ e=>cases e;exact(Z0 h).symm.trans (beq_self_eq_true _)|int _ _ e=>cases e|str _ _ e=>cases e|tup _ _ _ e=>cases e|lst _ _ _ e=>cases e
  |int c t a=>
   subst a;cases o with
   |non e=>cases e|bl _ e=>cases e|int _ _ e=>cases e;exact(Z0 h).symm.trans (beq_self_eq_true _)|str _ _ e=>cases e|tup _ _ _ e=>cases e|lst _ _ _ e=>cases e
  |str c t a=>
   subst a;cases o with
   |non e=>cases e|bl _ e=>cases e|int _ _ e=>cases e|str _ _ e=>cases e;exact(Z0 h).symm.trans (beq_self_eq_true _)|tup _ _ _ e=>cases e|lst _ _ _ e=>cases e
  |tup p vs J a q i N t=>
   have z:KdAt X π μ.length H s (.ref p) _:=a▸KdAt.tup p vs J a q i N t;rw[a]at o;cases o with
   |non e=>cases e|bl _ e=>cases e|int _ _ e=>cases e|str _ _ e=>cases e|tup K E d l L m A B=>
    cases l;have:=I.tuple_inj q L;subst this;exact g (λv G=>by
     obtain⟨j,U,rfl⟩:=a8q G;obtain⟨O,_,M⟩:=N.get<|ZT U;exact⟨O,M⟩) i m h
   |lst K E d l L m A B=>cases l;exact absurd rfl<|a1R B t
  |lst p vs J a q i N t=>
   rw[a]at o;cases o with
   |non e=>cases e|bl _ e=>cases e|int _ _ e=>cases e|str _ _ e=>cases e|tup K E d l L m A B=>cases l;exact absurd rfl (a1R t B)|lst K E d l L m A B=>
    cases l;have:=I.list_inj q L;subst this;exact g (λv G=>by
     obtain⟨j,U,rfl⟩:=a8q G;obtain⟨O,_,M⟩:=N.get<|ZT U;exact⟨O,M⟩) i m h
theorem pK(A:a0y):A.in1.units=A.units+1:=rfl
theorem DN(I:Inv X b1C σ H s)(ih:∀{A}{v v'}{u u'}{x y}{b},A.units+n<a1W->RelV v u->RelV v' u'->IsD X.K π μ.length H v x->IsD X.K π μ.length H v' y->c5 n μ x y=a7 b->EqAt A s u u' b)(hu:A.units+(n+1)<a1W)(a1:KdAt X π μ.length H s u k)(a2:KdAt X π μ.length H s u' k')(h:nU (jT n μ) k k'=a7 b):uO A s u u' (jD (jT n μ) (pI k)<|pI k'):=by
 have G:∀{vs Q:gw}{its its':gq}{xs Y:List D}{c:Bool},Vals vs its->Vals Q its'->IsDs X.K π μ.length H vs xs->IsDs X.K π μ.length H Q Y->hW (jT n μ) xs Y=a7 c->
   ∀j (T:j<its.length)(U:j<its'.length),EqAt A.in1 s its[j] its'[j] (jD (jT n μ) xs Y j):=by
  intro vs Q its its' xs Y c r r' i i' e j T U;have l1:=r.length;have l2:=r'.length;have l3:=i.length;have l4:=i'.length;have hx:xs[j]?=a7 (xs[j]'(by lia)):=ZT _;have hy:Y[j]?=a7 (Y[j]'(by lia)):=ZT _;obtain⟨v,v1,v2⟩:=i.get hx;obtain⟨v',v1',v2'⟩:=i'.get hy;obtain⟨w,w1,w2⟩:=r.get v1;obtain⟨w',w1',w2'⟩:=r'.get v1';rw[ZT T]at w1;rw[ZT U]at w1';cases w1;cases w1';have key:∀{x y:D}{b:Bool},IsD X.K π μ.length H v x->IsD X.K π μ.length H v' y->jT n μ x y=a7 b->EqAt A.in1 s its[j] its'[j] b:=λ{x y b} i1 J hq=>by
   rcases DL hq with hq|⟨rfl,a,rfl,rfl⟩
   .exact ih (by rw[pK];lia) w2 w2' i1 J hq
   .cases i1;cases J;have z1:its[j]=ZZ (π a):=w2;have z2:its'[j]=ZZ (π a):=w2';rw[z1,z2];exact EqAt.same _
  exact key v2 v2'<|(zB e).2 j _ _ hx hy
 constructor
 .intro l b' E z e1 e2 t1 t2 j T U;subst e1;subst e2;cases a1 with
  |tup p vs its e q i r t=>
   cases e;cases a2 with
   |tup p2 R B d q2 J Z O=>
    cases d;have z1:E=its.toArray:=by obtain⟨o,K,g2,n1,M⟩:=t1;obtain⟨o',g,L,N,m⟩:=t;rw[K]at g;cases g;rw[M]at m;injection m
    have z2:z=B.toArray:=by obtain⟨o,K,g2,n1,M⟩:=t2;obtain⟨o',g,L,N,m⟩:=O;rw[K]at g;cases g;rw[M]at m;injection m
    subst z1;subst z2;have:=G r Z i J h j (by simpa using T) (by simpa using U);simpa[pI]using this
   |lst p2 R B d q2 J Z O=>cases d;exact absurd rfl (a1R O t2)|non d=>cases d|bl _ d=>cases d|int _ _ d=>cases d|str _ _ d=>cases d
  |lst p vs its e q i r t=>cases e;exact absurd rfl (a1R t t1)|non e=>cases e|bl _ e=>cases e|int _ _ e=>cases e|str _ _ e=>cases e
 .intro l b' E z e1 e2 t1 t2 j T U;subst e1;subst e2;cases a1 with
  |lst p vs its e q i r t=>
   cases e;cases a2 with
   |lst p2 R B d q2 J Z O=>
    cases d;have z1:E=its.toArray:=by obtain⟨o,K,g2,n1,M⟩:=t1;obtain⟨o',g,L,N,m⟩:=t;rw[K]at g;cases g;rw[M]at m;injection m
    have z2:z=B.toArray:=by obtain⟨o,K,g2,n1,M⟩:=t2;obtain⟨o',g,L,N,m⟩:=O;rw[K]at g;cases g;rw[M]at m;injection m
    subst z1;subst z2;have:=G r Z i J h j (by simpa using T) (by simpa using U);simpa[pI]using this
   |tup p2 R B d q2 J Z O=>cases d;exact absurd rfl (a1R t2 O)|non d=>cases d|bl _ d=>cases d|int _ _ d=>cases d|str _ _ d=>cases d
  |tup p vs its e q i r t=>cases e;exact absurd rfl (a1R t1 t)|non e=>cases e|bl _ e=>cases e|int _ _ e=>cases e|str _ _ e=>cases e
theorem DO(I:Inv X b1C σ H s)(R:Rp X.K π H μ):∀n{A}{v c}{u a}{x y}{b},A.units+n<a1W->RelV v u->RelV c a->IsD X.K π μ.length H v x->IsD X.K π μ.length H c y->c5 n μ x y=a7 b->EqAt A s u a b:=by
 intro n;induction n with
 |zero=>intro A v c u a x y b _ _ _ _ _ h;cases h|succ n J=>
  intro A v c u a x y b G r m i j h;have q:=h;obtain⟨k,w,h⟩:=ZC.mp h;obtain⟨L,B,h⟩:=ZC.mp h;have d:=pJ I R i r w;have e:=pJ I R j m B;by_cases g:u=a
  .subst g;have:v=c:=r.inj m;subst this;have:=N5 I R (n+1) r i j q;subst this;exact EqAt.same _
  .have E:=DN I J G d e h;rw[DM h];exact N4 d.isK e.isK (by lia) E λl K o p z=>g<|by rw[o,p,z]
theorem DP(I:Inv X b1C σ H s)(R:Rp X.K π H μ)n(l:A.units+n<a1W)(r:RelV v u)(p:RelV g d)(m:IsD X.K π μ.length H v x)(o:IsD X.K π μ.length H g y)(h:c5 n μ x y=a7 b):
  RcAt A s u d b/\RcNeAt A s u d (!b):=by
 cases n with
 |zero=>cases h|succ n=>obtain⟨k,i,h⟩:=ZC.mp h;obtain⟨q,j,h⟩:=ZC.mp h;have a:=pJ I R m r i;have c:=pJ I R o p j;have e:=DN I (A:=A) (DO I R n) l a c h;rw[DM h];exact⟨y1 a.isK c.isK (by lia) e,N3 a.isK c.isK (by lia) e⟩
end
noncomputable def kT(g:Int->Int->Option Int):D->D->Hm->jk
 |.int i,.int j,μ=>(g i j).map λz=>(.int z,μ)|_,_,_=>b3
theorem DQ(h:kT g x y μ=a7 (d,μ')):∃i j z,x=.int i/\y=.int j/\g i j=a7 z/\d=.int z/\μ'=μ:=by
 unfold kT at h;split at h
 .rename_i i j;obtain⟨z,a,b⟩:=ZH.mp h;cases b;exact⟨i,j,z,rfl,rfl,a,rfl,rfl⟩
 .cases h
theorem uP{g':Int->Int->Int}(e:∀i j z,g i j=a7 z->a i j/\z=g' i j):dG K (kT g) (rI a λi j=>.int<|g' i j):=by intro o H r x y d n p q Q R l m h k;obtain⟨i,j,z,rfl,rfl,b,rfl,rfl⟩:=DQ h;cases l;cases m;obtain⟨c,rfl⟩:=e i j z b;exact⟨i,j,rfl,rfl,c,k o _ H .refl R<|.int _⟩
theorem N6{g':Int->Int->Int}:dG K (kT λi j=>a7<|g' i j) (iJ λi j=>.int<|g' i j):=by intro h H n x y d g l m Q R c e b k;obtain⟨i,j,z,rfl,rfl,a,rfl,rfl⟩:=DQ b;cases c;cases e;cases a;exact⟨i,j,rfl,rfl,k h _ H .refl R<|.int _⟩
noncomputable def cM:=kT λi j=>a7<|i-j
noncomputable def DR:=kT λi j=>if((-(2^64)<i/\i<2^64)\/(-(2^64)<j/\j<2^64))\/(i.natAbs<2^4000/\j.natAbs<2^4000)\/a0D i+a0D j<=134217728 then a7 (i*j)else b3
noncomputable def bO:D->D->Hm->jk
 |x,y,μ=>DR x y μ
noncomputable def dU:=kT λi j=>if 0<j/\j<2^4000 then a7 (i/j)else b3
noncomputable def bL:=kT λi j=>if 0<j then a7 (i%j)else b3
noncomputable def kU:=kT λi j=>if(0<=j/\j<=1000000/\i.natAbs<2^64)\/(0<=j/\j<=100/\i.natAbs<2^4000)then a7 (i^j.toNat)else b3
noncomputable def CMulB(i j:Int):Prop:=CMul i j\/(i.natAbs<2^4000/\j.natAbs<2^4000)\/a0D i+a0D j<=134217728
noncomputable def DS(i j:Int):Prop:=0<j/\j<2^4000
noncomputable def DT(i j:Int):Prop:=Lr i j\/(0<=j/\j<=100/\i.natAbs<2^4000)
theorem zC(h:i.natAbs<2^4000):a0D i<=4000:=by
 unfold a0D;split
 .exact a0I _
 .rename_i b;have a:i.natAbs≠0:=by intro z;exact b<|by simpa using z
  have:=(b1e a).mpr h;lia
theorem CMulB.ok(h:CMulB i j):a9E i j:=by
 rcases h with h|⟨b,c⟩|h
 .exact h.ok
 rotate_left
 .have a:a3z (a0D i+a0D j)=false:=by
   unfold a3z;rw[decide_eq_false];have:bitsLine=134217728:=by decide
   lia
  unfold a9E;rw[a];simp
 .have d:=zC b;have e:=zC c;have a:a3z (a0D i+a0D j)=false:=by
   unfold a3z;rw[decide_eq_false];have:(8000:Int)<=bitsLine:=by decide
   lia
  unfold a9E;rw[a];simp
theorem N7:OpR X (a3v .Mult) (rI CMulB λi j=>.int<|i*j):=uB λ_ _ _ _ _ _ _ hc q=>b0U q hc.ok
theorem N8:OpR X (a3v .FloorDiv) (rI DS λi j=>.int<|i/j):=uB λi j _ _ _ _ _ hc q=>by
 have c:(0:Int)<j:=hc.1;have d:j<2^4000:=hc.2;have a:j.natAbs≠0:=by lia
 have b:j.natAbs<2^4000:=by
  have:((2^4000:Nat):Int)=2^4000:=by decide
  lia
 have e:=(b1e a).mpr b;exact b0W (by lia) (by rw[Int.fdiv_eq_ediv_of_nonneg i<|by lia];exact q)<|.inl<|PyProof.noPylong_of_log2<|by lia
theorem N9:OpR X (a3v .Pow) (rI DT λi j=>.int<|i^j.toNat):=uB λi j _ _ _ _ _ hc q=>by
 rcases hc with hc|⟨a,c,d⟩
 .exact b0R hc.1 hc.2.1 hc.2.2 q
 .have b:=zC d;refine b0S a ?_ q;have:(a0D i:Int)*j<=4000*100:=a9Z (by lia) c a (by lia);lia
theorem uQ[Decidable c]{a:Int}(h:(if c then a7 a else b3)=a7 z):c/\z=a:=by
 split at h
 .cases h;exact⟨by assumption,rfl⟩
 .cases h
theorem Oa:dG K cM (iJ λi j=>.int<|i-j):=N6
theorem Ob:dG K DR (rI CMulB λi j=>.int<|i*j):=uP λi j z h=>by have:=uQ h;exact this
theorem Oc:dG K bO (rI CMulB λi j=>.int<|i*j):=Ob
theorem Od:dG K dU (rI DS λi j=>.int<|i/j):=uP λi j z h=>by have:=uQ h;exact this
theorem Oe:dG K bL (rI (λ_ j=>0<j) λi j=>.int<|i%j):=uP λ_ _ _ h=>uQ h
theorem Of:dG K kU (rI DT λi j=>.int<|i^j.toNat):=uP λi j z h=>by have:=uQ h;exact this
noncomputable def zD:D->Option D
 |.int i=>a7 (.int<|-i)|_=>b3
noncomputable def bP:D->D->Hm->jk
 |.int i,.int j,μ=>a7 (.int<|i+j,μ)|.str x,.str y,μ=>if x.length+y.length<=ZX then a7 (.str<|x++y,μ)else b3|.loc a,.loc b,μ=>match μ[a]?,μ[b]? with
  |some<|.lst xs,a7 (.lst ys)=>if xs.length+ys.length<=ZX then a7 (.loc μ.length,μ++[.lst<|xs++ys])else b3|_,_=>b3
 |_,_,_=>b3
noncomputable def zE(K:ZD):R2:=λx y H Q=>iJ (λi j=>.int<|i+j) x y H Q\/(∃i j,x=.str i/\y=.str j/\i.length+j.length<=ZX/\Q (.str<|i++j) H)\/Dt x y H Q
theorem Og:OpR X (a3v .Add) (zE X.K):=op_add.or<|op_add_str.or M0
noncomputable abbrev zF(K:ZD):R2:=zE K
theorem Oh:OpR X (a3v .Add) (zF X.K):=Og
theorem zG(h:zE K x y H Q):zF K x y H Q:=h
theorem Oi:dG K bP (zF K):=by
 intro o H E x y d z A B Q R c e a k;unfold bP at a;split at a
 .cases a;cases c;cases e;exact zG<|.inl ⟨_,_,rfl,rfl,k o _ H .refl R<|.int _⟩
 .split at a
  .rename_i b;cases a;cases c;cases e;exact zG<|.inr<|.inl ⟨_,_,rfl,rfl,b,k o _ H .refl R<|.str _⟩
  .cases a
 .split at a
  .rename_i m n u v;split at a
   .rename_i b;cases a;cases c;cases e;obtain⟨j,g,h⟩:=R.lst _ m u;obtain⟨l,s,i⟩:=R.lst _ n v;refine zG (.inr<|.inr ⟨_,_,j,l,rfl,rfl,by first|exact g|exact .inl<|.inl g,s,by rw[h.length,i.length];exact b,λp w=>?_⟩);obtain⟨r,R2,q⟩:=R.alloc (c:=.lst (m++n)) (o:=.lst (j++l)) w<|h.append i;exact k _ _ _ r R2 jC
   .cases a
  .cases a
 .cases a
noncomputable def iA(p:Int->Int->Bool):D->D->Hm->jk
 |.int i,.int j,μ=>a7 (.bl<|p i j,μ)|_,_,_=>b3
theorem jE:dG K (iA p) (iJ λi j=>.bl<|p i j):=by
 intro g H m x y d e h l Q R b c a k;unfold iA at a;split at a
 .cases a;cases b;cases c;exact⟨_,_,rfl,rfl,k g _ H .refl R<|.bl _⟩
 .cases a
noncomputable def jF:=iA λi j=>decide<|i<j
noncomputable def pL:=iA λi j=>decide<|i<=j
noncomputable def lW:=iA λi j=>decide<|j<i
noncomputable def zH:=iA λi j=>decide<|j<=i
noncomputable def zI(K:ZD)(ne:Bool):R2:=λx y H Q=>∃π μ a c b,Rp K π H μ/\IsD K π μ.length H x a/\IsD K π μ.length H y c/\c5 8 μ a c=a7 b/\Q (.bl<|if ne then !b else b) H
theorem DU(c:X.A.units+8<a1W):OpR X (a0Z .Eq) (zI X.K b4):=by intro a s o H x y v u Q I i j h;obtain⟨n,m,k,l,b,R,d,g,e,q⟩:=h;exact(DP I R 8 c i j d g e).1 _ _ _ _ ⟨.bl b,H,I,rfl,q⟩
theorem DV(c:X.A.units+8<a1W):OpR X (a0Z .NotEq) (zI X.K b5):=by intro a s o H x y v u Q I i j h;obtain⟨n,m,k,l,b,R,d,g,e,q⟩:=h;exact(DP I R 8 c i j d g e).2 _ _ _ _ ⟨.bl<|!b,H,I,rfl,q⟩
noncomputable def aR(ne:Bool):D->D->Hm->jk:=λx y μ=>(c5 8 μ x y).map λb=>(.bl<|if ne then !b else b,μ)
theorem uR:dG K (aR ne) (zI K ne):=by intro a H j x y d l m n Q R h i g k;obtain⟨b,c,e⟩:=ZH.mp g;cases e;exact⟨a,j,x,y,b,R,h,i,c,k a _ H .refl R<|.bl _⟩
noncomputable def zJ:D->D->Hm->jk
 |.str i,.str j,μ=>a7 (.bl<|!(a1u j i 0 j.length 1).isEmpty,μ)|_,_,_=>b3
theorem DW:dG K zJ (λx y H Q=>∃i j,x=.str i/\y=.str j/\Q (.bl<|!(a1u j i 0 j.length 1).isEmpty) H):=by
 intro g H m x y d e h l Q R b c a k;unfold zJ at a;split at a
 .cases a;cases b;cases c;exact⟨_,_,rfl,rfl,k g _ H .refl R<|.bl _⟩
 .cases a
theorem uS(r:Room k A):A.units+8<a1W:=by have:=r.un;lia
theorem Oj(r:PE X a (tM X.K ma)):PE X (.UnaryOp .USub a pos) (tM X.K λh μ=>(ma h μ).bind λp=>(zD p.1).map λd=>(d,p.2)):=dE (Lq Lx r)<|by
 rintro A H Q ⟨w,h,μ,d,u,R,E,e,k⟩;obtain⟨⟨x,v⟩,o,e⟩:=ZC.mp e;obtain⟨y,j,q⟩:=ZH.mp e;cases q;cases x with
 |int i=>cases j;refine⟨w,h,μ,_,_,R,E,o,λg z l n m s=>?_⟩;cases s;exact⟨_,rfl,k g _ l n m<|.int _⟩
 |_=>cases j
theorem Ol(d:Gl X x)(e:X.mg x=b3)(h:a1F x=a7 (.type n))(g:x ≠ "__name__":=by decide)(hd:(x==("__debug__":Str))=false:=by decide):PE X (.Name x pos) (tM X.K<|mC<|.ty n):=
 pG (Ko (v:=.ty n) d e h rfl g hd) λ_ _ _=>.ty n
noncomputable def zK(μ:Hm):D->Option String
 |.non=>a7 "NoneType"|.bl _=>a7 "bool"|.int _=>a7 "int"|.str _=>a7 "str"|.tup _=>a7 "tuple"|.rol _=>a7 "list"|.loc a=>match μ[a]? with
  |some (.lst _)=>a7 "list"|some (.dK _)=>a7 "dict"|some (.dT _)=>a7 "dict"|_=>b3
 |.ty _=>b3
noncomputable def uT(t c:String):Option Bool:=match c with
 | "int"=>a7 (t=="int" || t=="bool")| "bool"=>a7 (t=="bool")| "str"=>a7 (t=="str")| "list"=>a7 (t=="list")| "tuple"=>a7 (t=="tuple")| "dict"=>a7 (t=="dict")|_=>b3
noncomputable def nV:MF:=λds μ=>match ds with
 |[x,.ty c]=>(zK μ x).bind λt=>(uT t c).map λb=>(.bl b,μ)|_=>b3
theorem kW K(d:t = "NoneType"\/t = "bool"\/t = "int"\/t = "str"\/t = "tuple"\/t = "list"\/t = "dict")(h:uT t c=a7 b):a8L K (.type t) (.type c)=a7 b:=by
 unfold uT at h
 split at h<;>first
  | cases h;done
  | (have a:=Z0 h;subst a
     rcases d with rfl|rfl|rfl|rfl|rfl|rfl|rfl<;>first|rfl|decide +kernel|(unfold a8L;simp;rfl))
end L3
namespace L3
open PySem L2
noncomputable abbrev MG:=D->aI->Hm->Option aI
inductive tMG (K:ZD)(g:MG)(v:V)(σ:St)(H:Hp)(Q:St->Hp->Prop):Prop
 |mk (π:Nat->Addr)(ρ:aI)(μ:Hm)(d:D)(ρ':aI)(R:Rp K π H μ)(E:En K π μ.length H σ ρ)(i:IsD K π μ.length H v d)(hm:g d ρ μ=a7 ρ')(k:∀σ',En K π μ.length H σ' ρ'->Q σ' H):tMG K g v σ H Q
noncomputable def cP(i:Nat):MG:=λd a _=>a7<|a.set i<|a7 d
theorem DX(b:X.N.Nodup)(hi:X.N[i]?=a7 x)(g:Loc X.env.scope x)(c:X.fn x=b5\/X.env.scope.names.lookup x=a7 .local:=by first|exact .inl rfl|exact .inr rfl|assumption):PG X (.Name x pos) (tMG X.K<|cP i):=by intro a s l H v u Q I r h;obtain⟨n,o,m,d,j,R,E,hd,e,k⟩:=h;cases e;exact CM b hi g c a s l H v u Q I r<|k _<|E.set hd i
noncomputable def Om(K:ZD)(c:TE):TI:=λσ H R=>c σ H λx b=>∃a,x=.ref a/\(((∃xs,SqL K b a xs)/\R (yB K a) b)\/((∃xs,SqT K b a xs)/\R (yC K a) b))
theorem Oo(r:PE X l n):PI X tg l (Om X.K n):=by
 intro i s B H R I h;refine aW (r i s B H _ I h) λv c ⟨x,m,d,y,w⟩=>?_;obtain⟨a,e,q⟩:=w;subst e;cases y;rcases q with⟨⟨A,k⟩,q⟩|⟨⟨A,k⟩,q⟩
 .obtain⟨g,z,p,u⟩:=d.list k;refine a4T p.isList ?_;refine⟨c.heap.objs.size,[c.heap.objs.size],_,_,m,rfl,d.kept (t':=c.toks) λb o e=>ZK _ e,Ld a _,⟨_,ZW _ rfl,rfl,rfl⟩,λb j=>?_,q⟩;have e:b=c.heap.objs.size:=by simpa using j
  subst e;exact d.fpOk (ZN _)<|d.hok.fresh<|ZN _
 .obtain⟨g,z,p,u⟩:=d.tuple k;refine a9O (show c.heap.IsTuple a g.toArray from p) ?_;refine⟨c.heap.objs.size,[c.heap.objs.size],_,_,m,rfl,d.kept (t':=c.toks) λb o e=>ZK _ e,Le a _,⟨_,ZW _ rfl,rfl,rfl⟩,λb j=>?_,q⟩;have e:b=c.heap.objs.size:=by simpa using j
  subst e;exact d.fpOk (ZN _)<|d.hok.fresh<|ZN _
structure Wk(K:ZD)(J:It)(src:Hm->Nat->Option (Option D))(π:Nat->Addr)(n:Nat)(H:Hp):Prop where
 stop:∀π' μ H' i,Ext π n H π' μ.length H'->Rp K π' H' μ->src μ i=a7 b3->J.stop i H'
 go:∀π' μ H' i d,Ext π n H π' μ.length H'->Rp K π' H' μ->src μ i=a7 (a7 d)->J.go i H'/\∀x H2,J.yld i H' x H2->Ext π' μ.length H' π' μ.length H2/\Rp K π' H2 μ/\IsD K π' μ.length H2 x d
noncomputable def kX(x:D):Hm->Nat->Option (Option D):=λμ i=>(bK μ x).map λxs=>xs[i]?
theorem Oq(R:Rp K π H μ)(h:IsD K π μ.length H v x)(A:bK μ x=a7 xs):
  ∃a,v=.ref a/\(((∃b,SqL K H a b)/\Wk K (yB K a) (kX x) π μ.length H)\/((∃b,SqT K H a b)/\Wk K (yC K a) (kX x) π μ.length H)):=by
 cases h with
 |@tup p b ds q t=>
  refine⟨p,rfl,.inr ⟨⟨b,q⟩,⟨λk j o i e l z=>?_,λk j o i d e l z=>?_⟩⟩⟩
  .simp only[kX,bK,Z4]at z;have g:ds[i]?=none:=Z0 z;exact⟨b,e.sqT q,by rw[t.length];exact a0C.mp g⟩
  .simp only[kX,bK,Z4]at z;have g:ds[i]?=a7 d:=Z0 z;obtain⟨w,c,m⟩:=t.get g;refine⟨⟨b,w,e.sqT q,c⟩,λy G ⟨r,s⟩=>?_⟩;subst r;have:=s b<|e.sqT q;rw[c]at this;cases this;exact⟨.refl,l,m.mono e⟩
 |@rol p b ds q t=>
  refine⟨p,rfl,.inl ⟨⟨b,q.sq⟩,⟨λk j o i e l z=>?_,λk j o i d e l z=>?_⟩⟩⟩
  .simp only[kX,bK,Z4]at z;have g:ds[i]?=none:=Z0 z;exact⟨b,(e.roL q).sq,by rw[t.length];exact a0C.mp g⟩
  .simp only[kX,bK,Z4]at z;have g:ds[i]?=a7 d:=Z0 z;obtain⟨w,c,m⟩:=t.get g;refine⟨⟨b,w,(e.roL q).sq,c⟩,λy G ⟨r,s⟩=>?_⟩;subst r;have:=s b (e.roL q).sq;rw[c]at this;cases this;exact⟨.refl,l,m.mono e⟩
 |@loc a J=>
  have hc:∃b,H (π a)=a7 (.lst b):=by
   simp only[bK]at A;split at A
   .rename_i n u;obtain⟨b,c,_⟩:=R.lst a n u;exact⟨b,c⟩
   .cases A
  obtain⟨E,B⟩:=hc;refine⟨π a,rfl,.inl ⟨⟨E,.of B⟩,⟨λk j o i e l z=>?_,λk j o i d e l z=>?_⟩⟩⟩
  .simp only[kX,bK]at z;split at z
   .rename_i n u;obtain⟨b,c,m⟩:=l.lst a n u;rw[e.pi a J]at c;have g:n[i]?=none:=Z0 z;exact⟨b,.of c,by rw[m.length];exact a0C.mp g⟩
   .cases z
  .simp only[kX,bK]at z;split at z
   .rename_i n u;obtain⟨b,c,m⟩:=l.lst a n u;rw[e.pi a J]at c;have g:n[i]?=a7 d:=Z0 z;obtain⟨w,I,L⟩:=m.get g;refine⟨⟨b,w,.of c,I⟩,λy G ⟨r,s⟩=>?_⟩;subst r;have:=s b<|.of c;rw[I]at this;cases this;exact⟨.refl,l,L⟩
   .cases z
 |_=>cases A
noncomputable def eF(a:Hm->Nat->Option (Option D))(g:MG)(b:MS):Nat->Nat->MS
 |0,_,_,_=>b3|n+1,i,ρ,μ=>(a μ i).bind λo=>match o with
  |none=>a7 (.nx,ρ,μ)|some d=>(g d ρ μ).bind λc=>(b c μ).bind λp=>match p.1 with
   |.nx=>eF a g b n (i+1) p.2.1 p.2.2|.ct=>eF a g b n (i+1) p.2.1 p.2.2|.bk=>a7 (.nx,p.2.1,p.2.2)|.rt d=>a7 (.rt d,p.2.1,p.2.2)
theorem Ot(W:Wk K J z π M L)(hE:pF K E π M L w l μ')(e1:Ext π M L A μ1.length H1)(R1:Rp K A H1 μ1)(E1:En K A μ1.length H1 σ1 Q)(h:eF z g b n 0 Q μ1=a7 (w,l,μ')):
  ∃Wd:Nat->Nat->St->Hp->Prop,(∃m,Wd 0 m σ1 H1)/\∀i m T H,Wd i m T H->
   (J.stop i H/\E.nx T H)\/(J.go i H/\∃N,(∀u r,N u r->∃m',m'<m/\Wd (i+1) m' u r)/\∀x r,J.yld i H x r->tMG K g x T r λσ2 Y=>tMS K b {E with nx:=N,ct:=N,bk:=E.nx} σ2 Y):=by
 have lift:∀{a:Nat->Addr}{n2:Nat}{Y:Hp}(e:Ext π M L a n2 Y){w:Fl}{l:aI}{μ':Hm},pF K E π M L w l μ'->pF K E a n2 Y w l μ':=λ{a n2 Y} e {w l μ'} k=>by
  cases w with
  |nx=>exact λs q Z e3 R3 I=>k s q Z (e.trans e3) R3 I|bk=>exact λs q Z e3 R3 I=>k s q Z (e.trans e3) R3 I|ct=>exact λs q Z e3 R3 I=>k s q Z (e.trans e3) R3 I|rt d=>exact KC.after k e
 refine⟨λi m T H=>∃a j B,Ext π M L a j.length H/\Rp K a H j/\En K a j.length H T B/\eF z g b m i B j=a7 (w,l,μ'),⟨n,A,μ1,Q,e1,R1,E1,h⟩,?_⟩;rintro i m T H ⟨a,j,B,v,R2,E2,h2⟩;cases m with
 |zero=>cases h2|succ m=>
  obtain⟨o,h3,h4⟩:=ZC.mp h2;cases o with
  |none=>cases h4;exact .inl ⟨W.stop a _ H i v R2 h3,hE a T H v R2 E2⟩|some d=>
   obtain⟨g1,g2⟩:=W.go a j H i d v R2 h3;obtain⟨ρ3,h5,h6⟩:=ZC.mp h4;obtain⟨⟨f4,R,O⟩,h7,h8⟩:=ZC.mp h6;refine .inr ⟨g1,λu r=>∃c G p,Ext π M L c p.length r/\Rp K c r p/\En K c p.length r u G/\eF z g b m (i+1) G p=a7 (w,l,μ'),
    λu r ⟨c,G,p,a1,a2,a3,a4⟩=>⟨m,a1C _,c,p,G,a1,a2,a3,a4⟩,λx r y=>?_⟩
   obtain⟨ex,Rx,hx⟩:=g2 x r y;have v:=v.trans ex;refine⟨a,B,j,d,ρ3,Rx,E2.mono ex,hx,h5,λq I=>⟨a,ρ3,j,f4,R,O,Rx,I,h7,?_⟩⟩;cases f4 with
   |nx=>exact λc U H5 e5 R5 X=>⟨c,R,O,v.trans e5,R5,X,h8⟩|ct=>exact λc U H5 e5 R5 X=>⟨c,R,O,v.trans e5,R5,X,h8⟩|bk=>cases h8;exact λc U H5 e5 R5 X=>hE c U H5 (v.trans e5) R5 X|rt d'=>cases h8;exact KC.after hE v
noncomputable def iB(lo:Int)(n:Nat):Hm->Nat->Option (Option D):=λ_ i=>a7<|if i<n then a7 (.int<|lo+i)else b3
theorem DY:Wk K (lT lo k) (iB lo k) π n H:=by
 refine⟨λb m c i e R z=>?_,λb m c i d e R z=>?_⟩
 .have a:=Z0 z;split at a
  .cases a
  .exact a2F.mp<|by assumption
 .have a:=Z0 z;split at a
  .cases a;rename_i h;exact⟨h,λx o ⟨j,l⟩=>by subst j;rw[l];exact⟨.refl,R,.int _⟩⟩
  .cases a
noncomputable def pM(y:Str):Str:="#"++y
noncomputable def bR(xs N:List Str):List Str:=N.map λy=>if xs.contains y then pM y else y
theorem nW xs N:(bR xs N).length=N.length:=by unfold bR;simp
theorem Ou{i:Nat}(h:(bR xs N)[i]?=a7 y):∃a,N[i]?=a7 a/\((xs.contains a=b5/\y=pM a)\/(xs.contains a=b4/\y=a)):=by
 unfold bR at h;rw[ZU]at h;obtain⟨a,c,b⟩:=ZH.mp h;refine⟨a,c,?_⟩;cases hc:xs.contains a with
 |true=>rw[hc]at b;exact .inl ⟨rfl,by simpa using b.symm⟩|false=>rw[hc]at b;exact .inr ⟨rfl,by simpa using b.symm⟩
noncomputable def cW(X:Cx)(scope:a2y)(a:List (Str×Addr))(C:Addr)(N:List Str)(s₀:ZJ)(H₀:Hp)(b:List Addr):Cx:=
 {X with N:=N,s₀:=s₀,H₀:=H₀,env:=a3S scope a C X.env,outer:=X.stack,stack:=X.stack,ex:=b,fn:=λ_=>b4,pn:=[],xe:=λ_ _=>False}
theorem DZ{env:a5t}:∀(names:List (Str×a2H))x,(names.map λ(n,k)=>if(k==a2i&&env.scope.kind==.function&&env.kindOf n==a7 .cell)then(n,a2x)else(n,k)).lookup x
  = (names.lookup x).map λk=>if(k==a2i&&env.scope.kind==.function&&env.kindOf x==a7 .cell)then a2x else k
 |[],_=>rfl|(n,k)::r,x=>by
  have c:=DZ (env:=env) r x;rw[ZR];by_cases b:x=n
  .subst b;have key:∀(k':a2H)(l:List (Str×a2H)),a2b x ((x,k')::l)=a7 k':=λk' l=>by simp[a3P]
   rw[key];show a2b x ((if(k==a2i&&env.scope.kind==.function&&env.kindOf x==a7 .cell)=b5 then(x,a2x)else(x,k))::_)=a7 (if(k==a2i&&env.scope.kind==.function&&env.kindOf x==a7 .cell)=b5 then a2x else k);split
   .rw[key]
   .rw[key]
  .have a:(x==n)=false:=by simpa using b
   have key:∀(k':a2H)(l:List (Str×a2H)),a2b x ((n,k')::l)=a2b x l:=λk' l=>by simp only[a3P,a]
   rw[key];show a2b x ((if(k==a2i&&env.scope.kind==.function&&env.kindOf n==a7 .cell)=b5 then(n,a2x)else(n,k))::_)=_;split
   .rw[key];exact c
   .rw[key];exact c
structure CompOk(X:Cx)(scope:a2y)(cl:List (Str×Addr))(xs:List Str):Prop where
 clos:a9T scope X.env=pure cl
 nocell:∀y∈scope.names,y.2≠.cell
 kind:scope.kind=.function
 names:∀y∈scope.names,y.2=.local->scope.names.lookup y.1=a7 .local
 here:∀x∈xs,scope.names.lookup x=a7 .local
 sub:∀y c,cl.lookup y=a7 c->X.env.cells.lookup y=a7 c
 free:∀y,scope.names.lookup y=a7 .free->(X.env.kindOf y=a7 .cell\/X.env.kindOf y=a7 .free)/\∃c,cl.lookup y=a7 c
 own:∀y,scope.names.lookup y=a7 .local->y∉bR xs X.N
 hidn:∀y∈X.N,xs.contains y=b5->scope.names.lookup (pM y)=b3
theorem CompOk.kindOf(O:CompOk X scope cl xs)C y:(a3S scope cl C X.env).kindOf y=(scope.names.lookup y).map λk=>if(k==a2i&&X.env.scope.kind==.function&&X.env.kindOf y==a7 .cell)then a2x else k:=
 DZ scope.names y
theorem CompOk.outer(O:CompOk X scope cl xs){C:Addr}(h:(a3S scope cl C X.env).kindOf y=a7 .cell\/(a3S scope cl C X.env).kindOf y=a7 .free):scope.names.lookup y=a7 .free:=by
 rw[O.kindOf]at h;cases q:scope.names.lookup y with
 |none=>rw[q]at h;rcases h with h|h<;>cases h
 |some k=>
  rw[q]at h;cases k with
  |free=>rfl|cell=>exact absurd rfl (O.nocell _<|a1j q)| «local»=>rcases h with h|h<;>simp at h
  |globalExplicit=>rcases h with h|h<;>simp at h
  |globalImplicit=>rcases h with h|h<;>simp at h
theorem CompOk.inv{σ:St}(O:CompOk X scope cl xs)(I:Inv X b1C σ H s)(B:∀b∈R,iZ X b1C H b)(hob:∀b∈R,∃o,s.heap.get? b=a7 o)(hns:d.Ns s.heap.objs.size m)(L:∀b o,s.heap.get? b=a7 o->d.get? b=a7 o):
  Inv (cW X scope cl s.heap.objs.size (bR xs X.N++xs) s H R) [] (σ++a0z xs.length b3) H {s with heap:=d,toks:=tk}:=by
 refine⟨⟨I.ok.mod,O.kind,I.ok.glob,I.ok.blt,ZN _,λy z c T A=>?_,λy hy=>?_,(λy c h=>by cases h),I.ok.hd,I.ok.frames,.inl rfl,λb G=>?_,λb o e=>I.bs b o e,a0A I.ok.bsz I.sz,λb o e G=>?_,λb G Y=>?_,I.stack,I.stkFree⟩,
  rfl,I.bare,Un.kept L,⟨m,hns,λi y v T A w=>?_⟩,λy c h=>?_,I.hok.fresh<|ZN _,λy c h=>I.freeC y c<|O.sub y c h,λp hp=>absurd (show p∈([]:jw)from hp)<|by simp,I.hok.kept L,?_⟩
 .exact I.ok.inj y z c (O.sub y c T)<|O.sub z c A
 .exact(O.free y<|O.outer hy).2
 .obtain⟨f0,N,f2,x,Q,f5⟩:=B b G;obtain⟨o,K⟩:=hob b G;exact⟨Z6<|ZV K,λy c h=>Q y c<|O.sub y c h⟩
 .obtain⟨f0,N,f2,x,Q,f5⟩:=B b G;rcases x with x|x
  .exact I.ok.noex b o e x
  .exact absurd (a0e (ZV (I.ok.bs b o e).1) x)<|a2p _
 .obtain⟨f0,N,f2,x,Q,f5⟩:=B b G;rcases a0g.mp (I.stkSub b Y)with z|z
  .exact N z
  .exact f2 z
 .have hi:i<σ.length:=by
   by_cases hi:i<σ.length
   .exact hi
   .rw[a0N<|a2F.mp hi,a2M]at A;split at A<;>cases A
  rw[a0f hi]at A;have J:(bR xs X.N)[i]?=a7 y:=by have n:(bR xs X.N++xs)[i]?=a7 y:=T;rw[a0f<|by rw[nW,<- I.len];exact hi]at n;exact n
  have j:scope.names.lookup y≠a7 .local:=λz=>O.own y z<|Z1 J;have E:=O.kindOf s.heap.objs.size y;have U:X.N[i]?=a7 y:=by
   obtain⟨y0,q1,M⟩:=Ou J;rcases M with⟨M,q3⟩|⟨M,q3⟩
   .exfalso;have hz:=O.hidn y0 (Z1 q1) M;rw[<- q3]at hz;rw[hz]at E;have a:(a3S scope cl s.heap.objs.size X.env).kindOf y=a7 .local\/(a3S scope cl s.heap.objs.size X.env).kindOf y=a7 .cell\/(a3S scope cl s.heap.objs.size X.env).kindOf y=a7 .free:=w;rw[E]at a;rcases a with a|a|a<;>cases a
   .rw[q3];exact q1
  have a:(a3S scope cl s.heap.objs.size X.env).kindOf y=a7 .cell\/(a3S scope cl s.heap.objs.size X.env).kindOf y=a7 .free:=by
   rcases w with w|w|w
   .exfalso;have a:(a3S scope cl s.heap.objs.size X.env).kindOf y=a7 .local:=w;rw[E]at a;cases q:scope.names.lookup y with
    |none=>rw[q]at a;cases a|some k=>
     rw[q]at a;cases k with
     | «local»=>exact j q|cell=>simp at a|free=>simp only[Z4]at a;split at a<;>cases a|globalExplicit=>simp at a|globalImplicit=>simp at a
   .exact .inl w
   .exact .inr w
  obtain⟨g,c,hc⟩:=O.free y<|O.outer a;obtain⟨m0,hn0,Z⟩:=I.loc;obtain⟨u,r,l⟩:=Z i y v U A (by rcases g with g|g;exact .inr<|.inl g;exact .inr<|.inr g);refine⟨u,r,.inr ⟨a,c,hc,?_⟩⟩;rcases l with⟨lk,_⟩|⟨_,c',e',z⟩
  .exfalso;rcases g with g|g
   .rw[g]at lk;cases lk
   .rw[g]at lk;cases lk
  .rw[O.sub y c hc]at e';cases e';obtain⟨o,K,hd⟩:=z;exact⟨o,L c o K,hd⟩
 .obtain⟨v,q⟩:=I.cell y c<|O.sub y c h;exact⟨v,by obtain⟨o,K,hd⟩:=q;exact⟨o,L c o K,hd⟩⟩
 .show(σ++a0z xs.length b3).length=(bR xs X.N++xs).length;rw[ZO,ZO,I.len,a1w,nW]
theorem CompOk.back{σ E:St}(I:Inv X b1C σ H s)(p:∀b∈j,iZ X b1C H b)(J:Inv (cW X scope cl s.heap.objs.size N s H j) pl E i s1)(m:∀b o,b≠s.heap.objs.size->s1.heap.get? b=a7 o->h'.get? b=a7 o):Inv X b1C σ i {s1 with heap:=h'}:=by
 have u:Un (iY X.stack) j H i s.heap h':=by
  have h:Un (iY X.stack) j H i s.heap s1.heap:=J.base;have ne:∀b o,s.heap.get? b=a7 o->b≠s.heap.objs.size:=λb o e=>Z6<|ZV e;refine⟨λb o e n k l=>m b o (ne b o e)<|h.keep b o e n k l,λb o e n k l=>?_,h.free,λb o e l=>?_,h.tups,h.frzs,h.tbls⟩
  .obtain⟨Q,q⟩:=h.slot b o e n k l;exact⟨Q,m b _ (ne b o e) q⟩
  .obtain⟨O,q⟩:=h.there b o e l;exact⟨O,m b _ (ne b o e) q⟩
 have a:i s.heap.objs.size=none:=J.free;have x:HOk X.prog X.w i h':=λb v e=>by
  refine(J.hok b v e).stay (λc w hc q=>m c w ?_ q) (λ_ q=>q) λ_ _ q=>q;rcases hc with z|z
  .rw[z];intro B;rw[B,a]at e;cases e
  .intro B;rw[B,a]at z;cases z
 have y:s1.os=s.os:=J.os;obtain⟨T,g,d,t,A⟩:=s1;obtain rfl:A=s.os:=y;have r:=Inv.call (X:=X) (b1C:=b1C) (σ:=σ) (H:=H) (s:=s) (h':=h') (g':=g) (d':=d) (t':=t) (ch:=j) I u x J.bare λb k=>let⟨R,G,f2,K,L,M⟩:=p b k;⟨K,G,L,M⟩;exact r
theorem Ov(I:Nat->ZJ->Prop)(turn:∀n s,I n s->Z3 (a0d prog w) A (a4b B) (λr d=>match r with
   |none=>R (.ok .next) d
   |some v=>Z3 (a0d prog w) A (a5A a B v) (λ_ e=>Z3 (a0d prog w) A (a6u a env v) (λ_ k=>
     Z3 (a0d prog w) A (forIn ifs b5 λc r=>if r=b5 then do let ok <- a8K c env (eval c env);pure (a3s ok)else pure (a3s r)) (λok g=>
      if ok=b5 then Z3 (a0d prog w) A (eval elt env) (λx l=>
       Z3 (a0d prog w) A (call (.builtin "list.append") [p,x]) (λ_ o=>∃m,m<n/\I m o) (λ_ _=>False) l) (λ_ _=>False) g
      else ∃m,m<n/\I m g) (λ_ _=>False) k) (λ_ _=>False) e) (λ_ _=>False) d) (λ_ _=>False) s)n(h:I n s):
  a3G (a0d prog w) A (.compLoop (.ListComp elt [⟨a,iter,ifs,0⟩] scope pos) 0 B p env) R s:=by
 refine codeAny_loop rfl I (λn s E=>?_) n h;show Z3 _ A ((compTurn (.ListComp elt [⟨a,iter,ifs,0⟩] scope pos) 0 B p env).onRaise λx=>do noteFrame x env;theTreesLotGoes x) _ _ s;refine wpAny_noted ?_;rw[compTurn_list];refine ZE<|a4X<|ZE<|a1h (turn n s E) (λr d i=>?_) λ_ _ b=>b.elim;cases r with
 |none=>exact ZM i|some v=>
  refine ZE<|a1h i (λ_ e q=>?_) λ_ _ b=>b.elim;refine ZE<|a1h q (λ_ k u=>ZE<|a1h u (λok g j=>?_) λ_ _ b=>b.elim) λ_ _ b=>b.elim;cases ok with
  |false=>exact ZM ⟨rfl,j⟩|true=>exact ZE<|ZE<|a1h j (λx l y=>ZE<|a1h y (λ_ o z=>ZM<|ZM ⟨rfl,z⟩) λ_ _ b=>b.elim) λ_ _ b=>b.elim
noncomputable def pN(μ:Hm)(a:Nat)(y:D):Option Hm:=match μ[a]? with
 |some (.lst xs)=>if xs.length<ZX then a7 (μ.set a<|.lst<|xs++[y])else b3|_=>b3
noncomputable abbrev BD:=D->Hm->Option aI
noncomputable def pO:BD:=λd _=>a7 [a7 d]
noncomputable def zL(k:Nat):BD:=λd μ=>(bK μ d).bind λxs=>if xs.length=k then a7 (xs.map a7)else b3
noncomputable def iL(a:Hm->Nat->Option (Option D))(h:BD)(c:MT)(e:ME)(b:aI)(g:Nat):Nat->Nat->Hm->Option Hm
 |0,_,_=>b3|n+1,i,μ=>(a μ i).bind λo=>match o with
  |none=>a7 μ|some d=>(h d μ).bind λx=>(c (b++x) μ).bind λp=>match p.1 with
   |true=>(e (b++x) p.2).bind λq=>(pN q.2 g q.1).bind λj=>iL a h c e b g n (i+1) j|false=>iL a h c e b g n (i+1) p.2
noncomputable def f6:MT:=λ_ μ=>a7 (b5,μ)
noncomputable def nX(X:Cx)(ifs:List Expr)(m:MT):Prop:=
 ∀(b1C:jw)(s:ZJ)(σ:St)(H:Hp)(Q:Bool->Hp->Prop),Inv X b1C σ H s->tMT X.K m σ H Q->
  Z3 (a0d X.prog X.w) X.A (forIn ifs b5 λc r=>if r=b5 then do let ok <- a8K c X.env (eval c X.env);pure (a3s ok)else pure (a3s r)) (TP X b1C σ Q) X.xe s
theorem Ox:nX X [] f6:=by intro a s j H Q I h;obtain⟨e,i,g,b,d,R,E,c,k⟩:=h;cases c;exact wpAny_tests_nil ⟨H,I,k e H .refl R⟩
theorem Oy(h:PT X c (tMT X.K m)):nX X [c] m:=λb1C s σ H Q I q=>wpAny_tests_one<|h b1C s σ H Q I q
theorem D0(h:t≠e):∀n i s(Q:gq->ZJ->Prop),s.heap.IsListIter e t i->s.heap.IsList t items->i+n<=items.size->
  (∀k,k.IsListIter e t (i+n)->a2n e s.heap k->Q ((items.toList.drop i).take n) {s with heap:=k})->Z3 (a0d prog w) A (draw (.ref e) n) Q E s
 |0,i,s,Q,hit,_,_,hQ=>by show Z3 _ _ (pure []) Q E s;exact ZM<|by simpa using hQ s.heap hit (a7d ..)
 |n+1,i,s,Q,hit,ht,hle,hQ=>by
  have g:i<items.size:=by lia
  show Z3 _ _ (a4b (.ref e) >>= _) Q E s;refine ZE (a8F hit ht (x:=items[i]) (by simp[g]) λl b a=>?_);refine ZE (a1i<|D0 h n (i+1) _ _ b (ht.extBut a.extBut h) (by lia) λj c d=>ZM ?_);have hd:items.toList.drop i=items[i]::items.toList.drop (i+1):=by simp[List.drop_eq_getElem_cons,g]
  have:=hQ j (by rw[show i+(n+1)=i+1+n by lia];exact c)<|a.trans d;rw[hd,List.take_succ_cons]at this;exact this
theorem Oz{Q:gq->ZJ->Prop}(q:A.handled=b3)(j:s.heap.IsList t items)(p:∀m,a4E s.heap.objs.size s.heap m->Q items.toList {s with heap:=m}):Z3 (a0d prog w) A (a9u (.ref t) items.size b3) Q E s:=by
 have i:t≠s.heap.objs.size:=by obtain⟨o,r,_⟩:=j;exact Z6<|ZV r
 unfold a9u;refine ZE ?_
 .unfold notIterableAtAll;refine ZE<|a3E j.typeIs slot_list_iter.lookup ?_;refine ZM ?_;simp only[Z5,if_false];refine ZE<|a1i<|a4T j ?_;refine ZE (a1i<|D0 i items.size 0 _ _ ⟨_,ZW _ rfl,rfl,rfl⟩ (j.push _) (by lia) λk c a=>?_);have h:List.take items.size (List.drop 0 items.toList)=items.toList:=by rw[List.drop_zero];exact a3H<|by simp
  rw[h];rw[if_neg<|by simp];have g:k.IsList t items:=(j.push _).extBut a.extBut i;refine ZE (a1i<|a9b q c g (by simp) λl d=>?_);simp only[Option.isSome_none,Z5,if_false];refine ZM<|p l λb o n e=>d b o n<|a.extBut b o n<|ZK _ e
theorem OA{x1}(d:A.handled=b3)(g:s.heap.IsList t items)(e:(a2o a env).length=items.size)(b:(a2o a env).findIdx? (·.1)=b3)(h:∀c,a4E s.heap.objs.size s.heap c->Z3 (a0d prog w) A (a6n ((a2o a env).map (·.2)) items.toList) Q E {s with heap:=c}):
  Z3 (a0d prog w) A (a6u (.Tuple a x1 pos) env<|.ref t) Q E s:=by
 rw[b1d];refine ZE<|a4X ?_;unfold unpack;rw[e,b];exact ZE<|a1i<|Oz d g h
noncomputable def kY:aI->List Nat->List D->aI
 |ρ,i::is,x::xs=>kY (ρ.set i<|a7 x) is xs|ρ,_,_=>ρ
noncomputable def dH(is:List Nat):MG:=λd a μ=>(bK μ d).bind λxs=>if xs.length=is.length then a7 (kY a is xs)else b3
noncomputable def uU:List Nat->o6
 |[]=>CN|i::r=>CO (xZ i)<|uU r
theorem zM:∀is{vs}{xs}{σ}{b}{Q},IsDs K π n H vs xs->En K π n H σ b->xs.length=is.length->(∀a,En K π n H a (kY b is xs)->Q a H)->uU is vs σ H Q
 |[],vs,xs,σ,b,Q,h,E,hl,k=>by
  cases h with
  |nil=>exact⟨rfl,k σ E⟩|cons h t=>cases hl
 |i::is,vs,xs,σ,b,Q,h,E,hl,k=>by
  cases h with
  |nil=>cases hl|cons h t=>exact⟨_,_,rfl,zM is t (E.set h i) (by simpa using hl) k⟩
theorem OB(hc:X.calm=b5)(h:rC X w (uU is))(L:(a2o w X.env).length=is.length:=by rfl)(n:(a2o w X.env).findIdx? (·.1)=none:=by rfl):
  PG X (.Tuple w k pos) (tMG X.K<|dH is):=by
 intro i s y H v u Q I r hw;obtain⟨O,ρ,N,d,ρ',R,E,hd,Y,M⟩:=hw;obtain⟨K,j,B⟩:=ZC.mp Y;split at B
 .rename_i x;cases B;have m:(∃a g,v=.ref a/\SqT X.K H a g/\IsDs X.K O N.length H g K)\/(∃a g,v=.ref a/\SqL X.K H a g/\IsDs X.K O N.length H g K):=by
   cases hd with
   |tup q t=>cases j;exact .inl ⟨_,_,rfl,q,t⟩|rol q t=>cases j;exact .inr ⟨_,_,rfl,q.sq,t⟩|@loc a ha=>
    simp only[bK]at j;split at j
    .rename_i ys Z;cases j;obtain⟨g,T,U⟩:=R.lst a K Z;exact .inr ⟨_,g,rfl,.of T,U⟩
    .cases j
   |_=>cases j
  rcases m with⟨a,g,rfl,q,t⟩|⟨a,g,rfl,q,t⟩
  .cases r;obtain⟨l,p,G,hz⟩:=I.tuple q;have c:l.length=is.length:=by rw[<- p.length,t.length];exact x
   refine b1c (I.ok.hd hc) G (by simp[L,c]) n λA J=>?_;have z:Inv X i y H {s with heap:=A}:=I.kept (t':=s.toks) λb o e=>J b o (Z6<|ZV e) e;exact h i _ y H g _ Q z (by simpa using p)<|zM is t E x M
  .cases r;obtain⟨l,p,G,hz⟩:=I.list q;have c:l.length=is.length:=by rw[<- p.length,t.length];exact x
   refine OA (I.ok.hd hc) G.isList (by simp[L,c]) n λA J=>?_;have z:Inv X i y H {s with heap:=A}:=I.kept (t':=s.toks) λb o e=>J b o (Z6<|ZV e) e;exact h i _ y H g _ Q z (by simpa using p)<|zM is t E x M
 .cases B
noncomputable def jG(m:ME)(g:MG):MS:=λb μ=>(m b μ).bind λp=>(g p.1 b p.2).map λa=>(.nx,a,p.2)
theorem OC(r:PE X e (tM X.K m))(s:PG X tg (tMG X.K g))(u:a6k [tg] e pos.line X.env=pure false:=by rfl)(hw:a3d [tg] e X.env=pure none:=by rfl)(c:(a2o [tg] X.env).map (·.2)=[a6u tg X.env]:=by rfl):PS X (.Assign [tg] e pos) (tMS X.K<|jG m g):=jS (K9 r s u hw c)<|by
 rintro E J H ⟨z,n,w,G,A,y,R,i,a,k⟩;obtain⟨⟨x,d⟩,c,a⟩:=ZC.mp a;obtain⟨B,q,a⟩:=ZH.mp a;cases a;exact⟨z,n,w,x,d,R,i,c,λb I p l j v=>⟨b,n,_,x,_,j,i.mono l,v,q,λh o=>k b h p l j o⟩⟩
noncomputable def rR:MF:=λds μ=>match ds with
 |[.str z]=>if z.length<=ZX then a7 (.int z.length,μ)else b3|[x]=>(bK μ x).map λa=>(.int a.length,μ)|_=>b3
noncomputable def zN(K:ZD):gw->Hp->VK->Prop:=λxs H Q=>(∃p a,xs=[.ref p]/\(SqL K H p a\/SqT K H p a)/\Q (.int a.length) H)\/(∃z,xs=[.str z]/\z.length<=ZX/\Q (.int z.length) H)
theorem call_lenM:CallR X (.builtin "len") (zN X.K):=call_len_seq.or MU
theorem pP(R:Rp K π H μ)(h:IsD K π μ.length H v x)(e:bK μ x=a7 xs):∃p vs,v=.ref p/\(SqL K H p vs\/SqT K H p vs)/\IsDs K π μ.length H vs xs:=by
 cases h with
 |tup q t=>cases e;exact⟨_,_,rfl,.inr q,t⟩|rol q t=>cases e;exact⟨_,_,rfl,.inl q.sq,t⟩|@loc a g=>
  simp only[bK]at e;split at e
  .rename_i i d;cases e;obtain⟨vs,b,c⟩:=R.lst a xs d;exact⟨_,vs,rfl,.inl<|.of b,c⟩
  .cases e
 |_=>cases e
theorem D1:dS K rR (zN K):=by
 intro b H o m d j l Q R i a k;unfold rR at a;split at a
 .split at a
  .rename_i g;cases a;cases i with
   |cons i t=>cases i;cases t;exact .inr ⟨_,rfl,g,k b _ H .refl R<|.int _⟩
  .cases a
 .obtain⟨n,c,e⟩:=ZH.mp a;cases e;cases i with
  |cons i t=>cases t;obtain⟨p,h,rfl,q,hd⟩:=pP R i c;refine .inl ⟨p,h,rfl,q,?_⟩;rw[hd.length];exact k b _ H .refl R<|.int _
 .cases a
noncomputable def rS:MF:=λds μ=>match ds with
 |[x]=>(bK μ x).map λa=>(.loc μ.length,μ++[.lst a])|_=>b3
theorem D2:dS K rS (λxs H Q=>∃p a,xs=[.ref p]/\(SqL K H p a\/SqT K H p a)/\∀l,H l=b3->Q (.ref l) (aP H l<|.lst a)):=by
 intro r H o xs d m n Q R i b k;unfold rS at b;split at b
 .obtain⟨a,g,h⟩:=ZH.mp b;cases h;cases i with
  |cons i t=>cases t;obtain⟨p,c,rfl,q,hd⟩:=pP R i g;refine⟨p,c,rfl,q,λl j=>?_⟩;obtain⟨e,R2,_⟩:=R.alloc (c:=.lst a) (o:=.lst c) j hd;exact k _ _ _ e R2 jC
 .cases b
noncomputable def D3(K:ZD):gw->Hp->VK->Prop:=λvs H Q=>∃π μ x v t c b,vs=[v,.ty c]/\Rp K π H μ/\IsD K π μ.length H v x/\zK μ x=a7 t/\uT t c=a7 b/\Q (.bl b) H
theorem OD:dS K nV (D3 K):=by
 intro c H p o d m n Q R i a k;unfold nV at a;split at a
 .obtain⟨t,e,a⟩:=ZC.mp a;obtain⟨b,g,a⟩:=ZH.mp a;cases a;cases i with
  |cons i j=>
   cases j with
   |cons h l=>cases l;cases h;exact⟨c,_,_,_,t,_,b,rfl,R,i,e,g,k c _ H .refl R<|.bl _⟩
 .cases a
theorem OE:CallR X (.builtin "isinstance") (D3 X.K):=by
 intro G s Z H N us Q I r h;obtain⟨L,μ,x,v,t,c,b,rfl,R,i,d,k,q⟩:=h;obtain⟨u,u2,rfl,m,U⟩:=uE r;cases U;have fin:∀J,EP X G Z Q (.bool b) {s with toks:=J}:=λJ=>⟨.bl b,H,I.tok J,rfl,q⟩;cases i with
 |non=>cases d;cases m;exact a2d PySem.W.kitx_none I.kIn a3f (kW X.K (by simp) k) (λz=>nomatch z) fin|bl y=>cases d;cases m;exact a2d PySem.W.kitx_bool I.kIn a3f (kW X.K (by simp) k) (λz=>nomatch z) fin|int y=>cases d;obtain⟨t,rfl⟩:=m;exact a2d PySem.W.kitx_int I.kIn a3f (kW X.K (by simp) k) (λz=>nomatch z) fin|str y=>cases d;obtain⟨t,rfl⟩:=m;exact a2d PySem.W.kitx_str I.kIn a3f (kW X.K (by simp) k) (λz=>nomatch z) fin|tup g t=>cases d;cases m;obtain⟨B,M,p,_⟩:=I.tuple g;obtain⟨o,e,j,_⟩:=p;exact a2d PySem.W.kitx_tuple I.kIn ⟨o,e,j⟩ (kW X.K (by simp) k) (λz=>nomatch z) fin|rol g t=>cases d;cases m;obtain⟨B,M,p,_⟩:=I.list g.sq;obtain⟨o,e,j,_⟩:=p.isList;exact a2d a7Z I.kIn ⟨o,e,j⟩ (kW X.K (by simp) k) (λz=>nomatch z) fin|@loc a ha=>
  cases m;simp only[zK]at d;split at d
  .rename_i N A;cases d;obtain⟨E,w,h4⟩:=R.lst a N A;obtain⟨B,M,p,_⟩:=I.list<|SqL.of (K:=X.K) w;obtain⟨o,e,j,_⟩:=p.isList;exact a2d a7Z I.kIn ⟨o,e,j⟩ (kW X.K (by simp) k) (λz=>nomatch z) fin
  .rename_i l A;cases d;obtain⟨E,w,_⟩:=R.dK a l A;obtain⟨_,_,Y,_,p⟩:=(show ObjOk X.prog X.w H s.heap (L a) (.dK E)from I.hok _ _ w);obtain⟨o,T,O,e,j,_⟩:=p;exact a2d a8a I.kIn ⟨o,e,j.1⟩ (kW X.K (by simp) k) (λz=>nomatch z) fin
  .rename_i l A;cases d;obtain⟨E,w,_⟩:=R.dT a l A;obtain⟨⟨Y,_,_,_,o,T,O,e,j,_⟩,_⟩:=(show ObjOk X.prog X.w H s.heap (L a) (a8 (L a) E)from I.hok _ _ w);exact a2d a8a I.kIn ⟨o,e,j.1⟩ (kW X.K (by simp) k) (λz=>nomatch z) fin
  .cases d
 |ty n=>cases d
inductive IsKs (K:ZD)(π:Nat->Addr)(n:Nat)(H:Hp):List (cH×V)->List (cH×D)->Prop where
 |nil:IsKs K π n H [] []
 |cons {k:cH}{v:V}{d:D}{vs:List (cH×V)}{ds:List (cH×D)}(h:IsD K π n H v d)(t:IsKs K π n H vs ds):IsKs K π n H ((k,v)::vs)<|(k,d)::ds
theorem IsKs.length(h:IsKs K π n H vs ds):vs.length=ds.length:=by
 induction h with
 |nil=>rfl|cons h t a=>rw[Z8,Z8,a]
noncomputable def OF(K:ZD)(a:List (ME×ME)):List (TE×TE):=a.map λp=>(tM K p.1,tM K p.2)
theorem kE(r:Room k A):A.units+1<a1W:=by have:=r.un;lia
noncomputable def dP(a:ME):ME:=λb μ=>(a b μ).bind λp=>(zD p.1).map λd=>(d,p.2)
noncomputable def iC(cells:List (Str×Addr)):List (Str×a2H)->List (Str×Addr)->List (Str×Addr)
 |[],acc=>acc|(n,k)::r,acc=>if k=.free then(match cells.lookup n with|some c=>iC cells r ((n,c)::acc)|none=>iC cells r acc)else iC cells r acc
theorem D4:∀names a,(∀y∈names,y.2=.free->∃c,env.cells.lookup y.1=a7 c)->
  (forIn names a λx d=>(do
   if x.2==.free then(do let c <- cellOf env x.1;pure (a3s<|(x.1,c)::d))else pure (a3s d):a9e (ForInStep<|List<|Str×Addr)))=pure (iC env.cells names a)
 |[],a,_=>rfl|(n,k)::r,a,h=>by
  have g:=λa=>D4 r a λy i=>h y<|Z2 _ i;rw[a9C];by_cases b:k=.free
  .subst b;obtain⟨c,hc⟩:=h (n,.free) (a0l ..) rfl;dsimp only at hc;have e:cellOf env n=pure c:=by unfold cellOf;rw[hc]
   simp only[iC,hc,e,beq_self_eq_true,if_true,pure_bind];exact g _
  .have e:(k==a2i)=false:=by simpa using b
   simp only[iC,e,b,if_false,Z5,pure_bind];exact g _
theorem OG(h:∀y∈scope.names,y.2=.free->∃c,env.cells.lookup y.1=a7 c):a9T scope env=pure (iC env.cells scope.names []):=by have:=D4 (env:=env) scope.names [] h;unfold a9T;simp only[bind_pure]at *;exact this
theorem uV:∀names a,(∀y c,a.lookup y=a7 c->cells.lookup y=a7 c)->∀y c,(iC cells names a).lookup y=a7 c->cells.lookup y=a7 c
 |[],a,h=>h|(n,k)::r,a,h=>by
  unfold iC;split
  .split
   .rename_i c0 hc;refine uV r _ λy c e=>?_;rw[a3P]at e;by_cases b:y=n
    .subst b;simp only[beq_self_eq_true]at e;cases e;exact hc
    .have:(y==n)=false:=by simpa using b
     rw[this]at e;exact h y c e
   .exact uV r a h
  .exact uV r a h
theorem uW:∀names a y,(∃c,a.lookup y=a7 c)->∃c,(iC cells names a).lookup y=a7 c
 |[],a,y,h=>h|(n,k)::r,a,y,h=>by
  unfold iC;split
  .split
   .refine uW r _ y ?_;rw[a3P];by_cases b:(y==n)=b5
    .rw[b];exact⟨_,rfl⟩
    .have:(y==n)=false:=by simpa using b
     rw[this];exact h
   .exact uW r a y h
  .exact uW r a y h
theorem uX:∀names a y,(y,a2i)∈names->(∃c,cells.lookup y=a7 c)->∃c,(iC cells names a).lookup y=a7 c
 |[],a,y,h,_=>by cases h
 |(n,k)::r,a,y,h,hc=>by
  unfold iC;rcases a0g.mp h with h|h
  .cases h;obtain⟨c,hc⟩:=hc;rw[if_pos rfl,hc];exact uW r _ _ ⟨c,by simp[a3P]⟩
  .split
   .split
    .exact uX r _ y h hc
    .exact uX r _ y h hc
   .exact uX r _ y h hc
structure CompSt(osc:a2y)(N:List Str)(scope:a2y)(xs:List Str):Prop where
 nocell:∀y∈scope.names,y.2≠.cell
 kind:scope.kind=.function
 names:∀y∈scope.names,y.2=.local->scope.names.lookup y.1=a7 .local
 here:∀x∈xs,scope.names.lookup x=a7 .local
 free:∀y∈scope.names,y.2=.free->osc.names.lookup y.1=a7 .cell\/osc.names.lookup y.1=a7 .free
 own:∀y∈scope.names,y.2=.local->y.1∉bR xs N
 nd:N.Nodup
 hnd:(bR xs N).Nodup
 hidn:∀y∈N,xs.contains y=b5->scope.names.lookup (pM y)=b3
theorem CompSt.ok(S:CompSt X.env.scope X.N scope xs)(ok:X.Ok):CompOk X scope (iC X.env.cells scope.names []) xs:=by
 have has:∀y∈scope.names,y.2=.free->∃c,X.env.cells.lookup y.1=a7 c:=λy d b=>ok.has y.1 (S.free y d b);refine⟨OG has,S.nocell,S.kind,S.names,S.here,uV scope.names [] (λy c e=>by cases e),λy e=>?_,λy e=>?_,S.hidn⟩
 .have a:=a1j e;exact⟨S.free _ a rfl,uX scope.names [] y a (has _ a rfl)⟩
 .exact S.own _ (a1j e) rfl
noncomputable def pQ(i j:Nat)(ms:MA):MS:=λa μ=>(ms a μ).bind λp=>match p.1 with
 |[v,w]=>a7 (.nx,(a.set i<|a7 v).set j<|a7 w,p.2)|_=>b3
theorem OH(hc:X.calm=b5)(v:X.N.Nodup)(hi:X.N[i]?=a7 x)(z:X.N[j]?=a7 y)(e:i≠j)(B:X.env.scope.names.lookup x=a7 .local)(G:X.env.scope.names.lookup y=a7 .local)(w:PA X [a,b] (tMA X.K ms))(hw:a3d [.Tuple [.Name x m,.Name y py] l pt] (.Tuple [a,b] h c) X.env=pure (a7 [x,y]))(A:a6k [.Tuple [.Name x m,.Name y py] l pt] (.Tuple [a,b] h c) pos.line X.env=pure false:=by rfl):
  PS X (.Assign [.Tuple [.Name x m,.Name y py] l pt] (.Tuple [a,b] h c) pos) (tMS X.K<|pQ i j ms):=jS (Lc hc v hi z e B G w hw A)<|by
 rintro E Y H ⟨N,O,L,T,Q,M,R,p,d,k⟩;obtain⟨⟨ds,n⟩,u,d⟩:=ZC.mp d;refine⟨N,O,L,ds,n,R,p,u,λo U r q s g=>?_⟩;dsimp only at d;split at d
 .cases d;cases g with
  |cons g J=>
   cases J with
   |cons I K=>cases K;exact⟨_,_,rfl,k o _ r q s<|((p.mono q).set g i).set I j⟩
 .cases d
noncomputable def cU(e:Expr):Bool:=!(e.ctorIdx==22)
theorem fD(h:cU e=b5):a0h (e::a) env=(b4,eval e env)::a0h a env:=by cases e<;>first|rfl|cases h
theorem jU:∀{a},a.all cU=b5->(a1U pos<|a0h a env).any (·.1)=b4
 |[],_=>rfl|e::a,h=>by rw[a0u,ZL]at h;rw[fD h.1];have:=jU (pos:=pos) (env:=env) h.2;simpa[a1U]using this
theorem uY(h:cU e=b5):a2o (e::a) env=(b4,a6u e env)::a2o a env:=by cases e<;>first|rfl|cases h
theorem D5:∀{a},a.all cU=b5->(a2o a env).length=a.length
 |[],_=>rfl|e::a,h=>by rw[a0u,ZL]at h;rw[uY h.1,Z8,Z8,D5 h.2]
theorem D6:∀{a},a.all cU=b5->(a2o a env).findIdx? (·.1)=b3
 |[],_=>rfl|e::a,h=>by rw[a0u,ZL]at h;rw[uY h.1,List.findIdx?_cons,D6 h.2];rfl
structure QE(X:Cx)(e:Expr)(m:ME):Prop where
 h:PE X e<|tM X.K m
structure QT(X:Cx)(e:Expr)(m:MT):Prop where
 h:PT X e<|tMT X.K m
structure QW(X:Cx)(e:Expr)(m:MT):Prop where
 h:PW X e<|tMT X.K m
structure QA(X:Cx)(es:List Expr)(m:MA)(n:Nat):Prop where
 h:PA X es<|tMA X.K m
 l:∀ρ μ ds μ',m ρ μ=a7 (ds,μ')->ds.length=n
 s:es.all cU=b5
structure QO(X:Cx)(e:Option Expr)(m:MO):Prop where
 h:PO X e<|tMO X.K m
structure QS(X:Cx)(st:Stmt)(m:MS):Prop where
 h:PS X st<|tMS X.K m
structure QB(X:Cx)(st:List Stmt)(m:MS):Prop where
 h:PSs X st<|tMS X.K m
structure QG(X:Cx)(e:Expr)(g:MG):Prop where
 h:PG X e<|tMG X.K g
structure QGs(X:Cx)(es:List Expr)(is:List Nat):Prop where
 h:rC X es<|uU is
 n:es.length=is.length
 s:es.all cU=b5
structure QI(X:Cx)(ifs:List Expr)(m:MT):Prop where
 h:nX X ifs m
structure QP(X:Cx)(pos:a1p)(keys:List (Option Expr))(values:List Expr)(prs:List (ME×ME)):Prop where
 h:Mo X pos keys values<|OF X.K prs
 a:keys.all (·.isSome)=b5
 l:keys.length=values.length
theorem OI i(g:X.N[i]?=a7 x:=by rfl)(h:nK X.env.scope x:=by first|exact a7j rfl|exact a5R (a7j rfl)|exact a5R<|a5R rfl)(hd:(x==("__debug__":Str))=false:=by decide)(d:(x==("__classdict__":Str))=false:=by decide):QE X (.Name x pos) (aA i):=⟨Nj i<|CK g h hd d⟩
theorem OJ:QE X (.Constant (.int i) j pos) (mC<|.int i):=⟨Nk⟩
theorem OK:QE X (.Constant (.bool i) j pos) (mC<|.bl i):=⟨Nl⟩
theorem OL:QE X (.Constant (.str i) j pos) (mC<|.str i):=⟨Nm⟩
theorem OM:QE X (.Constant .none j pos) (mC .non):=⟨Nn⟩
theorem pR(i:OpR X (a3v op) r)(h:dG X.K f r)(d:QE X a ma)(g:QE X b mb):QE X (.BinOp a op b pos) (aB f ma mb):=⟨Np i h d.h g.h⟩
theorem ON(d:QE X a ma)(g:QE X b mb):QE X (.BinOp a .Add b pos) (aB bP ma mb):=pR Oh Oi d g
theorem OO(d:QE X a ma)(g:QE X b mb):QE X (.BinOp a .Sub b pos) (aB cM ma mb):=pR Lu Oa d g
theorem OP(d:QE X a ma)(g:QE X b mb):QE X (.BinOp a .Mult b pos) (aB bO ma mb):=pR N7 Oc d g
theorem OQ(d:QE X a ma)(g:QE X b mb):QE X (.BinOp a .FloorDiv b pos) (aB dU ma mb):=pR N8 Od d g
theorem OR(d:QE X a ma)(g:QE X b mb):QE X (.BinOp a .Mod b pos) (aB bL ma mb):=pR Lv Oe d g
theorem OS(d:QE X a ma)(g:QE X b mb):QE X (.BinOp a .Pow b pos) (aB kU ma mb):=pR N9 Of d g
theorem OT(d:QE X a ma):QE X (.UnaryOp .USub a pos) (dP ma):=⟨Oj d.h⟩
theorem OU(d:QE X a ma):QE X (.UnaryOp .Not a pos) (pH ma):=⟨NA d.h⟩
theorem OV(h:Room k X.A)(d:QE X a ma)(g:QE X b mb):QE X (.Compare a [.Eq] [b] pos) (aB (aR b4) ma mb):=⟨fY (DU<|uS h) uR d.h g.h<|eD _⟩
theorem OW(h:Room k X.A)(d:QE X a ma)(g:QE X b mb):QE X (.Compare a [.NotEq] [b] pos) (aB (aR b5) ma mb):=⟨fY (DV<|uS h) uR d.h g.h<|eD _⟩
theorem OX(d:QE X a ma)(g:QE X b mb):QE X (.Compare a [.Lt] [b] pos) (aB jF ma mb):=⟨fY yF jE d.h g.h<|eD _⟩
theorem OY(d:QE X a ma)(g:QE X b mb):QE X (.Compare a [.LtE] [b] pos) (aB pL ma mb):=⟨fY yG jE d.h g.h<|eD _⟩
theorem OZ(d:QE X a ma)(g:QE X b mb):QE X (.Compare a [.Gt] [b] pos) (aB lW ma mb):=⟨fY yH jE d.h g.h<|eD _⟩
theorem O0(d:QE X a ma)(g:QE X b mb):QE X (.Compare a [.GtE] [b] pos) (aB zH ma mb):=⟨fY yI jE d.h g.h<|eD _⟩
noncomputable def gI(e:Expr):Bool:=!(e.ctorIdx==7)
theorem jH(h:gI b=b5):a3e op b=false:=by cases b<;>first|rfl|cases h
theorem O1(h:QE X a m):QE X (.BoolOp op [a] pos) m:=⟨Nw h.h⟩
theorem O2{b6:List Expr}(d:QE X a ma)(g:QE X (.BoolOp .And (b::b6) pos) mb):QE X (.BoolOp .And (a::b::b6) pos) (i8 ma mb):=⟨Ny d.h g.h⟩
theorem O3{b6:List Expr}(d:QE X a ma)(g:QE X (.BoolOp .Or (b::b6) pos) mb):QE X (.BoolOp .Or (a::b::b6) pos) (yW ma mb):=⟨Nz d.h g.h⟩
theorem O4{mt:MT}(hc:QT X c mt)(d:QE X a ma)(g:QE X b mb):QE X (.IfExp c a b pos) (i9 mt ma mb):=⟨NB hc.h d.h g.h⟩
theorem O5:QA X [] aD 0:=⟨NF,DE,rfl⟩
theorem O6(g:QE X e m)(d:QA X es ms n)(h:cU e=true:=by rfl):QA X (e::es) (aC m ms) (n+1):=⟨NG g.h d.h<|fD h,NK d.l,by rw[a0u,h,d.s];rfl⟩
theorem O7(h:QA X es ms n):QE X (.Tuple es d pos) (bH ms):=⟨NH h.h⟩
theorem O8(h:QA X es ms n):QE X (.List es pos) (cJ ms):=⟨NI h.h⟩
noncomputable def pS(e:Expr):Bool:=!(e.ctorIdx==26)
theorem D7(h:pS b=b5):yR b:=by intro o i;cases b<;>first|rfl|cases h
theorem O9(d:QE X a ma)(g:QE X b mb)(h:pS b=true:=by rfl):QE X (.Subscript a b pos) (aB iK ma mb):=⟨NP d.h g.h<|D7 h⟩
theorem Pa:QO X b3 nT:=⟨NQ⟩
theorem Pb(h:QE X e m):QO X (a7 e) (rQ m):=⟨NR h.h⟩
theorem Pc(h:QE X a ma)(i:QO X lo g)(j:QO X hi d):QE X (.Subscript a (.Slice lo hi b3 k) pos) (yY ma g d):=⟨NT h.h i.h j.h⟩
theorem Pd(F:FnOk X.prog X.w X.K X.mg X.base eV k f i ps (eW X.K n j))(s:Room k X.A)(r:X.mg x=a7 (.ref f))(q:a1z X.K (.ref f)=b5)(l:Binds X.K i ps [])(d:QA X (e::es) ms n)(o:Gl X x:=by rfl)(g:(x==("__debug__":Str))=false:=by decide):QE X (.Call (.Name x p) (e::es) [] pos) (aH j ms):=by
 have h:=d.s;rw[a0u,ZL]at h;exact⟨NL F s o r q l d.h d.l g (fD h.1)<|jU h.2⟩
theorem zO{id:String}(hc:CallR X (.builtin id) r)(i:dS X.K f r)(k:X.mg x=b3)(o:a1F x=a7 (.builtin id))(h:QA X (e::es) ms n)(j:Gl X x:=by rfl)(l:x ≠ "__name__":=by decide)(d:(x==("__debug__":Str))=false:=by decide):QE X (.Call (.Name x p) (e::es) [] pos) (aH f ms):=by
 have g:=h.s;rw[a0u,ZL]at g;exact⟨NM hc i j k o h.h l d (fD g.1)<|jU g.2⟩
theorem D8(hc:CallR X (.type T) r)(i:dS X.K f r)(k:X.mg x=b3)(o:a1F x=a7 (.type T))(h:QA X (e::es) ms n)(j:Gl X x:=by rfl)(l:x ≠ "__name__":=by decide)(d:(x==("__debug__":Str))=false:=by decide):QE X (.Call (.Name x p) (e::es) [] pos) (aH f ms):=by
 have g:=h.s;rw[a0u,ZL]at g;exact⟨NN hc i j k o h.h l d (fD g.1)<|jU g.2⟩
theorem Pe(g:X.mg x=b3)(i:a1F x=a7 (.type n))(d:Gl X x:=by rfl)(h:x ≠ "__name__":=by decide)(hd:(x==("__debug__":Str))=false:=by decide):QE X (.Name x pos) (mC<|.ty n):=⟨Ol d g i h hd⟩
theorem Pf(h:Room k X.A)(d:QE X a ma)(g:QE X b mb):QT X (.Compare a [.Eq] [b] pos) (aU<|aB (aR b4) ma mb):=⟨fZ (DU<|uS h) uR d.h g.h<|eD _⟩
theorem Pg(h:Room k X.A)(d:QE X a ma)(g:QE X b mb):QT X (.Compare a [.NotEq] [b] pos) (aU<|aB (aR b5) ma mb):=⟨fZ (DV<|uS h) uR d.h g.h<|eD _⟩
theorem Ph(d:QE X a ma)(g:QE X b mb):QT X (.Compare a [.Lt] [b] pos) (aU<|aB jF ma mb):=⟨fZ yF jE d.h g.h<|eD _⟩
theorem Pj(d:QE X a ma)(g:QE X b mb):QT X (.Compare a [.LtE] [b] pos) (aU<|aB pL ma mb):=⟨fZ yG jE d.h g.h<|eD _⟩
theorem Pk(d:QE X a ma)(g:QE X b mb):QT X (.Compare a [.Gt] [b] pos) (aU<|aB lW ma mb):=⟨fZ yH jE d.h g.h<|eD _⟩
theorem Pl(d:QE X a ma)(g:QE X b mb):QT X (.Compare a [.GtE] [b] pos) (aU<|aB zH ma mb):=⟨fZ yI jE d.h g.h<|eD _⟩
noncomputable def zP:Expr->Bool
 |.UnaryOp .Not ..=>b4|.BoolOp ..=>b4|.IfExp ..=>b4|.Compare ..=>b4|_=>b5
theorem Pm(h:zP e=b5):∀d,a8K e env d=(do let v <- d;a7y e.pos;holding [v] (truthy v)):=by
 intro d;cases e<;>first|rfl|cases h|skip
 rename_i g x p;cases g<;>first|rfl|cases h
theorem Pn{mt:MT}(d:QT X a mt):QT X (.UnaryOp .Not a pos) (rO mt):=⟨Nv d.h⟩
theorem Po{mt:MT}(d:QT X a mt):QW X (.BoolOp .And [a] pos) mt:=⟨Nq d.h⟩
theorem Pp{mt:MT}(d:QT X a mt):QW X (.BoolOp .Or [a] pos) mt:=⟨Nr d.h⟩
theorem Pq{mt:MT}{b6:List Expr}(d:QT X a mt)(g:QW X (.BoolOp .And (b::b6) pos) mu):QW X (.BoolOp .And (a::b::b6) pos) (i7 mt mu):=⟨Nt d.h g.h⟩
theorem Pt{mt:MT}{b6:List Expr}(d:QT X a mt)(g:QW X (.BoolOp .Or (b::b6) pos) mu):QW X (.BoolOp .Or (a::b::b6) pos) (fJ mt mu):=⟨Nu d.h g.h⟩
theorem Pu{mt:MT}(h:QW X e mt):QT X e mt:=⟨h.h.pt⟩
theorem Pw:QI X [] f6:=⟨Ox⟩
theorem Px{mt:MT}(h:QT X c mt):QI X [c] mt:=⟨Oy h.h⟩
theorem Py:QB X [] bI:=⟨NU⟩
theorem PB{b6:List Stmt}(d:QS X st ms)(h:QB X b6 mr):QB X (st::b6) (aJ ms mr):=⟨NV d.h h.h⟩
theorem PC(d:QS X st ms):QB X [st] ms:=⟨NW d.h⟩
theorem PD:QS X (.Pass pos) bI:=⟨NX⟩
theorem PF(d:QE X e m):QS X (.Return (a7 e) pos) (aS m):=⟨NY d.h⟩
noncomputable def jV(e:Expr):Bool:=!(e.ctorIdx==8||e.ctorIdx==9||e.ctorIdx==10)
theorem uZ(h:jV e=b5):a4a e t n env=pure false:=by cases e<;>first|rfl|cases h
theorem PH(d:QE X e m)(h:jV e=true:=by rfl):QS X (.Expr e pos) (eE m):=⟨NZ d.h<|uZ h⟩
theorem PL{mt:MT}(hc:QT X c mt)(d:QB X body ms)(h:QB X orelse mu):QS X (.If c body orelse pos) (bE mt ms mu):=⟨N0 hc.h d.h h.h⟩
theorem PM i(j:X.N.Nodup)(k:QE X e m)(h:jV e=true:=by rfl)(hi:X.N[i]?=a7 x:=by rfl)(o:Loc X.env.scope x:=by first|exact a7j rfl|exact a5R rfl)(l:X.fn x=b5\/X.env.scope.names.lookup x=a7 .local:=by first|exact .inl rfl|exact .inr rfl):QS X (.Assign [.Name x d] e pos) (aO i m):=⟨DI j hi o k.h (uZ h) l⟩
theorem PN i(d:X.N.Nodup)(hi:X.N[i]?=a7 x:=by rfl)(j:Loc X.env.scope x:=by first|exact a7j rfl|exact a5R rfl)(h:X.fn x=b5\/X.env.scope.names.lookup x=a7 .local:=by first|exact .inl rfl|exact .inr rfl):QG X (.Name x pos) (cP i):=⟨DX d hi j h⟩
theorem D9:QGs X [] []:=⟨K7,rfl,rfl⟩
theorem Ea i(h:X.N.Nodup)(d:QGs X es is)(hi:X.N[i]?=a7 x:=by rfl)(k:Loc X.env.scope x:=by first|exact a7j rfl|exact a5R rfl)(j:X.fn x=b5\/X.env.scope.names.lookup x=a7 .local:=by first|exact .inl rfl|exact .inr rfl):QGs X (.Name x pos::es) (i::is):=
 ⟨K8 (CM h hi k j) d.h<|by rw[uY (e:=.Name x pos) rfl];rfl,by rw[Z8,Z8,d.n],by rw[a0u,d.s];rfl⟩
theorem zQ(h:QGs X es is)(hc:X.calm=true:=by rfl):QG X (.Tuple es k pos) (dH is):=⟨OB hc h.h ((D5 h.s).trans h.n)<|D6 h.s⟩
noncomputable def zR(e:Expr):Bool:=!(e.ctorIdx==25)
theorem PQ(h:zR e=b5):a3d [.Tuple es k pt] e env=pure none:=by cases e<;>first|rfl|cases h
theorem PR(d:QE X e m)(i:QG X (.Tuple es k pt) g)(h:zR e=true:=by rfl):QS X (.Assign [.Tuple es k pt] e pos) (jG m g):=
 ⟨OC d.h i.h (by cases e<;>rfl) (PQ h)<|by rw[uY (e:=.Tuple es k pt) rfl];rfl⟩
theorem PU i j(p:X.N.Nodup)(q:QA X [a,b] ms n)(h:i≠j:=by decide)(hc:X.calm=true:=by rfl)(hi:X.N[i]?=a7 x:=by rfl)(r:X.N[j]?=a7 y:=by rfl)(s:X.env.scope.names.lookup x=a7 .local:=by rfl)(u:X.env.scope.names.lookup y=a7 .local:=by rfl)(hw:a3d [.Tuple [.Name x o,.Name y py] l pt] (.Tuple [a,b] k d) X.env=pure (a7 [x,y]):=by rfl):
  QS X (.Assign [.Tuple [.Name x o,.Name y py] l pt] (.Tuple [a,b] k d) pos) (pQ i j ms):=⟨OH hc p hi r h s u q.h hw<|by rfl⟩
theorem PV(F:Fun K x a st f g)(S:FnScope N ps (cR st))(e:ps.length<=N.length)(d:fI st=body)(c:∀b A outer s H E,Room k (A.deeper<|a6N a (cR st) s.heap.objs.size f b)->
   QB (kS eV P w K mg base N a (cR st) f b A outer s H E).nox body m):FnOk P w K mg base eV (k+1) f g ps (eW K ps.length<|yZ N.length m):=
 N2 F S e λb A outer s H E h=>by rw[d];exact(c b A outer s H E h).h
noncomputable abbrev fQ:=Hm->Nat->Option (Option D)
noncomputable abbrev MI:=aI->Hm->Option (fQ×Nat×Hm)
inductive tMI (K:ZD)(m:MI)(σ:St)(H:Hp)(R:It->Hp->Prop):Prop
 |mk (π:Nat->Addr)(ρ:aI)(μ:Hm)(src:fQ)(n:Nat)(μ':Hm)(r:Rp K π H μ)(E:En K π μ.length H σ ρ)(hm:m ρ μ=a7 (src,n,μ'))(k:∀π' H' J,Ext π μ.length H π' μ'.length H'->Rp K π' H' μ'->Wk K J src π' μ'.length H'->R J H'):tMI K m σ H R
structure QJ(X:Cx)(e:Expr)(m:MI):Prop where
 h:∀tg,PI X tg e (tMI X.K m)
noncomputable def Eb:MI:=λ_ _=>b3
theorem PX:QJ X e Eb:=⟨λtg b1C s σ H R I hw=>by
 obtain⟨h,i,g,b,n,c,d,E,a,k⟩:=hw;cases a⟩
noncomputable def gJ(μ:Hm):D->Option (List D)
 |d=>bK μ d
noncomputable def cS(x:D):fQ:=λμ i=>(gJ μ x).map λxs=>xs[i]?
noncomputable def cX(m:ME):MI:=λa μ=>(m a μ).bind λp=>(gJ p.2 p.1).map λxs=>(cS p.1,xs.length+1,p.2)
theorem PY(h:QE X e m):QJ X e (cX m):=⟨λtg b1C s σ H R I hw=>by
 obtain⟨K,L,G,A,n,J,r,E,b,k⟩:=hw;obtain⟨⟨x,i⟩,u,b⟩:=ZC.mp b;obtain⟨B,w,b⟩:=ZH.mp b;cases b;have key:∀(o:bK i x=a7 B)(p:cS x=kX x),Z3 (a0d X.prog X.w) X.A (eval e X.env) (λv z=>Z3 (a0d X.prog X.w) X.A (a4Y v) (yA X b1C σ tg R) X.xe z) X.xe s:=λo p=>by
  refine Oo h.h b1C s σ H R I ⟨K,L,G,x,_,r,E,u,λc M j l d y=>?_⟩;obtain⟨a,e,q⟩:=Oq d y o;subst e;refine⟨a,rfl,?_⟩;dsimp only at k;rw[p]at k;rcases q with⟨g,W⟩|⟨g,W⟩
  .exact .inl ⟨g,k c j _ l d W⟩
  .exact .inr ⟨g,k c j _ l d W⟩
 cases x with
 |_=>exact key w rfl⟩
noncomputable def nY(ms:MA):MI:=λa μ=>(ms a μ).bind λp=>match p.1 with
 |[.int j]=>if -(2^62)<=j/\j<2^62 then a7 (iB 0 j.toNat,j.toNat+1,p.2)else b3|_=>b3
theorem PZ(tr:∀l lo n,Turn q X.prog X.w X.K tg (lT lo n) [l] l λi h=>a4n h l (lo+(i:Nat)*1) ((n:Int)-(i:Nat)) 1)(c:Gl X "range")(d:X.mg "range"=b3)(u:QA X [a] ms n):rD q X tg (.Call (.Name "range" p) [a] [] pos) (tMI X.K<|nY ms):=λb1C s σ H R I hw=>by
 have w:=u.s;rw[a0u,ZL]at w;obtain⟨N,O,L,J,Q,M,A,E,b,k⟩:=hw;obtain⟨⟨x,o⟩,G,b⟩:=ZC.mp b;refine Lh tr c d u.h (fD w.1) b1C s σ H R I ⟨N,O,L,x,o,A,E,G,λr T y B z g=>?_⟩;dsimp only at b;split at b
 .rename_i j;split at b
  .rename_i v;cases b;cases g with
   |cons g K=>cases g;cases K;exact⟨j,rfl,v.1,v.2,k r y _ B z DY⟩
  .cases b
 .cases b
theorem P0(b:Gl X "range")(c:X.mg "range"=b3)(d:QA X [a] ms n):QJ X (.Call (.Name "range" p) [a] [] pos) (nY ms):=⟨λtg=>PZ CQ b c d⟩
noncomputable def kZ(ms:MA):MI:=λa μ=>(ms a μ).bind λp=>match p.1 with
 |[.int i,.int j]=>if -(2^62)<=i/\i<2^62/\-(2^62)<=j/\j<2^62 then a7 (iB i (j-i).toNat,(j-i).toNat+1,p.2)else b3|_=>b3
theorem P5(g:Gl X "range")(h:X.mg "range"=b3)(r:QA X [a,b] ms n):QJ X (.Call (.Name "range" p) [a,b] [] pos) (kZ ms):=⟨λtg b1C s σ H R I hw=>by
 have d:=r.s;rw[a0u,ZL,a0u,ZL]at d;obtain⟨N,O,L,G,Q,M,w,E,c,k⟩:=hw;obtain⟨⟨x,o⟩,z,c⟩:=ZC.mp c;refine Li g h r.h (by rw[fD d.1,fD d.2.1];rfl) (by rw[fD d.2.1];rfl) b1C s σ H R I ⟨N,O,L,x,o,w,E,z,λq T u y v l=>?_⟩;dsimp only at c;split at c
 .rename_i i j;split at c
  .rename_i A;cases c;cases l with
   |cons l J=>
    cases l;cases J with
    |cons B K=>cases B;cases K;exact⟨i,j,rfl,A,k q u _ y v DY⟩
  .cases c
 .cases c⟩
noncomputable def b7(c:MI)(g:MG)(b:MS):MS:=λa μ=>(c a μ).bind λp=>eF p.1 g b p.2.1 0 a p.2.2
noncomputable def iM(d:BD)(g:MI)(c:MT)(e:ME):ME:=λb μ=>(g b μ).bind λp=>(iL p.1 d c e b p.2.2.length p.2.1 0<|p.2.2++[.lst []]).map λa=>(.loc p.2.2.length,a)
noncomputable abbrev d8(a:MI)(c:MT)(e:ME):ME:=iM pO a c e
noncomputable def gB(n:Nat)(a:BD):MG:=λd b μ=>(a d μ).map λx=>b.take n++x
theorem P6(j:X.N.length=n+1)(h:PG X (.Name x i) (tMG X.K<|cP n)):PG X (.Name x i) (tMG X.K<|gB n pO):=by
 intro b s w H v u Q I r hw;obtain⟨p,a,o,d,q,R,E,hd,l,k⟩:=hw;cases l;refine h b s w H v u Q I r ⟨p,a,o,d,_,R,E,hd,rfl,λc g=>k c ?_⟩;have m:a.length=n+1:=by rw[<- E.len,I.len,j]
 have e:a.set n (a7 d)=a.take n++[a7 d]:=by rw[List.set_eq_take_append_cons_drop,if_pos<|by lia,List.drop_of_length_le<|by lia]
 rw[e]at g;exact g
theorem Ec:∀xs a b,b.length=xs.length->kY (a++b) (a5p a.length xs.length) xs=a++xs.map a7
 |[],a,[],_=>by simp[kY]
 |x::xs,a,y::b,h=>by have c:=Ec xs (a++[a7 x]) b (by simpa using h);rw[Z8,a9l];show kY ((a++y::b).set a.length<|a7 x) (a5p (a.length+1) xs.length) xs=_;rw[a3O _ _<|ZN _,a3L,a0k];rw[ZO,a2s]at c;rw[a0R,a7S]at c;rw[c];simp
theorem P7(q:X.N.length=n+k)(h:PG X tg (tMG X.K<|dH<|a5p n k)):PG X tg (tMG X.K<|gB n<|zL k):=by
 intro b s J H v u Q I r hw;obtain⟨B,a,A,d,G,R,E,hd,w,z⟩:=hw;obtain⟨y,m,o⟩:=ZH.mp w;obtain⟨l,p,c⟩:=ZC.mp m;split at c
 .rename_i j;cases c;subst o;have x:a.length=n+k:=by rw[<- E.len,I.len,q]
  refine h b s J H v u Q I r ⟨B,a,A,d,kY a (a5p n k) l,R,E,hd,(by simp only[dH,p,ZY,List.length_range',if_pos j]),λg i=>z g ?_⟩;have e:=Ec l (a.take n) (a.drop n) (by rw[a3r];lia);rw[a2Y,a0Q,Nat.min_eq_left<|by lia,j]at e;rw[e]at i;exact i
 .cases c
theorem P8(E:En K π n H σ (a++o))(b:o.length=k):En K π n H σ (a++a0z k b3):=by
 refine⟨by rw[E.len,ZO,ZO,a1w,b],λi d q=>?_⟩;by_cases hi:i<a.length
 .rw[a0f hi]at q;exact E.get i d<|by rw[a0f hi];exact q
 .rw[a0N<|a2F.mp hi,a2M]at q;split at q<;>cases q
theorem Ed(O:CompOk X scope cl xs)(hq:∀b1C σ H s k,Inv X b1C σ H s->q (cW X scope cl s.heap.objs.size (bR xs X.N++xs) s H k))(hi:rD q X tg iter (tMI X.K mi))(hb':∀d μ z,bd d μ=a7 z->z.length=xs.length)(hg:∀C s₀ H₀ k,PG (cW X scope cl C (bR xs X.N++xs) s₀ H₀ k) tg (tMG X.K<|gB X.N.length bd))(hc:∀C s₀ H₀ k,nX (cW X scope cl C (bR xs X.N++xs) s₀ H₀ k) ifs mc)(he:∀C s₀ H₀ k,PE (cW X scope cl C (bR xs X.N++xs) s₀ H₀ k) elt (tM X.K me))(hs:∀x,a3p iter X.env x=pure x){σ:St}(I:Inv X b1C σ H s)(R:Rp X.K π H μ)(E:En X.K π μ.length H σ U)(hm:iM bd mi mc me U μ=a7 (d,μ'))(fin:∀p C l g(s':ZJ),Ext π μ.length H l μ'.length g->Rp X.K l g μ'->IsD X.K l μ'.length g (.ref p) d->(∃m,s'.heap.Ns C m)->X.s₀.heap.objs.size<=C->C≠X.env.locals->g C=b3->
   (∀y c,X.env.cells.lookup y=a7 c->c≠C)->(∀q∈X.pn++b1C,q.1≠C)->(∀h',(∀b o,b≠C->s'.heap.get? b=a7 o->h'.get? b=a7 o)->Inv X b1C σ g {s' with heap:=h'})->
   compPost (a0d X.prog X.w) X.A X.xe use QQ (.ref p) C (.ok .next) s'):
  Z3 (a0d X.prog X.w) X.A (comprehension (.ListComp elt [⟨tg,iter,ifs,0⟩] scope pos) scope X.env ppos (newList []) b4 (eval iter X.env) use) QQ X.xe s:=by
 obtain⟨⟨src,nt,a⟩,h1,hm⟩:=ZC.mp hm;obtain⟨μ2,h3,hm⟩:=ZH.mp hm;cases hm;have hit:Z3 (a0d X.prog X.w) X.A (eval iter X.env) (λv s1=>Z3 (a0d X.prog X.w) X.A (a4Y v) (PIEq q X b1C σ tg λJ H1=>∃Y,Ext π μ.length H Y a.length H1/\Rp X.K Y H1 a/\Wk X.K J src Y a.length H1) X.xe s1) X.xe s:=
  hi b1C s σ H _ I ⟨π,U,μ,src,nt,a,R,E,h1,λY H1 J e1 R1 W=>⟨Y,e1,R1,W⟩⟩
 refine wpAny_comprehension_free rfl hs O.clos O.kind O.names<|a1h hit (λv s1 hv=>a1h hv (λitv B h4=>?_) λ_ _ z=>z) λ_ _ z=>z;obtain⟨it,k,tn,J,H2,rfl,I2,T,st2,f2,Y,e1,R1,W⟩:=h4;refine a1f (wpAny_newFunctionEnv O.nocell (by intro y hy;simp at hy) (λZ K L=>?_) O.kind);dsimp only at K L ⊢;have hfr:H2 B.heap.objs.size=none:=I2.hok.fresh<|ZN _;have I3:Inv X b1C σ (aP H2 B.heap.objs.size<|.lst []) {B with heap:=B.heap.push {cls:=.type "list",dict:=b3,data:=.seq ([]:gq).toArray}}:=
  I2.laid (t':=B.toks) (λb u e=>ZK _ e) (ZN _) ⟨a0I _,[],0,.nil,ZW _ rfl⟩
 obtain⟨e2,R2,q2⟩:=R1.alloc (c:=.lst []) (o:=.lst []) hfr .nil;generalize hs3:({B with heap:=B.heap.push {cls:=.type "list",dict:=b3,data:=.seq ([]:gq).toArray}}:ZJ)=s3 at I3;have G:B.heap.push {cls:=.type "list",dict:=b3,data:=.seq ([]:gq).toArray}=s3.heap:=by rw[<- hs3]
 have e12:=e1.trans e2;generalize hH3:aP H2 B.heap.objs.size (.lst [])=H3 at I3 e2 R2 e12;generalize hπ3:hV Y a.length B.heap.objs.size=π3 at e2 R2 q2 e12;have hob:∀b∈k,∃o,s3.heap.get? b=a7 o:=λb A=>by obtain⟨o,ho,_⟩:=T.obj 0 _ st2 b A;exact⟨o,by rw[<- G];exact ZK _ ho⟩
 have f3:∀b∈k,iZ X b1C H3 b:=λb A=>by obtain⟨o,ho,_⟩:=T.obj 0 _ st2 b A;refine⟨?_,(f2 b A).2⟩;rw[<- hH3,bN<|Z6<|ZV ho];exact(f2 b A).1
 have st3:tn 0 s3.heap:=T.keep 0 _ _ st2 λb A o e=>by rw[<- G];exact ZK _ e
 have hC:(B.heap.push {cls:=.type "list",dict:=b3,data:=.seq ([]:gq).toArray}).objs.size=s3.heap.objs.size:=by rw[G]
 rw[G]at K L;have hk1:∀b o,s3.heap.get? b=a7 o->Z.get? b=a7 o:=λb o e=>L.extBut b o (Z6<|ZV e)<|ZK _ e;have E3:En X.K π3 (a++[C.lst []]).length H3 (σ++a0z xs.length b3) (U++a0z xs.length b3):=by
  have E':=E.mono e12;refine⟨by rw[ZO,ZO,E'.len,a1w,a1w],λi d' q=>?_⟩;by_cases hi:i<U.length
  .rw[a0f hi]at q;obtain⟨v,h5,h6⟩:=E'.get i d' q;exact⟨v,by rw[a0f<|by rw[E'.len];exact hi];exact h5,h6⟩
  .rw[a0N<|a2F.mp hi,a2M]at q;split at q<;>cases q
 have hlen:U.length=X.N.length:=by rw[<- E.len];exact I.len
 have stat:∀{g:Hp}{pl:jw},(∀b∈k,g b=b3)->pl=[]->∀b∈k,iZ (cW X scope cl s3.heap.objs.size (bR xs X.N++xs) s3 H3 k) pl g b:=λ{g pl} hn hpl b A=>by
  obtain⟨f0,f1,f2',f3',f4,f5⟩:=f3 b A;obtain⟨o,ho⟩:=hob b A;refine⟨hn b A,Z6<|ZV ho,λz=>?_,.inl A,λy c h=>f4 y c<|O.sub y c h,λp hp=>?_⟩
  .rcases a0g.mp (I3.stkSub b z)with z|z
   .exact f1 z
   .exact f2' z
  .subst hpl;exact absurd (show p∈([]:jw)from hp)<|by simp
 have loop:∀s4:ZJ,(∃tk,s4={s3 with heap:=Z,toks:=tk})->
   a3G (a0d X.prog X.w) X.A (.compLoop (.ListComp elt [⟨tg,iter,ifs,0⟩] scope pos) 0 (.ref it) (.ref B.heap.objs.size)<|a3S scope cl s3.heap.objs.size X.env)
    (compPost (a0d X.prog X.w) X.A X.xe use QQ (.ref B.heap.objs.size) s3.heap.objs.size) s4:=by
  rintro s4 ⟨tk,rfl⟩;have I4:=O.inv (tk:=tk) I3 f3 hob K hk1;refine Ov (λn s'=>∃i Q g l M o,Inv (cW X scope cl s3.heap.objs.size (bR xs X.N++xs) s3 H3 k) [] Q g s'/\tn i s'.heap/\(∀b∈k,g b=b3)/\Ext π3 (a++[C.lst []]).length H3 l M.length g/\Rp X.K l g M /\
   En X.K l M.length g Q (U++o)/\o.length=xs.length/\iL src bd mc me U a.length n i M=a7 μ') ?_ nt
   ⟨0,_,H3,π3,a++[C.lst []],a0z xs.length b3,I4,T.keep 0 _ _ st3 λb A o e=>hk1 b o e,λb A=>(f3 b A).1,.refl,R2,E3,a1w,h3⟩
  rintro n s5 ⟨i,σ5,H5,N,μ5,o5,I5,st5,fr5,e5,R5,E5,l5,g5⟩;cases n with
  |zero=>cases g5|succ n=>
   obtain⟨o,h6,h7⟩:=ZC.mp g5;cases o with
   |none=>
    cases h7;have stop:=W.stop N _ H5 i (e2.trans e5) R5 h6;refine a1h (T.done (cW X scope cl s3.heap.objs.size (bR xs X.N++xs) s3 H3 k) rfl rfl rfl (hq b1C σ H3 s3 k I3) i [] s5 σ5 H5 (λ_ _=>False) I5 (stat fr5 rfl) st5 stop) (λr s6 ⟨hr,I6⟩=>?_) λ_ _ z=>z;subst hr;obtain⟨m6,hn6,_⟩:=id I6.loc;have hp:N a.length=B.heap.objs.size:=by rw[e5.pi a.length<|by simp,q2]
    refine fin B.heap.objs.size s3.heap.objs.size N H5 s6 (e12.trans e5) R5 ?_ ⟨m6,hn6⟩ I3.sz (a0o<|Z6 I3.lt) I6.free (λy c hc z=>?_) (λq hq z=>?_) λh' hh=>CompOk.back I3 f3 I6 hh
    .rw[<- hp];exact .loc<|a0e (by simp) e5.le
    .obtain⟨v,o,ho,_⟩:=I3.cell y c hc;exact Z6 (ZV ho) z
    .exact Z6 (ZV (I3.pin q hq).1) z
   |some d=>
    obtain⟨z,hz,h7⟩:=ZC.mp h7;obtain⟨⟨b,μ6⟩,h8,h9⟩:=ZC.mp h7;obtain⟨g1,g2⟩:=W.go N μ5 H5 i d (e2.trans e5) R5 h6;refine a1h (T.item (cW X scope cl s3.heap.objs.size (bR xs X.N++xs) s3 H3 k) rfl rfl rfl (hq b1C σ H3 s3 k I3) i [] s5 σ5 H5 (λ_ _=>False) I5 (stat fr5 rfl) st5 g1) (λr s6 ⟨u,hr,h10⟩=>?_) λ_ _ z=>z;subst hr;refine a1h h10 (λ_ s7 ⟨v,H7,I7,r7,y7,st7,fr7⟩=>?_) λ_ _ z=>z;obtain⟨e7,R7,hd⟩:=g2 v H7 y7;have I7':=I7.pinned (stat fr7 rfl)<|T.obj _ _ st7;have e5:=e5.trans e7;refine a1h (hg _ _ _ _ _ s7 σ5 H7 v u (λQ g=>En X.K N μ5.length H7 Q (U++z)/\g=H7) I7' r7
     ⟨N,U++a0z xs.length b3,μ5,d,U++z,R7,P8 (E5.mono e7) l5,hd,(by
      show(bd d μ5).map (λx=>(U++a0z xs.length b3).take X.N.length++x)=_;rw[hz,<- hlen,a9H];rfl),λQ E'=>⟨E',rfl⟩⟩) (λ_ s8 ⟨σ8,H8,I8,E8,z2⟩=>?_) λ_ _ z=>z
    subst z2;have again:∀{s9:ZJ}{H9:Hp}{j:Nat->Addr}{μ9:Hm},Inv (cW X scope cl s3.heap.objs.size (bR xs X.N++xs) s3 H3 k) ([]++rF k s7.heap) σ8 H9 s9->Ext π3 (a++[C.lst []]).length H3 j μ9.length H9->Rp X.K j H9 μ9->
      En X.K j μ9.length H9 σ8 (U++z)->iL src bd mc me U a.length n (i+1) μ9=a7 μ'->
      ∃m,m<n+1/\∃i Q g l M o,Inv (cW X scope cl s3.heap.objs.size (bR xs X.N++xs) s3 H3 k) [] Q g s9/\tn i s9.heap/\(∀b∈k,g b=b3)/\Ext π3 (a++[C.lst []]).length H3 l M.length g/\Rp X.K l g M /\
       En X.K l M.length g Q (U++o)/\o.length=xs.length/\iL src bd mc me U a.length m i M=a7 μ':=λ{s9 H9 j μ9} I9 e9 R9 E9 g9=>by
     refine⟨n,a1C _,i+1,_,H9,j,μ9,z,I9.unpinned,T.keep _ _ _ st7 λb A o e=>(I9.pin (b,o)<|a1l _<|a1l _<|uA A e).1,λb A=>?_,e9,R9,E9,hb' _ _ _ hz,g9⟩;obtain⟨o,e,_⟩:=T.obj _ _ st7 b A;exact(I9.pin (b,o)<|a1l _<|a1l _<|uA A e).2.1
    refine a1h (hc _ _ _ _ _ s8 _ H8 (λb' g=>∃j,b'=b/\Ext N μ5.length H8 j μ6.length g/\Rp X.K j g μ6) I8 ⟨N,_,μ5,b,μ6,R7,E8,h8,λj H9 e9 R9=>⟨j,rfl,e9,R9⟩⟩) (λok s9 ⟨H9,I9,j,A,e9,R9⟩=>?_) λ_ _ z=>z;subst A;cases ok with
    |false=>rw[if_neg a0a];exact again I9 (e5.trans e9) R9 (E8.mono e9) h9|true=>
     rw[if_pos rfl];obtain⟨⟨dy,μ7⟩,h11,h12⟩:=ZC.mp h9;obtain⟨μ8,h13,h14⟩:=ZC.mp h12;refine a1h (he _ _ _ _ _ s9 _ H9 (λy g=>∃w,Ext j μ6.length H9 w μ7.length g/\Rp X.K w g μ7/\IsD X.K w μ7.length g y dy) I9 ⟨j,_,μ6,dy,μ7,R9,E8.mono e9,h11,λw y H10 e10 R10 i10=>⟨w,e10,R10,i10⟩⟩)
      (λu' s10 ⟨y,H10,I10,ry,w,e10,R10,i10⟩=>?_) λ_ _ z=>z
     unfold pN at h13;split at h13
     .rename_i zs hz;split at h13
      .rename_i hl;cases h13;obtain⟨vs,h15,h16⟩:=R10.lst _ zs hz;have eall:=(e5.trans e9).trans e10;have hp:w a.length=B.heap.objs.size:=by rw[eall.pi a.length<|by simp,q2]
       obtain⟨e11,R11⟩:=R10.put (a:=a.length) (c:=.lst (zs++[dy])) (o:=.lst (vs++[y])) (ZG.mp hz).1 h15 (.inl ⟨vs,rfl⟩)<|h16.append<|.cons i10 .nil;rw[hp]at h15 e11 R11;refine a1h (Dq (X:=cW X scope cl s3.heap.objs.size (bR xs X.N++xs) s3 H3 k) _ s10 _ H10 (.ref B.heap.objs.size) [y] (.ref B.heap.objs.size) [u'] (λ_ g=>g=aP H10 B.heap.objs.size (.lst<|vs++[y])) I10 rfl (.cons ry .nil)
        ⟨B.heap.objs.size,vs,y,rfl,rfl,h15,by rw[h16.length];exact hl,rfl⟩) (λ_ s11 ⟨_,H11,I11,_,z⟩=>?_) λ_ _ z=>z
       subst z;exact again I11 (eall.trans e11) R11 ((E8.mono<|e9.trans e10).mono e11) h14
      .cases h13
     .cases h13
 have l4:=loop {s3 with heap:=Z,toks:=B.toks+([]:List (Str×Value)).length} ⟨_,rfl⟩;have hst4:tn 0 Z:=T.keep 0 _ _ st3 λb A o e=>hk1 b o e;subst hs3;exact codeAny_compStart_list l4<|T.self _ 0 _ _ _ hst4 l4
theorem P9(O:CompOk X scope cl xs)(K:∀b1C σ H s a,Inv X b1C σ H s->q (cW X scope cl s.heap.objs.size (bR xs X.N++xs) s H a))(hi:rD q X tg iter (tMI X.K mi))(c:∀d μ z,bd d μ=a7 z->z.length=xs.length)(A:∀C s₀ H₀ a,PG (cW X scope cl C (bR xs X.N++xs) s₀ H₀ a) tg (tMG X.K<|gB X.N.length bd))(hc:∀C s₀ H₀ a,nX (cW X scope cl C (bR xs X.N++xs) s₀ H₀ a) ifs mc)(y:∀C s₀ H₀ a,PE (cW X scope cl C (bR xs X.N++xs) s₀ H₀ a) elt (tM X.K me))(L:∀x,a3p iter X.env x=pure x):PE X (.ListComp elt [⟨tg,iter,ifs,0⟩] scope pos) (tM X.K<|iM bd mi mc me):=by
 intro b1C s σ H Q I hw;obtain⟨Z,ρ,μ,d,U,R,E,B,k⟩:=hw;rw[eval_ListComp];refine Ed (use:=b3) O K hi c A hc y L I R E B λp C i j Y u r N h M J g l n back=>?_;obtain⟨m,G⟩:=h;exact⟨m,G,λv T=>⟨.ref p,j,back v λb o w e=>(T.2 b w).trans e,rfl,k i _ j u r N⟩⟩
theorem Qa(O:CompOk X scope cl xs)(a:X.calm=b5)(hi:PI X tg iter (tMI X.K mi))(c:∀d μ z,bd d μ=a7 z->z.length=xs.length)(g:∀C s₀ H₀ b,PG (cW X scope cl C (bR xs X.N++xs) s₀ H₀ b) tg (tMG X.K<|gB X.N.length bd))(hc:∀C s₀ H₀ b,nX (cW X scope cl C (bR xs X.N++xs) s₀ H₀ b) ifs mc)(e:∀C s₀ H₀ b,PE (cW X scope cl C (bR xs X.N++xs) s₀ H₀ b) elt (tM X.K me))(h:∀x,a3p iter X.env x=pure x):PE X (.ListComp elt [⟨tg,iter,ifs,0⟩] scope pos) (tM X.K<|iM bd mi mc me):=P9 O (λ_ _ _ _ _ _=>a) hi c g hc e h
theorem Qb(O:CompOk X scope cl xs)(hN:X.N.Nodup)(h:X.calm=b5)(hi:PI X tg iter (tMI X.K mi))(B:∀d μ z,bd d μ=a7 z->z.length=xs.length)(hg:∀C s₀ H₀ n,PG (cW X scope cl C (bR xs X.N++xs) s₀ H₀ n) tg (tMG X.K<|gB X.N.length bd))(hc:∀C s₀ H₀ n,nX (cW X scope cl C (bR xs X.N++xs) s₀ H₀ n) ifs mc)(he:∀C s₀ H₀ n,PE (cW X scope cl C (bR xs X.N++xs) s₀ H₀ n) elt (tM X.K me))(hs:∀x,a3p iter X.env x=pure x)(hy:X.N[i]?=a7 y)(U:X.env.scope.names.lookup y=a7 .local)(K:a4a (.ListComp elt [⟨tg,iter,ifs,0⟩] scope pos) (a7<|.Name y py) g.line X.env=pure b5):
  PS X (.Assign [.Name y py] (.ListComp elt [⟨tg,iter,ifs,0⟩] scope pos) g) (tMS X.K<|aO i<|iM bd mi mc me):=by
 intro l s Y H Z I hw;obtain⟨π,ρ,μ,fl,ρ',μ',R,E,G,k⟩:=hw;obtain⟨⟨d,μ1⟩,h1,G⟩:=ZH.mp G;cases G;rw[exec_Assign_Name_used _ _ _ _ K];refine ZE<|a4X ?_;refine ZE<|ZE ?_;refine Ed (use:=a7 (a6u (.Name y py) X.env)) (QQ:=λ_ u=>Z3 (a0d X.prog X.w) X.A (pure ()) (λ_ M=>Z3 (a0d X.prog X.w) X.A (pure a9q) (SP X l Z) X.xe M) X.xe u) O (λ_ _ _ _ _ _=>h) hi B hg hc he hs I R E h1 λp C Q v u T R1 i1 J L q j c r back=>?_;obtain⟨m,hn⟩:=J;have I1:Inv X l Y v u:=back u.heap λb o _ e=>e;show Z3 (a0d X.prog X.w) X.A (a6u (.Name y py) X.env<|.ref p) _ X.xe u;refine b0c ?_;refine CJ I1 hN hy (.inl U) (show RelV (.ref p) (.ref p)from rfl) (λs2 I2 ⟨a,sb,A⟩=>?_)<|.inr U;have w:C≠a:=by
  rcases A with rfl|A
  .exact q
  .exact a0o<|c _ _ A
 refine⟨m,hn.sameBut sb w,λh' N=>ZM<|ZM ?_⟩;refine⟨Y.set i<|a7<|.ref p,v,I2.turned (t':=s2.toks) (λb o hb e=>(N.2 b hb).trans e) j q (.inr L) c r,?_⟩;exact k Q _ v T R1<|(E.mono T).set i1 i
noncomputable def bX:ME:=λ_ _=>b3
noncomputable def nZ:MT:=λ_ _=>b3
noncomputable def cI:MS:=λ_ _=>b3
section
variable{X:Cx}{e a b c o:Expr}{m m1 m2 ma mb mc:ME}{pos:a1p}{mt mu:MT}{b6 es:List Expr}{ms:MA}{n:Nat}
theorem cD:QE X e bX:=⟨λb1C s σ H Q I h=>by
 obtain⟨l,p,j,d,i,R,E,g,k⟩:=h;cases g⟩
theorem zT:QT X e nZ:=⟨λb1C s σ H Q I h=>by
 obtain⟨l,p,j,d,i,R,E,g,k⟩:=h;cases g⟩
theorem Qd:QW X e nZ:=⟨λj b1C s σ H Q I h=>by
 obtain⟨p,q,l,d,i,R,E,g,k⟩:=h;cases g⟩
theorem dM:QS X st cI:=⟨λb1C s σ H D I h=>by
 obtain⟨p,q,l,j,i,g,R,E,d,k⟩:=h;cases d⟩
theorem u3(l:∀d j μ,g d j μ=b3):QG X e g:=⟨λb1C s σ H v u Q I r h=>by
 obtain⟨q,j,μ,d,p,R,E,hd,i,k⟩:=h;rw[l]at i;cases i⟩
theorem n5(l:QE X e m1)(p:QE X e m2)(h:∀g μ r,m g μ=a7 r->m1 g μ=a7 r\/m2 g μ=a7 r):QE X e m:=⟨λb1C s σ H Q I q=>by
 obtain⟨j,g,μ,d,i,R,E,u,k⟩:=q;rcases h g μ _ u with z|z
 .exact l.h b1C s σ H Q I ⟨j,g,μ,d,i,R,E,z,k⟩
 .exact p.h b1C s σ H Q I ⟨j,g,μ,d,i,R,E,z,k⟩⟩
theorem pT{m m1 m2:MT}(l:QT X e m1)(p:QT X e m2)(h:∀g μ r,m g μ=a7 r->m1 g μ=a7 r\/m2 g μ=a7 r):QT X e m:=⟨λb1C s σ H Q I q=>by
 obtain⟨j,g,μ,d,i,R,E,u,k⟩:=q;rcases h g μ _ u with z|z
 .exact l.h b1C s σ H Q I ⟨j,g,μ,d,i,R,E,z,k⟩
 .exact p.h b1C s σ H Q I ⟨j,g,μ,d,i,R,E,z,k⟩⟩
theorem iN{f i f2:D->D->Hm->jk}(h:∀x y μ r,f x y μ=a7 r->i x y μ=a7 r\/f2 x y μ=a7 r) :
  ∀g μ r,aB f ma mb g μ=a7 r->aB i ma mb g μ=a7 r\/aB f2 ma mb g μ=a7 r:=by
 intro g μ r d;obtain⟨p,j,d⟩:=ZC.mp d;obtain⟨q,k,d⟩:=ZC.mp d;rcases h _ _ _ _ d with z|z
 .exact .inl<|ZC.mpr ⟨p,j,ZC.mpr ⟨q,k,z⟩⟩
 .exact .inr<|ZC.mpr ⟨p,j,ZC.mpr ⟨q,k,z⟩⟩
theorem pU(h:∀d μ r,m d μ=a7 r->m1 d μ=a7 r\/m2 d μ=a7 r):∀d μ r,aU m d μ=a7 r->aU m1 d μ=a7 r\/aU m2 d μ=a7 r:=by
 intro d μ r g;obtain⟨p,i,g⟩:=ZC.mp g;rcases h _ _ _ i with z|z
 .exact .inl<|ZC.mpr ⟨p,z,g⟩
 .exact .inr<|ZC.mpr ⟨p,z,g⟩
noncomputable def n6:List D->Option (List Int)
 |[]=>a7 []|.int i::r=>(n6 r).map (i::·)|_=>b3
noncomputable def dN:D->Option (List Int)
 |.tup ds=>n6 ds|_=>b3
noncomputable def b8(kvs:jx)(k:List Int):Option D:=(kvs.find? λp=>decide<|p.1=k).map (·.2)
noncomputable def dW(kvs:jx)(k:List Int)(d:D):jx:=if(b8 kvs k).isSome then kvs.map (λp=>if p.1=k then(p.1,d)else p)else kvs++[(k,d)]
noncomputable def aF:D->D->Hm->jk:=λx y μ=>match x with
 |.loc a=>match μ[a]? with
  |some (.dT kvs)=>(dN y).bind λk=>(b8 kvs k).map λd=>(d,μ)|some (.dF kvs)=>(dN y).bind λk=>(b8 kvs k).map λd=>(d,μ)|_=>iK x y μ
 |_=>iK x y μ
structure TabOk(X:Cx)(x:Str)(kvs:List (cH×D)):Prop where
 ex:∃(p:Addr)(vs:List (cH×V))(ws:List (cH×Value)),X.mg x=a7 (.ref p)/\(∀h:a1d,X.K.In h->h.DictOf (rA X.prog X.w) p ws)/\KV vs ws/\∀π n H,IsKs X.K π n H vs kvs
theorem Ee{σ:St}(I:Inv X b1C σ H s)(h:X.K.lookup p=a7 ob):H p=none:=(I.bs p ob<|I.mod.kin p ob h).2
theorem Ef(R:Rp K π H μ)(k:d<μ.length):∃u,H (π d)=a7 u/\(∀vs,u≠.tup vs)/\∀ob v,(∀j,v≠HO.ext j)->u≠.frz ob v:=by
 cases q:μ[d]? with
 |none=>exact absurd (a0C.mp q) (by lia)|some i=>
  cases i with
  |lst g=>obtain⟨vs,h,_⟩:=R.lst d g q;exact⟨_,h,(λ_ z=>nomatch z),λ_ _ _ z=>nomatch z⟩|dK g=>obtain⟨vs,h,_⟩:=R.dK d g q;exact⟨_,h,(λ_ z=>nomatch z),λ_ _ _ z=>nomatch z⟩|st g=>obtain⟨vs,h,_⟩:=R.st d g q;exact⟨_,h,(λ_ z=>nomatch z),λ_ _ _ z=>nomatch z⟩|dT g=>obtain⟨vs,h,_⟩:=R.dT d g q;exact⟨_,h,(λ_ z=>nomatch z),λ_ _ _ z=>nomatch z⟩|dF g=>obtain⟨ob,vs,h,_⟩:=R.dF d g q;exact⟨_,h,(λ_ z=>nomatch z),λ_ _ n z=>n _<|by cases z;rfl⟩|ins x fs=>obtain⟨_,h,_,_,_,rfl,_⟩:=R.ins d x fs q;exact⟨_,h,(λ_ z=>nomatch z),λ_ _ _ z=>nomatch z⟩
section
variable{b1C:jw}{σ:St}{H:Hp}{s:ZJ}{π:Nat->Addr}{μ:Hm}
theorem Eg(I:Inv X b1C σ H s)(R:Rp X.K π H μ)(k:g<μ.length)(h:SqT X.K H (π g) vs):False:=by
 obtain⟨u,d,i,j⟩:=Ef R k;rcases h with(h|⟨q,h⟩)|⟨q,p,n,l,_⟩
 .rw[d]at h;exact i _<|Z0 h
 .rw[d]at h;exact j _ (.tup vs) (λr z=>nomatch z)<|Z0 h
 .rw[Ee I l]at d;cases d
theorem Eh(I:Inv X b1C σ H s)(R:Rp X.K π H μ)(j:g<μ.length)(h:RoL X.K H (π g) vs):False:=by
 obtain⟨u,d,q,i⟩:=Ef R j;rcases h with⟨p,h⟩|⟨p,l,n,k,_⟩
 .rw[d]at h;exact i _ (.lst vs) (λr z=>nomatch z)<|Z0 h
 .rw[Ee I k]at d;cases d
theorem Ei(I:Inv X b1C σ H s)(h:SqT X.K H p vs)(h':RoL X.K H p ws):False:=by obtain⟨g,_,t,_⟩:=I.tuple h;obtain⟨d,_,l,_⟩:=I.list h'.sq;exact absurd rfl<|a1R l.isList t
mutual
theorem Ej(I:Inv X b1C σ H s)(R:Rp X.K π H μ){v:V}{d d':D}:IsD X.K π μ.length H v d->IsD X.K π μ.length H v d'->d=d'
 |.non,h'=>by cases h';rfl
 |.bl _,h'=>by cases h';rfl
 |.int _,h'=>by cases h';rfl
 |.str _,h'=>by cases h';rfl
 |.ty _,h'=>by cases h';rfl
 |.tup h t,h'=>by
  cases h' with
  |tup g i=>have:=I.tuple_inj h g;subst this;rw[zU I R t i]|rol g i=>exact(Ei I h g).elim|loc g=>exact(Eg I R g h).elim
 |.rol h t,h'=>by
  cases h' with
  |tup g i=>exact(Ei I g h).elim|rol g i=>have:=I.list_inj h.sq g.sq;subst this;rw[zU I R t i]|loc g=>exact(Eh I R g h).elim
 |.loc (a:=a1) ha,h'=>by
  generalize hz:V.ref (π a1)=z at h';cases h' with
  |tup g i=>cases hz;exact(Eg I R ha g).elim|rol g i=>cases hz;exact(Eh I R ha g).elim|loc g=>have:=R.inj _ _ ha g<|V.ref.inj hz;rw[this]|_=>cases hz
theorem zU(I:Inv X b1C σ H s)(R:Rp X.K π H μ){vs:gw}{ds d:List D}:IsDs X.K π μ.length H vs ds->IsDs X.K π μ.length H vs d->ds=d
 |.nil,h'=>by cases h';rfl
 |.cons h t,h'=>by
  cases h' with
  |cons g i=>rw[Ej I R h g,zU I R t i]
end
end
noncomputable def k5(μ:Hm)(x:D):List D->Option Bool
 |[]=>a7 b4|y::r=>(c5 8 μ y x).bind λb=>(k5 μ x r).map λc=>b||c
noncomputable def l6(a:Bool):D->D->Hm->jk:=λx y μ=>(bK μ y).bind λc=>(k5 μ x c).map λb=>(.bl<|if a then !b else b,μ)
noncomputable def zV(K:ZD)(a:Bool):R2:=λx y H Q=>∃π μ c d e b,Rp K π H μ/\IsD K π μ.length H x c/\IsD K π μ.length H y d/\bK μ d=a7 e/\k5 μ c e=a7 b/\Q (.bl<|if a then !b else b) H
theorem u4{c:Bool}:dG K (l6 c) (zV K c):=by intro e H p x y d m n o Q R i j a k;obtain⟨l,g,a⟩:=ZC.mp a;obtain⟨b,h,a⟩:=ZH.mp a;cases a;exact⟨e,_,x,y,l,b,R,i,j,g,h,k e _ H .refl R<|.bl _⟩
theorem u5{σ:St}(I:Inv X b1C σ H s)(R:Rp X.K π H μ)(M:A.units+8<a1W)(Y:RelV x v)(T:IsD X.K π μ.length H x k):
  ∀{e}{vs}{us}{b},IsDs X.K π μ.length H vs e->Vals vs us->k5 μ k e=a7 b->
   ∃g,(∀u∈us,a6K A s u v (g u))/\us.any g=b:=by
 classical
 intro e vs us b hi j d
 have m:∀{e:List D}{vs:gw}{us:gq}{b:Bool},IsDs X.K π μ.length H vs e->Vals vs us->k5 μ k e=a7 b->(∀u∈us,∃c,a6K A s u v c/\∃w l,RelV w u/\IsD X.K π μ.length H w l/\c5 8 μ l k=a7 c):=by
  intro e
  induction e with
  |nil=>
   intro vs us b hi j d u a
   cases hi
   cases j
   cases a
  |cons y e E=>
   intro vs us b hi j d u a
   cases hi with
   |cons h t=>
    cases j with
    |cons r rt=>
     obtain⟨c,p,d⟩:=ZC.mp d
     obtain⟨c2,q,d⟩:=ZH.mp d
     rcases a0g.mp a with rfl|a
     .exact⟨c,DO I R 8 M r Y h T p,_,_,r,h,p⟩
     .exact E t rt q u a
 have n:=m hi j d
 refine⟨λu=>if h:u∈us then a5G (n u h)else b4,λu a=>?_,?_⟩
 .simp only[dif_pos a]
  exact(a6U<|n u a).1
 .have key:∀u (h:u∈us) w l c,RelV w u->IsD X.K π μ.length H w l->c5 8 μ l k=a7 c->a5G (n u h)=c:=by
   intro u h w l c G Q J
   obtain⟨_,w2,K,U,O,L⟩:=a6U<|n u h
   have:w2=w:=U.inj G
   subst this
   have:=Ej I R O Q
   subst this
   rw[L]at J
   exact Z0 J
  have o:∀{e:List D}{vs:gw}{i:gq}{b:Bool},(∀u∈i,u∈us)->IsDs X.K π μ.length H vs e->Vals vs i->k5 μ k e=a7 b->i.any (λu=>if h:u∈us then a5G (n u h)else b4)=b:=by
   intro e
   induction e with
   |nil=>
    intro vs i b B hi j d
    cases hi
    cases j
    cases d
    rfl
   |cons y e E=>
    intro vs i b B hi j d
    cases hi with
    |cons h t=>
     cases j with
     |@cons _ u _ Z r rt=>
      obtain⟨c,p,d⟩:=ZC.mp d
      obtain⟨c2,q,d⟩:=ZH.mp d
      have kE:u∈us:=B u<|a0l ..
      rw[a4H,E (λz N=>B z<|Z2 _ N) t rt q,dif_pos kE,key u kE _ _ c r h p]
      exact d
  exact o (λ_ h=>h) hi j d
theorem u6(r:Room k A):A.units+9<a1W:=by have:=r.un;lia
theorem Ek(G:X.A.units+9<a1W):OpR X (a0Z .In) (zV X.K b4):=by
 intro m s N H x y v u Q I l A h;obtain⟨M,L,B,E,K,b,R,k,z,n,j,q⟩:=h;obtain⟨p,J,rfl,c,hd⟩:=pP R z n;cases A;rcases c with c|c
 .obtain⟨a,r,i,o⟩:=I.list c;obtain⟨g,d,e⟩:=u5 I R (A:=X.A.in1) (by rw[pK];lia) l k hd r j;refine SeqAt.in_listAt g i.isList (λw hw=>d w<|by simpa using hw) ⟨.bl _,H,I,rfl,?_⟩;rw[show a.toArray.any g=a.any g by simp,e];exact q
 .obtain⟨a,r,i,o⟩:=I.tuple c;obtain⟨g,d,e⟩:=u5 I R (A:=X.A.in1) (by rw[pK];lia) l k hd r j;refine SeqAt.in_tupleAt g i (λw hw=>d w<|by simpa using hw) ⟨.bl _,H,I,rfl,?_⟩;rw[show a.toArray.any g=a.any g by simp,e];exact q
theorem Em(G:X.A.units+9<a1W):OpR X (a0Z .NotIn) (zV X.K b5):=by
 intro m s N H x y v u Q I l A h;obtain⟨M,L,B,E,K,b,R,k,z,n,j,q⟩:=h;obtain⟨p,J,rfl,c,hd⟩:=pP R z n;cases A;rcases c with c|c
 .obtain⟨a,r,i,o⟩:=I.list c;obtain⟨g,d,e⟩:=u5 I R (A:=X.A.in1) (by rw[pK];lia) l k hd r j;refine SeqAt.notIn_listAt g i.isList (λw hw=>d w<|by simpa using hw) ⟨.bl _,H,I,rfl,?_⟩;rw[show a.toArray.any g=a.any g by simp,e];exact q
 .obtain⟨a,r,i,o⟩:=I.tuple c;obtain⟨g,d,e⟩:=u5 I R (A:=X.A.in1) (by rw[pK];lia) l k hd r j;refine SeqAt.notIn_tupleAt g i (λw hw=>d w<|by simpa using hw) ⟨.bl _,H,I,rfl,?_⟩;rw[show a.toArray.any g=a.any g by simp,e];exact q
noncomputable def cY(b:Bool):D->D->Hm->jk
 |.str i,.str j,μ=>a7 (.bl<|if b then !(!(a1u j i 0 j.length 1).isEmpty)else !(a1u j i 0 j.length 1).isEmpty,μ)|x,.loc a,μ=>match μ[a]? with
  |some (.dT kvs)=>(dN x).map λk=>(.bl<|if b then !(b8 kvs k).isSome else(b8 kvs k).isSome,μ)|some (.dF kvs)=>(dN x).map λk=>(.bl<|if b then !(b8 kvs k).isSome else(b8 kvs k).isSome,μ)|_=>l6 b x (.loc a) μ
 |x,y,μ=>l6 b x y μ
noncomputable def zW:D->D->Hm->jk
 |.str i,.str j,μ=>a7 (.bl<|!(!(a1u j i 0 j.length 1).isEmpty),μ)|_,_,_=>b3
theorem Eo:dG K zW (λx y H Q=>∃i j,x=.str i/\y=.str j/\Q (.bl<|!(!(a1u j i 0 j.length 1).isEmpty)) H):=by
 intro g H m x y d e h l Q R b c a k;unfold zW at a;split at a
 .cases a;cases b;cases c;exact⟨_,_,rfl,rfl,k g _ H .refl R<|.bl _⟩
 .cases a
noncomputable def kF(a:Bool):D->D->Hm->jk
 |x,.non,μ=>a7 (.bl<|match x with|.non=>!a|_=>a,μ)|_,_,_=>b3
theorem Ep:dG K (kF b4) (λx y H Q=>y=.non/\Q (.bl<|decide<|x=.non) H):=by
 intro g H j x y d e h i Q R b c a k;unfold kF at a;split at a
 .cases a;cases c;refine⟨rfl,?_⟩;cases b<;>exact k g _ H .refl R<|.bl _
 .cases a
theorem Er:dG K (kF b5) (λx y H Q=>y=.non/\Q (.bl<|!decide (x=.non)) H):=by
 intro g H j x y d e h i Q R b c a k;unfold kF at a;split at a
 .cases a;cases c;refine⟨rfl,?_⟩;cases b<;>exact k g _ H .refl R<|.bl _
 .cases a
theorem Qe(c:QE X a ma)(d:QE X b mb):QE X (.Compare a [.Is] [b] pos) (aB (kF b4) ma mb):=⟨fY CV Ep c.h d.h<|eD _⟩
theorem Qf(c:QE X a ma)(d:QE X b mb):QE X (.Compare a [.IsNot] [b] pos) (aB (kF b5) ma mb):=⟨fY CW Er c.h d.h<|eD _⟩
theorem Qg(c:QE X a ma)(d:QE X b mb):QT X (.Compare a [.Is] [b] pos) (aU<|aB (kF b4) ma mb):=⟨fZ CV Ep c.h d.h<|eD _⟩
theorem Qh(c:QE X a ma)(d:QE X b mb):QT X (.Compare a [.IsNot] [b] pos) (aU<|aB (kF b5) ma mb):=⟨fZ CW Er c.h d.h<|eD _⟩
end
noncomputable def l7(μ:Hm):D->Bool
 |.rol _=>b5|.loc a=>match μ[a]? with|some (.lst _)=>b5|_=>b4
 |_=>b4
noncomputable def f7(f:D->List D->Hm->jk)(mo:ME)(ms:MA):ME:=λd μ=>(mo d μ).bind λp=>match l7 p.2 p.1 with
 |true=>(ms d p.2).bind λq=>f p.1 q.1 q.2|false=>b3
noncomputable def l8(K:ZD)(f:D->List D->Hm->jk)(r:V->gw->Hp->VK->Prop):Prop:=
 ∀i H g x k d h v j Q,Rp K i H g->IsD K i g.length H v x->IsDs K i g.length H j k->f x k g=a7 (d,h)->KC K Q i g.length H d h->r v j H Q
theorem Qi(R:Rp K π H μ)(h:IsD K π μ.length H v x)(e:l7 μ x=b5):yT K "list" v H:=by
 cases h with
 |rol h t=>exact .inl ⟨rfl,_,h.sq⟩|@loc a k=>
  simp only[l7]at e;split at e
  .rename_i j g;obtain⟨i,d,_⟩:=R.lst a j g;exact .inl ⟨rfl,i,.of d⟩
  .cases e
 |_=>cases e
theorem Qj(G:l8 K f r):∀σ H Q,tM K (f7 f mo ms) σ H Q->Dn K "list" r (tM K mo) (tMA K ms) σ H Q:=by
 rintro σ H Q ⟨O,y,N,d,j,R,E,g,k⟩;obtain⟨⟨x,h⟩,A,g⟩:=ZC.mp g;dsimp only at g;split at g
 .rename_i I;obtain⟨⟨w,i⟩,B,g⟩:=ZC.mp g;refine⟨O,y,N,x,h,R,E,A,λl L T s q v=>⟨Qi q v I,l,y,h,w,i,q,E.mono s,B,λp M z u R2 J=>?_⟩⟩;exact G p z i x w d j L M Q R2 (v.mono u) J g<|k.after<|s.trans u
 .cases g
noncomputable def f9:Expr->Bool
 |.Call (.Name _ _) [] [] _=>b4|_=>b5
theorem kG(h:f9 o=b5):a2N o i env d=d:=by
 cases o with
 |Call f g j p=>
  cases f with
  |Name id q=>
   cases g with
   |nil=>
    cases j with
    |nil=>cases h|cons _ _=>rfl
   |cons _ _=>rfl
  |_=>rfl
 |_=>rfl
theorem Es(h:(e::es).all cU=b5)(i:(e::es).length<30):
  ((a1U cpos (a0h (e::es) env)).all (λx=>!x.1)&&(a3C cpos (a2v [] env)).all (λx=>x.1.isSome)
   && decide ((e::es).length+([]:List a3b).length+(if([]:List a3b).isEmpty then 0 else 1)<30))=true:=by
 have d:(a1U cpos (a0h (e::es) env)).all (λx=>!x.1)=true:=by have:=jU (pos:=cpos) (env:=env) h;rw[a7w];simpa using this
 rw[d];have g:(e::es).length+([]:List a3b).length+(if([]:List a3b).isEmpty then 0 else 1)<30:=by show(e::es).length+0+0<30;lia
 rw[decide_eq_true g];rfl
theorem Et{id:String}(h:Slot "list" name id)(i:b1q (.builtin id)=pure (.type "method_descriptor"))(p:nM X id r)(k:l8 X.K f r)(s:QE X o mo)(j:QA X (e::es) ms n)(u:f9 o=b5)(l:(apos.endLine==cpos.line)=b5)(q:(e::es).length<30):QE X (.Call (.Attribute o name apos) (e::es) [] cpos) (f7 f mo ms):=by
 have g:=j.s;have d:=g;rw[a0u,ZL]at d;exact⟨dE (MX PySem.F.plainAttrs_list h i p s.h j.h (kG u) (Es g q) l (fD d.1)<|jU d.2)<|Qj k⟩
noncomputable def gM:D->List D->Hm->jk
 |.loc a,[y],μ=>(pN μ a y).map λd=>(.non,d)|_,_,_=>b3
noncomputable def n8:D->List D->Hm->jk
 |.loc a,[.loc b],μ=>match μ[a]?,μ[b]? with
  |some<|.lst xs,a7 (.lst ys)=>if xs.length+ys.length<=ZX then a7 (.non,μ.set a<|.lst<|xs++ys)else b3|_,_=>b3
 |_,_,_=>b3
theorem Qk(h:IsDs K π n H vs ds):IsDs K π n H vs.reverse ds.reverse:=by
 induction ds generalizing vs with
 |nil=>cases h;exact .nil|cons d ds g=>
  cases h with
  |cons h t=>rw[a4C,a4C];exact(g t).append<|.cons h .nil
theorem Ql:l8 K gM Dp:=by
 intro I H M x L d E v J Q R A i h k;unfold gM at h;split at h
 .rename_i a y;obtain⟨G,g,h⟩:=ZH.mp h;cases h;unfold pN at g;split at g
  .rename_i r q;split at g
   .rename_i w;cases g;obtain⟨j,l,p⟩:=R.lst a r q;cases A;cases i with
    |cons B z=>cases z;obtain⟨u,s⟩:=R.put (a:=a) (c:=.lst (r++[y])) (o:=.lst (j++[_])) (ZG.mp q).1 l (.inl ⟨j,rfl⟩)<|p.append<|.cons B .nil;exact⟨_,j,_,rfl,rfl,l,by rw[p.length];exact w,k I _ _ u s .non⟩
   .cases g
  .cases g
 .cases h
theorem Qm:l8 K n8 Ds:=by
 intro L H O x N d J v M Q R G h g k;unfold n8 at g;split at g
 .rename_i a b;split at g
  .rename_i u s q B;split at g
   .rename_i A;cases g;obtain⟨i,j,l⟩:=R.lst a u q;obtain⟨r,z,p⟩:=R.lst b s B;cases G;cases h with
    |cons I E=>cases E;cases I;obtain⟨y,w⟩:=R.put (a:=a) (c:=.lst (u++s)) (o:=.lst (i++r)) (ZG.mp q).1 j (.inl ⟨i,rfl⟩)<|l.append p;exact⟨_,_,i,r,rfl,rfl,j,z,by rw[l.length,p.length];exact A,k L _ _ y w .non⟩
   .cases g
  .cases g
 .cases g
noncomputable def pV(μ:Hm):D->Option Bool
 |.non=>a7 b4|.bl b=>a7 b|.int i=>a7 (i != 0)|.str z=>if z.length<=ZX then a7 ((z.length:Int) != 0)else b3|.tup xs=>a7 (!xs.isEmpty)|.rol xs=>a7 (!xs.isEmpty)|.loc a=>match μ[a]? with|some (.lst xs)=>a7 (!xs.isEmpty)|some (.dK kvs)=>a7 (!kvs.isEmpty)|_=>b3
 |.ty _=>b3
theorem u7{g i:Type}{xs:List g}{d:List i}(h:xs.length=d.length):xs.isEmpty=d.isEmpty:=by cases xs<;>cases d<;>first|rfl|cases h
theorem Qn(R:Rp K π H μ)(h:IsD K π μ.length H v x)(e:pV μ x=a7 b):yK K v H b:=by
 cases h with
 |non=>cases e;rfl|bl c=>cases e;rfl|int i=>cases e;rfl|str z=>
  simp only[pV]at e;split at e
  .rename_i p;cases e;exact⟨p,rfl⟩
  .cases e
 |tup h t=>cases e;exact .inr (.inl ⟨_,h,by rw[u7 t.length]⟩)|rol h t=>cases e;exact .inl ⟨_,h.sq,by rw[u7 t.length]⟩|@loc a r=>
  simp only[pV]at e;split at e
  .rename_i q j;cases e;obtain⟨l,d,g⟩:=R.lst a q j;exact .inl ⟨l,.of d,by rw[u7 g.length]⟩
  .rename_i k j;cases e;obtain⟨l,d,g,_⟩:=R.dK a k j;refine .inr<|.inr ⟨l,d,?_⟩;have:=congrArg a0F g;rw[ZF,ZF]at this;rw[u7 this]
  .cases e
 |ty n=>cases e
noncomputable def dQ(m:ME):MT:=λd μ=>(m d μ).bind λp=>(pV p.2 p.1).map λb=>(b,p.2)
theorem Qo(h:QE X e m)(r:zP e=b5):QT X e (dQ m):=⟨uL (LH h.h<|Pm r)<|by
 rintro G H Q ⟨y,z,u,b,v,R,E,d,k⟩;obtain⟨⟨x,w⟩,p,d⟩:=ZC.mp d;obtain⟨A,q,d⟩:=ZH.mp d;cases d;exact⟨y,z,u,x,_,R,E,p,λg B j l i s=>⟨_,Qn i s q,k g j l i⟩⟩⟩
theorem Qp(F:FnOk X.prog X.w X.K X.mg X.base eV k f j ps (eW X.K 0 l))(v:Room k X.A)(g:X.mg x=a7 (.ref f))(u:a1z X.K (.ref f)=b5)(r:Binds X.K j ps [])(s:Gl X x)(h:(x==("__debug__":Str))=b4):QE X (.Call (.Name x p) [] [] pos) (aH l aD):=
 ⟨dE (Ma F v s g u r .nil (E:=E0) rH h)<|by
  rintro G H Q ⟨z,B,w,d,i,R,E,g,k⟩;obtain⟨⟨A,y⟩,q,g⟩:=ZC.mp g;cases q;exact⟨rfl,z,[],w,d,i,R,.nil,g,k⟩⟩
theorem Qq:QS X (.Return b3 pos) (aS<|mC .non):=⟨jS K3<|by
 rintro E r H ⟨h,q,p,l,i,g,R,j,d,k⟩;cases d;exact k h .non H .refl R .non⟩
noncomputable def pW:List D->Option (List Bool)
 |[]=>a7 []|.bl b::r=>(pW r).map (b::·)|_=>b3
noncomputable def u9:MF:=λds μ=>match ds with
 |[x]=>(bK μ x).bind λa=>(pW a).map λbs=>(.bl<|bs.all id,μ)|_=>b3
theorem Eu:∀{xs}{vs}{bs},IsDs K π n H vs xs->pW xs=a7 bs->vs=bs.map V.bl
 |[],_,bs,h,e=>by cases h;cases e;rfl
 |x::xs,vs,bs,h,e=>by
  cases h with
  |cons h t=>
   cases x with
   |bl b=>obtain⟨a,c,d⟩:=ZH.mp e;subst d;cases h;rw[Eu t c];rfl|_=>cases e
noncomputable def Ew(K:ZD)(g:List Bool->Bool):gw->Hp->VK->Prop:=λxs H Q=>∃p bs,xs=[.ref p]/\(SqL K H p (bs.map V.bl)\/SqT K H p (bs.map V.bl))/\Q (.bl<|g bs) H
theorem Qr{f:MF}(e:f=λds μ=>match ds with|[x]=>(bK μ x).bind λxs=>(pW xs).map λbs=>(.bl<|g bs,μ)|_=>b3):dS K f (Ew K g):=by
 subst e;intro j H μ xs d h l Q R i a k;dsimp only at a;split at a
 .obtain⟨n,b,a⟩:=ZC.mp a;obtain⟨bs,c,a⟩:=ZH.mp a;cases a;cases i with
  |cons i t=>cases t;obtain⟨p,m,rfl,q,hd⟩:=pP R i b;have:=Eu hd c;subst this;exact⟨p,bs,rfl,q,k j _ H .refl R<|.bl _⟩
 .cases a
theorem Ex{bs:List Bool}(a:n=bs.length):(a0L n).all (λi=>bs.getD i b4)=bs.all id:=by
 subst a;induction bs with
 |nil=>rfl|cons b bs c=>rw[Z8,a4W,a0u,a5Y,a0u,<- c];rfl
theorem Ey{bs:List Bool}(r:Vals (bs.map V.bl) its):TruthOf prog w A (λi v=>its.toArray[i]?=a7 v) (λi=>bs.getD i b4):=by
 intro i v s Q E g b;have a:its[i]?=a7 v:=by simpa using g
 have hi:i<bs.length:=by have:=(ZG.mp a).1;have:=r.length;rw[ZF]at this;lia
 obtain⟨u,c,d⟩:=r.get (i:=i) (x:=.bl bs[i]) (by rw[ZU,ZT hi];rfl);rw[a]at c;cases c;cases d;have e:bs.getD i b4=bs[i]:=by simp[a1I,hi]
 dsimp only at b;rw[e]at b;exact a1K b
theorem Qs(hc:X.calm=b5):CallR X (.builtin "all") (Ew X.K (·.all id)):=by
 intro x s G H E B Q I r h;obtain⟨p,bs,rfl,j,q⟩:=h;obtain⟨u,rfl,A⟩:=fP r;cases A;have w:X.A.in1.handled=none:=I.ok.hd hc;rcases j with j|j
 .obtain⟨a,k,g,z⟩:=I.list j;refine call_all_walk<|a4T g.isList ?_;have d:p≠s.heap.objs.size:=by obtain⟨o,m,_⟩:=g.isList;exact Z6<|ZV m
  refine⟨s.heap.objs.size,_,_,_,_,_,λi=>bs.getD i b4,rfl,b0v w _ p d a.toArray,⟨⟨_,ZW _ rfl,rfl,rfl⟩,g.isList.push _⟩,Ey k,λy v n=>?_⟩;have c:a.toArray.size=bs.length:=by rw[Z9,<- k.length,ZF]
  refine⟨.bl _,H,I.kept (t':=v) λb o e=>n b o ?_<|ZK _ e,rfl,?_⟩
  .intro l;have:b=s.heap.objs.size:=by simpa using l
   exact Z6 (ZV e) this
  .rw[Ex c];exact q
 .obtain⟨a,k,g,z⟩:=I.tuple j;refine call_all_walk<|a9O (show s.heap.IsTuple p a.toArray from g) ?_;have d:p≠s.heap.objs.size:=by obtain⟨o,m,_⟩:=g;exact Z6<|ZV m
  refine⟨s.heap.objs.size,_,_,_,_,_,λi=>bs.getD i b4,rfl,Walks.tuple w _ p d a.toArray,⟨⟨_,ZW _ rfl,rfl,rfl⟩,a9g g _⟩,Ey k,λy v n=>?_⟩;have c:a.toArray.size=bs.length:=by rw[Z9,<- k.length,ZF]
  refine⟨.bl _,H,I.kept (t':=v) λb o e=>n b o ?_<|ZK _ e,rfl,?_⟩
  .intro l;have:b=s.heap.objs.size:=by simpa using l
   exact Z6 (ZV e) this
  .rw[Ex c];exact q
open PyProof.Rows (IntsAre)
open PySem.W (KasT kas_asc kas_desc kas_tail3 kas_descPart kas_count kas_place kas_bin kas_sort kas_rev kas_ask)
noncomputable def bD(ans:Nat->Nat->Bool):b0D b->b
 |.ret a=>a|.ask i j k=>bD ans<|k<|ans i j
noncomputable def InR(n:Nat)(R:c->Prop):b0D c->Prop
 |.ret a=>R a|.ask i j k=>i<n/\j<n/\∀b,InR n R (k b)
theorem InR.bind{R:c->Prop}{d:g->Prop}{f:c->b0D g}(e:∀a,R a->InR n d (f a)):∀{t},InR n R t->InR n d (t.bind f)
 |.ret a,q=>e a q|.ask i j k,q=>⟨q.1,q.2.1,λb=>InR.bind e<|q.2.2 b⟩
theorem zX{R:c->Prop}(hc:∀i j (C:Bool->ZJ->Prop),i<n->j<n->C (ans i j) s->b i j C s){Q:c->ZJ->Prop}:
  ∀{t},InR n R t->Q (bD ans t) s->t.kasWp b Q s
 |.ret a,_,q=>q|.ask i j k,h,q=>hc i j _ h.1 h.2.1<|zX hc (h.2.2 _) q
theorem Ez{R:b->Prop}:∀{t},InR n R t->R (bD ans t)
 |.ret a,q=>q|.ask i j k,h=>Ez (t:=k (ans i j))<|h.2.2 _
noncomputable def IxOk(n:Nat)(p:Array Nat):Prop:=p.Perm (a0L n).toArray
theorem IxOk.lt{n:Nat}{p:Array Nat}(h:IxOk n p)(b:0<n)(i:Nat):p.getD i 0<n:=by
 by_cases hi:i<p.size
 .have e:p.getD i 0=p[i]:=by simp[a4p,hi]
  rw[e];have c:p[i]∈p:=Array.getElem_mem hi;have a:p[i]∈(a0L n).toArray:=h.mem_iff.mp c;simpa using a
 .have e:p.getD i 0=0:=by simp[a4p,hi]
  rw[e];exact b
theorem IxOk.rev(h:IxOk n p)i j:IxOk n (a2A p i j):=(b0V _ _ _ _).trans h
theorem IxOk.bub(h:IxOk n p)i j:IxOk n (b1b p i j):=(b1a _ _ _).trans h
theorem zY(h:IxOk n p)(a:0<n):∀f m,InR n (λ_=>True) (a2B p f m)
 |0,m=>trivial
 |f+1,m=>⟨h.lt a _,h.lt a _,λb=>by
   cases b with
   |true=>exact trivial
   |false=>exact zY h a f<|m+1⟩
theorem vA(a:0<n):∀f p m q,IxOk n p->InR n (λr=>IxOk n r.1) (a2h f p m q)
 |0,p,m,q,h=>h
 |f+1,p,m,q,h=>⟨h.lt a _,h.lt a _,λb=>by
   cases b with
   |true=>
    show InR n _ (if q>0 then a2h f (a2A p (m-(q+1)) m) (m+1) 0 else a2h f p (m+1) 0);split
    .exact vA a f _ _ _<|h.rev _ _
    .exact vA a f _ _ _ h
   |false=>
    refine⟨h.lt a _,h.lt a _,λd=>?_⟩;cases d with
    |true=>exact h
    |false=>exact vA a f _ _ _ h⟩
theorem EA(c:0<n)(h:IxOk n p)a r:InR n (λr=>IxOk n r.2) (a4F a r p):=
 by
 have b:IxOk n (a2A p 0 a):=h.rev 0 a;unfold a4F;refine InR.bind (R:=λ_=>True) (λm _=>?_)<|zY b c _ _;exact b
theorem EB(b:0<n)(h:IxOk n p)a r:InR n (λr=>IxOk n r.2) (a3a a r p):=
 InR.bind (λq c=>by
  show InR n _ (if q.2.2>0 then a4F q.2.1 r (a2A q.1 (q.2.1-(q.2.2+1)) q.2.1)else a4F q.2.1 r q.1);split
  .exact EA b (c.rev _ _) _ _
  .exact EA b c _ _)<|vA b _ _ _ _ h
theorem Qt(a:0<n)(h:IxOk n p)r:InR n (λr=>IxOk n r.2) (a8x r p):=
 InR.bind (λm _=>by
  show InR n _ (if(m==r)=b5 then a2C (m,p)else if m>1 then a5s (p.getD 0 0) (p.getD (m-1) 0) (λc=>if c=b5 then a2C (m,p)else a3a m r (a2A p 0 m))else a3a m r p);split
  .exact h
  .split
   .refine⟨h.lt a _,h.lt a _,λb=>?_⟩;cases b with
    |true=>exact h|false=>exact EB a (h.rev _ _) _ _
   .exact EB a h _ _)<|zY h a _ _
theorem zZ(h:IxOk n p)(a:0<n)k:∀f l r,InR n (λ_=>True) (a1E p k f l r)
 |0,l,r=>trivial|f+1,l,r=>by
  show InR n _ (if l >= r then a2C l else a5s (p.getD k 0) (p.getD ((l+r)/2) 0) λc=>if c=b5 then a1E p k f l ((l+r)/2)else a1E p k f ((l+r)/2+1) r);split
  .exact trivial
  .refine⟨h.lt a _,h.lt a _,λb=>?_⟩;cases b with
   |true=>exact zZ h a k f _ _|false=>exact zZ h a k f _ _
theorem EC(a:0<n):∀f p k,IxOk n p->InR n (IxOk n) (a6H f p k)
 |0,p,k,h=>h|f+1,p,k,h=>InR.bind (λl _=>EC a f _ _<|h.bub _ _)<|zZ h a k _ _ _
theorem z6(a:0<n):InR n (IxOk n) (a6G n):=
 InR.bind (λr b=>by
  show InR n _ (if r.1<n then a6H (n-max r.1 1) r.2 (max r.1 1)else a2C r.2);split
  .exact EC a _ _ _ b
  .exact b)<|Qt a (Array.Perm.refl _) n
noncomputable def dI(lt:Nat->Nat->Bool)(n:Nat):List Nat:=(bD lt<|a6G n).toList
theorem pX lt(a:0<n):(dI lt n).Perm (a0L n):=by have h:IxOk n (bD lt<|a6G n):=Ez<|z6 a;have:=Array.perm_iff_toList_perm.mp h;simpa[dI]using this
theorem ED(x:ObjOk P w H h a o):∃ob,h.get? a=a7 ob:=by
 cases o with
 |lst c=>obtain⟨_,_,_,_,e⟩:=x;exact⟨_,e⟩|tup c=>obtain⟨_,_,_,ob,e,_⟩:=x;exact⟨_,e⟩|dK b=>obtain⟨_,_,_,_,o,_,_,e,_⟩:=x;exact⟨_,e⟩|dT b=>obtain⟨_,_,_,_,o,_,_,e,_⟩:=x;exact⟨_,e⟩|set S n=>obtain⟨o,_,_,_,e,_⟩:=x;exact⟨_,e⟩|ins C d fs=>obtain⟨_,_,_,e,_⟩:=x;exact⟨_,e⟩|own y=>exact x|xd fs=>obtain⟨_,⟨_,_,_,e,_⟩,_⟩:=x;exact⟨_,e⟩|rng g hi=>obtain⟨_,_,_,e⟩:=x;exact⟨_,e⟩|frz ob u=>exact⟨_,x.1⟩|tbl i=>exact⟨_,x⟩|met f y=>exact⟨_,x⟩|ext j=>exact x.2.1
theorem Qu{σ:St}{D:Addr}(I:Inv X b1C σ H s)(l:s.heap.Ns X.env.locals m)(keep:∀b ob,b≠X.env.locals->s.heap.get? b=a7 ob->h'.get? b=a7 ob)(j:h'.Ns X.env.locals m)(hD:s.heap.get? D=b3)(new:ObjOk X.prog X.w (aP H D o) h' D o):Inv X b1C σ (aP H D o) {s with heap:=h',toks:=t'}:=by
 have d:H D=none:=by
  cases q:H D with
  |none=>rfl|some u=>obtain⟨ob,e⟩:=ED<|I.hok D u q;rw[hD]at e;cases e
 have g:∀b u,H b=a7 u->b≠X.env.locals:=λb u e z=>by rw[z,I.free]at e;cases e
 refine I.step (g':=s.gens) (d':=s.drawn) (ch:=[]) (λ_ z=>nomatch z) (λb ob a _ _ e _=>keep b ob a e) (λb ob a _ _ e _=>⟨ob.slots,keep b ob a e⟩) (λb ob _ e n=>?_) (λb ob _ e=>?_)
  (λb p e=>by rw[bN<|fN e d];exact e) (λb ob u e=>by rw[bN<|fN e d];exact e) (λb w e=>⟨#[],by rw[bN<|fN e d,e];simp⟩) (λr h=>?_) (λb u e=>?_) I.bare
 .have:b≠D:=λz=>by rw[z,hD]at e;cases e
  rw[bN this];exact n
 .by_cases a:b=X.env.locals
  .obtain⟨i,_,_,k,_⟩:=j;exact⟨i,by rw[a];exact k⟩
  .exact⟨ob,keep b ob a e⟩
 .rw[h.eq_nsMap,<- l.eq_nsMap];exact j
 .by_cases a:b=D
  .subst a;rw[dD]at e;cases e;exact new
  .rw[bN a]at e;refine(I.hok b u e).stay (λc v hc q=>keep c v ?_ q) (λc q=>by rw[bN<|fN q d];exact q) λc p q=>by rw[bN<|fN q d];exact q
   rcases hc with rfl|hc
   .exact g _ _ e
   .exact g _ _ hc
theorem z7:∀{us vs:gq}{ns ms}i,a2V us ns->a2V vs ms->Q (HT.lexLt ns ms) s->
  PySem.W.KatLex prog w A b5 (decide<|us.length<vs.length) Q (us.zip vs) i s
 |_,_,_,_,i,.nil,.nil,h=>by exact h
 |_,_,_,_,i,.nil,.cons c u hv,h=>by show Q (decide<|0<_+1) s;rw[decide_eq_true<|a7Q _];exact h
 |_,_,_,_,i,.cons a t hu,.nil,h=>by show Q (decide<|_+1<0) s;rw[decide_eq_false<|a5g _];exact h
 |_,_,_,_,i,.cons (vs:=us) (ns:=ns) a t hu,.cons (vs:=vs) (ns:=ms) c u hv,h=>by
  rw[HT.lexLt_cons]at h;refine PySem.W.kat_cons<|a7g a t c u prog w _ _ ?_;by_cases e:a=c
  .subst e;rw[if_pos rfl]at h;rw[beq_self_eq_true];refine PySem.W.kat_yes ?_;have:=z7 (prog:=prog) (w:=w) (A:=A) (s:=s) (Q:=Q) (i+1) hu hv h;have d:decide ((a1y a t::us).length<(a1y a u::vs).length)=decide (us.length<vs.length):=by simp
   rw[d];exact this
  .rw[if_neg e]at h;have b:(a==c)=false:=by simpa using e
   rw[b];refine PySem.W.kat_no ?_;cases hi:(b5&&i==0)with
   |true=>exact b0T h|false=>exact PySem.W.kat_one _ _<|a6M h
noncomputable abbrev TupsV(K:ZD)(H:Hp):gw->List (List Int)->Prop:=a4N λv t=>∃a,v=V.ref a/\SqT K H a (t.map V.int)
theorem TupsV.get:∀{vs}{b}{i},TupsV K H vs b->i<vs.length->∃a,vs[i]?=a7 (V.ref a)/\SqT K H a ((b.getD i []).map V.int)
 |_,_,_,.nil,h=>by simp at h
 |_,_,0,.cons ⟨a,e,q⟩ _,_=>⟨a,by rw[e];rfl,q⟩|_,_,i+1,.cons _ t,h=>by obtain⟨a,e,q⟩:=TupsV.get (i:=i) t (by simpa using h);exact⟨a,by simpa using e,q⟩
section
open PyProof.Rows
theorem EE{us:gq}(h:us.length<2)(g:s.heap.get? c=a7 (a1D "list" us.toArray z))(q:R (.done<|.ret .none) {s with heap:=a9R s.heap c us us.toArray}):
  Z3 (a0d prog w) A (Builtin.«list.sort» ⟨[.ref c],[]⟩) R E s:=by
 rw[b0L];have lt:c<s.heap.objs.size:=ZV g;refine ZE<|listItems_at g rfl<|ZE<|a6m g rfl ?_;obtain⟨y,d⟩:∃y,(s.heap.update c<|a1G λ_=>#[]).get? c=a7 (a1D "list" #[] y):=⟨_,b0N g _⟩;refine ZE<|a7f d rfl<|ZE<|a7F<|ZE<|a4h<|a1i ?_;have e:(((s.heap.update c<|a1G λ_=>#[]).push<|a1D "tuple" us.toArray 0).push<|a1D "list" #[] 0).get? c=a7 (a1D "list" #[] y):=
  ZK _<|ZK _ d
 show Z3 (a0d prog w) A _ R E ⟨((s.heap.update c<|a1G λ_=>#[]).push<|a1D "tuple" us.toArray 0).push<|a1D "list" #[] 0,s.gens,s.drawn,s.toks,s.os⟩;dsimp only;have a:us.toArray.size<2:=by simpa using h
 rw[if_pos a,if_pos a];refine ZE<|ZM ?_;rw[StateT.run_pure];refine ZE<|ZM ?_;dsimp only;have b:b1o (λx=>x.2) (arrOf<|SortSt.mk' general' (us.toArray.zip us.toArray) #[] 7 b3)=us.toArray:=by show b1o (λx=>x.2) (us.toArray.zip us.toArray)=us.toArray;exact Array.ext (by simp) λi j k=>by simp
 refine ZE (a7f e rfl<|ZE<|a6m e rfl ?_ (hsz2:=by rw[b,a0n];lia));rw[b];simp only[bne_self_eq_false,Z5,if_false];exact ZM q
theorem Qv{s:ZJ}(a:s.heap.IsList l [u].toArray)(q:Q (.ref<|s.heap.objs.size+1) {s with heap:=sortedAll s.heap [u] [u].toArray}):Z3 (a0d prog w) A (call (.builtin "sorted") [.ref l]) Q E s:=by
 refine a6V kind_sorted plain_sorted entry_sorted (args_sorted1 _) ?_;unfold a7W;refine ZE (m:=checkCount "sorted" 1 1 _)<|ZM<|ZE<|collect_list a<|ZE<|a4h ?_;have z:((s.heap.push<|a1D "list" #[] 0).update s.heap.objs.size<|a1G (·++[u].toArray)).objs.size=s.heap.objs.size+1:=by rw[Heap.size_update,size_push']
 have g:(((s.heap.push<|a1D "list" #[] 0).update s.heap.objs.size<|a1G (·++[u].toArray)).push<|a1D "list" [u].toArray 0).get? (s.heap.objs.size+1)=a7 (a1D "list" [u].toArray 0):=z▸ZW _ rfl;show Z3 _ _ _ _ _ ⟨((s.heap.push<|a1D "list" #[] 0).update s.heap.objs.size<|a1G (·++[u].toArray)).push<|a1D "list" [u].toArray 0,s.gens,s.drawn,s.toks,s.os⟩;rw[z];refine ZE (a1i<|a1Q a7I ⟨_,g,rfl⟩ a7q (EE (us:=[u]) (by simp) g ⟨_,rfl,?_⟩)<|a7N _);exact ZM ⟨_,rfl,q⟩
end
theorem EF lt:dI lt 1=[0]:=rfl
theorem EG lt:dI lt 0=[]:=rfl
theorem n9 lt n:(dI lt n).Perm (a0L n):=by
 cases n with
 |zero=>rw[EG];exact .nil|succ n=>exact pX lt<|a7Q n
theorem Qw{σ:St}(I:Inv X b1C σ H s)(c:SqL X.K H q [v])(k:∀l,H l=b3->Q (.ref l) (aP H l<|.lst [v])):
  Z3 (a0d X.prog X.w) X.A (call (.builtin "sorted") [.ref q]) (EP X b1C σ Q) X.xe s:=by
 obtain⟨d,i,g,j⟩:=I.list c;cases i with
 |cons h rt=>cases rt;rename_i u;refine Qv (u:=u) g.isList ?_;obtain⟨e,a⟩:=a5Q s.heap [u] [u].toArray;refine⟨.ref<|s.heap.objs.size+1,_,I.laid (t':=s.toks) (a:=s.heap.objs.size+1) (o:=.lst [v]) (λb m z=>a5I z) (a2D _) ?_,rfl,k _<|I.hok.fresh<|a2D _⟩;exact⟨by rw[a0n];show 1<=_;decide,[u],e,.cons h .nil,a⟩
noncomputable def z8(K:ZD):gw->Hp->VK->Prop:=λxs H Q=>∃q ws a,xs=[.ref q]/\SqL K H q ws/\TupsV K H ws a/\1<=ws.length/\ws.length<64/\(∀t∈a,t≠[]) /\
 ∀l,H l=b3->Q (.ref l) (aP H l<|.lst<|(dI (λi j=>HT.lexLt (a.getD i [])<|a.getD j []) ws.length).map λi=>ws.getD i .non)
theorem Qx(h:Vals (ns.map V.int) us):a2V us ns:=uI h
theorem Qy:CallR X (.builtin "sorted") (z8 X.K):=by
 intro b1C s σ H xs us Q I r h;obtain⟨q,ws,o,rfl,hq,E,h1,h64,y,k⟩:=h;obtain⟨u,rfl,ru⟩:=fP r;cases ru;by_cases h2:ws.length<2
 .obtain⟨v,rfl⟩:=List.length_eq_one_iff.mp (by lia:ws.length=1);refine Qw I hq λl hl=>?_;have z:=k l hl;rw[a2s,EF]at z;exact z
 replace h2:2<=ws.length:=a9z h2;obtain⟨its,G,pl,hz⟩:=I.list hq;obtain⟨m,F⟩:=I.fr;have U:=G.length;refine PySem.W.kat_sorted F (Kh (g:=X.base) (h:=s.heap) (L:=X.env.locals)) pl.isList (by lia) (by lia) λD Z h' F' N' hD=>?_;have keep:∀b ob,b≠X.env.locals->s.heap.get? b=a7 ob->h'.get? b=a7 ob:=λb ob hb e=>by
  cases z:X.base.get? b with
  |some L=>have:=I.bk b L z;rw[e]at this;cases this;exact F'.keep b _ z|none=>exact(N' (b,ob)<|Z2 _<|xX hb z e).1
 have R:=N' (D,_)<|a0l ..;have T:s.heap.get? D=none:=by
  cases z:s.heap.get? D with
  |none=>rfl|some ob=>exact absurd (hD (D,ob)<|xX R.2.1 R.2.2 z)<|a2p _
 have neL:∀{a:Addr}{vs:gw},SqT X.K H a vs->a≠X.env.locals:=λ{a vs} w z=>by
  subst z;rcases w with(w|⟨ob,w⟩)|⟨ob,_,_,hk,_⟩
  .rw[I.free]at w;cases w
  .rw[I.free]at w;cases w
  .have h1:X.env.locals<X.base.objs.size:=ZV<|I.mod.kin _ _ hk;exact a2p _<|a0e h1 F.above
  -- the tuples stand there still
 have g:∀{a:Addr}{t:List Int},SqT X.K H a (t.map V.int)->∃(ob:Obj)(xs:gq)(n:Nat),h'.get? a=a7 ob/\ob.cls=.type "tuple"/\ob.data=.seq xs.toArray n/\a2V xs t:=λ{a t} w=>by obtain⟨xs,rx,⟨ob,e,c,n,d⟩,_⟩:=I.tuple w;exact⟨ob,xs,n,keep a ob (neL w) e,c,d,Qx rx⟩
 have Y:∀{ws:gw}{its:gq}{o:List (List Int)},Vals ws its->TupsV X.K H ws o->(∀t∈o,t≠[])->∃fs:gq,fs.length=its.length/\PySem.W.KatTups h' its fs/\∀v∈fs,∃i t,v=a1y i t:=by
  intro ws its o G E;induction E generalizing its with
  |nil=>intro _;cases G;exact⟨[],rfl,.nil,λv A=>nomatch A⟩|@cons v t ws o A _ ih=>
   intro y;cases G with
   |cons r1 r2=>
    obtain⟨a,rfl,w⟩:=A;cases r1;obtain⟨fs,h1,h3,h4⟩:=ih r2 λt E=>y t<|Z2 _ E;obtain⟨ob,xs,n,e,c,d,hi⟩:=g w;cases hi with
    |nil=>exact absurd rfl (y []<|a0l ..)|@cons i tk xs' ns' hi'=>
     refine⟨a1y i tk::fs,by simp[h1],.cons e c d (by simp) h3,λv A=>?_⟩;rcases a0g.mp A with rfl|A
     .exact⟨i,tk,rfl⟩
     .exact h4 v A
 obtain⟨fs,hf1,hf2,hf3⟩:=Y G E y;refine PySem.W.kat_kind (T:=.type "int") hf2 (by lia) (λv A=>?_) rfl ?_
 .obtain⟨i,t,rfl⟩:=hf3 v A;exact .now
 have htl:o.length=ws.length:=E.length.symm;refine zX (n:=its.length) (ans:=λi j=>HT.lexLt (o.getD i [])<|o.getD j []) (λi j C hi hj hC=>?_) (z6<|by lia) ?_
 .obtain⟨a,ea,sa⟩:=E.get (i:=i) (by lia);obtain⟨b,eb,sb⟩:=E.get (i:=j) (by lia);obtain⟨ua,ha1,ha2⟩:=G.get ea;obtain⟨ub,hb1,hb2⟩:=G.get eb;cases ha2;cases hb2;have ga:its.getD i a0T=.ref a:=by simp[a1I,ha1]
  have gb:its.getD j a0T=.ref b:=by simp[a1I,hb1]
  unfold kas_ask;rw[ga,gb];obtain⟨oa,xa,na,Z,_,d1,i1⟩:=g sa;obtain⟨ob,xb,nb,e2,_,d2,i2⟩:=g sb;refine PySem.W.kat_lt Z d1 e2 d2 ?_;have:=z7 (prog:=X.prog) (w:=X.w) (A:=X.A.in1.in1) (s:={s with heap:=h'}) (Q:=C) 0 i1 i2 hC;exact this
 .refine b0l F' N' (.head λp hp=>Z6<|hD p hp) λh'' c M N=>?_;have K:∀b ob,b≠X.env.locals->s.heap.get? b=a7 ob->h''.get? b=a7 ob:=λb ob hb e=>by
   cases z:X.base.get? b with
   |some L=>have:=I.bk b L z;rw[e]at this;cases this;exact M.keep b _ z|none=>exact(N (b,ob)<|Z2 _<|xX hb z e).1
  have B:=(N (D,_)<|a0l ..).1;rw[<- U]at B;have x:=pX (λi j=>HT.lexLt (o.getD i [])<|o.getD j []) (n:=ws.length) (by lia);have J:Vals ((dI (λi j=>HT.lexLt (o.getD i [])<|o.getD j []) ws.length).map λi=>ws.getD i .non) ((dI (λi j=>HT.lexLt (o.getD i [])<|o.getD j []) ws.length).map λi=>its.getD i a0T):=by
   have O:∀l:List Nat,(∀i∈l,i<ws.length)->Vals (l.map λi=>ws.getD i .non) (l.map λi=>its.getD i a0T):=λl=>by
    induction l with
    |nil=>intro _;exact .nil|cons i l ih=>
     intro hl;refine .cons ?_<|ih λj hj=>hl j<|Z2 _ hj;have hi:=hl i<|a0l ..;obtain⟨u,g1,g2⟩:=G.get<|ZT hi;have Z:ws.getD i .non=ws[i]:=by simp[a1I,hi]
     have e2:its.getD i a0T=u:=by simp[a1I,g1]
     show RelV (ws.getD i .non) (its.getD i a0T);rw[Z,e2];exact g2
   exact O _ λi hi=>by simpa using x.mem_iff.mp hi
  refine⟨.ref D,_,Qu (s:=s) (o:=.lst _) (t':=s.toks) I F.ns K M.ns T ⟨?_,_,_,J,B⟩,rfl,k D ?_⟩
  .rw[ZF,x.length_eq,a8X];exact hz
  .cases z:H D with
   |none=>rfl|some u=>obtain⟨ob,e⟩:=ED<|I.hok D u z;rw[T]at e;cases e
end L3
namespace L3
open PySem L2
noncomputable def CAt(K:ZD)(x:Str)(C:Addr):Prop:=a2O K a1b x=a7 (a7<|.ref C)
theorem CAt.eq{C:Addr}(h:CAt K x C)(h':CAt K x a):C=a:=by unfold CAt at h h';rw[h]at h';cases h';rfl
theorem z9:∀(us:List (Str×V))(fs:List (Str×D)),us.map (·.1)=fs.map (·.1)->IsDs K π n H (us.map (·.2)) (fs.map (·.2))->(fs.lookup k=b3->us.lookup k=b3)/\∀d,fs.lookup k=a7 d->∃v,us.lookup k=a7 v/\IsD K π n H v d
 |[],[],_,_=>⟨λ_=>rfl,λd h=>nomatch h⟩|[],_::_,e,_=>nomatch e|_::_,[],e,_=>nomatch e|(y,v)::us,(z,d)::fs,e,i=>by
  rw[ZR,ZR,a4G]at e;obtain⟨a,b⟩:=e;dsimp only at a;subst a;cases i with
  |cons j l=>
   obtain⟨c,g⟩:=z9 us fs b l;simp only[a2b];cases o:k==y with
   |true=>exact⟨λh=>(nomatch h),λm h=>by cases h;exact⟨v,rfl,j⟩⟩|false=>exact⟨c,g⟩
noncomputable def iO(f:Str)(v:D):List (Str×D)->List (Str×D)
 |[]=>[(f,v)]|(g,x)::r=>if g=f then(g,v)::r else(g,x)::iO f v r
theorem EH(a:IsD K π n H v d):∀us fs,us.map (·.1)=fs.map (·.1)->IsDs K π n H (us.map (·.2)) (fs.map (·.2))->
  (eU k v us).map (·.1)=(iO k d fs).map (·.1)/\IsDs K π n H ((eU k v us).map (·.2)) ((iO k d fs).map (·.2))
 |[],[],_,_=>⟨rfl,.cons a .nil⟩|[],_::_,e,_=>nomatch e|_::_,[],e,_=>nomatch e|(y,w)::us,(z,d')::fs,e,i=>by
  rw[ZR,ZR,a4G]at e;obtain⟨b,c⟩:=e;dsimp only at b;subst b;cases i with
  |cons l g=>
   obtain⟨h,j⟩:=EH a us fs c g;unfold eU iO;split
   .exact⟨by rw[ZR,ZR,c],.cons a g⟩
   .exact⟨by rw[ZR,ZR,h],.cons l j⟩
noncomputable def eX(x f:Str)(m:ME):ME:=λb μ=>(m b μ).bind λp=>match p.1 with
 |.loc a=>(match p.2[a]? with
  |some (.ins y fs)=>if y=x then(fs.lookup f).map λd=>(d,p.2)else b3
  |_=>b3)
 |_=>b3
noncomputable def l9(x f:Str)(c mv:ME):MS:=λb μ=>(mv b μ).bind λp=>(c b p.2).bind λq=>match q.1 with
 |.loc a=>(match q.2[a]? with
  |some (.ins y fs)=>if y=x/\fs.length<100 then a7 (.nx,b,q.2.set a<|.ins y<|iO f p.1 fs)else b3
  |_=>b3)
 |_=>b3
noncomputable def jI(x m:Str)(c:MF)(d:ME)(ms:MA):ME:=λb μ=>(d b μ).bind λp=>match p.1 with
 |.loc a=>(match p.2[a]? with
  |some (.ins y fs)=>if y=x/\fs.lookup m=b3 then(ms b p.2).bind λq=>c (.loc a::q.1) q.2 else b3
  |_=>b3)
 |_=>b3
noncomputable def mD(x:Str)(a:MF)(ms:MA):ME:=λb μ=>(ms b μ).bind λq=>(a (.loc q.2.length::q.1)<|q.2++[.ins x []]).bind λr=>match r.1 with
 |.non=>a7 (.loc q.2.length,r.2)|_=>b3
theorem Rp.insAt(R:Rp K π H μ){C:Addr}(h:μ[a]?=a7 (.ins x fs))(hc:CAt K x C):∃b vs,H (π a)=a7 (.ins C b vs)/\vs.map (·.1)=fs.map (·.1)/\IsDs K π μ.length H (vs.map (·.2)) (fs.map (·.2)):=by obtain⟨o,c,i,b,vs,rfl,d,e,g⟩:=R.ins a x fs h;obtain rfl:=CAt.eq hc d;exact⟨b,vs,c,e,g⟩
theorem Qz{C:Addr}(I:QE X o mo)(J:f9 o=b5)(hC:CAt X.K x C)(c:Cls X.K C)(N:NoAttr X.K C f):QE X (.Attribute o f pos) (eX x f mo):=
 ⟨dE (LW I.h<|kG J)<|by
  rintro σ H Q ⟨π,ρ,U,d,Y,R,E,l,M⟩;unfold eX at l;obtain⟨⟨d1,Z⟩,B,h⟩:=ZC.mp l;dsimp only at h;split at h
  .rename_i a;split at h
   .rename_i y fs K;split at h
    .rename_i b;subst b;obtain⟨d2,G,h⟩:=ZH.mp h;cases h;refine⟨π,ρ,U,_,_,R,E,B,λi v q s j L=>?_⟩;cases L;obtain⟨r,p,u,z,A⟩:=j.insAt K hC;obtain⟨w,O,T⟩:=(z9 p fs z A).2 _ G;exact⟨_,C,r,p,w,rfl,u,c,N,O,M i w q s j T⟩
    .cases h
   .cases h
  .cases h⟩
theorem QC{C:Addr}(Y:QE X o mo)(Z:QE X value mv)(U:jV value=b5)(hC:CAt X.K x C)(c:Cls X.K C)(na:NoAttr X.K C f):QS X (.Assign [.Attribute o f pos'] value pos) (l9 x f mo mv):=
 ⟨jS (LX Y.h Z.h<|uZ U)<|by
  rintro D σ H ⟨π,L,μ,fl,ρ',μ',R,E,I,kc⟩;unfold l9 at I;obtain⟨⟨d,b⟩,Q,h⟩:=ZC.mp I;obtain⟨⟨d2,r⟩,T,G⟩:=ZC.mp h;clear h;have h:=G;clear G;dsimp only at h;split at h
  .rename_i a;split at h
   .rename_i y fs K;split at h
    .rename_i q;obtain⟨rfl,hl⟩:=q;cases h;refine⟨π,L,μ,_,b,R,E,Q,λs v H1 l M i1=>⟨s,L,b,_,r,M,E.mono l,T,λu v2 H2 p R2 i2=>?_⟩⟩;cases i2;obtain⟨j,i,A,B,O⟩:=R2.insAt K hC;have J:i.length=fs.length:=by simpa using congrArg a0F B
     obtain⟨p1,p2⟩:=EH (k:=f) (i1.mono p) i fs B O;obtain⟨w,N⟩:=R2.putE (c:=.ins y (iO f d fs)) (o:=.ins C j (eU f v i)) (ZG.mp K).1 A ⟨λ_ z=>(nomatch z),λ_ _ z=>(nomatch z)⟩ ⟨C,j,_,rfl,hC,p1,p2⟩;exact⟨_,C,j,i,rfl,A,c,na,by lia,kc u _ _ ((l.trans p).trans w) N<|((E.mono l).mono p).mono w⟩
    .cases h
   .cases h
  .cases h⟩
theorem EI(l:f9 o=b5)(i:(apos.endLine == cpos.line)=b5)(c:args.all cU=b5)(j:args.length<30):eval (.Call (.Attribute o m apos) args [] cpos) env=(do
   let d <- eval o env
   a7y apos.atName
   let (f,first) <- holding [d] (a6Y d m<|do return (<- importBound o env).getD b5)
   b1x cpos f first (a1U cpos<|a0h args env) (a3C cpos<|a2v [] env)):=by
 have h:(a1U cpos<|a0h args env).all (fun x=>!x.1)=true:=by
  have:=jU (pos:=cpos) (env:=env) c
  rw [a7w]
  simpa using this
 have a:b1v (args.length+([]:List a3b).length) (a1U cpos<|a0h args env) (a3C cpos<|a2v [] env)=true:=by
  unfold b1v
  rw [h]
  simpa [a3C,a2v] using j
 have b:methodCallPos b5 o env apos cpos=pure cpos:=by unfold methodCallPos;simp [i]
 rw [arm_eval_Call,kG l]
 congr 1
 funext d
 congr 1
 funext _
 unfold methodCall
 rw [a]
 unfold calleeOf
 simp only [if_true]
 congr 1
 funext p
 rw [b]
 rfl
theorem EJ{C:Addr}(hC:CAt K x C)(U:∀i μ ds μ',ms i μ=a7 (ds,μ')->ds.length=n):∀σ H Q,tM K (jI x m fm mo ms) σ H Q->yO C m (eW K (n+1) fm) [] E (tM K mo) (tMA K ms) σ H Q:=by
 rintro σ H Q ⟨π,i,μ,d,μ',R,E,z,kc⟩;unfold jI at z;obtain⟨⟨d1,b⟩,O,h⟩:=ZC.mp z;dsimp only at h;split at h
 .rename_i a;split at h
  .rename_i y fs Y;split at h
   .rename_i l;obtain⟨rfl,j⟩:=l;obtain⟨⟨p,c⟩,A,h⟩:=ZC.mp h;refine⟨π,i,μ,_,b,R,E,O,λq v H1 u s Z=>?_⟩;cases Z;rename_i T;obtain⟨J,G,L,M,N⟩:=s.insAt Y hC;refine⟨_,J,G,rfl,L,(z9 G fs M N).1 j,q,i,b,p,c,s,E.mono u,A,λr ws I w R2 B=>?_⟩;show eW K (n+1) fm (_::(ws++[])) I Q _;rw[a0p];refine⟨by rw[Z8,B.length,U i b p c A],r,.loc a::p,c,d,μ',R2,.cons ((IsD.loc T).mono w) B,h,kc.after<|u.trans w⟩
   .cases h
  .cases h
 .cases h
theorem QD{C:Addr}(p:QE X o mo)(r:f9 o=b5)(i:(apos.endLine==cpos.line)=b5)(hC:CAt X.K x C)(c:Cls X.K C)(j:Meth X.K C m g)(F:FnOk X.prog X.w X.K X.mg X.base eV k g fd ps (eW X.K (n+1) fm))(q:Room k X.A)(h:Binds X.K fd ps [])(b:QA X (e::d) ms n)(l:(e::d).length<30):
  QE X (.Call (.Attribute o m apos) (e::d) [] cpos) (jI x m fm mo ms):=by
 have a:=b.s;rw[a0u,ZL]at a;exact⟨dE (Mb p.h c j F q h .nil (E:=E0) rH b.h (fD a.1) (jU a.2)<|EI r i b.s l)<|EJ hC b.l⟩
theorem QF{C:Addr}(I:QE X o mo)(K:f9 o=b5)(B:(apos.endLine==cpos.line)=b5)(hC:CAt X.K x C)(c:Cls X.K C)(G:Meth X.K C m g)(F:FnOk X.prog X.w X.K X.mg X.base eV k g fd ps (eW X.K 1 fm))(J:Room k X.A)(z:Binds X.K fd ps []):
  QE X (.Call (.Attribute o m apos) [] [] cpos) (jI x m fm mo aD):=
 ⟨dE (Mc I.h c G F J z .nil (E:=E0) rH<|EI K B rfl<|by decide) λσ H Q h=>by
  obtain⟨Y,Z,O,d,i,R,E,w,N⟩:=EJ (n:=0) (E:=E0) hC DE σ H Q h;refine⟨Y,Z,O,d,i,R,E,w,λj v p s q L=>?_⟩;obtain⟨a,r,fs,u,A,b,l,ρ2,T,xs,U,R2,E2,y,M⟩:=N j v p s q L;cases y;exact⟨a,r,fs,u,A,b,M l [] p .refl R2 .nil⟩⟩
theorem QH{C:Addr}(hC:CAt K x C)(U:∀i μ ds μ',ms i μ=a7 (ds,μ')->ds.length=n):∀σ H Q,tM K (mD x fm ms) σ H Q->C6 C (eW K (n+1) fm) [] E (tMA K ms) σ H Q:=by
 rintro σ H Q ⟨π,i,μ,d,μ',R,E,A,kc⟩;unfold mD at A;obtain⟨⟨s,a⟩,B,h⟩:=ZC.mp A;obtain⟨⟨d2,μ2⟩,G,h⟩:=ZC.mp h;dsimp only at h G;split at h
 .cases h;refine⟨π,i,μ,s,a,R,E,B,λb ws J T M I p c Y hd l=>?_⟩;obtain⟨w,R2⟩:=M.fresh (o:=.own p) hd;obtain⟨y,N,p3⟩:=R2.alloc (p:=p) (c:=.ins x []) (o:=.ins C c []) (by rw[bN<|a0o l];exact Y) ⟨C,c,[],rfl,hC,rfl,.nil⟩;show eW K (n+1) fm (_::(ws++[])) _ _ _;rw[a0p];have j:a.length<(a++[L3.C.ins x []]).length:=by rw[ZO];exact a1C _
  have q:IsD K (hV b a.length p) (a++[L3.C.ins x []]).length (aP (aP J c<|.own p) p<|.ins C c []) (V.ref<|hV b a.length p a.length) (.loc a.length):=IsD.loc j;rw[p3]at q;refine⟨by rw[Z8,I.length,U i μ s a B],_,.loc a.length::s,_,.non,_,N,.cons q<|(I.mono w).mono y,G,λu v L z O Z=>?_⟩;cases Z;have r:=q.mono z;exact⟨rfl,kc u _ L (((T.trans w).trans y).trans z) O r⟩
 .cases h
theorem QK{C:Addr}(M:Mk X.K C g)(hC:CAt X.K x C)(F:FnOk X.prog X.w X.K X.mg X.base eV k g fd ps (eW X.K (n+1) fm))(r:Room (k+1) X.A)(q:Gl X x)(l:Binds X.K fd ps [])(c:QA X (e::i) ms n)(d:(x==("__debug__":Str))=b4):
  QE X (.Call (.Name x p) (e::i) [] pos) (mD x fm ms):=by
 have a:=c.s;rw[a0u,ZL]at a;refine⟨λb s j H Q I h=>?_⟩;exact Me M F r q (a5o I.mod.kin I.mod.glob hC) l .nil (E:=E0) rH c.h d (fD a.1) (jU a.2) b s j H Q I<|QH hC c.l j H Q h
theorem QL(h:∀b μ,m b μ=b3):QE X e m:=⟨λb1C s σ H Q I t=>by
 obtain⟨i,b,μ,d,c,R,E,a,g⟩:=t;rw[h]at a;cases a⟩
end L3
namespace L3
open PySem PySem.Spec
namespace Tb
noncomputable abbrev IsT(prog:a0j)(w:a0E)(h:a1d)(k:List Int)(b:Addr):Prop:=IsTupleKey (a4z prog w) h k b
noncomputable abbrev gI(a:Bool):Obj:={cls:=.type "set",dict:=b3,data:=.set #[] 0<|.fresh 0 0 a}
end Tb
end L3
namespace L3
open PySem L2
open PyProof.Rows (IntsAre)
noncomputable def rV:List D->Option (List<|List Int)
 |[]=>a7 []|x::r=>(dN x).bind λk=>(rV r).map (k::·)
theorem Aa:∀{ds}{k},n6 ds=a7 k->ds=k.map D.int
 |[],k,h=>by cases h;rfl
 |d::ds,k,h=>by
  cases d with
  |int i=>obtain⟨c,a,b⟩:=ZH.mp h;subst b;rw[Aa a];rfl|_=>cases h
theorem EK(h:dN x=a7 k):x=.tup (k.map D.int):=by
 cases x with
 |tup ds=>rw[Aa h]|_=>cases h
theorem EL:∀{xs}{ks},rV xs=a7 ks->xs=ks.map λk=>D.tup<|k.map D.int
 |[],ks,h=>by cases h;rfl
 |x::xs,ks,h=>by obtain⟨k,a,h⟩:=ZC.mp h;obtain⟨d,b,c⟩:=ZH.mp h;subst c;rw[EK a,EL b];rfl
noncomputable def eH(μ:Hm):D->Option (List D)
 |.rol xs=>a7 xs|.loc a=>match μ[a]? with
  |some (.lst xs)=>a7 xs|_=>b3
 |_=>b3
theorem mE(R:Rp K π H μ)(h:IsD K π μ.length H v x)(e:eH μ x=a7 xs):∃p vs,v=.ref p/\SqL K H p vs/\IsDs K π μ.length H vs xs:=by
 cases h with
 |rol q t=>cases e;exact⟨_,_,rfl,q.sq,t⟩|@loc a g=>
  simp only[eH]at e;split at e
  .rename_i i d;cases e;obtain⟨vs,b,c⟩:=R.lst a xs d;exact⟨_,vs,rfl,.of b,c⟩
  .cases e
 |_=>cases e
theorem ints_of':∀{vs}{k:List Int},IsDs K π n H vs (k.map D.int)->vs=k.map V.int
 |_,[],h=>by cases h;rfl
 |_,i::k,h=>by
  cases h with
  |cons h t=>cases h;rw[ints_of' t];rfl
theorem Ab:∀(k:List Int),IsDs K π n H (k.map V.int) (k.map D.int)
 |[]=>.nil|i::k=>.cons (.int i)<|Ab k
theorem EM{X:Cx}:∀{k}{xs},Vals (k.map V.int) xs->ItemsAre (a4z X.prog X.w) k xs
 |[],_,h=>by cases h;exact .nil
 |i::k,_,h=>by
  cases h with
  |cons h t=>obtain⟨a,rfl⟩:=h;exact .cons (intKind_is _ _ _ _)<|EM t
theorem mF{σ:St}(I:Inv X b1C σ H s)(h:SqT X.K H b (k.map V.int)):Tb.IsT X.prog X.w s.heap k b:=by obtain⟨i,g,⟨a,e,c,n,d⟩,_⟩:=I.tuple h;exact⟨a,i.toArray,n,e,c,d,by simpa using EM g⟩
theorem call_lenT:CallR X (.builtin "len") (λxs H Q=>∃a L,xs=[V.ref a]/\H a=a7 (uK a L)/\Q (.int L.length) H):=by
 intro b1C s σ H xs z Q I r h;obtain⟨a,L,rfl,e,q⟩:=h;obtain⟨u,rfl,x⟩:=fP r;cases x;obtain⟨⟨o,n,w,d,y,t,R,c,hd,g,ok,p,m,k,i,v,j⟩,_,_⟩:=I.hok a _ e;have b:d.size=L.length:=by have:=p.length_eq;simpa using this
 have l:t.mask<=511:=by rcases k with h|h|h|h<;>lia
 refine call_len_set n c hd (Tb.fits_of ok g) (by rw[b];lia) ?_;rw[b];exact⟨.int L.length,H,I.tok _,⟨_,rfl⟩,q⟩
end L3
namespace L3
open PySem L2
noncomputable def Ac(ks:List (List Int)):Nat->Nat->Bool:=λi j=>HT.lexLt (ks.getD i [])<|ks.getD j []
noncomputable def rW:MF:=λds μ=>match ds with
 |[x]=>(eH μ x).bind λb=>(rV b).bind λa=>if 1<=a.length/\a.length<64/\∀t∈a,t≠[]then a7 (.loc μ.length,μ++[.lst<|(dI (Ac a) a.length).map λi=>b.getD i .non])else b3|_=>b3
theorem EO:∀{vs}{ks},IsDs K π n H vs (ks.map λk=>D.tup<|k.map D.int)->TupsV K H vs ks
 |_,[],h=>by cases h;exact .nil
 |_,k::ks,h=>by
  cases h with
  |cons h t=>
   cases h with
   |@tup p vs ds a hd=>have:=ints_of' hd;subst this;exact .cons ⟨p,rfl,a⟩<|EO t
theorem ER:∀{vs}{xs}i,IsDs K π n H vs xs->IsD K π n H (vs.getD i .non) (xs.getD i .non)
 |_,_,i,.nil=>by simp;exact .non
 |_,_,0,.cons h _=>h|_,_,i+1,.cons _ t=>by simpa using ER i t
theorem ES(h:IsDs K π n H vs xs):∀(l:List Nat),IsDs K π n H (l.map λi=>vs.getD i .non) (l.map λi=>xs.getD i .non)
 |[]=>.nil|i::l=>.cons (ER i h)<|ES h l
theorem QM:dS K rW (z8 K):=by
 intro y H x w d u v Q R i a k;unfold rW at a;split at a
 .obtain⟨s,m,a⟩:=ZC.mp a;obtain⟨c,n,a⟩:=ZC.mp a;split at a
  .rename_i o;cases a;cases i with
   |cons i t=>
    cases t;obtain⟨p,e,rfl,q,hd⟩:=mE R i m;have b:=hd;rw[EL n]at b;have r:e.length=c.length:=by have:=b.length;rw[ZF]at this;exact this
    refine⟨p,e,c,rfl,q,EO b,by lia,by lia,o.2.2,λl g=>?_⟩;obtain⟨h,R2,_⟩:=R.alloc (c:=.lst ((dI (Ac c) c.length).map λi=>s.getD i .non)) (o:=.lst ((dI (λi j=>HT.lexLt (c.getD i [])<|c.getD j []) e.length).map λi=>e.getD i .non)) g<|by
     show IsDs _ _ _ _ _ _;rw[r];exact ES hd _
    exact k _ _ _ h R2 jC
  .cases a
 .cases a
open PyProof.Rows (IntsAre Fr News seqObj)
theorem oA:∀a,HT.lexLt a a=b4
 |[]=>rfl|x::a=>by rw[HT.lexLt_cons,if_pos rfl];exact oA a
theorem oB:∀{a b c},HT.lexLt a b=b5->HT.lexLt b c=b5->HT.lexLt a c=b5
 |_,[],[],_,h=>absurd h (by intro z;cases z)|_,_::_,[],_,h=>absurd h (by intro z;cases z)|[],_,_::_,_,_=>rfl|_::_,[],_::_,h,_=>absurd h (by intro z;cases z)|x::a,y::b,z::c,h1,h2=>by
  rw[HT.lexLt_cons]at h1 h2 ⊢;by_cases e:x=y
  .subst e;rw[if_pos rfl]at h1;by_cases d:x=z
   .subst d;rw[if_pos rfl]at h2 ⊢;exact oB h1 h2
   .rw[if_neg d]at h2 ⊢;exact h2
  .rw[if_neg e]at h1;by_cases d:y=z
   .subst d;rw[if_neg e];exact h1
   .rw[if_neg d]at h2;rw[decide_eq_true_eq]at h1 h2;rw[if_neg<|by lia,decide_eq_true_eq];lia
end L3
namespace L3
open PySem
open PySem.W (KasT kas_asc kas_desc kas_tail3 kas_descPart kas_count kas_place kas_bin kas_sort kas_rev)
open PyProof.Rows (mirror bubble getElem?_bubble getElem?_mirror_all mirror_size bubble_size)
theorem pY{f:b->b0D c}:∀t,bD ans (t.bind f)=bD ans (f<|bD ans t)
 |.ret a=>rfl|.ask i j k=>by show bD ans ((k<|ans i j).bind f)=_;rw[pY];rfl
section
variable{ans:Nat->Nat->Bool}{κ:Nat->Nat}(hk:∀i j,ans i j=decide (κ i<κ j))
noncomputable def gK(κ:Nat->Nat)(p:Array Nat)(k:Nat):Nat:=κ<|p.getD k 0
theorem rX{p q:Array Nat}(h:p[k]?=q[m]?):p.getD k 0=q.getD m 0:=by
 have e:∀(a:Array Nat)(i:Nat),a.getD i 0=(a[i]?).getD 0:=λa i=>by
  by_cases hi:i<a.size
  .simp[a4p,hi]
  .simp[a4p,hi]
 rw[e,e,h]
theorem oC(a:j<=p.size)k:gK κ (a2A p i j) k=if i<=k/\k<j then gK κ p (i+j-1-k)else gK κ p k:=by
 have h:=getElem?_mirror_all (i:=i) a k;by_cases c:i<=k/\k<j
 .rw[if_pos c]at h ⊢;exact congrArg κ<|rX h
 .rw[if_neg c]at h ⊢;exact congrArg κ<|rX h
theorem ET(a:s<p.size)(hd:d<=s)k:gK κ (bubble p s d) k=if k=s-d then gK κ p s else if s-d<k/\k<=s then gK κ p (k-1)else gK κ p k:=by
 have h:=getElem?_bubble a d hd k;by_cases c:k=s-d
 .rw[if_pos c]at h ⊢;exact congrArg κ<|rX h
 .rw[if_neg c]at h ⊢;by_cases c2:s-d<k/\k<=s
  .rw[if_pos c2]at h ⊢;exact congrArg κ<|rX h
  .rw[if_neg c2]at h ⊢;exact congrArg κ<|rX h
theorem rY p i j:(a2A p i j).size=p.size:=mirror_size _ _ _ _
noncomputable def kH(κ:Nat->Nat)(p:Array Nat)(m:Nat):Prop:=∀i j,i<=j->j<m->gK κ p i<=gK κ p j
include hk in
theorem Ad(p:Array Nat):∀(f m:Nat),m<=bD ans (a2B p f m)/\bD ans (a2B p f m)<=m+f/\(∀j,m<=j->j<bD ans (a2B p f m)->gK κ p (j-1)<=gK κ p j) /\
  (bD ans (a2B p f m)<m+f->gK κ p (bD ans<|a2B p f m)<gK κ p (bD ans (a2B p f m)-1))
 |0,m=>⟨ZN _,ZN _,λj b a=>absurd (show j<m from a)<|by lia,λh=>absurd (show m<m+0 from h)<|by lia⟩|f+1,m=>by
  have e:bD ans (a2B p (f+1) m)=if ans (p.getD m 0) (p.getD (m-1) 0)=b5 then m else bD ans (a2B p f<|m+1):=by show bD ans (if ans (p.getD m 0) (p.getD (m-1) 0)=b5 then a2C m else a2B p f (m+1))=_;split<;>rfl
  rw[e,hk];by_cases h:κ (p.getD m 0)<κ (p.getD (m-1) 0)
  .rw[if_pos<|by simpa using h];exact⟨ZN _,by lia,λj b a=>absurd a<|by lia,λ_=>h⟩
  .rw[if_neg<|by simpa using h];obtain⟨k,l,d,g⟩:=Ad p f<|m+1;refine⟨by lia,by lia,λj b a=>?_,λa=>g<|by lia⟩;by_cases c:j=m
   .subst c;exact a2F.mp h
   .exact d j (by lia) a
theorem EU(h:∀j,1<=j->j<m->gK κ p (j-1)<=gK κ p j):kH κ p m:=by
 intro i j a b;induction j with
 |zero=>
  have:i=0:=by lia
  subst this;exact ZN _
 |succ j c=>
  by_cases e:i=j+1
  .subst e;exact ZN _
  .exact a0A (c (by lia)<|by lia)<|h (j+1) (by lia) b
structure Falls(κ:Nat->Nat)(p:Array Nat)(n q:Nat):Prop where
 fall:∀i j,i<=j->j<n->gK κ p j<=gK κ p i
 alike:∀k,n-1-q<=k->k<n->gK κ p k=gK κ p (n-1)
 qn:q<n
theorem Falls.rev(F:Falls κ p n q)(a:n<=p.size):∀k,gK κ (a2A p (n-(q+1)) n) k=gK κ p k:=λk=>by
 rw[oC a];split
 .rename_i c;have:=F.qn;rw[F.alike (n-(q+1)+n-1-k) (by lia)<|by lia,F.alike k (by lia) c.2]
 .rfl
theorem Falls.same(F:Falls κ p n q)(h:∀k,gK κ c k=gK κ p k):Falls κ c n q:=
 ⟨λi j a b=>by rw[h,h];exact F.fall i j a b,λk a b=>by rw[h,h];exact F.alike k a b,F.qn⟩
include hk in
theorem vB:∀(f:Nat)(p:Array Nat)(n q:Nat),1<=n->n+f<=p.size->Falls κ p n q->
  ∃a b g,bD ans (a2h f p n q)=(a,b,g)/\a.size=p.size/\n<=b/\b<=n+f/\Falls κ a b g
 |0,p,n,q,_,_,F=>⟨p,n,q,rfl,rfl,ZN _,ZN _,F⟩|f+1,p,n,q,h1,hs,F=>by
  have H:=F.qn;by_cases h:κ (p.getD n 0)<κ (p.getD (n-1) 0)
  .have K:gK κ p n<gK κ p (n-1):=h;have c:∀a:Array Nat,(∀k,gK κ a k=gK κ p k)->Falls κ a (n+1) 0:=λa w=>⟨λi j hi E=>by
     rw[w,w];by_cases e:j=n
     .subst j;by_cases A:i=n
      .subst i;exact ZN _
      .have:=F.fall i (n-1) (by lia) (by lia);lia
     .exact F.fall i j hi<|by lia,λk u v=>by
     have:k=n:=by lia
     subst this;simp,by lia⟩
   by_cases x:q>0
   .have e:bD ans (a2h (f+1) p n q)=bD ans (a2h f (a2A p (n-(q+1)) n) (n+1) 0):=by show bD ans (if ans (p.getD n 0) (p.getD (n-1) 0)=b5 then(if q>0 then a2h f (a2A p (n-(q+1)) n) (n+1) 0 else a2h f p (n+1) 0)else _)=_;rw[hk,if_pos<|by simpa using h,if_pos x]
    obtain⟨a,b,g,m,o,y,z,r⟩:=vB f (a2A p (n-(q+1)) n) (n+1) 0 (by lia) (by rw[rY];lia) (c _<|F.rev<|by lia);exact⟨a,b,g,e.trans m,o.trans<|rY _ _ _,by lia,by lia,r⟩
   .have e:bD ans (a2h (f+1) p n q)=bD ans (a2h f p (n+1) 0):=by show bD ans (if ans (p.getD n 0) (p.getD (n-1) 0)=b5 then(if q>0 then a2h f (a2A p (n-(q+1)) n) (n+1) 0 else a2h f p (n+1) 0)else _)=_;rw[hk,if_pos<|by simpa using h,if_neg x]
    obtain⟨a,b,g,m,o,y,z,r⟩:=vB f p (n+1) 0 (by lia) (by lia)<|c p λ_=>rfl;exact⟨a,b,g,e.trans m,o,by lia,by lia,r⟩
  .by_cases s:κ (p.getD (n-1) 0)<κ (p.getD n 0)
   .have e:bD ans (a2h (f+1) p n q)=(p,n,q):=by show bD ans (if ans (p.getD n 0) (p.getD (n-1) 0)=b5 then _ else a5s (p.getD (n-1) 0) (p.getD n 0) λd=>if d=b5 then a2C (p,n,q)else a2h f p (n+1) (q+1))=_;rw[hk,if_neg<|by simpa using h];show bD ans (if ans (p.getD (n-1) 0) (p.getD n 0)=b5 then a2C (p,n,q)else a2h f p (n+1) (q+1))=_;rw[hk,if_pos<|by simpa using s];rfl
    exact⟨p,n,q,e,rfl,ZN _,by lia,F⟩
   .have e:bD ans (a2h (f+1) p n q)=bD ans (a2h f p (n+1)<|q+1):=by show bD ans (if ans (p.getD n 0) (p.getD (n-1) 0)=b5 then _ else a5s (p.getD (n-1) 0) (p.getD n 0) λd=>if d=b5 then a2C (p,n,q)else a2h f p (n+1) (q+1))=_;rw[hk,if_neg<|by simpa using h];show bD ans (if ans (p.getD (n-1) 0) (p.getD n 0)=b5 then a2C (p,n,q)else a2h f p (n+1) (q+1))=_;rw[hk,if_neg<|by simpa using s]
    have l:gK κ p n=gK κ p (n-1):=by have I:¬ gK κ p n<gK κ p (n-1):=h;have J:¬ gK κ p (n-1)<gK κ p n:=s;lia
    have G:Falls κ p (n+1) (q+1):=⟨λi j hi E=>by
      by_cases e:j=n
      .subst j;by_cases A:i=n
       .subst i;exact ZN _
       .rw[l];exact F.fall i (n-1) (by lia)<|by lia
      .exact F.fall i j hi<|by lia,λk u v=>by
      have B:n+1-1=n:=by lia
      rw[B];by_cases e:k=n
      .rw[e]
      .rw[l];exact F.alike k (by lia)<|by lia,by lia⟩
    obtain⟨a,b,g,m,o,y,z,r⟩:=vB f p (n+1) (q+1) (by lia) (by lia) G;exact⟨a,b,g,e.trans m,o,by lia,by lia,r⟩
include hk in
theorem EV{p:Array Nat}{n N q:Nat}(d:1<=n)(r:n<=N)(k:p.size=N)(F:Falls κ p n q) :
  ∃m c,bD ans (a4F n N p)=(m,c)/\c.size=N/\1<=m/\m<=N/\kH κ c m:=by
 have up:∀j,1<=j->j<n->gK κ (a2A p 0 n) (j-1)<=gK κ (a2A p 0 n) j:=λj a b=>by rw[oC<|by lia,oC<|by lia,if_pos ⟨by lia,by lia⟩,if_pos ⟨by lia,by lia⟩];exact F.fall _ _ (by lia)<|by lia
 obtain⟨l,o,e,_⟩:=Ad hk (a2A p 0 n) (N-n) n;refine⟨bD ans<|a2B (a2A p 0 n) (N-n) n,a2A p 0 n,?_,by rw[rY,k],?_,?_,EU λj d g=>?_⟩
 .unfold a4F;rw[pY];rfl
 .lia
 .lia
 .by_cases h:j<n
  .exact up j d h
  .exact e j (by lia) g
include hk in
theorem EW{p:Array Nat}{n N:Nat}(v:1<=n)(x:n<N)(l:p.size=N)(c:∀i j,i<=j->j<n->gK κ p j<=gK κ p i)(r:gK κ p n<gK κ p (n-1)) :
  ∃m d,bD ans (a3a n N p)=(m,d)/\d.size=N/\1<=m/\m<=N/\kH κ d m:=by
 have F:Falls κ p (n+1) 0:=⟨λi j hi w=>by
   by_cases e:j=n
   .subst j;by_cases u:i=n
    .subst i;exact ZN _
    .have:=c i (n-1) (by lia) (by lia);lia
   .exact c i j hi<|by lia,λk a b=>by
   have:k=n:=by lia
   subst this;simp,by lia⟩
 obtain⟨d,g,o,s,q,y,z,h⟩:=vB hk (N-(n+1)) p (n+1) 0 (by lia) (by lia) F;have e:bD ans (a3a n N p)=bD ans (if o>0 then a4F g N (a2A d (g-(o+1)) g)else a4F g N d):=by unfold a3a;rw[pY,s]
 rw[e];split
 .exact EV hk (by lia) (by lia) (by rw[rY,q,l])<|h.same<|h.rev<|by lia
 .exact EV hk (by lia) (by lia) (q.trans l) h
include hk in
theorem QN{p:Array Nat}{N:Nat}(x:1<=N)(l:p.size=N):∃m d,bD ans (a8x N p)=(m,d)/\d.size=N/\1<=m/\m<=N/\kH κ d m:=by
 obtain⟨g,v,q,r⟩:=Ad hk p (N-1) 1;have e:bD ans (a8x N p)=bD ans (if(bD ans (a2B p (N-1) 1)==N)=b5 then a2C (bD ans<|a2B p (N-1) 1,p)else if bD ans (a2B p (N-1) 1)>1 then a5s (p.getD 0 0) (p.getD (bD ans (a2B p (N-1) 1)-1) 0) (λc=>if c=b5 then a2C (bD ans<|a2B p (N-1) 1,p)else a3a (bD ans<|a2B p (N-1) 1) N (a2A p 0<|bD ans<|a2B p (N-1) 1))else a3a (bD ans<|a2B p (N-1) 1) N p):=by unfold a8x;rw[pY]
 rw[e];generalize bD ans (a2B p (N-1) 1)=n at *;have up:=EU (κ:=κ) (p:=p) (m:=n) q;split
 .exact⟨n,p,rfl,l,g,by lia,up⟩
 .rename_i b;have b:n≠N:=by simpa using b
  have a:=r (by lia);split
  .rename_i s;show ∃m d,bD ans (if ans (p.getD 0 0) (p.getD (n-1) 0)=b5 then a2C (n,p)else a3a n N (a2A p 0 n))=(m,d)/\_;rw[hk];by_cases h:κ (p.getD 0 0)<κ (p.getD (n-1) 0)
   .rw[if_pos<|by simpa using h];exact⟨n,p,rfl,l,g,by lia,up⟩
   .rw[if_neg<|by simpa using h];have w:¬ gK κ p 0<gK κ p (n-1):=h;have all:∀k,k<n->gK κ p k=gK κ p 0:=λk o=>by have y:=up 0 k (a0I _) o;have z:=up k (n-1) (by lia) (by lia);lia
    refine EW hk g (by lia) (by rw[rY,l]) (λi j hi u=>?_) ?_
    .rw[oC<|by lia,oC<|by lia,if_pos ⟨by lia,by lia⟩,if_pos ⟨by lia,by lia⟩,all (0+n-1-j)<|by lia,all (0+n-1-i)<|by lia];exact ZN _
    .rw[oC<|by lia,oC<|by lia,if_neg<|by lia,if_pos ⟨by lia,by lia⟩,all (0+n-1-(n-1))<|by lia,<- all (n-1)<|by lia];exact a
  .rename_i s;refine EW hk g (by lia) l (λi j hi u=>?_) a;have:i=j:=by lia
   subst this;exact ZN _
include hk in
theorem Ae{p:Array Nat}{k:Nat}(S:kH κ p k):∀(f l r:Nat),r-l<=f->l<=r->r<=k->(∀j,j<l->gK κ p j<=gK κ p k)->(∀j,r<=j->j<k->gK κ p k<gK κ p j)->
  bD ans (a1E p k f l r)<=k/\(∀j,j<bD ans (a1E p k f l r)->gK κ p j<=gK κ p k)/\∀j,bD ans (a1E p k f l r)<=j->j<k->gK κ p k<gK κ p j
 |0,l,r,h1,h2,h3,lo,hi=>by
  have:l=r:=by lia
  subst this;exact⟨h3,lo,hi⟩
 |f+1,l,r,h1,h2,h3,lo,hi=>by
  by_cases h:l >= r
  .have e:bD ans (a1E p k (f+1) l r)=l:=by show bD ans (if l >= r then a2C l else _)=_;rw[if_pos h];rfl
   have:l=r:=by lia
   subst this;rw[e];exact⟨h3,lo,hi⟩
  .by_cases c:κ (p.getD k 0)<κ (p.getD ((l+r)/2) 0)
   .have e:bD ans (a1E p k (f+1) l r)=bD ans (a1E p k f l<|(l+r)/2):=by show bD ans (if l >= r then a2C l else a5s (p.getD k 0) (p.getD ((l+r)/2) 0) λc=>if c=b5 then a1E p k f l ((l+r)/2)else a1E p k f ((l+r)/2+1) r)=_;rw[if_neg h];show bD ans (if ans (p.getD k 0) (p.getD ((l+r)/2) 0)=b5 then a1E p k f l ((l+r)/2)else a1E p k f ((l+r)/2+1) r)=_;rw[hk,if_pos<|by simpa using c]
    rw[e];refine Ae S f l ((l+r)/2) (by lia) (by lia) (by lia) lo λj b a=>?_;have:=S ((l+r)/2) j b a;have d:gK κ p k<gK κ p ((l+r)/2):=c;lia
   .have e:bD ans (a1E p k (f+1) l r)=bD ans (a1E p k f ((l+r)/2+1) r):=by show bD ans (if l >= r then a2C l else a5s (p.getD k 0) (p.getD ((l+r)/2) 0) λc=>if c=b5 then a1E p k f l ((l+r)/2)else a1E p k f ((l+r)/2+1) r)=_;rw[if_neg h];show bD ans (if ans (p.getD k 0) (p.getD ((l+r)/2) 0)=b5 then a1E p k f l ((l+r)/2)else a1E p k f ((l+r)/2+1) r)=_;rw[hk,if_neg<|by simpa using c]
    rw[e];refine Ae S f ((l+r)/2+1) r (by lia) (by lia) h3 (λj b=>?_) hi;have d:¬ gK κ p k<gK κ p ((l+r)/2):=c;have:=S j ((l+r)/2) (by lia) (by lia);lia
theorem QR(a:k<p.size)(d:l<=k)(S:kH κ p k)(lo:∀j,j<l->gK κ p j<=gK κ p k)(hi:∀j,l<=j->j<k->gK κ p k<gK κ p j):kH κ (bubble p k<|k-l) (k+1):=by
 intro i j b c
 rw[ET a<|by lia,ET a<|by lia]
 have e:k-(k-l)=l:=by lia
 rw[e]
 repeat' split
 all_goals first
  |exact ZN _
  |(exfalso;lia)
  |(exact a4l<|hi _ (by lia)<|by lia)
  |(exact lo _<|by lia)
  |(exact S _ _ (by lia)<|by lia)
include hk in
theorem EX{N:Nat}:∀(f:Nat)(p:Array Nat)(k:Nat),p.size=N->k+f=N->kH κ p k->kH κ (bD ans<|a6H f p k) N
 |0,p,k,hs,h,S=>by
  have:k=N:=by lia
  subst this;exact S
 |f+1,p,k,hs,h,S=>by
  have e:bD ans (a6H (f+1) p k)=bD ans (a6H f (bubble p k<|k-bD ans (a1E p k k 0 k))<|k+1):=by show bD ans ((a1E p k k 0 k).bind λl=>a6H f (bubble p k<|k-l)<|k+1)=_;rw[pY]
  rw[e];obtain⟨a,b,c⟩:=Ae hk S k 0 k (by lia) (by lia) (ZN _) (λj g=>absurd g<|by lia) (λj m d=>absurd d<|by lia);exact EX f _ (k+1) (by rw[bubble_size,hs]) (by lia)<|QR (by lia) a S b c
include hk in
theorem QU{N:Nat}(c:1<=N):kH κ (bD ans<|a6G N) N:=by
 obtain⟨m,a,e,g,d,h,S⟩:=QN hk (p:=(a0L N).toArray) c (by simp);have b:bD ans (a6G N)=bD ans (if m<N then a6H (N-max m 1) a (max m 1)else a2C a):=by unfold a6G;rw[pY,e]
 rw[b];split
 .have:max m 1=m:=by lia
  rw[this];exact EX hk (N-m) a m g (by lia) S
 .have:m=N:=by lia
  subst this;exact S
end
section
variable{α:Type}{lt:α->α->Bool}(irr:∀a,lt a a=b4)(tr:∀a b c,lt a b=b5->lt b c=b5->lt a c=b5)(nt:∀a b c,lt a b=b5->lt a c=b5\/lt c b=b5)
theorem Af:∀{l:List α},(∀a∈l,p a=b5->q a=b5)->l.countP p<=l.countP q
 |[],_=>ZN _|a::l,h=>by have i:=Af (l:=l) λb d=>h b<|Z2 _ d;rw[a4P,a4P];have:=h a<|a0l ..;cases e:p a<;>cases g:q a<;>simp_all<;>lia
theorem EY:∀{l:List α}{b},(∀a∈l,p a=b5->q a=b5)->b∈l->p b=b4->q b=b5->l.countP p<l.countP q
 |a::l,b,h,d,h1,h2=>by
  rw[a4P,a4P];have e:=Af (l:=l) λc hc=>h c<|Z2 _ hc;rcases a0g.mp d with rfl|d
  .simp only[h1,h2,Z5,if_false,if_true];lia
  .have j:=EY (l:=l) (λc hc=>h c<|Z2 _ hc) d h1 h2;have:=h a<|a0l ..;cases g:p a<;>cases i:q a<;>simp_all<;>lia
include irr tr nt in
theorem QV{l:List α}{a b:α}(d:a∈l):lt a b=decide (l.countP (λc=>lt c a)<l.countP λc=>lt c b):=by
 cases h:lt a b with
 |true=>have:=EY (p:=λc=>lt c a) (q:=λc=>lt c b) (l:=l) (λc _ hc=>tr _ _ _ hc h) d (irr a) h;simpa using this|false=>
  have:=Af (p:=λc=>lt c b) (q:=λc=>lt c a) (l:=l) λc _ hc=>by
   rcases nt c b a hc with z|z
   .exact z
   .rw[h]at z;cases z
  simpa using this
include irr tr nt in
theorem EZ(d:α)(xs:List α){n:Nat}(l:1<=n):(dI (λi j=>lt (xs.getD i d)<|xs.getD j d) n).Pairwise λi j=>lt (xs.getD j d) (xs.getD i d)=false:=by
 have g:∀i j,lt (xs.getD i d) (xs.getD j d)=decide ((d::xs).countP (λc=>lt c<|xs.getD i d)<(d::xs).countP λc=>lt c<|xs.getD j d):=λi j=>by
  refine QV irr tr nt ?_;by_cases hi:i<xs.length
  .have:xs.getD i d=xs[i]:=by simp[a1I,hi]
   rw[this];exact Z2 _<|a2L hi
  .have:xs.getD i d=d:=by simp[a1I,a1H<|a2F.mp hi]
   rw[this];exact a0l ..
 have S:=QU (κ:=λi=>(d::xs).countP λc=>lt c<|xs.getD i d) g l (N:=n);have p:=pX (λi j=>lt (xs.getD i d)<|xs.getD j d) (n:=n) l;have q:(dI (λi j=>lt (xs.getD i d)<|xs.getD j d) n).length=n:=by have:=p.length_eq;simpa using this
 rw[a3t];intro i j hi o m;rw[g];have s:=S i j (by lia) (by lia);have e:∀(a:Array Nat)(k:Nat)(g:k<a.toList.length),a.getD k 0=a.toList[k]:=λa k g=>by
  have h:k<a.size:=by simpa using g
  simp[a4p,h]
 unfold gK at s;rw[e _ i hi,e _ j o]at s;simp only[decide_eq_false_iff_not,a2F];exact s
end
end L3
namespace L3
open PySem L2
noncomputable def k6(f g:D->D->Hm->jk)(a b c:ME):ME:=λd μ=>(a d μ).bind λp=>(b d p.2).bind λq=>(f p.1 q.1 q.2).bind λr=>match r.1 with
 |.bl b5=>(c d r.2).bind λt=>g q.1 t.1 t.2|.bl b4=>a7 (.bl b4,r.2)|_=>b3
theorem E4(hf:dG K f r)(hg:dG K g J):∀σ H Q,tM K (k6 f g ma mb mc) σ H Q->yJ r J (tM K ma) (tM K mb) (tM K mc) σ H Q:=by
 rintro σ H Q ⟨π,w,μ,d,q,R,E,e,k⟩;obtain⟨⟨x,h⟩,Y,e⟩:=ZC.mp e;obtain⟨⟨y,i⟩,Z,e⟩:=ZC.mp e;obtain⟨⟨z,j⟩,h3,e⟩:=ZC.mp e;refine⟨π,w,μ,x,h,R,E,Y,λs v1 H1 n T i1=>⟨s,w,h,y,i,T,E.mono n,Z,λu L M o R2 I=>?_⟩⟩;refine hf u M i x y z j v1 L _ R2 (i1.mono o) I h3 λm v3 N p A i3=>?_;cases z with
 |bl B=>
  cases i3;refine⟨B,rfl,?_⟩;cases B with
  |true=>refine nO ?_;obtain⟨⟨t,l⟩,h4,e⟩:=ZC.mp e;exact⟨m,w,j,t,l,A,((E.mono n).mono o).mono p,h4,λv v4 O G U i4=>hg v O l y t d q L v4 Q U ((I.mono p).mono G) i4 e<|k.after<|((n.trans o).trans p).trans G⟩|false=>refine nN ?_;cases e;exact k m _ N ((n.trans o).trans p) A<|.bl b4
 |_=>cases e
noncomputable def k7:a3X->Option (Int->Int->Bool)
 |.Lt=>a7 λi j=>decide (i<j)|.LtE=>a7 λi j=>decide (i<=j)|.Gt=>a7 λi j=>decide (j<i)|.GtE=>a7 λi j=>decide (j<=i)|_=>b3
theorem pZ(h:k7 op=a7 p):OpR X (a0Z op) (iJ λi j=>.bl<|p i j)/\(op=.Lt\/op=.LtE\/op=.Gt\/op=.GtE):=by cases op<;>first|(cases h;first|exact⟨yF,by simp⟩|exact⟨yG,by simp⟩|exact⟨yH,by simp⟩|exact⟨yI,by simp⟩)|cases h
theorem E6(h':d=.Lt\/d=.LtE\/d=.Gt\/d=.GtE):b0t [op,d] [b,c]=false:=by show a3e d c=b4;rcases h' with rfl|rfl|rfl|rfl<;>exact eD _
theorem QX(h:k7 op=a7 p)(h':k7 d=a7 q)(e:QE X a ma)(g:QE X b mb)(hc:QE X c mc):QE X (.Compare a [op,d] [b,c] pos) (k6 (iA p) (iA q) ma mb mc):=
 ⟨dE (LB (pZ h).1 (pZ h').1 e.h g.h hc.h<|E6 (pZ (X:=X) h').2)<|E4 jE jE⟩
theorem QY(h:k7 op=a7 p)(h':k7 d=a7 q)(g:QE X a ma)(i:QE X b mb)(hc:QE X c mc):QT X (.Compare a [op,d] [b,c] pos) (aU<|k6 (iA p) (iA q) ma mb mc):=
 ⟨uL (LC (pZ h).1 (pZ h').1 g.h i.h hc.h<|E6 (pZ (X:=X) h').2) λe H Q h=>E4 jE jE e H _<|DD e H Q h⟩
noncomputable def vC(d:Bool):D->D->Hm->jk
 |.bl b,.bl c,μ=>a7 (.bl<|if d then !(b==c)else b==c,μ)|.int _,.bl _,μ=>a7 (.bl d,μ)|_,_,_=>b3
noncomputable def fK(d:Bool):D->D->Hm->jk:=λx y μ=>match y with
 |.bl _=>vC d x y μ|_=>kF d x y μ
noncomputable def Ag(d:Bool):R2:=λx y H Q=>∃c,y=.bl c/\((∃b,x=.bl b/\Q (.bl<|if d then !(b==c)else b==c) H)\/((∃i,x=.int i)/\Q (.bl d) H))
theorem vD:dG K (vC g) (Ag g):=by
 intro j H o x y d l m n Q R h i e k;unfold vC at e;split at e
 .cases e;cases h;cases i;exact⟨_,rfl,.inl ⟨_,rfl,k j _ H .refl R<|.bl _⟩⟩
 .cases e;cases h;cases i;exact⟨_,rfl,.inr ⟨⟨_,rfl⟩,k j _ H .refl R<|.bl _⟩⟩
 .cases e
theorem E7:OpR X (a0Z .Is) (Ag b4):=by
 intro e s j H x y v u Q I d g h;obtain⟨c,rfl,h⟩:=h;cases g;rcases h with⟨b,rfl,q⟩|⟨⟨i,rfl⟩,q⟩
 .cases d;exact ZM<|nL I q<|by cases b<;>cases c<;>rfl
 .obtain⟨t,rfl⟩:=d;exact ZM<|nL I q rfl
theorem Fb:OpR X (a0Z .IsNot) (Ag b5):=by
 intro e s j H x y v u Q I d g h;obtain⟨c,rfl,h⟩:=h;cases g;rcases h with⟨b,rfl,q⟩|⟨⟨i,rfl⟩,q⟩
 .cases d;exact ZM<|nL I q<|by cases b<;>cases c<;>rfl
 .obtain⟨t,rfl⟩:=d;exact ZM<|nL I q rfl
theorem vF x y μ r(h:fK d x y μ=a7 r):vC d x y μ=a7 r\/kF d x y μ=a7 r:=by
 unfold fK at h;split at h
 .exact .inl h
 .exact .inr h
theorem QZ(d:QE X a ma)(e:QE X b mb):QE X (.Compare a [.Is] [b] pos) (aB (fK b4) ma mb):=n5 ⟨fY E7 vD d.h e.h<|eD _⟩ (Qe d e)<|iN vF
theorem Q0(d:QE X a ma)(e:QE X b mb):QE X (.Compare a [.IsNot] [b] pos) (aB (fK b5) ma mb):=n5 ⟨fY Fb vD d.h e.h<|eD _⟩ (Qf d e)<|iN vF
theorem Q1(d:QE X a ma)(e:QE X b mb):QT X (.Compare a [.Is] [b] pos) (aU<|aB (fK b4) ma mb):=pT ⟨fZ E7 vD d.h e.h<|eD _⟩ (Qg d e)<|pU<|iN vF
theorem Q2(d:QE X a ma)(e:QE X b mb):QT X (.Compare a [.IsNot] [b] pos) (aU<|aB (fK b5) ma mb):=pT ⟨fZ Fb vD d.h e.h<|eD _⟩ (Qh d e)<|pU<|iN vF
noncomputable def Ah:MF:=λds μ=>match ds with
 |[.int i,.int j]=>a7 (.int<|if j<i then j else i,μ)|_=>b3
noncomputable def Ai:MF:=λds μ=>match ds with
 |[.int i,.int j]=>a7 (.int<|if j>i then j else i,μ)|_=>b3
theorem Q3:dS K Ah (λxs H Q=>∃i j,xs=[.int i,.int j]/\Q (.int<|if j<i then j else i) H):=by
 intro g H l xs d e h Q R i a k;unfold Ah at a;split at a
 .cases a;cases i with
  |cons i t=>
   cases i;cases t with
   |cons b c=>cases b;cases c;exact⟨_,_,rfl,k g _ H .refl R<|.int _⟩
 .cases a
theorem Q4:dS K Ai (λxs H Q=>∃i j,xs=[.int i,.int j]/\Q (.int<|if j>i then j else i) H):=by
 intro g H l xs d e h Q R i a k;unfold Ai at a;split at a
 .cases a;cases i with
  |cons i t=>
   cases i;cases t with
   |cons b c=>cases b;cases c;exact⟨_,_,rfl,k g _ H .refl R<|.int _⟩
 .cases a
noncomputable def eI{a:Type}(xs:List a)(lo hi st:Option Int):List a:=(a7J (a2g lo hi st xs.length).1 (a2g lo hi st xs.length).2.1 (a2g lo hi st xs.length).2.2).filterMap (xs[·]?)
noncomputable def qA(a:ME)(lo hi st:MO):ME:=λb μ=>(a b μ).bind λp=>(lo b p.2).bind λq=>(hi b q.2).bind λr=>(st b r.2).bind λt=>if t.1≠a7 0 then(eH t.2 p.1).bind λc=>if(eI c q.1 r.1 t.1).length<=ZX then a7 (.loc t.2.length,t.2++[.lst<|eI c q.1 r.1 t.1])else b3 else b3
theorem Q5(h:IsDs K π n H vs ds)lo hi st:IsDs K π n H (eI vs lo hi st) (eI ds lo hi st):=by
 unfold eI;rw[h.length];generalize a7J _ _ _=l;induction l with
 |nil=>exact .nil|cons i l a=>
  rw[a1V,a1V];cases hi:ds[i]? with
  |none=>
   have:vs[i]?=none:=by rw[a0C]at hi ⊢;rw[h.length];exact hi
   rw[this];exact a
  |some d=>obtain⟨v,b,c⟩:=h.get hi;rw[b];exact .cons c a
theorem Q6(r:Vals vs its)lo hi st:Vals (eI vs lo hi st) (eI its lo hi st):=by
 unfold eI;rw[r.length];generalize a7J _ _ _=l;induction l with
 |nil=>exact .nil|cons i l a=>
  rw[a1V,a1V];cases hi:vs[i]? with
  |none=>
   have:its[i]?=none:=by rw[a0C]at hi ⊢;rw[<- r.length];exact hi
   rw[this];exact a
  |some v=>obtain⟨u,b,c⟩:=r.get hi;rw[b];exact .cons c a
noncomputable def Q7(K:ZD)(te:TE)(tl th tt:TO):TE:=λσ H Q=>te σ H λx c=>tl σ c λl d=>th σ d λu g=>tt σ g λt b=>t≠a7 0/\∃a xs,x=.ref a/\SqL K b a xs/\(eI xs l u t).length<=ZX/\∀p,b p=b3->Q (.ref p) (aP b p<|.lst<|eI xs l u t)
open PyProof.Rows in
theorem Q8{X:Cx}{e:Expr}{te:TE}{lo hi:Option Expr}{st:Expr}{tl th tt:TO}{pos p2:a1p}(M:PE X e te)(N:PO X lo tl)(R:PO X hi th)(O:PO X (a7 st) tt):PE X (.Subscript e (.Slice lo hi (a7 st) p2) pos) (Q7 X.K te tl th tt):=by
 intro c s i H Q I h;refine a7O<|aW (M c s i H _ I h) λv s1 ⟨x,y,E,r1,q1⟩=>?_;refine wpAny_Slice<|aW (N c s1 i y _ E q1) λo s2 ⟨l,z,G,pl,q2⟩=>aW (R c s2 i z _ G q2) λw s3 ⟨u,A,J,pu,q3⟩=>aW (O c s3 i A _ J q3) λp d ⟨t,B,K,pt,q4⟩=>?_;obtain⟨L,a,xs,rfl,T,U,q⟩:=q4;cases r1;have m:Inv X c i B {d with heap:=d.heap.push {cls:=.type "slice",data:=.fields #[o,w,p]}}:=K.kept (t':=d.toks) λb Z q=>ZK _ q;obtain⟨k,r,j,Y⟩:=m.list T;have n:=r.length;show Z3 (a0d X.prog X.w) X.A (a6l e (.Slice lo hi (a7 st) p2) (.ref a)<|.ref d.heap.objs.size) (EP X c i Q) X.xe {d with heap:=d.heap.push {cls:=.type "slice",data:=.fields #[o,w,p]}};refine b1r (ops:=[.ref a,.ref d.heap.objs.size]) j.isList.typeIs a6D.lookup ?_ (by with_unfolding_all rfl);refine a8k j.isList (a6A ..) pl pu pt L ?_ (by rw[Z9]<;>lia);have g:a8w k.toArray l u t=(eI k l u t).toArray:=by unfold a8w eI;simp
 rw[g];refine⟨.ref _,_,m.laid (t':=d.toks) (o:=.lst (eI xs l u t)) (λb Z q=>ZK _ q) (ZN _) ?_,rfl,q _<|m.hok.fresh<|ZN _⟩;exact⟨U,_,0,Q6 r l u t,ZW _ rfl⟩
theorem Q9{mt:MO}(Y:QE X e me)(Z:QO X lo A)(hu:QO X hi z)(ht:QO X (a7 st) mt):QE X (.Subscript e (.Slice lo hi (a7 st) p2) pos) (qA me A z mt):=⟨dE (Q8 Y.h Z.h hu.h ht.h)<|by
 rintro σ H Q ⟨π,m,μ,d,μ',R,E,a,k⟩;obtain⟨⟨x,c⟩,M,a⟩:=ZC.mp a;obtain⟨⟨l,g⟩,N,a⟩:=ZC.mp a;obtain⟨⟨u,h⟩,O,a⟩:=ZC.mp a;obtain⟨⟨t,o⟩,T,a⟩:=ZC.mp a;refine⟨π,m,μ,x,c,R,E,M,λr v1 H1 i G i1=>⟨r,m,c,l,g,G,E.mono i,N,λs H2 j R2=>⟨s,m,g,u,h,R2,(E.mono i).mono j,O,λv H3 n I=>⟨v,m,h,t,o,I,((E.mono i).mono j).mono n,T,λπ4 H4 y w=>?_⟩⟩⟩⟩;split at a
 .rename_i L;obtain⟨xs,U,a⟩:=ZC.mp a;split at a
  .rename_i hz;cases a;obtain⟨p,B,rfl,q,hd⟩:=mE w (((i1.mono j).mono n).mono y) U;have b:=Q5 hd l u t;refine⟨L,p,B,rfl,q,by rw[b.length];exact hz,λp' hp=>?_⟩;obtain⟨K,J,_⟩:=w.alloc (c:=.lst (eI xs l u t)) (o:=.lst (eI B l u t)) hp b;exact k _ _ _ ((((i.trans j).trans n).trans y).trans K) J jC
  .cases a
 .cases a⟩
theorem Aj{σ:St}{ch:List Addr}{a:Addr}(I:Inv X b1C σ H s)(k:∀b u,b∉ch->s.heap.get? b=a7 u->h'.get? b=a7 u)(i:∀b∈ch,iZ X b1C H b)(j:s.heap.objs.size<=a)(new:ObjOk X.prog X.w (aP H a o) h' a o):Inv X b1C σ (aP H a o) {s with heap:=h',toks:=t'}:=by
 have d:=I.hok.fresh j;have g:∀b u,H b=a7 u->b∉ch:=λb u e z=>by have:=(i b z).1;rw[e]at this;cases this
 refine I.step (g':=s.gens) (d':=s.drawn) (ch:=ch) (λb h=>let⟨K,x,f2,y,A,B⟩:=i b h;⟨y,x,A,B⟩) (λb o _ _ hc e _=>k b o hc e) (λb o _ _ hc e _=>⟨o.slots,k b o hc e⟩) (λb J hc e n=>?_)
  (λb o hc e=>⟨o,k b o hc e⟩) (λb l q=>?_) (λb J l q=>?_) (λb L q=>?_) (λm E=>?_) (λb u e=>?_) I.bare
 .rw[bN<|Z6<|a0e (ZV e) j];exact n
 .rw[bN<|fN q d];exact q
 .rw[bN<|fN q d];exact q
 .exact⟨#[],by rw[bN<|fN q d,q];simp⟩
 .obtain⟨o,w,p,G,r⟩:=E;exact⟨o,w,p,k _ o (λz=>(i _ z).2.1 rfl) G,r⟩
 .by_cases h:b=a
  .subst h;rw[dD]at e;cases e;exact new
  .rw[bN h]at e;refine(I.hok b u e).stay (λc v hc q=>k c v ?_ q) (λc q=>by rw[bN<|fN q d];exact q) λc l q=>by rw[bN<|fN q d];exact q
   rcases hc with z|z
   .rw[z];exact g b u e
   .exact g c _ z
theorem Fc{σ:St}{ch:List Addr}(I:Inv X b1C σ H s)(k:∀b u,b∉ch->s.heap.get? b=a7 u->h'.get? b=a7 u)(d:∀b∈ch,iZ X b1C H b):Inv X b1C σ H {s with heap:=h',toks:=t'}:=by
 have a:∀b u,H b=a7 u->b∉ch:=λb u e z=>by have:=(d b z).1;rw[e]at this;cases this
 refine I.step (g':=s.gens) (d':=s.drawn) (ch:=ch) (λb x=>let⟨E,j,f2,l,p,w⟩:=d b x;⟨l,j,p,w⟩) (λb o _ _ hc e _=>k b o hc e) (λb o _ _ hc e _=>⟨o.slots,k b o hc e⟩) (λb B hc e n=>n)
  (λb o hc e=>⟨o,k b o hc e⟩) (λb g q=>q) (λb B g q=>q) (λb G q=>⟨#[],by rw[q];simp⟩) (λm y=>?_) (λb u e=>?_) I.bare
 .obtain⟨o,i,h,A,r⟩:=y;exact⟨o,i,h,k _ o (λz=>(d _ z).2.1 rfl) A,r⟩
 .refine(I.hok b u e).stay (λc v hc q=>k c v ?_ q) (λc q=>q) λc g q=>q;rcases hc with z|z
  .rw[z];exact a b u e
  .exact a c _ z
noncomputable def Ak(K:ZD)(a:Addr):It:=
 ⟨λi H=>∃b x,SqL K H a b/\b[i]?=a7 x,λi H x c=>∃p v,x=.ref p/\H p=b3/\c=aP H p (.tup [.int i,v])/\∀b,SqL K H a b->b[i]?=a7 v,λi H=>∃b,SqL K H a b/\b.length<=i⟩
theorem Ra a e m(r:e≠m):
  Turn Qc P w K (.Tuple es kx pt) (Ak K a) [e,m] e (λi h=>∃l,IsEnum h e m i l/\h.IsListIter m a i) where
 mem:=by simp
 obj:=λi h ⟨l,st,j⟩ b n=>by
  have g:b=e\/b=m:=by simpa using n
  rcases g with rfl|rfl
  .exact⟨_,st,λv z=>by
    have z':a0B _=a4Q v:=z;cases z'⟩
  .obtain⟨o,J,c,d⟩:=j;exact⟨o,J,λv z=>by rw[d]at z;cases z⟩
 keep:=λi h h' ⟨l,st,j⟩ k=>⟨l,k e (by simp) _ st,j.at λo J=>k m (by simp) o J⟩;item:=by
  intro X N hw M hc i G s σ H E I A ⟨l,st,j⟩ R;subst N hw M;obtain⟨xs,x,B,Z⟩:=R;obtain⟨its,rv,p,hz⟩:=I.list B;obtain⟨u,hu,ru⟩:=rv.get Z;refine wpAny_pyNext_enum_item st j p.isList (x:=u) (by simpa using hu) r λh1 ho hit ht hsz hk=>⟨_,rfl,wpAny_letOwnedTupleGo_enum ho λh2 O q=>?_⟩;have y:e<s.heap.objs.size:=ZV st;have T:s.heap.objs.size≠e:=a2a y;have Y:h2.get? s.heap.objs.size=a7 {cls:=.type "tuple",data:=.seq #[.int i s.toks,u]}:=(q.2 _ T).trans ht;have Q:H s.heap.objs.size=none:=I.hok.fresh<|ZN _;refine⟨.ref s.heap.objs.size,aP H s.heap.objs.size<|.tup [.int i,x],?_,rfl,⟨s.heap.objs.size,x,rfl,Q,rfl,λys hy=>by rw[I.list_inj hy B];exact Z⟩,⟨u,O,hit.extBut q.extBut<|a0o r⟩,λb n=>?_⟩
  .refine Aj (s:=s) (h':=h2) (t':=s.toks+1) (ch:=[e,m]) I (λb ob n L=>?_) A (ZN _) ?_
   .have g:b≠e/\b≠m:=by simpa using n
    exact(q.2 b g.1).trans<|hk b ob g.1 g.2 L
   .exact⟨by show(2:Nat)<=ZX;decide,[.int i s.toks,u],.cons ⟨_,rfl⟩<|.cons ru .nil,_,Y,rfl,0,rfl,rfl⟩
  .have g:b=e\/b=m:=by simpa using n
   have hn:=(A b n).1;obtain⟨o,U,_⟩:=j;rw[bN]
   .exact hn
   .rcases g with rfl|rfl
    .exact Z6 y
    .exact Z6<|ZV U
 done:=by
  intro X N hw M hc i G s σ H E I A ⟨l,st,j⟩ R;subst N hw M;obtain⟨xs,B,Z⟩:=R;obtain⟨its,rv,p,hz⟩:=I.list B;have hl:=rv.length;refine wpAny_pyNext_enum_end (I.ok.hd hc) st j p.isList (by simp;lia) λh' L=>⟨rfl,Fc (t':=s.toks) (ch:=[e,m]) I (λb o n z=>L b o ?_ z) A⟩;have g:b≠e/\b≠m:=by simpa using n
  exact g.2
 self:=λ_ _ _ _ _ ⟨l,st,_⟩ h=>b0b st h
structure QJT(X:Cx)(e:Expr)(m:MI):Prop where
 h:∀es k p,PI X (.Tuple es k p) e (tMI X.K m)
theorem QJ.t(h:QJ X e m):QJT X e m:=⟨λa k p=>h.h _⟩
noncomputable def mG(x:D):fQ:=λμ i=>(bK μ x).map λxs=>(xs[i]?).map λd=>.tup [.int i,d]
noncomputable def oE(ms:MA):MI:=λb μ=>(ms b μ).bind λp=>match p.1 with
 |[x]=>(eH p.2 x).map λa=>(mG x,a.length+1,p.2)|_=>b3
theorem Rb(R:Rp K π H μ)(h:IsD K π μ.length H v x)(s:eH μ x=a7 xs):∃a,v=.ref a/\(∃vs,SqL K H a vs)/\Wk K (Ak K a) (mG x) π μ.length H:=by
 have hw:bK μ x=a7 xs:=by
  cases x with
  |rol k=>exact s|loc b=>exact s|_=>cases s
 obtain⟨p,vs,rfl,O,_⟩:=mE R h s;refine⟨p,rfl,⟨vs,O⟩,?_⟩
  -- the list as it stands j
 have j:∀g c l,Ext π μ.length H g c.length l->Rp K g l c->∀k,bK c x=a7 k->∃m,SqL K l p m/\IsDs K g c.length l m k:=λg c l e n k G=>by
  have T:=h.mono e;have M:eH c x=a7 k:=by
   cases x with
   |rol zs=>exact G|loc b=>exact G|_=>cases s
  obtain⟨Y,m,I,o,r⟩:=mE n T M;cases I;exact⟨m,o,r⟩
 refine⟨λg c l i e n z=>?_,λg c l i d e n z=>?_⟩
 .obtain⟨k,w,u⟩:=ZH.mp z;obtain⟨m,o,r⟩:=j g c l e n k w;have A:k[i]?=none:=by
   cases q:k[i]? with
   |none=>rfl|some d=>rw[q]at u;cases u
  exact⟨m,o,by rw[r.length];exact a0C.mp A⟩
 .obtain⟨k,w,u⟩:=ZH.mp z;obtain⟨X,A,J⟩:=ZH.mp u;subst J;obtain⟨m,o,r⟩:=j g c l e n k w;obtain⟨v,E,L⟩:=r.get A;refine⟨⟨m,v,o,E⟩,?_⟩;rintro y U ⟨t,Z,rfl,N,rfl,Q⟩;have:=Q m o;rw[E]at this;cases this;obtain⟨B,R2⟩:=n.fresh (o:=.tup [.int i,v]) N;exact⟨B,R2,.tup (.of dD)<|.cons (.int _)<|.cons (L.mono B) .nil⟩
noncomputable def Rc(K:ZD)(c:TA):TI:=λσ H R=>c σ H λvs b=>∃a,vs=[.ref a]/\(∃xs,SqL K b a xs)/\R (Ak K a) b
open PyProof.Rows in
theorem Rf{X:Cx}{a:Expr}{k:TA}{p pos pt:a1p}{o:List Expr}{J:Nat}(x:Gl X "enumerate") (z:X.mg "enumerate"=b3) (v:PA X [a] k)(B:a0h [a] X.env=[(b4,eval a X.env)]):PI X (.Tuple o J pt) (.Call (.Name "enumerate" p) [a] [] pos) (Rc X.K k):=by
 intro e s l H R I h;refine b1B<|jQ I x z Boot.«enumerate»<|callWith_type1 (aW (v pos e s l H _ I h) λT c ⟨U,i,d,M,L⟩=>?_) B rfl;obtain⟨n,rfl,⟨Y,A⟩,q⟩:=L;obtain⟨u,rfl,N⟩:=fP M;cases N;obtain⟨G,Q,K,O⟩:=d.list A;refine call_enumerate_list K.isList λr j hit E y=>?_;refine b0b j ?_;have m:Inv X e l i {c with heap:=r}:=d.kept (t':=c.toks) y;refine⟨c.heap.objs.size+1,[c.heap.objs.size+1,c.heap.objs.size],_,_,i,rfl,m,Ra n _ _<|Nat.succ_ne_self _,⟨_,j,hit⟩,λb w=>?_,q⟩;have g:b=c.heap.objs.size+1\/b=c.heap.objs.size:=by simpa using w
 rcases g with rfl|rfl
 .exact d.fpOk (a2D _)<|d.hok.fresh<|a2D _
 .exact d.fpOk (ZN _)<|d.hok.fresh<|ZN _
theorem Rg(c:Gl X "enumerate")(d:X.mg "enumerate"=b3)(j:QA X [a] ms n):QJT X (.Call (.Name "enumerate" p) [a] [] pos) (oE ms):=⟨λK L pt b1C s σ H R I hw=>by
 have l:=j.s;rw[a0u,ZL]at l;obtain⟨G,J,A,y,M,B,o,E,b,k⟩:=hw;obtain⟨⟨x,g⟩,u,b⟩:=ZC.mp b;refine Rf c d j.h (fD l.1) b1C s σ H R I ⟨G,J,A,x,g,o,E,u,λh N m r i e=>?_⟩;dsimp only at b;split at b
 .rename_i x;obtain⟨O,v,b⟩:=ZH.mp b;cases b;cases e with
  |cons e z=>cases z;obtain⟨q,rfl,w,W⟩:=Rb i e v;exact⟨q,rfl,w,k h m _ r i W⟩
 .cases b⟩
theorem rZ(hi:PI X tg iter (tMI X.K w))(G:QG X tg g)(B:QB X body v)(I:b0z (a0d X.prog X.w) X.A X.env X.xe)(hc:X.calm=b5)(K:gI iter=b5):
  QS X (.For tg iter body [] pos) (b7 w g v):=⟨jS (Ll I hc hi G.h B.h<|by intro z;cases iter<;>first|rfl|cases K)<|by
 rintro E Q H ⟨N,O,M,u,r,p,R,s,m,k⟩;obtain⟨⟨o,n,l⟩,A,m⟩:=ZC.mp m;refine⟨N,O,M,o,n,l,R,s,A,λq x J i y W=>?_⟩;have L:pF X.K E q l.length x u r p:=by
  cases u with
  |nx=>exact λa b e j h c=>k a b e (i.trans j) h c|bk=>exact λa b e j h c=>k a b e (i.trans j) h c|ct=>exact λa b e j h c=>k a b e (i.trans j) h c|rt d=>exact KC.after k i
 exact Ot W L .refl y (s.mono i) m⟩
noncomputable def Al(put:D->D->D->Hm->Option Hm)(o i v:ME):MS:=λa μ=>(v a μ).bind λp=>(o a p.2).bind λq=>(i a q.2).bind λr=>(put q.1 r.1 p.1 r.2).map λμ'=>(.nx,a,μ')
noncomputable def r6:D->D->D->Hm->Option Hm
 |.loc a,y,d,μ=>match μ[a]? with
  |some (.dT kvs)=>(dN y).bind λk=>if kvs.length<ZX then a7 (μ.set a<|.dT<|dW kvs k d)else b3|_=>b3
 |_,_,_,_=>b3
noncomputable def k8:D->D->D->Hm->Option Hm:=r6
noncomputable def dB:=Al k8
theorem Fd:QS X st (aO i bX):=⟨λb1C s σ H D I q=>by
 obtain⟨g,h,e,d,c,b,R,E,a,k⟩:=q;cases a⟩
noncomputable def gO(is:List Int):List Int:=is.mergeSort λa b=>decide<|a<=b
theorem Fe(g:ns.Perm is)(i:ns.Pairwise (·<=·)):ns=gO is:=by
 have d:(gO is).Perm is:=List.mergeSort_perm _ _;have e:(gO is).Pairwise (·<=·):=by have:=List.pairwise_mergeSort (le:=λa b:Int=>decide<|a<=b) (λa b c d e=>by simp only[decide_eq_true_eq]at *;lia) (λa b=>by simp only[a2z,decide_eq_true_eq];lia) is;exact this.imp λh=>by simpa using h
 exact a3o (le:=λa b:Int=>a<=b) (λa b _ _ d e=>by lia) i e<|g.trans d.symm
noncomputable def oF:MF:=λds μ=>match ds with
 |[x]=>(eH μ x).bind λb=>(n6 b).bind λa=>if a.length<64 then a7 (.loc μ.length,μ++[.lst<|(gO a).map D.int])else b3|_=>b3
noncomputable def Am(K:ZD):gw->Hp->VK->Prop:=λxs H Q=>∃(p:Addr)(is:List Int),xs=[.ref p]/\SqL K H p (is.map V.int)/\is.length<64/\∀l,H l=b3->Q (.ref l) (aP H l<|.lst<|(gO is).map V.int)
theorem Rh:dS K oF (Am K):=by
 intro v H u r d m n Q R i a k;unfold oF at a;split at a
 .obtain⟨s,e,a⟩:=ZC.mp a;obtain⟨b,g,a⟩:=ZC.mp a;split at a
  .rename_i h;cases a;cases i with
   |cons i t=>cases t;obtain⟨p,o,rfl,q,hd⟩:=mE R i e;rw[Aa g]at hd;have:=ints_of' hd;subst this;refine⟨p,b,rfl,q,h,λl j=>?_⟩;obtain⟨c,R2,_⟩:=R.alloc (c:=.lst ((gO b).map D.int)) (o:=.lst ((gO b).map V.int)) j<|Ab _;exact k _ _ _ c R2 jC
  .cases a
 .cases a
theorem call_sortI:CallR X (.builtin "sorted") (Am X.K):=by
 intro q s N H M L Q I r h;obtain⟨p,g,rfl,A,w,k⟩:=h;obtain⟨u,rfl,E⟩:=fP r;cases E;obtain⟨i,m,B,J⟩:=I.list A;have a:=m.length;rw[ZF]at a;refine b0Q B.isList (uI m) (by lia) λc j n l o=>?_;obtain⟨e,x⟩:=a5Q s.heap i c;have y:H (s.heap.objs.size+1)=none:=I.hok.fresh<|a2D _;have v:j=gO g:=Fe l o;subst v;refine⟨.ref<|s.heap.objs.size+1,_,I.laid (t':=s.toks) (a:=s.heap.objs.size+1) (o:=.lst ((gO g).map V.int)) (λb K z=>a5I z) (a2D _) ?_,rfl,k _ y⟩;have d:(gO g).length<=ZX:=by have:=l.length_eq;have G:=a0n;lia
 refine⟨by rw[ZF];exact d,c.toList,e,yU n,?_⟩;rw[x]
noncomputable def jW:MF:=λds μ=>match oF ds μ with
 |some r=>a7 r|none=>rW ds μ
theorem Ri:dS K jW (λxs H Q=>Am K xs H Q\/z8 K xs H Q):=by
 intro g H e xs d a c Q R i b k;unfold jW at b;split at b
 .rename_i r h;cases b;exact .inl<|Rh g H e xs d a c Q R i h k
 .exact .inr<|QM g H e xs d a c Q R i b k
theorem Rj:a7H (.type "list_reverseiterator") "__len__"=pure none:=by rw[b0K,a9d];kernel_rfl
theorem Rk:a7H (.type "list_reverseiterator") "__length_hint__"=pure (a7<|.builtin "list_reverseiterator.__length_hint__"):=by rw[b0K,a9d];kernel_rfl
theorem Rl(b:s.TypeIs (.ref r) "list_reverseiterator")(h:Q b4 s):Z3 (a0d prog w) A (a5H<|.ref r) Q E s:=by unfold a5H;refine ZE<|a3E b Rj ?_;dsimp only;refine a3F (λa=>absurd a<|by decide +kernel) λ_=>?_;refine a3F (λa=>absurd a<|by decide) λ_=>?_;refine ZE<|a3E b Rk ?_;generalize bR:("list_reverseiterator.__length_hint__":String)=id0;wp_delta;rw[show splitId id0=a7 ("list_reverseiterator","__length_hint__")from by subst bR;decide +kernel];subst bR;refine ZE (a3w (T:="list_reverseiterator") (b:=b5) b (by rw[isSubtype_type];kernel_rfl) ?_);refine a3F (λa=>absurd a<|by decide) λ_=>?_;refine a3F (λ_=>?_) (λa=>absurd (by decide +kernel) a);refine a3F (λa=>absurd a<|by decide +kernel) λ_=>?_;exact ZM h
theorem Rm(U:A.handled=b3)(hit:s.heap.IsRevIter p a ((its.size:Int)-1))(Y:s.heap.IsList a its)(G:a≠p)S(n:S≠p)(y:S≠a)res j(T:s.heap.get? S=a7 {cls:=.type "list",data:=.seq #[] j})(Q:∀u tk c m,(∀b o,b≠S->b≠p->s.heap.get? b=a7 o->u.get? b=a7 o)->u.get? S=a7 {cls:=.type "list",dict:=b3,data:=.seq c m,slots:=#[]}->ItemsOf (λi v=>its[its.size-1-i]?=a7 v) c its.size->R (.ok<|.ret res) {s with heap:=u,toks:=tk})(Z:its.size<=ZX):
  Z3 (a0d prog w) A.in1 (a2P (.ref S) (.ref p) res)
   (λfin l=>match fin with|.done f=>R (.ok f) l|.again m=>m.quiet=b5/\a3G (a0d prog w) A m R l) (λe l=>R (.error e) l) s:=by
 have z:S∉[p,a]:=by simp only[a0g,a3q,or_false,not_or];exact⟨n,y⟩
 have W:=Walks.listRev (prog:=prog) (w:=w) (A:=A.in1) U p a G its;have key:∀(h:a1d)(d tk:Nat),h.IsRevIter p a ((its.size:Int)-1)->h.IsList a its->(∀b o,b≠S->s.heap.get? b=a7 o->h.get? b=a7 o)->
   h.get? S=a7 {cls:=.type "list",data:=.seq #[] d}->a3G (a0d prog w) A (.builtin "list.extend.loop" ⟨[.ref S,.ref p,res],[]⟩) R {s with heap:=h,toks:=tk}:=by
  intro h d tk I r X k;refine codeAny_extend_loopS W.toS Z S z res its.size 0 _ #[] d rfl (a0I _) ⟨a0I _,by simpa using I,r⟩ k (ItemsOf.nil _) λl c m K x q=>?_;rw[Moved.eq_with K];refine Q l.heap l.toks c m (λb o J H e=>K.heap b o (λg=>?_)<|X b o J e) x q;rcases a0g.mp g with L|g
  .exact J L
  .exact H<|a0r.mp g
 unfold a2P;refine ZE<|wpAny_typeOf (T:="list_reverseiterator") hit.typeIs ?_;have M:a5Z (.ref S) (.ref p)=false:=by simp[a5Z,n]
 have N:(a0b "list_reverseiterator"==a0b "list")=false:=by decide +kernel
 have O:(a0b "list_reverseiterator"==a0b "tuple")=false:=by decide +kernel
 simp only[M,N,O,a7l,Z5,if_false];refine ZE<|wpAny_pyIter_revIter hit ?_;refine ZE<|a1i<|Rl hit.typeIs ?_;refine a3F (λB=>absurd B<|by decide +kernel) λ_=>ZM ⟨a4i PySem.F.plain_extend_loop _,?_⟩;exact key _ j s.toks hit Y (λb o _ e=>e) T
theorem Rn(I:A.handled=b3)(hit:s.heap.IsRevIter p a ((its.size:Int)-1))(K:s.heap.IsList a its)(y:a≠p)S(l:S≠p)(k:S≠a)(r:s.heap.get? S=a7 {cls:=.type "list",data:=.seq #[]})(H:∀j G c h,(∀b o,b≠S->b≠p->s.heap.get? b=a7 o->j.get? b=a7 o)->j.get? S=a7 {cls:=.type "list",dict:=b3,data:=.seq c h,slots:=#[]}->ItemsOf (λi v=>its[its.size-1-i]?=a7 v) c its.size->R (.ok<|.ret .none) {s with heap:=j,toks:=G})(L:its.size<=ZX):
  Z3 (a0d prog w) A.in1 (Builtin.«list.__init__» ⟨[.ref S,.ref p],[]⟩)
   (λfin q=>match fin with|.done f=>R (.ok f) q|.again h=>h.quiet=b5/\a3G (a0d prog w) A h R q) (λe q=>R (.error e) q) s:=by
 show Z3 _ _ (do let B <- a6s (.ref S);b1g (.ref S) λ_=>#[];letGo B.toList.reverse;a2P (.ref S) (.ref p) .none) _ _ s;refine ZE ?_;unfold a6s;refine ZE<|a5N r rfl<|ZM ?_;show Z3 _ _ (b0q S (λ_=>#[]) >>= λ_=>letGo (#[]:Array Value).toList.reverse >>= λ_=>a2P (.ref S) (.ref p) .none) _ _ s;refine ZE<|a5z r rfl ?_;have d:=a1Z (a1G λ_=>(#[]:Array Value)) r rfl;have g:∀b o,b≠S->s.heap.get? b=a7 o->(s.heap.update S<|a1G λ_=>(#[]:Array Value)).get? b=a7 o:=
  λb o n e=>(a1T _ _<|a0o n).trans e
 refine ZE<|a4U ?_;refine Rm I (hit.at λo e=>g p o (a0o l) e) (let⟨o,M,x⟩:=K;⟨o,g a o (a0o k) M,x⟩) y S l k .none _ d (λj G c h J u m=>?_) L;exact H j G c h (λb o n z e=>J b o n z<|g b o n e) u m
theorem Ro(H:A.handled=b3)(hit:s.heap.IsRevIter p a ((its.size:Int)-1))(y:s.heap.IsList a its)(q:a≠p)(J:its.size<=ZX)(z:∀g r c m,(∀b o,b≠p->s.heap.get? b=a7 o->g.get? b=a7 o)->g.get? s.heap.objs.size=a7 {cls:=.type "list",dict:=b3,data:=.seq c m,slots:=#[]}->ItemsOf (λi v=>its[its.size-1-i]?=a7 v) c its.size->Q (.ref s.heap.objs.size) {s with heap:=g,toks:=r}):
  Z3 (a0d prog w) A (call (.type "list") [.ref p]) Q E s:=by
 refine b1y (Q₁:=λl d=>l=.ref s.heap.objs.size/\d={s with heap:=s.heap.push {cls:=.type "list",data:=.seq #[]}}) PySem.F.called_list (PySem.F.typeCall_list_1 _) PySem.F.entry_list_init
  (code_list_new _ ⟨rfl,rfl⟩) λl d k=>?_
 obtain⟨rfl,rfl⟩:=k;have u:(s.heap.push {cls:=.type "list",data:=.seq #[]}).get? s.heap.objs.size=a7 {cls:=.type "list",data:=.seq #[]}:=ZW _ rfl;have K:p<s.heap.objs.size:=let⟨o,j,_⟩:=hit;ZV j;have B:a<s.heap.objs.size:=let⟨o,j,_⟩:=y;ZV j;refine⟨⟨_,u,rfl⟩,PySem.F.args_list_init_2 _ _,Rn (A:=A.in1) H (hit.at λo e=>ZK _ e) (let⟨o,j,x⟩:=y;⟨o,ZK _ j,x⟩) q _ (a2a K) (a2a B) u (λg r c m I n h=>?_) J⟩;exact⟨rfl,z g r c m (λb o G e=>I b o (Z6<|ZV e) G<|ZK _ e) n h⟩
noncomputable def Ff(K:ZD):gw->Hp->VK->Prop:=λxs H Q=>∃(p:Addr)(a:gw),xs=[.ref p]/\SqL K H p a/\∀l,H l=b3->Q (.ref l) (aP H l<|.lst a.reverse)
theorem Fg:∀{a}{its},Vals a its->Vals a.reverse its.reverse
 |_,_,.nil=>.nil|_,_,.cons h t=>by rw[a4C,a4C];exact(Fg t).append<|.cons h .nil
theorem Rq(hc:X.calm=b5)(N:Gl X "list")(O:X.mg "list"=b3)(r:Gl X "reversed")(w:X.mg "reversed"=b3)(M:PA X [e] t)(T:a0h [e] X.env=(b4,eval e X.env)::a0h [] X.env):
  PE X (.Call (.Name "list" p) [.Call (.Name "reversed" G) [e] [] d] [] pos) (uH (Ff X.K) t):=by
 intro m s σ H Q I h;refine a2c (jQ I N O a3K ?_ (by decide)<|by decide);refine a1s ?_ rfl rfl;show Z3 _ _ (spliced<|(b4,eval (.Call (.Name "reversed" G) [e] [] d) X.env)::a1U pos (a0h [] X.env)) _ _ s;refine a8t (a2c<|jQ I r w a8N ?_ (by decide)<|by decide);refine a1s (aW (M d m s σ H _ I h) λus j ⟨vs,H1,l,r1,q1⟩=>?_) T rfl;obtain⟨q,ys,rfl,R,k⟩:=q1;obtain⟨u,rfl,ru⟩:=fP r1;cases ru;obtain⟨a,J,Z,U⟩:=l.list R;have E:=J.length;have v:=Z.isList;have z:q<j.heap.objs.size:=let⟨o,y,_⟩:=v;ZV y;refine call_reversed_list v ?_;refine a8D ?_;refine Ro (l.ok.hd hc) (p:=j.heap.objs.size) (a:=q) (its:=a.toArray) ⟨_,ZW _ rfl,rfl,rfl⟩ (let⟨o,y,x⟩:=v;⟨o,ZK _ y,x⟩) (Z6 z) (by simp only[Z9]<;>lia) λh' tk c K Y B g=>?_;have n:c.toList=a.reverse:=by
  refine a5V λi=>?_;have hn:c.size=a.length:=by simpa using g.1
  by_cases hi:i<a.length
  .have L:=g.2 i c[i] (a6W<|by lia);rw[a1g,a6W<|by lia,<- L,List.getElem?_reverse hi,Z9,List.getElem?_toArray]
  .rw[a1H<|by rw[a2j];lia,a1H<|by rw[a2k];lia]
 have A:(j.heap.push<|revObj q<|(a.toArray.size:Int)-1).objs.size=j.heap.objs.size+1:=by simp[Heap.push]
 rw[A]at B ⊢;refine⟨.ref<|j.heap.objs.size+1,_,l.laid (t':=tk) (a:=j.heap.objs.size+1) (o:=.lst ys.reverse) (λb o e=>Y b o (Z6<|ZV e)<|ZK _ e) (by lia) ⟨by rw[a2k];exact U,a.reverse,K,Fg J,by rw[<- n];simpa using B⟩,rfl,k _<|l.hok.fresh<|by lia⟩
noncomputable def k9:MF:=λds μ=>match ds with
 |[.loc a]=>match μ[a]? with
  |some (.lst xs)=>a7 (.loc μ.length,μ++[.lst xs.reverse])|_=>b3
 |_=>b3
theorem Rt:dS K k9 (Ff K):=by
 intro s H r q d o p Q R i b k;unfold k9 at b;split at b
 .rename_i a;split at b
  .rename_i e n;cases b;cases i with
   |cons i t=>cases t;cases i;obtain⟨c,h,j⟩:=R.lst a e n;refine⟨_,c,rfl,.of h,λl m=>?_⟩;obtain⟨g,R2,_⟩:=R.alloc (c:=.lst e.reverse) (o:=.lst c.reverse) m<|Qk j;exact k _ _ _ g R2 jC
  .cases b
 .cases b
theorem Ru(hc:X.calm=b5)(d:X.mg "list"=b3)(g:X.mg "reversed"=b3)(h:QA X [e] ms n)(b:Gl X "list")(c:Gl X "reversed"):
  QE X (.Call (.Name "list" p) [.Call (.Name "reversed" j) [e] [] a] [] pos) (aH k9 ms):=by
 have i:=h.s;rw[a0u,ZL]at i;exact⟨dE (Rq hc b d c g h.h<|fD i.1)<|yX Rt⟩
noncomputable def An(lo c:Int)(n:Nat):It:=⟨λi _=>i<n,λi H x a=>a=H/\x=.int (lo+(i:Nat)*c),λi _=>n<=i⟩
theorem Rv a lo c n:Turn Qc P w K tg (An lo c n) [a] a (λi h=>a4n h a (lo+(i:Nat)*c) ((n:Int)-(i:Nat)) c) where
 mem:=by simp
 obj:=λi h st b d=>by
  have e:b=a:=by simpa using d
  subst e;exact⟨_,st,λv z=>by
   have Q:a0B _=a4Q v:=z;cases Q⟩
 keep:=λi h l st k=>k a (by simp) _ st;item:=by intro X A hw y hc i g s J H E I m st B;subst A hw y;obtain⟨p,q,f2,r,u,x⟩:=m a (by simp);have W:=b0g (prog:=X.prog) (w:=X.w) (I.ok.hd hc) a lo c n;refine W.item i s _ _ B st λv l G N j O=>?_;obtain⟨t,rfl⟩:=N;have L:Inv X g J H {s with heap:=l,toks:=G}:=I.turned (λb o d e=>O b o (by simpa using d) e) p q r u x;exact⟨_,rfl,o7 (s:={s with heap:=l,toks:=G}) (n:="range_iterator") j rfl rfl (by decide) ⟨.int<|lo+(i:Nat)*c,H,L,⟨t,rfl⟩,⟨rfl,rfl⟩,j,λb d=>(m b d).1⟩⟩
 done:=by intro X A hw y hc i g s J H E I m st B;subst A hw y;obtain⟨p,q,f2,r,u,x⟩:=m a (by simp);exact a8E (I.ok.hd hc) st (by have:n<=i:=B;lia) λl M=>⟨rfl,I.turned (t':=s.toks) (λb o d e=>M b o d e) p q r u x⟩
 self:=λ_ _ _ _ _ st h=>a8G st h
noncomputable def r8(a b c:Int):Bool:=b0I a b c&&decide (c≠0)&&decide (c.natAbs<1073741824)&&decide (0<=a0O a b c)
noncomputable def Rw(e:TA):TI:=λσ H R=>e σ H λvs d=>∃a b c:Int,vs=[.int a,.int b,.int c]/\r8 a b c=b5/\R (An a c (a0O a b c).toNat) d
open PyProof.Rows in
theorem Ry{X:Cx}{tg a b c:Expr}{E:TA}{p pos:a1p}(O:Gl X "range") (Q:X.mg "range"=b3) (M:PA X [a,b,c] E)(U:a0h [a,b,c] X.env=(b4,eval a X.env)::a0h [b,c] X.env)(y:(a1U pos<|a0h [b,c] X.env).any (·.1)=b4) :
  PI X tg (.Call (.Name "range" p) [a,b,c] [] pos) (Rw E):=by
 intro m s G H R I h;refine b1B<|jQ I O Q a9V<|a1s (aW (M pos m s G H _ I h) λus l ⟨vs,B,J,r1,Y⟩=>?_) U y;obtain⟨i,j,k,e,g,q⟩:=Y;subst e;unfold r8 at g;rw[ZL,ZL,ZL,decide_eq_true_eq,decide_eq_true_eq,decide_eq_true_eq]at g;obtain⟨⟨⟨z,w⟩,x⟩,T⟩:=g;cases r1 with
 |cons r n=>
  cases n with
  |cons Z n=>
   cases n with
   |cons A n=>
    cases n;obtain⟨t,rfl⟩:=r;obtain⟨u,rfl⟩:=Z;obtain⟨d,rfl⟩:=A;refine call_range_3 w ?_<|.inl<|PyProof.noPylong_small x;refine a9P (a9I ..) z ?_;have v:Inv X m G B {l with heap:=l.heap.push {cls:=.type "range",data:=.fields #[.int i t,.int j u,.int k d]},toks:=l.toks}:=J.kept λb o e=>ZK _ e;refine⟨(l.heap.push {cls:=.type "range",data:=.fields #[.int i t,.int j u,.int k d]}).objs.size,[(l.heap.push {cls:=.type "range",data:=.fields #[.int i t,.int j u,.int k d]}).objs.size],_,_,B,rfl,
     v.kept (t':=l.toks) λb o e=>ZK _ e,Rv _ i k (a0O i j k).toNat,?_,λb N=>?_,q⟩
    .have K:i+((0:Nat):Int)*k=i:=by simp
     have L:(((a0O i j k).toNat:Nat):Int)-((0:Nat):Int)=a0O i j k:=by lia
     show a4n _ _ (i+((0:Nat):Int)*k) ((((a0O i j k).toNat:Nat):Int)-((0:Nat):Int)) k;rw[K,L];exact ZW _ rfl
    .have e:b=(l.heap.push {cls:=.type "range",data:=.fields #[.int i t,.int j u,.int k d]}).objs.size:=by simpa using N
     subst e;exact v.fpOk (ZN _)<|v.hok.fresh<|ZN _
noncomputable def qB(lo c:Int)(n:Nat):fQ:=λ_ i=>a7<|if i<n then a7 (.int<|lo+(i:Nat)*c)else b3
theorem Rz:Wk K (An lo c k) (qB lo c k) π n H:=by
 refine⟨λb m g i e R z=>?_,λb m g i d e R z=>?_⟩
 .have a:=Z0 z;split at a
  .cases a
  .exact a2F.mp<|by assumption
 .have a:=Z0 z;split at a
  .cases a;rename_i h;exact⟨h,λx o ⟨j,l⟩=>by subst j;rw[l];exact⟨.refl,R,.int _⟩⟩
  .cases a
noncomputable def r9(ms:MA):MI:=λa μ=>(ms a μ).bind λp=>match p.1 with
 |[.int i,.int j,.int c]=>if r8 i j c=b5 then a7 (qB i c (a0O i j c).toNat,(a0O i j c).toNat+1,p.2)else b3|_=>b3
theorem RA(e:Gl X "range")(g:X.mg "range"=b3)(q:QA X [a,b,c] ms n):QJ X (.Call (.Name "range" p) [a,b,c] [] pos) (r9 ms):=⟨λtg b1C s σ H R I hw=>by
 have h:=q.s;rw[a0u,ZL]at h;obtain⟨O,Q,M,G,T,N,v,E,d,k⟩:=hw;obtain⟨⟨x,m⟩,y,d⟩:=ZC.mp d;refine Ry e g q.h (fD h.1) (jU h.2) b1C s σ H R I ⟨O,Q,M,x,m,v,E,y,λo U r w u l=>?_⟩;dsimp only at d;split at d
 .rename_i i j c;split at d
  .rename_i z;cases d;cases l with
   |cons l J=>
    cases l;cases J with
    |cons A K=>
     cases A;cases K with
     |cons B L=>cases B;cases L;exact⟨i,j,c,rfl,z,k o r _ w u Rz⟩
  .cases d
 .cases d⟩
noncomputable def Ao:MF:=Ai
noncomputable def Ap:MF:=Ah
noncomputable abbrev b9:=List<|List Int×Addr×V
noncomputable def cL(ps:b9)(ws:gq):List (List Int×Addr×Value):=a4j (λp w=>(p.1,p.2.1,w)) ps ws
theorem vG:∀(ps:b9)(ws:gq),a4j rK ps ws=(cL ps ws).map (a9S<|a3Z<|a4z P w)
 |[],_=>by simp[cL]
 |p::ps,[]=>by simp[cL]
 |p::ps,u::ws=>by have a:=vG (P:=P) (w:=w) ps ws;unfold cL at a ⊢;rw[a0J,a0J,ZR,a];rfl
theorem sC:∀{ps}{ws},Vals (ps.map (·.2.2)) ws->(cL ps ws).map (·.1)=ps.map (·.1)
 |[],_,_=>by simp[cL]
 |p::ps,_,.cons r t=>by have a:=sC (ps:=ps) t;unfold cL at a ⊢;rw[a0J,ZR,ZR,a]
theorem Fh:∀{ps}{ws}{x},x∈cL ps ws->∃p∈ps,p.1=x.1/\p.2.1=x.2.1
 |[],_,x,h=>by simp[cL]at h
 |p::ps,[],x,h=>by simp[cL]at h
 |p::ps,u::ws,x,h=>by
  unfold cL at h;rw[a0J]at h;rcases a0g.mp h with e|h
  .subst e;exact⟨p,a0l ..,rfl,rfl⟩
  .obtain⟨q,a,e⟩:=Fh (ps:=ps) (ws:=ws) h;exact⟨q,Z2 _ a,e⟩
noncomputable def eJ(ps:b9)(k:List Int):Option V:=(ps.find? λp=>decide<|p.1=k).map (·.2.2)
noncomputable def jJ(ps:b9)(k:List Int)(b:Addr)(v:V):b9:=if(eJ ps k).isSome then ps.map (λp=>if p.1=k then(p.1,p.2.1,v)else p)else ps++[(k,b,v)]
theorem oG:∀{ps}{ws},Vals (ps.map (·.2.2)) ws->∀k,RelO (eJ ps k) ((a5P (cL ps ws) k).map (·.2))
 |[],_,.nil,k=>by simp[eJ,cL,a5P];exact a3f
 |p::ps,_,.cons r t,k=>by
  have a:=oG (ps:=ps) t k;unfold eJ a5P cL at a ⊢;rw[a0J,a2W,a2W];by_cases e:p.1=k
  .simp only[e,decide_true];exact r
  .simp only[e,decide_false];exact a
theorem Fi ps k b v:(jJ ps k b v).length<=ps.length+1:=by unfold jJ;split<;>simp
theorem Fj(d:RelV v u):∀{ps}{ws},Vals (ps.map (·.2.2)) ws->
  ∃a,Vals ((ps.map λp=>if p.1=k then(p.1,p.2.1,v)else p).map (·.2.2)) a/\(cL ps ws).map (putAt k u)=cL (ps.map λp=>if p.1=k then(p.1,p.2.1,v)else p) a
 |[],_,.nil=>⟨[],.nil,by simp[cL]⟩|p::ps,_,.cons (b:=w) r t=>by
  obtain⟨a,c,b⟩:=Fj d (ps:=ps) t;by_cases e:p.1=k
  .refine⟨u::a,?_,?_⟩
   .rw[ZR,ZR,if_pos e];exact .cons d c
   .unfold cL at b ⊢;rw[a0J,ZR,b,ZR,if_pos e,a0J];unfold putAt;rw[if_pos e]
  .refine⟨w::a,?_,?_⟩
   .rw[ZR,ZR,if_neg e];exact .cons r c
   .unfold cL at b ⊢;rw[a0J,ZR,b,ZR,if_neg e,a0J];unfold putAt;rw[if_neg e]
theorem Fm:∀{ps}{ws},Vals (ps.map (·.2.2)) ws->cL ps ws++[(k,b,u)]=cL (ps++[(k,b,v)]) (ws++[u])
 |[],_,.nil=>by simp[cL]
 |p::ps,_,.cons r t=>by have a:=Fm (k:=k) (b:=b) (v:=v) (u:=u) (ps:=ps) t;unfold cL at a ⊢;rw[a0J,a0W,a,a0W,a0W,a0J]
theorem Fn(r:Vals (ps.map (·.2.2)) ws)k b(c:RelV v u):
  ∃a,Vals ((jJ ps k b v).map (·.2.2)) a/\b0d (cL ps ws) k b u=cL (jJ ps k b v) a:=by
 have e:=(oG r k).isSome_eq;rw[a5J]at e;unfold jJ b0d;rw[e];by_cases h:(a5P (cL ps ws) k).isSome=b5
 .rw[if_pos h,if_pos h];exact Fj c r
 .rw[if_neg h,if_neg h];refine⟨ws++[u],?_,Fm r⟩;rw[Z7];exact a9W r c
noncomputable def fE(K:ZD)(H:Hp)(ps:b9):Prop:=∀p∈ps,SqT K H p.2.1 (p.1.map V.int)
theorem mH{σ:St}{ps:b9}(I:Inv X b1C σ H s)(e:Rd H a (a8 a ps))(n:fE X.K H ps):(a==a1t)=b4/\ps.length<=ZX /\
  ∃b,Vals (ps.map (·.2.2)) b/\s.heap.DictOfH (a3Z<|a4z X.prog X.w) a (cL ps b):=by
 obtain⟨⟨b,r,v,q,o,h,g,i,j,k,l,m⟩,_⟩:=(show ObjOk X.prog X.w H s.heap a (a8 a ps)from e.ok I.hok);refine⟨v,q,b,r,o,h,g,i,j,k,by rw[l];exact vG ps b,λx w=>?_,by rw[sC r];exact m⟩;obtain⟨p,u,c,d⟩:=Fh w;rw[<- c,<- d];exact mF I<|n p u
theorem Aq{ps:b9}(l:(a==a1t)=b4)(k:ps.length<=ZX)(r:Vals (ps.map (·.2.2)) ws)(d:h'.DictOfH (a3Z<|a4z P w) a (cL ps ws)):ObjOk P w m h' a (a8 a ps):=by obtain⟨o,e,c,b,g,h,i,_,j⟩:=d;refine⟨⟨ws,r,l,k,o,e,c,b,g,h,by rw[i,vG (P:=P) (w:=w)],by rw[<- sC r];exact j⟩,⟨o,b⟩,?_⟩;rintro p q ⟨ws,r,l,k,o,e,c,b,g,h,i,j⟩ n;exact⟨ws,r,l,k,o,e,c,n o b,g,h,i,j⟩
theorem RB{σ:St}{ps:b9}(I:Inv X b1C σ H s)(e:Rd H a (a8 a ps))(b:fE X.K H ps):s.TypeIs (.ref a) "dict":=by obtain⟨_,_,c,_,d⟩:=mH I e b;exact d.typeIs
theorem qC{X:Cx}{A:a0y}(b:A.units+1<a1W):(a3Z<|a4z X.prog X.w).room A.in1:=by show A.in1.units<a1W;rw[pK];lia
theorem RC{σ:St}{ps:b9}(o:A.units+1<a1W)(I:Inv X b1C σ H s)(e:Rd H a (a8 a ps))(m:fE X.K H ps)(l:SqT X.K H b (k.map V.int))(q:eJ ps k=a7 v)(h:∀c j,Inv X b1C σ H j->RelV v c->Q c j):Z3 (a0d X.prog X.w) A (a7z (.ref a)<|.ref b) Q E s:=by
 obtain⟨x,w,u,r,d⟩:=mH I e m;obtain⟨c,hw,i⟩:=RelO.some_of (v:=v) (o:=(a5P (cL ps u) k).map (·.2)) (by rw[<- q];exact oG r k);obtain⟨p,n,g⟩:=ZH.mp hw;refine wpAny_getItem_heap (qC o) (mF I l) d n ?_;rw[g];exact h c _ (I.tok _) i
theorem RD{σ:St}{ps:b9}(l:A.units+1<a1W)(I:Inv X b1C σ H s)(e:Rd H a (a8 a ps))(i:fE X.K H ps)(g:SqT X.K H b (k.map V.int))(h:∀c,Inv X b1C σ H c->Q (.bool (eJ ps k).isSome) c):Z3 (a0d X.prog X.w) A (a0Z .In (.ref b)<|.ref a) Q E s:=by
 obtain⟨j,m,n,r,d⟩:=mH I e i;refine wpAny_in_heap (qC l) (mF I g) j d ?_;have q:=(oG r k).isSome_eq;rw[a5J]at q;rw[<- q];exact h _<|I.tok _
theorem RE{σ:St}{ps:b9}(l:A.units+1<a1W)(I:Inv X b1C σ H s)(e:Rd H a (a8 a ps))(i:fE X.K H ps)(g:SqT X.K H b (k.map V.int))(h:∀c,Inv X b1C σ H c->Q (.bool<|!(eJ ps k).isSome) c):Z3 (a0d X.prog X.w) A (a0Z .NotIn (.ref b)<|.ref a) Q E s:=by
 obtain⟨j,m,n,r,d⟩:=mH I e i;refine b0P (qC l) (mF I g) j d ?_;have q:=(oG r k).isSome_eq;rw[a5J]at q;rw[<- q];exact h _<|I.tok _
theorem RF{σ:St}{ps:b9}(x:A.units+1<a1W)(I:Inv X b1C σ H s)(e:H a=a7 (a8 a ps))(o:fE X.K H ps)(m:SqT X.K H b (k.map V.int))(hz:ps.length<ZX)(B:RelV v u)(h:∀i,Inv X b1C σ (aP H a<|a8 a<|jJ ps k b v) i->Q () i):Z3 (a0d X.prog X.w) A (setItem (.ref a) (.ref b) u) Q E s:=by
 obtain⟨w,K,G,r,d⟩:=mH I (.of e) o;have y:(cL ps G).length<=ZX:=by have:=congrArg a0F<|sC r;rw[ZF,ZF]at this;lia
 refine wpAny_setItem_heap (hsz:=y) (qC x) (mF I m) d λl c g=>h _ ?_;obtain⟨J,z,j⟩:=Fn r k b B;rw[j]at c;have n:∃q,l.get? a=a7 q:=let⟨q,_,_,p,_⟩:=c;⟨q,p⟩;exact Df I (by rw[e];exact a3f) g n<|Aq w (by have:=Fi ps k b v;lia) z c
noncomputable def IsTs(K:ZD)(π:Nat->Addr)(n:Nat)(H:Hp):b9->jx->Prop:=a4N λp q=>p.1=q.1/\SqT K H p.2.1 (p.1.map V.int)/\IsD K π n H p.2.2 q.2
theorem RG{k:List Int}(h:IsD K π n H (.ref b) (.tup<|k.map D.int)):SqT K H b (k.map V.int):=by
 cases h with
 |tup q t=>rw[ints_of' t]at q;exact q
theorem IsTs.of:∀{ps}{kvs},ps.map (·.1)=kvs.map (·.1)->IsDs K π n H (ps.map λp=>V.ref p.2.1) (kvs.map λk=>D.tup<|k.1.map D.int)->IsDs K π n H (ps.map (·.2.2)) (kvs.map (·.2))->IsTs K π n H ps kvs
 |[],[],_,_,_=>.nil|[],_::_,h,_,_=>by cases h
 |_::_,[],h,_,_=>by cases h
 |p::ps,q::kvs,h,h2,h3=>by
  cases h2 with
  |cons a b=>
   cases h3 with
   |cons c d=>rw[ZR,ZR,a4G]at h;refine .cons ⟨h.1,?_,c⟩<|IsTs.of h.2 b d;rw[h.1];exact RG a
theorem IsTs.keys:∀{ps}{kvs},IsTs K π n H ps kvs->fE K H ps
 |_,_,.nil=>λp a=>nomatch a|_,_,.cons h t=>λp a=>by
  rcases a0g.mp a with e|a
  .subst e;exact h.2.1
  .exact IsTs.keys t p a
theorem IsTs.to:∀{ps}{kvs},IsTs K π n H ps kvs->ps.map (·.1)=kvs.map (·.1)/\IsDs K π n H (ps.map λp=>V.ref p.2.1) (kvs.map λk=>D.tup<|k.1.map D.int)/\IsDs K π n H (ps.map (·.2.2)) (kvs.map (·.2))
 |_,_,.nil=>⟨rfl,.nil,.nil⟩|_,_,.cons (a:=p) (b:=q) h t=>by obtain⟨a,b,c⟩:=IsTs.to t;refine⟨by rw[ZR,ZR,h.1,a],.cons ?_ b,.cons h.2.2 c⟩;show IsD K π n H (.ref p.2.1) (.tup<|q.1.map D.int);rw[<- h.1];exact .tup h.2.1<|Ab p.1
theorem IsTs.val k:∀{ps}{kvs},IsTs K π n H ps kvs->(eJ ps k=b3/\b8 kvs k=b3)\/∃v d,eJ ps k=a7 v/\b8 kvs k=a7 d/\IsD K π n H v d
 |_,_,.nil=>.inl ⟨rfl,rfl⟩|_,_,.cons (a:=p) (b:=q) h t=>by
  have a:=IsTs.val k t;unfold eJ b8 at a ⊢;rw[a2W,a2W,<- h.1];by_cases e:p.1=k
  .simp only[e,decide_true];exact .inr ⟨_,_,rfl,rfl,h.2.2⟩
  .simp only[e,decide_false];exact a
theorem IsTs.put(h:IsTs K π n H ps kvs)k(j:SqT K H b (k.map V.int))(i:IsD K π n H v d):IsTs K π n H (jJ ps k b v) (dW kvs k d):=by
 have e:(eJ ps k).isSome=(b8 kvs k).isSome:=by rcases h.val k with⟨c,g⟩|⟨v,d,c,g,_⟩<;>rw[c,g]<;>rfl
 have a:∀{ps:b9}{kvs:jx},IsTs K π n H ps kvs->IsTs K π n H (ps.map λp=>if p.1=k then(p.1,p.2.1,v)else p) (kvs.map λp=>if p.1=k then(p.1,d)else p):=by
  intro ps kvs h;unfold IsTs at h;induction h with
  |nil=>exact .nil|@cons p q ps m h t l=>
   rw[ZR,ZR];refine .cons ?_ l;by_cases z:p.1=k
   .rw[if_pos z,if_pos<|h.1.symm.trans z];exact⟨h.1,h.2.1,i⟩
   .rw[if_neg z,if_neg λy=>z<|h.1.trans y];exact h
 unfold jJ dW;rw[e];split
 .exact a h
 .exact a9W h ⟨rfl,j,i⟩
theorem iP{kvs:jx}(R:Rp K π H μ)(h:μ[a]?=a7 (.dT kvs)):∃ps,H (π a)=a7 (a8 (π a) ps)/\IsTs K π μ.length H ps kvs:=by obtain⟨ps,b,c,d,e⟩:=R.dT a kvs h;exact⟨ps,b,.of c d e⟩
theorem qD{kvs:jx}(R:Rp K π H μ)(h:μ[a]?=a7 (.dF kvs)):∃ob ps,H (π a)=a7 (.frz ob<|a8 (π a) ps)/\IsTs K π μ.length H ps kvs:=by obtain⟨ob,ps,b,c,d,e⟩:=R.dF a kvs h;exact⟨ob,ps,b,.of c d e⟩
theorem lE(h:IsD K π n H v x)(e:dN x=a7 k):∃b,v=.ref b/\SqT K H b (k.map V.int):=by
 have:=EK e;subst this;cases h with
 |tup q t=>rw[ints_of' t]at q;exact⟨_,rfl,q⟩
noncomputable def gA:ME:=λ_ μ=>a7 (.loc μ.length,μ++[.dT []])
theorem RH(h:a1d)(a:a1t<h.objs.size):ObjOk P w H (h.push {cls:=.type "dict",data:=.dict #[]}) h.objs.size (a8 h.objs.size []):=
 Aq (ws:=[]) (beq_eq_false_iff_ne.mpr<|a0o<|Z6 a) (a0I _) .nil<|b1f h
noncomputable def RI:TE:=λ_ H Q=>∀p,H p=b3->Q (.ref p) (aP H p<|a8 p [])
theorem RJ:PE X (.Dict [] [] pos) RI:=λb1C s σ H Q I h=>wpAny_Dict_empty ⟨.ref s.heap.objs.size,_,I.laid (a:=s.heap.objs.size) (o:=a8 s.heap.objs.size []) (t':=s.toks) (λ_ _ q=>ZK _ q) (ZN _)<|RH s.heap I.big,rfl,h _<|I.hok.fresh<|ZN _⟩
theorem RK:QE X (.Dict [] [] pos) gA:=⟨dE RJ<|by
 rintro m H Q ⟨j,l,i,d,g,R,E,c,k⟩ p e;cases c;obtain⟨b,a,h⟩:=R.alloc (c:=.dT []) (o:=a8 p []) e ⟨[],rfl,rfl,.nil,.nil⟩;exact k _ _ _ b a jC⟩
noncomputable def sD:D->D->Hm->jk
 |.loc a,y,μ=>match μ[a]? with
  |some (.dT kvs)=>(dN y).bind λk=>(b8 kvs k).map λd=>(d,μ)|some (.dF kvs)=>(dN y).bind λk=>(b8 kvs k).map λd=>(d,μ)|_=>b3
 |_,_,_=>b3
noncomputable def Fo(K:ZD):R2:=λx y H Q=>∃a b ps k v,x=.ref a/\y=.ref b/\Rd H a (a8 a ps)/\fE K H ps/\SqT K H b (k.map V.int)/\eJ ps k=a7 v/\Q v H
theorem RL(z:X.A.units+1<a1W)(r:PE X a td)(hi:PE X b ty)(w:Dg b):PE X (.Subscript a b pos) (λσ H Q=>td σ H λx d=>ty σ d λy g=>Fo X.K x y g Q):=by intro c s σ H Q I h;refine Mn PySem.F.slot_dict_getitem.lookup w<|aW (r c s σ H _ I h) λu L ⟨x,d,m,J,E⟩=>aW (hi c L σ d _ m E) λB N ⟨y,g,j,K,a,b,M,k,v,o,p,e,l,q,A,G⟩=>?_;subst o p;obtain rfl:u=ZZ a:=J;obtain rfl:B=ZZ b:=K;exact⟨RB j e l,RC z j e l q A λR O n i=>⟨v,g,n,i,G⟩⟩
theorem RM:dG K sD (Fo K):=by
 intro u H J x y d E G I Q R r s c k;unfold sD at c;split at c
 .split at c
  .rename_i m hc;obtain⟨h,j,c⟩:=ZC.mp c;obtain⟨w,g,c⟩:=ZH.mp c;cases c;cases r;obtain⟨n,i,T⟩:=iP R hc;obtain⟨b,rfl,l⟩:=lE s j;rcases T.val h with⟨_,z⟩|⟨v,A,o,p,q⟩
   .rw[z]at g;cases g
   .rw[p]at g;cases g;exact⟨_,b,n,h,v,rfl,rfl,.of i,T.keys,l,o,k u _ H .refl R q⟩
  .rename_i m hc;obtain⟨h,j,c⟩:=ZC.mp c;obtain⟨w,g,c⟩:=ZH.mp c;cases c;cases r;obtain⟨B,n,i,T⟩:=qD R hc;obtain⟨b,rfl,l⟩:=lE s j;rcases T.val h with⟨_,z⟩|⟨v,A,o,p,q⟩
   .rw[z]at g;cases g
   .rw[p]at g;cases g;exact⟨_,b,n,h,v,rfl,rfl,.inr ⟨B,i⟩,T.keys,l,o,k u _ H .refl R q⟩
  .cases c
 .cases c
theorem RN(g:Room k X.A)(c:QE X a ma)(d:QE X b mb)(h:pS b=b5):QE X (.Subscript a b pos) (aB sD ma mb):=⟨dE (RL (kE g) c.h d.h<|D7 h)<|rN RM⟩
noncomputable def RO(K:ZD)(td ty tv:TE):TS:=λD σ H=>tv σ H λv d=>td σ d λx g=>ty σ g λy c=>∃a b ps k,x=.ref a/\y=.ref b/\c a=a7 (a8 a ps)/\fE K c ps/\SqT K c b (k.map V.int)/\ps.length<ZX/\D.nx σ (aP c a<|a8 a<|jJ ps k b v)
theorem RP(G:X.A.units+1<a1W)(B:PE X o td)(hi:PE X i ty)(J:PE X e tv)(E:a4a e (a7<|.Subscript o i tpos) pos.line X.env=pure b4):
  PS X (.Assign [.Subscript o i tpos] e pos) (RO X.K td ty tv):=by
 intro c s d H D I h;refine wpAny_Assign_Subscript (aW (J c s d H _ I h) λr U ⟨v,g,l,Q,M⟩=>aW (B c U d g _ l M) λu Y ⟨x,j,m,R,N⟩=>aW (hi c Y d j _ m N) λL s3 ⟨y,Z,n,T,a,b,ps,k,q,w,e,A,z,K,O⟩=>?_) E;subst q w;obtain rfl:u=ZZ a:=R;obtain rfl:L=ZZ b:=T;exact RF G n e A z K Q λs4 p=>⟨d,_,p,O⟩
theorem RQ(hr:Room g X.A)(ho:QE X o mo)(hi:QE X i mi)(he:QE X e me)(h:jV e=b5):QS X (.Assign [.Subscript o i tpos] e pos) (Al r6 mo mi me):=
 ⟨jS (RP (M4 hr) ho.h hi.h he.h<|uZ h)<|by
 rintro E σ H ⟨π,J,μ,fl,ρ',μ',R,m,d,k⟩;obtain⟨⟨x,j⟩,h1,d⟩:=ZC.mp d;obtain⟨⟨y,l⟩,h2,d⟩:=ZC.mp d;obtain⟨⟨z,A⟩,h3,d⟩:=ZC.mp d;obtain⟨μ4,c,d⟩:=ZH.mp d;cases d;refine⟨π,J,μ,x,j,R,m,h1,λB v1 H1 n O i1=>⟨B,J,j,y,l,O,m.mono n,h2,λG v2 H2 p R2 i2=>⟨G,J,l,z,A,R2,(m.mono n).mono p,h3,λI v3 H3 q K i3=>?_⟩⟩⟩;cases y with
 |loc a=>
  simp only[r6]at c;split at c
  .rename_i v hc;obtain⟨g,h5,c⟩:=ZC.mp c;split at c
   .rename_i hz;cases c;have u:=i2.mono q;cases u with
    |loc r=>
     obtain⟨w,M,T⟩:=iP K hc;obtain⟨b,rfl,N⟩:=lE i3 h5;have hv:=(i1.mono p).mono q;have U:=T.put g N hv;obtain⟨Y,Z,g3⟩:=U.to;have s:w.length<ZX:=by have:=congrArg a0F (T.to).1;rw[ZF,ZF]at this;lia
     refine⟨_,b,w,g,rfl,rfl,M,T.keys,N,s,?_⟩;obtain⟨L,Q⟩:=K.put (c:=.dT (dW v g x)) (o:=a8 _ (jJ w g b v1)) r M (.inr<|.inr ⟨_,rfl⟩) ⟨_,rfl,Y,Z,g3⟩;exact k I σ _ (((n.trans p).trans q).trans L) Q<|(((m.mono n).mono p).mono q).mono L
   .cases c
  .cases c
 |_=>simp[r6]at c⟩
noncomputable def sE(b:Bool):D->D->Hm->jk
 |x,.loc a,μ=>match μ[a]? with
  |some (.dT kvs)=>(dN x).map λk=>(.bl<|if b then !(b8 kvs k).isSome else(b8 kvs k).isSome,μ)|some (.dF kvs)=>(dN x).map λk=>(.bl<|if b then !(b8 kvs k).isSome else(b8 kvs k).isSome,μ)|_=>b3
 |_,_,_=>b3
noncomputable def Ar(K:ZD)(c:Bool):R2:=λx y H Q=>∃a b ps k,x=.ref b/\y=.ref a/\Rd H a (a8 a ps)/\fE K H ps/\SqT K H b (k.map V.int)/\Q (.bl<|if c then !(eJ ps k).isSome else(eJ ps k).isSome) H
theorem Fp(j:X.A.units+1<a1W):OpR X (a0Z .In) (Ar X.K b4):=by intro d s p H x y v u Q I l m h;obtain⟨a,b,n,k,rfl,rfl,e,i,g,q⟩:=h;obtain rfl:v=ZZ b:=l;obtain rfl:u=ZZ a:=m;exact RD j I e i g λo c=>⟨.bl _,H,c,rfl,q⟩
theorem Fq(j:X.A.units+1<a1W):OpR X (a0Z .NotIn) (Ar X.K b5):=by intro d s p H x y v u Q I l m h;obtain⟨a,b,n,k,rfl,rfl,e,i,g,q⟩:=h;obtain rfl:v=ZZ b:=l;obtain rfl:u=ZZ a:=m;exact RE j I e i g λo c=>⟨.bl _,H,c,rfl,q⟩
theorem vH:dG K (sE j) (Ar K j):=by
 intro q H z x y d s u w Q R o p a k;unfold sE at a;split at a
 .split at a
  .rename_i h hc;obtain⟨g,c,a⟩:=ZH.mp a;cases a;cases p;obtain⟨l,m,T⟩:=iP R hc;obtain⟨b,rfl,n⟩:=lE o c;have e:(eJ l g).isSome=(b8 h g).isSome:=by rcases T.val g with⟨c,i⟩|⟨v,d,c,i,_⟩<;>rw[c,i]<;>rfl
   refine⟨_,b,l,g,rfl,rfl,.of m,T.keys,n,?_⟩;rw[e];exact k q _ H .refl R<|.bl _
  .rename_i h hc;obtain⟨g,c,a⟩:=ZH.mp a;cases a;cases p;obtain⟨r,l,m,T⟩:=qD R hc;obtain⟨b,rfl,n⟩:=lE o c;have e:(eJ l g).isSome=(b8 h g).isSome:=by rcases T.val g with⟨c,i⟩|⟨v,d,c,i,_⟩<;>rw[c,i]<;>rfl
   refine⟨_,b,l,g,rfl,rfl,.inr ⟨r,m⟩,T.keys,n,?_⟩;rw[e];exact k q _ H .refl R<|.bl _
  .cases a
 .cases a
noncomputable def RawD(h:a1d)(d:Addr)(b:Array DictEntry)(a:Nat):Prop:=∃z,h.get? d=a7 z/\z.ExactDict/\z.data=.dict b a
theorem RawD.ty{s:ZJ}{es ep}(g:RawD s.heap d es ep):s.TypeIs (.ref d) "dict":=let⟨z,a,b,_⟩:=g;⟨z,a,b.1⟩
theorem RawD.stay{es ep}(g:RawD h d es ep)(k:∀o,h.get? d=a7 o->h'.get? d=a7 o):RawD h' d es ep:=let⟨z,a,b⟩:=g;⟨z,k z a,b⟩
theorem RawD.lt{h:a1d}{d:Addr} {es ep} (g:RawD h d es ep):d<h.objs.size:=let⟨_,a,_⟩:=g;ZV a
theorem Au(lo:(d==a1t)=b4)(g:RawD s.heap d es ep)(q:Q (.ref s.heap.objs.size) {s with heap:=s.heap.push {cls:=.type "dict_keyiterator",data:=.fields #[.ref d,.int 0 0,.int es.size 0,.int ep 0]}}):Z3 (a0d P w) A (a4Y<|.ref d) Q E s:=by
 obtain⟨z,a,c,b⟩:=id g;refine a6C g.ty F.slot_dict_iter<|a1Q F.slot_dict_iter g.ty F.entry_dict_iter ?_<|F.args_dict_iter_1 _;unfold Builtin.«dict.__iter__» b1n;refine ZE<|ZE<|a3m g.ty ?_;show Z3 _ _ (pure<|ZZ d) _ _ _;refine ZM ?_;show Z3 _ _ (a1P d >>= _) _ _ _;unfold a1P;rw[if_neg λx=>a0a<|lo.symm.trans x];refine ZE<|ZM<|ZE<|a1q a b<|ZE<|a3c a b<|ZE<|a1f<|ZM ?_;exact⟨_,rfl,"dict_keyiterator",_,⟨_,ZW _ rfl,rfl⟩,F.slot_dict_keyiterator_next.lookup,by simpa[a3A]using q⟩
theorem vJ(o:A.handled=b3)(j:s.heap.IsKeyIter it d i es.size ep)(g:RawD s.heap d es ep)(r:∀e a,es[i]?=a7 e->a.IsKeyIter it d (i+1) es.size ep->a2n it s.heap a->Q (a7 e.key) {s with heap:=a})(v:es[i]?=b3->∀a,a4E it s.heap a->Q b3 {s with heap:=a}):Z3 (a0d P w) A (a4b<|.ref it) Q E s:=by
 obtain⟨y,c,p,b⟩:=id j;obtain⟨z,l,B,m⟩:=id g;have k:∀{Q:String->ZJ->Prop}{A:a0y}{E:Value->ZJ->Prop},Q "dict_keyiterator" s->Z3 (a0d P w) A (a7p<|.ref it) Q E s:=λq=>wpAny_typeNameOfWhole_keyiter j.typeIs q;unfold a4b;refine ZE<|a8l<|a5k (name:=a1r "__next__") j.typeIs F.slot_dict_keyiterator_next<|a1Q F.slot_dict_keyiterator_next j.typeIs F.entry_dict_keyiterator_next ?_<|F.args_dict_keyiterator_next_1 _;refine ZE<|ZM<|ZE<|ZE<|ZE<|k<|ZM<|ZE<|a7G c b ?_;simp only[show a1X "dict_keyiterator"=b4 by decide,Z5,if_false];show Z3 _ _ (if(ZZ d==a0T)=b5 then _ else _) _ _ _;rw[if_neg<|show ¬ (ZZ d==a0T)=b5 from λx=>a0a x];refine ZE<|ZM<|ZE<|a1q l m ?_;rw[if_neg λx=>by simp at x];refine ZE<|ZM<|ZE<|a3c l m ?_;rw[if_neg λx=>by simp at x];refine ZM ?_;simp only[if_neg<|show ¬ ((i:Int)<0) by lia,a4I];cases n:es[i]? with
 |some e=>
  refine ZE<|ZE<|k<|ZM<|ZE<|a9c j.typeIs ?_;show Z3 _ _ (a6E (.ref it) 1 (a3A<|(i:Int)+1) >>= _) _ _ _;refine ZE (a4L c b (by simp) ?_);have h:(s.heap.update it<|a5K (·.setIfInBounds 1<|a3A<|(i:Int)+1)).IsKeyIter it d (i+1) es.size ep:=
   ⟨_,a1Z _ c<|a8e<|a4t b _,(a9i ..).trans p,by simp[a4t b,a3A]⟩
  generalize hu:s.heap.update it (a5K (·.setIfInBounds 1<|a3A<|(i:Int)+1))=u at h;refine ZE<|a1i<|ZE<|a9c (s:={s with heap:=u}) h.typeIs ?_;show Z3 _ _ (pure e.key) _ _ _;exact ZM<|ZM ⟨_,rfl,ZM<|r e u n h<|hu▸a1M ..⟩
 |none=>refine ZE<|ZE<|k<|ZM ?_;show Z3 _ _ (a6E (.ref it) 0 .none >>= _) _ _ _;refine ZE (a4L c b (by simp) ?_);show Z3 _ _ (a8J (.type "StopIteration") [] >>= _) _ _ _;simp only[a8J,b1u];refine ZE (ZE<|a1f ?_<|by size_fits);refine ZE (m:=a3R _ _) (a5O (a:=a0T) (by first|rfl|(simp only[a3R];rfl))<|a1f ?_<|by size_fits);simp only[b1t];refine ZE<|a8j ?_;rw[show A.in1.handled=b3 from o];refine ZE<|ZM<|a9s ?thrown;case thrown=>exact ZE<|a3w (T:="StopIteration") (b:=b5) ⟨_,ZW _ rfl,rfl⟩ a7K<|ZM<|v n _<|((a1M ..).extBut.push _).push _
theorem Fs(m:A.handled=b3)(l:d≠it)es ep:Walks P w A it [it,d] [it] es.size (λi v=>∃e,es[i]?=a7 e/\v=e.key) (λi h=>h.IsKeyIter it d i es.size ep/\RawD h d es ep) where
 sub:=λb a=>by rw[a0r.mp a];exact a0l ..
 frame:=λ_ _ _ st k=>⟨st.1.at λo e=>k it (by simp) o e,st.2.stay λo e=>k d (by simp) o e⟩
 item:=λi s Q E hi st q=>vJ m st.1 st.2 (λe j c p n=>q _ j s.toks ⟨e,c,rfl⟩ ⟨p,st.2.stay λo g=>n.extBut d o l g⟩ λb o a g=>n.extBut b o (λz=>a<|by simp[z]) g) λc=>by simp at c;lia
 done:=λs Q E st q=>vJ m st.1 st.2 (λe j c=>by simp at c) λ_ j x=>q j s.toks λb o a g=>x b o (λz=>a<|by simp[z]) g
 self:=λ_ _ _ _ st q=>a9t st.1 q
theorem Ft(lo:(d==a1t)=b4):PySem.W.KdlSrc P w "dict" d d es.size (λi v=>∃e,es[i]?=a7 e/\v=e.key) (λh=>RawD h d es ep) where
 type:=λ_ g=>g.ty
 there:=λ_ g=>⟨g.lt,g.lt⟩
 keep:=λ_ _ g k=>g.stay λo e=>k d (.inl rfl) o e
 notList:=by decide
 notTuple:=by decide
 hint:=λ_ _ _ _ g q=>PySem.W.kdl_hint_dict g.ty q
 iter:=λ_ _ a g=>⟨_,_,(λ_ _ q=>Au lo g q),Fs a (Z6 g.lt) es ep,⟨⟨_,ZW _ rfl,rfl,rfl⟩,g.stay λo e=>ZK _ e⟩⟩
theorem RR(lo:(d==a1t)=b4):b0m P w (Builtin.«dict.__len__» ⟨[.ref d],[]⟩) (λ_ R s=>∃es ep,RawD s.heap d es ep/\R (.ok<|.ret<|.int (es.size:Nat) s.toks) {s with toks:=s.toks+1}):=
 .of_wp λA R s ⟨es,ep,⟨z,a,c,b⟩,q⟩=>by show Z3 _ _ (dictSize d >>= _) _ _ _;unfold dictSize;refine ZE<|ZE<|a1q a b<|ZM ?_;show Z3 _ _ (b1j d >>= _) _ _ _;refine ZE<|wpAny_pendingCount_other lo<|wpAny_ret_mkInt ?_;rw[Nat.add_zero];exact q
theorem RS{s:ZJ}(lo:(d==a1t)=b4)(g:RawD s.heap d es ep)(hz:es.size<=ZX)(q:Q (.int (es.size:Nat)<|s.toks+1) {s with toks:=s.toks+1+1}):Z3 (a0d P w) A (call (.builtin "len") [.ref d]) Q E s:=
 b0X g.ty F.slot_dict_len (λb a=>a5w F.slot_dict_len g.ty F.entry_dict_len (F.args_dict_len_1 _) (RR lo) ⟨es,ep,g,a⟩) (by lia) (by rw[a0n]at hz;lia) q
theorem Av:∀{ps}{ws},Vals (ps.map (·.2.2)) ws->(cL ps ws).map (λx=>ZZ x.2.1)=ps.map λp=>ZZ p.2.1
 |[],_,_=>by simp[cL]
 |p::ps,_,.cons r t=>by have a:=Av (ps:=ps) t;unfold cL at a ⊢;rw[a0J,ZR,ZR,a]
theorem Fu:∀ps:b9,Vals (ps.map λp=>V.ref p.2.1) (ps.map λp=>ZZ p.2.1)
 |[]=>.nil|p::ps=>.cons rfl<|Fu ps
theorem qE{σ:St}{ps:b9}(I:Inv X b1C σ H s)(e:H a=a7 (a8 a ps))(j:fE X.K H ps):(a==a1t)=b4/\ps.length<=ZX/\∃b c,RawD s.heap a b c/\b.toList.map (·.key)=ps.map λp=>ZZ p.2.1:=by obtain⟨l,k,m,r,z,b,c,d,g,h,i,_⟩:=mH I (.of e) j;refine⟨l,k,b,c,⟨z,d,g,h⟩,?_⟩;rw[i,ZS,<- Av r];rfl
noncomputable def Fv(K:ZD):gw->Hp->VK->Prop:=λxs H Q=>∃a ps,xs=[V.ref a]/\H a=a7 (a8 a ps)/\fE K H ps/\Q (.int ps.length) H
theorem RT:CallR X (.builtin "len") (Fv X.K):=by
 intro b1C s σ H o n Q I r h;obtain⟨a,ps,rfl,c,e,q⟩:=h;obtain⟨u,rfl,k⟩:=fP r;cases k;obtain⟨j,m,b,l,g,d⟩:=qE I c e;have i:b.size=ps.length:=by have:=congrArg a0F d;simpa using this
 refine RS j g (by lia) ?_;rw[i];exact⟨.int ps.length,H,(I.tok _).tok _,⟨_,rfl⟩,q⟩
noncomputable def Fw(K:ZD):gw->Hp->VK->Prop:=λxs H Q=>∃a ps,xs=[V.ref a]/\H a=a7 (a8 a ps)/\fE K H ps/\∀l,H l=b3->Q (.ref l) (aP H l<|.lst<|ps.map λp=>V.ref p.2.1)
theorem RU(hc:X.calm=b5):CallR X (.type "list") (Fw X.K):=by
 intro b1C s σ H N M Q I r h;obtain⟨a,ps,rfl,x,y,q⟩:=h;obtain⟨u,rfl,E⟩:=fP r;cases E;obtain⟨B,z,m,J,g,d⟩:=qE I x y;have L:m.size=ps.length:=by have:=congrArg a0F d;simpa using this
 refine PySem.W.kdl_call (Ft B) (I.ok.hd hc) g (by lia) λK G b k A w c=>?_;refine⟨.ref s.heap.objs.size,_,I.laid (t':=G) (a:=s.heap.objs.size) (o:=.lst (ps.map λp=>V.ref p.2.1)) A (ZN _) ?_,rfl,q _<|I.hok.fresh<|ZN _⟩;refine⟨by rw[ZF];exact z,b.toList,k,?_,by simpa using w⟩;have l:b.toList=ps.map λp=>ZZ p.2.1:=by
  rw[<- d];refine a5V λi=>?_;rw[ZU,a1g,a1g];cases j:b[i]? with
  |some v=>obtain⟨e,n,o⟩:=c.2 i v j;rw[n,o];rfl|none=>
   have:b.size<=i:=by simpa using j
   rw[a7x<|by rw[<- c.1];exact this];rfl
 rw[l];exact Fu ps
theorem RV(l:Room k X.A)(g:QE X a ma)(j:QE X b mb)(h:pS b=b5):QE X (.Subscript a b pos) (aB aF ma mb):=
 n5 (RN l g j h) (O9 g j h)<|iN λx y m r c=>by
  unfold aF at c;split at c
  .split at c
   .rename_i d hc;refine .inl ?_;simp only[sD,hc];exact c
   .rename_i d hc;refine .inl ?_;simp only[sD,hc];exact c
   .exact .inr c
  .exact .inr c
noncomputable def qF(c:Bool):D->D->Hm->jk:=λx y μ=>match sE c x y μ with
 |some r=>a7 r|none=>l6 c x y μ
theorem vK x y μ r(h:qF c x y μ=a7 r):sE c x y μ=a7 r\/l6 c x y μ=a7 r:=by
 unfold qF at h;split at h
 .rename_i z;rw[z];exact .inl h
 .exact .inr h
theorem Fx x y μ r(h:cY g x y μ=a7 r):(∃i j,x=.str i/\y=.str j)\/qF g x y μ=a7 r:=by
 cases y with
 |loc a=>
  refine .inr ?_;have e:cY g x (.loc a) μ=(match μ[a]? with
   |some (.dT d)=>(dN x).map λk=>(D.bl<|if g then !(b8 d k).isSome else(b8 d k).isSome,μ)|some (.dF d)=>(dN x).map λk=>(D.bl<|if g then !(b8 d k).isSome else(b8 d k).isSome,μ)
   |_=>l6 g x (.loc a) μ):=by cases x<;>rfl
  rw[e]at h;unfold qF;simp only[sE];cases hc:μ[a]? with
  |none=>rw[hc]at h;exact h|some c=>
   rw[hc]at h;cases c with
   |dT d=>dsimp only at h ⊢;rw[h]|dF d=>dsimp only at h ⊢;rw[h]|_=>exact h
 |str j=>
  cases x with
  |str i=>exact .inl ⟨i,j,rfl,rfl⟩|_=>exact .inr h
 |_=>cases x<;>exact .inr h
theorem Fy x y μ r(h:cY b4 x y μ=a7 r):zJ x y μ=a7 r\/qF b4 x y μ=a7 r:=by
 rcases Fx x y μ r h with⟨i,j,rfl,rfl⟩|z
 .exact .inl h
 .exact .inr z
theorem Fz x y μ r(h:cY b5 x y μ=a7 r):zW x y μ=a7 r\/qF b5 x y μ=a7 r:=by
 rcases Fx x y μ r h with⟨i,j,rfl,rfl⟩|z
 .exact .inl h
 .exact .inr z
theorem RW(g:Room k X.A)(c:QE X a ma)(d:QE X b mb)(h:gI b=b5):QE X (.Compare a [.In] [b] pos) (aB (cY b4) ma mb):=
 n5 ⟨fY CU DW c.h d.h<|jH h⟩ (n5 ⟨fY (Fp<|kE g) vH c.h d.h<|jH h⟩ ⟨fY (Ek<|u6 g) u4 c.h d.h<|jH h⟩<|iN vK)<|iN Fy
theorem RX(g:Room k X.A)(c:QE X a ma)(d:QE X b mb)(h:gI b=b5):QE X (.Compare a [.NotIn] [b] pos) (aB (cY b5) ma mb):=
 n5 ⟨fY Dm Eo c.h d.h<|jH h⟩ (n5 ⟨fY (Fq<|kE g) vH c.h d.h<|jH h⟩ ⟨fY (Em<|u6 g) u4 c.h d.h<|jH h⟩<|iN vK)<|iN Fz
theorem RY(g:Room k X.A)(c:QE X a ma)(d:QE X b mb)(h:gI b=b5):QT X (.Compare a [.In] [b] pos) (aU<|aB (cY b4) ma mb):=
 pT ⟨fZ CU DW c.h d.h<|jH h⟩ (pT ⟨fZ (Fp<|kE g) vH c.h d.h<|jH h⟩ ⟨fZ (Ek<|u6 g) u4 c.h d.h<|jH h⟩<|pU<|iN vK)<|pU<|iN Fy
theorem RZ(g:Room k X.A)(c:QE X a ma)(d:QE X b mb)(h:gI b=b5):QT X (.Compare a [.NotIn] [b] pos) (aU<|aB (cY b5) ma mb):=
 pT ⟨fZ Dm Eo c.h d.h<|jH h⟩ (pT ⟨fZ (Fq<|kE g) vH c.h d.h<|jH h⟩ ⟨fZ (Em<|u6 g) u4 c.h d.h<|jH h⟩<|pU<|iN vK)<|pU<|iN Fz
theorem R0(g:Room k X.A)(d:QE X o mo)(hi:QE X i mi)(c:QE X e me)(h:jV e=b5):QS X (.Assign [.Subscript o i tpos] e pos) (dB mo mi me):=RQ g d hi c h
noncomputable def Aw(K:ZD)(a b:Addr):It:=
 ⟨λi H=>∃c d x y,SqL K H a c/\SqL K H b d/\c[i]?=a7 x/\d[i]?=a7 y,
   λi H z e=>∃p v u,z=.ref p/\H p=b3/\e=aP H p (.tup [v,u])/\(∀c,SqL K H a c->c[i]?=a7 v)/\∀d,SqL K H b d->d[i]?=a7 u,
   λi H=>∃c d,SqL K H a c/\SqL K H b d/\(c.length<=i\/d.length<=i)⟩
theorem R6(A:ZipApart z n to l m a b):
  Turn Qc P w K (.Tuple es kx pt) (Aw K a b) [z,n,to,l,m] z (λi h=>IsZip h z n to .none/\IsPair h n (.ref l) (.ref m)/\(∃u v,IsPair h to u v)/\h.IsListIter l a i/\h.IsListIter m b i) where
 mem:=by simp
 obj:=λi h ⟨r,B,⟨u,v,J⟩,L,M⟩ c hc=>by
  have hc':c=z\/c=n\/c=to\/c=l\/c=m:=by simpa using hc
  rcases hc' with rfl|rfl|rfl|rfl|rfl
  .exact⟨_,r,λq e=>by
    have R:a0B _=a4Q q:=e;cases R⟩
  .exact⟨_,B,λq e=>by
    have R:a8i _ _=a4Q q:=e;cases R⟩
  .exact⟨_,J,λq e=>by
    have R:a8i _ _=a4Q q:=e;cases R⟩
  .obtain⟨o,e1,c,d⟩:=L;exact⟨o,e1,λv e=>by rw[d]at e;cases e⟩
  .obtain⟨o,e1,c,d⟩:=M;exact⟨o,e1,λv e=>by rw[d]at e;cases e⟩
 keep:=λi h h' ⟨r,B,⟨u,v,J⟩,L,M⟩ k=>⟨k z (by simp) _ r,k n (by simp) _ B,⟨u,v,k to (by simp) _ J⟩,L.at λo e=>k l (by simp) o e,M.at λo e=>k m (by simp) o e⟩;item:=by
  intro X hP hw hK hc i Z s σ H E I U ⟨r,B,⟨u,v,J⟩,L,M⟩ hg;subst hP hw hK;obtain⟨xs,ys,x,y,Y,G,Q,hy⟩:=hg;obtain⟨its,rv,p,hz⟩:=I.list Y;obtain⟨T,N,p2,hz2⟩:=I.list G;obtain⟨u1,kE,ru1⟩:=rv.get Q;obtain⟨u2,hu2,ru2⟩:=N.get hy;refine wpAny_pyNext_zip_item A r B J L M p.isList p2.isList (x:=u1) (y:=u2) (by simpa using kE) (by simpa using hu2) λh1 a1 a2 a3 a4 a5 a6 hk=>⟨_,rfl,wpAny_letOwnedTupleGo_zip a1 λh2 b1 j=>?_⟩;have ne:∀{c o},s.heap.get? c=a7 o->s.heap.objs.size≠c:=λe=>a2a<|ZV e;have l4:∃o,s.heap.get? l=a7 o:=let⟨o,e,_⟩:=L;⟨o,e⟩;have l5:∃o,s.heap.get? m=a7 o:=let⟨o,e,_⟩:=M;⟨o,e⟩;have ht2:h2.get? s.heap.objs.size=a7 {cls:=.type "tuple",data:=.seq #[u1,u2]}:=(j.2 _<|ne r).trans a5;have hfr:H s.heap.objs.size=none:=I.hok.fresh<|ZN _;have g2':IsPair h2 n (.ref l) (.ref m):=(j.2 _ A.TIz).trans<|hk _ _ A.TIz A.TITO A.TIi1 A.TIi2 B;refine⟨.ref s.heap.objs.size,aP H s.heap.objs.size<|.tup [x,y],?_,rfl,⟨s.heap.objs.size,x,y,rfl,hfr,rfl,λws hw=>by rw[I.list_inj hw Y];exact Q,λws hw=>by rw[I.list_inj hw G];exact hy⟩,
   ⟨b1,g2',⟨_,_,(j.2 _ A.TOz).trans a2⟩,a3.extBut j.extBut A.i1z,a4.extBut j.extBut A.i2z⟩,λc O=>?_⟩
  .refine Aj (s:=s) (h':=h2) (t':=s.toks) (ch:=[z,n,to,l,m]) I (λc oc O ec=>?_) U (ZN _) ?_
   .have g:c≠z/\c≠n/\c≠to/\c≠l/\c≠m:=by simpa using O
    exact(j.2 c g.1).trans<|hk c oc g.1 g.2.2.1 g.2.2.2.1 g.2.2.2.2 ec
   .exact⟨by show(2:Nat)<=ZX;decide,[u1,u2],.cons ru1<|.cons ru2 .nil,_,ht2,rfl,0,rfl,rfl⟩
  .have g:c=z\/c=n\/c=to\/c=l\/c=m:=by simpa using O
   have hn:=(U c O).1;rw[bN]
   .exact hn
   .rcases g with rfl|rfl|rfl|rfl|rfl
    .exact(ne r).symm
    .exact(ne B).symm
    .exact(ne J).symm
    .exact(ne l4.choose_spec).symm
    .exact(ne l5.choose_spec).symm
 done:=by
  intro X hP hw hK hc i Z s σ H E I U ⟨r,B,⟨u,v,J⟩,L,M⟩ hg;subst hP hw hK;obtain⟨xs,ys,Y,G,Q⟩:=hg;obtain⟨its,rv,p,hz⟩:=I.list Y;obtain⟨T,N,p2,hz2⟩:=I.list G;have hl:=rv.length;have hl2:=N.length;refine wpAny_pyNext_zip_end (I.ok.hd hc) A r B J L M p.isList p2.isList ?_ λh' eb=>⟨rfl,Fc (t':=s.toks) (ch:=[z,n,to,l,m]) I (λc o O e=>?_) U⟩
  .rcases Q with Q|Q
   .exact .inl<|by simp;lia
   .exact .inr<|by simp;lia
  .have g:c≠z/\c≠n/\c≠to/\c≠l/\c≠m:=by simpa using O
   exact eb c o g.1 g.2.2.1 g.2.2.2.1 g.2.2.2.2 e
 self:=λ_ _ _ _ _ ⟨r,_⟩ h=>b0n r h
noncomputable def oH(x y:D):fQ:=λμ i=>(bK μ x).bind λxs=>(bK μ y).map λa=>(xs[i]?).bind λd=>(a[i]?).map λe=>.tup [d,e]
noncomputable def sF(ms:MA):MI:=λc μ=>(ms c μ).bind λp=>match p.1 with
 |[x,y]=>(eH p.2 x).bind λa=>(eH p.2 y).map λb=>(oH x y,min a.length b.length+1,p.2)|_=>b3
theorem FA(R:Rp K π H μ)(h:IsD K π μ.length H v x)(j:eH μ x=a7 xs):∃p,v=.ref p/\(∃vs,SqL K H p vs) /\
  ∀c a d,Ext π μ.length H c a.length d->Rp K c d a->∀i,bK a x=a7 i->∃g,SqL K d p g/\IsDs K c a.length d g i:=by
 obtain⟨p,vs,rfl,q,_⟩:=mE R h j;refine⟨p,rfl,⟨vs,q⟩,λc a d e l i k=>?_⟩;have o:eH a x=a7 i:=by
  cases x with
  |rol u=>exact k|loc b=>exact k|_=>cases j
 obtain⟨s,g,n,r,m⟩:=mE l (h.mono e) o;cases n;exact⟨g,r,m⟩
theorem R8(R:Rp K π H μ)(h:IsD K π μ.length H v x)(h':IsD K π μ.length H Q y)(hs:eH μ x=a7 xs)(A:eH μ y=a7 ys):
  ∃a b,v=.ref a/\Q=.ref b/\(∃G,SqL K H a G)/\(∃G,SqL K H b G)/\Wk K (Aw K a b) (oH x y) π μ.length H:=by
 obtain⟨a,rfl,qa,L⟩:=FA R h hs;obtain⟨b,rfl,qb,M⟩:=FA R h' A;refine⟨a,b,rfl,rfl,qa,qb,λg c l i e j z=>?_,λg c l i d e j z=>?_⟩
 .obtain⟨m,u,z⟩:=ZC.mp z;obtain⟨bs,w,z⟩:=ZH.mp z;obtain⟨q,n,r⟩:=L g c l e j m u;obtain⟨p,o,s⟩:=M g c l e j bs w;refine⟨q,p,n,o,?_⟩;rw[r.length,s.length];cases I:m[i]? with
  |none=>exact .inl (a0C.mp I)|some d=>
   cases k:bs[i]? with
   |none=>exact .inr (a0C.mp k)|some d'=>rw[I,k]at z;cases z
 .obtain⟨m,u,z⟩:=ZC.mp z;obtain⟨bs,w,z⟩:=ZH.mp z;obtain⟨X,Z,z⟩:=ZC.mp z;obtain⟨Y,h4,h5⟩:=ZH.mp z;subst h5;obtain⟨q,n,r⟩:=L g c l e j m u;obtain⟨p,o,s⟩:=M g c l e j bs w;obtain⟨T,J,k1⟩:=r.get Z;obtain⟨U,f2,k2⟩:=s.get h4;refine⟨⟨q,p,T,U,n,o,J,f2⟩,?_⟩;rintro y H2 ⟨t,v1,v2,rfl,hn,rfl,B,E⟩;have N:=B q n;have O:=E p o;rw[J]at N;rw[f2]at O;cases N;cases O;obtain⟨k,R2⟩:=j.fresh (o:=.tup [T,U]) hn;exact⟨k,R2,.tup (.of dD)<|.cons (k1.mono k)<|.cons (k2.mono k) .nil⟩
noncomputable def Sa(K:ZD)(d:TA):TI:=λσ H R=>d σ H λvs c=>∃a b,vs=[.ref a,.ref b]/\(∃xs,SqL K c a xs)/\(∃e,SqL K c b e)/\R (Aw K a b) c
open PyProof.Rows in
theorem Sb{X:Cx}{a b:Expr}{z:TA}{p pos pt:a1p}{G:List Expr}{kx:Nat}(Q:Gl X "zip") (U:X.mg "zip"=b3) (O:PA X [a,b] z)(Z:a0h [a,b] X.env=(b4,eval a X.env)::a0h [b] X.env)(o:(a1U pos<|a0h [b] X.env).any (·.1)=b4) :
  PI X (.Tuple G kx pt) (.Call (.Name "zip" p) [a,b] [] pos) (Sa X.K z):=by
 intro i s A H R I h;refine b1B<|jQ I Q U Boot.«zip»<|a1s (aW (O pos i s A H _ I h) λus d ⟨vs,v,g,r1,q1⟩=>?_) Z o;obtain⟨l,m,rfl,⟨ws,Y⟩,⟨ws2,n⟩,q⟩:=q1;cases r1 with
 |cons ru r=>
  cases r with
  |cons u r=>
   cases r;cases ru;cases u;obtain⟨its,rv,y,hz⟩:=g.list Y;obtain⟨x,rv2,k,hz2⟩:=g.list n;have la:l<d.heap.objs.size:=let⟨_,e,_⟩:=y.isList;ZV e;have lb:m<d.heap.objs.size:=let⟨_,e,_⟩:=k.isList;ZV e;refine call_zip_2 y.isList k.isList λN w J K L M hsz T=>b0n w ?_;have B:Inv X i A v {d with heap:=N}:=g.kept (t':=d.toks) T;have E:ZipApart (d.heap.objs.size+4) (d.heap.objs.size+2) (d.heap.objs.size+3) d.heap.objs.size (d.heap.objs.size+1) l m:=by have la':@LT.lt Nat _ l d.heap.objs.size:=la;have lb':@LT.lt Nat _ m d.heap.objs.size:=lb;constructor<;>(show @Ne Nat _ _;lia)
   refine⟨d.heap.objs.size+4,[d.heap.objs.size+4,d.heap.objs.size+2,d.heap.objs.size+3,d.heap.objs.size,d.heap.objs.size+1],_,_,v,rfl,B,R6 E,⟨w,J,⟨_,_,K⟩,L,M⟩,λc hc=>?_,q⟩;have j:d.heap.objs.size<=c:=by simp only[a0g,a3q,or_false]at hc;rcases hc with rfl|rfl|rfl|rfl|rfl<;>first|exact a9A _ _|exact ZN _
   exact g.fpOk j<|g.hok.fresh j
theorem Se(d:Gl X "zip")(e:X.mg "zip"=b3)(m:QA X [a,b] ms n):QJT X (.Call (.Name "zip" p) [a,b] [] pos) (sF ms):=⟨λU Y pt b1C s σ H R I hw=>by
 have g:=m.s;rw[a0u,ZL,a0u,ZL]at g;obtain⟨Q,T,N,K,Z,O,q,E,c,k⟩:=hw;obtain⟨⟨x,i⟩,w,c⟩:=ZC.mp c;refine Sb d e m.h (fD g.1) (by rw[fD g.2.1];rfl) b1C s σ H R I ⟨Q,T,N,x,i,q,E,w,λj vs o v l h=>?_⟩;dsimp only at c;split at c
 .rename_i x y;obtain⟨xs,z,c⟩:=ZC.mp c;obtain⟨ys,A,c⟩:=ZH.mp c;cases c;cases h with
  |cons h L=>
   cases L with
   |cons B M=>cases M;obtain⟨r,u,rfl,rfl,G,J,W⟩:=R8 l h B z A;exact⟨r,u,rfl,G,J,k j o _ v l W⟩
 .cases c⟩
noncomputable def FC(h:a1d)(c d S:Addr)(i n e:Nat):Prop:=∃(b ok j:Value)(g:Bool),h.get? c=a7 {cls:=.type "dict_itemiterator",dict:=b3,data:=.fields #[b,.bool g,.ref d,.int i 0,.int n 0,.int e 0,ok,j],slots:=#[]} /\
 (b=.none\/∃(a:Addr)(o:Obj),b=a3A a/\h.get? a=a7 o/\a≠c/\a≠S)
theorem Sf{i ep:Nat}(hh:A.handled=b3)(y:s.heap.get? it=a7 {cls:=.type "dict_itemiterator",dict:=b3,data:=.fields #[n,.bool L,.ref d,.int i 0,.int es.size 0,.int ep 0,ok,G],slots:=#[]})(jr:n=.none\/∃(a:Addr)(o:Obj),n=a3A a/\s.heap.get? a=a7 o/\a≠it/\a≠S)(g:RawD s.heap d es ep)(hS:S<s.heap.objs.size)(q1:∀e j,es[i]?=a7 e->FC j it d S (i+1) es.size ep->(n=.none->a6r j it d (i+1) es.size ep e.key e.val s.heap.objs.size)->j.get? s.heap.objs.size=a7 {cls:=.type "tuple",data:=.seq #[e.key,e.val]}->j.objs.size=s.heap.objs.size+1->(∀b o,b≠it->s.heap.get? b=a7 o->j.get? b=a7 o)->Q (a7<|.ref s.heap.objs.size) {s with heap:=j})(q2:es[i]?=b3->∀j,a4E it s.heap j->Q b3 {s with heap:=j}):Z3 (a0d P w) A (a4b<|.ref it) Q E s:=by
 obtain⟨z,g1,g2,g3⟩:=id g;have ty:s.TypeIs (.ref it) "dict_itemiterator":=⟨_,y,rfl⟩;obtain⟨c,r,p,H,B⟩:=s;have T:∀{Q:String->ZJ->Prop}{A:a0y}{E:Value->ZJ->Prop},Q "dict_itemiterator" ⟨c,r,p,H,B⟩->Z3 (a0d P w) A (a7p<|.ref it) Q E ⟨c,r,p,H,B⟩:=λq=>wpAny_typeNameOfWhole_itemiter ty q;unfold a4b;refine ZE<|a8l<|a5k (name:=a1r "__next__") ty F.slot_dict_itemiterator_next<|a1Q F.slot_dict_itemiterator_next ty F.entry_dict_itemiterator_next ?_<|F.args_dict_itemiterator_next_1 _;refine ZE<|ZM<|ZE<|ZE<|ZE<|T<|ZM<|ZE<|a7G y rfl ?_;simp only[show a1X "dict_itemiterator"=b5 by decide,if_true];show Z3 _ _ (if(ZZ d==a0T)=b5 then _ else _) _ _ _;rw[if_neg<|show ¬ (ZZ d==a0T)=b5 from λx=>a0a x];refine ZE<|ZM<|ZE<|a1q g1 g3 ?_;rw[if_neg λx=>by simp at x];refine ZE<|ZM<|ZE<|a3c g1 g3 ?_;rw[if_neg λx=>by simp at x];refine ZM ?_;simp only[if_neg<|show ¬ ((i:Int)<0) by lia,a4I];have R:it<c.objs.size:=ZV y;cases he:es[i]? with
 |some e=>
  refine ZE<|ZE<|T<|ZM<|ZE<|a5v ty ?_;show Z3 _ _ (a6E (.ref it) 3 (a3A<|(i:Int)+1) >>= _) _ _ _;refine ZE (a2Z y (by simp) λu N O=>?_);replace O:a2n it c u:=O;replace N:u.get? it=a7 {cls:=.type "dict_itemiterator",dict:=b3,data:=.fields #[n,.bool L,.ref d,.int ((i+1:Nat):Int) 0,.int es.size 0,.int ep 0,ok,G],slots:=#[]}:=by rw[show((i+1:Nat):Int)=(i:Int)+1 by lia];simpa[a3A]using N
  have I:Shared.TypeIs ⟨u,r,p,H,B⟩ (.ref it) "dict_itemiterator":=⟨_,N,rfl⟩;refine ZE<|a1i<|ZE<|a5v I<|ZE<|a5v I ?_;show Z3 _ _ (a4J (.ref it) 6 e.key e.val) _ _ _;unfold a4J;refine ZE<|a7F ?_;have zu:u.objs.size=c.objs.size:=O.1;have k:=ZK {cls:=.type "tuple",data:=.seq #[e.key,e.val]} N;have Y:(u.push {cls:=.type "tuple",data:=.seq #[e.key,e.val]}).get? c.objs.size=a7 {cls:=.type "tuple",data:=.seq #[e.key,e.val]}:=zu▸ZW u rfl;have vz:(u.push {cls:=.type "tuple",data:=.seq #[e.key,e.val]}).objs.size=c.objs.size+1:=by rw[a4r,zu]
  have J:∀b o,b≠it->c.get? b=a7 o->(u.push {cls:=.type "tuple",data:=.seq #[e.key,e.val]}).get? b=a7 o:=λb o M x=>ZK _<|O.extBut b o M x;show Z3 _ _ (a4v (.ref it) >>= _) _ _ ⟨u.push {cls:=.type "tuple",data:=.seq #[e.key,e.val]},r,p,H,B⟩;rw[zu];generalize u.push {cls:=.type "tuple",data:=.seq #[e.key,e.val]}=v at k Y vz J;have h:c.objs.size≠it:=a2a R;have fin:∀l:a1d,FC l it d S (i+1) es.size ep->(n=.none->a6r l it d (i+1) es.size ep e.key e.val c.objs.size)->a2n it v l->Q (a7<|.ref c.objs.size) ⟨l,r,p,H,B⟩:=λl j' jo X=>q1 e l he j' jo (X.extBut _ _ h Y) (by show l.objs.size=_;rw[X.1,vz]) λb o M x=>X.extBut b o M<|J b o M x;refine ZE ?_;unfold a4v;rcases jr with rfl|⟨a,o,rfl,U,m,r4⟩
  .refine ZE<|a4k k rfl (x:=.none) rfl<|ZM ?_;simp only[if_true];refine ZE<|a4k k rfl (x:=ok) rfl<|ZE<|a4k k rfl (x:=G) rfl ?_;refine ZE (a2Z k (by simp) λv3 Z K=>ZE<|a2Z Z (by simp) λv4 x4 y4=>ZE<|a2Z x4 (by simp) λv5 x5 y5=>ZE<|a2Z x5 (by simp) λv6 x6 y6=>?_);have x7:a6r v6 it d (i+1) es.size ep e.key e.val c.objs.size:=x6;refine ZE<|a4U<|ZM<|ZM ⟨_,rfl,ZM<|fin v6 ?_ (λ_=>x7) ?_⟩
   .refine⟨a3A c.objs.size,e.key,e.val,b4,x7,.inr ⟨c.objs.size,_,rfl,y6.extBut _ _ h<|y5.extBut _ _ h<|y4.extBut _ _ h<|K.extBut _ _ h Y,h,a2a hS⟩⟩
   .exact((K.trans y4).trans y5).trans y6
  .refine ZE<|a4k k rfl (x:=a3A a) rfl ?_;show Z3 _ _ (loadIfAlive ((a:Int).toNat) >>= _) _ _ _;rw[a4I];refine ZE<|PySem.W.kdx_alive (J a o m U) ?_;simp only[Option.isNone_some,Z5,if_false];refine ZE<|a4k k rfl (x:=.bool L) rfl ?_;cases L with
   |true=>rw[if_neg<|show ¬ ((a1v b5 != a1v b5)=b5)from λx=>a0a x];refine ZM ?_;simp only[Z5,if_false];exact ZM (ZM ⟨_,rfl,ZM<|fin v ⟨_,ok,G,b5,k,.inr ⟨a,o,rfl,J a o m U,m,r4⟩⟩ (λz=>nomatch z)<|a7d _ _⟩)|false=>rw[if_pos<|show(a1v b4 != a1v b5)=b5 from rfl];refine ZE (a2Z k (by simp) λv3 Z K=>ZM ?_);simp only[Z5,if_false];exact ZM<|ZM ⟨_,rfl,ZM<|fin v3 ⟨_,ok,G,b5,by simpa using Z,.inr ⟨a,o,rfl,K.extBut a o m<|J a o m U,m,r4⟩⟩ (λz=>nomatch z) K⟩
 |none=>refine ZE<|ZE<|T<|ZM ?_;show Z3 _ _ (a6E (.ref it) 2 .none >>= _) _ _ _;refine ZE (a4L y rfl (by simp) ?_);show Z3 _ _ (a8J (.type "StopIteration") [] >>= _) _ _ _;simp only[a8J,b1u];refine ZE (ZE<|a1f ?_<|by size_fits);refine ZE (m:=a3R _ _) (a5O (a:=a0T) (by first|rfl|(simp only[a3R];rfl))<|a1f ?_<|by size_fits);simp only[b1t];refine ZE<|a8j ?_;rw[show A.in1.handled=b3 from hh];refine ZE<|ZM<|a9s ?thrown;case thrown=>exact ZE<|a3w (T:="StopIteration") (b:=b5) ⟨_,ZW _ rfl,rfl⟩ a7K<|ZM<|q2 he _<|((a1M ..).extBut.push _).push _
theorem Sg(a:s.heap.IsItemsView r d)(g:RawD s.heap d es ep)(q:Q (.ref s.heap.objs.size) {s with heap:=s.heap.push {cls:=.type "dict_itemiterator",data:=.fields #[.none,.bool b4,.ref d,.int 0 0,.int es.size 0,.int ep 0,.none,.none]}}):Z3 (a0d P w) A (a4Y<|.ref r) Q E s:=by
 obtain⟨y,e,k,h⟩:=id a;obtain⟨z,b,j,c⟩:=id g;refine a6C a.typeIs F.slot_dict_items_iter<|a1Q F.slot_dict_items_iter a.typeIs F.entry_dict_items_iter ?_<|F.args_dict_items_iter_1 _;unfold Builtin.«dict_items.__iter__» a5n a4R;refine ZE<|ZM<|ZE<|ZE<|a4k e h (x:=.ref d) rfl<|ZM<|ZE<|ZE<|a1q b c<|ZE<|a3c b c ?_;simp only[show a1X "dict_itemiterator"=b5 by decide,if_true];refine a1f (ZM ⟨_,rfl,"dict_itemiterator",_,⟨_,ZW _ rfl,rfl⟩,F.slot_dict_itemiterator_next.lookup,?_⟩) (by simp only[sizeOk,a4w,Z9,ZO,Z8,a3x];rw[a0n];lia);simpa[a3A,a4w]using q
structure PrsAt(es:Array DictEntry)(lo:Addr)(h:a1d)(as:List Addr):Prop where
 up:as.Pairwise (·<·)
 over:∀a∈as,lo<a
 prs:∀(j:Nat)(a:Addr),as[j]?=a7 a->∃e,es[j]?=a7 e/\h.get? a=a7 {cls:=.type "tuple",data:=.seq #[e.key,e.val]}
end L3
namespace L3
open PySem L2 PySem.W PyProof.Rows
theorem FD:∀k,HT.lexLt k k=b4
 |[]=>rfl|a::k=>by simp[HT.lexLt,FD k]
noncomputable def oI(P:a0j)(w:a0E)(h:a1d)(b:Addr)(k:List Int):Prop:=Tb.IsT P w h k b/\∃xs:gq,a7T h b xs.toArray/\a2V xs k
noncomputable def Ax(P:a0j)(w:a0E)(A:a0y)(us:gq)(an:Nat->Nat->Bool)(s:ZJ):Prop:=
 Z3 (a0d P w) A (keyKind' us.toArray) (λb a=>a=s/\∀(i j:Nat)(C:Bool->ZJ->Prop),i<us.length->j<us.length->C (an i j) s->Z3 (a0d P w) A (keyLt' b (us.getD i .none)<|us.getD j .none) C (λ_ _=>False) s) (λ_ _=>False) s
theorem Si(L:2<=us.length)(l:us.length<64)(g:s.heap.get? c=a7 (a1D "list" us.toArray z))(H:∀G,(∀b o,b≠c->s.heap.get? b=a7 o->G.get? b=a7 o)->Ax P w A us an {s with heap:=G})(q:R (.done<|.ret .none) {s with heap:=a9R s.heap c us ((dI an us.length).map λi=>us.getD i a0T).toArray}):Z3 (a0d P w) A (Builtin.«list.sort» ⟨[.ref c],[]⟩) R E s:=by
 rw[b0L]
 refine ZE<|listItems_at g rfl<|ZE<|a6m g rfl ?_ (by rw[Z9,a0n];lia)<|a0I _
 obtain⟨y,v⟩:∃y,(s.heap.update c<|a1G λ_=>#[]).get? c=a7 (a1D "list" #[] y):=⟨_,b0N g _⟩
 refine ZE<|a7f v rfl<|ZE<|a7F (ZE<|a4h (a1i ?_)<|a0I _)<|by show us.length<=_;rw[a0n];lia
 have B:(((s.heap.update c<|a1G λ_=>#[]).push<|a1D "tuple" us.toArray 0).push<|a1D "list" #[] 0).get? c=a7 (a1D "list" #[] y):=
  ZK _<|ZK _ v
 have ask:=H (((s.heap.update c<|a1G λ_=>#[]).push<|a1D "tuple" us.toArray 0).push<|a1D "list" #[] 0) λb o N e=>ZK _<|ZK _<|(a1T _ _<|a0o N).trans e
 show Z3 (a0d P w) A _ R E ⟨((s.heap.update c<|a1G λ_=>#[]).push<|a1D "tuple" us.toArray 0).push<|a1D "list" #[] 0,s.gens,s.drawn,s.toks,s.os⟩
 dsimp only
 have h:¬ us.toArray.size<2:=by rw[Z9];lia
 rw[if_neg h,if_neg h]
 refine ZE<|a1h ask (λT k m=>?_) λ_ _ x=>x.elim
 obtain⟨rfl,m⟩:=m
 refine ZE<|a1h (kat_run (ks:=us) (vs:=us) (κ:=T) (Q:=λa k=>k={s with heap:=((s.heap.update c<|a1G λ_=>#[]).push<|a1D "tuple" us.toArray 0).push<|a1D "list" #[] 0}/\failedOf a=b3/\(arrOf a).map (·.2)=((dI an us.length).map λi=>us.getD i a0T).toArray)
  (G:=λp k=>k={s with heap:=((s.heap.update c<|a1G λ_=>#[]).push<|a1D "tuple" us.toArray 0).push<|a1D "list" #[] 0}/\p.toList=dI an us.length) rfl L l (λp a k U J K u=>⟨u.1,K,by rw[kat_snds rfl J,u.2]⟩)
 <|zX (n:=us.length) (ans:=an) (λi j C hi O M=>m i j C hi O M) (z6<|by lia) ⟨rfl,rfl⟩) (λr k Q=>?_) λ_ _ e=>e
 obtain⟨⟨⟩,a⟩:=r
 obtain⟨rfl,I,d⟩:=Q
 dsimp only at I d ⊢
 rw[d]
 have n:((dI an us.length).map λi=>us.getD i a0T).length=us.length:=by
  rw[ZF,(pX an (n:=us.length)<|by lia).length_eq,a8X]
 refine ZE<|a7f B rfl<|ZE<|a6m B rfl ?_ (hsz2:=by rw[Z9,n,a0n];lia)
 rw[I]
 simp only[bne_self_eq_false,Z5,if_false]
 exact ZM q
end L3
namespace L3
open PySem L2
noncomputable def lF(ps:b9):b9:=(dI (λi j=>HT.lexLt ((ps.map (·.1)).getD i [])<|(ps.map (·.1)).getD j []) ps.length).map λi=>ps.getD i ([],0,.non)
theorem sortT_perm:(lF ps).Perm ps:=by
 unfold lF;have p:=(n9 (λi j=>HT.lexLt ((ps.map (·.1)).getD i [])<|(ps.map (·.1)).getD j []) ps.length).map λi=>ps.getD i ([],0,.non);have e:(a0L ps.length).map (λi=>ps.getD i ([],0,.non))=ps:=by refine a9o (by simp) λi b a=>?_;simp[a1I,a]
 rw[e]at p;exact p
theorem Sj d(hd:(d==a1t)=b4):b0m P w (Builtin.«dict.items» ⟨[.ref d],[]⟩) (λ_ R s=>(∃b a,RawD s.heap d b a) /\
   R (.ok<|.ret<|.ref s.heap.objs.size) {s with heap:=s.heap.push {cls:=.type "dict_items",data:=.fields #[.ref d]}}):=
 .of_wp λA R s ⟨⟨b,a,g⟩,h⟩=>by unfold Builtin.«dict.items»;refine ZE ?_;unfold a4S;refine ZE<|a3m g.ty ?_;show Z3 _ _ (pure d) _ _ s;refine ZM ?_;show Z3 _ _ (a1P d >>= _) _ _ s;unfold a1P;rw[if_neg<|by rw[hd];exact a0a];refine ZE<|ZM ?_;exact ZE<|a1f<|ZM ⟨_,rfl,h⟩
noncomputable def iD(kvs:jx):jx:=(dI (λi j=>HT.lexLt ((kvs.map (·.1)).getD i [])<|(kvs.map (·.1)).getD j []) kvs.length).map λi=>kvs.getD i ([],.non)
theorem Sk{R:b->c->Prop}{a:List b}{bs:List c}(h:a4N R a bs)d g:∀i,i<a.length->R (a.getD i d) (bs.getD i g):=by
 induction h with
 |nil=>exact λi hi=>nomatch hi|cons e t j=>
  intro i hi;cases i with
  |zero=>exact e|succ i=>exact j i<|by simpa using hi
theorem FE{R:a->b->Prop}{f:Nat->a}{g:Nat->b}:∀{l:List Nat},(∀i∈l,R (f i) (g i))->a4N R (l.map f) (l.map g)
 |[],_=>.nil|i::l,h=>.cons (h i<|a0l ..)<|FE λj c=>h j<|Z2 _ c
theorem Sl(h:IsTs K π n H ps kvs):ps.length=kvs.length/\IsTs K π n H (lF ps) (iD kvs):=by
 have a:=h.to.1;have b:ps.length=kvs.length:=by have:=congrArg a0F a;simpa using this
 refine⟨b,?_⟩;unfold lF iD;rw[a,b];refine FE λi hi=>Sk h _ _ i ?_;have:=a1J.mp<|(n9 _ kvs.length).mem_iff.mp hi;lia
theorem Inv.freeze{σ:St}{ps:b9}(I:Inv X b1C σ H s)(e:H a=a7 (a8 a ps))(c:s.heap.get? a=a7 ob):Inv X b1C σ (aP H a<|.frz ob<|a8 a ps) s:=by have ok:ObjOk X.prog X.w H s.heap a (a8 a ps):=I.hok a _ e;exact I.write (x:=a) (e:=a) (h':=s.heap) (t':=s.toks) (by rw[e];exact a3f) (.inl rfl) (λb q _ z=>z) ⟨ob,c⟩ ⟨c,ok⟩
theorem Inv.thaw{σ σ0:St}{ps ps0:b9}(m:Inv X pins0 σ0 H0 s0)(n:H0 a=a7 (a8 a ps0))(I:Inv X b1C σ H s)(e:H a=a7 (.frz ob<|a8 a ps)):Inv X b1C σ (aP H a<|a8 a ps) s:=by
 have ne:∀{b:Addr},H b=b3->b≠a:=λ{b} h z=>by rw[z,e]at h;cases h
 refine⟨I.ok,I.os,I.bare,⟨I.base.keep,I.base.slot,λb o d g i=>?_,I.base.there,λb k h=>?_,λb o u h=>?_,λb v h=>?_⟩,I.loc,I.cell,?_,λx c h=>?_,λp r=>?_,λb u q=>?_,I.len⟩
 .have:=I.base.free b o d g i;rw[bN<|ne this];exact this
 .have:=I.base.tups b k h;rw[bN λz=>by rw[z,e]at this;cases this];exact this
 .have:=I.base.frzs b o u h;rw[bN λz=>by
   have l:=m.base.frzs b o u h;rw[z,n]at l;cases l]
  exact this
 .obtain⟨more,d⟩:=I.base.tbls b v h;exact⟨more,by rw[bN λz=>by rw[z,e]at d;cases d];exact d⟩
 .rw[bN<|ne I.free];exact I.free
 .have:=I.freeC x c h;rw[bN<|ne this];exact this
 .obtain⟨d,g,i⟩:=I.pin p r;exact⟨d,by rw[bN<|ne g];exact g,i⟩
 .by_cases j:b=a
  .subst j;rw[dD]at q;cases q;exact(show ObjOk X.prog X.w H s.heap b (.frz ob<|a8 b ps)from I.hok b _ e).2
  .rw[bN j]at q;exact(I.hok b u q).stay (λ_ _ _ z=>z) (λc h=>by rw[bN λz=>by rw[z,e]at h;cases h];exact h) λc k h=>by rw[bN λz=>by rw[z,e]at h;cases h];exact h
noncomputable def sG(i:Nat)(a:aI):Option D:=if i<1000 then(a[i]?).bind id else match a[i/1000-1]? with
 |some (a7<|.tup ds)=>ds[i%1000]?|_=>b3
noncomputable def mI(i:Nat)(b:aI)(μ:Hm):Option (Nat×jx):=match sG i b with
 |some (.loc a)=>match μ[a]? with
  |some (.dT kvs)=>a7 (a,kvs)|_=>b3
 |_=>b3
theorem FF(h:mI i b μ=a7 (a,kvs)):μ[a]?=a7 (.dT kvs):=by
 unfold mI at h;split at h
 .split at h
  .rename_i hc;cases h;exact hc
  .cases h
 .cases h
noncomputable def qG(i:Nat)(c d:ME):ME:=λb μ=>match mI i b μ with
 |some (a,kvs)=>(c b<|μ.set a<|.dF kvs).bind λr=>match r.2[a]? with
  |some (.dF kvs')=>a7 (r.1,r.2.set a<|.dT kvs')|_=>b3
 |none=>d b μ
noncomputable def dX(i:Nat)(c d:MS):MS:=λb μ=>match mI i b μ with
 |some (a,kvs)=>(c b<|μ.set a<|.dF kvs).bind λr=>match r.2.2[a]? with
  |some (.dF kvs')=>a7 (r.1,r.2.1,r.2.2.set a<|.dT kvs')|_=>b3
 |none=>d b μ
theorem FG{σ:St}{kvs:jx}(I:Inv X b1C σ H s)(R:Rp X.K π H μ)(E:En X.K π μ.length H σ ρ)(hc:μ[a]?=a7 (.dT kvs)):∃ob ps,H (π a)=a7 (a8 (π a) ps)/\Inv X b1C σ (aP H (π a)<|.frz ob<|a8 (π a) ps) s /\
  Rp X.K π (aP H (π a)<|.frz ob<|a8 (π a) ps) (μ.set a<|.dF kvs)/\En X.K π (μ.set a<|.dF kvs).length (aP H (π a)<|.frz ob<|a8 (π a) ps) σ ρ:=by
 obtain⟨ps,b,T⟩:=iP R hc;obtain⟨_,⟨ob,d⟩,_⟩:=(show ObjOk X.prog X.w H s.heap (π a) (a8 (π a) ps)from I.hok _ _ b);obtain⟨c,R2⟩:=R.put (c:=.dF kvs) (o:=.frz ob (a8 (π a) ps)) (ZG.mp hc).1 b (.inr<|.inr ⟨_,rfl⟩) ⟨ob,ps,rfl,T.to⟩;exact⟨ob,ps,b,Inv.freeze I b d,R2,E.mono c⟩
theorem sH{σ:St}{μ:Hm}{kvs:jx}{m:St}{ps:b9}{d:jx}(I:Inv X b1C σ H s)(e:H (π a)=a7 (a8 (π a) ps))(y:a<μ.length)(x:Inv X g m j w)(v:Rp X.K c j μ')(k:Ext π (μ.set a<|.dF kvs).length (aP H (π a)<|.frz ob<|a8 (π a) ps) c μ'.length j)(hc:μ'[a]?=a7 (.dF d)):
  ∃n,Inv X g m n w/\Ext π μ.length H c (μ'.set a<|.dT d).length n/\Rp X.K c n (μ'.set a<|.dT d)/\Ext0 c μ'.length j c (μ'.set a<|.dT d).length n:=by
 have q:c a=π a:=k.pi a (by rw[a0v];exact y);obtain⟨B,i,r,T⟩:=qD v hc;obtain⟨G,R2⟩:=v.put0 (c:=.dT d) (o:=a8 (c a) i) (ZG.mp hc).1 r (.inr<|.inr<|.inr ⟨_,_,rfl⟩) ⟨i,rfl,T.to⟩;rw[q]at r;refine⟨aP j (c a)<|a8 (c a) i,?_,⟨?_,λb A=>k.pi b<|by rw[a0v];exact A,λp E h=>?_,λp o u h=>?_⟩,R2,G⟩
 .rw[q];exact Inv.thaw I e x r
 .have:=k.le;rw[a0v]at this ⊢;exact this
 .have l:p≠π a:=λz=>by rw[z,e]at h;cases h
  have:=k.tup p E (by rw[bN l];exact h);rw[q,bN l];exact this
 .have l:p≠π a:=λz=>by rw[z,e]at h;cases h
  have:=k.frz p o u (by rw[bN l];exact h);rw[q,bN l];exact this
theorem En.mono0(E:En K π n H σ ρ)(e:Ext0 π n H b g c):En K b g c σ ρ:=
 ⟨E.len,λi d h=>let⟨v,j,k⟩:=E.get i d h;⟨v,j,k.mono0 e⟩⟩
theorem Sm(Z:QE X e y)(h2:QE X e z):QE X e (qG i y z):=⟨by
 intro j s G H Q I hw;obtain⟨l,B,A,d,q,R,E,c,k⟩:=hw;unfold qG at c;split at c
 .rename_i a p hv;obtain⟨⟨x,g⟩,Y,c⟩:=ZC.mp c;dsimp only at c;split at c
  .rename_i w n;cases c;have hc:=FF hv;obtain⟨ob,ps,T,K,N,J⟩:=FG I R E hc;refine aW (Z.h j s G _ (λv h=>∃b,Ext l (A.set a<|.dF p).length (aP H (l a)<|.frz ob<|a8 (l a) ps) b g.length h/\Rp X.K b h g/\IsD X.K b g.length h v d) K ⟨l,B,_,d,g,N,J,Y,λb v h m R2 o=>⟨b,m,R2,o⟩⟩) λu s2 ⟨v,h,L,rv,b,m,R2,o⟩=>?_;obtain⟨r,M,U,O,x3⟩:=sH I T (ZG.mp hc).1 L R2 m n;exact⟨v,r,M,rv,k b v r U O<|o.mono0 x3⟩
  .cases c
 .exact h2.h j s G H Q I ⟨l,B,A,d,q,R,E,c,k⟩⟩
theorem vL(h1:QS X st Y)(h2:QS X st Z):QS X st (dX i Y Z):=⟨by
 intro J s σ H D I hw;obtain⟨l,ρ,K,B,o,T,R,E,r,k⟩:=hw;unfold dX at r;split at r
 .rename_i a w hv;obtain⟨⟨fl1,ρ1,g⟩,g1,r⟩:=ZC.mp r;dsimp only at r;split at r
  .rename_i U p;cases r;have hc:=FF hv;have M:=(ZG.mp hc).1;obtain⟨N,O,L,I1,R1,E1⟩:=FG I R E hc;refine aW (h1.h J s σ _ ⟨λc h=>B=.nx/\∃b,Ext l (K.set a<|.dF w).length (aP H (l a)<|.frz N<|a8 (l a) O) b g.length h/\Rp X.K b h g/\En X.K b g.length h c o,
     λv h=>∃d,B=.rt d/\∃b,Ext l (K.set a<|.dF w).length (aP H (l a)<|.frz N<|a8 (l a) O) b g.length h/\Rp X.K b h g/\IsD X.K b g.length h v d,
     λc h=>B=.bk/\∃b,Ext l (K.set a<|.dF w).length (aP H (l a)<|.frz N<|a8 (l a) O) b g.length h/\Rp X.K b h g/\En X.K b g.length h c o,
     λc h=>B=.ct/\∃b,Ext l (K.set a<|.dF w).length (aP H (l a)<|.frz N<|a8 (l a) O) b g.length h/\Rp X.K b h g/\En X.K b g.length h c o⟩ I1 ⟨l,ρ,_,B,o,g,R1,E1,g1,?_⟩) λf s2 q=>?_
   .cases B with
    |nx=>exact λb c h j R2 m=>⟨rfl,b,j,R2,m⟩|bk=>exact λb c h j R2 m=>⟨rfl,b,j,R2,m⟩|ct=>exact λb c h j R2 m=>⟨rfl,b,j,R2,m⟩|rt d=>exact λb v h j R2 Q=>⟨d,rfl,b,j,R2,Q⟩
   .cases f with
    |next=>obtain⟨c,h,x,rfl,b,j,R2,m⟩:=q;obtain⟨n,y,A,z,G⟩:=sH I L M x R2 j p;exact⟨c,n,y,k b c n A z<|En.mono0 m G⟩|brk=>obtain⟨c,h,x,rfl,b,j,R2,m⟩:=q;obtain⟨n,y,A,z,G⟩:=sH I L M x R2 j p;exact⟨c,n,y,k b c n A z<|En.mono0 m G⟩|cont=>obtain⟨c,h,x,rfl,b,j,R2,m⟩:=q;obtain⟨n,y,A,z,G⟩:=sH I L M x R2 j p;exact⟨c,n,y,k b c n A z<|En.mono0 m G⟩|ret u=>obtain⟨v,c,h,x,rv,d,rfl,b,j,R2,Q⟩:=q;obtain⟨n,y,A,z,G⟩:=sH I L M x R2 j p;exact⟨v,c,n,y,rv,k b v n A z<|Q.mono0 G⟩
  .cases r
 .exact h2.h J s σ H D I ⟨l,ρ,K,B,o,T,R,E,r,k⟩⟩
noncomputable def Ay(d:Addr)(ob:Obj)(ps:b9):It:=⟨λi H=>H d=a7 (.frz ob<|a8 d ps)/\i<ps.length,λi H x a=>a=H/\∃p,ps[i]?=a7 p/\x=.ref p.2.1,λi H=>H d=a7 (.frz ob<|a8 d ps)/\ps.length<=i⟩
theorem oJ{σ:St}{ps:b9}(I:Inv X b1C σ H s)(e:H d=a7 (.frz ob<|a8 d ps)):
  (d==a1t)=b4/\ps.length<=ZX/\∃a b,RawD s.heap d a b/\ob.data=.dict a b/\a.toList.map (·.key)=ps.map λp=>ZZ p.2.1:=by
 obtain⟨c,⟨n,r,l,k,o,a,b,g,i,h,j,m⟩,_⟩:=(show ObjOk X.prog X.w H s.heap d (.frz ob<|a8 d ps)from I.hok d _ e);rw[c]at g;cases g;refine⟨l,k,a,b,⟨ob,c,i,h⟩,h,?_⟩;rw[j,vG (P:=X.prog) (w:=X.w),ZS,<- Av r];rfl
theorem FH:∀(ps:b9)(ws:gq),ps.length=ws.length->(a4j rK ps ws).map (·.val)=ws
 |[],[],_=>rfl|[],_::_,h=>by cases h
 |_::_,[],h=>by cases h
 |p::ps,u::ws,h=>by rw[a0J,ZR,FH ps ws<|by simpa using h];rfl
theorem sI{σ:St}{ps:b9}(I:Inv X b1C σ H s)(e:H d=a7 (.frz ob<|a8 d ps)):
  (d==a1t)=b4/\ps.length<=ZX/\∃a b,RawD s.heap d a b/\ob.data=.dict a b/\Vals (ps.map (·.2.2)) (a.toList.map (·.val)):=by
 obtain⟨g,⟨c,r,n,m,o,a,b,h,k,i,l,p⟩,_⟩:=(show ObjOk X.prog X.w H s.heap d (.frz ob<|a8 d ps)from I.hok d _ e);rw[g]at h;cases h;refine⟨n,m,a,b,⟨ob,g,k,i⟩,i,?_⟩;have j:(a4j rK ps c).map (·.val)=c:=FH ps c<|by
  have:=r.length;rw[ZF]at this;exact this
 rw[l,j];exact r
theorem Sn(hd:ob.data=.dict u T):Turn Qc P w K tg (Ay d ob ps) [n] n (λi h=>h.IsKeyIter n d i u.size T) where
 mem:=by simp
 obj:=λi h st b j=>by
  have e:b=n:=by simpa using j
  subst e;obtain⟨o,e,c,d⟩:=st;exact⟨o,e,λv z=>by rw[d]at z;cases z⟩
 keep:=λi h q st k=>st.at λo e=>k n (by simp) o e;item:=by
  intro X Q hw O hc i p s Z H E I y st R;subst Q hw O;obtain⟨m,r⟩:=R;obtain⟨lo,hl,B,A,g,a,x⟩:=oJ I m;rw[hd]at a;cases a;have hs:u.size=ps.length:=by have:=congrArg a0F x;simpa using this
  obtain⟨G,J,f2,L,M,N⟩:=y n (by simp);refine vJ (I.ok.hd hc) st g (λe q l Y sb=>?_) λhn=>by simp at hn;lia
  have I1:Inv X p Z H {s with heap:=q}:=I.turned (t':=s.toks) (λb o j e=>(sb.2 b j).trans e) G J L M N;obtain⟨o,e1,c,d1⟩:=id Y;have U:ps[i]?=a7 ps[i]:=ZT r;have ek:e.key=.ref (ps[i]).2.1:=by have:=congrArg (·[i]?) x;simp only[ZU,a1g,l,U,Z4]at this;exact Z0 this
  exact⟨e.key,rfl,o7 (s:={s with heap:=q}) e1 c d1 (by decide) ⟨.ref (ps[i]).2.1,H,I1,ek,⟨rfl,ps[i],U,rfl⟩,Y,λb j=>(y b j).1⟩⟩
 done:=by
  intro X Q hw O hc i p s Z H E I y st R;subst Q hw O;obtain⟨m,r⟩:=R;obtain⟨lo,hl,B,A,g,a,x⟩:=oJ I m;rw[hd]at a;cases a;have hs:u.size=ps.length:=by have:=congrArg a0F x;simpa using this
  obtain⟨G,J,f2,L,M,N⟩:=y n (by simp);exact vJ (I.ok.hd hc) st g (λe q l=>by
   have:=(a4o.mp l).1;lia) λ_ q eb=>⟨rfl,I.turned (t':=s.toks) (λb o j e=>eb b o j e) G J L M N⟩
 self:=λ_ _ _ _ _ st h=>a9t st h
theorem So(k:PE X l m):PI X tg l (λσ H R=>m σ H λv a=>∃d ob ps,v=.ref d/\a d=a7 (.frz ob<|a8 d ps)/\R (Ay d ob ps) a):=by
 intro j s σ H R I h;refine aW (k j s σ H _ I h) λv i ⟨y,a,c,w,u⟩=>?_;obtain⟨d,ob,ps,e,p,q⟩:=u;subst e;obtain rfl:v=ZZ d:=w;obtain⟨r,k,z,x,g,hd,A⟩:=oJ c p;refine Au r g ⟨i.heap.objs.size,[i.heap.objs.size],_,_,a,rfl,c.kept (t':=i.toks) λb o e=>ZK _ e,Sn hd,⟨_,ZW _ rfl,rfl,rfl⟩,λb n=>?_,q⟩;have e:b=i.heap.objs.size:=by simpa using n
 subst e;exact c.fpOk (ZN _)<|c.hok.fresh<|ZN _
noncomputable def d9(kvs:jx):List D:=kvs.map λk=>D.tup<|k.1.map D.int
theorem Sq{ps:b9}(c:H d=a7 (.frz ob<|a8 d ps))(T:IsTs K π n H ps kvs):Wk K (Ay d ob ps) (cS<|.tup<|d9 kvs) π n H:=by
 have s:ps.length=kvs.length:=by have:=congrArg a0F T.to.1;simpa using this
 refine⟨λb q h i e R z=>?_,λb q h i j e R z=>?_⟩
 .have a:(d9 kvs)[i]?=none:=Z0 z;have:=a0C.mp a;rw[d9,ZF]at this;exact⟨e.frz _ _ _ c,by lia⟩
 .have a:(d9 kvs)[i]?=a7 j:=Z0 z;have hi:i<kvs.length:=by have:=(ZG.mp a).1;rwa [d9,ZF]at this
  refine⟨⟨e.frz _ _ _ c,by lia⟩,λv r ⟨k,p,l,m⟩=>?_⟩;subst k m;obtain⟨u,g,o⟩:=(T.to.2.1.mono e).get a;rw[ZU,l]at g;cases g;exact⟨.refl,R,o⟩
noncomputable def fF(m:ME):MI:=λb μ=>(m b μ).bind λp=>match p.1 with
 |.loc a=>match p.2[a]? with
  |some (.dF kvs)=>a7 (cS<|.tup<|d9 kvs,kvs.length+1,p.2)|_=>b3
 |_=>b3
theorem Az(h:QE X e m):QJ X e (fF m):=⟨λtg b1C s σ H R I hw=>by
 obtain⟨z,A,v,u,n,w,i,E,a,k⟩:=hw;obtain⟨⟨x,y⟩,l,a⟩:=ZC.mp a;dsimp only at a;split at a
 .split at a
  .rename_i p hc;cases a;refine So h.h b1C s σ H R I ⟨z,A,v,_,_,i,E,l,λb B g j c o=>?_⟩;cases o;obtain⟨q,r,d,T⟩:=qD c hc;exact⟨_,q,r,rfl,d,k b g _ j c<|Sq d T⟩
  .cases a
 .cases a⟩
end L3
namespace L3
open PySem L2 PySem.W PyProof.Rows
noncomputable def FI(h:a1d)(b:Addr)(k:List Int):Prop:=∃xs:gq,a7T h b xs.toArray/\a2V xs k
theorem Sr{bs:List Addr}{ks:List (List Int)}(I:0<bs.length)(q:ks.length=bs.length)(key:∀j b,bs[j]?=a7 b->FI s.heap b (ks.getD j [])/\ks.getD j []≠[]):Ax P w A (bs.map ZZ) (λi j=>HT.lexLt (ks.getD i [])<|ks.getD j []) s:=by
 have h:∃fs:gq,fs.length=bs.length/\KatTups s.heap (bs.map ZZ) fs/\∀v∈fs,∃i t,v=a1y i t:=by
  clear I;induction bs generalizing ks with
  |nil=>exact⟨[],rfl,.nil,λv a=>nomatch a⟩|cons b bs N=>
   match ks,q with
   |k::ks,q=>
    obtain⟨fs,r,l,m⟩:=N (ks:=ks) (by simpa using q) λj c hc=>by simpa using key (j+1) c (by simpa using hc)
    obtain⟨⟨xs,⟨o,e,c,n,d⟩,hi⟩,g⟩:=key 0 b rfl;simp only[a8r]at hi g;cases hi with
    |nil=>exact absurd rfl g|@cons i u Q O K=>
     refine⟨a1y i u::fs,by simp[r],.cons e c d (by simp) l,λv a=>?_⟩;rcases a0g.mp a with rfl|a
     .exact⟨i,u,rfl⟩
     .exact m v a
 obtain⟨fs,r,l,m⟩:=h;unfold Ax;refine kat_kind (T:=.type "int") l ?_ (λv a=>?_) rfl ⟨rfl,λi j C hi p J=>?_⟩
 .lia
 .obtain⟨i,t,rfl⟩:=m v a;exact .now
 .rw[ZF]at hi p;obtain⟨⟨xa,⟨Y,z,R,U,x⟩,L⟩,_⟩:=key i bs[i]<|ZT hi;obtain⟨⟨xb,⟨Z,B,T,X,y⟩,M⟩,_⟩:=key j bs[j]<|ZT p;have G:(bs.map ZZ).getD i .none=.ref bs[i]:=by simp[a1I,hi]
  have H:(bs.map ZZ).getD j .none=.ref bs[j]:=by simp[a1I,p]
  rw[G,H];exact kat_lt z x B y<|z7 0 L M J
theorem Ss{bs:List Addr}{ks:List (List Int)}(L:A.handled=b3)(lo:(d==a1t)=b4)(g:RawD s.heap d a I)(u:a.toList.map (·.key)=bs.map ZZ)(J:a.size<64)(N:ks.length=bs.length)(key:∀j b,bs[j]?=a7 b->FI s.heap b (ks.getD j [])/\ks.getD j []≠[])(q:∀(h' p:a1d)tk e,(∀b o,s.heap.get? b=a7 o->h'.get? b=a7 o)->(∀b o,h'.get? b=a7 o->p.get? b=a7 o)->p.get? h'.objs.size=a7 (a1D "list" ((dI (λi j=>HT.lexLt (ks.getD i [])<|ks.getD j []) a.size).map λi=>ZZ<|bs.getD i 0).toArray e)->Q (.ref h'.objs.size) {s with heap:=p,toks:=tk}):
  Z3 (a0d P w) A (call (.builtin "sorted") [.ref d]) Q E s:=by
 have m:bs.length=a.size:=by have:=congrArg a0F u;simpa using this.symm
 refine a6V kind_sorted plain_sorted entry_sorted (args_sorted1 _) ?_;unfold a7W;refine ZE (m:=checkCount "sorted" 1 1 _) (ZM<|ZE<|kdu_collect (A:=A.in1) (Ft lo) L g (by rw[a0n];lia) λh' tk h B c=>?_);have H:h.toList=bs.map ZZ:=by
  rw[<- u];refine a5V λi=>?_;rw[ZU,a1g,a1g];cases z:h[i]? with
  |some v=>obtain⟨e,T,U⟩:=c.2 i v z;rw[T,U];rfl|none=>
   have:h.size<=i:=by simpa using z
   rw[a7x<|by rw[<- c.1];exact this];rfl
 rw[H];have G:(bs.map ZZ).length=a.size:=by rw[ZF,m]
 refine ZE (a4h ?_<|by rw[G,a0n];lia);have l:(h'.push<|a1D "list" (bs.map ZZ).toArray 0).get? h'.objs.size=a7 (a1D "list" (bs.map ZZ).toArray 0):=ZW _ rfl;have fin:∀k:gq,k=((dI (λi j=>HT.lexLt (ks.getD i [])<|ks.getD j []) a.size).map λi=>ZZ<|bs.getD i 0)->Q (.ref h'.objs.size) {s with heap:=a9R (h'.push<|a1D "list" (bs.map ZZ).toArray 0) h'.objs.size (bs.map ZZ) k.toArray,toks:=tk}:=by rintro k rfl;obtain⟨e,K⟩:=sortedHeap_at (h:=h'.push (a1D "list" (bs.map ZZ).toArray 0)) (out:=((dI (λi j=>HT.lexLt (ks.getD i [])<|ks.getD j []) a.size).map λi=>ZZ<|bs.getD i 0).toArray) l;refine q h' _ tk e B (λb o x=>?_) K;rw[sortedHeap_old (Z6<|ZV x)<|by rw[a4r];exact a9j<|ZV x];exact ZK _ x
 by_cases y:2<=a.size
 .refine ZE<|a1i<|a1Q a7I (s:={s with heap:=h'.push<|a1D "list" (bs.map ZZ).toArray 0,toks:=tk}) ⟨_,l,rfl⟩ a7q (Si (an:=λi j=>HT.lexLt (ks.getD i [])<|ks.getD j []) (by lia) (by lia) l (λp O=>?_) ⟨_,rfl,?_⟩)<|a7N _
  .refine Sr (by lia) N λj b M=>?_;obtain⟨⟨R,⟨o,o1,o2⟩,hi⟩,r⟩:=key j b M;have n:=B _ _ o1;exact⟨⟨R,⟨o,O b o (Z6<|ZV n)<|ZK _ n,o2⟩,hi⟩,r⟩
  .refine ZM ⟨_,rfl,fin _ ?_⟩;rw[G];refine a0q λi hi=>?_;have hi:i<bs.length:=by have:=a1J.mp ((pX _ (n:=a.size)<|by lia).mem_iff.mp hi);lia
   simp[a1I,hi]
 .refine ZE (a1i<|a1Q a7I (s:={s with heap:=h'.push<|a1D "list" (bs.map ZZ).toArray 0,toks:=tk}) ⟨_,l,rfl⟩ a7q (EE (by lia) l ⟨_,rfl,?_⟩)<|a7N _);refine ZM ⟨_,rfl,fin (bs.map ZZ) ?_⟩;match bs,m with
  |[],e=>rw[<- e];show[]=(dI _ 0).map _;rw[EG];rfl|[b],e=>rw[<- e];show[ZZ b]=(dI _ 1).map _;rw[EF];rfl|_::_::_,e=>rw[<- e]at y;simp at y
end L3
namespace L3
open PySem L2
noncomputable def FJ(K:ZD):gw->Hp->VK->Prop:=λxs H Q=>∃a ps,xs=[V.ref a]/\H a=a7 (a8 a ps)/\fE K H ps/\ps.length<64/\(∀p∈ps,p.1≠[])/\∀l,H l=b3->Q (.ref l) (aP H l<|.lst<|(lF ps).map λp=>V.ref p.2.1)
theorem Su(hc:X.calm=b5):CallR X (.builtin "sorted") (FJ X.K):=by
 intro n s σ H xs us Q I r h;obtain⟨a,c,rfl,O,B,N,w,q⟩:=h;obtain⟨u,rfl,ru⟩:=fP r;cases ru;obtain⟨lo,m,J,ep,g,A⟩:=qE I O B;have R:J.size=c.length:=by have:=congrArg a0F A;simpa using this
 have L:∀{j:Nat}{b:Addr},(c.map (·.2.1))[j]?=a7 b->∃p∈c,c[j]?=a7 p/\p.2.1=b:=λ{j b} d=>by rw[ZU]at d;obtain⟨p,k,K⟩:=ZH.mp d;exact⟨p,Z1 k,k,K⟩
 refine Ss (bs:=c.map (·.2.1)) (ks:=c.map (·.1)) (I.ok.hd hc) lo g (by rw[A,ZS];rfl) (by lia) (by simp) (λj b d=>?_) λo M y e U Y Z=>?_
 .obtain⟨p,E,k,rfl⟩:=L d;have G:(c.map (·.1)).getD j []=p.1:=by simp[a1I,k]
  rw[G];obtain⟨x,rx,t,_⟩:=I.tuple<|B p E;exact⟨⟨x,t,uI rx⟩,w p E⟩
 .have z:Inv X n σ H {s with heap:=o,toks:=y}:=I.kept (t':=y) U;refine⟨.ref o.objs.size,_,z.laid (t':=y) (h':=M) (a:=o.objs.size) (o:=.lst ((lF c).map λp=>V.ref p.2.1)) Y (ZN _) ?_,rfl,q _<|z.hok.fresh<|ZN _⟩;have v:(lF c).length=c.length:=sortT_perm.length_eq;refine⟨by rw[ZF,v];exact m,_,e,?_,Z⟩;unfold lF;rw[R,ZS];have:∀l:List Nat,(∀i∈l,i<c.length)->Vals (l.map<|(λp:List Int×Addr×V=>V.ref p.2.1)∘λi=>c.getD i ([],0,.non)) (l.map λi=>ZZ<|(c.map (·.2.1)).getD i 0):=λl m=>by
   induction l with
   |nil=>exact .nil|cons i l T=>refine .cons ?_<|T λj d=>m j<|Z2 _ d;have hi:=m i<|a0l ..;show ZZ _=ZZ _;simp[a1I,hi]
  exact this _ λi hi=>a1J.mp<|(n9 _ c.length).mem_iff.mp hi
noncomputable def qH(μ:Hm):D->Bool
 |.loc a=>match μ[a]? with|some (.dT _)=>b5|_=>b4
 |_=>b4
noncomputable def iE(f:D->List D->Hm->jk)(b:ME)(ms:MA):ME:=λa μ=>(b a μ).bind λp=>match qH p.2 p.1 with
 |true=>(ms a p.2).bind λq=>f p.1 q.1 q.2|false=>b3
noncomputable def AA(K:ZD)(x:V)(H:Hp):Prop:=∃a ps,x=.ref a/\H a=a7 (a8 a ps)/\fE K H ps
theorem Sv(R:Rp K π H μ)(h:IsD K π μ.length H v x)(e:qH μ x=b5):AA K v H:=by
 cases h with
 |@loc a g=>
  simp only[qH]at e;split at e
  .rename_i i c;obtain⟨d,b,T⟩:=iP R c;exact⟨_,d,rfl,b,T.keys⟩
  .cases e
 |_=>cases e
theorem Sw{id:String}(m:Slot "dict" name id)(w:b1q (.builtin id)=pure (.type "method_descriptor"))(N:nM X id r)(O:PE X o to)(L:PA X (e::es) t)(i:a2N o name X.env (eval o X.env)=eval o X.env)(l:((a1U cpos<|a0h (e::es) X.env).all (λx=>!x.1)&&(a3C cpos<|a2v [] X.env).all (λx=>x.1.isSome)&&decide ((e::es).length+([]:List a3b).length+(if([]:List a3b).isEmpty then 0 else 1)<30))=b5)(j:(apos.endLine==cpos.line)=b5)(R:a0h (e::es) X.env=(b4,eval e X.env)::a0h es X.env)(c:(a1U cpos<|a0h es X.env).any (·.1)=b4):
  PE X (.Call (.Attribute o name apos) (e::es) [] cpos) (λk H Q=>to k H λx p=>AA X.K x p/\t k p λq u=>r x q u Q):=by
 intro d s k H Q I h;refine a8H i l j rfl<|aW (O d s k H _ I h) λv s1 ⟨x,p,y,Y,ty,T⟩=>?_;obtain⟨a,ps,rfl,G,M⟩:=ty;obtain rfl:v=ZZ a:=Y;obtain⟨lo,hl,q,ep,g,_⟩:=qE y G M;refine⟨"dict",id,a4A,m,w,g.ty,λb E=>?_,?_⟩
 .cases E;obtain⟨z,J,K,_⟩:=g;exact⟨z,J,K.2.1⟩
 have A:=L cpos d s1 k p _ y T;rw[R]at A ⊢;refine a3D (by show(b4||(a1U cpos<|a0h es X.env).any (·.1))=b4;rw[c]<;>rfl)<|a7V ?_;exact aW A λus s2 ⟨q,u,B,Z,U⟩=>N d s2 k u (.ref a) q _ us Q B rfl Z U
theorem Sx(z:l8 K f r):∀σ H Q,tM K (iE f mo ms) σ H Q->tM K mo σ H λx g=>AA K x g/\tMA K ms σ g λvs h=>r x vs h Q:=by
 rintro σ H Q ⟨J,v,I,d,i,R,E,a,k⟩;obtain⟨⟨x,b⟩,w,a⟩:=ZC.mp a;dsimp only at a;split at a
 .rename_i A;obtain⟨⟨u,c⟩,y,a⟩:=ZC.mp a;refine⟨J,v,I,x,b,R,E,w,λj G g p m s=>⟨Sv m s A,j,v,b,u,c,m,E.mono p,y,λl vs h q R2 B=>?_⟩⟩;exact z l h c x u d i G vs Q R2 (s.mono q) B a<|k.after<|p.trans q
 .cases a
theorem FK{id:String}(c:Slot "dict" name id)(d:b1q (.builtin id)=pure (.type "method_descriptor"))(j:nM X id r)(h:l8 X.K f r)(l:QE X o mo)(g:QA X (e::es) ms n)(m:f9 o=b5)(i:(apos.endLine==cpos.line)=b5)(k:(e::es).length<30):QE X (.Call (.Attribute o name apos) (e::es) [] cpos) (iE f mo ms):=by
 have b:=g.s;have a:=b;rw[a0u,ZL]at a;exact⟨dE (Sw c d j l.h g.h (kG m) (Es b k) i (fD a.1)<|jU a.2)<|Sx h⟩
noncomputable def fR:D->List D->Hm->jk
 |.loc a,[y,z],μ=>match μ[a]? with
  |some (.dT kvs)=>(dN y).map λk=>((b8 kvs k).getD z,μ)|_=>b3
 |_,_,_=>b3
noncomputable def FL(K:ZD):V->gw->Hp->VK->Prop:=λx vs H Q=>∃a b ps k z,x=.ref a/\vs=[.ref b,z]/\H a=a7 (a8 a ps)/\fE K H ps/\SqT K H b (k.map V.int)/\Q ((eJ ps k).getD z) H
theorem Sy:l8 K fR (FL K):=by
 intro u H A x z d s v y Q R m c a k;unfold fR at a;split at a
 .split at a
  .rename_i p hc;obtain⟨h,j,a⟩:=ZH.mp a;cases a;cases m;cases c with
   |cons n t=>
    cases t with
    |cons o t=>
     cases t;obtain⟨q,i,T⟩:=iP R hc;obtain⟨b,rfl,l⟩:=lE n j;refine⟨_,b,q,h,_,rfl,rfl,i,T.keys,l,k u _ H .refl R ?_⟩;rcases T.val h with⟨e,g⟩|⟨v,w,e,g,r⟩
     .rw[e,g];exact o
     .rw[e,g];exact r
  .cases a
 .cases a
theorem Sz(w:X.A.units+1<a1W):nM X "dict.get" (FL X.K):=by
 intro m s N H x L v K Q I E B h;obtain⟨a,b,g,k,z,rfl,rfl,e,o,n,q⟩:=h;cases E;obtain⟨u,G,rfl,A,i⟩:=B.two;obtain rfl:u=ZZ b:=A;obtain⟨p,J,l,r,d⟩:=mH I (.of e) o;refine a5w a7i d.typeIs PySem.F.entry_dict_get (PySem.F.args_dict_get_3 _ _ _) (meetsH_dict_get_default (a3Z<|a4z X.prog X.w) a b p G) ⟨qC w,k,_,mF I n,d,?_⟩;refine⟨(eJ g k).getD z,H,I.tok _,?_,q⟩;have:=oG r k;cases j:eJ g k with
 |none=>
  rw[j]at this;cases c:(a5P (cL g l) k).map (·.2)with
  |none=>exact i|some y=>rw[c]at this;exact this.elim
 |some M=>
  rw[j]at this;cases c:(a5P (cL g l) k).map (·.2)with
  |none=>rw[c]at this;exact this.elim|some y=>rw[c]at this;exact this
section
variable{P:a0j}{w:a0E}{K:Type} [DecidableEq K] {knd:HeapKind P w K}{A:a0y}{E:Value->ZJ->Prop}{s:ZJ}{d a:Addr}{k:K}{xs:List (K×Addr×Value)}
theorem SA(z:knd.room A)(q:knd.is s.heap k a)(J:s.heap.DictOfH knd d xs)(hz:xs.length<=ZX)(H:∀p,a5P xs k=a7 p->Q p.2 {s with toks:=s.toks+knd.draws k})(I:a5P xs k=b3->∀n,n.DictOfH knd d (b0d xs k a v)->a2n d s.heap n->Q v {s with heap:=n,toks:=s.toks+knd.draws k}):
  Z3 (a0d P w) A (a7L d (.ref a) v) Q E s:=by
 obtain⟨o,L,G,g,hc,hd,m,h,r⟩:=id J;unfold a7L;refine a1i<|ZE<|knd.pyHash z q<|ZE<|wpAny_dictFind_heap (s:={s with toks:=s.toks+knd.draws k}) z q g hd m h r (λi=>?_) λj p u=>?_
 .have b:=atKey_none_of_get i;have l:k∉xs.map (·.1):=not_mem_keys_of_get i;refine ZE<|a5u<|ZE<|wpAny_updateDictKeys (hz:=by have e:=size_of_entries m;lia) (s:={s with toks:=s.toks+knd.draws k}) g hd<|ZM<|I b _ ⟨_,_,G+1,a1Z _ g<|a8B<|a5y hd _,hc.mapDictKeys _,a5y hd _,?_,λx c=>?_,?_⟩<|a1M ..
  .rw[a9v b];simp[m,a9S]
  .rw[a9v b]at c;rcases a0M.mp c with c|c
   .exact knd.keeps (h x c) g hd<|a1M ..
   .rw[a0r]at c;subst c;exact knd.keeps q g hd<|a1M ..
  .rw[a9v b,Z7,a2e];exact⟨r,by simp,λx c y B e=>by
    simp only[ZR,a2U,a0r]at B;subst B;exact l<|e▸c⟩
 .refine ZE<|a1q (s:={s with toks:=s.toks+knd.draws k}) g hd ?_;rw[entry_at m j,u];exact ZE<|a5u<|ZM<|H _<|atKey_of_get r u
theorem SD(knd:HeapKind P w K)d a(hd:(d==a1t)=b4)v:b0m P w (Builtin.«dict.setdefault» ⟨[.ref d,.ref a,v],[]⟩) (λA R s=>knd.room A.in1/\∃k xs,knd.is s.heap k a/\s.heap.DictOfH knd d xs/\xs.length<=ZX /\
   (∀p,a5P xs k=a7 p->R (.ok<|.ret p.2) {s with toks:=s.toks+knd.draws k})/\(a5P xs k=b3->∀b,b.DictOfH knd d (b0d xs k a v)->a2n d s.heap b->R (.ok<|.ret v) {s with heap:=b,toks:=s.toks+knd.draws k})):=
 .of_wp λA R s ⟨n,k,xs,j,g,o,h,i⟩=>by unfold Builtin.«dict.setdefault»;refine ZE ?_;unfold b1m;refine ZE<|a3m g.typeIs<|ZM ?_;show Z3 _ _ (if(d==a1t)=b5 then _ else(a7L d (.ref a) v >>= _)) _ _ s;rw[if_neg<|by rw[hd];exact a0a];exact ZE<|SA n j g o (λp m=>ZM ⟨_,rfl,h p m⟩) λl b c e=>ZM ⟨v,rfl,i l b c e⟩
end
noncomputable def mJ:D->List D->Hm->jk
 |.loc a,[y,z],μ=>match μ[a]? with
  |some (.dT kvs)=>(dN y).bind λk=>match b8 kvs k with
   |some d=>a7 (d,μ)|none=>if kvs.length<ZX then a7 (z,μ.set a<|.dT<|dW kvs k z)else b3
  |_=>b3
 |_,_,_=>b3
noncomputable def FN(K:ZD):V->gw->Hp->VK->Prop:=λx vs H Q=>∃a b ps k z,x=.ref a/\vs=[.ref b,z]/\H a=a7 (a8 a ps)/\fE K H ps/\SqT K H b (k.map V.int)/\((∃v,eJ ps k=a7 v/\Q v H)\/(eJ ps k=b3/\ps.length<ZX/\Q z (aP H a<|a8 a<|jJ ps k b z)))
theorem SE:l8 K mJ (FN K):=by
 intro q H L x J d B v I Q R y h a k;unfold mJ at a;split at a
 .split at a
  .rename_i e hc;obtain⟨c,u,a⟩:=ZC.mp a;cases y with
   |loc g=>
    cases h with
    |cons z t=>
     cases t with
     |cons p t=>
      cases t;obtain⟨i,m,T⟩:=iP R hc;obtain⟨b,rfl,o⟩:=lE z u;refine⟨_,b,i,c,_,rfl,rfl,m,T.keys,o,?_⟩;have w:i.length=e.length:=by have:=congrArg a0F T.to.1;simpa using this
      rcases T.val c with⟨j,l⟩|⟨v,E,j,l,A⟩
      .rw[l]at a;dsimp only at a;split at a
       .rename_i G;cases a;have s:=T.put c o p;obtain⟨n,r⟩:=R.put (c:=.dT (dW e c d)) (o:=a8 _ (jJ i c b _)) g m (.inr<|.inr ⟨_,rfl⟩) ⟨_,rfl,s.to⟩;exact .inr ⟨j,by lia,k q _ _ n r<|p.mono n⟩
       .cases a
      .rw[l]at a;cases a;exact .inl ⟨v,j,k q _ H .refl R A⟩
  .cases a
 .cases a
theorem SF(M:X.A.units+1<a1W):nM X "dict.setdefault" (FN X.K):=by
 intro w s σ H x vs v us Q I U T h;obtain⟨a,b,n,k,z,rfl,rfl,e,G,B,q⟩:=h;cases U;obtain⟨u,Y,rfl,R,i⟩:=T.two;obtain rfl:u=ZZ b:=R;obtain⟨m,hl,Z,r,d⟩:=mH I (.of e) G;have N:(cL n Z).length<=ZX:=by have:=congrArg a0F<|sC r;rw[ZF,ZF]at this;lia
 have c:=oG r k;refine a5w a6g d.typeIs PySem.F.entry_dict_setdefault (PySem.F.args_dict_setdefault_3 _ _ _) (SD (a3Z<|a4z X.prog X.w) a b m Y) ⟨qC M,k,_,mF I B,d,N,λp K=>?_,λJ A j l=>?_⟩
 .rw[K]at c;rcases q with⟨o,g,q⟩|⟨g,_⟩
  .rw[g]at c;exact⟨o,H,I.tok _,c,q⟩
  .rw[g]at c;exact c.elim
 .rw[J]at c;rcases q with⟨o,g,q⟩|⟨g,hz,q⟩
  .rw[g]at c;exact c.elim
  .obtain⟨ws',O,y⟩:=Fn r k b i;rw[y]at j;have E:∃q,A.get? a=a7 q:=let⟨q,_,_,L,_⟩:=j;⟨q,L⟩;exact⟨z,_,Df I (by rw[e];exact a3f) l E<|Aq m (by have:=Fi n k b z;lia) O j,i,q⟩
theorem SG{bs:List Addr}(g:RawD s.heap d c r)(o:c.toList.map (·.key)=bs.map ZZ)(I:∀b∈bs,s.TypeIs (.ref b) "tuple")(nd:(c.toList.map (·.hash)).Nodup)(q:Q c s):Z3 (a0d P w) A (a5B H d) Q E s:=by
 obtain⟨z,u,J,v⟩:=id g;unfold a5B;refine ZE<|a1q u v<|ZE ?_;rw[<- Array.forIn_toList];refine b0o _ (λb6 _ h=>h=s/\∀e∈b6,e∈c.toList) _ (λe b6 b h ⟨i,k⟩=>?_) (λb h ⟨i,_⟩=>?_) _ _ ⟨rfl,λe j=>j⟩
 .subst i;have j:=k e<|a0l ..;have B:e.key∈bs.map ZZ:=by rw[<- o];exact ZQ.mpr ⟨e,j,rfl⟩
  obtain⟨a,y,p⟩:=ZQ.mp B;have quiet:∀{Q:Bool->ZJ->Prop},Q b4 h->Z3 (a0d P w) A (a6B e.key) Q E h:=λ{Q} q=>by rw[<- p];unfold a6B;exact ZE<|a3E (I a y) PySem.F.slot_tuple_eq.lookup<|ZM q
  refine ZE<|quiet ?_;have one:((c.filter (·.hash==e.hash)).size>1)=False:=by
   refine eq_false λz=>?_;have K:1<(c.toList.filter λx=>x.hash==e.hash).length:=by have m:(c.filter (·.hash==e.hash)).toList=c.toList.filter λx=>x.hash==e.hash:=Array.toList_filter ..;have n:=congrArg a0F m;simp only[a2j]at n;lia
   have l:(c.toList.filter λx=>x.hash==e.hash).length=(c.toList.map (·.hash)).count e.hash:=by rw[List.count,List.countP_map,<- a6z];rfl
   have:=List.nodup_iff_count.mp nd e.hash;lia
  simp only[a2r,if_true,one,if_false];exact ZM ⟨rfl,λx G=>k x<|Z2 _ G⟩
 .subst i;exact ZM q
theorem FP:∀(ps:b9)(ws:gq),ps.length=ws.length->(a4j rK ps ws).map (·.hash)=ps.map λp=>Tb.hashT p.1
 |[],_,_=>by simp
 |p::ps,[],h=>by cases h
 |p::ps,u::ws,h=>by rw[a0J,ZR,ZR,FP ps ws<|by simpa using h];rfl
theorem SI{c:Array DictEntry}(d:bs≠[])(a:c.toList.map (·.key)=bs.map ZZ):(c.all λe=>(keyPart e.key).isSome)=false:=by
 rw[<- Array.all_toList];generalize c.toList=l at a;cases bs with
 |nil=>exact absurd rfl d|cons b bs=>
  cases l with
  |nil=>cases a|cons e l=>rw[ZR,ZR,a4G]at a;rw[a0u,a.1];rfl
theorem SJ{b:Array DictEntry}(a:bs≠[])(d:b.toList.map (·.key)=bs.map ZZ):b.isEmpty=false:=by have c:=congrArg a0F d;simp only[ZF,a2j]at c;have:bs.length≠0:=λz=>a<|a2f.mp z;rw[Array.isEmpty];exact decide_eq_false<|by lia
noncomputable def FQ(K:ZD):gw->Hp->VK->Prop:=λxs H Q=>∃a ps,xs=[V.ref a]/\H a=a7 (a8 a ps)/\fE K H ps/\(ps.map λp=>Tb.hashT p.1).Nodup/\∀l,H l=b3->Q (.ref l) (aP H l<|a8 l ps)
theorem SK:CallR X (.type "dict") (FQ X.K):=by
 intro b1C s σ H xs us Q I r h;obtain⟨a,d,rfl,ha,hk,nd,q⟩:=h;obtain⟨u,rfl,ru⟩:=fP r;cases ru;have hn:H s.heap.objs.size=none:=I.hok.fresh<|ZN _;obtain⟨⟨m,T,lo,w,o,c,x,i,v,B,K,h5⟩,_⟩:=(show ObjOk X.prog X.w H s.heap a (a8 a d)from I.hok a _ ha);obtain⟨_,_,es',ep',g,E⟩:=qE I ha hk;obtain⟨z,U,g2,Y⟩:=id g;rw[i]at U;cases U;rw[B]at Y;cases Y;have R:c.size=d.length:=by have:=congrArg a0F E;simpa using this
 have N:(c.toList.map (·.hash)).Nodup:=by
  have:c.toList.map (·.hash)=d.map λp=>Tb.hashT p.1:=by rw[K];exact FP d m<|by rw[<- T.length,ZF]
  rw[this];exact nd
 refine b1y (Q₁:=λy j=>y=.ref s.heap.objs.size/\j={s with heap:=s.heap.push {cls:=.type "dict",data:=.dict #[]}}) F.kt_called_dict (F.kt_typeCall_dict_1 _) F.entry_dict_init (kt_code_dict_new _ ⟨rfl,rfl⟩) ?_;rintro y j ⟨rfl,rfl⟩;have n:({s with heap:=s.heap.push {cls:=.type "dict",data:=.dict #[]}}:ZJ).heap.get? s.heap.objs.size=a7 {cls:=.type "dict",data:=.dict #[]}:=ZW _ rfl;have ty:({s with heap:=s.heap.push {cls:=.type "dict",data:=.dict #[]}}:ZJ).TypeIs (.ref s.heap.objs.size) "dict":=⟨_,n,rfl⟩;have ga:RawD (s.heap.push {cls:=.type "dict",data:=.dict #[]}) a c x:=g.stay λo e=>ZK _ e;refine⟨ty,F.args_dict_init_2 _ _,?_⟩;unfold Builtin.«dict.__init__»;refine ZE ?_;unfold b1h;refine ZE<|a3m ty<|ZM ?_;show Z3 _ _ (a6j "dict.__init__" s.heap.objs.size (.ref a) [] .none) _ _ _;unfold a6j;refine ZE<|wpAny_typeOf (T:="dict") ⟨_,ZK _ i,v.1⟩ ?_;rw[if_neg<|by decide];refine ZE ?_;unfold b1l b1i;have A:({s with heap:=s.heap.push {cls:=.type "dict",data:=.dict #[]}}:ZJ).TypeIs (.ref a) "dict":=⟨_,ZK _ i,v.1⟩;refine ZE<|ZE<|a3w A isSubtype_dict_dict ?_;simp only[a2X,Z5,if_false];refine ZE<|a3E A F.slot_dict_iter.lookup<|ZM ?_;simp only[beq_self_eq_true,if_true];refine ZE<|ZM ?_;unfold b1k;have L:(s.heap.objs.size==a)=false:=beq_eq_false_iff_ne.mpr<|a0o<|Z6<|ZV i;rw[if_neg<|by rw[L];exact a0a];unfold a1P;rw[if_neg<|by rw[lo];exact a0a];have k:=ZK {cls:=.type "dict",data:=.dict #[]} i;refine ZE<|ZM<|ZE<|a1q k B ?_;have big:(s.heap.objs.size==a1t)=false:=beq_eq_false_iff_ne.mpr<|a0o<|Z6 I.big;by_cases l:d=[]
 .have z:c=#[]:=Array.eq_empty_of_size_eq_zero (by rw[R,l];rfl);subst z;have fe:(decide ((#[]:Array DictEntry).size<=8)&&(#[]:Array DictEntry).all λe=>(keyPart e.key).isSome)=true:=by simp
  simp only[fe,a2X,Z5,if_false];refine ZE<|a3c k B ?_;refine ZE<|a1q k B ?_;have fr:∀g:Nat->PUnit->a9e (ForInStep PUnit),(forIn [:(#[]:Array DictEntry).size] b0A g:a9e PUnit)=pure b0A:=λg=>by simp
  rw[fr];refine ZE<|ZM<|ZM ?_;refine ZE<|ZM<|ZM ?_;refine⟨rfl,.ref s.heap.objs.size,_,I.laid (t':=s.toks) (a:=s.heap.objs.size) (o:=a8 s.heap.objs.size d) (λb u e=>ZK _ e) (ZN _) ⟨⟨m,T,big,w,_,#[],0,n,⟨rfl,rfl,rfl⟩,rfl,K,h5⟩,⟨_,n⟩,?_⟩,rfl,q _ hn⟩;rintro k1 k2 ⟨m,r,O,w,o,c,x,i,v⟩ M;exact⟨m,r,O,w,o,c,x,M o i,v⟩
 have J:=SI (bs:=d.map (·.2.1)) (λz=>l<|a4e.mp z) (by rw[E,ZS];rfl);simp only[J,a9M,a2r,if_true];refine ZE<|a1q n rfl ?_;simp only[Array.isEmpty_empty,if_true];have hes:c.size<=ZX:=by lia
 have G:=SJ (bs:=d.map (·.2.1)) (λz=>l<|a4e.mp z) (by rw[E,ZS];rfl);refine ZE<|SG (bs:=d.map (·.2.1)) ga (by rw[E,ZS];rfl) (λb hb=>?_) N ?_
 .obtain⟨p,hp,rfl⟩:=ZQ.mp hb;obtain⟨its,rx,⟨ot,e1,e2,_⟩,_⟩:=I.tuple<|hk p hp;exact⟨ot,ZK _ e1,e2⟩
 simp only[G,a2r,if_true];refine ZE (wpAny_updateDictKeysTo n rfl (ZM ?_)<|by lia);have Z:=a1Z (Obj.mapDictKeys λ_=>c) n<|a8B<|a5y (o:={cls:=.type "dict",data:=.dict #[]}) rfl _;refine ZE<|ZM<|ZM ?_;refine⟨rfl,.ref s.heap.objs.size,_,I.laid (t':=s.toks) (a:=s.heap.objs.size) (o:=a8 s.heap.objs.size d) (λb u e=>?_) (ZN _) ⟨⟨m,T,big,w,_,c,1,Z,?_,rfl,K,h5⟩,⟨_,Z⟩,?_⟩,rfl,q _ hn⟩
 .rw[a1T _ _<|a0o<|Z6<|ZV e];exact ZK _ e
 .exact b0B ⟨rfl,rfl,rfl⟩ _
 .rintro k1 k2 ⟨m,r,O,w,o,c,x,i,v⟩ M;exact⟨m,r,O,w,o,c,x,M o i,v⟩
noncomputable abbrev sJ:=List<|List Int×Addr×Value
inductive Hits (A:a0y)(s:ZJ)(ys:sJ):sJ->Bool->Prop
 |nil:Hits A s ys [] b5
 |miss {x:List Int×Addr×Value}{r:sJ}:a5P ys x.1=b3->Hits A s ys (x::r) b4
 |hit {x:List Int×Addr×Value}{p:Addr×Value}{r:sJ}{e b:Bool}:a5P ys x.1=a7 p->a6K A s x.2.2 p.2 e->Hits A s ys r b->Hits A s ys (x::r) (e&&b)
theorem SM d(hd:(d==a1t)=b4):b0m P w (Builtin.«dict.values» ⟨[.ref d],[]⟩) (λ_ R s=>(∃es ep,RawD s.heap d es ep) /\
   R (.ok<|.ret<|.ref s.heap.objs.size) {s with heap:=s.heap.push {cls:=.type "dict_values",data:=.fields #[.ref d]}}):=
 .of_wp λA R s ⟨⟨es,ep,g⟩,h⟩=>by show Z3 _ _ (a4S "values" _ >>= _) _ _ s;refine ZE ?_;unfold a4S;refine ZE<|a3m g.ty ?_;show Z3 _ _ (pure d) _ _ s;refine ZM ?_;show Z3 _ _ (a1P d >>= _) _ _ s;unfold a1P;rw[if_neg<|by rw[hd];exact a0a];refine ZE<|ZM ?_;exact ZE<|a1f<|ZM ⟨_,rfl,h⟩
theorem SN(c:s.heap.IsValuesView v d)(g:RawD s.heap d es ep)(q:Q (.ref s.heap.objs.size) {s with heap:=s.heap.push {cls:=.type "dict_valueiterator",data:=.fields #[.ref d,.int 0 0,.int es.size 0,.int ep 0]}}):Z3 (a0d P w) A (a4Y<|.ref v) Q E s:=by
 obtain⟨l,b,j,a⟩:=id c;obtain⟨z,e,k,h⟩:=id g;refine a6C c.typeIs F.slot_dict_values_iter<|a1Q F.slot_dict_values_iter c.typeIs F.entry_dict_values_iter ?_<|F.args_dict_values_iter_1 _;unfold Builtin.«dict_values.__iter__»;refine ZE<|ZM<|ZE ?_;unfold a5n;refine ZE<|a4k b a (x:=.ref d) rfl<|ZM<|ZE ?_;unfold a4R;refine ZE<|a1q e h<|ZE<|a3c e h ?_;simp only[show a1X "dict_valueiterator"=b4 by decide,Z5,if_false];refine a1f<|ZM ⟨_,rfl,"dict_valueiterator",_,⟨_,ZW _ rfl,rfl⟩,F.slot_dict_valueiterator_next.lookup,?_⟩;simpa[a3A]using q
theorem FR(o:A.handled=b3)(j:s.heap.IsValIter it d i es.size ep)(g:RawD s.heap d es ep)(r:∀e a,es[i]?=a7 e->a.IsValIter it d (i+1) es.size ep->a2n it s.heap a->Q (a7 e.val) {s with heap:=a})(v:es[i]?=b3->∀a,a4E it s.heap a->Q b3 {s with heap:=a}):Z3 (a0d P w) A (a4b<|.ref it) Q E s:=by
 obtain⟨y,h,p,b⟩:=id j;obtain⟨z,l,B,m⟩:=id g;have k:∀{Q:String->ZJ->Prop}{A:a0y}{E:Value->ZJ->Prop},Q "dict_valueiterator" s->Z3 (a0d P w) A (a7p<|.ref it) Q E s:=λq=>wpAny_typeNameOfWhole_valiter j.typeIs q;unfold a4b;refine ZE<|a8l<|a5k (name:=a1r "__next__") j.typeIs F.slot_dict_valueiterator_next<|a1Q F.slot_dict_valueiterator_next j.typeIs F.entry_dict_valueiterator_next ?_<|F.args_dict_valueiterator_next_1 _;refine ZE<|ZM<|ZE<|ZE<|ZE<|k<|ZM<|ZE<|a7G h b ?_;simp only[show a1X "dict_valueiterator"=b4 by decide,Z5,if_false];show Z3 _ _ (if(ZZ d==a0T)=b5 then _ else _) _ _ _;rw[if_neg<|show ¬ (ZZ d==a0T)=b5 from λx=>a0a x];refine ZE<|ZM<|ZE<|a1q l m ?_;rw[if_neg λx=>by simp at x];refine ZE<|ZM<|ZE<|a3c l m ?_;rw[if_neg λx=>by simp at x];refine ZM ?_;simp only[if_neg<|show ¬ ((i:Int)<0) by lia,a4I];cases n:es[i]? with
 |some e=>
  refine ZE<|ZE<|k<|ZM<|ZE<|a5C j.typeIs ?_;show Z3 _ _ (a6E (.ref it) 1 (a3A<|(i:Int)+1) >>= _) _ _ _;refine ZE (a4L h b (by simp) ?_);have c:(s.heap.update it<|a5K (·.setIfInBounds 1<|a3A<|(i:Int)+1)).IsValIter it d (i+1) es.size ep:=
   ⟨_,a1Z _ h<|a8e<|a4t b _,(a9i ..).trans p,by simp[a4t b,a3A]⟩
  generalize hu:s.heap.update it (a5K (·.setIfInBounds 1<|a3A<|(i:Int)+1))=u at c;refine ZE<|a1i<|ZE<|a5C (s:={s with heap:=u}) c.typeIs<|ZE<|a5C (s:={s with heap:=u}) c.typeIs ?_;show Z3 _ _ (pure e.val) _ _ _;exact ZM<|ZM ⟨_,rfl,ZM<|r e u n c<|hu▸a1M ..⟩
 |none=>refine ZE<|ZE<|k<|ZM ?_;show Z3 _ _ (a6E (.ref it) 0 .none >>= _) _ _ _;refine ZE (a4L h b (by simp) ?_);show Z3 _ _ (a8J (.type "StopIteration") [] >>= _) _ _ _;simp only[a8J,b1u];refine ZE (ZE<|a1f ?_<|by size_fits);refine ZE (m:=a3R _ _) (a5O (a:=a0T) (by first|rfl|(simp only[a3R];rfl))<|a1f ?_<|by size_fits);simp only[b1t];refine ZE<|a8j ?_;rw[show A.in1.handled=b3 from o];refine ZE<|ZM<|a9s ?thrown;case thrown=>exact ZE<|a3w (T:="StopIteration") (b:=b5) ⟨_,ZW _ rfl,rfl⟩ a7K<|ZM<|v n _<|((a1M ..).extBut.push _).push _
noncomputable def AB(d:Addr)(ob:Obj)(ps:b9):It:=⟨λi H=>H d=a7 (.frz ob<|a8 d ps)/\i<ps.length,λi H x a=>a=H/\∃p,ps[i]?=a7 p/\x=p.2.2,λi H=>H d=a7 (.frz ob<|a8 d ps)/\ps.length<=i⟩
theorem SO(hd:ob.data=.dict x U):Turn Qc P w K tg (AB d ob ps) [n] n (λi h=>h.IsValIter n d i x.size U) where
 mem:=by simp
 obj:=λi h st b j=>by
  have e:b=n:=by simpa using j
  subst e;obtain⟨o,e,c,d⟩:=st;exact⟨o,e,λv z=>by rw[d]at z;cases z⟩
 keep:=λi h q st k=>let⟨o,e,c⟩:=st;⟨o,k n (by simp) o e,c⟩;item:=by
  intro X R hw Q hc i p s σ H E I A st T;subst R hw Q;obtain⟨m,r⟩:=T;obtain⟨lo,hl,G,B,g,a,y⟩:=sI I m;rw[hd]at a;cases a;have hs:x.size=ps.length:=by have:=y.length;rw[ZF,ZF,a2j]at this;exact this.symm
  obtain⟨J,L,f2,M,N,O⟩:=A n (by simp);refine FR (I.ok.hd hc) st g (λe q l Z sb=>?_) λhn=>by simp at hn;lia
  have I1:Inv X p σ H {s with heap:=q}:=I.turned (t':=s.toks) (λb o j e=>(sb.2 b j).trans e) J L M N O;obtain⟨o,e1,c,d1⟩:=id Z;have Y:ps[i]?=a7 ps[i]:=ZT r;obtain⟨u,u1,u2⟩:=y.get (i:=i) (x:=ps[i].2.2) (by rw[ZU,Y];rfl);rw[ZU,a1g,l]at u1;cases u1;exact⟨e.val,rfl,o7 (s:={s with heap:=q}) e1 c d1 (by decide) ⟨ps[i].2.2,H,I1,u2,⟨rfl,ps[i],Y,rfl⟩,Z,λb j=>(A b j).1⟩⟩
 done:=by
  intro X R hw Q hc i p s σ H E I A st T;subst R hw Q;obtain⟨m,r⟩:=T;obtain⟨lo,hl,G,B,g,a,y⟩:=sI I m;rw[hd]at a;cases a;have hs:x.size=ps.length:=by have:=y.length;rw[ZF,ZF,a2j]at this;exact this.symm
  obtain⟨J,L,f2,M,N,O⟩:=A n (by simp);exact FR (I.ok.hd hc) st g (λe q l=>by
   have:=(a4o.mp l).1;lia) λ_ q eb=>⟨rfl,I.turned (t':=s.toks) (λb o j e=>eb b o j e) J L M N O⟩
 self:=λ_ _ _ _ _ st h=>wpAny_pyIter_valiter st h
theorem SQ(G:PE X l J)(j:a2N l "values" X.env (eval l X.env)=eval l X.env)(k:(a.endLine==c.line)=b5):
  PI X tg (.Call (.Attribute l "values" a) [] [] c) (λp H R=>J p H λv m=>∃d x A,v=.ref d/\m d=a7 (.frz x<|a8 d A)/\R (AB d x A) m):=by
 intro i s p H R I h;refine a8v j k<|aW (G i s p H _ I h) λv n ⟨y,m,B,r1,q1⟩=>?_;obtain⟨d,x,A,e,E,q⟩:=q1;subst e;obtain rfl:v=ZZ d:=r1;obtain⟨Z,G,N,L,g,hd,he⟩:=sI B E;refine⟨"dict","dict.values",a4A,a6L,PySem.F.type_dict_values,g.ty,λb K=>?_,a3D rfl<|a7X ?_⟩
 .cases K;obtain⟨z,Q,u,_⟩:=g;exact⟨z,Q,u.2.1⟩
 refine a5w a6L g.ty PySem.F.entry_dict_values (PySem.F.args_dict_values_1 _) (SM d Z) ⟨⟨N,L,g⟩,?_⟩;have r:Inv X i p m {n with heap:=n.heap.push {cls:=.type "dict_values",data:=.fields #[.ref d]}}:=B.kept (t':=n.toks) λb o e=>ZK _ e;obtain⟨lo2,Y,O,M,u,w,U⟩:=sI r E;show Z3 (a0d X.prog X.w) X.A (a4Y<|.ref n.heap.objs.size) (yA X i p tg R) X.xe _;refine SN ⟨_,ZW _ rfl,rfl,rfl⟩ u ⟨_,[_],_,_,m,rfl,r.kept (t':=n.toks) λb o e=>ZK _ e,SO w,⟨_,ZW _ rfl,rfl,rfl⟩,λb T=>?_,q⟩;have e:=a0r.mp T;subst e;exact r.fpOk (ZN _)<|r.hok.fresh<|ZN _
noncomputable def jX(kvs:jx):List D:=kvs.map (·.2)
theorem SR{ps:b9}(c:H d=a7 (.frz ob<|a8 d ps))(T:IsTs K π n H ps kvs):Wk K (AB d ob ps) (cS<|.tup<|jX kvs) π n H:=by
 have s:ps.length=kvs.length:=by have:=congrArg a0F T.to.1;simpa using this
 refine⟨λb q h i e R z=>?_,λb q h i j e R z=>?_⟩
 .have a:(jX kvs)[i]?=none:=Z0 z;have:=a0C.mp a;rw[jX,ZF]at this;exact⟨e.frz _ _ _ c,by lia⟩
 .have a:(jX kvs)[i]?=a7 j:=Z0 z;have hi:i<kvs.length:=by have:=(ZG.mp a).1;rwa [jX,ZF]at this
  refine⟨⟨e.frz _ _ _ c,by lia⟩,λv r ⟨k,p,l,m⟩=>?_⟩;subst k m;obtain⟨u,g,o⟩:=(T.to.2.2.mono e).get a;rw[ZU,l]at g;cases g;exact⟨.refl,R,o⟩
noncomputable def qI(m:ME):MI:=λb μ=>(m b μ).bind λp=>match p.1 with
 |.loc a=>match p.2[a]? with
  |some (.dF kvs)=>a7 (cS<|.tup<|jX kvs,kvs.length+1,p.2)|_=>b3
 |_=>b3
theorem SS(h:QE X e m)(r:f9 e=b5)(q:(a.endLine==b.line)=b5):QJ X (.Call (.Attribute e "values" a) [] [] b) (qI m):=⟨λtg b1C s σ H R I hw=>by
 obtain⟨J,K,A,z,n,B,l,E,c,k⟩:=hw;obtain⟨⟨x,G⟩,p,c⟩:=ZC.mp c;dsimp only at c;split at c
 .split at c
  .rename_i v hc;cases c;refine SQ h.h (kG r) q b1C s σ H R I ⟨J,K,A,_,_,l,E,p,λd L j o g u=>?_⟩;cases u;obtain⟨w,y,i,T⟩:=qD g hc;exact⟨_,w,y,rfl,i,k d j _ o g<|SR i T⟩
  .cases c
 .cases c⟩
theorem FT(h:A.handled=b3)(j:IsItemIter s.heap it d i es.size ep ok ov)(g:RawD s.heap d es ep)(m:∀e a,es[i]?=a7 e->a6r a it d (i+1) es.size ep e.key e.val s.heap.objs.size->a.get? s.heap.objs.size=a7 {cls:=.type "tuple",data:=.seq #[e.key,e.val]}->
   (∀b o,b≠it->s.heap.get? b=a7 o->a.get? b=a7 o)->Q (a7<|.ref s.heap.objs.size) {s with heap:=a})(n:es[i]?=b3->∀a,a4E it s.heap a->Q b3 {s with heap:=a}):Z3 (a0d P w) A (a4b<|.ref it) Q E s:=
 Sf (S:=d) h j (.inl rfl) g g.lt (λe a c _ o l _ k=>m e a c (o rfl) l k) n
noncomputable def AD(d:Addr)(ob:Obj)(ps:b9):It:=⟨λi H=>H d=a7 (.frz ob<|a8 d ps)/\i<ps.length,λi H x a=>∃t p,x=.ref t/\H t=b3/\ps[i]?=a7 p/\a=aP H t (.tup [.ref p.2.1,p.2.2]),λi H=>H d=a7 (.frz ob<|a8 d ps)/\ps.length<=i⟩
theorem SU(hd:ob.data=.dict G ep):Turn Qc P w K (.Tuple el kx pt) (AD d ob ps) [j] j (λi h=>∃ok p,IsItemIter h j d i G.size ep ok p) where
 mem:=by simp
 obj:=λi h ⟨ok,p,st⟩ b n=>by
  have e:b=j:=by simpa using n
  subst e;exact⟨_,st,λv z=>by
   have z':a0B _=a4Q v:=z;cases z'⟩
 keep:=λi h R ⟨ok,p,st⟩ k=>⟨ok,p,k j (by simp) _ st⟩;item:=by
  intro X U hw T hc i M s σ H E I J ⟨ok,p,st⟩ Z;subst U hw T;obtain⟨m,x⟩:=Z;obtain⟨lo,hl,O,N,g,a,L⟩:=oJ I m;rw[hd]at a;cases a;obtain⟨_,_,es2,ep2,_,r,he⟩:=sI I m;rw[hd]at r;cases r;have hs:G.size=ps.length:=by have:=congrArg a0F L;simpa using this
  refine FT (I.ok.hd hc) st g (λe R l a1 a2 a3=>⟨_,rfl,wpAny_letOwnedTupleGo_items a1 λh2 b1 B=>?_⟩) λhn=>by simp at hn;lia
  have hp:ps[i]?=a7 ps[i]:=ZT x;have ek:e.key=.ref (ps[i]).2.1:=by have:=congrArg (·[i]?) L;simp only[ZU,a1g,l,hp,Z4]at this;exact Z0 this
  obtain⟨u,u1,u2⟩:=he.get (i:=i) (x:=ps[i].2.2) (by rw[ZU,hp];rfl);rw[ZU,a1g,l]at u1;cases u1;have y:j<s.heap.objs.size:=ZV st;have ht2:h2.get? s.heap.objs.size=a7 {cls:=.type "tuple",data:=.seq #[e.key,e.val]}:=(B.2 _<|a2a y).trans a2;have Y:H s.heap.objs.size=none:=I.hok.fresh<|ZN _;refine⟨.ref s.heap.objs.size,aP H s.heap.objs.size<|.tup [.ref (ps[i]).2.1,(ps[i]).2.2],?_,rfl,⟨_,ps[i],rfl,Y,hp,rfl⟩,⟨_,_,b1⟩,λc n=>?_⟩
  .refine Aj (s:=s) (h':=h2) (t':=s.toks) (ch:=[j]) I (λc oc n ec=>?_) J (ZN _) ?_
   .have q:c≠j:=by simpa using n
    exact(B.2 c q).trans<|a3 c oc q ec
   .exact⟨by show(2:Nat)<=ZX;decide,[e.key,e.val],.cons ek<|.cons u2 .nil,_,ht2,rfl,0,rfl,rfl⟩
  .rw[bN]
   .exact(J c n).1
   .have e:c=j:=by simpa using n
    rw[e];exact Z6 y
 done:=by
  intro X U hw T hc i M s σ H E I J ⟨ok,p,st⟩ Z;subst U hw T;obtain⟨m,x⟩:=Z;obtain⟨lo,hl,O,N,g,a,L⟩:=oJ I m;rw[hd]at a;cases a;have hs:G.size=ps.length:=by have:=congrArg a0F L;simpa using this
  obtain⟨f0,f1,f2,f3,f4,f5⟩:=J j (by simp);exact FT (I.ok.hd hc) st g (λe R l=>by
   have:=(a4o.mp l).1;lia) λ_ R eb=>⟨rfl,I.turned (t':=s.toks) (λb o n e=>eb b o n e) f0 f1 f3 f4 f5⟩
 self:=λA i s Q E ⟨ok,p,st⟩ h=>PySem.W.kcp_self st h
theorem FU(J:PE X l L)(j:a2N l "items" X.env (eval l X.env)=eval l X.env)(k:(a.endLine==c.line)=b5):
  PI X (.Tuple E K pt) (.Call (.Attribute l "items" a) [] [] c) (λp H R=>L p H λv m=>∃d x A,v=.ref d/\m d=a7 (.frz x<|a8 d A)/\R (AD d x A) m):=by
 intro i s p H R I h;refine a8v j k<|aW (J i s p H _ I h) λv n ⟨y,m,B,r1,q1⟩=>?_;obtain⟨d,x,A,e,G,q⟩:=q1;subst e;obtain rfl:v=ZZ d:=r1;obtain⟨lo,J,Q,N,g,hd,he⟩:=oJ B G;refine⟨"dict","dict.items",a4A,a6Q,PySem.F.type_dict_items,g.ty,λb M=>?_,a3D rfl<|a7X ?_⟩
 .cases M;obtain⟨z,U,u,_⟩:=g;exact⟨z,U,u.2.1⟩
 refine a5w a6Q g.ty PySem.F.entry_dict_items (PySem.F.args_dict_items_1 _) (Sj d lo) ⟨⟨Q,N,g⟩,?_⟩;have r:Inv X i p m {n with heap:=n.heap.push {cls:=.type "dict_items",data:=.fields #[.ref d]}}:=B.kept (t':=n.toks) λb o e=>ZK _ e;obtain⟨lo2,hl2,T,O,u,w,Z⟩:=oJ r G;show Z3 (a0d X.prog X.w) X.A (a4Y<|.ref n.heap.objs.size) (yA X i p (.Tuple E K pt) R) X.xe _;refine Sg ⟨_,ZW _ rfl,rfl,rfl⟩ u ⟨_,[_],_,_,m,rfl,r.kept (t':=n.toks) λb o e=>ZK _ e,SU w,⟨_,_,ZW _ rfl⟩,λb Y=>?_,q⟩;have e:=a0r.mp Y;subst e;exact r.fpOk (ZN _)<|r.hok.fresh<|ZN _
noncomputable def eK(kvs:jx):List D:=kvs.map λk=>.tup [.tup<|k.1.map D.int,k.2]
theorem FV{ps:b9}(h:H d=a7 (.frz ob<|a8 d ps))(T:IsTs K π n H ps kvs):Wk K (AD d ob ps) (cS<|.tup<|eK kvs) π n H:=by
 have A:ps.length=kvs.length:=by have:=congrArg a0F T.to.1;simpa using this
 refine⟨λg x l i e R z=>?_,λg x l i m e R z=>?_⟩
 .have a:(eK kvs)[i]?=none:=Z0 z;have:=a0C.mp a;rw[eK,ZF]at this;exact⟨e.frz _ _ _ h,by lia⟩
 .have a:(eK kvs)[i]?=a7 m:=Z0 z;have hi:i<kvs.length:=by have:=(ZG.mp a).1;rwa [eK,ZF]at this
  refine⟨⟨e.frz _ _ _ h,by lia⟩,λv y ⟨t,p,o,q,r,s⟩=>?_⟩;subst o s;have b:kvs[i]?=a7 kvs[i]:=ZT hi;obtain⟨B,j,u⟩:=(T.to.2.1.mono e).get (i:=i) (d:=D.tup ((kvs[i]).1.map D.int)) (by rw[ZU,b];rfl);obtain⟨E,k,w⟩:=(T.to.2.2.mono e).get (i:=i) (d:=(kvs[i]).2) (by rw[ZU,b];rfl);rw[ZU,r]at j k;cases j;cases k;obtain⟨c,R2⟩:=R.fresh (o:=.tup [.ref p.2.1,p.2.2]) q;rw[eK,ZU,b]at a;cases a;exact⟨c,R2,.tup (.of dD)<|.cons (u.mono c)<|.cons (w.mono c) .nil⟩
noncomputable def lG(m:ME):MI:=λb μ=>(m b μ).bind λp=>match p.1 with
 |.loc a=>match p.2[a]? with
  |some (.dF kvs)=>a7 (cS<|.tup<|eK kvs,kvs.length+1,p.2)|_=>b3
 |_=>b3
theorem SV(h:QE X e m)(r:f9 e=b5)(q:(a.endLine==b.line)=b5):QJT X (.Call (.Attribute e "items" a) [] [] b) (lG m):=⟨λL M pt b1C s σ H R I hw=>by
 obtain⟨J,K,A,z,n,B,l,E,c,k⟩:=hw;obtain⟨⟨x,G⟩,p,c⟩:=ZC.mp c;dsimp only at c;split at c
 .split at c
  .rename_i v hc;cases c;refine FU h.h (kG r) q b1C s σ H R I ⟨J,K,A,_,_,l,E,p,λd N j o g u=>?_⟩;cases u;obtain⟨w,y,i,T⟩:=qD g hc;exact⟨_,w,y,rfl,i,k d j _ o g<|FV i T⟩
  .cases c
 .cases c⟩
theorem SW(i:PE X l g):PE X l (λσ H Q=>g σ H λv a=>∃d ps,v=.ref d/\a d=a7 (a8 d ps)/\∀ob,Q v (aP a d<|.frz ob<|a8 d ps)):=by intro b s σ H Q I h;refine aW (i b s σ H _ I h) λv n ⟨y,a,c,m,k⟩=>?_;obtain⟨d,ps,rfl,e,q⟩:=k;obtain⟨_,⟨ob,j⟩,_⟩:=(show ObjOk X.prog X.w a n.heap d (a8 d ps)from c.hok _ _ e);exact⟨_,_,Inv.freeze c e j,m,q ob⟩
noncomputable def sL(m:ME):MI:=λb μ=>(m b μ).bind λp=>match p.1 with
 |.loc a=>match p.2[a]? with
  |some (.dT kvs)=>a7 (cS<|.tup<|eK kvs,kvs.length+1,p.2.set a<|.dF kvs)|_=>b3
 |_=>b3
theorem SX(h:QE X e m)(w:f9 e=b5)(v:(a.endLine==b.line)=b5):QJT X (.Call (.Attribute e "items" a) [] [] b) (sL m):=⟨λM N pt b1C s σ H R I hw=>by
 obtain⟨J,K,A,z,n,B,q,E,c,k⟩:=hw;obtain⟨⟨x,G⟩,u,c⟩:=ZC.mp c;dsimp only at c;split at c
 .split at c
  .rename_i i hc;cases c;refine FU (SW h.h) (kG w) v b1C s σ H R I ⟨J,K,A,_,_,q,E,u,λl O L r o y=>?_⟩;cases y;obtain⟨d,p,T⟩:=iP o hc;refine⟨_,d,rfl,p,λj=>?_⟩;obtain⟨g,R2⟩:=o.put (c:=.dF i) (o:=.frz j (a8 _ d)) (ZG.mp hc).1 p (.inr<|.inr ⟨_,rfl⟩) ⟨j,d,rfl,T.to⟩;exact⟨_,j,d,rfl,dD,k l _ _ (r.trans g) R2<|FV dD<|IsTs.of T.to.1 (T.to.2.1.mono g)<|T.to.2.2.mono g⟩
  .cases c
 .cases c⟩
open PyProof.Rows (IsTup kmk_tree seqObj)
noncomputable abbrev Lft(wr:List Addr)(S:Addr)(h h':a1d):Prop:=∀b o,b∉wr->b≠S->h.get? b=a7 o->h'.get? b=a7 o
theorem SY{St:Nat->a1d->Prop}{J:a1d->Prop}(K:Walks P w A.in1 I fp wr n Pv St)(T:∀h h',J h->Lft wr S h h'->J h')(hc:∀i j vi vj t (Q E:Value->ZJ->Prop),J t.heap->Pv i vi->Pv j vj->Q (.bool<|bt i j) t->Z3 (a0d P w) A.in1 (a4V .Lt vi vj) Q E t)(U:S∉fp):
  ∀k j s g c,n-(j+1)=k->j+1<=n->St (j+1) s.heap->J s.heap->Pv (a2Q bt j) g->s.heap.get? S=a7 {cls:=.type "list",dict:=b3,data:=.seq #[g,g] c,slots:=#[]}->
   (∀v h' G,Pv (a2Q bt<|n-1) v->Lft wr S s.heap h'->R (.ok<|.ret v) {s with heap:=h',toks:=G})->a3G (a0d P w) A (.builtin "min.loop" ⟨[.ref I,.none,.ref S],kw⟩) R s:=by
 have Z:S∉wr:=λz=>U<|K.sub _ z;have nm:(toString "min"++toString ".loop":String)="min.loop":=by decide
 intro k;induction k with
 |zero=>
  intro j s g c e1 e2 st Y B u q;obtain rfl:j+1=n:=by lia
  refine a7r F.entry_min_loop ?_;rw[a5j F.plain_min_loop _];refine ZE (m:=b0r (.ref S))<|a5N u rfl ?_;refine ZE (m:=tryCatch (a4b<|.ref I) _)<|a4K<|K.done s _ _ st λh' G p=>?_;refine ZE (m:=b0q S λ_=>#[])<|a5z (p S _ Z u) rfl<|ZE<|a4U<|ZM ?_;exact q g _ G B λb o d a e=>(a1T _ _<|a0o a).trans<|p b o d e
 |succ k X=>
  intro j s g c e1 e2 st Y B u q;refine a7r F.entry_min_loop ?_;rw[a5j F.plain_min_loop _];refine ZE (m:=b0r (.ref S))<|a5N u rfl ?_;refine ZE (m:=tryCatch (a4b<|.ref I) _) (a4K<|K.item (j+1) s _ _ (by lia) st λv h' G pv x p=>?_);have l:=p S _ Z u;have m:=T _ h' Y λb o d _ e=>p b o d e;show Z3 _ A.in1 (tryCatch (holding [v,v]<|a4V .Lt v g >>= _) _ >>= _) _ _ _;refine ZE<|a4K<|a1i<|ZE<|hc (j+1) (a2Q bt j) v g _ _ _ m pv B<|ZE<|a1i<|a1K<|ZE<|a4U<|ZM ?_;cases y:bt (j+1) (a2Q bt j)with
  |true=>simp only[if_true];refine ZE<|a5z l rfl<|ZE<|a4U ?_;rw[nm];have M:Lft [] S h' (h'.update S<|a1G λ_=>#[v,v]):=λb o _ a e=>(a1T _ _<|a0o a).trans e;refine ZM ⟨a4i F.plain_min_loop _,X (j+1) _ v _ (by lia) (by lia) (K.frame _ _ _ x λb y o e=>M b o (by simp) (λz=>U<|z▸y) e) (T _ _ m λb o _ a e=>M b o (by simp) a e) (by simp only[a2Q,y,if_true];exact pv) (a1Z _ l rfl) λO H r N L=>?_⟩;exact q O H r N λb o d a e=>L b o d a (M b o (by simp) a<|p b o d e)|false=>simp only[Z5,if_false];refine ZE<|a4U ?_;rw[nm];exact ZM ⟨a4i F.plain_min_loop _,X (j+1) _ g c (by lia) (by lia) x m (by simp only[a2Q,y,Z5,if_false];exact B) l λO H r N L=>q O H r N λb o d a e=>L b o d a<|p b o d e⟩
theorem S1{St:Nat->a1d->Prop}{J:a1d->Prop}(K:Walks P w A.in1 I fp wr n Pv St)(p:∀h h',J h->Lft wr S h h'->J h')(hc:∀i j vi vj t (Q E:Value->ZJ->Prop),J t.heap->Pv i vi->Pv j vj->Q (.bool<|bt i j) t->Z3 (a0d P w) A.in1 (a4V .Lt vi vj) Q E t)(q:S∉fp)(st:St 0 s.heap)(N:J s.heap)(G:s.heap.get? S=a7 {cls:=.type "list",dict:=b3,data:=.seq #[] c,slots:=#[]})(Y:0<n->∀v h' k,Pv (a2Q bt<|n-1) v->Lft wr S s.heap h'->R (.ok<|.ret v) {s with heap:=h',toks:=k})(Z:n=0->∃x d,kw=[(x,d)]/\∀h' k,Lft wr S s.heap h'->R (.ok<|.ret d) {s with heap:=h',toks:=k}):a3G (a0d P w) A (.builtin "min.loop" ⟨[.ref I,.none,.ref S],kw⟩) R s:=by
 have T:S∉wr:=λz=>q<|K.sub _ z;have U:(toString "min"++toString ".loop":String)="min.loop":=by decide
 refine a7r F.entry_min_loop ?_;rw[a5j F.plain_min_loop _];refine ZE (m:=b0r (.ref S))<|a5N G rfl ?_;by_cases H:n=0
 .subst H;obtain⟨x,d,rfl,q3⟩:=Z rfl;refine ZE (m:=tryCatch (a4b<|.ref I) _)<|a4K<|K.done s _ _ st λh' k m=>?_;exact ZE<|a5u<|ZM<|q3 h' k λb o a _ e=>m b o a e
 .refine ZE (m:=tryCatch (a4b<|.ref I) _) (a4K<|K.item 0 s _ _ (by lia) st λv h' k pv y m=>?_);have l:=m S _ T G;have r:=p _ h' N λb o a _ e=>m b o a e;refine ZE (m:=b0q S λ_=>#[v,v])<|a5z l rfl ?_;rw[U];have u:Lft [] S h' (h'.update S<|a1G λ_=>#[v,v]):=λb o _ g e=>(a1T _ _<|a0o g).trans e;refine ZM ⟨a4i F.plain_min_loop _,SY K p hc q _ 0 _ v _ rfl (by lia) (K.frame _ _ _ y λb M o e=>u b o (by simp) (λz=>q<|z▸M) e) (p _ _ r λb o _ g e=>u b o (by simp) g e) pv (a1Z _ l rfl) λv' L B X O=>?_⟩;exact Y (by lia) v' L B X λb o a g e=>O b o a g<|u b o (by simp) g<|m b o a e
noncomputable def AE(x y:List Int×List Int):Bool:=if x.1=y.1 then HT.lexLt x.2 y.2 else HT.lexLt x.1 y.1
theorem S2(U:A.units+2<a1W)(H:a7T s.heap a #[.ref b,.ref c])(o:a7T s.heap i #[.ref j,.ref c'])(x:oI P w s.heap b k)(d:oI P w s.heap j k')(hc:oI P w s.heap c m)(g:oI P w s.heap c' r)(q:Q (.bool<|AE (k,m) (k',r)) s):Z3 (a0d P w) A (a4V .Lt (.ref a)<|.ref i) Q E s:=by
 obtain⟨y,p,v,X,I⟩:=id H;obtain⟨B,n,u,Y,G⟩:=id o;have h:A.in1.units<a1W:=by show A.units+1<a1W;lia
 refine wpAny_richCompare_same_room (op:=.Lt) ⟨y,p,v⟩ ⟨B,n,u⟩ F.slot_tuple_lt (a1Q F.slot_tuple_lt ⟨y,p,v⟩ F.entry_tuple_lt ?_<|F.args_tuple_lt_2 _ _) (by lia);refine ZE (m:=isInstance (.ref i) (.type "tuple"))<|a3w ⟨B,n,u⟩ isSubtype_tuple_tuple ?_;simp only[a2X,Z5,if_false];refine ZE<|a9N p I<|ZE<|a9N n G<|ZE ?_;show Z3 _ _ (forIn [(ZZ b,ZZ j),(ZZ c,ZZ c')] _ _) _ _ s;simp only[a9C,List.forIn_nil];refine ZE<|ZE<|(a3Z<|a4z P w).eqBool h x.1 d.1 ?_;obtain⟨xs,N,J⟩:=x.2;obtain⟨ys,O,K⟩:=d.2;obtain⟨zs,R,L⟩:=hc.2;obtain⟨Z,T,M⟩:=g.2;unfold AE at q;dsimp only at q;by_cases e:k=k'
 .rw[decide_eq_true e];rw[if_pos e]at q;simp only[a2X,Z5,if_false];refine ZM<|ZE<|ZE<|(a3Z<|a4z P w).eqBool h hc.1 g.1 ?_;by_cases l:m=r
  .rw[decide_eq_true l];subst l;rw[FD]at q;simp only[a2X,Z5,if_false];exact ZM<|ZM<|ZM ⟨.bool b4,rfl,(λz=>nomatch z),q⟩
  .rw[decide_eq_false l];simp only[a2r,if_true];refine ZE (a5u<|ZE<|HT.lt_tupInts R T (by simpa using L) (by simpa using M) h ?_);exact ZE<|ZM<|ZM<|ZM<|ZM ⟨_,rfl,(λz=>nomatch z),q⟩
 .rw[decide_eq_false e];rw[if_neg e]at q;simp only[a2r,if_true];refine ZE (a5u<|ZE<|HT.lt_tupInts N O (by simpa using J) (by simpa using K) h ?_);exact ZE<|ZM<|ZM<|ZM<|ZM ⟨_,rfl,(λz=>nomatch z),q⟩
theorem FW(r:Vals xs us){i:Nat}(h:us[i]?=a7 u):∃x,xs[i]?=a7 x/\RelV x u:=by
 cases e:xs[i]? with
 |none=>rw[r.none_of e]at h;cases h|some x=>obtain⟨c,a,b⟩:=r.get e;rw[a]at h;cases h;exact⟨x,rfl,b⟩
section
variable{X:Cx}{b1C:jw}{σ:St}{H:Hp}{s:ZJ}
theorem vM(I:Inv X b1C σ H s)(h:SqT X.K H b (k.map V.int)):oI X.prog X.w s.heap b k:=by obtain⟨a,c,t,_⟩:=I.tuple h;exact⟨mF I h,a,t,uI c⟩
structure PrV(K:ZD)(H:Hp)(v:V)(a b c:Addr)(z:List Int×List Int):Prop where
 v:v=.ref a
 t:SqT K H a [.ref b,.ref c]
 k:SqT K H b<|z.1.map V.int
 m:SqT K H c<|z.2.map V.int
theorem Lft.up{a:a1d}(j:∀b o,a.get? b=a7 o->h.get? b=a7 o)(l:Lft c S h h')(hw:∀b∈c,a.objs.size<=b)(d:a.objs.size<=S):∀b o,a.get? b=a7 o->h'.get? b=a7 o:=λb o e=>l b o (λz=>absurd (ZV e)<|a2F.mpr<|hw b z) (λz=>absurd (ZV e)<|a2F.mpr<|z▸d)<|j b o e
noncomputable def mK(ps:List (List Int×List Int))(i j:Nat):Bool:=AE (ps.getD i ([],[]))<|ps.getD j ([],[])
noncomputable def FX(K:ZD):gw->Hp->VK->Prop:=λxs H Q=>∃(p:Addr)(vs:gw)(ps:List (List Int×List Int)),xs=[.ref p,.non]/\SqL K H p vs/\(∀i v,vs[i]?=a7 v->∃a b c,PrV K H v a b c (ps.getD i ([],[]))) /\
 (vs=[]->Q .non H)/\∀v,vs[a2Q (mK ps) (vs.length-1)]?=a7 v->Q v H
theorem S3 a:argsOk "min" ⟨[a],[(a1r "default",.none)]⟩:=by unfold argsOk;kernel_rfl
noncomputable abbrev vO(a:Option Value):List (Str×Value):=a.toList.map λd=>(a1r "default",d)
theorem S4 a(hd:a=b3\/a=a7 .none)(hit:∀{A}{Q E},Q (.ref s.heap.objs.size) {s with heap:=s.heap.push b}->Z3 (a0d P w) A (a4Y u) Q E s)(h:a3G (a0d P w) A (.builtin "min.loop" ⟨[.ref s.heap.objs.size,.none,.ref (s.heap.push b).objs.size],vO a⟩) (λr d=>match r with|.ok (.ret v)=>Q v d|.ok _=>False|.error e=>E e d) {s with heap:=(s.heap.push b).push<|a1D "list" #[] 0}):
  Z3 (a0d P w) A (call (.builtin "min") [u]<|vO a) Q E s:=by
 have c:(toString "min"++toString ".loop":String)="min.loop":=by decide
 rcases hd with rfl|rfl
 .refine call_function_tree a8n a8b a8c (PySem.F.args_min1 _) ?_;refine ZE (m:=a2G "min" ["key","default"] 0 ⟨[],[]⟩)<|a5O (show a2G "min" ["key","default"] 0 ⟨[],[]⟩=pure [b3,b3]from rfl)<|ZE<|ZM<|ZE<|hit<|ZE<|a4h ?_<|a0I _;rw[c];exact ZM ⟨a4i a7c _,h⟩
 .refine kmk_tree a8n a8b a8c (S3 _) ?_;refine ZE (m:=a2G "min" ["key","default"] 0 ⟨[],[(a1r "default",.none)]⟩)<|a5O (show a2G "min" ["key","default"] 0 ⟨[],[(a1r "default",.none)]⟩=pure [b3,a7 .none]from rfl)<|ZE<|ZM<|ZE<|hit<|ZE<|a4h ?_<|a0I _;rw[c];exact ZM ⟨a4i a7c _,h⟩
theorem FY(I:Inv X b1C σ H s)a(hd:a=b3\/a=a7 .none)(hit:∀{A}{Q E},Q (.ref s.heap.objs.size) {s with heap:=s.heap.push d}->Z3 (a0d X.prog X.w) A (a4Y u) Q E s){p:Addr}(y:p<s.heap.objs.size){St:Nat->a1d->Prop}(K:Walks X.prog X.w X.A.in1 s.heap.objs.size [s.heap.objs.size,p] [s.heap.objs.size] n g St)(st:St 0 ((s.heap.push d).push<|a1D "list" #[] 0))(c:∀i j k m (t:ZJ)(Q E:Value->ZJ->Prop),Inv X b1C σ H {s with heap:=t.heap,toks:=t.toks}->g i k->g j m->Q (.bool<|bt i j) t->Z3 (a0d X.prog X.w) X.A.in1 (a4V .Lt k m) Q E t)(Y:0<n->∀v,g (a2Q bt<|n-1) v->∃x,RelV x v/\Q x H)(Z:n=0->a=a7 .none/\Q .non H):Z3 (a0d X.prog X.w) X.A (call (.builtin "min") [u]<|vO a) (EP X b1C σ Q) X.xe s:=by
 have B:∀b o,s.heap.get? b=a7 o->((s.heap.push d).push<|a1D "list" #[] 0).get? b=a7 o:=λb o e=>ZK _<|ZK _ e;have M:(s.heap.push d).objs.size=s.heap.objs.size+1:=a4r ..;have r:s.heap.objs.size<=(s.heap.push d).objs.size:=by rw[M];exact a2D _
 have J:∀b∈[s.heap.objs.size],s.heap.objs.size<=b:=λb R=>a4m (a0r.mp R).symm;refine S4 a hd hit<|S1 (bt:=bt) (J:=λh=>∀b o,s.heap.get? b=a7 o->h.get? b=a7 o) K (λh L j l=>l.up j J r) (λi j k m t O N U hi T q=>c i j k m t O N (I.kept (t':=t.toks) U) hi T q)
  (λz=>?_) st B (ZW _ rfl) (λw v L G pv l=>?_) λw=>?_
 .rcases a0g.mp z with e|z
  .exact a2a (Nat.lt_of_lt_of_eq (a1C _) M.symm) e
  .exact a2a (a0e y r)<|a0r.mp z
 .obtain⟨x,e,q⟩:=Y w v pv;exact⟨x,H,I.kept (t':=G)<|l.up B J r,e,q⟩
 .obtain⟨rfl,q⟩:=Z w;exact⟨_,_,rfl,λL G l=>⟨.non,H,I.kept (t':=G)<|l.up B J r,rfl,q⟩⟩
theorem S6(hc:X.calm=b5)(L:X.A.units+64<a1W)(I:Inv X b1C σ H s)(K:SqL X.K H p vs)(J:∀i v,vs[i]?=a7 v->∃a b c,PrV X.K H v a b c (ps.getD i ([],[])))l(hd:(l=b3/\vs≠[])\/(l=a7 .none/\(vs=[]->Q .non H)))(U:∀v,vs[a2Q (mK ps) (vs.length-1)]?=a7 v->Q v H):
  Z3 (a0d X.prog X.w) X.A (call (.builtin "min") [.ref p]<|vO l) (EP X b1C σ Q) X.xe s:=by
 have A:X.A.in1.handled=none:=I.ok.hd hc;obtain⟨d,w,u,hz⟩:=I.list K;have E:d.toArray.size=vs.length:=by rw[Z9,<- w.length]
 have k:p<s.heap.objs.size:=by obtain⟨o,G,_⟩:=u.isList;exact ZV G
 refine FY I l (hd.imp And.left And.left) (λq=>a4T u.isList q) k (b0v A _ p (Z6 k) d.toArray) ⟨⟨_,ZK _<|ZW _ rfl,rfl,rfl⟩,(u.isList.push _).push _⟩ (bt:=mK ps) (λi j vi vj t Q' E' m hi B q=>?_) (λz v pv=>?_) λz=>?_
 .have e:∀{i v},d.toArray[i]?=a7 v->∃a b c,v=.ref a/\a7T t.heap a #[.ref b,.ref c]/\oI X.prog X.w t.heap b (ps.getD i ([],[])).1/\oI X.prog X.w t.heap c (ps.getD i ([],[])).2:=λ{i v} hi=>by obtain⟨x,n,r⟩:=FW w (i:=i) (u:=v) (by simpa using hi);obtain⟨a,b,c,g⟩:=J i x n;obtain⟨rfl⟩:=g.v;cases r;obtain⟨us,ru,t,_⟩:=m.tuple g.t;obtain⟨u1,u2,rfl,Y,Z⟩:=uE ru;cases Y;cases Z;exact⟨a,b,c,rfl,t,(vM m g.k:),(vM m g.m:)⟩
  obtain⟨a,b,c,rfl,t1,M,O⟩:=e hi;obtain⟨a',b',c',rfl,t2,N,R⟩:=e B;exact S2 (by show X.A.units+1+2<a1W;lia) t1 t2 M N O R q
 .obtain⟨x,n,r⟩:=FW w (i:=a2Q (mK ps) (d.toArray.size-1)) (u:=v) (by simpa using pv);exact⟨x,r,U x<|by rw[<- E];exact n⟩
 .have y:vs=[]:=a2f.mp (by lia);rcases hd with⟨_,h⟩|⟨rfl,T⟩
  .exact absurd y h
  .exact⟨rfl,T y⟩
theorem S7(hc:X.calm=b5)(a:X.A.units+64<a1W){xs:gw}(I:Inv X b1C σ H s)(r:∃y,xs=[y,.non]/\RelV y u)(h:FX X.K xs H Q):
  Z3 (a0d X.prog X.w) X.A (call (.builtin "min") [u] [(a1r "default",.none)]) (EP X b1C σ Q) X.xe s:=by
 obtain⟨p,k,j,rfl,d,c,e,g⟩:=h;obtain⟨y,b,i⟩:=r;cases b;cases i;exact S6 hc a I d c (a7 .none) (.inr ⟨rfl,e⟩) g
end
noncomputable def vP:D->Option (List Int×List Int)
 |.tup [a,b]=>(dN a).bind λk=>(dN b).map λm=>(k,m)|_=>b3
noncomputable def sN:List D->Option (List<|List Int×List Int)
 |[]=>a7 []|d::ds=>(vP d).bind λz=>(sN ds).map λa=>z::a
noncomputable def mM:MF:=λds μ=>match ds with
 |[.loc a,.non]=>match μ[a]? with
  |some (.lst xs)=>(sN xs).bind λb=>if xs=[]then a7 (.non,μ)else(xs[a2Q (mK b) (xs.length-1)]?).map λd=>(d,μ)|_=>b3
 |_=>b3
theorem S8(h:IsD K π n H v x)(e:vP x=a7 z):∃a b c,PrV K H v a b c z:=by
 unfold vP at e;split at e
 .obtain⟨k,d,e⟩:=ZC.mp e;obtain⟨m,g,e⟩:=ZH.mp e;cases e;cases h with
  |tup j t=>
   cases t with
   |cons l t=>
    cases t with
    |cons o t=>cases t;obtain⟨b,rfl,i⟩:=lE l d;obtain⟨c,rfl,hc⟩:=lE o g;exact⟨_,b,c,rfl,j,i,hc⟩
 .cases e
theorem FZ:∀{xs}{vs}{ps},IsDs K π n H vs xs->sN xs=a7 ps->∀i v,vs[i]?=a7 v->∃a b c,PrV K H v a b c (ps.getD i ([],[]))
 |[],_,_,h,_,i,v,hv=>by cases h;cases hv
 |x::xs,_,_,h,e,i,v,hv=>by
  obtain⟨z,d,e⟩:=ZC.mp e;obtain⟨k,g,e⟩:=ZH.mp e;cases e;cases h with
  |cons j t=>
   cases i with
   |zero=>cases hv;exact S8 j d|succ i=>exact FZ t g i v hv
theorem S9:dS K mM (FX K):=by
 intro h H G g d y E Q R i a k;unfold mM at a;split at a
 .split at a
  .rename_i g r;obtain⟨w,n,a⟩:=ZC.mp a;cases i with
   |cons s t=>
    cases t with
    |cons u t=>
     cases t;cases u;obtain⟨p,x,e,q,hd⟩:=mE (xs:=g) R s (by simp only[eH,r]);refine⟨p,x,w,by rw[e],q,FZ hd n,λj=>?_,λv b=>?_⟩
     .subst j;cases hd;rw[if_pos rfl]at a;cases a;exact k h _ H .refl R .non
     .have c:g≠[]:=λz=>by subst z;cases hd;cases b
      rw[if_neg c]at a;obtain⟨A,o,a⟩:=ZH.mp a;cases a;obtain⟨B,l,m⟩:=hd.get o;rw[hd.length]at b;rw[l]at b;cases b;exact k h _ H .refl R m
  .cases a
 .cases a
theorem Ta(hc:X.calm=b5)(B:X.A.units+64<a1W)(hg:Gl X "min")(hm:X.mg "min"=b3)(h:QE X e m)(h1:QE X j O)(hs:cU e=b5):
  QE X (.Call (.Name "min" p) [e] [⟨a7 "default",j,p1⟩] pos) (aH mM<|aC m<|aC O aD):=⟨by
 intro n s σ H Q I hw;obtain⟨Z,ρ,Y,d,L,R,E,hw,k⟩:=hw;obtain⟨⟨ds,μ2⟩,o,hw⟩:=ZC.mp hw;obtain⟨⟨x,c⟩,g1,o⟩:=ZC.mp o;obtain⟨⟨ds',μ3⟩,A,o⟩:=ZC.mp o;obtain⟨⟨y,g⟩,M,A⟩:=ZC.mp A;cases A;cases o;dsimp only at M hw;refine a2c (jQ I hg hm a3N ?_ (by decide)<|by decide);have st:a0h [e] X.env=(b4,eval e X.env)::a0h [] X.env:=fD hs;refine b0Y (aW (C5 h.h C4 st pos n s σ H (λT i=>∃v a,T=[v]/\Ext Z Y.length H a c.length i/\Rp X.K a i c/\IsD X.K a c.length i v x) I ⟨Z,ρ,Y,x,c,R,E,g1,λa v i j z G=>⟨v,a,rfl,j,z,G⟩⟩) λus s1 ⟨T,i,I1,r1,v,a,ev,j,z,G⟩=>?_) (by rw[st];rfl) (by rw[st];rfl);subst ev;refine aW (Mg h1.h Mf pos n s1 σ i (λU l=>∃w b,U=[w]/\Ext a c.length i b g.length l/\Rp X.K b l g/\IsD X.K b g.length l w y) I1 ⟨a,ρ,c,y,g,z,E.mono j,M,λb w l r R2 J=>⟨w,b,rfl,r,R2,J⟩⟩) λws s2 ⟨U,l,I2,r2,w,b,ew,r,R2,J⟩=>?_;subst ew;obtain⟨u,rfl,ru⟩:=fP r1;obtain⟨u2,rfl,K⟩:=fP r2;have N:=S9 b l g [x,y] d L [v,w] Q R2 (.cons (G.mono r)<|.cons J .nil) hw<|k.after<|j.trans r;obtain⟨q,vs',ps,e5,hr'⟩:=id N;cases e5;cases K;exact S7 hc B I2 ⟨_,rfl,ru⟩ N⟩
noncomputable def Tc(K:ZD):gw->Hp->VK->Prop:=λxs H Q=>∃a k b v ps,xs=[V.ref a]/\H a=a7 (a8 a<|(k,b,v)::ps)/\fE K H ((k,b,v)::ps)/\(∀p∈ps,HT.lexLt p.1 k=b4)/\Q (.ref b) H
noncomputable abbrev F0:=Tc
theorem F3:∀n,(∀j,j<n->bt (j+1) 0=b4)->a2Q bt n=0
 |0,_=>rfl|n+1,h=>by have e:=F3 n λj a=>h j<|a9j a;simp only[a2Q,e,h n<|a1C n,Z5,if_false]
theorem Td(hc:X.calm=b5)(T:X.A.units+64<a1W):CallR X (.builtin "min") (F0 X.K):=by
 intro G s σ H xs us Q I r h;obtain⟨a,k,b,v,d,rfl,N,n,R,q⟩:=h;obtain⟨u,rfl,ru⟩:=fP r;cases ru;have O:X.A.in1.handled=none:=I.ok.hd hc;obtain⟨lo,hz,l,K,g,z⟩:=qE I N n;have hs:l.size=d.length+1:=by have:=congrArg a0F z;simpa using this
 have c:∀{i:Nat}{e:DictEntry},l[i]?=a7 e->∃p,((k,b,v)::d)[i]?=a7 p/\e.key=.ref p.2.1:=λ{i e} hi=>by have:=congrArg (·[i]?) z;simp only[ZU,a1g,hi,Z4]at this;obtain⟨p,x,y⟩:=ZH.mp this.symm;exact⟨p,x,y.symm⟩
 refine FY I b3 (.inl rfl) (λq=>Au lo g q) g.lt (Fs O (Z6 g.lt) l K) ⟨⟨_,ZK _<|ZW _ rfl,rfl,rfl⟩,g.stay λo e=>ZK _<|ZK _ e⟩ (bt:=λi j=>HT.lexLt ((((k,b,v)::d).getD i ([],0,.non)).1)<|(((k,b,v)::d).getD j ([],0,.non)).1) (λi j vi vj t Q' E' w hi A q=>?_) (λM w' pv=>?_) λM=>by lia
 .obtain⟨x,L,rfl⟩:=hi;obtain⟨y,f2,rfl⟩:=A;obtain⟨p1,B,Z⟩:=c L;obtain⟨p2,E,k2⟩:=c f2;rw[Z,k2];obtain⟨x1,t1,U⟩:=(vM w<|n p1<|Z1 B).2;obtain⟨x2,t2,Y⟩:=(vM w<|n p2<|Z1 E).2;refine HT.lt_tupInts t1 t2 (by simpa using U) (by simpa using Y) (by show X.A.units+1<a1W;lia) ?_;rw[a1S,a1S,B,E]at q;exact q
 .rw[F3 _ λj A=>by
   rw[List.getD_cons_succ,a8r,a1S,ZT<|show j<d.length by lia];exact R _<|a2L _]at pv
  obtain⟨e,f,rfl⟩:=pv;obtain⟨p,m,J⟩:=c f;cases m;exact⟨.ref b,J,q⟩
noncomputable def AF:MF:=λds μ=>match ds with
 |[.loc a]=>match μ[a]? with
  |some (.dT<|b::kvs)=>if(kvs.all λp=>!HT.lexLt p.1 b.1)=b5 then a7 (.tup<|b.1.map D.int,μ)else b3|_=>b3
 |_=>b3
theorem Te:dS K AF (F0 K):=by
 intro s H w v d r u Q R i a k;unfold AF at a;split at a
 .split at a
  .rename_i q e c;split at a
   .rename_i n;cases a;cases i with
    |cons i t=>
     cases t;cases i;obtain⟨g,m,T⟩:=iP R c;have b:=T.to;cases g with
     |nil=>cases b.1|cons p g=>
      obtain⟨h,j⟩:=List.cons.inj b.1;refine⟨_,p.1,p.2.1,p.2.2,g,rfl,m,T.keys,λx o=>?_,?_⟩
      .have:x.1∈e.map (·.1):=by rw[<- j];exact ZQ.mpr ⟨x,o,rfl⟩
       obtain⟨y,c,l⟩:=ZQ.mp this;have:=a1c.mp n y c;rw[<- l,show p.1=q.1 from h];simpa using this
      .cases b.2.1 with
       |cons i t=>exact k s _ H .refl R i
   .cases a
  .cases a
 .cases a
end L3
namespace L3
open PySem L2
structure Sig where
 fn:List<|Str×Nat
 con:List<|Str×D
 tab:List<|Str×List (cH×D)
 no:List Str
 dIt:List Str
 dEq:List Str
 dMe:List Str
 ob:List (Str×Str):=[]
 mt:List (Str×Str×Str×Nat):=[]
 mc:List (Str×Str×Nat):=[]
 ms:List (Str×Stmt):=[]
structure Cs where
 N:List Str
 ks:List<|Str×a2H
noncomputable def iQ(x:Str):List Str->Option Nat
 |[]=>b3|y::r=>if x=y then a7 0 else(iQ x r).map (·+1)
theorem oK:∀{N}{i},iQ x N=a7 i->N[i]?=a7 x
 |[],_,h=>by cases h
 |y::r,i,h=>by
  unfold iQ at h;split at h
  .rename_i e;cases h;subst e;rfl
  .obtain⟨j,a,b⟩:=ZH.mp h;subst b;have:=oK a;simpa using this
noncomputable def glob(c:Cs)(x:Str):Bool:=decide (c.ks.lookup x=a7 .globalImplicit)&&!(x==("__debug__":Str))
noncomputable def nR(c:Cs)(x:Str):Bool:=(decide (c.ks.lookup x=a7 .local)||decide (c.ks.lookup x=a7 .cell)||decide (c.ks.lookup x=a7 .free))&&!(x==("__debug__":Str))&&!(x==("__classdict__":Str))
noncomputable def mN(c:Cs)(x:Str):Bool:=decide (c.ks.lookup x=a7 .local)||decide (c.ks.lookup x=a7 .cell)
noncomputable def AG(x:Str):Option String:=
 if x="int" then a7 "int" else if x="bool" then a7 "bool" else if x="str" then a7 "str" else if x="list" then a7 "list" else if x="tuple" then a7 "tuple" else if x="dict" then a7 "dict" else b3
theorem Tf(h:AG x=a7 n):a1F x=a7 (.type n)/\x ≠ "__name__":=by
 unfold AG at h;split at h
 .rename_i e;subst e;cases h;exact⟨a8R,by decide⟩
 split at h
 .rename_i e;subst e;cases h;exact⟨a8S,by decide⟩
 split at h
 .rename_i e;subst e;cases h;exact⟨a8M,by decide⟩
 split at h
 .rename_i e;subst e;cases h;exact⟨a3K,by decide⟩
 split at h
 .rename_i e;subst e;cases h;exact⟨a5f,by decide⟩
 split at h
 .rename_i e;subst e;cases h;exact⟨a5m,by decide⟩
 .cases h
noncomputable def AH(S:Sig)(c:Cs)(x:Str):ME:=
 if nR c x=b5 then(match iQ x c.N with|some i=>aA i|none=>bX)
 else if glob c x=b5 then(match S.con.lookup x with
  |some d=>mC d
  |none=>if S.no.contains x=b5 then(match AG x with|some n=>mC (.ty n)|none=>bX)else bX)
 else bX
noncomputable def eL(r:Expr->ME):List Expr->MA
 |[]=>aD|e::es=>aC (r e)<|eL r es
noncomputable def vQ(op:BoolOp):List ME->ME
 |[]=>bX|[m]=>m|m::r=>match op with
  |.And=>i8 m (vQ op r)|.Or=>yW m<|vQ op r
noncomputable def vT(op:BoolOp):List MT->MT
 |[]=>nZ|[m]=>m|m::r=>match op with
  |.And=>i7 m (vT op r)|.Or=>fJ m<|vT op r
noncomputable def F4(op:a7P)(a b:ME):ME:=match op with
 |.Add=>aB bP a b|.Sub=>aB cM a b|.Mult=>aB bO a b|.FloorDiv=>aB dU a b|.Mod=>aB bL a b|.Pow=>aB kU a b|_=>bX
noncomputable def mO(op:a3X)(ns:Bool)(a b:ME):ME:=match op with
 |.Eq=>aB (aR b4) a b|.NotEq=>aB (aR b5) a b|.Lt=>aB jF a b|.LtE=>aB pL a b|.Gt=>aB lW a b|.GtE=>aB zH a b|.In=>if ns=b5 then aB (cY b4) a b else bX|.NotIn=>if ns=b5 then aB (cY b5) a b else bX|.Is=>aB (fK b4) a b|.IsNot=>aB (fK b5) a b
noncomputable def qJ(r:Expr->ME):Option Expr->MO
 |none=>nT|some e=>rQ<|r e
noncomputable def eM:MF:=λds μ=>match ds with
 |[.loc a]=>match μ[a]? with
  |some (.lst xs)=>a7 (.int xs.length,μ)|some (.st ks)=>a7 (.int ks.length,μ)|some (.dT kvs)=>a7 (.int kvs.length,μ)|_=>b3
 |_=>rR ds μ
noncomputable def oM:MF:=λds μ=>match ds with
 |[x]=>(bK μ x).map λa=>(.tup a,μ)|_=>b3
theorem Tg:dS K oM (λxs H Q=>∃p b,xs=[.ref p]/\((SqL K H p b/\∀l,H l=b3->Q (.ref l) (aP H l<|.tup b))\/(SqT K H p b/\Q (.ref p) H))):=by
 intro g H r xs d n o Q R i a k;unfold oM at a;split at a
 .obtain⟨b,h,j⟩:=ZH.mp a;cases j;cases i with
  |cons i t=>
   cases t;obtain⟨p,e,rfl,q,hd⟩:=pP R i h;refine⟨p,e,rfl,?_⟩;rcases q with q|q
   .refine .inl ⟨q,λl m=>?_⟩;obtain⟨c,R2⟩:=R.fresh (o:=.tup e) m;exact k g _ _ c R2<|.tup (.of dD)<|hd.mono c
   .exact .inr ⟨q,k g _ H .refl R<|.tup q hd⟩
 .cases a
noncomputable def gC:MF:=λds μ=>match ds with
 |[.loc a]=>match μ[a]? with
  |some (.dT kvs)=>a7 (.loc μ.length,μ++[.lst<|kvs.map λk=>D.tup<|k.1.map D.int])|_=>rS [.loc a] μ
 |ds=>rS ds μ
theorem Th:dS K gC (λxs H Q=>(∃p g,xs=[.ref p]/\(SqL K H p g\/SqT K H p g)/\∀l,H l=b3->Q (.ref l) (aP H l<|.lst g))\/Fw K xs H Q):=by
 intro n H m xs d c j Q R i b k;unfold gC at b;split at b
 .rename_i a;split at b
  .rename_i e s;cases b;cases i with
   |cons i t=>cases t;cases i;obtain⟨h,q,T⟩:=iP R s;refine .inr ⟨_,h,rfl,q,T.keys,λl r=>?_⟩;obtain⟨o,R2,_⟩:=R.alloc (c:=.lst (e.map λk:List Int×D=>D.tup<|k.1.map D.int)) (o:=.lst (h.map λp:List Int×Addr×V=>V.ref p.2.1)) r T.to.2.1;exact k _ _ _ o R2 jC
  .exact .inl<|D2 n H m _ d c j Q R i b k
 .exact .inl<|D2 n H m _ d c j Q R i b k
noncomputable def AI(x:Str):Option MF:=
 if x="len" then a7 eM
 else if x="isinstance" then a7 nV
 else if x="list" then a7 gC
 else if x="tuple" then a7 oM
 else if x="all" then a7 u9
 else if x="sorted" then a7 jW
 else if x="min" then a7 Ap else if x="max" then a7 Ao
 else b3
noncomputable def Ti(K:ZD):gw->Hp->VK->Prop:=λxs H Q=>zN K xs H Q\/(∃a L,xs=[V.ref a]/\H a=a7 (uK a L)/\Q (.int L.length) H)\/Fv K xs H Q
theorem Tj:dS K eM (Ti K):=by
 intro g H l q d e j Q R i b k;unfold eM at b;split at b
 .rename_i a;split at b
  .rename_i r c;refine .inl<|D1 g H l _ d e j Q R i ?_ k;simp only[rR,bK,c];exact b
  .rename_i n c;cases b;cases i with
   |cons i t=>cases t;cases i;obtain⟨L,h,m,_⟩:=R.st a n c;have:=congrArg a0F m;rw[ZF]at this;refine .inr<|.inl ⟨_,L,rfl,h,?_⟩;rw[this];exact k g _ H .refl R<|.int _
  .rename_i o c;cases b;cases i with
   |cons i t=>cases t;cases i;obtain⟨p,h,T⟩:=iP R c;have:=congrArg a0F T.to.1;rw[ZF,ZF]at this;refine .inr<|.inr ⟨_,p,rfl,h,T.keys,?_⟩;rw[this];exact k g _ H .refl R<|.int _
  .cases b
 .exact .inl<|D1 g H l _ d e j Q R i b k
theorem Tn(a:X.calm=b5)(b:X.A.units+64<a1W)(h:AI x=a7 f):∃v r,a1F x=a7 v/\((∃id,v=.builtin id)\/∃T,v=.type T)/\CallR X v r/\dS X.K f r/\x ≠ "__name__":=by
 unfold AI at h;split at h
 .rename_i e;subst e;cases h;exact⟨_,_,a8P,.inl ⟨_,rfl⟩,call_lenM.or<|call_lenT.or RT,Tj,by decide⟩
 split at h
 .rename_i e;subst e;cases h;exact⟨_,_,a8Q,.inl ⟨_,rfl⟩,OE,OD,by decide⟩
 split at h
 .rename_i e;subst e;cases h;exact⟨_,_,a3K,.inr ⟨_,rfl⟩,call_list_of.or<|RU a,Th,by decide⟩
 split at h
 .rename_i e;subst e;cases h;exact⟨_,_,a5f,.inr ⟨_,rfl⟩,MV,Tg,by decide⟩
 split at h
 .rename_i e;subst e;cases h;exact⟨_,_,a8T,.inl ⟨_,rfl⟩,Qs a,Qr rfl,by decide⟩
 split at h
 .rename_i e;subst e;cases h;exact⟨_,_,a5b,.inl ⟨_,rfl⟩,call_sortI.or Qy,Ri,by decide⟩
 split at h
 .rename_i e;subst e;cases h;exact⟨_,_,a3N,.inl ⟨_,rfl⟩,LJ a,Q3,by decide⟩
 split at h
 .rename_i e;subst e;cases h;exact⟨_,_,a8O,.inl ⟨_,rfl⟩,LI a,Q4,by decide⟩
 .cases h
noncomputable def AJ(x:Str):Option MF:=
 AI x
theorem To(a:X.calm=b5)(b:X.A.units+64<a1W)(h:AJ x=a7 f):∃v r,a1F x=a7 v/\((∃id,v=.builtin id)\/∃T,v=.type T)/\CallR X v r/\dS X.K f r/\x ≠ "__name__":=by unfold AJ at h;exact Tn a b h
noncomputable def vU:Expr->Option (Expr×List Expr)
 |.Call f as [] _=>a7 (f,as)|_=>b3
theorem F5(h:vU e=a7 (f,a)):∃pos,e=.Call f a [] pos:=by
 unfold vU at h;split at h
 .cases h;exact⟨_,rfl⟩
 .cases h
noncomputable def oN:Expr->Option Str
 |.Name x _=>a7 x|_=>b3
theorem vV(h:oN e=a7 x):∃p,e=.Name x p:=by
 unfold oN at h;split at h
 .cases h;exact⟨_,rfl⟩
 .cases h
noncomputable def o1:List Expr->Option Expr
 |[e]=>a7 e|_=>b3
theorem vW(h:o1 l=a7 e):l=[e]:=by
 unfold o1 at h;split at h
 .cases h;rfl
 .cases h
noncomputable def o2:List Expr->Option (Expr×Expr)
 |[a,b]=>a7 (a,b)|_=>b3
theorem AK(h:o2 l=a7 (a,b)):l=[a,b]:=by
 unfold o2 at h;split at h
 .cases h;rfl
 .cases h
noncomputable def F6(m:Str)(n:Nat):Option (D->List D->Hm->jk):=
 if n=1 then(if m="append" then a7 gM
  else if m="extend" then a7 n8
  else b3)
 else b3
noncomputable def jY:MF:=λds μ=>match ds with
 |[.loc a]=>match μ[a]? with
  |some (.dT kvs)=>if kvs.length<64/\(∀p∈kvs,p.1≠[])then a7 (.loc μ.length,μ++[.lst<|(iD kvs).map λk=>D.tup<|k.1.map D.int])else b3|_=>b3
 |_=>b3
theorem Tp:dS K jY (FJ K):=by
 intro A H y x d u w Q R i a k;unfold jY at a;split at a
 .split at a
  .rename_i b s;split at a
   .rename_i m;cases a;cases i with
    |cons i t=>
     cases t;cases i;obtain⟨c,j,T⟩:=iP R s;obtain⟨v,g⟩:=Sl T;refine⟨_,c,rfl,j,T.keys,by lia,λp o z=>?_,λl n=>?_⟩
     .have:p.1∈b.map (·.1):=by rw[<- T.to.1];exact ZQ.mpr ⟨p,o,rfl⟩
      obtain⟨q,r,e⟩:=ZQ.mp this;exact m.2 q r<|e.trans z
     .obtain⟨h,R2,_⟩:=R.alloc (c:=.lst ((iD b).map λk:List Int×D=>D.tup<|k.1.map D.int)) (o:=.lst ((lF c).map λp:List Int×Addr×V=>V.ref p.2.1)) n g.to.2.1;exact k _ _ _ h R2 jC
   .cases a
  .cases a
 .cases a
noncomputable def oO:MF:=λds μ=>match ds with
 |[.loc a]=>match μ[a]? with
  |some (.dT kvs)=>if(kvs.map λp=>Tb.hashT p.1).Nodup then a7 (.loc μ.length,μ++[.dT kvs])else b3|_=>b3
 |_=>b3
theorem Tq:dS K oO (FQ K):=by
 intro u H s r d o q Q R i a k;unfold oO at a;split at a
 .split at a
  .rename_i b n;split at a
   .rename_i j;cases a;cases i with
    |cons i t=>
     cases t;cases i;obtain⟨c,h,T⟩:=iP R n;have g:=T.to.1;refine⟨_,c,rfl,h,T.keys,?_,λl m=>?_⟩
     .have:(c.map λp=>Tb.hashT p.1)=b.map λp=>Tb.hashT p.1:=by have:=congrArg (a8g Tb.hashT) g;simpa[ZS,a7U]using this
      rw[this];exact j
     .obtain⟨e,R2,_⟩:=R.alloc (c:=.dT b) (o:=a8 l c) m ⟨c,rfl,T.to⟩;exact k _ _ _ e R2 jC
   .cases a
  .cases a
 .cases a
noncomputable def F7(S:Sig)(f:Expr)(args:List Expr):Option Expr:=match f with
 |.Name x _=>match args with
  |[.Name y p]=>if S.dMe.contains y=b5/\x="min" then a7 (.Name y p)else b3|_=>b3
 |_=>b3
noncomputable def Tr(e:Expr):Bool:=match e with
 |.Subscript _ _ _=>b5|_=>b4
noncomputable def Ts(S:Sig)(x:Str)(a:Expr):Bool:=match oN a with
 |some y=>S.dMe.contains y|none=>x=="dict" && Tr a&&S.dMe.contains "[]"
noncomputable def F8(S:Sig)(f:Expr)(args:List Expr):Option (Bool×Expr):=(oN f).bind λx=>(o1 args).bind λa=>if(cU a&&Ts S x a)=b5 then(if x="sorted" then a7 (b5,a)else if x="dict" then a7 (b4,a)else b3)else b3
theorem F9(h:F8 S f args=a7 (b,e)):∃p,f=.Name (if b then "sorted" else "dict") p/\args=[e]/\[e].all cU=true:=by
 obtain⟨x,i,j⟩:=ZC.mp h;obtain⟨a,k,c⟩:=ZC.mp j;obtain⟨p,l⟩:=vV i;clear h i j;split at c
 .rename_i g;rw[ZL]at g;split at c
  .rename_i d;subst d;cases c;exact⟨p,l,vW k,by rw[a0u,g.1];rfl⟩
  .split at c
   .rename_i d;subst d;cases c;exact⟨p,l,vW k,by rw[a0u,g.1];rfl⟩
   .cases c
 .cases c
noncomputable def Ga(S:Sig)(o:Expr)(m:Str)(n:Nat):Option (D->List D->Hm->jk):=
 if m="setdefault"/\n=2 then a7 mJ else
 if m="get"/\n=2 then a7 fR else
 b3
noncomputable def Gb(S:Sig)(c:Cs):Expr->Option Nat
 |.Name x _=>if S.dIt.contains x=b5 then iQ x c.N else b3|.Subscript o i _=>match o,i with
  |.Name x _,.Constant (.int n) _ _=>if S.dIt.contains x=b5 then(iQ x c.N).map λj=>1000*(j+1)+n.toNat else b3|_,_=>b3
 |_=>b3
noncomputable def vX(S:Sig)(c:Cs)(tg:Expr)(e:Expr):Option Nat:=match tg with
 |.Name _ _=>Gb S c e|_=>b3
noncomputable def AL(S:Sig)(F:Str->MF)(r:Expr->ME)(c:Cs)(f:Expr)(args:List Expr)(a:a1p):ME:=match f with
 |.Name x _=>if glob c x&&args.all cU then(match S.fn.lookup x with
   |some n=>if args.length=n then aH (F x) (eL r args)else bX|none=>
   match S.mc.lookup x with
   |some q=>if args.length=q.2&&!args.isEmpty then mD x (F x) (eL r args)else bX|none=>
   if S.no.contains x&&!args.isEmpty then(match AJ x with|some g=>aH g (eL r args)|none=>bX)else bX)
  else bX
 |.Attribute o m apos=>if f9 o&&(apos.endLine==a.line)&&args.all cU then(
   match S.mt.lookup m with
   |some q=>if args.length=q.2.2&&decide (args.length<30)then jI q.1 m (F q.2.1) (r o) (eL r args)else
    bX
   |none=>
   match Ga S o m args.length with
   |some g=>iE g (r o) (eL r args)|none=>
   match F6 m args.length with
   |some g=>f7 g (r o) (eL r args)|none=>
    bX)
  else bX
 |_=>bX
noncomputable def Ge(f:Expr)(args:List Expr):Option (Str×Str×Expr):=(oN f).bind λx=>(o1 args).bind λa=>(vU a).bind λg=>(oN g.1).bind λy=>(o1 g.2).map λe=>(x,y,e)
theorem Tt(h:Ge f args=a7 (x,y,e)):∃p c pos,f=.Name x p/\args=[.Call (.Name y c) [e] [] pos]:=by obtain⟨m,d,h⟩:=ZC.mp h;obtain⟨a,i,h⟩:=ZC.mp h;obtain⟨g,j,h⟩:=ZC.mp h;obtain⟨n,b,h⟩:=ZC.mp h;obtain⟨l,k,h⟩:=ZH.mp h;cases h;obtain⟨p,rfl⟩:=vV d;obtain⟨pos,rfl⟩:=F5 j;obtain⟨c,b⟩:=vV b;exact⟨p,c,pos,rfl,by rw[vW i,b,vW k]⟩
noncomputable def Tu(f:Expr)(args:List Expr):Option (Bool×Expr):=(Ge f args).bind λt=>
 if t.1="list"/\t.2.1="reversed" then a7 (b5,t.2.2)else
 b3
noncomputable def Gf:Bool->Str
 |false=>"range"|true=>"reversed"
noncomputable def lstM:Bool->MF
 |true=>k9|false=>k9
noncomputable def AM(S:Sig)(F:Str->MF)(r:Expr->ME)(c:Cs)(f:Expr)(args:List Expr)(a:a1p):ME:=
 match Tu f args with
 |some (b,e)=>if glob c "list" && glob c (Gf b)&&S.no.contains "list" && S.no.contains (Gf b)&&cU e then aH (lstM b) (eL r [e])else bX|none=>AL S F r c f args a
noncomputable def AN(S:Sig)(F:Str->MF)(r:Expr->ME)(c:Cs)(f:Expr)(args:List Expr)(a:a1p):ME:=
 match F7 S f args with
 |some e=>if glob c "min" && S.no.contains "min" then aH AF (eL r [e])else bX|none=>
 match F8 S f args with
 |some (b5,e)=>if glob c "sorted" && S.no.contains "sorted" then aH jY (eL r [e])else bX|some (b4,e)=>if glob c "dict" && S.no.contains "dict" then aH oO (eL r [e])else bX|none=>
 AM S F r c f args a
noncomputable def qK(c:Cs)(scope:a2y)(xs:List Str):Bool:=
 (scope.names.all λy=>decide<|y.2≠.cell)&&decide (scope.kind=.function)&&(scope.names.all λy=>decide (y.2≠.local)||decide (scope.names.lookup y.1=a7 .local)) &&
 (xs.all λx=>decide<|scope.names.lookup x=a7 .local)&&decide xs.Nodup&&(scope.names.all λy=>decide (y.2≠.free)||decide (c.ks.lookup y.1=a7 .cell)||decide (c.ks.lookup y.1=a7 .free)) &&
 (scope.names.all λy=>decide (y.2≠.local)||!(bR xs c.N).contains y.1)&&decide (bR xs c.N).Nodup&&(c.N.all λy=>!xs.contains y||decide (scope.names.lookup (pM y)=b3))
noncomputable def sO(c:Cs)(scope:a2y)(xs:List Str):Cs:=
 ⟨bR xs c.N++xs,scope.names.map λ(n,k)=>if(k==a2i&&c.ks.lookup n==a7 .cell)then(n,a2x)else(n,k)⟩
noncomputable def Gh(r:Expr->MT):List Expr->MT
 |[]=>f6|[t]=>r t|_=>nZ
noncomputable def AO(S:Sig)(c:Cs):Expr->Option (List Expr)
 |.Call (.Name x _) args [] _=>if x="range" then(if glob c x&&S.no.contains x&&args.all cU then a7 args else b3)else b3|_=>b3
noncomputable def vY(S:Sig)(r:Expr->ME)(c:Cs)(e:Expr):MI:=match AO S c e with
 |some [a]=>nY (eL r [a])|some [a,b]=>kZ (eL r [a,b])|some [a,b,d]=>r9 (eL r [a,b,d])|some _=>Eb|none=>cX<|r e
noncomputable def AQ(S:Sig)(c:Cs):Expr->Option Expr
 |.Call (.Name x _) [a] [] _=>if x="enumerate" then(if glob c x&&S.no.contains x&&cU a then a7 a else b3)else b3|_=>b3
noncomputable def AR(S:Sig)(r:Expr->ME)(c:Cs)(e:Expr):MI:=match AQ S c e with
 |some a=>oE (eL r [a])|none=>vY S r c e
noncomputable def Gi(S:Sig)(c:Cs)(e:Expr):Option (Expr×Expr):=(vU e).bind λg=>(oN g.1).bind λx=>(o2 g.2).bind λt=>if x="zip" then(if glob c x&&S.no.contains x&&cU t.1&&cU t.2 then a7 t else b3)else b3
noncomputable def AS(S:Sig)(r:Expr->ME)(c:Cs)(e:Expr):MI:=match Gi S c e with
 |some (a,b)=>sF (eL r [a,b])|none=>AR S r c e
noncomputable def AU:Expr->Option (List Str)
 |.Name x _=>a7 [x]|.Tuple es _ _=>es.mapM λe=>match e with|.Name x _=>a7 x|_=>b3
 |_=>b3
noncomputable def AV:Expr->Nat->BD
 |.Tuple ..,n=>zL n|_,_=>pO
noncomputable def sP(S:Sig)(r:Expr->ME)(c:Cs)(tg e:Expr):MI:=match tg with
 |.Tuple ..=>AS S r c e|_=>vY S r c e
noncomputable def mP(b:MI)(d:Cs->Expr->ME)(e:Cs->Expr->MT)(c:Cs)(elt tg iter:Expr)(ifs:List Expr)(scope:a2y):ME:=match AU tg with
 |some a=>if qK c scope a&&gI iter then iM (AV tg a.length) b (Gh (e<|sO c scope a) ifs) (d (sO c scope a) elt)else bX|none=>bX
noncomputable def AW(S:Sig)(a:Cs->Expr->ME)(b:Cs->Expr->MT)(c:Cs)(elt tg iter:Expr)(ifs:List Expr)(scope:a2y):ME:=
 match vX S c tg iter with
 |some i=>qG i (mP (fF<|a c iter) a b c elt tg iter ifs scope) bX|none=>
 mP (sP S (a c) c tg iter) a b c elt tg iter ifs scope
noncomputable def Gj:Const->ME
 |.int i=>mC (.int i)|.bool b=>mC (.bl b)|.str s=>mC (.str s)|.none=>mC .non|_=>bX
noncomputable def Gk(m:ME):UnaryOp->ME
 |.USub=>dP m|.Not=>pH m|_=>bX
noncomputable def AX(S:Sig)(r:Expr->ME)(a:Expr):List a3X->List Expr->ME
 |[op],[b]=>mO op (gI b) (r a)<|r b
 |[op,op'],[b,b']=>(match k7 op,k7 op' with
  |some p,a7 q=>k6 (iA p) (iA q) (r a) (r b)<|r b'
  |_,_=>bX)
 |_,_=>bX
noncomputable def AY(r:Expr->ME):List (Option Expr)->List Expr->ME
 |[],[]=>gA|_,_=>bX
noncomputable def AZ(S:Sig)(r:Expr->ME)(c:Cs)(a b:Expr):ME:=match b with
 |.Slice lo hi b3 _=>yY (r a) (qJ r lo) (qJ r hi)|.Slice lo hi (a7 st) _=>qA (r a) (qJ r lo) (qJ r hi) (qJ r<|a7 st)|b=>if pS b then aB aF (r a) (r b)else bX
noncomputable def A2(r:Expr->ME)(a:List Expr):ME:=if a.all cU then bH (eL r a)else bX
noncomputable def A3(r:Expr->ME)(a:List Expr):ME:=if a.all cU then cJ (eL r a)else bX
noncomputable def A4(S:Sig)(r:Expr->ME)(c:Cs)(f:Expr)(args:List Expr)(d:Str)(b:Expr):ME:=match f with
 |.Name x _=>match args with
  |[a]=>if x="min"/\d="default"/\(glob c "min" && S.no.contains "min" && cU a)=b5 then aH mM (aC (r a)<|aC (r b) aD)else bX|_=>bX
 |_=>bX
noncomputable def A5(S:Sig)(F:Str->MF)(r:Expr->ME)(c:Cs)(f:Expr)(args:List Expr)(a:a1p):List a3b->ME
 |[]=>AN S F r c f args a|[⟨a7 k1,e1,_⟩]=>A4 S r c f args k1 e1|_=>bX
noncomputable def A6(S:Sig)(a:Cs->Expr->ME)(b:Cs->Expr->MT)(c:Cs)(elt:Expr)(scope:a2y):List Comprehension->ME
 |[⟨tg,iter,ifs,0⟩]=>AW S a b c elt tg iter ifs scope|_=>bX
noncomputable def Gm(S:Sig)(F:Str->MF)(d:Cs->Expr->ME)(e:Cs->Expr->MT)(c:Cs):Expr->ME
 |.Name x _=>AH S c x|.Constant v _ _=>Gj v|.BinOp a op b _=>F4 op (d c a) (d c b)|.UnaryOp op a _=>Gk (d c a) op|.Compare a ops bs _=>AX S (d c) a ops bs|.BoolOp op vs _=>vQ op (vs.map<|d c)|.IfExp t a b _=>i9 (e c t) (d c a) (d c b)|.Tuple es _ _=>A2 (d c) es|.List es _=>A3 (d c) es|.Dict keys values _=>AY (d c) keys values|.Subscript a b _=>AZ S (d c) c a b|.Call f args kws cpos=>A5 S F (d c) c f args cpos kws|.Attribute o a _=>if f9 o then(match S.ob.lookup a with|some x=>eX x a (d c o)|none=>bX)else bX|.ListComp elt gs scope _=>A6 S d e c elt scope gs|_=>bX
noncomputable def sQ(r:Expr->ME)(e:Expr):MT:=if zP e then dQ (r e)else nZ
noncomputable def A7(S:Sig)(r:Expr->ME)(a:Expr)(ops:List a3X)(bs:List Expr)(p:a1p):MT:=match ops,bs with
 |[op],[b]=>aU<|mO op (gI b) (r a)<|r b
 |[op,op'],[b,b']=>(match k7 op,k7 op' with
  |some p,a7 q=>aU<|k6 (iA p) (iA q) (r a) (r b)<|r b'
  |_,_=>nZ)
 |ops,bs=>sQ r<|.Compare a ops bs p
noncomputable def Tv(r:Expr->ME)(t:MT)(a:Expr)(p:a1p):UnaryOp->MT
 |.Not=>t|op=>sQ r<|.UnaryOp op a p
noncomputable def Gn(S:Sig)(b:Cs->Expr->ME)(d:Cs->Expr->MT)(c:Cs):Expr->MT
 |.BoolOp op vs _=>vT op (vs.map<|d c)|.UnaryOp op a p=>Tv (b c) (rO<|d c a) a p op|.Compare a ops bs p=>A7 S (b c) a ops bs p|e=>sQ (b c) e
noncomputable def tr(S:Sig)(F:Str->MF):Nat->(Cs->Expr->ME)×(Cs->Expr->MT)
 |0=>(λ_ _=>bX,λ_ _=>nZ)|n+1=>(Gm S F (tr S F n).1 (tr S F n).2,Gn S (tr S F n).1 (tr S F n).2)
structure Okx(S:Sig)(F:Str->MF)(k:Nat)(c:Cs)(X:Cx):Prop where
 N:X.N=c.N
 nd:X.N.Nodup
 ks:X.env.scope.names=c.ks
 kind:X.env.scope.kind=.function
 calm:X.calm=b5
 room:Room k X.A
 never:b0z (a0d X.prog X.w) X.A X.env X.xe
 fn:∀x n,S.fn.lookup x=a7 n->∃(f:Addr)(fd:a1Y)(ps:List Str),FnOk X.prog X.w X.K X.mg X.base eV k f fd ps (eW X.K n<|F x)/\X.mg x=a7 (.ref f)/\a1z X.K (.ref f)=b5/\Binds X.K fd ps []
 con:∀x d,S.con.lookup x=a7 d->∃v u,X.mg x=a7 u/\RelV v u/\∀π n H,IsD X.K π n H v d
 tab:∀x kvs,S.tab.lookup x=a7 kvs->TabOk X x kvs
 no:∀x,S.no.contains x=b5->X.mg x=b3
 ob:∀f x,S.ob.lookup f=a7 x->∃C,CAt X.K x C/\Cls X.K C/\NoAttr X.K C f
 mt:∀m x y n,S.mt.lookup m=a7 (x,y,n)->∃(C g:Addr)(fd:a1Y)(ps:List Str),CAt X.K x C/\Cls X.K C/\Meth X.K C m g/\FnOk X.prog X.w X.K X.mg X.base eV k g fd ps (eW X.K (n+1)<|F y)/\Binds X.K fd ps []
 mc:∀x y n,S.mc.lookup x=a7 (y,n)->(∀ds μ,F x ds μ=b3)\/∃(k':Nat)(C g:Addr)(fd:a1Y)(ps:List Str),k=k'+1/\CAt X.K x C/\Mk X.K C g/\FnOk X.prog X.w X.K X.mg X.base eV k' g fd ps (eW X.K (n+1)<|F x)/\Binds X.K fd ps []
theorem Tw(ks:X.env.scope.names=c.ks)(h:glob c x=b5):Gl X x/\(x==("__debug__":Str))=false:=by unfold glob at h;rw[ZL]at h;refine⟨?_,by simpa using h.2⟩;show X.env.scope.names.lookup x=_;rw[ks];exact of_decide_eq_true h.1
theorem Tx{X:Cx}(ks:X.env.scope.names=c.ks)(h:nR c x=b5):nK X.env.scope x/\(x==("__debug__":Str))=b4/\(x==("__classdict__":Str))=false:=by
 unfold nR at h;rw[ZL,ZL,a2z,a2z]at h;obtain⟨⟨a,b⟩,d⟩:=h;refine⟨?_,by simpa using b,by simpa using d⟩;unfold nK;rw[ks];rcases a with(a|a)|a
 .exact .inl<|of_decide_eq_true a
 .exact .inr<|.inl<|of_decide_eq_true a
 .exact .inr<|.inr<|of_decide_eq_true a
theorem Okx.gl(O:Okx S F k c X)(h:glob c x=b5):Gl X x/\(x==("__debug__":Str))=false:=Tw O.ks h
theorem Okx.vis(O:Okx S F k c X)(h:nR c x=b5):nK X.env.scope x/\(x==("__debug__":Str))=b4/\(x==("__classdict__":Str))=false:=Tx O.ks h
theorem Tz(O:Okx S F k c X)x pos:QE X (.Name x pos) (AH S c x):=by
 unfold AH;split
 .rename_i h;obtain⟨a,b,j⟩:=O.vis h;split
  .rename_i i hi;exact OI i (by rw[O.N];exact oK hi) a b j
  .exact cD
 split
 .rename_i h;obtain⟨a,b⟩:=O.gl h;split
  .rename_i d hd;obtain⟨v,u,m,r,i⟩:=O.con x d hd;exact⟨pG (Kn a m r b) i⟩
  .split
   .rename_i l;split
    .rename_i n o;obtain⟨e,g⟩:=Tf o;exact Pe (O.no x l) e a g b
    .exact cD
   .exact cD
 .exact cD
theorem gP(b:∀e,QE X e (r e)):∀a,a.all cU=b5->QA X a (eL r a) a.length
 |[],_=>O5|e::a,h=>by rw[a0u,ZL]at h;exact O6 (b e) (gP b a h.2) h.1
theorem Gp(a:∀e,QE X e (r e))op pos:∀vs,QE X (.BoolOp op vs pos) (vQ op<|vs.map r)
 |[]=>cD|[e]=>O1 (a e)|e::d::es=>by
  have b:=Gp a op pos<|d::es;cases op with
  |And=>exact O2 (a e) b|Or=>exact O3 (a e) b
theorem Gq(a:∀e,QT X e (r e))op pos:∀vs,QW X (.BoolOp op vs pos) (vT op<|vs.map r)
 |[]=>Qd|[e]=>by
  cases op with
  |And=>exact Po (a e)|Or=>exact Pp<|a e
 |e::d::es=>by
  have b:=Gq a op pos<|d::es;cases op with
  |And=>exact Pq (a e) b|Or=>exact Pt (a e) b
theorem TB(d:QE X a g)(e:QE X b h)op pos:QE X (.BinOp a op b pos) (F4 op g h):=by
 cases op with
 |Add=>exact ON d e|Sub=>exact OO d e|Mult=>exact OP d e|FloorDiv=>exact OQ d e|Mod=>exact OR d e|Pow=>exact OS d e|_=>exact cD
theorem TC(O:Okx S F k c X)(d:QE X a g)(e:QE X b i)op pos:QE X (.Compare a [op] [b] pos) (mO op (gI b) g i):=by
 cases op with
 |Eq=>exact OV O.room d e|NotEq=>exact OW O.room d e|Lt=>exact OX d e|LtE=>exact OY d e|Gt=>exact OZ d e|GtE=>exact O0 d e|In=>
  simp only[mO];split
  .rename_i h;exact RW O.room d e h
  .exact cD
 |NotIn=>
  simp only[mO];split
  .rename_i h;exact RX O.room d e h
  .exact cD
 |Is=>exact QZ d e|IsNot=>exact Q0 d e
theorem Gs:QT X e (aU bX):=⟨λb1C s σ H Q I h=>by
 obtain⟨i,j,g,d,b,R,E,a,k⟩:=h;cases a⟩
theorem TF(O:Okx S F k c X)(d:QE X a g)(e:QE X b i)op pos:QT X (.Compare a [op] [b] pos) (aU<|mO op (gI b) g i):=by
 cases op with
 |Eq=>exact Pf O.room d e|NotEq=>exact Pg O.room d e|Lt=>exact Ph d e|LtE=>exact Pj d e|Gt=>exact Pk d e|GtE=>exact Pl d e|In=>
  simp only[mO];split
  .rename_i h;exact RY O.room d e h
  .exact Gs
 |NotIn=>
  simp only[mO];split
  .rename_i h;exact RZ O.room d e h
  .exact Gs
 |Is=>exact Q1 d e|IsNot=>exact Q2 d e
theorem sR(a:∀e,QE X e (r e)):∀o,QO X o (qJ r o)
 |none=>Pa|some e=>Pb<|a e
theorem TH(O:Okx S F k c X)(u:∀e,QE X e (r e))f args l:QE X (.Call f args [] l) (AL S F r c f args l):=by
 unfold AL;split
 .rename_i x p;split
  .rename_i A;rw[ZL]at A;obtain⟨B,E⟩:=O.gl A.1;have d:=gP u args A.2;split
   .rename_i n H;split
    .rename_i a;obtain⟨fa,Y,ps,h,b,Z,i⟩:=O.fn x n H;subst a;cases args with
     |nil=>exact Qp h O.room b Z i B E|cons e s=>exact Pd h O.room b Z i d B E
    .exact cD
   .skip;split
    .rename_i q J;split
     .rename_i a;rw[ZL]at a;cases args with
      |nil=>exact absurd a.2 (by simp)|cons e s=>
       rcases O.mc x q.1 q.2 J with hz|⟨k',C,ga,Y,ps,rfl,G,M,h,i⟩
       .exact QL λρ μ=>by
         unfold mD;cases eL r (e::s) ρ μ with
         |none=>rfl|some p=>simp only[ZY,hz,Option.bind_none]
       .have w:=of_decide_eq_true a.1;rw[<- w]at h;exact QK M G h O.room B i d E
     .exact cD
    split
    .rename_i j;rw[ZL]at j;split
     .rename_i g i;obtain⟨v,rr,L,b2,N,Q,R⟩:=To (X:=X) O.calm O.room.units i;cases args with
      |nil=>exact absurd j.2 (by simp)|cons e s=>
       rcases b2 with⟨id,rfl⟩|⟨T,rfl⟩
       .exact zO N Q (O.no x j.1) L d B R E
       .exact D8 N Q (O.no x j.1) L d B R E
     .exact cD
    .exact cD
  .exact cD
 .rename_i o m K;split
  .rename_i A;rw[ZL,ZL]at A;obtain⟨⟨y,z⟩,h3⟩:=A;have d:=gP u args h3;split
   .rename_i q J;split
    .rename_i a;rw[ZL]at a;obtain⟨C,ga,Y,ps,G,U,M,h,i⟩:=O.mt m q.1 q.2.1 q.2.2 J;have w:=of_decide_eq_true a.1;rw[<- w]at h;cases args with
     |nil=>exact QF (u o) y z G U M h O.room i|cons e s=>exact QD (u o) y z G U M h O.room i d<|of_decide_eq_true a.2
    .exact cD
   split
   .rename_i g b;unfold Ga at b;split at b
    .rename_i a;obtain⟨rfl,a⟩:=a;cases b;cases args with
     |nil=>cases a|cons e s=>exact FK a6g PySem.F.type_dict_setdefault (SF<|by have:=O.room.units;lia) SE (u o) d y z<|by rw[a];decide
    split at b
    .rename_i a;obtain⟨rfl,a⟩:=a;cases b;cases args with
     |nil=>cases a|cons e s=>exact FK a7i PySem.F.type_dict_get (Sz<|by have:=O.room.units;lia) Sy (u o) d y z<|by rw[a];decide
    cases b
   split
   .rename_i g b;unfold F6 at b;split at b
    .rename_i a;cases args with
     |nil=>cases a|cons e s=>
      have H:(e::s).length<30:=by rw[a];decide
      split at b
      .rename_i I;subst I;cases b;exact Et PySem.F.slot_list_append PySem.F.type_list_append Dq Ql (u o) d y z H
      split at b
      .rename_i I;subst I;cases b;exact Et PySem.F.slot_list_extend PySem.F.type_list_extend MZ Qm (u o) d y z H
      .cases b
    .cases b
   .skip
    .exact cD
  .exact cD
 .exact cD
theorem TJ(O:Okx S F k c X)(j:∀e,QE X e (r e))f args a:QE X (.Call f args [] a) (AM S F r c f args a):=by
 unfold AM;split
 .rename_i b e h;split
  .rename_i i;rw[ZL,ZL,ZL,ZL]at i;obtain⟨⟨⟨⟨l,m⟩,q⟩,s⟩,st⟩:=i;have o:=gP j [e] (by rw[a0u,st];rfl);obtain⟨t,n,g⟩:=ZC.mp h;obtain⟨p,u,pos,rfl,rfl⟩:=Tt n;split at g
   .rename_i d;cases g;rw[d.1,d.2];exact Ru O.calm (O.no _ q) (O.no _ s) o (O.gl l).1 (O.gl m).1
   .cases g
  .exact cD
 .exact TH O j f args a
theorem TK{X:Cx}(nd:X.N.Nodup)(e:X.N=c.N)(ks:X.env.scope.names=c.ks)(h:qK c scope xs=b5):CompSt X.env.scope X.N scope xs/\xs.Nodup:=by
 unfold qK at h;rw[ZL,ZL]at h;obtain⟨⟨h,b⟩,q⟩:=h;have b:=of_decide_eq_true b;have d:∀y∈c.N,xs.contains y=b5->scope.names.lookup (pM y)=none:=λy a hc=>by have:=a1c.mp q y a;rw[hc]at this;simpa using this
 simp only[ZL,a1c,decide_eq_true_eq,a2z,a3I,List.contains_eq_mem,decide_eq_false_iff_not]at h;obtain⟨⟨⟨⟨⟨⟨i,j⟩,l⟩,m⟩,p⟩,n⟩,o⟩:=h;refine⟨⟨i,j,λy a g=>(l y a).resolve_left λz=>z g,m,λy a r=>?_,λy a g=>?_,nd,by rw[e];exact b,by rw[e];exact d⟩,p⟩
 .rw[ks];rcases n y a with(z|z)|z
  .exact absurd r z
  .exact .inl z
  .exact .inr z
 .rw[e];have:=(o y a).resolve_left λz=>z g;exact this
theorem sS(O:Okx S F k c X)(h:qK c scope xs=b5):CompSt X.env.scope X.N scope xs/\xs.Nodup:=TK O.nd O.N O.ks h
theorem Gu{N:List Str}(h:N.Nodup)(d:xs.Nodup)(g:∀x∈xs,x∉N):(N++xs).Nodup:=by rw[a2e];exact⟨h,d,λa i b j e=>by subst e;exact g _ j i⟩
theorem Gv{X:Cx}(Q:CompSt X.env.scope X.N scope xs/\xs.Nodup):(bR xs X.N++xs).Nodup:=Gu Q.1.hnd Q.2 λx a=>Q.1.own (x,.local) (a1j<|Q.1.here x a) rfl
theorem TL{X:Cx}(a:X.env.scope.kind=.function)(ks:X.env.scope.names=c.ks)scope xs:(b0e scope X.env).names=(sO c scope xs).ks:=by
 unfold b0e sO;dsimp only;refine a0q λy _=>?_;obtain⟨n,b⟩:=y;dsimp only;have:(X.env.scope.kind==ScopeKind.function)=true:=by rw[a];rfl
 rw[this,a7m];show(if(b==a2i&&X.env.scope.names.lookup n==a7 a2x)=b5 then _ else _)=_;rw[ks]
theorem Okx.comp(O:Okx S F k c X)(h:qK c scope xs=b5){C:Addr}:Okx S F k (sO c scope xs) (cW X scope b C (bR xs X.N++xs) s₀ H₀ d):=
 ⟨show bR xs X.N++xs=bR xs c.N++xs by rw[O.N],Gv<|sS O h,TL O.kind O.ks scope xs,(sS O h).1.kind,O.calm,O.room,a8d,O.fn,O.con,λy a q=>⟨(O.tab y a q).ex⟩,O.no
  ,O.ob,O.mt,O.mc
  ⟩
theorem Gw(l:∀e,QT X e (r e)):∀g,QI X g (Gh r g)
 |[]=>Pw|[t]=>Px<|l t
 |a::b::g=>⟨λi s q H Q I h=>by
   obtain⟨o,p,n,d,m,R,E,j,k⟩:=h;cases j⟩
theorem A8(O:Okx S F k c X)(h:AO S c e=a7 args):∃p pos,e=.Call (.Name "range" p) args [] pos/\Gl X "range"/\X.mg "range"=b3/\args.all cU=true:=by
 unfold AO at h;split at h
 .split at h
  .rename_i b;subst b;split at h
   .rename_i a;cases h;rw[ZL,ZL]at a;exact⟨_,_,rfl,(O.gl a.1.1).1,O.no _ a.1.2,a.2⟩
   .cases h
  .cases h
 .cases h
theorem Gx(O:Okx S F k c X)(l:∀e,QE X e (r e))e:QJ X e (vY S r c e):=by
 unfold vY;split
 .rename_i a h;obtain⟨p,pos,rfl,g,i,j⟩:=A8 O h;exact P0 g i<|gP l [a] j
 .rename_i a b h;obtain⟨p,pos,rfl,g,i,j⟩:=A8 O h;exact P5 g i<|gP l [a,b] j
 .rename_i a b d h;obtain⟨p,pos,rfl,g,i,j⟩:=A8 O h;exact RA g i<|gP l [a,b,d] j
 .exact PX
 .exact PY<|l e
theorem TM(O:Okx S F k c X)(h:AQ S c e=a7 a):∃p pos,e=.Call (.Name "enumerate" p) [a] [] pos/\Gl X "enumerate"/\X.mg "enumerate"=b3/\cU a=true:=by
 unfold AQ at h;split at h
 .split at h
  .rename_i d;subst d;split at h
   .rename_i b;cases h;rw[ZL,ZL]at b;exact⟨_,_,rfl,(O.gl b.1.1).1,O.no _ b.1.2,b.2⟩
   .cases h
  .cases h
 .cases h
theorem TN(O:Okx S F k c X)(b:∀e,QE X e (r e))e:QJT X e (AR S r c e):=by
 unfold AR;split
 .rename_i a h;obtain⟨p,pos,rfl,d,g,i⟩:=TM O h;exact Rg d g<|gP b [a]<|by rw[a0u,i];rfl
 .exact(Gx O b e).t
theorem TQ(O:Okx S F k c X)(h:Gi S c e=a7 (a,b)):∃p pos,e=.Call (.Name "zip" p) [a,b] [] pos/\Gl X "zip"/\X.mg "zip"=b3/\cU a=b5/\cU b=true:=by
 obtain⟨g,j,m⟩:=ZC.mp h;obtain⟨x,l,n⟩:=ZC.mp m;obtain⟨t,q,d⟩:=ZC.mp n;clear h m n;split at d
 .rename_i o;subst o;split at d
  .rename_i i;cases d;rw[ZL,ZL,ZL]at i;obtain⟨pos,j⟩:=F5 j;obtain⟨p,l⟩:=vV l;exact⟨p,pos,by rw[j,l,AK q],(O.gl i.1.1.1).1,O.no _ i.1.1.2,i.1.2,i.2⟩
  .cases d
 .cases d
theorem TR(O:Okx S F k c X)(d:∀e,QE X e (r e))e:QJT X e (AS S r c e):=by
 unfold AS;split
 .rename_i a b h;obtain⟨p,pos,rfl,g,i,j,l⟩:=TQ O h;exact Se g i<|gP d [a,b]<|by rw[a0u,a0u,j,l];rfl
 .exact TN O d e
theorem A9(O:Okx S F k c X)(a:∀e,QE X e (r e))tg e:PI X tg e (tMI X.K<|sP S r c tg e):=by
 unfold sP;split
 .exact(TR O a e).h _ _ _
 .exact(Gx O a e).h _
theorem Gy(h:gI iter=b5):∀x,a3p iter env x=pure x:=by intro z;cases iter<;>first|rfl|cases h
theorem Gz(d:X.N.Nodup):∀a xs n,(a.mapM λe=>match e with|.Name x _=>a7 x|_=>b3)=a7 xs->(∀j x,xs[j]?=a7 x->X.N[n+j]?=a7 x/\X.env.scope.names.lookup x=a7 .local)->QGs X a (a5p n xs.length)
 |[],xs,n,h,hx=>by cases h;exact D9
 |e::a,xs,n,h,hx=>by
  rw[List.mapM_cons]at h;obtain⟨x,c,h⟩:=ZC.mp h;obtain⟨k,g,h⟩:=ZC.mp h;cases h;cases e with
  |Name y p=>cases c;rw[Z8,a9l];have b:=hx 0 x rfl;refine Ea n d (Gz d a k (n+1) g λj z i=>?_) (by simpa using b.1) (.inl b.2)<|.inr b.2;have:=hx (j+1) z (by simpa using i);rw[show n+1+j=n+(j+1) by lia];exact this|_=>cases c
theorem TU{c:Cs}(Q:CompSt X.env.scope X.N scope [x]/\[x].Nodup)a C s₀ H₀ b:PG (cW X scope a C (bR [x] X.N++[x]) s₀ H₀ b) (.Name x p) (tMG X.K<|gB X.N.length pO):=by have e:=Gv Q;have d:(b0e scope X.env).names.lookup x=a7 .local:=a9w (Q.1.here x<|by simp);exact P6 (X:=cW X scope a C (bR [x] X.N++[x]) s₀ H₀ b) (by show(bR [x] X.N++[x]).length=_;rw[ZO,nW];rfl)<|DX (X:=cW X scope a C (bR [x] X.N++[x]) s₀ H₀ b) e (by show(bR [x] X.N++[x])[X.N.length]?=_;rw[<- nW [x] X.N];simp) (.inl d)<|.inr d
theorem vZ(O:Okx S F k c X)(a:AU tg=a7 xs)(h:qK c scope xs=b5)b C s₀ H₀ e:
  PG (cW X scope b C (bR xs X.N++xs) s₀ H₀ e) tg (tMG X.K<|gB X.N.length<|AV tg xs.length)/\∀d n z,AV tg xs.length d n=a7 z->z.length=xs.length:=by
 obtain⟨St,i⟩:=sS O h;have r:(bR xs X.N++xs).Nodup:=Gu St.hnd i λx a=>St.own (x,.local) (a1j<|St.here x a) rfl;have g:∀x∈xs,(b0e scope X.env).names.lookup x=a7 .local:=λx a=>a9w<|St.here x a;unfold AU at a;split at a
 .rename_i x p;cases a;refine⟨TU (c:=c) ⟨St,i⟩ b C s₀ H₀ e,λd n z m=>?_⟩;cases m;rfl
 .rename_i q v pt;refine⟨P7 (X:=cW X scope b C (bR xs X.N++xs) s₀ H₀ e) (by show(bR xs X.N++xs).length=_;rw[ZO,nW]) (zQ (X:=cW X scope b C (bR xs X.N++xs) s₀ H₀ e) (Gz (X:=cW X scope b C (bR xs X.N++xs) s₀ H₀ e) r q xs X.N.length a λj x o=>⟨?_,g x<|Z1 o⟩) O.calm).h,λd n z m=>?_⟩
  .show(bR xs X.N++xs)[X.N.length+j]?=a7 x;rw[a0N<|by rw[nW];lia,nW,show X.N.length+j-X.N.length=j by lia];exact o
  .obtain⟨w,u,l⟩:=ZC.mp m;split at l
   .rename_i s;cases l;rw[ZF];exact s
   .cases l
 .cases a
theorem TV(O:Okx S F k c X)(d:∀e,QE X e (r e))f args b:QE X (.Call f args [] b) (AN S F r c f args b):=by
 unfold AN;split
 .rename_i e h;split
  .rename_i a;rw[ZL]at a;unfold F7 at h;split at h
   .split at h
    .split at h
     .rename_i i;obtain⟨_,rfl⟩:=i;cases h;exact zO (Td O.calm O.room.units) Te (O.no _ a.2) a3N (gP d _ rfl) (O.gl a.1).1 (by decide) (O.gl a.1).2
     .cases h
    .cases h
   .cases h
  .exact cD
 split
 .rename_i e h;split
  .rename_i a;rw[ZL]at a;obtain⟨p,rfl,rfl,g⟩:=F9 h;exact zO (Su O.calm) Tp (O.no _ a.2) a5b (gP d _ g) (O.gl a.1).1 (by decide) (O.gl a.1).2
  .exact cD
 .rename_i e h;split
  .rename_i a;rw[ZL]at a;obtain⟨p,rfl,rfl,g⟩:=F9 h;exact D8 SK Tq (O.no _ a.2) a5m (gP d _ g) (O.gl a.1).1 (by decide) (O.gl a.1).2
  .exact cD
 exact TJ O d _ _ _
theorem Ba(o:∀c X,Okx S F k c X->∀e,QE X e (m c e))(p:∀c X,Okx S F k c X->∀e,QT X e (n c e))c X(O:Okx S F k c X)elt tg iter ifs scope pos(hi:PI X tg iter (tMI X.K l)):QE X (.ListComp elt [⟨tg,iter,ifs,0⟩] scope pos) (mP l m n c elt tg iter ifs scope):=by
 unfold mP;split
 .rename_i v j;split
  .rename_i h;rw[ZL]at h;refine⟨λg s u H Q I q=>?_⟩;exact Qa ((sS O h.1).1.ok I.ok) O.calm hi (λd r z=>(vZ O j h.1 [] 0 s H []).2 d r z) (λC b a i=>(vZ O j h.1 _ C b a i).1) (λC b a i=>(Gw (p _ _<|O.comp h.1) _).h) (λC b a i=>(o _ _ (O.comp h.1) _).h) (Gy h.2) g s u H Q I q
  .exact cD
 .exact cD
theorem TX(a:∀c X,Okx S F k c X->∀e,QE X e (d c e))(b:∀c X,Okx S F k c X->∀e,QT X e (g c e))c X(O:Okx S F k c X)elt tg iter ifs scope pos:QE X (.ListComp elt [⟨tg,iter,ifs,0⟩] scope pos) (AW S d g c elt tg iter ifs scope):=by
 unfold AW;split
 .exact Sm (Ba a b c X O elt tg iter ifs scope pos<|(Az<|a c X O iter).h tg) cD
 exact Ba a b c X O elt tg iter ifs scope pos<|A9 O (a c X O) tg iter
theorem TY v n p:QE X (.Constant v n p) (Gj v):=by cases v<;>first|exact OJ|exact OK|exact OL|exact OM|exact cD
theorem TZ{r:Expr->ME}(b:∀e,QE X e (r e))op a p:QE X (.UnaryOp op a p) (Gk (r a) op):=by cases op<;>first|exact OT (b _)|exact OU (b _)|exact cD
theorem T3(O:Okx S F k c X)(b:∀e,QE X e (r e))a ops bs p:QE X (.Compare a ops bs p) (AX S r a ops bs):=by
 unfold AX;split
 .exact TC O (b _) (b _) _ _
 .split
  .rename_i d g;exact QX d g (b _) (b _)<|b _
  .exact cD
 .exact cD
theorem T5(O:Okx S F k c X)(a:∀e,QE X e (r e))ks vs p:QE X (.Dict ks vs p) (AY r ks vs):=by
 unfold AY;try split
 .exact RK
 .exact cD
theorem T6(O:Okx S F k c X)(d:∀e,QE X e (r e))a b p:QE X (.Subscript a b p) (AZ S r c a b):=by
 unfold AZ;split
 .exact Pc (d _) (sR d _)<|sR d _
 .exact Q9 (d _) (sR d _) (sR d _)<|sR d _
 .split
  .rename_i h
   .exact RV O.room (d _) (d _) h
  .exact cD
theorem Bb(a:∀e,QE X e (r e))e:QT X e (sQ r e):=by
 unfold sQ;split
 .rename_i h;exact Qo (a _) h
 .exact zT
theorem T7(O:Okx S F k c X)(b:∀e,QE X e (r e))a ops bs p:QT X (.Compare a ops bs p) (A7 S r a ops bs p):=by
 unfold A7;split
 .exact TF O (b _) (b _) _ _
 .split
  .rename_i d g;exact QY d g (b _) (b _)<|b _
  .exact zT
 .exact Bb b _
theorem T8(b:∀e,QE X e (r e))a n p:QE X (.Tuple a n p) (A2 r a):=by
 unfold A2;split
 .rename_i h;exact O7<|gP b _ h
 .exact cD
theorem T9(b:∀e,QE X e (r e))a p:QE X (.List a p) (A3 r a):=by
 unfold A3;split
 .rename_i h;exact O8<|gP b _ h
 .exact cD
theorem Ua(O:Okx S F k c X)(b:∀e,QE X e (r e))f args d a g p:QE X (.Call f args [⟨a7 d,a,g⟩] p) (A4 S r c f args d a):=by
 unfold A4;cases f with
 |Name x i=>
  dsimp only;split
  .split
   .rename_i h;obtain⟨rfl,rfl,h⟩:=h;rw[ZL,ZL]at h;exact Ta O.calm O.room.units (O.gl h.1.1).1 (O.no _ h.1.2) (b _) (b _) h.2
   .exact cD
  .exact cD
 |_=>exact cD
theorem Ub(O:Okx S F k c X)(b:∀e,QE X e (r e))f args a p:QE X (.Call f args a p) (A5 S F r c f args p a):=by
 unfold A5;split
 .exact TV O b _ _ _
 .exact Ua O b _ _ _ _ _ _
 .exact cD
theorem Uc(O:Okx S F k c X)(h:QE X o m):QE X (.Attribute o a p) (if f9 o then(match S.ob.lookup a with|some x=>eX x a m|none=>bX)else bX):=by
 split
 .rename_i g;split
  .rename_i y i;obtain⟨C,b,d,e⟩:=O.ob a y i;exact Qz h g b d e
  .exact cD
 .exact cD
theorem GA(z:∀c X,Okx S F k c X->∀e,QE X e (m c e))(A:∀c X,Okx S F k c X->∀e,QT X e (q c e))c X(O:Okx S F k c X):
  (∀e,QE X e (Gm S F m q c e))/\∀e,QT X e (Gn S m q c e):=by
 have d:=z c X O;have u:=A c X O;constructor
 .intro e;cases e with
  |Name x p=>exact Tz O _ _|Constant v n p=>exact TY v n p|BinOp a i b p=>exact TB (d _) (d _) _ _|UnaryOp i a p=>exact TZ d i a p|Compare a g bs p=>exact T3 O d a g bs p|BoolOp i y p=>exact Gp d _ _ _|IfExp t a b p=>exact O4 (u _) (d _) (d _)|Tuple s n p=>exact T8 d s n p|List s p=>exact T9 d s p|Dict E y p=>exact T5 O d E y p|Subscript a b p=>exact T6 O d a b p|Call f j w l=>exact Ub O d f j w l|Attribute o a p=>exact Uc O (d _)|ListComp r B h p=>
   show QE X _ (A6 S m q c r h B);unfold A6;split
   .exact TX z A c X O _ _ _ _ _ _
   .exact cD
  |_=>exact cD
 .intro e;cases e with
  |BoolOp i y p=>exact Pu (Gq u _ _ _)|UnaryOp i a p=>
   cases i;case Not=>exact Pn<|u _
   all_goals exact Bb d _
  |Compare a g bs p=>exact T7 O d a g bs p|_=>exact Bb d _
theorem Bc:∀n,(∀c X,Okx S F k c X->∀e,QE X e ((tr S F n).1 c e))/\∀c X,Okx S F k c X->∀e,QT X e ((tr S F n).2 c e)
 |0=>⟨λc X O e=>cD,λc X O e=>zT⟩|n+1=>by have a:=Bc (S:=S) (F:=F) (k:=k) n;exact⟨λc X O e=>(GA a.1 a.2 c X O).1 e,λc X O e=>(GA a.1 a.2 c X O).2 e⟩
noncomputable def v7:MG:=λ_ _ _=>b3
noncomputable def sT(c:Cs):List Expr->Option (List Nat)
 |[]=>a7 []|.Name x _::r=>if mN c x then(iQ x c.N).bind λi=>(sT c r).map (i::·)else b3|_=>b3
noncomputable def oP(c:Cs):Expr->MG
 |.Name x _=>if mN c x then(match iQ x c.N with|some i=>cP i|none=>v7)else v7|.Tuple es _ _=>match sT c es with|some a=>dH a|none=>v7
 |_=>v7
noncomputable def kI(r:Stmt->MS):List Stmt->MS
 |[]=>bI|[s]=>r s|s::t=>aJ (r s)<|kI r t
noncomputable def Bd(S:Sig)(E:Cs->Expr->ME)(T:Cs->Expr->MT)(c:Cs)(i:Nat):Expr->MS
 |.ListComp elt [⟨tg,iter,ifs,0⟩] scope _=>match vX S c tg iter with
  |some j=>dX j (aO i<|mP (fF<|E c iter) E T c elt tg iter ifs scope) cI|none=>aO i<|mP (sP S (E c) c tg iter) E T c elt tg iter ifs scope
 |_=>cI
noncomputable def Be(c:Cs)(x y:Str)(d py:a1p)(a b:Expr):Bool:=
 decide (c.ks.lookup x=a7 .local)&&decide (c.ks.lookup y=a7 .local)&&(py.line==d.line)&&decide (x≠y)&&cU a&&cU b&&!(a4Z 8 a&&a4Z 8 b)&&!(a4M 8 a&&a4M 8 b)
noncomputable def v8:Expr->Option (Str×a1p)
 |.Name x p=>a7 (x,p)|_=>b3
theorem GB(h:v8 e=a7 q):e=.Name q.1 q.2:=by
 unfold v8 at h;split at h
 .cases h;rfl
 .cases h
noncomputable def Bf:Expr->Option (List Expr)
 |.Tuple es _ _=>a7 es|_=>b3
theorem Ud(h:Bf e=a7 a):∃b p,e=.Tuple a b p:=by
 unfold Bf at h;split at h
 .cases h;exact⟨_,_,rfl⟩
 .cases h
noncomputable def v9(a:List Expr)(e:Expr):Option ((Str×a1p)×(Str×a1p)×Expr×Expr):=(o2 a).bind λt=>(v8 t.1).bind λx=>(v8 t.2).bind λy=>(Bf e).bind λu=>(o2 u).map λv=>(x,y,v)
theorem Ue(h:v9 b e=a7 (x,y,v)):∃a p,b=[.Name x.1 x.2,.Name y.1 y.2]/\e=.Tuple [v.1,v.2] a p:=by obtain⟨t,c,h⟩:=ZC.mp h;obtain⟨l,d,h⟩:=ZC.mp h;obtain⟨m,g,h⟩:=ZC.mp h;obtain⟨u,i,h⟩:=ZC.mp h;obtain⟨k,j,h⟩:=ZH.mp h;cases h;obtain⟨a,p,rfl⟩:=Ud i;exact⟨a,p,by rw[AK c,GB d,GB g],by rw[AK j]⟩
noncomputable def GC(E:Cs->Expr->ME)(c:Cs):Option ((Str×a1p)×(Str×a1p)×Expr×Expr)->MS
 |none=>cI|some q=>if Be c q.1.1 q.2.1.1 q.1.2 q.2.1.2 q.2.2.1 q.2.2.2 then(match iQ q.1.1 c.N with|some i=>(match iQ q.2.1.1 c.N with|some j=>pQ i j (eL (E c) [q.2.2.1,q.2.2.2])|none=>cI)|none=>cI)else cI
noncomputable def Bg(S:Sig)(E:Cs->Expr->ME)(T:Cs->Expr->MT)(c:Cs)(tg e:Expr):MS:=match tg with
 |.Name y _=>if mN c y then(match iQ y c.N with
   |some i=>if jV e then aO i (E c e)else Bd S E T c i e
   |none=>cI)else cI
 |.Tuple es _ _=>if zR e then(match sT c es with|some b=>jG (E c e) (dH b)|none=>cI)
   else GC E c (v9 es e)
 |.Subscript o i _=>if jV e&&pS i then dB (E c o) (E c i) (E c e)else cI|.Attribute o a _=>match S.ob.lookup a with|some x=>if jV e then l9 x a (E c o) (E c e)else cI|none=>cI
 |_=>cI
noncomputable def Bh(S:Sig)(c:Cs)(tg:Expr):Expr->Option (Nat×Expr×a1p×a1p)
 |.Call g [] [] cpos=>match g with
  |.Attribute o m apos=>if m="values" then(vX S c tg o).map λj=>(j,o,apos,cpos)else b3|_=>b3
 |_=>b3
theorem Ug(h:Bh S c tg e=a7 q):e=.Call (.Attribute q.2.1 "values" q.2.2.1) [] [] q.2.2.2:=by
 unfold Bh at h;split at h
 .split at h
  .split at h
   .rename_i a;obtain⟨j,_,rfl⟩:=ZH.mp h;rw[a]
   .cases h
  .cases h
 .cases h
noncomputable def Bi(S:Sig)(c:Cs)(tg:Expr):Expr->Option (Nat×Expr×a1p×a1p)
 |.Call g [] [] cpos=>match g with
  |.Attribute o m apos=>match tg with
   |.Tuple ..=>if m="items" then(Gb S c o).map λj=>(j,o,apos,cpos)else b3|_=>b3
  |_=>b3
 |_=>b3
theorem Uh(h:Bi S c tg e=a7 q):e=.Call (.Attribute q.2.1 "items" q.2.2.1) [] [] q.2.2.2/\∃b d p,tg=.Tuple b d p:=by
 unfold Bi at h;split at h
 .split at h
  .split at h
   .split at h
    .rename_i a;obtain⟨j,_,rfl⟩:=ZH.mp h;rw[a];exact⟨rfl,_,_,_,rfl⟩
    .cases h
   .cases h
  .cases h
 .cases h
noncomputable def Bj(tg:Expr):Expr->Option (Expr×a1p×a1p)
 |.Call g [] [] cpos=>match g with
  |.Attribute o m apos=>match tg with
   |.Tuple ..=>if m="items" then a7 (o,apos,cpos)else b3|_=>b3
  |_=>b3
 |_=>b3
theorem Ui(h:Bj tg e=a7 q):e=.Call (.Attribute q.1 "items" q.2.1) [] [] q.2.2/\∃b c p,tg=.Tuple b c p:=by
 unfold Bj at h;split at h
 .split at h
  .split at h
   .split at h
    .rename_i a;cases h;rw[a];exact⟨rfl,_,_,_,rfl⟩
    .cases h
   .cases h
  .cases h
 .cases h
noncomputable def GD(S:Sig)(E:Cs->Expr->ME)(T:Cs->Expr->MT)(c:Cs)(r:Stmt->MS):Stmt->MS
 |.Return (a7 e) _=>aS (E c e)|.Return b3 _=>aS (mC .non)|.If t a b _=>bE (T c t) (kI r a) (kI r b)|.Assign [tg] e _=>Bg S E T c tg e|.Expr e _=>if jV e then eE (E c e)else cI|.For tg iter body [] _=>if gI iter then
  (match Bi S c tg iter with
  |some q=>if f9 q.2.1&&(q.2.2.1.endLine==q.2.2.2.line)then dX q.1 (b7 (lG<|E c q.2.1) (oP c tg)<|kI r body) cI else cI|none=>
  (match Bj tg iter with
  |some q=>if f9 q.1&&(q.2.1.endLine==q.2.2.line)then b7 (sL<|E c q.1) (oP c tg) (kI r body)else cI|none=>
  (match Bh S c tg iter with
  |some q=>if f9 q.2.1&&(q.2.2.1.endLine==q.2.2.2.line)then dX q.1 (b7 (qI<|E c q.2.1) (oP c tg)<|kI r body) cI else cI|none=>
  (match vX S c tg iter with
  |some j=>dX j (b7 (fF<|E c iter) (oP c tg)<|kI r body) cI
  |none=>b7 (sP S (E c) c tg iter) (oP c tg)<|kI r body)
  )
  )
  )
  else cI
 |.Pass _=>bI|_=>cI
noncomputable def Bk(S:Sig)(F:Str->MF)(m:Nat)(c:Cs):Nat->Stmt->MS
 |0=>λ_=>cI|n+1=>GD S (tr S F m).1 (tr S F m).2 c<|Bk S F m c n
theorem Uj{X:Cx}(ks:X.env.scope.names=c.ks)(h:mN c x=b5):L2.Loc X.env.scope x:=by unfold mN at h;rw[a2z]at h;unfold L2.Loc;rw[ks];exact h.imp of_decide_eq_true of_decide_eq_true
theorem Okx.own(O:Okx S F k c X)(h:mN c x=b5):L2.Loc X.env.scope x:=Uj O.ks h
theorem Bl(O:Okx S F k c X)(b:∀x,X.fn x=b5):∀a is,sT c a=a7 is->QGs X a is
 |[],is,h=>by cases h;exact D9
 |e::a,is,h=>by
  cases e with
  |Name x p=>
   unfold sT at h;split at h
   .rename_i j;obtain⟨i,d,h⟩:=ZC.mp h;obtain⟨l,g,h⟩:=ZH.mp h;subst h;exact Ea i O.nd (Bl O b a l g) (by rw[O.N];exact oK d) (O.own j)<|.inl<|b x
   .cases h
  |_=>cases h
theorem sU(O:Okx S F k c X)(a:∀x,X.fn x=b5)e:QG X e (oP c e):=by
 unfold oP;split
 .split
  .rename_i b;split
   .rename_i i hi;exact PN i O.nd (by rw[O.N];exact oK hi) (O.own b)<|.inl<|a _
   .exact u3 λ_ _ _=>rfl
  .exact u3 λ_ _ _=>rfl
 .split
  .rename_i d hi;exact zQ (Bl O a _ d hi) O.calm
  .exact u3 λ_ _ _=>rfl
 .exact u3 λ_ _ _=>rfl
theorem lH(a:∀s,QS X s (r s)):∀b,QB X b (kI r b)
 |[]=>Py|[s]=>PC (a s)|s::t::ts=>PB (a s)<|lH a<|t::ts
theorem Uk:
  ∃b,a4a (.ListComp elt [⟨tg,iter,ifs,0⟩] scope pos) (a7<|.Name y py) n env=pure b/\(b=b5->env.kindOf y=a7 .local):=by
 refine⟨env.blockKind==.function&&env.kindOf y==a7 .local&&py.line==pos.line&&!(scope.names.any λ(n,k)=>n==y&&(k==.local||k==.cell)),rfl,λh=>?_⟩;simp only[ZL,beq_iff_eq]at h;exact h.1.1.2
theorem GF(O:Okx S F k c X)(A:∀x,X.fn x=b5)(r:∀c X,Okx S F k c X->∀e,QE X e (E c e))(u:∀c X,Okx S F k c X->∀e,QT X e (T c e))(hi:X.N[i]?=a7 y)(B:mN c y=b5)elt tg iter ifs scope pos(m:PI X tg iter (tMI X.K w)):QS X (.Assign [.Name y py] (.ListComp elt [⟨tg,iter,ifs,0⟩] scope pos) j) (aO i<|mP w E T c elt tg iter ifs scope):=by
  obtain⟨b,l,p⟩:=Uk (elt:=elt) (tg:=tg) (iter:=iter) (ifs:=ifs) (scope:=scope) (pos:=pos) (py:=py) (y:=y) (n:=j.line) (env:=X.env);cases b with
  |false=>exact⟨DI O.nd hi (O.own B) (Ba r u c X O elt tg iter ifs scope pos m).h l<|.inl<|A y⟩|true=>
   unfold mP;split
   .rename_i K v;split
    .rename_i h;rw[ZL]at h;refine⟨λn s J H D I q=>?_⟩;exact Qb ((sS O h.1).1.ok I.ok) O.nd O.calm m (λd G z=>(vZ O v h.1 [] 0 s H []).2 d G z) (λC g a o=>(vZ O v h.1 _ C g a o).1) (λC g a o=>(Gw (u _ _<|O.comp h.1) _).h) (λC g a o=>(r _ _ (O.comp h.1) _).h) (Gy h.2) hi (p rfl) l n s J H D I q
    .exact Fd
   .exact Fd
theorem Ul(O:Okx S F k c X)(g:∀x,X.fn x=b5)(b:∀c X,Okx S F k c X->∀e,QE X e (E c e))(d:∀c X,Okx S F k c X->∀e,QT X e (T c e))(hi:X.N[i]?=a7 y)(h:mN c y=b5)e:QS X (.Assign [.Name y py] e a) (Bd S E T c i e):=by
 unfold Bd;split
 .split
  .exact vL (GF O g b d hi h _ _ _ _ _ _<|(Az<|b c X O _).h _) dM
  .exact GF O g b d hi h _ _ _ _ _ _<|A9 O (b c X O) _ _
 .exact dM
theorem Um(r:env.scope.kind=.function)(n:env.kindOf x=a7 .local)(o:env.kindOf y=a7 .local)(s:(py.line==m.line)=b5)(j:x≠y)(p:cU a=b5)(q:cU b=b5)(i:(a4Z 8 a&&a4Z 8 b)=b4)(hc:(a4M 8 a&&a4M 8 b)=b4):
  a3d [.Tuple [.Name x m,.Name y py] v pt] (.Tuple [a,b] u l) env=pure (a7 [x,y]):=by
 have bk:(env.blockKind != .function)=false:=by unfold Env.blockKind;rw[r];rfl
 have g:[a,b].all (a4Z 8)=false:=by simpa using i
 have e:[a,b].all (a4M 8)=false:=by simpa using hc
 have d:py.line=m.line:=eq_of_beq s;have nd:[x,y].eraseDups.length=2:=by
  have:(y==x)=false:=by simpa using a0o j
  simp[List.eraseDups_cons,this]
 unfold a3d;dsimp only;rw[bk];split
 .rename_i h;simp at h
 split
 .rename_i h;exfalso;simp only[a4H,List.any_nil,a7l,a2z]at h;rcases h with h|h
  .clear i hc g e;cases a<;>first|exact a9r h|cases p
  .clear i hc g e;cases b<;>first|exact a9r h|cases q
 split
 .rename_i h;exfalso;simp[Expr.pos,n,o,d,nd]at h
 rw[g,e];simp[Expr.pos,n,o,d]
theorem Uo(O:Okx S F k c X)(B:∀c X,Okx S F k c X->∀e,QE X e (E c e))d e I pt pos:QS X (.Assign [.Tuple d I pt] e pos) (GC E c<|v9 d e):=by
 cases H:v9 d e with
 |none=>exact dM|some q=>
  obtain⟨⟨x,J⟩,⟨y,K⟩,a,b⟩:=q;obtain⟨L,M,rfl,rfl⟩:=Ue H;show QS X _ (if Be c x y J K a b then _ else _);split
  .rename_i h;unfold Be at h;simp only[ZL,decide_eq_true_eq,a3I]at h;obtain⟨⟨⟨⟨⟨⟨⟨s,u⟩,v⟩,o⟩,p⟩,r⟩,w⟩,A⟩:=h;cases hi:iQ x c.N with
   |none=>exact dM|some i=>
    cases G:iQ y c.N with
    |none=>exact dM|some j=>have l:=s;have m:=u;rw[<- O.ks]at l m;have n:=oK hi;have g:=oK G;refine PU i j O.nd (gP (B c X O) _<|by rw[a0u,a0u,p,r];rfl) (λz=>?_) O.calm (by rw[O.N];exact n) (by rw[O.N];exact g) l m<|Um O.kind l m v o p r w A;subst z;rw[n]at g;exact o<|Z0 g
  .exact dM
theorem Up(O:Okx S F k c X)(d:∀x,X.fn x=b5)(a:∀c X,Okx S F k c X->∀e,QE X e (E c e))(o:∀c X,Okx S F k c X->∀e,QT X e (T c e))tg e pos:
  QS X (.Assign [tg] e pos) (Bg S E T c tg e):=by
 unfold Bg;split
 .split
  .rename_i j;split
   .rename_i i hi;have b:=oK hi;rw[<- O.N]at b;split
    .rename_i g;exact PM i O.nd (a c X O e) g b (O.own j)<|.inl<|d _
    .exact Ul O d a o b j e
   .exact dM
  .exact dM
 .split
  .rename_i g;split
   .rename_i q hi;exact PR (a c X O e) (zQ (Bl O d _ q hi) O.calm) g
   .exact dM
  .exact Uo O a _ _ _ _ _
 .split
  .rename_i h;rw[ZL]at h;exact R0 O.room (a c X O _) (a c X O _) (a c X O _) h.1
  .exact dM
 .split
  .rename_i y p;split
   .rename_i h;obtain⟨C,l,m,n⟩:=O.ob _ y p;exact QC (a c X O _) (a c X O _) h l m n
   .exact dM
  .exact dM
 .exact dM
theorem Uq(O:Okx S F k c X)(l:∀x,X.fn x=b5)(i:∀c X,Okx S F k c X->∀e,QE X e (E c e))(A:∀c X,Okx S F k c X->∀e,QT X e (T c e))(j:∀s,QS X s (r s))st:
  QS X st (GD S E T c r st):=by
 cases st with
 |Return o p=>
  cases o with
  |none=>exact Qq|some e=>exact PF<|i c X O _
 |If t a b p=>exact PL (A c X O _) (lH j _) (lH j _)|Assign y e p=>
  cases y with
  |nil=>exact dM|cons B G=>
   cases G with
   |nil=>exact Up O l i A _ _ _|cons _ _=>exact dM
 |Expr e p=>
  show QS X _ (if jV e then eE (E c e)else cI);split
  .rename_i h;exact PH (i c X O _) h
  .exact dM
 |For B n z g p=>
  cases g with
  |cons _ _=>exact dM|nil=>
   show QS X _ (if gI n then _ else cI);split
   .rename_i h;split
    .rename_i q m;split
     .rename_i d;rw[ZL]at d;obtain⟨e,v,w,pt,u⟩:=Uh m;rw[e]at h ⊢;subst u;exact vL (rZ ((SV (i c X O _) d.1 d.2).h v w pt) (sU O l _) (lH j _) O.never O.calm h) dM
     .exact dM
    split
    .rename_i q m;split
     .rename_i d;rw[ZL]at d;obtain⟨e,v,w,pt,u⟩:=Ui m;rw[e]at h ⊢;subst u;exact rZ ((SX (i c X O _) d.1 d.2).h v w pt) (sU O l _) (lH j _) O.never O.calm h
     .exact dM
    split
    .rename_i q m;split
     .rename_i d;rw[ZL]at d;have e:=Ug m;rw[e]at h ⊢;exact vL (rZ ((SS (i c X O _) d.1 d.2).h _) (sU O l _) (lH j _) O.never O.calm h) dM
     .exact dM
    split
    .exact vL (rZ ((Az<|i c X O _).h _) (sU O l _) (lH j _) O.never O.calm h) dM
    exact rZ (A9 O (i c X O) _ _) (sU O l _) (lH j _) O.never O.calm h
   .exact dM
 |Pass p=>exact PD|_=>exact dM
theorem GG(O:Okx S F k c X)(a:∀x,X.fn x=b5)m:∀n st,QS X st (Bk S F m c n st)
 |0,_=>dM|n+1,st=>Uq O a (Bc m).1 (Bc m).2 (GG O a m n) st
noncomputable def dC(st:Stmt):List Str:=(gZ st).args.map (·.arg)
noncomputable def mQ(st:Stmt):List Str:=dC st++(cR st).names.filterMap λy=>if(y.2==NameKind.local||y.2==a2x)&&!(dC st).contains y.1 then a7 y.1 else b3
noncomputable def jZ(st:Stmt):Bool:=
 decide ((cR st).kind=.function)&&!(cR st).isCoroutine&&!(cR st).isGenerator&&decide (mQ st).Nodup &&
 ((dC st).all λx=>decide ((cR st).names.lookup x=a7 .local)||decide ((cR st).names.lookup x=a7 .cell))&&((cR st).names.all λy=>decide<|y.2≠.free)
theorem Ur(h:jZ st=b5):FnScope (mQ st) (dC st) (cR st):=by unfold jZ at h;simp only[ZL,decide_eq_true_eq,a3I,a1c,a2z]at h;obtain⟨⟨⟨⟨⟨a,b⟩,c⟩,d⟩,e⟩,g⟩:=h;exact⟨a,b,c,d,by unfold mQ;simp,e,g⟩
noncomputable def GH:Nat:=40
noncomputable def GJ:Nat:=40
noncomputable def lk(S:Sig)(ds:List (Str×Stmt))(x:Str):Option Stmt:=match ds.lookup x with
 |some st=>a7 st|none=>S.ms.lookup x
noncomputable def Bm(S:Sig)(F:Str->MF)(st:Stmt):MF:=yZ (mQ st).length<|kI (Bk S F GH ⟨mQ st,(cR st).names⟩ GJ)<|fI st
noncomputable def gQ(S:Sig)(ds:List (Str×Stmt)):Nat->Str->MF
 |0,_=>λ_ _=>b3|k+1,x=>match lk S ds x with
  |none=>match S.mc.lookup x with
   |none=>λ_ _=>b3|some q=>gQ S ds k q.1
  |some st=>Bm S (gQ S ds k) st
structure DefAt(K:ZD)(mg:Str->Option Value)(x:Str)(st:Stmt):Prop where
 ex:∃f fd,Fun K x x st f fd/\mg x=a7 (.ref f)/\Binds K fd (dC st) []
noncomputable def oQ(K:ZD)(s:Option Stmt)(n:Nat)(g:Addr):Prop:=∃a b q st,s=a7 st/\Fun K b q st g a/\Binds K a (dC st) []/\(dC st).length=n+1
structure TxtOk(P:a0j)(w:a0E)(K:ZD)(mg:Str->Option Value)(S:Sig)(ds:List (Str×Stmt)):Prop where
 fns:∀x n,S.fn.lookup x=a7 n->∃st,ds.lookup x=a7 st/\(dC st).length=n
 defs:∀x st,ds.lookup x=a7 st->DefAt K mg x st/\jZ st=b5
 con:∀x d,S.con.lookup x=a7 d->∃v u,mg x=a7 u/\RelV v u/\∀π n H,IsD K π n H v d
 tab:∀x kvs,S.tab.lookup x=a7 kvs->∃(p:Addr)(vs:List (cH×V))(ws:List (cH×Value)),mg x=a7 (.ref p)/\(∀h:a1d,K.In h->h.DictOf (rA P w) p ws)/\KV vs ws/\∀π n H,IsKs K π n H vs kvs
 no:∀x,S.no.contains x=b5->mg x=b3
 ob:∀f x,S.ob.lookup f=a7 x->∃C,CAt K x C/\Cls K C/\NoAttr K C f
 mt:∀m x y n,S.mt.lookup m=a7 (x,y,n)->∃(C g:Addr),CAt K x C/\Cls K C/\Meth K C m g/\oQ K (lk S ds y) n g
 mc:∀x y n,S.mc.lookup x=a7 (y,n)->lk S ds x=b3/\∃(C g:Addr),CAt K x C/\Mk K C g/\oQ K (lk S ds y) n g
 ms:∀y st,S.ms.lookup y=a7 st->jZ st=b5
theorem GK(h:ds.lookup x=a7 st):lk S ds x=a7 st:=by unfold lk;rw[h]
theorem TxtOk.sc(T:TxtOk P w K b S ds)(h:lk S ds x=a7 st):jZ st=true:=by
 unfold lk at h;split at h
 .rename_i a;cases h;exact(T.defs _ _ a).2
 .exact T.ms _ _ h
theorem Us(T:TxtOk P w K L S ds)k:∀x st nm q f I,lk S ds x=a7 st->Fun K nm q st f I->
  FnOk P w K L base eV k f I (dC st) (eW K (dC st).length<|gQ S ds k x):=by
 induction k using Nat.strongRecOn with
 |_ k u=>
 intro x st nm q f I X hF;cases k with
 |zero=>exact⟨λvs H Q E h=>h.1,λA outer s H N us vs Q E Y he hb hv hs=>by
   obtain⟨_,π,ds',μ,d,μ',R,i,hm,kc⟩:=hs;cases hm⟩
 |succ k=>
  have Z:=u k<|a1C k;have e:gQ S ds (k+1) x=Bm S (gQ S ds k) st:=by show(match lk S ds x with|none=>_|some st=>Bm S (gQ S ds k) st)=_;rw[X]
  rw[e];have B:=Ur<|T.sc X;refine PV hF B (by unfold mQ;simp) rfl λG A outer s H E Y=>?_;have O:Okx S (gQ S ds k) k ⟨mQ st,(cR st).names⟩ (kS eV P w K L base (mQ st) q (cR st) f G A outer s H E).nox:=by
   refine⟨rfl,B.nd,rfl,B.kind,rfl,Y,a8d,λy n o=>?_,T.con,λy J q=>⟨T.tab y J q⟩,T.no
    ,T.ob,λm y z n o=>?_,λy z n o=>?_
    ⟩
   .obtain⟨a,l,r⟩:=T.fns y n o;obtain⟨U,b,j,m',p⟩:=(T.defs y a l).1.ex;subst r;exact⟨U,b,dC a,Z y a _ _ U b (GK l) j,m',j.kp,p⟩
   .obtain⟨C,g,c1,c2,c3,b,c,M,a,l,j,p,r⟩:=T.mt m y z n o;have:=Z z a c M g b l j;rw[r]at this;exact⟨C,g,b,dC a,c1,c2,c3,this,p⟩
   .obtain⟨h0,C,g,c1,c2,b,c,M,a,l,j,p,r⟩:=T.mc y z n o;cases k with
    |zero=>exact .inl λ_ _=>rfl|succ v=>
     have:=u v (by lia) z a c M g b l j;rw[r]at this;have e3:gQ S ds (v+1) y=gQ S ds v z:=by show(match lk S ds y with|none=>(match S.mc.lookup y with|none=>λ_ _=>b3|some q=>gQ S ds v q.1)|some st=>_)=_;rw[h0];dsimp only;rw[o]
     rw[<- e3]at this;exact .inr ⟨v,C,g,b,dC a,rfl,c1,c2,this,p⟩
  exact lH (GG O (λ_=>rfl) GH GJ)<|fI st
theorem Ut(T:TxtOk P w K b S ds)k x st f a(d:ds.lookup x=a7 st)(c:Fun K x x st f a):
  FnOk P w K b base eV k f a (dC st) (eW K (dC st).length<|gQ S ds k x):=Us T k x st x x f a (GK d) c
theorem GL:∀{ns:List Int}{b},a4d (ns.map a3T)<=b->∀n∈ns,a0D n<=b
 |[],_,_,n,a=>nomatch a|m::ns,b,h,n,a=>by
  have e:a4d ((m::ns).map a3T)=a6v (.int m)+1+a4d (ns.map a3T):=rfl;have c:a6v (.int m)=a0D m:=rfl;rw[e,c]at h;rcases a0g.mp a with rfl|a
  .lia
  .exact GL (b:=b) (by lia) n a
section
open PySem PySem.W PySem.Calls PyProof.Rows
theorem Uu{l:a8A}(U:l.most=a7 n)(y:d.params.defaults=[])(call:∀w s₀ b s B g o E p c a(vs:gq)ns,
   Ground q loose [] XP w s₀ s B b.heap->YP w b.heap->
   b.heap.get? g=a7 o->o.data=.func (docDef d.name d.params d.body d.scope E p c)->b.heap.CodeRec p d.name->s d.name=a7 (.ref g)->
   b.heap.get? a=a7 {cls:=.type "list",data:=.seq vs.toArray}->a2V vs ns->ns.length<=n->(∀m∈ns,a0D m<=2^20)->b.gens=#[]->
   a3G (a0d l.prog w) a6J (.call (.ref g) ⟨[.ref a],[]⟩) (λr u=>r=.ok (.ret<|.bool b5)/\OldK b.heap u.heap/\u.os=b.os/\a6a u.gens) b):
  a9f q loose XP YP l.row.toRowW d [] (λf vs=>b0w f vs):=by
 intro w s₀ b s B G Y g o E p c K kV X hd x I z Q H J as k h hrd A R;obtain rfl:K=.none:=Dflts.none I y;obtain rfl:kV=.none:=Dflts.noKw I;obtain⟨a,vs,ns,rfl,rfl,j,e,i⟩:=Att.script_of U k A;have O:∀m∈ns,a0D m<=2^20:=by
  have v:a6o (.list<|ns.map a3T)=true:=by have:=h;unfold b0x at this;simpa using this
  unfold a6o at v;rw[ZL]at v;exact GL<|of_decide_eq_true v.2
 refine enter_call<|a6I (call w s₀ b s B g o E p c a vs ns G Y X (fd_plain hd) x z j e i O Q) λr u Z=>?_;obtain⟨rfl,L,M,N⟩:=Z;exact⟨.inl ⟨.bool b5,.bool b5,[],rfl,λ_=>rfl,.bool b5,Att.post_true l _,λ_=>⟨b0C,λ_ T=>(nomatch T)⟩⟩,L,M,N⟩
end
theorem walkM{l:a8A}{K:a1x->ZD}(hn:l.most=a7 63)(L:d.params.defaults=[])(hr:Room k a6J)(hY:∀w h,YP w h->(K w.params).In h)(hl:ds.lookup d.name=a7 st)(hx:dC st=[x])(T:∀w B h,(K w.params).In h->h.Ns a1b B->TxtOk l.prog w (K w.params) B S ds/\∃f I,Fun (K w.params) d.name d.name st f I/\B d.name=a7 (.ref f)/\∀s u,a6P s I ⟨[u],[]⟩ [(x,u)])(M:∀b:List Int,b.length<=63->(∀m∈b,a0D m<=2^20)->∃p,gQ S ds k d.name [.rol<|b.map D.int] []=a7 (.bl b5,p)):
  a9f q loose XP YP l.row.toRowW d [] (λf Z=>b0w f Z):=by
 refine Uu hn L λw U X B mb fa o pm cd doc a Z b G Y ho hd hcd N A g c J hg=>?_;have Q:=hY w _ Y;obtain⟨hT,f,I,hF,R,hb⟩:=T w B _ Q G.T.g;rw[N]at R;cases R;refine L2.law_call (CX:=eV) (sp:=eW (K w.params) 1 (gQ S ds k d.name)) Q G.T.g G.T.b G.T.builtins G.T.nolimit hg A g (a0A c<|by decide) hr (λy hb1 hb2=>?_) hb (λH hO hS=>?_) λH e s' z=>z
 .have:=Ut (base:=y) hT k d.name st fa I hl hF;rw[hx]at this;exact this
 .obtain⟨p,hM⟩:=M b c J;have O:RoL (K w.params) H a (b.map V.int):=by
   rcases hS with(h|h)|h
   .rcases hO a with z|⟨o,E,z⟩
    .rw[z]at h;cases h
    .rw[z]at h;cases h
   .exact .inl h
   .exact .inr h
  refine⟨rfl,λ_=>0,[.rol<|b.map D.int],[],.bl b5,p,⟨λi j hi=>absurd hi<|a5g _,λi hi=>absurd hi<|a5g _,λi E h=>(by cases h),λi E h=>(by cases h),λi E h=>(by cases h)
   ,λi E h=>(by cases h)
   ,λi E h=>(by cases h)
   ,λi x fs h=>(by cases h)
   ⟩,.cons (.rol O ?_) .nil,hM,λπ' v H' _ _ hv=>?_⟩
  .have:∀b:List Int,IsDs (K w.params) (λ_=>0) ([]:Hm).length H (b.map V.int) (b.map D.int):=λb=>by
    induction b with
    |nil=>exact .nil|cons n r ih=>exact .cons (.int n) ih
   exact this b
  .cases hv;rfl
end L3
namespace L3
open PySem L2
theorem mR{a:Type}:∀{l:List (Str×a)}{x}{b},l.lookup x=a7 b->(x,b)∈l:=λh=>a1j h
theorem Uv{S:Sig}{ds:List (Str×Stmt)}(h:(S.fn.all λp=>match ds.lookup p.1 with|some st=>decide ((dC st).length=p.2)|none=>b4)=b5):∀x n,S.fn.lookup x=a7 n->∃st,ds.lookup x=a7 st/\(dC st).length=n:=by
 intro x n e;have:=a1c.mp h (x,n)<|mR e;dsimp only at this;split at this
 .rename_i st a;exact⟨st,a,of_decide_eq_true this⟩
 .cases this
theorem Uw{ds:List (Str×Stmt)}(h:∀p∈ds,DefAt K a p.1 p.2/\jZ p.2=b5):∀x st,ds.lookup x=a7 st->DefAt K a x st/\jZ st=true:=λx st e=>h (x,st)<|mR e
theorem Ux{b:Str->Option Value}{a:List (Str×D)}(h:∀p∈a,∃v u,b p.1=a7 u/\RelV v u/\∀π n H,IsD K π n H v p.2):∀x d,a.lookup x=a7 d->∃v u,b x=a7 u/\RelV v u/\∀π n H,IsD K π n H v d:=λx d e=>h (x,d)<|mR e
inductive EntsOf (w:a0E):List DictEntry->List (cH×Value)->Prop where
 |nil:EntsOf w [] []
 |cons {e:DictEntry}{k:cH}{v:Value}{es:List DictEntry}{kvs:List (cH×Value)}(h:xW k e.key=b5)(hh:e.hash=CH w k)(hv:e.val=v)(t:EntsOf w es kvs):EntsOf w (e::es)<|(k,v)::kvs
theorem Uy{a:Str->Option Value}{ns:List Str}(h:∀x∈ns,a x=b3):∀x,ns.contains x=b5->a x=none:=λx e=>h x<|by simpa using e
noncomputable def qL:Nat->(Nat->Value)->gq
 |0,_=>[]|n+1,u=>u 0::qL n λi=>u<|i+1
theorem Bn:∀us,∃u,us=qL us.length u
 |[]=>⟨λ_=>.none,rfl⟩|v::us=>let⟨u,a⟩:=Bn us;⟨λi=>match i with|0=>v|i+1=>u i,congrArg (v::·) a⟩
noncomputable abbrev GN:Type:=Value->Value->Value->Option Addr->Value->Value->(Nat->Value)->a9e (List<|Str×Value)
noncomputable def Uz(x:Str)(st:Stmt)(m:Value)(c:Addr):Obj:=⟨a0b "function",b3,.func<|a1B x x (gZ st) (fI st) (cR st) .none .none .none m b3 (.ref c) .none,#[]⟩
noncomputable def GO(K:ZD)(d:(Str×Stmt)×Value×Addr×Addr):Option (Option Value)×Option Obj×Bool×Bool×Bool×GN:=(a2O K a1b d.1.1,K.lookup d.2.2.2,a4c K (.ref d.2.2.1) d.1.1,a1z K<|.ref d.2.2.2,jZ d.1.2,λkV b c an a ct u=>a7M (a1B d.1.1 d.1.1 (gZ d.1.2) (fI d.1.2) (cR d.1.2) .none kV b c an a ct) ⟨qL (dC d.1.2).length u,[]⟩)
noncomputable def GP(d:(Str×Stmt)×Value×Addr×Addr):Option (Option Value)×Option Obj×Bool×Bool×Bool×GN:=(a7<|a7<|.ref d.2.2.2,a7<|Uz d.1.1 d.1.2 d.2.1 d.2.2.1,b5,b5,b5,λ_ _ _ _ _ _ u=>pure<|(dC d.1.2).zip<|qL (dC d.1.2).length u)
noncomputable def wA(K:ZD)(d:Str×Stmt):(Str×Stmt)×Value×Addr×Addr:=(d,match a2O K a1b d.1 with
 |some (a7<|.ref f)=>(match K.lookup f with
  |some ⟨_,_,.func fd,_⟩=>(match fd.code with
   |.ref c=>(fd.pyModule,c,f)
   |_=>(.none,0,0))
  |_=>(.none,0,0))
 |_=>(.none,0,0))
noncomputable def wB(K:ZD)(ds:List (Str×Stmt)):Prop:=ds.map (λd=>GO K<|wA K d)=ds.map λd=>GP<|wA K d
theorem GQ(X:K.In h)(G:h.Ns a1b i)(q:wB K ds):∀p∈ds,(DefAt K i p.1 p.2/\jZ p.2=b5)/\∃f j,Fun K p.1 p.1 p.2 f j/\i p.1=a7 (.ref f)/\∀us:gq,us.length=(dC p.2).length->a7M j ⟨us,[]⟩=pure ((dC p.2).zip us):=by
 intro g r;have t:=a8W.mp q g r;have e:(wA K g).1=g:=rfl;generalize wA K g=d at t e;obtain⟨p,m,c,f⟩:=d;cases e;unfold GO GP at t;obtain⟨a,t⟩:=a5c t;obtain⟨l,t⟩:=a5c t;obtain⟨c,t⟩:=a5c t;obtain⟨k,t⟩:=a5c t;obtain⟨s,b⟩:=a5c t;have F:=Dv (st:=p.2) l c k;have D:=λkV doc pm an cdv ct (us:gq)(o:us.length=(dC p.2).length)=>(by
  obtain⟨u,n⟩:=Bn us;rw[o]at n;rw[n];exact congrFun (congrFun (congrFun (congrFun (congrFun (congrFun (congrFun b kV) doc) pm) an) cdv) ct) u:a7M (a1B p.1 p.1 (gZ p.2) (fI p.2) (cR p.2) .none kV doc pm an cdv ct) ⟨us,[]⟩=pure ((dC p.2).zip us))
 exact⟨⟨⟨_,_,F,a5o X G a,Binds.all<|D _ _ _ _ _ _⟩,s⟩,_,_,F,a5o X G a,D _ _ _ _ _ _⟩
theorem UA(X:K.In h)(G:h.Ns a1b c)(q:wB K ds)(d:ds.lookup x=a7 st)(e:dC st=[y]):∃f a,Fun K x x st f a/\c x=a7 (.ref f)/\∀s u,a6P s a ⟨[u],[]⟩ [(y,u)]:=by obtain⟨f,a,F,m,b⟩:=(GQ X G q (x,st)<|mR d).2;dsimp only at b;rw[e]at b;exact⟨f,a,F,m,λs u=>.of_eq<|b [u] rfl⟩
theorem UB(X:K.In h)(G:h.Ns a1b a){ns:List Str}(q:ns.map (a2O K a1b)=ns.map λ_=>a7 b3):∀x∈ns,a x=none:=λx b=>PySem.W.mg_none_of X G<|a8W.mp q x b
noncomputable def sV{c d:Type}(f:c->d->Bool):List c->List d->Bool
 |[],[]=>b5|a::as,b::bs=>f a b&&sV f as bs|_,_=>b4
noncomputable def sW(K:ZD):Nat->Value->D->Bool
 |0,_,_=>b4|k+1,u,d=>match d with
  |.non=>(match u with|.none=>b5|_=>b4)|.bl b=>(match u with|.bool c=>decide (b=c)|_=>b4)|.int i=>(match u with|.int j _=>decide (i=j)|_=>b4)|.str x=>(match u with|.str y _=>decide (x=y)|_=>b4)
  |.tup ds=>(match u with
   |.ref p=>(match K.lookup p with
    |some ⟨.type t,b3,.seq its _,_⟩=>decide (t="tuple")&&decide (its.size<=1000)&&sV (sW K k) its.toList ds
    |_=>b4)
   |_=>b4)
  |.rol ds=>(match u with
   |.ref p=>(match K.lookup p with
    |some ⟨.type t,b3,.seq its _,_⟩=>decide (t="list")&&decide (its.size<=1000)&&sV (sW K k) its.toList ds
    |_=>b4)
   |_=>b4)
  |_=>b4
theorem GR(h:∀u d,f u d=b5->∃v,RelV v u/\∀π n H,IsD K π n H v d):∀us ds,sV f us ds=b5->∃vs,Vals vs us/\∀π n H,IsDs K π n H vs ds
 |[],[],_=>⟨[],.nil,λ_ _ _=>.nil⟩|u::us,d::ds,e=>by obtain⟨a,b⟩:=a3l.mp e;obtain⟨v,r,q⟩:=h u d a;obtain⟨vs,g,c⟩:=GR h us ds b;exact⟨v::vs,.cons r g,λ_ _ _=>.cons (q _ _ _)<|c _ _ _⟩
 |[],_::_,e=>nomatch e|_::_,[],e=>nomatch e
theorem GS:∀k u d,sW K k u d=b5->∃v,RelV v u/\∀π n H,IsD K π n H v d
 |0,_,_,e=>nomatch e|k+1,u,d,e=>by
  have seq:∀{p:Addr}{ds:List D}{c:String},(match K.lookup p with|some ⟨.type t,b3,.seq g _,_⟩=>decide (t=c)&&decide (g.size<=1000)&&sV (sW K k) g.toList ds|_=>b4)=b5->∃h g n l,K.lookup p=a7 ⟨.type c,b3,.seq g n,l⟩/\g.size<=ZX/\Vals h g.toList/\∀π n H,IsDs K π n H h ds:=λ{p ds c} e=>by
   split at e
   .rename_i t g n l j;obtain⟨e,q⟩:=a3l.mp e;obtain⟨a,b⟩:=a3l.mp e;cases of_decide_eq_true a;obtain⟨h,r,i⟩:=GR (GS k) _ _ q;exact⟨h,g,n,l,j,a0A (of_decide_eq_true b)<|by decide,r,i⟩
   .cases e
  cases d with
  |non=>cases u with
   |none=>exact⟨.non,rfl,λ_ _ _=>.non⟩|_=>cases e
  |bl b=>cases u with
   |bool c=>cases of_decide_eq_true e;exact⟨.bl b,rfl,λ_ _ _=>.bl _⟩|_=>cases e
  |int b=>cases u with
   |int c=>cases of_decide_eq_true e;exact⟨.int b,⟨_,rfl⟩,λ_ _ _=>.int _⟩|_=>cases e
  |str b=>cases u with
   |str c=>cases of_decide_eq_true e;exact⟨.str b,⟨_,rfl⟩,λ_ _ _=>.str _⟩|_=>cases e
  |tup ds=>cases u with
   |ref p=>obtain⟨h,g,n,l,j,m,r,i⟩:=seq e;exact⟨.ref p,rfl,λ_ _ _=>.tup (vs:=h) (.inr ⟨_,g,n,j,rfl,rfl,rfl,m,r⟩)<|i _ _ _⟩|_=>cases e
  |rol ds=>cases u with
   |ref p=>obtain⟨h,g,n,l,j,m,r,i⟩:=seq e;exact⟨.ref p,rfl,λ_ _ _=>.rol (vs:=h) (.inr ⟨_,g,n,j,rfl,rfl,rfl,m,r⟩)<|i _ _ _⟩|_=>cases e
  |_=>cases e
noncomputable def GU(K:ZD)(a:List (Str×D)):Bool:=a.all λc=>match a2O K a1b c.1 with|some (a7 u)=>sW K 8 u c.2|_=>b4
theorem UC(X:K.In h)(G:h.Ns a1b b)(q:GU K a=b5):∀p∈a,∃v u,b p.1=a7 u/\RelV v u/\∀π n H,IsD K π n H v p.2:=λp c=>by
 have t:=a1c.mp q p c;split at t
 .rename_i u d;obtain⟨v,r,i⟩:=GS _ _ _ t;exact⟨v,u,a5o X G d,r,i⟩
 .cases t
noncomputable def iR(K:ZD)(x:Str):Addr:=match a2O K a1b x with
 |some (a7<|.ref C)=>C|_=>0
noncomputable def sX(K:ZD)(x:Str):Bool:=a2O K a1b x==a7 (a7<|.ref<|iR K x)&&a3J K (iR K x) Str.empty&&a4q K (iR K x)&&a5D K (iR K x) &&
 a1k K (.ref<|iR K x) "__setattr__"==a7 (a7<|.builtin "object.__setattr__")
theorem sY(h:sX K x=b5):CAt K x (iR K x)/\Cls K (iR K x):=by unfold sX at h;rw[ZL,ZL,ZL,ZL,beq_iff_eq,beq_iff_eq]at h;obtain⟨⟨⟨⟨a,b⟩,c⟩,d⟩,e⟩:=h;exact⟨a,b,c,d,e⟩
theorem UD{L:List (Str×Str)}(h:(L.all λp=>sX K p.2&&a1k K (.ref<|iR K p.2) p.1==a7 b3)=b5):∀f x,L.lookup f=a7 x->∃C,CAt K x C/\Cls K C/\NoAttr K C f:=λf x e=>by have:=a1c.mp h (f,x)<|mR e;rw[ZL,beq_iff_eq]at this;exact⟨_,(sY this.1).1,(sY this.1).2,this.2⟩
noncomputable def lI(K:ZD)(x m:Str):Addr:=match a1k K (.ref<|iR K x) m with
 |some (a7<|.ref g)=>g|_=>0
noncomputable def Bo(K:ZD)(g:Addr):Value×Value×Addr:=match K.lookup g with
 |some ⟨_,_,.func fd,_⟩=>(match fd.code with
  |.ref c=>(fd.defaults,fd.pyModule,c)
  |_=>(.none,.none,0))
 |_=>(.none,.none,0)
noncomputable def GV(x a:Str)(st:Stmt)(q:Value×Value×Addr):a1Y:=a1B x a (gZ st) (fI st) (cR st) q.1 .none .none q.2.1 b3 (.ref q.2.2) .none
noncomputable def GW(K:ZD)(x m a:Str)(st:Stmt)(n:Nat):Bool:=a1k K (.ref<|iR K x) m==a7 (a7<|.ref<|lI K x m)&&a5F K (.ref<|lI K x m)&&a1z K (.ref<|lI K x m) &&
 a4c K (.ref (Bo K<|lI K x m).2.2) a&&decide ((dC st).length=n+1)
noncomputable abbrev Bp(K:ZD)(x m a:Str)(st:Stmt)(n:Nat):Prop:=GW K x m a st n=b5/\K.lookup (lI K x m)=a7 ⟨.type "function",b3,.func<|GV m a st<|Bo K<|lI K x m,#[]⟩ /\
 (λS u=>PySem.W.peek K S<|a7M (GV m a st<|Bo K<|lI K x m) ⟨qL (n+1) u,[]⟩)=λ_ u=>a7<|(dC st).zip<|qL (n+1) u
theorem GX(h:Bp K x m a st n):Meth K (iR K x) m (lI K x m)/\oQ K (a7 st) n (lI K x m):=by obtain⟨h,l,k⟩:=h;unfold GW at h;rw[ZL,ZL,ZL,ZL,beq_iff_eq,decide_eq_true_eq]at h;obtain⟨⟨⟨⟨g,i⟩,b⟩,j⟩,c⟩:=h;refine⟨⟨g,i,b⟩,_,m,a,st,rfl,Dv (st:=st) l j b,λs o X d=>?_,c⟩;rw[a0p]at d ⊢;obtain⟨u,e⟩:=Bn o;rw[d,c]at e;rw[e];exact PySem.W.kp_binds X λS=>congrFun (congrFun k S) u
theorem UE(h:∀p∈S.mt,sX K p.2.1=b5/\∃a st,lk S ds p.2.2.1=a7 st/\Bp K p.2.1 p.1 a st p.2.2.2):∀m x y n,S.mt.lookup m=a7 (x,y,n)->∃C g,CAt K x C/\Cls K C/\Meth K C m g/\oQ K (lk S ds y) n g:=λm x y n e=>by obtain⟨b,a,st,c,d⟩:=h (m,x,y,n)<|mR e;dsimp only at b c d;rw[c];exact⟨_,_,(sY b).1,(sY b).2,GX d⟩
theorem UG(h:∀p∈S.mc,sX K p.1=b5/\lk S ds p.1=b3/\(a6f K (iR K p.1)&&a1z K (.ref<|iR K p.1))=b5/\∃b st,lk S ds p.2.1=a7 st/\Bp K p.1 "__init__" b st p.2.2):
  ∀x y n,S.mc.lookup x=a7 (y,n)->lk S ds x=b3/\∃C g,CAt K x C/\Mk K C g/\oQ K (lk S ds y) n g:=λx y n e=>by
 obtain⟨d,i,c,b,st,j,k⟩:=h (x,y,n)<|mR e;dsimp only at d i c j k;rw[j];rw[ZL]at c;obtain⟨m,a⟩:=GX k;exact⟨i,_,_,(sY d).1,⟨c.1,m.at_,m.fn,c.2⟩,a⟩
theorem UH{L:List (Str×Stmt)}(h:(L.all λp=>jZ p.2)=b5):∀y st,L.lookup y=a7 st->jZ st=true:=λy st e=>a1c.mp h (y,st)<|mR e
noncomputable def W{a:Type}(o:Option a)(Q:a->Prop):Prop:=∃r,o=a7 r/\Q r
theorem W_some{r:α}{Q:α->Prop}:W (a7 r) Q↔Q r:=⟨λ⟨_,h,q⟩=>by cases h;exact q,λq=>⟨r,rfl,q⟩⟩
theorem W_none{Q:α->Prop}:W b3 Q↔False:=⟨λ⟨_,h,_⟩=>(by cases h),λh=>h.elim⟩
theorem W_bind{o:Option α}{g:α->Option β}{Q:β->Prop}:W (o.bind g) Q↔W o λr=>W (g r) Q:=by
 cases o with
 |none=>exact⟨λ⟨_,h,_⟩=>(by cases h),λ⟨_,h,_⟩=>(by cases h)⟩|some a=>simp[W_some]
theorem jK{o:Option α}{g:α->β}{Q:β->Prop}:W (o.map g) Q↔W o λr=>Q (g r):=by
 cases o with
 |none=>exact⟨λ⟨_,h,_⟩=>(by cases h),λ⟨_,h,_⟩=>(by cases h)⟩|some a=>simp[W_some]
theorem bG{o:Option α}{Q:α->Prop}{a:α->Prop}(h:W o Q)(k:∀r,Q r->a r):W o a:=let⟨r,e,q⟩:=h;⟨r,e,k r q⟩
theorem wC{Q:α->Prop}[Decidable c]{a b:Option α}:W (if c then a else b) Q↔if c then W a Q else W b Q:=by split<;>rfl
noncomputable def fin:Option (Fl×aI×Hm)->jk:=λo=>o.bind λp=>match p.1 with|.rt d=>a7 (d,p.2.2)|.nx=>a7 (.non,p.2.2)|_=>b3
theorem W_fin{Q:jz}:W (fin o) Q↔W o λp=>match p.1 with|.rt d=>Q (d,p.2.2)|.nx=>Q (.non,p.2.2)|_=>False:=by
 unfold fin;rw[W_bind];constructor
 .exact λh=>bG h λp q=>by obtain⟨a,c,b⟩:=p;cases a<;>simpa[W_some,W_none]using q
 .exact λh=>bG h λp q=>by obtain⟨a,c,b⟩:=p;cases a<;>simpa[W_some,W_none]using q
theorem aG{μ μ':Hm}(h:μ<+:μ'){a:Nat}(e:μ[a]?=a7 c):μ'[a]?=a7 c:=by obtain⟨t,rfl⟩:=h;have b:=(ZG.mp e).1;rw[a0f b];exact e
theorem GY{μ μ':Hm}(h:μ<+:μ'):μ.length<=μ'.length:=h.length_le
theorem aT(μ:Hm)(c:C):μ<+:μ++[c]:=⟨[c],rfl⟩
theorem fL{μ μ':Hm}(h:μ<+:μ')(b:μ.length<=a)c:μ<+:μ'.set a c:=by obtain⟨t,rfl⟩:=h;rw[a3O _ _ b];exact⟨_,rfl⟩
theorem w_mSeq{Q}:W (aJ a b c μ) Q↔W (a c μ) λp=>match p.1 with|.nx=>W (b p.2.1 p.2.2) Q|_=>Q p:=by
 unfold aJ;rw[W_bind];constructor
 .exact λh=>bG h λp q=>by obtain⟨d,c,μ⟩:=p;cases d<;>simpa[W_some,W_none]using q
 .exact λh=>bG h λp q=>by obtain⟨d,c,μ⟩:=p;cases d<;>simpa[W_some,W_none]using q
theorem w_mRet{Q}:W (aS m a μ) Q↔W (m a μ) λp=>Q (.rt p.1,a,p.2):=jK
theorem w_mDrop{Q}:W (eE m a μ) Q↔W (m a μ) λp=>Q (.nx,a,p.2):=jK
theorem w_mSet{Q}:W (aO i m a μ) Q↔W (m a μ) λp=>Q (.nx,a.set i<|a7 p.1,p.2):=jK
theorem w_mNext{Q}:W (bI a μ) Q↔Q (.nx,a,μ):=W_some
theorem w_mIfS{Q}:W (bE t a b c μ) Q↔W (t c μ) λp=>if p.1=b5 then W (a c p.2) Q else W (b c p.2) Q:=by unfold bE;rw[W_bind];constructor<;>exact λh=>bG h λp q=>by obtain⟨x,μ⟩:=p;cases x<;>simpa using q
theorem w_mIfE{Q}:W (i9 t a b c μ) Q↔W (t c μ) λp=>if p.1=b5 then W (a c p.2) Q else W (b c p.2) Q:=by unfold i9;rw[W_bind];constructor<;>exact λh=>bG h λp q=>by obtain⟨x,μ⟩:=p;cases x<;>simpa using q
theorem w_mAndT{Q}:W (i7 a b c μ) Q↔W (a c μ) λp=>if p.1=b5 then W (b c p.2) Q else Q (b4,p.2):=by unfold i7;rw[W_bind];constructor<;>exact λh=>bG h λp q=>by obtain⟨x,μ⟩:=p;cases x<;>simpa[W_some]using q
theorem w_mOrT{Q}:W (fJ a b c μ) Q↔W (a c μ) λp=>if p.1=b5 then Q (b5,p.2)else W (b c p.2) Q:=by unfold fJ;rw[W_bind];constructor<;>exact λh=>bG h λp q=>by obtain⟨x,μ⟩:=p;cases x<;>simpa[W_some]using q
theorem UI{Q}:W (rO a b μ) Q↔W (a b μ) λp=>Q (!p.1,p.2):=jK
theorem w_mOp{Q}:W (aB f a b c μ) Q↔W (a c μ) λp=>W (b c p.2) λq=>W (f p.1 q.1 q.2) Q:=by unfold aB;rw[W_bind];simp only[W_bind]
theorem cT{Q}:W (mC d a μ) Q↔Q (d,μ):=W_some
theorem bC{a:aI}{Q}:W (aA 0 (a7 d::a) μ) Q↔Q (d,μ):=by show W (a7 (d,μ)) Q↔_;exact W_some
theorem bF{a:aI}{Q}:W (aA (i+1) (x::a) μ) Q↔W (aA i a μ) Q:=by unfold aA;rw[a7u]
theorem bT{Q}:W (aD a μ) Q↔Q ([],μ):=W_some
theorem w_mCons{Q}:W (aC a r b μ) Q↔W (a b μ) λp=>W (r b p.2) λq=>Q (p.1::q.1,q.2):=by unfold aC;simp only[W_bind,W_some]
theorem w_mTup{Q}:W (bH ms a μ) Q↔W (ms a μ) fun p=>p.1.length<=ZX/\Q (.tup p.1,p.2):=by
 unfold bH
 rw [W_bind]
 constructor<;>exact fun h=>bG h fun p q=>by
  first
  | (rw [wC] at q;split at q
     .exact ⟨by assumption,W_some.mp q⟩
     .exact (W_none.mp q).elim)
  | (rw [if_pos q.1];exact W_some.mpr q.2)
theorem w_mLst{Q}:W (cJ ms a μ) Q↔W (ms a μ) fun p=>p.1.length<=ZX/\Q (.loc p.2.length,p.2++[.lst p.1]):=by
 unfold cJ
 rw [W_bind]
 constructor<;>exact fun h=>bG h fun p q=>by
  first
  | (rw [wC] at q;split at q
     .exact ⟨by assumption,W_some.mp q⟩
     .exact (W_none.mp q).elim)
  | (rw [if_pos q.1];exact W_some.mpr q.2)
theorem w_mCall{Q}:W (aH f ms a μ) Q↔W (ms a μ) fun p=>W (f p.1 p.2) Q:=W_bind
theorem w_mTest{Q}:W (aU m a μ) Q↔W (m a μ) λp=>match p.1 with|.bl b=>Q (b,p.2)|_=>False:=by unfold aU;rw[W_bind];constructor<;>exact λh=>bG h λp q=>by obtain⟨d,μ⟩:=p;cases d<;>simpa[W_some,W_none]using q
theorem w_mTru{Q}:W (dQ m a μ) Q↔W (m a μ) λp=>W (pV p.2 p.1) λb=>Q (b,p.2):=by unfold dQ;simp only[W_bind,jK]
theorem wD{Q}:W (dP a b μ) Q↔W (a b μ) λp=>match p.1 with|.int i=>Q (.int<|-i,p.2)|_=>False:=by unfold dP;rw[W_bind];constructor<;>exact λh=>bG h λp q=>by obtain⟨d,μ⟩:=p;cases d<;>simpa[W_some,W_none,jK,zD]using q
theorem UJ{Q}:W (pH a c μ) Q↔W (a c μ) λp=>match p.1 with|.bl b=>Q (.bl<|!b,p.2)|_=>False:=by unfold pH;rw[W_bind];constructor<;>exact λh=>bG h λp q=>by obtain⟨d,μ⟩:=p;cases d<;>simpa[W_some,W_none]using q
theorem w_mAndV{Q}:W (i8 a b e μ) Q↔W (a e μ) λp=>match p.1 with|.bl c=>if c=b5 then W (b e p.2) Q else Q (.bl b4,p.2)|_=>False:=by
 unfold i8;rw[W_bind];constructor<;>exact λh=>bG h λp q=>by
  obtain⟨d,μ⟩:=p;cases d with
  |bl c=>cases c<;>simpa[W_some]using q|_=>simpa[W_none]using q
theorem w_mPar{Q}:W (pQ i j ms d μ) Q↔W (ms d μ) λp=>match p.1 with|[v,w]=>Q (.nx,(d.set i<|a7 v).set j<|a7 w,p.2)|_=>False:=by
 unfold pQ;rw[W_bind];constructor<;>exact λh=>bG h λp q=>by
  obtain⟨l,μ⟩:=p;match l,q with
  |[],q=>simpa[W_none]using q|[a],q=>simpa[W_none]using q|[a,b],q=>simpa[W_some]using q|a::b::c::l,q=>simpa[W_none]using q
theorem w_mAsg{Q}:W (jG m g a μ) Q↔W (m a μ) λp=>W (g p.1 a p.2) λb=>Q (.nx,b,p.2):=by unfold jG;simp only[W_bind,jK]
theorem w_addI{Q:jz}:W (bP (.int i) (.int j) μ) Q↔Q (.int<|i+j,μ):=W_some
theorem w_subI{Q:jz}:W (cM (.int i) (.int j) μ) Q↔Q (.int<|i-j,μ):=W_some
theorem iF{Q:jz}(h:0<j):W (bL (.int i) (.int j) μ) Q↔Q (.int<|i%j,μ):=by show W ((if 0<j then a7 (i%j)else b3).map λz=>(D.int z,μ)) Q↔_;rw[if_pos h];exact W_some
theorem UK:(1073741824:Int)<2^4000:=by decide +kernel
theorem UL{Q:jz}(h:0<j)(k:j<2^4000):W (dU (.int i) (.int j) μ) Q↔Q (.int<|i/j,μ):=by show W ((if 0<j/\j<2^4000 then a7 (i/j)else b3).map λz=>(D.int z,μ)) Q↔_;rw[if_pos ⟨h,k⟩];exact W_some
theorem Bq{Q:jz}(h:0<j)(k:j<1073741824):W (dU (.int i) (.int j) μ) Q↔Q (.int<|i/j,μ):=UL h<|Int.lt_trans k UK
theorem kJ{Q:jz}(h:(-(2^64)<i/\i<2^64)\/(-(2^64)<j/\j<2^64)):W (bO (.int i) (.int j) μ) Q↔Q (.int<|i*j,μ):=by show W ((if((-(2^64)<i/\i<2^64)\/(-(2^64)<j/\j<2^64))\/(i.natAbs<2^4000/\j.natAbs<2^4000)\/a0D i+a0D j<=134217728 then a7 (i*j)else b3).map λz=>(D.int z,μ)) Q↔_;rw[if_pos<|.inl h];exact W_some
theorem w_eqI{Q:jz}:W (aR b4 (.int i) (.int j) μ) Q↔Q (.bl<|i==j,μ):=W_some
theorem w_neI{Q:jz}:W (aR b5 (.int i) (.int j) μ) Q↔Q (.bl<|!(i==j),μ):=W_some
theorem w_neB{Q:jz}:W (aR b5 (.bl x) (.bl y) μ) Q↔Q (.bl<|!(x==y),μ):=W_some
theorem w_ltI{Q:jz}:W (jF (.int i) (.int j) μ) Q↔Q (.bl<|decide<|i<j,μ):=W_some
theorem UM{Q:jz}:W (pL (.int i) (.int j) μ) Q↔Q (.bl<|decide<|i<=j,μ):=W_some
theorem w_gtI{Q:jz}:W (lW (.int i) (.int j) μ) Q↔Q (.bl<|decide<|j<i,μ):=W_some
theorem w_it20{Q:jz}:W (aF (.tup [a,b]) (.int 0) μ) Q↔Q (a,μ):=W_some
theorem w_it21{Q:jz}:W (aF (.tup [a,b]) (.int 1) μ) Q↔Q (b,μ):=W_some
theorem G0{Q:jz}:W (aF (.tup [a,b,c,d,e,g]) (.int 0) μ) Q↔Q (a,μ):=W_some
theorem G3{Q:jz}:W (aF (.tup [a,b,c,d,e,g]) (.int 1) μ) Q↔Q (b,μ):=W_some
theorem G4{Q:jz}:W (aF (.tup [a,b,c,d,e,g]) (.int 2) μ) Q↔Q (c,μ):=W_some
theorem G5{Q:jz}:W (aF (.tup [a,b,c,d,e,g]) (.int 3) μ) Q↔Q (d,μ):=W_some
theorem UN{Q:jz}:W (aF (.tup [a,b,c,d,e,g]) (.int 4) μ) Q↔Q (e,μ):=W_some
theorem UO{Q:jz}:W (aF (.tup [a,b,c,d,e,g]) (.int 5) μ) Q↔Q (g,μ):=W_some
theorem w_truB:W (pV μ<|.bl b) Q↔Q b:=W_some
theorem cQ{Q:jz}(h:μ[a]?=a7 (.lst xs))(hi:atI xs i=a7 d):W (aF (.loc a) (.int i) μ) Q↔Q (d,μ):=by
 have:aF (.loc a) (.int i) μ=a7 (d,μ):=by simp only[aF,iK,bK,h,ZY,hi,Z4]
 rw[this];exact W_some
theorem w_iSeq:W (cX m a μ) Q↔W (m a μ) λp=>W (gJ p.2 p.1) λxs=>Q (cS p.1,xs.length+1,p.2):=by unfold cX;simp only[W_bind,jK]
theorem w_mForI{Q}:W (b7 c g b a μ) Q↔W (c a μ) λp=>W (eF p.1 g b p.2.1 0 a p.2.2) Q:=W_bind
theorem G6{j:Int}:W (nY ms c μ) Q↔W (ms c μ) fun p=>match p.1 with|[.int j]=>(-(2 ^ 62)<=j/\j<2 ^ 62)/\Q (iB 0 j.toNat,j.toNat+1,p.2)|_=>False:=by
 unfold nY
 rw [W_bind]
 constructor<;>exact fun h=>bG h fun p q=>by
  obtain ⟨l,μ⟩:=p
  match l,q with
  | [],q=>simpa [W_none] using q
  | [d],q=>
   cases d with
   | int j=>
    first
    | (dsimp only at q;rw [wC] at q;split at q
       .rename_i e;exact ⟨e,W_some.mp q⟩
       .exact (W_none.mp q).elim)
    | (dsimp only;rw [if_pos q.1];exact W_some.mpr q.2)
   | _=>simpa [W_none] using q
  | a::b::l,q=>simpa [W_none] using q
theorem w_iRng2:W (kZ ms a μ) Q↔W (ms a μ) fun p=>match p.1 with|[.int i,.int j]=>(-(2 ^ 62)<=i/\i<2 ^ 62/\-(2 ^ 62)<=j/\j<2 ^ 62)/\Q (iB i (j - i).toNat,(j - i).toNat+1,p.2)|_=>False:=by
 unfold kZ
 rw [W_bind]
 constructor<;>exact fun h=>bG h fun p q=>by
  split at q
  .rename_i e
   try rw [e]
   first
   | (rw [wC] at q;split at q
      .rename_i b;exact ⟨b,W_some.mp q⟩
      .exact (W_none.mp q).elim)
   | ((try dsimp only);rw [if_pos q.1];exact W_some.mpr q.2)
  .first
   | exact (W_none.mp q).elim
   | exact q.elim
theorem kK{e:fQ}{b:MS}(I:Nat->aI->Hm->Prop)(n:∀ i a μ,i<N->I i a μ->∃ d j,e μ i=a7 (a7 d)/\g d a μ=a7 j/\W (b j μ) fun p=>match p.1 with|.nx=>I (i+1) p.2.1 p.2.2|.ct=>I (i+1) p.2.1 p.2.2|.bk=>Q (.nx,p.2.1,p.2.2)|.rt d=>Q (.rt d,p.2.1,p.2.2))(c:∀ a μ,I N a μ->e μ N=a7 b3/\Q (.nx,a,μ)):∀m i a μ,i+m=N->I i a μ->W (eF e g b (m+1) i a μ) Q
 | 0,i,a,μ,h,hI=>by
  have:i=N:=by lia
  subst this
  obtain ⟨o,r⟩:=c a μ hI
  unfold eF
  rw [o]
  exact W_some.mpr r
 | m+1,i,a,μ,h,hI=>by
  obtain ⟨d,j,o,r,u⟩:=n i a μ (by lia) hI
  unfold eF
  rw [o]
  simp only [ZY,r]
  rw [W_bind]
  refine bG u fun p q=>?_
  obtain ⟨s,l,k⟩:=p
  cases s with
  | nx=>exact kK I n c m (i+1) l k (by lia) q
  | ct=>exact kK I n c m (i+1) l k (by lia) q
  | bk=>exact W_some.mpr q
  | rt d=>exact W_some.mpr q
theorem mS{b:MS}(I:Nat->aI->Hm->Prop)(n:I 0 c μ)(l:∀i c μ,I i c μ->μ[a]?=a7 (.lst xs))(m:∀i d c μ,xs[i]?=a7 d->I i c μ->∃h,g d c μ=a7 h/\W (b h μ) λp=>match p.1 with|.nx=>I (i+1) p.2.1 p.2.2|.ct=>I (i+1) p.2.1 p.2.2|.bk=>Q (.nx,p.2.1,p.2.2)|.rt d=>Q (.rt d,p.2.1,p.2.2))(k:∀c μ,I xs.length c μ->Q (.nx,c,μ)):W (eF (cS<|.loc a) g b (xs.length+1) 0 c μ) Q:=by
 refine kK (N:=xs.length) I (λi c μ hi j=>?_) (λc μ j=>⟨?_,k c μ j⟩) xs.length 0 c μ (by lia) n
 .have e:xs[i]?=a7 xs[i]:=ZT hi;obtain⟨h,o,q⟩:=m i xs[i] c μ e j;refine⟨xs[i],h,?_,o,q⟩;simp only[cS,gJ,bK,l i c μ j,Z4,e]
 .simp only[cS,gJ,bK,l _ c μ j,Z4];simp
theorem G7(k:∀μ,gJ μ x=a7 xs){b:MS}(I:Nat->aI->Hm->Prop)(m:I 0 a μ)(l:∀i d a μ,xs[i]?=a7 d->I i a μ->∃c,g d a μ=a7 c/\W (b c μ) λp=>match p.1 with|.nx=>I (i+1) p.2.1 p.2.2|.ct=>I (i+1) p.2.1 p.2.2|.bk=>Q (.nx,p.2.1,p.2.2)|.rt d=>Q (.rt d,p.2.1,p.2.2))(h:∀a μ,I xs.length a μ->Q (.nx,a,μ)):W (eF (cS x) g b (xs.length+1) 0 a μ) Q:=by
 refine kK (N:=xs.length) I (λi a μ hi j=>?_) (λa μ j=>⟨?_,h a μ j⟩) xs.length 0 a μ (by lia) m
 .have e:xs[i]?=a7 xs[i]:=ZT hi;obtain⟨c,n,o⟩:=l i xs[i] a μ e j;refine⟨xs[i],c,?_,n,o⟩;simp only[cS,k,Z4,e]
 .simp only[cS,k,Z4];simp
theorem wF{b:MS}(I:Nat->aI->Hm->Prop)(k:I 0 a μ)(j:∀i a μ,i<n->I i a μ->∃c,g (.int<|lo+i) a μ=a7 c/\W (b c μ) λp=>match p.1 with|.nx=>I (i+1) p.2.1 p.2.2|.ct=>I (i+1) p.2.1 p.2.2|.bk=>Q (.nx,p.2.1,p.2.2)|.rt d=>Q (.rt d,p.2.1,p.2.2))(e:∀a μ,I n a μ->Q (.nx,a,μ)):W (eF (iB lo n) g b (n+1) 0 a μ) Q:=by
 refine kK (N:=n) I (λi a μ hi h=>?_) (λa μ h=>⟨?_,e a μ h⟩) n 0 a μ (by lia) k
 .obtain⟨c,l,m⟩:=j i a μ hi h;exact⟨_,c,by simp only[iB,if_pos hi],l,m⟩
 .simp only[iB,a2p,if_false]
theorem Br(h:μ[a]?=a7 (.lst b))(c:b.length<ZX):pN μ a y=a7 (μ.set a<|.lst<|b++[y]):=by unfold pN;rw[h];exact if_pos c
theorem Bs{s:fQ}{μ0:Hm}{xs:List D}(w:∀μ i,μ0<+:μ->s μ i=a7 xs[i]?)(G:xs.length<=ZX)(hc:∀d μ,d∈xs->μ0<+:μ->W (c (E++[a7 d]) μ) λr=>r.1=p d/\μ<+:r.2)(x:∀d μ,d∈xs->p d=b5->μ0<+:μ->W (e (E++[a7 d]) μ) λr=>r.1=v d/\μ<+:r.2)(fin:∀μ,μ0<+:μ->μ[μ0.length]?=a7 (.lst<|(xs.filter p).map v)->Q μ):
  ∀m i(μ:Hm),i+m=xs.length->μ0<+:μ->μ[μ0.length]?=a7 (.lst<|((xs.take i).filter p).map v)->W (iL s pO c e E μ0.length (m+1) i μ) Q
 |0,i,μ,hi,hp,ha=>by
  have:i=xs.length:=by lia
  subst this;unfold iL;rw[w μ _ hp];rw[a1H<|ZN _];simp only[ZY];refine W_some.mpr<|fin μ hp ?_;simpa using ha
 |m+1,i,μ,hi,hp,ha=>by
  have n:i<xs.length:=by lia
  have H:xs[i]?=a7 xs[i]:=ZT n;have g:xs[i]∈xs:=a2L n;unfold iL;rw[w μ _ hp,H];simp only[ZY,pO];rw[W_bind];refine bG (hc _ μ g hp) λr q=>?_;obtain⟨b,u⟩:=r;obtain⟨I,o⟩:=q;dsimp only at I o ⊢;subst I;have a:xs.take (i+1)=xs.take i++[xs[i]]:=by rw[a9G,H];rfl
  have j:=aG o ha;cases h:p xs[i]with
  |false=>refine Bs w G hc x fin m (i+1) u (by lia) (hp.trans o) ?_;rw[j,a,a0Y];simp[h]|true=>
   dsimp only;rw[W_bind];refine bG (x _ u g h<|hp.trans o) λr q=>?_;obtain⟨y,B⟩:=r;obtain⟨J,A⟩:=q;dsimp only at J A ⊢;subst J;have k:=aG A j;have l:(((xs.take i).filter p).map v).length<ZX:=by have K:=a0G p<|xs.take i;rw[ZF];rw[a0Q]at K;lia
   rw[Br k l,ZY];have z:μ0<+:B:=(hp.trans o).trans A;refine Bs w G hc x fin m (i+1) _ (by lia) (fL z (ZN _) _) ?_;rw[a0t (ZG.mp k).1,a,a0Y];simp[h]
theorem jL{xs:List D}{Q:jz}(hit:W (u b μ) λr=>(∀a i,r.2.2<+:a->r.1 a i=a7 xs[i]?)/\r.2.1=xs.length+1/\xs.length<=ZX /\
   (∀d a,d∈xs->r.2.2<+:a->W (c (b++[a7 d]) a) λs=>s.1=p d/\a<+:s.2)/\(∀d a,d∈xs->p d=b5->r.2.2<+:a->W (e (b++[a7 d]) a) λs=>s.1=v d/\a<+:s.2) /\
   ∀a,r.2.2<+:a->a[r.2.2.length]?=a7 (.lst<|(xs.filter p).map v)->Q (.loc r.2.2.length,a)):W (d8 u c e b μ) Q:=by
 unfold d8 iM;rw[W_bind];refine bG hit λr q=>?_;obtain⟨w,n,g⟩:=r;obtain⟨h,j,k,l,m,o⟩:=q;dsimp only at h j k l m o ⊢;subst j;rw[jK];exact Bs h k l m o xs.length 0 (g++[.lst []]) (by lia) (aT _ _)<|by simp
theorem mT{μ:Hm}(h:μ[a]?=a7 (.lst xs)):∀μ' i,μ<+:μ'->cS (.loc a) μ' i=a7 xs[i]?:=λμ' i b=>by simp only[cS,gJ,bK,aG b h,Z4]
theorem wG{μ:Hm}:∀μ' i,μ<+:μ'->cS (.tup xs) μ' i=a7 xs[i]?:=λμ' i a=>rfl
noncomputable def lJ(lo:Int)(n:Nat):List D:=(a0L n).map λ(i:Nat)=>.int<|lo+(i:Int)
theorem UP{μ:Hm}:∀μ' i,μ<+:μ'->iB lo n μ' i=a7 (lJ lo n)[i]?:=λμ' i _=>by
 unfold iB lJ;rw[ZU];by_cases h:i<n
 .rw[if_pos h,List.getElem?_range h];rfl
 .rw[if_neg h,a1H<|by simpa using a2F.mp h];rfl
noncomputable abbrev P(x y:Int):D:=.tup [.int x,.int y]
noncomputable abbrev PP(p:Int×Int):D:=P p.1 p.2
theorem G8 n μ p q:c5 (n+2) μ (PP p) (PP q)=a7 (p==q):=by obtain⟨a,b⟩:=p;obtain⟨c,d⟩:=q;show a7 (a==c&&(b==d&&b5))=a7 ((a,b)==(c,d));rw[a7m];rfl
theorem G9 n μ:∀ps qs:jq,hW (jT (n+2) μ) (ps.map PP) (qs.map PP)=a7 (ps==qs)
 |[],[]=>rfl|[],_::_=>rfl|_::_,[]=>rfl|p::ps,q::qs=>by rw[ZR,ZR];show(c5 (n+2) μ (PP p)<|PP q).bind (λb=>(hW (jT (n+2) μ) (ps.map PP)<|qs.map PP).map λc=>b&&c)=_;rw[G8,G9 n μ ps qs];rfl
theorem UQ{ps:jq}(e:μ[a]?=a7 (.lst<|ps.map PP))(g:μ[b]?=a7 (.lst<|qs.map PP)):c5 8 μ (.loc a) (.loc b)=a7 (ps==qs):=by
 have c:dZ μ (.loc a)=a7 (.lst<|ps.map PP):=by simp only[dZ,e]
 have d:dZ μ (.loc b)=a7 (.lst<|qs.map PP):=by simp only[dZ,g]
 show(dZ μ<|.loc a).bind (λx=>(dZ μ<|.loc b).bind λy=>nU (jT 7 μ) x y)=_;rw[c,d];exact G9 5 μ ps qs
theorem Bt{ps:jq}{Q:jz}(c:μ[a]?=a7 (.lst<|ps.map PP))(d:μ[b]?=a7 (.lst<|qs.map PP)):W (aR ne (.loc a) (.loc b) μ) Q↔Q (.bl<|if ne then !(ps==qs)else ps==qs,μ):=by unfold aR;rw[UQ c d];exact W_some
theorem Ha n μ:∀ps qs:List Int,hW (jT (n+1) μ) (ps.map D.int) (qs.map D.int)=a7 (ps==qs)
 |[],[]=>rfl|[],_::_=>rfl|_::_,[]=>rfl|p::ps,q::qs=>by rw[ZR,ZR];show(c5 (n+1) μ (.int p)<|.int q).bind (λb=>(hW (jT (n+1) μ) (ps.map D.int)<|qs.map D.int).map λc=>b&&c)=_;rw[Ha n μ ps qs];rfl
theorem Bu{Q:jz}(d:μ[a]?=a7 (.lst xs))(e:μ[b]?=a7 (.lst c))(g:xs.length+c.length<=ZX):W (bP (.loc a) (.loc b) μ) Q↔Q (.loc μ.length,μ++[.lst<|xs++c]):=by simp only[bP,d,e,if_pos g];exact W_some
theorem mU{Q:jz}(h:W (b a μ) λp=>l7 p.2 p.1=b5/\W (ms a p.2) λq=>W (f p.1 q.1 q.2) Q):W (f7 f b ms a μ) Q:=by unfold f7;rw[W_bind];refine bG h λp q=>?_;rw[q.1];exact W_bind.mpr q.2
theorem oR(h:μ[a]?=a7 (.lst xs)):l7 μ (.loc a)=true:=by simp only[l7,h]
theorem qM{Q:jz}(h:μ[a]?=a7 (.lst xs))(b:xs.length<ZX):W (gM (.loc a) [y] μ) Q↔Q (.non,μ.set a<|.lst<|xs++[y]):=by simp only[gM,Br h b,Z4];exact W_some
theorem Hb{Q:jz}(h:μ[a]?=a7 (.lst xs))(d:μ[b]?=a7 (.lst c))(e:xs.length+c.length<=ZX):W (n8 (.loc a) [.loc b] μ) Q↔Q (.non,μ.set a<|.lst<|xs++c):=by simp only[n8,h,d,if_pos e];exact W_some
theorem UR{Q:jz}:W (nV [.int i,.ty "bool"] μ) Q↔Q (.bl b4,μ):=W_some
theorem US{Q:jz}:W (nV [.int i,.ty "int"] μ) Q↔Q (.bl b5,μ):=W_some
theorem qN{Q:jz}(h:μ[a]?=a7 (.lst xs)):W (eM [.loc a] μ) Q↔Q (.int xs.length,μ):=by simp only[eM,rR,bK,h,Z4];exact W_some
theorem w_lenR{Q:jz}:W (eM [.rol xs] μ) Q↔Q (.int xs.length,μ):=W_some
theorem fS(h:μ[a]?=a7 (.lst xs)):W (gJ μ<|.loc a) Q↔Q xs:=by simp only[gJ,bK,h];exact W_some
theorem w_seqT:W (gJ μ<|.tup xs) Q↔Q xs:=W_some
theorem bM(μ:Hm)c:(μ++[c])[μ.length]?=a7 c:=by simp
theorem w_mChain{Q}:W (k6 f g a b c e μ) Q↔W (a e μ) λp=>W (b e p.2) λq=>W (f p.1 q.1 q.2) λr=>match r.1 with|.bl k=>if k=b5 then W (c e r.2) λt=>W (g q.1 t.1 t.2) Q else Q (.bl b4,r.2)|_=>False:=by
 unfold k6;simp only[W_bind];constructor<;>exact λh=>bG h λp q=>bG q λl j=>bG j λr i=>by
  obtain⟨d,μ⟩:=r;cases d with
  |bl k=>cases k<;>simpa[W_some,W_bind]using i|_=>simpa[W_none]using i
theorem w_isNN{Q:jz}:W (fK b4 .non .non μ) Q↔Q (.bl b5,μ):=W_some
theorem w_isnotNN{Q:jz}:W (fK b5 .non .non μ) Q↔Q (.bl b4,μ):=W_some
theorem w_isLN{Q:jz}:W (fK b4 (.loc a) .non μ) Q↔Q (.bl b4,μ):=W_some
theorem w_isnotTN{Q:jz}:W (fK b5 (.tup xs) .non μ) Q↔Q (.bl b5,μ):=W_some
theorem w_min{Q:jz}:W (Ap [.int i,.int j] μ) Q↔Q (.int<|min i j,μ):=by
 have:(if j<i then j else i)=min i j:=by split<;>lia
 show W (a7 (D.int<|if j<i then j else i,μ)) Q↔_;rw[this];exact W_some
theorem w_max{Q:jz}:W (Ao [.int i,.int j] μ) Q↔Q (.int<|max i j,μ):=by
 have:(if j>i then j else i)=max i j:=by split<;>lia
 show W (a7 (D.int<|if j>i then j else i,μ)) Q↔_;rw[this];exact W_some
theorem Hc:∀is,n6 (is.map D.int)=a7 is
 |[]=>rfl|i::is=>by show(n6<|is.map D.int).map (i::·)=_;rw[Hc is];rfl
theorem UT{Q:jz}{bs:List Bool}(h:μ[a]?=a7 (.lst<|bs.map D.bl)):W (u9 [.loc a] μ) Q↔Q (.bl<|bs.all id,μ):=by
 have e:∀bs:List Bool,pW (bs.map D.bl)=a7 bs:=λbs=>by
  induction bs with
  |nil=>rfl|cons b bs c=>show(pW<|bs.map D.bl).map (b::·)=_;rw[c];rfl
 simp only[u9,bK,h,ZY,e,Z4];exact W_some
theorem UU{Q:jz}(h:W (a b μ) λp=>∃l,p.1=.loc l/\W (lo b p.2) λq=>W (hi b q.2) λr=>W (st b r.2) λt=>t.1≠a7 0/\∃xs,t.2[l]?=a7 (.lst xs)/\(eI xs q.1 r.1 t.1).length<=ZX/\Q (.loc t.2.length,t.2++[.lst<|eI xs q.1 r.1 t.1])):W (qA a lo hi st b μ) Q:=by unfold qA;rw[W_bind];refine bG h λp q=>?_;obtain⟨d,m⟩:=p;obtain⟨l,c,e⟩:=q;dsimp only at c e ⊢;subst c;rw[W_bind];refine bG e λs q=>?_;rw[W_bind];refine bG q λr q=>?_;rw[W_bind];refine bG q λt q=>?_;obtain⟨g,xs,i,j,k⟩:=q;rw[if_pos g];simp only[eH,i,ZY];rw[if_pos j];exact W_some.mpr k
theorem Bv(h:W (ms e μ) λp=>∃a xs,p.1=[.loc a]/\p.2[a]?=a7 (.lst xs)/\Q (mG<|.loc a,xs.length+1,p.2)):W (oE ms e μ) Q:=by unfold oE;rw[W_bind];refine bG h λp q=>?_;obtain⟨l,g⟩:=p;obtain⟨a,xs,b,c,d⟩:=q;dsimp only at b c d ⊢;subst b;dsimp only;simp only[eH,c,Z4];exact W_some.mpr d
theorem Bw{b:MS}(I:Nat->aI->Hm->Prop)(n:I 0 c μ)(l:∀i c μ,I i c μ->μ[a]?=a7 (.lst xs))(m:∀i d c μ,xs[i]?=a7 d->I i c μ->∃h,g (.tup [.int i,d]) c μ=a7 h/\W (b h μ) λp=>match p.1 with|.nx=>I (i+1) p.2.1 p.2.2|.ct=>I (i+1) p.2.1 p.2.2|.bk=>Q (.nx,p.2.1,p.2.2)|.rt d=>Q (.rt d,p.2.1,p.2.2))(k:∀c μ,I xs.length c μ->Q (.nx,c,μ)):W (eF (mG<|.loc a) g b (xs.length+1) 0 c μ) Q:=by
 refine kK (N:=xs.length) I (λi c μ hi j=>?_) (λc μ j=>⟨?_,k c μ j⟩) xs.length 0 c μ (by lia) n
 .have e:xs[i]?=a7 xs[i]:=ZT hi;obtain⟨h,o,q⟩:=m i xs[i] c μ e j;refine⟨_,h,?_,o,q⟩;simp only[mG,bK,l i c μ j,Z4,e]
 .simp only[mG,bK,l _ c μ j,Z4];simp
theorem wH{l:fQ}(I:Nat->List D->Hm->Prop)(B:N<=ZX)(j:∀i g μ,I i g μ->g.length<=i)(p:∀i g μ,i<N->I i g μ->μ[a]?=a7 (.lst g)->∃d x,l μ i=a7 (a7 d)/\A d μ=a7 x/\W (c (z++x) μ) λr=>(r.1=b4->r.2[a]?=a7 (.lst g)/\I (i+1) g r.2) /\
   (r.1=b5->W (e (z++x) r.2) λs=>s.2[a]?=a7 (.lst g)/\I (i+1) (g++[s.1]) (s.2.set a<|.lst<|g++[s.1])))(k:∀g μ,I N g μ->μ[a]?=a7 (.lst g)->l μ N=a7 b3/\Q μ):∀m i g μ,i+m=N->I i g μ->μ[a]?=a7 (.lst g)->W (iL l A c e z a (m+1) i μ) Q
 |0,i,g,μ,h,hI,hg=>by
  have:i=N:=by lia
  subst this;obtain⟨u,v⟩:=k g μ hI hg;unfold iL;rw[u];exact W_some.mpr v
 |m+1,i,g,μ,h,hI,hg=>by
  obtain⟨d,x,u,v,E⟩:=p i g μ (by lia) hI hg;unfold iL;rw[u];simp only[ZY,v];rw[W_bind];refine bG E λr q=>?_;obtain⟨b,w⟩:=r;cases b with
  |false=>obtain⟨n,o⟩:=q.1 rfl;exact wH I B j p k m (i+1) g w (by lia) o n|true=>dsimp only;rw[W_bind];refine bG (q.2 rfl) λs q=>?_;obtain⟨y,G⟩:=s;obtain⟨n,o⟩:=q;dsimp only at n o ⊢;have H:=j i g μ hI;rw[Br n<|by lia,ZY];refine wH I B j p k m (i+1) _ _ (by lia) o ?_;rw[a0t (ZG.mp n).1]
theorem UW{Q:jz}(hit:W (u b μ) λr=>∃(N:Nat)(I:Nat->List D->Hm->Prop),r.2.1=N+1/\N<=ZX/\(∀i a μ,I i a μ->a.length<=i)/\I 0 [] (r.2.2++[.lst []]) /\
   (∀i a μ,i<N->I i a μ->μ[r.2.2.length]?=a7 (.lst a)->∃d x,r.1 μ i=a7 (a7 d)/\g d μ=a7 x/\W (c (b++x) μ) λp=>(p.1=b4->p.2[r.2.2.length]?=a7 (.lst a)/\I (i+1) a p.2) /\
    (p.1=b5->W (e (b++x) p.2) λs=>s.2[r.2.2.length]?=a7 (.lst a)/\I (i+1) (a++[s.1]) (s.2.set r.2.2.length<|.lst<|a++[s.1]))) /\
   (∀a μ,I N a μ->μ[r.2.2.length]?=a7 (.lst a)->r.1 μ N=a7 b3/\Q (.loc r.2.2.length,μ))):W (iM g u c e b μ) Q:=by
 unfold iM;rw[W_bind];refine bG hit λr q=>?_;obtain⟨v,n,w⟩:=r;obtain⟨N,I,h,j,k,l,m,o⟩:=q;dsimp only at h j k l m o ⊢;subst h;rw[jK];exact wH I j k m o N 0 [] _ (by lia) l<|by simp
theorem UX{n:fQ}{μ0:Hm}{xs:List D}{x:D->aI}(B:∀μ i,μ0<+:μ->n μ i=a7 xs[i]?)(J:xs.length<=ZX)(H:∀d μ,d∈xs->A d μ=a7 (x d))(hc:∀d μ,d∈xs->μ0<+:μ->W (c (z++x d) μ) λr=>r.1=p d/\μ<+:r.2)(I:∀d μ,d∈xs->p d=b5->μ0<+:μ->W (e (z++x d) μ) λr=>r.1=v d/\μ<+:r.2)(fin:∀μ,μ0<+:μ->μ[μ0.length]?=a7 (.lst<|(xs.filter p).map v)->Q μ):W (iL n A c e z μ0.length (xs.length+1) 0<|μ0++[.lst []]) Q:=by
 refine wH (N:=xs.length) (λi o μ=>o=((xs.take i).filter p).map v/\μ0<+:μ) J ?_ ?_ ?_ xs.length 0 [] _ (by lia) ⟨by simp,aT _ _⟩<|by simp
 .rintro i o μ ⟨rfl,_⟩;rw[ZF];refine a0A (a0G _ _) ?_;rw[a0Q];lia
 .rintro i o μ hi ⟨rfl,h⟩ m;have E:xs[i]?=a7 xs[i]:=ZT hi;have a:xs[i]∈xs:=a2L hi;have g:xs.take (i+1)=xs.take i++[xs[i]]:=by rw[a9G,E];rfl
  refine⟨xs[i],x xs[i],by rw[B μ i h,E],H _ _ a,bG (hc _ μ a h) λr q=>?_⟩;obtain⟨b,w⟩:=r;obtain⟨k,l⟩:=q;dsimp only at k l ⊢;refine⟨λj=>⟨aG l m,?_,h.trans l⟩,λj=>?_⟩
  .rw[g,a0Y];rw[j]at k;simp[<- k]
  .rw[j]at k;refine bG (I _ w a k.symm<|h.trans l) λs q=>?_;obtain⟨y,K⟩:=s;obtain⟨G,u⟩:=q;dsimp only at G u ⊢;subst G;refine⟨aG (l.trans u) m,?_,fL ((h.trans l).trans u) (ZN _) _⟩;rw[g,a0Y,Z7];simp[<- k]
 .rintro o μ ⟨rfl,h⟩ m;refine⟨by rw[B μ _ h];simp,fin μ h ?_⟩;rw[a0V]at m;exact m
theorem UY{xs:List D}{x:D->aI}{Q:jz}(hit:W (w b μ) λr=>(∀a i,r.2.2<+:a->r.1 a i=a7 xs[i]?)/\r.2.1=xs.length+1/\xs.length<=ZX/\(∀d a,d∈xs->g d a=a7 (x d)) /\
   (∀d a,d∈xs->r.2.2<+:a->W (c (b++x d) a) λs=>s.1=p d/\a<+:s.2)/\(∀d a,d∈xs->p d=b5->r.2.2<+:a->W (e (b++x d) a) λs=>s.1=v d/\a<+:s.2) /\
   ∀a,r.2.2<+:a->a[r.2.2.length]?=a7 (.lst<|(xs.filter p).map v)->Q (.loc r.2.2.length,a)):W (iM g w c e b μ) Q:=by
 unfold iM;rw[W_bind];refine bG hit λr q=>?_;obtain⟨y,n,z⟩:=r;obtain⟨h,j,k,l,m,o,u⟩:=q;dsimp only at h j k l m o u ⊢;subst j;rw[jK];exact UX h k l m o u
theorem w_mTrue:W (f6 a μ) Q↔Q (b5,μ):=W_some
theorem w_mPut{Q}:W (dB o i v a μ) Q↔W (v a μ) λp=>W (o a p.2) λq=>W (i a q.2) λr=>W (k8 q.1 r.1 p.1 r.2) λμ'=>Q (.nx,a,μ'):=by unfold dB Al;simp only[W_bind,jK]
theorem UZ(h:W (ms d μ) λp=>∃a b xs c,p.1=[.loc a,.loc b]/\p.2[a]?=a7 (.lst xs)/\p.2[b]?=a7 (.lst c)/\Q (oH (.loc a)<|.loc b,min xs.length c.length+1,p.2)):W (sF ms d μ) Q:=by unfold sF;rw[W_bind];refine bG h λp q=>?_;obtain⟨a,b,xs,c,e,g,i,q⟩:=q;rw[e];simp only[eH,g,i,ZY,Z4];exact W_some.mpr q
theorem Hd{Q:jz}(h:μ[a]?=a7 (.lst xs)):W (oM [.loc a] μ) Q↔Q (.tup xs,μ):=by simp only[oM,bK,h,Z4];exact W_some
theorem w_mDNewT{Q:jz}:W (gA ρ μ) Q↔Q (.loc μ.length,μ++[.dT []]):=W_some
theorem He{kvs:jx}{Q:jz}(h:μ[a]?=a7 (.dT kvs))(b:dN y=a7 k)(c:b8 kvs k=a7 d):W (aF (.loc a) y μ) Q↔Q (d,μ):=by simp only[aF,h,b,ZY,c,Z4];exact W_some
theorem Hf{kvs:jx}{Q:jz}(h:μ[a]?=a7 (.dT kvs))(c:dN y=a7 k):W (cY b y (.loc a) μ) Q↔Q (.bl<|if b then !(b8 kvs k).isSome else(b8 kvs k).isSome,μ):=by
 have:cY b y (.loc a) μ=a7 (.bl<|if b then !(b8 kvs k).isSome else(b8 kvs k).isSome,μ):=by simp only[cY,h,c,Z4]
 rw[this];exact W_some
theorem mV(h:μ[a]?=a7 (.dT kvs))(b:dN y=a7 k)(c:kvs.length<ZX):W (k8 (.loc a) y d μ) Q↔Q (μ.set a<|.dT<|dW kvs k d):=by simp only[k8,r6,h,b,ZY,if_pos c];exact W_some
theorem Bx{kvs:jx}{Q:jz}(h:μ[a]?=a7 (.dT kvs)):W (eM [.loc a] μ) Q↔Q (.int kvs.length,μ):=by simp only[eM,h];exact W_some
theorem Hg{kvs:jx}{Q:jz}(h:μ[a]?=a7 (.dT kvs)):W (gC [.loc a] μ) Q↔Q (.loc μ.length,μ++[.lst<|kvs.map λk=>D.tup<|k.1.map D.int]):=by simp only[gC,h];exact W_some
theorem By{Q:jz}(h:μ[a]?=a7 (.lst xs)):W (gC [.loc a] μ) Q↔Q (.loc μ.length,μ++[.lst xs]):=by simp only[gC,h,rS,bK,Z4];exact W_some
theorem Hh{Q:jz}(h:μ[a]?=a7 (.lst<|is.map D.int))(b:is.length<64):W (jW [.loc a] μ) Q↔Q (.loc μ.length,μ++[.lst<|(gO is).map D.int]):=by
 have:oF [.loc a] μ=a7 (.loc μ.length,μ++[.lst<|(gO is).map D.int]):=by simp only[oF,eH,h,ZY,Hc];rw[if_pos b]
 simp only[jW,this];exact W_some
theorem Hi{Q:jz}(h:μ[a]?=a7 (.lst xs)):W (k9 [.loc a] μ) Q↔Q (.loc μ.length,μ++[.lst xs.reverse]):=by simp only[k9,h];exact W_some
theorem U0(h:W (ms a μ) λp=>∃i j c,p.1=[.int i,.int j,.int c]/\r8 i j c=b5/\Q (qB i c (a0O i j c).toNat,(a0O i j c).toNat+1,p.2)):W (r9 ms a μ) Q:=by unfold r9;rw[W_bind];refine bG h λp q=>?_;obtain⟨i,j,c,b,d,e⟩:=q;rw[b];dsimp only;rw[if_pos d];exact W_some.mpr e
theorem U1{b:MS}(I:Nat->aI->Hm->Prop)(l:I 0 a μ)(k:∀i a μ,i<n->I i a μ->∃e,g (.int<|lo+(i:Nat)*c) a μ=a7 e/\W (b e μ) λp=>match p.1 with|.nx=>I (i+1) p.2.1 p.2.2|.ct=>I (i+1) p.2.1 p.2.2|.bk=>Q (.nx,p.2.1,p.2.2)|.rt d=>Q (.rt d,p.2.1,p.2.2))(h:∀a μ,I n a μ->Q (.nx,a,μ)):W (eF (qB lo c n) g b (n+1) 0 a μ) Q:=by
 refine kK (N:=n) I (λi a μ hi j=>?_) (λa μ j=>⟨?_,h a μ j⟩) n 0 a μ (by lia) l
 .obtain⟨e,m,o⟩:=k i a μ hi j;refine⟨_,e,?_,m,o⟩;simp only[qB,hi,if_true]
 .simp[qB]
end L3
namespace Lw
open PySem L2 L3
noncomputable def ds:List (Str×Stmt):=(("is_whole",aK 6)::("is_edge",aK 7)::("is_quarter",aK 8)::("line_of",aK 9)::("beside",aK 10)::("sides_of",aK 11)::("number_by",aK 12)::("hand_of",aK 13)::("mirrored",aK 14)::("laying_by",aK 17)::("mirror_in",aK 18)::("led",aK 19)::("then",aK 20)::("is_turned",aK 21)::("is_size",aK 23)::("check_size",aK 24)::("places_within",aK 25)::("quarters_in",aK 26)::("edges_in",aK 27)::("stacks",aK 29)::("edges_laid",aK 30)::("are_piles",aK 32)::("heights_in",aK 33)::("quarters_at",aK 34)::("joined_at",aK 35)::("count_between",aK 36)::("is_above",aK 37)::("crosses",aK 38)::("crossing_at",aK 39)::("crossing",aK 40)::("turned_first",aK 41)::("mark_by_heights",aK 42)::("marks_by",aK 43)::("copied_piles",aK 45)::("folded_layings",aK 46)::("folded_piles",aK 47)::("check_fold",aK 48)::("creased_edges",aK 49)::("unfolded",aK 50)::("_law_cell",aK 53)::("_law_quarters",aK 54)::("_law_inner",aK 55)::("_law_beside",aK 56)::("_law_led",aK 57)::("_law_over",aK 58)::("_law_value",aK 59)::("_law_begun",aK 60)::("_law_folded",aK 61)::("_law_plan",aK 62)::("_law_go",aK 63)::("_law_spots",aK 64)::("_law_amid",aK 65)::("_law_cross",aK 66)::("law",aK 67)::[])
noncomputable def Bz:D:=(.tup [(.int 1),(.int 0),(.int 0),(.int 1),(.int 0),(.int 0)])
noncomputable def S:Sig:={fn:=(("is_whole",1)::("is_edge",1)::("is_quarter",1)::("line_of",1)::("beside",1)::("sides_of",1)::("number_by",2)::("hand_of",2)::("mirrored",2)::("laying_by",3)::("mirror_in",1)::("led",2)::("then",2)::("is_turned",1)::("is_size",1)::("check_size",2)::("places_within",2)::("quarters_in",2)::("edges_in",2)::("stacks",1)::("edges_laid",2)::("are_piles",2)::("heights_in",1)::("quarters_at",3)::("joined_at",3)::("count_between",3)::("is_above",3)::("crosses",3)::("crossing_at",4)::("crossing",3)::("turned_first",2)::("mark_by_heights",3)::("marks_by",3)::("copied_piles",1)::("folded_layings",3)::("folded_piles",4)::("check_fold",2)::("creased_edges",3)::("unfolded",2)::("_law_cell",2)::("_law_quarters",2)::("_law_inner",2)::("_law_beside",1)::("_law_led",2)::("_law_over",2)::("_law_value",2)::("_law_begun",2)::("_law_folded",4)::("_law_plan",3)::("_law_go",3)::("_law_spots",2)::("_law_amid",3)::("_law_cross",3)::("law",1)::[]),con:=[("STILL",Bz)],tab:=[],no:=["all","bool","dict","enumerate","int","isinstance","len","list","max","min","range","reversed","sorted","tuple","zip"],dIt:=["piles","layings","_law_state","_law_piles","expected"],dEq:=[],dMe:=["layings","piles","expected","_law_spots_here","[]"],ob:=[("wide","Folding"),("high","Folding"),("states","Folding")],mt:=[("fold","Folding","Folding.fold",3),("layings","Folding","Folding.layings",0),("piles","Folding","Folding.piles",0),("sheet","Folding","Folding.sheet",0)],mc:=[("Folding","Folding.__init__",2)],ms:=[("Folding.__init__",fA 51 0),("Folding.fold",fA 51 1),("Folding.layings",fA 51 4),("Folding.piles",fA 51 5),("Folding.sheet",fA 51 6)]}
@[irreducible] noncomputable def f(k:Nat)(x:Str):MF:=gQ S ds k x
noncomputable def BA(k:Nat):MS:=aJ (aO 7<|aB (aR b4) (aH (f k "hand_of")<|aC (aH (f k "led")<|aC (aA 6)<|aC (aA 5) aD)<|aC (aA 1) aD)<|aA 2)<|dB (aA 4) (aA 5)<|i9 (dQ<|aA 7) (aH (f k "then")<|aC (aA 6)<|aC (aA 3) aD)<|aA 6
noncomputable def Hj(k:Nat):MS:=aJ (aO 7<|aH (f k "mirrored")<|aC (aA 5)<|aC (aA 1) aD)<|aJ (aO 8<|aH k9<|aC (aA 6) aD)<|aJ (aO 9<|iE fR (aA 4)<|aC (aA 7)<|aC (cJ aD) aD)<|dB (aA 4) (aA 7)<|i9 (dQ<|aA 3) (aB bP (aA 9)<|aA 8)<|aB bP (aA 8)<|aA 9
noncomputable def BB(k:Nat):MS:=aJ (aO 9<|aH (f k "_law_led")<|aC (aH (f k "_law_over")<|aC (bH<|aC (mC<|.int 1)<|aC (mC<|.int 0)<|aC (mC<|.int 0)<|aC (mC<|.int 1)<|aC (mC<|.int 0)<|aC (mC<|.int 0) aD)<|aC (aA 1) aD)<|aC (aA 5) aD)<|aJ (aO 10<|qA (aB aF (aB aF (aA 0)<|mC<|.int 1)<|aA 5) nT nT<|rQ<|dP<|mC<|.int 1)<|bE (dQ<|aA 3) (dB (aA 8) (aA 9)<|aB bP (iE fR (aA 8)<|aC (aA 9)<|aC (cJ aD) aD)<|aA 10)<|dB (aA 8) (aA 9)<|aB bP (aA 10)<|iE fR (aA 8)<|aC (aA 9)<|aC (cJ aD) aD
noncomputable def Hk(k:Nat):MS:=aS<|i9 (dQ<|aH (f k "is_above")<|aC (aA 0)<|aC (aB aF (aA 3)<|mC<|.int 0)<|aC (aB aF (aA 3)<|mC<|.int 1) aD) (mC<|.str "v")<|mC<|.str "h"
noncomputable def Hl(k:Nat):MS:=aJ (bE (aU<|aB (aR b4) (aH eM<|aC (aA 3) aD)<|mC<|.int 2) (aS<|aB (aR b4) (aH (f k "count_between")<|aC (aA 0)<|aC (aA 3)<|aC (aA 4) aD)<|mC<|.int 1) bI)<|bE (aU<|aB (aR b4) (aH eM<|aC (aA 4) aD)<|mC<|.int 2) (aS<|aB (aR b4) (aH (f k "count_between")<|aC (aA 0)<|aC (aA 4)<|aC (aA 3) aD)<|mC<|.int 1) bI
noncomputable def Hn(k:Nat):MS:=bE (dQ<|aH (f k "crosses")<|aC (aA 0)<|aC (aB aF (aA 5)<|aA 7)<|aC (aB aF (aA 5)<|aA 8) aD) (eE<|f7 gM (aA 6)<|aC (bH<|aC (aA 4)<|aC (aB aF (aA 3)<|aA 8) aD) aD) bI
noncomputable def Ho(k:Nat):MS:=aJ (aO 6<|aB aF (aB aF (aA 0)<|aB aF (aA 1)<|mC<|.int 0)<|mC<|.int 0)<|aJ (aO 7<|d8 (cX<|aA 2) (aU<|aB (aR b4) (aB aF (aB aF (aA 0)<|aA 8)<|mC<|.int 0)<|aA 6)<|aA 8)<|aJ (bE (fJ (dQ<|aA 3)<|dQ<|aA 4) (aS<|aH (f k "_law_amid")<|aC (aA 0)<|aC (aB aF (aA 7)<|mC<|.int 0)<|aC (aA 1) aD) bI)<|aS<|i8 (aB (aR b5) (aA 7)<|cJ aD)<|aB (aR b5) (aH (f k "_law_amid")<|aC (aA 0)<|aC (aB aF (aA 7)<|mC<|.int 0)<|aC (aA 1) aD)<|aH (f k "_law_amid")<|aC (aA 0)<|aC (aB aF (aA 7)<|mC<|.int 1)<|aC (aA 1) aD
theorem U2 k a μ:f (k+1) "is_whole" [a] μ=fin ((aS<|i8 (aH nV<|aC (aA 0)<|aC (mC<|.ty "int") aD)<|pH<|aH nV<|aC (aA 0)<|aC (mC<|.ty "bool") aD) [a7 a] μ):=by kernel_rfl
theorem U3 k a μ:f (k+1) "is_edge" [a] μ=fin ((aJ (bE (aU<|aB (aR b4) (aB bL (aB aF (aA 0)<|mC<|.int 0)<|mC<|.int 2)<|mC<|.int 1) (aS<|aB (aR b4) (aB bL (aB aF (aA 0)<|mC<|.int 1)<|mC<|.int 2)<|mC<|.int 1) bI)<|aS<|i8 (aB (aR b4) (aB bL (aB aF (aA 0)<|mC<|.int 1)<|mC<|.int 2)<|mC<|.int 0)<|aB (aR b5) (aB bL (aB aF (aA 0)<|mC<|.int 0)<|mC<|.int 4)<|aB bL (aB aF (aA 0)<|mC<|.int 1)<|mC<|.int 4) [a7 a] μ):=by kernel_rfl
theorem U4 k a μ:f (k+1) "is_quarter" [a] μ=fin ((aJ (bE (aU<|aB (aR b4) (aB bL (aB aF (aA 0)<|mC<|.int 0)<|mC<|.int 2)<|mC<|.int 1) (aS<|aB (aR b4) (aB bL (aB aF (aA 0)<|mC<|.int 1)<|mC<|.int 4)<|mC<|.int 2) bI)<|aS<|i8 (aB (aR b4) (aB bL (aB aF (aA 0)<|mC<|.int 0)<|mC<|.int 4)<|mC<|.int 2)<|aB (aR b4) (aB bL (aB aF (aA 0)<|mC<|.int 1)<|mC<|.int 2)<|mC<|.int 1) [a7 a] μ):=by kernel_rfl
theorem U5 k a μ:f (k+1) "line_of" [a] μ=fin ((aJ (bE (aU<|aB (aR b4) (aB bL (aB aF (aA 0)<|mC<|.int 0)<|mC<|.int 2)<|mC<|.int 1) (aS<|i9 (aU<|aB (aR b4) (aB bL (aB aF (aA 0)<|mC<|.int 0)<|mC<|.int 4)<|aB bL (aB aF (aA 0)<|mC<|.int 1)<|mC<|.int 4) (mC<|.str "falling")<|mC<|.str "rising") bI)<|aS<|i9 (aU<|aB (aR b4) (aB bL (aB aF (aA 0)<|mC<|.int 1)<|mC<|.int 4)<|mC<|.int 0) (mC<|.str "level")<|mC<|.str "upright") [a7 a] μ):=by kernel_rfl
theorem U6 k a μ:f (k+1) "beside" [a] μ=fin ((aJ (aO 1<|aB aF (aA 0)<|mC<|.int 0)<|aJ (aO 2<|aB aF (aA 0)<|mC<|.int 1)<|aS<|cJ<|aC (bH<|aC (aB cM (aA 1)<|mC<|.int 1)<|aC (aA 2) aD)<|aC (bH<|aC (aA 1)<|aC (aB cM (aA 2)<|mC<|.int 1) aD)<|aC (bH<|aC (aA 1)<|aC (aB bP (aA 2)<|mC<|.int 1) aD)<|aC (bH<|aC (aB bP (aA 1)<|mC<|.int 1)<|aC (aA 2) aD) aD) [a7 a,b3,b3] μ):=by kernel_rfl
theorem U7 k a μ:f (k+1) "sides_of" [a] μ=fin ((aS<|d8 (cX<|aH (f k "beside")<|aC (aA 0) aD) (dQ<|aH (f k "is_quarter")<|aC (aA 1) aD)<|aA 1) [a7 a] μ):=by kernel_rfl
theorem U8 k a b μ:f (k+1) "number_by" [a,b] μ=fin ((aJ (bE (aU<|aB (aR b4) (aA 0)<|mC<|.str "level") (aS<|aB aF (aA 1)<|mC<|.int 1) bI)<|aJ (bE (aU<|aB (aR b4) (aA 0)<|mC<|.str "upright") (aS<|aB aF (aA 1)<|mC<|.int 0) bI)<|aJ (bE (aU<|aB (aR b4) (aA 0)<|mC<|.str "falling") (aS<|aB cM (aB aF (aA 1)<|mC<|.int 0)<|aB aF (aA 1)<|mC<|.int 1) bI)<|aS<|aB bP (aB aF (aA 1)<|mC<|.int 0)<|aB aF (aA 1)<|mC<|.int 1) [a7 a,a7 b] μ):=by kernel_rfl
theorem U9 k a b μ:f (k+1) "hand_of" [a,b] μ=fin ((aJ (aO 2<|aH (f k "line_of")<|aC (aA 1) aD)<|aJ (aO 3<|aB cM (aH (f k "number_by")<|aC (aA 2)<|aC (aA 0) aD)<|aH (f k "number_by")<|aC (aA 2)<|aC (aA 1) aD)<|aJ (bE (aU<|aB lW (aA 3)<|mC<|.int 0) (aS<|mC<|.int 1) bI)<|aS<|i9 (aU<|aB jF (aA 3)<|mC<|.int 0) (dP<|mC<|.int 1)<|mC<|.int 0) [a7 a,a7 b,b3,b3] μ):=by kernel_rfl
theorem Va k a b μ:f (k+1) "mirrored" [a,b] μ=fin ((aJ (aO 2<|aB aF (aA 0)<|mC<|.int 0)<|aJ (aO 3<|aB aF (aA 0)<|mC<|.int 1)<|aJ (aO 4<|aH (f k "line_of")<|aC (aA 1) aD)<|aJ (aO 5<|aH (f k "number_by")<|aC (aA 4)<|aC (aA 1) aD)<|aJ (bE (aU<|aB (aR b4) (aA 4)<|mC<|.str "level") (aS<|bH<|aC (aA 2)<|aC (aB cM (aB bO (mC<|.int 2)<|aA 5)<|aA 3) aD) bI)<|aJ (bE (aU<|aB (aR b4) (aA 4)<|mC<|.str "upright") (aS<|bH<|aC (aB cM (aB bO (mC<|.int 2)<|aA 5)<|aA 2)<|aC (aA 3) aD) bI)<|aJ (bE (aU<|aB (aR b4) (aA 4)<|mC<|.str "falling") (aS<|bH<|aC (aB bP (aA 3)<|aA 5)<|aC (aB cM (aA 2)<|aA 5) aD) bI)<|aS<|bH<|aC (aB cM (aA 5)<|aA 3)<|aC (aB cM (aA 5)<|aA 2) aD) [a7 a,a7 b,b3,b3,b3,b3] μ):=by kernel_rfl
theorem Vb k a b c μ:f (k+1) "laying_by" [a,b,c] μ=fin ((aS<|bH<|aC (aB cM (aB aF (aA 1)<|mC<|.int 0)<|aB aF (aA 0)<|mC<|.int 0)<|aC (aB cM (aB aF (aA 2)<|mC<|.int 0)<|aB aF (aA 0)<|mC<|.int 0)<|aC (aB cM (aB aF (aA 1)<|mC<|.int 1)<|aB aF (aA 0)<|mC<|.int 1)<|aC (aB cM (aB aF (aA 2)<|mC<|.int 1)<|aB aF (aA 0)<|mC<|.int 1)<|aC (aB aF (aA 0)<|mC<|.int 0)<|aC (aB aF (aA 0)<|mC<|.int 1) aD) [a7 a,a7 b,a7 c] μ):=by kernel_rfl
theorem Vc k a μ:f (k+1) "mirror_in" [a] μ=fin ((aS<|aH (f k "laying_by")<|aC (aH (f k "mirrored")<|aC (bH<|aC (mC<|.int 0)<|aC (mC<|.int 0) aD)<|aC (aA 0) aD)<|aC (aH (f k "mirrored")<|aC (bH<|aC (mC<|.int 1)<|aC (mC<|.int 0) aD)<|aC (aA 0) aD)<|aC (aH (f k "mirrored")<|aC (bH<|aC (mC<|.int 0)<|aC (mC<|.int 1) aD)<|aC (aA 0) aD) aD) [a7 a] μ):=by kernel_rfl
theorem Vd k a b μ:f (k+1) "led" [a,b] μ=fin ((aJ (aO 2<|aB aF (aA 1)<|mC<|.int 0)<|aJ (aO 3<|aB aF (aA 1)<|mC<|.int 1)<|aS<|bH<|aC (aB bP (aB bP (aB bO (aB aF (aA 0)<|mC<|.int 0)<|aA 2)<|aB bO (aB aF (aA 0)<|mC<|.int 1)<|aA 3)<|aB aF (aA 0)<|mC<|.int 4)<|aC (aB bP (aB bP (aB bO (aB aF (aA 0)<|mC<|.int 2)<|aA 2)<|aB bO (aB aF (aA 0)<|mC<|.int 3)<|aA 3)<|aB aF (aA 0)<|mC<|.int 5) aD) [a7 a,a7 b,b3,b3] μ):=by kernel_rfl
theorem Ve k a b μ:f (k+1) "then" [a,b] μ=fin ((aS<|aH (f k "laying_by")<|aC (aH (f k "led")<|aC (aA 1)<|aC (aH (f k "led")<|aC (aA 0)<|aC (bH<|aC (mC<|.int 0)<|aC (mC<|.int 0) aD) aD) aD)<|aC (aH (f k "led")<|aC (aA 1)<|aC (aH (f k "led")<|aC (aA 0)<|aC (bH<|aC (mC<|.int 1)<|aC (mC<|.int 0) aD) aD) aD)<|aC (aH (f k "led")<|aC (aA 1)<|aC (aH (f k "led")<|aC (aA 0)<|aC (bH<|aC (mC<|.int 0)<|aC (mC<|.int 1) aD) aD) aD) aD) [a7 a,a7 b] μ):=by kernel_rfl
theorem Vf k a μ:f (k+1) "is_turned" [a] μ=fin ((aS<|aB (aR b4) (aB cM (aB bO (aB aF (aA 0)<|mC<|.int 0)<|aB aF (aA 0)<|mC<|.int 3)<|aB bO (aB aF (aA 0)<|mC<|.int 1)<|aB aF (aA 0)<|mC<|.int 2)<|dP<|mC<|.int 1) [a7 a] μ):=by kernel_rfl
theorem Vg k a μ:f (k+1) "is_size" [a] μ=fin ((aS<|i8 (aH (f k "is_whole")<|aC (aA 0) aD)<|k6 pL pL (mC<|.int 1) (aA 0)<|mC<|.int 6) [a7 a] μ):=by kernel_rfl
theorem Vh k a b μ:f (k+1) "check_size" [a,b] μ=fin ((bE (rO<|i7 (dQ<|aH (f k "is_size")<|aC (aA 0) aD)<|dQ<|aH (f k "is_size")<|aC (aA 1) aD) cI bI) [a7 a,a7 b] μ):=by kernel_rfl
theorem Vi k a b μ:f (k+1) "places_within" [a,b] μ=fin ((aJ (aO 2<|cJ aD)<|aJ (b7 (kZ<|aC (mC<|.int 1)<|aC (aB bO (mC<|.int 4)<|aA 0) aD) (cP 3)<|eE<|f7 n8 (aA 2)<|aC (d8 (kZ<|aC (mC<|.int 1)<|aC (aB bO (mC<|.int 4)<|aA 1) aD) f6<|bH<|aC (aA 3)<|aC (aA 4) aD) aD)<|aS<|aA 2) [a7 a,a7 b,b3,b3] μ):=by kernel_rfl
theorem Vj k a b μ:f (k+1) "quarters_in" [a,b] μ=fin ((aS<|d8 (cX<|aH (f k "places_within")<|aC (aA 0)<|aC (aA 1) aD) (dQ<|aH (f k "is_quarter")<|aC (aA 2) aD)<|aA 2) [a7 a,a7 b] μ):=by kernel_rfl
theorem Vk k a b μ:f (k+1) "edges_in" [a,b] μ=fin ((aS<|d8 (cX<|aH (f k "places_within")<|aC (aA 0)<|aC (aA 1) aD) (dQ<|aH (f k "is_edge")<|aC (aA 2) aD)<|aA 2) [a7 a,a7 b] μ):=by kernel_rfl
theorem Vl k a μ:f (k+1) "stacks" [a] μ=fin ((aJ (aO 1 gA)<|aJ (b7 (cX<|aH jY<|aC (aA 0) aD) (cP 2)<|eE<|f7 gM (iE mJ (aA 1)<|aC (aH (f k "led")<|aC (aB aF (aA 0)<|aA 2)<|aC (aA 2) aD)<|aC (cJ aD) aD)<|aC (aA 2) aD)<|aS<|aA 1) [a7 a,b3,b3] μ):=by kernel_rfl
theorem Vm k a b μ:f (k+1) "edges_laid" [a,b] μ=fin ((aJ (aO 2 gA)<|aJ (b7 (cX<|aH (f k "edges_in")<|aC (aB aF (aA 0)<|mC<|.int 0)<|aC (aB aF (aA 0)<|mC<|.int 1) aD) (cP 3)<|eE<|f7 gM (iE mJ (aA 2)<|aC (aH (f k "led")<|aC (aB aF (aA 1)<|aB aF (aH (f k "sides_of")<|aC (aA 3) aD)<|mC<|.int 0)<|aC (aA 3) aD)<|aC (cJ aD) aD)<|aC (aA 3) aD)<|aS<|aA 2) [a7 a,a7 b,b3,b3] μ):=by kernel_rfl
theorem Vn k a b μ:f (k+1) "are_piles" [a,b] μ=fin ((aJ (aO 2<|aH (f k "stacks")<|aC (aA 0) aD)<|aJ (bE (aU<|aB (aR b5) (aH jY<|aC (aA 1) aD)<|aH jY<|aC (aA 2) aD) (aS<|mC<|.bl b4) bI)<|aS<|aH u9<|aC (qG 2 (d8 (fF<|aA 2) f6<|aB (aR b4) (aH jW<|aC (aB aF (aA 1)<|aA 3) aD)<|aB aF (aA 2)<|aA 3) bX) aD) [a7 a,a7 b,b3] μ):=by kernel_rfl
theorem Vo k a μ:f (k+1) "heights_in" [a] μ=fin ((aJ (aO 1 gA)<|aJ (dX 0 (b7 (qI<|aA 0) (cP 2)<|b7 (oE<|aC (aA 2) aD) (dH [3,4])<|dB (aA 1) (aA 4)<|aA 3) cI)<|aS<|aA 1) [a7 a,b3,b3,b3,b3] μ):=by kernel_rfl
theorem Vp k a b c μ:f (k+1) "quarters_at" [a,b,c] μ=fin ((aS<|d8 (cX<|aH (f k "sides_of")<|aC (aA 0) aD) (aU<|aB (aR b4) (aH (f k "led")<|aC (aB aF (aA 1)<|aA 3)<|aC (aA 3) aD)<|aA 2)<|aA 3) [a7 a,a7 b,a7 c] μ):=by kernel_rfl
theorem Vq k a b c μ:f (k+1) "joined_at" [a,b,c] μ=fin ((aS<|d8 (cX<|aH (f k "sides_of")<|aC (aA 2) aD) f6<|aH (f k "quarters_at")<|aC (aA 0)<|aC (aA 1)<|aC (aA 3) aD) [a7 a,a7 b,a7 c] μ):=by kernel_rfl
theorem Vr k a b c μ:f (k+1) "count_between" [a,b,c] μ=fin ((aJ (aO 3<|aH Ap<|aC (aB aF (aA 0)<|aB aF (aA 1)<|mC<|.int 0)<|aC (aB aF (aA 0)<|aB aF (aA 1)<|mC<|.int 1) aD)<|aJ (aO 4<|aH Ao<|aC (aB aF (aA 0)<|aB aF (aA 1)<|mC<|.int 0)<|aC (aB aF (aA 0)<|aB aF (aA 1)<|mC<|.int 1) aD)<|aS<|aH eM<|aC (d8 (cX<|aA 2) (aU<|k6 jF jF (aA 3) (aB aF (aA 0)<|aA 5)<|aA 4)<|aA 5) aD) [a7 a,a7 b,a7 c,b3,b3] μ):=by kernel_rfl
theorem Hq k a b c μ:f (k+1) "is_above" [a,b,c] μ=fin ((aS<|aB lW (aB aF (aA 0)<|aA 1)<|aB aF (aA 0)<|aA 2) [a7 a,a7 b,a7 c] μ):=by kernel_rfl
theorem Vs k a b c μ:f (k+1) "crosses" [a,b,c] μ=fin ((aJ (b7 (sF<|aC (aA 1)<|aC (aA 2) aD) (dH [3,4])<|Hl k)<|aS<|aB (aR b5) (aH (f k "is_above")<|aC (aA 0)<|aC (aB aF (aB aF (aA 1)<|mC<|.int 0)<|mC<|.int 0)<|aC (aB aF (aB aF (aA 2)<|mC<|.int 0)<|mC<|.int 0) aD)<|aH (f k "is_above")<|aC (aA 0)<|aC (aB aF (aB aF (aA 1)<|mC<|.int 1)<|mC<|.int 0)<|aC (aB aF (aB aF (aA 2)<|mC<|.int 1)<|mC<|.int 0) aD) [a7 a,a7 b,a7 c,b3,b3] μ):=by kernel_rfl
theorem Vt k a b c d μ:f (k+1) "crossing_at" [a,b,c,d] μ=fin ((aJ (aO 5<|d8 (cX<|aA 3) f6<|aH (f k "joined_at")<|aC (aA 9)<|aC (aA 1)<|aC (aA 2) aD)<|aJ (aO 6<|cJ aD)<|aJ (b7 (oE<|aC (aA 3) aD) (dH [7,4])<|b7 (kZ<|aC (aB bP (aA 7)<|mC<|.int 1)<|aC (aH eM<|aC (aA 3) aD) aD) (cP 8)<|Hn k)<|aS<|aA 6) [a7 a,a7 b,a7 c,a7 d,b3,b3,b3,b3,b3] μ):=by kernel_rfl
theorem Vu k a b c μ:f (k+1) "crossing" [a,b,c] μ=fin ((aJ (aO 3<|aH (f k "heights_in")<|aC (aA 2) aD)<|aJ (aO 4<|cJ aD)<|aJ (b7 (sL<|aH (f k "edges_laid")<|aC (aA 0)<|aC (aA 1) aD) (dH [5,6])<|eE<|f7 n8 (aA 4)<|aC (aH (f k "crossing_at")<|aC (aA 3)<|aC (aA 1)<|aC (aA 5)<|aC (aA 6) aD) aD)<|aS<|aH mM<|aC (aA 4)<|aC (mC .non) aD) [a7 a,a7 b,a7 c,b3,b3,b3,b3] μ):=by kernel_rfl
theorem Vv k a b μ:f (k+1) "turned_first" [a,b] μ=fin ((aJ (aO 2<|aH (f k "sides_of")<|aC (aA 1) aD)<|aJ (bE (dQ<|aH (f k "is_turned")<|aC (aB aF (aA 0)<|aB aF (aA 2)<|mC<|.int 0) aD) (aS<|aA 2) bI)<|aS<|cJ<|aC (aB aF (aA 2)<|mC<|.int 1)<|aC (aB aF (aA 2)<|mC<|.int 0) aD) [a7 a,a7 b,b3] μ):=by kernel_rfl
theorem Vx k a b c μ:f (k+1) "mark_by_heights" [a,b,c] μ=fin ((aJ (aO 3<|aH (f k "turned_first")<|aC (aA 1)<|aC (aA 2) aD)<|Hk k) [a7 a,a7 b,a7 c,b3] μ):=by kernel_rfl
theorem Vy k a b c μ:f (k+1) "marks_by" [a,b,c] μ=fin ((aJ (aO 3<|aH (f k "heights_in")<|aC (aA 2) aD)<|aS<|iM (zL 2) (cX<|aB aF (aA 0)<|mC<|.int 2) f6<|bH<|aC (aA 4)<|aC (aH (f k "mark_by_heights")<|aC (aA 3)<|aC (aA 1)<|aC (aA 4) aD) aD) [a7 a,a7 b,a7 c,b3] μ):=by kernel_rfl
theorem Vz k a μ:f (k+1) "copied_piles" [a] μ=fin ((aJ (aO 1 gA)<|aJ (dX 0 (b7 (lG<|aA 0) (dH [2,3])<|dB (aA 1) (aA 2)<|aH gC<|aC (aA 3) aD) cI)<|aS<|aA 1) [a7 a,b3,b3,b3] μ):=by kernel_rfl
theorem VA k a b c μ:f (k+1) "folded_layings" [a,b,c] μ=fin ((aJ (aO 3<|aH (f k "mirror_in")<|aC (aA 1) aD)<|aJ (aO 4 gA)<|aJ (dX 0 (b7 (lG<|aA 0) (dH [5,6])<|BA k) cI)<|aS<|aA 4) [a7 a,a7 b,a7 c,b3,b3,b3,b3,b3] μ):=by kernel_rfl
theorem VB k a b c d μ:f (k+1) "folded_piles" [a,b,c,d] μ=fin ((aJ (aO 4 gA)<|aJ (dX 0 (b7 (lG<|aA 0) (dH [5,6])<|bE (aU<|aB (aR b5) (aH (f k "hand_of")<|aC (aA 5)<|aC (aA 1) aD)<|aA 2) (dB (aA 4) (aA 5)<|aH gC<|aC (aA 6) aD) bI) cI)<|aJ (dX 0 (b7 (lG<|aA 0) (dH [5,6])<|bE (aU<|aB (aR b4) (aH (f k "hand_of")<|aC (aA 5)<|aC (aA 1) aD)<|aA 2) (Hj k) bI) cI)<|aS<|aA 4) [a7 a,a7 b,a7 c,a7 d,b3,b3,b3,b3,b3,b3] μ):=by kernel_rfl
theorem VC k a b μ:f (k+1) "check_fold" [a,b] μ=fin ((aJ (dX 0 (aO 2<|d8 (fF<|aA 0) f6<|aH (f k "hand_of")<|aC (aA 3)<|aC (aA 1) aD) cI)<|bE (fJ (aU<|aB (cY b5) (mC<|.int 1)<|aA 2)<|aU<|aB (cY b5) (dP<|mC<|.int 1)<|aA 2) cI bI) [a7 a,a7 b,b3] μ):=by kernel_rfl
theorem VD k a b c μ:f (k+1) "creased_edges" [a,b,c] μ=fin ((aJ (aO 3<|cJ aD)<|aJ (b7 (cX<|aH (f k "edges_in")<|aC (aA 0)<|aC (aA 1) aD) (cP 4)<|aJ (aO 5<|aH (f k "sides_of")<|aC (aA 4) aD)<|bE (aU<|aB (aR b5) (aB aF (aA 2)<|aB aF (aA 5)<|mC<|.int 0)<|aB aF (aA 2)<|aB aF (aA 5)<|mC<|.int 1) (eE<|f7 gM (aA 3)<|aC (aA 4) aD) bI)<|aS<|aA 3) [a7 a,a7 b,a7 c,b3,b3,b3] μ):=by kernel_rfl
theorem VE k a b μ:f (k+1) "unfolded" [a,b] μ=fin ((aJ (aO 2 gA)<|aJ (aO 3 gA)<|aJ (b7 (cX<|aH (f k "quarters_in")<|aC (aA 0)<|aC (aA 1) aD) (cP 4)<|aJ (dB (aA 2) (aA 4)<|mC Bz)<|dB (aA 3) (aA 4)<|cJ<|aC (aA 4) aD)<|aS<|bH<|aC (aA 2)<|aC (aA 3) aD) [a7 a,a7 b,b3,b3,b3] μ):=by kernel_rfl
theorem VF k a b μ:f (k+1) "_law_cell" [a,b] μ=fin ((aJ (bE (aU<|aB jF (aA 1)<|aH eM<|aC (aA 0) aD) (aS<|aB aF (aA 0)<|aA 1) bI)<|aJ (bE (aU<|aB (aR b4) (aA 0)<|cJ aD) (aS<|aB bL (aB bO (aB bO (aA 1)<|aA 1)<|mC<|.int 48271)<|mC<|.int 2147483647) bI)<|aJ (aO 2<|aB bL (aB bO (aB bP (aB bL (aB aF (aA 0)<|aB bL (aA 1)<|aH eM<|aC (aA 0) aD)<|mC<|.int 2147483629)<|aB bO (aB bO (aA 1)<|aA 1)<|mC<|.int 69623)<|mC<|.int 48271)<|mC<|.int 2147483647)<|aS<|aB bL (aB bO (aA 2)<|aA 2)<|mC<|.int 2147483629) [a7 a,a7 b,b3] μ):=by kernel_rfl
theorem VG k a b μ:f (k+1) "_law_quarters" [a,b] μ=fin ((aJ (aO 2<|cJ aD)<|aJ (b7 (nY<|aC (aB bO (mC<|.int 4)<|aA 0) aD) (cP 3)<|b7 (nY<|aC (aB bO (mC<|.int 4)<|aA 1) aD) (cP 4)<|bE (fJ (i7 (aU<|aB (aR b4) (aB bL (aA 3)<|mC<|.int 4)<|mC<|.int 2)<|aU<|aB (aR b4) (aB bL (aA 4)<|mC<|.int 2)<|mC<|.int 1)<|i7 (aU<|aB (aR b4) (aB bL (aA 3)<|mC<|.int 2)<|mC<|.int 1)<|aU<|aB (aR b4) (aB bL (aA 4)<|mC<|.int 4)<|mC<|.int 2) (eE<|f7 gM (aA 2)<|aC (bH<|aC (aA 3)<|aC (aA 4) aD) aD) bI)<|aS<|aA 2) [a7 a,a7 b,b3,b3,b3] μ):=by kernel_rfl
theorem VH k a b μ:f (k+1) "_law_inner" [a,b] μ=fin ((aJ (aO 2<|cJ aD)<|aJ (b7 (kZ<|aC (mC<|.int 1)<|aC (aB bO (mC<|.int 4)<|aA 0) aD) (cP 3)<|b7 (kZ<|aC (mC<|.int 1)<|aC (aB bO (mC<|.int 4)<|aA 1) aD) (cP 4)<|bE (fJ (i7 (aU<|aB (aR b4) (aB bL (aA 3)<|mC<|.int 2)<|mC<|.int 1)<|aU<|aB (aR b4) (aB bL (aA 4)<|mC<|.int 2)<|mC<|.int 1)<|i7 (aU<|aB (aR b4) (aB bL (aA 3)<|mC<|.int 2)<|mC<|.int 0)<|aU<|aB (aR b4) (aB bP (aB bL (aA 3)<|mC<|.int 4)<|aB bL (aA 4)<|mC<|.int 4)<|mC<|.int 2) (eE<|f7 gM (aA 2)<|aC (bH<|aC (aA 3)<|aC (aA 4) aD) aD) bI)<|aS<|aA 2) [a7 a,a7 b,b3,b3,b3] μ):=by kernel_rfl
theorem VI k a μ:f (k+1) "_law_beside" [a] μ=fin ((aJ (jG (aA 0)<|dH [1,2])<|aJ (bE (aU<|aB (aR b4) (aB bL (aA 2)<|mC<|.int 4)<|mC<|.int 0) (aS<|cJ<|aC (bH<|aC (aA 1)<|aC (aB cM (aA 2)<|mC<|.int 1) aD)<|aC (bH<|aC (aA 1)<|aC (aB bP (aA 2)<|mC<|.int 1) aD) aD) bI)<|aJ (bE (aU<|aB (aR b4) (aB bL (aA 1)<|mC<|.int 4)<|mC<|.int 0) (aS<|cJ<|aC (bH<|aC (aB cM (aA 1)<|mC<|.int 1)<|aC (aA 2) aD)<|aC (bH<|aC (aB bP (aA 1)<|mC<|.int 1)<|aC (aA 2) aD) aD) bI)<|aS<|aH jW<|aC (cJ<|aC (bH<|aC (aB cM (aB bP (aA 1)<|mC<|.int 2)<|aB bL (aA 1)<|mC<|.int 4)<|aC (aA 2) aD)<|aC (bH<|aC (aA 1)<|aC (aB cM (aB bP (aA 2)<|mC<|.int 2)<|aB bL (aA 2)<|mC<|.int 4) aD) aD) aD) [a7 a,b3,b3] μ):=by kernel_rfl
theorem VJ k a b μ:f (k+1) "_law_led" [a,b] μ=fin ((aJ (jG (aA 0)<|dH [2,3,4,5,6,7])<|aS<|bH<|aC (aB bP (aB bP (aB bO (aA 2)<|aB aF (aA 1)<|mC<|.int 0)<|aB bO (aA 3)<|aB aF (aA 1)<|mC<|.int 1)<|aA 6)<|aC (aB bP (aB bP (aB bO (aA 4)<|aB aF (aA 1)<|mC<|.int 0)<|aB bO (aA 5)<|aB aF (aA 1)<|mC<|.int 1)<|aA 7) aD) [a7 a,a7 b,b3,b3,b3,b3,b3,b3] μ):=by kernel_rfl
theorem VL k a b μ:f (k+1) "_law_over" [a,b] μ=fin ((aJ (jG (aA 0)<|dH [2,3,4,5,6,7])<|aJ (jG (aA 1)<|dH [8,9])<|aJ (bE (aU<|aB (aR b4) (aA 8)<|mC<|.int 0) (aS<|bH<|aC (aA 2)<|aC (aA 3)<|aC (dP<|aA 4)<|aC (dP<|aA 5)<|aC (aA 6)<|aC (aB cM (aB bO (mC<|.int 2)<|aA 9)<|aA 7) aD) bI)<|aJ (bE (aU<|aB (aR b4) (aA 8)<|mC<|.int 1) (aS<|bH<|aC (dP<|aA 2)<|aC (dP<|aA 3)<|aC (aA 4)<|aC (aA 5)<|aC (aB cM (aB bO (mC<|.int 2)<|aA 9)<|aA 6)<|aC (aA 7) aD) bI)<|aJ (bE (aU<|aB (aR b4) (aA 8)<|mC<|.int 2) (aS<|bH<|aC (aA 4)<|aC (aA 5)<|aC (aA 2)<|aC (aA 3)<|aC (aB bP (aA 7)<|aA 9)<|aC (aB cM (aA 6)<|aA 9) aD) bI)<|aS<|bH<|aC (dP<|aA 4)<|aC (dP<|aA 5)<|aC (dP<|aA 2)<|aC (dP<|aA 3)<|aC (aB cM (aA 9)<|aA 7)<|aC (aB cM (aA 9)<|aA 6) aD) [a7 a,a7 b,b3,b3,b3,b3,b3,b3,b3,b3] μ):=by kernel_rfl
theorem VM k a b μ:f (k+1) "_law_value" [a,b] μ=fin ((aS<|aB aF (cJ<|aC (aB aF (aA 0)<|mC<|.int 1)<|aC (aB aF (aA 0)<|mC<|.int 0)<|aC (aB cM (aB aF (aA 0)<|mC<|.int 0)<|aB aF (aA 0)<|mC<|.int 1)<|aC (aB bP (aB aF (aA 0)<|mC<|.int 0)<|aB aF (aA 0)<|mC<|.int 1) aD)<|aA 1) [a7 a,a7 b] μ):=by kernel_rfl
theorem VN k a b μ:f (k+1) "_law_begun" [a,b] μ=fin ((aJ (aO 2 gA)<|aJ (aO 3 gA)<|aJ (b7 (cX<|aH (f k "_law_quarters")<|aC (aA 0)<|aC (aA 1) aD) (cP 4)<|aJ (dB (aA 2) (aA 4)<|bH<|aC (mC<|.int 1)<|aC (mC<|.int 0)<|aC (mC<|.int 0)<|aC (mC<|.int 1)<|aC (mC<|.int 0)<|aC (mC<|.int 0) aD)<|dB (aA 3) (aA 4)<|cJ<|aC (aA 4) aD)<|aS<|bH<|aC (aA 2)<|aC (aA 3) aD) [a7 a,a7 b,b3,b3,b3] μ):=by kernel_rfl
theorem VO k a b c d μ:f (k+1) "_law_folded" [a,b,c,d] μ=fin ((aJ (aO 4<|aH oO<|aC (aB aF (aA 0)<|mC<|.int 0) aD)<|aJ (dX 1001 (aO 6<|d8 (fF<|aB aF (aA 0)<|mC<|.int 1) (aU<|aB (aR b4) (aB lW (aH (f k "_law_value")<|aC (aA 11)<|aC (aB aF (aA 1)<|mC<|.int 0) aD)<|aB aF (aA 1)<|mC<|.int 1)<|aA 2)<|aA 11) cI)<|aJ (bE (fJ (aU<|aB (aR b4) (aA 6)<|cJ aD)<|aU<|aB (aR b4) (aH eM<|aC (aA 6) aD)<|aH eM<|aC (aB aF (aA 0)<|mC<|.int 1) aD) (aS<|mC .non) bI)<|aJ (b7 (cX<|aH gC<|aC (aA 4) aD) (cP 7)<|bE (aU<|aB (cY b4) (aH (f k "_law_led")<|aC (aB aF (aA 4)<|aA 7)<|aC (aA 7) aD)<|aA 6) (dB (aA 4) (aA 7)<|aH (f k "_law_over")<|aC (aB aF (aA 4)<|aA 7)<|aC (aA 1) aD) bI)<|aJ (aO 8 gA)<|aJ (dX 1001 (b7 (fF<|aB aF (aA 0)<|mC<|.int 1) (cP 5)<|bE (aU<|aB (cY b5) (aA 5)<|aA 6) (dB (aA 8) (aA 5)<|aH gC<|aC (aB aF (aB aF (aA 0)<|mC<|.int 1)<|aA 5) aD) bI) cI)<|aJ (b7 (cX<|aA 6) (cP 5)<|BB k)<|aS<|bH<|aC (aA 4)<|aC (aA 8) aD) [a7 a,a7 b,a7 c,a7 d,b3,b3,b3,b3,b3,b3,b3] μ):=by kernel_rfl
theorem VP k a b c μ:f (k+1) "_law_plan" [a,b,c] μ=fin ((aJ (aO 3<|aB bL (aA 1)<|mC<|.int 4)<|aJ (aO 4<|aH gC<|aC (aB aF (aA 0)<|mC<|.int 1) aD)<|aJ (aO 5<|aB aF (aA 4)<|aB bL (aB dU (aA 1)<|mC<|.int 64)<|aH eM<|aC (aA 4) aD)<|aJ (aO 6<|aB bP (aB bO (aB dU (aH (f k "_law_value")<|aC (aA 5)<|aC (aA 3) aD)<|mC<|.int 4)<|mC<|.int 4)<|aB bO (aB bL (aB dU (aA 1)<|mC<|.int 4)<|mC<|.int 2)<|mC<|.int 4)<|aJ (bE (aU<|aB (aR b4) (aB bL (aB dU (aA 1)<|mC<|.int 8)<|mC<|.int 7)<|mC<|.int 3) (aO 6<|aB bO (mC<|.int 4)<|aB cM (aB bL (aA 2)<|aB bO (mC<|.int 2)<|aB kU (mC<|.int 10)<|mC<|.int 58)<|aB kU (mC<|.int 10)<|mC<|.int 58) bI)<|aJ (aO 7<|aB cM (aB bL (aB dU (aA 2)<|mC<|.int 3)<|mC<|.int 9)<|mC<|.int 4)<|aJ (bE (aU<|aB (aR b4) (aB bL (aB dU (aA 1)<|mC<|.int 56)<|mC<|.int 5)<|mC<|.int 2) (aO 7<|aB bL (aB dU (aA 2)<|mC<|.int 7)<|aB kU (mC<|.int 10)<|mC<|.int 57) bI)<|aJ (aO 8<|aB aF (cJ<|aC (bH<|aC (aB bP (mC<|.int 2)<|aB bO (mC<|.int 4)<|aA 7)<|aC (aA 6) aD)<|aC (bH<|aC (aA 6)<|aC (aB bP (mC<|.int 2)<|aB bO (mC<|.int 4)<|aA 7) aD)<|aC (bH<|aC (aB bP (aB bP (aA 6)<|mC<|.int 1)<|aB bO (mC<|.int 2)<|aA 7)<|aC (aB bP (mC<|.int 1)<|aB bO (mC<|.int 2)<|aA 7) aD)<|aC (bH<|aC (aB bP (mC<|.int 1)<|aB bO (mC<|.int 2)<|aA 7)<|aC (aB cM (aB cM (aA 6)<|mC<|.int 1)<|aB bO (mC<|.int 2)<|aA 7) aD) aD)<|aA 3)<|aS<|bH<|aC (aA 8)<|aC (bH<|aC (aA 3)<|aC (aA 6) aD)<|aC (aB (aR b4) (aB bL (aB dU (aA 1)<|mC<|.int 280)<|mC<|.int 2)<|mC<|.int 1)<|aC (aB (aR b4) (aB bL (aB dU (aA 1)<|mC<|.int 560)<|mC<|.int 2)<|mC<|.int 1) aD) [a7 a,a7 b,a7 c,b3,b3,b3,b3,b3,b3] μ):=by kernel_rfl
theorem VQ k a b c μ:f (k+1) "_law_go" [a,b,c] μ=fin ((aJ (aO 3<|aB bP (mC<|.int 1)<|aB bL (aH (f k "_law_cell")<|aC (aA 0)<|aC (mC<|.int 0) aD)<|aA 1)<|aJ (aO 4<|aB bP (mC<|.int 1)<|aB bL (aB dU (aH (f k "_law_cell")<|aC (aA 0)<|aC (mC<|.int 0) aD)<|aA 1)<|aA 1)<|aJ (aO 5<|mD "Folding" (f k "Folding")<|aC (aA 3)<|aC (aA 4) aD)<|aJ (aO 6<|aH (f k "_law_begun")<|aC (aA 3)<|aC (aA 4) aD)<|aJ (b7 (r9<|aC (mC<|.int 1)<|aC (aB bP (aB bO (mC<|.int 2)<|aA 2)<|mC<|.int 1)<|aC (mC<|.int 2) aD) (cP 7)<|aJ (jG (aH (f k "_law_plan")<|aC (aA 6)<|aC (aH (f k "_law_cell")<|aC (aA 0)<|aC (aA 7) aD)<|aC (aH (f k "_law_cell")<|aC (aA 0)<|aC (aB bP (aA 7)<|mC<|.int 1) aD) aD)<|dH [8,9,10,11])<|aJ (aO 12<|aH (f k "_law_folded")<|aC (aA 6)<|aC (aA 9)<|aC (aA 10)<|aC (aA 11) aD)<|bE (aU<|aB (fK b5) (aA 12)<|mC .non) (aJ (eE<|jI "Folding" "fold" (f k "Folding.fold") (aA 5)<|aC (aA 8)<|aC (aA 10)<|aC (aA 11) aD)<|aO 6<|aA 12) bI)<|aS<|bH<|aC (aA 3)<|aC (aA 4)<|aC (aA 5) aD) [a7 a,a7 b,a7 c,b3,b3,b3,b3,b3,b3,b3,b3,b3,b3] μ):=by kernel_rfl
theorem VR k a b μ:f (k+1) "_law_spots" [a,b] μ=fin ((aJ (aO 2 gA)<|aJ (dX 1 (b7 (fF<|aA 1) (cP 3)<|b7 (oE<|aC (aB aF (aA 1)<|aA 3) aD) (dH [4,5])<|aJ (bE (fJ (aU<|aB (cY b5) (aA 5)<|aA 0)<|fJ (aU<|aB (cY b4) (aA 5)<|aA 2)<|aU<|aB (aR b5) (aH (f k "_law_led")<|aC (aB aF (aA 0)<|aA 5)<|aC (aA 5) aD)<|aA 3) (aS<|mC .non) bI)<|dB (aA 2) (aA 5)<|bH<|aC (aA 3)<|aC (aA 4) aD) cI)<|aJ (bE (aU<|aB (aR b5) (aH eM<|aC (aA 2) aD)<|aH eM<|aC (aA 0) aD) (aS<|mC .non) bI)<|aS<|aA 2) [a7 a,a7 b,b3,b3,b3,b3] μ):=by kernel_rfl
theorem VS k a b c μ:f (k+1) "_law_amid" [a,b,c] μ=fin ((aJ (aO 3<|aH jW<|aC (d8 (cX<|aA 2) f6<|aB aF (aB aF (aA 0)<|aA 4)<|mC<|.int 1) aD)<|aS<|i8 (aB jF (aB aF (aA 3)<|mC<|.int 0)<|aB aF (aB aF (aA 0)<|aA 1)<|mC<|.int 1)<|aB jF (aB aF (aB aF (aA 0)<|aA 1)<|mC<|.int 1)<|aB aF (aA 3)<|mC<|.int 1) [a7 a,a7 b,a7 c,b3] μ):=by kernel_rfl
theorem VT k a b c μ:f (k+1) "_law_cross" [a,b,c] μ=fin ((aJ (aO 3<|aB (aR b5) (aB aF (aB aF (aA 0)<|aB aF (aA 1)<|mC<|.int 0)<|mC<|.int 0)<|aB aF (aB aF (aA 0)<|aB aF (aA 1)<|mC<|.int 1)<|mC<|.int 0)<|aJ (aO 4<|aB (aR b5) (aB aF (aB aF (aA 0)<|aB aF (aA 2)<|mC<|.int 0)<|mC<|.int 0)<|aB aF (aB aF (aA 0)<|aB aF (aA 2)<|mC<|.int 1)<|mC<|.int 0)<|aJ (bE (i7 (dQ<|aA 3)<|dQ<|aA 4) (aJ (bE (aU<|aB (aR b5) (aB aF (aB aF (aA 0)<|aB aF (aA 1)<|mC<|.int 0)<|mC<|.int 0)<|aB aF (aB aF (aA 0)<|aB aF (aA 2)<|mC<|.int 0)<|mC<|.int 0) (aO 2<|aH k9<|aC (aA 2) aD) bI)<|aJ (aO 5<|aB jF (aB aF (aB aF (aA 0)<|aB aF (aA 1)<|mC<|.int 0)<|mC<|.int 1)<|aB aF (aB aF (aA 0)<|aB aF (aA 2)<|mC<|.int 0)<|mC<|.int 1)<|aS<|aB (aR b5) (aA 5)<|aB jF (aB aF (aB aF (aA 0)<|aB aF (aA 1)<|mC<|.int 1)<|mC<|.int 1)<|aB aF (aB aF (aA 0)<|aB aF (aA 2)<|mC<|.int 1)<|mC<|.int 1) bI)<|aJ (bE (dQ<|aA 3) (pQ 1 2<|aC (aA 2)<|aC (aA 1) aD) bI)<|Ho k) [a7 a,a7 b,a7 c,b3,b3,b3,b3,b3] μ):=by kernel_rfl
theorem VU k a μ:f (k+1) "law" [a] μ=fin ((aJ (jG (aH (f k "_law_go")<|aC (aA 0)<|aC (mC<|.int 3)<|aC (aB bP (mC<|.int 1)<|aB bL (aH (f k "_law_cell")<|aC (aA 0)<|aC (mC<|.int 13) aD)<|mC<|.int 6) aD)<|dH [1,2,3])<|aJ (aO 4<|jI "Folding" "layings" (f k "Folding.layings") (aA 3) aD)<|aJ (aO 5<|jI "Folding" "piles" (f k "Folding.piles") (aA 3) aD)<|aJ (aO 6<|aH (f k "_law_spots")<|aC (aA 4)<|aC (aA 5) aD)<|aJ (bE (fJ (aU<|aB (fK b4) (aA 6)<|mC .non)<|aU<|aB (aR b5) (aH jY<|aC (aA 6) aD)<|aH (f k "_law_quarters")<|aC (aA 1)<|aC (aA 2) aD) (aS<|mC<|.bl b4) bI)<|aJ (aO 7 gA)<|aJ (b7 (cX<|aH (f k "_law_inner")<|aC (aA 1)<|aC (aA 2) aD) (cP 8)<|aJ (aO 9<|aH (f k "_law_beside")<|aC (aA 8) aD)<|aJ (aO 10<|aH (f k "_law_led")<|aC (aB aF (aA 4)<|aB aF (aA 9)<|mC<|.int 0)<|aC (aA 8) aD)<|aJ (b7 (cX<|iE fR (aA 7)<|aC (aA 10)<|aC (cJ aD) aD) (cP 11)<|bE (dQ<|aH (f k "_law_cross")<|aC (aA 6)<|aC (aA 9)<|aC (aA 11) aD) (aS<|mC<|.bl b4) bI)<|dB (aA 7) (aA 10)<|aB bP (iE fR (aA 7)<|aC (aA 10)<|aC (cJ aD) aD)<|cJ<|aC (aA 9) aD)<|aJ (aO 12<|jI "Folding" "sheet" (f k "Folding.sheet") (aA 3) aD)<|aS<|i8 (aB (fK b4) (aH (f k "crossing")<|aC (aA 12)<|aC (aA 4)<|aC (aA 5) aD)<|mC .non)<|aB (fK b4) (aH (f k "are_piles")<|aC (aA 4)<|aC (aA 5) aD)<|mC<|.bl b5) [a7 a,b3,b3,b3,b3,b3,b3,b3,b3,b3,b3,b3,b3] μ):=by kernel_rfl
theorem VW k a b c μ:f (k+1) "Folding.__init__" [a,b,c] μ=fin ((aJ (eE<|aH (f k "check_size")<|aC (aA 1)<|aC (aA 2) aD)<|aJ (l9 "Folding" "wide" (aA 0)<|aA 1)<|aJ (l9 "Folding" "high" (aA 0)<|aA 2)<|l9 "Folding" "states" (aA 0)<|cJ<|aC (aH (f k "unfolded")<|aC (aA 1)<|aC (aA 2) aD) aD) [a7 a,a7 b,a7 c] μ):=by kernel_rfl
theorem VX k a b c d μ:f (k+1) "Folding.fold" [a,b,c,d] μ=fin ((aJ (aO 4<|aB aF (eX "Folding" "states"<|aA 0)<|dP<|mC<|.int 1)<|aJ (eE<|aH (f k "check_fold")<|aC (aB aF (aA 4)<|mC<|.int 1)<|aC (aA 1) aD)<|aJ (aO 5<|i9 (dQ<|aA 2) (mC<|.int 1)<|dP<|mC<|.int 1)<|eE<|f7 gM (eX "Folding" "states"<|aA 0)<|aC (bH<|aC (aH (f k "folded_layings")<|aC (aB aF (aA 4)<|mC<|.int 0)<|aC (aA 1)<|aC (aA 5) aD)<|aC (aH (f k "folded_piles")<|aC (aB aF (aA 4)<|mC<|.int 1)<|aC (aA 1)<|aC (aA 5)<|aC (aA 3) aD) aD) aD) [a7 a,a7 b,a7 c,a7 d,b3,b3] μ):=by kernel_rfl
theorem VY k a μ:f (k+1) "Folding.layings" [a] μ=fin ((aS<|aH oO<|aC (aB aF (aB aF (eX "Folding" "states"<|aA 0)<|dP<|mC<|.int 1)<|mC<|.int 0) aD) [a7 a] μ):=by kernel_rfl
theorem VZ k a μ:f (k+1) "Folding.piles" [a] μ=fin ((aS<|aH (f k "copied_piles")<|aC (aB aF (aB aF (eX "Folding" "states"<|aA 0)<|dP<|mC<|.int 1)<|mC<|.int 1) aD) [a7 a] μ):=by kernel_rfl
theorem V0 k a μ:f (k+1) "Folding.sheet" [a] μ=fin ((aJ (aO 1<|aB aF (eX "Folding" "states"<|aA 0)<|dP<|mC<|.int 1)<|aJ (aO 2<|aH oM<|aC (d8 (cX<|aH (f k "creased_edges")<|aC (eX "Folding" "wide"<|aA 0)<|aC (eX "Folding" "high"<|aA 0)<|aC (aB aF (aA 1)<|mC<|.int 0) aD) f6<|bH<|aC (aA 4)<|aC (mC<|.str "o") aD) aD)<|aJ (aO 3<|aH (f k "marks_by")<|aC (bH<|aC (eX "Folding" "wide"<|aA 0)<|aC (eX "Folding" "high"<|aA 0)<|aC (aA 2) aD)<|aC (aB aF (aA 1)<|mC<|.int 0)<|aC (aB aF (aA 1)<|mC<|.int 1) aD)<|aS<|bH<|aC (eX "Folding" "wide"<|aA 0)<|aC (eX "Folding" "high"<|aA 0)<|aC (aH oM<|aC (aA 3) aD) aD) [a7 a,b3,b3,b3] μ):=by kernel_rfl
theorem V1 k xs μ:f (k+1) "Folding" xs μ=f k "Folding.__init__" xs μ:=by kernel_rfl
theorem w_mul2{Q:jz}:W (bO (.int 2) (.int z) μ) Q↔Q (.int<|2*z,μ):=kJ<|.inl ⟨by decide,by decide⟩
theorem qO{Q:jz}:W (bO (.int 4) (.int z) μ) Q↔Q (.int<|4*z,μ):=kJ<|.inl ⟨by decide,by decide⟩
theorem BC{Q:jz}:W (bL (.int z) (.int 2) μ) Q↔Q (.int<|z%2,μ):=iF<|by decide
theorem BE{Q:jz}:W (bL (.int z) (.int 4) μ) Q↔Q (.int<|z%4,μ):=iF<|by decide
theorem V2:(2:Nat)<=ZX:=by decide
theorem fT:([a,b]:List D).length<=ZX:=V2
theorem V3:(1:Nat)<=ZX:=by decide
theorem BF:([a]:List D).length<=ZX:=V3
theorem V4{Q:jz}:W (bO (.int z) (.int 4) μ) Q↔Q (.int<|z*4,μ):=kJ<|.inr ⟨by decide,by decide⟩
noncomputable def uD:D->Int
 |.int i=>i|_=>0
theorem V5(h:d∈lJ lo n):∃j,j<n/\d=.int (lo+(j:Int)):=by unfold lJ at h;obtain⟨j,a,rfl⟩:=ZQ.mp h;exact⟨j,a1J.mp a,rfl⟩
theorem wI{C:MS}{Q:jz}(h:a c μ=a7 (.nx,b,μ'))(k:W (fin<|C b μ') Q):W (fin<|aJ a C c μ) Q:=by unfold aJ;rw[h];exact k
theorem Hr(h:m a μ=a7 (d,μ')):aO i m a μ=a7 (.nx,a.set i<|a7 d,μ'):=by unfold aO;rw[h];rfl
theorem BG{o:Option a}{r:a}{Q:a->Prop}(h:W o λx=>x=r):W o Q↔Q r:=by obtain⟨_,h,rfl⟩:=h;rw[h];exact W_some
theorem Hs{o:Option a}{r:a}(h:∀Q,W o Q↔Q r):o=a7 r:=by obtain⟨_,e,b⟩:=(h λx=>x=r).mpr rfl;rw[e,b]
theorem V6{ds:List D}{Q:jz}(h:ms a μ=a7 (ds,μ'))(k:W (g ds μ') Q):W (aH g ms a μ) Q:=by unfold aH;rw[h];exact k
theorem V7{Q:jz}(e:a d μ=a7 (x,μ1))(h:b d μ1=a7 (y,c))(k:W (g x y c) Q):W (aB g a b d μ) Q:=by unfold aB;rw[e,ZY,h];exact k
theorem V8{Q:jz}(k:W (m a μ) Q):W (fin<|aS m a μ) Q:=W_fin.mpr<|w_mRet.mpr<|bG k λ_ q=>q
noncomputable def sZ(x y:Int):Str:=if x%2=1 then(if x%4=y%4 then "falling" else "rising")else if y%4=0 then "level" else "upright"
theorem Ht k x y μ(Q:jz):W (f (k+1) "line_of" [P x y] μ) Q↔Q (.str<|sZ x y,μ):=by rw[U5,W_fin];simp only[w_mSeq,w_mRet,w_mNext,w_mIfS,w_mIfE,w_mOp,cT,bC,w_mTest,w_it20,w_it21,w_eqI,iF<|show(0:Int)<2 by decide,iF<|show(0:Int)<4 by decide];unfold sZ;split<;>split<;>simp_all
noncomputable def jM(x y:Int)(a b:Int):Int:=if x%2=1 then(if x%4=y%4 then a-b else a+b)else if y%4=0 then b else a
theorem Hu k x y a b μ(Q:jz):W (f (k+1) "number_by" [.str<|sZ x y,P a b] μ) Q↔Q (.int<|jM x y a b,μ):=by refine BG ?_;rw[U8];unfold sZ jM;split<;>split<;>exact⟨_,rfl,rfl⟩
noncomputable def cV(p e:Int×Int):Int×Int:=
 if e.1%2=1 then(if e.1%4=e.2%4 then(p.2+(e.1-e.2),p.1-(e.1-e.2))else(e.1+e.2-p.2,e.1+e.2-p.1))else if e.2%4=0 then(p.1,2*e.2-p.2)else(2*e.1-p.1,p.2)
theorem Hv k x y a b μ(Q:jz):W (f (k+2) "mirrored" [P x y,P a b] μ) Q↔Q (PP<|cV (x,y) (a,b),μ):=by refine BG ?_;rw[Va];refine wI rfl<|wI rfl<|wI (Hr<|Hs<|Ht k a b μ)<|wI (Hr<|Hs<|Hu k a b a b μ) ?_;unfold sZ jM cV;split<;>split<;>exact⟨_,rfl,rfl⟩
noncomputable def dO:D->Int×Int
 |.tup [.int x,.int y]=>(x,y)|_=>(0,0)
theorem oS p(l:jq):((l.map PP).filter λd=>p<|dO d).map (λd=>d)=(l.filter p).map PP:=by
 rw[List.map_id'];induction l with
 |nil=>rfl|cons a l b=>
  have e:(a8g PP<|a::l).filter (λd=>p<|dO d)=if p a then PP a::(l.map PP).filter (λd=>p<|dO d)else(l.map PP).filter λd=>p (dO d):=by rw[ZR,a2q];rfl
  rw[e,b,a2q];split<;>rfl
theorem BH{l:jq}(h:d∈l.map PP):∃x y,d=P x y:=by obtain⟨p,_,rfl⟩:=ZQ.mp h;exact⟨p.1,p.2,rfl⟩
theorem Hw{n:Nat}{i:Int}(a:0<=i)(h:i<n):jR n i=a7 i.toNat:=by unfold jR;rw[if_pos a,if_pos h]
theorem Hx{a:List Int}{i:Int}(b:0<=i)(h:i<a.length):atI (a.map D.int) i=a7 (.int<|a.getD i.toNat 0):=by
 unfold atI;rw[ZF,Hw b h,ZY,ZU];have hi:i.toNat<a.length:=by lia
 simp[a1I,hi]
theorem Hy{Q:jz}(h:atI xs i=a7 d):W (aF (.rol xs) (.int i) μ) Q↔Q (d,μ):=by
 have:aF (.rol xs) (.int i) μ=a7 (d,μ):=by simp only[aF,iK,bK,ZY,h,Z4]
 rw[this];exact W_some
theorem V9{Q:jz}(d:μ[b]?=a7 (.lst [])):W (aR b4 (.rol<|ns.map D.int) (.loc b) μ) Q↔Q (.bl<|ns==[],μ):=by
 have a:dZ μ (.rol<|ns.map D.int)=a7 (.lst<|ns.map D.int):=rfl;have c:dZ μ (.loc b)=a7 (.lst<|([]:List Int).map D.int):=by simp only[dZ,d];rfl
 have:c5 8 μ (.rol<|ns.map D.int) (.loc b)=a7 (ns==[]):=by show(dZ μ<|.rol<|ns.map D.int).bind (λx=>(dZ μ<|.loc b).bind λy=>nU (c5 7 μ) x y)=_;rw[a,c];exact Ha 6 μ ns []
 unfold aR;rw[this];exact W_some
noncomputable def iS(ns:List Int)(i:Int):Int:=if i<ns.length then ns.getD i.toNat 0 else if ns=[]then i*i*48271%2147483647 else
 ((ns.getD (i%ns.length).toNat 0%2147483629+i*i*69623)*48271%2147483647)*((ns.getD (i%ns.length).toNat 0%2147483629+i*i*69623)*48271%2147483647)%2147483629
theorem Wa{i:Int}(hi:0<=i/\i<=100):0<=i*i/\i*i<=10000:=by refine⟨a9Y hi.1 hi.1,?_⟩;have:=a9Z hi.2 hi.2 hi.1 (by decide);lia
theorem j0{o:Option α}{r:α}{Q:α->Prop}(h:o=a7 r)(q:Q r):W o Q:=⟨r,h,q⟩
theorem dR{Q:jz}(e:o=fin a)(h:W a λp=>match p.1 with|.rt d=>Q (d,p.2.2)|.nx=>Q (.non,p.2.2)|_=>False):W o Q:=e▸W_fin.mpr h
theorem bV{C:MS}(h:W (m ρ μ) λp=>W (C (ρ.set i<|a7 p.1) p.2) R):W (aJ (aO i m) C ρ μ) R:=w_mSeq.mpr<|w_mSet.mpr h
theorem iT{C:MS}(h:W (A ρ μ) λp=>p.1=.nx/\W (C p.2.1 p.2.2) R):W (aJ A C ρ μ) R:=w_mSeq.mpr<|bG h λp q=>by rw[q.1];exact q.2
theorem Wb{C:MS}(h:W (m ρ μ) λp=>W (C ρ p.2) R):W (aJ (eE m) C ρ μ) R:=w_mSeq.mpr<|w_mDrop.mpr h
theorem c6(h:W (m ρ μ) λp=>R (.rt p.1,ρ,p.2)):W (aS m ρ μ) R:=w_mRet.mpr h
theorem bS{ds:List D}{Q:jz}(h:ms ρ μ=a7 (ds,μ'))(k:W (g ds μ') Q):W (aH g ms ρ μ) Q:=w_mCall.mpr ⟨_,h,k⟩
theorem eA{Q:jz}(h:W (ms ρ μ) λp=>W (g p.1 p.2) Q):W (aH g ms ρ μ) Q:=w_mCall.mpr h
theorem bJ(h:W (m ρ μ) λp=>W (ms ρ p.2) λq=>Q (p.1::q.1,q.2)):W (aC m ms ρ μ) Q:=w_mCons.mpr h
theorem wJ{Q:jz}(h:W (m ρ μ) λp=>W (g [p.1] p.2) Q):W (aH g (aC m aD) ρ μ) Q:=w_mCall.mpr<|w_mCons.mpr<|bG h λ_ q=>⟨_,rfl,q⟩
theorem wK{C:MS}(h:t ρ μ=a7 (b,μ'))(a:b=b5->W (aJ A C ρ μ') R)(c:b=b4->W (aJ B C ρ μ') R):W (aJ (bE t A B) C ρ μ) R:=by
 refine w_mSeq.mpr<|w_mIfS.mpr ⟨_,h,?_⟩;cases b
 .exact w_mSeq.mp<|c rfl
 .exact w_mSeq.mp<|a rfl
theorem iG(h:W (m ρ μ) λp=>p.1=.bl b/\T (b,p.2)):W (dQ m ρ μ) T:=w_mTru.mpr<|bG h λp ⟨e,q⟩=>by rw[e];exact w_truB.mpr q
theorem wL{C:MS}(h:W (m ρ μ) λp=>R (.rt p.1,ρ,p.2)):W (aJ (aS m) C ρ μ) R:=w_mSeq.mpr<|w_mRet.mpr h
theorem wM{C:MS}(h:W (C ρ μ) R):W (aJ bI C ρ μ) R:=w_mSeq.mpr<|w_mNext.mpr h
theorem fG(h:W (m ρ μ) λp=>∃b,p.1=.bl b/\T (b,p.2)):W (aU m ρ μ) T:=w_mTest.mpr<|bG h λp ⟨b,e,q⟩=>by rw[e];exact q
theorem BI(h:W (s ρ μ) λp=>p.1=b4/\W (t ρ p.2) T):W (fJ s t ρ μ) T:=w_mOrT.mpr<|bG h λp q=>by rw[if_neg<|by rw[q.1];exact a0a];exact q.2
theorem bQ{Q:jz}(d:a ρ μ=a7 (x,μ1))(e:b ρ μ1=a7 (y,c))(k:W (h x y c) Q):W (aB h a b ρ μ) Q:=w_mOp.mpr ⟨_,d,_,e,k⟩
theorem bA{Q:jz}(k:W (a ρ μ) λp=>W (b ρ p.2) λq=>W (h p.1 q.1 q.2) Q):W (aB h a b ρ μ) Q:=w_mOp.mpr k
theorem qP{o:Option a}{r:a}:W o (λx=>x=r)->o=a7 r:=λ⟨_,e,q⟩=>e.trans<|congrArg a7 q
theorem tB k ns i(hi:0<=i/\i<=100)(μ:Hm)(Q:jz)(H:∀μ',μ<+:μ'->Q (.int<|iS ns i,μ')):W (f (k+1) "_law_cell" [.rol<|ns.map D.int,.int i] μ) Q:=by
 have j:=Wa hi;refine dR (VF k _ _ μ)<|wK (b:=decide (i<ns.length)) (μ':=μ) (qP<|fG<|bA ⟨_,rfl,bS rfl<|w_lenR.mpr<|w_ltI.mpr ⟨_,rfl,by rw[ZF]⟩⟩) (λh=>?_) λh=>wM<|wK (b:=ns==[]) (μ':=μ++[.lst []]) (qP<|fG<|bQ rfl rfl<|(V9<|bM _ _).mpr ⟨_,rfl,rfl⟩) (λa=>?_) λa=>wM ?_
 .have h:=of_decide_eq_true h;refine wL<|bQ rfl rfl<|(Hy<|Hx hi.1 h).mpr ?_;have e:iS ns i=ns.getD i.toNat 0:=by unfold iS;rw[if_pos h]
  rw[<- e];exact H _<|a0c _
 .have h:=of_decide_eq_false h;have e:iS ns i=i*i*48271%2147483647:=by unfold iS;rw[if_neg h,if_pos<|by simpa using a]
  refine wL (bA<|bA<|bQ rfl rfl<|(kJ<|.inl<|by lia).mpr ⟨_,rfl,(kJ<|.inr<|by lia).mpr ⟨_,rfl,(iF<|by decide).mpr ?_⟩⟩);rw[<- e];exact H _<|aT _ _
 .have h:=of_decide_eq_false h;have a:ns≠[]:=λz=>by rw[z]at a;cases a
  have g:0<ns.length:=a4f.mpr a;have b:0<=i%(ns.length:Int)/\i%(ns.length:Int)<ns.length:=⟨a5i _<|by lia,a4u _<|by lia⟩;have e:iS ns i=((ns.getD (i%ns.length).toNat 0%2147483629+i*i*69623)*48271%2147483647)*((ns.getD (i%ns.length).toNat 0%2147483629+i*i*69623)*48271%2147483647)%2147483629:=by unfold iS;rw[if_neg h,if_neg a]
  have c:aB bL (aA 1) (aH eM<|aC (aA 0) aD) [a7<|.rol<|ns.map D.int,a7<|.int i,b3] (μ++[.lst []])=a7 (.int<|i%ns.length,μ++[.lst []]):=qP (bA ⟨_,rfl,bS rfl<|w_lenR.mpr<|by rw[ZF];exact(iF<|by lia).mpr rfl⟩);refine bV (bA<|bA<|bA<|bA<|bA ⟨_,rfl,_,c,(Hy<|Hx b.1 b.2).mpr ⟨_,rfl,(iF<|by decide).mpr<|bA<|bQ rfl rfl<|(kJ<|.inl<|by lia).mpr ⟨_,rfl,(kJ<|.inr<|by lia).mpr<|w_addI.mpr ⟨_,rfl,(kJ<|.inr<|by lia).mpr ⟨_,rfl,(iF<|by decide).mpr ?_⟩⟩⟩⟩⟩);generalize hy:(ns.getD (i%ns.length).toNat 0%2147483629+i*i*69623)*48271%2147483647=y at e;have d:0<=y/\y<2147483647:=by rw[<- hy];exact⟨a5i _<|by decide,a4u _<|by decide⟩
  refine c6 (bA<|bQ rfl rfl<|(kJ<|.inl<|by lia).mpr ⟨_,rfl,(iF<|by decide).mpr ?_⟩);rw[<- e];exact H _<|aT _ _
structure Ly where
 a:Int
 b:Int
 c:Int
 d:Int
 e:Int
 g:Int
 deriving DecidableEq
noncomputable abbrev LD(A:Ly):D:=.tup [.int A.a,.int A.b,.int A.c,.int A.d,.int A.e,.int A.g]
noncomputable def Dih(A:Ly):Prop:=(A.b=0/\A.c=0/\(A.a=1\/A.a=-1)/\(A.d=1\/A.d=-1))\/(A.a=0/\A.d=0/\(A.b=1\/A.b=-1)/\(A.c=1\/A.c=-1))
theorem Dih.sm(h:Dih A):(-1<=A.a/\A.a<=1)/\(-1<=A.b/\A.b<=1)/\(-1<=A.c/\A.c<=1)/\(-1<=A.d/\A.d<=1):=by unfold Dih at h;lia
noncomputable def aE(A:Ly)(p:Int×Int):Int×Int:=(A.a*p.1+A.b*p.2+A.e,A.c*p.1+A.d*p.2+A.g)
noncomputable def cE(A B:Ly):Ly:=⟨B.a*A.a+B.b*A.c,B.a*A.b+B.b*A.d,B.c*A.a+B.d*A.c,B.c*A.b+B.d*A.d,B.a*A.e+B.b*A.g+B.e,B.c*A.e+B.d*A.g+B.g⟩
noncomputable def BJ(A:Ly):Ly:=⟨A.a,A.c,A.b,A.d,-(A.a*A.e+A.c*A.g),-(A.b*A.e+A.d*A.g)⟩
noncomputable def c7:Ly:=⟨1,0,0,1,0,0⟩
noncomputable def eN(e:Int×Int):Ly:=
 ⟨(cV (1,0) e).1-(cV (0,0) e).1,(cV (0,1) e).1-(cV (0,0) e).1,(cV (1,0) e).2-(cV (0,0) e).2,(cV (0,1) e).2-(cV (0,0) e).2,(cV (0,0) e).1,(cV (0,0) e).2⟩
noncomputable def eB(A:Ly):Int:=A.a*A.d-A.b*A.c
theorem Ly.ext'{A:Ly}(a:A.a=B.a)(b:A.b=B.b)(c:A.c=B.c)(d:A.d=B.d)(e:A.e=B.e)(g:A.g=B.g):A=B:=by cases A;cases B;simp_all
theorem Hz e:Dih (eN e):=by obtain⟨x,y⟩:=e;unfold Dih eN cV;dsimp only;split<;>split<;>dsimp only<;>lia
theorem HA e:eB (eN e)=-1:=by
 have h:=Hz e;obtain⟨x,y⟩:=e;unfold eB eN cV;dsimp only;split<;>split<;>dsimp only
 .rw[show(0:Int)+(x-y)-(0+(x-y))=0 by lia,show(1:Int)+(x-y)-(0+(x-y))=1 by lia,show(1:Int)-(x-y)-(0-(x-y))=1 by lia,show(0:Int)-(x-y)-(0-(x-y))=0 by lia];rfl
 .rw[show x+y-0-(x+y-0)=0 by lia,show x+y-1-(x+y-0)=-1 by lia];rfl
 .rw[show(1:Int)-0=1 by rfl,show 2*y-1-(2*y-0)=-1 by lia,show(0:Int)-0=0 by rfl,show 2*y-0-(2*y-0)=0 by lia];rfl
 .rw[show 2*x-1-(2*x-0)=-1 by lia,show(1:Int)-0=1 by rfl,show 2*x-0-(2*x-0)=0 by lia,show(0:Int)-0=0 by rfl];rfl
theorem mW e p:aE (eN e) p=cV p e:=by
 obtain⟨x,y⟩:=e;obtain⟨u,v⟩:=p;unfold aE eN cV;dsimp only;split<;>split<;>dsimp only
 .rw[show(0:Int)+(x-y)-(0+(x-y))=0 by lia,show(1:Int)+(x-y)-(0+(x-y))=1 by lia,show(1:Int)-(x-y)-(0-(x-y))=1 by lia,show(0:Int)-(x-y)-(0-(x-y))=0 by lia];refine a0S ?_ ?_<;>dsimp only<;>lia
 .rw[show x+y-0-(x+y-0)=0 by lia,show x+y-1-(x+y-0)=-1 by lia];refine a0S ?_ ?_<;>dsimp only<;>lia
 .rw[show(1:Int)-0=1 by rfl,show 2*y-1-(2*y-0)=-1 by lia,show(0:Int)-0=0 by rfl,show 2*y-0-(2*y-0)=0 by lia];refine a0S ?_ ?_<;>dsimp only<;>lia
 .rw[show 2*x-1-(2*x-0)=-1 by lia,show(1:Int)-0=1 by rfl,show 2*x-0-(2*x-0)=0 by lia,show(0:Int)-0=0 by rfl];refine a0S ?_ ?_<;>dsimp only<;>lia
theorem lK A B p:aE (cE A B) p=aE B (aE A p):=by unfold aE cE;refine a0S ?_ ?_<;>dsimp only<;>grind
theorem BK A B:eB (cE A B)=eB A*eB B:=by unfold eB cE;dsimp only;grind
theorem Wc A:cE A c7=A:=by unfold cE c7;exact Ly.ext' (by dsimp only;lia) (by dsimp only;lia) (by dsimp only;lia) (by dsimp only;lia) (by dsimp only;lia)<|by dsimp only;lia
theorem HB A:cE c7 A=A:=by unfold cE c7;exact Ly.ext' (by dsimp only;lia) (by dsimp only;lia) (by dsimp only;lia) (by dsimp only;lia) (by dsimp only;lia)<|by dsimp only;lia
theorem BL A B E:cE (cE A B) E=cE A (cE B E):=by unfold cE;refine Ly.ext' ?_ ?_ ?_ ?_ ?_ ?_<;>dsimp only<;>grind
theorem HC:Dih c7:=.inl ⟨rfl,rfl,.inl rfl,.inl rfl⟩
theorem BM(h:Dih A):∃e g,A=⟨1,0,0,1,e,g⟩\/A=⟨1,0,0,-1,e,g⟩\/A=⟨-1,0,0,1,e,g⟩\/A=⟨-1,0,0,-1,e,g⟩\/A=⟨0,1,1,0,e,g⟩\/A=⟨0,1,-1,0,e,g⟩\/A=⟨0,-1,1,0,e,g⟩\/A=⟨0,-1,-1,0,e,g⟩:=by obtain⟨a,b,c,d,e,g⟩:=A;refine⟨e,g,?_⟩;simp only[Dih]at h;rcases h with⟨rfl,rfl,rfl|rfl,rfl|rfl⟩|⟨rfl,rfl,rfl|rfl,rfl|rfl⟩<;>simp
theorem mZ(a:x=1\/x=-1)(b:y=1\/y=-1):x*y=1\/x*y=-1:=by rcases a with rfl|rfl<;>rcases b with rfl|rfl<;>decide
theorem BN(hA:Dih A)(hB:Dih B):Dih (cE A B):=by
 unfold Dih cE;dsimp only;rcases hA with⟨c,d,a,b⟩|⟨c,d,a,b⟩<;>rcases hB with⟨k1,k2,k3,k4⟩|⟨k1,k2,k3,k4⟩<;>rw[c,d,k1,k2]<;>simp only[Int.mul_zero,Int.zero_mul,a6i,Int.zero_add,true_and]
 .exact .inl ⟨mZ k3 a,mZ k4 b⟩
 .exact .inr ⟨mZ k3 b,mZ k4 a⟩
 .exact .inr ⟨mZ k3 a,mZ k4 b⟩
 .exact .inl ⟨mZ k3 b,mZ k4 a⟩
theorem HD(hA:Dih A)p:aE (BJ A) (aE A p)=p:=by obtain⟨e,g,h⟩:=BM hA;rcases h with rfl|rfl|rfl|rfl|rfl|rfl|rfl|rfl<;>(refine a0S ?_ ?_<;>dsimp only[aE,BJ]<;>lia)
theorem HE(h:∀p,aE A p=aE B p):A=B:=by have a:=h (0,0);have b:=h (1,0);have c:=h (0,1);unfold aE at a b c;simp only[a9h]at a b c;exact Ly.ext' (by lia) (by lia) (by lia) (by lia) (by lia)<|by lia
theorem tD p:aE c7 p=p:=by unfold aE c7;refine a0S ?_ ?_<;>dsimp only<;>lia
theorem We:([a,b,c,d,e,g]:List D).length<=ZX:=by show(6:Nat)<=ZX;decide
theorem HF k p q r μ(Q:jz):W (f (k+1) "laying_by" [PP p,PP q,PP r] μ) Q↔Q (LD ⟨q.1-p.1,r.1-p.1,q.2-p.2,r.2-p.2,p.1,p.2⟩,μ):=by rw[Vb,W_fin];simp only[w_mRet,w_mTup,w_mCons,bT,w_mOp,bC,bF,cT,w_it20,w_it21,w_subI,We,true_and]
theorem Wg k x y μ(Q:jz):W (f (k+3) "mirror_in" [P x y] μ) Q↔Q (LD<|eN (x,y),μ):=by rw[Vc,W_fin];simp only[w_mRet,w_mCall,w_mCons,bT,w_mTup,bC,cT,fT,true_and,Hv,HF];rfl
theorem kL(h:-1<=i/\i<=1){Q:jz}:W (bO (.int i) (.int j) μ) Q↔Q (.int<|i*j,μ):=kJ<|.inl ⟨by lia,by lia⟩
theorem qQ k A(hA:Dih A)x y μ(Q:jz):W (f (k+1) "led" [LD A,P x y] μ) Q↔Q (PP<|aE A (x,y),μ):=by obtain⟨a,b,c,d⟩:=hA.sm;rw[Vd,W_fin];simp only[w_mSeq,w_mSet,w_mRet,w_mTup,w_mCons,bT,w_mOp,bC,bF,cT,w_it20,w_it21,G0,G3,G4,G5,UN,UO,a0k,a0m,kL a,kL b,kL c,kL d,w_addI,fT,true_and];rfl
theorem Wh k A B(hA:Dih A)(hB:Dih B)μ(Q:jz):W (f (k+2) "then" [LD A,LD B] μ) Q↔Q (LD<|cE A B,μ):=by
 rw[Ve,W_fin];simp only[w_mRet,w_mCall,w_mCons,bT,w_mTup,bC,bF,cT,fT,true_and,qQ _ A hA,qQ _ B hB,HF];have e:(⟨(aE B<|aE A (1,0)).1-(aE B<|aE A (0,0)).1,(aE B<|aE A (0,1)).1-(aE B<|aE A (0,0)).1,(aE B<|aE A (1,0)).2-(aE B<|aE A (0,0)).2,(aE B<|aE A (0,1)).2-(aE B<|aE A (0,0)).2,(aE B<|aE A (0,0)).1,(aE B<|aE A (0,0)).2⟩:Ly)=cE A B:=by unfold aE cE;refine Ly.ext' ?_ ?_ ?_ ?_ ?_ ?_<;>dsimp only<;>grind
 rw[<- e]
theorem Wi k A(hA:Dih A)μ(Q:jz):W (f (k+1) "is_turned" [LD A] μ) Q↔Q (.bl<|eB A==-1,μ):=by obtain⟨a,b,c,d⟩:=hA.sm;rw[Vf,W_fin];simp only[w_mRet,w_mOp,bC,cT,wD,G0,G3,G4,G5,kL a,kL b,w_subI,w_eqI];rfl
noncomputable def jN(lo:Int)(n m:Nat):jq:=(a0L n).flatMap λ(i:Nat)=>(a0L m).map λ(j:Nat)=>(lo+(i:Int),lo+(j:Int))
noncomputable def j4(lo x:Int)(m:Nat):jq:=(a0L m).map λ(j:Nat)=>(x,lo+(j:Int))
theorem HG lo n m:jN lo (n+1) m=jN lo n m++j4 lo (lo+(n:Int)) m:=by unfold jN j4;rw[a5d,a2J];simp
theorem HH lo x m:j4 lo x (m+1)=j4 lo x m++[(x,lo+(m:Int))]:=by unfold j4;rw[a5d,Z7];rfl
theorem HJ lo x m:(j4 lo x m).length=m:=by unfold j4;simp
theorem HK lo m:∀n,(jN lo n m).length=n*m
 |0=>by simp[jN]
 |n+1=>by rw[HG,ZO,HK lo m n,HJ,a6h]
theorem HL{μ:Hm}:(μ.set a c).set a c'=μ.set a c':=a5T ..
theorem eQ{μ:Hm}(h:μ[a]?=a7 c):(μ.set a c')[a]?=a7 c':=by rw[a0t (ZG.mp h).1]
theorem wN(μ:Hm)(c c':C):(μ++[c]).set μ.length c'=μ++[c']:=by rw[a3O _ _<|ZN _];simp
theorem tE{μ:Hm}(h:μ[a]?=a7 c):μ.set a c=μ:=by obtain⟨b,rfl⟩:=ZG.mp h;exact List.set_getElem_self b
noncomputable abbrev HM:MS:=eE<|f7 gM (aA 2)<|aC (bH<|aC (aA 3)<|aC (aA 4) aD) aD
theorem Wj T(pr:Int->Int->Bool)c d a x(l:∀y μ Q,W (T [a7 c,a7 d,a7<|.loc a,a7<|.int x,a7<|.int y] μ) Q↔Q (pr x y,μ))lo m(ps:jq)(n:ps.length+m<=1000)μ(e:μ[a]?=a7 (.lst<|ps.map PP))o Q(b:∀o,Q (.nx,[a7 c,a7 d,a7<|.loc a,a7<|.int x,o],μ.set a<|.lst<|(ps++(j4 lo x m).filter λp=>pr p.1 p.2).map PP)):W (eF (iB lo m) (cP 4) (bE T HM bI) (m+1) 0 [a7 c,a7 d,a7<|.loc a,a7<|.int x,o] μ) Q:=by
 refine wF (λi j g=>i<=m/\g=μ.set a (.lst<|(ps++(j4 lo x i).filter λp=>pr p.1 p.2).map PP)/\∃o,j=[a7 c,a7 d,a7<|.loc a,a7<|.int x,o]) ⟨a0I _,?_,o,rfl⟩ ?_ ?_
 .simp only[j4,a9B,a2U,a1o,a0p];exact(tE e).symm
 .rintro i j h hi ⟨_,rfl,o,rfl⟩;refine⟨_,rfl,?_⟩;simp only[a0k,a0m,w_mIfS];rw[l];cases k:pr x (lo+(i:Int))with
  |false=>simp only[Z5,if_false,w_mNext];refine⟨hi,?_,_,rfl⟩;rw[HH,a0Y];simp[k]|true=>
   simp only[if_true,w_mDrop];refine mU ?_;simp only[bC,bF];refine⟨oR<|eQ e,?_⟩;simp only[w_mCons,bT,w_mTup,bC,bF,fT,true_and];refine(qM (eQ e) ?_).mpr ?_
   .have:=a0G (λp=>pr p.1 p.2)<|j4 lo x i;rw[HJ]at this;rw[ZF,ZO,a0n];lia
   refine⟨hi,?_,_,rfl⟩;rw[HL,HH,a0Y];simp[k,PP,P]
 .rintro j h ⟨_,rfl,o,rfl⟩;exact b o
theorem HN T(pr:Int->Int->Bool)b c a(k:MI)lo m(hit:∀o1 o2 μ Q,W (k [a7 b,a7 c,a7<|.loc a,o1,o2] μ) Q↔Q (iB lo m,m+1,μ))(q:∀x y μ Q,W (T [a7 b,a7 c,a7<|.loc a,a7<|.int x,a7<|.int y] μ) Q↔Q (pr x y,μ))n(s:n*m+m<=900)μ(j:μ[a]?=a7 (.lst []))Q(d:∀o1 o2,Q (.nx,[a7 b,a7 c,a7<|.loc a,o1,o2],μ.set a<|.lst<|((jN lo n m).filter λp=>pr p.1 p.2).map PP)):W (eF (iB lo n) (cP 3) (b7 k (cP 4)<|bE T HM bI) (n+1) 0 [a7 b,a7 c,a7<|.loc a,b3,b3] μ) Q:=by
 refine wF (λi h e=>i<=n/\e=μ.set a (.lst<|((jN lo i m).filter λp=>pr p.1 p.2).map PP)/\∃o1 o2,h=[a7 b,a7 c,a7<|.loc a,o1,o2]) ⟨a0I _,?_,b3,b3,rfl⟩ ?_ ?_
 .simp only[jN,a9B,a6q,a1o,a2U];exact(tE j).symm
 .rintro i h g hi ⟨_,rfl,o1,o2,rfl⟩;refine⟨_,rfl,?_⟩;simp only[a0k,a0m,w_mForI];rw[hit];refine Wj T pr b c a _ (q _) lo m _ ?_ _ (eQ j) _ _ λo=>?_
  .have l:=a0G (λp=>pr p.1 p.2)<|jN lo i m;rw[HK]at l;have r:i*m<=n*m:=Nat.mul_le_mul_right _<|a4l hi;lia
  .refine⟨hi,?_,_,_,rfl⟩;rw[HL,HG,a0Y]
 .rintro h g ⟨_,rfl,o1,o2,rfl⟩;exact d o1 o2
noncomputable def BO(x y:Int):Bool:=(x%4==2&&y%2==1)||(x%2==1&&y%4==2)
noncomputable def c8(w h:Int):jq:=(jN 0 (4*w).toNat (4*h).toNat).filter λp=>BO p.1 p.2
theorem Wl{w h:Int}(hw:1<=w/\w<=3)(e:1<=h/\h<=3):(4*w).toNat*(4*h).toNat+(4*h).toNat<=900/\(4*w-1).toNat*(4*h-1).toNat+(4*h-1).toNat<=900:=by
 have a:(4*w).toNat<=12:=by lia
 have b:(4*h).toNat<=12:=by lia
 have c:=a3n a b;have d:(4*w-1).toNat*(4*h-1).toNat<=12*12:=a3n (by lia) (by lia);lia
theorem HP k w h(hw:1<=w/\w<=3)(a:1<=h/\h<=3)μ(Q:jz)(H:Q (.loc μ.length,μ++[.lst<|(c8 w h).map PP])):W (f (k+1) "_law_quarters" [.int w,.int h] μ) Q:=by
 rw[VG,W_fin];simp only[w_mSeq,w_mSet,w_mLst,bT];refine⟨a0I _,?_⟩;simp only[a0k,a0m,w_mForI];rw[G6 (j:=0)];simp only[w_mCons,bT,cT,w_mOp,bC,bF,qO];refine⟨by lia,?_⟩;refine HN _ BO _ _ _ _ 0 (4*h).toNat (λo1 o2 μ Q=>?_) (λx y μ Q=>?_) (4*w).toNat (Wl hw a).1 _ (bM _ _) _ λo1 o2=>?_
 .rw[G6 (j:=0)];simp only[w_mCons,bT,cT,w_mOp,bC,bF,qO];exact and_iff_right<|by lia
 .simp only[w_mOrT,w_mAndT,w_mTest,w_mOp,bC,bF,cT,BC,BE,w_eqI,w_addI];unfold BO;cases x%4==2<;>cases y%2==1<;>cases x%2==1<;>cases y%4==2<;>simp
 .simp only[w_mRet,bC,bF];rw[wN];exact H
noncomputable def a9(p:Int×Int):List Int:=[p.1,p.2]
theorem lO{a:jq}{i:Nat}(h:(a.map PP)[i]?=a7 d):∃p,a[i]?=a7 p/\d=PP p:=by rw[ZU]at h;obtain⟨p,b,c⟩:=ZH.mp h;exact⟨p,b,c.symm⟩
theorem cF q:dN (PP q)=a7 (a9 q):=rfl
noncomputable abbrev Kv:=List<|(Int×Int)×Ly
noncomputable def iU(kvs:Kv):jx:=kvs.map λp=>(a9 p.1,LD p.2)
theorem BP(nd:(l.map (·.1)).Nodup)(h:(k,d)∈l):b8 l k=a7 d:=by
 induction l with
 |nil=>cases h|cons p l a=>
  rw[ZR,a1m]at nd;unfold b8;rw[a2W];rcases a0g.mp h with h|h
  .rw[<- h];simp
  .have:decide (p.1=k)=false:=decide_eq_false λz=>nd.1<|ZQ.mpr ⟨_,h,z.symm⟩;rw[this];exact a nd.2 h
theorem kM(h:a9 p=a9 q):p=q:=by unfold a9 at h;injection h with h1 h2;injection h2 with h2;exact a0S h1 h2
theorem Wm:W (dH [i1,i2,i3,h,i,j] (.tup [a,b,c,d,e,g]) k μ) Q↔Q ((((((k.set i1<|a7 a).set i2<|a7 b).set i3<|a7 c).set h<|a7 d).set i<|a7 e).set j<|a7 g):=W_some
theorem Wn(nd:(kvs.map (·.1)).Nodup):((iU kvs).map (·.1)).Nodup:=by
 have e:(iU kvs).map (·.1)=(kvs.map (·.1)).map a9:=by unfold iU;rw[ZS,ZS];rfl
 rw[e];exact a3u _ (λa b c z=>c<|kM z) nd
noncomputable abbrev Gr:=List<|(Int×Int)×jq
noncomputable def e6(G:Gr)(p q:Int×Int):Gr:=if(G.map (·.1)).contains p then G.map (λg=>if g.1=p then(g.1,g.2++[q])else g)else G++[(p,[q])]
noncomputable abbrev Zr:=List<|(Int×Int)×jq×Nat
noncomputable def GZ(Z:Zr):Gr:=Z.map λz=>(z.1,z.2.1)
noncomputable def aM(Z:Zr):jx:=Z.map λz=>(a9 z.1,D.loc z.2.2)
structure GI(μ0 μ:Hm)(a:Nat)(Z:Zr):Prop where
 pre:μ0<+:μ
 lo:μ0.length<=a
 dic:μ[a]?=a7 (.dT<|aM Z)
 kd:(Z.map (·.1)).Nodup
 bd:(Z.map (·.2.2)).Nodup
 at_:∀z∈Z,μ0.length<=z.2.2/\μ[z.2.2]?=a7 (.lst<|z.2.1.map PP)
theorem m3(d:(Z.map (·.1)).Nodup)(h:z∈Z):b8 (aM Z) (a9 z.1)=a7 (.loc z.2.2):=by
 refine BP ?_<|ZQ.mpr ⟨z,h,rfl⟩;have e:(aM Z).map (·.1)=(Z.map (·.1)).map a9:=by unfold aM;rw[ZS,ZS];rfl
 rw[e];exact a3u _ (λa b c x=>c<|kM x) d
theorem wO(h:p∉Z.map (·.1)):b8 (aM Z) (a9 p)=none:=by
 unfold b8;rw[a5L.mpr]
 .rfl
 .intro x a;obtain⟨z,b,rfl⟩:=ZQ.mp a;rw[decide_eq_true_iff];exact λe=>h<|ZQ.mpr ⟨z,b,kM e⟩
theorem tF{Z:Zr}(h:p∈Z.map (·.1)):∃z∈Z,z.1=p:=by obtain⟨z,a,b⟩:=ZQ.mp h;exact⟨z,a,b⟩
theorem Wo{Z:Zr}(b:(Z.map (·.1)).Nodup)(hz:z∈Z)(c:y∈Z)(e:z.1=y.1):z=y:=by
 induction Z with
 |nil=>cases hz|cons x Z d=>
  rw[ZR,a1m]at b;rcases a0g.mp hz with a|a<;>rcases a0g.mp c with h2|h2
  .rw[a,h2]
  .exact(b.1<|ZQ.mpr ⟨y,h2,by rw[<- a];exact e.symm⟩).elim
  .exact(b.1<|ZQ.mpr ⟨z,a,by rw[<- h2];exact e⟩).elim
  .exact d b.2 a h2
theorem Wq{Z:Zr}(b:(Z.map (·.2.2)).Nodup)(hz:z∈Z)(c:y∈Z)(e:z.2.2=y.2.2):z=y:=by
 induction Z with
 |nil=>cases hz|cons x Z d=>
  rw[ZR,a1m]at b;rcases a0g.mp hz with a|a<;>rcases a0g.mp c with h2|h2
  .rw[a,h2]
  .exact(b.1<|ZQ.mpr ⟨y,h2,by rw[<- a];exact e.symm⟩).elim
  .exact(b.1<|ZQ.mpr ⟨z,a,by rw[<- h2];exact e⟩).elim
  .exact d b.2 a h2
theorem gR Z:(GZ Z).map (·.1)=Z.map (·.1):=by unfold GZ;rw[ZS];rfl
theorem Wr(h:p∈Z.map (·.1)):e6 (GZ Z) p q=GZ (Z.map λz=>if z.1=p then(z.1,z.2.1++[q],z.2.2)else z):=by
 unfold e6;rw[gR,if_pos<|a0H.mpr h];unfold GZ;rw[ZS,ZS];refine a0q λz _=>?_;show(if z.1=p then(z.1,z.2.1++[q])else(z.1,z.2.1))=_;by_cases e:z.1=p
 .simp[e]
 .simp[e]
theorem Ws(h:p∉Z.map (·.1)):e6 (GZ Z) p q=GZ (Z++[(p,[q],b)]):=by unfold e6;rw[gR,if_neg λz=>h<|a0H.mp z];unfold GZ;rw[Z7];rfl
theorem GI.more{μ':Hm}(I:GI μ0 μ a Z)(h:μ<+:μ'):GI μ0 μ' a Z:=⟨I.pre.trans h,I.lo,aG h I.dic,I.kd,I.bd,λz hz=>⟨(I.at_ z hz).1,aG h (I.at_ z hz).2⟩⟩
theorem GI.ne(I:GI μ0 μ a Z)(hz:z∈Z):z.2.2≠a:=λe=>by have b:=(I.at_ z hz).2;rw[e,I.dic]at b;cases b
theorem GI.hit(I:GI μ0 μ a Z)(hz:z∈Z)q:
  GI μ0 (μ.set z.2.2<|.lst<|z.2.1.map PP++[PP q]) a (Z.map λy=>if y.1=z.1 then(y.1,y.2.1++[q],y.2.2)else y):=by
 have h:(Z.map λy=>if y.1=z.1 then(y.1,y.2.1++[q],y.2.2)else y).map (·.1)=Z.map (·.1):=by rw[ZS];refine a0q λy _=>?_;show(if y.1=z.1 then(y.1,y.2.1++[q],y.2.2)else y).1=y.1;split<;>rfl
 have g:(Z.map λy=>if y.1=z.1 then(y.1,y.2.1++[q],y.2.2)else y).map (·.2.2)=Z.map (·.2.2):=by rw[ZS];refine a0q λy _=>?_;show(if y.1=z.1 then(y.1,y.2.1++[q],y.2.2)else y).2.2=y.2.2;split<;>rfl
 have i:aM (Z.map λy=>if y.1=z.1 then(y.1,y.2.1++[q],y.2.2)else y)=aM Z:=by unfold aM;rw[ZS];refine a0q λy _=>?_;show(a9 (if y.1=z.1 then(y.1,y.2.1++[q],y.2.2)else y).1,D.loc (if y.1=z.1 then(y.1,y.2.1++[q],y.2.2)else y).2.2)=_;split<;>rfl
 refine⟨fL I.pre (I.at_ z hz).1 _,I.lo,?_,by rw[h];exact I.kd,by rw[g];exact I.bd,λy j=>?_⟩
 .rw[i,ZP<|I.ne hz];exact I.dic
 .obtain⟨x,b,rfl⟩:=ZQ.mp j;obtain⟨c,d⟩:=I.at_ x b;by_cases e:x.1=z.1
  .have:x=z:=Wo I.kd b hz e;subst this;rw[if_pos rfl];refine⟨c,?_⟩;show(μ.set x.2.2 _)[x.2.2]?=_;rw[eQ d,Z7];rfl
  .rw[if_neg e];refine⟨c,?_⟩;rw[ZP λw=>e<|by rw[Wq I.bd b hz w.symm]];exact d
theorem HQ(h:p∉Z.map (·.1)):dW (aM Z) (a9 p) (.loc b)=aM (Z++[(p,qs,b)]):=by unfold dW;rw[wO h,if_neg<|by simp];unfold aM;rw[Z7];rfl
theorem GI.new(I:GI μ0 μ a Z)(j:p∉Z.map (·.1))(h:μ[b]?=a7 (.lst<|qs.map PP))(l:μ0.length<=b)(m:∀z∈Z,z.2.2≠b):
  GI μ0 (μ.set a<|.dT<|dW (aM Z) (a9 p)<|.loc b) a (Z++[(p,qs,b)]):=by
 have i:b≠a:=λe=>by rw[e,I.dic]at h;cases h
 refine⟨fL I.pre I.lo _,I.lo,by rw[eQ I.dic,HQ j],?_,?_,λz c=>?_⟩
 .rw[Z7,a2e];exact⟨I.kd,by simp,λx g y d e=>by
   simp only[ZR,a2U,a0r]at d;rw[e,d]at g;exact j g⟩
 .rw[Z7,a2e];exact⟨I.bd,by simp,λx g y d e=>by
   simp only[ZR,a2U,a0r]at d;obtain⟨z,c,k⟩:=ZQ.mp g;exact m z c<|by rw[k,e,d]⟩
 .rcases a0M.mp c with c|c
  .rw[ZP<|a0o<|I.ne c];exact I.at_ z c
  .rw[a0r.mp c];exact⟨l,by rw[ZP<|a0o i];exact h⟩
theorem Wt(h:p∈Z.map (·.1))(d:(Z.map (·.1)).Nodup):dW (aM Z) (a9 p) (.loc b)=aM (Z.map λy=>if y.1=p then(y.1,qs,b)else y):=by
 obtain⟨z,c,e⟩:=tF h;unfold dW;rw[<- e,m3 d c,Option.isSome_some,if_pos rfl];unfold aM;rw[ZS,ZS];refine a0q λy _=>?_;show(if a9 y.1=a9 z.1 then(a9 y.1,D.loc b)else(a9 y.1,D.loc y.2.2))=(a9 (if y.1=z.1 then(y.1,qs,b)else y).1,D.loc (if y.1=z.1 then(y.1,qs,b)else y).2.2);by_cases a:y.1=z.1
 .rw[if_pos<|by rw[a],if_pos a]
 .rw[if_neg λw=>a<|kM w,if_neg a]
theorem HR{kvs:jx}{Q:jz}(h:μ[a]?=a7 (.dT kvs))(b:kvs≠[]/\(kvs.map λp=>Tb.hashT p.1).Nodup):W (oO [.loc a] μ) Q↔Q (.loc μ.length,μ++[.dT kvs]):=by simp only[oO,h];rw[if_pos b.2];exact W_some
theorem oT{f:D->List D->Hm->jk}{Q:jz}(h:W (b a μ) λp=>qH p.2 p.1=b5/\W (ms a p.2) λq=>W (f p.1 q.1 q.2) Q):W (iE f b ms a μ) Q:=by unfold iE;rw[W_bind];refine bG h λp q=>?_;rw[q.1];exact W_bind.mpr q.2
theorem oU{kvs:jx}(h:μ[a]?=a7 (.dT kvs)):qH μ (.loc a)=true:=by simp only[qH,h]
theorem Wu{ds:List D}{Q:jz}(hA:μ[A]?=a7 (.lst ds))(hB:μ[B]?=a7 (.lst [])):W (aR b4 (.loc A) (.loc B) μ) Q↔Q (.bl ds.isEmpty,μ):=by
 have a:∀{x:Nat}{xs:List D},μ[x]?=a7 (.lst xs)->dZ μ (.loc x)=a7 (.lst xs):=λh=>by simp only[dZ,h]
 have e:c5 8 μ (.loc A) (.loc B)=a7 ds.isEmpty:=by show(dZ μ<|.loc A).bind (λu=>(dZ μ<|.loc B).bind λv=>nU (c5 7 μ) u v)=_;rw[a hA,a hB];show hW (c5 7 μ) ds []=_;cases ds<;>rfl
 unfold aR;rw[e];exact W_some
noncomputable def Wv(a:Nat)(Z:Zr)(μ μ':Hm):Prop:=∀c x,μ[c]?=a7 x->c≠a->(∀z∈Z,z.2.2≠c)->μ'[c]?=a7 x
theorem Ww{Z:Zr}{b:Nat}(h:p∉Z.map (·.1)):((Z++[(p,[],b)]:Zr).map λy=>if y.1=p then(y.1,y.2.1++[q],y.2.2)else y)=Z++[(p,[q],b)]:=by
 rw[Z7];have:(Z.map λy=>if y.1=p then(y.1,y.2.1++[q],y.2.2)else y)=Z:=by have e:(Z.map λy=>if y.1=p then(y.1,y.2.1++[q],y.2.2)else y)=Z.map id:=a0q λy a=>if_neg λe=>h<|ZQ.mpr ⟨y,a,e⟩;rw[e,a6w]
 rw[this];simp
theorem m4 Z:(aM Z).length=Z.length:=ZF ..
theorem HS(I:GI μ0 μ a Z)p q(J:Z.length<1000)(E:∀z∈Z,z.2.1.length<1000)(Q:jz)(H:∀k g,GI μ0 g a k->GZ k=e6 (GZ Z) p q->Wv a Z μ g->(∀z∈k,(∃y∈Z,y.2.2=z.2.2)\/μ.length<=z.2.2)->Q (.non,g)):
  W (mJ (.loc a) [PP p,.loc μ.length]<|μ++[.lst []]) λr=>l7 r.2 r.1=b5/\W (gM r.1 [PP q] r.2) Q:=by
 have h:=I.more<|aT μ<|C.lst [];have A:=bM μ<|C.lst [];have B:μ0.length<=μ.length:=I.pre.length_le;have m:∀z∈Z,z.2.2<μ.length:=λz b=>(ZG.mp (I.at_ z b).2).1;have K:a<μ.length:=(ZG.mp I.dic).1;have j:∀c x,μ[c]?=a7 x->(μ++[C.lst []])[c]?=a7 x:=λc x e=>aG (aT _ _) e;by_cases i:p∈Z.map (·.1)
 .obtain⟨z,b,rfl⟩:=tF i;simp only[mJ,h.dic,cF,ZY,m3 I.kd b];refine W_some.mpr ⟨oR (h.at_ z b).2,(qM (h.at_ z b).2<|by rw[ZF,a0n];have:=E z b;lia).mpr ?_⟩;refine H _ _ (h.hit b q) (Wr i).symm (λc x e u v=>?_) λy d=>?_
  .rw[ZP<|v z b];exact j c x e
  .obtain⟨x,G,rfl⟩:=ZQ.mp d;refine .inl ⟨x,G,?_⟩;split<;>rfl
 .have l:(aM Z).length<ZX:=by rw[m4,a0n];lia
  simp only[mJ,h.dic,cF,ZY,wO i,if_pos l];have n:=h.new i (qs:=[]) (b:=μ.length) A B λz b=>Z6<|m z b;have w:(p,([]:jq),μ.length)∈Z++[(p,[],μ.length)]:=a0M.mpr<|.inr<|a0r.mpr rfl;have s:=(n.at_ _ w).2;refine W_some.mpr ⟨oR s,(qM s<|by rw[ZF,a0n];show(0:Nat)<_;decide).mpr ?_⟩;have o:=n.hit w q;rw[Ww i]at o;refine H _ _ o (Ws i).symm (λc x e u v=>?_) λy d=>?_
  .have hc:c<μ.length:=(ZG.mp e).1;rw[ZP<|by show μ.length≠c;lia,ZP<|a0o u];exact j c x e
  .rcases a0M.mp d with d|d
   .exact .inl ⟨y,d,rfl⟩
   .rw[a0r.mp d];exact .inr<|ZN _
noncomputable def cZ(g:Int×Int->Int×Int)(qs:jq):Gr:=qs.foldl (λG q=>e6 G (g q) q) []
theorem HU{qs:jq}(h:qs[i]?=a7 q):cZ g (qs.take<|i+1)=e6 (cZ g<|qs.take i) (g q) q:=by unfold cZ;rw[a8V,h,a5U];rfl
theorem Wx G p q:(e6 G p q).length<=G.length+1:=by unfold e6;split<;>simp
theorem Wy(h:∀g∈G,g.2.length<=n):∀g∈e6 G p q,g.2.length<=n+1:=by
 intro g a;unfold e6 at a;split at a
 .obtain⟨x,b,rfl⟩:=ZQ.mp a;have:=h x b;split
  .simp;lia
  .lia
 .rcases a0M.mp a with a|a
  .have:=h g a;lia
  .rw[a0r.mp a];simp
theorem wQ g qs:(cZ g qs).length<=qs.length/\∀x∈cZ g qs,x.2.length<=qs.length:=by
 suffices ∀(qs:jq)(G:Gr)(n:Nat),G.length<=n->(∀x∈G,x.2.length<=n)->(qs.foldl (λG q=>e6 G (g q) q) G).length<=n+qs.length/\∀x∈qs.foldl (λG q=>e6 G (g q) q) G,x.2.length<=n+qs.length by have:=this qs [] 0 (ZN _) λx c=>nomatch c;unfold cZ;simpa using this
 intro qs;induction qs with
 |nil=>exact λG n b a=>⟨b,a⟩|cons q qs d=>intro G n b a;have:=d (e6 G (g q) q) (n+1) (by have:=Wx G (g q) q;lia)<|Wy a;rw[Z8,show n+(qs.length+1)=n+1+qs.length by lia];exact this
theorem iV Z:(GZ Z).length=Z.length:=ZF ..
theorem HV(e:GZ Z=G)(h:G.length<=n/\∀x∈G,x.2.length<=n):Z.length<=n/\∀z∈Z,z.2.1.length<=n:=by subst e;exact⟨by rw[<- iV];exact h.1,λz a=>h.2 (z.1,z.2.1)<|ZQ.mpr ⟨z,a,rfl⟩⟩
noncomputable def cA(k:Int)(p:Int×Int):Int:=if k=0 then p.2 else if k=1 then p.1 else if k=2 then p.1-p.2 else p.1+p.2
noncomputable def aZ(k n:Int):Ly:=if k=0 then⟨1,0,0,-1,0,2*n⟩else if k=1 then⟨-1,0,0,1,2*n,0⟩else if k=2 then⟨0,1,1,0,n,-n⟩else⟨0,-1,-1,0,n,n⟩
theorem tG k n:Dih (aZ k n):=by
 unfold aZ;split
 .exact .inl ⟨rfl,rfl,.inl rfl,.inr rfl⟩
 split
 .exact .inl ⟨rfl,rfl,.inr rfl,.inl rfl⟩
 split
 .exact .inr ⟨rfl,rfl,.inl rfl,.inl rfl⟩
 .exact .inr ⟨rfl,rfl,.inr rfl,.inr rfl⟩
theorem BQ k n p:aE (aZ k n) (aE (aZ k n) p)=p:=by
 obtain⟨x,y⟩:=p;unfold aZ aE;split
 .refine a0S ?_ ?_<;>dsimp only<;>lia
 split
 .refine a0S ?_ ?_<;>dsimp only<;>lia
 split
 .refine a0S ?_ ?_<;>dsimp only<;>lia
 .refine a0S ?_ ?_<;>dsimp only<;>lia
noncomputable def aQ(G:Gr)(p:Int×Int):jq:=match G.find? (λg=>decide<|g.1=p)with|some g=>g.2|none=>[]
noncomputable def fU(G:Gr)(p:Int×Int)(L:jq):Gr:=if(G.map (·.1)).contains p then G.map (λg=>if g.1=p then(g.1,L)else g)else G++[(p,L)]
theorem tH p:aQ [] p=[]:=rfl
theorem gT g(G:Gr)p:aQ (g::G) p=if g.1=p then g.2 else aQ G p:=by
 unfold aQ;rw[a2W];by_cases e:g.1=p
 .rw[if_pos e,decide_eq_true e]
 .rw[if_neg e,decide_eq_false e]
theorem gD(a:(G.map (·.1)).Nodup)(h:g∈G):aQ G g.1=g.2:=by
 induction G with
 |nil=>cases h|cons x G b=>
  rw[ZR,a1m]at a;rw[gT];rcases a0g.mp h with rfl|h
  .exact if_pos rfl
  .rw[if_neg λe:x.1=g.1=>a.1<|by rw[e];exact ZQ.mpr ⟨g,h,rfl⟩,b a.2 h]
theorem m5(h:p∉G.map (·.1)):aQ G p=[]:=by
 induction G with
 |nil=>rfl|cons x G a=>rw[ZR,a0g,not_or]at h;rw[gT,if_neg λe=>h.1 e.symm,a h.2]
theorem HW(h:p∉G.map (·.1)):aQ (G++K) p=aQ K p:=by
 induction G with
 |nil=>rfl|cons x G a=>rw[ZR,a0g,not_or]at h;rw[a0W,gT,if_neg λe=>h.1 e.symm,a h.2]
theorem atG_append'(h:p∈G.map (·.1)):aQ (G++K) p=aQ G p:=by
 induction G with
 |nil=>cases h|cons x G a=>
  rw[a0W,gT,gT];by_cases e:x.1=p
  .rw[if_pos e,if_pos e]
  .rw[if_neg e,if_neg e];rw[ZR,a0g]at h;exact a<|h.resolve_left λw=>e w.symm
theorem HX G p L:(fU G p L).map (·.1)=if(G.map (·.1)).contains p then G.map (·.1)else G.map (·.1)++[p]:=by
 unfold fU;split
 .rw[ZS];refine a0q λg _=>?_;show(if g.1=p then(g.1,L)else g).1=g.1;split<;>rfl
 .rw[Z7];rfl
theorem HY(a:(G.map (·.1)).Nodup):((fU G p L).map (·.1)).Nodup:=by
 rw[HX];split
 .exact a
 .rename_i h;rw[a2e];exact⟨a,by simp,λx b y c e=>h<|a0H.mpr<|by rw[a0r.mp c]at e;exact e▸b⟩
theorem putG_mem:q∈(fU G p L).map (·.1)↔q∈G.map (·.1)\/q=p:=by
 rw[HX];split
 .rename_i h;exact⟨.inl,λz=>z.elim id λe=>e▸a0H.mp h⟩
 .rw[a0M,a0r]
theorem wR G p q L:aQ (fU G p L) q=if q=p then L else aQ G q:=by
 unfold fU;split
 .rename_i h;have h:=a0H.mp h;induction G with
  |nil=>cases h|cons x G d=>
   rw[ZR,gT,gT];by_cases e:x.1=p
   .rw[if_pos e];by_cases a:q=p
    .rw[if_pos a,if_pos<|by rw[e,a]]
    .rw[if_neg a,if_neg<|by show ¬ x.1=q;rw[e];exact λw=>a w.symm,if_neg<|by rw[e];exact λw=>a w.symm];by_cases b:p∈G.map (·.1)
     .rw[d (a0H.mpr b) b,if_neg a]
     .have:(G.map λg=>if g.1=p then(g.1,L)else g)=G:=by have w:(G.map λg=>if g.1=p then(g.1,L)else g)=G.map id:=a0q λg i=>if_neg λe=>b<|ZQ.mpr ⟨g,i,e⟩;rw[w,a6w]
      rw[this]
   .rw[if_neg e];rw[ZR,a0g]at h;have c:=h.resolve_left λw=>e w.symm;rw[d (a0H.mpr c) c];by_cases a:x.1=q
    .rw[if_pos a,if_pos a,if_neg<|by rw[<- a];exact e]
    .rw[if_neg a,if_neg a]
 .rename_i h;have h:p∉G.map (·.1):=λz=>h<|a0H.mpr z;by_cases e:q=p
  .rw[if_pos e,e,HW h,gT,if_pos rfl]
  .rw[if_neg e];by_cases b:q∈G.map (·.1)
   .exact atG_append' b
   .rw[HW b,gT,if_neg λw=>e w.symm,tH,m5 b]
theorem Wz(h:aQ G p≠[]):p∈G.map (·.1):=Classical.byContradiction λz=>h<|m5 z
structure Pil(qs:jq)(f:Int×Int->Int×Int)(G:Gr):Prop where
 kd:(G.map (·.1)).Nodup
 ne:∀g∈G,g.2≠[]
 pm:∀p,(aQ G p).Perm (qs.filter λq=>decide<|f q=p)
theorem Pil.key{f:Int×Int->Int×Int}(h:Pil qs f G):p∈G.map (·.1)↔∃q∈qs,f q=p:=by
 constructor
 .intro d;obtain⟨g,c,rfl⟩:=ZQ.mp d;have a:=h.pm g.1;rw[gD h.kd c]at a;obtain⟨q,b⟩:=a4y _<|h.ne g c;have:=a0s.mp<|a.mem_iff.mp b;exact⟨q,this.1,of_decide_eq_true this.2⟩
 .rintro⟨q,b,rfl⟩;refine Wz λe=>?_;have a:=h.pm<|f q;rw[e]at a;have:q∈([]:jq):=a.mem_iff.mpr<|a0s.mpr ⟨b,decide_eq_true rfl⟩;cases this
theorem HZ{g:Type}a b(hd:∀x,a x=b5->b x=b4):∀l:List g,(l.filter λx=>a x||b x).Perm (l.filter a++l.filter b)
 |[]=>.nil|x::l=>by
  have e:=HZ a b hd l;cases c:a x with
  |true=>rw[a0w<|by simp[c],a0w c,a0x<|by simp[hd x c]];exact e.cons x|false=>
   cases d:b x with
   |true=>rw[a0w<|by simp[d],a0x<|by simp[c],a0w d];exact(e.cons x).trans List.perm_middle.symm|false=>rw[a0x<|by simp[c,d],a0x<|by simp[c],a0x<|by simp[d]];exact e
noncomputable def gE(mv:Int×Int->Bool)(G:Gr):Gr:=G.filter λg=>!mv g.1
noncomputable def dY(mv:Int×Int->Bool)(M:Int×Int->Int×Int)(G:Gr):Gr:=(G.filter λg=>mv g.1).map λg=>(M g.1,g.2.reverse)
noncomputable def c4(a:Bool)(S:Gr)(g:(Int×Int)×jq):Gr:=fU S g.1<|if a then aQ S g.1++g.2 else g.2++aQ S g.1
noncomputable def j5(mv:Int×Int->Bool)(M:Int×Int->Int×Int)(a:Bool)(G:Gr):Gr:=(dY mv M G).foldl (c4 a)<|gE mv G
theorem BR p:∀G,aQ (gE mv G) p=if mv p then[]else aQ G p
 |[]=>by cases mv p<;>rfl
 |g::G=>by
  have a:=BR (mv:=mv) p G;unfold gE at a ⊢;rw[gT];cases h:mv g.1 with
  |true=>
   rw[a0x<|by simp[h],a];by_cases e:g.1=p
   .rw[<- e,h];rfl
   .rw[if_neg e]
  |false=>
   rw[a0w<|by simp[h],gT];by_cases e:g.1=p
   .rw[if_pos e,if_pos e,<- e,h];rfl
   .rw[if_neg e,if_neg e,a]
theorem BS(a:∀p,M (M p)=p)p:∀G,aQ (dY mv M G) p=if mv (M p)then(aQ G<|M p).reverse else[]
 |[]=>by cases mv (M p)<;>rfl
 |g::G=>by
  have b:=BS (mv:=mv) a p G;unfold dY at b ⊢;rw[gT];have hi:M g.1=p↔g.1=M p:=⟨λe=>by rw[<- e,a],λe=>by rw[e,a]⟩;cases h:mv g.1 with
  |true=>
   rw[a0w<|by simp[h],ZR,gT];by_cases e:g.1=M p
   .rw[if_pos<|hi.mpr e,if_pos e,<- e,h];rfl
   .rw[if_neg λw=>e<|hi.mp w,if_neg e,b]
  |false=>
   rw[a0x<|by simp[h],b];by_cases e:g.1=M p
   .rw[<- e,h];rfl
   .rw[if_neg e]
theorem Ia a:∀(K S:Gr),(K.map (·.1)).Nodup->(S.map (·.1)).Nodup->(∀g∈S,g.2≠[])->(∀g∈K,g.2≠[])->
  ((K.foldl (c4 a) S).map (·.1)).Nodup/\(∀g∈K.foldl (c4 a) S,g.2≠[])/\∀p,(aQ (K.foldl (c4 a) S) p).Perm (aQ S p++aQ K p)
 |[],S,_,hs,ns,_=>⟨hs,ns,λp=>by rw[tH,a0p];exact .refl _⟩|g::K,S,hk,hs,ns,nk=>by
  rw[ZR,a1m]at hk;rw[a3W];have b:((c4 a S g).map (·.1)).Nodup:=HY hs;have i:∀x∈c4 a S g,x.2≠[]:=λx c=>by
   have e:aQ (c4 a S g) x.1=x.2:=gD b c;rw[<- e];unfold c4;rw[wR];have k:=nk g<|a0l ..;split
   .cases a
    .exact λw=>k (a7C.mp w).1
    .exact λw=>k (a7C.mp w).2
   .rename_i d;have:x.1∈(c4 a S g).map (·.1):=ZQ.mpr ⟨x,c,rfl⟩;rcases putG_mem.mp this with h|h
    .obtain⟨y,j,l⟩:=ZQ.mp h;rw[<- l,gD hs j];exact ns y j
    .exact absurd h d
  obtain⟨m,n,o⟩:=Ia a K (c4 a S g) hk.2 b i λx c=>nk x<|Z2 _ c;refine⟨m,n,λp=>(o p).trans ?_⟩;rw[gT];unfold c4;rw[wR];by_cases e:p=g.1
  .rw[if_pos e,if_pos e.symm,e,m5 hk.1,a0p];cases a
   .exact List.perm_append_comm
   .exact .refl _
  .rw[if_neg e,if_neg λw=>e w.symm]
theorem WA{f:Int×Int->Int×Int}(h:Pil qs f G){mv:Int×Int->Bool}(d:∀p,M (M p)=p)c:
  Pil qs (λq=>if mv (f q)then M (f q)else f q) (j5 mv M c G):=by
 have j:∀(l:List ((Int×Int)×jq)),l.Sublist G->(l.map (·.1)).Nodup:=λl v=>(v.map _).nodup h.kd;have o:((dY mv M G).map (·.1)).Nodup:=by
  have e:(dY mv M G).map (·.1)=((G.filter λg=>mv g.1).map (·.1)).map M:=by unfold dY;rw[ZS,ZS];rfl
  rw[e];exact a3u _ (λa b k w=>k<|by rw[<- d a,w,d])<|j _ a1a
 obtain⟨r,s,u⟩:=Ia c (dY mv M G) (gE mv G) o (j _ a1a) (λg m=>h.ne g (a0s.mp m).1) λg m=>by
  obtain⟨y,x,rfl⟩:=ZQ.mp m;exact λw=>h.ne y (a0s.mp x).1<|List.reverse_eq_nil_iff.mp w
 refine⟨r,s,λp=>(u p).trans ?_⟩;rw[BR,BS d];have e:(qs.filter λq=>decide<|(if mv (f q)then M (f q)else f q)=p)=qs.filter λq=>(!mv (f q)&&decide (f q=p))||(mv (f q)&&decide (f q=M p)):=by
  congr 1;funext q;have hi:M (f q)=p↔f q=M p:=⟨λe=>by rw[<- e,d],λe=>by rw[e,d]⟩;cases mv (f q)with
  |true=>simp[hi]|false=>simp
 rw[e];refine List.Perm.trans ?_ (HZ _ _ (λq n=>?_) qs).symm
 .refine List.Perm.append ?_ ?_
  .cases i:mv p with
   |true=>rw[if_pos rfl,a2m.mpr];intro q _ w;rw[ZL]at w;have e:=of_decide_eq_true w.2;rw[e,i]at w;exact a0a w.1|false=>
    rw[if_neg a0a];have:(qs.filter λq=>!mv (f q)&&decide (f q=p))=qs.filter λq=>decide (f q=p):=by
     congr 1;funext q;by_cases e:f q=p
     .simp[e,i]
     .simp[e]
    rw[this];exact h.pm p
  .cases i:mv (M p)with
   |true=>
    rw[if_pos rfl];have:(qs.filter λq=>mv (f q)&&decide (f q=M p))=qs.filter λq=>decide (f q=M p):=by
     congr 1;funext q;by_cases e:f q=M p
     .simp[e,i]
     .simp[e]
    rw[this];exact(List.reverse_perm _).trans<|h.pm<|M p
   |false=>rw[if_neg a0a,a2m.mpr];intro q _ w;rw[ZL]at w;have e:=of_decide_eq_true w.2;rw[e,i]at w;exact a0a w.1
 .rw[ZL]at n;simp only[a3I]at n;rw[n.1];rfl
theorem WB(a:0<=u/\u<4):atI [D.int p.2,.int p.1,.int<|p.1-p.2,.int<|p.1+p.2] u=a7 (.int<|cA u p):=by
 have:u=0\/u=1\/u=2\/u=3:=by lia
 rcases this with rfl|rfl|rfl|rfl<;>rfl
theorem w_eqBl{Q:jz}:W (aR b4 (.bl x) (.bl y) μ) Q↔Q (.bl<|x==y,μ):=W_some
theorem gG(h:1<=w/\w<=3):w∈[(1:Int),2,3]:=by
 have:w=1\/w=2\/w=3:=by lia
 rcases this with rfl|rfl|rfl<;>decide
noncomputable def Dc(μ:Hm)(a:Nat)(kvs:jx):Prop:=μ[a]?=a7 (.dT kvs)\/μ[a]?=a7 (.dF kvs)
theorem fH{Q:jz}(h:Dc μ a kvs)(b:dN y=a7 k)(c:b8 kvs k=a7 d):W (aF (.loc a) y μ) Q↔Q (d,μ):=by
 have:aF (.loc a) y μ=a7 (d,μ):=by rcases h with h|h<;>simp only[aF,h,b,ZY,c,Z4]
 rw[this];exact W_some
structure HI(μ:Hm)(a:Nat)(Z:Zr):Prop where
 dic:Dc μ a<|aM Z
 kd:(Z.map (·.1)).Nodup
 at_:∀z∈Z,μ[z.2.2]?=a7 (.lst<|z.2.1.map PP)
theorem Dc.more{μ':Hm}(I:Dc μ a kvs)(h:μ<+:μ'):Dc μ' a kvs:=I.elim (λe=>.inl<|aG h e) λe=>.inr<|aG h e
theorem HI.more{μ':Hm}(I:HI μ a Z)(h:μ<+:μ'):HI μ' a Z:=⟨I.dic.more h,I.kd,λz hz=>aG h<|I.at_ z hz⟩
theorem HI.ne(I:HI μ a Z)(h:Dc μ b kvs)(hz:z∈Z):z.2.2≠b:=λe=>by have c:=I.at_ z hz;rw[e]at c;rcases h with h|h<;>(rw[h]at c;cases c)
theorem HI.frz{kvs:jx}(I:HI μ a Z)(h:μ[b]?=a7 (.dT kvs)):HI (μ.set b<|.dF kvs) a Z:=by
 refine⟨?_,I.kd,λz c=>by rw[ZP<|a0o<|I.ne (.inl h) c];exact I.at_ z c⟩;by_cases e:b=a
 .subst e;have:kvs=aM Z:=by
   rcases I.dic with w|w
   .rw[h]at w;injection w with w;injection w
   .rw[h]at w;cases w
  rw[<- this];exact .inr<|eQ h
 .unfold Dc;rw[ZP e];exact I.dic
theorem qR{μ μ1:Hm}{kvs:jx}(hc:μ[a]?=a7 (.dT kvs))(h:μ.set a (.dF kvs)<+:μ1):μ<+:μ1.set a (.dT kvs):=by obtain⟨t,rfl⟩:=h;have b:a<μ.length:=(ZG.mp hc).1;rw[a3g _ _<|by rw[a0v];exact b,a5T,tE hc];exact a2S _ _
theorem Ib{n:Nat}(h:(aM Z)[n]?=a7 (k,d)):∃z∈Z,Z[n]?=a7 z/\k=a9 z.1/\d=.loc z.2.2:=by unfold aM at h;rw[ZU]at h;obtain⟨z,a,b⟩:=ZH.mp h;cases b;exact⟨z,Z1 a,a,rfl,rfl⟩
theorem fV{a:Type}{l:List a}{x:a}(h:l[n]?=a7 x):l.take (n+1)=l.take n++[x]:=by rw[a8V,h];rfl
theorem m7{c:Type}{l:List c}(nd:l.Nodup){x:c}(h:l[n]?=a7 x):x∉l.take n:=λg=>by
 obtain⟨j,a⟩:=List.mem_iff_getElem?.mp g;have b:j<n:=by have:=(ZG.mp a).1;rw[a0Q]at this;lia
 rw[a7k b]at a;have i:n<l.length:=(ZG.mp h).1;have d:=(ZG.mp a).2;have e:=(ZG.mp h).2;exact absurd ((a9n nd).mp<|d.trans e.symm)<|by lia
theorem Ic{a:Type}:∀xs:List a,(a0L xs.length).filterMap (λi=>xs[i]?)=xs
 |[]=>rfl|x::xs=>by rw[Z8,a4W,a1V,List.filterMap_map];show x::(a0L xs.length).filterMap (λi=>(x::xs)[i+1]?)=x::xs;simp only[a7u];rw[Ic xs]
noncomputable abbrev aN(v:Int×Int->D)(ps:jq):jx:=ps.map λp=>(a9 p,v p)
theorem fW(nd:ps.Nodup)(h:p∈ps):b8 (aN v ps) (a9 p)=a7 (v p):=by refine BP ?_<|ZQ.mpr ⟨p,h,rfl⟩;rw[ZS];exact a3u _ (λa b c x=>c<|kM x) nd
theorem BU(h:p∉ps):b8 (aN v ps) (a9 p)=none:=by
 unfold b8;rw[a5L.mpr]
 .rfl
 .intro x a;obtain⟨z,b,rfl⟩:=ZQ.mp a;rw[decide_eq_true_iff];exact λe=>h<|kM e▸b
theorem BV(h:p∉ps):dW (aN v ps) (a9 p) (v p)=aN v (ps++[p]):=by unfold dW;rw[BU h,if_neg<|by simp];show _=a8g _ _;rw[Z7];rfl
theorem Ie(h:b8 K k=b3):dW K k d=K++[(k,d)]:=by unfold dW;rw[h,if_neg<|by simp]
noncomputable def aV(u n:Int)(a:Bool)(p:Int×Int):Bool:=decide (n<cA u p)==a
noncomputable def bY(u n:Int)(a:Bool)(F:Int×Int->Ly)(q:Int×Int):Ly:=if aV u n a (aE (F q) q)then cE (F q) (aZ u n)else F q
theorem Ig(b:∀q,Dih (F q))q:Dih (bY u n a F q):=by
 unfold bY;split
 .exact BN (b q)<|tG u n
 .exact b q
theorem Ih u n a F q:aE (bY u n a F q) q=if aV u n a (aE (F q) q)then aE (aZ u n) (aE (F q) q)else aE (F q) q:=by
 unfold bY;split
 .rw[lK]
 .rfl
theorem WC(h:p∉G.map (·.1)):fU G p L=G++[(p,L)]:=by unfold fU;rw[if_neg λw=>h<|a0H.mp w]
theorem WD mv M G g:dY mv M (G++[g])=if mv g.1 then dY mv M G++[(M g.1,g.2.reverse)]else dY mv M G:=by unfold dY;rw[a0Y,Z7];cases h:mv g.1<;>simp[h]
theorem Ii{c:Type} [DecidableEq c]:∀{l m:List c},l.Nodup->(∀x∈l,x∈m)->l.length<=m.length
 |[],_,_,_=>a0I _|x::l,m,h,hs=>by rw[a1m]at h;have a:=hs x<|a0l ..;have d:=Ii (l:=l) (m:=m.erase x) h.2 λy b=>(List.mem_erase_of_ne λe:y=x=>h.1<|e▸b).mpr<|hs y<|Z2 _ b;rw[List.length_erase_of_mem a]at d;have:=List.length_pos_of_mem a;rw[Z8];lia
theorem Pil.len(P:Pil qs g G):G.length<=qs.length/\∀x∈G,x.2.length<=qs.length:=by
 constructor
 .have:=Ii P.kd (m:=qs.map g) λp a=>by obtain⟨q,b,e⟩:=P.key.mp a;exact ZQ.mpr ⟨q,b,e⟩
  rw[ZF,ZF]at this;exact this
 .intro x c;have:=(P.pm x.1).length_eq;rw[gD P.kd c]at this;rw[this];exact a0G _ _
theorem Pil.lenZ(P:Pil qs g (GZ Z)):Z.length<=qs.length/\∀z∈Z,1<=z.2.1.length/\z.2.1.length<=qs.length:=by obtain⟨a,c⟩:=P.len;unfold GZ at a;rw[ZF]at a;refine⟨a,λz d=>?_⟩;have b:(z.1,z.2.1)∈GZ Z:=ZQ.mpr ⟨z,d,rfl⟩;exact⟨a4f.mpr<|P.ne _ b,c _ b⟩
theorem Ij{a:Type}[DecidableEq a]:∀{l:List a},l.Nodup->∀{p},p∈l->(l.filter λq=>decide<|q=p)=[p]
 |[],_,_,h=>by cases h
 |x::l,nd,p,h=>by
  rw[a1m]at nd;by_cases e:x=p
  .subst e;rw[a0w<|by simp,a2m.mpr];intro y b w;exact nd.1<|of_decide_eq_true w▸b
  .rw[a0x<|by simp[e]];exact Ij nd.2<|(a0g.mp h).resolve_left λw=>e w.symm
noncomputable def iW(qs:jq):Gr:=qs.map λq=>(q,[q])
theorem BW qs:(iW qs).map (·.1)=qs:=by unfold iW;rw[ZS];exact a6w _
theorem WE(nd:qs.Nodup):Pil qs (λq=>aE c7 q) (iW qs):=by
 have a:((iW qs).map (·.1)).Nodup:=by rw[BW];exact nd
 refine⟨a,λg b=>?_,λp=>?_⟩
 .obtain⟨q,_,rfl⟩:=ZQ.mp b;simp
 .have e:(λq=>decide<|aE c7 q=p)=λq=>decide (q=p):=funext λq=>by rw[tD]
  rw[e];by_cases h:p∈qs
  .have:=gD a (g:=(p,[p]))<|ZQ.mpr ⟨p,h,rfl⟩;rw[this,Ij nd h]
  .rw[m5<|by rw[BW];exact h,a2m.mpr];intro q c w;exact h<|of_decide_eq_true w▸c
structure Grw(qs:jq)(μ:Hm)(w h:Nat)(F:Int×Int->Ly)(Z:Zr):Prop where
 hw:μ[w]?=a7 (.dT<|aN (λq=>LD<|F q) qs)
 hi:HI μ h Z
 hh:μ[h]?=a7 (.dT<|aM Z)
 di:∀q,Dih (F q)
 pl:Pil qs (λq=>aE (F q) q)<|GZ Z
noncomputable def jO(n:Int):Int:=if 0<n then 1 else if n<0 then -1 else 0
theorem WG k x y a b μ(Q:jz):W (f (k+2) "hand_of" [P x y,P a b] μ) Q↔Q (.int<|jO<|jM a b x y-jM a b a b,μ):=by
 rw[U9,W_fin];simp only[w_mSeq,w_mRet,w_mNext,w_mIfS,w_mIfE,w_mSet,w_mCall,w_mCons,bT,w_mOp,cT,bC,bF,w_mTest,wD,w_subI,w_gtI,w_ltI,Ht,Hu,a0k,a0m];generalize jM a b x y-jM a b a b=n;unfold jO;by_cases c:0<n
 .simp[c]
 .by_cases d:n<0<;>simp[c,d]
noncomputable def oV(h:Int)(x:Int):jq:=(a0L (4*h-1).toNat).map λ(j:Nat)=>(x,1+(j:Int))
noncomputable def m8(h:Int)(n:Nat):jq:=(a0L n).flatMap λ(i:Nat)=>oV h<|1+(i:Int)
noncomputable def m9(w h:Int):jq:=m8 h (4*w-1).toNat
theorem Ik h n:m8 h (n+1)=m8 h n++oV h (1+(n:Int)):=by unfold m8;rw[a5d,a2J];simp
theorem Il h x:(oV h x).length=(4*h-1).toNat:=by unfold oV;simp
theorem BX h:∀n,(m8 h n).length=n*(4*h-1).toNat
 |0=>by simp[m8]
 |n+1=>by rw[Ik,ZO,BX h n,Il,a6h]
theorem Im{h:Int}(b:h<=6)(a:n<=23):n*(4*h-1).toNat<=529:=by have:n*(4*h-1).toNat<=23*23:=a3n a (by lia);lia
theorem WH h x:((lJ 1 (4*h-1).toNat).filter λ_=>b5).map (λd=>P x<|uD d)=(oV h x).map PP:=by unfold lJ oV;rw[show ∀l:List D,l.filter (λ_=>b5)=l from λl=>by simp,ZS,ZS];rfl
theorem Io k w h(hw:1<=w/\w<=6)(q:1<=h/\h<=6)(μ:Hm)(Q:jz)(H:∀a μ',μ<+:μ'->μ'[a]?=a7 (.lst<|(m9 w h).map PP)->μ.length<=a->Q (.loc a,μ')):W (f (k+1) "places_within" [.int w,.int h] μ) Q:=by
 rw[Vi,W_fin];simp only[w_mSeq,w_mSet,w_mLst,bT];refine⟨a0I _,?_⟩;simp only[a0k,a0m,w_mForI,w_iRng2,w_mCons,bT,cT,w_mOp,bC,bF,qO];refine⟨by lia,?_⟩;refine wF (lo:=1) (λi n μ'=>μ<+:μ'/\μ'[μ.length]?=a7 (.lst<|(m8 h i).map PP)/\∃o,n=[a7<|.int w,a7<|.int h,a7<|.loc μ.length,o]) ⟨aT _ _,bM _ _,b3,rfl⟩ ?_ ?_
 .rintro i n m hi ⟨l,c,o,rfl⟩;refine⟨_,rfl,?_⟩;simp only[a0k,a0m,w_mDrop];refine mU ?_;simp only[bC,bF];refine⟨oR c,?_⟩;simp only[w_mCons,bT];refine jL (xs:=lJ 1 (4*h-1).toNat) (p:=λ_=>b5) (v:=λd=>P (1+(i:Int))<|uD d) ?_;simp only[w_iRng2,w_mCons,bT,cT,w_mOp,bC,bF,qO];refine⟨by lia,UP,by simp[lJ],by rw[a0n];simp[lJ];lia,?_,?_,?_⟩
  .intro d μ' hd l;exact w_mTrue.mpr ⟨rfl,a0c _⟩
  .intro d μ' hd _ l;obtain⟨j,s,rfl⟩:=V5 hd;simp only[a0W,a1n,w_mTup,w_mCons,bT,bC,bF,fT,true_and];exact⟨rfl,a0c _⟩
  .intro r b e;rw[WH]at e;have g:((m8 h i).map PP).length+((oV h<|1+(i:Int)).map PP).length<=ZX:=by have p:=Im (h:=h) q.2 (n:=i+1) (by lia);rw[a6h]at p;rw[ZF,ZF,BX,Il,a0n];lia
   refine(Hb (aG b c) e g).mpr ?_;refine⟨fL (l.trans b) (ZN _) _,?_,_,rfl⟩;rw[a0t (ZG.mp<|aG b c).1,Ik,Z7]
 .rintro n m ⟨l,c,o,rfl⟩;simp only[w_mRet,bC,bF];exact H _ _ l c<|ZN _
theorem Ip(hw:w<=6)(a:h<=6):(m9 w h).length<=529:=by unfold m9;rw[BX];exact Im a<|by lia
noncomputable def bW(p:Int×Int):Bool:=if p.1%2=1 then p.2%4==2 else p.1%4==2&&p.2%2==1
theorem Iq k x y μ(Q:jz):W (f (k+1) "is_quarter" [P x y] μ) Q↔Q (.bl<|bW (x,y),μ):=by
 rw[U4,W_fin];simp only[w_mSeq,w_mRet,w_mNext,w_mIfS,w_mTest,w_mAndV,w_mOp,cT,bC,w_it20,w_it21,w_eqI,w_neI,BC,BE];unfold bW;by_cases h:x%2=1
 .simp[h]
 .have e:(x%2==1)=false:=by simpa using h
  simp only[e,h,Z5,if_false];cases x%4==2<;>simp
theorem WI k i μ(Q:jz):W (f (k+1) "is_whole" [.int i] μ) Q↔Q (.bl b5,μ):=by rw[U2,W_fin];simp only[w_mRet,w_mAndV,UJ,w_mCall,w_mCons,bT,bC,cT,US,UR,if_true,a2r]
theorem Ir k(h:1<=i/\i<=6)μ(Q:jz)(H:Q (.bl b5,μ)):W (f (k+2) "is_size" [.int i] μ) Q:=by rw[Vg,W_fin];simp only[w_mRet,w_mAndV,w_mCall,w_mCons,bT,bC,cT,WI,if_true,w_mChain,UM,decide_eq_true h.1,decide_eq_true h.2];exact H
theorem WJ k(hw:1<=w/\w<=6)(a:1<=h/\h<=6)μ(Q:jz)(H:Q (.non,μ)):W (f (k+3) "check_size" [.int w,.int h] μ) Q:=by rw[Vh,W_fin];simp only[w_mIfS,UI,w_mAndT,w_mTru,w_mCall,w_mCons,bT,bC,bF];refine Ir k hw _ _ ?_;simp only[w_truB,if_true];refine Ir k a _ _ ?_;simp only[w_truB,a2X,Z5,if_false,w_mNext];exact H
theorem tI{kvs:jx}(h:sG i b=a7 (.loc a))(hc:μ[a]?=a7 (.dT kvs))(H:W (c b<|μ.set a<|.dF kvs) λr=>r.2.2[a]?=a7 (.dF kvs)/\Q (r.1,r.2.1,r.2.2.set a<|.dT kvs)):W (dX i c d b μ) Q:=by
 have e:mI i b μ=a7 (a,kvs):=by simp only[mI,h,hc]
 unfold dX;rw[e,W_bind];refine bG H λr q=>?_;rw[q.1];exact W_some.mpr q.2
theorem tJ{l:MI}{μ:Hm}{kvs:jx}{ds:List D}(h:sG i k=a7 (.loc a))(hc:μ[a]?=a7 (.dT kvs))(hit:l k (μ.set a<|.dF kvs)=a7 (cS<|.tup ds,ds.length+1,μ.set a<|.dF kvs))(I:Nat->aI->Hm->Prop)(o:I 0 k (μ.set a<|.dF kvs))(m:∀n d c b,ds[n]?=a7 d->I n c b->∃e,g d c b=a7 e/\W (body e b) λp=>p.1=.nx/\I (n+1) p.2.1 p.2.2)(j:∀c b,I ds.length c b->b[a]?=a7 (.dF kvs)/\Q (.nx,c,b.set a<|.dT kvs)):W (dX i (b7 l g body) v k μ) Q:=by
 refine tI h hc ?_;rw[w_mForI,hit,W_some];refine G7 (x:=.tup ds) (λ_=>rfl) I o (λn d c b hd u=>?_) j;obtain⟨e,r,s⟩:=m n d c b hd u;refine⟨e,r,bG s λp q=>?_⟩;rw[q.1];exact q.2
theorem BY(h:me b μ=a7 (.loc a,μ1))(g:μ1[a]?=a7 (.dF kvs)):fF me b μ=a7 (cS<|.tup<|d9 kvs,(d9 kvs).length+1,μ1):=by simp only[fF,h,ZY,g,d9,ZF]
theorem wU(h:me b μ=a7 (.loc a,μ1))(g:μ1[a]?=a7 (.dF kvs)):lG me b μ=a7 (cS<|.tup<|eK kvs,(eK kvs).length+1,μ1):=by simp only[lG,h,ZY,g,eK,ZF]
theorem Iu{V:Int×Int->D}:eK (aN V qs)=qs.map λq=>.tup [PP q,V q]:=by unfold eK aN;rw[ZS];rfl
theorem qS Z:eK (aM Z)=Z.map λz=>.tup [PP z.1,.loc z.2.2]:=by unfold eK aM;rw[ZS];rfl
theorem tK Z:d9 (aM Z)=(Z.map (·.1)).map PP:=by unfold d9 aM;rw[ZS,ZS];rfl
theorem j6(h:l<μ.length)(t:Hm):(μ++t).set l c=μ.set l c++t:=a3g _ _ h
theorem nB(μ:Hm)(h:l<μ.length)(t:Hm):(μ.set l c++t)[l]?=a7 c:=by rw[a0f<|by rw[a0v];exact h,a0t h]
theorem Iv(μ:Hm)l c d d'(t:Hm):(μ.set l c++d::t).set μ.length d'=μ.set l c++d'::t:=by rw[a3O _ _<|by rw[a0v];exact ZN _,a0v,a3L];rfl
theorem BZ(μ:Hm)l c d(t:Hm):(μ.set l c++d::t)[μ.length]?=a7 d:=by rw[a0N<|by rw[a0v];exact ZN _,a0v,a3L];rfl
theorem wV{μ:Hm}(h:μ[l]?=a7 c)(t:Hm):(μ.set l c'++t).set l c=μ++t:=by have a:l<μ.length:=(ZG.mp h).1;rw[a3g _ _<|by rw[a0v];exact a,a5T,tE h]
structure OnL(e:Int×Int)(u n:Int):Prop where
 u0:0<=u/\u<4
 num:∀p:Int×Int,jM e.1 e.2 p.1 p.2=cA u p
 at_:cA u e=n
 mir:∀p,cV p e=aE (aZ u n) p
 mirZ:eN e=aZ u n
noncomputable def sd(a:Bool):Int:=if a then 1 else -1
theorem B2(h:cA u p≠n)a:(jO (cA u p-n)==sd a)=aV u n a p:=by
 unfold jO sd aV;by_cases b:n<cA u p
 .have:0<cA u p-n:=by lia
  rw[if_pos this,decide_eq_true b];cases a<;>rfl
 .have c:¬ 0<cA u p-n:=by lia
  have d:cA u p-n<0:=by lia
  rw[if_neg c,if_pos d,decide_eq_false b];cases a<;>rfl
theorem wW k(E:OnL e u n)μ(Q:jz):W (f (k+2) "hand_of" [PP p,PP e] μ) Q↔Q (.int<|jO<|cA u p-n,μ):=by obtain⟨x,y⟩:=e;obtain⟨a,b⟩:=p;have c:=E.num (a,b);have d:=E.num (x,y);have g:=E.at_;dsimp only at c d;have:=WG k a b x y μ Q;rw[c,d,g]at this;exact this
theorem WK k(E:OnL e u n)μ(Q:jz):W (f (k+2) "mirrored" [PP p,PP e] μ) Q↔Q (PP<|aE (aZ u n) p,μ):=by obtain⟨x,y⟩:=e;obtain⟨a,b⟩:=p;have:=Hv k a b x y μ Q;rw[E.mir (a,b)]at this;exact this
theorem WL k(E:OnL e u n)μ(Q:jz):W (f (k+3) "mirror_in" [PP e] μ) Q↔Q (LD<|aZ u n,μ):=by obtain⟨x,y⟩:=e;have:=Wg k x y μ Q;rw[E.mirZ]at this;exact this
theorem WM k(d:∀q,Dih (F q))(E:OnL e u n)(h:cA u (aE (F q) q)≠n)(H:W (k8 (.loc m) (PP q) (LD<|bY u n a F q) g) λb=>∀x,R (.nx,[c,a7<|PP e,a7<|.int<|sd a,a7<|LD<|aZ u n,a7<|.loc m,a7<|PP q,a7<|LD<|F q,x],b)):
  W (BA (k+3) [c,a7<|PP e,a7<|.int<|sd a,a7<|LD<|aZ u n,a7<|.loc m,a7<|PP q,a7<|LD<|F q,x] g) R:=by
 refine bV<|bA<|eA<|bJ<|bS rfl<|(qQ (k+2) (F q) (d q) q.1 q.2 _ _).mpr ⟨_,rfl,(wW (k+1) E _ _).mpr ⟨_,rfl,w_eqI.mpr ?_⟩⟩;rw[B2 h];unfold bY at H;refine w_mPut.mpr<|w_mIfE.mpr ?_;cases hc:aV u n a (aE (F q) q)with
 |true=>rw[hc,if_pos rfl]at H;exact⟨_,rfl,(if_pos rfl).mpr<|bS rfl<|(Wh (k+1) (F q) (aZ u n) (d q) (tG u n) _ _).mpr ⟨_,rfl,_,rfl,bG H λb z=>z _⟩⟩|false=>rw[hc,if_neg<|by decide]at H;exact⟨_,rfl,(if_neg a0a).mpr ⟨_,rfl,_,rfl,_,rfl,bG H λb z=>z _⟩⟩
theorem WN k(p:∀q,Dih (F q))(nd:qs.Nodup)(w:qs.length<=100)(E:OnL e u n)(s:∀q∈qs,cA u (aE (F q) q)≠n)(g:μ[l]?=a7 (.dT<|aN (λq=>LD<|F q) qs))(Q:jz)(H:Q (.loc μ.length,μ++[.dT<|aN (λq=>LD<|bY u n a F q) qs])):W (f (k+4) "folded_layings" [.loc l,PP e,.int<|sd a] μ) Q:=by
 have b:l<μ.length:=(ZG.mp g).1;refine dR (VA (k+3) _ _ _ μ)<|bV<|bS rfl<|(WL k E _ _).mpr<|bV<|w_mDNewT.mpr<|iT ?_;have o:(μ++[C.dT []])[l]?=a7 (.dT<|aN (λq=>LD<|F q) qs):=by rw[a0f b];exact g
 refine tJ (body:=BA (k+3)) rfl o (wU (a:=l) rfl<|by rw[j6 b];exact nB μ b _) (λi j h=>∃x y z,j=[a7<|.loc l,a7<|PP e,a7<|.int<|sd a,a7<|LD<|aZ u n,a7<|.loc μ.length,x,y,z]/\h=μ.set l (.dF<|aN (λq=>LD<|F q) qs)++[.dT<|aN (λq=>LD<|bY u n a F q)<|qs.take i])
  ⟨b3,b3,b3,rfl,j6 b _⟩ (λi d j h hd m=>?_) λj h m=>?_
 .obtain⟨x,y,z,rfl,rfl⟩:=m;rw[Iu,ZU]at hd;obtain⟨q,c,rfl⟩:=ZH.mp hd;have r:i<qs.length:=(ZG.mp c).1;have v:b8 (aN (λq=>LD<|bY u n a F q)<|qs.take i) (a9 q)=none:=BU<|m7 nd c;refine⟨_,rfl,WM k p E (s q<|Z1 c)<|(mV (BZ _ _ _ _ _) (cF q)<|by rw[ZF,a0Q,a0n];lia).mpr λx=>⟨rfl,_,_,_,rfl,?_⟩⟩;rw[Ie v,Iv];unfold aN;rw[fV c,Z7];rfl
 .obtain⟨x,y,z,rfl,rfl⟩:=m;refine⟨nB μ b _,rfl,c6 ⟨_,rfl,?_⟩⟩;rw[wV g,Iu,ZF,a0V];exact H
noncomputable def cN(c:Nat):Zr->Zr
 |[]=>[]|z::Z=>(z.1,z.2.1,c)::cN (c+1) Z
theorem nC z:∀Z c,cN c (Z++[z])=cN c Z++[(z.1,z.2.1,c+Z.length)]
 |[],c=>rfl|y::Z,c=>by show(y.1,y.2.1,c)::cN (c+1) (Z++[z])=(y.1,y.2.1,c)::(cN (c+1) Z++_);rw[nC z Z<|c+1,Z8,show c+1+Z.length=c+(Z.length+1) by lia]
theorem nD:∀Z c,GZ (cN c Z)=GZ Z
 |[],_=>rfl|z::Z,c=>by show(z.1,z.2.1)::GZ (cN (c+1) Z)=(z.1,z.2.1)::GZ Z;rw[nD Z<|c+1]
theorem wX(h:GZ Z=GZ Y):Z.map (·.1)=Y.map (·.1):=by rw[<- gR,<- gR,h]
theorem wY:∀Z c(μ t:Hm),c=μ.length->∀z∈cN c Z,c<=z.2.2/\(μ++(Z.map λz=>C.lst<|z.2.1.map PP)++t)[z.2.2]?=a7 (.lst<|z.2.1.map PP)
 |[],_,_,_,_,z,a=>nomatch a|y::Z,c,μ,t,hc,z,a=>by
  rcases a0g.mp a with rfl|a
  .refine⟨ZN _,?_⟩;rw[a0R,a0N<|by rw[hc];exact ZN _,hc,a3L];rfl
  .have:=wY Z (c+1) (μ++[.lst<|y.2.1.map PP]) t (by rw[hc,ZO];rfl) z a;refine⟨by lia,?_⟩;rw[<- this.2,ZR,a0R μ [_],a7S]
structure Pz(μ:Hm)(n a:Nat)(Z:Zr):Prop where
 dic:μ[a]?=a7 (.dT<|aM Z)
 kd:(Z.map (·.1)).Nodup
 at_:∀z∈Z,n<=z.2.2/\μ[z.2.2]?=a7 (.lst<|z.2.1.map PP)
theorem wZ{ds:List D}{μ:Hm}(h:μ[i]?=a7 (.lst ds))(b:i≠p):(μ.set p c++d::L)[i]?=a7 (.lst ds):=by have a:=(ZG.mp h).1;rw[a0f<|by rw[a0v];exact a,ZP<|a0o b];exact h
theorem HI.nd(I:HI μ p Z)(h:Z[i]?=a7 z):z.1∉(Z.take i).map (·.1):=by have:=I.kd;rw[a9X];exact m7 this<|by rw[ZU,h];rfl
theorem B3{μ:Hm}{Y:Zr}(g:q∉Y.map (·.1))(h:Y.length<=1000)Q(H:Q (μ.set p c++(.dT (aM<|cN (μ.length+1)<|Y++[(q,L,0)])::(Y++[(q,L,0)]:Zr).map λz=>C.lst<|z.2.1.map PP))):
  W (k8 (.loc μ.length) (PP q) (.loc (μ.set p c++(.dT (aM<|cN (μ.length+1) Y)::Y.map λz=>C.lst<|z.2.1.map PP)).length)<|(μ.set p c++(.dT (aM<|cN (μ.length+1) Y)::Y.map λz=>C.lst<|z.2.1.map PP))++[.lst<|L.map PP]) Q:=by
 have d:(μ.set p c++(.dT (aM<|cN (μ.length+1) Y)::Y.map λz=>C.lst<|z.2.1.map PP)).length=μ.length+1+Y.length:=by rw[ZO,a0v,Z8,ZF];lia
 have b:(cN (μ.length+1) Y).map (·.1)=Y.map (·.1):=wX<|nD _ _;have a:(cN (μ.length+1) Y).length=Y.length:=by simpa using congrArg a0F b
 rw[d,a0R,a0W];refine(mV (BZ _ _ _ _ _) (cF q)<|by rw[m4,a,a0n];lia).mpr ?_;rw[Ie<|wO<|by rw[b];exact g,Iv];have e:aM (cN (μ.length+1) Y)++[(a9 q,D.loc<|μ.length+1+Y.length)]=aM (cN (μ.length+1)<|Y++[(q,L,0)]):=by rw[nC];unfold aM;rw[Z7];rfl
 rw[e];rw[Z7]at H;exact H
theorem WO k(I:HI μ p Z)(g:μ[p]?=a7 (.dT<|aM Z))(n:Z.length<=1000)(Q:jz)(H:Q (.loc μ.length,μ++(.dT (aM<|cN (μ.length+1) Z)::Z.map λz=>C.lst<|z.2.1.map PP))):W (f (k+1) "copied_piles" [.loc p] μ) Q:=by
 have a:p<μ.length:=(ZG.mp g).1;rw[Vz,W_fin];simp only[w_mSeq,w_mSet,w_mDNewT,a0k,a0m];have m:(μ++[C.dT []])[p]?=a7 (.dT<|aM Z):=by rw[a0f a];exact g
 refine tJ rfl m (wU (a:=p) rfl<|by rw[j6 a];exact nB μ a _) (λi c b=>∃x y,c=[a7<|.loc p,a7<|.loc μ.length,x,y]/\b=μ.set p (.dF<|aM Z)++(.dT (aM<|cN (μ.length+1)<|Z.take i)::(Z.take i).map λz=>C.lst<|z.2.1.map PP))
  ⟨b3,b3,rfl,j6 a _⟩ (λi d c b hd l=>?_) λc b l=>?_
 .obtain⟨x,y,rfl,rfl⟩:=l;rw[qS,ZU]at hd;obtain⟨z,j,rfl⟩:=ZH.mp hd;refine⟨_,rfl,?_⟩;have h:=Z1 j;simp only[kY,a0k,a0m,w_mPut,w_mCall,w_mCons,bT,bC,bF];refine(By<|wZ (I.at_ z h)<|I.ne (.inl g) h).mpr ?_;refine B3 (I.nd j) (by rw[a0Q];lia) _ ⟨trivial,_,_,rfl,?_⟩;have e:cN (μ.length+1) (Z.take i++[(z.1,z.2.1,0)])=cN (μ.length+1) (Z.take<|i+1):=by rw[fV j,nC,nC]
  rw[e,fV j,Z7,Z7];rfl
 .obtain⟨x,y,rfl,rfl⟩:=l;refine⟨nB μ a _,?_⟩;rw[wV g,qS,ZF,a0V];simp only[w_mRet,bC,bF];exact H
theorem WQ k(I:HI μ p Z)(g:μ[p]?=a7 (.dT<|aM Z))(A:Z.length<=1000)(E:OnL e u n)(w:∀z∈Z,cA u z.1≠n)Q(H:∀x y,Q (.nx,[a7<|.loc p,a7<|PP e,a7<|.int<|sd a,a7<|.bl o,a7<|.loc μ.length,x,y,b3,b3,b3],μ++(.dT (aM<|cN (μ.length+1)<|Z.filter λz=>!aV u n a z.1)::(Z.filter λz=>!aV u n a z.1).map λz=>C.lst<|z.2.1.map PP))):
  W (dX 0 (b7 (lG<|aA 0) (dH [5,6])<|bE (aU<|aB (aR b5) (aH (f (k+2) "hand_of")<|aC (aA 5)<|aC (aA 1) aD)<|aA 2) (dB (aA 4) (aA 5)<|aH gC<|aC (aA 6) aD) bI) cI [a7<|.loc p,a7<|PP e,a7<|.int<|sd a,a7<|.bl o,a7<|.loc μ.length,b3,b3,b3,b3,b3]<|μ++[.dT []]) Q:=by
 have b:p<μ.length:=(ZG.mp g).1;have r:(μ++[C.dT []])[p]?=a7 (.dT<|aM Z):=by rw[a0f b];exact g
 refine tJ rfl r (wU (a:=p) rfl<|by rw[j6 b];exact nB μ b _) (λi l j=>∃x y,l=[a7<|.loc p,a7<|PP e,a7<|.int<|sd a,a7<|.bl o,a7<|.loc μ.length,x,y,b3,b3,b3] /\
   j=μ.set p (.dF<|aM Z)++(.dT (aM<|cN (μ.length+1)<|(Z.take i).filter λz=>!aV u n a z.1)::((Z.take i).filter λz=>!aV u n a z.1).map λz=>C.lst<|z.2.1.map PP))
  ⟨b3,b3,rfl,j6 b _⟩ (λi d l j hd m=>?_) λl j m=>?_
 .obtain⟨x,y,rfl,rfl⟩:=m;rw[qS,ZU]at hd;obtain⟨z,q,rfl⟩:=ZH.mp hd;refine⟨_,rfl,?_⟩;have c:=Z1 q;have ne:∀{x y:Int}{μ:Hm}{Q:jz},W (aR b5 (.int x) (.int y) μ) Q↔Q (.bl<|!(x==y),μ):=W_some;simp only[kY,a0k,a0m,w_mIfS,w_mTest,w_mOp,w_mCall,w_mCons,bT,bC,bF,wW k E,ne,B2<|w z c];have e:(Z.take<|i+1).filter (λz=>!aV u n a z.1)=(Z.take i).filter (λz=>!aV u n a z.1)++[z].filter (λz=>!aV u n a z.1):=by rw[fV q,a0Y]
  cases hc:aV u n a z.1 with
  |true=>simp only[a2X,Z5,if_false,w_mNext];refine⟨trivial,_,_,rfl,?_⟩;rw[e,a0x<|by rw[hc];decide,a1o,a0p]|false=>
   simp only[a2r,if_true,w_mPut,w_mCall,w_mCons,bT,bC,bF];refine(By<|wZ (I.at_ z c)<|I.ne (.inl g) c).mpr ?_;refine B3 (λh=>I.nd q ?_) (by have:=a0G (λz:(Int×Int)×jq×Nat=>!aV u n a z.1)<|Z.take i;rw[a0Q]at this;lia) _ ⟨trivial,_,_,rfl,?_⟩
   .obtain⟨y,s,v⟩:=ZQ.mp h;exact ZQ.mpr ⟨y,(a0s.mp s).1,v⟩
   .rw[e,a0w<|by rw[hc];rfl,a1o,nC,nC,Z7,Z7];rfl
 .obtain⟨x,y,rfl,rfl⟩:=m;refine⟨nB μ b _,?_⟩;rw[wV g,qS,ZF,a0V];exact H x y
theorem Pz.ne(I:Pz μ n a Z)(hz:z∈Z):z.2.2≠a:=λe=>by have b:=(I.at_ z hz).2;rw[e,I.dic]at b;cases b
theorem Pz.keep(I:Pz μ n a Z)(h:∀(c:Nat)y,μ[c]?=a7 y->μ'[c]?=a7 y):Pz μ' n a Z:=⟨h _ _ I.dic,I.kd,λz hz=>⟨(I.at_ z hz).1,h _ _ (I.at_ z hz).2⟩⟩
theorem Pz.put(I:Pz μ n a Z)(i:μ[b]?=a7 (.lst<|L.map PP))(j:n<=b):
  ∃h,dW (aM Z) (a9 p) (.loc b)=aM h/\GZ h=fU (GZ Z) p L/\Pz (μ.set a<|.dT<|aM h) n a h:=by
 have bs:b≠a:=λe=>by rw[e,I.dic]at i;cases i
 by_cases d:p∈Z.map (·.1)
 .refine⟨Z.map λy=>if y.1=p then(y.1,L,b)else y,Wt d I.kd,?_,eQ I.dic,?_,λy c=>?_⟩
  .unfold fU;rw[gR,if_pos<|a0H.mpr d];unfold GZ;rw[ZS,ZS];refine a0q λz _=>?_;show((if z.1=p then(z.1,L,b)else z).1,(if z.1=p then(z.1,L,b)else z).2.1)=if z.1=p then(z.1,L)else(z.1,z.2.1)
   split<;>rfl
  .have e:(Z.map λy=>if y.1=p then(y.1,L,b)else y).map (·.1)=Z.map (·.1):=by rw[ZS];refine a0q λy _=>?_;show(if y.1=p then(y.1,L,b)else y).1=y.1;split<;>rfl
   rw[e];exact I.kd
  .obtain⟨x,g,rfl⟩:=ZQ.mp c;split
   .rw[ZP<|a0o bs];exact⟨j,i⟩
   .rw[ZP<|a0o<|I.ne g];exact I.at_ x g
 .refine⟨Z++[(p,L,b)],HQ d,?_,eQ I.dic,?_,λy c=>?_⟩
  .unfold fU;rw[gR,if_neg λw=>d<|a0H.mp w];unfold GZ;rw[Z7];rfl
  .rw[Z7,a2e];exact⟨I.kd,by simp,λx g y c e=>by
    simp only[ZR,a2U,a0r]at c;rw[e,c]at g;exact d g⟩
  .rcases a0M.mp c with c|c
   .rw[ZP<|a0o<|I.ne c];exact I.at_ y c
   .rw[a0r.mp c,ZP<|a0o bs];exact⟨j,i⟩
theorem Iw(I:Pz μ n a Z)(h:μ[b]?=a7 (.lst<|L.map PP))(i:n<=b)(j:Z.length<=10000)Q(H:∀c,GZ c=fU (GZ Z) p L->Pz (μ.set a<|.dT<|aM c) n a c->Q (μ.set a<|.dT<|aM c)):W (k8 (.loc a) (PP p) (.loc b) μ) Q:=by
 obtain⟨c,e,g,d⟩:=I.put (p:=p) h i;refine(mV I.dic (cF p)<|by rw[m4,a0n];lia).mpr ?_;rw[e];exact H c g d
theorem xA(a:(Z.map (·.1)).Nodup)(h:z∈Z):aQ (GZ Z) z.1=z.2.1:=gD (by rw[gR];exact a) (g:=(z.1,z.2.1))<|ZQ.mpr ⟨z,h,rfl⟩
theorem WR(I:Pz μ n a Z)(hd:μ[d]?=a7 (.lst [])):∃c,fR (.loc a) [PP p,.loc d] μ=a7 (.loc c,μ)/\μ[c]?=a7 (.lst<|(aQ (GZ Z) p).map PP):=by
 by_cases b:p∈Z.map (·.1)
 .obtain⟨z,e,rfl⟩:=tF b;refine⟨z.2.2,?_,by rw[xA I.kd e];exact(I.at_ z e).2⟩;simp only[fR,I.dic,cF,Z4,m3 I.kd e,Option.getD_some]
 .refine⟨d,?_,by rw[m5<|by rw[gR];exact b];exact hd⟩;simp only[fR,I.dic,cF,Z4,wO b,a5S]
theorem B4(h:∀x∈G,x.2.length<=B)p:(aQ G p).length<=B:=by
 unfold aQ;split
 .rename_i g a;exact h g<|a4x a
 .exact a0I _
theorem WS(h:∀x∈G,x.2.length<=B)(d:g.2.length<=100):(c4 o G g).length<=G.length+1/\∀x∈c4 o G g,x.2.length<=B+100:=by
 have b:(if o then aQ G g.1++g.2 else g.2++aQ G g.1).length<=B+100:=by have:=B4 h g.1;split<;>rw[ZO]<;>lia
 unfold c4 fU;generalize(if o then aQ G g.1++g.2 else g.2++aQ G g.1)=L at b;split
 .refine⟨by rw[ZF];lia,λx a=>?_⟩;obtain⟨y,c,rfl⟩:=ZQ.mp a;split
  .exact b
  .exact a0A (h y c)<|by lia
 .refine⟨by rw[ZO];exact ZN _,λx a=>?_⟩;rcases a0M.mp a with a|a
  .exact a0A (h x a)<|by lia
  .rw[a0r.mp a];exact b
theorem B5 o:∀(K S:Gr)B,(∀x∈S,x.2.length<=B)->(∀x∈K,x.2.length<=100)->(K.foldl (c4 o) S).length<=S.length+K.length/\∀x∈K.foldl (c4 o) S,x.2.length<=B+100*K.length
 |[],S,B,h,_=>⟨ZN _,h⟩|g::K,S,B,h,hk=>by obtain⟨d,b⟩:=WS (o:=o) h<|hk g<|a0l ..;obtain⟨e,c⟩:=B5 o K (c4 o S g) (B+100) b λx a=>hk x<|Z2 _ a;rw[a3W,Z8];exact⟨by lia,λx a=>by have:=c x a;lia⟩
theorem WT{Z:Zr}(h:Z[i]?=a7 z):GZ (Z.take<|i+1)=GZ (Z.take i)++[(z.1,z.2.1)]:=by unfold GZ;rw[fV h,Z7];rfl
theorem Iy mv Z:GZ (Z.filter λz=>!mv z.1)=gE mv (GZ Z):=by unfold GZ gE;rw[a5e];rfl
theorem WU o(g:Z.length<=100)(c:∀z∈Z,z.2.1.length<=100)i:((dY mv M<|GZ<|Z.take i).foldl (c4 o)<|gE mv<|GZ Z).length<=200/\∀x∈(dY mv M<|GZ<|Z.take i).foldl (c4 o) (gE mv<|GZ Z),x.2.length<=10100:=by
 have e:∀x∈GZ Z,x.2.length<=100:=λx a=>by obtain⟨z,b,rfl⟩:=ZQ.mp a;exact c z b
 have k:(dY mv M<|GZ<|Z.take i).length<=100:=by unfold dY;rw[ZF];refine a0A (a0G _ _) ?_;rw[iV,a0Q];lia
 obtain⟨j,d⟩:=B5 o (dY mv M<|GZ<|Z.take i) (gE mv<|GZ Z) 100 (λx a=>e x (a0s.mp a).1) λx a=>by obtain⟨y,h,rfl⟩:=ZQ.mp a;rw[a2k];have:=(a0s.mp h).1;obtain⟨z,b,rfl⟩:=ZQ.mp this;exact c z<|a3i b
 have l:(gE mv<|GZ Z).length<=100:=by refine a0A (a0G _ _) ?_;rw[iV];exact g
 exact⟨by lia,λx a=>by have:=d x a;lia⟩
theorem WV{S:Gr}{Z:Zr}(h:Z[i]?=a7 z):
  (dY mv M<|GZ<|Z.take<|i+1).foldl (c4 o) S=if mv z.1 then c4 o ((dY mv M<|GZ<|Z.take i).foldl (c4 o) S) (M z.1,z.2.1.reverse)else(dY mv M<|GZ<|Z.take i).foldl (c4 o) S:=by
 rw[WT h,WD];dsimp only;split
 .rw[a5U];rfl
 .rfl
theorem WW{o a:Option b}{Q:b->Prop}(e:o=a)(h:W a Q):W o Q:=e▸h
theorem Iz{b μ:Hm}{S:Zr}o(x:b<+:μ)(w:b.length<=m)(A:n<=μ.length)(J:Pz μ n m S)(d:μ[r]?=a7 (.lst<|L.map PP))(z:L.length<=100)(v:S.length<=10000)(hA:(aQ (GZ S) g).length<=10100):
  ∃c,fR (.loc m) [PP g,.loc μ.length] (μ++[.lst []])=a7 (.loc c,μ++[.lst []])/\∀Q,(∀j a,b<+:a->Pz a n m j->GZ j=c4 o (GZ S) (g,L)->Q a)->W (bP (if o then .loc c else .loc r) (if o then .loc r else .loc c)<|μ++[.lst []]) λp=>W (k8 (.loc m) (PP g) p.1 p.2) Q:=by
 have i:Pz (μ++[C.lst []]) n m S:=J.keep λc y h=>aG (aT _ _) h;obtain⟨c,u,k⟩:=WR (d:=μ.length) i (p:=g)<|bM _ _;refine⟨c,u,λQ H=>?_⟩;have d:=aG (aT μ<|C.lst []) d;have fin:∀{xs:List D},xs=(if o then aQ (GZ S) g++L else L++aQ (GZ S) g).map PP->W (k8 (.loc m) (PP g) (.loc (μ++[C.lst []]).length)<|μ++[C.lst []]++[.lst xs]) Q:=λe=>by subst e;exact Iw (i.keep λc y h=>aG (aT _ _) h) (bM _ _) (by rw[ZO];lia) v _ λq s l=>H q _ (fL (x.trans<|(aT _ _).trans<|aT _ _) w _) l s
 cases o with
 |true=>exact(Bu k d<|by rw[ZF,ZF,a0n];lia).mpr (fin (Z7 ..).symm)|false=>exact(Bu d k<|by rw[ZF,ZF,a0n];lia).mpr<|fin (Z7 ..).symm
theorem WX k{b μ:Hm}{S:Zr}{L:jq}(E:OnL e u v)(M:b<+:μ)(I:b.length<=m)(K:n<=μ.length)(J:Pz μ n m S)(hc:μ[c]?=a7 (.lst<|L.map PP))(B:L.length<=100)(G:S.length<=10000)(hA:(aQ (GZ S)<|aE (aZ u v) z).length<=10100)(H:∀g a x y t,b<+:a->Pz a n m g->GZ g=c4 o (GZ S) (aE (aZ u v) z,L.reverse)->R (.nx,[l,a7<|PP e,r,a7<|.bl o,a7<|.loc m,a7<|PP z,a7<|.loc c,x,y,t],a)):W (Hj (k+2) [l,a7<|PP e,r,a7<|.bl o,a7<|.loc m,a7<|PP z,a7<|.loc c,x,y,t] μ) R:=by
 have i:=aT μ<|C.lst (L.map PP).reverse;have j:=J.keep λc y h=>aG i h;obtain⟨d,A,w⟩:=Iz (g:=aE (aZ u v) z) (L:=L.reverse) o (M.trans i) I (a0A K i.length_le) j (by rw[a6p];exact bM _ _) (by rw[a2k];exact B) G hA;exact bV<|bS rfl<|(WK k E _ _).mpr<|bV<|bS rfl<|(Hi hc).mpr<|bV<|oT ⟨_,rfl,oU j.dic,_,rfl,_,A,w_mPut.mpr<|WW (by cases o<;>rfl)<|bG (w _ λg a q s e=>H g a _ _ _ q s e) λp x=>⟨_,rfl,_,rfl,x⟩⟩
inductive FpI (μ:Hm)(p:Nat)(Z:Zr)(e:Int×Int)(u n:Int)(a o:Bool):Nat->aI->Hm->Prop
 |mk {i:Nat}{μ':Hm}{S:Zr}{x y gl co th:Option D}(pre:μ.set p (.dF<|aM Z)<+:μ')(J:Pz μ' μ.length μ.length S)(eG:GZ S=(dY (aV u n a) (aE<|aZ u n)<|GZ<|Z.take i).foldl (c4 o) (gE (aV u n a)<|GZ Z)):FpI μ p Z e u n a o i [a7<|.loc p,a7<|PP e,a7<|.int<|sd a,a7<|.bl o,a7<|.loc μ.length,x,y,gl,co,th] μ'
theorem WY k(I:HI μ p Z)(g:μ[p]?=a7 (.dT<|aM Z))(N:Z.length<=100)(A:∀z∈Z,z.2.1.length<=100)(E:OnL e u n)(B:∀z∈Z,cA u z.1≠n)(Q:jz)(H:∀S h,μ<+:h->Pz h μ.length μ.length S->GZ S=j5 (aV u n a) (aE<|aZ u n) o (GZ Z)->Q (.loc μ.length,h)):W (f (k+3) "folded_piles" [.loc p,PP e,.int<|sd a,.bl o] μ) Q:=by
 have c:p<μ.length:=(ZG.mp g).1;refine dR (VB (k+2) _ _ _ _ μ) (bV<|w_mDNewT.mpr<|iT<|WQ k I g (by lia) E B _ λx y=>⟨rfl,iT ?_⟩);generalize hS:(Z.filter λz=>!aV u n a z.1)=S0;have M:(μ++(C.dT (aM<|cN (μ.length+1) S0)::S0.map λz=>C.lst<|z.2.1.map PP))[p]?=a7 (.dT<|aM Z):=by rw[a0f c];exact g
 have s:(S0.map (·.1)).Nodup:=by rw[<- hS];exact(a1a.map _).nodup I.kd
 refine tJ rfl M (wU (a:=p) rfl<|by rw[j6 c];exact nB μ c _) (FpI μ p Z e u n a o) (.mk (S:=cN (μ.length+1) S0) (by rw[j6 c];exact a2S _ _) ?_ ?_) (λi d w h hd r=>?_) λw h r=>?_
 .rw[j6 c];refine⟨BZ _ _ _ _ _,by rw[wX<|nD _ _];exact s,λz m=>?_⟩;have:=wY S0 (μ.length+1) (μ.set p (.dF<|aM Z)++[.dT<|aM<|cN (μ.length+1) S0]) [] (by rw[ZO,a0v];rfl) z m;refine⟨by lia,?_⟩;rw[a0p,a0R]at this;exact this.2
 .rw[nD,<- hS,Iy];rfl
 .obtain⟨b,J,l⟩:=r;rename_i S x y gl K T;rw[qS,ZU]at hd;obtain⟨z,m,rfl⟩:=ZH.mp hd;have j:=Z1 m;have q:=WV (mv:=aV u n a) (M:=aE (aZ u n)) (o:=o) (S:=gE (aV u n a) (GZ Z)) m;refine⟨_,rfl,w_mIfS.mpr<|fG<|bA<|bS rfl<|(wW k E _ _).mpr ⟨_,rfl,w_eqI.mpr ⟨_,rfl,?_⟩⟩⟩;rw[B2<|B z j];cases hc:aV u n a z.1 with
  |false=>rw[hc]at q;exact w_mNext.mpr ⟨rfl,.mk b J<|l.trans q.symm⟩|true=>rw[hc,if_pos rfl,<- l]at q;obtain⟨R,v⟩:=WU (mv:=aV u n a) (M:=aE (aZ u n)) o N A i;refine WX k E b (by rw[a0v];exact ZN _) (by have:=b.length_le;rwa [a0v]at this) J (aG b<|by rw[ZP<|a0o<|I.ne (.inl g) j];exact I.at_ z j) (A z j) (by rw[<- iV,l];lia) (B4 (by rw[l];exact v) _) λU h _ _ _ O G L=>⟨rfl,.mk O G<|L.trans q.symm⟩
 .obtain⟨b,J,l⟩:=r;rename_i S x y gl K T;refine⟨aG b<|a0t c,rfl,c6 ⟨_,rfl,H S _ (qR g b) ⟨?_,J.kd,λz m=>?_⟩ ?_⟩⟩
  .rw[ZP<|by lia];exact J.dic
  .have:=J.at_ z m;rw[ZP<|by lia];exact this
  .rw[l,qS,ZF,a0V];rfl
theorem IA k p u(a:0<=u/\u<4)(μ:Hm)(Q:jz)(H:∀μ',μ<+:μ'->Q (.int<|cA u p,μ')):W (f (k+1) "_law_value" [PP p,.int u] μ) Q:=by rw[VM];exact V8<|V7 rfl rfl<|(cQ (bM _ _)<|WB a).mpr<|H _<|aT _ _
theorem xB k A(hA:Dih A)p μ(Q:jz):W (f (k+1) "_law_led" [LD A,PP p] μ) Q↔Q (PP<|aE A p,μ):=by obtain⟨a,b,c,d⟩:=hA.sm;rw[VJ,W_fin];simp only[w_mSeq,w_mAsg,bC,Wm,a0k,a0m,w_mRet,w_mTup,w_mCons,bT,w_mOp,cT,w_it20,w_it21,bF,kL a,kL b,kL c,kL d,w_addI,fT,true_and];rfl
theorem WZ A n:cE A (aZ 0 n)=⟨A.a,A.b,-A.c,-A.d,A.e,2*n-A.g⟩/\cE A (aZ 1 n)=⟨-A.a,-A.b,A.c,A.d,2*n-A.e,A.g⟩/\cE A (aZ 2 n)=⟨A.c,A.d,A.a,A.b,A.g+n,A.e-n⟩/\cE A (aZ 3 n)=⟨-A.c,-A.d,-A.a,-A.b,n-A.g,n-A.e⟩:=by refine⟨?_,?_,?_,?_⟩<;>(unfold cE aZ;simp only[if_true,if_false,Int.reduceEq,Ly.mk.injEq];lia)
theorem IB k A u n(e:0<=u/\u<4)μ(Q:jz):W (f (k+1) "_law_over" [LD A,.tup [.int u,.int n]] μ) Q↔Q (LD<|cE A<|aZ u n,μ):=by
 obtain⟨a,b,c,d⟩:=WZ A n;refine BG ?_;rw[VL];have:u=0\/u=1\/u=2\/u=3:=by lia
 rcases this with rfl|rfl|rfl|rfl
 .rw[a];exact⟨_,rfl,rfl⟩
 .rw[b];exact⟨_,rfl,rfl⟩
 .rw[c];exact⟨_,rfl,rfl⟩
 .rw[d];exact⟨_,rfl,rfl⟩
noncomputable def IC(n:Nat):List Nat:=a7J (a2g b3 b3 (a7<|-1) n).1 (a2g b3 b3 (a7<|-1) n).2.1 (a2g b3 b3 (a7<|-1) n).2.2
theorem W0:∀n∈a0L 101,IC n=(a0L n).reverse:=by decide +kernel
theorem ID(xs:List a)(h:xs.length<=100):eI xs b3 b3 (a7<|-1)=xs.reverse:=by have e:=W0 xs.length (a1J.mpr<|by lia);unfold IC at e;unfold eI;rw[e,a7B,Ic]
theorem W2{L:jq}{Q:jz}(b:L.length<=100)(d:a c μ=a7 (.loc l,μ))(g:μ[l]?=a7 (.lst<|L.map PP))(H:Q (.loc μ.length,μ++[.lst<|L.reverse.map PP])):
  W (qA a nT nT (rQ<|dP<|mC<|.int 1) c μ) Q:=by
 refine UU ?_;rw[d,W_some];refine⟨l,rfl,?_⟩;refine W_some.mpr<|W_some.mpr<|W_some.mpr ⟨show(a7 (-1):Option Int)≠a7 0 by decide,_,g,?_,?_⟩
 .show(eI (L.map PP) b3 b3<|a7<|-1).length<=ZX;rw[ID _<|by rw[ZF];exact b,a2k,ZF,a0n];lia
 .show Q (.loc μ.length,μ++[.lst<|eI (L.map PP) b3 b3<|a7<|-1]);rw[ID _<|by rw[ZF];exact b,<- a6p];exact H
theorem IE q μ:∀ps:jq,k5 μ (PP q) (ps.map PP)=a7 (ps.contains q)
 |[]=>rfl|p::ps=>by
  show(c5 8 μ (PP p)<|PP q).bind (λb=>(k5 μ (PP q)<|ps.map PP).map λc=>b||c)=_;rw[G8 6,IE q μ ps,List.contains_cons];have:(p==q)=(q==p):=by rw[a0X,beq_iff_eq,beq_iff_eq];exact eq_comm
  rw[this];rfl
theorem IG{ps:jq}{Q:jz}(h:μ[a]?=a7 (.lst<|ps.map PP)):W (cY b (PP q) (.loc a) μ) Q↔Q (.bl<|if b then !(ps.contains q)else ps.contains q,μ):=by
 have:cY b (PP q) (.loc a) μ=a7 (.bl<|if b then !(ps.contains q)else ps.contains q,μ):=by
  have c:bK μ (.loc a)=a7 (ps.map PP):=by simp only[bK,h]
  simp only[cY,l6,h,c,ZY,IE,Z4]
 rw[this];exact W_some
theorem W3{V:Int×Int->D}q(a:q∈qs)(nd:qs.Nodup)d:dW (aN V qs) (a9 q) d=aN (λx=>if x=q then d else V x) qs:=by
 unfold dW;rw[fW nd a,if_pos<|show(a7<|V q).isSome=b5 from rfl];unfold aN;rw[ZS];refine a0q λx _=>?_;show(if a9 x=a9 q then(a9 x,d)else(a9 x,V x))=(a9 x,if x=q then d else V x);by_cases e:x=q
 .rw[if_pos<|by rw[e],if_pos e]
 .rw[if_neg λh=>e<|kM h,if_neg e]
theorem IH{r:aI}:(aB aF (aA 0)<|mC<|.int 1) (a7 (.tup [l,.loc p])::r) μ=a7 (.loc p,μ):=rfl
theorem W4 k{μ:Hm}(g:μ[p]?=a7 (.dT<|aM Z))(E:Z.length<=100)(y:0<=u/\u<4){l:Option D}Q(H:∀t b,μ<+:b->b[t]?=a7 (.lst<|((Z.map (·.1)).filter<|aV u n a).map PP)->Q (.nx,[a7<|.tup [m,.loc p],a7<|.tup [.int u,.int n],a7<|.bl a,i,j,s,a7<|.loc t,v,w,x,c],b)):
  W (dX 1001 (aO 6<|d8 (fF<|aB aF (aA 0)<|mC<|.int 1) (aU<|aB (aR b4) (aB lW (aH (f (k+1) "_law_value")<|aC (aA 11)<|aC (aB aF (aA 1)<|mC<|.int 0) aD)<|aB aF (aA 1)<|mC<|.int 1)<|aA 2)<|aA 11) z
   [a7<|.tup [m,.loc p],a7<|.tup [.int u,.int n],a7<|.bl a,i,j,s,b3,v,w,x,c] μ) Q:=by
 have h:p<μ.length:=(ZG.mp g).1;have o:(μ.set p<|.dF<|aM Z)[p]?=a7 (.dF<|aM Z):=a0t h;refine tI (a:=p) rfl g ?_;rw[w_mSet];refine jL (xs:=(Z.map (·.1)).map PP) (p:=λd=>aV u n a<|dO d) (v:=λd=>d) ?_;rw[BY (a:=p) IH o,tK,W_some];refine⟨wG,rfl,by rw[ZF,ZF,a0n];lia,λd b hd e=>?_,λd b hd _ e=>?_,λb e r=>?_⟩
 .obtain⟨q,_,rfl⟩:=ZQ.mp hd;simp only[a0W,a1n,w_mTest,w_mOp,w_mCall,w_mCons,bT,cT,bC,bF,w_it20,w_it21];refine IA k q u y _ _ λB A=>?_;simp only[w_gtI];exact w_eqBl.mpr ⟨rfl,A⟩
 .simp only[a0W,a1n,bC,bF];exact⟨trivial,a0c _⟩
 .refine⟨aG e o,?_⟩;dsimp only;rw[oS,a0v]at r;rw[a0v];exact H _ _ (qR g e)<|by rw[ZP<|by lia];exact r
theorem W5 k{μ:Hm}(O:∀q,Dih (F q)){ps:jq}(nd:qs.Nodup)(Z:qs.length<=100)(X:0<=u/\u<4)(g:μ[l]?=a7 (.dT<|aN (λq=>LD<|F q) qs))(s:μ[t]?=a7 (.lst<|ps.map PP))(R:∀q∈qs,ps.contains (aE (F q) q)=aV u n a (aE (F q) q))Q(H:∀x,Q (.nx,[v,a7<|.tup [.int u,.int n],w,y,a7<|.loc l,G,a7<|.loc t,x,I,J,p],(μ++[C.lst<|qs.map PP]).set l<|.dT<|aN (λq=>LD<|bY u n a F q) qs)):
  W (b7 (cX<|aH gC<|aC (aA 4) aD) (cP 7) (bE (aU<|aB (cY b4) (aH (f (k+1) "_law_led")<|aC (aB aF (aA 4)<|aA 7)<|aC (aA 7) aD)<|aA 6) (dB (aA 4) (aA 7)<|aH (f (k+1) "_law_over")<|aC (aB aF (aA 4)<|aA 7)<|aC (aA 1) aD) bI)
   [v,a7<|.tup [.int u,.int n],w,y,a7<|.loc l,G,a7<|.loc t,b3,I,J,p] μ) Q:=by
 have T:l<μ.length:=(ZG.mp g).1;have E:t≠l:=λe=>by rw[e,g]at s;cases s
 have U:t<μ.length:=(ZG.mp s).1;simp only[w_mForI,w_iSeq,w_mCall,w_mCons,bT,bC,bF];refine(Hg g).mpr ?_;have N:(aN (λq=>LD<|F q) qs).map (λk=>D.tup<|k.1.map D.int)=qs.map PP:=by unfold aN;rw[ZS];rfl
 rw[N];refine(fS<|bM _ _).mpr ?_;have L:l<(μ++[C.lst<|qs.map PP]).length:=by rw[ZO];lia
 have K:(μ++[C.lst<|qs.map PP])[l]?=a7 (.dT<|aN (λq=>LD<|F q) qs):=aG (aT _ _) g;refine mS (λi m j=>∃x,m=[v,a7<|.tup [.int u,.int n],w,y,a7<|.loc l,G,a7<|.loc t,x,I,J,p]/\j=(μ++[C.lst<|qs.map PP]).set l (.dT<|aN (λq=>LD<|if q∈qs.take i then bY u n a F q else F q) qs))
  ⟨b3,rfl,?_⟩ ?_ (λi d m j hd A=>?_) λm j A=>?_
 .rw[show(λq=>LD<|if q∈qs.take 0 then bY u n a F q else F q)=λq=>LD (F q)from funext λq=>by rw[if_neg<|by simp]];exact(tE K).symm
 .rintro i m j ⟨x,_,rfl⟩;rw[ZP<|by lia];exact bM _ _
 .obtain⟨x,rfl,rfl⟩:=A;obtain⟨q,B,rfl⟩:=lO hd;refine⟨_,rfl,?_⟩;have o:q∈qs:=Z1 B;have Y:q∉qs.take i:=m7 nd B;have gl:((μ++[C.lst<|qs.map PP]).set l<|.dT<|aN (λq=>LD<|if q∈qs.take i then bY u n a F q else F q) qs)[l]?=a7 (.dT<|aN (λq=>LD<|if q∈qs.take i then bY u n a F q else F q) qs):=eQ K;have z:((μ++[C.lst<|qs.map PP]).set l<|.dT<|aN (λq=>LD<|if q∈qs.take i then bY u n a F q else F q) qs)[t]?=a7 (.lst<|ps.map PP):=by rw[ZP<|a0o E];exact aG (aT _ _) s
  have M:∀Q,Q (LD<|F q,(μ++[C.lst<|qs.map PP]).set l<|.dT<|aN (λq=>LD<|if q∈qs.take i then bY u n a F q else F q) qs)->W (aF (.loc l) (PP q)<|(μ++[C.lst<|qs.map PP]).set l<|.dT<|aN (λq=>LD<|if q∈qs.take i then bY u n a F q else F q) qs) Q:=λQ h=>by refine(He gl (cF q)<|fW nd o).mpr ?_;rw[if_neg Y];exact h
  simp only[a0k,a0m,w_mIfS,w_mTest,w_mOp,w_mCall,w_mCons,bT,bC,bF];refine M _<|(xB k (F q) (O q) q _ _).mpr<|(IG z).mpr ?_;rw[if_neg a0a,R q o];have r:∀x∈qs,x∈qs.take (i+1)↔x∈qs.take i\/x=q:=λx _=>by rw[fV B,a0M,a0r]
  cases hc:aV u n a (aE (F q) q)with
  |true=>
   simp only[if_true,w_mPut,w_mCall,w_mCons,bT,w_mOp,bC,bF];refine M _ ((IB k (F q) u n X _ _).mpr<|(mV gl (cF q)<|by rw[ZF,a0n];lia).mpr ⟨_,rfl,?_⟩);rw[W3 q o nd,a5T];congr 2;refine a0q λx c=>?_;dsimp only;by_cases e:x=q
   .rw[if_pos e,if_pos<|(r x c).mpr<|.inr e,e];unfold bY;rw[if_pos hc]
   .rw[if_neg e];by_cases b:x∈qs.take i
    .rw[if_pos b,if_pos<|(r x c).mpr<|.inl b]
    .rw[if_neg b,if_neg λh=>((r x c).mp h).elim b e]
  |false=>
   simp only[Z5,if_false,w_mNext];refine⟨_,rfl,?_⟩;congr 2;refine a0q λx c=>?_;dsimp only;by_cases b:x∈qs.take i
   .rw[if_pos b,if_pos<|(r x c).mpr<|.inl b]
   .by_cases e:x=q
    .rw[if_neg b,if_pos<|(r x c).mpr<|.inr e,e];unfold bY;rw[if_neg<|by rw[hc];exact a0a]
    .rw[if_neg b,if_neg λh=>((r x c).mp h).elim b e]
 .obtain⟨x,rfl,rfl⟩:=A;have e:aN (λq=>LD<|if q∈qs.take (qs.map PP).length then bY u n a F q else F q) qs=aN (λq=>LD<|bY u n a F q) qs:=by refine a0q λx c=>?_;dsimp only;rw[ZF,a0V,if_pos c]
  rw[e];exact H x
theorem II{Z:Zr}(h:q∈Z.map (·.1)):((Z.map (·.1)).filter mv).contains q=mv q:=by rw[a0X,a0H,a0s];exact⟨λx=>x.2,λx=>⟨h,x⟩⟩
theorem W6(I:HI μ p Z)(g:μ[p]?=a7 (.dT<|aM Z))(O:Z.length<=100)(u:μ[t]?=a7 (.lst<|((Z.map (·.1)).filter mv).map PP))Q(H:∀x,Q (.nx,[a7<|.tup [q,.loc p],l,m,n,o,x,a7<|.loc t,B,a7<|.loc μ.length,E,c],μ++(C.dT (aM<|cN (μ.length+1)<|Z.filter λz=>!mv z.1)::(Z.filter λz=>!mv z.1).map λz=>C.lst<|z.2.1.map PP))):
  W (dX 1001 (b7 (fF<|aB aF (aA 0)<|mC<|.int 1) (cP 5)<|bE (aU<|aB (cY b5) (aA 5)<|aA 6) (dB (aA 8) (aA 5)<|aH gC<|aC (aB aF (aB aF (aA 0)<|mC<|.int 1)<|aA 5) aD) bI) N
   [a7<|.tup [q,.loc p],l,m,n,o,b3,a7<|.loc t,B,a7<|.loc μ.length,E,c]<|μ++[C.dT []]) Q:=by
 have a:p<μ.length:=(ZG.mp g).1;have w:t≠p:=λe=>by rw[e,g]at u;cases u
 have G:(μ++[C.dT []])[p]?=a7 (.dT<|aM Z):=by rw[a0f a];exact g
 have r:∀L,(μ.set p (.dF<|aM Z)++L)[p]?=a7 (.dF<|aM Z):=λL=>nB μ a _;refine tJ rfl G (BY (a:=p) IH<|by rw[j6 a];exact r _) (λi k j=>∃x,k=[a7<|.tup [q,.loc p],l,m,n,o,x,a7<|.loc t,B,a7<|.loc μ.length,E,c] /\
   j=μ.set p (.dF<|aM Z)++(C.dT (aM<|cN (μ.length+1)<|(Z.take i).filter λz=>!mv z.1)::((Z.take i).filter λz=>!mv z.1).map λz=>C.lst<|z.2.1.map PP))
  ⟨b3,rfl,j6 a _⟩ (λi d k j hd v=>?_) λk j v=>?_
 .obtain⟨x,rfl,rfl⟩:=v;rw[tK,ZS,ZU]at hd;obtain⟨z,A,rfl⟩:=ZH.mp hd;refine⟨_,rfl,?_⟩;have b:=Z1 A;have M:z.1∈Z.map (·.1):=ZQ.mpr ⟨z,b,rfl⟩;have s:=wZ (p:=p) (c:=.dF (aM Z)) (d:=C.dT (aM<|cN (μ.length+1)<|(Z.take i).filter λz=>!mv z.1)) (L:=((Z.take i).filter λz=>!mv z.1).map λz=>C.lst<|z.2.1.map PP) u w;simp only[Function.comp_apply,a0k,a0m,w_mIfS,w_mTest,w_mOp,bC,bF];refine(IG s).mpr ?_;rw[if_pos rfl,II M];have e:(Z.take<|i+1).filter (λz=>!mv z.1)=(Z.take i).filter (λz=>!mv z.1)++[z].filter (λz=>!mv z.1):=by rw[fV A,a0Y]
  cases hc:mv z.1 with
  |true=>simp only[a2X,Z5,if_false,w_mNext];refine⟨trivial,_,rfl,?_⟩;rw[e,a0x<|by rw[hc];decide,a1o,a0p]|false=>
   simp only[a2r,if_true,w_mPut,w_mCall,w_mCons,bT,w_mOp,cT,w_it21,bC,bF];refine(fH (.inr<|r _) (cF z.1)<|m3 I.kd b).mpr ?_;refine(By<|wZ (I.at_ z b)<|I.ne (.inl g) b).mpr ?_;refine B3 (λh=>I.nd A ?_) (by have:=a0G (λz:(Int×Int)×jq×Nat=>!mv z.1)<|Z.take i;rw[a0Q]at this;lia) _ ⟨trivial,_,rfl,?_⟩
   .obtain⟨y,J,K⟩:=ZQ.mp h;exact ZQ.mpr ⟨y,(a0s.mp J).1,K⟩
   .rw[e,a0w<|by rw[hc];rfl,a1o,nC,nC,Z7,Z7];rfl
 .obtain⟨x,rfl,rfl⟩:=v;refine⟨r _,?_⟩;rw[wV g,tK,ZF,ZF,a0V];exact H x
theorem W7 mv M Z:dY mv M (GZ Z)=(Z.filter λz=>mv z.1).map λz=>(M z.1,z.2.1.reverse):=by unfold dY GZ;rw[a5e,ZS];rfl
theorem xC mv(Z:Zr):(Z.map (·.1)).filter mv=(Z.filter λz=>mv z.1).map (·.1):=by rw[a5e];rfl
theorem W8 k{b μ:Hm}{S:Zr}(T:0<=u/\u<4){L:jq}(U:b<+:μ)(O:b.length<=m)(Q:n<=μ.length)(J:Pz μ n m S)(M:aF (.loc p) (PP z) μ=a7 (.loc c,μ))(hc:μ[c]?=a7 (.lst<|L.map PP))(I:L.length<=100)(N:S.length<=10000)(hA:(aQ (GZ S)<|aE (aZ u v) z).length<=10100)(H:∀g a x y,b<+:a->Pz a n m g->GZ g=c4 o (GZ S) (aE (aZ u v) z,L.reverse)->R (.nx,[a7<|.tup [B,.loc p],a7<|.tup [.int u,.int v],l,a7<|.bl o,r,a7<|PP z,s,A,a7<|.loc m,x,y],a)):
  W (BB (k+1) [a7<|.tup [B,.loc p],a7<|.tup [.int u,.int v],l,a7<|.bl o,r,a7<|PP z,s,A,a7<|.loc m,x,y] μ) R:=by
 have j:=aT μ<|C.lst<|L.reverse.map PP;have i:=J.keep λc y h=>aG j h;obtain⟨d,E,w⟩:=Iz (g:=aE (aZ u v) z) (L:=L.reverse) o (U.trans j) O (a0A Q j.length_le) i (bM _ _) (by rw[a2k];exact I) N hA;refine bV (eA<|bJ<|bS (ds:=[LD c7,.tup [.int u,.int v]]) (μ':=μ) (by kernel_rfl)<|(IB k c7 u v T _ _).mpr ⟨_,rfl,?_⟩);rw[HB];refine(xB k (aZ u v) (tG u v) z _ _).mpr<|bV<|W2 I M hc ?_;have G:=w _ λg a q K e=>H g a (a7<|PP<|aE (aZ u v) z) (a7<|.loc μ.length) q K e;cases o with
 |true=>exact w_mIfS.mpr ⟨_,rfl,w_mPut.mpr<|bA<|oT ⟨_,rfl,oU i.dic,_,rfl,_,E,_,rfl,bG G λp x=>⟨_,rfl,_,rfl,x⟩⟩⟩|false=>exact w_mIfS.mpr ⟨_,rfl,w_mPut.mpr<|bA ⟨_,rfl,oT ⟨_,rfl,oU i.dic,_,rfl,_,E,bG G λp x=>⟨_,rfl,_,rfl,x⟩⟩⟩⟩
theorem W9 k{μ0 μ:Hm}(r:μ0<+:μ)(I:HI μ0 p Z)(g:μ0[p]?=a7 (.dT<|aM Z))(hl:Z.length<=100)(B:∀z∈Z,z.2.1.length<=100)(hu:0<=u/\u<4)(M:μ0[t]?=a7 (.lst<|((Z.map (·.1)).filter<|aV u n a).map PP))(T:Pz μ μ0.length b S0)(E:μ0.length<=b)(Y:GZ S0=gE (aV u n a) (GZ Z))Q(H:∀x y z S c,μ0<+:c->Pz c μ0.length b S->GZ S=j5 (aV u n a) (aE<|aZ u n) o (GZ Z)->Q (.nx,[a7<|.tup [v,.loc p],a7<|.tup [.int u,.int n],a7<|.bl a,a7<|.bl o,s,x,a7<|.loc t,L,a7<|.loc b,y,z],c)):
  W (b7 (cX<|aA 6) (cP 5) (BB<|k+1) [a7<|.tup [v,.loc p],a7<|.tup [.int u,.int n],a7<|.bl a,a7<|.bl o,s,O,a7<|.loc t,L,a7<|.loc b,b3,b3] μ) Q:=by
 refine w_mForI.mpr<|w_iSeq.mpr ⟨_,rfl,(fS<|aG r M).mpr ?_⟩;refine mS (λi j c=>∃x y z S,j=[a7<|.tup [v,.loc p],a7<|.tup [.int u,.int n],a7<|.bl a,a7<|.bl o,s,x,a7<|.loc t,L,a7<|.loc b,y,z]/\μ0<+:c/\Pz c μ0.length b S /\
   GZ S=(((Z.filter λz=>aV u n a z.1).take i).map λz=>(aE (aZ u n) z.1,z.2.1.reverse)).foldl (c4 o) (gE (aV u n a)<|GZ Z))
  ⟨O,b3,b3,S0,rfl,r,T,Y⟩ (by rintro _ _ _ ⟨_,_,_,_,_,h,_⟩;exact aG h M) (λi d j c hd A=>?_) λj c A=>?_
 .obtain⟨x,y,w,S,rfl,l,J,m⟩:=A;rw[xC,ZS,ZU]at hd;obtain⟨z,N,rfl⟩:=ZH.mp hd;have e:=(a0s.mp<|Z1 N).1;have ei:aF (.loc p) (PP z.1) c=a7 (.loc z.2.2,c):=by have h1:c[p]?=a7 (.dT<|aM Z):=aG l g;simp only[aF,h1,cF,ZY,m3 I.kd e,Z4]
  have hK:(((Z.filter λz=>aV u n a z.1).take i).map λz=>(aE (aZ u n) z.1,z.2.1.reverse)).length<=100:=by rw[ZF,a0Q];have:=a0G (λz:(Int×Int)×jq×Nat=>aV u n a z.1) Z;lia
  obtain⟨sm1,K⟩:=B5 o (((Z.filter λz=>aV u n a z.1).take i).map λz=>(aE (aZ u n) z.1,z.2.1.reverse)) (gE (aV u n a)<|GZ Z) 100 (λx q=>by
    obtain⟨y,G,rfl⟩:=ZQ.mp (a0s.mp q).1;exact B y G) λx q=>by
    obtain⟨y,G,rfl⟩:=ZQ.mp q;rw[a2k];exact B y (a0s.mp<|a3i G).1
  have hS0:(gE (aV u n a)<|GZ Z).length<=100:=by refine a0A (a0G _ _) ?_;rw[iV];exact hl
  refine⟨_,rfl,W8 k hu l E l.length_le J ei (aG l<|I.at_ z e) (B z e) (by rw[<- iV,m];lia) (B4 (by rw[m];exact λx q=>by have:=K x q;lia) _) λU c _ _ p' R X=>⟨_,_,_,U,rfl,p',R,?_⟩⟩;rw[X,fV N,Z7,a5U,<- m];rfl
 .obtain⟨x,y,w,S,rfl,l,J,m⟩:=A;refine H x y w S _ l J ?_;rw[m,ZF,xC,ZF,a0V,j5,W7]
noncomputable def lP(Z:Zr)(mv:Int×Int->Bool):Bool:=((Z.map (·.1)).filter mv).isEmpty||(((Z.map (·.1)).filter mv).length==Z.length)
theorem Xa k(hF:∀q,Dih (F q)){qs:jq}(nd:qs.Nodup)(hl:qs.length<=100)(E:qs≠[])(hh:(qs.map λq=>Tb.hashT<|a9 q).Nodup)(I:HI μ p Z)(g:μ[p]?=a7 (.dT<|aM Z))(gl:μ[l]?=a7 (.dT<|aN (λq=>LD<|F q) qs))(A:Z.length<=100)(hb:∀z∈Z,z.2.1.length<=100)(hk:∀q∈qs,aE (F q) q∈Z.map (·.1))(H:0<=u/\u<4)(Q:jz)(N:lP Z (aV u n a)=b5->∀c,μ<+:c->Q (.non,c))(H1:lP Z (aV u n a)=b4->∀S J X c,μ<+:c->μ.length<=J->c[J]?=a7 (.dT<|aN (λq=>LD<|bY u n a F q) qs)->Pz c μ.length X S->GZ S=j5 (aV u n a) (aE<|aZ u n) o (GZ Z)->Q (.tup [.loc J,.loc X],c)):
  W (f (k+2) "_law_folded" [.tup [.loc l,.loc p],.tup [.int u,.int n],.bl a,.bl o] μ) Q:=by
 have hlt:l<μ.length:=(ZG.mp gl).1;have hpt:p<μ.length:=(ZG.mp g).1;rw[VO,W_fin];simp only[w_mSeq,w_mSet,w_mCall,w_mCons,bT,w_mOp,cT,w_it20,bC,bF];refine(HR gl ⟨?_,?_⟩).mpr ?_
 .intro e;have:=congrArg a0F e;rw[ZF]at this;exact E<|a2f.mp this
 .rw[ZS];exact hh
 simp only[a0k,a0m];have K:μ<+:μ++[C.dT<|aN (λq=>LD<|F q) qs]:=aT _ _;refine W4 k (aG K g) A H (l:=b3) _ λt b L T=>?_;have gc:b[μ.length]?=a7 (.dT<|aN (λq=>LD<|F q) qs):=aG L<|bM _ _;have g2:=aG (K.trans L) g;have q2:=K.trans L;simp only[w_mIfS,w_mOrT,w_mTest,w_mOp,w_mLst,bT,w_mCall,w_mCons,cT,w_it21,bC,bF];refine⟨a0I _,(Wu (aG (aT _ _) T)<|bM _ _).mpr ?_⟩;have v:μ<+:b++[C.lst []]:=q2.trans<|aT _ _;have d:(b++[C.lst []])[t]?=a7 (.lst<|((Z.map (·.1)).filter<|aV u n a).map PP):=aG (aT _ _) T;have h:(b++[C.lst []])[μ.length]?=a7 (.dT<|aN (λq=>LD<|F q) qs):=aG (aT _ _) gc;have em:(((Z.map (·.1)).filter<|aV u n a).map PP).isEmpty=((Z.map (·.1)).filter<|aV u n a).isEmpty:=by cases(Z.map (·.1)).filter (aV u n a)<;>rfl
 have el:(((((Z.map (·.1)).filter<|aV u n a).map PP).length:Int)==((aM Z).length:Int))=(((Z.map (·.1)).filter<|aV u n a).length==Z.length):=by rw[ZF,m4,a0X,beq_iff_eq,beq_iff_eq];lia
 dsimp only;rw[em];cases w:((Z.map (·.1)).filter<|aV u n a).isEmpty with
 |true=>simp only[if_true,w_mRet,cT];exact N (by unfold lP;rw[w];rfl) _ v|false=>
  simp only[Z5,if_false];refine(qN d).mpr<|(Bx<|aG v g).mpr<|w_eqI.mpr ?_;dsimp only;rw[el];cases U:(((Z.map (·.1)).filter<|aV u n a).length==Z.length)with
  |true=>simp only[if_true,w_mRet,cT];exact N (by unfold lP;rw[w,U];rfl) _ v|false=>
   simp only[Z5,if_false,w_mNext];refine W5 k hF nd hl H h d (λq hq=>II<|hk q hq) _ λx=>?_;have B:μ.length<(b++[C.lst []]++[C.lst<|qs.map PP]).length:=by have:=(ZG.mp h).1;rw[ZO];lia
   have m:μ<+:(b++[C.lst []]++[C.lst<|qs.map PP]).set μ.length (.dT<|aN (λq=>LD<|bY u n a F q) qs):=fL (v.trans<|aT _ _) (ZN _) _;have j:((b++[C.lst []]++[C.lst<|qs.map PP]).set μ.length<|.dT<|aN (λq=>LD<|bY u n a F q) qs)[μ.length]?=a7 (.dT<|aN (λq=>LD<|bY u n a F q) qs):=a0t B;have G:t≠μ.length:=λe=>by rw[e,h]at d;cases d
   have i:((b++[C.lst []]++[C.lst<|qs.map PP]).set μ.length<|.dT<|aN (λq=>LD<|bY u n a F q) qs)[t]?=a7 (.lst<|((Z.map (·.1)).filter<|aV u n a).map PP):=by rw[ZP<|a0o G];exact aG (aT _ _) d
   generalize(b++[C.lst []]++[C.lst<|qs.map PP]).set μ.length (.dT<|aN (λq=>LD<|bY u n a F q) qs)=μ4 at m j i;simp only[w_mDNewT,a0k,a0m];have O:HI μ4 p Z:=I.more m;have R:=aG m g;refine W6 O R A i _ λx=>?_;simp only[];have pr:μ4<+:μ4++(C.dT (aM<|cN (μ4.length+1)<|Z.filter λz=>!aV u n a z.1)::(Z.filter λz=>!aV u n a z.1).map λz=>C.lst<|z.2.1.map PP):=a2S _ _;refine W9 k pr O R A hb H i (S0:=cN (μ4.length+1) (Z.filter λz=>!aV u n a z.1)) ⟨?_,?_,λz s=>?_⟩ (ZN _) (by rw[nD,Iy]) _ λx y z S M Y r e5=>?_
   .rw[a0N<|ZN _,a3L];rfl
   .rw[wX<|nD _ _];exact(a1a.map _).nodup I.kd
   .have:=wY (Z.filter λz=>!aV u n a z.1) (μ4.length+1) (μ4++[.dT<|aM<|cN (μ4.length+1)<|Z.filter λz=>!aV u n a z.1]) [] (by rw[ZO];rfl) z s;refine⟨by lia,?_⟩;rw[a0p,a0R]at this;exact this.2
   .simp only[w_mRet,w_mTup,w_mCons,bT,bC,bF];refine⟨fT,H1 (by unfold lP;rw[w,U];rfl) S _ _ M (m.trans Y) (ZN _) (aG Y j) ⟨r.dic,r.kd,λz s=>⟨a0A m.length_le (r.at_ z s).1,(r.at_ z s).2⟩⟩ e5⟩
theorem IJ(u:∀ρ μ Q,W (me ρ μ) Q↔Q (LD c7,μ)){μ0 μ:Hm}(nd:qs.Nodup)(hl:qs.length<=100)(E:μ0<+:μ)(Z:μ0.length<=a)(lb:μ0.length<=b)(L:a≠b)(N:μ[a]?=a7 (.dT []))(O:μ[b]?=a7 (.dT []))(gl:μ[l]?=a7 (.lst<|qs.map PP))Q(H:∀x S g,μ0<+:g->g[a]?=a7 (.dT<|aN (λ_=>LD c7) qs)->Pz g μ0.length b S->GZ S=iW qs->Q (.nx,[G,I,a7<|.loc a,a7<|.loc b,x],g)):
  W (eF (cS<|.loc l) (cP 4) (aJ (dB (aA 2) (aA 4) me)<|dB (aA 3) (aA 4)<|cJ<|aC (aA 4) aD) ((qs.map PP).length+1) 0 [G,I,a7<|.loc a,a7<|.loc b,b3] μ) Q:=by
 have v:l≠a:=λe=>by rw[e,N]at gl;cases gl
 have w:l≠b:=λe=>by rw[e,O]at gl;cases gl
 refine mS (λi k g=>∃x S,k=[G,I,a7<|.loc a,a7<|.loc b,x]/\μ0<+:g/\g[a]?=a7 (.dT<|aN (λ_=>LD c7)<|qs.take i)/\Pz g μ0.length b S/\GZ S=iW (qs.take i)/\g[l]?=a7 (.lst<|qs.map PP))
  ⟨b3,[],rfl,E,N,⟨O,a2K,λz r=>nomatch r⟩,rfl,gl⟩ (λ_ _ _ ⟨_,_,_,_,_,_,_,h⟩=>h) ?_ ?_
 .rintro i d k g hd ⟨x,S,rfl,A,m,J,n,M⟩;obtain⟨q,s,rfl⟩:=lO hd;refine⟨_,rfl,?_⟩;have Y:i<qs.length:=(ZG.mp s).1;have R:q∉qs.take i:=m7 nd s;have lS:S.length<=100:=by rw[<- iV,n];unfold iW;rw[ZF,a0Q];lia
  simp only[a0k,a0m,w_mSeq,w_mPut,u,bC,bF];refine(mV m (cF q)<|by rw[ZF,a0Q,a0n];lia).mpr ?_;rw[BV R,<- fV s];have j:∀(c:Nat)(y:C),c≠a->g[c]?=a7 y->(g.set a<|C.dT<|aN (λ_=>LD c7)<|qs.take<|i+1)[c]?=a7 y:=λc y h e=>by rw[ZP<|a0o h];exact e
  have K:Pz (g.set a<|C.dT<|aN (λ_=>LD c7)<|qs.take<|i+1) μ0.length b S:=⟨j _ _ (a0o L) J.dic,J.kd,λz r=>⟨(J.at_ z r).1,j _ _ (λe=>by have:=(J.at_ z r).2;rw[e,m]at this;cases this) (J.at_ z r).2⟩⟩;have B:=fL A Z<|C.dT<|aN (λ_=>LD c7)<|qs.take<|i+1;have o:(g.set a<|C.dT<|aN (λ_=>LD c7)<|qs.take<|i+1)[a]?=a7 (C.dT<|aN (λ_=>LD c7)<|qs.take<|i+1):=eQ m;have p:=j _ _ v M;generalize g.set a (C.dT<|aN (λ_=>LD c7)<|qs.take<|i+1)=μ2 at K B o p;simp only[w_mLst,w_mCons,bT,bC,bF];refine⟨BF,?_⟩;refine Iw (K.keep λc y h=>aG (aT μ2<|C.lst [PP q]) h) (p:=q) (L:=[q]) (bM _ _) B.length_le (by lia) _ λU X T=>?_;refine⟨_,U,rfl,fL (B.trans<|aT _ _) lb _,by rw[ZP<|a0o L];exact aG (aT _ _) o,T,?_,by rw[ZP<|a0o w];exact aG (aT _ _) p⟩;rw[X,n,WC<|by rw[BW];exact R,fV s];unfold iW;rw[Z7];rfl
 .rintro k g ⟨x,S,rfl,A,m,J,n,M⟩;rw[ZF,a0V]at m n;exact H x S g A m J n
theorem xD{Q:jz}(h:W (m b μ) λp=>∃a fs d,p.1=.loc a/\p.2[a]?=a7 (.ins x fs)/\fs.lookup g=a7 d/\Q (d,p.2)):W (eX x g m b μ) Q:=by unfold eX;rw[W_bind];refine bG h λp ⟨a,fs,d,c,e,i,j⟩=>?_;rw[c];dsimp only;rw[e];dsimp only;rw[if_pos rfl,i];exact W_some.mpr j
theorem B6(h:W (mv b μ) λp=>W (c b p.2) λq=>∃a fs,q.1=.loc a/\q.2[a]?=a7 (.ins x fs)/\fs.length<100/\Q (.nx,b,q.2.set a<|.ins x<|iO g p.1 fs)):W (l9 x g c mv b μ) Q:=by unfold l9;rw[W_bind];refine bG h λp h=>?_;rw[W_bind];refine bG h λq ⟨a,fs,d,e,i,j⟩=>?_;rw[d];dsimp only;rw[e];dsimp only;rw[if_pos ⟨rfl,i⟩];exact W_some.mpr j
theorem xE{Q:jz}(h:W (d b μ) λp=>∃a fs,p.1=.loc a/\p.2[a]?=a7 (.ins x fs)/\fs.lookup m=b3/\W (ms b p.2) λq=>W (c (.loc a::q.1) q.2) Q):W (jI x m c d ms b μ) Q:=by unfold jI;rw[W_bind];refine bG h λp ⟨a,fs,e,g,i,j⟩=>?_;rw[e];dsimp only;rw[g];dsimp only;rw[if_pos ⟨rfl,i⟩,W_bind];exact j
theorem Xb{Q:jz}(h:W (ms b μ) λq=>W (a (.loc q.2.length::q.1)<|q.2++[.ins x []]) λr=>r.1=.non/\Q (.loc q.2.length,r.2)):W (mD x a ms b μ) Q:=by unfold mD;rw[W_bind];refine bG h λq h=>?_;rw[W_bind];refine bG h λr ⟨c,d⟩=>?_;rw[c];exact W_some.mpr d
theorem Xc k w h(hw:1<=w/\w<=3)(j:1<=h/\h<=3)(μ:Hm)(Q:jz)(H:∀a μ',μ<+:μ'->μ'[a]?=a7 (.lst<|((m9 w h).filter bW).map PP)->Q (.loc a,μ')):W (f (k+2) "quarters_in" [.int w,.int h] μ) Q:=by
 rw[Vj,W_fin];simp only[w_mRet];refine jL (xs:=(m9 w h).map PP) (p:=λd=>bW<|dO d) (v:=λd=>d) ?_;simp only[w_iSeq,w_mCall,w_mCons,bT,bC,bF];refine Io _ w h (by lia) (by lia) _ _ λa i g c l=>?_;refine(fS c).mpr ⟨mT c,rfl,?_,λd μ' hd b=>?_,λd μ' hd _ b=>?_,λμ' b e=>?_⟩
 .have:=Ip (w:=w) (h:=h) (by lia) (by lia);rw[ZF,a0n];lia
 .obtain⟨u,v,rfl⟩:=BH hd;simp only[a0W,a1n,w_mTru,w_mCall,w_mCons,bT,bC,bF,Iq,w_truB];exact⟨rfl,a0c _⟩
 .simp only[a0W,a1n,bC,bF];exact⟨trivial,a0c _⟩
 .refine H _ _ (g.trans b) ?_;rw[e,oS bW]
theorem tL:∀w∈[(1:Int),2,3],∀h∈[(1:Int),2,3],(m9 w h).filter bW=c8 w h/\(c8 w h).length<=36/\c8 w h≠[]/\(c8 w h).Nodup/\((c8 w h).map λq=>Tb.hashT<|a9 q).Nodup/\(c8 w h).all bW=true:=by decide +kernel
theorem IK(h:bW p=b5)(a:n%4=0):cA u p≠n:=by
 unfold bW at h;unfold cA;split at h
 .simp only[beq_iff_eq]at h;split<;>(try split)<;>(try split)<;>lia
 .simp only[ZL,beq_iff_eq]at h;split<;>(try split)<;>(try split)<;>lia
theorem Xd(h:bW p=b5)(e:n%4=0):bW (aE (aZ u n) p)=true:=by
 obtain⟨x,y⟩:=p;have q:∀a b:Int,(a%2=1/\b%4=2)\/(a%4=2/\b%2=1)->bW (a,b)=true:=λa b z=>by
  unfold bW;dsimp only;split
  .rw[beq_iff_eq];lia
  .rw[ZL,beq_iff_eq,beq_iff_eq];lia
 have r:(x%2=1/\y%4=2)\/(x%4=2/\y%2=1):=by
  unfold bW at h;dsimp only at h;split at h
  .rw[beq_iff_eq]at h;lia
  .rw[ZL,beq_iff_eq,beq_iff_eq]at h;lia
 obtain⟨m,rfl⟩:∃m,n=4*m:=⟨n/4,by lia⟩;clear e h;unfold aZ;split
 .show bW (1*x+0*y+0,0*x+(-1)*y+2*(4*m))=b5;rcases r with⟨c,d⟩|⟨c,d⟩
  .exact q _ _<|.inl ⟨by lia,by lia⟩
  .exact q _ _<|.inr ⟨by lia,by lia⟩
 .split
  .show bW ((-1)*x+0*y+2*(4*m),0*x+1*y+0)=b5;rcases r with⟨c,d⟩|⟨c,d⟩
   .exact q _ _<|.inl ⟨by lia,by lia⟩
   .exact q _ _<|.inr ⟨by lia,by lia⟩
  .split
   .show bW (0*x+1*y+4*m,1*x+0*y+-(4*m))=b5;rcases r with⟨c,d⟩|⟨c,d⟩
    .exact q _ _<|.inr ⟨by lia,by lia⟩
    .exact q _ _<|.inl ⟨by lia,by lia⟩
   .show bW (0*x+(-1)*y+4*m,(-1)*x+0*y+4*m)=b5;rcases r with⟨c,d⟩|⟨c,d⟩
    .exact q _ _<|.inr ⟨by lia,by lia⟩
    .exact q _ _<|.inl ⟨by lia,by lia⟩
noncomputable def j7(u n:Int)(Z:Zr):List Int:=(Z.map (·.1)).map λp=>jO<|cA u p-n
theorem IL μ x:∀ws:List Int,k5 μ (.int x) (ws.map D.int)=a7 (ws.any λw=>w==x)
 |[]=>rfl|w::ws=>by rw[ZR,a4H];show(c5 8 μ (.int w)<|.int x).bind _=_;have e:c5 8 μ (.int w) (.int x)=a7 (w==x):=rfl;rw[e,IL μ x ws];rfl
theorem Xe{ws:List Int}{Q:jz}(h:μ[a]?=a7 (.lst<|ws.map D.int)):W (cY b5 (.int x) (.loc a) μ) Q↔Q (.bl<|!(ws.any λw=>w==x),μ):=by
 have b:bK μ (.loc a)=a7 (ws.map D.int):=by simp only[bK,h]
 have:cY b5 (.int x) (.loc a) μ=a7 (.bl<|!(ws.any λw=>w==x),μ):=by simp only[cY,l6,h,b,ZY,IL,Z4,if_true]
 rw[this];exact W_some
theorem Xf k{μ:Hm}(g:μ[p]?=a7 (.dT<|aM Z))(m:Z.length<=100)(E:OnL e u n)Q(H:∀t a,μ<+:a->a[t]?=a7 (.lst<|(j7 u n Z).map D.int)->Q (.nx,[a7<|.loc p,a7<|PP e,a7<|.loc t],a)):
  W (dX 0 (aO 2<|d8 (fF<|aA 0) f6<|aH (f (k+2) "hand_of")<|aC (aA 3)<|aC (aA 1) aD) l [a7<|.loc p,a7<|PP e,b3] μ) Q:=by
 have c:p<μ.length:=(ZG.mp g).1;have h:(μ.set p<|.dF<|aM Z)[p]?=a7 (.dF<|aM Z):=a0t c;refine tI (a:=p) rfl g ?_;rw[w_mSet];refine jL (xs:=(Z.map (·.1)).map PP) (p:=λ_=>b5) (v:=λd=>.int<|jO<|cA u (dO d)-n) ?_;rw[BY (a:=p) rfl h,tK,W_some];refine⟨wG,rfl,by rw[ZF,ZF,a0n];lia,λd a hd b=>w_mTrue.mpr ⟨rfl,a0c _⟩,λd a hd _ b=>?_,λa b i=>?_⟩
 .obtain⟨q,_,rfl⟩:=ZQ.mp hd;simp only[a0W,a1n,w_mCall,w_mCons,bT,bC,bF];exact(wW k E _ _).mpr ⟨rfl,a0c _⟩
 .refine⟨aG b h,?_⟩;dsimp only;have j:(((Z.map (·.1)).map PP).filter λ_=>b5).map (λd=>D.int<|jO<|cA u (dO d)-n)=(j7 u n Z).map D.int:=by rw[a4g.mpr λ_ _=>rfl];unfold j7;simp only[ZS];rfl
  rw[j,a0v]at i;rw[a0v];exact H _ _ (qR g b)<|by rw[ZP<|by lia];exact i
noncomputable def tP(u n:Int)(Z:Zr):Bool:=!((j7 u n Z).any λw=>w==1)||!((j7 u n Z).any λw=>w==-1)
theorem Xg(g:μ[t]?=a7 (.lst<|(j7 u n Z).map D.int))Q:
  W (fJ (aU<|aB (cY b5) (mC<|.int 1)<|aA 2) (aU<|aB (cY b5) (dP<|mC<|.int 1)<|aA 2) [a,b,a7<|.loc t] μ) Q↔Q (tP u n Z,μ):=by
 simp only[w_mOrT,w_mTest,w_mOp,cT,wD,bC,bF,Xe g];unfold tP;cases !((j7 u n Z).any λw=>w==1)<;>simp
theorem Xh k{μ:Hm}(g:μ[p]?=a7 (.dT<|aM Z))(b:Z.length<=100)(E:OnL e u n)(hB:tP u n Z=b4)(Q:jz)(H:∀μ',μ<+:μ'->Q (.non,μ')):W (f (k+3) "check_fold" [.loc p,PP e] μ) Q:=by rw[VC,W_fin,w_mSeq];refine Xf k g b E _ λt d c a=>?_;simp only[w_mIfS];refine(Xg a _).mpr ?_;rw[hB];simp only[Z5,if_false,w_mNext];exact H _ c
theorem B7{a:Type}{p q:a->Bool}:∀{l:List a},(∀z∈l,p z=q z)->l.any p=l.any q
 |[],_=>rfl|x::l,h=>by rw[a4H,a4H,h x<|a0l ..,B7 λz b=>h z<|Z2 _ b]
theorem Xi a(h:∀z∈Z,cA u z.1≠n):tP u n Z=lP Z (aV u n a):=by
 have one:((j7 u n Z).any λw=>w==1)=Z.any λz=>decide (n<cA u z.1):=by
  unfold j7;rw[a5W,a5W];refine B7 λz b=>?_;show(jO (cA u z.1-n)==1)=_;unfold jO;by_cases c:n<cA u z.1
  .rw[if_pos<|by lia,decide_eq_true c];rfl
  .rw[if_neg<|by lia,decide_eq_false c];split<;>rfl
 have two:((j7 u n Z).any λw=>w==-1)=Z.any λz=>!decide (n<cA u z.1):=by
  unfold j7;rw[a5W,a5W];refine B7 λz b=>?_;have:=h z b;show(jO (cA u z.1-n)==-1)=_;unfold jO;by_cases c:n<cA u z.1
  .rw[if_pos<|by lia,decide_eq_true c];rfl
  .rw[if_neg<|by lia,if_pos<|by lia,decide_eq_false c];rfl
 have d:((Z.map (·.1)).filter<|aV u n a).isEmpty=!(Z.any λz=>aV u n a z.1):=by rw[xC];rw[a0X];simp[List.isEmpty_iff,a2m,a5X]
 have f2:(((Z.map (·.1)).filter<|aV u n a).length==Z.length)=!(Z.any λz=>!aV u n a z.1):=by rw[xC,ZF,a0X,beq_iff_eq,List.length_filter_eq_length_iff];simp[a5X]
 unfold tP lP;rw[one,two,d,f2];unfold aV;cases a with
 |true=>simp only[beq_true]|false=>simp only[beq_false,a7E];rw[Bool.or_comm]
structure StZ(μ:Hm)(b:Nat)(d:D)(F:Int×Int->Ly)(qs:jq)(G:Gr):Prop where
 ex:∃l p Z,d=.tup [.loc l,.loc p]/\μ[l]?=a7 (.dT<|aN (λq=>LD<|F q) qs)/\HI μ p Z/\μ[p]?=a7 (.dT<|aM Z)/\GZ Z=G/\∀z∈Z,z.2.2≠b
theorem StZ.keep(S:StZ μ b d F qs G)(i:μ[b]?=a7 (.lst xs))(h:∀c y,c≠b->μ[c]?=a7 y->μ'[c]?=a7 y):StZ μ' b d F qs G:=by obtain⟨l,p,Z,e,a,I,g,n,m⟩:=S.ex;have j:=h p _ (λe=>by rw[e,i]at g;cases g) g;exact⟨l,p,Z,e,h l _ (λe=>by rw[e,i]at a;cases a) a,⟨.inl j,I.kd,λz k=>h _ _ (m z k)<|I.at_ z k⟩,j,n,m⟩
theorem StZ.more{μ':Hm}(S:StZ μ b d F qs G)(h:μ<+:μ'):StZ μ' b d F qs G:=by obtain⟨l,p,Z,e,c,I,g,a,i⟩:=S.ex;exact⟨l,p,Z,e,aG h c,I.more h,aG h g,a,i⟩
theorem StZ.new(g:μ[l]?=a7 (.dT<|aN (λq=>LD<|F q) qs))(J:Pz μ n p Z)(c:b<n):StZ μ b (.tup [.loc l,.loc p]) F qs (GZ Z):=
 ⟨l,p,Z,rfl,g,⟨.inl J.dic,J.kd,λz a=>(J.at_ z a).2⟩,J.dic,rfl,λz a e=>by have:=(J.at_ z a).1;lia⟩
structure Gd(qs:jq)(F:Int×Int->Ly)(G:Gr):Prop where
 di:∀q,Dih (F q)
 pl:Pil qs (λq=>aE (F q) q) G
 qr:∀q∈qs,bW (aE (F q) q)=b5
theorem Gd.fold(h:Gd qs F G)(c:n%4=0)a o:Gd qs (bY u n a F) (j5 (aV u n a) (aE<|aZ u n) o G):=by
 refine⟨Ig h.di,?_,λq b=>?_⟩
 .have:=WA h.pl (mv:=aV u n a) (BQ u n) o;rw[show(λq=>aE (bY u n a F q) q)=λq=>if aV u n a (aE (F q) q)then aE (aZ u n) (aE (F q) q)else aE (F q) q from funext λq=>Ih u n a F q];exact this
 .rw[Ih];split
  .exact Xd (h.qr q b) c
  .exact h.qr q b
theorem Gd.key(h:Gd qs F (GZ Z)):(∀q∈qs,aE (F q) q∈Z.map (·.1))/\(∀z∈Z,bW z.1=b5)/\Z.length<=qs.length/\∀z∈Z,z.2.1.length<=qs.length:=by
 refine⟨λq a=>?_,λz b=>?_,h.pl.lenZ.1,λz b=>(h.pl.lenZ.2 z b).2⟩
 .rw[<- gR];exact h.pl.key.mpr ⟨q,a,rfl⟩
 .have:z.1∈(GZ Z).map (·.1):=by rw[gR];exact ZQ.mpr ⟨z,b,rfl⟩
  obtain⟨q,a,e⟩:=h.pl.key.mp this;rw[<- e];exact h.qr q a
noncomputable def B8(G:Gr)(mv:Int×Int->Bool):Bool:=((G.map (·.1)).filter mv).isEmpty||(((G.map (·.1)).filter mv).length==G.length)
theorem IM Z mv:lP Z mv=B8 (GZ Z) mv:=by unfold lP B8;rw[gR,iV]
noncomputable abbrev kN(w h:Int)(b:Nat):List (Str×D):=[("wide",.int w),("high",.int h),("states",.loc b)]
theorem Xj xs(d:a):atI (xs++[d]) (-1)=a7 d:=by unfold atI jR;rw[if_neg<|by decide,if_pos<|by rw[ZO,a2s];lia];show(xs++[d])[_]?=_;rw[show((-1:Int)+((xs++[d]).length:Int)).toNat=xs.length by rw[ZO,a2s];lia];simp
theorem xF{r:aI}(i1:μ[o]?=a7 (.ins "Folding"<|kN w h b))(i2:μ[b]?=a7 (.lst<|xs++[d]))(Q:jz)(H:Q (d,μ)):W ((aB aF (eX "Folding" "states"<|aA 0)<|dP<|mC<|.int 1) (a7 (.loc o)::r) μ) Q:=by rw[w_mOp];refine xD ?_;simp only[bC];refine⟨o,_,_,rfl,i1,rfl,?_⟩;simp only[wD,cT];exact(cQ i2<|Xj xs d).mpr H
theorem Xk k{F:Int×Int->Ly}{qs:jq}(a:qs≠[])(c:(qs.map λq=>Tb.hashT<|a9 q).Nodup)(i1:μ[o]?=a7 (.ins "Folding"<|kN w h b))(i2:μ[b]?=a7 (.lst<|xs++[.tup [.loc l,.loc p]]))(g:μ[l]?=a7 (.dT<|aN (λq=>LD<|F q) qs))(Q:jz)(H:Q (.loc μ.length,μ++[.dT<|aN (λq=>LD<|F q) qs])):W (f (k+1) "Folding.layings" [.loc o] μ) Q:=by
 rw[VY,W_fin];simp only[w_mRet,w_mCall,w_mCons,bT];rw[w_mOp];refine xF i1 i2 _ ?_;simp only[cT,w_it20];refine(HR g ⟨?_,?_⟩).mpr H
 .intro e;have:=congrArg a0F e;rw[ZF]at this;exact a<|a2f.mp this
 .rw[ZS];exact c
theorem Xl k(i1:μ[o]?=a7 (.ins "Folding"<|kN w h b))(i2:μ[b]?=a7 (.lst<|xs++[.tup [.loc l,.loc p]]))(I:HI μ p Z)(g:μ[p]?=a7 (.dT<|aM Z))(a:Z.length<=1000)(Q:jz)(H:Q (.loc μ.length,μ++(.dT (aM<|cN (μ.length+1) Z)::Z.map λz=>C.lst<|z.2.1.map PP))):W (f (k+2) "Folding.piles" [.loc o] μ) Q:=by
 rw[VZ,W_fin];simp only[w_mRet,w_mCall,w_mCons,bT];rw[w_mOp];refine xF i1 i2 _ ?_;simp only[cT,w_it21];exact WO k I g a _ H
theorem Xm(G:Gd qs F (GZ Z))(a:n%4=0):(∀q∈qs,cA u (aE (F q) q)≠n)/\∀z∈Z,cA u z.1≠n:=⟨λq b=>IK (G.qr q b) a,λz hz=>IK (G.key.2.1 z hz) a⟩
theorem Xn k(nd:qs.Nodup)(hl:qs.length<=64)(i1:μ[o]?=a7 (.ins "Folding"<|kN w h b))(i2:μ[b]?=a7 (.lst<|xs++[d]))(hx:xs.length<=1000)(S:StZ μ b d F qs G)(B:Gd qs F G)(E:OnL e u n)(hn:n%4=0)(hN:B8 G (aV u n a)=b4)(Q:jz)(H:∀N i,(∀c y,c≠b->μ[c]?=a7 y->i[c]?=a7 y)->i[b]?=a7 (.lst<|xs++[d]++[N])->StZ i b N (bY u n a F) qs (j5 (aV u n a) (aE<|aZ u n) x G)->Q (.non,i)):
  W (f (k+5) "Folding.fold" [.loc o,PP e,.bl a,.bl x] μ) Q:=by
 obtain⟨l,p,Z,rfl,g1,I,O,rfl,nb⟩:=S.ex;obtain⟨v1,R⟩:=Xm B (u:=u) hn;obtain⟨_,_,lZ,X⟩:=B.key;rw[VX,W_fin,w_mSeq,w_mSet];refine xF i1 i2 _ ?_;simp only[a0k,a0m,w_mSeq,w_mDrop,w_mCall,w_mCons,bT,w_mOp,cT,w_it21,bC,bF];refine Xh (k+1) O (by lia) E (by rw[Xi a R,IM];exact hN) _ λg s=>?_;have ib:b<μ.length:=(ZG.mp i2).1;simp only[w_mSet,w_mIfE,w_mTru,bC,bF,w_truB];have step:∀Q:jz,Q (.int<|sd a,g)->(if a=b5 then W ((mC<|.int 1) [a7<|.loc o,a7<|PP e,a7<|.bl a,a7<|.bl x,a7<|.tup [.loc l,.loc p],b3] g) Q else W ((dP<|mC<|.int 1) [a7<|.loc o,a7<|PP e,a7<|.bl a,a7<|.bl x,a7<|.tup [.loc l,.loc p],b3] g) Q):=λQ h=>by
  cases a with
  |true=>exact W_some.mpr h|false=>exact W_some.mpr h
 refine step _ ?_;simp only[a0k,a0m];refine mU<|xD ?_;simp only[bC];have K:=aG s i2;refine⟨o,_,_,rfl,aG s i1,rfl,by simp only[l7,K],?_⟩;simp only[w_mCons,bT,w_mTup,w_mCall,w_mOp,cT,w_it20,w_it21,bC,bF];refine WN k B.di nd (by lia) E v1 (aG s g1) _ ?_;have j:μ<+:g++[C.dT<|aN (λq=>LD<|bY u n a F q) qs]:=s.trans<|aT _ _;have gl:(g++[C.dT<|aN (λq=>LD<|bY u n a F q) qs])[g.length]?=a7 (.dT<|aN (λq=>LD<|bY u n a F q) qs):=bM _ _;have hge:μ.length<=g.length:=s.length_le;have m:(g++[C.dT<|aN (λq=>LD<|bY u n a F q) qs]).length=g.length+1:=by rw[ZO];rfl
 generalize g++[C.dT<|aN (λq=>LD<|bY u n a F q) qs]=μ2 at j gl m;refine WY (k+1) (I.more j) (aG j O) (by lia) (λz r=>by have:=X z r;lia) E R _ λU v A J Y=>?_;refine⟨fT,(qM (aG (j.trans A) i2)<|by rw[ZO,a2s,a0n];lia).mpr ?_⟩;have L:b<v.length:=a0e ib (j.trans A).length_le;have ne:g.length≠b:=by lia
 have M:μ2.length≠b:=by lia
 refine H _ _ (λc y hc h=>by rw[ZP<|a0o hc];exact aG (j.trans A) h) (a0t L) ?_;have T:Pz (v.set b<|.lst<|xs++[.tup [.loc l,.loc p]]++[.tup [.loc g.length,.loc μ2.length]]) μ2.length μ2.length U:=
  ⟨by rw[ZP<|a0o M];exact J.dic,J.kd,λz r=>⟨(J.at_ z r).1,by rw[ZP<|by have:=(J.at_ z r).1;lia];exact(J.at_ z r).2⟩⟩
 have:=StZ.new (b:=b) (l:=g.length) (F:=bY u n a F) (qs:=qs) (by rw[ZP<|a0o ne];exact aG A gl) T (by lia);rw[Y]at this;exact this
theorem Xo k(hw:1<=w/\w<=3)(a:1<=h/\h<=3)(μ:Hm)(Q:jz)(H:∀l p S μ',μ<+:μ'->μ'[l]?=a7 (.dT<|aN (λ_=>LD c7)<|c8 w h)->Pz μ' μ.length p S->GZ S=iW (c8 w h)->Q (.tup [.loc l,.loc p],μ')):
  W (f (k+2) "_law_begun" [.int w,.int h] μ) Q:=by
 obtain⟨_,g,i,e,_,_⟩:=tL w (gG hw) h<|gG a;rw[VN,W_fin];simp only[w_mSeq,w_mSet,w_mDNewT,a0k,a0m,w_mForI,w_iSeq,w_mCall,w_mCons,bT,bC,bF];refine HP k w h hw a _ _<|(fS<|bM _ _).mpr ?_;refine IJ (me:=bH (aC (mC<|.int 1)<|aC (mC<|.int 0)<|aC (mC<|.int 0)<|aC (mC<|.int 1)<|aC (mC<|.int 0)<|aC (mC<|.int 0) aD)) (λj μ Q=>W_some) (μ0:=μ) e (by lia) (((aT _ _).trans<|aT _ _).trans<|aT _ _) (ZN _) (by rw[ZO];lia) (by rw[ZO];exact Z6<|a1C _) ?_ ?_ (bM _ _) _ λx S μ' d c J b=>?_
 .exact aG ((aT _ _).trans<|aT _ _)<|bM _ _
 .exact aG (aT _ _)<|bM _ _
 .simp only[w_mRet,w_mTup,w_mCons,bT,bC,bF];exact⟨fT,H _ _ S μ' d c J b⟩
theorem Xp k(hw:1<=w/\w<=3)(d:1<=h/\h<=3)(μ:Hm)(Q:jz)(H:∀l p S μ',μ<+:μ'->μ'[l]?=a7 (.dT<|aN (λ_=>LD c7)<|c8 w h)->Pz μ' μ.length p S->GZ S=iW (c8 w h)->Q (.tup [.loc l,.loc p],μ')):
  W (f (k+3) "unfolded" [.int w,.int h] μ) Q:=by
 obtain⟨m,q,r,n,_,_⟩:=tL w (gG hw) h<|gG d;rw[VE,W_fin];simp only[w_mSeq,w_mSet,w_mDNewT,a0k,a0m,w_mForI,w_iSeq,w_mCall,w_mCons,bT,bC,bF];refine Xc k w h hw d _ _ λc o b a=>?_;rw[m]at a;refine(fS a).mpr ?_;have g:(μ++[C.dT []]).length=μ.length+1:=by rw[ZO];rfl
 refine IJ (me:=mC Bz) (λs μ Q=>W_some) (μ0:=μ) n (by lia) (((aT _ _).trans<|aT _ _).trans b) (ZN _) (by lia) (by rw[g];exact Z6<|a1C _) ?_ ?_ a _ λx S μ' j i J e=>?_
 .exact aG ((aT _ _).trans b)<|bM _ _
 .exact aG b<|bM _ _
 .simp only[w_mRet,w_mTup,w_mCons,bT,bC,bF];exact⟨fT,H _ _ S μ' j i J e⟩
theorem Xq a:iO "wide" a []=([("wide",a)]:List (Str×D)):=rfl
theorem Xr a b:iO "high" b [("wide",a)]=([("wide",a),("high",b)]:List (Str×D)):=by unfold iO;rw[if_neg<|by decide];rfl
theorem Xs a b c:iO "states" c [("wide",a),("high",b)]=([("wide",a),("high",b),("states",c)]:List (Str×D)):=by unfold iO;rw[if_neg<|by decide];unfold iO;rw[if_neg<|by decide];rfl
theorem Xu k(hw:1<=w/\w<=3)(s:1<=h/\h<=3)(μ:Hm)(Q:jz)(H:∀b d g,μ<+:g->b<g.length->g[μ.length]?=a7 (.ins "Folding"<|kN w h b)->g[b]?=a7 (.lst [d])->StZ g b d (λ_=>c7) (c8 w h) (iW<|c8 w h)->Q (.non,g)):W (f (k+5) "Folding" [.loc μ.length,.int w,.int h]<|μ++[.ins "Folding" []]) Q:=by
 rw[V1,VW,W_fin];simp only[w_mSeq,w_mDrop,w_mCall,w_mCons,bT,bC,bF];refine WJ k (by lia) (by lia) _ _ ?_;refine B6 ?_;simp only[bC,bF];refine⟨_,_,rfl,bM _ _,by decide,?_⟩;rw[wN,Xq];try dsimp only
 refine B6 ?_;simp only[bC,bF];refine⟨_,_,rfl,bM _ _,show(1:Nat)<100 by decide,?_⟩;rw[wN,Xr];try dsimp only
 refine B6 ?_;simp only[w_mLst,w_mCall,w_mCons,bT,bC,bF];refine Xp k hw s _ _ λl p S a m n J r=>⟨BF,_,_,rfl,aG (m.trans<|aT _ _)<|bM _ _,show(2:Nat)<100 by decide,?_⟩;rw[Xs];have o1:μ.length<a.length:=by have:=m.length_le;rw[ZO]at this;exact this
 have ne:a.length≠μ.length:=by lia
 have u:μ<+:(a++[C.lst [.tup [.loc l,.loc p]]]).set μ.length (.ins "Folding"<|kN w h a.length):=fL (((aT _ _).trans m).trans<|aT _ _) (ZN _) _;have i:∀(c:Nat)(y:C),c≠μ.length->a[c]?=a7 y->((a++[C.lst [.tup [.loc l,.loc p]]]).set μ.length<|.ins "Folding"<|kN w h a.length)[c]?=a7 y:=λc y hc e=>by rw[ZP<|a0o hc];exact aG (aT _ _) e
 have o:a[μ.length]?=a7 (.ins "Folding" [("wide",.int w),("high",.int h)]):=aG m<|bM _ _;have q:=i p _ (λe=>by have:=J.dic;rw[e,o]at this;cases this) J.dic;refine H a.length _ _ u (by rw[a0v,ZO];exact a1C _) (a0t<|a0e o1 (aT a _).length_le) (by rw[ZP<|a0o ne];exact bM _ _) ⟨l,p,S,rfl,i l _ (λe=>by rw[e,o]at n;cases n) n,⟨.inl q,J.kd,λz j=>i _ _ (λe=>by have:=(J.at_ z j).2;rw[e,o]at this;cases this) (J.at_ z j).2⟩,q,r,λz j e=>?_⟩;have:=(ZG.mp (J.at_ z j).2).1;lia
noncomputable def oW(u n j:Int):Int×Int:=if u=0 then(2+4*j,n)else if u=1 then(n,2+4*j)else if u=2 then(n+1+2*j,1+2*j)else(1+2*j,n-1-2*j)
theorem xG(m:∀p,cV p e=aE A p):eN e=A:=by unfold eN;rw[m (1,0),m (0,0),m (0,1)];unfold aE;refine Ly.ext' ?_ ?_ ?_ ?_ ?_ ?_<;>(dsimp only;lia)
theorem Xv(a:0<=u/\u<4)(b:n%4=0)j:OnL (oW u n j) u n:=by
 have c:u=0\/u=1\/u=2\/u=3:=by lia
 rcases c with rfl|rfl|rfl|rfl
 .have e:oW 0 n j=(2+4*j,n):=rfl;have m:∀p,cV p (2+4*j,n)=aE (aZ 0 n) p:=λp=>by unfold cV;rw[if_neg<|by dsimp only;lia,if_pos b];show(p.1,2*n-p.2)=(1*p.1+0*p.2+0,0*p.1+(-1)*p.2+2*n);congr 1<;>lia
  rw[e];refine⟨a,λp=>?_,rfl,m,?_⟩
  .unfold jM;rw[if_neg<|by dsimp only;lia,if_pos b];rfl
  .exact xG m
 .have e:oW 1 n j=(n,2+4*j):=rfl;have m:∀p,cV p (n,2+4*j)=aE (aZ 1 n) p:=λp=>by unfold cV;rw[if_neg<|by dsimp only;lia,if_neg<|by dsimp only;lia];show(2*n-p.1,p.2)=((-1)*p.1+0*p.2+2*n,0*p.1+1*p.2+0);congr 1<;>lia
  rw[e];refine⟨a,λp=>?_,rfl,m,?_⟩
  .unfold jM;rw[if_neg<|by dsimp only;lia,if_neg<|by dsimp only;lia];rfl
  .exact xG m
 .have e:oW 2 n j=(n+1+2*j,1+2*j):=rfl;have m:∀p,cV p (n+1+2*j,1+2*j)=aE (aZ 2 n) p:=λp=>by unfold cV;rw[if_pos<|by dsimp only;lia,if_pos<|by dsimp only;lia];show(p.2+(n+1+2*j-(1+2*j)),p.1-(n+1+2*j-(1+2*j)))=(0*p.1+1*p.2+n,1*p.1+0*p.2+-n);congr 1<;>lia
  rw[e];refine⟨a,λp=>?_,?_,m,?_⟩
  .unfold jM;rw[if_pos<|by dsimp only;lia,if_pos<|by dsimp only;lia];rfl
  .show n+1+2*j-(1+2*j)=n;lia
  .exact xG m
 .have e:oW 3 n j=(1+2*j,n-1-2*j):=rfl;have m:∀p,cV p (1+2*j,n-1-2*j)=aE (aZ 3 n) p:=λp=>by unfold cV;rw[if_pos<|by dsimp only;lia,if_neg<|by dsimp only;lia];show(1+2*j+(n-1-2*j)-p.2,1+2*j+(n-1-2*j)-p.1)=(0*p.1+(-1)*p.2+n,(-1)*p.1+0*p.2+n);congr 1<;>lia
  rw[e];refine⟨a,λp=>?_,?_,m,?_⟩
  .unfold jM;rw[if_pos<|by dsimp only;lia,if_neg<|by dsimp only;lia];rfl
  .show 1+2*j+(n-1-2*j)=n;lia
  .exact xG m
theorem Xw(a:0<=u/\u<4):atI [P (2+4*j) n,P n<|2+4*j,P (n+1+2*j)<|1+2*j,P (1+2*j)<|n-1-2*j] u=a7 (PP<|oW u n j):=by
 have:u=0\/u=1\/u=2\/u=3:=by lia
 rcases this with rfl|rfl|rfl|rfl<;>rfl
theorem Xx{ps:jq}{i:Int}(a:0<=i)(h:i<ps.length):∃q,atI (ps.map PP) i=a7 (PP q):=by
 unfold atI;rw[Hw a<|by rw[ZF];exact h];have b:i.toNat<ps.length:=by lia
 exact⟨ps[i.toNat],by rw[ZY,ZU,ZT b];rfl⟩
theorem Xy(g:μ[p]?=a7 (.dT<|aM Z)):gC [.loc p] μ=a7 (.loc μ.length,μ++[.lst<|(Z.map (·.1)).map PP]):=by
 have e:(aM Z).map (λk=>D.tup<|k.1.map D.int)=(Z.map (·.1)).map PP:=by unfold aM;rw[ZS,ZS];rfl
 exact qP<|(Hg g).mpr<|by rw[e]
theorem Xz{r:aI}{ps:jq}(g:μ[l]?=a7 (.lst<|ps.map PP))(h:0<ps.length):∃q,aB aF (aA 4) (aB bL (aB dU (aA 1)<|mC<|.int 64)<|aH eM<|aC (aA 4) aD) (a0::a7 (.int v)::a2::a3::a7 (.loc l)::r) μ=a7 (PP q,μ):=by
 have a:(0:Int)<((ps.map PP).length:Nat):=by rw[ZF];lia
 obtain⟨q,b⟩:=Xx (ps:=ps) (i:=v/64%((ps.map PP).length:Nat)) (a5i _<|by lia) (by have:=a4u (v/64) a;rw[ZF]at this ⊢;exact this);refine⟨q,qP<|w_mOp.mpr ⟨_,rfl,bA<|bQ rfl rfl<|(Bq (by decide)<|by decide).mpr<|bS rfl<|(qN g).mpr<|(iF a).mpr<|(cQ g b).mpr rfl⟩⟩
theorem XA{μ:Hm}{r:aI}k(a:0<=u/\u<4){Q:jz}(H:∀n μ',μ<+:μ'->n%4=0->Q (.int n,μ')):
  W (aB bP (aB bO (aB dU (aH (f (k+1) "_law_value")<|aC (aA 5)<|aC (aA 3) aD)<|mC<|.int 4)<|mC<|.int 4) (aB bO (aB bL (aB dU (aA 1)<|mC<|.int 4)<|mC<|.int 2)<|mC<|.int 4) (a0::a7 (.int v)::a2::a7 (.int u)::a4::a7 (PP q)::r) μ) Q:=by
 refine bA<|bA<|bA<|bS rfl<|IA k q u a _ _ λc b=>⟨_,rfl,?_⟩;simp only[Bq (show(0:Int)<4 by decide)<|by decide,V4,iF<|show(0:Int)<2 by decide,w_addI,bC,bF,cT,w_mOp];exact H _ _ b<|by lia
theorem IP(h:t a μ=a7 (b,μ'))(c:b=b5):bE t A B a μ=A a μ':=by unfold bE;rw[h,c];rfl
theorem IQ(h:t a μ=a7 (b,μ'))(c:b=b4):bE t A B a μ=B a μ':=by unfold bE;rw[h,c];rfl
theorem XB{r:aI}(b:n%4=0):∃a,a%4=0/\bE (aU<|aB (aR b4) (aB bL (aB dU (aA 1)<|mC<|.int 8)<|mC<|.int 7)<|mC<|.int 3) (aO 6<|aB bO (mC<|.int 4)<|aB cM (aB bL (aA 2)<|aB bO (mC<|.int 2)<|aB kU (mC<|.int 10)<|mC<|.int 58)<|aB kU (mC<|.int 10)<|mC<|.int 58) bI (a0::a7 (.int v)::a7 (.int far)::a3::a4::a5::a7 (.int n)::r) μ=a7 (.nx,a0::a7 (.int v)::a7 (.int far)::a3::a4::a5::a7 (.int a)::r,μ):=by
 cases c:v/8%7==3
 .exact⟨n,b,IQ (μ':=μ) (by kernel_rfl) c⟩
 .exact⟨4*(far%(2*10^58)-10^58),Int.mul_emod_right ..,(IP (μ':=μ) (by kernel_rfl) c).trans<|by kernel_rfl⟩
theorem XC{r:aI}:aB bL (aB dU (aA 2)<|mC<|.int 3) (mC<|.int 9) (a0::a::a7 (.int far)::r) μ=a7 (.int<|far/3%9,μ):=by kernel_rfl
theorem XD{r:aI}:∃b,bE (aU<|aB (aR b4) (aB bL (aB dU (aA 1)<|mC<|.int 56)<|mC<|.int 5)<|mC<|.int 2) (aO 7<|aB bL (aB dU (aA 2)<|mC<|.int 7)<|aB kU (mC<|.int 10)<|mC<|.int 57) bI (a0::a7 (.int v)::a7 (.int far)::a3::a4::a5::a::a7 (.int j)::r) μ=a7 (.nx,a0::a7 (.int v)::a7 (.int far)::a3::a4::a5::a::a7 (.int b)::r,μ):=by
 cases c:v/56%5==2
 .exact⟨j,IQ (μ':=μ) (by kernel_rfl) c⟩
 .exact⟨far/7%10^57,(IP (μ':=μ) (by kernel_rfl) c).trans<|by kernel_rfl⟩
theorem XE{r:aI}(a:0<=u/\u<4):aB aF (cJ<|aC (bH<|aC (aB bP (mC<|.int 2)<|aB bO (mC<|.int 4)<|aA 7)<|aC (aA 6) aD)<|aC (bH<|aC (aA 6)<|aC (aB bP (mC<|.int 2)<|aB bO (mC<|.int 4)<|aA 7) aD)<|aC (bH<|aC (aB bP (aB bP (aA 6)<|mC<|.int 1)<|aB bO (mC<|.int 2)<|aA 7)<|aC (aB bP (mC<|.int 1)<|aB bO (mC<|.int 2)<|aA 7) aD)<|aC (bH<|aC (aB bP (mC<|.int 1)<|aB bO (mC<|.int 2)<|aA 7)<|aC (aB cM (aB cM (aA 6)<|mC<|.int 1)<|aB bO (mC<|.int 2)<|aA 7) aD) aD) (aA 3) (a0::a7 (.int v)::a2::a7 (.int u)::a4::a5::a7 (.int n)::a7 (.int j)::r) μ=a7 (PP<|oW u n j,μ++[.lst [P (2+4*j) n,P n<|2+4*j,P (n+1+2*j)<|1+2*j,P (1+2*j)<|n-1-2*j]]):=by refine qP (bQ (x:=.loc μ.length) (μ1:=μ++[.lst [P (2+4*j) n,P n<|2+4*j,P (n+1+2*j)<|1+2*j,P (1+2*j)<|n-1-2*j]]) (by kernel_rfl) rfl<|(cQ (bM _ _)<|Xw a).mpr ?_);rfl
theorem XF:∃a o,bH (aC (aA 8)<|aC (bH<|aC (aA 3)<|aC (aA 6) aD)<|aC (aB (aR b4) (aB bL (aB dU (aA 1)<|mC<|.int 280)<|mC<|.int 2)<|mC<|.int 1)<|aC (aB (aR b4) (aB bL (aB dU (aA 1)<|mC<|.int 560)<|mC<|.int 2)<|mC<|.int 1) aD) [a0,a7<|.int v,a2,a7<|.int u,a4,a5,a7<|.int n,b,a7<|PP e] μ=a7 (.tup [PP e,.tup [.int u,.int n],.bl a,.bl o],μ):=⟨v/280%2==1,v/560%2==1,by kernel_rfl⟩
theorem XG k{μ:Hm}(g:μ[p]?=a7 (.dT<|aM Z))(hz:0<Z.length)v c(Q:jz)(H:∀e u n a o b,μ<+:b->OnL e u n->n%4=0->Q (.tup [PP e,.tup [.int u,.int n],.bl a,.bl o],b)):W (f (k+2) "_law_plan" [.tup [i,.loc p],.int v,.int c] μ) Q:=by
 have d:0<=v%4/\v%4<4:=⟨a5i _<|by decide,a4u _<|by decide⟩;refine dR (VP (k+1) _ _ _ μ)<|bV<|j0 rfl<|bV<|bS rfl<|j0 (Xy g)<|bV ?_;obtain⟨q,e⟩:=Xz (μ:=μ++[.lst<|(Z.map (·.1)).map PP]) (l:=μ.length) (bM _ _) (by rw[ZF];exact hz);refine j0 e<|bV<|XA k d λs r m l=>iT ?_;obtain⟨n,h,e⟩:=XB l;refine j0 e ⟨rfl,bV<|bA ⟨_,XC,_,rfl,w_subI.mpr<|iT ?_⟩⟩;obtain⟨j,e⟩:=XD;refine j0 e ⟨rfl,bV<|j0 (XE d) ?_⟩;obtain⟨a,o,e⟩:=XF;exact c6<|j0 e<|H _ _ _ _ _ _ (((aT _ _).trans m).trans<|aT _ _) (Xv d h j) h
theorem B9(hi:i<1000)(h:b[i]?=a7 (a7<|.loc a)):sG i b=a7 (.loc a):=by unfold sG;rw[if_pos hi,h];rfl
theorem XH{kvs:jx}(hi:h[i]?=a7 (a7<|.loc a))(hc:μ[a]?=a7 (.dT kvs))(I:Nat->aI->Hm->Prop)(r:I 0 h (μ.set a<|.dF kvs))(o:∀n k d c b,kvs[n]?=a7 (k,d)->I n c b->W (body (c.set j<|a7 d) b) λp=>p.1=.nx/\I (n+1) p.2.1 p.2.2)(g:∀c b,I kvs.length c b->b[a]?=a7 (.dF kvs)/\Q (.nx,c,b.set a<|.dT kvs))(u:i<1000:=by decide):W (dX i (b7 (qI<|aA i) (cP j) body) v h μ) Q:=by
 refine tI (B9 u hi) hc ?_;have m:(μ.set a<|.dF kvs)[a]?=a7 (.dF kvs):=eQ hc;have hit:qI (aA i) h (μ.set a<|.dF kvs)=a7 (cS<|.tup<|jX kvs,kvs.length+1,μ.set a<|.dF kvs):=by simp only[qI,aA,hi,ZY,m]
 rw[w_mForI,hit,W_some];refine kK (N:=kvs.length) I (λn c b s l=>?_) (λc b l=>⟨?_,g c b l⟩) kvs.length 0 h _ (by lia) r
 .have e:kvs[n]?=a7 (kvs[n].1,kvs[n].2):=ZT s;refine⟨kvs[n].2,_,?_,rfl,bG (o n _ _ c b e l) λp q=>?_⟩
  .show a7 ((jX kvs)[n]?)=_;unfold jX;rw[ZU,e];rfl
  .rw[q.1];exact q.2
 .show a7 ((jX kvs)[kvs.length]?)=_;rw[a1H<|by unfold jX;simp]
theorem XI{kvs:jx}{Q:jz}(h:b[i]?=a7 (a7<|.loc a))(hc:μ[a]?=a7 (.dT kvs))(H:W (c b<|μ.set a<|.dF kvs) λr=>r.2[a]?=a7 (.dF kvs)/\Q (r.1,r.2.set a<|.dT kvs))(d:i<1000:=by decide):W (qG i c g b μ) Q:=by
 have e:mI i b μ=a7 (a,kvs):=by simp only[mI,B9 d h,hc]
 unfold qG;rw[e];rw[W_bind];refine bG H λr q=>?_;rw[q.1];exact W_some.mpr q.2
theorem XJ{kvs:jx}(hi:h[i]?=a7 (a7<|.loc a))(hc:μ[a]?=a7 (.dT kvs))(I:Nat->aI->Hm->Prop)(r:I 0 h (μ.set a<|.dF kvs))(o:∀n k d c b,kvs[n]?=a7 (k,d)->I n c b->W (body (c.set j<|a7<|.tup<|k.map D.int) b) λp=>p.1=.nx/\I (n+1) p.2.1 p.2.2)(g:∀c b,I kvs.length c b->b[a]?=a7 (.dF kvs)/\Q (.nx,c,b.set a<|.dT kvs))(u:i<1000:=by decide):W (dX i (b7 (fF<|aA i) (cP j) body) v h μ) Q:=by
 refine tI (B9 u hi) hc ?_;have m:(μ.set a<|.dF kvs)[a]?=a7 (.dF kvs):=eQ hc;have hit:fF (aA i) h (μ.set a<|.dF kvs)=a7 (cS<|.tup<|d9 kvs,kvs.length+1,μ.set a<|.dF kvs):=by simp only[fF,aA,hi,ZY,m]
 rw[w_mForI,hit,W_some];refine kK (N:=kvs.length) I (λn c b s l=>?_) (λc b l=>⟨?_,g c b l⟩) kvs.length 0 h _ (by lia) r
 .have e:kvs[n]?=a7 (kvs[n].1,kvs[n].2):=ZT s;refine⟨.tup<|kvs[n].1.map D.int,_,?_,rfl,bG (o n _ _ c b e l) λp q=>?_⟩
  .show a7 ((d9 kvs)[n]?)=_;unfold d9;rw[ZU,e];rfl
  .rw[q.1];exact q.2
 .show a7 ((d9 kvs)[kvs.length]?)=_;rw[a1H<|by unfold d9;simp]
theorem IS:∀ps:jq,rV (ps.map PP)=a7 (ps.map a9)
 |[]=>rfl|p::ps=>by rw[ZR];show(dN<|PP p).bind (λk=>(rV<|ps.map PP).map (k::·))=_;rw[IS ps];rfl
theorem XM{ps:jq}(h:ps≠[]):n6 (ps.map PP)=none:=by
 cases ps with
 |nil=>exact absurd rfl h|cons p ps=>rfl
theorem IT{a:Type}l(d:a):(a0L l.length).map (λi=>l.getD i d)=l:=by refine a9o (by simp) λi c b=>?_;simp[a1I,b]
theorem oB:∀a b c,HT.lexLt a b=b5->HT.lexLt b c=b5->HT.lexLt a c=b5
 |[],[],_,h,_=>by cases h
 |[],_::_,[],_,h=>by cases h
 |[],_::_,_::_,_,_=>rfl|_::_,[],_,h,_=>by cases h
 |_::_,_::_,[],_,h=>by cases h
 |x::xs,y::ys,z::zs,e,d=>by
  rw[HT.lexLt_cons]at e d ⊢;by_cases i:x=y
  .subst i;rw[if_pos rfl]at e;by_cases g:x=z
   .rw[if_pos g]at d ⊢;exact oB xs ys zs e d
   .rw[if_neg g]at d ⊢;exact d
  .rw[if_neg i]at e;have e:=of_decide_eq_true e;by_cases g:y=z
   .subst g;rw[if_neg i];exact decide_eq_true e
   .rw[if_neg g]at d;have d:=of_decide_eq_true d;rw[if_neg<|by lia];exact decide_eq_true<|by lia
theorem Ca:∀a b c,HT.lexLt a b=b5->HT.lexLt a c=b5\/HT.lexLt c b=b5
 |[],[],_,h=>by cases h
 |[],_::_,[],_=>.inr rfl|[],_::_,_::_,_=>.inl rfl|_::_,[],_,h=>by cases h
 |_::_,_::_,[],_=>.inr rfl|x::xs,y::ys,z::zs,h=>by
  rw[HT.lexLt_cons]at h ⊢;rw[HT.lexLt_cons];by_cases e:x=y
  .subst e;rw[if_pos rfl]at h;by_cases d:x=z
   .subst d;rw[if_pos rfl,if_pos rfl];exact Ca xs ys zs h
   .rw[if_neg d,if_neg<|a0o d,decide_eq_true_iff,decide_eq_true_iff];lia
  .rw[if_neg e]at h;have h:=of_decide_eq_true h;by_cases d:x=z
   .subst d;rw[if_neg e];exact .inr<|decide_eq_true h
   .rw[if_neg d,decide_eq_true_iff];by_cases g:z=y
    .subst g;exact .inl h
    .rw[if_neg g,decide_eq_true_iff];lia
theorem oA:∀k,HT.lexLt k k=b4
 |[]=>rfl|a::k=>by rw[HT.lexLt_cons,if_pos rfl];exact oA k
theorem xH:∀a b,HT.lexLt a b=b4->HT.lexLt b a=b4->a=b
 |[],[],_,_=>rfl|[],_::_,h,_=>by cases h
 |_::_,[],_,h=>by cases h
 |x::xs,y::ys,c,d=>by
  rw[HT.lexLt_cons]at c d;by_cases e:x=y
  .subst e;rw[if_pos rfl]at c d;rw[xH xs ys c d]
  .rw[if_neg e]at c;rw[if_neg<|a0o e]at d;have c:=of_decide_eq_false c;have d:=of_decide_eq_false d;lia
theorem IU(l:jx)i:(l.getD i ([],.non)).1=(l.map (·.1)).getD i []:=by rw[a1I,a1I,ZU];cases l[i]?<;>rfl
theorem XN(c:0<l.length)(k:(l.map (·.1)).Perm ks)(m:ks.Pairwise λx y=>HT.lexLt y x=b4):(iD l).map (·.1)=ks:=by
 have n:((iD l).map (·.1)).Perm ks:=by
  have p:(iD l).Perm l:=by unfold iD;have p:=(pX (λi j=>HT.lexLt ((l.map (·.1)).getD i [])<|(l.map (·.1)).getD j []) c).map λi=>l.getD i ([],.non);rw[IT]at p;exact p
  exact(p.map _).trans k
 have S:=EZ (lt:=HT.lexLt) oA oB Ca [] (l.map (·.1)) (n:=l.length) c;have d:((iD l).map (·.1)).Pairwise λx y=>HT.lexLt y x=false:=by unfold iD;rw[ZS,a4D];refine S.imp λ{i j} h=>?_;show HT.lexLt (l.getD j ([],.non)).1 (l.getD i ([],.non)).1=b4;rw[IU,IU];exact h
 exact a3o (le:=λx y=>HT.lexLt y x=b4) (λa b _ _ e g=>(xH b a e g).symm) d m n
theorem XO(qs:jq):(qs.map a9).map (λk=>D.tup<|k.map D.int)=qs.map PP:=by rw[ZS];rfl
theorem IV{kvs:jx}{Q:jz}(h:μ[a]?=a7 (.dT kvs))(c:kvs.length<64)(b:∀p∈kvs,p.1≠[]):W (jY [.loc a] μ) Q↔Q (.loc μ.length,μ++[.lst<|(iD kvs).map λk=>D.tup<|k.1.map D.int]):=by simp only[jY,h];rw[if_pos ⟨c,b⟩];exact W_some
noncomputable def XQ(x y:Int):Bool:=(x%4==2&&y%2==1)||(y%4==2&&x%2==1)
noncomputable def bU(w h:Int):jq:=(jN 1 (4*w-1).toNat (4*h-1).toNat).filter λp=>XQ p.1 p.2
noncomputable def tQ:List (List Int)->Bool
 |x::y::r=>HT.lexLt x y&&tQ (y::r)|_=>b5
theorem xI:∀{l},tQ l=b5->l.Pairwise λx y=>HT.lexLt x y=b5
 |[],_=>.nil|[x],_=>a7t _ _|x::y::r,h=>by
  unfold tQ at h;rw[ZL]at h;have b:=xI h.2;refine a2T.mpr ⟨λz a=>?_,b⟩;rcases a0g.mp a with rfl|a
  .exact h.1
  .exact oB _ _ _ h.1<|(a2T.mp b).1 z a
theorem XR(h:HT.lexLt a b=b5):HT.lexLt b a=false:=by
 cases e:HT.lexLt b a with
 |false=>rfl|true=>have:=oB _ _ _ h e;rw[oA]at this;exact this.symm
theorem GI.hi(I:GI μ0 μ a Z):HI μ a Z:=⟨.inl I.dic,I.kd,λz hz=>(I.at_ z hz).2⟩
noncomputable def cK(ps:jq):jq:=(dI (λi j=>HT.lexLt ((ps.map a9).getD i [])<|(ps.map a9).getD j []) ps.length).map λi=>ps.getD i (0,0)
theorem nE ps:(cK ps).Perm ps:=by have p:=(n9 (λi j=>HT.lexLt ((ps.map a9).getD i [])<|(ps.map a9).getD j []) ps.length).map λi=>ps.getD i (0,0);rw[IT]at p;exact p
theorem XS v ps:iD (aN v ps)=aN v (cK ps):=by
 unfold iD cK aN;have a:(ps.map λp=>(a9 p,v p)).map (·.1)=ps.map a9:=by rw[ZS];rfl
 rw[a,ZF,ZS];refine a0q λi hi=>?_;have hi:i<ps.length:=a1J.mp<|(n9 _ _).mem_iff.mp hi;simp[a1I,hi]
theorem Cb ps:((cK ps).map a9).Pairwise λx y=>HT.lexLt y x=false:=by
 by_cases h:ps=[]
 .subst h;have:cK []=[]:=by have:=(nE []).length_eq;exact a2f.mp this
  rw[this];exact .nil
 have b:0<ps.length:=a4f.mpr h;have S:=EZ (lt:=HT.lexLt) oA oB Ca [] (ps.map a9) (n:=ps.length) b;unfold cK;rw[ZS,a4D];have a:∀i∈dI (λi j=>HT.lexLt ((ps.map a9).getD i [])<|(ps.map a9).getD j []) ps.length,a9 (ps.getD i (0,0))=(ps.map a9).getD i []:=λi hi=>by have hi:i<ps.length:=a1J.mp<|(n9 _ _).mem_iff.mp hi;simp[a1I,hi]
 exact S.imp_of_mem λ{i j} hi c h=>by show HT.lexLt (a9<|ps.getD j (0,0)) (a9<|ps.getD i (0,0))=b4;rw[a i hi,a j c];exact h
theorem srt_eq:cK ps=cK qs↔ps.Perm qs:=by
 constructor
 .intro h;exact(nE ps).symm.trans<|h▸nE qs
 .intro h;have e:(cK ps).map a9=(cK qs).map a9:=a3o (le:=λx y=>HT.lexLt y x=b4) (λa b _ _ c d=>(xH b a c d).symm) (Cb ps) (Cb qs)<|(((nE ps).trans h).trans (nE qs).symm).map _;have inj:∀{a b:jq},a.map a9=b.map a9->a=b:=λ{a}=>by
   induction a with
   |nil=>intro b h;cases b with
    |nil=>rfl|cons=>cases h
   |cons x a g=>intro b h;cases b with
    |nil=>cases h|cons y b=>rw[ZR,ZR]at h;injection h with c d;rw[kM c,g d]
  exact inj e
theorem IW{Q:jz}(h:μ[a]?=a7 (.dT (aN v ps)))(b:ps.length<64):W (jY [.loc a] μ) Q↔Q (.loc μ.length,μ++[.lst ((cK ps).map PP)]):=by rw[IV h (by rw[ZF];exact b) (λp c z=>by obtain⟨x,_,rfl⟩:=ZQ.mp c;cases z),XS,ZS];rfl
theorem XT:cK []=[]:=a2f.mp (nE []).length_eq
theorem IX(h:(ps.map a9).Pairwise λx y=>HT.lexLt y x=b4):cK ps=ps:=by
 have e:(cK ps).map a9=ps.map a9:=a3o (le:=λx y=>HT.lexLt y x=b4) (λa b _ _ c d=>(xH b a c d).symm) (Cb ps) h<|(nE ps).map _;have inj:∀{a b:jq},a.map a9=b.map a9->a=b:=λ{a}=>by
  induction a with
  |nil=>intro b h;cases b with
   |nil=>rfl|cons=>cases h
  |cons x a g=>intro b h;cases b with
   |nil=>cases h|cons y b=>rw[ZR,ZR]at h;injection h with c d;rw[kM c,g d]
 exact inj e
theorem IY{Q:jz}(h:μ[a]?=a7 (.lst<|ps.map PP))(k:ps.length<64):W (jW [.loc a] μ) Q↔Q (.loc μ.length,μ++[.lst<|(cK ps).map PP]):=by
 by_cases b:ps=[]
 .subst b;have e:gO []=[]:=by simp[gO]
  rw[Hh (is:=[]) h<|by decide,e,XT];rfl
 have l:0<ps.length:=a4f.mpr b;have c:oF [.loc a] μ=none:=by simp only[oF,eH,h,ZY];rw[XM b];rfl
 have d:(dI (Ac<|ps.map a9) ps.length).map (λi=>(ps.map PP).getD i .non)=(cK ps).map PP:=by unfold cK;rw[ZS];refine a0q λi hi=>?_;have hi:i<ps.length:=a1J.mp<|(n9 _ _).mem_iff.mp hi;simp[a1I,hi]
 have g:rW [.loc a] μ=a7 (.loc μ.length,μ++[.lst<|(cK ps).map PP]):=by simp only[rW,eH,h,ZY,IS];rw[if_pos ⟨by rw[ZF];lia,by rw[ZF];lia,λt j=>by obtain⟨p,_,rfl⟩:=ZQ.mp j;simp[a9]⟩,ZF,d]
 simp only[jW,c,g];exact W_some
noncomputable def Cd(a b:Gr):Bool:=decide ((a.map (·.1)).Perm<|b.map (·.1))&&a.all λg=>cK g.2==cK (aQ b g.1)
theorem XU(b:(G.map (·.1)).Nodup)p q:e6 G p q=fU G p (aQ G p++[q]):=by
 unfold e6 fU;by_cases h:(G.map (·.1)).contains p=b5
 .rw[if_pos h,if_pos h];refine a0q λg a=>?_;by_cases e:g.1=p
  .rw[if_pos e,if_pos e,<- e,gD b a]
  .rw[if_neg e,if_neg e]
 .rw[if_neg h,if_neg h,m5 λw=>h<|a0H.mpr w];rfl
theorem Ce(g:Int×Int->Int×Int):∀(qs:jq)G,(G.map (·.1)).Nodup->((qs.foldl (λG q=>e6 G (g q) q) G).map (·.1)).Nodup/\∀p,aQ (qs.foldl (λG q=>e6 G (g q) q) G) p=aQ G p++qs.filter λq=>decide<|g q=p
 |[],G,kd=>⟨kd,λp=>by simp⟩|q::qs,G,kd=>by
  rw[a3W,XU kd];obtain⟨a,b⟩:=Ce g qs (fU G (g q)<|aQ G (g q)++[q])<|HY kd;refine⟨a,λp=>?_⟩;rw[b,wR];by_cases e:p=g q
  .subst e;rw[if_pos rfl,a0w<|by simp];simp
  .rw[if_neg e,a0x<|by simp;exact λw=>e w.symm]
theorem xJ:Pil qs g (cZ g qs):=by
 obtain⟨b,c⟩:=Ce g qs [] a2K;refine⟨b,λx a e=>?_,λp=>by unfold cZ;rw[c,tH];exact .refl _⟩
  -- no empty list is made
 have:∀(qs:jq)(G:Gr),(∀x∈G,x.2≠[])->∀x∈qs.foldl (λG q=>e6 G (g q) q) G,x.2≠[]:=λqs=>by
  induction qs with
  |nil=>exact λG h=>h|cons q qs i=>
   intro G h;rw[a3W];refine i _ λx a=>?_;unfold e6 at a;split at a
   .obtain⟨y,d,rfl⟩:=ZQ.mp a;split
    .simp
    .exact h y d
   .rcases a0M.mp a with a|a
    .exact h x a
    .rw[a0r.mp a];simp
 exact this qs [] (λx a=>nomatch a) x a e
theorem XW(h:Pil qs g G)(h':Pil qs g K):(G.map (·.1)).Perm (K.map (·.1)):=
 (a3h h.kd h'.kd).mpr λp=>by rw[h.key,h'.key]
noncomputable def tR(S a:Gr):Bool:=decide ((a.map (·.1)).Perm<|S.map (·.1))&&S.all λg=>cK (aQ a g.1)==g.2
theorem XX(j:(qs.map a9).Pairwise λx y=>HT.lexLt y x=b4)(h:Pil qs g G):tR (cZ g qs) a=Cd G a:=by
 have i:Pil qs g (cZ g qs):=xJ;have d:=XW h i;have n:decide ((a.map (·.1)).Perm<|(cZ g qs).map (·.1))=decide ((G.map (·.1)).Perm<|a.map (·.1)):=by refine decide_eq_decide.mpr ⟨λw=>d.trans w.symm,λw=>w.symm.trans d⟩
 unfold tR Cd;rw[n];congr 1;have b:∀p,aQ (cZ g qs) p=cK (aQ G p):=λp=>by
  have k:aQ (cZ g qs) p=qs.filter λq=>decide (g q=p):=by have:=(Ce g qs [] a2K).2 p;rw[tH,a1n]at this;exact this
  have m:cK (qs.filter λq=>decide<|g q=p)=qs.filter λq=>decide (g q=p):=IX<|by
   rw[a4D]at j ⊢;exact j.sublist a1a
  rw[k,<- m,srt_eq];exact(h.pm p).symm
 have c:∀(K:Gr)(t:Int×Int->jq->Bool),(K.map (·.1)).Nodup->(K.all λx=>t x.1 x.2)=(K.map (·.1)).all λp=>t p (aQ K p):=λK t r=>by rw[a5Y,a0X,a1c,a1c];refine forall_congr' λx=>?_;refine imp_congr_right λo=>?_;show _↔t x.1 (aQ K x.1)=b5;rw[gD r o]
 rw[c (cZ g qs) (λp l=>cK (aQ a p)==l) i.kd,c G (λp l=>cK l==cK (aQ a p)) h.kd,a0X,a1c,a1c];constructor
 .intro w p e;have:=w p<|d.mem_iff.mp e;rw[b]at this;rw[beq_iff_eq]at this ⊢;exact this.symm
 .intro w p e;have:=w p<|d.mem_iff.mpr e;rw[b];rw[beq_iff_eq]at this ⊢;exact this.symm
noncomputable def xK(Z:Zr)(p:Int×Int):D:=match Z.find? (λz=>decide<|z.1=p)with|some z=>.loc z.2.2|none=>.non
theorem XY(a:(Z.map (·.1)).Nodup)(h:z∈Z):xK Z z.1=.loc z.2.2:=by
 unfold xK;induction Z with
 |nil=>cases h|cons x Z b=>
  rw[ZR,a1m]at a;rw[a2W];rcases a0g.mp h with rfl|h
  .rw[decide_eq_true rfl]
  .have e:decide (x.1=z.1)=false:=decide_eq_false λe=>a.1 (by rw[e];exact ZQ.mpr ⟨z,h,rfl⟩);rw[e];exact b a.2 h
theorem XZ(b:(Z.map (·.1)).Nodup):aM Z=aN (xK Z) (Z.map (·.1)):=by unfold aM aN;rw[ZS];exact a0q λz a=>by show _=(a9 z.1,xK Z z.1);rw[XY b a]
theorem IZ{Q:jz}(c:(Z.map (·.1)).Nodup)(h:μ[a]?=a7 (.dT<|aM Z))(b:Z.length<64):W (jY [.loc a] μ) Q↔Q (.loc μ.length,μ++[.lst<|(cK<|Z.map (·.1)).map PP]):=by rw[XZ c]at h;exact IW h<|by rw[ZF];exact b
theorem X2(I:HI μ a Z)(c:∀z∈Z,z.2.1.length<64)(d:p∈Z.map (·.1))(Q:jz)(H:Q (.loc μ.length,μ++[.lst<|(cK<|aQ (GZ Z) p).map PP])):
  W (aF (.loc a) (PP p) μ) λr=>W (jW [r.1] r.2) Q:=by
 obtain⟨z,b,rfl⟩:=tF d;refine(fH I.dic (cF z.1)<|m3 I.kd b).mpr<|(IY (I.at_ z b)<|c z b).mpr ?_;rw[xA I.kd b]at H;exact H
theorem X3(h:d∈d9 (aM Z)):∃p∈Z.map (·.1),d=PP p:=by obtain⟨c,a,rfl⟩:=ZQ.mp h;obtain⟨z,b,rfl⟩:=ZQ.mp a;exact⟨z.1,ZQ.mpr ⟨z,b,rfl⟩,rfl⟩
theorem X4(hi:b[i]?=a7 (a7<|.loc a))(c:μ[a]?=a7 (.dF kvs)):fF (aA i) b μ=a7 (cS<|.tup<|d9 kvs,kvs.length+1,μ):=by simp only[fF,aA,hi,ZY,c]
theorem Ja p:dO (PP p)=p:=rfl
theorem X5{L:jq}(a:jR L.length i=a7 j)(b:L[j]?=a7 q):atI (L.map PP) i=a7 (PP q):=by unfold atI;rw[ZF,a,ZY,ZU,b];rfl
theorem xM(h:Z[i]?=a7 z):(GZ Z).take (i+1)=(GZ Z).take i++[(z.1,z.2.1)]:=fV<|by unfold GZ;rw[ZU,h];rfl
theorem d5{P:Prop}(h:b=b4)(q:Q):if b=b5 then P else Q:=by rw[h];exact q
theorem fX{P:Prop}(h:b=b5)(q:P):if b=b5 then P else Q:=by rw[h];exact q
theorem X6{μ:Hm}{kvs:jx}(d:μ[a]?=a7 (.dT kvs))(h:μ.length<=c)x(b:Hm):(b.set a x)[c]?=b[c]?:=ZP<|Z6<|a0e (ZG.mp d).1 h
theorem X7{F:Int×Int->Ly}{row:jq}(nd:row.Nodup)(h:q∈row):b8 (iU<|row.map λq=>(q,F q)) (a9 q)=a7 (LD<|F q):=by refine BP (Wn<|by rw[ZS];exact(by simpa[a7U]using nd)) ?_;unfold iU;rw[ZS];exact ZQ.mpr ⟨q,h,rfl⟩
theorem Jb(F:Int×Int->Ly)(row:jq):(iU<|row.map λq=>(q,F q)).map (·.1)=row.map a9:=by unfold iU;rw[ZS,ZS];rfl
theorem Jc(F:Int×Int->Ly)(row:jq):(iU<|row.map λq=>(q,F q)).length=row.length:=by unfold iU;rw[ZF,ZF]
theorem X8 μ xs:GI μ ((μ++[C.dT []])++[C.lst xs]) μ.length []:=
 ⟨(aT _ _).trans<|aT _ _,ZN _,aG (aT _ _)<|bM _ _,a2K,a2K,λz a=>nomatch a⟩
theorem X9 k t(F:Int×Int->Ly)(M:∀q,Dih (F q))(row qs:jq)(c:row.Perm qs)(T:(qs.map a9).Pairwise λx y=>HT.lexLt y x=b4)(hn:1<=qs.length/\qs.length<64)(nd:qs.Nodup)μ(E:μ[t]?=a7 (.dT<|iU<|row.map λq=>(q,F q)))(Q:jz)(H:∀a Z b,GI μ b a Z->GZ Z=cZ (λq=>aE (F q) q) qs->Q (.loc a,b)):W (f (k+2) "stacks" [.loc t] μ) Q:=by
 have v:row.Nodup:=c.nodup_iff.mpr nd;have O:row.length=qs.length:=c.length_eq;rw[Vl,W_fin];simp only[w_mSeq,w_mSet,w_mDNewT,a0k,a0m,w_mForI,w_iSeq,w_mCall,w_mCons,bT,bC,bF];refine(IV (aG (aT _ _) E) (by rw[Jc];lia) λp R z=>?_).mpr ?_
 .have:p.1∈row.map a9:=by rw[<- Jb F];exact ZQ.mpr ⟨p,R,rfl⟩
  obtain⟨x,_,e⟩:=ZQ.mp this;rw[z]at e;cases e
 have L:(iD<|iU<|row.map λq=>(q,F q)).map (λk=>D.tup<|k.1.map D.int)=qs.map PP:=by have K:=XN (l:=iU (row.map λq=>(q,F q))) (by rw[Jc];lia) (by rw[Jb];exact c.map a9) T;rw[<- XO,<- K,ZS];rfl
 rw[L];refine(fS<|bM _ _).mpr ?_;have N:(μ++[C.dT []]).length=μ.length+1:=by simp
 have s:=bM (μ++[C.dT []])<|C.lst<|qs.map PP;have A:=X8 μ<|qs.map PP;rw[N]at s ⊢;generalize(μ++[C.dT []])++[C.lst<|qs.map PP]=μ1 at s A;refine mS (λi o b=>∃Z o2,GI μ b μ.length Z/\GZ Z=cZ (λq=>aE (F q) q) (qs.take i)/\b[μ.length+1]?=a7 (.lst<|qs.map PP)/\(∀z∈Z,μ.length+1<z.2.2)/\o=[a7<|.loc t,a7<|.loc μ.length,o2]) ⟨[],b3,A,rfl,s,(λz l=>nomatch l),rfl⟩ (λi o b h=>let⟨Z,o2,_,_,g,_⟩:=h;g) ?_ ?_
 .rintro i d o w hd ⟨Z,o2,I,m,u,j,rfl⟩;obtain⟨q,B,rfl⟩:=lO hd;have n:q∈row:=c.mem_iff.mpr<|Z1 B;refine⟨[a7<|.loc t,a7<|.loc μ.length,a7<|PP q],rfl,?_⟩;simp only[w_mDrop];refine mU<|oT ?_;simp only[bC,bF];refine⟨oU I.dic,?_⟩;simp only[w_mCons,bT,w_mCall,w_mOp,bC,bF,w_mLst];refine(He (aG I.pre E) (cF q)<|X7 v n).mpr ?_;refine(qQ k (F q) (M q) q.1 q.2 _ _).mpr ⟨a0I _,?_⟩;have sm:=HV m<|wQ _ _;have U:=a3j i qs;refine HS I (aE (F q) q) q (by have:=sm.1;lia) (λz l=>by have:=sm.2 z l;lia) _ λJ b G r Y nw=>?_;refine⟨J,a7<|PP q,G,by rw[r,m,HU B],Y _ _ u (by lia) λz l=>by have:=j z l;lia,λz l=>?_,rfl⟩;rcases nw z l with⟨y,X,e⟩|e
  .rw[<- e];exact j y X
  .have:=(ZG.mp u).1;lia
 .rintro o w ⟨Z,o2,I,m,u,j,rfl⟩;rw[ZF,a0V]at m;simp only[w_mRet,bC,bF];exact H _ _ _ I m
theorem Jd u n p:aE (aZ u n) p=if u=0 then(p.1,2*n-p.2)else if u=1 then(2*n-p.1,p.2)else if u=2 then(p.2+n,p.1-n)else(n-p.2,n-p.1):=by
 unfold aZ aE;split
 .refine a0S ?_ ?_<;>dsimp only<;>lia
 split
 .refine a0S ?_ ?_<;>dsimp only<;>lia
 split
 .refine a0S ?_ ?_<;>dsimp only<;>lia
 .refine a0S ?_ ?_<;>dsimp only<;>lia
theorem Yb u n:eB (aZ u n)=-1:=by
 unfold aZ eB;split
 .rfl
 split
 .rfl
 split
 .rfl
 .rfl
theorem Cf(h:Dih A):(eB A=1/\A.c=-A.b/\A.d=A.a)\/(eB A=-1/\A.c=A.b/\A.d=-A.a):=by
 obtain⟨a,b,c,d,e,g⟩:=A;unfold Dih at h;unfold eB;dsimp only at h ⊢;rcases h with⟨rfl,rfl,i,j⟩|⟨rfl,rfl,i,j⟩
 .rcases i with rfl|rfl<;>rcases j with rfl|rfl<;>decide
 .rcases i with rfl|rfl<;>rcases j with rfl|rfl<;>decide
theorem Je{a:Int}(e:a*x+b*y=0)(g:a*y-b*x=0)(hd:x*x+y*y≠0):a=0/\b=0:=by
 have c:a*(x*x+y*y)=0:=by grind
 have d:b*(x*x+y*y)=0:=by grind
 exact⟨(a5h.mp c).resolve_right hd,(a5h.mp d).resolve_right hd⟩
theorem Yc{p:Int×Int}(h:p≠q):(p.1-q.1)*(p.1-q.1)+(p.2-q.2)*(p.2-q.2)≠0:=λe=>by
 have b:(p.1-q.1)*(p.1-q.1)=0/\(p.2-q.2)*(p.2-q.2)=0:=by
  have a:∀z:Int,0<=z*z:=λz=>by
   rcases b0E 0 z with h|h
   .exact a9Y h h
   .exact Int.mul_nonneg_of_nonpos_of_nonpos h h
  have:=a<|p.1-q.1;have:=a<|p.2-q.2;omega
 refine h<|a0S ?_ ?_
 .rcases a5h.mp b.1 with z|z<;>lia
 .rcases a5h.mp b.2 with z|z<;>lia
theorem Yd{C:Ly}(hB:Dih B)(hC:Dih C)(hd:eB B=eB C)(R:p≠q)(l:aE B p=aE C p)(m:aE B q=aE C q):B=C:=by
 have j:=Cf hB;have k:=Cf hC;have nz:=Yc R;clear R;obtain⟨x,y⟩:=p;obtain⟨z,w⟩:=q;unfold aE at l m;injection l with u1 u2;injection m with v1 v2;dsimp only at nz u1 u2 v1 v2;have h:(B.a-C.a)*(x-z)+(B.b-C.b)*(y-w)=0:=by grind
 have i:(B.c-C.c)*(x-z)+(B.d-C.d)*(y-w)=0:=by grind
 have key:B.a-C.a=0/\B.b-C.b=0:=by
  rcases j with⟨a,c,d⟩|⟨a,c,d⟩<;>rcases k with⟨c1,c2,c3⟩|⟨c1,c2,c3⟩
  .exact Je h (by rw[c,d,c2,c3]at i;grind) nz
  .rw[hd,c1]at a;cases a
  .rw[hd,c1]at a;cases a
  .exact Je h (by rw[c,d,c2,c3]at i;grind) nz
 have e:B.a=C.a:=by lia
 have g:B.b=C.b:=by lia
 have b:B.c=C.c/\B.d=C.d:=by
  rcases j with⟨a,c,d⟩|⟨a,c,d⟩<;>rcases k with⟨c1,c2,c3⟩|⟨c1,c2,c3⟩
  .rw[c,d,c2,c3,e,g];exact⟨rfl,rfl⟩
  .rw[hd,c1]at a;cases a
  .rw[hd,c1]at a;cases a
  .rw[c,d,c2,c3,e,g];exact⟨rfl,rfl⟩
 refine Ly.ext' e g b.1 b.2 ?_ ?_
 .rw[e,g]at u1;lia
 .rw[b.1,b.2]at u2;lia
theorem Jf{P:Int->Int->Prop}(h:∀a∈[(0:Int),1,2,3],∀b∈[(0:Int),1,2,3],P a b)x y:P (x%4) (y%4):=by
 have m:∀z:Int,z%4∈[(0:Int),1,2,3]:=λz=>by
  have:z%4=0\/z%4=1\/z%4=2\/z%4=3:=by lia
  simpa using this
 exact h _ (m x) _<|m y
theorem xN(z:Int):z%4%2=z%2:=a8s z<|by decide
noncomputable def cB(x y:Int):Bool:=x%2==y%2&&(x%2==1||!(x%4==y%4))
noncomputable def sA(e:Int×Int):Int×Int:=if e.1%2=1 then(e.1,e.2+2-e.2%4)else if e.2%4=0 then(e.1,e.2-1)else(e.1-1,e.2)
noncomputable def sB(e:Int×Int):Int×Int:=if e.1%2=1 then(e.1+2-e.1%4,e.2)else if e.2%4=0 then(e.1,e.2+1)else(e.1+1,e.2)
theorem oX{e:Int×Int}(h:cB e.1 e.2=b5):(e.1%2=1/\e.2%2=1)\/(e.1%2=0/\e.2%4=0/\e.1%4=2)\/(e.1%2=0/\e.2%4=2/\e.1%4=0):=by unfold cB at h;rw[<- xN e.1,<- xN e.2]at h ⊢;revert h;exact Jf (P:=λa b=>(a%2==b%2&&(a%2==1||!(a==b)))=b5->(a%2=1/\b%2=1)\/(a%2=0/\b=0/\a=2)\/(a%2=0/\b=2/\a=0)) (by decide) e.1 e.2
theorem Cg(h:cB e.1 e.2=b5):cV (sA e) e=sB e/\cV (sB e) e=sA e:=by
 have:=oX h;unfold cV sA sB;rcases this with⟨b,c⟩|⟨b,c,a⟩|⟨b,c,a⟩
 .simp only[if_pos b];by_cases a:e.1%4=e.2%4
  .simp only[if_pos a];refine⟨a0S ?_ ?_,a0S ?_ ?_⟩<;>dsimp only<;>lia
  .simp only[if_neg a];refine⟨a0S ?_ ?_,a0S ?_ ?_⟩<;>dsimp only<;>lia
 .simp only[if_neg<|show ¬ e.1%2=1 by lia,if_pos c];refine⟨a0S ?_ ?_,a0S ?_ ?_⟩<;>dsimp only<;>lia
 .simp only[if_neg<|show ¬ e.1%2=1 by lia,if_neg<|show ¬ e.2%4=0 by lia];refine⟨a0S ?_ ?_,a0S ?_ ?_⟩<;>dsimp only<;>lia
theorem EdF.pos{F:Int×Int->Ly}(a:cB e.1 e.2=b5)(h:F (sA e)=cE (eN e) (F<|sB e)):aE (F<|sA e) (sA e)=aE (F<|sB e) (sB e):=by rw[h,lK,mW,(Cg a).1]
theorem Ye u n:cE (aZ u n) (aZ u n)=c7:=HE λp=>by rw[lK,BQ,tD]
noncomputable def bB(w h:Int):jq:=(jN 1 (4*w-1).toNat (4*h-1).toNat).filter λp=>cB p.1 p.2
noncomputable def c9:jq:=[(1,1),(1,2),(1,3),(2,1),(2,2),(2,3),(3,1),(3,2),(3,3),(4,1),(5,1),(6,1),(4,2),(5,2),(6,2),(1,4),(1,5),(1,6),(2,4),(2,5),(2,6)]
theorem eT:∀p∈c9,(1<=p.1/\p.1<=6)/\(1<=p.2/\p.2<=6)/\(bU p.1 p.2).length<=48/\1<=(bU p.1 p.2).length/\tQ ((bU p.1 p.2).map a9)=b5/\(bB p.1 p.2).length<=64/\tQ ((bB p.1 p.2).map a9)=b5 /\
  ∀e∈bB p.1 p.2,cB e.1 e.2=b5/\sA e∈bU p.1 p.2/\sB e∈bU p.1 p.2/\(0<e.1/\e.1<4*p.1)/\0<e.2/\e.2<4*p.2:=by decide +kernel
theorem Yg μ A B:c5 8 μ (LD A) (LD B)=a7 (decide<|A=B):=by
 have:c5 8 μ (LD A) (LD B)=a7 (A.a==B.a&&(A.b==B.b&&(A.c==B.c&&(A.d==B.d&&(A.e==B.e&&(A.g==B.g&&b5)))))):=rfl;rw[this];congr 1;rw[a0X,decide_eq_true_iff];simp only[ZL,beq_iff_eq,and_true];constructor
 .rintro⟨a,b,c,d,e,g⟩;exact Ly.ext' a b c d e g
 .rintro rfl;exact⟨rfl,rfl,rfl,rfl,rfl,rfl⟩
theorem w_neLD{Q:jz}:W (aR b5 (LD A) (LD B) μ) Q↔Q (.bl<|!decide (A=B),μ):=by
 have:aR b5 (LD A) (LD B) μ=a7 (.bl<|!decide (A=B),μ):=by unfold aR;rw[Yg];rfl
 rw[this];exact W_some
noncomputable def oY(w h:Int)(F:Int×Int->Ly):jq:=(bB w h).filter λe=>!decide (F (sA e)=F (sB e))
noncomputable def flat(G:Gr):jq:=G.flatMap (·.2)
noncomputable def aL(G:Gr)(q:Int×Int):Int:=match G.find? (λg=>g.2.contains q)with|some g=>(g.2.idxOf q:Nat)|none=>0
theorem Ci G g:flat (G++[g])=flat G++g.2:=by unfold flat;rw[a2J];simp
theorem mem_flat:q∈flat G↔∃g∈G,q∈g.2:=List.mem_flatMap
theorem Pil.one{f:Int×Int->Int×Int}(P:Pil qs f G)(a:g∈G)(b:q∈g.2):q∈qs/\f q=g.1:=by have h:=P.pm g.1;rw[gD P.kd a]at h;have:=a0s.mp<|h.mem_iff.mp b;exact⟨this.1,of_decide_eq_true this.2⟩
theorem Pil.nd{f:Int×Int->Int×Int}(nd:qs.Nodup)(P:Pil qs f G)(a:g∈G):g.2.Nodup:=by have h:=P.pm g.1;rw[gD P.kd a]at h;exact h.nodup_iff.mpr<|nd.sublist a1a
theorem Jg{f:Int×Int->Int×Int}:∀{G},(G.map (·.1)).Nodup->(∀g∈G,g.2.Nodup/\∀q∈g.2,f q=g.1)->(flat G).Nodup
 |[],_,_=>a2K|g::G,kd,h=>by rw[ZR,a1m]at kd;show(g.2++flat G).Nodup;rw[a2e];refine⟨(h g<|a0l ..).1,Jg kd.2 λx c=>h x<|Z2 _ c,λa k b l e=>?_⟩;subst e;obtain⟨x,c,d⟩:=mem_flat.mp l;have i:=(h g<|a0l ..).2 a k;have j:=(h x<|Z2 _ c).2 a d;exact kd.1<|ZQ.mpr ⟨x,c,by rw[<- j,i]⟩
theorem Pil.flat{f:Int×Int->Int×Int}(nd:qs.Nodup)(P:Pil qs f G):(Lw.flat G).Perm qs:=by
 have c:(Lw.flat G).Nodup:=Jg (f:=f) P.kd λg a=>⟨P.nd nd a,λq b=>(P.one a b).2⟩;refine(a3h c nd).mpr λq=>?_;rw[mem_flat];constructor
 .rintro⟨g,a,b⟩;exact(P.one a b).1
 .intro b;obtain⟨g,a,e⟩:=ZQ.mp<|P.key.mpr ⟨q,b,rfl⟩;refine⟨g,a,?_⟩;have h:=P.pm g.1;rw[gD P.kd a]at h;exact h.mem_iff.mpr<|a0s.mpr ⟨b,decide_eq_true e.symm⟩
theorem tS{f:Int×Int->Int×Int}(nd:qs.Nodup)(P:Pil qs f G)(a:g∈G){i:Nat}(b:g.2[i]?=a7 q):aL G q=i:=by
 have k:=Z1 b;have n:G.find? (λx=>x.2.contains q)=a7 g:=by
  cases h:G.find? (λx=>x.2.contains q)with
  |none=>exact absurd (a0H.mpr k) (by have:=a5L.mp h g a;simpa using this)|some x=>
   have l:=a4x h;have c:q∈x.2:=by have d:=a9D h;exact a0H.mp d
   have e:x.1=g.1:=by rw[<- (P.one l c).2,(P.one a k).2]
   have j:=gD P.kd l;have m:=gD P.kd a;rw[e,m]at j;rw[show x=g from a0S e j.symm]
 unfold aL;rw[n];have hi:i<g.2.length:=(ZG.mp b).1;have e:=(ZG.mp b).2;have:g.2.idxOf q=i:=by rw[<- e];exact(P.nd nd a).idxOf_getElem i hi
 show((g.2.idxOf q:Nat):Int)=i;rw[this]
theorem Yh{h μ:Hm}(u:∀(i:Nat)q,L[i]?=a7 q->v q=.int (i:Int))(s:∀q∈L,q∉K)(nd:L.Nodup)(z:K.length+L.length<=1000)(m:h<+:μ)(lo:h.length<=b)(gl:h[l]?=a7 (.lst<|L.map PP))(r:μ[b]?=a7 (.dT<|aN v K))Q(H:∀x y a,h<+:a->a[b]?=a7 (.dT<|aN v<|K++L)->Q (.nx,[j,a7<|.loc b,k,x,y],a)):
  W (eF (mG<|.loc l) (dH [3,4]) (dB (aA 1) (aA 4)<|aA 3) ((L.map PP).length+1) 0 [j,a7<|.loc b,k,n,o] μ) Q:=by
 refine Bw (λi c a=>∃x y,c=[j,a7<|.loc b,k,x,y]/\h<+:a/\a[b]?=a7 (.dT<|aN v<|K++L.take i)) ⟨n,o,rfl,m,by rw[a6S,a0p];exact r⟩ (by rintro _ _ _ ⟨_,_,_,p,_⟩;exact aG p gl) ?_ ?_
 .rintro i d c a hd ⟨x,y,rfl,p,g⟩;obtain⟨q,e,rfl⟩:=lO hd;refine⟨_,rfl,?_⟩;have hi:i<L.length:=(ZG.mp e).1;show W (dB (aA 1) (aA 4) (aA 3) [j,a7<|.loc b,k,a7<|.int i,a7<|PP q] a) _;simp only[w_mPut,bC,bF];refine(mV g (cF q)<|by rw[ZF,ZO,a0Q,a0n];lia).mpr ?_;refine⟨_,_,rfl,fL p lo _,?_⟩;rw[eQ g,<- u i q e,BV,fV e,a0R];intro w;rcases a0M.mp w with w|w
  .exact s q (Z1 e) w
  .exact m7 nd e w
 .rintro c a ⟨x,y,rfl,p,g⟩;rw[ZF,a0V]at g;exact H x y a p g
theorem Jh(nd:qs.Nodup)(o:qs.length<=100)(P:Pil qs g (GZ Z))(hz:Z[i]?=a7 z):
  (∀(j:Nat)q,z.2.1[j]?=a7 q->(λq=>D.int<|aL (GZ Z) q) q=.int (j:Int))/\(∀q∈z.2.1,q∉flat ((GZ Z).take i))/\z.2.1.Nodup/\(flat<|(GZ Z).take i).length+z.2.1.length<=1000:=by
 have a:(z.1,z.2.1)∈GZ Z:=ZQ.mpr ⟨z,Z1 hz,rfl⟩;refine⟨λj q b=>by dsimp only;rw[tS nd P a b],λq b w=>?_,P.nd nd a,?_⟩
 .obtain⟨x,h,c⟩:=mem_flat.mp w;have d:=a3i h;have e:x.1=z.1:=by rw[<- (P.one d c).2,(P.one a b).2]
  have:z.1∉((GZ Z).take i).map (·.1):=by rw[a9X,gR];have k:=P.kd;rw[gR]at k;exact m7 k<|by rw[ZU,hz];rfl
  exact this<|e▸ZQ.mpr ⟨x,h,rfl⟩
 .have l:=(P.flat nd).length_eq;have m:(flat<|(GZ Z).take i).length+z.2.1.length=(flat<|(GZ Z).take<|i+1).length:=by rw[xM hz,Ci,ZO]
  have n:(flat<|(GZ Z).take<|i+1).length<=(flat<|GZ Z).length:=by
   have:GZ Z=(GZ Z).take (i+1)++(GZ Z).drop (i+1):=(a2Y _ _).symm;conv=>rhs;rw[this]
   unfold flat;rw[a2J,ZO];lia
  lia
theorem Ji k(nd:qs.Nodup)(A:qs.length<=100)(I:HI μ h Z)(e:μ[h]?=a7 (.dT<|aM Z))(P:Pil qs g (GZ Z))(Q:jz)(H:∀b a,μ<+:a->a[b]?=a7 (.dT<|aN (λq=>.int<|aL (GZ Z) q)<|flat<|GZ Z)->Q (.loc b,a)):W (f (k+1) "heights_in" [.loc h] μ) Q:=by
 have o:h<μ.length:=(ZG.mp e).1;rw[Vo,W_fin,w_mSeq];simp only[w_mSet,w_mDNewT,a0k,a0m];rw[w_mSeq];have r:=I.frz e;have l:(μ.set h<|.dF<|aM Z).length=μ.length:=a0v;have p:μ.set h (.dF<|aM Z)<+:(μ++[C.dT []]).set h (.dF<|aM Z):=by rw[a3g _ _ o];exact a2S _ _
 refine XH rfl (aG (aT _ _) e) (λi c a=>∃x y z,c=[a7<|.loc h,a7<|.loc μ.length,x,y,z]/\μ.set h (.dF<|aM Z)<+:a/\a[μ.length]?=a7 (.dT<|aN (λq=>.int<|aL (GZ Z) q)<|flat<|(GZ Z).take i))
  ⟨b3,b3,b3,rfl,p,by rw[ZP<|by lia];exact bM _ _⟩ ?_ ?_
 .rintro i M d c a w ⟨x,y,R,rfl,m,n⟩;obtain⟨z,s,j,rfl,rfl⟩:=Ib w;simp only[a0k,a0m,w_mForI];refine Bv ?_;simp only[w_mCons,bT,bC,bF];refine⟨z.2.2,z.2.1.map PP,rfl,(r.more m).at_ z s,?_⟩;obtain⟨E,G,J,K⟩:=Jh nd A P j;refine Yh (v:=λq=>.int<|aL (GZ Z) q) (K:=flat ((GZ Z).take i)) E G J K m (by rw[l];exact ZN _) (r.at_ z s) n _ λN O L B u=>?_;refine⟨rfl,_,_,_,rfl,B,?_⟩;rw[xM j,Ci];exact u
 .rintro c a ⟨x,y,z,rfl,m,n⟩;have v:a[h]?=a7 (.dF<|aM Z):=aG m<|eQ e;refine⟨v,?_⟩;simp only[w_mRet,bC,bF];refine H _ _ (qR e m) ?_;rw[ZP<|by lia,n,a3H<|by rw[m4,GZ,ZF];exact ZN _]
noncomputable def oZ(F:Int×Int->Ly)(r:Int×Int->Int)(e:Int×Int):Str:=if(decide (r (sB e)<r (sA e))==decide (eB (F<|sA e)<0))=b5 then "v" else "h"
noncomputable abbrev MD(p:(Int×Int)×Str):D:=.tup [PP p.1,.str p.2]
noncomputable def iH(q:Int×Int):jq:=[(q.1-1,q.2),(q.1,q.2-1),(q.1,q.2+1),(q.1+1,q.2)]
theorem Jj:(4:Nat)<=ZX:=by decide
theorem Yi k q μ:f (k+1) "beside" [PP q] μ=a7 (.loc μ.length,μ++[C.lst [P (q.1-1) q.2,P q.1<|q.2-1,P q.1<|q.2+1,P (q.1+1) q.2]]):=by rw[U6];kernel_rfl
theorem tT k q(μ:Hm)(Q:jz)(H:∀a μ',μ<+:μ'->μ'[a]?=a7 (.lst<|((iH q).filter bW).map PP)->Q (.loc a,μ')):W (f (k+2) "sides_of" [PP q] μ) Q:=by
 rw[U7,W_fin];simp only[w_mRet];refine jL (xs:=(iH q).map PP) (p:=λd=>bW<|dO d) (v:=λd=>d) ?_;refine w_iSeq.mpr<|V6 rfl ?_;rw[Yi,W_some];have c:(μ++[C.lst [P (q.1-1) q.2,P q.1<|q.2-1,P q.1<|q.2+1,P (q.1+1) q.2]])[μ.length]?=a7 (.lst<|(iH q).map PP):=bM _ _;refine(fS c).mpr ⟨mT c,rfl,Jj,λd μ' hd b=>?_,λd μ' hd _ b=>?_,λμ' b e=>?_⟩
 .obtain⟨u,v,rfl⟩:=BH hd;simp only[a0W,a1n,w_mTru,w_mCall,w_mCons,bT,bC,bF,Iq,w_truB];exact⟨rfl,a0c _⟩
 .simp only[a0W,a1n,bC,bF];exact⟨trivial,a0c _⟩
 .refine H _ _ ((aT _ _).trans b) ?_;rw[e,oS bW]
noncomputable def tU(F:Int×Int->Ly)(r:Int×Int->Int)(s t:Int×Int):Str:=if(if eB (F s)=-1 then decide (r t<r s)else decide (r s<r t))=b5 then "v" else "h"
theorem Yj(h:∀q,Dih (F q))(hd:F (sA e)=cE (eN e) (F<|sB e))(i:r (sA e)≠r (sB e)):tU F r (sA e) (sB e)=oZ F r e/\tU F r (sB e) (sA e)=oZ F r e:=by
 have d:eB (F<|sA e)=-eB (F<|sB e):=by rw[hd,BK,HA];lia
 have g:=Cf<|h<|sB e;unfold tU oZ;have a:eB (F<|sB e)=1\/eB (F<|sB e)=-1:=g.imp (·.1) (·.1);rw[d];rcases a with a|a
 .rw[a];constructor<;>(by_cases b:r (sB e)<r (sA e)<;>by_cases c:r (sA e)<r (sB e)<;>simp[b,c]<;>lia)
 .rw[a];constructor<;>(by_cases b:r (sB e)<r (sA e)<;>by_cases c:r (sA e)<r (sB e)<;>simp[b,c]<;>lia)
theorem Cj p:bW p=b5↔(p.1%2=1/\p.2%4=2)\/(p.1%4=2/\p.2%2=1):=by
 unfold bW;split
 .rw[beq_iff_eq];lia
 .rw[ZL,beq_iff_eq,beq_iff_eq];lia
theorem nF(z:Int):z%2=z%4%2:=(a8s z<|by decide).symm
theorem Jk(a:x%4=r%4)(b:y%4=s%4):bW (x,y)=bW (r,s):=by unfold bW;dsimp only;rw[nF x,nF y,a,b,<- nF,<- nF]
theorem Yk x y:bW (-x,y)=bW (x,y):=by
 unfold bW;dsimp only;have a:-x%2=x%2:=by lia
 rcases a9J x with h|h
 .rw[show -x%4=x%4 by lia,a]
 .rw[a,h,if_pos rfl,if_pos rfl]
theorem Yl x y:bW (y,x)=bW (x,y):=by rw[a0X,Cj,Cj];exact⟨λh=>h.symm.imp a8u a8u,λh=>h.symm.imp a8u a8u⟩
theorem Ym(a:x%4=r)(b:y%4=s)i j:bW (x+i,y+j)=bW (r+i,s+j):=Jk (by rw[<- a,a9p])<|by rw[<- b,a9p]
theorem Ck(a:x%4=r)(b:y%4=s):(iH (x,y)).filter bW=(([(-1,0),(0,-1),(0,1),(1,0)]:jq).filter λd=>bW (r+d.1,s+d.2)).map λd=>(x+d.1,y+d.2):=by
 have:iH (x,y)=([(-1,0),(0,-1),(0,1),(1,0)]:jq).map λd=>(x+d.1,y+d.2):=by simp only[iH,ZR,a2U,a6i];rfl
 rw[this,a5e];congr 1;exact a8Z λd _=>Ym a b d.1 d.2
theorem Jl(h:cB e.1 e.2=b5):(iH e).filter bW=[sA e,sB e]\/(iH e).filter bW=[sB e,sA e]:=by
 have:=oX h;obtain⟨x,y⟩:=e;unfold sA sB;dsimp only at this ⊢;rcases this with⟨d,c⟩|⟨d,c,g⟩|⟨d,c,g⟩
 .have a:x%4=1\/x%4=3:=by lia
  have b:y%4=1\/y%4=3:=by lia
  rw[if_pos d,if_pos d];rcases a with a|a<;>rcases b with b|b<;>rw[Ck a b,a,b]
  .exact .inl<|by show[(x+0,y+1),(x+1,y+0)]=_;simp;lia
  .exact .inl<|by show[(x+0,y+-1),(x+1,y+0)]=_;simp;lia
  .exact .inr<|by show[(x+-1,y+0),(x+0,y+1)]=_;simp;lia
  .exact .inr<|by show[(x+-1,y+0),(x+0,y+-1)]=_;simp;lia
 .simp only[if_neg<|show ¬ x%2=1 by lia,if_pos c];rw[Ck g c];exact .inl<|by show[(x+0,y+-1),(x+0,y+1)]=_;rw[a6i];rfl
 .simp only[if_neg<|show ¬ x%2=1 by lia,if_neg<|show ¬ y%4=0 by lia];rw[Ck g c];exact .inl<|by show[(x+-1,y+0),(x+1,y+0)]=_;rw[a6i];rfl
theorem Yn(a:x%4=r%4)(b:y%4=s%4):cB x y=cB r s:=by unfold cB;rw[nF x,nF y,a,b,<- nF,<- nF]
theorem Yo x y:cB (-x) y=cB x y:=by
 unfold cB;have a:-x%2=x%2:=by lia
 rcases a9J x with h|h
 .rw[show -x%4=x%4 by lia,a]
 .rw[a,h];rfl
theorem Yp x y:cB y x=cB x y:=by
 unfold cB;rw[BEq.comm (a:=y%2),BEq.comm (a:=y%4)];cases h:x%2==y%2
 .rfl
 .rw[eq_of_beq h]
theorem Jm{T:Int->Int->Bool}(i:∀{x y r s},x%4=r%4->y%4=s%4->T x y=T r s)(pn:∀x y,T (-x) y=T x y)(ps:∀x y,T y x=T x y)(hA:Dih A)(a:A.e%4=0/\A.g%4=0)e:T (aE A e).1 (aE A e).2=T e.1 e.2:=by
 have c:=pn e.1 e.2;have b:=ps e.1 e.2;have d:T e.1 (-e.2)=T e.1 e.2:=by rw[<- ps,pn,b]
 have h:T (-e.1) (-e.2)=T e.1 e.2:=by rw[pn,d]
 have g:∀{x y r s u v:Int},u%4=0/\v%4=0->T r s=T e.1 e.2->x=r+u->y=s+v->T x y=T e.1 e.2:=λa q j l=>(i (by clear q;lia)<|by clear q;lia).trans q;unfold aE;obtain⟨u,v,k|k|k|k|k|k|k|k⟩:=BM hA<;>subst k<;>dsimp only at a ⊢
 .exact g a rfl (by lia)<|by lia
 .exact g a d (by lia)<|by lia
 .exact g a c (by lia)<|by lia
 .exact g a h (by lia)<|by lia
 .exact g a b (by lia)<|by lia
 .exact g a ((ps _ _).trans c) (by lia)<|by lia
 .exact g a ((pn _ _).trans b) (by lia)<|by lia
 .exact g a ((ps _ _).trans h) (by lia)<|by lia
theorem qT(hA:Dih A)(a:A.e%4=0/\A.g%4=0)(h:cB e.1 e.2=b5):cB (aE A e).1 (aE A e).2=true:=(Jm Yn Yo Yp hA a e).trans h
theorem Jn k{r:Int×Int->Int}(i:e.Nodup)(h:μ[a]?=a7 (.dT<|aN (λq=>.int<|r q) e))(j:x∈e)(l:y∈e)(g:μ[c]?=a7 (.lst<|[x,y].map PP))Q(H:Q (.rt<|.str<|if decide (r y<r x)=b5 then "v" else "h",[a7<|.loc a,b,d,a7<|.loc c],μ)):
  W (Hk (k+1) [a7<|.loc a,b,d,a7<|.loc c] μ) Q:=by
 refine c6<|w_mIfE.mpr<|iG (b:=decide (r y<r x))<|eA<|bJ ⟨_,rfl,bJ<|bQ rfl rfl<|(cQ g rfl).mpr<|bJ<|bQ rfl rfl<|(cQ g rfl).mpr ⟨_,rfl,dR (Hq k _ _ _ _)<|c6<|bA<|bQ rfl rfl<|(fH (.inl h) (cF x)<|fW i j).mpr<|bQ rfl rfl<|(fH (.inl h) (cF y)<|fW i l).mpr<|w_gtI.mpr ⟨rfl,?_⟩⟩⟩;cases hc:decide (r y<r x)with
 |true=>rw[hc]at H;exact fX rfl ⟨_,rfl,H⟩|false=>rw[hc]at H;exact d5 rfl ⟨_,rfl,H⟩
theorem Yq k(p:∀q,Dih (F q))(K:row.Nodup)(x:d.Nodup){μ:Hm}(u:μ[a]?=a7 (.dT<|aN (λq=>.int<|r q) d))(E:μ[b]?=a7 (.dT<|aN (λq=>LD<|F q) row))(G:cB e.1 e.2=b5)(v:sA e∈row/\sB e∈row)(m:sA e∈d/\sB e∈d)(hd:F (sA e)=cE (eN e) (F<|sB e))(I:r (sA e)≠r (sB e))(Q:jz)(H:∀j,μ<+:j->Q (.str<|oZ F r e,j)):
  W (f (k+4) "mark_by_heights" [.loc a,.loc b,PP e] μ) Q:=by
 have c:∀s t:Int×Int,s∈row->s∈d->t∈d->tU F r s t=oZ F r e->(iH e).filter bW=[s,t]->W (f (k+4) "mark_by_heights" [.loc a,.loc b,PP e] μ) Q:=λs t J fs o B A=>by
  refine dR (Vx (k+3) _ _ _ μ)<|bV<|bS rfl<|dR (Vv (k+2) _ _ μ)<|bV<|bS rfl<|tT k e _ _ λl L i g=>?_;rw[A]at g;rw[<- B]at H;unfold tU at H;refine w_mSeq.mpr<|w_mIfS.mpr<|iG<|eA<|bJ<|bA ⟨_,rfl,bQ rfl rfl<|(cQ g rfl).mpr<|(fH (.inl<|aG i E) (cF s)<|fW K J).mpr ⟨_,rfl,(Wi (k+1) (F s) (p s) _ _).mpr ⟨rfl,?_⟩⟩⟩;cases n:eB (F s)==-1 with
  |true=>rw[if_pos<|eq_of_beq n]at H;exact fX rfl (c6 ⟨_,rfl,Jn (k+2) x (aG i u) fs o g _<|H _ i⟩)|false=>rw[if_neg<|show ¬ eB (F s)=-1 from λw=>by rw[w]at n;cases n]at H;exact d5 rfl<|w_mNext.mpr<|c6<|w_mLst.mpr<|bJ<|bQ rfl rfl<|(cQ g rfl).mpr<|bJ<|bQ rfl rfl<|(cQ g rfl).mpr ⟨_,rfl,fT,Jn (k+2) x (aG (i.trans<|aT _ _) u) o fs (bM _ _) _<|H _<|i.trans<|aT _ _⟩
 obtain⟨y,z⟩:=Yj p hd I;rcases Jl G with h|h
 .exact c _ _ v.1 m.1 m.2 y h
 .exact c _ _ v.2 m.2 m.1 z h
theorem Yr{Q:jz}:W (aF (.tup [a,b,c]) (.int 2) μ) Q↔Q (c,μ):=W_some
noncomputable def SH(w h:Int)(S:List ((Int×Int)×Str)):D:=.tup [.int w,.int h,.tup<|S.map MD]
noncomputable def xO:D->D
 |.tup (a::_)=>a|_=>.non
noncomputable def Jo:D->D
 |.tup [_,b]=>b|_=>.non
theorem Ys(nd:qs.Nodup)(P:Pil qs g G)(l:a∈qs)(o:b∈qs)(ne:a≠b)(e:g a=g b):aL G a≠aL G b:=by
 obtain⟨x,d,k⟩:=ZQ.mp<|P.key.mpr ⟨a,l,rfl⟩;have h:=P.pm x.1;rw[gD P.kd d]at h;have m:a∈x.2:=h.mem_iff.mpr<|a0s.mpr ⟨l,decide_eq_true k.symm⟩;have n:b∈x.2:=h.mem_iff.mpr<|a0s.mpr ⟨o,decide_eq_true<|e.symm.trans k.symm⟩;obtain⟨i,hi⟩:=a8h m;obtain⟨j,c⟩:=a8h n;rw[tS nd P d hi,tS nd P d c];intro w;have p:i=j:=by lia
 subst p;rw[hi]at c;exact ne<|Z0 c
theorem iX(h:cB e.1 e.2=b5):sA e≠sB e:=by
 have:=oX h;unfold sA sB;intro w;rcases this with⟨a,b⟩|⟨a,b,c⟩|⟨a,b,c⟩
 .rw[if_pos a,if_pos a]at w;injection w with w1 w2;lia
 .simp only[if_neg<|show ¬ e.1%2=1 by lia,if_pos b]at w;injection w with w1 w2;lia
 .simp only[if_neg<|show ¬ e.1%2=1 by lia,if_neg<|show ¬ e.2%4=0 by lia]at w;injection w with w1 w2;lia
structure CrF(qs:jq)(F:Int×Int->Ly)(e:Int×Int):Prop where
 r:cB e.1 e.2=b5
 a:sA e∈qs
 b:sB e∈qs
 m:F (sA e)=cE (eN e) (F<|sB e)
theorem Yt{ds:List D}{Q:jz}(hA:μ[A]?=a7 (.lst ds))(hB:μ[B]?=a7 (.lst [])):W (aR b5 (.loc A) (.loc B) μ) Q↔Q (.bl<|!ds.isEmpty,μ):=by
 have a:∀{x:Nat}{xs:List D},μ[x]?=a7 (.lst xs)->dZ μ (.loc x)=a7 (.lst xs):=λh=>by simp only[dZ,h]
 have e:c5 8 μ (.loc A) (.loc B)=a7 ds.isEmpty:=by show(dZ μ<|.loc A).bind (λu=>(dZ μ<|.loc B).bind λv=>nU (c5 7 μ) u v)=_;rw[a hA,a hB];show hW (c5 7 μ) ds []=_;cases ds<;>rfl
 unfold aR;rw[e];exact W_some
theorem Jp(h:i<n):jR n (i:Int)=a7 i:=by unfold jR;rw[if_pos<|by lia,if_pos<|by lia];rfl
noncomputable abbrev ND(x:(Int×Int)×(Int×Int)):D:=.tup [PP x.1,PP x.2]
noncomputable def qU(r:Int×Int):Int:=if r.1%2=1 then(if r.1%4=r.2%4 then 2 else 3)else if r.2%4=0 then 0 else 1
theorem Cm{qs:jq}(up:(qs.map a9).Pairwise λx y=>HT.lexLt x y=b5):qs.Nodup:=by rw[a4D]at up;exact up.imp λ{x y} h e=>by rw[e,oA]at h;exact a0a h
structure Wf(w h:Int)(F:Int×Int->Ly):Prop where
 di:∀q,Dih (F q)
 lt:∀q,(F q).e%4=0/\(F q).g%4=0
 ed:∀e∈bB w h,F (sA e)=F (sB e)\/F (sA e)=cE (eN e) (F<|sB e)
structure Dr(qs:jq)(μ:Hm)(a b:Nat)(F:Int×Int->Ly)(row:jq)(Z:Zr):Prop where
 hw:μ[a]?=a7 (.dT<|aN (λq=>LD<|F q) row)
 hr:row.Perm qs
 hi:HI μ b Z
 hh:μ[b]?=a7 (.dT<|aM Z)
 pl:Pil qs (λq=>aE (F q) q)<|GZ Z
theorem Dr.more{μ':Hm}(d:Dr qs μ a b F row Z)(p:μ<+:μ'):Dr qs μ' a b F row Z:=⟨aG p d.hw,d.hr,d.hi.more p,aG p d.hh,d.pl⟩
theorem Yu(d:cB r.1 r.2=b5):aZ (qU r) (cA (qU r) r)=eN r:=by
 refine HE λp=>?_;rw[Jd,mW];obtain⟨x,y⟩:=r;obtain⟨u,v⟩:=p;unfold cV qU cA;rcases oX d with⟨a,b⟩|⟨a,b,c⟩|⟨a,b,c⟩<;>dsimp only at a b ⊢
 .simp only[if_pos a];by_cases h:x%4=y%4
  .simp only[if_pos h];refine a0S ?_ ?_<;>simp<;>lia
  .simp only[if_neg h];refine a0S ?_ ?_<;>simp<;>lia
 .simp only[if_neg<|show ¬ x%2=1 by lia,if_pos b];refine a0S ?_ ?_<;>simp
 .simp only[if_neg<|show ¬ x%2=1 by lia,if_neg<|show ¬ y%4=0 by lia];refine a0S ?_ ?_<;>simp
theorem gH{o:Option a}{x:a}(h:W o λr=>r=x):o=a7 x:=by obtain⟨r,e,rfl⟩:=h;exact e
theorem Cn(a:s ρ μ=a7 (b,μ))(d:t ρ μ=a7 (c,μ)):i7 s t ρ μ=a7 (b&&c,μ):=gH<|w_mAndT.mpr ⟨_,a,by cases b with|true=>exact fX rfl ⟨_,d,rfl⟩|false=>exact d5 rfl rfl⟩
theorem Co(a:s ρ μ=a7 (b,μ))(d:t ρ μ=a7 (c,μ)):fJ s t ρ μ=a7 (b||c,μ):=gH<|w_mOrT.mpr ⟨_,a,by cases b with|true=>exact fX rfl rfl|false=>exact d5 rfl ⟨_,d,rfl⟩⟩
theorem Jq u(a:n%4=0)(h:A.e%4=0/\A.g%4=0):(cE A<|aZ u n).e%4=0/\(cE A<|aZ u n).g%4=0:=by
 unfold cE aZ;split
 .dsimp only;lia
 split
 .dsimp only;lia
 split
 .dsimp only;lia
 .dsimp only;lia
theorem Jr(hw:1<=w/\w<=3)(c:1<=h/\h<=3):(w,h)∈c9:=by
 have a:=gG hw;have b:=gG c;revert w h;intro w h _ _ a b;have:∀w∈[(1:Int),2,3],∀h∈[(1:Int),2,3],(w,h)∈c9:=by decide
 exact this w a h b
theorem Yv k t(F:Int×Int->Ly)(K:∀q,Dih (F q))row qs(e:row.Perm qs)(M:(qs.map a9).Pairwise λx y=>HT.lexLt y x=b4)(L:1<=qs.length/\qs.length<64)(nd:qs.Nodup)(N:μ[t]?=a7 (.dT<|aN (λq=>LD<|F q) row))(I:HI μ a Z)(G:μ[a]?=a7 (.dT<|aM Z))(O:Z.length<64)(R:∀z∈Z,z.2.1.length<64)(Q:jz)(H:∀c,μ<+:c->Q (.bl<|tR (cZ (λq=>aE (F q) q) qs)<|GZ Z,c)):W (f (k+3) "are_piles" [.loc t,.loc a] μ) Q:=by
 refine dR (Vn (k+2) _ _ μ) (bV<|bS rfl<|X9 k t F K row qs e M L nd _ (by rw[N];unfold iU aN;rw[ZS];rfl) _ λb S o J s=>?_);have T:S.length<=qs.length:=by rw[<- iV,s];exact(wQ (λq=>aE (F q) q) qs).1
 refine w_mSeq.mpr (w_mIfS.mpr<|fG<|bA<|bS rfl<|(IZ I.kd (aG J.pre G) O).mpr<|bS rfl<|(IZ J.kd (aG (aT _ _) J.dic)<|by lia).mpr<|(Bt (aG (aT _ _)<|bM _ _)<|bM _ _).mpr ⟨_,rfl,?_⟩);have n:=(aT o<|C.lst<|(cK<|Z.map (·.1)).map PP).trans<|aT _<|C.lst<|(cK<|S.map (·.1)).map PP;have h:=J.pre.trans n;unfold tR at H;rw[<- s,gR,gR]at H;by_cases l:(Z.map (·.1)).Perm (S.map (·.1))
 .rw[decide_eq_true l,Bool.true_and]at H;have i:=aG n J.dic;have A:=(I.more h).frz i;have B:=(J.hi.more n).frz i;have u:=eQ (c':=C.dF (aM S)) i;refine d5 (by rw[srt_eq.mpr l,beq_self_eq_true];rfl)<|w_mNext.mpr<|c6<|wJ<|XI (a:=b) (kvs:=aM S) rfl i<|jL (xs:=d9 (aM S)) (p:=λ_=>b5) (v:=λd=>.bl<|cK (aQ (GZ Z)<|dO d)==aQ (GZ S) (dO d)) ?_;rw[X4 rfl u];refine W_some.mpr ⟨wG,by rw[d9,ZF],by rw[d9,ZF,m4,a0n];lia,λd c hd j=>w_mTrue.mpr ⟨rfl,a0c _⟩,λd c hd _ j=>?_,λc j v=>⟨aG j u,?_⟩⟩
  .obtain⟨p,e,rfl⟩:=X3 hd;obtain⟨z,m,rfl⟩:=tF e;have r:=B.more<|j.trans<|aT c<|C.lst<|(cK<|aQ (GZ Z) z.1).map PP;refine bA<|wJ<|bQ rfl rfl<|X2 (A.more j) R (l.mem_iff.mpr e) _<|bQ rfl rfl<|(fH r.dic (cF z.1)<|m3 J.kd m).mpr<|(Bt (bM _ _)<|r.at_ z m).mpr ⟨?_,aT _ _⟩;rw[Ja,xA J.kd m];rfl
  .have E:((d9<|aM S).filter λ_=>b5).map (λd=>D.bl<|cK (aQ (GZ Z)<|dO d)==aQ (GZ S) (dO d))=((GZ S).map λg=>cK (aQ (GZ Z) g.1)==g.2).map D.bl:=by rw[a4g.mpr λ_ _=>rfl,tK,ZS,ZS,ZS,show GZ S=S.map λz=>(z.1,z.2.1)from rfl,ZS];refine a0q λz m=>?_;show D.bl (cK (aQ (GZ Z) z.1)==aQ (GZ S) z.1)=D.bl (cK (aQ (GZ Z) z.1)==z.2.1);rw[xA J.kd m]
   rw[E]at v;refine(UT<|(X6 i (a4m a0v.symm) _ _).trans v).mpr ?_;have:=H _<|h.trans<|qR i j;rw[a5Y];exact this
 .rw[decide_eq_false l,a9L]at H;exact fX (by rw[beq_eq_false_iff_ne.mpr λw=>l<|srt_eq.mp w];rfl)<|c6 ⟨_,rfl,H _ h⟩
theorem Yw k{qs:jq}(nd:qs.Nodup)(M:qs.length<=100)(x:∀q,Dih (F q))(g:row.Perm qs){S:List ((Int×Int)×Str)}(N:S.length<=100)(y:∀p∈S,CrF qs F p.1)(z:μ[a]?=a7 (.dT<|aN (λq=>LD<|F q) row))(I:HI μ b Z)(A:μ[b]?=a7 (.dT<|aM Z))(P:Pil qs (λq=>aE (F q) q) (GZ Z))(Q:jz)(H:∀c e,μ<+:e->μ.length<=c->e[c]?=a7 (.lst<|(S.map λp=>(p.1,oZ F (aL<|GZ Z) p.1)).map MD)->Q (.loc c,e)):W (f (k+5) "marks_by" [SH w h S,.loc a,.loc b] μ) Q:=by
 rw[Vy,W_fin,w_mSeq];simp only[w_mSet,w_mCall,w_mCons,bT,bC,bF];refine Ji (k+3) nd (by lia) I A P _ λc J j u=>?_;simp only[a0k,a0m,w_mRet];have l:=P.flat nd;refine UY (xs:=S.map MD) (x:=λd=>[a7<|xO d,a7<|Jo d]) (p:=λ_=>b5) (v:=λd=>MD (dO<|xO d,oZ F (aL<|GZ Z)<|dO<|xO d)) ?_;simp only[SH,w_iSeq,w_mOp,bC,bF,cT,Yr];refine w_seqT.mpr ⟨wG,rfl,by rw[ZF,a0n];lia,λd e hd=>?_,λd e hd i=>w_mTrue.mpr ⟨rfl,a0c _⟩,λd e hd _ i=>?_,λK E v=>?_⟩
 .obtain⟨m,_,rfl⟩:=ZQ.mp hd;rfl
 .obtain⟨m,B,rfl⟩:=ZQ.mp hd;simp only[a0W,a1n,w_mTup,w_mCall,w_mCons,bT,bC,bF,xO,Jo];obtain⟨n,o,r,s⟩:=y m B;refine Yq k x (g.nodup_iff.mpr nd) (l.nodup_iff.mpr nd) (aG i u) (aG (j.trans i) z) n ⟨g.mem_iff.mpr o,g.mem_iff.mpr r⟩ ⟨l.mem_iff.mpr o,l.mem_iff.mpr r⟩ s (Ys nd P o r (iX n)<|EdF.pos n s) _ λL G=>?_;exact⟨fT,rfl,G⟩
 .refine H _ _ (j.trans E) j.length_le ?_;rw[v,a4g.mpr λ_ _=>rfl,ZS,ZS];rfl
noncomputable def qV(p:Int×Int):Bool:=if p.1%2=1 then p.2%2==1 else p.2%2==0&&!(p.1%4==p.2%4)
theorem Yx k x y μ(Q:jz):W (f (k+1) "is_edge" [P x y] μ) Q↔Q (.bl<|qV (x,y),μ):=by
 rw[U3,W_fin];simp only[w_mSeq,w_mRet,w_mNext,w_mIfS,w_mTest,w_mAndV,w_mOp,cT,bC,w_it20,w_it21,w_eqI,w_neI,BC,BE];unfold qV;by_cases h:x%2=1
 .simp[h]
 .have e:(x%2==1)=false:=by simpa using h
  simp only[e,h,Z5,if_false];cases y%2==0<;>simp
theorem Yy:∀p∈c9,(m9 p.1 p.2).filter qV=bB p.1 p.2:=by decide +kernel
theorem Js k(g:(w,h)∈c9)(μ:Hm)(Q:jz)(H:∀a μ',μ<+:μ'->μ'[a]?=a7 (.lst<|(bB w h).map PP)->Q (.loc a,μ')):W (f (k+2) "edges_in" [.int w,.int h] μ) Q:=by
 obtain⟨hw,e,_⟩:=eT _ g;refine dR (Vk (k+1) _ _ μ)<|c6<|jL (xs:=(m9 w h).map PP) (p:=λd=>qV<|dO d) (v:=λd=>d)<|w_iSeq.mpr<|bS rfl<|Io _ w h hw e _ _ λa l j c m=>(fS c).mpr ⟨mT c,rfl,?_,λd μ' hd b=>?_,λd μ' hd _ b=>⟨_,rfl,rfl,a0c _⟩,λμ' b i=>?_⟩
 .have:=Ip (w:=w) (h:=h) hw.2 e.2;rw[ZF,a0n];lia
 .obtain⟨u,v,rfl⟩:=BH hd;exact iG (b:=qV (u,v))<|bS rfl<|(Yx k u v _ _).mpr ⟨rfl,rfl,a0c _⟩
 .refine H _ _ (j.trans b) ?_;rw[i,oS qV,Yy _ g]
noncomputable def fM(e:Int×Int):jq:=(iH e).filter bW
theorem jP(h:cB e.1 e.2=b5):∃s t,fM e=[s,t]/\s≠t/\((s=sA e/\t=sB e)\/(s=sB e/\t=sA e)):=by
 rcases Jl h with a|a
 .exact⟨_,_,a,iX h,.inl ⟨rfl,rfl⟩⟩
 .exact⟨_,_,a,a0o<|iX h,.inr ⟨rfl,rfl⟩⟩
theorem Jt(h:cB e.1 e.2=b5):cV e e=e:=by
 obtain⟨x,y⟩:=e;unfold cV;rcases oX h with⟨a,b⟩|⟨a,b,c⟩|⟨a,b,c⟩<;>dsimp only at a b ⊢
 .by_cases h:x%4=y%4
  .simp only[if_pos a,if_pos h];refine a0S ?_ ?_<;>dsimp only<;>lia
  .simp only[if_pos a,if_neg h];refine a0S ?_ ?_<;>dsimp only<;>lia
 .simp only[if_neg<|show ¬ x%2=1 by lia,if_pos b];refine a0S ?_ ?_<;>dsimp only<;>lia
 .simp only[if_neg<|show ¬ x%2=1 by lia,if_neg<|show ¬ y%4=0 by lia];refine a0S ?_ ?_<;>dsimp only<;>lia
noncomputable def aX(F:Int×Int->Ly)(e:Int×Int):Int×Int:=aE (F<|sA e) e
theorem tV(h:cB e.1 e.2=b5)(hd:F (sA e)=F (sB e)\/F (sA e)=cE (eN e) (F<|sB e)):aE (F<|sB e) e=aX F e:=by
 unfold aX;rcases hd with hd|hd
 .rw[hd]
 .rw[hd,lK,mW,Jt h]
theorem Yz k t(T:(w,h)∈c9){S:List ((Int×Int)×Str)}(wf:Wf w h F)(J:row.Perm (bU w h))(nd:(bU w h).Nodup)(ht:μ[t]?=a7 (.dT<|aN (λq=>LD<|F q) row))(Q:jz)(H:∀a Z j,GI μ j a Z->GZ Z=cZ (aX F) (bB w h)->Q (.loc a,j)):W (f (k+3) "edges_laid" [SH w h S,.loc t] μ) Q:=by
 obtain⟨_,_,_,_,_,U,_,fr⟩:=eT _ T;replace U:(bB w h).length<=64:=U;refine dR (Vm (k+2) _ _ μ)<|bV<|w_mDNewT.mpr<|iT<|w_mForI.mpr<|w_iSeq.mpr<|bS rfl<|Js k T _ _ λb p Y u=>(fS u).mpr ?_;have L:p[μ.length]?=a7 (.dT []):=aG Y<|bM _ _;have I0:GI μ p μ.length []:=⟨(aT _ _).trans Y,ZN _,L,a2K,a2K,λz l=>nomatch l⟩;have G:b≠μ.length:=λe=>by rw[e,L]at u;cases u
 refine mS (λi x j=>∃Z X,GI μ j μ.length Z/\GZ Z=cZ (aX F) ((bB w h).take i)/\j[b]?=a7 (.lst<|(bB w h).map PP)/\(∀z∈Z,b<z.2.2)/\x=[a7<|SH w h S,a7<|.loc t,a7<|.loc μ.length,X]) ⟨[],b3,I0,rfl,u,(λz l=>nomatch l),rfl⟩ (λi x j h=>let⟨Z,o2,_,_,g,_⟩:=h;g) ?_ ?_
 .rintro i d x K hd ⟨Z,X,I,n,E,m,rfl⟩;obtain⟨e,N,rfl⟩:=lO hd;have O:=Z1 N;obtain⟨r1,q1,q2,_⟩:=fr e O;obtain⟨s,t',es,_,B⟩:=jP r1;have o:s∈row/\aE (F s) e=aX F e:=by
   rcases B with⟨rfl,_⟩|⟨rfl,_⟩
   .exact⟨J.mem_iff.mpr q1,rfl⟩
   .exact⟨J.mem_iff.mpr q2,tV r1<|wf.ed e O⟩
  refine⟨[a7<|SH w h S,a7<|.loc t,a7<|.loc μ.length,a7<|PP e],rfl,w_mDrop.mpr<|mU<|oT ⟨_,rfl,oU I.dic,bJ<|eA<|bJ<|bA ⟨_,rfl,bA<|bS rfl<|tT k e _ _ λc μ3 v M=>?_⟩⟩⟩;rw[show(iH e).filter bW=[s,t']from es]at M;refine⟨_,rfl,(cQ M<|show atI ([s,t'].map PP) 0=a7 (PP s)from rfl).mpr<|(fH (.inl<|aG (I.pre.trans v) ht) (cF s)<|fW (J.nodup_iff.mpr nd) o.1).mpr ⟨_,rfl,(qQ (k+1) (F s) (wf.di s) e.1 e.2 _ _).mpr<|bJ<|w_mLst.mpr ⟨_,rfl,a0I _,_,rfl,?_⟩⟩⟩;rw[show((e.1,e.2):Int×Int)=e from rfl,o.2];have sm:=HV n<|wQ _ _;have ht2:=a3j i<|bB w h;refine bG (HS (I.more v) (aX F e) e (by have:=sm.1;lia) (λz l=>by have:=sm.2 z l;lia) _ ?_) λr R=>⟨R.1,⟨_,rfl,R.2⟩⟩;intro Z' j I' A kp nw;refine⟨Z',a7<|PP e,I',by rw[A,n,HU N],kp _ _ (aG v E) G λz l=>by have:=m z l;lia,λz l=>?_,rfl⟩;rcases nw z l with⟨y,hy,e⟩|e
  .rw[<- e];exact m y hy
  .have:=(ZG.mp<|aG v E).1;lia
 .rintro x K ⟨Z,o2,I,n,E,m,rfl⟩;rw[ZF,a0V]at n;exact⟨rfl,c6 ⟨_,rfl,H _ _ _ I n⟩⟩
theorem Ju(R:Int×Int->Nat->Hm->Prop){k:jq}{E:MI}(gl:μ[l]?=a7 (.lst<|k.map PP))(le:k.length<=100)(hit:E x μ=a7 (cS<|.loc l,(k.map PP).length+1,μ))(A:∀e c g n,R e c g->(∀b v,μ.length<b->g[b]?=a7 v->n[b]?=a7 v)->R e c n)(K:∀e∈k,∀a,μ<+:a->μ.length<a.length->W (z (x++[a7<|PP e]) a) λs=>a<+:s.2/\∃c,s.1=.loc c/\R e c s.2)(Q:jz)(H:∀(d:List Nat)a,μ<+:a->a[μ.length]?=a7 (.lst<|d.map D.loc)->d.length=k.length->(∀(i:Nat)e c,k[i]?=a7 e->d[i]?=a7 c->R e c a)->Q (.loc μ.length,a)):W (d8 E f6 z x μ) Q:=by
 refine UW ⟨_,hit,k.length,(λi q a=>∃d:List Nat,q=d.map D.loc/\d.length=i/\μ<+:a/\∀(j:Nat) e c,k[j]?=a7 e->d[j]?=a7 c->R e c a),by rw[ZF],by rw[a0n];lia,?_,⟨[],rfl,rfl,aT _ _,λj e c _ h=>by simp at h⟩,?_,?_⟩
 .rintro i q a ⟨d,rfl,h,_⟩;rw[ZF];lia
 .rintro i q a hi ⟨d,rfl,hc,p,r⟩ o;have B:k[i]?=a7 k[i]:=ZT hi;refine⟨PP k[i],_,?_,rfl,w_mTrue.mpr ⟨λh=>(by cases h),λ_=>?_⟩⟩
  .simp only[cS,gJ,bK,aG p gl,Z4,ZU,B]
  .refine bG (K k[i] (a2L hi) a p (ZG.mp o).1) λs ⟨w,c,I,N⟩=>⟨aG w o,d++[c],by rw[I,Z7];rfl,by rw[ZO,hc];rfl,fL (p.trans w) (ZN _) _,λj e y u m=>?_⟩;have G:∀g:Hm,g<+:s.2->∀b v,μ.length<b->g[b]?=a7 v->(s.2.set μ.length<|.lst<|d.map D.loc++[s.1])[b]?=a7 v:=λg h b v O M=>by rw[ZP<|by lia];exact aG h M
   by_cases L:j<d.length
   .rw[a0f L]at m;exact A e y _ _ (r j e y u m)<|G a w
   .have J:j=i:=by have:=(ZG.mp m).1;rw[ZO]at this;have:j<d.length+1:=this;lia
    subst J;rw[a0N<|by lia,hc,a3L]at m;rw[B]at u;cases u;cases m;exact A _ _ _ _ N<|G s.2<|a0c _
 .rintro q a ⟨d,rfl,hc,p,r⟩ o;refine⟨?_,H d a p o hc r⟩;simp only[cS,gJ,bK,aG p gl,Z4];rw[a1H<|by rw[ZF];exact ZN _]
theorem w_eqPd{Q:jz}:W (aR b4 (PP p) (PP q) μ) Q↔Q (.bl<|decide<|p=q,μ):=by
 have e:c5 8 μ (PP p) (PP q)=a7 (p.1==q.1&&(p.2==q.2&&b5)):=rfl;have:aR b4 (PP p) (PP q) μ=a7 (.bl<|decide<|p=q,μ):=by unfold aR;rw[e];show a7 (D.bl<|p.1==q.1&&(p.2==q.2&&b5),μ)=_;congr 3;rw[a7m,a0X];simp only[ZL,beq_iff_eq,decide_eq_true_iff];exact⟨λz=>a0S z.1 z.2,λz=>by rw[z];exact⟨rfl,rfl⟩⟩
 rw[this];exact W_some
noncomputable def aY(F:Int×Int->Ly)(e s:Int×Int):jq:=(fM e).filter λq=>decide<|aE (F q) q=s
theorem YA{μ:Hm}k(i:∀q,Dih (F q))(nd:row.Nodup)(n:μ[t]?=a7 (.dT<|aN (λq=>LD<|F q) row))(j:∀q∈fM e,q∈row)(Q:jz)(H:∀c μ',μ<+:μ'->μ.length<=c->μ'[c]?=a7 (.lst<|(aY F e s).map PP)->Q (.loc c,μ')):W (f (k+3) "quarters_at" [PP e,.loc t,PP s] μ) Q:=by
 refine dR (Vp (k+2) _ _ _ μ)<|c6<|jL (xs:=(fM e).map PP) (p:=λd=>decide<|aE (F<|dO d) (dO d)=s) (v:=λd=>d)<|w_iSeq.mpr<|bS rfl<|tT k e _ _ λa o g h=>(fS h).mpr ⟨mT h,rfl,?_,λd μ' hd b=>?_,λd μ' hd _ b=>⟨_,rfl,rfl,a0c _⟩,λμ' b l=>?_⟩
 .rw[ZF];exact a0A (a0G _ _) Jj
 .obtain⟨q,m,rfl⟩:=ZQ.mp hd;exact fG<|bA<|eA<|bJ<|bQ rfl rfl<|(fH (.inl<|aG (g.trans b) n) (cF q)<|fW nd<|j q m).mpr ⟨_,rfl,(qQ (k+1) (F q) (i q) q.1 q.2 _ _).mpr ⟨_,rfl,w_eqPd.mpr ⟨_,rfl,rfl,a0c _⟩⟩⟩
 .refine H _ _ (g.trans b) (GY g) ?_;rw[l,oS λq=>decide<|aE (F q) q=s];rfl
noncomputable def JC(lo:Nat)(A B:jq)(c:Nat)(μ:Hm):Prop:=∃c0 c1,lo<c/\lo<c0/\lo<c1/\μ[c]?=a7 (.lst [.loc c0,.loc c1])/\μ[c0]?=a7 (.lst<|A.map PP)/\μ[c1]?=a7 (.lst<|B.map PP)
theorem YB{μ:Hm}k(y:∀q,Dih (F q))(nd:row.Nodup)(B:μ[t]?=a7 (.dT<|aN (λq=>LD<|F q) row))(z:∀q∈fM e,q∈row)(o:fM p=[s0,s1])(A:lo<μ.length)(Q:jz)(H:∀c μ',μ<+:μ'->JC lo (aY F e s0) (aY F e s1) c μ'->Q (.loc c,μ')):W (f (k+4) "joined_at" [PP e,.loc t,PP p] μ) Q:=by
 refine dR (Vq (k+3) _ _ _ μ)<|c6 ?_;obtain⟨⟨x,b⟩,w,a,d,g,n⟩:W (f (k+3) "sides_of" [PP p] μ) λr=>∃a,μ<+:r.2/\r.2[a]?=a7 (.lst<|(fM p).map PP)/\r.1=.loc a:=tT (k+1) p _ _ λa b d g=>⟨a,d,g,rfl⟩;dsimp only at d g n;subst n;have hc:d8 (cX<|aH (f (k+3) "sides_of")<|aC (aA 2) aD) f6 (aH (f (k+3) "quarters_at")<|aC (aA 0)<|aC (aA 1)<|aC (aA 3) aD) [a7<|PP e,a7<|.loc t,a7<|PP p] μ=d8 (λ_ μ=>a7 (cS<|.loc a,((fM p).map PP).length+1,μ)) f6 (aH (f (k+3) "quarters_at")<|aC (aA 0)<|aC (aA 1)<|aC (aA 3) aD) [a7<|PP e,a7<|.loc t,a7<|PP p] b:=by
  have:cX (aH (f (k+3) "sides_of")<|aC (aA 2) aD) [a7<|PP e,a7<|.loc t,a7<|PP p] μ=a7 (cS<|.loc a,((fM p).map PP).length+1,b):=by unfold cX;rw[show aH (f (k+3) "sides_of") (aC (aA 2) aD) [a7<|PP e,a7<|.loc t,a7<|PP p] μ=f (k+3) "sides_of" [PP p] μ from rfl,w];simp only[ZY,gJ,bK,g];rfl
  unfold d8 iM;rw[this]
 rw[hc];have lt:μ.length<=b.length:=GY d;refine Ju (R:=λs c μ'=>b.length<c/\μ'[c]?=a7 (.lst<|(aY F e s).map PP)) g (by rw[o];show(2:Nat)<=100;decide) rfl (λe c O R h k=>⟨h.1,k c _ h.1 h.2⟩) (λs K μ' m N=>bS rfl<|YA k y nd (aG (d.trans m) B) z _ λc J E l v=>⟨E,c,rfl,by lia,v⟩) _ λu μ' m j l i=>?_;rw[o]at l i;match u,l,j,i with
 |[c0,c1],_,j,i=>obtain⟨L,G⟩:=i 0 s0 c0 rfl rfl;obtain⟨M,I⟩:=i 1 s1 c1 rfl rfl;exact H _ _ (d.trans m) ⟨c0,c1,by lia,by lia,by lia,j,G,I⟩
noncomputable def lQ(r:Int×Int->Int)(a b:Int×Int)(L:jq):Nat:=(L.filter λq=>decide (min (r a) (r b)<r q)&&decide (r q<max (r a) (r b))).length
theorem Jv{μ:Hm}k(i:fl.Nodup)(g:μ[h]?=a7 (.dT<|aN (λq=>.int<|r q) fl))(v:a∈fl)(w:b∈fl)(u:∀q∈L,q∈fl)(z:L.length<=100)(c:μ[x]?=a7 (.lst<|[a,b].map PP))(j:μ[y]?=a7 (.lst<|L.map PP))(Q:jz)(H:∀μ',μ<+:μ'->Q (.int<|lQ r a b L,μ')):W (f (k+1) "count_between" [.loc h,.loc x,.loc y] μ) Q:=by
 have m:atI ([a,b].map PP) 0=a7 (PP a):=rfl;have n:atI ([a,b].map PP) 1=a7 (PP b):=rfl;have o:∀{Q:jz},Q (.int<|r a,μ)->W (aF (.loc h) (PP a) μ) Q:=λq=>(fH (.inl g) (cF a)<|fW i v).mpr q;have p:∀{Q:jz},Q (.int<|r b,μ)->W (aF (.loc h) (PP b) μ) Q:=λq=>(fH (.inl g) (cF b)<|fW i w).mpr q;refine dR (Vr k _ _ _ μ)<|bV<|eA<|bJ<|bA ⟨_,rfl,bQ rfl rfl<|(cQ c m).mpr<|o<|bJ<|bA ⟨_,rfl,bQ rfl rfl<|(cQ c n).mpr<|p ⟨_,rfl,w_min.mpr ?_⟩⟩⟩;refine bV<|eA<|bJ<|bA ⟨_,rfl,bQ rfl rfl<|(cQ c m).mpr<|o<|bJ<|bA ⟨_,rfl,bQ rfl rfl<|(cQ c n).mpr<|p ⟨_,rfl,w_max.mpr ?_⟩⟩⟩;refine c6<|eA<|bJ<|jL (xs:=L.map PP) (p:=λd=>decide (min (r a) (r b)<r (dO d))&&decide (r (dO d)<max (r a) (r b))) (v:=λd=>d)<|w_iSeq.mpr ⟨_,rfl,(fS j).mpr ⟨mT j,rfl,by rw[ZF,a0n];lia,λd μ' hd e=>?_,λd μ' hd _ e=>⟨_,rfl,rfl,a0c _⟩,λμ' e l=>?_⟩⟩
 .obtain⟨q,s,rfl⟩:=ZQ.mp hd;refine fG<|w_mChain.mpr ⟨_,rfl,bQ rfl rfl<|(fH (.inl<|aG e g) (cF q)<|fW i<|u q s).mpr<|w_ltI.mpr ?_⟩;rw[Ja];cases decide (min (r a) (r b)<r q)with
  |false=>exact⟨_,rfl,rfl,a0c _⟩|true=>exact⟨_,rfl,w_ltI.mpr ⟨_,rfl,rfl,a0c _⟩⟩
 .rw[oS λq=>decide (min (r a) (r b)<r q)&&decide (r q<max (r a) (r b))]at l;refine⟨_,rfl,(qN l).mpr ?_⟩;rw[ZF];exact H _ e
noncomputable def kP(r:Int×Int->Int)(X Y:jq):Option Bool:=match X with
 |[a,b]=>a7 (lQ r a b Y==1)|_=>match Y with
  |[c,d]=>a7 (lQ r c d X==1)|_=>b3
noncomputable def qW(r:Int×Int->Int)(X Y:jq):Bool:=decide<|r (X.headD (0,0))>r (Y.headD (0,0))
noncomputable def nG(r:Int×Int->Int)(a c d e:jq):Bool:=match kP r a d with
 |some b=>b|none=>match kP r c e with
  |some b=>b|none=>qW r a d != qW r c e
theorem Jw{X:jq}(h:X.length=2):∃a b,X=[a,b]:=by
 match X,h with
 |[a,b],_=>exact⟨a,b,rfl⟩
theorem YC{Y:jq}(a:X.length≠2)(b:Y=[c,d]):kP r X Y=a7 (lQ r c d X==1):=by
 subst b;unfold kP;split
 .exact absurd rfl a
 .rfl
theorem YD(a:X.length≠2)(b:Y.length≠2):kP r X Y=none:=by
 unfold kP;split
 .exact absurd rfl a
 .split
  .exact absurd rfl b
  .rfl
theorem Jx(n:Nat):(((n:Int))==1)=(n==1):=by rw[a0X,beq_iff_eq,beq_iff_eq];lia
theorem Jy(n:Nat):(((n:Int))==2)=(n==2):=by rw[a0X,beq_iff_eq,beq_iff_eq];lia
theorem Jz{μ:Hm}k(u:fl.Nodup)(s:μ[h]?=a7 (.dT<|aN (λq=>.int<|r q) fl))(j:∀q∈X,q∈fl)(l:∀q∈Y,q∈fl)(w:X.length<=100)(z:Y.length<=100)(g:μ[x]?=a7 (.lst<|X.map PP))(i:μ[y]?=a7 (.lst<|Y.map PP))R(o:∀b c,kP r X Y=a7 b->μ<+:c->R (.rt<|.bl b,[a7<|.loc h,m,n,a7<|.loc x,a7<|.loc y],c))(v:kP r X Y=b3->R (.nx,[a7<|.loc h,m,n,a7<|.loc x,a7<|.loc y],μ)):W (Hl (k+1) [a7<|.loc h,m,n,a7<|.loc x,a7<|.loc y] μ) R:=by
 refine w_mSeq.mpr<|w_mIfS.mpr<|fG<|bA<|bS rfl<|(qN g).mpr ⟨_,rfl,w_eqI.mpr ⟨_,rfl,?_⟩⟩;rw[ZF,Jy];by_cases d:X.length=2
 .refine fX (beq_iff_eq.mpr d) ?_;obtain⟨a,b,rfl⟩:=Jw d;refine w_mRet.mpr (bA<|bS rfl<|Jv k u s (j a<|by simp) (j b<|by simp) l z g i _ λc p=>⟨_,rfl,w_eqI.mpr ?_⟩);rw[Jx];exact o _ _ rfl p
 .refine d5 (beq_eq_false_iff_ne.mpr d)<|w_mNext.mpr<|w_mIfS.mpr<|fG<|bA<|bS rfl<|(qN i).mpr ⟨_,rfl,w_eqI.mpr ⟨_,rfl,?_⟩⟩;rw[ZF,Jy];by_cases e:Y.length=2
  .refine fX (beq_iff_eq.mpr e) ?_;obtain⟨a,b,rfl⟩:=Jw e;refine w_mRet.mpr (bA<|bS rfl<|Jv k u s (l a<|by simp) (l b<|by simp) j w i g _ λc p=>⟨_,rfl,w_eqI.mpr ?_⟩);rw[Jx];exact o _ _ (YC d rfl) p
  .exact d5 (beq_eq_false_iff_ne.mpr e)<|w_mNext.mpr<|v<|YD d e
theorem JA{r:Int×Int->Int}k(d:fl.Nodup)(c:μ[h]?=a7 (.dT<|aN (λq=>.int<|r q) fl))(e:a∈fl)(g:b∈fl)(Q:jz)(H:Q (.bl<|decide<|r a>r b,μ)):W (f (k+1) "is_above" [.loc h,PP a,PP b] μ) Q:=
 dR (Hq k _ _ _ μ)<|c6<|bA<|bQ rfl rfl<|(fH (.inl c) (cF a)<|fW d e).mpr<|bQ rfl rfl<|(fH (.inl c) (cF b)<|fW d g).mpr<|w_gtI.mpr H
inductive Sh:jq->jq->Prop where
 |c0 (a b):Sh [a,b] []
 |c1 (a b):Sh [] [a,b]
 |s (a b):Sh [a] [b]
theorem Sh.len(s:Sh A B):A.length<=100/\B.length<=100:=by cases s<;>exact⟨by simp,by simp⟩
theorem w_neB{Q:jz}:W (aR b5 (.bl x) (.bl y) μ) Q↔Q (.bl<|x != y,μ):=by
 have:aR b5 (.bl x) (.bl y) μ=a7 (.bl<|x != y,μ):=by cases x<;>cases y<;>rfl
 rw[this];exact W_some
theorem YE k(U:fl.Nodup)(O:μ[h]?=a7 (.dT<|aN (λq=>.int<|r q) fl))(sA:Sh E G)(sB:Sh I J)(R:∀q,q∈E\/q∈G->q∈fl)(T:∀q,q∈I\/q∈J->q∈fl)(jA:JC lo E G x μ)(jB:JC lo I J y μ)(Q:jz)(H:∀g,μ<+:g->Q (.bl<|nG r E G I J,g)):W (f (k+2) "crosses" [.loc h,.loc x,.loc y] μ) Q:=by
 obtain⟨a0,a1,_,_,_,m,K,L⟩:=jA;obtain⟨b0,b1,_,_,_,n,M,N⟩:=jB;have lA:=sA.len;have lB:=sB.len;refine dR (Vs (k+1) _ _ _ μ)<|w_mSeq.mpr<|w_mForI.mpr<|UZ ⟨_,rfl,_,_,_,_,rfl,m,n,?_⟩;refine kK (N:=2) (λi A g=>∃u v,A=[a7<|.loc h,a7<|.loc x,a7<|.loc y,u,v]/\μ<+:g/\(0<i->kP r E I=b3)/\(1<i->kP r G J=b3)) ?_ ?_ 2 0 _ μ rfl ⟨b3,b3,rfl,a0c _,λz=>absurd z<|a2p _,λz=>absurd z<|by decide⟩
 .rintro i A g hi ⟨u,v,rfl,p,l,B⟩;have j:∀i,oH (.loc x) (.loc y) g i=a7 (([D.loc a0,.loc a1][i]?).bind λd=>([D.loc b0,.loc b1][i]?).map λe=>.tup [d,e]):=λi=>by simp only[oH,bK,aG p m,aG p n,ZY,Z4]
  have hc:i=0\/i=1:=by lia
  rcases hc with rfl|rfl
  .refine⟨_,_,j 0,rfl,Jz k U (aG p O) (λq o=>R q<|.inl o) (λq o=>T q<|.inl o) lA.1 lB.1 (aG p K) (aG p M) _ (λb w e Y=>?_) λe=>⟨_,_,rfl,p,λ_=>e,λz=>absurd z<|by decide⟩⟩;have:=H w<|p.trans Y;unfold nG at this;rw[e]at this;exact this
  .refine⟨_,_,j 1,rfl,Jz k U (aG p O) (λq o=>R q<|.inr o) (λq o=>T q<|.inr o) lA.2 lB.2 (aG p L) (aG p N) _ (λb w e Y=>?_) λe=>⟨_,_,rfl,p,λ_=>l<|by decide,λ_=>e⟩⟩;have:=H w<|p.trans Y;unfold nG at this;rw[l<|by decide,e]at this;exact this
 .rintro A g ⟨u,v,rfl,p,l,B⟩;have l:=l (by decide);have B:=B (by decide);have j:oH (.loc x) (.loc y) g 2=a7 none:=by simp only[oH,bK,aG p m,aG p n,ZY,Z4];rfl
  refine⟨j,?_⟩;have:=H g p;unfold nG at this;rw[l,B]at this;cases sA with
  |c0 a b=>cases l|c1 a b=>cases B|s a b=>
   cases sB with
   |c0 c d=>cases l|c1 c d=>cases B|s c d=>have Z:∀{u v:D},atI [u,v] 0=a7 u:=rfl;have i1:∀{u v:D},atI [u,v] 1=a7 v:=rfl;have X:∀q,atI ([q].map PP) 0=a7 (PP q):=λ_=>rfl;have m:=aG p m;have n:=aG p n;refine w_mRet.mpr<|bA<|eA<|bJ ⟨_,rfl,bJ<|bA<|bQ rfl rfl<|(cQ m Z).mpr ⟨_,rfl,(cQ (aG p K)<|X a).mpr<|bJ<|bA<|bQ rfl rfl<|(cQ n Z).mpr ⟨_,rfl,(cQ (aG p M)<|X c).mpr ⟨_,rfl,?_⟩⟩⟩⟩;refine JA k U (aG p O) (R a<|.inl<|by simp) (T c<|.inl<|by simp) _<|eA<|bJ ⟨_,rfl,bJ<|bA<|bQ rfl rfl<|(cQ m i1).mpr ⟨_,rfl,(cQ (aG p L)<|X b).mpr<|bJ<|bA<|bQ rfl rfl<|(cQ n i1).mpr ⟨_,rfl,(cQ (aG p N)<|X d).mpr ⟨_,rfl,?_⟩⟩⟩⟩;exact JA k U (aG p O) (R b<|.inr<|by simp) (T d<|.inr<|by simp) _<|w_neB.mpr this
theorem JB p q:q∈iH p↔(q.1=p.1-1/\q.2=p.2)\/(q.1=p.1/\q.2=p.2-1)\/(q.1=p.1/\q.2=p.2+1)\/(q.1=p.1+1/\q.2=p.2):=by unfold iH;simp only[a0g,a3q,or_false,Prod.ext_iff]
theorem xP(hA:Dih A)(c:A.e%4=0/\A.g%4=0)(h:q∈fM e):aE A q∈fM (aE A e):=by
 obtain⟨a,b⟩:=a0s.mp h;rw[JB]at a;refine a0s.mpr ⟨?_,?_⟩
 .rw[JB];unfold aE;obtain⟨u,v,h|h|h|h|h|h|h|h⟩:=BM hA<;>subst h<;>dsimp only<;>lia
 .rw[show bW (aE A q)=bW q from Jm (T:=λx y=>bW (x,y)) Jk Yk Yl hA c q];exact b
theorem Cp(hA:Dih A)(h:p≠q):aE A p≠aE A q:=λe=>h<|by
 have:=congrArg (aE<|BJ A) e;rwa [HD hA,HD hA]at this
theorem tW(E:(w,h)∈c9)(wf:Wf w h F)(r:e∈bB w h)(l:fM (aX F e)=[s0,s1]):Sh (aY F e s0) (aY F e s1)/\(∀q,q∈aY F e s0\/q∈aY F e s1->q∈bU w h)/\cB (aX F e).1 (aX F e).2=true:=by
 obtain⟨n,y,z,_⟩:=(eT _ E).2.2.2.2.2.2.2 e r;have A:cB (aX F e).1 (aX F e).2=true:=qT (wf.di _) (wf.lt _) n;obtain⟨c,d,k,I,i⟩:=jP n;have x:c∈bU w h/\d∈bU w h:=by
  rcases i with⟨rfl,rfl⟩|⟨rfl,rfl⟩
  .exact⟨y,z⟩
  .exact⟨z,y⟩
 have j:∀s,∀q∈aY F e s,q∈bU w h:=λs q m=>by
  have:=(a0s.mp m).1;rw[k]at this;simp only[a0g,a3q,or_false]at this;rcases this with rfl|rfl
  .exact x.1
  .exact x.2
 refine⟨?_,λq m=>m.elim (j _ q)<|j _ q,A⟩;obtain⟨u,v,o,g,_⟩:=jP A;rw[l]at o;cases o;have B:aE (F c) e=aX F e/\aE (F d) e=aX F e:=by
  have:=tV n<|wf.ed e r;rcases i with⟨rfl,rfl⟩|⟨rfl,rfl⟩
  .exact⟨rfl,this⟩
  .exact⟨this,rfl⟩
 have G:aE (F c) c=s0\/aE (F c) c=s1:=by have:=xP (wf.di c) (wf.lt c) (e:=e) (q:=c) (by rw[k];simp);rw[B.1,l]at this;simpa using this
 have H:aE (F d) d=s0\/aE (F d) d=s1:=by have:=xP (wf.di d) (wf.lt d) (e:=e) (q:=d) (by rw[k];simp);rw[B.2,l]at this;simpa using this
 unfold aY;rw[k];have p:∀s,([c,d].filter λq=>decide<|aE (F q) q=s)=(if aE (F c) c=s then[c]else[])++if aE (F d) d=s then[d]else[]:=λs=>by rw[a2q,a2q,a1o];by_cases a:aE (F c) c=s<;>by_cases b:aE (F d) d=s<;>simp[a,b]
 rw[p,p];rcases G with a|a<;>rcases H with b|b
 .rw[a,b,if_pos rfl,if_pos rfl,if_neg g,if_neg g];exact .c0 _ _
 .rw[a,b,if_pos rfl,if_neg<|a0o g,if_neg g,if_pos rfl];exact .s _ _
 .rw[a,b,if_neg<|a0o g,if_pos rfl,if_pos rfl,if_neg g];exact .s _ _
 .rw[a,b,if_neg<|a0o g,if_neg<|a0o g,if_pos rfl,if_pos rfl];exact .c1 _ _
theorem YF r(a:Sh c d)(b:Sh e g):nG r d c g e=nG r c d e g:=by
 cases a<;>cases b<;>try rfl
 show(qW r _ _ != qW r _ _)=(qW r _ _ != qW r _ _);exact Bool.xor_comm _ _
noncomputable def e8(F:Int×Int->Ly)(r:Int×Int->Int)(p e a:Int×Int):Bool:=match fM p with
 |[s0,s1]=>nG r (aY F e s0) (aY F e s1) (aY F a s0) (aY F a s1)|_=>b4
noncomputable def j8(c:Int×Int->Int×Int->Bool)(e:Int×Int)(L:jq):List ((Int×Int)×(Int×Int)):=(L.filter<|c e).map λx=>(e,x)
noncomputable def iI(c:Int×Int->Int×Int->Bool)(a:jq)(n:Nat):List ((Int×Int)×(Int×Int)):=(a0L n).flatMap λk=>j8 c (a.getD k (0,0))<|a.drop<|k+1
theorem JD c a n:iI c a (n+1)=iI c a n++j8 c (a.getD n (0,0)) (a.drop<|n+1):=by unfold iI;rw[a5d,a2J,a8Y,a6q,a0p]
theorem JE c e L:(j8 c e L).length<=L.length:=by unfold j8;rw[ZF];exact a0G _ _
theorem xQ c a:∀n,(iI c a n).length<=n*a.length
 |0=>a0I _|n+1=>by have d:=xQ c a n;have b:=JE c (a.getD n (0,0))<|a.drop<|n+1;rw[a3r]at b;rw[JD,ZO,a6h];lia
theorem JF c e x L:j8 c e (L++[x])=j8 c e L++if c e x=b5 then[(e,x)]else[]:=by
 unfold j8;rw[a0Y,Z7];congr 1;by_cases h:c e x=b5
 .rw[if_pos h,a0w h];rfl
 .rw[if_neg h,a0x h];rfl
theorem JG{a:List Nat}{i:Nat}(h:a[i]?=a7 c):atI (a.map D.loc) (i:Int)=a7 (.loc c):=by have hi:=(ZG.mp h).1;unfold atI;rw[ZF,Jp hi];show(a.map D.loc)[i]?=_;rw[ZU,h];rfl
theorem YG{es:jq}k(hs:(w,h)∈c9)(wf:Wf w h F)(nf:fl.Nodup)(mf:∀q∈bU w h,q∈fl)(hh:μ1[hg]?=a7 (.dT<|aN (λq=>.int<|r q) fl))(O:fM p=[s0,s1])(gl:μ1[l]?=a7 (.lst<|es.map PP))(le:es.length<=64)(he:∀e∈es,e∈bB w h/\aX F e=p){u:List Nat}(Z:μ1[j]?=a7 (.lst<|u.map D.loc))(lc:u.length=es.length)(hR:∀(i:Nat)e c,es[i]?=a7 e->u[i]?=a7 c->JC lo (aY F e s0) (aY F e s1) c μ1)(hi:es[i]?=a7 e)(lb:base.length<=5000){μ:Hm}(p1:μ1<+:μ)(gb:μ[μ1.length]?=a7 (.lst<|base.map ND))Q(H:∀x g,μ1<+:g->g[μ1.length]?=a7 (.lst<|(base++j8 (e8 F r p) e (es.drop<|i+1)).map ND)->Q (.nx,[a7<|.loc hg,X,Y,a7<|.loc l,a7<|PP e,a7<|.loc j,a7<|.loc μ1.length,a7<|.int i,x],g)):
  W (eF (iB ((i:Int)+1)<|es.length-(i+1)) (cP 8) (Hn<|k+2) (es.length-(i+1)+1) 0 [a7<|.loc hg,X,Y,a7<|.loc l,a7<|PP e,a7<|.loc j,a7<|.loc μ1.length,a7<|.int i,x8] μ) Q:=by
 have hil:=(ZG.mp hi).1;obtain⟨ci,y⟩:∃c,u[i]?=a7 c:=⟨u[i]'(by lia),ZT<|by lia⟩;have ji:=hR i e ci hi y;obtain⟨K,L⟩:=he e<|Z1 hi;obtain⟨sh,sm,_⟩:=tW hs wf K (s0:=s0) (s1:=s1) (by rw[L];exact O);refine wF (λm v g=>∃x,v=[a7<|.loc hg,X,Y,a7<|.loc l,a7<|PP e,a7<|.loc j,a7<|.loc μ1.length,a7<|.int i,x]/\μ1<+:g/\g[μ1.length]?=a7 (.lst<|(base++j8 (e8 F r p) e ((es.drop<|i+1).take m)).map ND)) ⟨x8,rfl,p1,by rw[a6S];show _=a7 (C.lst<|(base++[]).map ND);rw[a0p];exact gb⟩ ?_ ?_
 .rintro m v g hm ⟨x,rfl,n,G⟩;have E:i+1+m<es.length:=by lia
  obtain⟨s,o⟩:∃s,es[i+1+m]?=a7 s:=⟨es[i+1+m],ZT E⟩;obtain⟨cm,z⟩:∃c,u[i+1+m]?=a7 c:=⟨u[i+1+m]'(by lia),ZT<|by lia⟩;have jm:=hR _ s cm o z;obtain⟨M,N⟩:=he s<|Z1 o;obtain⟨T,U,_⟩:=tW hs wf M (s0:=s0) (s1:=s1) (by rw[N];exact O);have em:((i:Int)+1+(m:Nat))=((i+1+m:Nat):Int):=by lia
  have tk:(es.drop<|i+1).take (m+1)=(es.drop<|i+1).take m++[s]:=fV (by rw[List.getElem?_drop];exact o);have mono:∀{A B:jq}{c:Nat},JC lo A B c μ1->JC lo A B c g:=λ⟨c0,c1,a,b,c,d,e,f⟩=>⟨c0,c1,a,b,c,aG n d,aG n e,aG n f⟩;rw[em];refine⟨_,rfl,w_mIfS.mpr<|iG (b:=e8 F r p e s)<|eA<|bJ ⟨_,rfl,bJ<|bQ rfl rfl<|(cQ (aG n Z)<|JG y).mpr<|bJ<|bQ rfl rfl<|(cQ (aG n Z)<|JG z).mpr ⟨_,rfl,?_⟩⟩⟩;refine YE k nf (aG n hh) sh T (λq R=>mf q<|sm q R) (λq R=>mf q<|U q R) (mono ji) (mono jm) _ λμ3 J=>⟨by unfold e8;rw[O],?_⟩;have I:=aG J G;have lb2:(base++j8 (e8 F r p) e ((es.drop<|i+1).take m)).length<=6000:=by have:=JE (e8 F r p) e<|(es.drop<|i+1).take m;have:=a3j m<|es.drop<|i+1;rw[a3r]at this;rw[ZO];lia
  cases hb:e8 F r p e s with
  |false=>refine d5 rfl<|w_mNext.mpr ⟨_,rfl,n.trans J,?_⟩;rw[tk,JF,hb,if_neg a0a,a0p];exact I|true=>refine fX rfl (w_mDrop.mpr<|mU ⟨_,rfl,oR I,bJ<|w_mTup.mpr<|bJ ⟨_,rfl,bJ<|bQ rfl rfl<|(cQ (aG (n.trans J) gl)<|X5 (Jp E) o).mpr ⟨_,rfl,fT,_,rfl,(qM I<|by rw[ZF,a0n];lia).mpr ⟨_,rfl,fL (n.trans J) (ZN _) _,?_⟩⟩⟩⟩);rw[eQ I,tk,JF,hb,if_pos rfl,<- a0R,Z7 (l₂:=[(e,s)])];rfl
 .rintro v g ⟨x,rfl,n,G⟩;rw[a3H<|by rw[a3r];exact ZN _]at G;exact H x g n G
theorem YH k(O:(w,h)∈c9)(wf:Wf w h F)(N:row.Perm (bU w h))(nd:(bU w h).Nodup)(nf:fl.Nodup)(mf:∀q∈bU w h,q∈fl){μ:Hm}(ht:μ[t]?=a7 (.dT<|aN (λq=>LD<|F q) row))(hh:μ[hg]?=a7 (.dT<|aN (λq=>.int<|r q) fl))(M:fM p=[s0,s1])(gl:μ[l]?=a7 (.lst<|es.map PP))(le:es.length<=64)(L:∀e∈es,e∈bB w h/\aX F e=p)(Q:jz)(H:∀c g,μ<+:g->g[c]?=a7 (.lst<|(iI (e8 F r p) es es.length).map ND)->Q (.loc c,g)):W (f (k+5) "crossing_at" [.loc hg,.loc t,PP p,.loc l] μ) Q:=by
 have sq:∀e∈es,∀q∈fM e,q∈row:=λe B q E=>by
  obtain⟨r1,R,T,_⟩:=(eT _ O).2.2.2.2.2.2.2 e (L e B).1;obtain⟨u,v,z,_,A⟩:=jP r1;rw[z]at E;simp only[a0g,a3q,or_false]at E;refine N.mem_iff.mpr ?_;rcases A with⟨rfl,rfl⟩|⟨rfl,rfl⟩<;>rcases E with rfl|rfl
  .exact R
  .exact T
  .exact T
  .exact R
 have hit:cX (aA 3) [a7<|.loc hg,a7<|.loc t,a7<|PP p,a7<|.loc l,b3,b3,b3,b3,b3] μ=a7 (cS<|.loc l,(es.map PP).length+1,μ):=by show(gJ μ<|.loc l).map _=_;simp only[gJ,bK,gl];rfl
 refine dR (Vt (k+4) _ _ _ _ μ)<|bV<|Ju (R:=λe c g=>JC μ.length (aY F e s0) (aY F e s1) c g) gl (by lia) hit ?_ (λe B g m l1=>bS rfl<|YB k wf.di (N.nodup_iff.mpr nd) (aG m ht) (sq e B) M l1 _ λc μ2 s j=>⟨s,c,rfl,j⟩) _ λcs n m X lc Z=>bV<|w_mLst.mpr ⟨_,rfl,a0I _,iT<|w_mForI.mpr<|Bv ⟨_,rfl,l,es.map PP,rfl,aG (m.trans<|aT _ _) gl,?_⟩⟩
 .rintro e c m1 m2 ⟨c0,c1,a,b,d,z,A,U⟩ G;exact⟨c0,c1,a,b,d,G _ _ a z,G _ _ b A,G _ _ d U⟩
 .refine Bw (λi o g=>∃I J K,o=[a7<|.loc hg,a7<|.loc t,a7<|PP p,a7<|.loc l,I,a7<|.loc μ.length,a7<|.loc n.length,J,K]/\n<+:g/\g[n.length]?=a7 (.lst<|(iI (e8 F r p) es i).map ND)) ⟨b3,b3,b3,rfl,aT _ _,bM _ _⟩ (λ_ _ _ ⟨_,_,_,_,q,_⟩=>aG (m.trans q) gl) ?_ ?_
  .rintro i d o g hd ⟨I,J,K,rfl,s,y⟩;obtain⟨e,hi,rfl⟩:=lO hd;have hil:=(ZG.mp hi).1;have lb:(iI (e8 F r p) es i).length<=5000:=by have h1:=xQ (e8 F r p) es i;have h2:=a3n (show i<=64 by lia) le;lia
   refine⟨_,rfl,w_mForI.mpr<|w_iRng2.mpr<|bJ<|bQ rfl rfl<|w_addI.mpr<|bJ<|bS rfl<|(qN<|aG (m.trans s) gl).mpr ⟨_,rfl,?_⟩⟩;refine⟨⟨by lia,by lia,by lia,by rw[ZF];lia⟩,?_⟩;rw[ZF,show((es.length:Int)-((i:Int)+1)).toNat=es.length-(i+1) by lia];refine YG (k+2) O wf nf mf (aG m hh) M (aG m gl) le L X lc Z hi lb s y _ λx μ3 p3 Y=>⟨_,_,_,rfl,p3,?_⟩;rw[JD,a1S,hi];exact Y
  .rintro o g ⟨I,J,K,rfl,s,y⟩;rw[ZF]at y;exact⟨rfl,c6 ⟨_,rfl,H _ _ (m.trans s) y⟩⟩
theorem JH bt:∀n,a2Q bt n<=n
 |0=>ZN _|n+1=>by have:=JH bt n;unfold a2Q;split<;>lia
noncomputable def xR(x:(Int×Int)×(Int×Int)):List Int×List Int:=(a9 x.1,a9 x.2)
theorem JI:∀L:List<|(Int×Int)×(Int×Int),sN (L.map ND)=a7 (L.map xR)
 |[]=>rfl|x::L=>by rw[ZR,ZR];show(vP<|ND x).bind (λz=>(sN<|L.map ND).map λa=>z::a)=_;rw[JI L];show((dN<|PP x.1).bind λk=>(dN<|PP x.2).map λm=>(k,m)).bind _=_;rw[cF,cF];rfl
noncomputable def tX(L:List ((Int×Int)×(Int×Int))):D:=match L[a2Q (mK<|L.map xR) (L.length-1)]? with|some x=>ND x|none=>.non
theorem YI{Q:jz}(g:μ[b]?=a7 (.lst<|L.map ND)):W (mM [.loc b,.non] μ) Q↔Q (tX L,μ):=by
 have:mM [.loc b,.non] μ=a7 (tX L,μ):=by
  simp only[mM,g,JI,ZY];cases L with
  |nil=>rfl|cons x L=>
   rw[if_neg<|by simp,ZF,ZU];unfold tX;have h:=JH (mK<|(x::L).map xR)<|(x::L).length-1;have:a2Q (mK<|(x::L).map xR) ((x::L).length-1)<(x::L).length:=by rw[Z8]at h ⊢;lia
   rw[ZT this];rfl
 rw[this];exact W_some
noncomputable def gU(c:Int×Int->Int×Int->Int×Int->Bool)(G:Gr):List ((Int×Int)×(Int×Int)):=G.flatMap λg=>iI (c g.1) g.2 g.2.length
section
variable(c:Int×Int->Int×Int->Int×Int->Bool)
theorem YJ G g:gU c (G++[g])=gU c G++iI (c g.1) g.2 g.2.length:=by unfold gU;rw[a2J,a8Y,a6q,a0p]
theorem JJ:∀G,(∀g∈G,g.2.length<=64)->(gU c G).length<=4096*G.length
 |[],_=>ZN _|g::G,h=>by have d:=JJ G λx b=>h x<|Z2 _ b;have e:=xQ (c g.1) g.2 g.2.length;have a:=h g<|a0l ..;have i:=a3n a a;show(iI (c g.1) g.2 g.2.length++gU c G).length<=_;rw[ZO,Z8];lia
end
theorem YK(h:W (m b μ) λp=>∃a kvs,p.1=.loc a/\p.2[a]?=a7 (.dT kvs)/\Q (cS<|.tup<|eK kvs,kvs.length+1,p.2.set a<|.dF kvs)):W (sL m b μ) Q:=by unfold sL;rw[W_bind];refine bG h λp ⟨a,kvs,e,g,q⟩=>?_;rw[e];dsimp only;rw[g];exact W_some.mpr q
theorem YL k(N:(w,h)∈c9)(wf:Wf w h F)(nd:(bU w h).Nodup){S:List ((Int×Int)×Str)}(d:Dr (bU w h) μ a b F row Z)(Q:jz)(H:∀j,μ<+:j->Q (tX<|gU (e8 F<|aL<|GZ Z)<|cZ (aX F)<|bB w h,j)):W (f (k+6) "crossing" [SH w h S,.loc a,.loc b] μ) Q:=by
 obtain⟨_,_,l1,_,_,u,upR,fr⟩:=eT _ N;replace l1:(bU w h).length<=48:=l1;replace u:(bB w h).length<=64:=u;have pf:=d.pl.flat nd;have B:Pil (bB w h) (aX F) (cZ (aX F)<|bB w h):=xJ;have sm:=wQ (aX F)<|bB w h;refine dR (Vu (k+5) _ _ _ μ) (bV<|bS rfl<|Ji (k+4) nd (by lia) d.hi d.hh d.pl _ λc l T g1=>bV<|w_mLst.mpr ⟨_,rfl,a0I _,iT<|w_mForI.mpr<|YK<|bS rfl<|Yz (k+2) a N wf d.hr nd (aG (T.trans<|aT _ _) d.hw) _ λm Y μ2 I E=>⟨m,_,rfl,I.dic,?_⟩⟩);have O:l.length<(l++[C.lst []]).length:=by simp
 have x:∀y∈Y,y.2.2≠m/\y.2.2≠l.length:=λy x=>⟨I.ne x,a2a<|a0e O (I.at_ y x).1⟩;have mm:m≠l.length:=a2a<|a0e O I.lo;have p2:l<+:μ2.set m (.dF<|aM Y):=fL ((aT _ _).trans I.pre) (a4l<|a0e O I.lo) _;rw[show(aM Y).length=(eK<|aM Y).length from(ZF ..).symm];refine G7 (x:=.tup (eK<|aM Y)) (xs:=eK (aM Y)) (λ_=>rfl) (λi r j=>∃U X,r=[a7<|SH w h S,a7<|.loc a,a7<|.loc b,a7<|.loc c,a7<|.loc l.length,U,X]/\l<+:j/\(∀y∈Y,j[y.2.2]?=a7 (.lst<|y.2.1.map PP))/\j[l.length]?=a7 (.lst<|(gU (e8 F<|aL<|GZ Z)<|(GZ Y).take i).map ND))
  ⟨b3,b3,rfl,p2,λy n=>by rw[ZP<|a0o (x y n).1];exact(I.at_ y n).2,by rw[ZP mm];exact aG I.pre<|bM _ _⟩ ?_ ?_
 .rintro i dd r j hd ⟨U,X,rfl,A,J,s⟩;obtain⟨y,p,rfl⟩:∃y,Y[i]?=a7 y/\dd=.tup [PP y.1,.loc y.2.2]:=by unfold eK aM at hd;rw[ZS,ZU]at hd;obtain⟨y,o,v⟩:=ZH.mp hd;exact⟨y,o,v.symm⟩
  have z:=Z1 p;have K:(y.1,y.2.1)∈cZ (aX F) (bB w h):=by rw[<- E];exact ZQ.mpr ⟨y,z,rfl⟩
  have he:∀e∈y.2.1,e∈bB w h/\aX F e=y.1:=λe M=>B.one K M;obtain⟨e0,h0⟩:=a4y _<|B.ne _ K;have rp:cB y.1.1 y.1.2=true:=by obtain⟨o,v⟩:=he e0 h0;rw[<- v];exact qT (wf.di _) (wf.lt _) (fr e0 o).1
  obtain⟨s0,s1,es,_,_⟩:=jP rp;have R:=sm.2 _ K;have lY:Y.length<=64:=by have:=congrArg a0F E;rw[iV]at this;have:=sm.1;lia
  have hil:=(ZG.mp p).1;have lt:(gU (e8 F<|aL<|GZ Z)<|(GZ Y).take i).length<=300000:=by
   have:=JJ (e8 F<|aL<|GZ Z) ((GZ Y).take i) λg L=>by have o:=a3i L;rw[E]at o;exact a0A (sm.2 g o) u
   rw[a0Q,iV]at this;lia
  have lp:(iI (e8 F (aL<|GZ Z) y.1) y.2.1 y.2.1.length).length<=5000:=by have o:=xQ (e8 F (aL<|GZ Z) y.1) y.2.1 y.2.1.length;have v:=a3n (a0A R u)<|a0A R u;dsimp only at v;lia
  refine⟨_,rfl,w_mDrop.mpr<|mU ⟨_,rfl,oR s,bJ<|bS rfl<|YH k N wf d.hr nd (pf.nodup_iff.mpr nd) (λq M=>pf.mem_iff.mpr M) (aG (T.trans A) d.hw) (aG A g1) es (J y z) (a0A R u) he _ λc' μ4 G g4=>⟨_,rfl,(Hb (aG G s) g4<|by rw[ZF,ZF,a0n];lia).mpr ⟨_,_,rfl,fL (A.trans G) (ZN _) _,λy' n=>?_,?_⟩⟩⟩⟩
  .rw[ZP<|a0o (x y' n).2];exact aG G<|J y' n
  .rw[eQ<|aG G s,xM p,YJ,Z7]
 .rintro r j ⟨U,X,rfl,A,J,s⟩;rw[eK,ZF,m4,a3H<|by rw[iV];exact ZN _,E]at s;exact⟨rfl,c6<|bS rfl<|(YI s).mpr<|H _<|T.trans A⟩
noncomputable def dA(c:List Bool):Bool:=c==[b5,b4,b5,b4]||c==[b4,b5,b4,b5]
theorem alt_iff:dA c=b5↔c=[b5,b4,b5,b4]\/c=[b4,b5,b4,b5]:=by unfold dA;rw[a2z,beq_iff_eq,beq_iff_eq]
theorem JK(h:dA c=b5):c.length=4:=by rcases alt_iff.mp h with e|e<;>rw[e]<;>rfl
theorem JM c:dA c.reverse=dA c:=by rw[a0X,alt_iff,alt_iff,a8p,a8p];exact or_comm
theorem Cq a b:dA (a++b)=dA (b++a):=by
 have h:∀a b:List Bool,dA (a++b)=b5->dA (b++a)=true:=λa b h=>by
  have k:∀c:List Bool,dA c=b5->∀n,n<5->dA (c.drop n++c.take n)=true:=λc hc=>by rcases alt_iff.mp hc with rfl|rfl<;>decide
  have l:=JK h;rw[ZO]at l;have:=k _ h a.length (by lia);rwa [List.drop_left,a9H]at this
 exact a0X.mpr ⟨h a b,h b a⟩
theorem YM c:dA (c.map not)=dA c:=by
 have h:∀c:List Bool,dA c=b5->dA (c.map not)=true:=λc hc=>by rcases alt_iff.mp hc with rfl|rfl<;>rfl
 refine a0X.mpr ⟨λk=>?_,h c⟩;have:=h _ k;rwa [ZS,show(not∘not)=id from funext a7E,a6w]at this
theorem Cr x{C:List Bool}(hA:∀b∈A,b=x)(hB:∀b∈B,b=!x)(hC:∀b∈C,b=x):dA (A++(B++C))=false:=by
 have k:∀x:Bool,∀a,a<5->∀b,b<5->∀c,c<5->dA (a0z a x++(a0z b (!x)++a0z c x))=false:=by decide +kernel
 refine a9a.mpr λh=>?_;have l:=JK h;rw[ZO,ZO]at l;rw[a2u.mpr ⟨rfl,hA⟩,a2u.mpr ⟨rfl,hB⟩,a2u.mpr ⟨rfl,hC⟩,k x _ (by lia) _ (by lia) _<|by lia]at h;cases h
noncomputable def cG(e a q:Int×Int):Option Bool:=if q=sA e\/q=sB e then a7 b5 else if q=sA a\/q=sB a then a7 b4 else b3
noncomputable def wd(e a:Int×Int)(P:jq):List Bool:=P.filterMap<|cG e a
theorem JN(h:cG e a q=a7 b5):q=sA e\/q=sB e:=by
 unfold cG at h;split at h
 .assumption
 .split at h<;>cases h
theorem JO(h:cG e a q=a7 b4):q=sA a\/q=sB a:=by
 unfold cG at h;split at h
 .cases h
 .split at h
  .assumption
  .cases h
theorem nH{P:jq}(h:∀q∈P,cG e a q≠a7 !x):∀b∈wd e a P,b=x:=λb d=>by obtain⟨q,g,c⟩:=a3y.mp d;have:=h q g;rw[c]at this;revert this;cases b<;>cases x<;>simp
theorem JP{P:jq}(h:∀q∈P,cG e a q=b3):wd e a P=[]:=List.filterMap_eq_nil_iff.mpr h
noncomputable def eC(G:Gr)(s t e a:Int×Int):Bool:=dA<|wd e a (aQ G s)++(wd e a<|aQ G t).reverse
theorem tY G s t e a:eC G s t e a=eC G t s e a:=by unfold eC;rw[<- JM,a2I,a1N]
noncomputable def lR{a:Type}(o:Bool)(X Y:List a):List a:=if o then X++Y else Y++X
theorem JQ o p:∀K S,(K.map (·.1)).Nodup->aQ (K.foldl (c4 o) S) p=lR o (aQ S p) (aQ K p)
 |[],S,_=>by
  rw[tH];unfold lR;cases o
  .rfl
  .exact(a0p _).symm
 |g::K,S,hk=>by
  rw[ZR,a1m]at hk;rw[a3W,JQ o p K _ hk.2,gT];unfold c4;rw[wR];by_cases e:p=g.1
  .rw[if_pos e,if_pos e.symm,e,m5 hk.1];unfold lR;cases o
   .rfl
   .exact a0p _
  .rw[if_neg e,if_neg λw=>e w.symm]
theorem YN(h:(G.map (·.1)).Nodup)(c:∀p,M (M p)=p)o p:
  aQ (j5 mv M o G) p=lR o (if mv p then[]else aQ G p) (if mv (M p)then(aQ G<|M p).reverse else[]):=by
 unfold j5;rw[JQ,BR,BS c];have e:(dY mv M G).map (·.1)=((G.filter λg=>mv g.1).map (·.1)).map M:=by unfold dY;rw[ZS,ZS];rfl
 rw[e];exact a3u _ (λa b d w=>d<|by rw[<- c a,w,c])<|(a1a.map _).nodup h
theorem JR(c:(G.map (·.1)).Nodup)(b:∀p,M (M p)=p)o e a p:
  wd e a (aQ (j5 mv M o G) p)=lR o (if mv p then[]else wd e a (aQ G p)) (if mv (M p)then(wd e a<|aQ G<|M p).reverse else[]):=by
 rw[YN c b];have h:∀X Y:jq,wd e a (lR o X Y)=lR o (wd e a X) (wd e a Y):=λX Y=>by cases o<;>exact a2t
 rw[h];congr 1
 .cases mv p<;>rfl
 .cases mv<|M p
  .rfl
  .exact a7B
theorem JS x o{c e:List Bool}(i:∀b∈a,b=x)(l:∀b∈d,b=x)(m:∀b∈c,b=!x)(n:∀b∈e,b=!x):dA (lR o a c.reverse++(lR o d e.reverse).reverse)=false:=by
 have r:∀{L:List Bool}{y:Bool},(∀b∈L,b=y)->∀b∈L.reverse,b=y:=λh b g=>h b<|a9m.mp g;have j:∀{L K:List Bool}{y:Bool},(∀b∈L,b=y)->(∀b∈K,b=y)->∀b∈L++K,b=y:=λh k b g=>(a0M.mp g).elim (h b)<|k b;cases o
 .show dA ((c.reverse++a)++(e.reverse++d).reverse)=b4;rw[a2I,a1N,a0R,<- a0R a];exact Cr (!x) (r m) (by rw[a7E];exact j i<|r l) n
 .show dA ((a++c.reverse)++(d++e.reverse).reverse)=b4;rw[a2I,a1N,a0R,<- a0R c.reverse];exact Cr x i (j (r m) n)<|r l
theorem xS(e:0<=u/\u<4)(d:n%4=0)(b:bW s=b5):aV u n a (aE (aZ u n) s)=!aV u n a s:=by
 have h:decide (n<cA u (aE (aZ u n) s))=!decide (n<cA u s):=by
  rw[Cj]at b;rw[Jd,a0X,a3I,decide_eq_true_iff,decide_eq_false_iff_not];unfold cA;obtain⟨x,y⟩:=s;dsimp only at b ⊢;have c:u=0\/u=1\/u=2\/u=3:=by lia
  rcases c with rfl|rfl|rfl|rfl
  .show n<2*n-y↔¬ n<y;lia
  .show n<2*n-x↔¬ n<x;lia
  .show n<y+n-(x-n)↔¬ n<x-y;lia
  .show n<n-y+(n-x)↔¬ n<x+y;lia
 unfold aV;rw[h];cases decide (n<cA u s)<;>cases a<;>rfl
theorem YO(k:0<=u/\u<4)(j:n%4=0)(i:cB p.1 p.2=b5)(hd:aV u n a (sA p)≠aV u n a (sB p)):u=qU p/\n=cA (qU p) p:=by
 have h:¬ (n<cA u (sA p)↔n<cA u (sB p)):=λe=>hd (by unfold aV;rw[decide_eq_decide.mpr e]);clear hd;obtain⟨x,y⟩:=p;revert h;have c:u=0\/u=1\/u=2\/u=3:=by lia
 unfold sA sB qU;rcases oX i with⟨b,d⟩|⟨b,d,g⟩|⟨b,d,g⟩<;>dsimp only at b d ⊢
 .by_cases g:x%4=y%4
  .simp only[if_pos b,if_pos g];rcases c with rfl|rfl|rfl|rfl<;>unfold cA<;>simp<;>lia
  .simp only[if_pos b,if_neg g];rcases c with rfl|rfl|rfl|rfl<;>unfold cA<;>simp<;>lia
 .simp only[if_neg<|show ¬ x%2=1 by lia,if_pos d];rcases c with rfl|rfl|rfl|rfl<;>unfold cA<;>simp<;>lia
 .simp only[if_neg<|show ¬ x%2=1 by lia,if_neg<|show ¬ y%4=0 by lia];rcases c with rfl|rfl|rfl|rfl<;>unfold cA<;>simp<;>lia
theorem Ct(h:0<=u/\u<4)(g:n%4=0)(b:cB p.1 p.2=b5)(hd:aV u n a (sA p)≠aV u n a (sB p)):aE (aZ u n) p=p/\aE (aZ u n) (sA p)=sB p/\aE (aZ u n) (sB p)=sA p:=by
 obtain⟨c,d⟩:=YO h g b hd;have e:aZ u n=eN p:=by rw[c,d];exact Yu b
 rw[e,mW,mW,mW];exact⟨Jt b,Cg b⟩
theorem Cu(b:cB p.1 p.2=b5)(h:q∈fM p):q=sA p\/q=sB p:=by
 obtain⟨s,t,e,_,a⟩:=jP b;rw[e]at h;have:q=s\/q=t:=by simpa using h
 rcases a with⟨rfl,rfl⟩|⟨rfl,rfl⟩
 .exact this
 .exact this.symm
theorem xT(b:cB p.1 p.2=b5)(h:q=sA p\/q=sB p):q∈fM p:=by obtain⟨s,t,e,_,a⟩:=jP b;rw[e];rcases a with⟨rfl,rfl⟩|⟨rfl,rfl⟩<;>rcases h with rfl|rfl<;>simp
theorem JT(a:cB p.1 p.2=b5)(h:q=sA p\/q=sB p):bW q=true:=(a0s.mp<|xT a h).2
theorem Cv(hA:Dih A)(b:A.e%4=0/\A.g%4=0)(a:cB e.1 e.2=b5)(c:q=sA e\/q=sB e):aE A q=sA (aE A e)\/aE A q=sB (aE A e):=Cu (qT hA b a)<|xP hA b<|xT a c
noncomputable def JL(F:Int×Int->Ly):Prop:=(∀q,Dih (F q))/\(∀q,(F q).e%4=0/\(F q).g%4=0)/\∀e,cB e.1 e.2=b5->F (sA e)=F (sB e)\/F (sA e)=cE (eN e) (F<|sB e)
theorem YQ:JL λ_=>c7:=⟨λ_=>HC,λ_=>⟨rfl,rfl⟩,λ_ _=>.inl rfl⟩
theorem JU(h:x≠y):(x=b5/\y=b4)\/(x=b4/\y=b5):=by cases x<;>cases y<;>simp at h ⊢
theorem YR F u n a(m:0<=u/\u<4)(k:n%4=0)(h:JL F):JL (bY u n a F):=by
 obtain⟨c,j,p⟩:=h;refine⟨Ig c,λq=>?_,λe b=>?_⟩
 .unfold bY;split
  .exact Jq u k<|j q
  .exact j q
 .unfold bY;rcases p e b with i|i
  .have s:=Cv (c<|sB e) (j<|sB e) b<|.inl rfl;have lt:=Cv (c<|sB e) (j<|sB e) b<|.inr rfl;have o:=qT (c<|sB e) (j<|sB e) b;have ne:=Cp (c<|sB e)<|iX b;rw[i];by_cases d:aV u n a (aE (F<|sB e)<|sA e)=aV u n a (aE (F<|sB e)<|sB e)
   .rw[d];exact .inl rfl
   .have l:aE (aZ u n) (aE (F<|sB e)<|sA e)=aE (F<|sB e) (sB e)/\aE (aZ u n) (aE (F<|sB e)<|sB e)=aE (F<|sB e) (sA e):=by
     rcases s with g|g<;>rcases lt with e2|e2
     .exact absurd (g.trans e2.symm) ne
     .rw[g,e2]at d ⊢;exact(Ct m k o d).2
     .rw[g,e2]at d ⊢;exact(Ct m k o<|a0o d).2.symm
     .exact absurd (g.trans e2.symm) ne
    obtain⟨v,w⟩:=Cg b;have X:cE (F<|sB e) (aZ u n)=cE (eN e) (F<|sB e):=by
     refine Yd (BN (c _)<|tG u n) (BN (Hz e)<|c _) ?_ (iX b) ?_ ?_
     .rw[BK,BK,Yb,HA,Int.mul_comm]
     .rw[lK,lK,mW,v,l.1]
     .rw[lK,lK,mW,w,l.2]
    refine .inr ?_;rcases JU d with⟨x,y⟩|⟨x,y⟩<;>rw[x,y]
    .exact X
    .show F (sB e)=cE (eN e) (cE (F<|sB e)<|aZ u n);rw[<- BL,<- X,BL,Ye,Wc]
  .have r:=EdF.pos b i;refine .inr ?_;rw[r];split
   .rw[<- BL,<- i]
   .exact i
theorem JL.wf(b:(w,h)∈c9)(J:JL F):Wf w h F:=⟨J.1,J.2.1,λe a=>J.2.2 e ((eT _ b).2.2.2.2.2.2.2 e a).1⟩
theorem qX(b:(w,h)∈c9)(wf:Wf w h F)(a:e∈bB w h):cB (aX F e).1 (aX F e).2=true:=qT (wf.di _) (wf.lt _) ((eT _ b).2.2.2.2.2.2.2 e a).1
theorem nI(d:(w,h)∈c9)(wf:Wf w h F)(a:e∈bB w h)(b:q=sA e\/q=sB e):aE (F q) q=sA (aX F e)\/aE (F q) q=sB (aX F e):=by
 have c:=((eT _ d).2.2.2.2.2.2.2 e a).1;have g:aE (F q) e=aX F e:=by
  rcases b with rfl|rfl
  .rfl
  .exact tV c<|wf.ed e a
 have:=Cv (wf.di q) (wf.lt q) c b;rwa [g]at this
noncomputable def NC(w h:Int)(F:Int×Int->Ly)(G:Gr):Prop:=∀e∈bB w h,∀a∈bB w h,aX F e=aX F a->eC G (sA<|aX F e) (sB<|aX F e) e a=b4
theorem JV u n a e:aX (bY u n a F) e=if aV u n a (aE (F<|sA e)<|sA e)then aE (aZ u n) (aX F e)else aX F e:=by
 unfold aX bY;split
 .exact lK _ _ _
 .rfl
theorem YS(U:(w,h)∈c9)(wf:Wf w h F)(P:Pil (bU w h) (λq=>aE (F q) q) G)(N:0<=u/\u<4)(K:n%4=0)(nc:NC w h F G):NC w h (bY u n a F) (j5 (aV u n a) (aE<|aZ u n) o G):=by
 intro e v j m ep
 have J:=BQ u n
 have Z:Dih (aZ u n):=tG u n
  -- where both lay ahead
 have T:∀x∈bB w h,aX F x=aX (bY u n a F) x\/aX F x=aE (aZ u n) (aX (bY u n a F) x):=λx _=>by
  rw[JV]
  split
  .exact .inr (J _).symm
  .exact .inl rfl
 have r:=T e v
 have d:=T j m
 rw[<- ep]at d
 have lt:(aZ u n).e%4=0/\(aZ u n).g%4=0:=by
  have:=Jq u K (A:=c7) ⟨rfl,rfl⟩
  rwa [HB]at this
 have rM:∀{x:Int×Int},cB x.1 x.2=b5->cB (aE (aZ u n) x).1 (aE (aZ u n) x).2=true:=λh=>qT Z lt h
 have H:cB (aX (bY u n a F) e).1 (aX (bY u n a F) e).2=true:=by
  rw[JV]
  split
  .exact rM<|qX U wf v
  .exact qX U wf v
 generalize aX (bY u n a F) e=p at r d H
 have q0:=JT H<|.inl rfl
 have q1:=JT H<|.inr rfl
 have pm:∀{s q:Int×Int},q∈aQ G s->aE (F q) q=s:=λ{s q} g=>of_decide_eq_true (a0s.mp<|(P.pm s).mem_iff.mp g).2
 unfold eC
 rw[JR P.kd J,JR P.kd J,xS N K q0,xS N K q1]
 by_cases hd:aV u n a (sA p)=aV u n a (sB p)
 .cases A:aV u n a (sA p)with
  |true=>
   rw[<- hd,A]
   cases o<;>rfl
  |false=>
   rw[<- hd,A]
   simp only[a2r,if_true,Z5,if_false]
      -- what nI at p,what nI at its mirror
   have X:aV u n a (aE (aZ u n)<|sA p)=true:=by rw[xS N K q0,A];rfl
   have Y:aV u n a (aE (aZ u n)<|sB p)=true:=by rw[xS N K q1,<- hd,A];rfl
   have sM:∀{q:Int×Int},q=sA (aE (aZ u n) p)\/q=sB (aE (aZ u n) p)->q=aE (aZ u n) (sA p)\/q=aE (aZ u n) (sB p):=λ{q} g=>by
    have:=xP Z lt<|xT (rM H) g
    rw[J]at this
    rcases Cu H this with e|e
    .exact .inl<|by rw[<- e,J]
    .exact .inr<|by rw[<- e,J]
   have st:∀{x q s:Int×Int},x∈bB w h->(q=sA x\/q=sB x)->aX F x=p->aE (F q) q=s->aV u n a s=false:=λO g B e2=>by
    have:=nI U wf O g
    rw[B,e2]at this
    rcases this with e|e
    .rw[e,A]
    .rw[e,<- hd,A]
   have M:∀{x q s:Int×Int},x∈bB w h->(q=sA x\/q=sB x)->aX F x=aE (aZ u n) p->aE (F q) q=s->aV u n a s=true:=λO g B e2=>by
    have:=nI U wf O g
    rw[B,e2]at this
    rcases sM this with e|e
    .rw[e,X]
    .rw[e,Y]
   have E:∀{s:Int×Int}{b:Bool},aV u n a s=b->∀{x:Int×Int},(∀{q:Int×Int},(q=sA x\/q=sB x)->aE (F q) q=s->aV u n a s=!b)->∀q∈aQ G s,¬ (q=sA x\/q=sB x):=λ{s b} hb x k q g O=>by
    have:=k O<|pm g
    rw[hb]at this
    cases b<;>cases this
   have R:∀{q:Int×Int},¬ (q=sA e\/q=sB e)->cG e j q≠a7 true:=λh k=>h<|JN k
   have Q:∀{q:Int×Int},¬ (q=sA j\/q=sB j)->cG e j q≠a7 false:=λh k=>h<|JO k
   have nn:∀{q:Int×Int},¬ (q=sA e\/q=sB e)->¬ (q=sA j\/q=sB j)->cG e j q=none:=λi l=>by
    unfold cG
    rw[if_neg i,if_neg l]
   have I:aV u n a (sB p)=false:=by rw[<- hd,A]
   rcases r with r|r<;>rcases d with d|d
   ·-- both stay
    have z:∀{s:Int×Int},aV u n a s=b5->wd e j (aQ G s)=[]:=λc=>JP λq g=>nn (E c (λi l=>st v i r l) q g)<|E c (λi l=>st m i d l) q g
    rw[z X,z Y]
    have:=nc e v j m<|by rw[r,d]
    rw[r]at this
    unfold eC at this
    cases o
    .exact this
    .show dA ((_++[])++(_++[]).reverse)=b4
     rw[a0p,a0p]
     exact this
   ·-- the one stays,the other goes
    have c0:∀{s:Int×Int},aV u n a s=b4->∀b∈wd e j (aQ G s),b=true:=λc=>nH λq g=>Q<|E c (λi l=>M m i d l) q g
    have c1:∀{s:Int×Int},aV u n a s=b5->∀b∈wd e j (aQ G s),b=false:=λc=>nH λq g=>R<|E c (λi l=>st v i r l) q g
    exact JS b5 o (c0 A) (c0 I) (c1 X)<|c1 Y
   .have c0:∀{s:Int×Int},aV u n a s=b4->∀b∈wd e j (aQ G s),b=false:=λc=>nH λq g=>R<|E c (λi l=>M v i r l) q g
    have c1:∀{s:Int×Int},aV u n a s=b5->∀b∈wd e j (aQ G s),b=true:=λc=>nH λq g=>Q<|E c (λi l=>st m i d l) q g
    exact JS b4 o (c0 A) (c0 I) (c1 X)<|c1 Y
   ·-- both M
    have z:∀{s:Int×Int},aV u n a s=b4->wd e j (aQ G s)=[]:=λc=>JP λq g=>nn (E c (λi l=>M v i r l) q g)<|E c (λi l=>M m i d l) q g
    rw[z A,z I]
    have:=nc e v j m<|by rw[r,d]
    rw[r]at this
    have k:eC G (aE (aZ u n)<|sA p) (aE (aZ u n)<|sB p) e j=false:=by
     have n2:=Cp Z<|iX H
     have h0:=sM<|.inl rfl
     have i:=sM<|.inr rfl
     have n3:=iX<|rM H
     rcases h0 with L|L<;>rcases i with B|B
     .exact absurd (L.trans B.symm) n3
     .rwa [L,B]at this
     .rw[L,B]at this
      rwa [tY]
     .exact absurd (L.trans B.symm) n3
    unfold eC at k
    rw[<- JM,a2I,a1N,Cq]at k
    cases o
    .show dA ((_++[])++(_++[]).reverse)=b4
     rw[a0p,a0p,a1N]
     exact k
    .show dA (([]++a2R _)++a2R ([]++a2R _))=b4
     rw[a1n,a1n,a1N]
     exact k
 .obtain⟨f1,f2,f3⟩:=Ct N K H hd
  rw[f1,or_self]at r d
  have:=nc e v j m<|by rw[r,d]
  rw[r]at this
  unfold eC at this
  rw[f2,f3]
  rcases JU hd with⟨x,y⟩|⟨x,y⟩<;>rw[x,y]
  .cases o
   .show dA ([]++(a2R _++_).reverse)=b4
    rw[a1n,a2I,a1N,Cq]
    exact this
   .show dA ([]++(_++a2R _).reverse)=b4
    rw[a1n,a2I,a1N]
    exact this
  .cases o
   .show dA ((a2R _++_)++a2R ([]++[]))=b4
    rw[a0p,a9k,a0p,Cq]
    exact this
   .show dA ((_++a2R _)++a2R ([]++[]))=b4
    rw[a0p,a9k,a0p]
    exact this
theorem Cw{a c:Type}{f:a->Option c}{b:c}:∀{L:List a},(∀q∈L,f q=a7 b)->L.filterMap f=a0z L.length b
 |[],_=>rfl|x::L,h=>by rw[a2E<|h x<|a0l ..,Cw λq d=>h q<|Z2 _ d];rfl
theorem YT(nd:qs.Nodup)(P:Pil qs g G)s:(aQ G s).Pairwise λx y=>aL G x<aL G y:=by
 by_cases b:s∈G.map (·.1)
 .obtain⟨x,a,rfl⟩:=ZQ.mp b;rw[gD P.kd a,a3t];intro i j hi c d;rw[tS nd P a<|ZT hi,tS nd P a<|ZT c];lia
 .rw[m5 b];exact .nil
theorem JW{P:jq}(k:a∈P)(l:b∈P)(j:a≠b):∃x y d e g,P=d++x::(e++y::g)/\((x=a/\y=b)\/(x=b/\y=a)):=by
 obtain⟨L,R,rfl⟩:=a5M k;rcases a0M.mp l with h|h
 .obtain⟨c,L2,rfl⟩:=a5M h;exact⟨b,a,c,L2,R,by rw[a0R];rfl,.inr ⟨rfl,rfl⟩⟩
 .obtain⟨i,R2,rfl⟩:=a5M<|(a0g.mp h).resolve_left<|a0o j;exact⟨a,b,L,i,R2,rfl,.inl ⟨rfl,rfl⟩⟩
section
variable{w h:Int}{F:Int×Int->Ly}{e e':Int×Int}
theorem qY(c:(w,h)∈c9)(b:e∈bB w h):q∈aY F e s↔(q=sA e\/q=sB e)/\aE (F q) q=s:=by have a:=((eT _ c).2.2.2.2.2.2.2 e b).1;unfold aY;rw[a0s,decide_eq_true_iff];exact⟨λz=>⟨Cu a z.1,z.2⟩,λz=>⟨xT a z.1,z.2⟩⟩
theorem JX(c:(w,h)∈c9)(a:e∈bB w h)(b:q=sA e\/q=sB e):q∈bU w h:=by
 obtain⟨_,d,g,_⟩:=(eT _ c).2.2.2.2.2.2.2 e a;rcases b with rfl|rfl
 .exact d
 .exact g
theorem Cy(j:(w,h)∈c9)(wf:Wf w h F)(g:e∈bB w h)(a:e'∈bB w h)(ne:e≠e')(sp:aX F e=aX F e')(i:q=sA e\/q=sB e)(b:q=sA e'\/q=sB e'):False:=by
 have k:∀{x:Int×Int},x∈bB w h->(q=sA x\/q=sB x)->aE (F q) x=aX F x:=λ{x} c d=>by
  rcases d with rfl|rfl
  .rfl
  .exact tV ((eT _ j).2.2.2.2.2.2.2 x c).1<|wf.ed x c
 exact Cp (wf.di q) ne<|by rw[k g i,k a b,sp]
theorem tZ(c:(w,h)∈c9)(b:e∈bB w h)s:(aY F e s).Nodup:=by obtain⟨x,y,a,d,_⟩:=jP ((eT _ c).2.2.2.2.2.2.2 e b).1;unfold aY;rw[a];exact a1a.nodup<|by simpa using d
variable{G:Gr}
structure Pr(F:Int×Int->Ly)(G:Gr)(e e' s:Int×Int):Prop where
 pm:((aQ G s).filter λq=>(cG e e' q).isSome).Perm<|aY F e s++aY F e' s
 t:∀q∈aY F e s,cG e e' q=a7 b5
 f:∀q∈aY F e' s,cG e e' q=a7 b4
 pw:(aQ G s).Pairwise λx y=>aL G x<aL G y
 mt:∀{q},q∈aQ G s->cG e e' q=a7 b5->q∈aY F e s
 mf:∀{q},q∈aQ G s->cG e e' q=a7 b4->q∈aY F e' s
 mem:∀{q},q∈aY F e s\/q∈aY F e' s->q∈aQ G s
 nd:(aY F e' s).Nodup
theorem Pr.of(g:(w,h)∈c9)(wf:Wf w h F)(nd:(bU w h).Nodup)(P:Pil (bU w h) (λq=>aE (F q) q) G)(j:e∈bB w h)(c:e'∈bB w h)(ne:e≠e')(sp:aX F e=aX F e')s:Pr F G e e' s:=by
 have l:∀{q:Int×Int},q∈aQ G s↔q∈bU w h/\aE (F q) q=s:=λ{q}=>by rw[(P.pm s).mem_iff,a0s,decide_eq_true_iff]
 have t:∀q∈aY F e s,cG e e' q=a7 true:=λq d=>by unfold cG;rw[if_pos ((qY g j).mp d).1]
 have f:∀q∈aY F e' s,cG e e' q=a7 false:=λq d=>by have a:=((qY g c).mp d).1;unfold cG;rw[if_neg λz=>Cy g wf j c ne sp z a,if_pos a]
 have o:∀{q:Int×Int},q∈aQ G s->cG e e' q=a7 b5->q∈aY F e s:=λd a=>(qY g j).mpr ⟨JN a,(l.mp d).2⟩;have n:∀{q:Int×Int},q∈aQ G s->cG e e' q=a7 b4->q∈aY F e' s:=λd a=>(qY g c).mpr ⟨JO a,(l.mp d).2⟩;have m:∀{q:Int×Int},q∈aY F e s\/q∈aY F e' s->q∈aQ G s:=λd=>l.mpr<|by
  rcases d with d|d
  .obtain⟨a,i⟩:=(qY g j).mp d;exact⟨JX g j a,i⟩
  .obtain⟨a,i⟩:=(qY g c).mp d;exact⟨JX g c a,i⟩
 refine⟨(a3h (a1a.nodup<|(P.pm s).nodup_iff.mpr<|a1a.nodup nd) ?_).mpr λq=>?_,t,f,YT nd P s,o,n,m,tZ g c s⟩
 .rw[a2e];exact⟨tZ g j s,tZ g c s,λx r y u p=>by
   subst p;have:=(t x r).symm.trans<|f x u;cases this⟩
 .rw[a0s,a0M];constructor
  .rintro⟨a,i⟩;cases k:cG e e' q with
   |none=>rw[k]at i;cases i|some b=>
    cases b
    .exact .inr<|n a k
    .exact .inl<|o a k
  .intro a;refine⟨m a,?_⟩;rcases a with a|a
   .rw[t q a];rfl
   .rw[f q a];rfl
theorem Pr.word(p:Pr F G e e' s):(wd e e'<|aQ G s).Perm (a0z (aY F e s).length b5++a0z (aY F e' s).length b4):=by
 have a:wd e e' (aQ G s)=((aQ G s).filter λq=>(cG e e' q).isSome).filterMap (cG e e'):=by unfold wd;rw[List.filterMap_filter];exact congrArg (λg=>a6T g<|aQ G s)<|funext λq=>by cases cG e e' q<;>rfl
 rw[a];refine(p.pm.filterMap _).trans ?_;rw[a2t,Cw p.t,Cw p.f]
theorem Pr.len(p:Pr F G e e' s):(wd e e'<|aQ G s).length=(aY F e s).length+(aY F e' s).length:=by rw[p.word.length_eq,ZO,a1w,a1w]
theorem Pr.btw(p:Pr F G e e' s)(R:a≠b)(h:aY F e s=[a,b]):∃i j k,wd e e' (aQ G s)=a0z i b4++b5::(a0z j b4++b5::a0z k b4)/\lQ (aL G) a b (aY F e' s)=j:=by
 have H:a∈aY F e s:=by rw[h];simp
 have I:b∈aY F e s:=by rw[h];simp
 obtain⟨x,y,m,g,n,l,K⟩:=JW (p.mem<|.inl H) (p.mem<|.inl I) R;have O:=p.pw;rw[l]at O;obtain⟨_,w2,Q⟩:=a5q.mp O;obtain⟨J,w5⟩:=a2T.mp w2;obtain⟨w6,w7,w8⟩:=a5q.mp w5;obtain⟨w9,_⟩:=a2T.mp w7;have L:cG e e' x=a7 b5/\cG e e' y=a7 true:=by
  rcases K with⟨rfl,rfl⟩|⟨rfl,rfl⟩
  .exact⟨p.t _ H,p.t _ I⟩
  .exact⟨p.t _ I,p.t _ H⟩
 have u:∀q,q∈aQ G s->q≠x->q≠y->cG e e' q≠a7 true:=λq c M N k=>by
  have:=p.mt c k;rw[h]at this;have:q=a\/q=b:=by simpa using this
  rcases K with⟨rfl,rfl⟩|⟨rfl,rfl⟩
  .exact this.elim M N
  .exact this.elim N M
 have ne:∀{q z:Int×Int},aL G q<aL G z->q≠z:=λh e=>by rw[e]at h;lia
 have U:∀q∈m,q∈aQ G s:=λq c=>by rw[l];exact a3U _ c
 have A:∀q∈g,q∈aQ G s:=λq c=>by rw[l];simp[c]
 have X:∀q∈n,q∈aQ G s:=λq c=>by rw[l];simp[c]
 have B:∀q∈m,aL G q<aL G x/\aL G q<aL G y:=λq c=>⟨Q q c x<|by simp,Q q c y<|by simp⟩;have o:∀q∈g,aL G x<aL G q/\aL G q<aL G y:=λq c=>⟨J q<|by simp[c],w8 q c y<|by simp⟩;have E:∀q∈n,aL G x<aL G q/\aL G y<aL G q:=λq c=>⟨J q<|by simp[c],w9 q c⟩;have Z:wd e e' m=a0z (wd e e' m).length false:=a2u.mpr ⟨rfl,nH λq c=>u q (U q c) (ne (B q c).1)<|ne (B q c).2⟩;have r2:wd e e' g=a0z (wd e e' g).length false:=a2u.mpr ⟨rfl,nH λq c=>u q (A q c) (a0o<|ne (o q c).1)<|ne (o q c).2⟩;have r3:wd e e' n=a0z (wd e e' n).length false:=a2u.mpr ⟨rfl,nH λq c=>u q (X q c) (a0o<|ne (E q c).1)<|a0o<|ne (E q c).2⟩;refine⟨(wd e e' m).length,(wd e e' g).length,(wd e e' n).length,?_,?_⟩
 .rw[l];show a6T _ _=_;rw[a2t,a2E L.1,a2t,a2E L.2];rw[<- Z,<- r2,<- r3];rfl
 .show lQ _ a b _=(g.filterMap<|cG e e').length;rw[List.length_filterMap_eq_countP,a6z];have Y:g.Nodup:=w6.imp λh=>ne h;refine((a3h (a1a.nodup p.nd)<|a1a.nodup Y).mpr λq=>?_).length_eq;have T:(decide (min (aL G a) (aL G b)<aL G q)&&decide (aL G q<max (aL G a) (aL G b)))=b5↔aL G x<aL G q/\aL G q<aL G y:=by have:=J y (by simp);rw[ZL,decide_eq_true_iff,decide_eq_true_iff];rcases K with⟨rfl,rfl⟩|⟨rfl,rfl⟩<;>lia
  rw[a0s,a0s,T];constructor
  .rintro⟨d,v,r⟩;refine⟨?_,by rw[p.f q d];rfl⟩;have:=p.mem<|.inr d;rw[l]at this;simp only[a0M,a0g]at this;rcases this with z|rfl|z|rfl|z
   .have:=B q z;lia
   .lia
   .exact z
   .lia
   .have:=E q z;lia
  .rintro⟨d,v⟩;refine⟨?_,o q d⟩;cases r:cG e e' q with
   |none=>rw[r]at v;cases v|some b=>
    cases b
    .exact p.mf (A q d) r
    .exact absurd r<|u q (A q d) (a0o<|ne (o q d).1)<|ne (o q d).2
theorem Pr.two(p:Pr F G e e' s)(h:aY F e s=[a])(h':aY F e' s=[c]):wd e e' (aQ G s)=if aL G a>aL G c then[b4,b5]else[b5,b4]:=by
 have i:a∈aY F e s:=by rw[h];simp
 have j:c∈aY F e' s:=by rw[h'];simp
 have b:=p.t a i;have g:=p.f c j;have q:a≠c:=λz=>by rw[z,g]at b;cases b
 obtain⟨x,y,m,n,o,d,H⟩:=JW (p.mem<|.inl i) (p.mem<|.inr j) q;have k:=p.pw;rw[d]at k;have lt:=(a2T.mp (a5q.mp k).2.1).1 y (by simp);have l:=p.len;rw[h,h',d]at l;rw[d];have E:∃u v,cG e e' x=a7 u/\cG e e' y=a7 v/\[u,v]=if aL G a>aL G c then[b4,b5]else[b5,b4]:=by
  rcases H with⟨rfl,rfl⟩|⟨rfl,rfl⟩
  .exact⟨_,_,b,g,by rw[if_neg<|by lia]⟩
  .exact⟨_,_,g,b,by rw[if_pos lt]⟩
 obtain⟨u,v,A,B,r⟩:=E;rw[<- r];unfold wd at l ⊢;rw[a2t,a2E A,a2t,a2E B]at l ⊢;simp only[ZO,Z8,a3x]at l;rw[a3V (l:=m.filterMap (cG e e'))<|by lia,a3V (l:=n.filterMap (cG e e'))<|by lia,a3V (l:=o.filterMap (cG e e'))<|by lia];rfl
end
theorem YU(h:(q=sA e\/q=sB e)->(q=sA a\/q=sB a)->False):cG a e q=(cG e a q).map not:=by
 unfold cG;by_cases b:q=sA e\/q=sB e
 .rw[if_pos b,if_pos b,if_neg<|h b];rfl
 .rw[if_neg b,if_neg b];by_cases c:q=sA a\/q=sB a
  .rw[if_pos c,if_pos c];rfl
  .rw[if_neg c,if_neg c];rfl
theorem Cz(h:∀q,(q=sA e\/q=sB e)->(q=sA a\/q=sB a)->False)G s t:eC G s t a e=eC G s t e a:=by
 have k:∀P,wd a e P=(wd e a P).map not:=λP=>by unfold wd;rw[List.map_filterMap];exact congrArg (λg=>a6T g P)<|funext λq=>YU<|h q
 unfold eC;rw[k,k,<- a6p,<- Z7,YM]
theorem YV:∀i,i<3->∀j,j<3->∀k,k<3->∀m,m<3->i+j+k+m=2->dA ((a0z i b4++b5::(a0z j b4++b5::a0z k b4))++a0z m b4)=(j==1):=by decide +kernel
theorem qZ(p:Pr F G e e' s)(q:Pr F G e e' t)(m:a≠b)(d:aY F e s=[a,b])(o:aY F e t=[])(u:(aY F e' s).length+(aY F e' t).length=2):(lQ (aL G) a b (aY F e' s)==1)=eC G s t e e':=by obtain⟨i,j,k,c,n⟩:=p.btw m d;have g:=q.word;rw[o]at g;have r:wd e e' (aQ G t)=a0z (aY F e' t).length false:=List.perm_replicate.mp g;have l:=p.len;rw[d,c]at l;simp only[ZO,Z8,a1w,a3x]at l;unfold eC;rw[c,r,List.reverse_replicate,YV i (by lia) j (by lia) k (by lia) _ (by lia)<|by lia,n]
theorem Sh.sum(s:Sh A B):A.length+B.length=2:=by cases s<;>rfl
theorem Sh.sw(s:Sh A B):Sh B A:=by cases s<;>constructor
theorem YW(p:Pr F G e e' s)(k:Pr F G e e' t)(q:Pr F G e' e s)(o:Pr F G e' e t)(l:Sh (aY F e s) (aY F e t))(g:Sh (aY F e' s) (aY F e' t))(n:(aY F e s).Nodup/\(aY F e t).Nodup)(m:∀q,(q=sA e\/q=sB e)->(q=sA e'\/q=sB e')->False):
  nG (aL G) (aY F e s) (aY F e t) (aY F e' s) (aY F e' t)=eC G s t e e':=by
 have j:∀{a b:Int×Int},[a,b].Nodup->a≠b:=λh=>by simpa using h
 generalize hA:aY F e s=A0 at l n;generalize hB:aY F e t=A1 at l n;cases l with
 |c0 a b=>exact qZ p k (j n.1) hA hB g.sum|c1 a b=>rw[YF (aL G) (.c0 a b) g.sw,tY];exact qZ k p (j n.2) hB hA (by rw[a7R];exact g.sum)|s a b=>
  have r:=p.nd;have i:=k.nd;generalize hC:aY F e' s=B0 at g r;generalize hE:aY F e' t=B1 at g i;cases g with
  |c0 c d=>have:=qZ q o (j r) hC hE (by rw[hA,hB];rfl);rw[Cz m,hA]at this;exact this|c1 c d=>have:=qZ o q (j i) hE hC (by rw[hA,hB];rfl);rw[Cz m,hB,tY]at this;exact this|s c d=>unfold eC;rw[p.two hA hC,k.two hB hE];show(decide (aL G a>aL G c) != decide (aL G b>aL G d))=_;by_cases u:aL G a>aL G c<;>by_cases v:aL G b>aL G d<;>simp only[u,v,if_true,if_false,decide_true,decide_false]<;>rfl
theorem YX(b:(w,h)∈c9)(wf:Wf w h F)(nd:(bU w h).Nodup)(P:Pil (bU w h) (λq=>aE (F q) q) G)(c:e∈bB w h)(a:e'∈bB w h)(ne:e≠e')(sp:aX F e=aX F e'):e8 F (aL G) (aX F e) e e'=eC G (sA<|aX F e) (sB<|aX F e) e e':=by
 obtain⟨x,y,g,_,d⟩:=jP<|qX b wf c;unfold e8;rw[g];have:=YW (Pr.of b wf nd P c a ne sp x) (Pr.of b wf nd P c a ne sp y) (Pr.of b wf nd P a c (a0o ne) sp.symm x) (Pr.of b wf nd P a c (a0o ne) sp.symm y) (tW b wf c g).1 (tW b wf a<|by rw[<- sp];exact g).1 ⟨tZ b c x,tZ b c y⟩ λq=>Cy b wf c a ne sp;dsimp only;rw[this];rcases d with⟨rfl,rfl⟩|⟨rfl,rfl⟩
 .rfl
 .exact tY _ _ _ _ _
noncomputable def CA(G:Gr)(p e a:Int×Int):Bool:=eC G (sA p) (sB p) e a
theorem YY{a:jq}(nd:a.Nodup)(g:a[k]?=a7 e)(i:x∈a.drop (k+1)):e≠x:=λz=>by obtain⟨h,c⟩:=ZG.mp g;obtain⟨j,d,b⟩:=a5r.mp i;rw[a3r]at d;rw[List.getElem_drop]at b;exact a3t.mp nd k (k+1+j) h (by lia) (by lia)<|by rw[c,b,z]
theorem YZ(nd:a.Nodup)(h:∀e∈a,∀x∈a,e≠x->c e x=c' e x):iI c a a.length=iI c' a a.length:=by unfold iI;rw[a4O,a4O];refine congrArg _<|a0q λk b=>?_;have b:=a1J.mp b;have d:a[k]?=a7 a[k]:=ZT b;rw[a1S,d];unfold j8;exact congrArg _<|a8Z λx g=>h _ (a2L b) x (a8f g)<|YY nd d g
theorem Y2(n:(w,h)∈c9)(k:∀e∈bB w h,∀x∈bB w h,e≠x->aX F e=aX F x->c (aX F e) e x=c' (aX F e) e x):gU c (cZ (aX F)<|bB w h)=gU c' (cZ (aX F)<|bB w h):=by have a:Pil (bB w h) (aX F) (cZ (aX F)<|bB w h):=xJ;have p:(bB w h).Nodup:=Cm<|xI (eT _ n).2.2.2.2.2.2.1;unfold gU;rw[a4O,a4O];refine congrArg _<|a0q λg b=>YZ (a.nd p b) λe m x o ne=>?_;obtain⟨i,d⟩:=a.one b m;obtain⟨j,l⟩:=a.one b o;rw[<- d];exact k e i x j ne<|d.trans l.symm
theorem Y3(m:NC w h F G):gU (CA G) (cZ (aX F)<|bB w h)=[]:=by have a:Pil (bB w h) (aX F) (cZ (aX F)<|bB w h):=xJ;refine a7v.mpr λg d=>a7v.mpr λk b=>a4e.mpr<|a2m.mpr λx l=>?_;have b:=a1J.mp b;rw[a1S,ZT b];obtain⟨e,c⟩:=a.one d<|a2L b;obtain⟨i,j⟩:=a.one d<|a8f l;have:=m _ e x i<|c.trans j.symm;rw[c]at this;exact a9a.mp this
theorem Y4 k(g:(w,h)∈c9)(wf:Wf w h F)(nd:(bU w h).Nodup){S:List ((Int×Int)×Str)}(d:Dr (bU w h) μ a b F row Z)(Q:jz)(H:∀c,μ<+:c->Q (tX<|gU (CA<|GZ Z)<|cZ (aX F)<|bB w h,c)):W (f (k+6) "crossing" [SH w h S,.loc a,.loc b] μ) Q:=
 YL k g wf nd d Q λc p=>by rw[show gU (e8 F<|aL<|GZ Z) (cZ (aX F)<|bB w h)=gU (CA<|GZ Z) (cZ (aX F)<|bB w h)from Y2 g λe i x j ne l=>YX g wf nd d.pl i j ne l];exact H c p
theorem Y5 G:NC w h (λ_=>c7) G:=λe _ d _ sp=>by
 unfold aX at sp ⊢;rw[tD,tD]at sp;subst sp;have k:∀P,∀b∈wd e e P,b=true:=λP=>nH λq _=>λz=>by
  unfold cG at z;by_cases a:q=sA e\/q=sB e
  .rw[if_pos a]at z;cases z
  .rw[if_neg a,if_neg a]at z;cases z
 unfold eC;exact Cr b5 (A:=wd e e _) (B:=[]) (k _) (λb c=>nomatch c) λb c=>k _ b<|a9m.mp c
theorem JY:∀w∈[(1:Int),2,3],∀h∈[(1:Int),2,3],c8 w h=bU w h:=by decide +kernel
structure Inz(w h:Int)(o b:Nat)(xs:List D)(d dl:D)(F:Int×Int->Ly)(G:Gr)(μ:Hm):Prop where
 i1:μ[o]?=a7 (.ins "Folding"<|kN w h b)
 i2:μ[b]?=a7 (.lst<|xs++[d])
 s1:StZ μ b d F (c8 w h) G
 s2:StZ μ b dl F (c8 w h) G
 gd:Gd (c8 w h) F G
 jl:JL F
 nc:NC w h F G
theorem Inz.more{μ':Hm}(I:Inz w h o b xs d a F G μ)(p:μ<+:μ'):Inz w h o b xs d a F G μ':=⟨aG p I.i1,aG p I.i2,I.s1.more p,I.s2.more p,I.gd,I.jl,I.nc⟩
theorem w_gT4:W (dH [i,j,k,l] (.tup [a,b,c,d]) e μ) Q↔Q ((((e.set i<|a7 a).set j<|a7 b).set k<|a7 c).set l<|a7 d):=W_some
noncomputable def JZ(k:Nat):MS:=(aJ (jG (aH (f k "_law_plan")<|aC (aA 6)<|aC (aH (f k "_law_cell")<|aC (aA 0)<|aC (aA 7) aD)<|aC (aH (f k "_law_cell")<|aC (aA 0)<|aC (aB bP (aA 7)<|mC<|.int 1) aD) aD)<|dH [8,9,10,11])<|aJ (aO 12<|aH (f k "_law_folded")<|aC (aA 6)<|aC (aA 9)<|aC (aA 10)<|aC (aA 11) aD)<|bE (aU<|aB (fK b5) (aA 12)<|mC .non) (aJ (eE<|jI "Folding" "fold" (f k "Folding.fold") (aA 5)<|aC (aA 8)<|aC (aA 10)<|aC (aA 11) aD)<|aO 6<|aA 12) bI)
theorem Y6 k{ns:List Int}(hw:1<=w/\w<=3)(O:1<=h/\h<=3)(hc:0<=c/\c<=50)(J:Inz w h o b xs d dl F G μ)(hx:xs.length<=20)Q(H:∀v L r F' G' T U i j m x,v.length<=xs.length+1->Inz w h o b v L r F' G' x->Q (.nx,[a7<|.rol<|ns.map D.int,x1,a7<|.int s,a7<|.int w,a7<|.int h,a7<|.loc o,a7 r,a7<|.int c,T,U,i,j,m],x)):
  W (JZ (k+5) [a7<|.rol<|ns.map D.int,x1,a7<|.int s,a7<|.int w,a7<|.int h,a7<|.loc o,a7 dl,a7<|.int c,T,U,i,j,m] μ) Q:=by
 obtain⟨_,q2,q3,q4,q5,_⟩:=tL w (gG hw) h<|gG O;have sz:=Jr hw O;refine w_mSeq.mpr (w_mAsg.mpr<|eA<|bJ ⟨_,rfl,bJ<|bS rfl<|tB (k+4) ns c (by lia) _ _ λμ1 p1=>bJ<|eA<|bJ ⟨_,rfl,bJ<|bQ rfl rfl<|w_addI.mpr ⟨_,rfl,tB (k+4) ns (c+1) (by lia) _ _ λμ2 p2=>⟨_,rfl,?_⟩⟩⟩⟩);have B:=J.more<|p1.trans p2;obtain⟨l,p,Z,rfl,g1,I,g2,M,nb⟩:=B.s2.ex;have G2:Gd (c8 w h) F (GZ Z):=by rw[M];exact B.gd
 obtain⟨kq,_,lZ,bZ⟩:=G2.key;have zp:0<Z.length:=by
  cases Z with
  |nil=>obtain⟨q,hq⟩:=a4y _ q3;exact absurd (kq q hq) (by simp)|cons _ _=>exact a7Q _
 refine XG (k+3) g2 zp _ _ _ λe u n a ov X A E y=>w_gT4.mpr<|bV<|bS rfl ?_;have K:=B.more A;have bl:b<X.length:=(ZG.mp K.i2).1;refine Xa (k+3) J.gd.di q4 (by lia) q3 q5 (I.more A) (aG A g2) (aG A g1) (by lia) (λz hz=>by have:=bZ z hz;lia) kq E.u0 _ (λN Y R=>?_) λN S l' p' Y R _ gl PJ eS=>?_
 .exact w_mIfS.mpr<|fG<|bQ rfl rfl<|w_isnotNN.mpr ⟨_,rfl,d5 rfl<|w_mNext.mpr<|H _ _ _ _ _ _ _ _ _ _ _ (a2D _)<|K.more R⟩
 .rw[IM,M]at N;have g:=K.more R;have T4:=StZ.new (b:=b) gl PJ bl;rw[eS,M]at T4;refine w_mIfS.mpr<|fG<|bQ rfl rfl<|w_isnotTN.mpr ⟨_,rfl,fX rfl<|Wb<|xE ⟨_,rfl,o,_,rfl,g.i1,rfl,_,rfl,?_⟩⟩;refine Xn k q4 (by lia) g.i1 g.i2 (by lia) g.s1 g.gd E y N _ λL μ5 kp gb S5=>w_mSet.mpr ⟨_,rfl,?_⟩;have ob:o≠b:=λe=>by have:=g.i1;rw[e,g.i2]at this;cases this
  refine H (xs++[d]) L _ _ _ _ _ _ _ _ _ (by rw[ZO];exact ZN _) ⟨kp _ _ ob g.i1,gb,S5,T4.keep g.i2 kp,J.gd.fold y a ov,YR F u n a E.u0 y J.jl,YS sz (J.jl.wf sz) (by rw[<- JY w (gG hw) h<|gG O];exact J.gd.pl) E.u0 y J.nc⟩
theorem Y7:∀s∈[(0:Int),1,2,3,4,5,6],r8 1 (2*s+1) 2=b5/\(a0O 1 (2*s+1) 2).toNat<=6:=by decide +kernel
theorem Y8(h:0<=s/\s<=6):s∈[(0:Int),1,2,3,4,5,6]:=by simp only[a0g,a3q,or_false];lia
inductive GoI (ns:List Int)(s w h:Int)(o b:Nat):Nat->aI->Hm->Prop
 |mk {i:Nat}{xs:List D}{d dl:D}{F:Int×Int->Ly}{G:Gr}{μ:Hm}{x7 x8 x9 x10 x11 x12:Option D}(hx:xs.length<=i)(J:Inz w h o b xs d dl F G μ):GoI ns s w h o b i [a7<|.rol<|ns.map D.int,a7<|.int 3,a7<|.int s,a7<|.int w,a7<|.int h,a7<|.loc o,a7 dl,x7,x8,x9,x10,x11,x12] μ
theorem Y9 k(ns:List Int)(E:0<=s/\s<=6)μ(Q:jz)(H:∀w h o b xs d v F G μ',(1<=w/\w<=3)->(1<=h/\h<=3)->Inz w h o b xs d v F G μ'->Q (.tup [.int w,.int h,.loc o],μ')):W (f (k+6) "_law_go" [.rol<|ns.map D.int,.int 3,.int s] μ) Q:=by
 refine dR (VQ (k+5) _ _ _ μ) (bV<|bA ⟨_,rfl,bA<|bS rfl<|tB (k+4) ns 0 (by lia) _ _ λY p1=>⟨_,rfl,(iF<|by decide).mpr<|w_addI.mpr<|bV<|bA ⟨_,rfl,bA<|bA<|bS rfl<|tB (k+4) ns 0 (by lia) _ _ λc p2=>⟨_,rfl,(Bq (by decide)<|by decide).mpr ⟨_,rfl,(iF<|by decide).mpr<|w_addI.mpr ?_⟩⟩⟩⟩⟩);have hw:1<=1+iS ns 0%3/\1+iS ns 0%3<=3:=by lia
 have a:1<=1+iS ns 0/3%3/\1+iS ns 0/3%3<=3:=by lia
 generalize 1+iS ns 0%3=w at hw;generalize 1+iS ns 0/3%3=h at a;obtain⟨_,q2,q3,M,q5,N⟩:=tL w (gG hw) h<|gG a;refine bV<|Xb ⟨_,rfl,Xu k hw a _ _ λb d μ3 p3 bl K L S=>⟨rfl,bV<|bS rfl<|Xo (k+3) hw a _ _ λl p Z g e z r y=>?_⟩⟩;have A:Gd (c8 w h) (λ_=>c7) (iW<|c8 w h):=⟨λ_=>HC,WE M,λq B=>by rw[tD];exact a1c.mp N q B⟩;have m:=StZ.new (b:=b) z r bl;rw[y]at m;have n:Inz w h c.length b [] d (.tup [.loc l,.loc p]) (λ_=>c7) (iW<|c8 w h) g:=⟨aG e K,aG e L,S.more e,m,A,YQ,Y5 _⟩;obtain⟨O,r2⟩:=Y7 s<|Y8 E;refine iT<|w_mForI.mpr<|U0<|bJ ⟨_,rfl,bJ<|bA<|bQ rfl rfl<|w_mul2.mpr ⟨_,rfl,w_addI.mpr ⟨_,rfl,1,2*s+1,2,rfl,O,?_⟩⟩⟩;refine U1 (b:=JZ (k+5)) (GoI ns s w h c.length b) (.mk (ZN _) n) ?_ ?_
 .rintro i j μ' hi ⟨I,J⟩;exact⟨_,rfl,Y6 k hw a (by lia) J (by lia) _ λR d' x F' G' y8 y9 T U X μ5 l5 u=>.mk (by lia) u⟩
 .rintro j μ' ⟨I,J⟩;exact⟨rfl,c6<|w_mTup.mpr ⟨_,rfl,by show(3:Nat)<=ZX;decide,H w h _ b _ _ _ _ _ μ' hw a J⟩⟩
theorem xU{Q:jz}(H:Q (.bl<|!decide (p=q),μ)):W (aR b5 (PP p) (PP q) μ) Q:=by
 obtain⟨r,c,d⟩:=(w_eqPd (p:=p) (q:=q) (μ:=μ) (Q:=λr=>r=(.bl<|decide<|p=q,μ))).mpr rfl;subst d;unfold aR at c ⊢;obtain⟨b,e,a⟩:=ZH.mp c;rw[e];refine W_some.mpr ?_;have:b=decide (p=q):=by injection a with a;injection a
 rw[this];exact H
noncomputable def Za(k:Nat):MS:=(aJ (bE (fJ (aU<|aB (cY b5) (aA 5)<|aA 0)<|fJ (aU<|aB (cY b4) (aA 5)<|aA 2)<|aU<|aB (aR b5) (aH (f k "_law_led")<|aC (aB aF (aA 0)<|aA 5)<|aC (aA 5) aD)<|aA 3) (aS<|mC .non) bI)<|dB (aA 2) (aA 5)<|bH<|aC (aA 3)<|aC (aA 4) aD)
noncomputable def gW(F:Int×Int->Ly)(G:Gr)(q:Int×Int):D:=.tup [PP<|aE (F q) q,.int<|aL G q]
theorem Zb k{F:Int×Int->Ly}(B:∀q,Dih (F q))(J:row.Nodup){h μ:Hm}(z:h[t]?=a7 (.dT<|aN (λq=>LD<|F q) row))(G:∀q∈L,q∈row/\aE (F q) q=p)(I:∀(i:Nat)q,L[i]?=a7 q->v q=.tup [PP p,.int (i:Int)])(E:∀q∈L,q∉K)(nd:L.Nodup)(O:K.length+L.length<=1000)(m:h<+:μ)(lo:h.length<=b)(gl:h[l]?=a7 (.lst<|L.map PP))(A:μ[b]?=a7 (.dT<|aN v K))Q(H:∀x y a,h<+:a->a[b]?=a7 (.dT<|aN v<|K++L)->Q (.nx,[a7<|.loc t,n,a7<|.loc b,a7<|PP p,x,y],a)):
  W (eF (mG<|.loc l) (dH [4,5]) (Za<|k+1) ((L.map PP).length+1) 0 [a7<|.loc t,n,a7<|.loc b,a7<|PP p,s,u] μ) Q:=by
 refine Bw (λi c a=>∃x y,c=[a7<|.loc t,n,a7<|.loc b,a7<|PP p,x,y]/\h<+:a/\a[b]?=a7 (.dT<|aN v<|K++L.take i)) ⟨s,u,rfl,m,by rw[a6S,a0p];exact A⟩ (by rintro _ _ _ ⟨_,_,_,p,_⟩;exact aG p gl) ?_ ?_
 .rintro i d c a hd ⟨x,y,rfl,r,g⟩;obtain⟨q,e,rfl⟩:=lO hd;have hi:i<L.length:=(ZG.mp e).1;obtain⟨N,M⟩:=G q<|Z1 e;have o:q∉K++L.take i:=λw=>(a0M.mp w).elim (E q<|Z1 e)<|m7 nd e;have j:=aG r z;have val:=fW (v:=λq=>LD<|F q) J N;refine⟨_,rfl,w_mSeq.mpr<|w_mIfS.mpr<|BI<|fG<|bQ rfl rfl<|(Hf j<|cF q).mpr ⟨_,rfl,by rw[val];rfl,BI<|fG<|bQ rfl rfl<|(Hf g<|cF q).mpr ⟨_,rfl,by rw[BU o];rfl,fG<|bA<|eA<|bJ<|bQ rfl rfl<|(fH (.inl j) (cF q) val).mpr ⟨_,rfl,(xB k (F q) (B q) q _ _).mpr ⟨_,rfl,xU ⟨_,rfl,?_⟩⟩⟩⟩⟩⟩;rw[M,decide_eq_true rfl];refine d5 rfl (w_mNext.mpr<|w_mPut.mpr<|w_mTup.mpr ⟨_,rfl,fT,_,rfl,_,rfl,(mV g (cF q)<|by rw[ZF,ZO,a0Q,a0n];lia).mpr ⟨_,_,rfl,fL r lo _,?_⟩⟩);rw[eQ g,<- I i q e,BV o,fV e,a0R]
 .rintro c a ⟨x,y,rfl,p,g⟩;rw[ZF,a0V]at g;exact H x y a p g
theorem Zc k(nd:qs.Nodup)(M:qs.length<=100)(K:∀q,Dih (F q))(E:μ[t]?=a7 (.dT<|aN (λq=>LD<|F q) qs))(I:HI μ h Z)(l:μ[h]?=a7 (.dT<|aM Z))(P:Pil qs (λq=>aE (F q) q) (GZ Z))(X:t≠h)(Q:jz)(H:∀b a,μ<+:a->a[b]?=a7 (.dT<|aN (gW F<|GZ Z)<|flat<|GZ Z)->Q (.loc b,a)):W (f (k+2) "_law_spots" [.loc t,.loc h] μ) Q:=by
 have v:h<μ.length:=(ZG.mp l).1;have s:=I.frz l;have n:(μ.set h<|.dF<|aM Z).length=μ.length:=a0v;have u:(μ.set h<|.dF<|aM Z)[t]?=a7 (.dT<|aN (λq=>LD<|F q) qs):=by rw[ZP<|a0o X];exact E
 have w:μ.set h (.dF<|aM Z)<+:(μ++[C.dT []]).set h (.dF<|aM Z):=by rw[a3g _ _ v];exact a2S _ _
 refine dR (VR (k+1) _ _ μ)<|bV<|w_mDNewT.mpr<|w_mSeq.mpr ?_;refine XJ rfl (aG (aT _ _) l) (λi c a=>∃x y z,c=[a7<|.loc t,a7<|.loc h,a7<|.loc μ.length,x,y,z]/\μ.set h (.dF<|aM Z)<+:a/\a[μ.length]?=a7 (.dT<|aN (gW F<|GZ Z)<|flat<|(GZ Z).take i))
  ⟨b3,b3,b3,rfl,w,by rw[ZP<|by lia];exact bM _ _⟩ ?_ ?_
 .rintro i Y d c a L ⟨x,y,z',rfl,e,o⟩;obtain⟨z,r,m,rfl,rfl⟩:=Ib L;have G:(z.1,z.2.1)∈GZ Z:=ZQ.mpr ⟨z,r,rfl⟩;obtain⟨O,R,T,U⟩:=Jh nd M P m;refine w_mForI.mpr<|Bv<|bJ<|bQ rfl rfl<|(fH (s.more e).dic (cF z.1)<|m3 I.kd r).mpr ⟨_,rfl,z.2.2,z.2.1.map PP,rfl,(s.more e).at_ z r,?_⟩;refine Zb k K nd (v:=gW F (GZ Z)) (p:=z.1) (K:=flat ((GZ Z).take i)) u (λq p=>P.one G p) (λj q p=>?_) R T U e (by rw[n];exact ZN _) (s.at_ z r) o _ λx' y' B N g=>⟨rfl,_,_,_,rfl,N,?_⟩
  .unfold gW;rw[(P.one G<|Z1 p).2,show D.int (aL (GZ Z) q)=_ from O j q p]
  .rw[xM m,Ci];exact g
 .rintro c a ⟨x,y,z,rfl,e,o⟩;have J:a[h]?=a7 (.dF<|aM Z):=aG e<|eQ l;rw[m4,<- iV,a0V]at o;have A:=qR l e;have g:(a.set h<|.dT<|aM Z)[μ.length]?=a7 (.dT<|aN (gW F<|GZ Z)<|flat<|GZ Z):=by rw[ZP<|by lia];exact o
  generalize a.set h (.dT<|aM Z)=B at A g;refine⟨J,w_mSeq.mpr (w_mIfS.mpr<|fG<|bA<|bS rfl<|(Bx g).mpr<|bS rfl<|(Bx<|aG A E).mpr<|w_neI.mpr ⟨_,rfl,d5 ?_<|w_mNext.mpr<|c6 ⟨_,rfl,H _ _ A g⟩⟩) ⟩;rw[ZF,ZF,(P.flat nd).length_eq];simp
theorem Zd{w h:Int}(hw:1<=w/\w<=6)(c:1<=h/\h<=6):(4*w-1).toNat*(4*h-1).toNat+(4*h-1).toNat<=900:=by
 have a:(4*w-1).toNat<=23:=by lia
 have b:(4*h-1).toNat<=23:=by lia
 have:=a3n a b;lia
theorem Ze k w h(hw:1<=w/\w<=3)(c:1<=h/\h<=3)μ(Q:jz)(H:Q (.loc μ.length,μ++[.lst<|(bB w h).map PP])):W (f (k+1) "_law_inner" [.int w,.int h] μ) Q:=by
 rw[VH,W_fin];simp only[w_mSeq,w_mSet,w_mLst,bT];refine⟨a0I _,?_⟩;simp only[a0k,a0m,w_mForI,w_iRng2,w_mCons,bT,cT,w_mOp,bC,bF,qO];refine⟨by lia,?_⟩;refine HN _ cB _ _ _ _ 1 (4*h-1).toNat (λo1 o2 μ Q=>?_) (λx y μ Q=>?_) (4*w-1).toNat (Zd (by lia)<|by lia) _ (bM _ _) _ λo1 o2=>?_
 .simp only[w_iRng2,w_mCons,bT,cT,w_mOp,bC,bF,qO];exact and_iff_right<|by lia
 .have e:cB x y=((x%2==1&&y%2==1)||(x%2==0&&x%4+y%4==2)):=by unfold cB;rw[<- xN x,<- xN y];exact Jf (P:=λa b=>(a%2==b%2&&(a%2==1||!(a==b)))=((a%2==1&&b%2==1)||(a%2==0&&a+b==2))) (by decide) x y
  rw[e,Co (Cn (b:=x%2==1) (c:=y%2==1) (by kernel_rfl)<|by kernel_rfl)<|Cn (b:=x%2==0) (c:=x%4+y%4==2) (by kernel_rfl)<|by kernel_rfl];exact W_some
 .simp only[w_mRet,bC,bF];rw[wN];exact H
noncomputable def Two(μ:Hm)(l:Nat)(e:Int×Int):Prop:=∃a b,μ[l]?=a7 (.lst<|[a,b].map PP)/\((a=sA e/\b=sB e)\/(a=sB e/\b=sA e))
theorem Two.more{μ':Hm}(T:Two μ l e)(p:μ<+:μ'):Two μ' l e:=let⟨a,b,g,o⟩:=T;⟨a,b,aG p g,o⟩
theorem Zf{P:Int×Int}(n:P≠R){L:jq}(h:L.Perm [P,R]):∃a b,L=[a,b]/\((a=R/\b=P)\/(a=P/\b=R)):=by
 match L,h.length_eq with
 |[a,b],_=>
  refine⟨a,b,rfl,?_⟩;have d:a=P\/a=R:=by simpa using h.mem_iff.mp (show a∈[a,b] by simp)
  have e:b=P\/b=R:=by simpa using h.mem_iff.mp (show b∈[a,b] by simp)
  have c:a≠b:=by simpa using h.nodup_iff.mpr (by simpa using n)
  rcases d with rfl|rfl<;>rcases e with rfl|rfl
  .exact absurd rfl c
  .exact .inr ⟨rfl,rfl⟩
  .exact .inl ⟨rfl,rfl⟩
  .exact absurd rfl c
theorem Zg k(h:cB e.1 e.2=b5)(μ:Hm)(Q:jz)(H:∀l μ',μ<+:μ'->Two μ' l e->Q (.loc l,μ')):W (f (k+1) "_law_beside" [PP e] μ) Q:=by
 obtain⟨x,y⟩:=e;have hc:=oX h;dsimp only at hc;refine dR (VI k _ μ)<|iT<|j0 (r:=(.nx,[a7<|PP (x,y),a7<|.int x,a7<|.int y],μ)) (by kernel_rfl) ⟨rfl,wK (b:=y%4==0) (μ':=μ) (by kernel_rfl) (λc=>wL<|j0 (r:=(.loc μ.length,μ++[.lst [P x<|y-1,P x<|y+1]])) (by kernel_rfl)<|H _ _ (aT _ _) ⟨(x,y-1),(x,y+1),bM _ _,.inl ?_⟩) λc=>wM<|wK (b:=x%4==0) (μ':=μ) (by kernel_rfl) (λg=>wL<|j0 (r:=(.loc μ.length,μ++[.lst [P (x-1) y,P (x+1) y]])) (by kernel_rfl)<|H _ _ (aT _ _) ⟨(x-1,y),(x+1,y),bM _ _,.inl ?_⟩) λg=>wM<|c6<|bS (ds:=[.loc μ.length]) (μ':=μ++[.lst [P (x+2-x%4) y,P x<|y+2-y%4]]) (by kernel_rfl) ?_⟩
 .have c:=beq_iff_eq.mp c;unfold sA sB;simp only[if_neg<|show ¬ x%2=1 by lia,if_pos c];exact⟨trivial,trivial⟩
 .have c:=beq_eq_false_iff_ne.mp c;have g:=beq_iff_eq.mp g;unfold sA sB;simp only[if_neg<|show ¬ x%2=1 by lia,if_neg c];exact⟨trivial,trivial⟩
 .have c:=beq_eq_false_iff_ne.mp c;have g:=beq_eq_false_iff_ne.mp g;refine(IY (ps:=[(x+2-x%4,y),(x,y+2-y%4)]) (bM _ _)<|by show(2:Nat)<64;decide).mpr ?_;have d:sA (x,y)=(x,y+2-y%4)/\sB (x,y)=(x+2-x%4,y):=by unfold sA sB;simp only[if_pos<|show x%2=1 by lia];exact⟨trivial,trivial⟩
  have n:=iX h;rw[d.1,d.2]at n;obtain⟨a,b,i,o⟩:=Zf (a0o n)<|nE [(x+2-x%4,y),(x,y+2-y%4)];refine H _ _ ((aT _ _).trans<|aT _ _) ⟨a,b,?_,?_⟩
  .rw[i];exact bM _ _
  .rw[d.1,d.2];exact o
noncomputable def dJ(r:Int×Int->Int)(q a b:Int×Int):Bool:=decide (min (r a) (r b)<r q)&&decide (r q<max (r a) (r b))
theorem Zh x y:gO [x,y]=[min x y,max x y]:=by
 refine(Fe ?_ ?_).symm
 .rcases b0E x y with h|h
  .rw[Int.min_eq_left h,Int.max_eq_right h]
  .rw[Int.min_eq_right h,Int.max_eq_left h];exact List.Perm.swap ..
 .rw[a2T];refine⟨λz a=>?_,a7t ..⟩;rw[a0r.mp a];lia
theorem xV(d:fl.Nodup)(a:μ[c]?=a7 (.dT<|aN (gW F G) fl))(b:q∈fl):aF (.loc c) (PP q) μ=a7 (gW F G q,μ):=gH<|(fH (.inl a) (cF q)<|fW d b).mpr rfl
theorem CB k{μ:Hm}(o:fl.Nodup)(m:μ[c]?=a7 (.dT<|aN (gW F G) fl))(gl:μ[l]?=a7 (.lst<|[a,b].map PP))(y:q∈fl)(x:a∈fl)(h:b∈fl)(Q:jz)(H:∀μ',μ<+:μ'->Q (.bl<|dJ (aL G) q a b,μ')):W (f (k+1) "_law_amid" [.loc c,PP q,.loc l] μ) Q:=by
 refine dR (VS k _ _ _ μ)<|bV<|wJ<|jL (xs:=[a,b].map PP) (p:=λ_=>b5) (v:=λd=>.int<|aL G<|dO d)<|w_iSeq.mpr ⟨_,rfl,(fS gl).mpr ⟨mT gl,rfl,fT,λd μ' hd n=>w_mTrue.mpr ⟨rfl,a0c _⟩,λd μ' hd _ n=>?_,λe p v=>?_⟩⟩
 .obtain⟨z,j,rfl⟩:=ZQ.mp hd;have j:z∈fl:=by
   have:z=a\/z=b:=by simpa using j
   rcases this with rfl|rfl
   .exact x
   .exact h
  exact bA<|bQ rfl rfl ⟨_,xV o (aG n m) j,_,rfl,W_some.mpr ⟨rfl,a0c _⟩⟩
 .have w:e[μ.length]?=a7 (.lst<|[aL G a,aL G b].map D.int):=by rw[v];rfl
  refine(Hh w<|by show(2:Nat)<64;decide).mpr ?_;rw[Zh];have r:=aT e<|C.lst<|[min (aL G a)<|aL G b,max (aL G a)<|aL G b].map D.int;have i:=bM e<|C.lst<|[min (aL G a)<|aL G b,max (aL G a)<|aL G b].map D.int;have g:=aG (p.trans r) m;have s:=p.trans r;generalize e++[C.lst<|[min (aL G a)<|aL G b,max (aL G a)<|aL G b].map D.int]=μ4 at s i g;have A:=xV o g y;have u:aB aF (aB aF (aA 0)<|aA 1) (mC<|.int 1) [a7<|.loc c,a7<|PP q,a7<|.loc l,a7<|.loc e.length] μ4=a7 (.int<|aL G q,μ4):=gH<|bA<|bQ rfl rfl ⟨_,A,_,rfl,W_some.mpr rfl⟩;refine c6<|w_mAndV.mpr<|bA<|bQ rfl rfl<|(cQ i<|show atI _ 0=a7 (.int<|min (aL G a)<|aL G b)from rfl).mpr ⟨_,u,w_ltI.mpr ?_⟩;have:=H μ4 s;unfold dJ at this;cases h:decide (min (aL G a) (aL G b)<aL G q)with
  |false=>rw[h]at this;exact d5 rfl this|true=>rw[h]at this;exact fX rfl<|bA ⟨_,u,bQ rfl rfl<|(cQ i<|show atI _ 1=a7 (.int<|max (aL G a)<|aL G b)from rfl).mpr<|w_ltI.mpr this⟩
noncomputable abbrev Sd(e a b:Int×Int):Prop:=(a=sA e/\b=sB e)\/(a=sB e/\b=sA e)
section
variable{w h:Int}{F:Int×Int->Ly}{G:Gr}{e e' a b c d s t:Int×Int}
theorem q8(k:(w,h)∈c9)(j:e∈bB w h)(o:Sd e a b)s:aY F e s=[a,b].filter (λq=>decide<|aE (F q) q=s)\/aY F e s=[b,a].filter (λq=>decide<|aE (F q) q=s):=by
 obtain⟨x,y,i,_,g⟩:=jP ((eT _ k).2.2.2.2.2.2.2 e j).1;unfold aY;rw[i];rcases g with⟨rfl,rfl⟩|⟨rfl,rfl⟩<;>rcases o with⟨rfl,rfl⟩|⟨rfl,rfl⟩
 .exact .inl rfl
 .exact .inr rfl
 .exact .inr rfl
 .exact .inl rfl
theorem t5(g:aE (F a) a=s)(i:aE (F b) b=s):[a,b].filter (λq=>decide<|aE (F q) q=s)=[a,b]:=by rw[a0w<|by rw[g];exact decide_eq_true rfl,a0w<|by rw[i];exact decide_eq_true rfl,a1o]
theorem CC(g:aE (F a) a≠s)(i:aE (F b) b≠s):[a,b].filter (λq=>decide<|aE (F q) q=s)=[]:=by rw[a0x<|by rw[decide_eq_false g];exact a0a,a0x<|by rw[decide_eq_false i];exact a0a,a1o]
theorem CD(g:aE (F a) a=s)(i:aE (F b) b≠s):[a,b].filter (λq=>decide<|aE (F q) q=s)=[a]/\[b,a].filter (λq=>decide<|aE (F q) q=s)=[a]:=by rw[a0w<|by rw[g];exact decide_eq_true rfl,a0x<|by rw[decide_eq_false i];exact a0a,a0x<|by rw[decide_eq_false i];exact a0a,a0w<|by rw[g];exact decide_eq_true rfl,a1o];exact⟨rfl,rfl⟩
structure Nx(w h:Int)(F:Int×Int->Ly)(G:Gr)(e e':Int×Int):Prop where
 hs:(w,h)∈c9
 wf:Wf w h F
 nd:(bU w h).Nodup
 pl:Pil (bU w h) (λq=>aE (F q) q) G
 he:e∈bB w h
 he':e'∈bB w h
 ne:e≠e'
 sp:aX F e=aX F e'
 nc:eC G (sA<|aX F e) (sB<|aX F e) e e'=b4
theorem Nx.sym(N:Nx w h F G e e'):Nx w h F G e' e:=⟨N.hs,N.wf,N.nd,N.pl,N.he',N.he,a0o N.ne,N.sp.symm,by rw[<- N.sp,Cz λq=>Cy N.hs N.wf N.he N.he' N.ne N.sp];exact N.nc⟩
theorem Nx.pr(N:Nx w h F G e e')s:Pr F G e e' s:=Pr.of N.hs N.wf N.nd N.pl N.he N.he' N.ne N.sp s
theorem Nx.lie(N:Nx w h F G e e')(o:Sd e a b):(aE (F a) a=sA (aX F e)\/aE (F a) a=sB (aX F e))/\(aE (F b) b=sA (aX F e)\/aE (F b) b=sB (aX F e)):=by
 rcases o with⟨rfl,rfl⟩|⟨rfl,rfl⟩
 .exact⟨nI N.hs N.wf N.he<|.inl rfl,nI N.hs N.wf N.he<|.inr rfl⟩
 .exact⟨nI N.hs N.wf N.he<|.inr rfl,nI N.hs N.wf N.he<|.inl rfl⟩
theorem Nx.side(N:Nx w h F G e e')(j:s=sA (aX F e)\/s=sB (aX F e)):∃t,t≠s/\Sd (aX F e) s t/\eC G s t e e'=b4/\(aY F e' s).length+(aY F e' t).length=2:=by
 have k:=qX N.hs N.wf N.he;have n:=iX k;obtain⟨x,y,l,_,i⟩:=jP k;have sm:=(tW N.hs N.wf N.he' (s0:=x) (s1:=y)<|by rw[<- N.sp];exact l).1.sum;have g:(aY F e'<|sA<|aX F e).length+(aY F e'<|sB<|aX F e).length=2:=by
  rcases i with⟨rfl,rfl⟩|⟨rfl,rfl⟩
  .exact sm
  .rw[a7R];exact sm
 rcases j with rfl|rfl
 .exact⟨_,a0o n,.inl ⟨rfl,rfl⟩,N.nc,g⟩
 .exact⟨_,n,.inr ⟨rfl,rfl⟩,by rw[tY];exact N.nc,by rw[a7R];exact g⟩
theorem Zi r q a b:dJ r q b a=dJ r q a b:=by unfold dJ;rw[Int.min_comm,Int.max_comm]
theorem Nx.crease(N:Nx w h F G e e')(o:Sd e a b)(g:aE (F a) a=aE (F b) b):((aY F e'<|aE (F a) a).filter λq=>dJ (aL G) q a b).length≠1:=by
 obtain⟨t,p,_,m,sm⟩:=N.side (N.lie o).1;have n:=((eT _ N.hs).2.2.2.2.2.2.2 e N.he).1;have j:a≠b:=by
  rcases o with⟨rfl,rfl⟩|⟨rfl,rfl⟩
  .exact iX n
  .exact a0o<|iX n
 have l:aY F e t=[]:=by
  have i:aE (F a) a≠t:=a0o p;rcases q8 N.hs N.he (F:=F) o t with z|z
  .rw[z];exact CC i<|by rw[<- g];exact i
  .rw[z];exact CC (by rw[<- g];exact i) i
 intro k;rcases q8 N.hs N.he (F:=F) o (aE (F a) a)with z|z
 .rw[t5 rfl g.symm]at z;have:=qZ (N.pr _) (N.pr t) j z l sm;rw[m]at this;exact absurd this<|by rw[show(lQ (aL G) a b<|aY F e'<|aE (F a) a)=1 from k];decide
 .rw[t5 g.symm rfl]at z;have:=qZ (N.pr _) (N.pr t) (a0o j) z l sm;rw[m]at this;refine absurd this ?_;rw[show lQ (aL G) b a (aY F e'<|aE (F a) a)=1 from by
   rw[<- k];show(List.filter (λq=>dJ (aL G) q b a) _).length=_;rw[show(λq=>dJ (aL G) q b a)=λq=>dJ (aL G) q a b from funext λq=>Zi _ q a b]]
  decide
theorem Nx.c1(N:Nx w h F G e e')(o:Sd e a b)(n:Sd e' c d)(l:aE (F a) a=aE (F b) b)(i:aE (F c) c≠aE (F d) d):∃q,([c,d].filter λq=>decide<|aE (F q) q=aE (F a) a)=[q]/\(q=c\/q=d)/\dJ (aL G) q a b=false:=by
 have k:=N.crease o l;have u:=(N.lie o).1;have m:=N.sym.lie n;rw[<- N.sp]at m;have fin:∀q,aY F e' (aE (F a) a)=[q]->dJ (aL G) q a b=false:=λq r=>by
  rw[r]at k;cases p:dJ (aL G) q a b with
  |false=>rfl|true=>rw[a0w (p:=λq=>dJ (aL G) q a b) p]at k;exact absurd rfl k
 by_cases hc:aE (F c) c=aE (F a) a
 .have hd:aE (F d) d≠aE (F a) a:=λz=>i<|hc.trans z.symm;obtain⟨j,f2⟩:=CD hc hd;refine⟨c,j,.inl rfl,fin c ?_⟩;rcases q8 N.hs N.he' (F:=F) n (aE (F a) a)with z|z
  .rw[z,j]
  .rw[z,f2]
 .have hd:aE (F d) d=aE (F a) a:=by
   rcases u with g|g<;>rcases m.1 with e2|e2<;>rcases m.2 with e3|e3
   .exact absurd (e2.trans g.symm) hc
   .exact absurd (e2.trans g.symm) hc
   .exact e3.trans g.symm
   .exact absurd (e2.trans e3.symm) i
   .exact absurd (e2.trans e3.symm) i
   .exact e3.trans g.symm
   .exact absurd (e2.trans g.symm) hc
   .exact absurd (e2.trans g.symm) hc
  obtain⟨j,f2⟩:=CD hd hc;refine⟨d,f2,.inr rfl,fin d ?_⟩;rcases q8 N.hs N.he' (F:=F) n (aE (F a) a)with z|z
  .rw[z,f2]
  .rw[z,j]
theorem Nx.c2(N:Nx w h F G e e')(o:Sd e a b)(l:Sd e' c d)(g:aE (F a) a=aE (F b) b)(i:aE (F c) c=aE (F a) a)(j:aE (F d) d=aE (F a) a):(dJ (aL G) c a b != dJ (aL G) d a b)=false:=by
 have k:=N.crease o g;have:((aY F e'<|aE (F a) a).filter λq=>dJ (aL G) q a b).length=(dJ (aL G) c a b).toNat+(dJ (aL G) d a b).toNat:=by
  rcases q8 N.hs N.he' (F:=F) l (aE (F a) a)with z|z
  .rw[z,t5 i j,a2q,a2q,a1o];cases dJ (aL G) c a b<;>cases dJ (aL G) d a b<;>rfl
  .rw[z,t5 j i,a2q,a2q,a1o];cases dJ (aL G) c a b<;>cases dJ (aL G) d a b<;>rfl
 rw[this]at k;revert k;cases dJ (aL G) c a b<;>cases dJ (aL G) d a b<;>simp
theorem Nx.f2(N:Nx w h F G e e')(o:Sd e a b)(M:Sd e' c d)(g:aE (F a) a≠aE (F b) b)(q:aE (F a) a=aE (F c) c)(r:aE (F b) b=aE (F d) d):(decide (aL G a<aL G c) != decide (aL G b<aL G d))=false:=by
 obtain⟨t,R,Z,n,sm⟩:=N.side (N.lie o).1;have E:aE (F b) b=t:=by
  rcases Z with⟨A,B⟩|⟨A,B⟩<;>rcases(N.lie o).2 with e3|e3
  .exact absurd (A.trans e3.symm) g
  .exact e3.trans B.symm
  .exact e3.trans B.symm
  .exact absurd (A.trans e3.symm) g
 have one:∀{x y e:Int×Int}{s:Int×Int},e∈bB w h->Sd e x y->aE (F x) x=s->aE (F y) y≠s->aY F e s=[x]:=λ{x y e s} U o k m=>by
  obtain⟨T,f2⟩:=CD k m;rcases q8 N.hs U (F:=F) o s with z|z
  .rw[z,T]
  .rw[z,f2]
 have sw:∀{e x y:Int×Int},Sd e x y->Sd e y x:=λo=>o.elim (λz=>.inr ⟨z.2,z.1⟩) λz=>.inl ⟨z.2,z.1⟩;have H:=one N.he o rfl<|a0o g;have I:=one N.he (sw o) E λz=>R z.symm;have J:=one N.he' M q.symm (by rw[<- r];exact a0o g);have K:=one N.he' (sw M) (r.symm.trans E) (by rw[<- q];exact λz=>R z.symm);have w1:=(N.pr<|aE (F a) a).two H J;have w2:=(N.pr t).two I K;unfold eC at n;rw[w1,w2]at n;have ne:∀{x y s:Int×Int},aY F e s=[x]->aY F e' s=[y]->aL G x≠aL G y:=λ{x y s} k m=>by
  have p:=N.pr s;have X:=p.mem (.inl<|show x∈aY F e s by rw[k];simp);have Y:=p.mem (.inr<|show y∈aY F e' s by rw[m];simp);have xy:x≠y:=λz=>by have Q:=p.t x (by rw[k];simp);rw[z,p.f y<|by rw[m];simp]at Q;cases Q
  obtain⟨i,hi,u⟩:=a5r.mp X;obtain⟨j,L,v⟩:=a5r.mp Y;have O:=a3t.mp p.pw;rcases Nat.lt_trichotomy i j with l|l|l
  .have:=O i j hi L l;rw[u,v]at this;lia
  .subst l;exact absurd (u.symm.trans v) xy
  .have:=O j i L hi l;rw[u,v]at this;lia
 have n1:=ne H J;have n2:=ne I K;by_cases k:aL G a>aL G c<;>by_cases m:aL G b>aL G d
 .rw[decide_eq_false<|by lia,decide_eq_false<|by lia];rfl
 .rw[if_pos k,if_neg m]at n;cases n
 .rw[if_neg k,if_pos m]at n;cases n
 .rw[decide_eq_true<|by lia,decide_eq_true<|by lia];rfl
end
theorem gX(e:fl.Nodup)(a:μ[cc]?=a7 (.dT<|aN (gW F G) fl))(b:aA 0 ρ μ=a7 (.loc cc,μ))(hi:aA i ρ μ=a7 (.loc l,μ))(gl:μ[l]?=a7 (.lst xs))(c:atI xs j=a7 (PP q))(d:q∈fl):aB aF (aA 0) (aB aF (aA i)<|mC<|.int j) ρ μ=a7 (gW F G q,μ):=
 gH<|bA ⟨_,b,bA ⟨_,hi,_,rfl,(cQ gl c).mpr ⟨_,xV e a d,rfl⟩⟩⟩
theorem o4(h:aB aF (aA 0) (aB aF (aA i)<|mC<|.int j) ρ μ=a7 (gW F G q,μ)):aB aF (aB aF (aA 0)<|aB aF (aA i)<|mC<|.int j) (mC<|.int 0) ρ μ=a7 (PP<|aE (F q) q,μ):=gH<|bA ⟨_,h,_,rfl,W_some.mpr rfl⟩
theorem nJ(h:aB aF (aA 0) (aB aF (aA i)<|mC<|.int j) ρ μ=a7 (gW F G q,μ)):aB aF (aB aF (aA 0)<|aB aF (aA i)<|mC<|.int j) (mC<|.int 1) ρ μ=a7 (.int<|aL G q,μ):=gH<|bA ⟨_,h,_,rfl,W_some.mpr rfl⟩
theorem CF{Q:jz}(H:Q (.bl<|x != y,μ)):W (aR b5 (.bl x) (.bl y) μ) Q:=w_neB.mpr H
theorem CG{μ:Hm}k(n:fl.Nodup)(w:μ[cc]?=a7 (.dT<|aN (gW F G) fl))(K:μ[l1]?=a7 (.lst<|[a,b].map PP))(L:μ[l2]?=a7 (.lst<|[c,d].map PP))(p:a∈fl)(E:b∈fl)(mc:c∈fl)(I:d∈fl)(A:((x||y)=b5/\∃q,([c,d].filter λq=>decide<|aE (F q) q=aE (F a) a)=[q]/\(q=c\/q=d)/\dJ (aL G) q a b=b4)\/((x||y)=b4/\((([c,d].filter λq=>decide<|aE (F q) q=aE (F a) a)=[])\/(([c,d].filter λq=>decide<|aE (F q) q=aE (F a) a)=[c,d]/\(dJ (aL G) c a b != dJ (aL G) d a b)=b4))))R(H:∀ρ g,μ<+:g->R (.rt<|.bl b4,ρ,g)):W (Ho (k+1) [a7<|.loc cc,a7<|.loc l1,a7<|.loc l2,a7<|.bl x,a7<|.bl y,U,b3,b3] μ) R:=by
 have O:∀{u v:D},atI [u,v] 0=a7 u:=rfl;have Q:∀{u v:D},atI [u,v] 1=a7 v:=rfl;refine bV ⟨_,o4<|gX n w rfl rfl K O p,bV<|jL (xs:=[c,d].map PP) (p:=λz=>decide<|aE (F<|dO z) (dO z)=aE (F a) a) (v:=λd=>d)<|w_iSeq.mpr ⟨_,rfl,(fS L).mpr ⟨mT L,rfl,fT,λz g N M=>?_,λz g N _ M=>⟨_,rfl,rfl,a0c _⟩,λJ o h=>?_⟩⟩⟩
 .obtain⟨q,l,rfl⟩:=ZQ.mp N;have l:q∈fl:=by
   have:q=c\/q=d:=by simpa using l
   rcases this with rfl|rfl
   .exact mc
   .exact I
  exact fG<|bA<|bA<|bQ rfl rfl ⟨_,xV n (aG M w) l,_,rfl,W_some.mpr ⟨_,rfl,w_eqPd.mpr ⟨_,rfl,rfl,a0c _⟩⟩⟩
 .rw[oS λq=>decide<|aE (F q) q=aE (F a) a]at h;have i:=aG o w;have j:=aG o K;rcases A with⟨B,q,m,l,s⟩|⟨B,A⟩
  .rw[m]at h;have l:q∈fl:=by
    rcases l with rfl|rfl
    .exact mc
    .exact I
   refine w_mSeq.mpr<|w_mIfS.mpr ⟨_,Co (b:=x) (c:=y) (gH<|iG ⟨_,rfl,rfl,rfl⟩)<|gH<|iG ⟨_,rfl,rfl,rfl⟩,fX B<|c6<|eA<|bJ ⟨_,rfl,bJ<|bQ rfl rfl<|(cQ h<|show atI ([q].map PP) 0=a7 (PP q)from rfl).mpr ⟨_,rfl,CB k n i j l p E _ λX e=>?_⟩⟩⟩;rw[s];exact H _ _<|o.trans e
  .refine w_mSeq.mpr<|w_mIfS.mpr ⟨_,Co (b:=x) (c:=y) (gH<|iG ⟨_,rfl,rfl,rfl⟩)<|gH<|iG ⟨_,rfl,rfl,rfl⟩,d5 B<|w_mNext.mpr<|c6<|w_mAndV.mpr<|bA ⟨_,rfl,w_mLst.mpr ⟨_,rfl,a0I _,(Yt (aG (aT _ _) h)<|bM _ _).mpr ?_⟩⟩⟩;rcases A with m|⟨m,s⟩
   .rw[m];exact d5 rfl<|H _ _<|o.trans<|aT _ _
   .rw[m]at h ⊢;have e:=aT J<|C.lst [];refine fX rfl<|bA<|eA<|bJ ⟨_,rfl,bJ<|bQ rfl rfl<|(cQ (aG e h) O).mpr ⟨_,rfl,CB k n (aG e i) (aG e j) mc p E _ λY r=>eA<|bJ ⟨_,rfl,bJ<|bQ rfl rfl<|(cQ (aG (e.trans r) h) Q).mpr ⟨_,rfl,CB k n (aG (e.trans r) i) (aG (e.trans r) j) I p E _ λZ T=>CF ?_⟩⟩⟩⟩;rw[s];exact H _ _<|o.trans<|e.trans<|r.trans T
theorem Zj k(N:Nx w h F G e U)(m:fl.Nodup)(l:μ[cc]?=a7 (.dT<|aN (gW F G) fl))(M:∀q∈bU w h,q∈fl)(T1:Two μ l1 e)(T2:Two μ l2 U)(Q:jz)(H:∀μ',μ<+:μ'->Q (.bl b4,μ')):W (f (k+2) "_law_cross" [.loc cc,.loc l1,.loc l2] μ) Q:=by
 obtain⟨a,b,r,o⟩:=T1;obtain⟨c,d,s,I⟩:=T2;have Y:∀{e x y:Int×Int},e∈bB w h->Sd e x y->x∈fl/\y∈fl:=λ{e x y} he o=>by
  obtain⟨_,Z,qb,_⟩:=(eT _ N.hs).2.2.2.2.2.2.2 e he;rcases o with⟨rfl,rfl⟩|⟨rfl,rfl⟩
  .exact⟨M _ Z,M _ qb⟩
  .exact⟨M _ qb,M _ Z⟩
 obtain⟨B,K⟩:=Y N.he o;obtain⟨E,L⟩:=Y N.he' I;have A:∀{u v:D},atI [u,v] 0=a7 u:=rfl;have J:∀{u v:D},atI [u,v] 1=a7 v:=rfl;refine dR (VT (k+1) _ _ _ μ)<|bV<|bA ⟨_,o4<|gX m l rfl rfl r A B,_,o4<|gX m l rfl rfl r J K,xU<|bV<|bA ⟨_,o4<|gX m l rfl rfl s A E,_,o4<|gX m l rfl rfl s J L,xU<|w_mSeq.mpr<|w_mIfS.mpr ⟨_,Cn (gH<|iG ⟨_,rfl,rfl,rfl⟩)<|gH<|iG ⟨_,rfl,rfl,rfl⟩,?_⟩⟩⟩;by_cases i:aE (F a) a=aE (F b) b<;>by_cases j:aE (F c) c=aE (F d) d
 .rw[decide_eq_true i,decide_eq_true j];refine d5 rfl<|w_mNext.mpr<|w_mSeq.mpr<|w_mIfS.mpr<|iG (b:=b4) ⟨_,rfl,rfl,d5 rfl<|w_mNext.mpr<|CG k m l r s B K E L (.inr ⟨rfl,?_⟩) _ λ_ μ' p=>H μ' p⟩;by_cases g:aE (F c) c=aE (F a) a
  .have hd:aE (F d) d=aE (F a) a:=j.symm.trans g;exact .inr ⟨t5 g hd,N.c2 o I i g hd⟩
  .exact .inl<|CC g<|by rw[<- j];exact g
 .rw[decide_eq_true i,decide_eq_false j];exact d5 rfl<|w_mNext.mpr<|w_mSeq.mpr<|w_mIfS.mpr<|iG (b:=b4) ⟨_,rfl,rfl,d5 rfl<|w_mNext.mpr<|CG k m l r s B K E L (.inl ⟨rfl,N.c1 o I i j⟩) _ λ_ μ' p=>H μ' p⟩
 .rw[decide_eq_false i,decide_eq_true j];exact d5 rfl<|w_mNext.mpr<|w_mSeq.mpr<|w_mIfS.mpr<|iG (b:=b5) ⟨_,rfl,rfl,fX rfl<|w_mPar.mpr ⟨_,rfl,CG k m l s r E L B K (.inl ⟨rfl,N.sym.c1 I o j i⟩) _ λ_ μ' p=>H μ' p⟩⟩
 .rw[decide_eq_false i,decide_eq_false j];refine fX rfl<|w_mSeq.mpr<|w_mIfS.mpr<|fG<|bA ⟨_,o4<|gX m l rfl rfl r A B,_,o4<|gX m l rfl rfl s A E,xU ⟨_,rfl,?_⟩⟩;have l1:=N.lie o;have l2:=N.sym.lie I;rw[<- N.sp]at l2;by_cases g:aE (F a) a=aE (F c) c
  .have T:aE (F b) b=aE (F d) d:=by rcases l1.1 with n|n<;>rcases l1.2 with e2|e2<;>rcases l2.1 with e3|e3<;>rcases l2.2 with e4|e4<;>first|exact e2.trans e4.symm|exact absurd (n.trans e2.symm) i|exact absurd (e3.trans e4.symm) j|exact absurd (n.symm.trans<|g.trans e3)<|by first|exact iX (qX N.hs N.wf N.he)|exact a0o<|iX<|qX N.hs N.wf N.he
   have f:=N.f2 o I i g T;rw[decide_eq_true g];refine d5 rfl<|w_mNext.mpr<|bV<|bA ⟨_,nJ<|gX m l rfl rfl r A B,_,nJ<|gX m l rfl rfl s A E,w_ltI.mpr<|c6<|bA ⟨_,rfl,bA ⟨_,nJ<|gX m l rfl rfl r J K,_,nJ<|gX m l rfl rfl s J L,w_ltI.mpr<|CF ?_⟩⟩⟩;rw[f];exact H _<|a0c _
  .have O:aE (F a) a=aE (F d) d:=by rcases l1.1 with n|n<;>rcases l2.1 with e3|e3<;>rcases l2.2 with e4|e4<;>first|exact n.trans e4.symm|exact absurd (n.trans e3.symm) g|exact absurd (e3.trans e4.symm) j
   have R:aE (F b) b=aE (F c) c:=by rcases l1.1 with n|n<;>rcases l1.2 with e2|e2<;>rcases l2.1 with e3|e3<;>first|exact e2.trans e3.symm|exact absurd (n.trans e2.symm) i|exact absurd (n.trans e3.symm) g
   have f:=N.f2 o (I.elim (λz=>.inr ⟨z.2,z.1⟩) λz=>.inl ⟨z.2,z.1⟩) i O R;rw[decide_eq_false g];have X:=bM μ<|C.lst ([c,d].map PP).reverse;have pr:=aT μ<|C.lst ([c,d].map PP).reverse;refine fX rfl<|w_mSet.mpr<|bS rfl<|(Hi s).mpr<|bV<|bA ⟨_,nJ<|gX m (aG pr l) rfl rfl (aG pr r) A B,_,nJ<|gX m (aG pr l) rfl rfl X A L,w_ltI.mpr<|c6<|bA ⟨_,rfl,bA ⟨_,nJ<|gX m (aG pr l) rfl rfl (aG pr r) J K,_,nJ<|gX m (aG pr l) rfl rfl X J E,w_ltI.mpr<|CF ?_⟩⟩⟩;rw[f];exact H _ pr
theorem Zk:∀p∈c9,bB p.1 p.2≠[]:=by decide +kernel
theorem Zl(d:(w,h)∈c9)(wf:Wf w h F)(c:e∈oY w h F):CrF (bU w h) F e:=by obtain⟨a,b⟩:=a0s.mp c;obtain⟨j,g,i,_⟩:=(eT _ d).2.2.2.2.2.2.2 e a;refine⟨j,g,i,(wf.ed e a).resolve_left λz=>?_⟩;rw[z]at b;simp at b
theorem Zm(a:(qs.map a9).Pairwise λx y=>HT.lexLt y x=b4)(P:Pil qs g G):tR (cZ g qs) G=true:=by rw[XX a P];unfold Cd;rw[ZL];refine⟨decide_eq_true<|.refl _,a1c.mpr λx b=>?_⟩;rw[gD P.kd b,beq_iff_eq]
noncomputable def Zn(k:Nat):MS:=(aJ (aO 5<|aH (f k "sides_of")<|aC (aA 4) aD)<|bE (aU<|aB (aR b5) (aB aF (aA 2)<|aB aF (aA 5)<|mC<|.int 0)<|aB aF (aA 2)<|aB aF (aA 5)<|mC<|.int 1) (eE<|f7 gM (aA 3)<|aC (aA 4) aD) bI)
theorem Zo{μ:Hm}k(B:(w,h)∈c9)(m:row.Perm (bU w h))(nd:(bU w h).Nodup)(R:μ[a]?=a7 (.dT<|aN (λq=>LD<|F q) row))(Q:jz)(H:∀c μ',μ<+:μ'->μ'[c]?=a7 (.lst<|(oY w h F).map PP)->Q (.loc c,μ')):W (f (k+3) "creased_edges" [.int w,.int h,.loc a] μ) Q:=by
 obtain⟨_,_,_,_,_,E,_,fr⟩:=eT _ B;replace E:(bB w h).length<=64:=E;refine dR (VD (k+2) _ _ _ μ)<|bV<|w_mLst.mpr ⟨_,rfl,a0I _,iT<|w_mForI.mpr<|w_iSeq.mpr<|bS rfl<|Js k B _ _ λl X G u=>(fS u).mpr ?_⟩;have T:μ.length≠l:=λz=>by have:=aG G<|bM μ<|C.lst [];rw[z,u]at this;injection this with this;injection this with this;exact Zk _ B<|a4e.mp this
 refine mS (b:=Zn (k+2)) (λi g μ'=>∃x y,g=[a7<|.int w,a7<|.int h,a7<|.loc a,a7<|.loc μ.length,x,y]/\μ<+:μ'/\μ'[μ.length]?=a7 (.lst<|(((bB w h).take i).filter λe=>!decide (F (sA e)=F (sB e))).map PP)/\μ'[l]?=a7 (.lst<|(bB w h).map PP)) ⟨b3,b3,rfl,(aT _ _).trans G,aG G<|bM _ _,u⟩ (by rintro _ _ _ ⟨_,_,_,_,_,h⟩;exact h) ?_ ?_
 .rintro i d g I hd ⟨x,y,rfl,n,o,J⟩;obtain⟨e,A,rfl⟩:=lO hd;obtain⟨U,M,N,_⟩:=fr e<|Z1 A;obtain⟨s,t,O,_,r⟩:=jP U;have b:(s∈row/\t∈row)/\(!decide (F s=F t))=!decide (F (sA e)=F (sB e)):=by
   rcases r with⟨rfl,rfl⟩|⟨rfl,rfl⟩
   .exact⟨⟨m.mem_iff.mpr M,m.mem_iff.mpr N⟩,rfl⟩
   .exact⟨⟨m.mem_iff.mpr N,m.mem_iff.mpr M⟩,by rw[decide_eq_decide.mpr eq_comm]⟩
  refine⟨_,rfl,bV<|bS rfl<|tT k e _ _ λc Y j v=>?_⟩;rw[show(iH e).filter bW=[s,t]from O]at v;have K:=aG (n.trans j) R;have p:=aG j o;have L:=m.nodup_iff.mpr nd;have lt:(((bB w h).take i).filter λe=>!decide (F (sA e)=F (sB e))).length<=64:=a0A (a0G _ _)<|a0A (a3j _ _) E;refine w_mIfS.mpr<|fG<|bA<|bA ⟨_,rfl,bQ rfl rfl<|(cQ v<|show atI ([s,t].map PP) 0=a7 (PP s)from rfl).mpr<|(fH (.inl K) (cF _)<|fW L b.1.1).mpr<|bA ⟨_,rfl,bQ rfl rfl<|(cQ v<|show atI ([s,t].map PP) 1=a7 (PP t)from rfl).mpr<|(fH (.inl K) (cF _)<|fW L b.1.2).mpr<|w_neLD.mpr ⟨_,rfl,?_⟩⟩⟩;rw[b.2];cases hc:!decide (F (sA e)=F (sB e))with
  |false=>refine d5 rfl<|w_mNext.mpr ⟨_,_,rfl,n.trans j,?_,aG j J⟩;rw[fV A,a0Y,a0x<|by rw[hc];exact a0a,a1o,a0p];exact p|true=>refine fX rfl (w_mDrop.mpr<|mU ⟨_,rfl,oR p,_,rfl,(qM p<|by rw[ZF,a0n];lia).mpr ⟨_,_,rfl,fL (n.trans j) (ZN _) _,?_,(ZP T).trans<|aG j J⟩⟩);rw[eQ p,fV A,a0Y,a0w (p:=λe=>!decide (F (sA e)=F (sB e))) hc,a1o,Z7];rfl
 .rintro g I ⟨x,y,rfl,n,o,_⟩;rw[ZF,a0V]at o;exact⟨rfl,c6 ⟨_,rfl,H _ _ n o⟩⟩
theorem Zp k(n:(w,h)∈c9)(wf:Wf w h F)(nd:(bU w h).Nodup)(i1:μ[o]?=a7 (.ins "Folding"<|kN w h b))(i2:μ[b]?=a7 (.lst<|xs++[.tup [.loc l,.loc p]]))(d:Dr (bU w h) μ l p F row Z)(Q:jz)(H:∀S μ',μ<+:μ'->Q (SH w h S,μ')):W (f (k+6) "Folding.sheet" [.loc o] μ) Q:=by
 obtain⟨_,_,x,_,_,s,_,fr⟩:=eT _ n;replace x:(bU w h).length<=48:=x;replace s:(bB w h).length<=64:=s;have R:(oY w h F).length<=64:=a0A (a0G _ _) s;have j:∀{μ':Hm}{r:aI},μ<+:μ'->eX "Folding" "wide" (aA 0) (a7 (.loc o)::r) μ'=a7 (.int w,μ')/\eX "Folding" "high" (aA 0) (a7 (.loc o)::r) μ'=a7 (.int h,μ'):=λq=>⟨gH<|xD ⟨_,rfl,o,_,_,rfl,aG q i1,rfl,rfl⟩,gH<|xD ⟨_,rfl,o,_,_,rfl,aG q i1,rfl,rfl⟩⟩;refine dR (V0 (k+5) _ μ)<|bV<|xF i1 i2 _<|bV<|wJ ?_;refine jL (xs:=(oY w h F).map PP) (p:=λ_=>b5) (v:=λd=>MD (dO d,"o"))<|w_iSeq.mpr<|eA<|bJ ⟨_,(j<|a0c _).1,bJ ⟨_,(j<|a0c _).2,bJ<|bQ rfl rfl<|w_it20.mpr ⟨_,rfl,Zo (k+2) n d.hr nd d.hw _ λc L I u=>(fS u).mpr ⟨mT u,rfl,by rw[ZF,a0n];lia,λd μ' hd B=>w_mTrue.mpr ⟨rfl,a0c _⟩,λz μ' G _ B=>?_,λM J y=>(Hd y).mpr ?_⟩⟩⟩⟩
 .obtain⟨e,v,rfl⟩:=ZQ.mp G;exact w_mTup.mpr ⟨_,rfl,fT,rfl,a0c _⟩
 .have g:=I.trans J;have m:=d.more g;rw[a4g.mpr λ_ _=>rfl,ZS,show(a8g ((λd=>MD (dO d,("o":Str)))∘PP)<|oY w h F)=((oY w h F).map λe=>(e,("o":Str))).map MD by rw[ZS];rfl];refine bV (eA<|bJ<|w_mTup.mpr<|bJ ⟨_,(j g).1,bJ ⟨_,(j g).2,_,rfl,by show(3:Nat)<=ZX;decide,bJ<|bQ rfl rfl<|w_it20.mpr<|bJ<|bQ rfl rfl<|w_it21.mpr ⟨_,rfl,?_⟩⟩⟩);refine Yw (k+0) (w:=w) (h:=h) (S:=(oY w h F).map λe=>(e,("o":Str))) nd (by lia) wf.di d.hr (by rw[ZF];lia) (λq E=>?_) m.hw m.hi m.hh m.pl _ λO N K _ A=>?_
  .obtain⟨e,v,rfl⟩:=ZQ.mp E;exact Zl n wf v
  .have i:=g.trans K;exact c6<|w_mTup.mpr<|bJ ⟨_,(j i).1,bJ ⟨_,(j i).2,bJ<|bS rfl<|(Hd A).mpr ⟨_,rfl,by show(3:Nat)<=ZX;decide,H _ _ i⟩⟩⟩
theorem Zq(h:x∈dW kvs k d):x∈kvs\/x=(k,d):=by
 unfold dW at h;split at h
 .obtain⟨y,a,rfl⟩:=ZQ.mp h;split
  .rename_i e;rw[e];exact .inr rfl
  .exact .inl a
 .exact(a0M.mp h).imp id λz=>a0r.mp z
theorem Zs kvs k d:(dW kvs k d).length<=kvs.length+1:=by
 unfold dW;split
 .rw[ZF];exact a2D _
 .rw[ZO];exact ZN _
noncomputable def Ls(F:Int×Int->Ly)(b:jq)(μ:Hm)(p:Int×Int)(c:Nat)(a:List Nat):Prop:=μ[c]?=a7 (.lst<|a.map D.loc)/\a.length<=b.length/\∀l∈a,∃e∈b,aX F e=p/\Two μ l e
noncomputable def Ln(F:Int×Int->Ly)(a:jq)(μ:Hm)(kvs:jx):Prop:=kvs.length<=a.length/\∀x∈kvs,∃p c b,x=(a9 p,.loc c)/\Ls F a μ p c b
theorem Ls.keep(L:Ls F es μ p c d)(h:∀(b:Nat)x,μ[b]?=a7 (C.lst x)->μ'[b]?=a7 (C.lst x))(n:es.length<=es'.length)(o:∀e∈es,e∈es'):Ls F es' μ' p c d:=⟨h _ _ L.1,a0A L.2.1 n,λl g=>let⟨e,i,j,x,y,k,m⟩:=L.2.2 l g;⟨e,o e i,j,x,y,h _ _ k,m⟩⟩
theorem J6{kvs:jx}(g:μ[a]?=a7 (.dT kvs))(L:Ln F es μ kvs)p:∃c j,fR (.loc a) [PP p,.loc μ.length] (μ++[C.lst []])=a7 (.loc c,μ++[C.lst []])/\Ls F es (μ++[C.lst []]) p c j:=by
 have k:=aT μ<|C.lst [];cases i:b8 kvs (a9 p)with
 |some d=>
  obtain⟨x,m,o⟩:=ZH.mp i;obtain⟨n,c,j,rfl,K⟩:=L.2 x<|a4x m;have e:a9 n=a9 p:=by simpa using a9D m
  have:n=p:=kM e;subst this;refine⟨c,j,?_,K.keep (λb x h=>aG k h) (ZN _) λ_ h=>h⟩;simp only[fR,aG k g,cF,Z4];rw[i,<- o];rfl
 |none=>refine⟨μ.length,[],?_,bM _ _,a0I _,λl h=>nomatch h⟩;simp only[fR,aG k g,cF,Z4];rw[i];rfl
theorem Zt{a:List Nat}{i:Nat}(h:(a.map D.loc)[i]?=a7 d):∃l,a[i]?=a7 l/\d=.loc l:=by rw[ZU]at h;obtain⟨l,b,c⟩:=ZH.mp h;exact⟨l,b,c.symm⟩
noncomputable def Zu(k:Nat):MS:=(bE (dQ<|aH (f k "_law_cross")<|aC (aA 6)<|aC (aA 9)<|aC (aA 11) aD) (aS<|mC<|.bl b4) bI)
theorem Ln.up{μ':Hm}(L:Ln F a μ kvs)(p:μ<+:μ'):Ln F a μ' kvs:=⟨L.1,λx e=>let⟨i,c,g,d,K⟩:=L.2 x e;⟨i,c,g,d,K.keep (λb x h=>aG p h) (ZN _) λ_ h=>h⟩⟩
noncomputable def J8(k:Nat):MS:=(aJ (aO 9<|aH (f k "_law_beside")<|aC (aA 8) aD)<|aJ (aO 10<|aH (f k "_law_led")<|aC (aB aF (aA 4)<|aB aF (aA 9)<|mC<|.int 0)<|aC (aA 8) aD)<|aJ (b7 (cX<|iE fR (aA 7)<|aC (aA 10)<|aC (cJ aD) aD) (cP 11)<|bE (dQ<|aH (f k "_law_cross")<|aC (aA 6)<|aC (aA 9)<|aC (aA 11) aD) (aS<|mC<|.bl b4) bI)<|dB (aA 7) (aA 10)<|aB bP (iE fR (aA 7)<|aC (aA 10)<|aC (cJ aD) aD)<|cJ<|aC (aA 9) aD)
theorem Zv{ν μ:Hm}{kvs:jx}k(hs:(w,h)∈c9)(wf:Wf w h F)(nd:(bU w h).Nodup)(P:Pil (bU w h) (λq=>aE (F q) q) G)(nc:NC w h F G)(nf:fl.Nodup)(mf:∀q∈bU w h,q∈fl)(gt:ν[t]?=a7 (.dT<|aN (λq=>LD<|F q)<|bU w h))(gc:ν[cc]?=a7 (.dT<|aN (gW F G) fl))(p0:ν<+:μ)(la:ν.length<=a)(g:μ[a]?=a7 (.dT kvs))(L:Ln F ((bB w h).take i) μ kvs)(he:(bB w h)[i]?=a7 e)Q(H:∀x9 O I J r,ν<+:r->r[a]?=a7 (.dT J)->Ln F ((bB w h).take<|i+1) r J->(∀(b:Nat)x,μ[b]?=a7 (C.lst x)->r[b]?=a7 (C.lst x))->Q (.nx,[x0,x1,x2,x3,a7<|.loc t,x5,a7<|.loc cc,a7<|.loc a,a7<|PP e,x9,O,I,R],r)):
  W (J8 (k+3) [x0,x1,x2,x3,a7<|.loc t,x5,a7<|.loc cc,a7<|.loc a,a7<|PP e,x9,O,I,R] μ) Q:=by
 obtain⟨_,_,_,_,_,l2,upR,fr⟩:=eT _ hs;replace l2:(bB w h).length<=64:=l2;have nr:(bB w h).Nodup:=Cm<|xI upR;have hm:=Z1 he;have hi:i<(bB w h).length:=(ZG.mp he).1;obtain⟨r1,qa,qb,_⟩:=fr e hm;refine bV<|bS rfl<|Zg (k+2) r1 _ _ λm s p1 T1=>?_;obtain⟨u,v,gm,o⟩:=id T1;have hu:u∈bU w h/\aE (F u) e=aX F e:=by
  rcases o with⟨rfl,rfl⟩|⟨rfl,rfl⟩
  .exact⟨qa,rfl⟩
  .exact⟨qb,tV r1<|wf.ed e hm⟩
 refine bV<|eA<|bJ<|bA ⟨_,rfl,bQ rfl rfl<|(cQ gm<|show atI ([u,v].map PP) 0=a7 (PP u)from rfl).mpr<|(fH (.inl<|aG (p0.trans p1) gt) (cF u)<|fW nd hu.1).mpr ⟨_,rfl,(xB (k+2) (F u) (wf.di u) e _ _).mpr ?_⟩⟩;rw[hu.2];have g1:=aG p1 g;have L1:=L.up p1;obtain⟨c,ls,ge,K⟩:=J6 g1 L1<|aX F e;refine iT<|w_mForI.mpr<|w_iSeq.mpr<|oT ⟨_,rfl,oU g1,w_mCons.mpr ⟨_,rfl,w_mCons.mpr<|w_mLst.mpr ⟨_,rfl,a0I _,_,rfl,_,ge,(fS K.1).mpr ?_⟩⟩⟩;have p2:=p1.trans<|aT s<|C.lst [];have g2:=aG (aT s<|C.lst []) g1;have T2:=T1.more<|aT s<|C.lst [];have L2:=L1.up<|aT s<|C.lst [];have X:=aG (aT s<|C.lst []) gm;generalize s++[C.lst []]=μ2 at p2 g2 T2 L2 K X;refine mS (b:=Zu (k+3)) (λj T r=>∃x,T=[x0,x1,x2,x3,a7<|.loc t,x5,a7<|.loc cc,a7<|.loc a,a7<|PP e,a7<|.loc m,a7<|PP<|aX F e,x,R]/\μ2<+:r) ⟨I,rfl,a0c _⟩ (by rintro _ _ _ ⟨_,_,q⟩;exact aG q K.1) ?_ ?_
 .rintro j d T A hd ⟨x,rfl,E⟩;obtain⟨l',hl',rfl⟩:=Zt hd;obtain⟨U,m',s',T'⟩:=K.2.2 l'<|Z1 hl';have Y:=a3i m';have ne:e≠U:=λz=>m7 nr he<|z▸m';exact⟨_,rfl,w_mIfS.mpr<|iG (b:=b4)<|bS rfl<|Zj (k+1) ⟨hs,wf,nd,P,hm,Y,ne,s'.symm,nc e hm U Y s'.symm⟩ nf (aG (p0.trans<|p2.trans E) gc) mf (T2.more E) (T'.more E) _ λμ4 M=>⟨rfl,d5 rfl<|w_mNext.mpr ⟨_,rfl,E.trans M⟩⟩⟩
 .rintro T A ⟨x,rfl,E⟩;refine⟨rfl,?_⟩;have L3:=L2.up E;have g3:=aG E g2;obtain⟨c',B,ge',K'⟩:=J6 g3 L3<|aX F e;have lt:=a3j i<|bB w h;refine w_mPut.mpr<|bA<|oT ⟨_,rfl,oU g3,w_mCons.mpr ⟨_,rfl,w_mCons.mpr<|w_mLst.mpr ⟨_,rfl,a0I _,_,rfl,_,ge',w_mLst.mpr ⟨_,rfl,BF,?_⟩⟩⟩⟩;refine(Bu (aG (aT _ _) K'.1) (bM _ _)<|by rw[ZF,a0n];have:=K'.2.1;show _+1<=_;lia).mpr ?_;have M:=((aT A<|C.lst []).trans<|aT _<|C.lst [D.loc m]).trans<|aT _<|C.lst<|B.map D.loc++[D.loc m];have g5:=bM ((A++[C.lst []])++[C.lst [D.loc m]])<|C.lst<|B.map D.loc++[D.loc m];have K4:=K'.keep (μ':=((A++[C.lst []])++[C.lst [D.loc m]])++[C.lst<|B.map D.loc++[D.loc m]]) (λb x h=>aG ((aT _<|C.lst [D.loc m]).trans<|aT _ _) h) (ZN _) λ_ h=>h;generalize((A++[C.lst []])++[C.lst [D.loc m]]).length=n at g5;generalize((A++[C.lst []])++[C.lst [D.loc m]])++[C.lst<|B.map D.loc++[D.loc m]]=μ5 at M g5 K4;have g4:=aG M g3;have Z:∀(b:Nat)(x:List D),μ5[b]?=a7 (C.lst x)->(μ5.set a<|.dT<|dW kvs (a9<|aX F e)<|.loc n)[b]?=a7 (C.lst x):=λb x hb=>by rw[ZP λz=>by rw[z,hb]at g4;cases g4];exact hb
  have tk:=fV he;have ll:((bB w h).take i).length<=((bB w h).take<|i+1).length:=by rw[tk,ZO];exact a9A _ _
  have ms:∀z∈(bB w h).take i,z∈(bB w h).take (i+1):=λz N=>by rw[tk];exact a3U _ N
  refine⟨_,rfl,_,rfl,(mV g4 (cF _)<|by rw[a0n];have:=L3.1;lia).mpr<|H _ _ _ _ _ (fL (p0.trans<|p2.trans<|E.trans M) la _) (eQ g4) ⟨?_,λx hx=>?_⟩ λb x hb=>Z b x<|aG (p2.trans<|E.trans M) hb⟩
  .rw[tk,ZO];exact a0A (Zs _ _ _)<|a8o L3.1 1
  .rcases Zq hx with hx|rfl
   .obtain⟨p,c,ls,e1,K⟩:=L3.2 x hx;exact⟨p,c,ls,e1,K.keep (λb x h=>Z b x<|aG M h) ll ms⟩
   .refine⟨aX F e,n,B++[m],rfl,?_,?_,λz N=>?_⟩
    .rw[Z7];exact Z _ _ g5
    .rw[ZO,tk,ZO];exact a8o K4.2.1 1
    .rcases a0M.mp N with N|N
     .obtain⟨U,m',s',x,y,gx,ox⟩:=K4.2.2 z N;exact⟨U,ms U m',s',x,y,Z _ _ gx,ox⟩
     .rw[a0r.mp N];exact⟨e,by rw[tk];simp,rfl,u,v,Z _ _<|aG (E.trans M) X,o⟩
theorem Zw k(j:qs.length<=64)(i1:μ[o]?=a7 (.ins "Folding"<|kN w h b))(i2:μ[b]?=a7 (.lst<|xs++[d]))(S:StZ μ b d F qs G)(c:Gd qs F G)(Q:jz)(H:∀Y a,μ<+:a->Pz a μ.length μ.length Y->GZ Y=G->Q (.loc μ.length,a)):W (f (k+2) "Folding.piles" [.loc o] μ) Q:=by
 obtain⟨l,p,Z,rfl,i,I,e,rfl,n⟩:=S.ex;obtain⟨_,_,m,_⟩:=c.key;refine Xl k i1 i2 I e (by lia) _ ?_;generalize hν:μ++(C.dT (aM<|cN (μ.length+1) Z)::Z.map λz=>C.lst<|z.2.1.map PP)=ν;refine H (cN (μ.length+1) Z) ν (by rw[<- hν];exact a2S _ _) ⟨?_,by rw[wX<|nD _ _];exact I.kd,λz g=>?_⟩<|nD _ _
 .rw[<- hν,a0N<|ZN _,a3L];rfl
 .have:=wY Z (μ.length+1) (μ++[.dT<|aM<|cN (μ.length+1) Z]) [] (by rw[ZO];rfl) z g;refine⟨by lia,?_⟩;rw[a0p,a0R]at this;rw[<- hν];exact this.2
theorem Zx{Q:jz}(H:Q (.bl b5,μ)):W (fK b4 (.bl b5) (.bl b5) μ) Q:=W_some.mpr H
inductive LnI (ns:List Int)(w h:Int)(o a b c d:Nat)(F:Int×Int->Ly)(ν:Hm)(z:Nat):Nat->aI->Hm->Prop
 |mk {i:Nat}{x8 x9 x10 x11:Option D}{kvs:jx}{μ:Hm}(p:ν<+:μ)(g:μ[d]?=a7 (.dT kvs))(L:Ln F ((bB w h).take i) μ kvs)(gr:μ[z]?=a7 (.lst<|(bB w h).map PP)):LnI ns w h o a b c d F ν z i [a7<|.rol<|ns.map D.int,a7<|.int w,a7<|.int h,a7<|.loc o,a7<|.loc a,a7<|.loc b,a7<|.loc c,a7<|.loc d,x8,x9,x10,x11,b3] μ
theorem Zy k(ns:List Int)μ:W (f (k+7) "law" [.rol<|ns.map D.int] μ) λr=>r.1=.bl true:=by
 refine dR (VU (k+6) _ μ) (w_mSeq.mpr<|w_mAsg.mpr<|eA<|bJ ⟨_,rfl,bJ ⟨_,rfl,bJ<|bA ⟨_,rfl,bA<|bS rfl<|tB (k+5) ns 13 (by decide) _ _ λμ1 p1=>⟨_,rfl,(iF<|by decide).mpr<|w_addI.mpr ⟨_,rfl,?_⟩⟩⟩⟩⟩);refine Y9 k ns (by lia) _ _ λw h o b xs d dl F G a hw s J=>⟨_,rfl,?_⟩;have u:=Jr hw s;have wf:=J.jl.wf u;obtain⟨_,_,l1,l0,up,l2,upR,fr⟩:=eT _ u;replace l1:(bU w h).length<=48:=l1;replace l0:1<=(bU w h).length:=l0;have up:=xI up;have nd:(bU w h).Nodup:=Cm up;have so:=up.imp λ{x y} h1=>XR h1;obtain⟨_,z2,z3,z4,z5,_⟩:=tL w (gG hw) h<|gG s;have N:=JY w (gG hw) h<|gG s;obtain⟨l,p,Z,R,gl,I,gp,eZ,nb⟩:=J.s1.ex;subst R;have P:Pil (bU w h) (λq=>aE (F q) q) G:=by rw[<- N];exact J.gd.pl
 refine bV<|xE ⟨_,rfl,o,_,rfl,J.i1,rfl,_,rfl,Xk (k+5) z3 z5 J.i1 J.i2 gl _ ?_⟩;have j:=J.more<|aT a<|C.dT<|aN (λq=>LD<|F q)<|c8 w h;have H:=bM a<|C.dT<|aN (λq=>LD<|F q)<|c8 w h;generalize a++[C.dT<|aN (λq=>LD<|F q)<|c8 w h]=μ3 at j H;rw[N]at H;refine bV (xE ⟨_,rfl,o,_,rfl,j.i1,rfl,_,rfl,Zw (k+4) (by lia) j.i1 j.i2 j.s1 j.gd _ λY μ4 p4 A eY=>?_⟩);have B:Pil (bU w h) (λq=>aE (F q) q) (GZ Y):=by rw[eY];exact P
 have n:Dr (bU w h) μ4 a.length μ3.length F (bU w h) Y:=⟨aG p4 H,.refl _,⟨.inl A.dic,A.kd,λz X=>(A.at_ z X).2⟩,A.dic,B⟩;have ne:a.length≠μ3.length:=Z6 (ZG.mp H).1;refine bV (bS rfl<|Zc (k+4) nd (by lia) wf.di n.hw n.hi n.hh n.pl ne _ λc g p5 g5=>?_);have M:=B.flat nd;have es:cK (flat<|GZ Y)=c8 w h:=by rw[srt_eq.mpr M,IX so,N]
 refine w_mSeq.mpr (w_mIfS.mpr<|BI<|fG<|bQ rfl rfl<|w_isLN.mpr ⟨_,rfl,rfl,fG<|bA<|bS rfl<|j0 (gH<|(IW g5<|by rw[M.length_eq];lia).mpr<|congrArg (λl=>(D.loc g.length,g++[C.lst<|l.map PP])) es)<|bS rfl<|HP (k+5) w h hw s _ _ ?_⟩);refine(Bt (ne:=b5) (aG (aT _ _)<|bM _ _)<|bM _ _).mpr ⟨_,rfl,d5 (by simp)<|w_mNext.mpr ?_⟩;have K:=(aT g<|C.lst<|(c8 w h).map PP).trans<|aT _<|C.lst<|(c8 w h).map PP;generalize(g++[C.lst<|(c8 w h).map PP])++[C.lst<|(c8 w h).map PP]=μ6 at K;have O:=n.more<|p5.trans K;have g6:=aG K g5;have nf:=M.nodup_iff.mpr nd;refine bV<|w_mDNewT.mpr<|iT<|w_mForI.mpr<|w_iSeq.mpr<|bS rfl<|Ze (k+5) w h hw s _ _<|(fS<|bM _ _).mpr ?_;have nc:NC w h F (GZ Y):=by rw[eY];exact J.nc
 refine mS (b:=J8 (k+6)) (LnI ns w h o a.length μ3.length c μ6.length F μ6 (μ6++[C.dT []]).length) (.mk ((aT _ _).trans<|aT _ _) (aG (aT _ _)<|bM _ _) ⟨a0I _,λx hx=>nomatch hx⟩<|bM _ _) (by rintro _ _ _ ⟨_,_,_,h⟩;exact h) ?_ ?_
 .rintro i dd ρ' μ7 hd ⟨L,g7,L7,gr⟩;obtain⟨e,he,rfl⟩:=lO hd;exact⟨_,rfl,Zv (k+3) u wf nd O.pl nc nf (λq hq=>M.mem_iff.mpr hq) O.hw g6 L (ZN _) g7 L7 he _ λy9 y10 y11 kvs' μ8 m g8 L8 kp=>.mk m g8 L8<|kp _ _ gr⟩
 .rintro ρ' μ7 ⟨L,g7,L7,gr⟩;have v:=j.more<|p4.trans<|p5.trans<|K.trans L;have E:=O.more L;obtain⟨l',q',Z',R,T,I',U,Q,_⟩:=v.s1.ex;cases R;refine⟨rfl,bV<|xE ⟨_,rfl,o,_,rfl,v.i1,rfl,_,rfl,Zp k u wf nd (row:=bU w h) v.i1 v.i2 ⟨by rw[<- N];exact T,.refl _,I',U,by rw[Q];exact P⟩ _ λS μ8 m=>?_⟩⟩;refine c6<|w_mAndV.mpr<|bA<|bS rfl<|Y4 k u wf nd (E.more m) _ λμ9 p9=>⟨_,rfl,?_⟩;rw[Y3 nc];have z1:=B.lenZ;refine w_isNN.mpr (fX rfl<|bA<|bS rfl<|Yv (k+3) a.length F wf.di (bU w h) (bU w h) (.refl _) so ⟨l0,by lia⟩ nd (aG (m.trans p9) E.hw) (E.hi.more<|m.trans p9) (aG (m.trans p9) E.hh) (by lia) (λz X=>by have:=(z1.2 z X).2;lia) _ λμA pA=>⟨_,rfl,?_⟩);rw[Zm so B];exact Zx rfl
theorem Zz:∀ns:List Int,ns.length<=63->∃μ',gQ S ds 7 "law" [.rol<|ns.map D.int] []=a7 (.bl b5,μ'):=λns _=>by obtain⟨⟨d,μ'⟩,a,b⟩:=Zy 0 ns [];dsimp only at b;subst b;refine⟨μ',?_⟩;unfold f at a;exact a
theorem oz Q:∀f x,S.ob.lookup f=a7 x → ∃C,CAt (Kx Q) x C ∧ Cls (Kx Q) C ∧ NoAttr (Kx Q) C f:=UD<|by kernel_rfl
theorem mz Q:∀m x y n,S.mt.lookup m=a7 (x,y,n) → ∃C g,CAt (Kx Q) x C ∧ Cls (Kx Q) C ∧ Meth (Kx Q) C m g ∧ oQ (Kx Q) (lk S ds y) n g:=UE<|a3k.mpr ⟨⟨by kernel_rfl,"Folding.fold",fA 51 1,by kernel_rfl,⟨by kernel_rfl,by kernel_rfl,by kernel_rfl⟩⟩,a3k.mpr ⟨⟨by kernel_rfl,"Folding.layings",fA 51 4,by kernel_rfl,⟨by kernel_rfl,by kernel_rfl,by kernel_rfl⟩⟩,a3k.mpr ⟨⟨by kernel_rfl,"Folding.piles",fA 51 5,by kernel_rfl,⟨by kernel_rfl,by kernel_rfl,by kernel_rfl⟩⟩,a3k.mpr ⟨⟨by kernel_rfl,"Folding.sheet",fA 51 6,by kernel_rfl,⟨by kernel_rfl,by kernel_rfl,by kernel_rfl⟩⟩,λ_ z=>nomatch z⟩⟩⟩⟩
theorem yz Q:∀x y n,S.mc.lookup x=a7 (y,n) → lk S ds x=b3 ∧ ∃C g,CAt (Kx Q) x C ∧ Mk (Kx Q) C g ∧ oQ (Kx Q) (lk S ds y) n g:=UG<|a3k.mpr ⟨⟨by kernel_rfl,by kernel_rfl,by kernel_rfl,"Folding.__init__",fA 51 0,by kernel_rfl,⟨by kernel_rfl,by kernel_rfl,by kernel_rfl⟩⟩,λ_ z=>nomatch z⟩
theorem dz Q:wB (Kx Q) ds:=by unfold wB;kernel_rfl
theorem cz Q:GU (Kx Q) S.con=true:=by kernel_rfl
theorem nz Q:S.no.map (a2O (Kx Q) a1b)=S.no.map λ_=>a7 none:=by kernel_rfl
theorem ZA{P:a0j}(X:(Kx Q).In h)(G:h.Ns a1b a):TxtOk P w (Kx Q) a S ds ∧ ∃f b,Fun (Kx Q) "law" "law" (aK 67) f b ∧ a "law"=a7 (.ref f) ∧ ∀s u,a6P s b ⟨[u],[]⟩ [("_law_script",u)]:=by
 refine⟨⟨Uv<|by decide +kernel,Uw λp c=>(GQ X G (dz Q) p c).1,Ux<|UC X G<|cz Q,λx d e=>?_,Uy<|UB X G<|nz Q,oz Q,mz Q,yz Q,UH<|by kernel_rfl⟩,UA X G (dz Q) (by kernel_rfl)<|by kernel_rfl⟩
 .cases e
end Lw
open PySem PySem.W PyProof.Rows
set_option maxRecDepth 100000 in
set_option maxHeartbeats 0 in
theorem PySem.Challenge.cw_creasecourt_k83_whole_nothing_crosses_holds : PySem.Challenge.rw_creasecourt_k83_whole_nothing_crosses.Holds := by
 w_on
 refine holds_law (by decide +kernel) fun a=>?_
 refine holds_open (q:=Lw.Vw) (loose:=[]) (Xt:=fun s=>xlAt Lw.Vw [] s&&recOk (b0k<|a8U<|a0U ZI) s) (XP:=XL Lw.Vw []) (Yf:=Hook.obs (b1w Lw.Kx Lw.As Lw.rJ)) (Ya:=Hook.val (b1w Lw.Kx Lw.As Lw.rJ)) (YP:=Hook.says (b1w Lw.Kx Lw.As Lw.rJ)) (N:=5744) Lw.run (Hook.of _) (Hook.keeps _) (fun s e=>xl_of s (a3l.mp e).1) XL.keeps (by rfl) (by rfl) (by rfl) (fun s e=>recFacts_of (a3l.mp e).2) (by rfl) (by first|assumption|decide +kernel) (by decide +kernel) ⟨rfl,rfl,rfl,rfl,rfl,by decide +kernel⟩ ?hw ?hc
 case hw=>w_witness2
 k_fill
 refine L3.walkM (l:=ZI) (S:=Lw.S) (ds:=Lw.ds) (k:=7) (st:=Lw.aK 67) (x:="_law_script") rfl rfl ⟨rfl,by decide,by decide⟩ (fun w h Y=>PySem.W.kIn_of Y) (by kernel_rfl) (by kernel_rfl) ?F fun c h _=>Lw.Zz c h
 case F=>
  intro w d h b G
  refine' Lw.ZA (P:=a0P) (w:=w)  b G
