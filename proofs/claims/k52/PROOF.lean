import PyProof.Rows.All
import Wide.All
import OpenK.AllK
import PySem.Challenge.RW_creasecourt_k52_whole_rounds
local macro_rules|`(def $i:declId $s:optDeclSig $v:declVal)=>`(theorem $i $(⟨Lean.mkNode `Lean.Parser.Command.declSig #[s.raw[0],s.raw[1][0]]⟩):declSig $v:declVal)
local macro_rules|`(abbrev $i:declId $s:optDeclSig $v:declVal)=>`(noncomputable def $i $s $v:declVal)
local macro_rules|`(tactic|show $e:term)=>`(tactic|refine $e)
local macro_rules|`(⋯)=>`(by lia)
local macro_rules|`(nofun)=>`(by omega)
open Option renaming some->b0,none->b5
open Bool renaming false->dI,true->d7
open Array renaming mk->Zv,getElem?_toList->a0o,toList_push->a0A,toList_append->a1k,toList_inj->a1o,length_toList->a1I,getElem?_eq_getElem->a3L,replicate->a5K,toList_setIfInBounds->a6g,getElem?_eq_some_iff->a6h,eraseIdxIfInBounds->a6y,toList->a6N,getElem?_eq_none->a6O,toList_reverse->a7n,toList_extract->a7o,swapIfInBounds->a7p,isEmpty_iff->a8c,getElem_mem->a8d,getD->b0m,map->b0N
open Bool renaming false_ne_true->YE,and_eq_true->YK,false_eq_true->Zf,and_eq_true_iff->a1G,eq_iff_iff->a1U,or_eq_true->a2C,not_eq_true'->a2R,not_true->a3Z,not_false->a4C,or_false->a4R,and_false->a6p,true_and->a6H,false_or->a6I,false_and->a9q,and_true->a9F
open Classical renaming choose->a2e,choose_spec->a2G,byContradiction->a5A
open False renaming elim->a1h
open ForInStep renaming yield->a0Y
open Int renaming toNat_natCast->a0S,emod_lt_of_pos->a1y,emod_nonneg->a1V,zero_add->a2U,le_of_lt->a2V,emod_add_emod->a2W,emod_emod_of_dvd->a3o,le_trans->a5q,le_refl->a5Q,not_lt->a8E,natCast_emod->a9g,emod_two_eq->a9o,emod_emod->a9V
open List renaming length_map->Yu,getElem?_eq_some_iff->Yy,getElem?_eq_getElem->Yz,length_append->YF,size_toArray->YI,mem_singleton->YL,mem_append->YN,mem_map->YO,append_assoc->YQ,prefix_refl->YS,getElem?_map->YU,map_append->YV,getElem?_set_ne->YW,mem_of_getElem?->YZ,map_map->Y0,getD_eq_getElem?_getD->Y3,map_cons->Za,length_take->Zb,length_cons->Zc,getElem?_append_left->Ze,range->Zj,mem_cons_of_mem->Zl,mem_cons->Zm,getElem?_append_right->Zn,take_length->Zp,mem_cons_self->Zs,append_nil->Zt,take_append_drop->Zu,getElem?_eq_none_iff->Zx,pairwise_iff_getElem->ZC,all_cons->ZD,length->ZE,zipWith_cons_cons->ZF,take_zero->ZG,getElem?_set_self->ZH,mem_filter->ZL,nodup_cons->ZO,length_reverse->ZP,mem_range->ZR,getElem_mem->ZU,getD->ZV,find?_cons->ZZ,length_drop->Z5,take_of_length_le->Z6,mem_append_right->a0a,getElem?_toArray->a0b,getElem?_reverse->a0c,length_range->a0e,pairwise_append->a0g,drop_eq_getElem_cons->a0h,toList_toArray->a0m,map_congr_left->a0n,length_filter_le->a0p,pairwise_map->a0C,nodup_append->a0D,getElem?_eq_none->a0E,length_set->a0J,find?_eq_none->a0V,getElem?_take_of_lt->a0X,getElem?_of_mem->a0Z,drop_zero->a1a,length_eq_zero_iff->a1g,nil_append->a1i,filterMap_cons->a1l,not_mem_nil->a1p,take_succ->a1r,set_cons_zero->a1s,replicate->a1t,filter_append->a1u,perm_append_comm->a1w,length_replicate->a1x,flatMap_append->a1L,getElem?_replicate->a1M,cons_append->a1N,range_succ->a1R,length_nil->a1S,filter_map->a1T,mem_iff_getElem?->a1Y,take_sublist->a2c,lookup_cons->a2p,all_eq_true->a2q,filter_eq_self->a2u,set_cons_succ->a2D,lookup->a2F,reverse_cons->a2P,drop_of_length_le->a2Q,set_append_right->a2Y,range'_succ->a2Z,mem_flatMap->a3a,filter_cons->a3b,any_eq_true->a3c,take_append_of_le_length->a3i,range'->a3j,mem_of_mem_take->a3k,length_take_le'->a3l,drop_append_of_le_length->a3m,getElem_of_mem->a3z,pairwise_cons->a3G,reverse_perm->a3P,idxOf_append->a3Q,ext_getElem?->a3R,drop_sublist->a3S,zipWith->a4h,range_succ_eq_map->a4i,pairwise_reverse->a4s,length_singleton->a4t,take_succ_cons->a4L,getElem?_range->a4M,getElem?_drop->a4S,Nodup->a4T,map_nil->a5g,getElem_take->a5h,flatMap_cons->a5i,eraseIdx_eq_take_drop_succ->a5p,nodup_range->a5y,of_mem_zip->a5N,length_zip->a5O,foldl_cons->a5P,idxOf_lt_length_of_mem->a6d,take_left->a6l,drop_left->a6m,drop_drop->a6n,extract_eq_drop_take->a6x,map_take->a6E,idxOf_lt_length_iff->a6F,any_cons->a6G,head_eq_of_cons_eq->a6K,filter_cons_of_pos->a6L,filter_cons_of_neg->a6M,not_of_lt_findIdx->a6S,length_pos_of_mem->a6T,any_map->a6U,all_map->a6V,getElem?_zipWith->a7i,eq_nil_or_concat->a7j,concat_eq_append->a7k,mem_of_mem_drop->a7v,mem_append_left->a7w,map->a7x,findIdx_getElem->a7y,takeWhile_cons->a7I,map_eq_nil_iff->a7J,length_take_le->a7K,getD_cons_zero->a7L,filter_sublist->a7M,filter_reverse->a7N,zip_cons_cons->a8a,mem_filterMap->a8b,take_add_one->a8z,map_inj_left->a8A,getElem_drop->a8B,foldl_append->a8C,find?_append->a8D,take_append->a8I,mem_reverse->a8J,map_reverse->a8K,getElem_inj->a8L,countP_cons->a8M,forIn_cons->a9c,filter_nil->a9d,drop_left'->a9e,map_id'->a9S,flatMap->a9T,map_id->b0h
open List.Nodup renaming length_le_of_subset->a0T
open List.Pairwise renaming sublist->a0v,imp_of_mem->a2d,nil->a4o,map->a4p,imp->b0i
open List.Perm renaming refl->a4e
open List.Sublist renaming refl->b0D,length_le->b0E
open List.cons renaming injEq->a7z
open Nat renaming le_refl->YG,ne_of_lt->Y7,lt_of_lt_of_le->Zg,le_trans->Zr,zero_le->a0d,lt_irrefl->a0f,ne_of_gt->a0r,lt_of_succ_lt->a0s,lt_succ_self->a0x,le_of_lt->a0y,add_sub_cancel_left->a0K,zero_add->a0R,min_eq_left->a1F,mod_lt->a2l,le_succ->a2m,sub_self->a2t,le_of_not_lt->a3f,add_assoc->a3h,le_antisymm->a3y,not_lt->a3I,lt_trichotomy->a3V,lt_succ_of_lt->a3W,le_of_lt_succ->a3X,mod_eq_of_lt->a4d,succ_pos->a4l,sub_zero->a4m,le_of_eq->a4n,add_sub_cancel->a5c,add_right_comm->a5d,lt_trans->a5o,not_lt_zero->a6b,le_add_left->a6c,exists_eq_add_of_lt->a6R,succ_mul->a7g,sub_eq_zero_iff_le->a7h,le_zero->a7G,add_sub_add_left->a7H,add_le_add_left->a7Y,lt_or_eq_of_le->a8x,lt_of_le_of_lt->a8y,lt_of_not_le->a9b,mul_le_mul->a9D,add_le_add->a9E,lt_or_ge->b0f,add_zero->b0g,log2_lt->b0C
open Ne renaming symm->ZJ
open Option renaming bind_eq_some_iff->Yv,map_eq_some_iff->YB,bind_some->Y9,map_some->Zh,isSome_map->a3H,getD_none->a3U,isSome_iff_exists->a6k,getD_some->a7X
open Option.some renaming inj->YX
open Or renaming inr->a5f,inl->a6D
open PUnit renaming unit->a6a
open Prod renaming ext->a4b,ext_iff->a6Q
open Prod.mk renaming inj->a0W
open PyProof.Rows renaming callWith_type1->Z4,SortSt->a0w,seqObj->a0G,SortKind->a1q,IntsAre->a2B,callWith_builtin1->a4z,entry_list_sort->a4K,slot_list_sort->a4W,args_list_sort->a5a,AllBare->a5l,subscriptTail->a5s,listUpdate_at->a5t,sortedHeap->a5F,gt_int->a5Y,envOfC->a5Z,seqEpoch_at->a6B,Subscript_->a7d,pendingOf->a7S,subscriptTail_builtinR->a8j,mergeAt'->a8U,arrOf->a8X,keyLt'->a9v,boot_range->a9B,IsTup->a9U,Call_->a9W,list_sort_plain->b0o,get?_update_seq->b0q,wpAny_notIn_heap->b0s,mul_int->b0t,lt_int->b0u,kindOf->b0v,floordiv_int->b0w,entry_proto_collect'->b0x,entry_list_iadd'->b0y,call_len_slot->b0z,assign_Tuple_tuple->b0A,assign_Tuple->b0B,tail_any->b0R,mirror->b0U,bubble->b0Y
open PyProof.Rows.Boot renaming list->a2T,sorted->a4k,tuple->a4r,dict->a4w,int->a4A,sum->a8m,str->a8n,reversed->a8o,min->a8p,max->a8q,len->a8r,isinstance->a8s,bool->a8t,all->a8u
open PyProof.Rows.SortSt renaming mk'->Zq
open PySem renaming wpAny_bind->Yw,Shared->YA,wpAny_pure->YH,sizeLine->YM,sizeLine_eq->Y2,Program->Y4,model->Y5,wpAny->Y6,Around->Zi,World->Zk,starEach->Zo,wpAny_holding->Zz,wpAny_mono->ZT,Heap->ZX,compareOp->Z0,codeAny_builtin->Z2,sysModules->Z3,wpAny_newObj_type->Z7,plainId_quiet->Z8,mem_of_lookup->Z9,wpAny_truthy_bool->a0i,mainGlobals->a0j,cLine->a0k,wpAny_updateSeq->a0q,wpAny_dictEntries->a0t,Pos->a0u,bootBuiltins->a0B,Params->a0I,wpAny_tryCatch->a0U,wpAny_rule->a1b,wpAny_call_entry->a1c,wpAny_Call_Name_kw->a1d,treeTable->a1e,assignEach->a1m,wpAny_letGo->a1z,wpAny_seqItems->a1B,backTo->a1C,Scope->a1D,FuncData->a1E,NameKind->a1K,intKind->a1P,sliceBounds->a1W,wpAny_setField_rec->a1Z,wpAny_pyIter_tuple->a2a,pyNext->a2b,wpAny_passesOwn->a2g,wpAny_ite_split->a2h,tupleKind->a2i,behindInMarks->a2j,wpAny_notOrdered_dict->a2k,foldedSetIterable->a2o,richCompare->a2v,codeAny->a2y,Keyword->a2A,binaryOp->a2I,attributeBase->a2J,CmpOp->a2K,wpAny_specialOf->a2M,wpAny_loadPart'->a2N,wpAny_dictEpoch->a2O,compEnvC->a3e,wpAny_isInstance->a3r,updateSeq->a3s,seqItems?->a3t,rawInt->a3u,Paired->a3x,storedH->a3A,OsState->a3B,storedH_new->a3D,IsRangeIter->a3E,call_meetsIn->a3N,swapsWith->a3T,wpAny_pyIter_list->a4f,wpAny_field->a4g,atKey->a4v,wpAny_typeOf->a4D,wpAny_isOneOf_itemiter->a4E,call_meets->a4F,wpAny_execs_nil->a4H,size_of_entries->a4I,letOwnedTupleGo->a4J,builtinLookup_eq_fast->a4O,Env->a4U,wpAny_pyIter_revIter->a4V,keywordEach->a4Y,firstArgMember->a4Z,Result->a5b,valueAt->a5e,wpAny_newList->a5r,dictSetHashed->a5u,IsItemIterOut->a5z,typeLookup->a5E,entryOfKey->a5H,assign->a5I,slot_list_getitem->a5T,codeAny_mono->a5U,callerA->a5V,BindsTo->a6f,wpAny_forIn_list->a6q,seqIndex?->a6r,pyIter->a6s,PassesOwn->a6w,wpAny_of_eq->a6z,subscripted->a6A,typeLookup_type->a6J,getItem->a6P,wpAny_setField->a6W,wpAny_newTuple->a6X,wpAny_load->a6Y,dictSetDefault->a7a,backToKw->a7b,Sem->a7e,Operator->a7f,evalArgs_none->a7q,wpAny_standAt->a7B,wpAny_getItem_list_slice->a7C,wpAny_attempt->a7D,swappedStores->a7E,Tok->a7F,wpAny_pyNext_tuple_item->a7O,wpAny_callSpecial?_slot->a7P,wpAny_Call_method0_late->a7Q,slicePick->a7R,bindL->a7T,bindC->a7U,Model->a7Z,wpAny_pyNext_tuple_end->a8e,wpAny_pyNext_range_end->a8f,wpAny_pyNext_list_item->a8g,wpAny_pyIter_rangeiter->a8h,wpAny_Call_method_late->a8i,isTrue->a8k,wpAny_pyNext_list_end->a8F,wpAny_isOneOf_keyiter->a8G,wpAny_updateDictKeys->a8P,wpAny_pyIter_keyiter->a8Q,storedH_old->a8R,setField->a8S,newTuple->a8T,lookup_relabel_local->a8V,bindArgs->a8W,SetTable->a8Y,IntMulOk->a9f,HeapKind->a9h,GenState->a9i,wpAny_dictFind_heap->a9j,not_mem_keys_of_get->a9k,wpAny_tupleItemsOf->a9r,wpAny_pyIter_range->a9s,wpAny_Name->a9t,sliceRange->a9u,getattributeRaised->a9w,closureFor->a9x,call_reversed_list->a9y,call_function_tree->a9z,builtinsNs->a9A,wpAny_pyIter_slot->a9G,wpAny_pyIter_enum->a9H,wpAny_assign_Name->a9I,relabel->a9J,call_sum_walkAnyS->a9L,atKey_none_of_get->a9M,MeetsIn->a9R,wpAny_pyIter_zip->a9X,wpAny_execs_cons->a9Y,lastMarks->b0a,cellsFrom->b0b,call->b0d,typeNameOfWhole->b0n,importedModules->b0p,Fin->b0r,wpAny_fieldsOf->b0O,wpAny_Compare1->b0P,typeOf->b0Q,recursionLimit->b0S,newExc->b0T,isSubtype_stop->b0W,callType_codes->b0X
open PySem.Around renaming under_plainId->Zy
open PySem.Builtin renaming sorted->a7m
open PySem.Builtin.Builtins renaming bindParams->a4x
open PySem.Builtin.Dict renaming showsAll->a1O,updateFrom->a2n,entriesForEmpty->a4N,selfAndRest->a5j,addKeywords->a5k,pairItems->a5C,mergeDict->a5D,quietEq->a5S,readDirectly->b0H,pendingCount->b0I,noArgs->b0J,merge->b0K,keyAndDefault->b0L,dictSlotNone->b0M
open PySem.Builtin.Dict_items renaming ownsTuple->a2x,ownedTupleIsFree->a3J,ownedTupleFields->a3K,pairFromOwner->a3Y,newIterator->a8N,dictOf->a8O
open PySem.Builtin.Int renaming intBits->Zw,intTooBig->a2E
open PySem.Builtin.List renaming listExtendWith->a0F,listSameRef->a2f,listTooLong->a3q,listLengthHint->a4Q,listItems->a5B,listUpdate->b0G
open PySem.Builtin.Range renaming rangeSize->ZQ,small->b0l
open PySem.Builtin.Str renaming occurrences->a0l
open PySem.Builtin.Tuple renaming tupleHashOf->b0j,tupleCompareSizes->b0k
open PySem.Calls renaming callWith_builtin->a2L,spliced_cons->a3F,spliced_nil->a3M,Name_function_global->a6e,call_function_entry->a6o,evalArgs_plain->a7l
open PySem.Challenge renaming rw_creasecourt_k52_whole_rounds->YD,pw_creasecourt_k52_whole_rounds->Z1
open PySem.Data renaming fields->ZM,dict->a2r,cell->a4c,seq->a7A,cls->a9p
open PySem.F renaming slot_dict_items->a2w,plainAttrs_dict->a3O,slot_dict_setdefault->a5n,slot_dict_getitem->a5L,args_dict_items_1->a5M,slot_dict_update->a5W,entry_dict_items->a5X,type_dict_items->a6i,slot_dict_get->a6C
open PySem.Heap renaming get?_push_of_some->YC,lt_size->YJ,get?_push_size->YR,get?_update_other->ZI,get?_update_self->ZN,SameBut->a0Q,size_push->a1v,ExtBut->a4B
open PySem.Heap.DictOfH renaming new->b0F
open PySem.Heap.IsSliceOf renaming new->a5R
open PySem.Heap.IsTuple renaming push->a4G
open PySem.Heap.SameBut renaming update->ZS,refl->a3p
open PySem.IsRange renaming new->a9n
open PySem.MeetsSeq renaming plain_remove_loop->a1X,entry_remove_loop->a5x
open PySem.NameKind renaming free->a1j,cell->a1A
open PySem.Obj renaming mapSeq->ZW,data_mapDictKeys->a1H,isFreed_of_dict->a3C,data_mapFields->a8w,data_mapDict->a9a,mapFields->a9Q
open PySem.Paired renaming length->a6j,snoc->a9C
open PySem.PassesOwn renaming never->a7u
open PySem.SeqAt renaming ne_of_list_tuple->a0P,EqAt->a2z
open PySem.Str renaming ofString->a1n
open PySem.Value renaming ref->YY,type->Y8,int->ZA,none->a0z,builtin->a0N,bool->a0O,str->a4a,isStrOf->a6u,isInt->a7c
open PySem.Value.ref renaming inj->a4q
open PySem.W renaming Frag->Yx,kasC_bind->YT,kasC_pure->Y1,behindTheImports->Zd,boot_drawn->ZY,kasC_range->a0H,keepIn->a0L,fnOf->a0M,kia_one->a1f,kasC_modify->a1J,kasC->a2s,topFrame->a2H,boot_heap->a2X,kasC_get->a3d,nsIn->a3n,findIn->a3v,codeIn->a4j,kasC_lift->a4u,mg_of->a4y,methodObj->a4P,piecesOf->a4X,segRun->a5G,boot_toks->a6t,cellsFrom_some->a6v,kat_cons->a6Z,specialIn->a7r,kitx_list->a7s,kitx_dict->a7t,instObj->a7V,OpenLaw->a7W,kitOne->a8l,WalkO->a8H,isFn->a8Z,kat_yes->a9K,piece_app->a9Z,kHook->b0V
open PySem.W.OpenLaw renaming row->ZK
open PySem.W.OpenRow renaming toRowW->a8v
open PySem.W.RowW renaming records->a9P
open PySem.W.WData renaming int->a3g,weightAll->a3w,layable->a5w,weight->a5J,layableAll->b0e
open PySem.W.WShape renaming has->a9O
open PySem.Walks renaming tuple->a5v,range->a9N,list->b0c
open Std.Legacy.Range renaming size->a9l,forIn_eq_forIn_range'->a9m
open Sum renaming inr->a2S,inl->a5m
open True renaming intro->a1Q
set_option compiler.extract_closed false
set_option bootstrap.genMatcherCode false
set_option genSizeOf false
set_option genSizeOfSpec false
set_option Elab.async false
set_option linter.all false
set_option maxRecDepth 100000
set_option linter.all false
@[reducible]def gw:=List PySem.Value
@[reducible]def jw:=List<|PySem.Addr×PySem.Obj
@[reducible]def jq:=List<|Int×Int
namespace L2
open PySem PySem.Spec PyProof.Rows
noncomputable abbrev bG:=Sum Int Str
abbrev k7:bG->Value->Bool
 |.inl k,v=>a7c k v|.inr x,v=>a6u x v
abbrev B7(w:Zk):bG->Int
 |.inl k=>hashInt k|.inr x=>hashStr w x
def k8:∀{k}{v},k7 k v=d7->(∃i t,k=a5m i/\v=ZA i t)\/(∃x t,k=a2S x/\v=a4a x t)
 |.inl i,v,h=>by obtain⟨t,e⟩:=Value.isInt_shape (k:=i) (v:=v) h;show .inl ⟨i,t,rfl,e⟩
 |.inr x,v,h=>by obtain⟨t,e⟩:=Value.isStrOf_shape (x:=x) (v:=v) h;show .inr ⟨x,t,rfl,e⟩
def Jg i t:k7 (.inl i) (.int i t)=true:=by simp[k7,a7c]
def Jh x t:k7 (.inr x) (.str x t)=true:=by simp[k7,a6u]
def Ji a b:decide ((a5m a:bG)=a5m b)=(a==b):=by
 by_cases e:a=b
 .subst e;simp
 .have h:¬ (a5m a:bG)=a5m b:=λq=>e<|Sum.inl.inj q;rw[decide_eq_false h];show(beq_eq_false_iff_ne.mpr e).symm
def Jj a b:decide ((a2S a:bG)=a2S b)=decide (a=b):=by
 by_cases e:a=b
 .subst e;simp
 .have h:¬ (a2S a:bG)=a2S b:=λq=>e<|Sum.inr.inj q;rw[decide_eq_false h,decide_eq_false e]
def Jk a b:decide ((a5m a:bG)=a2S b)=false:=decide_eq_false λq=>nomatch q
def Jl a b:decide ((a2S a:bG)=a5m b)=false:=decide_eq_false λq=>nomatch q
abbrev gQ prog w:PySem.KeyKind prog w bG where
 is:=k7
 hash:=B7 w
 inj:=λv a b g d=>by
  rcases k8 g with⟨i,t,rfl,rfl⟩|⟨x,t,rfl,rfl⟩
  .rcases k8 d with⟨j,u,rfl,e⟩|⟨y,u,rfl,e⟩
   .injection e with e1 _;rw[e1]
   .show nomatch e
  .rcases k8 d with⟨j,u,rfl,e⟩|⟨y,u,rfl,e⟩
   .show nomatch e
   .injection e with e1 _;rw[e1]
 byValue:=λk v h=>by rcases k8 h with⟨i,t,rfl,rfl⟩|⟨x,t,rfl,rfl⟩<;>rfl
 pyHash:=λc h=>by
  rcases k8 c with⟨i,t,rfl,rfl⟩|⟨x,t,rfl,rfl⟩
  .show wpAny_pyHash_int h
  .show wpAny_pyHash_str h
 eqBool:=λl c h=>by
  rcases k8 l with⟨i,t,rfl,rfl⟩|⟨x,t,rfl,rfl⟩
  .rcases k8 c with⟨j,u,rfl,rfl⟩|⟨y,u,rfl,rfl⟩
   .rw[Ji]at h;show wpAny_eqBool_int h
   .rw[Jk]at h;show SeqAt.EqAt.int_str i t y u _ _ _ _ h
  .rcases k8 c with⟨j,u,rfl,rfl⟩|⟨y,u,rfl,rfl⟩
   .rw[Jl]at h;show SeqAt.EqAt.str_int x t j u _ _ _ _ h
   .rw[Jj]at h;show wpAny_eqBool_str h
 «strs»:=λk x t v h=>by
  rcases k8 h with⟨i,u,rfl,e⟩|⟨y,u,rfl,e⟩
  .show nomatch e
  .injection e with e1 _;subst e1;cases v<;>rfl
def Jm prog w i t:(gQ prog w).is (.inl i) (.int i t)=true:=Jg i t
def Jn prog w x t:(gQ prog w).is (.inr x) (.str x t)=true:=Jh x t
inductive V where
 |non|bl (b:Bool)|int (i:Int)|str (x:Str)|byt (b:Array UInt8)|flt (b:UInt64)|ref (a:Addr)|ty (n:String)
 deriving DecidableEq
@[reducible]def gz:=List V
abbrev RelV:V->Value->Prop
 |.non,u=>u=a0z|.bl b,u=>u=a0O b|.int i,u=>∃t,u=ZA i t|.str x,u=>∃t,u=a4a x t|.byt b,u=>∃t,u=Value.bytes b t|.flt b,u=>∃t,u=Value.float b t|.ref a,u=>u=YY a|.ty n,u=>u=Y8 n
noncomputable abbrev Vals:gz->gw->Prop:=a3x RelV
def Vals.length(r:Vals xs us):xs.length=us.length:=a6j r
def Vals.get:∀{xs}{us}{i:Nat}{x},Vals xs us->xs[i]?=b0 x->∃u,us[i]?=b0 u/\RelV x u
 |_,_,_,_,.nil,e=>by simp at e
 |_,_,0,_,.cons r _,e=>by simp at e;subst e;show⟨_,rfl,r⟩
 |_,_,i+1,x,.cons _ t,e=>by obtain⟨u,a,b⟩:=Vals.get (i:=i) (x:=x) t (by simpa using e);show⟨u,by simpa using a,b⟩
def Vals.set(r:RelV x u):∀{xs}{us}i,Vals xs us->Vals (xs.set i x) (us.set i u)
 |_,_,_,.nil=>.nil|_,_,0,.cons _ t=>.cons r t|_,_,i+1,.cons q t=>.cons q<|Vals.set r i t
def Vals.append:∀{xs a}{us ws},Vals xs us->Vals a ws->Vals (xs++a) (us++ws)
 |_,_,_,_,.nil,s=>s|_,_,_,_,.cons r t,s=>.cons r<|Vals.append t s
def Vals.take:∀{xs}{us}n,Vals xs us->Vals (xs.take n) (us.take n)
 |_,_,0,_=>.nil|_,_,_+1,.nil=>.nil|_,_,n+1,.cons r t=>.cons r<|Vals.take n t
def Vals.drop:∀{xs}{us}n,Vals xs us->Vals (xs.drop n) (us.drop n)
 |_,_,0,r=>r|_,_,_+1,.nil=>.nil|_,_,n+1,.cons _ t=>Vals.drop n t
def Vals.none_of:∀{xs}{us}{i:Nat},Vals xs us->xs[i]?=b5->us[i]?=none:=λ{xs us i} r e=>by have a:=r.length;have b:xs.length<=i:=Zx.mp e;show Zx.mpr<|by lia
abbrev RelO:Option V->Option Value->Prop
 |some v,b0 u=>RelV v u|none,b5=>True|_,_=>False
abbrev KV{κ:Type}:List (κ×V)->List (κ×Value)->Prop:=a3x λ(p:κ×V)(q:κ×Value)=>p.1=q.1/\RelV p.2 q.2
abbrev kV:bG->V
 |.inl i=>.int i|.inr x=>.str x
inductive HO where
 |lst (xs:gz)
 |tup (xs:gz)
 |dK (kvs:List (bG×V))|dT (kvs:List (List bG×V))
 |set (S:Int->Bool)(n:Nat)
 |ins (C dx:Addr)(fs:List (Str×V))
 |own (x:Addr)
 |xd (fs:List (Str×V))
 |met (f x:Addr)
 |rng (lo hi:Int)
 |frz (o:Obj)(u:HO)
 |tbl (ps:Array Value)
 |ext (φ:ZX->Prop)
noncomputable abbrev Hp:=Addr->Option HO
abbrev upd(H:Hp)(a:Addr)(o:HO):Hp:=λb=>if b=a then b0 o else H b
def c3:upd H a o a=b0 o:=by unfold upd;rw[if_pos rfl]
def bH(h:b≠a):upd H a o b=H b:=by unfold upd;rw[if_neg h]
def iS{H:Hp}(h:H a=b0 o)(h':H b=b5):a≠b:=by intro e;subst e;rw[h]at h';cases h'
section
variable(P:Y4)(w:Zk)
abbrev TupN(h:ZX)(a:Addr)(xs:Array Value):Prop:=∃o,h.get? a=b0 o/\o.cls=.type "tuple"/\∃n,o.data=.seq xs n/\o.dict=b5
def TupN.tup{h:ZX}{a:Addr}{xs:Array Value}(x:TupN h a xs):a9U h a xs:=let⟨o,e,c,n,d,_⟩:=x;⟨o,e,c,n,d⟩
def TupN.new(h:ZX)items:TupN (h.push {cls:=.type "tuple",data:=.seq items}) h.objs.size items:=⟨_,YR _ rfl,rfl,_,rfl,rfl⟩
abbrev ObjOk(H:Hp)(h:ZX)(a:Addr):HO->Prop
 |.lst b=>b.length<=YM/\∃(its:gw)(n:Nat),Vals b its/\h.get? a=b0 {cls:=.type "list",data:=.seq its.toArray n}|.tup b=>b.length<=YM/\∃its:gw,Vals b its/\TupN h a its.toArray|.dK kvs=>kvs.length<=YM/\(a==Z3)=dI/\∃i,KV kvs i/\h.DictOf (gQ P w) a i|.dT kvs=>kvs.length<=YM/\(a==Z3)=dI/\∃b:List (List bG×Addr×Value),
   a3x (λ(p:List bG×V)(q:List bG×Addr×Value)=>p.1=q.1/\H q.2.1=b0 (.tup<|p.1.map kV)/\RelV p.2 q.2.2) kvs b /\
   ∃o d j,h.get? a=b0 o/\o.ExactDict/\o.data=.dict d j/\d.toList=b.map (a5H<|a2i<|gQ P w)/\(b.map (·.1)).Nodup
 |.set S n=>h.SetOf (a1P P w) a S n|.ins C dx fs=>H dx=b0 (.own a)/\fs.length<=1000/\dx≠a/\h.get? a=b0 (a7V C dx) /\
   ∃c,h.Ns1 dx c/\(∀f,RelO (fs.lookup f) (c f))/\PySem.Within c (fs.map (·.1))
 |.own _=>∃o,h.get? a=b0 o|.xd fs=>∃c,h.Ns1 a c/\∀f,RelO (fs.lookup f) (c f)|.rng lo hi=>∃t u v,h.get? a=b0 {cls:=.type "range",data:=.fields #[.int lo t,.int hi u,.int 1 v]}|.frz o u=>h.get? a=b0 o/\ObjOk H h a u|.tbl ps=>h.get? a=b0 {cls:=.none,data:=.fields ps}|.met f x=>h.get? a=b0 (a4P (.ref f)<|.ref x)|.ext φ=>φ h/\(∃o,h.get? a=b0 o)/\∀e g:ZX,φ e->(∀o,e.get? a=b0 o->g.get? a=b0 o)->φ g
abbrev HOk(H:Hp)(h:ZX):Prop:=∀a o,H a=b0 o->ObjOk P w H h a o
end
def ObjOk.lt{P:Y4}{w:Zk}{H:Hp}{h:ZX}{a:Addr}{o:HO}(x:ObjOk P w H h a o):a<h.objs.size:=by
 cases o with
 |lst c=>obtain⟨_,_,_,_,e⟩:=x;show YJ e|tup c=>obtain⟨_,_,_,p⟩:=x;show p.tup.lt|dK b=>obtain⟨_,_,_,_,o,_,_,e,_⟩:=x;show YJ e|dT b=>obtain⟨_,_,_,_,o,_,_,e,_⟩:=x;show YJ e|set S n=>obtain⟨o,_,_,_,e,_⟩:=x;show YJ e|ins C d fs=>obtain⟨_,_,_,e,_⟩:=x;show YJ e|own y=>obtain⟨_,e⟩:=x;show YJ e|xd fs=>obtain⟨_,⟨_,_,_,e,_⟩,_⟩:=x;show YJ e|rng i g=>obtain⟨_,_,_,e⟩:=x;show YJ e|frz j u=>obtain⟨e,_⟩:=x;show YJ e|tbl k=>show YJ (show h.get? a=b0 _ from x)|met f y=>show YJ (show h.get? a=b0 _ from x)|ext l=>obtain⟨_,⟨_,e⟩,_⟩:=x;show YJ e
def a3x.mapP{F G:d->e->Prop}:∀{l₁}{c},a3x F l₁ c->(∀a b,F a b->G a b)->a3x G l₁ c
 |_,_,.nil,_=>.nil|_,_,.cons r t,f=>.cons (f _ _ r)<|a3x.mapP t f
def ObjOk.stay(x:ObjOk P w H h a o)(k:∀b u,(b=a\/H b=b0 (.own a))->h.get? b=b0 u->h'.get? b=b0 u)(K:∀b,H b=b0 (.own a)->H' b=b0 (.own a))(L:∀b s,H b=b0 (.tup s)->H' b=b0 (.tup s)):ObjOk P w H' h' a o:=by
 induction o with
 |lst s=>obtain⟨z,l,n,r,e⟩:=x;show⟨z,l,n,r,k _ _ (.inl rfl) e⟩|tup s=>obtain⟨z,l,r,g,e,c⟩:=x;show⟨z,l,r,g,k _ _ (.inl rfl) e,c⟩|dK A=>obtain⟨z,y,N,r,g,j,i,e,c⟩:=x;show⟨z,y,N,r,g,j,i,k _ _ (.inl rfl) e,c⟩|dT A=>obtain⟨z,y,s,r,g,j,i,e,c⟩:=x;show⟨z,y,s,a3x.mapP r λp q z=>⟨z.1,L _ _ z.2.1,z.2.2⟩,g,j,i,k _ _ (.inl rfl) e,c⟩|set S n=>obtain⟨g,j,i,t,e,c⟩:=x;show⟨g,j,i,t,k _ _ (.inl rfl) e,c⟩|ins C O fs=>obtain⟨d,z,ne,e,B,⟨E,j,i,I,c⟩,r⟩:=x;show⟨K _ d,z,ne,k _ _ (.inl rfl) e,B,⟨E,j,i,k _ _ (.inr d) I,c⟩,r⟩|own y=>obtain⟨g,e⟩:=x;show⟨g,k _ _ (.inl rfl) e⟩|xd fs=>obtain⟨B,⟨E,j,i,e,c⟩,r⟩:=x;show⟨B,⟨E,j,i,k _ _ (.inl rfl) e,c⟩,r⟩|rng R Q=>obtain⟨t,u,v,e⟩:=x;show⟨t,u,v,k _ _ (.inl rfl) e⟩|frz g u M=>obtain⟨e,q⟩:=x;show⟨k _ _ (.inl rfl) e,M q⟩|tbl G=>have e:h.get? a=b0 {cls:=.none,data:=.fields G}:=x;change h'.get? a=b0 {cls:=.none,data:=.fields G};show k a _ (.inl rfl) e|met f y=>have e:h.get? a=b0 (a4P (.ref f)<|.ref y):=x;change h'.get? a=b0 (a4P (.ref f)<|.ref y);show k a _ (.inl rfl) e|ext T=>obtain⟨p,⟨o,e⟩,st⟩:=x;show⟨st _ _ p λo q=>k _ _ (.inl rfl) q,⟨o,k _ _ (.inl rfl) e⟩,st⟩
def HOk.lt{P:Y4}{w:Zk}{H:Hp}{h:ZX}{a:Addr}{o:HO}(x:HOk P w H h)(e:H a=b0 o):a<h.objs.size:=(x a o e).lt
def HOk.fresh{a:Addr}(x:HOk P w H h)(e:h.objs.size<=a):H a=none:=by
 cases q:H a with
 |none=>rfl|some u=>show absurd (Zg (x.lt q) e)<|a0f _
def HOk.kept(x:HOk P w H h)(k:∀b u,h.get? b=b0 u->h'.get? b=b0 u):HOk P w H h':=λa o e=>(x a o e).stay (λb u _ q=>k b u q) (λ_ q=>q) λ_ _ q=>q
def HOk.laid{a:Addr}(x:HOk P w H h)(k:∀b u,h.get? b=b0 u->h'.get? b=b0 u)(i:h.objs.size<=a)(new:ObjOk P w (upd H a o) h' a o):HOk P w (upd H a o) h':=λb u e=>by
 have g:=x.fresh i;by_cases d:b=a
 .subst d;rw[c3]at e;cases e;show new
 .rw[bH d]at e;show(x b u e).stay (λc v _ q=>k c v q) (λc q=>by rw[bH<|iS q g];show q) λc j q=>by rw[bH<|iS q g];show q
abbrev Rd(H:Hp)(a:Addr)(u:HO):Prop:=H a=b0 u\/∃o,H a=b0 (.frz o u)
def Rd.of(h:H a=b0 u):Rd H a u:=.inl h
def Rd.ok(r:Rd H a u)(x:HOk P w H h):ObjOk P w H h a u:=by
 rcases r with r|⟨o,r⟩
 .show x a u r
 .obtain⟨_,q⟩:=x a _ r;show q
abbrev qZ:Option HO->Prop
 |some (.lst _)=>True|some (.dK _)=>True|some (.dT _)=>True|some (.set _ _)=>True|some (.ins _ _ _)=>True|some (.ext _)=>True|_=>False
def HOk.write(ok:HOk P w H h)(j:qZ (H x))(o:e=x\/H e=b0 (.own x))(k:∀b u,b≠e->h.get? b=b0 u->h'.get? b=b0 u)(n:∃u,h'.get? e=b0 u)(new:ObjOk P w (upd H x o') h' x o'):HOk P w (upd H x o') h':=λb u q=>by
 have d:∀c y,H c=b0 (.own y)->c≠x:=λc y r z=>by subst z;rw[r]at j;show j
 have g:∀c l,H c=b0 (.tup l)->c≠x:=λc l r z=>by subst z;rw[r]at j;show j
 by_cases i:b=x
 .subst i;rw[c3]at q;cases q;show new
 .rw[bH i]at q;by_cases a:b=e
  .have p:H b=b0 (.own x):=by
    rcases o with z|z
    .show absurd (a.trans z) i
    .rw[a];show z
   rw[q]at p;cases p;obtain⟨v,s⟩:=n;show⟨v,by rw[a];show s⟩
  .show(ok b u q).stay (λc v hc r=>k c v ?_ r) (λc r=>by rw[bH<|d c b r];show r) λc l r=>by rw[bH<|g c l r];show r
   rcases hc with rfl|hc
   .show a
   .rintro rfl;rcases o with z|z
    .show d c b hc z
    .rw[hc]at z;cases z;show i rfl
structure Un(fs ex:List Addr)(H H':Hp)(h h':ZX):Prop where
 keep:∀b o,h.get? b=b0 o->H b=b5->b∉fs->b∉ex->h'.get? b=b0 o
 slot:∀b o,h.get? b=b0 o->H b=b5->b∈fs->b∉ex->∃sl,h'.get? b=b0 {o with slots:=sl}
 free:∀b o,h.get? b=b0 o->H b=b5->b∉ex->H' b=b5
 there:∀b o,h.get? b=b0 o->b∉ex->∃o',h'.get? b=b0 o'
 tups:∀b xs,H b=b0 (.tup xs)->H' b=b0 (.tup xs)
 frzs:∀b o u,H b=b0 (.frz o u)->H' b=b0 (.frz o u)
 tbls:∀b ps,H b=b0 (.tbl ps)->∃more,H' b=b0 (.tbl<|ps++more)
def Un.any(u:Un fs ex H H1 h h1)(q:h.get? b=b0 c)(n:H b=b5)(g:b∉ex):∃i,h1.get? b=b0 {c with slots:=i}:=by
 by_cases d:b∈fs
 .show u.slot b c q n d g
 .show⟨c.slots,u.keep b c q n d g⟩
def Un.kept(k:∀b u,h.get? b=b0 u->h'.get? b=b0 u):Un fs ex H H h h':=
 ⟨λb c q _ _ _=>k b c q,λb c q _ _ _=>⟨c.slots,k b c q⟩,λ_ _ _ n _=>n,λb c q _=>⟨c,k b c q⟩,λ_ _ q=>q,λ_ _ _ q=>q,λ_ d q=>⟨#[],by rw[q];simp⟩⟩
def Un.refl:Un fs ex H H h h:=Un.kept λ_ _ q=>q
def Un.laid{h:ZX}{a:Addr}(k:∀b u,h.get? b=b0 u->h'.get? b=b0 u)(d:h.objs.size<=a)(c:H a=b5):Un fs ex H (upd H a o) h h' where
 keep:=λb u q _ _ _=>k b u q
 slot:=λb u q _ _ _=>⟨u.slots,k b u q⟩
 free:=λb u q n _=>by rw[bH<|Y7<|Zg (YJ q) d];show n
 there:=λb u q _=>⟨u,k b u q⟩
 tups:=λb g q=>by rw[bH<|iS q c];show q
 frzs:=λb u g q=>by rw[bH<|iS q c];show q
 tbls:=λb i q=>⟨#[],by rw[bH<|iS q c,q];simp⟩
def Un.write(d:qZ (H x))(p:e=x\/H e=b0 (.own x))(k:∀b u,b≠e->h.get? b=b0 u->h'.get? b=b0 u)(g:∃u,h'.get? e=b0 u):Un fs ex H (upd H x o) h h':=by
 have l:∀b,H b=b5->b≠x:=λb n z=>by subst z;rw[n]at d;show d
 have j:∀b,H b=b5->b≠e:=λb n z=>by
  subst z;rcases p with r|r
  .show l b n r
  .rw[n]at r;cases r
 have i:∀b u,H b=b0 u->¬ qZ (b0 u)->b≠x:=λb u q s z=>by subst z;rw[q]at d;show s d
 show⟨λb u q n _ _=>k b u (j b n) q,λb u q n _ _=>⟨u.slots,k b u (j b n) q⟩,λb u q n _=>by rw[bH<|l b n];show n,λb u q _=>?_,
  λb v q=>by rw[bH<|i b _ q λz=>z];show q,λb u v q=>by rw[bH<|i b _ q λz=>z];show q,λb w q=>⟨#[],by rw[bH<|i b _ q λz=>z,q];simp⟩⟩
 by_cases c:b=e
 .subst c;show g
 .show⟨u,k b u c q⟩
abbrev tX(h:ZX)(H:Hp):List Addr:=(Zj h.objs.size).filter λa=>(H a).isSome
abbrev k9(h:ZX)(H:Hp):ZX:=PySem.W.hideAll h<|tX h H
def Jo h H:(k9 h H).objs.size=h.objs.size:=PySem.W.hideAll_size _ _
def Jp(e:h.get? b=b0 o)(n:H b=b5):(k9 h H).get? b=b0 o:=
 PySem.W.hideAll_get _ e λa=>by have q:(H b).isSome=true:=(ZL.mp a).2;rw[n]at q;simp at q
def Jq(e:(k9 h H).get? b=b0 o):h.get? b=b0 o/\H b=none:=by
 have a:h.get? b=b0 o:=PySem.W.of_hideAll (tX h H) e;show⟨a,?_⟩;cases q:H b with
 |none=>rfl|some x=>have c:b∈tX h H:=ZL.mpr ⟨ZR.mpr<|YJ a,by simp[q]⟩;have z:(k9 h H).get? b=none:=PySem.W.hideAll_none (tX h H) c;rw[z]at e;cases e
abbrev Jr(g h:ZX)(L:Addr):jw:=(Zj h.objs.size).filterMap λa=>if a=L\/(g.get? a).isSome=d7 then b5 else(h.get? a).map λo=>(a,o)
abbrev rest(g h:ZX)(L d:Addr):jw:=(Jr g h L).filter λp=>decide<|p.1≠d
structure Mod(K:Yx)(mg:Str->Option Value)(base:ZX):Prop where
 kin:K.In base
 glob:base.Ns a0j mg
 blt:∃mb,base.Ns a9A mb/\∀x:Str,x ≠ "__name__"->mb x=a0B x
 nolimit:base.NoLimit
structure Cx where
 prog:Y4
 w:Zk
 K:Yx
 mg:Str->Option Value
 base:ZX
 A:Zi
 N:List Str
 s₀:YA
 H₀:Hp
 env:a4U
 outer:List a4U
 stack:List a4U
 ex:List Addr
 fn:Str->Bool
 calm:Bool
 pn:jw
 xe:Value->YA->Prop
abbrev iT(l:List a4U):List Addr:=l.filterMap (·.frame)
noncomputable abbrev Cx.fs(X:Cx):List Addr:=iT X.outer
abbrev nP(sc:a1D)(x:Str):Prop:=sc.names.lookup x=b0 .local\/sc.names.lookup x=b0 .cell\/sc.names.lookup x=b0 .free
abbrev Loc(sc:a1D)(x:Str):Prop:=sc.names.lookup x=b0 .local\/sc.names.lookup x=b0 .cell
abbrev Js(env:a4U)(h:ZX)(m:Str->Option Value)(x:Str)(u:Value):Prop:=
 (env.kindOf x=b0 .local/\m x=b0 u)\/((env.kindOf x=b0 .cell\/env.kindOf x=b0 .free)/\∃c,env.cells.lookup x=b0 c/\h.IsCell c (b0 u))
structure Cx.Ok(X:Cx):Prop where
 mod:Mod X.K X.mg X.base
 kind:X.env.scope.kind=.function
 glob:X.env.globals=a0j
 blt:X.env.builtins=a9A
 above:X.s₀.heap.objs.size<=X.env.locals
 inj:∀x y c,X.env.cells.lookup x=b0 c->X.env.cells.lookup y=b0 c->x=y
 has:∀x,(X.env.kindOf x=b0 .cell\/X.env.kindOf x=b0 .free)->∃c,X.env.cells.lookup x=b0 c
 cab:∀x c,X.fn x=d7->X.env.cells.lookup x=b0 c->X.s₀.heap.objs.size<=c
 hd:X.calm=d7->X.A.handled=b5
 frames:X.A.frames=b0 X.stack
 stk:X.stack=X.outer\/(X.stack=X.env::X.outer/\X.env.frame=b0 X.env.locals)
 exf:∀b∈X.ex,b≠X.env.locals/\∀x c,X.env.cells.lookup x=b0 c->c≠b
 bs:∀b o,X.base.get? b=b0 o->X.s₀.heap.get? b=b0 o/\X.H₀ b=b5
 bsz:X.base.objs.size<=X.s₀.heap.objs.size
 noex:∀b o,X.base.get? b=b0 o->b∉X.ex
 exfs:∀b∈X.ex,b∉X.fs
 funs:X.s₀.heap.FunFrames X.base X.outer
 frf:∀b∈X.fs,X.H₀ b=b5
structure Inv(X:Cx)(b0Z:jw)(σ:List (Option V))(H:Hp)(s:YA):Prop where
 ok:X.Ok
 os:s.os=X.s₀.os
 bare:a5l s.gens
 base:Un X.fs X.ex X.H₀ H X.s₀.heap s.heap
 loc:∃m,s.heap.Ns X.env.locals m/\∀(i:Nat)(x:Str)(v:V),X.N[i]?=b0 x->σ[i]?=b0 (b0 v)->nP X.env.scope x->∃u,RelV v u/\Js X.env s.heap m x u
 cell:∀x c,X.env.cells.lookup x=b0 c->∃v,s.heap.IsCell c v
 free:H X.env.locals=b5
 freeC:∀x c,X.env.cells.lookup x=b0 c->H c=b5
 pin:∀p∈X.pn++b0Z,s.heap.get? p.1=b0 p.2/\H p.1=b5/\p.1≠X.env.locals/\p.1∉X.fs/\∀v,p.2.data≠.cell v
 hok:HOk X.prog X.w H s.heap
 len:σ.length=X.N.length
def Cx.Ok.nofr{X:Cx}(ok:X.Ok)(e:X.base.get? b=b0 o):b∉X.fs:=λa=>by have:=(ok.funs.mem a).1;rw[e]at this;cases this
def Inv.bs(I:Inv X b0Z σ H s):∀b o,X.base.get? b=b0 o->s.heap.get? b=b0 o/\H b=none:=λb o e=>⟨I.base.keep b o (I.ok.bs b o e).1 (I.ok.bs b o e).2 (I.ok.nofr e)<|I.ok.noex b o e,I.base.free b o (I.ok.bs b o e).1 (I.ok.bs b o e).2<|I.ok.noex b o e⟩
def Inv.bk(I:Inv X b0Z σ H s):∀b o,X.base.get? b=b0 o->s.heap.get? b=b0 o:=λb o e=>(I.bs b o e).1
def Inv.mod(I:Inv X b0Z σ H s):Mod X.K X.mg X.base:=I.ok.mod
def Inv.kIn(I:Inv X b0Z σ H s):X.K.In s.heap:=I.ok.mod.kin.keeps I.bk
def Inv.lt{X:Cx}{b0Z:jw}{σ:List (Option V)}{H:Hp}{s:YA}(I:Inv X b0Z σ H s):X.env.locals<s.heap.objs.size:=let⟨_,a,_⟩:=I.loc;a.lt
def Inv.sz(I:Inv X b0Z σ H s):X.s₀.heap.objs.size<=s.heap.objs.size:=Zr I.ok.above<|a0y I.lt
def Inv.nofs(I:Inv X b0Z σ H s){a:Addr}(h:s.heap.objs.size<=a):a∉X.fs:=λb=>by obtain⟨_,o,c,_⟩:=I.ok.funs.mem b;show absurd (Zg (YJ c)<|Zr I.sz h)<|a0f _
def Inv.cne(I:Inv X b0Z σ H s):∀x c,X.env.cells.lookup x=b0 c->c≠X.env.locals:=λx c e z=>by obtain⟨v,o,d,hd⟩:=I.cell x c e;obtain⟨m,⟨i,h,g,b,a,_⟩,_⟩:=I.loc;rw[z,b]at d;cases d;rw[a]at hd;cases hd
def Inv.funs(I:Inv X b0Z σ H s):s.heap.FunFrames X.base X.outer:=by
 have all:∀(l:List a4U),(∀b∈iT l,b∈X.fs)->X.s₀.heap.FunFrames X.base l->s.heap.FunFrames X.base l:=by
  intro l;induction l with
  |nil=>intro _ _;trivial|cons h r u=>intro g j;obtain⟨i,⟨L,o,d,k,n,hd⟩,p⟩:=j;have a:L∈X.fs:=g L (by unfold iT;rw[a1l,d];show Zs);obtain⟨v,e⟩:=I.base.slot L o n (I.ok.frf L a) a λz=>I.ok.exfs L z a;show⟨i,⟨L,_,d,k,e,hd⟩,u (λb c=>g b<|by unfold iT;rw[a1l,d];show Zl _ c) p⟩
 show all X.outer (λ_ c=>c) I.ok.funs
def Inv.stack(I:Inv X b0Z σ H s):s.heap.FunFrames X.base X.stack:=by
 rcases I.ok.stk with e|⟨e,a⟩
 .rw[e];show I.funs
 .rw[e];obtain⟨m,b,_⟩:=I.loc;show .cons (by rw[I.ok.kind];decide) a b ?_ I.funs;show Heap.get?_none_of_le<|Zr I.ok.bsz I.ok.above
def Inv.stkSub(I:Inv X b0Z σ H s):∀b∈iT X.stack,b∈X.env.locals::X.fs:=λb a=>by
 rcases I.ok.stk with e|⟨e,c⟩
 .rw[e]at a;show Zl _ a
 .rw[e]at a;unfold iT at a;rw[a1l,c]at a;show a
def Inv.stkFree(I:Inv X b0Z σ H s):∀b∈iT X.stack,H b=none:=λb a=>by
 rcases Zm.mp (I.stkSub b a)with e|a
 .rw[e];show I.free
 .obtain⟨_,o,c,_⟩:=I.ok.funs.mem a;show I.base.free b o c (I.ok.frf b a) λz=>I.ok.exfs b z a
def Inv.step{ch:List Addr}(I:Inv X b0Z σ H s)(h:∀b∈ch,(b∈X.ex\/X.s₀.heap.objs.size<=b)/\b≠X.env.locals/\(∀x c,X.env.cells.lookup x=b0 c->c≠b)/\∀p∈X.pn++b0Z,p.1≠b)(j:∀b o,b≠X.env.locals->b∉X.fs->b∉ch->s.heap.get? b=b0 o->H b=b5->h'.get? b=b0 o)(B:∀b o,b≠X.env.locals->b∈X.fs->b∉ch->s.heap.get? b=b0 o->H b=b5->∃Z,h'.get? b=b0 {o with slots:=Z})(free:∀b o,b∉ch->s.heap.get? b=b0 o->H b=b5->H' b=b5)(K:∀b o,b∉ch->s.heap.get? b=b0 o->∃Q,h'.get? b=b0 Q)(T:∀b E,H b=b0 (.tup E)->H' b=b0 (.tup E))(N:∀b o u,H b=b0 (.frz o u)->H' b=b0 (.frz o u))(R:∀b U,H b=b0 (.tbl U)->∃more,H' b=b0 (.tbl<|U++more))(ns:∀m,s.heap.Ns X.env.locals m->h'.Ns X.env.locals m)(Y:HOk X.prog X.w H' h')(hg:a5l g'):
  Inv X b0Z σ H' {s with heap:=h',gens:=g',drawn:=d',toks:=t'}:=by
 have O:∀b o,X.s₀.heap.get? b=b0 o->b≠X.env.locals:=λb o e=>Y7<|Zg (YJ e) I.ok.above;have A:∀b o,X.s₀.heap.get? b=b0 o->b∉X.ex->b∉ch:=λb o e a G=>by
  rcases(h b G).1 with z|z
  .show a z
  .show absurd (Zg (YJ e) z)<|a0f _
 have g:∀x c,X.env.cells.lookup x=b0 c->∀v,s.heap.IsCell c v->h'.IsCell c v:=λx c e v ⟨o,L,hd⟩=>by
  have w:c∉ch:=λz=>(h c z).2.2.1 x c e rfl;by_cases hc:c∈X.fs
  .obtain⟨Z,q⟩:=B c o (I.cne x c e) hc w L<|I.freeC x c e;show⟨_,q,hd⟩
  .show⟨o,j c o (I.cne x c e) hc w L<|I.freeC x c e,hd⟩
 show⟨I.ok,I.os,hg,⟨λb o e n G a=>?_,λb o e n G a=>?_,λb o e n a=>?_,λb o e a=>?_,λb E e=>T b E<|I.base.tups b E e,λb o E e=>N b o E<|I.base.frzs b o E e,λb U e=>?_⟩,?_,λx c e=>?_,?_,λx c e=>?_,λp hp=>?_,Y,I.len⟩
 .show j b o (O b o e) G (A b o e a) (I.base.keep b o e n G a)<|I.base.free b o e n a
 .obtain⟨Z,y⟩:=I.base.slot b o e n G a;obtain⟨sl',M⟩:=B b _ (O b o e) G (A b o e a) y<|I.base.free b o e n a;show⟨sl',M⟩
 .obtain⟨Q,y⟩:=I.base.there b o e a;show free b Q (A b o e a) y<|I.base.free b o e n a
 .obtain⟨Q,y⟩:=I.base.there b o e a;show K b Q (A b o e a) y
 .obtain⟨m1,y⟩:=I.base.tbls b U e;obtain⟨m2,M⟩:=R b _ y;show⟨m1++m2,by rw[M,Array.append_assoc]⟩
 .obtain⟨m,hn,hl⟩:=I.loc;show⟨m,ns m hn,λi x v y M e3=>?_⟩;obtain⟨u,r,l⟩:=hl i x v y M e3;show⟨u,r,?_⟩;rcases l with l|⟨k,c,e,z⟩
  .show .inl l
  .show .inr ⟨k,c,e,g x c e _ z⟩
 .obtain⟨v,z⟩:=I.cell x c e;show⟨v,g x c e v z⟩
 .obtain⟨m,⟨o,_,_,L,_⟩,_⟩:=I.loc;show free _ o (λz=>(h _ z).2.1 rfl) L I.free
 .obtain⟨v,o,L,hd⟩:=I.cell x c e;show free c o (λz=>(h c z).2.2.1 x c e rfl) L<|I.freeC x c e
 .obtain⟨e,n,ne,nf,d⟩:=I.pin p hp;have w:p.1∉ch:=λz=>(h p.1 z).2.2.2 p hp rfl;show⟨j p.1 p.2 ne nf w e n,free p.1 p.2 w e n,ne,nf,d⟩
def Inv.un(I:Inv X b0Z σ H s)(u:Un X.fs [] H H' s.heap h')(h:HOk X.prog X.w H' h'):Inv X b0Z σ H' {s with heap:=h',toks:=t'}:=by
 obtain⟨m,⟨o,v,p,i,r⟩,_⟩:=id I.loc;obtain⟨y,j⟩:=u.any i I.free (by simp);show I.step (g':=s.gens) (d':=s.drawn) (ch:=[]) (λ_ z=>nomatch z) (λb o _ g _ e n=>u.keep b o e n g<|by simp) (λb o _ g _ e n=>u.slot b o e n g<|by simp) (λb o _ e n=>u.free b o e n<|by simp) (λb o _ e=>u.there b o e<|by simp) u.tups u.frzs u.tbls (λw k=>by
  obtain⟨x,d,c,a,l⟩:=k;rw[i]at a;cases a;show⟨_,d,c,j,l⟩) h I.bare
def Inv.call(I:Inv X b0Z σ H s)(u:Un (iT X.stack) ch H H' s.heap h')(j:HOk X.prog X.w H' h')(v:a5l g')(a:∀b∈ch,(b∈X.ex\/X.s₀.heap.objs.size<=b)/\b≠X.env.locals/\(∀x c,X.env.cells.lookup x=b0 c->c≠b)/\∀p∈X.pn++b0Z,p.1≠b):
  Inv X b0Z σ H' {s with heap:=h',gens:=g',drawn:=d',toks:=t'}:=by
 obtain⟨m,⟨o,B,A,k,r⟩,_⟩:=id I.loc;obtain⟨K,i⟩:=u.any k I.free λz=>(a _ z).2.1 rfl;show I.step (ch:=ch) a (λb o i l hc e n=>u.keep b o e n (λz=>(Zm.mp<|I.stkSub b z).elim i l) hc) (λb o _ _ hc e n=>u.any e n hc) (λb o hc e n=>u.free b o e n hc) (λb o hc e=>u.there b o e hc) u.tups u.frzs u.tbls (λE w=>by
  obtain⟨G,h,g,d,y⟩:=w;rw[k]at d;cases d;show⟨_,h,g,i,y⟩) j v
def Inv.turned(I:Inv X b0Z σ H s)(k:∀b o,b≠a->s.heap.get? b=b0 o->h'.get? b=b0 o)(A:H a=b5)(g:a≠X.env.locals)(h1:a∈X.ex\/X.s₀.heap.objs.size<=a)(j:∀x c,X.env.cells.lookup x=b0 c->c≠a)(l:∀p∈X.pn++b0Z,p.1≠a):Inv X b0Z σ H {s with heap:=h',toks:=t'}:=by
 have d:∀b u,H b=b0 u->b≠a:=λb u e z=>by rw[z,A]at e;cases e
 show I.step (g':=s.gens) (d':=s.drawn) (ch:=[a]) (λb w=>?_) (λb o _ _ hc e _=>k b o (λz=>hc<|by simp[z]) e) (λb o _ _ hc e _=>⟨o.slots,k b o (λz=>hc<|by simp[z]) e⟩) (λ_ _ _ _ n=>n)
  (λb o hc e=>⟨o,k b o (λz=>hc<|by simp[z]) e⟩) (λ_ _ e=>e) (λ_ _ _ e=>e) (λb E e=>⟨#[],by rw[e];simp⟩) (λm y=>?_) (λb u e=>?_) I.bare
 .have e:b=a:=by simpa using w
  subst e;show⟨h1,g,j,l⟩
 .obtain⟨o,i,h,B,r⟩:=y;show⟨o,i,h,k _ o (ZJ g) B,r⟩
 .show(I.hok b u e).stay (λc v hc q=>k c v ?_ q) (λ_ q=>q) λ_ _ q=>q;rcases hc with z|z
  .rw[z];show d b u e
  .show d c _ z
def Inv.tok(I:Inv X b0Z σ H s)t:Inv X b0Z σ H {s with toks:=t}:=I.un (h':=s.heap) (t':=t) Un.refl I.hok
def Inv.kept(I:Inv X b0Z σ H s)(k:∀b u,s.heap.get? b=b0 u->h'.get? b=b0 u):Inv X b0Z σ H {s with heap:=h',toks:=t'}:=I.un (Un.kept k)<|I.hok.kept k
def Inv.laid{a:Addr}(I:Inv X b0Z σ H s)(k:∀b u,s.heap.get? b=b0 u->h'.get? b=b0 u)(c:s.heap.objs.size<=a)(new:ObjOk X.prog X.w (upd H a o) h' a o):
  Inv X b0Z σ (upd H a o) {s with heap:=h',toks:=t'}:=I.un (Un.laid k c<|I.hok.fresh c)<|I.hok.laid k c new
def Inv.write(I:Inv X b0Z σ H s)(d:qZ (H x))(c:e=x\/H e=b0 (.own x))(k:∀b u,b≠e->s.heap.get? b=b0 u->h'.get? b=b0 u)(a:∃u,h'.get? e=b0 u)(new:ObjOk X.prog X.w (upd H x o) h' x o):Inv X b0Z σ (upd H x o) {s with heap:=h',toks:=t'}:=I.un (Un.write d c k a)<|I.hok.write d c k a new
def Inv.pins_of(I:Inv X b0Z σ H s)(h:∀p∈a,s.heap.get? p.1=b0 p.2/\H p.1=b5/\p.1≠X.env.locals/\p.1∉X.fs/\∀v,p.2.data≠.cell v):Inv X a σ H s:=
 ⟨I.ok,I.os,I.bare,I.base,I.loc,I.cell,I.free,I.freeC,λp b=>(YN.mp b).elim (λz=>I.pin p<|a7w _ z)<|h p,I.hok,I.len⟩
def B8{N:List Str}(e:N.Nodup){i:Nat}(a:N[i]?=b0 x)(b:N[j]?=b0 x):i=j:=by obtain⟨g,c⟩:=Yy.mp a;obtain⟨h,d⟩:=Yy.mp b;show(a8L e).mp<|c.trans d.symm
def B9(I:Inv X b0Z σ H s)(hN:X.N.Nodup)(hi:X.N[i]?=b0 x)(B:Loc X.env.scope x)(r:RelV v u)(h:∀s',Inv X b0Z (σ.set i<|b0 v) H s'->(∃a,a0Q a s.heap s'.heap/\(a=X.env.locals\/X.env.cells.lookup x=b0 a))->Q () s')(hf:X.fn x=d7\/X.env.scope.names.lookup x=b0 .local:=by first|show .inl rfl|show .inr rfl|assumption):Y6 M A (storeName X.env x u) Q E s:=by
 obtain⟨m,hn,hl⟩:=id I.loc;have Z:(X.env.scope.kind==.class||(X.env.scope.kind==.module&&X.env.locals != X.env.globals))=false:=by rw[I.ok.kind];rfl
 have L:i<σ.length:=by rw[I.len];show(Yy.mp hi).1
 have cne:=I.cne;have w:∀{a:Addr}{h':ZX},(∃o,s.heap.get? a=b0 o/\H a=b5)->a0Q a s.heap h'->HOk X.prog X.w H h':=λ{a h'} ha g b ob e=>by
  obtain⟨_,_,G⟩:=ha;show(I.hok b ob e).stay (λc w' hc q=>(g.2 c ?_).trans q) (λ_ q=>q) λ_ _ q=>q;rintro rfl;rcases hc with rfl|hc
  .rw[G]at e;cases e
  .rw[G]at hc;cases hc
 rcases B with N|N
 .show wpAny_storeName_local N hn (λh' hn' g=>?_) Z;obtain⟨oL,_,_,hoL,_⟩:=id hn;show h _ ⟨I.ok,I.os,I.bare,⟨λb o e n O B=>?_,λb o e n O B=>?_,I.base.free,λb o e B=>?_,I.base.tups,I.base.frzs,I.base.tbls⟩,⟨_,hn',λj y v' l K e3=>?_⟩,λy c e=>?_,I.free,I.freeC,λp hp=>?_,w ⟨oL,hoL,I.free⟩ g,by simpa using I.len⟩ ⟨_,g,.inl rfl⟩
  .show(g.2 b<|Y7<|Zg (YJ e) I.ok.above).trans<|I.base.keep b o e n O B
  .obtain⟨sl,l⟩:=I.base.slot b o e n O B;show⟨sl,(g.2 b<|Y7<|Zg (YJ e) I.ok.above).trans l⟩
  .obtain⟨o',l⟩:=I.base.there b o e B;show⟨o',(g.2 b<|Y7<|Zg (YJ e) I.ok.above).trans l⟩
  .by_cases T:j=i
   .subst T;rw[hi]at l;cases l;rw[ZH L]at K;cases K;show⟨u,r,.inl ⟨N,by simp⟩⟩
   .rw[YW<|ZJ T]at K;obtain⟨u',r',q⟩:=hl j y v' l K e3;show⟨u',r',?_⟩;rcases q with⟨k,e⟩|⟨k,c,e,z⟩
    .show .inl ⟨k,?_⟩;have:y≠x:=λe=>T<|B8 hN l<|e▸hi;simp[this,e]
    .show .inr ⟨k,c,e,z.sameBut g<|cne y c e⟩
  .obtain⟨w',z⟩:=I.cell y c e;show⟨w',z.sameBut g<|cne y c e⟩
  .obtain⟨e,n,ne,nf,d⟩:=I.pin p hp;show⟨(g.2 p.1 ne).trans e,n,ne,nf,d⟩
 .have R:X.fn x=true:=by
   rcases hf with z|z
   .show z
   .rw[z]at N;cases N
  obtain⟨c,hc⟩:=I.ok.has x<|.inl N;obtain⟨w',z⟩:=I.cell x c hc;show wpAny_storeName_cell I.ok.kind N hc z λh' U g=>?_;obtain⟨oc,hoc,hocd⟩:=id z;show h {s with heap:=h'} ⟨I.ok,I.os,I.bare,⟨λb o e n O B=>?_,λb o e n O B=>?_,I.base.free,λb o e B=>?_,I.base.tups,I.base.frzs,I.base.tbls⟩,⟨m,hn.sameBut g<|ZJ<|cne x c hc,λj y v' l K e3=>?_⟩,λy c' e=>?_,I.free,I.freeC,λp hp=>?_,w ⟨oc,hoc,I.freeC x c hc⟩ g,by simpa using I.len⟩ ⟨c,g,.inr hc⟩
  .show(g.2 b<|Y7<|Zg (YJ e)<|I.ok.cab x c R hc).trans<|I.base.keep b o e n O B
  .obtain⟨sl,l⟩:=I.base.slot b o e n O B;show⟨sl,(g.2 b<|Y7<|Zg (YJ e)<|I.ok.cab x c R hc).trans l⟩
  .obtain⟨o',l⟩:=I.base.there b o e B;show⟨o',(g.2 b<|Y7<|Zg (YJ e)<|I.ok.cab x c R hc).trans l⟩
  .by_cases T:j=i
   .subst T;rw[hi]at l;cases l;rw[ZH L]at K;cases K;show⟨u,r,.inr ⟨.inl N,c,hc,U⟩⟩
   .rw[YW<|ZJ T]at K;obtain⟨u',r',q⟩:=hl j y v' l K e3;show⟨u',r',?_⟩;rcases q with q|⟨k,c',e,z'⟩
    .show .inl q
    .show .inr ⟨k,c',e,z'.sameBut g ?_⟩;rintro rfl;show T<|B8 hN l<|I.ok.inj _ _ _ e hc▸hi
  .by_cases Y:c'=c
   .subst Y;show⟨_,U⟩
   .obtain⟨w2,z2⟩:=I.cell y c' e;show⟨w2,z2.sameBut g Y⟩
  .obtain⟨e,n,ne,nf,d⟩:=I.pin p hp;show⟨(g.2 p.1 ?_).trans e,n,ne,nf,d⟩;intro q;rw[q,hoc]at e;have q':oc=p.2:=YX e;show d w'<|by rw[<- q'];show hocd
def Ca(I:Inv X b0Z σ H s)(c:X.N.Nodup)(e:X.N[i]?=b0 x)(g:Loc X.env.scope x)(r:RelV v u)(h:∀a,Inv X b0Z (σ.set i<|b0 v) H a->Q () a)(d:X.fn x=d7\/X.env.scope.names.lookup x=b0 .local:=by first|show .inl rfl|show .inr rfl|assumption):Y6 M A (storeName X.env x u) Q E s:=
 B9 I c e g r (λa b _=>h a b) d
noncomputable abbrev XK:=Value->Option Addr->Hp->Prop
noncomputable abbrev St:=List<|Option V
noncomputable abbrev VK:=V->Hp->Prop
noncomputable abbrev TE:=St->Hp->VK->Prop
noncomputable abbrev TT:=St->Hp->(Bool->Hp->Prop)->Prop
noncomputable abbrev TA:=St->Hp->(List V->Hp->Prop)->Prop
structure Ends where
 nx:St->Hp->Prop
 rt:VK
 bk:St->Hp->Prop:=λ_ _=>False
 ct:St->Hp->Prop:=λ_ _=>False
noncomputable abbrev TS:=Ends->St->Hp->Prop
inductive EP (X:Cx)(b0Z:jw)(σ:St)(Q:VK)(u:Value)(s':YA):Prop
 |mk (v:V)(H':Hp)(I:Inv X b0Z σ H' s')(r:RelV v u)(q:Q v H'):EP X b0Z σ Q u s'
inductive TP (X:Cx)(b0Z:jw)(σ:St)(Q:Bool->Hp->Prop)(b:Bool)(s':YA):Prop
 |mk (H':Hp)(I:Inv X b0Z σ H' s')(q:Q b H'):TP X b0Z σ Q b s'
inductive AP (X:Cx)(b0Z:jw)(σ:St)(Q:gz->Hp->Prop)(us:gw)(s':YA):Prop
 |mk (vs:gz)(H':Hp)(I:Inv X b0Z σ H' s')(r:Vals vs us)(q:Q vs H'):AP X b0Z σ Q us s'
inductive SPn (X:Cx)(b0Z:jw)(Q:St->Hp->Prop)(s':YA):Prop
 |mk (σ':St)(H':Hp)(I:Inv X b0Z σ' H' s')(q:Q σ' H'):SPn X b0Z Q s'
inductive SPr (X:Cx)(b0Z:jw)(Q:VK)(u:Value)(s':YA):Prop
 |mk (v:V)(σ':St)(H':Hp)(I:Inv X b0Z σ' H' s')(r:RelV v u)(q:Q v H'):SPr X b0Z Q u s'
abbrev SP(X:Cx)(b0Z:jw)(D:Ends)(f:Flow)(a:YA):Prop:=
 match f with
 |.next=>SPn X b0Z D.nx a|.brk=>SPn X b0Z D.bk a|.cont=>SPn X b0Z D.ct a|.ret u=>SPr X b0Z D.rt u a
abbrev PE(X:Cx)(e:Expr)(t:TE):Prop:=
 ∀(b0Z:jw)(s:YA)(σ:St)(H:Hp)(Q:VK),Inv X b0Z σ H s->t σ H Q->Y6 (Y5 X.prog X.w) X.A (eval e X.env) (EP X b0Z σ Q) X.xe s
abbrev PT(X:Cx)(e:Expr)(t:TT):Prop:=
 ∀(b0Z:jw)(s:YA)(σ:St)(H:Hp)(Q:Bool->Hp->Prop),Inv X b0Z σ H s->t σ H Q->Y6 (Y5 X.prog X.w) X.A (a8k e X.env<|eval e X.env) (TP X b0Z σ Q) X.xe s
abbrev PW(X:Cx)(e:Expr)(t:TT):Prop:=
 ∀(a:a7e Value)(b0Z:jw)(s:YA)(σ:St)(H:Hp)(Q:Bool->Hp->Prop),Inv X b0Z σ H s->t σ H Q->Y6 (Y5 X.prog X.w) X.A (a8k e X.env a) (TP X b0Z σ Q) X.xe s
def PW.pt(h:PW X e t):PT X e t:=h _
abbrev PA(X:Cx)(es:List Expr)(t:TA):Prop:=
 ∀(pos:a0u)(b0Z:jw)(s:YA)(σ:St)(H:Hp)(Q:gz->Hp->Prop),Inv X b0Z σ H s->t σ H Q->Y6 (Y5 X.prog X.w) X.A (spliced<|a1C pos<|Zo es X.env) (AP X b0Z σ Q) X.xe s
abbrev PS(X:Cx)(st:Stmt)(t:TS):Prop:=
 ∀(b0Z:jw)(s:YA)(σ:St)(H:Hp)(D:Ends),Inv X b0Z σ H s->t D σ H->Y6 (Y5 X.prog X.w) X.A (exec st X.env) (SP X b0Z D) X.xe s
abbrev PSs(X:Cx)(st:List Stmt)(t:TS):Prop:=
 ∀(b0Z:jw)(s:YA)(σ:St)(H:Hp)(D:Ends),Inv X b0Z σ H s->t D σ H->Y6 (Y5 X.prog X.w) X.A (execs st X.env) (SP X b0Z D) X.xe s
def aV{t:a7e c}{Q b:c->YA->Prop}(h:Y6 M A t Q E s)(d:∀a s,Q a s->b a s):Y6 M A t b E s:=ZT h d λ_ _ x=>x
abbrev xN(i:Nat):TE:=λσ H Q=>∃v,σ[i]?=b0 (b0 v)/\Q v H
abbrev tC(v:V):TE:=λ_ H Q=>Q v H
def Cb(j:X.N[i]?=b0 x)(p:nP X.env.scope x)(hd:(x==("__debug__":Str))=false:=by decide)(g:(x==("__classdict__":Str))=false:=by decide):PE X (.Name x pos) (xN i):=by
 intro d s w H Q I h;obtain⟨v,e,h⟩:=h;obtain⟨m,o,k⟩:=I.loc;obtain⟨u,r,l⟩:=k i x v j e p;have fin:EP X d w Q u s:=⟨v,H,I,r,h⟩;rcases l with⟨b,n⟩|⟨b,c,hc,a⟩
 .show a9t (wpAny_loadName_local I.ok.kind b o n fin) hd
 .rcases b with b|b
  .show a9t (wpAny_loadName_cell I.ok.kind b hc a fin) hd
  .show a9t (wpAny_loadName_free I.ok.kind b hc a fin g) hd
def Jt{i j pos}:PE X (.Constant (.int i) j pos) (tC<|.int i):=λ_ _ _ H _ I h=>wpAny_Constant_int ⟨.int i,H,I.tok _,⟨_,rfl⟩,h⟩
def Ju{b j pos}:PE X (.Constant (.bool b) j pos) (tC<|.bl b):=λ_ _ _ H _ I h=>Constant_bool ⟨.bl b,H,I,rfl,h⟩
def Jv{j pos}:PE X (.Constant .none j pos) (tC .non):=λ_ _ _ H _ I h=>Constant_none ⟨.non,H,I,rfl,h⟩
def Jw{x j pos}:PE X (.Constant (.str x) j pos) (tC<|.str x):=λ_ _ _ H _ I h=>Calls.Constant_str ⟨.str x,H,I.tok _,⟨_,rfl⟩,h⟩
abbrev Gl(X:Cx)(x:Str):Prop:=X.env.kindOf x=b0 .globalImplicit
def q8{σ:St}(I:Inv X b0Z σ H s)(a:Gl X x)(b:X.mg x=b0 u)(h:Q u s)(hd:(x==("__debug__":Str))=false:=by decide):Y6 (Y5 X.prog X.w) X.A (eval (.Name x pos) X.env) Q E s:=
 a6e I.ok.kind a (Calls.loadGlobal_global (by rw[I.ok.glob];show I.mod.glob.keeps I.bk) b h) hd
def hZ{σ:St}(I:Inv X b0Z σ H s)(c:Gl X x)(d:X.mg x=b5)(g:a0B x=b0 u)(h:Q u s)(e:x ≠ "__name__":=by decide)(hd:(x==("__debug__":Str))=false:=by decide):Y6 (Y5 X.prog X.w) X.A (eval (.Name x pos) X.env) Q E s:=by
 obtain⟨i,a,b⟩:=I.mod.blt;show a6e I.ok.kind c (Calls.loadGlobal_builtin (by rw[I.ok.glob];show I.mod.glob.keeps I.bk) d (by rw[I.ok.blt];show a.keeps I.bk) ((b x e).trans g) h) hd
def Jx(a:Gl X x)(b:X.mg x=b0 u)(r:RelV v u)(hd:(x==("__debug__":Str))=false:=by decide):PE X (.Name x pos) (tC v):=
 λ_ _ _ H _ I h=>q8 I a b ⟨v,H,I,r,h⟩ hd
def Jy(a:Gl X x)(b:X.mg x=b5)(d:a0B x=b0 u)(r:RelV v u)(c:x ≠ "__name__":=by decide)(hd:(x==("__debug__":Str))=false:=by decide):PE X (.Name x pos) (tC v):=
 λ_ _ _ H _ I h=>hZ I a b d ⟨v,H,I,r,h⟩ c hd
abbrev Jz(t u:TT):TT:=λσ H Q=>t σ H λc d=>if c=d7 then u σ d Q else Q dI d
abbrev JA(t u:TT):TT:=λσ H Q=>t σ H λc d=>if c=d7 then Q d7 d else u σ d Q
abbrev JB(t:TT):TT:=λσ H Q=>t σ H λc d=>Q (!c) d
def JC(g:PT X a tA):PW X (.BoolOp .And [a] pos) tA:=by
 intro k d s i H Q I h;show isTrue_and<|aV (g d s i H Q I h) λc j e=>?_;cases c with
 |true=>show isTrue_and_nil e|false=>show e
def JD(g:PT X a tA):PW X (.BoolOp .Or [a] pos) tA:=by
 intro k d s i H Q I h;show isTrue_or<|aV (g d s i H Q I h) λc j e=>?_;cases c with
 |false=>show isTrue_or_nil e|true=>show e
def JE{rest:List Expr}(k:PT X a tA)(l:PW X (.BoolOp .And (b::rest) pos) tB'):PW X (.BoolOp .And (a::b::rest) pos) (Jz tA tB'):=by
 intro o d s j H Q I h;show isTrue_and<|aV (k d s j H _ I h) λc n ⟨e,g,i⟩=>?_;cases c with
 |true=>show l o d n j e Q g i|false=>show⟨e,g,i⟩
def JF{rest:List Expr}(k:PT X a tA)(l:PW X (.BoolOp .Or (b::rest) pos) tB'):PW X (.BoolOp .Or (a::b::rest) pos) (JA tA tB'):=by
 intro o d s j H Q I h;show isTrue_or<|aV (k d s j H _ I h) λc n ⟨e,g,i⟩=>?_;cases c with
 |true=>show⟨e,g,i⟩|false=>show l o d n j e Q g i
def JG(i:PT X a tA):PT X (.UnaryOp .Not a pos) (JB tA):=by intro d s j H Q I h;show isTrue_not<|aV (i d s j H (λc g=>Q (!c) g) I h) λ_ _ ⟨e,J,q⟩=>⟨e,J,q⟩
abbrev JI(ta tb:TE):TE:=λσ H Q=>ta σ H λx d=>∃c,x=.bl c/\if c=d7 then tb σ d Q else Q (.bl dI) d
abbrev JJ(ta tb:TE):TE:=λσ H Q=>ta σ H λx d=>∃c,x=.bl c/\if c=d7 then Q (.bl d7) d else tb σ d Q
abbrev JK(ta:TE):TE:=λσ H Q=>ta σ H λx d=>∃c,x=.bl c/\Q (.bl<|!c) d
def JL{op}(h:PE X a t):PE X (.BoolOp op [a] pos) t:=λb0Z s σ H Q I hw=>BoolOp_one<|h b0Z s σ H Q I hw
def JM{rest:List Expr}(k:PE X a ta)(l:PE X (.BoolOp .And (b::rest) pos) tb):PE X (.BoolOp .And (a::b::rest) pos) (JI ta tb):=by
 intro d s j H Q I h;show BoolOp_and<|aV (k d s j H _ I h) λv o ⟨x,g,i,n,e⟩=>?_;obtain⟨c,rfl,e⟩:=e;cases n;show a0i ?_;cases c with
 |true=>show l d o j g Q i e|false=>show⟨.bl dI,g,i,rfl,e⟩
def JN{rest:List Expr}(k:PE X a ta)(l:PE X (.BoolOp .Or (b::rest) pos) tb):PE X (.BoolOp .Or (a::b::rest) pos) (JJ ta tb):=by
 intro d s j H Q I h;show BoolOp_or<|aV (k d s j H _ I h) λv o ⟨x,g,i,n,e⟩=>?_;obtain⟨c,rfl,e⟩:=e;cases n;show a0i ?_;cases c with
 |false=>show l d o j g Q i e|true=>show⟨.bl d7,g,i,rfl,e⟩
def JO(j:PE X a ta):PE X (.UnaryOp .Not a pos) (JK ta):=by intro d s l H Q I h;show UnaryOp_<|aV (j d s l H _ I h) λv n ⟨x,g,i,k,e⟩=>?_;obtain⟨c,rfl,e⟩:=e;cases k;show not_of<|a0i ⟨.bl<|!c,g,i,rfl,e⟩
abbrev JP(t:TT)(ta tb:TE):TE:=λσ H Q=>t σ H λc d=>if c=d7 then ta σ d Q else tb σ d Q
def JQ(hc:PT X c tA)(n:PE X a ta)(o:PE X b tb):PE X (.IfExp c a b pos) (JP tA ta tb):=by
 intro e s g H Q I h;show wpAny_IfExp<|aV (hc e s g H _ I h) λd l ⟨i,j,k⟩=>?_;cases d with
 |true=>show n e l g i Q j k|false=>show o e l g i Q j k
abbrev SqL(K:Yx)(H:Hp)(a:Addr)(xs:gz):Prop:=
 Rd H a (.lst xs) \/
  ∃(o:Obj)(its:Array Value)(n:Nat),K.lookup a=b0 o/\o.cls=.type "list"/\o.dict=b5/\o.data=.seq its n/\its.size<=YM/\Vals xs its.toList
abbrev SqT(K:Yx)(H:Hp)(a:Addr)(xs:gz):Prop:=
 Rd H a (.tup xs) \/
  ∃(o:Obj)(its:Array Value)(n:Nat),K.lookup a=b0 o/\o.cls=.type "tuple"/\o.dict=b5/\o.data=.seq its n/\its.size<=YM/\Vals xs its.toList
abbrev JR:Value->Option V
 |.none=>b0 .non|.bool b=>b0 (.bl b)|.int i _=>b0 (.int i)|.str x _=>b0 (.str x)|.bytes b _=>b0 (.byt b)|.float b _=>b0 (.flt b)|.ref a=>b0 (.ref a)|.type n=>b0 (.ty n)|_=>b5
def RelV.abs(r:RelV x u):JR u=b0 x:=by
 cases x with
 |non=>cases r;rfl|bl _=>cases r;rfl|int _=>obtain⟨t,rfl⟩:=r;rfl|str _=>obtain⟨t,rfl⟩:=r;rfl|byt _=>obtain⟨t,rfl⟩:=r;rfl|flt _=>obtain⟨t,rfl⟩:=r;rfl|ref _=>cases r;rfl|ty _=>cases r;rfl
def RelV.inj(r:RelV x u)(q:RelV y u):x=y:=YX<|r.abs.symm.trans q.abs
def Vals.inj:∀{xs a}{us},Vals xs us->Vals a us->xs=a
 |_,_,_,.nil,.nil=>rfl|_,_,_,.cons r t,.cons r' t'=>by rw[r.inj r',Vals.inj t t']
def SqL.of{K:Yx}(h:H a=b0 (.lst xs)):SqL K H a xs:=.inl<|.inl h
def SqT.of{K:Yx}(h:H a=b0 (.tup xs)):SqT K H a xs:=.inl<|.inl h
def Inv.list{σ:St}(I:Inv X b0Z σ H s)(h:SqL X.K H a xs):∃its,Vals xs its/\PlainL s.heap a its.toArray/\xs.length<=YM:=by
 rcases h with h|⟨o,its,n,b,hc,hd,c,d,r⟩
 .obtain⟨z,its,n,r,e⟩:=h.ok I.hok;show⟨its,r,⟨_,n,e,rfl,rfl,rfl⟩,z⟩
 .show⟨its.toList,r,⟨o,n,I.kIn a o b,hc,hd,by simpa using c⟩,?_⟩;have e:=r.length;simp only[a1I]at e;lia
def Inv.tuple{σ:St}(I:Inv X b0Z σ H s)(h:SqT X.K H a xs):∃its,Vals xs its/\a9U s.heap a its.toArray/\xs.length<=YM:=by
 rcases h with h|⟨o,its,n,b,hc,hd,c,d,r⟩
 .obtain⟨z,its,r,p⟩:=h.ok I.hok;show⟨its,r,p.tup,z⟩
 .show⟨its.toList,r,⟨o,I.kIn a o b,hc,n,by simpa using c⟩,?_⟩;have e:=r.length;simp only[a1I]at e;lia
def Inv.tupN{σ:St}(I:Inv X b0Z σ H s)(h:SqT X.K H a xs):∃its,Vals xs its/\TupN s.heap a its.toArray:=by
 rcases h with h|⟨o,its,n,b,hc,hd,c,d,r⟩
 .obtain⟨z,its,r,p⟩:=h.ok I.hok;show⟨its,r,p⟩
 .show⟨its.toList,r,o,I.kIn a o b,hc,n,by simpa using c,hd⟩
def Inv.list_inj{σ:St}(I:Inv X b0Z σ H s)(h:SqL X.K H a xs)(h':SqL X.K H a ys):xs=ys:=by
 obtain⟨c,r,⟨o,n,e,_,_,d⟩,_⟩:=I.list h;obtain⟨b,j,⟨l,k,i,_,_,g⟩,_⟩:=I.list h';rw[e]at i;cases i;rw[d]at g;injection g with d1 _;have:c=b:=by simpa using congrArg a6N d1
 subst this;show r.inj j
def Inv.tuple_inj{σ:St}(I:Inv X b0Z σ H s)(h:SqT X.K H a xs)(h':SqT X.K H a ys):xs=ys:=by
 obtain⟨c,r,⟨o,e,_,n,d⟩,_⟩:=I.tuple h;obtain⟨b,j,⟨l,i,_,k,g⟩,_⟩:=I.tuple h';rw[e]at i;cases i;rw[d]at g;injection g with d1 _;have:c=b:=by simpa using congrArg a6N d1
 subst this;show r.inj j
noncomputable abbrev Cx.wish(X:Cx)(E:Value->YA->Prop):Cx:={X with xe:=E}
noncomputable abbrev Cx.nox(X:Cx):Cx:=X.wish λ_ _=>False
def Cx.Ok.wish{X:Cx}(ok:X.Ok)E:(X.wish E).Ok:=
 ⟨ok.mod,ok.kind,ok.glob,ok.blt,ok.above,ok.inj,ok.has,ok.cab,ok.hd,ok.frames,ok.stk,ok.exf,ok.bs,ok.bsz,ok.noex,ok.exfs,ok.funs,ok.frf⟩
def Cx.Ok.unwish{X:Cx}(ok:(X.wish E).Ok):X.Ok:=
 ⟨ok.mod,ok.kind,ok.glob,ok.blt,ok.above,ok.inj,ok.has,ok.cab,ok.hd,ok.frames,ok.stk,ok.exf,ok.bs,ok.bsz,ok.noex,ok.exfs,ok.funs,ok.frf⟩
def Inv.wish{σ:St}(I:Inv X b0Z σ H s)E:Inv (X.wish E) b0Z σ H s:=⟨I.ok.wish E,I.os,I.bare,I.base,I.loc,I.cell,I.free,I.freeC,I.pin,I.hok,I.len⟩
def Inv.unwish{σ:St}(I:Inv (X.wish E) b0Z σ H s):Inv X b0Z σ H s:=⟨I.ok.unwish,I.os,I.bare,I.base,I.loc,I.cell,I.free,I.freeC,I.pin,I.hok,I.len⟩
def SP.unwish(h:SP (X.wish E) b0Z D f c):SP X b0Z D f c:=by
 cases f with
 |next=>obtain⟨a,b,I,q⟩:=h;show⟨a,b,I.unwish,q⟩|brk=>obtain⟨a,b,I,q⟩:=h;show⟨a,b,I.unwish,q⟩|cont=>obtain⟨a,b,I,q⟩:=h;show⟨a,b,I.unwish,q⟩|ret u=>obtain⟨v,a,b,I,r,q⟩:=h;show⟨v,a,b,I.unwish,r,q⟩
def PSs.nox{st:List Stmt}(h:PSs X.nox st t):PSs X st t:=λb0Z s σ H D I hw=>ZT (h b0Z s σ H D (I.wish _) hw) (λ_ _ q=>q.unwish) λ_ _ z=>a1h z
abbrev Cd:TS:=λD σ H=>D.nx σ H
abbrev JS(t u:TS):TS:=λD σ H=>t {D with nx:=u D} σ H
def JT:PSs X [] Cd:=λ_ _ σ H _ I h=>a4H ⟨σ,H,I,h⟩
def JU{st:Stmt}{rest:List Stmt}(h1:PS X st t)(g:PSs X rest u):PSs X (st::rest) (JS t u):=by
 intro a s j H D I h;show a9Y<|aV (h1 a s j H {D with nx:=u D} I h) λf i q=>?_;cases f with
 |next=>obtain⟨b,c,d,q⟩:=q;show g a i b c D d q|ret v=>show q|brk=>show q|cont=>show q
def JV{st:Stmt}(h1:PS X st t):PSs X [st] t:=by
 intro a s b H D I h;show a9Y<|aV (h1 a s b H D I h) λf c q=>?_;cases f with
 |next=>show a4H q|ret v=>show q|brk=>show q|cont=>show q
def JW:PS X (.Pass pos) Cd:=λ_ _ σ H _ I h=>wpAny_Pass ⟨σ,H,I,h⟩
def Inv.quiet{σ:St}(I:Inv X b0Z σ H s):interactive X.env=false:=by simp[interactive,I.ok.kind]
abbrev JX(te:TE):TS:=λD σ H=>te σ H λ_ a=>D.nx σ a
def JY(g:PE X e te)(i:a3T e b5 pos.line X.env=pure false:=by rfl):PS X (.Expr e pos) (JX te):=by intro a s b H D I h;show wpAny_Expr_any (aV (g a s b H _ I h) λv l ⟨x,c,d,k,j⟩=>⟨b,c,d,j⟩) I.quiet i
abbrev JZ(te:TE):TS:=λD σ H=>te σ H D.rt
def J0(g:PE X e te):PS X (.Return (b0 e) pos) (JZ te):=by intro a s b H D I h;show wpAny_Return_some<|aV (g a s b H _ I h) λv k ⟨x,c,d,j,i⟩=>⟨x,b,c,d,j,i⟩
abbrev J1:TS:=λD _ H=>D.rt .non H
def J2:PS X (.Return b5 pos) J1:=λ_ _ σ H _ I h=>wpAny_Return_none ⟨.non,σ,H,I,rfl,h⟩
abbrev J5(c:TT)(t u:TS):TS:=λD σ H=>c σ H λb a=>if b=d7 then t D σ a else u D σ a
def J6(hc:PT X c o)(p:PSs X a t)(r:PSs X b u):PS X (.If c a b pos) (J5 o t u):=by
 intro g s i H D I h;show wpAny_If<|aV (hc g s i H _ I h) λd n ⟨j,k,l⟩=>?_;cases d with
 |true=>show p g n i j D k l|false=>show r g n i j D k l
noncomputable abbrev TG:=V->St->Hp->(St->Hp->Prop)->Prop
noncomputable abbrev o8:=List V->St->Hp->(St->Hp->Prop)->Prop
abbrev PG(X:Cx)(a:Expr)(t:TG):Prop:=
 ∀(b0Z:jw)(s:YA)(σ:St)(H:Hp)(v:V)(u:Value)(Q:St->Hp->Prop),Inv X b0Z σ H s->RelV v u->t v σ H Q->
  Y6 (Y5 X.prog X.w) X.A (a5I a X.env u) (λ_ b=>SPn X b0Z Q b) X.xe s
abbrev rA(X:Cx)(ts:List Expr)(t:o8):Prop:=
 ∀(b0Z:jw)(s:YA)(σ:St)(H:Hp)(vs:gz)(us:gw)(Q:St->Hp->Prop),Inv X b0Z σ H s->Vals vs us->t vs σ H Q->
  Y6 (Y5 X.prog X.w) X.A (assignInOrder ((a1m ts X.env).map (·.2)) us) (λ_ a=>SPn X b0Z Q a) X.xe s
abbrev xO(i:Nat):TG:=λv σ H Q=>Q (σ.set i<|b0 v) H
def Ce(c:X.N.Nodup)(e:X.N[i]?=b0 x)(g:Loc X.env.scope x)(d:X.fn x=d7\/X.env.scope.names.lookup x=b0 .local:=by first|show .inl rfl|show .inr rfl|assumption):PG X (.Name x pos) (xO i):=by intro b s k H v u Q I r h;show a9I<|Ca I c e g r (λj a=>⟨_,H,a,h⟩) d
abbrev Cf:o8:=λvs σ H Q=>vs=[]/\Q σ H
abbrev Cg(t:TG)(u:o8):o8:=λvs σ H Q=>∃v r,vs=v::r/\t v σ H λa b=>u r a b Q
def J7:rA X [] Cf:=by intro a s b H d c Q I r h;obtain⟨e,h⟩:=h;subst e;cases r;show assignInOrder_nil ⟨b,H,I,h⟩
def J8(h1:PG X e t)(i:rA X es u)(j:(a1m (e::es) X.env).map (·.2)=a5I e X.env::(a1m es X.env).map (·.2):=by rfl):rA X (e::es) (Cg t u):=by
 intro a s o H x p Q I r h;obtain⟨v,w,g,h⟩:=h;subst g;cases r with
 |cons r l=>rw[j];show assignInOrder_cons<|aV (h1 a s o H _ _ _ I r h) λ_ n ⟨b,c,d,k⟩=>?_;show i a n b c _ _ Q d l k
abbrev Ci(b:TE)(g:TG):TS:=λD σ H=>b σ H λx a=>g x σ a D.nx
def J9(j:PE X e b)(k:PG X tg g)(l:swapsWithSole [tg] e pos.line X.env=pure false:=by rfl)(hw:a7E [tg] e X.env=pure none:=by rfl)(h1:(a1m [tg] X.env).map (·.2)=[a5I tg X.env]:=by rfl):PS X (.Assign [tg] e pos) (Ci b g):=by
 intro a s c H D I h;show wpAny_Assign_stores (aV (j a s c H _ I h) λv p ⟨x,d,i,o,n⟩=>?_) l hw;rw[h1];show aV (k a p c d x v _ i o n) λ_ r q=>q
def Ka(k:X.N.Nodup)(o:X.N[i]?=b0 x)(r:Loc X.env.scope x)(l:PE X e c)(p:a3T e (b0<|.Name x a) pos.line X.env=pure false:=by rfl)(n:X.fn x=d7\/X.env.scope.names.lookup x=b0 .local:=by first|show .inl rfl|show .inr rfl|assumption):
  PS X (.Assign [.Name x a] e pos) (Ci c<|xO i):=by
 intro b s z H D I h;show wpAny_Assign_Name (aV (l b s z H _ I h) λv A ⟨y,d,g,w,u⟩=>?_) p;show Ca g k o r w (λB j=>⟨_,d,j,u⟩) n
abbrev Kb(c:TT)(h:TS):TS:=λD σ H=>∃W:Nat->St->Hp->Prop,(∃m,W m σ H)/\∀m σ H,W m σ H->
 c σ H λb e=>if b=d7 then ∃N:St->Hp->Prop,(∀a d,N a d->∃g,g<m/\W g a d)/\h {D with nx:=N,ct:=N,bk:=D.nx} σ e else D.nx σ e
def Kc(B:a6w (Y5 X.prog X.w) X.A X.env X.xe)(hc:PT X c G)(L:PSs X body E):PS X (.While c body [] pos) (Kb G E):=by
 intro e s Y H D I h;obtain⟨W,⟨M,T⟩,turn⟩:=h;show wpAny_While<|codeAny_whileLoop (λn O=>∃i w,Inv X e i w O/\W n i w) ?_ M ⟨Y,H,I,T⟩;rintro n Q ⟨d,x,K,U⟩;show a2g B<|aV (hc e Q d x _ K<|turn n d x U) λb R ⟨y,z,j⟩=>?_;cases b with
 |true=>
  obtain⟨N,A,j⟩:=j;rw[if_pos rfl];show a2g B<|aV (L e R d y _ z j) λf Z k=>?_;cases f with
  |next=>obtain⟨a,g,l,r⟩:=k;obtain⟨p,o,u⟩:=A a g r;show⟨p,o,a,g,l,u⟩|cont=>obtain⟨a,g,l,r⟩:=k;obtain⟨p,o,u⟩:=A a g r;show⟨p,o,a,g,l,u⟩|brk=>show k|ret v=>show k
 |false=>rw[if_neg YE];show a4H ⟨d,y,z,j⟩
structure It where
 go:Nat->Hp->Prop
 yld:Nat->Hp->V->Hp->Prop
 stop:Nat->Hp->Prop
abbrev iA(X:Cx)(b0Z:jw)(H:Hp)(b:Addr):Prop:=
 H b=b5/\b≠X.env.locals/\b∉X.fs/\(b∈X.ex\/X.s₀.heap.objs.size<=b)/\(∀x c,X.env.cells.lookup x=b0 c->c≠b)/\∀p∈X.pn++b0Z,p.1≠b
def Inv.fpOk{σ:St}{b:Addr}(I:Inv X b0Z σ H s)(a:s.heap.objs.size<=b)(g:d b=b5):iA X b0Z d b:=by
 show⟨g,a0r<|Zg I.lt a,I.nofs a,.inr<|Zr I.sz a,λx c e z=>?_,λp h z=>?_⟩
 .obtain⟨v,q⟩:=I.cell x c e;show absurd (Zg q.lt<|by rw[z];show a)<|a0f _
 .show absurd (Zg (YJ (I.pin p h).1)<|by rw[z];show a)<|a0f _
noncomputable abbrev Qc(X:Cx):Prop:=X.calm=d7
structure Turn(q:Cx->Prop)(P:Y4)(w:Zk)(K:Yx)(tg:Expr)(J:It)(fp:List Addr)(it:Addr)(tn:Nat->ZX->Prop):Prop where
 mem:it∈fp
 obj:∀i h,tn i h->∀b∈fp,∃o,h.get? b=b0 o/\∀v,o.data≠.cell v
 keep:∀i h h',tn i h->(∀b∈fp,∀o,h.get? b=b0 o->h'.get? b=b0 o)->tn i h'
 item:∀(X:Cx),X.prog=P->X.w=w->X.K=K->q X->∀(i:Nat)(b0Z:jw)(s:YA)(σ:St)(H:Hp)(E:Value->YA->Prop),Inv X b0Z σ H s->(∀b∈fp,iA X b0Z H b)->tn i s.heap->J.go i H->
  Y6 (Y5 P w) X.A (a2b<|.ref it) (λr s1=>∃u,r=b0 u /\
   Y6 (Y5 P w) X.A (a4J tg (.ref it) u) (λ_ s2=>∃x H',Inv X b0Z σ H' s2/\RelV x u/\J.yld i H x H'/\tn (i+1) s2.heap/\∀b∈fp,H' b=b5) E s1) E s
 done:∀(X:Cx),X.prog=P->X.w=w->X.K=K->q X->∀(i:Nat)(b0Z:jw)(s:YA)(σ:St)(H:Hp)(E:Value->YA->Prop),Inv X b0Z σ H s->(∀b∈fp,iA X b0Z H b)->tn i s.heap->J.stop i H->
  Y6 (Y5 P w) X.A (a2b<|.ref it) (λr s1=>r=b5/\Inv X b0Z σ H s1) E s
 self:∀(A:Zi)(i:Nat)(s:YA)(Q:Value->YA->Prop)(E:Value->YA->Prop),tn i s.heap->Q (.ref it) s->Y6 (Y5 P w) A (a6s<|.ref it) Q E s
noncomputable abbrev TI:=St->Hp->(It->Hp->Prop)->Prop
inductive PIEq (q:Cx->Prop)(X:Cx)(b0Z:jw)(σ:St)(tg:Expr)(R:It->Hp->Prop)(itv:Value)(s2:YA):Prop
 |mk (it:Addr)(fp:List Addr)(tn:Nat->ZX->Prop)(J:It)(H':Hp)(e:itv=.ref it)(I:Inv X b0Z σ H' s2)(T:Turn q X.prog X.w X.K tg J fp it tn)(t0:tn 0 s2.heap)(f:∀b∈fp,iA X b0Z H' b)(r:R J H'):PIEq q X b0Z σ tg R itv s2
noncomputable abbrev Cj:=PIEq Qc
abbrev rB(q:Cx->Prop)(X:Cx)(tg iter:Expr)(b:TI):Prop:=
 ∀(b0Z:jw)(s:YA)(σ:St)(H:Hp)(R:It->Hp->Prop),Inv X b0Z σ H s->b σ H R->
  Y6 (Y5 X.prog X.w) X.A (eval iter X.env) (λv a=>Y6 (Y5 X.prog X.w) X.A (a6s v) (PIEq q X b0Z σ tg R) X.xe a) X.xe s
noncomputable abbrev PI:=rB Qc
def o9(d:s.heap.get? b=b0 o)(hc:o.cls=.type n)(hd:o.data=.fields vs)(c:["enumerate","zip","dict_itemiterator","dict_reverseitemiterator","odict_iterator","itertools.zip_longest","itertools.pairwise"].contains n=dI)(a:Q () s):Y6 M A (a4J tg (.ref b) u) Q E s:=by
 unfold a4J
 cases tg<;>first
  | show YH a
  | (cases u<;>first
    | show YH a
    | (show Yw<|a6Y d ?_
       rw [hc,hd]
       change Y6 M A (if (["enumerate","zip","dict_itemiterator","dict_reverseitemiterator","odict_iterator","itertools.zip_longest","itertools.pairwise"].contains n&&vs[0]? == b0 (a3u _))=d7 then _ else _) Q E s
       rw [if_neg<|by intro h;rw [c,a9q] at h;cases h]
       show YH a))
abbrev xP (K:Yx)(a:Addr):It:=
 ⟨fun i H=>∃ b x,SqL K H a b/\b[i]? = b0 x,fun i H x c=>c=H/\∀ b,SqL K H a b->b[i]? = b0 x,fun i H=>∃ b,SqL K H a b/\b.length<=i⟩
abbrev xQ(K:Yx)(a:Addr):It:=
 ⟨λi H=>∃b x,SqT K H a b/\b[i]?=b0 x,λi H x c=>c=H/\∀b,SqT K H a b->b[i]?=b0 x,λi H=>∃b,SqT K H a b/\b.length<=i⟩
abbrev mD(lo:Int)(n:Nat):It:=⟨λi _=>i<n,λi H x a=>a=H/\x=.int (lo+i),λi _=>n<=i⟩
def Kd{K:Yx}a j:Turn Qc P w K tg (xP K a) [j] j (λi h=>h.IsListIter j a i) where
 mem:=by simp
 obj:=λi h st b g=>by
  have e:b=j:=by simpa using g
  subst e;obtain⟨o,e,c,d⟩:=st;show⟨o,e,λv z=>by rw[d]at z;cases z⟩
 keep:=λi h r st k=>st.at λo e=>k j (by simp) o e;item:=by intro X Q hw O hc i l s Z H E I y st R;subst Q hw O;obtain⟨xs,x,A,T⟩:=R;obtain⟨U,Y,p,hz⟩:=I.list A;obtain⟨u,hu,ru⟩:=Y.get T;obtain⟨B,G,f2,L,M,N⟩:=y j (by simp);show a8g st p.isList (x:=u) (by simpa using hu) λr n sb=>?_;have I1:Inv X l Z H {s with heap:=r}:=I.turned (t':=s.toks) (λb o g e=>(sb.2 b g).trans e) B G L M N;obtain⟨o,e,c,d⟩:=id n;show⟨u,rfl,o9 (s:={s with heap:=r}) e c d (by decide) ⟨x,H,I1,ru,⟨rfl,λys hy=>by rw[I.list_inj hy A];show T⟩,n,λb g=>(y b g).1⟩⟩
 done:=by intro X Q hw O hc i l s Z H E I y st R;subst Q hw O;obtain⟨xs,A,T⟩:=R;obtain⟨U,Y,p,hz⟩:=I.list A;obtain⟨B,G,f2,L,M,N⟩:=y j (by simp);have hl:=Y.length;show a8F (I.ok.hd hc) st p.isList (by simp;lia) λr eb=>⟨rfl,I.turned (t':=s.toks) (λb o g e=>eb b o g e) B G L M N⟩
 self:=λ_ _ _ _ _ st h=>wpAny_pyIter_listiter st h
def Ke{K:Yx}a j:Turn Qc P w K tg (xQ K a) [j] j (λi h=>h.IsTupleIter j a i) where
 mem:=by simp
 obj:=λi h st b g=>by
  have e:b=j:=by simpa using g
  subst e;obtain⟨o,e,c,d⟩:=st;show⟨o,e,λv z=>by rw[d]at z;cases z⟩
 keep:=λi h y st k=>st.at λo e=>k j (by simp) o e;item:=by intro X R hw Q hc i n s Z H E I A st T;subst R hw Q;obtain⟨xs,x,B,U⟩:=T;obtain⟨l,Y,p,hz⟩:=I.tuple B;obtain⟨u,hu,ru⟩:=Y.get U;obtain⟨G,L,f2,M,N,O⟩:=A j (by simp);show a7O st (show s.heap.IsTuple a l.toArray from p) (x:=u) (by simpa using hu) λy r sb=>?_;have I1:Inv X n Z H {s with heap:=y}:=I.turned (t':=s.toks) (λb o g e=>(sb.2 b g).trans e) G L M N O;obtain⟨o,e,c,d⟩:=id r;show⟨u,rfl,o9 (s:={s with heap:=y}) e c d (by decide) ⟨x,H,I1,ru,⟨rfl,λys hy=>by rw[I.tuple_inj hy B];show U⟩,r,λb g=>(A b g).1⟩⟩
 done:=by intro X R hw Q hc i n s Z H E I A st T;subst R hw Q;obtain⟨xs,B,U⟩:=T;obtain⟨l,Y,p,hz⟩:=I.tuple B;obtain⟨G,L,f2,M,N,O⟩:=A j (by simp);have hl:=Y.length;show a8e (I.ok.hd hc) st (show s.heap.IsTuple a l.toArray from p) (by simp;lia) λy eb=>⟨rfl,I.turned (t':=s.toks) (λb o g e=>eb b o g e) G L M N O⟩
 self:=λ_ _ _ _ _ st h=>wpAny_pyIter_tupleiter st h
def Ck{K:Yx}a lo n:Turn Qc P w K tg (mD lo n) [a] a (λi h=>a3E h a (lo+(i:Nat)*1) ((n:Int)-(i:Nat)) 1) where
 mem:=by simp
 obj:=λi h st b c=>by
  have e:b=a:=by simpa using c
  subst e;show⟨_,st,λv z=>by
   have U:ZM _=a4c v:=z;cases U⟩
 keep:=λi h j st k=>k a (by simp) _ st;item:=by intro X B hw A hc i d s M H E I l st G;subst B hw A;obtain⟨p,r,Q,u,x,y⟩:=l a (by simp);have W:=a9N (prog:=X.prog) (w:=X.w) (I.ok.hd hc) a lo 1 n;show W.item i s _ _ G st λv j L R g T=>?_;obtain⟨t,rfl⟩:=R;have N:Inv X d M H {s with heap:=j,toks:=L}:=I.turned (λb o c e=>T b o (by simpa using c) e) p r u x y;show⟨_,rfl,o9 (s:={s with heap:=j,toks:=L}) (n:="range_iterator") g rfl rfl (by decide) ⟨.int<|lo+i,H,N,⟨t,?_⟩,⟨rfl,rfl⟩,g,λb c=>(l b c).1⟩⟩;rw[Int.mul_one]
 done:=by intro X B hw A hc i d s M H E I l st G;subst B hw A;obtain⟨p,r,Q,u,x,y⟩:=l a (by simp);show a8f (I.ok.hd hc) st (by have:n<=i:=G;lia) λj O=>⟨rfl,I.turned (t':=s.toks) (λb o c e=>O b o c e) p r u x y⟩
 self:=λ_ _ _ _ _ st h=>a8h st h
def Cm(tr:∀d lo n,Turn q X.prog X.w X.K tg (mD lo n) [d] d λi h=>a3E h d (lo+(i:Nat)*1) ((n:Int)-(i:Nat)) 1){σ:St}{lo:Int}(I:Inv X b0Z σ H s)(h1:-(2^62)<=lo)(k:lo<2^62)(l:-(2^62)<=a)(p:a<2^62)(r:R (mD lo (a-lo).toNat) H):Y6 (Y5 X.prog X.w) X.A (a6s<|.ref s.heap.objs.size) (PIEq q X b0Z σ tg R) E {s with heap:=s.heap.push {cls:=.type "range",data:=.fields #[.int lo t,.int a u,.int 1 v]},toks:=tk}:=by
 show a9s (a9n ..) (small_one h1 k l p) ?_;have c:Inv X b0Z σ H {s with heap:=s.heap.push {cls:=.type "range",data:=.fields #[.int lo t,.int a u,.int 1 v]},toks:=tk}:=I.kept λb o e=>YC _ e;show⟨(s.heap.push {cls:=.type "range",data:=.fields #[.int lo t,.int a u,.int 1 v]}).objs.size,[(s.heap.push {cls:=.type "range",data:=.fields #[.int lo t,.int a u,.int 1 v]}).objs.size],_,_,H,rfl,
  c.kept (t':=tk) λb o e=>YC _ e,tr _ lo (a-lo).toNat,?_,λb w=>?_,r⟩
 .have g:lo+((0:Nat):Int)*1=lo:=by simp
  have j:(((a-lo).toNat:Nat):Int)-((0:Nat):Int)=ZQ lo a 1:=by rw[rangeSize_one];split<;>lia
  change a3E _ _ (lo+((0:Nat):Int)*1) ((((a-lo).toNat:Nat):Int)-((0:Nat):Int)) 1;rw[g,j];show YR _ rfl
 .have e:b=(s.heap.push {cls:=.type "range",data:=.fields #[.int lo t,.int a u,.int 1 v]}).objs.size:=by simpa using w
  subst e;show c.fpOk (YG _)<|c.hok.fresh<|YG _
abbrev Kf(b:TA):TI:=λσ H R=>b σ H λvs a=>∃j:Int,vs=[.int j]/\-(2^62)<=j/\j<2^62/\R (mD 0 j.toNat) a
abbrev Kg(b:TA):TI:=λσ H R=>b σ H λvs a=>∃i j:Int,vs=[.int i,.int j]/\(-(2^62)<=i/\i<2^62/\-(2^62)<=j/\j<2^62)/\R (mD i (j-i).toNat) a
def Kh(tr:∀c lo n,Turn q X.prog X.w X.K tg (mD lo n) [c] c λi h=>a3E h c (lo+(i:Nat)*1) ((n:Int)-(i:Nat)) 1)(o:Gl X "range")(u:X.mg "range"=b5)(l:PA X [a] g)(v:Zo [a] X.env=[(dI,eval a X.env)]:=by rfl):rB q X tg (.Call (.Name "range" p) [a] [] pos) (Kf g):=by
 intro b s A H R I h;show a9W<|hZ I o u a9B<|Z4 (aV (l pos b s A H _ I h) λG E ⟨K,B,k,y,d⟩=>?_) v rfl;obtain⟨j,e,d,w,x⟩:=d;subst e;cases y with
 |cons r z=>cases z;obtain⟨t,rfl⟩:=r;show call_range_1<|Cm tr k ⋯ ⋯ d w<|by simpa using x
def Ki(u:Gl X "range")(v:X.mg "range"=b5)(o:PA X [a,b] l)(w:Zo [a,b] X.env=[(dI,eval a X.env),(dI,eval b X.env)]:=by rfl)(c:Zo [b] X.env=[(dI,eval b X.env)]:=by rfl):
  PI X tg (.Call (.Name "range" p) [a,b] [] pos) (Kg l):=by
 intro d s E H R I h;show a9W (hZ I u v a9B<|Z4 (aV (o pos d s E H _ I h) λM K ⟨N,G,n,B,g⟩=>?_) (by rw[w,c])<|by rw[c];rfl);obtain⟨i,j,e,⟨g,x,y,z⟩,q⟩:=g;subst e;cases B with
 |cons r k=>
  cases k with
  |cons A k=>cases k;obtain⟨t,rfl⟩:=r;obtain⟨L,rfl⟩:=A;show call_range_2<|Cm Ck n g x y z q
abbrev Kj(k:TI)(g:TG)(j:TS):TS:=λD σ H=>k σ H λJ e=>∃W:Nat->Nat->St->Hp->Prop,(∃m,W 0 m σ e)/\∀i m σ H,W i m σ H->
 (J.stop i H/\D.nx σ H)\/(J.go i H/\∃N:St->Hp->Prop,(∀b a,N b a->∃d,d<m/\W (i+1) d b a)/\∀x a,J.yld i H x a->g x σ a λc h=>j {D with nx:=N,ct:=N,bk:=D.nx} c h)
abbrev rF(a:List Addr)(h:ZX):jw:=a.filterMap λb=>(h.get? b).map λo=>(b,o)
def tY(c:b∈a)(e:h.get? b=b0 o):(b,o)∈rF a h:=a8b.mpr ⟨b,c,by rw[e];rfl⟩
def Kk(g:p∈rF a h):p.1∈a/\h.get? p.1=b0 p.2:=by
 obtain⟨b,d,e⟩:=a8b.mp g;cases q:h.get? b with
 |none=>rw[q]at e;cases e|some o=>rw[q]at e;have c:(b,o)=p:=YX e;subst c;show⟨d,q⟩
def Inv.pinned{σ:St}(I:Inv X b0Z σ H s)(k:∀b∈a,iA X b0Z H b)(l:∀b∈a,∃o,s.heap.get? b=b0 o/\∀v,o.data≠.cell v):Inv X (b0Z++rF a s.heap) σ H s:=
 I.pins_of λp n=>(YN.mp n).elim (λz=>I.pin p<|a0a _ z) λz=>by obtain⟨g,e⟩:=Kk z;obtain⟨h,i,j,_⟩:=k p.1 g;obtain⟨o,c,d⟩:=l p.1 g;rw[e]at c;cases c;show⟨e,h,i,j,d⟩
def Inv.unpinned{σ:St}(I:Inv X (b0Z++b) σ H s):Inv X b0Z σ H s:=I.pins_of λp a=>I.pin p<|a0a _<|a7w _ a
def Kl(L:a6w (Y5 X.prog X.w) X.A X.env X.xe)(hc:X.calm=d7)(hi:PI X tg iter wi)(hg:PG X tg g)(p:PSs X body tb)(hs:∀x,a2o iter X.env x=pure x:=by intro _;rfl):PS X (.For tg iter body [] pos) (Kj wi g tb):=by
 intro c s σ H D I h;show wpAny_For (aV (hi c s σ H _ I h) λv s1 h1=>aV h1 λitv s2 h2=>?_) hs;obtain⟨it,G,tn,J,H2,e,I2,T,st2,f2,W,⟨m0,w0⟩,turn⟩:=h2;subst e
  -- what stays d7 of the iterator's objects through the loop
 have w:∀{A:Hp},(∀b∈G,A b=b5)->∀b∈G,iA X c A b:=λhn b p=>⟨hn b p,(f2 b p).2⟩;show codeAny_forLoop_any (λn s'=>∃i y A,Inv X c y A s'/\tn i s'.heap/\(∀b∈G,A b=b5)/\W i n y A) ?_ m0 ⟨0,σ,H2,I2,st2,λb p=>(f2 b p).1,w0⟩;rintro n s3 ⟨i,z,R,I3,O,K,w3⟩;rcases turn i n z R w3 with⟨Q,qn⟩|⟨go,N,hN,step⟩
 .show a2g L<|aV (T.done X rfl rfl rfl hc i c s3 z R X.xe I3 (w K) O Q) λr s4 ⟨Z,I4⟩=>?_;subst Z;show a4H ⟨z,R,I4,qn⟩
 .show a2g L<|aV (T.item X rfl rfl rfl hc i c s3 z R X.xe I3 (w K) O go) λr s4 ⟨u,Z,h4⟩=>?_;subst Z;show a2g L<|aV h4 λ_ s5 ⟨x,H5,I5,r5,y5,E,Y⟩=>?_;have U:=I5.pinned (w Y)<|T.obj _ _ E;show a2g L<|aV (hg _ s5 z H5 x u _ U r5<|step x H5 y5) λ_ s6 ⟨σ6,H6,I6,q6⟩=>?_;show a2g L<|aV (p _ s6 σ6 H6 _ I6 q6) λf s7 B=>?_;have l:∀{a:St}{j:Hp},Inv X (c++rF G s5.heap) a j s7->N a j->∃m,m<n/\∃i y A,Inv X c y A s7/\tn i s7.heap/\(∀b∈G,A b=b5)/\W i m y A:=λ{a j} k M=>by obtain⟨m',hm,w7⟩:=hN a j M;show⟨m',hm,i+1,a,j,k.unpinned,T.keep _ _ _ E λb p o e=>(k.pin (b,o)<|a0a _<|a0a _<|tY p e).1,λb p=>?_,w7⟩;obtain⟨o,e,d⟩:=T.obj _ _ E b p;show(k.pin (b,o)<|a0a _<|a0a _<|tY p e).2.1
  cases f with
  |next=>obtain⟨a,j,k,M⟩:=B;show l k M|cont=>obtain⟨a,j,k,M⟩:=B;show l k M|brk=>obtain⟨a,j,k,B⟩:=B;show⟨a,j,k.unpinned,B⟩|ret v=>obtain⟨x7,a,j,k,r7,B⟩:=B;show⟨x7,a,j,k.unpinned,r7,B⟩
noncomputable abbrev R2:=V->V->Hp->VK->Prop
abbrev OpR(X:Cx)(f:Value->Value->a7e Value)(r:R2):Prop:=
 ∀(b0Z:jw)(s:YA)(σ:St)(H:Hp)(x y:V)(v u:Value)(Q:VK),Inv X b0Z σ H s->RelV x v->RelV y u->r x y H Q->
  Y6 (Y5 X.prog X.w) X.A (f v u) (EP X b0Z σ Q) X.xe s
abbrev xR(X:Cx)(f:Value->a7e Value)(r:V->Hp->VK->Prop):Prop:=
 ∀(b0Z:jw)(s:YA)(σ:St)(H:Hp)(x:V)(v:Value)(Q:VK),Inv X b0Z σ H s->RelV x v->r x H Q->
  Y6 (Y5 X.prog X.w) X.A (f v) (EP X b0Z σ Q) X.xe s
abbrev CallR(X:Cx)(f:Value)(r:gz->Hp->VK->Prop):Prop:=
 ∀(b0Z:jw)(s:YA)(σ:St)(H:Hp)(xs:gz)(us:gw)(Q:VK),Inv X b0Z σ H s->Vals xs us->r xs H Q->
  Y6 (Y5 X.prog X.w) X.A (call f us) (EP X b0Z σ Q) X.xe s
abbrev Km(X:Cx)(r:V->Hp->(Bool->Hp->Prop)->Prop):Prop:=
 ∀(b0Z:jw)(s:YA)(σ:St)(H:Hp)(x:V)(v:Value)(Q:Bool->Hp->Prop),Inv X b0Z σ H s->RelV x v->r x H Q->
  Y6 (Y5 X.prog X.w) X.A (truthy v) (TP X b0Z σ Q) X.xe s
abbrev rG(r:R2)(c d:TE):TE:=λσ H Q=>c σ H λx a=>d σ a λy b=>r x y b Q
abbrev Kn(r:V->Hp->VK->Prop)(b:TE):TE:=λσ H Q=>b σ H λx a=>r x a Q
abbrev rI(C:Int->Int->Prop)(g:Int->Int->V):R2:=λx y H Q=>∃i j,x=.int i/\y=.int j/\C i j/\Q (g i j) H
abbrev iB(g:Int->Int->V):R2:=λx y H Q=>∃i j,x=.int i/\y=.int j/\Q (g i j) H
abbrev rU(g:Int->V):V->Hp->VK->Prop:=λx H Q=>∃i,x=.int i/\Q (g i) H
def xS(n:PE X a ta)(o:PE X b tb){σ:St}{R:V->V->Hp->Prop}(I:Inv X b0Z σ H s)(h:ta σ H λx j=>tb σ j λy d=>R x y d){f:Value->Value->a7e Value}(p:∀v u i x y d,Inv X b0Z σ d i->RelV x v->RelV y u->R x y d->Y6 (Y5 X.prog X.w) X.A (f v u) Q X.xe i):
  Y6 (Y5 X.prog X.w) X.A (eval a X.env) (λv e=>Y6 (Y5 X.prog X.w) X.A (eval b X.env) (λu g=>Y6 (Y5 X.prog X.w) X.A (f v u) Q X.xe g) X.xe e) X.xe s:=by
 show aV (n b0Z s σ H _ I h) λv B ⟨x,j,k,z,r⟩=>?_;show aV (o b0Z B σ j _ k r) λu i ⟨y,d,l,A,w⟩=>?_;show p v u i x y d l z A w
def Ko(k:OpR X (a2I op) r)(i:PE X a ta)(j:PE X b tb):PE X (.BinOp a op b pos) (rG r ta tb):=by intro d s p H Q I h;show wpAny_BinOp<|xS i j I h λv u o x y e g l n q=>k d o p e x y v u Q g l n q
def Kq(k:xR X (unaryOp op) r)(j:PE X a ta):PE X (.UnaryOp op a pos) (Kn r ta):=by intro d s e H Q I h;show UnaryOp_<|aV (j d s e H _ I h) λv o ⟨x,g,i,n,l⟩=>k d o e g x v Q i n l
def xT{g:Int->Int->Int}(d:∀i j t u s Q E,C i j->Q (.int (g i j) s.toks) {s with toks:=s.toks+1}->Y6 (Y5 X.prog X.w) X.A (f (.int i t)<|.int j u) Q E s):
  OpR X f (rI C λi j=>.int<|g i j):=by
 intro e s o H x y v u Q I k l h;obtain⟨i,j,rfl,rfl,hc,q⟩:=h;obtain⟨t,rfl⟩:=k;obtain⟨n,rfl⟩:=l;show d i j t n s _ _ hc ⟨.int<|g i j,H,I.tok _,⟨_,rfl⟩,q⟩
def Co{g:Int->Int->Int}(d:∀i j t u s Q E,Q (.int (g i j) s.toks) {s with toks:=s.toks+1}->Y6 (Y5 X.prog X.w) X.A (f (.int i t)<|.int j u) Q E s):
  OpR X f (iB λi j=>.int<|g i j):=by
 intro e s o H x y v u Q I k l h;obtain⟨i,j,rfl,rfl,q⟩:=h;obtain⟨t,rfl⟩:=k;obtain⟨n,rfl⟩:=l;show d i j t n s _ _ ⟨.int<|g i j,H,I.tok _,⟨_,rfl⟩,q⟩
def tZ{g:Int->Int->Bool}(d:∀i j t u s Q E,Q (.bool<|g i j) s->Y6 (Y5 X.prog X.w) X.A (f (.int i t)<|.int j u) Q E s):
  OpR X f (iB λi j=>.bl<|g i j):=by
 intro e s o H x y v u Q I k l h;obtain⟨i,j,rfl,rfl,q⟩:=h;obtain⟨t,rfl⟩:=k;obtain⟨n,rfl⟩:=l;show d i j t n s _ _ ⟨.bl<|g i j,H,I,rfl,q⟩
abbrev CMul(i j:Int):Prop:=(-(2^64)<i/\i<2^64)\/(-(2^64)<j/\j<2^64)
def CMul.ok(h:CMul i j):a9f i j:=by
 rcases h with⟨d,e⟩|⟨d,e⟩
 .show .of_left<|intBits_le_64 d e
 .show .of_right<|intBits_le_64 d e
def op_add:OpR X (a2I .Add) (iB λi j=>.int<|i+j):=Co λ_ _ _ _ _ _ _ q=>add_int q
def Kr:OpR X (a2I .Sub) (iB λi j=>.int<|i-j):=Co λ_ _ _ _ _ _ _ q=>sub_int q
def Ks:OpR X (a2I .Mod) (rI (λ_ j=>0<j) λi j=>.int<|i%j):=xT λi j _ _ _ _ _ hc q=>by have d:(0:Int)<j:=hc;show mod_int' ⋯<|by rw[Int.fmod_eq_emod_of_nonneg i<|by lia];show q
def pE{g:Int->Int}(d:∀i t s Q E,Q (.int (g i) s.toks) {s with toks:=s.toks+1}->Y6 (Y5 X.prog X.w) X.A (f<|.int i t) Q E s):
  xR X f (rU λi=>.int<|g i):=by
 intro e s k H x v Q I j h;obtain⟨i,rfl,q⟩:=h;obtain⟨t,rfl⟩:=j;show d i t s _ _ ⟨.int<|g i,H,I.tok _,⟨_,rfl⟩,q⟩
def Kt:xR X (unaryOp .USub) (rU λi=>.int<|-i):=pE λ_ _ _ _ _ q=>neg_int q
def nQ{σ:St}(I:Inv X b0Z σ H s)(q:Q (.bl k) H)(e:k=k'):EP X b0Z σ Q (.bool k') s:=by subst e;show⟨.bl k,H,I,rfl,q⟩
def xU:OpR X (Z0 .Lt) (iB λi j=>.bl<|decide<|i<j):=tZ λ_ _ _ _ _ _ _ q=>lt_int q
def xV:OpR X (Z0 .LtE) (iB λi j=>.bl<|decide<|i<=j):=tZ λ_ _ _ _ _ _ _ q=>le_int q
def xW:OpR X (Z0 .Gt) (iB λi j=>.bl<|decide<|j<i):=tZ λ_ _ _ _ _ _ _ q=>gt_int q
def xX:OpR X (Z0 .GtE) (iB λi j=>.bl<|decide<|j<=i):=tZ λ_ _ _ _ _ _ _ q=>ge_int q
def Cp:OpR X (Z0 .In) (λx y H Q=>∃i j,x=.str i/\y=.str j/\Q (.bl<|!(a0l j i 0 j.length 1).isEmpty) H):=by intro d s l H x y v u Q I e g h;obtain⟨i,j,rfl,rfl,q⟩:=h;obtain⟨t,rfl⟩:=e;obtain⟨k,rfl⟩:=g;show in_str<|nQ I q rfl
def Cq:OpR X (Z0 .Is) (λx y H Q=>y=.non/\Q (.bl<|decide<|x=.non) H):=by
 intro e s i H x y v u Q I d g h;obtain⟨rfl,q⟩:=h;cases g;show is_none_gen<|nQ I q ?_;cases x<;>first
  |(cases d;rfl)|(obtain⟨t,rfl⟩:=d;rfl)
def Cr:OpR X (Z0 .IsNot) (λx y H Q=>y=.non/\Q (.bl<|!decide (x=.non)) H):=by
 intro e s i H x y v u Q I d g h;obtain⟨rfl,q⟩:=h;cases g;show isnot_none_gen<|nQ I q ?_;cases x<;>first
  |(cases d;rfl)|(obtain⟨t,rfl⟩:=d;rfl)
def OpR.or(h:OpR X f r)(h':OpR X f e):OpR X f (λx y H Q=>r x y H Q\/e x y H Q):=by
 intro d s j H x y v u Q I g i q;rcases q with q|q
 .show h d s j H x y v u Q I g i q
 .show h' d s j H x y v u Q I g i q
def eC b(h:op≠.In:=by decide)(g:op≠.NotIn:=by decide):a2j op b=false:=by
 have d:(op==CmpOp.In)=false:=by cases op<;>first|rfl|show absurd rfl h
 have e:(op==CmpOp.NotIn)=false:=by cases op<;>first|rfl|show absurd rfl g
 cases b<;>simp[a2j,d,e]
def Ku(l:OpR X (Z0 op) r)(i:PE X a ta)(j:PE X b tb)(k:a2j op b=dI):PE X (.Compare a [op] [b] pos) (rG r ta tb):=by intro d s w H Q I h;show b0P (xS i j I h λv u p x y e g n o q=>l d p w e x y v u Q g n o q) k
abbrev Ct(t:TE):TT:=λσ H Q=>t σ H λx d=>∃k,x=.bl k/\Q k d
def Kv(E:OpR X (Z0 op) r)(w:PE X a ta)(A:PE X b tb)(B:a2j op b=dI):PT X (.Compare a [op] [b] pos) (Ct<|rG r ta tb):=by
 intro d s g H Q I h;show wpAny_isTrue_Compare1 (aV (w d s g H _ I h) λv R ⟨x,i,n,M,G⟩=>aV (A d R g i _ n G) λu T ⟨y,j,o,N,K⟩=>
  aV (E d T g j x y v u _ o M N K) λc U ⟨z,l,p,O,k,e,L⟩=>?_) B
 subst e;cases O;show a0i ⟨l,p,L⟩
abbrev xY(r i:R2)(ta tb tc:TE):TE:=λσ H Q=>ta σ H λx e=>tb σ e λy g=>r x y g λz d=>∃k,z=.bl k /\
 (if k=d7 then tc σ d λj h=>i y j h Q else Q (.bl dI) d)
def Kw(T:OpR X (Z0 op) r)(l:OpR X (Z0 i) w)(N:PE X a ta)(O:PE X b tb)(hc:PE X c tc)(R:b0a [op,i] [b,c]=false:=by with_unfolding_all rfl):PE X (.Compare a [op,i] [b,c] pos) (xY r w ta tb tc):=by
 intro g s j H Q I h;show Compare_chain (aV (N g s j H _ I h) λv s1 ⟨x,B,K,r1,U⟩=>chain_link<|aV (O g s1 j B _ K U) λu s2 ⟨y,E,L,A,Y⟩=>
  aV (T g s2 j E x y v u _ L r1 A Y) λd s3 ⟨z,n,o,r3,k,e,p⟩=>?_) R
 subst e;cases r3;show a0i ?_;cases k with
 |false=>show ite_ff ⟨.bl dI,n,o,rfl,p⟩|true=>show ite_tt<|chain_last<|aV (hc g s3 j n _ o p) λw' s4 ⟨z',G,M,r4,Z⟩=>l g s4 j G y z' u w' Q M A r4 Z
def Ky(ho:OpR X (Z0 op) r)(l:OpR X (Z0 i) w)(U:PE X a ta)(Y:PE X b tb)(hc:PE X c tc)(Z:b0a [op,i] [b,c]=false:=by with_unfolding_all rfl):PT X (.Compare a [op,i] [b,c] pos) (Ct<|xY r w ta tb tc):=by
 intro g s j H Q I h;show isTrue_chain (aV (U g s j H _ I h) λv s1 ⟨x,B,L,r1,q1⟩=>test_link<|aV (Y g s1 j B _ L q1) λu s2 ⟨y,E,M,A,q2⟩=>
  aV (ho g s2 j E x y v u _ M r1 A q2) λd s3 ⟨z,n,o,r3,k,e,p⟩=>?_) Z
 subst e;cases r3;show a0i ?_;cases k with
 |false=>obtain⟨k',R,q'⟩:=p;cases R;show ite_ff ⟨n,o,q'⟩|true=>show ite_tt<|test_last<|aV (hc g s3 j n _ o p) λw' s4 ⟨z',G,N,r4,q4⟩=>aV (l g s4 j G y z' u w' _ N A r4 q4) λd' s5 ⟨z2,K,O,r5,k2,T,q5⟩=>?_;subst T;cases r5;show a0i ⟨K,O,q5⟩
abbrev xZ(K:Yx)(x:V)(H:Hp)(k:Bool):Prop:=
 match x with
 |.non=>k=dI|.bl b=>k=b|.int i=>k=(i != 0)|.str y=>y.length<=YM/\k=((y.length:Int) != 0)|.byt y=>y.size<=YM/\k=((y.size:Int) != 0)|.ref p=>(∃e,SqL K H p e/\k=!e.isEmpty)\/(∃e,SqT K H p e/\k=!e.isEmpty)\/∃d,H p=b0 (.dK d)/\k=!d.isEmpty|_=>False
def Kz{kvs:List (κ×V)}{vs:List (κ×Value)}(r:KV kvs vs):(!vs.isEmpty)=!kvs.isEmpty:=by cases r<;>rfl
def Cu(r:Vals xs its):(!its.toArray.isEmpty)=!xs.isEmpty:=by cases r<;>simp
def nR:(YM:Nat)<2^63:=by rw[Y2];decide
def KA:Km X (λx H Q=>∃k,xZ X.K x H k/\Q k H):=by
 intro B s M H x v Q I n h;obtain⟨k,e,q⟩:=h;have K:=nR;have L:YM=16777216:=Y2;cases x with
 |non=>cases n;have d:k=false:=e;subst d;show truthy_none ⟨H,I,q⟩|bl b=>cases n;have d:k=b:=e;subst d;show a0i ⟨H,I,q⟩|int i=>obtain⟨t,rfl⟩:=n;have d:k=(i != 0):=e;subst d;show PySem.P.truthy_int ⟨H,I,q⟩|str y=>obtain⟨t,rfl⟩:=n;obtain⟨G,d⟩:y.length<=YM/\k=((y.length:Int) != 0):=e;subst d;show PySem.P.truthy_str ⋯ ⟨H,I.tok _,q⟩|byt y=>obtain⟨t,rfl⟩:=n;obtain⟨G,d⟩:y.size<=YM/\k=((y.size:Int) != 0):=e;subst d;show PySem.W.truthy_bytes ⋯ ⟨H,I.tok _,q⟩|ref p=>
  cases n;have d:(∃l,SqL X.K H p l/\k=!l.isEmpty)\/(∃l,SqT X.K H p l/\k=!l.isEmpty)\/∃g,H p=b0 (.dK g)/\k=!g.isEmpty:=e;rcases d with⟨l,o,d⟩|⟨l,o,d⟩|⟨g,o,d⟩
  .subst d;obtain⟨w,r,z,A⟩:=I.list o;have j:=r.length;show wpAny_truthy_list z.isList (by simp only[YI];lia) ⟨H,I.tok _,by rw[Cu r];show q⟩
  .subst d;obtain⟨w,r,z,A⟩:=I.tuple o;have j:=r.length;show truthy_tuple z (by simp only[YI];lia) ⟨H,I.tok _,by rw[Cu r];show q⟩
  .subst d;obtain⟨A,E,u,r,m⟩:g.length<=YM/\(p==Z3)=dI/\∃u,KV g u/\s.heap.DictOf (gQ X.prog X.w) p u:=I.hok p _ o;have j:g.length=u.length:=a6j r;show wpAny_truthy_dict E m ⋯ ⟨H,I.tok _,by rw[Kz r];show q⟩
 |_=>show(show False from e).elim
def KG(n:PE X a ta)(o:∀d,a8k a X.env d=(do let v <- d;standAt a.pos;holding [v] (truthy v))):
  PT X a (λg H Q=>ta g H λx i=>∃k,xZ X.K x i k/\Q k i):=by
 intro e s g H Q I h;show isTrue_plain (aV (n e s g H _ I h) λv u ⟨x,j,l,r,p⟩=>KA e u g j x v Q l r p)<|o _
def op_add_str:OpR X (a2I .Add) (λx y H Q=>∃i j,x=.str i/\y=.str j/\i.length+j.length<=YM/\Q (.str<|i++j) H):=by intro d s o H x y v u Q I g k h;obtain⟨i,j,rfl,rfl,e,q⟩:=h;obtain⟨t,rfl⟩:=g;obtain⟨l,rfl⟩:=k;show add_str (λl n=>⟨.str<|i++j,H,I.tok _,⟨_,rfl⟩,q⟩) e
def fH(r:Vals [x] us):∃u,us=[u]/\RelV x u:=by
 cases r with
 |cons d e=>cases e;show⟨_,rfl,d⟩
def rH(r:Vals [x,y] us):∃u d,us=[u,d]/\RelV x u/\RelV y d:=by
 cases r with
 |cons e g=>
  cases g with
  |cons h r4=>cases r4;show⟨_,_,rfl,e,h⟩
def KH(hc:X.calm=d7):CallR X (.builtin "max") (λxs H Q=>∃i j,xs=[.int i,.int j]/\Q (.int<|if j>i then j else i) H):=by
 intro e s v H xs o Q I r h;obtain⟨i,j,rfl,q⟩:=h;obtain⟨u,p,rfl,⟨t,rfl⟩,⟨l,rfl⟩⟩:=rH r;show max_two_ints (I.ok.hd hc) λg n k=>⟨_,H,I.kept k,?_,q⟩;by_cases d:j>i
 .rw[if_pos d,if_pos d];show⟨_,rfl⟩
 .rw[if_neg d,if_neg d];show⟨_,rfl⟩
def KI(hc:X.calm=d7):CallR X (.builtin "min") (λxs H Q=>∃i j,xs=[.int i,.int j]/\Q (.int<|if j<i then j else i) H):=by
 intro e s v H xs o Q I r h;obtain⟨i,j,rfl,q⟩:=h;obtain⟨u,p,rfl,⟨t,rfl⟩,⟨l,rfl⟩⟩:=rH r;show min_two_ints (I.ok.hd hc) λg n k=>⟨_,H,I.kept k,?_,q⟩;by_cases d:j<i
 .rw[if_pos d,if_pos d];show⟨_,rfl⟩
 .rw[if_neg d,if_neg d];show⟨_,rfl⟩
def KJ:CallR X (.type "int") (λxs H Q=>(∃i,xs=[.int i]/\Q (.int i) H)\/∃k,xs=[.bl k]/\Q (.int<|if k then 1 else 0) H):=by
 intro d s j H xs g Q I r h;rcases h with⟨i,rfl,q⟩|⟨k,rfl,q⟩
 .obtain⟨u,rfl,t,rfl⟩:=fH r;show call_int_int ⟨.int i,H,I,⟨_,rfl⟩,q⟩
 .obtain⟨u,rfl,e⟩:=fH r;cases e;show call_int_bool ⟨.int<|if k then 1 else 0,H,I.tok _,⟨_,rfl⟩,q⟩
structure ObjM(h:ZX)(x dx C:Addr)(mA:Str->Option Value):Prop where
 obj:h.get? x=b0 (a7V C dx)
 ns:h.Ns1 dx mA
 ne:dx≠x
def RelO.some_of(r:RelO (b0 v) o):∃u,o=b0 u/\RelV v u:=by
 cases o with
 |none=>show(show False from r).elim|some u=>show⟨u,rfl,r⟩
structure Cls(K:Yx)(C:Addr):Prop where
 pg:PySem.W.plainGet K C Str.empty=d7
 hd:PySem.W.hasDictIn K C=d7
 po:PySem.W.plainOver K C=d7
 sa:a3v K (.ref C) "__setattr__"=b0 (b0<|.builtin "object.__setattr__")
structure Con(K:Yx)(C:Addr)(f:Str)(v:V)(u:Value):Prop where
 at_:a3v K (.ref C) f=b0 (b0 u)
 rel:RelV v u
 get:a7r K u "__get__"=b0 b5
 cp:PySem.W.copiedNames.contains f=dI
structure Meth(K:Yx)(C:Addr)(m:Str)(f:Addr):Prop where
 at_:a3v K (.ref C) m=b0 (b0<|.ref f)
 fn:a8Z K (.ref f)=d7
 kp:a0L K (.ref f)=d7
section
variable{X:Cx}{b0Z:jw}{σ:St}{H:Hp}{s:YA}{A:Zi}{E:Value->YA->Prop}{Q:Value->YA->Prop}{c:Value}{b:Bool}
inductive TyOf (K:Yx)(H:Hp):V->Value->Prop where
 |non:TyOf K H .non<|.type "NoneType"
 |bl (x:Bool):TyOf K H (.bl x)<|.type "bool"
 |int (i:Int):TyOf K H (.int i)<|.type "int"
 |str (x:Str):TyOf K H (.str x)<|.type "str"
 |flt (x:UInt64):TyOf K H (.flt x)<|.type "float"
 |lst {a:Addr}{xs:gz}(e:H a=b0 (.lst xs)):TyOf K H (.ref a)<|.type "list"
 |frz {a:Addr}{o:Obj}{xs:gz}(e:H a=b0 (.frz o<|.lst xs)):TyOf K H (.ref a)<|.type "list"
 |tup {a:Addr}{xs:gz}(e:H a=b0 (.tup xs)):TyOf K H (.ref a)<|.type "tuple"
 |dK {a:Addr}{kvs:List (bG×V)}(e:H a=b0 (.dK kvs)):TyOf K H (.ref a)<|.type "dict"
 |dT {a:Addr}{kvs:List (List bG×V)}(e:H a=b0 (.dT kvs)):TyOf K H (.ref a)<|.type "dict"
 |ins {a C dx:Addr}{fs:List (Str×V)}(e:H a=b0 (.ins C dx fs))(cl:Cls K C)(ha:a3v K (.ref C) "__class__"=b0 (b0<|.builtin "object.__class__"))
   (hn:a7r K (.builtin "object.__class__") "__get__"=b0 (b0<|.builtin "getset_descriptor.__get__")) (htk:PySem.W.takesIn K (.builtin "object.__class__")=b0 d7)
   (hm:PySem.W.mroIn K C (.type "object")=b0 d7):TyOf K H (.ref a)<|.ref C
end
structure Room(k:Nat)(A:Zi):Prop where
 hd:A.handled=b5
 dp:A.depth+3*k+5<b0S
 un:A.units+16*k+200<a0k
def Room.deeper(r:Room (k+1) A)env:Room k (A.deeper env):=
 ⟨r.hd,by have:=r.dp;change A.depth+1+3*k+5<_;lia,by have:=r.un;change A.units+3+16*k+200<_;lia⟩
def Room.depth(r:Room k A):A.depth<b0S:=by have:=r.dp;lia
def Room.units(r:Room k A):A.units+64<a0k:=by have:=r.un;lia
abbrev Cv:TA:=λ_ H Q=>Q [] H
abbrev KL(c:TE)(tr:TA):TA:=λσ H Q=>c σ H λx a=>tr σ a λxs b=>Q (x::xs) b
def KN:PA X [] Cv:=λ_ _ _ _ H Q I h=>a3M ⟨[],H,I,.nil,h⟩
def KO(j:PE X e te)(k:PA X es t)(l:Zo (e::es) X.env=(dI,eval e X.env)::Zo es X.env:=by rfl):PA X (e::es) (KL te t):=by intro pos a s b H Q I h;rw[l];change Y6 _ _ (spliced<|(dI,eval e X.env)::a1C pos (Zo es X.env)) _ _ s;show a3F<|aV (j a s b H _ I h) λu v ⟨x,c,g,p,n⟩=>?_;show aV (k pos a v b c _ g n) λz y ⟨w,d,i,r,o⟩=>⟨x::w,d,i,.cons p r,o⟩
abbrev KP(t:TA):TE:=λσ H Q=>t σ H λxs a=>xs.length<=YM/\∀p,a p=b5->Q (.ref p) (upd a p<|.tup xs)
abbrev KQ(t:TA):TE:=λσ H Q=>t σ H λxs a=>xs.length<=YM/\∀p,a p=b5->Q (.ref p) (upd a p<|.lst xs)
def KR{x1}(h:PA X es t):PE X (.Tuple es x1 pos) (KP t):=by intro c s n H Q I j;show wpAny_Tuple_spliced (aV (h pos c s n H _ I j) λk a ⟨l,d,g,r,z,q⟩=>⟨by rw[<- r.length];show z,?_⟩);have i:d a.heap.objs.size=none:=g.hok.fresh<|YG _;show⟨.ref a.heap.objs.size,upd d a.heap.objs.size<|.tup l,g.laid (t':=a.toks) (λb u e=>YC _ e) (YG _) ?_,rfl,q _ i⟩;show⟨z,k,r,⟨_,YR _ rfl,rfl,_,rfl,rfl⟩⟩
def KS(h:PA X es t):PE X (.List es pos) (KQ t):=by intro c s n H Q I j;show wpAny_List_spliced (aV (h pos c s n H _ I j) λk a ⟨l,d,g,r,z,q⟩=>⟨by rw[<- r.length];show z,?_⟩);have i:d a.heap.objs.size=none:=g.hok.fresh<|YG _;show⟨.ref a.heap.objs.size,upd d a.heap.objs.size<|.lst l,g.laid (t':=a.toks) (λb u e=>YC _ e) (YG _) ?_,rfl,q _ i⟩;show⟨z,k,0,r,YR _ rfl⟩
noncomputable abbrev Sp:=List V->Hp->VK->XK->Prop
noncomputable abbrev kE:=List a4U->Hp->YA->XK->Value->YA->Prop
structure Env0(P:Y4)(w:Zk)(K:Yx)(mg:Str->Option Value)(base:ZX)(A:Zi)(outer:List a4U)(s:YA)(H:Hp):Prop where
 frames:A.frames=b0 outer
 mod:Mod K mg base
 bs:∀b o,base.get? b=b0 o->s.heap.get? b=b0 o/\H b=b5
 bsz:base.objs.size<=s.heap.objs.size
 funs:s.heap.FunFrames base outer
 frf:∀b∈iT outer,H b=b5
 hok:HOk P w H s.heap
 bare:a5l s.gens
inductive CE (outer:List a4U)(P:Y4)(w:Zk)(H:Hp)(s:YA)(Q:VK)(u:Value)(s':YA):Prop
 |mk (v:V)(H':Hp)(o:s'.os=s.os)(b:a5l s'.gens)(n:Un (iT outer) [] H H' s.heap s'.heap)(k:HOk P w H' s'.heap)(r:RelV v u)(q:Q v H'):CE outer P w H s Q u s'
abbrev CR(CX:kE)(outer:List a4U)(P:Y4)(w:Zk)(H:Hp)(s:YA)(Q:VK)(E:XK)(r:a5b)(a:YA):Prop:=
 match r with
 |.ok (.ret u)=>CE outer P w H s Q u a|.ok _=>False|.error e=>CX outer H s E e a
structure FnOk(P:Y4)(w:Zk)(K:Yx)(mg:Str->Option Value)(base:ZX)(CX:kE)(k:Nat)(f:Addr)(fd:a1E)(ps:List Str)(sp:Sp):Prop where
 len:∀vs H Q E,sp vs H Q E->vs.length=ps.length
 run:∀(A:Zi)(outer:List a4U)(s:YA)(H:Hp)(args:Args)(us:gw)(vs:gz)(Q:VK)(E:XK),Room k A->Env0 P w K mg base A outer s H->a6f s fd args (ps.zip us)->Vals vs us->sp vs H Q E->
  a2y (Y5 P w) A (.call (.ref f) args) (CR CX outer P w H s Q E) s
def Inv.env0{σ:St}(I:Inv X b0Z σ H s):Env0 X.prog X.w X.K X.mg X.base X.A X.stack s H:=
 ⟨I.ok.frames,I.ok.mod,I.bs,Zr I.ok.bsz I.sz,I.stack,I.stkFree,I.hok,I.bare⟩
def Inv.after{σ:St}(I:Inv X b0Z σ H s)(h:CE X.stack X.prog X.w H s Q u s'):EP X b0Z σ Q u s':=by obtain⟨v,i,k,a,un,c,r,q⟩:=h;obtain⟨j,g,d,t,e⟩:=s';obtain rfl:e=s.os:=k;show⟨v,i,I.call (h':=j) (g':=g) (d':=d) (t':=t) (ch:=[]) un c a λb z=>absurd z<|by simp,r,q⟩
abbrev yA(sp:Sp)(a:gz)(E:XK)(t:TA):TE:=λσ H Q=>t σ H λvs b=>sp (vs++a) b Q E
abbrev Binds(K:Yx)(a:a1E)(ps:List Str)(ds:gw):Prop:=
 ∀(s:YA)(us:gw),K.In s.heap->(us++ds).length=ps.length->a6f s a ⟨us,[]⟩ (ps.zip<|us++ds)
def Binds.all{K:Yx}(h:∀us:gw,us.length=ps.length->a8W a ⟨us,[]⟩=pure (ps.zip us)):Binds K a ps []:=λs us _ b=>by rw[Zt]at b ⊢;show .of_eq<|h us b
abbrev t6(CX:kE)(X:Cx)(E:XK):Prop:=∀(b0Z:jw)(σ:St)(H:Hp)(s:YA)(e:Value)(a:YA),Inv X b0Z σ H s->CX X.stack H s E e a->X.xe e a
section
variable{X:Cx}{CX:kE}{k:Nat}{f C:Addr}{fd:a1E}{ps:List Str}{sp:Sp}{dvs:gz}{ds:gw}{E:XK}{x m:Str}{p pos apos:a0u}{e o:Expr}{es:List Expr}{ta:TE}{t:TA}
def Cw{σ:St}(F:FnOk X.prog X.w X.K X.mg X.base CX k f fd ps sp)(i:Room k X.A)(d:Binds X.K fd ps ds)(hd:Vals dvs ds)(j:t6 CX X E)(I:Inv X b0Z σ H s)(r:Vals vs us)(h:sp (vs++dvs) H Q E):Y6 (Y5 X.prog X.w) X.A (call (.ref f) us) (EP X b0Z σ Q) X.xe s:=by
 have b:Vals (vs++dvs) (us++ds):=r.append hd;have g:(us++ds).length=ps.length:=by rw[<- b.length];show F.len _ _ _ _ h
 show wpAny_call<|a5U (F.run X.A X.stack s H ⟨us,[]⟩ (us++ds) (vs++dvs) Q E i I.env0 (d s us I.kIn g) b h) λr l a=>?_;cases r with
 |error e=>show j b0Z σ H s e l I a|ok c=>
  cases c with
  |ret u=>show I.after a|next=>show a1h a|brk=>show a1h a|cont=>show a1h a
def KU(F:FnOk X.prog X.w X.K X.mg X.base CX k f fd ps sp)(v:Room k X.A)(l:Gl X x)(u:X.mg x=b0 (.ref f))(n:a0L X.K (.ref f)=d7)(i:Binds X.K fd ps ds)(hd:Vals dvs ds)(w:t6 CX X E)
  (g:PA X (e::es) t)(b:(x==("__debug__":Str))=false:=by decide) (j:Zo (e::es) X.env=(dI,eval e X.env)::Zo es X.env:=by rfl)(c:(a1C pos<|Zo es X.env).any (·.1)=false:=by rfl) :
  PE X (.Call (.Name x p) (e::es) [] pos) (yA sp dvs E t):=by
 intro a s y H Q I h;show a1d<|q8 I l u ?_ b;show PySem.W.callWith_K (h₀:=X.base) I.ok.mod.kin n (aV (g pos a s y H _ I h) λB A ⟨G,z,d,r,q⟩=>⟨d.kIn,?_⟩) j c;show Cw F v i hd w d r q
def KW(F:FnOk X.prog X.w X.K X.mg X.base CX k f fd ps sp)(j:Room k X.A)(d:Gl X x)(i:X.mg x=b0 (.ref f))(g:a0L X.K (.ref f)=d7)(c:Binds X.K fd ps ds)(hd:Vals dvs ds)(l:t6 CX X E)
  (a:(x==("__debug__":Str))=false:=by decide):PE X (.Call (.Name x p) [] [] pos) (yA sp dvs E Cv):=by
 intro b s n H Q I h;show a1d<|q8 I d i ?_ a;show PySem.W.callWith_K0 I.kIn g<|Cw (us:=[]) F j c hd l I .nil h
structure Mk(K:Yx)(C f:Addr):Prop where
 makes:PySem.W.makesIn K C=d7
 init:a3v K (.ref C) "__init__"=b0 (b0<|.ref f)
 fn:a8Z K (.ref f)=d7
 kp:a0L K (.ref C)=d7
end
section
variable{X:Cx}{CX:kE}{k:Nat}{f C:Addr}{fd:a1E}{ps ks:List Str}{sp:Sp}{E:XK}{x m:Str}{p pos apos kpos:a0u}{e o:Expr}{es:List Expr}{kws:List a2A}{te ta:TE}{t tk:TA}{nm:Option Str}
structure KBinds(K:Yx)(fd:a1E)(ps ks:List Str)(g:gw->gw->gw)(gV:gz->gz->gz):Prop where
 to:∀(s:YA)(us ws:gw),K.In s.heap->(g us ws).length=ps.length->a6f s fd ⟨us,ks.zip ws⟩ (ps.zip<|g us ws)
 rel:∀{vs:gz}{us:gw}{zs:gz}{ws:gw},Vals vs us->Vals zs ws->Vals (gV vs zs) (g us ws)
variable{g:gw->gw->gw}{gV:gz->gz->gz}
end
structure FnScope(N P:List Str)(sc:a1D):Prop where
 kind:sc.kind=.function
 co:sc.isCoroutine=dI
 gen:sc.isGenerator=dI
 nd:N.Nodup
 pre:N.take P.length=P
 par:∀x∈P,sc.names.lookup x=b0 .local\/sc.names.lookup x=b0 .cell
 nofree:∀y∈sc.names,y.2≠.free
def Cy{kindOf:Str->Option a1K}:∀{a}{m},(∀v,(x,v)∉a)->a7T kindOf a m x=m x
 |[],_,_=>rfl|(n,v)::r,m,h=>by
  unfold a7T;rw[Cy λw hw=>h w<|Zl _ hw];split
  .have:x≠n:=by rintro rfl;show h v Zs
   simp[this]
  .rfl
def Cz{kindOf:Str->Option a1K}:∀{a}{m},(∀v,(x,v)∉a)->a7U kindOf a m x=m x
 |[],_,_=>rfl|(n,v)::r,m,h=>by
  unfold a7U;rw[Cz λw hw=>h w<|Zl _ hw];split
  .rfl
  .have:x≠n:=by rintro rfl;show h v Zs
   simp[this]
def CA{kindOf:Str->Option a1K}:∀{P:List Str}{vs:gw}{i:Nat}{m},P.Nodup->P[i]?=b0 x->vs[i]?=b0 v->kindOf x=b0 .local->
  a7T kindOf (P.zip vs) m x=b0 v
 |[],_,_,_,_,h,_,_=>by simp at h
 |_::_,[],_,_,_,_,h,_=>by simp at h
 |p::P,w::vs,0,m,nd,h1,h2,hk=>by simp at h1 h2;subst h1;subst h2;change a7T kindOf ((p,w)::P.zip vs) m p=_;unfold a7T;rw[Cy λv a=>(ZO.mp nd).1 (a5N a).1,if_pos hk];simp
 |p::P,w::vs,i+1,m,nd,h1,h2,hk=>by change a7T kindOf ((p,w)::P.zip vs) m x=_;unfold a7T;show CA (i:=i) (ZO.mp nd).2 (by simpa using h1) (by simpa using h2) hk
def CB{kindOf:Str->Option a1K}:∀{P:List Str}{vs:gw}{i:Nat}{m},P.Nodup->P[i]?=b0 x->vs[i]?=b0 v->kindOf x≠b0 .local->
  a7U kindOf (P.zip vs) m x=b0 v
 |[],_,_,_,_,h,_,_=>by simp at h
 |_::_,[],_,_,_,_,h,_=>by simp at h
 |p::P,w::vs,0,m,nd,h1,h2,hk=>by simp at h1 h2;subst h1;subst h2;change a7U kindOf ((p,w)::P.zip vs) m p=_;unfold a7U;rw[Cz λv a=>(ZO.mp nd).1 (a5N a).1,if_neg hk];simp
 |p::P,w::vs,i+1,m,nd,h1,h2,hk=>by change a7U kindOf ((p,w)::P.zip vs) m x=_;unfold a7U;show CB (i:=i) (ZO.mp nd).2 (by simpa using h1) (by simpa using h2) hk
abbrev start(N:List Str)(vs:gz):St:=vs.map b0++a1t (N.length-vs.length) b5
abbrev lE(CX:kE)(P:Y4)(w:Zk)(K:Yx)(mg:Str->Option Value)(base:ZX)(N:List Str)(a:Str)(scope:a1D)(f:Addr)(c:Value)(A:Zi)(outer:List a4U)(s:YA)(H:Hp)(E:XK):Cx where
 prog:=P
 w:=w
 K:=K
 mg:=mg
 base:=base
 A:=A.deeper<|envOfC a scope s.heap.objs.size f c
 N:=N
 s₀:=s
 H₀:=H
 env:=envOfC a scope s.heap.objs.size f c
 outer:=outer
 stack:=envOfC a scope s.heap.objs.size f c::outer
 ex:=[]
 calm:=d7
 fn:=λ_=>d7
 pn:=[]
 xe:=λe g=>Y6 (Y5 P w) (A.deeper<|envOfC a scope s.heap.objs.size f c) (leaving (envOfC a scope s.heap.objs.size f c) e) (λ_ b=>CX outer H s E e b) (λd b=>CX outer H s E d b) g
def CC{sc:a1D}(h:sc.names.lookup x=b0 .cell):∃c,(b0b n sc.names []).lookup x=b0 c:=by have q:=a6v sc.names n []<|.inl h;show a6k.mp q
def KY{K:Yx}(S:FnScope N ps scope)(hd:A.handled=b5)(j:Env0 P w K mg base A outer s H)(Y:vs.length=ps.length)(r:Vals vs us)(x:InCallC s s.heap.objs.size (a7T (envOfC d scope s.heap.objs.size f G).kindOf (ps.zip us) λ_=>b5) (b0b (s.heap.objs.size+1) scope.names []) (a7U (envOfC d scope s.heap.objs.size f G).kindOf (ps.zip us) λ_=>b5) Q):
  Inv (lE CX P w K mg base N d scope f G A outer s H E) [] (start N vs) H Q:=by
 have T:ps.length<=N.length:=by have:=congrArg ZE S.pre;rw[Zb]at this;lia
 obtain⟨I,Z,rfl,M⟩:=x.done;have n:∀b:Addr,b∉(lE CX P w K mg base N d scope f G A outer s H E).ex:=λb z=>absurd (show b∈([]:List Addr)from z) (by simp);show⟨⟨j.mod,S.kind,rfl,rfl,YG _,λy z c I g=>?_,λy l=>?_,λy c _ h=>?_,λ_=>hd,Around.frames_deeper j.frames,.inr ⟨rfl,rfl⟩,λb z=>absurd z<|n b,j.bs,j.bsz,λb _ _=>n b,λb z=>absurd z<|n b,j.funs,j.frf⟩,
  rfl,j.bare,Un.kept M,⟨_,x.toInCall.ns,λi y v I g X=>?_⟩,λy c h=>⟨_,x.cell y c h⟩,j.hok.fresh<|YG _,λy c h=>?_,λp o=>absurd (show p∈([]:jw)from o)<|by simp,j.hok.kept M,?_⟩
 .show name_of_addr x.apart (Z9 I)<|Z9 g
 .have l:scope.names.lookup y=b0 .cell\/scope.names.lookup y=b0 .free:=l;rcases l with l|l
  .show CC l
  .show absurd rfl<|S.nofree _<|Z9 l
 .show a0y<|x.above y c<|Z9 h
 .have L:i<vs.length:=by
   unfold start at g;by_cases L:i<vs.length
   .show L
   .rw[Zn<|by simpa using L]at g;rw[a1M]at g;split at g<;>cases g
  have R:vs[i]?=b0 v:=by
   unfold start at g;rw[Ze<|by simpa using L,YU]at g;cases e:vs[i]? with
   |none=>rw[e]at g;cases g|some a=>rw[e]at g;cases g;rfl
  obtain⟨u,O,U⟩:=r.get R;have o:ps[i]?=b0 y:=by rw[<- S.pre,a0X<|by lia];show I
  have B:ps.Nodup:=by rw[<- S.pre];show S.nd.sublist<|a2c _ _
  show⟨u,U,?_⟩;rcases S.par y (YZ o)with k|k
  .show .inl ⟨k,CA B o O k⟩
  .obtain⟨c,e⟩:=CC (n:=s.heap.objs.size+1) k;show .inr ⟨.inl k,c,e,?_⟩;have q:=x.cell y c e;rw[CB B o O<|by change scope.names.lookup y≠_;rw[k];decide]at q;show q
 .show j.hok.fresh<|a0y<|x.above y c<|Z9 h
 .unfold start;change _=N.length;rw[YF,Yu,a1x];lia
def KZ{K:Yx}{kV:Value}(lk:K.lookup f=b0 ⟨oc,od,.func<|a0M name a d body scope Y kV p Z an c ct,O⟩)(G:a4j K c a=d7)(S:FnScope N ps scope)(len:∀vs H Q E,sp vs H Q E->vs.length=ps.length)(i:∀A outer s H(vs:gz)Q E,Room k (A.deeper<|envOfC a scope s.heap.objs.size f c)->sp vs H Q E->
   ∃t,PSs (lE CX P w K mg base N a scope f c A outer s H E) body t/\t {nx:=λ_ h=>Q .non h,rt:=Q} (start N vs) H):
  FnOk P w K mg base CX (k+1) f (a0M name a d body scope Y kV p Z an c ct) ps sp:=by
 show⟨len,λA outer s H X us vs Q E L z hb r B=>?_⟩;have hl:=len _ _ _ _ B;have U:K.In s.heap:=z.mod.kin.keeps λb o e=>(z.bs b o e).1;have M:s.heap.NoLimit:=z.mod.nolimit.keeps λb o e=>(z.bs b o e).1;have j:∀y∈ps.zip us,scope.names.lookup y.1=b0 .local\/(scope.names.lookup y.1=b0 .cell/\((b0b (s.heap.objs.size+1) scope.names []).lookup y.1).isSome=d7):=λ⟨n,v⟩ hy=>by
  rcases S.par n (a5N hy).1 with q|q
  .show .inl q
  .show .inr ⟨q,a6v _ _ _<|.inl q⟩
 show codeAny_call_function L.depth (U _ _ lk) rfl S.co S.gen rfl (PySem.W.codeRec_of U G)<|hb _ _ _ _ ?_;show wpAny_newFunctionEnv_cells S.kind j λenv he s1 x=>?_;subst he;show⟨M.keeps x.toInCall.keep,codeAny_func ?_⟩;obtain⟨t,ht,hq⟩:=i A outer s H vs Q E (L.deeper _) B;have I:Inv (lE CX P w K mg base N a scope f c A outer s H E) [] (start N vs) H s1:=KY S L.hd z hl r x;show ZT (ht [] s1 (start N vs) H _ I hq) (λfl T l=>?_) λe T l=>l;have fin:∀{g:St}{h:Hp}{v:V}{u:Value},Inv (lE CX P w K mg base N a scope f c A outer s H E) [] g h T->RelV v u->Q v h->CE outer P w H s Q u T:=
  λ{g h v u} J R q=>⟨v,h,J.os,J.bare,J.base,J.hok,R,q⟩
 cases fl with
 |ret u=>obtain⟨v,g,h,J,R,q⟩:=l;show fin J R q|next=>obtain⟨g,h,J,q⟩:=l;show fin (v:=V.non) (u:=a0z) J rfl q|brk=>obtain⟨_,_,_,q⟩:=l;show a1h q|cont=>obtain⟨_,_,_,q⟩:=l;show a1h q
abbrev t7(r:gz->Hp->VK->Prop)(t:TA):TE:=λσ H Q=>t σ H λvs a=>r vs a Q
def K0{id:String}(hc:CallR X (.builtin id) r)(l:Gl X x)(n:X.mg x=b5)(u:a0B x=b0 (.builtin id))(j:PA X (e::es) t)(o:x ≠ "__name__":=by decide)(b:(x==("__debug__":Str))=false:=by decide)(k:Zo (e::es) X.env=(dI,eval e X.env)::Zo es X.env:=by rfl)(c:(a1C pos<|Zo es X.env).any (·.1)=false:=by rfl):PE X (.Call (.Name x p) (e::es) [] pos) (t7 r t):=by
 intro a s d H Q I h;show a1d<|hZ I l n u ?_ o b;show a4z (aV (j pos a s d H _ I h) λz y ⟨A,g,i,w,v⟩=>hc a y d g A z Q i w v) k c
def K1(hc:CallR X (.type T) r)(l:Gl X x)(n:X.mg x=b5)(u:a0B x=b0 (.type T))(j:PA X (e::es) t)(o:x ≠ "__name__":=by decide)(b:(x==("__debug__":Str))=false:=by decide)(k:Zo (e::es) X.env=(dI,eval e X.env)::Zo es X.env:=by rfl)(c:(a1C pos<|Zo es X.env).any (·.1)=false:=by rfl):PE X (.Call (.Name x p) (e::es) [] pos) (t7 r t):=by
 intro a s d H Q I h;show a1d<|hZ I l n u ?_ o b;show Z4 (aV (j pos a s d H _ I h) λz y ⟨A,g,i,w,v⟩=>hc a y d g A z Q i w v) k c
section
variable{κ:Type} [DecidableEq κ]
abbrev iU(kvs:List (κ×V))(k:κ):Option V:=(kvs.find? λa=>decide<|a.1=k).map (·.2)
def K2{k:κ}(e:p.1=k):iU (p::r) k=b0 p.2:=by simp[iU,ZZ,e]
def K3{k:κ}(e:¬ p.1=k):iU (p::r) k=iU r k:=by simp[iU,ZZ,e]
def RelO.isSome_eq(r:RelO o u):o.isSome=u.isSome:=by
 cases o with
 |none=>cases u with
  |none=>rfl|some _=>show(show False from r).elim
 |some _=>cases u with
  |none=>show(show False from r).elim|some _=>rfl
def RelO.getD(r:RelO o u)(a:RelV d d'):RelV (o.getD d) (u.getD d'):=by
 cases o with
 |none=>cases u with
  |none=>show a|some _=>show(show False from r).elim
 |some _=>cases u with
  |none=>show(show False from r).elim|some _=>show r
def KV.val(r:KV kvs vs)(k:κ):RelO (iU kvs k) (a5e vs k):=by
 unfold KV at r;induction r with
 |nil=>show a1Q|@cons p q j c h t i=>
  obtain⟨d,g⟩:=h;by_cases e:p.1=k
  .have a:q.1=k:=d.symm.trans e;have b:a5e (q::c) k=b0 q.2:=by simp[a5e,ZZ,a]
   rw[K2 e,b];show g
  .have a:¬ q.1=k:=λz=>e<|d.trans z;have b:a5e (q::c) k=a5e c k:=by simp[a5e,ZZ,a]
   rw[K3 e,b];show i
def KV.length{kvs:List (κ×V)}(r:KV kvs vs):kvs.length=vs.length:=a6j r
end
def CD(r:RelV (kV k) u):(gQ P w).is k u=true:=by
 cases k with
 |inl i=>obtain⟨t,e⟩:=(show ∃t,u=ZA i t from r);subst e;show Jm P w i t|inr x=>obtain⟨t,e⟩:=(show ∃t,u=a4a x t from r);subst e;show Jn P w x t
def Inv.big{σ:St}(I:Inv X b0Z σ H s):Z3<s.heap.objs.size:=by have h:a0j<s.heap.objs.size:=(I.mod.glob.keeps I.bk).lt;show a5o (by decide) h
def t8{σ:St}(I:Inv X b0Z σ H s)(h:qZ (H a))(g:a0Q a s.heap h')(e:∃q,h'.get? a=b0 q)(new:ObjOk X.prog X.w (upd H a c) h' a c):
  Inv X b0Z σ (upd H a c) {s with heap:=h',toks:=t'}:=
 I.write (x:=a) (e:=a) h (.inl rfl) (λb q d z=>(g.2 b d).trans z) e new
abbrev CF(i:Expr):Prop:=∀b a,a6A i dI b a=operate [b,a] (a6P b a)
def CG{id:String}(n:a5E (.type T) "__getitem__"=pure (b0<|.builtin id))(p:CF a)(h:Y6 (Y5 prog w) A (eval b env) (λo e=>Y6 (Y5 prog w) A (eval a env) (λi c=>c.TypeIs o T/\Y6 (Y5 prog w) A (a6P o i) Q E c) E e) E s):
  Y6 (Y5 prog w) A (eval (.Subscript b a pos) env) Q E s:=by
 show a7d<|ZT h (λo e j=>ZT j (λi c d=>?_) λ_ _ x=>x) λ_ _ x=>x;obtain⟨l,d⟩:=d;unfold a5s;show Yw ?_;rw[getitemInPython_of_ne l.not_modules];show Yw<|a2M l n ?_;have fin:Y6 (Y5 prog w) A (a6A a dI o i) (λr g=>Y6 (Y5 prog w) A (letTemporaryGo b o r >>= λ_=>pure r) Q E g) E c:=by rw[p o i];show wpAny_operating<|ZT d (λr g k=>Yw<|wpAny_letTemporaryGo<|YH k) λ_ _ x=>x
 first
  |show YH (Yw fin)|show Yw (YH<|Yw fin)|show Yw fin
abbrev CH:List (TE×TE)->St->Hp->(List (V×V)->Hp->Prop)->Prop
 |[],_,H,Q=>Q [] H|(tk,tv)::r,σ,H,Q=>tk σ H λx a=>tv σ a λy b=>CH r σ b λd c=>Q ((x,y)::d) c
noncomputable abbrev VV:List (V×V)->List (Value×Value)->Prop:=a3x λp q=>RelV p.1 q.1/\RelV p.2 q.2
abbrev K4(X:Cx)(pos:a0u)(keys:List (Option Expr))(a:List Expr)(b:List (TE×TE)):Prop:=
 ∀(b0Z:jw)(s:YA)(σ:St)(H:Hp)(Q:List (V×V)->Hp->Prop),Inv X b0Z σ H s->CH b σ H Q->
  Y6 (Y5 X.prog X.w) X.A (evalPairs<|pairTrees keys a X.env pos) (λg e=>∃d c,Inv X b0Z σ c e/\VV d g/\Q d c) X.xe s
structure M1(X:Cx)(o:Expr)(m:Str)(apos:a0u)(e:Expr)(cpos:a0u):Prop where
 base:a2J o m X.env (eval o X.env)=eval o X.env
 few:((a1C cpos (Zo [e] X.env)).all (λx=>!x.1)&&(a7b cpos (a4Y [] X.env)).all (λx=>x.1.isSome)
  && decide (([e]:List Expr).length+([]:List a2A).length+(if([]:List a2A).isEmpty then 0 else 1)<30))=d7
 line:(apos.endLine==cpos.line)=d7
 trees:a1C cpos (Zo [e] X.env)=[(dI,eval e X.env)]
structure M2(X:Cx)(o:Expr)(m:Str)(apos:a0u)(e f:Expr)(cpos:a0u):Prop where
 base:a2J o m X.env (eval o X.env)=eval o X.env
 few:((a1C cpos (Zo [e,f] X.env)).all (λx=>!x.1)&&(a7b cpos (a4Y [] X.env)).all (λx=>x.1.isSome)
  && decide (([e,f]:List Expr).length+([]:List a2A).length+(if([]:List a2A).isEmpty then 0 else 1)<30))=d7
 line:(apos.endLine==cpos.line)=d7
 trees:a1C cpos (Zo [e,f] X.env)=[(dI,eval e X.env),(dI,eval f X.env)]
abbrev IsD(H:Hp)(a:Addr):Prop:=(∃kvs,Rd H a (.dK kvs))\/∃kvs,Rd H a (.dT kvs)
end L2
namespace HT
open PySem PyProof.Rows
abbrev lexLt:List Int->List Int->Bool
 |[],[]=>dI|[],_::_=>d7|_::_,[]=>dI|x::xs,y::ys=>if x=y then lexLt xs ys else decide (x<y)
def lexLt_cons x y xs a:lexLt (x::xs) (y::a)=if x=y then lexLt xs a else decide (x<y):=rfl
def K5:lexLt [] []=false:=rfl
def K6 y a:lexLt [] (y::a)=true:=rfl
def K7 x xs:lexLt (x::xs) []=false:=rfl
def K8 A s a t c u:∃e,a2z A s (.int a t) (.int c u) e/\(e=d7↔a=c):=
 ⟨(a==c),SeqAt.EqAt.int_int a t c u,by simp⟩
def K9 A s a t c u prog w E Q(h:Q (.bool<|decide<|a<c) s):
  Y6 (Y5 prog w) A (a2v .Lt (.int a t)<|.int c u) Q E s:=
 (b0u h:Y6 (Y5 prog w) A (Z0 .Lt (.int a t)<|.int c u) Q E s)
section
open PySem.SeqAt
open PySem.AutoSeq1 (wpAny_loadPart')
open PySem.MeetsSeq PySem.MeetsSeq2 PySem.MeetsSeq3
def La l b items i n n2 Z N sl T ns ms(U:a2B items.toList ns)(X:a2B i.toList ms):
  Meets (Builtin.«tuple.__lt__» ⟨[.ref l,.ref b],[]⟩)
   (λ_ R s=>s.heap.get? l=b0 {cls:=.type "tuple",dict:=Z,data:=.seq items n,slots:=sl}/\s.heap.get? b=b0 {cls:=.type "tuple",dict:=N,data:=.seq i n2,slots:=T} /\
    R (.ok<|.ret<|.bool<|lexLt ns ms) s):=
 .of_wp λB w A R s h=>by
  obtain⟨K,g,d,M,L⟩:=s;obtain⟨hl,hb,h⟩:=h;have f2:=AutoSeq1.sub_tuple_tuple;have z1:items.size=ns.length:=by rw[<- U.length];simp
  have z2:i.size=ms.length:=by rw[<- X.length];simp
  wp_walk using a2N hl,a2N hb,a6q _ (λrest b Q=>b.1=b5/\Q=⟨K,g,d,M,L⟩/\∃(vs ws:gw)(o k:List Int),rest=vs.zip ws /\
   a2B vs o/\a2B ws k/\o.length+i.size=k.length+items.size/\R (.ok<|.ret<|.bool<|lexLt o k) ⟨K,g,d,M,L⟩) _
  case turn=>
   rintro⟨y,x⟩ rest b Q ⟨E,rfl,vs,ws,o,k,r,G,p,j,v⟩;cases G with
   |nil=>rw[List.zip_nil_left]at r;cases r|cons a t H=>
    cases p with
    |nil=>rw[List.zip_nil_right]at r;cases r|cons c u I=>
     rw[a8a]at r;injection r with hyx hrest;injection hyx with hy hx;subst hy hx;rw[lexLt_cons]at v;simp only[Zc]at j;obtain⟨e,he,z⟩:=K8 A.in1 ⟨K,g,d,M,L⟩ a t c u;show Yw<|he B w _ _ ?_;cases e with
     |true=>rw[if_pos<|z.mp rfl]at v;wp_walk;show⟨rfl,rfl,_,_,_,_,hrest,H,I,by lia,v⟩|false=>rw[if_neg λq=>absurd (z.mpr q) YE]at v;have O:=K9 A.in1 ⟨K,g,d,M,L⟩ a t c u B w;wp_walk using O;show⟨_,rfl,by simpa using v⟩
  case fin=>
   rintro⟨b1,b2⟩ Q ⟨E,rfl,vs,ws,o,k,r,G,p,j,v⟩;simp only at E;subst E;have Y:lexLt o k=decide (items.size<i.size):=by
    cases G with
    |nil=>
     cases p with
     |nil=>simp only[a1S]at j;rw[K5];show(decide_eq_false<|by lia).symm|cons c u hw=>simp only[a1S,Zc]at j;rw[K6];show(decide_eq_true<|by lia).symm
    |cons a t Y=>
     cases p with
     |nil=>simp only[a1S,Zc]at j;rw[K7];show(decide_eq_false<|by lia).symm|cons c u hw=>rw[a8a]at r;cases r
   rw[Y]at v;wp_walk;show⟨_,rfl,by simpa[b0k]using v⟩
  case h=>show⟨rfl,rfl,items.toList,i.toList,ns,ms,rfl,U,X,by lia,h⟩
end
def lt_tupInts(z:a9U s.heap l items)(u:a9U s.heap b a)(v:a2B items.toList ns)(y:a2B a.toList ms)(B:A.units<a0k)(h:Q (.bool<|lexLt ns ms) s):Y6 (Y5 prog w) A (Z0 .Lt (.ref l)<|.ref b) Q E s:=by
 obtain⟨⟨cls,r,o,H⟩,p,hc,n,hd⟩:=id z;obtain⟨⟨k,i,g,j⟩,e,c,G,d⟩:=id u;simp only at hc hd c d;subst hc hd c d;show richCompare_meets_room (op:=.Lt) ⟨_,p,rfl⟩ ⟨_,e,rfl⟩ PySem.F.slot_tuple_lt PySem.F.entry_tuple_lt (PySem.F.args_tuple_lt_2 _ _) (La l b items a n G r i H j ns ms v y)
  ⟨p,e,show a0O (lexLt ns ms)≠Value.notImplemented/\Q (.bool<|lexLt ns ms) s from⟨(λx=>nomatch x),h⟩⟩ B
abbrev sIx(n d:Nat):Option Int->Nat
 |none=>d|some v=>if v<0 then(v+(n:Int)).toNat else min v.toNat n
def sIx_none n d:sIx n d b5=d:=rfl
def sIx_nat(n d k:Nat):sIx n d (b0 (k:Int))=min k n:=by change(if(k:Int)<0 then((k:Int)+(n:Int)).toNat else min (k:Int).toNat n)=min k n;rw[if_neg<|by lia,a0S]
end HT
namespace L2
open PySem PySem.Spec PyProof.Rows
noncomputable abbrev TO:=St->Hp->(Option Int->Hp->Prop)->Prop
abbrev PO(X:Cx)(e:Option Expr)(t:TO):Prop:=
 ∀(b0Z:jw)(s:YA)(σ:St)(H:Hp)(Q:Option Int->Hp->Prop),Inv X b0Z σ H s->t σ H Q->
  Y6 (Y5 X.prog X.w) X.A (evalPart e X.env) (λu b=>∃o a,Inv X b0Z σ a b/\IsPart u o/\Q o a) X.xe s
abbrev Lb:TO:=λ_ H Q=>Q b5 H
abbrev Lc(t:TE):TO:=λσ H Q=>t σ H λx a=>∃i,x=.int i/\Q (b0 i) a
def yB:∀{us},Vals (ns.map V.int) us->a2B us ns:=by
 induction ns with
 |nil=>intro us r;rw[a5g]at r;cases r;show .nil|cons n ns a=>
  intro us r;rw[Za]at r;cases r with
  |cons b c=>obtain⟨t,e⟩:=b;subst e;show .cons n t<|a c
def Ld:PO X b5 Lb:=by intro a s b H Q I h;rw[evalPart_none];show YH ⟨b5,H,I,.none,h⟩
def Le(h:PE X e te):PO X (b0 e) (Lc te):=by intro a s j H Q I hw;rw[evalPart_some];show aV (h a s j H _ I hw) λu k ⟨x,b,c,g,d⟩=>?_;obtain⟨i,rfl,q⟩:=d;obtain⟨t,rfl⟩:=g;show⟨b0 i,b,c,.int i t,q⟩
abbrev yC(X:Cx)(r:V->Option Int->Option Int->Hp->VK->Prop):Prop:=
 ∀(b0Z:jw)(s:YA)(σ:St)(H:Hp)(x:V)(v b c:Value)(lo hi:Option Int)(a:Addr)(Q:VK),Inv X b0Z σ H s->RelV x v->s.heap.IsSliceOf a b c .none->IsPart b lo->IsPart c hi->r x lo hi H Q->
  ∃T id,a5E (.type T) "__getitem__"=pure (b0<|.builtin id)/\s.TypeIs v T/\Y6 (Y5 X.prog X.w) X.A (a6P v<|.ref a) (EP X b0Z σ Q) X.xe s
abbrev Lf(r:V->Option Int->Option Int->Hp->VK->Prop)(te:TE)(tl th:TO):TE:=λσ H Q=>te σ H λx a=>tl σ a λl b=>th σ b λu c=>r x l u c Q
def Lg{lo:Option Expr}(G:yC X r)(A:PE X e te)(E:PO X lo tl)(L:PO X hi th):PE X (.Subscript e (.Slice lo hi b5 p2) pos) (Lf r te tl th):=by intro a s d H Q I h;show a7d<|aV (A a s d H _ I h) λv Z ⟨x,k,o,Y,O⟩=>?_;show wpAny_Slice<|aV (E a Z d k _ o O) λg s2 ⟨l,n,p,M,R⟩=>aV (L a s2 d n _ p R) λi c ⟨u,j,w,N,U⟩=>?_;rw[evalPart_none];show YH ?_;have y:Inv X a d j {c with heap:=c.heap.push {cls:=.type "slice",data:=.fields #[g,i,.none]}}:=w.kept (t':=c.toks) λb ob q=>YC _ q;obtain⟨T,id,z,K,B⟩:=G a {c with heap:=c.heap.push {cls:=.type "slice",data:=.fields #[g,i,.none]}} d j x v g i l u c.heap.objs.size Q y Y (a5R ..) M N U;change Y6 (Y5 X.prog X.w) X.A (a5s e (.Slice lo hi b5 p2) v<|.ref c.heap.objs.size) (EP X a d Q) X.xe {c with heap:=c.heap.push {cls:=.type "slice",data:=.fields #[g,i,.none]}};show b0R (ops:=[.ref c.heap.objs.size,v]) K z B<|by with_unfolding_all rfl
abbrev mE(xs:gz)(lo hi:Option Int):gz:=(xs.drop<|HT.sIx xs.length 0 lo).take<|HT.sIx xs.length xs.length hi-HT.sIx xs.length 0 lo
def Lh xs lo hi:(mE xs lo hi).length<=xs.length:=by unfold mE;rw[Zb,Z5];lia
abbrev mF(n:Nat)(i:Int):Option Nat:=if 0<=i then(if i<n then b0 i.toNat else b5)else if -(n:Int)<=i then b0 (i+n).toNat else b5
abbrev atI{a:Type}(xs:List a)(i:Int):Option a:=(mF xs.length i).bind λj=>xs[j]?
def Li(h:mF n i=b0 j):a6r i n=b0 j/\j<n/\-(n:Int)<=i/\i<n:=by
 unfold mF at h;by_cases b:0<=i
 .rw[if_pos b]at h;by_cases a:i<n
  .rw[if_pos a]at h;have e:i.toNat=j:=YX h;show⟨by rw[seqIndex_of b a,e],by lia,by lia,a⟩
  .rw[if_neg a]at h;cases h
 .rw[if_neg b]at h;by_cases a:-(n:Int)<=i
  .rw[if_pos a]at h;have e:(i+n).toNat=j:=YX h;show⟨by rw[seqIndex_neg ⋯ a,e],by lia,a,by lia⟩
  .rw[if_neg a]at h;cases h
def yD{xs:List a}{v:a}(h:atI xs i=b0 v):∃j,a6r i xs.length=b0 j/\xs[j]?=b0 v/\j<xs.length/\-(xs.length:Int)<=i/\i<xs.length:=by
 unfold atI at h;cases e:mF xs.length i with
 |none=>rw[e]at h;cases h|some j=>rw[e]at h;obtain⟨b,c,d,g⟩:=Li e;show⟨j,b,h,c,d,g⟩
abbrev yE(b:Expr):Prop:=∀o i,a6A b dI o i=operate [o,i] (a6P o i)
abbrev IxR(X:Cx)(r:R2):Prop:=
 ∀(b a:Expr)(b0Z:jw)(s:YA)(σ:St)(H:Hp)(x y:V)(v u:Value)(Q:VK),Inv X b0Z σ H s->RelV x v->RelV y u->r x y H Q->
  a6A a dI v u=operate [v,u] (a6P v u)->Y6 (Y5 X.prog X.w) X.A (a5s b a v u) (EP X b0Z σ Q) X.xe s
abbrev Lj(X:Cx)(id:String)(r:V->gz->Hp->VK->Prop):Prop:=
 ∀(b0Z:jw)(s:YA)(σ:St)(H:Hp)(x:V)(xs:gz)(v:Value)(us:gw)(Q:VK),Inv X b0Z σ H s->RelV x v->Vals xs us->r x xs H Q->
  Y6 (Y5 X.prog X.w) X.A (call (.builtin id)<|v::us) (EP X b0Z σ Q) X.xe s
def IxR.or(h:IxR X r)(h':IxR X i):IxR X (λx y H Q=>r x y H Q\/i x y H Q):=by
 intro d c e s l H x y v u Q I j k q g;rcases q with q|q
 .show h d c e s l H x y v u Q I j k q g
 .show h' d c e s l H x y v u Q I j k q g
def Lk(j:IxR X r)(g:PE X a ta)(i:PE X b tb)(k:yE b):PE X (.Subscript a b pos) (rG r ta tb):=by intro c s p H Q I h;show a7d<|xS g i I h λv u o x y d e l n q=>j a b c o p d x y v u Q e l n q<|k _ _
abbrev CI(K:Yx):R2:=λx y H Q=>∃p xs i v,x=.ref p/\y=.int i/\SqL K H p xs/\atI xs i=b0 v/\Q v H
abbrev CJ(K:Yx):R2:=λx y H Q=>∃p xs i v,x=.ref p/\y=.int i/\SqT K H p xs/\atI xs i=b0 v/\Q v H
abbrev CK:R2:=λx y H Q=>∃z i c,x=.str z/\y=.int i/\z.length<=YM/\atI z.cps.toList i=b0 c/\Q (.str ⟨#[c]⟩) H
def ix_list:IxR X (CI X.K):=by
 intro o n c s G H x y v u Q I T U h E;obtain⟨p,xs,i,z,rfl,rfl,R,N,q⟩:=h;cases T;obtain⟨t,rfl⟩:=U;obtain⟨g,r,k,hz⟩:=I.list R;obtain⟨j,d,K,Z,L,M⟩:=yD N;obtain⟨w,A,l⟩:=r.get K;have O:=r.length;have hn:=nR;have fin:EP X c G Q w s:=⟨z,H,I,l,q⟩;by_cases B:0<=i
 .have e:i.toNat=j:=by rw[seqIndex_of B M]at d;show YX d
  show item_listR k.isList B ⋯ (by rw[e];simpa using A) fin E
 .have e:(i+(g.toArray.size:Int)).toNat=j:=by rw[seqIndex_neg ⋯ L]at d;rw[YI,<- O];show YX d
  show a8j (x:=w) k.isList.typeIs a5T.lookup
   (wpAny_getItem_list_neg (Q:=λr Y=>r=w/\EP X c G Q r Y) k.isList ⋯ (by rw[YI]<;>lia) ⋯ (by rw[e];simpa using A) ⟨rfl,fin⟩) E
def ix_tup:IxR X (CJ X.K):=by
 intro g e c s l H x y v u Q I M N h K;obtain⟨p,xs,i,z,rfl,rfl,G,B,q⟩:=h;cases M;obtain⟨t,rfl⟩:=N;obtain⟨L,r,k,Z⟩:=I.tuple G;obtain⟨j,o,A,R,T,U⟩:=yD B;obtain⟨w,n,d⟩:=r.get A;have E:=r.length;have Y:=nR;have fin:EP X c l Q w s:=⟨z,H,I,d,q⟩;show a8j (x:=w) k.typeIs slot_tuple_getitem.lookup
  (getItem_tuple (j:=j) (Q:=λr O=>r=w/\EP X c l Q r O) k ⋯ ⋯ (by rw[YI,<- E];show o) (by simpa using n) ⟨rfl,fin⟩) K
def Ll:IxR X CK:=by
 intro e d k s O H x y v u Q I E G h B
 obtain ⟨z,i,c,rfl,rfl,M,w,q⟩:=h
 obtain ⟨t,rfl⟩:=E
 obtain ⟨N,rfl⟩:=G
 obtain ⟨j,g,o,K,p,r⟩:=yD w
 have A:z.cps.toList.length=z.length:=by simp [Str.length]
 rw [A] at g p r
 have L:=nR
 show b0R (typeIs_str s z t) slot_str_getitem.lookup (getItem_str (c:=c) (by
  have l:decide (i < -(2 ^ 63:Int))=false:=decide_eq_false<|by lia
  have n:decide (i >= 2 ^ 63)=false:=decide_eq_false<|by lia
  rw [l,n,a4R]) (by rw [g];simpa using o) ⟨.str ⟨#[c]⟩,H,I.tok _,⟨_,rfl⟩,q⟩) B
abbrev CL (K:Yx):R2:=fun x y H Q=>CI K x y H Q\/CJ K x y H Q\/CK x y H Q
def Lm:IxR X (CL X.K):=ix_list.or<|ix_tup.or Ll
def Inv.lst{X:Cx}{b0Z:jw}{σ:St}{H:Hp}{s:YA}{p:Addr}{xs:gz}(I:Inv X b0Z σ H s)(h:H p=b0 (.lst xs)) :
  ∃(its:gw)(n:Nat),Vals xs its/\s.heap.get? p=b0 {cls:=.type "list",data:=.seq its.toArray n}/\xs.length<=YM:=by
 obtain⟨z,its,n,r,e⟩:=I.hok p _ h;show⟨its,n,r,e,z⟩
def Ln lo c n:(a1W lo c b5 n).1=((HT.sIx n 0 lo:Nat):Int)/\(a1W lo c b5 n).2.1=((HT.sIx n n c:Nat):Int)/\(a1W lo c b5 n).2.2=1:=by
 show⟨?_,?_,rfl⟩
 .cases lo with
  |none=>simp[a1W,HT.sIx]|some i=>
   simp only[a1W,HT.sIx,a3U,show(1:Int)>0 by decide,if_true];by_cases h:i<0
   .simp only[h,if_true]<;>lia
   .simp only[h,if_false]<;>lia
 .cases c with
  |none=>simp[a1W,HT.sIx]|some i=>
   simp only[a1W,HT.sIx,a3U,show(1:Int)>0 by decide,if_true];by_cases h:i<0
   .simp only[h,if_true]<;>lia
   .simp only[h,if_false]<;>lia
def Lo(its:gw)lo c:a7R its.toArray lo c b5=((its.drop<|HT.sIx its.length 0 lo).take<|HT.sIx its.length its.length c-HT.sIx its.length 0 lo).toArray:=by obtain⟨d,e,g⟩:=Ln lo c its.toArray.size;unfold a7R;rw[d,e,g];simp only[sliceRange_one,pick_run,YI]<;>rfl
abbrev yF(K:Yx):V->Option Int->Option Int->Hp->VK->Prop:=λx lo c H Q=>∃a xs,x=.ref a/\SqL K H a xs/\∀p,H p=b5->Q (.ref p) (upd H p<|.lst<|mE xs lo c)
def Lp:yC X (yF X.K):=by intro j s E H x v A B e g z Q I w k p u h;obtain⟨a,c,rfl,l,q⟩:=h;cases w;obtain⟨o,r,i,n⟩:=I.list l;have d:=r.length;show⟨"list",_,a5T.lookup,i.isList.typeIs,?_⟩;show a7C i.isList k p u .none (by simp) ?_ (by rw[YI]<;>lia);rw[Lo,<- d];show⟨.ref s.heap.objs.size,_,I.laid (t':=s.toks) (o:=.lst (mE c e g)) (λb y q=>YC _ q) (YG _) ?_,rfl,q _<|I.hok.fresh<|YG _⟩;show⟨Zr (Lh c e g) n,_,0,(r.drop<|HT.sIx c.length 0 e).take<|HT.sIx c.length c.length g-HT.sIx c.length 0 e,YR _ rfl⟩
def CM:OpR X (Z0 .NotIn) (λx y H Q=>∃i j,x=.str i/\y=.str j/\Q (.bl<|!(!(a0l j i 0 j.length 1).isEmpty)) H):=by intro c s k H x y v u Q I d e h;obtain⟨i,j,rfl,rfl,q⟩:=h;obtain⟨t,rfl⟩:=d;obtain⟨g,rfl⟩:=e;show notIn_str ⟨.bl _,H,I,rfl,q⟩
def call_len_seq:CallR X (.builtin "len") (λxs H Q=>∃p d,xs=[.ref p]/\(SqL X.K H p d\/SqT X.K H p d)/\Q (.int d.length) H):=by
 intro k s w H xs v Q I r h;obtain⟨p,d,rfl,e,q⟩:=h;obtain⟨u,rfl,n⟩:=fH r;cases n;have o:=nR;rcases e with e|e
 .obtain⟨g,j,i,l⟩:=I.list e;have c:=j.length;show Calls.call_len_list i.isList (by simp only[YI]<;>lia) ⟨.int d.length,H,I.tok _,⟨s.toks+1,by rw[YI,c]⟩,q⟩
 .obtain⟨g,j,i,l⟩:=I.tuple e;have c:=j.length;show len_tuple i (by simp only[YI]<;>lia) ⟨.int d.length,H,I.tok _,⟨s.toks+1,by rw[YI,c]⟩,q⟩
def Lq:CallR X (.builtin "len") (λxs H Q=>∃z,xs=[.str z]/\z.length<=YM/\Q (.int z.length) H):=by intro c s i H xs g Q I r h;obtain⟨z,rfl,e,q⟩:=h;obtain⟨u,rfl,t,rfl⟩:=fH r;have d:=nR;show len_str ⋯ ⟨.int z.length,H,I.tok _,⟨_,rfl⟩,q⟩
def CallR.or(h:CallR X f r)(h':CallR X f d):CallR X f (λxs H Q=>r xs H Q\/d xs H Q):=by
 intro c s i H xs g Q I e q;rcases q with q|q
 .show h c s i H xs g Q I e q
 .show h' c s i H xs g Q I e q
def call_list_of:CallR X (.type "list") (λxs H Q=>∃p d,xs=[.ref p]/\(SqL X.K H p d\/SqT X.K H p d)/\∀l,H l=b5->Q (.ref l) (upd H l<|.lst d)):=by
 intro v s A H xs B Q I r h;obtain⟨p,d,rfl,i,q⟩:=h;obtain⟨u,rfl,z⟩:=fH r;cases z;have fin:∀(its:gw),Vals d its->d.length<=YM->∀(h':ZX)(c':Nat),(∀b y,s.heap.get? b=b0 y->h'.get? b=b0 y)->
   h'.get? s.heap.objs.size=b0 {cls:=.type "list",dict:=b5,data:=.seq its.toArray c',slots:=#[]}->EP X v A Q (.ref s.heap.objs.size) {s with heap:=h'}:=λits c j h' c' k e=>
  ⟨.ref s.heap.objs.size,_,I.laid (t':=s.toks) k (YG _)<|show ObjOk X.prog X.w _ h' _ (.lst d)from⟨j,its,c',c,e⟩,rfl,q _<|I.hok.fresh<|YG _⟩
 rcases i with i|i
 .obtain⟨its,c,x,j⟩:=I.list i;have g:=c.length;obtain⟨o,w,hc,n,hd⟩:=x.isList;show call_list_seq p (.inl rfl) w hc hd (λh' c' k e=>fin its c j h' c' k e)<|by simp only[YI]<;>lia
 .obtain⟨its,c,x,j⟩:=I.tuple i;have g:=c.length;obtain⟨o,w,hc,n,hd⟩:=x;show call_list_seq p (.inr rfl) w hc hd (λh' c' k e=>fin its c j h' c' k e)<|by simp only[YI]<;>lia
def Lr:CallR X (.type "tuple") (λxs H Q=>∃p d,xs=[.ref p]/\((SqL X.K H p d/\∀l,H l=b5->Q (.ref l) (upd H l<|.tup d))\/(SqT X.K H p d/\Q (.ref p) H))):=by
 intro g s y H xs E Q I r h;obtain⟨p,d,rfl,h⟩:=h;obtain⟨u,rfl,B⟩:=fH r;cases B;rcases h with⟨j,q⟩|⟨j,q⟩
 .obtain⟨c,n,k,x⟩:=I.list j;have w:=n.length;show call_tuple_list k.isList (λi A=>?_) (by simp only[YI]<;>lia);have v:Inv X g y H {s with heap:=i}:=I.kept (t':=s.toks) A;have z:Inv X g y (upd H i.objs.size<|.tup d) {s with heap:=i.push {cls:=.type "tuple",data:=.seq c.toArray}}:=
   v.laid (t':=s.toks) (λb o e=>YC _ e) (YG _)<|show ObjOk X.prog X.w _ _ _ (.tup d)from⟨x,c,n,TupN.new _ _⟩
  show⟨.ref i.objs.size,_,z,rfl,q _<|v.hok.fresh<|YG _⟩
 .obtain⟨c,n,k,x⟩:=I.tuple j;show call_tuple_same k ⟨.ref p,H,I,rfl,q⟩
abbrev yG(K:Yx)(T:String)(x:V)(H:Hp):Prop:=match x with
 |.str _=>T="str"|.int _=>T="int"|.ref p=>(T="list"/\∃d,SqL K H p d)\/(T="tuple"/\∃o,K.lookup p=b0 o/\o.cls=.type "tuple"/\o.dict=b5) \/
   (T="dict"/\((∃c,H p=b0 (.dK c))\/∃c,H p=b0 (.dT c)))\/(T="set"/\∃S n,H p=b0 (.set S n))
 |_=>False
def Ls{σ:St}(I:Inv X b0Z σ H s)(r:RelV x v)(ty:yG X.K T x H):
  s.TypeIs v T/\∀a,v=.ref a->∃k,s.heap.get? a=b0 k/\k.dict=none:=by
 cases x with
 |str z=>obtain⟨t,rfl⟩:=r;cases(show T="str" from ty);show⟨typeIs_str s z t,λ_ e=>nomatch e⟩|int i=>obtain⟨t,rfl⟩:=r;cases(show T="int" from ty);show⟨typeIs_int s i t,λ_ e=>nomatch e⟩|ref p=>
  cases r;rcases ty with⟨rfl,y,u⟩|⟨rfl,o,d,hc,hd⟩|⟨rfl,d⟩|⟨rfl,S,n,d⟩
  .obtain⟨w,_,l,_⟩:=I.list u;show⟨l.isList.typeIs,λa e=>?_⟩;cases e;obtain⟨o,n,e,c,hd,_⟩:=l;show⟨o,e,hd⟩
  .show⟨⟨o,I.kIn p o d,hc⟩,λa e=>?_⟩;cases e;show⟨o,I.kIn _ o d,hd⟩
  .have z:∃o,s.heap.get? p=b0 o/\o.ExactDict:=by
    rcases d with⟨j,d⟩|⟨j,d⟩
    .obtain⟨_,_,_,_,o,_,_,e,g,_⟩:=I.hok p _ d;show⟨o,e,g⟩
    .obtain⟨_,_,_,_,o,_,_,e,g,_⟩:=I.hok p _ d;show⟨o,e,g⟩
   obtain⟨o,e,g⟩:=z;show⟨⟨o,e,g.1⟩,λa h=>?_⟩;cases h;show⟨o,e,g.2.1⟩
  .obtain⟨o,_,_,_,e,g,_⟩:=I.hok p _ d;show⟨⟨o,e,g.1⟩,λa h=>?_⟩;cases h;show⟨o,e,g.2.1⟩
 |_=>show a1h ty
abbrev CN(K:Yx)(T:String)(r:V->gz->Hp->VK->Prop)(to:TE)(t:TA):TE:=λσ H Q=>to σ H λx c=>yG K T x c/\t σ c λxs d=>r x xs d Q
def Lu{id:String}(N:PlainAttrs T)(k:Slot T name id)(l:b0Q (.builtin id)=pure (.type "method_descriptor"))(K:Lj X id r)(L:PE X o to)(G:PA X (e::es) t)(g:a2J o name X.env (eval o X.env)=eval o X.env:=by rfl)(j:((a1C cpos (Zo (e::es) X.env)).all (λx=>!x.1)&&(a7b cpos (a4Y [] X.env)).all (λx=>x.1.isSome)
   && decide ((e::es).length+([]:List a2A).length+(if([]:List a2A).isEmpty then 0 else 1)<30))=true:=by rfl)(i:(apos.endLine==cpos.line)=true:=by rfl)(M:Zo (e::es) X.env=(dI,eval e X.env)::Zo es X.env:=by rfl)(c:(a1C cpos (Zo es X.env)).any (·.1)=false:=by rfl):
  PE X (.Call (.Attribute o name apos) (e::es) [] cpos) (CN X.K T r to t):=by
 intro d s n H Q I h;show a8i g j i rfl (aV (L d s n H _ I h) λv Y ⟨x,y,p,w,ty,O⟩=>?_);obtain⟨B,E⟩:=Ls p w ty;show⟨T,id,N,k,l,B,E,?_⟩;have u:=G cpos d Y n y _ p O;rw[M]at u ⊢;show a2L (by change(dI||(a1C cpos (Zo es X.env)).any (·.1))=dI;rw[c]<;>rfl) (a7l ?_);show aV u λus Z ⟨vs,z,A,U,R⟩=>K d Z n z x vs v us Q A w U R
abbrev jK(X:Cx)(id:String)(r:V->gz->Hp->VK->Prop):Prop:=
 ∀(b0Z:jw)(s:YA)(σ:St)(H:Hp)(x:V)(xs:gz)(v:Value)(us:gw)(Q:VK),Inv X b0Z σ H s->RelV x v->Vals xs us->r x xs H Q->
  Y6 (Y5 X.prog X.w) X.A (call (.builtin id)<|v::us) (EP X b0Z σ Q) X.xe s
def Vals.one(h:Vals [x] us):∃u,us=[u]/\RelV x u:=by
 cases h with
 |cons r t=>cases t;show⟨_,rfl,r⟩
def Vals.two(h:Vals [x,y] us):∃u v,us=[u,v]/\RelV x u/\RelV y v:=by
 cases h with
 |cons r t=>obtain⟨v,rfl,q⟩:=Vals.one t;show⟨_,v,rfl,r,q⟩
def Vals.eraseIdx:∀{xs}{us}i,Vals xs us->Vals (xs.eraseIdx i) (us.eraseIdx i)
 |_,_,_,.nil=>.nil|_,_,0,.cons _ t=>t|_,_,i+1,.cons r t=>.cons r<|Vals.eraseIdx i t
def CO{a:Type}:∀(l:List a)i,(l.eraseIdx i).length<=l.length
 |[],_=>YG _|_::_,0=>a2m _|_::r,i+1=>Nat.succ_le_succ<|CO r i
def Inv.lset{σ:St}{its:gw}(I:Inv X b0Z σ H s)(a:H l=b0 (.lst xs))(e:s.heap.get? l=b0 {cls:=.type "list",data:=.seq its.toArray n})(d:f its.toArray=its'.toArray)(h:Vals ys its')(hz:ys.length<=YM):
  Inv X b0Z σ (upd H l<|.lst ys) {s with heap:=s.heap.update l<|ZW f,toks:=t'}:=by
 have q:=PySem.IsL.update e f;rw[d]at q;show I.write (x:=l) (e:=l) (by rw[a];show trivial) (.inl rfl) (λi u c g=>(ZI s.heap (ZW f)<|ZJ c).trans g) ⟨_,q⟩ ?_;show⟨hz,its',_,h,q⟩
def Inv.lnew{σ:St}(I:Inv X b0Z σ H s)(a:Vals ys its)(hz:ys.length<=YM):
  Inv X b0Z σ (upd H s.heap.objs.size<|.lst ys) {s with heap:=s.heap.push {cls:=.type "list",data:=.seq its.toArray},toks:=t'}:=
 I.laid (λ_ _ q=>YC _ q) (YG _) ⟨hz,its,0,a,YR _ rfl⟩
def Inv.fresh{σ:St}(I:Inv X b0Z σ H s):H s.heap.objs.size=none:=I.hok.fresh<|YG _
def Inv.lstM{σ:St}(I:Inv X b0Z σ H s)(a:H l=b0 (.lst xs)):xs.length<=YM/\∃(its:gw)(n:Nat),Vals xs its/\xs.length=its.length/\s.heap.get? l=b0 {cls:=.type "list",data:=.seq its.toArray n}:=by obtain⟨z,its,n,r,e⟩:=I.hok l _ a;show⟨z,its,n,r,r.length,e⟩
def Lv(h:n<=YM):a3q n=false:=by unfold a3q;show decide_eq_false<|by lia
abbrev CP:V->gz->Hp->VK->Prop:=λx vs H Q=>∃l xs y,x=.ref l/\vs=[y]/\H l=b0 (.lst xs)/\xs.length<YM/\Q .non (upd H l<|.lst<|xs++[y])
def CQ:jK X "list.append" CP:=by intro c s A H x p v o Q I i g h;obtain⟨l,w,y,rfl,rfl,b,k,q⟩:=h;cases i;obtain⟨u,rfl,d⟩:=g.one;obtain⟨z,a,n,r,j,e⟩:=I.lstM b;show a4F F.slot_list_append ⟨_,e,rfl⟩ F.entry_list_append (F.args_list_append_2 _ _) (PySem.list_append l a.toArray n u<|by rw[YI];lia) ⟨e,?_⟩;show⟨.non,_,I.lset (its':=a++[u]) b e (by simp) (r.append<|.cons d .nil) ?_,rfl,q⟩;rw[YF,a4t];lia
abbrev CS:V->gz->Hp->VK->Prop:=λx vs H Q=>∃l b xs a,x=.ref l/\vs=[.ref b]/\H l=b0 (.lst xs)/\H b=b0 (.lst a)/\xs.length+a.length<=YM/\Q .non (upd H l<|.lst<|xs++a)
def Lx:jK X "list.extend" CS:=by
 intro j s T H x M v L Q I E B h;obtain⟨l,b,N,R,rfl,rfl,i,o,K,q⟩:=h;cases E;obtain⟨u,rfl,A⟩:=B.one;cases A;obtain⟨z,c,n,r,G,e⟩:=I.lstM i;obtain⟨O,a,w,y,p,k⟩:=I.lstM o;have g:c.toArray.size+a.toArray.size<=YM:=by rw[YI,YI];lia
 have d:¬ (!c.toArray.isEmpty&&a3q (c.toArray.size+a.toArray.size))=true:=by rw[Lv g,a6p];show YE
 show a4F F.slot_list_extend ⟨_,e,rfl⟩ F.entry_list_extend (F.args_list_extend_2 _ _)
  (AutoSeq1.list_extend_list_list_0 l c.toArray n b a.toArray w d (by rw[YI];lia)<|by lia) ⟨e,k,?_⟩
 show⟨.non,_,I.lset (its':=c++a) i e (by simp) (r.append y) ?_,rfl,q⟩;rw[YF];lia
abbrev CT:V->gz->Hp->VK->Prop:=λx vs H Q=>∃l xs i k y,x=.ref l/\vs=[.int i]/\H l=b0 (.lst xs)/\-(2^63)<=i/\i<2^63/\a6r i xs.length=b0 k/\xs[k]?=b0 y/\Q y (upd H l<|.lst<|xs.eraseIdx k)
def Lz:jK X "list.pop" CT:=by
 intro d s N H x M v L Q I G E h;obtain⟨l,K,i,k,y,rfl,rfl,c,g,j,o,A,q⟩:=h;cases G;obtain⟨u,rfl,B⟩:=E.one;obtain⟨t,rfl⟩:=B;obtain⟨z,a,n,r,p,e⟩:=I.lstM c;obtain⟨w,hw,b⟩:=r.get A;show a4F F.slot_list_pop ⟨_,e,rfl⟩ F.entry_list_pop (F.args_list_pop_2 _ _)
  (MeetsSeq.list_pop_at l a.toArray n i t k w (fitsIndex_both g j) (by rw[YI,<- p];show o) (by rw[<- a0o];show hw)<|by rw[YI];lia) ⟨e,?_⟩
 show⟨y,_,I.lset (its':=a.eraseIdx k) c e ?_ (r.eraseIdx k) ?_,b,q⟩
 .change a.toArray.eraseIdxIfInBounds k=(a.eraseIdx k).toArray;rw[List.eraseIdxIfInBounds_toArray]
 .have:=CO K k;lia
abbrev CU:R2:=λx y H Q=>∃l b xs a,x=.ref l/\y=.ref b/\H l=b0 (.lst xs)/\H b=b0 (.lst a)/\xs.length+a.length<=YM/\∀p,H p=b5->Q (.ref p) (upd H p<|.lst<|xs++a)
def LA:OpR X (a2I .Add) CU:=by
 intro d s N H x y v u Q I w A h;obtain⟨l,b,K,M,rfl,rfl,k,j,E,q⟩:=h;cases w;cases A;obtain⟨z,c,n,r,B,e⟩:=I.lstM k;obtain⟨L,a,G,p,o,g⟩:=I.lstM j;show PySem.P.add_list e g ?_ (by rw[YI,YI];lia);have i:c.toArray++a.toArray=(c++a).toArray:=by simp
 rw[i];show⟨.ref _,_,I.lnew (t':=s.toks) (r.append p)<|by rw[YF];lia,rfl,q _ I.fresh⟩
end L2
namespace Att
open PySem PySem.W PySem.Calls PyProof.Rows
def LB:∀ns(vs:gw),WellAll P h vs (ns.map a3g)->a2B vs ns:=by
 intro ns;induction ns with
 |nil=>intro vs w;rw[a5g]at w;cases w;show .nil|cons n ns c=>
  intro vs w;rw[Za]at w;cases w with
  |cons a b=>cases a;show .cons _ _<|c _ b
def script_of{l:OpenLaw}(x:l.most=b0 n){e:gw}(c:l.row.toRowW.claim.pre args=d7)(p:WellAll P h e args):
  ∃a s b,e=[YY a]/\args=[WData.list<|b.map a3g]/\h.get? a=b0 {cls:=.type "list",data:=.seq s.toArray}/\a2B s b/\b.length<=n:=by
 have o:WShape.hasAll [] args [.list .int]=true:=(pre_splitW c).1;have hc:l.pre.holds [] {args:=args}=true:=(pre_splitW c).2;obtain⟨d,r,rfl,u,v⟩:=hasAllW_cons o;obtain rfl:=hasAllW_nil v;obtain⟨E,rfl,w⟩:=hasW_list u;obtain⟨b,rfl⟩:=items_int w;have i:b.length<=n:=by
  unfold OpenLaw.pre at hc;have j:(WTm.not<|.lt (.lit<|.int (n:Int))<|.len<|.arg 0).holds [] {args:=[.list<|b.map .int]}=true:=by have j:=(holds_andW hc).1;rw[x]at j;show j
  have k:=condW_of j<|w_not<|w_lt w_lit<|w_len_list<|w_arg rfl;rw[Yu]at k;show a3f λq=>?_;have z:(n:Int)<((b.length:Nat):Int):=by omega
  first
   |(rw[decide_eq_true z]at k;show absurd k<|by decide)|(simp at k;lia)
 cases p with
 |cons A B=>
  cases B;cases A with
  |list y g=>show⟨_,_,b,rfl,rfl,y,LB b _ g,i⟩
def post_true(l:OpenLaw)args:l.row.toRowW.claim.post args (.bool d7) args=true:=
 postW_of (r:=l.row.toRowW) (X:=(d7==d7))
  (show a9O [] (.bool d7) .bool=d7 by first|rfl|decide|simp[a9O,WShape.arms,WShape.armsAll])
  (show(WTm.eq .res<|.lit<|.bool d7).value [] {args:=args,res:=b0<|.bool d7,after:=args}=b0 (.bool<|d7==d7)from w_eq_bool (w_res rfl) w_lit) rfl
end Att
namespace L2
open PySem PySem.Spec PyProof.Rows
def CV:∀{vs:gw}{ns},a2B vs ns->Vals (ns.map V.int) vs
 |_,_,.nil=>.nil|_,_,.cons n t h=>.cons ⟨t,rfl⟩<|CV h
abbrev CW(H:Hp):Prop:=∀b,H b=b5\/∃o xs,H b=b0 (.frz o<|.lst xs)
def law_call{K:Yx}{vs:gw}(KX:K.In c.heap)(G:c.heap.Ns a0j mg)(g:c.heap.Ns a9A Z)(U:∀x:Str,x ≠ "__name__"->Z x=a0B x)(E:c.heap.NoLimit)(hg:c.gens=#[])(O:c.heap.get? a=b0 {cls:=.type "list",data:=.seq vs.toArray})(hi:a2B vs ns)(hl:ns.length<=YM)(hr:Room k a5V)(F:∀i,K.In i->i.Ns a0j mg->FnOk P w K mg i CX k R fd [x] sp)(y:∀s u,a6f s fd ⟨[u],[]⟩ [(x,u)])(Y:∀H,CW H->SqL K H a (ns.map V.int)->sp [.ref a] H (λv _=>v=.bl d7) λ_ _ _=>False)(T:∀H e j,CX [] H c (λ_ _ _=>False) e j->False):
  a2y (Y5 P w) a5V (.call (.ref R) ⟨[.ref a],[]⟩) (λr j=>r=.ok (.ret<|.bool d7)/\OldK c.heap j.heap/\j.os=c.os/\a5l j.gens) c:=by
 have rv:=CV hi;have M:=hi.length
  -- from an abstract heap in which nothing but the script may be tracked
 have p:∀H:Hp,CW H->SqL K H a (ns.map V.int)->HOk P w H c.heap->(∀b,H b≠b5->b=a)->(H a≠b5->K.lookup a=b5)->
   a2y (Y5 P w) a5V (.call (.ref R) ⟨[.ref a],[]⟩) (λr j=>r=.ok (.ret<|.bool d7)/\OldK c.heap j.heap/\j.os=c.os/\a5l j.gens) c:=by
  intro H hO hS I hA hK;have n9:∀{b:Addr}{o:Obj},c.heap.get? b=b0 o->H b=b5->(k9 c.heap H).get? b=b0 o:=λe n=>Jp e n;have noA:∀{b:Addr}{o:Obj}{es:Array DictEntry}{ep:Nat},c.heap.get? b=b0 o->o.data=.dict es ep->H b=none:=λ{b o es ep} e d=>by
   cases q:H b with
   |none=>rfl|some u=>have Q:b=a:=hA b (by rw[q];simp);subst Q;rw[O]at e;cases e;have d':a7A vs.toArray _=a2r es ep:=d;cases d'
  have l:∀{b:Addr}{m:Str->Option Value},c.heap.Ns b m->(k9 c.heap H).Ns b m:=λ{b m} ⟨o,es,ep,e,d,r⟩=>⟨o,es,ep,n9 e<|noA e d,d,r⟩;have B:K.In (k9 c.heap H):=λb o e=>n9 (KX b o e)<|by
   cases q:H b with
   |none=>rfl|some u=>
    have Q:b=a:=hA b (by rw[q];simp);subst Q;rw[hK<|by rw[q];simp]at e;cases e
  have hM:Mod K mg (k9 c.heap H):=⟨B,l G,⟨Z,l g,U⟩,let⟨mc,h1,h2⟩:=E;⟨mc,l h1,h2⟩⟩;have e0:Env0 P w K mg (k9 c.heap H) a5V [] c H:=⟨rfl,hM,λb o e=>Jq e,a4n<|Jo _ _,trivial,λb g=>absurd (show b∈([]:List Addr)from g)<|by simp,I,.of_eq hg⟩;show a5U ((F _ B<|l G).run a5V [] c H ⟨[.ref a],[]⟩ [.ref a] [.ref a] _ _ hr e0 (y c<|.ref a) (.cons rfl .nil)<|Y H hO hS) λr j h=>?_;cases r with
  |error e=>show(T H e j h).elim|ok fl=>
   cases fl with
   |next=>show a1h h|brk=>show a1h h|cont=>show a1h h|ret u=>
    obtain⟨v,H',os,A,un,L,r',q⟩:=h;have q':v=.bl true:=q;subst q';obtain rfl:u=a0O true:=r';show⟨rfl,OldK.of_keep λb o e=>?_,os,A⟩;cases q:H b with
    |none=>show un.keep b o e q (by intro z;show absurd (show b∈([]:List Addr)from z)<|by simp) (by simp)|some u=>
     rcases hO b with z|⟨ob,xs,z⟩
     .rw[q]at z;cases z
     .have z2:=un.frzs b ob _ z;obtain⟨e1,_⟩:=I b _ z;obtain⟨e2,_⟩:=L b _ z2;rw[e]at e1;cases e1;show e2
 cases X:K.lookup a with
 |some o=>-- the script is one of the module's own objects
  have e:=KX a o X;rw[O]at e;cases e;show p (λ_=>b5) (λ_=>.inl rfl) (.inr ⟨_,vs.toArray,_,X,rfl,rfl,rfl,by rw[YI,M];show hl,by simpa using rv⟩) (λb u z=>by have N:(b5:Option HO)=b0 u:=z;cases N) (λb z=>absurd rfl z) λz=>absurd rfl z
 |none=>
  show p (λb=>if b=a then b0 (.frz {cls:=.type "list",data:=.seq vs.toArray}<|.lst<|ns.map V.int)else b5) (λb=>?_) (.inl<|.inr ⟨{cls:=.type "list",data:=.seq vs.toArray},if_pos rfl⟩) (λb u z=>?_) (λb z=>?_) λ_=>X
  .by_cases g:b=a
   .show .inr ⟨_,_,if_pos g⟩
   .show .inl<|if_neg g
  .by_cases g:b=a
   .have N:=(if_pos g).symm.trans z;cases N;subst g;show⟨O,by rw[Yu];show hl,vs,_,rv,O⟩
   .have N:=(if_neg g).symm.trans z;cases N
  .by_cases g:b=a
   .show g
   .show absurd (if_neg g) z
abbrev iV(s:Stmt):Arguments:=match s with
 |.FunctionDef _ a _ _ _ _ _ _ _ _=>a|_=>{posonlyargs:=[],args:=[],vararg:=b5,kwonlyargs:=[],kw_defaults:=[],kwarg:=b5,defaults:=[]}
abbrev fS(s:Stmt):List Stmt:=match s with
 |.FunctionDef _ _ b _ _ _ _ _ _ _=>b|_=>[]
abbrev cQ(s:Stmt):a1D:=match s with
 |.FunctionDef _ _ _ _ _ _ sc _ _ _=>sc|_=>{kind:=.function,names:=[],isGenerator:=dI,isCoroutine:=dI}
noncomputable abbrev f7:kE:=λ_ _ _ _ _ _=>False
noncomputable abbrev E0:XK:=λ_ _ _=>False
def CY:t6 f7 X E0:=λ_ _ _ _ _ _ _ h=>h.elim
structure Fun(K:Yx)(x qual:Str)(st:Stmt)(f:Addr)(fd:a1E):Prop where
 ex:∃(oc:Value)(od:Option Addr)(dV kV doc pm:Value)(an:Option Addr)(cdv ct:Value)(osl:Array (Option Value)),
  fd=a0M x qual (iV st) (fS st) (cQ st) dV kV doc pm an cdv ct/\K.lookup f=b0 ⟨oc,od,.func fd,osl⟩/\a4j K cdv qual=d7
 kp:a0L K (.ref f)=d7
def Fun.ok{K:Yx}{st:Stmt}(F:Fun K x a st f g)(S:FnScope N ps (cQ st))(len:∀vs H Q E,sp vs H Q E->vs.length=ps.length)(c:∀b A outer s H(vs:gz)Q E,Room k (A.deeper<|envOfC a (cQ st) s.heap.objs.size f b)->sp vs H Q E->
   ∃t,PSs (lE f7 P w K mg base N a (cQ st) f b A outer s H E).nox (fS st) t/\t {nx:=λ_ i=>Q .non i,rt:=Q} (start N vs) H):FnOk P w K mg base f7 (k+1) f g ps sp:=by
 obtain⟨r,u,p,kV,j,v,o,b,ct,n,rfl,lk,d⟩:=F.ex;show KZ lk d S len λA outer s H vs Q E l e=>?_;obtain⟨t,h,q⟩:=c b A outer s H vs Q E l e;show⟨t,h.nox,q⟩
def LC{K:Yx}{st:Stmt}{kV:Value}(l:K.lookup f=b0 ⟨i,j,.func<|a0M x a (iV st) (fS st) (cQ st) g kV d h an b ct,e⟩)(c:a4j K b a=d7)(k:a0L K (.ref f)=d7):Fun K x a st f (a0M x a (iV st) (fS st) (cQ st) g kV d h an b ct):=⟨⟨i,j,g,kV,d,h,an,b,ct,e,rfl,l,c⟩,k⟩
def LF(a:Room k A):A.units+1<a0k:=a8y (a7Y (by decide:1<=64) _) a.units
def pv i(b:X.N[i]?=b0 x:=by rfl)(c:nP X.env.scope x:=by first|show a6D rfl|show a5f (a6D rfl)|show a5f<|a5f rfl)(hd:(x==("__debug__":Str))=false:=by decide)(a:(x==("__classdict__":Str))=false:=by decide):PE X (.Name x pos) (xN i):=Cb b c hd a
def mG{A:Prop}(h:B):if dI=d7 then A else B:=by rw[if_neg YE];show h
def mH{A:Prop}(h:A):if d7=d7 then A else B:=by rw[if_pos rfl];show h
section
variable{κ:Type} [DecidableEq κ]
end
end L2
namespace L3
open PySem PySem.W
def left_cut{Yf:YA → Q}{Ya:Zk → Q}{hA hB hC hD:a0I → ZX}(i:∀w,(fencedOpening a1e p w N).map (λs=>(s.heap,s.gens,s.drawn,s.toks))=b0 (a2X w.params,Zv [],ZY,a6t))(size:∀w:Zk,((a2X w.params).isNs a0j,(a2X w.params).objs.size,(a2X w.params).nsMap a0j "__annotations__")=(d7,b,g))(pre:∀w a,topGo a1e p w b g v ⟨a2X w.params,Zv [],ZY,a6t,a⟩ (topStub p)=b0 (⟨hA w.params,Zv [],ZY,kA,a⟩,⟨denote a1e<|.body (Zd p) env,.body (Zd p) env,G,[a2H j]⟩))(y:∀w a,a5G a1e p w b g 1 l ⟨hA w.params,Zv [],ZY,kA,a⟩ (blockOf (Zd p) env (.body (Zd p) env) G [a2H j])=b0 (.next,⟨hA w.params,Zv [],ZY,kA,a⟩,.body (Zd p) env,x))(s1:∀w a,a5G a1e p w b g 1 n ⟨hA w.params,Zv [],ZY,kA,a⟩ (a4X ((Zd p).take i1) env (.body (Zd p) env) x [a2H j])=b0 (.next,⟨hB w.params,Zv [],ZY,A,a⟩,.body (Zd p) env,H))(s2:∀w a,a5G a1e p w b g 1 o ⟨hB w.params,Zv [],ZY,A,a⟩ (a4X (((Zd p).drop i1).take i2) env (.body (Zd p) env) H [a2H j])=b0 (.next,⟨hC w.params,Zv [],ZY,B,a⟩,.body (Zd p) env,I))(s3:∀w a,a5G a1e p w b g 1 u ⟨hC w.params,Zv [],ZY,B,a⟩ (a4X ((((Zd p).drop i1).drop i2).take i3) env (.body (Zd p) env) I [a2H j])=b0 (.next,⟨hD w.params,Zv [],ZY,E,a⟩,.body (Zd p) env,K))(fin:∀w a,((topRun a1e p w b g n4 ⟨hD w.params,Zv [],ZY,E,a⟩<|restOf ((((Zd p).drop i1).drop i2).drop i3) env (.body (Zd p) env) K [a2H j]).bind λc=>match staticsOk (b0p p.main.body) (a2X w.params) c.heap&&namesBound p c.heap&&gensDone c&&laidKept (a2X w.params) c.heap with
   |true=>b0 c
   |false=>b5).map (λs=>(openSeen q loose (b0p p.main.body) Xt z s,Yf s))=b0 (openGood q loose,Ya w))(le:Nat.ble (v+(l+(n+(o+(u+n4))))) N=d7):LeftO p q loose Xt Yf Ya N z:=λw=>by
 obtain⟨⟨h,T,d,k,a⟩,e,R⟩:=YB.mp<|i w;obtain⟨rfl,rfl,rfl,rfl⟩:h=a2X w.params ∧ T=Zv [] ∧ d=ZY ∧ k=a6t:=by simpa using R
 obtain⟨z1,z2,z3⟩:_ ∧ _ ∧ _:=by simpa only[Prod.mk.injEq]using size w
 obtain⟨s,Y,Z⟩:=YB.mp<|fin w a;obtain⟨c,U,X⟩:=Yv.mp Y;have O:=a9Z (s3 w a) U;rw[Zu]at O;have M:=a9Z (s2 w a) O;rw[Zu]at M;have L:=a9Z (s1 w a) M;rw[Zu]at L;have r0:=go_top (pre w a)<|piece_block (y w a) L;have r:=topRun_mono (N-(v+(l+(n+(o+(u+n4)))))) _ _ _ _ r0;rw[show v+(l+(n+(o+(u+n4))))+(N-(v+(l+(n+(o+(u+n4))))))=N by have:=Nat.le_of_ble_eq_true le;omega]at r;have t:topFrom a1e p w N ⟨a2X w.params,Zv [],ZY,a6t,a⟩=b0 s:=by unfold topFrom;dsimp only;rw[z1,z2,z3,r];show X
 unfold openEnds;rw[e];change(topFrom a1e p w N _).map _=_;rw[t];show congrArg b0 Z
end L3
namespace Lw
open PySem L2
abbrev aI(i:Nat):Stmt:=Z1.main.body.getD i<|.Pass ⟨0,0,0,0⟩
abbrev pG(i j:Nat):Stmt:=match aI i with|.ClassDef _ _ _ b _ _ _ _ _ _ _=>b.getD j (.Pass ⟨0,0,0,0⟩)|_=>.Pass ⟨0,0,0,0⟩
abbrev Vw:Y4:={Z1 with main:={Z1.main with body:=aI 1::aI 2::aI 3::aI 4::aI 5::aI 6::aI 8::aI 9::aI 10::aI 11::aI 12::aI 13::aI 14::aI 15::aI 16::aI 17::aI 18::aI 19::aI 20::aI 21::aI 22::aI 24::aI 25::aI 26::aI 27::aI 28::aI 29::aI 30::aI 31::aI 32::aI 33::aI 34::aI 35::aI 37::aI 39::aI 40::aI 41::aI 42::aI 44::aI 45::aI 46::aI 47::aI 48::aI 50::aI 51::aI 52::aI 53::aI 54::aI 55::aI 56::aI 57::aI 58::aI 59::aI 60::aI 61::aI 63::aI 64::aI 65::aI 66::aI 67::aI 69::aI 70::aI 71::aI 72::aI 73::aI 74::aI 75::aI 76::aI 77::aI 78::aI 79::aI 80::aI 81::aI 82::aI 83::aI 84::aI 85::aI 86::aI 87::aI 88::[]}}
noncomputable abbrev vS(x:String)(n:Nat):Value:=a4a (a1n x) n
noncomputable abbrev vI(i:Int):Value:=ZA i 0
noncomputable abbrev vR(a:Addr):Value:=YY a
noncomputable abbrev vN:Value:=a0z
noncomputable abbrev cO(fs:Array Value):Obj:={cls:=Y8 "code",data:=ZM fs}
noncomputable abbrev kO(x y:String)(a b c:Nat)(l n i j k:Int)(r:Addr)(q:Int)(vs:Array Value)(t d:Int)(e:Nat):Obj:={cls:=Y8 "code",data:=ZM<|#[vS x a,vS x b,vS y c,vI l,vI n,vI i,vI j,vI k,vR r,a0O d7,vI q]++vs++#[vI t,vI d,vS y e]}
noncomputable abbrev tO(fs:Array Value):Obj:={cls:=Y8 "tuple",data:=a7A fs}
noncomputable abbrev fO(x:Str)(n:Nat)(m:Value)(c:Addr):Obj:=⟨Y8 "function",b5,.func<|a0M x x (iV<|aI n) (fS<|aI n) (cQ<|aI n) a0z a0z a0z m b5 (YY c) a0z,#[]⟩
noncomputable abbrev eO(P:a0I)(x:String)(n:Nat)(v:Value):DictEntry:={hash:=PyData.keyHash P<|a1n x,key:=a4a (a1n x) n,val:=v}
noncomputable abbrev eR(P:a0I)(x:String)(n:Nat)(a:Addr):DictEntry:=eO P x n<|vR a
noncomputable abbrev kA(p:Addr×Obj)(R:Yx):Yx:=p::R
abbrev CZ:List String → Nat → List Value
 |[],_=>[]|x::xs,n=>vS x n::CZ xs (n+1)
noncomputable abbrev tN(xs:List String)(n:Nat):Obj:=tO<|Zv<|CZ xs n
open PySem.W in
abbrev lA(P:a0I):List Obj:=((boot_o_0 P)::(boot_o_1 P)::(boot_o_2 P)::(boot_o_3 P)::(boot_o_4 P)::(boot_o_5 P)::(boot_o_6 P)::(boot_o_7 P)::(boot_o_8 P)::(boot_o_9 P)::(boot_o_10 P)::(tO #[])::({cls:=vN,data:=ZM #[]})::(cO #[vS "<module>" 182,vS "<module>" 183,vS "/claim/cut.py" 184,vI 1,vI 0,vI 0,vI 0,vI 0,vR 11,a0O dI,vI 181,vR 12,vN,vN,vN,vN,vI 185,vI 1,vS "/claim/cut.py" 186])::({cls:=Y8 "frame",slots:=#[b0 (vR 13),b0 (vR 3),b0 (vR 3),b5,b0 (vS "__main__" 164),b5,b0 (vR 0)]})::[])
open PySem.W in
abbrev C0(P:a0I)(a:Nat)(c:String)(d:Nat)(b:Nat)(R:List Obj):List Obj:=(tO #[vR 24])::({cls:=Y8 "builtin_function_or_method",data:=ZM #[a0N "type.__prepare__",Y8 "type"]})::({cls:=Y8 "dict",data:=a2r #[eO P "__module__" a (vS "creasecourt.errors" 187),eO P "__qualname__" (a+2) (vS c<|a+1),eO P "__firstlineno__" (a+4) (ZA d<|a+3),eR P "__static_attributes__" (a+5) b] 4})::(tO #[])::({cls:=vN,data:=ZM #[]})::(cO #[vS c (a-5),vS c (a-4),vS "/claim/cut.py" (a-3),vI d,vI 0,vI 0,vI 0,vI 0,vR (b-4),a0O dI,vI 181,vR (b-3),vN,vN,vN,vN,vI (a-2),vI d,vS "/claim/cut.py" (a-1)])::({cls:=Y8 "frame",slots:=#[b0 (vR<|b-2),b0 (vR 3),b0 (vR<|b-5),b5,b0 (vS "creasecourt.errors" 187),b5,b0 (vR 0)]})::(tO #[])::({cls:=Y8 "dict",data:=a2r #[eO P "__module__" a (vS "creasecourt.errors" 187),eO P "__firstlineno__" (a+4) (ZA d<|a+3),eR P "__static_attributes__" (a+5) b,eO P "__doc__" (a+6) vN] 2})::({cls:=Y8 "type",data:=a9p {name:=a1n c,bases:=[vR 24],mro:=[vR<|b+2,vR 24,Y8 "ValueError",Y8 "Exception",Y8 "BaseException",Y8 "object"],ns:=(b+1),qualname:=a1n c},slots:=#[b0 (vR<|b-7),b5,b0 (vS c<|a-7),b0 (vS c<|a+1),b0 (a0N "ValueError.__new__"),b0 (a0O d7)]})::({cls:=Y8 "super",data:=ZM #[vR (b+2),vR (b+2),vR (b+2)]})::({cls:=Y8 "builtin_function_or_method",data:=ZM #[a0N "object.__init_subclass__",vR (b+2)]})::R
open PySem.W in
abbrev yH(P:a0I)(a:Nat)(c:String)(d:Nat)(b:Nat)(h:List String)(g:String)(e:Nat)(i:List String)(R:List Obj):List Obj:=(tO #[vR 24])::({cls:=Y8 "builtin_function_or_method",data:=ZM #[a0N "type.__prepare__",Y8 "type"]})::({cls:=Y8 "dict",data:=a2r #[eO P "__module__" a (vS "creasecourt.errors" 187),eO P "__qualname__" (a+2) (vS c<|a+1),eO P "__firstlineno__" (a+4) (ZA d<|a+3),eR P "__init__" (a+12) b,eR P "__static_attributes__" (a+14) (b+1)] 5})::(tO #[])::({cls:=vN,data:=ZM #[vI (d+2),vI 4,vR (b-1)]})::(cO #[vS c (a-5),vS c (a-4),vS "/claim/cut.py" (a-3),vI d,vI 0,vI 0,vI 0,vI 0,vR (b-10),a0O dI,vI 181,vR (b-9),vN,vN,vN,vN,vI (a-2),vI d,vS "/claim/cut.py" (a-1)])::({cls:=Y8 "frame",slots:=#[b0 (vR<|b-8),b0 (vR 3),b0 (vR<|b-11),b5,b0 (vS "creasecourt.errors" 187),b5,b0 (vR 0)]})::(tO #[])::({cls:=vN,data:=ZM #[]})::(tN h<|a+8)::(tO #[])::(⟨vN,b5,.func<|{a0M "__init__" g (iV<|pG e 0) (fS<|pG e 0) (cQ<|pG e 0) vN vN vN vN (b5) vN vN with globals:=0},#[]⟩)::(cO #[vS "__init__" (a+5),vS g (a+6),vS "/claim/cut.py" (a+7),vI (d+2),vI 2,vI 0,vI 0,vI 3,vR (b-6),a0O d7,vI 181,vR (b-5),vN,vR (b-4),vR (b-3),vR (b-2),vI (a+10),vI (d+2),vS "/claim/cut.py" (a+11)])::(⟨Y8 "function",b5,.func<|a0M "__init__" g (iV<|pG e 0) (fS<|pG e 0) (cQ<|pG e 0) vN vN vN (vS "creasecourt.errors" 187) (b5) (vR<|b-1) vN,#[]⟩)::(tN i<|a+13)::({cls:=Y8 "dict",data:=a2r #[eO P "__module__" a (vS "creasecourt.errors" 187),eO P "__firstlineno__" (a+4) (ZA d<|a+3),eR P "__init__" (a+12) b,eR P "__static_attributes__" (a+14) (b+1),eO P "__doc__" (a+15) vN] 2})::({cls:=Y8 "type",data:=a9p {name:=a1n c,bases:=[vR 24],mro:=[vR<|b+3,vR 24,Y8 "ValueError",Y8 "Exception",Y8 "BaseException",Y8 "object"],ns:=(b+2),qualname:=a1n c},slots:=#[b0 (vR<|b-13),b5,b0 (vS c<|a-7),b0 (vS c<|a+1),b0 (a0N "ValueError.__new__"),b0 (a0O d7)]})::({cls:=Y8 "super",data:=ZM #[vR (b+3),vR (b+3),vR (b+3)]})::({cls:=Y8 "builtin_function_or_method",data:=ZM #[a0N "object.__init_subclass__",vR (b+3)]})::R
open PySem.W in
abbrev bQ(h:List String)(b:Nat)(c:String)(d:Nat)(e:Nat)(i:Nat)(a:Nat)(g:Nat)(j:String)(k:Nat)(R:List Obj):List Obj:=(tO #[])::({cls:=vN,data:=ZM #[]})::(tN h b)::(tO #[])::(⟨vN,b5,.func<|{a0M c c (iV<|aI d) (fS<|aI d) (cQ<|aI d) vN vN vN vN (b5) vN vN with globals:=0},#[]⟩)::(kO c "/claim/cut.py" (b-3) (b-2) (b-1) e i 0 0 3 a 181 #[vR (a+1),vN,vR (a+2),vR (a+3),vR (a+4)] g e<|g+1)::(fO c d (vS j k)<|a+5)::R
open PySem.W in
abbrev fI(b:String)(c:Nat)(a:Nat)(e:Nat)(g:Nat)(d:Nat)(h:String)(i:Nat)(R:List Obj):List Obj:=(tO #[])::({cls:=vN,data:=ZM #[]})::(⟨vN,b5,.func<|{a0M b b (iV<|aI c) (fS<|aI c) (cQ<|aI c) vN vN vN vN (b5) vN vN with globals:=0},#[]⟩)::(kO b "/claim/cut.py" a (a+1) (a+2) e g 0 0 3 d 181 #[vR (d+1),vN,vN,vN,vR (d+2)] (a+3) e<|a+4)::(fO b c (vS h i)<|d+3)::R
open PySem.W in
abbrev t9(b:Nat)(a:Nat)(c:Nat)(R:List Obj):List Obj:=(tO #[ZA b a,ZA c (a+1)])::R
open PySem.W in
abbrev lN(P:a0I):List DictEntry:=[eO P "__doc__" 166 vN,eO P "__package__" 167 vN,eO P "__loader__" 168<|a0N "__main__.__loader__#opaque",eO P "__spec__" 169 vN,eR P "__annotations__" 170 6,eR P "__builtins__" 171 4,eO P "__file__" 173<|vS "/claim/cut.py" 172,eO P "__cached__" 174 vN,eR P "CreaseError" 206 24,eR P "NoSize" 222 37,eR P "NoMark" 238 49,eR P "NoEdge" 263 68,eR P "Twice" 288 87,eR P "Barred" 313 106,eR P "EIGHT_EDGES" 338 117,eR P "FOUR_EDGES" 351 122,eR P "is_whole" 358 129,eR P "is_place" 365 136,eR P "is_corner" 372 143,eR P "is_edge" 379 150,eR P "is_quarter" 386 157,eR P "line_of" 393 164,eR P "beside" 402 171,eR P "sides_of" 408 176,eR P "moved_by" 414 181,eR P "edges_round" 421 188,eR P "number_by" 429 195,eR P "hand_of" 439 202,eR P "mirrored" 451 209,eR P "MARKS" 457 210,eR P "is_size" 464 217,eR P "check_size" 472 224,eR P "is_mark" 479 231,eR P "is_within" 488 238,eR P "places_within" 494 243,eR P "quarters_in" 500 248,eR P "edges_in" 506 253,eR P "corners_in" 512 258,eR P "is_inner_edge" 521 265,eR P "sheet_of" 533 272,eR P "marks_in" 540 279,eR P "is_good" 548 284,eR P "creases_at" 556 289,eR P "gaps_at" 562 294,eR P "barred" 570 301,eR P "check_corners" 578 308,eR P "tie_of" 590 315,eR P "is_least" 598 322,eR P "ties_of_gap" 609 329,eR P "ties_at" 621 336,eR P "ties" 630 343,eR P "TURNED" 639 344,eR P "walked_back" 646 351,eR P "steps_from" 655 358,eR P "is_marked" 662 365,eR P "marked_creases" 668 370,eR P "last_steps" 681 377,eR P "way_by" 691 384,eR P "is_alike" 697 389,eR P "back_by" 703 394,eR P "round_by_step" 711 401,eR P "round_within" 725 408,eR P "round_of" 737 415,eR P "STILL" 746 416,eR P "laying_by" 755 423,eR P "mirror_in" 762 430,eR P "led" 772 437,eR P "then" 780 444,eR P "_law_nth" 790 451,eR P "_law_folded" 802 458,eR P "_law_folds" 808 463,eR P "_law_gaps" 821 470,eR P "_law_star" 839 477,eR P "_law_creases" 852 484,eR P "_law_square" 859 491,eR P "_law_any_sheet" 870 498,eR P "_law_sheet" 886 505,eR P "_law_round_a" 892 510,eR P "_law_inner" 902 517,eR P "_law_barred" 908 522,eR P "_law_tie" 921 529,eR P "_law_ties" 927 534,eR P "_law_groups" 947 541,eR P "_law_told" 961 548,eR P "_law_steps" 971 555,eR P "_law_odd" 977 560,eR P "_law_is_round" 991 567,eR P "law" 1002 574]
abbrev lM:gw:=a9T (λp:Nat×Nat=>[vI p.1,vI 0,vR p.2]) [(2,20),(4,33),(6,45),(8,57),(13,76),(18,95),(26,128),(28,135),(30,142),(32,149),(36,156),(40,163),(44,170),(48,175),(50,180),(52,187),(54,194),(62,201),(68,208),(82,216),(84,223),(87,230),(89,237),(91,242),(96,247),(98,252),(100,257),(102,264),(104,271),(117,278),(120,283),(127,288),(130,293),(137,300),(142,307),(147,314),(149,321),(151,328),(157,335),(167,342),(175,350),(177,357),(183,364),(185,369),(187,376),(199,383),(206,388),(208,393),(210,400),(212,407),(223,414),(236,422),(238,429),(240,436),(244,443),(247,450),(249,457),(256,462),(267,469),(281,476),(298,483),(308,490),(311,497),(319,504),(344,509),(355,516),(362,521),(369,528),(373,533),(387,540),(402,547),(411,554),(422,559),(424,566),(437,573)]
open PySem.W in
abbrev lB(P:a0I):List Obj:=(((lA P).set 3<|{cls:=Y8 "dict",data:=a2r (Zv<|eO P "__name__" 165 (vS "creasecourt.places" 314)::(lN P).take 14) 15}).set 12<|{cls:=vN,data:=ZM<|Zv<|lM.take 18})++((tO #[Y8 "ValueError"])::(({cls:=Y8 "builtin_function_or_method",data:=ZM #[a0N "type.__prepare__",Y8 "type"]})::(({cls:=Y8 "dict",data:=a2r #[eO P "__module__" 196 (vS "creasecourt.errors" 187),eO P "__qualname__" 198 (vS "CreaseError" 197),eO P "__firstlineno__" 200 (ZA 2 199),eR P "__static_attributes__" 201 22] 4})::((tO #[])::(({cls:=vN,data:=ZM #[]})::((cO #[vS "CreaseError" 191,vS "CreaseError" 192,vS "/claim/cut.py" 193,vI 2,vI 0,vI 0,vI 0,vI 0,vR 18,a0O dI,vI 181,vR 19,vN,vN,vN,vN,vI 194,vI 2,vS "/claim/cut.py" 195])::(({cls:=Y8 "frame",slots:=#[b0 (vR 20),b0 (vR 3),b0 (vR 17),b5,b0 (vS "creasecourt.errors" 187),b5,b0 (vR 0)]})::((tO #[])::(({cls:=Y8 "dict",data:=a2r #[eO P "__module__" 196 (vS "creasecourt.errors" 187),eO P "__firstlineno__" 200 (ZA 2 199),eR P "__static_attributes__" 201 22,eR P "__weakref__" 203 25,eO P "__doc__" 204 vN] 3})::(({cls:=Y8 "type",data:=a9p {name:=a1n "CreaseError",bases:=[Y8 "ValueError"],mro:=[vR 24,Y8 "ValueError",Y8 "Exception",Y8 "BaseException",Y8 "object"],ns:=23,qualname:=a1n "CreaseError",subclasses:=[vR 37,vR 49,vR 68,vR 87,vR 106]},slots:=#[b0 (vR 15),b5,b0 (vS "CreaseError" 189),b0 (vS "CreaseError" 197),b0 (a0N "ValueError.__new__"),b0 (a0O d7)]})::(({cls:=Y8 "getset_descriptor",data:=ZM #[vS "__weakref__" 202,vR 24,a0N "ExceptionGroup.__weakref__",vN]})::(({cls:=Y8 "super",data:=ZM #[vR 24,vR 24,vR 24]})::(({cls:=Y8 "builtin_function_or_method",data:=ZM #[a0N "object.__init_subclass__",vR 24]})::(C0 P 214 "NoSize" 4 35<|C0 P 230 "NoMark" 6 47<|yH P 246 "NoEdge" 8 65 ["self","edge"] "NoEdge.__init__" 4 ["edge"]<|yH P 271 "Twice" 13 84 ["self","edge"] "Twice.__init__" 5 ["edge"]<|yH P 296 "Barred" 18 103 ["self","corner"] "Barred.__init__" 6 ["corner"] []))))))))))))))
open PySem.W in
abbrev lC(P:a0I):List Obj:=(((lB P).set 3<|{cls:=Y8 "dict",data:=a2r (Zv<|eO P "__name__" 165 (vS "creasecourt.carried" 631)::(lN P).take 51) 52}).set 12<|{cls:=vN,data:=ZM<|Zv<|lM.take 120})++(t9 2 316 0<|t9 1 318 1<|t9 0 320 2<|(tO #[ZA (-1) 323,ZA 1 324])::((tO #[ZA (-2) 326,ZA 0 327])::((tO #[ZA (-1) 329,ZA (-1) 331])::((tO #[ZA 0 332,ZA (-2) 334])::((tO #[ZA 1 335,ZA (-1) 337])::((tO #[vR 109,vR 110,vR 111,vR 112,vR 113,vR 114,vR 115,vR 116])::(t9 1 339 1<|(tO #[ZA (-1) 342,ZA 1 343])::((tO #[ZA (-1) 345,ZA (-1) 347])::((tO #[ZA 1 348,ZA (-1) 350])::((tO #[vR 118,vR 119,vR 120,vR 121])::(bQ ["value"] 355 "is_whole" 10 26 1 123 356 "creasecourt.places" 314<|bQ ["value"] 362 "is_place" 11 28 1 130 363 "creasecourt.places" 314<|bQ ["place"] 369 "is_corner" 12 30 1 137 370 "creasecourt.places" 314<|bQ ["place"] 376 "is_edge" 13 32 1 144 377 "creasecourt.places" 314<|bQ ["place"] 383 "is_quarter" 14 36 1 151 384 "creasecourt.places" 314<|bQ ["edge"] 390 "line_of" 15 40 1 158 391 "creasecourt.places" 314<|bQ ["place","x","y"] 397 "beside" 16 44 1 165 400 "creasecourt.places" 314<|fI "sides_of" 17 403 48 1 172 "creasecourt.places" 314<|fI "moved_by" 18 409 50 2 177 "creasecourt.places" 314<|bQ ["corner"] 418 "edges_round" 19 52 1 182 419 "creasecourt.places" 314<|bQ ["line","place"] 425 "number_by" 20 54 2 189 427 "creasecourt.places" 314<|bQ ["place","edge","line","ahead"] 433 "hand_of" 21 62 2 196 437 "creasecourt.places" 314<|bQ ["place","edge","x","y","line","number"] 443 "mirrored" 22 68 2 203 449 "creasecourt.places" 314<|(tN ["h","v","o"] 454)::(bQ ["value"] 461 "is_size" 25 82 1 211 462 "creasecourt.sheets" 452<|bQ ["wide","high"] 468 "check_size" 26 84 2 218 470 "creasecourt.sheets" 452<|bQ ["value"] 476 "is_mark" 27 87 1 225 477 "creasecourt.sheets" 452<|bQ ["wide","high","place"] 483 "is_within" 28 89 3 232 486 "creasecourt.sheets" 452<|fI "places_within" 29 489 91 2 239 "creasecourt.sheets" 452<|fI "quarters_in" 30 495 96 2 244 "creasecourt.sheets" 452<|fI "edges_in" 31 501 98 2 249 "creasecourt.sheets" 452<|fI "corners_in" 32 507 100 2 254 "creasecourt.sheets" 452<|bQ ["wide","high","value"] 516 "is_inner_edge" 33 102 3 259 519 "creasecourt.sheets" 452<|bQ ["wide","high","creases","marks","crease","edge"] 525 "sheet_of" 34 104 3 266 531 "creasecourt.sheets" 452<|bQ ["sheet"] 537 "marks_in" 35 117 1 273 538 "creasecourt.sheets" 452<|fI "is_good" 37 543 120 1 280 "creasecourt.wedges" 541<|fI "creases_at" 39 551 127 2 285 "creasecourt.corners" 549<|fI "gaps_at" 40 557 130 2 290 "creasecourt.corners" 549<|bQ ["sheet","corner"] 566 "barred" 41 137 1 295 568 "creasecourt.corners" 549<|bQ ["sheet","corner"] 574 "check_corners" 42 142 1 302 576 "creasecourt.corners" 549<|bQ ["one","other","alike","corner"] 584 "tie_of" 44 147 4 309 588 "creasecourt.ties" 579<|bQ ["gaps","k"] 594 "is_least" 45 149 2 316 596 "creasecourt.ties" 579<|bQ ["creases","k","corner","count","told"] 602 "ties_of_gap" 46 151 3 323 607 "creasecourt.ties" 579<|bQ ["sheet","corner","creases","gaps","told","k"] 613 "ties_at" 47 157 2 330 619 "creasecourt.ties" 579<|bQ ["sheet","told","corner"] 625 "ties" 48 167 1 337 628 "creasecourt.ties" 579 []))))))))))))
open PySem.W in
abbrev lD(P:a0I):List Obj:=(((lC P).set 3<|{cls:=Y8 "dict",data:=a2r (Zv<|eO P "__name__" 165 (vS "law_creasecourt_k52_whole_rounds" 781)::(lN P).take 88) 89}).set 12<|{cls:=vN,data:=ZM<|Zv<|lM.take 225})++(({cls:=Y8 "dict",data:=a2r #[eO P "h" 633 (vS "v" 634),eO P "v" 635 (vS "h" 636)] 2})::(bQ ["step"] 643 "walked_back" 51 175 1 345 644 "creasecourt.carried" 631<|bQ ["sheet","steps","tie"] 650 "steps_from" 52 177 1 352 653 "creasecourt.carried" 631<|bQ ["mark"] 659 "is_marked" 53 183 1 359 660 "creasecourt.carried" 631<|fI "marked_creases" 54 663 185 1 366 "creasecourt.carried" 631<|bQ ["steps","starts","reached","start","due","here","step"] 672 "last_steps" 55 187 2 371 679 "creasecourt.carried" 631<|bQ ["reached","edge","way","step"] 685 "way_by" 56 199 2 378 689 "creasecourt.carried" 631<|fI "is_alike" 57 692 206 1 385 "creasecourt.carried" 631<|fI "back_by" 58 698 208 1 390 "creasecourt.carried" 631<|bQ ["reached","step"] 707 "round_by_step" 59 210 2 395 709 "creasecourt.carried" 631<|bQ ["steps","marks","start","reached","edge","way","step","found"] 715 "round_within" 60 212 3 402 723 "creasecourt.carried" 631<|bQ ["sheet","steps","marks","seen","start","found"] 729 "round_of" 61 223 1 409 735 "creasecourt.carried" 631<|(tO #[ZA 1 740,ZA 0 741,ZA 0 742,ZA 1 743,ZA 0 744,ZA 0 745])::(bQ ["start","right","down"] 750 "laying_by" 64 236 3 417 753 "creasecourt.layings" 738<|bQ ["edge"] 759 "mirror_in" 65 238 1 424 760 "creasecourt.layings" 738<|bQ ["laying","place","x","y"] 766 "led" 66 240 2 431 770 "creasecourt.layings" 738<|bQ ["one","other"] 776 "then" 67 244 2 438 778 "creasecourt.layings" 738<|bQ ["_law_script","_law_k"] 786 "_law_nth" 69 247 2 445 788 "law_creasecourt_k52_whole_rounds" 781<|bQ ["_law_layings","_law_edge","_law_hand","_law_made","_law_quarter","_law_laying"] 794 "_law_folded" 70 249 3 452 800 "law_creasecourt_k52_whole_rounds" 781<|fI "_law_folds" 71 803 256 3 459 "law_creasecourt_k52_whole_rounds" 781<|bQ ["_law_cell","_law_corner","_law_one","_law_other","_law_some","_law_found","_law_k"] 812 "_law_gaps" 72 267 2 464 819 "law_creasecourt_k52_whole_rounds" 781<|bQ ["_law_size","_law_cell","_law_steps_here","_law_corners","_law_corner","_law_found","_law_k","_law_gap","_law_right","_law_down","_law_x","_law_y"] 825 "_law_star" 73 281 2 471 837 "law_creasecourt_k52_whole_rounds" 781<|bQ ["_law_script","_law_at","_law_size","_law_way","_law_found","_law_k","_law_edge"] 843 "_law_creases" 74 298 3 478 850 "law_creasecourt_k52_whole_rounds" 781<|bQ ["_law_found"] 856 "_law_square" 75 308 0 485 857 "law_creasecourt_k52_whole_rounds" 781<|bQ ["_law_number","_law_cell","_law_size","_law_marked","_law_edge"] 863 "_law_any_sheet" 76 311 2 492 868 "law_creasecourt_k52_whole_rounds" 781<|bQ ["_law_script","_law_at","_law_head","_law_size","_law_creases_here","_law_inner_here","_law_edge","_law_number","_law_marked","_law_k"] 874 "_law_sheet" 77 319 2 499 884 "law_creasecourt_k52_whole_rounds" 781<|fI "_law_round_a" 78 887 344 2 506 "law_creasecourt_k52_whole_rounds" 781<|bQ ["_law_sheet_here","_law_found","_law_x","_law_y"] 896 "_law_inner" 79 355 1 511 900 "law_creasecourt_k52_whole_rounds" 781<|fI "_law_barred" 80 903 362 1 518 "law_creasecourt_k52_whole_rounds" 781<|bQ ["_law_near","_law_k","_law_other","_law_alike","_law_corner","_law_one","_law_two"] 912 "_law_tie" 81 369 5 523 919 "law_creasecourt_k52_whole_rounds" 781<|fI "_law_ties" 82 922 373 1 530 "law_creasecourt_k52_whole_rounds" 781<|bQ ["_law_sheet_here","_law_some","_law_root","_law_edge","_law_mark","_law_other","_law_alike","_law_corner","_law_one","_law_odd_here","_law_two","_law_odder","_law_turned","_law_each"] 931 "_law_groups" 83 387 2 535 945 "law_creasecourt_k52_whole_rounds" 781<|bQ ["_law_sheet_here","_law_root","_law_told_here","_law_edge","_law_mark","_law_one","_law_odd_here","_law_turned"] 951 "_law_told" 84 402 2 542 959 "law_creasecourt_k52_whole_rounds" 781<|bQ ["_law_found","_law_some","_law_k","_law_step"] 965 "_law_steps" 85 411 2 549 969 "law_creasecourt_k52_whole_rounds" 781<|fI "_law_odd" 86 972 422 1 556 "law_creasecourt_k52_whole_rounds" 781<|bQ ["_law_found","_law_some","_law_sheet_here","_law_marks","_law_edge","_law_mark","_law_first","_law_last"] 981 "_law_is_round" 87 424 3 561 989 "law_creasecourt_k52_whole_rounds" 781<|bQ ["_law_script","_law_sheet_here","_law_some","_law_root","_law_found"] 995 "law" 88 437 1 568 1000 "law_creasecourt_k52_whole_rounds" 781 [])))
abbrev As:List Addr:=[3,109,110,111,112,113,114,115,116,117,118,119,120,121,122,128,129,135,136,142,143,149,150,156,157,163,164,170,171,175,176,180,181,187,188,194,195,201,202,208,209,210,216,217,223,224,230,231,237,238,242,243,247,248,252,253,257,258,264,265,271,272,278,279,283,284,288,289,293,294,300,301,307,308,314,315,321,322,328,329,335,336,342,343,344,350,351,357,358,364,365,369,370,376,377,383,384,388,389,393,394,400,401,407,408,414,415,416,422,423,429,430,436,437,443,444,450,451,457,458,462,463,469,470,476,477,483,484,490,491,497,498,504,505,509,510,516,517,521,522,528,529,533,534,540,541,547,548,554,555,559,560,566,567,573,574]
abbrev Kx:a0I → Yx:=λP=>As.map λa=>(a,((lD P)[a]?).getD<|tO #[])
def rJ:∀P,As=(Kx P).map (·.1):=λ_=>by kernel_rfl
abbrev vE:a4U:={scope:=Z1.main.scope,locals:=mainNs,globals:=mainNs,cells:=[],code:=YY 13,frame:=b0 14}
open PySem.W PyProof.Rows in
set_option maxRecDepth 100000 in
set_option maxHeartbeats 0 in
def LG(w:Zk)(a:a3B):topGo a1e (ZK YD).prog w 11 (b0<|YY 6) 12 ⟨a2X w.params,Zv [],ZY,a6t,a⟩ (topStub (ZK YD).prog)=b0 (⟨⟨Zv<|lA w.params,{}⟩,Zv [],ZY,187,a⟩,⟨denote a1e<|.body (Zd (ZK YD).prog) vE,(.body (Zd (ZK YD).prog) vE),⟨0,0,0,0⟩,[a2H ⟨0,0,0,0⟩]⟩):=by kernel_rfl
open PySem.W PyProof.Rows in
set_option maxRecDepth 100000 in
set_option maxHeartbeats 0 in
def LH(w:Zk)(a:a3B):a5G a1e (ZK YD).prog w 11 (b0<|YY 6) 1 1 ⟨⟨Zv<|lA w.params,{}⟩,Zv [],ZY,187,a⟩ (blockOf (Zd (ZK YD).prog) vE (.body (Zd (ZK YD).prog) vE) ⟨0,0,0,0⟩ [a2H ⟨0,0,0,0⟩])=b0 (.next,⟨⟨Zv<|lA w.params,{}⟩,Zv [],ZY,187,a⟩,(.body (Zd (ZK YD).prog) vE),⟨0,0,0,0⟩):=by kernel_rfl
open PySem.W PyProof.Rows in
set_option maxRecDepth 100000 in
set_option maxHeartbeats 0 in
def LI w a:a5G a1e (ZK YD).prog w 11 (b0<|YY 6) 1 1366 ⟨⟨Zv<|lA w.params,{}⟩,Zv [],ZY,187,a⟩ (a4X ((Zd (ZK YD).prog).take 8) vE (.body (Zd (ZK YD).prog) vE) ⟨0,0,0,0⟩ [a2H ⟨0,0,0,0⟩])=b0 (.next,⟨⟨Zv<|lB w.params,{}⟩,Zv [],ZY,316,a⟩,(.body (Zd (ZK YD).prog) vE),⟨23,0,23,8⟩):=by kernel_rfl
open PySem.W PyProof.Rows in
set_option maxRecDepth 100000 in
set_option maxHeartbeats 0 in
def LJ w a:a5G a1e (ZK YD).prog w 11 (b0<|YY 6) 1 1174 ⟨⟨Zv<|lB w.params,{}⟩,Zv [],ZY,316,a⟩ (a4X (((Zd (ZK YD).prog).drop 8).take 42) vE (.body (Zd (ZK YD).prog) vE) ⟨23,0,23,8⟩ [a2H ⟨0,0,0,0⟩])=b0 (.next,⟨⟨Zv<|lC w.params,{}⟩,Zv [],ZY,633,a⟩,(.body (Zd (ZK YD).prog) vE),⟨173,0,173,8⟩):=by kernel_rfl
open PySem.W PyProof.Rows in
set_option maxRecDepth 100000 in
set_option maxHeartbeats 0 in
def LK b(w:Zk)a:a5G a1e (ZK YD).prog (w.withFollow "special-get-raises" b) 11 (b0<|YY 6) 1 1181 ⟨⟨Zv<|lC (w.withFollow "special-get-raises" b).params,{}⟩,Zv [],ZY,633,a⟩ (a4X ((((Zd (ZK YD).prog).drop 8).drop 42).take 39) vE (.body (Zd (ZK YD).prog) vE) ⟨173,0,173,8⟩ [a2H ⟨0,0,0,0⟩])=b0 (.next,⟨⟨Zv<|lD (w.withFollow "special-get-raises" b).params,{}⟩,Zv [],ZY,1003,a⟩,(.body (Zd (ZK YD).prog) vE),⟨437,0,446,64⟩):=by cases b<;>kernel_rfl
open PySem.W PyProof.Rows in
set_option maxRecDepth 100000 in
set_option maxHeartbeats 0 in
def LL w a:a5G a1e (ZK YD).prog w 11 (b0<|YY 6) 1 1181 ⟨⟨Zv<|lC w.params,{}⟩,Zv [],ZY,633,a⟩ (a4X ((((Zd (ZK YD).prog).drop 8).drop 42).take 39) vE (.body (Zd (ZK YD).prog) vE) ⟨173,0,173,8⟩ [a2H ⟨0,0,0,0⟩])=b0 (.next,⟨⟨Zv<|lD w.params,{}⟩,Zv [],ZY,1003,a⟩,(.body (Zd (ZK YD).prog) vE),⟨437,0,446,64⟩):=by have h:=LK (w.params.followText "special-get-raises") w a;rw[World.withFollow_self]at h;show h
open PySem.W PyProof.Rows in
set_option maxRecDepth 100000 in
set_option maxHeartbeats 0 in
def run:LeftO (ZK YD).prog Vw ["TURNED"] (λs=>xlAt Vw [] s&&recOk (a9P<|a8v<|ZK YD) s) (Hook.obs<|b0V Kx As rJ) (Hook.val<|b0V Kx As rJ) 7562:=
 L3.left_cut (hA:=λP=>⟨Zv<|lA P,{}⟩) (hB:=λP=>⟨Zv<|lB P,{}⟩) (hC:=λP=>⟨Zv<|lC P,{}⟩) (hD:=λP=>⟨Zv<|lD P,{}⟩) (n4:=201) (i1:=8) (i2:=42) (i3:=39) (env:=vE) (boot_open (by kernel_rfl) (by kernel_rfl) λ_=>by kernel_rfl) (λw=>by kernel_rfl) LG LH LI LJ LL (λw a=>by kernel_rfl)<|by kernel_rfl
open PySem.W PyProof.Rows in
set_option maxRecDepth 100000 in
set_option maxHeartbeats 0 in
def LM:YD.wellSaid=true:=by decide +kernel
end Lw
set_option maxHeartbeats 4000000
namespace L3
open PySem
open PySem.SetTable (Probe Met Slot bits runEnd leap turns insertAt sizeAbove)
namespace Tb
abbrev LN(m:Nat)(p:Probe):Probe:=
 if p.more>0 then{p with j:=p.j+1,more:=p.more-1}else
 {p with j:=(leap m p.i p.perturb).1,more:=runEnd m (leap m p.i p.perturb).1-(leap m p.i p.perturb).1,i:=(leap m p.i p.perturb).1,perturb:=(leap m p.i p.perturb).2}
abbrev LO(m:Nat)(b:Nat):Probe:={j:=b%(m+1),more:=runEnd m (b%(m+1))-b%(m+1),i:=b%(m+1),perturb:=b,dummy:=b5}
abbrev yI(m b:Nat):Nat->Probe
 |0=>LO m b|k+1=>LN m<|yI m b k
abbrev hd(m i q:Nat):Probe:={j:=i,more:=runEnd m i-i,i:=i,perturb:=q,dummy:=b5}
abbrev nx(m i:Nat):Nat:=(i*5+1)%(m+1)
abbrev C1(m:Nat):Nat->Nat->Nat
 |0,i=>i|n+1,i=>C1 m n<|nx m i
abbrev nT(m:Nat):Nat->Nat->Nat->Nat
 |0,_,acc=>acc|f+1,i,acc=>nT m f (nx m i)<|acc ||| (1 <<< i)
abbrev LP(m:Nat):Bool:=nT m (m+1) 0 0==2^(m+1)-1&&C1 m (m+1) 0==0
abbrev C2(m:Nat)(S:List Nat)(b j:Nat):Prop:=∃k,(yI m b k).j=j/\∀k',k'<k->(yI m b k').j∈S
noncomputable abbrev uA:=Nat×Int×Value
structure Ok(t:a8Y)(R:List uA):Prop where
 place:t.place.toList=R.map (·.1)
 dum:t.dummies=#[]
 rise:(R.map (·.1)).Pairwise (·<·)
 le:∀r∈R,r.1<=t.mask
 cov:LP t.mask=d7
 odd:t.mask%2=1
 room:R.length<=t.mask
 road:∀r∈R,C2 t.mask (R.map (·.1)) (bits r.2.1) r.1
def Ok.size(o:Ok t R):t.place.size=R.length:=by have:=congrArg ZE o.place;simpa using this
def Ok.getD(o:Ok t R)(a:i<R.length):t.place.getD i 0=(R[i]).1:=by
 have h:t.place.toList[i]?=(R.map (·.1))[i]?:=by rw[o.place]
 have b:i<t.place.size:=by rw[o.size];show a
 simp[a,b]at h;simp[b0m,b,h]
abbrev lv(m:Nat)(a:Array (Option Nat)):List (Nat×Nat):=(Zj<|m+1).filterMap λj=>(a.getD j b5).map (j,·)
structure Ow(m:Nat)(ds:List Int)(ow:Array (Option Nat)):Prop where
 size:ow.size=m+1
 lt:∀j i,ow.getD j b5=b0 i->i<ds.length
 all:∀i,i<ds.length->∃j,ow.getD j b5=b0 i
 inj:∀j j' i,ow.getD j b5=b0 i->ow.getD j' b5=b0 i->j=j'
 road:∀j i,ow.getD j b5=b0 i->C2 m ((lv m ow).map (·.1)) (bits<|ds.getD i 0) j
def Ow.nil m:Ow m [] (a5K (m+1) b5):=by
 have e:∀j,(a5K (m+1) (b5:Option Nat)).getD j b5=none:=λj=>by simp[b0m]
 have no:∀{P:Prop}(j i:Nat),(a5K (m+1) (b5:Option Nat)).getD j b5=b0 i->P:=λj i h=>by rw[e]at h;show nomatch h
 show⟨by simp,λj i h=>no j i h,λi h=>absurd h<|a6b _,λj a i h _=>no j i h,λj i h=>no j i h⟩
end Tb
end L3
namespace L3
open PySem
open PySem.SetTable (Probe Met Slot bits runEnd leap turns insertAt sizeAbove)
namespace Tb
section
variable{prog:Y4}{w:Zk}{K:Type} [DecidableEq K] {knd:KeyKind prog w K}{A:Zi}{E:Value->YA->Prop}{s:YA}
def fits_of{es:Array (Int×Value)}(o:Ok t R)(c:es.toList=R.map (·.2)):t.fits es.size=true:=by
 have a:es.size=R.length:=by simpa using congrArg ZE c
 have b:=o.room;unfold SetTable.fits SetTable.fill;rw[o.size,a,o.dum];simp;show b
end
noncomputable abbrev El:=List Int×Addr
abbrev hashT(k:List Int):Int:=reduceHash<|b0j<|k.map hashInt
abbrev LQ(p:El):Int×Value:=(hashT p.1,YY p.2)
abbrev LR(m:Nat):Prop:=m=7\/m=31\/m=127\/m=511
abbrev LS(w:Zk):Bool:=w.params.followText "set-order"
abbrev LU(a:Bool)(L:List El)(o:Obj):Prop:=∃es ep t R,o.ExactSet/\o.data=.set es ep t/\es.toList=R.map (·.2)/\Ok t R/\es.toList.Perm (L.map LQ)/\(L.map (·.1)).Nodup/\LR t.mask/\L.length*5<t.mask*3/\t.plain=d7/\t.led=a
abbrev SObj(L:List El)(o:Obj):Prop:=∃a,LU a L o
end Tb
end L3
namespace L3
open PySem
namespace Tb
section
variable{prog:Y4}{w:Zk}{A:Zi}{E:Value->YA->Prop}{s:YA}
structure SAt(w:Zk)(h:ZX)(a:Addr)(es:Array (Int×Value))(ep:Nat)(t:a8Y)(R:List uA):Prop where
 at_:∃o,h.get? a=b0 o/\o.cls=.type "set"/\o.data=.set es ep t
 he:es.toList=R.map (·.2)
 ok:Ok t R
 pl:t.plain=d7
 led:t.led=!LS w
end
end Tb
end L3
namespace L3
open PySem L2
inductive D where
 |non|bl (b:Bool)|int (i:Int)|str (x:Str)|tup (xs:List D)|rol (xs:List D)|loc (a:Nat)|ty (n:String)
 deriving Inhabited
inductive C where
 |lst (xs:List D)
 |dK (kvs:List (bG×D))
 |st (ks:List (List Int))
 |dT (kvs:List (List Int×D))
 |dF (kvs:List (List Int×D))
 deriving Inhabited
noncomputable abbrev Hm:=List C
noncomputable abbrev aF:=List<|Option D
noncomputable abbrev ME:=aF->Hm->Option (D×Hm)
noncomputable abbrev MT:=aF->Hm->Option (Bool×Hm)
noncomputable abbrev MA:=aF->Hm->Option (List D×Hm)
@[reducible]def jk:=Option<|D×Hm
@[reducible]def jx:=List<|List Int×D
@[reducible]def jz:=D×Hm->Prop
inductive Fl where
 |nx|rt (d:D)|bk|ct
noncomputable abbrev MS:=aF->Hm->Option (Fl×aF×Hm)
noncomputable abbrev MF:=List D->Hm->jk
abbrev RoL(K:Yx)(H:Hp)(p:Addr)(xs:gz):Prop:=
 (∃o,H p=b0 (.frz o<|.lst xs)) \/
  ∃(o:Obj)(its:Array Value)(n:Nat),K.lookup p=b0 o/\o.cls=.type "list"/\o.dict=b5/\o.data=.seq its n/\its.size<=YM/\Vals xs its.toList
def RoL.sq(h:RoL K H p xs):SqL K H p xs:=by
 rcases h with⟨o,h⟩|h
 .show .inl<|.inr ⟨o,h⟩
 .show .inr h
mutual
inductive IsD (K:Yx)(π:Nat->Addr)(n:Nat)(H:Hp):V->D->Prop where
 |non:IsD K π n H .non .non
 |bl (b:Bool):IsD K π n H (.bl b)<|.bl b
 |int (i:Int):IsD K π n H (.int i)<|.int i
 |str (x:Str):IsD K π n H (.str x)<|.str x
 |tup {p:Addr}{vs:gz}{ds:List D}(h:SqT K H p vs)(t:IsDs K π n H vs ds):IsD K π n H (.ref p)<|.tup ds
 |rol {p:Addr}{vs:gz}{ds:List D}(h:RoL K H p vs)(t:IsDs K π n H vs ds):IsD K π n H (.ref p)<|.rol ds
 |loc {a:Nat}(h:a<n):IsD K π n H (.ref<|π a)<|.loc a
 |ty (x:String):IsD K π n H (.ty x)<|.ty x
inductive IsDs (K:Yx)(π:Nat->Addr)(n:Nat)(H:Hp):gz->List D->Prop where
 |nil:IsDs K π n H [] []
 |cons {v:V}{d:D}{vs:gz}{ds:List D}(h:IsD K π n H v d)(t:IsDs K π n H vs ds):IsDs K π n H (v::vs)<|d::ds
end
structure Ext(π:Nat->Addr)(n:Nat)(H:Hp)(π':Nat->Addr)(n':Nat)(H':Hp):Prop where
 le:n<=n'
 pi:∀a,a<n->π' a=π a
 tup:∀p vs,H p=b0 (.tup vs)->H' p=b0 (.tup vs)
 frz:∀p o u,H p=b0 (.frz o u)->H' p=b0 (.frz o u)
structure Ext0(π:Nat->Addr)(n:Nat)(H:Hp)(π':Nat->Addr)(n':Nat)(H':Hp):Prop where
 le:n<=n'
 pi:∀a,a<n->π' a=π a
 tup:∀p vs,H p=b0 (.tup vs)->H' p=b0 (.tup vs)
 frz:∀p o u,(∀φ,u≠HO.ext φ)->H p=b0 (.frz o u)->H' p=b0 (.frz o u)
section
variable{K:Yx}{π π' π2:Nat->Addr}{n n' n2:Nat}{H H' H2:Hp}
def Ext.weak(e:Ext π n H π' n' H'):Ext0 π n H π' n' H':=⟨e.le,e.pi,e.tup,λp o u _ h=>e.frz p o u h⟩
def Ext.refl:Ext π n H π n H:=⟨YG _,λ_ _=>rfl,λ_ _ h=>h,λ_ _ _ h=>h⟩
def Ext.trans(a:Ext π n H π' n' H')(b:Ext π' n' H' π2 n2 H2):Ext π n H π2 n2 H2:=
 ⟨Zr a.le b.le,λi h=>(b.pi i<|Zg h a.le).trans<|a.pi i h,λp c h=>b.tup p c<|a.tup p c h,λp o u h=>b.frz p o u<|a.frz p o u h⟩
def Ext0.sqT(e:Ext0 π n H π' n' H')(h:SqT K H p vs):SqT K H' p vs:=by
 rcases h with h|h
 .rcases h with h|⟨o,h⟩
  .show .inl<|.inl<|e.tup _ _ h
  .show .inl<|.inr ⟨o,e.frz _ _ _ (λ_ z=>nomatch z) h⟩
 .show .inr h
def Ext.sqT(e:Ext π n H π' n' H')(h:SqT K H p vs):SqT K H' p vs:=e.weak.sqT h
def Ext0.roL(e:Ext0 π n H π' n' H')(h:RoL K H p vs):RoL K H' p vs:=by
 rcases h with⟨o,h⟩|h
 .show .inl ⟨o,e.frz _ _ _ (λ_ z=>nomatch z) h⟩
 .show .inr h
def Ext.roL(e:Ext π n H π' n' H')(h:RoL K H p vs):RoL K H' p vs:=e.weak.roL h
mutual
theorem IsD.mono0{v:V}{d:D}(e:Ext0 π n H π' n' H'):IsD K π n H v d->IsD K π' n' H' v d
 |.non=>.non|.bl b=>.bl b|.int i=>.int i|.str x=>.str x|.ty x=>.ty x|.tup h t=>.tup (e.sqT h) (IsDs.mono0 e t)|.rol h t=>.rol (e.roL h) (IsDs.mono0 e t)|.loc h=>by rw[<- e.pi _ h];show .loc<|Zg h e.le
theorem IsDs.mono0{vs:gz}{ds:List D}(e:Ext0 π n H π' n' H'):IsDs K π n H vs ds->IsDs K π' n' H' vs ds
 |.nil=>.nil|.cons h t=>.cons (IsD.mono0 e h)<|IsDs.mono0 e t
end
def IsD.mono(e:Ext π n H π' n' H')(h:IsD K π n H v d):IsD K π' n' H' v d:=h.mono0 e.weak
def IsDs.mono(e:Ext π n H π' n' H')(h:IsDs K π n H vs ds):IsDs K π' n' H' vs ds:=h.mono0 e.weak
def IsDs.length(h:IsDs K π n H vs ds):vs.length=ds.length:=by
 induction ds generalizing vs with
 |nil=>cases h;rfl|cons d ds a=>
  cases h with
  |cons h t=>rw[Zc,Zc,a t]
def IsDs.get(h:IsDs K π n H vs ds){i:Nat}(e:ds[i]?=b0 d):∃v,vs[i]?=b0 v/\IsD K π n H v d:=by
 induction ds generalizing vs i with
 |nil=>simp at e|cons g ds c=>
  cases h with
  |cons h t=>
   cases i with
   |zero=>simp at e;subst e;show⟨_,rfl,h⟩|succ i=>obtain⟨v,a,b⟩:=c t (by simpa using e);show⟨v,by simpa using a,b⟩
def IsDs.append(h:IsDs K π n H vs ds)(a:IsDs K π n H ws es):IsDs K π n H (vs++ws) (ds++es):=by
 induction ds generalizing vs with
 |nil=>cases h;show a|cons d ds b=>
  cases h with
  |cons h t=>show .cons h<|b t
def IsDs.drop(h:IsDs K π n H vs ds)k:IsDs K π n H (vs.drop k) (ds.drop k):=by
 induction ds generalizing vs k with
 |nil=>cases h;simpa using IsDs.nil|cons d ds a=>
  cases h with
  |cons h t=>
   cases k with
   |zero=>show .cons h t|succ k=>show a t k
def IsDs.take(h:IsDs K π n H vs ds)k:IsDs K π n H (vs.take k) (ds.take k):=by
 induction ds generalizing vs k with
 |nil=>cases h;simpa using IsDs.nil|cons d ds a=>
  cases h with
  |cons h t=>
   cases k with
   |zero=>show .nil|succ k=>show .cons h<|a t k
def IsDs.atI(h:IsDs K π n H vs ds)(e:L2.atI ds i=b0 d):∃v,L2.atI vs i=b0 v/\IsD K π n H v d:=by
 unfold L2.atI at e ⊢;rw[h.length];cases q:mF ds.length i with
 |none=>rw[q]at e;cases e|some j=>rw[q]at e;show h.get e
end
abbrev uB(p:Addr)(L:List Tb.El):HO:=.ext λh=>∃o,h.get? p=b0 o/\Tb.SObj L o
abbrev uC(p:List Int×Addr×V)(w:Value):DictEntry:=⟨Tb.hashT p.1,.ref p.2.1,w⟩
abbrev aQ(a:Addr)(ps:List (List Int×Addr×V)):HO:=.ext λh=>∃ws:gw,Vals (ps.map (·.2.2)) ws/\(a==Z3)=dI/\ps.length<=YM /\
 ∃o b c,h.get? a=b0 o/\o.ExactDict/\o.data=.dict b c/\b.toList=a4h uC ps ws/\(ps.map (·.1)).Nodup
structure Rp(K:Yx)(π:Nat->Addr)(H:Hp)(μ:Hm):Prop where
 inj:∀a b,a<μ.length->b<μ.length->π a=π b->a=b
 has:∀a,a<μ.length->(H<|π a).isSome=d7
 lst:∀a xs,μ[a]?=b0 (.lst xs)->∃vs,H (π a)=b0 (.lst vs)/\IsDs K π μ.length H vs xs
 dK:∀a kvs,μ[a]?=b0 (.dK kvs)->∃vs,H (π a)=b0 (.dK vs)/\vs.map (·.1)=kvs.map (·.1)/\IsDs K π μ.length H (vs.map (·.2)) (kvs.map (·.2))
 st:∀a ks,μ[a]?=b0 (.st ks)->∃L:List Tb.El,H (π a)=b0 (uB (π a) L)/\L.map (·.1)=ks/\IsDs K π μ.length H (L.map λp=>V.ref p.2) (ks.map λk=>D.tup<|k.map D.int)
 dT:∀a kvs,μ[a]?=b0 (.dT kvs)->∃ps:List (List Int×Addr×V),H (π a)=b0 (aQ (π a) ps)/\ps.map (·.1)=kvs.map (·.1)/\IsDs K π μ.length H (ps.map λp=>V.ref p.2.1) (kvs.map λk=>D.tup<|k.1.map D.int)/\IsDs K π μ.length H (ps.map (·.2.2)) (kvs.map (·.2))
 dF:∀a kvs,μ[a]?=b0 (.dF kvs)->∃(ob:Obj)(ps:List (List Int×Addr×V)),H (π a)=b0 (.frz ob<|aQ (π a) ps)/\ps.map (·.1)=kvs.map (·.1)/\IsDs K π μ.length H (ps.map λp=>V.ref p.2.1) (kvs.map λk=>D.tup<|k.1.map D.int)/\IsDs K π μ.length H (ps.map (·.2.2)) (kvs.map (·.2))
structure En(K:Yx)(π:Nat->Addr)(n:Nat)(H:Hp)(σ:St)(ρ:aF):Prop where
 len:σ.length=ρ.length
 get:∀(i:Nat)(d:D),ρ[i]?=b0 (b0 d)->∃v,σ[i]?=b0 (b0 v)/\IsD K π n H v d
def En.mono(E:En K π n H σ ρ)(e:Ext π n H π' n' H'):En K π' n' H' σ ρ:=
 ⟨E.len,λi d h=>let⟨v,a,b⟩:=E.get i d h;⟨v,a,b.mono e⟩⟩
def En.set(E:En K π n H σ ρ)(h:IsD K π n H v d)i:En K π n H (σ.set i<|b0 v) (ρ.set i<|b0 d):=by
 show⟨by rw[a0J,a0J];show E.len,λj c e=>?_⟩;rw[List.getElem?_set]at e ⊢;by_cases a:i=j
 .subst a;rw[if_pos rfl]at e ⊢;rw[E.len];by_cases b:i<ρ.length
  .rw[if_pos b]at e ⊢;cases e;show⟨v,rfl,h⟩
  .rw[if_neg b]at e;cases e
 .rw[if_neg a]at e ⊢;show E.get j c e
def Rp.ne(R:Rp K π H μ)(h:H p=b5)(b:a<μ.length):π a≠p:=λe=>by have:=R.has a b;rw[e,h]at this;cases this
def Rp.fresh(R:Rp K π H μ)(h:H p=b5):Ext π μ.length H π μ.length (upd H p o)/\Rp K π (upd H p o) μ:=by
 have c:∀b u,H b=b0 u->upd H p o b=b0 u:=λb u e=>by rw[bH<|iS e h];show e
 have e:Ext π μ.length H π μ.length (upd H p o):=⟨YG _,λ_ _=>rfl,λq i e=>c q _ e,λq o u e=>c q _ e⟩;show⟨e,R.inj,λa d=>?_,λa w d=>?_,λa g d=>?_,λa s d=>?_
  ,λa g d=>?_
  ,λa g d=>?_
  ⟩
 .rw[bH<|R.ne h d];show R.has a d
 .obtain⟨i,j,k⟩:=R.lst a w d;show⟨i,c _ _ j,k.mono e⟩
 .obtain⟨i,j,k,l⟩:=R.dK a g d;show⟨i,c _ _ j,k,l.mono e⟩
 .obtain⟨i,j,k,l⟩:=R.st a s d;show⟨i,c _ _ j,k,l.mono e⟩
 .obtain⟨i,j,k,l,r⟩:=R.dT a g d;show⟨i,c _ _ j,k,l.mono e,r.mono e⟩
 .obtain⟨v,i,j,k,l,r⟩:=R.dF a g d;show⟨v,i,c _ _ j,k,l.mono e,r.mono e⟩
abbrev rK(K:Yx)(π:Nat->Addr)(n:Nat)(H:Hp)(p:Addr):C->HO->Prop
 |.lst xs,.lst vs=>IsDs K π n H vs xs|.dK kvs,.dK vs=>vs.map (·.1)=kvs.map (·.1)/\IsDs K π n H (vs.map (·.2)) (kvs.map (·.2))|.st ks,o=>∃L:List Tb.El,o=uB p L/\L.map (·.1)=ks/\IsDs K π n H (L.map λp=>V.ref p.2) (ks.map λk=>D.tup<|k.map D.int)|.dT kvs,o=>∃ps:List (List Int×Addr×V),o=aQ p ps/\ps.map (·.1)=kvs.map (·.1)/\IsDs K π n H (ps.map λp=>V.ref p.2.1) (kvs.map λk=>D.tup<|k.1.map D.int)/\IsDs K π n H (ps.map (·.2.2)) (kvs.map (·.2))|.dF kvs,o=>∃(a:Obj)(ps:List (List Int×Addr×V)),o=.frz a (aQ p ps)/\ps.map (·.1)=kvs.map (·.1)/\IsDs K π n H (ps.map λp=>V.ref p.2.1) (kvs.map λk=>D.tup<|k.1.map D.int)/\IsDs K π n H (ps.map (·.2.2)) (kvs.map (·.2))|_,_=>False
abbrev iW(π:Nat->Addr)(n:Nat)(p:Addr):Nat->Addr:=λa=>if a=n then p else π a
def Rp.alloc(R:Rp K π H μ)(h:H p=b5)(hc:rK K π μ.length H p c o):
  Ext π μ.length H (iW π μ.length p) (μ++[c]).length (upd H p o)/\Rp K (iW π μ.length p) (upd H p o) (μ++[c])/\iW π μ.length p μ.length=p:=by
 have E:(μ++[c]).length=μ.length+1:=by simp
 have g:∀b u,H b=b0 u->upd H p o b=b0 u:=λb u e=>by rw[bH<|iS e h];show e
 have y:iW π μ.length p μ.length=p:=if_pos rfl;have w:∀a,a<μ.length->iW π μ.length p a=π a:=λa d=>if_neg<|Y7 d;have e:Ext π μ.length H (iW π μ.length p) (μ++[c]).length (upd H p o):=⟨by rw[E];show a2m _,w,λq r e=>g q _ e,λq o u e=>g q _ e⟩;have split:∀a,a<(μ++[c]).length->a<μ.length\/a=μ.length:=λa d=>by rw[E]at d;lia
 have get:∀a,a<μ.length->(μ++[c])[a]?=μ[a]?:=λa d=>Ze d;have j:(μ++[c])[μ.length]?=b0 c:=by simp
 show⟨e,⟨λa b d A q=>?_,λa d=>?_,λa I d=>?_,λa v d=>?_,λa G d=>?_
  ,λa v d=>?_
  ,λa v d=>?_
  ⟩,y⟩
 .rcases split a d with d|rfl<;>rcases split b A with A|rfl
  .rw[w a d,w b A]at q;show R.inj a b d A q
  .rw[w a d,y]at q;show absurd q<|R.ne h d
  .rw[y,w b A]at q;show absurd q.symm<|R.ne h A
  .rfl
 .rcases split a d with d|rfl
  .rw[w a d,bH<|R.ne h d];show R.has a d
  .rw[y,c3];rfl
 .have i:a<(μ++[c]).length:=(Yy.mp d).1;rcases split a i with l|rfl
  .rw[get a l]at d;obtain⟨r,x,k⟩:=R.lst a I d;rw[w a l];show⟨r,g _ _ x,k.mono e⟩
  .rw[j]at d;cases d;cases o with
   |lst r=>rw[y];show⟨r,c3,IsDs.mono e hc⟩|_=>show a1h hc
 .have i:a<(μ++[c]).length:=(Yy.mp d).1;rcases split a i with l|rfl
  .rw[get a l]at d;obtain⟨r,x,k,s⟩:=R.dK a v d;rw[w a l];show⟨r,g _ _ x,k,s.mono e⟩
  .rw[j]at d;cases d;cases o with
   |dK r=>rw[y];show⟨r,c3,hc.1,IsDs.mono e hc.2⟩|_=>show a1h hc
 .have i:a<(μ++[c]).length:=(Yy.mp d).1;rcases split a i with l|rfl
  .rw[get a l]at d;obtain⟨r,x,k,s⟩:=R.st a G d;rw[w a l];show⟨r,g _ _ x,k,s.mono e⟩
  .rw[j]at d;cases d;obtain⟨L,rfl,k,s⟩:=hc;rw[y];show⟨L,c3,k,s.mono e⟩
 .have i:a<(μ++[c]).length:=(Yy.mp d).1;rcases split a i with l|rfl
  .rw[get a l]at d;obtain⟨r,x,k,s,z⟩:=R.dT a v d;rw[w a l];show⟨r,g _ _ x,k,s.mono e,z.mono e⟩
  .rw[j]at d;cases d;obtain⟨L,rfl,k,s,z⟩:=hc;rw[y];show⟨L,c3,k,s.mono e,z.mono e⟩
 .have i:a<(μ++[c]).length:=(Yy.mp d).1;rcases split a i with l|rfl
  .rw[get a l]at d;obtain⟨B,r,x,k,s,z⟩:=R.dF a v d;rw[w a l];show⟨B,r,g _ _ x,k,s.mono e,z.mono e⟩
  .rw[j]at d;cases d;obtain⟨B,L,rfl,k,s,z⟩:=hc;rw[y];show⟨B,L,c3,k,s.mono e,z.mono e⟩
def Rp.putU(R:Rp K π H μ)(G:a<μ.length)(A:H (π a)=b0 u)(B:(∀vs,u≠.tup vs)/\∀w v,(∀N,v≠HO.ext N)->u≠.frz w v)(hc:rK K π μ.length H (π a) c o):
  Ext0 π μ.length H π (μ.set a c).length (upd H (π a) o)/\Rp K π (upd H (π a) o) (μ.set a c):=by
 have p:(μ.set a c).length=μ.length:=a0J ..;have e:Ext0 π μ.length H π (μ.set a c).length (upd H (π a) o):=by
  show⟨a4n p.symm,λ_ _=>rfl,λq vs z=>?_,λq O Q nx z=>?_⟩
  .rw[bH]
   .show z
   .intro e;subst e;rw[A]at z;show B.1 _<|YX z
  .rw[bH]
   .show z
   .intro e;subst e;rw[A]at z;show B.2 _ _ nx<|YX z
 have i:∀b,b<μ.length->b≠a->upd H (π a) o (π b)=H (π b):=λb d y=>bH λq=>y<|R.inj b a d G q;show⟨e,⟨λb E d x=>R.inj b E (p▸d)<|p▸x,λb d=>?_,λb M d=>?_,λb l d=>?_,λb I d=>?_
  ,λb l d=>?_
  ,λb l d=>?_
  ⟩⟩
 .by_cases h:b=a
  .subst h;rw[c3];rfl
  .rw[i b (p▸d) h];show R.has b<|p▸d
 .have g:b<μ.length:=p▸(Yy.mp d).1;by_cases h:b=a
  .subst h;rw[ZH g]at d;cases d;cases o with
   |lst vs=>show⟨vs,c3,IsDs.mono0 e hc⟩|_=>show a1h hc
  .rw[YW<|ZJ h]at d;obtain⟨vs,r,j⟩:=R.lst b M d;show⟨vs,by rw[i b g h];show r,j.mono0 e⟩
 .have g:b<μ.length:=p▸(Yy.mp d).1;by_cases h:b=a
  .subst h;rw[ZH g]at d;cases d;cases o with
   |dK vs=>show⟨vs,c3,hc.1,IsDs.mono0 e hc.2⟩|_=>show a1h hc
  .rw[YW<|ZJ h]at d;obtain⟨vs,r,j,k⟩:=R.dK b l d;show⟨vs,by rw[i b g h];show r,j,k.mono0 e⟩
 .have g:b<μ.length:=p▸(Yy.mp d).1;by_cases h:b=a
  .subst h;rw[ZH g]at d;cases d;obtain⟨L,rfl,j,k⟩:=hc;show⟨L,c3,j,k.mono0 e⟩
  .rw[YW<|ZJ h]at d;obtain⟨vs,r,j,k⟩:=R.st b I d;show⟨vs,by rw[i b g h];show r,j,k.mono0 e⟩
 .have g:b<μ.length:=p▸(Yy.mp d).1;by_cases h:b=a
  .subst h;rw[ZH g]at d;cases d;obtain⟨L,rfl,j,k,s⟩:=hc;show⟨L,c3,j,k.mono0 e,s.mono0 e⟩
  .rw[YW<|ZJ h]at d;obtain⟨vs,r,j,k,s⟩:=R.dT b l d;show⟨vs,by rw[i b g h];show r,j,k.mono0 e,s.mono0 e⟩
 .have g:b<μ.length:=p▸(Yy.mp d).1;by_cases h:b=a
  .subst h;rw[ZH g]at d;cases d;obtain⟨w,L,rfl,j,k,s⟩:=hc;show⟨w,L,c3,j,k.mono0 e,s.mono0 e⟩
  .rw[YW<|ZJ h]at d;obtain⟨w,vs,r,j,k,s⟩:=R.dF b l d;show⟨w,vs,by rw[i b g h];show r,j,k.mono0 e,s.mono0 e⟩
def Rp.put0(R:Rp K π H μ)(g:a<μ.length)(h:H (π a)=b0 u)(e:(∃vs,u=.lst vs)\/(∃vs,u=.dK vs)\/(∃d,u=.ext d)\/∃b d,u=.frz b (.ext d))(hc:rK K π μ.length H (π a) c o):
  Ext0 π μ.length H π (μ.set a c).length (upd H (π a) o)/\Rp K π (upd H (π a) o) (μ.set a c):=
 R.putU g h ⟨λvs z=>(by rcases e with⟨w,rfl⟩|⟨w,rfl⟩|⟨w,rfl⟩|⟨b,w,rfl⟩<;>cases z),λb v nx z=>by
  rcases e with⟨w,rfl⟩|⟨w,rfl⟩|⟨w,rfl⟩|⟨b,w,rfl⟩<;>cases z;show nx _ rfl⟩ hc
def Rp.putE(R:Rp K π H μ)(h:a<μ.length)(d:H (π a)=b0 u)(b:(∀vs,u≠.tup vs)/\∀g v,u≠.frz g v)(hc:rK K π μ.length H (π a) c o):
  Ext π μ.length H π (μ.set a c).length (upd H (π a) o)/\Rp K π (upd H (π a) o) (μ.set a c):=by
 have e:Ext π μ.length H π (μ.set a c).length (upd H (π a) o):=by
  show⟨a4n (a0J ..).symm,λ_ _=>rfl,λq vs z=>?_,λq i j z=>?_⟩
  .rw[bH]
   .show z
   .intro e;subst e;rw[d]at z;show b.1 _<|YX z
  .rw[bH]
   .show z
   .intro e;subst e;rw[d]at z;show b.2 _ _<|YX z
 show⟨e,(R.putU h d ⟨b.1,λg v _=>b.2 g v⟩ hc).2⟩
def Rp.put(R:Rp K π H μ)(d:a<μ.length)(e:H (π a)=b0 u)(b:(∃vs,u=.lst vs)\/(∃vs,u=.dK vs)\/∃g,u=.ext g)(hc:rK K π μ.length H (π a) c o):
  Ext π μ.length H π (μ.set a c).length (upd H (π a) o)/\Rp K π (upd H (π a) o) (μ.set a c):=
 R.putE d e ⟨λvs z=>(by rcases b with⟨w,rfl⟩|⟨w,rfl⟩|⟨w,rfl⟩<;>cases z),λh v z=>by rcases b with⟨w,rfl⟩|⟨w,rfl⟩|⟨w,rfl⟩<;>cases z⟩ hc
abbrev KC(K:Yx)(Q:VK)(π:Nat->Addr)(n:Nat)(H:Hp)(d:D)(μ':Hm):Prop:=
 ∀a v b,Ext π n H a μ'.length b->Rp K a b μ'->IsD K a μ'.length b v d->Q v b
def KC.after(k:KC K Q π n H d μ')(e:Ext π n H a g c):KC K Q a g c d μ':=
 λb v h j R i=>k b v h (e.trans j) R i
inductive tM (K:Yx)(m:ME)(σ:St)(H:Hp)(Q:VK):Prop
 |mk (π:Nat->Addr)(ρ:aF)(μ:Hm)(d:D)(μ':Hm)(R:Rp K π H μ)(E:En K π μ.length H σ ρ)(hm:m ρ μ=b0 (d,μ'))(k:KC K Q π μ.length H d μ'):tM K m σ H Q
inductive tMT (K:Yx)(m:MT)(σ:St)(H:Hp)(Q:Bool->Hp->Prop):Prop
 |mk (π:Nat->Addr)(ρ:aF)(μ:Hm)(b:Bool)(μ':Hm)(R:Rp K π H μ)(E:En K π μ.length H σ ρ)(hm:m ρ μ=b0 (b,μ'))(k:∀π' H',Ext π μ.length H π' μ'.length H'->Rp K π' H' μ'->Q b H'):tMT K m σ H Q
inductive tMA (K:Yx)(m:MA)(σ:St)(H:Hp)(Q:gz->Hp->Prop):Prop
 |mk (π:Nat->Addr)(ρ:aF)(μ:Hm)(ds:List D)(μ':Hm)(R:Rp K π H μ)(E:En K π μ.length H σ ρ)(hm:m ρ μ=b0 (ds,μ'))(k:∀π' vs H',Ext π μ.length H π' μ'.length H'->Rp K π' H' μ'->IsDs K π' μ'.length H' vs ds->Q vs H'):tMA K m σ H Q
abbrev nU(K:Yx)(E:Ends)(π:Nat->Addr)(n:Nat)(H:Hp)(g:Fl)(e:aF)(μ':Hm):Prop:=
 match g with
 |.nx=>∀a b c,Ext π n H a μ'.length c->Rp K a c μ'->En K a μ'.length c b e->E.nx b c|.bk=>∀a b c,Ext π n H a μ'.length c->Rp K a c μ'->En K a μ'.length c b e->E.bk b c|.ct=>∀a b c,Ext π n H a μ'.length c->Rp K a c μ'->En K a μ'.length c b e->E.ct b c|.rt d=>KC K E.rt π n H d μ'
inductive tMS (K:Yx)(m:MS)(E:Ends)(σ:St)(H:Hp):Prop
 |mk (π:Nat->Addr)(ρ:aF)(μ:Hm)(fl:Fl)(ρ':aF)(μ':Hm)(R:Rp K π H μ)(EN:En K π μ.length H σ ρ)(hm:m ρ μ=b0 (fl,ρ',μ'))(k:nU K E π μ.length H fl ρ' μ'):tMS K m E σ H
inductive spI0 (K:Yx)(f:MF)(vs:gz)(H:Hp)(Q:VK):Prop
 |mk (π:Nat->Addr)(ds:List D)(μ:Hm)(d:D)(μ':Hm)(R:Rp K π H μ)(i:IsDs K π μ.length H vs ds)(hm:f ds μ=b0 (d,μ'))(k:KC K Q π μ.length H d μ'):spI0 K f vs H Q
abbrev jL(K:Yx)(k:Nat)(f:MF):Sp:=λvs H Q _=>vs.length=k/\spI0 K f vs H Q
def dJ(h:PE X e t)(hw:∀σ H Q,tM X.K m σ H Q->t σ H Q):PE X e (tM X.K m):=λb0Z s σ H Q I q=>h b0Z s σ H Q I<|hw σ H Q q
def uD(h:PT X e t)(hw:∀σ H Q,tMT X.K m σ H Q->t σ H Q):PT X e (tMT X.K m):=λb0Z s σ H Q I q=>h b0Z s σ H Q I<|hw σ H Q q
def C3(h:PW X e t)(hw:∀σ H Q,tMT X.K m σ H Q->t σ H Q):PW X e (tMT X.K m):=λd b0Z s σ H Q I q=>h d b0Z s σ H Q I<|hw σ H Q q
def C4(h:PA X es t)(hw:∀σ H Q,tMA X.K m σ H Q->t σ H Q):PA X es (tMA X.K m):=λp b0Z s σ H Q I q=>h p b0Z s σ H Q I<|hw σ H Q q
def kF(h:PS X st t)(hw:∀E σ H,tMS X.K m E σ H->t E σ H):PS X st (tMS X.K m):=λb0Z s σ H E I q=>h b0Z s σ H E I<|hw E σ H q
def C5(h:PSs X st t)(hw:∀E σ H,tMS X.K m E σ H->t E σ H):PSs X st (tMS X.K m):=λb0Z s σ H E I q=>h b0Z s σ H E I<|hw E σ H q
abbrev aA(i:Nat):ME:=λh g=>match h[i]? with|some (b0 d)=>b0 (d,g)|_=>b5
abbrev mC(d:D):ME:=λ_ g=>b0 (d,g)
def LV(h:aA i j g=b0 (d,μ')):j[i]?=b0 (b0 d)/\μ'=g:=by
 unfold aA at h;split at h
 .rename_i k e;cases h;show⟨e,rfl⟩
 .cases h
def LW i(h:PE X (.Name x pos) (xN i)):PE X (.Name x pos) (tM X.K<|aA i):=dJ h<|by
 rintro u H Q ⟨p,s,r,d,o,R,E,n,k⟩;obtain⟨g,rfl⟩:=LV n;obtain⟨v,j,l⟩:=E.get i d g;show⟨v,j,k p v H .refl R l⟩
def pH(h:PE X e (tC v))(hd:∀π n H,IsD X.K π n H v d):PE X e (tM X.K<|mC d):=dJ h<|by
 rintro p H Q ⟨π,o,l,j,i,R,E,g,k⟩;cases g;show k π v H .refl R<|hd _ _ _
def LX:PE X (.Constant (.int i) j pos) (tM X.K<|mC<|.int i):=pH Jt λ_ _ _=>.int i
def LY:PE X (.Constant (.bool i) j pos) (tM X.K<|mC<|.bl i):=pH Ju λ_ _ _=>.bl i
def LZ:PE X (.Constant (.str i) j pos) (tM X.K<|mC<|.str i):=pH Jw λ_ _ _=>.str i
def L0:PE X (.Constant .none j pos) (tM X.K<|mC .non):=pH Jv λ_ _ _=>.non
abbrev aC(f:D->D->Hm->jk)(a b:ME):ME:=λd g=>(a d g).bind λp=>(b d p.2).bind λq=>f p.1 q.1 q.2
abbrev dG(K:Yx)(f:D->D->Hm->jk)(r:R2):Prop:=
 ∀i H g x y d h j k Q,Rp K i H g->IsD K i g.length H j x->IsD K i g.length H k y->f x y g=b0 (d,h)->KC K Q i g.length H d h->r j k H Q
def rL(A:dG K f r):∀σ H Q,tM K (aC f ma mb) σ H Q->rG r (tM K ma) (tM K mb) σ H Q:=by rintro σ H Q ⟨N,s,M,d,j,R,E,g,k⟩;obtain⟨⟨x,h⟩,w,g⟩:=Yv.mp g;obtain⟨⟨y,i⟩,z,g⟩:=Yv.mp g;show⟨N,s,M,x,h,R,E,w,λl I O o v B=>⟨l,s,h,y,i,v,E.mono o,z,λn L u p R2 G=>A n u i x y d j I L Q R2 (B.mono p) G g<|k.after<|o.trans p⟩⟩
def L1(i:OpR X (a2I op) r)(h:dG X.K f r)(d:PE X a (tM X.K ma))(g:PE X b (tM X.K mb)):PE X (.BinOp a op b pos) (tM X.K<|aC f ma mb):=
 dJ (Ko i d g)<|rL h
def fT(j:OpR X (Z0 op) r)(h:dG X.K f r)(d:PE X a (tM X.K ma))(g:PE X b (tM X.K mb))(i:a2j op b=dI):PE X (.Compare a [op] [b] pos) (tM X.K<|aC f ma mb):=
 dJ (Ku j d g i)<|rL h
abbrev aO(m:ME):MT:=λg d=>(m g d).bind λp=>match p.1 with|.bl b=>b0 (b,p.2)|_=>b5
def C6:∀σ H Q,tMT K (aO m) σ H Q->tM K m σ H λx g=>∃k,x=.bl k/\Q k g:=by
 rintro σ H Q ⟨s,u,o,b,p,R,E,d,k⟩;obtain⟨⟨x,r⟩,l,d⟩:=Yv.mp d;cases x with
 |bl c=>cases d;show⟨s,u,o,_,_,R,E,l,λh v g j i n=>?_⟩;cases n;show⟨_,rfl,k h g j i⟩|_=>cases d
def fU(l:OpR X (Z0 op) r)(j:dG X.K f r)(g:PE X a (tM X.K ma))(i:PE X b (tM X.K mb))(k:a2j op b=dI):PT X (.Compare a [op] [b] pos) (tMT X.K<|aO<|aC f ma mb):=
 uD (Kv l g i k) λd H Q h=>rL j d H _<|C6 d H Q h
section
variable{X:Cx}{e a b c:Expr}{m ma mb mc:ME}{pos:a0u}{mt mu:MT}{rest:List Expr}
abbrev eD(a b:MT):MT:=λd g=>(a d g).bind λp=>match p.1 with|true=>b d p.2|false=>b0 (dI,p.2)
abbrev gR(a b:MT):MT:=λd g=>(a d g).bind λp=>match p.1 with|true=>b0 (d7,p.2)|false=>b d p.2
abbrev fJ(a:MT):MT:=λg d=>(a g d).map λp=>(!p.1,p.2)
def L4(d:PT X a (tMT X.K mt)):PW X (.BoolOp .And [a] pos) (tMT X.K mt):=JC d
def L5(d:PT X a (tMT X.K mt)):PW X (.BoolOp .Or [a] pos) (tMT X.K mt):=JD d
def L6(w:PT X a (tMT X.K mt))(y:PW X (.BoolOp .And (b::rest) pos) (tMT X.K mu)):PW X (.BoolOp .And (a::b::rest) pos) (tMT X.K<|eD mt mu):=C3 (JE w y)<|by
 rintro B H Q ⟨A,p,z,d,l,R,E,i,k⟩;obtain⟨⟨x,g⟩,v,i⟩:=Yv.mp i;show⟨A,p,z,x,g,R,E,v,λh r j o=>?_⟩;cases x with
 |true=>show mH ?_;show⟨h,p,g,d,l,o,E.mono j,i,λn s u R2=>k n s (j.trans u) R2⟩|false=>
  show mG ?_;cases i;show k h r j o
def L7(w:PT X a (tMT X.K mt))(y:PW X (.BoolOp .Or (b::rest) pos) (tMT X.K mu)):PW X (.BoolOp .Or (a::b::rest) pos) (tMT X.K<|gR mt mu):=C3 (JF w y)<|by
 rintro B H Q ⟨A,p,z,d,l,R,E,i,k⟩;obtain⟨⟨x,g⟩,v,i⟩:=Yv.mp i;show⟨A,p,z,x,g,R,E,v,λh r j o=>?_⟩;cases x with
 |true=>show mH ?_;cases i;show k h r j o|false=>
  show mG ?_;show⟨h,p,g,d,l,o,E.mono j,i,λn s u R2=>k n s (j.trans u) R2⟩
def L8(p:PT X a (tMT X.K mt)):PT X (.UnaryOp .Not a pos) (tMT X.K<|fJ mt):=uD (JG p)<|by
 rintro w H Q ⟨u,v,r,d,s,R,E,g,k⟩;obtain⟨⟨x,h⟩,o,g⟩:=YB.mp g;cases g;show⟨u,v,r,x,h,R,E,o,λi j n l=>k i j n l⟩
abbrev eN(a b:ME):ME:=λd g=>(a d g).bind λp=>match p.1 with|.bl d7=>b d p.2|.bl dI=>b0 (.bl dI,p.2)|_=>b5
abbrev yJ(a b:ME):ME:=λd g=>(a d g).bind λp=>match p.1 with|.bl d7=>b0 (.bl d7,p.2)|.bl dI=>b d p.2|_=>b5
abbrev mI(a:ME):ME:=λg d=>(a g d).bind λp=>match p.1 with|.bl b=>b0 (.bl<|!b,p.2)|_=>b5
def L9(h:PE X a (tM X.K m)):PE X (.BoolOp op [a] pos) (tM X.K m):=JL h
def Ma(s:PE X a (tM X.K ma))(u:PE X (.BoolOp .And (b::rest) pos) (tM X.K mb)):PE X (.BoolOp .And (a::b::rest) pos) (tM X.K<|eN ma mb):=dJ (JM s u)<|by
 rintro A H Q ⟨y,o,w,d,l,R,E,g,k⟩;obtain⟨⟨x,h⟩,r,g⟩:=Yv.mp g;cases x with
 |bl c=>
  show⟨y,o,w,.bl c,h,R,E,r,λi z p j n v=>?_⟩;cases v;show⟨c,rfl,?_⟩;cases c with
  |true=>show mH ?_;show⟨i,o,h,d,l,n,E.mono j,g,k.after j⟩|false=>show mG ?_;cases g;show k i _ p j n<|.bl dI
 |_=>cases g
def Mb(s:PE X a (tM X.K ma))(u:PE X (.BoolOp .Or (b::rest) pos) (tM X.K mb)):PE X (.BoolOp .Or (a::b::rest) pos) (tM X.K<|yJ ma mb):=dJ (JN s u)<|by
 rintro A H Q ⟨y,o,w,d,l,R,E,g,k⟩;obtain⟨⟨x,h⟩,r,g⟩:=Yv.mp g;cases x with
 |bl c=>
  show⟨y,o,w,.bl c,h,R,E,r,λi z p j n v=>?_⟩;cases v;show⟨c,rfl,?_⟩;cases c with
  |true=>show mH ?_;cases g;show k i _ p j n (.bl d7)|false=>show mG ?_;show⟨i,o,h,d,l,n,E.mono j,g,k.after j⟩
 |_=>cases g
def Mc(o:PE X a (tM X.K ma)):PE X (.UnaryOp .Not a pos) (tM X.K<|mI ma):=dJ (JO o)<|by
 rintro z H Q ⟨v,w,r,d,s,R,E,g,k⟩;obtain⟨⟨x,u⟩,n,g⟩:=Yv.mp g;cases x with
 |bl c=>cases g;show⟨v,w,r,_,_,R,E,n,λh y i l j p=>?_⟩;cases p;show⟨_,rfl,k h _ i l j<|.bl _⟩
 |_=>cases g
abbrev kG(t:MT)(a b:ME):ME:=λd g=>(t d g).bind λp=>match p.1 with|true=>a d p.2|false=>b d p.2
def Md(hc:PT X c (tMT X.K mt))(r:PE X a (tM X.K ma))(s:PE X b (tM X.K mb)):PE X (.IfExp c a b pos) (tM X.K<|kG mt ma mb):=dJ (JQ hc r s)<|by
 rintro y H Q ⟨v,n,u,d,h,R,E,l,k⟩;obtain⟨⟨x,g⟩,p,l⟩:=Yv.mp l;show⟨v,n,u,x,g,R,E,p,λi w j o=>?_⟩;cases x with
 |true=>show mH ?_;show⟨i,n,g,d,h,o,E.mono j,l,k.after j⟩|false=>
  show mG ?_;show⟨i,n,g,d,h,o,E.mono j,l,k.after j⟩
abbrev aD:MA:=λ_ d=>b0 ([],d)
abbrev aB(a:ME)(r:MA):MA:=λd g=>(a d g).bind λp=>(r d p.2).bind λq=>b0 (p.1::q.1,q.2)
variable{es:List Expr}{ms:MA}
def Me:PA X [] (tMA X.K aD):=C4 KN<|by
 rintro n H Q ⟨i,l,j,d,h,R,E,g,k⟩;cases g;show k i [] H .refl R .nil
def Mf(w:PE X e (tM X.K m))(y:PA X es (tMA X.K ms))(z:Zo (e::es) X.env=(dI,eval e X.env)::Zo es X.env:=by rfl):PA X (e::es) (tMA X.K<|aB m ms):=C4 (KO w y z)<|by
 rintro T H Q ⟨L,p,I,d,K,R,E,g,k⟩;obtain⟨⟨x,h⟩,u,g⟩:=Yv.mp g;obtain⟨⟨G,i⟩,v,g⟩:=Yv.mp g;cases g;show⟨L,p,I,x,h,R,E,u,λj N M n s A=>⟨j,p,h,G,i,s,E.mono n,v,λl O r o R2 B=>k l _ r (n.trans o) R2<|.cons (A.mono o) B⟩⟩
abbrev aZ(ms:MA):ME:=λg d=>(ms g d).bind λp=>if p.1.length<=YM then b0 (.tup p.1,p.2)else b5
abbrev bZ(ms:MA):ME:=λg d=>(ms g d).bind λp=>if p.1.length<=YM then b0 (.loc p.2.length,p.2++[.lst p.1])else b5
def Mg(h:PA X es (tMA X.K ms)):PE X (.Tuple es w pos) (tM X.K<|aZ ms):=dJ (KR h)<|by
 rintro K H Q ⟨A,B,x,d,y,R,E,g,k⟩;obtain⟨⟨I,z⟩,r,g⟩:=Yv.mp g;split at g
 .rename_i s;cases g;show⟨A,B,x,_,_,R,E,r,λi v G o n l=>⟨by rw[l.length];show s,λp u=>?_⟩⟩;obtain⟨j,R2⟩:=n.fresh (o:=.tup v) u;show k i _ _ (o.trans j) R2<|.tup (.of c3)<|l.mono j
 .cases g
def Mh(h:PA X es (tMA X.K ms)):PE X (.List es pos) (tM X.K<|bZ ms):=dJ (KS h)<|by
 rintro K H Q ⟨G,I,A,d,B,R,E,i,k⟩;obtain⟨⟨l,g⟩,w,i⟩:=Yv.mp i;split at i
 .rename_i x;cases i;show⟨G,I,A,l,g,R,E,w,λj n o u s r=>⟨by rw[r.length];show x,λp y=>?_⟩⟩;obtain⟨v,R2,q⟩:=s.alloc (c:=.lst l) (o:=.lst n) y r;have z:IsD X.K (iW j g.length p) (g++[C.lst l]).length (upd o p<|.lst n) (.ref p) (.loc g.length):=by have:=IsD.loc (K:=X.K) (π:=iW j g.length p) (n:=(g++[C.lst l]).length) (H:=upd o p (.lst n)) (a:=g.length) (by simp);rw[q]at this;show this
  show k _ _ _ (u.trans v) R2 z
 .cases i
abbrev aG(f:MF)(ms:MA):ME:=λg d=>(ms g d).bind λp=>f p.1 p.2
def Mi(w:∀i h ds μ',ms i h=b0 (ds,μ')->ds.length=n):∀σ H Q,tM K (aG f ms) σ H Q->yA (jL K n f) [] E (tMA K ms) σ H Q:=by rintro σ H Q ⟨y,i,h,d,μ',R,E,j,k⟩;obtain⟨⟨l,g⟩,p,j⟩:=Yv.mp j;show⟨y,i,h,l,g,R,E,p,λo x s v u r=>?_⟩;change jL K n f (x++[]) s Q _;rw[Zt];show⟨by rw[r.length];show w i h l g p,o,l,g,d,μ',u,r,j,k.after v⟩
def Mj:∀g d ds μ',aD g d=b0 (ds,μ')->ds.length=0:=by intro g d ds μ' h;cases h;rfl
def Ml(h:∀g i ds μ',ms g i=b0 (ds,μ')->ds.length=n):∀g i ds μ',aB m ms g i=b0 (ds,μ')->ds.length=n+1:=by intro g i ds μ' d;obtain⟨⟨x,j⟩,p,d⟩:=Yv.mp d;obtain⟨⟨l,o⟩,k,d⟩:=Yv.mp d;cases d;rw[Zc,h g j l _ k]
def Mm(F:FnOk X.prog X.w X.K X.mg X.base f7 k f i ps (jL X.K n j))(y:Room k X.A)(s:Gl X x)(v:X.mg x=b0 (.ref f))(u:a0L X.K (.ref f)=d7)(o:Binds X.K i ps [])(l:PA X (e::es) (tMA X.K ms))(w:∀A z ds h,ms A z=b0 (ds,h)->ds.length=n)(d:(x==("__debug__":Str))=false:=by decide)(r:Zo (e::es) X.env=(dI,eval e X.env)::Zo es X.env:=by rfl)(g:(a1C pos<|Zo es X.env).any (·.1)=false:=by rfl):
  PE X (.Call (.Name x p) (e::es) [] pos) (tM X.K<|aG j ms):=
 dJ (KU F y s v u o .nil (E:=E0) CY l d r g)<|Mi w
abbrev dW(K:Yx)(f:MF)(r:gz->Hp->VK->Prop):Prop:=
 ∀i H h k d g j Q,Rp K i H h->IsDs K i h.length H j k->f k h=b0 (d,g)->KC K Q i h.length H d g->r j H Q
def yK(u:dW K f r):∀σ H Q,tM K (aG f ms) σ H Q->t7 r (tMA K ms) σ H Q:=by rintro σ H Q ⟨y,z,x,d,i,R,E,h,k⟩;obtain⟨⟨l,g⟩,s,h⟩:=Yv.mp h;show⟨y,z,x,l,g,R,E,s,λj w n p o v=>u j n g l d i w Q o v h<|k.after p⟩
def Mn{id:String}(hc:CallR X (.builtin id) r)(j:dW X.K f r)(k:Gl X x)(l:X.mg x=b5)(o:a0B x=b0 (.builtin id))(h:PA X (e::es) (tMA X.K ms))(n:x ≠ "__name__":=by decide)(d:(x==("__debug__":Str))=false:=by decide)(i:Zo (e::es) X.env=(dI,eval e X.env)::Zo es X.env:=by rfl)(g:(a1C pos<|Zo es X.env).any (·.1)=false:=by rfl):PE X (.Call (.Name x p) (e::es) [] pos) (tM X.K<|aG f ms):=
 dJ (K0 hc k l o h n d i g)<|yK j
def Mo(hc:CallR X (.type T) r)(j:dW X.K f r)(k:Gl X x)(l:X.mg x=b5)(o:a0B x=b0 (.type T))(h:PA X (e::es) (tMA X.K ms))(n:x ≠ "__name__":=by decide)(d:(x==("__debug__":Str))=false:=by decide)(i:Zo (e::es) X.env=(dI,eval e X.env)::Zo es X.env:=by rfl)(g:(a1C pos<|Zo es X.env).any (·.1)=false:=by rfl):PE X (.Call (.Name x p) (e::es) [] pos) (tM X.K<|aG f ms):=
 dJ (K1 hc k l o h n d i g)<|yK j
abbrev bJ(d:Hm):D->Option (List D)
 |.tup xs=>b0 xs|.rol xs=>b0 xs|.loc a=>match d[a]? with|some (.lst xs)=>b0 xs|_=>b5
 |_=>b5
abbrev iC:D->D->Hm->jk
 |.str z,.int i,μ=>if z.length<=YM then(atI z.cps.toList i).map λc=>(.str ⟨#[c]⟩,μ)else b5|x,.int i,μ=>(bJ μ x).bind λg=>(atI g i).map λd=>(d,μ)|_,_,_=>b5
def Mp:dG K iC (CL K):=by
 intro p H T x y d I N O Q R s E g k;cases E with
 |int i=>
  cases s with
  |str z=>
   simp only[iC]at g;split at g
   .rename_i A;obtain⟨c,j,l⟩:=YB.mp g;cases l;show .inr<|.inr ⟨z,i,c,rfl,rfl,A,j,k p _ H .refl R<|.str _⟩
   .cases g
  |tup h t=>simp only[iC,bJ,Y9]at g;obtain⟨r,j,l⟩:=YB.mp g;cases l;obtain⟨v,n,o⟩:=t.atI j;show .inr (.inl ⟨_,_,i,v,rfl,rfl,h,n,k p _ H .refl R o⟩)|rol h t=>simp only[iC,bJ,Y9]at g;obtain⟨r,j,l⟩:=YB.mp g;cases l;obtain⟨v,n,o⟩:=t.atI j;show .inl ⟨_,_,i,v,rfl,rfl,h.sq,n,k p _ H .refl R o⟩|@loc a L=>
   simp only[iC,bJ]at g;split at g
   .rename_i G B;simp only[Y9]at g;obtain⟨r,j,l⟩:=YB.mp g;cases l;obtain⟨M,u,w⟩:=R.lst a G B;obtain⟨v,n,o⟩:=w.atI j;show .inl ⟨_,_,i,v,rfl,rfl,.of u,n,k p _ H .refl R o⟩
   .cases g
  |_=>simp[iC,bJ]at g
 |_=>cases s<;>simp[iC]at g
def Mq(d:PE X a (tM X.K ma))(g:PE X b (tM X.K mb))(h:yE b):PE X (.Subscript a b pos) (tM X.K<|aC iC ma mb):=dJ (Lk Lm d g h)<|rL Mp
abbrev kH(xs:List D)(lo d:Option Int):List D:=(xs.drop<|HT.sIx xs.length 0 lo).take<|HT.sIx xs.length xs.length d-HT.sIx xs.length 0 lo
noncomputable abbrev MO:=aF->Hm->Option (Option Int×Hm)
abbrev jM:MO:=λ_ d=>b0 (b5,d)
abbrev jN(m:ME):MO:=λg d=>(m g d).bind λp=>match p.1 with|.int i=>b0 (b0 i,p.2)|_=>b5
inductive tMO (K:Yx)(m:MO)(σ:St)(H:Hp)(Q:Option Int->Hp->Prop):Prop
 |mk (π:Nat->Addr)(ρ:aF)(μ:Hm)(o:Option Int)(μ':Hm)(R:Rp K π H μ)(E:En K π μ.length H σ ρ)(hm:m ρ μ=b0 (o,μ'))(k:∀π' H',Ext π μ.length H π' μ'.length H'->Rp K π' H' μ'->Q o H'):tMO K m σ H Q
def Mr:PO X b5 (tMO X.K jM):=λb0Z s σ H Q I q=>Ld b0Z s σ H Q I<|by
 obtain⟨h,j,i,o,g,R,E,d,k⟩:=q;cases d;show k h H .refl R
def Ms(h:PE X e (tM X.K m)):PO X (b0 e) (tMO X.K<|jN m):=λb0Z s σ H Q I q=>Le h b0Z s σ H Q I<|by
 obtain⟨y,z,u,o,v,R,E,d,k⟩:=q;obtain⟨⟨x,w⟩,p,d⟩:=Yv.mp d;cases x with
 |int i=>cases d;show⟨y,z,u,_,_,R,E,p,λg A j n l r=>?_⟩;cases r;show⟨_,rfl,k g j n l⟩
 |_=>cases d
noncomputable abbrev C7(K:Yx):V->Option Int->Option Int->Hp->VK->Prop:=yF K
def Mt:yC X (C7 X.K):=Lp
def C8(h:yF K x lo d H Q):C7 K x lo d H Q:=h
abbrev nV(a:ME)(lo g:MO):ME:=λd i=>(a d i).bind λp=>(lo d p.2).bind λq=>(g d q.2).bind λr=>
 match p.1 with
 |.tup _=>b5|x=>(bJ r.2 x).bind λh=>b0 (.loc r.2.length,r.2++[.lst<|kH h q.1 r.1])
def C9(h:IsDs K π n H vs ds)lo d:IsDs K π n H (mE vs lo d) (kH ds lo d):=by unfold mE kH;rw[h.length];show(h.drop _).take _
def kI{d:Hm}{c:C}:IsD K (iW π d.length p) (d++[c]).length H (.ref p) (.loc d.length):=by have:=IsD.loc (K:=K) (π:=iW π d.length p) (n:=(d++[c]).length) (H:=H) (a:=d.length) (by simp);rw[show iW π d.length p d.length=p from if_pos rfl]at this;show this
def Mu(ha:PE X a (tM X.K ma))(hl:PO X lo (tMO X.K M))(hu:PO X K (tMO X.K L)):PE X (.Subscript a (.Slice lo K b5 p2) pos) (tM X.K<|nV ma M L):=dJ (Lg Mt ha hl hu)<|by
 rintro σ H Q ⟨π,I,μ,d,μ',R,E,g,k⟩;obtain⟨⟨x,j⟩,T,g⟩:=Yv.mp g;obtain⟨⟨l,n⟩,U,g⟩:=Yv.mp g;obtain⟨⟨u,A⟩,Y,g⟩:=Yv.mp g;show⟨π,I,μ,x,j,R,E,T,λB v1 H1 o O i1=>⟨B,I,j,l,n,O,E.mono o,U,λG H2 r R2=>⟨G,I,n,u,A,R2,(E.mono o).mono r,Y,λπ3 H3 w s=>?_⟩⟩⟩;have i3:=(i1.mono r).mono w;cases i3 with
 |rol h t=>simp only[bJ,Y9]at g;cases g;show C8 ⟨_,_,rfl,h.sq,λp z=>?_⟩;obtain⟨y,v,q⟩:=s.alloc (c:=.lst (kH _ l u)) (o:=.lst (mE _ l u)) z<|C9 t l u;show k _ _ _ (((o.trans r).trans w).trans y) v kI|@loc i hi'=>
  simp only[bJ]at g;split at g
  .rename_i N hx;simp only[Y9]at g;cases g;obtain⟨vs,Z,h6⟩:=s.lst i N hx;show C8 ⟨_,_,rfl,.of Z,λp z=>?_⟩;obtain⟨y,v,q⟩:=s.alloc (c:=.lst (kH N l u)) (o:=.lst (mE vs l u)) z<|C9 h6 l u;show k _ _ _ (((o.trans r).trans w).trans y) v kI
  .cases g
 |tup h t=>simp at g
 |_=>simp[bJ]at g
end
abbrev bE:MS:=λg d=>b0 (.nx,g,d)
abbrev aH(a b:MS):MS:=λg d=>(a g d).bind λp=>match p.1 with|.nx=>b p.2.1 p.2.2|_=>b0 p
abbrev aN(m:ME):MS:=λd g=>(m d g).map λp=>(.rt p.1,d,p.2)
abbrev cW(m:ME):MS:=λd g=>(m d g).map λp=>(.nx,d,p.2)
abbrev bC(t:MT)(a b:MS):MS:=λd g=>(t d g).bind λp=>match p.1 with|true=>a d p.2|false=>b d p.2
abbrev aL(i:Nat)(m:ME):MS:=λd g=>(m d g).map λp=>(.nx,d.set i<|b0 p.1,p.2)
def Mv:PSs X [] (tMS X.K bE):=C5 JT<|by
 rintro E l H ⟨i,p,o,n,j,h,R,d,g,k⟩;cases g;show k i l H .refl R d
def Mw{rest:List Stmt}(h1:PS X st (tMS X.K ms))(B:PSs X rest (tMS X.K mr)):PSs X (st::rest) (tMS X.K<|aH ms mr):=C5 (JU h1 B)<|by
 rintro E N H ⟨I,K,G,x,v,s,R,z,i,k⟩;obtain⟨⟨w,p,o⟩,h1,i⟩:=Yv.mp i;show⟨I,K,G,w,p,o,R,z,h1,?_⟩;cases w with
 |nx=>
  intro u L M r A y;show⟨u,p,o,x,v,s,A,y,i,?_⟩;cases x with
  |nx=>show λg h l n R2 j=>k g h l (r.trans n) R2 j|bk=>show λg h l n R2 j=>k g h l (r.trans n) R2 j|ct=>show λg h l n R2 j=>k g h l (r.trans n) R2 j|rt d=>show KC.after k r
 |rt d=>cases i;show k|bk=>cases i;show k
 |ct=>cases i;show k
def Mx(h1:PS X st (tMS X.K ms)):PSs X [st] (tMS X.K ms):=JV h1
def My:PS X (.Pass pos) (tMS X.K bE):=kF JW<|by
 rintro E l H ⟨i,p,o,n,j,h,R,d,g,k⟩;cases g;show k i l H .refl R d
def Mz(j:PE X e (tM X.K m)):PS X (.Return (b0 e) pos) (tMS X.K<|aN m):=kF (J0 j)<|by
 rintro E u H ⟨o,p,l,s,r,n,R,h,d,k⟩;obtain⟨⟨x,g⟩,i,d⟩:=YB.mp d;cases d;show⟨o,p,l,x,g,R,h,i,k⟩
def MB(p:PE X e (tM X.K m))(r:a3T e b5 pos.line X.env=pure false:=by rfl):PS X (.Expr e pos) (tMS X.K<|cW m):=kF (JY p r)<|by
 rintro E z H ⟨v,w,s,A,y,u,R,i,d,k⟩;obtain⟨⟨x,g⟩,o,d⟩:=YB.mp d;cases d;show⟨v,w,s,x,g,R,i,o,λh G l j n B=>k h z l j n<|i.mono j⟩
def MC{mt:MT}(hc:PT X c (tMT X.K mt))(I:PSs X body (tMS X.K ms))(K:PSs X orelse (tMS X.K mu)):PS X (.If c body orelse pos) (tMS X.K<|bC mt ms mu):=kF (J6 hc I K)<|by
 rintro E N H ⟨M,y,L,u,n,j,R,w,v,k⟩;obtain⟨⟨x,i⟩,G,v⟩:=Yv.mp v;show⟨M,y,L,x,i,R,w,G,λl B o z=>?_⟩;have A:nU X.K E l i.length B u n j:=by
  cases u with
  |nx=>show λg h r s R2 p=>k g h r (o.trans s) R2 p|bk=>show λg h r s R2 p=>k g h r (o.trans s) R2 p|ct=>show λg h r s R2 p=>k g h r (o.trans s) R2 p|rt d=>show KC.after k o
 cases x with
 |true=>show mH ?_;show⟨l,y,i,u,n,j,z,w.mono o,v,A⟩|false=>
  show mG ?_;show⟨l,y,i,u,n,j,z,w.mono o,v,A⟩
def Dd(s:X.N.Nodup)(w:X.N[i]?=b0 x)(z:Loc X.env.scope x)(u:PE X e (tM X.K m))(y:a3T e (b0<|.Name x d) pos.line X.env=pure false:=by rfl)(v:X.fn x=d7\/X.env.scope.names.lookup x=b0 .local:=by first|show .inl rfl|show .inr rfl|assumption):PS X (.Assign [.Name x d] e pos) (tMS X.K<|aL i m):=kF (Ka s w z u y v)<|by
 rintro E O H ⟨I,K,B,M,L,G,R,l,g,k⟩;obtain⟨⟨x,h⟩,r,g⟩:=YB.mp g;cases g;show⟨I,K,B,x,h,R,l,r,λj N o n p A=>k j _ o n p<|(l.mono n).set A i⟩
abbrev uE(n:Nat)(ds:List D):aF:=ds.map b0++a1t (n-ds.length) b5
abbrev yL(n:Nat)(m:MS):MF:=λds a=>(m (uE n ds) a).bind λp=>match p.1 with|.rt d=>b0 (d,p.2.2)|.nx=>b0 (.non,p.2.2)|_=>b5
def MH(h:IsDs K π n H vs ds)(o:vs.length<=N.length):En K π n H (L2.start N vs) (uE N.length ds):=by
 have a:=h.length;show⟨by simp[L2.start,uE,a],λi d e=>?_⟩;unfold uE at e;unfold L2.start;by_cases b:i<ds.length
 .rw[Ze<|by simpa using b,YU]at e;obtain⟨l,c,g⟩:=YB.mp e;cases g;obtain⟨v,j,k⟩:=h.get c;show⟨v,by rw[Ze<|by rw[Yu,a];show b,YU,j];rfl,k⟩
 .rw[Zn<|by simpa using a3I.mp b]at e;have:=a1M (n:=N.length-ds.length) (a:=(b5:Option D)) (i:=i-(ds.map b0).length);rw[this]at e;split at e<;>simp at e
def MJ(F:Fun K x a st f o)(S:FnScope N ps (cQ st))(g:ps.length<=N.length)(c:∀b A outer s H E,Room k (A.deeper<|a5Z a (cQ st) s.heap.objs.size f b)->
   PSs (lE f7 P w K mg base N a (cQ st) f b A outer s H E).nox (fS st) (tMS K m)):FnOk P w K mg base f7 (k+1) f o ps (jL K ps.length<|yL N.length m):=by
 show F.ok S (λI H Q E h=>h.1) λb A outer s H I Q E B h=>⟨_,c b A outer s H E B,?_⟩;obtain⟨G,O,ds,L,d,M,R,i,e,r⟩:=h;obtain⟨⟨p,n,j⟩,z,e⟩:=Yv.mp e;show⟨O,_,L,p,n,j,R,MH i<|by rw[G];show g,z,?_⟩;cases p with
 |rt X=>cases e;show r|nx=>cases e;show λl T u y v U=>r l .non u y v .non|bk=>cases e|ct=>cases e
open SeqAt (EqAt RcAt RcNeAt)
inductive KD where
 |non|bl (b:Bool)|int (i:Int)|str (x:Str)|tup (n:Nat)|lst (n:Nat)
inductive IsK (s:YA):Value->KD->Prop where
 |non:IsK s .none .non
 |bl (b:Bool):IsK s (.bool b)<|.bl b
 |int (i:Int)(t:a7F):IsK s (.int i t)<|.int i
 |str (x:Str)(t:a7F):IsK s (.str x t)<|.str x
 |tup {l:Addr}{its:gw}(h:s.heap.IsTuple l its.toArray):IsK s (.ref l)<|.tup its.length
 |lst {l:Addr}{its:gw}(h:s.heap.IsList l its.toArray):IsK s (.ref l)<|.lst its.length
abbrev uF(e:Nat->Bool):KD->KD->Bool
 |.non,.non=>d7|.bl a,.bl b=>a==b|.bl a,.int b=>(if a then 1 else 0)==b|.int a,.bl b=>a==(if b then 1 else 0)|.int a,.int b=>a==b|.str a,.str b=>a==b|.tup n,.tup k=>(Zj<|min n k).all e&&n==k|.lst n,.lst k=>(Zj<|min n k).all e&&n==k|_,_=>dI
abbrev uG(A:Zi)(s:YA)(u v:Value)(e:Nat->Bool):Prop:=
 (∀l b c a,u=.ref l->v=.ref b->s.heap.IsTuple l c->s.heap.IsTuple b a->∀j (h1:j<c.size)(d:j<a.size),EqAt A.in1 s c[j] a[j] (e j)) /\
 (∀l b c a,u=.ref l->v=.ref b->s.heap.IsList l c->s.heap.IsList b a->∀j (h1:j<c.size)(d:j<a.size),EqAt A.in1 s c[j] a[j] (e j))
def De e(h:n=k):((Zj<|min n k).all e&&n==k)=(Zj n).all e:=by subst h;simp
def Df e(h:n≠k):((Zj<|min n k).all e&&n==k)=false:=by simp[h]
def yM(h:IsK s u k)(h':IsK s v k')(c:A.units<a0k)(p:uG A s u v e):RcAt A s u v (uF e k k'):=by
 cases h with
 |non=>
  cases h' with
  |non=>show RcAt.none_none|bl b=>show RcAt.none_bool b|int i t=>show RcAt.none_int i t|str x t=>show RcAt.none_str x t|tup h=>show RcAt.none_tuple h c|lst h=>show RcAt.none_list h c
 |bl a=>
  cases h' with
  |non=>show RcAt.bool_none a|bl b=>show RcAt.bool_bool a b|int i t=>show RcAt.bool_int a i t|str x t=>show RcAt.bool_str a x t|tup h=>show RcAt.bool_tuple a h c|lst h=>show RcAt.bool_list a h c
 |int a j=>
  cases h' with
  |non=>show RcAt.int_none a j|bl b=>show RcAt.int_bool a j b|int i t=>show RcAt.int_int a j i t|str x t=>show RcAt.int_str a j x t|tup h=>show RcAt.int_tuple a j h c|lst h=>show RcAt.int_list a j h c
 |str a j=>
  cases h' with
  |non=>show RcAt.str_none a j|bl b=>show RcAt.str_bool a j b|int i t=>show RcAt.str_int a j i t|str x t=>show RcAt.str_str a j x t|tup h=>show RcAt.str_tuple a j h c|lst h=>show RcAt.str_list a j h c
 |tup g=>
  cases h' with
  |non=>show RcAt.tuple_none g c|bl b=>show RcAt.tuple_bool b g c|int i t=>show RcAt.tuple_int i t g c|str x t=>show RcAt.tuple_str x t g c|tup h=>have:=RcAt.tuples (e:=e) g h c<|p.1 _ _ _ _ rfl rfl g h;show this|lst h=>show RcAt.tuple_list g h c
 |lst g=>
  cases h' with
  |non=>show RcAt.list_none g c|bl b=>show RcAt.list_bool b g c|int i t=>show RcAt.list_int i t g c|str x t=>show RcAt.list_str x t g c|tup h=>show RcAt.list_tuple g h c|@lst b d h=>
   rename_i l n;by_cases o:n.length=d.length
   .have:=RcAt.lists (e:=e) g h (by simpa using o) c<|p.2 _ _ _ _ rfl rfl g h;change RcAt A s _ _ ((Zj<|min n.length d.length).all e&&n.length==d.length);rw[De e o];simpa using this
   .have:=RcAt.lists_lengths g h (by simpa using o) c;change RcAt A s _ _ ((Zj<|min n.length d.length).all e&&n.length==d.length);rw[Df e o];show this
def MK(h:IsK s u k)(h':IsK s v k')(c:A.units<a0k)(p:uG A s u v e):RcNeAt A s u v (!uF e k k'):=by
 cases h with
 |non=>
  cases h' with
  |non=>show RcNeAt.none_none|bl b=>show RcNeAt.none_bool b|int i t=>show RcNeAt.none_int i t|str x t=>show RcNeAt.none_str x t|tup h=>show RcNeAt.none_tuple h c|lst h=>show RcNeAt.none_list h c
 |bl a=>
  cases h' with
  |non=>show RcNeAt.bool_none a|bl b=>show RcNeAt.bool_bool a b|int i t=>show RcNeAt.bool_int a i t|str x t=>show RcNeAt.bool_str a x t|tup h=>show RcNeAt.bool_tuple a h c|lst h=>show RcNeAt.bool_list a h c
 |int a j=>
  cases h' with
  |non=>show RcNeAt.int_none a j|bl b=>show RcNeAt.int_bool a j b|int i t=>show RcNeAt.int_int a j i t|str x t=>show RcNeAt.int_str a j x t|tup h=>show RcNeAt.int_tuple a j h c|lst h=>show RcNeAt.int_list a j h c
 |str a j=>
  cases h' with
  |non=>show RcNeAt.str_none a j|bl b=>show RcNeAt.str_bool a j b|int i t=>show RcNeAt.str_int a j i t|str x t=>show RcNeAt.str_str a j x t|tup h=>show RcNeAt.str_tuple a j h c|lst h=>show RcNeAt.str_list a j h c
 |tup g=>
  cases h' with
  |non=>show RcNeAt.tuple_none g c|bl b=>show RcNeAt.tuple_bool b g c|int i t=>show RcNeAt.tuple_int i t g c|str x t=>show RcNeAt.tuple_str x t g c|tup h=>have:=RcNeAt.tuples (e:=e) g h c<|p.1 _ _ _ _ rfl rfl g h;show this|lst h=>show RcNeAt.tuple_list g h c
 |lst g=>
  cases h' with
  |non=>show RcNeAt.list_none g c|bl b=>show RcNeAt.list_bool b g c|int i t=>show RcNeAt.list_int i t g c|str x t=>show RcNeAt.list_str x t g c|tup h=>show RcNeAt.list_tuple g h c|@lst b d h=>
   rename_i l n;by_cases o:n.length=d.length
   .have:=RcNeAt.lists (e:=e) g h (by simpa using o) c<|p.2 _ _ _ _ rfl rfl g h;change RcNeAt A s _ _ (!((Zj<|min n.length d.length).all e&&n.length==d.length));rw[De e o];simpa using this
   .have:=RcNeAt.lists_lengths g h (by simpa using o) c;change RcNeAt A s _ _ (!((Zj<|min n.length d.length).all e&&n.length==d.length));rw[Df e o];show this
def ML(h:IsK s u k)(h':IsK s v k')(c:A.units<a0k)(p:uG A s u v e)(o:∀l b,u=.ref l->v=.ref b->l≠b):EqAt A s u v (uF e k k'):=by
 cases h with
 |non=>
  cases h' with
  |non=>show EqAt.same _|bl b=>show EqAt.none_bool b|int i t=>show EqAt.none_int i t|str x t=>show EqAt.none_str x t|tup h=>show EqAt.none_tuple h c|lst h=>show EqAt.none_list h c
 |bl a=>
  cases h' with
  |non=>show EqAt.bool_none a|bl b=>show EqAt.bool_bool a b|int i t=>show EqAt.bool_int a i t|str x t=>show EqAt.bool_str a x t|tup h=>show EqAt.bool_tuple a h c|lst h=>show EqAt.bool_list a h c
 |int a d=>
  cases h' with
  |non=>show EqAt.int_none a d|bl b=>show EqAt.int_bool a d b|int i t=>show EqAt.int_int a d i t|str x t=>show EqAt.int_str a d x t|tup h=>show EqAt.int_tuple a d h c|lst h=>show EqAt.int_list a d h c
 |str a d=>
  cases h' with
  |non=>show EqAt.str_none a d|bl b=>show EqAt.str_bool a d b|int i t=>show EqAt.str_int a d i t|str x t=>show EqAt.str_str a d x t|tup h=>show EqAt.str_tuple a d h c|lst h=>show EqAt.str_list a d h c
 |@tup l n g=>
  cases h' with
  |non=>show EqAt.tuple_none g c|bl b=>show EqAt.tuple_bool b g c|int i t=>show EqAt.tuple_int i t g c|str x t=>show EqAt.tuple_str x t g c|@tup b j h=>show EqAt.of_refs (o l b rfl rfl) (yM (k:=.tup n.length) (k':=.tup j.length) (.tup g) (.tup h) c p)|lst h=>show EqAt.tuple_list g h c
 |@lst l n g=>
  cases h' with
  |non=>show EqAt.list_none g c|bl b=>show EqAt.list_bool b g c|int i t=>show EqAt.list_int i t g c|str x t=>show EqAt.list_str x t g c|tup h=>show EqAt.list_tuple g h c|@lst b j h=>show EqAt.of_refs (o l b rfl rfl)<|yM (k:=.lst n.length) (k':=.lst j.length) (.lst g) (.lst h) c p
inductive KdD where
 |non|bl (b:Bool)|int (i:Int)|str (x:Str)|tup (xs:List D)|lst (xs:List D)
abbrev mJ(c:Hm):D->Option KdD
 |.non=>b0 .non|.bl b=>b0 (.bl b)|.int i=>b0 (.int i)|.str x=>b0 (.str x)|.tup xs=>b0 (.tup xs)|.rol xs=>b0 (.lst xs)|.loc a=>match c[a]? with|some (.lst xs)=>b0 (.lst xs)|_=>b5
 |.ty _=>b5
abbrev lG(f:D->D->Option Bool):List D->List D->Option Bool
 |x::xs,y::ys=>(f x y).bind λb=>(lG f xs ys).map λc=>b&&c|[],[]=>b0 d7|_,_=>b0 dI
abbrev uH(f:D->D->Option Bool):KdD->KdD->Option Bool
 |.non,.non=>b0 d7|.bl a,.bl b=>b0 (a==b)|.bl a,.int b=>b0 ((if a then 1 else 0)==b)|.int a,.bl b=>b0 (a==(if b then 1 else 0))|.int a,.int b=>b0 (a==b)|.str a,.str b=>b0 (a==b)|.tup xs,.tup ys=>lG f xs ys|.lst xs,.lst ys=>lG f xs ys|_,_=>b0 dI
noncomputable abbrev yN(f:D->D->Option Bool):D->D->Option Bool:=f
def Dg(h:yN f x y=b0 b):f x y=b0 b\/(b=d7/\∃a,x=.loc a/\y=.loc a):=.inl h
abbrev eE:Nat->Hm->D->D->Option Bool
 |0,_,_,_=>b5|n+1,μ,x,y=>(mJ μ x).bind λa=>(mJ μ y).bind λb=>uH (yN<|eE n μ) a b
noncomputable abbrev pI(n:Nat)(a:Hm):D->D->Option Bool:=yN<|eE n a
abbrev yO:KdD->KD
 |.non=>.non|.bl b=>.bl b|.int i=>.int i|.str x=>.str x|.tup xs=>.tup xs.length|.lst xs=>.lst xs.length
abbrev pJ:KdD->List D
 |.tup xs=>xs|.lst xs=>xs|_=>[]
section
variable{X:Cx}{b0Z:jw}{σ:St}{H:Hp}{s:YA}{π:Nat->Addr}{μ:Hm}
inductive KdAt (X:Cx)(π:Nat->Addr)(n:Nat)(H:Hp)(s:YA)(u:Value):KdD->Prop where
 |non (h:u=.none):KdAt X π n H s u .non
 |bl (b:Bool)(h:u=.bool b):KdAt X π n H s u<|.bl b
 |int (i:Int)(t:a7F)(h:u=.int i t):KdAt X π n H s u<|.int i
 |str (x:Str)(t:a7F)(h:u=.str x t):KdAt X π n H s u<|.str x
 |tup {xs:List D}(p:Addr)(vs:gz)(its:gw)(h:u=.ref p)(q:SqT X.K H p vs)(i:IsDs X.K π n H vs xs)(r:Vals vs its)(t:s.heap.IsTuple p its.toArray):KdAt X π n H s u<|.tup xs
 |lst {xs:List D}(p:Addr)(vs:gz)(its:gw)(h:u=.ref p)(q:SqL X.K H p vs)(i:IsDs X.K π n H vs xs)(r:Vals vs its)(t:s.heap.IsList p its.toArray):KdAt X π n H s u<|.lst xs
def pK(I:Inv X b0Z σ H s)(R:Rp X.K π H μ)(h:IsD X.K π μ.length H v d)(r:RelV v u)(e:mJ μ d=b0 k):KdAt X π μ.length H s u k:=by
 cases h with
 |non=>cases e;show .non r|bl b=>cases e;show .bl b r|int i=>cases e;obtain⟨t,q⟩:=r;show .int i t q|str x=>cases e;obtain⟨t,q⟩:=r;show .str x t q|ty x=>cases e|tup q t=>cases e;obtain⟨c,g,p,_⟩:=I.tuple q;show .tup _ _ c r q t g p|rol q t=>cases e;obtain⟨c,g,p,_⟩:=I.list q.sq;show .lst _ _ c r q.sq t g p.isList|@loc a y=>
  simp only[mJ]at e;split at e
  .rename_i w n;cases e;obtain⟨o,j,l⟩:=R.lst a w n;have q:SqL X.K H (π a) o:=.of j;obtain⟨c,g,p,_⟩:=I.list q;show .lst _ _ c r q l g p.isList
  .cases e
def KdAt.isK(h:KdAt X π n H s u k):IsK s u (yO k):=by
 cases h with
 |non h=>subst h;show .non|bl b h=>subst h;show .bl b|int i t h=>subst h;show .int i t|str x t h=>subst h;show .str x t|tup p c a h q i r t=>subst h;have:a.length=_:=r.length.symm.trans i.length;change IsK s (.ref p) (.tup _);rw[<- this];show .tup t|lst p c a h q i r t=>subst h;have:a.length=_:=r.length.symm.trans i.length;change IsK s (.ref p) (.lst _);rw[<- this];show .lst t
abbrev iX(f:D->D->Option Bool)(xs a:List D)(j:Nat):Bool:=match xs[j]?,a[j]? with
 |some x,b0 y=>(f x y).getD dI|_,_=>dI
def yP:∀{xs a}{b},lG f xs a=b0 b->b=((Zj<|min xs.length a.length).all (iX f xs a)&&xs.length==a.length)/\∀j x y,xs[j]?=b0 x->a[j]?=b0 y->f x y=b0 (iX f xs a j)
 |[],[],b,h=>by cases h;show⟨rfl,λj x y e=>by simp at e⟩
 |x::xs,[],b,h=>by cases h;show⟨by simp,λj x y _ e=>by simp at e⟩
 |[],y::a,b,h=>by cases h;show⟨by simp,λj x y e=>by simp at e⟩
 |x::xs,y::a,b,h=>by
  simp only[lG]at h;obtain⟨c,l,o⟩:=Yv.mp h;obtain⟨d,p,r⟩:=YB.mp o;obtain⟨u,v⟩:=yP p;have k:iX f (x::xs) (y::a) 0=c:=by simp[iX,l]
  have n:∀j,iX f (x::xs) (y::a) (j+1)=iX f xs a j:=λj=>by simp[iX]
  show⟨?_,λj w z g i=>?_⟩
  .subst r;rw[u];simp only[Zc,Nat.add_min_add_right];rw[a4i,ZD,a6V,k];have:(iX f (x::xs) (y::a)∘Nat.succ)=iX f xs a:=funext λj=>n j;rw[this];simp[Bool.and_assoc]
  .cases j with
   |zero=>simp at g i;subst g;subst i;rw[k,l]|succ j=>rw[n j];show v j w z (by simpa using g)<|by simpa using i
def Dh(h:uH f k k'=b0 b):b=uF (iX f (pJ k)<|pJ k') (yO k) (yO k'):=by
 cases k<;>cases k'<;>first
  |(have a:=YX h;subst a;rfl)|(obtain⟨c,_⟩:=yP h;rw[c];rfl)
def MM(I:Inv X b0Z σ H s)(R:Rp X.K π H μ):∀n{v}{u}{x y}{b},RelV v u->IsD X.K π μ.length H v x->IsD X.K π μ.length H v y->eE n μ x y=b0 b->b=true:=by
 intro n;induction n with
 |zero=>intro v u x y b _ _ _ h;cases h|succ n ih=>
  intro v u x y b r hx hy h;obtain⟨k,Y,h⟩:=Yv.mp h;obtain⟨k',h2,h⟩:=Yv.mp h;have a1:=pK I R hx r Y;have A:=pK I R hy r h2;have g:∀{vs:gz}{xs U:List D}{c:Bool},(∀v∈vs,∃u,RelV v u)->IsDs X.K π μ.length H vs xs->IsDs X.K π μ.length H vs U->lG (pI n μ) xs U=b0 c->c=true:=by
   intro vs;induction vs with
   |nil=>intro xs U c _ i1 o h;cases i1;cases o;cases h;rfl|cons w vs ihv=>
    intro xs U c hr i1 o h;cases i1 with
    |cons p1 t1=>
     cases o with
     |cons M E=>simp only[lG]at h;obtain⟨c1,Y,h3⟩:=Yv.mp h;obtain⟨c2,h4,h5⟩:=YB.mp h3;obtain⟨T,O⟩:=hr w<|Zs ..;have a:c1=true:=(Dg Y).elim (ih O p1 M) (·.1);have l:=ihv (λv K=>hr v<|Zl _ K) t1 E h4;subst a;subst l;show h5.symm
  cases a1 with
  |non a=>
   subst a;cases A with
   |non _=>show(YX h).symm|bl _ e=>cases e|int _ _ e=>cases e|str _ _ e=>cases e|tup _ _ _ e=>cases e|lst _ _ _ e=>cases e
  |bl c a=>
   subst a;cases A with
   |non e=>cases e|bl _ e=>cases e;show(YX h).symm.trans (beq_self_eq_true _)|int _ _ e=>cases e|str _ _ e=>cases e|tup _ _ _ e=>cases e|lst _ _ _ e=>cases e
  |int c t a=>
   subst a;cases A with
   |non e=>cases e|bl _ e=>cases e|int _ _ e=>cases e;show(YX h).symm.trans (beq_self_eq_true _)|str _ _ e=>cases e|tup _ _ _ e=>cases e|lst _ _ _ e=>cases e
  |str c t a=>
   subst a;cases A with
   |non e=>cases e|bl _ e=>cases e|int _ _ e=>cases e|str _ _ e=>cases e;show(YX h).symm.trans (beq_self_eq_true _)|tup _ _ _ e=>cases e|lst _ _ _ e=>cases e
  |tup p vs L a q i Q t=>
   have z:KdAt X π μ.length H s (.ref p) _:=a▸KdAt.tup p vs L a q i Q t;rw[a]at A;cases A with
   |non e=>cases e|bl _ e=>cases e|int _ _ e=>cases e|str _ _ e=>cases e|tup M G d l N o B E=>
    cases l;have:=I.tuple_inj q N;subst this;show g (λv K=>by
     obtain⟨j,Z,rfl⟩:=a3z K;obtain⟨T,_,O⟩:=Q.get<|Yz Z;show⟨T,O⟩) i o h
   |lst M G d l N o B E=>cases l;show absurd rfl<|a0P E t
  |lst p vs L a q i Q t=>
   rw[a]at A;cases A with
   |non e=>cases e|bl _ e=>cases e|int _ _ e=>cases e|str _ _ e=>cases e|tup M G d l N o B E=>cases l;show absurd rfl (a0P t E)|lst M G d l N o B E=>
    cases l;have:=I.list_inj q N;subst this;show g (λv K=>by
     obtain⟨j,Z,rfl⟩:=a3z K;obtain⟨T,_,O⟩:=Q.get<|Yz Z;show⟨T,O⟩) i o h
def iY(A:Zi):A.in1.units=A.units+1:=rfl
def Di(I:Inv X b0Z σ H s)(ih:∀{A}{v v'}{u u'}{x y}{b},A.units+n<a0k->RelV v u->RelV v' u'->IsD X.K π μ.length H v x->IsD X.K π μ.length H v' y->eE n μ x y=b0 b->EqAt A s u u' b)(hu:A.units+(n+1)<a0k)(a1:KdAt X π μ.length H s u k)(a2:KdAt X π μ.length H s u' k')(h:uH (pI n μ) k k'=b0 b):uG A s u u' (iX (pI n μ) (pJ k)<|pJ k'):=by
 have K:∀{vs T:gz}{its its':gw}{xs Z:List D}{c:Bool},Vals vs its->Vals T its'->IsDs X.K π μ.length H vs xs->IsDs X.K π μ.length H T Z->lG (pI n μ) xs Z=b0 c->
   ∀j (h1:j<its.length)(Y:j<its'.length),EqAt A.in1 s its[j] its'[j] (iX (pI n μ) xs Z j):=by
  intro vs T its its' xs Z c r r' i i' e j h1 Y;have l1:=r.length;have l2:=r'.length;have l3:=i.length;have l4:=i'.length;have hx:xs[j]?=b0 (xs[j]'⋯):=Yz _;have hy:Z[j]?=b0 (Z[j]'⋯):=Yz _;obtain⟨v,v1,v2⟩:=i.get hx;obtain⟨v',v1',v2'⟩:=i'.get hy;obtain⟨w,w1,w2⟩:=r.get v1;obtain⟨w',w1',w2'⟩:=r'.get v1';rw[Yz h1]at w1;rw[Yz Y]at w1';cases w1;cases w1';have key:∀{x y:D}{b:Bool},IsD X.K π μ.length H v x->IsD X.K π μ.length H v' y->pI n μ x y=b0 b->EqAt A.in1 s its[j] its'[j] b:=λ{x y b} i1 L hq=>by
   rcases Dg hq with hq|⟨rfl,a,rfl,rfl⟩
   .show ih (by rw[iY];lia) w2 w2' i1 L hq
   .cases i1;cases L;have z1:its[j]=YY (π a):=w2;have z2:its'[j]=YY (π a):=w2';rw[z1,z2];show EqAt.same _
  show key v2 v2'<|(yP e).2 j _ _ hx hy
 constructor
 .intro l b' G B e1 e2 t1 t2 j h1 Y;subst e1;subst e2;cases a1 with
  |tup p vs its e q i r t=>
   cases e;cases a2 with
   |tup p2 U E d q2 L r2 R=>
    cases d;have z1:G=its.toArray:=by obtain⟨o,M,g2,n1,O⟩:=t1;obtain⟨o',g,N,Q,z⟩:=t;rw[M]at g;cases g;rw[O]at z;injection z
    have z2:B=E.toArray:=by obtain⟨o,M,g2,n1,O⟩:=t2;obtain⟨o',g,N,Q,z⟩:=R;rw[M]at g;cases g;rw[O]at z;injection z
    subst z1;subst z2;have:=K r r2 i L h j (by simpa using h1) (by simpa using Y);simpa[pJ]using this
   |lst p2 U E d q2 L r2 R=>cases d;show absurd rfl (a0P R t2)|non d=>cases d|bl _ d=>cases d|int _ _ d=>cases d|str _ _ d=>cases d
  |lst p vs its e q i r t=>cases e;show absurd rfl (a0P t t1)|non e=>cases e|bl _ e=>cases e|int _ _ e=>cases e|str _ _ e=>cases e
 .intro l b' G B e1 e2 t1 t2 j h1 Y;subst e1;subst e2;cases a1 with
  |lst p vs its e q i r t=>
   cases e;cases a2 with
   |lst p2 U E d q2 L r2 R=>
    cases d;have z1:G=its.toArray:=by obtain⟨o,M,g2,n1,O⟩:=t1;obtain⟨o',g,N,Q,z⟩:=t;rw[M]at g;cases g;rw[O]at z;injection z
    have z2:B=E.toArray:=by obtain⟨o,M,g2,n1,O⟩:=t2;obtain⟨o',g,N,Q,z⟩:=R;rw[M]at g;cases g;rw[O]at z;injection z
    subst z1;subst z2;have:=K r r2 i L h j (by simpa using h1) (by simpa using Y);simpa[pJ]using this
   |tup p2 U E d q2 L r2 R=>cases d;show absurd rfl (a0P t2 R)|non d=>cases d|bl _ d=>cases d|int _ _ d=>cases d|str _ _ d=>cases d
  |tup p vs its e q i r t=>cases e;show absurd rfl (a0P t1 t)|non e=>cases e|bl _ e=>cases e|int _ _ e=>cases e|str _ _ e=>cases e
def yQ(I:Inv X b0Z σ H s)(R:Rp X.K π H μ):∀n{A}{v c}{u a}{x y}{b},A.units+n<a0k->RelV v u->RelV c a->IsD X.K π μ.length H v x->IsD X.K π μ.length H c y->eE n μ x y=b0 b->EqAt A s u a b:=by
 intro n;induction n with
 |zero=>intro A v c u a x y b _ _ _ _ _ h;cases h|succ n M=>
  intro A v c u a x y b L r o i j h;have B:=h;obtain⟨k,E,h⟩:=Yv.mp h;obtain⟨O,G,h⟩:=Yv.mp h;have d:=pK I R i r E;have e:=pK I R j o G;by_cases g:u=a
  .subst g;have:v=c:=r.inj o;subst this;have:=MM I R (n+1) r i j B;subst this;show EqAt.same _
  .have K:=Di I M L d e h;rw[Dh h];show ML d.isK e.isK ⋯ K λl N p w z=>g<|by rw[p,w,z]
def Dj(I:Inv X b0Z σ H s)(R:Rp X.K π H μ)n(l:A.units+n<a0k)(r:RelV v u)(w:RelV g d)(o:IsD X.K π μ.length H v x)(p:IsD X.K π μ.length H g y)(h:eE n μ x y=b0 b):
  RcAt A s u d b/\RcNeAt A s u d (!b):=by
 cases n with
 |zero=>cases h|succ n=>obtain⟨k,i,h⟩:=Yv.mp h;obtain⟨z,j,h⟩:=Yv.mp h;have a:=pK I R o r i;have c:=pK I R p w j;have e:=Di I (A:=A) (yQ I R n) l a c h;rw[Dh h];show⟨yM a.isK c.isK ⋯ e,MK a.isK c.isK ⋯ e⟩
end
abbrev mK(g:Int->Int->Option Int):D->D->Hm->jk
 |.int i,.int j,μ=>(g i j).map λz=>(.int z,μ)|_,_,_=>b5
def Dk(h:mK g x y a=b0 (d,μ')):∃i j z,x=.int i/\y=.int j/\g i j=b0 z/\d=.int z/\μ'=a:=by
 unfold mK at h;split at h
 .rename_i i j;obtain⟨z,b,c⟩:=YB.mp h;cases c;show⟨i,j,z,rfl,rfl,b,rfl,rfl⟩
 .cases h
def yR{g':Int->Int->Int}(e:∀i j z,g i j=b0 z->a i j/\z=g' i j):dG K (mK g) (rI a λi j=>.int<|g' i j):=by intro p H u x y d o r s Q R l n h k;obtain⟨i,j,z,rfl,rfl,b,rfl,rfl⟩:=Dk h;cases l;cases n;obtain⟨c,rfl⟩:=e i j z b;show⟨i,j,rfl,rfl,c,k p _ H .refl R<|.int _⟩
def MN{g':Int->Int->Int}:dG K (mK λi j=>b0<|g' i j) (iB λi j=>.int<|g' i j):=by intro h H o x y d g l n Q R c e b k;obtain⟨i,j,z,rfl,rfl,a,rfl,rfl⟩:=Dk b;cases c;cases e;cases a;show⟨i,j,rfl,rfl,k h _ H .refl R<|.int _⟩
abbrev cX:=mK λi j=>b0<|i-j
abbrev Dl:=mK λi j=>if((-(2^64)<i/\i<2^64)\/(-(2^64)<j/\j<2^64))\/(i.natAbs<2^4000/\j.natAbs<2^4000)\/Zw i+Zw j<=134217728 then b0 (i*j)else b5
abbrev cL:D->D->Hm->jk
 |x,y,μ=>Dl x y μ
abbrev c6:=mK λi j=>if 0<j/\j<2^4000 then b0 (i/j)else b5
abbrev aW:=mK λi j=>if 0<j then b0 (i%j)else b5
abbrev CMulB(i j:Int):Prop:=CMul i j\/(i.natAbs<2^4000/\j.natAbs<2^4000)\/Zw i+Zw j<=134217728
abbrev Dm(i j:Int):Prop:=0<j/\j<2^4000
def Dp(h:i.natAbs<2^4000):Zw i<=4000:=by
 unfold Zw;split
 .show a0d _
 .rename_i b;have a:i.natAbs≠0:=by intro z;show b<|by simpa using z
  have:=(b0C a).mpr h;lia
def CMulB.ok(h:CMulB i j):a9f i j:=by
 rcases h with h|⟨b,c⟩|h
 .show h.ok
 rotate_left
 .have a:a2E (Zw i+Zw j)=false:=by
   unfold a2E;rw[decide_eq_false];have:bitsLine=134217728:=by decide
   lia
  unfold a9f;rw[a];simp
 .have d:=Dp b;have e:=Dp c;have a:a2E (Zw i+Zw j)=false:=by
   unfold a2E;rw[decide_eq_false];have:(8000:Int)<=bitsLine:=by decide
   lia
  unfold a9f;rw[a];simp
def MP:OpR X (a2I .Mult) (rI CMulB λi j=>.int<|i*j):=xT λ_ _ _ _ _ _ _ hc q=>b0t q hc.ok
def MQ:OpR X (a2I .FloorDiv) (rI Dm λi j=>.int<|i/j):=xT λi j _ _ _ _ _ hc q=>by
 have c:(0:Int)<j:=hc.1;have d:j<2^4000:=hc.2;have a:j.natAbs≠0:=by lia
 have b:j.natAbs<2^4000:=by
  have:((2^4000:Nat):Int)=2^4000:=by decide
  omega
 have e:=(b0C a).mpr b;show b0w ⋯ (by rw[Int.fdiv_eq_ediv_of_nonneg i<|by lia];show q)<|.inl<|PyProof.noPylong_of_log2<|by lia
def yS[Decidable c]{a:Int}(h:(if c then b0 a else b5)=b0 z):c/\z=a:=by
 split at h
 .cases h;show⟨by assumption,rfl⟩
 .cases h
def MR:dG K cX (iB λi j=>.int<|i-j):=MN
def MU:dG K Dl (rI CMulB λi j=>.int<|i*j):=yR λi j z h=>by have:=yS h;show this
def MV:dG K cL (rI CMulB λi j=>.int<|i*j):=MU
def MW:dG K c6 (rI Dm λi j=>.int<|i/j):=yR λi j z h=>by have:=yS h;show this
def MX:dG K aW (rI (λ_ j=>0<j) λi j=>.int<|i%j):=yR λ_ _ _ h=>yS h
abbrev yT:D->Option D
 |.int i=>b0 (.int<|-i)|_=>b5
abbrev bD:D->D->Hm->jk
 |.int i,.int j,μ=>b0 (.int<|i+j,μ)|.str x,.str y,μ=>if x.length+y.length<=YM then b0 (.str<|x++y,μ)else b5|.loc a,.loc b,μ=>match μ[a]?,μ[b]? with
  |some<|.lst xs,b0 (.lst ys)=>if xs.length+ys.length<=YM then b0 (.loc μ.length,μ++[.lst<|xs++ys])else b5|_,_=>b5
 |_,_,_=>b5
abbrev yU(K:Yx):R2:=λx y H Q=>iB (λi j=>.int<|i+j) x y H Q\/(∃i j,x=.str i/\y=.str j/\i.length+j.length<=YM/\Q (.str<|i++j) H)\/CU x y H Q
def MY:OpR X (a2I .Add) (yU X.K):=op_add.or<|op_add_str.or LA
noncomputable abbrev yV(K:Yx):R2:=yU K
def MZ:OpR X (a2I .Add) (yV X.K):=MY
def yW(h:yU K x y H Q):yV K x y H Q:=h
def M0:dG K bD (yV K):=by
 intro r H G x y d A B E Q R c e a k;unfold bD at a;split at a
 .cases a;cases c;cases e;show yW<|.inl ⟨_,_,rfl,rfl,k r _ H .refl R<|.int _⟩
 .split at a
  .rename_i b;cases a;cases c;cases e;show yW<|.inr<|.inl ⟨_,_,rfl,rfl,b,k r _ H .refl R<|.str _⟩
  .cases a
 .split at a
  .rename_i n o v w;split at a
   .rename_i b;cases a;cases c;cases e;obtain⟨j,g,h⟩:=R.lst _ n v;obtain⟨l,u,i⟩:=R.lst _ o w;show yW (.inr<|.inr ⟨_,_,j,l,rfl,rfl,by first|show g|show .inl<|.inl g,u,by rw[h.length,i.length];show b,λp z=>?_⟩);obtain⟨s,R2,q⟩:=R.alloc (c:=.lst (n++o)) (o:=.lst (j++l)) z<|h.append i;show k _ _ _ s R2 kI
   .cases a
  .cases a
 .cases a
abbrev fV(p:Int->Int->Bool):D->D->Hm->jk
 |.int i,.int j,μ=>b0 (.bl<|p i j,μ)|_,_,_=>b5
def iZ:dG K (fV p) (iB λi j=>.bl<|p i j):=by
 intro g H n x y d e h l Q R b c a k;unfold fV at a;split at a
 .cases a;cases b;cases c;show⟨_,_,rfl,rfl,k g _ H .refl R<|.bl _⟩
 .cases a
abbrev dO:=fV λi j=>decide<|i<j
abbrev pL:=fV λi j=>decide<|i<=j
abbrev kJ:=fV λi j=>decide<|j<i
abbrev rM:=fV λi j=>decide<|j<=i
abbrev yX(K:Yx)(ne:Bool):R2:=λx y H Q=>∃π a c d b,Rp K π H a/\IsD K π a.length H x c/\IsD K π a.length H y d/\eE 8 a c d=b0 b/\Q (.bl<|if ne then !b else b) H
def Dq(c:X.A.units+8<a0k):OpR X (Z0 .Eq) (yX X.K dI):=by intro a s p H x y v u Q I i j h;obtain⟨o,n,k,l,b,R,d,g,e,q⟩:=h;show(Dj I R 8 c i j d g e).1 _ _ _ _ ⟨.bl b,H,I,rfl,q⟩
def Dr(c:X.A.units+8<a0k):OpR X (Z0 .NotEq) (yX X.K d7):=by intro a s p H x y v u Q I i j h;obtain⟨o,n,k,l,b,R,d,g,e,q⟩:=h;show(Dj I R 8 c i j d g e).2 _ _ _ _ ⟨.bl<|!b,H,I,rfl,q⟩
abbrev aU(ne:Bool):D->D->Hm->jk:=λx y a=>(eE 8 a x y).map λb=>(.bl<|if ne then !b else b,a)
def uI:dG K (aU ne) (yX K ne):=by intro a H j x y d l n o Q R h i g k;obtain⟨b,c,e⟩:=YB.mp g;cases e;show⟨a,j,x,y,b,R,h,i,c,k a _ H .refl R<|.bl _⟩
abbrev yY:D->D->Hm->jk
 |.str i,.str j,μ=>b0 (.bl<|!(a0l j i 0 j.length 1).isEmpty,μ)|_,_,_=>b5
def Ds:dG K yY (λx y H Q=>∃i j,x=.str i/\y=.str j/\Q (.bl<|!(a0l j i 0 j.length 1).isEmpty) H):=by
 intro g H n x y d e h l Q R b c a k;unfold yY at a;split at a
 .cases a;cases b;cases c;show⟨_,_,rfl,rfl,k g _ H .refl R<|.bl _⟩
 .cases a
def uJ(r:Room k A):A.units+8<a0k:=by have:=r.un;lia
def M3(v:PE X a (tM X.K ma)):PE X (.UnaryOp .USub a pos) (tM X.K λj g=>(ma j g).bind λp=>(yT p.1).map λd=>(d,p.2)):=dJ (Kq Kt v)<|by
 rintro I H Q ⟨B,j,g,d,z,R,E,e,k⟩;obtain⟨⟨x,A⟩,s,e⟩:=Yv.mp e;obtain⟨y,l,u⟩:=YB.mp e;cases u;cases x with
 |int i=>cases l;show⟨B,j,g,_,_,R,E,s,λh G n r o w=>?_⟩;cases w;show⟨_,rfl,k h _ n r o<|.int _⟩
 |_=>cases l
def M4(d:Gl X x)(e:X.mg x=b5)(h:a0B x=b0 (.type n))(g:x ≠ "__name__":=by decide)(hd:(x==("__debug__":Str))=false:=by decide):PE X (.Name x pos) (tM X.K<|mC<|.ty n):=
 pH (Jy (v:=.ty n) d e h rfl g hd) λ_ _ _=>.ty n
abbrev uK(b:Hm):D->Option String
 |.non=>b0 "NoneType"|.bl _=>b0 "bool"|.int _=>b0 "int"|.str _=>b0 "str"|.tup _=>b0 "tuple"|.rol _=>b0 "list"|.loc a=>match b[a]? with
  |some (.lst _)=>b0 "list"|some (.dK _)=>b0 "dict"|some (.dT _)=>b0 "dict"|_=>b5
 |.ty _=>b5
abbrev uL(t c:String):Option Bool:=match c with
 | "int"=>b0 (t=="int" || t=="bool")| "bool"=>b0 (t=="bool")| "str"=>b0 (t=="str")| "list"=>b0 (t=="list")| "tuple"=>b0 (t=="tuple")| "dict"=>b0 (t=="dict")|_=>b5
abbrev f9:MF:=λds a=>match ds with
 |[x,.ty c]=>(uK a x).bind λt=>(uL t c).map λb=>(.bl b,a)|_=>b5
def lH K(d:t = "NoneType"\/t = "bool"\/t = "int"\/t = "str"\/t = "tuple"\/t = "list"\/t = "dict")(h:uL t c=b0 b):a8l K (.type t) (.type c)=b0 b:=by
 unfold uL at h
 split at h<;>first
  | cases h;done
  | (have a:=YX h;subst a
     rcases d with rfl|rfl|rfl|rfl|rfl|rfl|rfl<;>first|rfl|decide +kernel|(unfold a8l;simp;rfl))
end L3
namespace L3
open PySem L2
noncomputable abbrev MG:=D->aF->Hm->Option aF
inductive tMG (K:Yx)(g:MG)(v:V)(σ:St)(H:Hp)(Q:St->Hp->Prop):Prop
 |mk (π:Nat->Addr)(ρ:aF)(μ:Hm)(d:D)(ρ':aF)(R:Rp K π H μ)(E:En K π μ.length H σ ρ)(i:IsD K π μ.length H v d)(hm:g d ρ μ=b0 ρ')(k:∀σ',En K π μ.length H σ' ρ'->Q σ' H):tMG K g v σ H Q
abbrev cC(i:Nat):MG:=λd a _=>b0<|a.set i<|b0 d
def Dt(b:X.N.Nodup)(e:X.N[i]?=b0 x)(j:Loc X.env.scope x)(c:X.fn x=d7\/X.env.scope.names.lookup x=b0 .local:=by first|show .inl rfl|show .inr rfl|assumption):PG X (.Name x pos) (tMG X.K<|cC i):=by intro a s n H v u Q I r h;obtain⟨p,w,o,d,l,R,E,hd,g,k⟩:=h;cases g;show Ce b e j c a s n H v u Q I r<|k _<|E.set hd i
abbrev M5(K:Yx)(c:TE):TI:=λσ H R=>c σ H λx b=>∃a,x=.ref a/\(((∃xs,SqL K b a xs)/\R (xP K a) b)\/((∃xs,SqT K b a xs)/\R (xQ K a) b))
def M6(u:PE X l r):PI X tg l (M5 X.K r):=by
 intro i s E H R I h;show aV (u i s E H _ I h) λv c ⟨x,n,d,z,y⟩=>?_;obtain⟨a,e,q⟩:=y;subst e;cases z;rcases q with⟨⟨B,k⟩,q⟩|⟨⟨B,k⟩,q⟩
 .obtain⟨g,A,p,w⟩:=d.list k;show a4f p.isList ?_;show⟨c.heap.objs.size,[c.heap.objs.size],_,_,n,rfl,d.kept (t':=c.toks) λb o e=>YC _ e,Kd a _,⟨_,YR _ rfl,rfl,rfl⟩,λb j=>?_,q⟩;have e:b=c.heap.objs.size:=by simpa using j
  subst e;show d.fpOk (YG _)<|d.hok.fresh<|YG _
 .obtain⟨g,A,p,w⟩:=d.tuple k;show a2a (show c.heap.IsTuple a g.toArray from p) ?_;show⟨c.heap.objs.size,[c.heap.objs.size],_,_,n,rfl,d.kept (t':=c.toks) λb o e=>YC _ e,Ke a _,⟨_,YR _ rfl,rfl,rfl⟩,λb j=>?_,q⟩;have e:b=c.heap.objs.size:=by simpa using j
  subst e;show d.fpOk (YG _)<|d.hok.fresh<|YG _
structure Wk(K:Yx)(J:It)(src:Hm->Nat->Option (Option D))(π:Nat->Addr)(n:Nat)(H:Hp):Prop where
 stop:∀π' μ H' i,Ext π n H π' μ.length H'->Rp K π' H' μ->src μ i=b0 b5->J.stop i H'
 go:∀π' μ H' i d,Ext π n H π' μ.length H'->Rp K π' H' μ->src μ i=b0 (b0 d)->J.go i H'/\∀x H2,J.yld i H' x H2->Ext π' μ.length H' π' μ.length H2/\Rp K π' H2 μ/\IsD K π' μ.length H2 x d
abbrev lI(x:D):Hm->Nat->Option (Option D):=λa i=>(bJ a x).map λxs=>xs[i]?
def M7(R:Rp K π H B)(h:IsD K π B.length H v x)(E:bJ B x=b0 xs):
  ∃a,v=.ref a/\(((∃b,SqL K H a b)/\Wk K (xP K a) (lI x) π B.length H)\/((∃b,SqT K H a b)/\Wk K (xQ K a) (lI x) π B.length H)):=by
 cases h with
 |@tup p b ds q t=>
  show⟨p,rfl,.inr ⟨⟨b,q⟩,⟨λk j r i e l z=>?_,λk j r i d e l z=>?_⟩⟩⟩
  .simp only[lI,bJ,Zh]at z;have g:ds[i]?=none:=YX z;show⟨b,e.sqT q,by rw[t.length];show Zx.mp g⟩
  .simp only[lI,bJ,Zh]at z;have g:ds[i]?=b0 d:=YX z;obtain⟨w,c,n⟩:=t.get g;show⟨⟨b,w,e.sqT q,c⟩,λy L ⟨s,u⟩=>?_⟩;subst s;have:=u b<|e.sqT q;rw[c]at this;cases this;show⟨.refl,l,n.mono e⟩
 |@rol p b ds q t=>
  show⟨p,rfl,.inl ⟨⟨b,q.sq⟩,⟨λk j r i e l z=>?_,λk j r i d e l z=>?_⟩⟩⟩
  .simp only[lI,bJ,Zh]at z;have g:ds[i]?=none:=YX z;show⟨b,(e.roL q).sq,by rw[t.length];show Zx.mp g⟩
  .simp only[lI,bJ,Zh]at z;have g:ds[i]?=b0 d:=YX z;obtain⟨w,c,n⟩:=t.get g;show⟨⟨b,w,(e.roL q).sq,c⟩,λy L ⟨s,u⟩=>?_⟩;subst s;have:=u b (e.roL q).sq;rw[c]at this;cases this;show⟨.refl,l,n.mono e⟩
 |@loc a N=>
  have hc:∃b,H (π a)=b0 (.lst b):=by
   simp only[bJ]at E;split at E
   .rename_i o A;obtain⟨b,c,_⟩:=R.lst a o A;show⟨b,c⟩
   .cases E
  obtain⟨I,G⟩:=hc;show⟨π a,rfl,.inl ⟨⟨I,.of G⟩,⟨λk j r i e l z=>?_,λk j r i d e l z=>?_⟩⟩⟩
  .simp only[lI,bJ]at z;split at z
   .rename_i o A;obtain⟨b,c,n⟩:=l.lst a o A;rw[e.pi a N]at c;have g:o[i]?=none:=YX z;show⟨b,.of c,by rw[n.length];show Zx.mp g⟩
   .cases z
  .simp only[lI,bJ]at z;split at z
   .rename_i o A;obtain⟨b,c,n⟩:=l.lst a o A;rw[e.pi a N]at c;have g:o[i]?=b0 d:=YX z;obtain⟨w,M,O⟩:=n.get g;show⟨⟨b,w,.of c,M⟩,λy L ⟨s,u⟩=>?_⟩;subst s;have:=u b<|.of c;rw[M]at this;cases this;show⟨.refl,l,O⟩
   .cases z
 |_=>cases E
abbrev eQ(a:Hm->Nat->Option (Option D))(g:MG)(b:MS):Nat->Nat->MS
 |0,_,_,_=>b5|n+1,i,ρ,μ=>(a μ i).bind λo=>match o with
  |none=>b0 (.nx,ρ,μ)|some d=>(g d ρ μ).bind λc=>(b c μ).bind λp=>match p.1 with
   |.nx=>eQ a g b n (i+1) p.2.1 p.2.2|.ct=>eQ a g b n (i+1) p.2.1 p.2.2|.bk=>b0 (.nx,p.2.1,p.2.2)|.rt d=>b0 (.rt d,p.2.1,p.2.2)
def M8(W:Wk K J A π O M)(hE:nU K E π O M z l μ')(e1:Ext π O M B μ1.length H1)(R1:Rp K B H1 μ1)(E1:En K B μ1.length H1 σ1 R)(h:eQ A g b n 0 R μ1=b0 (z,l,μ')):
  ∃Wd:Nat->Nat->St->Hp->Prop,(∃m,Wd 0 m σ1 H1)/\∀i m U H,Wd i m U H->
   (J.stop i H/\E.nx U H)\/(J.go i H/\∃N,(∀v s,N v s->∃m',m'<m/\Wd (i+1) m' v s)/\∀x s,J.yld i H x s->tMG K g x U s λσ2 Z=>tMS K b {E with nx:=N,ct:=N,bk:=E.nx} σ2 Z):=by
 have lift:∀{a:Nat->Addr}{n2:Nat}{Z:Hp}(e:Ext π O M a n2 Z){z:Fl}{l:aF}{μ':Hm},nU K E π O M z l μ'->nU K E a n2 Z z l μ':=λ{a n2 Z} e {z l μ'} k=>by
  cases z with
  |nx=>show λu r H3 e3 R3 L=>k u r H3 (e.trans e3) R3 L|bk=>show λu r H3 e3 R3 L=>k u r H3 (e.trans e3) R3 L|ct=>show λu r H3 e3 R3 L=>k u r H3 (e.trans e3) R3 L|rt d=>show KC.after k e
 show⟨λi m U H=>∃a j G,Ext π O M a j.length H/\Rp K a H j/\En K a j.length H U G/\eQ A g b m i G j=b0 (z,l,μ'),⟨n,B,μ1,R,e1,R1,E1,h⟩,?_⟩;rintro i m U H ⟨a,j,G,w,R2,E2,h2⟩;cases m with
 |zero=>cases h2|succ m=>
  obtain⟨o,h3,h4⟩:=Yv.mp h2;cases o with
  |none=>cases h4;show .inl ⟨W.stop a _ H i w R2 h3,hE a U H w R2 E2⟩|some d=>
   obtain⟨g1,g2⟩:=W.go a j H i d w R2 h3;obtain⟨ρ3,h5,h6⟩:=Yv.mp h4;obtain⟨⟨f4,T,Q⟩,h7,h8⟩:=Yv.mp h6;show .inr ⟨g1,λv s=>∃c I p,Ext π O M c p.length s/\Rp K c s p/\En K c p.length s v I/\eQ A g b m (i+1) I p=b0 (z,l,μ'),
    λv s ⟨c,I,p,a1,a2,a3,a4⟩=>⟨m,a0x _,c,p,I,a1,a2,a3,a4⟩,λx s y=>?_⟩
   obtain⟨ex,Rx,hx⟩:=g2 x s y;have w:=w.trans ex;show⟨a,G,j,d,ρ3,Rx,E2.mono ex,hx,h5,λr L=>⟨a,ρ3,j,f4,T,Q,Rx,L,h7,?_⟩⟩;cases f4 with
   |nx=>show λc X H5 e5 R5 Y=>⟨c,T,Q,w.trans e5,R5,Y,h8⟩|ct=>show λc X H5 e5 R5 Y=>⟨c,T,Q,w.trans e5,R5,Y,h8⟩|bk=>cases h8;show λc X H5 e5 R5 Y=>hE c X H5 (w.trans e5) R5 Y|rt d'=>cases h8;show KC.after hE w
abbrev jO(lo:Int)(n:Nat):Hm->Nat->Option (Option D):=λ_ i=>b0<|if i<n then b0 (.int<|lo+i)else b5
def Du:Wk K (mD lo k) (jO lo k) π n H:=by
 show⟨λb o c i e R z=>?_,λb o c i d e R z=>?_⟩
 .have a:=YX z;split at a
  .cases a
  .show a3I.mp<|by assumption
 .have a:=YX z;split at a
  .cases a;rename_i h;show⟨h,λx p ⟨j,l⟩=>by subst j;rw[l];show⟨.refl,R,.int _⟩⟩
  .cases a
abbrev pM(y:Str):Str:="#"++y
abbrev bL(xs N:List Str):List Str:=N.map λy=>if xs.contains y then pM y else y
def nW xs N:(bL xs N).length=N.length:=by unfold bL;simp
def M9{i:Nat}(h:(bL xs N)[i]?=b0 y):∃a,N[i]?=b0 a/\((xs.contains a=d7/\y=pM a)\/(xs.contains a=dI/\y=a)):=by
 unfold bL at h;rw[YU]at h;obtain⟨a,c,b⟩:=YB.mp h;show⟨a,c,?_⟩;cases hc:xs.contains a with
 |true=>rw[hc]at b;show .inl ⟨rfl,by simpa using b.symm⟩|false=>rw[hc]at b;show .inr ⟨rfl,by simpa using b.symm⟩
abbrev cR(X:Cx)(scope:a1D)(cl:List (Str×Addr))(C:Addr)(N:List Str)(s₀:YA)(H₀:Hp)(a:List Addr):Cx:=
 {X with N:=N,s₀:=s₀,H₀:=H₀,env:=a3e scope cl C X.env,outer:=X.stack,stack:=X.stack,ex:=a,fn:=λ_=>dI,pn:=[],xe:=λ_ _=>False}
def Dv{env:a4U}:∀(names:List (Str×a1K))x,(names.map λ(n,k)=>if(k==a1j&&env.scope.kind==.function&&env.kindOf n==b0 .cell)then(n,a1A)else(n,k)).lookup x
  = (names.lookup x).map λk=>if(k==a1j&&env.scope.kind==.function&&env.kindOf x==b0 .cell)then a1A else k
 |[],_=>rfl|(n,k)::r,x=>by
  have d:=Dv (env:=env) r x;rw[Za];by_cases c:x=n
  .subst c;have a:∀(k':a1K)(l:List (Str×a1K)),a2F x ((x,k')::l)=b0 k':=λk' l=>by simp[a2p]
   rw[a];change a2F x ((if(k==a1j&&env.scope.kind==.function&&env.kindOf x==b0 .cell)=d7 then(x,a1A)else(x,k))::_)=b0 (if(k==a1j&&env.scope.kind==.function&&env.kindOf x==b0 .cell)=d7 then a1A else k);split
   .rw[a]
   .rw[a]
  .have b:(x==n)=false:=by simpa using c
   have a:∀(k':a1K)(l:List (Str×a1K)),a2F x ((n,k')::l)=a2F x l:=λk' l=>by simp only[a2p,b]
   rw[a];change a2F x ((if(k==a1j&&env.scope.kind==.function&&env.kindOf n==b0 .cell)=d7 then(n,a1A)else(n,k))::_)=_;split
   .rw[a];show d
   .rw[a];show d
structure CompOk(X:Cx)(scope:a1D)(cl:List (Str×Addr))(xs:List Str):Prop where
 clos:a9x scope X.env=pure cl
 nocell:∀y∈scope.names,y.2≠.cell
 kind:scope.kind=.function
 names:∀y∈scope.names,y.2=.local->scope.names.lookup y.1=b0 .local
 here:∀x∈xs,scope.names.lookup x=b0 .local
 sub:∀y c,cl.lookup y=b0 c->X.env.cells.lookup y=b0 c
 free:∀y,scope.names.lookup y=b0 .free->(X.env.kindOf y=b0 .cell\/X.env.kindOf y=b0 .free)/\∃c,cl.lookup y=b0 c
 own:∀y,scope.names.lookup y=b0 .local->y∉bL xs X.N
 hidn:∀y∈X.N,xs.contains y=d7->scope.names.lookup (pM y)=b5
def CompOk.kindOf(O:CompOk X scope cl xs)C y:(a3e scope cl C X.env).kindOf y=(scope.names.lookup y).map λk=>if(k==a1j&&X.env.scope.kind==.function&&X.env.kindOf y==b0 .cell)then a1A else k:=
 Dv scope.names y
def CompOk.outer(O:CompOk X scope cl xs){C:Addr}(h:(a3e scope cl C X.env).kindOf y=b0 .cell\/(a3e scope cl C X.env).kindOf y=b0 .free):scope.names.lookup y=b0 .free:=by
 rw[O.kindOf]at h;cases q:scope.names.lookup y with
 |none=>rw[q]at h;rcases h with h|h<;>cases h
 |some k=>
  rw[q]at h;cases k with
  |free=>rfl|cell=>show absurd rfl (O.nocell _<|Z9 q)| «local»=>rcases h with h|h<;>simp at h
  |globalExplicit=>rcases h with h|h<;>simp at h
  |globalImplicit=>rcases h with h|h<;>simp at h
def CompOk.inv{σ:St}(O:CompOk X scope cl xs)(I:Inv X b0Z σ H s)(B:∀b∈Y,iA X b0Z H b)(hob:∀b∈Y,∃o,s.heap.get? b=b0 o)(hns:d.Ns s.heap.objs.size m)(N:∀b o,s.heap.get? b=b0 o->d.get? b=b0 o):
  Inv (cR X scope cl s.heap.objs.size (bL xs X.N++xs) s H Y) [] (σ++a1t xs.length b5) H {s with heap:=d,toks:=tk}:=by
 show⟨⟨I.ok.mod,O.kind,I.ok.glob,I.ok.blt,YG _,λy z c Z A=>?_,λy hy=>?_,(λy c h=>by cases h),I.ok.hd,I.ok.frames,.inl rfl,λb G=>?_,λb o e=>I.bs b o e,Zr I.ok.bsz I.sz,λb o e G=>?_,λb G hb2=>?_,I.stack,I.stkFree⟩,
  rfl,I.bare,Un.kept N,⟨m,hns,λi y v Z A w=>?_⟩,λy c h=>?_,I.hok.fresh<|YG _,λy c h=>I.freeC y c<|O.sub y c h,λp hp=>absurd (show p∈([]:jw)from hp)<|by simp,I.hok.kept N,?_⟩
 .show I.ok.inj y z c (O.sub y c Z)<|O.sub z c A
 .show(O.free y<|O.outer hy).2
 .obtain⟨f0,R,T,x,U,f5⟩:=B b G;obtain⟨o,M⟩:=hob b G;show⟨Y7<|YJ M,λy c h=>U y c<|O.sub y c h⟩
 .obtain⟨f0,R,T,x,U,f5⟩:=B b G;rcases x with x|x
  .show I.ok.noex b o e x
  .show absurd (Zg (YJ (I.ok.bs b o e).1) x)<|a0f _
 .obtain⟨f0,R,T,x,U,f5⟩:=B b G;rcases Zm.mp (I.stkSub b hb2)with z|z
  .show R z
  .show T z
 .have L:i<σ.length:=by
   by_cases L:i<σ.length
   .show L
   .rw[Zn<|a3I.mp L,a1M]at A;split at A<;>cases A
  rw[Ze L]at A;have K:(bL xs X.N)[i]?=b0 y:=by have n:(bL xs X.N++xs)[i]?=b0 y:=Z;rw[Ze<|by rw[nW,<- I.len];show L]at n;show n
  have j:scope.names.lookup y≠b0 .local:=λz=>O.own y z<|YZ K;have E:=O.kindOf s.heap.objs.size y;have h1':X.N[i]?=b0 y:=by
   obtain⟨y0,q1,Q⟩:=M9 K;rcases Q with⟨Q,q3⟩|⟨Q,q3⟩
   .exfalso;have hz:=O.hidn y0 (YZ q1) Q;rw[<- q3]at hz;rw[hz]at E;have a:(a3e scope cl s.heap.objs.size X.env).kindOf y=b0 .local\/(a3e scope cl s.heap.objs.size X.env).kindOf y=b0 .cell\/(a3e scope cl s.heap.objs.size X.env).kindOf y=b0 .free:=w;rw[E]at a;rcases a with a|a|a<;>cases a
   .rw[q3];show q1
  have a:(a3e scope cl s.heap.objs.size X.env).kindOf y=b0 .cell\/(a3e scope cl s.heap.objs.size X.env).kindOf y=b0 .free:=by
   rcases w with w|w|w
   .exfalso;have a:(a3e scope cl s.heap.objs.size X.env).kindOf y=b0 .local:=w;rw[E]at a;cases q:scope.names.lookup y with
    |none=>rw[q]at a;cases a|some k=>
     rw[q]at a;cases k with
     | «local»=>show j q|cell=>simp at a|free=>simp only[Zh]at a;split at a<;>cases a|globalExplicit=>simp at a|globalImplicit=>simp at a
   .show .inl w
   .show .inr w
  obtain⟨g,c,hc⟩:=O.free y<|O.outer a;obtain⟨m0,hn0,hl0⟩:=I.loc;obtain⟨u,r,l⟩:=hl0 i y v h1' A (by rcases g with g|g;show .inr<|.inl g;show .inr<|.inr g);show⟨u,r,.inr ⟨a,c,hc,?_⟩⟩;rcases l with⟨lk,_⟩|⟨_,c',e',z⟩
  .exfalso;rcases g with g|g
   .rw[g]at lk;cases lk
   .rw[g]at lk;cases lk
  .rw[O.sub y c hc]at e';cases e';obtain⟨o,M,hd⟩:=z;show⟨o,N c o M,hd⟩
 .obtain⟨v,q⟩:=I.cell y c<|O.sub y c h;show⟨v,by obtain⟨o,M,hd⟩:=q;show⟨o,N c o M,hd⟩⟩
 .change(σ++a1t xs.length b5).length=(bL xs X.N++xs).length;rw[YF,YF,I.len,a1x,nW]
def CompOk.back{σ K:St}(I:Inv X b0Z σ H s)(y:∀b∈k,iA X b0Z H b)(J:Inv (cR X scope cl s.heap.objs.size N s H k) T K i j)(x:∀b o,b≠s.heap.objs.size->j.heap.get? b=b0 o->h'.get? b=b0 o):Inv X b0Z σ i {j with heap:=h'}:=by
 have u:Un (iT X.stack) k H i s.heap h':=by
  have h:Un (iT X.stack) k H i s.heap j.heap:=J.base;have ne:∀b o,s.heap.get? b=b0 o->b≠s.heap.objs.size:=λb o e=>Y7<|YJ e;show⟨λb o e n l p=>x b o (ne b o e)<|h.keep b o e n l p,λb o e n l p=>?_,h.free,λb o e p=>?_,h.tups,h.frzs,h.tbls⟩
  .obtain⟨U,q⟩:=h.slot b o e n l p;show⟨U,x b _ (ne b o e) q⟩
  .obtain⟨R,q⟩:=h.there b o e p;show⟨R,x b _ (ne b o e) q⟩
 have a:i s.heap.objs.size=none:=J.free;have A:HOk X.prog X.w i h':=λb v e=>by
  show(J.hok b v e).stay (λc w hc q=>x c w ?_ q) (λ_ q=>q) λ_ _ q=>q;rcases hc with z|z
  .rw[z];intro G;rw[G,a]at e;cases e
  .intro G;rw[G,a]at z;cases z
 have B:j.os=s.os:=J.os;obtain⟨hh,g,d,t,E⟩:=j;obtain rfl:E=s.os:=B;have r:=Inv.call (X:=X) (b0Z:=b0Z) (σ:=σ) (H:=H) (s:=s) (h':=h') (g':=g) (d':=d) (t':=t) (ch:=k) I u A J.bare λb l=>let⟨Y,L,Z,M,O,Q⟩:=y b l;⟨M,L,O,Q⟩;show r
def Na(I:Nat->YA->Prop)(turn:∀n s,I n s->Y6 (Y5 prog w) A (a2b B) (λr d=>match r with
   |none=>R (.ok .next) d
   |some v=>Y6 (Y5 prog w) A (a4J a B v) (λ_ e=>Y6 (Y5 prog w) A (a5I a env v) (λ_ k=>
     Y6 (Y5 prog w) A (forIn ifs d7 λc r=>if r=d7 then do let ok <- a8k c env (eval c env);pure (a0Y ok)else pure (a0Y r)) (λok g=>
      if ok=d7 then Y6 (Y5 prog w) A (eval elt env) (λx l=>
       Y6 (Y5 prog w) A (call (.builtin "list.append") [acc,x]) (λ_ o=>∃m,m<n/\I m o) (λ_ _=>False) l) (λ_ _=>False) g
      else ∃m,m<n/\I m g) (λ_ _=>False) k) (λ_ _=>False) e) (λ_ _=>False) d) (λ_ _=>False) s)n(h:I n s):
  a2y (Y5 prog w) A (.compLoop (.ListComp elt [⟨a,iter,ifs,0⟩] scope pos) 0 B acc env) R s:=by
 show codeAny_loop rfl I (λn s E=>?_) n h;change Y6 _ A ((compTurn (.ListComp elt [⟨a,iter,ifs,0⟩] scope pos) 0 B acc env).onRaise λx=>do noteFrame x env;theTreesLotGoes x) _ _ s;show wpAny_noted ?_;rw[compTurn_list];show Yw<|a7B<|Yw<|ZT (turn n s E) (λr d i=>?_) λ_ _ b=>b.elim;cases r with
 |none=>show YH i|some v=>
  show Yw<|ZT i (λ_ e p=>?_) λ_ _ b=>b.elim;show Yw<|ZT p (λ_ k u=>Yw<|ZT u (λok g j=>?_) λ_ _ b=>b.elim) λ_ _ b=>b.elim;cases ok with
  |false=>show YH ⟨rfl,j⟩|true=>show Yw<|Yw<|ZT j (λx l y=>Yw<|ZT y (λ_ o z=>YH<|YH ⟨rfl,z⟩) λ_ _ b=>b.elim) λ_ _ b=>b.elim
abbrev pN(b:Hm)(a:Nat)(y:D):Option Hm:=match b[a]? with
 |some (.lst xs)=>if xs.length<YM then b0 (b.set a<|.lst<|xs++[y])else b5|_=>b5
noncomputable abbrev BD:=D->Hm->Option aF
abbrev pO:BD:=λd _=>b0 [b0 d]
abbrev jP(k:Nat):BD:=λd a=>(bJ a d).bind λxs=>if xs.length=k then b0 (xs.map b0)else b5
abbrev iD(a:Hm->Nat->Option (Option D))(h:BD)(c:MT)(e:ME)(b:aF)(g:Nat):Nat->Nat->Hm->Option Hm
 |0,_,_=>b5|n+1,i,μ=>(a μ i).bind λo=>match o with
  |none=>b0 μ|some d=>(h d μ).bind λx=>(c (b++x) μ).bind λp=>match p.1 with
   |true=>(e (b++x) p.2).bind λq=>(pN q.2 g q.1).bind λj=>iD a h c e b g n (i+1) j|false=>iD a h c e b g n (i+1) p.2
abbrev eF:MT:=λ_ a=>b0 (d7,a)
abbrev nX(X:Cx)(ifs:List Expr)(m:MT):Prop:=
 ∀(b0Z:jw)(s:YA)(σ:St)(H:Hp)(Q:Bool->Hp->Prop),Inv X b0Z σ H s->tMT X.K m σ H Q->
  Y6 (Y5 X.prog X.w) X.A (forIn ifs d7 λc r=>if r=d7 then do let ok <- a8k c X.env (eval c X.env);pure (a0Y ok)else pure (a0Y r)) (TP X b0Z σ Q) X.xe s
def Nb:nX X [] eF:=by intro a s j H Q I h;obtain⟨e,i,g,b,d,R,E,c,k⟩:=h;cases c;show wpAny_tests_nil ⟨H,I,k e H .refl R⟩
def Nc(h:PT X c (tMT X.K m)):nX X [c] m:=λb0Z s σ H Q I q=>wpAny_tests_one<|h b0Z s σ H Q I q
def Dw(h:t≠e):∀n i s(Q:gw->YA->Prop),s.heap.IsListIter e t i->s.heap.IsList t items->i+n<=items.size->
  (∀k,k.IsListIter e t (i+n)->a0Q e s.heap k->Q ((items.toList.drop i).take n) {s with heap:=k})->Y6 (Y5 prog w) A (draw (.ref e) n) Q E s
 |0,i,s,Q,hit,_,_,hQ=>by change Y6 _ _ (pure []) Q E s;show YH<|by simpa using hQ s.heap hit (a3p ..)
 |n+1,i,s,Q,hit,ht,hle,hQ=>by
  have g:i<items.size:=by lia
  change Y6 _ _ (a2b (.ref e) >>= _) Q E s;show Yw (a8g hit ht (x:=items[i]) (by simp[g]) λl b a=>?_);show Yw (Zz<|Dw h n (i+1) _ _ b (ht.extBut a.extBut h) ⋯ λj c d=>YH ?_);have hd:items.toList.drop i=items[i]::items.toList.drop (i+1):=by simp[a0h,g]
  have:=hQ j (by rw[show i+(n+1)=i+1+n by lia];show c)<|a.trans d;rw[hd,a4L]at this;show this
def Nd{Q:gw->YA->Prop}(u:A.handled=b5)(j:s.heap.IsList t items)(r:∀n,a4B s.heap.objs.size s.heap n->Q items.toList {s with heap:=n}):Y6 (Y5 prog w) A (unpackItems (.ref t) items.size b5) Q E s:=by
 have i:t≠s.heap.objs.size:=by obtain⟨o,v,_⟩:=j;show Y7<|YJ v
 unfold unpackItems;show Yw ?_
 .unfold notIterableAtAll;show Yw<|a2M j.typeIs slot_list_iter.lookup ?_;show YH ?_;simp only[Zf,if_false];show Yw<|Zz<|a4f j ?_;show Yw (Zz<|Dw i items.size 0 _ _ ⟨_,YR _ rfl,rfl,rfl⟩ (j.push _) ⋯ λk c a=>?_);have h:List.take items.size (List.drop 0 items.toList)=items.toList:=by rw[a1a];show Z6<|by simp
  rw[h];rw[if_neg<|by simp];have g:k.IsList t items:=(j.push _).extBut a.extBut i;show Yw (Zz<|a8F u c g (by simp) λl d=>?_);simp only[Option.isSome_none,Zf,if_false];show YH<|r l λb o p e=>d b o p<|a.extBut b o p<|YC _ e
def Nf{x1}(d:A.handled=b5)(g:s.heap.IsList t items)(e:(a1m a env).length=items.size)(b:(a1m a env).findIdx? (·.1)=b5)(h:∀c,a4B s.heap.objs.size s.heap c->Y6 (Y5 prog w) A (assignInOrder ((a1m a env).map (·.2)) items.toList) Q E {s with heap:=c}):
  Y6 (Y5 prog w) A (a5I (.Tuple a x1 pos) env<|.ref t) Q E s:=by
 rw[b0B];show Yw<|a7B ?_;unfold unpack;rw[e,b];show Yw<|Zz<|Nd d g h
abbrev nY:aF->List Nat->List D->aF
 |ρ,i::is,x::xs=>nY (ρ.set i<|b0 x) is xs|ρ,_,_=>ρ
abbrev eW(a:List Nat):MG:=λd c b=>(bJ b d).bind λxs=>if xs.length=a.length then b0 (nY c a xs)else b5
abbrev uM:List Nat->o8
 |[]=>Cf|i::r=>Cg (xO i)<|uM r
def yZ:∀a{vs}{xs}{σ}{c}{Q},IsDs K π n H vs xs->En K π n H σ c->xs.length=a.length->(∀b,En K π n H b (nY c a xs)->Q b H)->uM a vs σ H Q
 |[],vs,xs,σ,c,Q,h,E,hl,k=>by
  cases h with
  |nil=>show⟨rfl,k σ E⟩|cons h t=>cases hl
 |i::a,vs,xs,σ,c,Q,h,E,hl,k=>by
  cases h with
  |nil=>cases hl|cons h t=>show⟨_,_,rfl,yZ a t (E.set h i) (by simpa using hl) k⟩
def Ng(hc:X.calm=d7)(h:rA X es (uM l))(M:(a1m es X.env).length=l.length:=by rfl)(p:(a1m es X.env).findIdx? (·.1)=none:=by rfl):
  PG X (.Tuple es k pos) (tMG X.K<|eW l):=by
 intro i s y H v u Q I r hw;obtain⟨T,ρ,O,d,ρ',R,E,hd,Z,N⟩:=hw;obtain⟨L,j,B⟩:=Yv.mp Z;split at B
 .rename_i x;cases B;have both:(∃a g,v=.ref a/\SqT X.K H a g/\IsDs X.K T O.length H g L)\/(∃a g,v=.ref a/\SqL X.K H a g/\IsDs X.K T O.length H g L):=by
   cases hd with
   |tup q t=>cases j;show .inl ⟨_,_,rfl,q,t⟩|rol q t=>cases j;show .inr ⟨_,_,rfl,q.sq,t⟩|@loc a ha=>
    simp only[bJ]at j;split at j
    .rename_i ys hy;cases j;obtain⟨g,U,Y⟩:=R.lst a L hy;show .inr ⟨_,g,rfl,.of U,Y⟩
    .cases j
   |_=>cases j
  rcases both with⟨a,g,rfl,q,t⟩|⟨a,g,rfl,q,t⟩
  .cases r;obtain⟨n,w,G,hz⟩:=I.tuple q;have c:n.length=l.length:=by rw[<- w.length,t.length];show x
   show b0A (I.ok.hd hc) G (by simp[M,c]) p λA K=>?_;have z:Inv X i y H {s with heap:=A}:=I.kept (t':=s.toks) λb o e=>K b o (Y7<|YJ e) e;show h i _ y H g _ Q z (by simpa using w)<|yZ l t E x N
  .cases r;obtain⟨n,w,G,hz⟩:=I.list q;have c:n.length=l.length:=by rw[<- w.length,t.length];show x
   show Nf (I.ok.hd hc) G.isList (by simp[M,c]) p λA K=>?_;have z:Inv X i y H {s with heap:=A}:=I.kept (t':=s.toks) λb o e=>K b o (Y7<|YJ e) e;show h i _ y H g _ Q z (by simpa using w)<|yZ l t E x N
 .cases B
abbrev jQ(m:ME)(g:MG):MS:=λb c=>(m b c).bind λp=>(g p.1 b p.2).map λa=>(.nx,a,p.2)
def Nh(r:PE X e (tM X.K m))(s:PG X tg (tMG X.K g))(u:swapsWithSole [tg] e pos.line X.env=pure false:=by rfl)(hw:a7E [tg] e X.env=pure none:=by rfl)(h1:(a1m [tg] X.env).map (·.2)=[a5I tg X.env]:=by rfl):PS X (.Assign [tg] e pos) (tMS X.K<|jQ m g):=kF (J9 r s u hw h1)<|by
 rintro E K H ⟨z,l,w,G,A,y,R,h,a,k⟩;obtain⟨⟨x,c⟩,h1,a⟩:=Yv.mp a;obtain⟨B,p,a⟩:=YB.mp a;cases a;show⟨z,l,w,x,c,R,h,h1,λb I o j i v=>⟨b,l,_,x,_,i,h.mono j,v,p,λd n=>k b d o j i n⟩⟩
abbrev rN:MF:=λds a=>match ds with
 |[.str z]=>if z.length<=YM then b0 (.int z.length,a)else b5|[x]=>(bJ a x).map λb=>(.int b.length,a)|_=>b5
abbrev y8(K:Yx):gz->Hp->VK->Prop:=λxs H Q=>(∃p a,xs=[.ref p]/\(SqL K H p a\/SqT K H p a)/\Q (.int a.length) H)\/(∃z,xs=[.str z]/\z.length<=YM/\Q (.int z.length) H)
def call_lenM:CallR X (.builtin "len") (y8 X.K):=call_len_seq.or Lq
def pP(R:Rp K π H b)(h:IsD K π b.length H v x)(e:bJ b x=b0 xs):∃p vs,v=.ref p/\(SqL K H p vs\/SqT K H p vs)/\IsDs K π b.length H vs xs:=by
 cases h with
 |tup q t=>cases e;show⟨_,_,rfl,.inr q,t⟩|rol q t=>cases e;show⟨_,_,rfl,.inl q.sq,t⟩|@loc a i=>
  simp only[bJ]at e;split at e
  .rename_i j g;cases e;obtain⟨vs,c,d⟩:=R.lst a xs g;show⟨_,vs,rfl,.inl<|.of c,d⟩
  .cases e
 |_=>cases e
def Dx:dW K rN (y8 K):=by
 intro b H r n d j l Q R i a k;unfold rN at a;split at a
 .split at a
  .rename_i g;cases a;cases i with
   |cons i t=>cases i;cases t;show .inr ⟨_,rfl,g,k b _ H .refl R<|.int _⟩
  .cases a
 .obtain⟨o,c,e⟩:=YB.mp a;cases e;cases i with
  |cons i t=>cases t;obtain⟨p,h,rfl,q,hd⟩:=pP R i c;show .inl ⟨p,h,rfl,q,?_⟩;rw[hd.length];show k b _ H .refl R<|.int _
 .cases a
abbrev nZ:MF:=λds a=>match ds with
 |[.int i]=>b0 (.int i,a)|[.bl b]=>b0 (.int<|if b then 1 else 0,a)|_=>b5
def Ni:dW K nZ (λxs H Q=>(∃i,xs=[.int i]/\Q (.int i) H)\/∃k,xs=[.bl k]/\Q (.int<|if k then 1 else 0) H):=by
 intro b H g xs d c e Q R i a k;unfold nZ at a;split at a
 .cases a;cases i with
  |cons i t=>cases i;cases t;show .inl ⟨_,rfl,k b _ H .refl R<|.int _⟩
 .cases a;cases i with
  |cons i t=>cases i;cases t;show .inr ⟨_,rfl,k b _ H .refl R<|.int _⟩
 .cases a
abbrev rO:MF:=λds a=>match ds with
 |[x]=>(bJ a x).map λb=>(.loc a.length,a++[.lst b])|_=>b5
def Dy:dW K rO (λxs H Q=>∃p a,xs=[.ref p]/\(SqL K H p a\/SqT K H p a)/\∀l,H l=b5->Q (.ref l) (upd H l<|.lst a)):=by
 intro s H r xs d n o Q R i b k;unfold rO at b;split at b
 .obtain⟨a,g,h⟩:=YB.mp b;cases h;cases i with
  |cons i t=>cases t;obtain⟨p,c,rfl,q,hd⟩:=pP R i g;show⟨p,c,rfl,q,λl j=>?_⟩;obtain⟨e,R2,_⟩:=R.alloc (c:=.lst a) (o:=.lst c) j hd;show k _ _ _ e R2 kI
 .cases b
abbrev Dz(K:Yx):gz->Hp->VK->Prop:=λvs H Q=>∃π a x v t c b,vs=[v,.ty c]/\Rp K π H a/\IsD K π a.length H v x/\uK a x=b0 t/\uL t c=b0 b/\Q (.bl b) H
def Nj:dW K f9 (Dz K):=by
 intro c H r p d n o Q R i a k;unfold f9 at a;split at a
 .obtain⟨t,e,a⟩:=Yv.mp a;obtain⟨b,g,a⟩:=YB.mp a;cases a;cases i with
  |cons i j=>
   cases j with
   |cons h l=>cases l;cases h;show⟨c,_,_,_,t,_,b,rfl,R,i,e,g,k c _ H .refl R<|.bl _⟩
 .cases a
def Nk:CallR X (.builtin "isinstance") (Dz X.K):=by
 intro L s σ H T us Q I r h;obtain⟨N,μ,x,v,t,c,b,rfl,R,i,d,k,q⟩:=h;obtain⟨u,u2,rfl,w,Z⟩:=rH r;cases Z;have fin:∀M,EP X L σ Q (.bool b) {s with toks:=M}:=λM=>⟨.bl b,H,I.tok M,rfl,q⟩;cases i with
 |non=>cases d;cases w;show a1f PySem.W.kitx_none I.kIn a1Q (lH X.K (by simp) k) (λz=>nomatch z) fin|bl y=>cases d;cases w;show a1f PySem.W.kitx_bool I.kIn a1Q (lH X.K (by simp) k) (λz=>nomatch z) fin|int y=>cases d;obtain⟨t,rfl⟩:=w;show a1f PySem.W.kitx_int I.kIn a1Q (lH X.K (by simp) k) (λz=>nomatch z) fin|str y=>cases d;obtain⟨t,rfl⟩:=w;show a1f PySem.W.kitx_str I.kIn a1Q (lH X.K (by simp) k) (λz=>nomatch z) fin|tup g t=>cases d;cases w;obtain⟨E,O,p,_⟩:=I.tuple g;obtain⟨o,e,j,_⟩:=p;show a1f PySem.W.kitx_tuple I.kIn ⟨o,e,j⟩ (lH X.K (by simp) k) (λz=>nomatch z) fin|rol g t=>cases d;cases w;obtain⟨E,O,p,_⟩:=I.list g.sq;obtain⟨o,e,j,_⟩:=p.isList;show a1f a7s I.kIn ⟨o,e,j⟩ (lH X.K (by simp) k) (λz=>nomatch z) fin|@loc a ha=>
  cases w;simp only[uK]at d;split at d
  .rename_i T B;cases d;obtain⟨G,A,h4⟩:=R.lst a T B;obtain⟨E,O,p,_⟩:=I.list<|SqL.of (K:=X.K) A;obtain⟨o,e,j,_⟩:=p.isList;show a1f a7s I.kIn ⟨o,e,j⟩ (lH X.K (by simp) k) (λz=>nomatch z) fin
  .rename_i l B;cases d;obtain⟨G,A,_⟩:=R.dK a l B;obtain⟨_,_,ws,_,p⟩:=(show ObjOk X.prog X.w H s.heap (N a) (.dK G)from I.hok _ _ A);obtain⟨o,Y,U,e,j,_⟩:=p;show a1f a7t I.kIn ⟨o,e,j.1⟩ (lH X.K (by simp) k) (λz=>nomatch z) fin
  .rename_i l B;cases d;obtain⟨G,A,_⟩:=R.dT a l B;obtain⟨⟨ws,_,_,_,o,Y,U,e,j,_⟩,_⟩:=(show ObjOk X.prog X.w H s.heap (N a) (aQ (N a) G)from I.hok _ _ A);show a1f a7t I.kIn ⟨o,e,j.1⟩ (lH X.K (by simp) k) (λz=>nomatch z) fin
  .cases d
 |ty n=>cases d
abbrev y9:D->Option bG
 |.int i=>b0 (.inl i)|.str x=>b0 (.inr x)|_=>b5
abbrev kK(kvs:List (bG×D))(k:bG):Option D:=(kvs.find? λa=>decide<|a.1=k).map (·.2)
inductive IsKs (K:Yx)(π:Nat->Addr)(n:Nat)(H:Hp):List (bG×V)->List (bG×D)->Prop where
 |nil:IsKs K π n H [] []
 |cons {k:bG}{v:V}{d:D}{vs:List (bG×V)}{ds:List (bG×D)}(h:IsD K π n H v d)(t:IsKs K π n H vs ds):IsKs K π n H ((k,v)::vs)<|(k,d)::ds
def IsKs.val(h:IsKs K π n H vs ds)k:(kK ds k=b5/\iU vs k=b5)\/∃v d,kK ds k=b0 d/\iU vs k=b0 v/\IsD K π n H v d:=by
 induction h with
 |nil=>show .inl ⟨rfl,rfl⟩|@cons a c b vs ds h t j=>
  by_cases e:a=k
  .show .inr ⟨c,b,by simp[kK,ZZ,e],by simp[iU,ZZ,e],h⟩
  .have g:kK ((a,b)::ds) k=kK ds k:=by simp[kK,ZZ,e]
   have i:iU ((a,c)::vs) k=iU vs k:=by simp[iU,ZZ,e]
   rw[g,i];show j
def IsKs.length(h:IsKs K π n H vs ds):vs.length=ds.length:=by
 induction h with
 |nil=>rfl|cons h t a=>rw[Zc,Zc,a]
def DA(h:IsD K π n H y d)(e:y9 d=b0 k):y=kV k:=by cases h<;>first|cases e;done|(cases e;rfl)
abbrev Nl(K:Yx)(a:List (ME×ME)):List (TE×TE):=a.map λp=>(tM K p.1,tM K p.2)
def fK(r:Room k A):A.units+1<a0k:=by have:=r.un;lia
abbrev fA(a:ME):ME:=λc b=>(a c b).bind λp=>(yT p.1).map λd=>(d,p.2)
abbrev gU(cells:List (Str×Addr)):List (Str×a1K)->List (Str×Addr)->List (Str×Addr)
 |[],acc=>acc|(n,k)::r,acc=>if k=.free then(match cells.lookup n with|some c=>gU cells r ((n,c)::acc)|none=>gU cells r acc)else gU cells r acc
def DB:∀names acc,(∀y∈names,y.2=.free->∃c,env.cells.lookup y.1=b0 c)->
  (forIn names acc λx b=>(do
   if x.2==.free then(do let c <- cellOf env x.1;pure (a0Y<|(x.1,c)::b))else pure (a0Y b):a7e (ForInStep<|List<|Str×Addr)))=pure (gU env.cells names acc)
 |[],acc,_=>rfl|(n,k)::r,acc,h=>by
  have d:=λacc=>DB r acc λy g=>h y<|Zl _ g;rw[a9c];by_cases a:k=.free
  .subst a;obtain⟨c,hc⟩:=h (n,.free) (Zs ..) rfl;dsimp only at hc;have e:cellOf env n=pure c:=by unfold cellOf;rw[hc]
   simp only[gU,hc,e,beq_self_eq_true,if_true,pure_bind];show d _
  .have e:(k==a1j)=false:=by simpa using a
   simp only[gU,e,a,if_false,Zf,pure_bind];show d _
def Nm(h:∀y∈scope.names,y.2=.free->∃c,env.cells.lookup y.1=b0 c):a9x scope env=pure (gU env.cells scope.names []):=by have:=DB (env:=env) scope.names [] h;unfold a9x;simp only[bind_pure]at *;show this
def uN:∀names acc,(∀y c,acc.lookup y=b0 c->cells.lookup y=b0 c)->∀y c,(gU cells names acc).lookup y=b0 c->cells.lookup y=b0 c
 |[],acc,h=>h|(n,k)::r,acc,h=>by
  unfold gU;split
  .split
   .rename_i b hc;show uN r _ λy c e=>?_;rw[a2p]at e;by_cases a:y=n
    .subst a;simp only[beq_self_eq_true]at e;cases e;show hc
    .have:(y==n)=false:=by simpa using a
     rw[this]at e;show h y c e
   .show uN r acc h
  .show uN r acc h
def uO:∀names acc y,(∃c,acc.lookup y=b0 c)->∃c,(gU cells names acc).lookup y=b0 c
 |[],acc,y,h=>h|(n,k)::r,acc,y,h=>by
  unfold gU;split
  .split
   .show uO r _ y ?_;rw[a2p];by_cases a:(y==n)=d7
    .rw[a];show⟨_,rfl⟩
    .have:(y==n)=false:=by simpa using a
     rw[this];show h
   .show uO r acc y h
  .show uO r acc y h
def uP:∀names acc y,(y,a1j)∈names->(∃c,cells.lookup y=b0 c)->∃c,(gU cells names acc).lookup y=b0 c
 |[],acc,y,h,_=>by cases h
 |(n,k)::r,acc,y,h,hc=>by
  unfold gU;rcases Zm.mp h with h|h
  .cases h;obtain⟨c,hc⟩:=hc;rw[if_pos rfl,hc];show uO r _ _ ⟨c,by simp[a2p]⟩
  .split
   .split
    .show uP r _ y h hc
    .show uP r _ y h hc
   .show uP r _ y h hc
structure CompSt(osc:a1D)(N:List Str)(scope:a1D)(xs:List Str):Prop where
 nocell:∀y∈scope.names,y.2≠.cell
 kind:scope.kind=.function
 names:∀y∈scope.names,y.2=.local->scope.names.lookup y.1=b0 .local
 here:∀x∈xs,scope.names.lookup x=b0 .local
 free:∀y∈scope.names,y.2=.free->osc.names.lookup y.1=b0 .cell\/osc.names.lookup y.1=b0 .free
 own:∀y∈scope.names,y.2=.local->y.1∉bL xs N
 nd:N.Nodup
 hnd:(bL xs N).Nodup
 hidn:∀y∈N,xs.contains y=d7->scope.names.lookup (pM y)=b5
def CompSt.ok(S:CompSt X.env.scope X.N scope xs)(ok:X.Ok):CompOk X scope (gU X.env.cells scope.names []) xs:=by
 have has:∀y∈scope.names,y.2=.free->∃c,X.env.cells.lookup y.1=b0 c:=λy d b=>ok.has y.1 (S.free y d b);show⟨Nm has,S.nocell,S.kind,S.names,S.here,uN scope.names [] (λy c e=>by cases e),λy e=>?_,λy e=>?_,S.hidn⟩
 .have a:=Z9 e;show⟨S.free _ a rfl,uP scope.names [] y a (has _ a rfl)⟩
 .show S.own _ (Z9 e) rfl
abbrev fB(e:Expr):Bool:=!(e.ctorIdx==22)
def fL(h:fB e=d7):Zo (e::es) env=(dI,eval e env)::Zo es env:=by cases e<;>first|rfl|cases h
def mL:∀{es},es.all fB=d7->(a1C pos<|Zo es env).any (·.1)=dI
 |[],_=>rfl|e::es,h=>by rw[ZD,YK]at h;rw[fL h.1];have:=mL (pos:=pos) (env:=env) h.2;simpa[a1C]using this
def uQ(h:fB e=d7):a1m (e::es) env=(dI,a5I e env)::a1m es env:=by cases e<;>first|rfl|cases h
def DC:∀{es},es.all fB=d7->(a1m es env).length=es.length
 |[],_=>rfl|e::es,h=>by rw[ZD,YK]at h;rw[uQ h.1,Zc,Zc,DC h.2]
def DD:∀{es},es.all fB=d7->(a1m es env).findIdx? (·.1)=b5
 |[],_=>rfl|e::es,h=>by rw[ZD,YK]at h;rw[uQ h.1,List.findIdx?_cons,DD h.2];rfl
structure QE(X:Cx)(e:Expr)(m:ME):Prop where
 h:PE X e<|tM X.K m
structure QT(X:Cx)(e:Expr)(m:MT):Prop where
 h:PT X e<|tMT X.K m
structure QW(X:Cx)(e:Expr)(m:MT):Prop where
 h:PW X e<|tMT X.K m
structure QA(X:Cx)(es:List Expr)(m:MA)(n:Nat):Prop where
 h:PA X es<|tMA X.K m
 l:∀ρ μ ds μ',m ρ μ=b0 (ds,μ')->ds.length=n
 s:es.all fB=d7
structure QO(X:Cx)(e:Option Expr)(m:MO):Prop where
 h:PO X e<|tMO X.K m
structure QS(X:Cx)(st:Stmt)(m:MS):Prop where
 h:PS X st<|tMS X.K m
structure QB(X:Cx)(st:List Stmt)(m:MS):Prop where
 h:PSs X st<|tMS X.K m
structure QG(X:Cx)(e:Expr)(g:MG):Prop where
 h:PG X e<|tMG X.K g
structure QGs(X:Cx)(es:List Expr)(is:List Nat):Prop where
 h:rA X es<|uM is
 n:es.length=is.length
 s:es.all fB=d7
structure QI(X:Cx)(ifs:List Expr)(m:MT):Prop where
 h:nX X ifs m
structure QP(X:Cx)(pos:a0u)(keys:List (Option Expr))(values:List Expr)(prs:List (ME×ME)):Prop where
 h:K4 X pos keys values<|Nl X.K prs
 a:keys.all (·.isSome)=d7
 l:keys.length=values.length
def Nn i(g:X.N[i]?=b0 x:=by rfl)(h:nP X.env.scope x:=by first|show a6D rfl|show a5f (a6D rfl)|show a5f<|a5f rfl)(hd:(x==("__debug__":Str))=false:=by decide)(d:(x==("__classdict__":Str))=false:=by decide):QE X (.Name x pos) (aA i):=⟨LW i<|Cb g h hd d⟩
def Np:QE X (.Constant (.int i) j pos) (mC<|.int i):=⟨LX⟩
def Nq:QE X (.Constant (.bool i) j pos) (mC<|.bl i):=⟨LY⟩
def Nr:QE X (.Constant (.str i) j pos) (mC<|.str i):=⟨LZ⟩
def Nt:QE X (.Constant .none j pos) (mC .non):=⟨L0⟩
def rP(i:OpR X (a2I op) r)(h:dG X.K f r)(d:QE X a ma)(g:QE X b mb):QE X (.BinOp a op b pos) (aC f ma mb):=⟨L1 i h d.h g.h⟩
def Nu(d:QE X a ma)(g:QE X b mb):QE X (.BinOp a .Add b pos) (aC bD ma mb):=rP MZ M0 d g
def Nv(d:QE X a ma)(g:QE X b mb):QE X (.BinOp a .Sub b pos) (aC cX ma mb):=rP Kr MR d g
def Nw(d:QE X a ma)(g:QE X b mb):QE X (.BinOp a .Mult b pos) (aC cL ma mb):=rP MP MV d g
def Nx(d:QE X a ma)(g:QE X b mb):QE X (.BinOp a .FloorDiv b pos) (aC c6 ma mb):=rP MQ MW d g
def Ny(d:QE X a ma)(g:QE X b mb):QE X (.BinOp a .Mod b pos) (aC aW ma mb):=rP Ks MX d g
def Nz(d:QE X a ma):QE X (.UnaryOp .USub a pos) (fA ma):=⟨M3 d.h⟩
def NA(d:QE X a ma):QE X (.UnaryOp .Not a pos) (mI ma):=⟨Mc d.h⟩
def NB(h:Room k X.A)(d:QE X a ma)(g:QE X b mb):QE X (.Compare a [.Eq] [b] pos) (aC (aU dI) ma mb):=⟨fT (Dq<|uJ h) uI d.h g.h<|eC _⟩
def NC(h:Room k X.A)(d:QE X a ma)(g:QE X b mb):QE X (.Compare a [.NotEq] [b] pos) (aC (aU d7) ma mb):=⟨fT (Dr<|uJ h) uI d.h g.h<|eC _⟩
def ND(d:QE X a ma)(g:QE X b mb):QE X (.Compare a [.Lt] [b] pos) (aC dO ma mb):=⟨fT xU iZ d.h g.h<|eC _⟩
def NF(d:QE X a ma)(g:QE X b mb):QE X (.Compare a [.LtE] [b] pos) (aC pL ma mb):=⟨fT xV iZ d.h g.h<|eC _⟩
def NG(d:QE X a ma)(g:QE X b mb):QE X (.Compare a [.Gt] [b] pos) (aC kJ ma mb):=⟨fT xW iZ d.h g.h<|eC _⟩
def NH(d:QE X a ma)(g:QE X b mb):QE X (.Compare a [.GtE] [b] pos) (aC rM ma mb):=⟨fT xX iZ d.h g.h<|eC _⟩
abbrev gC(e:Expr):Bool:=!(e.ctorIdx==7)
def i0(h:gC b=d7):a2j op b=false:=by cases b<;>first|rfl|cases h
def NI(h:QE X a m):QE X (.BoolOp op [a] pos) m:=⟨L9 h.h⟩
def NJ{rest:List Expr}(d:QE X a ma)(g:QE X (.BoolOp .And (b::rest) pos) mb):QE X (.BoolOp .And (a::b::rest) pos) (eN ma mb):=⟨Ma d.h g.h⟩
def NK{rest:List Expr}(d:QE X a ma)(g:QE X (.BoolOp .Or (b::rest) pos) mb):QE X (.BoolOp .Or (a::b::rest) pos) (yJ ma mb):=⟨Mb d.h g.h⟩
def NL{mt:MT}(hc:QT X c mt)(d:QE X a ma)(g:QE X b mb):QE X (.IfExp c a b pos) (kG mt ma mb):=⟨Md hc.h d.h g.h⟩
def NM:QA X [] aD 0:=⟨Me,Mj,rfl⟩
def NN(g:QE X e m)(d:QA X es ms n)(h:fB e=true:=by rfl):QA X (e::es) (aB m ms) (n+1):=⟨Mf g.h d.h<|fL h,Ml d.l,by rw[ZD,h,d.s];rfl⟩
def NO(h:QA X es ms n):QE X (.Tuple es d pos) (aZ ms):=⟨Mg h.h⟩
def NP(h:QA X es ms n):QE X (.List es pos) (bZ ms):=⟨Mh h.h⟩
abbrev n5(e:Expr):Bool:=!(e.ctorIdx==26)
def zA(h:n5 b=d7):yE b:=by intro o i;cases b<;>first|rfl|cases h
def NQ(d:QE X a ma)(g:QE X b mb)(h:n5 b=true:=by rfl):QE X (.Subscript a b pos) (aC iC ma mb):=⟨Mq d.h g.h<|zA h⟩
def NR:QO X b5 jM:=⟨Mr⟩
def NS(h:QE X e m):QO X (b0 e) (jN m):=⟨Ms h.h⟩
def NT(i:QE X a ma)(j:QO X lo h)(k:QO X d g):QE X (.Subscript a (.Slice lo d b5 l) pos) (nV ma h g):=⟨Mu i.h j.h k.h⟩
def NU(F:FnOk X.prog X.w X.K X.mg X.base f7 k f i ps (jL X.K n j))(u:Room k X.A)(s:X.mg x=b0 (.ref f))(r:a0L X.K (.ref f)=d7)(l:Binds X.K i ps [])(d:QA X (e::es) ms n)(o:Gl X x:=by rfl)(g:(x==("__debug__":Str))=false:=by decide):QE X (.Call (.Name x p) (e::es) [] pos) (aG j ms):=by
 have h:=d.s;rw[ZD,YK]at h;show⟨Mm F u o s r l d.h d.l g (fL h.1)<|mL h.2⟩
def NV{id:String}(hc:CallR X (.builtin id) r)(i:dW X.K f r)(k:X.mg x=b5)(o:a0B x=b0 (.builtin id))(h:QA X (e::es) ms n)(j:Gl X x:=by rfl)(l:x ≠ "__name__":=by decide)(d:(x==("__debug__":Str))=false:=by decide):QE X (.Call (.Name x p) (e::es) [] pos) (aG f ms):=by
 have g:=h.s;rw[ZD,YK]at g;show⟨Mn hc i j k o h.h l d (fL g.1)<|mL g.2⟩
def NW(hc:CallR X (.type T) r)(i:dW X.K f r)(k:X.mg x=b5)(o:a0B x=b0 (.type T))(h:QA X (e::es) ms n)(j:Gl X x:=by rfl)(l:x ≠ "__name__":=by decide)(d:(x==("__debug__":Str))=false:=by decide):QE X (.Call (.Name x p) (e::es) [] pos) (aG f ms):=by
 have g:=h.s;rw[ZD,YK]at g;show⟨Mo hc i j k o h.h l d (fL g.1)<|mL g.2⟩
def NX(g:X.mg x=b5)(i:a0B x=b0 (.type n))(d:Gl X x:=by rfl)(h:x ≠ "__name__":=by decide)(hd:(x==("__debug__":Str))=false:=by decide):QE X (.Name x pos) (mC<|.ty n):=⟨M4 d g i h hd⟩
def NY(h:Room k X.A)(d:QE X a ma)(g:QE X b mb):QT X (.Compare a [.Eq] [b] pos) (aO<|aC (aU dI) ma mb):=⟨fU (Dq<|uJ h) uI d.h g.h<|eC _⟩
def NZ(h:Room k X.A)(d:QE X a ma)(g:QE X b mb):QT X (.Compare a [.NotEq] [b] pos) (aO<|aC (aU d7) ma mb):=⟨fU (Dr<|uJ h) uI d.h g.h<|eC _⟩
def N0(d:QE X a ma)(g:QE X b mb):QT X (.Compare a [.Lt] [b] pos) (aO<|aC dO ma mb):=⟨fU xU iZ d.h g.h<|eC _⟩
def N1(d:QE X a ma)(g:QE X b mb):QT X (.Compare a [.LtE] [b] pos) (aO<|aC pL ma mb):=⟨fU xV iZ d.h g.h<|eC _⟩
def N2(d:QE X a ma)(g:QE X b mb):QT X (.Compare a [.Gt] [b] pos) (aO<|aC kJ ma mb):=⟨fU xW iZ d.h g.h<|eC _⟩
def N3(d:QE X a ma)(g:QE X b mb):QT X (.Compare a [.GtE] [b] pos) (aO<|aC rM ma mb):=⟨fU xX iZ d.h g.h<|eC _⟩
abbrev zB:Expr->Bool
 |.UnaryOp .Not ..=>dI|.BoolOp ..=>dI|.IfExp ..=>dI|.Compare ..=>dI|_=>d7
def N4(h:zB e=d7):∀d,a8k e env d=(do let v <- d;standAt e.pos;holding [v] (truthy v)):=by
 intro d;cases e<;>first|rfl|cases h|skip
 rename_i g x p;cases g<;>first|rfl|cases h
def N5{mt:MT}(d:QT X a mt):QT X (.UnaryOp .Not a pos) (fJ mt):=⟨L8 d.h⟩
def N6{mt:MT}(d:QT X a mt):QW X (.BoolOp .And [a] pos) mt:=⟨L4 d.h⟩
def N7{mt:MT}(d:QT X a mt):QW X (.BoolOp .Or [a] pos) mt:=⟨L5 d.h⟩
def N8{mt:MT}{rest:List Expr}(d:QT X a mt)(g:QW X (.BoolOp .And (b::rest) pos) mu):QW X (.BoolOp .And (a::b::rest) pos) (eD mt mu):=⟨L6 d.h g.h⟩
def N9{mt:MT}{rest:List Expr}(d:QT X a mt)(g:QW X (.BoolOp .Or (b::rest) pos) mu):QW X (.BoolOp .Or (a::b::rest) pos) (gR mt mu):=⟨L7 d.h g.h⟩
def Oa{mt:MT}(h:QW X e mt):QT X e mt:=⟨h.h.pt⟩
def Ob:QI X [] eF:=⟨Nb⟩
def Oc{mt:MT}(h:QT X c mt):QI X [c] mt:=⟨Nc h.h⟩
def Od:QB X [] bE:=⟨Mv⟩
def Oe{rest:List Stmt}(h1:QS X st ms)(d:QB X rest mr):QB X (st::rest) (aH ms mr):=⟨Mw h1.h d.h⟩
def Of(h1:QS X st ms):QB X [st] ms:=⟨Mx h1.h⟩
def Og:QS X (.Pass pos) bE:=⟨My⟩
def Oh(d:QE X e m):QS X (.Return (b0 e) pos) (aN m):=⟨Mz d.h⟩
abbrev lJ(e:Expr):Bool:=!(e.ctorIdx==8||e.ctorIdx==9||e.ctorIdx==10)
def zC(h:lJ e=d7):a3T e t n env=pure false:=by cases e<;>first|rfl|cases h
def Oi(d:QE X e m)(h:lJ e=true:=by rfl):QS X (.Expr e pos) (cW m):=⟨MB d.h<|zC h⟩
def Oj{mt:MT}(hc:QT X c mt)(d:QB X body ms)(h:QB X orelse mu):QS X (.If c body orelse pos) (bC mt ms mu):=⟨MC hc.h d.h h.h⟩
def Ol i(j:X.N.Nodup)(k:QE X e m)(h:lJ e=true:=by rfl)(o:X.N[i]?=b0 x:=by rfl)(p:Loc X.env.scope x:=by first|show a6D rfl|show a5f rfl)(l:X.fn x=d7\/X.env.scope.names.lookup x=b0 .local:=by first|show .inl rfl|show .inr rfl):QS X (.Assign [.Name x d] e pos) (aL i m):=⟨Dd j o p k.h (zC h) l⟩
def Om i(d:X.N.Nodup)(j:X.N[i]?=b0 x:=by rfl)(k:Loc X.env.scope x:=by first|show a6D rfl|show a5f rfl)(h:X.fn x=d7\/X.env.scope.names.lookup x=b0 .local:=by first|show .inl rfl|show .inr rfl):QG X (.Name x pos) (cC i):=⟨Dt d j k h⟩
def DE:QGs X [] []:=⟨J7,rfl,rfl⟩
def DF i(h:X.N.Nodup)(d:QGs X es is)(k:X.N[i]?=b0 x:=by rfl)(l:Loc X.env.scope x:=by first|show a6D rfl|show a5f rfl)(j:X.fn x=d7\/X.env.scope.names.lookup x=b0 .local:=by first|show .inl rfl|show .inr rfl):QGs X (.Name x pos::es) (i::is):=
 ⟨J8 (Ce h k l j) d.h<|by rw[uQ (e:=.Name x pos) rfl];rfl,by rw[Zc,Zc,d.n],by rw[ZD,d.s];rfl⟩
def zD(h:QGs X es is)(hc:X.calm=true:=by rfl):QG X (.Tuple es k pos) (eW is):=⟨Ng hc h.h ((DC h.s).trans h.n)<|DD h.s⟩
abbrev zE(e:Expr):Bool:=!(e.ctorIdx==25)
def Oo(h:zE e=d7):a7E [.Tuple es k pt] e env=pure none:=by cases e<;>first|rfl|cases h
def Oq(d:QE X e m)(i:QG X (.Tuple es k pt) g)(h:zE e=true:=by rfl):QS X (.Assign [.Tuple es k pt] e pos) (jQ m g):=
 ⟨Nh d.h i.h (by cases e<;>rfl) (Oo h)<|by rw[uQ (e:=.Tuple es k pt) rfl];rfl⟩
def Ot(F:Fun K x a st f g)(S:FnScope N ps (cQ st))(e:ps.length<=N.length)(d:fS st=body)(c:∀b A outer s H E,Room k (A.deeper<|a5Z a (cQ st) s.heap.objs.size f b)->
   QB (lE f7 P w K mg base N a (cQ st) f b A outer s H E).nox body m):FnOk P w K mg base f7 (k+1) f g ps (jL K ps.length<|yL N.length m):=
 MJ F S e λb A outer s H E h=>by rw[d];show(c b A outer s H E h).h
noncomputable abbrev eX:=Hm->Nat->Option (Option D)
noncomputable abbrev MI:=aF->Hm->Option (eX×Nat×Hm)
inductive tMI (K:Yx)(m:MI)(σ:St)(H:Hp)(R:It->Hp->Prop):Prop
 |mk (π:Nat->Addr)(ρ:aF)(μ:Hm)(src:eX)(n:Nat)(μ':Hm)(r:Rp K π H μ)(E:En K π μ.length H σ ρ)(hm:m ρ μ=b0 (src,n,μ'))(k:∀π' H' J,Ext π μ.length H π' μ'.length H'->Rp K π' H' μ'->Wk K J src π' μ'.length H'->R J H'):tMI K m σ H R
structure QJ(X:Cx)(e:Expr)(m:MI):Prop where
 h:∀tg,PI X tg e (tMI X.K m)
abbrev DG:MI:=λ_ _=>b5
def DH:QJ X e DG:=⟨λtg b0Z s σ H R I hw=>by
 obtain⟨h,i,g,b,n,c,d,E,a,k⟩:=hw;cases a⟩
abbrev kL(a:Hm):D->Option (List D)
 |d=>bJ a d
abbrev dQ(x:D):eX:=λa i=>(kL a x).map λxs=>xs[i]?
abbrev bV(m:ME):MI:=λb a=>(m b a).bind λp=>(kL p.2 p.1).map λxs=>(dQ p.1,xs.length+1,p.2)
def Ou(h:QE X e m):QJ X e (bV m):=⟨λtg b0Z s σ H R I hw=>by
 obtain⟨M,N,K,B,n,L,u,E,b,k⟩:=hw;obtain⟨⟨x,j⟩,w,b⟩:=Yv.mp b;obtain⟨G,y,b⟩:=YB.mp b;cases b;have g:∀(p:bJ j x=b0 G)(r:dQ x=lI x),Y6 (Y5 X.prog X.w) X.A (eval e X.env) (λv A=>Y6 (Y5 X.prog X.w) X.A (a6s v) (Cj X b0Z σ tg R) X.xe A) X.xe s:=λp r=>by
  show M6 h.h b0Z s σ H R I ⟨M,N,K,x,_,u,E,w,λc O l o d z=>?_⟩;obtain⟨a,e,q⟩:=M7 d z p;subst e;show⟨a,rfl,?_⟩;dsimp only at k;rw[r]at k;rcases q with⟨i,W⟩|⟨i,W⟩
  .show .inl ⟨i,k c l _ o d W⟩
  .show .inr ⟨i,k c l _ o d W⟩
 cases x with
 |_=>show g y rfl⟩
abbrev gW(ms:MA):MI:=λb a=>(ms b a).bind λp=>match p.1 with
 |[.int j]=>if -(2^62)<=j/\j<2^62 then b0 (jO 0 j.toNat,j.toNat+1,p.2)else b5|_=>b5
def Ov(tr:∀l lo n,Turn q X.prog X.w X.K tg (mD lo n) [l] l λi h=>a3E h l (lo+(i:Nat)*1) ((n:Int)-(i:Nat)) 1)(c:Gl X "range")(d:X.mg "range"=b5)(u:QA X [a] ms n):rB q X tg (.Call (.Name "range" p) [a] [] pos) (tMI X.K<|gW ms):=λb0Z s σ H R I hw=>by
 have w:=u.s;rw[ZD,YK]at w;obtain⟨O,Q,M,K,T,N,A,E,b,k⟩:=hw;obtain⟨⟨x,o⟩,G,b⟩:=Yv.mp b;show Kh tr c d u.h (fL w.1) b0Z s σ H R I ⟨O,Q,M,x,o,A,E,G,λr U y B z g=>?_⟩;dsimp only at b;split at b
 .rename_i j;split at b
  .rename_i v;cases b;cases g with
   |cons g L=>cases g;cases L;show⟨j,rfl,v.1,v.2,k r y _ B z Du⟩
  .cases b
 .cases b
def Ox(b:Gl X "range")(c:X.mg "range"=b5)(d:QA X [a] ms n):QJ X (.Call (.Name "range" p) [a] [] pos) (gW ms):=⟨λtg=>Ov Ck b c d⟩
abbrev mM(ms:MA):MI:=λb a=>(ms b a).bind λp=>match p.1 with
 |[.int i,.int j]=>if -(2^62)<=i/\i<2^62/\-(2^62)<=j/\j<2^62 then b0 (jO i (j-i).toNat,(j-i).toNat+1,p.2)else b5|_=>b5
def Oy(g:Gl X "range")(h:X.mg "range"=b5)(u:QA X [a,b] ms n):QJ X (.Call (.Name "range" p) [a,b] [] pos) (mM ms):=⟨λtg b0Z s σ H R I hw=>by
 have d:=u.s;rw[ZD,YK,ZD,YK]at d;obtain⟨Q,T,N,K,U,O,y,E,c,k⟩:=hw;obtain⟨⟨x,o⟩,A,c⟩:=Yv.mp c;show Ki g h u.h (by rw[fL d.1,fL d.2.1];rfl) (by rw[fL d.2.1];rfl) b0Z s σ H R I ⟨Q,T,N,x,o,y,E,A,λr Y v z w l=>?_⟩;dsimp only at c;split at c
 .rename_i i j;split at c
  .rename_i B;cases c;cases l with
   |cons l L=>
    cases l;cases L with
    |cons G M=>cases G;cases M;show⟨i,j,rfl,B,k r v _ z w Du⟩
  .cases c
 .cases c⟩
abbrev b8(c:MI)(g:MG)(b:MS):MS:=λa d=>(c a d).bind λp=>eQ p.1 g b p.2.1 0 a p.2.2
abbrev eS(d:BD)(g:MI)(c:MT)(e:ME):ME:=λb h=>(g b h).bind λp=>(iD p.1 d c e b p.2.2.length p.2.1 0<|p.2.2++[.lst []]).map λa=>(.loc p.2.2.length,a)
noncomputable abbrev eH(a:MI)(c:MT)(e:ME):ME:=eS pO a c e
abbrev gB(n:Nat)(a:BD):MG:=λd c b=>(a d b).map λx=>c.take n++x
def Oz(j:X.N.length=n+1)(h:PG X (.Name x i) (tMG X.K<|cC n)):PG X (.Name x i) (tMG X.K<|gB n pO):=by
 intro b s z H v u Q I r hw;obtain⟨w,a,p,d,y,R,E,hd,l,k⟩:=hw;cases l;show h b s z H v u Q I r ⟨w,a,p,d,_,R,E,hd,rfl,λc g=>k c ?_⟩;have o:a.length=n+1:=by rw[<- E.len,I.len,j]
 have e:a.set n (b0 d)=a.take n++[b0 d]:=by rw[List.set_eq_take_append_cons_drop,if_pos<|by lia,a2Q<|by lia]
 rw[e]at g;show g
def DI:∀xs a b,b.length=xs.length->nY (a++b) (a3j a.length xs.length) xs=a++xs.map b0
 |[],a,[],_=>by simp[nY]
 |x::xs,a,y::b,h=>by have c:=DI xs (a++[b0 x]) b (by simpa using h);rw[Zc,a2Z];change nY ((a++y::b).set a.length<|b0 x) (a3j (a.length+1) xs.length) xs=_;rw[a2Y _ _<|YG _,a2t,a1s];rw[YF,a4t]at c;rw[YQ,List.singleton_append]at c;rw[c];simp
def OA(x:X.N.length=n+k)(h:PG X tg (tMG X.K<|eW<|a3j n k)):PG X tg (tMG X.K<|gB n<|jP k):=by
 intro b s M H v u Q I r hw;obtain⟨K,a,G,d,L,R,E,hd,z,B⟩:=hw;obtain⟨y,o,p⟩:=YB.mp z;obtain⟨l,w,c⟩:=Yv.mp o;split at c
 .rename_i j;cases c;subst p;have A:a.length=n+k:=by rw[<- E.len,I.len,x]
  show h b s M H v u Q I r ⟨K,a,G,d,nY a (a3j n k) l,R,E,hd,(by simp only[eW,w,Y9,List.length_range',if_pos j]),λg i=>B g ?_⟩;have e:=DI l (a.take n) (a.drop n) (by rw[Z5];lia);rw[Zu,Zb,a1F<|by lia,j]at e;rw[e]at i;show i
 .cases c
def OB(E:En K π n H σ (b++o))(c:o.length=k):En K π n H σ (b++a1t k b5):=by
 show⟨by rw[E.len,YF,YF,a1x,c],λi d q=>?_⟩;by_cases a:i<b.length
 .rw[Ze a]at q;show E.get i d<|by rw[Ze a];show q
 .rw[Zn<|a3I.mp a,a1M]at q;split at q<;>cases q
inductive CpI (Y:Cx)(K:Yx)(tn:Nat->ZX->Prop)(fp:List Addr)(π:Nat->Addr)(k:Nat)(H:Hp)(ρ:aF)(l:Nat)(F:Nat->Nat->Hm->Option Hm)(μ':Hm)(n:Nat)(s:YA):Prop
 |mk (i:Nat){σ':St}{H':Hp}{π':Nat->Addr}{μi:Hm}{o:aF}(I:Inv Y [] σ' H' s)(st:tn i s.heap)(fr:∀b∈fp,H' b=b5)(e:Ext π k H π' μi.length H')(R:Rp K π' H' μi)(E:En K π' μi.length H' σ' (ρ++o))(hl:o.length=l)(g:F n i μi=b0 μ')
def DJ(O:CompOk X scope cl xs)(hq:∀b0Z σ H s j,Inv X b0Z σ H s->q (cR X scope cl s.heap.objs.size (bL xs X.N++xs) s H j))(hi:rB q X tg iter (tMI X.K mi))(hb':∀d μ z,bd d μ=b0 z->z.length=xs.length)(hg:∀C s₀ H₀ j,PG (cR X scope cl C (bL xs X.N++xs) s₀ H₀ j) tg (tMG X.K<|gB X.N.length bd))(hc:∀C s₀ H₀ j,nX (cR X scope cl C (bL xs X.N++xs) s₀ H₀ j) ifs mc)(he:∀C s₀ H₀ j,PE (cR X scope cl C (bL xs X.N++xs) s₀ H₀ j) elt (tM X.K me))(hs:∀x,a2o iter X.env x=pure x){σ:St}(I:Inv X b0Z σ H s)(R:Rp X.K π H μ)(E:En X.K π μ.length H σ M)(hm:eS bd mi mc me M μ=b0 (d,μ'))(fin:∀p C π' A(s':YA),Ext π μ.length H π' μ'.length A->Rp X.K π' A μ'->IsD X.K π' μ'.length A (.ref p) d->(∃m,s'.heap.Ns C m)->X.s₀.heap.objs.size<=C->C≠X.env.locals->A C=b5->
   (∀y c,X.env.cells.lookup y=b0 c->c≠C)->(∀q∈X.pn++b0Z,q.1≠C)->(∀h',(∀b o,b≠C->s'.heap.get? b=b0 o->h'.get? b=b0 o)->Inv X b0Z σ A {s' with heap:=h'})->
   compPost (Y5 X.prog X.w) X.A X.xe use QQ (.ref p) C (.ok .next) s'):
  Y6 (Y5 X.prog X.w) X.A (comprehension (.ListComp elt [⟨tg,iter,ifs,0⟩] scope pos) scope X.env ppos (newList []) dI (eval iter X.env) use) QQ X.xe s:=by
 obtain⟨⟨src,nt,a⟩,h1,hm⟩:=Yv.mp hm;obtain⟨μ2,h3,hm⟩:=YB.mp hm;cases hm;have hit:Y6 (Y5 X.prog X.w) X.A (eval iter X.env) (λv s1=>Y6 (Y5 X.prog X.w) X.A (a6s v) (PIEq q X b0Z σ tg λJ H1=>∃N,Ext π μ.length H N a.length H1/\Rp X.K N H1 a/\Wk X.K J src N a.length H1) X.xe s1) X.xe s:=
  hi b0Z s σ H _ I ⟨π,M,μ,src,nt,a,R,E,h1,λN H1 J e1 R1 W=>⟨N,e1,R1,W⟩⟩
 show wpAny_comprehension_free rfl hs O.clos O.kind O.names<|ZT hit (λv s1 hv=>ZT hv (λitv w h4=>?_) λ_ _ z=>z) λ_ _ z=>z;obtain⟨it,j,tn,J,H2,rfl,I2,T,st2,f2,N,e1,R1,W⟩:=h4;show Z7 (wpAny_newFunctionEnv O.nocell (by intro y hy;simp at hy) (λQ G K=>?_) O.kind);dsimp only at G K ⊢;have hfr:H2 w.heap.objs.size=none:=I2.hok.fresh<|YG _;have I3:Inv X b0Z σ (upd H2 w.heap.objs.size<|.lst []) {w with heap:=w.heap.push {cls:=.type "list",dict:=b5,data:=.seq ([]:gw).toArray}}:=
  I2.laid (t':=w.toks) (λb u e=>YC _ e) (YG _) ⟨a0d _,[],0,.nil,YR _ rfl⟩
 obtain⟨e2,R2,q2⟩:=R1.alloc (c:=.lst []) (o:=.lst []) hfr .nil;generalize hs3:({w with heap:=w.heap.push {cls:=.type "list",dict:=b5,data:=.seq ([]:gw).toArray}}:YA)=s3 at I3;have B:w.heap.push {cls:=.type "list",dict:=b5,data:=.seq ([]:gw).toArray}=s3.heap:=by rw[<- hs3]
 have e12:=e1.trans e2;generalize hH3:upd H2 w.heap.objs.size (.lst [])=H3 at I3 e2 R2 e12;generalize hπ3:iW N a.length w.heap.objs.size=π3 at e2 R2 q2 e12;have hob:∀b∈j,∃o,s3.heap.get? b=b0 o:=λb l=>by obtain⟨o,ho,_⟩:=T.obj 0 _ st2 b l;show⟨o,by rw[<- B];show YC _ ho⟩
 have f3:∀b∈j,iA X b0Z H3 b:=λb l=>by obtain⟨o,ho,_⟩:=T.obj 0 _ st2 b l;show⟨?_,(f2 b l).2⟩;rw[<- hH3,bH<|Y7<|YJ ho];show(f2 b l).1
 have st3:tn 0 s3.heap:=T.keep 0 _ _ st2 λb l o e=>by rw[<- B];show YC _ e
 have hC:(w.heap.push {cls:=.type "list",dict:=b5,data:=.seq ([]:gw).toArray}).objs.size=s3.heap.objs.size:=by rw[B]
 rw[B]at G K;have hk1:∀b o,s3.heap.get? b=b0 o->Q.get? b=b0 o:=λb o e=>K.extBut b o (Y7<|YJ e)<|YC _ e;have E3:En X.K π3 (a++[C.lst []]).length H3 (σ++a1t xs.length b5) (M++a1t xs.length b5):=by
  have E':=E.mono e12;show⟨by rw[YF,YF,E'.len,a1x,a1x],λi d' q=>?_⟩;by_cases hi:i<M.length
  .rw[Ze hi]at q;obtain⟨v,h5,h6⟩:=E'.get i d' q;show⟨v,by rw[Ze<|by rw[E'.len];show hi];show h5,h6⟩
  .rw[Zn<|a3I.mp hi,a1M]at q;split at q<;>cases q
 have hlen:M.length=X.N.length:=by rw[<- E.len];show I.len
 have stat:∀{A:Hp}{pl:jw},(∀b∈j,A b=b5)->pl=[]->∀b∈j,iA (cR X scope cl s3.heap.objs.size (bL xs X.N++xs) s3 H3 j) pl A b:=λ{A pl} hn hpl b l=>by
  obtain⟨f0,f1,f2',f3',f4,f5⟩:=f3 b l;obtain⟨o,ho⟩:=hob b l;show⟨hn b l,Y7<|YJ ho,λz=>?_,.inl l,λy c h=>f4 y c<|O.sub y c h,λp hp=>?_⟩
  .rcases Zm.mp (I3.stkSub b z)with z|z
   .show f1 z
   .show f2' z
  .subst hpl;show absurd (show p∈([]:jw)from hp)<|by simp
 have loop:∀s4:YA,(∃tk,s4={s3 with heap:=Q,toks:=tk})->
   a2y (Y5 X.prog X.w) X.A (.compLoop (.ListComp elt [⟨tg,iter,ifs,0⟩] scope pos) 0 (.ref it) (.ref w.heap.objs.size)<|a3e scope cl s3.heap.objs.size X.env)
    (compPost (Y5 X.prog X.w) X.A X.xe use QQ (.ref w.heap.objs.size) s3.heap.objs.size) s4:=by
  rintro s4 ⟨tk,rfl⟩;have I4:=O.inv (tk:=tk) I3 f3 hob G hk1;show Na (CpI (cR X scope cl s3.heap.objs.size (bL xs X.N++xs) s3 H3 j) X.K tn j π3 (a++[C.lst []]).length H3 M xs.length (iD src bd mc me M a.length) μ') ?_ nt
  <|.mk 0 I4 (T.keep 0 _ _ st3 λb l o e=>hk1 b o e) (λb l=>(f3 b l).1) .refl R2 E3 a1x h3
  rintro n s5 hI5;cases hI5 with
  |@mk i σ5 H5 L Z o5 I5 st5 fr5 e5 R5 E5 l5 g5=>
  cases n with
  |zero=>cases g5|succ n=>
   obtain⟨o,h6,h7⟩:=Yv.mp g5;cases o with
   |none=>
    cases h7;have stop:=W.stop L _ H5 i (e2.trans e5) R5 h6;show ZT (T.done (cR X scope cl s3.heap.objs.size (bL xs X.N++xs) s3 H3 j) rfl rfl rfl (hq b0Z σ H3 s3 j I3) i [] s5 σ5 H5 (λ_ _=>False) I5 (stat fr5 rfl) st5 stop) (λr s6 Y=>?_) λ_ _ z=>z;obtain⟨hr,I6⟩:=Y;subst hr;obtain⟨m6,hn6,_⟩:=id I6.loc;have hp:L a.length=w.heap.objs.size:=by rw[e5.pi a.length<|by simp,q2]
    show fin w.heap.objs.size s3.heap.objs.size L H5 s6 (e12.trans e5) R5 ?_ ⟨m6,hn6⟩ I3.sz (ZJ<|Y7 I3.lt) I6.free (λy c hc z=>?_) (λq hq z=>?_) λh' hh=>CompOk.back I3 f3 I6 hh
    .rw[<- hp];show .loc<|Zg (by simp) e5.le
    .obtain⟨v,o,ho,_⟩:=I3.cell y c hc;show Y7 (YJ ho) z
    .show Y7 (YJ (I3.pin q hq).1) z
   |some d=>
    obtain⟨z,hz,h7⟩:=Yv.mp h7;obtain⟨⟨b,μ6⟩,h8,h9⟩:=Yv.mp h7;obtain⟨g1,g2⟩:=W.go L Z H5 i d (e2.trans e5) R5 h6;show ZT (T.item (cR X scope cl s3.heap.objs.size (bL xs X.N++xs) s3 H3 j) rfl rfl rfl (hq b0Z σ H3 s3 j I3) i [] s5 σ5 H5 (λ_ _=>False) I5 (stat fr5 rfl) st5 g1) (λr s6 Y=>?_) λ_ _ z=>z;obtain⟨u,hr,h10⟩:=Y;subst hr;show ZT h10 (λ_ s7 Y=>?_) λ_ _ z=>z;obtain⟨v,H7,I7,r7,y7,st7,fr7⟩:=Y;obtain⟨e7,R7,hd⟩:=g2 v H7 y7;have I7':=I7.pinned (stat fr7 rfl)<|T.obj _ _ st7;have e5:=e5.trans e7;show ZT (hg _ _ _ _ _ s7 σ5 H7 v u (λσ' A=>En X.K L Z.length H7 σ' (M++z)/\A=H7) I7' r7
     ⟨L,M++a1t xs.length b5,Z,d,M++z,R7,OB (E5.mono e7) l5,hd,(by
      change(bd d Z).map (λx=>(M++a1t xs.length b5).take X.N.length++x)=_;rw[hz,<- hlen,a6l];rfl),λσ' E'=>⟨E',rfl⟩⟩) (λ_ s8 Y=>?_) λ_ _ z=>z
    obtain⟨σ8,H8,I8,E8,z2⟩:=Y;subst z2;have again:∀{s9:YA}{H9:Hp}{g:Nat->Addr}{μ9:Hm},Inv (cR X scope cl s3.heap.objs.size (bL xs X.N++xs) s3 H3 j) ([]++rF j s7.heap) σ8 H9 s9->Ext π3 (a++[C.lst []]).length H3 g μ9.length H9->Rp X.K g H9 μ9->
      En X.K g μ9.length H9 σ8 (M++z)->iD src bd mc me M a.length n (i+1) μ9=b0 μ'->
      ∃m,m<n+1/\CpI (cR X scope cl s3.heap.objs.size (bL xs X.N++xs) s3 H3 j) X.K tn j π3 (a++[C.lst []]).length H3 M xs.length (iD src bd mc me M a.length) μ' m s9:=λ{s9 H9 g μ9} I9 e9 R9 E9 g9=>by
     show⟨n,a0x _,.mk (i+1) I9.unpinned (T.keep _ _ _ st7 λb l o e=>(I9.pin (b,o)<|a0a _<|a0a _<|tY l e).1) (λb l=>?_) e9 R9 E9 (hb' _ _ _ hz) g9⟩;obtain⟨o,e,_⟩:=T.obj _ _ st7 b l;show(I9.pin (b,o)<|a0a _<|a0a _<|tY l e).2.1
    show ZT (hc _ _ _ _ _ s8 _ H8 (λb' A=>∃g,b'=b/\Ext L Z.length H8 g μ6.length A/\Rp X.K g A μ6) I8 ⟨L,_,Z,b,μ6,R7,E8,h8,λg H9 e9 R9=>⟨g,rfl,e9,R9⟩⟩) (λok s9 Y=>?_) λ_ _ z=>z;obtain⟨H9,I9,g,l,e9,R9⟩:=Y;subst l;cases ok with
    |false=>rw[if_neg YE];show again I9 (e5.trans e9) R9 (E8.mono e9) h9|true=>
     rw[if_pos rfl];obtain⟨⟨dy,μ7⟩,h11,h12⟩:=Yv.mp h9;obtain⟨μ8,U,h14⟩:=Yv.mp h12;show ZT (he _ _ _ _ _ s9 _ H9 (λy A=>∃k,Ext g μ6.length H9 k μ7.length A/\Rp X.K k A μ7/\IsD X.K k μ7.length A y dy) I9 ⟨g,_,μ6,dy,μ7,R9,E8.mono e9,h11,λk y H10 e10 R10 i10=>⟨k,e10,R10,i10⟩⟩)
      (λu' s10 Y=>?_) λ_ _ z=>z
     obtain⟨y,H10,I10,ry,k,e10,R10,i10⟩:=Y;unfold pN at U;split at U
     .rename_i zs hz;split at U
      .rename_i hl;cases U;obtain⟨vs,h15,h16⟩:=R10.lst _ zs hz;have eall:=(e5.trans e9).trans e10;have hp:k a.length=w.heap.objs.size:=by rw[eall.pi a.length<|by simp,q2]
       obtain⟨e11,R11⟩:=R10.put (a:=a.length) (c:=.lst (zs++[dy])) (o:=.lst (vs++[y])) (Yy.mp hz).1 h15 (.inl ⟨vs,rfl⟩)<|h16.append<|.cons i10 .nil;rw[hp]at h15 e11 R11;show ZT (CQ (X:=cR X scope cl s3.heap.objs.size (bL xs X.N++xs) s3 H3 j) _ s10 _ H10 (.ref w.heap.objs.size) [y] (.ref w.heap.objs.size) [u'] (λ_ A=>A=upd H10 w.heap.objs.size (.lst<|vs++[y])) I10 rfl (.cons ry .nil)
        ⟨w.heap.objs.size,vs,y,rfl,rfl,h15,by rw[h16.length];show hl,rfl⟩) (λ_ s11 Y=>?_) λ_ _ z=>z
       obtain⟨_,H11,I11,_,z⟩:=Y;subst z;show again I11 (eall.trans e11) R11 ((E8.mono<|e9.trans e10).mono e11) h14
      .cases U
     .cases U
 have l4:=loop {s3 with heap:=Q,toks:=w.toks+([]:List (Str×Value)).length} ⟨_,rfl⟩;have hst4:tn 0 Q:=T.keep 0 _ _ st3 λb l o e=>hk1 b o e;subst hs3;show codeAny_compStart_list l4<|T.self _ 0 _ _ _ hst4 l4
def OC(O:CompOk X scope cl xs)(N:∀b0Z σ H s a,Inv X b0Z σ H s->q (cR X scope cl s.heap.objs.size (bL xs X.N++xs) s H a))(G:rB q X tg iter (tMI X.K mi))(c:∀d r z,bd d r=b0 z->z.length=xs.length)(B:∀C s₀ H₀ a,PG (cR X scope cl C (bL xs X.N++xs) s₀ H₀ a) tg (tMG X.K<|gB X.N.length bd))(hc:∀C s₀ H₀ a,nX (cR X scope cl C (bL xs X.N++xs) s₀ H₀ a) ifs mc)(A:∀C s₀ H₀ a,PE (cR X scope cl C (bL xs X.N++xs) s₀ H₀ a) elt (tM X.K me))(T:∀x,a2o iter X.env x=pure x):PE X (.ListComp elt [⟨tg,iter,ifs,0⟩] scope pos) (tM X.K<|eS bd mi mc me):=by
 intro b0Z s σ H Q I hw;obtain⟨π,ρ,r,d,μ',R,E,K,k⟩:=hw;rw[eval_ListComp];show DJ (use:=b5) O N G c B hc A T I R E K λp C i j s' v u Y h U M g l n back=>?_;obtain⟨m,L⟩:=h;show⟨m,L,λw Z=>⟨.ref p,j,back w λb o y e=>(Z.2 b y).trans e,rfl,k i _ j v u Y⟩⟩
def OD(O:CompOk X scope cl xs)(a:X.calm=d7)(h:PI X tg iter (tMI X.K mi))(c:∀d j z,bd d j=b0 z->z.length=xs.length)(g:∀C s₀ H₀ b,PG (cR X scope cl C (bL xs X.N++xs) s₀ H₀ b) tg (tMG X.K<|gB X.N.length bd))(hc:∀C s₀ H₀ b,nX (cR X scope cl C (bL xs X.N++xs) s₀ H₀ b) ifs mc)(e:∀C s₀ H₀ b,PE (cR X scope cl C (bL xs X.N++xs) s₀ H₀ b) elt (tM X.K me))(i:∀x,a2o iter X.env x=pure x):PE X (.ListComp elt [⟨tg,iter,ifs,0⟩] scope pos) (tM X.K<|eS bd mi mc me):=OC O (λ_ _ _ _ _ _=>a) h c g hc e i
def OE(O:CompOk X scope cl xs)(hN:X.N.Nodup)(h:X.calm=d7)(hi:PI X tg iter (tMI X.K mi))(G:∀d μ z,bd d μ=b0 z->z.length=xs.length)(hg:∀C s₀ H₀ n,PG (cR X scope cl C (bL xs X.N++xs) s₀ H₀ n) tg (tMG X.K<|gB X.N.length bd))(hc:∀C s₀ H₀ n,nX (cR X scope cl C (bL xs X.N++xs) s₀ H₀ n) ifs mc)(he:∀C s₀ H₀ n,PE (cR X scope cl C (bL xs X.N++xs) s₀ H₀ n) elt (tM X.K me))(hs:∀x,a2o iter X.env x=pure x)(hy:X.N[i]?=b0 y)(Z:X.env.scope.names.lookup y=b0 .local)(M:a3T (.ListComp elt [⟨tg,iter,ifs,0⟩] scope pos) (b0<|.Name y py) g.line X.env=pure d7):
  PS X (.Assign [.Name y py] (.ListComp elt [⟨tg,iter,ifs,0⟩] scope pos) g) (tMS X.K<|aL i<|eS bd mi mc me):=by
 intro l s σ H EN I hw;obtain⟨π,ρ,μ,fl,ρ',μ',R,E,K,k⟩:=hw;obtain⟨⟨d,μ1⟩,h1,K⟩:=YB.mp K;cases K;rw[exec_Assign_Name_used _ _ _ _ M];show Yw<|a7B ?_;show Yw<|Yw ?_;show DJ (use:=b0 (a5I (.Name y py) X.env)) (QQ:=λ_ v=>Y6 (Y5 X.prog X.w) X.A (pure ()) (λ_ Q=>Y6 (Y5 X.prog X.w) X.A (pure Flow.next) (SP X l EN) X.xe Q) X.xe v) O (λ_ _ _ _ _ _=>h) hi G hg hc he hs I R E h1 λp C U w v Y R1 i1 L N r j c u back=>?_;obtain⟨m,hn⟩:=L;have I1:Inv X l σ w v:=back v.heap λb o _ e=>e;change Y6 (Y5 X.prog X.w) X.A (a5I (.Name y py) X.env<|.ref p) _ X.xe v;show a9I ?_;show B9 I1 hN hy (.inl Z) (show RelV (.ref p) (.ref p)from rfl) (λs2 I2 ⟨a,sb,B⟩=>?_)<|.inr Z;have A:C≠a:=by
  rcases B with rfl|B
  .show r
  .show ZJ<|c _ _ B
 show⟨m,hn.sameBut sb A,λh' T=>YH<|YH ?_⟩;show⟨σ.set i<|b0<|.ref p,w,I2.turned (t':=s2.toks) (λb o hb e=>(T.2 b hb).trans e) j r (.inr N) c u,?_⟩;show k U _ w Y R1<|(E.mono Y).set i1 i
abbrev cG:ME:=λ_ _=>b5
abbrev n6:MT:=λ_ _=>b5
abbrev dR:MS:=λ_ _=>b5
section
variable{X:Cx}{e a b c o:Expr}{m m1 m2 ma mb mc:ME}{pos:a0u}{mt mu:MT}{rest es:List Expr}{ms:MA}{n:Nat}
def bY:QE X e cG:=⟨λb0Z s σ H Q I h=>by
 obtain⟨l,p,j,d,i,R,E,g,k⟩:=h;cases g⟩
def uR:QT X e n6:=⟨λb0Z s σ H Q I h=>by
 obtain⟨l,p,j,d,i,R,E,g,k⟩:=h;cases g⟩
def OF:QW X e n6:=⟨λj b0Z s σ H Q I h=>by
 obtain⟨p,r,l,d,i,R,E,g,k⟩:=h;cases g⟩
def fC:QS X st dR:=⟨λb0Z s σ H D I h=>by
 obtain⟨p,r,l,j,i,g,R,E,d,k⟩:=h;cases d⟩
def uS(p:∀d l j,g d l j=b5):QG X e g:=⟨λb0Z s σ H v u Q I r h=>by
 obtain⟨x,l,j,d,w,R,E,hd,i,k⟩:=h;rw[p]at i;cases i⟩
def n8(h1:QE X e m1)(p:QE X e m2)(h:∀i g r,m i g=b0 r->m1 i g=b0 r\/m2 i g=b0 r):QE X e m:=⟨λb0Z s σ H Q I q=>by
 obtain⟨l,i,g,d,j,R,E,u,k⟩:=q;rcases h i g _ u with z|z
 .show h1.h b0Z s σ H Q I ⟨l,i,g,d,j,R,E,z,k⟩
 .show p.h b0Z s σ H Q I ⟨l,i,g,d,j,R,E,z,k⟩⟩
def pQ{m m1 m2:MT}(h1:QT X e m1)(p:QT X e m2)(h:∀i g r,m i g=b0 r->m1 i g=b0 r\/m2 i g=b0 r):QT X e m:=⟨λb0Z s σ H Q I q=>by
 obtain⟨l,i,g,d,j,R,E,u,k⟩:=q;rcases h i g _ u with z|z
 .show h1.h b0Z s σ H Q I ⟨l,i,g,d,j,R,E,z,k⟩
 .show p.h b0Z s σ H Q I ⟨l,i,g,d,j,R,E,z,k⟩⟩
def iE{f j k:D->D->Hm->jk}(h:∀x y d r,f x y d=b0 r->j x y d=b0 r\/k x y d=b0 r) :
  ∀i d r,aC f ma mb i d=b0 r->aC j ma mb i d=b0 r\/aC k ma mb i d=b0 r:=by
 intro i d r g;obtain⟨p,l,g⟩:=Yv.mp g;obtain⟨q,s,g⟩:=Yv.mp g;rcases h _ _ _ _ g with z|z
 .show .inl<|Yv.mpr ⟨p,l,Yv.mpr ⟨q,s,z⟩⟩
 .show .inr<|Yv.mpr ⟨p,l,Yv.mpr ⟨q,s,z⟩⟩
def pR(h:∀g d r,m g d=b0 r->m1 g d=b0 r\/m2 g d=b0 r):∀g d r,aO m g d=b0 r->aO m1 g d=b0 r\/aO m2 g d=b0 r:=by
 intro g d r i;obtain⟨p,j,i⟩:=Yv.mp i;rcases h _ _ _ j with z|z
 .show .inl<|Yv.mpr ⟨p,z,i⟩
 .show .inr<|Yv.mpr ⟨p,z,i⟩
abbrev pS:List D->Option (List Int)
 |[]=>b0 []|.int i::r=>(pS r).map (i::·)|_=>b5
abbrev cY:D->Option (List Int)
 |.tup ds=>pS ds|_=>b5
abbrev a9(kvs:jx)(k:List Int):Option D:=(kvs.find? λp=>decide<|p.1=k).map (·.2)
abbrev bW(kvs:jx)(k:List Int)(d:D):jx:=if(a9 kvs k).isSome then kvs.map (λp=>if p.1=k then(p.1,d)else p)else kvs++[(k,d)]
abbrev aE:D->D->Hm->jk:=λx y g=>match x with
 |.loc a=>match g[a]? with
  |some (.dT kvs)=>(cY y).bind λk=>(a9 kvs k).map λd=>(d,g)|some (.dF kvs)=>(cY y).bind λk=>(a9 kvs k).map λd=>(d,g)|_=>iC x y g
 |_=>iC x y g
abbrev DK(kvs:List (bG×D))(mb:ME):ME:=λh g=>(mb h g).bind λp=>(y9 p.1).bind λk=>(kK kvs k).map λd=>(d,p.2)
structure TabOk(X:Cx)(x:Str)(kvs:List (bG×D)):Prop where
 ex:∃(p:Addr)(vs:List (bG×V))(ws:List (bG×Value)),X.mg x=b0 (.ref p)/\(p==Z3)=dI/\(∀h:ZX,X.K.In h->h.DictOf (gQ X.prog X.w) p ws)/\KV vs ws/\∀π n H,IsKs X.K π n H vs kvs
def OG(T:TabOk X x kvs)(hg:Gl X x)(hd:(x==("__debug__":Str))=dI)(hb:QE X b mb)(h:n5 b=d7):QE X (.Subscript (.Name x p) b pos) (DK kvs mb):=⟨by
 obtain⟨q,vs,ws,hm,_,O,hv,hk⟩:=T.ex;intro r s σ H Q I hw;obtain⟨π,ρ,Z,d,μ',R,E,i,k⟩:=hw;obtain⟨⟨y,j⟩,h1,i⟩:=Yv.mp i;obtain⟨K,h2,i⟩:=Yv.mp i;obtain⟨d',u,i⟩:=YB.mp i;cases i;have M:∀{H':Hp}{U:YA},Inv X r σ H' U->U.TypeIs (.ref q) "dict":=λI'=>(O _ I'.kIn).typeIs;show CG a5L.lookup (zA h)<|q8 I hg hm ?_ hd;show aV (hb.h r s σ H _ I ⟨π,ρ,Z,y,_,R,E,h1,λg Y l A z G=>(⟨g,A,z,G⟩:∃g,Ext π Z.length H g j.length l/\Rp X.K g l j/\IsD X.K g j.length l Y y)⟩) λiv s2 ⟨Y,l,w,r1,g,A,z,G⟩=>?_;show⟨M w,?_⟩;have ev:=DA G h2;subst ev;have dd:=O _ w.kIn;rcases(hk g j.length l).val K with⟨N,_⟩|⟨v,d2,N,z2,z3⟩
 .rw[N]at u;cases u
 .rw[N]at u;cases u;obtain⟨w',B,L⟩:=RelO.some_of (v:=v) (o:=a5e ws K) (by rw[<- z2];show hv.val K);show wpAny_getItem_of (CD r1) dd.mapOf B ⟨v,l,w.tok _,L,k g v l A z z3⟩⟩
abbrev zF(kvs:List (bG×D))(ma:ME):ME:=λg d=>(ma g d).bind λp=>(y9 p.1).map λk=>(.bl (kK kvs k).isSome,p.2)
def OH(T:TabOk X x kvs)(hg:Gl X x)(hd:(x==("__debug__":Str))=dI)(ha:QE X a ma):QE X (.Compare a [.In] [.Name x p] pos) (zF kvs ma):=⟨by
 obtain⟨q,vs,ws,hm,hs,hD,hv,hk⟩:=T.ex;intro w s σ H Q I hw;obtain⟨M,ρ,L,d,μ',R,E,h,k⟩:=hw;obtain⟨⟨y,i⟩,Y,h⟩:=Yv.mp h;obtain⟨l,Z,h⟩:=YB.mp h;cases h;show b0P (aV (ha.h w s σ H _ I ⟨M,ρ,L,y,_,R,E,Y,λg B j z u A=>(⟨g,z,u,A⟩:∃g,Ext M L.length H g i.length j/\Rp X.K g j i/\IsD X.K g i.length j B y)⟩) λiv s2 ⟨B,j,r,r1,g,z,u,A⟩=>q8 r hg hm ?_ hd) rfl;have U:=DA A Z;subst U;have N:=hD _ r.kIn;show wpAny_in_of (CD r1) hs N.mapOf ⟨.bl _,j,r.tok _,rfl,?_⟩;have O:(a5e ws l).isSome=(kK kvs l).isSome:=by rw[<- (hv.val l).isSome_eq];rcases(hk g i.length j).val l with⟨G,K⟩|⟨v,d2,G,K,z3⟩<;>rw[G,K]<;>rfl
 rw[O];show k g _ j z u<|.bl _⟩
def DL{σ:St}(I:Inv X b0Z σ H s)(h:X.K.lookup p=b0 d):H p=none:=(I.bs p d<|I.mod.kin p d h).2
def DM(R:Rp K π H i)(l:g<i.length):∃u,H (π g)=b0 u/\(∀vs,u≠.tup vs)/\∀j v,(∀k,v≠HO.ext k)->u≠.frz j v:=by
 cases q:i[g]? with
 |none=>show absurd (Zx.mp q) ⋯|some cl=>
  cases cl with
  |lst d=>obtain⟨vs,h,_⟩:=R.lst g d q;show⟨_,h,(λ_ z=>nomatch z),λ_ _ _ z=>nomatch z⟩|dK d=>obtain⟨vs,h,_⟩:=R.dK g d q;show⟨_,h,(λ_ z=>nomatch z),λ_ _ _ z=>nomatch z⟩|st d=>obtain⟨vs,h,_⟩:=R.st g d q;show⟨_,h,(λ_ z=>nomatch z),λ_ _ _ z=>nomatch z⟩|dT d=>obtain⟨vs,h,_⟩:=R.dT g d q;show⟨_,h,(λ_ z=>nomatch z),λ_ _ _ z=>nomatch z⟩|dF d=>obtain⟨j,vs,h,_⟩:=R.dF g d q;show⟨_,h,(λ_ z=>nomatch z),λ_ _ n z=>n _<|by cases z;rfl⟩
section
variable{b0Z:jw}{σ:St}{H:Hp}{s:YA}{π:Nat->Addr}{μ:Hm}
def DN(I:Inv X b0Z σ H s)(R:Rp X.K π H μ)(k:g<μ.length)(h:SqT X.K H (π g) vs):False:=by
 obtain⟨u,d,i,j⟩:=DM R k;rcases h with(h|⟨r,h⟩)|⟨r,p,n,l,_⟩
 .rw[d]at h;show i _<|YX h
 .rw[d]at h;show j _ (.tup vs) (λv z=>nomatch z)<|YX h
 .rw[DL I l]at d;cases d
def DO(I:Inv X b0Z σ H s)(R:Rp X.K π H μ)(j:g<μ.length)(h:RoL X.K H (π g) vs):False:=by
 obtain⟨u,d,r,i⟩:=DM R j;rcases h with⟨p,h⟩|⟨p,l,n,k,_⟩
 .rw[d]at h;show i _ (.lst vs) (λv z=>nomatch z)<|YX h
 .rw[DL I k]at d;cases d
def DP(I:Inv X b0Z σ H s)(h:SqT X.K H p vs)(h':RoL X.K H p ws):False:=by obtain⟨g,_,t,_⟩:=I.tuple h;obtain⟨d,_,l,_⟩:=I.list h'.sq;show absurd rfl<|a0P l.isList t
mutual
theorem zG(I:Inv X b0Z σ H s)(R:Rp X.K π H μ){v:V}{d d':D}:IsD X.K π μ.length H v d->IsD X.K π μ.length H v d'->d=d'
 |.non,h'=>by cases h';rfl
 |.bl _,h'=>by cases h';rfl
 |.int _,h'=>by cases h';rfl
 |.str _,h'=>by cases h';rfl
 |.ty _,h'=>by cases h';rfl
 |.tup h t,h'=>by
  cases h' with
  |tup g i=>have:=I.tuple_inj h g;subst this;rw[zH I R t i]|rol g i=>show(DP I h g).elim|loc g=>show(DN I R g h).elim
 |.rol h t,h'=>by
  cases h' with
  |tup g i=>show(DP I g h).elim|rol g i=>have:=I.list_inj h.sq g.sq;subst this;rw[zH I R t i]|loc g=>show(DO I R g h).elim
 |.loc (a:=a1) ha,h'=>by
  generalize hz:V.ref (π a1)=z at h';cases h' with
  |tup g i=>cases hz;show(DN I R ha g).elim|rol g i=>cases hz;show(DO I R ha g).elim|loc g=>have:=R.inj _ _ ha g<|V.ref.inj hz;rw[this]|_=>cases hz
theorem zH(I:Inv X b0Z σ H s)(R:Rp X.K π H μ){vs:gz}{ds d:List D}:IsDs X.K π μ.length H vs ds->IsDs X.K π μ.length H vs d->ds=d
 |.nil,h'=>by cases h';rfl
 |.cons h t,h'=>by
  cases h' with
  |cons g i=>rw[zG I R h g,zH I R t i]
end
end
abbrev i5(a:Hm)(x:D):List D->Option Bool
 |[]=>b0 dI|y::r=>(eE 8 a y x).bind λb=>(i5 a x r).map λc=>b||c
abbrev lK(a:Bool):D->D->Hm->jk:=λx y c=>(bJ c y).bind λd=>(i5 c x d).map λb=>(.bl<|if a then !b else b,c)
abbrev zI(K:Yx)(c:Bool):R2:=λx y H Q=>∃π a d e g b,Rp K π H a/\IsD K π a.length H x d/\IsD K π a.length H y e/\bJ a e=b0 g/\i5 a d g=b0 b/\Q (.bl<|if c then !b else b) H
def uT{c:Bool}:dG K (lK c) (zI K c):=by intro e H r x y d n o p Q R i j a k;obtain⟨l,g,a⟩:=Yv.mp a;obtain⟨b,h,a⟩:=YB.mp a;cases a;show⟨e,_,x,y,l,b,R,i,j,g,h,k e _ H .refl R<|.bl _⟩
def uU{σ:St}(I:Inv X b0Z σ H s)(R:Rp X.K π H i)(Z:A.units+8<a0k){n:D}(rx:RelV x v)(ix:IsD X.K π i.length H x n):
  ∀{e}{vs}{us}{b},IsDs X.K π i.length H vs e->Vals vs us->i5 i n e=b0 b->
   ∃g,(∀u∈us,a2z A s u v (g u))/\us.any g=b:=by
 classical
 intro e vs us b k l d
 have p:∀{e:List D}{vs:gz}{us:gw}{b:Bool},IsDs X.K π i.length H vs e->Vals vs us->i5 i n e=b0 b->(∀u∈us,∃c,a2z A s u v c/\∃w o,RelV w u/\IsD X.K π i.length H w o/\eE 8 i o n=b0 c):=by
  intro e
  induction e with
  |nil=>
   intro vs us b k l d u a
   cases k
   cases l
   cases a
  |cons y e M=>
   intro vs us b k l d u a
   cases k with
   |cons h t=>
    cases l with
    |cons r rt=>
     obtain⟨c,G,d⟩:=Yv.mp d
     obtain⟨T,K,d⟩:=YB.mp d
     rcases Zm.mp a with rfl|a
     .show⟨c,yQ I R 8 Z r rx h ix G,_,_,r,h,G⟩
     .show M t rt K u a
 have B:=p k l d
 show⟨λu=>if h:u∈us then a2e (B u h)else dI,λu a=>?_,?_⟩
 .simp only[dif_pos a]
  show(a2G<|B u a).1
 .have N:∀u (h:u∈us) w o c,RelV w u->IsD X.K π i.length H w o->eE 8 i o n=b0 c->a2e (B u h)=c:=by
   intro u h w o c O iw Q
   obtain⟨_,w2,U,r2,i2,Y⟩:=a2G<|B u h
   have:w2=w:=r2.inj O
   subst this
   have:=zG I R i2 iw
   subst this
   rw[Y]at Q
   show YX Q
  have E:∀{e:List D}{vs:gz}{j:gw}{b:Bool},(∀u∈j,u∈us)->IsDs X.K π i.length H vs e->Vals vs j->i5 i n e=b0 b->j.any (λu=>if h:u∈us then a2e (B u h)else dI)=b:=by
   intro e
   induction e with
   |nil=>
    intro vs j b L k l d
    cases k
    cases l
    cases d
    rfl
   |cons y e M=>
    intro vs j b L k l d
    cases k with
    |cons h t=>
     cases l with
     |@cons _ u _ us2 r rt=>
      obtain⟨c,G,d⟩:=Yv.mp d
      obtain⟨T,K,d⟩:=YB.mp d
      have fK:u∈us:=L u<|Zs ..
      rw[a6G,M (λz hz=>L z<|Zl _ hz) t rt K,dif_pos fK,N u fK _ _ c r h G]
      show d
  show E (λ_ h=>h) k l d
def uV(r:Room k A):A.units+9<a0k:=by have:=r.un;lia
def DQ(K:X.A.units+9<a0k):OpR X (Z0 .In) (zI X.K dI):=by
 intro n s T H x y v u Q I l B h;obtain⟨O,N,E,G,M,b,R,k,A,o,j,q⟩:=h;obtain⟨p,L,rfl,c,hd⟩:=pP R A o;cases B;rcases c with c|c
 .obtain⟨a,r,i,z⟩:=I.list c;obtain⟨g,d,e⟩:=uU I R (A:=X.A.in1) (by rw[iY];lia) l k hd r j;show SeqAt.in_listAt g i.isList (λw hw=>d w<|by simpa using hw) ⟨.bl _,H,I,rfl,?_⟩;rw[show a.toArray.any g=a.any g by simp,e];show q
 .obtain⟨a,r,i,z⟩:=I.tuple c;obtain⟨g,d,e⟩:=uU I R (A:=X.A.in1) (by rw[iY];lia) l k hd r j;show SeqAt.in_tupleAt g i (λw hw=>d w<|by simpa using hw) ⟨.bl _,H,I,rfl,?_⟩;rw[show a.toArray.any g=a.any g by simp,e];show q
def DR(K:X.A.units+9<a0k):OpR X (Z0 .NotIn) (zI X.K d7):=by
 intro n s T H x y v u Q I l B h;obtain⟨O,N,E,G,M,b,R,k,A,o,j,q⟩:=h;obtain⟨p,L,rfl,c,hd⟩:=pP R A o;cases B;rcases c with c|c
 .obtain⟨a,r,i,z⟩:=I.list c;obtain⟨g,d,e⟩:=uU I R (A:=X.A.in1) (by rw[iY];lia) l k hd r j;show SeqAt.notIn_listAt g i.isList (λw hw=>d w<|by simpa using hw) ⟨.bl _,H,I,rfl,?_⟩;rw[show a.toArray.any g=a.any g by simp,e];show q
 .obtain⟨a,r,i,z⟩:=I.tuple c;obtain⟨g,d,e⟩:=uU I R (A:=X.A.in1) (by rw[iY];lia) l k hd r j;show SeqAt.notIn_tupleAt g i (λw hw=>d w<|by simpa using hw) ⟨.bl _,H,I,rfl,?_⟩;rw[show a.toArray.any g=a.any g by simp,e];show q
abbrev c4(b:Bool):D->D->Hm->jk
 |.str i,.str j,μ=>b0 (.bl<|if b then !(!(a0l j i 0 j.length 1).isEmpty)else !(a0l j i 0 j.length 1).isEmpty,μ)|x,.loc a,μ=>match μ[a]? with
  |some (.dT kvs)=>(cY x).map λk=>(.bl<|if b then !(a9 kvs k).isSome else(a9 kvs k).isSome,μ)|some (.dF kvs)=>(cY x).map λk=>(.bl<|if b then !(a9 kvs k).isSome else(a9 kvs k).isSome,μ)|_=>lK b x (.loc a) μ
 |x,y,μ=>lK b x y μ
abbrev zJ:D->D->Hm->jk
 |.str i,.str j,μ=>b0 (.bl<|!(!(a0l j i 0 j.length 1).isEmpty),μ)|_,_,_=>b5
def DS:dG K zJ (λx y H Q=>∃i j,x=.str i/\y=.str j/\Q (.bl<|!(!(a0l j i 0 j.length 1).isEmpty)) H):=by
 intro g H n x y d e h l Q R b c a k;unfold zJ at a;split at a
 .cases a;cases b;cases c;show⟨_,_,rfl,rfl,k g _ H .refl R<|.bl _⟩
 .cases a
abbrev kM(a:Bool):D->D->Hm->jk
 |x,.non,μ=>b0 (.bl<|match x with|.non=>!a|_=>a,μ)|_,_,_=>b5
def DT:dG K (kM dI) (λx y H Q=>y=.non/\Q (.bl<|decide<|x=.non) H):=by
 intro g H j x y d e h i Q R b c a k;unfold kM at a;split at a
 .cases a;cases c;show⟨rfl,?_⟩;cases b<;>show k g _ H .refl R<|.bl _
 .cases a
def DU:dG K (kM d7) (λx y H Q=>y=.non/\Q (.bl<|!decide (x=.non)) H):=by
 intro g H j x y d e h i Q R b c a k;unfold kM at a;split at a
 .cases a;cases c;show⟨rfl,?_⟩;cases b<;>show k g _ H .refl R<|.bl _
 .cases a
def OI(c:QE X a ma)(d:QE X b mb):QE X (.Compare a [.Is] [b] pos) (aC (kM dI) ma mb):=⟨fT Cq DT c.h d.h<|eC _⟩
def OJ(c:QE X a ma)(d:QE X b mb):QE X (.Compare a [.IsNot] [b] pos) (aC (kM d7) ma mb):=⟨fT Cr DU c.h d.h<|eC _⟩
def OK(c:QE X a ma)(d:QE X b mb):QT X (.Compare a [.Is] [b] pos) (aO<|aC (kM dI) ma mb):=⟨fU Cq DT c.h d.h<|eC _⟩
def OL(c:QE X a ma)(d:QE X b mb):QT X (.Compare a [.IsNot] [b] pos) (aO<|aC (kM d7) ma mb):=⟨fU Cr DU c.h d.h<|eC _⟩
end
abbrev pT(d:Hm):D->Bool
 |.rol _=>d7|.loc a=>match d[a]? with|some (.lst _)=>d7|_=>dI
 |_=>dI
abbrev c5(f:D->List D->Hm->jk)(mo:ME)(ms:MA):ME:=λd g=>(mo d g).bind λp=>match pT p.2 p.1 with
 |true=>(ms d p.2).bind λq=>f p.1 q.1 q.2|false=>b5
abbrev i6(K:Yx)(f:D->List D->Hm->jk)(r:V->gz->Hp->VK->Prop):Prop:=
 ∀i H g x k d h v j Q,Rp K i H g->IsD K i g.length H v x->IsDs K i g.length H j k->f x k g=b0 (d,h)->KC K Q i g.length H d h->r v j H Q
def OM(R:Rp K π H d)(h:IsD K π d.length H v x)(e:pT d x=d7):yG K "list" v H:=by
 cases h with
 |rol h t=>show .inl ⟨rfl,_,h.sq⟩|@loc a l=>
  simp only[pT]at e;split at e
  .rename_i k i;obtain⟨j,g,_⟩:=R.lst a k i;show .inl ⟨rfl,j,.of g⟩
  .cases e
 |_=>cases e
def ON(I:i6 K f r):∀σ H Q,tM K (c5 f mo ms) σ H Q->CN K "list" r (tM K mo) (tMA K ms) σ H Q:=by
 rintro σ H Q ⟨U,z,T,d,j,R,E,g,k⟩;obtain⟨⟨x,h⟩,B,g⟩:=Yv.mp g;dsimp only at g;split at g
 .rename_i L;obtain⟨⟨y,i⟩,G,g⟩:=Yv.mp g;show⟨U,z,T,x,h,R,E,B,λl N Y u s w=>⟨OM s w L,l,z,h,y,i,s,E.mono u,G,λp O A v R2 M=>?_⟩⟩;show I p A i x y d j N O Q R2 (w.mono v) M g<|k.after<|u.trans v
 .cases g
abbrev kN:Expr->Bool
 |.Call (.Name _ _) [] [] _=>dI|_=>d7
def n9(h:kN o=d7):a2J o i env d=d:=by
 cases o with
 |Call f g j p=>
  cases f with
  |Name id q=>
   cases g with
   |nil=>
    cases j with
    |nil=>cases h|cons _ _=>rfl
   |cons _ _=>rfl
  |_=>rfl
 |_=>rfl
def DV(h:(e::es).all fB=d7)(i:(e::es).length<30):
  ((a1C cpos (Zo (e::es) env)).all (λx=>!x.1)&&(a7b cpos (a4Y [] env)).all (λx=>x.1.isSome)
   && decide ((e::es).length+([]:List a2A).length+(if([]:List a2A).isEmpty then 0 else 1)<30))=true:=by
 have d:(a1C cpos (Zo (e::es) env)).all (λx=>!x.1)=true:=by have:=mL (pos:=cpos) (env:=env) h;rw[List.all_eq_not_any_not];simpa using this
 rw[d];have g:(e::es).length+([]:List a2A).length+(if([]:List a2A).isEmpty then 0 else 1)<30:=by change(e::es).length+0+0<30;lia
 rw[decide_eq_true g];rfl
def rQ{id:String}(h:Slot "list" name id)(i:b0Q (.builtin id)=pure (.type "method_descriptor"))(p:jK X id r)(k:i6 X.K f r)(u:QE X o mo)(j:QA X (e::es) ms n)(v:kN o=d7)(l:(apos.endLine==cpos.line)=d7)(s:(e::es).length<30):QE X (.Call (.Attribute o name apos) (e::es) [] cpos) (c5 f mo ms):=by
 have g:=j.s;have d:=g;rw[ZD,YK]at d;show⟨dJ (Lu PySem.F.plainAttrs_list h i p u.h j.h (n9 v) (DV g s) l (fL d.1)<|mL d.2)<|ON k⟩
abbrev eI:D->List D->Hm->jk
 |.loc a,[y],μ=>(pN μ a y).map λd=>(.non,d)|_,_,_=>b5
abbrev lO:D->List D->Hm->jk
 |.loc a,[.loc b],μ=>match μ[a]?,μ[b]? with
  |some<|.lst xs,b0 (.lst ys)=>if xs.length+ys.length<=YM then b0 (.non,μ.set a<|.lst<|xs++ys)else b5|_,_=>b5
 |_,_,_=>b5
def OO(h:IsDs K π n H vs ds):IsDs K π n H vs.reverse ds.reverse:=by
 induction ds generalizing vs with
 |nil=>cases h;show .nil|cons d ds g=>
  cases h with
  |cons h t=>rw[a2P,a2P];show(g t).append<|.cons h .nil
def OP:i6 K eI CP:=by
 intro L H O x N d G v M Q R B i h k;unfold eI at h;split at h
 .rename_i a y;obtain⟨I,g,h⟩:=YB.mp h;cases h;unfold pN at g;split at g
  .rename_i s r;split at g
   .rename_i z;cases g;obtain⟨j,l,p⟩:=R.lst a s r;cases B;cases i with
    |cons E A=>cases A;obtain⟨w,u⟩:=R.put (a:=a) (c:=.lst (s++[y])) (o:=.lst (j++[_])) (Yy.mp r).1 l (.inl ⟨j,rfl⟩)<|p.append<|.cons E .nil;show⟨_,j,_,rfl,rfl,l,by rw[p.length];show z,k L _ _ w u .non⟩
   .cases g
  .cases g
 .cases h
def OQ:i6 K lO CS:=by
 intro N H U x T d M v O Q R I h g k;unfold lO at g;split at g
 .rename_i a b;split at g
  .rename_i w u r E;split at g
   .rename_i B;cases g;obtain⟨i,j,l⟩:=R.lst a w r;obtain⟨s,A,p⟩:=R.lst b u E;cases I;cases h with
    |cons L G=>cases G;cases L;obtain⟨z,y⟩:=R.put (a:=a) (c:=.lst (w++u)) (o:=.lst (i++s)) (Yy.mp r).1 j (.inl ⟨i,rfl⟩)<|l.append p;show⟨_,_,i,s,rfl,rfl,j,A,by rw[l.length,p.length];show B,k N _ _ z y .non⟩
   .cases g
  .cases g
 .cases g
abbrev oA:D->List D->Hm->jk
 |.loc a,[.int i],μ=>match μ[a]? with
  |some (.lst xs)=>if 0<=i/\i<2^62 then(xs[i.toNat]?).map λy=>(y,μ.set a<|.lst<|xs.eraseIdx i.toNat)else b5|_=>b5
 |_,_,_=>b5
def OR(h:IsDs K π n H vs ds)k:IsDs K π n H (vs.eraseIdx k) (ds.eraseIdx k):=by rw[a5p,a5p];show(h.take k).append<|h.drop<|k+1
def OS(d:0<=i)(h:i.toNat<n):a6r i n=b0 i.toNat:=by have e:(if i<0 then i+(n:Int)else i)=i:=if_neg ⋯;unfold a6r;dsimp only;rw[e,if_pos<|by rw[YK,decide_eq_true_iff,decide_eq_true_iff];lia]
def OT:i6 K oA CT:=by
 intro N H U x T d M v O Q R I h g k;unfold oA at g;split at g
 .split at g
  .rename_i u s;split at g
   .rename_i E;obtain⟨y,A,g⟩:=YB.mp g;cases g;obtain⟨i,l,p⟩:=R.lst _ u s;cases I;cases h with
    |cons G L=>cases G;cases L;obtain⟨w,r,B⟩:=p.get A;obtain⟨j,z⟩:=R.put (c:=.lst (u.eraseIdx _)) (o:=.lst (i.eraseIdx _)) (Yy.mp s).1 l (.inl ⟨i,rfl⟩)<|OR p _;have hw:=(Yy.mp r).1;show⟨_,i,_,_,w,rfl,rfl,l,by lia,by lia,OS E.1 hw,r,k N w _ j z<|B.mono j⟩
   .cases g
  .cases g
 .cases g
abbrev mN(d:Hm):D->Option Bool
 |.non=>b0 dI|.bl b=>b0 b|.int i=>b0 (i != 0)|.str z=>if z.length<=YM then b0 ((z.length:Int) != 0)else b5|.tup xs=>b0 (!xs.isEmpty)|.rol xs=>b0 (!xs.isEmpty)|.loc a=>match d[a]? with|some (.lst xs)=>b0 (!xs.isEmpty)|some (.dK kvs)=>b0 (!kvs.isEmpty)|_=>b5
 |.ty _=>b5
def uW{g i:Type}{xs:List g}{d:List i}(h:xs.length=d.length):xs.isEmpty=d.isEmpty:=by cases xs<;>cases d<;>first|rfl|cases h
def OU(R:Rp K π H p)(h:IsD K π p.length H v x)(e:mN p x=b0 b):xZ K v H b:=by
 cases h with
 |non=>cases e;rfl|bl c=>cases e;rfl|int i=>cases e;rfl|str z=>
  simp only[mN]at e;split at e
  .rename_i r;cases e;show⟨r,rfl⟩
  .cases e
 |tup h t=>cases e;show .inr (.inl ⟨_,h,by rw[uW t.length]⟩)|rol h t=>cases e;show .inl ⟨_,h.sq,by rw[uW t.length]⟩|@loc a u=>
  simp only[mN]at e;split at e
  .rename_i s j;cases e;obtain⟨l,d,g⟩:=R.lst a s j;show .inl ⟨l,.of d,by rw[uW g.length]⟩
  .rename_i k j;cases e;obtain⟨l,d,g,_⟩:=R.dK a k j;show .inr<|.inr ⟨l,d,?_⟩;have:=congrArg ZE g;rw[Yu,Yu]at this;rw[uW this]
  .cases e
 |ty n=>cases e
abbrev c7(m:ME):MT:=λg d=>(m g d).bind λp=>(mN p.2 p.1).map λb=>(b,p.2)
def OV(h:QE X e m)(s:zB e=d7):QT X e (c7 m):=⟨uD (KG h.h<|N4 s)<|by
 rintro I H Q ⟨z,A,v,b,w,R,E,d,k⟩;obtain⟨⟨x,y⟩,p,d⟩:=Yv.mp d;obtain⟨B,r,d⟩:=YB.mp d;cases d;show⟨z,A,v,x,_,R,E,p,λg G j l i u=>⟨_,OU i u r,k g j l i⟩⟩⟩
def OW(F:FnOk X.prog X.w X.K X.mg X.base f7 k f j ps (jL X.K 0 l))(w:Room k X.A)(g:X.mg x=b0 (.ref f))(v:a0L X.K (.ref f)=d7)(s:Binds X.K j ps [])(u:Gl X x)(h:(x==("__debug__":Str))=dI):QE X (.Call (.Name x p) [] [] pos) (aG l aD):=
 ⟨dJ (KW F w u g v s .nil (E:=E0) CY h)<|by
  rintro I H Q ⟨A,G,y,d,i,R,E,g,k⟩;obtain⟨⟨B,z⟩,r,g⟩:=Yv.mp g;cases r;show⟨rfl,A,[],y,d,i,R,.nil,g,k⟩⟩
abbrev oB(c:MT)(b:MS):Nat->MS
 |0,_,_=>b5|n+1,ρ,μ=>(c ρ μ).bind λp=>match p.1 with
  |false=>b0 (.nx,ρ,p.2)|true=>(b ρ p.2).bind λq=>match q.1 with
   |.nx=>oB c b n q.2.1 q.2.2|.ct=>oB c b n q.2.1 q.2.2|.bk=>b0 (.nx,q.2.1,q.2.2)|.rt d=>b0 (.rt d,q.2.1,q.2.2)
abbrev mO(n:Nat)(c:MT)(b:MS):MS:=oB c b n
def OX{mt:MT}n(hc:QT X c mt)(hb:QB X body mb)(hp:a6w (Y5 X.prog X.w) X.A X.env X.xe):QS X (.While c body [] pos) (mO n mt mb):=⟨kF (Kc hp hc.h hb.h)<|by
 rintro E σ H ⟨π,ρ,Z,U,G,A,R,EN,hm,k⟩;have r:∀{h:Nat->Addr}{n2:Nat}{H2:Hp}(e:Ext π Z.length H h n2 H2),nU X.K E h n2 H2 U G A:=λ{h n2 H2} e=>by
  cases U with
  |nx=>show λi u z j y L=>k i u z (e.trans j) y L|bk=>show λi u z j y L=>k i u z (e.trans j) y L|ct=>show λi u z j y L=>k i u z (e.trans j) y L|rt d=>show KC.after k e
 show⟨λm w x=>∃h l s,Ext π Z.length H h l.length x/\Rp X.K h x l/\En X.K h l.length x w s/\oB mt mb m s l=b0 (U,G,A),⟨n,π,Z,ρ,.refl,R,EN,hm⟩,?_⟩;rintro m σ1 H1 ⟨h,l,s,O,R2,E2,h2⟩;cases m with
 |zero=>cases h2|succ m=>
  obtain⟨⟨b,T⟩,h3,h4⟩:=Yv.mp h2;show⟨h,s,l,b,T,R2,E2,h3,λi z j y=>?_⟩;cases b with
  |false=>show mG ?_;cases h4;show r O i σ1 z j y (E2.mono j)|true=>
   show mH ?_;obtain⟨⟨f4,I,B⟩,h5,Y⟩:=Yv.mp h4;show⟨λw x=>∃g v p,Ext π Z.length H g p.length x/\Rp X.K g x p/\En X.K g p.length x w v/\oB mt mb m v p=b0 (U,G,A),
    λw x ⟨g,v,p,a1,a2,a3,a4⟩=>⟨m,a0x _,g,p,v,a1,a2,a3,a4⟩,i,s,T,f4,I,B,y,E2.mono j,h5,?_⟩
   cases f4 with
   |nx=>show λg K H5 Q N M=>⟨g,I,B,(O.trans j).trans Q,N,M,Y⟩|ct=>show λg K H5 Q N M=>⟨g,I,B,(O.trans j).trans Q,N,M,Y⟩|bk=>cases Y;show λg K H5 Q N M=>r (O.trans j) g K H5 Q N M|rt d'=>
    cases Y;show r<|O.trans j⟩
def OY:QS X (.Return b5 pos) (aN<|mC .non):=⟨kF J2<|by
 rintro E s H ⟨h,r,p,l,i,g,R,j,d,k⟩;cases d;show k h .non H .refl R .non⟩
abbrev pU:List D->Option (List Bool)
 |[]=>b0 []|.bl b::r=>(pU r).map (b::·)|_=>b5
abbrev uX:MF:=λds a=>match ds with
 |[x]=>(bJ a x).bind λb=>(pU b).map λbs=>(.bl<|bs.all id,a)|_=>b5
def DW:∀{xs}{vs}{bs},IsDs K π n H vs xs->pU xs=b0 bs->vs=bs.map V.bl
 |[],_,bs,h,e=>by cases h;cases e;rfl
 |x::xs,vs,bs,h,e=>by
  cases h with
  |cons h t=>
   cases x with
   |bl b=>obtain⟨a,c,d⟩:=YB.mp e;subst d;cases h;rw[DW t c];rfl|_=>cases e
abbrev DX(K:Yx)(g:List Bool->Bool):gz->Hp->VK->Prop:=λxs H Q=>∃p bs,xs=[.ref p]/\(SqL K H p (bs.map V.bl)\/SqT K H p (bs.map V.bl))/\Q (.bl<|g bs) H
def OZ{f:MF}(h:f=λds b=>match ds with|[x]=>(bJ b x).bind λxs=>(pU xs).map λbs=>(.bl<|g bs,b)|_=>b5):dW K f (DX K g):=by
 subst h;intro l H b xs d j n Q R i a k;dsimp only at a;split at a
 .obtain⟨r,c,a⟩:=Yv.mp a;obtain⟨bs,e,a⟩:=YB.mp a;cases a;cases i with
  |cons i t=>cases t;obtain⟨p,o,rfl,q,hd⟩:=pP R i c;have:=DW hd e;subst this;show⟨p,bs,rfl,q,k l _ H .refl R<|.bl _⟩
 .cases a
def DY{bs:List Bool}(a:n=bs.length):(Zj n).all (λi=>bs.getD i dI)=bs.all id:=by
 subst a;induction bs with
 |nil=>rfl|cons b bs c=>rw[Zc,a4i,ZD,a6V,ZD,<- c];rfl
def DZ{bs:List Bool}(r:Vals (bs.map V.bl) its):TruthOf prog w A (λi v=>its.toArray[i]?=b0 v) (λi=>bs.getD i dI):=by
 intro i v s Q E h b;have a:its[i]?=b0 v:=by simpa using h
 have d:i<bs.length:=by have:=(Yy.mp a).1;have:=r.length;rw[Yu]at this;lia
 obtain⟨u,c,g⟩:=r.get (i:=i) (x:=.bl bs[i]) (by rw[YU,Yz d];rfl);rw[a]at c;cases c;cases g;have e:bs.getD i dI=bs[i]:=by simp[ZV,d]
 dsimp only at b;rw[e]at b;show a0i b
def O0(hc:X.calm=d7):CallR X (.builtin "all") (DX X.K (·.all id)):=by
 intro y s K H G E Q I r h;obtain⟨p,bs,rfl,j,q⟩:=h;obtain⟨u,rfl,B⟩:=fH r;cases B;have x:X.A.in1.handled=none:=I.ok.hd hc;rcases j with j|j
 .obtain⟨a,k,g,A⟩:=I.list j;show call_all_walk<|a4f g.isList ?_;have d:p≠s.heap.objs.size:=by obtain⟨o,n,_⟩:=g.isList;show Y7<|YJ n
  show⟨s.heap.objs.size,_,_,_,_,_,λi=>bs.getD i dI,rfl,b0c x _ p d a.toArray,⟨⟨_,YR _ rfl,rfl,rfl⟩,g.isList.push _⟩,DZ k,λz w v=>?_⟩;have c:a.toArray.size=bs.length:=by rw[YI,<- k.length,Yu]
  show⟨.bl _,H,I.kept (t':=w) λb o e=>v b o ?_<|YC _ e,rfl,?_⟩
  .intro l;have:b=s.heap.objs.size:=by simpa using l
   show Y7 (YJ e) this
  .rw[DY c];show q
 .obtain⟨a,k,g,A⟩:=I.tuple j;show call_all_walk<|a2a (show s.heap.IsTuple p a.toArray from g) ?_;have d:p≠s.heap.objs.size:=by obtain⟨o,n,_⟩:=g;show Y7<|YJ n
  show⟨s.heap.objs.size,_,_,_,_,_,λi=>bs.getD i dI,rfl,a5v x _ p d a.toArray,⟨⟨_,YR _ rfl,rfl,rfl⟩,a4G g _⟩,DZ k,λz w v=>?_⟩;have c:a.toArray.size=bs.length:=by rw[YI,<- k.length,Yu]
  show⟨.bl _,H,I.kept (t':=w) λb o e=>v b o ?_<|YC _ e,rfl,?_⟩
  .intro l;have:b=s.heap.objs.size:=by simpa using l
   show Y7 (YJ e) this
  .rw[DY c];show q
open PyProof.Rows (IntsAre)
open PySem.W (KasT kas_asc kas_desc kas_tail3 kas_descPart kas_count kas_place kas_bin kas_sort kas_rev kas_ask)
abbrev cS(lt:Nat->Nat->Bool)(n:Nat):List Nat:=(Zj n).mergeSort λi j=>!(lt j i)
def O1 lt(_:0<n):(cS lt n).Perm (Zj n):=List.mergeSort_perm _ _
section
open PyProof.Rows
def D0{us:gw}(h:us.length<2)(g:s.heap.get? c=b0 (a0G "list" us.toArray z))(q:R (.done<|.ret .none) {s with heap:=a5F s.heap c us us.toArray}):
  Y6 (Y5 prog w) A (Builtin.«list.sort» ⟨[.ref c],[]⟩) R E s:=by
 rw[b0o];have lt:c<s.heap.objs.size:=YJ g;show Yw<|listItems_at g rfl<|Yw<|a5t g rfl ?_;obtain⟨y,d⟩:∃y,(s.heap.update c<|ZW λ_=>#[]).get? c=b0 (a0G "list" #[] y):=⟨_,b0q g _⟩;show Yw<|a6B d rfl<|Yw<|a6X<|Yw<|a5r<|Zz ?_;have e:(((s.heap.update c<|ZW λ_=>#[]).push<|a0G "tuple" us.toArray 0).push<|a0G "list" #[] 0).get? c=b0 (a0G "list" #[] y):=
  YC _<|YC _ d
 change Y6 (Y5 prog w) A _ R E ⟨((s.heap.update c<|ZW λ_=>#[]).push<|a0G "tuple" us.toArray 0).push<|a0G "list" #[] 0,s.gens,s.drawn,s.toks,s.os⟩;dsimp only;have a:us.toArray.size<2:=by simpa using h
 rw[if_pos a,if_pos a];show Yw<|YH ?_;rw[StateT.run_pure];show Yw<|YH ?_;dsimp only;have b:b0N (λx=>x.2) (a8X<|Zq general' (us.toArray.zip us.toArray) #[] 7 b5)=us.toArray:=by change b0N (λx=>x.2) (us.toArray.zip us.toArray)=us.toArray;show Array.ext (by simp) λi j k=>by simp
 show Yw (a6B e rfl<|Yw<|a5t e rfl ?_ (hsz2:=by rw[b,Y2];lia));rw[b];simp only[bne_self_eq_false,Zf,if_false];show YH q
end
def D1 lt:cS lt 1=[0]:=List.mergeSort_singleton ..
def zK lt:cS lt 0=[]:=List.mergeSort_nil
def iF lt n:(cS lt n).Perm (Zj n):=by
 cases n with
 |zero=>rw[zK];show .nil|succ n=>show O1 lt<|a4l n
def O2(h:Vals (ns.map V.int) us):a2B us ns:=yB h
end L3
namespace L3
open PySem L2 PySem.W PyProof.Rows
abbrev uY:Bool->Keyed->Array Keyed->Nat->Nat->Nat->StateT a0w a7e (Option Nat):=sortPriv% PySem.Builtin.gallop
def lP{f:Nat->a->StateT σ a7e (ForInStep a)}{st:σ}{Q:a->σ->YA->Prop}(d:Nat->a->Prop)(j:a->Prop)n(step:∀i x b,i<n->d i b->a2s M A E (f x b) (λr g v=>g=st/\v=s/\match r with|.done c=>j c|.yield c=>d (i+1) c) st s)(fin:∀b,d n b->j b)(k:∀b,j b->Q b st s):
  ∀(l:List Nat)i b,i+l.length=n->d i b->a2s M A E (forIn l b f) Q st s
 |[],i,b,h,hI=>kasC_nil (k b<|fin b<|by simp at h;subst h;show hI)|x::l,i,b,h,hI=>by
  rw[Zc]at h;show kasC_cons (ZT (step i x b ⋯ hI) (λr v q=>?_) λ_ _ e=>e);obtain⟨r,g⟩:=r;obtain⟨o,p,u⟩:=q;dsimp only at o p;subst o p;cases r with
  |done c=>show k c u|yield c=>show lP d j n step fin k l (i+1) c ⋯ u
abbrev gF(prog:Y4)(w:Zk)(A:Zi)(κ:a1q)(s:YA)(X:Keyed->Prop)(an:Keyed->Keyed->Bool):Prop:=
 ∀(x y:Keyed)(C:Bool->YA->Prop),X x->X y->C (an x y) s->Y6 (Y5 prog w) A (a9v κ x.1 y.1) C (λ_ _=>False) s
def rR{st:a0w}(hC:gF prog w A κ s X an)(c:kindOf st=κ)(d:X x)(e:X y)(q:Q (b0<|an x y) st s):a2s (Y5 prog w) A E (lt' x y) Q st s:=by rw[lt'_eq];show YT<|a3d ?_;rw[c];show YT<|a4u<|a7D<|ZT (hC x y (λb a=>b=an x y/\a=s) d e ⟨rfl,rfl⟩) (λb a z=>by obtain⟨rfl,rfl⟩:=z;show Y1 q) λ_ _ f=>f.elim
def O3{st:a0w}(h:Q ⟨⟩ x s):a2s (Y5 prog w) A E (set x:StateT a0w a7e PUnit) Q st s:=by unfold a2s;rw[StateT.run_set];show YH h
def zL{st:a0w}(h:a[i]?=b0 x)(q:Q x st s):a2s (Y5 prog w) A E (elem' a i) Q st s:=by rw[elem'_eq,h];show Y1 q
abbrev D2:Array Keyed->Array Keyed->StateT a0w a7e (Array Keyed):=sortPriv% PySem.Builtin.mergeLo
abbrev D3:Array Keyed->Array Keyed->StateT a0w a7e (Array Keyed):=sortPriv% PySem.Builtin.mergeHi
def D4:∀l(b:Array Keyed)o k,o+k+l.length<=b.size->((l.zipIdx k).foldl (λa x=>a.setIfInBounds (o+x.2) x.1) b).toList=b.toList.take (o+k)++l++b.toList.drop (o+k+l.length)
 |[],b,o,k,h=>by simp
 |x::l,b,o,k,h=>by
  rw[List.zipIdx_cons,a5P,D4 l _ o (k+1)<|by rw[Array.size_setIfInBounds];rw[Zc]at h;lia];rw[Zc]at h;have c:o+k<b.toList.length:=by simp;lia
  rw[a6g,Zc];dsimp only;rw[show o+(k+1)=o+k+1 by lia,a8z,ZH c,List.take_set_of_le<|YG _,List.drop_set_of_lt<|by lia];simp[show o+k+1+l.length=o+k+(l.length+1) by lia]
def O4{st:a0w}(hC:gF prog w A κ s X an)(c:b0v st=κ)(a:(a8X st)[i]?=b0 x)(b:(a8X st)[j]?=b0 y)(d:X x)(e:X y)(q:Q (b0<|an x y) st s):a2s (Y5 prog w) A E (ltAt' i j) Q st s:=by rw[ltAt'_eq];show YT<|a3d ?_;show YT<|zL a<|YT<|zL b<|rR hC c d e q
def O5(us:gw):(us.toArray.zip us.toArray).toList=us.map λu=>(u,u):=by
 simp only[Array.toList_zip];induction us with
 |nil=>rfl|cons u us a=>simpa using a
structure Near(us:gw)(n K:Nat)(an:Value->Value->Bool):Prop where
 len:us.length=n+1
 le:K<=n
 asc:∀(i:Nat)(x z:Value),i+1<n->us[i+1]?=b0 x->us[i]?=b0 z->an x z=dI
 ris:∀x z,us[0]?=b0 x->us[n-1]?=b0 z->an x z=d7
 at_:∀(i:Nat)(x z:Value),i<n->us[i]?=b0 x->us[n]?=b0 z->an z x=decide (K<=i)
abbrev D5(prog:Y4)(w:Zk)(A:Zi)(us:gw)(an:Value->Value->Bool)(s:YA):Prop:=
 Y6 (Y5 prog w) A (keyKind' us.toArray) (λb a=>a=s/\∀(x y:Value)(C:Bool->YA->Prop),x∈us->y∈us->C (an x y) s->Y6 (Y5 prog w) A (a9v b x y) C (λ_ _=>False) s) (λ_ _=>False) s
def zM{σ:L2.St}(I:L2.Inv X b0Z σ H s){t:List Int}(h:SqT X.K H a (t.map V.int))(h':SqT X.K H a (t'.map V.int)):t=t':=
 (List.map_inj_right λx y h=>by cases h;rfl).mp<|I.tuple_inj h h'
open Classical in
abbrev tv(K:Yx)(H:Hp):Value->List Int
 |.ref a=>if h:∃t:List Int,SqT K H a (t.map V.int)then h.choose else[]|_=>[]
end L3
namespace L3
open PySem PySem.Spec
namespace Tb
noncomputable abbrev IsT(prog:Y4)(w:Zk)(h:ZX)(k:List Int)(b:Addr):Prop:=IsTupleKey (a1P prog w) h k b
noncomputable abbrev gC(a:Bool):Obj:={cls:=.type "set",dict:=b5,data:=.set #[] 0<|.fresh 0 0 a}
end Tb
end L3
namespace L3
open PySem L2
open PyProof.Rows (IntsAre)
def zN:∀{ds}{k},pS ds=b0 k->ds=k.map D.int
 |[],k,h=>by cases h;rfl
 |d::ds,k,h=>by
  cases d with
  |int i=>obtain⟨c,a,b⟩:=YB.mp h;subst b;rw[zN a];rfl|_=>cases h
def rS(h:cY x=b0 k):x=.tup (k.map D.int):=by
 cases x with
 |tup ds=>rw[zN h]|_=>cases h
abbrev fD(b:Hm):D->Option (List D)
 |.rol xs=>b0 xs|.loc a=>match b[a]? with
  |some (.lst xs)=>b0 xs|_=>b5
 |_=>b5
def pV(R:Rp K π H μ)(h:IsD K π μ.length H v x)(e:fD μ x=b0 xs):∃p vs,v=.ref p/\SqL K H p vs/\IsDs K π μ.length H vs xs:=by
 cases h with
 |rol q t=>cases e;show⟨_,_,rfl,q.sq,t⟩|@loc a g=>
  simp only[fD]at e;split at e
  .rename_i i d;cases e;obtain⟨vs,b,c⟩:=R.lst a xs d;show⟨_,vs,rfl,.of b,c⟩
  .cases e
 |_=>cases e
def ints_of':∀{vs}{k:List Int},IsDs K π n H vs (k.map D.int)->vs=k.map V.int
 |_,[],h=>by cases h;rfl
 |_,i::k,h=>by
  cases h with
  |cons h t=>cases h;rw[ints_of' t];rfl
def zO:∀(k:List Int),IsDs K π n H (k.map V.int) (k.map D.int)
 |[]=>.nil|i::k=>.cons (.int i)<|zO k
def D6{X:Cx}:∀{k}{xs},Vals (k.map V.int) xs->ItemsAre (a1P X.prog X.w) k xs
 |[],_,h=>by cases h;show .nil
 |i::k,_,h=>by
  cases h with
  |cons h t=>obtain⟨a,rfl⟩:=h;show .cons (intKind_is _ _ _ _)<|D6 t
def kP{σ:St}(I:Inv X b0Z σ H s)(h:SqT X.K H b (k.map V.int)):Tb.IsT X.prog X.w s.heap k b:=by obtain⟨i,g,⟨a,e,c,n,d⟩,_⟩:=I.tuple h;show⟨a,i.toArray,n,e,c,d,by simpa using D6 g⟩
def call_lenT:CallR X (.builtin "len") (λxs H Q=>∃a L,xs=[V.ref a]/\H a=b0 (uB a L)/\Q (.int L.length) H):=by
 intro b0Z s σ H xs A Q I r h;obtain⟨a,L,rfl,e,q⟩:=h;obtain⟨u,rfl,y⟩:=fH r;cases y;obtain⟨⟨o,p,x,d,z,t,R,c,hd,g,ok,v,n,k,i,w,j⟩,_,_⟩:=I.hok a _ e;have b:d.size=L.length:=by have:=v.length_eq;simpa using this
 have l:t.mask<=511:=by rcases k with h|h|h|h<;>lia
 show call_len_set p c hd (Tb.fits_of ok g) (by rw[b];lia) ?_;rw[b];show⟨.int L.length,H,I.tok _,⟨_,rfl⟩,q⟩
end L3
namespace L3
open PySem L2
def D7:∀{vs}{xs}i,IsDs K π n H vs xs->IsD K π n H (vs.getD i .non) (xs.getD i .non)
 |_,_,i,.nil=>by simp;show .non
 |_,_,0,.cons h _=>h|_,_,i+1,.cons _ t=>by simpa using D7 i t
def D8(h:IsDs K π n H vs xs):∀(l:List Nat),IsDs K π n H (l.map λi=>vs.getD i .non) (l.map λi=>xs.getD i .non)
 |[]=>.nil|i::l=>.cons (D7 i h)<|D8 h l
end L3
namespace L3
open PySem L2 PySem.W PyProof.Rows
def O6{st:a0w}(q:Q () (setArr st<|b0U (a8X st) i j<|(j-i)/2) s):a2s (Y5 prog w) A E (reverseSlice' i j) Q st s:=by rw[reverseSlice'_eq];show a1J q
def jR{f:Nat->g->StateT σ a7e (ForInStep g)}{Q:g->σ->YA->Prop}(j:Nat->g->σ->Prop)(l:g->σ->Prop)a n(step:∀i b st,i<n->j i b st->a2s M A E (f (a+i) b) (λr d p=>p=s/\match r with|.done c=>l c d|.yield c=>j (i+1) c d) st s)(fin:∀b st,j n b st->l b st)(k:∀b st,l b st->Q b st s):
  ∀m i b st,i+m=n->j i b st->a2s M A E (forIn (a3j (a+i) m) b f) Q st s
 |0,i,b,st,h,hI=>kasC_nil (k b st<|fin b st<|by simp at h;subst h;show hI)|m+1,i,b,st,h,hI=>by
  rw[a2Z];show kasC_cons (ZT (step i b st ⋯ hI) (λr p q=>?_) λ_ _ e=>e);obtain⟨r,d⟩:=r;obtain⟨u,o⟩:=q;subst u;cases r with
  |done c=>show k c _ o|yield c=>show jR j l a n step fin k m (i+1) c d ⋯ o
inductive BsI (K n i:Nat):Option (Option Nat)×Nat×Nat->Prop
 |mk {lo hg:Nat}(h1:lo<=K)(h2:K<=hg)(h3:hg<=n)(h4:hg-lo<=n-i):BsI K n i (b5,lo,hg)
inductive BsD (K:Nat):Option (Option Nat)×Nat×Nat->Prop
 |mk {lo:Nat}:BsD K (b5,lo,K)
def D9{lo:Nat}(h:a<=n)(c:a-lo<=n-i)(j:¬ lo >= a):lo+(a-lo)/2<n/\a-(lo+(a-lo)/2+1)<=n-(i+1)/\lo+(a-lo)/2-lo<=n-(i+1):=by
 obtain⟨d,rfl⟩:=a6R<|a9b j;have e:lo+d+1-lo=d+1:=by rw[a3h,a0K]
 rw[e]at c ⊢;have b:(d+1)/2<=d:=a3X (Nat.div_lt_self (a4l d)<|by decide);generalize(d+1)/2=m at b;have g:d<=n-(i+1):=Nat.le_sub_one_of_lt c;show⟨Zg (Nat.lt_succ_of_le<|a7Y b lo) h,?_,?_⟩
 .rw[Nat.add_sub_add_right,a7H];show Zr (Nat.sub_le _ _) g
 .rw[a0K];show Zr b g
def Ea{st:a0w}(hC:gF prog w A κ s X an)(hk:kindOf st=κ){N:Bool}(hn:h<n)(y:Nat->Keyed)(ha:∀i,i<n->O[b+i]?=b0 (y i))(hX:∀i,i<n->X (y i))(hy:X H)K(hK:K<=n)(hB:∀i,i<n->(if N then an (y i) H else !(an H<|y i))=decide (i<K))(q:Q (b0 K) st s):a2s (Y5 prog w) A E (uY N H O b n h) Q st s:=by
 have L:∀{i:Nat}{R:Option Bool->a0w->YA->Prop},i<n->R (b0<|decide<|i<K) st s->a2s (Y5 prog w) A E (do let x <- elem' O (b+i);if N then lt' x H else return(<- lt' H x).map (!·)) R st s:=by
  intro i R v r;rw[elem'_eq,ha i v];show YT<|Y1 ?_;have:=hB i v;cases N with
  |true=>simp only[if_true]at this ⊢;show rR hC hk (hX i v) hy (by rw[this];show r)|false=>simp only[Zf,if_false]at this ⊢;show YT<|rR hC hk hy (hX i v)<|Y1 ?_;change R (b0<|!(an H<|y i)) st s;rw[this];show r
 unfold uY;show YT<|L hn ?_;by_cases U:h<K
 .simp only[U,decide_true,if_true];show YT<|a0H<|lP (λi c=>c.1=b5/\h+c.2.1<K/\c.2.1<c.2.2/\i+1<=c.2.2) (λc=>c.1=b5/\h+c.2.1<K/\c.2.1<c.2.2/\K<=h+min c.2.2 (n-h)) n (λi x c v a=>?_) (λc a=>⟨a.1,a.2.1,a.2.2.1,by lia⟩) (λc G=>?_) _ 0 _ (by simp) ⟨rfl,U,by decide,YG _⟩
  .obtain⟨T,la,of⟩:=c;obtain⟨u,j,k,I⟩:=a;dsimp only at u j k I ⊢;by_cases d:of >= n-h
   .rw[if_pos d];show Y1 ⟨rfl,rfl,rfl,j,k,by dsimp only;lia⟩
   .rw[if_neg d];show YT (L (i:=h+of) ⋯ ?_);by_cases e:h+of<K
    .simp only[e,decide_true,a3Z,Zf,if_false];show Y1 ⟨rfl,rfl,rfl,by dsimp only;lia,by dsimp only;lia,by dsimp only;lia⟩
    .simp only[e,decide_false,a4C,if_true];show Y1 ⟨rfl,rfl,rfl,j,k,by dsimp only;omega⟩
  .obtain⟨T,la,of⟩:=c;obtain⟨u,j,k,I⟩:=G;dsimp only at u j k I ⊢;subst u;dsimp only;show YT<|a0H<|lP (BsI K n) (BsD K) n (λi x c v a=>?_) (λc a=>?_) (λc G=>?_) _ 0 _ (by simp)<|.mk ⋯ ⋯ ⋯<|by omega
   .cases a with
    |@mk p g l o z B=>
    dsimp only;by_cases d:p >= g
    .rw[if_pos d];obtain rfl:g=K:=a3y (Zr d l) o;show Y1 ⟨rfl,rfl,.mk⟩
    .obtain⟨M,Y,Z⟩:=D9 z B d;rw[if_neg d];show YT<|L M ?_;by_cases e:p+(g-p)/2<K
     .simp only[e,decide_true,if_true];show Y1 ⟨rfl,rfl,.mk e o z Y⟩
     .simp only[e,decide_false,Zf,if_false];show Y1 ⟨rfl,rfl,.mk l (a3f e) (a0y M) Z⟩
   .cases a with
    |@mk p g l o z B=>
    obtain rfl:g=K:=a3y (Zr (a7h.mp<|a7G.mp<|a2t n▸B) l) o;show .mk
   .cases G;show Y1 q
 .simp only[U,decide_false,Zf,if_false];show YT<|a0H<|lP (λi c=>c.1=b5/\K+c.2.1<=h/\c.2.1<c.2.2/\i+1<=c.2.2) (λc=>c.1=b5/\K+c.2.1<=h/\c.2.1<c.2.2/\h+1<=K+min c.2.2 (h+1)) n (λi x c v a=>?_) (λc a=>⟨a.1,a.2.1,a.2.2.1,by lia⟩) (λc G=>?_) _ 0 _ (by simp) ⟨rfl,by dsimp only;lia,by decide,YG _⟩
  .obtain⟨T,la,of⟩:=c;obtain⟨u,j,k,I⟩:=a;dsimp only at u j k I ⊢;by_cases d:of >= h+1
   .rw[if_pos d];show Y1 ⟨rfl,rfl,rfl,j,k,by dsimp only;lia⟩
   .rw[if_neg d];show YT (L (i:=h-of) nofun ?_);by_cases e:h-of<K
    .simp only[e,decide_true,if_true];show Y1 ⟨rfl,rfl,rfl,j,k,by dsimp only;lia⟩
    .simp only[e,decide_false,Zf,if_false];show Y1 ⟨rfl,rfl,rfl,by dsimp only;lia,by dsimp only;lia,by dsimp only;lia⟩
  .obtain⟨T,la,of⟩:=c;obtain⟨u,j,k,I⟩:=G;dsimp only at u j k I ⊢;subst u;dsimp only;show YT<|a0H<|lP (BsI K n) (BsD K) n (λi x c v a=>?_) (λc a=>?_) (λc G=>?_) _ 0 _ (by simp)<|.mk nofun ⋯ nofun<|by lia
   .cases a with
    |@mk p g l o z B=>
    dsimp only;by_cases d:p >= g
    .rw[if_pos d];obtain rfl:g=K:=a3y (Zr d l) o;show Y1 ⟨rfl,rfl,.mk⟩
    .obtain⟨M,Y,Z⟩:=D9 z B d;rw[if_neg d];show YT<|L M ?_;by_cases e:p+(g-p)/2<K
     .simp only[e,decide_true,if_true];show Y1 ⟨rfl,rfl,.mk e o z Y⟩
     .simp only[e,decide_false,Zf,if_false];show Y1 ⟨rfl,rfl,.mk l (a3f e) (a0y M) Z⟩
   .cases a with
    |@mk p g l o z B=>
    obtain rfl:g=K:=a3y (Zr (a7h.mp<|a7G.mp<|a2t n▸B) l) o;show .mk
   .cases G;show Y1 q
section
variable{α:Type}{r:α->Int}{A B O:List α}{ia ib:Nat}
abbrev Sr(r:α->Int)(l:List α):Prop:=l.Pairwise λx y=>r x<=r y
structure J(r:α->Int)(A B O:List α)(ia ib:Nat):Prop where
 sa:Sr r<|O++A.drop ia
 sb:Sr r<|O++B.drop ib
 pm:O.Perm<|A.take ia++B.take ib
def J.swap(h:J r A B O ia ib):J r B A O ib ia:=⟨h.sb,h.sa,h.pm.trans a1w⟩
def J.blockB(h:J r A B O ia ib)(i:∀x∈(B.drop ib).take k,∀y∈A.drop ia,r x<=r y):J r A B (O++(B.drop ib).take k) ia (ib+k):=by
 obtain⟨a,b,g⟩:=h;have e:O++(B.drop ib).take k++B.drop (ib+k)=O++B.drop ib:=by rw[YQ,<- a6n,Zu]
 show⟨?_,by rw[e];show b,?_⟩
 .unfold Sr at a b ⊢;rw[YQ,a0g];rw[a0g]at a b;show⟨a.1,?_,λx d y c=>?_⟩
  .rw[a0g];show⟨b.2.1.sublist<|a2c _ _,a.2.1,i⟩
  .rcases YN.mp c with c|c
   .show b.2.2 x d y<|a3k c
   .show a.2.2 x d y c
 .rw[List.take_add];show((g.append_right _).trans<|by rw[YQ])
def J.blockA(h:J r A B O ia ib)(a:∀x∈(A.drop ia).take k,∀y∈B.drop ib,r x<=r y):J r A B (O++(A.drop ia).take k) (ia+k) ib:=(h.swap.blockB a).swap
def rV{l:List α}(h:l[i]?=b0 x):l.drop i=x::l.drop (i+1):=by obtain⟨a,rfl⟩:=Yy.mp h;show a0h a
def Sr.head(h:Sr r (x::l)):∀y∈x::l,r x<=r y:=λy a=>by
 rcases Zm.mp a with rfl|a
 .show a5Q _
 .show List.rel_of_pairwise_cons h a
def J.lowA(h:J r A B O ia ib)(a:A[ia]?=b0 x):∀y∈A.drop ia,r x<=r y:=by have:=(a0g.mp h.sa).2.1;rw[rV a]at this ⊢;show Sr.head this
def J.lowB(h:J r A B O ia ib)(a:B[ib]?=b0 x):∀y∈B.drop ib,r x<=r y:=h.swap.lowA a
def J.pushB(h:J r A B O ia ib)(d:A[ia]?=b0 x)(a:B[ib]?=b0 y)(e:r y<=r x):J r A B (O++[y]) ia (ib+1):=by
 have:=h.blockB (k:=1)<|by
  rw[rV a];intro z b u c;rw[a4L,ZG,YL]at b;subst b;have:=h.lowA d u c;lia
 rwa [rV a,a4L,ZG]at this
def J.pushA(h:J r A B O ia ib)(b:A[ia]?=b0 x)(c:B[ib]?=b0 y)(a:r x<=r y):J r A B (O++[x]) (ia+1) ib:=(h.swap.pushB c b a).swap
def Eb{l:List α}(h:x∈(l.drop i).take k):∃j,j<k/\l[i+j]?=b0 x:=by obtain⟨j,a,e⟩:=a3z h;rw[Zb]at a;show⟨j,by lia,?_⟩;rw[<- e,a5h,a8B,Yz]
def J.gallA(h:J r A B O ia ib)(d:B[ib]?=b0 y)(b:∀j x,j<k->A[ia+j]?=b0 x->r x<=r y):J r A B (O++(A.drop ia).take k) (ia+k) ib:=h.blockA λx c z hz=>by obtain⟨j,a,e⟩:=Eb c;have g:=b j x a e;have i:=h.lowB d z hz;lia
def J.gallB(h:J r A B O ia ib)(b:A[ia]?=b0 x)(a:∀j y,j<k->B[ib+j]?=b0 y->r y<=r x):J r A B (O++(B.drop ib).take k) ia (ib+k):=(h.swap.gallA b a).swap
abbrev Fi(r:α->Int)(A B R:List α):Prop:=R.Perm (A++B)/\Sr r R
def J.endB(h:J r A B O ia ib)(a:B.length<=ib):Fi r A B (O++A.drop ia++B.drop ib):=by rw[a2Q a,Zt];show⟨?_,h.sa⟩;have:=h.pm.append_right<|A.drop ia;show this.trans ?_;rw[Z6 a];show a1w.trans ?_;rw[<- YQ];show(List.Perm.append_right B<|a1w).trans ?_;rw[Zu]
def J.endA(h:J r A B O ia ib)(a:A.length<=ia):Fi r A B (O++A.drop ia++B.drop ib):=by have:=h.swap.endB a;rw[a2Q a,Zt]at this ⊢;show⟨this.1.trans a1w,this.2⟩
def J.last(h:J r A B O ia ib)(d:A.length=ia+1)(b:∀x,A[ia]?=b0 x->∀y∈B,r y<=r x):Fi r A B (O++B.drop ib++A.drop ia):=by have a:A[ia]?=b0 A[ia]:=Yz nofun;have g:=h.gallB (k:=B.length-ib) a λj y _ c=>b _ a y<|YZ c;have e:(B.drop ib).take (B.length-ib)=B.drop ib:=Z6 (by rw[Z5];show YG _);rw[e]at g;have:=g.endB ⋯;rwa [a2Q (l:=B) (i:=ib+(B.length-ib))<|by lia,Zt]at this
end
def Ec(A:List Keyed)i:(A.toArray.extract i A.toArray.size).toList=A.drop i:=by rw[a7o,a6x,a0m,YI,Z6<|by rw[Z5];show YG _]
def rW(A:List Keyed)i j:(A.toArray.extract i j).toList=(A.drop i).take (j-i):=by rw[a7o,a6x,a0m]
def zP(A:List Keyed)i k:(A.toArray.extract i<|i+k).toList=(A.drop i).take k:=by rw[rW,a0K]
def eU{st:a0w}{A:List Keyed}(h:A[i]?=b0 x)(q:Q x st s):a2s (Y5 prog w) A₀ E (elem' A.toArray i) Q st s:=zL (by rw[a0b];show h) q
abbrev oC(p:Keyed->Bool)(l:List Keyed):Nat:=(l.takeWhile p).length
def Ee p l:oC p l<=l.length:=b0E<|List.takeWhile_sublist _
def zQ:∀{l},l.Pairwise (λx y=>p y=d7->p x=d7)->∀i x,l[i]?=b0 x->p x=decide (i<oC p l)
 |[],_,i,x,h=>by cases h
 |a::l,hp,i,x,h=>by
  unfold oC;rw[a3G]at hp;cases b:p a with
  |true=>
   rw[a7I,b,if_pos rfl,Zc];cases i with
   |zero=>cases h;rw[b];simp|succ i=>have:=zQ hp.2 i x h;unfold oC at this;rw[this];simp
  |false=>
   rw[a7I,b,if_neg YE,a1S];cases i with
   |zero=>cases h;rw[b];simp|succ i=>
    cases c:p x with
    |false=>simp|true=>have:=hp.1 x (YZ h) c;rw[b]at this;cases this
noncomputable abbrev lr(r:Keyed->Int)(x y:Keyed):Bool:=decide<|r x<r y
def Sr.le{r:Keyed->Int}(h:Sr r l)b:l.Pairwise (λx y=>decide (r y<=b)=d7->decide (r x<=b)=d7):=h.imp λ{x y} h1 a=>by rw[decide_eq_true_eq]at a ⊢;lia
def Sr.lt{r:Keyed->Int}{l:List Keyed}(h:Sr r l)(b:Int):l.Pairwise (λx y=>decide (r y<b)=d7->decide (r x<b)=d7):=h.imp λ{x y} h1 a=>by rw[decide_eq_true_eq]at a ⊢;lia
def Sr.part{r:Keyed->Int}(h:Sr r l)i k:Sr r ((l.drop i).take k):=(a0v (a2c _ _)<|a0v (a3S _ _) h)
def zR{st:a0w}{A:List Keyed}(hC:gF prog w A₀ κ s X (lr r))(p:kindOf st=κ)(u:h<n)(y:b+n<=A.length)(o:∀x∈A,X x)(v:X a)(l:Sr r ((A.drop b).take n))(q:∀K,K<=n->(∀j x,j<n->A[b+j]?=b0 x->(r x<=r a↔j<K))->Q (b0 K) st s):a2s (Y5 prog w) A₀ E (uY dI a A.toArray b n h) Q st s:=by
 have e:∀i,i<n->A[b+i]?=b0 (A.getD (b+i) (.none,.none)):=λi c=>by rw[Y3,Yz<|by lia];rfl
 have hc:=zQ<|l.le<|r a;have k:=Ee (λx=>decide<|r x<=r a)<|(A.drop b).take n;rw[Zb,Z5]at k;have d:∀j x,j<n->A[b+j]?=b0 x->((A.drop b).take n)[j]?=b0 x:=λj x g h=>by rw[a0X g,a4S];show h
 show Ea hC p u (λi=>A.getD (b+i) (.none,.none)) (λi c=>by rw[a0b];show e i c) (λi c=>o _<|YZ<|e i c) v _ nofun (λi c=>?_)<|q (oC (λx=>decide<|r x<=r a)<|(A.drop b).take n) ⋯ λj x g h=>?_
 .have:=hc i _<|d i _ c<|e i c;rw[if_neg YE,<- this];unfold lr;by_cases h:r a<r (A.getD (b+i) (.none,.none))
  .rw[decide_eq_true h,decide_eq_false<|by lia];rfl
  .rw[decide_eq_false h,decide_eq_true<|by lia];rfl
 .have:=hc j x<|d j x g h;rw[<- decide_eq_true_eq (p:=r x<=r a),this,decide_eq_true_eq]
def zS{st:a0w}{A:List Keyed}(hC:gF prog w A₀ κ s X (lr r))(p:kindOf st=κ)(u:h<n)(y:b+n<=A.length)(o:∀x∈A,X x)(v:X c)(l:Sr r ((A.drop b).take n))(q:∀K,K<=n->(∀j x,j<n->A[b+j]?=b0 x->(r x<r c↔j<K))->Q (b0 K) st s):a2s (Y5 prog w) A₀ E (uY d7 c A.toArray b n h) Q st s:=by
 have e:∀i,i<n->A[b+i]?=b0 (A.getD (b+i) (.none,.none)):=λi a=>by rw[Y3,Yz<|by lia];rfl
 have hc:=zQ<|l.lt<|r c;have k:=Ee (λx=>decide<|r x<r c)<|(A.drop b).take n;rw[Zb,Z5]at k;have d:∀j x,j<n->A[b+j]?=b0 x->((A.drop b).take n)[j]?=b0 x:=λj x g h=>by rw[a0X g,a4S];show h
 show Ea hC p u (λi=>A.getD (b+i) (.none,.none)) (λi a=>by rw[a0b];show e i a) (λi a=>o _<|YZ<|e i a) v _ nofun (λi a=>?_)<|q (oC (λx=>decide<|r x<r c)<|(A.drop b).take n) ⋯ λj x g h=>?_
 .have:=hc i _<|d i _ a<|e i a;rw[if_pos rfl,<- this]
 .have:=hc j x<|d j x g h;rw[<- decide_eq_true_eq (p:=r x<r c),this,decide_eq_true_eq]
section
variable{prog:Y4}{w:Zk}{A₀:Zi}{E:Value->YA->Prop}{κ:a1q}{s:YA}{A B:List Keyed}{X:Keyed->Prop}{r:Keyed->Int}
def bX{Q:i->σ->YA->Prop}{st:σ}[Decidable c]{a b:StateT σ a7e i}(j:¬ c->a2s M d e b Q st g)(h1:c->a2s M d e a Q st g):a2s M d e (if c then a else b) Q st g:=by
 by_cases h:c
 .rw[if_pos h];show h1 h
 .rw[if_neg h];show j h
def Ef{Q:g->σ->YA->Prop}{st:σ}{a:StateT σ a7e g}(h:∀e,(∀x y z,Q x y z->e x y z)->a2s M b c a e st d):a2s M b c a Q st d:=h Q λ_ _ _ x=>x
def lQ out i j:(out++A.toArray.extract i A.toArray.size++B.toArray.extract j B.toArray.size).toList=out.toList++A.drop i++B.drop j:=by rw[a1k,a1k,Ec,Ec]
inductive LoI (r:Keyed->Int)(A B:List Keyed)(κ:a1q)(ar:Array Keyed)(pd:Array (Nat×Nat×Nat)){M:Type}(n:Nat):Option (Array Keyed)×Array Keyed×Nat×Nat×M->a0w->Prop
 |mk {mg:Nat}{out:Array Keyed}{ia ib:Nat}{m:M}(g1:J r A B out.toList ia ib)(g2:ia+1<A.length)(g3:ib<B.length)(g4:n<=ia+ib):LoI r A B κ ar pd n (b5,out,ia,ib,m)<|Zq κ ar pd mg b5
inductive LoD (P:List Keyed->Prop)(κ:a1q)(ar:Array Keyed)(pd:Array (Nat×Nat×Nat)){T:Type}:Option (Array Keyed)×T->a0w->Prop
 |mk {mg:Nat}{R:Array Keyed}{x:T}(h:P R.toList):LoD P κ ar pd (b0 R,x)<|Zq κ ar pd mg b5
def O7(hC:gF prog w A₀ κ s X (lr r))(hXA:∀x∈A,X x)(hXB:∀x∈B,X x)(hA:Sr r A)(hB:Sr r B)(hA0:0<A.length)(hB0:0<B.length)(hf:∀y,B[0]?=b0 y->∀x∈A,r y<=r x)(hl:∀x,A[A.length-1]?=b0 x->∀y∈B,r y<=r x)(q:∀R U,Fi r A B R.toList->Q R (Zq κ G I U b5) s):
  a2s (Y5 prog w) A₀ E (D2 A.toArray B.toArray) Q (Zq κ G I mg b5) s:=by
 have Z:∀i,i<A.length->∃x,A[i]?=b0 x/\X x:=λi hi=>⟨A[i],Yz hi,hXA _<|ZU hi⟩;have v:∀i,i<B.length->∃x,B[i]?=b0 x/\X x:=λi hi=>⟨B[i],Yz hi,hXB _<|ZU hi⟩;have last:∀{O:List Keyed}{ia ib:Nat},J r A B O ia ib->ia+1=A.length->Fi r A B (O++B.drop ib++A.drop ia):=λ{O ia ib} h e=>h.last e.symm λx d=>hl x (by rw[show A.length-1=ia by lia];show d);unfold D2;show YT<|a4u<|a1b ?_;obtain⟨y0,L,_⟩:=v 0 hB0;show YT<|eU L ?_;have j0:J r A B [y0] 0 1:=by
  show⟨?_,?_,?_⟩
  .change Sr r (y0::A.drop 0);unfold Sr;rw[a1a,a3G];show⟨λx d=>hf y0 L x d,hA⟩
  .change Sr r (y0::B.drop 1);rw[<- rV L,a1a];show hB
  .rw[ZG,a1i];cases B with
   |nil=>cases L|cons b B=>cases L;show a4e _
 show bX (λM=>bX (λh2=>?_) λh2=>?_) λM=>?_;rotate_left
 .have h2:A.length=1:=by have h2:(0+1==A.toArray.size)=true:=h2;rw[YI,beq_iff_eq]at h2;show h2.symm
  show Y1<|q _ _ ?_;rw[lQ];show last j0<|by lia
 .have M:B.length=1:=by have M:(1==B.toArray.size)=true:=M;rw[YI,beq_iff_eq]at M;show M.symm
  show Y1<|q _ _ ?_;rw[lQ];show j0.endB<|by lia
 have M:¬ B.length=1:=λe=>M (by rw[YI,e];rfl);have h2:¬ A.length=1:=λe=>h2 (by rw[YI,e];rfl);show YT<|a3d ?_;have K:A.toArray.size+B.toArray.size=A.length+B.length:=by rw[YI,YI]
 show YT<|a0H<|jR (λi c st=>LoI r A B κ G I (i+1) c st) (LoD (Fi r A B) κ G I) 0 (A.length+B.length) (λi c st hi hI=>?_) (λc st hI=>?_) (λc st N=>?_) (A.toArray.size+B.toArray.size-0) 0 _ _ (by rw[K];lia)<|.mk j0 ⋯ ⋯<|by lia
 .cases hI with
  |mk l o n H=>-- one by one
  show YT<|a0H<|jR (λj c st=>LoI r A B κ G I (i+1+j) c st) (λc st=>LoD (Fi r A B) κ G I c st\/LoI r A B κ G I (i+2) c st) 0 (A.length+B.length) (λj c st hj hJ=>?_) (λc st hJ=>?_) (λc st N=>?_) (A.toArray.size+B.toArray.size-0) 0 _ _ (by rw[K];lia)<|.mk l o n H
  .clear l o n H;cases hJ with
   |@mk mg Y ia ib m l o n H=>
   obtain⟨x,d,Xx⟩:=Z ia ⋯;obtain⟨y,T,Xy⟩:=v ib n;show YT<|eU T<|YT<|eU d<|YT<|rR hC rfl Xy Xx ?_;show bX (λhc=>?_) λhc=>?_;rotate_left
   .have hc:r y<r x:=of_decide_eq_true hc;show YT<|eU T ?_;have u:=l.pushB d T<|a2V hc;rw[<- a0A]at u;show bX (λa=>?_) λa=>?_;rotate_left
    .have a:ib+1=B.length:=by simpa using a
     show Y1 ⟨rfl,.inl<|.mk ?_⟩;rw[lQ];show u.endB<|by omega
    .have a:¬ ib+1=B.length:=λe=>a (by rw[YI,beq_iff_eq];show e);show bX (λ_=>Y1 ⟨rfl,.mk (ia:=ia) (ib:=ib+1) u o ⋯<|by lia⟩) λ_=>Y1 ⟨rfl,.inr<|.mk (ia:=ia) (ib:=ib+1) u o ⋯<|by lia⟩
   .have hc:¬ r y<r x:=λe=>hc<|decide_eq_true e;show YT<|eU d ?_;have u:=l.pushA d T ⋯;rw[<- a0A]at u;show bX (λa=>?_) λa=>?_;rotate_left
    .have a:ia+1+1=A.length:=by simpa using a
     show Y1 ⟨rfl,.inl<|.mk ?_⟩;rw[lQ];show last u a
    .have a:¬ ia+1+1=A.length:=λe=>a (by rw[YI,beq_iff_eq];show e);show bX (λ_=>Y1 ⟨rfl,.mk (ia:=ia+1) (ib:=ib) u ⋯ n<|by lia⟩) λ_=>Y1 ⟨rfl,.inr<|.mk (ia:=ia+1) (ib:=ib) u ⋯ n<|by lia⟩
  .cases hJ with
   |mk l o n H=>show .inr<|.mk l o n<|by lia
  .clear l o n H;rcases N with N|⟨l,o,n,H⟩
   .cases N with
    |mk hR=>show Y1 ⟨rfl,.mk hR⟩
   show YT<|a4u<|a1b ?_
      -- by leaps
   show YT<|a0H<|jR (λj c st=>LoI r A B κ G I (i+2) c st) (λc st=>LoD (Fi r A B) κ G I c st\/LoI r A B κ G I (i+2) c st) 0 (A.length+B.length) (λj c st hj hJ=>?_) (λc st hJ=>?_) (λc st N=>?_) (A.toArray.size+B.toArray.size-0) 0 _ _ (by rw[K];lia)<|.mk l o n H
   .clear l o n H;obtain⟨c0,Y,ia,ib,m,ac,bc⟩:=c;cases hJ with
    |mk l o n H=>
    show Ef λQ' hQ=>?_;obtain⟨y,T,Xy⟩:=v ib n;extract_lets z1 o1 z2 a1 z3 b1 z4 m1 z5 ac1 bc1 jb1 jp mm;have hj:∀m' U,a2s (Y5 prog w) A₀ E (jp () m') Q' (Zq κ G I U b5) s:=by
     intro m' U;clear_value m1 ac1;dsimp -zeta -zetaHave only[jp];show YT<|a1J ?_;show YT<|eU T ?_;show YT (zR hC rfl (b:=ia) (n:=A.toArray.size-ia) (h:=0) (by rw[YI];omega) (by rw[YI];omega) hXA Xy (hA.part _ _) λk hk1 hk2=>?_);rw[YI]at hk1;have u:=l.gallA (k:=k) T λj x hj d=>(hk2 j x (by rw[YI];lia) d).mpr hj;have nx:∀x,A[ia+k]?=b0 x->r y<r x:=λx d=>by have M:=(Yy.mp d).1;have:=hk2 k x (by rw[YI];omega) d;lia
     have e1:(Y++A.toArray.extract ia (ia+k)).toList=Y.toList++(A.drop ia).take k:=by rw[a1k,zP]
     rw[<- e1]at u;dsimp -zeta -zetaHave only;extract_lets ac2 jp2 o2 a2;have hj2:∀p g,ia<=g->J r A B p.toList g ib->g+1<A.length->(∀x,A[g]?=b0 x->r y<r x)->a2s (Y5 prog w) A₀ E (jp2 () p g) Q' (Zq κ G I m' b5) s:=by
      intro p g t0 t1 t2 t3;obtain⟨x,d,Xx⟩:=Z g ⋯;have t5:=t1.pushB d T<|a2V<|t3 x d;rw[<- a0A]at t5;clear_value ac2;dsimp -zeta -zetaHave only[jp2];show YT<|eU T ?_;extract_lets o3 a3;have hjb:jb1=ib+1:=rfl;show bX (λa=>?_) λa=>?_;rotate_left
      .rw[YI,beq_iff_eq]at a;show Y1<|hQ _ _ _ ⟨rfl,.inl<|.mk ?_⟩;rw[lQ];show t5.endB<|by lia
      rw[YI,beq_iff_eq]at a;show YT<|eU d ?_;show YT (zS hC rfl (b:=ib+1) (n:=B.toArray.size-(ib+1)) (h:=0) (by rw[YI];omega) (by rw[YI];omega) hXB Xx (hB.part _ _) λk' hm1 hm2=>?_);rw[YI]at hm1;have u5:=t5.gallB (k:=k') d λj z hj hz=>a2V ((hm2 j z (by rw[YI];lia) hz).mpr hj);have nz:∀z,B[ib+1+k']?=b0 z->r x<=r z:=λz hz=>by have M:=(Yy.mp hz).1;have:=hm2 k' z (by rw[YI];omega) hz;lia
      have e2:(p.push y++B.toArray.extract (ib+1) (ib+1+k')).toList=(p.push y).toList++(B.drop<|ib+1).take k':=by rw[a1k,zP]
      rw[<- e2]at u5;dsimp -zeta -zetaHave only;extract_lets bc2 jp3 o4 b4;have hj3:∀ou jb,J r A B ou.toList g jb->jb<B.length->(∀z,B[jb]?=b0 z->r x<=r z)->ib<jb->a2s (Y5 prog w) A₀ E (jp3 () ou jb) Q' (Zq κ G I m' b5) s:=by
       intro ou jb v1 v2 v3 v4;obtain⟨z,hz,Xz⟩:=v jb v2;have v5:=v1.pushA d hz<|v3 z hz;rw[<- a0A]at v5;clear_value bc2;dsimp -zeta -zetaHave only[jp3];show YT<|eU d ?_;extract_lets o5;have ha3:a3=g+1:=rfl;show bX (λhf=>?_) λhf=>?_
       .rw[YI,beq_iff_eq]at hf;show bX (λ_=>Y1<|hQ _ _ _ ⟨rfl,.mk v5 ⋯ v2<|by lia⟩) λ_=>Y1<|hQ _ _ _ ⟨rfl,.inr<|.mk v5 ⋯ v2<|by lia⟩
       .rw[YI,beq_iff_eq]at hf;show Y1<|hQ _ _ _ ⟨rfl,.inl<|.mk ?_⟩;rw[lQ];show last v5 hf
      clear_value jp3;show bX (λhk0=>hj3 _ _ t5 ⋯ (by rw[show k'=0 by lia]at nz;show nz)<|by lia) λhk0=>bX (λhb=>?_) λhb=>?_
      .rw[YI,beq_iff_eq]at hb;have hb4:b4=ib+1+k':=rfl;show hj3 _ _ u5 nofun nz<|by lia
      .rw[YI,beq_iff_eq]at hb;have hb4:b4=ib+1+k':=rfl;show Y1<|hQ _ _ _ ⟨rfl,.inl<|.mk ?_⟩;rw[lQ];show u5.endB<|by lia
     clear_value jp2;show bX (λhk0=>hj2 _ _ (YG _) l o<|by rw[show k=0 by lia]at nx;show nx) λhk0=>bX (λa=>bX (λhe2=>?_) λhe2=>?_) λa=>?_
     .rw[YI,beq_iff_eq]at a he2;have ha2:a2=ia+k:=rfl;show hj2 _ _ ⋯ u ⋯ nx
     .rw[YI,beq_iff_eq]at he2;have ha2:a2=ia+k:=rfl;show Y1<|hQ _ _ _ ⟨rfl,.inl<|.mk ?_⟩;rw[lQ];show u.endA<|by lia
     .rw[YI,beq_iff_eq]at a;show Y1<|hQ _ _ _ ⟨rfl,.inl<|.mk ?_⟩;rw[lQ];show last u a
    clear_value jp;show bX (λ_=>hj _ _) λ_=>hj _ _
   .show .inr hJ
   .clear l o n H;obtain⟨c0,Y,ia,ib,m,ac,bc⟩:=c;rcases N with N|⟨l,o,n,H⟩
    .cases N with
     |mk hR=>show Y1 ⟨rfl,.mk hR⟩
    show YT<|a1J<|Y1 ⟨rfl,.mk l o n H⟩
 .cases hI with
  |mk l o n H=>lia
 .cases N with
  |mk hR=>show Y1<|q _ _ hR
end
section
variable{r:Keyed->Int}{A B O:List Keyed}{na nb:Nat}
abbrev JH(r:Keyed->Int)(A B O:List Keyed)(na nb:Nat):Prop:=na<=A.length/\nb<=B.length/\J (λx=>-r x) B.reverse A.reverse O (B.length-nb) (A.length-na)
def pW{l:List Keyed}(h:l[n-1]?=b0 x)(h1:1<=n)(a:n<=l.length):l.reverse[l.length-n]?=b0 x:=by rw[a0c<|by omega,<- h];congr 1;omega
def JH.pushA(h:JH r A B O na nb)(e:A[na-1]?=b0 x)(g:B[nb-1]?=b0 y)(h1:1<=na)(d:1<=nb)(i:r y<=r x):JH r A B (O++[x]) (na-1) nb:=by obtain⟨b,a,c⟩:=h;show⟨by lia,a,?_⟩;have:=c.pushB (pW g d a) (pW e h1 b) ⋯;rw[show A.length-(na-1)=A.length-na+1 by lia];show this
def JH.pushB(h:JH r A B O na nb)(e:A[na-1]?=b0 x)(g:B[nb-1]?=b0 y)(h1:1<=na)(d:1<=nb)(i:r x<=r y):JH r A B (O++[y]) na (nb-1):=by obtain⟨a,b,c⟩:=h;show⟨a,by lia,?_⟩;have:=c.pushA (pW g d b) (pW e h1 a) ⋯;rw[show B.length-(nb-1)=B.length-nb+1 by lia];show this
def oD{l:List Keyed}:l.reverse.drop (l.length-n)=(l.take n).reverse:=by rw[List.reverse_take]
def Eg{l:List Keyed}(h1:t<=n)(a:n<=l.length):(l.reverse.drop<|l.length-n).take (n-t)=((l.drop t).take<|n-t).reverse:=by rw[oD,List.take_reverse,Zb,a1F a,Nat.sub_sub_self h1,List.drop_take]
def JH.gallA(h:JH r A B O na nb)(k:B[nb-1]?=b0 y)(e:1<=nb)(i:t<=na)(g:∀j x,t<=j->j<na->A[j]?=b0 x->r y<=r x):JH r A B (O++((A.drop t).take<|na-t).reverse) t nb:=by
 obtain⟨c,b,d⟩:=h;show⟨by lia,b,?_⟩;have:=d.gallB (k:=na-t) (pW k e b) λj z n l=>by
  have a:A[A.length-1-(A.length-na+j)]?=b0 z:=by rw[<- l,a0c<|by lia]
  have:=g _ z nofun nofun a;lia
 rw[Eg i c]at this;rw[show A.length-t=A.length-na+(na-t) by lia];show this
def JH.gallB(h:JH r A B O na nb)(i:A[na-1]?=b0 x)(h1:1<=na)(g:t<=nb)(e:∀j y,t<=j->j<nb->B[j]?=b0 y->r x<=r y):JH r A B (O++((B.drop t).take<|nb-t).reverse) na t:=by
 obtain⟨b,c,d⟩:=h;show⟨b,by lia,?_⟩;have:=d.gallA (k:=nb-t) (pW i h1 b) λj z l k=>by
  have a:B[B.length-1-(B.length-nb+j)]?=b0 z:=by rw[<- k,a0c<|by lia]
  have:=e _ z ⋯ ⋯ a;lia
 rw[Eg g c]at this;rw[show B.length-t=B.length-nb+(nb-t) by lia];show this
def Fi.rev(h:Fi (λx=>-r x) B.reverse A.reverse R):Fi r A B R.reverse:=by show⟨(a3P R).trans<|h.1.trans<|(List.Perm.append (a3P B)<|a3P A).trans a1w,?_⟩;unfold Sr;rw[a4s];show h.2.imp λ{x y} h=>by dsimp only at h;lia
def JH.endA(h:JH r A B O na nb)(d:na=0):Fi r A B (A.take na++B.take nb++O.reverse):=by obtain⟨b,c,a⟩:=h;have:=(a.endB<|by rw[ZP];lia).rev;rw[oD,oD]at this;simpa using this
def JH.endB(h:JH r A B O na nb)(d:nb=0):Fi r A B (A.take na++B.take nb++O.reverse):=by obtain⟨b,c,a⟩:=h;have:=(a.endA<|by rw[ZP];lia).rev;rw[oD,oD]at this;simpa using this
def JH.last(h:JH r A B O na nb)(j:nb=1)(c:∀y,B[0]?=b0 y->∀x∈A,r y<=r x):Fi r A B (B.take nb++A.take na++O.reverse):=by
 obtain⟨g,i,b⟩:=h;have:=(b.last (by rw[ZP];lia) λy e x d=>by
  have a:B[0]?=b0 y:=by rw[<- e,a0c<|by omega];congr 1;omega
  have:=c y a x<|a8J.mp d;lia).rev
 rw[oD,oD]at this;simpa using this
variable{prog:Y4}{w:Zk}{A₀:Zi}{E:Value->YA->Prop}{κ:a1q}{s:YA}{X:Keyed->Prop}
def lR(out:Array Keyed)i j:(A.toArray.extract 0 i++B.toArray.extract 0 j++out.reverse).toList=A.take i++B.take j++out.toList.reverse:=by rw[a1k,a1k,rW,rW,a7n,a1a,a1a,a4m,a4m]
def Eh out(A:List Keyed)t n:(out++(A.toArray.extract t n).reverse).toList=out.toList++((A.drop t).take<|n-t).reverse:=by rw[a1k,a7n,rW]
inductive HiI (r:Keyed->Int)(A B:List Keyed)(κ:a1q)(ar:Array Keyed)(pd:Array (Nat×Nat×Nat)){M:Type}(n:Nat):Option (Array Keyed)×Nat×Nat×Array Keyed×M->a0w->Prop
 |mk {mg:Nat}{out:Array Keyed}{na nb:Nat}{m:M}(g1:JH r A B out.toList na nb)(g2:1<=na)(g3:2<=nb)(g4:n+na+nb<=A.length+B.length):HiI r A B κ ar pd n (b5,na,nb,out,m)<|Zq κ ar pd mg b5
def O8(hC:gF prog w A₀ κ s X (lr r))(hXA:∀x∈A,X x)(hXB:∀x∈B,X x)(hA:Sr r A)(hB:Sr r B)(hA0:0<A.length)(hB0:0<B.length)(hf:∀y,B[0]?=b0 y->∀x∈A,r y<=r x)(hl:∀x,A[A.length-1]?=b0 x->∀y∈B,r y<=r x)(q:∀R N,Fi r A B R.toList->Q R (Zq κ l p N b5) s):
  a2s (Y5 prog w) A₀ E (D3 A.toArray B.toArray) Q (Zq κ l p mg b5) s:=by
 have v:∀i,i<A.length->∃x,A[i]?=b0 x/\X x:=λi hi=>⟨A[i],Yz hi,hXA _<|ZU hi⟩;have G:∀i,i<B.length->∃x,B[i]?=b0 x/\X x:=λi hi=>⟨B[i],Yz hi,hXB _<|ZU hi⟩;unfold D3;show YT<|a4u<|a1b ?_;obtain⟨x0,hx0,_⟩:=v (A.length-1) nofun;show YT (eU (by rw[YI];show hx0) ?_);have j0:JH r A B [x0] (A.length-1) B.length:=by
  show⟨by omega,YG _,?_⟩;have e:A.reverse=x0::A.reverse.drop 1:=by have:=rV (l:=A.reverse) (i:=0) (x:=x0) (by rw[a0c<|by lia];show hx0);rwa [a1a]at this
  rw[a2t,show A.length-(A.length-1)=1 by lia];show⟨?_,?_,?_⟩
  .unfold Sr;rw[a1a];change(x0::B.reverse).Pairwise _;rw[a3G];show⟨λy H=>?_,?_⟩
   .have:=hl x0 hx0 y<|a8J.mp H;dsimp only;lia
   .rw[a4s];show hB.imp λ{x y} h=>by dsimp only;lia
  .change Sr _ (x0::A.reverse.drop 1);rw[<- e];unfold Sr;rw[a4s];show hA.imp λ{x y} h=>by dsimp only;lia
  .rw[ZG,a1i,e];show a4e _
 try dsimp -zeta -zetaHave only
 rw[YI,YI];show bX (λY=>bX (λZ=>?_) λZ=>?_) λY=>?_;rotate_left
 .rw[beq_iff_eq]at Z;show Y1<|q _ _ ?_;rw[lR];show j0.last Z hf
 .rw[beq_iff_eq]at Y;show Y1<|q _ _ ?_;rw[lR];show j0.endA Y
 rw[beq_iff_eq]at Y Z;show YT<|a3d ?_;show YT<|a0H<|jR (λi c st=>HiI r A B κ l p (i+1) c st) (LoD (Fi r A B) κ l p) 0 (A.length+B.length) (λi c st hi hI=>?_) (λc st hI=>?_) (λc st K=>?_) (A.length+B.length-0) 0 _ _ ⋯<|.mk j0 ⋯ ⋯<|by lia
 .cases hI with
  |mk a d g n=>
  try dsimp -zeta -zetaHave only
  show YT<|a0H<|jR (λj c st=>HiI r A B κ l p (i+1+j) c st) (λc st=>LoD (Fi r A B) κ l p c st\/HiI r A B κ l p (i+2) c st) 0 (A.length+B.length) (λj c st hj hJ=>?_) (λc st hJ=>?_) (λc st K=>?_) (A.length+B.length-0) 0 _ _ ⋯<|.mk a d g n
  .clear a d g n;cases hJ with
   |@mk mg out na nb m a d g n=>
   try dsimp -zeta -zetaHave only
   have l1:=a.1;have l2:=a.2.1;obtain⟨x,b,Xx⟩:=v (na-1) nofun;obtain⟨y,H,Xy⟩:=G (nb-1) nofun;show YT<|eU H<|YT<|eU b<|YT<|rR hC rfl Xy Xx ?_;try dsimp -zeta -zetaHave only
   show bX (λhc=>?_) λhc=>?_
   .unfold lr at hc;rw[decide_eq_true_eq]at hc;have o:=a.pushB b H ⋯ ⋯ ⋯;rw[<- a0A]at o;show YT<|eU H ?_;show bX (λk=>?_) λk=>?_
    .rw[beq_iff_eq]at k;show bX (λ_=>Y1 ⟨rfl,.mk (na:=na) (nb:=nb-1) o ⋯ ⋯<|by lia⟩) λ_=>Y1 ⟨rfl,.inr<|.mk (na:=na) (nb:=nb-1) o ⋯ ⋯<|by lia⟩
    .rw[beq_iff_eq]at k;show Y1 ⟨rfl,.inl<|.mk ?_⟩;rw[lR];show o.last k hf
   .unfold lr at hc;rw[decide_eq_true_eq]at hc;have o:=a.pushA b H ⋯ ⋯ ⋯;rw[<- a0A]at o;show YT<|eU b ?_;show bX (λk=>?_) λk=>?_
    .rw[beq_iff_eq]at k;show bX (λ_=>Y1 ⟨rfl,.mk (na:=na-1) (nb:=nb) o ⋯ ⋯<|by lia⟩) λ_=>Y1 ⟨rfl,.inr<|.mk (na:=na-1) (nb:=nb) o ⋯ ⋯<|by lia⟩
    .rw[beq_iff_eq]at k;show Y1 ⟨rfl,.inl<|.mk ?_⟩;rw[lR];show o.endA k
  .cases hJ with
   |mk a d g n=>show .inr<|.mk a d g<|by lia
  .clear a d g n;rcases K with K|⟨a,d,g,n⟩
   .cases K with
    |mk hR=>show Y1 ⟨rfl,.mk hR⟩
   show YT<|a4u<|a1b ?_;show YT<|a0H<|jR (λj c st=>HiI r A B κ l p (i+2) c st) (λc st=>LoD (Fi r A B) κ l p c st\/HiI r A B κ l p (i+2) c st) 0 (A.length+B.length) (λj c st hj hJ=>?_) (λc st hJ=>?_) (λc st K=>?_) (A.length+B.length-0) 0 _ _ ⋯<|.mk a d g n
   .clear a d g n;obtain⟨c0,na,nb,out,m,ac,bc⟩:=c;cases hJ with
    |mk a d g n=>
    have l1:=a.1;have l2:=a.2.1;show Ef λQ' hQ=>?_;obtain⟨y,H,Xy⟩:=G (nb-1) nofun;extract_lets z1 o1 z2 a1 z3 b1 z4 m1 z5 ac1 bc1 jb1 jp mm;have hj:∀m' N,a2s (Y5 prog w) A₀ E (jp () m') Q' (Zq κ l p N b5) s:=by
     intro m' N;clear_value m1 ac1;dsimp -zeta -zetaHave only[jp];show YT<|a1J ?_;show YT<|eU H ?_;show YT (zR hC rfl (b:=0) (n:=na) (h:=na-1) nofun ⋯ hXA Xy (hA.part _ _) λt ht1 ht2=>?_);have o:=a.gallA (t:=t) H ⋯ ht1 λj x Y Z b=>by have:=ht2 j x Z (by rw[a0R];show b);omega
     have nx:∀x,1<=t->A[t-1]?=b0 x->r x<=r y:=λx Y b=>(ht2 (t-1) x nofun<|by rw[a0R];show b).mpr nofun;rw[<- Eh]at o;dsimp -zeta -zetaHave only;extract_lets k2 ac2 jp2 o2 U;have hjb:jb1=nb-1:=rfl;have hk2:k2=na-t:=rfl;have hj2:∀T ou,T<=na->JH r A B ou.toList T nb->1<=T->(∀x,A[T-1]?=b0 x->r x<=r y)->a2s (Y5 prog w) A₀ E (jp2 () T ou) Q' (Zq κ l p m' b5) s:=by
      intro T ou t0 t1 t2 t3;obtain⟨x,b,Xx⟩:=v (T-1) nofun;have t5:=t1.pushB b H t2 ⋯<|t3 x b;rw[<- a0A]at t5;clear_value ac2 k2;dsimp -zeta -zetaHave only[jp2];show YT<|eU H ?_;extract_lets o3 a3;show bX (λhq=>?_) λhq=>?_;rotate_left
      .rw[beq_iff_eq]at hq;show Y1<|hQ _ _ _ ⟨rfl,.inl<|.mk ?_⟩;rw[lR];show t5.last hq hf
      rw[beq_iff_eq]at hq;show YT<|eU b ?_;show YT (zS hC rfl (b:=0) (n:=nb-1) (h:=nb-1-1) nofun nofun hXB Xx (hB.part _ _) λu fK hu2=>?_);have u5:=t5.gallB (t:=u) b t2 fK λj z Y Z I=>by have:=hu2 j z Z (by rw[a0R];show I);lia
      have nz:∀z,1<=u->B[u-1]?=b0 z->r z<=r x:=λz Y I=>a2V ((hu2 (u-1) z nofun<|by rw[a0R];show I).mpr<|by omega);rw[<- Eh]at u5;dsimp -zeta -zetaHave only;extract_lets k3 bc2 jp3 o4 b4;have hk3:k3=nb-1-u:=rfl;have hj3:∀U oz,U<nb->JH r A B oz.toList T U->2<=U->(∀z,B[U-1]?=b0 z->r z<=r x)->a2s (Y5 prog w) A₀ E (jp3 () U oz) Q' (Zq κ l p m' b5) s:=by
       intro U oz v0 v1 v2 v3;have l3:=v1.2.1;obtain⟨z,I,Xz⟩:=G (U-1) nofun;have v5:=v1.pushA b I t2 ⋯<|v3 z I;rw[<- a0A]at v5;clear_value bc2 k3;dsimp -zeta -zetaHave only[jp3];have ha3:a3=T-1:=rfl;show YT<|eU b ?_;extract_lets o5;show bX (λhw=>?_) λhw=>?_
       .rw[beq_iff_eq]at hw;show bX (λ_=>Y1<|hQ _ _ _ ⟨rfl,.mk v5 ⋯ v2<|by omega⟩) λ_=>Y1<|hQ _ _ _ ⟨rfl,.inr<|.mk v5 ⋯ v2<|by lia⟩
       .rw[beq_iff_eq]at hw;show Y1<|hQ _ _ _ ⟨rfl,.inl<|.mk ?_⟩;rw[lR];show v5.endA hw
      clear_value jp3;show bX (λhk1=>hj3 _ _ ⋯ t5 ⋯ λz I=>?_) λhk1=>bX (λL=>bX (λM=>?_) λM=>?_) λL=>?_
      .have e:u=nb-1:=by omega
       rw[e]at nz;show nz z nofun I
      .rw[beq_iff_eq]at L M;have hb4:b4=u:=rfl;show hj3 _ _ nofun u5 ⋯ λz I=>nz z ⋯ I
      .rw[beq_iff_eq]at M;show Y1<|hQ _ _ _ ⟨rfl,.inl<|.mk ?_⟩;rw[lR];show u5.endB M
      .rw[beq_iff_eq]at L;show Y1<|hQ _ _ _ ⟨rfl,.inl<|.mk ?_⟩;rw[lR];show u5.last L hf
     clear_value jp2;show bX (λhk0=>hj2 _ _ (YG _) a d λx b=>?_) λhk0=>bX (λk=>?_) λk=>?_
     .have e:t=na:=by omega
      rw[e]at nx;show nx x d b
     .rw[beq_iff_eq]at k;have hn2:U=t:=rfl;show hj2 _ _ ht1 o ⋯ λx b=>nx x ⋯ b
     .rw[beq_iff_eq]at k;show Y1<|hQ _ _ _ ⟨rfl,.inl<|.mk ?_⟩;rw[lR];show o.endA k
    clear_value jp;show bX (λ_=>hj _ _) λ_=>hj _ _
   .show .inr hJ
   .clear a d g n;obtain⟨c0,na,nb,out,m,ac,bc⟩:=c;rcases K with K|⟨a,d,g,n⟩
    .cases K with
     |mk hR=>show Y1 ⟨rfl,.mk hR⟩
    show YT<|a1J<|Y1 ⟨rfl,.mk a d g n⟩
 .cases hI with
  |mk a d g n=>lia
 .cases K with
  |mk hR=>show Y1<|q _ _ hR
end
def Ei{P:List Keyed}(h:i<c1.length):(P++c1++c2++S)[P.length+i]?=c1[i]?:=by rw[YQ,YQ,Zn<|by lia,Ze<|by lia];congr 1;lia
def Ej{P:List Keyed}(h:i<c2.length):(P++c1++c2++S)[P.length+c1.length+i]?=c2[i]?:=by rw[YQ,Zn<|by rw[YF];lia,Ze<|by rw[YF];omega];congr 1;rw[YF];omega
def O9{P:List Keyed}:((P++c1++c2++S).drop P.length).take c1.length=c1:=by rw[YQ,YQ,a6m,a6l]
def Pa{P:List Keyed}:((P++c1++c2++S).drop<|P.length+c1.length).take c2.length=c2:=by rw[YQ,a9e<|by rw[YF],a6l]
def Pb{P:List Keyed}(a:k<=c1.length):(P++c1++c2++S).toArray.extract (P.length+k) (P.length+c1.length)=(c1.drop k).toArray:=by apply a1o.mp;rw[rW,<- a6n,YQ,YQ,a6m,a3m a,a0m,List.take_left'<|by rw[Z5];lia]
def Pc{P:List Keyed}(a:k<=c2.length):(P++c1++c2++S).toArray.extract (P.length+c1.length) (P.length+c1.length+k)=(c2.take k).toArray:=by apply a1o.mp;rw[zP,YQ,a9e<|by rw[YF],a0m,a3i a]
def Pd{P:List Keyed}(e:k<=c1.length)(g:l<=c2.length)(d:R.length=c1.length-k+l):(R.zipIdx.foldl (λa x=>a.setIfInBounds (P.length+k+x.2) x.1) (P++c1++c2++S).toArray)=(P++(c1.take k++R++c2.drop l)++S).toArray:=by
 apply a1o.mp;have:=D4 R (P++c1++c2++S).toArray (P.length+k) 0 (by simp;lia);rw[this,a0m,a0m,b0g,d];have b:(P++c1++c2++S).take (P.length+k)=P++c1.take k:=by rw[YQ,YQ,a8I,Z6<|by lia,a0K,a3i e]
 have c:(P++c1++c2++S).drop (P.length+k+(c1.length-k+l))=c2.drop l++S:=by rw[show P.length+k+(c1.length-k+l)=(P++c1).length+l by rw[YF];lia,YQ,<- a6n,a6m,a3m g]
 rw[b,c];simp
def Sr.both{V:List Keyed}(e:Sr r R)(g:Sr r U)(h:Sr r V)(h1:∀x∈U,∀y∈R,r x<=r y)(c:∀x∈R,∀y∈V,r x<=r y)(d:∀x∈U,∀y∈V,r x<=r y):Sr r (U++R++V):=by
 unfold Sr at *;rw[YQ,a0g];show⟨g,?_,λx b y a=>?_⟩
 .rw[a0g];show⟨e,h,c⟩
 .rcases YN.mp a with a|a
  .show h1 x b y a
  .show d x b y a
def Sr.at(h:Sr r l){i:Nat}{x y:Keyed}(c:i<=j)(d:l[i]?=b0 x)(g:l[j]?=b0 y):r x<=r y:=by
 obtain⟨a,rfl⟩:=Yy.mp d;obtain⟨b,rfl⟩:=Yy.mp g;by_cases e:i=j
 .subst e;show a5Q _
 .show ZC.mp h i j a b<|by lia
def pX{l:List Keyed}(h:x∈l.take k):∃j,j<k/\l[j]?=b0 x:=by have:=Eb (l:=l) (i:=0) (k:=k) (x:=x) (by rw[a1a];show h);obtain⟨j,b,a⟩:=this;show⟨j,b,by rw[a0R]at a;show a⟩
def pY{l:List Keyed}(h:x∈l.drop k):∃j,k<=j/\l[j]?=b0 x:=by obtain⟨j,a,e⟩:=a3z h;show⟨k+j,by lia,by rw[<- e,a8B,Yz]⟩
def Pe(hC:gF prog w A₀ κ s X (lr r))(hX:∀x∈P++c1++c2++S,X x)(h1:Sr r c1)(B:Sr r c2)(l1:0<c1.length)(l2:0<c2.length)(p1:M[i]?=b0 (P.length,c1.length,w1))(p2:M[i+1]?=b0 (P.length+c1.length,c2.length,w2))(q:∀c n,Sr r c->c.Perm (c1++c2)->Q d7 (Zq κ (P++c++S).toArray ((M.setIfInBounds i (P.length,c1.length+c2.length,w1)).eraseIdxIfInBounds<|i+1) n b5) s):
  a2s (Y5 prog w) A₀ E (a8U i) Q (Zq κ (P++c1++c2++S).toArray M mg b5) s:=by
 unfold a8U;show YT<|a3d ?_;dsimp only;simp only[p1,p2];show YT<|O3 ?_;have gA:∀j,j<c1.length->c1[j]?=b0 (c1.getD j (.none,.none)):=λj d=>by rw[Y3,Yz d];rfl
 have gB:∀j,j<c2.length->c2[j]?=b0 (c2.getD j (.none,.none)):=λj d=>by rw[Y3,Yz d];rfl
 have H:∀x∈c1,X x:=λx b=>hX x (by simp[b]);have I:∀x∈c2,X x:=λx b=>hX x (by simp[b]);have hlen:(P++c1++c2++S).length=P.length+c1.length+c2.length+S.length:=by simp;lia
 have L:=gB 0 l2;show YT (eU (x:=c2.getD 0 (.none,.none)) (by rw[<- L];show Ej l2) ?_);show YT (zR hC rfl (b:=P.length) (n:=c1.length) (h:=0) l1 ⋯ hX (I _<|YZ L) (by rw[O9];show h1) λk T hk2=>?_);have u:∀j x,c1[j]?=b0 x->(r x<=r (c2.getD 0 (.none,.none))↔j<k):=λj x b=>by have d:=(Yy.mp b).1;show hk2 j x d<|by rw[Ei d];show b
 generalize c2.getD 0 (.none,.none)=y0 at *;dsimp only;have e0:(P++c1++c2++S)=P++(c1++c2)++S:=by simp
  -- all as it is
 have G:(∀x∈c1,∀y∈c2,r x<=r y)->Q d7 (Zq κ (P++c1++c2++S).toArray ((M.setIfInBounds i (P.length,c1.length+c2.length,w1)).eraseIdxIfInBounds<|i+1) mg b5) s:=λh=>by rw[e0];show q _ _ (by unfold Sr at *;rw[a0g];show⟨h1,B,h⟩)<|a4e _
 show bX (λhe=>?_) λhe=>?_;rotate_left
 .rw[beq_iff_eq]at he;show Y1<|G λx b y g=>?_;obtain⟨j,d⟩:=a0Z b;obtain⟨p,o⟩:=a0Z g;have a1:=(u j x d).mpr (by have:=(Yy.mp d).1;lia);have a2:=B.at (a0d p) L o;lia
 rw[beq_iff_eq]at he;have z0:=gA (c1.length-1) ⋯;generalize c1.getD (c1.length-1) (.none,.none)=x1 at *;show YT (eU (x:=x1) (by rw[show P.length+k+(c1.length-k)-1=P.length+(c1.length-1) by lia,Ei<|by lia];show z0) ?_);show YT (zS hC rfl (b:=P.length+c1.length) (n:=c2.length) (h:=c2.length-1) ⋯ ⋯ hX (H _<|YZ z0) (by rw[Pa];show B) λl U hl2=>?_);have K:∀j x,c2[j]?=b0 x->(r x<r x1↔j<l):=λj x b=>by have d:=(Yy.mp b).1;show hl2 j x d<|by rw[Ej d];show b
 dsimp only;show bX (λhf=>?_) λhf=>?_;rotate_left
 .rw[beq_iff_eq]at hf;show Y1<|G λx b y g=>?_;obtain⟨j,d⟩:=a0Z b;obtain⟨p,o⟩:=a0Z g;have a1:=h1.at (by have:=(Yy.mp d).1;lia) d z0;have a2:=K p y o;lia
 rw[beq_iff_eq]at hf;rw[Pb T,Pc U];have hA:Sr r (c1.drop k):=a0v (a3S _ _) h1;have hB:Sr r (c2.take l):=a0v (a2c _ _) B;have O:∀y,(c2.take l)[0]?=b0 y->∀x∈c1.drop k,r y<=r x:=λy g x b=>by rw[a0X<|by lia,L]at g;cases g;obtain⟨j,d,e⟩:=pY b;have:=u j x e;lia
 have Y:∀x,(c1.drop k)[(c1.drop k).length-1]?=b0 x->∀y∈c2.take l,r y<=r x:=λx b y g=>by rw[Z5,a4S,show k+(c1.length-k-1)=c1.length-1 by lia,z0]at b;cases b;obtain⟨j,d,e⟩:=pX g;have:=K j y e;lia
 have v:∀(R:Array Keyed)(n:Nat),Fi r (c1.drop k) (c2.take l) R.toList->Q d7 (Zq κ (R.toList.zipIdx.foldl (λ(a:Array Keyed)(x:Keyed×Nat)=>a.setIfInBounds (P.length+k+x.2) x.1) (P++c1++c2++S).toArray) ((M.setIfInBounds i (P.length,c1.length+c2.length,w1)).eraseIdxIfInBounds<|i+1) n b5) s:=λR n N=>by
  obtain⟨f1,f2⟩:=N;have hRl:=f1.length_eq;rw[YF,Z5,Zb]at hRl;rw[Pd T U<|by lia];have Z:∀z∈R.toList,z∈c1.drop k\/z∈c2.take l:=λz hz=>YN.mp<|f1.mem_iff.mp hz;show q _ _ (f2.both (a0v (a2c _ _) h1) (a0v (a3S _ _) B) (λx b y g=>?_) (λx b y g=>?_) λx b y g=>?_) ?_
  .obtain⟨j,d,e⟩:=pX b;rcases Z y g with g|g
   .obtain⟨p,o,A⟩:=pY g;show h1.at ⋯ e A
   .obtain⟨p,o,A⟩:=pX g;have a1:=(u j x e).mpr d;have a2:=B.at (a0d p) L A;lia
  .obtain⟨p,o,A⟩:=pY g;rcases Z x b with b|b
   .obtain⟨j,d,e⟩:=pY b;have a1:=h1.at (by have:=(Yy.mp e).1;lia) e z0;have a2:=K p y A;lia
   .obtain⟨j,d,e⟩:=pX b;show B.at ⋯ e A
  .obtain⟨j,d,e⟩:=pX b;obtain⟨p,o,A⟩:=pY g;have a1:=(u j x e).mpr d;have a2:=B.at (a0d p) L A;lia
  .have e1:c1++c2=c1.take k++(c1.drop k++c2.take l)++c2.drop l:=by rw[<- YQ,Zu,YQ,Zu]
   rw[e1];show((f1.append_left _).append_right _)
 have d1:0<(c1.drop k).length:=by rw[Z5];lia
 have d2:0<(c2.take l).length:=by rw[Zb];lia
 show bX (λ_=>?_) λ_=>?_
 .show YT<|O8 hC (λx b=>H x<|a7v b) (λx b=>I x<|a3k b) hA hB d1 d2 O Y λR n N=>YT<|a1J<|YT<|a3d<|Y1<|v R n N
 .show YT<|O7 hC (λx b=>H x<|a7v b) (λx b=>I x<|a3k b) hA hB d1 d2 O Y λR n N=>YT<|a1J<|YT<|a3d<|Y1<|v R n N
abbrev kr(r:Keyed->Int)(T:List Keyed)(i:Nat):Int:=r<|T.getD i (.none,.none)
def lT(h:T[i]?=b0 x):kr r T i=r x:=by unfold kr;rw[Y3,h];rfl
def zT{T:List Keyed}(h:i<T.length):T[i]?=b0 (T.getD i (.none,.none)):=by rw[Y3,Yz h];rfl
def uZ(hC:gF prog w A₀ κ s X (lr r))(b:∀x∈T,X x)(a:i<T.length)(c:j<T.length)(q:Q (b0<|decide<|kr r T i<kr r T j) (Zq κ (P++T).toArray pd mg b5) s):
  a2s (Y5 prog w) A₀ E (ltAt' (P.length+i)<|P.length+j) Q (Zq κ (P++T).toArray pd mg b5) s:=by
 have e:∀i,i<T.length->(a8X<|Zq κ (P++T).toArray pd mg b5)[P.length+i]?=b0 (T.getD i (.none,.none)):=λi a=>by change(P++T).toArray[P.length+i]?=_;rw[a0b,Zn<|by lia,a0K];show zT a
 show O4 hC rfl (e i a) (e j c) (b _<|YZ<|zT a) (b _<|YZ<|zT c) q
def zU(hC:gF prog w A₀ κ s X (lr r))(g:∀x∈T,X x)(h:i<T.length)(k:j<T.length)(c:a=P.length+i)(d:b=P.length+j)(e:decide (kr r T i<kr r T j)=v)(q:Q (b0 v) (Zq κ (P++T).toArray pd mg b5) s):
  a2s (Y5 prog w) A₀ E (ltAt' a b) Q (Zq κ (P++T).toArray pd mg b5) s:=by
 subst c d e;show uZ hC g h k q
abbrev Mon(R:Int->Int->Prop)(r:Keyed->Int)(T:List Keyed)(n:Nat):Prop:=∀j,j+1<n->R (kr r T j) (kr r T<|j+1)
def Mon.one:Mon R r T 1:=λ_ h=>nomatch Nat.lt_of_succ_lt_succ h
def Mon.succ(h:Mon R r T (n+1))(k:R (kr r T n) (kr r T<|n+1)):Mon R r T (n+2):=λj a=>by
 rcases a8x (a3X a)with e|e
 .show h j e
 .cases e;show k
def Mon.snoc(a:0<n)(h:Mon R r T n)(k:R (kr r T<|n-1) (kr r T n)):Mon R r T (n+1):=by
 cases n with
 |zero=>show nomatch a|succ n=>show h.succ k
def zV(h:Mon (·<=·) r T n):∀{i j},i<=j->j<n->kr r T i<=kr r T j
 |i,0,h1,_=>by rw[a7G.mp h1];show a5Q _
 |i,j+1,h1,h2=>by
  rcases a8x h1 with e|e
  .show a5q (zV h (a3X e)<|a0s h2)<|h j h2
  .rw[e];show a5Q _
def Pf(h:Mon (·<=·) r T n):Sr r (T.take n):=by show ZC.mpr λi j e d b=>?_;have a:=Zg e<|a3l n T;have c:=Zg d<|a3l n T;have:=zV h (a0y b)<|Zg d<|a7K n T;rw[lT<|Yz a,lT<|Yz c]at this;rw[a5h,a5h];show this
def Pg(g:n<=T.length)(h:Mon (· >= ·) r T n):Mon (·<=·) r ((T.take n).reverse++T.drop n) n:=λj c=>by
 have a:(T.take n).length=n:=by rw[Zb,a1F g]
 have b:∀i,i<n->kr r ((T.take n).reverse++T.drop n) i=kr r T (n-1-i):=λi e=>by
  have:((T.take n).reverse++T.drop n)[i]?=T[n-1-i]?:=by rw[Ze<|by rw[ZP,a];show e,a0c<|a.symm▸e,a,a0X<|by omega]
  unfold kr;rw[Y3,Y3,this]
 rw[b j<|a0s c,b (j+1) c];obtain⟨d,rfl⟩:=a6R c;rw[show j+1+d+1-1-(j+1)=d by lia,show j+1+d+1-1-j=d+1 by lia];show h d<|by lia
def Ph(P U V:List Keyed):b0U (P++U++V).toArray P.length (P.length+U.length) ((P.length+U.length-P.length)/2)=(P++U.reverse++V).toArray:=by
 apply a1o.mp;apply a3R;intro k;rw[a0o,getElem?_mirror_all<|by simp,a0m];by_cases h:P.length<=k/\k<P.length+U.length
 .have b:∀(W:List Keyed)(m:Nat),W.length=U.length->P.length<=m->m<P.length+U.length->(P++W++V)[m]?=W[m-P.length]?:=λW m d a c=>by rw[YQ,Zn a,Ze<|by omega]
  rw[if_pos h,a0b,b U _ rfl nofun<|by omega,b U.reverse k (by rw[ZP]) h.1 h.2,a0c<|by omega];congr 1;lia
 .rw[if_neg h,a0b];by_cases a:k<P.length
  .rw[YQ,YQ,Ze a,Ze a]
  .rw[Zn<|by rw[YF];lia,Zn<|by rw[YF,ZP];lia];simp
abbrev Dis(r:Keyed->Int)(T:List Keyed):Prop:=T.Pairwise λx y=>r x≠r y
def Dis.at(h:Dis r T)(a:i<T.length)(b:j<T.length)(c:i≠j):kr r T i≠kr r T j:=by
 rw[lT<|Yz a,lT<|Yz b];have:=ZC.mp h;by_cases l:i<j
 .show this i j a b l
 .show(this j i b a<|by lia).symm
inductive CrI {α:Type}(p:Nat->Prop):Option α×Nat->Prop
 |mk {n:Nat}:p n->CrI p (b5,n)
inductive CrJ {α:Type}(p:Nat->Prop):Option α×Nat×Nat->Prop
 |mk {n:Nat}:p n->CrJ p (b5,n,0)
def Pj(hC:gF prog w A₀ κ s X (lr r))(v:∀x∈T,X x)(hD:Dis r T)(G:0<T.length)(q:∀c t,0<c.length->Sr r c->(c++t).Perm T->Q (b0 c.length) (Zq κ (P++(c++t)).toArray pd mg b5) s):a2s (Y5 prog w) A₀ E (countRun' P.length T.length) Q (Zq κ (P++T).toArray pd mg b5) s:=by
 have j:∀U n,U.Perm T->0<n->n<=T.length->Mon (·<=·) r U n->Q (b0 n) (Zq κ (P++U).toArray pd mg b5) s:=λU n y u p h=>by
  have e:(U.take n).length=n:=by rw[Zb,y.length_eq,a1F p]
  have:=q (U.take n) (U.drop n) (e.symm▸u) (Pf h) (by rw[Zu];show y);rwa [Zu,e]at this
 unfold countRun';show YT<|a0H<|lP (λi=>CrI λn=>n=i+1/\Mon (·<=·) r T n) (CrI λn=>0<n/\n<=T.length/\Mon (·<=·) r T n/\(n<T.length->kr r T n<kr r T (n-1))) (T.length-1) (λi x c I d=>?_) (λc d=>?_) (λc k=>?_) _ 0 _ (by simp)<|.mk ⟨rfl,.one⟩
 .obtain⟨rfl,d⟩:=d;dsimp only;show YT (uZ hC v (i:=i+1) (j:=i) nofun nofun ?_);dsimp only;show bX (λhc=>?_) λhc=>?_
  .rw[decide_eq_true_eq]at hc;show Y1 ⟨rfl,rfl,.mk ⟨rfl,d.succ<|a8E.mp hc⟩⟩
  .rw[decide_eq_true_eq]at hc;show Y1 ⟨rfl,rfl,.mk ⟨a4l i,by lia,d,λ_=>hc⟩⟩
 .obtain⟨rfl,d⟩:=d;show .mk ⟨a4l _,by omega,d,λh=>absurd h<|by omega⟩
 .obtain @⟨n,u,p,d,A⟩:=k;dsimp only;show bX (λH=>?_) λH=>?_;rotate_left
  .show Y1<|j T n (.refl _) u p d
  rw[beq_iff_eq]at H;show bX (λM=>?_) λM=>?_;rotate_left
  .have a:=zV d (a0d<|n-1) nofun;have b:=hD.at (i:=0) (j:=n-1) G nofun ⋯;show YT (zU hC v (i:=0) (j:=n-1) (v:=d7) G ⋯ rfl ⋯ (decide_eq_true<|by lia) ?_);dsimp only;rw[if_pos rfl];show Y1<|j T n (.refl _) u p d
  obtain rfl:n=1:=by lia
  have B:2<=T.length:=by lia
  have hd0:=A B;show YT<|a4u<|a1b ?_;show YT<|a0H<|lP (λi=>CrJ λn=>n=i+2/\Mon (· >= ·) r T n) (CrJ λn=>2<=n/\n<=T.length/\Mon (· >= ·) r T n) (T.length-2) (λi x c I d=>?_) (λc d=>?_) (λc k=>?_) _ 0 _ (by simp)<|.mk ⟨rfl,Mon.one.succ<|a2V hd0⟩
  .obtain⟨rfl,d⟩:=d;dsimp only;have g:i+2<T.length:=by omega
   show YT<|uZ hC v (i:=i+2) (j:=i+1) g (a0s g) ?_;dsimp only;by_cases hc:kr r T (i+2)<kr r T (i+1)
   .rw[decide_eq_true hc,if_pos rfl,if_neg<|by lia];show Y1 ⟨rfl,rfl,.mk ⟨rfl,d.succ<|a2V hc⟩⟩
   .rw[decide_eq_false hc,if_neg YE];have R:=hD.at (i:=i+1) (j:=i+2) (a0s g) g<|Y7<|a0x _;show YT (zU hC v (i:=i+1) (j:=i+2) (v:=d7) (a0s g) g rfl rfl (decide_eq_true<|by lia) ?_);dsimp only;rw[if_pos rfl];show Y1 ⟨rfl,rfl,.mk ⟨a6c ..,a0y g,d⟩⟩
  .obtain⟨rfl,d⟩:=d;show .mk ⟨a6c ..,by omega,d⟩
  .obtain @⟨n,B,p,d⟩:=k;dsimp only;rw[if_neg<|by lia];show YT<|O6 ?_;have L:b0U (P++T).toArray P.length (P.length+n) ((P.length+n-P.length)/2)=(P++((T.take n).reverse++T.drop n)).toArray:=by have:=Ph P (T.take n)<|T.drop n;rw[Zb,a1F p,YQ,YQ,Zu]at this;show this
   change a2s _ _ _ _ _ (Zq κ (b0U (P++T).toArray P.length (P.length+n)<|(P.length+n-P.length)/2) pd mg b5) s;rw[L];have l:((T.take n).reverse++T.drop n).Perm T:=by show((a3P _).append_right _).trans ?_;rw[Zu]
   have o:=Pg p d;generalize(T.take n).reverse++T.drop n=U at l o;have y:=l.length_eq;have z:∀x∈U,X x:=λx O=>v x<|l.mem_iff.mp O;show YT<|a0H<|lP (λi=>CrI λm=>m=n+i/\Mon (·<=·) r U m) (CrI λm=>0<m/\m<=T.length/\Mon (·<=·) r U m) (T.length-n) (λi x c I d=>?_) (λc d=>?_) (λc k=>?_) _ 0 _ (by simp)<|.mk ⟨rfl,o⟩
   .obtain⟨rfl,d⟩:=d;dsimp only;have K:n+i<U.length:=by lia
    show YT (zU hC z (i:=n+i) (j:=n+i-1) K nofun rfl ⋯ rfl ?_);dsimp only;show bX (λhc=>?_) λhc=>?_
    .rw[decide_eq_true_eq]at hc;show Y1 ⟨rfl,rfl,.mk ⟨rfl,Mon.snoc ⋯ d<|a8E.mp hc⟩⟩
    .show Y1 ⟨rfl,rfl,.mk ⟨by lia,a0y<|y▸K,d⟩⟩
   .obtain⟨rfl,d⟩:=d;show .mk ⟨by lia,by lia,d⟩
   .obtain @⟨m,u,N,d⟩:=k;show Y1<|j U m l u N d
section
variable{prog:Y4}{w:Zk}{A₀:Zi}{E:Value->YA->Prop}{κ:a1q}{s:YA}{X:Keyed->Prop}{r:Keyed->Int}{P:List Keyed}{pd:Array (Nat×Nat×Nat)}{mg:Nat}
def Pk{a:Type}L R(x y:a):(L++y::x::R).toArray.swapIfInBounds (L.length+1) L.length=(L++x::y::R).toArray:=by unfold a7p;rw[dif_pos<|by simp,dif_pos<|by simp];simp[Array.swap]
def Ek P C V(x:g):∀d l,l+d=C.length->b0Y (P++(C++x::V)).toArray (P.length+C.length) d=(P++(C.take l++x::C.drop l++V)).toArray
 |0,l,h=>by obtain rfl:l=C.length:=h;rw[Zp,List.drop_length,YQ];rfl
 |d+1,l,h=>by
  have e:=Ek P C V x d (l+1)<|(a5d l 1 d).trans h;have a:l<C.length:=h▸Nat.lt_add_of_pos_right (a4l d);have i:(P++C.take l).length=P.length+l:=by rw[YF,Zb,a1F<|a0y a]
  have j:P.length+C.length-d=(P++C.take l).length+1:=by rw[i,<- h,<- a3h,<- a3h,a5d,a5c]
  unfold b0Y at e ⊢;rw[a1R,a8C,e];change a7p _ (P.length+C.length-d) (P.length+C.length-d-1)=_;have b:=List.take_succ_eq_append_getElem a;have c:=a0h a;generalize C[l]=y at b c;rw[j,a5c,b,c,YQ,YQ,<- YQ P,YQ<|C.take l,<- YQ P];show Pk (P++C.take l) (C.drop (l+1)++V) x y
def Pl P C V(x:Keyed)(a:l<=C.length):b0Y (P++(C++x::V)).toArray (P.length+C.length) (P.length+C.length-(P.length+l))=(P++(C.take l++x::C.drop l++V)).toArray:=by rw[a7H];show Ek P C V x _ l<|Nat.add_sub_cancel' a
inductive BmI (κ:a1q)(r:Keyed->Int)(P t:List Keyed)(pd:Array (Nat×Nat×Nat))(mg:Nat)(L:List Keyed)(n:Nat){α:Type}:Option α×Unit->a0w->Prop
 |mk {c D:List Keyed}:Sr r c->c.length=n->(c++D).Perm L->BmI κ r P t pd mg L n (b5,()) (Zq κ (P++(c++(D++t))).toArray pd mg b5)
inductive BmJ (r:Keyed->Int)(c:List Keyed)(v:Int)(d:Nat){α:Type}:Option α×Nat×Nat->Prop
 |mk {l u:Nat}:l<=u->u<=c.length->u-l<=d->(∀m,m<l->kr r c m<=v)->(∀m,u<=m->m<c.length->v<kr r c m)->BmJ r c v d (b5,l,u)
def Pm{D:List Keyed}l(a:(c++x::D).Perm L):(c.take l++x::c.drop l++D).Perm L:=by
 have:(c.take l++x::c.drop l).Perm (c++[x]):=by show List.perm_middle.trans ?_;rw[Zu];show a1w (l₁:=[x])
 show(this.append_right D).trans ?_;rw[YQ];show a
def Pn(h1:Sr r c)(n:∀m,m<l->kr r c m<=r x)(o:∀m,l<=m->m<c.length->r x<kr r c m):Sr r (c.take l++x::c.drop l):=by
 have i:∀z∈c.take l,r z<=r x:=λz h=>by obtain⟨m,g,e⟩:=pX h;rw[<- lT (r:=r) e];show n m g
 have j:∀z∈c.drop l,r x<=r z:=λz h=>by obtain⟨m,g,e⟩:=pY h;rw[<- lT (r:=r) e];show a2V<|o m g (Yy.mp e).1
 show a0g.mpr ⟨a0v (a2c _ _) h1,a3G.mpr ⟨j,a0v (a3S _ _) h1⟩,λa k b d=>?_⟩;rcases Zm.mp d with rfl|d
 .show i a k
 .show a5q (i a k)<|j b d
def Po(hC:gF prog w A₀ κ s X (lr r)){D:List Keyed}(Y:∀x∈c++D++t,X x)(hc:Sr r c)(U:0<c.length)(q:∀a,Sr r a->a.Perm (c++D)->Q d7 (Zq κ (P++(a++t)).toArray pd mg b5) s):a2s (Y5 prog w) A₀ E (binarySort' P.length (c.length+D.length) c.length) Q (Zq κ (P++(c++D++t)).toArray pd mg b5) s:=by
 unfold binarySort';show YT<|a0H ?_;rw[Nat.max_eq_left U,YQ c];show(jR (λi=>BmI κ r P t pd mg (c++D)<|c.length+i) (BmI κ r P t pd mg (c++D)<|c.length+D.length) c.length D.length (λi b st hi I=>?_) (λb st I=>I) (λb st n=>?_) (c.length+D.length-c.length) 0 _ _ ⋯<|.mk hc rfl<|.refl _)
 .obtain @⟨a,d,A,R,e⟩:=I;match d,e with
  |[],e=>have:=e.length_eq;rw[Zt,YF]at this;lia|x::d,e=>
   dsimp only;have L:∀z∈a++(x::d++t),X z:=λz hz=>Y z<|by
    have:z∈(a++x::d)++t:=by rw[YQ];show hz
    rcases YN.mp this with h|h
    .show YN.mpr<|.inl<|e.mem_iff.mp h
    .show YN.mpr<|.inr h
   rw[<- R];have N:kr r (a++(x::d++t)) a.length=r x:=lT (by rw[Zn<|YG _,a2t];rfl);have M:∀m,m<a.length->kr r (a++(x::d++t)) m=kr r a m:=λm g=>by unfold kr;rw[Y3,Y3,Ze g]
   have mono:∀{m H:Nat},m<=H->H<a.length->kr r a m<=kr r a H:=λ{m H} h o=>by rw[lT<|Yz<|a8y h o,lT<|Yz o];show A.at h (Yz _)<|Yz _
   show YT<|a0H<|lP (λj=>BmJ r a (r x)<|a.length-j) (BmJ r a (r x) 0) a.length (λj y b hj K=>?_) (λb K=>a2t a.length▸K) (λb n=>?_) _ 0 _ (by simp)<|.mk (a0d _) (YG _) (YG _) (λm g=>nomatch g) λm h o=>absurd h<|Nat.not_le_of_lt o
   .obtain @⟨l,u,T,p,j3,B,G⟩:=K;dsimp only;show bX (λO=>?_) λO=>?_;rotate_left
    .show Y1 ⟨rfl,rfl,.mk T p ⋯ B G⟩
    have g:l<=(l+u)/2/\(l+u)/2<u:=by lia
    generalize(l+u)/2=m at g ⊢;show YT (uZ hC L (i:=a.length) (j:=m) (by simp) (by simp;lia) ?_);rw[N,M _<|by lia];dsimp only;show bX (λhc=>?_) λhc=>?_
    .rw[decide_eq_true_eq]at hc;show Y1 ⟨rfl,rfl,.mk g.2 p ⋯ (λk Z=>a5q (mono (a3X Z)<|Zg g.2 p)<|a8E.mp hc) G⟩
    .rw[decide_eq_true_eq]at hc;show Y1 ⟨rfl,rfl,.mk g.1 ⋯ nofun B λk h o=>Int.lt_of_lt_of_le hc<|mono h o⟩
   .obtain @⟨l,u,T,p,j3,B,G⟩:=n;obtain rfl:u=l:=by lia
    dsimp only;have mv:∀{v:Unit->a0w->YA->Prop},v () (Zq κ (P++((a.take u++x::a.drop u)++(d++t))).toArray pd mg b5) s->a2s (Y5 prog w) A₀ E (moveDown' (P.length+a.length)<|P.length+u) v (Zq κ (P++(a++x::(d++t))).toArray pd mg b5) s:=λ{v} h=>by rw[moveDown'_eq];show a1J ?_;change v () (Zq κ (b0Y (P++(a++x::(d++t))).toArray (P.length+a.length)<|P.length+a.length-(P.length+u)) pd mg b5) s;rw[Pl P a (d++t) x p];show h
    show YT<|mv ?_;show Y1 ⟨rfl,.mk (Pn A B G) (by simp;lia)<|Pm u e⟩
 .obtain @⟨a,d,A,R,e⟩:=n;have hl:=e.length_eq;rw[YF,YF]at hl;obtain rfl:d=[]:=a1g.mp ⋯;rw[Zt]at e;show Y1<|q a A e
end
noncomputable abbrev dX:=List Keyed×Nat
abbrev bI(a:List dX):List Keyed:=(a.map (·.1)).flatten
abbrev pos:Nat->List dX->List (Nat×Nat×Nat)
 |_,[]=>[]|p,(c,w)::t=>(p,c.length,w)::pos (p+c.length) t
def kQ c w t:bI ((c,w)::t)=c++bI t:=rfl
def oE a b:bI (a++b)=bI a++bI b:=by unfold bI;simp
def oF:∀a b p,pos p (a++b)=pos p a++pos (p+(bI a).length) b
 |[],b,p=>rfl|(c,w)::a,b,p=>by change(p,c.length,w)::pos (p+c.length) (a++b)=_;rw[oF a b,kQ,YF,a3h];rfl
def mP:∀a p,(pos p a).length=a.length
 |[],_=>rfl|(c,w)::a,p=>by change(pos (p+c.length) a).length+1=_;rw[mP a];rfl
structure Rn(r:Keyed->Int)(L rest:List Keyed)(rs:List dX):Prop where
 ok:∀p∈rs,Sr r p.1/\0<p.1.length
 pm:(bI rs++rest).Perm L
section
variable{prog:Y4}{w:Zk}{A₀:Zi}{E:Value->YA->Prop}{κ:a1q}{s:YA}{X:Keyed->Prop}{r:Keyed->Int}{L rest:List Keyed}{mg:Nat}
noncomputable abbrev kR(κ:a1q)(rest:List Keyed)(a:List dX)(mg:Nat):a0w:=Zq κ (bI a++rest).toArray (pos 0 a).toArray mg b5
def Pp(hC:gF prog w A₀ κ s X (lr r))(A:∀x∈L,X x){a:List dX}(h:Rn r L rest (pre++(b,w1)::(d,w2)::a))(q:∀c g,Rn r L rest (pre++(c,w1)::a)->c.length=b.length+d.length->Q d7 (kR κ rest (pre++(c,w1)::a) g) s)(B:i=pre.length):
  a2s (Y5 prog w) A₀ E (a8U i) Q (kR κ rest (pre++(b,w1)::(d,w2)::a) mg) s:=by
 subst B;obtain⟨j,u⟩:=h;have o1:=j (b,w1) (by simp);have o2:=j (d,w2) (by simp);have k:bI (pre++(b,w1)::(d,w2)::a)++rest=bI pre++b++d++(bI a++rest):=by rw[oE,kQ,kQ];simp
 have y:pos 0 (pre++(b,w1)::(d,w2)::a)=pos 0 pre++((bI pre).length,b.length,w1)::((bI pre).length+b.length,d.length,w2)::pos ((bI pre).length+b.length+d.length) a:=by rw[oF,a0R];rfl
 unfold kR;rw[k,y];show Pe hC (λx G=>A x<|u.mem_iff.mp<|by rw[k];show G) o1.1 o2.1 o1.2 o2.2 (w1:=w1) (w2:=w2) ?_ ?_ λc g z o=>?_
 .rw[a0b,Zn<|by rw[mP];show YG _,mP,a2t];rfl
 .rw[a0b,Zn<|by rw[mP];lia,mP,a0K];rfl
 .have l:=o.length_eq;rw[YF]at l;have n:bI pre++c++(bI a++rest)=bI (pre++(c,w1)::a)++rest:=by rw[oE,kQ];simp
  have v:((pos 0 pre++((bI pre).length,b.length,w1)::((bI pre).length+b.length,d.length,w2)::pos ((bI pre).length+b.length+d.length) a).toArray.setIfInBounds pre.length ((bI pre).length,b.length+d.length,w1)).eraseIdxIfInBounds (pre.length+1)=(pos 0<|pre++(c,w1)::a).toArray:=by apply a1o.mp;have e:(pos 0 pre).length=pre.length:=mP _ _;rw[Array.toList_eraseIdxIfInBounds,a6g,a0m,a0m,oF,a0R,<- e,a2Y _ _<|YG _,a2t,a1s,List.eraseIdx_append_of_length_le<|by lia,a0K];change _=pos 0 pre++((bI pre).length,c.length,w1)::pos ((bI pre).length+c.length) a;rw[l,<- a3h];rfl
  rw[n,v];show q c g ⟨λp e=>?_,?_⟩ l
  .rcases YN.mp e with e|e
   .show j p<|by simp[e]
   .rcases Zm.mp e with rfl|e
    .have:=o1.2;dsimp only at this;show⟨z,by dsimp only;lia⟩
    .show j p<|by simp[e]
  .rw[<- n];show List.Perm.trans ?_ u;rw[k];have:=(o.append_left<|bI pre).append_right<|bI a++rest;simpa using this
def Em(hC:gF prog w A₀ κ s X (lr r))(z:∀x∈L,X x)(h:Rn r L rest a)(G:i+1<a.length)(q:∀b g,Rn r L rest b->b.length+1=a.length->(bI b).length=(bI a).length->Q d7 (kR κ rest b g) s):a2s (Y5 prog w) A₀ E (a8U i) Q (kR κ rest a mg) s:=by
 have e:a=a.take i++(a[i].1,a[i].2)::(a[i+1].1,a[i+1].2)::a.drop (i+1+1):=by have u:=a0h (l:=a) (i:=i) nofun;have v:=a0h (l:=a) (i:=i+1) ⋯;have l:=Zu i a;rw[u,v]at l;show l.symm
 obtain⟨pre,j,n,k,o,d,p,A⟩:∃pre j n k o d,a=pre++(j,n)::(k,o)::d/\i=pre.length:=⟨_,_,_,_,_,_,e,by rw[Zb];lia⟩;subst p;show Pp hC z h (λc g y B=>q _ g y ?_ ?_) A
 .simp;lia
 .rw[oE,oE,kQ,kQ,kQ];simp;lia
def Eo{b:Type}f:∀l(x:b),(l++[x]).modify l.length f=l++[f x]
 |[],x=>rfl|a::l,x=>by change a::(l++[x]).modify l.length f=_;rw[Eo f l x];rfl
def Pq a c w:(pos 0 a).toArray.push ((bI a).length,c.length,w)=(pos 0<|a++[(c,w)]).toArray:=by rw[oF,a0R];apply a1o.mp;rw[a0A];rfl
def Pr(a:List dX)c w b:((pos 0<|a++[(c,w)]).toArray.modify ((pos 0<|a++[(c,w)]).toArray.size-1) λx=>(x.1,x.2.1,b))=(pos 0<|a++[(c,b)]).toArray:=by rw[oF,oF,a0R];apply a1o.mp;have:=Eo (λx:Nat×Nat×Nat=>(x.1,x.2.1,b)) (pos 0 a) ((bI a).length,c.length,w);simp[pos];show this
def Pt a c w:(pos 0<|a++[(c,w)]).toArray.back?=b0 ((bI a).length,c.length,w):=by rw[oF,a0R];simp[pos]
inductive RnI (κ:a1q)(r:Keyed->Int)(L:List Keyed)(i:Nat):Option Unit×Nat->a0w->Prop
 |mk {rs:List dX}{rest:List Keyed}{mg:Nat}:Rn r L rest rs->i<=(bI rs).length->RnI κ r L i (b5,(bI rs).length) (kR κ rest rs mg)
inductive RnD (κ:a1q)(r:Keyed->Int)(L rest:List Keyed)(p:List dX->Prop){α:Type}:Option Unit×α->a0w->Prop
 |mk {rs:List dX}{mg:Nat}{n:α}:Rn r L rest rs->p rs->RnD κ r L rest p (b5,n) (kR κ rest rs mg)
def Pu{G P:Prop}(T:G)(f:G->P):P:=f T
def Ep{e a:List dX}{b h:List Keyed}{i d:Nat}(k:Rn r L (b++h) a)(l:(bI a).length=(bI e).length)(n:0<b.length)(u:Sr r b)(o:i<=(bI e).length):RnI κ r L (i+1) (b5,(bI e).length+b.length) (Zq κ (bI a++(b++h)).toArray ((pos 0 a).toArray.push ((bI e).length,b.length,0)) d b5):=by
 have g:bI (a++[(b,0)])=bI a++b:=by rw[oE,kQ];change _++(b++[])=_;rw[Zt]
 have j:(bI<|a++[(b,0)]).length=(bI e).length+b.length:=by rw[g,YF,l]
 have:=@RnI.mk κ r L (i+1) (a++[(b,0)]) h d ⟨λp c=>?_,?_⟩<|j▸a9E o n
 .rw[j]at this;unfold kR at this;rw[<- Pq,g,l,YQ]at this;show this
 .rcases YN.mp c with c|c
  .show k.ok p c
  .rw[YL.mp c];show⟨u,n⟩
 .rw[g,YQ];show k.pm
def Er:(a7S<|kR κ rest a mg).size=a.length:=by change(pos 0 a).toArray.size=_;rw[YI,mP]
def Es:∀{a},(∀p∈a,Sr r p.1/\0<p.1.length)->a.length<=(bI a).length
 |[],_=>YG _|(c,w)::a,h=>by rw[kQ,YF,Zc,Nat.add_comm];show a9E (h _<|Zs ..).2<|Es λp b=>h p<|Zl _ b
def Pw(b:Rn r L [] a)(d:a.length<=1):Sr r (bI a++[]):=by
 rw[Zt];match a,d,b with
 |[],_,_=>show a4o|[(c,w)],_,b=>have:=(b.ok (c,w)<|Zs ..).1;rw[kQ];change Sr r (c++[]);rw[Zt];show this|_::_::_,d,_=>show absurd d<|by simp
def zW(h:Rn r L rest a):(bI a).length+rest.length=L.length:=by rw[<- YF];show h.pm.length_eq
def Et(h:Rn r L rest a)(b:L.length<=(bI a).length):rest=[]:=a1g.mp<|by have:=zW h;lia
def Px(hC:gF prog w A₀ κ s X (lr r))(hX:∀x∈L,X x)(hD:Dis r L)(h2:2<=L.length)(q:∀R pd mg',Sr r R->R.Perm L->Q () (Zq κ R.toArray pd mg' b5) s):a2s (Y5 prog w) A₀ E sortRuns' Q (Zq κ L.toArray #[] mg b5) s:=by
 have hsz:(a8X<|Zq κ L.toArray #[] mg b5).size=L.length:=YI;rw[sortRuns'_eq];show YT<|a3d ?_;dsimp only;simp only[hsz];generalize minRun' L.length L.length 0=mr;show YT<|a0H<|jR (RnI κ r L) (RnD κ r L [] λ_=>True) 0 L.length (λi b st hi O=>?_) (λb st O=>?_) (λb st v=>?_) (L.length-0) 0 _ _ ⋯<|@RnI.mk κ r L 0 [] L mg ⟨λp B=>(by cases B),a4e _⟩<|a0d _
 .obtain @⟨g,rest,G,d,A⟩:=O;have N:=zW d;dsimp only;show bX (λhlo=>?_) λhlo=>?_;rotate_left
  .obtain rfl:=Et d hlo;show Y1 ⟨rfl,.mk d trivial⟩
  have hXr:∀x∈rest,X x:=λx hx=>hX x<|d.pm.mem_iff.mp<|YN.mpr<|.inr hx;have hDr:Dis r rest:=by have:Dis r (bI g++rest):=hD.perm d.pm.symm λh=>h.symm;show(a0g.mp this).2.1
  rw[show L.length-(bI g).length=rest.length by lia];have h0:0<rest.length:=by lia
  apply Pu;rotate_left
  .intro T;show YT<|Pj hC hXr hDr h0 λc t M h2 h3=>?_;dsimp only;have hct:=h3.length_eq;rw[YF]at hct;show bX (λhmr=>?_) λhmr=>?_
   .revert M h2 h3;clear hct hmr;revert t c;show T
   show YT<|a4u<|a1b ?_;have ht:t=t.take (min rest.length mr-c.length)++t.drop (min rest.length mr-c.length):=(Zu _ _).symm;have hD1:(t.take<|min rest.length mr-c.length).length=min rest.length mr-c.length:=by rw[Zb];lia
   generalize t.take (min rest.length mr-c.length)=D at ht hD1;generalize t.drop (min rest.length mr-c.length)=t' at ht;subst ht;rw[<- YQ c D t',show min rest.length mr=c.length+D.length by lia];show YT (Po hC (λx hx=>hXr x<|h3.mem_iff.mp<|by rw[<- YQ];show hx) h2 M λc' u z=>?_);have hc':=z.length_eq;rw[YF]at hc';rw[<- hc',if_neg<|by decide];show T c' t' ⋯ u<|(z.append_right t').trans<|by rw[YQ];show h3
  .intro K Y k1 k2 k3;show YT<|a3d ?_;have hR':Rn r L (K++Y) g:=⟨d.ok,(k3.append_left _).trans d.pm⟩;rcases a7j g with y|⟨H,⟨cl,wl⟩,y⟩
   .have U:(a7S<|Zq κ (bI g++(K++Y)).toArray (pos 0 g).toArray G b5).back?=none:=by rw[y];rfl
    simp only[U];show YT<|a1J<|Y1 ⟨rfl,Ep hR' rfl k1 k2 A⟩
   .rw[a7k]at y;have U:(a7S<|Zq κ (bI g++(K++Y)).toArray (pos 0 g).toArray G b5).back?=b0 ((bI H).length,cl.length,wl):=by rw[y];show Pt H cl wl
    simp only[U];generalize power' L.length (2*(bI H).length+cl.length) (2*(bI H).length+cl.length+cl.length+K.length) L.length=pw;show YT<|a0H<|jR (λ_=>RnD κ r L (K++Y) λa=>a≠[]/\(bI a).length=(bI g).length) (RnD κ r L (K++Y) λa=>a≠[]/\(bI a).length=(bI g).length) 0 L.length (λj b st hj hJ=>?_) (λb st hJ=>hJ) (λb st v=>?_) (L.length-0) 0 _ _ ⋯<|.mk hR' ⟨by rw[y];simp,rfl⟩
    .obtain @⟨a,k,_,u,z⟩:=hJ;show YT<|a3d ?_;rw[Er];by_cases M:a.length>1;rotate_left
     .rw[if_neg M];show Y1 ⟨rfl,.mk u z⟩
     rw[if_pos M];obtain⟨⟨o1,o2,o3⟩,ho⟩:∃o,(a7S<|kR κ (K++Y) a k)[a.length-2]?=b0 o:=by change ∃o,(pos 0 a).toArray[a.length-2]?=b0 o;rw[a0b];show⟨_,Yz<|by rw[mP];lia⟩
     rw[ho];dsimp only;show bX (λB=>?_) λB=>Y1 ⟨rfl,.mk u z⟩;show YT (Em hC hX u ⋯ λrs2 mg3 a1 a2 a3=>?_);rw[if_neg<|by decide];show Y1 ⟨rfl,.mk a1 ⟨λe=>by rw[e]at a2;simp at a2;lia,a3.trans z.2⟩⟩
    .obtain @⟨a,k,_,u,z,g3⟩:=v;dsimp only;show YT<|a1J ?_;rcases a7j a with l|⟨I,⟨Z,wm⟩,l⟩
     .show absurd l z
     rw[a7k]at l;subst l;have f1:bI (I++[(Z,wm)])=bI (I++[(Z,pw)]):=by rw[oE,oE];rfl
     show YT<|a1J<|Y1 ⟨rfl,?_⟩;have:=@Ep κ r L g (I++[(Z,pw)]) K Y i k ⟨λp B=>?_,by rw[<- f1];show u.pm⟩ (by rw[<- f1];show g3) k1 k2 A
     .rw[<- Pr I Z wm pw,<- f1]at this;show this
     .rcases YN.mp B with B|B
      .show u.ok p<|by simp[B]
      .rw[YL.mp B];show u.ok (Z,wm)<|by simp
 .obtain @⟨g,rest,G,d,A⟩:=O;obtain rfl:=Et d A;show .mk d trivial
 .obtain @⟨g,G,n,d,-⟩:=v;dsimp only;have hfl:=Es d.ok;have N:=zW d;show YT<|a0H<|jR (λi=>RnD κ r L [] λg=>g.length+i<=L.length) (RnD κ r L [] λg=>g.length<=1) 0 L.length (λi b st hi O=>?_) (λb st O=>?_) (λb st v=>?_) (L.length-0) 0 _ _ ⋯<|.mk d<|N▸hfl
  .obtain @⟨g,k,_,d,U⟩:=O;show YT<|a3d ?_;rw[Er];show bX (λM=>?_) λM=>?_
   .show YT<|Em hC hX d ?_ λa mg' u z g3=>?_
    .split<;>(try split)<;>omega
    .rw[if_neg<|by decide];show Y1 ⟨rfl,.mk u<|by lia⟩
   .show Y1 ⟨rfl,.mk d M⟩
  .obtain @⟨g,k,_,d,U⟩:=O;show .mk d<|by lia
  .obtain @⟨g,k,_,d,U⟩:=v;show Y1<|q (bI g++[]) (pos 0 g).toArray k (Pw d U) d.pm
end
def Py{rk:Value->Int}(N:us.Pairwise λx y=>rk x≠rk y)(h1:2<=us.length)(h2:us.length<=YM)(g:s.heap.get? c=b0 (a0G "list" us.toArray z))(H:∀l,(∀b o,b≠c->s.heap.get? b=b0 o->l.get? b=b0 o)->D5 prog w A us (λx y=>decide<|rk x<rk y) {s with heap:=l})(q:∀a:gw,a.Perm us->a.Pairwise (λx y=>rk x<=rk y)->R (.done<|.ret .none) {s with heap:=a5F s.heap c us a.toArray}):
  Y6 (Y5 prog w) A (Builtin.«list.sort» ⟨[.ref c],[]⟩) R E s:=by
 rw[b0o]
 have lt:c<s.heap.objs.size:=YJ g
 show Yw<|listItems_at g rfl<|Yw<|a5t g rfl ?_ (by rw[YI];lia)<|a0d _
 obtain⟨y,O⟩:∃y,(s.heap.update c<|ZW λ_=>#[]).get? c=b0 (a0G "list" #[] y):=⟨_,b0q g _⟩
 show Yw<|a6B O rfl<|Yw<|a6X (Yw<|a5r (Zz ?_)<|a0d _)<|by change us.length<=_;lia
 have Q:(((s.heap.update c<|ZW λ_=>#[]).push<|a0G "tuple" us.toArray 0).push<|a0G "list" #[] 0).get? c=b0 (a0G "list" #[] y):=
  YC _<|YC _ O
 have n:=H (((s.heap.update c<|ZW λ_=>#[]).push<|a0G "tuple" us.toArray 0).push<|a0G "list" #[] 0) λb o Z e=>YC _<|YC _<|(ZI _ _<|ZJ Z).trans e
 change Y6 (Y5 prog w) A _ R E ⟨((s.heap.update c<|ZW λ_=>#[]).push<|a0G "tuple" us.toArray 0).push<|a0G "list" #[] 0,s.gens,s.drawn,s.toks,s.os⟩
 dsimp only
 have i:¬ us.toArray.size<2:=by rw[YI];lia
 rw[if_neg i,if_neg i]
 show Yw<|ZT n (λκ M G=>?_) λ_ _ x=>x.elim
 obtain⟨rfl,G⟩:=G
 have Y:us.toArray.zip us.toArray=(us.map λu=>(u,u)).toArray:=by
  apply a1o.mp
  rw[O5,a0m]
 have run:=Px (prog:=prog) (w:=w) (A₀:=A) (E:=E) (κ:=κ) (X:=λp=>∃u∈us,p=(u,u)) (r:=λp=>rk p.1)
  (s:={s with heap:=((s.heap.update c<|ZW λ_=>#[]).push<|a0G "tuple" us.toArray 0).push<|a0G "list" #[] 0}) (L:=us.map λu=>(u,u)) (mg:=7)
  (λx y C k L hc=>by
   obtain⟨u,K,rfl⟩:=k
   obtain⟨v,hv,rfl⟩:=L
   show G u v C K hv hc) (λx k=>by
   obtain⟨u,K,rfl⟩:=YO.mp k
   show⟨u,K,rfl⟩) (by unfold Dis;rw[a0C];show N) (by rw[Yu];show h1)
  (Q:=λ_ j M=>M={s with heap:=((s.heap.update c<|ZW λ_=>#[]).push<|a0G "tuple" us.toArray 0).push<|a0G "list" #[] 0}/\failedOf j=b5/\∃a:gw,(a8X j).map (·.2)=a.toArray/\a.Perm us/\a.Pairwise λx y=>rk x<=rk y) λT pd mg' l B=>⟨rfl,rfl,T.map (·.2),by
   change T.toArray.map (·.2)=_
   rw[List.map_toArray],by
   have:=B.map (·.2)
   rw[Y0]at this
   show this.trans<|by rw[show((λp:Keyed=>p.2)∘λu:Value=>(u,u))=id from rfl,b0h],by
   rw[a0C]
   show a2d (R:=λx y:Keyed=>rk x.1<=rk y.1) (λ{x y} k L h=>?_) l
   obtain⟨u,_,rfl⟩:=YO.mp<|B.mem_iff.mp k
   obtain⟨v,_,rfl⟩:=YO.mp<|B.mem_iff.mp L
   show h⟩
 rw[Y]
 show Yw<|ZT run (λr M hr=>?_) λ_ _ e=>e
 obtain⟨⟨⟩,j⟩:=r
 obtain⟨rfl,U,a,d,X,I⟩:=hr
 dsimp only at U d ⊢
 rw[d]
 have hol:=X.length_eq
 show Yw<|a6B Q rfl<|Yw<|a5t Q rfl ?_ (hsz2:=by rw[YI];lia)
 rw[U]
 simp only[bne_self_eq_false,Zf,if_false]
 show YH<|q a X I
section
variable{α:Type}{lt:α->α->Bool}
structure Ord1(lt:α->α->Bool):Prop where
 ir:∀x,lt x x=dI
 tr:∀x y z,lt x y=d7->lt y z=d7->lt x z=d7
 to:∀x y,lt x y=dI->lt y x=dI->x=y
abbrev kS(lt:α->α->Bool)(l:List α)(x:α):Int:=(l.countP λy=>lt y x:Nat)
def Eu(h:Ord1 lt)(b:x∈l):lt x y=d7->kS lt l x<kS lt l y:=λe=>by
 unfold kS;have:∀l:List α,l.countP (λz=>lt z x)<=l.countP (λz=>lt z y):=λl=>List.countP_mono_left λz _ d=>h.tr z x y d e;have i:l.countP (λz=>lt z x)<l.countP (λz=>lt z y):=by
  induction l with
  |nil=>cases b|cons a l g=>
   rw[a8M,a8M];rcases Zm.mp b with rfl|b
   .rw[h.ir,e,if_neg YE,if_pos rfl];have:=this l;lia
   .have:=g b;by_cases c:lt a x=d7
    .rw[if_pos c,if_pos<|h.tr _ _ _ c e];lia
    .rw[if_neg c];split<;>lia
 lia
def u6(h:Ord1 lt)(b:x∈l)(c:y∈l):lt x y=decide (kS lt l x<kS lt l y):=by
 cases e:lt x y with
 |true=>rw[decide_eq_true<|Eu h b e]|false=>
  symm;rw[decide_eq_false_iff_not];cases a:lt y x with
  |true=>have:=Eu h c a;lia|false=>rw[h.to x y e a];lia
def Ew(h:Ord1 lt)(c:x∈l)(d:y∈l)(g:x≠y):kS lt l x≠kS lt l y:=λe=>by have a:=u6 h c d;have b:=u6 h d c;rw[e,decide_eq_false<|by lia]at a;rw[e,decide_eq_false<|by lia]at b;show g<|h.to x y a b
end
end L3
namespace L3
open PySem L2
open PyProof.Rows (IntsAre Fr News seqObj)
def Ex:∀a,HT.lexLt a a=dI
 |[]=>rfl|x::a=>by rw[HT.lexLt_cons,if_pos rfl];show Ex a
def Ey:∀{a b},a≠b->HT.lexLt a b=!HT.lexLt b a
 |[],[],h=>absurd rfl h|[],_::_,_=>rfl|_::_,[],_=>rfl|x::a,y::b,h=>by
  rw[HT.lexLt_cons,HT.lexLt_cons];by_cases e:x=y
  .subst e;rw[if_pos rfl,if_pos rfl];show Ey λz=>h<|by rw[z]
  .rw[if_neg e,if_neg<|ZJ e];rcases Int.lt_or_gt_of_ne e with z|z
   .rw[decide_eq_true z,decide_eq_false<|by lia];rfl
   .rw[decide_eq_false<|by lia,decide_eq_true z];rfl
def Ez:∀{a b c},HT.lexLt a b=d7->HT.lexLt b c=d7->HT.lexLt a c=d7
 |_,[],[],_,h=>absurd h (by intro z;cases z)|_,_::_,[],_,h=>absurd h (by intro z;cases z)|[],_,_::_,_,_=>rfl|_::_,[],_::_,h,_=>absurd h (by intro z;cases z)|x::a,y::b,z::c,h1,h2=>by
  rw[HT.lexLt_cons]at h1 h2 ⊢;by_cases e:x=y
  .subst e;rw[if_pos rfl]at h1;by_cases d:x=z
   .subst d;rw[if_pos rfl]at h2 ⊢;show Ez h1 h2
   .rw[if_neg d]at h2 ⊢;show h2
  .rw[if_neg e]at h1;by_cases d:y=z
   .subst d;rw[if_neg e];show h1
   .rw[if_neg d]at h2;rw[decide_eq_true_eq]at h1 h2;rw[if_neg<|by lia,decide_eq_true_eq];lia
end L3
namespace L3
open PySem
open PySem.W (KasT kas_asc kas_desc kas_tail3 kas_descPart kas_count kas_place kas_bin kas_sort kas_rev)
open PyProof.Rows (mirror bubble getElem?_bubble getElem?_mirror_all mirror_size bubble_size)
section
variable{α:Type}{lt:α->α->Bool}(irr:∀a,lt a a=dI)(tr:∀a b c,lt a b=d7->lt b c=d7->lt a c=d7)(nt:∀a b c,lt a b=d7->lt a c=d7\/lt c b=d7)
include irr tr nt in
def Pz(d:α)(xs:List α){n:Nat}(_:1<=n):(cS (λi j=>lt (xs.getD i d)<|xs.getD j d) n).Pairwise λi j=>lt (xs.getD j d) (xs.getD i d)=false:=by
 have h:=List.pairwise_mergeSort (le:=λi j=>!(lt (xs.getD j d)<|xs.getD i d)) (λa b c g k=>by
  rw[a2R]at g k ⊢;cases e:lt (xs.getD c d) (xs.getD a d)with
  |false=>rfl|true=>
   rcases nt _ _ (xs.getD b d) e with z|z
   .rw[z]at k;cases k
   .rw[z]at g;cases g) (λa b=>by
  cases e:lt (xs.getD b d) (xs.getD a d)with
  |false=>rfl|true=>
   cases l:lt (xs.getD a d) (xs.getD b d)with
   |false=>rfl
   |true=>have:=tr _ _ _ e l;rw[irr]at this;cases this)<|Zj n
 show h.imp λh=>by simpa using h
end
end L3
namespace L3
open PySem L2 PySem.W PyProof.Rows
def u7:Ord1 HT.lexLt:=⟨Ex,λ_ _ _=>Ez,λa b h1 c=>a5A λd=>by
 have:=Ey d;rw[h1,c]at this;cases this⟩
end L3
namespace L3
open PySem L2
abbrev gG(f g:D->D->Hm->jk)(a b c:ME):ME:=λd e=>(a d e).bind λp=>(b d p.2).bind λq=>(f p.1 q.1 q.2).bind λr=>match r.1 with
 |.bl d7=>(c d r.2).bind λt=>g q.1 t.1 t.2|.bl dI=>b0 (.bl dI,r.2)|_=>b5
def EA(hf:dG K f r)(hg:dG K g N):∀σ H Q,tM K (gG f g ma mb mc) σ H Q->xY r N (tM K ma) (tM K mb) (tM K mc) σ H Q:=by
 rintro σ H Q ⟨π,B,μ,d,u,R,E,e,k⟩;obtain⟨⟨x,h⟩,h1,e⟩:=Yv.mp e;obtain⟨⟨y,i⟩,h2,e⟩:=Yv.mp e;obtain⟨⟨z,j⟩,h3,e⟩:=Yv.mp e;show⟨π,B,μ,x,h,R,E,h1,λv v1 H1 o Z i1=>⟨v,B,h,y,i,Z,E.mono o,h2,λw O T p R2 M=>?_⟩⟩;show hf w T i x y z j v1 O _ R2 (i1.mono p) M h3 λn v3 U s G i3=>?_;cases z with
 |bl I=>
  cases i3;show⟨I,rfl,?_⟩;cases I with
  |true=>show mH ?_;obtain⟨⟨t,l⟩,h4,e⟩:=Yv.mp e;show⟨n,B,j,t,l,G,((E.mono o).mono p).mono s,h4,λA v4 Y L R4 i4=>hg A Y l y t d u O v4 Q R4 ((M.mono s).mono L) i4 e<|k.after<|((o.trans p).trans s).trans L⟩|false=>show mG ?_;cases e;show k n _ U ((o.trans p).trans s) G<|.bl dI
 |_=>cases e
abbrev gH:a2K->Option (Int->Int->Bool)
 |.Lt=>b0 λi j=>decide (i<j)|.LtE=>b0 λi j=>decide (i<=j)|.Gt=>b0 λi j=>decide (j<i)|.GtE=>b0 λi j=>decide (j<=i)|_=>b5
def pZ(h:gH op=b0 p):OpR X (Z0 op) (iB λi j=>.bl<|p i j)/\(op=.Lt\/op=.LtE\/op=.Gt\/op=.GtE):=by cases op<;>first|(cases h;first|show⟨xU,by simp⟩|show⟨xV,by simp⟩|show⟨xW,by simp⟩|show⟨xX,by simp⟩)|cases h
def EB(h':d=.Lt\/d=.LtE\/d=.Gt\/d=.GtE):b0a [op,d] [b,c]=false:=by change a2j d c=dI;rcases h' with rfl|rfl|rfl|rfl<;>show eC _
def PB{pos:a0u}(h:gH op=b0 p)(h':gH d=b0 q)(e:QE X a ma)(g:QE X b mb)(hc:QE X c mc):QE X (.Compare a [op,d] [b,c] pos) (gG (fV p) (fV q) ma mb mc):=
 ⟨dJ (Kw (pZ h).1 (pZ h').1 e.h g.h hc.h<|EB (pZ (X:=X) h').2)<|EA iZ iZ⟩
def PC{pos:a0u}(h:gH op=b0 p)(h':gH d=b0 q)(g:QE X a ma)(i:QE X b mb)(hc:QE X c mc):QT X (.Compare a [op,d] [b,c] pos) (aO<|gG (fV p) (fV q) ma mb mc):=
 ⟨uD (Ky (pZ h).1 (pZ h').1 g.h i.h hc.h<|EB (pZ (X:=X) h').2) λe H Q h=>EA iZ iZ e H _<|C6 e H Q h⟩
abbrev u9(d:Bool):D->D->Hm->jk
 |.bl b,.bl c,μ=>b0 (.bl<|if d then !(b==c)else b==c,μ)|.int _,.bl _,μ=>b0 (.bl d,μ)|_,_,_=>b5
abbrev eY(d:Bool):D->D->Hm->jk:=λx y e=>match y with
 |.bl _=>u9 d x y e|_=>kM d x y e
abbrev zX(d:Bool):R2:=λx y H Q=>∃c,y=.bl c/\((∃b,x=.bl b/\Q (.bl<|if d then !(b==c)else b==c) H)\/((∃i,x=.int i)/\Q (.bl d) H))
def vA:dG K (u9 g) (zX g):=by
 intro j H p x y d l n o Q R h i e k;unfold u9 at e;split at e
 .cases e;cases h;cases i;show⟨_,rfl,.inl ⟨_,rfl,k j _ H .refl R<|.bl _⟩⟩
 .cases e;cases h;cases i;show⟨_,rfl,.inr ⟨⟨_,rfl⟩,k j _ H .refl R<|.bl _⟩⟩
 .cases e
def EC:OpR X (Z0 .Is) (zX dI):=by
 intro e s j H x y v u Q I d g h;obtain⟨c,rfl,h⟩:=h;cases g;rcases h with⟨b,rfl,q⟩|⟨⟨i,rfl⟩,q⟩
 .cases d;show YH<|nQ I q<|by cases b<;>cases c<;>rfl
 .obtain⟨t,rfl⟩:=d;show YH<|nQ I q rfl
def ED:OpR X (Z0 .IsNot) (zX d7):=by
 intro e s j H x y v u Q I d g h;obtain⟨c,rfl,h⟩:=h;cases g;rcases h with⟨b,rfl,q⟩|⟨⟨i,rfl⟩,q⟩
 .cases d;show YH<|nQ I q<|by cases b<;>cases c<;>rfl
 .obtain⟨t,rfl⟩:=d;show YH<|nQ I q rfl
def vB x y e r(h:eY d x y e=b0 r):u9 d x y e=b0 r\/kM d x y e=b0 r:=by
 unfold eY at h;split at h
 .show .inl h
 .show .inr h
def PD{pos:a0u}(d:QE X a ma)(e:QE X b mb):QE X (.Compare a [.Is] [b] pos) (aC (eY dI) ma mb):=n8 ⟨fT EC vA d.h e.h<|eC _⟩ (OI d e)<|iE vB
def PF{pos:a0u}(d:QE X a ma)(e:QE X b mb):QE X (.Compare a [.IsNot] [b] pos) (aC (eY d7) ma mb):=n8 ⟨fT ED vA d.h e.h<|eC _⟩ (OJ d e)<|iE vB
def PH{pos:a0u}(d:QE X a ma)(e:QE X b mb):QT X (.Compare a [.Is] [b] pos) (aO<|aC (eY dI) ma mb):=pQ ⟨fU EC vA d.h e.h<|eC _⟩ (OK d e)<|pR<|iE vB
def PJ{pos:a0u}(d:QE X a ma)(e:QE X b mb):QT X (.Compare a [.IsNot] [b] pos) (aO<|aC (eY d7) ma mb):=pQ ⟨fU ED vA d.h e.h<|eC _⟩ (OL d e)<|pR<|iE vB
abbrev jS:MF:=λds a=>match ds with
 |[x]=>(bJ a x).bind λc=>(pS c).map λb=>(.int b.sum,a)|_=>b5
abbrev EE(K:Yx):gz->Hp->VK->Prop:=λxs H Q=>∃(p:Addr)(a:List Int),xs=[.ref p]/\(SqL K H p (a.map V.int)\/SqT K H p (a.map V.int))/\Q (.int a.sum) H
def PK:dW K jS (EE K):=by
 intro h H r n d g j Q R i a k;unfold jS at a;split at a
 .obtain⟨o,b,a⟩:=Yv.mp a;obtain⟨e,c,a⟩:=YB.mp a;cases a;cases i with
  |cons i t=>cases t;obtain⟨p,l,rfl,q,hd⟩:=pP R i b;rw[zN c]at hd;have:=ints_of' hd;subst this;show⟨p,e,rfl,q,k h _ H .refl R<|.int _⟩
 .cases a
def EF(a:List Int):∀n,n<=a.length->preSum (λi=>a.getD i 0) n=(a.take n).sum
 |0,_=>rfl|n+1,h=>by
  have b:=EF a n ⋯;have e:a.take (n+1)=a.take n++[a[n]]:=by rw[a1r,Yz<|by lia];rfl
  change preSum (λi=>a.getD i 0) n+a.getD n 0=_;rw[b,e,List.sum_append];simp[ZV,Yz<|show n<a.length by lia]
def EG{σ:St}(I:Inv X b0Z σ H s)(m:Moved l (λa b=>b=a) d c)(n:∀b o,s.heap.get? b=b0 o->d.heap.get? b=b0 o)(hw:∀b∈l,s.heap.objs.size<=b)(g:d.gens=s.gens/\d.drawn=s.drawn/\d.os=s.os):Inv X b0Z σ H c:=by have k:∀b o,s.heap.get? b=b0 o->c.heap.get? b=b0 o:=λb o e=>m.heap b o (λz=>absurd (Zg (YJ e)<|hw b z)<|a0f _)<|n b o e;have h:c.gens=s.gens:=m.gens.trans g.1;have i:c.drawn=s.drawn:=m.drawn.trans g.2.1;have j:c.os=s.os:=m.os.trans g.2.2;obtain⟨v,u,r,p,w⟩:=c;dsimp only at h i j k;subst h i j;show I.kept (t':=p) k
def EH{a:List Int}(r:Vals (a.map V.int) its){i:Nat}(h:its.toArray[i]?=b0 v):∃t,v=.int (a.getD i 0) t:=by
 have b:its[i]?=b0 v:=by simpa using h
 have d:i<a.length:=by have:=(Yy.mp b).1;have:=r.length;rw[Yu]at this;lia
 obtain⟨u,c,e⟩:=r.get (i:=i) (x:=.int a[i]) (by rw[YU,Yz d];rfl);rw[b]at c;cases c;obtain⟨t,rfl⟩:=e;show⟨t,by simp[ZV,d]⟩
def PL(hc:X.calm=d7):CallR X (.builtin "sum") (EE X.K):=by
 intro B s N H M L Q I r h;obtain⟨p,d,rfl,w,q⟩:=h;obtain⟨u,rfl,G⟩:=fH r;cases G;have A:X.A.in1.handled=none:=I.ok.hd hc;have fin:∀a:gw,Vals (d.map V.int) a->preSum (λi=>d.getD i 0) a.toArray.size=d.sum:=λa l=>by
  have n:a.toArray.size=d.length:=by rw[YI,<- l.length,Yu]
  rw[n,EF d _<|YG _,Zp]
 rcases w with w|w
 .obtain⟨a,l,g,E⟩:=I.list w;show a9L<|a4f g.isList ?_;have j:p≠s.heap.objs.size:=by obtain⟨o,k,_⟩:=g.isList;show Y7<|YJ k
  show⟨s.heap.objs.size,_,_,_,_,_,_,λi=>d.getD i 0,rfl,(b0c A _ p j a.toArray).toS,⟨⟨_,YR _ rfl,rfl,rfl⟩,g.isList.push _⟩,?_,λi v y=>EH l y,λK z m=>?_⟩
  .intro b c;change b<(s.heap.push _).objs.size;rw[a1v];obtain⟨o,k,_⟩:=g.isList;have x:=YJ k;simp only[Zm,a1p,or_false]at c;rcases c with rfl|rfl
   .show a0x _
   .show a3W x
  .show⟨.int d.sum,H,EG I m (λb o e=>YC _ e) (λb c=>?_) ⟨rfl,rfl,rfl⟩,⟨z,?_⟩,q⟩
   .have e:b=s.heap.objs.size:=by simpa using c
    show a4n e.symm
   .rw[fin a l]
 .obtain⟨a,l,g,E⟩:=I.tuple w;show a9L<|a2a (show s.heap.IsTuple p a.toArray from g) ?_;have j:p≠s.heap.objs.size:=by obtain⟨o,k,_⟩:=g;show Y7<|YJ k
  show⟨s.heap.objs.size,_,_,_,_,_,_,λi=>d.getD i 0,rfl,(a5v A _ p j a.toArray).toS,⟨⟨_,YR _ rfl,rfl,rfl⟩,a4G g _⟩,?_,λi v y=>EH l y,λK z m=>?_⟩
  .intro b c;change b<(s.heap.push _).objs.size;rw[a1v];obtain⟨o,k,_⟩:=g;have x:=YJ k;simp only[Zm,a1p,or_false]at c;rcases c with rfl|rfl
   .show a0x _
   .show a3W x
  .show⟨.int d.sum,H,EG I m (λb o e=>YC _ e) (λb c=>?_) ⟨rfl,rfl,rfl⟩,⟨z,?_⟩,q⟩
   .have e:b=s.heap.objs.size:=by simpa using c
    show a4n e.symm
   .rw[fin a l]
abbrev zY:MF:=λds a=>match ds with
 |[.int i,.int j]=>b0 (.int<|if j<i then j else i,a)|_=>b5
abbrev zZ:MF:=λds a=>match ds with
 |[.int i,.int j]=>b0 (.int<|if j>i then j else i,a)|_=>b5
def PM:dW K zY (λxs H Q=>∃i j,xs=[.int i,.int j]/\Q (.int<|if j<i then j else i) H):=by
 intro g H l xs d e h Q R i a k;unfold zY at a;split at a
 .cases a;cases i with
  |cons i t=>
   cases i;cases t with
   |cons b c=>cases b;cases c;show⟨_,_,rfl,k g _ H .refl R<|.int _⟩
 .cases a
def PN:dW K zZ (λxs H Q=>∃i j,xs=[.int i,.int j]/\Q (.int<|if j>i then j else i) H):=by
 intro g H l xs d e h Q R i a k;unfold zZ at a;split at a
 .cases a;cases i with
  |cons i t=>
   cases i;cases t with
   |cons b c=>cases b;cases c;show⟨_,_,rfl,k g _ H .refl R<|.int _⟩
 .cases a
abbrev eZ{b:Type}(xs:List b)(lo a st:Option Int):List b:=(a9u (a1W lo a st xs.length).1 (a1W lo a st xs.length).2.1 (a1W lo a st xs.length).2.2).filterMap (xs[·]?)
abbrev mQ(a:ME)(lo d st:MO):ME:=λb e=>(a b e).bind λp=>(lo b p.2).bind λq=>(d b q.2).bind λr=>(st b r.2).bind λt=>if t.1≠b0 0 then(fD t.2 p.1).bind λc=>if(eZ c q.1 r.1 t.1).length<=YM then b0 (.loc t.2.length,t.2++[.lst<|eZ c q.1 r.1 t.1])else b5 else b5
def PQ(h:IsDs K π n H vs ds)lo a st:IsDs K π n H (eZ vs lo a st) (eZ ds lo a st):=by
 unfold eZ;rw[h.length];generalize a9u _ _ _=l;induction l with
 |nil=>show .nil|cons i l b=>
  rw[a1l,a1l];cases a:ds[i]? with
  |none=>
   have:vs[i]?=none:=by rw[Zx]at a ⊢;rw[h.length];show a
   rw[this];show b
  |some d=>obtain⟨v,c,e⟩:=h.get a;rw[c];show .cons e b
def PR(r:Vals vs its)lo a st:Vals (eZ vs lo a st) (eZ its lo a st):=by
 unfold eZ;rw[r.length];generalize a9u _ _ _=l;induction l with
 |nil=>show .nil|cons i l b=>
  rw[a1l,a1l];cases a:vs[i]? with
  |none=>
   have:its[i]?=none:=by rw[Zx]at a ⊢;rw[<- r.length];show a
   rw[this];show b
  |some v=>obtain⟨u,c,d⟩:=r.get a;rw[c];show .cons d b
abbrev PU(K:Yx)(te:TE)(tl th tt:TO):TE:=λσ H Q=>te σ H λx c=>tl σ c λl d=>th σ d λu g=>tt σ g λt b=>t≠b0 0/\∃a xs,x=.ref a/\SqL K b a xs/\(eZ xs l u t).length<=YM/\∀p,b p=b5->Q (.ref p) (upd b p<|.lst<|eZ xs l u t)
open PyProof.Rows in
def PV{X:Cx}{e:Expr}{te:TE}{lo hi:Option Expr}{st:Expr}{tl th tt:TO}{pos p2:a0u}(O:PE X e te)(R:PO X lo tl)(U:PO X hi th)(T:PO X (b0 st) tt):PE X (.Subscript e (.Slice lo hi (b0 st) p2) pos) (PU X.K te tl th tt):=by
 intro c s i H Q I h;show a7d<|aV (O c s i H _ I h) λv s1 ⟨x,z,G,r1,q1⟩=>?_;show wpAny_Slice<|aV (R c s1 i z _ G q1) λp s2 ⟨l,A,K,pl,q2⟩=>aV (U c s2 i A _ K q2) λy s3 ⟨u,B,L,pu,q3⟩=>aV (T c s3 i B _ L q3) λw d ⟨t,E,M,pt,q4⟩=>?_;obtain⟨N,a,xs,rfl,Y,Z,q⟩:=q4;cases r1;have n:Inv X c i E {d with heap:=d.heap.push {cls:=.type "slice",data:=.fields #[p,y,w]}}:=M.kept (t':=d.toks) λb ob q=>YC _ q;obtain⟨k,r,j,hz'⟩:=n.list Y;have o:=r.length;change Y6 (Y5 X.prog X.w) X.A (a5s e (.Slice lo hi (b0 st) p2) (.ref a)<|.ref d.heap.objs.size) (EP X c i Q) X.xe {d with heap:=d.heap.push {cls:=.type "slice",data:=.fields #[p,y,w]}};show b0R (ops:=[.ref a,.ref d.heap.objs.size]) j.isList.typeIs a5T.lookup ?_ (by with_unfolding_all rfl);show a7C j.isList (a5R ..) pl pu pt N ?_ (by rw[YI]<;>lia);have g:a7R k.toArray l u t=(eZ k l u t).toArray:=by unfold a7R eZ;simp
 rw[g];show⟨.ref _,_,n.laid (t':=d.toks) (o:=.lst (eZ xs l u t)) (λb ob q=>YC _ q) (YG _) ?_,rfl,q _<|n.hok.fresh<|YG _⟩;show⟨Z,_,0,PR r l u t,YR _ rfl⟩
def PX{pos:a0u}(he:QE X e A)(hl:QO X lo G)(hu:QO X hi B)(ht:QO X (b0 st) I):QE X (.Subscript e (.Slice lo hi (b0 st) p2) pos) (mQ A G B I):=⟨dJ (PV he.h hl.h hu.h ht.h)<|by
 rintro σ H Q ⟨π,n,μ,d,μ',R,E,a,k⟩;obtain⟨⟨x,c⟩,U,a⟩:=Yv.mp a;obtain⟨⟨l,g⟩,Y,a⟩:=Yv.mp a;obtain⟨⟨u,h⟩,Z,a⟩:=Yv.mp a;obtain⟨⟨t,r⟩,h4,a⟩:=Yv.mp a;show⟨π,n,μ,x,c,R,E,U,λs v1 H1 i L i1=>⟨s,n,c,l,g,L,E.mono i,Y,λv H2 j R2=>⟨v,n,g,u,h,R2,(E.mono i).mono j,Z,λw H3 o M=>⟨w,n,h,t,r,M,((E.mono i).mono j).mono o,h4,λπ4 H4 z y=>?_⟩⟩⟩⟩;split at a
 .rename_i T;obtain⟨xs,h5,a⟩:=Yv.mp a;split at a
  .rename_i hz;cases a;obtain⟨p,K,rfl,q,hd⟩:=pV y (((i1.mono j).mono o).mono z) h5;have b:=PQ hd l u t;show⟨T,p,K,rfl,q,by rw[b.length];show hz,λp' hp=>?_⟩;obtain⟨O,N,_⟩:=y.alloc (c:=.lst (eZ xs l u t)) (o:=.lst (eZ K l u t)) hp b;show k _ _ _ ((((i.trans j).trans o).trans z).trans O) N kI
  .cases a
 .cases a⟩
def z7{σ:St}{ch:List Addr}{a:Addr}(I:Inv X b0Z σ H s)(k:∀b u,b∉ch->s.heap.get? b=b0 u->h'.get? b=b0 u)(i:∀b∈ch,iA X b0Z H b)(j:s.heap.objs.size<=a)(new:ObjOk X.prog X.w (upd H a o) h' a o):Inv X b0Z σ (upd H a o) {s with heap:=h',toks:=t'}:=by
 have d:=I.hok.fresh j;have g:∀b u,H b=b0 u->b∉ch:=λb u e z=>by have:=(i b z).1;rw[e]at this;cases this
 show I.step (g':=s.gens) (d':=s.drawn) (ch:=ch) (λb h=>let⟨L,x,M,y,A,B⟩:=i b h;⟨y,x,A,B⟩) (λb o _ _ hc e _=>k b o hc e) (λb o _ _ hc e _=>⟨o.slots,k b o hc e⟩) (λb K hc e n=>?_)
  (λb o hc e=>⟨o,k b o hc e⟩) (λb l q=>?_) (λb K l q=>?_) (λb N q=>?_) (λm E=>?_) (λb u e=>?_) I.bare
 .rw[bH<|Y7<|Zg (YJ e) j];show n
 .rw[bH<|iS q d];show q
 .rw[bH<|iS q d];show q
 .show⟨#[],by rw[bH<|iS q d,q];simp⟩
 .obtain⟨o,w,p,G,r⟩:=E;show⟨o,w,p,k _ o (λz=>(i _ z).2.1 rfl) G,r⟩
 .by_cases h:b=a
  .subst h;rw[c3]at e;cases e;show new
  .rw[bH h]at e;show(I.hok b u e).stay (λc v hc q=>k c v ?_ q) (λc q=>by rw[bH<|iS q d];show q) λc l q=>by rw[bH<|iS q d];show q
   rcases hc with z|z
   .rw[z];show g b u e
   .show g c _ z
def EI{σ:St}{ch:List Addr}(I:Inv X b0Z σ H s)(k:∀b u,b∉ch->s.heap.get? b=b0 u->h'.get? b=b0 u)(d:∀b∈ch,iA X b0Z H b):Inv X b0Z σ H {s with heap:=h',toks:=t'}:=by
 have a:∀b u,H b=b0 u->b∉ch:=λb u e z=>by have:=(d b z).1;rw[e]at this;cases this
 show I.step (g':=s.gens) (d':=s.drawn) (ch:=ch) (λb x=>let⟨E,j,G,l,p,w⟩:=d b x;⟨l,j,p,w⟩) (λb o _ _ hc e _=>k b o hc e) (λb o _ _ hc e _=>⟨o.slots,k b o hc e⟩) (λb B hc e n=>n)
  (λb o hc e=>⟨o,k b o hc e⟩) (λb g q=>q) (λb B g q=>q) (λb K q=>⟨#[],by rw[q];simp⟩) (λm y=>?_) (λb u e=>?_) I.bare
 .obtain⟨o,i,h,A,r⟩:=y;show⟨o,i,h,k _ o (λz=>(d _ z).2.1 rfl) A,r⟩
 .show(I.hok b u e).stay (λc v hc q=>k c v ?_ q) (λc q=>q) λc g q=>q;rcases hc with z|z
  .rw[z];show a b u e
  .show a c _ z
abbrev z8(K:Yx)(a:Addr):It:=
 ⟨λi H=>∃b x,SqL K H a b/\b[i]?=b0 x,λi H x c=>∃p v,x=.ref p/\H p=b5/\c=upd H p (.tup [.int i,v])/\∀b,SqL K H a b->b[i]?=b0 v,λi H=>∃b,SqL K H a b/\b.length<=i⟩
def PY a e l(y:e≠l):
  Turn Qc P w K (.Tuple es kx pt) (z8 K a) [e,l] e (λi h=>∃old,IsEnum h e l i old/\h.IsListIter l a i) where
 mem:=by simp
 obj:=λi h ⟨old,st,j⟩ b n=>by
  have g:b=e\/b=l:=by simpa using n
  rcases g with rfl|rfl
  .show⟨_,st,λv z=>by
    have z':ZM _=a4c v:=z;cases z'⟩
  .obtain⟨o,M,c,d⟩:=j;show⟨o,M,λv z=>by rw[d]at z;cases z⟩
 keep:=λi h h' ⟨old,st,j⟩ k=>⟨old,k e (by simp) _ st,j.at λo M=>k l (by simp) o M⟩;item:=by
  intro X Q hw O hc i L s σ H E I B ⟨old,st,j⟩ U;subst Q hw O;obtain⟨xs,x,G,hx⟩:=U;obtain⟨its,rv,p,hz⟩:=I.list G;obtain⟨u,hu,ru⟩:=rv.get hx;show wpAny_pyNext_enum_item st j p.isList (x:=u) (by simpa using hu) y λh1 ho hit ht hsz hk=>⟨_,rfl,wpAny_letOwnedTupleGo_enum ho λh2 R r=>?_⟩;have A:e<s.heap.objs.size:=YJ st;have Y:s.heap.objs.size≠e:=a0r A;have ht2:h2.get? s.heap.objs.size=b0 {cls:=.type "tuple",data:=.seq #[.int i s.toks,u]}:=(r.2 _ Y).trans ht;have T:H s.heap.objs.size=none:=I.hok.fresh<|YG _;show⟨.ref s.heap.objs.size,upd H s.heap.objs.size<|.tup [.int i,x],?_,rfl,⟨s.heap.objs.size,x,rfl,T,rfl,λys hy=>by rw[I.list_inj hy G];show hx⟩,⟨u,R,hit.extBut r.extBut<|ZJ y⟩,λb n=>?_⟩
  .show z7 (s:=s) (h':=h2) (t':=s.toks+1) (ch:=[e,l]) I (λb ob n N=>?_) B (YG _) ?_
   .have g:b≠e/\b≠l:=by simpa using n
    show(r.2 b g.1).trans<|hk b ob g.1 g.2 N
   .show⟨by change(2:Nat)<=YM;decide,[.int i s.toks,u],.cons ⟨_,rfl⟩<|.cons ru .nil,_,ht2,rfl,0,rfl,rfl⟩
  .have g:b=e\/b=l:=by simpa using n
   have hn:=(B b n).1;obtain⟨o,Z,_⟩:=j;rw[bH]
   .show hn
   .rcases g with rfl|rfl
    .show Y7 A
    .show Y7<|YJ Z
 done:=by
  intro X Q hw O hc i L s σ H E I B ⟨old,st,j⟩ U;subst Q hw O;obtain⟨xs,G,hx⟩:=U;obtain⟨its,rv,p,hz⟩:=I.list G;have hl:=rv.length;show wpAny_pyNext_enum_end (I.ok.hd hc) st j p.isList (by simp;lia) λh' N=>⟨rfl,EI (t':=s.toks) (ch:=[e,l]) I (λb o n z=>N b o ?_ z) B⟩;have g:b≠e/\b≠l:=by simpa using n
  show g.2
 self:=λ_ _ _ _ _ ⟨old,st,_⟩ h=>a9H st h
structure QJT(X:Cx)(e:Expr)(m:MI):Prop where
 h:∀es k p,PI X (.Tuple es k p) e (tMI X.K m)
def QJ.t(h:QJ X e m):QJT X e m:=⟨λes k p=>h.h _⟩
abbrev mR(x:D):eX:=λa i=>(bJ a x).map λxs=>(xs[i]?).map λd=>.tup [.int i,d]
abbrev oG(ms:MA):MI:=λc b=>(ms c b).bind λp=>match p.1 with
 |[x]=>(fD p.2 x).map λa=>(mR x,a.length+1,p.2)|_=>b5
def PZ(R:Rp K π H s)(h:IsD K π s.length H v x)(w:fD s x=b0 xs):∃a,v=.ref a/\(∃vs,SqL K H a vs)/\Wk K (z8 K a) (mR x) π s.length H:=by
 have hw:bJ s x=b0 xs:=by
  cases x with
  |rol k=>show w|loc b=>show w|_=>cases w
 obtain⟨p,vs,rfl,U,_⟩:=pV R h w;show⟨p,rfl,⟨vs,U⟩,?_⟩
  -- the list as it stands j
 have j:∀g c l,Ext π s.length H g c.length l->Rp K g l c->∀k,bJ c x=b0 k->∃n,SqL K l p n/\IsDs K g c.length l n k:=λg c l e o k L=>by
  have Y:=h.mono e;have Q:fD c x=b0 k:=by
   cases x with
   |rol zs=>show L|loc b=>show L|_=>cases w
  obtain⟨p',n,M,r,u⟩:=pV o Y Q;cases M;show⟨n,r,u⟩
 show⟨λg c l i e o z=>?_,λg c l i d e o z=>?_⟩
 .obtain⟨k,B,A⟩:=YB.mp z;obtain⟨n,r,u⟩:=j g c l e o k B;have E:k[i]?=none:=by
   cases q:k[i]? with
   |none=>rfl|some d=>rw[q]at A;cases A
  show⟨n,r,by rw[u.length];show Zx.mp E⟩
 .obtain⟨k,B,A⟩:=YB.mp z;obtain⟨d',E,N⟩:=YB.mp A;subst N;obtain⟨n,r,u⟩:=j g c l e o k B;obtain⟨v,I,O⟩:=u.get E;show⟨⟨n,v,r,I⟩,?_⟩;rintro y Z ⟨t,v',rfl,T,rfl,X⟩;have:=X n r;rw[I]at this;cases this;obtain⟨G,R2⟩:=o.fresh (o:=.tup [.int i,v]) T;show⟨G,R2,.tup (.of c3)<|.cons (.int _)<|.cons (O.mono G) .nil⟩
abbrev P0(K:Yx)(c:TA):TI:=λσ H R=>c σ H λvs b=>∃a,vs=[.ref a]/\(∃xs,SqL K b a xs)/\R (z8 K a) b
open PyProof.Rows in
def P1{X:Cx}{a:Expr}{k:TA}{p pos pt:a0u}{es:List Expr}{K:Nat}(x:Gl X "enumerate") (z:X.mg "enumerate"=b5) (v:PA X [a] k)(B:Zo [a] X.env=[(dI,eval a X.env)]):PI X (.Tuple es K pt) (.Call (.Name "enumerate" p) [a] [] pos) (P0 X.K k):=by
 intro e s l H R I h;show a9W<|hZ I x z Boot.«enumerate»<|callWith_type1 (aV (v pos e s l H _ I h) λU c ⟨Y,i,d,N,M⟩=>?_) B rfl;obtain⟨o,rfl,⟨Z,A⟩,q⟩:=M;obtain⟨u,rfl,O⟩:=fH N;cases O;obtain⟨G,T,L,Q⟩:=d.list A;show call_enumerate_list L.isList λr j hit E y=>?_;show a9H j ?_;have n:Inv X e l i {c with heap:=r}:=d.kept (t':=c.toks) y;show⟨c.heap.objs.size+1,[c.heap.objs.size+1,c.heap.objs.size],_,_,i,rfl,n,PY o _ _<|Nat.succ_ne_self _,⟨_,j,hit⟩,λb w=>?_,q⟩;have g:b=c.heap.objs.size+1\/b=c.heap.objs.size:=by simpa using w
 rcases g with rfl|rfl
 .show d.fpOk (a2m _)<|d.hok.fresh<|a2m _
 .show d.fpOk (YG _)<|d.hok.fresh<|YG _
def P2{pos:a0u}(c:Gl X "enumerate")(d:X.mg "enumerate"=b5)(j:QA X [a] ms n):QJT X (.Call (.Name "enumerate" p) [a] [] pos) (oG ms):=⟨λes N pt b0Z s σ H R I hw=>by
 have l:=j.s;rw[ZD,YK]at l;obtain⟨L,M,G,A,O,K,r,E,b,k⟩:=hw;obtain⟨⟨x,g⟩,w,b⟩:=Yv.mp b;show P1 c d j.h (fL l.1) b0Z s σ H R I ⟨L,M,G,x,g,r,E,w,λh Q o v i e=>?_⟩;dsimp only at b;split at b
 .rename_i x;obtain⟨T,y,b⟩:=YB.mp b;cases b;cases e with
  |cons e B=>cases B;obtain⟨u,rfl,z,W⟩:=PZ i e y;show⟨u,rfl,z,k h o _ v i W⟩
 .cases b⟩
def z9{pos:a0u}(L:PI X tg iter (tMI X.K y))(K:QG X tg g)(I:QB X body x)(M:a6w (Y5 X.prog X.w) X.A X.env X.xe)(hc:X.calm=d7)(N:gC iter=d7):
  QS X (.For tg iter body [] pos) (b8 y g x):=⟨kF (Kl M hc L K.h I.h<|by intro z;cases iter<;>first|rfl|cases N)<|by
 rintro E Y H ⟨T,U,Q,w,u,r,R,v,o,k⟩;obtain⟨⟨p,n,l⟩,G,o⟩:=Yv.mp o;show⟨T,U,Q,p,n,l,R,v,G,λs A J i B W=>?_⟩;have O:nU X.K E s l.length A w u r:=by
  cases w with
  |nx=>show λa b e j h c=>k a b e (i.trans j) h c|bk=>show λa b e j h c=>k a b e (i.trans j) h c|ct=>show λa b e j h c=>k a b e (i.trans j) h c|rt d=>show KC.after k i
 show M8 W O .refl B (v.mono i) o⟩
abbrev Aa(put:D->D->D->Hm->Option Hm)(o i v:ME):MS:=λa b=>(v a b).bind λp=>(o a p.2).bind λq=>(i a q.2).bind λr=>(put q.1 r.1 p.1 r.2).map λμ'=>(.nx,a,μ')
abbrev rX:D->D->D->Hm->Option Hm
 |.loc a,y,d,μ=>match μ[a]? with
  |some (.dT kvs)=>(cY y).bind λk=>if kvs.length<YM then b0 (μ.set a<|.dT<|bW kvs k d)else b5|_=>b5
 |_,_,_,_=>b5
abbrev rY:D->D->D->Hm->Option Hm:=rX
abbrev i7:=Aa rY
def EJ:QS X st (aL i cG):=⟨λb0Z s σ H D I q=>by
 obtain⟨g,h,e,d,c,b,R,E,a,k⟩:=q;cases a⟩
abbrev kT(a:Hm)(x:D):List D->Option (List Bool)
 |[]=>b0 []|y::r=>(eE 8 a y x).bind λb=>(kT a x r).map λc=>b::c
abbrev qA:D->List D->Hm->jk
 |.loc a,[x],μ=>match μ[a]? with
  |some (.lst xs)=>(kT μ x xs).bind λbs=>if bs.findIdx id<bs.length/\bs.length<=YM then b0 (.int (bs.findIdx id:Nat),μ)else b5|_=>b5
 |_,_,_=>b5
abbrev EK(K:Yx):V->gz->Hp->VK->Prop:=λx vs H Q=>∃π b a xs y c bs,Rp K π H b/\x=.ref (π a)/\vs=[y]/\b[a]?=b0 (.lst xs)/\IsD K π b.length H y c/\kT b c xs=b0 bs/\bs.findIdx id<bs.length/\Q (.int (bs.findIdx id:Nat)) H
def P4:i6 K qA (EK K):=by
 intro b H o x ds d p v r Q R j i a k;unfold qA at a;split at a
 .split at a
  .rename_i n g;obtain⟨bs,c,a⟩:=Yv.mp a;split at a
   .rename_i e;cases a;cases i with
    |cons h l=>cases l;cases j;show⟨b,o,_,n,_,_,bs,R,rfl,rfl,g,h,c,e.1,k b _ H .refl R<|.int _⟩
   .cases a
  .cases a
 .cases a
def EL{σ:St}(I:Inv X b0Z σ H s)(R:Rp X.K π H i)(Z:A.units+8<a0k)(rx:RelV x v)(ix:IsD X.K π i.length H x n):
  ∀{e}{vs}{us}{bs},IsDs X.K π i.length H vs e->Vals vs us->kT i n e=b0 bs->
   ∃g,(∀u∈us,a2z A s u v (g u))/\us.map g=bs:=by
 classical
 intro e vs us bs k l d
 have p:∀{e:List D}{vs:gz}{us:gw}{bs:List Bool},IsDs X.K π i.length H vs e->Vals vs us->kT i n e=b0 bs->(∀u∈us,∃c,a2z A s u v c/\∃w o,RelV w u/\IsD X.K π i.length H w o/\eE 8 i o n=b0 c):=by
  intro e
  induction e with
  |nil=>
   intro vs us b k l d u a
   cases k
   cases l
   cases a
  |cons y e M=>
   intro vs us b k l d u a
   cases k with
   |cons h t=>
    cases l with
    |cons r rt=>
     obtain⟨c,G,d⟩:=Yv.mp d
     obtain⟨T,K,d⟩:=YB.mp d
     rcases Zm.mp a with rfl|a
     .show⟨c,yQ I R 8 Z r rx h ix G,_,_,r,h,G⟩
     .show M t rt K u a
 have B:=p k l d
 show⟨λu=>if h:u∈us then a2e (B u h)else dI,λu a=>?_,?_⟩
 .simp only[dif_pos a]
  show(a2G<|B u a).1
 .have N:∀u (h:u∈us) w o c,RelV w u->IsD X.K π i.length H w o->eE 8 i o n=b0 c->a2e (B u h)=c:=by
   intro u h w o c O iw Q
   obtain⟨_,w2,U,r2,i2,Y⟩:=a2G<|B u h
   have:w2=w:=r2.inj O
   subst this
   have:=zG I R i2 iw
   subst this
   rw[Y]at Q
   show YX Q
  have E:∀{e:List D}{vs:gz}{j:gw}{bs:List Bool},(∀u∈j,u∈us)->IsDs X.K π i.length H vs e->Vals vs j->kT i n e=b0 bs->j.map (λu=>if h:u∈us then a2e (B u h)else dI)=bs:=by
   intro e
   induction e with
   |nil=>
    intro vs j b L k l d
    cases k
    cases l
    cases d
    rfl
   |cons y e M=>
    intro vs j b L k l d
    cases k with
    |cons h t=>
     cases l with
     |@cons _ u _ us2 r rt=>
      obtain⟨c,G,d⟩:=Yv.mp d
      obtain⟨T,K,d⟩:=YB.mp d
      have fK:u∈us:=L u<|Zs ..
      rw[Za,M (λz hz=>L z<|Zl _ hz) t rt K,dif_pos fK,N u fK _ _ c r h G]
      show d
  show E (λ_ h=>h) k l d
def P5(hu:X.A.units+20<a0k):jK X "list.index" (EK X.K):=by
 intro E s σ H x vs v us Q I Z Y h
 obtain⟨π,μ,a,xs,y,dy,bs,R,rfl,rfl,N,T,M,p,q⟩:=h
 cases Z
 obtain⟨u,rfl,U⟩:=Y.one
 obtain⟨ws,K,hd⟩:=R.lst a xs N
 obtain⟨z,b,n,r,hl,e⟩:=I.lstM K
 obtain⟨g,G,B⟩:=EL I R (A:=X.A.in1) (by rw[iY];lia) U T hd r M
 have j:bs.length=b.length:=by rw[<- B,Yu]
 have w:bs.findIdx id<b.toArray.size:=by rw[YI,<- j];show p
 have c:∀m (o:m<b.length),bs[m]?=b0 (g b[m]):=λm o=>by
  rw[<- B,YU,Yz o];rfl
 have small:((bs.findIdx id:Nat):Int)<2^63-1:=by
  have k:bs.findIdx id<b.length:=by simpa using w
  have d:=nR
  have i:(bs.findIdx id:Nat)<YM:=by lia
  have l:((YM:Nat):Int)<=2^63-1:=by decide
  lia
 show a4F F.slot_list_index ⟨_,e,rfl⟩ F.entry_list_index (F.args_list_index_2 _ _) (SeqAt.list_indexAt (π a) b.toArray n b5 #[] u g (bs.findIdx id) w small ?_ ?_) ⟨e,λy O=>G y<|by simpa using O,⟨.int (bs.findIdx id:Nat),H,I.tok _,⟨_,rfl⟩,q⟩⟩
 .have k:bs.findIdx id<b.length:=by simpa using w
  have d:=a7y (p:=id) (xs:=bs) (w:=p)
  have i:=c _ k
  rw[Yz p]at i
  have l:=YX i
  rw[l]at d
  simpa using d
 .intro m o A
  have k:m<b.length:=by simpa using o
  have d:=a6S (p:=id) (xs:=bs) A
  have i:=c _ k
  have L:m<bs.length:=by lia
  rw[Yz L]at i
  have l:=YX i
  rw[l]at d
  simpa using d
def P6:a5E (.type "list_reverseiterator") "__len__"=pure none:=by rw[a6J,a4O];kernel_rfl
def P7:a5E (.type "list_reverseiterator") "__length_hint__"=pure (b0<|.builtin "list_reverseiterator.__length_hint__"):=by rw[a6J,a4O];kernel_rfl
def P8(b:s.TypeIs (.ref r) "list_reverseiterator")(h:Q dI s):Y6 (Y5 prog w) A (a4Q<|.ref r) Q E s:=by unfold a4Q;show Yw<|a2M b P6 ?_;dsimp only;show a2h (λa=>absurd a<|by decide +kernel) λ_=>?_;show a2h (λa=>absurd a<|by decide) λ_=>?_;show Yw<|a2M b P7 ?_;generalize bL:("list_reverseiterator.__length_hint__":String)=id0;wp_delta;rw[show splitId id0=b0 ("list_reverseiterator","__length_hint__")from by subst bL;decide +kernel];subst bL;show Yw (a3r (T:="list_reverseiterator") (b:=d7) b (by rw[isSubtype_type];kernel_rfl) ?_);show a2h (λa=>absurd a<|by decide) λ_=>?_;show a2h (λ_=>?_) (λa=>absurd (by decide +kernel) a);show a2h (λa=>absurd a<|by decide +kernel) λ_=>?_;show YH h
def P9(hh:A.handled=b5)(hit:s.heap.IsRevIter p a ((its.size:Int)-1))(hl:s.heap.IsList a its)(I:a≠p)S(r:S≠p)(B:S≠a)res j(Z:s.heap.get? S=b0 {cls:=.type "list",data:=.seq #[] j})(Y:∀y tk c n,(∀b o,b≠S->b≠p->s.heap.get? b=b0 o->y.get? b=b0 o)->y.get? S=b0 {cls:=.type "list",dict:=b5,data:=.seq c n,slots:=#[]}->ItemsOf (λi v=>its[its.size-1-i]?=b0 v) c its.size->R (.ok<|.ret res) {s with heap:=y,toks:=tk})(hn:its.size<=YM):
  Y6 (Y5 prog w) A.in1 (a0F (.ref S) (.ref p) res)
   (λfin l=>match fin with|.done f=>R (.ok f) l|.again n=>n.quiet=d7/\a2y (Y5 prog w) A n R l) (λe l=>R (.error e) l) s:=by
 have G:S∉[p,a]:=by simp only[Zm,a1p,or_false,not_or];show⟨r,B⟩
 have W:=Walks.listRev (prog:=prog) (w:=w) (A:=A.in1) hh p a I its;have M:∀(h:ZX)(d tk:Nat),h.IsRevIter p a ((its.size:Int)-1)->h.IsList a its->(∀b o,b≠S->s.heap.get? b=b0 o->h.get? b=b0 o)->
   h.get? S=b0 {cls:=.type "list",data:=.seq #[] d}->a2y (Y5 prog w) A (.builtin "list.extend.loop" ⟨[.ref S,.ref p,res],[]⟩) R {s with heap:=h,toks:=tk}:=by
  intro h d tk L x hk k;show codeAny_extend_loopS W.toS hn S G res its.size 0 _ #[] d rfl (a0d _) ⟨a0d _,by simpa using L,x⟩ k (ItemsOf.nil _) λl c n O z u=>?_;rw[Moved.eq_with O];show Y l.heap l.toks c n (λb o N K e=>O.heap b o (λg=>?_)<|hk b o N e) z u;rcases Zm.mp g with Q|g
  .show N Q
  .show K<|YL.mp g
 unfold a0F;show Yw<|a4D (T:="list_reverseiterator") hit.typeIs ?_;have T:a2f (.ref S) (.ref p)=false:=by simp[a2f,r]
 have U:(Y8 "list_reverseiterator"==Y8 "list")=false:=by decide +kernel
 have X:(Y8 "list_reverseiterator"==Y8 "tuple")=false:=by decide +kernel
 simp only[T,U,X,a4R,Zf,if_false];show Yw<|a4V hit ?_;show Yw<|Zz<|P8 hit.typeIs ?_;show a2h (λH=>absurd H<|by decide +kernel) λ_=>YH ⟨Z8 PySem.F.plain_extend_loop _,?_⟩;show M _ j s.toks hit hl (λb o _ e=>e) Z
def Qa(K:A.handled=b5)(hit:s.heap.IsRevIter p a ((its.size:Int)-1))(M:s.heap.IsList a its)(B:a≠p)S(l:S≠p)(k:S≠a)(y:s.heap.get? S=b0 {cls:=.type "list",data:=.seq #[]})(I:∀j H c h,(∀b o,b≠S->b≠p->s.heap.get? b=b0 o->j.get? b=b0 o)->j.get? S=b0 {cls:=.type "list",dict:=b5,data:=.seq c h,slots:=#[]}->ItemsOf (λi v=>its[its.size-1-i]?=b0 v) c its.size->R (.ok<|.ret .none) {s with heap:=j,toks:=H})(N:its.size<=YM):
  Y6 (Y5 prog w) A.in1 (Builtin.«list.__init__» ⟨[.ref S,.ref p],[]⟩)
   (λfin u=>match fin with|.done f=>R (.ok f) u|.again h=>h.quiet=d7/\a2y (Y5 prog w) A h R u) (λe u=>R (.error e) u) s:=by
 change Y6 _ _ (do let old <- a5B (.ref S);b0G (.ref S) λ_=>#[];letGo old.toList.reverse;a0F (.ref S) (.ref p) .none) _ _ s;show Yw ?_;unfold a5B;show Yw<|a1B y rfl<|YH ?_;change Y6 _ _ (a3s S (λ_=>#[]) >>= λ_=>letGo (#[]:Array Value).toList.reverse >>= λ_=>a0F (.ref S) (.ref p) .none) _ _ s;show Yw<|a0q y rfl ?_;have d:=ZN (ZW λ_=>(#[]:Array Value)) y rfl;have g:∀b o,b≠S->s.heap.get? b=b0 o->(s.heap.update S<|ZW λ_=>(#[]:Array Value)).get? b=b0 o:=
  λb o r e=>(ZI _ _<|ZJ r).trans e
 show Yw<|a1z ?_;show P9 K (hit.at λo e=>g p o (ZJ l) e) (let⟨o,O,x⟩:=M;⟨o,g a o (ZJ k) O,x⟩) B S l k .none _ d (λj H c h L z n=>?_) N;show I j H c h (λb o r G e=>L b o r G<|g b o r e) z n
def Qb(K:A.handled=b5)(hit:s.heap.IsRevIter p a ((its.size:Int)-1))(B:s.heap.IsList a its)(u:a≠p)(M:its.size<=YM)(G:∀g y c n,(∀b o,b≠p->s.heap.get? b=b0 o->g.get? b=b0 o)->g.get? s.heap.objs.size=b0 {cls:=.type "list",dict:=b5,data:=.seq c n,slots:=#[]}->ItemsOf (λi v=>its[its.size-1-i]?=b0 v) c its.size->Q (.ref s.heap.objs.size) {s with heap:=g,toks:=y}):
  Y6 (Y5 prog w) A (call (.type "list") [.ref p]) Q E s:=by
 show b0X (Q₁:=λl d=>l=.ref s.heap.objs.size/\d={s with heap:=s.heap.push {cls:=.type "list",data:=.seq #[]}}) PySem.F.called_list (PySem.F.typeCall_list_1 _) PySem.F.entry_list_init
  (code_list_new _ ⟨rfl,rfl⟩) λl d k=>?_
 obtain⟨rfl,rfl⟩:=k;have z:(s.heap.push {cls:=.type "list",data:=.seq #[]}).get? s.heap.objs.size=b0 {cls:=.type "list",data:=.seq #[]}:=YR _ rfl;have N:p<s.heap.objs.size:=let⟨o,j,_⟩:=hit;YJ j;have H:a<s.heap.objs.size:=let⟨o,j,_⟩:=B;YJ j;show⟨⟨_,z,rfl⟩,PySem.F.args_list_init_2 _ _,Qa (A:=A.in1) K (hit.at λo e=>YC _ e) (let⟨o,j,x⟩:=B;⟨o,YC _ j,x⟩) u _ (a0r N) (a0r H) z (λg y c n L r h=>?_) M⟩;show⟨rfl,G g y c n (λb o I e=>L b o (Y7<|YJ e) I<|YC _ e) r h⟩
abbrev EM(K:Yx):gz->Hp->VK->Prop:=λxs H Q=>∃(p:Addr)(a:gz),xs=[.ref p]/\SqL K H p a/\∀l,H l=b5->Q (.ref l) (upd H l<|.lst a.reverse)
def EO:∀{a}{its},Vals a its->Vals a.reverse its.reverse
 |_,_,.nil=>.nil|_,_,.cons h t=>by rw[a2P,a2P];show(EO t).append<|.cons h .nil
def Qd{pos:a0u}(hc:X.calm=d7)(R:Gl X "list")(U:X.mg "list"=b5)(v:Gl X "reversed")(y:X.mg "reversed"=b5)(O:PA X [e] t)(Z:Zo [e] X.env=(dI,eval e X.env)::Zo [] X.env):
  PE X (.Call (.Name "list" p) [.Call (.Name "reversed" K) [e] [] d] [] pos) (t7 (EM X.K) t):=by
 intro n s σ H Q I h;show a1d (hZ I R U a2T ?_ (by decide)<|by decide);show Z4 ?_ rfl rfl;change Y6 _ _ (spliced<|(dI,eval (.Call (.Name "reversed" K) [e] [] d) X.env)::a1C pos (Zo [] X.env)) _ _ s;show a3F (a1d<|hZ I v y a8o ?_ (by decide)<|by decide);show Z4 (aV (O d n s σ H _ I h) λus j ⟨vs,H1,l,r1,q1⟩=>?_) Z rfl;obtain⟨q,ys,rfl,Y,k⟩:=q1;obtain⟨u,rfl,ru⟩:=fH r1;cases ru;obtain⟨a,L,pl,hz⟩:=l.list Y;have G:=L.length;have w:=pl.isList;have A:q<j.heap.objs.size:=let⟨o,z,_⟩:=w;YJ z;show a9y w ?_;show a3M ?_;show Qb (l.ok.hd hc) (p:=j.heap.objs.size) (a:=q) (its:=a.toArray) ⟨_,YR _ rfl,rfl,rfl⟩ (let⟨o,z,x⟩:=w;⟨o,YC _ z,x⟩) (Y7 A) (by simp only[YI]<;>lia) λh' tk c M kp E g=>?_;have r:c.toList=a.reverse:=by
  show a3R λi=>?_;have hn:c.size=a.length:=by simpa using g.1
  by_cases T:i<a.length
  .have N:=g.2 i c[i] (a3L<|by omega);rw[a0o,a3L<|by lia,<- N,a0c T,YI,a0b]
  .rw[a0E<|by rw[a1I];lia,a0E<|by rw[ZP];lia]
 have B:(j.heap.push<|revObj q<|(a.toArray.size:Int)-1).objs.size=j.heap.objs.size+1:=by simp[Heap.push]
 rw[B]at E ⊢;show⟨.ref<|j.heap.objs.size+1,_,l.laid (t':=tk) (a:=j.heap.objs.size+1) (o:=.lst ys.reverse) (λb o e=>kp b o (Y7<|YJ e)<|YC _ e) ⋯ ⟨by rw[ZP];show hz,a.reverse,M,EO L,by rw[<- r];simpa using E⟩,rfl,k _<|l.hok.fresh<|by lia⟩
abbrev mS:MF:=λds b=>match ds with
 |[.loc a]=>match b[a]? with
  |some (.lst xs)=>b0 (.loc b.length,b++[.lst xs.reverse])|_=>b5
 |_=>b5
def Qe:dW K mS (EM K):=by
 intro v H u s d p r Q R i b k;unfold mS at b;split at b
 .rename_i a;split at b
  .rename_i e o;cases b;cases i with
   |cons i t=>cases t;cases i;obtain⟨c,h,j⟩:=R.lst a e o;show⟨_,c,rfl,.of h,λl n=>?_⟩;obtain⟨g,R2,_⟩:=R.alloc (c:=.lst e.reverse) (o:=.lst c.reverse) n<|OO j;show k _ _ _ g R2 kI
  .cases b
 .cases b
def Qf{pos:a0u}(hc:X.calm=d7)(d:X.mg "list"=b5)(g:X.mg "reversed"=b5)(h:QA X [e] ms n)(b:Gl X "list")(c:Gl X "reversed"):
  QE X (.Call (.Name "list" p) [.Call (.Name "reversed" j) [e] [] a] [] pos) (aG mS ms):=by
 have i:=h.s;rw[ZD,YK]at i;show⟨dJ (Qd hc b d c g h.h<|fL i.1)<|yK Qe⟩
abbrev Ab(lo c:Int)(n:Nat):It:=⟨λi _=>i<n,λi H x a=>a=H/\x=.int (lo+(i:Nat)*c),λi _=>n<=i⟩
def Qg a lo c n:Turn Qc P w K tg (Ab lo c n) [a] a (λi h=>a3E h a (lo+(i:Nat)*c) ((n:Int)-(i:Nat)) c) where
 mem:=by simp
 obj:=λi h st b d=>by
  have e:b=a:=by simpa using d
  subst e;show⟨_,st,λv z=>by
   have Y:ZM _=a4c v:=z;cases Y⟩
 keep:=λi h l st k=>k a (by simp) _ st;item:=by intro X G hw B hc i g s N H E I p st L;subst G hw B;obtain⟨r,u,R,x,y,A⟩:=p a (by simp);have W:=a9N (prog:=X.prog) (w:=X.w) (I.ok.hd hc) a lo c n;show W.item i s _ _ L st λv l M T j U=>?_;obtain⟨t,rfl⟩:=T;have O:Inv X g N H {s with heap:=l,toks:=M}:=I.turned (λb o d e=>U b o (by simpa using d) e) r u x y A;show⟨_,rfl,o9 (s:={s with heap:=l,toks:=M}) (n:="range_iterator") j rfl rfl (by decide) ⟨.int<|lo+(i:Nat)*c,H,O,⟨t,rfl⟩,⟨rfl,rfl⟩,j,λb d=>(p b d).1⟩⟩
 done:=by intro X G hw B hc i g s N H E I p st L;subst G hw B;obtain⟨r,u,R,x,y,A⟩:=p a (by simp);show a8f (I.ok.hd hc) st (by have:n<=i:=L;lia) λl Q=>⟨rfl,I.turned (t':=s.toks) (λb o d e=>Q b o d e) r u x y A⟩
 self:=λ_ _ _ _ _ st h=>a8h st h
abbrev vC(a b c:Int):Bool:=b0l a b c&&decide (c≠0)&&decide (c.natAbs<1073741824)&&decide (0<=ZQ a b c)
abbrev Qh(e:TA):TI:=λσ H R=>e σ H λvs d=>∃a b c:Int,vs=[.int a,.int b,.int c]/\vC a b c=d7/\R (Ab a c (ZQ a b c).toNat) d
open PyProof.Rows in
def Qi{X:Cx}{tg a b c:Expr}{G:TA}{p pos:a0u}(T:Gl X "range") (U:X.mg "range"=b5) (O:PA X [a,b,c] G)(Z:Zo [a,b,c] X.env=(dI,eval a X.env)::Zo [b,c] X.env)(z:(a1C pos<|Zo [b,c] X.env).any (·.1)=dI) :
  PI X tg (.Call (.Name "range" p) [a,b,c] [] pos) (Qh G):=by
 intro n s K H R I h;show a9W<|hZ I T U a9B<|Z4 (aV (O pos n s K H _ I h) λus l ⟨vs,E,L,r1,q1⟩=>?_) Z z;obtain⟨i,j,k,e,g,q⟩:=q1;subst e;unfold vC at g;rw[YK,YK,YK,decide_eq_true_eq,decide_eq_true_eq,decide_eq_true_eq]at g;obtain⟨⟨⟨A,x⟩,y⟩,Y⟩:=g;cases r1 with
 |cons r u=>
  cases u with
  |cons r' u=>
   cases u with
   |cons B u=>
    cases u;obtain⟨t,rfl⟩:=r;obtain⟨v,rfl⟩:=r';obtain⟨d,rfl⟩:=B;show call_range_3 x ?_<|.inl<|PyProof.noPylong_small y;show a9s (a9n ..) A ?_;have w:Inv X n K E {l with heap:=l.heap.push {cls:=.type "range",data:=.fields #[.int i t,.int j v,.int k d]},toks:=l.toks}:=L.kept λb o e=>YC _ e;show⟨(l.heap.push {cls:=.type "range",data:=.fields #[.int i t,.int j v,.int k d]}).objs.size,[(l.heap.push {cls:=.type "range",data:=.fields #[.int i t,.int j v,.int k d]}).objs.size],_,_,E,rfl,
     w.kept (t':=l.toks) λb o e=>YC _ e,Qg _ i k (ZQ i j k).toNat,?_,λb Q=>?_,q⟩
    .have M:i+((0:Nat):Int)*k=i:=by simp
     have N:(((ZQ i j k).toNat:Nat):Int)-((0:Nat):Int)=ZQ i j k:=by lia
     change a3E _ _ (i+((0:Nat):Int)*k) ((((ZQ i j k).toNat:Nat):Int)-((0:Nat):Int)) k;rw[M,N];show YR _ rfl
    .have e:b=(l.heap.push {cls:=.type "range",data:=.fields #[.int i t,.int j v,.int k d]}).objs.size:=by simpa using Q
     subst e;show w.fpOk (YG _)<|w.hok.fresh<|YG _
abbrev Ac(lo c:Int)(n:Nat):eX:=λ_ i=>b0<|if i<n then b0 (.int<|lo+(i:Nat)*c)else b5
def Qj:Wk K (Ab lo c k) (Ac lo c k) π n H:=by
 show⟨λb o g i e R z=>?_,λb o g i d e R z=>?_⟩
 .have a:=YX z;split at a
  .cases a
  .show a3I.mp<|by assumption
 .have a:=YX z;split at a
  .cases a;rename_i h;show⟨h,λx p ⟨j,l⟩=>by subst j;rw[l];show⟨.refl,R,.int _⟩⟩
  .cases a
abbrev qB(ms:MA):MI:=λb a=>(ms b a).bind λp=>match p.1 with
 |[.int i,.int j,.int c]=>if vC i j c=d7 then b0 (Ac i c (ZQ i j c).toNat,(ZQ i j c).toNat+1,p.2)else b5|_=>b5
def Qk{pos:a0u}(e:Gl X "range")(g:X.mg "range"=b5)(u:QA X [a,b,c] ms n):QJ X (.Call (.Name "range" p) [a,b,c] [] pos) (qB ms):=⟨λtg b0Z s σ H R I hw=>by
 have h:=u.s;rw[ZD,YK]at h;obtain⟨U,Y,Q,L,Z,T,y,E,d,k⟩:=hw;obtain⟨⟨x,o⟩,A,d⟩:=Yv.mp d;show Qi e g u.h (fL h.1) (mL h.2) b0Z s σ H R I ⟨U,Y,Q,x,o,y,E,A,λr vs v z w l=>?_⟩;dsimp only at d;split at d
 .rename_i i j c;split at d
  .rename_i B;cases d;cases l with
   |cons l M=>
    cases l;cases M with
    |cons G N=>
     cases G;cases N with
     |cons K O=>cases K;cases O;show⟨i,j,c,rfl,B,k r v _ z w Qj⟩
  .cases d
 .cases d⟩
abbrev Ad(K:Yx)(a:Addr)(n:Nat):It:=⟨λi H=>i<n/\∃xs x,SqL K H a xs/\xs[n-1-i]?=b0 x,λi H x b=>b=H/\∀xs,SqL K H a xs->xs[n-1-i]?=b0 x,λi _=>i=n⟩
def Ql a j n:Turn Qc P w K tg (Ad K a n) [j] j (λi h=>h.IsRevIter j a<|(n:Int)-1-(i:Nat)) where
 mem:=by simp
 obj:=λi h st b g=>by
  have e:b=j:=by simpa using g
  subst e;obtain⟨o,e,c,d⟩:=st;show⟨o,e,λv z=>by rw[d]at z;cases z⟩
 keep:=λi h y st k=>st.at λo e=>k j (by simp) o e;item:=by
  intro X Q hw O hc i r s Z H E I A st R;subst Q hw O;obtain⟨hi,xs,x,U,Y⟩:=R;obtain⟨its,rv,p,hz⟩:=I.list U;obtain⟨u,hu,ru⟩:=rv.get Y;obtain⟨B,G,f2,L,M,N⟩:=A j (by simp);have T:(n:Int)-1-(i:Nat)=((n-1-i:Nat):Int):=by omega
  rw[T]at st;show wpAny_pyNext_rev_item st p.isList (x:=u) (by simpa using hu) λy l sb=>?_;have I1:Inv X r Z H {s with heap:=y}:=I.turned (t':=s.toks) (λb o g e=>(sb.2 b g).trans e) B G L M N;rw[<- T,show(n:Int)-1-(i:Nat)-1=(n:Int)-1-((i+1:Nat):Nat) by lia]at l;obtain⟨o,e,c,d⟩:=id l;show⟨u,rfl,o9 (s:={s with heap:=y}) e c d (by decide) ⟨x,H,I1,ru,⟨rfl,λys hy=>by rw[I.list_inj hy U];show Y⟩,l,λb g=>(A b g).1⟩⟩
 done:=by intro X Q hw O hc i r s Z H E I A st R;subst Q hw O;have hg':i=n:=R;obtain⟨B,G,f2,L,M,N⟩:=A j (by simp);rw[show(n:Int)-1-(i:Nat)=-1 by lia]at st;show wpAny_pyNext_rev_end (I.ok.hd hc) st λy eb=>⟨rfl,I.turned (t':=s.toks) (λb o g e=>eb b o g e) B G L M N⟩
 self:=λ_ _ _ _ _ st h=>a4V st h
abbrev Qm(K:Yx)(c:TA):TI:=λσ H R=>c σ H λvs b=>∃a xs,vs=[.ref a]/\SqL K b a xs/\R (Ad K a xs.length) b
open PyProof.Rows in
def Qn{X:Cx}{tg a:Expr}{n:TA}{p pos:a0u}(x:Gl X "reversed") (y:X.mg "reversed"=b5) (v:PA X [a] n)(A:Zo [a] X.env=[(dI,eval a X.env)]):PI X tg (.Call (.Name "reversed" p) [a] [] pos) (Qm X.K n):=by
 intro j s M H R I h;show a9W<|hZ I x y Boot.«reversed»<|callWith_type1 (aV (v pos j s M H _ I h) λO d ⟨Q,r,g,G,E⟩=>?_) A rfl;obtain⟨i,k,rfl,z,q⟩:=E;obtain⟨u,rfl,K⟩:=fH G;cases K;obtain⟨c,L,B,N⟩:=g.list z;have l:=L.length;show a9y B.isList ?_;have hit:(d.heap.push<|revObj i<|(c.toArray.size:Int)-1).IsRevIter d.heap.objs.size i ((c.toArray.size:Int)-1):=⟨_,YR _ rfl,rfl,rfl⟩;show a4V hit ?_;show⟨d.heap.objs.size,[d.heap.objs.size],_,_,r,rfl,g.kept (t':=d.toks) λb o e=>YC _ e,Ql i _ k.length,?_,λb w=>?_,q⟩
 .have e:(k.length:Int)-1-((0:Nat):Int)=(c.toArray.size:Int)-1:=by simp only[YI];lia
  change Heap.IsRevIter _ _ _ ((k.length:Int)-1-((0:Nat):Int));rw[e];show hit
 .have e:b=d.heap.objs.size:=by simpa using w
  subst e;show g.fpOk (YG _)<|g.hok.fresh<|YG _
abbrev kU(a n:Nat):eX:=λb i=>match b[a]? with
 |some (.lst xs)=>if i<n then(xs[n-1-i]?).map b0 else if i=n then b0 b5 else b5|_=>b5
def Qo(u:a<n):Wk K (Ad K (π a) k) (kU a k) π n H:=by
 show⟨λc G l i e R z=>?_,λc G l i d e R z=>?_⟩
 .unfold kU at z;split at z
  .split at z
   .obtain⟨y,_,h⟩:=YB.mp z;cases h
   .split at z
    .assumption
    .cases z
  .cases z
 .unfold kU at z;split at z
  .rename_i E A;split at z
   .rename_i x;obtain⟨y,B,h⟩:=YB.mp z;cases h;obtain⟨j,b,r⟩:=R.lst a E A;rw[e.pi a u]at b;obtain⟨w,g,s⟩:=r.get B;show⟨⟨x,j,w,.of b,g⟩,λv I ⟨o,p⟩=>?_⟩;subst o;have:=p j<|.of b;rw[g]at this;cases this;show⟨.refl,R,s⟩
   .split at z
    .cases z
    .cases z
  .cases z
abbrev rZ(ms:MA):MI:=λc b=>(ms c b).bind λp=>match p.1 with
 |[.loc a]=>match p.2[a]? with
  |some (.lst xs)=>b0 (kU a xs.length,xs.length+1,p.2)|_=>b5
 |_=>b5
def Qp{pos:a0u}(d:Gl X "reversed")(e:X.mg "reversed"=b5)(l:QA X [a] ms n):QJ X (.Call (.Name "reversed" p) [a] [] pos) (rZ ms):=⟨λtg b0Z s σ H R I hw=>by
 have o:=l.s;rw[ZD,YK]at o;obtain⟨Q,T,N,G,U,O,v,E,c,k⟩:=hw;obtain⟨⟨x,h⟩,y,c⟩:=Yv.mp c;show Qn d e l.h (fL o.1) b0Z s σ H R I ⟨Q,T,N,x,h,v,E,y,λi Y u w j g=>?_⟩;dsimp only at c;split at c
 .rename_i b;split at c
  .rename_i M r;cases c;cases g with
   |cons g K=>cases K;cases g;obtain⟨L,z,A⟩:=j.lst b M r;have B:=(Yy.mp r).1;show⟨_,L,rfl,.of z,?_⟩;rw[A.length];show k i u _ w j<|Qo B
  .cases c
 .cases c⟩
noncomputable abbrev bM:=List<|List Int×Addr×V
abbrev bR(ps:bM)(ws:gw):List (List Int×Addr×Value):=a4h (λp w=>(p.1,p.2.1,w)) ps ws
def vD:∀(ps:bM)(ws:gw),a4h uC ps ws=(bR ps ws).map (a5H<|a2i<|a1P P w)
 |[],_=>by simp[bR]
 |p::ps,[]=>by simp[bR]
 |p::ps,u::ws=>by have a:=vD (P:=P) (w:=w) ps ws;unfold bR at a ⊢;rw[ZF,ZF,Za,a];rfl
def lU:∀{ps}{ws},Vals (ps.map (·.2.2)) ws->(bR ps ws).map (·.1)=ps.map (·.1)
 |[],_,_=>by simp[bR]
 |p::ps,_,.cons r t=>by have a:=lU (ps:=ps) t;unfold bR at a ⊢;rw[ZF,Za,Za,a]
def Ae:∀{ps}{ws}{x},x∈bR ps ws->∃p∈ps,p.1=x.1/\p.2.1=x.2.1
 |[],_,x,h=>by simp[bR]at h
 |p::ps,[],x,h=>by simp[bR]at h
 |p::ps,u::ws,x,h=>by
  unfold bR at h;rw[ZF]at h;rcases Zm.mp h with e|h
  .subst e;show⟨p,Zs ..,rfl,rfl⟩
  .obtain⟨q,a,e⟩:=Ae (ps:=ps) (ws:=ws) h;show⟨q,Zl _ a,e⟩
abbrev eJ(ps:bM)(k:List Int):Option V:=(ps.find? λp=>decide<|p.1=k).map (·.2.2)
abbrev dS(ps:bM)(k:List Int)(b:Addr)(v:V):bM:=if(eJ ps k).isSome then ps.map (λp=>if p.1=k then(p.1,p.2.1,v)else p)else ps++[(k,b,v)]
def oH:∀{ps}{ws},Vals (ps.map (·.2.2)) ws->∀k,RelO (eJ ps k) ((a4v (bR ps ws) k).map (·.2))
 |[],_,.nil,k=>by simp[eJ,bR,a4v];show a1Q
 |p::ps,_,.cons r t,k=>by
  have a:=oH (ps:=ps) t k;unfold eJ a4v bR at a ⊢;rw[ZF,ZZ,ZZ];by_cases e:p.1=k
  .simp only[e,decide_true];show r
  .simp only[e,decide_false];show a
def r6 ps k b v:(dS ps k b v).length<=ps.length+1:=by unfold dS;split<;>simp
def ER(d:RelV v u):∀{ps}{ws},Vals (ps.map (·.2.2)) ws->
  ∃a,Vals ((ps.map λp=>if p.1=k then(p.1,p.2.1,v)else p).map (·.2.2)) a/\(bR ps ws).map (putAt k u)=bR (ps.map λp=>if p.1=k then(p.1,p.2.1,v)else p) a
 |[],_,.nil=>⟨[],.nil,by simp[bR]⟩|p::ps,_,.cons (b:=w) r t=>by
  obtain⟨a,c,b⟩:=ER d (ps:=ps) t;by_cases e:p.1=k
  .show⟨u::a,?_,?_⟩
   .rw[Za,Za,if_pos e];show .cons d c
   .unfold bR at b ⊢;rw[ZF,Za,b,Za,if_pos e,ZF];unfold putAt;rw[if_pos e]
  .show⟨w::a,?_,?_⟩
   .rw[Za,Za,if_neg e];show .cons r c
   .unfold bR at b ⊢;rw[ZF,Za,b,Za,if_neg e,ZF];unfold putAt;rw[if_neg e]
def ES:∀{ps}{ws},Vals (ps.map (·.2.2)) ws->bR ps ws++[(k,b,u)]=bR (ps++[(k,b,v)]) (ws++[u])
 |[],_,.nil=>by simp[bR]
 |p::ps,_,.cons r t=>by have a:=ES (k:=k) (b:=b) (v:=v) (u:=u) (ps:=ps) t;unfold bR at a ⊢;rw[ZF,a1N,a,a1N,a1N,ZF]
def vF(r:Vals (ps.map (·.2.2)) ws)k b(c:RelV v u):
  ∃a,Vals ((dS ps k b v).map (·.2.2)) a/\a3A (bR ps ws) k b u=bR (dS ps k b v) a:=by
 have e:=(oH r k).isSome_eq;rw[a3H]at e;unfold dS a3A;rw[e];by_cases h:(a4v (bR ps ws) k).isSome=d7
 .rw[if_pos h,if_pos h];show ER c r
 .rw[if_neg h,if_neg h];show⟨ws++[u],?_,ES r⟩;rw[YV];show a9C r c
abbrev dP(K:Yx)(H:Hp)(ps:bM):Prop:=∀p∈ps,SqT K H p.2.1 (p.1.map V.int)
def i8{σ:St}{ps:bM}(I:Inv X b0Z σ H s)(e:Rd H a (aQ a ps))(u:dP X.K H ps):(a==Z3)=dI/\ps.length<=YM /\
  ∃b,Vals (ps.map (·.2.2)) b/\s.heap.DictOfH (a2i<|a1P X.prog X.w) a (bR ps b):=by
 obtain⟨⟨b,r,y,v,o,h,g,i,j,k,l,n⟩,_⟩:=(show ObjOk X.prog X.w H s.heap a (aQ a ps)from e.ok I.hok);show⟨y,v,b,r,o,h,g,i,j,k,by rw[l];show vD ps b,λx z=>?_,by rw[lU r];show n⟩;obtain⟨p,w,c,d⟩:=Ae z;rw[<- c,<- d];show kP I<|u p w
def r8{ps:bM}(l:(a==Z3)=dI)(k:ps.length<=YM)(r:Vals (ps.map (·.2.2)) ws)(d:h'.DictOfH (a2i<|a1P P w) a (bR ps ws)):ObjOk P w n h' a (aQ a ps):=by obtain⟨o,e,c,b,g,h,i,_,j⟩:=d;show⟨⟨ws,r,l,k,o,e,c,b,g,h,by rw[i,vD (P:=P) (w:=w)],by rw[<- lU r];show j⟩,⟨o,b⟩,?_⟩;rintro u v ⟨ws,r,l,k,o,e,c,b,g,h,i,j⟩ p;show⟨ws,r,l,k,o,e,c,p o b,g,h,i,j⟩
def Qq{σ:St}{ps:bM}(I:Inv X b0Z σ H s)(e:Rd H a (aQ a ps))(b:dP X.K H ps):s.TypeIs (.ref a) "dict":=by obtain⟨_,_,c,_,d⟩:=i8 I e b;show d.typeIs
def oI{X:Cx}{A:Zi}(b:A.units+1<a0k):(a2i<|a1P X.prog X.w).room A.in1:=by change A.in1.units<a0k;rw[iY];lia
def Qr{σ:St}{ps:bM}(u:A.units+1<a0k)(I:Inv X b0Z σ H s)(e:Rd H a (aQ a ps))(n:dP X.K H ps)(l:SqT X.K H b (k.map V.int))(w:eJ ps k=b0 v)(h:∀c j,Inv X b0Z σ H j->RelV v c->Q c j):Y6 (Y5 X.prog X.w) A (a6P (.ref a)<|.ref b) Q E s:=by
 obtain⟨z,y,x,r,d⟩:=i8 I e n;obtain⟨c,hw,i⟩:=RelO.some_of (v:=v) (o:=(a4v (bR ps x) k).map (·.2)) (by rw[<- w];show oH r k);obtain⟨p,o,g⟩:=YB.mp hw;show wpAny_getItem_heap (oI u) (kP I l) d o ?_;rw[g];show h c _ (I.tok _) i
def Qs{σ:St}{ps:bM}(l:A.units+1<a0k)(I:Inv X b0Z σ H s)(e:Rd H a (aQ a ps))(i:dP X.K H ps)(g:SqT X.K H b (k.map V.int))(h:∀c,Inv X b0Z σ H c->Q (.bool (eJ ps k).isSome) c):Y6 (Y5 X.prog X.w) A (Z0 .In (.ref b)<|.ref a) Q E s:=by
 obtain⟨j,n,o,r,d⟩:=i8 I e i;show wpAny_in_heap (oI l) (kP I g) j d ?_;have q:=(oH r k).isSome_eq;rw[a3H]at q;rw[<- q];show h _<|I.tok _
def Qt{σ:St}{ps:bM}(l:A.units+1<a0k)(I:Inv X b0Z σ H s)(e:Rd H a (aQ a ps))(i:dP X.K H ps)(g:SqT X.K H b (k.map V.int))(h:∀c,Inv X b0Z σ H c->Q (.bool<|!(eJ ps k).isSome) c):Y6 (Y5 X.prog X.w) A (Z0 .NotIn (.ref b)<|.ref a) Q E s:=by
 obtain⟨j,n,o,r,d⟩:=i8 I e i;show b0s (oI l) (kP I g) j d ?_;have q:=(oH r k).isSome_eq;rw[a3H]at q;rw[<- q];show h _<|I.tok _
def Qu{σ:St}{ps:bM}(y:A.units+1<a0k)(I:Inv X b0Z σ H s)(e:H a=b0 (aQ a ps))(p:dP X.K H ps)(n:SqT X.K H b (k.map V.int))(hz:ps.length<YM)(G:RelV v u)(h:∀i,Inv X b0Z σ (upd H a<|aQ a<|dS ps k b v) i->Q () i):Y6 (Y5 X.prog X.w) A (setItem (.ref a) (.ref b) u) Q E s:=by
 obtain⟨x,M,K,r,d⟩:=i8 I (.of e) p;have z:(bR ps K).length<=YM:=by have:=congrArg ZE<|lU r;rw[Yu,Yu]at this;lia
 show wpAny_setItem_heap (hsz:=z) (oI y) (kP I n) d λl c g=>h _ ?_;obtain⟨L,B,j⟩:=vF r k b G;rw[j]at c;have o:∃q,l.get? a=b0 q:=let⟨q,_,_,w,_⟩:=c;⟨q,w⟩;show t8 I (by rw[e];show a1Q) g o<|r8 x (by have:=r6 ps k b v;lia) B c
abbrev IsTs(K:Yx)(π:Nat->Addr)(n:Nat)(H:Hp):bM->jx->Prop:=a3x λp q=>p.1=q.1/\SqT K H p.2.1 (p.1.map V.int)/\IsD K π n H p.2.2 q.2
def Qv{k:List Int}(h:IsD K π n H (.ref b) (.tup<|k.map D.int)):SqT K H b (k.map V.int):=by
 cases h with
 |tup q t=>rw[ints_of' t]at q;show q
def IsTs.of:∀{ps}{kvs},ps.map (·.1)=kvs.map (·.1)->IsDs K π n H (ps.map λp=>V.ref p.2.1) (kvs.map λk=>D.tup<|k.1.map D.int)->IsDs K π n H (ps.map (·.2.2)) (kvs.map (·.2))->IsTs K π n H ps kvs
 |[],[],_,_,_=>.nil|[],_::_,h,_,_=>by cases h
 |_::_,[],h,_,_=>by cases h
 |p::ps,q::kvs,h,h2,h3=>by
  cases h2 with
  |cons a b=>
   cases h3 with
   |cons c d=>rw[Za,Za,a7z]at h;show .cons ⟨h.1,?_,c⟩<|IsTs.of h.2 b d;rw[h.1];show Qv a
def IsTs.keys:∀{ps}{kvs},IsTs K π n H ps kvs->dP K H ps
 |_,_,.nil=>λp a=>nomatch a|_,_,.cons h t=>λp a=>by
  rcases Zm.mp a with e|a
  .subst e;show h.2.1
  .show IsTs.keys t p a
def IsTs.to:∀{ps}{kvs},IsTs K π n H ps kvs->ps.map (·.1)=kvs.map (·.1)/\IsDs K π n H (ps.map λp=>V.ref p.2.1) (kvs.map λk=>D.tup<|k.1.map D.int)/\IsDs K π n H (ps.map (·.2.2)) (kvs.map (·.2))
 |_,_,.nil=>⟨rfl,.nil,.nil⟩|_,_,.cons (a:=p) (b:=q) h t=>by obtain⟨a,b,c⟩:=IsTs.to t;show⟨by rw[Za,Za,h.1,a],.cons ?_ b,.cons h.2.2 c⟩;change IsD K π n H (.ref p.2.1) (.tup<|q.1.map D.int);rw[<- h.1];show .tup h.2.1<|zO p.1
def IsTs.val k:∀{ps}{kvs},IsTs K π n H ps kvs->(eJ ps k=b5/\a9 kvs k=b5)\/∃v d,eJ ps k=b0 v/\a9 kvs k=b0 d/\IsD K π n H v d
 |_,_,.nil=>.inl ⟨rfl,rfl⟩|_,_,.cons (a:=p) (b:=q) h t=>by
  have a:=IsTs.val k t;unfold eJ a9 at a ⊢;rw[ZZ,ZZ,<- h.1];by_cases e:p.1=k
  .simp only[e,decide_true];show .inr ⟨_,_,rfl,rfl,h.2.2⟩
  .simp only[e,decide_false];show a
def IsTs.put(h:IsTs K π n H ps kvs)k(j:SqT K H b (k.map V.int))(i:IsD K π n H v d):IsTs K π n H (dS ps k b v) (bW kvs k d):=by
 have e:(eJ ps k).isSome=(a9 kvs k).isSome:=by rcases h.val k with⟨c,g⟩|⟨v,d,c,g,_⟩<;>rw[c,g]<;>rfl
 have a:∀{ps:bM}{kvs:jx},IsTs K π n H ps kvs->IsTs K π n H (ps.map λp=>if p.1=k then(p.1,p.2.1,v)else p) (kvs.map λp=>if p.1=k then(p.1,d)else p):=by
  intro ps kvs h;unfold IsTs at h;induction h with
  |nil=>show .nil|@cons p q ps o h t l=>
   rw[Za,Za];show .cons ?_ l;by_cases z:p.1=k
   .rw[if_pos z,if_pos<|h.1.symm.trans z];show⟨h.1,h.2.1,i⟩
   .rw[if_neg z,if_neg λy=>z<|h.1.trans y];show h
 unfold dS bW;rw[e];split
 .show a h
 .show a9C h ⟨rfl,j,i⟩
def iG{kvs:jx}(R:Rp K π H μ)(h:μ[a]?=b0 (.dT kvs)):∃ps,H (π a)=b0 (aQ (π a) ps)/\IsTs K π μ.length H ps kvs:=by obtain⟨ps,b,c,d,e⟩:=R.dT a kvs h;show⟨ps,b,.of c d e⟩
def vG{kvs:jx}(R:Rp K π H μ)(h:μ[a]?=b0 (.dF kvs)):∃b ps,H (π a)=b0 (.frz b<|aQ (π a) ps)/\IsTs K π μ.length H ps kvs:=by obtain⟨b,ps,c,d,e,g⟩:=R.dF a kvs h;show⟨b,ps,c,.of d e g⟩
def mT(h:IsD K π n H v x)(e:cY x=b0 k):∃b,v=.ref b/\SqT K H b (k.map V.int):=by
 have:=rS e;subst this;cases h with
 |tup q t=>rw[ints_of' t]at q;show⟨_,rfl,q⟩
abbrev i9:ME:=λ_ a=>b0 (.loc a.length,a++[.dT []])
def ET(h:ZX)(a:Z3<h.objs.size):ObjOk P w H (h.push {cls:=.type "dict",data:=.dict #[]}) h.objs.size (aQ h.objs.size []):=
 r8 (ws:=[]) (beq_eq_false_iff_ne.mpr<|ZJ<|Y7 a) (a0d _) .nil<|b0F h
abbrev Qw:TE:=λ_ H Q=>∀p,H p=b5->Q (.ref p) (upd H p<|aQ p [])
def Qx{pos:a0u}:PE X (.Dict [] [] pos) Qw:=λb0Z s σ H Q I h=>wpAny_Dict_empty ⟨.ref s.heap.objs.size,_,I.laid (a:=s.heap.objs.size) (o:=aQ s.heap.objs.size []) (t':=s.toks) (λ_ _ q=>YC _ q) (YG _)<|ET s.heap I.big,rfl,h _<|I.hok.fresh<|YG _⟩
def Qy{pos:a0u}:QE X (.Dict [] [] pos) i9:=⟨dJ Qx<|by
 rintro n H Q ⟨j,l,i,d,g,R,E,c,k⟩ p e;cases c;obtain⟨b,a,h⟩:=R.alloc (c:=.dT []) (o:=aQ p []) e ⟨[],rfl,rfl,.nil,.nil⟩;show k _ _ _ b a kI⟩
abbrev r9:D->D->Hm->jk
 |.loc a,y,μ=>match μ[a]? with
  |some (.dT kvs)=>(cY y).bind λk=>(a9 kvs k).map λd=>(d,μ)|some (.dF kvs)=>(cY y).bind λk=>(a9 kvs k).map λd=>(d,μ)|_=>b5
 |_,_,_=>b5
abbrev EU(K:Yx):R2:=λx y H Q=>∃a b ps k v,x=.ref a/\y=.ref b/\Rd H a (aQ a ps)/\dP K H ps/\SqT K H b (k.map V.int)/\eJ ps k=b0 v/\Q v H
def Qz{pos:a0u}(E:X.A.units+1<a0k)(A:PE X a td)(z:PE X b ty)(B:CF b):PE X (.Subscript a b pos) (λσ H Q=>td σ H λx d=>ty σ d λy g=>EU X.K x y g Q):=by intro c s σ H Q I h;show CG a5L.lookup B<|aV (A c s σ H _ I h) λu R ⟨x,d,n,N,L⟩=>aV (z c R σ d _ n L) λK U ⟨y,g,j,O,a,b,T,k,v,p,r,e,l,w,G,M⟩=>?_;subst p r;obtain rfl:u=YY a:=N;obtain rfl:K=YY b:=O;show⟨Qq j e l,Qr E j e l w G λZ Y o i=>⟨v,g,o,i,M⟩⟩
def QC:dG K r9 (EU K):=by
 intro A H N x y d I L M Q R u w c k;unfold r9 at c;split at c
 .split at c
  .rename_i n hc;obtain⟨h,j,c⟩:=Yv.mp c;obtain⟨B,g,c⟩:=YB.mp c;cases c;cases u;obtain⟨o,i,T⟩:=iG R hc;obtain⟨b,rfl,l⟩:=mT w j;rcases T.val h with⟨_,z⟩|⟨v,E,p,r,s⟩
   .rw[z]at g;cases g
   .rw[r]at g;cases g;show⟨_,b,o,h,v,rfl,rfl,.of i,T.keys,l,p,k A _ H .refl R s⟩
  .rename_i n hc;obtain⟨h,j,c⟩:=Yv.mp c;obtain⟨B,g,c⟩:=YB.mp c;cases c;cases u;obtain⟨G,o,i,T⟩:=vG R hc;obtain⟨b,rfl,l⟩:=mT w j;rcases T.val h with⟨_,z⟩|⟨v,E,p,r,s⟩
   .rw[z]at g;cases g
   .rw[r]at g;cases g;show⟨_,b,o,h,v,rfl,rfl,.inr ⟨G,i⟩,T.keys,l,p,k A _ H .refl R s⟩
  .cases c
 .cases c
def QD{pos:a0u}(g:Room k X.A)(c:QE X a ma)(d:QE X b mb)(h:n5 b=d7):QE X (.Subscript a b pos) (aC r9 ma mb):=⟨dJ (Qz (fK g) c.h d.h<|zA h)<|rL QC⟩
abbrev QF(K:Yx)(td ty tv:TE):TS:=λD σ H=>tv σ H λv d=>td σ d λx g=>ty σ g λy c=>∃a b ps k,x=.ref a/\y=.ref b/\c a=b0 (aQ a ps)/\dP K c ps/\SqT K c b (k.map V.int)/\ps.length<YM/\D.nx σ (upd c a<|aQ a<|dS ps k b v)
def QH{pos:a0u}{tv:TE}(M:X.A.units+1<a0k)(K:PE X o td)(E:PE X i ty)(N:PE X e tv)(L:a3T e (b0<|.Subscript o i tpos) pos.line X.env=pure dI):
  PS X (.Assign [.Subscript o i tpos] e pos) (QF X.K td ty tv):=by
 intro c s d H D I h;show wpAny_Assign_Subscript (aV (N c s d H _ I h) λr s1 ⟨v,g,l,Y,R⟩=>aV (K c s1 d g _ l R) λu s2 ⟨x,j,n,Z,T⟩=>aV (E c s2 d j _ n T) λQ s3 ⟨y,H3,p,ry,a,b,ps,k,z,A,e,G,B,O,U⟩=>?_) L;subst z A;obtain rfl:u=YY a:=Z;obtain rfl:Q=YY b:=ry;show Qu M p e G B O Y λs4 w=>⟨d,_,w,U⟩
def QK{pos:a0u}(hr:Room g X.A)(ho:QE X o mo)(hi:QE X i mi)(he:QE X e me)(h:lJ e=d7):QS X (.Assign [.Subscript o i tpos] e pos) (Aa rX mo mi me):=
 ⟨kF (QH (LF hr) ho.h hi.h he.h<|zC h)<|by
 rintro E σ H ⟨π,M,μ,fl,ρ',μ',R,n,d,k⟩;obtain⟨⟨x,j⟩,h1,d⟩:=Yv.mp d;obtain⟨⟨y,l⟩,h2,d⟩:=Yv.mp d;obtain⟨⟨z,G⟩,h3,d⟩:=Yv.mp d;obtain⟨μ4,c,d⟩:=YB.mp d;cases d;show⟨π,M,μ,x,j,R,n,h1,λI v1 H1 p Y i1=>⟨I,M,j,y,l,Y,n.mono p,h2,λK v2 H2 r R2 i2=>⟨K,M,l,z,G,R2,(n.mono p).mono r,h3,λL v3 H3 s N i3=>?_⟩⟩⟩;cases y with
 |loc a=>
  simp only[rX]at c;split at c
  .rename_i A hc;obtain⟨g,h5,c⟩:=Yv.mp c;split at c
   .rename_i hz;cases c;have w:=i2.mono s;cases w with
    |loc u=>
     obtain⟨B,Q,T⟩:=iG N hc;obtain⟨b,rfl,U⟩:=mT i3 h5;have hv:=(i1.mono r).mono s;have T':=T.put g U hv;obtain⟨g1,g2,g3⟩:=T'.to;have v:B.length<YM:=by have:=congrArg ZE (T.to).1;rw[Yu,Yu]at this;lia
     show⟨_,b,B,g,rfl,rfl,Q,T.keys,U,v,?_⟩;obtain⟨O,Z⟩:=N.put (c:=.dT (bW A g x)) (o:=aQ _ (dS B g b v1)) u Q (.inr<|.inr ⟨_,rfl⟩) ⟨_,rfl,g1,g2,g3⟩;show k L σ _ (((p.trans r).trans s).trans O) Z<|(((n.mono p).mono r).mono s).mono O
   .cases c
  .cases c
 |_=>simp[rX]at c⟩
abbrev sA(b:Bool):D->D->Hm->jk
 |x,.loc a,μ=>match μ[a]? with
  |some (.dT kvs)=>(cY x).map λk=>(.bl<|if b then !(a9 kvs k).isSome else(a9 kvs k).isSome,μ)|some (.dF kvs)=>(cY x).map λk=>(.bl<|if b then !(a9 kvs k).isSome else(a9 kvs k).isSome,μ)|_=>b5
 |_,_,_=>b5
abbrev Af(K:Yx)(c:Bool):R2:=λx y H Q=>∃a b ps k,x=.ref b/\y=.ref a/\Rd H a (aQ a ps)/\dP K H ps/\SqT K H b (k.map V.int)/\Q (.bl<|if c then !(eJ ps k).isSome else(eJ ps k).isSome) H
def EV(j:X.A.units+1<a0k):OpR X (Z0 .In) (Af X.K dI):=by intro d s r H x y v u Q I l n h;obtain⟨a,b,o,k,rfl,rfl,e,i,g,q⟩:=h;obtain rfl:v=YY b:=l;obtain rfl:u=YY a:=n;show Qs j I e i g λp c=>⟨.bl _,H,c,rfl,q⟩
def EW(j:X.A.units+1<a0k):OpR X (Z0 .NotIn) (Af X.K d7):=by intro d s r H x y v u Q I l n h;obtain⟨a,b,o,k,rfl,rfl,e,i,g,q⟩:=h;obtain rfl:v=YY b:=l;obtain rfl:u=YY a:=n;show Qt j I e i g λp c=>⟨.bl _,H,c,rfl,q⟩
def vH:dG K (sA j) (Af K j):=by
 intro s H B x y d w z A Q R p r a k;unfold sA at a;split at a
 .split at a
  .rename_i h hc;obtain⟨g,c,a⟩:=YB.mp a;cases a;cases r;obtain⟨l,n,T⟩:=iG R hc;obtain⟨b,rfl,o⟩:=mT p c;have e:(eJ l g).isSome=(a9 h g).isSome:=by rcases T.val g with⟨c,i⟩|⟨v,d,c,i,_⟩<;>rw[c,i]<;>rfl
   show⟨_,b,l,g,rfl,rfl,.of n,T.keys,o,?_⟩;rw[e];show k s _ H .refl R<|.bl _
  .rename_i h hc;obtain⟨g,c,a⟩:=YB.mp a;cases a;cases r;obtain⟨u,l,n,T⟩:=vG R hc;obtain⟨b,rfl,o⟩:=mT p c;have e:(eJ l g).isSome=(a9 h g).isSome:=by rcases T.val g with⟨c,i⟩|⟨v,d,c,i,_⟩<;>rw[c,i]<;>rfl
   show⟨_,b,l,g,rfl,rfl,.inr ⟨u,n⟩,T.keys,o,?_⟩;rw[e];show k s _ H .refl R<|.bl _
  .cases a
 .cases a
abbrev RawD(h:ZX)(d:Addr)(es:Array DictEntry)(ep:Nat):Prop:=∃z,h.get? d=b0 z/\z.ExactDict/\z.data=.dict es ep
def RawD.ty{s:YA}{es ep}(g:RawD s.heap d es ep):s.TypeIs (.ref d) "dict":=let⟨z,a,b,_⟩:=g;⟨z,a,b.1⟩
def RawD.stay{es ep}(g:RawD h d es ep)(k:∀o,h.get? d=b0 o->h'.get? d=b0 o):RawD h' d es ep:=let⟨z,a,b⟩:=g;⟨z,k z a,b⟩
def RawD.lt{h:ZX}{d:Addr} {es ep} (g:RawD h d es ep):d<h.objs.size:=let⟨_,a,_⟩:=g;YJ a
def EX(lo:(d==Z3)=dI)(g:RawD s.heap d es ep)(q:Q (.ref s.heap.objs.size) {s with heap:=s.heap.push {cls:=.type "dict_keyiterator",data:=.fields #[.ref d,.int 0 0,.int es.size 0,.int ep 0]}}):Y6 (Y5 P w) A (a6s<|.ref d) Q E s:=by
 obtain⟨z,a,c,b⟩:=id g;show a9G g.ty F.slot_dict_iter<|a1c F.slot_dict_iter g.ty F.entry_dict_iter ?_<|F.args_dict_iter_1 _;unfold Builtin.«dict.__iter__» b0M;show Yw<|Yw<|a2k g.ty ?_;change Y6 _ _ (pure<|YY d) _ _ _;show YH ?_;change Y6 _ _ (a1O d >>= _) _ _ _;unfold a1O;rw[if_neg λx=>YE<|lo.symm.trans x];show Yw<|YH<|Yw<|a0t a b<|Yw<|a2O a b<|Yw<|Z7<|YH ?_;show⟨_,rfl,"dict_keyiterator",_,⟨_,YR _ rfl,rfl⟩,F.slot_dict_keyiterator_next.lookup,by simpa[a3u]using q⟩
def vJ(p:A.handled=b5)(j:s.heap.IsKeyIter it d i es.size ep)(g:RawD s.heap d es ep)(v:∀e a,es[i]?=b0 e->a.IsKeyIter it d (i+1) es.size ep->a0Q it s.heap a->Q (b0 e.key) {s with heap:=a})(B:es[i]?=b5->∀a,a4B it s.heap a->Q b5 {s with heap:=a}):Y6 (Y5 P w) A (a2b<|.ref it) Q E s:=by
 obtain⟨y,c,r,b⟩:=id j;obtain⟨z,l,G,n⟩:=id g;have k:∀{Q:String->YA->Prop}{A:Zi}{E:Value->YA->Prop},Q "dict_keyiterator" s->Y6 (Y5 P w) A (b0n<|.ref it) Q E s:=λq=>wpAny_typeNameOfWhole_keyiter j.typeIs q;unfold a2b;show Yw<|a7D<|a7P (name:=a1n "__next__") j.typeIs F.slot_dict_keyiterator_next<|a1c F.slot_dict_keyiterator_next j.typeIs F.entry_dict_keyiterator_next ?_<|F.args_dict_keyiterator_next_1 _;show Yw<|YH<|Yw<|Yw<|Yw<|k<|YH<|Yw<|b0O c b ?_;rw[show a2x "dict_keyiterator"=dI by decide,if_neg YE];change Y6 _ _ (if(YY d==a0z)=d7 then _ else _) _ _ _;rw[if_neg<|show ¬ (YY d==a0z)=d7 from λx=>YE x];show Yw<|YH<|Yw<|a0t l n ?_;rw[if_neg λx=>by simp at x];show Yw<|YH<|Yw<|a2O l n ?_;rw[if_neg λx=>by simp at x];show YH ?_;dsimp only;rw[if_neg<|show ¬ ((i:Int)<0) by lia,a0S];cases o:es[i]? with
 |some e=>
  show Yw<|Yw<|k<|YH<|Yw<|a8G j.typeIs ?_;change Y6 _ _ (a8S (.ref it) 1 (a3u<|(i:Int)+1) >>= _) _ _ _;show Yw (a6W c b (by simp) ?_);have h:(s.heap.update it<|a9Q (·.setIfInBounds 1<|a3u<|(i:Int)+1)).IsKeyIter it d (i+1) es.size ep:=
   ⟨_,ZN _ c<|Obj.isFreed_of_fields<|a8w b _,(Obj.cls_mapFields ..).trans r,by simp[a8w b,a3u]⟩
  generalize hu:s.heap.update it (a9Q (·.setIfInBounds 1<|a3u<|(i:Int)+1))=u at h;show Yw<|Zz<|Yw<|a8G (s:={s with heap:=u}) h.typeIs ?_;change Y6 _ _ (pure e.key) _ _ _;show YH<|YH ⟨_,rfl,YH<|v e u o h<|hu▸ZS ..⟩
 |none=>show Yw<|Yw<|k<|YH ?_;change Y6 _ _ (a8S (.ref it) 0 .none >>= _) _ _ _;show Yw (a6W c b (by simp) ?_);change Y6 _ _ (b0T (.type "StopIteration") [] >>= _) _ _ _;simp only[b0T,a8T];show Yw (Yw<|Z7 ?_<|by size_fits);show Yw (m:=a4Z _ _) (a6z (a:=a0z) (by first|rfl|(simp only[a4Z];rfl))<|Z7 ?_<|by size_fits);unfold raiseNew;show Yw<|wpAny_handled ?_;rw[show A.in1.handled=b5 from p];show Yw<|YH<|wpAny_throw ?thrown;case thrown=>show Yw<|a3r (T:="StopIteration") (b:=d7) ⟨_,YR _ rfl,rfl⟩ b0W<|YH<|B o _<|((ZS ..).extBut.push _).push _
def QL(n:A.handled=b5)(l:d≠it)es ep:Walks P w A it [it,d] [it] es.size (λi v=>∃e,es[i]?=b0 e/\v=e.key) (λi h=>h.IsKeyIter it d i es.size ep/\RawD h d es ep) where
 sub:=λb a=>by rw[YL.mp a];show Zs ..
 frame:=λ_ _ _ st k=>⟨st.1.at λo e=>k it (by simp) o e,st.2.stay λo e=>k d (by simp) o e⟩
 item:=λi s Q E u st q=>vJ n st.1 st.2 (λe j c r p=>q _ j s.toks ⟨e,c,rfl⟩ ⟨r,st.2.stay λo g=>p.extBut d o l g⟩ λb o a g=>p.extBut b o (λz=>a<|by simp[z]) g) λc=>by simp at c;lia
 done:=λs Q E st q=>vJ n st.1 st.2 (λe j c=>by simp at c) λ_ j x=>q j s.toks λb o a g=>x b o (λz=>a<|by simp[z]) g
 self:=λ_ _ _ _ st q=>a8Q st.1 q
def QM(lo:(d==Z3)=dI):PySem.W.KdlSrc P w "dict" d d es.size (λi v=>∃e,es[i]?=b0 e/\v=e.key) (λh=>RawD h d es ep) where
 type:=λ_ g=>g.ty
 there:=λ_ g=>⟨g.lt,g.lt⟩
 keep:=λ_ _ g k=>g.stay λo e=>k d (.inl rfl) o e
 notList:=by decide
 notTuple:=by decide
 hint:=λ_ _ _ _ g q=>PySem.W.kdl_hint_dict g.ty q
 iter:=λ_ _ a g=>⟨_,_,(λ_ _ q=>EX lo g q),QL a (Y7 g.lt) es ep,⟨⟨_,YR _ rfl,rfl,rfl⟩,g.stay λo e=>YC _ e⟩⟩
def QN(lo:(d==Z3)=dI):a9R P w (Builtin.«dict.__len__» ⟨[.ref d],[]⟩) (λ_ R s=>∃es ep,RawD s.heap d es ep/\R (.ok<|.ret<|.int (es.size:Nat) s.toks) {s with toks:=s.toks+1}):=
 .of_wp λA R s ⟨es,ep,⟨z,a,c,b⟩,q⟩=>by change Y6 _ _ (dictSize d >>= _) _ _ _;unfold dictSize;show Yw<|Yw<|a0t a b<|YH ?_;change Y6 _ _ (b0I d >>= _) _ _ _;show Yw<|wpAny_pendingCount_other lo<|wpAny_ret_mkInt ?_;rw[b0g];show q
def QR{s:YA}(lo:(d==Z3)=dI)(g:RawD s.heap d es ep)(hz:es.size<=YM)(q:Q (.int (es.size:Nat)<|s.toks+1) {s with toks:=s.toks+1+1}):Y6 (Y5 P w) A (call (.builtin "len") [.ref d]) Q E s:=
 b0z g.ty F.slot_dict_len (λb a=>a3N F.slot_dict_len g.ty F.entry_dict_len (F.args_dict_len_1 _) (QN lo) ⟨es,ep,g,a⟩) ⋯ (by rw[Y2]at hz;lia) q
def Ag:∀{ps}{ws},Vals (ps.map (·.2.2)) ws->(bR ps ws).map (λx=>YY x.2.1)=ps.map λp=>YY p.2.1
 |[],_,_=>by simp[bR]
 |p::ps,_,.cons r t=>by have a:=Ag (ps:=ps) t;unfold bR at a ⊢;rw[ZF,Za,Za,a]
def EY:∀ps:bM,Vals (ps.map λp=>V.ref p.2.1) (ps.map λp=>YY p.2.1)
 |[]=>.nil|p::ps=>.cons rfl<|EY ps
def vK{σ:St}{ps:bM}(I:Inv X b0Z σ H s)(e:H a=b0 (aQ a ps))(h:dP X.K H ps):(a==Z3)=dI/\ps.length<=YM/\∃es ep,RawD s.heap a es ep/\es.toList.map (·.key)=ps.map λp=>YY p.2.1:=by obtain⟨j,i,k,r,z,es,ep,b,c,d,g,_⟩:=i8 I (.of e) h;show⟨j,i,es,ep,⟨z,b,c,d⟩,?_⟩;rw[g,Y0,<- Ag r];rfl
abbrev EZ(K:Yx):gz->Hp->VK->Prop:=λxs H Q=>∃a ps,xs=[V.ref a]/\H a=b0 (aQ a ps)/\dP K H ps/\Q (.int ps.length) H
def QU:CallR X (.builtin "len") (EZ X.K):=by
 intro b0Z s σ H p o Q I r h;obtain⟨a,ps,rfl,c,e,q⟩:=h;obtain⟨u,rfl,k⟩:=fH r;cases k;obtain⟨j,n,b,l,g,d⟩:=vK I c e;have i:b.size=ps.length:=by have:=congrArg ZE d;simpa using this
 show QR j g ⋯ ?_;rw[i];show⟨.int ps.length,H,(I.tok _).tok _,⟨_,rfl⟩,q⟩
abbrev E4(K:Yx):gz->Hp->VK->Prop:=λxs H Q=>∃a ps,xs=[V.ref a]/\H a=b0 (aQ a ps)/\dP K H ps/\∀l,H l=b5->Q (.ref l) (upd H l<|.lst<|ps.map λp=>V.ref p.2.1)
def QV(hc:X.calm=d7):CallR X (.type "list") (E4 X.K):=by
 intro b0Z s σ H R O Q I r h;obtain⟨a,ps,rfl,y,z,q⟩:=h;obtain⟨u,rfl,G⟩:=fH r;cases G;obtain⟨E,A,n,L,g,d⟩:=vK I y z;have N:n.size=ps.length:=by have:=congrArg ZE d;simpa using this
 show PySem.W.kdl_call (QM E) (I.ok.hd hc) g ⋯ λM K b k B x c=>?_;show⟨.ref s.heap.objs.size,_,I.laid (t':=K) (a:=s.heap.objs.size) (o:=.lst (ps.map λp=>V.ref p.2.1)) B (YG _) ?_,rfl,q _<|I.hok.fresh<|YG _⟩;show⟨by rw[Yu];show A,b.toList,k,?_,by simpa using x⟩;have l:b.toList=ps.map λp=>YY p.2.1:=by
  rw[<- d];show a3R λi=>?_;rw[YU,a0o,a0o];cases j:b[i]? with
  |some v=>obtain⟨e,o,w⟩:=c.2 i v j;rw[o,w];rfl|none=>
   have:b.size<=i:=by simpa using j
   rw[a6O<|by rw[<- c.1];show this];rfl
 rw[l];show EY ps
def QX{pos:a0u}(l:Room k X.A)(g:QE X a ma)(j:QE X b mb)(h:n5 b=d7):QE X (.Subscript a b pos) (aC aE ma mb):=
 n8 (QD l g j h) (NQ g j h)<|iE λx y n r c=>by
  unfold aE at c;split at c
  .split at c
   .rename_i d hc;show .inl ?_;simp only[r9,hc];show c
   .rename_i d hc;show .inl ?_;simp only[r9,hc];show c
   .show .inr c
  .show .inr c
abbrev qC(c:Bool):D->D->Hm->jk:=λx y d=>match sA c x y d with
 |some r=>b0 r|none=>lK c x y d
def vL x y d r(h:qC c x y d=b0 r):sA c x y d=b0 r\/lK c x y d=b0 r:=by
 unfold qC at h;split at h
 .rename_i z;rw[z];show .inl h
 .show .inr h
def E6 x y l r(h:c4 g x y l=b0 r):(∃i j,x=.str i/\y=.str j)\/qC g x y l=b0 r:=by
 cases y with
 |loc a=>
  show .inr ?_;have e:c4 g x (.loc a) l=(match l[a]? with
   |some (.dT d)=>(cY x).map λk=>(D.bl<|if g then !(a9 d k).isSome else(a9 d k).isSome,l)|some (.dF d)=>(cY x).map λk=>(D.bl<|if g then !(a9 d k).isSome else(a9 d k).isSome,l)
   |_=>lK g x (.loc a) l):=by cases x<;>rfl
  rw[e]at h;unfold qC;simp only[sA];cases hc:l[a]? with
  |none=>rw[hc]at h;show h|some c=>
   rw[hc]at h;cases c with
   |dT d=>dsimp only at h ⊢;rw[h]|dF d=>dsimp only at h ⊢;rw[h]|_=>show h
 |str j=>
  cases x with
  |str i=>show .inl ⟨i,j,rfl,rfl⟩|_=>show .inr h
 |_=>cases x<;>show .inr h
def E7 x y c r(h:c4 dI x y c=b0 r):yY x y c=b0 r\/qC dI x y c=b0 r:=by
 rcases E6 x y c r h with⟨i,j,rfl,rfl⟩|z
 .show .inl h
 .show .inr z
def Fb x y c r(h:c4 d7 x y c=b0 r):zJ x y c=b0 r\/qC d7 x y c=b0 r:=by
 rcases E6 x y c r h with⟨i,j,rfl,rfl⟩|z
 .show .inl h
 .show .inr z
def QY{pos:a0u}(g:Room k X.A)(c:QE X a ma)(d:QE X b mb)(h:gC b=d7):QE X (.Compare a [.In] [b] pos) (aC (c4 dI) ma mb):=
 n8 ⟨fT Cp Ds c.h d.h<|i0 h⟩ (n8 ⟨fT (EV<|fK g) vH c.h d.h<|i0 h⟩ ⟨fT (DQ<|uV g) uT c.h d.h<|i0 h⟩<|iE vL)<|iE E7
def QZ{pos:a0u}(g:Room k X.A)(c:QE X a ma)(d:QE X b mb)(h:gC b=d7):QE X (.Compare a [.NotIn] [b] pos) (aC (c4 d7) ma mb):=
 n8 ⟨fT CM DS c.h d.h<|i0 h⟩ (n8 ⟨fT (EW<|fK g) vH c.h d.h<|i0 h⟩ ⟨fT (DR<|uV g) uT c.h d.h<|i0 h⟩<|iE vL)<|iE Fb
def Q0{pos:a0u}(g:Room k X.A)(c:QE X a ma)(d:QE X b mb)(h:gC b=d7):QT X (.Compare a [.In] [b] pos) (aO<|aC (c4 dI) ma mb):=
 pQ ⟨fU Cp Ds c.h d.h<|i0 h⟩ (pQ ⟨fU (EV<|fK g) vH c.h d.h<|i0 h⟩ ⟨fU (DQ<|uV g) uT c.h d.h<|i0 h⟩<|pR<|iE vL)<|pR<|iE E7
def Q1{pos:a0u}(g:Room k X.A)(c:QE X a ma)(d:QE X b mb)(h:gC b=d7):QT X (.Compare a [.NotIn] [b] pos) (aO<|aC (c4 d7) ma mb):=
 pQ ⟨fU CM DS c.h d.h<|i0 h⟩ (pQ ⟨fU (EW<|fK g) vH c.h d.h<|i0 h⟩ ⟨fU (DR<|uV g) uT c.h d.h<|i0 h⟩<|pR<|iE vL)<|pR<|iE Fb
def Q2{pos:a0u}(j:Room k X.A)(g:QE X o mo)(d:QE X i mi)(c:QE X e me)(h:lJ e=d7):QS X (.Assign [.Subscript o i tpos] e pos) (i7 mo mi me):=QK j g d c h
abbrev Ah(K:Yx)(a b:Addr):It:=
 ⟨λi H=>∃c d x y,SqL K H a c/\SqL K H b d/\c[i]?=b0 x/\d[i]?=b0 y,
   λi H z e=>∃p v u,z=.ref p/\H p=b5/\e=upd H p (.tup [v,u])/\(∀c,SqL K H a c->c[i]?=b0 v)/\∀d,SqL K H b d->d[i]?=b0 u,
   λi H=>∃c d,SqL K H a c/\SqL K H b d/\(c.length<=i\/d.length<=i)⟩
def Q3(B:ZipApart z r to l n a b):
  Turn Qc P w K (.Tuple es kx pt) (Ah K a b) [z,r,to,l,n] z (λi h=>IsZip h z r to .none/\IsPair h r (.ref l) (.ref n)/\(∃u v,IsPair h to u v)/\h.IsListIter l a i/\h.IsListIter n b i) where
 mem:=by simp
 obj:=λi h ⟨A,G,⟨u,v,M⟩,N,O⟩ c hc=>by
  have hc':c=z\/c=r\/c=to\/c=l\/c=n:=by simpa using hc
  rcases hc' with rfl|rfl|rfl|rfl|rfl
  .show⟨_,A,λq e=>by
    have U:ZM _=a4c q:=e;cases U⟩
  .show⟨_,G,λq e=>by
    have U:a7A _ _=a4c q:=e;cases U⟩
  .show⟨_,M,λq e=>by
    have U:a7A _ _=a4c q:=e;cases U⟩
  .obtain⟨o,e1,c,d⟩:=N;show⟨o,e1,λv e=>by rw[d]at e;cases e⟩
  .obtain⟨o,e1,c,d⟩:=O;show⟨o,e1,λv e=>by rw[d]at e;cases e⟩
 keep:=λi h h' ⟨A,G,⟨u,v,M⟩,N,O⟩ k=>⟨k z (by simp) _ A,k r (by simp) _ G,⟨u,v,k to (by simp) _ M⟩,N.at λo e=>k l (by simp) o e,O.at λo e=>k n (by simp) o e⟩;item:=by
  intro X hP hw hK hc i b0Z s σ H E I Z ⟨A,G,⟨u,v,M⟩,N,O⟩ hg;subst hP hw hK;obtain⟨xs,ys,x,y,hq,L,T,hy⟩:=hg;obtain⟨its,rv,p,hz⟩:=I.list hq;obtain⟨Y,Q,p2,hz2⟩:=I.list L;obtain⟨u1,fK,ru1⟩:=rv.get T;obtain⟨u2,hu2,ru2⟩:=Q.get hy;show wpAny_pyNext_zip_item B A G M N O p.isList p2.isList (x:=u1) (y:=u2) (by simpa using fK) (by simpa using hu2) λh1 a1 a2 a3 a4 a5 a6 hk=>⟨_,rfl,wpAny_letOwnedTupleGo_zip a1 λh2 b1 j=>?_⟩;have ne:∀{c o},s.heap.get? c=b0 o->s.heap.objs.size≠c:=λe=>a0r<|YJ e;have l4:∃o,s.heap.get? l=b0 o:=let⟨o,e,_⟩:=N;⟨o,e⟩;have l5:∃o,s.heap.get? n=b0 o:=let⟨o,e,_⟩:=O;⟨o,e⟩;have ht2:h2.get? s.heap.objs.size=b0 {cls:=.type "tuple",data:=.seq #[u1,u2]}:=(j.2 _<|ne A).trans a5;have hfr:H s.heap.objs.size=none:=I.hok.fresh<|YG _;have g2':IsPair h2 r (.ref l) (.ref n):=(j.2 _ B.TIz).trans<|hk _ _ B.TIz B.TITO B.TIi1 B.TIi2 G;show⟨.ref s.heap.objs.size,upd H s.heap.objs.size<|.tup [x,y],?_,rfl,⟨s.heap.objs.size,x,y,rfl,hfr,rfl,λws hw=>by rw[I.list_inj hw hq];show T,λws hw=>by rw[I.list_inj hw L];show hy⟩,
   ⟨b1,g2',⟨_,_,(j.2 _ B.TOz).trans a2⟩,a3.extBut j.extBut B.i1z,a4.extBut j.extBut B.i2z⟩,λc R=>?_⟩
  .show z7 (s:=s) (h':=h2) (t':=s.toks) (ch:=[z,r,to,l,n]) I (λc oc R ec=>?_) Z (YG _) ?_
   .have g:c≠z/\c≠r/\c≠to/\c≠l/\c≠n:=by simpa using R
    show(j.2 c g.1).trans<|hk c oc g.1 g.2.2.1 g.2.2.2.1 g.2.2.2.2 ec
   .show⟨by change(2:Nat)<=YM;decide,[u1,u2],.cons ru1<|.cons ru2 .nil,_,ht2,rfl,0,rfl,rfl⟩
  .have g:c=z\/c=r\/c=to\/c=l\/c=n:=by simpa using R
   have hn:=(Z c R).1;rw[bH]
   .show hn
   .rcases g with rfl|rfl|rfl|rfl|rfl
    .show(ne A).symm
    .show(ne G).symm
    .show(ne M).symm
    .show(ne l4.choose_spec).symm
    .show(ne l5.choose_spec).symm
 done:=by
  intro X hP hw hK hc i b0Z s σ H E I Z ⟨A,G,⟨u,v,M⟩,N,O⟩ hg;subst hP hw hK;obtain⟨xs,ys,hq,L,T⟩:=hg;obtain⟨its,rv,p,hz⟩:=I.list hq;obtain⟨Y,Q,p2,hz2⟩:=I.list L;have hl:=rv.length;have hl2:=Q.length;show wpAny_pyNext_zip_end (I.ok.hd hc) B A G M N O p.isList p2.isList ?_ λh' eb=>⟨rfl,EI (t':=s.toks) (ch:=[z,r,to,l,n]) I (λc o R e=>?_) Z⟩
  .rcases T with T|T
   .show .inl<|by simp;lia
   .show .inr<|by simp;lia
  .have g:c≠z/\c≠r/\c≠to/\c≠l/\c≠n:=by simpa using R
   show eb c o g.1 g.2.2.1 g.2.2.2.1 g.2.2.2.2 e
 self:=λ_ _ _ _ _ ⟨A,_⟩ h=>a9X A h
abbrev sC(x y:D):eX:=λa i=>(bJ a x).bind λxs=>(bJ a y).map λb=>(xs[i]?).bind λd=>(b[i]?).map λe=>.tup [d,e]
abbrev sD(ms:MA):MI:=λd c=>(ms d c).bind λp=>match p.1 with
 |[x,y]=>(fD p.2 x).bind λa=>(fD p.2 y).map λb=>(sC x y,min a.length b.length+1,p.2)|_=>b5
def Fc(R:Rp K π H j)(h:IsD K π j.length H v x)(k:fD j x=b0 xs):∃p,v=.ref p/\(∃vs,SqL K H p vs) /\
  ∀c a d,Ext π j.length H c a.length d->Rp K c d a->∀i,bJ a x=b0 i->∃g,SqL K d p g/\IsDs K c a.length d g i:=by
 obtain⟨p,vs,rfl,u,_⟩:=pV R h k;show⟨p,rfl,⟨vs,u⟩,λc a d e n i l=>?_⟩;have s:fD a x=b0 i:=by
  cases x with
  |rol z=>show l|loc b=>show l|_=>cases k
 obtain⟨y,g,r,w,o⟩:=pV n (h.mono e) s;cases r;show⟨g,w,o⟩
def Q4(R:Rp K π H l)(h:IsD K π l.length H v x)(h':IsD K π l.length H Y y)(hs:fD l x=b0 xs)(G:fD l y=b0 ys):
  ∃a b,v=.ref a/\Y=.ref b/\(∃M,SqL K H a M)/\(∃M,SqL K H b M)/\Wk K (Ah K a b) (sC x y) π l.length H:=by
 obtain⟨a,rfl,qa,la⟩:=Fc R h hs;obtain⟨b,rfl,qb,T⟩:=Fc R h' G;show⟨a,b,rfl,rfl,qa,qb,λg c n i e j z=>?_,λg c n i d e j z=>?_⟩
 .obtain⟨o,B,z⟩:=Yv.mp z;obtain⟨bs,E,z⟩:=YB.mp z;obtain⟨u,p,w⟩:=la g c n e j o B;obtain⟨s,r,A⟩:=T g c n e j bs E;show⟨u,s,p,r,?_⟩;rw[w.length,A.length];cases N:o[i]? with
  |none=>show .inl (Zx.mp N)|some d=>
   cases k:bs[i]? with
   |none=>show .inr (Zx.mp k)|some d'=>rw[N,k]at z;cases z
 .obtain⟨o,B,z⟩:=Yv.mp z;obtain⟨bs,E,z⟩:=YB.mp z;obtain⟨d1',h3,z⟩:=Yv.mp z;obtain⟨d2',h4,h5⟩:=YB.mp z;subst h5;obtain⟨u,p,w⟩:=la g c n e j o B;obtain⟨s,r,A⟩:=T g c n e j bs E;obtain⟨Z,O,k1⟩:=w.get h3;obtain⟨w2,Q,k2⟩:=A.get h4;show⟨⟨u,s,Z,w2,p,r,O,Q⟩,?_⟩;rintro y H2 ⟨t,v1,v2,rfl,hn,rfl,I,L⟩;have U:=I u p;have X:=L s r;rw[O]at U;rw[Q]at X;cases U;cases X;obtain⟨k,R2⟩:=j.fresh (o:=.tup [Z,w2]) hn;show⟨k,R2,.tup (.of c3)<|.cons (k1.mono k)<|.cons (k2.mono k) .nil⟩
abbrev Q5(K:Yx)(d:TA):TI:=λσ H R=>d σ H λvs c=>∃a b,vs=[.ref a,.ref b]/\(∃xs,SqL K c a xs)/\(∃e,SqL K c b e)/\R (Ah K a b) c
open PyProof.Rows in
def Q6{X:Cx}{a b:Expr}{A:TA}{p pos pt:a0u}{es:List Expr}{kx:Nat}(T:Gl X "zip") (Y:X.mg "zip"=b5) (Q:PA X [a,b] A)(hs:Zo [a,b] X.env=(dI,eval a X.env)::Zo [b] X.env)(r:(a1C pos<|Zo [b] X.env).any (·.1)=dI) :
  PI X (.Tuple es kx pt) (.Call (.Name "zip" p) [a,b] [] pos) (Q5 X.K A):=by
 intro i s B H R I h;show a9W<|hZ I T Y Boot.«zip»<|Z4 (aV (Q pos i s B H _ I h) λus d ⟨vs,w,g,r1,q1⟩=>?_) hs r;obtain⟨l,n,rfl,⟨ws,Z⟩,⟨ws2,o⟩,q⟩:=q1;cases r1 with
 |cons ru u=>
  cases u with
  |cons v u=>
   cases u;cases ru;cases v;obtain⟨its,rv,z,hz⟩:=g.list Z;obtain⟨y,rv2,k,hz2⟩:=g.list o;have la:l<d.heap.objs.size:=let⟨_,e,_⟩:=z.isList;YJ e;have lb:n<d.heap.objs.size:=let⟨_,e,_⟩:=k.isList;YJ e;show call_zip_2 z.isList k.isList λO x K L M N hsz U=>a9X x ?_;have E:Inv X i B w {d with heap:=O}:=g.kept (t':=d.toks) U;have G:ZipApart (d.heap.objs.size+4) (d.heap.objs.size+2) (d.heap.objs.size+3) d.heap.objs.size (d.heap.objs.size+1) l n:=by have la':@LT.lt Nat _ l d.heap.objs.size:=la;have lb':@LT.lt Nat _ n d.heap.objs.size:=lb;constructor<;>(change @Ne Nat _ _;lia)
   show⟨d.heap.objs.size+4,[d.heap.objs.size+4,d.heap.objs.size+2,d.heap.objs.size+3,d.heap.objs.size,d.heap.objs.size+1],_,_,w,rfl,E,Q3 G,⟨x,K,⟨_,_,L⟩,M,N⟩,λc hc=>?_,q⟩;have j:d.heap.objs.size<=c:=by simp only[Zm,a1p,or_false]at hc;rcases hc with rfl|rfl|rfl|rfl|rfl<;>first|show Nat.le_add_right _ _|show YG _
   show g.fpOk j<|g.hok.fresh j
def Q7{pos:a0u}(d:Gl X "zip")(e:X.mg "zip"=b5)(o:QA X [a,b] ms n):QJT X (.Call (.Name "zip" p) [a,b] [] pos) (sD ms):=⟨λes kx pt b0Z s σ H R I hw=>by
 have g:=o.s;rw[ZD,YK,ZD,YK]at g;obtain⟨Y,Z,T,N,n',U,u,E,c,k⟩:=hw;obtain⟨⟨x,i⟩,A,c⟩:=Yv.mp c;show Q6 d e o.h (fL g.1) (by rw[fL g.2.1];rfl) b0Z s σ H R I ⟨Y,Z,T,x,i,u,E,A,λj vs r z l h=>?_⟩;dsimp only at c;split at c
 .rename_i x y;obtain⟨xs,B,c⟩:=Yv.mp c;obtain⟨ys,G,c⟩:=YB.mp c;cases c;cases h with
  |cons h O=>
   cases O with
   |cons K Q=>cases Q;obtain⟨v,w,rfl,rfl,L,M,W⟩:=Q4 l h K B G;show⟨v,w,rfl,L,M,k j r _ z l W⟩
 .cases c⟩
def Q8:a5E (.type "tuple") "keys"=pure none:=by rw[a6J,a4O];kernel_rfl
def Q9(g:s.heap.get? a=b0 o)(j:o.cls=.type "tuple")(l:o.data=.seq xs k)(n:o.dict=b5)(hA:A.handled=b5)(q:∀h p,(∀b u,s.heap.get? b=b0 u->h.get? b=b0 u)->Q b5 {s with heap:=h,toks:=p}):Y6 (Y5 P w) A (getAttr? (.ref a) "keys") Q E s:=by
 obtain⟨c,v,r,G⟩:=o;dsimp only at j l n;subst j l n;obtain⟨z,y,x,p,B⟩:=s;have ty:∀d,(⟨z,y,x,d,B⟩:YA).TypeIs (.ref a) "tuple":=λ_=>⟨_,g,rfl⟩;have H:=sub_AttributeError;have I:=F.slot_tuple_getattribute.lookup;have K:=F.slot_tuple_getattribute.bind<|.ref a;have L:=am_tuple_getattr_none;unfold getAttr? getAttrBy? getAttrBy;repeat (any_goals (first|assumption|show ty _|((with_reducible change Y6 _ _ (call (a0N "tuple.__getattribute__") _ _) _ _ _);show a4F F.slot_tuple_getattribute (ty _) am_entry_tuple_getattribute (F.args_tuple_getattribute_2 _ _) (meets_getattribute_miss_tuple a xs k G "keys" _ Q8<|by decide +kernel) ⟨g,hA,λh d e ne=>?_⟩)|wp_step))
 obtain⟨M,N,i⟩:=ne.there;change Y6 _ _ (a9w _ _ _ _ b5 dI dI) _ _ _;unfold a9w;repeat (any_goals (first|assumption|wp_step))
 show q _ _ ne.of.keeps
def Fd:entryFor table "dict.update.loop"=b0 Builtin.«dict.update.loop»:=entryFor_of_tree<|by kernel_rfl
def vM:plainId "dict.update.loop"=true:=by decide +kernel
abbrev oJ(ps:bM):List (Addr×List Int×Addr×V)->bM
 |[]=>ps|r::L=>oJ (dS ps r.2.1 r.2.2.1 r.2.2.2) L
def Ra{σ:St}{ps:bM}(B:A.units<a0k)(I:Inv X b0Z σ H s)(e:H d=b0 (aQ d ps))(x:dP X.K H ps)(p:SqT X.K H b (k.map V.int))(hz:ps.length<YM)(L:RelV v u)(h:∀i,Inv X b0Z σ (upd H d<|aQ d<|dS ps k b v) i->(∀c o,c≠d->s.heap.get? c=b0 o->i.heap.get? c=b0 o)->Q () i):Y6 (Y5 X.prog X.w) A (dictSet d (.ref b) u) Q E s:=by
 obtain⟨z,O,M,r,j⟩:=i8 I (.of e) x;have G:(bR ps M).length<=YM:=by have:=congrArg ZE<|lU r;rw[Yu,Yu]at this;lia
 show wpAny_dictSet_heap (hsz:=G) (show(a2i<|a1P X.prog X.w).room A from B) (kP I p) j λn g a=>h _ ?_ λc o hc e=>a.extBut c o hc e;obtain⟨N,K,l⟩:=vF r k b L;rw[l]at g;have w:∃q,n.get? d=b0 q:=let⟨q,_,_,y,_⟩:=g;⟨q,y⟩;show t8 I (by rw[e];show a1Q) a w<|r8 z (by have:=r6 ps k b v;lia) K g
def sE{ps:bM}(e:H d=b0 (aQ d ps))(h:SqT K H b vs):SqT K (upd H d o) b vs:=by
 have ne:∀{u},H b=b0 u->(∀c,u≠aQ d c)->b≠d:=λz f y=>by rw[y,e]at z;cases z;show f ps rfl
 rcases h with(h|⟨a,h⟩)|h
 .show .inl<|.inl<|by rw[bH<|ne h λ_ z=>by cases z];show h
 .show .inl<|.inr ⟨a,by rw[bH<|ne h λ_ z=>by cases z];show h⟩
 .show .inr h
def Rb(h:dP K H ps)(g:SqT K H b (k.map V.int)):dP K H (dS ps k b v):=by
 intro p a;unfold dS at a;split at a
 .obtain⟨d,c,e⟩:=YO.mp a;by_cases z:d.1=k
  .rw[if_pos z]at e;subst e;show h d c
  .rw[if_neg z]at e;subst e;show h d c
 .rcases YN.mp a with a|a
  .show h p a
  .rw[YL.mp a];show g
def Fe:upd (upd H d o) d a=upd H d a:=by
 funext b;unfold upd;split
 .rfl
 .rfl
def Rf{Q:gw->YA->Prop}(h:a9U s.heap p xs)(q:Q xs.toList s):Y6 (Y5 P w) A (a5C<|.ref p) Q E s:=by obtain⟨o,g,c,n,a⟩:=h;have ty:s.TypeIs (.ref p) "tuple":=⟨o,g,c⟩;unfold a5C;show Yw<|a4D ty ?_;rw[if_pos<|by decide];unfold a3t;show Yw<|Yw<|a6Y g ?_;rw[a];show YH<|YH q
def Rg{σ:St}(hh:A.handled=b5)(hu:A.in1.units<a0k):∀L i(ps:bM)H s,Inv X b0Z σ H s->H d=b0 (aQ d ps)->dP X.K H ps->SqT X.K H t ys->ys.drop i=L.map (λr=>V.ref r.1)->
  (∀r∈L,SqT X.K H r.1 [.ref r.2.2.1,r.2.2.2]/\SqT X.K H r.2.2.1 (r.2.1.map V.int))->iA X b0Z H it->s.heap.IsTupleIter it t i->ps.length+L.length<=YM->
  (∀G,Inv X b0Z σ (upd H d<|aQ d<|oJ ps L) G->R (.ok<|.ret .none) G)->a2y (Y5 X.prog X.w) A (.builtin "dict.update.loop" ⟨[.ref d,.ref it,a3u i,.none],[]⟩) R s:=by
 intro L;induction L with
 |nil=>
  intro i ps H s I e Q y hd B O st U q;obtain⟨g,rv,p,Y⟩:=I.tuple y;obtain⟨j,l,f2,n,v,w⟩:=O;have hl:=rv.length;have hlen:ys.length<=i:=by have:=congrArg ZE hd;simp at this;lia
  show Z2 Fd ?_;rw[Zy vM _];change Y6 _ A.in1 (a2b (.ref it) >>= _) _ _ s;show Yw (a8e hh st (show s.heap.IsTuple t g.toArray from p) (by simp;lia) λK eb=>?_);have k:Inv X b0Z σ H {s with heap:=K}:=I.turned (t':=s.toks) (λb o M e=>eb b o M e) j l n v w;change Y6 _ _ (a5k d [] >>= _) _ _ _;show Yw<|YH<|YH<|q _ ?_;have:upd H d (aQ d<|oJ ps [])=H:=by
   funext b;unfold upd;split
   .rename_i z;rw[z];show e.symm
   .rfl
  rw[this];show k
 |cons r L ih=>
  intro i ps H s I e Q y hd B O st U q;obtain⟨g,rv,p,Y⟩:=I.tuple y;obtain⟨j,l,f2,n,v,w⟩:=id O;have E:ys[i]?=b0 (.ref r.1):=by have:=congrArg (·[0]?) hd;simpa using this
  obtain⟨u,fK,ru⟩:=rv.get E;cases ru;show Z2 Fd ?_;rw[Zy vM _];change Y6 _ A.in1 (a2b (.ref it) >>= _) _ _ s;show Yw (a7O st (show s.heap.IsTuple t g.toArray from p) (x:=.ref r.1) (by simpa using fK) λK st' sb=>?_);have k:Inv X b0Z σ H {s with heap:=K}:=I.turned (t':=s.toks) (λb o M e=>(sb.2 b M).trans e) j l n v w;have a:=B r<|Zs ..;obtain⟨its2,rv2,p2,_⟩:=k.tuple a.1;cases rv2 with
  |cons rk Z=>
   cases Z with
   |cons rw' Z=>
    cases Z;cases rk;rename_i w0;show Yw<|Zz<|Yw<|a0U<|Rf p2 ?_;have T:ps.length<YM:=by rw[Zc]at U;lia
    show Zz<|Ra hu k e Q a.2 T rw' λG I2 kp=>?_;show YH ⟨Z8 vM _,?_⟩;have bL:it≠d:=λz=>by rw[<- z,j]at e;cases e
    have c:∀x∈L,SqT X.K (upd H d<|aQ d<|dS ps r.2.1 r.2.2.1 r.2.2.2) x.1 [.ref x.2.2.1,x.2.2.2]/\SqT X.K (upd H d<|aQ d<|dS ps r.2.1 r.2.2.1 r.2.2.2) x.2.2.1 (x.2.1.map V.int):=λx E=>⟨sE e (B x<|Zl _ E).1,sE e (B x<|Zl _ E).2⟩;have N:ys.drop (i+1)=L.map (λr=>V.ref r.1):=by have:=congrArg List.tail hd;simpa[List.tail_drop]using this
    show ih (i+1) (dS ps r.2.1 r.2.2.1 r.2.2.2) _ G I2 c3 (Rb (λp hp=>sE e<|Q p hp)<|sE e a.2) (sE e y) N c ⟨by rw[bH bL];show j,l,f2,n,v,w⟩ (st'.at λo ho=>kp it o bL ho) ?_ λs'' h=>q s'' ?_
    .have:=r6 ps r.2.1 r.2.2.1 r.2.2.2;rw[Zc]at U;lia
    .rw[Fe]at h;show h
abbrev Ff(K:Yx):gz->Hp->VK->Prop:=λxs H Q=>∃(t:Addr)(L:List (Addr×List Int×Addr×V)),xs=[V.ref t]/\SqT K H t (L.map λr=>V.ref r.1) /\
 (∀r∈L,SqT K H r.1 [.ref r.2.2.1,r.2.2.2]/\SqT K H r.2.2.1 (r.2.1.map V.int))/\∀d,H d=b5->Q (.ref d) (upd H d<|aQ d<|oJ [] L)
def Rh(hc:X.calm=d7)(Z:X.A.units+64<a0k):CallR X (.type "dict") (Ff X.K):=by
 intro d s O H xs us Q I r h;obtain⟨t,L,rfl,w,N,k⟩:=h;obtain⟨u,rfl,ru⟩:=fH r;cases ru;have M:H s.heap.objs.size=none:=I.hok.fresh<|YG _;show b0X (Q₁:=λi c=>i=.ref s.heap.objs.size/\c={s with heap:=s.heap.push {cls:=.type "dict",data:=.dict #[]}}) F.kt_called_dict (F.kt_typeCall_dict_1 _) F.entry_dict_init (kt_code_dict_new _ ⟨rfl,rfl⟩) ?_;rintro i c ⟨rfl,rfl⟩;have E:Inv X d O (upd H s.heap.objs.size<|aQ s.heap.objs.size []) {s with heap:=s.heap.push {cls:=.type "dict",data:=.dict #[]}}:=I.laid (a:=s.heap.objs.size) (o:=aQ s.heap.objs.size []) (t':=s.toks) (λ_ _ q=>YC _ q) (YG _)<|ET s.heap I.big;have ty:({s with heap:=s.heap.push {cls:=.type "dict",data:=.dict #[]}}:YA).TypeIs (.ref s.heap.objs.size) "dict":=⟨_,YR _ rfl,rfl⟩;show⟨ty,F.args_dict_init_2 _ _,?_⟩;unfold Builtin.«dict.__init__»;show Yw ?_;unfold a5j;show Yw<|a2k ty ?_;change Y6 _ _ (pure (s.heap.objs.size,[YY t])) _ _ _;show YH ?_;change Y6 _ _ (a2n "dict.__init__" s.heap.objs.size (.ref t) [] .none) _ _ _;unfold a2n;have mono:∀{b:Addr}{vs:gz},SqT X.K H b vs->SqT X.K (upd H s.heap.objs.size<|aQ s.heap.objs.size []) b vs:=λ{b vs} z=>by
  have ne:H b≠b5->b≠s.heap.objs.size:=λf y=>by rw[y]at f;show f M
  rcases z with(z|⟨A,z⟩)|z
  .show .inl<|.inl<|by rw[bH<|ne<|by rw[z];show λy=>nomatch y];show z
  .show .inl<|.inr ⟨A,by rw[bH<|ne<|by rw[z];show λy=>nomatch y];show z⟩
  .show .inr z
 obtain⟨its,rv,A,G,K,n,T,U⟩:=E.tupN<|mono w;show Yw<|a4D ⟨A,G,K⟩ ?_;rw[if_pos<|by decide];show Yw<|Q9 G K T U (I.ok.hd hc) λv l kp=>?_;have j:Inv X d O (upd H s.heap.objs.size<|aQ s.heap.objs.size []) {s with heap:=v,toks:=l}:=E.kept (t':=l) kp;change Y6 _ _ (rule _ >>= _) _ _ _;show Yw<|a1b ?_;obtain⟨a,rv',p',x⟩:=j.tuple<|mono w;show Yw<|a2a (t:=t) (items:=a.toArray) (show({s with heap:=v,toks:=l}:YA).heap.IsTuple t a.toArray from p') ?_;have R:=j.kept (t':=l) (h':=v.push {cls:=.type "tuple_iterator",data:=.fields #[.ref t,.int 0 0]}) λb o e=>YC _ e;show YH ⟨Z8 vM _,?_⟩;show Rg (A:=X.A.in1) (I.ok.hd hc) ?_ L 0 [] _ _ R c3 (λp Y=>nomatch Y) (mono w) rfl (λr g=>⟨mono (N r g).1,mono (N r g).2⟩) (j.fpOk (YG _)<|j.hok.fresh<|YG _) ⟨_,YR _ rfl,rfl,rfl⟩ ?_ λs' B=>?_
 .change X.A.units+1+1<a0k;lia
 .have:=x;simp at this ⊢;show this
 .rw[Fe]at B;show⟨rfl,.ref s.heap.objs.size,_,B,rfl,k _ M⟩
abbrev qD:List D->Option (jx)
 |[]=>b0 []|.tup [x,v]::r=>(cY x).bind λk=>(qD r).map λl=>(k,v)::l|_::_=>b5
abbrev oK:MF:=λds a=>match ds with
 |[.tup xs]=>(qD xs).map λl=>(.loc a.length,a++[.dT<|l.foldl (λq p=>bW q p.1 p.2) []])|_=>b5
noncomputable abbrev Fg(K:Yx)(π:Nat->Addr)(n:Nat)(H:Hp):List (Addr×List Int×Addr×V)->jx->Prop:=
 a3x λr p=>r.2.1=p.1/\SqT K H r.1 [.ref r.2.2.1,r.2.2.2]/\SqT K H r.2.2.1 (r.2.1.map V.int)/\IsD K π n H r.2.2.2 p.2
def Fh:∀{xs}{ws}{l},IsDs K π n H ws xs->qD xs=b0 l->∃L,ws=L.map (λr=>V.ref r.1)/\Fg K π n H L l
 |[],_,_,.nil,h=>by cases h;show⟨[],rfl,.nil⟩
 |x::xs,_,l,.cons i t,h=>by
  unfold qD at h;split at h
  .rename_i a;cases a
  .rename_i y v r a;cases a;obtain⟨k,d,h⟩:=Yv.mp h;obtain⟨o,e,rfl⟩:=YB.mp h;obtain⟨L,rfl,P⟩:=Fh t e;cases i with
   |tup q z=>
    cases z with
    |cons g z=>
     cases z with
     |cons j z=>cases z;obtain⟨b,rfl,c⟩:=mT g d;show⟨(_,k,b,_)::L,rfl,.cons ⟨rfl,q,c,j⟩ P⟩
  .cases h
def Fj:∀{L}{l},Fg K π n H L l->∀{ps}{kvs},IsTs K π n H ps kvs->IsTs K π n H (oJ ps L) (l.foldl (λq p=>bW q p.1 p.2) kvs)
 |_,_,.nil,_,_,h=>h|r::L,p::l,.cons e t,ps,kvs,h=>by obtain⟨a,_,b,c⟩:=e;change IsTs K π n H (oJ (dS ps r.2.1 r.2.2.1 r.2.2.2) L) (l.foldl _<|bW kvs p.1 p.2);rw[<- a];show Fj t<|h.put r.2.1 b c
def Ri:dW K oK (Ff K):=by
 intro x H w o d s v Q R i a k;unfold oK at a;split at a
 .rename_i o;obtain⟨l,c,j⟩:=YB.mp a;cases j;cases i with
  |cons i t=>
   cases t;cases i with
   |tup q z=>
    obtain⟨L,rfl,P⟩:=Fh z c;show⟨_,L,rfl,q,?_,λd hd=>?_⟩
    .clear q z k a c;induction P with
     |nil=>show λr b=>nomatch b|cons e t n=>
      intro r b;rcases Zm.mp b with rfl|b
      .show⟨e.2.1,e.2.2.1⟩
      .show n r b
    .have T:=Fj P (ps:=[]) (kvs:=[]) .nil;obtain⟨h,g,u⟩:=R.alloc (c:=.dT (l.foldl (λq p=>bW q p.1 p.2) [])) (o:=aQ d (oJ [] L)) hd ⟨_,rfl,T.to.1,T.to.2.1,T.to.2.2⟩;show k _ _ _ h g kI
 .cases a
abbrev ItI(h:ZX)(c d S:Addr)(i n ep:Nat):Prop:=∃(b ok g:Value)(e:Bool),h.get? c=b0 {cls:=.type "dict_itemiterator",dict:=b5,data:=.fields #[b,.bool e,.ref d,.int i 0,.int n 0,.int ep 0,ok,g],slots:=#[]} /\
 (b=.none\/∃(a:Addr)(o:Obj),b=a3u a/\h.get? a=b0 o/\a≠c/\a≠S)
def ItI.stay{i n ep}(j:ItI h c d S i n ep)(l:c≠S)(k:∀b o,b≠S->h.get? b=b0 o->h'.get? b=b0 o):ItI h' c d S i n ep:=by
 obtain⟨w,ok,p,g,e,r⟩:=j;show⟨w,ok,p,g,k _ _ l e,?_⟩;rcases r with r|⟨a,o,s,u,v,r4⟩
 .show .inl r
 .show .inr ⟨a,o,s,k _ _ r4 u,v,r4⟩
def Ai{i ep:Nat}(hh:A.handled=b5)(B:s.heap.get? it=b0 {cls:=.type "dict_itemiterator",dict:=b5,data:=.fields #[p,.bool N,.ref d,.int i 0,.int es.size 0,.int ep 0,ok,H],slots:=#[]})(jr:p=.none\/∃(a:Addr)(o:Obj),p=a3u a/\s.heap.get? a=b0 o/\a≠it/\a≠S)(g:RawD s.heap d es ep)(hS:S<s.heap.objs.size)(q1:∀e j,es[i]?=b0 e->ItI j it d S (i+1) es.size ep->(p=.none->a5z j it d (i+1) es.size ep e.key e.val s.heap.objs.size)->j.get? s.heap.objs.size=b0 {cls:=.type "tuple",data:=.seq #[e.key,e.val]}->j.objs.size=s.heap.objs.size+1->(∀b o,b≠it->s.heap.get? b=b0 o->j.get? b=b0 o)->Q (b0<|.ref s.heap.objs.size) {s with heap:=j})(q2:es[i]?=b5->∀j,a4B it s.heap j->Q b5 {s with heap:=j}):Y6 (Y5 P w) A (a2b<|.ref it) Q E s:=by
 obtain⟨z,g1,g2,g3⟩:=id g;have ty:s.TypeIs (.ref it) "dict_itemiterator":=⟨_,B,rfl⟩;obtain⟨c,y,r,I,G⟩:=s;have X:∀{Q:String->YA->Prop}{A:Zi}{E:Value->YA->Prop},Q "dict_itemiterator" ⟨c,y,r,I,G⟩->Y6 (Y5 P w) A (b0n<|.ref it) Q E ⟨c,y,r,I,G⟩:=λq=>wpAny_typeNameOfWhole_itemiter ty q;unfold a2b;show Yw<|a7D<|a7P (name:=a1n "__next__") ty F.slot_dict_itemiterator_next<|a1c F.slot_dict_itemiterator_next ty F.entry_dict_itemiterator_next ?_<|F.args_dict_itemiterator_next_1 _;show Yw<|YH<|Yw<|Yw<|Yw<|X<|YH<|Yw<|b0O B rfl ?_;rw[show a2x "dict_itemiterator"=d7 by decide,if_pos rfl];change Y6 _ _ (if(YY d==a0z)=d7 then _ else _) _ _ _;rw[if_neg<|show ¬ (YY d==a0z)=d7 from λx=>YE x];show Yw<|YH<|Yw<|a0t g1 g3 ?_;rw[if_neg λx=>by simp at x];show Yw<|YH<|Yw<|a2O g1 g3 ?_;rw[if_neg λx=>by simp at x];show YH ?_;dsimp only;rw[if_neg<|show ¬ ((i:Int)<0) by lia,a0S];have U:it<c.objs.size:=YJ B;cases he:es[i]? with
 |some e=>
  show Yw<|Yw<|X<|YH<|Yw<|a4E ty ?_;change Y6 _ _ (a8S (.ref it) 3 (a3u<|(i:Int)+1) >>= _) _ _ _;show Yw (a1Z B (by simp) λu R T=>?_);replace T:a0Q it c u:=T;replace R:u.get? it=b0 {cls:=.type "dict_itemiterator",dict:=b5,data:=.fields #[p,.bool N,.ref d,.int ((i+1:Nat):Int) 0,.int es.size 0,.int ep 0,ok,H],slots:=#[]}:=by rw[show((i+1:Nat):Int)=(i:Int)+1 by lia];simpa[a3u]using R
  have K:Shared.TypeIs ⟨u,y,r,I,G⟩ (.ref it) "dict_itemiterator":=⟨_,R,rfl⟩;show Yw<|Zz<|Yw<|a4E K<|Yw<|a4E K ?_;change Y6 _ _ (a3Y (.ref it) 6 e.key e.val) _ _ _;unfold a3Y;show Yw<|a6X ?_;have zu:u.objs.size=c.objs.size:=T.1;have k:=YC {cls:=.type "tuple",data:=.seq #[e.key,e.val]} R;have vt:(u.push {cls:=.type "tuple",data:=.seq #[e.key,e.val]}).get? c.objs.size=b0 {cls:=.type "tuple",data:=.seq #[e.key,e.val]}:=zu▸YR u rfl;have vz:(u.push {cls:=.type "tuple",data:=.seq #[e.key,e.val]}).objs.size=c.objs.size+1:=by rw[a1v,zu]
  have L:∀b o,b≠it->c.get? b=b0 o->(u.push {cls:=.type "tuple",data:=.seq #[e.key,e.val]}).get? b=b0 o:=λb o O x=>YC _<|T.extBut b o O x;change Y6 _ _ (a3J (.ref it) >>= _) _ _ ⟨u.push {cls:=.type "tuple",data:=.seq #[e.key,e.val]},y,r,I,G⟩;rw[zu];generalize u.push {cls:=.type "tuple",data:=.seq #[e.key,e.val]}=v at k vt vz L;have h:c.objs.size≠it:=a0r U;have fin:∀l:ZX,ItI l it d S (i+1) es.size ep->(p=.none->a5z l it d (i+1) es.size ep e.key e.val c.objs.size)->a0Q it v l->Q (b0<|.ref c.objs.size) ⟨l,y,r,I,G⟩:=λl j' jo Z=>q1 e l he j' jo (Z.extBut _ _ h vt) (by change l.objs.size=_;rw[Z.1,vz]) λb o O x=>Z.extBut b o O<|L b o O x;show Yw ?_;unfold a3J;rcases jr with rfl|⟨a,o,rfl,Y,n,r4⟩
  .show Yw<|a4g k rfl (x:=.none) rfl<|YH ?_;simp only[if_true];show Yw<|a4g k rfl (x:=ok) rfl<|Yw<|a4g k rfl (x:=H) rfl ?_;show Yw (a1Z k (by simp) λv3 x3 M=>Yw<|a1Z x3 (by simp) λv4 x4 y4=>Yw<|a1Z x4 (by simp) λv5 x5 y5=>Yw<|a1Z x5 (by simp) λv6 x6 y6=>?_);have x7:a5z v6 it d (i+1) es.size ep e.key e.val c.objs.size:=x6;show Yw<|a1z<|YH<|YH ⟨_,rfl,YH<|fin v6 ?_ (λ_=>x7) ?_⟩
   .show⟨a3u c.objs.size,e.key,e.val,dI,x7,.inr ⟨c.objs.size,_,rfl,y6.extBut _ _ h<|y5.extBut _ _ h<|y4.extBut _ _ h<|M.extBut _ _ h vt,h,a0r hS⟩⟩
   .show((M.trans y4).trans y5).trans y6
  .show Yw<|a4g k rfl (x:=a3u a) rfl ?_;change Y6 _ _ (loadIfAlive ((a:Int).toNat) >>= _) _ _ _;rw[a0S];show Yw<|PySem.W.kdx_alive (L a o n Y) ?_;simp only[Option.isNone_some,Zf,if_false];show Yw<|a4g k rfl (x:=.bool N) rfl ?_;cases N with
   |true=>rw[if_neg<|show ¬ ((a0O d7 != a0O d7)=d7)from λx=>YE x];show YH ?_;simp only[Zf,if_false];show YH (YH ⟨_,rfl,YH<|fin v ⟨_,ok,H,d7,k,.inr ⟨a,o,rfl,L a o n Y,n,r4⟩⟩ (λz=>nomatch z)<|a3p _ _⟩)|false=>rw[if_pos<|show(a0O dI != a0O d7)=d7 from rfl];show Yw (a1Z k (by simp) λv3 x3 M=>YH ?_);simp only[Zf,if_false];show YH<|YH ⟨_,rfl,YH<|fin v3 ⟨_,ok,H,d7,by simpa using x3,.inr ⟨a,o,rfl,M.extBut a o n<|L a o n Y,n,r4⟩⟩ (λz=>nomatch z) M⟩
 |none=>show Yw<|Yw<|X<|YH ?_;change Y6 _ _ (a8S (.ref it) 2 .none >>= _) _ _ _;show Yw (a6W B rfl (by simp) ?_);change Y6 _ _ (b0T (.type "StopIteration") [] >>= _) _ _ _;simp only[b0T,a8T];show Yw (Yw<|Z7 ?_<|by size_fits);show Yw (m:=a4Z _ _) (a6z (a:=a0z) (by first|rfl|(simp only[a4Z];rfl))<|Z7 ?_<|by size_fits);unfold raiseNew;show Yw<|wpAny_handled ?_;rw[show A.in1.handled=b5 from hh];show Yw<|YH<|wpAny_throw ?thrown;case thrown=>show Yw<|a3r (T:="StopIteration") (b:=d7) ⟨_,YR _ rfl,rfl⟩ b0W<|YH<|q2 he _<|((ZS ..).extBut.push _).push _
def Fm(a:s.heap.IsItemsView r d)(g:RawD s.heap d es ep)(q:Q (.ref s.heap.objs.size) {s with heap:=s.heap.push {cls:=.type "dict_itemiterator",data:=.fields #[.none,.bool dI,.ref d,.int 0 0,.int es.size 0,.int ep 0,.none,.none]}}):Y6 (Y5 P w) A (a6s<|.ref r) Q E s:=by
 obtain⟨y,e,k,h⟩:=id a;obtain⟨z,b,j,c⟩:=id g;show a9G a.typeIs F.slot_dict_items_iter<|a1c F.slot_dict_items_iter a.typeIs F.entry_dict_items_iter ?_<|F.args_dict_items_iter_1 _;unfold Builtin.«dict_items.__iter__» a8O a8N;show Yw<|YH<|Yw<|Yw<|a4g e h (x:=.ref d) rfl<|YH<|Yw<|Yw<|a0t b c<|Yw<|a2O b c ?_;simp only[show a2x "dict_itemiterator"=d7 by decide,if_true];show Z7 (YH ⟨_,rfl,"dict_itemiterator",_,⟨_,YR _ rfl,rfl⟩,F.slot_dict_itemiterator_next.lookup,?_⟩) (by simp only[sizeOk,a3K,YI,YF,Zc,a1S];rw[Y2];lia);simpa[a3u,a3K]using q
structure PrsAt(es:Array DictEntry)(lo:Addr)(h:ZX)(as:List Addr):Prop where
 up:as.Pairwise (·<·)
 over:∀a∈as,lo<a
 prs:∀(j:Nat)(a:Addr),as[j]?=b0 a->∃e,es[j]?=b0 e/\h.get? a=b0 {cls:=.type "tuple",data:=.seq #[e.key,e.val]}
def PrsAt.stay(p:PrsAt es lo h as)(k:∀b o,lo<b->h.get? b=b0 o->h'.get? b=b0 o):PrsAt es lo h' as:=
 ⟨p.up,p.over,λj a c=>let⟨e,d,g⟩:=p.prs j a c;⟨e,d,k a _ (p.over a<|YZ c) g⟩⟩
def PrsAt.lt{es:Array DictEntry}{lo:Addr}{h:ZX}{as:List Addr}(p:PrsAt es lo h as){a:Addr}(b:a∈as):a<h.objs.size:=by obtain⟨j,c⟩:=a1Y.mp b;obtain⟨_,_,e⟩:=p.prs j a c;show YJ e
def PrsAt.snoc(p:PrsAt es lo h as)(k:∀a∈as,a<b)(n:lo<b)(l:es[as.length]?=b0 e)(o:h.get? b=b0 {cls:=.type "tuple",data:=.seq #[e.key,e.val]}):PrsAt es lo h (as++[b]):=by
 show⟨a0g.mpr ⟨p.up,List.pairwise_singleton _ _,λa d c hc=>by rw[YL.mp hc];show k a d⟩,λa d=>?_,λj a g=>?_⟩
 .rcases YN.mp d with d|d
  .show p.over a d
  .rw[YL.mp d];show n
 .rcases a3V j as.length with i|i|i
  .rw[Ze i]at g;show p.prs j a g
  .subst i;have:b=a:=by simpa using g
   subst this;show⟨e,l,o⟩
  .rw[a0E<|by simp;lia]at g;cases g
def Rj{s:YA}(U:A.handled=b5)(v:S<I)(K:d≠S)(H:d≠I)(hn:es.size<=YM)res{h1:ZX}(X:∀h' tk acc c as,(∀b o,b≠S->b≠I->h1.get? b=b0 o->h'.get? b=b0 o)->h'.get? S=b0 {cls:=.type "list",dict:=b5,data:=.seq acc c,slots:=#[]}->as.length=es.size->PrsAt es I h' as->acc.toList=as.map YY->R (.ok<|.ret res) {s with heap:=h',toks:=tk}):
  ∀k i h tk c acc as,es.size-i=k->i<=es.size->ItI h I d S i es.size ep->RawD h d es ep->(∀b o,b≠S->b≠I->h1.get? b=b0 o->h.get? b=b0 o)->h.get? S=b0 {cls:=.type "list",dict:=b5,data:=.seq acc c,slots:=#[]}->
   acc.toList=as.map YY->as.length=i->PrsAt es I h as->I<h.objs.size->a2y (Y5 P w) A (.builtin "list.extend.loop" ⟨[.ref S,.ref I,res],[]⟩) R {s with heap:=h,toks:=tk}:=by
 have ne:S≠I:=Y7 v;intro k;induction k with
 |zero=>intro i h tk c acc as Z Y ⟨_,_,_,_,N,O⟩ g Q n E y G lt;show Z2 F.entry_extend_loop ?_;rw[Zy F.plain_extend_loop _];show Yw (m:=a2b (.ref I)) (Ai (s:={s with heap:=h,toks:=tk}) (A:=A.in1) U N O g (YJ n) (λe h' l=>?_) λ_ h' x=>YH<|X h' tk acc c as (λb o B r z=>x b o r<|Q b o B r z) (x S _ ne n) ⋯ (G.stay λb o p z=>x b o (a0r p) z) E);rw[a6O<|by lia]at l;cases l|succ k ih=>
  intro i h tk c acc as Z Y ⟨_,_,_,_,N,O⟩ g Q n E y G lt;have sz:acc.size=i:=by rw[<- a1I,E,Yu,y]
  show Z2 F.entry_extend_loop ?_;rw[Zy F.plain_extend_loop _];show Yw (m:=a2b (.ref I))<|Ai (s:={s with heap:=h,toks:=tk}) (A:=A.in1) U N O g (YJ n) (λe h' l j' _ M hz j=>?_) λl=>?_
  .dsimp only at M hz j ⊢;have u:=j S _ ne n;have T:S<h.objs.size:=YJ n;have up:∀b o,b≠S->h'.get? b=b0 o->(h'.update S<|ZW (·.push<|YY h.objs.size)).get? b=b0 o:=λb o p z=>(ZI _ _<|ZJ p).trans z;show Yw (m:=a3s S (·.push<|YY h.objs.size)) (a0q u rfl (YH ⟨Z8 F.plain_extend_loop _,?_⟩) (by rw[sz];lia)<|by change(acc.push<|YY h.objs.size).size<=YM+1;rw[Array.size_push,sz];lia);show ih (i+1) _ tk _ (acc.push<|YY h.objs.size) (as++[h.objs.size]) ⋯ ⋯ (j'.stay (ZJ ne) up) (g.stay λo z=>up d o K<|j d o H z) (λb o B r z=>up b o B<|j b o r<|Q b o B r z) (ZN _ u rfl) (by rw[a0A,E,YV];rfl) (by rw[YF,y];rfl) ?_ ?_
   .show((G.stay λb o p z=>up b o (a0r<|a5o v p)<|j b o (a0r p) z)).snoc (λa L=>G.lt L) lt (by rw[y];show l)<|up _ _ (a0r T) M
   .show a5o lt<|YJ<|up _ _ (a0r T) M
  .rw[a3L<|by lia]at l;cases l
def Rk(L:A.handled=b5)(u:s.heap.IsItemsView r d)(g:RawD s.heap d es ep)(Sr:S≠r)(z:d≠S)(E:s.heap.get? S=b0 {cls:=.type "list",data:=.seq #[] c0})(N:es.size<=YM)(H:∀h' tk acc c as,(∀b o,b≠S->s.heap.get? b=b0 o->h'.get? b=b0 o)->h'.get? S=b0 {cls:=.type "list",dict:=b5,data:=.seq acc c,slots:=#[]}->as.length=es.size->PrsAt es s.heap.objs.size h' as->acc.toList=as.map YY->R (.ok<|.ret res) {s with heap:=h',toks:=tk}):
  Y6 (Y5 P w) A.in1 (a0F (.ref S) (.ref r) res) (λfin n=>match fin with|.done f=>R (.ok f) n|.again c'=>c'.quiet=d7/\a2y (Y5 P w) A c' R n) (λe n=>R (.error e) n) s:=by
 have y:S<s.heap.objs.size:=YJ E;have G:d<s.heap.objs.size:=g.lt;have run:∀(h:ZX)(p tk:Nat),(∀b o,b≠S->(s.heap.push {cls:=.type "dict_itemiterator",data:=.fields #[.none,.bool dI,.ref d,.int 0 0,.int es.size 0,.int ep 0,.none,.none]}).get? b=b0 o->h.get? b=b0 o)->h.get? S=b0 {cls:=.type "list",data:=.seq #[] p}->
   a2y (Y5 P w) A (.builtin "list.extend.loop" ⟨[.ref S,.ref s.heap.objs.size,res],[]⟩) R {s with heap:=h,toks:=tk}:=by
  intro h p tk v i;have B:=v s.heap.objs.size _ (a0r y)<|YR _ rfl;show Rj (s:=s) (h1:=s.heap) (ep:=ep) L y z (Y7 G) N res (λh' x acc c as Q T U X Y=>H h' x acc c as (λb o k e=>Q b o k (Y7<|YJ e) e) T U X Y) es.size 0 h tk p #[] [] (a4m _) (a0d _)
   ⟨.none,.none,.none,dI,B,.inl rfl⟩ (g.stay λo e=>v d o z<|YC _ e) (λb o k _ e=>v b o k<|YC _ e) i rfl rfl ⟨a4o,λ_ K=>(by cases K),λj a M=>(by simp at M)⟩<|YJ B
 unfold a0F;show Yw<|a4D (T:="dict_items") u.typeIs ?_;simp only[show a2f (.ref S) (.ref r)=dI by simp[a2f,Sr],show(Y8 "dict_items"==Y8 "list")=dI by decide,show(Y8 "dict_items"==Y8 "tuple")=dI by decide,a4R,Zf,if_false];show Yw<|Fm u g ?_;have i:=YC {cls:=.type "dict_itemiterator",data:=.fields #[.none,.bool dI,.ref d,.int 0 0,.int es.size 0,.int ep 0,.none,.none]} E;show Yw<|Zz<|PySem.W.kdx_hint (let⟨o,O,hc,_⟩:=u;⟨o,YC _ O,hc⟩) ?_;show a2h (λ_=>?_) λ_=>YH ⟨Z8 F.plain_extend_loop _,run _ c0 _ (λb o _ e=>e) i⟩;show Yw<|a1b<|Yw ?_;show Yw (m:=a3s S (·.push .none))<|a0q i rfl ?_;have l:=ZN (ZW (·.push a0z)) i rfl;show a0q (hz:=by seq_fits) l rfl<|YH ⟨Z8 F.plain_extend_loop _,run _ _ _ (λb o k e=>?_)<|ZN (ZW (·.pop)) l rfl⟩;show(ZI _ _<|ZJ k).trans<|(ZI _ _<|ZJ k).trans e
def Rl{T:gw->YA->Prop}(G:A.handled=b5)(u:s.heap.IsItemsView r d)(g:RawD s.heap d es ep)(H:es.size<=YM)(q:∀h' tk as,(∀b o,s.heap.get? b=b0 o->h'.get? b=b0 o)->as.length=es.size->PrsAt es s.heap.objs.size h' as->s.heap.objs.size<=h'.objs.size->T (as.map YY) {s with heap:=h',toks:=tk}):Y6 (Y5 P w) A (collect<|.ref r) T E s:=by
 have K:r<s.heap.objs.size:=let⟨_,n,_⟩:=u;YJ n
 unfold collect
 show Yw<|wpAny_runValue<|Z2 b0x ?_
 rw[Zy F.plain_proto_collect _]
 show Yw (m:=newList [])<|Z7<|YH ⟨Z8 F.plain_list_iadd _,Z2 b0y ?_⟩
 rw[Zy F.plain_list_iadd _]
 have z:(s.heap.push {cls:=.type "list",data:=.seq ([]:gw).toArray}).get? s.heap.objs.size=b0 {cls:=.type "list",data:=.seq #[]}:=YR _ rfl
 have all:=Rk (A:=A) (s:={s with heap:=s.heap.push {cls:=.type "list",data:=.seq ([]:gw).toArray}}) (P:=P) (w:=w) (es:=es) (ep:=ep) (res:=.ref s.heap.objs.size) (c0:=0)
  (R:=λ(q:a5b)(p:YA)=>∃(h':ZX)(tk:Nat)(acc:Array Value)(c:Nat)(as:List Addr),q=.ok (.ret<|.ref s.heap.objs.size)/\p={s with heap:=h',toks:=tk}/\(∀b o,s.heap.get? b=b0 o->h'.get? b=b0 o)/\h'.get? s.heap.objs.size=b0 {cls:=.type "list",dict:=b5,data:=.seq acc c,slots:=#[]}/\as.length=es.size/\PrsAt es s.heap.objs.size h' as/\acc.toList=as.map YY)
  G (let⟨o,n,x⟩:=u;⟨o,YC _ n,x⟩) (g.stay λo e=>YC _ e) (a0r K) (Y7 g.lt) z H
  λh' tk acc c as j h k i l=>⟨h',tk,acc,c,as,rfl,rfl,λb o e=>j b o (Y7<|YJ e)<|YC _ e,h,k,⟨i.up,λa B=>a5o (a0x _)<|by have:=i.over a B;rw[a1v]at this;show this,i.prs⟩,l⟩
 show ZT all (λfin p x=>?_) λe p x=>?_
 .cases fin with
  |done f=>
   obtain⟨h',tk,acc,c,as,e,rfl,j,h,k,i,l⟩:=x
   cases e
   show Yw (m:=load s.heap.objs.size)<|a6Y h<|YH ?_
   change T acc.toList _
   rw[l]
   show q h' tk as j k i<|a0y<|YJ h
  |again L=>
   show⟨x.1,a5U x.2 λy M x=>?_⟩
   obtain⟨h',tk,acc,c,as,rfl,rfl,j,h,k,i,l⟩:=x
   show Yw (m:=load s.heap.objs.size)<|a6Y h<|YH ?_
   change T acc.toList _
   rw[l]
   show q h' tk as j k i<|a0y<|YJ h
 .obtain⟨_,_,_,_,_,v,_⟩:=x
  cases v
end L3
namespace L3
open PySem L2 PySem.W PyProof.Rows
def Fn(q:Q d7 s):Y6 (Y5 P w) A (eqBool v v) Q E s:=by unfold eqBool;show Zz ?_;rw[if_pos<|by simp];show Yw<|a1b<|YH q
def vO:∀k,HT.lexLt k k=dI
 |[]=>rfl|a::k=>by simp[HT.lexLt,vO k]
abbrev jT(P:Y4)(w:Zk)(h:ZX)(b:Addr)(k:List Int):Prop:=Tb.IsT P w h k b/\∃xs:gw,a9U h b xs.toArray/\a2B xs k
def Rm{C:Bool->YA->Prop}(j:A.units<a0k)(n:s.heap.get? a=b0 {cls:=.type "tuple",data:=.seq #[.ref b,v]})(d:s.heap.get? g=b0 {cls:=.type "tuple",data:=.seq #[.ref h,l]})(i:jT P w s.heap b k)(c:jT P w s.heap h k')(o:k=k'->v=l)(q:C (HT.lexLt k k') s):Y6 (Y5 P w) A (a9v (tuples' dI) (.ref a)<|.ref g) C (λ_ _=>False) s:=by
 show kat_lt n rfl d rfl ?_;show a6Z<|(a2i<|a1P P w).eqBool j i.1 c.1 ?_;by_cases e:k=k'
 .obtain rfl:=o e;subst e;rw[decide_eq_true rfl];show a9K<|a6Z<|Fn<|a9K<|kat_nil ?_;rw[vO]at q;show q
 .rw[decide_eq_false e];obtain⟨y,u,p⟩:=i.2;obtain⟨z,x,r⟩:=c.2;show kat_no (kat_one _ _<|HT.lt_tupInts u x (by simpa using p) (by simpa using r) j ?_);show q
abbrev oM(P:Y4)(w:Zk)(A:Zi)(us:gw)(an:Nat->Nat->Bool)(s:YA):Prop:=
 Y6 (Y5 P w) A (keyKind' us.toArray) (λb a=>a=s/\∀(i j:Nat)(C:Bool->YA->Prop),i<us.length->j<us.length->C (an i j) s->Y6 (Y5 P w) A (a9v b (us.getD i .none)<|us.getD j .none) C (λ_ _=>False) s) (λ_ _=>False) s
def Ro{lo:Addr}{bs:List Addr}{ks:List (List Int)}(hu:A.units<a0k)(p:PrsAt es lo s.heap as)(h0:0<as.length)(hl:as.length=es.size)(hk:ks.length=es.size)(hbl:bs.length=es.size)(key:∀j e,es[j]?=b0 e->e.key=.ref (bs.getD j 0)/\jT P w s.heap (bs.getD j 0) (ks.getD j []))(nd:ks.Nodup):oM P w A (as.map YY) (λi j=>HT.lexLt (ks.getD i [])<|ks.getD j []) s:=by
 have g:∀i,i<as.length->∃(e:DictEntry),es[i]?=b0 e/\s.heap.get? (as.getD i 0)=b0 {cls:=.type "tuple",data:=.seq #[.ref (bs.getD i 0),e.val]}/\jT P w s.heap (bs.getD i 0) (ks.getD i []):=λi d=>by
  have Q:as[i]?=b0 (as.getD i 0):=by simp[ZV,d]
  obtain⟨e,B,r⟩:=p.prs i _ Q;obtain⟨k1,G⟩:=key i e B;rw[k1]at r;show⟨e,B,r,G⟩
 unfold oM;have u:KatTups s.heap (as.map YY) (bs.map YY):=by
  have go:∀(n:Nat)(a c:List Addr),a.length=n->c.length=n->(∀i,i<n->∃v:Value,s.heap.get? (a.getD i 0)=b0 {cls:=.type "tuple",data:=.seq #[.ref (c.getD i 0),v]})->KatTups s.heap (a.map YY) (c.map YY):=by
   intro n;induction n with
   |zero=>intro a c k l _;rw[a1g.mp k,a1g.mp l];show .nil|succ n ih=>
    intro a c k l N;match a,c,k,l with
    |x::a,y::c,k,l=>obtain⟨v,L⟩:=N 0 ⋯;show .cons L rfl rfl (by simp) (ih a c (by simpa using k) (by simpa using l) λi d=>?_);have:=N (i+1) ⋯;simpa using this
  show go as.length as bs rfl ⋯ λi d=>?_;obtain⟨e,_,r,_⟩:=g i d;show⟨_,r⟩
 show kat_kind (T:=.type "tuple") u (by rw[Yu];lia) (λv L=>?_) (by decide) ⟨rfl,λi j C d K Y=>?_⟩
 .obtain⟨b,Z,rfl⟩:=YO.mp L;obtain⟨i,d⟩:=a1Y.mp Z;have H:i<as.length:=by have:=(Yy.mp d).1;lia
  obtain⟨e,_,_,G⟩:=g i H;have:bs.getD i 0=b:=by simp[ZV,d]
  rw[this]at G;obtain⟨xs,⟨o,o1,o2,_⟩,_⟩:=G.2;show kitAt_ty _ _ ⟨o,o1,o2⟩
 .rw[Yu]at d K;obtain⟨e,B,r,O⟩:=g i d;obtain⟨e',M,R,T⟩:=g j K;have U:(as.map YY).getD i .none=.ref (as.getD i 0):=by simp[ZV,d]
  have X:(as.map YY).getD j .none=.ref (as.getD j 0):=by simp[ZV,K]
  rw[U,X];show Rm hu r R O T (λz=>?_) Y;have I:i=j:=by
   have k:ks.getD i []=ks[i]:=by simp[ZV,show i<ks.length by omega]
   have l:ks.getD j []=ks[j]:=by simp[ZV,show j<ks.length by lia]
   rw[k,l]at z;rcases a3V i j with h|h|h
   .show absurd z<|(ZC.mp nd) i j ⋯ ⋯ h
   .show h
   .show absurd z.symm<|(ZC.mp nd) j i nofun ⋯ h
  subst I;rw[B]at M;cases M;rfl
open Classical in
abbrev gJ(us:gw)(v:Value):Nat:=if h:∃i,us[i]?=b0 v then h.choose else 0
def vP(nd:us.Nodup)(h:us[i]?=b0 v):gJ us v=i:=by
 unfold gJ;have b:∃i,us[i]?=b0 v:=⟨i,h⟩;rw[dif_pos b];have j:=b.choose_spec;obtain⟨e,c⟩:=Yy.mp h;obtain⟨g,d⟩:=Yy.mp j;have:=ZC.mp nd;rcases a3V i b.choose with a|a|a
 .show absurd (c.trans d.symm)<|this _ _ e g a
 .show a.symm
 .show absurd (d.trans c.symm)<|this _ _ g e a
def Fo{lt:Y->Y->Bool}(O:Ord1 lt)d{ks:List Y}(hk:ks.length=us.length)(nk:ks.Nodup)(X:us.Nodup)(h2:2<=us.length)(hz:us.length<=YM)(g:s.heap.get? c=b0 (a0G "list" us.toArray z))(H:∀U,(∀b o,b≠c->s.heap.get? b=b0 o->U.get? b=b0 o)->oM P w A us (λi j=>lt (ks.getD i d)<|ks.getD j d) {s with heap:=U})(q:R (.done<|.ret .none) {s with heap:=a5F s.heap c us ((cS (λi j=>lt (ks.getD i d)<|ks.getD j d) us.length).map λi=>us.getD i a0z).toArray}):Y6 (Y5 P w) A (Builtin.«list.sort» ⟨[.ref c],[]⟩) R E s:=by
 have u:∀i,i<us.length->ks.getD i d∈ks:=λi k=>by rw[Y3,Yz<|by lia];show ZU _
 have kn:∀i j,i<us.length->j<us.length->i≠j->ks.getD i d≠ks.getD j d:=λi j k G M=>by
  rw[Y3,Y3,Yz<|by lia,Yz<|by lia];have:=ZC.mp nk;rcases Nat.lt_or_gt_of_ne M with h|h
  .show this i j ⋯ ⋯ h
  .show(this j i ⋯ ⋯ h).symm
 have r:∀v∈us,∃i,i<us.length/\us[i]?=b0 v/\gJ us v=i:=λv Q=>by obtain⟨i,k⟩:=a0Z Q;show⟨i,(Yy.mp k).1,k,vP X k⟩
 show Py (rk:=λv=>kS lt ks<|ks.getD (gJ us v) d) ?_ h2 hz g (λU kp=>?_) λl o1 o2=>?_
 .show ZC.mpr λi j k G M=>?_;rw[vP X<|Yz k,vP X<|Yz G];show Ew O (u i k) (u j G)<|kn i j k G<|by lia
 .have a:=H U kp;unfold oM at a;unfold D5;show ZT a (λκ s' hq=>?_) λ_ _ x=>x;obtain⟨e,hq⟩:=hq;show⟨e,λx y C hx hy hC=>?_⟩;obtain⟨i,B,T,L⟩:=r x hx;obtain⟨j,I,gj,Z⟩:=r y hy;dsimp only at hC;rw[L,Z,<- u6 O (u i B)<|u j I]at hC;have:=hq i j C B I hC;have e1:us.getD i .none=x:=by rw[Y3,T];rfl
  have K:us.getD j .none=y:=by rw[Y3,gj];rfl
  rw[e1,K]at this;show this
 .have N:∀i∈cS (λi j=>lt (ks.getD i d)<|ks.getD j d) us.length,i<us.length:=λi k=>ZR.mp<|(iF _ _).mem_iff.mp k;have hgd:∀i,i<us.length->us[i]?=b0 (us.getD i .none):=λi k=>by rw[Y3,Yz k];rfl
  have e:l=(cS (λi j=>lt (ks.getD i d)<|ks.getD j d) us.length).map λi=>us.getD i a0z:=by
   have hm:∀v∈l,v∈us:=λv Q=>o1.mem_iff.mp Q
      -- the places of what came l
   have p:l.map (gJ us)=cS (λi j=>lt (ks.getD i d)<|ks.getD j d) us.length:=by
    have n:(l.map<|gJ us).Perm (Zj us.length):=by
     show(o1.map<|gJ us).trans ?_;have:us.map (gJ us)=Zj us.length:=by
      apply a3R;intro i;rw[YU];by_cases k:i<us.length
      .rw[Yz k,a4M k];show congrArg b0<|vP X<|Yz k
      .rw[a0E<|by lia,a0E<|by simp;lia];rfl
     rw[this]
    have s1:(l.map<|gJ us).Pairwise λi j=>lt (ks.getD i d) (ks.getD j d)=true:=by rw[a0C];have nd:(l.map<|gJ us).Nodup:=n.nodup_iff.mpr a5y;unfold a4T at nd;rw[a0C]at nd;show a2d (R:=λx y=>kS lt ks (ks.getD (gJ us x) d)<=kS lt ks (ks.getD (gJ us y) d)/\gJ us x≠gJ us y) (λ{x y} hx hy h=>?_)<|o2.and nd;obtain⟨i,B,T,L⟩:=r x<|hm x hx;obtain⟨j,I,gj,Z⟩:=r y<|hm y hy;rw[L,Z]at h ⊢;rw[u6 O (u i B)<|u j I,decide_eq_true_eq];have:=Ew O (u i B) (u j I)<|kn i j B I h.2;have:=h.1;lia
    have s2:(cS (λi j=>lt (ks.getD i d)<|ks.getD j d) us.length).Pairwise λi j=>lt (ks.getD i d) (ks.getD j d)=true:=by
     have a:=Pz (lt:=lt) O.ir O.tr (λa b c h=>by
      cases e:lt a c with
      |true=>show .inl rfl|false=>
       cases K:lt c b with
       |true=>show .inr rfl|false=>
        cases e3:lt c a with
        |true=>rw[O.tr _ _ _ e3 h]at K;cases K
        |false=>rw[O.to _ _ e e3,K]at h;cases h) d ks (n:=us.length)<|by lia
     have nd:(cS (λi j=>lt (ks.getD i d)<|ks.getD j d) us.length).Nodup:=(iF _ _).nodup_iff.mpr a5y;show a2d (R:=λi j=>lt (ks.getD j d) (ks.getD i d)=dI/\i≠j) (λ{i j} k G h=>?_)<|a.and nd;cases e:lt (ks.getD i d) (ks.getD j d)with
     |true=>rfl|false=>show absurd (O.to _ _ e h.1)<|kn i j (N i k) (N j G) h.2
    show List.Perm.eq_of_pairwise (le:=λi j=>lt (ks.getD i d) (ks.getD j d)=d7) (λi j _ _ h1 h2=>by
     have:=O.tr _ _ _ h1 h2;rw[O.ir]at this;cases this) s1 s2<|n.trans (iF _ _).symm
   rw[<- p,Y0];symm;conv=>rhs;rw[<- b0h l]
   show a0n λv Q=>?_;obtain⟨i,B,T,L⟩:=r v<|hm v Q;change us.getD (gJ us v) .none=v;rw[L,Y3,T];rfl
  rw[e];show q
def Rq{lt:y->y->Bool}(O:Ord1 lt)d0{ks:List y}(z:an=λi j=>lt (ks.getD i d0)<|ks.getD j d0)(X:ks.length=es.size)(Z:ks.Nodup)(U:A.handled=b5)(Y:s.heap.IsItemsView r d)(g:RawD s.heap d es ep)(N:es.size<=YM)(H:2<=es.size->∀k tk as,(∀b o,s.heap.get? b=b0 o->k.get? b=b0 o)->as.length=es.size->PrsAt es s.heap.objs.size k as->oM P w A.in1.in1 (as.map YY) an {s with heap:=k,toks:=tk})(q:∀k tk as(L e:Nat),(∀b o,s.heap.get? b=b0 o->k.get? b=b0 o)->as.length=es.size->PrsAt es s.heap.objs.size k as->s.heap.objs.size<=L->(∀a∈as,a≠L)->k.get? L=b0 (a0G "list" ((cS an es.size).map λi=>YY<|as.getD i 0).toArray e)->Q (.ref L) {s with heap:=k,toks:=tk}):
  Y6 (Y5 P w) A (call (.builtin "sorted") [.ref r]) Q E s:=by
 show a6o kind_sorted plain_sorted entry_sorted (args_sorted1 _) ?_;unfold a7m;show Yw (m:=checkCount "sorted" 1 1 _) (YH<|Yw<|Rl (A:=A.in1) U Y g ⋯ λc tk as M u v p=>?_);have I:(as.map YY).length=es.size:=by rw[Yu,u]
 show Yw (a5r ?_<|by rw[I];lia);have nu:(as.map YY).Nodup:=by unfold a4T;rw[a0C];show v.up.imp λh e=>by cases e;show absurd h<|a0f _
 subst z;have n:(c.push<|a0G "list" (as.map YY).toArray 0).get? c.objs.size=b0 (a0G "list" (as.map YY).toArray 0):=YR _ rfl;have fin:∀l:gw,l=((cS (λi j=>lt (ks.getD i d0)<|ks.getD j d0) es.size).map λi=>YY<|as.getD i 0)->Q (.ref c.objs.size) {s with heap:=a5F (c.push<|a0G "list" (as.map YY).toArray 0) c.objs.size (as.map YY) l.toArray,toks:=tk}:=by
  rintro l rfl;obtain⟨e,T⟩:=sortedHeap_at (h:=c.push (a0G "list" (as.map YY).toArray 0)) (out:=((cS (λi j=>lt (ks.getD i d0)<|ks.getD j d0) es.size).map λi=>YY<|as.getD i 0).toArray) n;have old:∀b o,c.get? b=b0 o->(a5F (c.push<|a0G "list" (as.map YY).toArray 0) c.objs.size (as.map YY) ((cS (λi j=>lt (ks.getD i d0)<|ks.getD j d0) es.size).map λi=>YY<|as.getD i 0).toArray).get? b=b0 o:=λb o x=>by rw[sortedHeap_old (Y7<|YJ x)<|by rw[a1v];show a3W<|YJ x];show YC _ x
  show q _ tk as c.objs.size e (λb o x=>old b o<|M b o x) u (v.stay λb o _ x=>old b o x) p (λa R=>Y7<|v.lt R) T
 by_cases B:2<=es.size
 .show Yw<|Zz<|a1c a4W (s:={s with heap:=c.push<|a0G "list" (as.map YY).toArray 0,toks:=tk}) ⟨_,n,rfl⟩ a4K (Fo O d0 (by rw[I];show X) Z nu ⋯ ⋯ n (λk K=>?_) ⟨_,rfl,?_⟩)<|a5a _
  .show H B k tk as (λb o e=>K b o (Y7<|Zg (YJ e) p)<|YC _<|M b o e) u<|v.stay λb o hb e=>K b o (Y7<|YJ e)<|YC _ e
  .show YH ⟨_,rfl,fin _ ?_⟩;rw[I];show a0n λi G=>?_;have G:i<as.length:=by have:=ZR.mp<|(iF _ es.size).mem_iff.mp G;lia
   simp[ZV,G]
 .show Yw (Zz<|a1c a4W (s:={s with heap:=c.push<|a0G "list" (as.map YY).toArray 0,toks:=tk}) ⟨_,n,rfl⟩ a4K (D0 ⋯ n ⟨_,rfl,?_⟩)<|a5a _);show YH ⟨_,rfl,fin (as.map YY) ?_⟩;match as,u with
  |[],e=>rw[<- e];change[]=(cS _ 0).map _;rw[zK];rfl|[b],e=>rw[<- e];change[YY b]=(cS _ 1).map _;rw[D1];rfl|_::_::_,e=>rw[<- e]at B;simp at B
end L3
namespace L3
open PySem L2
def Fp d(hd:(d==Z3)=dI):a9R P w (Builtin.«dict.items» ⟨[.ref d],[]⟩) (λ_ R s=>(∃es ep,RawD s.heap d es ep) /\
   R (.ok<|.ret<|.ref s.heap.objs.size) {s with heap:=s.heap.push {cls:=.type "dict_items",data:=.fields #[.ref d]}}):=
 .of_wp λA R s ⟨⟨es,ep,g⟩,h⟩=>by unfold Builtin.«dict.items»;show Yw ?_;unfold b0J;show Yw<|a2k g.ty ?_;change Y6 _ _ (pure d) _ _ s;show YH ?_;change Y6 _ _ (a1O d >>= _) _ _ s;unfold a1O;rw[if_neg<|by rw[hd];show YE];show Yw<|YH ?_;show Yw<|Z7<|YH ⟨_,rfl,h⟩
abbrev vQ(kvs:jx):jx:=(cS (λi j=>HT.lexLt ((kvs.map (·.1)).getD i [])<|(kvs.map (·.1)).getD j []) kvs.length).map λi=>kvs.getD i ([],.non)
def Rt{R:b->c->Prop}{as:List b}{bs:List c}(h:a3x R as bs)d g:∀i,i<as.length->R (as.getD i d) (bs.getD i g):=by
 induction h with
 |nil=>show λi a=>nomatch a|cons e t j=>
  intro i a;cases i with
  |zero=>show e|succ i=>show j i<|by simpa using a
def Fq{R:a->b->Prop}{f:Nat->a}{g:Nat->b}:∀{l:List Nat},(∀i∈l,R (f i) (g i))->a3x R (l.map f) (l.map g)
 |[],_=>.nil|i::l,h=>.cons (h i<|Zs ..)<|Fq λj c=>h j<|Zl _ c
def Inv.freeze{σ:St}{ps:bM}(I:Inv X b0Z σ H s)(e:H a=b0 (aQ a ps))(c:s.heap.get? a=b0 ob):Inv X b0Z σ (upd H a<|.frz ob<|aQ a ps) s:=by have ok:ObjOk X.prog X.w H s.heap a (aQ a ps):=I.hok a _ e;show I.write (x:=a) (e:=a) (h':=s.heap) (t':=s.toks) (by rw[e];show a1Q) (.inl rfl) (λb q _ z=>z) ⟨ob,c⟩ ⟨c,ok⟩
def Inv.thaw{σ σ0:St}{ps ps0:bM}(n:Inv X pins0 σ0 H0 s0)(r:H0 a=b0 (aQ a ps0))(I:Inv X b0Z σ H s)(e:H a=b0 (.frz ob<|aQ a ps)):Inv X b0Z σ (upd H a<|aQ a ps) s:=by
 have ne:∀{b:Addr},H b=b5->b≠a:=λ{b} h z=>by rw[z,e]at h;cases h
 show⟨I.ok,I.os,I.bare,⟨I.base.keep,I.base.slot,λb o d g i=>?_,I.base.there,λb k h=>?_,λb o u h=>?_,λb w h=>?_⟩,I.loc,I.cell,?_,λx c h=>?_,λp v=>?_,λb u q=>?_,I.len⟩
 .have:=I.base.free b o d g i;rw[bH<|ne this];show this
 .have:=I.base.tups b k h;rw[bH λz=>by rw[z,e]at this;cases this];show this
 .have:=I.base.frzs b o u h;rw[bH λz=>by
   have l:=n.base.frzs b o u h;rw[z,r]at l;cases l]
  show this
 .obtain⟨more,d⟩:=I.base.tbls b w h;show⟨more,by rw[bH λz=>by rw[z,e]at d;cases d];show d⟩
 .rw[bH<|ne I.free];show I.free
 .have:=I.freeC x c h;rw[bH<|ne this];show this
 .obtain⟨d,g,i⟩:=I.pin p v;show⟨d,by rw[bH<|ne g];show g,i⟩
 .by_cases j:b=a
  .subst j;rw[c3]at q;cases q;show(show ObjOk X.prog X.w H s.heap b (.frz ob<|aQ b ps)from I.hok b _ e).2
  .rw[bH j]at q;show(I.hok b u q).stay (λ_ _ _ z=>z) (λc h=>by rw[bH λz=>by rw[z,e]at h;cases h];show h) λc k h=>by rw[bH λz=>by rw[z,e]at h;cases h];show h
abbrev qE(i:Nat)(c:aF)(b:Hm):Option (Nat×jx):=match c[i]? with
 |some (b0<|.loc a)=>match b[a]? with
  |some (.dT kvs)=>b0 (a,kvs)|_=>b5
 |_=>b5
def Fs(h:qE i c b=b0 (a,kvs)):b[a]?=b0 (.dT kvs):=by
 unfold qE at h;split at h
 .split at h
  .rename_i hc;cases h;show hc
  .cases h
 .cases h
abbrev Aj(i:Nat)(d e:ME):ME:=λc b=>match qE i c b with
 |some (a,kvs)=>(d c<|b.set a<|.dF kvs).bind λr=>match r.2[a]? with
  |some (.dF kvs')=>b0 (r.1,r.2.set a<|.dT kvs')|_=>b5
 |none=>e c b
abbrev oN(i:Nat)(d e:MS):MS:=λc b=>match qE i c b with
 |some (a,kvs)=>(d c<|b.set a<|.dF kvs).bind λr=>match r.2.2[a]? with
  |some (.dF kvs')=>b0 (r.1,r.2.1,r.2.2.set a<|.dT kvs')|_=>b5
 |none=>e c b
def Ft{σ:St}{kvs:jx}(I:Inv X b0Z σ H s)(R:Rp X.K π H μ)(E:En X.K π μ.length H σ ρ)(hc:μ[a]?=b0 (.dT kvs)):∃b ps,H (π a)=b0 (aQ (π a) ps)/\Inv X b0Z σ (upd H (π a)<|.frz b<|aQ (π a) ps) s /\
  Rp X.K π (upd H (π a)<|.frz b<|aQ (π a) ps) (μ.set a<|.dF kvs)/\En X.K π (μ.set a<|.dF kvs).length (upd H (π a)<|.frz b<|aQ (π a) ps) σ ρ:=by
 obtain⟨ps,c,T⟩:=iG R hc;obtain⟨_,⟨b,e⟩,_⟩:=(show ObjOk X.prog X.w H s.heap (π a) (aQ (π a) ps)from I.hok _ _ c);obtain⟨d,R2⟩:=R.put (c:=.dF kvs) (o:=.frz b (aQ (π a) ps)) (Yy.mp hc).1 c (.inr<|.inr ⟨_,rfl⟩) ⟨b,ps,rfl,T.to⟩;show⟨b,ps,c,Inv.freeze I c e,R2,E.mono d⟩
def sF{σ:St}{μ:Hm}{kvs:jx}{n:St}{ps:bM}{d:jx}(I:Inv X b0Z σ H s)(e:H (π a)=b0 (aQ (π a) ps))(A:a<μ.length)(y:Inv X g n j x)(R':Rp X.K c j μ')(k:Ext π (μ.set a<|.dF kvs).length (upd H (π a)<|.frz E<|aQ (π a) ps) c μ'.length j)(hc:μ'[a]?=b0 (.dF d)):
  ∃r,Inv X g n r x/\Ext π μ.length H c (μ'.set a<|.dT d).length r/\Rp X.K c r (μ'.set a<|.dT d)/\Ext0 c μ'.length j c (μ'.set a<|.dT d).length r:=by
 have v:c a=π a:=k.pi a (by rw[a0J];show A);obtain⟨G,i,w,T⟩:=vG R' hc;obtain⟨L,R2⟩:=R'.put0 (c:=.dT d) (o:=aQ (c a) i) (Yy.mp hc).1 w (.inr<|.inr<|.inr ⟨_,_,rfl⟩) ⟨i,rfl,T.to⟩;rw[v]at w;show⟨upd j (c a)<|aQ (c a) i,?_,⟨?_,λb B=>k.pi b<|by rw[a0J];show B,λp K h=>?_,λp o u h=>?_⟩,R2,L⟩
 .rw[v];show Inv.thaw I e y w
 .have:=k.le;rw[a0J]at this ⊢;show this
 .have l:p≠π a:=λz=>by rw[z,e]at h;cases h
  have:=k.tup p K (by rw[bH l];show h);rw[v,bH l];show this
 .have l:p≠π a:=λz=>by rw[z,e]at h;cases h
  have:=k.frz p o u (by rw[bH l];show h);rw[v,bH l];show this
def En.mono0(E:En K π n H σ ρ)(e:Ext0 π n H b g c):En K b g c σ ρ:=
 ⟨E.len,λi d h=>let⟨v,j,k⟩:=E.get i d h;⟨v,j,k.mono0 e⟩⟩
def Ru(h1:QE X e A)(h2:QE X e B):QE X e (Aj i A B):=⟨by
 intro j s L H Q I hw;obtain⟨l,K,G,d,w,R,E,c,k⟩:=hw;unfold Aj at c;split at c
 .rename_i a r hv;obtain⟨⟨x,g⟩,g1,c⟩:=Yv.mp c;dsimp only at c;split at c
  .rename_i z o;cases c;have hc:=Fs hv;obtain⟨ob,ps,Z,N,U,M⟩:=Ft I R E hc;show aV (h1.h j s L _ (λv h=>∃b,Ext l (G.set a<|.dF r).length (upd H (l a)<|.frz ob<|aQ (l a) ps) b g.length h/\Rp X.K b h g/\IsD X.K b g.length h v d) N ⟨l,K,_,d,g,U,M,g1,λb v h n R2 p=>⟨b,n,R2,p⟩⟩) λu s2 ⟨v,h,O,rv,b,n,R2,p⟩=>?_;obtain⟨y,T,e3,Y,x3⟩:=sF I Z (Yy.mp hc).1 O R2 n o;show⟨v,y,T,rv,k b v y e3 Y<|p.mono0 x3⟩
  .cases c
 .show h2.h j s L H Q I ⟨l,K,G,d,w,R,E,c,k⟩⟩
def Fu(h1:QS X st m1)(h2:QS X st m2):QS X st (oN i m1 m2):=⟨by
 intro L s σ H D I hw;obtain⟨l,ρ,M,G,p,Y,R,E,w,k⟩:=hw;unfold oN at w;split at w
 .rename_i a x hv;obtain⟨⟨fl1,ρ1,g⟩,g1,w⟩:=Yv.mp w;dsimp only at w;split at w
  .rename_i Z r;cases w;have hc:=Fs hv;have O:=(Yy.mp hc).1;obtain⟨Q,T,N,I1,R1,E1⟩:=Ft I R E hc;show aV (h1.h L s σ _ ⟨λc h=>G=.nx/\∃b,Ext l (M.set a<|.dF x).length (upd H (l a)<|.frz Q<|aQ (l a) T) b g.length h/\Rp X.K b h g/\En X.K b g.length h c p,
     λv h=>∃d,G=.rt d/\∃b,Ext l (M.set a<|.dF x).length (upd H (l a)<|.frz Q<|aQ (l a) T) b g.length h/\Rp X.K b h g/\IsD X.K b g.length h v d,
     λc h=>G=.bk/\∃b,Ext l (M.set a<|.dF x).length (upd H (l a)<|.frz Q<|aQ (l a) T) b g.length h/\Rp X.K b h g/\En X.K b g.length h c p,
     λc h=>G=.ct/\∃b,Ext l (M.set a<|.dF x).length (upd H (l a)<|.frz Q<|aQ (l a) T) b g.length h/\Rp X.K b h g/\En X.K b g.length h c p⟩ I1 ⟨l,ρ,_,G,p,g,R1,E1,g1,?_⟩) λf s2 q=>?_
   .cases G with
    |nx=>show λb c h j R2 n=>⟨rfl,b,j,R2,n⟩|bk=>show λb c h j R2 n=>⟨rfl,b,j,R2,n⟩|ct=>show λb c h j R2 n=>⟨rfl,b,j,R2,n⟩|rt d=>show λb v h j R2 U=>⟨d,rfl,b,j,R2,U⟩
   .cases f with
    |next=>obtain⟨c,h,y,rfl,b,j,R2,n⟩:=q;obtain⟨o,z,B,A,K⟩:=sF I N O y R2 j r;show⟨c,o,z,k b c o B A<|En.mono0 n K⟩|brk=>obtain⟨c,h,y,rfl,b,j,R2,n⟩:=q;obtain⟨o,z,B,A,K⟩:=sF I N O y R2 j r;show⟨c,o,z,k b c o B A<|En.mono0 n K⟩|cont=>obtain⟨c,h,y,rfl,b,j,R2,n⟩:=q;obtain⟨o,z,B,A,K⟩:=sF I N O y R2 j r;show⟨c,o,z,k b c o B A<|En.mono0 n K⟩|ret u=>obtain⟨v,c,h,y,rv,d,rfl,b,j,R2,U⟩:=q;obtain⟨o,z,B,A,K⟩:=sF I N O y R2 j r;show⟨v,c,o,z,rv,k b v o B A<|U.mono0 K⟩
  .cases w
 .show h2.h L s σ H D I ⟨l,ρ,M,G,p,Y,R,E,w,k⟩⟩
abbrev Ak(d:Addr)(a:Obj)(ps:bM):It:=⟨λi H=>H d=b0 (.frz a<|aQ d ps)/\i<ps.length,λi H x b=>b=H/\∃p,ps[i]?=b0 p/\x=.ref p.2.1,λi H=>H d=b0 (.frz a<|aQ d ps)/\ps.length<=i⟩
def oO{σ:St}{ps:bM}(I:Inv X b0Z σ H s)(e:H d=b0 (.frz c<|aQ d ps)):
  (d==Z3)=dI/\ps.length<=YM/\∃a b,RawD s.heap d a b/\c.data=.dict a b/\a.toList.map (·.key)=ps.map λp=>YY p.2.1:=by
 obtain⟨g,⟨v,r,n,l,o,a,b,h,j,i,k,u⟩,_⟩:=(show ObjOk X.prog X.w H s.heap d (.frz c<|aQ d ps)from I.hok d _ e);rw[g]at h;cases h;show⟨n,l,a,b,⟨c,g,j,i⟩,i,?_⟩;rw[k,vD (P:=X.prog) (w:=X.w),Y0,<- Ag r];rfl
def Fv:∀(ps:bM)(ws:gw),ps.length=ws.length->(a4h uC ps ws).map (·.val)=ws
 |[],[],_=>rfl|[],_::_,h=>by cases h
 |_::_,[],h=>by cases h
 |p::ps,u::ws,h=>by rw[ZF,Za,Fv ps ws<|by simpa using h];rfl
def Rv{σ:St}{ps:bM}(I:Inv X b0Z σ H s)(e:H d=b0 (.frz c<|aQ d ps)):
  (d==Z3)=dI/\ps.length<=YM/\∃a b,RawD s.heap d a b/\c.data=.dict a b/\Vals (ps.map (·.2.2)) (a.toList.map (·.val)):=by
 obtain⟨h,⟨g,r,u,p,o,a,b,i,l,j,n,v⟩,_⟩:=(show ObjOk X.prog X.w H s.heap d (.frz c<|aQ d ps)from I.hok d _ e);rw[h]at i;cases i;show⟨u,p,a,b,⟨c,h,l,j⟩,j,?_⟩;have k:(a4h uC ps g).map (·.val)=g:=Fv ps g<|by
  have:=r.length;rw[Yu]at this;show this
 rw[n,k];show r
def Rw(hd:ob.data=.dict es ep):Turn Qc P w K tg (Ak d ob ps) [p] p (λi h=>h.IsKeyIter p d i es.size ep) where
 mem:=by simp
 obj:=λi h st b j=>by
  have e:b=p:=by simpa using j
  subst e;obtain⟨o,e,c,d⟩:=st;show⟨o,e,λv z=>by rw[d]at z;cases z⟩
 keep:=λi h u st k=>st.at λo e=>k p (by simp) o e;item:=by
  intro X T hw R hc i r s σ H E I A st U;subst T hw R;obtain⟨n,x⟩:=U;obtain⟨lo,hl,G,B,g,a,y⟩:=oO I n;rw[hd]at a;cases a;have hs:es.size=ps.length:=by have:=congrArg ZE y;simpa using this
  obtain⟨L,M,f2,N,O,Q⟩:=A p (by simp);show vJ (I.ok.hd hc) st g (λe u l Z sb=>?_) λhn=>by simp at hn;omega
  have I1:Inv X r σ H {s with heap:=u}:=I.turned (t':=s.toks) (λb o j e=>(sb.2 b j).trans e) L M N O Q;obtain⟨o,e1,c,d1⟩:=id Z;have Y:ps[i]?=b0 ps[i]:=Yz x;have ek:e.key=.ref (ps[i]).2.1:=by have:=congrArg (·[i]?) y;simp only[YU,a0o,l,Y,Zh]at this;show YX this
  show⟨e.key,rfl,o9 (s:={s with heap:=u}) e1 c d1 (by decide) ⟨.ref (ps[i]).2.1,H,I1,ek,⟨rfl,ps[i],Y,rfl⟩,Z,λb j=>(A b j).1⟩⟩
 done:=by
  intro X T hw R hc i r s σ H E I A st U;subst T hw R;obtain⟨n,x⟩:=U;obtain⟨lo,hl,G,B,g,a,y⟩:=oO I n;rw[hd]at a;cases a;have hs:es.size=ps.length:=by have:=congrArg ZE y;simpa using this
  obtain⟨L,M,f2,N,O,Q⟩:=A p (by simp);show vJ (I.ok.hd hc) st g (λe u l=>by
   have:=(a6h.mp l).1;lia) λ_ u eb=>⟨rfl,I.turned (t':=s.toks) (λb o j e=>eb b o j e) L M N O Q⟩
 self:=λ_ _ _ _ _ st h=>a8Q st h
def Ry(n:PE X l p):PI X tg l (λσ H R=>p σ H λv a=>∃d k ps,v=.ref d/\a d=b0 (.frz k<|aQ d ps)/\R (Ak d k ps) a):=by
 intro j s σ H R I h;show aV (n j s σ H _ I h) λv i ⟨y,a,c,z,x⟩=>?_;obtain⟨d,k,ps,e,u,q⟩:=x;subst e;obtain rfl:v=YY d:=z;obtain⟨w,n,B,A,g,hd,E⟩:=oO c u;show EX w g ⟨i.heap.objs.size,[i.heap.objs.size],_,_,a,rfl,c.kept (t':=i.toks) λb o e=>YC _ e,Rw hd,⟨_,YR _ rfl,rfl,rfl⟩,λb r=>?_,q⟩;have e:b=i.heap.objs.size:=by simpa using r
 subst e;show c.fpOk (YG _)<|c.hok.fresh<|YG _
abbrev iH(kvs:jx):List D:=kvs.map λk=>D.tup<|k.1.map D.int
def Rz{ps:bM}(c:H d=b0 (.frz h<|aQ d ps))(T:IsTs K π n H ps kvs):Wk K (Ak d h ps) (dQ<|.tup<|iH kvs) π n H:=by
 have x:ps.length=kvs.length:=by have:=congrArg ZE T.to.1;simpa using this
 show⟨λb u j i e R z=>?_,λb u j i k e R z=>?_⟩
 .have a:(iH kvs)[i]?=none:=YX z;have:=Zx.mp a;rw[iH,Yu]at this;show⟨e.frz _ _ _ c,by lia⟩
 .have a:(iH kvs)[i]?=b0 k:=YX z;have y:i<kvs.length:=by have:=(Yy.mp a).1;rwa [iH,Yu]at this
  show⟨⟨e.frz _ _ _ c,by lia⟩,λv w ⟨l,p,o,r⟩=>?_⟩;subst l r;obtain⟨A,g,s⟩:=(T.to.2.1.mono e).get a;rw[YU,o]at g;cases g;show⟨.refl,R,s⟩
abbrev mV(m:ME):MI:=λc b=>(m c b).bind λp=>match p.1 with
 |.loc a=>match p.2[a]? with
  |some (.dF kvs)=>b0 (dQ<|.tup<|iH kvs,kvs.length+1,p.2)|_=>b5
 |_=>b5
def Al(h:QE X e m):QJ X e (mV m):=⟨λtg b0Z s σ H R I hw=>by
 obtain⟨A,B,w,v,n,y,i,E,a,k⟩:=hw;obtain⟨⟨x,z⟩,l,a⟩:=Yv.mp a;dsimp only at a;split at a
 .split at a
  .rename_i p hc;cases a;show Ry h.h b0Z s σ H R I ⟨A,B,w,_,_,i,E,l,λb G g j c o=>?_⟩;cases o;obtain⟨r,u,d,T⟩:=vG c hc;show⟨_,r,u,rfl,d,k b g _ j c<|Rz d T⟩
  .cases a
 .cases a⟩
end L3
namespace L3
open PySem L2 PySem.W PyProof.Rows
end L3
namespace L3
open PySem L2
abbrev sG(b:Hm):D->Bool
 |.loc a=>match b[a]? with|some (.dT _)=>d7|_=>dI
 |_=>dI
abbrev iI(f:D->List D->Hm->jk)(b:ME)(ms:MA):ME:=λa c=>(b a c).bind λp=>match sG p.2 p.1 with
 |true=>(ms a p.2).bind λq=>f p.1 q.1 q.2|false=>b5
abbrev kW(K:Yx)(x:V)(H:Hp):Prop:=∃a ps,x=.ref a/\H a=b0 (aQ a ps)/\dP K H ps
def RA(R:Rp K π H b)(h:IsD K π b.length H v x)(e:sG b x=d7):kW K v H:=by
 cases h with
 |@loc a i=>
  simp only[sG]at e;split at e
  .rename_i j d;obtain⟨g,c,T⟩:=iG R d;show⟨_,g,rfl,c,T.keys⟩
  .cases e
 |_=>cases e
def RB{id:String}(p:Slot "dict" name id)(A:b0Q (.builtin id)=pure (.type "method_descriptor"))(T:jK X id r)(U:PE X o to)(O:PA X (e::es) t)(i:a2J o name X.env (eval o X.env)=eval o X.env)(l:((a1C cpos<|Zo (e::es) X.env).all (λx=>!x.1)&&(a7b cpos<|a4Y [] X.env).all (λx=>x.1.isSome)&&decide ((e::es).length+([]:List a2A).length+(if([]:List a2A).isEmpty then 0 else 1)<30))=d7)(j:(apos.endLine==cpos.line)=d7)(Y:Zo (e::es) X.env=(dI,eval e X.env)::Zo es X.env)(c:(a1C cpos<|Zo es X.env).any (·.1)=dI):
  PE X (.Call (.Attribute o name apos) (e::es) [] cpos) (λk H Q=>to k H λx u=>kW X.K x u/\t k u λw y=>r x w y Q):=by
 intro d s k H Q I h;show a8i i l j rfl<|aV (U d s k H _ I h) λv s1 ⟨x,u,B,r1,ty,Z⟩=>?_;obtain⟨a,ps,rfl,L,R⟩:=ty;obtain rfl:v=YY a:=r1;obtain⟨lo,hl,w,ep,g,_⟩:=vK B L R;show⟨"dict",id,a3O,p,A,g.ty,λb K=>?_,?_⟩
 .cases K;obtain⟨z,M,N,_⟩:=g;show⟨z,M,N.2.1⟩
 have E:=O cpos d s1 k u _ B Z;rw[Y]at E ⊢;show a2L (by change(dI||(a1C cpos<|Zo es X.env).any (·.1))=dI;rw[c]<;>rfl)<|a7l ?_;show aV E λus s2 ⟨w,y,G,r2,q2⟩=>T d s2 k y (.ref a) w _ us Q G rfl r2 q2
def RC(B:i6 K f r):∀σ H Q,tM K (iI f mo ms) σ H Q->tM K mo σ H λx g=>kW K x g/\tMA K ms σ g λvs h=>r x vs h Q:=by
 rintro σ H Q ⟨N,y,M,d,i,R,E,a,k⟩;obtain⟨⟨x,b⟩,z,a⟩:=Yv.mp a;dsimp only at a;split at a
 .rename_i G;obtain⟨⟨w,c⟩,A,a⟩:=Yv.mp a;show⟨N,y,M,x,b,R,E,z,λj L g s p v=>⟨RA p v G,j,y,b,w,c,p,E.mono s,A,λl vs h u R2 I=>?_⟩⟩;show B l h c x w d i L vs Q R2 (v.mono u) I a<|k.after<|s.trans u
 .cases a
def Am{id:String}(c:Slot "dict" name id)(d:b0Q (.builtin id)=pure (.type "method_descriptor"))(j:jK X id r)(h:i6 X.K f r)(l:QE X o mo)(g:QA X (e::es) ms n)(p:kN o=d7)(i:(apos.endLine==cpos.line)=d7)(k:(e::es).length<30):QE X (.Call (.Attribute o name apos) (e::es) [] cpos) (iI f mo ms):=by
 have b:=g.s;have a:=b;rw[ZD,YK]at a;show⟨dJ (RB c d j l.h g.h (n9 p) (DV b k) i (fL a.1)<|mL a.2)<|RC h⟩
abbrev iJ:D->List D->Hm->jk
 |.loc a,[y,z],μ=>match μ[a]? with
  |some (.dT kvs)=>(cY y).map λk=>((a9 kvs k).getD z,μ)|_=>b5
 |_,_,_=>b5
abbrev Fw(K:Yx):V->gz->Hp->VK->Prop:=λx vs H Q=>∃a b ps k z,x=.ref a/\vs=[.ref b,z]/\H a=b0 (aQ a ps)/\dP K H ps/\SqT K H b (k.map V.int)/\Q ((eJ ps k).getD z) H
def RD:i6 K iJ (Fw K):=by
 intro y H E x B d w v A Q R n c a k;unfold iJ at a;split at a
 .split at a
  .rename_i r hc;obtain⟨h,j,a⟩:=YB.mp a;cases a;cases n;cases c with
   |cons o t=>
    cases t with
    |cons p t=>
     cases t;obtain⟨s,i,T⟩:=iG R hc;obtain⟨b,rfl,l⟩:=mT o j;show⟨_,b,s,h,_,rfl,rfl,i,T.keys,l,k y _ H .refl R ?_⟩;rcases T.val h with⟨e,g⟩|⟨v,z,e,g,u⟩
     .rw[e,g];show p
     .rw[e,g];show u
  .cases a
 .cases a
def RE(A:X.A.units+1<a0k):jK X "dict.get" (Fw X.K):=by
 intro n s R H x N v M Q I G E h;obtain⟨a,b,g,k,z,rfl,rfl,e,p,o,q⟩:=h;cases G;obtain⟨u,K,rfl,B,i⟩:=E.two;obtain rfl:u=YY b:=B;obtain⟨w,L,l,r,d⟩:=i8 I (.of e) p;show a3N a6C d.typeIs PySem.F.entry_dict_get (PySem.F.args_dict_get_3 _ _ _) (meetsH_dict_get_default (a2i<|a1P X.prog X.w) a b w K) ⟨oI A,k,_,kP I o,d,?_⟩;show⟨(eJ g k).getD z,H,I.tok _,?_,q⟩;have:=oH r k;cases j:eJ g k with
 |none=>
  rw[j]at this;cases c:(a4v (bR g l) k).map (·.2)with
  |none=>show i|some y=>rw[c]at this;show this.elim
 |some O=>
  rw[j]at this;cases c:(a4v (bR g l) k).map (·.2)with
  |none=>rw[c]at this;show this.elim|some y=>rw[c]at this;show this
section
variable{P:Y4}{w:Zk}{K:Type} [DecidableEq K] {knd:a9h P w K}{A:Zi}{E:Value->YA->Prop}{s:YA}{d a:Addr}{k:K}{xs:List (K×Addr×Value)}
def RF(G:knd.room A)(u:knd.is s.heap k a)(M:s.heap.DictOfH knd d xs)(hz:xs.length<=YM)(h1:∀p,a4v xs k=b0 p->Q p.2 {s with toks:=s.toks+knd.draws k})(L:a4v xs k=b5->∀r,r.DictOfH knd d (a3A xs k a v)->a0Q d s.heap r->Q v {s with heap:=r,toks:=s.toks+knd.draws k}):
  Y6 (Y5 P w) A (a7a d (.ref a) v) Q E s:=by
 obtain⟨o,N,I,g,hc,hd,n,h,z⟩:=id M;unfold a7a;show Zz<|Yw<|knd.pyHash G u<|Yw<|a9j (s:={s with toks:=s.toks+knd.draws k}) G u g hd n h z (λi=>?_) λj p B=>?_
 .have b:=a9M i;have l:k∉xs.map (·.1):=a9k i;show Yw<|a1b<|Yw<|a8P (hz:=by have e:=a4I n;lia) (s:={s with toks:=s.toks+knd.draws k}) g hd<|YH<|L b _ ⟨_,_,I+1,ZN _ g<|a3C<|a1H hd _,hc.mapDictKeys _,a1H hd _,?_,λx c=>?_,?_⟩<|ZS ..
  .rw[a3D b];simp[n,a5H]
  .rw[a3D b]at c;rcases YN.mp c with c|c
   .show knd.keeps (h x c) g hd<|ZS ..
   .rw[YL]at c;subst c;show knd.keeps u g hd<|ZS ..
  .rw[a3D b,YV,a0D];show⟨z,by simp,λx c y H e=>by
    simp only[Za,a5g,YL]at H;subst H;show l<|e▸c⟩
 .show Yw<|a0t (s:={s with toks:=s.toks+knd.draws k}) g hd ?_;rw[entry_at n j,B];show Yw<|a1b<|YH<|h1 _<|atKey_of_get z B
def RG(knd:a9h P w K)d a(hd:(d==Z3)=dI)v:a9R P w (Builtin.«dict.setdefault» ⟨[.ref d,.ref a,v],[]⟩) (λA R s=>knd.room A.in1/\∃k xs,knd.is s.heap k a/\s.heap.DictOfH knd d xs/\xs.length<=YM /\
   (∀p,a4v xs k=b0 p->R (.ok<|.ret p.2) {s with toks:=s.toks+knd.draws k})/\(a4v xs k=b5->∀b,b.DictOfH knd d (a3A xs k a v)->a0Q d s.heap b->R (.ok<|.ret v) {s with heap:=b,toks:=s.toks+knd.draws k})):=
 .of_wp λA R s ⟨o,k,xs,j,g,r,h,i⟩=>by unfold Builtin.«dict.setdefault»;show Yw ?_;unfold b0L;show Yw<|a2k g.typeIs<|YH ?_;change Y6 _ _ (if(d==Z3)=d7 then _ else(a7a d (.ref a) v >>= _)) _ _ s;rw[if_neg<|by rw[hd];show YE];show Yw<|RF o j g r (λp n=>YH ⟨_,rfl,h p n⟩) λl b c e=>YH ⟨v,rfl,i l b c e⟩
end
abbrev gK:D->List D->Hm->jk
 |.loc a,[y,z],μ=>match μ[a]? with
  |some (.dT kvs)=>(cY y).bind λk=>match a9 kvs k with
   |some d=>b0 (d,μ)|none=>if kvs.length<YM then b0 (z,μ.set a<|.dT<|bW kvs k z)else b5
  |_=>b5
 |_,_,_=>b5
abbrev Fx(K:Yx):V->gz->Hp->VK->Prop:=λx vs H Q=>∃a b ps k z,x=.ref a/\vs=[.ref b,z]/\H a=b0 (aQ a ps)/\dP K H ps/\SqT K H b (k.map V.int)/\((∃v,eJ ps k=b0 v/\Q v H)\/(eJ ps k=b5/\ps.length<YM/\Q z (upd H a<|aQ a<|dS ps k b z)))
def RH:i6 K gK (Fx K):=by
 intro s H O x N d G v M Q R A h a k;unfold gK at a;split at a
 .split at a
  .rename_i e hc;obtain⟨c,y,a⟩:=Yv.mp a;cases A with
   |loc g=>
    cases h with
    |cons B t=>
     cases t with
     |cons r t=>
      cases t;obtain⟨i,n,T⟩:=iG R hc;obtain⟨b,rfl,p⟩:=mT B y;show⟨_,b,i,c,_,rfl,rfl,n,T.keys,p,?_⟩;have z:i.length=e.length:=by have:=congrArg ZE T.to.1;simpa using this
      rcases T.val c with⟨j,l⟩|⟨v,I,j,l,E⟩
      .rw[l]at a;dsimp only at a;split at a
       .rename_i L;cases a;have w:=T.put c p r;obtain⟨o,u⟩:=R.put (c:=.dT (bW e c d)) (o:=aQ _ (dS i c b _)) g n (.inr<|.inr ⟨_,rfl⟩) ⟨_,rfl,w.to⟩;show .inr ⟨j,by lia,k s _ _ o u<|r.mono o⟩
       .cases a
      .rw[l]at a;cases a;show .inl ⟨v,j,k s _ H .refl R E⟩
  .cases a
 .cases a
def RI(O:X.A.units+1<a0k):jK X "dict.setdefault" (Fx X.K):=by
 intro y s σ H x vs v us Q I Z Y h;obtain⟨a,b,o,k,z,rfl,rfl,e,K,E,q⟩:=h;cases Z;obtain⟨u,u2,rfl,U,i⟩:=Y.two;obtain rfl:u=YY b:=U;obtain⟨n,hl,ws,r,d⟩:=i8 I (.of e) K;have R:(bR o ws).length<=YM:=by have:=congrArg ZE<|lU r;rw[Yu,Yu]at this;lia
 have c:=oH r k;show a3N a5n d.typeIs PySem.F.entry_dict_setdefault (PySem.F.args_dict_setdefault_3 _ _ _) (RG (a2i<|a1P X.prog X.w) a b n u2) ⟨oI O,k,_,kP I E,d,R,λp M=>?_,λL B j l=>?_⟩
 .rw[M]at c;rcases q with⟨w,g,q⟩|⟨g,_⟩
  .rw[g]at c;show⟨w,H,I.tok _,c,q⟩
  .rw[g]at c;show c.elim
 .rw[L]at c;rcases q with⟨w,g,q⟩|⟨g,hz,q⟩
  .rw[g]at c;show c.elim
  .obtain⟨ws',T,A⟩:=vF r k b i;rw[A]at j;have G:∃q,B.get? a=b0 q:=let⟨q,_,_,N,_⟩:=j;⟨q,N⟩;show⟨z,_,t8 I (by rw[e];show a1Q) l G<|r8 n (by have:=r6 o k b z;lia) T j,i,q⟩
def RJ{bs:List Addr}(g:RawD s.heap d es ep)(n:es.toList.map (·.key)=bs.map YY)(G:∀b∈bs,s.TypeIs (.ref b) "tuple")(nd:(es.toList.map (·.hash)).Nodup)(q:Q es s):Y6 (Y5 P w) A (a4N B d) Q E s:=by
 obtain⟨z,p,H,r⟩:=id g;unfold a4N;show Yw<|a0t p r<|Yw ?_;rw[<- Array.forIn_toList];show a6q _ (λrest _ c=>c=s/\∀e∈rest,e∈es.toList) _ (λe rest b c ⟨h,j⟩=>?_) (λb c ⟨h,_⟩=>?_) _ _ ⟨rfl,λe i=>i⟩
 .subst h;have i:=j e<|Zs ..;have v:e.key∈bs.map YY:=by rw[<- n];show YO.mpr ⟨e,i,rfl⟩
  obtain⟨a,u,o⟩:=YO.mp v;have quiet:∀{Q:Bool->YA->Prop},Q dI c->Y6 (Y5 P w) A (a5S e.key) Q E c:=λ{Q} q=>by rw[<- o];unfold a5S;show Yw<|a2M (G a u) PySem.F.slot_tuple_eq.lookup<|YH q
  show Yw<|quiet ?_;have one:((es.filter (·.hash==e.hash)).size>1)=False:=by
   show eq_false λz=>?_;have I:1<(es.toList.filter λx=>x.hash==e.hash).length:=by have k:(es.filter (·.hash==e.hash)).toList=es.toList.filter λx=>x.hash==e.hash:=Array.toList_filter ..;have l:=congrArg ZE k;simp only[a1I]at l;omega
   have oC:(es.toList.filter λx=>x.hash==e.hash).length=(es.toList.map (·.hash)).count e.hash:=by rw[List.count,List.countP_map,<- List.countP_eq_length_filter];rfl
   have:=List.nodup_iff_count.mp nd e.hash;lia
  simp only[a4C,if_true,one,if_false];show YH ⟨rfl,λx y=>j x<|Zl _ y⟩
 .subst h;show YH q
noncomputable abbrev sH:=List<|List Int×Addr×Value
inductive Hits (A:Zi)(s:YA)(ys:sH):sH->Bool->Prop
 |nil:Hits A s ys [] d7
 |miss {x:List Int×Addr×Value}{r:sH}:a4v ys x.1=b5->Hits A s ys (x::r) dI
 |hit {x:List Int×Addr×Value}{p:Addr×Value}{r:sH}{e b:Bool}:a4v ys x.1=b0 p->a2z A s x.2.2 p.2 e->Hits A s ys r b->Hits A s ys (x::r) (e&&b)
noncomputable abbrev vT(_:Nat):Prop:=True
def RK{σ:St}(I:Inv X b0Z σ H s)(k:∀b u,s.heap.get? b=b0 u->h'.get? b=b0 u)(old:∀b,b<s.heap.objs.size->H' b=H b)(new:∀b o,s.heap.objs.size<=b->H' b=b0 o->ObjOk X.prog X.w H' h' b o):
  Inv X b0Z σ H' {s with heap:=h',toks:=t'}:=by
 have lt:∀b u,H b=b0 u->b<s.heap.objs.size:=λb u e=>a9b λz=>by rw[I.hok.fresh z]at e;cases e
 have a:∀b u,H b=b0 u->H' b=b0 u:=λb u e=>by rw[old b<|lt b u e];show e
 show I.un ⟨λb u q _ _ _=>k b u q,λb u q _ _ _=>⟨u.slots,k b u q⟩,λb u q n _=>by rw[old b<|YJ q];show n,λb u q _=>⟨u,k b u q⟩,λb g q=>a b _ q,λb u g q=>a b _ q,λb h q=>⟨#[],by rw[a b _ q];simp⟩⟩ λb u e=>?_;by_cases d:b<s.heap.objs.size
 .rw[old b d]at e;show(I.hok b u e).stay (λc v _ q=>k c v q) (λc q=>a c _ q) λc g q=>a c _ q
 .show new b u (a3f d) e
abbrev fW(H:Hp):List Addr->bM->Hp
 |a::as,p::ps=>fW (upd H a<|.tup [.ref p.2.1,p.2.2]) as ps|_,_=>H
def oP:∀{as}{ps}{H}{b},b∉as->fW H as ps b=H b
 |[],_,_,_,_=>by simp[fW]
 |a::as,[],_,_,_=>rfl|a::as,p::ps,H,b,h=>by rw[Zm,not_or]at h;change fW (upd H a _) as ps b=H b;rw[oP h.2,bH h.1]
def vU:∀{as:List Addr}{ps:bM}{H:Hp}{i:Nat}{a:Addr}{p:List Int×Addr×V},as.Nodup->as[i]?=b0 a->ps[i]?=b0 p->fW H as ps a=b0 (.tup [.ref p.2.1,p.2.2])
 |[],_,_,_,_,_,_,h,_=>by simp at h
 |_::_,[],_,_,_,_,_,_,h=>by simp at h
 |x::as,y::ps,H,0,a,p,nd,h1,h2=>by
  obtain rfl:x=a:=by simpa using h1
  obtain rfl:y=p:=by simpa using h2
  rw[ZO]at nd;change fW (upd H x _) as ps x=_;rw[oP nd.1,c3]
 |x::as,y::ps,H,i+1,a,p,nd,h1,h2=>by rw[ZO]at nd;show vU (as:=as) (ps:=ps) (i:=i) nd.2 (by simpa using h1)<|by simpa using h2
abbrev cM(ps:bM):List Nat:=cS (λi j=>HT.lexLt ((ps.map (·.1)).getD i [])<|(ps.map (·.1)).getD j []) ps.length
abbrev fM(as:List Addr)(ps:bM):gz:=(cM ps).map λi=>V.ref<|as.getD i 0
def RL{σ:St}(hc:X.calm=d7)(hun:X.A.units+64<a0k)(I:Inv X b0Z σ H s){ps:bM}(e:H d=b0 (aQ d ps))(hk:dP X.K H ps)(h64:vT ps.length)(hv:s.heap.IsItemsView r d)(k:∀as L l,as.length=ps.length->(l::L::as).Nodup->(∀a∈l::L::as,H a=b5)->Q (.ref l) (upd (upd (fW H as ps) L<|.lst<|fM as ps) l<|.tup<|fM as ps)):
  Y6 (Y5 X.prog X.w) X.A (call (.builtin "sorted") [.ref r]) (λv s'=>Y6 (Y5 X.prog X.w) X.A (call (.type "tuple") [v]) (EP X b0Z σ Q) X.xe s') X.xe s:=by
 obtain⟨lo,hl,ws,rv,z,es,ep,z1,z2,z3,z4,z5,z6⟩:=i8 I (.of e) hk;have hwl:ws.length=ps.length:=by have:=rv.length;rw[Yu]at this;show this.symm
 have hxl:(bR ps ws).length=ps.length:=by unfold bR;rw[List.length_zipWith,hwl,Nat.min_self]
 have n:es.size=ps.length:=by rw[<- a1I,z4,Yu,hxl]
 have nd:(ps.map (·.1)).Nodup:=by rw[lU rv]at z6;show z6
 have O:∀(j:Nat)(y:DictEntry),es[j]?=b0 y->∃p u,ps[j]?=b0 p/\ws[j]?=b0 u/\y.key=.ref p.2.1/\y.val=u:=λj y h=>by
  rw[<- a0o,z4,YU]at h;obtain⟨x,A,rfl⟩:=YB.mp h;unfold bR at A;rw[a7i]at A;cases E:ps[j]? with
  |none=>rw[E]at A;simp at A|some p=>
   cases hw:ws[j]? with
   |none=>rw[E,hw]at A;simp at A|some u=>
    rw[E,hw]at A;have:(p.1,p.2.1,u)=x:=by simpa using A
    subst this;show⟨p,u,rfl,rfl,rfl,rfl⟩
 show Rq u7 [] (ks:=ps.map (·.1)) (an:=λi j=>HT.lexLt ((ps.map (·.1)).getD i [])<|(ps.map (·.1)).getD j []) rfl (by rw[Yu,n]) nd (I.ok.hd hc) hv ⟨z,z1,z2,z3⟩ ⋯ (λh22 h3 N as kp Z M=>?_) λh3 N as L y kp Z M hL nL gL=>?_
 .have I3:Inv X b0Z σ H {s with heap:=h3,toks:=N}:=I.kept (t':=N) kp;show Ro (A:=X.A.in1.in1) (s:={s with heap:=h3,toks:=N}) (bs:=ps.map (·.2.1)) (ks:=ps.map (·.1)) (by change X.A.units+1+1<a0k;lia) M ⋯ Z (by rw[Yu,n]) (by rw[Yu,n]) (λj y B=>?_) nd;obtain⟨p,u,K,p2,p3,p4⟩:=O j y B;have w:j<ps.length:=(Yy.mp K).1;have g:(ps.map (·.2.1)).getD j 0=p.2.1:=by simp[ZV,K]
  have ek:(ps.map (·.1)).getD j []=p.1:=by simp[ZV,K]
  rw[g,ek];have sq:=hk p<|YZ K;show⟨p3,kP I3 sq,?_⟩;obtain⟨xs,rx,t,_⟩:=I3.tuple sq;show⟨xs,t,O2 rx⟩
 .rw[n]at gL Z;have G:as.Nodup:=M.up.imp λh=>Y7 h;have hin:∀i∈cM ps,i<ps.length:=λi hi=>ZR.mp<|(iF _ _).mem_iff.mp hi;have Y:(cM ps).length=ps.length:=by have:=(iF (λi j=>HT.lexLt ((ps.map (·.1)).getD i [])<|(ps.map (·.1)).getD j []) ps.length).length_eq;rw[a0e]at this;show this
  have nLa:L∉as:=λh=>nL L h rfl;have I1:Inv X b0Z σ (upd (fW H as ps) L<|.lst<|fM as ps) {s with heap:=h3,toks:=N}:=by
   show RK (t':=N) I kp (λb hb=>?_) λb o hb g=>?_
   .rw[bH<|Y7<|Zg hb hL,oP λh=>Nat.lt_asymm hb<|M.over b h]
   .by_cases T:b=L
    .subst T;rw[c3]at g;cases g;show⟨by unfold fM;rw[Yu,Y];show hl,(cM ps).map λi=>YY<|as.getD i 0,y,?_,gL⟩;unfold fM;show Fq λi _=>rfl
    .rw[bH T]at g;by_cases U:b∈as
     .obtain⟨j,B⟩:=a1Y.mp U;have w:j<ps.length:=by have:=(Yy.mp B).1;lia
      have E:ps[j]?=b0 ps[j]:=Yz w;rw[vU G B E]at g;cases g;obtain⟨x,x1,x2⟩:=M.prs j _ B;obtain⟨p,u,K,p2,p3,p4⟩:=O j x x1;rw[E]at K;cases K;obtain⟨u',g1,g2⟩:=rv.get (i:=j) (x:=ps[j].2.2) (by rw[YU,E];rfl);rw[p2]at g1;cases g1;rw[p3,p4]at x2;show⟨by change(2:Nat)<=YM;decide,[.ref ps[j].2.1,u],.cons rfl<|.cons g2 .nil,_,x2,rfl,0,rfl,rfl⟩
     .rw[oP U,I.hok.fresh hb]at g;cases g
  show Lr b0Z _ σ _ [.ref L] [.ref L] Q I1 (.cons rfl .nil) ⟨L,fM as ps,rfl,.inl ⟨.inl<|.inl c3,λl c=>?_⟩⟩;have lL:l≠L:=λh=>by rw[h,c3]at c;cases c
  rw[bH lL]at c;have la:l∉as:=λh=>by
   obtain⟨j,B⟩:=a1Y.mp h;have w:j<ps.length:=by have:=(Yy.mp B).1;lia
   rw[vU G B<|Yz w]at c;cases c
  rw[oP la]at c;show k as L l Z ?_ λa R=>?_
  .rw[ZO,ZO];show⟨λh=>(Zm.mp h).elim lL la,nLa,G⟩
  .rcases Zm.mp R with rfl|R
   .show c
   rcases Zm.mp R with rfl|R
   .show I.hok.fresh hL
   .show I.hok.fresh<|a0y<|M.over a R
abbrev sI(k:List Int×D):D:=.tup [.tup<|k.1.map D.int,k.2]
abbrev vV:D->Hm->jk
 |.loc a,μ=>match μ[a]? with
  |some (.dT kvs)=>if vT kvs.length then b0 (.tup<|(vQ kvs).map sI,μ)else b5|_=>b5
 |_,_=>b5
abbrev vW(m:ME):ME:=λb a=>(m b a).bind λr=>vV r.1 r.2
abbrev Fy(K:Yx):V->Hp->VK->Prop:=λx H Q=>∃a ps,x=.ref a/\H a=b0 (aQ a ps)/\dP K H ps/\vT ps.length /\
 ∀(as:List Addr)(L l:Addr),as.length=ps.length->(l::L::as).Nodup->(∀a∈l::L::as,H a=b5)->Q (.ref l) (upd (upd (fW H as ps) L<|.lst<|fM as ps) l<|.tup<|fM as ps)
def RM{pos:a0u}(hc:X.calm=d7)(y:X.A.units+64<a0k)(u:X.mg "sorted"=b5)(w:X.mg "tuple"=b5)(n:Gl X "sorted")(r:Gl X "tuple")(T:PE X o to)(c:a2J o "items" X.env (eval o X.env)=eval o X.env)(d:(apos.endLine==cpos.line)=d7):
  PE X (.Call (.Name "tuple" p) [.Call (.Name "sorted" p2) [.Call (.Attribute o "items" apos) [] [] cpos] [] pos2] [] pos) (λj H Q=>to j H λx k=>Fy X.K x k Q):=by
 intro i s j H Q I h;show a1d<|hZ I r w a4r ?_;show Z4 ?_ rfl rfl;show a3F ?_;show a1d<|hZ I n u a4k ?_;show a4z ?_ rfl rfl;show a3F ?_;show a7Q c d<|aV (T i s j H _ I h) λv A ⟨x,k,B,Z,a,ps,N,e,E,l,q⟩=>?_;subst N;obtain rfl:v=YY a:=Z;obtain⟨Y,hl,M,L,g,he⟩:=vK B e E;show⟨"dict","dict.items",a3O,a2w,a6i,g.ty,λb K=>?_,a2L rfl<|a7q ?_⟩
 .cases K;obtain⟨z,O,R,_⟩:=g;show⟨z,O,R.2.1⟩
 show a3N a2w g.ty a5X (a5M _) (Fp a Y) ⟨⟨M,L,g⟩,?_⟩;show a3M ?_;have G:Inv X i j k {A with heap:=A.heap.push {cls:=.type "dict_items",data:=.fields #[.ref a]}}:=B.kept (t':=A.toks) λb o e=>YC _ e;show aV (RL hc y G e E l ⟨_,YR _ rfl,rfl,rfl⟩ q) λv s' U=>a3M U
def Fz:∀{as}{ps}{H},Rp K π H c->as.Nodup->(∀a∈as,H a=b5)->Ext π c.length H π c.length (fW H as ps)/\Rp K π (fW H as ps) c
 |[],_,H,R,_,_=>by simp only[fW];show⟨.refl,R⟩
 |a::as,[],H,R,_,_=>⟨.refl,R⟩|a::as,p::ps,H,R,nd,hf=>by
  rw[ZO]at nd;obtain⟨g,e⟩:=R.fresh (o:=.tup [.ref p.2.1,p.2.2])<|hf a<|Zs ..;obtain⟨h,R2⟩:=Fz (as:=as) (ps:=ps) e nd.2 λb d=>by rw[bH λw:b=a=>nd.1<|w▸d];show hf b<|Zl _ d
  show⟨g.trans h,R2⟩
def RN:∀σ H Q,tM K (vW Z) σ H Q->tM K Z σ H λx n=>Fy K x n Q:=by
 rintro σ H Q ⟨π,ρ,μ,d,o,R,E,g,k⟩;obtain⟨⟨x,G⟩,h1,g⟩:=Yv.mp g;show⟨π,ρ,μ,x,G,R,E,h1,λh v1 n e1 I i1=>?_⟩;have k1:=k.after e1;dsimp only at g;unfold vV at g;split at g
 .split at g
  .rename_i b hc;split at g
   .rename_i hb;cases g;cases i1;obtain⟨c,e2,T⟩:=iG I hc;have Y:c.length=b.length:=by have:=congrArg ZE T.to.1;simpa using this
    show⟨_,c,rfl,e2,T.keys,by rw[Y];show hb,λe L l al nd y=>?_⟩;rw[ZO,ZO]at nd;obtain⟨M,R3⟩:=Fz (ps:=c) I nd.2.2 λa ha=>y a<|Zl _<|Zl _ ha;have hL:fW n e c L=none:=by rw[oP nd.2.1];show y L<|Zl _<|Zs ..
    obtain⟨N,R4⟩:=R3.fresh (o:=.lst (fM e c)) hL;have hl:upd (fW n e c) L (.lst<|fM e c) l=none:=by rw[bH λw:l=L=>nd.1<|by rw[w];show Zs ..,oP λw=>nd.1<|Zl _ w];show y l<|Zs ..
    obtain⟨O,R5⟩:=R4.fresh (o:=.tup (fM e c)) hl;show k1 h _ _ ((M.trans N).trans O) R5<|.tup (.of c3) ?_;have A:c.map (·.1)=b.map (·.1):=T.to.1;have B:∀p:List Nat,(∀i∈p,i<b.length)->IsDs K h o.length (upd (upd (fW n e c) L<|.lst<|fM e c) l<|.tup<|fM e c) (p.map λi=>V.ref<|e.getD i 0) (p.map<|sI∘λi=>b.getD i ([],.non)):=λp s=>by
     induction p with
     |nil=>show .nil|cons i p ih=>
      have u:=s i<|Zs ..;have r:e[i]?=b0 (e.getD i 0):=by simp[ZV,show i<e.length by lia]
      have z:c[i]?=b0 c[i]:=Yz nofun;have hik:b[i]?=b0 b[i]:=Yz u;have U:b.getD i ([],.non)=b[i]:=by simp[ZV,u]
      have ep:c.getD i ([],0,.non)=c[i]:=by simp[ZV,show i<c.length by lia]
      have pa:=Rt T ([],0,.non) ([],.non) i ⋯;rw[ep,U]at pa;obtain⟨q1,q2,q3⟩:=pa;show .cons ?_<|ih λj hj=>s j<|Zl _ hj;have v:upd (upd (fW n e c) L<|.lst<|fM e c) l (.tup<|fM e c) (e.getD i 0)=b0 (.tup [.ref c[i].2.1,c[i].2.2]):=by have g:=YZ r;rw[bH λw:e.getD i 0=l=>nd.1<|by rw[<- w];show Zl _ g,bH λw:e.getD i 0=L=>nd.2.1<|by rw[<- w];show g];show vU nd.2.2 r z
      change IsD K h o.length _ (.ref<|e.getD i 0) (sI<|b.getD i ([],.non));rw[U];have X:=(M.trans N).trans O;have ik:IsD K h o.length n (.ref c[i].2.1) (.tup<|b[i].1.map D.int):=by rw[<- q1];show .tup q2<|zO _
      show .tup (.of v)<|.cons (ik.mono X)<|.cons (q3.mono X) .nil
    have ey:fM e c=(cS (λi j=>HT.lexLt ((b.map (·.1)).getD i [])<|(b.map (·.1)).getD j []) b.length).map λi=>V.ref (e.getD i 0):=by unfold fM cM;rw[A,Y]
    have fin:=B (cS (λi j=>HT.lexLt ((b.map (·.1)).getD i [])<|(b.map (·.1)).getD j []) b.length) λi u=>ZR.mp<|(iF _ _).mem_iff.mp u;rw[<- ey]at fin;unfold vQ;rw[Y0];show fin
   .cases g
  .cases g
 .cases g
def RO{pos:a0u}(hc:X.calm=d7)(i:X.A.units+64<a0k)(g:X.mg "sorted"=b5)(h:X.mg "tuple"=b5)(d:Gl X "sorted")(e:Gl X "tuple")(l:QE X o j)(n:kN o=d7)(k:(a.endLine==b.line)=d7):
  QE X (.Call (.Name "tuple" p) [.Call (.Name "sorted" r) [.Call (.Attribute o "items" a) [] [] b] [] c] [] pos) (vW j):=
 ⟨dJ (RM hc i g h d e l.h (n9 n) k) RN⟩
end L3
namespace L3
open PySem L2 PySem.W PyProof.Rows
def RP{s:YA}{lt:h->h->Bool}(O:Ord1 lt)d{ks:List h}(k:ks.length=us.length)(r:ks.Nodup)(u:us.Nodup)(hz:us.length<=YM)(n:s.heap.IsList l us.toArray)(H:2<=us.length->∀c,(∀b o,s.heap.get? b=b0 o->c.get? b=b0 o)->oM P w A.in1.in1 us (λi j=>lt (ks.getD i d)<|ks.getD j d) {s with heap:=c})(q:Q (.ref<|s.heap.objs.size+1) {s with heap:=sortedAll s.heap us ((cS (λi j=>lt (ks.getD i d)<|ks.getD j d) us.length).map λi=>us.getD i a0z).toArray}):Y6 (Y5 P w) A (call (.builtin "sorted") [.ref l]) Q E s:=by
 show a6o kind_sorted plain_sorted entry_sorted (args_sorted1 _) ?_;unfold a7m;show Yw (m:=checkCount "sorted" 1 1 _) (YH<|Yw<|collect_list n (Yw<|a5r ?_<|by lia)<|by lia);have z:((s.heap.push<|a0G "list" #[] 0).update s.heap.objs.size<|ZW (·++us.toArray)).objs.size=s.heap.objs.size+1:=by rw[Heap.size_update,size_push']
 have g:(((s.heap.push<|a0G "list" #[] 0).update s.heap.objs.size<|ZW (·++us.toArray)).push<|a0G "list" us.toArray 0).get? (s.heap.objs.size+1)=b0 (a0G "list" us.toArray 0):=z▸YR _ rfl;change Y6 _ _ _ _ _ ⟨((s.heap.push<|a0G "list" #[] 0).update s.heap.objs.size<|ZW (·++us.toArray)).push<|a0G "list" us.toArray 0,s.gens,s.drawn,s.toks,s.os⟩;rw[z];by_cases a:2<=us.length
 .show Yw<|Zz<|a1c a4W ⟨_,g,rfl⟩ a4K (Fo O d k r u a hz g (λc p=>H a c λb o e=>p b o ?_ ?_) ⟨_,rfl,?_⟩)<|a5a _
  .show Y7<|a3W<|YJ e
  .show YC _<|(ZI _ _<|a0r<|YJ e).trans<|YC _ e
  .show YH ⟨_,rfl,q⟩
 .show Yw (Zz<|a1c a4W ⟨_,g,rfl⟩ a4K (D0 (us:=us) ⋯ g ⟨_,rfl,?_⟩)<|a5a _);show YH ⟨_,rfl,?_⟩;match us,a,q with
  |[],_,q=>rw[a1S,zK]at q;show q|[b],_,q=>rw[a4t,D1]at q;show q|_::_::_,a,_=>simp at a
end L3
namespace L3
open PySem L2
def FA(h:A.handled=b5)(j:IsItemIter s.heap it d i es.size ep ok ov)(g:RawD s.heap d es ep)(n:∀e a,es[i]?=b0 e->a5z a it d (i+1) es.size ep e.key e.val s.heap.objs.size->a.get? s.heap.objs.size=b0 {cls:=.type "tuple",data:=.seq #[e.key,e.val]}->
   (∀b o,b≠it->s.heap.get? b=b0 o->a.get? b=b0 o)->Q (b0<|.ref s.heap.objs.size) {s with heap:=a})(p:es[i]?=b5->∀a,a4B it s.heap a->Q b5 {s with heap:=a}):Y6 (Y5 P w) A (a2b<|.ref it) Q E s:=
 Ai (S:=d) h j (.inl rfl) g g.lt (λe a c _ o l _ k=>n e a c (o rfl) l k) p
abbrev An(d:Addr)(a:Obj)(ps:bM):It:=⟨λi H=>H d=b0 (.frz a<|aQ d ps)/\i<ps.length,λi H x b=>∃t p,x=.ref t/\H t=b5/\ps[i]?=b0 p/\b=upd H t (.tup [.ref p.2.1,p.2.2]),λi H=>H d=b0 (.frz a<|aQ d ps)/\ps.length<=i⟩
def RQ(hd:ob.data=.dict es ep):Turn Qc P w K (.Tuple el kx pt) (An d ob ps) [j] j (λi h=>∃ok r,IsItemIter h j d i es.size ep ok r) where
 mem:=by simp
 obj:=λi h ⟨ok,r,st⟩ b p=>by
  have e:b=j:=by simpa using p
  subst e;show⟨_,st,λv z=>by
   have z':ZM _=a4c v:=z;cases z'⟩
 keep:=λi h U ⟨ok,r,st⟩ k=>⟨ok,r,k j (by simp) _ st⟩;item:=by
  intro X Z hw Y hc i O s σ H E I M ⟨ok,r,st⟩ hg;subst Z hw Y;obtain⟨n,B⟩:=hg;obtain⟨lo,hl,T,R,g,a,N⟩:=oO I n;rw[hd]at a;cases a;obtain⟨_,_,es2,ep2,_,y,he⟩:=Rv I n;rw[hd]at y;cases y;have hs:es.size=ps.length:=by have:=congrArg ZE N;simpa using this
  show FA (I.ok.hd hc) st g (λe U l a1 a2 a3=>⟨_,rfl,wpAny_letOwnedTupleGo_items a1 λh2 b1 L=>?_⟩) λhn=>by simp at hn;omega
  have hp:ps[i]?=b0 ps[i]:=Yz B;have ek:e.key=.ref (ps[i]).2.1:=by have:=congrArg (·[i]?) N;simp only[YU,a0o,l,hp,Zh]at this;show YX this
  obtain⟨u,u1,u2⟩:=he.get (i:=i) (x:=ps[i].2.2) (by rw[YU,hp];rfl);rw[YU,a0o,l]at u1;cases u1;have G:j<s.heap.objs.size:=YJ st;have ht2:h2.get? s.heap.objs.size=b0 {cls:=.type "tuple",data:=.seq #[e.key,e.val]}:=(L.2 _<|a0r G).trans a2;have hfr:H s.heap.objs.size=none:=I.hok.fresh<|YG _;show⟨.ref s.heap.objs.size,upd H s.heap.objs.size<|.tup [.ref (ps[i]).2.1,(ps[i]).2.2],?_,rfl,⟨_,ps[i],rfl,hfr,hp,rfl⟩,⟨_,_,b1⟩,λc p=>?_⟩
  .show z7 (s:=s) (h':=h2) (t':=s.toks) (ch:=[j]) I (λc oc p ec=>?_) M (YG _) ?_
   .have x:c≠j:=by simpa using p
    show(L.2 c x).trans<|a3 c oc x ec
   .show⟨by change(2:Nat)<=YM;decide,[e.key,e.val],.cons ek<|.cons u2 .nil,_,ht2,rfl,0,rfl,rfl⟩
  .rw[bH]
   .show(M c p).1
   .have e:c=j:=by simpa using p
    rw[e];show Y7 G
 done:=by
  intro X Z hw Y hc i O s σ H E I M ⟨ok,r,st⟩ hg;subst Z hw Y;obtain⟨n,B⟩:=hg;obtain⟨lo,hl,T,R,g,a,N⟩:=oO I n;rw[hd]at a;cases a;have hs:es.size=ps.length:=by have:=congrArg ZE N;simpa using this
  obtain⟨f0,f1,f2,f3,f4,f5⟩:=M j (by simp);show FA (I.ok.hd hc) st g (λe U l=>by
   have:=(a6h.mp l).1;omega) λ_ U eb=>⟨rfl,I.turned (t':=s.toks) (λb o p e=>eb b o p e) f0 f1 f3 f4 f5⟩
 self:=λA i s Q E ⟨ok,r,st⟩ h=>PySem.W.kcp_self st h
def RR(L:PE X l N)(j:a2J l "items" X.env (eval l X.env)=eval l X.env)(k:(a.endLine==c.line)=d7):
  PI X (.Tuple G M pt) (.Call (.Attribute l "items" a) [] [] c) (λr H R=>N r H λv n=>∃d A B,v=.ref d/\n d=b0 (.frz A<|aQ d B)/\R (An d A B) n):=by
 intro i s r H R I h;show a7Q j k<|aV (L i s r H _ I h) λv p ⟨y,n,E,r1,q1⟩=>?_;obtain⟨d,A,B,e,K,q⟩:=q1;subst e;obtain rfl:v=YY d:=r1;obtain⟨lo,L,U,Q,g,hd,he⟩:=oO E K;show⟨"dict","dict.items",a3O,a2w,a6i,g.ty,λb O=>?_,a2L rfl<|a7q ?_⟩
 .cases O;obtain⟨z,Z,w,_⟩:=g;show⟨z,Z,w.2.1⟩
 show a3N a2w g.ty a5X (a5M _) (Fp d lo) ⟨⟨U,Q,g⟩,?_⟩;have u:Inv X i r n {p with heap:=p.heap.push {cls:=.type "dict_items",data:=.fields #[.ref d]}}:=E.kept (t':=p.toks) λb o e=>YC _ e;obtain⟨lo2,hl2,Y,T,w,x,he2⟩:=oO u K;change Y6 (Y5 X.prog X.w) X.A (a6s<|.ref p.heap.objs.size) (Cj X i r (.Tuple G M pt) R) X.xe _;show Fm ⟨_,YR _ rfl,rfl,rfl⟩ w ⟨_,[_],_,_,n,rfl,u.kept (t':=p.toks) λb o e=>YC _ e,RQ x,⟨_,_,YR _ rfl⟩,λb hb=>?_,q⟩;have e:=YL.mp hb;subst e;show u.fpOk (YG _)<|u.hok.fresh<|YG _
abbrev kX(kvs:jx):List D:=kvs.map λk=>.tup [.tup<|k.1.map D.int,k.2]
def RS{ps:bM}(h:H d=b0 (.frz l<|aQ d ps))(T:IsTs K π n H ps kvs):Wk K (An d l ps) (dQ<|.tup<|kX kvs) π n H:=by
 have I:ps.length=kvs.length:=by have:=congrArg ZE T.to.1;simpa using this
 show⟨λg E o i e R z=>?_,λg E o i r e R z=>?_⟩
 .have a:(kX kvs)[i]?=none:=YX z;have:=Zx.mp a;rw[kX,Yu]at this;show⟨e.frz _ _ _ h,by lia⟩
 .have a:(kX kvs)[i]?=b0 r:=YX z;have B:i<kvs.length:=by have:=(Yy.mp a).1;rwa [kX,Yu]at this
  show⟨⟨e.frz _ _ _ h,by lia⟩,λv G ⟨t,p,s,u,w,x⟩=>?_⟩;subst s x;have b:kvs[i]?=b0 kvs[i]:=Yz B;obtain⟨L,j,y⟩:=(T.to.2.1.mono e).get (i:=i) (d:=D.tup ((kvs[i]).1.map D.int)) (by rw[YU,b];rfl);obtain⟨M,k,A⟩:=(T.to.2.2.mono e).get (i:=i) (d:=(kvs[i]).2) (by rw[YU,b];rfl);rw[YU,w]at j k;cases j;cases k;obtain⟨c,R2⟩:=R.fresh (o:=.tup [.ref p.2.1,p.2.2]) u;rw[kX,YU,b]at a;cases a;show⟨c,R2,.tup (.of c3)<|.cons (y.mono c)<|.cons (A.mono c) .nil⟩
def RT(j:PE X l i):PE X l (λσ H Q=>i σ H λv a=>∃d ps,v=.ref d/\a d=b0 (aQ d ps)/\∀c,Q v (upd a d<|.frz c<|aQ d ps)):=by intro b s σ H Q I h;show aV (j b s σ H _ I h) λv p ⟨y,a,g,o,n⟩=>?_;obtain⟨d,ps,rfl,e,q⟩:=n;obtain⟨_,⟨c,k⟩,_⟩:=(show ObjOk X.prog X.w a p.heap d (aQ d ps)from g.hok _ _ e);show⟨_,_,Inv.freeze g e k,o,q c⟩
abbrev sJ(m:ME):MI:=λc b=>(m c b).bind λp=>match p.1 with
 |.loc a=>match p.2[a]? with
  |some (.dT kvs)=>b0 (dQ<|.tup<|kX kvs,kvs.length+1,p.2.set a<|.dF kvs)|_=>b5
 |_=>b5
def RU(h:QE X e m)(y:kN e=d7)(w:(a.endLine==b.line)=d7):QJT X (.Call (.Attribute e "items" a) [] [] b) (sJ m):=⟨λes O pt b0Z s σ H R I hw=>by
 obtain⟨L,M,B,A,n,G,r,E,c,k⟩:=hw;obtain⟨⟨x,K⟩,v,c⟩:=Yv.mp c;dsimp only at c;split at c
 .split at c
  .rename_i i hc;cases c;show RR (RT h.h) (n9 y) w b0Z s σ H R I ⟨L,M,B,_,_,r,E,v,λl Q N u o z=>?_⟩;cases z;obtain⟨d,p,T⟩:=iG o hc;show⟨_,d,rfl,p,λj=>?_⟩;obtain⟨g,R2⟩:=o.put (c:=.dF i) (o:=.frz j (aQ _ d)) (Yy.mp hc).1 p (.inr<|.inr ⟨_,rfl⟩) ⟨j,d,rfl,T.to⟩;show⟨_,j,d,rfl,c3,k l _ _ (u.trans g) R2<|RS c3<|IsTs.of T.to.1 (T.to.2.1.mono g)<|T.to.2.2.mono g⟩
  .cases c
 .cases c⟩
abbrev qF:D->List D->Hm->jk
 |.loc a,[x],μ=>match μ[a]? with
  |some (.lst xs)=>(kT μ x xs).bind λbs=>if bs.findIdx id<bs.length/\bs.length<=YM then b0 (.non,μ.set a<|.lst<|xs.eraseIdx<|bs.findIdx id)else b5|_=>b5
 |_,_,_=>b5
inductive rRemove (K:Yx):V->gz->Hp->VK->Prop
 |mk {H:Hp}{Q:VK}{π:Nat->Addr}{μ:Hm}{a:Nat}{xs:List D}{y:V}{dy:D}{bs:List Bool}{ws:gz}(R:Rp K π H μ)(hx:μ[a]?=b0 (.lst xs))(iy:IsD K π μ.length H y dy)(he:kT μ dy xs=b0 bs)(hf:bs.findIdx id<bs.length)(hH:H (π a)=b0 (.lst ws))(q:Q .non (upd H (π a)<|.lst<|ws.eraseIdx<|bs.findIdx id)):rRemove K (.ref<|π a) [y] H Q
def FC:∀{vs}{ds},IsDs K π n H vs ds->∀k,IsDs K π n H (vs.eraseIdx k) (ds.eraseIdx k)
 |_,_,.nil,_=>.nil|_,_,.cons _ t,0=>t|_,_,.cons h t,k+1=>.cons h<|FC t k
def FD:∀{vs}{us},Vals vs us->∀k,Vals (vs.eraseIdx k) (us.eraseIdx k)
 |_,_,.nil,_=>.nil|_,_,.cons _ t,0=>t|_,_,.cons h t,k+1=>.cons h<|FD t k
def RV:i6 K qF (rRemove K):=by
 intro w H z x ds d u v y Q R r p a k;unfold qF at a;split at a
 .split at a
  .rename_i g b;obtain⟨bs,j,a⟩:=Yv.mp a;split at a
   .rename_i n;cases a;cases p with
    |cons o s=>cases s;cases r;obtain⟨e,c,l⟩:=R.lst _ g b;obtain⟨i,h⟩:=R.put (c:=.lst (g.eraseIdx<|bs.findIdx id)) (o:=.lst (e.eraseIdx<|bs.findIdx id)) (Yy.mp b).1 c (.inl ⟨e,rfl⟩)<|FC l _;show .mk R b o j n.1 c<|k w _ _ i h .non
   .cases a
  .cases a
 .cases a
def FE{g:Value->Bool}(p:j<us.size)(hz:us.size<=YM)(hit:g us[j]=d7):
  ∀(k i:Nat),i+k=j->(∀m (u:m<us.size),i<=m->m<j->g us[m]=dI)->Meets (Builtin.«list.remove.loop» ⟨[.ref l,x,a3u i],[]⟩)
   λA R s=>(s.heap.get? l=b0 {cls:=.type "list",dict:=b5,data:=.seq us n,slots:=#[]}/\∀y∈us,a2z A.in1 s y x (g y))/\R (.ok<|.ret .none) {s with heap:=s.heap.update l<|ZW (·.eraseIdxIfInBounds j)}
 |0,i,e,_,prog,w,A,R,s,h=>by
  obtain⟨z,v,d,E,B⟩:=s;obtain⟨⟨c,o⟩,h⟩:=h;obtain rfl:i=j:=e;wp_walk using a2N c;rw[show us[((i:Nat):Int).toNat]?=b0 us[i] by simp[p]];show Yw<|o _ (a8d p) prog w _ _ ?_;rw[hit];have r:(us.eraseIdxIfInBounds i).size<=YM+1:=by
   have:(us.eraseIdxIfInBounds i).size<=us.size:=by unfold a6y;split<;>simp
   lia
  wp_walk using(a0q c rfl (hz:=hz) (_hz':=r)),a2N c;simpa using h
 |k+1,i,e,no,prog,w,A,R,s,h=>by
  obtain⟨z,v,d,E,B⟩:=s;obtain⟨⟨c,o⟩,h⟩:=h;have lt:i<us.size:=by lia
  wp_walk using a2N c;rw[show us[((i:Nat):Int).toNat]?=b0 us[i] by simp[lt]];show Yw<|o _ (a8d lt) prog w _ _ ?_;rw[no i lt (YG _)<|by lia];wp_walk;rw[show((i:Int)+1)=((i+1:Nat):Int) by lia];show⟨Z8 a1X _,Z2 a5x ?_⟩;rw[Zy a1X _];show FE p hz hit k (i+1) ⋯ (λm u a b=>no m u ⋯ b) prog w A R _ ⟨⟨c,o⟩,h⟩
def RW{g:Value->Bool}(k:j<us.size)(hz:us.size<=YM)(hit:g us[j]=d7)(no:∀m (e:m<us.size),m<j->g us[m]=dI):Meets (Builtin.«list.remove» ⟨[.ref l,x],[]⟩)
   λA R s=>(s.heap.get? l=b0 {cls:=.type "list",dict:=b5,data:=.seq us n,slots:=#[]}/\∀y∈us,a2z A.in1 s y x (g y))/\R (.ok<|.ret .none) {s with heap:=s.heap.update l<|ZW (·.eraseIdxIfInBounds j)}:=by
 intro a w A R s h;obtain⟨p,o,d,u,r⟩:=s;obtain⟨⟨c,i⟩,h⟩:=h;wp_walk using a2N c;show⟨Z8 a1X _,Z2 a5x ?_⟩;rw[Zy a1X _];show FE k hz hit j 0 (a0R _) (λm e _ b=>no m e b) a w A R _ ⟨⟨c,i⟩,h⟩
def RX(hu:X.A.units+20<a0k):jK X "list.remove" (rRemove X.K):=by
 intro K s σ H x vs v us Q I rx Z h;obtain⟨R,O,U,N,p,o,q⟩:=h;rename_i π μ a xs y dy bs G;cases rx;obtain⟨u,rfl,Y⟩:=Z.one;obtain⟨B,j,hd⟩:=R.lst a xs O;obtain rfl:G=B:=by rw[o]at j;cases j;rfl
 obtain⟨z,b,n,r,hl,e⟩:=I.lstM o;obtain⟨g,L,E⟩:=EL I R (A:=X.A.in1) (by rw[iY];lia) Y U hd r N;have k:bs.length=b.length:=by rw[<- E,Yu]
 have w:bs.findIdx id<b.length:=by rw[<- k];show p
 have c:∀m (l:m<b.length),bs[m]?=b0 (g b[m]):=λm l=>by rw[<- E,YU,Yz l];rfl
 show a4F F.slot_list_remove ⟨_,e,rfl⟩ F.entry_list_remove (F.args_list_remove_2 _ _) (RW (l:=π a) (us:=b.toArray) (n:=n) (x:=u) (g:=g) (j:=bs.findIdx id) (by simpa using w) (by rw[YI];lia) ?_ ?_) ⟨⟨e,λy T=>L y<|by simpa using T⟩,⟨.non,_,I.lset (its':=b.eraseIdx (bs.findIdx id)) o e ?_ (FD r _) ?_,rfl,q⟩⟩
 .have d:=a7y (p:=id) (xs:=bs) (w:=p);have i:=c _ w;rw[Yz p]at i;rw[YX i]at d;simpa using d
 .intro m l A;have M:m<b.length:=by simpa using l
  have d:=a6S (p:=id) (xs:=bs) A;have i:=c _ M;rw[Yz<|by lia]at i;rw[YX i]at d;simpa using d
 .unfold a6y;rw[dif_pos<|by simpa using w];simp
 .have:=List.length_eraseIdx_le G<|bs.findIdx id;lia
open PyProof.Rows (IsTup IntsAre)
abbrev sL(h:ZX)(v:Value)(p:Int×Int):Prop:=∃a xs,v=.ref a/\a9U h a xs/\a2B xs.toList [p.1,p.2]
def RY(c:A.units<a0k)(a:sL s.heap u p)(b:sL s.heap v q)(h:Q (.bool<|HT.lexLt [p.1,p.2] [q.1,q.2]) s):Y6 (Y5 P w) A (a2v .Lt u v) Q E s:=by obtain⟨a,j,rfl,g,d⟩:=a;obtain⟨b,k,rfl,i,e⟩:=b;show HT.lt_tupInts g i d e c h
def RZ(N:A.units+2<a0k)(a:sL s.heap u p)(b:sL s.heap v q)(h:Q (.bool<|HT.lexLt [q.1,q.2] [p.1,p.2]) s):Y6 (Y5 P w) A (a2v .Gt u v) Q E s:=by
 obtain⟨a,I,rfl,⟨r,l,o,O,M⟩,d⟩:=a;obtain⟨b,K,rfl,⟨B,k,n,R,L⟩,g⟩:=b;obtain⟨I⟩:=I;obtain⟨K⟩:=K;show wpAny_richCompare_same_room (op:=.Gt) ⟨r,l,o⟩ ⟨B,k,n⟩ F.slot_tuple_gt (a1c F.slot_tuple_gt ⟨r,l,o⟩ F.entry_tuple_gt ?_<|F.args_tuple_gt_2 _ _) ⋯;show Yw (m:=isInstance (.ref b) (.type "tuple"))<|a3r ⟨B,k,n⟩ isSubtype_tuple_tuple ?_;simp only[a3Z,Zf,if_false];show Yw<|a9r l M<|Yw<|a9r k L<|Yw ?_;cases d with
 |cons x t d=>
 cases d with
 |cons T G d=>
 cases d;cases g with
 |cons y u g=>
 cases g with
 |cons U H g=>
 cases g;change Y6 _ _ (forIn [(ZA p.1 t,ZA q.1 u),(ZA p.2 G,ZA q.2 H)] _ _) _ _ s;simp only[a9c,List.forIn_nil];have c:∀(i:Int)(t:a7F),(a1P P w).is i (.int i t)=true:=λi t=>by simp[a1P,a7c]
 show Yw<|Yw<|(a1P P w).eqBool (c p.1 t) (c q.1 u) ?_;by_cases e:p.1=q.1
 .rw[decide_eq_true e];simp only[a3Z,Zf,if_false];show YH<|Yw<|Yw<|(a1P P w).eqBool (c p.2 G) (c q.2 H) ?_;by_cases j:p.2=q.2
  .rw[decide_eq_true j];rw[e,j,vO]at h;simp only[a3Z,Zf,if_false];show YH<|YH<|YH ⟨.bool dI,rfl,(λz=>nomatch z),h⟩
  .rw[decide_eq_false j];simp only[a4C,if_true];show Yw<|a1b<|Yw<|a5Y ?_;have:HT.lexLt [q.1,q.2] [p.1,p.2]=decide (q.2<p.2):=by simp[HT.lexLt,e,ZJ j]
   rw[this]at h;show Yw<|YH<|YH<|YH<|YH ⟨_,rfl,(λz=>nomatch z),h⟩
 .rw[decide_eq_false e];simp only[a4C,if_true];show Yw<|a1b<|Yw<|a5Y ?_;have:HT.lexLt [q.1,q.2] [p.1,p.2]=decide (q.1<p.1):=by simp[HT.lexLt,ZJ e]
  rw[this]at h;show Yw<|YH<|YH<|YH<|YH ⟨_,rfl,(λz=>nomatch z),h⟩
def R0{St:Nat->ZX->Prop}(K:Walks P w A.in1 I U y 2 (λi v=>(#[a,b]:Array Value)[i]?=b0 v) St)(N:S∉U)(st:St 0 s.heap)(G:s.heap.get? S=b0 {cls:=.type "list",dict:=b5,data:=.seq #[] z,slots:=#[]})(hc:∀t (Q E:Value->YA->Prop),(∀x o,x∉y->x≠S->s.heap.get? x=b0 o->t.heap.get? x=b0 o)->Q (.bool c) t->Y6 (Y5 P w) A.in1 (a2v .Lt b a) Q E t)(q:∀Z tk,(∀x o,x∉y->x≠S->s.heap.get? x=b0 o->Z.get? x=b0 o)->R (.ok<|.ret<|if c then b else a) {s with heap:=Z,toks:=tk}):a2y (Y5 P w) A (.builtin "min.loop" ⟨[.ref I,.none,.ref S],[]⟩) R s:=by
 have p:S∉y:=λz=>N<|K.sub _ z;have O:(toString "min"++toString ".loop":String)="min.loop":=by decide
 have d:∀{h:ZX}{u:Value}(x:Addr)(o:Obj),x≠S->h.get? x=b0 o->(h.update S<|ZW λ_=>#[u,u]).get? x=b0 o:=λx o n e=>(ZI _ _<|ZJ n).trans e;show Z2 F.entry_min_loop ?_;rw[Zy F.plain_min_loop _];show Yw (m:=a3t (.ref S)) (a1B G rfl<|Yw (m:=tryCatch (a2b<|.ref I) _)<|a0U<|K.item 0 s _ _ (by decide) st λv h1 tk1 pv T L=>?_);obtain rfl:a=v:=by simpa using pv
 show Yw (m:=a3s S λ_=>#[a,a])<|a0q (L S _ p G) rfl ?_;rw[O];show YH ⟨Z8 F.plain_min_loop _,Z2 F.entry_min_loop ?_⟩;rw[Zy F.plain_min_loop _];have X:=ZN (ZW λ_=>#[a,a]) (L S _ p G) rfl;show Yw (m:=a3t (.ref S)) (a1B X rfl<|Yw (m:=tryCatch (a2b<|.ref I) _)<|a0U<|K.item 1 _ _ _ (by decide) (K.frame _ _ _ T λx H o e=>d x o (λz=>N<|z▸H) e) λv h2 tk2 pv r k2=>?_);obtain rfl:b=v:=by simpa using pv
 have M:∀x o,x∉y->x≠S->s.heap.get? x=b0 o->h2.get? x=b0 o:=λx o g j e=>k2 x o g<|d x o j<|L x o g e;have B:=k2 S _ p X;change Y6 _ A.in1 (tryCatch (holding [b,b]<|a2v .Lt b a >>= _) _ >>= _) _ _ _;show Yw<|a0U<|Zz<|Yw<|hc _ _ _ M<|Yw<|Zz<|a0i<|Yw<|a1z<|YH ?_;cases c with
 |true=>simp only[if_true]at q ⊢;show Yw<|a0q B rfl<|Yw<|a1z ?_;rw[O];show YH ⟨Z8 F.plain_min_loop _,Z2 F.entry_min_loop ?_⟩;rw[Zy F.plain_min_loop _];have Y:=ZN (ZW λ_=>#[b,b]) B rfl;show Yw (m:=a3t (.ref S))<|a1B Y rfl<|Yw (m:=tryCatch (a2b<|.ref I) _)<|a0U<|K.done _ _ _ (K.frame _ _ _ r λx H o e=>d x o (λz=>N<|z▸H) e) λh4 k l=>?_;show Yw (m:=a3s S λ_=>#[])<|a0q (l S _ p Y) rfl<|Yw<|a1z<|YH ?_;show q _ k λx o g j e=>(ZI _ _<|ZJ j).trans (l x o g<|d x o j<|M x o g j e)|false=>simp only[Zf,if_false]at q ⊢;show Yw<|a1z ?_;rw[O];show YH ⟨Z8 F.plain_min_loop _,Z2 F.entry_min_loop ?_⟩;rw[Zy F.plain_min_loop _];show Yw (m:=a3t (.ref S))<|a1B B rfl<|Yw (m:=tryCatch (a2b<|.ref I) _)<|a0U<|K.done _ _ _ r λh4 k l=>?_;show Yw (m:=a3s S λ_=>#[])<|a0q (l S _ p B) rfl<|Yw<|a1z<|YH ?_;show q _ k λx o g j e=>(ZI _ _<|ZJ j).trans<|l x o g<|M x o g j e
def R6(u:A.handled=b5)(hc:∀t (Q E:Value->YA->Prop),(∀x o,s.heap.get? x=b0 o->t.heap.get? x=b0 o)->Q (.bool c) t->Y6 (Y5 P w) A.in1 (a2v .Lt b a) Q E t)(q:∀g j,(∀x o,s.heap.get? x=b0 o->g.get? x=b0 o)->Q (if c then b else a) {s with heap:=g,toks:=j}):Y6 (Y5 P w) A (call (.builtin "min") [a,b]) Q E s:=by
 have v:(toString "min"++toString ".loop":String)="min.loop":=by decide
 show a9z F.kind_min F.plain_min F.entry_min (F.args_min2 _ _) ?_;show Yw (m:=a4x "min" ["key","default"] 0 ⟨[],[]⟩)<|a6z (show _=pure [b5,b5]from rfl) ?_;show Yw (m:=a8T [a,b])<|Z7 ?_;have n:(s.heap.push {cls:=.type "tuple",data:=.seq #[a,b]}).IsTuple s.heap.objs.size #[a,b]:=⟨_,YR _ rfl,rfl,0,rfl⟩;have i:(s.heap.push {cls:=.type "tuple",data:=.seq #[a,b]}).objs.size=s.heap.objs.size+1:=a1v ..;show Yw<|a2a n<|Yw<|Z7 ?_;have d:((s.heap.push {cls:=.type "tuple",data:=.seq #[a,b]}).push {cls:=.type "tuple_iterator",data:=.fields #[.ref s.heap.objs.size,.int 0 0]}).objs.size=s.heap.objs.size+2:=by rw[a1v,i]
 rw[v];have old:∀x o,s.heap.get? x=b0 o->x<s.heap.objs.size:=λx o e=>YJ e;show YH ⟨Z8 F.plain_min_loop _,R0 (c:=c) (a5v (A:=A.in1) u _ s.heap.objs.size (by rw[i];show Y7<|a0x _) #[a,b]) ?_ ⟨⟨_,YC _<|YR _ rfl,rfl,rfl⟩,(n.push _).push _⟩ (YR _ rfl) (λt r p k h=>hc t r p (λx o e=>?_) h) λg j k=>q g j λx o e=>?_⟩
 .rw[d,i];simp
 all_goals
  have l:=old x o e;show k x o (λz=>?_) (λz=>?_)<|YC _<|YC _<|YC _ e
  .rw[i]at z;rw[YL.mp z]at l;show a0f _<|a0s l
  .rw[z,d]at l;show a0f _<|a0s<|a0s l
def R8{St:Nat->ZX->Prop}(K:Walks P w A.in1 I U y 2 (λi v=>(#[a,b]:Array Value)[i]?=b0 v) St)(N:S∉U)(st:St 0 s.heap)(G:s.heap.get? S=b0 {cls:=.type "list",dict:=b5,data:=.seq #[] z,slots:=#[]})(hc:∀t (Q E:Value->YA->Prop),(∀x o,x∉y->x≠S->s.heap.get? x=b0 o->t.heap.get? x=b0 o)->Q (.bool c) t->Y6 (Y5 P w) A.in1 (a2v .Gt b a) Q E t)(q:∀Z tk,(∀x o,x∉y->x≠S->s.heap.get? x=b0 o->Z.get? x=b0 o)->R (.ok<|.ret<|if c then b else a) {s with heap:=Z,toks:=tk}):a2y (Y5 P w) A (.builtin "max.loop" ⟨[.ref I,.none,.ref S],[]⟩) R s:=by
 have p:S∉y:=λz=>N<|K.sub _ z;have O:(toString "max"++toString ".loop":String)="max.loop":=by decide
 have d:∀{h:ZX}{u:Value}(x:Addr)(o:Obj),x≠S->h.get? x=b0 o->(h.update S<|ZW λ_=>#[u,u]).get? x=b0 o:=λx o n e=>(ZI _ _<|ZJ n).trans e;show Z2 F.entry_max_loop ?_;rw[Zy F.plain_max_loop _];show Yw (m:=a3t (.ref S)) (a1B G rfl<|Yw (m:=tryCatch (a2b<|.ref I) _)<|a0U<|K.item 0 s _ _ (by decide) st λv h1 tk1 pv T L=>?_);obtain rfl:a=v:=by simpa using pv
 show Yw (m:=a3s S λ_=>#[a,a])<|a0q (L S _ p G) rfl ?_;rw[O];show YH ⟨Z8 F.plain_max_loop _,Z2 F.entry_max_loop ?_⟩;rw[Zy F.plain_max_loop _];have X:=ZN (ZW λ_=>#[a,a]) (L S _ p G) rfl;show Yw (m:=a3t (.ref S)) (a1B X rfl<|Yw (m:=tryCatch (a2b<|.ref I) _)<|a0U<|K.item 1 _ _ _ (by decide) (K.frame _ _ _ T λx H o e=>d x o (λz=>N<|z▸H) e) λv h2 tk2 pv r k2=>?_);obtain rfl:b=v:=by simpa using pv
 have M:∀x o,x∉y->x≠S->s.heap.get? x=b0 o->h2.get? x=b0 o:=λx o g j e=>k2 x o g<|d x o j<|L x o g e;have B:=k2 S _ p X;change Y6 _ A.in1 (tryCatch (holding [b,b]<|a2v .Gt b a >>= _) _ >>= _) _ _ _;show Yw<|a0U<|Zz<|Yw<|hc _ _ _ M<|Yw<|Zz<|a0i<|Yw<|a1z<|YH ?_;cases c with
 |true=>simp only[if_true]at q ⊢;show Yw<|a0q B rfl<|Yw<|a1z ?_;rw[O];show YH ⟨Z8 F.plain_max_loop _,Z2 F.entry_max_loop ?_⟩;rw[Zy F.plain_max_loop _];have Y:=ZN (ZW λ_=>#[b,b]) B rfl;show Yw (m:=a3t (.ref S))<|a1B Y rfl<|Yw (m:=tryCatch (a2b<|.ref I) _)<|a0U<|K.done _ _ _ (K.frame _ _ _ r λx H o e=>d x o (λz=>N<|z▸H) e) λh4 k l=>?_;show Yw (m:=a3s S λ_=>#[])<|a0q (l S _ p Y) rfl<|Yw<|a1z<|YH ?_;show q _ k λx o g j e=>(ZI _ _<|ZJ j).trans (l x o g<|d x o j<|M x o g j e)|false=>simp only[Zf,if_false]at q ⊢;show Yw<|a1z ?_;rw[O];show YH ⟨Z8 F.plain_max_loop _,Z2 F.entry_max_loop ?_⟩;rw[Zy F.plain_max_loop _];show Yw (m:=a3t (.ref S))<|a1B B rfl<|Yw (m:=tryCatch (a2b<|.ref I) _)<|a0U<|K.done _ _ _ r λh4 k l=>?_;show Yw (m:=a3s S λ_=>#[])<|a0q (l S _ p B) rfl<|Yw<|a1z<|YH ?_;show q _ k λx o g j e=>(ZI _ _<|ZJ j).trans<|l x o g<|M x o g j e
def Sa(u:A.handled=b5)(hc:∀t (Q E:Value->YA->Prop),(∀x o,s.heap.get? x=b0 o->t.heap.get? x=b0 o)->Q (.bool c) t->Y6 (Y5 P w) A.in1 (a2v .Gt b a) Q E t)(q:∀g j,(∀x o,s.heap.get? x=b0 o->g.get? x=b0 o)->Q (if c then b else a) {s with heap:=g,toks:=j}):Y6 (Y5 P w) A (call (.builtin "max") [a,b]) Q E s:=by
 have v:(toString "max"++toString ".loop":String)="max.loop":=by decide
 show a9z F.kind_max F.plain_max F.entry_max (F.args_max2 _ _) ?_;show Yw (m:=a4x "max" ["key","default"] 0 ⟨[],[]⟩)<|a6z (show _=pure [b5,b5]from rfl) ?_;show Yw (m:=a8T [a,b])<|Z7 ?_;have n:(s.heap.push {cls:=.type "tuple",data:=.seq #[a,b]}).IsTuple s.heap.objs.size #[a,b]:=⟨_,YR _ rfl,rfl,0,rfl⟩;have i:(s.heap.push {cls:=.type "tuple",data:=.seq #[a,b]}).objs.size=s.heap.objs.size+1:=a1v ..;show Yw<|a2a n<|Yw<|Z7 ?_;have d:((s.heap.push {cls:=.type "tuple",data:=.seq #[a,b]}).push {cls:=.type "tuple_iterator",data:=.fields #[.ref s.heap.objs.size,.int 0 0]}).objs.size=s.heap.objs.size+2:=by rw[a1v,i]
 rw[v];have old:∀x o,s.heap.get? x=b0 o->x<s.heap.objs.size:=λx o e=>YJ e;show YH ⟨Z8 F.plain_max_loop _,R8 (c:=c) (a5v (A:=A.in1) u _ s.heap.objs.size (by rw[i];show Y7<|a0x _) #[a,b]) ?_ ⟨⟨_,YC _<|YR _ rfl,rfl,rfl⟩,(n.push _).push _⟩ (YR _ rfl) (λt r p k h=>hc t r p (λx o e=>?_) h) λg j k=>q g j λx o e=>?_⟩
 .rw[d,i];simp
 all_goals
  have l:=old x o e;show k x o (λz=>?_) (λz=>?_)<|YC _<|YC _<|YC _ e
  .rw[i]at z;rw[YL.mp z]at l;show a0f _<|a0s l
  .rw[z,d]at l;show a0f _<|a0s<|a0s l
abbrev Ao(x:D):Option (Int×Int):=(cY x).bind λk=>match k with
 |[a,b]=>b0 (a,b)|_=>b5
abbrev vX(f:Int×Int->Int×Int->Bool)(g:MF):MF:=λds a=>match ds with
 |[x,y]=>(match Ao x,Ao y with
  |some p,b0 q=>b0 (if f p q then y else x,a)
  |_,_=>g ds a)
 |_=>g ds a
abbrev oQ:MF:=vX (λp q=>HT.lexLt [q.1,q.2] [p.1,p.2]) zY
abbrev sM:MF:=vX (λp q=>HT.lexLt [p.1,p.2] [q.1,q.2]) zZ
inductive rMm (f:Int×Int->Int×Int->Bool)(K:Yx):gz->Hp->VK->Prop
 |mk {H:Hp}{Q:VK}{a b:Addr}{p q:Int×Int}(ha:SqT K H a ([p.1,p.2].map V.int))(hb:SqT K H b ([q.1,q.2].map V.int))(k:Q (.ref<|if f p q then b else a) H):rMm f K [.ref a,.ref b] H Q
def FF(h:Ao x=b0 p):x=.tup ([p.1,p.2].map D.int):=by
 obtain⟨k,b,a⟩:=Yv.mp h;rw[rS b];split at a
 .cases a;rfl
 .cases a
def sN{p:List Int}(h:IsD K π n H v (.tup<|p.map D.int)):∃a,v=.ref a/\SqT K H a (p.map V.int):=by
 cases h with
 |@tup a c ds b hd=>have:=ints_of' hd;subst this;show⟨a,rfl,b⟩
def FG(j:dW K g r):dW K (vX f g) (λxs H Q=>rMm f K xs H Q\/r xs H Q):=by
 intro h H u xs d e s Q R i c k;unfold vX at c;split at c
 .split at c
  .rename_i v w;cases c;cases i with
   |cons l t=>
   cases t with
   |cons n t=>
   cases t;have o:=l;have p:=n;rw[FF v]at o;rw[FF w]at p;obtain⟨a,rfl,x⟩:=sN o;obtain⟨b,rfl,y⟩:=sN p;show .inl<|.mk x y<|k h _ H .refl R ?_;split
   .show n
   .show l
  .show .inr<|j h H u _ d e s Q R i c k
 .show .inr<|j h H u _ d e s Q R i c k
def vY{σ:St}(I:Inv X b0Z σ H s)(h:SqT X.K H a ([p.1,p.2].map V.int))(c:∀x o,s.heap.get? x=b0 o->h'.get? x=b0 o):sL h' (.ref a) p:=by obtain⟨b,r,⟨o,e,z⟩,_⟩:=I.tuple h;show⟨a,_,rfl,⟨o,c _ _ e,z⟩,yB r⟩
def Sb(hc:X.calm=d7)(n:X.A.units+64<a0k):CallR X (.builtin "min") (rMm (λp q=>HT.lexLt [q.1,q.2] [p.1,p.2]) X.K):=by intro b s y H x w Q I r h;obtain⟨c,d,k⟩:=h;obtain⟨u,v,rfl,e,g⟩:=rH r;cases e;cases g;show R6 (I.ok.hd hc) (λt j i a h=>RY (by rw[iY];lia) (vY I d a) (vY I c a) h) λl o a=>⟨_,H,I.kept a,?_,k⟩;split<;>rfl
def Se(hc:X.calm=d7)(n:X.A.units+64<a0k):CallR X (.builtin "max") (rMm (λp q=>HT.lexLt [p.1,p.2] [q.1,q.2]) X.K):=by intro b s y H x w Q I r h;obtain⟨c,d,k⟩:=h;obtain⟨u,v,rfl,e,g⟩:=rH r;cases e;cases g;show Sa (I.ok.hd hc) (λt j i a h=>RZ (by rw[iY];lia) (vY I d a) (vY I c a) h) λl o a=>⟨_,H,I.kept a,?_,k⟩;split<;>rfl
end L3
namespace L3
open PySem L2 PySem.W PyProof.Rows
noncomputable abbrev Ti:=List Int×List Int×Bool×List Int
abbrev gM:Ti:=([],[],dI,[])
abbrev oR(x y:Ti):Bool:=if x.1=y.1 then(if x.2.1=y.2.1 then(if x.2.2.1=y.2.2.1 then HT.lexLt x.2.2.2 y.2.2.2 else y.2.2.1)else HT.lexLt x.2.1 y.2.1)else HT.lexLt x.1 y.1
section
variable{P:Y4}{w:Zk}{A:Zi}{E:Value->YA->Prop}{s:YA}
inductive TiAt (P:Y4)(w:Zk)(h:ZX)(a:Addr)(t:Ti):Prop
 |mk (o:Obj)(n:Nat)(b c e:Addr)(g:h.get? a=b0 o)(k:o.cls=.type "tuple") (d:o.data=.seq #[.ref b,.ref c,.bool t.2.2.1,.ref e] n)(h1:jT P w h b t.1)(h2:jT P w h c t.2.1)(h3:jT P w h e t.2.2.2)
def Sf(h:a≠b):a2z A s (.bool a) (.bool b) false:=λprog w E Q q=>by unfold eqBool;show Zz ?_;rw[if_neg<|by simpa using h];show Yw<|SeqAt.RcAt.bool_bool a b prog w E _<|a0i ?_;rw[show(a==b)=dI by simpa using h];show q
def Ap(g:A.units<a0k)(d:jT P w s.heap b k)(a:jT P w s.heap c k')(l:k=k'->KatLex P w A dI fin Q r (i+1) s)(n:k≠k'->Q (HT.lexLt k k') s):
  KatLex P w A dI fin Q ((.ref b,.ref c)::r) i s:=by
 show a6Z<|(a2i<|a1P P w).eqBool g d.1 a.1 ?_;by_cases e:k=k'
 .rw[decide_eq_true e];show a9K<|l e
 .rw[decide_eq_false e];obtain⟨u,o,h⟩:=d.2;obtain⟨v,p,j⟩:=a.2;show kat_no<|kat_one _ _<|HT.lt_tupInts o p (by simpa using h) (by simpa using j) g<|n e
def Sg{C:Bool->YA->Prop}(h:A.units<a0k)(x:TiAt P w s.heap a t)(y:TiAt P w s.heap i t')(q:C (oR t t') s):Y6 (Y5 P w) A (a9v (tuples' dI) (.ref a)<|.ref i) C (λ_ _=>False) s:=by
 obtain⟨o,n,b,c,e,g,_,d,B,G,H⟩:=x;obtain⟨N,M,j,k,p,r,_,l,I,K,L⟩:=y;unfold oR at q;show kat_lt g d r l ?_;change KatLex P w A dI _ C [(.ref b,.ref j),(.ref c,.ref k),(.bool t.2.2.1,.bool t'.2.2.1),(.ref e,.ref p)] 0 s;show Ap h B I (λz=>?_) λz=>by rw[if_neg z]at q;show q
 rw[if_pos z]at q;show Ap h G K (λz=>?_) λz=>by rw[if_neg z]at q;show q
 rw[if_pos z]at q;by_cases f:t.2.2.1=t'.2.2.1
 .rw[if_pos f]at q;rw[f];show a6Z<|Fn<|a9K<|Ap h H L (λz=>kat_nil ?_) λ_=>q;rw[z,vO]at q;show q
 .rw[if_neg f]at q;show a6Z<|Sf f P w _ _<|kat_no<|kat_one _ _<|lt_bool ?_;have:decide (b2i t.2.2.1<b2i t'.2.2.1)=t'.2.2.1:=by generalize t.2.2.1=u at f;generalize t'.2.2.1=v at f;cases u<;>cases v<;>first|show absurd rfl f|decide
  rw[this];show q
def Sh{as:List Addr}{ts:List Ti}(L:A.units<a0k)(I:0<as.length)(x:ts.length=as.length)(d:∀i,i<as.length->TiAt P w s.heap (as.getD i 0) (ts.getD i gM)):oM P w A (as.map YY) (λi j=>oR (ts.getD i gM)<|ts.getD j gM) s:=by
 have l:∃fs:gw,fs.length=as.length/\KatTups s.heap (as.map YY) fs/\∀v∈fs,∃b k,v=YY b/\jT P w s.heap b k:=by
  clear I;induction as generalizing ts with
  |nil=>show⟨[],rfl,.nil,λv g=>nomatch g⟩|cons a as M=>
   match ts,x with
   |t::ts,x=>
    obtain⟨fs,y,p,r⟩:=M (ts:=ts) (by simpa using x) λi h=>by simpa using d (i+1) (by simpa using h)
    obtain⟨o,n,b,c,e,z,B,G,H,_⟩:=d 0 (by simp);show⟨.ref b::fs,by simp[y],.cons z B G (by simp) p,λv g=>?_⟩;rcases Zm.mp g with rfl|g
    .show⟨b,_,rfl,H⟩
    .show r v g
 obtain⟨fs,y,p,r⟩:=l;show kat_kind (T:=.type "tuple") p ⋯ (λv g=>?_) (by decide) ⟨rfl,λi j C h u K=>?_⟩
 .obtain⟨b,k,rfl,N⟩:=r v g;obtain⟨O,⟨o,o1,o2,_⟩,_⟩:=N.2;show kitAt_ty _ _ ⟨o,o1,o2⟩
 .rw[Yu]at h u;rw[show(as.map YY).getD i .none=.ref (as.getD i 0) by simp[ZV,h],show(as.map YY).getD j .none=.ref (as.getD j 0) by simp[ZV,u]];show Sg L (d i h) (d j u) K
end
abbrev mW{a b:Type} [DecidableEq a] (f:a->a->Bool)(g:b->b->Bool)(x y:a×b):Bool:=if x.1=y.1 then g x.2 y.2 else f x.1 y.1
def Aq[DecidableEq i]{f:i->i->Bool}{g:j->j->Bool}(F:Ord1 f)(G:Ord1 g):Ord1 (mW f g):=by
 show⟨λx=>?_,λx y z c d=>?_,λx y c d=>?_⟩
 .unfold mW;rw[if_pos rfl];show G.ir _
 .unfold mW at c d ⊢;by_cases a:x.1=y.1<;>by_cases b:y.1=z.1
  .rw[if_pos a]at c;rw[if_pos b]at d;rw[if_pos<|a.trans b];show G.tr _ _ _ c d
  .rw[if_neg b]at d;rw[if_neg λe=>b<|a.symm.trans e,a];show d
  .rw[if_neg a]at c;rw[if_neg λe=>a<|e.trans b.symm,<- b];show c
  .rw[if_neg a]at c;rw[if_neg b]at d;have h:=F.tr _ _ _ c d;rw[if_neg λe=>by rw[e,F.ir]at h;cases h];show h
 .unfold mW at c d;by_cases a:x.1=y.1
  .rw[if_pos a]at c;rw[if_pos a.symm]at d;show a4b a<|G.to _ _ c d
  .rw[if_neg a]at c;rw[if_neg λe=>a e.symm]at d;show absurd (F.to _ _ c d) a
def Si:oR=mW HT.lexLt (mW HT.lexLt<|mW (λa b=>!a&&b) HT.lexLt):=by
 funext x y;unfold oR mW;by_cases h:x.2.2.1=y.2.2.1
 .rw[if_pos h,if_pos h]
 .rw[if_neg h,if_neg h];cases c:x.2.2.1<;>cases d:y.2.2.1<;>first|rfl|(rw[c,d]at h;show absurd rfl h)
def Sj:Ord1 λa b=>!a&&b:=⟨by decide,by decide,by decide⟩
def Sk:Ord1 oR:=Si▸Aq u7 (Aq u7<|Aq Sj u7)
noncomputable abbrev mX(ts:List Ti):Prop:=ts.Nodup
abbrev Sm:D->Option Bool
 |.bl b=>b0 b|_=>b5
abbrev Sn:List D->Option Ti
 |[x,y,z,w]=>(cY x).bind λk=>(cY y).bind λm=>(Sm z).bind λb=>(cY w).map λn=>(k,m,b,n)|_=>b5
abbrev vZ:D->Option Ti
 |.tup l=>Sn l|_=>b5
abbrev bU(t:Ti):D:=.tup [.tup<|t.1.map D.int,.tup<|t.2.1.map D.int,.bl t.2.2.1,.tup<|t.2.2.2.map D.int]
def So(h:vZ x=b0 t):x=bU t:=by
 cases x with
 |tup l=>
  rcases l with _|⟨x,_|⟨y,_|⟨z,_|⟨w,_|⟨_,_⟩⟩⟩⟩⟩;all_goals first|cases h;done|skip
  obtain⟨k,c,h⟩:=Yv.mp h;obtain⟨m,d,h⟩:=Yv.mp h;obtain⟨b,a,h⟩:=Yv.mp h;obtain⟨n,e,rfl⟩:=YB.mp h;rw[rS c,rS d,rS e];cases z with
  |bl=>cases a;rfl|_=>cases a
 |_=>cases h
abbrev sO:List D->Option (List Ti)
 |[]=>b0 []|x::r=>(vZ x).bind λt=>(sO r).map (t::·)
def FH:∀{xs}{ts},sO xs=b0 ts->xs=ts.map bU
 |[],_,h=>by cases h;rfl
 |x::xs,ts,h=>by obtain⟨t,a,h⟩:=Yv.mp h;obtain⟨r,b,rfl⟩:=YB.mp h;rw[So a,FH b];rfl
abbrev mY(ts:List Ti):Nat->Nat->Bool:=λi j=>oR (ts.getD i gM)<|ts.getD j gM
abbrev oS:MF:=λds b=>match ds with
 |[x]=>(fD b x).bind λc=>(sO c).bind λa=>if mX a then b0 (.loc b.length,b++[.lst<|(cS (mY a) a.length).map λi=>c.getD i .non])else b5|_=>b5
inductive TiV (K:Yx)(H:Hp)(v:V)(t:Ti):Prop
 |mk (a b c e:Addr)(g:v=.ref a)(s:SqT K H a [.ref b,.ref c,.bl t.2.2.1,.ref e])(s1:SqT K H b (t.1.map V.int))(s2:SqT K H c (t.2.1.map V.int))(s3:SqT K H e (t.2.2.2.map V.int))
inductive rSortTi (K:Yx):gz->Hp->VK->Prop
 |mk {H:Hp}{Q:VK}{q:Addr}{ws:gz}{ts:List Ti}(hq:SqL K H q ws)(hw:a3x (TiV K H) ws ts)(h:mX ts)(k:∀l,H l=b5->Q (.ref l) (upd H l<|.lst<|(cS (mY ts) ws.length).map λi=>ws.getD i .non)):rSortTi K [.ref q] H Q
def FI{K:Yx}:∀{vs}{ts},IsDs K π n H vs (ts.map bU)->a3x (TiV K H) vs ts
 |_,[],h=>by cases h;show .nil
 |_,t::ts,h=>by
  cases h with
  |cons h r=>
  show .cons ?_<|FI r;cases h with
  |@tup a vs ds k hd=>
  cases hd with
  |cons d hd=>
  cases hd with
  |cons g hd=>
  cases hd with
  |cons i hd=>
  cases hd with
  |cons j hd=>
  cases hd;cases i;obtain⟨b,rfl,l⟩:=sN d;obtain⟨c,rfl,o⟩:=sN g;obtain⟨e,rfl,p⟩:=sN j;show⟨a,b,c,e,rfl,k,l,o,p⟩
def Sq{K:Yx}:dW K oS (rSortTi K):=by
 intro y H x w d u v Q R i a k;unfold oS at a;split at a
 .obtain⟨s,j,a⟩:=Yv.mp a;obtain⟨c,n,a⟩:=Yv.mp a;split at a
  .rename_i o;cases a;cases i with
   |cons i t=>
    cases t;obtain⟨p,g,rfl,q,hd⟩:=pV R i j;have b:=hd;rw[FH n]at b;have r:g.length=c.length:=by rw[b.length,Yu]
    show .mk q (FI b) o λl e=>?_;obtain⟨h,R2,_⟩:=R.alloc (c:=.lst ((cS (mY c) c.length).map λi=>s.getD i .non)) (o:=.lst ((cS (mY c) g.length).map λi=>g.getD i .non)) e<|by
     change IsDs _ _ _ _ _ _;rw[r];show D8 hd _
    show k _ _ _ h R2 kI
  .cases a
 .cases a
def FJ(h:Vals vs us):∀l:List Nat,Vals (l.map λi=>vs.getD i .non) (l.map λi=>us.getD i .none)
 |[]=>.nil|i::l=>by
  show .cons ?_<|FJ h l;have z:=h.length;cases e:vs[i]? with
  |some v=>obtain⟨u,a,b⟩:=h.get e;simp only[ZV,e,a];show b|none=>have:=h.none_of e;simp only[ZV,e,this];rfl
def Ar{σ:L2.St}(I:Inv X b0Z σ H s)(h:SqT X.K H b (k.map V.int)):jT X.prog X.w s.heap b k:=by obtain⟨a,r,t,_⟩:=I.tuple h;show⟨kP I h,a,t,yB r⟩
def Au(h:Vals [.ref b,.ref c,.bl t,.ref e] us):us=[.ref b,.ref c,.bool t,.ref e]:=by
 cases h with
 |cons a h=>
 cases h with
 |cons d h=>
 cases h with
 |cons g h=>
 cases h with
 |cons r4 h=>
 cases h;cases a;cases d;cases g;cases r4;rfl
def Ss(hun:X.A.units+64<a0k):CallR X (.builtin "sorted") (rSortTi X.K):=by
 intro G s σ H xs us Q I r h;obtain⟨hq,hw,A,k⟩:=h;rename_i q ws l;obtain⟨u,rfl,ru⟩:=fH r;cases ru;obtain⟨p,E,pl,hz⟩:=I.list hq;have y:=E.length;have Y:l.length=ws.length:=hw.length.symm;have B:∃v:List Addr,p=v.map YY/\∀i,i<v.length->∃b c e,SqT X.K H (v.getD i 0) [.ref b,.ref c,.bl (l.getD i gM).2.2.1,.ref e]/\SqT X.K H b ((l.getD i gM).1.map V.int)/\SqT X.K H c ((l.getD i gM).2.1.map V.int)/\SqT X.K H e ((l.getD i gM).2.2.2.map V.int):=by
  clear hz pl k hq I y Y A;induction hw generalizing p with
  |nil=>cases E;show⟨[],rfl,λi x=>nomatch x⟩|cons h _ ih=>
   cases E with
   |cons r1 r2=>
    obtain⟨v,e,f⟩:=ih _ r2;obtain⟨a,b,c,d,rfl,t,t1,t2,t3⟩:=h;cases r1;show⟨a::v,by rw[e];rfl,λi x=>?_⟩;cases i with
    |zero=>show⟨b,c,d,t,t1,t2,t3⟩|succ i=>simpa using f i (by simpa using x)
 obtain⟨v,N,Z⟩:=B;have hal:v.length=p.length:=by rw[N,Yu]
 have nd:p.Nodup:=by rw[N];unfold a4T;rw[a0C];show ZC.mpr λi j x hj U e=>?_;replace e:=a4q e;obtain⟨b,c,e4,g,O,R,T⟩:=Z i x;obtain⟨b',c',e4',f,f1,f2,f3⟩:=Z j hj;rw[show v.getD i 0=v[i] by simp[ZV,x]]at g;rw[show v.getD j 0=v[j] by simp[ZV,hj],<- e]at f;obtain⟨x1,r1,⟨o1,a1,_,n1,d1⟩,_⟩:=I.tuple g;obtain⟨x2,r2,⟨o2,a2,_,n2,w⟩,_⟩:=I.tuple f;rw[a1]at a2;cases a2;rw[d1]at w;injection w with w;obtain rfl:=Au r1;obtain rfl:=Au r2;injection congrArg a6N w with K w;injection w with L w;injection w with M w;injection w with e5 w;have k3:=Value.bool.inj M;rw[<- a4q K]at f1;rw[<- a4q L]at f2;rw[<- a4q e5]at f3;have k0:l.getD i gM=l.getD j gM:=a4b (zM I O f1)<|a4b (zM I R f2)<|a4b k3<|zM I T f3;rw[show l.getD i gM=l[i]'⋯ by simp[ZV,show i<l.length by lia],show l.getD j gM=l[j]'⋯ by simp[ZV,show j<l.length by lia]]at k0;show(ZC.mp A) i j ⋯ ⋯ U k0
 show RP Sk gM (ks:=l) ⋯ A nd ⋯ pl.isList (λh2 h3 kp=>?_) ?_
 .rw[N];show Sh (by rw[iY,iY];lia) ⋯ ⋯ λi x=>?_;obtain⟨b,c,e,g,O,R,T⟩:=Z i x;have J:Inv X G σ H {s with heap:=h3,toks:=s.toks}:=I.kept (t':=s.toks) kp;obtain⟨us,ru,⟨o,K,L,n,M⟩,_⟩:=J.tuple g;obtain rfl:=Au ru;show⟨o,n,b,c,e,K,L,M,Ar J O,Ar J R,Ar J T⟩
 .obtain⟨e,he⟩:=sortedAll_at s.heap p ((cS (mY l) p.length).map λi=>p.getD i a0z).toArray;show⟨.ref<|s.heap.objs.size+1,_,I.laid (t':=s.toks) (a:=s.heap.objs.size+1) (o:=.lst ((cS (mY l) ws.length).map λi=>ws.getD i .non)) (λb ob z=>sortedAll_old z) (a2m _) ?_,rfl,k _<|I.hok.fresh<|a2m _⟩;show⟨?_,_,e,?_,he⟩
  .rw[Yu,(iF _ _).length_eq,a0e];show hz
  .rw[<- y];show FJ E _
end L3
namespace L3
open PySem L2
section
variable{P:Y4}{w:Zk}{K:Type} [DecidableEq K] {knd:a9h P w K}{A:Zi}{E:Value->YA->Prop}{s:YA}{d o a:Addr}{k:K}{xs ys:List (K×Addr×Value)}
def Su(N:knd.room A)(I:knd.is s.heap k a)(M:s.heap.DictOfH knd d xs)(hz:xs.length<=YM)(q:∀h',h'.DictOfH knd d (a3A xs k a v)->a0Q d s.heap h'->Q () {s with heap:=h'}):
  Y6 (Y5 P w) A (a5u d (.ref a) (knd.hash k) v) Q E s:=by
 obtain⟨O,L,G,c,hc,hd,z,h,n⟩:=id M;unfold a5u;show Zz<|Yw<|a9j N I c hd z h n (λr=>?_) λj p H=>?_
 .have i:=a9M r;have u:k∉xs.map (·.1):=a9k r;show Yw<|a1b<|a8P (hz:=by have e:=a4I z;lia) c hd<|q _ ⟨_,_,G+1,ZN _ c<|a3C<|a1H hd _,hc.mapDictKeys _,a1H hd _,?_,λx b=>?_,?_⟩<|ZS ..
  .rw[a3D i];simp[z,a5H]
  .rw[a3D i]at b;rcases YN.mp b with b|b
   .show knd.keeps (h x b) c hd<|ZS ..
   .rw[YL]at b;subst b;show knd.keeps I c hd<|ZS ..
  .rw[a3D i,YV,a0D];show⟨n,by simp,λx b y B e=>by
    simp only[Za,a5g,YL]at B;subst B;show u<|e▸b⟩
 .have g:=atKey_of_get n H;show Yw<|a1b<|Yw<|wpAny_updateDict c hd<|wpAny_point<|q _ ⟨_,_,G,ZN _ c<|a3C<|a9a hd _,hc.mapDict _,a9a hd _,?_,λx b=>?_,?_⟩<|ZS ..
  .have t:=modify_map_putAt (a5H knd) (λe:DictEntry=>{e with val:=v}) k v (λ_ _=>rfl) n H;rw[a8R g];rw[<- z]at t;obtain⟨l⟩:=L;simpa using t
  .rw[a8R g]at b;obtain⟨y,B,rfl⟩:=YO.mp b;unfold putAt;split<;>show knd.keeps (h y B) c hd<|ZS ..
  .rw[a8R g,keys_map_putAt];show n
abbrev jA(xs ys:List (K×Addr×Value)):List (K×Addr×Value):=ys.foldl (λacc x=>a3A acc x.1 x.2.1 x.2.2) xs
def Sv xs(k:K)a v:(a3A xs k a v).length<=xs.length+1:=by
 unfold a3A;split
 .rw[Yu];lia
 .rw[YF];show YG _
def FK:∀(ys xs:List (K×Addr×Value)),(jA xs ys).length<=xs.length+ys.length
 |[],xs=>YG _|y::ys,xs=>by have b:=FK ys<|a3A xs y.1 y.2.1 y.2.2;have c:=Sv xs y.1 y.2.1 y.2.2;change(jA (a3A xs y.1 y.2.1 y.2.2) ys).length<=_;rw[Zc];lia
def FL:∀(ys xs:List (K×Addr×Value)),((xs++ys).map (·.1)).Nodup->jA xs ys=xs++ys
 |[],xs,_=>(Zt xs).symm|y::ys,xs,h=>by
  have b:a4v xs y.1=none:=by
   unfold a4v;rw[a0V.mpr]
   .rfl
   .intro x c;rw[decide_eq_true_iff];intro e;rw[YV,Za]at h;show(a0D.mp h).2.2 x.1 (YO.mpr ⟨x,c,rfl⟩) y.1 (.head _) e
  change jA (a3A xs y.1 y.2.1 y.2.2) ys=_;rw[a3D b,FL ys _<|by rw[YQ];show h,YQ];rfl
def Sw(hu:knd.room A)(p:(d==o)=dI)(hoS:(o==Z3)=dI)(hd:s.heap.DictOfH knd d xs)(ho:s.heap.DictOfH knd o ys)(tt:∀y∈ys,s.TypeIs (.ref y.2.1) "tuple")(nh:(ys.map λy=>knd.hash y.1).Nodup)(hz:xs.length+ys.length<=YM)(q:∀c,c.DictOfH knd d (jA xs ys)->a0Q d s.heap c->Q () {s with heap:=c}):Y6 (Y5 P w) A (a5D nm d o) Q E s:=by
 obtain⟨od,ed,epd,U,d2,I,d4,d5,d6⟩:=id hd
 obtain⟨oo,g,epo,o1,o2,H,T,o5,o6⟩:=id ho
 have hne:d≠o:=λe=>by rw[e,beq_self_eq_true]at p;cases p
 have lo:=a4I T
 unfold a5D
 rw[if_neg<|by rw[p];show YE]
 unfold a1O
 rw[if_neg<|by rw[hoS];show YE]
 show Yw<|YH<|Yw<|a0t o1 H ?_
 have j:Y6 (Y5 P w) A (do
   let n <- dictEpoch o
   let l <- dictEntries o
   forIn [:l.size] a6a λi (_:PUnit)=>(do
     let l' <- dictEntries o
     match l'[i]? with
      |some e=>do
       holding [e.key,e.val] (a5u d e.key e.hash e.val)
       let Z <- dictEpoch o
       if(Z != n)=d7 then do
         (unsupported (toString nm++toString ":source-changed-during-callback"):a7e PUnit)
         pure (a0Y a6a)
        else pure (a0Y a6a)
      |_=>do
       (unsupported "internal:dict-merge":a7e PUnit)
       pure (a0Y a6a):a7e (ForInStep PUnit))
   pure ()) Q E s:=by
  show Yw<|a2O o1 H<|Yw<|a0t o1 H<|Yw ?_
  rw[a9m]
  simp only[a9l,a4m,a5c,Nat.div_one]
  show a6q _ (λrest _ s'=>∃c i,s'={s with heap:=c}/\rest=a3j i (g.size-i)/\i<=g.size/\c.DictOfH knd d (jA xs<|ys.take i)/\c.get? o=b0 oo/\(∀y∈ys,knd.is c y.1 y.2.1)/\a0Q d s.heap c)
   _ ?_ ?_ _ _ ⟨s.heap,0,rfl,by simp,a0d _,by rw[ZG];show hd,o1,o5,a3p _ _⟩
  .rintro x rest b s' ⟨c,i,rfl,u,hi,h,r,G,v⟩
   have hlt:i<g.size:=by
    rcases b0f i g.size with z|z
    .show z
    .rw[Nat.sub_eq_zero_of_le z]at u;cases u
   rw[show g.size-i=(g.size-(i+1))+1 by lia,a2Z]at u
   injection u with e1 e2
   subst e1
   have hx:x<ys.length:=by lia
   have en:=entry_at T x
   rw[Yz hx]at en
   show Yw<|a0t r H ?_
   rw[en]
   have hl2:(jA xs<|ys.take x).length<=YM:=by
    have:=FK (ys.take x) xs
    rw[Zb]at this
    lia
   obtain⟨od',_,_,X,_,Y,_⟩:=id h
   change Y6 _ _ (holding [_,_] (a5u d (.ref ys[x].2.1) (knd.hash ys[x].1) ys[x].2.2) >>= _) _ _ _
   show Yw<|Zz<|Su (s:={s with heap:=c}) hu (G _<|ZU hx) h hl2 λh2 L B=>?_
   have O:h2.get? o=b0 oo:=(B.2 o<|ZJ hne).trans r
   show Yw<|a2O (s:={s with heap:=h2}) O H ?_
   rw[if_neg<|by simp]
   show YH ⟨h2,x+1,rfl,e2,hlt,?_,O,λy R=>knd.keeps (G y R) X Y B,v.trans B⟩
   have et:ys.take (x+1)=ys.take x++[ys[x]]:=by rw[a1r,Yz hx];rfl
   rw[et]
   unfold jA at L ⊢
   rw[a8C]
   show L
  .rintro b s' ⟨c,i,rfl,u,hi,h,r,G,v⟩
   have hin:i=g.size:=by
    rcases b0f i g.size with z|z
    .rw[show g.size-i=(g.size-(i+1))+1 by lia,a2Z]at u;show nomatch u
    .show a3y hi z
   rw[hin,lo,Zp]at h
   show YH<|q c h v
 dsimp only
 split
 .show Yw<|a0t U I ?_
  split
  .rename_i M
   have xn:xs=[]:=by
    have z:ed=#[]:=a8c.mp M
    have:=a4I d4
    rw[z]at this
    show a1g.mp this.symm
   subst xn
   have ek:g.toList.map (·.key)=(ys.map (·.2.1)).map YY:=by
    rw[T,Y0,Y0]
    rfl
   show Yw<|RJ (bs:=ys.map (·.2.1)) ⟨oo,o1,o2,H⟩ ek (λb hb=>?_) ?_ ?_
   .obtain⟨y,R,rfl⟩:=YO.mp hb
    show tt y R
   .rw[T,Y0]
    show nh
   have em:jA [] ys=ys:=FL ys [] o6
   rw[em]at q
   split
   .show Yw<|wpAny_updateDictKeysTo U I (YH<|q _ ⟨_,_,epd+1,ZN _ U<|a3C<|a1H I _,d2.mapDictKeys _,a1H I _,T,λy R=>knd.keeps (o5 y R) U I<|ZS ..,o6⟩<|ZS ..) ?_
    rw[a1S,a0R]at hz
    lia
   .rename_i N
    have z:g=#[]:=a8c.mp<|by simpa using N
    have yn:ys=[]:=by
     rw[z]at lo
     show a1g.mp lo.symm
    subst yn
    show YH<|q _ hd<|a3p _ _
  .show j
 .show j
def Sx(knd:a9h P w K)d o:a9R P w (Builtin.«dict.update» ⟨[.ref d,.ref o],[]⟩) (λA R s=>knd.room A.in1/\(d==o)=dI/\(o==Z3)=dI/\∃xs ys,s.heap.DictOfH knd d xs/\s.heap.DictOfH knd o ys/\(∀y∈ys,s.TypeIs (.ref y.2.1) "tuple")/\(ys.map λy=>knd.hash y.1).Nodup/\xs.length+ys.length<=YM /\
   ∀b,b.DictOfH knd d (jA xs ys)->a0Q d s.heap b->R (.ok<|.ret .none) {s with heap:=b}):=
 .of_wp λA R s ⟨j,g,h,xs,ys,hd,c,p,n,l,q⟩=>by unfold Builtin.«dict.update»;show Yw ?_;unfold a5j;show Yw<|a2k hd.typeIs<|YH ?_;change Y6 _ _ (a2n "dict.update" d (.ref o) [] .none) _ _ s;unfold a2n;show Yw<|a4D c.typeIs ?_;rw[if_neg<|by decide];show Yw ?_;unfold b0K b0H;show Yw<|Yw<|a3r c.typeIs isSubtype_dict_dict ?_;simp only[a3Z,Zf,if_false];show Yw<|a2M c.typeIs F.slot_dict_iter.lookup<|YH ?_;simp only[beq_self_eq_true,if_true];show Yw<|YH<|Sw j g h hd c p n l λb e i=>?_;change Y6 _ _ (a5k d [] >>= _) _ _ _;show Yw<|YH<|YH ⟨.none,rfl,q b e i⟩
end
abbrev oT(ps a:bM):bM:=a.foldl (λq p=>dS q p.1 p.2.1 p.2.2) ps
abbrev lV(kvs more:jx):jx:=more.foldl (λq p=>bW q p.1 p.2) kvs
abbrev qG:D->List D->Hm->jk
 |.loc a,[.loc b],μ=>match μ[a]?,μ[b]? with
  |some<|.dT kvs,b0 (.dT more)=>if kvs.length+more.length<=YM/\(more.map λp=>Tb.hashT p.1).Nodup/\a≠b then b0 (.non,μ.set a<|.dT<|lV kvs more)else b5|_,_=>b5
 |_,_,_=>b5
abbrev FN(K:Yx):V->gz->Hp->VK->Prop:=λx vs H Q=>∃a b ps c,x=.ref a/\vs=[.ref b]/\H a=b0 (aQ a ps)/\dP K H ps/\H b=b0 (aQ b c)/\dP K H c/\a≠b/\ps.length+c.length<=YM/\(c.map λp=>Tb.hashT p.1).Nodup/\Q .non (upd H a<|aQ a<|oT ps c)
def IsTs.upd:∀{a}{more},IsTs K π n H a more->∀{ps}{kvs},IsTs K π n H ps kvs->IsTs K π n H (oT ps a) (lV kvs more)
 |_,_,.nil,_,_,h=>h|p::a,m::more,.cons e t,ps,kvs,h=>by obtain⟨c,d,g⟩:=e;have b:=h.put p.1 d g;rw[show bW kvs p.1 m.2=bW kvs m.1 m.2 by rw[c]]at b;show IsTs.upd t b
def FP:∀a ps,(oT ps a).length<=ps.length+a.length
 |[],ps=>YG _|q::a,ps=>by have b:=FP a<|dS ps q.1 q.2.1 q.2.2;have c:=r6 ps q.1 q.2.1 q.2.2;change(oT (dS ps q.1 q.2.1 q.2.2) a).length<=_;rw[Zc];lia
def FQ:∀{a}{us},Vals (a.map (·.2.2)) us->∀{ps}{ws},Vals (ps.map (·.2.2)) ws->∃b,Vals ((oT ps a).map (·.2.2)) b/\jA (bR ps ws) (bR a us)=bR (oT ps a) b
 |[],_,.nil,ps,ws,r=>⟨ws,r,rfl⟩|q::a,_,.cons ru t,ps,ws,r=>by obtain⟨i,e,c⟩:=vF r q.1 q.2.1 ru;obtain⟨h,g,d⟩:=FQ t e;show⟨h,g,?_⟩;change jA (a3A (bR ps ws) q.1 q.2.1 _) (bR a _)=_;rw[c];show d
def Sy:i6 K qG (FN K):=by
 intro M H X x O d L v N Q R z h a k;unfold qG at a;split at a
 .split at a
  .rename_i i more hc g;split at a
   .rename_i y;obtain⟨U,G,I⟩:=y;cases a;cases z with
    |loc l=>
     cases h with
     |cons A t=>
      cases t;cases A with
      |loc w=>
       obtain⟨n,j,T⟩:=iG R hc;obtain⟨c,r,b⟩:=iG R g;have B:=congrArg ZE T.to.1;have E:=congrArg ZE b.to.1;rw[Yu,Yu]at B E;obtain⟨s,o⟩:=R.put (c:=.dT (lV i more)) (o:=aQ _ (oT n c)) l j (.inr<|.inr ⟨_,rfl⟩) ⟨_,rfl,(b.upd T).to⟩;show⟨_,_,n,c,rfl,rfl,j,T.keys,r,b.keys,λe=>I<|R.inj _ _ l w e,by lia,?_,k M _ _ s o .non⟩;have u:(c.map λp=>Tb.hashT p.1)=(c.map (·.1)).map Tb.hashT:=by rw[Y0];rfl
       rw[u,b.to.1,Y0];show G
   .cases a
  .cases a
 .cases a
def Sz(U:X.A.units+1<a0k):jK X "dict.update" (FN X.K):=by
 intro w s σ H x vs v us Q I o rv h;obtain⟨a,b,ps,k,rfl,rfl,e,M,A,c,ne,Z,nh,q⟩:=h;cases o;obtain⟨u,rfl,ru⟩:=fH rv;obtain rfl:u=YY b:=ru;obtain⟨T,hl,ws,r,d⟩:=i8 I (.of e) M;obtain⟨j,N,n,l,z⟩:=i8 I (.of A) c;have len:∀{ps:bM}{ws:gw},Vals (ps.map (·.2.2)) ws->(bR ps ws).length=ps.length:=λr=>by have:=congrArg ZE<|lU r;rwa [Yu,Yu]at this
 show a3N a5W d.typeIs PySem.F.entry_dict_update (PySem.F.args_dict_update_2 _ _) (Sx (a2i<|a1P X.prog X.w) a b) ⟨oI U,beq_eq_false_iff_ne.mpr ne,j,_,_,d,z,λy Y=>?_,?_,by rw[len r,len l];show Z,λK g ss=>?_⟩
 .obtain⟨p,O,G⟩:=Ae Y;obtain⟨its,o,⟨ot,B,i,_⟩,_⟩:=I.tuple<|c p O;rw[<- G.2];show⟨ot,B,i⟩
 .have E:((bR k n).map λy=>(a2i<|a1P X.prog X.w).hash y.1)=k.map λp=>Tb.hashT p.1:=by have:=congrArg (a7x Tb.hashT)<|lU l;rw[Y0,Y0]at this;show this
  rw[E];show nh
 .obtain⟨w2,r2,i⟩:=FQ l r;rw[i]at g;have L:∃q,K.get? a=b0 q:=let⟨q,_,_,R,_⟩:=g;⟨q,R⟩;show⟨.non,_,t8 I (by rw[e];show a1Q) ss L<|r8 T (by have:=FP k ps;lia) r2 g,rfl,q⟩
structure Sig where
 fn:List<|Str×Nat
 con:List<|Str×D
 tab:List<|Str×List (bG×D)
 no:List Str
 dIt:List Str
 dEq:List Str
 dMe:List Str
structure Cs where
 N:List Str
 ks:List<|Str×a1K
abbrev mZ(x:Str):List Str->Option Nat
 |[]=>b5|y::r=>if x=y then b0 0 else(mZ x r).map (·+1)
def sP:∀{N}{i},mZ x N=b0 i->N[i]?=b0 x
 |[],_,h=>by cases h
 |y::r,i,h=>by
  unfold mZ at h;split at h
  .rename_i e;cases h;subst e;rfl
  .obtain⟨j,a,b⟩:=YB.mp h;subst b;have:=sP a;simpa using this
abbrev glob(c:Cs)(x:Str):Bool:=decide (c.ks.lookup x=b0 .globalImplicit)&&!(x==("__debug__":Str))
abbrev nT(c:Cs)(x:Str):Bool:=(decide (c.ks.lookup x=b0 .local)||decide (c.ks.lookup x=b0 .cell)||decide (c.ks.lookup x=b0 .free))&&!(x==("__debug__":Str))&&!(x==("__classdict__":Str))
abbrev m5(c:Cs)(x:Str):Bool:=decide (c.ks.lookup x=b0 .local)||decide (c.ks.lookup x=b0 .cell)
def dU{κ b:Type} [BEq κ] [LawfulBEq κ] {x k:κ}{a n:b}{r:List (κ×b)}{P:Prop}(h:a2F x ((k,a)::r)=b0 n)(h1:x=k->a=n->P)(c:a2F x r=b0 n->P):P:=by
 rw[a2p]at h;by_cases e:x=k
 .rw[beq_iff_eq.mpr e]at h;show h1 e<|YX h
 .rw[beq_eq_false_iff_ne.mpr e]at h;show c h
abbrev FR(x:Str):Option String:=a2F x [("int","int"),("bool","bool"),("str","str"),("list","list"),("tuple","tuple"),("dict","dict")]
def SA(h:FR x=b0 n):a0B x=b0 (.type n)/\x ≠ "__name__":=by
 show dU h (λe g=>?_) λh=>?_
 .subst e;cases g;show⟨a4A,by decide⟩
 show dU h (λe g=>?_) λh=>?_
 .subst e;cases g;show⟨a8t,by decide⟩
 show dU h (λe g=>?_) λh=>?_
 .subst e;cases g;show⟨a8n,by decide⟩
 show dU h (λe g=>?_) λh=>?_
 .subst e;cases g;show⟨a2T,by decide⟩
 show dU h (λe g=>?_) λh=>?_
 .subst e;cases g;show⟨a4r,by decide⟩
 show dU h (λe g=>?_) λh=>?_
 .subst e;cases g;show⟨a4w,by decide⟩
 cases h
abbrev Av(S:Sig)(c:Cs)(x:Str):ME:=
 if nT c x=d7 then(match mZ x c.N with|some i=>aA i|none=>cG)
 else if glob c x=d7 then(match S.con.lookup x with
  |some d=>mC d
  |none=>if S.no.contains x=d7 then(match FR x with|some n=>mC (.ty n)|none=>cG)else cG)
 else cG
abbrev e6(r:Expr->ME):List Expr->MA
 |[]=>aD|e::es=>aB (r e)<|e6 r es
abbrev v7(op:BoolOp):List ME->ME
 |[]=>cG|[m]=>m|m::r=>match op with
  |.And=>eN m (v7 op r)|.Or=>yJ m<|v7 op r
abbrev v8(op:BoolOp):List MT->MT
 |[]=>n6|[m]=>m|m::r=>match op with
  |.And=>eD m (v8 op r)|.Or=>gR m<|v8 op r
abbrev FT(op:a7f)(a b:ME):ME:=match op with
 |.Add=>aC bD a b|.Sub=>aC cX a b|.Mult=>aC cL a b|.FloorDiv=>aC c6 a b|.Mod=>aC aW a b|_=>cG
abbrev m7(op:a2K)(ns:Bool)(a b:ME):ME:=match op with
 |.Eq=>aC (aU dI) a b|.NotEq=>aC (aU d7) a b|.Lt=>aC dO a b|.LtE=>aC pL a b|.Gt=>aC kJ a b|.GtE=>aC rM a b|.In=>if ns=d7 then aC (c4 dI) a b else cG|.NotIn=>if ns=d7 then aC (c4 d7) a b else cG|.Is=>aC (eY dI) a b|.IsNot=>aC (eY d7) a b
abbrev qH(r:Expr->ME):Option Expr->MO
 |none=>jM|some e=>jN<|r e
abbrev v9:Expr->Option (Expr×List Expr)
 |.Call f as [] _=>b0 (f,as)|_=>b5
def FU(h:v9 e=b0 (f,as)):∃pos,e=.Call f as [] pos:=by
 unfold v9 at h;split at h
 .cases h;show⟨_,rfl⟩
 .cases h
abbrev m9:Expr->Option Str
 |.Name x _=>b0 x|_=>b5
def sQ(h:m9 e=b0 x):∃p,e=.Name x p:=by
 unfold m9 at h;split at h
 .cases h;show⟨_,rfl⟩
 .cases h
abbrev o1:List Expr->Option Expr
 |[e]=>b0 e|_=>b5
def wA(h:o1 l=b0 e):l=[e]:=by
 match l,h with
 |[_],h=>cases h;rfl
abbrev o2:List Expr->Option (Expr×Expr)
 |[a,b]=>b0 (a,b)|_=>b5
def SE(h:o2 l=b0 (a,b)):l=[a,b]:=by
 match l,h with
 |[_,_],h=>cases h;rfl
abbrev Aw(S:Sig)(c:Cs)(e:Expr):Option (List<|bG×D):=(m9 e).bind λx=>if glob c x=d7 then S.tab.lookup x else b5
abbrev bO:MF:=λds b=>match ds with
 |[.loc a]=>match b[a]? with
  |some (.lst xs)=>b0 (.int xs.length,b)|some (.st ks)=>b0 (.int ks.length,b)|some (.dT kvs)=>b0 (.int kvs.length,b)|_=>b5
 |_=>rN ds b
abbrev jU:MF:=λds b=>match ds with
 |[.loc a]=>match b[a]? with
  |some (.dT kvs)=>b0 (.loc b.length,b++[.lst<|kvs.map λk=>D.tup<|k.1.map D.int])|_=>rO [.loc a] b
 |ds=>rO ds b
def SF:dW K jU (λxs H Q=>(∃p g,xs=[.ref p]/\(SqL K H p g\/SqT K H p g)/\∀l,H l=b5->Q (.ref l) (upd H l<|.lst g))\/E4 K xs H Q):=by
 intro o H n xs d c j Q R i b k;unfold jU at b;split at b
 .rename_i a;split at b
  .rename_i e v;cases b;cases i with
   |cons i t=>cases t;cases i;obtain⟨h,s,T⟩:=iG R v;show .inr ⟨_,h,rfl,s,T.keys,λl u=>?_⟩;obtain⟨r,R2,_⟩:=R.alloc (c:=.lst (e.map λk:List Int×D=>D.tup<|k.1.map D.int)) (o:=.lst (h.map λp:List Int×Addr×V=>V.ref p.2.1)) u T.to.2.1;show k _ _ _ r R2 kI
  .show .inl<|Dy o H n _ d c j Q R i b k
 .show .inl<|Dy o H n _ d c j Q R i b k
abbrev bltT:List (Str×MF):=[("len",bO)
 ,("isinstance",f9)
 ,("int",nZ)
 ,("list",jU)
 ,("all",uX)
 ,("sorted",oS)
 ,("sum",jS)
 ,("min",oQ) ,("max",sM)
 ]
abbrev FV(x:Str):Option MF:=bltT.lookup x
abbrev SG(K:Yx):gz->Hp->VK->Prop:=λxs H Q=>y8 K xs H Q\/(∃a L,xs=[V.ref a]/\H a=b0 (uB a L)/\Q (.int L.length) H)\/EZ K xs H Q
def SJ:dW K bO (SG K):=by
 intro g H l s d e j Q R i b k;unfold bO at b;split at b
 .rename_i a;split at b
  .rename_i u c;show .inl<|Dx g H l _ d e j Q R i ?_ k;simp only[rN,bJ,c];show b
  .rename_i o c;cases b;cases i with
   |cons i t=>cases t;cases i;obtain⟨L,h,n,_⟩:=R.st a o c;have:=congrArg ZE n;rw[Yu]at this;show .inr<|.inl ⟨_,L,rfl,h,?_⟩;rw[this];show k g _ H .refl R<|.int _
  .rename_i p c;cases b;cases i with
   |cons i t=>cases t;cases i;obtain⟨r,h,T⟩:=iG R c;have:=congrArg ZE T.to.1;rw[Yu,Yu]at this;show .inr<|.inr ⟨_,r,rfl,h,T.keys,?_⟩;rw[this];show k g _ H .refl R<|.int _
  .cases b
 .show .inl<|Dx g H l _ d e j Q R i b k
def SK(a:X.calm=d7)(b:X.A.units+64<a0k)(h:FV x=b0 f):∃v r,a0B x=b0 v/\((∃id,v=.builtin id)\/∃T,v=.type T)/\CallR X v r/\dW X.K f r/\x ≠ "__name__":=by
 show dU h (λe g=>?_) λh=>?_
 .subst e;cases g;show⟨_,_,a8r,.inl ⟨_,rfl⟩,call_lenM.or<|call_lenT.or QU,SJ,by decide⟩
 show dU h (λe g=>?_) λh=>?_
 .subst e;cases g;show⟨_,_,a8s,.inl ⟨_,rfl⟩,Nk,Nj,by decide⟩
 show dU h (λe g=>?_) λh=>?_
 .subst e;cases g;show⟨_,_,a4A,.inr ⟨_,rfl⟩,KJ,Ni,by decide⟩
 show dU h (λe g=>?_) λh=>?_
 .subst e;cases g;show⟨_,_,a2T,.inr ⟨_,rfl⟩,call_list_of.or<|QV a,SF,by decide⟩
 show dU h (λe g=>?_) λh=>?_
 .subst e;cases g;show⟨_,_,a8u,.inl ⟨_,rfl⟩,O0 a,OZ rfl,by decide⟩
 show dU h (λe g=>?_) λh=>?_
 .subst e;cases g;show⟨_,_,a4k,.inl ⟨_,rfl⟩,Ss b,Sq,by decide⟩
 show dU h (λe g=>?_) λh=>?_
 .subst e;cases g;show⟨_,_,a8m,.inl ⟨_,rfl⟩,PL a,PK,by decide⟩
 show dU h (λe g=>?_) λh=>?_
 .subst e;cases g;show⟨_,_,a8p,.inl ⟨_,rfl⟩,(Sb a b).or<|KI a,FG PM,by decide⟩
 show dU h (λe g=>?_) λh=>?_
 .subst e;cases g;show⟨_,_,a8q,.inl ⟨_,rfl⟩,(Se a b).or<|KH a,FG PN,by decide⟩
 cases h
abbrev Ax(x:Str):Option MF:=
 if x="dict" then b0 oK else
 FV x
def SM(a:X.calm=d7)(b:X.A.units+64<a0k)(h:Ax x=b0 f):∃v r,a0B x=b0 v/\((∃id,v=.builtin id)\/∃T,v=.type T)/\CallR X v r/\dW X.K f r/\x ≠ "__name__":=by
 unfold Ax at h;split at h
 .rename_i e;subst e;cases h;show⟨_,_,a4w,.inr ⟨_,rfl⟩,Rh a b,Ri,by decide⟩
 show SK a b h
abbrev methT:List ((Str×Nat)×(D->List D->Hm->jk)):=[(("append",1),eI)
 ,(("extend",1),lO)
 ,(("index",1),qA)
 ,(("remove",1),qF)
 ,(("pop",1),oA)
 ]
abbrev FW(m:Str)(n:Nat):Option (D->List D->Hm->jk):=methT.lookup (m,n)
abbrev dMT:List ((Str×Nat)×(D->List D->Hm->jk)):=
 (("setdefault",2),gK) ::
 (("get",2),iJ) ::
 (("update",1),qG) ::
 []
abbrev FX(S:Sig)(o:Expr)(m:Str)(n:Nat):Option (D->List D->Hm->jk):=
 dMT.lookup (m,n)
abbrev Ay(S:Sig)(c:Cs)(tg:Expr):Expr->Option Nat
 |.Name x _=>match tg with
  |.Name _ _=>if S.dIt.contains x=d7 then mZ x c.N else b5|_=>b5
 |_=>b5
abbrev Az(S:Sig)(F:Str->MF)(r:Expr->ME)(c:Cs)(f:Expr)(args:List Expr)(a:a0u):ME:=match f with
 |.Name x _=>if glob c x&&args.all fB then(match S.fn.lookup x with
   |some n=>if args.length=n then aG (F x) (e6 r args)else cG|none=>
   if S.no.contains x&&!args.isEmpty then(match Ax x with|some g=>aG g (e6 r args)|none=>cG)else cG)
  else cG
 |.Attribute o m apos=>if kN o&&(apos.endLine==a.line)&&args.all fB then(
   match FX S o m args.length with
   |some g=>iI g (r o) (e6 r args)|none=>
   match FW m args.length with
   |some g=>c5 g (r o) (e6 r args)|none=>
    cG)
  else cG
 |_=>cG
abbrev AA(f:Expr)(args:List Expr):Option (Str×Str×Expr):=(m9 f).bind λx=>(o1 args).bind λa=>(v9 a).bind λg=>(m9 g.1).bind λy=>(o1 g.2).map λe=>(x,y,e)
def FY(h:AA f args=b0 (x,y,e)):∃p c pos,f=.Name x p/\args=[.Call (.Name y c) [e] [] pos]:=by obtain⟨n,d,h⟩:=Yv.mp h;obtain⟨a,i,h⟩:=Yv.mp h;obtain⟨g,j,h⟩:=Yv.mp h;obtain⟨o,b,h⟩:=Yv.mp h;obtain⟨l,k,h⟩:=YB.mp h;cases h;obtain⟨p,rfl⟩:=sQ d;obtain⟨pos,rfl⟩:=FU j;obtain⟨c,b⟩:=sQ b;show⟨p,c,pos,rfl,by rw[wA i,b,wA k]⟩
abbrev SN(f:Expr)(args:List Expr):Option (Bool×Expr):=(AA f args).bind λt=>
 if t.1="list"/\t.2.1="reversed" then b0 (d7,t.2.2)else
 b5
abbrev FZ:Bool->Str
 |false=>"range"|true=>"reversed"
abbrev lstM:Bool->MF
 |true=>mS|false=>mS
abbrev AB(S:Sig)(F:Str->MF)(r:Expr->ME)(c:Cs)(f:Expr)(args:List Expr)(a:a0u):ME:=
 match SN f args with
 |some (b,e)=>if glob c "list" && glob c (FZ b)&&S.no.contains "list" && S.no.contains (FZ b)&&fB e then aG (lstM b) (e6 r [e])else cG|none=>Az S F r c f args a
abbrev AD:Expr->Option (Expr×a0u×a0u)
 |.Call g [] [] cpos=>match g with
  |.Attribute o m apos=>if m="items" then b0 (o,apos,cpos)else b5|_=>b5
 |_=>b5
def SO(h:AD e=b0 (o,a,b)):e=.Call (.Attribute o "items" a) [] [] b:=by
 unfold AD at h;split at h
 .split at h
  .split at h
   .rename_i c;cases h;rw[c]
   .cases h
  .cases h
 .cases h
abbrev SQ(f:Expr)(args:List Expr):Option (Expr×a0u×a0u):=(AA f args).bind λt=>if t.1="tuple"/\t.2.1="sorted" then AD t.2.2 else b5
abbrev AE(S:Sig)(F:Str->MF)(r:Expr->ME)(c:Cs)(f:Expr)(args:List Expr)(a:a0u):ME:=
 match SQ f args with
 |some q=>if glob c "sorted" && glob c "tuple" && S.no.contains "sorted" && S.no.contains "tuple" && kN q.1&&(q.2.1.endLine==q.2.2.line)then vW (r q.1)else cG|none=>
 AB S F r c f args a
abbrev qI(c:Cs)(scope:a1D)(xs:List Str):Bool:=
 (scope.names.all λy=>decide<|y.2≠.cell)&&decide (scope.kind=.function)&&(scope.names.all λy=>decide (y.2≠.local)||decide (scope.names.lookup y.1=b0 .local)) &&
 (xs.all λx=>decide<|scope.names.lookup x=b0 .local)&&decide xs.Nodup&&(scope.names.all λy=>decide (y.2≠.free)||decide (c.ks.lookup y.1=b0 .cell)||decide (c.ks.lookup y.1=b0 .free)) &&
 (scope.names.all λy=>decide (y.2≠.local)||!(bL xs c.N).contains y.1)&&decide (bL xs c.N).Nodup&&(c.N.all λy=>!xs.contains y||decide (scope.names.lookup (pM y)=b5))
abbrev sR(c:Cs)(scope:a1D)(xs:List Str):Cs:=
 ⟨bL xs c.N++xs,scope.names.map λ(n,k)=>if(k==a1j&&c.ks.lookup n==b0 .cell)then(n,a1A)else(n,k)⟩
abbrev F0(r:Expr->MT):List Expr->MT
 |[]=>eF|[t]=>r t|_=>n6
abbrev lW(S:Sig)(c:Cs)(x:Str)(e:Expr):Option (List Expr):=(v9 e).bind λg=>(m9 g.1).bind λy=>if y=x/\(glob c x&&S.no.contains x&&g.2.all fB)=d7 then b0 g.2 else b5
abbrev SR(r:Expr->ME):List Expr->MI
 |[a]=>gW (e6 r [a])|[a,b]=>mM (e6 r [a,b])|[a,b,d]=>qB (e6 r [a,b,d])|_=>DG
abbrev wB(S:Sig)(r:Expr->ME)(c:Cs)(e:Expr):MI:=match lW S c "range" e with
 |some b=>SR r b|none=>match(lW S c "reversed" e).bind o1 with
  |some a=>rZ (e6 r [a])|none=>bV<|r e
abbrev AF(S:Sig)(r:Expr->ME)(c:Cs)(e:Expr):MI:=match(lW S c "enumerate" e).bind o1 with
 |some a=>oG (e6 r [a])|none=>wB S r c e
abbrev AG(S:Sig)(r:Expr->ME)(c:Cs)(e:Expr):MI:=match(lW S c "zip" e).bind o2 with
 |some (a,b)=>sD (e6 r [a,b])|none=>AF S r c e
abbrev AH:Expr->Option (List Str)
 |.Name x _=>b0 [x]|.Tuple es _ _=>es.mapM m9|_=>b5
abbrev AI:Expr->Nat->BD
 |.Tuple ..,n=>jP n|_,_=>pO
abbrev wC(S:Sig)(r:Expr->ME)(c:Cs)(tg e:Expr):MI:=match tg with
 |.Tuple ..=>AG S r c e|_=>wB S r c e
abbrev nB(b:MI)(d:Cs->Expr->ME)(e:Cs->Expr->MT)(c:Cs)(elt tg iter:Expr)(ifs:List Expr)(scope:a1D):ME:=match AH tg with
 |some a=>if qI c scope a&&gC iter then eS (AI tg a.length) b (F0 (e<|sR c scope a) ifs) (d (sR c scope a) elt)else cG|none=>cG
abbrev AJ(S:Sig)(a:Cs->Expr->ME)(b:Cs->Expr->MT)(c:Cs)(elt tg iter:Expr)(ifs:List Expr)(scope:a1D):ME:=
 match Ay S c tg iter with
 |some i=>Aj i (nB (mV<|a c iter) a b c elt tg iter ifs scope) cG|none=>
 nB (wC S (a c) c tg iter) a b c elt tg iter ifs scope
abbrev F1:Const->ME
 |.int i=>mC (.int i)|.bool b=>mC (.bl b)|.str s=>mC (.str s)|.none=>mC .non|_=>cG
abbrev F2(m:ME):UnaryOp->ME
 |.USub=>fA m|.Not=>mI m|_=>cG
abbrev F3(S:Sig)(r:Expr->ME)(a:Expr):List a2K->List Expr->ME
 |[op],[b]=>m7 op (gC b) (r a)<|r b
 |[op,op'],[b,b']=>(match gH op,gH op' with
  |some p,b0 q=>gG (fV p) (fV q) (r a) (r b)<|r b'
  |_,_=>cG)
 |_,_=>cG
abbrev F5(S:Sig)(c:Cs):List a2K->List Expr->Option (List<|bG×D)
 |[.In],[b]=>Aw S c b|_,_=>b5
abbrev AK(S:Sig)(c:Cs)(r:Expr->ME)(a:Expr)(ops:List a2K)(bs:List Expr):ME:=match F5 S c ops bs with
 |some b=>zF b (r a)|none=>F3 S r a ops bs
abbrev AL(r:Expr->ME):List (Option Expr)->List Expr->ME
 |[],[]=>i9|_,_=>cG
abbrev AM(S:Sig)(r:Expr->ME)(c:Cs)(a b:Expr):ME:=match b with
 |.Slice lo hi b5 _=>nV (r a) (qH r lo) (qH r hi)|.Slice lo hi (b0 st) _=>mQ (r a) (qH r lo) (qH r hi) (qH r<|b0 st)|b=>if n5 b then(match Aw S c a with|some d=>DK d (r b)|none=>aC aE (r a)<|r b)else cG
abbrev AN(r:Expr->ME)(es:List Expr):ME:=if es.all fB then aZ (e6 r es)else cG
abbrev AO(r:Expr->ME)(es:List Expr):ME:=if es.all fB then bZ (e6 r es)else cG
abbrev AQ(S:Sig)(F:Str->MF)(r:Expr->ME)(c:Cs)(f:Expr)(args:List Expr)(a:a0u):List a2A->ME
 |[]=>AE S F r c f args a|_=>cG
abbrev F6(S:Sig)(a:Cs->Expr->ME)(b:Cs->Expr->MT)(c:Cs)(elt:Expr)(scope:a1D):List Comprehension->ME
 |[⟨tg,iter,ifs,0⟩]=>AJ S a b c elt tg iter ifs scope|_=>cG
abbrev F7(S:Sig)(F:Str->MF)(d:Cs->Expr->ME)(e:Cs->Expr->MT)(c:Cs):Expr->ME
 |.Name x _=>Av S c x|.Constant v _ _=>F1 v|.BinOp a op b _=>FT op (d c a) (d c b)|.UnaryOp op a _=>F2 (d c a) op|.Compare a ops bs _=>AK S c (d c) a ops bs|.BoolOp op vs _=>v7 op (vs.map<|d c)|.IfExp t a b _=>kG (e c t) (d c a) (d c b)|.Tuple es _ _=>AN (d c) es|.List es _=>AO (d c) es|.Dict keys values _=>AL (d c) keys values|.Subscript a b _=>AM S (d c) c a b|.Call f args kws cpos=>AQ S F (d c) c f args cpos kws|.ListComp elt gs scope _=>F6 S d e c elt scope gs|_=>cG
abbrev sS(r:Expr->ME)(e:Expr):MT:=if zB e then c7 (r e)else n6
abbrev AR(S:Sig)(r:Expr->ME)(a:Expr)(ops:List a2K)(bs:List Expr)(p:a0u):MT:=match ops,bs with
 |[op],[b]=>aO<|m7 op (gC b) (r a)<|r b
 |[op,op'],[b,b']=>(match gH op,gH op' with
  |some p,b0 q=>aO<|gG (fV p) (fV q) (r a) (r b)<|r b'
  |_,_=>n6)
 |ops,bs=>sS r<|.Compare a ops bs p
abbrev SS(r:Expr->ME)(t:MT)(a:Expr)(p:a0u):UnaryOp->MT
 |.Not=>t|op=>sS r<|.UnaryOp op a p
abbrev F8(S:Sig)(b:Cs->Expr->ME)(d:Cs->Expr->MT)(c:Cs):Expr->MT
 |.BoolOp op vs _=>v8 op (vs.map<|d c)|.UnaryOp op a p=>SS (b c) (fJ<|d c a) a p op|.Compare a ops bs p=>AR S (b c) a ops bs p|e=>sS (b c) e
abbrev tr(S:Sig)(F:Str->MF):Nat->(Cs->Expr->ME)×(Cs->Expr->MT)
 |0=>(λ_ _=>cG,λ_ _=>n6)|n+1=>(F7 S F (tr S F n).1 (tr S F n).2,F8 S (tr S F n).1 (tr S F n).2)
structure Okx(S:Sig)(F:Str->MF)(k:Nat)(c:Cs)(X:Cx):Prop where
 N:X.N=c.N
 nd:X.N.Nodup
 ks:X.env.scope.names=c.ks
 kind:X.env.scope.kind=.function
 calm:X.calm=d7
 room:Room k X.A
 never:a6w (Y5 X.prog X.w) X.A X.env X.xe
 fn:∀x n,S.fn.lookup x=b0 n->∃(f:Addr)(fd:a1E)(ps:List Str),FnOk X.prog X.w X.K X.mg X.base f7 k f fd ps (jL X.K n<|F x)/\X.mg x=b0 (.ref f)/\a0L X.K (.ref f)=d7/\Binds X.K fd ps []
 con:∀x d,S.con.lookup x=b0 d->∃v u,X.mg x=b0 u/\RelV v u/\∀π n H,IsD X.K π n H v d
 tab:∀x kvs,S.tab.lookup x=b0 kvs->TabOk X x kvs
 no:∀x,S.no.contains x=d7->X.mg x=b5
def SU(ks:X.env.scope.names=c.ks)(h:glob c x=d7):Gl X x/\(x==("__debug__":Str))=false:=by unfold glob at h;rw[YK]at h;show⟨?_,by simpa using h.2⟩;change X.env.scope.names.lookup x=_;rw[ks];show of_decide_eq_true h.1
def SV{X:Cx}(ks:X.env.scope.names=c.ks)(h:nT c x=d7):nP X.env.scope x/\(x==("__debug__":Str))=dI/\(x==("__classdict__":Str))=false:=by
 unfold nT at h;rw[YK,YK,a2C,a2C]at h;obtain⟨⟨a,b⟩,d⟩:=h;show⟨?_,by simpa using b,by simpa using d⟩;unfold nP;rw[ks];rcases a with(a|a)|a
 .show .inl<|of_decide_eq_true a
 .show .inr<|.inl<|of_decide_eq_true a
 .show .inr<|.inr<|of_decide_eq_true a
def Okx.gl(O:Okx S F k c X)(h:glob c x=d7):Gl X x/\(x==("__debug__":Str))=false:=SU O.ks h
def Okx.vis(O:Okx S F k c X)(h:nT c x=d7):nP X.env.scope x/\(x==("__debug__":Str))=dI/\(x==("__classdict__":Str))=false:=SV O.ks h
def SW(O:Okx S F k c X)x pos:QE X (.Name x pos) (Av S c x):=by
 unfold Av;split
 .rename_i h;obtain⟨a,b,j⟩:=O.vis h;split
  .rename_i i l;show Nn i (by rw[O.N];show sP l) a b j
  .show bY
 split
 .rename_i h;obtain⟨a,b⟩:=O.gl h;split
  .rename_i d hd;obtain⟨v,u,m,r,i⟩:=O.con x d hd;show⟨pH (Jx a m r b) i⟩
  .split
   .rename_i o;split
    .rename_i n p;obtain⟨e,g⟩:=SA p;show NX (O.no x o) e a g b
    .show bY
   .show bY
 .show bY
def jB(a:∀e,QE X e (r e)):∀es,es.all fB=d7->QA X es (e6 r es) es.length
 |[],_=>NM|e::es,h=>by rw[ZD,YK]at h;show NN (a e) (jB a es h.2) h.1
def F9(a:∀e,QE X e (r e))op pos:∀vs,QE X (.BoolOp op vs pos) (v7 op<|vs.map r)
 |[]=>bY|[e]=>NI (a e)|e::d::es=>by
  have b:=F9 a op pos<|d::es;cases op with
  |And=>show NJ (a e) b|Or=>show NK (a e) b
def Ga(a:∀e,QT X e (r e))op pos:∀vs,QW X (.BoolOp op vs pos) (v8 op<|vs.map r)
 |[]=>OF|[e]=>by
  cases op with
  |And=>show N6 (a e)|Or=>show N7<|a e
 |e::d::es=>by
  have b:=Ga a op pos<|d::es;cases op with
  |And=>show N8 (a e) b|Or=>show N9 (a e) b
def SX(d:QE X a g)(e:QE X b h)op pos:QE X (.BinOp a op b pos) (FT op g h):=by
 cases op with
 |Add=>show Nu d e|Sub=>show Nv d e|Mult=>show Nw d e|FloorDiv=>show Nx d e|Mod=>show Ny d e|_=>show bY
def SY(O:Okx S F k c X)(d:QE X a g)(e:QE X b i)op pos:QE X (.Compare a [op] [b] pos) (m7 op (gC b) g i):=by
 cases op with
 |Eq=>show NB O.room d e|NotEq=>show NC O.room d e|Lt=>show ND d e|LtE=>show NF d e|Gt=>show NG d e|GtE=>show NH d e|In=>
  simp only[m7];split
  .rename_i h;show QY O.room d e h
  .show bY
 |NotIn=>
  simp only[m7];split
  .rename_i h;show QZ O.room d e h
  .show bY
 |Is=>show PD d e|IsNot=>show PF d e
def Gb:QT X e (aO cG):=⟨λb0Z s σ H Q I h=>by
 obtain⟨i,j,g,d,b,R,E,a,k⟩:=h;cases a⟩
def S0(O:Okx S F k c X)(d:QE X a g)(e:QE X b i)op pos:QT X (.Compare a [op] [b] pos) (aO<|m7 op (gC b) g i):=by
 cases op with
 |Eq=>show NY O.room d e|NotEq=>show NZ O.room d e|Lt=>show N0 d e|LtE=>show N1 d e|Gt=>show N2 d e|GtE=>show N3 d e|In=>
  simp only[m7];split
  .rename_i h;show Q0 O.room d e h
  .show Gb
 |NotIn=>
  simp only[m7];split
  .rename_i h;show Q1 O.room d e h
  .show Gb
 |Is=>show PH d e|IsNot=>show PJ d e
def sT(a:∀e,QE X e (r e)):∀o,QO X o (qH r o)
 |none=>NR|some e=>NS<|a e
def Gd(O:Okx S F k c X)(h:Aw S c a=b0 kvs):∃x p,a=.Name x p/\TabOk X x kvs/\Gl X x/\(x==("__debug__":Str))=false:=by
 obtain⟨x,e,g⟩:=Yv.mp h;obtain⟨p,rfl⟩:=sQ e;by_cases b:glob c x=d7
 .rw[if_pos b]at g;obtain⟨d,i⟩:=O.gl b;show⟨_,_,rfl,O.tab _ _ g,d,i⟩
 .rw[if_neg b]at g;cases g
def S3(O:Okx S F k c X)(l:∀e,QE X e (r e))(h1:kN o=d7)(i:(d.endLine==h.line)=d7)(j:QA X args (e6 r args) args.length)(b:FW m args.length=b0 g):QE X (.Call (.Attribute o m d) args [] h) (c5 g (r o)<|e6 r args):=by
 show dU b (λe g=>?_) λb=>?_
 .obtain⟨rfl,a⟩:=a0W e;cases g;cases args with
  |nil=>cases a|cons e n=>show rQ PySem.F.slot_list_append PySem.F.type_list_append CQ OP (l o) j h1 i<|by rw[a];decide
 show dU b (λe g=>?_) λb=>?_
 .obtain⟨rfl,a⟩:=a0W e;cases g;cases args with
  |nil=>cases a|cons e n=>show rQ PySem.F.slot_list_extend PySem.F.type_list_extend Lx OQ (l o) j h1 i<|by rw[a];decide
 show dU b (λe g=>?_) λb=>?_
 .obtain⟨rfl,a⟩:=a0W e;cases g;cases args with
  |nil=>cases a|cons e n=>show rQ PySem.F.slot_list_index PySem.F.type_list_index (P5<|by have:=O.room.units;lia) P4 (l o) j h1 i<|by rw[a];decide
 show dU b (λe g=>?_) λb=>?_
 .obtain⟨rfl,a⟩:=a0W e;cases g;cases args with
  |nil=>cases a|cons e n=>show rQ PySem.F.slot_list_remove PySem.F.type_list_remove (RX<|by have:=O.room.units;lia) RV (l o) j h1 i<|by rw[a];decide
 show dU b (λe g=>?_) λb=>?_
 .obtain⟨rfl,a⟩:=a0W e;cases g;cases args with
  |nil=>cases a|cons e n=>show rQ PySem.F.slot_list_pop PySem.F.type_list_pop Lz OT (l o) j h1 i<|by rw[a];decide
 cases b
def S4(O:Okx S F k c X)(l:∀e,QE X e (r e))(h1:kN o=d7)(i:(a.endLine==b.line)=d7)(j:QA X args (e6 r args) args.length)(h:dMT.lookup (m,args.length)=b0 g):QE X (.Call (.Attribute o m a) args [] b) (iI g (r o)<|e6 r args):=by
 show dU h (λe g=>?_) λh=>?_
 .obtain⟨rfl,d⟩:=a0W e;cases g;cases args with
  |nil=>cases d|cons e n=>show Am a5n PySem.F.type_dict_setdefault (RI<|by have:=O.room.units;lia) RH (l o) j h1 i<|by rw[d];decide
 show dU h (λe g=>?_) λh=>?_
 .obtain⟨rfl,d⟩:=a0W e;cases g;cases args with
  |nil=>cases d|cons e n=>show Am a6C PySem.F.type_dict_get (RE<|by have:=O.room.units;lia) RD (l o) j h1 i<|by rw[d];decide
 show dU h (λe g=>?_) λh=>?_
 .obtain⟨rfl,d⟩:=a0W e;cases g;cases args with
  |nil=>cases d|cons e n=>show Am a5W PySem.F.type_dict_update (Sz<|by have:=O.room.units;lia) Sy (l o) j h1 i<|by rw[d];decide
 cases h
def S5(O:Okx S F k c X)(u:∀e,QE X e (r e))f args b:QE X (.Call f args [] b) (Az S F r c f args b):=by
 unfold Az;split
 .rename_i x p;split
  .rename_i i;rw[YK]at i;obtain⟨j,l⟩:=O.gl i.1;have h:=jB u args i.2;split
   .rename_i n Q;split
    .rename_i N;obtain⟨R,U,Y,w,d,I,s⟩:=O.fn x n Q;subst N;cases args with
     |nil=>show OW w O.room d I s j l|cons e L=>show NU w O.room d I s h j l
    .show bY
   .skip;split
    .rename_i a;rw[YK]at a;split
     .rename_i g s;obtain⟨v,Z,z,K,A,B,E⟩:=SM (X:=X) O.calm O.room.units s;cases args with
      |nil=>show absurd a.2 (by simp)|cons e L=>
       rcases K with⟨id,rfl⟩|⟨T,rfl⟩
       .show NV A B (O.no x a.1) z h j E l
       .show NW A B (O.no x a.1) z h j E l
     .show bY
    .show bY
  .show bY
 .rename_i o m y;split
  .rename_i i;rw[YK,YK]at i;obtain⟨⟨G,H⟩,M⟩:=i;have h:=jB u args M;split
   .rename_i g d;unfold FX at d;show S4 O u G H h d
   split
   .rename_i g d;show S3 O u G H h d
   .skip
    .show bY
  .show bY
 .show bY
def S6(O:Okx S F k c X)(j:∀e,QE X e (r e))f args a:QE X (.Call f args [] a) (AB S F r c f args a):=by
 unfold AB;split
 .rename_i b e h;split
  .rename_i i;rw[YK,YK,YK,YK]at i;obtain⟨⟨⟨⟨l,n⟩,u⟩,v⟩,st⟩:=i;have s:=jB j [e] (by rw[ZD,st];rfl);obtain⟨t,o,g⟩:=Yv.mp h;obtain⟨p,w,pos,rfl,rfl⟩:=FY o;split at g
   .rename_i d;cases g;rw[d.1,d.2];show Qf O.calm (O.no _ u) (O.no _ v) s (O.gl l).1 (O.gl n).1
   .cases g
  .show bY
 .show S5 O j f args a
def S7{X:Cx}(nd:X.N.Nodup)(e:X.N=c.N)(ks:X.env.scope.names=c.ks)(h:qI c scope xs=d7):CompSt X.env.scope X.N scope xs/\xs.Nodup:=by
 unfold qI at h;rw[YK,YK]at h;obtain⟨⟨h,b⟩,s⟩:=h;have b:=of_decide_eq_true b;have d:∀y∈c.N,xs.contains y=d7->scope.names.lookup (pM y)=none:=λy a hc=>by have:=a2q.mp s y a;rw[hc]at this;simpa using this
 simp only[YK,a2q,decide_eq_true_eq,a2C,a2R,List.contains_eq_mem,decide_eq_false_iff_not]at h;obtain⟨⟨⟨⟨⟨⟨i,j⟩,l⟩,n⟩,r⟩,o⟩,p⟩:=h;show⟨⟨i,j,λy a g=>(l y a).resolve_left λz=>z g,n,λy a u=>?_,λy a g=>?_,nd,by rw[e];show b,by rw[e];show d⟩,r⟩
 .rw[ks];rcases o y a with(z|z)|z
  .show absurd u z
  .show .inl z
  .show .inr z
 .rw[e];have:=(p y a).resolve_left λz=>z g;show this
def sU(O:Okx S F k c X)(h:qI c scope xs=d7):CompSt X.env.scope X.N scope xs/\xs.Nodup:=S7 O.nd O.N O.ks h
def Ge{N:List Str}(h:N.Nodup)(d:xs.Nodup)(g:∀x∈xs,x∉N):(N++xs).Nodup:=by rw[a0D];show⟨h,d,λa i b j e=>by subst e;show g _ j i⟩
def Gf{X:Cx}(Q:CompSt X.env.scope X.N scope xs/\xs.Nodup):(bL xs X.N++xs).Nodup:=Ge Q.1.hnd Q.2 λx a=>Q.1.own (x,.local) (Z9<|Q.1.here x a) rfl
def S8{X:Cx}(a:X.env.scope.kind=.function)(ks:X.env.scope.names=c.ks)scope xs:(a9J scope X.env).names=(sR c scope xs).ks:=by
 unfold a9J sR;dsimp only;show a0n λy _=>?_;obtain⟨n,b⟩:=y;dsimp only;have:(X.env.scope.kind==ScopeKind.function)=true:=by rw[a];rfl
 rw[this,a9F];change(if(b==a1j&&X.env.scope.names.lookup n==b0 a1A)=d7 then _ else _)=_;rw[ks]
def Okx.comp(O:Okx S F k c X)(h:qI c scope xs=d7){C:Addr}:Okx S F k (sR c scope xs) (cR X scope cl C (bL xs X.N++xs) s₀ H₀ b):=
 ⟨show bL xs X.N++xs=bL xs c.N++xs by rw[O.N],Gf<|sU O h,S8 O.kind O.ks scope xs,(sU O h).1.kind,O.calm,O.room,a7u,O.fn,O.con,λy a q=>⟨(O.tab y a q).ex⟩,O.no
  ⟩
def Gg(j:∀e,QT X e (r e)):∀es,QI X es (F0 r es)
 |[]=>Ob|[t]=>Oc<|j t
 |a::b::es=>⟨λg s u H Q I h=>by
   obtain⟨o,p,n,d,l,R,E,i,k⟩:=h;cases i⟩
def wD(O:Okx S F k c X)(h:lW S c x e=b0 args):∃p pos,e=.Call (.Name x p) args [] pos/\Gl X x/\X.mg x=b5/\args.all fB=true:=by
 obtain⟨g,d,j⟩:=Yv.mp h;obtain⟨y,i,a⟩:=Yv.mp j;clear h j;by_cases z:y=x/\(glob c x&&S.no.contains x&&g.2.all fB)=d7
 .rw[if_pos z]at a;cases a;have b:=z.2;rw[YK,YK]at b;obtain⟨pos,d⟩:=FU d;obtain⟨p,i⟩:=sQ i;show⟨p,pos,by rw[d,i,z.1],(O.gl b.1.1).1,O.no _ b.1.2,b.2⟩
 .rw[if_neg z]at a;cases a
def Gh(O:Okx S F k c X)(n:∀e,QE X e (r e))e:QJ X e (wB S r c e):=by
 unfold wB;cases h:lW S c "range" e with
 |some o=>
  obtain⟨p,pos,rfl,j,l,i⟩:=wD O h;match o,i with
  |[],_=>show DH|[a],i=>show Ox j l (jB n [a] i)|[a,b],i=>show Oy j l (jB n [a,b] i)|[a,b,d],i=>show Qk j l (jB n [a,b,d] i)|_::_::_::_::_,_=>show DH
 |none=>
  cases g:(lW S c "reversed" e).bind o1 with
  |some a=>obtain⟨o,s,u⟩:=Yv.mp g;obtain rfl:=wA u;obtain⟨p,pos,rfl,j,l,i⟩:=wD O s;show Qp j l (jB n [a] i)|none=>show Ou<|n e
def S9(O:Okx S F k c X)(b:∀e,QE X e (r e))e:QJT X e (AF S r c e):=by
 unfold AF;cases h:(lW S c "enumerate" e).bind o1 with
 |some a=>obtain⟨n,d,g⟩:=Yv.mp h;obtain rfl:=wA g;obtain⟨p,pos,rfl,i,j,l⟩:=wD O d;show P2 i j (jB b [a] l)|none=>show(Gh O b e).t
def Ta(O:Okx S F k c X)(a:∀e,QE X e (r e))e:QJT X e (AG S r c e):=by
 unfold AG;cases h:(lW S c "zip" e).bind o2 with
 |some t=>obtain⟨l,b,d⟩:=Yv.mp h;obtain rfl:=SE (a:=t.1) (b:=t.2) d;obtain⟨p,pos,rfl,g,i,j⟩:=wD O b;show Q7 g i (jB a [t.1,t.2] j)|none=>show S9 O a e
def AS(O:Okx S F k c X)(a:∀e,QE X e (r e))tg e:PI X tg e (tMI X.K<|wC S r c tg e):=by
 cases tg with
 |Tuple=>show(Ta O a e).h _ _ _|_=>show(Gh O a e).h _
def Gi(h:gC iter=d7):∀x,a2o iter env x=pure x:=by intro z;cases iter<;>first|rfl|cases h
def Gj(b:X.N.Nodup):∀es xs n,es.mapM m9=b0 xs->(∀j x,xs[j]?=b0 x->X.N[n+j]?=b0 x/\X.env.scope.names.lookup x=b0 .local)->QGs X es (a3j n xs.length)
 |[],xs,n,h,hx=>by cases h;show DE
 |e::es,xs,n,h,hx=>by rw[List.mapM_cons]at h;obtain⟨x,c,h⟩:=Yv.mp h;obtain⟨i,d,h⟩:=Yv.mp h;cases h;obtain⟨p,rfl⟩:=sQ c;rw[Zc,a2Z];have a:=hx 0 x rfl;show DF n b (Gj b es i (n+1) d λj z g=>?_) a.1 (.inl a.2)<|.inr a.2;have:=hx (j+1) z g;rw[<- a3h,a5d]at this;show this
def Tc{c:Cs}(Q:CompSt X.env.scope X.N scope [x]/\[x].Nodup)cl C s₀ H₀ a:PG (cR X scope cl C (bL [x] X.N++[x]) s₀ H₀ a) (.Name x p) (tMG X.K<|gB X.N.length pO):=by have d:=Gf Q;have b:(a9J scope X.env).names.lookup x=b0 .local:=a8V (Q.1.here x<|by simp);show Oz (X:=cR X scope cl C (bL [x] X.N++[x]) s₀ H₀ a) (by change(bL [x] X.N++[x]).length=_;rw[YF,nW];rfl)<|Dt (X:=cR X scope cl C (bL [x] X.N++[x]) s₀ H₀ a) d (by change(bL [x] X.N++[x])[X.N.length]?=_;rw[<- nW [x] X.N];simp) (.inl b)<|.inr b
def wF(O:Okx S F k c X)(a:AH tg=b0 xs)(h:qI c scope xs=d7)cl C s₀ H₀ b:
  PG (cR X scope cl C (bL xs X.N++xs) s₀ H₀ b) tg (tMG X.K<|gB X.N.length<|AI tg xs.length)/\∀d n z,AI tg xs.length d n=b0 z->z.length=xs.length:=by
 obtain⟨St,g⟩:=sU O h;have s:(bL xs X.N++xs).Nodup:=Ge St.hnd g λx a=>St.own (x,.local) (Z9<|St.here x a) rfl;have e:∀x∈xs,(a9J scope X.env).names.lookup x=b0 .local:=λx a=>a8V<|St.here x a;unfold AH at a;split at a
 .rename_i x p;cases a;show⟨Tc (c:=c) ⟨St,g⟩ cl C s₀ H₀ b,λd n z l=>?_⟩;cases l;rfl
 .rename_i r w pt;show⟨OA (X:=cR X scope cl C (bL xs X.N++xs) s₀ H₀ b) (by change(bL xs X.N++xs).length=_;rw[YF,nW]) (zD (X:=cR X scope cl C (bL xs X.N++xs) s₀ H₀ b) (Gj (X:=cR X scope cl C (bL xs X.N++xs) s₀ H₀ b) s r xs X.N.length a λj x o=>⟨?_,e x<|YZ o⟩) O.calm).h,λd n z l=>?_⟩
  .change(bL xs X.N++xs)[X.N.length+j]?=b0 x;rw[Zn<|by rw[nW];lia,nW,show X.N.length+j-X.N.length=j by lia];show o
  .obtain⟨y,v,i⟩:=Yv.mp l;split at i
   .rename_i u;cases i;rw[Yu];show u
   .cases i
 .cases a
def Td(O:Okx S F k c X)(i:∀e,QE X e (r e))f args a:QE X (.Call f args [] a) (AE S F r c f args a):=by
 unfold AE;split
 .rename_i q h;split
  .rename_i g;rw[YK,YK,YK,YK,YK]at g;obtain⟨⟨⟨⟨⟨j,l⟩,s⟩,u⟩,st⟩,o⟩:=g;obtain⟨t,n,d⟩:=Yv.mp h;split at d
   .rename_i b;obtain⟨p,v,pos,rfl,rfl⟩:=FY n;rw[b.1,b.2,SO d];show RO O.calm O.room.units (O.no _ s) (O.no _ u) (O.gl j).1 (O.gl l).1 (i _) st o
   .cases d
  .show bY
 show S6 O i _ _ _
def AU(p:∀c X,Okx S F k c X->∀e,QE X e (n c e))(r:∀c X,Okx S F k c X->∀e,QT X e (o c e))c X(O:Okx S F k c X)elt tg iter ifs scope pos(u:PI X tg iter (tMI X.K l)):QE X (.ListComp elt [⟨tg,iter,ifs,0⟩] scope pos) (nB l n o c elt tg iter ifs scope):=by
 unfold nB;split
 .rename_i x j;split
  .rename_i h;rw[YK]at h;show⟨λg s w H Q I q=>?_⟩;show OD ((sU O h.1).1.ok I.ok) O.calm u (λd v z=>(wF O j h.1 [] 0 s H []).2 d v z) (λC b a i=>(wF O j h.1 _ C b a i).1) (λC b a i=>(Gg (r _ _<|O.comp h.1) _).h) (λC b a i=>(p _ _ (O.comp h.1) _).h) (Gi h.2) g s w H Q I q
  .show bY
 .show bY
def Te(a:∀c X,Okx S F k c X->∀e,QE X e (d c e))(b:∀c X,Okx S F k c X->∀e,QT X e (g c e))c X(O:Okx S F k c X)elt tg iter ifs scope pos:QE X (.ListComp elt [⟨tg,iter,ifs,0⟩] scope pos) (AJ S d g c elt tg iter ifs scope):=by
 unfold AJ;split
 .show Ru (AU a b c X O elt tg iter ifs scope pos<|(Al<|a c X O iter).h tg) bY
 show AU a b c X O elt tg iter ifs scope pos<|AS O (a c X O) tg iter
def Tf v n p:QE X (.Constant v n p) (F1 v):=by cases v<;>first|show Np|show Nq|show Nr|show Nt|show bY
def Tg{r:Expr->ME}(b:∀e,QE X e (r e))op a p:QE X (.UnaryOp op a p) (F2 (r a) op):=by cases op<;>first|show Nz (b _)|show NA (b _)|show bY
def Th(O:Okx S F k c X)(d:∀e,QE X e (r e))a ops bs p:QE X (.Compare a ops bs p) (F3 S r a ops bs):=by
 match ops,bs with
 |[op],[b]=>show SY O (d _) (d _) _ _|[op,op'],[b,b']=>
  change QE X _ (match gH op,gH op' with
  |some p,b0 q=>gG (fV p) (fV q) (r a) (r b)<|r b'
  |_,_=>cG)
  cases g:gH op with
  |none=>show bY|some p=>cases h:gH op' with
   |none=>show bY|some q=>show PB g h (d _) (d _)<|d _
 |[],_=>show bY|[_],[]=>show bY|[_],_::_::_=>show bY|[_,_],[]=>show bY|[_,_],[_]=>show bY|[_,_],_::_::_::_=>show bY|_::_::_::_,_=>show bY
def Tj(O:Okx S F k c X)(d:∀e,QE X e (r e))a ops bs p:QE X (.Compare a ops bs p) (AK S c r a ops bs):=by
 unfold AK;cases h:F5 S c ops bs with
 |none=>show Th O d a ops bs p|some j=>
  match ops,bs,h with
  |[.In],[b],h=>obtain⟨x,q,rfl,T,g,i⟩:=Gd O h;show OH T g i<|d _
def Tn(O:Okx S F k c X)(a:∀e,QE X e (r e))ks vs p:QE X (.Dict ks vs p) (AL r ks vs):=by
 unfold AL;try split
 .show Qy
 .show bY
def To(O:Okx S F k c X)(d:∀e,QE X e (r e))a b p:QE X (.Subscript a b p) (AM S r c a b):=by
 unfold AM;split
 .show NT (d _) (sT d _)<|sT d _
 .show PX (d _) (sT d _) (sT d _)<|sT d _
 .split
  .rename_i h;split
   .rename_i l j;obtain⟨x,p,rfl,T,g,i⟩:=Gd O j;show OG T g i (d _) h
   .show QX O.room (d _) (d _) h
  .show bY
def lX(a:∀e,QE X e (r e))e:QT X e (sS r e):=by
 unfold sS;split
 .rename_i h;show OV (a _) h
 .show uR
def Tp(O:Okx S F k c X)(d:∀e,QE X e (r e))a ops bs p:QT X (.Compare a ops bs p) (AR S r a ops bs p):=by
 match ops,bs with
 |[op],[b]=>show S0 O (d _) (d _) _ _|[op,op'],[b,b']=>
  unfold AR;dsimp only;cases g:gH op with
  |none=>show uR|some p=>cases h:gH op' with
   |none=>show uR|some q=>show PC g h (d _) (d _)<|d _
 |[],_=>show lX d _|[_],[]=>show lX d _|[_],_::_::_=>show lX d _|[_,_],[]=>show lX d _|[_,_],[_]=>show lX d _|[_,_],_::_::_::_=>show lX d _|_::_::_::_,_=>show lX d _
def Tq(a:∀e,QE X e (r e))es n p:QE X (.Tuple es n p) (AN r es):=by
 unfold AN;split
 .rename_i h;show NO<|jB a _ h
 .show bY
def Tr(a:∀e,QE X e (r e))es p:QE X (.List es p) (AO r es):=by
 unfold AO;split
 .rename_i h;show NP<|jB a _ h
 .show bY
def Ts(O:Okx S F k c X)(b:∀e,QE X e (r e))f args a p:QE X (.Call f args a p) (AQ S F r c f args p a):=by
 unfold AQ;split
 .show Td O b _ _ _
 .show bY
def Gk(B:∀c X,Okx S F k c X->∀e,QE X e (o c e))(E:∀c X,Okx S F k c X->∀e,QT X e (r c e))c X(O:Okx S F k c X):
  (∀e,QE X e (F7 S F o r c e))/\∀e,QT X e (F8 S o r c e):=by
 have d:=B c X O;have w:=E c X O;constructor
 .intro e;cases e with
  |Name x p=>show SW O _ _|Constant v n p=>show Tf v n p|BinOp a i b p=>show SX (d _) (d _) _ _|UnaryOp i a p=>show Tg d i a p|Compare a g bs p=>show Tj O d a g bs p|BoolOp i z p=>show F9 d _ _ _|IfExp t a b p=>show NL (w _) (d _) (d _)|Tuple u n p=>show Tq d u n p|List u p=>show Tr d u p|Dict G z p=>show Tn O d G z p|Subscript a b p=>show To O d a b p|Call f j y l=>show Ts O d f j y l|ListComp s A h p=>
   change QE X _ (F6 S o r c s h A);match A with
   |[]=>show bY|[⟨_,_,_,.ofNat 0⟩]=>show Te B E c X O _ _ _ _ _ _|[⟨_,_,_,.ofNat<|_+1⟩]=>show bY|[⟨_,_,_,.negSucc _⟩]=>show bY|⟨_,_,_,.ofNat 0⟩::_::_=>show bY|⟨_,_,_,.ofNat<|_+1⟩::_::_=>show bY|⟨_,_,_,.negSucc _⟩::_::_=>show bY
  |_=>show bY
 .intro e;cases e with
  |BoolOp i z p=>show Oa (Ga w _ _ _)|UnaryOp i a p=>
   cases i;case Not=>show N5<|w _
   all_goals show lX d _
  |Compare a g bs p=>show Tp O d a g bs p|_=>show lX d _
def AV:∀n,(∀c X,Okx S F k c X->∀e,QE X e ((tr S F n).1 c e))/\∀c X,Okx S F k c X->∀e,QT X e ((tr S F n).2 c e)
 |0=>⟨λc X O e=>bY,λc X O e=>uR⟩|n+1=>by have a:=AV (S:=S) (F:=F) (k:=k) n;show⟨λc X O e=>(Gk a.1 a.2 c X O).1 e,λc X O e=>(Gk a.1 a.2 c X O).2 e⟩
abbrev wG:MG:=λ_ _ _=>b5
abbrev sV(c:Cs):List Expr->Option (List Nat)
 |[]=>b0 []|.Name x _::r=>if m5 c x then(mZ x c.N).bind λi=>(sV c r).map (i::·)else b5|_=>b5
abbrev sW(c:Cs):Expr->MG
 |.Name x _=>if m5 c x then(match mZ x c.N with|some i=>cC i|none=>wG)else wG|.Tuple es _ _=>match sV c es with|some a=>eW a|none=>wG
 |_=>wG
abbrev lY(r:Stmt->MS):List Stmt->MS
 |[]=>bE|[s]=>r s|s::t=>aH (r s)<|lY r t
abbrev AW(S:Sig)(E:Cs->Expr->ME)(T:Cs->Expr->MT)(c:Cs)(i:Nat):Expr->MS
 |.ListComp elt [⟨tg,iter,ifs,0⟩] scope _=>match Ay S c tg iter with
  |some j=>oN j (aL i<|nB (mV<|E c iter) E T c elt tg iter ifs scope) dR|none=>aL i<|nB (wC S (E c) c tg iter) E T c elt tg iter ifs scope
 |_=>dR
abbrev AX(S:Sig)(E:Cs->Expr->ME)(T:Cs->Expr->MT)(c:Cs)(tg e:Expr):MS:=match tg with
 |.Name y _=>if m5 c y then(match mZ y c.N with
   |some i=>if lJ e then aL i (E c e)else AW S E T c i e
   |none=>dR)else dR
 |.Tuple es _ _=>if zE e then(match sV c es with|some a=>jQ (E c e) (eW a)|none=>dR)
   else dR
 |.Subscript o i _=>if lJ e&&n5 i then i7 (E c o) (E c i) (E c e)else dR|_=>dR
abbrev nC:Nat:=1000000000
abbrev AY(tg:Expr):Expr->Option (Expr×a0u×a0u)
 |.Call g [] [] cpos=>match g with
  |.Attribute o m apos=>match tg with
   |.Tuple ..=>if m="items" then b0 (o,apos,cpos)else b5|_=>b5
  |_=>b5
 |_=>b5
def Tt(h:AY tg e=b0 q):e=.Call (.Attribute q.1 "items" q.2.1) [] [] q.2.2/\∃es b p,tg=.Tuple es b p:=by
 unfold AY at h;split at h
 .split at h
  .split at h
   .split at h
    .rename_i a;cases h;rw[a];show⟨rfl,_,_,_,rfl⟩
    .cases h
   .cases h
  .cases h
 .cases h
abbrev Gm(S:Sig)(E:Cs->Expr->ME)(T:Cs->Expr->MT)(c:Cs)(r:Stmt->MS):Stmt->MS
 |.Return (b0 e) _=>aN (E c e)|.Return b5 _=>aN (mC .non)|.If t a b _=>bC (T c t) (lY r a) (lY r b)|.Assign [tg] e _=>AX S E T c tg e|.Expr e _=>if lJ e then cW (E c e)else dR|.For tg iter body [] _=>if gC iter then
  (match AY tg iter with
  |some q=>if kN q.1&&(q.2.1.endLine==q.2.2.line)then b8 (sJ<|E c q.1) (sW c tg) (lY r body)else dR|none=>
  (match Ay S c tg iter with
  |some j=>oN j (b8 (mV<|E c iter) (sW c tg)<|lY r body) dR
  |none=>b8 (wC S (E c) c tg iter) (sW c tg)<|lY r body)
  )
  else dR
 |.While t body [] _=>mO nC (T c t) (lY r body)|.Pass _=>bE|_=>dR
abbrev AZ(S:Sig)(F:Str->MF)(m:Nat)(c:Cs):Nat->Stmt->MS
 |0=>λ_=>dR|n+1=>Gm S (tr S F m).1 (tr S F m).2 c<|AZ S F m c n
def Tu{X:Cx}(ks:X.env.scope.names=c.ks)(h:m5 c x=d7):L2.Loc X.env.scope x:=by unfold m5 at h;rw[a2C]at h;unfold L2.Loc;rw[ks];show h.imp of_decide_eq_true of_decide_eq_true
def Okx.own(O:Okx S F k c X)(h:m5 c x=d7):L2.Loc X.env.scope x:=Tu O.ks h
def A1(O:Okx S F k c X)(b:∀x,X.fn x=d7):∀es a,sV c es=b0 a->QGs X es a
 |[],a,h=>by cases h;show DE
 |e::es,a,h=>by
  cases e with
  |Name x p=>
   unfold sV at h;split at h
   .rename_i j;obtain⟨i,d,h⟩:=Yv.mp h;obtain⟨l,g,h⟩:=YB.mp h;subst h;show DF i O.nd (A1 O b es l g) (by rw[O.N];show sP d) (O.own j)<|.inl<|b x
   .cases h
  |_=>cases h
def A2(O:Okx S F k c X)(b:∀x,X.fn x=d7)e:QG X e (sW c e):=by
 unfold sW;split
 .split
  .rename_i d;split
   .rename_i i a;show Om i O.nd (by rw[O.N];show sP a) (O.own d)<|.inl<|b _
   .show uS λ_ _ _=>rfl
  .show uS λ_ _ _=>rfl
 .split
  .rename_i g a;show zD (A1 O b _ g a) O.calm
  .show uS λ_ _ _=>rfl
 .show uS λ_ _ _=>rfl
def nD(a:∀s,QS X s (r s)):∀b,QB X b (lY r b)
 |[]=>Od|[s]=>Of (a s)|s::t::ts=>Oe (a s)<|nD a<|t::ts
def Tv{pos:a0u}:
  ∃b,a3T (.ListComp elt [⟨tg,iter,ifs,0⟩] scope pos) (b0<|.Name y py) n env=pure b/\(b=d7->env.kindOf y=b0 .local):=by
 show⟨env.blockKind==.function&&env.kindOf y==b0 .local&&py.line==pos.line&&!(scope.names.any λ(n,k)=>n==y&&(k==.local||k==.cell)),rfl,λh=>?_⟩;simp only[YK,beq_iff_eq]at h;show h.1.1.2
def Gn(O:Okx S F k c X)(G:∀x,X.fn x=d7)(u:∀c X,Okx S F k c X->∀e,QE X e (E c e))(v:∀c X,Okx S F k c X->∀e,QT X e (T c e))(w:X.N[i]?=b0 y)(K:m5 c y=d7)elt tg iter ifs scope pos(n:PI X tg iter (tMI X.K B)):QS X (.Assign [.Name y py] (.ListComp elt [⟨tg,iter,ifs,0⟩] scope pos) j) (aL i<|nB B E T c elt tg iter ifs scope):=by
  obtain⟨b,l,r⟩:=Tv (elt:=elt) (tg:=tg) (iter:=iter) (ifs:=ifs) (scope:=scope) (pos:=pos) (py:=py) (y:=y) (n:=j.line) (env:=X.env);cases b with
  |false=>show⟨Dd O.nd w (O.own K) (AU u v c X O elt tg iter ifs scope pos n).h l<|.inl<|G y⟩|true=>
   unfold nB;split
   .rename_i N A;split
    .rename_i h;rw[YK]at h;show⟨λo s M H D I q=>?_⟩;show OE ((sU O h.1).1.ok I.ok) O.nd O.calm n (λd L z=>(wF O A h.1 [] 0 s H []).2 d L z) (λC g a p=>(wF O A h.1 _ C g a p).1) (λC g a p=>(Gg (v _ _<|O.comp h.1) _).h) (λC g a p=>(u _ _ (O.comp h.1) _).h) (Gi h.2) w (r rfl) l o s M H D I q
    .show EJ
   .show EJ
def Tw(O:Okx S F k c X)(g:∀x,X.fn x=d7)(b:∀c X,Okx S F k c X->∀e,QE X e (E c e))(d:∀c X,Okx S F k c X->∀e,QT X e (T c e))(h:X.N[i]?=b0 y)(j:m5 c y=d7)e:QS X (.Assign [.Name y py] e a) (AW S E T c i e):=by
 unfold AW;split
 .split
  .show Fu (Gn O g b d h j _ _ _ _ _ _<|(Al<|b c X O _).h _) fC
  .show Gn O g b d h j _ _ _ _ _ _<|AS O (b c X O) _ _
 .show fC
def Tx(O:Okx S F k c X)(d:∀x,X.fn x=d7)(b:∀c X,Okx S F k c X->∀e,QE X e (E c e))(n:∀c X,Okx S F k c X->∀e,QT X e (T c e))tg e pos:
  QS X (.Assign [tg] e pos) (AX S E T c tg e):=by
 unfold AX;split
 .split
  .rename_i l;split
   .rename_i i g;have a:=sP g;rw[<- O.N]at a;split
    .rename_i j;show Ol i O.nd (b c X O e) j a (O.own l)<|.inl<|d _
    .show Tw O d b n a l e
   .show fC
  .show fC
 .split
  .rename_i j;split
   .rename_i o g;show Oq (b c X O e) (zD (A1 O d _ o g) O.calm) j
   .show fC
  .show fC
 .split
  .rename_i h;rw[YK]at h;show Q2 O.room (b c X O _) (b c X O _) (b c X O _) h.1
  .show fC
 .show fC
def Tz(O:Okx S F k c X)(n:∀x,X.fn x=d7)(g:∀c X,Okx S F k c X->∀e,QE X e (E c e))(u:∀c X,Okx S F k c X->∀e,QT X e (T c e))(i:∀s,QS X s (r s))st:
  QS X st (Gm S E T c r st):=by
 cases st with
 |Return o p=>
  cases o with
  |none=>show OY|some e=>show Oh<|g c X O _
 |If t a b p=>show Oj (u c X O _) (nD i _) (nD i _)|Assign w e p=>
  cases w with
  |nil=>show fC|cons G H=>
   cases H with
   |nil=>show Tx O n g u _ _ _|cons _ _=>show fC
 |Expr e p=>
  change QS X _ (if lJ e then cW (E c e)else dR);split
  .rename_i h;show Oi (g c X O _) h
  .show fC
 |For G l j d p=>
  cases d with
  |cons _ _=>show fC|nil=>
   change QS X _ (if gC l then _ else dR);split
   .rename_i h;split
    .rename_i q A;split
     .rename_i v;rw[YK]at v;obtain⟨e,z,B,pt,y⟩:=Tt A;rw[e]at h ⊢;subst y;show z9 ((RU (g c X O _) v.1 v.2).h z B pt) (A2 O n _) (nD i _) O.never O.calm h
     .show fC
    split
    .show Fu (z9 ((Al<|g c X O _).h _) (A2 O n _) (nD i _) O.never O.calm h) fC
    show z9 (AS O (g c X O) _ _) (A2 O n _) (nD i _) O.never O.calm h
   .show fC
 |While t j d p=>
  cases d with
  |nil=>show OX _ (u c X O _) (nD i _) O.never|cons _ _=>show fC
 |Pass p=>show Og|_=>show fC
def Gp(O:Okx S F k c X)(a:∀x,X.fn x=d7)m:∀n st,QS X st (AZ S F m c n st)
 |0,_=>fC|n+1,st=>Tz O a (AV m).1 (AV m).2 (Gp O a m n) st
abbrev dY(st:Stmt):List Str:=(iV st).args.map (·.arg)
abbrev nE(st:Stmt):List Str:=dY st++(cQ st).names.filterMap λy=>if(y.2==NameKind.local||y.2==a1A)&&!(dY st).contains y.1 then b0 y.1 else b5
abbrev nF(st:Stmt):Bool:=
 decide ((cQ st).kind=.function)&&!(cQ st).isCoroutine&&!(cQ st).isGenerator&&decide (nE st).Nodup &&
 ((dY st).all λx=>decide ((cQ st).names.lookup x=b0 .local)||decide ((cQ st).names.lookup x=b0 .cell))&&((cQ st).names.all λy=>decide<|y.2≠.free)
def TB(h:nF st=d7):FnScope (nE st) (dY st) (cQ st):=by unfold nF at h;simp only[YK,decide_eq_true_eq,a2R,a2q,a2C]at h;obtain⟨⟨⟨⟨⟨a,b⟩,c⟩,d⟩,e⟩,g⟩:=h;show⟨a,b,c,d,by unfold nE;simp,e,g⟩
abbrev Gq:Nat:=40
abbrev Gs:Nat:=40
noncomputable abbrev lk(_:Sig)(ds:List (Str×Stmt))(x:Str):Option Stmt:=ds.lookup x
abbrev A3(S:Sig)(F:Str->MF)(st:Stmt):MF:=yL (nE st).length<|lY (AZ S F Gq ⟨nE st,(cQ st).names⟩ Gs)<|fS st
abbrev jV(S:Sig)(ds:List (Str×Stmt)):Nat->Str->MF
 |0,_=>λ_ _=>b5|k+1,x=>match lk S ds x with
  |none=>λ_ _=>b5|some st=>A3 S (jV S ds k) st
structure DefAt(K:Yx)(mg:Str->Option Value)(x:Str)(st:Stmt):Prop where
 ex:∃f fd,Fun K x x st f fd/\mg x=b0 (.ref f)/\Binds K fd (dY st) []
structure TxtOk(P:Y4)(w:Zk)(K:Yx)(mg:Str->Option Value)(S:Sig)(ds:List (Str×Stmt)):Prop where
 fns:∀x n,S.fn.lookup x=b0 n->∃st,ds.lookup x=b0 st/\(dY st).length=n
 defs:∀x st,ds.lookup x=b0 st->DefAt K mg x st/\nF st=d7
 con:∀x d,S.con.lookup x=b0 d->∃v u,mg x=b0 u/\RelV v u/\∀π n H,IsD K π n H v d
 tab:∀x kvs,S.tab.lookup x=b0 kvs->∃(p:Addr)(vs:List (bG×V))(ws:List (bG×Value)),mg x=b0 (.ref p)/\(p==Z3)=dI/\(∀h:ZX,K.In h->h.DictOf (gQ P w) p ws)/\KV vs ws/\∀π n H,IsKs K π n H vs kvs
 no:∀x,S.no.contains x=d7->mg x=b5
def Gu(h:ds.lookup x=b0 st):lk S ds x=b0 st:=by unfold lk;rw[h]
def TxtOk.sc(T:TxtOk P w K mg S ds)(h:lk S ds x=b0 st):nF st=true:=(T.defs _ _ h).2
def TC(T:TxtOk P w K mg S ds)k:∀x st G q f j,lk S ds x=b0 st->Fun K G q st f j->
  FnOk P w K mg base f7 k f j (dY st) (jL K (dY st).length<|jV S ds k x):=by
 induction k using Nat.strongRecOn with
 |_ k l=>
 intro x st G q f j z N;cases k with
 |zero=>show⟨λvs H Q E h=>h.1,λA outer s H r us vs Q E B he hb hv X=>by
   obtain⟨_,π,L,μ,d,μ',R,i,U,kc⟩:=X;cases U⟩
 |succ k=>
  have Z:=l k<|a0x k;have e:jV S ds (k+1) x=A3 S (jV S ds k) st:=by change(match lk S ds x with|none=>_|some st=>A3 S (jV S ds k) st)=_;rw[z]
  rw[e];have c:=TB<|T.sc z;show Ot N c (by unfold nE;simp) rfl λg A outer s H E B=>?_;have O:Okx S (jV S ds k) k ⟨nE st,(cQ st).names⟩ (lE f7 P w K mg base (nE st) q (cQ st) f g A outer s H E).nox:=by
   show⟨rfl,c.nd,rfl,c.kind,rfl,B,a7u,λy n Y=>?_,T.con,λy o q=>⟨T.tab y o q⟩,T.no
    ⟩
   .obtain⟨a,v,M⟩:=T.fns y n Y;obtain⟨u,b,p,m',I⟩:=(T.defs y a v).1.ex;subst M;show⟨u,b,dY a,Z y a _ _ u b (Gu v) p,m',p.kp,I⟩
  show nD (Gp O (λ_=>rfl) Gq Gs)<|fS st
def TF(T:TxtOk P w K mg S ds)k x st f a(c:ds.lookup x=b0 st)(b:Fun K x x st f a):
  FnOk P w K mg base f7 k f a (dY st) (jL K (dY st).length<|jV S ds k x):=TC T k x st x x f a (Gu c) b
def Gv:∀{ns:List Int}{b},a3w (ns.map a3g)<=b->∀n∈ns,Zw n<=b
 |[],_,_,n,a=>nomatch a|m::ns,b,h,n,a=>by
  have e:a3w ((m::ns).map a3g)=a5J (.int m)+1+a3w (ns.map a3g):=rfl;have c:a5J (.int m)=Zw m:=rfl;rw[e,c]at h;rcases Zm.mp a with rfl|a
  .lia
  .show Gv (b:=b) ⋯ n a
section
open PySem PySem.W PySem.Calls PyProof.Rows
def TH{l:a7W}(U:l.most=b0 n)(x:d.params.defaults=[])(call:∀w s₀ b mg A g o B p c a(vs:gw)ns,
   Ground q loose [] XP w s₀ mg A b.heap->YP w b.heap->
   b.heap.get? g=b0 o->o.data=.func (docDef d.name d.params d.body d.scope B p c)->b.heap.CodeRec p d.name->mg d.name=b0 (.ref g)->
   b.heap.get? a=b0 {cls:=.type "list",data:=.seq vs.toArray}->a2B vs ns->ns.length<=n->(∀m∈ns,Zw m<=2^20)->b.gens=#[]->
   a2y (Y5 l.prog w) a5V (.call (.ref g) ⟨[.ref a],[]⟩) (λr s=>r=.ok (.ret<|.bool d7)/\OldK b.heap s.heap/\s.os=b.os/\a5l s.gens) b):
  a8H q loose XP YP l.row.toRowW d [] (λf vs=>b0d f vs):=by
 intro w s₀ b mg A G Y g o B p c K kV X hd v H y Q E I as k h hrd z R;obtain rfl:K=.none:=Dflts.none H x;obtain rfl:kV=.none:=Dflts.noKw H;obtain⟨a,vs,ns,rfl,rfl,j,e,i⟩:=Att.script_of U k z;have O:∀m∈ns,Zw m<=2^20:=by
  have u:a5w (.list<|ns.map a3g)=true:=by have:=h;unfold b0e at this;simpa using this
  unfold a5w at u;rw[YK]at u;show Gv<|of_decide_eq_true u.2
 show enter_call<|a5U (call w s₀ b mg A g o B p c a vs ns G Y X (fd_plain hd) v y j e i O Q) λr s Z=>?_;obtain⟨rfl,L,M,N⟩:=Z;show⟨.inl ⟨.bool d7,.bool d7,[],rfl,λ_=>rfl,.bool d7,Att.post_true l _,λ_=>⟨a4o,λ_ T=>(nomatch T)⟩⟩,L,M,N⟩
end
def walkM{l:a7W}{K:a0I->Yx}(hn:l.most=b0 63)(L:d.params.defaults=[])(hr:Room k a5V)(hY:∀w h,YP w h->(K w.params).In h)(hl:ds.lookup d.name=b0 st)(hx:dY st=[x])(T:∀w mg h,(K w.params).In h->h.Ns a0j mg->TxtOk l.prog w (K w.params) mg S ds/\∃f E,Fun (K w.params) d.name d.name st f E/\mg d.name=b0 (.ref f)/\∀s u,a6f s E ⟨[u],[]⟩ [(x,u)])(M:∀b:List Int,b.length<=63->(∀m∈b,Zw m<=2^20)->∃p,jV S ds k d.name [.rol<|b.map D.int] []=b0 (.bl d7,p)):
  a8H q loose XP YP l.row.toRowW d [] (λf vs=>b0d f vs):=by
 show TH hn L λw X Z mg mb fa o pm cd doc a vs b G Y ho hd hcd O A g c I hg=>?_;have R:=hY w _ Y;obtain⟨hT,f,E,hF,U,hb⟩:=T w mg _ R G.T.g;rw[O]at U;cases U;show L2.law_call (CX:=f7) (sp:=jL (K w.params) 1 (jV S ds k d.name)) R G.T.g G.T.b G.T.builtins G.T.nolimit hg A g (Zr c<|by decide) hr (λy hb1 hb2=>?_) hb (λH hO hS=>?_) λH e s' z=>z
 .have:=TF (base:=y) hT k d.name st fa E hl hF;rw[hx]at this;show this
 .obtain⟨p,hM⟩:=M b c I;have Q:RoL (K w.params) H a (b.map V.int):=by
   rcases hS with(h|h)|h
   .rcases hO a with z|⟨o,B,z⟩
    .rw[z]at h;cases h
    .rw[z]at h;cases h
   .show .inl h
   .show .inr h
  show⟨rfl,λ_=>0,[.rol<|b.map D.int],[],.bl d7,p,⟨λi j N=>absurd N<|a6b _,λi N=>absurd N<|a6b _,λi B h=>(by cases h),λi B h=>(by cases h),λi B h=>(by cases h)
   ,λi B h=>(by cases h)
   ,λi B h=>(by cases h)
   ⟩,.cons (.rol Q ?_) .nil,hM,λπ' v H' _ _ hv=>?_⟩
  .have:∀b:List Int,IsDs (K w.params) (λ_=>0) ([]:Hm).length H (b.map V.int) (b.map D.int):=λb=>by
    induction b with
    |nil=>show .nil|cons n r ih=>show .cons (.int n) ih
   show this b
  .cases hv;rfl
end L3
namespace L3
open PySem L2
def sX{a:Type}:∀{l:List (Str×a)}{x}{b},l.lookup x=b0 b->(x,b)∈l:=λh=>Z9 h
def TJ{S:Sig}{ds:List (Str×Stmt)}(h:(S.fn.all λp=>match ds.lookup p.1 with|some st=>decide ((dY st).length=p.2)|none=>dI)=d7):∀x n,S.fn.lookup x=b0 n->∃st,ds.lookup x=b0 st/\(dY st).length=n:=by
 intro x n e;have:=a2q.mp h (x,n)<|sX e;dsimp only at this;split at this
 .rename_i st a;show⟨st,a,of_decide_eq_true this⟩
 .cases this
def TK{ds:List (Str×Stmt)}(h:∀p∈ds,DefAt K mg p.1 p.2/\nF p.2=d7):∀x st,ds.lookup x=b0 st->DefAt K mg x st/\nF st=true:=λx st e=>h (x,st)<|sX e
def TL{mg:Str->Option Value}{a:List (Str×D)}(h:∀p∈a,∃v u,mg p.1=b0 u/\RelV v u/\∀π n H,IsD K π n H v p.2):∀x d,a.lookup x=b0 d->∃v u,mg x=b0 u/\RelV v u/\∀π n H,IsD K π n H v d:=λx d e=>h (x,d)<|sX e
def TM{mg:Str->Option Value}{ts:List (Str×List (bG×D))}(h:∀t∈ts,∃(p:Addr)(vs:List (bG×V))(ws:List (bG×Value)),mg t.1=b0 (.ref p)/\(p==Z3)=dI/\(∀h,K.In h->h.DictOf (gQ P w) p ws)/\KV vs ws/\∀π n H,IsKs K π n H vs t.2):
  ∀x a,ts.lookup x=b0 a->∃(p:Addr)(vs:List (bG×V))(ws:List (bG×Value)),mg x=b0 (.ref p)/\(p==Z3)=dI/\(∀h,K.In h->h.DictOf (gQ P w) p ws)/\KV vs ws/\∀π n H,IsKs K π n H vs a:=λx a e=>h (x,a)<|sX e
inductive EntsOf (w:Zk):List DictEntry->List (bG×Value)->Prop where
 |nil:EntsOf w [] []
 |cons {e:DictEntry}{k:bG}{v:Value}{es:List DictEntry}{kvs:List (bG×Value)}(h:k7 k e.key=d7)(hh:e.hash=B7 w k)(hv:e.val=v)(t:EntsOf w es kvs):EntsOf w (e::es)<|(k,v)::kvs
def EntsOf.pairs(x:EntsOf w es kvs):Pairs (gQ P w) es kvs:=by
 induction x with
 |nil=>show .nil|cons h c a _ b=>show .cons h a b
def EntsOf.keys(x:EntsOf w es kvs):∀e∈es,∃k,(gQ P w).is k e.key=d7/\e.hash=(gQ P w).hash k:=by
 induction x with
 |nil=>intro e a;show nomatch a|@cons e k v es kvs h c g _ d=>
  intro b a;rcases Zm.mp a with rfl|a
  .show⟨k,h,c⟩
  .show d b a
def TN{h:ZX}(b:h.get? p=b0 {cls:=.type "dict",data:=.dict es.toArray ep})(x:EntsOf w es kvs)(d:ks.Nodup)(c:kvs.map (·.1)=ks):h.DictOf (gQ P w) p kvs:=
 ⟨_,es.toArray,ep,b,⟨rfl,rfl,rfl⟩,rfl,λe a=>x.keys e<|by simpa using a,by simpa using x.pairs,c▸d⟩
def Gw x t:k7 (.inr x) (.str x t)=true:=by simp[k7,a6u]
def TQ{mg:Str->Option Value}{ns:List Str}(h:∀x∈ns,mg x=b5):∀x,ns.contains x=d7->mg x=none:=λx e=>h x<|by simpa using e
abbrev wH:Nat->(Nat->Value)->gw
 |0,_=>[]|n+1,u=>u 0::wH n λi=>u<|i+1
def Gx:∀us,∃u,us=wH us.length u
 |[]=>⟨λ_=>.none,rfl⟩|v::us=>let⟨u,a⟩:=Gx us;⟨λi=>match i with|0=>v|i+1=>u i,congrArg (v::·) a⟩
noncomputable abbrev Gy:Type:=Value->Value->Value->Option Addr->Value->Value->(Nat->Value)->a7e (List<|Str×Value)
abbrev TR(x:Str)(st:Stmt)(m:Value)(c:Addr):Obj:=⟨Y8 "function",b5,.func<|a0M x x (iV st) (fS st) (cQ st) .none .none .none m b5 (.ref c) .none,#[]⟩
abbrev Gz(K:Yx)(d:(Str×Stmt)×Value×Addr×Addr):Option (Option Value)×Option Obj×Bool×Bool×Bool×Gy:=(a3n K a0j d.1.1,K.lookup d.2.2.2,a4j K (.ref d.2.2.1) d.1.1,a0L K<|.ref d.2.2.2,nF d.1.2,λkV b c an a ct u=>a8W (a0M d.1.1 d.1.1 (iV d.1.2) (fS d.1.2) (cQ d.1.2) .none kV b c an a ct) ⟨wH (dY d.1.2).length u,[]⟩)
abbrev GA(d:(Str×Stmt)×Value×Addr×Addr):Option (Option Value)×Option Obj×Bool×Bool×Bool×Gy:=(b0<|b0<|.ref d.2.2.2,b0<|TR d.1.1 d.1.2 d.2.1 d.2.2.1,d7,d7,d7,λ_ _ _ _ _ _ u=>pure<|(dY d.1.2).zip<|wH (dY d.1.2).length u)
abbrev wI(K:Yx)(d:Str×Stmt):(Str×Stmt)×Value×Addr×Addr:=(d,match a3n K a0j d.1 with
 |some (b0<|.ref f)=>(match K.lookup f with
  |some ⟨_,_,.func fd,_⟩=>(match fd.code with
   |.ref c=>(fd.pyModule,c,f)
   |_=>(.none,0,0))
  |_=>(.none,0,0))
 |_=>(.none,0,0))
abbrev wJ(K:Yx)(ds:List (Str×Stmt)):Prop:=ds.map (λd=>Gz K<|wI K d)=ds.map λd=>GA<|wI K d
def GB(X:K.In h)(G:h.Ns a0j mg)(q:wJ K ds):∀p∈ds,(DefAt K mg p.1 p.2/\nF p.2=d7)/\∃f i,Fun K p.1 p.1 p.2 f i/\mg p.1=b0 (.ref f)/\∀us:gw,us.length=(dY p.2).length->a8W i ⟨us,[]⟩=pure ((dY p.2).zip us):=by
 intro g o;have t:=a8A.mp q g o;have e:(wI K g).1=g:=rfl;generalize wI K g=d at t e;obtain⟨p,m,c,f⟩:=d;cases e;unfold Gz GA at t;obtain⟨a,t⟩:=a0W t;obtain⟨l,t⟩:=a0W t;obtain⟨c,t⟩:=a0W t;obtain⟨k,t⟩:=a0W t;obtain⟨s,b⟩:=a0W t;have F:=LC (st:=p.2) l c k;have D:=λkV doc pm an cdv ct (us:gw)(n:us.length=(dY p.2).length)=>(by
  obtain⟨u,j⟩:=Gx us;rw[n]at j;rw[j];show congrFun (congrFun (congrFun (congrFun (congrFun (congrFun (congrFun b kV) doc) pm) an) cdv) ct) u:a8W (a0M p.1 p.1 (iV p.2) (fS p.2) (cQ p.2) .none kV doc pm an cdv ct) ⟨us,[]⟩=pure ((dY p.2).zip us))
 show⟨⟨⟨_,_,F,a4y X G a,Binds.all<|D _ _ _ _ _ _⟩,s⟩,_,_,F,a4y X G a,D _ _ _ _ _ _⟩
def TU(X:K.In h)(G:h.Ns a0j mg)(q:wJ K ds)(c:ds.lookup x=b0 st)(d:dY st=[y]):∃f a,Fun K x x st f a/\mg x=b0 (.ref f)/\∀s u,a6f s a ⟨[u],[]⟩ [(y,u)]:=by obtain⟨f,a,F,m,b⟩:=(GB X G q (x,st)<|sX c).2;dsimp only at b;rw[d]at b;show⟨f,a,F,m,λs u=>.of_eq<|b [u] rfl⟩
def TV(X:K.In h)(G:h.Ns a0j mg){ns:List Str}(q:ns.map (a3n K a0j)=ns.map λ_=>b0 b5):∀x∈ns,mg x=none:=λx a=>PySem.W.mg_none_of X G<|a8A.mp q x a
abbrev sY{c d:Type}(f:c->d->Bool):List c->List d->Bool
 |[],[]=>d7|a::as,b::bs=>f a b&&sY f as bs|_,_=>dI
abbrev sZ(K:Yx):Nat->Value->D->Bool
 |0,_,_=>dI|k+1,u,d=>match d with
  |.non=>(match u with|.none=>d7|_=>dI)|.bl b=>(match u with|.bool c=>decide (b=c)|_=>dI)|.int i=>(match u with|.int j _=>decide (i=j)|_=>dI)|.str x=>(match u with|.str y _=>decide (x=y)|_=>dI)
  |.tup ds=>(match u with
   |.ref p=>(match K.lookup p with
    |some ⟨.type t,b5,.seq its _,_⟩=>decide (t="tuple")&&decide (its.size<=1000)&&sY (sZ K k) its.toList ds
    |_=>dI)
   |_=>dI)
  |.rol ds=>(match u with
   |.ref p=>(match K.lookup p with
    |some ⟨.type t,b5,.seq its _,_⟩=>decide (t="list")&&decide (its.size<=1000)&&sY (sZ K k) its.toList ds
    |_=>dI)
   |_=>dI)
  |_=>dI
def GC(h:∀u d,f u d=d7->∃v,RelV v u/\∀π n H,IsD K π n H v d):∀us ds,sY f us ds=d7->∃vs,Vals vs us/\∀π n H,IsDs K π n H vs ds
 |[],[],_=>⟨[],.nil,λ_ _ _=>.nil⟩|u::us,d::ds,e=>by obtain⟨a,b⟩:=a1G.mp e;obtain⟨v,r,q⟩:=h u d a;obtain⟨vs,g,c⟩:=GC h us ds b;show⟨v::vs,.cons r g,λ_ _ _=>.cons (q _ _ _)<|c _ _ _⟩
 |[],_::_,e=>nomatch e|_::_,[],e=>nomatch e
def GD:∀k u d,sZ K k u d=d7->∃v,RelV v u/\∀π n H,IsD K π n H v d
 |0,_,_,e=>nomatch e|k+1,u,d,e=>by
  have seq:∀{p:Addr}{ds:List D}{c:String},(match K.lookup p with|some ⟨.type t,b5,.seq g _,_⟩=>decide (t=c)&&decide (g.size<=1000)&&sY (sZ K k) g.toList ds|_=>dI)=d7->∃h g n l,K.lookup p=b0 ⟨.type c,b5,.seq g n,l⟩/\g.size<=YM/\Vals h g.toList/\∀π n H,IsDs K π n H h ds:=λ{p ds c} e=>by
   split at e
   .rename_i t g n l j;obtain⟨e,q⟩:=a1G.mp e;obtain⟨a,b⟩:=a1G.mp e;cases of_decide_eq_true a;obtain⟨h,r,i⟩:=GC (GD k) _ _ q;show⟨h,g,n,l,j,Zr (of_decide_eq_true b)<|by decide,r,i⟩
   .cases e
  cases d with
  |non=>cases u with
   |none=>show⟨.non,rfl,λ_ _ _=>.non⟩|_=>cases e
  |bl b=>cases u with
   |bool c=>cases of_decide_eq_true e;show⟨.bl b,rfl,λ_ _ _=>.bl _⟩|_=>cases e
  |int b=>cases u with
   |int c=>cases of_decide_eq_true e;show⟨.int b,⟨_,rfl⟩,λ_ _ _=>.int _⟩|_=>cases e
  |str b=>cases u with
   |str c=>cases of_decide_eq_true e;show⟨.str b,⟨_,rfl⟩,λ_ _ _=>.str _⟩|_=>cases e
  |tup ds=>cases u with
   |ref p=>obtain⟨h,g,n,l,j,o,r,i⟩:=seq e;show⟨.ref p,rfl,λ_ _ _=>.tup (vs:=h) (.inr ⟨_,g,n,j,rfl,rfl,rfl,o,r⟩)<|i _ _ _⟩|_=>cases e
  |rol ds=>cases u with
   |ref p=>obtain⟨h,g,n,l,j,o,r,i⟩:=seq e;show⟨.ref p,rfl,λ_ _ _=>.rol (vs:=h) (.inr ⟨_,g,n,j,rfl,rfl,rfl,o,r⟩)<|i _ _ _⟩|_=>cases e
  |_=>cases e
abbrev GF(K:Yx)(a:List (Str×D)):Bool:=a.all λc=>match a3n K a0j c.1 with|some (b0 u)=>sZ K 8 u c.2|_=>dI
def TX(X:K.In h)(G:h.Ns a0j mg)(q:GF K a=d7):∀p∈a,∃v u,mg p.1=b0 u/\RelV v u/\∀π n H,IsD K π n H v p.2:=λp b=>by
 have t:=a2q.mp q p b;split at t
 .rename_i u c;obtain⟨v,r,i⟩:=GD _ _ _ t;show⟨v,u,a4y X G c,r,i⟩
 .cases t
abbrev W{a:Type}(o:Option a)(Q:a->Prop):Prop:=∃r,o=b0 r/\Q r
def W_some{r:α}{Q:α->Prop}:W (b0 r) Q↔Q r:=⟨λ⟨_,h,q⟩=>by cases h;show q,λq=>⟨r,rfl,q⟩⟩
def W_none{Q:α->Prop}:W b5 Q↔False:=⟨λ⟨_,h,_⟩=>(by cases h),λh=>h.elim⟩
def W_bind{o:Option α}{g:α->Option β}{Q:β->Prop}:W (o.bind g) Q↔W o λr=>W (g r) Q:=by
 cases o with
 |none=>show⟨λ⟨_,h,_⟩=>(by cases h),λ⟨_,h,_⟩=>(by cases h)⟩|some a=>simp[W_some]
def jC{o:Option α}{g:α->β}{Q:β->Prop}:W (o.map g) Q↔W o λr=>Q (g r):=by
 cases o with
 |none=>show⟨λ⟨_,h,_⟩=>(by cases h),λ⟨_,h,_⟩=>(by cases h)⟩|some a=>simp[W_some]
def bN{o:Option α}{Q:α->Prop}{a:α->Prop}(h:W o Q)(k:∀r,Q r->a r):W o a:=let⟨r,e,q⟩:=h;⟨r,e,k r q⟩
def wK{Q:α->Prop}[Decidable c]{a b:Option α}:W (if c then a else b) Q↔if c then W a Q else W b Q:=by split<;>rfl
abbrev fin:Option (Fl×aF×Hm)->jk:=λo=>o.bind λp=>match p.1 with|.rt d=>b0 (d,p.2.2)|.nx=>b0 (.non,p.2.2)|_=>b5
def W_fin{Q:jz}:W (fin o) Q↔W o λp=>match p.1 with|.rt d=>Q (d,p.2.2)|.nx=>Q (.non,p.2.2)|_=>False:=by
 unfold fin;rw[W_bind];constructor
 .show λh=>bN h λp q=>by obtain⟨a,c,b⟩:=p;cases a<;>simpa[W_some,W_none]using q
 .show λh=>bN h λp q=>by obtain⟨a,c,b⟩:=p;cases a<;>simpa[W_some,W_none]using q
def aJ{b μ':Hm}(h:b<+:μ'){a:Nat}(e:b[a]?=b0 c):μ'[a]?=b0 c:=by obtain⟨t,rfl⟩:=h;have d:=(Yy.mp e).1;rw[Ze d];show e
def aR(a:Hm)(c:C):a<+:a++[c]:=⟨[c],rfl⟩
def dB{b μ':Hm}(h:b<+:μ')(d:b.length<=a)c:b<+:μ'.set a c:=by obtain⟨t,rfl⟩:=h;rw[a2Y _ _ d];show⟨_,rfl⟩
def w_mSeq{Q}:W (aH a b d c) Q↔W (a d c) λp=>match p.1 with|.nx=>W (b p.2.1 p.2.2) Q|_=>Q p:=by
 unfold aH;rw[W_bind];constructor
 .show λh=>bN h λp q=>by obtain⟨e,d,c⟩:=p;cases e<;>simpa[W_some,W_none]using q
 .show λh=>bN h λp q=>by obtain⟨e,d,c⟩:=p;cases e<;>simpa[W_some,W_none]using q
def w_mRet{Q}:W (aN m a b) Q↔W (m a b) λp=>Q (.rt p.1,a,p.2):=jC
def w_mDrop{Q}:W (cW m a b) Q↔W (m a b) λp=>Q (.nx,a,p.2):=jC
def w_mSet{Q}:W (aL i m a b) Q↔W (m a b) λp=>Q (.nx,a.set i<|b0 p.1,p.2):=jC
def w_mNext{Q}:W (bE b a) Q↔Q (.nx,b,a):=W_some
def w_mIfS{Q}:W (bC t a b c d) Q↔W (t c d) λp=>if p.1=d7 then W (a c p.2) Q else W (b c p.2) Q:=by unfold bC;rw[W_bind];constructor<;>show λh=>bN h λp q=>by obtain⟨x,d⟩:=p;cases x<;>simpa using q
def w_mIfE{Q}:W (kG t a b c d) Q↔W (t c d) λp=>if p.1=d7 then W (a c p.2) Q else W (b c p.2) Q:=by unfold kG;rw[W_bind];constructor<;>show λh=>bN h λp q=>by obtain⟨x,d⟩:=p;cases x<;>simpa using q
def w_mAndT{Q}:W (eD a b d c) Q↔W (a d c) λp=>if p.1=d7 then W (b d p.2) Q else Q (dI,p.2):=by unfold eD;rw[W_bind];constructor<;>show λh=>bN h λp q=>by obtain⟨x,c⟩:=p;cases x<;>simpa[W_some]using q
def w_mOrT{Q}:W (gR a b d c) Q↔W (a d c) λp=>if p.1=d7 then Q (d7,p.2)else W (b d p.2) Q:=by unfold gR;rw[W_bind];constructor<;>show λh=>bN h λp q=>by obtain⟨x,c⟩:=p;cases x<;>simpa[W_some]using q
def w_mNotT{Q}:W (fJ a c b) Q↔W (a c b) λp=>Q (!p.1,p.2):=jC
def w_mOp{Q}:W (aC f a b c d) Q↔W (a c d) λp=>W (b c p.2) λq=>W (f p.1 q.1 q.2) Q:=by unfold aC;rw[W_bind];simp only[W_bind]
def iK{Q}:W (mC d b a) Q↔Q (d,a):=W_some
def eK{b:aF}{Q}:W (aA 0 (b0 d::b) a) Q↔Q (d,a):=by change W (b0 (d,a)) Q↔_;show W_some
def gN{b:aF}{Q}:W (aA (i+1) (x::b) a) Q↔W (aA i b a) Q:=by unfold aA;rw[List.getElem?_cons_succ]
def fX{Q}:W (aD b a) Q↔Q ([],a):=W_some
def w_mCons{Q}:W (aB a r b c) Q↔W (a b c) λp=>W (r b p.2) λq=>Q (p.1::q.1,q.2):=by unfold aB;simp only[W_bind,W_some]
def w_mTup{Q}:W (aZ ms b a) Q↔W (ms b a) fun p=>p.1.length<=YM/\Q (.tup p.1,p.2):=by
 unfold aZ
 rw [W_bind]
 constructor<;>show fun h=>bN h fun p q=>by
  first
  | (rw [wK] at q;split at q
     .show ⟨by assumption,W_some.mp q⟩
     .show (W_none.mp q).elim)
  | (rw [if_pos q.1];show W_some.mpr q.2)
def w_mLst{Q}:W (bZ ms b a) Q↔W (ms b a) fun p=>p.1.length<=YM/\Q (.loc p.2.length,p.2++[.lst p.1]):=by
 unfold bZ
 rw [W_bind]
 constructor<;>show fun h=>bN h fun p q=>by
  first
  | (rw [wK] at q;split at q
     .show ⟨by assumption,W_some.mp q⟩
     .show (W_none.mp q).elim)
  | (rw [if_pos q.1];show W_some.mpr q.2)
def w_mCall{Q}:W (aG f ms b a) Q↔W (ms b a) fun p=>W (f p.1 p.2) Q:=W_bind
def w_mTest{Q}:W (aO m c a) Q↔W (m c a) λp=>match p.1 with|.bl b=>Q (b,p.2)|_=>False:=by unfold aO;rw[W_bind];constructor<;>show λh=>bN h λp q=>by obtain⟨d,a⟩:=p;cases d<;>simpa[W_some,W_none]using q
def w_mTru{Q}:W (c7 m c a) Q↔W (m c a) λp=>W (mN p.2 p.1) λb=>Q (b,p.2):=by unfold c7;simp only[W_bind,jC]
def TY{Q}:W (fA a c b) Q↔W (a c b) λp=>match p.1 with|.int i=>Q (.int<|-i,p.2)|_=>False:=by unfold fA;rw[W_bind];constructor<;>show λh=>bN h λp q=>by obtain⟨d,b⟩:=p;cases d<;>simpa[W_some,W_none,jC,yT]using q
def w_mNotV{Q}:W (mI a e c) Q↔W (a e c) λp=>match p.1 with|.bl b=>Q (.bl<|!b,p.2)|_=>False:=by unfold mI;rw[W_bind];constructor<;>show λh=>bN h λp q=>by obtain⟨d,c⟩:=p;cases d<;>simpa[W_some,W_none]using q
def w_mAndV{Q}:W (eN a b g e) Q↔W (a g e) λp=>match p.1 with|.bl c=>if c=d7 then W (b g p.2) Q else Q (.bl dI,p.2)|_=>False:=by
 unfold eN;rw[W_bind];constructor<;>show λh=>bN h λp q=>by
  obtain⟨d,e⟩:=p;cases d with
  |bl c=>cases c<;>simpa[W_some]using q|_=>simpa[W_none]using q
def w_mAsg{Q}:W (jQ m g a c) Q↔W (m a c) λp=>W (g p.1 a p.2) λb=>Q (.nx,b,p.2):=by unfold jQ;simp only[W_bind,jC]
def w_addI{Q:jz}:W (bD (.int i) (.int j) μ) Q↔Q (.int<|i+j,μ):=W_some
def w_subI{Q:jz}:W (cX (.int i) (.int j) μ) Q↔Q (.int<|i-j,μ):=W_some
def dM{Q:jz}(h:0<j):W (aW (.int i) (.int j) μ) Q↔Q (.int<|i%j,μ):=by change W ((if 0<j then b0 (i%j)else b5).map λz=>(D.int z,μ)) Q↔_;rw[if_pos h];show W_some
def TZ:(1073741824:Int)<2^4000:=by decide +kernel
def T1{Q:jz}(h:0<j)(k:j<2^4000):W (c6 (.int i) (.int j) μ) Q↔Q (.int<|i/j,μ):=by change W ((if 0<j/\j<2^4000 then b0 (i/j)else b5).map λz=>(D.int z,μ)) Q↔_;rw[if_pos ⟨h,k⟩];show W_some
def tB{Q:jz}(h:0<j)(k:j<1073741824):W (c6 (.int i) (.int j) μ) Q↔Q (.int<|i/j,μ):=T1 h<|Int.lt_trans k TZ
def nG{Q:jz}(h:(-(2^64)<i/\i<2^64)\/(-(2^64)<j/\j<2^64)):W (cL (.int i) (.int j) μ) Q↔Q (.int<|i*j,μ):=by change W ((if((-(2^64)<i/\i<2^64)\/(-(2^64)<j/\j<2^64))\/(i.natAbs<2^4000/\j.natAbs<2^4000)\/Zw i+Zw j<=134217728 then b0 (i*j)else b5).map λz=>(D.int z,μ)) Q↔_;rw[if_pos<|.inl h];show W_some
def w_eqI{Q:jz}:W (aU dI (.int i) (.int j) μ) Q↔Q (.bl<|i==j,μ):=W_some
def w_neI{Q:jz}:W (aU d7 (.int i) (.int j) μ) Q↔Q (.bl<|!(i==j),μ):=W_some
def w_ltI{Q:jz}:W (dO (.int i) (.int j) μ) Q↔Q (.bl<|decide<|i<j,μ):=W_some
def w_leI{Q:jz}:W (pL (.int i) (.int j) μ) Q↔Q (.bl<|decide<|i<=j,μ):=W_some
def w_gtI{Q:jz}:W (kJ (.int i) (.int j) μ) Q↔Q (.bl<|decide<|j<i,μ):=W_some
def w_geI{Q:jz}:W (rM (.int i) (.int j) μ) Q↔Q (.bl<|decide<|j<=i,μ):=W_some
def qJ{Q:jz}:W (aE (.tup [a,b]) (.int 0) μ) Q↔Q (a,μ):=W_some
def w_it21{Q:jz}:W (aE (.tup [a,b]) (.int 1) μ) Q↔Q (b,μ):=W_some
def T3{Q:jz}:W (aE (.tup [a,b,c,d,e,g]) (.int 0) μ) Q↔Q (a,μ):=W_some
def T4{Q:jz}:W (aE (.tup [a,b,c,d,e,g]) (.int 1) μ) Q↔Q (b,μ):=W_some
def T5{Q:jz}:W (aE (.tup [a,b,c,d,e,g]) (.int 2) μ) Q↔Q (c,μ):=W_some
def T6{Q:jz}:W (aE (.tup [a,b,c,d,e,g]) (.int 3) μ) Q↔Q (d,μ):=W_some
def T7{Q:jz}:W (aE (.tup [a,b,c,d,e,g]) (.int 4) μ) Q↔Q (e,μ):=W_some
def T8{Q:jz}:W (aE (.tup [a,b,c,d,e,g]) (.int 5) μ) Q↔Q (g,μ):=W_some
def w_truB:W (mN μ<|.bl b) Q↔Q b:=W_some
def w_gTup2:W (eW [i,j] (.tup [a,b]) h μ) Q↔Q ((h.set i<|b0 a).set j<|b0 b):=W_some
def fN{Q:jz}(h:b[a]?=b0 (.lst xs))(c:atI xs i=b0 d):W (aE (.loc a) (.int i) b) Q↔Q (d,b):=by
 have:aE (.loc a) (.int i) b=b0 (d,b):=by simp only[aE,iC,bJ,h,Y9,c,Zh]
 rw[this];show W_some
def w_iSeq:W (bV m b a) Q↔W (m b a) λp=>W (kL p.2 p.1) λxs=>Q (dQ p.1,xs.length+1,p.2):=by unfold bV;simp only[W_bind,jC]
def w_mForI{Q}:W (b8 c g b a d) Q↔W (c a d) λp=>W (eQ p.1 g b p.2.1 0 a p.2.2) Q:=W_bind
def oU{j:Int}:W (gW ms e c) Q↔W (ms e c) fun p=>match p.1 with|[.int j]=>(-(2 ^ 62)<=j/\j<2 ^ 62)/\Q (jO 0 j.toNat,j.toNat+1,p.2)|_=>False:=by
 unfold gW
 rw [W_bind]
 constructor<;>show fun h=>bN h fun p q=>by
  obtain ⟨l,c⟩:=p
  match l,q with
  | [],q=>simpa [W_none] using q
  | [d],q=>
   cases d with
   | int j=>
    first
    | (dsimp only at q;rw [wK] at q;split at q
       .rename_i g;show ⟨g,W_some.mp q⟩
       .show (W_none.mp q).elim)
    | (dsimp only;rw [if_pos q.1];show W_some.mpr q.2)
   | _=>simpa [W_none] using q
  | a::b::l,q=>simpa [W_none] using q
def w_iRng2:W (mM ms b a) Q↔W (ms b a) fun p=>match p.1 with|[.int i,.int j]=>(-(2 ^ 62)<=i/\i<2 ^ 62/\-(2 ^ 62)<=j/\j<2 ^ 62)/\Q (jO i (j - i).toNat,(j - i).toNat+1,p.2)|_=>False:=by
 unfold mM
 rw [W_bind]
 constructor<;>show fun h=>bN h fun p q=>by
  split at q
  .rename_i e
   try rw [e]
   first
   | (rw [wK] at q;split at q
      .rename_i c;show ⟨c,W_some.mp q⟩
      .show (W_none.mp q).elim)
   | ((try dsimp only);rw [if_pos q.1];show W_some.mpr q.2)
  .first
   | show (W_none.mp q).elim
   | show q.elim
def oV{j:eX}{b:MS}(I:Nat->aF->Hm->Prop)(go:∀ i c a,i<N->I i c a->∃ d k,j a i=b0 (b0 d)/\g d c a=b0 k/\W (b k a) fun p=>match p.1 with|.nx=>I (i+1) p.2.1 p.2.2|.ct=>I (i+1) p.2.1 p.2.2|.bk=>Q (.nx,p.2.1,p.2.2)|.rt d=>Q (.rt d,p.2.1,p.2.2))(e:∀ c a,I N c a->j a N=b0 b5/\Q (.nx,c,a)):∀m i c a,i+m=N->I i c a->W (eQ j g b (m+1) i c a) Q
 | 0,i,c,a,h,hI=>by
  have:i=N:=by lia
  subst this
  obtain ⟨o,r⟩:=e c a hI
  unfold eQ
  rw [o]
  show W_some.mpr r
 | m+1,i,c,a,h,hI=>by
  obtain ⟨d,k,o,r,u⟩:=go i c a ⋯ hI
  unfold eQ
  rw [o]
  simp only [Y9,r]
  rw [W_bind]
  show bN u fun p q=>?_
  obtain ⟨s,n,l⟩:=p
  cases s with
  | nx=>show oV I go e m (i+1) n l ⋯ q
  | ct=>show oV I go e m (i+1) n l ⋯ q
  | bk=>show W_some.mpr q
  | rt d=>show W_some.mpr q
def fP{b:MS}(I:Nat->aF->Hm->Prop)(o:I 0 h c)(n:∀i h c,I i h c->c[a]?=b0 (.lst xs))(go:∀i d h c,xs[i]?=b0 d->I i h c->∃j,g d h c=b0 j/\W (b j c) λp=>match p.1 with|.nx=>I (i+1) p.2.1 p.2.2|.ct=>I (i+1) p.2.1 p.2.2|.bk=>Q (.nx,p.2.1,p.2.2)|.rt d=>Q (.rt d,p.2.1,p.2.2))(l:∀h c,I xs.length h c->Q (.nx,h,c)):W (eQ (dQ<|.loc a) g b (xs.length+1) 0 h c) Q:=by
 show oV (N:=xs.length) I (λi h c u k=>?_) (λh c k=>⟨?_,l h c k⟩) xs.length 0 h c ⋯ o
 .have e:xs[i]?=b0 xs[i]:=Yz u;obtain⟨j,r,s⟩:=go i xs[i] h c e k;show⟨xs[i],j,?_,r,s⟩;simp only[dQ,kL,bJ,n i h c k,Zh,e]
 .simp only[dQ,kL,bJ,n _ h c k,Zh];simp
def wL(l:∀a,kL a x=b0 xs){b:MS}(I:Nat->aF->Hm->Prop)(n:I 0 c a)(go:∀i d c a,xs[i]?=b0 d->I i c a->∃h,g d c a=b0 h/\W (b h a) λp=>match p.1 with|.nx=>I (i+1) p.2.1 p.2.2|.ct=>I (i+1) p.2.1 p.2.2|.bk=>Q (.nx,p.2.1,p.2.2)|.rt d=>Q (.rt d,p.2.1,p.2.2))(j:∀c a,I xs.length c a->Q (.nx,c,a)):W (eQ (dQ x) g b (xs.length+1) 0 c a) Q:=by
 show oV (N:=xs.length) I (λi c a s k=>?_) (λc a k=>⟨?_,j c a k⟩) xs.length 0 c a ⋯ n
 .have e:xs[i]?=b0 xs[i]:=Yz s;obtain⟨h,o,r⟩:=go i xs[i] c a e k;show⟨xs[i],h,?_,o,r⟩;simp only[dQ,l,Zh,e]
 .simp only[dQ,l,Zh];simp
def lZ{b:MS}(I:Nat->aF->Hm->Prop)(l:I 0 c a)(go:∀i c a,i<n->I i c a->∃e,g (.int<|lo+i) c a=b0 e/\W (b e a) λp=>match p.1 with|.nx=>I (i+1) p.2.1 p.2.2|.ct=>I (i+1) p.2.1 p.2.2|.bk=>Q (.nx,p.2.1,p.2.2)|.rt d=>Q (.rt d,p.2.1,p.2.2))(h:∀c a,I n c a->Q (.nx,c,a)):W (eQ (jO lo n) g b (n+1) 0 c a) Q:=by
 show oV (N:=n) I (λi c a k j=>?_) (λc a j=>⟨?_,h c a j⟩) n 0 c a ⋯ l
 .obtain⟨e,o,r⟩:=go i c a k j;show⟨_,e,by simp only[jO,if_pos k],o,r⟩
 .simp only[jO,a0f,if_false]
def A4(h:c[a]?=b0 (.lst b))(d:b.length<YM):pN c a y=b0 (c.set a<|.lst<|b++[y]):=by unfold pN;rw[h];show if_pos d
def A5{w:eX}{g:Hm}{xs:List D}(z:∀a i,g<+:a->w a i=b0 xs[i]?)(I:xs.length<=YM)(hc:∀d a,d∈xs->g<+:a->W (c (H++[b0 d]) a) λr=>r.1=p d/\a<+:r.2)(A:∀d a,d∈xs->p d=d7->g<+:a->W (e (H++[b0 d]) a) λr=>r.1=v d/\a<+:r.2)(fin:∀a,g<+:a->a[g.length]?=b0 (.lst<|(xs.filter p).map v)->Q a):
  ∀m i(a:Hm),i+m=xs.length->g<+:a->a[g.length]?=b0 (.lst<|((xs.take i).filter p).map v)->W (iD w pO c e H g.length (m+1) i a) Q
 |0,i,a,hi,hp,ha=>by
  have:i=xs.length:=by lia
  subst this;unfold iD;rw[z a _ hp];rw[a0E<|YG _];simp only[Y9];show W_some.mpr<|fin a hp ?_;simpa using ha
 |m+1,i,a,hi,hp,ha=>by
  have s:i<xs.length:=by lia
  have K:xs[i]?=b0 xs[i]:=Yz s;have j:xs[i]∈xs:=ZU s;unfold iD;rw[z a _ hp,K];simp only[Y9,pO];rw[W_bind];show bN (hc _ a j hp) λr q=>?_;obtain⟨b,x⟩:=r;obtain⟨L,u⟩:=q;dsimp only at L u ⊢;subst L;have h:xs.take (i+1)=xs.take i++[xs[i]]:=by rw[a1r,K];rfl
  have l:=aJ u ha;cases k:p xs[i]with
  |false=>show A5 z I hc A fin m (i+1) x ⋯ (hp.trans u) ?_;rw[l,h,a1u];simp[k]|true=>
   dsimp only;rw[W_bind];show bN (A _ x j k<|hp.trans u) λr q=>?_;obtain⟨y,G⟩:=r;obtain⟨M,E⟩:=q;dsimp only at M E ⊢;subst M;have n:=aJ E l;have o:(((xs.take i).filter p).map v).length<YM:=by have N:=a0p p<|xs.take i;rw[Yu];rw[Zb]at N;lia
   rw[A4 n o,Y9];have B:g<+:G:=(hp.trans u).trans E;show A5 z I hc A fin m (i+1) _ ⋯ (dB B (YG _) _) ?_;rw[ZH (Yy.mp n).1,h,a1u];simp[k]
def fY{xs:List D}{Q:jz}(hit:W (w b x) λr=>(∀a i,r.2.2<+:a->r.1 a i=b0 xs[i]?)/\r.2.1=xs.length+1/\xs.length<=YM /\
   (∀d a,d∈xs->r.2.2<+:a->W (c (b++[b0 d]) a) λs=>s.1=p d/\a<+:s.2)/\(∀d a,d∈xs->p d=d7->r.2.2<+:a->W (e (b++[b0 d]) a) λs=>s.1=v d/\a<+:s.2) /\
   ∀a,r.2.2<+:a->a[r.2.2.length]?=b0 (.lst<|(xs.filter p).map v)->Q (.loc r.2.2.length,a)):W (eH w c e b x) Q:=by
 unfold eH eS;rw[W_bind];show bN hit λr q=>?_;obtain⟨y,n,g⟩:=r;obtain⟨h,j,k,l,o,u⟩:=q;dsimp only at h j k l o u ⊢;subst j;rw[jC];show A5 h k l o u xs.length 0 (g++[.lst []]) ⋯ (aR _ _)<|by simp
def iL{b:Hm}(h:b[a]?=b0 (.lst xs)):∀μ' i,b<+:μ'->dQ (.loc a) μ' i=b0 xs[i]?:=λμ' i c=>by simp only[dQ,kL,bJ,aJ c h,Zh]
def T9{a:Hm}:∀μ' i,a<+:μ'->dQ (.tup xs) μ' i=b0 xs[i]?:=λμ' i b=>rfl
abbrev iM(lo:Int)(n:Nat):List D:=(Zj n).map λ(i:Nat)=>.int<|lo+(i:Int)
def GG{a:Hm}:∀μ' i,a<+:μ'->jO lo n μ' i=b0 (iM lo n)[i]?:=λμ' i _=>by
 unfold jO iM;rw[YU];by_cases h:i<n
 .rw[if_pos h,a4M h];rfl
 .rw[if_neg h,a0E<|by simpa using a3I.mp h];rfl
noncomputable abbrev P(x y:Int):D:=.tup [.int x,.int y]
noncomputable abbrev PP(p:Int×Int):D:=P p.1 p.2
def GH n e p q:eE (n+2) e (PP p) (PP q)=b0 (p==q):=by obtain⟨a,b⟩:=p;obtain⟨c,d⟩:=q;change b0 (a==c&&(b==d&&d7))=b0 ((a,b)==(c,d));rw[a9F];rfl
def tD{Q:jz}(e:c[a]?=b0 (.lst xs))(g:c[b]?=b0 (.lst d))(h:xs.length+d.length<=YM):W (bD (.loc a) (.loc b) c) Q↔Q (.loc c.length,c++[.lst<|xs++d]):=by simp only[bD,e,g,if_pos h];show W_some
def eM{Q:jz}(h:W (b a c) λp=>pT p.2 p.1=d7/\W (ms a p.2) λq=>W (f p.1 q.1 q.2) Q):W (c5 f b ms a c) Q:=by unfold c5;rw[W_bind];show bN h λp q=>?_;rw[q.1];show W_bind.mpr q.2
def dZ(h:b[a]?=b0 (.lst xs)):pT b (.loc a)=true:=by simp only[pT,h]
def gO{Q:jz}(h:b[a]?=b0 (.lst xs))(c:xs.length<YM):W (eI (.loc a) [y] b) Q↔Q (.non,b.set a<|.lst<|xs++[y]):=by simp only[eI,A4 h c,Zh];show W_some
def wM{Q:jz}(h:c[a]?=b0 (.lst xs))(e:c[b]?=b0 (.lst d))(g:xs.length+d.length<=YM):W (lO (.loc a) [.loc b] c) Q↔Q (.non,c.set a<|.lst<|xs++d):=by simp only[lO,h,e,if_pos g];show W_some
def Ua{Q:jz}:W (f9 [.int i,.ty "bool"] a) Q↔Q (.bl dI,a):=W_some
def Ub{Q:jz}:W (f9 [.int i,.ty "int"] a) Q↔Q (.bl d7,a):=W_some
def Uc{Q:jz}(h:b[a]?=b0 (.lst xs)):W (f9 [.loc a,.ty "list"] b) Q↔Q (.bl d7,b):=by
 have:f9 [.loc a,.ty "list"] b=b0 (.bl d7,b):=by simp only[f9,uK,h,Y9];rfl
 rw[this];show W_some
def d8{Q:jz}(h:b[a]?=b0 (.lst xs)):W (bO [.loc a] b) Q↔Q (.int xs.length,b):=by simp only[bO,rN,bJ,h,Zh];show W_some
def w_lenR{Q:jz}:W (bO [.rol xs] a) Q↔Q (.int xs.length,a):=W_some
def cN(h:b[a]?=b0 (.lst xs)):W (kL b<|.loc a) Q↔Q xs:=by simp only[kL,bJ,h];show W_some
def w_seqT:W (kL a<|.tup xs) Q↔Q xs:=W_some
def GI{Q:jz}(h:W (a b i) λp=>∃l,p.1=.loc l/\W (lo b p.2) λq=>W (c b q.2) λr=>∃xs,r.2[l]?=b0 (.lst xs)/\Q (.loc r.2.length,r.2++[.lst<|kH xs q.1 r.1])):W (nV a lo c b i) Q:=by unfold nV;rw[W_bind];show bN h λp q=>?_;obtain⟨d,n⟩:=p;obtain⟨l,e,g⟩:=q;dsimp only at e g ⊢;subst e;rw[W_bind];show bN g λs q=>?_;rw[W_bind];show bN q λr q=>?_;obtain⟨xs,j,k⟩:=q;simp only[bJ,j,Y9];show W_some.mpr k
def bB(a:Hm)c:(a++[c])[a.length]?=b0 c:=by simp
def w_mChain{Q}:W (gG f g a b c e i) Q↔W (a e i) λp=>W (b e p.2) λq=>W (f p.1 q.1 q.2) λr=>match r.1 with|.bl k=>if k=d7 then W (c e r.2) λt=>W (g q.1 t.1 t.2) Q else Q (.bl dI,r.2)|_=>False:=by
 unfold gG;simp only[W_bind];constructor<;>show λh=>bN h λp q=>bN q λn l=>bN l λr j=>by
  obtain⟨d,i⟩:=r;cases d with
  |bl k=>cases k<;>simpa[W_some,W_bind]using j|_=>simpa[W_none]using j
def w_isNN{Q:jz}:W (eY dI .non .non μ) Q↔Q (.bl d7,μ):=W_some
def w_isnotNN{Q:jz}:W (eY d7 .non .non μ) Q↔Q (.bl dI,μ):=W_some
def w_isnotLN{Q:jz}:W (eY d7 (.loc a) .non μ) Q↔Q (.bl d7,μ):=W_some
def w_isnotTN{Q:jz}:W (eY d7 (.tup xs) .non μ) Q↔Q (.bl d7,μ):=W_some
def A6:∀a,pS (a.map D.int)=b0 a
 |[]=>rfl|i::a=>by change(pS<|a.map D.int).map (i::·)=_;rw[A6 a];rfl
def A7{Q:jz}{b:List Int}(h:μ[a]?=b0 (.lst<|b.map D.int)):W (jS [.loc a] μ) Q↔Q (.int b.sum,μ):=by simp only[jS,bJ,h,Y9,A6,Zh];show W_some
def Ud{Q:jz}{bs:List Bool}(h:μ[a]?=b0 (.lst<|bs.map D.bl)):W (uX [.loc a] μ) Q↔Q (.bl<|bs.all id,μ):=by
 have e:∀bs:List Bool,pU (bs.map D.bl)=b0 bs:=λbs=>by
  induction bs with
  |nil=>rfl|cons b bs c=>change(pU<|bs.map D.bl).map (b::·)=_;rw[c];rfl
 simp only[uX,bJ,h,Y9,e,Zh];show W_some
def GJ{Q:jz}(h:W (a b i) λp=>∃l,p.1=.loc l/\W (lo b p.2) λq=>W (c b q.2) λr=>W (st b r.2) λt=>t.1≠b0 0/\∃xs,t.2[l]?=b0 (.lst xs)/\(eZ xs q.1 r.1 t.1).length<=YM/\Q (.loc t.2.length,t.2++[.lst<|eZ xs q.1 r.1 t.1])):W (mQ a lo c st b i) Q:=by unfold mQ;rw[W_bind];show bN h λp q=>?_;obtain⟨d,u⟩:=p;obtain⟨l,e,g⟩:=q;dsimp only at e g ⊢;subst e;rw[W_bind];show bN g λs q=>?_;rw[W_bind];show bN q λr q=>?_;rw[W_bind];show bN q λt q=>?_;obtain⟨j,xs,k,n,o⟩:=q;rw[if_pos j];simp only[fD,k,Y9];rw[if_pos n];show W_some.mpr o
def GK(h:W (ms g e) λp=>∃a xs,p.1=[.loc a]/\p.2[a]?=b0 (.lst xs)/\Q (mR<|.loc a,xs.length+1,p.2)):W (oG ms g e) Q:=by unfold oG;rw[W_bind];show bN h λp q=>?_;obtain⟨l,i⟩:=p;obtain⟨a,xs,b,c,d⟩:=q;dsimp only at b c d ⊢;subst b;dsimp only;simp only[fD,c,Zh];show W_some.mpr d
abbrev jD:Nat->List D->List D
 |_,[]=>[]|n,d::r=>.tup [.int n,d]::jD (n+1) r
def wN:∀xs(n i:Nat),(jD n xs)[i]?=(xs[i]?).map λd=>.tup [.int ((n+i:Nat):Int),d]
 |[],n,i=>by simp[jD]
 |d::r,n,0=>by simp[jD]
 |d::r,n,i+1=>by change(jD (n+1) r)[i]?=_;rw[wN r (n+1) i,show n+1+i=n+(i+1) by lia];simp
def A8:∀xs n,(jD n xs).length=xs.length
 |[],_=>rfl|d::r,n=>by rw[jD,Zc,A8 r,Zc]
def Ue{b:Hm}(h:b[a]?=b0 (.lst xs)):∀μ' i,b<+:μ'->mR (.loc a) μ' i=b0 (jD 0 xs)[i]?:=λμ' i c=>by simp only[mR,bJ,aJ c h,Zh,wN];congr 3;simp
def Ug{b:MS}(I:Nat->aF->Hm->Prop)(o:I 0 h c)(n:∀i h c,I i h c->c[a]?=b0 (.lst xs))(go:∀i d h c,xs[i]?=b0 d->I i h c->∃j,g (.tup [.int i,d]) h c=b0 j/\W (b j c) λp=>match p.1 with|.nx=>I (i+1) p.2.1 p.2.2|.ct=>I (i+1) p.2.1 p.2.2|.bk=>Q (.nx,p.2.1,p.2.2)|.rt d=>Q (.rt d,p.2.1,p.2.2))(l:∀h c,I xs.length h c->Q (.nx,h,c)):W (eQ (mR<|.loc a) g b (xs.length+1) 0 h c) Q:=by
 show oV (N:=xs.length) I (λi h c u k=>?_) (λh c k=>⟨?_,l h c k⟩) xs.length 0 h c ⋯ o
 .have e:xs[i]?=b0 xs[i]:=Yz u;obtain⟨j,r,s⟩:=go i xs[i] h c e k;show⟨_,j,?_,r,s⟩;simp only[mR,bJ,n i h c k,Zh,e]
 .simp only[mR,bJ,n _ h c k,Zh];simp
def wO{n:eX}(I:Nat->List D->Hm->Prop)(B:N<=YM)(k:∀i g j,I i g j->g.length<=i)(go:∀i g j,i<N->I i g j->j[a]?=b0 (.lst g)->∃d x,n j i=b0 (b0 d)/\A d j=b0 x/\W (c (z++x) j) λr=>(r.1=dI->r.2[a]?=b0 (.lst g)/\I (i+1) g r.2) /\
   (r.1=d7->W (e (z++x) r.2) λs=>s.2[a]?=b0 (.lst g)/\I (i+1) (g++[s.1]) (s.2.set a<|.lst<|g++[s.1])))(l:∀g j,I N g j->j[a]?=b0 (.lst g)->n j N=b0 b5/\Q j):∀m i g j,i+m=N->I i g j->j[a]?=b0 (.lst g)->W (iD n A c e z a (m+1) i j) Q
 |0,i,g,j,h,hI,hg=>by
  have:i=N:=by lia
  subst this;obtain⟨u,v⟩:=l g j hI hg;unfold iD;rw[u];show W_some.mpr v
 |m+1,i,g,j,h,hI,hg=>by
  obtain⟨d,x,u,v,E⟩:=go i g j ⋯ hI hg;unfold iD;rw[u];simp only[Y9,v];rw[W_bind];show bN E λr q=>?_;obtain⟨b,w⟩:=r;cases b with
  |false=>obtain⟨o,p⟩:=q.1 rfl;show wO I B k go l m (i+1) g w ⋯ p o|true=>dsimp only;rw[W_bind];show bN (q.2 rfl) λs q=>?_;obtain⟨y,G⟩:=s;obtain⟨o,p⟩:=q;dsimp only at o p ⊢;have H:=k i g j hI;rw[A4 o<|by lia,Y9];show wO I B k go l m (i+1) _ _ ⋯ p ?_;rw[ZH (Yy.mp o).1]
def Uh{Q:jz}(hit:W (w g a) λr=>∃(N:Nat)(I:Nat->List D->Hm->Prop),r.2.1=N+1/\N<=YM/\(∀i b a,I i b a->b.length<=i)/\I 0 [] (r.2.2++[.lst []]) /\
   (∀i b a,i<N->I i b a->a[r.2.2.length]?=b0 (.lst b)->∃d x,r.1 a i=b0 (b0 d)/\h d a=b0 x/\W (c (g++x) a) λp=>(p.1=dI->p.2[r.2.2.length]?=b0 (.lst b)/\I (i+1) b p.2) /\
    (p.1=d7->W (e (g++x) p.2) λs=>s.2[r.2.2.length]?=b0 (.lst b)/\I (i+1) (b++[s.1]) (s.2.set r.2.2.length<|.lst<|b++[s.1]))) /\
   (∀b a,I N b a->a[r.2.2.length]?=b0 (.lst b)->r.1 a N=b0 b5/\Q (.loc r.2.2.length,a))):W (eS h w c e g a) Q:=by
 unfold eS;rw[W_bind];show bN hit λr q=>?_;obtain⟨y,n,z⟩:=r;obtain⟨N,I,j,k,l,o,u,v⟩:=q;dsimp only at j k l o u v ⊢;subst j;rw[jC];show wO I k l u v N 0 [] _ ⋯ o<|by simp
def Ui{w:eX}{g:Hm}{xs:List D}{x:D->aF}(I:∀a i,g<+:a->w a i=b0 xs[i]?)(O:xs.length<=YM)(M:∀d a,d∈xs->G d a=b0 (x d))(hc:∀d a,d∈xs->g<+:a->W (c (E++x d) a) λr=>r.1=p d/\a<+:r.2)(N:∀d a,d∈xs->p d=d7->g<+:a->W (e (E++x d) a) λr=>r.1=v d/\a<+:r.2)(fin:∀a,g<+:a->a[g.length]?=b0 (.lst<|(xs.filter p).map v)->Q a):W (iD w G c e E g.length (xs.length+1) 0<|g++[.lst []]) Q:=by
 show wO (N:=xs.length) (λi z a=>z=((xs.take i).filter p).map v/\g<+:a) O ?_ ?_ ?_ xs.length 0 [] _ ⋯ ⟨by simp,aR _ _⟩<|by simp
 .rintro i z a ⟨rfl,_⟩;rw[Yu];show Zr (a0p _ _) ?_;rw[Zb];lia
 .rintro i z a H ⟨rfl,k⟩ u;have K:xs[i]?=b0 xs[i]:=Yz H;have h:xs[i]∈xs:=ZU H;have j:xs.take (i+1)=xs.take i++[xs[i]]:=by rw[a1r,K];rfl
  show⟨xs[i],x xs[i],by rw[I a i k,K],M _ _ h,bN (hc _ a h k) λr q=>?_⟩;obtain⟨b,B⟩:=r;obtain⟨n,o⟩:=q;dsimp only at n o ⊢;show⟨λl=>⟨aJ o u,?_,k.trans o⟩,λl=>?_⟩
  .rw[j,a1u];rw[l]at n;simp[<- n]
  .rw[l]at n;show bN (N _ B h n.symm<|k.trans o) λs q=>?_;obtain⟨y,R⟩:=s;obtain⟨L,A⟩:=q;dsimp only at L A ⊢;subst L;show⟨aJ (o.trans A) u,?_,dB ((k.trans o).trans A) (YG _) _⟩;rw[j,a1u,YV];simp[<- n]
 .rintro z a ⟨rfl,k⟩ u;show⟨by rw[I a _ k];simp,fin a k ?_⟩;rw[Zp]at u;show u
def tE{xs:List D}{x:D->aF}{Q:jz}(hit:W (y b z) λr=>(∀a i,r.2.2<+:a->r.1 a i=b0 xs[i]?)/\r.2.1=xs.length+1/\xs.length<=YM/\(∀d a,d∈xs->g d a=b0 (x d)) /\
   (∀d a,d∈xs->r.2.2<+:a->W (c (b++x d) a) λs=>s.1=p d/\a<+:s.2)/\(∀d a,d∈xs->p d=d7->r.2.2<+:a->W (e (b++x d) a) λs=>s.1=v d/\a<+:s.2) /\
   ∀a,r.2.2<+:a->a[r.2.2.length]?=b0 (.lst<|(xs.filter p).map v)->Q (.loc r.2.2.length,a)):W (eS g y c e b z) Q:=by
 unfold eS;rw[W_bind];show bN hit λr q=>?_;obtain⟨A,n,B⟩:=r;obtain⟨h,j,k,l,o,u,w⟩:=q;dsimp only at h j k l o u w ⊢;subst j;rw[jC];show Ui h k l o u w
def w_mTrue:W (eF b a) Q↔Q (d7,a):=W_some
def w_mPut{Q}:W (i7 o i v a b) Q↔W (v a b) λp=>W (o a p.2) λq=>W (i a q.2) λr=>W (rY q.1 r.1 p.1 r.2) λμ'=>Q (.nx,a,μ'):=by unfold i7 Aa;simp only[W_bind,jC]
def Uj(h:W (ms g d) λp=>∃a b xs c,p.1=[.loc a,.loc b]/\p.2[a]?=b0 (.lst xs)/\p.2[b]?=b0 (.lst c)/\Q (sC (.loc a)<|.loc b,min xs.length c.length+1,p.2)):W (sD ms g d) Q:=by unfold sD;rw[W_bind];show bN h λp q=>?_;obtain⟨a,b,xs,c,e,i,j,q⟩:=q;rw[e];simp only[fD,i,j,Y9,Zh];show W_some.mpr q
def A9 k:cY (.tup<|k.map D.int)=b0 k:=A6 k
def w_mDNewT{Q:jz}:W (i9 ρ μ) Q↔Q (.loc μ.length,μ++[.dT []]):=W_some
def l6{kvs:jx}{Q:jz}(h:μ[a]?=b0 (.dT kvs))(b:cY y=b0 k)(c:a9 kvs k=b0 d):W (aE (.loc a) y μ) Q↔Q (d,μ):=by simp only[aE,h,b,Y9,c,Zh];show W_some
def wQ{kvs:jx}{Q:jz}(h:μ[a]?=b0 (.dT kvs))(c:cY y=b0 k):W (c4 b y (.loc a) μ) Q↔Q (.bl<|if b then !(a9 kvs k).isSome else(a9 kvs k).isSome,μ):=by
 have:c4 b y (.loc a) μ=b0 (.bl<|if b then !(a9 kvs k).isSome else(a9 kvs k).isSome,μ):=by simp only[c4,h,c,Zh]
 rw[this];show W_some
def nH(h:μ[a]?=b0 (.dT kvs))(b:cY y=b0 k)(c:kvs.length<YM):W (rY (.loc a) y d μ) Q↔Q (μ.set a<|.dT<|bW kvs k d):=by simp only[rY,rX,h,b,Y9,if_pos c];show W_some
def GL{kvs:jx}{Q:jz}(h:μ[a]?=b0 (.dT kvs)):W (jU [.loc a] μ) Q↔Q (.loc μ.length,μ++[.lst<|kvs.map λk=>D.tup<|k.1.map D.int]):=by simp only[jU,h];show W_some
def Uk{Q:jz}(h:μ[a]?=b0 (.lst xs)):W (jU [.loc a] μ) Q↔Q (.loc μ.length,μ++[.lst xs]):=by simp only[jU,h,rO,bJ,Zh];show W_some
def Ul{Q:jz}(h:b[a]?=b0 (.lst xs)):W (mS [.loc a] b) Q↔Q (.loc b.length,b++[.lst xs.reverse]):=by simp only[mS,h];show W_some
def Um(h:W (ms b a) λp=>∃i j c,p.1=[.int i,.int j,.int c]/\vC i j c=d7/\Q (Ac i c (ZQ i j c).toNat,(ZQ i j c).toNat+1,p.2)):W (qB ms b a) Q:=by unfold qB;rw[W_bind];show bN h λp q=>?_;obtain⟨i,j,c,d,e,g⟩:=q;rw[d];dsimp only;rw[if_pos e];show W_some.mpr g
def Uo(h:W (ms c b) λp=>∃a xs,p.1=[.loc a]/\p.2[a]?=b0 (.lst xs)/\Q (kU a xs.length,xs.length+1,p.2)):W (rZ ms c b) Q:=by unfold rZ;rw[W_bind];show bN h λp q=>?_;obtain⟨a,xs,d,e,g⟩:=q;rw[d];dsimp only;rw[e];show W_some.mpr g
end L3
namespace Lw
open PySem L2 L3
abbrev ds:List (Str×Stmt):=(("is_whole",aI 10)::("is_place",aI 11)::("is_corner",aI 12)::("is_edge",aI 13)::("is_quarter",aI 14)::("line_of",aI 15)::("beside",aI 16)::("sides_of",aI 17)::("moved_by",aI 18)::("edges_round",aI 19)::("number_by",aI 20)::("hand_of",aI 21)::("mirrored",aI 22)::("is_size",aI 25)::("check_size",aI 26)::("is_mark",aI 27)::("is_within",aI 28)::("places_within",aI 29)::("quarters_in",aI 30)::("edges_in",aI 31)::("corners_in",aI 32)::("is_inner_edge",aI 33)::("sheet_of",aI 34)::("marks_in",aI 35)::("is_good",aI 37)::("creases_at",aI 39)::("gaps_at",aI 40)::("barred",aI 41)::("check_corners",aI 42)::("tie_of",aI 44)::("is_least",aI 45)::("ties_of_gap",aI 46)::("ties_at",aI 47)::("ties",aI 48)::("walked_back",aI 51)::("steps_from",aI 52)::("is_marked",aI 53)::("marked_creases",aI 54)::("last_steps",aI 55)::("way_by",aI 56)::("is_alike",aI 57)::("back_by",aI 58)::("round_by_step",aI 59)::("round_within",aI 60)::("round_of",aI 61)::("laying_by",aI 64)::("mirror_in",aI 65)::("led",aI 66)::("then",aI 67)::("_law_nth",aI 69)::("_law_folded",aI 70)::("_law_folds",aI 71)::("_law_gaps",aI 72)::("_law_star",aI 73)::("_law_creases",aI 74)::("_law_square",aI 75)::("_law_any_sheet",aI 76)::("_law_sheet",aI 77)::("_law_round_a",aI 78)::("_law_inner",aI 79)::("_law_barred",aI 80)::("_law_tie",aI 81)::("_law_ties",aI 82)::("_law_groups",aI 83)::("_law_told",aI 84)::("_law_steps",aI 85)::("_law_odd",aI 86)::("_law_is_round",aI 87)::("law",aI 88)::[])
abbrev GN:D:=(.tup [(.tup [(.int 2),(.int 0)]),(.tup [(.int 1),(.int 1)]),(.tup [(.int 0),(.int 2)]),(.tup [(.int<|-1),(.int 1)]),(.tup [(.int<|-2),(.int 0)]),(.tup [(.int<|-1),(.int<|-1)]),(.tup [(.int 0),(.int<|-2)]),(.tup [(.int 1),(.int<|-1)])])
abbrev GO:D:=(.tup [(.tup [(.int 1),(.int 1)]),(.tup [(.int<|-1),(.int 1)]),(.tup [(.int<|-1),(.int<|-1)]),(.tup [(.int 1),(.int<|-1)])])
abbrev GP:D:=(.tup [(.str "h"),(.str "v"),(.str "o")])
abbrev Ba:List (bG×D):=[((.inr "h"),(.str "v")),((.inr "v"),(.str "h"))]
abbrev GQ:D:=(.tup [(.int 1),(.int 0),(.int 0),(.int 1),(.int 0),(.int 0)])
abbrev S:Sig:={fn:=(("is_whole",1)::("is_place",1)::("is_corner",1)::("is_edge",1)::("is_quarter",1)::("line_of",1)::("beside",1)::("sides_of",1)::("moved_by",2)::("edges_round",1)::("number_by",2)::("hand_of",2)::("mirrored",2)::("is_size",1)::("check_size",2)::("is_mark",1)::("is_within",3)::("places_within",2)::("quarters_in",2)::("edges_in",2)::("corners_in",2)::("is_inner_edge",3)::("sheet_of",3)::("marks_in",1)::("is_good",1)::("creases_at",2)::("gaps_at",2)::("barred",1)::("check_corners",1)::("tie_of",4)::("is_least",2)::("ties_of_gap",3)::("ties_at",2)::("ties",1)::("walked_back",1)::("steps_from",1)::("is_marked",1)::("marked_creases",1)::("last_steps",2)::("way_by",2)::("is_alike",1)::("back_by",1)::("round_by_step",2)::("round_within",3)::("round_of",1)::("laying_by",3)::("mirror_in",1)::("led",2)::("then",2)::("_law_nth",2)::("_law_folded",3)::("_law_folds",3)::("_law_gaps",2)::("_law_star",2)::("_law_creases",3)::("_law_square",0)::("_law_any_sheet",2)::("_law_sheet",2)::("_law_round_a",2)::("_law_inner",1)::("_law_barred",1)::("_law_tie",5)::("_law_ties",1)::("_law_groups",2)::("_law_told",2)::("_law_steps",2)::("_law_odd",1)::("_law_is_round",3)::("law",1)::[]),con:=[("EIGHT_EDGES",GN),("FOUR_EDGES",GO),("MARKS",GP),("STILL",GQ)],tab:=[("TURNED",Ba)],no:=["all","bool","dict","enumerate","int","isinstance","len","list","max","min","range","reversed","sorted","str","sum","tuple","zip"],dIt:=["marks","reached"],dEq:=[],dMe:=[]}
@[irreducible] noncomputable def f(k:Nat)(x:Str):MF:=jV S ds k x
abbrev Bb:MS:=bC (eD (aO<|aC (aU dI) (aC aW (aA 2)<|mC<|.int 2)<|mC<|.int 0)<|aO<|aC (aU dI) (aC aW (aA 2)<|mC<|.int 4)<|aC aW (aA 3)<|mC<|.int 4) (cW<|c5 eI (aA 1)<|aB (aZ<|aB (aA 2)<|aB (aA 3) aD) aD) bE
abbrev Bc:MS:=aH (aL 7<|aC bD (aC aW (aC cX (aC cX (aC aE (aA 5)<|aC aW (aC bD (aA 3)<|mC<|.int 1)<|aG bO<|aB (aA 5) aD)<|aC aE (aA 5)<|aA 3)<|mC<|.int 1)<|aG bO<|aB (aA 4) aD)<|mC<|.int 1)<|cW<|c5 eI (aA 6)<|aB (aC cL (aA 7)<|aC c6 (mC<|.int 8)<|aG bO<|aB (aA 4) aD) aD
abbrev GR(k:Nat):MS:=aH (cW<|c5 eI (aA 2)<|aB (aG (f k "_law_tie")<|aB (aA 4)<|aB (aA 6)<|aB (aC bD (aA 6)<|mC<|.int 1)<|aB (mC<|.bl dI)<|aB (aA 3) aD) aD)<|bC (aO<|aC (aU dI) (aG bO<|aB (aA 4) aD)<|mC<|.int 4) (cW<|c5 eI (aA 2)<|aB (aG (f k "_law_tie")<|aB (aA 4)<|aB (aC bD (aA 6)<|mC<|.int 2)<|aB (aC bD (aA 6)<|mC<|.int 3)<|aB (mC<|.bl d7)<|aB (aA 3) aD) aD) bE
abbrev Bd(k:Nat):MS:=aH (aL 7<|aG oQ<|aB (aC aE (aA 5)<|aC cX (aA 6)<|mC<|.int 1)<|aB (aC aE (aA 5)<|aC aW (aC bD (aA 6)<|mC<|.int 1)<|aG bO<|aB (aA 4) aD) aD)<|bC (eD (aO<|aC kJ (aG bO<|aB (aA 4) aD)<|mC<|.int 2)<|aO<|aC dO (aC aE (aA 5)<|aA 6)<|aA 7) (GR k) bE
abbrev Be(k:Nat):MS:=aH (jQ (aG (f k "_law_round_a")<|aB (aA 1)<|aB (aA 3) aD)<|eW [4,5])<|aH (bC (aO<|aC (aU dI) (aG bO<|aB (aA 4) aD)<|mC<|.int 2) (cW<|c5 eI (aA 2)<|aB (aG (f k "_law_tie")<|aB (aA 4)<|aB (mC<|.int 0)<|aB (mC<|.int 1)<|aB (mC<|.bl d7)<|aB (aA 3) aD) aD) bE)<|b8 (gW<|aB (aG bO<|aB (aA 4) aD) aD) (cC 6)<|Bd k
abbrev Bf(k:Nat):MS:=aH (aL 3<|aC aE (aG (f k "_law_round_a")<|aB (aA 1)<|aB (aA 2) aD)<|mC<|.int 1)<|bC (gR (aO<|aC (aU dI) (aC aW (aG bO<|aB (aA 3) aD)<|mC<|.int 2)<|mC<|.int 1)<|aO<|aC (aU d7) (aG jS<|aB (eS (jP 2) (oG<|aB (aA 3) aD) eF<|aC cL (aA 5)<|aC cX (mC<|.int 1)<|aC cL (mC<|.int 2)<|aC aW (aA 4)<|mC<|.int 2) aD)<|mC<|.int 0) (aN<|aA 2) bE
abbrev Bg(k:Nat):MS:=aH (bC (aO<|aC (aU dI) (aG (f k "hand_of")<|aB (aG (f k "led")<|aB (aA 5)<|aB (aA 4) aD)<|aB (aA 1) aD)<|aA 2) (aL 5<|aG (f k "then")<|aB (aA 5)<|aB (aG (f k "mirror_in")<|aB (aA 1) aD) aD) bE)<|i7 (aA 3) (aA 4)<|aA 5
abbrev Bh(k:Nat):MS:=aH (aL 7<|aG (f k "_law_nth")<|aB (aA 0)<|aB (aC bD (aC bD (aA 1)<|mC<|.int 1)<|aA 6) aD)<|aH (aL 8<|aC aE (aA 5)<|aC aW (aC c6 (aA 7)<|mC<|.int 2)<|aG bO<|aB (aA 5) aD)<|aH (aL 8<|aG (f k "led")<|aB (aC aE (aA 3)<|aC aE (aG (f k "sides_of")<|aB (aA 8) aD)<|mC<|.int 0)<|aB (aA 8) aD)<|aL 3<|aG (f k "_law_folded")<|aB (aA 3)<|aB (aA 8)<|aB (aC cX (mC<|.int 1)<|aC cL (mC<|.int 2)<|aC aW (aA 7)<|mC<|.int 2) aD
abbrev Bi:MS:=cW<|c5 lO (aA 5)<|aB (bZ<|aB (aC aE (aA 4)<|aC bD (aA 2)<|aA 6)<|aB (aC aE (aA 4)<|aC bD (aA 3)<|aA 6) aD) aD
abbrev GS:MT:=eD (aO<|gG dO dO (mC<|.int 0) (aA 10)<|aC cL (mC<|.int 4)<|aC aE (aA 0)<|mC<|.int 0)<|aO<|gG dO dO (mC<|.int 0) (aA 11)<|aC cL (mC<|.int 4)<|aC aE (aA 0)<|mC<|.int 1
abbrev GU:MS:=aH (cW<|c5 eI (aA 5)<|aB (aZ<|aB (aC bD (aA 10)<|aA 8)<|aB (aC bD (aA 11)<|aA 9) aD) aD)<|aH (aL 10<|aC bD (aA 10)<|aC cL (mC<|.int 2)<|aA 8)<|aL 11<|aC bD (aA 11)<|aC cL (mC<|.int 2)<|aA 9
abbrev wR:MS:=aH (jQ (aC aE (aA 2)<|aC aW (aA 6)<|mC<|.int 8)<|eW [8,9])<|aH (jQ (aA 4)<|eW [10,11])<|aH (mO nC GS GU)<|aL 6<|aC bD (aA 6)<|aA 7
abbrev GV:MS:=bC (aO<|aC (c4 d7) (aA 6)<|aA 4) (cW<|c5 eI (aA 4)<|aB (aA 6) aD) bE
abbrev GW(k:Nat):MS:=b8 (bV<|aG (f k "_law_star")<|aB (aA 2)<|aB (aG (f k "_law_nth")<|aB (aA 0)<|aB (aC bD (aC bD (aA 1)<|mC<|.int 1)<|aA 5) aD) aD) (cC 6) GV
abbrev Bj(k:Nat):MS:=aH (aL 5<|aC aE (aA 4)<|mC<|.int 0)<|aH (bC (fJ<|c7<|aG (f k "is_inner_edge")<|aB (aA 0)<|aB (aA 1)<|aB (aA 5) aD) dR bE)<|aH (bC (fJ<|c7<|aG (f k "is_mark")<|aB (aC aE (aA 4)<|mC<|.int 1) aD) dR bE)<|aH (bC (aO<|aC (c4 dI) (aA 5)<|aA 3) dR bE)<|i7 (aA 3) (aA 5)<|aC aE (aA 4)<|mC<|.int 1
abbrev GX:MS:=aH (aL 9<|aC aW (aC c6 (aA 7)<|mC<|.int 16)<|aC aE (bZ<|aB (mC<|.int 3)<|aB (mC<|.int 4)<|aB (mC<|.int 8) aD)<|aC aW (aA 7)<|mC<|.int 3)<|aH (cW<|c5 eI (aA 8)<|aB (aZ<|aB (aA 6)<|aB (aC aE (bZ<|aB (mC<|.str "o")<|aB (mC<|.str "o")<|aB (mC<|.str "h")<|aB (mC<|.str "v")<|aB (mC<|.str "o")<|aB (mC<|.str "o")<|aB (mC<|.str "o")<|aB (mC<|.str "o") aD)<|aA 9) aD) aD)<|aL 7<|aC aW (aC bD (aC cL (aA 7)<|mC<|.int 48271)<|mC<|.int 11)<|mC<|.int 1000003
abbrev GY(k:Nat):MS:=aH (aL 7<|aC aW (aG (f k "_law_nth")<|aB (aA 0)<|aB (aC bD (aA 1)<|mC<|.int 6) aD)<|mC<|.int 1000003)<|aH (aL 8<|bZ aD)<|aH (b8 (bV<|aA 4) (cC 6) GX)<|aN<|aG (f k "sheet_of")<|aB (aC aE (aA 3)<|mC<|.int 0)<|aB (aC aE (aA 3)<|mC<|.int 1)<|aB (aA 8) aD
abbrev GZ:MS:=bC (aO<|aC (c4 dI) (aA 6)<|aA 4) (cW<|c5 qF (aA 4)<|aB (aA 6) aD)<|cW<|c5 eI (aA 4)<|aB (aA 6) aD
abbrev Bk(k:Nat):MS:=aH (aL 5<|aG (f k "edges_in")<|aB (aC aE (aA 3)<|mC<|.int 0)<|aB (aC aE (aA 3)<|mC<|.int 1) aD)<|aH (bC (aO<|aC (aU dI) (aC aW (aC c6 (aA 2)<|mC<|.int 324)<|mC<|.int 4)<|mC<|.int 1) (aH (aL 6<|aC aE (aA 5)<|aC aW (aC c6 (aA 2)<|mC<|.int 1296)<|aG bO<|aB (aA 5) aD) GZ) bE)<|GY k
abbrev Bl:MS:=aH (bC (aO<|aC kJ (aC aW (aA 0)<|mC<|.int 4)<|mC<|.int 0) (cW<|c5 eI (aA 3)<|aB (aZ<|aB (aA 4)<|aB (aC aE (mC<|.str " ohv")<|aC aW (aA 0)<|mC<|.int 4) aD) aD) bE)<|aL 0<|aC c6 (aA 0)<|mC<|.int 4
abbrev Bm:MS:=bC (aO<|aC (c4 d7) (aC aE (aA 6)<|mC<|.int 1)<|aA 2) (aH (i7 (aA 2) (aC aE (aA 6)<|mC<|.int 1)<|aA 6)<|cW<|c5 eI (aA 4)<|aB (aC aE (aA 6)<|mC<|.int 1) aD) bE
abbrev Bn:MS:=aH (aL 5<|c5 oA (aA 4)<|aB (mC<|.int 0) aD)<|b8 (bV<|iI iJ (aA 0)<|aB (aA 5)<|aB (bZ aD) aD) (cC 6) Bm
abbrev Bo:MS:=bC (aO<|aC (aU dI) (aC aE (aC aE (aA 2)<|aA 13)<|mC<|.int 0)<|aA 10) (i7 (aA 2) (aA 13)<|aZ<|aB (aA 8)<|aB (aC aW (aC bD (aC aE (aC aE (aA 2)<|aA 13)<|mC<|.int 1)<|aA 12)<|mC<|.int 2) aD) bE
abbrev Bp:MS:=aH (jQ (aC aE (aA 2)<|aA 3)<|eW [8,9])<|aH (jQ (aC aE (aA 2)<|aA 5)<|eW [10,11])<|aH (aL 12<|aC aW (aC bD (aC bD (aA 9)<|aA 11)<|aG nZ<|aB (mI<|aA 6) aD)<|mC<|.int 2)<|aH (bC (eD (aO<|aC (aU dI) (aA 8)<|aA 10)<|aO<|aC (aU dI) (aA 12)<|mC<|.int 1) (aN<|mC .non) bE)<|bC (aO<|aC (aU d7) (aA 8)<|aA 10) (b8 (bV<|aG jU<|aB (aA 2) aD) (cC 13) Bo) bE
abbrev Bq:MS:=bC (aO<|aC (aU d7) (aA 4)<|mC<|.str "o") (aH (jQ (aC aE (aA 1)<|aA 3)<|eW [5,6])<|aH (aL 7<|aC aW (aC bD (aG nZ<|aB (aC (aU dI) (aA 4)<|mC<|.str "v") aD)<|aA 6)<|mC<|.int 2)<|bC (aO<|aC (aU d7) (iI gK (aA 2)<|aB (aA 5)<|aB (aA 7) aD)<|aA 7) (aN<|mC .non) bE) bE
abbrev G0(k:Nat):MS:=aH (aL 7<|aG (f k "round_by_step")<|aB (aA 3)<|aB (aA 6) aD)<|bC (fJ<|c7<|aG (f k "is_alike")<|aB (aA 7) aD) (aN<|aA 7) bE
abbrev G1(k:Nat):MT:=eD (c7<|aG (f k "is_marked")<|aB (aC aE (aA 1)<|aA 4) aD)<|eD (c7<|aG (f k "is_marked")<|aB (aC aE (aA 1)<|aA 2) aD)<|aO<|aC (aU d7) (aG (f k "is_alike")<|aB (aA 5) aD)<|aC (aU dI) (aC aE (aA 1)<|aA 4)<|aC aE (aA 1)<|aA 2
abbrev Br(k:Nat):MS:=aH (aL 5<|aG (f k "way_by")<|aB (aA 3)<|aB (aA 4) aD)<|aH (bC (G1 k) (aN<|aA 5) bE)<|b8 (bV<|iI iJ (aA 0)<|aB (aA 4)<|aB (bZ aD) aD) (cC 6)<|G0 k
abbrev Bs(k:Nat):MS:=bC (aO<|aC (c4 d7) (aA 4)<|aA 3) (aH (aL 5<|aG (f k "round_within")<|aB (aA 1)<|aB (aA 2)<|aB (aA 4) aD)<|aH (bC (aO<|aC (eY d7) (aA 5)<|mC .non) (aN<|aA 5) bE)<|cW<|iI qG (aA 3)<|aB (aG (f k "last_steps")<|aB (aA 1)<|aB (bZ<|aB (aA 4) aD) aD) aD) bE
abbrev G2:MS:=aH (bC (gR (fJ<|c7<|aG f9<|aB (aA 3)<|aB (mC<|.ty "tuple") aD)<|gR (aO<|aC (aU d7) (aG bO<|aB (aA 3) aD)<|mC<|.int 4)<|fJ<|c7<|aG f9<|aB (aC aE (aA 3)<|mC<|.int 2)<|aB (mC<|.ty "bool") aD) (aN<|mC<|.bl dI) bE)<|aH (bC (aO<|aC (c4 d7) (aZ<|aB (aG oQ<|aB (aC aE (aA 3)<|mC<|.int 0)<|aB (aC aE (aA 3)<|mC<|.int 1) aD)<|aB (aG sM<|aB (aC aE (aA 3)<|mC<|.int 0)<|aB (aC aE (aA 3)<|mC<|.int 1) aD)<|aB (aC aE (aA 3)<|mC<|.int 2)<|aB (aC aE (aA 3)<|mC<|.int 3) aD)<|aA 1) (aN<|mC<|.bl dI) bE)<|bC (eD (aO<|aC kJ (aA 2)<|mC<|.int 0)<|aO<|aC (aU d7) (aC aE (aC aE (aA 0)<|aC cX (aA 2)<|mC<|.int 1)<|mC<|.int 1)<|aC aE (aA 3)<|mC<|.int 0) (aN<|mC<|.bl dI) bE
abbrev Bt(k:Nat):MS:=aH (bC (gR (aO<|aC (aU dI) (aC aE (aA 3)<|aA 6)<|mC<|.str "o")<|aO<|aC (aU dI) (aC aE (aA 3)<|aA 7)<|mC<|.str "o") (aN<|mC<|.bl dI) bE)<|aN<|aC (aU d7) (aC (aU d7) (aC aE (aA 3)<|aA 6)<|aC aE (aA 3)<|aA 7)<|aG (f k "_law_odd")<|aB (aA 0) aD
def G3 k d0 a:f (k+1) "is_whole" [d0] a=fin ((aN<|eN (aG f9<|aB (aA 0)<|aB (mC<|.ty "int") aD)<|mI<|aG f9<|aB (aA 0)<|aB (mC<|.ty "bool") aD) [b0 d0] a):=by kernel_rfl
def Up k d0 a:f (k+1) "is_place" [d0] a=fin ((aN<|eN (aG f9<|aB (aA 0)<|aB (mC<|.ty "tuple") aD)<|eN (aC (aU dI) (aG bO<|aB (aA 0) aD)<|mC<|.int 2)<|eN (aG (f k "is_whole")<|aB (aC aE (aA 0)<|mC<|.int 0) aD)<|aG (f k "is_whole")<|aB (aC aE (aA 0)<|mC<|.int 1) aD) [b0 d0] a):=by kernel_rfl
def Uq k d0 a:f (k+1) "is_corner" [d0] a=fin ((aN<|eN (aC (aU dI) (aC aW (aC aE (aA 0)<|mC<|.int 0)<|mC<|.int 2)<|mC<|.int 0)<|aC (aU dI) (aC aW (aC aE (aA 0)<|mC<|.int 0)<|mC<|.int 4)<|aC aW (aC aE (aA 0)<|mC<|.int 1)<|mC<|.int 4) [b0 d0] a):=by kernel_rfl
def Ur k d0 a:f (k+1) "is_edge" [d0] a=fin ((aH (bC (aO<|aC (aU dI) (aC aW (aC aE (aA 0)<|mC<|.int 0)<|mC<|.int 2)<|mC<|.int 1) (aN<|aC (aU dI) (aC aW (aC aE (aA 0)<|mC<|.int 1)<|mC<|.int 2)<|mC<|.int 1) bE)<|aN<|eN (aC (aU dI) (aC aW (aC aE (aA 0)<|mC<|.int 1)<|mC<|.int 2)<|mC<|.int 0)<|aC (aU d7) (aC aW (aC aE (aA 0)<|mC<|.int 0)<|mC<|.int 4)<|aC aW (aC aE (aA 0)<|mC<|.int 1)<|mC<|.int 4) [b0 d0] a):=by kernel_rfl
def Us k d0 a:f (k+1) "is_quarter" [d0] a=fin ((aH (bC (aO<|aC (aU dI) (aC aW (aC aE (aA 0)<|mC<|.int 0)<|mC<|.int 2)<|mC<|.int 1) (aN<|aC (aU dI) (aC aW (aC aE (aA 0)<|mC<|.int 1)<|mC<|.int 4)<|mC<|.int 2) bE)<|aN<|eN (aC (aU dI) (aC aW (aC aE (aA 0)<|mC<|.int 0)<|mC<|.int 4)<|mC<|.int 2)<|aC (aU dI) (aC aW (aC aE (aA 0)<|mC<|.int 1)<|mC<|.int 2)<|mC<|.int 1) [b0 d0] a):=by kernel_rfl
def Ut k d0 a:f (k+1) "line_of" [d0] a=fin ((aH (bC (aO<|aC (aU dI) (aC aW (aC aE (aA 0)<|mC<|.int 0)<|mC<|.int 2)<|mC<|.int 1) (aN<|kG (aO<|aC (aU dI) (aC aW (aC aE (aA 0)<|mC<|.int 0)<|mC<|.int 4)<|aC aW (aC aE (aA 0)<|mC<|.int 1)<|mC<|.int 4) (mC<|.str "falling")<|mC<|.str "rising") bE)<|aN<|kG (aO<|aC (aU dI) (aC aW (aC aE (aA 0)<|mC<|.int 1)<|mC<|.int 4)<|mC<|.int 0) (mC<|.str "level")<|mC<|.str "upright") [b0 d0] a):=by kernel_rfl
def Uu k d0 a:f (k+1) "beside" [d0] a=fin ((aH (aL 1<|aC aE (aA 0)<|mC<|.int 0)<|aH (aL 2<|aC aE (aA 0)<|mC<|.int 1)<|aN<|bZ<|aB (aZ<|aB (aC cX (aA 1)<|mC<|.int 1)<|aB (aA 2) aD)<|aB (aZ<|aB (aA 1)<|aB (aC cX (aA 2)<|mC<|.int 1) aD)<|aB (aZ<|aB (aA 1)<|aB (aC bD (aA 2)<|mC<|.int 1) aD)<|aB (aZ<|aB (aC bD (aA 1)<|mC<|.int 1)<|aB (aA 2) aD) aD) [b0 d0,b5,b5] a):=by kernel_rfl
def Uv k d0 a:f (k+1) "sides_of" [d0] a=fin ((aN<|eH (bV<|aG (f k "beside")<|aB (aA 0) aD) (c7<|aG (f k "is_quarter")<|aB (aA 1) aD)<|aA 1) [b0 d0] a):=by kernel_rfl
def Uw k d0 d1 a:f (k+1) "moved_by" [d0,d1] a=fin ((aN<|eH (bV<|aA 1) eF<|aZ<|aB (aC bD (aC aE (aA 0)<|mC<|.int 0)<|aC aE (aA 2)<|mC<|.int 0)<|aB (aC bD (aC aE (aA 0)<|mC<|.int 1)<|aC aE (aA 2)<|mC<|.int 1) aD) [b0 d0,b0 d1] a):=by kernel_rfl
def Ux k d0 a:f (k+1) "edges_round" [d0] a=fin ((aN<|aG (f k "moved_by")<|aB (aA 0)<|aB (kG (aO<|aC (aU dI) (aC aW (aC aE (aA 0)<|mC<|.int 0)<|mC<|.int 4)<|mC<|.int 0) (mC GN)<|mC GO) aD) [b0 d0] a):=by kernel_rfl
def Uy k d0 d1 a:f (k+1) "number_by" [d0,d1] a=fin ((aH (bC (aO<|aC (aU dI) (aA 0)<|mC<|.str "level") (aN<|aC aE (aA 1)<|mC<|.int 1) bE)<|aH (bC (aO<|aC (aU dI) (aA 0)<|mC<|.str "upright") (aN<|aC aE (aA 1)<|mC<|.int 0) bE)<|aH (bC (aO<|aC (aU dI) (aA 0)<|mC<|.str "falling") (aN<|aC cX (aC aE (aA 1)<|mC<|.int 0)<|aC aE (aA 1)<|mC<|.int 1) bE)<|aN<|aC bD (aC aE (aA 1)<|mC<|.int 0)<|aC aE (aA 1)<|mC<|.int 1) [b0 d0,b0 d1] a):=by kernel_rfl
def Uz k d0 d1 a:f (k+1) "hand_of" [d0,d1] a=fin ((aH (aL 2<|aG (f k "line_of")<|aB (aA 1) aD)<|aH (aL 3<|aC cX (aG (f k "number_by")<|aB (aA 2)<|aB (aA 0) aD)<|aG (f k "number_by")<|aB (aA 2)<|aB (aA 1) aD)<|aH (bC (aO<|aC kJ (aA 3)<|mC<|.int 0) (aN<|mC<|.int 1) bE)<|aN<|kG (aO<|aC dO (aA 3)<|mC<|.int 0) (fA<|mC<|.int 1)<|mC<|.int 0) [b0 d0,b0 d1,b5,b5] a):=by kernel_rfl
def UA k d0 d1 a:f (k+1) "mirrored" [d0,d1] a=fin ((aH (aL 2<|aC aE (aA 0)<|mC<|.int 0)<|aH (aL 3<|aC aE (aA 0)<|mC<|.int 1)<|aH (aL 4<|aG (f k "line_of")<|aB (aA 1) aD)<|aH (aL 5<|aG (f k "number_by")<|aB (aA 4)<|aB (aA 1) aD)<|aH (bC (aO<|aC (aU dI) (aA 4)<|mC<|.str "level") (aN<|aZ<|aB (aA 2)<|aB (aC cX (aC cL (mC<|.int 2)<|aA 5)<|aA 3) aD) bE)<|aH (bC (aO<|aC (aU dI) (aA 4)<|mC<|.str "upright") (aN<|aZ<|aB (aC cX (aC cL (mC<|.int 2)<|aA 5)<|aA 2)<|aB (aA 3) aD) bE)<|aH (bC (aO<|aC (aU dI) (aA 4)<|mC<|.str "falling") (aN<|aZ<|aB (aC bD (aA 3)<|aA 5)<|aB (aC cX (aA 2)<|aA 5) aD) bE)<|aN<|aZ<|aB (aC cX (aA 5)<|aA 3)<|aB (aC cX (aA 5)<|aA 2) aD) [b0 d0,b0 d1,b5,b5,b5,b5] a):=by kernel_rfl
def UB k d0 a:f (k+1) "is_size" [d0] a=fin ((aN<|eN (aG (f k "is_whole")<|aB (aA 0) aD)<|gG pL pL (mC<|.int 1) (aA 0)<|mC<|.int 6) [b0 d0] a):=by kernel_rfl
def UC k d0 d1 a:f (k+1) "check_size" [d0,d1] a=fin ((bC (fJ<|eD (c7<|aG (f k "is_size")<|aB (aA 0) aD)<|c7<|aG (f k "is_size")<|aB (aA 1) aD) dR bE) [b0 d0,b0 d1] a):=by kernel_rfl
def Bu k d0 a:f (k+1) "is_mark" [d0] a=fin ((aN<|eN (aG f9<|aB (aA 0)<|aB (mC<|.ty "str") aD)<|aC (c4 dI) (aA 0)<|mC GP) [b0 d0] a):=by kernel_rfl
def UD k d0 d1 d2 a:f (k+1) "is_within" [d0,d1,d2] a=fin ((aN<|eN (gG dO dO (mC<|.int 0) (aC aE (aA 2)<|mC<|.int 0)<|aC cL (mC<|.int 4)<|aA 0)<|gG dO dO (mC<|.int 0) (aC aE (aA 2)<|mC<|.int 1)<|aC cL (mC<|.int 4)<|aA 1) [b0 d0,b0 d1,b0 d2] a):=by kernel_rfl
def UE k d0 d1 a:f (k+1) "places_within" [d0,d1] a=fin ((aH (aL 2<|bZ aD)<|aH (b8 (mM<|aB (mC<|.int 1)<|aB (aC cL (mC<|.int 4)<|aA 0) aD) (cC 3)<|cW<|c5 lO (aA 2)<|aB (eH (mM<|aB (mC<|.int 1)<|aB (aC cL (mC<|.int 4)<|aA 1) aD) eF<|aZ<|aB (aA 3)<|aB (aA 4) aD) aD)<|aN<|aA 2) [b0 d0,b0 d1,b5,b5] a):=by kernel_rfl
def UG k d0 d1 a:f (k+1) "quarters_in" [d0,d1] a=fin ((aN<|eH (bV<|aG (f k "places_within")<|aB (aA 0)<|aB (aA 1) aD) (c7<|aG (f k "is_quarter")<|aB (aA 2) aD)<|aA 2) [b0 d0,b0 d1] a):=by kernel_rfl
def UH k d0 d1 a:f (k+1) "edges_in" [d0,d1] a=fin ((aN<|eH (bV<|aG (f k "places_within")<|aB (aA 0)<|aB (aA 1) aD) (c7<|aG (f k "is_edge")<|aB (aA 2) aD)<|aA 2) [b0 d0,b0 d1] a):=by kernel_rfl
def UI k d0 d1 a:f (k+1) "corners_in" [d0,d1] a=fin ((aN<|eH (bV<|aG (f k "places_within")<|aB (aA 0)<|aB (aA 1) aD) (c7<|aG (f k "is_corner")<|aB (aA 2) aD)<|aA 2) [b0 d0,b0 d1] a):=by kernel_rfl
def UJ k d0 d1 d2 a:f (k+1) "is_inner_edge" [d0,d1,d2] a=fin ((aN<|eN (aG (f k "is_place")<|aB (aA 2) aD)<|eN (aG (f k "is_within")<|aB (aA 0)<|aB (aA 1)<|aB (aA 2) aD)<|aG (f k "is_edge")<|aB (aA 2) aD) [b0 d0,b0 d1,b0 d2] a):=by kernel_rfl
def UK k d0 d1 d2 a:f (k+1) "sheet_of" [d0,d1,d2] a=fin ((aH (cW<|aG (f k "check_size")<|aB (aA 0)<|aB (aA 1) aD)<|aH (aL 3 i9)<|aH (b8 (bV<|aA 2) (cC 4)<|Bj k)<|aN<|aZ<|aB (aA 0)<|aB (aA 1)<|aB (vW<|aA 3) aD) [b0 d0,b0 d1,b0 d2,b5,b5,b5] a):=by kernel_rfl
def G4 k d0 a:f (k+1) "marks_in" [d0] a=fin ((aN<|aG oK<|aB (aC aE (aA 0)<|mC<|.int 2) aD) [b0 d0] a):=by kernel_rfl
def UL k d0 a:f (k+1) "is_good" [d0] a=fin ((aH (bC (gR (aO<|aC kJ (aG bO<|aB (aA 0) aD)<|mC<|.int 8)<|aO<|aC (aU dI) (aC aW (aG bO<|aB (aA 0) aD)<|mC<|.int 2)<|mC<|.int 1) (aN<|mC<|.bl dI) bE)<|aH (bC (fJ<|c7<|aG uX<|aB (eH (bV<|aA 0) eF<|eN (aG (f k "is_whole")<|aB (aA 1) aD)<|aC rM (aA 1)<|mC<|.int 1) aD) (aN<|mC<|.bl dI) bE)<|aN<|aC (aU dI) (aG jS<|aB (mQ (aA 0) jM jM<|jN<|mC<|.int 2) aD)<|aG jS<|aB (mQ (aA 0) (jN<|mC<|.int 1) jM<|jN<|mC<|.int 2) aD) [b0 d0] a):=by kernel_rfl
def UM k d0 d1 a:f (k+1) "creases_at" [d0,d1] a=fin ((aH (aL 2<|aG (f k "marks_in")<|aB (aA 0) aD)<|aN<|eH (bV<|aG (f k "edges_round")<|aB (aA 1) aD) (aO<|aC (c4 dI) (aA 3)<|aA 2)<|aA 3) [b0 d0,b0 d1,b5] a):=by kernel_rfl
def UN k d0 d1 a:f (k+1) "gaps_at" [d0,d1] a=fin ((aH (aL 2<|aG (f k "edges_round")<|aB (aA 1) aD)<|aH (aL 3<|aG (f k "creases_at")<|aB (aA 0)<|aB (aA 1) aD)<|aH (aL 4<|eH (bV<|aA 3) eF<|c5 qA (aA 2)<|aB (aA 7) aD)<|aH (aL 5<|aC bD (nV (aA 4) (jN<|mC<|.int 1) jM)<|eH (bV<|nV (aA 4) jM<|jN<|mC<|.int 1) eF<|aC bD (aA 7)<|aG bO<|aB (aA 2) aD)<|aH (aL 6<|aC c6 (mC<|.int 8)<|aG bO<|aB (aA 2) aD)<|aN<|eS (jP 2) (sD<|aB (aA 4)<|aB (aA 5) aD) eF<|aC cL (aC cX (aA 8)<|aA 7)<|aA 6) [b0 d0,b0 d1,b5,b5,b5,b5,b5] a):=by kernel_rfl
def UO k d0 a:f (k+1) "barred" [d0] a=fin ((aH (b8 (bV<|aG (f k "corners_in")<|aB (aC aE (aA 0)<|mC<|.int 0)<|aB (aC aE (aA 0)<|mC<|.int 1) aD) (cC 1)<|bC (fJ<|c7<|aG (f k "is_good")<|aB (aG (f k "gaps_at")<|aB (aA 0)<|aB (aA 1) aD) aD) (aN<|aA 1) bE)<|aN<|mC .non) [b0 d0,b5] a):=by kernel_rfl
def UP k d0 a:f (k+1) "check_corners" [d0] a=fin ((aH (aL 1<|aG (f k "barred")<|aB (aA 0) aD)<|bC (aO<|aC (eY d7) (aA 1)<|mC .non) dR bE) [b0 d0,b5] a):=by kernel_rfl
def UQ k d0 d1 d2 d3 a:f (k+1) "tie_of" [d0,d1,d2,d3] a=fin ((aN<|aZ<|aB (aG oQ<|aB (aA 0)<|aB (aA 1) aD)<|aB (aG sM<|aB (aA 0)<|aB (aA 1) aD)<|aB (aA 2)<|aB (aA 3) aD) [b0 d0,b0 d1,b0 d2,b0 d3] a):=by kernel_rfl
def UR k d0 d1 a:f (k+1) "is_least" [d0,d1] a=fin ((aN<|eN (aC dO (aC aE (aA 0)<|aA 1)<|aC aE (aA 0)<|aC cX (aA 1)<|mC<|.int 1)<|aC dO (aC aE (aA 0)<|aA 1)<|aC aE (aA 0)<|aC aW (aC bD (aA 1)<|mC<|.int 1)<|aG bO<|aB (aA 0) aD) [b0 d0,b0 d1] a):=by kernel_rfl
def US k d0 d1 d2 a:f (k+1) "ties_of_gap" [d0,d1,d2] a=fin ((aH (aL 3<|aG bO<|aB (aA 0) aD)<|aH (aL 4<|bZ<|aB (aG (f k "tie_of")<|aB (aC aE (aA 0)<|aA 1)<|aB (aC aE (aA 0)<|aC aW (aC bD (aA 1)<|mC<|.int 1)<|aA 3)<|aB (mC<|.bl dI)<|aB (aA 2) aD) aD)<|aH (bC (aO<|aC (aU dI) (aA 3)<|mC<|.int 4) (cW<|c5 eI (aA 4)<|aB (aG (f k "tie_of")<|aB (aC aE (aA 0)<|aC aW (aC bD (aA 1)<|mC<|.int 2)<|mC<|.int 4)<|aB (aC aE (aA 0)<|aC aW (aC bD (aA 1)<|mC<|.int 3)<|mC<|.int 4)<|aB (mC<|.bl d7)<|aB (aA 2) aD) aD) bE)<|aN<|aA 4) [b0 d0,b0 d1,b0 d2,b5,b5] a):=by kernel_rfl
def UT k d0 d1 a:f (k+1) "ties_at" [d0,d1] a=fin ((aH (aL 2<|aG (f k "creases_at")<|aB (aA 0)<|aB (aA 1) aD)<|aH (aL 3<|aG (f k "gaps_at")<|aB (aA 0)<|aB (aA 1) aD)<|aH (bC (aO<|aC (aU dI) (aG bO<|aB (aA 2) aD)<|mC<|.int 2) (aN<|bZ<|aB (aG (f k "tie_of")<|aB (aC aE (aA 2)<|mC<|.int 0)<|aB (aC aE (aA 2)<|mC<|.int 1)<|aB (mC<|.bl d7)<|aB (aA 1) aD) aD) bE)<|aH (aL 4<|bZ aD)<|aH (b8 (gW<|aB (aG bO<|aB (aA 2) aD) aD) (cC 5)<|bC (c7<|aG (f k "is_least")<|aB (aA 3)<|aB (aA 5) aD) (cW<|c5 lO (aA 4)<|aB (aG (f k "ties_of_gap")<|aB (aA 2)<|aB (aA 5)<|aB (aA 1) aD) aD) bE)<|aN<|aA 4) [b0 d0,b0 d1,b5,b5,b5,b5] a):=by kernel_rfl
def UU k d0 a:f (k+1) "ties" [d0] a=fin ((aH (cW<|aG (f k "check_corners")<|aB (aA 0) aD)<|aH (aL 1<|bZ aD)<|aH (b8 (bV<|aG (f k "corners_in")<|aB (aC aE (aA 0)<|mC<|.int 0)<|aB (aC aE (aA 0)<|mC<|.int 1) aD) (cC 2)<|cW<|c5 lO (aA 1)<|aB (aG (f k "ties_at")<|aB (aA 0)<|aB (aA 2) aD) aD)<|aN<|aG oS<|aB (aA 1) aD) [b0 d0,b5,b5] a):=by kernel_rfl
def UW k d0 a:f (k+1) "walked_back" [d0] a=fin ((aN<|aZ<|aB (aC aE (aA 0)<|mC<|.int 1)<|aB (aC aE (aA 0)<|mC<|.int 0)<|aB (aC aE (aA 0)<|mC<|.int 2)<|aB (aC aE (aA 0)<|mC<|.int 3) aD) [b0 d0] a):=by kernel_rfl
def UX k d0 a:f (k+1) "steps_from" [d0] a=fin ((aH (aL 1 i9)<|aH (b8 (bV<|aG (f k "ties")<|aB (aA 0) aD) (cC 2)<|aH (cW<|c5 eI (iI gK (aA 1)<|aB (aC aE (aA 2)<|mC<|.int 0)<|aB (bZ aD) aD)<|aB (aA 2) aD)<|cW<|c5 eI (iI gK (aA 1)<|aB (aC aE (aA 2)<|mC<|.int 1)<|aB (bZ aD) aD)<|aB (aG (f k "walked_back")<|aB (aA 2) aD) aD)<|aN<|aA 1) [b0 d0,b5,b5] a):=by kernel_rfl
def UY k d0 a:f (k+1) "is_marked" [d0] a=fin ((aN<|zF Ba<|aA 0) [b0 d0] a):=by kernel_rfl
def UZ k d0 a:f (k+1) "marked_creases" [d0] a=fin ((aN<|eS (jP 2) (bV<|aC aE (aA 0)<|mC<|.int 2) (c7<|aG (f k "is_marked")<|aB (aA 2) aD)<|aA 1) [b0 d0] a):=by kernel_rfl
def U0 k d0 d1 a:f (k+1) "last_steps" [d0,d1] a=fin ((aH (aL 2 i9)<|aH (b8 (bV<|aA 1) (cC 3)<|i7 (aA 2) (aA 3)<|mC .non)<|aH (aL 4<|aG jU<|aB (aA 1) aD)<|aH (mO nC (c7<|aA 4) Bn)<|aN<|aA 2) [b0 d0,b0 d1,b5,b5,b5,b5,b5] a):=by kernel_rfl
def U1 k d0 d1 a:f (k+1) "way_by" [d0,d1] a=fin ((aH (aL 2<|bZ aD)<|aH (aL 3<|aC aE (aA 0)<|aA 1)<|aH (mO nC (aO<|aC (eY d7) (aA 3)<|mC .non)<|aH (cW<|c5 eI (aA 2)<|aB (aA 3) aD)<|aL 3<|aC aE (aA 0)<|aC aE (aA 3)<|mC<|.int 0)<|aN<|aG mS<|aB (aA 2) aD) [b0 d0,b0 d1,b5,b5] a):=by kernel_rfl
def U2 k d0 a:f (k+1) "is_alike" [d0] a=fin ((aN<|aC (aU dI) (aC aW (aG bO<|aB (eH (bV<|aA 0) (fJ<|c7<|aC aE (aA 1)<|mC<|.int 2)<|aA 1) aD)<|mC<|.int 2)<|mC<|.int 0) [b0 d0] a):=by kernel_rfl
def U3 k d0 a:f (k+1) "back_by" [d0] a=fin ((aN<|eH (rZ<|aB (aA 0) aD) eF<|aG (f k "walked_back")<|aB (aA 1) aD) [b0 d0] a):=by kernel_rfl
def U4 k d0 d1 a:f (k+1) "round_by_step" [d0,d1] a=fin ((aN<|aC bD (aC bD (aG (f k "way_by")<|aB (aA 0)<|aB (aC aE (aA 1)<|mC<|.int 0) aD)<|bZ<|aB (aA 1) aD)<|aG (f k "back_by")<|aB (aG (f k "way_by")<|aB (aA 0)<|aB (aC aE (aA 1)<|mC<|.int 1) aD) aD) [b0 d0,b0 d1] a):=by kernel_rfl
def U5 k d0 d1 d2 a:f (k+1) "round_within" [d0,d1,d2] a=fin ((aH (aL 3<|aG (f k "last_steps")<|aB (aA 0)<|aB (bZ<|aB (aA 2) aD) aD)<|aH (oN 3 (b8 (mV<|aA 3) (cC 4)<|Br k) dR)<|aN<|mC .non) [b0 d0,b0 d1,b0 d2,b5,b5,b5,b5,b5] a):=by kernel_rfl
def U6 k d0 a:f (k+1) "round_of" [d0] a=fin ((aH (aL 1<|aG (f k "steps_from")<|aB (aA 0) aD)<|aH (aL 2<|aG (f k "marks_in")<|aB (aA 0) aD)<|aH (aL 3 i9)<|aH (b8 (bV<|aC bD (aG (f k "marked_creases")<|aB (aA 0) aD)<|aG jU<|aB (aA 2) aD) (cC 4)<|Bs k)<|aN<|mC .non) [b0 d0,b5,b5,b5,b5,b5] a):=by kernel_rfl
def U7 k d0 d1 d2 a:f (k+1) "laying_by" [d0,d1,d2] a=fin ((aN<|aZ<|aB (aC cX (aC aE (aA 1)<|mC<|.int 0)<|aC aE (aA 0)<|mC<|.int 0)<|aB (aC cX (aC aE (aA 2)<|mC<|.int 0)<|aC aE (aA 0)<|mC<|.int 0)<|aB (aC cX (aC aE (aA 1)<|mC<|.int 1)<|aC aE (aA 0)<|mC<|.int 1)<|aB (aC cX (aC aE (aA 2)<|mC<|.int 1)<|aC aE (aA 0)<|mC<|.int 1)<|aB (aC aE (aA 0)<|mC<|.int 0)<|aB (aC aE (aA 0)<|mC<|.int 1) aD) [b0 d0,b0 d1,b0 d2] a):=by kernel_rfl
def U8 k d0 a:f (k+1) "mirror_in" [d0] a=fin ((aN<|aG (f k "laying_by")<|aB (aG (f k "mirrored")<|aB (aZ<|aB (mC<|.int 0)<|aB (mC<|.int 0) aD)<|aB (aA 0) aD)<|aB (aG (f k "mirrored")<|aB (aZ<|aB (mC<|.int 1)<|aB (mC<|.int 0) aD)<|aB (aA 0) aD)<|aB (aG (f k "mirrored")<|aB (aZ<|aB (mC<|.int 0)<|aB (mC<|.int 1) aD)<|aB (aA 0) aD) aD) [b0 d0] a):=by kernel_rfl
def U9 k d0 d1 a:f (k+1) "led" [d0,d1] a=fin ((aH (aL 2<|aC aE (aA 1)<|mC<|.int 0)<|aH (aL 3<|aC aE (aA 1)<|mC<|.int 1)<|aN<|aZ<|aB (aC bD (aC bD (aC cL (aC aE (aA 0)<|mC<|.int 0)<|aA 2)<|aC cL (aC aE (aA 0)<|mC<|.int 1)<|aA 3)<|aC aE (aA 0)<|mC<|.int 4)<|aB (aC bD (aC bD (aC cL (aC aE (aA 0)<|mC<|.int 2)<|aA 2)<|aC cL (aC aE (aA 0)<|mC<|.int 3)<|aA 3)<|aC aE (aA 0)<|mC<|.int 5) aD) [b0 d0,b0 d1,b5,b5] a):=by kernel_rfl
def Va k d0 d1 a:f (k+1) "then" [d0,d1] a=fin ((aN<|aG (f k "laying_by")<|aB (aG (f k "led")<|aB (aA 1)<|aB (aG (f k "led")<|aB (aA 0)<|aB (aZ<|aB (mC<|.int 0)<|aB (mC<|.int 0) aD) aD) aD)<|aB (aG (f k "led")<|aB (aA 1)<|aB (aG (f k "led")<|aB (aA 0)<|aB (aZ<|aB (mC<|.int 1)<|aB (mC<|.int 0) aD) aD) aD)<|aB (aG (f k "led")<|aB (aA 1)<|aB (aG (f k "led")<|aB (aA 0)<|aB (aZ<|aB (mC<|.int 0)<|aB (mC<|.int 1) aD) aD) aD) aD) [b0 d0,b0 d1] a):=by kernel_rfl
def Vb k d0 d1 a:f (k+1) "_law_nth" [d0,d1] a=fin ((aN<|kG (aO<|aC dO (aA 1)<|aG bO<|aB (aA 0) aD) (aC aE (aA 0)<|aA 1)<|mC<|.int 0) [b0 d0,b0 d1] a):=by kernel_rfl
def Vc k d0 d1 d2 a:f (k+1) "_law_folded" [d0,d1,d2] a=fin ((aH (aL 3 i9)<|aH (b8 (sJ<|aA 0) (eW [4,5])<|Bg k)<|aN<|aA 3) [b0 d0,b0 d1,b0 d2,b5,b5,b5] a):=by kernel_rfl
def Vd k d0 d1 d2 a:f (k+1) "_law_folds" [d0,d1,d2] a=fin ((aH (aL 3 i9)<|aH (b8 (bV<|aG (f k "quarters_in")<|aB (aC aE (aA 2)<|mC<|.int 0)<|aB (aC aE (aA 2)<|mC<|.int 1) aD) (cC 4)<|i7 (aA 3) (aA 4)<|mC GQ)<|aH (aL 5<|aG (f k "edges_in")<|aB (aC aE (aA 2)<|mC<|.int 0)<|aB (aC aE (aA 2)<|mC<|.int 1) aD)<|aH (b8 (gW<|aB (aC aW (aC c6 (aG (f k "_law_nth")<|aB (aA 0)<|aB (aA 1) aD)<|mC<|.int 54)<|mC<|.int 6) aD) (cC 6)<|Bh k)<|aN<|eH (bV<|aA 5) (aO<|aC (aU d7) (aC aE (aA 3)<|aC aE (aG (f k "sides_of")<|aB (aA 9) aD)<|mC<|.int 0)<|aC aE (aA 3)<|aC aE (aG (f k "sides_of")<|aB (aA 9) aD)<|mC<|.int 1)<|aA 9) [b0 d0,b0 d1,b0 d2,b5,b5,b5,b5,b5,b5] a):=by kernel_rfl
def Ve k d0 d1 a:f (k+1) "_law_gaps" [d0,d1] a=fin ((aH (bC (aO<|aC (aU dI) (aC aW (aC aE (aA 1)<|mC<|.int 0)<|mC<|.int 4)<|mC<|.int 2) (aN<|aC aE (bZ<|aB (bZ<|aB (mC<|.int 2)<|aB (mC<|.int 2)<|aB (mC<|.int 2)<|aB (mC<|.int 2) aD)<|aB (bZ<|aB (mC<|.int 4)<|aB (mC<|.int 4) aD) aD)<|aC aW (aA 0)<|mC<|.int 2) bE)<|aH (aL 2<|aC aW (aC c6 (aA 0)<|mC<|.int 6)<|mC<|.int 3)<|aH (aL 3<|aC aW (aC c6 (aA 0)<|mC<|.int 18)<|mC<|.int 3)<|aH (bC (aO<|aC (aU dI) (aC aW (aA 0)<|mC<|.int 6)<|mC<|.int 0) (aN<|bZ<|aB (mC<|.int 4)<|aB (mC<|.int 4) aD) bE)<|aH (bC (aO<|aC (aU dI) (aC aW (aA 0)<|mC<|.int 6)<|mC<|.int 1) (aH (aL 4<|bZ<|aB (mC<|.int 2)<|aB (mC<|.int 1)<|aB (mC<|.int 1)<|aB (mC<|.int 2)<|aB (mC<|.int 1) aD)<|aH (aL 5<|bZ aD)<|aH (b8 (gW<|aB (mC<|.int 3) aD) (cC 6) Bi)<|aN<|aA 5) bE)<|aN<|bZ<|aB (aC bD (aA 2)<|mC<|.int 1)<|aB (aC bD (aA 3)<|mC<|.int 1)<|aB (aC cX (mC<|.int 3)<|aA 2)<|aB (aC cX (mC<|.int 3)<|aA 3) aD) [b0 d0,b0 d1,b5,b5,b5,b5,b5] a):=by kernel_rfl
def Vf k d0 d1 a:f (k+1) "_law_star" [d0,d1] a=fin ((aH (aL 2<|bZ<|aB (aZ<|aB (mC<|.int 2)<|aB (mC<|.int 0) aD)<|aB (aZ<|aB (mC<|.int 1)<|aB (mC<|.int 1) aD)<|aB (aZ<|aB (mC<|.int 0)<|aB (mC<|.int 2) aD)<|aB (aZ<|aB (fA<|mC<|.int 1)<|aB (mC<|.int 1) aD)<|aB (aZ<|aB (fA<|mC<|.int 2)<|aB (mC<|.int 0) aD)<|aB (aZ<|aB (fA<|mC<|.int 1)<|aB (fA<|mC<|.int 1) aD)<|aB (aZ<|aB (mC<|.int 0)<|aB (fA<|mC<|.int 2) aD)<|aB (aZ<|aB (mC<|.int 1)<|aB (fA<|mC<|.int 1) aD) aD)<|aH (aL 3<|aG (f k "corners_in")<|aB (aC aE (aA 0)<|mC<|.int 0)<|aB (aC aE (aA 0)<|mC<|.int 1) aD)<|aH (aL 4<|aC aE (aA 3)<|aC aW (aA 1)<|aG bO<|aB (aA 3) aD)<|aH (aL 5<|bZ aD)<|aH (aL 6<|aC aW (aC c6 (aA 1)<|mC<|.int 32)<|mC<|.int 8)<|aH (bC (aO<|aC (aU dI) (aC aW (aC aE (aA 4)<|mC<|.int 0)<|mC<|.int 4)<|mC<|.int 2) (aL 6<|aC bD (aC cL (aC aW (aC c6 (aA 1)<|mC<|.int 32)<|mC<|.int 4)<|mC<|.int 2)<|mC<|.int 1) bE)<|aH (b8 (bV<|aG (f k "_law_gaps")<|aB (aC c6 (aA 1)<|mC<|.int 256)<|aB (aA 4) aD) (cC 7) wR)<|aN<|aA 5) [b0 d0,b0 d1,b5,b5,b5,b5,b5,b5,b5,b5,b5,b5] a):=by kernel_rfl
def Vg k d0 d1 d2 a:f (k+1) "_law_creases" [d0,d1,d2] a=fin ((aH (aL 3<|aC aW (aC c6 (aG (f k "_law_nth")<|aB (aA 0)<|aB (aA 1) aD)<|mC<|.int 9)<|mC<|.int 6)<|aH (bC (aO<|aC dO (aA 3)<|mC<|.int 3) (aN<|aG (f k "_law_folds")<|aB (aA 0)<|aB (aA 1)<|aB (aA 2) aD) bE)<|aH (aL 4<|bZ aD)<|aH (b8 (gW<|aB (aC aE (bZ<|aB (mC<|.int 1)<|aB (mC<|.int 1)<|aB (mC<|.int 2) aD)<|aC cX (aA 3)<|mC<|.int 3) aD) (cC 5)<|GW k)<|aN<|aA 4) [b0 d0,b0 d1,b0 d2,b5,b5,b5,b5] a):=by kernel_rfl
def Vh k a:f (k+1) "_law_square" [] a=fin ((aH (aL 0<|bZ<|aB (aZ<|aB (mC<|.int 6)<|aB (mC<|.int 4) aD)<|aB (aZ<|aB (mC<|.int 8)<|aB (mC<|.int 6) aD)<|aB (aZ<|aB (mC<|.int 6)<|aB (mC<|.int 8) aD)<|aB (aZ<|aB (mC<|.int 4)<|aB (mC<|.int 6) aD)<|aB (aZ<|aB (mC<|.int 3)<|aB (mC<|.int 3) aD)<|aB (aZ<|aB (mC<|.int 1)<|aB (mC<|.int 1) aD)<|aB (aZ<|aB (mC<|.int 3)<|aB (mC<|.int 5) aD)<|aB (aZ<|aB (mC<|.int 1)<|aB (mC<|.int 7) aD)<|aB (aZ<|aB (mC<|.int 7)<|aB (mC<|.int 3) aD)<|aB (aZ<|aB (mC<|.int 5)<|aB (mC<|.int 1) aD)<|aB (aZ<|aB (mC<|.int 9)<|aB (mC<|.int 3) aD)<|aB (aZ<|aB (mC<|.int 11)<|aB (mC<|.int 1) aD) aD)<|aN<|aC bD (aA 0)<|bZ<|aB (aZ<|aB (mC<|.int 9)<|aB (mC<|.int 7) aD)<|aB (aZ<|aB (mC<|.int 11)<|aB (mC<|.int 5) aD)<|aB (aZ<|aB (mC<|.int 9)<|aB (mC<|.int 9) aD)<|aB (aZ<|aB (mC<|.int 11)<|aB (mC<|.int 11) aD)<|aB (aZ<|aB (mC<|.int 5)<|aB (mC<|.int 9) aD)<|aB (aZ<|aB (mC<|.int 7)<|aB (mC<|.int 11) aD)<|aB (aZ<|aB (mC<|.int 3)<|aB (mC<|.int 9) aD)<|aB (aZ<|aB (mC<|.int 1)<|aB (mC<|.int 11) aD) aD) [b5] a):=by kernel_rfl
def Vi k d0 d1 a:f (k+1) "_law_any_sheet" [d0,d1] a=fin ((aH (aL 2<|aZ<|aB (aC bD (mC<|.int 1)<|aC aW (aA 1)<|mC<|.int 6)<|aB (aC bD (mC<|.int 1)<|aC aW (aC c6 (aA 1)<|mC<|.int 6)<|mC<|.int 6) aD)<|aH (aL 3<|bZ aD)<|aH (b8 (bV<|aG (f k "edges_in")<|aB (aC aE (aA 2)<|mC<|.int 0)<|aB (aC aE (aA 2)<|mC<|.int 1) aD) (cC 4) Bl)<|aN<|aG (f k "sheet_of")<|aB (aC aE (aA 2)<|mC<|.int 0)<|aB (aC aE (aA 2)<|mC<|.int 1)<|aB (aA 3) aD) [b0 d0,b0 d1,b5,b5,b5] a):=by kernel_rfl
def Vj k d0 d1 a:f (k+1) "_law_sheet" [d0,d1] a=fin ((aH (bC (eD (aO<|aC (aU dI) (aC aW (aG (f k "_law_nth")<|aB (aA 0)<|aB (aC bD (aA 1)<|mC<|.int 8) aD)<|mC<|.int 2)<|mC<|.int 1)<|gR (aO<|aC kJ (aG (f k "_law_nth")<|aB (aA 0)<|aB (aC bD (aA 1)<|mC<|.int 9) aD)<|mC<|.int 4096)<|aO<|aC dO (aG (f k "_law_nth")<|aB (aA 0)<|aB (aC bD (aA 1)<|mC<|.int 9) aD)<|mC<|.int 0) (aN<|aG (f k "_law_any_sheet")<|aB (aG (f k "_law_nth")<|aB (aA 0)<|aB (aC bD (aA 1)<|mC<|.int 9) aD)<|aB (aG (f k "_law_nth")<|aB (aA 0)<|aB (aC bD (aA 1)<|mC<|.int 10) aD) aD) bE)<|aH (aL 2<|aG (f k "_law_nth")<|aB (aA 0)<|aB (aA 1) aD)<|aH (aL 3<|aZ<|aB (aC bD (mC<|.int 1)<|aC aW (aA 2)<|mC<|.int 3)<|aB (aC bD (mC<|.int 1)<|aC aW (aC c6 (aA 2)<|mC<|.int 3)<|mC<|.int 3) aD)<|aH (bC (eD (aO<|gG dO dO (mC<|.int 2) (aC aW (aC c6 (aA 2)<|mC<|.int 9)<|mC<|.int 6)<|mC<|.int 5)<|aO<|aC (aU dI) (aC aW (aC c6 (aA 2)<|mC<|.int 5184)<|mC<|.int 4)<|mC<|.int 1) (aL 3<|aZ<|aB (aC bD (aC aE (aA 3)<|mC<|.int 0)<|mC<|.int 3)<|aB (aC bD (aC aE (aA 3)<|mC<|.int 1)<|mC<|.int 3) aD) bE)<|aH (aL 4<|aG (f k "_law_creases")<|aB (aA 0)<|aB (aA 1)<|aB (aA 3) aD)<|aH (bC (eD (aO<|aC (aU dI) (aC aW (aC c6 (aA 2)<|mC<|.int 9)<|mC<|.int 6)<|mC<|.int 5)<|aO<|aC (aU dI) (aC aW (aC c6 (aA 2)<|mC<|.int 5184)<|mC<|.int 4)<|mC<|.int 1) (aH (aL 3<|aZ<|aB (mC<|.int 3)<|aB (mC<|.int 3) aD)<|aL 4<|aG (f k "_law_square") aD) bE)<|Bk k) [b0 d0,b0 d1,b5,b5,b5,b5,b5,b5,b5,b5] a):=by kernel_rfl
def Vk k d0 d1 a:f (k+1) "_law_round_a" [d0,d1] a=fin ((aH (aL 2<|bZ<|aB (aZ<|aB (mC<|.int 2)<|aB (mC<|.int 0) aD)<|aB (aZ<|aB (mC<|.int 1)<|aB (mC<|.int 1) aD)<|aB (aZ<|aB (mC<|.int 0)<|aB (mC<|.int 2) aD)<|aB (aZ<|aB (fA<|mC<|.int 1)<|aB (mC<|.int 1) aD)<|aB (aZ<|aB (fA<|mC<|.int 2)<|aB (mC<|.int 0) aD)<|aB (aZ<|aB (fA<|mC<|.int 1)<|aB (fA<|mC<|.int 1) aD)<|aB (aZ<|aB (mC<|.int 0)<|aB (fA<|mC<|.int 2) aD)<|aB (aZ<|aB (mC<|.int 1)<|aB (fA<|mC<|.int 1) aD) aD)<|aH (bC (aO<|aC (aU dI) (aC aW (aC aE (aA 1)<|mC<|.int 0)<|mC<|.int 4)<|mC<|.int 2) (aL 2<|eH (qB<|aB (mC<|.int 1)<|aB (mC<|.int 8)<|aB (mC<|.int 2) aD) eF<|aC aE (aA 2)<|aA 8) bE)<|aH (aL 4<|eS (jP 2) (bV<|aA 2) eF<|aZ<|aB (aC bD (aC aE (aA 1)<|mC<|.int 0)<|aA 8)<|aB (aC bD (aC aE (aA 1)<|mC<|.int 1)<|aA 9) aD)<|aH (aL 5<|eH (gW<|aB (aG bO<|aB (aA 4) aD) aD) (aO<|aC (c4 dI) (aC aE (aA 4)<|aA 8)<|aA 0)<|aA 8)<|aH (aL 6<|bZ aD)<|aH (b8 (gW<|aB (aG bO<|aB (aA 5) aD) aD) (cC 3) Bc)<|aN<|aZ<|aB (eH (bV<|aA 5) eF<|aC aE (aA 4)<|aA 8)<|aB (aA 6) aD) [b0 d0,b0 d1,b5,b5,b5,b5,b5,b5] a):=by kernel_rfl
def Vl k d0 a:f (k+1) "_law_inner" [d0] a=fin ((aH (aL 1<|bZ aD)<|aH (b8 (mM<|aB (mC<|.int 1)<|aB (aC cL (mC<|.int 4)<|aC aE (aA 0)<|mC<|.int 0) aD) (cC 2)<|b8 (mM<|aB (mC<|.int 1)<|aB (aC cL (mC<|.int 4)<|aC aE (aA 0)<|mC<|.int 1) aD) (cC 3) Bb)<|aN<|aA 1) [b0 d0,b5,b5,b5] a):=by kernel_rfl
def Vm k d0 a:f (k+1) "_law_barred" [d0] a=fin ((aH (aL 1<|eS (jP 2) (bV<|aC aE (aA 0)<|mC<|.int 2) eF<|aA 4)<|aH (b8 (bV<|aG (f k "_law_inner")<|aB (aA 0) aD) (cC 2)<|Bf k)<|aN<|mC .non) [b0 d0,b5,b5,b5] a):=by kernel_rfl
def Vn k d0 d1 d2 d3 a b:f (k+1) "_law_tie" [d0,d1,d2,d3,a] b=fin ((aH (aL 5<|aC aE (aA 0)<|aC aW (aA 1)<|aG bO<|aB (aA 0) aD)<|aH (aL 6<|aC aE (aA 0)<|aC aW (aA 2)<|aG bO<|aB (aA 0) aD)<|aN<|aZ<|aB (aG oQ<|aB (aA 5)<|aB (aA 6) aD)<|aB (aG sM<|aB (aA 5)<|aB (aA 6) aD)<|aB (aA 3)<|aB (aA 4) aD) [b0 d0,b0 d1,b0 d2,b0 d3,b0 a,b5,b5] b):=by kernel_rfl
def Vo k d0 a:f (k+1) "_law_ties" [d0] a=fin ((aH (aL 1<|eS (jP 2) (bV<|aC aE (aA 0)<|mC<|.int 2) eF<|aA 8)<|aH (aL 2<|bZ aD)<|aH (b8 (bV<|aG (f k "_law_inner")<|aB (aA 0) aD) (cC 3)<|Be k)<|aN<|aG oS<|aB (aA 2) aD) [b0 d0,b5,b5,b5,b5,b5,b5,b5] a):=by kernel_rfl
def Vp k d0 d1 a:f (k+1) "_law_groups" [d0,d1] a=fin ((aH (aL 2 i9)<|aH (b8 (bV<|aC aE (aA 0)<|mC<|.int 2) (eW [3,4])<|i7 (aA 2) (aA 3)<|aZ<|aB (aA 3)<|aB (mC<|.int 0) aD)<|aH (b8 (bV<|aA 1) (eW [3,5,6,7]) Bp)<|aN<|aA 2) [b0 d0,b0 d1,b5,b5,b5,b5,b5,b5,b5,b5,b5,b5,b5,b5] a):=by kernel_rfl
def Vq k d0 d1 a:f (k+1) "_law_told" [d0,d1] a=fin ((aH (aL 2 i9)<|aH (b8 (bV<|aC aE (aA 0)<|mC<|.int 2) (eW [3,4]) Bq)<|aN<|aA 2) [b0 d0,b0 d1,b5,b5,b5,b5,b5,b5] a):=by kernel_rfl
def Vr k d0 d1 a:f (k+1) "_law_steps" [d0,d1] a=fin ((aH (bC (fJ<|c7<|aG f9<|aB (aA 0)<|aB (mC<|.ty "list") aD) (aN<|mC<|.bl dI) bE)<|aH (b8 (oG<|aB (aA 0) aD) (eW [2,3]) G2)<|aN<|mC<|.bl d7) [b0 d0,b0 d1,b5,b5] a):=by kernel_rfl
def Vs k d0 a:f (k+1) "_law_odd" [d0] a=fin ((aN<|aC (aU dI) (aC aW (aG bO<|aB (eH (bV<|aA 0) (fJ<|c7<|aC aE (aA 1)<|mC<|.int 2)<|aA 1) aD)<|mC<|.int 2)<|mC<|.int 1) [b0 d0] a):=by kernel_rfl
def Vt k d0 d1 d2 a:f (k+1) "_law_is_round" [d0,d1,d2] a=fin ((aH (bC (gR (fJ<|c7<|aG (f k "_law_steps")<|aB (aA 0)<|aB (aA 1) aD)<|aO<|aC (aU dI) (aA 0)<|bZ aD) (aN<|mC<|.bl dI) bE)<|aH (aL 3 i9)<|aH (b8 (bV<|aC aE (aA 2)<|mC<|.int 2) (eW [4,5])<|i7 (aA 3) (aA 4)<|aA 5)<|aH (aL 6<|aC aE (aC aE (aA 0)<|mC<|.int 0)<|mC<|.int 0)<|aH (aL 7<|aC aE (aC aE (aA 0)<|fA<|mC<|.int 1)<|mC<|.int 1)<|aH (bC (eD (aO<|aC (aU dI) (aA 6)<|aA 7)<|c7<|aG (f k "_law_odd")<|aB (aA 0) aD) (aN<|mC<|.bl d7) bE)<|Bt k) [b0 d0,b0 d1,b0 d2,b5,b5,b5,b5,b5] a):=by kernel_rfl
def Vu k d0 a:f (k+1) "law" [d0] a=fin ((aH (aL 1<|aG (f k "_law_sheet")<|aB (aA 0)<|aB (mC<|.int 0) aD)<|aH (bC (aO<|aC (eY d7) (aG (f k "_law_barred")<|aB (aA 1) aD)<|mC .non) (aN<|mC<|.bl d7) bE)<|aH (aL 2<|aG (f k "_law_ties")<|aB (aA 1) aD)<|aH (aL 3<|aG (f k "_law_groups")<|aB (aA 1)<|aB (aA 2) aD)<|aH (aL 4<|aG (f k "round_of")<|aB (aA 1) aD)<|aH (bC (eD (aO<|aC (eY d7) (aA 3)<|mC .non)<|aO<|aC (eY d7) (aG (f k "_law_told")<|aB (aA 1)<|aB (aA 3) aD)<|mC .non) (aN<|aC (eY dI) (aA 4)<|mC .non) bE)<|aN<|aG (f k "_law_is_round")<|aB (aA 4)<|aB (aA 2)<|aB (aA 1) aD) [b0 d0,b5,b5,b5,b5] a):=by kernel_rfl
def w_mul2{Q:jz}:W (cL (.int 2) (.int z) a) Q↔Q (.int<|2*z,a):=nG<|.inl ⟨by decide,by decide⟩
def w_mul4{Q:jz}:W (cL (.int 4) (.int z) a) Q↔Q (.int<|4*z,a):=nG<|.inl ⟨by decide,by decide⟩
def w_mod2{Q:jz}:W (aW (.int z) (.int 2) a) Q↔Q (.int<|z%2,a):=dM<|by decide
def G5{Q:jz}:W (aW (.int z) (.int 4) a) Q↔Q (.int<|z%4,a):=dM<|by decide
def Vv:(2:Nat)<=YM:=by decide
def jW:([a,b]:List D).length<=YM:=Vv
def Vx:(1:Nat)<=YM:=by decide
def G6:([a]:List D).length<=YM:=Vx
abbrev pE:D->Int
 |.int i=>i|_=>0
def Vy(h:d∈iM lo n):∃j,j<n/\d=.int (lo+(j:Int)):=by unfold iM at h;obtain⟨j,a,rfl⟩:=YO.mp h;show⟨j,ZR.mp a,rfl⟩
def wU{C:MS}{Q:jz}(h:a d c=b0 (.nx,b,μ'))(k:W (fin<|C b μ') Q):W (fin<|aH a C d c) Q:=by unfold aH;rw[h];show k
def G7(h:m a b=b0 (d,μ')):aL i m a b=b0 (.nx,a.set i<|b0 d,μ'):=by unfold aL;rw[h];rfl
def G8{o:Option a}{r:a}{Q:a->Prop}(h:W o λx=>x=r):W o Q↔Q r:=by obtain⟨_,h,rfl⟩:=h;rw[h];show W_some
def G9{o:Option a}{r:a}(h:∀Q,W o Q↔Q r):o=b0 r:=by obtain⟨_,e,b⟩:=(h λx=>x=r).mpr rfl;rw[e,b]
def aY{o:Option α}{r:α}{Q:α->Prop}(h:o=b0 r)(q:Q r):W o Q:=⟨r,h,q⟩
def bS{Q:jz}(e:o=fin a)(h:W a λp=>match p.1 with|.rt d=>Q (d,p.2.2)|.nx=>Q (.non,p.2.2)|_=>False):W o Q:=e▸W_fin.mpr h
def aS{C:MS}(h:W (m ρ μ) λp=>W (C (ρ.set i<|b0 p.1) p.2) R):W (aH (aL i m) C ρ μ) R:=w_mSeq.mpr<|w_mSet.mpr h
def dN{C:MS}(h:W (A ρ μ) λp=>p.1=.nx/\W (C p.2.1 p.2.2) R):W (aH A C ρ μ) R:=w_mSeq.mpr<|bN h λp q=>by rw[q.1];show q.2
def l7{C:MS}(h:W (m ρ μ) λp=>W (C ρ p.2) R):W (aH (cW m) C ρ μ) R:=w_mSeq.mpr<|w_mDrop.mpr h
def bT(h:W (m ρ μ) λp=>R (.rt p.1,ρ,p.2)):W (aN m ρ μ) R:=w_mRet.mpr h
def aK{ds:List D}{Q:jz}(h:ms ρ μ=b0 (ds,μ'))(k:W (g ds μ') Q):W (aG g ms ρ μ) Q:=w_mCall.mpr ⟨_,h,k⟩
def eV{Q:jz}(h:W (ms ρ μ) λp=>W (g p.1 p.2) Q):W (aG g ms ρ μ) Q:=w_mCall.mpr h
def aX(h:W (m ρ μ) λp=>W (ms ρ p.2) λq=>Q (p.1::q.1,q.2)):W (aB m ms ρ μ) Q:=w_mCons.mpr h
def wV{Q:jz}(h:W (m ρ μ) λp=>W (g [p.1] p.2) Q):W (aG g (aB m aD) ρ μ) Q:=w_mCall.mpr<|w_mCons.mpr<|bN h λ_ q=>⟨_,rfl,q⟩
def fE{C:MS}(h:t ρ μ=b0 (b,μ'))(h1:b=d7->W (aH A C ρ μ') R)(a:b=dI->W (aH B C ρ μ') R):W (aH (bC t A B) C ρ μ) R:=by
 show w_mSeq.mpr<|w_mIfS.mpr ⟨_,h,?_⟩;cases b
 .show w_mSeq.mp<|a rfl
 .show w_mSeq.mp<|h1 rfl
def Bv{C:MS}(h:W (t ρ μ) λp=>p.1=d7/\W (aH A C ρ p.2) R):W (aH (bC t A B) C ρ μ) R:=w_mSeq.mpr<|w_mIfS.mpr<|bN h λp q=>by rw[if_pos q.1];show w_mSeq.mp q.2
def jE{C:MS}(h:W (t ρ μ) λp=>p.1=dI/\W (aH B C ρ p.2) R):W (aH (bC t A B) C ρ μ) R:=w_mSeq.mpr<|w_mIfS.mpr<|bN h λp q=>by rw[if_neg<|by rw[q.1];show YE];show w_mSeq.mp q.2
def tF{C:MS}(h:W (aH A (aH B C) ρ μ) R):W (aH (aH A B) C ρ μ) R:=w_mSeq.mpr<|w_mSeq.mpr<|bN (w_mSeq.mp h) λp q=>by
 obtain⟨x,y⟩:=p;cases x with
 |nx=>show w_mSeq.mp q
 |_=>show q
def jF(h:W (t ρ μ) λp=>T (!p.1,p.2)):W (fJ t ρ μ) T:=w_mNotT.mpr h
def d9(h:W (m ρ μ) λp=>p.1=.bl b/\T (b,p.2)):W (c7 m ρ μ) T:=w_mTru.mpr<|bN h λp ⟨e,q⟩=>by rw[e];show w_truB.mpr q
def iN{C:MS}(h:W (m ρ μ) λp=>R (.rt p.1,ρ,p.2)):W (aH (aN m) C ρ μ) R:=w_mSeq.mpr<|w_mRet.mpr h
def cZ{C:MS}(h:W (C ρ μ) R):W (aH bE C ρ μ) R:=w_mSeq.mpr<|w_mNext.mpr h
def b9(h:W (m ρ μ) λp=>∃b,p.1=.bl b/\T (b,p.2)):W (aO m ρ μ) T:=w_mTest.mpr<|bN h λp ⟨b,e,q⟩=>by rw[e];show q
def tG(h:W (s ρ μ) λp=>p.1=dI/\W (t ρ p.2) T):W (gR s t ρ μ) T:=w_mOrT.mpr<|bN h λp q=>by rw[if_neg<|by rw[q.1];show YE];show q.2
def bA{Q:jz}(h1:a ρ μ=b0 (x,μ1))(c:b ρ μ1=b0 (y,μ2))(k:W (h x y μ2) Q):W (aC h a b ρ μ) Q:=w_mOp.mpr ⟨_,h1,_,c,k⟩
def aM{Q:jz}(k:W (a ρ μ) λp=>W (b ρ p.2) λq=>W (h p.1 q.1 q.2) Q):W (aC h a b ρ μ) Q:=w_mOp.mpr k
abbrev tH(x y:Int):Str:=if x%2=1 then(if x%4=y%4 then "falling" else "rising")else if y%4=0 then "level" else "upright"
def Ha k x y a(Q:jz):W (f (k+1) "line_of" [P x y] a) Q↔Q (.str<|tH x y,a):=by rw[Ut,W_fin];simp only[w_mSeq,w_mRet,w_mNext,w_mIfS,w_mIfE,w_mOp,iK,eK,w_mTest,qJ,w_it21,w_eqI,dM<|show(0:Int)<2 by decide,dM<|show(0:Int)<4 by decide];unfold tH;split<;>split<;>simp_all
abbrev jX(x y:Int)(a b:Int):Int:=if x%2=1 then(if x%4=y%4 then a-b else a+b)else if y%4=0 then b else a
def Hb k x y a b c(Q:jz):W (f (k+1) "number_by" [.str<|tH x y,P a b] c) Q↔Q (.int<|jX x y a b,c):=by show G8 ?_;rw[Uy];unfold tH jX;split<;>split<;>show⟨_,rfl,rfl⟩
abbrev iO(p e:Int×Int):Int×Int:=
 if e.1%2=1 then(if e.1%4=e.2%4 then(p.2+(e.1-e.2),p.1-(e.1-e.2))else(e.1+e.2-p.2,e.1+e.2-p.1))else if e.2%4=0 then(p.1,2*e.2-p.2)else(2*e.1-p.1,p.2)
def Vz k x y a b c(Q:jz):W (f (k+2) "mirrored" [P x y,P a b] c) Q↔Q (PP<|iO (x,y) (a,b),c):=by show G8 ?_;rw[UA];show wU rfl<|wU rfl<|wU (G7<|G9<|Ha k a b c)<|wU (G7<|G9<|Hb k a b a b c) ?_;unfold tH jX iO;split<;>split<;>show⟨_,rfl,rfl⟩
abbrev eB:D->Int×Int
 |.tup [.int x,.int y]=>(x,y)|_=>(0,0)
def qK p(l:jq):((l.map PP).filter λd=>p<|eB d).map (λd=>d)=(l.filter p).map PP:=by
 rw[a9S];induction l with
 |nil=>rfl|cons a l b=>
  have e:(a7x PP<|a::l).filter (λd=>p<|eB d)=if p a then PP a::(l.map PP).filter (λd=>p<|eB d)else(l.map PP).filter λd=>p (eB d):=by rw[Za,a3b];rfl
  rw[e,b,a3b];split<;>rfl
def nJ{l:jq}(h:d∈l.map PP):∃x y,d=P x y:=by obtain⟨p,_,rfl⟩:=YO.mp h;show⟨p.1,p.2,rfl⟩
def Hc{n:Nat}{i:Int}(a:0<=i)(h:i<n):mF n i=b0 i.toNat:=by unfold mF;rw[if_pos a,if_pos h]
def VA{gs:List Int}{i:Int}(a:0<=i)(h:i<gs.length):atI (gs.map D.int) i=b0 (.int<|gs.getD i.toNat 0):=by
 unfold atI;rw[Yu,Hc a h,Y9,YU];have b:i.toNat<gs.length:=by lia
 simp[ZV,b]
def VB{Q:jz}(h:atI xs i=b0 d):W (aE (.rol xs) (.int i) a) Q↔Q (d,a):=by
 have:aE (.rol xs) (.int i) a=b0 (d,a):=by simp only[aE,iC,bJ,Y9,h,Zh]
 rw[this];show W_some
abbrev kY:List Int->Int
 |[]=>0|g::r=>g-kY r
abbrev kZ(gs:List Int):Bool:=decide (gs.length<=8)&&decide (gs.length%2=0)&&gs.all (λg=>decide<|1<=g)&&kY gs==0
def VC k i a(Q:jz):W (f (k+1) "is_whole" [.int i] a) Q↔Q (.bl d7,a):=by rw[G3,W_fin];simp only[w_mRet,w_mAndV,w_mNotV,w_mCall,w_mCons,fX,eK,iK,Ua,Ub];simp
def VD:∀gs,gs.length<=8->gs.length%2=0->∃es i:List Int,eZ (gs.map D.int) b5 b5 (b0 2)=es.map D.int/\eZ (gs.map D.int) (b0 1) b5 (b0 2)=i.map D.int/\es.sum-i.sum=kY gs/\es.length<=8/\i.length<=8
 |[],_,_=>⟨[],[],rfl,rfl,rfl,by decide,by decide⟩|[_],_,h=>by simp at h
 |[a,b],_,_=>⟨[a],[b],by kernel_rfl,by kernel_rfl,by simp[kY]<;>lia,by simp,by simp⟩|[_,_,_],_,h=>by simp at h
 |[a,b,c,d],_,_=>⟨[a,c],[b,d],by kernel_rfl,by kernel_rfl,by simp[kY]<;>lia,by simp,by simp⟩|[_,_,_,_,_],_,h=>by simp at h
 |[a,b,c,d,e,g],_,_=>⟨[a,c,e],[b,d,g],by kernel_rfl,by kernel_rfl,by simp[kY]<;>lia,by simp,by simp⟩|[_,_,_,_,_,_,_],_,h=>by simp at h
 |[a,b,c,d,e,g,x,y],_,_=>⟨[a,c,e,x],[b,d,g,y],by kernel_rfl,by kernel_rfl,by simp[kY]<;>lia,by simp,by simp⟩|_::_::_::_::_::_::_::_::_::_,h,_=>absurd h<|by simp
def Hd{gs:List Int}(h:d∈gs.map D.int):∃g∈gs,d=.int g:=by obtain⟨g,a,rfl⟩:=YO.mp h;show⟨g,a,rfl⟩
def wW{a:Type}(l:List a):l.filter (λ_=>d7)=l:=by simp
def He{o:Option a}{r:a}:W o (λx=>x=r)->o=b0 r:=λ⟨_,e,q⟩=>e.trans<|congrArg b0 q
def VE k a gs(hz:gs.length<=8)(c:Hm)(Q:jz)(o:c[a]?=b0 (.lst<|gs.map D.int))(H:∀μ',c<+:μ'->Q (.bl<|kZ gs,μ')):W (f (k+2) "is_good" [.loc a] c) Q:=by
 have r:bO [.loc a] c=b0 (.int (gs.length:Nat),c):=He ((d8 o).mpr<|by rw[Yu]);have y:kZ gs=(decide (gs.length%2=0)&&gs.all (λg=>decide<|1<=g)&&kY gs==0):=by unfold kZ;rw[decide_eq_true hz,a6H]
 rw[y]at H;show bS (UL (k+1) _ c)<|fE (b:=(gs.length:Int)%2==1) (μ':=c) (He<|tG<|b9<|aM<|aK rfl<|aY r ⟨_,rfl,w_gtI.mpr ⟨_,rfl,decide_eq_false<|by lia,b9<|aM<|aM<|aK rfl<|aY r ⟨_,rfl,w_mod2.mpr ⟨_,rfl,w_eqI.mpr ⟨_,rfl,rfl⟩⟩⟩⟩⟩) (λj=>?_) λj=>cZ ?_
 .have j:=beq_iff_eq.mp j;rw[decide_eq_false<|show ¬ gs.length%2=0 by lia]at H;show iN ⟨_,rfl,H _<|YS _⟩
 .have j:=beq_eq_false_iff_ne.mp j;have s:gs.length%2=0:=by lia
  rw[decide_eq_true s,a6H]at H;obtain⟨x,E,v,l,B,K,L⟩:=VD gs hz s;have fin:∀(R:Fl×aF×Hm->Prop) b,c<+:b->(∀I μ',c<+:μ'->R (.rt<|.bl<|kY gs==0,I,μ'))->W (aN (aC (aU dI) (aG jS<|aB (mQ (aA 0) jM jM<|jN<|mC<|.int 2) aD)<|aG jS<|aB (mQ (aA 0) (jN<|mC<|.int 1) jM<|jN<|mC<|.int 2) aD) [b0<|.loc a] b) R:=λR b w z=>by
   have h:=aJ w o;show bT (aM<|wV<|GJ ⟨_,rfl,_,rfl,_,rfl,_,rfl,_,rfl,by change b0 (2:Int)≠b0 0;decide,_,h,by rw[v,Yu,Y2];lia,?_⟩);rw[v];show(A7<|bB _ _).mpr (wV<|GJ ⟨_,rfl,_,rfl,_,rfl,_,rfl,_,rfl,by change b0 (2:Int)≠b0 0;decide,_,aJ (aR _ _) h,by rw[l,Yu,Y2];lia,?_⟩);rw[l];show(A7<|bB _ _).mpr<|w_eqI.mpr ?_;have e:(x.sum==E.sum)=(kY gs==0):=by rw[<- B,a1U,beq_iff_eq,beq_iff_eq];lia
   rw[e];show z _ _<|w.trans<|(aR _ _).trans<|aR _ _
  show w_mSeq.mpr<|w_mIfS.mpr<|jF<|d9 (b:=gs.all λg=>decide<|1<=g)<|wV<|fY (xs:=gs.map D.int) (p:=λ_=>d7) (v:=λd=>.bl<|decide<|1<=pE d)<|w_iSeq.mpr ⟨_,rfl,(cN o).mpr ⟨iL o,rfl,by rw[Yu,Y2];lia,λd μ' hd A=>w_mTrue.mpr ⟨rfl,YS _⟩,λd μ' hd _ A=>?_,λb n p=>?_⟩⟩
  .obtain⟨g,_,rfl⟩:=Hd hd;show w_mAndV.mpr<|aK rfl<|(VC k g _ _).mpr<|(if_pos rfl).mpr<|bA rfl rfl<|w_geI.mpr ⟨rfl,YS _⟩
  .have i:b[c.length]?=b0 (.lst<|(gs.map λg=>decide<|1<=g).map D.bl):=by rw[p,wW,Y0,Y0];rfl
   show(Ud i).mpr ⟨by rw[a6V];rfl,?_⟩;cases u:gs.all λg=>decide (1<=g)with
   |false=>rw[u]at H;show(if_pos rfl).mpr (w_mRet.mpr ⟨_,rfl,H _ n⟩)|true=>rw[u]at H;show(if_neg YE).mpr<|w_mNext.mpr<|fin _ b n λ_ μ' G=>H μ' G
abbrev jY(h:Int)(x:Int):jq:=(Zj (4*h-1).toNat).map λ(j:Nat)=>(x,1+(j:Int))
abbrev jZ(h:Int)(n:Nat):jq:=(Zj n).flatMap λ(i:Nat)=>jY h<|1+(i:Int)
abbrev cE(w h:Int):jq:=jZ h (4*w-1).toNat
def Bw h n:jZ h (n+1)=jZ h n++jY h (1+(n:Int)):=by unfold jZ;rw[a1R,a1L];simp
def Hf h x:(jY h x).length=(4*h-1).toNat:=by unfold jY;simp
def Bx h:∀n,(jZ h n).length=n*(4*h-1).toNat
 |0=>by simp[jZ]
 |n+1=>by rw[Bw,YF,Bx h n,Hf,a7g]
def Hg{h:Int}(b:h<=6)(a:n<=23):n*(4*h-1).toNat<=529:=by have:n*(4*h-1).toNat<=23*23:=a9D a nofun;omega
def VF h x:((iM 1 (4*h-1).toNat).filter λ_=>d7).map (λd=>P x<|pE d)=(jY h x).map PP:=by unfold iM jY;rw[show ∀l:List D,l.filter (λ_=>d7)=l from λl=>by simp,Y0,Y0];rfl
def By k w h(hw:1<=w/\w<=6)(u:1<=h/\h<=6)(c:Hm)(Q:jz)(H:∀a μ',c<+:μ'->μ'[a]?=b0 (.lst<|(cE w h).map PP)->c.length<=a->Q (.loc a,μ')):W (f (k+1) "places_within" [.int w,.int h] c) Q:=by
 rw[UE,W_fin];simp only[w_mSeq,w_mSet,w_mLst,fX];show⟨a0d _,?_⟩;simp only[a1s,a2D,w_mForI,w_iRng2,w_mCons,fX,iK,w_mOp,eK,gN,w_mul4];show⟨by lia,?_⟩;show lZ (lo:=1) (λi r μ'=>c<+:μ'/\μ'[c.length]?=b0 (.lst<|(jZ h i).map PP)/\∃o,r=[b0<|.int w,b0<|.int h,b0<|.loc c.length,o]) ⟨aR _ _,bB _ _,b5,rfl⟩ ?_ ?_
 .rintro i r p x ⟨n,e,o,rfl⟩;show⟨_,rfl,?_⟩;simp only[a1s,a2D,w_mDrop];show eM ?_;simp only[eK,gN];show⟨dZ e,?_⟩;simp only[w_mCons,fX];show fY (xs:=iM 1 (4*h-1).toNat) (p:=λ_=>d7) (v:=λd=>P (1+(i:Int))<|pE d) ?_;simp only[w_iRng2,w_mCons,fX,iK,w_mOp,eK,gN,w_mul4];show⟨by lia,GG,by simp[iM],by rw[Y2];simp[iM];lia,?_,?_,?_⟩
  .intro d μ' hd n;show w_mTrue.mpr ⟨rfl,YS _⟩
  .intro d μ' hd _ n;obtain⟨j,y,rfl⟩:=Vy hd;simp only[a1N,a1i,w_mTup,w_mCons,fX,eK,gN,jW,true_and];show⟨rfl,YS _⟩
  .intro v b g;rw[VF]at g;have l:((jZ h i).map PP).length+((jY h<|1+(i:Int)).map PP).length<=YM:=by have s:=Hg (h:=h) u.2 (n:=i+1) nofun;rw[a7g]at s;rw[Yu,Yu,Bx,Hf,Y2];omega
   show(wM (aJ b e) g l).mpr ?_;show⟨dB (n.trans b) (YG _) _,?_,_,rfl⟩;rw[ZH (Yy.mp<|aJ b e).1,Bw,YV]
 .rintro r p ⟨n,e,o,rfl⟩;simp only[w_mRet,eK,gN];show H _ _ n e<|YG _
def tI(hw:w<=6)(a:h<=6):(cE w h).length<=529:=by unfold cE;rw[Bx];show Hg a<|by lia
abbrev mv(x y:Int)(l:jq):jq:=l.map λs=>(x+s.1,y+s.2)
def Hh k x y l(g:l.length<=63)(c:Hm)(Q:jz)(h:∀a μ',c<+:μ'->μ'[a]?=b0 (.lst<|(mv x y l).map PP)->c.length<=a->Q (.loc a,μ')):W (f (k+1) "moved_by" [P x y,.tup<|l.map PP] c) Q:=by
 rw[Uw,W_fin];simp only[w_mRet];show fY (xs:=l.map PP) (p:=λ_=>d7) (v:=λd=>PP (x+(eB d).1,y+(eB d).2)) ?_;simp only[w_iSeq,eK,gN];show w_seqT.mpr ?_;show⟨T9,rfl,by rw[Yu,Y2];lia,λd μ' hd b=>W_some.mpr ⟨rfl,YS _⟩,λd μ' hd _ b=>?_,λμ' b e=>?_⟩
 .obtain⟨u,v,rfl⟩:=nJ hd;simp only[a1N,a1i,w_mTup,w_mOp,iK,w_mCons,fX,eK,gN,qJ,w_it21,w_addI,jW,true_and];show⟨rfl,YS _⟩
 .show h _ _ b ?_<|YG _;rw[e,a2u.mpr λ_ _=>rfl,Y0];unfold mv;rw[Y0];rfl
abbrev E8:jq:=[(2,0),(1,1),(0,2),(-1,1),(-2,0),(-1,-1),(0,-2),(1,-1)]
abbrev F4:jq:=[(1,1),(-1,1),(-1,-1),(1,-1)]
abbrev cB(x:Int):jq:=if x%4=0 then E8 else F4
def Hi k x y(b:Hm)(Q:jz)(h:∀a μ',b<+:μ'->μ'[a]?=b0 (.lst<|(mv x y<|cB x).map PP)->b.length<=a->Q (.loc a,μ')):W (f (k+2) "edges_round" [P x y] b) Q:=by
 rw[Ux,W_fin];simp only[w_mRet,w_mCall,w_mCons,fX,eK,w_mIfE,w_mTest,w_mOp,iK,qJ,G5,w_eqI];unfold cB at h;by_cases e:x%4=0
 .rw[if_pos e]at h;rw[e];show Hh k x y E8 (by decide) b _ h
 .rw[if_neg e]at h;rw[if_neg<|by simpa using e];show Hh k x y F4 (by decide) b _ h
def Hj a q:∀ps:jq,i5 a (PP q) (ps.map PP)=b0 (ps.any λp=>p==q)
 |[]=>rfl|p::ps=>by rw[Za];change(eE 8 a (PP p)<|PP q).bind (λb=>(i5 a (PP q)<|ps.map PP).map λc=>b||c)=_;rw[GH 6,Hj a q ps];rfl
abbrev k5(lo:Int)(n m:Nat):jq:=(Zj n).flatMap λ(i:Nat)=>(Zj m).map λ(j:Nat)=>(lo+(i:Int),lo+(j:Int))
abbrev j6(lo x:Int)(m:Nat):jq:=(Zj m).map λ(j:Nat)=>(x,lo+(j:Int))
def Hk lo n m:k5 lo (n+1) m=k5 lo n m++j6 lo (lo+(n:Int)) m:=by unfold k5 j6;rw[a1R,a1L];simp
def VG lo x m:j6 lo x (m+1)=j6 lo x m++[(x,lo+(m:Int))]:=by unfold j6;rw[a1R,YV];rfl
def Hl lo x m:(j6 lo x m).length=m:=by unfold j6;simp
def Hn lo m:∀n,(k5 lo n m).length=n*m
 |0=>by simp[k5]
 |n+1=>by rw[Hk,YF,Hn lo m n,Hl,a7g]
def Bz{b:Hm}:(b.set a c).set a c'=b.set a c':=List.set_set ..
def cK{b:Hm}(h:b[a]?=b0 c):(b.set a c')[a]?=b0 c':=by rw[ZH (Yy.mp h).1]
def VH(a:Hm)(c c':C):(a++[c]).set a.length c'=a++[c']:=by rw[a2Y _ _<|YG _];simp
def qL{b:Hm}(h:b[a]?=b0 c):b.set a c=b:=by obtain⟨d,rfl⟩:=Yy.mp h;show List.set_getElem_self d
abbrev a8(p:Int×Int):List Int:=[p.1,p.2]
def Ho{a:Type}l(d:a):(Zj l.length).map (λi=>l.getD i d)=l:=by show List.ext_getElem (by simp) λi c b=>?_;simp[ZV,b]
def jG{es:jq}{i:Nat}(h:(es.map PP)[i]?=b0 d):∃p,es[i]?=b0 p/\d=PP p:=by rw[YU]at h;obtain⟨p,a,b⟩:=YB.mp h;show⟨p,a,b.symm⟩
def tJ kvs k:(a9 kvs k).isSome=kvs.any λp=>decide (p.1=k):=by unfold a9;rw[a3H,a1U,List.find?_isSome,a3c]
def VI kvs k k' d:(a9 (bW kvs k d) k').isSome=(decide (k=k')||(a9 kvs k').isSome):=by
 unfold bW;split
 .rename_i h;have e:(kvs.map λp=>if p.1=k then(p.1,d)else p).any (λp=>decide<|p.1=k')=kvs.any λp=>decide (p.1=k'):=by rw[a6U];congr 1;funext p;simp only[Function.comp];split<;>rfl
  rw[tJ,e,tJ kvs k'];by_cases z:k=k'
  .subst z;rw[tJ]at h;rw[h];simp
  .simp[z]
 .rw[tJ,List.any_append,tJ];simp only[a6G,List.any_nil,a4R];show Bool.or_comm _ _
def cT q:cY (PP q)=b0 (a8 q):=rfl
abbrev cM(bs:List Bool):List Int:=((Zj bs.length).filter λi=>bs.getD i dI).map λ(i:Nat)=>(i:Int)
abbrev fQ(bs:List Bool):List Int:=((cM bs).zip<|(cM bs).drop 1++((cM bs).take 1).map λs=>s+(bs.length:Int)).map λp=>(p.2-p.1)*(8/(bs.length:Int))
abbrev MD(m:(Int×Int)×Str):D:=.tup [PP m.1,.str m.2]
def BA{z:Int}(n:Nat)(a:0<=z)(h1:z<n):∃k,k<n/\(k:Int)=z:=⟨z.toNat,(Int.toNat_lt a).mpr h1,Int.toNat_of_nonneg a⟩
def nK(hz:1<=z/\z<=6):z∈[(1:Int),2,3,4,5,6]:=by obtain⟨k,a,rfl⟩:=BA 7 (a5q (by decide) hz.1) (Int.lt_of_le_of_lt hz.2<|by decide);show(by decide:∀k:Nat,k<7->1<=(k:Int)/\(k:Int)<=6->(k:Int)∈[(1:Int),2,3,4,5,6]) k a hz
abbrev dC(p:Int×Int):Bool:=p.1%2==0&&p.1%4==p.2%4
def VJ k x y a(Q:jz):W (f (k+1) "is_corner" [P x y] a) Q↔Q (.bl<|dC (x,y),a):=by rw[Uq,W_fin];simp only[w_mRet,w_mAndV,w_mOp,iK,eK,qJ,w_it21,w_eqI,w_mod2,G5];unfold dC;cases x%2==0<;>simp
abbrev aP(ms:List ((Int×Int)×Str))(p:Int×Int):Bool:=(ms.map (·.1)).any λq=>q==p
def Hq:∀ms:List<|(Int×Int)×Str,qD (ms.map MD)=b0 (ms.map λm=>(a8 m.1,D.str m.2))
 |[]=>rfl|m::ms=>by rw[Za,Za];change(cY<|PP m.1).bind (λk=>(qD<|ms.map MD).map λl=>(k,D.str m.2)::l)=_;rw[Hq ms];rfl
def Hr k:∀(l kvs:jx),(a9 (l.foldl (λq p=>bW q p.1 p.2) kvs) k).isSome=((a9 kvs k).isSome||l.any λp=>decide<|p.1=k)
 |[],kvs=>by simp
 |p::l,kvs=>by rw[a5P,Hr k l,VI,a6G];cases decide (p.1=k)<;>cases(a9 kvs k).isSome<;>simp
def VL p q:decide (a8 p=a8 q)=(p==q):=by rw[a1U];simp only[decide_eq_true_eq,beq_iff_eq,a8,a7z,and_true,a6Q]
def VM ms p:(a9 ((ms.map λm=>(a8 m.1,D.str m.2)).foldl (λq p=>bW q p.1 p.2) [])<|a8 p).isSome=aP ms p:=by rw[Hr];unfold aP;rw[a6U,a6U];change(dI||_)=_;rw[a6I];congr 1;funext m;show VL m.1 p
def w_it32{Q:jz}:W (aE (.tup [a,b,c]) (.int 2) d) Q↔Q (c,d):=W_some
def w_it30{Q:jz}:W (aE (.tup [a,b,c]) (.int 0) d) Q↔Q (a,d):=W_some
def w_it31{Q:jz}:W (aE (.tup [a,b,c]) (.int 1) d) Q↔Q (b,d):=W_some
noncomputable abbrev SH(w h:Int)(ms:List ((Int×Int)×Str)):D:=.tup [.int w,.int h,.tup<|ms.map MD]
def w_dict{ms:List ((Int×Int)×Str)}{Q:jz}:W (oK [.tup<|ms.map MD] a) Q↔Q (.loc a.length,a++[.dT<|(ms.map λm=>(a8 m.1,D.str m.2)).foldl (λq p=>bW q p.1 p.2) []]):=by
 have:oK [.tup<|ms.map MD] a=b0 (.loc a.length,a++[.dT<|(ms.map λm=>(a8 m.1,D.str m.2)).foldl (λq p=>bW q p.1 p.2) []]):=by simp only[oK,Hq,Zh]
 rw[this];show W_some
def Hs k w h ms x y(g:Hm)(Q:jz)(H:∀a μ',g<+:μ'->μ'[a]?=b0 (.lst<|((mv x y<|cB x).filter<|aP ms).map PP)->Q (.loc a,μ')):W (f (k+3) "creases_at" [SH w h ms,P x y] g) Q:=by
 rw[UM,W_fin];simp only[w_mSeq,w_mSet,w_mCall,w_mCons,fX,eK,gN];rw[G4,W_fin];simp only[w_mRet,w_mCall,w_mCons,fX,w_mOp,eK,iK,w_it32,w_dict,a1s,a2D];show fY (xs:=(mv x y<|cB x).map PP) (p:=λd=>aP ms<|eB d) (v:=λd=>d) ?_;simp only[w_iSeq,w_mCall,w_mCons,fX,eK,gN];show Hi k x y _ _ λa j e c l=>?_;show(cN c).mpr ⟨iL c,rfl,?_,λd μ' hd b=>?_,λd μ' hd _ b=>?_,λμ' b i=>?_⟩
 .rw[Yu,Y2];unfold mv cB;rw[Yu];split<;>decide
 .obtain⟨u,v,rfl⟩:=nJ hd;simp only[a1N,a1i,w_mTest,w_mOp,eK,gN];show(wQ (aJ (e.trans b)<|bB _ _)<|cT (u,v)).mpr ?_;simp only[Zf,if_false];show⟨VM ms (u,v),YS _⟩
 .simp only[a1N,a1i,eK,gN];show⟨trivial,YS _⟩
 .show H _ _ ((aR _ _).trans<|e.trans b) ?_;rw[i,qK<|aP ms]
def BB a q:∀ps:jq,kT a (PP q) (ps.map PP)=b0 (ps.map λp=>p==q)
 |[]=>rfl|p::ps=>by rw[Za,Za];simp only[kT,BB a q ps];rw[GH 6];rfl
def VN{ps:jq}{Q:jz}(h:b[a]?=b0 (.lst<|ps.map PP))(d:q∈ps)(hz:ps.length<=YM):W (qA (.loc a) [PP q] b) Q↔Q (.int (ps.idxOf q:Nat),b):=by
 have e:(ps.map λp=>p==q).findIdx id=ps.idxOf q:=by rw[List.findIdx_map];rfl
 have c:ps.idxOf q<ps.length:=a6d d;simp only[qA,h,BB,Y9];rw[e,Yu,if_pos ⟨c,hz⟩];show W_some
def VO{es:jq}(d:es.Nodup)(a:i<es.length):es.idxOf (es.getD i (0,0))=i:=by
 have e:es.getD i (0,0)=es[i]:=by simp[ZV,a]
 rw[e];have b:es.idxOf es[i]<es.length:=a6d<|ZU a;have c:es[es.idxOf es[i]]=es[i]:=List.getElem_idxOf b;rcases a3V (es.idxOf es[i]) i with h|h|h
 .show absurd c<|(ZC.mp d) _ i b a h
 .show h
 .show absurd c.symm<|(ZC.mp d) i _ a b h
def BC{es:jq}(d:es.Nodup)m:(es.filter m).map (λq=>((es.idxOf q:Nat):Int))=cM (es.map m):=by
 have b:es.filter m=((Zj es.length).filter λi=>m<|es.getD i (0,0)).map λi=>es.getD i (0,0):=by
  conv=>lhs;rw[<- Ho es (0,0)]
  rw[a1T];rfl
 unfold cM;rw[b,Y0,Yu];have c:(Zj es.length).filter (λi=>m<|es.getD i (0,0))=(Zj es.length).filter λi=>(es.map m).getD i false:=by show List.filter_congr λi a=>?_;have a:=ZR.mp a;simp[ZV,a]
 rw[<- c];show a0n λi a=>?_;have a:=ZR.mp (ZL.mp a).1;change((es.idxOf (es.getD i (0,0)):Nat):Int)=_;rw[VO d a]
def Ht x y(h:l.Nodup):(mv x y l).Nodup:=by unfold mv;change List.Pairwise _ _;rw[a0C];show b0i (λ{a b} c e=>c ?_) h;simp only[a6Q]at e ⊢;lia
def Hu x:(cB x).Nodup:=by unfold cB;split<;>decide
def wX x:(cB x).length=8\/(cB x).length=4:=by
 unfold cB;split
 .show .inl rfl
 .show .inr rfl
def VP(b:List Int):kH (b.map D.int) (b0 1) b5=(b.drop 1).map D.int:=by
 cases b with
 |nil=>rfl|cons a l=>unfold kH;rw[show(1:Int)=((1:Nat):Int)from rfl,HT.sIx_nat,HT.sIx_none,Yu,a1F<|by simp,<- List.map_drop,Z6<|by rw[Yu,Z5];lia]
def VQ(b:List Int):kH (b.map D.int) b5 (b0 1)=(b.take 1).map D.int:=by
 cases b with
 |nil=>rfl|cons a l=>unfold kH;rw[show(1:Int)=((1:Nat):Int)from rfl,HT.sIx_nat,HT.sIx_none,Yu,a1F<|by simp,a1a,a4m,a6E]
abbrev oW(a b:List Int):List D:=(a.zip b).map PP
def VR{e:Hm}(h:e[a]?=b0 (.lst<|c.map D.int))(j:e[b]?=b0 (.lst<|d.map D.int)):∀μ' i,e<+:μ'->sC (.loc a) (.loc b) μ' i=b0 (oW c d)[i]?:=λμ' i g=>by simp only[sC,bJ,aJ g h,aJ g j,Y9,Zh];unfold oW List.zip;rw[YU,YU,YU,a7i];cases c[i]?<;>cases d[i]?<;>rfl
def Hv k w h ms x y(G:Hm)(Q:jz)(H:∀a μ',G<+:μ'->μ'[a]?=b0 (.lst<|(fQ<|(mv x y<|cB x).map<|aP ms).map D.int)->Q (.loc a,μ')):W (f (k+4) "gaps_at" [SH w h ms,P x y] G) Q:=by
 have z:=wX x;have l:(mv x y<|cB x).length=(cB x).length:=by unfold mv;rw[Yu]
 have n:=Ht x y<|Hu x;show bS (UN (k+3) _ _ G)<|aS<|aK rfl<|Hi (k+1) x y _ _ λa1 μ1 p1 T l1=>aS<|aK rfl<|Hs k w h ms x y _ _ λa2 I M p=>?_;have c:=aJ M T;generalize hes:mv x y (cB x)=es at c p l n H;have A:(es.filter<|aP ms).length<=8:=Zr (a0p _ _) ⋯;show aS<|fY (xs:=(es.filter<|aP ms).map PP) (p:=λ_=>d7) (v:=λd=>.int ((es.idxOf (eB d):Nat):Int))<|w_iSeq.mpr ⟨_,rfl,(cN p).mpr ⟨iL p,rfl,by rw[Yu,Y2];lia,λd μ' hd e=>w_mTrue.mpr ⟨rfl,YS _⟩,λd μ' hd _ e=>?_,λb N U=>?_⟩⟩
 .obtain⟨q,Z,rfl⟩:=YO.mp hd;show eM ⟨_,rfl,dZ<|aJ e c,_,rfl,(VN (aJ e c) (ZL.mp Z).1<|by rw[Y2];lia).mpr ⟨rfl,YS _⟩⟩
 .have g:b[I.length]?=b0 (.lst<|(cM<|es.map<|aP ms).map D.int):=by rw[U,wW,Y0,<- BC n,Y0];rfl
  have B:(cM<|es.map<|aP ms).length<=8:=by rw[<- BC n,Yu];show A
  generalize hix:cM (es.map<|aP ms)=is at g B;show aS<|aM<|GI ⟨_,rfl,_,rfl,_,rfl,_,rfl,_,g,?_⟩;rw[VP];have r:=aJ (aR b<|C.lst<|(is.drop 1).map D.int) g;have j:=aJ (N.trans<|aR b<|C.lst<|(is.drop 1).map D.int) c;have v:=bB b<|C.lst<|(is.drop 1).map D.int;have O:=p1.trans<|M.trans<|N.trans<|aR b<|C.lst<|(is.drop 1).map D.int;dsimp only;generalize b.length=l3 at v ⊢;generalize b++[C.lst<|(is.drop 1).map D.int]=μ4 at r j v O ⊢;show fY (xs:=(is.take 1).map D.int) (p:=λ_=>d7) (v:=λd=>.int<|pE d+(es.length:Int))<|w_iSeq.mpr<|GI ⟨_,rfl,_,rfl,_,rfl,_,rfl,_,r,?_⟩;rw[VQ];show(cN<|bB _ _).mpr ⟨iL<|bB _ _,rfl,by rw[Yu,Zb,Y2];lia,λd μ' hd e=>w_mTrue.mpr ⟨rfl,YS _⟩,λd μ' hd _ e=>?_,λo p5 X=>?_⟩
  .obtain⟨i,_,rfl⟩:=Hd hd;show aM ⟨_,rfl,aK rfl<|(d8<|aJ ((aR _ _).trans e) j).mpr<|w_addI.mpr ⟨by rw[Yu];rfl,YS _⟩⟩
  .have R:=(aR μ4<|C.lst<|(is.take 1).map D.int).trans p5;have u:o[(μ4++[C.lst<|(is.take 1).map D.int]).length]?=b0 (.lst<|((is.take 1).map λs=>s+(es.length:Int)).map D.int):=by rw[X,wW,Y0,Y0];rfl
   show(tD (aJ R v) u<|by rw[Yu,Yu,Yu,Z5,Zb,Y2];lia).mpr ?_;rw[<- YV];generalize hjs:is.drop 1++(is.take 1).map (λs=>s+(es.length:Int))=js;have E:=R.trans<|aR o<|C.lst<|js.map D.int;show aS (aM ⟨_,rfl,aK rfl<|(d8<|aJ E j).mpr<|(tB (by rw[Yu];lia)<|by rw[Yu];lia).mpr<|bT ?_⟩);rw[Yu];have K:=aJ E r;have L:=bB o<|C.lst<|js.map D.int;have hzl:(oW is js).length<=8:=by unfold oW;rw[Yu,a5O];lia
   have h8:8/(es.length:Int)=1\/8/(es.length:Int)=2:=by
    rcases z with h|h
    .left;rw[l,h];rfl
    .right;rw[l,h];rfl
   show tE (xs:=oW is js) (x:=λd=>[b0<|.int (eB d).1,b0<|.int (eB d).2]) (p:=λ_=>d7) (v:=λd=>.int<|((eB d).2-(eB d).1)*(8/(es.length:Int)))<|Uj ⟨_,rfl,_,_,_,_,rfl,K,L,VR K L,?_,by rw[Y2];lia,λd μ' hd=>?_,λd μ' hd e=>w_mTrue.mpr ⟨rfl,YS _⟩,λd μ' hd _ e=>?_,λμ8 p8 Y=>?_⟩
   .unfold oW;simp only[Yu,a5O]
   .obtain⟨q,_,rfl⟩:=YO.mp hd;rfl
   .obtain⟨q,_,rfl⟩:=YO.mp hd;show aM<|bA rfl rfl<|w_subI.mpr ⟨_,rfl,(nG<|.inr<|by lia).mpr ⟨rfl,YS _⟩⟩
   .show H _ _ (O.trans<|E.trans p8) ?_;rw[Y,wW];unfold oW fQ;rw[hix,Yu,hjs,Y0,Y0];rfl
def bF{o:Option a}{r:a}:W o (λx=>x=r)->o=b0 r:=λ⟨_,e,q⟩=>e.trans<|congrArg b0 q
abbrev cU(p:Int×Int):List Int:=[p.1,p.2]
abbrev c8(p q:Int×Int):Int×Int:=if HT.lexLt (cU q) (cU p)then q else p
abbrev c9(p q:Int×Int):Int×Int:=if HT.lexLt (cU p) (cU q)then q else p
abbrev fR(p q:Int×Int)(a:Bool)(c:Int×Int):Ti:=(cU<|c8 p q,cU<|c9 p q,a,cU c)
def BE p q a:oQ [PP p,PP q] a=b0 (PP<|c8 p q,a):=by change b0 (if HT.lexLt (cU q) (cU p)then PP q else PP p,a)=_;unfold c8;split<;>rfl
def BF p q a:sM [PP p,PP q] a=b0 (PP<|c9 p q,a):=by change b0 (if HT.lexLt (cU p) (cU q)then PP q else PP p,a)=_;unfold c9;split<;>rfl
def BG(h:n=4):n<=YM:=by rw[h];decide
def BH k p q a c b(Q:jz)(H:Q (bU<|fR p q a c,b)):W (f (k+1) "tie_of" [PP p,PP q,.bl a,PP c] b) Q:=
 bS (UQ k _ _ _ _ b)<|bT<|w_mTup.mpr<|aX<|aK rfl<|aY (BE p q b)<|aX<|aK rfl<|aY (BF p q b) ⟨_,rfl,BG rfl,H⟩
def qM{i:Nat}{d:D}(e:xs[i]?=b0 d):atI xs (i:Int)=b0 d:=by have a:=(Yy.mp e).1;unfold atI;rw[Hc ⋯<|by lia];simpa using e
def BI{xs:List D}(h:i<xs.length):atI xs ((i:Int)-1)=xs[(i+(xs.length-1))%xs.length]?:=by
 unfold atI mF;cases i with
 |zero=>
  rw[if_neg<|by lia,if_pos<|by lia];have e:(((0:Nat):Int)-1+xs.length).toNat=(0+(xs.length-1))%xs.length:=by rw[a4d<|by omega];lia
  rw[e];rfl
 |succ i=>
  rw[if_pos<|by lia,if_pos<|by omega];have e:(((i+1:Nat):Int)-1).toNat=(i+1+(xs.length-1))%xs.length:=by
   have:i+1+(xs.length-1)=i+xs.length:=by lia
   rw[this,Nat.add_mod_right,a4d<|by lia];lia
  rw[e];rfl
def tK{gs:List Int}(h:i<gs.length):(gs.map D.int)[i]?=b0 (.int<|gs.getD i 0):=by rw[YU,Yz h];simp[ZV,h]
def VS{cr:jq}(h:i<cr.length):(cr.map PP)[i]?=b0 (PP<|cr.getD i (0,0)):=by rw[YU,Yz h];simp[ZV,h]
abbrev iP(gs:List Int)(i:Nat):Bool:=decide (gs.getD i 0<gs.getD ((i+(gs.length-1))%gs.length) 0)&&decide (gs.getD i 0<gs.getD ((i+1)%gs.length) 0)
def wY(i n:Nat):((i:Int)+1)%(n:Int)=(((i+1)%n:Nat):Int):=by simp[a9g]
def VT k(g:b[a]?=b0 (.lst<|gs.map D.int))(h:i<gs.length)(Q:jz)(H:Q (.bl<|iP gs i,b)):W (f (k+1) "is_least" [.loc a,.int i] b) Q:=by
 have u:(i+(gs.length-1))%gs.length<gs.length:=a2l _ ⋯;have v:(i+1)%gs.length<gs.length:=a2l _ ⋯;have j:∀{c},c=b->aE (.loc a) (.int i) c=b0 (.int<|gs.getD i 0,c):=λe=>by subst e;show bF<|(fN g<|qM<|tK h).mpr rfl
 have n:aE (.loc a) (.int<|(i:Int)-1) b=b0 (.int<|gs.getD ((i+(gs.length-1))%gs.length) 0,b):=bF<|(fN g<|by
  rw[BI<|by rw[Yu];show h,Yu];show tK u).mpr rfl
 have o:aE (.loc a) (.int<|((i:Int)+1)%(gs.length:Nat)) b=b0 (.int<|gs.getD ((i+1)%gs.length) 0,b):=bF ((fN g<|by rw[wY];show qM<|tK v).mpr rfl);show bS (UR k _ _ b)<|bT<|w_mAndV.mpr<|aM<|bA rfl rfl ⟨_,j rfl,aM ⟨_,rfl,bA rfl rfl<|w_subI.mpr ⟨_,n,w_ltI.mpr ?_⟩⟩⟩;unfold iP at H;have d:W (aC dO (aC aE (aA 0)<|aA 1) (aC aE (aA 0)<|aC aW (aC bD (aA 1)<|mC<|.int 1)<|aG bO<|aB (aA 0) aD) [b0<|.loc a,b0<|.int i] b) λp=>p=(.bl<|decide<|gs.getD i 0<gs.getD ((i+1)%gs.length) 0,b):=by show aM<|bA rfl rfl ⟨_,j rfl,aM ⟨_,rfl,aM<|bA rfl rfl<|w_addI.mpr<|aK rfl<|(d8 g).mpr ?_⟩⟩;rw[Yu];show(dM<|by lia).mpr ⟨_,o,w_ltI.mpr rfl⟩
 cases l:decide (gs.getD i 0<gs.getD ((i+(gs.length-1))%gs.length) 0)with
 |true=>rw[l,a6H]at H;obtain⟨r,s,rfl⟩:=d;show(if_pos rfl).mpr ⟨_,s,H⟩|false=>rw[l,a9q]at H;show(if_neg YE).mpr H
abbrev jH(cr:jq)(c:Int×Int)(i:Nat):List Ti:=fR (cr.getD i (0,0)) (cr.getD ((i+1)%cr.length) (0,0)) dI c::(if cr.length=4 then[fR (cr.getD ((i+2)%4) (0,0)) (cr.getD ((i+3)%4) (0,0)) d7 c]else[])
def fZ{cr:jq}(g:b[a]?=b0 (.lst<|cr.map PP))(h:i<cr.length):aE (.loc a) (.int (i:Int)) b=b0 (PP<|cr.getD i (0,0),b):=bF<|(fN g<|qM<|VS h).mpr rfl
def VU k{b:Hm}(g:b[a]?=b0 (.lst<|cr.map PP))(h:i<cr.length)c(Q:jz)(H:∀l μ',b<+:μ'->μ'[l]?=b0 (.lst<|(jH cr c i).map bU)->Q (.loc l,μ')):W (f (k+2) "ties_of_gap" [.loc a,.int i,PP c] b) Q:=by
 have s:(i+1)%cr.length<cr.length:=a2l _ ⋯;have n:aE (.loc a) (.int<|((i:Int)+1)%(cr.length:Nat)) b=b0 (PP<|cr.getD ((i+1)%cr.length) (0,0),b):=by rw[wY];show fZ g s
 have r:bO [.loc a] b=b0 (.int (cr.length:Nat),b):=bF ((d8 g).mpr<|by rw[Yu]);show bS (US (k+1) _ _ _ b) (aS<|aK rfl<|aY r<|aS<|w_mLst.mpr<|aX<|eV<|aX<|bA rfl rfl ⟨_,fZ g h,aX<|aM ⟨_,rfl,aM<|bA rfl rfl<|w_addI.mpr ⟨_,rfl,(dM<|by lia).mpr ⟨_,n,_,rfl,?_⟩⟩⟩⟩);show BH k _ _ _ _ _ _ ⟨_,rfl,G6,?_⟩;have gl:=bB b<|C.lst [bU<|fR (cr.getD i (0,0)) (cr.getD ((i+1)%cr.length) (0,0)) dI c];have j:=aJ (aR b<|C.lst [bU<|fR (cr.getD i (0,0)) (cr.getD ((i+1)%cr.length) (0,0)) dI c]) g;show fE (b:=((cr.length:Nat):Int)==4) (μ':=b++[C.lst [bU<|fR (cr.getD i (0,0)) (cr.getD ((i+1)%cr.length) (0,0)) dI c]]) (bF<|b9<|bA rfl rfl<|w_eqI.mpr ⟨_,rfl,rfl⟩) (λd=>?_) λd=>cZ<|bT ⟨_,rfl,H _ _ (aR _ _) ?_⟩
 .have d:cr.length=4:=by have:=beq_iff_eq.mp d;lia
  have u:(i+2)%4<cr.length:=by lia
  have v:(i+3)%4<cr.length:=by lia
  have o:∀{ν:Hm},ν[a]?=b0 (.lst<|cr.map PP)->aE (.loc a) (.int<|((i:Int)+2)%4) ν=b0 (PP<|cr.getD ((i+2)%4) (0,0),ν):=λe=>by rw[show((i:Int)+2)%4=(((i+2)%4:Nat):Int) by lia];show fZ e u
  have p:∀{ν:Hm},ν[a]?=b0 (.lst<|cr.map PP)->aE (.loc a) (.int<|((i:Int)+3)%4) ν=b0 (PP<|cr.getD ((i+3)%4) (0,0),ν):=λe=>by rw[show((i:Int)+3)%4=(((i+3)%4:Nat):Int) by lia];show fZ e v
  show l7 (eM ⟨_,rfl,dZ gl,aX<|eV<|aX<|aM ⟨_,rfl,aM<|bA rfl rfl<|w_addI.mpr ⟨_,rfl,(dM<|by decide).mpr ⟨_,o j,aX<|aM ⟨_,rfl,aM<|bA rfl rfl<|w_addI.mpr ⟨_,rfl,(dM<|by decide).mpr ⟨_,p j,_,rfl,?_⟩⟩⟩⟩⟩⟩⟩);show BH k _ _ _ _ _ _ ⟨_,rfl,(gO gl<|by change(1:Nat)<YM;decide).mpr<|bT ⟨_,rfl,H _ _ (dB (aR _ _) (YG _) _) ?_⟩⟩;rw[cK gl];unfold jH;rw[if_pos d];rfl
 .have d:¬ cr.length=4:=λz=>by rw[z]at d;cases d
  unfold jH;rw[if_neg d];show gl
abbrev bK(m:Int×Int->Bool)(p:Int×Int):jq:=(mv p.1 p.2<|cB p.1).filter m
abbrev b6(m:Int×Int->Bool)(p:Int×Int):List Int:=fQ<|(mv p.1 p.2<|cB p.1).map m
def l8 m p:(b6 m p).length=(bK m p).length:=by have e:=congrArg ZE<|BC (Ht p.1 p.2<|Hu p.1) m;rw[Yu]at e;unfold b6 fQ bK;rw[Yu,a5O,YF,Yu,Z5,Zb,e];lia
def qN m p:(bK m p).length<=8:=by show Zr (a0p _ _) ?_;have:(mv p.1 p.2<|cB p.1).length=(cB p.1).length:=Yu ..;have:=wX p.1;lia
abbrev gX(m:Int×Int->Bool)(p:Int×Int)(i:Nat):List Ti:=if iP (b6 m p) i then jH (bK m p) p i else[]
abbrev f6(m:Int×Int->Bool)(p:Int×Int):List Ti:=if(bK m p).length=2 then[fR ((bK m p).getD 0 (0,0)) ((bK m p).getD 1 (0,0)) d7 p]else(Zj (bK m p).length).flatMap (gX m p)
def BJ m p i:(gX m p i).length<=2:=by
 unfold gX jH;split
 .split<;>simp
 .simp
def l9{a b:Type}{f:a->List b}(h:∀x,(f x).length<=n):∀l:List a,(l.flatMap f).length<=n*l.length
 |[]=>by simp
 |x::l=>by have c:=l9 h l;have d:=h x;rw[a5i,YF,Zc,Nat.mul_succ];lia
def wZ m p:(f6 m p).length<=16:=by
 unfold f6;split
 .simp
 .have a:=l9 (BJ m p)<|Zj (bK m p).length;rw[a0e]at a;have:=qN m p;lia
inductive TaI (a0 a1 a2 a3:Option D)(l:Nat)(ν:Hm)(F:Nat->List Ti):Nat->aF->Hm->Prop
 |mk {i:Nat}{x:Option D}{μ:Hm}(p:ν<+:μ)(g:μ[l]?=b0 (.lst<|((Zj i).flatMap F).map bU)):TaI a0 a1 a2 a3 l ν F i [a0,a1,a2,a3,b0<|.loc l,x] μ
def VW k w h ms p(r:Hm)(Q:jz)(H:∀l μ',r<+:μ'->μ'[l]?=b0 (.lst<|(f6 (aP ms) p).map bU)->Q (.loc l,μ')):W (f (k+6) "ties_at" [SH w h ms,PP p] r) Q:=by
 show bS (UT (k+5) _ _ r)<|aS<|aK rfl<|Hs (k+2) w h ms p.1 p.2 r _ λa n U s=>aS<|aK rfl<|Hv (k+1) w h ms p.1 p.2 n _ λb c G o=>?_;replace s:n[a]?=b0 (.lst<|(bK (aP ms) p).map PP):=s;replace o:c[b]?=b0 (.lst<|(b6 (aP ms) p).map D.int):=o;have j:=aJ G s;have T:=l8 (aP ms) p;have Z:=qN (aP ms) p;have O:bO [.loc a] c=b0 (.int ((bK (aP ms) p).length:Nat),c):=bF ((d8 j).mpr<|by rw[Yu]);have K:=U.trans G;show fE (b:=(((bK (aP ms) p).length:Nat):Int)==2) (μ':=c) (bF<|b9<|aM<|aK rfl<|aY O ⟨_,rfl,w_eqI.mpr ⟨_,rfl,rfl⟩⟩) (λe=>?_) λe=>cZ ?_
 .have e:(bK (aP ms) p).length=2:=by have:=beq_iff_eq.mp e;lia
  show iN (w_mLst.mpr<|aX<|eV<|aX<|bA rfl rfl ⟨_,fZ (i:=0) j<|by lia,aX<|bA rfl rfl ⟨_,fZ (i:=1) j<|by lia,_,rfl,?_⟩⟩);show BH (k+4) _ _ _ _ _ _ ⟨_,rfl,G6,H _ _ (K.trans<|aR _ _) ?_⟩;unfold f6;rw[if_pos e];show bB _ _
 .have e:¬ (bK (aP ms) p).length=2:=λz=>by rw[z]at e;cases e
  have R:=aJ (aR c<|C.lst []) j;have gB:=aJ (aR c<|C.lst []) o;have N:bO [.loc a] (c++[C.lst []])=b0 (.int ((bK (aP ms) p).length:Nat),c++[C.lst []]):=bF ((d8 R).mpr<|by rw[Yu]);show aS (w_mLst.mpr ⟨_,rfl,a0d _,dN<|w_mForI.mpr<|(oU (j:=0)).mpr<|aX<|aK rfl<|aY N ⟨_,rfl,⟨by lia,by lia⟩,?_⟩⟩);dsimp only;rw[a0S];show lZ (TaI (b0<|SH w h ms) (b0<|PP p) (b0<|.loc a) (b0<|.loc b) c.length c<|gX (aP ms) p) (.mk (aR _ _)<|bB _ _) ?_ ?_
  .rintro i v u E ⟨g,d⟩;show⟨_,rfl,?_⟩;rw[a2U];show w_mIfS.mpr (d9<|aK rfl<|VT (k+4) (aJ g o) (by rw[T];show E) _ ⟨rfl,?_⟩);have x:(Zj<|i+1).flatMap (gX (aP ms) p)=(Zj i).flatMap (gX (aP ms) p)++gX (aP ms) p i:=by rw[a1R,a1L];simp
   have L:=l9 (BJ (aP ms) p)<|Zj i;rw[a0e]at L;cases B:iP (b6 (aP ms) p) i with
   |false=>show(if_neg YE).mpr<|w_mNext.mpr<|.mk g ?_;rw[x];unfold gX at d ⊢;rw[B,if_neg YE,Zt];show d|true=>
    show(if_pos rfl).mpr<|w_mDrop.mpr<|eM ⟨_,rfl,dZ d,aX<|aK rfl<|VU (k+3) (aJ g j) E p _ λl X I y=>⟨_,rfl,?_⟩⟩;have M:jH (bK (aP ms) p) p i=gX (aP ms) p i:=by unfold gX;rw[B,if_pos rfl]
    rw[M]at y;have Y:=BJ (aP ms) p i;have A:=aJ I d;show(wM A y<|by rw[Yu,Yu,Y2];lia).mpr<|.mk (dB (g.trans I) (YG _) _) ?_;rw[cK A,x,YV]
  .rintro v u ⟨g,d⟩;show⟨rfl,bT ⟨_,rfl,H _ _ (K.trans g) ?_⟩⟩;unfold f6;rw[if_neg e];show d
def BK k(hw:1<=w/\w<=6)(l:1<=h/\h<=6)(c:Hm)(Q:jz)(H:∀a μ',c<+:μ'->μ'[a]?=b0 (.lst<|((cE w h).filter dC).map PP)->Q (.loc a,μ')):W (f (k+2) "corners_in" [.int w,.int h] c) Q:=by
 show bS (UI (k+1) _ _ c) (bT<|fY (xs:=(cE w h).map PP) (p:=λd=>dC<|eB d) (v:=λd=>d)<|w_iSeq.mpr<|aK rfl<|By _ w h ⋯ ⋯ _ _ λa j i e n=>?_);show(cN e).mpr ⟨iL e,rfl,?_,λd μ' hd b=>?_,λd μ' hd _ b=>⟨_,rfl,rfl,YS _⟩,λμ' b g=>?_⟩
 .have:=tI (w:=w) (h:=h) ⋯ ⋯;rw[Yu,Y2];lia
 .obtain⟨u,v,rfl⟩:=nJ hd;show d9<|aK rfl<|(VJ k u v _ _).mpr ⟨rfl,rfl,YS _⟩
 .show H _ _ (i.trans b) ?_;rw[g,qK dC]
def Hw{a:Type}{l A B:List a}{x:a}{q:a->Bool}(b:l=A++x::B)(hA:∀y∈A,q y=dI)(c:q x=d7):l.find? q=b0 x:=by
 rw[b,a8D];have:A.find? q=none:=a0V.mpr λy d=>by rw[hA y d];show YE
 rw[this,List.find?_cons_of_pos c];rfl
def Hx{a:Type}{l:List a}{x:a}(h:l[i]?=b0 x):l=l.take i++x::l.drop (i+1):=by obtain⟨b,rfl⟩:=Yy.mp h;rw[<- a0h b,Zu]
abbrev Hy:Option (Int×Int)->D
 |none=>.non|some p=>PP p
abbrev bP(w h:Int):jq:=(cE w h).filter dC
abbrev dH(m:Int×Int->Bool)(p:Int×Int):Bool:=!(kZ<|b6 m p)
inductive BaI (ms:List ((Int×Int)×Str))(w h:Int)(cs:jq)(q:Int×Int->Bool)(ν:Hm):Nat->aF->Hm->Prop
 |mk {i:Nat}{x:Option D}{μ:Hm}(p:ν<+:μ)(ok:∀z∈cs.take i,q z=dI):BaI ms w h cs q ν i [b0<|SH w h ms,x] μ
def Hz{b:jq}{q:Int×Int->Bool}(ok:∀y∈b.take i,q y=dI)(hz:b[i]?=b0 z)(c:q z=dI):∀y∈b.take (i+1),q y=false:=λy a=>by
 rw[a1r,hz]at a;rcases YN.mp a with a|a
 .show ok y a
 .have:y=z:=by simpa using a
  rw[this];show c
def VX k(hw:1<=w/\w<=6)(A:1<=h/\h<=6)ms(j:Hm)(Q:jz)(H:∀μ',j<+:μ'->Q (Hy<|(bP w h).find?<|dH<|aP ms,μ')):W (f (k+5) "barred" [SH w h ms] j) Q:=by
 show bS (UO (k+4) _ j)<|w_mSeq.mpr<|w_mForI.mpr<|w_iSeq.mpr<|aK rfl<|BK (k+2) hw A _ _ λa l s o=>(cN o).mpr ?_;show fP (xs:=(bP w h).map PP) (BaI ms w h (bP w h) (dH<|aP ms) l) (.mk (YS _) λz g=>by simp at g) (by rintro _ _ _ ⟨p,_⟩;show aJ p o) ?_ ?_
 .rintro i d I n hd ⟨c,ok⟩;obtain⟨z,g,rfl⟩:=jG hd;show⟨_,rfl,w_mIfS.mpr<|jF<|d9 (b:=kZ (b6 (aP ms) z))<|eV<|aX<|aK rfl<|Hv k w h ms z.1 z.2 _ _ λb E u x=>⟨_,rfl,?_⟩⟩;show VE (k+2) b (b6 (aP ms) z) (by have:=l8 (aP ms) z;have:=qN (aP ms) z;lia) _ _ x λG v=>⟨rfl,?_⟩;cases r:kZ (b6 (aP ms) z)with
  |true=>show(if_neg YE).mpr (w_mNext.mpr<|.mk (c.trans<|u.trans v)<|Hz ok g<|by unfold dH;rw[r];rfl)|false=>have e:=Hw (q:=dH (aP ms)) (Hx g) ok (by unfold dH;rw[r];rfl);rw[e]at H;show(if_pos rfl).mpr<|w_mRet.mpr ⟨_,rfl,H _<|s.trans<|c.trans<|u.trans v⟩
 .rintro I n ⟨c,ok⟩;rw[Yu,Zp]at ok;have e:(bP w h).find? (dH<|aP ms)=none:=a0V.mpr λy B=>by rw[ok y B];show YE
  rw[e]at H;show bT ⟨_,rfl,H _<|s.trans c⟩
abbrev gP(m:Int×Int->Bool)(w h:Int):List Ti:=(bP w h).flatMap<|f6 m
abbrev j7(ts:List Ti):List Ti:=(cS (mY ts) ts.length).map λi=>ts.getD i gM
def HA:∀ts,sO (ts.map bU)=b0 ts
 |[]=>rfl|t::ts=>by
  have h:vZ (bU t)=b0 t:=by change(cY<|.tup<|t.1.map D.int).bind (λk=>(cY<|.tup<|t.2.1.map D.int).bind λm=>(cY<|.tup<|t.2.2.2.map D.int).map λn=>(k,m,t.2.2.1,n))=_;rw[A9,A9,A9];rfl
  change(vZ<|bU t).bind (λx=>(sO<|ts.map bU).map (x::·))=_;rw[h,HA ts];rfl
def HB(g:b[a]?=b0 (.lst<|ts.map bU))(h:mX ts):oS [.loc a] b=b0 (.loc b.length,b++[.lst<|(j7 ts).map bU]):=by
 have e:fD b (.loc a)=b0 (ts.map bU):=by simp only[fD,g]
 simp only[oS,e,Y9,HA,if_pos h];have d:(cS (mY ts) ts.length).map (λi=>(ts.map bU).getD i .non)=(j7 ts).map bU:=by unfold j7;rw[Y0];show a0n λi c=>?_;have c:i<ts.length:=ZR.mp<|(iF _ _).mem_iff.mp c;simp[ZV,c]
 rw[d]
def VY k(hw:1<=w/\w<=6)(c:1<=h/\h<=6)(b:(bP w h).find? (dH<|aP ms)=b5)(a:Hm)(Q:jz)(H:∀μ',a<+:μ'->Q (.non,μ')):W (f (k+6) "check_corners" [SH w h ms] a) Q:=by show bS (UP (k+5) _ a)<|aS<|aK rfl<|VX k hw c ms _ _ λμ' d=>?_;rw[b];show w_mIfS.mpr<|b9<|bA rfl rfl<|w_isnotNN.mpr ⟨_,rfl,(if_neg YE).mpr<|w_mNext.mpr<|H _ d⟩
inductive TzI (ms:List ((Int×Int)×Str))(w h:Int)(l:Nat)(ν:Hm):Nat->aF->Hm->Prop
 |mk {i:Nat}{x:Option D}{μ:Hm}(p:ν<+:μ)(g:μ[l]?=b0 (.lst<|(((bP w h).take i).flatMap<|f6<|aP ms).map bU)):TzI ms w h l ν i [b0<|SH w h ms,b0<|.loc l,x] μ
def VZ(hw:1<=w/\w<=6)(c:1<=h/\h<=6):(bP w h).length<=1000:=by have a:=tI (w:=w) (h:=h) ⋯ ⋯;have b:=a0p dC<|cE w h;unfold bP;lia
def V0 k(hw:1<=w/\w<=6)(p:1<=h/\h<=6)(G:(bP w h).find? (dH<|aP ms)=b5)(I:mX (gP (aP ms) w h))(o:Hm)(Q:jz)(H:∀l μ',o<+:μ'->o.length<=l->μ'[l]?=b0 (.lst<|(j7<|gP (aP ms) w h).map bU)->Q (.loc l,μ')):W (f (k+7) "ties" [SH w h ms] o) Q:=by
 show bS (UU (k+6) _ o)<|l7<|aK rfl<|VY k hw p G _ _ λb s=>aS<|w_mLst.mpr ⟨_,rfl,a0d _,dN<|w_mForI.mpr<|w_iSeq.mpr<|aK rfl<|BK (k+4) hw p _ _ λa M u c=>(cN c).mpr ?_⟩;have K:=s.trans<|aR b<|C.lst [];have hc:=VZ hw p;have j:a≠b.length\/bP w h=[]:=by
  by_cases z:a=b.length
  .right;have L:=aJ u<|bB b<|C.lst [];rw[z,L]at c;injection c with c;injection c with c;show a7J.mp c.symm
  .show .inl z
 show fP (xs:=(bP w h).map PP) (λi y μ'=>TzI ms w h b.length b i y μ'/\μ'[a]?=b0 (.lst<|(bP w h).map PP)) ⟨.mk ((aR _ _).trans u)<|aJ u<|bB _ _,c⟩ (by rintro _ _ _ ⟨_,g⟩;show g) ?_ ?_
 .rintro i d O x hd ⟨⟨n,e⟩,E⟩;obtain⟨z,r,rfl⟩:=jG hd;show⟨_,rfl,w_mDrop.mpr<|eM ⟨_,rfl,dZ e,aX<|aK rfl<|VW k w h ms z _ _ λl N v B=>⟨_,rfl,?_⟩⟩⟩;have A:=aJ v e;have R:=l9 (wZ<|aP ms)<|(bP w h).take i;have T:=wZ (aP ms) z;have U:=a7K i<|bP w h;have X:=a3l i<|bP w h;show(wM A B<|by rw[Yu,Yu,Y2];lia).mpr ⟨.mk (dB (n.trans v) (YG _) _) ?_,?_⟩
  .rw[cK A,a1r,r];simp
  .rcases j with j|j
   .rw[YW<|ZJ j];show aJ v E
   .rw[j]at r;cases r
 .rintro O x ⟨⟨n,e⟩,_⟩;rw[Yu,Zp]at e;show⟨rfl,bT<|aK rfl<|aY (HB (ts:=gP (aP ms) w h) e I)<|H _ _ ((s.trans n).trans<|aR _ _) (Zr s.length_le n.length_le)<|bB _ _⟩
def HC(e:s d a=b0 (b,a))(g:t d a=b0 (c,a)):eD s t d a=b0 (b&&c,a):=bF<|w_mAndT.mpr ⟨_,e,by
 cases b with
 |true=>show(if_pos rfl).mpr ⟨_,g,rfl⟩
 |false=>show(if_neg YE).mpr rfl⟩
def V1{L:jq}(g:b[a]?=b0 (.lst<|L.map PP))(d:L.length<1000)(H:R (.nx,[d0,b0<|.loc a,b0<|.int x,b0<|.int y],b.set a<|.lst<|(L++[(x,y)].filter dC).map PP)):W (Bb [d0,b0<|.loc a,b0<|.int x,b0<|.int y] b) R:=by
 show w_mIfS.mpr ⟨_,HC (b:=x%2==0) (c:=x%4==y%4) (by kernel_rfl)<|by kernel_rfl,?_⟩;have e:(x%2==0&&x%4==y%4)=dC (x,y):=rfl;rw[e];cases c:dC (x,y)with
 |true=>rw[a6L c,a9d,YV]at H;show(if_pos rfl).mpr (w_mDrop.mpr<|eM ⟨_,rfl,dZ g,aX ⟨_,rfl,_,rfl,(gO g<|by rw[Yu,Y2];lia).mpr H⟩⟩)|false=>rw[a6M<|by rw[c];show YE,a9d,Zt,qL g]at H;show(if_neg YE).mpr<|w_mNext.mpr H
inductive RoI (d0:Option D)(a:Nat)(F:Nat->jq)(x:Option D)(ν:Hm):Nat->aF->Hm->Prop
 |mk {i:Nat}{o:Option D}{μ:Hm}(e:μ=ν.set a (.lst<|(F i).map PP)):RoI d0 a F x ν i [d0,b0<|.loc a,x,o] μ
inductive RuI (d0:Option D)(a:Nat)(F:Nat->jq)(ν:Hm):Nat->aF->Hm->Prop
 |mk {i:Nat}{o o':Option D}{μ:Hm}(e:μ=ν.set a (.lst<|(F i).map PP)):RuI d0 a F ν i [d0,b0<|.loc a,o,o'] μ
def set_two'{ν:Hm}:(ν.set a x).set a y=ν.set a y:=by simp
def HD k(hw:1<=w/\w<=6)(o:1<=h/\h<=6)ms a(Q:jz)(H:Q (.loc a.length,a++[.lst<|(bP w h).map PP])):W (f (k+1) "_law_inner" [SH w h ms] a) Q:=by
 have fin:∀w∈[(1:Int),2,3,4,5,6],∀h∈[(1:Int),2,3,4,5,6],(k5 1 (4*w-1).toNat (4*h-1).toNat).filter dC=bP w h:=by decide +kernel
 rw[<- fin w (nK hw) h<|nK o]at H;show bS (Vl k _ a) (aS<|w_mLst.mpr ⟨_,rfl,a0d _,dN<|w_mForI.mpr<|w_iRng2.mpr<|aX ⟨_,rfl,aX<|aM ⟨_,rfl,bA rfl rfl<|w_it30.mpr<|w_mul4.mpr ⟨_,rfl,⟨by lia,by lia,by lia⟩,?_⟩⟩⟩⟩);have sz:(4*h-1).toNat<=23/\(4*w-1).toNat<=23:=by omega
 generalize(4*w-1).toNat=n at H sz;generalize hm:(4*h-1).toNat=m at H sz;show lZ (RuI (b0<|SH w h ms) a.length (λi=>(k5 1 i m).filter dC)<|a++[C.lst []]) (.mk (qL<|bB _ _).symm) ?_ ?_
 .rintro i d b r ⟨rfl⟩;show⟨_,rfl,w_mForI.mpr<|w_iRng2.mpr<|aX ⟨_,rfl,aX<|aM ⟨_,rfl,bA rfl rfl<|w_it31.mpr<|w_mul4.mpr ⟨_,rfl,⟨by lia,by lia,by lia⟩,?_⟩⟩⟩⟩;rw[hm];show lZ (b:=Bb) (RoI (b0<|SH w h ms) a.length (λj=>(k5 1 i m).filter dC++(j6 1 (1+(i:Int)) j).filter dC) (b0<|.int<|1+(i:Int))<|a++[C.lst []]) (.mk<|by change _=_;simp[j6]) ?_ ?_
  .rintro j d c s ⟨rfl⟩;have l:=cK (c':=C.lst (((k5 1 i m).filter dC++(j6 1 (1+(i:Int)) j).filter dC).map PP))<|bB a<|C.lst [];have e:=a0p dC<|k5 1 i m;have g:=a0p dC<|j6 1 (1+(i:Int)) j;rw[Hn]at e;rw[Hl]at g;have p:=a9D (show i<=23 by lia) (show m<=23 by lia);show⟨_,rfl,V1 l (by rw[YF];lia)<|.mk ?_⟩;rw[set_two',VG,a1u,YQ]
  .rintro d c ⟨rfl⟩;show .mk ?_;rw[Hk,a1u]
 .rintro d b ⟨rfl⟩;show⟨rfl,bT ⟨_,rfl,?_⟩⟩;rw[VH];show H
def BL{ps:jq}{Q:jz}(h:c[a]?=b0 (.lst<|ps.map PP)):W (c4 b (PP q) (.loc a) c) Q↔Q (.bl<|if b then !(ps.any λp=>p==q)else ps.any λp=>p==q,c):=by
 have e:c4 b (PP q) (.loc a) c=b0 (.bl<|if b then !(ps.any λp=>p==q)else ps.any λp=>p==q,c):=by
  simp only[c4,h];unfold lK;have e:bJ c (.loc a)=b0 (ps.map PP):=by simp only[bJ,h]
  rw[e];change(i5 c (PP q)<|ps.map PP).map _=_;rw[Hj];rfl
 rw[e];show W_some
abbrev nI:D->Int
 |.int i=>i|_=>0
def V2(h:dC z=d7):z.1%4=0\/z.1%4=2:=by
 unfold dC at h;have:z.1%2=0:=by simpa using(a1G.mp h).1
 lia
def V3{μ:Hm}(hz:dC z=d7)(g:μ[s]?=b0 (.lst<|E8.map PP))(H:∀s μ',μ<+:μ'->μ'[s]?=b0 (.lst<|(cB z.1).map PP)->R (.nx,[a0,b0<|PP z,b0<|.loc s,a3,a4,a5,a6,a7],μ')):
  W (bC (aO<|aC (aU dI) (aC aW (aC aE (aA 1)<|mC<|.int 0)<|mC<|.int 4)<|mC<|.int 2) (aL 2<|eH (qB<|aB (mC<|.int 1)<|aB (mC<|.int 8)<|aB (mC<|.int 2) aD) eF<|aC aE (aA 2)<|aA 8) bE [a0,b0<|PP z,b0<|.loc s,a3,a4,a5,a6,a7] μ) R:=by
 show w_mIfS.mpr ⟨(z.1%4==2,μ),by kernel_rfl,?_⟩;rcases V2 hz with e|e
 .rw[e];show(if_neg<|show ¬ ((0:Int)==2)=d7 by decide).mpr<|w_mNext.mpr<|H s μ (YS _) ?_;unfold cB;rw[if_pos e];show g
 .rw[e];show(if_pos rfl).mpr<|w_mSet.mpr<|fY (xs:=[.int 1,.int 3,.int 5,.int 7]) (p:=λ_=>d7) (v:=λd=>PP<|E8.getD (nI d).toNat (0,0))<|Um ⟨_,rfl,1,8,2,rfl,by decide,λμ' i _=>?_,rfl,by decide,λd μ' hd a=>w_mTrue.mpr ⟨rfl,YS _⟩,λd μ' hd _ a=>?_,λμ' a b=>H _ _ a ?_⟩
  .match i with
   |0=>rfl|1=>rfl|2=>rfl|3=>rfl|n+4=>rfl
  .have c:d=.int 1\/d=.int 3\/d=.int 5\/d=.int 7:=by simpa using hd
   rcases c with rfl|rfl|rfl|rfl<;>show bA rfl rfl<|(fN (aJ a g) rfl).mpr ⟨rfl,YS _⟩
  .rw[b];unfold cB;rw[if_neg<|by lia];rfl
def V4{μ:Hm}(e:l.length<=63)(g:μ[s]?=b0 (.lst<|l.map PP)){Q:jz}(H:∀b μ',μ<+:μ'->μ'[b]?=b0 (.lst<|(mv z.1 z.2 l).map PP)->Q (.loc b,μ')):
  W (eS (jP 2) (bV<|aA 2) eF (aZ<|aB (aC bD (aC aE (aA 1)<|mC<|.int 0)<|aA 8)<|aB (aC bD (aC aE (aA 1)<|mC<|.int 1)<|aA 9) aD) [a0,b0<|PP z,b0<|.loc s,a3,a4,a5,a6,a7] μ) Q:=by
 show tE (xs:=l.map PP) (x:=λd=>[b0<|.int (eB d).1,b0<|.int (eB d).2]) (p:=λ_=>d7) (v:=λd=>PP (z.1+(eB d).1,z.2+(eB d).2))<|w_iSeq.mpr ⟨_,rfl,(cN g).mpr ⟨iL g,rfl,by rw[Yu,Y2];lia,λd μ' hd=>?_,λd μ' hd a=>w_mTrue.mpr ⟨rfl,YS _⟩,λd μ' hd _ a=>?_,λμ' a c=>H _ _ a ?_⟩⟩
 .obtain⟨u,v,rfl⟩:=nJ hd;rfl
 .obtain⟨u,v,rfl⟩:=nJ hd;show⟨(PP (z.1+u,z.2+v),μ'),by kernel_rfl,rfl,YS _⟩
 .rw[c,a2u.mpr λ_ _=>rfl,Y0];unfold mv;rw[Y0];rfl
def V5{μ:Hm}{es ps:jq}(r:es.length<=8)(g:μ[a]?=b0 (.lst<|es.map PP))(n:μ[c]?=b0 (.lst<|ps.map PP)){Q:jz}(H:∀b μ',μ<+:μ'->μ'[b]?=b0 (.lst<|(cM<|es.map λq=>ps.any λp=>p==q).map D.int)->Q (.loc b,μ')):
  W (eH (gW<|aB (aG bO<|aB (aA 4) aD) aD) (aO<|aC (c4 dI) (aC aE (aA 4)<|aA 8)<|aA 0) (aA 8) [b0<|.loc c,b0<|PP z,a3,a5,b0<|.loc a,a6,a7,a0] μ) Q:=by
 have l:bO [.loc a] μ=b0 (.int (es.length:Nat),μ):=bF ((d8 g).mpr<|by rw[Yu]);show fY (xs:=iM 0 es.length) (p:=λd=>(es.map λq=>ps.any λp=>p==q).getD (nI d).toNat dI) (v:=λd=>d) ((oU (j:=0)).mpr<|aX<|aK rfl<|aY l ⟨_,rfl,⟨by lia,by lia⟩,?_⟩);dsimp only;rw[a0S];show⟨GG,by unfold iM;rw[Yu,a0e],by unfold iM;rw[Yu,a0e,Y2];lia,λd μ' hd e=>?_,λd μ' hd _ e=>⟨_,rfl,rfl,YS _⟩,λμ' e o=>H _ _ e ?_⟩
 .obtain⟨i,h,rfl⟩:=YO.mp hd;have h:=ZR.mp h;rw[a2U];show b9<|aM<|bA rfl rfl ⟨_,fZ (aJ e g) h,_,rfl,(BL<|aJ e n).mpr ⟨_,rfl,?_,YS _⟩⟩;change _=(es.map λq=>ps.any λp=>p==q).getD ((i:Int)).toNat dI;rw[a0S];simp[ZV,h]
 .rw[o];unfold iM cM;rw[a1T,Y0,Y0,Yu];have j:((λd:D=>d)∘λ(i:Nat)=>D.int<|0+(i:Int))=D.int∘λ(i:Nat)=>(i:Int):=by funext i;simp
  have k:((λd:D=>(es.map λq=>ps.any λp=>p==q).getD (nI d).toNat dI)∘λ(i:Nat)=>D.int<|0+(i:Int))=λ(i:Nat)=>(es.map λq=>ps.any λp=>p==q).getD i false:=by funext i;simp[nI]
  rw[j,k]
abbrev iQ(bs:List Bool):List Int:=(Zj (cM bs).length).map λk=>((((cM bs).getD ((k+1)%(cM bs).length) 0-(cM bs).getD k 0-1)%(bs.length:Int))+1)*(8/(bs.length:Int))
def V6:∀a b c d e g h i,iQ [a,b,c,d,e,g,h,i]=fQ [a,b,c,d,e,g,h,i]:=by decide +kernel
def V7:∀a b c d,iQ [a,b,c,d]=fQ [a,b,c,d]:=by decide +kernel
def V8 m x y:iQ ((mv x y<|cB x).map m)=fQ ((mv x y<|cB x).map m):=by
 unfold cB mv;split
 .show V6 ..
 .show V7 ..
def V9{es:jq}m:(cM<|es.map m).map (λi=>es.getD i.toNat (0,0))=es.filter m:=by
 unfold cM;rw[Y0,Yu];induction es with
 |nil=>rfl|cons e es b=>
  rw[Zc,a4i,a3b,a1T];have c:((λi=>((e::es).map m).getD i dI)∘Nat.succ)=λi=>(es.map m).getD i false:=by funext i;simp
  rw[c];cases a:m e with
  |true=>simp only[Za,a7L,a,if_true,a6L];rw[Y0,<- b];rfl|false=>simp only[Za,a7L,a,Zf,if_false];rw[a6M<|by rw[a];show YE,Y0,<- b];rfl
def tL{gs:List Int}(g:b[a]?=b0 (.lst<|gs.map D.int))(h:i<gs.length):aE (.loc a) (.int (i:Int)) b=b0 (.int<|gs.getD i 0,b):=bF<|(fN g<|qM<|tK h).mpr rfl
def Wa{n:Nat}(u:n=8\/n=4)(r:es.length=n){d:List Int}(s:k<d.length)(p:e[a]?=b0 (.lst es))(g:e[b]?=b0 (.lst<|d.map D.int))(j:e[c]?=b0 (.lst<|gs.map D.int))(z:gs.length<=100)(H:∀x,R (.nx,[d0,d1,d2,b0<|.int (k:Int),b0<|.loc a,b0<|.loc b,b0<|.loc c,x],e.set c<|.lst<|(gs++[(((d.getD ((k+1)%d.length) 0-d.getD k 0-1)%(n:Int))+1)*(8/(n:Int))]).map D.int)):
  W (Bc [d0,d1,d2,b0<|.int (k:Int),b0<|.loc a,b0<|.loc b,b0<|.loc c,x] e) R:=by
 have v:(k+1)%d.length<d.length:=a2l _ ⋯;have o:bO [.loc b] e=b0 (.int (d.length:Nat),e):=bF ((d8 g).mpr<|by rw[Yu]);have i:bO [.loc a] e=b0 (.int (n:Nat),e):=bF ((d8 p).mpr<|by rw[r]);have l:aE (.loc b) (.int<|((k:Int)+1)%(d.length:Nat)) e=b0 (.int<|d.getD ((k+1)%d.length) 0,e):=by rw[wY];show tL g v
 have h:(0:Int)<(n:Int):=by lia
 show aS (aM<|aM<|aM<|aM<|aM ⟨_,rfl,aM<|bA rfl rfl<|w_addI.mpr<|aK rfl<|aY o<|(dM<|by lia).mpr ⟨_,l,bA rfl rfl ⟨_,tL g s,w_subI.mpr ⟨_,rfl,w_subI.mpr<|aK rfl<|aY i<|(dM h).mpr ⟨_,rfl,w_addI.mpr ?_⟩⟩⟩⟩⟩);have w:=a1V (d.getD ((k+1)%d.length) 0-d.getD k 0-1) (show(n:Int)≠0 by lia);have y:=a1y (d.getD ((k+1)%d.length) 0-d.getD k 0-1) h;rw[YV]at H;show w_mDrop.mpr (eM ⟨_,rfl,dZ j,aX<|aM ⟨_,rfl,aM ⟨_,rfl,aK rfl<|aY i<|(tB h ?_).mpr<|(nG<|.inl<|by omega).mpr ⟨_,rfl,(gO j<|by rw[Yu,Y2];lia).mpr<|H _⟩⟩⟩⟩);rcases u with rfl|rfl<;>decide
inductive RaI (d0 d1 d2:Option D)(a b c:Nat)(ν:Hm)(F:Nat->List Int):Nat->aF->Hm->Prop
 |mk {i:Nat}{x y:Option D}{μ:Hm}(p:ν<+:μ)(g:μ[c]?=b0 (.lst<|(F i).map D.int)):RaI d0 d1 d2 a b c ν F i [d0,d1,d2,x,b0<|.loc a,b0<|.loc b,b0<|.loc c,y] μ
def HE k(hz:dC z=d7){n:Hm}(U:n[c]?=b0 (.lst<|(ms.map (·.1)).map PP))(Q:jz)(H:∀a b μ',n<+:μ'->μ'[a]?=b0 (.lst<|(bK (aP ms) z).map PP)->μ'[b]?=b0 (.lst<|(b6 (aP ms) z).map D.int)->Q (.tup [.loc a,.loc b],μ')):W (f (k+1) "_law_round_a" [.loc c,PP z] n) Q:=by
 have w:(mv z.1 z.2<|cB z.1).length=8\/(mv z.1 z.2<|cB z.1).length=4:=by have:=wX z.1;unfold mv;rw[Yu];show this
 show bS (Vk k _ _ n) ?_;show aS (aY (r:=(.loc n.length,n++[.lst<|E8.map PP])) (by kernel_rfl) ?_);show dN ?_;show V3 (s:=n.length) hz (bB _ _) λs μ1 p1 T=>⟨rfl,?_⟩;show aS ?_;show V4 (by have:=wX z.1;lia) T λa μ2 p2 G=>?_;show aS ?_;have L:=(aR n<|C.lst<|E8.map PP).trans<|p1.trans p2;show V5 ⋯ G (aJ L U) λb g K p=>?_;show aS<|aY (r:=(.loc g.length,g++[C.lst []])) rfl ?_;show dN<|w_mForI.mpr ?_;replace p:g[b]?=b0 (.lst<|(cM<|(mv z.1 z.2<|cB z.1).map<|aP ms).map D.int):=p;have o:=aJ K G;generalize hbs:(mv z.1 z.2<|cB z.1).map (aP ms)=bs at p;have I:bs.length=(mv z.1 z.2<|cB z.1).length:=by rw[<- hbs,Yu]
 have E:iQ bs=b6 (aP ms) z:=by rw[<- hbs];show V8 _ _ _
 have hx:(cM bs).length<=8:=by
  have h1:=l8 (aP ms) z;have h2:=qN (aP ms) z;have X:(iQ bs).length=(cM bs).length:=by unfold iQ;rw[Yu,a0e]
  rw[E]at X;lia
 have gB:=aJ (aR g<|C.lst []) p;have gA:=aJ (aR g<|C.lst []) o;have O:bO [.loc b] (g++[C.lst []])=b0 (.int ((cM bs).length:Nat),g++[C.lst []]):=bF ((d8 gB).mpr<|by rw[Yu]);show(oU (j:=0)).mpr (aX<|aK rfl<|aY O ⟨_,rfl,⟨by lia,by lia⟩,?_⟩);dsimp only;rw[a0S];show lZ (b:=Bc) (RaI (b0<|.loc c) (b0<|PP z) (b0<|.loc s) a b g.length g λi=>(iQ bs).take i) (.mk (aR _ _)<|by rw[ZG];show bB _ _) ?_ ?_
 .rintro i B A u ⟨h,r⟩;show⟨_,rfl,?_⟩;rw[a2U];have M:(iQ bs).take (i+1)=(iQ bs).take i++[(((cM bs).getD ((i+1)%(cM bs).length) 0-(cM bs).getD i 0-1)%(((mv z.1 z.2<|cB z.1).length:Nat):Int)+1)*(8/(((mv z.1 z.2<|cB z.1).length:Nat):Int))]:=by rw[a1r,<- I];unfold iQ;rw[YU,a4M u];rfl
  show Wa (es:=(mv z.1 z.2<|cB z.1).map PP) w (by rw[Yu]) u (aJ h o) (aJ h p) r (by rw[Zb];unfold iQ;rw[Yu,a0e];lia) λx=>.mk (dB h (YG _) _) ?_;rw[cK r,M]
 .rintro B A ⟨h,r⟩;have N:(iQ bs).take (cM bs).length=b6 (aP ms) z:=by rw[<- E];show Z6<|by unfold iQ;rw[Yu,a0e];show YG _
  rw[N]at r;show⟨rfl,bT<|w_mTup.mpr<|aX<|fY (xs:=(cM bs).map D.int) (p:=λ_=>d7) (v:=λd=>PP<|(mv z.1 z.2<|cB z.1).getD (nI d).toNat (0,0))<|w_iSeq.mpr ⟨_,rfl,(cN<|aJ h p).mpr ⟨iL<|aJ h p,rfl,by rw[Yu,Y2];lia,λd μ' hd v=>w_mTrue.mpr ⟨rfl,YS _⟩,λd μ' hd _ v=>?_,λμ' v Y=>⟨_,rfl,jW,H _ _ _ (L.trans<|K.trans<|h.trans v) ?_<|aJ v r⟩⟩⟩⟩
  .obtain⟨i,u,rfl⟩:=YO.mp hd;have y:0<=i/\i.toNat<(mv z.1 z.2<|cB z.1).length:=by unfold cM at u;obtain⟨j,Z,rfl⟩:=YO.mp u;have:=ZR.mp (ZL.mp Z).1;rw[I]at this;show⟨by lia,by omega⟩
   have R:i=((i.toNat:Nat):Int):=by lia
   show bA rfl rfl ⟨(PP<|(mv z.1 z.2<|cB z.1).getD i.toNat (0,0),μ'),?_,rfl,YS _⟩;change aE (.loc a) (.int i) μ'=b0 (PP<|(mv z.1 z.2<|cB z.1).getD i.toNat (0,0),μ');rw[R];show fZ (aJ (h.trans v) o) y.2
  .rw[Y,a2u.mpr λ_ _=>rfl,Y0];have e:=congrArg (a7x PP)<|V9 (es:=mv z.1 z.2 (cB z.1))<|aP ms;rw[hbs,Y0]at e;show congrArg (λl=>b0<|C.lst l) e
def HF{cr:jq}(g:b[a]?=b0 (.lst<|cr.map PP))(h:0<cr.length)(i:Nat)(k:aA v c b=b0 (.int (i:Int),b))(d:aA 0 c b=b0 (.loc a,b)):aC aE (aA 0) (aC aW (aA v)<|aG bO<|aB (aA 0) aD) c b=b0 (PP<|cr.getD (i%cr.length) (0,0),b):=by
 have e:bO [.loc a] b=b0 (.int (cr.length:Nat),b):=bF ((d8 g).mpr<|by rw[Yu]);have j:((i:Int)%(cr.length:Nat))=((i%cr.length:Nat):Int):=by simp[a9g]
 show bF (aM ⟨_,d,aM ⟨_,k,eV<|aX ⟨_,d,_,rfl,aY e<|(dM<|by lia).mpr ?_⟩⟩⟩);rw[j,fZ g<|a2l _ h];show W_some.mpr rfl
def BM k{cr:jq}(g:b[a]?=b0 (.lst<|cr.map PP))(h:0<cr.length)i j d c(Q:jz)(H:Q (bU<|fR (cr.getD (i%cr.length) (0,0)) (cr.getD (j%cr.length) (0,0)) d c,b)):W (f (k+1) "_law_tie" [.loc a,.int (i:Int),.int (j:Int),.bl d,PP c] b) Q:=by show bS (Vn k _ _ _ _ _ b)<|aS<|aY (HF g h i rfl rfl)<|aS<|aY (HF g h j rfl rfl)<|bT<|w_mTup.mpr<|aX<|aK rfl<|aY (BE _ _ b)<|aX<|aK rfl<|aY (BF _ _ b) ⟨_,rfl,BG rfl,H⟩
abbrev j8(m:Int×Int->Bool)(p:Int×Int)(i:Nat):List Ti:=if 2<(bK m p).length/\iP (b6 m p) i=d7 then jH (bK m p) p i else[]
def Wb m p i:(j8 m p i).length<=2:=by
 unfold j8 jH;split
 .split<;>simp
 .simp
abbrev oX(m:Int×Int->Bool)(p:Int×Int):List Ti:=if(bK m p).length=2 then[fR ((bK m p).getD 0 (0,0)) ((bK m p).getD 1 (0,0)) d7 p]else[]
def Wc m p:oX m p++(Zj (bK m p).length).flatMap (j8 m p)=f6 m p:=by
 have e:=l8 m p;unfold oX f6;by_cases a:(bK m p).length=2
 .rw[if_pos a,if_pos a];have:(Zj (bK m p).length).flatMap (j8 m p)=[]:=by rw[List.flatMap_eq_nil_iff];intro i _;unfold j8;rw[if_neg<|by lia]
  rw[this,Zt]
 .rw[if_neg a,if_neg a,a1i];have:∀i∈Zj (bK m p).length,j8 m p i=gX m p i:=λi d=>by
   have d:=ZR.mp d;unfold j8 gX;cases b:iP (b6 m p) i with
   |false=>rw[if_neg<|by simp,if_neg YE]|true=>
    have:2<(bK m p).length:=by
     have c:(bK m p).length≠1:=λz=>by
      rw[z]at e d;obtain⟨h,g⟩:=List.length_eq_one_iff.mp e;obtain rfl:i=0:=by lia
      rw[g]at b;unfold iP at b;simp at b
     lia
    rw[if_pos ⟨this,rfl⟩,if_pos rfl]
  unfold a9T;rw[a0n this]
def We a b c:oQ [.int a,.int b] c=b0 (.int<|if b<a then b else a,c):=rfl
def Wf k{cr:jq}(g:b[a]?=b0 (.lst<|cr.map PP))(gl:∀{x},(b.set l x)[a]?=b[a]?)(r:i<cr.length)(h:b[l]?=b0 (.lst<|T.map bU))(u:T.length<=2000)(H:R (.nx,[d0,d1,b0<|.loc l,b0<|PP c,b0<|.loc a,d5,b0<|.int (i:Int),j],b.set l<|.lst<|(T++jH cr c i).map bU)):W (GR (k+1) [d0,d1,b0<|.loc l,b0<|PP c,b0<|.loc a,d5,b0<|.int (i:Int),j] b) R:=by
 have o:0<cr.length:=by lia
 have s:i%cr.length=i:=a4d r;show l7 (eM ⟨_,rfl,dZ h,aX<|aK (ds:=[.loc a,.int (i:Int),.int ((i+1:Nat):Int),.bl dI,PP c]) (μ':=b) (by kernel_rfl)<|BM k g o i (i+1) dI c _ ⟨_,rfl,(gO h<|by rw[Yu,Y2];lia).mpr ?_⟩⟩);rw[s];have n:(b.set l<|.lst<|T.map bU++[bU<|fR (cr.getD i (0,0)) (cr.getD ((i+1)%cr.length) (0,0)) dI c])[a]?=b0 (.lst<|cr.map PP):=gl.trans g;have d:=cK (c':=C.lst (T.map bU++[bU<|fR (cr.getD i (0,0)) (cr.getD ((i+1)%cr.length) (0,0)) dI c])) h;have p:bO [.loc a] (b.set l<|.lst<|T.map bU++[bU<|fR (cr.getD i (0,0)) (cr.getD ((i+1)%cr.length) (0,0)) dI c])=b0 (.int (cr.length:Nat),_):=bF ((d8 n).mpr<|by rw[Yu]);show w_mIfS.mpr<|b9<|aM<|aK rfl<|aY p ⟨_,rfl,w_eqI.mpr ⟨_,rfl,?_⟩⟩;unfold jH at H;by_cases e:cr.length=4
 .rw[if_pos e]at H;rw[show(((cr.length:Nat):Int)==4)=d7 by rw[e];rfl];show(if_pos rfl).mpr (w_mDrop.mpr<|eM ⟨_,rfl,dZ d,aX<|aK (ds:=[.loc a,.int ((i+2:Nat):Int),.int ((i+3:Nat):Int),.bl d7,PP c]) (μ':=b.set l (.lst<|T.map bU++[bU<|fR (cr.getD i (0,0)) (cr.getD ((i+1)%cr.length) (0,0)) dI c])) (by kernel_rfl)<|BM k n o (i+2) (i+3) d7 c _ ⟨_,rfl,(gO d<|by rw[YF,Yu,Y2];simp;lia).mpr ?_⟩⟩);rw[set_two',e];rw[YV,e]at H;rw[YQ];show H
 .rw[if_neg e,YV]at H;rw[show(((cr.length:Nat):Int)==4)=dI from beq_eq_false_iff_ne.mpr<|by lia];show(if_neg YE).mpr<|w_mNext.mpr H
def Wg(g a b:Int):decide (g<if b<a then b else a)=(decide (g<a)&&decide (g<b)):=by rw[a1U,YK,decide_eq_true_eq,decide_eq_true_eq,decide_eq_true_eq];split<;>omega
def Wh k(g:c[a]?=b0 (.lst<|(bK m p).map PP))(d:c[b]?=b0 (.lst<|(b6 m p).map D.int))(gl:∀{x},(c.set l x)[a]?=c[a]?)(v:i<(bK m p).length)(h:c[l]?=b0 (.lst<|T.map bU))(r:T.length<=2000)(H:∀x,R (.nx,[d0,d1,b0<|.loc l,b0<|PP p,b0<|.loc a,b0<|.loc b,b0<|.int (i:Int),x],c.set l<|.lst<|(T++j8 m p i).map bU)):W (Bd (k+1) [d0,d1,b0<|.loc l,b0<|PP p,b0<|.loc a,b0<|.loc b,b0<|.int (i:Int),j] c) R:=by
 have w:=l8 m p;have y:(i+((b6 m p).length-1))%(b6 m p).length<(b6 m p).length:=a2l _ ⋯;have A:(i+1)%(b6 m p).length<(b6 m p).length:=a2l _ ⋯;have e:bO [.loc a] c=b0 (.int ((bK m p).length:Nat),c):=bF ((d8 g).mpr<|by rw[Yu]);have n:aE (.loc b) (.int<|(i:Int)-1) c=b0 (.int<|(b6 m p).getD ((i+((b6 m p).length-1))%(b6 m p).length) 0,c):=bF<|(fN d<|by
  rw[BI<|by rw[Yu];lia,Yu];show tK y).mpr rfl
 have o:aE (.loc b) (.int<|((i:Int)+1)%((bK m p).length:Nat)) c=b0 (.int<|(b6 m p).getD ((i+1)%(b6 m p).length) 0,c):=by rw[wY,<- w];show tL d A
 show aS (eV<|aX<|aM ⟨_,rfl,bA rfl rfl<|w_subI.mpr ⟨_,n,aX<|aM ⟨_,rfl,aM<|bA rfl rfl<|w_addI.mpr<|aK rfl<|aY e<|(dM<|by lia).mpr ⟨_,o,_,rfl,aY (We _ _ c) ?_⟩⟩⟩⟩);show w_mIfS.mpr ⟨_,HC (b:=decide (((bK m p).length:Int)>2)) (c:=iP (b6 m p) i) (bF<|b9<|aM<|aK rfl<|aY e ⟨_,rfl,w_gtI.mpr ⟨_,rfl,rfl⟩⟩)<|bF<|b9<|aM<|bA rfl rfl ⟨_,tL d<|by lia,_,rfl,w_ltI.mpr ⟨_,rfl,?_⟩⟩,?_⟩
 .rw[Wg];rfl
 .have H:=H;unfold j8 at H;by_cases hc:2<(bK m p).length/\iP (b6 m p) i=d7
  .rw[hc.2,decide_eq_true<|show((bK m p).length:Int)>2 by lia];rw[if_pos hc]at H;show(if_pos rfl).mpr<|Wf k g gl v h r<|H _
  .have u:(decide (((bK m p).length:Int)>2)&&iP (b6 m p) i)=false:=by
    cases s:iP (b6 m p) i with
    |false=>show a6p _|true=>rw[s]at hc;rw[decide_eq_false<|show ¬ ((bK m p).length:Int)>2 from λz=>hc ⟨by lia,rfl⟩];rfl
   rw[u];rw[if_neg hc,Zt,qL h]at H;show(if_neg YE).mpr<|w_mNext.mpr<|H _
abbrev Kp(l:Nat)(a μ':Hm):Prop:=∀j y,j≠l->a[j]?=b0 y->μ'[j]?=b0 y
def Kp.pre{a μ':Hm}(p:a<+:μ'):Kp l a μ':=λ_ _ _ h=>aJ p h
def Kp.trans(a:Kp l c μ')(b:Kp l μ' μ2):Kp l c μ2:=λj y n h=>b j y n<|a j y n h
def Kp.set:Kp l a (a.set l x):=λj y n h=>by rw[YW<|ZJ n];show h
def Kp.all{ν:Hm}(a:Kp l b μ')(p:ν<+:b)(h:ν.length<=l):ν<+:μ':=by show List.prefix_iff_getElem?.mpr λi c=>?_;show a i _ ⋯<|aJ p<|Yz c
def HG{b:Hm}{a:Nat}{cr:jq}{T:List Ti}(g:b[a]?=b0 (.lst<|cr.map PP))(c:b[l]?=b0 (.lst<|T.map bU))(h:0<cr.length):a≠l:=λe=>by
 rw[e,c]at g;have g:=C.lst.inj<|YX g;cases cr with
 |nil=>simp at h|cons q cr=>
  cases T with
  |nil=>cases g|cons t T=>have:=a6K g;cases this
def HH{b:Hm}{a:Nat}{gs:List Int}{T:List Ti}(g:b[a]?=b0 (.lst<|gs.map D.int))(c:b[l]?=b0 (.lst<|T.map bU))(h:0<gs.length):a≠l:=λe=>by
 rw[e,c]at g;have g:=C.lst.inj<|YX g;cases gs with
 |nil=>simp at h|cons q d=>
  cases T with
  |nil=>cases g|cons t T=>have:=a6K g;cases this
inductive LkI (d0 d1:Option D)(l a b:Nat)(ν:Hm)(m:Int×Int->Bool)(p:Int×Int)(T:List Ti):Nat->aF->Hm->Prop
 |mk {i:Nat}{x y:Option D}{μ:Hm}(kp:Kp l ν μ)(gl:μ[l]?=b0 (.lst<|(T++(Zj i).flatMap (j8 m p)).map bU)):LkI d0 d1 l a b ν m p T i [d0,d1,b0<|.loc l,b0<|PP p,b0<|.loc a,b0<|.loc b,x,y] μ
def HI k(g:c[a]?=b0 (.lst<|(bK m p).map PP))(r:c[b]?=b0 (.lst<|(b6 m p).map D.int))(j:c[l]?=b0 (.lst<|T.map bU))(G:T.length<=1900)(H:∀x y d,Kp l c d->d[l]?=b0 (.lst<|(T++(Zj (bK m p).length).flatMap (j8 m p)).map bU)->R (.nx,[d0,d1,b0<|.loc l,b0<|PP p,b0<|.loc a,b0<|.loc b,x,y],d)):W (b8 (gW<|aB (aG bO<|aB (aA 4) aD) aD) (cC 6) (Bd<|k+1) [d0,d1,b0<|.loc l,b0<|PP p,b0<|.loc a,b0<|.loc b,v,w] c) R:=by
 have z:bO [.loc a] c=b0 (.int ((bK m p).length:Nat),c):=bF ((d8 g).mpr<|by rw[Yu]);have E:=qN m p;have I:=l8 m p;show w_mForI.mpr ((oU (j:=0)).mpr<|aX<|aK rfl<|aY z ⟨_,rfl,⟨by lia,by lia⟩,?_⟩);dsimp only;rw[a0S];show lZ (LkI d0 d1 l a b c m p T) (.mk (λ_ _ _ h=>h)<|by simpa using j) ?_ ?_
 .rintro i o n A ⟨e,gl⟩;show⟨_,rfl,?_⟩;rw[a2U];have s:=HG g j ⋯;have B:=HH r j ⋯;have u:=l9 (Wb m p)<|Zj i;rw[a0e]at u;show Wh k (e _ _ s g) (e _ _ B r) (λ{x}=>YW<|ZJ s) A gl (by rw[YF];lia) λx=>.mk (e.trans .set) ?_;rw[cK gl,a1R,a1L];simp
 .rintro o n ⟨e,gl⟩;show H _ _ _ e gl
def Wi k(hz:dC p=d7)(K:n[c]?=b0 (.lst<|(ms.map (·.1)).map PP))(I:n[l]?=b0 (.lst<|T.map bU))(X:T.length<=1800)(H:∀N O Q U h,Kp l n h->h[l]?=b0 (.lst<|(T++f6 (aP ms) p).map bU)->R (.nx,[d0,b0<|.loc c,b0<|.loc l,b0<|PP p,N,O,Q,U],h)):W (Be (k+1) [d0,b0<|.loc c,b0<|.loc l,b0<|PP p,B,d5,w,A] n) R:=by
 show w_mSeq.mpr<|w_mAsg.mpr<|aK rfl<|HE k hz K _ λa b g u i r=>?_;have d:=aJ u I;have E:bO [.loc a] g=b0 (.int ((bK (aP ms) p).length:Nat),g):=bF ((d8 i).mpr<|by rw[Yu]);have fin:=Wc (aP ms) p;show⟨[d0,b0<|.loc c,b0<|.loc l,b0<|PP p,b0<|.loc a,b0<|.loc b,w,A],rfl,fE (b:=(((bK (aP ms) p).length:Nat):Int)==2) (μ':=g) (bF<|b9<|aM<|aK rfl<|aY E ⟨_,rfl,w_eqI.mpr ⟨_,rfl,rfl⟩⟩) (λe=>?_) λe=>cZ ?_⟩
 .have e:(bK (aP ms) p).length=2:=by have:=beq_iff_eq.mp e;lia
  have L:=HG i d ⋯;have Y:=l8 (aP ms) p;have M:=HH r d ⋯;show l7 (eM ⟨_,rfl,dZ d,aX<|aK (ds:=[.loc a,.int ((0:Nat):Int),.int ((1:Nat):Int),.bl d7,PP p]) (μ':=g) (by kernel_rfl)<|BM k i ⋯ 0 1 d7 p _ ⟨_,rfl,(gO d<|by rw[Yu,Y2];lia).mpr ?_⟩⟩);have j:oX (aP ms) p=[fR ((bK (aP ms) p).getD (0%(bK (aP ms) p).length) (0,0)) ((bK (aP ms) p).getD (1%(bK (aP ms) p).length) (0,0)) d7 p]:=by unfold oX;rw[if_pos e,e]
  have G:=cK (c':=C.lst (T.map bU++[bU<|fR ((bK (aP ms) p).getD (0%(bK (aP ms) p).length) (0,0)) ((bK (aP ms) p).getD (1%(bK (aP ms) p).length) (0,0)) d7 p])) d;show HI k (T:=T++oX (aP ms) p) (Kp.set _ _ L i) (Kp.set _ _ M r) (by rw[G,j,YV];rfl) (by rw[j,YF];simp;lia) λx y v s o=>H _ _ _ _ _ ((Kp.pre u).trans<|Kp.set.trans s) ?_;rw[o,YQ,fin]
 .have e:¬ (bK (aP ms) p).length=2:=λz=>by rw[z]at e;cases e
  show HI k i r d ⋯ λx y v s o=>H _ _ _ _ _ ((Kp.pre u).trans s) ?_;have j:oX (aP ms) p=[]:=by unfold oX;rw[if_neg e]
  rw[j,a1i]at fin;rw[o,fin]
def HJ(n:aA j l g=b0 (SH w h ms,g))(r:∀e s μ',aA v (l++[b0<|PP e,b0<|.str s]) μ'=b0 (PP e,μ'))(u:ms.length<=1000){Q:jz}(H:∀c μ',g<+:μ'->μ'[c]?=b0 (.lst<|(ms.map (·.1)).map PP)->g.length<=c->Q (.loc c,μ')):W (eS (jP 2) (bV<|aC aE (aA j)<|mC<|.int 2) eF (aA v) l g) Q:=by
 show tE (xs:=ms.map MD) (x:=λd=>match d with|.tup [a,b]=>[b0 a,b0 b]|_=>[]) (p:=λ_=>d7) (v:=λd=>match d with|.tup [a,_]=>a|_=>.non)<|w_iSeq.mpr<|bA n rfl<|w_it32.mpr ⟨_,rfl,λμ' i k=>rfl,rfl,by rw[Yu,Y2];lia,λd μ' hd=>?_,λd μ' hd k=>w_mTrue.mpr ⟨rfl,YS _⟩,λd μ' hd _ k=>?_,λμ' k p=>H _ _ k ?_<|YG _⟩
 .obtain⟨e,o,rfl⟩:=YO.mp hd;rfl
 .obtain⟨e,o,rfl⟩:=YO.mp hd;show⟨_,r e.1 e.2 μ',rfl,YS _⟩
 .rw[p,a2u.mpr λ_ _=>rfl,Y0,Y0];rfl
inductive LtI (w h:Int)(ms:List ((Int×Int)×Str))(c l:Nat)(ν:Hm):Nat->aF->Hm->Prop
 |mk {i:Nat}{x3 x4 x5 x6 x7:Option D}{μ:Hm}(kp:Kp l ν μ)(g:μ[l]?=b0 (.lst<|(((bP w h).take i).flatMap<|f6<|aP ms).map bU)):LtI w h ms c l ν i [b0<|SH w h ms,b0<|.loc c,b0<|.loc l,x3,x4,x5,x6,x7] μ
def HK:∀w∈[(1:Int),2,3,4,5,6],∀h∈[(1:Int),2,3,4,5,6],(bP w h).length<=61:=by decide +kernel
def Wj k(hw:1<=w/\w<=6)(v:1<=h/\h<=6)(B:ms.length<=1000)(E:mX (gP (aP ms) w h))(g:Hm)(Q:jz)(H:∀l μ',g<+:μ'->g.length<=l->μ'[l]?=b0 (.lst<|(j7<|gP (aP ms) w h).map bU)->Q (.loc l,μ')):W (f (k+2) "_law_ties" [SH w h ms] g) Q:=by
 show bS (Vo (k+1) _ g) ?_;show aS<|HJ rfl (λ_ _ _=>rfl) B λc a n r hc=>?_;show aS<|aY (r:=(.loc a.length,a++[C.lst []])) rfl ?_;show dN<|w_mForI.mpr<|w_iSeq.mpr<|aK rfl<|HD k hw v ms _ _<|(cN<|bB _ _).mpr ?_;have s:=aJ ((aR a<|C.lst []).trans<|aR _<|C.lst<|(bP w h).map PP) r;have gl:=aJ (aR (a++[C.lst []])<|C.lst<|(bP w h).map PP)<|bB a<|C.lst [];have u:=bB (a++[C.lst []])<|C.lst<|(bP w h).map PP;have o:=n.trans<|(aR a<|C.lst []).trans<|aR _<|C.lst<|(bP w h).map PP;have y:=HK w (nK hw) h<|nK v;have cl:c<a.length:=(Yy.mp r).1;generalize(a++[C.lst []])++[C.lst<|(bP w h).map PP]=μ2 at s gl u o ⊢;have nl:(a++[C.lst []]).length≠a.length:=by rw[YF];simp
 show fP (b:=Be (k+1)) (LtI w h ms c a.length μ2) (.mk (λ_ _ _ h=>h) gl) (by rintro _ _ _ ⟨b,_⟩;show b _ _ nl u) ?_ ?_
 .rintro i d I p hd ⟨b,e⟩;obtain⟨z,x,rfl⟩:=jG hd;have K:=l9 (wZ<|aP ms)<|(bP w h).take i;have L:=a3l i<|bP w h;show⟨_,rfl,Wi k (ZL.mp<|YZ x).2 (b _ _ ⋯ s) e ⋯ λ_ _ _ _ G j A=>.mk (b.trans j) ?_⟩;rw[A,a1r,x];simp
 .rintro I p ⟨b,e⟩;rw[Yu,Zp]at e;show⟨rfl,bT<|aK rfl<|aY (HB (ts:=gP (aP ms) w h) e E)<|H _ _ ((b.all o<|n.length_le).trans<|aR _ _) (b.all o<|n.length_le).length_le<|bB _ _⟩
abbrev w4:D->Int
 |.tup [.int i,.int g]=>g*(1-2*(i%2))|_=>0
abbrev BN(gs:List Int):Int:=((jD 0<|gs.map D.int).map w4).sum
abbrev w5(gs:List Int):Bool:=(gs.length:Int)%2==1||!(BN gs==0)
def Wl:∀a b c d e g h i,w5 (fQ [a,b,c,d,e,g,h,i])=!(kZ<|fQ [a,b,c,d,e,g,h,i]):=by decide +kernel
def Wm:∀a b c d,w5 (fQ [a,b,c,d])=!(kZ<|fQ [a,b,c,d]):=by decide +kernel
def Wn m p:w5 (b6 m p)=dH m p:=by
 unfold dH b6 cB mv;split
 .show Wl ..
 .show Wm ..
abbrev Wo:D->aF
 |.tup [a,b]=>[b0 a,b0 b]|_=>[]
def Wq(o:aA 3 l h=b0 (.loc a,h))(k:∃x y z t,l=[x,y,z,t])(g:h[a]?=b0 (.lst<|gs.map D.int))(u:gs.length<=8)(p:∀x∈gs,-100<=x/\x<=100){Q:jz}(H:∀μ',h<+:μ'->Q (.int<|BN gs,μ')):
  W (aG jS (aB (eS (jP 2) (oG<|aB (aA 3) aD) eF<|aC cL (aA 5)<|aC cX (mC<|.int 1)<|aC cL (mC<|.int 2)<|aC aW (aA 4)<|mC<|.int 2) aD) l h) Q:=by
 obtain⟨x,y,z,t,rfl⟩:=k;show wV<|tE (xs:=jD 0 (gs.map D.int)) (x:=Wo) (p:=λ_=>d7) (v:=λd=>.int<|w4 d)<|GK<|aX ⟨_,o,_,rfl,a,_,rfl,g,Ue g,by rw[A8],by rw[A8,Yu,Y2];lia,λd μ' hd=>?_,λd μ' hd j=>w_mTrue.mpr ⟨rfl,YS _⟩,λd μ' hd _ j=>?_,λμ' j b=>?_⟩
 .obtain⟨i,c⟩:=a0Z hd;rw[wN]at c;obtain⟨e,_,rfl⟩:=YB.mp c;rfl
 .obtain⟨i,c⟩:=a0Z hd;rw[wN]at c;obtain⟨e,n,rfl⟩:=YB.mp c;rw[YU]at n;obtain⟨v,r,rfl⟩:=YB.mp n;have s:=p v<|YZ r;show aM ⟨_,rfl,aM ⟨_,rfl,aM ⟨_,rfl,bA rfl rfl<|w_mod2.mpr<|w_mul2.mpr<|w_subI.mpr<|(nG<|.inl<|by lia).mpr ⟨rfl,YS _⟩⟩⟩⟩
 .rw[a2u.mpr λ_ _=>rfl]at b;have e:(jD 0<|gs.map D.int).map (λd=>D.int<|w4 d)=((jD 0<|gs.map D.int).map w4).map D.int:=by rw[Y0];rfl
  rw[e]at b;show(A7 b).mpr<|H _ j
def Wr:∀a b c d e g h i,∀x∈fQ [a,b,c,d,e,g,h,i],-100<=x/\x<=100:=by decide +kernel
def Ws:∀a b c d,∀x∈fQ [a,b,c,d],-100<=x/\x<=100:=by decide +kernel
def Wt m p:∀x∈b6 m p,-100<=x/\x<=100:=by
 unfold b6 cB mv;split
 .show Wr _ _ _ _ _ _ _ _
 .show Ws _ _ _ _
def Wu k{g:Hm}(hz:dC p=d7)(u:g[c]?=b0 (.lst<|(ms.map (·.1)).map PP))(i:dH (aP ms) p=d7->∀x μ',g<+:μ'->R (.rt<|PP p,[d0,b0<|.loc c,b0<|PP p,x],μ'))(r:dH (aP ms) p=dI->∀x μ',g<+:μ'->R (.nx,[d0,b0<|.loc c,b0<|PP p,x],μ')):W (Bf (k+1) [d0,b0<|.loc c,b0<|PP p,x] g) R:=by
 show aS<|aM<|aK rfl<|HE k hz u _ λa b e h _ j=>⟨_,rfl,w_it21.mpr ?_⟩;have y:=l8 (aP ms) p;have w:=qN (aP ms) p;have s:bO [.loc b] e=b0 (.int ((b6 (aP ms) p).length:Nat),e):=bF ((d8 j).mpr<|by rw[Yu]);have d:=Wn (aP ms) p;unfold w5 at d;show w_mIfS.mpr<|w_mOrT.mpr ⟨_,bF (r:=(((b6 (aP ms) p).length:Int)%2==1,e))<|b9<|aM<|aM<|aK rfl<|aY s ⟨_,rfl,w_mod2.mpr ⟨_,rfl,w_eqI.mpr ⟨_,rfl,rfl⟩⟩⟩,?_⟩;cases l:((b6 (aP ms) p).length:Int)%2==1 with
 |true=>rw[l,Bool.true_or]at d;show(if_pos rfl).mpr ((if_pos rfl).mpr<|w_mRet.mpr ⟨_,rfl,i d.symm _ _ h⟩)|false=>
  rw[l,a6I]at d;show(if_neg YE).mpr (b9<|aM<|Wq rfl ⟨_,_,_,_,rfl⟩ j nofun (Wt _ _) λv o=>⟨_,rfl,w_neI.mpr ⟨_,rfl,?_⟩⟩);cases n:BN (b6 (aP ms) p)==0 with
  |true=>rw[n]at d;show(if_neg YE).mpr (w_mNext.mpr<|r d.symm _ _<|h.trans o)|false=>rw[n]at d;show(if_pos rfl).mpr<|w_mRet.mpr ⟨_,rfl,i d.symm _ _<|h.trans o⟩
inductive LbI (w h:Int)(ms:List ((Int×Int)×Str))(c:Nat)(ν:Hm):Nat->aF->Hm->Prop
 |mk {i:Nat}{x y:Option D}{μ:Hm}(p:ν<+:μ)(ok:∀z∈(bP w h).take i,dH (aP ms) z=dI):LbI w h ms c ν i [b0<|SH w h ms,b0<|.loc c,x,y] μ
def HL k(hw:1<=w/\w<=6)(B:1<=h/\h<=6)(E:ms.length<=1000)(o:Hm)(Q:jz)(H:∀μ',o<+:μ'->Q (Hy<|(bP w h).find?<|dH<|aP ms,μ')):W (f (k+2) "_law_barred" [SH w h ms] o) Q:=by
 show bS (Vm (k+1) _ o) ?_;show aS<|HJ rfl (λ_ _ _=>rfl) E λc a I A hc=>?_;show w_mSeq.mpr<|w_mForI.mpr<|w_iSeq.mpr<|aK rfl<|HD k hw B ms _ _<|(cN<|bB _ _).mpr ?_;have u:=aJ (aR a<|C.lst<|(bP w h).map PP) A;have v:=bB a<|C.lst<|(bP w h).map PP;have n:=I.trans<|aR a<|C.lst<|(bP w h).map PP;generalize a++[C.lst<|(bP w h).map PP]=μ2 at u v n ⊢;show fP (b:=Bf (k+1)) (LbI w h ms c μ2) (.mk (YS _) λz b=>by simp at b) (by rintro _ _ _ ⟨p,_⟩;show aJ p v) ?_ ?_
 .rintro i d K r hd ⟨g,ok⟩;obtain⟨z,b,rfl⟩:=jG hd;show⟨_,rfl,Wu k (ZL.mp<|YZ b).2 (aJ g u) (λj x s l=>?_) λj x s l=>.mk (g.trans l)<|Hz ok b j⟩;have e:=Hw (q:=dH (aP ms)) (Hx b) ok j;rw[e]at H;show H _<|n.trans<|g.trans l
 .rintro K r ⟨g,ok⟩;rw[Yu,Zp]at ok;have e:(bP w h).find? (dH<|aP ms)=none:=a0V.mpr λy G=>by rw[ok y G];show YE
  rw[e]at H;show bT ⟨_,rfl,H _<|n.trans g⟩
abbrev dD(ns:List Int)(i:Int):Int:=if i<ns.length then ns.getD i.toNat 0 else 0
def qO k ns(b:0<=i)a(Q:jz)(H:Q (.int<|dD ns i,a)):W (f (k+1) "_law_nth" [.rol<|ns.map D.int,.int i] a) Q:=by
 show bS (Vb k _ _ a) (bT<|w_mIfE.mpr ⟨_,bF (r:=(decide<|i<ns.length,a))<|b9<|aM ⟨_,rfl,aK rfl<|w_lenR.mpr<|w_ltI.mpr ⟨_,rfl,by rw[Yu]⟩⟩,?_⟩);unfold dD at H;by_cases h:i<ns.length
 .rw[if_pos h]at H;rw[decide_eq_true h];show(if_pos rfl).mpr<|bA rfl rfl<|(VB<|VA b h).mpr H
 .rw[if_neg h]at H;rw[decide_eq_false h];show(if_neg YE).mpr ⟨_,rfl,H⟩
def HM:∀(l:jq)i,(l.map PP).eraseIdx i=(l.eraseIdx i).map PP
 |[],_=>rfl|_::_,0=>rfl|x::l,i+1=>by change PP x::(l.map PP).eraseIdx i=PP x::(l.eraseIdx i).map PP;rw[HM l i]
def Wv{ps:jq}{Q:jz}(g:h[a]?=b0 (.lst<|ps.map PP))(i:q∈ps)(j:ps.length<=1000)(H:∀d:jq,d.Sublist ps->d.length<ps.length->Q (.non,h.set a<|.lst<|d.map PP)):W (qF (.loc a) [PP q] h) Q:=by
 have b:(ps.map λp=>p==q).findIdx id<(ps.map λp=>p==q).length:=List.findIdx_lt_length_of_exists ⟨d7,YO.mpr ⟨q,i,beq_self_eq_true q⟩,rfl⟩;have c:(ps.map λp=>p==q).findIdx id<ps.length:=by rw[Yu]at b;show b
 show⟨_,by simp only[qF,g,BB,Y9];rw[if_pos ⟨b,by rw[Yu,Y2];lia⟩],?_⟩;have e:(ps.map PP).eraseIdx ((ps.map λp=>p==q).findIdx id)=(ps.eraseIdx<|(ps.map λp=>p==q).findIdx id).map PP:=HM _ _;rw[e];show H _ (List.eraseIdx_sublist ..)<|by rw[List.length_eraseIdx_of_lt c];omega
abbrev Ww(w h:Int)(p:Int×Int):Bool:=decide (0<p.1)&&decide (p.1<4*w)&&decide (0<p.2)&&decide (p.2<4*h)&&(p.1%2==1&&p.2%2==1||p.1%2==0&&(p.2%2==0&&!(p.1%4==p.2%4)))
abbrev sqA:jq:=[(6,4),(8,6),(6,8),(4,6),(3,3),(1,1),(3,5),(1,7),(7,3),(5,1),(9,3),(11,1)]
abbrev sqB:jq:=[(9,7),(11,5),(9,9),(11,11),(5,9),(7,11),(3,9),(1,11)]
def Wx k(a:Hm)(Q:jz)(H:∀l μ',a<+:μ'->a.length<=l->μ'[l]?=b0 (.lst<|(sqA++sqB).map PP)->Q (.loc l,μ')):W (f (k+1) "_law_square" [] a) Q:=by show bS (Vh k a) (aS<|aY (r:=(.loc a.length,a++[.lst<|sqA.map PP])) (by kernel_rfl)<|bT<|aM ⟨_,rfl,aY (r:=(.loc (a++[C.lst<|sqA.map PP]).length,(a++[.lst<|sqA.map PP])++[.lst<|sqB.map PP])) (by kernel_rfl)<|(tD (aJ (aR _ _)<|bB _ _) (bB _ _)<|by decide).mpr ?_⟩);show H _ _ ((aR _ _).trans<|(aR _ _).trans<|aR _ _) (by rw[YF,YF];lia) ?_;rw[YV];show bB _ _
def sq_ok:(sqA++sqB).Nodup/\∀p∈sqA++sqB,Ww 3 3 p=true:=by decide
structure Ly where
 a:Int
 b:Int
 c:Int
 d:Int
 e:Int
 g:Int
 deriving DecidableEq
noncomputable abbrev LD(A:Ly):D:=.tup [.int A.a,.int A.b,.int A.c,.int A.d,.int A.e,.int A.g]
abbrev Dih(A:Ly):Prop:=(A.b=0/\A.c=0/\(A.a=1\/A.a=-1)/\(A.d=1\/A.d=-1))\/(A.a=0/\A.d=0/\(A.b=1\/A.b=-1)/\(A.c=1\/A.c=-1))
def Dih.sm(h:Dih A):(-1<=A.a/\A.a<=1)/\(-1<=A.b/\A.b<=1)/\(-1<=A.c/\A.c<=1)/\(-1<=A.d/\A.d<=1):=by unfold Dih at h;lia
abbrev dE(A:Ly)(p:Int×Int):Int×Int:=(A.a*p.1+A.b*p.2+A.e,A.c*p.1+A.d*p.2+A.g)
abbrev qP(A B:Ly):Ly:=⟨B.a*A.a+B.b*A.c,B.a*A.b+B.b*A.d,B.c*A.a+B.d*A.c,B.c*A.b+B.d*A.d,B.a*A.e+B.b*A.g+B.e,B.c*A.e+B.d*A.g+B.g⟩
abbrev BO:Ly:=⟨1,0,0,1,0,0⟩
abbrev tP(e:Int×Int):Ly:=
 ⟨(iO (1,0) e).1-(iO (0,0) e).1,(iO (0,1) e).1-(iO (0,0) e).1,(iO (1,0) e).2-(iO (0,0) e).2,(iO (0,1) e).2-(iO (0,0) e).2,(iO (0,0) e).1,(iO (0,0) e).2⟩
def Ly.ext'{A:Ly}(h1:A.a=B.a)(a:A.b=B.b)(b:A.c=B.c)(c:A.d=B.d)(d:A.e=B.e)(e:A.g=B.g):A=B:=by cases A;cases B;simp_all
def zq1(a b d:Int):a+d-(b+d)=a-b:=by lia
def zq2(a b d:Int):a-d-(b-d)=a-b:=by lia
def zq3(a b d:Int):d-a-(d-b)=b-a:=by lia
def HN e:Dih (tP e):=by
 unfold tP iO;split<;>split
 .show .inr ⟨zq1 0 0 _,zq2 0 0 _,.inl<|zq1 1 0 _,.inl<|zq2 1 0 _⟩
 .show .inr ⟨zq3 0 0 _,zq3 0 0 _,.inr<|zq3 1 0 _,.inr<|zq3 1 0 _⟩
 .show .inl ⟨rfl,zq3 0 0 _,.inl rfl,.inr<|zq3 1 0 _⟩
 .show .inl ⟨zq3 0 0 _,rfl,.inr<|zq3 1 0 _,.inl rfl⟩
def Wz:Dih BO:=.inl ⟨rfl,rfl,.inl rfl,.inl rfl⟩
def nM(a:x=1\/x=-1)(b:y=1\/y=-1):x*y=1\/x*y=-1:=by rcases a with rfl|rfl<;>rcases b with rfl|rfl<;>decide
def zp0{x y z t:Int}(h:x=0\/y=0)(k:z=0\/t=0):x*y+z*t=0:=by rw[Int.mul_eq_zero.mpr h,Int.mul_eq_zero.mpr k];rfl
def zpL{x y z t:Int}(k:z=0\/t=0)(h:x*y=1\/x*y=-1):x*y+z*t=1\/x*y+z*t=-1:=by rw[Int.mul_eq_zero.mpr k,Int.add_zero];show h
def zpR{x y z t:Int}(k:x=0\/y=0)(h:z*t=1\/z*t=-1):x*y+z*t=1\/x*y+z*t=-1:=by rw[Int.mul_eq_zero.mpr k,Int.zero_add];show h
def WA(hA:Dih A)(hB:Dih B):Dih (qP A B):=by
 rcases hA with⟨a,b,c,d⟩|⟨a,b,c,d⟩<;>rcases hB with⟨u,v,w,x⟩|⟨u,v,w,x⟩
 .show .inl ⟨zp0 (.inr a) (.inl u),zp0 (.inl v) (.inr b),zpL (.inl u) (nM w c),zpR (.inl v) (nM x d)⟩
 .show .inr ⟨zp0 (.inl u) (.inr b),zp0 (.inr a) (.inl v),zpR (.inl u) (nM w d),zpL (.inl v) (nM x c)⟩
 .show .inr ⟨zp0 (.inr a) (.inl u),zp0 (.inl v) (.inr b),zpL (.inl u) (nM w c),zpR (.inl v) (nM x d)⟩
 .show .inl ⟨zp0 (.inl u) (.inr b),zp0 (.inr a) (.inl v),zpR (.inl u) (nM w d),zpL (.inl v) (nM x c)⟩
def WB:([a,b,c,d,e,g]:List D).length<=YM:=by change(6:Nat)<=YM;decide
def HP k p q r a(Q:jz):W (f (k+1) "laying_by" [PP p,PP q,PP r] a) Q↔Q (LD ⟨q.1-p.1,r.1-p.1,q.2-p.2,r.2-p.2,p.1,p.2⟩,a):=by rw[U7,W_fin];simp only[w_mRet,w_mTup,w_mCons,fX,w_mOp,eK,gN,iK,qJ,w_it21,w_subI,WB,true_and]
def WC k x y a(Q:jz):W (f (k+3) "mirror_in" [P x y] a) Q↔Q (LD<|tP (x,y),a):=by rw[U8,W_fin];simp only[w_mRet,w_mCall,w_mCons,fX,w_mTup,eK,iK,jW,true_and,Vz,HP];rfl
def w8(h:-1<=i/\i<=1){Q:jz}:W (cL (.int i) (.int j) a) Q↔Q (.int<|i*j,a):=nG<|.inl ⟨by lia,by omega⟩
def w9 k A(hA:Dih A)x y a(Q:jz):W (f (k+1) "led" [LD A,P x y] a) Q↔Q (PP<|dE A (x,y),a):=by obtain⟨b,c,d,e⟩:=hA.sm;rw[U9,W_fin];simp only[w_mSeq,w_mSet,w_mRet,w_mTup,w_mCons,fX,w_mOp,eK,gN,iK,qJ,w_it21,T3,T4,T5,T6,T7,T8,a1s,a2D,w8 b,w8 c,w8 d,w8 e,w_addI,jW,true_and];rfl
def zt1(p q a b c d e g h:Int):p*(a*1+b*0+e)+q*(c*1+d*0+g)+h-(p*(a*0+b*0+e)+q*(c*0+d*0+g)+h)=p*a+q*c:=by grind
def zt2(p q a b c d e g h:Int):p*(a*0+b*1+e)+q*(c*0+d*1+g)+h-(p*(a*0+b*0+e)+q*(c*0+d*0+g)+h)=p*b+q*d:=by grind
def zt3(p q a b c d e g h:Int):p*(a*0+b*0+e)+q*(c*0+d*0+g)+h=p*e+q*g+h:=by grind
def WD k A B(hA:Dih A)(hB:Dih B)a(Q:jz):W (f (k+2) "then" [LD A,LD B] a) Q↔Q (LD<|qP A B,a):=by
 rw[Va,W_fin];simp only[w_mRet,w_mCall,w_mCons,fX,w_mTup,eK,gN,iK,jW,true_and,w9 _ A hA,w9 _ B hB,HP];have e:(⟨(dE B<|dE A (1,0)).1-(dE B<|dE A (0,0)).1,(dE B<|dE A (0,1)).1-(dE B<|dE A (0,0)).1,(dE B<|dE A (1,0)).2-(dE B<|dE A (0,0)).2,(dE B<|dE A (0,1)).2-(dE B<|dE A (0,0)).2,(dE B<|dE A (0,0)).1,(dE B<|dE A (0,0)).2⟩:Ly)=qP A B:=Ly.ext' (zt1 ..) (zt2 ..) (zt1 ..) (zt2 ..) (zt3 ..) (zt3 ..)
 rw[<- e]
abbrev xA(n:Int):Int:=if 0<n then 1 else if n<0 then -1 else 0
def WE k x y a b d(Q:jz):W (f (k+2) "hand_of" [P x y,P a b] d) Q↔Q (.int<|xA<|jX a b x y-jX a b a b,d):=by
 rw[Uz,W_fin];simp only[w_mSeq,w_mRet,w_mNext,w_mIfS,w_mIfE,w_mSet,w_mCall,w_mCons,fX,w_mOp,iK,eK,gN,w_mTest,TY,w_subI,w_gtI,w_ltI,Ha,Hb,a1s,a2D];generalize jX a b x y-jX a b a b=n;unfold xA;by_cases c:0<n
 .simp[c]
 .by_cases e:n<0<;>simp[c,e]
def BP(nd:(l.map (·.1)).Nodup)(h:(k,d)∈l):a9 l k=b0 d:=by
 induction l with
 |nil=>cases h|cons p l a=>
  rw[Za,ZO]at nd;unfold a9;rw[ZZ];rcases Zm.mp h with h|h
  .rw[<- h];simp
  .have:decide (p.1=k)=false:=decide_eq_false λz=>nd.1<|YO.mpr ⟨_,h,z.symm⟩;rw[this];show a nd.2 h
def iR(h:a8 p=a8 q):p=q:=by unfold a8 at h;injection h with h1 h2;injection h2 with h2;show a4b h1 h2
def e8{a:Type}{l:List a}{x:a}(h:l[n]?=b0 x):l.take (n+1)=l.take n++[x]:=by rw[a8z,h];rfl
def oY{c:Type}{l:List c}(nd:l.Nodup){x:c}(h:l[n]?=b0 x):x∉l.take n:=λg=>by
 obtain⟨j,a⟩:=a1Y.mp g;have b:j<n:=by have:=(Yy.mp a).1;rw[Zb]at this;lia
 rw[a0X b]at a;have i:n<l.length:=(Yy.mp h).1;have d:=(Yy.mp a).2;have e:=(Yy.mp h).2;show absurd ((a8L nd).mp<|d.trans e.symm)<|by lia
noncomputable abbrev cI(v:Int×Int->D)(ps:jq):jx:=ps.map λp=>(a8 p,v p)
def nN(nd:ps.Nodup)(h:p∈ps):a9 (cI v ps) (a8 p)=b0 (v p):=by show BP ?_<|YO.mpr ⟨p,h,rfl⟩;rw[Y0];show a4p _ (λa b c x=>c<|iR x) nd
def WG(h:p∉ps):a9 (cI v ps) (a8 p)=none:=by
 unfold a9;rw[a0V.mpr]
 .rfl
 .intro x a;obtain⟨z,b,rfl⟩:=YO.mp a;rw[decide_eq_true_iff];show λe=>h<|iR e▸b
def BQ(h:p∉ps):bW (cI v ps) (a8 p) (v p)=cI v (ps++[p]):=by unfold bW;rw[WG h,if_neg<|by simp];change _=a7x _ _;rw[YV];rfl
def WH(h:W (m c b) λp=>∃a kvs,p.1=.loc a/\p.2[a]?=b0 (.dT kvs)/\Q (dQ<|.tup<|kX kvs,kvs.length+1,p.2.set a<|.dF kvs)):W (sJ m c b) Q:=by unfold sJ;rw[W_bind];show bN h λp ⟨a,kvs,e,g,q⟩=>?_;rw[e];dsimp only;rw[g];show W_some.mpr q
def WI{b:MS}(I:Nat->aF->Hm->Prop)(l:I 0 c a)(go:∀i d c a,xs[i]?=b0 d->I i c a->∃h,g d c a=b0 h/\W (b h a) λp=>match p.1 with|.nx=>I (i+1) p.2.1 p.2.2|.ct=>I (i+1) p.2.1 p.2.2|.bk=>Q (.nx,p.2.1,p.2.2)|.rt d=>Q (.rt d,p.2.1,p.2.2))(j:∀c a,I xs.length c a->Q (.nx,c,a)):W (eQ (dQ<|.tup xs) g b (xs.length+1) 0 c a) Q:=by
 show oV (N:=xs.length) I (λi c a r k=>?_) (λc a k=>⟨?_,j c a k⟩) xs.length 0 c a ⋯ l
 .have e:xs[i]?=b0 xs[i]:=Yz r;obtain⟨h,n,o⟩:=go i _ c a e k;show⟨xs[i],h,by change b0 xs[i]?=_;rw[e],n,o⟩
 .change b0 xs[xs.length]?=_;rw[a0E<|YG _]
abbrev nO(e:Int×Int)(hd:Int)(F:Int×Int->Ly)(q:Int×Int):Ly:=if xA (jX e.1 e.2 (dE (F q) q).1 (dE (F q) q).2-jX e.1 e.2 e.1 e.2)==hd then qP (F q) (tP e)else F q
def WJ k(d:∀q,Dih (F q))(H:W (rY (.loc l) (PP q) (LD<|nO e hd F q) b) λμ'=>∀x,R (.nx,[c,b0<|PP e,b0<|.int hd,b0<|.loc l,b0<|PP q,x],μ')):W (Bg (k+3) [c,b0<|PP e,b0<|.int hd,b0<|.loc l,b0<|PP q,b0<|LD<|F q] b) R:=by
 show fE (b:=xA (jX e.1 e.2 (dE (F q) q).1 (dE (F q) q).2-jX e.1 e.2 e.1 e.2)==hd) (μ':=b) (bF<|b9<|aM<|eV<|aX<|aK rfl<|(w9 (k+2) (F q) (d q) q.1 q.2 _ _).mpr ⟨_,rfl,(WE (k+1) _ _ _ _ _ _).mpr ⟨_,rfl,w_eqI.mpr ⟨_,rfl,rfl⟩⟩⟩) (λa=>?_) λa=>?_
 .unfold nO at H;rw[if_pos a]at H;show aS<|eV<|aX ⟨_,rfl,aX<|aK rfl<|(WC k e.1 e.2 _ _).mpr ⟨_,rfl,(WD (k+1) (F q) (tP e) (d q) (HN e) _ _).mpr<|w_mPut.mpr ⟨_,rfl,_,rfl,_,rfl,bN H λμ' z=>z _⟩⟩⟩
 .unfold nO at H;rw[if_neg<|by rw[a];show YE]at H;show cZ<|w_mPut.mpr ⟨_,rfl,_,rfl,_,rfl,bN H λμ' z=>z _⟩
inductive FoI (a:Nat)(e:Int×Int)(hd:Int)(l:Nat)(ν:Hm)(V:Int×Int->D)(qs:jq):Nat->aF->Hm->Prop
 |mk {i:Nat}{x y:Option D}{μ:Hm}(kp:Kp l ν μ)(g:μ[l]?=b0 (.dT<|cI V<|qs.take i)):FoI a e hd l ν V qs i [b0<|.loc a,b0<|PP e,b0<|.int hd,b0<|.loc l,x,y] μ
def WK k(A:∀q,Dih (F q))(nd:b.Nodup)(I:b.length<=200)e hd(g:c[a]?=b0 (.dT<|cI (λq=>LD<|F q) b))(Q:jz)(H:∀l μ',Kp a c μ'->c.length<=l->μ'[l]?=b0 (.dT<|cI (λq=>LD<|nO e hd F q) b)->Q (.loc l,μ')):W (f (k+4) "_law_folded" [.loc a,PP e,.int hd] c) Q:=by
 have la:a<c.length:=(Yy.mp g).1;show bS (Vc (k+3) _ _ _ c)<|aS<|w_mDNewT.mpr<|dN<|w_mForI.mpr<|WH ⟨_,rfl,a,_,rfl,aJ (aR _ _) g,?_⟩;have gl:((c++[C.dT []]).set a<|.dF<|cI (λq=>LD<|F q) b)[c.length]?=b0 (.dT []):=by rw[YW<|by lia];show bB _ _
 have w:Kp a c ((c++[C.dT []]).set a<|.dF<|cI (λq=>LD<|F q) b):=(Kp.pre<|aR _ _).trans .set;generalize(c++[C.dT []]).set a (.dF<|cI (λq=>LD<|F q) b)=ν at gl w ⊢;have B:kX (cI (λq=>LD<|F q) b)=b.map λq=>.tup [PP q,LD<|F q]:=by unfold kX;rw[Y0];rfl
 rw[B];have r:(cI (λq=>LD<|F q) b).length=(b.map λq=>D.tup [PP q,LD<|F q]).length:=by rw[Yu,Yu]
 rw[r];show WI (b:=Bg (k+3)) (FoI a e hd c.length ν (λq=>LD<|nO e hd F q) b) (.mk (λ_ _ _ h=>h)<|by rw[ZG];show gl) ?_ ?_
 .rintro i d G u p ⟨s,o⟩;rw[YU]at p;obtain⟨q,v,rfl⟩:=YB.mp p;have E:=oY nd v;show⟨_,rfl,WJ k A<|(nH o (cT q)<|by rw[Yu,Zb,Y2];lia).mpr λx=>.mk (s.trans .set) ?_⟩;rw[cK o,BQ (v:=λq=>LD<|nO e hd F q) E,e8 v]
 .rintro G u ⟨s,o⟩;rw[Yu,Zp]at o;show⟨rfl,bT ⟨_,rfl,H _ _ (λj y n h=>s j y (λz=>by have:=(Yy.mp h).1;lia)<|w j y n h) (YG _) o⟩⟩
def WL(a:∀q,Dih (F q)):∀q,Dih (nO e hd F q):=λq=>by
 unfold nO;split
 .show WA (a q)<|HN e
 .show a q
abbrev cV(p:Int×Int):Bool:=if p.1%2==1 then p.2%2==1 else p.2%2==0&&!(p.1%4==p.2%4)
abbrev jI(p:Int×Int):Bool:=if p.1%2==1 then p.2%4==2 else p.1%4==2&&p.2%2==1
def mB(h:a g e=b0 (.bl c,e))(i:b g e=b0 (.bl d,e)):eN a b g e=b0 (.bl<|c&&d,e):=bF<|w_mAndV.mpr ⟨_,h,by
 cases c with
 |true=>show(if_pos rfl).mpr ⟨_,i,rfl⟩
 |false=>show(if_neg YE).mpr rfl⟩
def HQ k p a(Q:jz)(H:Q (.bl<|cV p,a)):W (f (k+1) "is_edge" [PP p] a) Q:=by
 unfold cV at H;show bS (Ur k _ a)<|fE (b:=p.1%2==1) (μ':=a) (by kernel_rfl) (λh=>iN<|aY (r:=(.bl<|p.2%2==1,a)) (by kernel_rfl) ?_) λh=>cZ<|bT<|aY (mB (c:=p.2%2==0) (d:=!(p.1%4==p.2%4)) (by kernel_rfl)<|by kernel_rfl) ?_
 .rw[h]at H;show H
 .rw[h]at H;show H
def HS k p a(Q:jz)(H:Q (.bl<|jI p,a)):W (f (k+1) "is_quarter" [PP p] a) Q:=by
 unfold jI at H;show bS (Us k _ a)<|fE (b:=p.1%2==1) (μ':=a) (by kernel_rfl) (λh=>iN<|aY (r:=(.bl<|p.2%4==2,a)) (by kernel_rfl) ?_) λh=>cZ<|bT<|aY (mB (c:=p.1%4==2) (d:=p.2%2==1) (by kernel_rfl)<|by kernel_rfl) ?_
 .rw[h]at H;show H
 .rw[h]at H;show H
def BR k(hw:1<=w/\w<=6)(l:1<=h/\h<=6)(c:Hm)(Q:jz)(H:∀a μ',c<+:μ'->μ'[a]?=b0 (.lst<|((cE w h).filter cV).map PP)->Q (.loc a,μ')):W (f (k+2) "edges_in" [.int w,.int h] c) Q:=by
 show bS (UH (k+1) _ _ c) (bT<|fY (xs:=(cE w h).map PP) (p:=λd=>cV<|eB d) (v:=λd=>d)<|w_iSeq.mpr<|aK rfl<|By _ w h ⋯ ⋯ _ _ λa j i e n=>?_);show(cN e).mpr ⟨iL e,rfl,?_,λd μ' hd b=>?_,λd μ' hd _ b=>⟨_,rfl,rfl,YS _⟩,λμ' b g=>?_⟩
 .have:=tI (w:=w) (h:=h) ⋯ ⋯;rw[Yu,Y2];lia
 .obtain⟨u,v,rfl⟩:=nJ hd;show d9<|aK rfl<|HQ k (u,v) _ _ ⟨rfl,rfl,YS _⟩
 .show H _ _ (i.trans b) ?_;rw[g,qK cV]
def WM k(hw:1<=w/\w<=6)(l:1<=h/\h<=6)(c:Hm)(Q:jz)(H:∀a μ',c<+:μ'->μ'[a]?=b0 (.lst<|((cE w h).filter jI).map PP)->Q (.loc a,μ')):W (f (k+2) "quarters_in" [.int w,.int h] c) Q:=by
 show bS (UG (k+1) _ _ c) (bT<|fY (xs:=(cE w h).map PP) (p:=λd=>jI<|eB d) (v:=λd=>d)<|w_iSeq.mpr<|aK rfl<|By _ w h ⋯ ⋯ _ _ λa j i e n=>?_);show(cN e).mpr ⟨iL e,rfl,?_,λd μ' hd b=>?_,λd μ' hd _ b=>⟨_,rfl,rfl,YS _⟩,λμ' b g=>?_⟩
 .have:=tI (w:=w) (h:=h) ⋯ ⋯;rw[Yu,Y2];lia
 .obtain⟨u,v,rfl⟩:=nJ hd;show d9<|aK rfl<|HS k (u,v) _ _ ⟨rfl,rfl,YS _⟩
 .show H _ _ (i.trans b) ?_;rw[g,qK jI]
abbrev BS(e:Int×Int):jq:=[(e.1-1,e.2),(e.1,e.2-1),(e.1,e.2+1),(e.1+1,e.2)]
abbrev gY(e:Int×Int):jq:=(BS e).filter jI
def WN k e a:f (k+1) "beside" [PP e] a=b0 (.loc a.length,a++[.lst<|(BS e).map PP]):=(Uu k _ a).trans<|by kernel_rfl
def BU k e(b:Hm)(Q:jz)(H:∀a μ',b<+:μ'->μ'[a]?=b0 (.lst<|(gY e).map PP)->Q (.loc a,μ')):W (f (k+2) "sides_of" [PP e] b) Q:=by
 show bS (Uv (k+1) _ b)<|bT<|fY (xs:=(BS e).map PP) (p:=λd=>jI<|eB d) (v:=λd=>d)<|w_iSeq.mpr<|aK rfl<|aY (WN k e b)<|(cN<|bB _ _).mpr ⟨iL<|bB _ _,rfl,by change(4:Nat)<=YM;decide,λd μ' hd c=>?_,λd μ' hd _ c=>⟨_,rfl,rfl,YS _⟩,λμ' c g=>H _ _ ((aR _ _).trans c) ?_⟩
 .obtain⟨u,v,rfl⟩:=nJ hd;show d9<|aK rfl<|HS k (u,v) _ _ ⟨rfl,rfl,YS _⟩
 .rw[g,qK jI];rfl
def WO:∀w∈[(1:Int),2,3],∀h∈[(1:Int),2,3],∀e∈(cE w h).filter cV,(gY e).length=2/\∀q∈gY e,q∈(cE w h).filter jI:=by decide +kernel
def HU:∀w∈[(1:Int),2,3],∀h∈[(1:Int),2,3],((cE w h).filter jI).Nodup/\((cE w h).filter jI).length<=200/\((cE w h).filter cV).Nodup/\((cE w h).filter cV).length<=48/\0<((cE w h).filter cV).length:=by decide +kernel
def WQ k{ns:List Int}{F:Int×Int->Ly}(p:∀q,Dih (F q)){es:jq}(nd:n.Nodup)(E:n.length<=200)(Q:0<es.length)(I:∀e∈es,(gY e).length=2/\∀q∈gY e,q∈n)(g:d[a]?=b0 (.dT<|cI (λq=>LD<|F q) n))(w:d[b]?=b0 (.lst<|es.map PP)){i:Nat}(H:∀(u:Int×Int->Ly)a' μ' x7 x8,(∀q,Dih (u q))->Kp a d μ'->d.length<=a'->μ'[a']?=b0 (.dT<|cI (λq=>LD<|u q) n)->R (.nx,[b0<|.rol<|ns.map D.int,b0<|.int 0,d2,b0<|.loc a',x,b0<|.loc b,b0<|.int (i:Int),x7,x8],μ')):
  W (Bh (k+4) [b0<|.rol<|ns.map D.int,b0<|.int 0,d2,b0<|.loc a,x,b0<|.loc b,b0<|.int (i:Int),x7,x8] d) R:=by
 show aS (aK (ds:=[.rol<|ns.map D.int,.int<|0+1+(i:Int)]) (μ':=d) (by kernel_rfl)<|qO (k+3) ns ⋯ _ _ ?_);generalize dD ns (0+1+(i:Int))=v;have y:bO [.loc b] d=b0 (.int (es.length:Nat),d):=bF ((d8 w).mpr<|by rw[Yu]);have T:0<=v/2%(es.length:Int)/\v/2%(es.length:Int)<es.length:=⟨a1V _<|by lia,a1y _<|by lia⟩;obtain⟨j,B⟩:∃j:Nat,v/2%(es.length:Int)=j:=⟨(v/2%(es.length:Int)).toNat,by lia⟩;have h:j<es.length:=by lia
 show aS (aM ⟨_,rfl,aM<|bA rfl rfl<|(tB (by decide)<|by decide).mpr<|aK rfl<|aY y<|(dM<|by lia).mpr ?_⟩);rw[B];show⟨_,fZ w h,?_⟩;have c:es.getD j (0,0)∈es:=by rw[Y3,Yz h];show ZU h
 generalize es.getD j (0,0)=e at c;obtain⟨O,G⟩:=I e c;show aS<|eV<|aX<|aM ⟨_,rfl,aM<|aK rfl<|BU (k+2) e _ _ λs r o z=>⟨_,rfl,?_⟩⟩;have M:(gY e).getD 0 (0,0)∈n:=by show G _ ?_;rw[Y3,Yz<|by lia];show ZU _
 show⟨_,fZ (i:=0) z<|by lia,(l6 (aJ o g) (cT _)<|nN nd M).mpr ⟨_,rfl,?_⟩⟩;show(w9 (k+3) _ (p _) e.1 e.2 _ _).mpr ?_;show w_mSet.mpr (aK (ds:=[.loc a,PP<|dE (F<|(gY e).getD 0 (0,0)) (e.1,e.2),.int<|1-2*(v%2)]) (μ':=r) (by kernel_rfl)<|WK k p nd E _ _ (aJ o g) _ λl N K L A=>?_);show H _ _ _ _ _ (WL p) ((Kp.pre o).trans K) (Zr o.length_le L) A
abbrev xB(A B:Ly):Bool:=!(A.a==B.a&&(A.b==B.b&&(A.c==B.c&&(A.d==B.d&&(A.e==B.e&&(A.g==B.g&&d7))))))
def WR A B a:aU d7 (LD A) (LD B) a=b0 (.bl<|xB A B,a):=rfl
inductive F1I (d0 d1 d2:Option D)(l:Nat)(ν:Hm)(qs:jq):Nat->aF->Hm->Prop
 |mk {i:Nat}{x:Option D}{μ:Hm}(kp:Kp l ν μ)(g:μ[l]?=b0 (.dT<|cI (λ_=>LD BO)<|qs.take i)):F1I d0 d1 d2 l ν qs i [d0,d1,d2,b0<|.loc l,x,b5,b5,b5,b5] μ
inductive F2I (d0 d1 d2 d4:Option D)(b:Nat)(ν μ1:Hm)(qs es:jq):Nat->aF->Hm->Prop
 |mk {i a:Nat}{F:Int×Int->Ly}{x6 x7 x8:Option D}{μ:Hm}(hF:∀q,Dih (F q))(ha:ν.length<=a)(p:ν<+:μ)(g:μ[a]?=b0 (.dT<|cI (λq=>LD<|F q) qs))(gb:μ[b]?=b0 (.lst<|es.map PP)):F2I d0 d1 d2 d4 b ν μ1 qs es i [d0,d1,d2,b0<|.loc a,d4,b0<|.loc b,x6,x7,x8] μ
def in3'(hz:1<=z/\z<=3):z∈[(1:Int),2,3]:=by
 have:z=1\/z=2\/z=3:=by lia
 simpa using this
def HV{c:Hm}{a:Nat}{kvs:jx}(g:c[a]?=b0 (.dT kvs))(h:c[b]?=b0 (.lst xs)):b≠a:=λe=>by rw[e,g]at h;cases h
def WS k(ns:List Int)(hw:1<=w/\w<=3)(R:1<=h/\h<=3)(g:Hm)(Q:jz)(H:∀a μ' (es:jq),g<+:μ'->μ'[a]?=b0 (.lst<|es.map PP)->es.Sublist ((cE w h).filter cV)->Q (.loc a,μ')):W (f (k+5) "_law_folds" [.rol<|ns.map D.int,.int 0,.tup [.int w,.int h]] g) Q:=by
 obtain⟨r,X,ne,le,U⟩:=HU w (in3' hw) h<|in3' R;have y:=WO w (in3' hw) h<|in3' R;generalize hqs:(cE w h).filter jI=qs at r X y;generalize hes:(cE w h).filter cV=es at ne le U y H;show bS (Vd (k+4) _ _ _ g) (aS<|w_mDNewT.mpr<|dN<|w_mForI.mpr<|w_iSeq.mpr<|aK rfl<|WM (k+2) ⋯ ⋯ _ _ λa E Y v=>(cN v).mpr ?_);rw[hqs]at v ⊢;have M:=aJ Y<|bB g<|C.dT [];have nd:=HV M v;show fP (F1I (b0<|.rol<|ns.map D.int) (b0<|.int 0) (b0<|.tup [.int w,.int h]) g.length E qs) (.mk (λ_ _ _ h=>h)<|by rw[ZG];show M) (by rintro _ _ _ ⟨c,_⟩;show c _ _ nd v) ?_ ?_
 .rintro i d ρ u hd ⟨c,l⟩;obtain⟨z,T,rfl⟩:=jG hd;show⟨_,rfl,w_mPut.mpr ⟨_,rfl,_,rfl,_,rfl,(nH l (cT z)<|by rw[Yu,Zb,Y2];lia).mpr<|.mk (c.trans .set) ?_⟩⟩;rw[cK l];have:=BQ (v:=λ_=>LD BO)<|oY r T;rw[e8 T,<- this];rfl
 .rintro ρ u ⟨c,l⟩;rw[Yu,Zp]at l;have pA:g<+:u:=c.all ((aR _ _).trans Y)<|YG _;show⟨rfl,aS<|aK rfl<|BR (k+2) ⋯ ⋯ _ _ λb G Z L=>?_⟩;rw[hes]at L;show dN (w_mForI.mpr<|(oU (j:=0)).mpr<|aX<|aM<|aM<|aK rfl<|qO (k+3) ns ⋯ _ _ ⟨_,rfl,(tB (by decide)<|by decide).mpr ⟨_,rfl,(dM<|by decide).mpr ⟨_,rfl,⟨by lia,by lia⟩,?_⟩⟩⟩);show lZ (b:=Bh (k+4)) (F2I (b0<|.rol<|ns.map D.int) (b0<|.int 0) (b0<|.tup [.int w,.int h]) _ b g G qs es) (.mk (λ_=>Wz) (YG _) (pA.trans Z) (aJ Z l) L) ?_ ?_
  .rintro i K I hi ⟨N,O,x,o,j⟩;show⟨_,rfl,?_⟩;rw[a2U];show WQ k N r X U y o j λF' a' μ5 _ _ A c la g5=>.mk A (Zr x.length_le la) (c.all x O) g5<|c _ _ (HV o j) j
  .rintro K I ⟨N,O,x,o,j⟩;rename_i a4 F x6 x7 x8;show⟨rfl,bT<|fY (xs:=es.map PP) (p:=λd=>xB (F<|(gY<|eB d).getD 0 (0,0))<|F<|(gY<|eB d).getD 1 (0,0)) (v:=λd=>d)<|w_iSeq.mpr ⟨_,rfl,(cN j).mpr ⟨iL j,rfl,by rw[Yu,Y2];lia,λd μ' hd p=>?_,λd μ' hd _ p=>⟨_,rfl,rfl,YS _⟩,λμ' p hg=>?_⟩⟩⟩
   .obtain⟨e,he,rfl⟩:=YO.mp hd;obtain⟨h2,hq⟩:=y e he;have q0:∀n,n<2->(gY e).getD n (0,0)∈qs:=λn hn=>by show hq _ ?_;rw[Y3,Yz<|by lia];show ZU _
    show b9<|aM<|aM ⟨_,rfl,aM<|aK rfl<|BU (k+2) e _ _ λs μ6 B g6=>⟨_,rfl,?_⟩⟩;show⟨_,fZ (i:=0) g6<|by lia,(l6 (aJ (p.trans B) o) (cT _)<|nN r<|q0 0<|by lia).mpr ?_⟩;show aM ⟨_,rfl,aM<|aK rfl<|BU (k+2) e _ _ λs' μ7 p7 g7=>⟨_,rfl,?_⟩⟩;show⟨_,fZ (i:=1) g7<|by lia,(l6 (aJ (p.trans<|B.trans p7) o) (cT _)<|nN r<|q0 1<|by lia).mpr ?_⟩;show⟨_,WR _ _ _,_,rfl,rfl,B.trans p7⟩
   .show H _ _ _ (x.trans p) ?_<|a7M (p:=λe=>xB (F<|(gY e).getD 0 (0,0))<|F<|(gY e).getD 1 (0,0));rw[hg,qK λe=>xB (F<|(gY e).getD 0 (0,0))<|F<|(gY e).getD 1 (0,0)]
abbrev j9(x:Int)(gs:List Int):Bool:=decide (gs.length<=6)&&(!(x%4==2)||gs.all λg=>g%2==0)
abbrev HW(o t:Int):List Int:=(Zj 3).flatMap λ(i:Nat)=>[[2,1,1,2,1].getD (o+i).toNat 0,[2,1,1,2,1].getD (t+i).toNat 0]
abbrev HX(o t:Int):List Int:=[o+1,t+1,3-o,3-t]
def WT:∀o∈[(0:Int),1,2],∀t∈[(0:Int),1,2],j9 0 (HW o t)=d7/\j9 0 (HX o t)=true:=by decide
def BV(h:(x%4==2)=dI)(g:j9 0 gs=d7):j9 x gs=true:=by unfold j9 at g ⊢;rw[h];show g
def HY v:v%3∈[(0:Int),1,2]:=by obtain⟨k,a,e⟩:=BA (z:=v%3) 3 (a1V v<|by decide) (a1y v<|by decide);rw[<- e];show(by decide:∀k:Nat,k<3->(k:Int)∈[(0:Int),1,2]) k a
inductive GaI (d0 d1:Option D)(o t:Int)(l r:Nat)(ν:Hm):Nat->aF->Hm->Prop
 |mk {i:Nat}{x:Option D}{μ:Hm}(p:ν<+:μ)(gl:μ[l]?=b0 (.lst<|[2,1,1,2,1].map D.int))(gr:μ[r]?=b0 (.lst<|((Zj i).flatMap λ(i:Nat)=>[[(2:Int),1,1,2,1].getD (o+i).toNat 0,[2,1,1,2,1].getD (t+i).toNat 0]).map D.int)):GaI d0 d1 o t l r ν i [d0,d1,b0<|.int o,b0<|.int t,b0<|.loc l,b0<|.loc r,x] μ
def HZ(gl:a[l]?=b0 (.lst<|[2,1,1,2,1].map D.int))(h:0<=z/\z<5):aE (.loc l) (.int z) a=b0 (.int<|[(2:Int),1,1,2,1].getD z.toNat 0,a):=by obtain⟨n,rfl⟩:∃n:Nat,z=n:=⟨z.toNat,by lia⟩;show tL gl<|by change n<5;omega
def WU{o t:Int}(s:0<=o/\o<3)(u:0<=t/\t<3){i:Nat}(n:i<3)(e:l≠r){ν b:Hm}(j:ν.length<=r)(p:ν<+:b)(k:gs.length<=6)(gl:b[l]?=b0 (.lst<|[2,1,1,2,1].map D.int))(d:b[r]?=b0 (.lst<|gs.map D.int))(H:∀a,ν<+:a->a[l]?=b0 (.lst<|[2,1,1,2,1].map D.int)->a[r]?=b0 (.lst<|(gs++[[(2:Int),1,1,2,1].getD (o+i).toNat 0,[2,1,1,2,1].getD (t+i).toNat 0]).map D.int)->R (.nx,[d0,d1,b0<|.int o,b0<|.int t,b0<|.loc l,b0<|.loc r,b0<|.int (i:Int)],a)):
  W (Bi [d0,d1,b0<|.int o,b0<|.int t,b0<|.loc l,b0<|.loc r,b0<|.int (i:Int)] b) R:=by
 have g:=HZ (z:=o+i) gl ⋯;have h:=HZ (z:=t+i) gl ⋯;show w_mDrop.mpr<|eM ⟨_,rfl,dZ d,aX<|w_mLst.mpr<|aX<|bA rfl rfl ⟨_,g,aX<|bA rfl rfl ⟨_,h,_,rfl,jW,_,rfl,?_⟩⟩⟩;have c:=aR b<|C.lst [.int<|[(2:Int),1,1,2,1].getD (o+i).toNat 0,.int<|[(2:Int),1,1,2,1].getD (t+i).toNat 0];show(wM (aJ c d) (bB _ _)<|by rw[Yu,Y2];change gs.length+2<=_;lia).mpr<|H _ (dB (p.trans c) j _) ?_ ?_
 .rw[YW<|ZJ e];show aJ c gl
 .rw[cK<|aJ c d,YV];rfl
def WV k v c(b:Hm)(Q:jz)(H:∀a μ' (gs:List Int),b<+:μ'->b.length<=a->μ'[a]?=b0 (.lst<|gs.map D.int)->j9 c.1 gs=d7->Q (.loc a,μ')):W (f (k+1) "_law_gaps" [.int v,PP c] b) Q:=by
 show bS (Ve k _ _ b)<|fE (b:=c.1%4==2) (μ':=b) (by kernel_rfl) (λh=>?_) λh=>cZ ?_
 .show iN<|aM ⟨_,rfl,_,rfl,?_⟩;have d:=aR b<|C.lst<|[2,2,2,2].map D.int;have g:=aR (b++[C.lst<|[2,2,2,2].map D.int])<|C.lst<|[4,4].map D.int;have j:=aR ((b++[C.lst<|[2,2,2,2].map D.int])++[C.lst<|[4,4].map D.int])<|C.lst [.loc b.length,.loc (b++[C.lst<|[2,2,2,2].map D.int]).length];have s:=bB ((b++[C.lst<|[2,2,2,2].map D.int])++[C.lst<|[4,4].map D.int])<|C.lst [.loc b.length,.loc (b++[C.lst<|[2,2,2,2].map D.int]).length];have e:v%2=0\/v%2=1:=by lia
  have u:∀gs∈[[(2:Int),2,2,2],[4,4]],j9 c.1 gs=true:=by unfold j9;rw[h];decide
  rcases e with e|e
  .rw[e];show(fN s<|show _=b0 _ from rfl).mpr<|H _ _ [2,2,2,2] (d.trans<|g.trans j) (YG _) (aJ (g.trans j)<|bB _ _)<|u _<|by decide
  .rw[e];show(fN s<|show _=b0 _ from rfl).mpr<|H _ _ [4,4] (d.trans<|g.trans j) d.length_le (aJ j<|bB _ _)<|u _<|by decide
 .show aS (aY (r:=(.int<|v/6%3,b)) (by kernel_rfl)<|aS<|aY (r:=(.int<|v/18%3,b)) (by kernel_rfl) ?_);obtain⟨A,z⟩:=WT _ (HY<|v/6) _<|HY<|v/18;have x:0<=v/6%3/\v/6%3<3:=by lia
  have y:0<=v/18%3/\v/18%3<3:=by lia
  generalize v/6%3=o at *;generalize v/18%3=t at *;show fE (b:=v%6==0) (μ':=b) (by kernel_rfl) (λ_=>iN ?_) λ_=>cZ ?_
  .show⟨_,rfl,H _ _ [4,4] (aR _ _) (YG _) (bB _ _)<|BV h<|by decide⟩
  show fE (b:=v%6==1) (μ':=b) (by kernel_rfl) (λ_=>tF ?_) λ_=>cZ ?_
  .show aS ⟨_,rfl,tF<|aS ⟨_,rfl,tF<|dN<|w_mForI.mpr<|(oU (j:=0)).mpr ⟨_,rfl,⟨by decide,by decide⟩,?_⟩⟩⟩;show lZ (lo:=0) (n:=3) (b:=Bi) (GaI (b0<|.int v) (b0<|PP c) o t b.length (b++[C.lst<|[2,1,1,2,1].map D.int]).length b) (.mk ((aR _ _).trans<|aR _ _) (aJ (aR _ _)<|bB _ _)<|bB _ _) ?_ ?_
   .rintro i E r w ⟨d,gl,n⟩;show⟨_,rfl,?_⟩;rw[a2U];show WU x y w (by rw[YF];change _≠_+1;lia) (by rw[YF];lia) d ?_ gl n λB g l p=>.mk g l ?_
    .have:=l9 (f:=λ(i:Nat)=>[[(2:Int),1,1,2,1].getD (o+i).toNat 0,[2,1,1,2,1].getD (t+i).toNat 0]) (n:=2) (λ_=>YG _)<|Zj i;rw[a0e]at this;lia
    .rw[p,a1R,a1L];rfl
   .rintro E r ⟨d,gl,n⟩;show⟨rfl,iN ⟨_,rfl,H _ _ (HW o t) d (by rw[YF];lia) n<|BV h A⟩⟩
  .show bT ⟨_,rfl,H _ _ (HX o t) (aR _ _) (YG _) (bB _ _)<|BV h z⟩
def WW{b:MS}(I:Nat->aF->Hm->Prop)(u:∀m a g,I m a g->W (c a g) λp=>if p.1=d7 then W (b a p.2) λq=>match q.1 with
   |.nx=>∃e,e<m/\I e q.2.1 q.2.2|.ct=>∃e,e<m/\I e q.2.1 q.2.2|.bk=>Q (.nx,q.2.1,q.2.2)
   |.rt d=>Q (.rt d,q.2.1,q.2.2)else Q (.nx,a,p.2)):∀n m a g,m<n->I m a g->W (oB c b n a g) Q:=by
 intro n;induction n with
 |zero=>intro m a g h;lia|succ n l=>
  intro m a g z s;unfold oB;rw[W_bind];show bN (u m a g s) λp k=>?_;obtain⟨v,w⟩:=p;cases v with
  |false=>show W_some.mpr (by simpa using k)|true=>
   simp only[if_true]at k;dsimp only;rw[W_bind];show bN k λq i=>?_;obtain⟨o,y,x⟩:=q;cases o with
   |nx=>obtain⟨e,r,j⟩:=i;show l e _ _ ⋯ j|ct=>obtain⟨e,r,j⟩:=i;show l e _ _ ⋯ j|bk=>show W_some.mpr i|rt d=>show W_some.mpr i
def BW{b:MS}(I:Nat->aF->Hm->Prop)m(i:m<1000000000)(h:I m a e)(j:∀m a e,I m a e->W (c a e) λp=>if p.1=d7 then W (b a p.2) λq=>match q.1 with
   |.nx=>∃g,g<m/\I g q.2.1 q.2.2|.ct=>∃g,g<m/\I g q.2.1 q.2.2|.bk=>Q (.nx,q.2.1,q.2.2)
   |.rt d=>Q (.rt d,q.2.1,q.2.2)else Q (.nx,a,p.2)):W (mO nC c b a e) Q:=by
 unfold mO;show WW I j nC m a e (by unfold nC;show i) h
def mem_pl:p∈cE w h↔(0<p.1/\p.1<4*w)/\0<p.2/\p.2<4*h:=by
 unfold cE jZ jY;rw[a3a];constructor
 .rintro⟨i,a,c⟩;obtain⟨j,b,rfl⟩:=YO.mp c;have:=ZR.mp a;have:=ZR.mp b;dsimp only;omega
 .intro⟨d,e⟩;show⟨(p.1-1).toNat,ZR.mpr<|by omega,YO.mpr ⟨(p.2-1).toNat,ZR.mpr<|by omega,a4b ?_ ?_⟩⟩<;>dsimp only<;>lia
abbrev cP(w h:Int)(p:Int×Int):Prop:=p∈(cE w h).filter cV
def BX(h1:0<p.1/\p.1<4*w)(a:0<p.2/\p.2<4*h)(b:cV p=d7):cP w h p:=ZL.mpr ⟨mem_pl.mpr ⟨h1,a⟩,b⟩
def tQ(g:a e d=b0 (.int x,d))(h:b e d=b0 (.int y,d))(hc:c e d=b0 (.int z,d)):gG dO dO a b c e d=b0 (.bl<|decide (x<y)&&decide (y<z),d):=bF<|w_mChain.mpr ⟨_,g,_,h,w_ltI.mpr<|by
 change if _ then _ else _
 cases decide (x<y)with
 |true=>show(if_pos rfl).mpr ⟨_,hc,w_ltI.mpr rfl⟩
 |false=>show(if_neg YE).mpr rfl⟩
def gZ(h:m c a=b0 (.bl b,a)):aO m c a=b0 (b,a):=bF<|b9 ⟨_,h,_,rfl,rfl⟩
def qQ(e:s d c=b0 (a,c))(g:t d c=b0 (b,c)):eD s t d c=b0 (a&&b,c):=bF<|w_mAndT.mpr ⟨_,e,by
 cases a with
 |true=>show(if_pos rfl).mpr ⟨_,g,rfl⟩
 |false=>show(if_neg YE).mpr rfl⟩
def WX x y:cV (x,y)=cV (x%4,y%4):=by unfold cV;dsimp only;rw[a3o x<|show(2:Int) ∣ 4 by decide,a3o y<|show(2:Int) ∣ 4 by decide,a9V,a9V]
abbrev r4:List Int:=[0,1,2,3]
def WY:∀a∈r4,∀b∈r4,∀e∈E8,(a%2==0&&a==b)=d7->(a=2->e.1%2=1)->cV ((a+e.1)%4,(b+e.2)%4)=d7/\((a+2*e.1)%4%2==0&&(a+2*e.1)%4==(b+2*e.2)%4)=d7/\((a+2*e.1)%4=2->e.1%2=1):=by decide
def WZ:∀e∈E8,(e.1%2=1/\(-1<=e.1/\e.1<=1)/\-1<=e.2/\e.2<=1)\/e.1%2=0/\(-2<=e.1/\e.1<=2)/\-2<=e.2/\e.2<=2:=by decide
def W0:∀e∈E8,(e.1=1\/e.1=-1\/e.1=2\/e.1=-2)\/e.2=2\/e.2=-2:=by decide
def Ia x:x%4∈r4:=by obtain⟨k,a,e⟩:=BA (z:=x%4) 4 (a1V x<|by decide) (a1y x<|by decide);rw[<- e];show(by decide:∀k:Nat,k<4->(k:Int)∈r4) k a
def Ib(a:0<x/\x<4*w)(h:x%2=0)(b:-1<=r/\r<=1):0<x+r/\x+r<4*w:=by lia
def Ic(a:0<x/\x<4*w)(h:x%4=0)(b:-2<=r/\r<=2):0<x+r/\x+r<4*w:=by lia
def W2(j:e∈E8)(hC:dC (x,y)=d7)(p:x%4=2->e.1%2=1)(k:0<x/\x<4*w)(l:0<y/\y<4*h):cP w h (x+e.1,y+e.2)/\dC (x+2*e.1,y+2*e.2)=d7/\((x+2*e.1)%4=2->e.1%2=1):=by
 have hc:(x%4%2==0&&x%4==y%4)=true:=by rw[a3o x<|show(2:Int) ∣ 4 by decide];show hC
 obtain⟨d,g,i⟩:=WY _ (Ia x) _ (Ia y) e j hc p;rw[a2W,a2W,<- WX]at d;rw[a2W,a2W,a3o _<|show(2:Int) ∣ 4 by decide]at g;rw[a2W]at i;rw[YK,beq_iff_eq,beq_iff_eq]at hc;have b:=WZ e j;rcases b with⟨o,a,c⟩|⟨o,a,c⟩
 .have r:x%2=0:=by have:=hc.1;lia
  have s:y%2=0:=by have:=hc.1;have:=hc.2;lia
  show⟨BX (Ib k r a) (Ib l s c) d,g,i⟩
 .have n:x%4=0:=by have:=hc.1;lia
  show⟨BX (Ic k n a) (Ic l (hc.2▸n) c) d,g,i⟩
def Ie{c:Int}(h1:0<c/\c<24)(b:0<x/\x<24)(n:Nat)(e:x=c+2*(r*n))(a:r=1\/r=-1\/r=2\/r=-2):n<=11:=by rcases a with rfl|rfl|rfl|rfl<;>lia
abbrev xC(w h v:Int)(s q:Nat)(c:Int×Int)(l:Nat)(k g r d x y:Int):aF:=[b0<|.tup [.int w,.int h],b0<|.int v,b0<|.loc s,b0<|.loc q,b0<|PP c,b0<|.loc l,b0<|.int k,b0<|.int g,b0<|.int r,b0<|.int d,b0<|.int x,b0<|.int y]
inductive RyI (w h v:Int)(s q:Nat)(c:Int×Int)(l:Nat)(k g r d:Int)(ν:Hm)(fs:jq):Nat->aF->Hm->Prop
 |mk {m n:Nat}{es:jq}{x y:Int}(hm:m+n=12)(hC:dC (x,y)=d7)(ho:x%4=2->r%2=1)(hl:es.length=n)(hE:∀p∈es,cP w h p)(hx:x=c.1+2*(r*n))(hy:y=c.2+2*(d*n)):RyI w h v s q c l k g r d ν fs m (xC w h v s q c l k g r d x y)<|ν.set l<|.lst<|(fs++es).map PP
def Ig(b:m+n=12)(a:n<=11):m-1<m/\m-1+(n+1)=12:=by lia
def xD{x:Int}(hw:w<=6)(h:0<x/\x<4*w):0<x/\x<24:=⟨h.1,by lia⟩
def Ih{x:Int}{n:Nat}(e:x=c+2*(r*n)):x+2*r=c+2*(r*((n+1:Nat):Int)):=by rw[e,Int.natCast_add,Int.mul_add];lia
def Ii c r:c=c+2*(r*((0:Nat):Int)):=by simp
def W3(hw:w<=6)(B:h<=6)(hc:c∈bP w h)(G:(r,d)∈E8)(j:c.1%4=2->r%2=1)(gl:ν[l]?=b0 (.lst<|fs.map PP))(X:fs.length<=900)(H:∀(es:jq)x y,es.length<=12->(∀p∈es,cP w h p)->R (.nx,xC w h v s q c l k g r d x y,ν.set l<|.lst<|(fs++es).map PP)):
  W (mO nC GS GU (xC w h v s q c l k g r d c.1 c.2) ν) R:=by
 have T:ν=ν.set l (.lst<|(fs++[]).map PP):=by rw[Zt];show(qL gl).symm
 show BW (RyI w h v s q c l k g r d ν fs) 12 (by decide) ?_ ?_
 .have:=RyI.mk (w:=w) (h:=h) (v:=v) (s:=s) (q:=q) (c:=c) (l:=l) (k:=k) (g:=g) (r:=r) (d:=d) (ν:=ν) (fs:=fs) (m:=12) (n:=0) (es:=[]) (x:=c.1) (y:=c.2) rfl (ZL.mp hc).2 j rfl (λ_ h=>nomatch h) (Ii _ _)<|Ii _ _;rw[<- T]at this;show this
 .rintro m _ _ ⟨i,U,j,E,A,I,K⟩;rename_i n es x y;show⟨_,qQ (gZ<|tQ (x:=0) (y:=x) (z:=4*w) rfl rfl rfl)<|gZ<|tQ (x:=0) (y:=y) (z:=4*h) rfl rfl rfl,?_⟩;by_cases a:((0<x/\x<4*w)/\0<y/\y<4*h)
  .rw[decide_eq_true a.1.1,decide_eq_true a.1.2,decide_eq_true a.2.1,decide_eq_true a.2.2];obtain⟨L,M,N⟩:=W2 G U j a.1 a.2;obtain⟨O,Q⟩:=mem_pl.mp (ZL.mp hc).1;have o:n<=11:=by
    rcases W0 _ G with z|z
    .show Ie (xD hw O) (xD hw a.1) n I z
    .show Ie (xD B Q) (xD B a.2) n K<|.inr<|.inr z
   have u:=cK (c':=C.lst ((fs++es).map PP)) gl;show(if_pos rfl).mpr (l7<|eM ⟨_,rfl,dZ u,aY (r:=([PP (x+r,y+d)],_)) rfl<|(gO u<|by rw[Yu,YF,Y2];lia).mpr ?_⟩);show aS<|aY (r:=(.int<|x+2*r,_)) rfl<|w_mSet.mpr<|aY (r:=(.int<|y+2*d,_)) rfl ⟨m-1,(Ig i o).1,?_⟩;rw[Bz,show(fs++es).map PP++[PP (x+r,y+d)]=(fs++(es++[(x+r,y+d)])).map PP by simp];show .mk (n:=n+1) (Ig i o).2 M N (by rw[YF,E];rfl) (λp b=>?_) ?_ ?_
   .rcases YN.mp b with b|b
    .show A p b
    .rw[YL.mp b];show L
   .show Ih I
   .show Ih K
  .have e:(decide (0<x)&&decide (x<4*w)&&(decide (0<y)&&decide (y<4*h)))=false:=by rw[Bool.eq_false_iff];intro z;simp only[YK,decide_eq_true_eq]at z;show a ⟨z.1,z.2⟩
   rw[e];show(if_neg YE).mpr<|H _ _ _ (E▸i▸a6c ..) A
def W4:∀i,i<8->(E8.getD i (0,0))∈E8/\((E8.getD i (0,0)).1%2=1↔(i:Int)%2=1):=by decide
def W5(hw:w<=6)(B:h<=6)(hc:c∈bP w h)(I:c.1%4=2->k%2=1)(gs:ν[s]?=b0 (.lst<|E8.map PP))(gl:ν[l]?=b0 (.lst<|fs.map PP))(A:fs.length<=900)(H:∀(es:jq)r d x y,es.length<=12->(∀p∈es,cP w h p)->R (.nx,xC w h v s q c l (k+g) g r d x y,ν.set l<|.lst<|(fs++es).map PP)):
  W (wR [b0<|.tup [.int w,.int h],b0<|.int v,b0<|.loc s,b0<|.loc q,b0<|PP c,b0<|.loc l,b0<|.int k,b0<|.int g,x8,x9,x10,x11] ν) R:=by
 obtain⟨j,E⟩:∃j:Nat,k%8=j:=⟨(k%8).toNat,by lia⟩;have a:j<8:=by lia
 obtain⟨i,n⟩:=W4 j a;have b:aE (.loc s) (.int<|k%8) ν=b0 (PP<|E8.getD j (0,0),ν):=by rw[E];show fZ gs a
 generalize E8.getD j (0,0)=e at i n b;have G:(e.1%2=1)=(k%2=1):=propext (n.trans<|by lia);show w_mSeq.mpr<|w_mAsg.mpr<|bA rfl rfl ⟨_,b,w_gTup2.mpr<|w_mSeq.mpr<|w_mAsg.mpr ⟨_,rfl,w_gTup2.mpr<|dN ?_⟩⟩;show W3 (r:=e.1) (d:=e.2) hw B hc i (λz=>by rw[G];show I z) gl A λes x y o u=>⟨rfl,w_mSet.mpr ⟨_,rfl,H es e.1 e.2 x y o u⟩⟩
inductive StI (w h v:Int)(s q:Nat)(c:Int×Int)(l:Nat)(ν:Hm)(gs:List Int):Nat->aF->Hm->Prop
 |mk {i:Nat}{k:Int}{fs:jq}{x7 x8 x9 x10 x11:Option D}(ho:c.1%4=2->k%2=1)(hf:fs.length<=12*i)(hE:∀p∈fs,cP w h p):StI w h v s q c l ν gs i [b0<|.tup [.int w,.int h],b0<|.int v,b0<|.loc s,b0<|.loc q,b0<|PP c,b0<|.loc l,b0<|.int k,x7,x8,x9,x10,x11]<|ν.set l<|.lst<|fs.map PP
def W6(h:j9 x gs=d7):gs.length<=6/\(x%4=2->∀g∈gs,g%2=0):=by unfold j9 at h;simp only[YK,decide_eq_true_eq,a2C,a2R,beq_eq_false_iff_ne,ne_eq,a2q,beq_iff_eq]at h;show⟨h.1,λz=>h.2.resolve_left λn=>n z⟩
def W7(hw:w<=6)(L:h<=6)(hc:c∈bP w h)(M:c.1%4=2->o%2=1)(E:j9 c.1 gs=d7)(es:ν[s]?=b0 (.lst<|E8.map PP))(gl:ν[l]?=b0 (.lst []))(B:ν[b]?=b0 (.lst<|gs.map D.int))(N:s≠l)(bl:b≠l)(H:∀(fs:jq)ρ,fs.length<=72->(∀p∈fs,cP w h p)->ρ[5]?=b0 (b0<|.loc l)->R (.nx,ρ,ν.set l<|.lst<|fs.map PP)):
  W (eQ (dQ<|.loc b) (cC 7) wR ((gs.map D.int).length+1) 0 [b0<|.tup [.int w,.int h],b0<|.int v,b0<|.loc s,b0<|.loc q,b0<|PP c,b0<|.loc l,b0<|.int o,b5,b5,b5,b5,b5] ν) R:=by
 obtain⟨Z,O⟩:=W6 E;have G:ν=ν.set l (.lst<|([]:jq).map PP):=(qL gl).symm;show fP (StI w h v s q c l ν gs) ?_ ?_ ?_ ?_
 .have:=StI.mk (w:=w) (h:=h) (v:=v) (s:=s) (q:=q) (c:=c) (l:=l) (ν:=ν) (gs:=gs) (i:=0) (k:=o) (fs:=[]) (x7:=b5) (x8:=b5) (x9:=b5) (x10:=b5) (x11:=b5) M (YG _) λ_ h=>nomatch h;rw[<- G]at this;show this
 .rintro _ _ _ ⟨_,_,_⟩;rw[YW<|ZJ bl];show B
 .rintro i d _ _ hd ⟨a,u,n⟩;rename_i k fs x7 x8 x9 Q T;obtain⟨g,A,rfl⟩:∃g,gs[i]?=b0 g/\D.int g=d:=by rw[YU]at hd;show YB.mp hd
  obtain⟨Y,K⟩:=Yy.mp A;show⟨_,rfl,W5 hw L hc a (by rw[YW<|ZJ N];show es) (cK gl) ⋯ λe r U x y X I=>?_⟩;rw[Bz];show .mk (k:=k+g) (λz=>?_) ?_ λp j=>?_
  .have:=a z;have:=O z g<|YZ A;lia
  .rw[YF];lia
  .rcases YN.mp j with j|j
   .show n p j
   .show I p j
 .rintro _ _ ⟨_,u,n⟩;rw[Yu]at u;show H _ _ ⋯ n rfl
def W8(hw:1<=w)(a:1<=h):0<(bP w h).length:=a6T (a:=(2,2))<|ZL.mpr ⟨mem_pl.mpr ⟨⟨by decide,by dsimp only;lia⟩,by decide,by dsimp only;lia⟩,by decide⟩
def W9 k(hw:1<=w/\w<=6)(n:1<=h/\h<=6)v(g:Hm)(Q:jz)(H:∀a μ' (fs:jq),g<+:μ'->g.length<=a->μ'[a]?=b0 (.lst<|fs.map PP)->fs.length<=72->(∀p∈fs,cP w h p)->Q (.loc a,μ')):W (f (k+3) "_law_star" [.tup [.int w,.int h],.int v] g) Q:=by
 show bS (Vf (k+2) _ _ g) (aS<|aY (r:=(.loc g.length,g++[.lst<|E8.map PP])) (by kernel_rfl)<|aS<|aK rfl<|BK k hw n _ _ λa e x r=>?_);have Y:=W8 hw.1 n.1;have E:bO [.loc a] e=b0 (.int ((bP w h).length:Nat),e):=bF ((d8 r).mpr<|by rw[Yu];rfl);obtain⟨j,N⟩:∃j:Nat,v%((bP w h).length:Int)=j:=⟨(v%((bP w h).length:Int)).toNat,by have:=a1V v (b:=((bP w h).length:Int)) ⋯;lia⟩;have i:j<(bP w h).length:=by have:=a1y v (b:=((bP w h).length:Int)) ⋯;lia
 show aS (aM ⟨_,rfl,aM ⟨_,rfl,aK rfl<|aY E<|(dM<|by lia).mpr ?_⟩⟩);rw[N];show⟨_,fZ (cr:=bP w h) r i,?_⟩;have hc:(bP w h).getD j (0,0)∈bP w h:=by rw[Y3,Yz i];show ZU i
 generalize(bP w h).getD j (0,0)=c at hc ⊢;have A:g<+:e:=(aR _ _).trans x;have s:=aJ x<|bB g<|C.lst<|E8.map PP;have Z:g.length<e.length:=(Yy.mp s).1;have fin:∀(R:Fl×aF×Hm->Prop),(∀d B μ',Q (d,μ')->R (.rt d,B,μ'))->∀o:Int,(c.1%4=2->o%2=1)->W ((aH (b8 (bV<|aG (f (k+2) "_law_gaps")<|aB (aC c6 (aA 1)<|mC<|.int 256)<|aB (aA 4) aD) (cC 7) wR)<|aN<|aA 5) [b0<|.tup [.int w,.int h],b0<|.int v,b0<|.loc g.length,b0<|.loc a,b0<|PP c,b0<|.loc e.length,b0<|.int o,b5,b5,b5,b5,b5]<|e++[C.lst []]) R:=λR M o O=>by show dN (w_mForI.mpr<|w_iSeq.mpr<|aK (ds:=[.int<|v/256,PP c]) (μ':=e++[C.lst []]) (by kernel_rfl)<|WV (k+1) _ c _ _ λb U X l T u G=>(cN u).mpr ?_);rw[YF]at T;show W7 hw.2 n.2 hc O G (aJ ((aR _ _).trans l) s) (aJ l<|bB _ _) u ⋯ (by change _≠_;have:[C.lst []].length=1:=rfl;lia) λfs B I K L=>⟨rfl,bT ⟨_,by change aA 5 _ _=_;simp only[aA,L];rfl,?_⟩⟩;show M _ _ _<|H _ _ fs (A.trans<|dB ((aR _ _).trans l) (YG _) _) A.length_le (cK<|aJ l<|bB _ _) I K
 show aS ⟨_,rfl,aS<|aY (r:=(.int<|v/32%8,e++[C.lst []])) (by kernel_rfl)<|fE (b:=c.1%4==2) (μ':=e++[C.lst []]) (by kernel_rfl) (λz=>aS<|aM<|aM<|aY (r:=(.int<|v/32%4,e++[C.lst []])) (by kernel_rfl) ⟨_,rfl,(nG<|.inr ⟨by decide,by decide⟩).mpr ⟨_,rfl,w_addI.mpr ?_⟩⟩) λz=>cZ ?_⟩
 .show fin _ ?_ (v/32%8) ?_
  .show λ_ _ _ q=>q
  .show λy=>absurd (z.symm.trans<|beq_iff_eq.mpr y) YE
 .show fin _ ?_ (v/32%4*2+1) ?_
  .show λ_ _ _ q=>q
  .show λ_=>by lia
inductive CiI (w h:Int)(d0 d1 d2 d3 d5:Option D)(l n:Nat)(ν:Hm):Nat->aF->Hm->Prop
 |mk {i:Nat}{fs:jq}{x:Option D}(nd:fs.Nodup)(hE:∀p∈fs,cP w h p)(hl:fs.length<=n+i):CiI w h d0 d1 d2 d3 d5 l n ν i [d0,d1,d2,d3,b0<|.loc l,d5,x]<|ν.set l<|.lst<|fs.map PP
def Xa{fs k:jq}(nd:fs.Nodup)(v:∀p∈fs,cP w h p)(A:∀p∈k,cP w h p)(K:fs.length<=200)(L:k.length<=72)(gl:ν[l]?=b0 (.lst<|fs.map PP))(u:ν[a]?=b0 (.lst<|k.map PP))(s:a≠l)(H:∀(gs:jq)y,gs.Nodup->(∀p∈gs,cP w h p)->gs.length<=fs.length+72->R (.nx,[d0,d1,d2,d3,b0<|.loc l,d5,y],ν.set l<|.lst<|gs.map PP)):
  W (eQ (dQ<|.loc a) (cC 6) GV ((k.map PP).length+1) 0 [d0,d1,d2,d3,b0<|.loc l,d5,x] ν) R:=by
 show fP (CiI w h d0 d1 d2 d3 d5 l fs.length ν) ?_ ?_ ?_ ?_
 .have:=CiI.mk (d0:=d0) (d1:=d1) (d2:=d2) (d3:=d3) (d5:=d5) (l:=l) (n:=fs.length) (ν:=ν) (i:=0) (x:=x) nd v<|YG _;rw[qL gl]at this;show this
 .rintro _ _ _ ⟨_,_,_⟩;rw[YW<|ZJ s];show u
 .rintro i d _ _ hd ⟨c,b,j⟩;rename_i gs y;obtain⟨z,r,rfl⟩:=jG hd;have n:=cK (c':=C.lst (gs.map PP)) gl;have I:=(Yy.mp r).1;show⟨_,rfl,w_mIfS.mpr<|b9<|bA rfl rfl<|(BL n).mpr ⟨_,rfl,?_⟩⟩;cases o:gs.any λp=>p==z with
  |true=>show(if_neg YE).mpr (w_mNext.mpr<|.mk c b<|by lia)|false=>
   show(if_pos rfl).mpr (w_mDrop.mpr<|eM ⟨_,rfl,dZ n,_,rfl,(gO n<|by rw[Yu,Y2];lia).mpr ?_⟩);have E:z∉gs:=λB=>by have:(gs.any λp=>p==z)=true:=a3c.mpr ⟨z,B,beq_self_eq_true z⟩;rw[this]at o;cases o
   rw[Bz,show gs.map PP++[PP z]=(gs++[z]).map PP by rw[YV];rfl];show .mk (a0D.mpr ⟨c,ZO.mpr ⟨a1p,.nil⟩,λp g q G e=>E ?_⟩) (λp g=>?_)<|by rw[YF];change _+1<=_;lia
   .rw[<- YL.mp G,<- e];show g
   .rcases YN.mp g with g|g
    .show b p g
    .rw[YL.mp g];show A z<|YZ r
 .rintro _ _ ⟨c,b,j⟩;rw[Yu]at j;show H _ _ c b<|by lia
inductive CoI (w h:Int)(d0 d1 d2 d3:Option D)(l:Nat)(ν:Hm):Nat->aF->Hm->Prop
 |mk {i:Nat}{fs:jq}{x5 x6:Option D}{μ:Hm}(nd:fs.Nodup)(hE:∀p∈fs,cP w h p)(hl:fs.length<=72*i)(p:ν<+:μ)(g:μ[l]?=b0 (.lst<|fs.map PP)):CoI w h d0 d1 d2 d3 l ν i [d0,d1,d2,d3,b0<|.loc l,x5,x6] μ
def Xb k ns(hw:1<=w/\w<=6)(s:1<=h/\h<=6)(L:dD ns 0/9%6<3\/dD ns 0/9%6=5->w<=3/\h<=3)(b:Hm)(Q:jz)(H:∀a μ' (es:jq),b<+:μ'->μ'[a]?=b0 (.lst<|es.map PP)->es.Nodup->(∀p∈es,cP w h p)->es.length<=200->Q (.loc a,μ')):W (f (k+6) "_law_creases" [.rol<|ns.map D.int,.int 0,.tup [.int w,.int h]] b) Q:=by
 show bS (Vg (k+5) _ _ _ b) (aS<|aM<|aM<|aK rfl<|qO (k+4) ns ⋯ _ _ ⟨_,rfl,(tB (by decide)<|by decide).mpr ⟨_,rfl,(dM<|by decide).mpr ?_⟩⟩);have T:0<=dD ns 0/9%6/\dD ns 0/9%6<6:=by lia
 generalize dD ns 0/9%6=v at T L ⊢;show fE (b:=decide (v<3)) (μ':=b) (by kernel_rfl) (λz=>iN ?_) λz=>cZ ?_
 .have z:=of_decide_eq_true z;obtain⟨I,K⟩:=L<|.inl z;obtain⟨nq,lq,ne,le,l0⟩:=HU w (in3' ⟨hw.1,I⟩) h<|in3' ⟨s.1,K⟩;show aK rfl<|WS k ns ⟨hw.1,I⟩ ⟨s.1,K⟩ _ _ λa Y es x j E=>H _ _ es x j (E.nodup ne) (λp R=>E.subset R)<|by have:=E.length_le;lia
 .have z:=of_decide_eq_false z;show aS ⟨_,rfl,dN<|w_mForI.mpr<|(oU (j:=0)).mpr<|aX<|aM<|aY (r:=(.loc (b++[C.lst []]).length,(b++[C.lst []])++[C.lst<|[1,1,2].map D.int])) rfl ⟨_,rfl,?_⟩⟩;have x:=aR b<|C.lst [];have A:=aR (b++[C.lst []])<|C.lst<|[1,1,2].map D.int;have l:=bB (b++[C.lst []])<|C.lst<|[1,1,2].map D.int;have j:=aJ A<|bB b<|C.lst [];generalize hm:(b++[C.lst []])++[C.lst<|[1,1,2].map D.int]=μ2 at A j l ⊢;have c:∀n:Nat,n<=2->W (eQ (jO 0 n) (cC 5) (GW<|k+5) (n+1) 0 [b0<|.rol<|ns.map D.int,b0<|.int 0,b0<|.tup [.int w,.int h],b0<|.int v,b0<|.loc b.length,b5,b5] μ2) λp=>p.1=.nx/\W (aN (aA 4) p.2.1 p.2.2) λp=>match p.1 with|.rt d=>Q (d,p.2.2)|.nx=>Q (.non,p.2.2)|_=>False:=λn hn=>by
   show lZ (lo:=0) (CoI w h (b0<|.rol<|ns.map D.int) (b0<|.int 0) (b0<|.tup [.int w,.int h]) (b0<|.int v) b.length b) (.mk (fs:=[]) .nil (λ_ h=>nomatch h) (YG _) (x.trans A) j) ?_ ?_
   .rintro i _ e hi ⟨nd,o,N,p,g⟩;rename_i fs x5 x6;show⟨_,rfl,w_mForI.mpr<|w_iSeq.mpr<|eV<|aX ⟨_,rfl,aX<|aK rfl<|qO (k+4) ns ⋯ _ _ ⟨_,rfl,W9 (k+2) hw s _ _ _ λa Z ss B la G X M=>(cN G).mpr ?_⟩⟩⟩;have la:e.length<=a:=la;have lm:b.length<e.length:=(Yy.mp g).1;show Xa nd o M ⋯ X (aJ B g) G ⋯ λgs y u r O=>.mk u r ⋯ (dB (p.trans B) (YG _) _)<|cK<|aJ B g
   .rintro _ e ⟨nd,o,N,p,g⟩;show⟨rfl,bT ⟨_,rfl,H _ _ _ p g nd o<|by lia⟩⟩
  have U:v=3\/v=4\/v=5:=by lia
  rcases U with rfl|rfl|rfl
  .show⟨_,bF<|(fN l<|show atI _ ((3:Int)-3)=b0 (.int 1)from rfl).mpr rfl,_,rfl,⟨by decide,by decide⟩,c 1<|by decide⟩
  .show⟨_,bF<|(fN l<|show atI _ ((4:Int)-3)=b0 (.int 1)from rfl).mpr rfl,_,rfl,⟨by decide,by decide⟩,c 1<|by decide⟩
  .show⟨_,bF<|(fN l<|show atI _ ((5:Int)-3)=b0 (.int 2)from rfl).mpr rfl,_,rfl,⟨by decide,by decide⟩,c 2<|by decide⟩
def oZ{g:MF}{ds:List D}(h:ms b a=b0 (ds,μ'))(e:g ds μ'=b0 r):aG g ms b a=b0 r:=bF<|aK h ⟨_,e,rfl⟩
def tR(e:o=fin (aN m b a))(h:m b a=b0 r):o=b0 r:=bF<|bS e<|bT ⟨_,h,rfl⟩
def BY k i a:f (k+1) "is_whole" [.int i] a=b0 (.bl d7,a):=(G3 k _ a).trans<|by kernel_rfl
def Ij k(h:1<=i/\i<=6)a:f (k+2) "is_size" [.int i] a=b0 (.bl d7,a):=tR (UB (k+1) _ a)<|mB (oZ rfl<|BY k i a)<|bF<|w_mChain.mpr ⟨_,rfl,_,rfl,w_leI.mpr<|by
 rw[decide_eq_true h.1];show(if_pos rfl).mpr ⟨_,rfl,w_leI.mpr<|by rw[decide_eq_true h.2]⟩⟩
def Xc k(hw:1<=w/\w<=6)(b:1<=h/\h<=6)a:f (k+3) "check_size" [.int w,.int h] a=b0 (.non,a):=bF<|bS (UC (k+2) _ _ a)<|w_mIfS.mpr<|jF<|w_mAndT.mpr<|d9<|aK rfl<|aY (Ij k hw a) ⟨rfl,(if_pos rfl).mpr<|d9<|aK rfl<|aY (Ij k b a) ⟨rfl,(if_neg YE).mpr<|w_mNext.mpr rfl⟩⟩
def Xd k{s:Str}(h:s="o"\/s="h"\/s="v")a:f (k+1) "is_mark" [.str s] a=b0 (.bl d7,a):=by
 rcases h with rfl|rfl|rfl
 .show(Bu k _ a).trans<|by kernel_rfl
 .show(Bu k _ a).trans<|by kernel_rfl
 .show(Bu k _ a).trans<|by kernel_rfl
def Xe k(j:cP w h e)a:f (k+3) "is_inner_edge" [.int w,.int h,PP e] a=b0 (.bl d7,a):=by
 obtain⟨l,i⟩:=ZL.mp j;obtain⟨⟨b,c⟩,d,g⟩:=mem_pl.mp l;show tR (UJ (k+2) _ _ _ a)<|mB (d:=d7) (oZ rfl<|tR (Up (k+1) _ a)<|mB (c:=d7) (d:=d7) (by kernel_rfl)<|mB (c:=d7) (d:=d7) (by kernel_rfl)<|mB (oZ rfl<|BY k _ a)<|oZ rfl<|BY k _ a)<|mB (c:=d7) (d:=d7) (oZ rfl<|tR (UD (k+1) _ _ _ a) ?_)<|oZ rfl<|bF<|HQ (k+1) e a _ ?_
 .show mB (c:=d7) (d:=d7) ?_ ?_
  .show(tQ (x:=0) (y:=e.1) (z:=4*w) rfl rfl rfl).trans ?_;rw[decide_eq_true b,decide_eq_true c];rfl
  .show(tQ (x:=0) (y:=e.2) (z:=4*h) rfl rfl rfl).trans ?_;rw[decide_eq_true d,decide_eq_true g];rfl
 .rw[i]
abbrev cD(ms:List ((Int×Int)×Str)):jx:=ms.map λm=>(a8 m.1,.str m.2)
def Ik(h:p∉ms.map (·.1)):a9 (cD ms) (a8 p)=none:=by
 unfold a9;rw[a0V.mpr]
 .rfl
 .intro x a;obtain⟨z,b,rfl⟩:=YO.mp a;rw[decide_eq_true_iff];show λe=>h<|iR e▸YO.mpr ⟨z,b,rfl⟩
def BZ(h:m.1∉ms.map (·.1)):bW (cD ms) (a8 m.1) (.str m.2)=cD (ms++[m]):=by unfold bW;rw[Ik h,if_neg<|by simp];unfold cD;rw[YV];rfl
def Xf ms:∃S:List ((Int×Int)×Str),S.Perm ms/\(vQ<|cD ms).map sI=S.map MD:=by
 show⟨(cS (λi j=>HT.lexLt (((cD ms).map (·.1)).getD i [])<|((cD ms).map (·.1)).getD j []) (cD ms).length).map λi=>ms.getD i ((0,0),""),?_,?_⟩
 .have p:=(iF (λi j=>HT.lexLt (((cD ms).map (·.1)).getD i [])<|((cD ms).map (·.1)).getD j []) (cD ms).length).map λi=>ms.getD i ((0,0),"");have e:(cD ms).length=ms.length:=Yu ..;rw[e,Ho]at p;rw[e];show p
 .unfold vQ;rw[Y0,Y0];show a0n λi a=>?_;have a:i<(cD ms).length:=ZR.mp<|(iF _ _).mem_iff.mp a;have a:i<ms.length:=by unfold cD at a;rw[Yu]at a;show a
  unfold cD;simp[a,MD,sI,a8,PP,P]
inductive SoI (w h:Int)(a l:Nat)(ν:Hm)(ms:List ((Int×Int)×Str)):Nat->aF->Hm->Prop
 |mk {i:Nat}{x y:Option D}{μ:Hm}(p:ν<+:μ)(g:μ[l]?=b0 (.dT<|cD<|ms.take i)):SoI w h a l ν ms i [b0<|.int w,b0<|.int h,b0<|.loc a,b0<|.loc l,x,y] μ
def Xg k{m:(Int×Int)×Str}(d:cP w h m.1)(e:m.2="o"\/m.2="h"\/m.2="v")(c:m.1∉ms.map (·.1))(i:ms.length<=900)(g:b[l]?=b0 (.dT<|cD ms))(H:∀y,R (.nx,[b0<|.int w,b0<|.int h,b0<|.loc a,b0<|.loc l,b0<|MD m,y],b.set l<|.dT<|cD<|ms++[m])):W (Bj (k+3) [b0<|.int w,b0<|.int h,b0<|.loc a,b0<|.loc l,b0<|MD m,y] b) R:=by
 show aS ⟨_,rfl,jE<|jF<|d9<|aK rfl<|aY (Xe k d b) ⟨rfl,rfl,cZ<|jE<|jF<|d9<|aK rfl<|aY (Xd (k+2) e b) ⟨rfl,rfl,cZ<|jE<|b9<|bA rfl rfl<|(wQ g<|cT m.1).mpr ?_⟩⟩⟩;rw[Ik c];show⟨_,rfl,rfl,cZ<|w_mPut.mpr ⟨_,rfl,_,rfl,_,rfl,(nH g (cT m.1)<|by unfold cD;rw[Yu,Y2];lia).mpr ?_⟩⟩;rw[BZ c];show H _
def Il k(hw:1<=w/\w<=6)(v:1<=h/\h<=6){ms:List ((Int×Int)×Str)}(z:ms.length<=900)(x:vT ms.length)(nd:(ms.map (·.1)).Nodup)(u:∀m∈ms,cP w h m.1)(ok:∀m∈ms,m.2="o"\/m.2="h"\/m.2="v"){b:Hm}(o:b[a]?=b0 (.lst<|ms.map MD))(Q:jz)(H:∀S c,b<+:c->S.Perm ms->Q (SH w h S,c)):W (f (k+4) "sheet_of" [.int w,.int h,.loc a] b) Q:=by
 show bS (UK (k+3) _ _ _ b)<|l7<|aK rfl<|aY (Xc k hw v b)<|aS<|w_mDNewT.mpr<|dN<|w_mForI.mpr<|w_iSeq.mpr ⟨_,rfl,(cN<|aJ (aR _ _) o).mpr ?_⟩;show fP (b:=Bj (k+3)) (SoI w h a b.length b ms) (.mk (aR _ _)<|by rw[ZG];show bB _ _) (by rintro _ _ _ ⟨p,_⟩;show aJ p o) ?_ ?_
 .rintro i d _ _ hd ⟨p,g⟩;rw[YU]at hd;obtain⟨m,l,rfl⟩:=YB.mp hd;have n:=YZ l;show⟨_,rfl,Xg k (u m n) (ok m n) ?_ (by rw[Zb];lia) g λy=>.mk (dB p (YG _) _) ?_⟩
  .have:=oY nd (n:=i) (x:=m.1) (by rw[YU,l];rfl);rw[<- a6E]at this;show this
  .rw[cK g,e8 l]
 .rintro _ j ⟨p,g⟩;rw[Yu,Zp]at g;obtain⟨S,r,s⟩:=Xf ms;have e:vV (.loc b.length) j=b0 (.tup<|S.map MD,j):=by simp only[vV,g];rw[if_pos<|by first|show trivial|(unfold cD;rw[Yu];show x),s]
  show⟨rfl,bT<|w_mTup.mpr<|aX ⟨_,rfl,aX ⟨_,rfl,aX<|W_bind.mpr ⟨_,rfl,_,e,_,rfl,by change(3:Nat)<=YM;decide,H _ _ p r⟩⟩⟩⟩
abbrev mkS:List Str:=["o","o","h","v","o","o","o","o"]
def Xh:∀j:Nat,j<8->∃s:Str,(s="o"\/s="h"\/s="v")/\atI (mkS.map D.str) (j:Int)=b0 (.str s)
 |0,_=>⟨"o",.inl rfl,rfl⟩|1,_=>⟨"o",.inl rfl,rfl⟩|2,_=>⟨"h",.inr<|.inl rfl,rfl⟩|3,_=>⟨"v",.inr<|.inr rfl,rfl⟩|4,_=>⟨"o",.inl rfl,rfl⟩|5,_=>⟨"o",.inl rfl,rfl⟩|6,_=>⟨"o",.inl rfl,rfl⟩|7,_=>⟨"o",.inl rfl,rfl⟩|n+8,h=>absurd h<|by lia
def Xi(h:0<=i/\i<3):∃t,(0<t/\t<=8)/\atI ([3,4,8].map D.int) i=b0 (.int t):=by
 have:i=0\/i=1\/i=2:=by lia
 rcases this with rfl|rfl|rfl
 .show⟨3,by decide,rfl⟩
 .show⟨4,by decide,rfl⟩
 .show⟨8,by decide,rfl⟩
def Xj{a:Hm}(p:ms.length<=900)(g:a[b]?=b0 (.lst<|ms.map MD))(H:∀(s:Str)n' x9 μ',(s="o"\/s="h"\/s="v")->a<+:μ'->R (.nx,[d0,d1,d2,d3,d,d5,b0<|PP z,b0<|.int n',b0<|.loc b,x9],μ'.set b<|.lst<|(ms++[(z,s)]).map MD)):
  W (GX [d0,d1,d2,d3,d,d5,b0<|PP z,b0<|.int n,b0<|.loc b,x9] a) R:=by
 obtain⟨t,o,i⟩:=Xi (i:=n%3) ⋯;have r:0<=n/16%t/\n/16%t<t:=⟨a1V _<|by lia,a1y _<|by lia⟩;obtain⟨j,k⟩:∃j:Nat,n/16%t=j:=⟨(n/16%t).toNat,by lia⟩;obtain⟨s,l,h⟩:=Xh j ⋯;show aS (aM<|aY (r:=(.int<|n/16,a)) (by kernel_rfl)<|aM<|aY (r:=(.loc a.length,a++[C.lst<|[3,4,8].map D.int])) (by kernel_rfl)<|aY (r:=(.int<|n%3,a++[C.lst<|[3,4,8].map D.int])) (by kernel_rfl)<|(fN (bB _ _) i).mpr<|(dM o.1).mpr ?_);rw[k];have c:=aR a<|C.lst<|[3,4,8].map D.int;generalize a++[C.lst<|[3,4,8].map D.int]=μ1 at c ⊢;show l7 (eM ⟨_,rfl,dZ<|aJ c g,aX<|w_mTup.mpr<|aX ⟨_,rfl,aX<|aM<|aY (r:=(.loc μ1.length,μ1++[C.lst<|mkS.map D.str])) (by kernel_rfl) ⟨_,rfl,(fN (bB _ _) h).mpr ⟨_,rfl,jW,_,rfl,?_⟩⟩⟩⟩);have e:=aR μ1<|C.lst<|mkS.map D.str;show(gO (aJ (c.trans e) g)<|by rw[Yu,Y2];lia).mpr (w_mSet.mpr<|aM<|aM<|aM ⟨_,rfl,_,rfl,(nG<|.inr ⟨by decide,by decide⟩).mpr ⟨_,rfl,w_addI.mpr ⟨_,rfl,(dM<|by decide).mpr ?_⟩⟩⟩);rw[show ms.map MD++[D.tup [PP z,.str s]]=(ms++[(z,s)]).map MD by rw[YV];rfl];show H s _ _ _ l<|c.trans e
inductive MrI (d0 d1 d2 d3 d4 d5:Option D)(l b:Nat)(ν:Hm)(es:jq):Nat->aF->Hm->Prop
 |mk {i:Nat}{n:Int}{x6 x9:Option D}{μ:Hm}{ms:List ((Int×Int)×Str)}(p:ν<+:μ)(gl:μ[l]?=b0 (.lst<|es.map PP))(g:μ[b]?=b0 (.lst<|ms.map MD))(hm:ms.map (·.1)=es.take i)(ok:∀m∈ms,m.2="o"\/m.2="h"\/m.2="v"):MrI d0 d1 d2 d3 d4 d5 l b ν es i [d0,d1,d2,d3,d4,d5,x6,b0<|.int n,b0<|.loc b,x9] μ
inductive ShOk (S:List ((Int×Int)×Str)):Prop
 |mk (len:S.length<=600)(nd:(S.map (·.1)).Nodup)(ok:∀m∈S,m.2="o"\/m.2="h"\/m.2="v")
def Im k{ns:List Int}(hw:1<=w/\w<=6)(y:1<=h/\h<=6){es:jq}(nd:es.Nodup)(v:∀p∈es,cP w h p)(G:es.length<=300)(gl:b[l]?=b0 (.lst<|es.map PP))(H:∀S E μ',ShOk S->(∀m∈S,cP w h m.1)->R (.rt<|SH w h S,E,μ')):
  W (GY (k+4) [b0<|.rol<|ns.map D.int,b0<|.int 0,d2,b0<|.tup [.int w,.int h],b0<|.loc l,d5,x,b5,b5,b5] b) R:=by
 show aS (aM<|aK rfl<|qO (k+3) ns ⋯ _ _ ⟨_,rfl,(dM<|by decide).mpr<|aS ⟨_,rfl,?_⟩⟩);have u:=aR b<|C.lst [];have I:l<b.length:=(Yy.mp gl).1;show dN<|w_mForI.mpr<|w_iSeq.mpr ⟨_,rfl,(cN<|aJ u gl).mpr ?_⟩;show fP (MrI (b0<|.rol<|ns.map D.int) (b0<|.int 0) d2 (b0<|.tup [.int w,.int h]) (b0<|.loc l) d5 l b.length b es) (.mk (ms:=[]) u (aJ u gl) (bB _ _) (by rw[ZG];rfl) λ_ h=>nomatch h) (by rintro _ _ _ ⟨_,g,_,_,_⟩;show g) ?_ ?_
 .rintro i d _ _ hd ⟨p,c,g,a,ok⟩;obtain⟨z,B,rfl⟩:=jG hd;rename_i r;have j:r.length<=900:=by have:=congrArg ZE a;rw[Yu,Zb]at this;lia
  show⟨_,rfl,Xj j g λs K L μ' A o=>.mk (dB (p.trans o) (YG _) _) ?_ (cK<|aJ o g) ?_ λm a=>?_⟩
  .rw[YW<|by lia];show aJ o c
  .rw[YV,a,e8 B];rfl
  .rcases YN.mp a with a|a
   .show ok m a
   .rw[YL.mp a];show A
 .rintro _ _ ⟨p,c,g,a,ok⟩;rename_i r;rw[Yu,Zp]at a;have j:r.length=es.length:=by have:=congrArg ZE a;rw[Yu]at this;show this
  show⟨rfl,bT<|aK rfl<|Il k hw y ⋯ trivial (by rw[a];show nd) (λm e=>v _<|by rw[<- a];show YO.mpr ⟨m,e,rfl⟩) ok g _ λS μ' o n=>H S _ _ ⟨by rw[n.length_eq];lia,(n.map (·.1)).nodup_iff.mpr<|by rw[a];show nd,λm e=>ok m<|n.mem_iff.mp e⟩ λm e=>v _<|by rw[<- a];show YO.mpr ⟨m,n.mem_iff.mp e,rfl⟩⟩
def Xk{es:jq}(nd:es.Nodup)(g:∀p∈es,cP w h p)(r:es.length<=200)(hz:cP w h z)(gl:d[l]?=b0 (.lst<|es.map PP))(H:∀fs:jq,fs.Nodup->(∀p∈fs,cP w h p)->fs.length<=300->R (.nx,[d0,d1,d2,d3,b0<|.loc l,d5,b0<|PP z,b5,b5,b5],d.set l<|.lst<|fs.map PP)):
  W (GZ [d0,d1,d2,d3,b0<|.loc l,d5,b0<|PP z,b5,b5,b5] d) R:=by
 show w_mIfS.mpr<|b9<|bA rfl rfl<|(BL gl).mpr ⟨_,rfl,?_⟩;cases b:es.any λp=>p==z with
 |true=>
  have c:z∈es:=by obtain⟨y,n,e⟩:=a3c.mp b;rw[<- beq_iff_eq.mp e];show n
  show(if_pos rfl).mpr<|w_mDrop.mpr<|eM ⟨_,rfl,dZ gl,_,rfl,Wv gl c ⋯ λo j i=>H o (j.nodup nd) (λp a=>g p<|j.subset a)<|by lia⟩
 |false=>
  have k:z∉es:=λc=>by have:(es.any λp=>p==z)=true:=a3c.mpr ⟨z,c,beq_self_eq_true z⟩;rw[this]at b;cases b
  show(if_neg YE).mpr (w_mDrop.mpr<|eM ⟨_,rfl,dZ gl,_,rfl,(gO gl<|by rw[Yu,Y2];lia).mpr ?_⟩);rw[show es.map PP++[PP z]=(es++[z]).map PP by rw[YV];rfl];show H _ (a0D.mpr ⟨nd,ZO.mpr ⟨a1p,.nil⟩,λp a q i e=>k ?_⟩) (λp a=>?_)<|by rw[YF];change _+1<=_;lia
  .rw[<- YL.mp i,<- e];show a
  .rcases YN.mp a with a|a
   .show g p a
   .rw[YL.mp a];show hz
def Io(hw:1<=w)(a:1<=h):0<((cE w h).filter cV).length:=a6T (a:=(1,1))<|ZL.mpr ⟨mem_pl.mpr ⟨⟨by decide,by dsimp only;lia⟩,by decide,by dsimp only;lia⟩,by decide⟩
def Ip k{ns:List Int}(hw:1<=w/\w<=6)(e:1<=h/\h<=6){es:jq}(nd:es.Nodup)(r:∀p∈es,cP w h p)(y:es.length<=200)(gl:s[l]?=b0 (.lst<|es.map PP))(H:∀S B μ',ShOk S->(∀m∈S,cP w h m.1)->R (.rt<|SH w h S,B,μ')):
  W (Bk (k+4) [b0<|.rol<|ns.map D.int,b0<|.int 0,b0<|.int v,b0<|.tup [.int w,.int h],b0<|.loc l,b5,b5,b5,b5,b5] s) R:=by
 show aS<|aK rfl<|BR (k+2) hw e _ _ λa b A o=>?_;have E:=Io hw.1 e.1;have c:=aJ A gl;show fE (b:=v/324%4==1) (μ':=b) (by kernel_rfl) (λ_=>tF ?_) λ_=>cZ (Im k hw e nd r ⋯ c H);have u:bO [.loc a] b=b0 (.int (((cE w h).filter cV).length:Nat),b):=bF ((d8 o).mpr<|by rw[Yu]);obtain⟨j,x⟩:∃j:Nat,v/1296%(((cE w h).filter cV).length:Int)=j:=⟨(v/1296%(((cE w h).filter cV).length:Int)).toNat,by have:=a1V (v/1296) (b:=(((cE w h).filter cV).length:Int)) ⋯;lia⟩;have d:j<((cE w h).filter cV).length:=by have:=a1y (v/1296) (b:=(((cE w h).filter cV).length:Int)) ⋯;lia
 show aS (aM ⟨_,rfl,aM<|aY (r:=(.int<|v/1296,b)) (by kernel_rfl)<|aK rfl<|aY u<|(dM<|by lia).mpr ?_⟩);rw[x];show⟨_,fZ o d,?_⟩;have z:cP w h (((cE w h).filter cV).getD j (0,0)):=by unfold cP;rw[Y3,Yz d];show ZU d
 show dN<|Xk nd r y z c λfs n g i=>⟨rfl,Im k hw e n g i (cK c) H⟩
abbrev Xl(k:Nat):MS:=aH (aL 4<|aG (f k "_law_creases")<|aB (aA 0)<|aB (aA 1)<|aB (aA 3) aD)<|aH (bC (eD (aO<|aC (aU dI) (aC aW (aC c6 (aA 2)<|mC<|.int 9)<|mC<|.int 6)<|mC<|.int 5)<|aO<|aC (aU dI) (aC aW (aC c6 (aA 2)<|mC<|.int 5184)<|mC<|.int 4)<|mC<|.int 1) (aH (aL 3<|aZ<|aB (mC<|.int 3)<|aB (mC<|.int 3) aD)<|aL 4<|aG (f k "_law_square") aD) bE)<|Bk k
def Xm:∀p∈sqA++sqB,(decide (0<p.1/\p.1<4*3)&&decide (0<p.2/\p.2<4*3)&&cV p)=true:=by decide
def Iq k(hw:1<=w/\w<=6)(e:1<=h/\h<=6)(o:dD ns 0/9%6<3\/dD ns 0/9%6=5->w<=3/\h<=3)(H:∀w h S b μ',1<=w/\w<=6->1<=h/\h<=6->ShOk S->(∀m∈S,cP w h m.1)->R (.rt<|SH w h S,b,μ')):
  W (Xl (k+6) [b0<|.rol<|ns.map D.int,b0<|.int 0,b0<|.int<|dD ns 0,b0<|.tup [.int w,.int h],b5,b5,b5,b5,b5,b5] u) R:=by
 show aS<|aK rfl<|Xb k ns hw e o _ _ λa g x y i nd n r=>?_;show fE (μ':=g) (qQ (gZ (b:=dD ns 0/9%6==5)<|by kernel_rfl)<|gZ (b:=dD ns 0/5184%4==1)<|by kernel_rfl) (λ_=>tF<|aS ⟨_,rfl,?_⟩) λ_=>cZ<|Ip (k+2) hw e nd n r i λS b μ' d c=>H w h S b μ' hw e d c;show aS (aK rfl<|Wx (k+5) _ _ λl v z _ j=>Ip (k+2) (w:=3) (h:=3) (by decide) (by decide) sq_ok.1 (λp s=>?_) (by decide) j λS b μ' d c=>H 3 3 S b μ' (by decide) (by decide) d c);have:=Xm p s;simp only[YK,decide_eq_true_eq]at this;show BX this.1.1 this.1.2 this.2
def Xn(e:s d c=b0 (a,c))(g:t d c=b0 (b,c)):gR s t d c=b0 (a||b,c):=bF<|w_mOrT.mpr ⟨_,e,by
 cases a with
 |true=>show(if_pos rfl).mpr rfl
 |false=>show(if_neg YE).mpr ⟨_,g,rfl⟩⟩
def Xo h x:(jY h x).Nodup:=by unfold jY a4T;rw[a0C];show a5y.imp λz e=>z<|by have:=congrArg Prod.snd e;dsimp only at this;lia
def Ir h:∀n,(jZ h n).Nodup/\∀p∈jZ h n,p.1<1+(n:Int)
 |0=>⟨.nil,λ_ h=>nomatch h⟩|n+1=>by
  obtain⟨d,b⟩:=Ir h n;have c:∀p∈jY h (1+(n:Int)),p.1=1+(n:Int):=λp a=>by obtain⟨j,_,rfl⟩:=YO.mp a;rfl
  rw[Bw];show⟨a0D.mpr ⟨d,Xo h _,λp a q g e=>?_⟩,λp a=>?_⟩
  .have:=b p a;rw[e,c q g]at this;lia
  .rcases YN.mp a with a|a
   .have:=b p a;lia
   .have:=c p a;omega
def Xp(l:ms.length<=900)(g:a[b]?=b0 (.lst<|ms.map MD))(d:∀c,R (.nx,[b0<|.int c,d1,d2,b0<|.loc b,b0<|PP z],a))(i:∀(s:Str)c,(s="o"\/s="h"\/s="v")->R (.nx,[b0<|.int c,d1,d2,b0<|.loc b,b0<|PP z],a.set b<|.lst<|(ms++[(z,s)]).map MD)):W (Bl [b0<|.int n,d1,d2,b0<|.loc b,b0<|PP z] a) R:=by
 show fE (b:=decide (0<n%4)) (μ':=a) (by kernel_rfl) (λh=>?_) λ_=>cZ (w_mSet.mpr<|aY (r:=(D.int<|n/4,a)) (by kernel_rfl)<|d<|n/4);have h:=of_decide_eq_true h;obtain⟨s,k,j⟩:∃s:Str,(s="o"\/s="h"\/s="v")/\aE (.str " ohv") (.int<|n%4) a=b0 (.str s,a):=by
  have:n%4=1\/n%4=2\/n%4=3:=by lia
  rcases this with e|e|e<;>rw[e]
  .show⟨"o",.inl rfl,by kernel_rfl⟩
  .show⟨"h",.inr<|.inl rfl,by kernel_rfl⟩
  .show⟨"v",.inr<|.inr rfl,by kernel_rfl⟩
 show l7 (eM ⟨_,rfl,dZ g,aX<|w_mTup.mpr<|aX ⟨_,rfl,aX<|bA (x:=.str " ohv") (y:=.int (n%4)) rfl (by kernel_rfl) ⟨_,j,_,rfl,jW,_,rfl,?_⟩⟩⟩);show(gO g<|by rw[Yu,Y2];lia).mpr ?_;rw[show ms.map MD++[D.tup [PP z,.str s]]=(ms++[(z,s)]).map MD by rw[YV];rfl];show w_mSet.mpr<|aY (r:=(D.int<|n/4,a.set b<|.lst<|(ms++[(z,s)]).map MD)) (by kernel_rfl)<|i s (n/4) k
inductive AnI (d1 d2:Option D)(a b:Nat)(ν:Hm)(es:jq):Nat->aF->Hm->Prop
 |mk {i:Nat}{n:Int}{x:Option D}{μ:Hm}{ms:List ((Int×Int)×Str)}(p:ν<+:μ)(gl:μ[a]?=b0 (.lst<|es.map PP))(g:μ[b]?=b0 (.lst<|ms.map MD))(hm:(ms.map (·.1)).Sublist (es.take i))(ok:∀m∈ms,m.2="o"\/m.2="h"\/m.2="v"):AnI d1 d2 a b ν es i [b0<|.int n,d1,d2,b0<|.loc b,x] μ
def Xq k n c l(Q:jz)(H:∀w h S μ',1<=w/\w<=6->1<=h/\h<=6->ShOk S->(∀m∈S,cP w h m.1)->Q (SH w h S,μ')):W (f (k+5) "_law_any_sheet" [.int n,.int c] l) Q:=by
 have hw:1<=1+c%6/\1+c%6<=6:=by lia
 have o:1<=1+c/6%6/\1+c/6%6<=6:=by lia
 show bS (Vi (k+4) _ _ l) (aS<|aY (r:=(.tup [.int<|1+c%6,.int<|1+c/6%6],l)) (by kernel_rfl) ?_);generalize 1+c%6=w at hw ⊢;generalize 1+c/6%6=h at o ⊢;show aS ⟨_,rfl,dN<|w_mForI.mpr<|w_iSeq.mpr<|aK rfl<|BR (k+2) hw o _ _ λa M E e=>(cN e).mpr ?_⟩;have x:=aJ E<|bB l<|C.lst [];have y:=Io hw.1 o.1;have L:a≠l.length:=λz=>by rw[z,x]at e;injection e with e;injection e with e;rw[a7J.mp e.symm]at y;show absurd y<|a0f _
 have nd:((cE w h).filter cV).Nodup:=(Ir h _).1.sublist a7M;have v:∀p∈(cE w h).filter cV,cP w h p:=λ_ h=>h;have G:((cE w h).filter cV).length<=529:=Zr (a0p _ _)<|tI hw.2 o.2;generalize(cE w h).filter cV=es at e nd v G;show fP (b:=Bl) (AnI (b0<|.int c) (b0<|.tup [.int w,.int h]) a l.length l es) (.mk (ms:=[]) ((aR _ _).trans E) e x (List.nil_sublist _) λ_ h=>nomatch h) (by rintro _ _ _ ⟨_,g,_,_,_⟩;show g) ?_ ?_
 .rintro i d _ _ hd ⟨p,gl,g,b,ok⟩;obtain⟨z,A,rfl⟩:=jG hd;rename_i B;have j:B.length<=900:=by have:=b.length_le;rw[Yu,Zb]at this;lia
  show⟨_,rfl,Xp j g (λK=>.mk p gl g (b.trans ?_) ok) λs K I=>.mk (dB p (YG _) _) ?_ (cK g) ?_ λm b=>?_⟩
  .rw[e8 A];show List.sublist_append_left ..
  .rw[YW<|ZJ L];show gl
  .rw[YV,e8 A];show b.append<|b0D _
  .rcases YN.mp b with b|b
   .show ok m b
   .rw[YL.mp b];show I
 .rintro _ _ ⟨p,gl,g,b,ok⟩;rename_i B;rw[Yu,Zp]at b;have j:=b.length_le;rw[Yu]at j;show⟨rfl,bT<|aK rfl<|Il k hw o ⋯ trivial (b.nodup nd) (λm r=>v _<|b.subset<|YO.mpr ⟨m,r,rfl⟩) ok g _ λS μ' N u=>H w h S _ hw o ⟨by rw[u.length_eq];lia,(u.map (·.1)).nodup_iff.mpr<|b.nodup nd,λm r=>ok m<|u.mem_iff.mp r⟩ λm r=>v _<|b.subset<|YO.mpr ⟨m,u.mem_iff.mp r,rfl⟩⟩
def Xr k(ns:List Int)a(Q:jz)(H:∀w h S μ',1<=w/\w<=6->1<=h/\h<=6->ShOk S->(∀m∈S,cP w h m.1)->Q (SH w h S,μ')):W (f (k+7) "_law_sheet" [.rol<|ns.map D.int,.int 0] a) Q:=by
 have b:∀{j:Int},0<=j->f (k+6) "_law_nth" [.rol<|ns.map D.int,.int j] a=b0 (.int<|dD ns j,a):=λi=>bF<|qO (k+5) ns i a _ rfl;show bS (Vj (k+6) _ _ a)<|fE (μ':=a) (qQ (gZ (b:=dD ns 8%2==1)<|bF<|aM<|aM<|aK rfl<|aY (b<|by decide) ⟨_,rfl,w_mod2.mpr ⟨_,rfl,w_eqI.mpr rfl⟩⟩)<|Xn (gZ (b:=decide (4096<dD ns 9))<|bF<|aM<|aK rfl<|aY (b<|by decide) ⟨_,rfl,w_gtI.mpr rfl⟩)<|gZ (b:=decide (dD ns 9<0))<|bF<|aM<|aK rfl<|aY (b<|by decide) ⟨_,rfl,w_ltI.mpr rfl⟩) (λ_=>?_) λ_=>cZ ?_
 .show iN<|eV<|aX<|aK rfl<|aY (b<|by decide)<|aX<|aK rfl<|aY (b<|by decide) ⟨_,rfl,Xq (k+1) _ _ _ _ H⟩
 .show aS (aK rfl<|aY (b<|by decide) ?_);have n:0<=dD ns 0%3/\dD ns 0%3<3/\0<=dD ns 0/3%3/\dD ns 0/3%3<3:=by lia
  show aS (aY (r:=(.tup [.int<|1+dD ns 0%3,.int<|1+dD ns 0/3%3],a)) (by kernel_rfl) ?_);show fE (μ':=a) (qQ (gZ<|tQ (x:=2) (y:=dD ns 0/9%6) (z:=5) rfl (by kernel_rfl) rfl)<|gZ (b:=dD ns 0/5184%4==1)<|by kernel_rfl) (λz=>?_) λz=>cZ ?_
  .simp only[YK,decide_eq_true_eq]at z;show aS (aY (r:=(.tup [.int<|1+dD ns 0%3+3,.int<|1+dD ns 0/3%3+3],a)) (by kernel_rfl) ?_);show Iq k ⋯ ⋯ (λy=>by omega) λw h S l μ' c d e g=>H w h S μ' c d e g
  .show Iq k ⋯ ⋯ (λy=>by lia) λw h S l μ' c d e g=>H w h S μ' c d e g
noncomputable abbrev Ed:=Int×Int
noncomputable abbrev St:=Ed×Ed×Bool×Ed
abbrev fF(s:St):St:=(s.2.1,s.1,s.2.2.1,s.2.2.2)
abbrev b7(T:List St)(e:Ed):List St:=T.flatMap λt=>(if t.1=e then[t]else[])++if t.2.1=e then[fF t]else[]
def fr_mem:s∈b7 T e↔s.1=e/\(s∈T\/fF s∈T):=by
 unfold b7;rw[a3a];constructor
 .rintro⟨t,b,a⟩;rcases YN.mp a with a|a
  .by_cases h:t.1=e
   .rw[if_pos h]at a;rw[YL.mp a];show⟨h,.inl b⟩
   .rw[if_neg h]at a;cases a
  .by_cases h:t.2.1=e
   .rw[if_pos h]at a;rw[YL.mp a];show⟨h,.inr b⟩
   .rw[if_neg h]at a;cases a
 .rintro⟨h,a|a⟩
  .show⟨s,a,YN.mpr<|.inl<|by rw[if_pos h];show .head _⟩
  .show⟨fF s,a,YN.mpr<|.inr<|by rw[if_pos<|show(fF s).2.1=e from h];show .head _⟩
inductive Rc (T:List St)(M:List Ed):List (Ed×Option St)->Prop
 |st:Rc T M<|M.map λe=>(e,b5)
 |sn {R:List (Ed×Option St)}{s:St}(h:Rc T M R)(hs:s∈b7 T s.1)(h1:s.1∈R.map (·.1))(h2:s.2.1∉R.map (·.1)):Rc T M<|R++[(s.2.1,b0 s)]
def tS(M:List Ed):(M.map λe=>(e,(b5:Option St))).map (·.1)=M:=by rw[Y0];show a9S _
def Rc.nd(c:M.Nodup)(h:Rc T M R):(R.map (·.1)).Nodup:=by
 induction h with
 |st=>rw[tS];show c|sn h j i b g=>rw[YV];show a0D.mpr ⟨g,ZO.mpr ⟨a1p,.nil⟩,λx a y d e=>b ?_⟩;have:y=_:=YL.mp d;rw[e,this]at a;show a
def Rc.up(h:Rc T M R):∀e o,(e,o)∈R->match o with|none=>e∈M|some s=>s.2.1=e/\s∈b7 T s.1/\s.1∈R.map (·.1)/\(R.map (·.1)).idxOf s.1<(R.map (·.1)).idxOf e:=by
 induction h with
 |st=>intro e o h;obtain⟨x,p,j⟩:=YO.mp h;cases j;show p|@sn R s h n i k r=>
  intro e o g;rw[YV];rcases YN.mp g with g|g
  .have:=r e o g;have l:e∈R.map (·.1):=YO.mpr ⟨_,g,rfl⟩;cases o with
   |none=>show this|some t=>obtain⟨a,b,c,d⟩:=this;show⟨a,b,YN.mpr<|.inl c,?_⟩;rw[a3Q,a3Q,if_pos c,if_pos l];show d
  .cases YL.mp g;show⟨rfl,n,YN.mpr<|.inl i,?_⟩;rw[a3Q,a3Q,if_pos i,if_neg k];have:=a6F.mpr i;lia
inductive Wy (T:List St):Ed->List St->Ed->Prop
 |nil (e:Ed):Wy T e [] e
 |cons {s:St}{w:List St}{e:Ed}(hs:s∈b7 T s.1)(h:Wy T s.2.1 w e):Wy T s.1 (s::w) e
abbrev cF(w:List St):Nat:=(w.filter λs=>!s.2.2.1).length
abbrev dA(b:Bool):Int:=if b then 0 else 1
structure Gr(T:List St)(C:List Ed)(r:Ed->Ed)(p:Ed->Int):Prop where
 on:∀e∈C,p e=0\/p e=1
 ti:∀t∈T,r t.1=r t.2.1/\(p t.1+p t.2.1+dA t.2.2.1)%2=0
def Gr.way{C:List Ed}(g:Gr T C r p)(h:Wy T m w e):r m=r e/\(p m+p e+cF w)%2=0:=by
 induction h with
 |nil e=>show⟨rfl,by change(p e+p e+((0:Nat):Int))%2=0;lia⟩|@cons s w e j h d=>
  have:r s.1=r s.2.1/\(p s.1+p s.2.1+dA s.2.2.1)%2=0:=by
   rcases(fr_mem.mp j).2 with b|b
   .show g.ti s b
   .have:=g.ti _ b;show⟨this.1.symm,?_⟩;have k:(p s.2.1+p s.1+dA s.2.2.1)%2=0:=this.2;lia
  show⟨this.1.trans d.1,?_⟩;have a:=this.2;have i:=d.2;unfold cF at i ⊢;rw[a3b];cases c:s.2.2.1 with
  |true=>rw[if_neg<|by simp];rw[c]at a;unfold dA at a;simp only[if_true]at a;lia|false=>rw[if_pos<|by rfl,Zc];rw[c]at a;unfold dA at a;simp only[Zf,if_false]at a;lia
inductive Cn (T:List St):Ed->Ed->Prop
 |rf (e:Ed):Cn T e e
 |go {e:Ed}{s:St}(h:Cn T e s.1)(hs:s∈b7 T s.1):Cn T e s.2.1
def Cn.tr(h:Cn T a b)(g:Cn T b c):Cn T a c:=by
 induction g with
 |rf=>show h|go g d e=>show .go e d
def Iu(h:s∈b7 T s.1):fF s∈b7 T (fF s).1:=fr_mem.mpr ⟨rfl,(fr_mem.mp h).2.symm.imp id id⟩
def Cn.sy(h:Cn T a b):Cn T b a:=by
 induction h with
 |rf=>show .rf _|@go s h c d=>show Cn.tr (.go (s:=fF s) (.rf _)<|Iu c) d
def Cn.cl{R:List Ed}(hc:∀e∈R,∀s∈b7 T e,s.2.1∈R)(h:Cn T a b)(c:a∈R):b∈R:=by
 induction h with
 |rf=>show c|go h d g=>show hc _ g _ d
abbrev aT(s:St):D:=.tup [PP s.1,PP s.2.1,.bl s.2.2.1,PP s.2.2.2]
def Xs kvs k k' d:a9 (kvs.map λp=>if p.1=k then(p.1,d)else p) k'=if k'=k then(a9 kvs k').map λ_=>d else a9 kvs k':=by
 induction kvs with
 |nil=>split<;>rfl|cons x e b=>
  unfold a9 at b ⊢;rw[Za,ZZ,ZZ];have c:(if x.1=k then(x.1,d)else x).1=x.1:=by split<;>rfl
  rw[c];by_cases h:x.1=k'
  .rw[decide_eq_true h];by_cases a:x.1=k
   .rw[if_pos a,if_pos<|h.symm.trans a];rfl
   .rw[if_neg a,if_neg λz=>a<|h.trans z]
  .rw[decide_eq_false h];show b
def qR kvs k k' d:a9 (bW kvs k d) k'=if k'=k then b0 d else a9 kvs k':=by
 unfold bW;by_cases h:(a9 kvs k).isSome=d7
 .rw[if_pos h,Xs];by_cases e:k'=k
  .rw[if_pos e,if_pos e,e];obtain⟨v,b⟩:=a6k.mp h;rw[b];rfl
  .rw[if_neg e,if_neg e]
 .rw[if_neg h];have a:kvs.find? (λp=>decide<|p.1=k)=none:=by
   unfold a9 at h;cases z:kvs.find? (λp=>decide<|p.1=k)with
   |none=>rfl|some v=>rw[z]at h;show absurd rfl h
  unfold a9;rw[a8D];by_cases e:k'=k
  .rw[if_pos e,e,a];simp
  .rw[if_neg e];cases kvs.find? (λp=>decide<|p.1=k')with
   |some v=>rfl|none=>rw[ZZ,decide_eq_false λz=>e z.symm];rfl
def B0 kvs k d:(bW kvs k d).length<=kvs.length+1:=by
 unfold bW;split
 .rw[Yu];lia
 .rw[YF];show YG _
structure SD(ν:Hm)(κ:Nat)(μ:Hm)(a:Nat)(kvs:jx)(F:Ed->List St):Prop where
 pre:ν<+:μ
 la:ν.length<=a/\ν.length<=κ/\κ<=μ.length
 dic:μ[a]?=b0 (.dT kvs)
 no:∀e,a9 kvs (a8 e)=b5->F e=[]
 ats:∀e d,a9 kvs (a8 e)=b0 d->∃l,d=.loc l/\κ<=l/\μ[l]?=b0 (.lst<|(F e).map aT)
 inj:∀e e' d,a9 kvs (a8 e)=b0 d->a9 kvs (a8 e')=b0 d->e=e'
def SD.more{μ':Hm}(h:SD ν κ μ a kvs F)(p:μ<+:μ'):SD ν κ μ' a kvs F:=⟨h.pre.trans p,⟨h.la.1,h.la.2.1,Zr h.la.2.2 p.length_le⟩,aJ p h.dic,h.no,λe d z=>(h.ats e d z).imp λl ⟨x,y,g⟩=>⟨x,y,aJ p g⟩,h.inj⟩
abbrev jJ(F:Ed->List St)(s:St):Ed->List St:=λx=>if x=s.1 then F x++[s]else F x
def SD.ne(h:SD ν κ μ a kvs F)(g:μ[l]?=b0 (.lst xs)):l≠a:=λz=>by have:=h.dic;rw[<- z,g]at this;cases this
def SD.old(h:SD ν κ μ a kvs F)(c:a9 kvs (a8 s.1)=b0 (.loc l)):SD ν κ (μ.set l<|.lst<|(F s.1).map aT++[aT s]) a kvs (jJ F s):=by
 obtain⟨p,e,j,g⟩:=h.ats _ _ c;cases e;show⟨dB h.pre (Zr h.la.2.1 j) _,⟨h.la.1,h.la.2.1,by rw[a0J];show h.la.2.2⟩,by rw[YW<|h.ne g];show h.dic,λe b=>?_,λe d b=>?_,h.inj⟩
 .unfold jJ;rw[if_neg λz=>by rw[z,c]at b;cases b];show h.no e b
 .unfold jJ;by_cases z:e=s.1
  .rw[if_pos z];rw[z,c]at b;cases b;show⟨l,rfl,j,by rw[cK g,z,YV];rfl⟩
  .rw[if_neg z];obtain⟨k,i,o,n⟩:=h.ats _ _ b;show⟨k,i,o,?_⟩;rw[YW λy:l=k=>z<|h.inj _ _ _ (by rw[b,i,y]) c];show n
def SD.new(h:SD ν κ μ a kvs F)(u:a9 kvs (a8 s.1)=b5):SD ν κ (((μ++[C.lst []]).set a<|.dT<|bW kvs (a8 s.1)<|.loc μ.length).set μ.length<|.lst [aT s]) a (bW kvs (a8 s.1)<|.loc μ.length) (jJ F s):=by
 have i:=aR μ<|C.lst [];have lt:a<μ.length:=(Yy.mp h.dic).1;have o:=h.pre.length_le;have A:=bB μ<|C.lst [];show⟨dB (dB (h.pre.trans i) h.la.1 _) o _,⟨h.la.1,h.la.2.1,by rw[a0J,a0J];show Zr h.la.2.2 i.length_le⟩,?_,λe b=>?_,λe d b=>?_,λe p d b c=>?_⟩
 .rw[YW<|by lia,cK<|aJ i h.dic]
 .rw[qR]at b;by_cases z:a8 e=a8 s.1
  .rw[if_pos z]at b;cases b
  .rw[if_neg z]at b;unfold jJ;rw[if_neg λy=>z<|congrArg a8 y];show h.no e b
 .rw[qR]at b;unfold jJ;by_cases z:a8 e=a8 s.1
  .rw[if_pos z]at b;cases b;rw[if_pos<|iR z];show⟨_,rfl,h.la.2.2,?_⟩;rw[ZH<|by rw[a0J,YF];show a0x _,iR z,h.no _ u];rfl
  .rw[if_neg z]at b;rw[if_neg λy=>z<|congrArg a8 y];obtain⟨n,k,r,g⟩:=h.ats _ _ b;show⟨n,k,r,?_⟩;have w:n<μ.length:=(Yy.mp g).1;rw[YW<|by lia,YW<|ZJ<|h.ne g];show aJ i g
 .have fresh:∀x,a9 kvs (a8 x)≠b0 (.loc μ.length):=λx v=>by obtain⟨n,k,_,g⟩:=h.ats _ _ v;cases k;show absurd (Yy.mp g).1<|a0f _
  rw[qR]at b c;by_cases z:a8 e=a8 s.1<;>by_cases j:a8 p=a8 s.1
  .show(iR z).trans (iR j).symm
  .rw[if_pos z]at b;rw[if_neg j]at c;cases b;show absurd c<|fresh _
  .rw[if_neg z]at b;rw[if_pos j]at c;cases c;show absurd b<|fresh _
  .rw[if_neg z]at b;rw[if_neg j]at c;show h.inj _ _ _ b c
def qS{kvs:jx}{f:D->List D->Hm->jk}{Q:jz}(d:c b μ=b0 (.loc a,μ))(hc:μ[a]?=b0 (.dT kvs))(h:W (ms b μ) λq=>W (f (.loc a) q.1 q.2) Q):W (iI f c ms b μ) Q:=by unfold iI;rw[d,Y9,show sG μ (.loc a)=d7 by simp only[sG,hc]];show W_bind.mpr h
def Iw(z:∀μ,aA i n μ=b0 (.loc a,μ))(h1:∀μ,p n μ=b0 (PP s.1,μ))(w:∀μ,r n μ=b0 (aT s,μ))(J:SD ν κ μ a kvs F)(A:(F s.1).length<=3000)(B:kvs.length<=3000)(H:∀μ' h,SD ν κ μ' a h (jJ F s)->h.length<=kvs.length+1->(∀b c,b<κ->b≠a->μ[b]?=b0 c->μ'[b]?=b0 c)->R (.nx,n,μ')):
  W (cW (c5 eI (iI gK (aA i)<|aB p<|aB (bZ aD) aD)<|aB r aD) n μ) R:=by
 have j:=aR μ<|C.lst [];have lt:a<μ.length:=(Yy.mp J.dic).1;show w_mDrop.mpr<|eM<|qS (z μ) J.dic<|aX ⟨_,h1 μ,aX ⟨_,rfl,_,rfl,?_⟩⟩;have v:=aJ j J.dic;cases k:a9 kvs (a8 s.1)with
 |some d=>
  obtain⟨l,rfl,E,g⟩:=J.ats _ _ k;have e:gK (.loc a) [PP s.1,.loc μ.length] (μ++[C.lst []])=b0 (.loc l,μ++[C.lst []]):=by simp only[gK,v,cT,Y9,k]
  show⟨_,e,dZ<|aJ j g,aX ⟨_,w _,_,rfl,(gO (aJ j g)<|by rw[Yu,Y2];lia).mpr<|H _ _ ((J.more j).old k) (a2m _) λb c y _ o=>?_⟩⟩;rw[YW<|by lia];show aJ j o
 |none=>
  have e:gK (.loc a) [PP s.1,.loc μ.length] (μ++[C.lst []])=b0 (.loc μ.length,(μ++[C.lst []]).set a<|.dT<|bW kvs (a8 s.1)<|.loc μ.length):=by simp only[gK,v,cT,Y9,k];rw[if_pos<|by rw[Y2];lia]
  have u:((μ++[C.lst []]).set a<|.dT<|bW kvs (a8 s.1)<|.loc μ.length)[μ.length]?=b0 (.lst []):=by rw[YW<|by lia];show bB _ _
  show⟨_,e,dZ u,aX ⟨_,w _,_,rfl,(gO u<|by decide).mpr<|H _ _ (J.new k) (B0 _ _ _) λb c y x o=>?_⟩⟩;have:=J.la.2.2;rw[YW<|by lia,YW<|ZJ x];show aJ j o
abbrev B1(l:List Int):Ed:=(l.getD 0 0,l.getD 1 0)
abbrev Xu(t:Ti):St:=(B1 t.1,B1 t.2.1,t.2.2.1,B1 t.2.2.2)
def Iy{a:Type}{l:List a}(h:i<l.length)d:l.getD i d∈l:=by rw[Y3,Yz h];show ZU h
def Iz(b:t∈gP m w h):∃p q a c,t=fR p q a c/\m p=d7/\m q=true:=by
 obtain⟨c,_,b⟩:=a3a.mp b;have d:∀{i:Nat},i<(bK m c).length->m ((bK m c).getD i (0,0))=true:=λe=>(ZL.mp<|Iy e (0,0)).2;unfold f6 at b;split at b
 .rename_i k;rw[YL.mp b];show⟨_,_,_,_,rfl,d<|by lia,d<|by lia⟩
 .obtain⟨i,e,b⟩:=a3a.mp b;have e:=ZR.mp e;have j:0<(bK m c).length:=by lia
  unfold gX at b;split at b
  .unfold jH at b;rcases Zm.mp b with rfl|b
   .show⟨_,_,_,_,rfl,d e,d<|a2l _ j⟩
   .split at b
    .rename_i g;rw[YL.mp b];show⟨_,_,_,_,rfl,d<|by rw[g];show a2l _<|by decide,d<|by rw[g];show a2l _<|by decide⟩
    .cases b
  .cases b
def Xv p q:c8 p q=p\/c8 p q=q:=by
 unfold c8;split
 .show .inr rfl
 .show .inl rfl
def Xw p q:c9 p q=p\/c9 p q=q:=by
 unfold c9;split
 .show .inr rfl
 .show .inl rfl
def xE p q:HT.lexLt (cU p) (cU q)=d7↔p.1<q.1\/p.1=q.1/\p.2<q.2:=by
 unfold cU;simp only[HT.lexLt];by_cases a:p.1<q.1
 .simp[a];lia
 .by_cases b:q.1<p.1
  .simp[a,b];lia
  .have:p.1=q.1:=by lia
   simp[this];lia
def XA(h:HT.lexLt (cU p) (cU q)=d7):HT.lexLt (cU q) (cU p)=false:=by
 cases z:HT.lexLt (cU q) (cU p)with
 |false=>rfl|true=>have:=(xE _ _).mp h;have:=(xE _ _).mp z;lia
def XB(h:HT.lexLt (cU p) (cU q)=dI)(g:HT.lexLt (cU q) (cU p)=dI):p=q:=by have h:¬ _:=λz=>YE<|h.symm.trans<|(xE p q).mpr z;have g:¬ _:=λz=>YE<|g.symm.trans<|(xE q p).mpr z;show a4b nofun<|by omega
def XC p q:c8 (c8 p q) (c9 p q)=c8 p q/\c9 (c8 p q) (c9 p q)=c9 p q/\c8 (c9 p q) (c8 p q)=c8 p q/\c9 (c9 p q) (c8 p q)=c9 p q:=by
 cases h:HT.lexLt (cU q) (cU p)with
 |true=>simp only[c8,c9,h,XA h,if_true,Zf,if_false,and_self]|false=>
  cases g:HT.lexLt (cU p) (cU q)with
  |true=>simp only[c8,c9,h,g,if_true,Zf,if_false,and_self]|false=>cases XB g h;simp only[c8,c9,h,Zf,if_false,and_self]
abbrev TT(ms:List ((Int×Int)×Str))(w h:Int):List St:=(j7<|gP (aP ms) w h).map Xu
def IA(h:t∈j7 ts):t∈ts:=by unfold j7 at h;obtain⟨i,a,rfl⟩:=YO.mp h;show Iy (ZR.mp<|(iF _ _).mem_iff.mp a) _
def XD ts:(j7 ts).length=ts.length:=by unfold j7;rw[Yu,(iF _ _).length_eq,a0e]
def IB(hw:1<=w/\w<=6)(a:1<=h/\h<=6)ms:(TT ms w h).length<=1000:=by unfold TT;rw[Yu,XD];have b:=l9 (wZ<|aP ms)<|bP w h;have c:=HK w (nK hw) h<|nK a;unfold gP;lia
def IC ms w h:(j7<|gP (aP ms) w h).map bU=(TT ms w h).map aT:=by unfold TT;rw[Y0];show a0n λt b=>?_;obtain⟨p,q,a,c,rfl,_,_⟩:=Iz<|IA b;rfl
def ID(h:aP ms p=d7):p∈ms.map (·.1):=by obtain⟨x,a,e⟩:=a3c.mp h;rw[<- beq_iff_eq.mp e];show a
def xF(g:t∈TT ms w h):(t.1∈ms.map (·.1)/\t.2.1∈ms.map (·.1))/\(c8 t.1 t.2.1=t.1/\c9 t.1 t.2.1=t.2.1/\c8 t.2.1 t.1=t.1/\c9 t.2.1 t.1=t.2.1):=by
 obtain⟨u,i,rfl⟩:=YO.mp g;obtain⟨p,q,a,c,rfl,b,d⟩:=Iz<|IA i;have b:=ID b;have d:=ID d;show⟨⟨?_,?_⟩,XC p q⟩
 .change c8 p q∈_;rcases Xv p q with e|e<;>rw[e]<;>assumption
 .change c9 p q∈_;rcases Xw p q with e|e<;>rw[e]<;>assumption
def IE k s a:f (k+1) "walked_back" [aT s] a=b0 (aT<|fF s,a):=(UW k _ a).trans<|by kernel_rfl
def XE T t:b7 (T++[t])=jJ (jJ (b7 T) t) (fF t):=by
 funext e;unfold b7 jJ;rw[a1L,a5i,List.flatMap_nil,Zt];change _=if e=t.2.1 then _ else _
 by_cases a:t.1=e<;>by_cases b:t.2.1=e
 .rw[if_pos a,if_pos b,if_pos b.symm,if_pos a.symm,YQ]
 .rw[if_pos a,if_neg b,if_neg<|ZJ b,if_pos a.symm,Zt]
 .rw[if_neg a,if_pos b,if_pos b.symm,if_neg<|ZJ a,a1i]
 .rw[if_neg a,if_neg b,if_neg<|ZJ b,if_neg<|ZJ a,Zt,Zt]
def XF T e:(b7 T e).length<=2*T.length:=by show l9 (λt=>?_) T;rw[YF];split<;>split<;>simp
inductive SfI (d0:Option D)(ν:Hm)(κ a b:Nat)(T:List St):Nat->aF->Hm->Prop
 |mk {i:Nat}{kvs:jx}{x:Option D}{μ:Hm}(J:SD ν κ μ a kvs (b7<|T.take i))(hk:kvs.length<=2*i)(gb:μ[b]?=b0 (.lst<|T.map aT)):SfI d0 ν κ a b T i [d0,b0<|.loc a,x] μ
def tT{T:List St}{i:Nat}(h:(T.map aT)[i]?=b0 d):∃s,T[i]?=b0 s/\aT s=d:=by rw[YU]at h;show YB.mp h
def XG k(hw:1<=w/\w<=6)(A:1<=h/\h<=6)(M:(bP w h).find? (dH<|aP ms)=b5)(U:mX (gP (aP ms) w h))c(Q:jz)(H:∀κ μ' a kvs,SD c κ μ' a kvs (b7<|TT ms w h)->Q (.loc a,μ')):W (f (k+9) "steps_from" [SH w h ms] c) Q:=by
 have L:=IB hw A ms;show bS (UX (k+8) _ c)<|aS<|w_mDNewT.mpr<|dN<|w_mForI.mpr<|w_iSeq.mpr<|aK rfl<|V0 (k+1) hw A M U _ _ λb l G s j=>?_;rw[IC]at j;generalize TT ms w h=T at L j H;have r:=aJ G<|bB c<|C.dT [];have v:b≠c.length:=λz=>by rw[z,r]at j;cases j
 have s:b<l.length:=(Yy.mp j).1;have lm:c.length<l.length:=(Yy.mp r).1;show(cN j).mpr<|fP (SfI (b0<|SH w h ms) c l.length c.length b T) (.mk (kvs:=[]) ⟨(aR _ _).trans G,⟨YG _,by lia,YG _⟩,r,λ_ _=>rfl,λ_ _ z=>(nomatch z),λ_ _ _ z=>(nomatch z)⟩ (YG _) j) (by rintro _ _ _ ⟨_,_,g⟩;show g) ?_ ?_
 .rintro i d _ u hd ⟨J,N,y⟩;obtain⟨t,B,rfl⟩:=tT hd;have Z:=(Yy.mp B).1;have x:∀e,(b7 (T.take i) e).length<=2000:=λe=>by have:=XF (T.take i) e;rw[Zb]at this;lia
  show⟨_,rfl,dN<|Iw (i:=1) (s:=t) (λ_=>rfl) (λ_=>rfl) (λ_=>rfl) J (Zr (x _)<|by decide) ⋯ λX E I O o=>⟨rfl,Iw (i:=1) (s:=fF t) (λ_=>rfl) (λ_=>rfl) (λμ'=>oZ rfl<|IE (k+7) t μ') I ?_ ⋯ λY n K R p=>.mk (kvs:=n) ?_ ⋯<|p _ _ s v<|o _ _ s v y⟩⟩
  .change(jJ _ t _).length<=_;unfold jJ;have:=x (fF t).1;split
   .rw[YF];change _+1<=_;lia
   .lia
  .rw[e8 B,XE];show K
 .rintro _ u ⟨J,N,y⟩;rw[Yu,Zp]at J;show⟨rfl,bT ⟨_,rfl,H _ _ _ _ J⟩⟩
abbrev cA(s:Str):Bool:=(kK Ba<|.inr s).isSome
def B2 k s a:f (k+1) "is_marked" [.str s] a=b0 (.bl<|cA s,a):=(UY k _ a).trans<|by kernel_rfl
abbrev hG(ms:List ((Int×Int)×Str)):List Ed:=(ms.filter λm=>cA m.2).map (·.1)
def XH k(n:ms.length<=1000)(g:Hm)(Q:jz)(H:∀a μ',g<+:μ'->μ'[a]?=b0 (.lst<|(hG ms).map PP)->Q (.loc a,μ')):W (f (k+2) "marked_creases" [SH w h ms] g) Q:=by
 show bS (UZ (k+1) _ g)<|bT<|tE (xs:=ms.map MD) (x:=λd=>match d with|.tup [a,b]=>[b0 a,b0 b]|_=>[]) (p:=λd=>match d with|.tup [_,.str s]=>cA s|_=>dI) (v:=λd=>match d with|.tup [a,_]=>a|_=>.non)<|w_iSeq.mpr<|bA rfl rfl<|w_it32.mpr ⟨_,rfl,λμ' i c=>rfl,rfl,by rw[Yu,Y2];lia,λd μ' hd=>?_,λd μ' hd c=>?_,λd μ' hd _ c=>?_,λμ' c l=>H _ _ c ?_⟩
 .obtain⟨e,j,rfl⟩:=YO.mp hd;rfl
 .obtain⟨e,j,rfl⟩:=YO.mp hd;show d9<|aK rfl<|aY (B2 k e.2 μ') ⟨rfl,rfl,YS _⟩
 .obtain⟨e,j,rfl⟩:=YO.mp hd;show⟨_,rfl,rfl,YS _⟩
 .rw[l,a1T,Y0];unfold hG;rw[Y0];rfl
abbrev rD:Option St->D
 |none=>.non|some s=>aT s
abbrev cH(R:List (Ed×Option St)):jx:=R.map λr=>(a8 r.1,rD r.2)
def IF R:(cH R).map (·.1)=(R.map (·.1)).map a8:=by unfold cH;rw[Y0,Y0];rfl
def B3(nd:(R.map (·.1)).Nodup){e:Ed}(h:(e,o)∈R):a9 (cH R) (a8 e)=b0 (rD o):=BP (by rw[IF];show a4p _ (λa b c x=>c<|iR x) nd)<|YO.mpr ⟨_,h,rfl⟩
def IG{e:Ed}(h:e∉R.map (·.1)):a9 (cH R) (a8 e)=none:=by
 unfold a9;rw[a0V.mpr]
 .rfl
 .intro x a;obtain⟨z,b,rfl⟩:=YO.mp a;rw[decide_eq_true_iff];show λy=>h<|iR y▸YO.mpr ⟨z,b,rfl⟩
def IH{e:Ed}(h:e∉R.map (·.1)):bW (cH R) (a8 e) (rD o)=cH (R++[(e,o)]):=by unfold bW;rw[IG h,if_neg<|by simp];unfold cH;rw[YV];rfl
abbrev qT(st a r:Nat)(x:Option D)(q:Nat)(h s:Option D):aF:=[b0<|.loc st,b0<|.loc a,b0<|.loc r,x,b0<|.loc q,h,s]
inductive LsJ (T:List St)(M U:List Ed)(μ0:Hm)(r q n:Nat)(R:List (Ed×Option St))(μ:Hm):Prop
 |mk (rc:Rc T M R)(hC:∀e∈R.map (·.1),e∈U)(p:μ0<+:μ)(hr:μ0.length<=r)(hq:μ0.length<=q)(gr:μ[r]?=b0 (.dT<|cH R))(gq:μ[q]?=b0 (.lst<|((R.drop n).map (·.1)).map PP))
def XI(hM:M.Nodup)(hC:U.length<=600)(L:∀t∈T,t.1∈U/\t.2.1∈U)(hn:n<=R.length)(J:LsJ T M U u r q n R k)(N:s∈b7 T s.1)(h1:s.1∈R.map (·.1))(H:∀w d,(∃l,w=R++l)->LsJ T M U u r q n w d->s.2.1∈w.map (·.1)->(∀b c,b≠r->b≠q->k[b]?=b0 c->d[b]?=b0 c)->Q (.nx,qT st Y r x q h<|b0<|aT s,d)):W (Bm (qT st Y r x q h<|b0<|aT s) k) Q:=by
 obtain⟨I,G,p,B,A,i,v⟩:=J;have nd:=I.nd hM;have rl:R.length<=600:=by have:=a0T nd G;rw[Yu]at this;lia
 have X:q≠r:=λz=>by rw[z,i]at v;cases v
 show w_mIfS.mpr<|b9<|bA rfl rfl<|(wQ i<|cT s.2.1).mpr ⟨_,rfl,?_⟩;by_cases j:s.2.1∈R.map (·.1)
 .obtain⟨⟨e,o⟩,a,O⟩:=YO.mp j;dsimp only at O;subst O;rw[B3 nd a];show(if_neg YE).mpr<|w_mNext.mpr<|H R k ⟨[],(Zt _).symm⟩ ⟨I,G,p,B,A,i,v⟩ j λ_ _ _ _ g=>g
 .rw[IG j];show(if_pos rfl).mpr (w_mSeq.mpr<|w_mPut.mpr ⟨_,rfl,_,rfl,_,rfl,(nH i (cT s.2.1)<|by unfold cH;rw[Yu,Y2];lia).mpr ?_⟩);have y:(k.set r<|.dT<|bW (cH R) (a8 s.2.1)<|aT s)[q]?=b0 (.lst<|((R.drop n).map (·.1)).map PP):=by rw[YW<|ZJ X];show v
  show w_mDrop.mpr (eM ⟨_,rfl,dZ y,_,rfl,(gO y<|by rw[Yu,Yu,Z5,Y2];omega).mpr ?_⟩);have K:=Rc.sn I N h1 j;show H (R++[(s.2.1,b0 s)]) _ ⟨_,rfl⟩ ⟨K,λe a=>?_,dB (dB p B _) A _,B,A,?_,?_⟩ (by rw[YV];show YN.mpr<|.inr<|.head _) λb c Z b2 g=>?_
  .rw[YV]at a;rcases YN.mp a with a|a
   .show G e a
   .rw[YL.mp a];rcases(fr_mem.mp N).2 with E|E
    .show(L _ E).2
    .show(L _ E).1
  .rw[YW X,cK i];show congrArg (λz=>b0<|C.dT z)<|IH (o:=b0 s) j
  .rw[cK y,a3m hn,YV,YV];rfl
  .rw[YW<|ZJ b2,YW<|ZJ Z];show g
inductive LqI (T:List St)(M U:List Ed)(μ0:Hm)(st ss r q n l:Nat)(h:Option D)(e:Ed)(R:List (Ed×Option St)):Nat->aF->Hm->Prop
 |mk {i:Nat}{x s:Option D}{R':List (Ed×Option St)}{μ:Hm}(J:LsJ T M U μ0 r q (n+1) R' μ)(ex:∃l,R'=R++l)(cl:∀t∈(b7 T e).take i,t.2.1∈R'.map (·.1))(gl:μ[l]?=b0 (.lst<|(b7 T e).map aT)):LqI T M U μ0 st ss r q n l h e R i (qT st ss r x q h s) μ
inductive LwI (T:List St)(M U:List Ed)(μ0:Hm)(st ss r q:Nat):Nat->aF->Hm->Prop
 |mk {m n:Nat}{x h s:Option D}{R:List (Ed×Option St)}{μ:Hm}(J:LsJ T M U μ0 r q n R μ)(hm:m+n=1700)(hn:n<=R.length)(cl:∀e∈(R.take n).map (·.1),∀t∈b7 T e,t.2.1∈R.map (·.1)):LwI T M U μ0 st ss r q m (qT st ss r x q h s) μ
def XJ{Q:jz}(h:b[a]?=b0 (.lst xs))(g:0<=i/\i<1000)(c:xs[i.toNat]?=b0 d):W (oA (.loc a) [.int i] b) Q↔Q (d,b.set a<|.lst<|xs.eraseIdx i.toNat):=by
 have e:oA (.loc a) [.int i] b=b0 (d,b.set a<|.lst<|xs.eraseIdx i.toNat):=by simp only[oA,h];rw[if_pos<|by lia,c];rfl
 rw[e];show W_some
def XM(hM:M.Nodup)(hU:U.length<=600)(hT:∀t∈T,t.1∈U/\t.2.1∈U)(hl:T.length<=1000)(S:SD ν κ b st kvs (b7 T))(J:LsJ T M U b r q n R K)(hm:m+n=1700)(X:n<R.length)(cl:∀e∈(R.take n).map (·.1),∀t∈b7 T e,t.2.1∈R.map (·.1)):
  W (Bn (qT st I r x q h s) K) λp=>p.1=.nx/\∃H,H<m/\LwI T M U b st I r q H p.2.1 p.2.2:=by
 obtain⟨rc,rC,p,hr,hq,gr,v⟩:=J;have nd:=rc.nd hM;have rl:R.length<=600:=by have:=a0T nd rC;rw[Yu]at this;lia
 have rq:q≠r:=λz=>by rw[z,gr]at v;cases v
 rw[a0h X,Za,Za]at v;have E:R[n]∈R:=ZU X;have G:R.take (n+1)=R.take n++[R[n]]:=by rw[a1r,Yz X];rfl
 generalize R[n]=en at v E G;show aS (eM ⟨_,rfl,dZ v,_,rfl,(XJ v ⋯ rfl).mpr ?_⟩);have w:=cK (c':=C.lst (((R.drop<|n+1).map (·.1)).map PP)) v;have y:(K.set q<|C.lst<|((R.drop<|n+1).map (·.1)).map PP)[r]?=b0 (.dT<|cH R):=by rw[YW rq];show gr
 have O:=dB (c:=C.lst (((R.drop<|n+1).map (·.1)).map PP)) p hq;change W (b8 _ _ _ _<|K.set q<|C.lst<|((R.drop<|n+1).map (·.1)).map PP) _;generalize K.set q (C.lst<|((R.drop<|n+1).map (·.1)).map PP)=μ1 at w y O ⊢;have L:=S.more O;have he:en.1∈R.map (·.1):=YO.mpr ⟨_,E,rfl⟩;have o:∀l k,μ1<+:k->l≠r->l≠q->k[l]?=b0 (.lst<|(b7 T en.1).map aT)->W (eQ (dQ<|.loc l) (cC 6) Bm (((b7 T en.1).map aT).length+1) 0 (qT st I r x q (b0<|PP en.1) s) k) λp=>p.1=.nx/\∃H,H<m/\LwI T M U b st I r q H p.2.1 p.2.2:=λl k j l1 l2 gl=>by
  show fP (LqI T M U b st I r q n l (b0<|PP en.1) en.1 R) (.mk (R':=R) ⟨rc,rC,O.trans j,hr,hq,aJ j y,aJ j w⟩ ⟨[],(Zt _).symm⟩ (λ_ z=>by rw[ZG]at z;cases z) gl) (by rintro _ _ _ ⟨_,_,_,g⟩;show g) ?_ ?_
  .rintro i d _ Z hd ⟨J,⟨l',rfl⟩,c,g⟩;obtain⟨t,A,rfl⟩:=tT hd;have hf:=YZ A;have e1:=(fr_mem.mp hf).1;show⟨_,rfl,XI hM hU hT (by rw[YF];lia) J (by rw[e1];show hf) (by rw[e1,YV];show YN.mpr<|.inl he) λR' μ' ⟨Y,e2⟩ J' hs fr=>.mk J' ⟨l'++Y,by rw[e2,YQ]⟩ (λu B=>?_)<|fr _ _ l1 l2 g⟩;rw[e8 A]at B;rcases YN.mp B with B|B
   .rw[e2,YV];show YN.mpr<|.inl<|c u B
   .rw[YL.mp B];show hs
  .rintro _ Z ⟨J,⟨l',rfl⟩,c,g⟩;rw[Yu,Zp]at c;show⟨rfl,m-1,by lia,.mk (n:=n+1) J ⋯ (by rw[YF];lia) λe a t A=>?_⟩;rw[a3i<|by lia,G,YV]at a;rcases YN.mp a with a|a
   .rw[YV];show YN.mpr<|.inl<|cl e a t A
   .rw[YL.mp a]at A;show c t A
 have lr:=L.dic;show w_mForI.mpr<|w_iSeq.mpr<|qS (a:=st) rfl L.dic<|aX ⟨_,rfl,aX ⟨_,rfl,_,rfl,?_⟩⟩;have j:=aR μ1<|C.lst [];cases N:a9 kvs (a8 en.1)with
 |some d=>
  obtain⟨l,rfl,_,g0⟩:=S.ats _ _ N;have l0:l<b.length:=(Yy.mp g0).1;have Q:iJ (.loc st) [PP en.1,.loc μ1.length] (μ1++[C.lst []])=b0 (.loc l,μ1++[C.lst []]):=by simp only[iJ,aJ j L.dic,cT,Zh,N,a7X]
  have gl:=aJ (O.trans j) g0;show⟨_,Q,(cN gl).mpr<|o l _ j ⋯ ⋯ gl⟩
 |none=>
  have Q:iJ (.loc st) [PP en.1,.loc μ1.length] (μ1++[C.lst []])=b0 (.loc μ1.length,μ1++[C.lst []]):=by simp only[iJ,aJ j L.dic,cT,Zh,N,a3U]
  have gl:(μ1++[C.lst []])[μ1.length]?=b0 (.lst<|(b7 T en.1).map aT):=by rw[S.no _ N];show bB _ _
  have b1:r<μ1.length:=(Yy.mp y).1;have b2:q<μ1.length:=(Yy.mp w).1;show⟨_,Q,(cN gl).mpr<|o _ _ j ⋯ ⋯ gl⟩
inductive L0I (d0 d1:Option D)(ν:Hm)(r:Nat)(M:List Ed):Nat->aF->Hm->Prop
 |mk {i:Nat}{x:Option D}{μ:Hm}(p:ν<+:μ)(g:μ[r]?=b0 (.dT<|cH<|(M.take i).map λe=>(e,b5))):L0I d0 d1 ν r M i [d0,d1,b0<|.loc r,x,b5,b5,b5] μ
inductive Rch (T:List St)(M U:List Ed)(R:List (Ed×Option St)):Prop
 |mk (rc:Rc T M R)(hU:∀e∈R.map (·.1),e∈U)(cl:∀e∈R.map (·.1),∀t∈b7 T e,t.2.1∈R.map (·.1))
def II k(o:M.Nodup)(A:U.length<=600)(I:∀e∈M,e∈U)(Z:∀t∈T,t.1∈U/\t.2.1∈U)(hl:T.length<=1000)(S:SD ν κ a st kvs (b7 T))(gs:a[j]?=b0 (.lst<|M.map PP))(Q:jz)(H:∀r c R,a<+:c->a.length<=r->c[r]?=b0 (.dT<|cH R)->Rch T M U R->Q (.loc r,c)):W (f (k+1) "last_steps" [.loc st,.loc j] a) Q:=by
 have ml:M.length<=600:=Zr (a0T o I) A;have K:=aR a<|C.dT [];show bS (U0 k _ _ a)<|aS<|w_mDNewT.mpr<|dN<|w_mForI.mpr<|w_iSeq.mpr ⟨_,rfl,(cN<|aJ K gs).mpr ?_⟩;show fP (L0I (b0<|.loc st) (b0<|.loc j) a a.length M) (.mk K<|by rw[ZG];show bB _ _) (by rintro _ _ _ ⟨p,_⟩;show aJ p gs) ?_ ?_
 .rintro i d _ b hd ⟨p,g⟩;obtain⟨z,G,rfl⟩:=jG hd;show⟨_,rfl,w_mPut.mpr ⟨_,rfl,_,rfl,_,rfl,(nH g (cT z)<|by unfold cH;rw[Yu,Yu,Zb,Y2];lia).mpr<|.mk (dB p (YG _) _) ?_⟩⟩;rw[cK g,e8 G,YV];show congrArg (λy=>b0<|C.dT y)<|IH (o:=b5)<|by rw[tS];show oY o G
 .rintro _ b ⟨p,g⟩;rw[Yu,Zp]at g;show⟨rfl,aS<|aK rfl<|(Uk<|aJ p gs).mpr<|dN ?_⟩;have L:=aR b<|C.lst<|M.map PP;have J:LsJ T M U a a.length b.length 0 (M.map λe=>(e,b5)) (b++[C.lst<|M.map PP]):=⟨.st,by rw[tS];show I,p.trans L,YG _,p.length_le,aJ L g,by rw[a1a,tS];show bB _ _⟩;show BW (b:=Bn) (LwI T M U a st j a.length b.length) 1700 (by decide) (.mk (n:=0) J rfl (a0d _) λe B=>by rw[ZG]at B;cases B) ?_;rintro m _ u ⟨J,hm,hn,cl⟩;rename_i n x h s R;obtain⟨X,O,N,hr,hq,w,v⟩:=J;have Y:mN u (.loc b.length)=b0 (!(((R.drop n).map (·.1)).map PP).isEmpty):=by simp only[mN,v]
  show w_mTru.mpr ⟨_,rfl,_,Y,?_⟩;by_cases hd:n<R.length
  .have l:(((R.drop n).map (·.1)).map PP).isEmpty=false:=by rw[a0h hd];rfl
   rw[l];show(if_pos rfl).mpr<|bN (XM o A Z hl S ⟨X,O,N,hr,hq,w,v⟩ hm hd cl) λp E=>?_;rw[E.1];show E.2
  .have l:(((R.drop n).map (·.1)).map PP).isEmpty=true:=by rw[List.drop_eq_nil_of_le<|by lia];rfl
   rw[l];rw[Z6<|by lia]at cl;show(if_neg YE).mpr ⟨rfl,bT ⟨_,rfl,H _ _ R N (YG _) w ⟨X,O,cl⟩⟩⟩
abbrev qU(T:List St)(q:Ed->Int):Prop:=∀t∈T,(q t.1+q t.2.1+dA t.2.2.1)%2=0
abbrev tU(R:List (Ed×Option St))(q:Ed->Int):Prop:=∀x∈R,match x.2 with|none=>q x.1%2=0|some s=>(q x.1+q s.1+dA s.2.2.1)%2=0
def Rc.q(h:Rc T M R):∃q,tU R q:=by
 induction h with
 |st=>show⟨λ_=>0,λx a=>by
   obtain⟨e,_,rfl⟩:=YO.mp a;rfl⟩
 |@sn R s h l g c k=>
  obtain⟨q,j⟩:=k;have i:s.1≠s.2.1:=λz=>c<|z▸g;show⟨λe=>if e=s.2.1 then q s.1+dA s.2.2.1 else q e,λx a=>?_⟩;rcases YN.mp a with a|a
  .have b:x.1≠s.2.1:=λz=>c<|z▸YO.mpr ⟨x,a,rfl⟩;have:=j x a;obtain⟨e,o⟩:=x;cases o with
   |none=>dsimp only at this b ⊢;rw[if_neg b];show this|some t=>have d:t.1≠s.2.1:=λz=>c<|z▸(h.up _ _ a).2.2.1;dsimp only at this b ⊢;rw[if_neg b,if_neg d];show this
  .rw[YL.mp a];dsimp only;rw[if_pos rfl,if_neg i];lia
def B4 a b:cF (a++b)=cF a+cF b:=by unfold cF;rw[a1u,YF]
def IJ s:(cF [s]:Int)=dA s.2.2.1:=by unfold cF dA;rw[a3b];cases s.2.2.1<;>rfl
def XN w:cF (w.reverse.map fF)=cF w:=by unfold cF;rw[a1T,Yu,a7N,ZP];rfl
def XO w:cF w.reverse=cF w:=by unfold cF;rw[a7N,ZP]
def Rc.m(h:Rc T M R):∀e∈M,(e,b5)∈R:=by
 induction h with
 |st=>show λe a=>YO.mpr ⟨e,a,rfl⟩|sn h g c d b=>show λe a=>YN.mpr<|.inl<|b e a
abbrev Dc(b:Hm)(a:Nat)(kvs:jx):Prop:=b[a]?=b0 (.dT kvs)\/b[a]?=b0 (.dF kvs)
def Dc.more{μ':Hm}(I:Dc b a kvs)(h:b<+:μ'):Dc μ' a kvs:=I.elim (λe=>.inl<|aJ h e) λe=>.inr<|aJ h e
def IK(h:Dc b a kvs)(c:cY y=b0 k)(e:a9 kvs k=b0 d):aE (.loc a) y b=b0 (d,b):=by rcases h with h|h<;>simp only[aE,h,c,Y9,e,Zh]
def Dc.set(I:Dc d a kvs)(h:b≠a):Dc (d.set b c) a kvs:=I.elim (λe=>.inl<|by rw[YW h];show e) λe=>.inr<|by rw[YW h];show e
def Dc.lt{b:Hm}{a:Nat}{kvs:jx}(I:Dc b a kvs):a<b.length:=I.elim (λe=>(Yy.mp e).1) λe=>(Yy.mp e).1
inductive WbI (T:List St)(M:List Ed)(R:List (Ed×Option St))(ν:Hm)(r l:Nat)(e:Ed):Nat->aF->Hm->Prop
 |mk {m:Nat}{x:Ed}{o:Option St}{acc:List St}{μ:Hm}(p:ν<+:μ)(g:μ[l]?=b0 (.lst<|acc.map aT))(hx:(x,o)∈R)(hw:Wy T x acc.reverse e)(hm:m=(R.map (·.1)).idxOf x)(ha:acc.length+m<=600)(hq:∀q,tU R q->((cF acc:Int)+q x+q e)%2=0):WbI T M R ν r l e m [b0<|.loc r,b0<|PP e,b0<|.loc l,b0<|rD o] μ
def B5 k(X:M.Nodup)(hU:U.length<=600)(Y:Rch T M U R)(j:Dc a r (cH R))(B:e∈R.map (·.1))(Q:jz)(H:∀l b w m,a<+:b->b[l]?=b0 (.lst<|w.map aT)->m∈M->Wy T m w e->w.length<=600->(∀q,tU R q->((cF w:Int)+q e)%2=0)->Q (.loc l,b)):W (f (k+1) "way_by" [.loc r,PP e] a) Q:=by
 obtain⟨L,rU,cl⟩:=Y;have nd:=L.nd X;have rl:R.length<=600:=by have:=a0T nd rU;rw[Yu]at this;lia
 obtain⟨⟨x,o⟩,G,v⟩:=YO.mp B;dsimp only at v;subst v;have K:=aR a<|C.lst [];have ll:r<a.length:=j.lt;show bS (U1 k _ _ a)<|aS ⟨_,rfl,aS<|bA rfl rfl ⟨_,IK (j.more K) (cT x)<|B3 nd G,dN ?_⟩⟩;have ix:=a6F.mpr B;rw[Yu]at ix;show BW (WbI T M R a r a.length x) ((R.map (·.1)).idxOf x) ⋯ (.mk (acc:=[]) K (bB _ _) G (.nil _) rfl (by change 0+_<=_;lia) λq _=>by change(((0:Nat):Int)+_+_)%2=0;lia) ?_;rintro m _ i ⟨p,g,u,hw,Z,ha,E⟩;rename_i y oy c;have up:=L.up _ _ u;cases oy with
 |none=>show b9<|bA rfl rfl<|w_isnotNN.mpr ⟨_,rfl,(if_neg YE).mpr ⟨rfl,bT<|aK rfl<|(Ul g).mpr ?_⟩⟩;rw[<- a8K];show H _ _ _ y (p.trans<|aR _ _) (bB _ _) up hw (by rw[ZP];lia) λq h=>by have N:=E q h;have O:q y%2=0:=h _ u;rw[XO];lia
 |some s=>
  obtain⟨u1,u2,u3,u4⟩:=up;obtain⟨⟨z,oz⟩,I,A⟩:=YO.mp u3;dsimp only at A;subst A;show b9 (bA rfl rfl<|w_isnotTN.mpr ⟨_,rfl,(if_pos rfl).mpr<|l7<|eM ⟨_,rfl,dZ g,_,rfl,(gO g<|by rw[Yu,Y2];lia).mpr ?_⟩⟩);have n:Dc (i.set a.length<|.lst<|c.map aT++[aT s]) r (cH R):=(j.more p).set ⋯;show w_mSet.mpr (aM ⟨_,rfl,bA rfl rfl ⟨_,rfl,_,IK n (cT s.1)<|B3 nd I,_,by rw[Z];show u4,?_⟩⟩);have d:WbI T M R a r a.length x ((R.map (·.1)).idxOf s.1) [b0<|.loc r,b0<|PP x,b0<|.loc a.length,b0<|rD oz] (i.set a.length<|.lst<|(c++[s]).map aT):=by
   show .mk (dB p (YG _) _) (cK g) I ?_ rfl (by rw[YF];change _+1+_<=_;lia) λq h=>?_
   .rw[List.reverse_append];show .cons u2<|u1▸hw
   .have N:=E q h;have O:(q y+q s.1+dA s.2.2.1)%2=0:=h _ u;have h3:=IJ s;rw[B4];lia
  rw[YV]at d;show d
abbrev xG:D->Bool
 |.tup [_,_,.bl b,_]=>!b|_=>dI
def IL k(h:w.length<=3000){a:Hm}(g:a[l]?=b0 (.lst<|w.map aT))(Q:jz)(H:∀μ',a<+:μ'->Q (.bl<|(cF w:Int)%2==0,μ')):W (f (k+1) "is_alike" [.loc l] a) Q:=by
 show bS (U2 k _ a)<|bT<|aM<|aM<|eV<|aX<|fY (xs:=w.map aT) (p:=xG) (v:=λd=>d)<|w_iSeq.mpr ⟨_,rfl,(cN g).mpr ⟨iL g,rfl,by rw[Yu,Y2];lia,λd μ' hd b=>?_,λd μ' hd _ b=>⟨_,rfl,rfl,YS _⟩,λμ' b c=>⟨_,rfl,(d8 c).mpr ⟨_,rfl,(dM<|by decide).mpr ⟨_,rfl,w_eqI.mpr ?_⟩⟩⟩⟩⟩
 .obtain⟨s,i,rfl⟩:=YO.mp hd;show jF<|d9<|bA rfl rfl ⟨_,rfl,rfl,rfl,YS _⟩
 .have e:(((w.map aT).filter xG).map λd=>d).length=cF w:=by rw[Yu,a1T,Yu];rfl
  rw[e];show H _ b
def IM:∀l ps,((ps++l).map (·.1)).Nodup->(l.map λm=>(a8 m.1,D.str m.2)).foldl (λq p=>bW q p.1 p.2) (cD ps)=cD (ps++l)
 |[],ps,_=>by rw[Zt];rfl
 |m::l,ps,h=>by
  rw[Za,a5P];have a:m.1∉ps.map (·.1):=λz=>by rw[YV,Za]at h;show(a0D.mp h).2.2 _ z _ (.head _) rfl
  rw[BZ a,IM l (ps++[m])<|by rw[YQ];show h,YQ];rfl
def XQ k(nd:(ms.map (·.1)).Nodup)a:f (k+1) "marks_in" [SH w h ms] a=b0 (.loc a.length,a++[.dT<|cD ms]):=tR (G4 k _ a)<|bF<|aK rfl<|w_dict.mpr<|by
 rw[show(ms.map λm=>(a8 m.1,D.str m.2)).foldl (λq p=>bW q p.1 p.2) []=_ from IM ms [] nd];rfl
def IP(nd:(ms.map (·.1)).Nodup)(h:m∈ms):a9 (cD ms) (a8 m.1)=b0 (.str m.2):=BP (by
 unfold cD;rw[Y0];have:((ms.map (·.1)).map a8).Nodup:=a4p _ (λa b c x=>c<|iR x) nd;rw[Y0]at this;show this)<|YO.mpr ⟨_,h,rfl⟩
def o7{s:Str}(ok:s="o"\/s="h"\/s="v") (h:cA s=d7):s="h"\/s="v":=ok.resolve_left λz=>by rw[z]at h;revert h;decide +kernel
def Wy.hd:Wy T x (s::w) e->x=s.1
 |.cons _ _=>rfl
def Wy.nl:Wy T x [] e->x=e
 |.nil _=>rfl
def mkd_mem:x∈hG ms↔∃m∈ms,cA m.2=d7/\m.1=x:=by
 unfold hG;rw[YO];constructor
 .rintro⟨m,a,e⟩;show⟨m,(ZL.mp a).1,(ZL.mp a).2,e⟩
 .rintro⟨m,a,b,e⟩;show⟨m,ZL.mpr ⟨a,b⟩,e⟩
def xH a p q b:aU a (PP p) (PP q) b=b0 (.bl<|if a then !decide (p=q)else decide (p=q),b):=by
 have e:(p.1==q.1&&(p.2==q.2&&d7))=decide (p=q):=by rw[a1U];simp[a6Q]
 cases a
 .change b0 (D.bl<|p.1==q.1&&(p.2==q.2&&d7),b)=_;rw[e];rfl
 .change b0 (D.bl<|!(p.1==q.1&&(p.2==q.2&&d7)),b)=_;rw[e];rfl
abbrev gD(x:Ed)(n:Int):D:=.tup [PP x,.int n]
def XR{v:Ed->D}{ps:List Ed}(h:e∈ps)(nd:ps.Nodup)d:bW (cI v ps) (a8 e) d=cI (λx=>if x=e then d else v x) ps:=by
 unfold bW;rw[nN nd h,if_pos<|by rfl];unfold cI;rw[Y0];show a0n λx _=>?_;change(if a8 x=a8 e then(a8 x,d)else(a8 x,v x))=(a8 x,if x=e then d else v x);by_cases z:x=e
 .rw[if_pos<|congrArg a8 z,if_pos z]
 .rw[if_neg λy=>z<|iR y,if_neg z]
def xI{v u:Ed->D}{ps:List Ed}(h:∀e∈ps,v e=u e):cI v ps=cI u ps:=a0n λe a=>by rw[h e a]
abbrev k6(r:Ed->Ed)(p:Ed->Int)(one two:Ed)(n:Int)(Z:List Ed)(e:Ed):D:=if e∈Z/\r e=two then gD one ((p e+n)%2)else gD (r e) (p e)
abbrev tV(d0 d1:Option D)(a:Nat)(c d e g x7:Option D)(one:Ed)(x9:Option D)(two:Ed)(x11:Option D)(n:Int)(b:Option D):aF:=[d0,d1,b0<|.loc a,c,d,e,g,x7,b0<|PP one,x9,b0<|PP two,x11,b0<|.int n,b]
def XS{U:List Ed}(nd:U.Nodup)(G:U.length<=600){e:Ed}(i:U[j]?=b0 e)(g:c[a]?=b0 (.dT<|cI (k6 r p one two n<|U.take j) U))(H:∀b,Kp a c b->b[a]?=b0 (.dT<|cI (k6 r p one two n<|U.take<|j+1) U)->R (.nx,tV d0 d1 a s u v A x7 one x9 two x11 n<|b0<|PP e,b)):W (Bo (tV d0 d1 a s u v A x7 one x9 two x11 n<|b0<|PP e) c) R:=by
 have o:e∈U:=YZ i;have B:e∉U.take j:=oY nd i;have E:k6 r p one two n (U.take j) e=gD (r e) (p e):=if_neg λz=>B z.1;have l:aE (.loc a) (PP e) c=b0 (gD (r e)<|p e,c):=bF ((l6 g (cT e)<|nN nd o).mpr<|by rw[E]);have k:∀x,(x∈U.take (j+1))=(x∈U.take j\/x=e):=λx=>propext (by rw[e8 i,YN,YL]);have ne:∀x,x≠e->k6 r p one two n (U.take<|j+1) x=k6 r p one two n (U.take j) x:=λx y=>by
  unfold k6;by_cases d:x∈U.take j/\r x=two
  .rw[if_pos d,if_pos ⟨by rw[k];show .inl d.1,d.2⟩]
  .rw[if_neg d,if_neg λw=>d ⟨by have:=w.1;rw[k]at this;show this.resolve_right y,w.2⟩]
 show w_mIfS.mpr<|b9<|aM<|aM<|bA rfl rfl ⟨_,l,_,rfl,_,rfl,_,rfl,_,xH dI (r e) two c,_,rfl,?_⟩;by_cases z:r e=two
 .rw[show(if dI=d7 then !decide (r e=two)else decide (r e=two))=d7 from decide_eq_true z];show(if_pos rfl).mpr (w_mPut.mpr<|w_mTup.mpr<|aX ⟨_,rfl,aX<|aM<|aM<|aM<|bA rfl rfl ⟨_,l,_,rfl,_,rfl,_,rfl,w_addI.mpr ⟨_,rfl,(dM<|by decide).mpr ⟨_,rfl,jW,_,rfl,_,rfl,?_⟩⟩⟩⟩);show(nH g (cT e)<|by rw[Yu,Y2];lia).mpr<|H _ .set ?_;rw[cK g];show congrArg (λy=>b0<|C.dT y)<|(XR o nd _).trans<|xI λx _=>?_;by_cases y:x=e
  .rw[if_pos y,y];unfold k6;rw[if_pos ⟨by rw[k];show .inr rfl,z⟩];rfl
  .rw[if_neg y,ne x y]
 .rw[show(if dI=d7 then !decide (r e=two)else decide (r e=two))=dI from decide_eq_false z];show(if_neg YE).mpr<|w_mNext.mpr<|H _ (λ_ _ _ h=>h) ?_;rw[g];show congrArg (λy=>b0<|C.dT y)<|xI λx _=>?_;by_cases y:x=e
  .unfold k6;rw[if_neg λw=>z<|y▸w.2,if_neg λw=>z<|y▸w.2]
  .rw[ne x y]
inductive MgI (U:List Ed)(r:Ed->Ed)(p:Ed->Int)(one two:Ed)(n:Int)(d0 d1:Option D)(a b:Nat)(x3 x4 x5 x6 x7 x9 x11:Option D)(ν:Hm):Nat->aF->Hm->Prop
 |mk {j:Nat}{x:Option D}{μ:Hm}(kp:Kp a ν μ)(g:μ[a]?=b0 (.dT<|cI (k6 r p one two n<|U.take j) U))(gb:μ[b]?=b0 (.lst<|U.map PP)):MgI U r p one two n d0 d1 a b x3 x4 x5 x6 x7 x9 x11 ν j (tV d0 d1 a x3 x4 x5 x6 x7 one x9 two x11 n x) μ
abbrev qV(r:Ed->Ed)(one two:Ed)(e:Ed):Ed:=if r e=two then one else r e
abbrev qW(r:Ed->Ed)(p:Ed->Int)(two:Ed)(n:Int)(e:Ed):Int:=if r e=two then(p e+n)%2 else p e
def XT{U:List Ed}(nd:U.Nodup)(K:U.length<=600)(g:b[a]?=b0 (.dT<|cI (λe=>gD (r e)<|p e) U))(H:∀x c,Kp a b c->c[a]?=b0 (.dT<|cI (λe=>gD (qV r one two e)<|qW r p two n e) U)->R (.nx,tV d0 d1 a u v w A x7 one x9 two x11 n x,c)):W (b8 (bV<|aG jU<|aB (aA 2) aD) (cC 13) Bo (tV d0 d1 a u v w A x7 one x9 two x11 n s) b) R:=by
 have G:(cI (λe=>gD (r e)<|p e) U).map (λk=>D.tup<|k.1.map D.int)=U.map PP:=by unfold cI;rw[Y0];rfl
 show w_mForI.mpr<|w_iSeq.mpr<|aK rfl<|(GL g).mpr ?_;rw[G];have E:=aR b<|C.lst<|U.map PP;have la:a<b.length:=(Yy.mp g).1;show(cN<|bB _ _).mpr<|fP (MgI U r p one two n d0 d1 a b.length u v w A x7 x9 x11 b) (.mk (.pre E) ?_<|bB _ _) (by rintro _ _ _ ⟨_,_,l⟩;show l) ?_ ?_
 .rw[aJ E g,ZG];show congrArg (λy=>b0<|C.dT y)<|xI λx _=>(if_neg λz=>nomatch z.1).symm
 .rintro j d _ B hd ⟨o,i,l⟩;obtain⟨e,L,rfl⟩:=jG hd;show⟨_,rfl,XS nd K L i λN h I=>.mk (o.trans h) I<|h _ _ ⋯ l⟩
 .rintro _ B ⟨o,i,l⟩;rw[Yu,Zp]at i;show H _ _ o ?_;rw[i];show congrArg (λy=>b0<|C.dT y)<|xI λx M=>?_;unfold k6 qV qW;by_cases z:r x=two
  .rw[if_pos ⟨M,z⟩,if_pos z,if_pos z]
  .rw[if_neg λy=>z y.2,if_neg z,if_neg z]
inductive GrJ (T:List St)(U:List Ed)(i:Nat)(r:Ed->Ed)(p:Ed->Int):Prop
 |mk (on:∀e∈U,p e=0\/p e=1)(cn:∀e∈U,Cn T e (r e))(ti:∀t∈T.take i,r t.1=r t.2.1/\(p t.1+p t.2.1+dA t.2.2.1)%2=0)(qs:∀q,qU T q->∀e∈U,(q e+q (r e)+p e)%2=0)
def GrJ.skip(J:GrJ T U i r p)(c:T[i]?=b0 t)(h1:r t.1=r t.2.1)(b:(p t.1+p t.2.1+dA t.2.2.1)%2=0):GrJ T U (i+1) r p:=by
 obtain⟨d,cn,g,e⟩:=J;show⟨d,cn,λu a=>?_,e⟩;rw[e8 c]at a;rcases YN.mp a with a|a
 .show g u a
 .rw[YL.mp a];show⟨h1,b⟩
def GrJ.join(J:GrJ T U i r p)(g:T[i]?=b0 t)(h1:t.1∈U)(j:t.2.1∈U)(c:r t.1≠r t.2.1)(x:n=(p t.1+p t.2.1+dA t.2.2.1)%2):GrJ T U (i+1) (qV r (r t.1)<|r t.2.1) (qW r p (r t.2.1) n):=by
 obtain⟨v,cn,w,h⟩:=J;have s:t∈b7 T t.1:=fr_mem.mpr ⟨rfl,.inl<|YZ g⟩;show⟨λe a=>?_,λe a=>?_,λu b=>?_,λq d e a=>?_⟩
 .unfold qW;have:=v e a;split<;>lia
 .unfold qV;by_cases z:r e=r t.2.1
  .rw[if_pos z];show(z▸cn e a).tr<|(cn _ j).sy.tr<|(Cn.go (s:=t) (.rf _) s).sy.tr<|cn _ h1
  .rw[if_neg z];show cn e a
 .rw[e8 g]at b;unfold qV qW;rcases YN.mp b with b|b
  .obtain⟨l,o⟩:=w u b;rw[<- l];show⟨rfl,?_⟩;by_cases z:r u.1=r t.2.1
   .rw[if_pos z,if_pos z];lia
   .rw[if_neg z,if_neg z];show o
  .rw[YL.mp b,if_neg c,if_pos rfl,if_neg c,if_pos rfl];show⟨rfl,?_⟩;lia
 .unfold qV qW;have k:=h q d e a;by_cases z:r e=r t.2.1
  .have y:=h q d _ h1;have A:=h q d _ j;have B:=d t<|YZ g;rw[if_pos z,if_pos z];rw[z]at k;lia
  .rw[if_neg z,if_neg z];show k
def XU(nd:U.Nodup)(X:U.length<=600)(J:GrJ T U i r p)(w:T[i]?=b0 t)(h1:t.1∈U)(u:t.2.1∈U)(g:b[a]?=b0 (.dT<|cI (λe=>gD (r e)<|p e) U))(M:(∀q,¬ qU T q)->∀d,R (.rt .non,d,b))(H:∀K G x8 x9 x10 x11 k l c,GrJ T U (i+1) K G->Kp a b c->c[a]?=b0 (.dT<|cI (λe=>gD (K e)<|G e) U)->R (.nx,[d0,d1,b0<|.loc a,b0<|PP t.1,L,b0<|PP t.2.1,b0<|.bl t.2.2.1,b0<|PP t.2.2.2,x8,x9,x10,x11,k,l],c)):
  W (Bp [d0,d1,b0<|.loc a,b0<|PP t.1,L,b0<|PP t.2.1,b0<|.bl t.2.2.1,b0<|PP t.2.2.2,x8,x9,x10,x11,k,l] b) R:=by
 show w_mSeq.mpr<|w_mAsg.mpr<|bA rfl rfl<|(l6 g (cT t.1)<|nN nd h1).mpr<|w_gTup2.mpr<|w_mSeq.mpr<|w_mAsg.mpr<|bA rfl rfl<|(l6 g (cT t.2.1)<|nN nd u).mpr<|w_gTup2.mpr ?_;have N:∀d,d[6]?=b0 (b0<|D.bl t.2.2.1)->aG nZ (aB (mI<|aA 6) aD) d b=b0 (.int<|dA t.2.2.1,b):=λd A=>by
  have Y:aA 6 d b=b0 (.bl t.2.2.1,b):=by simp only[aA,A]
  show bF<|eV<|aX<|w_mNotV.mpr ⟨_,Y,?_⟩;cases t.2.2.1<;>show⟨_,rfl,_,rfl,rfl⟩
 show aS (aM<|aM<|bA (x:=.int (p t.1)) (y:=.int (p t.2.1)) rfl rfl<|w_addI.mpr ⟨_,N _ rfl,w_addI.mpr ⟨_,rfl,(dM<|by decide).mpr ?_⟩⟩);have E:(p t.1+p t.2.1+dA t.2.2.1)%2=0\/(p t.1+p t.2.1+dA t.2.2.1)%2=1:=by lia
 generalize hN:(p t.1+p t.2.1+dA t.2.2.1)%2=n at E ⊢;have B:∀j d,d[8]?=b0 (b0<|PP<|r t.1)->d[10]?=b0 (b0<|PP<|r t.2.1)->aO (aC (aU j) (aA 8)<|aA 10) d b=b0 (if j then !decide (r t.1=r t.2.1)else decide (r t.1=r t.2.1),b):=λj d Q s=>gZ (bF<|bA (x:=PP (r t.1)) (y:=PP (r t.2.1)) (μ1:=b) (μ2:=b) (by simp only[aA,Q]) (by simp only[aA,s]) ⟨_,xH j _ _ b,rfl⟩);show fE (b:=decide (r t.1=r t.2.1)&&(n==1)) (μ':=b) (qQ (B dI _ rfl rfl)<|gZ<|bF<|bA rfl rfl<|w_eqI.mpr rfl) (λo=>iN ⟨_,rfl,M (λq v=>?_) _⟩) λo=>cZ<|w_mIfS.mpr ⟨_,B d7 _ rfl rfl,?_⟩
 .rw[YK,decide_eq_true_eq,beq_iff_eq]at o;obtain⟨on,cn,ti,I⟩:=J;have q1:=I q v _ h1;have q2:=I q v _ u;have q3:=v t<|YZ w;rw[o.1]at q1;lia
 by_cases z:r t.1=r t.2.1
 .rw[decide_eq_true z]at o ⊢;show(if_neg YE).mpr<|w_mNext.mpr<|H r p _ _ _ _ _ _ b (J.skip w z ?_) (λ_ _ _ h=>h) g;rw[hN];show E.resolve_right λy=>?_;rw[y]at o;cases o
 .rw[decide_eq_false z];show(if_pos rfl).mpr<|XT nd X g λx c Z O=>H _ _ _ _ _ _ _ _ c (J.join w h1 u z hN.symm) Z O
inductive GsI (d0 d1:Option D)(T:List St)(U:List Ed)(a b:Nat)(ν:Hm):Nat->aF->Hm->Prop
 |mk {i:Nat}{r:Ed->Ed}{p:Ed->Int}{x3 x4 x5 x6 x7 x8 x9 x10 x11 x12 x13:Option D}{μ:Hm}(J:GrJ T U i r p)(kp:Kp a ν μ)(g:μ[a]?=b0 (.dT<|cI (λe=>gD (r e)<|p e) U)):GsI d0 d1 T U a b ν i [d0,d1,b0<|.loc a,x3,x4,x5,x6,x7,x8,x9,x10,x11,x12,x13] μ
inductive G0I (d0 d1:Option D)(U:List Ed)(a:Nat)(ν:Hm):Nat->aF->Hm->Prop
 |mk {i:Nat}{x3 x4:Option D}{μ:Hm}(p:ν<+:μ)(g:μ[a]?=b0 (.dT<|cI (λe=>gD e 0)<|U.take i)):G0I d0 d1 U a ν i [d0,d1,b0<|.loc a,x3,x4,b5,b5,b5,b5,b5,b5,b5,b5,b5] μ
def B6{ms:List ((Int×Int)×Str)}{i:Nat}(h:(ms.map MD)[i]?=b0 d):∃m,ms[i]?=b0 m/\MD m=d:=by rw[YU]at h;show YB.mp h
def XW k(N:ShOk ms){T:List St}(K:∀t∈T,t.1∈ms.map (·.1)/\t.2.1∈ms.map (·.1)){c:Hm}(u:c[b]?=b0 (.lst<|T.map aT))(Q:jz)(A:∀μ',c<+:μ'->(∀q,¬ qU T q)->Q (.non,μ'))(H:∀a μ' r p,c<+:μ'->μ'[a]?=b0 (.dT<|cI (λe=>gD (r e)<|p e)<|ms.map (·.1))->Gr T (ms.map (·.1)) r p->(∀e∈ms.map (·.1),Cn T e (r e))->Q (.loc a,μ')):W (f (k+1) "_law_groups" [SH w h ms,.loc b] c) Q:=by
 obtain⟨X,nd,ok⟩:=N;have R:=aR c<|C.dT [];have Y:b<c.length:=(Yy.mp u).1;show bS (Vp k _ _ c)<|aS<|w_mDNewT.mpr<|dN<|w_mForI.mpr<|w_iSeq.mpr<|bA rfl rfl<|w_it32.mpr<|w_seqT.mpr ?_;show wL (x:=.tup (ms.map MD)) (xs:=ms.map MD) (λ_=>rfl) (G0I (b0<|SH w h ms) (b0<|.loc b) (ms.map (·.1)) c.length c) (.mk R<|by rw[ZG];show bB _ _) ?_ ?_
 .rintro i d _ o hd ⟨p,g⟩;obtain⟨m,L,rfl⟩:=B6 hd;have l:(ms.map (·.1))[i]?=b0 m.1:=by rw[YU,L];rfl
  show⟨_,rfl,w_mPut.mpr<|w_mTup.mpr<|aX ⟨_,rfl,aX ⟨_,rfl,_,rfl,jW,_,rfl,_,rfl,(nH g (cT m.1)<|by rw[Yu,Zb,Yu,Y2];lia).mpr<|.mk (dB p (YG _) _) ?_⟩⟩⟩;rw[cK g,e8 l];show congrArg (λy=>b0<|C.dT y)<|BQ (v:=λe=>gD e 0)<|oY nd l
 .rintro _ o ⟨p,g⟩;rw[Yu,show ms.length=(ms.map (·.1)).length from(Yu ..).symm,Zp]at g;show⟨rfl,w_mSeq.mpr<|w_mForI.mpr<|w_iSeq.mpr ⟨_,rfl,(cN<|aJ p u).mpr ?_⟩⟩;show fP (b:=Bp) (GsI (b0<|SH w h ms) (b0<|.loc b) T (ms.map (·.1)) c.length b o) (.mk (r:=λe=>e) (p:=λ_=>0) ⟨λ_ _=>.inl rfl,λe _=>.rf e,λt n=>by(rw[ZG]at n;cases n),λq _ e _=>by change(q e+q e+0)%2=0;lia⟩ (λ_ _ _ h=>h) g) (by rintro _ _ _ ⟨_,j,_⟩;show j _ _ ⋯<|aJ p u) ?_ ?_
  .rintro i d _ x hd ⟨J,j,s⟩;obtain⟨t,n,rfl⟩:=tT hd;obtain⟨G,I⟩:=K t<|YZ n;show⟨_,rfl,XU nd (by rw[Yu];lia) J n G I s (λM ρ=>?_) λr' Z _ _ _ _ _ _ U B v E=>.mk B (j.trans v) E⟩;show A _ (j.all p<|YG _) M
  .rintro _ x ⟨J,j,s⟩;obtain⟨O,cn,z,_⟩:=J;rw[Yu,Zp]at z;show bT ⟨_,rfl,H _ _ _ _ (j.all p<|YG _) s ⟨O,z⟩ cn⟩
abbrev cJ(s:Str):Int:=if s="v" then 1 else 0
inductive TdJ (ms:List ((Int×Int)×Str))(r:Ed->Ed)(p:Ed->Int)(kvs:jx):Prop
 |mk (A:∀m∈ms,cA m.2=d7->a9 kvs (a8<|r m.1)=b0 (.int<|(cJ m.2+p m.1)%2))(B:∀x d,a9 kvs (a8 x)=b0 d->∃m∈ms,cA m.2=d7/\r m.1=x/\d=.int ((cJ m.2+p m.1)%2))
def TdJ.no(J:TdJ ms r p kvs)(h:cA m.2=dI):TdJ (ms++[m]) r p kvs:=by
 obtain⟨A,B⟩:=J;show⟨λx a b=>?_,λx d hd=>?_⟩
 .rcases YN.mp a with a|a
  .show A x a b
  .rw[YL.mp a,h]at b;cases b
 .obtain⟨y,c,z⟩:=B x d hd;show⟨y,YN.mpr<|.inl c,z⟩
def TdJ.old(J:TdJ ms r p kvs)(h:a9 kvs (a8<|r m.1)=b0 (.int<|(cJ m.2+p m.1)%2)):TdJ (ms++[m]) r p kvs:=by
 obtain⟨A,B⟩:=J;show⟨λx a b=>?_,λx d hd=>?_⟩
 .rcases YN.mp a with a|a
  .show A x a b
  .rw[YL.mp a];show h
 .obtain⟨y,c,z⟩:=B x d hd;show⟨y,YN.mpr<|.inl c,z⟩
def TdJ.new(J:TdJ ms r p kvs)(c:cA m.2=d7)(h:a9 kvs (a8<|r m.1)=b5):TdJ (ms++[m]) r p (bW kvs (a8<|r m.1)<|.int<|(cJ m.2+p m.1)%2):=by
 obtain⟨A,B⟩:=J;show⟨λx a b=>?_,λx d hd=>?_⟩
 .rw[qR];rcases YN.mp a with a|a
  .rw[if_neg λz=>by rw[<- z,A x a b]at h;cases h];show A x a b
  .rw[YL.mp a,if_pos rfl]
 .rw[qR]at hd;by_cases z:a8 x=a8 (r m.1)
  .rw[if_pos z]at hd;cases hd;show⟨m,YN.mpr<|.inr<|.head _,c,(iR z).symm,rfl⟩
  .rw[if_neg z]at hd;obtain⟨y,e,z⟩:=B x d hd;show⟨y,YN.mpr<|.inl e,z⟩
def XX{U:List Ed}(nd:U.Nodup)(J:TdJ ms r p kvs)(M:kvs.length<=3000){m:(Int×Int)×Str}(I:m.1∈U)(ok:m.2="o"\/m.2="h"\/m.2="v")(G:b[a]?=b0 (.dT<|cI (λe=>gD (r e)<|p e) U))(i:b[d]?=b0 (.dT kvs))(w:∀k,∀y∈ms,cA y.2=d7->cA m.2=d7->r y.1=r m.1->(cJ y.2+p y.1)%2≠(cJ m.2+p m.1)%2->R (.rt .non,k,b))(H:∀c n o x7 j,TdJ (ms++[m]) r p c->c.length<=kvs.length+1->Kp d b j->j[d]?=b0 (.dT c)->R (.nx,[d0,b0<|.loc a,b0<|.loc d,b0<|PP m.1,b0<|.str m.2,n,o,x7],j)):
  W (Bq [d0,b0<|.loc a,b0<|.loc d,b0<|PP m.1,b0<|.str m.2,n,o,x7] b) R:=by
 have x:aO (aC (aU d7) (aA 4)<|mC<|.str "o") [d0,b0<|.loc a,b0<|.loc d,b0<|PP m.1,b0<|.str m.2,n,o,x7] b=b0 (cA m.2,b):=by rcases ok with e|e|e<;>rw[e]<;>kernel_rfl
 show w_mIfS.mpr ⟨_,x,?_⟩;cases l:cA m.2 with
 |false=>show(if_neg YE).mpr (w_mNext.mpr<|H kvs _ _ _ b (J.no l) (a2m _) (λ_ _ _ h=>h) i)|true=>
  show(if_pos rfl).mpr<|w_mSeq.mpr<|w_mAsg.mpr<|bA rfl rfl<|(l6 G (cT m.1)<|nN nd I).mpr<|w_gTup2.mpr ?_;have E:∀k,k[4]?=b0 (b0<|D.str m.2)->aG nZ (aB (aC (aU dI) (aA 4)<|mC<|.str "v") aD) k b=b0 (.int<|cJ m.2,b):=λk v=>by
   have g:aA 4 k b=b0 (.str m.2,b):=by simp only[aA,v]
   show bF<|eV<|aX<|bA g rfl ?_;rcases o7 ok l with e|e<;>rw[e]<;>show⟨_,rfl,_,rfl,_,rfl,rfl⟩
  show aS (aM<|aM ⟨_,E _ rfl,⟨_,rfl,w_addI.mpr ⟨_,rfl,(dM<|by decide).mpr ?_⟩⟩⟩);cases g:a9 kvs (a8<|r m.1)with
  |some L=>
   obtain⟨A,B⟩:=J;obtain⟨y,K,s,u,rfl⟩:=B _ _ g;have e:gK (.loc d) [PP<|r m.1,.int<|(cJ m.2+p m.1)%2] b=b0 (.int<|(cJ y.2+p y.1)%2,b):=by simp only[gK,i,cT,Y9,g]
   show w_mIfS.mpr<|b9<|aM<|qS (a:=d) rfl i ⟨_,rfl,_,e,_,rfl,w_neI.mpr ⟨_,rfl,?_⟩⟩;by_cases z:(cJ y.2+p y.1)%2=(cJ m.2+p m.1)%2
   .rw[show(!((cJ y.2+p y.1)%2==(cJ m.2+p m.1)%2))=dI by rw[z,beq_self_eq_true];rfl];rw[z]at g;show(if_neg YE).mpr<|w_mNext.mpr<|H kvs _ _ _ b (TdJ.old ⟨A,B⟩ g) (a2m _) (λ_ _ _ h=>h) i
   .rw[show(!((cJ y.2+p y.1)%2==(cJ m.2+p m.1)%2))=d7 by rw[beq_false_of_ne z];rfl];show(if_pos rfl).mpr<|w_mRet.mpr ⟨_,rfl,w _ y K s l u z⟩
  |none=>
   have e:gK (.loc d) [PP<|r m.1,.int<|(cJ m.2+p m.1)%2] b=b0 (.int<|(cJ m.2+p m.1)%2,b.set d<|.dT<|bW kvs (a8<|r m.1)<|.int<|(cJ m.2+p m.1)%2):=by simp only[gK,i,cT,Y9,g];rw[if_pos<|by rw[Y2];lia]
   show w_mIfS.mpr<|b9<|aM<|qS (a:=d) rfl i ⟨_,rfl,_,e,_,rfl,w_neI.mpr ⟨_,rfl,?_⟩⟩;rw[show(!((cJ m.2+p m.1)%2==(cJ m.2+p m.1)%2))=dI by rw[beq_self_eq_true];rfl];show(if_neg YE).mpr<|w_mNext.mpr<|H _ _ _ _ _ (J.new l g) (B0 _ _ _) .set<|cK i
inductive TdI (d0:Option D)(a d:Nat)(ms:List ((Int×Int)×Str))(r:Ed->Ed)(p:Ed->Int)(ν:Hm):Nat->aF->Hm->Prop
 |mk {i:Nat}{kvs:jx}{x3 x4 x5 x6 x7:Option D}{μ:Hm}(J:TdJ (ms.take i) r p kvs)(hk:kvs.length<=i)(pr:ν<+:μ)(g:μ[d]?=b0 (.dT kvs)):TdI d0 a d ms r p ν i [d0,b0<|.loc a,b0<|.loc d,x3,x4,x5,x6,x7] μ
abbrev xJ(ms:List ((Int×Int)×Str))(r:Ed->Ed)(p:Ed->Int):Prop:=∀x∈ms,∀y∈ms,cA x.2=d7->cA y.2=d7->r x.1=r y.1->(cJ x.2+p x.1)%2=(cJ y.2+p y.1)%2
def TdJ.cons{ms:List ((Int×Int)×Str)}{r:Ed->Ed}{p:Ed->Int}{kvs:jx}(J:TdJ ms r p kvs):xJ ms r p:=λx d y g c a e=>by obtain⟨A,_⟩:=J;have b:=A x d c;rw[e,A y g a]at b;show(D.int.inj<|YX b).symm
def IQ k(K:ShOk ms){b:Hm}(E:b[a]?=b0 (.dT<|cI (λe=>gD (r e)<|p e)<|ms.map (·.1)))(Q:jz)(v:∀μ',b<+:μ'->¬ xJ ms r p->Q (.non,μ'))(H:∀d μ' kvs,b<+:μ'->μ'[d]?=b0 (.dT kvs)->TdJ ms r p kvs->Q (.loc d,μ')):W (f (k+1) "_law_told" [SH w h ms,.loc a] b) Q:=by
 obtain⟨T,nd,ok⟩:=K;have N:=aR b<|C.dT [];show bS (Vq k _ _ b)<|aS<|w_mDNewT.mpr<|w_mSeq.mpr<|w_mForI.mpr<|w_iSeq.mpr<|bA rfl rfl<|w_it32.mpr<|w_seqT.mpr ?_;show wL (x:=.tup (ms.map MD)) (xs:=ms.map MD) (b:=Bq) (λ_=>rfl) (TdI (b0<|SH w h ms) a b.length ms r p b) (.mk (kvs:=[]) ⟨λ_ h=>by(rw[ZG]at h;cases h),λ_ _ z=>nomatch z⟩ (YG _) N<|bB _ _) ?_ ?_
 .rintro i d _ u hd ⟨J,G,l,g⟩;obtain⟨m,s,rfl⟩:=B6 hd;have o:=YZ s;have R:=(Yy.mp s).1;show⟨_,rfl,XX nd J ⋯ (YO.mpr ⟨m,o,rfl⟩) (ok m o) (aJ l E) g (λU y L n A e ne=>v _ l λc=>ne<|c y (a3k L) m o n A e) λj _ _ _ O x I M B=>.mk (kvs:=j) ?_ ⋯ (M.all l<|YG _) B⟩;rw[e8 s];show x
 .rintro _ u ⟨J,G,l,g⟩;rw[Yu,Zp]at J;show bT ⟨_,rfl,H _ _ _ l g J⟩
inductive DuI (d0:Option D)(a d l:Nat)(ms:List ((Int×Int)×Str))(g:(Int×Int)×Str->Str)(ν:Hm):Nat->aF->Hm->Prop
 |mk {i:Nat}{x4 x5 x6 x7:Option D}{μ:Hm}(pr:ν<+:μ)(gl:μ[l]?=b0 (.lst<|(ms.take i).map λm=>MD (m.1,g m))):DuI d0 a d l ms g ν i [d0,b0<|.loc a,b0<|.loc d,b0<|.loc l,x4,x5,x6,x7] μ
def Wy.app(h:Wy T a v b)(g:Wy T b w c):Wy T a (v++w) c:=by
 induction h with
 |nil=>show g|cons d h e=>show .cons d<|e g
def Wy.one(h:s∈b7 T s.1):Wy T s.1 [s] s.2.1:=.cons h<|.nil _
def Wy.bk(h:Wy T a w b):Wy T b (w.reverse.map fF) a:=by
 induction h with
 |nil=>show .nil _|@cons s w e c h d=>rw[a2P,YV];show d.app<|.one (s:=fF s)<|Iu c
inductive BadR (T:List St)(ms:List ((Int×Int)×Str))(w:List St):Prop
 |odd (a:Ed)(h:Wy T a w a)(n:(cF w:Int)%2=1)
 |mark (x y:(Int×Int)×Str)(hx:x∈ms)(hy:y∈ms)(bx:cA x.2=d7)(by':cA y.2=d7)(h:Wy T x.1 w y.1)(ne:w≠[])(n:((cF w:Int)%2==0)≠(y.2==x.2))
def IS{a b:Str}(c:a="h"\/a="v") (d:b="h"\/b="v"):(a==b)=((cJ a+cJ b)%2==0):=by rcases c with rfl|rfl<;>rcases d with rfl|rfl<;>decide +kernel
def IT{u:Int}:(u%2=0↔v%2=0)↔(u+v)%2=0:=by rw[Int.add_emod];rcases a9o u with a|a<;>rcases a9o v with b|b<;>rw[a,b]<;>decide
def BadR.no{C:List Ed}{ms:List ((Int×Int)×Str)}(ok:∀m∈ms,m.2="o"\/m.2="h"\/m.2="v")(g:Gr T C r p)(c:xJ ms r p)(h:BadR T ms w):False:=by
 cases h with
 |odd a h n=>have:=(g.way h).2;lia|mark x y e i d b h ne n=>obtain⟨j,k⟩:=g.way h;have l:=c x e y i d b j;apply n;rw[IS (o7 (ok y i) b)<|o7 (ok x e) d,a1U,beq_iff_eq,beq_iff_eq,IT];lia
def Cn.two(g:qU T p)(i:qU T q)(h:Cn T a b):(p a+p b+q a+q b)%2=0:=by
 induction h with
 |rf=>lia|@go s h j k=>
  have:(p s.1+p s.2.1+dA s.2.2.1)%2=0/\(q s.1+q s.2.1+dA s.2.2.1)%2=0:=by
   rcases(fr_mem.mp j).2 with c|c
   .show⟨g s c,i s c⟩
   .have d:=g _ c;have e:=i _ c;have d:(p s.2.1+p s.1+dA s.2.2.1)%2=0:=d;have e:(q s.2.1+q s.1+dA s.2.2.1)%2=0:=e;lia
  lia
inductive Cst (T:List St)(ms:List ((Int×Int)×Str)):Prop
 |mk (q:Ed->Int)(ti:qU T q)(mk:∀m∈ms,cA m.2=d7->(cJ m.2+q m.1)%2=0)
def Cst.cons{T:List St}{ms:List ((Int×Int)×Str)}(h:Cst T ms){C:List Ed}{r:Ed->Ed}{p:Ed->Int}(g:Gr T C r p)(cn:∀e∈ms.map (·.1),Cn T e (r e)):xJ ms r p:=λx c y d i a e=>by obtain⟨q,l,mk⟩:=h;have b:=cn x.1<|YO.mpr ⟨x,c,rfl⟩;have j:=cn y.1<|YO.mpr ⟨y,d,rfl⟩;rw[e]at b;have n:=Cn.two (λt k=>(g.ti t k).2) l<|b.tr j.sy;have o:=mk x c i;have s:=mk y d a;lia
inductive NoRd (T:List St)(ms:List ((Int×Int)×Str))(s:(Int×Int)×Str):Prop
 |mk (q:Ed->Int)(q0:q s.1%2=0)(ti:∀e,Cn T s.1 e->∀t∈b7 T e,(q t.1+q t.2.1+dA t.2.2.1)%2=0)(mk:∀m∈ms,Cn T s.1 m.1->cA m.2=d7->cA s.2=d7->(cJ m.2+cJ s.2+q m.1)%2=0)
inductive SnJ (T:List St)(ms:List ((Int×Int)×Str))(P:Ed->Prop):Prop
 |mk (q:Ed->Int)(cl:∀e,P e->∀t∈b7 T e,P t.2.1)(ti:∀e,P e->∀t∈b7 T e,(q t.1+q t.2.1+dA t.2.2.1)%2=0)(mk:∀m∈ms,P m.1->cA m.2=d7->(cJ m.2+q m.1)%2=0)
def SnJ.add{P:Ed->Prop}(J:SnJ T ms P)(h:NoRd T ms s)(x:¬ P s.1)(w:cA s.2=d7\/∀m∈ms,cA m.2=d7->P m.1)(i:∀e,o e↔P e\/Cn T s.1 e):SnJ T ms o:=by
 obtain⟨q,cl,B,mk⟩:=J;obtain⟨r,E,z,A⟩:=h;have p:∀{a b:Ed},Cn T a b->P a->P b:=λh v=>by
  induction h with
  |rf=>show v|go h j y=>show cl _ y _ j
 have k:∀e,P e->¬ Cn T s.1 e:=λe d hc=>x<|p hc.sy d;show⟨λe=>@ite _ (Cn T s.1 e) (Classical.propDecidable _) (r e+cJ s.2)<|q e,λe d t c=>?_,λe d t c=>?_,λm g d n=>?_⟩
 .rcases(i e).mp d with h|h
  .show(i _).mpr<|.inl<|cl e h t c
  .show(i _).mpr<|.inr<|Cn.go ((fr_mem.mp c).1.symm▸h)<|(fr_mem.mp c).1.symm▸c
 .have l:=(fr_mem.mp c).1;rcases(i e).mp d with h|h
  .rw[if_neg<|l.symm▸k e h,if_neg<|k _<|cl e h t c];show B e h t c
  .have u:Cn T s.1 t.2.1:=Cn.go (l.symm▸h)<|l.symm▸c;rw[if_pos<|l.symm▸h,if_pos u];have:=z e h t c;lia
 .rcases(i m.1).mp d with h|h
  .rw[if_neg<|k _ h];show mk m g h n
  .rcases w with j|j
   .rw[if_pos h];have:=A m g h n j;lia
   .show absurd h<|k _<|j m g n
def Wy.uniq(h:Wy T a w b)(ne:w≠[])(g:Wy T c w d):a=c/\b=d:=by
 induction h generalizing c d with
 |nil=>show absurd rfl ne|@cons s w e k h j=>
  cases g with
  |cons i g=>
   show⟨rfl,?_⟩;cases w with
   |nil=>rw[<- h.nl,<- g.nl]|cons l w=>show(j (λz=>nomatch z) g).2
def XY{kvs:jx}(h:c[i]?=b0 (b0<|.loc a))(hc:b[a]?=b0 (.dT kvs))(H:W (d c<|b.set a<|.dF kvs) λr=>r.2.2[a]?=b0 (.dF kvs)/\Q (r.1,r.2.1,r.2.2.set a<|.dT kvs)):W (oN i d g c b) Q:=by
 have e:qE i c b=b0 (a,kvs):=by simp only[qE,h,hc]
 unfold oN;rw[e];rw[W_bind];show bN H λr q=>?_;rw[q.1];show W_some.mpr q.2
def XZ(g:b[a]?=b0 (.lst xs))(h:i<xs.length):kU a xs.length b i=b0 xs.reverse[i]?:=by unfold kU;rw[g];dsimp only;rw[if_pos h,a0c h,Yz<|by omega];rfl
def X0(g:b[a]?=b0 (.lst xs)):kU a xs.length b xs.length=b0 none:=by unfold kU;rw[g];dsimp only;rw[if_neg<|a0f _,if_pos rfl]
def X1 k{y:List St}(n:y.length<=600){b:Hm}(g:b[l]?=b0 (.lst<|y.map aT))(Q:jz)(H:∀a μ',b<+:μ'->μ'[a]?=b0 (.lst<|(y.reverse.map fF).map aT)->Q (.loc a,μ')):W (f (k+2) "back_by" [.loc l] b) Q:=by
 show bS (U3 (k+1) _ b)<|bT<|Uh<|Uo ⟨_,rfl,l,_,rfl,g,(y.map aT).length,λi j μ'=>b<+:μ'/\j=((y.reverse.take i).map fF).map aT,rfl,by rw[Yu,Y2];lia,?_,⟨aR _ _,rfl⟩,?_,?_⟩
 .rintro i _ _ ⟨_,rfl⟩;rw[Yu,Yu,Zb];lia
 .rintro i _ μ' d ⟨p,rfl⟩ c;rw[Yu]at d;have e:y.reverse[i]?=b0 y[y.length-1-i]:=by rw[a0c d,Yz]
  have h:kU l (y.map aT).length μ' i=b0 (b0<|aT y[y.length-1-i]):=by rw[XZ (aJ p g)<|by rw[Yu];show d,<- a8K,YU,e];rfl
  show⟨aT y[y.length-1-i],[b0<|aT y[y.length-1-i]],h,rfl,w_mTrue.mpr ⟨(λz=>nomatch z),λ_=>aK rfl<|aY (IE k _ μ') ⟨c,dB p (YG _) _,?_⟩⟩⟩;rw[e8 e,YV,YV];rfl
 .rintro _ μ' ⟨p,rfl⟩ c;show⟨X0<|aJ p g,H _ _ p ?_⟩;rw[c,Yu,Z6<|by rw[ZP];show YG _]
def tW{c d:Type}{h:c->d}:∀{U:List c},(U.map h).Nodup->∀x∈U,∀y∈U,h x=h y->x=y
 |[],_,_,a,_,_,_=>nomatch a|u::U,nd,x,a,y,hy,e=>by
  rw[Za,ZO]at nd;rcases Zm.mp a with b|a<;>rcases Zm.mp hy with ey|hy
  .rw[b,ey]
  .show absurd (YO.mpr ⟨y,hy,by rw[<- e,b]⟩) nd.1
  .show absurd (YO.mpr ⟨x,a,by rw[e,ey]⟩) nd.1
  .show tW nd.2 x a y hy e
def qX(a:Ed):[a].Nodup:=ZO.mpr ⟨a1p,.nil⟩
def X2 k(o:U.length<=600)(n:Rch T [a] U R)(i:Dc c r (cH R))(h1:s.1∈R.map (·.1))(j:s.2.1∈R.map (·.1))(M:s∈b7 T s.1)(Q:jz)(H:∀l μ' (y:List St),c<+:μ'->μ'[l]?=b0 (.lst<|y.map aT)->y.length<=1201->Wy T a y a->(∀q,tU R q->((cF y:Int)+q s.1+q s.2.1+dA s.2.2.1)%2=0)->Q (.loc l,μ')):W (f (k+3) "round_by_step" [.loc r,aT s] c) Q:=by
 show bS (U4 (k+2) _ _ c)<|bT<|aM<|aM<|aK rfl<|B5 (k+1) (qX a) o n i h1 _ λl1 b x m1 u G B z N g=>⟨_,rfl,?_⟩;have e:=aR b<|C.lst<|[s].map aT;show(tD (aJ e G) (bB _ _)<|by rw[Yu,Y2];change _+1<=_;lia).mpr<|eV<|aX<|aK rfl<|B5 (k+1) (qX a) o n (i.more ?_) j _ λl2 X O m2 v I E A d h=>⟨_,rfl,X1 k d I _ λl3 Y w K=>?_⟩
 .show u.trans<|e.trans<|aR _ _
 .have L:=aJ (v.trans w)<|bB (b++[C.lst<|[s].map aT])<|C.lst<|x.map aT++[s].map aT;rw[YL.mp B]at z;rw[YL.mp E]at A;show(tD L K<|by rw[YF,Yu,Yu,Yu,Yu,ZP,Y2];change _+1+_<=_;lia).mpr<|H _ _ (x++[s]++O.reverse.map fF) ?_ ?_ ?_ ((z.app<|.one M).app A.bk) λq p=>?_
  .show u.trans<|e.trans<|(aR _ _).trans<|v.trans<|w.trans<|aR _ _
  .rw[YV,YV];show bB _ _
  .rw[YF,YF,Yu,ZP];change _+1+_<=_;lia
  .have h1:=g q p;have j:=h q p;have Z:=IJ s;rw[B4,B4,XN];lia
abbrev qY(st mk:Nat)(s:Ed)(r:Nat)(a b c x7:Option D):aF:=[b0<|.loc st,b0<|.loc mk,b0<|PP s,b0<|.loc r,a,b,c,x7]
inductive RwI (st mk:Nat)(s:Ed)(r:Nat)(x4:Option D)(ν:Hm)(F:List St)(q:Ed->Int):Nat->aF->Hm->Prop
 |mk {i:Nat}{x5 x6 x7:Option D}{μ:Hm}(p:ν<+:μ)(ok:∀t∈F.take i,(q t.1+q t.2.1+dA t.2.2.1)%2=0):RwI st mk s r x4 ν F q i (qY st mk s r x4 x5 x6 x7) μ
def xK a x y b:aU a (.str x) (.str y) b=b0 (.bl<|if a then !(x==y)else x==y,b):=by cases a<;>rfl
def IU x y a:aU d7 (.bl x) (.bl y) a=b0 (.bl<|!(x==y),a):=rfl
abbrev X3(T:List St)(ms:List ((Int×Int)×Str))(ν:Hm)(Q:Fl×aF×Hm->Prop):Prop:=∀l a μ' y,ν<+:μ'->μ'[l]?=b0 (.lst<|y.map aT)->y.length<=1201->BadR T ms y->Q (.rt<|.loc l,a,μ')
def X4 k(nd:(ms.map (·.1)).Nodup)(i:m∈ms)(j:s∈ms){a:Hm}(n:a[mk]?=b0 (.dT<|cD ms))(o:y.length<=3000)(gl:a[l]?=b0 (.lst<|y.map aT))(H:∀b μ',a<+:μ'->(b=d7↔cA m.2=d7/\cA s.2=d7/\((cF y:Int)%2==0)≠(m.2==s.2))->Q (b,μ')):W (G1 (k+1) (qY st mk s.1 r (b0<|PP m.1) (b0<|.loc l) v x7) a) Q:=by
 have d:∀{z:(Int×Int)×Str},z∈ms->∀{μ'},a<+:μ'->aE (.loc mk) (PP z.1) μ'=b0 (.str z.2,μ'):=λ{z} u {μ'} p=>bF<|(l6 (aJ p n) (cT z.1)<|IP nd u).mpr rfl;have e:=YS a;show w_mAndT.mpr<|d9<|eV<|aX<|bA rfl rfl ⟨_,d i e,_,rfl,aY (B2 k m.2 a) ⟨rfl,?_⟩⟩;cases h:cA m.2 with
 |false=>show(if_neg YE).mpr (H _ _ e ⟨(λz=>nomatch z),λz=>absurd (h.symm.trans z.1) YE⟩)|true=>
  show(if_pos rfl).mpr<|w_mAndT.mpr<|d9<|eV<|aX<|bA rfl rfl ⟨_,d j e,_,rfl,aY (B2 k s.2 a) ⟨rfl,?_⟩⟩;cases c:cA s.2 with
  |false=>show(if_neg YE).mpr (H _ _ e ⟨(λz=>nomatch z),λz=>absurd (c.symm.trans z.2.1) YE⟩)|true=>show(if_pos rfl).mpr<|b9<|aM<|aK rfl<|IL k o gl _ λw g=>?_;show aM<|bA rfl rfl ⟨_,d i g,bA rfl rfl ⟨_,d j g,_,xK dI _ _ _,_,IU _ _ _,_,rfl,H _ _ g ?_⟩⟩;change(!((cF y:Int)%2==0)==(m.2==s.2))=d7↔_;rw[a2R,beq_eq_false_iff_ne];show⟨λz=>⟨h,c,z⟩,λz=>z.2.2⟩
def X5 k{ms:List ((Int×Int)×Str)}(nd:(ms.map (·.1)).Nodup)(ok:∀m∈ms,m.2="o"\/m.2="h"\/m.2="v")(hms:ms.length<=600)(hR:Rch T [s.1] (ms.map (·.1)) R)(hq:tU R q)(O:e∈R.map (·.1))(U:s∈ms)(S:SD ν κ A st kvs (b7 T))(gm:A[mk]?=b0 (.dT<|cD ms))(gr:Dc A r (cH R))(H0:X3 T ms A Q)(H:∀x5 Z x7 L,A<+:L->(∀t∈b7 T e,(q t.1+q t.2.1+dA t.2.2.1)%2=0)->(∀m∈ms,m.1=e->cA m.2=d7->cA s.2=d7->(cJ m.2+cJ s.2+q e)%2=0)->Q (.nx,qY st mk s.1 r (b0<|PP e) x5 Z x7,L)):
  W (Br (k+3) (qY st mk s.1 r (b0<|PP e) x5 Z x7) A) Q:=by
 have hR':=hR;obtain⟨rc,rU,cl⟩:=hR';have hU:(ms.map (·.1)).length<=600:=by rw[Yu];show hms
 obtain⟨m,G,rfl⟩:=YO.mp<|rU e O;show aS<|aK rfl<|B5 (k+2) (qX _) hU hR gr O _ λl μ1 y z p1 g1 o hy hl I=>?_;rw[YL.mp o]at hy;have I:=I q hq;show w_mSeq.mpr (w_mIfS.mpr<|X4 (k+2) nd G U (aJ p1 gm) (Zr hl<|by decide) g1 λb c p2 hb=>?_);cases b with
 |true=>obtain⟨M,N,b3⟩:=hb.mp rfl;show(if_pos rfl).mpr (w_mRet.mpr ⟨_,rfl,H0 _ _ _ y (p1.trans p2) (aJ p2 g1) (Zr hl<|by decide)<|.mark s m U G N M hy (λz=>b3 ?_) b3⟩);subst z;have v:=tW nd s U m G hy.nl;rw[v,beq_self_eq_true];rfl|false=>
  show(if_neg YE).mpr<|w_mNext.mpr ?_;have Y:=p1.trans p2;have B:=S.more Y;have mok:∀x∈ms,x.1=m.1->cA x.2=d7->cA s.2=d7->(cJ x.2+cJ s.2+q m.1)%2=0:=λx hm' v M N=>by have e2:=tW nd x hm' m G v;subst e2;have h1:((cF y:Int)%2==0)=(x.2==s.2):=a5A λz=>nomatch hb.mpr ⟨M,N,z⟩;rw[IS (o7 (ok _ G) M)<|o7 (ok _ U) N,a1U,beq_iff_eq,beq_iff_eq,IT]at h1;lia
  have n:∀a g,c<+:g->g[a]?=b0 (.lst<|(b7 T m.1).map aT)->W (eQ (dQ<|.loc a) (cC 6) (G0<|k+3) (((b7 T m.1).map aT).length+1) 0 (qY st mk s.1 r (b0<|PP m.1) (b0<|.loc l) Z x7) g) Q:=λa g h ga=>by
   show fP (RwI st mk s.1 r (b0<|PP m.1) g (b7 T m.1) q) (.mk (YS _) λ_ z=>by rw[ZG]at z;cases z) (by rintro _ _ _ ⟨p,_⟩;show aJ p ga) ?_ ?_
   .rintro i d _ μ5 hd ⟨K,j⟩;obtain⟨t,ht,rfl⟩:=tT hd;have hf:=YZ ht;have v:=(fr_mem.mp hf).1;show⟨_,rfl,aS<|aK rfl<|X2 k hU hR (gr.more<|Y.trans<|h.trans K) (by rw[v];show O) (cl _ O _ hf) (by rw[v];show hf) _ λa2 μ6 y2 p6 g6 E w6 q6=>?_⟩;have q6:=q6 q hq;show w_mIfS.mpr (jF<|d9<|aK rfl<|IL (k+2) (Zr E<|by decide) g6 _ λμ7 p7=>⟨rfl,?_⟩);cases o:(cF y2:Int)%2==0 with
    |true=>
     have o:=beq_iff_eq.mp o;show(if_neg YE).mpr<|w_mNext.mpr<|.mk (K.trans<|p6.trans p7) λu w=>?_;rw[e8 ht]at w;rcases YN.mp w with w|w
     .show j u w
     .rw[YL.mp w];lia
    |false=>
     have o:(cF y2:Int)%2=1:=by have:=beq_eq_false_iff_ne.mp o;lia
     show(if_pos rfl).mpr<|w_mRet.mpr ⟨_,rfl,H0 _ _ _ y2 (Y.trans<|h.trans<|K.trans<|p6.trans p7) (aJ p7 g6) E<|.odd _ w6 o⟩
   .rintro _ μ5 ⟨K,j⟩;rw[Yu,Zp]at j;show H _ _ _ _ (Y.trans<|h.trans K) j mok
  show w_mForI.mpr<|w_iSeq.mpr<|qS (a:=st) rfl B.dic<|aX ⟨_,rfl,aX ⟨_,rfl,_,rfl,?_⟩⟩;have h:=aR c<|C.lst [];cases X:a9 kvs (a8 m.1)with
  |some d=>
   obtain⟨a,rfl,_,g0⟩:=B.ats _ _ X;have ge:iJ (.loc st) [PP m.1,.loc c.length] (c++[C.lst []])=b0 (.loc a,c++[C.lst []]):=by simp only[iJ,aJ h B.dic,cT,Zh,X,a7X]
   show⟨_,ge,(cN<|aJ h g0).mpr<|n a _ h<|aJ h g0⟩
  |none=>
   have ge:iJ (.loc st) [PP m.1,.loc c.length] (c++[C.lst []])=b0 (.loc c.length,c++[C.lst []]):=by simp only[iJ,aJ h B.dic,cT,Zh,X,a3U]
   have gl:(c++[C.lst []])[c.length]?=b0 (.lst<|(b7 T m.1).map aT):=by rw[B.no _ X];show bB _ _
   show⟨_,ge,(cN gl).mpr<|n _ _ h gl⟩
inductive RxI (T:List St)(ms:List ((Int×Int)×Str))(st mk:Nat)(s:(Int×Int)×Str)(r:Nat)(ν:Hm)(E:List Ed)(q:Ed->Int):Nat->aF->Hm->Prop
 |mk {i:Nat}{x4 x5 x6 x7:Option D}{μ:Hm}(p:ν<+:μ)(ok:∀e∈E.take i,(∀t∈b7 T e,(q t.1+q t.2.1+dA t.2.2.1)%2=0)/\∀m∈ms,m.1=e->cA m.2=d7->cA s.2=d7->(cJ m.2+cJ s.2+q e)%2=0):RxI T ms st mk s r ν E q i (qY st mk s.1 r x4 x5 x6 x7) μ
def c_seq'{A:MS}(h:W (A b a) λp=>match p.1 with|.nx=>W (B p.2.1 p.2.2) R|f=>R (f,p.2.1,p.2.2)):W (aH A B b a) R:=w_mSeq.mpr<|bN h λp q=>by
 obtain⟨x,y⟩:=p;cases x<;>show q
def IV R:iH (cH R)=(R.map (·.1)).map PP:=by unfold iH cH;rw[Y0,Y0];rfl
def X6 k{T:List St}{ms:List ((Int×Int)×Str)}(nd:(ms.map (·.1)).Nodup)(ok:∀m∈ms,m.2="o"\/m.2="h"\/m.2="v")(n:ms.length<=600)(hT:∀t∈T,t.1∈ms.map (·.1)/\t.2.1∈ms.map (·.1))(hl:T.length<=1000)(N:s∈ms)(S:SD ν κ a st kvs (b7 T))(gm:a[mk]?=b0 (.dT<|cD ms))(Q:jz)(Y:∀l μ' y,a<+:μ'->μ'[l]?=b0 (.lst<|y.map aT)->y.length<=1201->BadR T ms y->Q (.loc l,μ'))(H:∀μ',a<+:μ'->NoRd T ms s->Q (.non,μ')):W (f (k+4) "round_within" [.loc st,.loc mk,PP s.1] a) Q:=by
 have hU:(ms.map (·.1)).length<=600:=by rw[Yu];show n
 have O:=aR a<|C.lst<|[s.1].map PP;show bS (U5 (k+3) _ _ _ a) (aS<|eV<|aX ⟨_,rfl,aX<|aY (r:=(.loc a.length,a++[C.lst<|[s.1].map PP])) rfl ⟨_,rfl,II (k+2) (M:=[s.1]) (qX _) hU (λe h=>by rw[YL.mp h];show YO.mpr ⟨s,N,rfl⟩) hT hl (S.more O) (bB _ _) _ λr w R p2 X K L=>?_⟩⟩);have pA:=O.trans p2;have E:=L;obtain⟨U,rU,cl⟩:=E;obtain⟨q,M⟩:=U.q;have G:a.length<r:=by rw[YF]at X;show X
 show c_seq'<|XY (a:=r) (kvs:=cH R) rfl K ?_;have g:=cK (c':=C.dF (cH R)) K;have v:=dB (c:=C.dF (cH R)) pA<|a0y G;change W (b8 _ _ _ _<|w.set r<|C.dF<|cH R) _;generalize w.set r (C.dF<|cH R)=μ2 at g v ⊢;have hit:mV (aA 3) [b0<|.loc st,b0<|.loc mk,b0<|PP s.1,b0<|.loc r,b5,b5,b5,b5] μ2=b0 (dQ<|.tup<|iH<|cH R,(cH R).length+1,μ2):=by change(mV (λ_ a=>b0 (D.loc r,a)) [] μ2)=_;simp only[mV,Y9,g]
 show w_mForI.mpr ⟨_,hit,?_⟩;rw[show(cH R).length=(iH<|cH R).length by unfold iH;rw[Yu]];show wL (x:=.tup (iH<|cH R)) (xs:=iH (cH R)) (b:=Br (k+3)) (λ_=>rfl) (RxI T ms st mk s r μ2 (R.map (·.1)) q) (.mk (YS _) λ_ z=>by rw[ZG]at z;cases z) ?_ ?_
 .rintro i d _ I hd ⟨c,b⟩;rw[IV]at hd;obtain⟨e,h,rfl⟩:=jG hd;show⟨_,rfl,X5 k nd ok n L M (YZ h) N (S.more<|v.trans c) (aJ (v.trans c) gm) (.inr<|aJ c g) (λl ρ μ' y u A hy hb=>?_) λ_ _ _ μ' u h1 h2=>.mk (c.trans u) λx j=>?_⟩
  .show⟨aJ (c.trans u) g,Y _ _ y (dB (v.trans<|c.trans u) (a0y G) _) ?_ hy hb⟩;have B:=aJ (c.trans u) g;rw[YW λz=>by rw[<- z,B]at A;cases A];show A
  .rw[e8 h]at j;rcases YN.mp j with j|j
   .show b x j
   .rw[YL.mp j];show⟨h1,h2⟩
 .rintro _ I ⟨c,b⟩;have o:(s.1,b5)∈R:=U.m _<|.head _;have p:∀e,Cn T s.1 e->e∈R.map (·.1):=λe hc=>hc.cl cl<|YO.mpr ⟨_,o,rfl⟩;rw[IV,Yu,Zp]at b;show⟨aJ c g,bT ⟨_,rfl,H _ (dB (v.trans c) (a0y G) _) ⟨q,M _ o,λe h=>(b e<|p e h).1,λm hm hc Z b2=>(b m.1<|p _ hc).2 m hm rfl Z b2⟩⟩⟩
def IW{d k:Type}{h:d->k}{U V:List d}(nd:V.Nodup)(c:∀e∈V,e∈U)(g:(U.map h).Nodup):(V.map h).Nodup:=a0C.mpr<|a2d (λ{a b} i j ne e=>ne<|tW g a (c a i) b (c b j) e) nd
abbrev xM(e:Ed):Int:=Tb.hashT<|a8 e
def X7:(((cE 6 6).filter cV).map xM).Nodup:=by decide +kernel
def X8(hw:w<=6)(j:h<=6){es:List Ed}(nd:es.Nodup)(g:∀e∈es,cP w h e):(es.map xM).Nodup:=IW nd (λe i=>by
 obtain⟨a,b⟩:=ZL.mp<|g e i;obtain⟨c,d⟩:=mem_pl.mp a;show ZL.mpr ⟨mem_pl.mpr ⟨⟨c.1,by lia⟩,d.1,by lia⟩,b⟩) X7
def X9{kvs more:jx}{Q:jz}(d:c[a]?=b0 (.dT kvs))(e:c[b]?=b0 (.dT more))(hz:kvs.length+more.length<=YM)(nd:(more.map λp=>Tb.hashT p.1).Nodup)(ne:a≠b)(H:Q (.non,c.set a<|.dT<|lV kvs more)):W (qG (.loc a) [.loc b] c) Q:=by show⟨_,?_,H⟩;simp only[qG,d,e];rw[if_pos ⟨hz,nd,ne⟩]
def IX:∀more kvs,(lV kvs more).length<=kvs.length+more.length
 |[],kvs=>YG _|p::more,kvs=>by have a:=IX more<|bW kvs p.1 p.2;have b:=B0 kvs p.1 p.2;change(lV (bW kvs p.1 p.2) more).length<=_;rw[Zc];lia
abbrev fG(kvs:jx)(e:Ed):Prop:=(a9 kvs<|a8 e).isSome=d7
def IY e:∀more kvs,fG (lV kvs more) e↔fG kvs e\/a8 e∈more.map (·.1)
 |[],kvs=>by change fG kvs e↔_;simp
 |p::more,kvs=>by
  change fG (lV (bW kvs p.1 p.2) more) e↔_;rw[IY e more,Za,Zm];have:fG (bW kvs p.1 p.2) e↔a8 e=p.1\/fG kvs e:=by
   unfold fG;rw[qR];by_cases z:a8 e=p.1
   .rw[if_pos z];show⟨λ_=>.inl z,λ_=>rfl⟩
   .rw[if_neg z];show⟨.inr,λy=>y.resolve_left z⟩
  rw[this,or_comm (a:=a8 e=p.1),or_assoc]
def Rc.cn(h:Rc T M R):∀e∈R.map (·.1),∃m∈M,Cn T m e:=by
 induction h with
 |st=>rw[tS];show λe a=>⟨e,a,.rf _⟩|sn h g c i b=>
  intro e a;rw[YV]at a;rcases YN.mp a with a|a
  .show b e a
  .obtain⟨m,d,hc⟩:=b _ c;rw[YL.mp a];show⟨m,d,.go hc g⟩
def Yb k{T:List St}{ms:List ((Int×Int)×Str)}(nd:(ms.map (·.1)).Nodup)(ok:∀m∈ms,m.2="o"\/m.2="h"\/m.2="v")(n:ms.length<=600)(hh:((ms.map (·.1)).map xM).Nodup)(E:∀t∈T,t.1∈ms.map (·.1)/\t.2.1∈ms.map (·.1))(G:T.length<=1000)(I:s∈ms){a:jx}(S:SD ν κ g st kvs (b7 T))(X:g[mk]?=b0 (.dT<|cD ms))(i:g[sn]?=b0 (.dT a))(hk:a.length<=1000000)(J:SnJ T ms (fG a))(u:cA s.2=d7\/∀m∈ms,cA m.2=d7->fG a m.1)(N:∀l ρ μ' y,g<+:μ'->μ'[l]?=b0 (.lst<|y.map aT)->y.length<=1201->BadR T ms y->Q (.rt<|.loc l,ρ,μ'))(H:∀b B μ',Kp sn g μ'->μ'[sn]?=b0 (.dT b)->b.length<=a.length+600->SnJ T ms (fG b)->fG b s.1->(∀e,fG a e->fG b e)->Q (.nx,[d0,b0<|.loc st,b0<|.loc mk,b0<|.loc sn,b0<|PP s.1,B],μ')):
  W (Bs (k+4) [d0,b0<|.loc st,b0<|.loc mk,b0<|.loc sn,b0<|PP s.1,B] g) Q:=by
 have hU:(ms.map (·.1)).length<=600:=by rw[Yu];show n
 show w_mIfS.mpr<|b9<|bA rfl rfl<|(wQ i<|cT s.1).mpr ⟨_,rfl,?_⟩;cases K:(a9 a<|a8 s.1).isSome with
 |true=>show(if_neg YE).mpr (w_mNext.mpr<|H a _ g (λ_ _ _ h=>h) i ⋯ J K λ_ h=>h)|false=>
  show(if_pos rfl).mpr<|aS<|aK rfl<|X6 k nd ok n E G I S X _ (λl c y j U hy hb=>?_) λc j hd=>?_
  .show Bv<|b9<|bA rfl rfl<|w_isnotLN.mpr ⟨_,rfl,rfl,iN ⟨_,rfl,N _ _ _ y j U hy hb⟩⟩
  .show jE<|b9<|bA rfl rfl<|w_isnotNN.mpr ⟨_,rfl,rfl,cZ<|w_mDrop.mpr<|qS (a:=sn) rfl (aJ j i)<|aX<|eV<|aX ⟨_,rfl,aX<|aY (r:=(.loc c.length,c++[C.lst<|[s.1].map PP])) rfl ⟨_,rfl,?_⟩⟩⟩;have L:=aR c<|C.lst<|[s.1].map PP;show II (k+3) (M:=[s.1]) (qX _) hU (λe o=>by rw[YL.mp o];show YO.mpr ⟨s,I,rfl⟩) E G (S.more<|j.trans L) (bB _ _) _ λr μ2 R p3 rl Y Z=>?_;obtain⟨w,rU,cl⟩:=Z;have M:=w.nd<|qX _;have A:=a0T M rU;rw[Yu]at A;have v:=j.trans<|L.trans p3;have ls:sn<c.length:=Zg (Yy.mp i).1 j.length_le;have kl:(cH R).length=R.length:=Yu ..;rw[YF]at rl;have d:∀e,fG (lV a<|cH R) e↔fG a e\/Cn T s.1 e:=λe=>by rw[IY,IF];show or_congr Iff.rfl ⟨λz=>?_,λz=>YO.mpr ⟨e,z.cl cl<|YO.mpr ⟨_,w.m _<|.head _,rfl⟩,rfl⟩⟩;obtain⟨x,hx,O⟩:=YO.mp z;obtain⟨m,u,hc⟩:=w.cn x hx;rw[YL.mp u,iR O]at hc;show hc
   show⟨_,rfl,X9 (aJ v i) Y (by rw[kl,Y2];lia) ?_ ⋯<|H _ _ _ ((Kp.pre v).trans .set) (cK<|aJ v i) ?_ (J.add hd (λz=>by unfold fG at z;rw[K]at z;cases z) u d) ((d _).mpr<|.inr<|.rf _) λe o=>(d e).mpr<|.inl o⟩
   .have e:((cH R).map λp=>Tb.hashT p.1)=(R.map (·.1)).map xM:=by unfold cH;rw[Y0,Y0];rfl
    rw[e];show IW M rU hh
   .have:=IX (cH R) a;lia
inductive RvJ (T:List St)(ms:List ((Int×Int)×Str))(L:List Ed)(d0:Option D)(st mk sn:Nat)(ν:Hm):Nat->aF->Hm->Prop
 |mk {i:Nat}{kvs:jx}{x4 x5:Option D}{μ:Hm}(kp:Kp sn ν μ)(g:μ[sn]?=b0 (.dT kvs))(hk:kvs.length<=600*i)(J:SnJ T ms (fG kvs))(dn:∀e∈L.take i,fG kvs e):RvJ T ms L d0 st mk sn ν i [d0,b0<|.loc st,b0<|.loc mk,b0<|.loc sn,x4,x5] μ
def IZ k(hw:1<=w/\w<=6)(O:1<=h/\h<=6)(hS:ShOk ms)(hI:∀m∈ms,cP w h m.1)(A:(bP w h).find? (dH<|aP ms)=b5)(hn:mX (gP (aP ms) w h))(I:Hm)(Q:jz)(H0:∀l μ' y,I<+:μ'->μ'[l]?=b0 (.lst<|y.map aT)->y.length<=1201->BadR (TT ms w h) ms y->Q (.loc l,μ'))(H:∀μ',I<+:μ'->Cst (TT ms w h) ms->Q (.non,μ')):W (f (k+10) "round_of" [SH w h ms] I) Q:=by
 have hT:=IB hw O ms;obtain⟨R,nd,ok⟩:=hS;have hs:=X8 hw.2 O.2 nd (λe c=>by obtain⟨m,g,rfl⟩:=YO.mp c;show hI m g);show bS (U6 (k+9) _ I)<|aS<|aK rfl<|XG k hw O A hn _ _ λκ j st kvs S=>aS<|aK rfl<|aY (XQ (k+8) nd j)<|aS<|w_mDNewT.mpr ?_;have p1:=aR j<|C.dT<|cD ms;have u:=bB j<|C.dT<|cD ms;have E:=S.more p1;generalize hμ2:j++[C.dT<|cD ms]=μ2 at p1 u E ⊢;generalize j.length=mk at u ⊢;have p2:=aR μ2<|C.dT [];have gn:=bB μ2<|C.dT [];have lk:mk<μ2.length:=(Yy.mp u).1;show c_seq' (w_mForI.mpr<|w_iSeq.mpr<|aM<|aK rfl<|XH (k+7) ⋯ _ _ λa n Y g4=>?_);have M:=aJ (p2.trans Y) u;have ml:(hG ms).length<=600:=by have:=a0p (λm:(Int×Int)×Str=>cA m.2) ms;unfold hG;rw[Yu];lia
 show aK rfl<|(GL M).mpr<|(tD (aJ (aR _ _) g4) (bB _ _) ?_).mpr ?_
 .unfold cD;rw[Yu,Yu,Yu,Y2];lia
 have ek:(cD ms).map (λk=>D.tup<|k.1.map D.int)=(ms.map (·.1)).map PP:=by unfold cD;rw[Y0,Y0];rfl
 rw[ek,<- YV];have Z:=(aR n<|C.lst<|(ms.map (·.1)).map PP).trans<|aR _<|C.lst<|(hG ms++ms.map (·.1)).map PP;have p:=bB (n++[C.lst<|(ms.map (·.1)).map PP])<|C.lst<|(hG ms++ms.map (·.1)).map PP;generalize(n++[C.lst<|(ms.map (·.1)).map PP]).length=b at p ⊢;generalize(n++[C.lst<|(ms.map (·.1)).map PP])++[C.lst<|(hG ms++ms.map (·.1)).map PP]=μ5 at Z p ⊢;have v:=aJ (Y.trans Z) gn;have bn:b≠μ2.length:=λz=>by rw[z,v]at p;cases p
 have pp:μ2<+:μ5:=p2.trans<|Y.trans Z;have ln:(hG ms++ms.map (·.1)).length<=1200:=by rw[YF,Yu];lia
 have mm:∀e∈hG ms++ms.map (·.1),∃m∈ms,m.1=e:=λe c=>by
  rcases YN.mp c with c|c
  .obtain⟨m,g,_,K⟩:=mkd_mem.mp c;show⟨m,g,K⟩
  .obtain⟨m,g,K⟩:=YO.mp c;show⟨m,g,K⟩
 show(cN p).mpr<|fP (b:=Bs (k+9)) (RvJ (TT ms w h) ms (hG ms++ms.map (·.1)) (b0<|SH w h ms) st mk μ2.length μ5) (.mk (λ_ _ _ h=>h) v (YG _) ⟨λ_=>0,(λ_ z=>nomatch z),(λ_ z=>nomatch z),λ_ _ z=>nomatch z⟩ λ_ z=>by rw[ZG]at z;cases z) (by rintro _ _ _ ⟨r,_,_,_,_⟩;show r _ _ bn p) ?_ ?_
 .rintro i d _ B hd ⟨r,g6,hk,J,s⟩;obtain⟨e,c,rfl⟩:=jG hd;have hi:=(Yy.mp c).1;obtain⟨m,g,rfl⟩:=mm e<|YZ c;have p6:μ2<+:B:=r.all pp<|YG _;show⟨_,rfl,Yb (k+5) nd ok R hs (λt G=>(xF G).1) hT g (E.more p6) (aJ p6 u) g6 ⋯ J ?_ (λl ρ μ' y p' L U A=>H0 _ _ y (E.pre.trans<|p6.trans p') L U A) λkvn' _ μ' X L hk' J' h1 h2=>.mk (r.trans X) L ⋯ J' λx o=>?_⟩
  .cases A:cA m.2 with
   |true=>show .inl rfl|false=>
    show .inr λx o bx=>s _ ?_;have T:x.1∈hG ms:=mkd_mem.mpr ⟨x,o,bx,rfl⟩;have N:(hG ms).length<=i:=a3f λz=>by rw[Ze z]at c;obtain⟨y,U,yb,ye⟩:=mkd_mem.mp<|YZ c;rw[tW nd y U m g ye,A]at yb;cases yb
    rw[a8I,Z6 N];show YN.mpr<|.inl T
  .rw[e8 c]at o;rcases YN.mp o with o|o
   .show h2 x<|s x o
   .rw[YL.mp o];show h1
 .rintro _ B ⟨r,g6,hk,J,s⟩;rw[Yu,Zp]at s;obtain⟨q,cl,ti,mk'⟩:=J;have all:∀e∈ms.map (·.1),_:=λe c=>s e<|YN.mpr<|.inr c;show bT ⟨_,rfl,H _ (E.pre.trans<|r.all pp<|YG _) ⟨q,λt G=>ti t.1 (all _ (xF G).1.1) t<|fr_mem.mpr ⟨rfl,.inl G⟩,λm g=>mk' m g<|all _<|YO.mpr ⟨m,g,rfl⟩⟩⟩
abbrev kW(gs:List Int):List (Nat×Nat×Bool):=if gs.length=2 then[(0,1,d7)]else(Zj gs.length).flatMap λi=>if iP gs i then(i,(i+1)%gs.length,dI)::(if gs.length=4 then[((i+2)%4,(i+3)%4,d7)]else[])else[]
abbrev Yc(m:Int×Int->Bool)(p:Int×Int)(t:Nat×Nat×Bool):Ti:=fR ((bK m p).getD t.1 (0,0)) ((bK m p).getD t.2.1 (0,0)) t.2.2 p
def Ja m p:f6 m p=(kW<|b6 m p).map (Yc m p):=by
 have e:=l8 m p;unfold f6 kW;rw[e];by_cases h:(bK m p).length=2
 .rw[if_pos h,if_pos h];rfl
 .rw[if_neg h,if_neg h,List.map_flatMap];congr 1;funext i;unfold gX jH;cases iP (b6 m p) i with
  |false=>rfl|true=>rw[if_pos rfl,if_pos rfl];split<;>rfl
def Yd:∀a b c d e g h i,(!(kZ<|fQ [a,b,c,d,e,g,h,i])||decide ((kW<|fQ [a,b,c,d,e,g,h,i]).map (·.2.2)).Nodup)=true:=by decide +kernel
def Ye:∀a b c d,(!(kZ<|fQ [a,b,c,d])||decide ((kW<|fQ [a,b,c,d]).map (·.2.2)).Nodup)=true:=by decide +kernel
def Yg(h:dH m p=dI):((kW<|b6 m p).map (·.2.2)).Nodup:=by
 have hc:(dH m p||decide ((kW<|b6 m p).map (·.2.2)).Nodup)=true:=by
  unfold dH b6 cB mv;split
  .show Yd _ _ _ _ _ _ _ _
  .show Ye _ _ _ _
 rw[h,a6I]at hc;show of_decide_eq_true hc
def Yh(h:dH m p=dI):(f6 m p).Nodup:=by have a:=Yg h;rw[Ja];unfold a4T at a ⊢;rw[a0C]at a ⊢;show a.imp λz e=>z<|congrArg (λt:Ti=>t.2.2.1) e
def Jb(h:t∈f6 m p):t.2.2.2=cU p:=by rw[Ja]at h;obtain⟨x,_,rfl⟩:=YO.mp h;rfl
def Yi(h:cU p=cU q):p=q:=by injection h with h1 h2;injection h2 with h2;show a4b h1 h2
def Yj:∀w∈[(1:Int),2,3,4,5,6],∀h∈[(1:Int),2,3,4,5,6],(bP w h).Nodup:=by decide +kernel
def Yk(hw:1<=w/\w<=6)(j:1<=h/\h<=6)(i:(bP w h).find? (dH<|aP ms)=b5):(gP (aP ms) w h).Nodup:=by
 have nd:=Yj w (nK hw) h<|nK j;have ok:∀c∈bP w h,dH (aP ms) c=false:=λc hc=>by
  have:=a0V.mp i c hc;cases z:dH (aP ms) c with
  |false=>rfl|true=>show absurd z this
 unfold gP;clear i hw j;generalize bP w h=d at nd ok;induction d with
 |nil=>show .nil|cons c d l=>obtain⟨n,o⟩:=ZO.mp nd;rw[a5i];show a0D.mpr ⟨Yh<|ok c<|.head _,l o λx a=>ok x<|.tail _ a,λs k t b e=>?_⟩;obtain⟨x,a,b⟩:=a3a.mp b;have g:=Jb k;rw[e,Jb b]at g;rw[Yi g]at a;show n a
def Yl s t a:∃b,eE 8 a (aT s) (aT t)=b0 b/\(s=t->b=d7):=by show⟨(s.1.1==t.1.1&&(s.1.2==t.1.2&&d7))&&((s.2.1.1==t.2.1.1&&(s.2.1.2==t.2.1.2&&d7))&&((s.2.2.1==t.2.2.1)&&((s.2.2.2.1==t.2.2.2.1&&(s.2.2.2.2==t.2.2.2.2&&d7))&&d7))),rfl,λh=>?_⟩;rw[h];simp
def Jc t d:∀T:List St,∃b,i5 d (aT t) (T.map aT)=b0 b/\(t∈T->b=d7)
 |[]=>⟨dI,rfl,λh=>nomatch h⟩|s::T=>by
  obtain⟨b,e,h⟩:=Jc t d T;obtain⟨c,g,i⟩:=Yl s t d;show⟨c||b,?_,λa=>?_⟩
  .change(eE 8 d (aT s)<|aT t).bind (λc=>(i5 d (aT t)<|T.map aT).map λb=>c||b)=_;rw[e,g];rfl
  .rcases Zm.mp a with a|a
   .rw[i a.symm];rfl
   .rw[h a,Bool.or_true]
def Ym{T:List St}(g:a[b]?=b0 (.lst<|T.map aT))(h:t∈T):c4 d7 (aT t) (.loc b) a=b0 (.bl dI,a):=by
 obtain⟨c,e,hc⟩:=Jc t a T;have d:c4 d7 (aT t) (.loc b) a=lK d7 (aT t) (.loc b) a:=by unfold aT;simp only[c4,g]
 rw[d];unfold lK;have i:bJ a (.loc b)=b0 (T.map aT):=by simp only[bJ,g]
 rw[i];change(i5 a (aT t)<|T.map aT).map _=_;rw[e,hc h];rfl
def Wy.all(h:Wy T m w e):∀s∈w,s∈b7 T s.1:=by
 induction h with
 |nil=>show λ_ h=>nomatch h|cons b h c=>
  intro s a;rcases Zm.mp a with rfl|a
  .show b
  .show c s a
def Wy.ch(h:Wy T m w e):∀i s t,w[i]?=b0 s->w[i+1]?=b0 t->s.2.1=t.1:=by
 induction h with
 |nil=>show λi s t h=>by simp at h
 |@cons u w e d h c=>
  intro i s t b a;cases i with
  |zero=>
   cases b;cases w with
   |nil=>simp at a|cons v w=>cases a;show h.hd
  |succ i=>show c i s t b a
def Wy.la(h:Wy T m w e):∀s,w[w.length-1]?=b0 s->s.2.1=e:=by
 induction h with
 |nil=>show λs h=>by simp at h
 |@cons u w e c h b=>
  intro s a;cases w with
  |nil=>cases a;show h.nl|cons v w=>show b s<|by simpa using a
def Jd k(h:w.length<=3000){a:Hm}(g:a[l]?=b0 (.lst<|w.map aT))(Q:jz)(H:∀μ',a<+:μ'->Q (.bl<|(cF w:Int)%2==1,μ')):W (f (k+1) "_law_odd" [.loc l] a) Q:=by
 show bS (Vs k _ a)<|bT<|aM<|aM<|eV<|aX<|fY (xs:=w.map aT) (p:=xG) (v:=λd=>d)<|w_iSeq.mpr ⟨_,rfl,(cN g).mpr ⟨iL g,rfl,by rw[Yu,Y2];lia,λd μ' hd b=>?_,λd μ' hd _ b=>⟨_,rfl,rfl,YS _⟩,λμ' b c=>⟨_,rfl,(d8 c).mpr ⟨_,rfl,(dM<|by decide).mpr ⟨_,rfl,w_eqI.mpr ?_⟩⟩⟩⟩⟩
 .obtain⟨s,i,rfl⟩:=YO.mp hd;show jF<|d9<|bA rfl rfl ⟨_,rfl,rfl,rfl,YS _⟩
 .have e:(((w.map aT).filter xG).map λd=>d).length=cF w:=by rw[Yu,a1T,Yu];rfl
  rw[e];show H _ b
def Yn(k:∀t∈T,c8 t.1 t.2.1=t.1/\c9 t.1 t.2.1=t.2.1/\c8 t.2.1 t.1=t.1/\c9 t.2.1 t.1=t.2.1)(hw:Wy T m w e){i:Nat}(h:w[i]?=b0 s)(gl:a[l]?=b0 (.lst<|w.map aT))(y:a[b]?=b0 (.lst<|T.map aT))(H:R (.nx,[b0<|.loc l,b0<|.loc b,b0<|.int (i:Int),b0<|aT s],a)):W (G2 [b0<|.loc l,b0<|.loc b,b0<|.int (i:Int),b0<|aT s] a) R:=by
 show jE<|tG<|jF<|d9 (b:=d7) ⟨_,rfl,rfl,rfl,tG<|b9 ⟨_,rfl,_,rfl,rfl,jF<|d9 (b:=d7) ⟨_,rfl,rfl,rfl,cZ ?_⟩⟩⟩;have z:=hw.all s<|YZ h;obtain⟨t,c,r⟩:∃t∈T,aT t=.tup [PP<|c8 s.1 s.2.1,PP<|c9 s.1 s.2.1,.bl s.2.2.1,PP s.2.2.2]:=by
  rcases(fr_mem.mp z).2 with c|c
  .show⟨s,c,?_⟩;obtain⟨o,p,_,_⟩:=k s c;rw[o,p];rfl
  .show⟨fF s,c,?_⟩;obtain⟨_,_,d,g⟩:=k _ c;have d:c8 s.1 s.2.1=s.2.1:=d;have g:c9 s.1 s.2.1=s.1:=g;rw[d,g];rfl
 have j:=Ym y c;rw[r]at j;show jE<|b9<|aM<|w_mTup.mpr<|aX<|aK rfl<|aY (BE _ _ a)<|aX<|aK rfl<|aY (BF _ _ a) ⟨_,rfl,BG rfl,_,rfl,_,j,_,rfl,rfl,cZ ?_⟩;cases i with
 |zero=>show w_mIfS.mpr ⟨_,bF<|w_mAndT.mpr ⟨_,rfl,(if_neg YE).mpr rfl⟩,(if_neg YE).mpr<|w_mNext.mpr H⟩|succ i=>
  have A:i<w.length:=by have:=(Yy.mp h).1;lia
  have n:w[i]?=b0 w[i]:=Yz A;have x:=hw.ch i _ _ n h;have u:aO (aC (aU d7) (aC aE (aC aE (aA 0)<|aC cX (aA 2)<|mC<|.int 1)<|mC<|.int 1)<|aC aE (aA 3)<|mC<|.int 0) [b0<|.loc l,b0<|.loc b,b0<|.int ((i+1:Nat):Int),b0<|aT s] a=b0 (dI,a):=by
   have v:aE (.loc l) (.int<|((i+1:Nat):Int)-1) a=b0 (aT w[i],a):=by rw[show(((i+1:Nat):Int)-1)=(i:Int) by lia];show bF<|(fN gl<|qM<|by rw[YU,n];rfl).mpr rfl
   show gZ<|bF<|aM<|aM<|aM ⟨_,rfl,bA rfl rfl<|w_subI.mpr ⟨_,v,_,rfl,_,rfl,_,rfl,?_⟩⟩;show⟨_,xH d7 w[i].2.1 s.1 a,?_⟩;rw[x];simp
  show w_mIfS.mpr ⟨_,qQ (gZ (b:=decide ((0:Int)<((i+1:Nat):Int)))<|bF<|bA rfl rfl<|w_gtI.mpr rfl) u,?_⟩;rw[a6p];show(if_neg YE).mpr<|w_mNext.mpr H
def Yo k(h:∀t∈T,c8 t.1 t.2.1=t.1/\c9 t.1 t.2.1=t.2.1/\c8 t.2.1 t.1=t.1/\c9 t.2.1 t.1=t.2.1)(hw:Wy T m w e)(gl:a[l]?=b0 (.lst<|w.map aT))(g:a[b]?=b0 (.lst<|T.map aT)):f (k+1) "_law_steps" [.loc l,.loc b] a=b0 (.bl d7,a):=by
 show bF<|bS (Vr k _ _ a)<|jE<|jF<|d9<|aK rfl<|(Uc gl).mpr ⟨rfl,rfl,cZ<|dN<|w_mForI.mpr<|GK ⟨_,rfl,l,w.map aT,rfl,gl,?_⟩⟩;show Ug (λi n c=>c=a/\∃x y,n=[b0<|.loc l,b0<|.loc b,x,y]) ⟨rfl,_,_,rfl⟩ (by rintro _ _ _ ⟨rfl,_⟩;show gl) ?_ ?_
 .rintro i d _ _ hd ⟨rfl,x,y,rfl⟩;obtain⟨s,j,rfl⟩:=tT hd;show⟨_,rfl,Yn h hw j gl g ⟨rfl,_,_,rfl⟩⟩
 .rintro _ _ ⟨rfl,x,y,rfl⟩;show⟨rfl,bT ⟨_,rfl,rfl⟩⟩
def Yp b{ds:List D}(hA:a[A]?=b0 (.lst ds))(hB:a[B]?=b0 (.lst [])):aU b (.loc A) (.loc B) a=b0 (.bl<|if b then !ds.isEmpty else ds.isEmpty,a):=by
 have c:∀{x:Nat}{xs:List D},a[x]?=b0 (.lst xs)->mJ a (.loc x)=b0 (.lst xs):=λh=>by simp only[mJ,h]
 have e:eE 8 a (.loc A) (.loc B)=b0 ds.isEmpty:=by change(mJ a<|.loc A).bind (λu=>(mJ a<|.loc B).bind λv=>uH (eE 7 a) u v)=_;rw[c hA,c hB];change lG (eE 7 a) ds []=_;cases ds<;>rfl
 unfold aU;rw[e];cases b<;>rfl
def Je{s:Str}(h:s="h"\/s="v"):(s==("o":Str))=false:=by rcases h with rfl|rfl<;>decide +kernel
def Yq k{ms:List ((Int×Int)×Str)}(nd:(ms.map (·.1)).Nodup)(ok:∀m∈ms,m.2="o"\/m.2="h"\/m.2="v")(g:x∈ms)(h:y∈ms)(i:cA x.2=d7)(d:cA y.2=d7)(s:w.length<=3000)(n:((cF w:Int)%2==0)≠(y.2==x.2))(r:b[a]?=b0 (.dT<|cD ms))(gl:b[l]?=b0 (.lst<|w.map aT))(H:∀A μ',R (.rt<|.bl d7,A,μ')):
  W (Bt (k+1) [b0<|.loc l,d1,d2,b0<|.loc a,j,d5,b0<|PP x.1,b0<|PP y.1] b) R:=by
 have c:∀{z:(Int×Int)×Str},z∈ms->aE (.loc a) (PP z.1) b=b0 (.str z.2,b):=λ{z} u=>bF<|(l6 r (cT z.1)<|IP nd u).mpr rfl;show jE<|tG<|b9<|aM<|bA rfl rfl ⟨_,c g,_,rfl,_,xK dI _ _ _,_,rfl,Je<|o7 (ok x g) i,b9<|aM<|bA rfl rfl ⟨_,c h,_,rfl,_,xK dI _ _ _,_,rfl,Je<|o7 (ok y h) d,cZ<|bT<|aM<|aM<|bA rfl rfl ⟨_,c g,bA rfl rfl ⟨_,c h,_,xK d7 _ _ _,aK rfl<|Jd k s gl _ λv B=>⟨_,IU _ _ _,?_⟩⟩⟩⟩⟩;have o:((cF w:Int)%2==1)=!((cF w:Int)%2==0):=by
  have:(cF w:Int)%2=0\/(cF w:Int)%2=1:=by lia
  rcases this with e|e<;>rw[e]<;>rfl
 have p:(!((if d7=d7 then !(x.2==y.2)else x.2==y.2)==((cF w:Int)%2==1)))=true:=by rw[o,if_pos rfl,BEq.comm (a:=x.2)];revert n;cases(cF w:Int)%2==0<;>cases y.2==x.2<;>simp
 rw[p];show H _ _
inductive LrI (d0 d1 d2:Option D)(a:Nat)(ms:List ((Int×Int)×Str))(ν:Hm):Nat->aF->Hm->Prop
 |mk {i:Nat}{x y:Option D}{μ:Hm}(p:ν<+:μ)(g:μ[a]?=b0 (.dT<|cD<|ms.take i)):LrI d0 d1 d2 a ms ν i [d0,d1,d2,b0<|.loc a,x,y,b5,b5] μ
def Jf k(hS:ShOk ms)(hT:∀t∈T,c8 t.1 t.2.1=t.1/\c9 t.1 t.2.1=t.2.1/\c8 t.2.1 t.1=t.1/\c9 t.2.1 t.1=t.2.1)(hB:BadR T ms y)(hl:y.length<=1201)(gl:r[l]?=b0 (.lst<|y.map aT))(gb:r[b]?=b0 (.lst<|T.map aT))(Q:jz)(H:∀μ',Q (.bl d7,μ')):W (f (k+2) "_law_is_round" [.loc l,.loc b,SH w h ms] r) Q:=by
 obtain⟨hms,nd,ok⟩:=hS;obtain⟨u,v,e,ne⟩:∃u v,Wy T u y v/\y≠[]:=by
  cases hB with
  |odd u e n=>show⟨u,u,e,λz=>by rw[z]at n;cases n⟩|mark x z _ _ _ _ e ne _=>show⟨_,_,e,ne⟩
 have Y:=aR r<|C.lst [];have e0:(y.map aT).isEmpty=false:=by cases y with
  |nil=>show absurd rfl ne|cons=>rfl
 show bS (Vt (k+1) _ _ _ r)<|jE<|tG<|jF<|d9<|aK rfl<|aY (Yo k hT e gl gb) ⟨rfl,rfl,b9<|bA rfl rfl ⟨_,Yp dI (aJ Y gl)<|bB _ _,_,rfl,e0,cZ ?_⟩⟩;have E:=aJ Y gl;change W (aH _ _ _<|r++[C.lst []]) _;generalize r++[C.lst []]=μ1 at E ⊢;show aS<|w_mDNewT.mpr<|dN<|w_mForI.mpr<|w_iSeq.mpr<|bA rfl rfl<|w_it32.mpr<|w_seqT.mpr ?_;show wL (x:=.tup (ms.map MD)) (xs:=ms.map MD) (λ_=>rfl) (LrI (b0<|.loc l) (b0<|.loc b) (b0<|SH w h ms) μ1.length ms μ1) (.mk (aR _ _)<|by rw[ZG];show bB _ _) ?_ ?_
 .rintro i d _ μ8 hd ⟨p,g⟩;obtain⟨m,O,rfl⟩:=B6 hd;show⟨_,rfl,w_mPut.mpr ⟨_,rfl,_,rfl,_,rfl,(nH g (cT m.1)<|by unfold cD;rw[Yu,Zb,Y2];lia).mpr<|.mk (dB p (YG _) _) ?_⟩⟩;rw[cK g,e8 O];show congrArg (λy=>b0<|C.dT y)<|BZ ?_;have:=oY nd (n:=i) (x:=m.1) (by rw[YU,O];rfl);rw[<- a6E]at this;show this
 .rintro _ c ⟨p,N⟩;rw[Yu,Zp]at N;have j:=aJ p E;have Z:0<y.length:=List.length_pos_iff.mpr ne;have ef:aE (.loc l) (.int 0) c=b0 (aT y[0],c):=bF ((fN j<|qM (i:=0)<|by rw[YU,Yz Z];rfl).mpr rfl);have ez:aE (.loc l) (.int<|-1) c=b0 (aT y[y.length-1],c):=bF<|(fN j<|by
   have K:=BI (xs:=y.map aT) (i:=0) (by rw[Yu];show Z);rw[Yu,a0R,a4d<|by omega,YU,Yz<|by lia]at K;show K).mpr rfl
  have hu:y[0].1=u:=by
   cases y with
   |nil=>show absurd rfl ne|cons s y=>show e.hd.symm
  have hv:y[y.length-1].2.1=v:=e.la _ (Yz<|by lia);show⟨rfl,aS<|aM<|bA rfl rfl ⟨_,ef,_,rfl,aY (r:=(PP y[0].1,c)) rfl<|aS<|aM<|bA (y:=.int (-1)) rfl rfl ⟨_,ez,_,rfl,aY (r:=(PP y[y.length-1].2.1,c)) rfl ?_⟩⟩⟩;rw[hu,hv];have fin:∀μ' x z,c<+:μ'->x∈ms->z∈ms->cA x.2=d7->cA z.2=d7->((cF y:Int)%2==0)≠(z.2==x.2)->x.1=u->z.1=v->∀{M d5:Option D}{R:Fl×aF×Hm->Prop},(∀ρ μ',R (.rt<|.bl d7,ρ,μ'))->W (Bt (k+1) [b0<|.loc l,b0<|.loc b,b0<|SH w h ms,b0<|.loc μ1.length,M,d5,b0<|PP u,b0<|PP v] μ') R:=λμ' x z X G I A B n K e2 M d5 R HR=>by subst K e2;show Yq k nd ok G I A B ⋯ n (aJ X N) (aJ X j) HR
  show w_mSeq.mpr<|w_mIfS.mpr<|w_mAndT.mpr ⟨_,gZ<|bF<|bA rfl rfl ⟨_,xH dI u v c,rfl⟩,?_⟩;change if decide (u=v)=d7 then _ else _
  by_cases o:u=v
  .rw[decide_eq_true o];show(if_pos rfl).mpr (d9<|aK rfl<|Jd k ⋯ j _ λL p3=>⟨rfl,?_⟩);cases U:(cF y:Int)%2==1 with
   |true=>show(if_pos rfl).mpr (w_mRet.mpr ⟨_,rfl,H _⟩)|false=>
    show(if_neg YE).mpr<|w_mNext.mpr ?_;cases hB with
    |odd a' a n=>rw[n]at U;cases U|mark x z G I A B a _ n=>show fin L x z p3 G I A B n (a.uniq ne e).1 (a.uniq ne e).2 λ_ _=>H _
  .rw[decide_eq_false o];show(if_neg YE).mpr<|(if_neg YE).mpr<|w_mNext.mpr ?_;cases hB with
   |odd a' a n=>show absurd ((a.uniq ne e).1.symm.trans (a.uniq ne e).2) o|mark x z G I A B a _ n=>show fin c x z (YS _) G I A B n (a.uniq ne e).1 (a.uniq ne e).2 λ_ _=>H _
def Yr k(ns:List Int)T:W (f (k+11) "law" [.rol<|ns.map D.int] T) λp=>p.1=.bl true:=by
 show bS (Vu (k+10) _ T)<|aS<|aK rfl<|Xr (k+3) ns _ _ λw h S μ1 hw n Q N=>?_;have e:=Q;obtain⟨hl,nd,ok⟩:=Q;cases o:(bP w h).find? (dH<|aP S)with
 |some c=>show Bv (b9<|aM<|aK rfl<|HL (k+8) hw n ⋯ _ _ λI Y=>⟨_,rfl,by rw[o];show w_isnotTN.mpr ⟨_,rfl,rfl,iN ⟨_,rfl,rfl⟩⟩⟩)|none=>
  have A:mX (gP (aP S) w h):=Yk hw n o;have O:∀t∈TT S w h,_:=λt B=>(xF B).2;show jE (b9<|aM<|aK rfl<|HL (k+8) hw n ⋯ _ _ λI Y=>⟨_,rfl,?_⟩);rw[o];show w_isnotNN.mpr ⟨_,rfl,rfl,cZ ?_⟩;show aS (aK rfl<|Wj (k+8) hw n ⋯ A _ _ λb μ3 p3 _ u=>?_);rw[IC]at u;show aS<|aK rfl<|XW (k+9) e (λt B=>(xF B).1) u _ (λK H X=>?_) λa K r p H L M cn=>?_
  .show aS<|aK rfl<|IZ k hw n e N o A _ _ (λl i y g x E v=>?_) λi g z=>?_
   .show jE<|w_mAndT.mpr<|b9<|bA rfl rfl<|w_isnotNN.mpr ⟨_,rfl,(if_neg YE).mpr ⟨rfl,cZ<|bT<|aK rfl<|Jf (k+8) e O v E x (aJ (H.trans g) u) _ λ_=>rfl⟩⟩
   .obtain⟨q,Z,_⟩:=z;show absurd Z<|X q
  .show aS<|aK rfl<|IZ k hw n e N o A _ _ (λl i y g x E v=>?_) λi g z=>?_
   .show jE<|w_mAndT.mpr<|b9<|bA rfl rfl<|w_isnotLN.mpr ⟨_,rfl,(if_pos rfl).mpr<|b9<|aM<|aK rfl<|IQ (k+9) e (aJ g L) _ (λj s R=>⟨_,rfl,?_⟩) λd j G s U J=>?_⟩
    .show w_isnotNN.mpr ⟨_,rfl,rfl,cZ<|bT<|aK rfl<|Jf (k+8) e O v E (aJ s x) (aJ (H.trans<|g.trans s) u) _ λ_=>rfl⟩
    .show(v.no ok M J.cons).elim
   .show Bv<|w_mAndT.mpr<|b9<|bA rfl rfl<|w_isnotLN.mpr ⟨_,rfl,(if_pos rfl).mpr<|b9<|aM<|aK rfl<|IQ (k+9) e (aJ g L) _ (λj s R=>?_) λd j G s U J=>⟨_,rfl,?_⟩⟩
    .show absurd (z.cons M cn) R
    .show w_isnotLN.mpr ⟨_,rfl,rfl,iN<|bA rfl rfl<|w_isNN.mpr rfl⟩
def Ys:∀ns:List Int,ns.length<=63->∃μ',jV S ds 11 "law" [.rol<|ns.map D.int] []=b0 (.bl d7,μ'):=λns _=>by obtain⟨⟨d,μ'⟩,a,b⟩:=Yr 0 ns [];dsimp only at b;subst b;show⟨μ',?_⟩;unfold f at a;show a
def dz Q:wJ (Kx Q) ds:=by unfold wJ;kernel_rfl
def cz Q:GF (Kx Q) S.con=true:=by kernel_rfl
def nz Q:S.no.map (a3n (Kx Q) a0j)=S.no.map λ_=>b0 none:=by kernel_rfl
def Yt{P:Y4}{w:Zk}{Q:a0I}
  {d0:Addr}{k:a7F}{d:a7F}{l:a7F}{g:a7F}{a:Nat}
  (g_TURNED:a3n (Kx Q) a0j "TURNED"=b0 (b0<|.ref d0))
  (hd0:(Kx Q).lookup d0=b0 {cls:=.type "dict",data:=.dict #[⟨hashStr w "h",.str "h" k,.str "v" d⟩,⟨hashStr w "v",.str "v" l,.str "h" g⟩] a})
  (zd0:(d0==Z3)=dI)
  {h:ZX}{mg:Str → Option Value}(X:(Kx Q).In h)(G:h.Ns a0j mg):TxtOk P w (Kx Q) mg S ds ∧ ∃f c,Fun (Kx Q) "law" "law" (aI 88) f c ∧ mg "law"=b0 (.ref f) ∧ ∀(s:YA)(u:Value),a6f s c ⟨[u],[]⟩ [("_law_script",u)]:=by
 show⟨⟨TJ<|by decide +kernel,TK λp j=>(GB X G (dz Q) p j).1,TL<|TX X G<|cz Q,λx b e=>?_,TQ<|TV X G<|nz Q⟩,TU X G (dz Q) (by kernel_rfl)<|by kernel_rfl⟩
 .show TM ?_ x b e;show List.forall_mem_cons.mpr ⟨⟨d0,[(a2S "h",(.str "v")),(a2S "v",(.str "h"))],[(a2S "h",a4a "v" d),(a2S "v",a4a "h" g)],a4y X G g_TURNED,zd0,λn i=>TN (ks:=[a2S "h",a2S "v"]) (i _ _ hd0) (.cons (Gw _ _) rfl rfl<|.cons (Gw _ _) rfl rfl<|.nil) (by decide +kernel) rfl,.cons ⟨rfl,⟨_,rfl⟩⟩<|.cons ⟨rfl,⟨_,rfl⟩⟩<|.nil,λ_ _ _=>.cons (.str _)<|.cons (.str _)<|.nil⟩,λ_ z=>nomatch z⟩
end Lw
open PySem PySem.W PyProof.Rows
set_option maxRecDepth 100000 in
set_option maxHeartbeats 0 in
theorem PySem.Challenge.cw_creasecourt_k52_whole_rounds_holds : PySem.Challenge.rw_creasecourt_k52_whole_rounds.Holds := by
 w_on
 refine holds_law Lw.LM fun a=>?_
 refine holds_open (q:=Lw.Vw) (loose:=["TURNED"]) (Xt:=fun s=>xlAt Lw.Vw [] s&&recOk (a9P<|a8v<|ZK YD) s) (XP:=XL Lw.Vw []) (Yf:=Hook.obs (b0V Lw.Kx Lw.As Lw.rJ)) (Ya:=Hook.val (b0V Lw.Kx Lw.As Lw.rJ)) (YP:=Hook.says (b0V Lw.Kx Lw.As Lw.rJ)) (N:=7562) Lw.run (Hook.of _) (Hook.keeps _) (fun s e=>xl_of s (a1G.mp e).1) XL.keeps (by rfl) (by rfl) (by rfl) (fun s e=>recFacts_of (a1G.mp e).2) (by rfl) (by first|assumption|decide +kernel) (by decide +kernel) ⟨rfl,rfl,rfl,rfl,rfl,by decide +kernel⟩ ?hw ?hc
 case hw=>w_witness2
 k_fill
 refine L3.walkM (l:=YD) (S:=Lw.S) (ds:=Lw.ds) (k:=11) (st:=Lw.aI 88) (x:="_law_script") rfl rfl ⟨rfl,by decide,by decide⟩ (fun w h Y=>PySem.W.kIn_of Y) (by kernel_rfl) (by kernel_rfl) ?F fun c h _=>Lw.Ys c h
 case F=>
  intro w d h b G
  refine' @Lw.Yt Z1 w _ 344 633 634 635 636 2 ?g_TURNED ?hd0 ?zd0 _ _ b G
  (case g_TURNED=>kernel_rfl)
  (case hd0=>kernel_rfl)
  (case zd0=>exact rfl)
