import PyProof.Rows.All
import Wide.All
import OpenK.AllK
import PySem.Challenge.RW_creasecourt_k62_what_crosses
open Option renaming some->aX,none->aY
open Bool renaming false->b4,true->b5
open And renaming symm->a5V
open Array renaming mk->YJ,getElem?_toList->YW,length_toList->Z5,getElem?_eq_some_iff->a1Z,getD->a2a,getElem?_eq_getElem->a2j,getElem?_eq_none->a2C,replicate->a4a,append_assoc->a5U,toList_push->a6f,toList->a7B,map->a8H
open Bool renaming and_eq_true->XG,false_ne_true->X9,false_eq_true->Yb,eq_iff_iff->Zw,not_eq_true'->Z1,or_eq_true->Z2,not_false->a0V,and_eq_true_iff->a0W,not_true->a1f,or_false->a3o,and_true->a3p,eq_false_iff->a3D,noConfusion->a6T,false_and->a7s,not_not->a7O
open Classical renaming choose->a3m,byContradiction->a3U,choose_spec->a4C
open False renaming elim->Z0
open ForInStep renaming yield->a1b
open Int renaming emod_lt_of_pos->a0c,emod_nonneg->a0F,toNat_natCast->a1t,add_zero->a1X,mul_eq_zero->a2O,zero_add->a3M,neg_add_cancel_left->a5k,zero_mul->a5y,mul_zero->a5z,mul_one->a5T,emod_add_emod->a6R,emod_two_eq->a7q,neg_neg->a8z,neg_mul->a8A,mul_neg->a8B
open List renaming length_map->Xx,getElem?_eq_some_iff->Xz,getElem?_set_ne->XB,mem_map->XH,length_append->XI,getElem?_eq_getElem->XM,getElem?_map->XR,map_cons->XS,size_toArray->XW,mem_singleton->XX,map_append->X4,mem_of_getElem?->X6,mem_cons_of_mem->X7,mem_cons_self->X8,map_map->Yc,map_congr_left->Ye,mem_cons->Yi,append_nil->Yl,length_cons->Ym,contains_iff_mem->Yo,mem_filter->Yp,mem_append->Yq,replicate->Yv,prefix_refl->Yw,nodup_cons->Yx,getElem?_eq_none_iff->Yy,getElem?_set_self->YA,getElem?_append_left->YC,filter_cons_of_pos->YD,filter_cons_of_neg->YE,length->YF,all_cons->YG,zipWith_cons_cons->YH,length_take_le'->YK,length_set->YL,length_filter_le->YM,range->YN,append_assoc->YO,mem_append_right->YQ,take_length->YS,set_cons_zero->Y2,nodup_append->Y5,mem_append_left->Y6,set_cons_succ->Za,filter_append->Zb,filter_sublist->Zo,length_replicate->Zp,mem_range->Zs,getElem?_append_right->Zt,getD_eq_getElem?_getD->Zu,take_of_length_le->Zx,length_take->Zy,getD->Zz,getElem?_eq_none->ZC,filterMap_append->ZD,nodup_nil->ZF,reverse_reverse->ZJ,filterMap_cons->ZR,filterMap_cons_some->ZW,flatMap_append->Z6,length_drop->Z9,cons_append->a0a,eq_replicate_iff->a0b,reverse_append->a0q,length_eq_zero_iff->a0r,getElem_mem->a0s,getElem?_replicate->a0t,all_eq_true->a0u,reverse->a0w,pairwise_cons->a0x,map_nil->a0y,filter_eq_nil_iff->a0z,nil_append->a0C,find?_cons->a0D,filter_nil->a0E,take_append_drop->a0I,mem_iff_getElem?->a0J,reverse_cons->a0L,perm_ext_iff_of_nodup->a0U,not_mem_nil->a0Y,filter_cons->a0Z,pairwise_iff_getElem->a1c,length_nil->a1h,ext_getElem?->a1o,mem_flatMap->a1x,lookup_cons->a1y,set_append_left->a1E,pairwise_append->a1F,map_id->a1G,eq_nil_of_length_eq_zero->a1H,foldl_cons->a1K,length_reverse->a1Q,prefix_append->a2b,mem_filterMap->a2c,find?_eq_none->a2d,range'->a2o,range'_succ->a2x,flatMap_nil->a2y,flatMap_def->a2z,zipWith->a2F,set_set->a2G,range_succ->a2M,set_append_right->a2N,take_zero->a2U,mem_of_mem_take->a2V,mem_of_mem_drop->a2W,lookup->a2X,filterMap->a2Y,length_pos_iff->a3g,map_take->a3l,append_of_mem->a3r,foldl_append->a3B,flatMap_cons->a3C,map_reverse->a3S,of_mem_zip->a4c,exists_mem_of_ne_nil->a4M,drop_eq_getElem_cons->a4N,getElem?_take_of_lt->a4W,any_cons->a4X,pairwise_singleton->a5c,getElem?_cons_succ->a5d,flatMap_eq_nil_iff->a5e,range_succ_eq_map->a5h,length_pos_of_mem->a5i,append_eq_nil_iff->a5j,length_singleton->a5w,dropLast_eq_take->a5x,reverse_eq_iff->a5Q,getElem_of_mem->a5R,getD_cons_zero->a5S,zip_cons_cons->a6c,map_filterMap->a6d,getElem_idxOf->a6e,take_add_one->a6z,reverse_perm->a6A,map_inj_left->a6B,length_range->a6C,filter_congr->a6D,count_append->a6E,reverse_nil->a6N,mem_reverse->a6O,getElem_inj->a6P,ext_getElem->a6Q,range_zero->a7g,forIn_cons->a7h,take_left->a7o,drop_zero->a7p,map_set->a7M,map_id'->a7N
open List.Pairwise renaming map->a1I,nil->a4B
open Nat renaming le_refl->XJ,ne_of_lt->XU,lt_of_lt_of_le->Yh,le_trans->Ys,zero_le->Yu,ne_of_gt->YT,lt_succ_self->ZK,le_of_lt->a0B,lt_irrefl->a0H,mul_le_mul->a1s,not_lt->a1C,not_lt_zero->a1P,lt_trans->a1V,le_of_eq->a1W,lt_of_succ_lt->a2q,le_succ->a3a,succ_pos->a3I,succ_mul->a3J,lt_succ_of_lt->a3K,add_comm->a3L,exists_eq_add_of_le->a5g,sub_zero->a5u,lt_or_ge->a5v,mod_lt->a6y,lt_trichotomy->a6L,le_of_lt_succ->a6M,lt_of_not_le->a7e,le_of_not_lt->a7f,lt_succ_iff->a7n,sub_self->a8a,add_zero->a8b,log2_lt->a8y
open Ne renaming symm->Yn
open Option renaming bind_eq_some_iff->Xv,map_eq_some_iff->XA,bind_some->XY,map_some->X3,isSome_map->a2f,getD_none->a3A,none->a7A
open Option.some renaming inj->XZ
open Or renaming inr->a3z,inl->a4V
open Prod renaming ext->YV
open Prod.mk renaming inj->a2L,injEq->a6J
open PyProof.Rows renaming callWith_type1->Zi,seqObj->Zv,IntsAre->a0M,callWith_builtin1->a2S,entry_list_sort->a3f,slot_list_sort->a3u,args_list_sort->a3x,AllBare->a3E,subscriptTail->a3O,listUpdate_at->a3P,sortedHeap->a3X,assignInOrder_cons->a3Y,lt_int->a4s,envOfC->a4t,IsTup->a4u,seqEpoch_at->a4Q,Subscript_->a5s,subscriptTail_builtinR->a6k,assignInOrder_nil->a7I,list_sort_plain->a8h,get?_update_seq->a8j,wpAny_notIn_heap->a8l,oneLt_int->a8m,mul_int->a8n,mirror_perm->a8o,floordiv_int->a8p,entry_proto_collect'->a8q,entry_list_iadd'->a8r,call_len_slot->a8s,callWith_kw->a8t,bubble_perm->a8u,bubble->a8v,assign_Tuple_tuple->a8w,assign_Tuple->a8x,tail_any->a8J,sortedHeap_old->a8K
open PyProof.Rows.Boot renaming tuple->a1m,list->a1r,min->a1w,sorted->a2K,int->a2T,str->a6q,reversed->a6r,max->a6s,len->a6t,isinstance->a6u,dict->a6v,bool->a6w
open PySem renaming wpAny_bind->Xw,wpAny_pure->XC,Shared->XD,sizeLine->XQ,sizeLine_eq->X2,wpAny->X5,model->Yg,Program->Yk,starEach->Yr,Around->Yt,World->Yz,wpAny_holding->YI,compareOp->YU,sysModules->YY,Heap->YZ,wpAny_newObj_type->Y4,wpAny_mono->Y8,mem_of_lookup->Zc,wpAny_call_entry->Ze,wpAny_dictEntries->Zf,Pos->Zj,cLine->Zk,mainGlobals->Zq,bootBuiltins->ZA,Params->ZG,tupleKind->ZH,wpAny_Call_Name_kw->ZL,wpAny_truthy_bool->ZT,assignEach->ZU,intKind->ZZ,sliceBounds->Z3,treeTable->Z8,swappedStores->a0d,plainId_quiet->a0e,Scope->a0g,FuncData->a0h,wpAny_notOrdered_dict->a0i,argBest->a0j,backTo->a0l,wpAny_dictEpoch->a0n,NameKind->a0p,attributeBase->a0v,wpAny_isInstance->a0A,wpAny_setField_rec->a0K,wpAny_updateSeq->a0O,wpAny_passesOwn->a0P,wpAny_ite_split->a0Q,codeAny_builtin->a0R,binaryOp->a0S,behindInMarks->a0T,foldedSetIterable->a0X,Keyword->a1a,codeAny->a1g,rawInt->a1k,CmpOp->a1n,wpAny_rule->a1p,pyNext->a1q,wpAny_Call_method0_late->a1u,firstArgMember->a1A,compEnvC->a1B,evalArgs_none->a1J,swapsWith->a1M,wpAny_standAt->a1R,wpAny_newList->a1S,wpAny_field->a1T,keywordEach->a1U,wpAny_richCompare_same_room->a2l,call_meetsIn->a2m,OsState->a2n,wpAny_tryCatch->a2s,wpAny_setField->a2t,constantsAlone->a2u,Paired->a2w,wpAny_letGo->a2D,richCompare->a2E,pyIter->a2H,foldedForSure->a2I,wpAny_callSpecial?_slot->a2P,atKey->a2Q,wpAny_isOneOf_itemiter->a2Z,wpAny_specialOf->a3c,wpAny_execs_nil->a3d,letOwnedTupleGo->a3e,Env->a3h,wpAny_isOneOf_valiter->a3i,wpAny_seqItems->a3s,wpAny_of_eq->a3t,backToKw->a3v,assign->a3w,IsRangeIter->a3y,swapsWithSole->a3N,assignInOrder->a3Q,IsItemIterOut->a3T,wpAny_pyIter_slot->a4e,wpAny_pyIter_list->a4f,slot_list_getitem->a4g,setField->a4h,codeAny_mono->a4l,callerA->a4m,BindsTo->a4w,updateSeq->a4E,Result->a4H,PassesOwn->a4L,subscripted->a4P,typeNameOfWhole->a4Y,size_of_entries->a4Z,getItem->a5f,wpAny_newTuple->a5l,wpAny_fieldsOf->a5m,typeLookup->a5n,sliceRange->a5o,isSubtype_stop->a5p,dictSetDefault->a5q,call_meets->a5r,Operator->a5t,wpAny_handled->a5L,wpAny_getItem_list_slice->a5M,wpAny_attempt->a5N,slicePick->a5W,bindL->a5Y,bindC->a5Z,wpAny_pyNext_list_item->a6g,wpAny_Call_method_late->a6h,wpAny_Assign_Subscript->a6i,typeOf->a6j,seqIndex_neg->a6l,newExc->a6m,isTrue->a6o,wpAny_pyNext_list_end->a6F,wpAny_isOneOf_keyiter->a6G,builtinLookup_eq_fast->a6H,wpAny_throw->a6U,wpAny_pyIter_keyiter->a6V,unpackItems->a6W,storedH_new->a6X,seqIndex_of->a6Y,lookup_relabel_local->a6Z,bindName->a7a,bindArgs->a7b,SetTable->a7c,IntMulOk->a7i,GenState->a7j,wpAny_dictFind_heap->a7k,wpAny_tupleItemsOf->a7t,wpAny_load->a7u,wpAny_Name->a7v,entryOfKey->a7w,closureFor->a7x,builtinsNs->a7y,wpAny_pyIter_enum->a7C,wpAny_assign_Name->a7D,storedH->a7E,standAt->a7F,relabel->a7G,atKey_none_of_get->a7H,MeetsIn->a7L,wpAny_pyIter_zip->a7P,wpAny_forIn_list->a7Q,wpAny_execs_cons->a7R,seqItems?->a7S,noFill_tuple_add->a7U,lastMarks->a7V,cellsFrom->a7X,call->a7Y,wpAny_loadPart'->a8f,typeLookup_type->a8g,importedModules->a8i,Sem->a8k,wpAny_bindName->a8I,recursionLimit->a8L,raiseNew->a8M,newTuple->a8N,entry_at->a8R,Tok->a8S
open PySem.Around renaming under_plainId->ZX
open PySem.Builtin renaming sorted->a5B
open PySem.Builtin.Builtins renaming bindParams->a0m
open PySem.Builtin.Dict renaming showsAll->ZO,dictSlotArgs->a0G,noArgs->a2B,samePairs->a3W,pendingCount->a8E,keyAndDefault->a8F,dictSlotNone->a8G
open PySem.Builtin.Dict_items renaming ownsTuple->ZS,ownedTupleIsFree->a2h,ownedTupleFields->a2i,pairFromOwner->a2r,newIterator->a2A,dictOf->a2R
open PySem.Builtin.Int renaming intBits->YB,intTooBig->a1j
open PySem.Builtin.List renaming listExtendWith->ZE,listSameRef->a0N,listTooLong->a1L,listLengthHint->a3n,listItems->a3V,listUpdate->a8D
open PySem.Builtin.Range renaming rangeSize->a8e
open PySem.Builtin.Str renaming occurrences->Zl
open PySem.Builtin.Tuple renaming tupleHashOf->a8c,tupleCompareSizes->a8d
open PySem.Calls renaming callWith_builtin->Z7,spliced_cons->a1Y,spliced_nil->a2k,Name_function_global->a4v,call_function_entry->a4D,evalArgs_plain->a5A
open PySem.Challenge renaming rw_creasecourt_k62_what_crosses->XF,pw_creasecourt_k62_what_crosses->Y3
open PySem.Data renaming fields->YR,dict->a1l,cell->a3b,seq->a5K,cls->a7r
open PySem.F renaming slot_dict_items->a1d,plainAttrs_dict->a1e,slot_dict_setdefault->a3H,args_dict_items_1->a4b,slot_dict_values->a4p,entry_dict_items->a4q,args_tuple_add_2->a4r,type_dict_items->a4x,plainAttrs_list->a4y,entry_tuple_add->a4z,slot_tuple_add->a4J,plain_min_loop->a4K,sub_dict_dict->a4T,slot_dict_get->a4U,slot_dict_ne->a5a,slot_dict_eq->a5b,plain_min->a5F,entry_min->a5G,kind_min->a5O
open PySem.Flow renaming next->a6S
open PySem.Heap renaming get?_push_of_some->XE,lt_size->XN,get?_push_size->XT,get?_update_other->Y7,get?_update_self->Zd,SameBut->a0k,size_push->a2e,ExtBut->a2p
open PySem.Heap.DictOfH renaming new->a8C
open PySem.Heap.IsSliceOf renaming new->a4d
open PySem.Heap.SameBut renaming update->ZI,refl->a4O
open PySem.NameKind renaming free->Z4,cell->a0f
open PySem.Obj renaming mapSeq->Zh,data_mapFields->a2g,mapFields->a3q,isFreed_of_fields->a5I,data_mapDictKeys->a5P,cls_mapFields->a6K
open PySem.Paired renaming length->a4A,snoc->a7z
open PySem.PassesOwn renaming never->a5H
open PySem.SeqAt renaming ne_of_list_tuple->ZQ,EqAt->a4n
open PySem.SeqAt.EqAt renaming int_int->a4S
open PySem.SetTable.layClean renaming free->a3j
open PySem.Str renaming ofString->Zg
open PySem.Value renaming ref->XO,type->Yd,none->Zm,bool->ZP,builtin->ZV,int->a0o,str->a4R
open PySem.W renaming Frag->Xy,behindTheImports->Yj,boot_drawn->Y9,keepIn->ZM,fnOf->ZN,kia_one->ZY,boot_heap->a1v,topFrame->a1z,findIn->a1N,nsIn->a2v,codeIn->a2J,methodObj->a3k,piecesOf->a4i,kas_rev->a4k,mg_of->a4o,segRun->a4F,boot_toks->a4G,cellsFrom_some->a4I,specialIn->a5C,kitx_list->a5D,kitx_dict->a5E,kas_tail3->a5X,instObj->a6a,OpenLaw->a6b,kas_descPart->a6n,kitOne->a6p,WalkO->a6I,isFn->a7d,piece_app->a7T,kas_place->a7W,kas_sort->a8O,kas_desc->a8P,kHook->a8Q
open PySem.W.KasT renaming ret->a5J
open PySem.W.OpenLaw renaming row->YX
open PySem.W.OpenRow renaming toRowW->a6x
open PySem.W.RowW renaming records->a7K
open PySem.W.WData renaming int->a1D,weightAll->a1O,layable->a3R,weight->a3Z,layableAll->a7Z
open PySem.W.WShape renaming has->a7J
open PySem.pickOrder renaming go->a4j
open Std.Legacy.Range renaming size->a7l,forIn_eq_forIn_range'->a7m
open Sum renaming inr->a3F,inl->a3G
open True renaming intro->a1i
set_option compiler.extract_closed false
set_option bootstrap.genMatcherCode false
set_option genSizeOf false
set_option genSizeOfSpec false
set_option Elab.async false
set_option linter.all false
set_option maxRecDepth 100000
set_option linter.all false
abbrev gq:=List PySem.Value
abbrev jw:=List (PySem.Addr×PySem.Obj)
abbrev jq:=List (Int×Int)
namespace L2
open PySem PySem.Spec PyProof.Rows
noncomputable abbrev cF:=Sum Int Str
noncomputable def xE:cF->Value->Bool
 |.inl k,v=>Value.isInt k v|.inr x,v=>Value.isStrOf x v
noncomputable def Cb(w:Yz):cF->Int
 |.inl k=>hashInt k|.inr x=>hashStr w x
theorem lF:∀{k:cF}{v:Value},xE k v=b5->(∃i t,k=a3G i/\v=a0o i t)\/(∃x t,k=a3F x/\v=a4R x t)
 |.inl i,v,h=>by obtain⟨t,e⟩:=Value.isInt_shape (k:=i) (v:=v) h;exact .inl ⟨i,t,rfl,e⟩
 |.inr x,v,h=>by obtain⟨t,e⟩:=Value.isStrOf_shape (x:=x) (v:=v) h;exact .inr ⟨x,t,rfl,e⟩
theorem Jx(a b:Int):decide ((a3G a:cF)=a3G b)=(a==b):=by
 by_cases e:a=b
 ·subst e;simp
 ·have h:¬ (a3G a:cF)=a3G b:=λq=>e (Sum.inl.inj q);rw[decide_eq_false h];exact(beq_eq_false_iff_ne.mpr e).symm
theorem Jy(a b:Str):decide ((a3F a:cF)=a3F b)=decide (a=b):=by
 by_cases e:a=b
 ·subst e;simp
 ·have h:¬ (a3F a:cF)=a3F b:=λq=>e (Sum.inr.inj q);rw[decide_eq_false h,decide_eq_false e]
theorem Jz(a:Int)(b:Str):decide ((a3G a:cF)=a3F b)=false:=decide_eq_false (λq=>nomatch q)
theorem JA(a:Str)(b:Int):decide ((a3F a:cF)=a3G b)=false:=decide_eq_false (λq=>nomatch q)
noncomputable def rC(prog:Yk)(w:Yz):PySem.KeyKind prog w cF where
 is:=xE
 hash:=Cb w
 inj:=λv a b g d=>by
  rcases lF g with⟨i,t,rfl,rfl⟩|⟨x,t,rfl,rfl⟩
  ·rcases lF d with⟨j,u,rfl,e⟩|⟨y,u,rfl,e⟩
   ·injection e with e1 _;rw[e1]
   ·exact nomatch e
  ·rcases lF d with⟨j,u,rfl,e⟩|⟨y,u,rfl,e⟩
   ·exact nomatch e
   ·injection e with e1 _;rw[e1]
 byValue:=λk v h=>by rcases lF h with⟨i,t,rfl,rfl⟩|⟨x,t,rfl,rfl⟩<;>rfl
 pyHash:=λc h=>by
  rcases lF c with⟨i,t,rfl,rfl⟩|⟨x,t,rfl,rfl⟩
  ·exact wpAny_pyHash_int h
  ·exact wpAny_pyHash_str h
 eqBool:=λl c h=>by
  rcases lF l with⟨i,t,rfl,rfl⟩|⟨x,t,rfl,rfl⟩
  ·rcases lF c with⟨j,u,rfl,rfl⟩|⟨y,u,rfl,rfl⟩
   ·rw[Jx]at h;exact wpAny_eqBool_int h
   ·rw[Jz]at h;exact SeqAt.EqAt.int_str i t y u _ _ _ _ h
  ·rcases lF c with⟨j,u,rfl,rfl⟩|⟨y,u,rfl,rfl⟩
   ·rw[JA]at h;exact SeqAt.EqAt.str_int x t j u _ _ _ _ h
   ·rw[Jy]at h;exact wpAny_eqBool_str h
 «strs»:=λk x t v h=>by
  rcases lF h with⟨i,u,rfl,e⟩|⟨y,u,rfl,e⟩
  ·exact nomatch e
  ·injection e with e1 _;subst e1;cases v<;>rfl
inductive V where
 |non|bl (b:Bool)|int (i:Int)|str (x:Str)|byt (b:Array UInt8)|flt (b:UInt64)|ref (a:Addr)|ty (n:String)
 deriving DecidableEq
abbrev gw:=List V
noncomputable def RelV:V->Value->Prop
 |.non,u=>u=Zm|.bl b,u=>u=ZP b|.int i,u=>∃t,u=a0o i t|.str x,u=>∃t,u=a4R x t|.byt b,u=>∃t,u=Value.bytes b t|.flt b,u=>∃t,u=Value.float b t|.ref a,u=>u=XO a|.ty n,u=>u=Yd n
noncomputable abbrev Vals:gw->gq->Prop:=a2w RelV
theorem Vals.length{xs:gw}{us:gq}(r:Vals xs us):xs.length=us.length:=a4A r
theorem Vals.get:∀{xs:gw}{us:gq}{i:Nat}{x:V},Vals xs us->xs[i]?=aX x->∃u,us[i]?=aX u/\RelV x u
 |_,_,_,_,.nil,e=>by simp at e
 |_,_,0,_,.cons r _,e=>by simp at e;subst e;exact⟨_,rfl,r⟩
 |_,_,i+1,x,.cons _ t,e=>by obtain⟨u,a,b⟩:=Vals.get (i:=i) (x:=x) t (by simpa using e);exact⟨u,by simpa using a,b⟩
theorem Vals.set{x:V}{u:Value}(r:RelV x u):∀{xs:gw}{us:gq}(i:Nat),Vals xs us->Vals (xs.set i x) (us.set i u)
 |_,_,_,.nil=>.nil|_,_,0,.cons _ t=>.cons r t|_,_,i+1,.cons q t=>.cons q (Vals.set r i t)
theorem Vals.append:∀{xs a:gw}{us ws:gq},Vals xs us->Vals a ws->Vals (xs++a) (us++ws)
 |_,_,_,_,.nil,s=>s|_,_,_,_,.cons r t,s=>.cons r (Vals.append t s)
theorem Vals.take:∀{xs:gw}{us:gq}(n:Nat),Vals xs us->Vals (xs.take n) (us.take n)
 |_,_,0,_=>.nil|_,_,_+1,.nil=>.nil|_,_,n+1,.cons r t=>.cons r (Vals.take n t)
theorem Vals.drop:∀{xs:gw}{us:gq}(n:Nat),Vals xs us->Vals (xs.drop n) (us.drop n)
 |_,_,0,r=>r|_,_,_+1,.nil=>.nil|_,_,n+1,.cons _ t=>Vals.drop n t
theorem Vals.none_of:∀{xs:gw}{us:gq}{i:Nat},Vals xs us->xs[i]?=aY->us[i]?=none:=λ{xs us i} r e=>by have a:=r.length;have b:xs.length<=i:=Yy.mp e;exact Yy.mpr (by lia)
noncomputable def RelO:Option V->Option Value->Prop
 |some v,aX u=>RelV v u|none,aY=>True|_,_=>False
noncomputable def KV{κ:Type}:List (κ×V)->List (κ×Value)->Prop:=a2w λ(p:κ×V)(q:κ×Value)=>p.1=q.1/\RelV p.2 q.2
noncomputable def kV:cF->V
 |.inl i=>.int i|.inr x=>.str x
inductive HO where
 |lst (xs:gw)
 |tup (xs:gw)
 |dK (kvs:List (cF×V))|dT (kvs:List (List cF×V))
 |set (S:Int->Bool)(n:Nat)
 |ins (C dx:Addr)(fs:List (Str×V))
 |own (x:Addr)
 |xd (fs:List (Str×V))
 |met (f x:Addr)
 |rng (lo hi:Int)
 |frz (o:Obj)(u:HO)
 |tbl (ps:Array Value)
 |ext (φ:YZ->Prop)
noncomputable abbrev Hp:=Addr->Option HO
noncomputable def aP(H:Hp)(a:Addr)(o:HO):Hp:=λb=>if b=a then aX o else H b
theorem cX{H:Hp}{a:Addr}{o:HO}:aP H a o a=aX o:=by unfold aP;rw[if_pos rfl]
theorem bM{H:Hp}{a b:Addr}{o:HO}(h:b≠a):aP H a o b=H b:=by unfold aP;rw[if_neg h]
theorem iW{H:Hp}{a b:Addr}{o:HO}(h:H a=aX o)(h':H b=aY):a≠b:=by intro e;subst e;rw[h]at h';cases h'
section
variable(P:Yk)(w:Yz)
noncomputable def TupN(h:YZ)(a:Addr)(xs:Array Value):Prop:=∃o,h.get? a=aX o/\o.cls=.type "tuple"/\∃n,o.data=.seq xs n/\o.dict=aY
theorem TupN.tup{h:YZ}{a:Addr}{xs:Array Value}(x:TupN h a xs):a4u h a xs:=let⟨o,e,c,n,d,_⟩:=x;⟨o,e,c,n,d⟩
theorem TupN.new(h:YZ)(items:Array Value):TupN (h.push {cls:=.type "tuple",data:=.seq items}) h.objs.size items:=⟨_,XT _ rfl,rfl,_,rfl,rfl⟩
noncomputable def ObjOk(H:Hp)(h:YZ)(a:Addr):HO->Prop
 |.lst b=>b.length<=XQ/\∃(its:gq)(n:Nat),Vals b its/\h.get? a=aX {cls:=.type "list",data:=.seq its.toArray n}|.tup b=>b.length<=XQ/\∃its:gq,Vals b its/\TupN h a its.toArray|.dK kvs=>kvs.length<=XQ/\(a==YY)=b4/\∃i,KV kvs i/\h.DictOf (rC P w) a i|.dT kvs=>kvs.length<=XQ/\(a==YY)=b4/\∃b:List (List cF×Addr×Value),
   a2w (λ(p:List cF×V)(q:List cF×Addr×Value)=>p.1=q.1/\H q.2.1=aX (.tup (p.1.map kV))/\RelV p.2 q.2.2) kvs b /\
   ∃o d j,h.get? a=aX o/\o.ExactDict/\o.data=.dict d j/\d.toList=b.map (a7w (ZH (rC P w)))/\(b.map (·.1)).Nodup
 |.set S n=>h.SetOf (ZZ P w) a S n|.ins C dx fs=>H dx=aX (.own a)/\fs.length<=1000/\dx≠a/\h.get? a=aX (a6a C dx) /\
   ∃c,h.Ns1 dx c/\(∀f,RelO (fs.lookup f) (c f))/\PySem.Within c (fs.map (·.1))
 |.own _=>∃o,h.get? a=aX o|.xd fs=>∃c,h.Ns1 a c/\∀f,RelO (fs.lookup f) (c f)|.rng lo hi=>∃t u v,h.get? a=aX {cls:=.type "range",data:=.fields #[.int lo t,.int hi u,.int 1 v]}|.frz o u=>h.get? a=aX o/\ObjOk H h a u|.tbl ps=>h.get? a=aX {cls:=.none,data:=.fields ps}|.met f x=>h.get? a=aX (a3k (.ref f) (.ref x))|.ext φ=>φ h/\(∃o,h.get? a=aX o)/\∀e g:YZ,φ e->(∀o,e.get? a=aX o->g.get? a=aX o)->φ g
noncomputable def HOk(H:Hp)(h:YZ):Prop:=∀a o,H a=aX o->ObjOk P w H h a o
end
section
variable{P:Yk}{w:Yz}{H H':Hp}{h h':YZ}{a:Addr}{o:HO}
theorem ObjOk.lt(x:ObjOk P w H h a o):a<h.objs.size:=by
 cases o with
 |lst c=>obtain⟨_,_,_,_,e⟩:=x;exact XN e|tup c=>obtain⟨_,_,_,p⟩:=x;exact p.tup.lt|dK b=>obtain⟨_,_,_,_,o,_,_,e,_⟩:=x;exact XN e|dT b=>obtain⟨_,_,_,_,o,_,_,e,_⟩:=x;exact XN e|set S n=>obtain⟨o,_,_,_,e,_⟩:=x;exact XN e|ins C d fs=>obtain⟨_,_,_,e,_⟩:=x;exact XN e|own y=>obtain⟨_,e⟩:=x;exact XN e|xd fs=>obtain⟨_,⟨_,_,_,e,_⟩,_⟩:=x;exact XN e|rng g hi=>obtain⟨_,_,_,e⟩:=x;exact XN e|frz i u=>obtain⟨e,_⟩:=x;exact XN e|tbl j=>exact XN (show h.get? a=aX _ from x)|met f y=>exact XN (show h.get? a=aX _ from x)|ext k=>obtain⟨_,⟨_,e⟩,_⟩:=x;exact XN e
theorem a2w.mapP{d e:Type}{F G:d->e->Prop}:∀{c:List d}{l₂:List e},a2w F c l₂->(∀a b,F a b->G a b)->a2w G c l₂
 |_,_,.nil,_=>.nil|_,_,.cons r t,f=>.cons (f _ _ r) (a2w.mapP t f)
theorem ObjOk.stay(x:ObjOk P w H h a o)(k:∀b u,(b=a\/H b=aX (.own a))->h.get? b=aX u->h'.get? b=aX u)
  (I:∀b,H b=aX (.own a)->H' b=aX (.own a))(J:∀b m,H b=aX (.tup m)->H' b=aX (.tup m)):ObjOk P w H' h' a o:=by
 induction o with
 |lst m=>obtain⟨z,l,n,r,e⟩:=x;exact⟨z,l,n,r,k _ _ (.inl rfl) e⟩|tup m=>obtain⟨z,l,r,g,e,c⟩:=x;exact⟨z,l,r,g,k _ _ (.inl rfl) e,c⟩|dK s=>obtain⟨z,y,L,r,g,j,i,e,c⟩:=x;exact⟨z,y,L,r,g,j,i,k _ _ (.inl rfl) e,c⟩|dT s=>obtain⟨z,y,m,r,g,j,i,e,c⟩:=x;exact⟨z,y,m,a2w.mapP r λp q z=>⟨z.1,J _ _ z.2.1,z.2.2⟩,g,j,i,k _ _ (.inl rfl) e,c⟩|set S n=>obtain⟨g,j,i,t,e,c⟩:=x;exact⟨g,j,i,t,k _ _ (.inl rfl) e,c⟩|ins C M fs=>obtain⟨d,z,ne,e,A,⟨B,j,i,G,c⟩,r⟩:=x;exact⟨I _ d,z,ne,k _ _ (.inl rfl) e,A,⟨B,j,i,k _ _ (.inr d) G,c⟩,r⟩|own y=>obtain⟨g,e⟩:=x;exact⟨g,k _ _ (.inl rfl) e⟩|xd fs=>obtain⟨A,⟨B,j,i,e,c⟩,r⟩:=x;exact⟨A,⟨B,j,i,k _ _ (.inl rfl) e,c⟩,r⟩|rng N hi=>obtain⟨t,u,v,e⟩:=x;exact⟨t,u,v,k _ _ (.inl rfl) e⟩|frz g u K=>obtain⟨e,q⟩:=x;exact⟨k _ _ (.inl rfl) e,K q⟩|tbl E=>have e:h.get? a=aX {cls:=.none,data:=.fields E}:=x;show h'.get? a=aX {cls:=.none,data:=.fields E};exact k a _ (.inl rfl) e|met f y=>have e:h.get? a=aX (a3k (.ref f) (.ref y)):=x;show h'.get? a=aX (a3k (.ref f) (.ref y));exact k a _ (.inl rfl) e|ext O=>obtain⟨p,⟨o,e⟩,st⟩:=x;exact⟨st _ _ p λo q=>k _ _ (.inl rfl) q,⟨o,k _ _ (.inl rfl) e⟩,st⟩
theorem HOk.lt(x:HOk P w H h)(e:H a=aX o):a<h.objs.size:=(x a o e).lt
theorem HOk.fresh(x:HOk P w H h)(e:h.objs.size<=a):H a=none:=by
 cases q:H a with
 |none=>rfl|some u=>exact absurd (Yh (x.lt q) e) (a0H _)
theorem HOk.kept(x:HOk P w H h)(k:∀b u,h.get? b=aX u->h'.get? b=aX u):HOk P w H h':=λa o e=>(x a o e).stay (λb u _ q=>k b u q) (λ_ q=>q) λ_ _ q=>q
theorem HOk.laid(x:HOk P w H h)(k:∀b u,h.get? b=aX u->h'.get? b=aX u)(i:h.objs.size<=a)(new:ObjOk P w (aP H a o) h' a o):HOk P w (aP H a o) h':=λb u e=>by
 have g:=x.fresh i;by_cases d:b=a
 ·subst d;rw[cX]at e;cases e;exact new
 ·rw[bM d]at e;exact(x b u e).stay (λc v _ q=>k c v q) (λc q=>by rw[bM (iW q g)];exact q) λc j q=>by rw[bM (iW q g)];exact q
end
noncomputable def Rd(H:Hp)(a:Addr)(u:HO):Prop:=H a=aX u\/∃o,H a=aX (.frz o u)
theorem Rd.of{H:Hp}{a:Addr}{u:HO}(h:H a=aX u):Rd H a u:=.inl h
theorem Rd.ok{P:Yk}{w:Yz}{H:Hp}{h:YZ}{a:Addr}{u:HO}(r:Rd H a u)(x:HOk P w H h):ObjOk P w H h a u:=by
 rcases r with r|⟨o,r⟩
 ·exact x a u r
 ·obtain⟨_,q⟩:=x a _ r;exact q
noncomputable def rD:Option HO->Prop
 |some (.lst _)=>True|some (.dK _)=>True|some (.dT _)=>True|some (.set _ _)=>True|some (.ins _ _ _)=>True|some (.ext _)=>True|_=>False
section
variable{P:Yk}{w:Yz}{H:Hp}{h h':YZ}{x e:Addr}{o':HO}
theorem HOk.write(ok:HOk P w H h)(j:rD (H x))(n:e=x\/H e=aX (.own x))(k:∀b u,b≠e->h.get? b=aX u->h'.get? b=aX u)(m:∃u,h'.get? e=aX u)
  (new:ObjOk P w (aP H x o') h' x o'):HOk P w (aP H x o') h':=λb u q=>by
 have d:∀c y,H c=aX (.own y)->c≠x:=λc y r z=>by subst z;rw[r]at j;exact j
 have g:∀c l,H c=aX (.tup l)->c≠x:=λc l r z=>by subst z;rw[r]at j;exact j
 by_cases i:b=x
 ·subst i;rw[cX]at q;cases q;exact new
 ·rw[bM i]at q;by_cases a:b=e
  ·have o:H b=aX (.own x):=by
    rcases n with z|z
    ·exact absurd (a.trans z) i
    ·rw[a];exact z
   rw[q]at o;cases o;obtain⟨v,p⟩:=m;exact⟨v,by rw[a];exact p⟩
  ·refine(ok b u q).stay (λc v hc r=>k c v ?_ r) (λc r=>by rw[bM (d c b r)];exact r) λc l r=>by rw[bM (g c l r)];exact r
   rcases hc with rfl|hc
   ·exact a
   ·rintro rfl;rcases n with z|z
    ·exact d c b hc z
    ·rw[hc]at z;cases z;exact i rfl
end
structure Un(fs ex:List Addr)(H H':Hp)(h h':YZ):Prop where
 keep:∀b o,h.get? b=aX o->H b=aY->b∉fs->b∉ex->h'.get? b=aX o
 slot:∀b o,h.get? b=aX o->H b=aY->b∈fs->b∉ex->∃sl,h'.get? b=aX {o with slots:=sl}
 free:∀b o,h.get? b=aX o->H b=aY->b∉ex->H' b=aY
 there:∀b o,h.get? b=aX o->b∉ex->∃o',h'.get? b=aX o'
 tups:∀b xs,H b=aX (.tup xs)->H' b=aX (.tup xs)
 frzs:∀b o u,H b=aX (.frz o u)->H' b=aX (.frz o u)
 tbls:∀b ps,H b=aX (.tbl ps)->∃more,H' b=aX (.tbl (ps++more))
section
variable{fs fs' ex ex':List Addr}{H H1 H2:Hp}{h h1 h2 h':YZ}{a x e:Addr}{o:HO}
theorem Un.any(u:Un fs ex H H1 h h1){b:Addr}{c:Obj}(q:h.get? b=aX c)(n:H b=aY)(g:b∉ex):∃i,h1.get? b=aX {c with slots:=i}:=by
 by_cases d:b∈fs
 ·exact u.slot b c q n d g
 ·exact⟨c.slots,u.keep b c q n d g⟩
theorem Un.trans(a:Un fs ex H H1 h h1)(b:Un fs ex H1 H2 h1 h2):Un fs ex H H2 h h2 where
 keep:=λc g q n hc d=>b.keep c g (a.keep c g q n hc d) (a.free c g q n d) hc d
 slot:=λc g q n hc d=>by obtain⟨u,i⟩:=a.slot c g q n hc d;obtain⟨m,k⟩:=b.slot c _ i (a.free c g q n d) hc d;exact⟨m,k⟩
 free:=λc g q n d=>by obtain⟨l,i⟩:=a.there c g q d;exact b.free c l i (a.free c g q n d) d
 there:=λc g q d=>by obtain⟨l,i⟩:=a.there c g q d;exact b.there c l i d
 tups:=λc j q=>b.tups c j (a.tups c j q);frzs:=λc g j q=>b.frzs c g j (a.frzs c g j q);tbls:=λc s q=>by obtain⟨p,i⟩:=a.tbls c s q;obtain⟨r,k⟩:=b.tbls c _ i;exact⟨p++r,by rw[k,a5U]⟩
theorem Un.kept(k:∀b u,h.get? b=aX u->h'.get? b=aX u):Un fs ex H H h h':=
 ⟨λb c q _ _ _=>k b c q,λb c q _ _ _=>⟨c.slots,k b c q⟩,λ_ _ _ n _=>n,λb c q _=>⟨c,k b c q⟩,λ_ _ q=>q,λ_ _ _ q=>q,λ_ d q=>⟨#[],by rw[q];simp⟩⟩
theorem Un.refl:Un fs ex H H h h:=Un.kept λ_ _ q=>q
theorem Un.laid(k:∀b u,h.get? b=aX u->h'.get? b=aX u)(d:h.objs.size<=a)(c:H a=aY):Un fs ex H (aP H a o) h h' where
 keep:=λb u q _ _ _=>k b u q
 slot:=λb u q _ _ _=>⟨u.slots,k b u q⟩
 free:=λb u q n _=>by rw[bM (XU (Yh (XN q) d))];exact n
 there:=λb u q _=>⟨u,k b u q⟩
 tups:=λb g q=>by rw[bM (iW q c)];exact q
 frzs:=λb u g q=>by rw[bM (iW q c)];exact q
 tbls:=λb i q=>⟨#[],by rw[bM (iW q c),q];simp⟩
theorem Un.write(d:rD (H x))(m:e=x\/H e=aX (.own x))(k:∀b u,b≠e->h.get? b=aX u->h'.get? b=aX u)(g:∃u,h'.get? e=aX u):Un fs ex H (aP H x o) h h':=by
 have l:∀b,H b=aY->b≠x:=λb n z=>by subst z;rw[n]at d;exact d
 have j:∀b,H b=aY->b≠e:=λb n z=>by
  subst z;rcases m with r|r
  ·exact l b n r
  ·rw[n]at r;cases r
 have i:∀b u,H b=aX u->¬ rD (aX u)->b≠x:=λb u q p z=>by subst z;rw[q]at d;exact p d
 refine⟨λb u q n _ _=>k b u (j b n) q,λb u q n _ _=>⟨u.slots,k b u (j b n) q⟩,λb u q n _=>by rw[bM (l b n)];exact n,λb u q _=>?_,
  λb s q=>by rw[bM (i b _ q λz=>z)];exact q,λb u s q=>by rw[bM (i b _ q λz=>z)];exact q,λb v q=>⟨#[],by rw[bM (i b _ q λz=>z),q];simp⟩⟩
 by_cases c:b=e
 ·subst c;exact g
 ·exact⟨u,k b u c q⟩
end
noncomputable def tW(h:YZ)(H:Hp):List Addr:=(YN h.objs.size).filter λa=>(H a).isSome
noncomputable def lH(h:YZ)(H:Hp):YZ:=PySem.W.hideAll h (tW h H)
theorem JB(h:YZ)(H:Hp):(lH h H).objs.size=h.objs.size:=PySem.W.hideAll_size _ _
theorem JD{h:YZ}{H:Hp}{b:Addr}{o:Obj}(e:h.get? b=aX o)(n:H b=aY):(lH h H).get? b=aX o:=
 PySem.W.hideAll_get _ e λa=>by have q:(H b).isSome=true:=(Yp.mp a).2;rw[n]at q;simp at q
theorem JE{h:YZ}{H:Hp}{b:Addr}{o:Obj}(e:(lH h H).get? b=aX o):h.get? b=aX o/\H b=none:=by
 have a:h.get? b=aX o:=PySem.W.of_hideAll (tW h H) e;refine⟨a,?_⟩;cases q:H b with
 |none=>rfl|some x=>have c:b∈tW h H:=Yp.mpr ⟨Zs.mpr (XN a),by simp[q]⟩;have z:(lH h H).get? b=none:=PySem.W.hideAll_none (tW h H) c;rw[z]at e;cases e
noncomputable def JG(g h:YZ)(L:Addr):jw:=(YN h.objs.size).filterMap λa=>if a=L\/(g.get? a).isSome=b5 then aY else(h.get? a).map λo=>(a,o)
noncomputable def bY(g h:YZ)(L d:Addr):jw:=(JG g h L).filter λp=>decide (p.1≠d)
structure Mod(K:Xy)(mg:Str->Option Value)(base:YZ):Prop where
 kin:K.In base
 glob:base.Ns Zq mg
 blt:∃mb,base.Ns a7y mb/\∀x:Str,x ≠ "__name__"->mb x=ZA x
 nolimit:base.NoLimit
structure Cx where
 prog:Yk
 w:Yz
 K:Xy
 mg:Str->Option Value
 base:YZ
 A:Yt
 N:List Str
 s₀:XD
 H₀:Hp
 env:a3h
 outer:List a3h
 stack:List a3h
 ex:List Addr
 fn:Str->Bool
 calm:Bool
 pn:jw
 xe:Value->XD->Prop
noncomputable def iX(l:List a3h):List Addr:=l.filterMap (·.frame)
noncomputable abbrev Cx.fs(X:Cx):List Addr:=iX X.outer
noncomputable def nV(sc:a0g)(x:Str):Prop:=sc.names.lookup x=aX .local\/sc.names.lookup x=aX .cell\/sc.names.lookup x=aX .free
noncomputable def Loc(sc:a0g)(x:Str):Prop:=sc.names.lookup x=aX .local\/sc.names.lookup x=aX .cell
noncomputable def JH(env:a3h)(h:YZ)(m:Str->Option Value)(x:Str)(u:Value):Prop:=
 (env.kindOf x=aX .local/\m x=aX u)\/((env.kindOf x=aX .cell\/env.kindOf x=aX .free)/\∃c,env.cells.lookup x=aX c/\h.IsCell c (aX u))
structure Cx.Ok(X:Cx):Prop where
 mod:Mod X.K X.mg X.base
 kind:X.env.scope.kind=.function
 glob:X.env.globals=Zq
 blt:X.env.builtins=a7y
 above:X.s₀.heap.objs.size<=X.env.locals
 inj:∀x y c,X.env.cells.lookup x=aX c->X.env.cells.lookup y=aX c->x=y
 has:∀x,(X.env.kindOf x=aX .cell\/X.env.kindOf x=aX .free)->∃c,X.env.cells.lookup x=aX c
 cab:∀x c,X.fn x=b5->X.env.cells.lookup x=aX c->X.s₀.heap.objs.size<=c
 hd:X.calm=b5->X.A.handled=aY
 frames:X.A.frames=aX X.stack
 stk:X.stack=X.outer\/(X.stack=X.env::X.outer/\X.env.frame=aX X.env.locals)
 exf:∀b∈X.ex,b≠X.env.locals/\∀x c,X.env.cells.lookup x=aX c->c≠b
 bs:∀b o,X.base.get? b=aX o->X.s₀.heap.get? b=aX o/\X.H₀ b=aY
 bsz:X.base.objs.size<=X.s₀.heap.objs.size
 noex:∀b o,X.base.get? b=aX o->b∉X.ex
 exfs:∀b∈X.ex,b∉X.fs
 funs:X.s₀.heap.FunFrames X.base X.outer
 frf:∀b∈X.fs,X.H₀ b=aY
structure Inv(X:Cx)(a8T:jw)(σ:List (Option V))(H:Hp)(s:XD):Prop where
 ok:X.Ok
 os:s.os=X.s₀.os
 bare:a3E s.gens
 base:Un X.fs X.ex X.H₀ H X.s₀.heap s.heap
 loc:∃m,s.heap.Ns X.env.locals m/\∀(i:Nat)(x:Str)(v:V),X.N[i]?=aX x->σ[i]?=aX (aX v)->nV X.env.scope x->∃u,RelV v u/\JH X.env s.heap m x u
 cell:∀x c,X.env.cells.lookup x=aX c->∃v,s.heap.IsCell c v
 free:H X.env.locals=aY
 freeC:∀x c,X.env.cells.lookup x=aX c->H c=aY
 pin:∀p∈X.pn++a8T,s.heap.get? p.1=aX p.2/\H p.1=aY/\p.1≠X.env.locals/\p.1∉X.fs/\∀v,p.2.data≠.cell v
 hok:HOk X.prog X.w H s.heap
 len:σ.length=X.N.length
section
variable{X:Cx}{a8T:jw}{σ:List (Option V)}{H H':Hp}{s:XD}{h':YZ}
theorem Cx.Ok.nofr(ok:X.Ok){b:Addr}{o:Obj}(e:X.base.get? b=aX o):b∉X.fs:=λa=>by have:=(ok.funs.mem a).1;rw[e]at this;cases this
theorem Inv.bs(I:Inv X a8T σ H s):∀b o,X.base.get? b=aX o->s.heap.get? b=aX o/\H b=none:=λb o e=>⟨I.base.keep b o (I.ok.bs b o e).1 (I.ok.bs b o e).2 (I.ok.nofr e) (I.ok.noex b o e),I.base.free b o (I.ok.bs b o e).1 (I.ok.bs b o e).2 (I.ok.noex b o e)⟩
theorem Inv.bk(I:Inv X a8T σ H s):∀b o,X.base.get? b=aX o->s.heap.get? b=aX o:=λb o e=>(I.bs b o e).1
theorem Inv.mod(I:Inv X a8T σ H s):Mod X.K X.mg X.base:=I.ok.mod
theorem Inv.kIn(I:Inv X a8T σ H s):X.K.In s.heap:=I.ok.mod.kin.keeps I.bk
theorem Inv.fr(I:Inv X a8T σ H s):∃m,Fr X.base X.env.locals s.heap m:=
 let⟨m,a,_⟩:=I.loc
 ⟨m,a,I.bk,Ys I.ok.bsz I.ok.above⟩
theorem Inv.lt(I:Inv X a8T σ H s):X.env.locals<s.heap.objs.size:=let⟨_,a,_⟩:=I.loc;a.lt
theorem Inv.sz(I:Inv X a8T σ H s):X.s₀.heap.objs.size<=s.heap.objs.size:=Ys I.ok.above (a0B I.lt)
theorem Inv.nofs(I:Inv X a8T σ H s){a:Addr}(h:s.heap.objs.size<=a):a∉X.fs:=λb=>by obtain⟨_,o,c,_⟩:=I.ok.funs.mem b;exact absurd (Yh (XN c) (Ys I.sz h)) (a0H _)
theorem Inv.cne(I:Inv X a8T σ H s):∀x c,X.env.cells.lookup x=aX c->c≠X.env.locals:=λx c e z=>by obtain⟨v,o,d,hd⟩:=I.cell x c e;obtain⟨m,⟨i,h,g,b,a,_⟩,_⟩:=I.loc;rw[z,b]at d;cases d;rw[a]at hd;cases hd
theorem Inv.funs(I:Inv X a8T σ H s):s.heap.FunFrames X.base X.outer:=by
 have all:∀(l:List a3h),(∀b∈iX l,b∈X.fs)->X.s₀.heap.FunFrames X.base l->s.heap.FunFrames X.base l:=by
  intro l;induction l with
  |nil=>intro _ _;trivial|cons h r p=>intro g j;obtain⟨i,⟨L,o,d,k,m,hd⟩,n⟩:=j;have a:L∈X.fs:=g L (by unfold iX;rw[ZR,d];exact X8);obtain⟨q,e⟩:=I.base.slot L o m (I.ok.frf L a) a λz=>I.ok.exfs L z a;exact⟨i,⟨L,_,d,k,e,hd⟩,p (λb c=>g b (by unfold iX;rw[ZR,d];exact X7 _ c)) n⟩
 exact all X.outer (λ_ c=>c) I.ok.funs
theorem Inv.stack(I:Inv X a8T σ H s):s.heap.FunFrames X.base X.stack:=by
 rcases I.ok.stk with e|⟨e,a⟩
 ·rw[e];exact I.funs
 ·rw[e];obtain⟨m,b,_⟩:=I.loc;refine .cons (by rw[I.ok.kind];decide) a b ?_ I.funs;exact Heap.get?_none_of_le (Ys I.ok.bsz I.ok.above)
theorem Inv.stkSub(I:Inv X a8T σ H s):∀b∈iX X.stack,b∈X.env.locals::X.fs:=λb a=>by
 rcases I.ok.stk with e|⟨e,c⟩
 ·rw[e]at a;exact X7 _ a
 ·rw[e]at a;unfold iX at a;rw[ZR,c]at a;exact a
theorem Inv.stkFree(I:Inv X a8T σ H s):∀b∈iX X.stack,H b=none:=λb a=>by
 rcases Yi.mp (I.stkSub b a)with e|a
 ·rw[e];exact I.free
 ·obtain⟨_,o,c,_⟩:=I.ok.funs.mem a;exact I.base.free b o c (I.ok.frf b a) λz=>I.ok.exfs b z a
theorem Inv.step{g':Array a7j}{t':Nat}{d':Drawn}{ch:List Addr}(I:Inv X a8T σ H s)
  (h:∀b∈ch,(b∈X.ex\/X.s₀.heap.objs.size<=b)/\b≠X.env.locals/\(∀x c,X.env.cells.lookup x=aX c->c≠b)/\∀p∈X.pn++a8T,p.1≠b)
  (j:∀b o,b≠X.env.locals->b∉X.fs->b∉ch->s.heap.get? b=aX o->H b=aY->h'.get? b=aX o)
  (B:∀b o,b≠X.env.locals->b∈X.fs->b∉ch->s.heap.get? b=aX o->H b=aY->∃Y,h'.get? b=aX {o with slots:=Y})(free:∀b o,b∉ch->s.heap.get? b=aX o->H b=aY->H' b=aY)
  (J:∀b o,b∉ch->s.heap.get? b=aX o->∃O,h'.get? b=aX O)
  (R:∀b E,H b=aX (.tup E)->H' b=aX (.tup E))(M:∀b o u,H b=aX (.frz o u)->H' b=aX (.frz o u))(Q:∀b T,H b=aX (.tbl T)->∃more,H' b=aX (.tbl (T++more)))
  (ns:∀m,s.heap.Ns X.env.locals m->h'.Ns X.env.locals m)(U:HOk X.prog X.w H' h')(hg:a3E g') :
  Inv X a8T σ H' {s with heap:=h',gens:=g',drawn:=d',toks:=t'}:=by
 have N:∀b o,X.s₀.heap.get? b=aX o->b≠X.env.locals:=λb o e=>XU (Yh (XN e) I.ok.above);have A:∀b o,X.s₀.heap.get? b=aX o->b∉X.ex->b∉ch:=λb o e a G=>by
  rcases(h b G).1 with z|z
  ·exact a z
  ·exact absurd (Yh (XN e) z) (a0H _)
 have g:∀x c,X.env.cells.lookup x=aX c->∀v,s.heap.IsCell c v->h'.IsCell c v:=λx c e v ⟨o,K,hd⟩=>by
  have w:c∉ch:=λz=>(h c z).2.2.1 x c e rfl;by_cases hc:c∈X.fs
  ·obtain⟨Y,q⟩:=B c o (I.cne x c e) hc w K (I.freeC x c e);exact⟨_,q,hd⟩
  ·exact⟨o,j c o (I.cne x c e) hc w K (I.freeC x c e),hd⟩
 refine⟨I.ok,I.os,hg,⟨λb o e n G a=>?_,λb o e n G a=>?_,λb o e n a=>?_,λb o e a=>?_,λb E e=>R b E (I.base.tups b E e),λb o E e=>M b o E (I.base.frzs b o E e),λb T e=>?_⟩,?_,λx c e=>?_,?_,λx c e=>?_,λp hp=>?_,U,I.len⟩
 ·exact j b o (N b o e) G (A b o e a) (I.base.keep b o e n G a) (I.base.free b o e n a)
 ·obtain⟨Y,y⟩:=I.base.slot b o e n G a;obtain⟨Z,L⟩:=B b _ (N b o e) G (A b o e a) y (I.base.free b o e n a);exact⟨Z,L⟩
 ·obtain⟨O,y⟩:=I.base.there b o e a;exact free b O (A b o e a) y (I.base.free b o e n a)
 ·obtain⟨O,y⟩:=I.base.there b o e a;exact J b O (A b o e a) y
 ·obtain⟨m1,y⟩:=I.base.tbls b T e;obtain⟨m2,L⟩:=Q b _ y;exact⟨m1++m2,by rw[L,a5U]⟩
 ·obtain⟨m,hn,hl⟩:=I.loc;refine⟨m,ns m hn,λi x v y L e3=>?_⟩;obtain⟨u,r,l⟩:=hl i x v y L e3;refine⟨u,r,?_⟩;rcases l with l|⟨k,c,e,z⟩
  ·exact .inl l
  ·exact .inr ⟨k,c,e,g x c e _ z⟩
 ·obtain⟨v,z⟩:=I.cell x c e;exact⟨v,g x c e v z⟩
 ·obtain⟨m,⟨o,_,_,K,_⟩,_⟩:=I.loc;exact free _ o (λz=>(h _ z).2.1 rfl) K I.free
 ·obtain⟨v,o,K,hd⟩:=I.cell x c e;exact free c o (λz=>(h c z).2.2.1 x c e rfl) K (I.freeC x c e)
 ·obtain⟨e,n,ne,nf,d⟩:=I.pin p hp;have w:p.1∉ch:=λz=>(h p.1 z).2.2.2 p hp rfl;exact⟨j p.1 p.2 ne nf w e n,free p.1 p.2 w e n,ne,nf,d⟩
theorem Inv.un{t':Nat}(I:Inv X a8T σ H s)(u:Un X.fs [] H H' s.heap h')(h:HOk X.prog X.w H' h'):Inv X a8T σ H' {s with heap:=h',toks:=t'}:=by
 obtain⟨m,⟨o,q,p,i,r⟩,_⟩:=id I.loc;obtain⟨x,j⟩:=u.any i I.free (by simp);exact I.step (g':=s.gens) (d':=s.drawn) (ch:=[]) (λ_ z=>nomatch z) (λb o _ g _ e n=>u.keep b o e n g (by simp)) (λb o _ g _ e n=>u.slot b o e n g (by simp)) (λb o _ e n=>u.free b o e n (by simp)) (λb o _ e=>u.there b o e (by simp)) u.tups u.frzs u.tbls (λv k=>by
  obtain⟨w,d,c,a,l⟩:=k;rw[i]at a;cases a;exact⟨_,d,c,j,l⟩) h I.bare
theorem Inv.call{g':Array a7j}{t':Nat}{d':Drawn}{ch:List Addr}(I:Inv X a8T σ H s)(u:Un (iX X.stack) ch H H' s.heap h')(j:HOk X.prog X.w H' h')(q:a3E g')
  (a:∀b∈ch,(b∈X.ex\/X.s₀.heap.objs.size<=b)/\b≠X.env.locals/\(∀x c,X.env.cells.lookup x=aX c->c≠b)/\∀p∈X.pn++a8T,p.1≠b) :
  Inv X a8T σ H' {s with heap:=h',gens:=g',drawn:=d',toks:=t'}:=by
 obtain⟨m,⟨o,A,y,k,r⟩,_⟩:=id I.loc;obtain⟨G,i⟩:=u.any k I.free λz=>(a _ z).2.1 rfl;exact I.step (ch:=ch) a (λb o i l hc e n=>u.keep b o e n (λz=>(Yi.mp (I.stkSub b z)).elim i l) hc) (λb o _ _ hc e n=>u.any e n hc) (λb o hc e n=>u.free b o e n hc) (λb o hc e=>u.there b o e hc) u.tups u.frzs u.tbls (λB v=>by
  obtain⟨E,h,g,d,w⟩:=v;rw[k]at d;cases d;exact⟨_,h,g,i,w⟩) j q
theorem Inv.turned{t':Nat}{a:Addr}(I:Inv X a8T σ H s)(k:∀b o,b≠a->s.heap.get? b=aX o->h'.get? b=aX o)(A:H a=aY)(g:a≠X.env.locals)
  (h1:a∈X.ex\/X.s₀.heap.objs.size<=a)(j:∀x c,X.env.cells.lookup x=aX c->c≠a)(l:∀p∈X.pn++a8T,p.1≠a):Inv X a8T σ H {s with heap:=h',toks:=t'}:=by
 have d:∀b u,H b=aX u->b≠a:=λb u e z=>by rw[z,A]at e;cases e
 refine I.step (g':=s.gens) (d':=s.drawn) (ch:=[a]) (λb w=>?_) (λb o _ _ hc e _=>k b o (λz=>hc (by simp[z])) e) (λb o _ _ hc e _=>⟨o.slots,k b o (λz=>hc (by simp[z])) e⟩) (λ_ _ _ _ n=>n)
  (λb o hc e=>⟨o,k b o (λz=>hc (by simp[z])) e⟩) (λ_ _ e=>e) (λ_ _ _ e=>e) (λb E e=>⟨#[],by rw[e];simp⟩) (λm y=>?_) (λb u e=>?_) I.bare
 ·have e:b=a:=by simpa using w
  subst e;exact⟨h1,g,j,l⟩
 ·obtain⟨o,i,h,B,r⟩:=y;exact⟨o,i,h,k _ o (Yn g) B,r⟩
 ·refine(I.hok b u e).stay (λc v hc q=>k c v ?_ q) (λ_ q=>q) λ_ _ q=>q;rcases hc with z|z
  ·rw[z];exact d b u e
  ·exact d c _ z
theorem Inv.tok(I:Inv X a8T σ H s)(t:Nat):Inv X a8T σ H {s with toks:=t}:=I.un (h':=s.heap) (t':=t) Un.refl I.hok
theorem Inv.kept{t':Nat}(I:Inv X a8T σ H s)(k:∀b u,s.heap.get? b=aX u->h'.get? b=aX u):Inv X a8T σ H {s with heap:=h',toks:=t'}:=I.un (Un.kept k) (I.hok.kept k)
theorem Inv.laid{a:Addr}{o:HO}{t':Nat}(I:Inv X a8T σ H s)(k:∀b u,s.heap.get? b=aX u->h'.get? b=aX u)(c:s.heap.objs.size<=a)(new:ObjOk X.prog X.w (aP H a o) h' a o) :
  Inv X a8T σ (aP H a o) {s with heap:=h',toks:=t'}:=I.un (Un.laid k c (I.hok.fresh c)) (I.hok.laid k c new)
theorem Inv.write{x e:Addr}{o:HO}{t':Nat}(I:Inv X a8T σ H s)(d:rD (H x))(c:e=x\/H e=aX (.own x))(k:∀b u,b≠e->s.heap.get? b=aX u->h'.get? b=aX u)(a:∃u,h'.get? e=aX u)
  (new:ObjOk X.prog X.w (aP H x o) h' x o):Inv X a8T σ (aP H x o) {s with heap:=h',toks:=t'}:=I.un (Un.write d c k a) (I.hok.write d c k a new)
theorem Inv.pins_of{a:jw}(I:Inv X a8T σ H s)(h:∀p∈a,s.heap.get? p.1=aX p.2/\H p.1=aY/\p.1≠X.env.locals/\p.1∉X.fs/\∀v,p.2.data≠.cell v):Inv X a σ H s:=
 ⟨I.ok,I.os,I.bare,I.base,I.loc,I.cell,I.free,I.freeC,λp b=>(Yq.mp b).elim (λz=>I.pin p (Y6 _ z)) (h p),I.hok,I.len⟩
theorem Cd{N:List Str}(e:N.Nodup){i j:Nat}{x:Str}(a:N[i]?=aX x)(b:N[j]?=aX x):i=j:=by obtain⟨g,c⟩:=Xz.mp a;obtain⟨h,d⟩:=Xz.mp b;exact(a6P e).mp (c.trans d.symm)
theorem Ce{M:Model}{A:Yt}{E:Value->XD->Prop}{i:Nat}{x:Str}{v:V}{u:Value}{Q:Unit->XD->Prop}(I:Inv X a8T σ H s)(hN:X.N.Nodup)(hi:X.N[i]?=aX x)(B:Loc X.env.scope x)(r:RelV v u)
  (h:∀s',Inv X a8T (σ.set i (aX v)) H s'->(∃a,a0k a s.heap s'.heap/\(a=X.env.locals\/X.env.cells.lookup x=aX a))->Q () s')(hf:X.fn x=b5\/X.env.scope.names.lookup x=aX .local:=by first|exact .inl rfl|exact .inr rfl|assumption):X5 M A (storeName X.env x u) Q E s:=by
 obtain⟨m,hn,hl⟩:=id I.loc;have Y:(X.env.scope.kind==.class||(X.env.scope.kind==.module&&X.env.locals != X.env.globals))=false:=by rw[I.ok.kind];rfl
 have K:i<σ.length:=by rw[I.len];exact(Xz.mp hi).1
 have cne:=I.cne;have w:∀{a:Addr}{h':YZ},(∃o,s.heap.get? a=aX o/\H a=aY)->a0k a s.heap h'->HOk X.prog X.w H h':=λ{a h'} ha g b ob e=>by
  obtain⟨_,_,G⟩:=ha;refine(I.hok b ob e).stay (λc w' hc q=>(g.2 c ?_).trans q) (λ_ q=>q) λ_ _ q=>q;rintro rfl;rcases hc with rfl|hc
  ·rw[G]at e;cases e
  ·rw[G]at hc;cases hc
 rcases B with L|L
 ·refine wpAny_storeName_local L hn (λh' hn' g=>?_) Y;obtain⟨oL,_,_,hoL,_⟩:=id hn;refine h _ ⟨I.ok,I.os,I.bare,⟨λb o e n N B=>?_,λb o e n N B=>?_,I.base.free,λb o e B=>?_,I.base.tups,I.base.frzs,I.base.tbls⟩,⟨_,hn',λj y v' l J e3=>?_⟩,λy c e=>?_,I.free,I.freeC,λp hp=>?_,w ⟨oL,hoL,I.free⟩ g,by simpa using I.len⟩ ⟨_,g,.inl rfl⟩
  ·exact(g.2 b (XU (Yh (XN e) I.ok.above))).trans (I.base.keep b o e n N B)
  ·obtain⟨sl,l⟩:=I.base.slot b o e n N B;exact⟨sl,(g.2 b (XU (Yh (XN e) I.ok.above))).trans l⟩
  ·obtain⟨o',l⟩:=I.base.there b o e B;exact⟨o',(g.2 b (XU (Yh (XN e) I.ok.above))).trans l⟩
  ·by_cases R:j=i
   ·subst R;rw[hi]at l;cases l;rw[YA K]at J;cases J;exact⟨u,r,.inl ⟨L,by simp⟩⟩
   ·rw[XB (Yn R)]at J;obtain⟨u',r',q⟩:=hl j y v' l J e3;refine⟨u',r',?_⟩;rcases q with⟨k,e⟩|⟨k,c,e,z⟩
    ·refine .inl ⟨k,?_⟩;have:y≠x:=λe=>R (Cd hN l (e▸hi));simp[this,e]
    ·exact .inr ⟨k,c,e,z.sameBut g (cne y c e)⟩
  ·obtain⟨w',z⟩:=I.cell y c e;exact⟨w',z.sameBut g (cne y c e)⟩
  ·obtain⟨e,n,ne,nf,d⟩:=I.pin p hp;exact⟨(g.2 p.1 ne).trans e,n,ne,nf,d⟩
 ·have O:X.fn x=true:=by
   rcases hf with z|z
   ·exact z
   ·rw[z]at L;cases L
  obtain⟨c,hc⟩:=I.ok.has x (.inl L);obtain⟨w',z⟩:=I.cell x c hc;refine wpAny_storeName_cell I.ok.kind L hc z (λh' T g=>?_);obtain⟨oc,Z,hocd⟩:=id z;refine h {s with heap:=h'} ⟨I.ok,I.os,I.bare,⟨λb o e n N B=>?_,λb o e n N B=>?_,I.base.free,λb o e B=>?_,I.base.tups,I.base.frzs,I.base.tbls⟩,⟨m,hn.sameBut g (Yn (cne x c hc)),λj y v' l J e3=>?_⟩,λy c' e=>?_,I.free,I.freeC,λp hp=>?_,w ⟨oc,Z,I.freeC x c hc⟩ g,by simpa using I.len⟩ ⟨c,g,.inr hc⟩
  ·exact(g.2 b (XU (Yh (XN e) (I.ok.cab x c O hc)))).trans (I.base.keep b o e n N B)
  ·obtain⟨sl,l⟩:=I.base.slot b o e n N B;exact⟨sl,(g.2 b (XU (Yh (XN e) (I.ok.cab x c O hc)))).trans l⟩
  ·obtain⟨o',l⟩:=I.base.there b o e B;exact⟨o',(g.2 b (XU (Yh (XN e) (I.ok.cab x c O hc)))).trans l⟩
  ·by_cases R:j=i
   ·subst R;rw[hi]at l;cases l;rw[YA K]at J;cases J;exact⟨u,r,.inr ⟨.inl L,c,hc,T⟩⟩
   ·rw[XB (Yn R)]at J;obtain⟨u',r',q⟩:=hl j y v' l J e3;refine⟨u',r',?_⟩;rcases q with q|⟨k,c',e,z'⟩
    ·exact .inl q
    ·refine .inr ⟨k,c',e,z'.sameBut g ?_⟩;rintro rfl;exact R (Cd hN l (I.ok.inj _ _ _ e hc▸hi))
  ·by_cases U:c'=c
   ·subst U;exact⟨_,T⟩
   ·obtain⟨w2,z2⟩:=I.cell y c' e;exact⟨w2,z2.sameBut g U⟩
  ·obtain⟨e,n,ne,nf,d⟩:=I.pin p hp;refine⟨(g.2 p.1 ?_).trans e,n,ne,nf,d⟩;intro q;rw[q,Z]at e;have q':oc=p.2:=XZ e;exact d w' (by rw[<- q'];exact hocd)
theorem tX{M:Model}{A:Yt}{E:Value->XD->Prop}{i:Nat}{x:Str}{v:V}{u:Value}{Q:Unit->XD->Prop}(I:Inv X a8T σ H s)(c:X.N.Nodup)(hi:X.N[i]?=aX x)(e:Loc X.env.scope x)(r:RelV v u)
  (h:∀a,Inv X a8T (σ.set i (aX v)) H a->Q () a)(d:X.fn x=b5\/X.env.scope.names.lookup x=aX .local:=by first|exact .inl rfl|exact .inr rfl|assumption):X5 M A (storeName X.env x u) Q E s:=
 Ce I c hi e r (λa b _=>h a b) d
end
noncomputable abbrev XK:=Value->Option Addr->Hp->Prop
noncomputable abbrev St:=List (Option V)
noncomputable abbrev VK:=V->Hp->Prop
noncomputable abbrev TE:=St->Hp->VK->Prop
noncomputable abbrev TT:=St->Hp->(Bool->Hp->Prop)->Prop
noncomputable abbrev TA:=St->Hp->(List V->Hp->Prop)->Prop
structure Ends where
 nx:St->Hp->Prop
 rt:VK
 bk:St->Hp->Prop:=λ_ _=>False
 ct:St->Hp->Prop:=λ_ _=>False
noncomputable abbrev TS:=Ends->St->Hp->Prop
inductive EP (X:Cx)(a8T:jw)(σ:St)(Q:VK)(u:Value)(s':XD):Prop
 |mk (v:V)(H':Hp)(I:Inv X a8T σ H' s')(r:RelV v u)(q:Q v H'):EP X a8T σ Q u s'
inductive TP (X:Cx)(a8T:jw)(σ:St)(Q:Bool->Hp->Prop)(b:Bool)(s':XD):Prop
 |mk (H':Hp)(I:Inv X a8T σ H' s')(q:Q b H'):TP X a8T σ Q b s'
inductive AP (X:Cx)(a8T:jw)(σ:St)(Q:gw->Hp->Prop)(us:gq)(s':XD):Prop
 |mk (vs:gw)(H':Hp)(I:Inv X a8T σ H' s')(r:Vals vs us)(q:Q vs H'):AP X a8T σ Q us s'
inductive SPn (X:Cx)(a8T:jw)(Q:St->Hp->Prop)(s':XD):Prop
 |mk (σ':St)(H':Hp)(I:Inv X a8T σ' H' s')(q:Q σ' H'):SPn X a8T Q s'
inductive SPr (X:Cx)(a8T:jw)(Q:VK)(u:Value)(s':XD):Prop
 |mk (v:V)(σ':St)(H':Hp)(I:Inv X a8T σ' H' s')(r:RelV v u)(q:Q v H'):SPr X a8T Q u s'
noncomputable def SP(X:Cx)(a8T:jw)(D:Ends)(f:Flow)(a:XD):Prop:=
 match f with
 |.next=>SPn X a8T D.nx a|.brk=>SPn X a8T D.bk a|.cont=>SPn X a8T D.ct a|.ret u=>SPr X a8T D.rt u a
noncomputable def PE(X:Cx)(e:Expr)(t:TE):Prop:=
 ∀(a8T:jw)(s:XD)(σ:St)(H:Hp)(Q:VK),Inv X a8T σ H s->t σ H Q->X5 (Yg X.prog X.w) X.A (eval e X.env) (EP X a8T σ Q) X.xe s
noncomputable def PT(X:Cx)(e:Expr)(t:TT):Prop:=
 ∀(a8T:jw)(s:XD)(σ:St)(H:Hp)(Q:Bool->Hp->Prop),Inv X a8T σ H s->t σ H Q->X5 (Yg X.prog X.w) X.A (a6o e X.env (eval e X.env)) (TP X a8T σ Q) X.xe s
noncomputable def PW(X:Cx)(e:Expr)(t:TT):Prop:=
 ∀(a:a8k Value)(a8T:jw)(s:XD)(σ:St)(H:Hp)(Q:Bool->Hp->Prop),Inv X a8T σ H s->t σ H Q->X5 (Yg X.prog X.w) X.A (a6o e X.env a) (TP X a8T σ Q) X.xe s
theorem PW.pt{X:Cx}{e:Expr}{t:TT}(h:PW X e t):PT X e t:=h _
noncomputable def PA(X:Cx)(es:List Expr)(t:TA):Prop:=
 ∀(pos:Zj)(a8T:jw)(s:XD)(σ:St)(H:Hp)(Q:gw->Hp->Prop),Inv X a8T σ H s->t σ H Q->X5 (Yg X.prog X.w) X.A (spliced (a0l pos (Yr es X.env))) (AP X a8T σ Q) X.xe s
noncomputable def PS(X:Cx)(st:Stmt)(t:TS):Prop:=
 ∀(a8T:jw)(s:XD)(σ:St)(H:Hp)(D:Ends),Inv X a8T σ H s->t D σ H->X5 (Yg X.prog X.w) X.A (exec st X.env) (SP X a8T D) X.xe s
noncomputable def PSs(X:Cx)(st:List Stmt)(t:TS):Prop:=
 ∀(a8T:jw)(s:XD)(σ:St)(H:Hp)(D:Ends),Inv X a8T σ H s->t D σ H->X5 (Yg X.prog X.w) X.A (execs st X.env) (SP X a8T D) X.xe s
theorem aR{c:Type}{t:a8k c}{Q b:c->XD->Prop}{M:Model}{A:Yt}{E:Value->XD->Prop}{s:XD}(h:X5 M A t Q E s)(d:∀a s,Q a s->b a s):X5 M A t b E s:=Y8 h d λ_ _ x=>x
section
variable{X:Cx}
noncomputable def xF(i:Nat):TE:=λσ H Q=>∃v,σ[i]?=aX (aX v)/\Q v H
noncomputable def tC(v:V):TE:=λ_ H Q=>Q v H
theorem Cf{i:Nat}{x:Str}{pos:Zj}(j:X.N[i]?=aX x)(p:nV X.env.scope x)(hd:(x==("__debug__":Str))=false:=by decide) (g:(x==("__classdict__":Str))=false:=by decide):PE X (.Name x pos) (xF i):=by
 intro d s q H Q I h;obtain⟨v,e,h⟩:=h;obtain⟨m,o,k⟩:=I.loc;obtain⟨u,r,l⟩:=k i x v j e p;have fin:EP X d q Q u s:=⟨v,H,I,r,h⟩;rcases l with⟨b,n⟩|⟨b,c,hc,a⟩
 ·exact a7v (wpAny_loadName_local I.ok.kind b o n fin) hd
 ·rcases b with b|b
  ·exact a7v (wpAny_loadName_cell I.ok.kind b hc a fin) hd
  ·exact a7v (wpAny_loadName_free I.ok.kind b hc a fin g) hd
theorem JI{i j pos}:PE X (.Constant (.int i) j pos) (tC (.int i)):=λ_ _ _ H _ I h=>wpAny_Constant_int ⟨.int i,H,I.tok _,⟨_,rfl⟩,h⟩
theorem JJ{b j pos}:PE X (.Constant (.bool b) j pos) (tC (.bl b)):=λ_ _ _ H _ I h=>Constant_bool ⟨.bl b,H,I,rfl,h⟩
theorem JK{j pos}:PE X (.Constant .none j pos) (tC .non):=λ_ _ _ H _ I h=>Constant_none ⟨.non,H,I,rfl,h⟩
theorem JM{x j pos}:PE X (.Constant (.str x) j pos) (tC (.str x)):=λ_ _ _ H _ I h=>Calls.Constant_str ⟨.str x,H,I.tok _,⟨_,rfl⟩,h⟩
noncomputable def Gl(X:Cx)(x:Str):Prop:=X.env.kindOf x=aX .globalImplicit
theorem xG{E:Value->XD->Prop}{a8T:jw}{s:XD}{σ:St}{H:Hp}{x:Str}{u:Value}{pos:Zj}{Q:Value->XD->Prop}(I:Inv X a8T σ H s)(a:Gl X x)(b:X.mg x=aX u)(h:Q u s)
  (hd:(x==("__debug__":Str))=false:=by decide):X5 (Yg X.prog X.w) X.A (eval (.Name x pos) X.env) Q E s:=
 a4v I.ok.kind a (Calls.loadGlobal_global (by rw[I.ok.glob];exact I.mod.glob.keeps I.bk) b h) hd
theorem iY{E:Value->XD->Prop}{a8T:jw}{s:XD}{σ:St}{H:Hp}{x:Str}{u:Value}{pos:Zj}{Q:Value->XD->Prop}(I:Inv X a8T σ H s)(c:Gl X x)(d:X.mg x=aY)(g:ZA x=aX u)(h:Q u s)
  (e:x ≠ "__name__":=by decide) (hd:(x==("__debug__":Str))=false:=by decide):X5 (Yg X.prog X.w) X.A (eval (.Name x pos) X.env) Q E s:=by
 obtain⟨i,a,b⟩:=I.mod.blt;exact a4v I.ok.kind c (Calls.loadGlobal_builtin (by rw[I.ok.glob];exact I.mod.glob.keeps I.bk) d (by rw[I.ok.blt];exact a.keeps I.bk) ((b x e).trans g) h) hd
theorem JN{x:Str}{v:V}{u:Value}{pos:Zj}(a:Gl X x)(b:X.mg x=aX u)(r:RelV v u)(hd:(x==("__debug__":Str))=false:=by decide):PE X (.Name x pos) (tC v):=
 λ_ _ _ H _ I h=>xG I a b ⟨v,H,I,r,h⟩ hd
theorem JO{x:Str}{v:V}{u:Value}{pos:Zj}(a:Gl X x)(b:X.mg x=aY)(d:ZA x=aX u)(r:RelV v u)(c:x ≠ "__name__":=by decide) (hd:(x==("__debug__":Str))=false:=by decide):PE X (.Name x pos) (tC v):=
 λ_ _ _ H _ I h=>iY I a b d ⟨v,H,I,r,h⟩ c hd
variable{a b:Expr}{ta tb:TE}{pos:Zj}
variable{tA tB':TT}{bY:List Expr}
noncomputable def JP(t u:TT):TT:=λσ H Q=>t σ H λc d=>if c=b5 then u σ d Q else Q b4 d
noncomputable def JQ(t u:TT):TT:=λσ H Q=>t σ H λc d=>if c=b5 then Q b5 d else u σ d Q
noncomputable def JR(t:TT):TT:=λσ H Q=>t σ H λc d=>Q (!c) d
theorem JS(g:PT X a tA):PW X (.BoolOp .And [a] pos) tA:=by
 intro k d s i H Q I h;refine isTrue_and (aR (g d s i H Q I h) λc j e=>?_);cases c with
 |true=>exact isTrue_and_nil e|false=>exact e
theorem JT(g:PT X a tA):PW X (.BoolOp .Or [a] pos) tA:=by
 intro k d s i H Q I h;refine isTrue_or (aR (g d s i H Q I h) λc j e=>?_);cases c with
 |false=>exact isTrue_or_nil e|true=>exact e
theorem JU(k:PT X a tA)(l:PW X (.BoolOp .And (b::bY) pos) tB'):PW X (.BoolOp .And (a::b::bY) pos) (JP tA tB'):=by
 intro n d s j H Q I h;refine isTrue_and (aR (k d s j H _ I h) λc m ⟨e,g,i⟩=>?_);cases c with
 |true=>exact l n d m j e Q g i|false=>exact⟨e,g,i⟩
theorem JV(k:PT X a tA)(l:PW X (.BoolOp .Or (b::bY) pos) tB'):PW X (.BoolOp .Or (a::b::bY) pos) (JQ tA tB'):=by
 intro n d s j H Q I h;refine isTrue_or (aR (k d s j H _ I h) λc m ⟨e,g,i⟩=>?_);cases c with
 |true=>exact⟨e,g,i⟩|false=>exact l n d m j e Q g i
theorem JW(i:PT X a tA):PT X (.UnaryOp .Not a pos) (JR tA):=by intro d s j H Q I h;exact isTrue_not (aR (i d s j H (λc g=>Q (!c) g) I h) λ_ _ ⟨e,J,q⟩=>⟨e,J,q⟩)
noncomputable def JX(ta tb:TE):TE:=λσ H Q=>ta σ H λx d=>∃c,x=.bl c/\if c=b5 then tb σ d Q else Q (.bl b4) d
noncomputable def JY(ta tb:TE):TE:=λσ H Q=>ta σ H λx d=>∃c,x=.bl c/\if c=b5 then Q (.bl b5) d else tb σ d Q
noncomputable def JZ(ta:TE):TE:=λσ H Q=>ta σ H λx d=>∃c,x=.bl c/\Q (.bl (!c)) d
theorem J3{op} {t:TE}(h:PE X a t):PE X (.BoolOp op [a] pos) t:=λa8T s σ H Q I hw=>BoolOp_one (h a8T s σ H Q I hw)
theorem J4(k:PE X a ta)(l:PE X (.BoolOp .And (b::bY) pos) tb):PE X (.BoolOp .And (a::b::bY) pos) (JX ta tb):=by
 intro d s j H Q I h;refine BoolOp_and (aR (k d s j H _ I h) λv n ⟨x,g,i,m,e⟩=>?_);obtain⟨c,rfl,e⟩:=e;cases m;refine ZT ?_;cases c with
 |true=>exact l d n j g Q i e|false=>exact⟨.bl b4,g,i,rfl,e⟩
theorem J5(k:PE X a ta)(l:PE X (.BoolOp .Or (b::bY) pos) tb):PE X (.BoolOp .Or (a::b::bY) pos) (JY ta tb):=by
 intro d s j H Q I h;refine BoolOp_or (aR (k d s j H _ I h) λv n ⟨x,g,i,m,e⟩=>?_);obtain⟨c,rfl,e⟩:=e;cases m;refine ZT ?_;cases c with
 |false=>exact l d n j g Q i e|true=>exact⟨.bl b5,g,i,rfl,e⟩
theorem J6(j:PE X a ta):PE X (.UnaryOp .Not a pos) (JZ ta):=by intro d s l H Q I h;refine UnaryOp_ (aR (j d s l H _ I h) λv m ⟨x,g,i,k,e⟩=>?_);obtain⟨c,rfl,e⟩:=e;cases k;exact not_of (ZT ⟨.bl (!c),g,i,rfl,e⟩)
noncomputable def J7(t:TT)(ta tb:TE):TE:=λσ H Q=>t σ H λc d=>if c=b5 then ta σ d Q else tb σ d Q
theorem J8{c:Expr}(hc:PT X c tA)(m:PE X a ta)(n:PE X b tb):PE X (.IfExp c a b pos) (J7 tA ta tb):=by
 intro e s g H Q I h;refine wpAny_IfExp (aR (hc e s g H _ I h) λd l ⟨i,j,k⟩=>?_);cases d with
 |true=>exact m e l g i Q j k|false=>exact n e l g i Q j k
end
noncomputable def SqL(K:Xy)(H:Hp)(a:Addr)(xs:gw):Prop:=
 Rd H a (.lst xs) \/
  ∃(o:Obj)(its:Array Value)(n:Nat),K.lookup a=aX o/\o.cls=.type "list"/\o.dict=aY/\o.data=.seq its n/\its.size<=XQ/\Vals xs its.toList
noncomputable def SqT(K:Xy)(H:Hp)(a:Addr)(xs:gw):Prop:=
 Rd H a (.tup xs) \/
  ∃(o:Obj)(its:Array Value)(n:Nat),K.lookup a=aX o/\o.cls=.type "tuple"/\o.dict=aY/\o.data=.seq its n/\its.size<=XQ/\Vals xs its.toList
noncomputable def J9:Value->Option V
 |.none=>aX .non|.bool b=>aX (.bl b)|.int i _=>aX (.int i)|.str x _=>aX (.str x)|.bytes b _=>aX (.byt b)|.float b _=>aX (.flt b)|.ref a=>aX (.ref a)|.type n=>aX (.ty n)|_=>aY
theorem RelV.abs{x:V}{u:Value}(r:RelV x u):J9 u=aX x:=by
 cases x with
 |non=>cases r;rfl|bl _=>cases r;rfl|int _=>obtain⟨t,rfl⟩:=r;rfl|str _=>obtain⟨t,rfl⟩:=r;rfl|byt _=>obtain⟨t,rfl⟩:=r;rfl|flt _=>obtain⟨t,rfl⟩:=r;rfl|ref _=>cases r;rfl|ty _=>cases r;rfl
theorem RelV.inj{x y:V}{u:Value}(r:RelV x u)(q:RelV y u):x=y:=XZ (r.abs.symm.trans q.abs)
theorem Vals.inj:∀{xs a:gw}{us:gq},Vals xs us->Vals a us->xs=a
 |_,_,_,.nil,.nil=>rfl|_,_,_,.cons r t,.cons r' t'=>by rw[r.inj r',Vals.inj t t']
section
variable{X:Cx}{a8T:jw}{σ:St}{H:Hp}{s:XD}{a:Addr}{xs ys:gw}
theorem SqL.of{K:Xy}(h:H a=aX (.lst xs)):SqL K H a xs:=.inl (.inl h)
theorem SqT.of{K:Xy}(h:H a=aX (.tup xs)):SqT K H a xs:=.inl (.inl h)
theorem Inv.list(I:Inv X a8T σ H s)(h:SqL X.K H a xs):∃its:gq,Vals xs its/\PlainL s.heap a its.toArray/\xs.length<=XQ:=by
 rcases h with h|⟨o,its,n,b,hc,hd,c,d,r⟩
 ·obtain⟨z,its,n,r,e⟩:=h.ok I.hok;exact⟨its,r,⟨_,n,e,rfl,rfl,rfl⟩,z⟩
 ·refine⟨its.toList,r,⟨o,n,I.kIn a o b,hc,hd,by simpa using c⟩,?_⟩;have e:=r.length;simp only[Z5]at e;lia
theorem Inv.tuple(I:Inv X a8T σ H s)(h:SqT X.K H a xs):∃its:gq,Vals xs its/\a4u s.heap a its.toArray/\xs.length<=XQ:=by
 rcases h with h|⟨o,its,n,b,hc,hd,c,d,r⟩
 ·obtain⟨z,its,r,p⟩:=h.ok I.hok;exact⟨its,r,p.tup,z⟩
 ·refine⟨its.toList,r,⟨o,I.kIn a o b,hc,n,by simpa using c⟩,?_⟩;have e:=r.length;simp only[Z5]at e;lia
theorem Inv.list_inj(I:Inv X a8T σ H s)(h:SqL X.K H a xs)(h':SqL X.K H a ys):xs=ys:=by
 obtain⟨c,r,⟨o,n,e,_,_,d⟩,_⟩:=I.list h;obtain⟨b,j,⟨l,k,i,_,_,g⟩,_⟩:=I.list h';rw[e]at i;cases i;rw[d]at g;injection g with d1 _;have:c=b:=by simpa using congrArg a7B d1
 subst this;exact r.inj j
theorem Inv.tuple_inj(I:Inv X a8T σ H s)(h:SqT X.K H a xs)(h':SqT X.K H a ys):xs=ys:=by
 obtain⟨c,r,⟨o,e,_,n,d⟩,_⟩:=I.tuple h;obtain⟨b,j,⟨l,i,_,k,g⟩,_⟩:=I.tuple h';rw[e]at i;cases i;rw[d]at g;injection g with d1 _;have:c=b:=by simpa using congrArg a7B d1
 subst this;exact r.inj j
end
noncomputable abbrev Cx.wish(X:Cx)(E:Value->XD->Prop):Cx:={X with xe:=E}
noncomputable abbrev Cx.nox(X:Cx):Cx:=X.wish λ_ _=>False
theorem Cx.Ok.wish{X:Cx}(ok:X.Ok)(E:Value->XD->Prop):(X.wish E).Ok:=
 ⟨ok.mod,ok.kind,ok.glob,ok.blt,ok.above,ok.inj,ok.has,ok.cab,ok.hd,ok.frames,ok.stk,ok.exf,ok.bs,ok.bsz,ok.noex,ok.exfs,ok.funs,ok.frf⟩
theorem Cx.Ok.unwish{X:Cx}{E:Value->XD->Prop}(ok:(X.wish E).Ok):X.Ok:=
 ⟨ok.mod,ok.kind,ok.glob,ok.blt,ok.above,ok.inj,ok.has,ok.cab,ok.hd,ok.frames,ok.stk,ok.exf,ok.bs,ok.bsz,ok.noex,ok.exfs,ok.funs,ok.frf⟩
section
variable{X:Cx}{a8T:jw}{σ:St}{H:Hp}{s:XD}{E:Value->XD->Prop}
theorem Inv.wish(I:Inv X a8T σ H s)(E:Value->XD->Prop):Inv (X.wish E) a8T σ H s:=⟨I.ok.wish E,I.os,I.bare,I.base,I.loc,I.cell,I.free,I.freeC,I.pin,I.hok,I.len⟩
theorem Inv.unwish(I:Inv (X.wish E) a8T σ H s):Inv X a8T σ H s:=⟨I.ok.unwish,I.os,I.bare,I.base,I.loc,I.cell,I.free,I.freeC,I.pin,I.hok,I.len⟩
theorem SP.unwish{D:Ends}{f:Flow}{c:XD}(h:SP (X.wish E) a8T D f c):SP X a8T D f c:=by
 cases f with
 |next=>obtain⟨a,b,I,q⟩:=h;exact⟨a,b,I.unwish,q⟩|brk=>obtain⟨a,b,I,q⟩:=h;exact⟨a,b,I.unwish,q⟩|cont=>obtain⟨a,b,I,q⟩:=h;exact⟨a,b,I.unwish,q⟩|ret u=>obtain⟨v,a,b,I,r,q⟩:=h;exact⟨v,a,b,I.unwish,r,q⟩
theorem PSs.nox{st:List Stmt}{t:TS}(h:PSs X.nox st t):PSs X st t:=λa8T s σ H D I hw=>Y8 (h a8T s σ H D (I.wish _) hw) (λ_ _ q=>q.unwish) λ_ _ z=>Z0 z
end
section
variable{X:Cx}{st:Stmt}{bY:List Stmt}{t u:TS}{e:Expr}{te:TE}{pos:Zj}
noncomputable def Cg:TS:=λD σ H=>D.nx σ H
noncomputable def Ka(t u:TS):TS:=λD σ H=>t {D with nx:=u D} σ H
theorem Kb:PSs X [] Cg:=λ_ _ σ H _ I h=>a3d ⟨σ,H,I,h⟩
theorem Kc(h1:PS X st t)(g:PSs X bY u):PSs X (st::bY) (Ka t u):=by
 intro a s j H D I h;refine a7R (aR (h1 a s j H {D with nx:=u D} I h) λf i q=>?_);cases f with
 |next=>obtain⟨b,c,d,q⟩:=q;exact g a i b c D d q|ret v=>exact q|brk=>exact q|cont=>exact q
theorem Kd(h1:PS X st t):PSs X [st] t:=by
 intro a s b H D I h;refine a7R (aR (h1 a s b H D I h) λf c q=>?_);cases f with
 |next=>exact a3d q|ret v=>exact q|brk=>exact q|cont=>exact q
theorem Ke:PS X (.Pass pos) Cg:=λ_ _ σ H _ I h=>wpAny_Pass ⟨σ,H,I,h⟩
theorem Inv.quiet{a8T:jw}{σ:St}{H:Hp}{s:XD}(I:Inv X a8T σ H s):interactive X.env=false:=by simp[interactive,I.ok.kind]
noncomputable def Kf(te:TE):TS:=λD σ H=>te σ H λ_ a=>D.nx σ a
theorem Kg(g:PE X e te)(i:a1M e aY pos.line X.env=pure false:=by rfl):PS X (.Expr e pos) (Kf te):=by intro a s b H D I h;exact wpAny_Expr_any (aR (g a s b H _ I h) λv l ⟨x,c,d,k,j⟩=>⟨b,c,d,j⟩) I.quiet i
noncomputable def Kh(te:TE):TS:=λD σ H=>te σ H D.rt
theorem Ki(g:PE X e te):PS X (.Return (aX e) pos) (Kh te):=by intro a s b H D I h;exact wpAny_Return_some (aR (g a s b H _ I h) λv k ⟨x,c,d,j,i⟩=>⟨x,b,c,d,j,i⟩)
noncomputable def Kj:TS:=λD _ H=>D.rt .non H
theorem Kk:PS X (.Return aY pos) Kj:=λ_ _ σ H _ I h=>wpAny_Return_none ⟨.non,σ,H,I,rfl,h⟩
noncomputable def Kl(c:TT)(t u:TS):TS:=λD σ H=>c σ H λb a=>if b=b5 then t D σ a else u D σ a
theorem Km{c:Expr}{a b:List Stmt}{n:TT}(hc:PT X c n)(o:PSs X a t)(p:PSs X b u):PS X (.If c a b pos) (Kl n t u):=by
 intro g s i H D I h;refine wpAny_If (aR (hc g s i H _ I h) λd m ⟨j,k,l⟩=>?_);cases d with
 |true=>exact o g m i j D k l|false=>exact p g m i j D k l
end
noncomputable abbrev TG:=V->St->Hp->(St->Hp->Prop)->Prop
noncomputable abbrev mQ:=List V->St->Hp->(St->Hp->Prop)->Prop
noncomputable def PG(X:Cx)(a:Expr)(t:TG):Prop:=
 ∀(a8T:jw)(s:XD)(σ:St)(H:Hp)(v:V)(u:Value)(Q:St->Hp->Prop),Inv X a8T σ H s->RelV v u->t v σ H Q->
  X5 (Yg X.prog X.w) X.A (a3w a X.env u) (λ_ b=>SPn X a8T Q b) X.xe s
noncomputable def o6(X:Cx)(b:List Expr)(t:mQ):Prop:=
 ∀(a8T:jw)(s:XD)(σ:St)(H:Hp)(vs:gw)(us:gq)(Q:St->Hp->Prop),Inv X a8T σ H s->Vals vs us->t vs σ H Q->
  X5 (Yg X.prog X.w) X.A (a3Q ((ZU b X.env).map (·.2)) us) (λ_ a=>SPn X a8T Q a) X.xe s
noncomputable abbrev tY:=V->V->V->Hp->(Hp->Prop)->Prop
noncomputable def Ci(X:Cx)(t:tY):Prop:=
 ∀(a8T:jw)(s:XD)(σ:St)(H:Hp)(o i v:V)(c b u:Value)(Q:Hp->Prop),Inv X a8T σ H s->RelV o c->RelV i b->RelV v u->t o i v H Q->
  X5 (Yg X.prog X.w) X.A (setItem c b u) (λ_ d=>∃a,Inv X a8T σ a d/\Q a) X.xe s
section
variable{X:Cx}{pos:Zj}
noncomputable def xH(i:Nat):TG:=λv σ H Q=>Q (σ.set i (aX v)) H
theorem Cj{i:Nat}{x:Str}(c:X.N.Nodup)(hi:X.N[i]?=aX x)(e:Loc X.env.scope x)(d:X.fn x=b5\/X.env.scope.names.lookup x=aX .local:=by first|exact .inl rfl|exact .inr rfl|assumption):PG X (.Name x pos) (xH i):=by intro b s j H v u Q I r h;exact a7D (tX I c hi e r (λg a=>⟨_,H,a,h⟩) d)
noncomputable def Ck:mQ:=λvs σ H Q=>vs=[]/\Q σ H
noncomputable def Cm(t:TG)(u:mQ):mQ:=λvs σ H Q=>∃v r,vs=v::r/\t v σ H λa b=>u r a b Q
theorem Cn:o6 X [] Ck:=by intro a s b H d c Q I r h;obtain⟨e,h⟩:=h;subst e;cases r;exact a7I ⟨b,H,I,h⟩
theorem xI{e:Expr}{es:List Expr}{t:TG}{u:mQ}(h1:PG X e t)(i:o6 X es u)
  (j:(ZU (e::es) X.env).map (·.2)=a3w e X.env::(ZU es X.env).map (·.2):=by rfl):o6 X (e::es) (Cm t u):=by
 intro a s n H q o Q I r h;obtain⟨v,p,g,h⟩:=h;subst g;cases r with
 |cons r l=>rw[j];refine a3Y (aR (h1 a s n H _ _ _ I r h) λ_ m ⟨b,c,d,k⟩=>?_);exact i a m b c _ _ Q d l k
noncomputable def Kn(K:Xy)(n:Nat)(t:mQ):TG:=λv σ H Q=>∃a xs,v=.ref a/\SqT K H a xs/\xs.length=n/\t xs σ H Q
theorem Ko{es:List Expr}{k:Nat}{t:mQ}{n:Nat}(hc:X.calm=b5)(h:o6 X es t)
  (q:(ZU es X.env).length=n:=by rfl)(d:(ZU es X.env).findIdx? (·.1)=none:=by rfl):PG X (.Tuple es k pos) (Kn X.K n t):=by
 intro c s i H v u Q I r hw;obtain⟨a,A,l,w,p,hw⟩:=hw;subst l;cases r;obtain⟨z,g,x,B⟩:=I.tuple w;refine assign_Tuple_tuple (I.ok.hd hc) x (by simp[q,<- p,g.length]) d λm y=>?_;have j:Inv X c i H {s with heap:=m}:=I.kept (t':=s.toks) λb o e=>y b o (XU (XN e)) e;exact h c _ i H A _ Q j (by simpa using g) hw
noncomputable def Co(to d:TE)(t:tY):TG:=λv σ H Q=>to σ H λo a=>d σ a λi b=>t o i v b λc=>Q σ c
theorem Kq{o i:Expr}{to e:TE}{t:tY}(q:PE X o to)(hi:PE X i e)(w:Ci X t)
  (p:∀v,a3w (.Subscript o i pos) X.env v=(do
   let b <- holding [v] (eval o X.env)
   let c <- holding [v,b] (eval i X.env)
   a7F pos
   holding [v,b,c] (setItem b c v)
   release [v,b,c] []):=by intro _;rfl):PG X (.Subscript o i pos) (Co to e t):=by
 intro a s d H v u Q I r h;rw[p];refine Xw (YI (aR (q a s d H _ I h) λb J ⟨x,g,l,E,z⟩=>?_));refine Xw (YI (aR (hi a J d g _ l z) λc K ⟨y,j,m,G,A⟩=>?_));refine Xw (a1R (Xw (YI (aR (w a K d j x y v b c u _ m E G r A) λ_ L ⟨k,n,B⟩=>?_))));exact wpAny_release ⟨d,k,n,B⟩
noncomputable def Cp(b:TE)(g:TG):TS:=λD σ H=>b σ H λx a=>g x σ a D.nx
theorem Cq{tg e:Expr}{b:TE}{g:TG}(j:PE X e b)(k:PG X tg g)(l:a3N [tg] e pos.line X.env=pure false:=by rfl)(hw:a0d [tg] e X.env=pure none:=by rfl)
  (h1:(ZU [tg] X.env).map (·.2)=[a3w tg X.env]:=by rfl):PS X (.Assign [tg] e pos) (Cp b g):=by
 intro a s c H D I h;refine wpAny_Assign_stores (aR (j a s c H _ I h) λv o ⟨x,d,i,n,m⟩=>?_) l hw;rw[h1];exact aR (k a o c d x v _ i n m) λ_ p q=>q
theorem Kr{i:Nat}{x:Str}{e:Expr}{c:TE}{a:Zj}(k:X.N.Nodup)(hi:X.N[i]?=aX x)(o:Loc X.env.scope x)(l:PE X e c)(n:a1M e (aX (.Name x a)) pos.line X.env=pure false:=by rfl)(m:X.fn x=b5\/X.env.scope.names.lookup x=aX .local:=by first|exact .inl rfl|exact .inr rfl|assumption) :
  PS X (.Assign [.Name x a] e pos) (Cp c (xH i)):=by
 intro b s r H D I h;refine wpAny_Assign_Name (aR (l b s r H _ I h) λv u ⟨y,d,g,q,p⟩=>?_) n;exact tX g k hi o q (λw j=>⟨_,d,j,p⟩) m
noncomputable def Ks(i j:Nat)(b:TA):TS:=λD σ H=>b σ H λvs a=>∃v w,vs=[v,w]/\D.nx ((σ.set i (aX v)).set j (aX w)) a
theorem Kt{i j:Nat}{x y:Str}{a b:Expr}{K:TA}{r py pt:Zj} {kt k2 pt2} (hc:X.calm=b5)(E:X.N.Nodup)(hi:X.N[i]?=aX x)(Y:X.N[j]?=aX y)(m:i≠j)
  (G:X.env.scope.names.lookup x=aX .local)(J:X.env.scope.names.lookup y=aX .local)(U:PA X [a,b] K)
  (hw:a0d [.Tuple [.Name x r,.Name y py] kt pt] (.Tuple [a,b] k2 pt2) X.env=pure (aX [x,y]))
  (Z:a3N [.Tuple [.Name x r,.Name y py] kt pt] (.Tuple [a,b] k2 pt2) pos.line X.env=pure false:=by rfl) :
  PS X (.Assign [.Tuple [.Name x r,.Name y py] kt pt] (.Tuple [a,b] k2 pt2) pos) (Ks i j K):=by
 intro l s L H D I h;rw[exec_Assign_arm];refine Xw (a1R ?_);rw[Z];refine Xw (XC ?_);rw[if_neg (by decide)];refine Xw (Tuple_ (aR (U _ l s L H _ I h) λus d ⟨vs,A,M,r1,u⟩=>?_));obtain⟨v,w,R,u⟩:=u;subst R;obtain⟨g,k,rfl,rv,z⟩:∃g k,us=[g,k]/\RelV v g/\RelV w k:=by
  cases r1 with
  |cons p q=>
   cases q with
   |cons p' q'=>cases q';exact⟨_,_,rfl,p,p'⟩
 refine Y4 ?_ (by show 2<=XQ;decide);have N:Inv X l L A {d with heap:=d.heap.push {cls:=.type "tuple",data:=.seq [g,k].toArray}}:=M.kept (t':=d.toks) λb o e=>XE _ e;rw[hw];refine Xw (XC ?_);show X5 (Yg X.prog X.w) X.A (do rule "assign.swapped-stores";let c <- a6W (.ref d.heap.objs.size) 2 aY;a3Q [λv=>a7a X.env y v,λv=>a7a X.env x v] c.reverse;pure a6S) _ _ _;refine Xw (a1p (Xw (unpackItems_tuple (items:=#[g,k]) (I.ok.hd hc) (IsTup.new d.heap _) λT n=>?_)));have O:=N.kept (h':=T) (t':=d.toks) λb o e=>n b o (XU (XN e)) e;show X5 _ _ (a3Q [λv=>a7a X.env y v,λv=>a7a X.env x v] [k,g] >>= λ_=>pure a6S) _ _ _;refine Xw (a3Y (a8I (tX O E Y (.inl J) z (λs2 Q=>?_) (.inr J))));refine a3Y (a8I (tX Q E hi (.inl G) rv (λs3 B=>a7I (XC ?_)) (.inr G)));rw[List.set_comm _ _ (Yn m)]at B;exact⟨_,A,B,u⟩
end
section
variable{X:Cx}{pos:Zj}
noncomputable def Ku(c:TT)(h:TS):TS:=λD σ H=>∃W:Nat->St->Hp->Prop,(∃m,W m σ H)/\∀m σ H,W m σ H->
 c σ H λb e=>if b=b5 then ∃N:St->Hp->Prop,(∀a d,N a d->∃g,g<m/\W g a d)/\h {D with nx:=N,ct:=N,bk:=D.nx} σ e else D.nx σ e
theorem Kv{c:Expr}{body:List Stmt}{B:TT}{A:TS}(z:a4L (Yg X.prog X.w) X.A X.env X.xe)(hc:PT X c B)(G:PSs X body A):PS X (.While c body [] pos) (Ku B A):=by
 intro e s R H D I h;obtain⟨W,⟨J,O⟩,turn⟩:=h;refine wpAny_While (codeAny_whileLoop (λn K=>∃i r,Inv X e i r K/\W n i r) ?_ J ⟨R,H,I,O⟩);rintro n L ⟨d,u,E,Q⟩;refine a0P z (aR (hc e L d u _ E (turn n d u Q)) λb M ⟨w,x,j⟩=>?_);cases b with
 |true=>
  obtain⟨N,y,j⟩:=j;rw[if_pos rfl];refine a0P z (aR (G e M d w _ x j) λf T k=>?_);cases f with
  |next=>obtain⟨a,g,l,p⟩:=k;obtain⟨o,m,q⟩:=y a g p;exact⟨o,m,a,g,l,q⟩|cont=>obtain⟨a,g,l,p⟩:=k;obtain⟨o,m,q⟩:=y a g p;exact⟨o,m,a,g,l,q⟩|brk=>exact k|ret v=>exact k
 |false=>rw[if_neg X9];exact a3d ⟨d,w,x,j⟩
end
structure It where
 go:Nat->Hp->Prop
 yld:Nat->Hp->V->Hp->Prop
 stop:Nat->Hp->Prop
noncomputable def iZ(X:Cx)(a8T:jw)(H:Hp)(b:Addr):Prop:=
 H b=aY/\b≠X.env.locals/\b∉X.fs/\(b∈X.ex\/X.s₀.heap.objs.size<=b)/\(∀x c,X.env.cells.lookup x=aX c->c≠b)/\∀p∈X.pn++a8T,p.1≠b
theorem Inv.fpOk{X:Cx}{a8T:jw}{σ:St}{H d:Hp}{s:XD}{b:Addr}(I:Inv X a8T σ H s)(a:s.heap.objs.size<=b)(g:d b=aY):iZ X a8T d b:=by
 refine⟨g,YT (Yh I.lt a),I.nofs a,.inr (Ys I.sz a),λx c e z=>?_,λp h z=>?_⟩
 ·obtain⟨v,q⟩:=I.cell x c e;exact absurd (Yh q.lt (by rw[z];exact a)) (a0H _)
 ·exact absurd (Yh (XN (I.pin p h).1) (by rw[z];exact a)) (a0H _)
noncomputable abbrev Qc(X:Cx):Prop:=X.calm=b5
structure Turn(q:Cx->Prop)(P:Yk)(w:Yz)(K:Xy)(tg:Expr)(J:It)(fp:List Addr)(it:Addr)(tn:Nat->YZ->Prop):Prop where
 mem:it∈fp
 obj:∀i h,tn i h->∀b∈fp,∃o,h.get? b=aX o/\∀v,o.data≠.cell v
 keep:∀i h h',tn i h->(∀b∈fp,∀o,h.get? b=aX o->h'.get? b=aX o)->tn i h'
 item:∀(X:Cx),X.prog=P->X.w=w->X.K=K->q X->∀(i:Nat)(a8T:jw)(s:XD)(σ:St)(H:Hp)(E:Value->XD->Prop),Inv X a8T σ H s->(∀b∈fp,iZ X a8T H b)->tn i s.heap->J.go i H->
  X5 (Yg P w) X.A (a1q (.ref it)) (λr s1=>∃u,r=aX u /\
   X5 (Yg P w) X.A (a3e tg (.ref it) u) (λ_ s2=>∃x H',Inv X a8T σ H' s2/\RelV x u/\J.yld i H x H'/\tn (i+1) s2.heap/\∀b∈fp,H' b=aY) E s1) E s
 done:∀(X:Cx),X.prog=P->X.w=w->X.K=K->q X->∀(i:Nat)(a8T:jw)(s:XD)(σ:St)(H:Hp)(E:Value->XD->Prop),Inv X a8T σ H s->(∀b∈fp,iZ X a8T H b)->tn i s.heap->J.stop i H->
  X5 (Yg P w) X.A (a1q (.ref it)) (λr s1=>r=aY/\Inv X a8T σ H s1) E s
 self:∀(A:Yt)(i:Nat)(s:XD)(Q:Value->XD->Prop)(E:Value->XD->Prop),tn i s.heap->Q (.ref it) s->X5 (Yg P w) A (a2H (.ref it)) Q E s
noncomputable abbrev TI:=St->Hp->(It->Hp->Prop)->Prop
inductive PIEq (q:Cx->Prop)(X:Cx)(a8T:jw)(σ:St)(tg:Expr)(R:It->Hp->Prop)(itv:Value)(s2:XD):Prop
 |mk (it:Addr)(fp:List Addr)(tn:Nat->YZ->Prop)(J:It)(H':Hp)(e:itv=.ref it)(I:Inv X a8T σ H' s2)(T:Turn q X.prog X.w X.K tg J fp it tn)(t0:tn 0 s2.heap)(f:∀b∈fp,iZ X a8T H' b)(r:R J H'):PIEq q X a8T σ tg R itv s2
noncomputable abbrev xJ:=PIEq Qc
noncomputable def rF(q:Cx->Prop)(X:Cx)(tg iter:Expr)(b:TI):Prop:=
 ∀(a8T:jw)(s:XD)(σ:St)(H:Hp)(R:It->Hp->Prop),Inv X a8T σ H s->b σ H R->
  X5 (Yg X.prog X.w) X.A (eval iter X.env) (λv a=>X5 (Yg X.prog X.w) X.A (a2H v) (PIEq q X a8T σ tg R) X.xe a) X.xe s
noncomputable abbrev PI:=rF Qc
theorem rG {M:Model}{A:Yt}{E:Value->XD->Prop}{s:XD}{tg:Expr}{b:Addr}{u:Value}{o:Obj}{n:String}{vs:Array Value}{Q:Unit->XD->Prop}(d:s.heap.get? b=aX o)(hc:o.cls=.type n)(hd:o.data=.fields vs)
  (c:["enumerate","zip","dict_itemiterator","dict_reverseitemiterator","odict_iterator","itertools.zip_longest","itertools.pairwise"].contains n=b4) (a:Q () s):X5 M A (a3e tg (.ref b) u) Q E s:=by
 unfold a3e
 cases tg<;>first
  | exact XC a
  | (cases u<;>first
    | exact XC a
    | (refine Xw (a7u d ?_)
       rw [hc,hd]
       show X5 M A (if (["enumerate","zip","dict_itemiterator","dict_reverseitemiterator","odict_iterator","itertools.zip_longest","itertools.pairwise"].contains n&&vs[0]? == aX (a1k _))=b5 then _ else _) Q E s
       rw [if_neg (by intro h;rw [c,a7s] at h;cases h)]
       exact XC a))
noncomputable def xK (K:Xy)(a:Addr):It:=
 ⟨fun i H=>∃ b x,SqL K H a b/\b[i]? = aX x,fun i H x c=>c=H/\∀ b,SqL K H a b->b[i]? = aX x,fun i H=>∃ b,SqL K H a b/\b.length<=i⟩
noncomputable def xM(K:Xy)(a:Addr):It:=
 ⟨λi H=>∃b x,SqT K H a b/\b[i]?=aX x,λi H x c=>c=H/\∀b,SqT K H a b->b[i]?=aX x,λi H=>∃b,SqT K H a b/\b.length<=i⟩
noncomputable def mR(lo:Int)(n:Nat):It:=⟨λi _=>i<n,λi H x a=>a=H/\x=.int (lo+i),λi _=>n<=i⟩
theorem Kw{P:Yk}{w:Yz}{K:Xy}{tg:Expr}(a j:Addr):Turn Qc P w K tg (xK K a) [j] j (λi h=>h.IsListIter j a i) where
 mem:=by simp
 obj:=λi h st b g=>by
  have e:b=j:=by simpa using g
  subst e;obtain⟨o,e,c,d⟩:=st;exact⟨o,e,λv z=>by rw[d]at z;cases z⟩
 keep:=λi h n st k=>st.at λo e=>k j (by simp) o e;item:=by intro X M hw L hc i l s T H E I q st N;subst M hw L;obtain⟨xs,x,r,O⟩:=N;obtain⟨Q,R,p,hz⟩:=I.list r;obtain⟨u,hu,ru⟩:=R.get O;obtain⟨y,A,Z,B,G,J⟩:=q j (by simp);refine a6g st p.isList (x:=u) (by simpa using hu) λn m sb=>?_;have U:Inv X l T H {s with heap:=n}:=I.turned (t':=s.toks) (λb o g e=>(sb.2 b g).trans e) y A B G J;obtain⟨o,e,c,d⟩:=id m;exact⟨u,rfl,rG (s:={s with heap:=n}) e c d (by decide) ⟨x,H,U,ru,⟨rfl,λys hy=>by rw[I.list_inj hy r];exact O⟩,m,λb g=>(q b g).1⟩⟩
 done:=by intro X M hw L hc i l s T H E I q st N;subst M hw L;obtain⟨xs,r,O⟩:=N;obtain⟨Q,R,p,hz⟩:=I.list r;obtain⟨y,A,Z,B,G,J⟩:=q j (by simp);have hl:=R.length;exact a6F (I.ok.hd hc) st p.isList (by simp;lia) λn Y=>⟨rfl,I.turned (t':=s.toks) (λb o g e=>Y b o g e) y A B G J⟩
 self:=λ_ _ _ _ _ st h=>wpAny_pyIter_listiter st h
theorem Ky{P:Yk}{w:Yz}{K:Xy}{tg:Expr}(a j:Addr):Turn Qc P w K tg (xM K a) [j] j (λi h=>h.IsTupleIter j a i) where
 mem:=by simp
 obj:=λi h st b g=>by
  have e:b=j:=by simpa using g
  subst e;obtain⟨o,e,c,d⟩:=st;exact⟨o,e,λv z=>by rw[d]at z;cases z⟩
 keep:=λi h q st k=>st.at λo e=>k j (by simp) o e;item:=by intro X N hw M hc i m s T H E I r st O;subst N hw M;obtain⟨xs,x,y,Q⟩:=O;obtain⟨l,R,p,hz⟩:=I.tuple y;obtain⟨u,hu,ru⟩:=R.get Q;obtain⟨A,B,Z,G,J,L⟩:=r j (by simp);refine wpAny_pyNext_tuple_item st (show s.heap.IsTuple a l.toArray from p) (x:=u) (by simpa using hu) λq n sb=>?_;have U:Inv X m T H {s with heap:=q}:=I.turned (t':=s.toks) (λb o g e=>(sb.2 b g).trans e) A B G J L;obtain⟨o,e,c,d⟩:=id n;exact⟨u,rfl,rG (s:={s with heap:=q}) e c d (by decide) ⟨x,H,U,ru,⟨rfl,λys hy=>by rw[I.tuple_inj hy y];exact Q⟩,n,λb g=>(r b g).1⟩⟩
 done:=by intro X N hw M hc i m s T H E I r st O;subst N hw M;obtain⟨xs,y,Q⟩:=O;obtain⟨l,R,p,hz⟩:=I.tuple y;obtain⟨A,B,Z,G,J,L⟩:=r j (by simp);have hl:=R.length;exact wpAny_pyNext_tuple_end (I.ok.hd hc) st (show s.heap.IsTuple a l.toArray from p) (by simp;lia) λq Y=>⟨rfl,I.turned (t':=s.toks) (λb o g e=>Y b o g e) A B G J L⟩
 self:=λ_ _ _ _ _ st h=>wpAny_pyIter_tupleiter st h
theorem Cr{P:Yk}{w:Yz}{K:Xy}{tg:Expr}(a:Addr)(lo:Int)(n:Nat):Turn Qc P w K tg (mR lo n) [a] a (λi h=>a3y h a (lo+(i:Nat)*1) ((n:Int)-(i:Nat)) 1) where
 mem:=by simp
 obj:=λi h st b c=>by
  have e:b=a:=by simpa using c
  subst e;exact⟨_,st,λv z=>by
   have Q:YR _=a3b v:=z;cases Q⟩
 keep:=λi h j st k=>k a (by simp) _ st;item:=by intro X y hw x hc i d s G H E I l st A;subst y hw x;obtain⟨m,p,M,q,r,u⟩:=l a (by simp);have W:=Walks.range (prog:=X.prog) (w:=X.w) (I.ok.hd hc) a lo 1 n;refine W.item i s _ _ A st λv j B N g O=>?_;obtain⟨t,rfl⟩:=N;have J:Inv X d G H {s with heap:=j,toks:=B}:=I.turned (λb o c e=>O b o (by simpa using c) e) m p q r u;refine⟨_,rfl,rG (s:={s with heap:=j,toks:=B}) (n:="range_iterator") g rfl rfl (by decide) ⟨.int (lo+i),H,J,⟨t,?_⟩,⟨rfl,rfl⟩,g,λb c=>(l b c).1⟩⟩;rw[a5T]
 done:=by intro X y hw x hc i d s G H E I l st A;subst y hw x;obtain⟨m,p,M,q,r,u⟩:=l a (by simp);exact wpAny_pyNext_range_end (I.ok.hd hc) st (by have:n<=i:=A;lia) λj L=>⟨rfl,I.turned (t':=s.toks) (λb o c e=>L b o c e) m p q r u⟩
 self:=λ_ _ _ _ _ st h=>wpAny_pyIter_rangeiter st h
section
variable{X:Cx}{tg:Expr}
theorem Ct{q:Cx->Prop}(tr:∀(c:Addr)(lo:Int)(n:Nat),Turn q X.prog X.w X.K tg (mR lo n) [c] c (λi h=>a3y h c (lo+(i:Nat)*1) ((n:Int)-(i:Nat)) 1)){a8T:jw}{σ:St}{H:Hp}{s:XD}{R:It->Hp->Prop}{E:Value->XD->Prop}{lo hi:Int}{t u v:a8S}{tk:Nat}(I:Inv X a8T σ H s)(h1:-(2^62)<=lo)(j:lo<2^62)(k:-(2^62)<=hi)(l:hi<2^62)
  (m:R (mR lo (hi-lo).toNat) H):X5 (Yg X.prog X.w) X.A (a2H (.ref s.heap.objs.size)) (PIEq q X a8T σ tg R) E {s with heap:=s.heap.push {cls:=.type "range",data:=.fields #[.int lo t,.int hi u,.int 1 v]},toks:=tk}:=by
 refine wpAny_pyIter_range (IsRange.new ..) (small_one h1 j k l) ?_;have a:Inv X a8T σ H {s with heap:=s.heap.push {cls:=.type "range",data:=.fields #[.int lo t,.int hi u,.int 1 v]},toks:=tk}:=I.kept λb o e=>XE _ e;refine⟨(s.heap.push {cls:=.type "range",data:=.fields #[.int lo t,.int hi u,.int 1 v]}).objs.size,[(s.heap.push {cls:=.type "range",data:=.fields #[.int lo t,.int hi u,.int 1 v]}).objs.size],_,_,H,rfl,
  a.kept (t':=tk) λb o e=>XE _ e,tr _ lo (hi-lo).toNat,?_,λb p=>?_,m⟩
 ·have d:lo+((0:Nat):Int)*1=lo:=by simp
  have g:(((hi-lo).toNat:Nat):Int)-((0:Nat):Int)=a8e lo hi 1:=by rw[rangeSize_one];split<;>lia
  show a3y _ _ (lo+((0:Nat):Int)*1) ((((hi-lo).toNat:Nat):Int)-((0:Nat):Int)) 1;rw[d,g];exact XT _ rfl
 ·have e:b=(s.heap.push {cls:=.type "range",data:=.fields #[.int lo t,.int hi u,.int 1 v]}).objs.size:=by simpa using p
  subst e;exact a.fpOk (XJ _) (a.hok.fresh (XJ _))
noncomputable def Kz(b:TA):TI:=λσ H R=>b σ H λvs a=>∃j:Int,vs=[.int j]/\-(2^62)<=j/\j<2^62/\R (mR 0 j.toNat) a
noncomputable def KA(b:TA):TI:=λσ H R=>b σ H λvs a=>∃i j:Int,vs=[.int i,.int j]/\(-(2^62)<=i/\i<2^62/\-(2^62)<=j/\j<2^62)/\R (mR i (j-i).toNat) a
theorem KG{q:Cx->Prop}(tr:∀(c:Addr)(lo:Int)(n:Nat),Turn q X.prog X.w X.K tg (mR lo n) [c] c (λi h=>a3y h c (lo+(i:Nat)*1) ((n:Int)-(i:Nat)) 1)){a:Expr}{g:TA}{p pos:Zj}(m:Gl X "range") (o:X.mg "range"=aY) (l:PA X [a] g)(u:Yr [a] X.env=[(b4,eval a X.env)]:=by rfl):rF q X tg (.Call (.Name "range" p) [a] [] pos) (Kz g):=by
 intro b s z H R I h;refine Call_ (iY I m o boot_range (Zi (aR (l pos b s z H _ I h) λE B ⟨G,A,k,x,d⟩=>?_) u rfl));obtain⟨j,e,d,v,w⟩:=d;subst e;cases x with
 |cons r y=>cases y;obtain⟨t,rfl⟩:=r;exact call_range_1 (Ct tr k (by lia) (by lia) d v (by simpa using w))
theorem KH{a b:Expr}{l:TA}{p pos:Zj}(o:Gl X "range") (u:X.mg "range"=aY) (n:PA X [a,b] l)(v:Yr [a,b] X.env=[(b4,eval a X.env),(b4,eval b X.env)]:=by rfl)(c:Yr [b] X.env=[(b4,eval b X.env)]:=by rfl) :
  PI X tg (.Call (.Name "range" p) [a,b] [] pos) (KA l):=by
 intro d s B H R I h;refine Call_ (iY I o u boot_range (Zi (aR (n pos d s B H _ I h) λK G ⟨L,E,m,A,g⟩=>?_) (by rw[v,c]) (by rw[c];rfl)));obtain⟨i,j,e,⟨g,w,x,y⟩,q⟩:=g;subst e;cases A with
 |cons r k=>
  cases k with
  |cons z k=>cases k;obtain⟨t,rfl⟩:=r;obtain⟨J,rfl⟩:=z;exact call_range_2 (Ct Cr m g w x y q)
noncomputable def KI(k:TI)(g:TG)(j:TS):TS:=λD σ H=>k σ H λJ e=>∃W:Nat->Nat->St->Hp->Prop,(∃m,W 0 m σ e)/\∀i m σ H,W i m σ H->
 (J.stop i H/\D.nx σ H)\/(J.go i H/\∃N:St->Hp->Prop,(∀b a,N b a->∃d,d<m/\W (i+1) d b a)/\∀x a,J.yld i H x a->g x σ a λc h=>j {D with nx:=N,ct:=N,bk:=D.nx} c h)
noncomputable def rH(a:List Addr)(h:YZ):jw:=a.filterMap λb=>(h.get? b).map λo=>(b,o)
theorem tZ{a:List Addr}{h:YZ}{b:Addr}{o:Obj}(c:b∈a)(e:h.get? b=aX o):(b,o)∈rH a h:=a2c.mpr ⟨b,c,by rw[e];rfl⟩
theorem KJ{a:List Addr}{h:YZ}{p:Addr×Obj}(g:p∈rH a h):p.1∈a/\h.get? p.1=aX p.2:=by
 obtain⟨b,d,e⟩:=a2c.mp g;cases q:h.get? b with
 |none=>rw[q]at e;cases e|some o=>rw[q]at e;have c:(b,o)=p:=XZ e;subst c;exact⟨d,q⟩
theorem Inv.pinned{a8T:jw}{σ:St}{H:Hp}{s:XD}{a:List Addr}(I:Inv X a8T σ H s)(k:∀b∈a,iZ X a8T H b)(l:∀b∈a,∃o,s.heap.get? b=aX o/\∀v,o.data≠.cell v):Inv X (a8T++rH a s.heap) σ H s:=
 I.pins_of λp m=>(Yq.mp m).elim (λz=>I.pin p (YQ _ z)) λz=>by obtain⟨g,e⟩:=KJ z;obtain⟨h,i,j,_⟩:=k p.1 g;obtain⟨o,c,d⟩:=l p.1 g;rw[e]at c;cases c;exact⟨e,h,i,j,d⟩
theorem Inv.unpinned{a8T b:jw}{σ:St}{H:Hp}{s:XD}(I:Inv X (a8T++b) σ H s):Inv X a8T σ H s:=I.pins_of λp a=>I.pin p (YQ _ (Y6 _ a))
theorem KL{iter:Expr}{body:List Stmt}{wi:TI}{g:TG}{tb:TS}{pos:Zj}(K:a4L (Yg X.prog X.w) X.A X.env X.xe)(hc:X.calm=b5)(hi:PI X tg iter wi)(hg:PG X tg g)(p:PSs X body tb)
  (hs:∀x,a0X iter X.env x=pure x:=by intro _;rfl):PS X (.For tg iter body [] pos) (KI wi g tb):=by
 intro c s σ H D I h;refine wpAny_For (aR (hi c s σ H _ I h) λv s1 h1=>aR h1 λitv s2 h2=>?_) hs;obtain⟨it,E,tn,J,H2,e,I2,T,st2,f2,W,⟨m0,w0⟩,turn⟩:=h2;subst e
  -- what stays b5 of the iterator's objects through the loop
 have q:∀{z:Hp},(∀b∈E,z b=aY)->∀b∈E,iZ X c z b:=λhn b p=>⟨hn b p,(f2 b p).2⟩;refine codeAny_forLoop_any (λn s'=>∃i w z,Inv X c w z s'/\tn i s'.heap/\(∀b∈E,z b=aY)/\W i n w z) ?_ m0 ⟨0,σ,H2,I2,st2,λb p=>(f2 b p).1,w0⟩;rintro n s3 ⟨i,y,Q,I3,M,G,w3⟩;rcases turn i n y Q w3 with⟨O,qn⟩|⟨go,N,hN,step⟩
 ·refine a0P K (aR (T.done X rfl rfl rfl hc i c s3 y Q X.xe I3 (q G) M O) λr s4 ⟨Y,I4⟩=>?_);subst Y;exact a3d ⟨y,Q,I4,qn⟩
 ·refine a0P K (aR (T.item X rfl rfl rfl hc i c s3 y Q X.xe I3 (q G) M go) λr s4 ⟨u,Y,h4⟩=>?_);subst Y;refine a0P K (aR h4 λ_ s5 ⟨x,H5,I5,r5,y5,B,U⟩=>?_);have R:=I5.pinned (q U) (T.obj _ _ B);refine a0P K (aR (hg _ s5 y H5 x u _ R r5 (step x H5 y5)) λ_ s6 ⟨σ6,H6,I6,q6⟩=>?_);refine a0P K (aR (p _ s6 σ6 H6 _ I6 q6) λf Z A=>?_);have l:∀{a:St}{j:Hp},Inv X (c++rH E s5.heap) a j Z->N a j->∃m,m<n/\∃i w z,Inv X c w z Z/\tn i Z.heap/\(∀b∈E,z b=aY)/\W i m w z:=λ{a j} k L=>by obtain⟨m',hm,w7⟩:=hN a j L;refine⟨m',hm,i+1,a,j,k.unpinned,T.keep _ _ _ B λb p o e=>(k.pin (b,o) (YQ _ (YQ _ (tZ p e)))).1,λb p=>?_,w7⟩;obtain⟨o,e,d⟩:=T.obj _ _ B b p;exact(k.pin (b,o) (YQ _ (YQ _ (tZ p e)))).2.1
  cases f with
  |next=>obtain⟨a,j,k,L⟩:=A;exact l k L|cont=>obtain⟨a,j,k,L⟩:=A;exact l k L|brk=>obtain⟨a,j,k,A⟩:=A;exact⟨a,j,k.unpinned,A⟩|ret v=>obtain⟨x7,a,j,k,r7,A⟩:=A;exact⟨x7,a,j,k.unpinned,r7,A⟩
end
noncomputable abbrev R2:=V->V->Hp->VK->Prop
noncomputable def OpR(X:Cx)(f:Value->Value->a8k Value)(r:R2):Prop:=
 ∀(a8T:jw)(s:XD)(σ:St)(H:Hp)(x y:V)(v u:Value)(Q:VK),Inv X a8T σ H s->RelV x v->RelV y u->r x y H Q->
  X5 (Yg X.prog X.w) X.A (f v u) (EP X a8T σ Q) X.xe s
noncomputable def xN(X:Cx)(f:Value->a8k Value)(r:V->Hp->VK->Prop):Prop:=
 ∀(a8T:jw)(s:XD)(σ:St)(H:Hp)(x:V)(v:Value)(Q:VK),Inv X a8T σ H s->RelV x v->r x H Q->
  X5 (Yg X.prog X.w) X.A (f v) (EP X a8T σ Q) X.xe s
noncomputable def CallR(X:Cx)(f:Value)(r:gw->Hp->VK->Prop):Prop:=
 ∀(a8T:jw)(s:XD)(σ:St)(H:Hp)(xs:gw)(us:gq)(Q:VK),Inv X a8T σ H s->Vals xs us->r xs H Q->
  X5 (Yg X.prog X.w) X.A (call f us) (EP X a8T σ Q) X.xe s
noncomputable def KN(X:Cx)(r:V->Hp->(Bool->Hp->Prop)->Prop):Prop:=
 ∀(a8T:jw)(s:XD)(σ:St)(H:Hp)(x:V)(v:Value)(Q:Bool->Hp->Prop),Inv X a8T σ H s->RelV x v->r x H Q->
  X5 (Yg X.prog X.w) X.A (truthy v) (TP X a8T σ Q) X.xe s
noncomputable def rJ(r:R2)(c d:TE):TE:=λσ H Q=>c σ H λx a=>d σ a λy b=>r x y b Q
noncomputable def KO(r:V->Hp->VK->Prop)(b:TE):TE:=λσ H Q=>b σ H λx a=>r x a Q
noncomputable def rI(C:Int->Int->Prop)(g:Int->Int->V):R2:=λx y H Q=>∃i j,x=.int i/\y=.int j/\C i j/\Q (g i j) H
noncomputable def iG(g:Int->Int->V):R2:=λx y H Q=>∃i j,x=.int i/\y=.int j/\Q (g i j) H
noncomputable def rU(g:Int->V):V->Hp->VK->Prop:=λx H Q=>∃i,x=.int i/\Q (g i) H
section
variable{X:Cx}{a b c:Expr}{ta tb tc:TE}{pos:Zj}
theorem xO(m:PE X a ta)(n:PE X b tb){a8T:jw}{s:XD}{σ:St}{H:Hp}{R:V->V->Hp->Prop}(I:Inv X a8T σ H s)
  (h:ta σ H λx j=>tb σ j λy d=>R x y d){Q:Value->XD->Prop}{f:Value->Value->a8k Value}
  (o:∀v u i x y d,Inv X a8T σ d i->RelV x v->RelV y u->R x y d->X5 (Yg X.prog X.w) X.A (f v u) Q X.xe i) :
  X5 (Yg X.prog X.w) X.A (eval a X.env) (λv e=>X5 (Yg X.prog X.w) X.A (eval b X.env) (λu g=>X5 (Yg X.prog X.w) X.A (f v u) Q X.xe g) X.xe e) X.xe s:=by
 refine aR (m a8T s σ H _ I h) λv z ⟨x,j,k,r,p⟩=>?_;refine aR (n a8T z σ j _ k p) λu i ⟨y,d,l,w,q⟩=>?_;exact o v u i x y d l r w q
theorem KP{op:a5t}{r:R2}(k:OpR X (a0S op) r)(i:PE X a ta)(j:PE X b tb):PE X (.BinOp a op b pos) (rJ r ta tb):=by intro d s o H Q I h;exact wpAny_BinOp (xO i j I h λv u n x y e g l m q=>k d n o e x y v u Q g l m q)
theorem KQ{op:UnaryOp}{r:V->Hp->VK->Prop}(k:xN X (unaryOp op) r)(j:PE X a ta):PE X (.UnaryOp op a pos) (KO r ta):=by intro d s e H Q I h;exact UnaryOp_ (aR (j d s e H _ I h) λv n ⟨x,g,i,m,l⟩=>k d n e g x v Q i m l)
theorem xP{f:Value->Value->a8k Value}{C:Int->Int->Prop}{g:Int->Int->Int}
  (d:∀(i j:Int)(t u:a8S)(s:XD)(Q:Value->XD->Prop)(E:Value->XD->Prop),C i j->Q (.int (g i j) s.toks) {s with toks:=s.toks+1}->X5 (Yg X.prog X.w) X.A (f (.int i t) (.int j u)) Q E s) :
  OpR X f (rI C λi j=>.int (g i j)):=by
 intro e s n H x y v u Q I k l h;obtain⟨i,j,rfl,rfl,hc,q⟩:=h;obtain⟨t,rfl⟩:=k;obtain⟨m,rfl⟩:=l;exact d i j t m s _ _ hc ⟨.int (g i j),H,I.tok _,⟨_,rfl⟩,q⟩
theorem Cu{f:Value->Value->a8k Value}{g:Int->Int->Int}
  (d:∀(i j:Int)(t u:a8S)(s:XD)(Q:Value->XD->Prop)(E:Value->XD->Prop),Q (.int (g i j) s.toks) {s with toks:=s.toks+1}->X5 (Yg X.prog X.w) X.A (f (.int i t) (.int j u)) Q E s) :
  OpR X f (iG λi j=>.int (g i j)):=by
 intro e s n H x y v u Q I k l h;obtain⟨i,j,rfl,rfl,q⟩:=h;obtain⟨t,rfl⟩:=k;obtain⟨m,rfl⟩:=l;exact d i j t m s _ _ ⟨.int (g i j),H,I.tok _,⟨_,rfl⟩,q⟩
theorem t5{f:Value->Value->a8k Value}{g:Int->Int->Bool}
  (d:∀(i j:Int)(t u:a8S)(s:XD)(Q:Value->XD->Prop)(E:Value->XD->Prop),Q (.bool (g i j)) s->X5 (Yg X.prog X.w) X.A (f (.int i t) (.int j u)) Q E s) :
  OpR X f (iG λi j=>.bl (g i j)):=by
 intro e s n H x y v u Q I k l h;obtain⟨i,j,rfl,rfl,q⟩:=h;obtain⟨t,rfl⟩:=k;obtain⟨m,rfl⟩:=l;exact d i j t m s _ _ ⟨.bl (g i j),H,I,rfl,q⟩
noncomputable def CMul(i j:Int):Prop:=(-(2^64)<i/\i<2^64)\/(-(2^64)<j/\j<2^64)
theorem CMul.ok{i j:Int}(h:CMul i j):a7i i j:=by
 rcases h with⟨d,e⟩|⟨d,e⟩
 ·exact .of_left (intBits_le_64 d e)
 ·exact .of_right (intBits_le_64 d e)
theorem op_add:OpR X (a0S .Add) (iG λi j=>.int (i+j)):=Cu λ_ _ _ _ _ _ _ q=>add_int q
theorem KR:OpR X (a0S .Sub) (iG λi j=>.int (i-j)):=Cu λ_ _ _ _ _ _ _ q=>sub_int q
theorem KS:OpR X (a0S .Mod) (rI (λ_ j=>0<j) λi j=>.int (i%j)):=xP λi j _ _ _ _ _ hc q=>by have d:(0:Int)<j:=hc;exact mod_int' (by lia) (by rw[Int.fmod_eq_emod_of_nonneg i (by lia)];exact q)
theorem mS{f:Value->a8k Value}{g:Int->Int}
  (d:∀(i:Int)(t:a8S)(s:XD)(Q:Value->XD->Prop)(E:Value->XD->Prop),Q (.int (g i) s.toks) {s with toks:=s.toks+1}->X5 (Yg X.prog X.w) X.A (f (.int i t)) Q E s) :
  xN X f (rU λi=>.int (g i)):=by
 intro e s k H x v Q I j h;obtain⟨i,rfl,q⟩:=h;obtain⟨t,rfl⟩:=j;exact d i t s _ _ ⟨.int (g i),H,I.tok _,⟨_,rfl⟩,q⟩
theorem KU:xN X (unaryOp .USub) (rU λi=>.int (-i)):=mS λ_ _ _ _ _ q=>neg_int q
end
section
variable{X:Cx}{a b c:Expr}{ta tb tc:TE}{pos:Zj}
theorem nW{a8T:jw}{σ:St}{H:Hp}{s:XD}{Q:VK}{k k':Bool}(I:Inv X a8T σ H s)(q:Q (.bl k) H)(e:k=k'):EP X a8T σ Q (.bool k') s:=by subst e;exact⟨.bl k,H,I,rfl,q⟩
theorem xQ:OpR X (YU .Lt) (iG λi j=>.bl (decide (i<j))):=t5 λ_ _ _ _ _ _ _ q=>lt_int q
theorem xR:OpR X (YU .LtE) (iG λi j=>.bl (decide (i<=j))):=t5 λ_ _ _ _ _ _ _ q=>le_int q
theorem xS:OpR X (YU .Gt) (iG λi j=>.bl (decide (j<i))):=t5 λ_ _ _ _ _ _ _ q=>gt_int q
theorem xT:OpR X (YU .GtE) (iG λi j=>.bl (decide (j<=i))):=t5 λ_ _ _ _ _ _ _ q=>ge_int q
theorem Cv:OpR X (YU .In) (λx y H Q=>∃i j,x=.str i/\y=.str j/\Q (.bl (!(Zl j i 0 j.length 1).isEmpty)) H):=by intro d s l H x y v u Q I e g h;obtain⟨i,j,rfl,rfl,q⟩:=h;obtain⟨t,rfl⟩:=e;obtain⟨k,rfl⟩:=g;exact in_str (nW I q rfl)
theorem Cw:OpR X (YU .Is) (λx y H Q=>y=.non/\Q (.bl (decide (x=.non))) H):=by
 intro e s i H x y v u Q I d g h;obtain⟨rfl,q⟩:=h;cases g;refine is_none_gen (nW I q ?_);cases x<;>first
  |(cases d;rfl)|(obtain⟨t,rfl⟩:=d;rfl)
theorem Cy:OpR X (YU .IsNot) (λx y H Q=>y=.non/\Q (.bl (!decide (x=.non))) H):=by
 intro e s i H x y v u Q I d g h;obtain⟨rfl,q⟩:=h;cases g;refine isnot_none_gen (nW I q ?_);cases x<;>first
  |(cases d;rfl)|(obtain⟨t,rfl⟩:=d;rfl)
theorem OpR.or{f:Value->Value->a8k Value}{r e:R2}(h:OpR X f r)(h':OpR X f e):OpR X f (λx y H Q=>r x y H Q\/e x y H Q):=by
 intro d s j H x y v u Q I g i q;rcases q with q|q
 ·exact h d s j H x y v u Q I g i q
 ·exact h' d s j H x y v u Q I g i q
theorem dP(b:Expr){op:a1n}(h:op≠.In:=by decide)(g:op≠.NotIn:=by decide):a0T op b=false:=by
 have d:(op==CmpOp.In)=false:=by cases op<;>first|rfl|exact absurd rfl h
 have e:(op==CmpOp.NotIn)=false:=by cases op<;>first|rfl|exact absurd rfl g
 cases b<;>simp[a0T,d,e]
theorem KW{op:a1n}{r:R2}(l:OpR X (YU op) r)(i:PE X a ta)(j:PE X b tb)(k:a0T op b=b4):PE X (.Compare a [op] [b] pos) (rJ r ta tb):=by intro d s p H Q I h;exact wpAny_Compare1 (xO i j I h λv u o x y e g m n q=>l d o p e x y v u Q g m n q) k
noncomputable def Cz(t:TE):TT:=λσ H Q=>t σ H λx d=>∃k,x=.bl k/\Q k d
theorem KY{op:a1n}{r:R2}(A:OpR X (YU op) r)(p:PE X a ta)(q:PE X b tb)(w:a0T op b=b4):PT X (.Compare a [op] [b] pos) (Cz (rJ r ta tb)):=by
 intro d s g H Q I h;refine wpAny_isTrue_Compare1 (aR (p d s g H _ I h) λv M ⟨x,i,m,J,B⟩=>aR (q d M g i _ m B) λu N ⟨y,j,n,K,E⟩=>
  aR (A d N g j x y v u _ n J K E) λc O ⟨z,l,o,L,k,e,G⟩=>?_) w
 subst e;cases L;exact ZT ⟨l,o,G⟩
noncomputable def xU(r i:R2)(ta tb tc:TE):TE:=λσ H Q=>ta σ H λx e=>tb σ e λy g=>r x y g λz d=>∃k,z=.bl k /\
 (if k=b5 then tc σ d λj h=>i y j h Q else Q (.bl b4) d)
theorem KZ{op i:a1n}{r p:R2}(N:OpR X (YU op) r)(l:OpR X (YU i) p)(K:PE X a ta)(L:PE X b tb)(hc:PE X c tc)
  (M:a7V [op,i] [b,c]=false:=by with_unfolding_all rfl):PE X (.Compare a [op,i] [b,c] pos) (xU r p ta tb tc):=by
 intro g s j H Q I h;refine Compare_chain (aR (K g s j H _ I h) λv s1 ⟨x,w,E,U,O⟩=>chain_link (aR (L g s1 j w _ E O) λu s2 ⟨y,A,G,q,R⟩=>
  aR (N g s2 j A x y v u _ G U q R) λd s3 ⟨z,m,n,Y,k,e,o⟩=>?_)) M
 subst e;cases Y;refine ZT ?_;cases k with
 |false=>exact ite_ff ⟨.bl b4,m,n,rfl,o⟩|true=>exact ite_tt (chain_last (aR (hc g s3 j m _ n o) λw' s4 ⟨z',B,J,Z,T⟩=>l g s4 j B y z' u w' Q J q Z T))
theorem K0{op i:a1n}{r p:R2}(U:OpR X (YU op) r)(l:OpR X (YU i) p)(O:PE X a ta)(R:PE X b tb)(hc:PE X c tc)
  (T:a7V [op,i] [b,c]=false:=by with_unfolding_all rfl):PT X (.Compare a [op,i] [b,c] pos) (Cz (xU r p ta tb tc)):=by
 intro g s j H Q I h;refine isTrue_chain (aR (O g s j H _ I h) λv s1 ⟨x,w,G,r1,Z⟩=>test_link (aR (R g s1 j w _ G Z) λu s2 ⟨y,A,J,q,q2⟩=>
  aR (U g s2 j A x y v u _ J r1 q q2) λd s3 ⟨z,m,n,r3,k,e,o⟩=>?_)) T
 subst e;cases r3;refine ZT ?_;cases k with
 |false=>obtain⟨k',M,Y⟩:=o;cases M;exact ite_ff ⟨m,n,Y⟩|true=>refine ite_tt (test_last (aR (hc g s3 j m _ n o) λw' s4 ⟨z',B,K,r4,q4⟩=>aR (l g s4 j B y z' u w' _ K q r4 q4) λd' s5 ⟨z2,E,L,r5,k2,N,q5⟩=>?_));subst N;cases r5;exact ZT ⟨E,L,q5⟩
noncomputable def xV(K:Xy)(x:V)(H:Hp)(k:Bool):Prop:=
 match x with
 |.non=>k=b4|.bl b=>k=b|.int i=>k=(i != 0)|.str y=>y.length<=XQ/\k=((y.length:Int) != 0)|.byt y=>y.size<=XQ/\k=((y.size:Int) != 0)|.ref p=>(∃e,SqL K H p e/\k=!e.isEmpty)\/(∃e,SqT K H p e/\k=!e.isEmpty)\/∃d,H p=aX (.dK d)/\k=!d.isEmpty|_=>False
theorem K1{κ:Type}{d:List (κ×V)}{vs:List (κ×Value)}(r:KV d vs):(!vs.isEmpty)=!d.isEmpty:=by cases r<;>rfl
theorem CA{xs:gw}{its:gq}(r:Vals xs its):(!its.toArray.isEmpty)=!xs.isEmpty:=by cases r<;>simp
theorem nX:(XQ:Nat)<2^63:=by rw[X2];decide
theorem K2:KN X (λx H Q=>∃k,xV X.K x H k/\Q k H):=by
 intro B s L H x v Q I n h;obtain⟨k,e,q⟩:=h;have J:=nX;have K:XQ=16777216:=X2;cases x with
 |non=>cases n;have d:k=false:=e;subst d;exact truthy_none ⟨H,I,q⟩|bl b=>cases n;have d:k=b:=e;subst d;exact ZT ⟨H,I,q⟩|int i=>obtain⟨t,rfl⟩:=n;have d:k=(i != 0):=e;subst d;exact PySem.P.truthy_int ⟨H,I,q⟩|str y=>obtain⟨t,rfl⟩:=n;obtain⟨G,d⟩:y.length<=XQ/\k=((y.length:Int) != 0):=e;subst d;exact PySem.P.truthy_str (by lia) ⟨H,I.tok _,q⟩|byt y=>obtain⟨t,rfl⟩:=n;obtain⟨G,d⟩:y.size<=XQ/\k=((y.size:Int) != 0):=e;subst d;exact PySem.W.truthy_bytes (by lia) ⟨H,I.tok _,q⟩|ref p=>
  cases n;have d:(∃l,SqL X.K H p l/\k=!l.isEmpty)\/(∃l,SqT X.K H p l/\k=!l.isEmpty)\/∃g,H p=aX (.dK g)/\k=!g.isEmpty:=e;rcases d with⟨l,o,d⟩|⟨l,o,d⟩|⟨g,o,d⟩
  ·subst d;obtain⟨w,r,z,A⟩:=I.list o;have j:=r.length;exact wpAny_truthy_list z.isList (by simp only[XW];lia) ⟨H,I.tok _,by rw[CA r];exact q⟩
  ·subst d;obtain⟨w,r,z,A⟩:=I.tuple o;have j:=r.length;exact truthy_tuple z (by simp only[XW];lia) ⟨H,I.tok _,by rw[CA r];exact q⟩
  ·subst d;obtain⟨A,E,u,r,m⟩:g.length<=XQ/\(p==YY)=b4/\∃u,KV g u/\s.heap.DictOf (rC X.prog X.w) p u:=I.hok p _ o;have j:g.length=u.length:=a4A r;exact wpAny_truthy_dict E m (by lia) ⟨H,I.tok _,by rw[K1 r];exact q⟩
 |_=>exact(show False from e).elim
theorem K3(m:PE X a ta)(n:∀d,a6o a X.env d=(do let v <- d;a7F a.pos;holding [v] (truthy v))) :
  PT X a (λg H Q=>ta g H λx i=>∃k,xV X.K x i k/\Q k i):=by
 intro e s g H Q I h;exact isTrue_plain (aR (m e s g H _ I h) λv q ⟨x,j,l,p,o⟩=>K2 e q g j x v Q l p o) (n _)
theorem op_add_str:OpR X (a0S .Add) (λx y H Q=>∃i j,x=.str i/\y=.str j/\i.length+j.length<=XQ/\Q (.str (i++j)) H):=by intro d s n H x y v u Q I g k h;obtain⟨i,j,rfl,rfl,e,q⟩:=h;obtain⟨t,rfl⟩:=g;obtain⟨l,rfl⟩:=k;exact add_str (λl m=>⟨.str (i++j),H,I.tok _,⟨_,rfl⟩,q⟩) e
theorem fY{x:V}{us:gq}(r:Vals [x] us):∃u,us=[u]/\RelV x u:=by
 cases r with
 |cons d e=>cases e;exact⟨_,rfl,d⟩
theorem t6{x y:V}{us:gq}(r:Vals [x,y] us):∃u d,us=[u,d]/\RelV x u/\RelV y d:=by
 cases r with
 |cons e g=>
  cases g with
  |cons h i=>cases i;exact⟨_,_,rfl,e,h⟩
theorem K5(hc:X.calm=b5):CallR X (.builtin "max") (λxs H Q=>∃i j,xs=[.int i,.int j]/\Q (.int (if j>i then j else i)) H):=by
 intro e s p H xs n Q I r h;obtain⟨i,j,rfl,q⟩:=h;obtain⟨u,o,rfl,⟨t,rfl⟩,⟨l,rfl⟩⟩:=t6 r;refine max_two_ints (I.ok.hd hc) λg m k=>⟨_,H,I.kept k,?_,q⟩;by_cases d:j>i
 ·rw[if_pos d,if_pos d];exact⟨_,rfl⟩
 ·rw[if_neg d,if_neg d];exact⟨_,rfl⟩
theorem K6(hc:X.calm=b5):CallR X (.builtin "min") (λxs H Q=>∃i j,xs=[.int i,.int j]/\Q (.int (if j<i then j else i)) H):=by
 intro e s p H xs n Q I r h;obtain⟨i,j,rfl,q⟩:=h;obtain⟨u,o,rfl,⟨t,rfl⟩,⟨l,rfl⟩⟩:=t6 r;refine min_two_ints (I.ok.hd hc) λg m k=>⟨_,H,I.kept k,?_,q⟩;by_cases d:j<i
 ·rw[if_pos d,if_pos d];exact⟨_,rfl⟩
 ·rw[if_neg d,if_neg d];exact⟨_,rfl⟩
theorem K7:CallR X (.type "int") (λxs H Q=>(∃i,xs=[.int i]/\Q (.int i) H)\/∃k,xs=[.bl k]/\Q (.int (if k then 1 else 0)) H):=by
 intro d s j H xs g Q I r h;rcases h with⟨i,rfl,q⟩|⟨k,rfl,q⟩
 ·obtain⟨u,rfl,t,rfl⟩:=fY r;exact call_int_int ⟨.int i,H,I,⟨_,rfl⟩,q⟩
 ·obtain⟨u,rfl,e⟩:=fY r;cases e;exact call_int_bool ⟨.int (if k then 1 else 0),H,I.tok _,⟨_,rfl⟩,q⟩
end
structure ObjM(h:YZ)(x dx C:Addr)(mA:Str->Option Value):Prop where
 obj:h.get? x=aX (a6a C dx)
 ns:h.Ns1 dx mA
 ne:dx≠x
section
variable{prog:Yk}{w:Yz}{A:Yt}{E:Value->XD->Prop}{s:XD}{K:Xy}{x dx C f:Addr}{mA:Str->Option Value}{name:Str}{v:Value}
end
theorem RelO.some_of{v:V}{o:Option Value}(r:RelO (aX v) o):∃u,o=aX u/\RelV v u:=by
 cases o with
 |none=>exact(show False from r).elim|some u=>exact⟨u,rfl,r⟩
section
variable{P:Yk}{w:Yz}{H H':Hp}{h h':YZ}{a C dx:Addr}{fs fs':List (Str×V)}
end
structure Cls(K:Xy)(C:Addr):Prop where
 pg:PySem.W.plainGet K C Str.empty=b5
 hd:PySem.W.hasDictIn K C=b5
 po:PySem.W.plainOver K C=b5
 sa:a1N K (.ref C) "__setattr__"=aX (aX (.builtin "object.__setattr__"))
structure Con(K:Xy)(C:Addr)(f:Str)(v:V)(u:Value):Prop where
 at_:a1N K (.ref C) f=aX (aX u)
 rel:RelV v u
 get:a5C K u "__get__"=aX aY
 cp:PySem.W.copiedNames.contains f=b4
structure Meth(K:Xy)(C:Addr)(m:Str)(f:Addr):Prop where
 at_:a1N K (.ref C) m=aX (aX (.ref f))
 fn:a7d K (.ref f)=b5
 kp:ZM K (.ref f)=b5
section
variable{X:Cx}{a8T:jw}{σ:St}{H:Hp}{s:XD}{a C dx:Addr}{fs:List (Str×V)}{f:Str}{v:V}{A:Yt}{E:Value->XD->Prop}
end
section
variable{X:Cx}{o e value:Expr}{f:Str}{pos pos' tpos:Zj}{ta tv:TE}
end
section
variable{X:Cx}{a8T:jw}{σ:St}{H:Hp}{s:XD}{A:Yt}{E:Value->XD->Prop}{Q:Value->XD->Prop}{c:Value}{b:Bool}
inductive TyOf (K:Xy)(H:Hp):V->Value->Prop where
 |non:TyOf K H .non (.type "NoneType")
 |bl (x:Bool):TyOf K H (.bl x) (.type "bool")
 |int (i:Int):TyOf K H (.int i) (.type "int")
 |str (x:Str):TyOf K H (.str x) (.type "str")
 |flt (x:UInt64):TyOf K H (.flt x) (.type "float")
 |lst {a:Addr}{xs:gw}(e:H a=aX (.lst xs)):TyOf K H (.ref a) (.type "list")
 |frz {a:Addr}{o:Obj}{xs:gw}(e:H a=aX (.frz o (.lst xs))):TyOf K H (.ref a) (.type "list")
 |tup {a:Addr}{xs:gw}(e:H a=aX (.tup xs)):TyOf K H (.ref a) (.type "tuple")
 |dK {a:Addr}{kvs:List (cF×V)}(e:H a=aX (.dK kvs)):TyOf K H (.ref a) (.type "dict")
 |dT {a:Addr}{kvs:List (List cF×V)}(e:H a=aX (.dT kvs)):TyOf K H (.ref a) (.type "dict")
 |ins {a C dx:Addr}{fs:List (Str×V)}(e:H a=aX (.ins C dx fs))(cl:Cls K C)(ha:a1N K (.ref C) "__class__"=aX (aX (.builtin "object.__class__")))
   (hn:a5C K (.builtin "object.__class__") "__get__"=aX (aX (.builtin "getset_descriptor.__get__"))) (htk:PySem.W.takesIn K (.builtin "object.__class__")=aX b5)
   (hm:PySem.W.mroIn K C (.type "object")=aX b5):TyOf K H (.ref a) (.ref C)
end
structure Room(k:Nat)(A:Yt):Prop where
 hd:A.handled=aY
 dp:A.depth+3*k+5<a8L
 un:A.units+16*k+200<Zk
theorem Room.deeper{k:Nat}{A:Yt}(r:Room (k+1) A)(env:a3h):Room k (A.deeper env):=
 ⟨r.hd,by have:=r.dp;show A.depth+1+3*k+5<_;lia,by have:=r.un;show A.units+3+16*k+200<_;lia⟩
theorem Room.depth{k:Nat}{A:Yt}(r:Room k A):A.depth<a8L:=by have:=r.dp;lia
theorem Room.units{k:Nat}{A:Yt}(r:Room k A):A.units+64<Zk:=by have:=r.un;lia
noncomputable def xW:TA:=λ_ H Q=>Q [] H
noncomputable def CB(c:TE)(tr:TA):TA:=λσ H Q=>c σ H λx a=>tr σ a λxs b=>Q (x::xs) b
section
variable{X:Cx}{e:Expr}{es:List Expr}{te:TE}{t:TA}{pos:Zj}
theorem CC:PA X [] xW:=λ_ _ _ _ H Q I h=>a2k ⟨[],H,I,.nil,h⟩
theorem CD(j:PE X e te)(k:PA X es t)(l:Yr (e::es) X.env=(b4,eval e X.env)::Yr es X.env:=by rfl):PA X (e::es) (CB te t):=by intro pos a s b H Q I h;rw[l];show X5 _ _ (spliced ((b4,eval e X.env)::a0l pos (Yr es X.env))) _ _ s;refine a1Y (aR (j a s b H _ I h) λu q ⟨x,c,g,o,m⟩=>?_);exact aR (k pos a q b c _ g m) λw v ⟨r,d,i,p,n⟩=>⟨x::r,d,i,.cons o p,n⟩
noncomputable def K8(t:TA):TE:=λσ H Q=>t σ H λxs a=>xs.length<=XQ/\∀p,a p=aY->Q (.ref p) (aP a p (.tup xs))
noncomputable def K9(t:TA):TE:=λσ H Q=>t σ H λxs a=>xs.length<=XQ/\∀p,a p=aY->Q (.ref p) (aP a p (.lst xs))
theorem La{x1} (h:PA X es t):PE X (.Tuple es x1 pos) (K8 t):=by intro c s m H Q I j;refine wpAny_Tuple_spliced (aR (h pos c s m H _ I j) λk a ⟨l,d,g,r,z,q⟩=>⟨by rw[<- r.length];exact z,?_⟩);have i:d a.heap.objs.size=none:=g.hok.fresh (XJ _);refine⟨.ref a.heap.objs.size,aP d a.heap.objs.size (.tup l),g.laid (t':=a.toks) (λb u e=>XE _ e) (XJ _) ?_,rfl,q _ i⟩;exact⟨z,k,r,⟨_,XT _ rfl,rfl,_,rfl,rfl⟩⟩
theorem Lb(h:PA X es t):PE X (.List es pos) (K9 t):=by intro c s m H Q I j;refine wpAny_List_spliced (aR (h pos c s m H _ I j) λk a ⟨l,d,g,r,z,q⟩=>⟨by rw[<- r.length];exact z,?_⟩);have i:d a.heap.objs.size=none:=g.hok.fresh (XJ _);refine⟨.ref a.heap.objs.size,aP d a.heap.objs.size (.lst l),g.laid (t':=a.toks) (λb u e=>XE _ e) (XJ _) ?_,rfl,q _ i⟩;exact⟨z,k,0,r,XT _ rfl⟩
end
noncomputable abbrev Sp:=List V->Hp->VK->XK->Prop
noncomputable abbrev kJ:=List a3h->Hp->XD->XK->Value->XD->Prop
structure Env0(P:Yk)(w:Yz)(K:Xy)(mg:Str->Option Value)(base:YZ)(A:Yt)(outer:List a3h)(s:XD)(H:Hp):Prop where
 frames:A.frames=aX outer
 mod:Mod K mg base
 bs:∀b o,base.get? b=aX o->s.heap.get? b=aX o/\H b=aY
 bsz:base.objs.size<=s.heap.objs.size
 funs:s.heap.FunFrames base outer
 frf:∀b∈iX outer,H b=aY
 hok:HOk P w H s.heap
 bare:a3E s.gens
inductive CE (outer:List a3h)(P:Yk)(w:Yz)(H:Hp)(s:XD)(Q:VK)(u:Value)(s':XD):Prop
 |mk (v:V)(H':Hp)(o:s'.os=s.os)(b:a3E s'.gens)(n:Un (iX outer) [] H H' s.heap s'.heap)(k:HOk P w H' s'.heap)(r:RelV v u)(q:Q v H'):CE outer P w H s Q u s'
noncomputable def CR(CX:kJ)(outer:List a3h)(P:Yk)(w:Yz)(H:Hp)(s:XD)(Q:VK)(E:XK)(r:a4H)(a:XD):Prop:=
 match r with
 |.ok (.ret u)=>CE outer P w H s Q u a|.ok _=>False|.error e=>CX outer H s E e a
structure FnOk(P:Yk)(w:Yz)(K:Xy)(mg:Str->Option Value)(base:YZ)(CX:kJ)(k:Nat)(f:Addr)(fd:a0h)(ps:List Str)(sp:Sp):Prop where
 len:∀vs H Q E,sp vs H Q E->vs.length=ps.length
 run:∀(A:Yt)(outer:List a3h)(s:XD)(H:Hp)(args:Args)(us:gq)(vs:gw)(Q:VK)(E:XK),Room k A->Env0 P w K mg base A outer s H->a4w s fd args (ps.zip us)->Vals vs us->sp vs H Q E->
  a1g (Yg P w) A (.call (.ref f) args) (CR CX outer P w H s Q E) s
section
variable{X:Cx}{a8T:jw}{σ:St}{H:Hp}{s s':XD}
theorem Inv.env0(I:Inv X a8T σ H s):Env0 X.prog X.w X.K X.mg X.base X.A X.stack s H:=
 ⟨I.ok.frames,I.ok.mod,I.bs,Ys I.ok.bsz I.sz,I.stack,I.stkFree,I.hok,I.bare⟩
theorem Inv.after{Q:VK}{u:Value}(I:Inv X a8T σ H s)(h:CE X.stack X.prog X.w H s Q u s'):EP X a8T σ Q u s':=by obtain⟨v,i,k,a,un,c,r,q⟩:=h;obtain⟨j,g,d,t,e⟩:=s';obtain rfl:e=s.os:=k;exact⟨v,i,I.call (h':=j) (g':=g) (d':=d) (t':=t) (ch:=[]) un c a (λb z=>absurd z (by simp)),r,q⟩
end
noncomputable def xX(sp:Sp)(a:gw)(E:XK)(t:TA):TE:=λσ H Q=>t σ H λvs b=>sp (vs++a) b Q E
noncomputable def Binds(K:Xy)(a:a0h)(ps:List Str)(ds:gq):Prop:=
 ∀(s:XD)(us:gq),K.In s.heap->(us++ds).length=ps.length->a4w s a ⟨us,[]⟩ (ps.zip (us++ds))
theorem Binds.all{K:Xy}{a:a0h}{ps:List Str}(h:∀us:gq,us.length=ps.length->a7b a ⟨us,[]⟩=pure (ps.zip us)):Binds K a ps []:=λs us _ b=>by rw[Yl]at b ⊢;exact .of_eq (h us b)
noncomputable def t7(CX:kJ)(X:Cx)(E:XK):Prop:=∀(a8T:jw)(σ:St)(H:Hp)(s:XD)(e:Value)(a:XD),Inv X a8T σ H s->CX X.stack H s E e a->X.xe e a
section
variable{X:Cx}{CX:kJ}{k:Nat}{f C:Addr}{fd:a0h}{ps:List Str}{sp:Sp}{dvs:gw}{ds:gq}{E:XK}{x m:Str}{p pos apos:Zj}{e o:Expr}{es:List Expr}{ta:TE}{t:TA}
theorem CF{a8T:jw}{σ:St}{H:Hp}{s:XD}{Q:VK}{us:gq}{vs:gw}(F:FnOk X.prog X.w X.K X.mg X.base CX k f fd ps sp)(i:Room k X.A)(d:Binds X.K fd ps ds)(hd:Vals dvs ds)(j:t7 CX X E)
  (I:Inv X a8T σ H s)(r:Vals vs us)(h:sp (vs++dvs) H Q E):X5 (Yg X.prog X.w) X.A (call (.ref f) us) (EP X a8T σ Q) X.xe s:=by
 have b:Vals (vs++dvs) (us++ds):=r.append hd;have g:(us++ds).length=ps.length:=by rw[<- b.length];exact F.len _ _ _ _ h
 refine wpAny_call (a4l (F.run X.A X.stack s H ⟨us,[]⟩ (us++ds) (vs++dvs) Q E i I.env0 (d s us I.kIn g) b h) λr l a=>?_);cases r with
 |error e=>exact j a8T σ H s e l I a|ok c=>
  cases c with
  |ret u=>exact I.after a|next=>exact Z0 a|brk=>exact Z0 a|cont=>exact Z0 a
theorem Lc(F:FnOk X.prog X.w X.K X.mg X.base CX k f fd ps sp)(v:Room k X.A)(l:Gl X x)(u:X.mg x=aX (.ref f))(n:ZM X.K (.ref f)=b5)(i:Binds X.K fd ps ds)(hd:Vals dvs ds)(w:t7 CX X E)
  (g:PA X (e::es) t)(b:(x==("__debug__":Str))=false:=by decide) (j:Yr (e::es) X.env=(b4,eval e X.env)::Yr es X.env:=by rfl)(c:(a0l pos (Yr es X.env)).any (·.1)=false:=by rfl) :
  PE X (.Call (.Name x p) (e::es) [] pos) (xX sp dvs E t):=by
 intro a s y H Q I h;refine ZL (xG I l u ?_ b);refine PySem.W.callWith_K (h₀:=X.base) I.ok.mod.kin n (aR (g pos a s y H _ I h) λB A ⟨G,z,d,r,q⟩=>⟨d.kIn,?_⟩) j c;exact CF F v i hd w d r q
theorem Ld(F:FnOk X.prog X.w X.K X.mg X.base CX k f fd ps sp)(j:Room k X.A)(d:Gl X x)(i:X.mg x=aX (.ref f))(g:ZM X.K (.ref f)=b5)(c:Binds X.K fd ps ds)(hd:Vals dvs ds)(l:t7 CX X E)
  (a:(x==("__debug__":Str))=false:=by decide):PE X (.Call (.Name x p) [] [] pos) (xX sp dvs E xW):=by
 intro b s n H Q I h;refine ZL (xG I d i ?_ a);exact PySem.W.callWith_K0 I.kIn g (CF (us:=[]) F j c hd l I .nil h)
structure Mk(K:Xy)(C f:Addr):Prop where
 makes:PySem.W.makesIn K C=b5
 init:a1N K (.ref C) "__init__"=aX (aX (.ref f))
 fn:a7d K (.ref f)=b5
 kp:ZM K (.ref C)=b5
end
noncomputable def PK(X:Cx)(a:List a1a)(t:TA):Prop:=
 ∀(pos:Zj)(a8T:jw)(s:XD)(σ:St)(H:Hp)(Q:gw->Hp->Prop),Inv X a8T σ H s->t σ H Q->X5 (Yg X.prog X.w) X.A (evalAll ((a3v pos (a1U a X.env)).map (·.2))) (AP X a8T σ Q) X.xe s
section
variable{X:Cx}{CX:kJ}{k:Nat}{f C:Addr}{fd:a0h}{ps ks:List Str}{sp:Sp}{E:XK}{x m:Str}{p pos apos kpos:Zj}{e o:Expr}{es:List Expr}{kws:List a1a}{te ta:TE}{t tk:TA}{nm:Option Str}
theorem Le:PK X [] xW:=λ_ _ _ _ H Q I h=>wpAny_evalAll_nil ⟨[],H,I,.nil,h⟩
theorem Lf(j:PE X e te)(l:PK X kws t):PK X (⟨nm,e,kpos⟩::kws) (CB te t):=by intro pos a s b H Q I h;show X5 _ _ (evalAll ((do let v <- eval e X.env;a7F pos;pure v)::(a3v pos (a1U kws X.env)).map (·.2))) _ _ s;refine wpAny_evalAll_cons (Xw (aR (j a s b H _ I h) λu y ⟨x,c,g,r,n⟩=>Xw (a1R (XC ?_))));exact aR (l pos a y b c _ g n) λB A ⟨z,d,i,w,q⟩=>⟨x::z,d,i,.cons r w,q⟩
structure KBinds(K:Xy)(fd:a0h)(ps ks:List Str)(g:gq->gq->gq)(gV:gw->gw->gw):Prop where
 to:∀(s:XD)(us ws:gq),K.In s.heap->(g us ws).length=ps.length->a4w s fd ⟨us,ks.zip ws⟩ (ps.zip (g us ws))
 rel:∀{vs:gw}{us:gq}{zs:gw}{ws:gq},Vals vs us->Vals zs ws->Vals (gV vs zs) (g us ws)
variable{g:gq->gq->gq}{gV:gw->gw->gw}
end
structure FnScope(N P:List Str)(sc:a0g):Prop where
 kind:sc.kind=.function
 co:sc.isCoroutine=b4
 gen:sc.isGenerator=b4
 nd:N.Nodup
 pre:N.take P.length=P
 par:∀x∈P,sc.names.lookup x=aX .local\/sc.names.lookup x=aX .cell
 nofree:∀y∈sc.names,y.2≠.free
theorem CG{kindOf:Str->Option a0p}{x:Str}:∀{a:List (Str×Value)}{m:Str->Option Value},(∀v,(x,v)∉a)->a5Y kindOf a m x=m x
 |[],_,_=>rfl|(n,v)::r,m,h=>by
  unfold a5Y;rw[CG λw hw=>h w (X7 _ hw)];split
  ·have:x≠n:=by rintro rfl;exact h v X8
   simp[this]
  ·rfl
theorem CH{kindOf:Str->Option a0p}{x:Str}:∀{a:List (Str×Value)}{m:Str->Option Value},(∀v,(x,v)∉a)->a5Z kindOf a m x=m x
 |[],_,_=>rfl|(n,v)::r,m,h=>by
  unfold a5Z;rw[CH λw hw=>h w (X7 _ hw)];split
  ·rfl
  ·have:x≠n:=by rintro rfl;exact h v X8
   simp[this]
theorem CI{kindOf:Str->Option a0p}{x:Str}{v:Value}:∀{P:List Str}{vs:gq}{i:Nat}{m:Str->Option Value},P.Nodup->P[i]?=aX x->vs[i]?=aX v->kindOf x=aX .local->
  a5Y kindOf (P.zip vs) m x=aX v
 |[],_,_,_,_,h,_,_=>by simp at h
 |_::_,[],_,_,_,_,h,_=>by simp at h
 |p::P,w::vs,0,m,nd,h1,h2,hk=>by simp at h1 h2;subst h1;subst h2;show a5Y kindOf ((p,w)::P.zip vs) m p=_;unfold a5Y;rw[CG λv a=>(Yx.mp nd).1 (a4c a).1,if_pos hk];simp
 |p::P,w::vs,i+1,m,nd,h1,h2,hk=>by show a5Y kindOf ((p,w)::P.zip vs) m x=_;unfold a5Y;exact CI (i:=i) (Yx.mp nd).2 (by simpa using h1) (by simpa using h2) hk
theorem CJ{kindOf:Str->Option a0p}{x:Str}{v:Value}:∀{P:List Str}{vs:gq}{i:Nat}{m:Str->Option Value},P.Nodup->P[i]?=aX x->vs[i]?=aX v->kindOf x≠aX .local->
  a5Z kindOf (P.zip vs) m x=aX v
 |[],_,_,_,_,h,_,_=>by simp at h
 |_::_,[],_,_,_,_,h,_=>by simp at h
 |p::P,w::vs,0,m,nd,h1,h2,hk=>by simp at h1 h2;subst h1;subst h2;show a5Z kindOf ((p,w)::P.zip vs) m p=_;unfold a5Z;rw[CH λv a=>(Yx.mp nd).1 (a4c a).1,if_neg hk];simp
 |p::P,w::vs,i+1,m,nd,h1,h2,hk=>by show a5Z kindOf ((p,w)::P.zip vs) m x=_;unfold a5Z;exact CJ (i:=i) (Yx.mp nd).2 (by simpa using h1) (by simpa using h2) hk
noncomputable def start(N:List Str)(vs:gw):St:=vs.map aX++Yv (N.length-vs.length) aY
noncomputable def lI(CX:kJ)(P:Yk)(w:Yz)(K:Xy)(g:Str->Option Value)(base:YZ)(N:List Str)(a:Str)(scope:a0g)(f:Addr)(c:Value)(A:Yt)(outer:List a3h)(s:XD)(H:Hp)(E:XK):Cx where
 prog:=P
 w:=w
 K:=K
 mg:=g
 base:=base
 A:=A.deeper (envOfC a scope s.heap.objs.size f c)
 N:=N
 s₀:=s
 H₀:=H
 env:=envOfC a scope s.heap.objs.size f c
 outer:=outer
 stack:=envOfC a scope s.heap.objs.size f c::outer
 ex:=[]
 calm:=b5
 fn:=λ_=>b5
 pn:=[]
 xe:=λe h=>X5 (Yg P w) (A.deeper (envOfC a scope s.heap.objs.size f c)) (leaving (envOfC a scope s.heap.objs.size f c) e) (λ_ b=>CX outer H s E e b) (λd b=>CX outer H s E d b) h
theorem CK{sc:a0g}{n:Nat}{x:Str}(h:sc.names.lookup x=aX .cell):∃c,(a7X n sc.names []).lookup x=aX c:=by have q:=a4I sc.names n [] (.inl h);exact Option.isSome_iff_exists.mp q
theorem Lg{CX:kJ}{P:Yk}{w:Yz}{K:Xy}{I:Str->Option Value}{base:YZ}{N ps:List Str}{d:Str}{scope:a0g}{f:Addr}{B:Value}{A:Yt}{outer:List a3h}{s s1:XD}{H:Hp}{E:XK}{us:gq}{vs:gw}
  (S:FnScope N ps scope)(hd:A.handled=aY)(j:Env0 P w K I base A outer s H)(T:vs.length=ps.length)(r:Vals vs us)
  (x:InCallC s s.heap.objs.size (a5Y (envOfC d scope s.heap.objs.size f B).kindOf (ps.zip us) λ_=>aY) (a7X (s.heap.objs.size+1) scope.names []) (a5Z (envOfC d scope s.heap.objs.size f B).kindOf (ps.zip us) λ_=>aY) s1) :
  Inv (lI CX P w K I base N d scope f B A outer s H E) [] (start N vs) H s1:=by
 have O:ps.length<=N.length:=by have:=congrArg YF S.pre;rw[Zy]at this;lia
 obtain⟨G,U,rfl,J⟩:=x.done;have m:∀b:Addr,b∉(lI CX P w K I base N d scope f B A outer s H E).ex:=λb z=>absurd (show b∈([]:List Addr)from z) (by simp);refine⟨⟨j.mod,S.kind,rfl,rfl,XJ _,λy z c G g=>?_,λy l=>?_,λy c _ h=>?_,λ_=>hd,Around.frames_deeper j.frames,.inr ⟨rfl,rfl⟩,λb z=>absurd z (m b),j.bs,j.bsz,λb _ _=>m b,λb z=>absurd z (m b),j.funs,j.frf⟩,
  rfl,j.bare,Un.kept J,⟨_,x.toInCall.ns,λi y v G g R=>?_⟩,λy c h=>⟨_,x.cell y c h⟩,j.hok.fresh (XJ _),λy c h=>?_,λp n=>absurd (show p∈([]:jw)from n) (by simp),j.hok.kept J,?_⟩
 ·exact name_of_addr x.apart (Zc G) (Zc g)
 ·have l:scope.names.lookup y=aX .cell\/scope.names.lookup y=aX .free:=l;rcases l with l|l
  ·exact CK l
  ·exact absurd rfl (S.nofree _ (Zc l))
 ·exact a0B (x.above y c (Zc h))
 ·have hi:i<vs.length:=by
   unfold start at g;by_cases hi:i<vs.length
   ·exact hi
   ·rw[Zt (by simpa using hi)]at g;rw[a0t]at g;split at g<;>cases g
  have M:vs[i]?=aX v:=by
   unfold start at g;rw[YC (by simpa using hi),XR]at g;cases e:vs[i]? with
   |none=>rw[e]at g;cases g|some a=>rw[e]at g;cases g;rfl
  obtain⟨u,L,Q⟩:=r.get M;have n:ps[i]?=aX y:=by rw[<- S.pre,a4W (by lia)];exact G
  have o:ps.Nodup:=by rw[<- S.pre];exact S.nd.sublist (List.take_sublist _ _)
  refine⟨u,Q,?_⟩;rcases S.par y (X6 n)with k|k
  ·exact .inl ⟨k,CI o n L k⟩
  ·obtain⟨c,e⟩:=CK (n:=s.heap.objs.size+1) k;refine .inr ⟨.inl k,c,e,?_⟩;have q:=x.cell y c e;rw[CJ o n L (by show scope.names.lookup y≠_;rw[k];decide)]at q;exact q
 ·exact j.hok.fresh (a0B (x.above y c (Zc h)))
 ·unfold start;show _=N.length;rw[XI,Xx,Zp];lia
theorem Lh{CX:kJ}{P:Yk}{w:Yz}{K:Xy}{B:Str->Option Value}{base:YZ}{k:Nat}{f:Addr}{name a:Str}{d:Arguments}{body:List Stmt}{scope:a0g}{Y kV m Z c ct oc:Value}{an od:Option Addr}
  {O:Array (Option Value)}{N ps:List Str}{sp:Sp}(lk:K.lookup f=aX ⟨oc,od,.func (ZN name a d body scope Y kV m Z an c ct),O⟩)(G:a2J K c a=b5)(S:FnScope N ps scope)
  (len:∀vs H Q E,sp vs H Q E->vs.length=ps.length)
  (i:∀(A:Yt)(outer:List a3h)(s:XD)(H:Hp)(vs:gw)(Q:VK)(E:XK),Room k (A.deeper (envOfC a scope s.heap.objs.size f c))->sp vs H Q E->
   ∃t,PSs (lI CX P w K B base N a scope f c A outer s H E) body t/\t {nx:=λ_ h=>Q .non h,rt:=Q} (start N vs) H) :
  FnOk P w K B base CX (k+1) f (ZN name a d body scope Y kV m Z an c ct) ps sp:=by
 refine⟨len,λA outer s H X us vs Q E L p hb r z=>?_⟩;have hl:=len _ _ _ _ z;have U:K.In s.heap:=p.mod.kin.keeps λb o e=>(p.bs b o e).1;have M:s.heap.NoLimit:=p.mod.nolimit.keeps λb o e=>(p.bs b o e).1;have j:∀y∈ps.zip us,scope.names.lookup y.1=aX .local\/(scope.names.lookup y.1=aX .cell/\((a7X (s.heap.objs.size+1) scope.names []).lookup y.1).isSome=b5):=λ⟨n,v⟩ hy=>by
  rcases S.par n (a4c hy).1 with q|q
  ·exact .inl q
  ·exact .inr ⟨q,a4I _ _ _ (.inl q)⟩
 refine codeAny_call_function L.depth (U _ _ lk) rfl S.co S.gen rfl (PySem.W.codeRec_of U G) (hb _ _ _ _ ?_);refine wpAny_newFunctionEnv_cells S.kind j λenv he s1 x=>?_;subst he;refine⟨M.keeps x.toInCall.keep,codeAny_func ?_⟩;obtain⟨t,ht,hq⟩:=i A outer s H vs Q E (L.deeper _) z;have I:Inv (lI CX P w K B base N a scope f c A outer s H E) [] (start N vs) H s1:=Lg S L.hd p hl r x;refine Y8 (ht [] s1 (start N vs) H _ I hq) (λfl T l=>?_) λe T l=>l;have fin:∀{g:St}{h:Hp}{v:V}{u:Value},Inv (lI CX P w K B base N a scope f c A outer s H E) [] g h T->RelV v u->Q v h->CE outer P w H s Q u T:=
  λ{g h v u} J R q=>⟨v,h,J.os,J.bare,J.base,J.hok,R,q⟩
 cases fl with
 |ret u=>obtain⟨v,g,h,J,R,q⟩:=l;exact fin J R q|next=>obtain⟨g,h,J,q⟩:=l;exact fin (v:=V.non) (u:=Zm) J rfl q|brk=>obtain⟨_,_,_,q⟩:=l;exact Z0 q|cont=>obtain⟨_,_,_,q⟩:=l;exact Z0 q
section
variable{X:Cx}{x:Str}{p pos:Zj}{e:Expr}{es:List Expr}{t:TA}{id T:String}{r:gw->Hp->VK->Prop}
noncomputable def t9(r:gw->Hp->VK->Prop)(t:TA):TE:=λσ H Q=>t σ H λvs a=>r vs a Q
theorem Li(hc:CallR X (.builtin id) r)(l:Gl X x)(m:X.mg x=aY)(o:ZA x=aX (.builtin id))(j:PA X (e::es) t)(n:x ≠ "__name__":=by decide) (b:(x==("__debug__":Str))=false:=by decide)
  (k:Yr (e::es) X.env=(b4,eval e X.env)::Yr es X.env:=by rfl)(c:(a0l pos (Yr es X.env)).any (·.1)=false:=by rfl):PE X (.Call (.Name x p) (e::es) [] pos) (t9 r t):=by
 intro a s d H Q I h;refine ZL (iY I l m o ?_ n b);exact a2S (aR (j pos a s d H _ I h) λw v ⟨y,g,i,u,q⟩=>hc a v d g y w Q i u q) k c
theorem Lj(hc:CallR X (.type T) r)(l:Gl X x)(m:X.mg x=aY)(o:ZA x=aX (.type T))(j:PA X (e::es) t)(n:x ≠ "__name__":=by decide) (b:(x==("__debug__":Str))=false:=by decide)
  (k:Yr (e::es) X.env=(b4,eval e X.env)::Yr es X.env:=by rfl)(c:(a0l pos (Yr es X.env)).any (·.1)=false:=by rfl):PE X (.Call (.Name x p) (e::es) [] pos) (t9 r t):=by
 intro a s d H Q I h;refine ZL (iY I l m o ?_ n b);exact Zi (aR (j pos a s d H _ I h) λw v ⟨y,g,i,u,q⟩=>hc a v d g y w Q i u q) k c
end
section
variable{κ:Type} [DecidableEq κ]
theorem RelO.isSome_eq{o:Option V}{u:Option Value}(r:RelO o u):o.isSome=u.isSome:=by
 cases o with
 |none=>cases u with
  |none=>rfl|some _=>exact(show False from r).elim
 |some _=>cases u with
  |none=>exact(show False from r).elim|some _=>rfl
theorem RelO.getD{o:Option V}{u:Option Value}{d:V}{d':Value}(r:RelO o u)(a:RelV d d'):RelV (o.getD d) (u.getD d'):=by
 cases o with
 |none=>cases u with
  |none=>exact a|some _=>exact(show False from r).elim
 |some _=>cases u with
  |none=>exact(show False from r).elim|some _=>exact r
theorem KV.length{a:List (κ×V)}{vs:List (κ×Value)}(r:KV a vs):a.length=vs.length:=a4A r
end
section
variable{P:Yk}{w:Yz}{H:Hp}{h:YZ}{a:Addr}
end
section
variable{X:Cx}{a8T:jw}{σ:St}{H:Hp}{s:XD}{a:Addr}{y v:V}{u r:Value}{o:Option V}{A:Yt}{E:Value->XD->Prop}
theorem Inv.big(I:Inv X a8T σ H s):YY<s.heap.objs.size:=by have h:Zq<s.heap.objs.size:=(I.mod.glob.keeps I.bk).lt;exact a1V (by decide) h
theorem xY{h':YZ}{t':Nat}{c:HO}(I:Inv X a8T σ H s)(h:rD (H a))(g:a0k a s.heap h')(e:∃q,h'.get? a=aX q)(new:ObjOk X.prog X.w (aP H a c) h' a c) :
  Inv X a8T σ (aP H a c) {s with heap:=h',toks:=t'}:=
 I.write (x:=a) (e:=a) h (.inl rfl) (λb q d z=>(g.2 b d).trans z) e new
end
section
variable{X:Cx}{a8T:jw}{σ:St}{H:Hp}{s:XD}{a:Addr}{kvs:List (cF×V)}{k:cF}{u:Value}{A:Yt}{E:Value->XD->Prop}
end
noncomputable def CL(i:Expr):Prop:=∀b a,a4P i b4 b a=operate [b,a] (a5f b a)
theorem Lk{prog:Yk}{w:Yz}{A:Yt}{E:Value->XD->Prop}{s:XD}{env:a3h}{b a:Expr}{pos:Zj}{T id:String}{Q:Value->XD->Prop}
  (m:a5n (.type T) "__getitem__"=pure (aX (.builtin id))) (n:CL a)
  (h:X5 (Yg prog w) A (eval b env) (λo e=>X5 (Yg prog w) A (eval a env) (λi c=>c.TypeIs o T/\X5 (Yg prog w) A (a5f o i) Q E c) E e) E s) :
  X5 (Yg prog w) A (eval (.Subscript b a pos) env) Q E s:=by
 refine a5s (Y8 h (λo e j=>Y8 j (λi c d=>?_) λ_ _ x=>x) λ_ _ x=>x);obtain⟨l,d⟩:=d;unfold a3O;refine Xw ?_;rw[getitemInPython_of_ne l.not_modules];refine Xw (a3c l m ?_);have fin:X5 (Yg prog w) A (a4P a b4 o i) (λr g=>X5 (Yg prog w) A (letTemporaryGo b o r >>= λ_=>pure r) Q E g) E c:=by rw[n o i];exact wpAny_operating (Y8 d (λr g k=>Xw (wpAny_letTemporaryGo (XC k))) λ_ _ x=>x)
 first
  |exact XC (Xw fin)|exact Xw (XC (Xw fin))|exact Xw fin
section
variable{X:Cx}{o i e value:Expr}{pos pos' tpos:Zj}{td ty tv:TE}
end
section
variable{X:Cx}{pos:Zj}
end
noncomputable def CM:List (TE×TE)->St->Hp->(List (V×V)->Hp->Prop)->Prop
 |[],_,H,Q=>Q [] H|(tk,tv)::r,σ,H,Q=>tk σ H λx a=>tv σ a λy b=>CM r σ b λd c=>Q ((x,y)::d) c
noncomputable abbrev VV:List (V×V)->List (Value×Value)->Prop:=a2w λp q=>RelV p.1 q.1/\RelV p.2 q.2
noncomputable def Ll(X:Cx)(pos:Zj)(keys:List (Option Expr))(a:List Expr)(b:List (TE×TE)):Prop:=
 ∀(a8T:jw)(s:XD)(σ:St)(H:Hp)(Q:List (V×V)->Hp->Prop),Inv X a8T σ H s->CM b σ H Q->
  X5 (Yg X.prog X.w) X.A (evalPairs (pairTrees keys a X.env pos)) (λg e=>∃d c,Inv X a8T σ c e/\VV d g/\Q d c) X.xe s
structure M1(X:Cx)(o:Expr)(m:Str)(apos:Zj)(e:Expr)(cpos:Zj):Prop where
 base:a0v o m X.env (eval o X.env)=eval o X.env
 few:((a0l cpos (Yr [e] X.env)).all (λx=>!x.1)&&(a3v cpos (a1U [] X.env)).all (λx=>x.1.isSome)
  && decide (([e]:List Expr).length+([]:List a1a).length+(if([]:List a1a).isEmpty then 0 else 1)<30))=b5
 line:(apos.endLine==cpos.line)=b5
 trees:a0l cpos (Yr [e] X.env)=[(b4,eval e X.env)]
structure M2(X:Cx)(o:Expr)(m:Str)(apos:Zj)(e f:Expr)(cpos:Zj):Prop where
 base:a0v o m X.env (eval o X.env)=eval o X.env
 few:((a0l cpos (Yr [e,f] X.env)).all (λx=>!x.1)&&(a3v cpos (a1U [] X.env)).all (λx=>x.1.isSome)
  && decide (([e,f]:List Expr).length+([]:List a1a).length+(if([]:List a1a).isEmpty then 0 else 1)<30))=b5
 line:(apos.endLine==cpos.line)=b5
 trees:a0l cpos (Yr [e,f] X.env)=[(b4,eval e X.env),(b4,eval f X.env)]
noncomputable def IsD(H:Hp)(a:Addr):Prop:=(∃b,Rd H a (.dK b))\/∃b,Rd H a (.dT b)
section
variable{X:Cx}{a8T:jw}{σ:St}{H:Hp}{s:XD}{a:Addr}{y d:V}{u r:Value}{o:Option V}{A:Yt}{E:Value->XD->Prop}
end
section
variable{X:Cx}{o e f:Expr}{apos cpos:Zj}{td ty tx:TE}
end
section
variable{X:Cx}{a8T:jw}{σ:St}{H:Hp}{s:XD}{a:Addr}{kvs:List (cF×V)}{A:Yt}{E:Value->XD->Prop}
end
section
variable{X:Cx}{a8T:jw}{σ:St}{H:Hp}{s:XD}{a:Addr}{y:V}{u:Value}{A:Yt}{E:Value->XD->Prop}
end
end L2
namespace HT
open PySem PyProof.Rows
noncomputable def lexLt:List Int->List Int->Bool
 |[],[]=>b4|[],_::_=>b5|_::_,[]=>b4|x::xs,y::ys=>if x=y then lexLt xs ys else decide (x<y)
theorem lexLt_cons(x y:Int)(xs a:List Int):lexLt (x::xs) (y::a)=if x=y then lexLt xs a else decide (x<y):=rfl
theorem Lm:lexLt [] []=false:=rfl
theorem Ln(y:Int)(a:List Int):lexLt [] (y::a)=true:=rfl
theorem Lo(x:Int)(xs:List Int):lexLt (x::xs) []=false:=rfl
theorem Lp(A:Yt)(s:XD)(a:Int)(t:a8S)(c:Int)(u:a8S):∃e,a4n A s (.int a t) (.int c u) e/\(e=b5↔a=c):=
 ⟨(a==c),a4S a t c u,by simp⟩
theorem Lq(A:Yt)(s:XD)(a:Int)(t:a8S)(c:Int)(u:a8S)(prog:Yk)(w:Yz)(E:Value->XD->Prop)(Q:Value->XD->Prop)(h:Q (.bool (decide (a<c))) s) :
  X5 (Yg prog w) A (a2E .Lt (.int a t) (.int c u)) Q E s:=
 (a4s h:X5 (Yg prog w) A (YU .Lt (.int a t) (.int c u)) Q E s)
section
open PySem.SeqAt
open PySem.AutoSeq1 (wpAny_loadPart')
open PySem.MeetsSeq PySem.MeetsSeq2 PySem.MeetsSeq3
theorem Lr(l b:Addr)(items i:Array Value)(n n2:Nat)(X M:Option Addr)(sl Q:Array (Option Value))(ns J:List Int)(hi:a0M items.toList ns)(T:a0M i.toList J) :
  Meets (Builtin.«tuple.__lt__» ⟨[.ref l,.ref b],[]⟩)
   (λ_ R s=>s.heap.get? l=aX {cls:=.type "tuple",dict:=X,data:=.seq items n,slots:=sl}/\s.heap.get? b=aX {cls:=.type "tuple",dict:=M,data:=.seq i n2,slots:=Q} /\
    R (.ok (.ret (.bool (lexLt ns J)))) s):=
 .of_wp λz w A R s h=>by
  obtain⟨I,g,d,L,K⟩:=s;obtain⟨hl,Y,h⟩:=h;have f2:=AutoSeq1.sub_tuple_tuple;have z1:items.size=ns.length:=by rw[<- hi.length];simp
  have z2:i.size=J.length:=by rw[<- T.length];simp
  wp_walk using a8f hl,a8f Y,a7Q _ (λbY b O=>b.1=aY/\O=⟨I,g,d,L,K⟩/\∃(vs ws:gq)(m k:List Int),bY=vs.zip ws /\
   a0M vs m/\a0M ws k/\m.length+i.size=k.length+items.size/\R (.ok (.ret (.bool (lexLt m k)))) ⟨I,g,d,L,K⟩) _
  case turn=>
   rintro⟨y,x⟩ bY b O ⟨B,rfl,vs,ws,m,k,p,E,o,j,r⟩;cases E with
   |nil=>rw[List.zip_nil_left]at p;cases p|cons a t G=>
    cases o with
    |nil=>rw[List.zip_nil_right]at p;cases p|cons c u H=>
     rw[a6c]at p;injection p with hyx hrest;injection hyx with hy hx;subst hy hx;rw[lexLt_cons]at r;simp only[Ym]at j;obtain⟨e,Z,v⟩:=Lp A.in1 ⟨I,g,d,L,K⟩ a t c u;refine Xw (Z z w _ _ ?_);cases e with
     |true=>rw[if_pos (v.mp rfl)]at r;wp_walk;exact⟨rfl,rfl,_,_,_,_,hrest,G,H,by lia,r⟩|false=>rw[if_neg (λq=>absurd (v.mpr q) X9)]at r;have N:=Lq A.in1 ⟨I,g,d,L,K⟩ a t c u z w;wp_walk using N;exact⟨_,rfl,by simpa using r⟩
  case fin=>
   rintro⟨b1,b2⟩ O ⟨B,rfl,vs,ws,m,k,p,E,o,j,r⟩;simp only at B;subst B;have U:lexLt m k=decide (items.size<i.size):=by
    cases E with
    |nil=>
     cases o with
     |nil=>simp only[a1h]at j;rw[Lm];exact(decide_eq_false (by lia)).symm|cons c u hw=>simp only[a1h,Ym]at j;rw[Ln];exact(decide_eq_true (by lia)).symm
    |cons a t U=>
     cases o with
     |nil=>simp only[a1h,Ym]at j;rw[Lo];exact(decide_eq_false (by lia)).symm|cons c u hw=>rw[a6c]at p;cases p
   rw[U]at r;wp_walk;exact⟨_,rfl,by simpa[a8d]using r⟩
  case h=>exact⟨rfl,rfl,items.toList,i.toList,ns,J,rfl,hi,T,by lia,h⟩
end
section
variable{prog:Yk}{w:Yz}{A:Yt}{E:Value->XD->Prop}{s:XD}
theorem lt_tupInts{l b:Addr}{items a:Array Value}{ns g:List Int}{Q:Value->XD->Prop}(v:a4u s.heap l items)(r:a4u s.heap b a)(hi:a0M items.toList ns)(u:a0M a.toList g)
  (y:A.units<Zk)(h:Q (.bool (lexLt ns g)) s):X5 (Yg prog w) A (YU .Lt (.ref l) (.ref b)) Q E s:=by
 obtain⟨⟨cls,q,o,B⟩,p,hc,n,hd⟩:=id v;obtain⟨⟨m,j,i,k⟩,e,c,z,d⟩:=id r;simp only at hc hd c d;subst hc hd c d;exact richCompare_meets_room (op:=.Lt) ⟨_,p,rfl⟩ ⟨_,e,rfl⟩ PySem.F.slot_tuple_lt PySem.F.entry_tuple_lt (PySem.F.args_tuple_lt_2 _ _) (Lr l b items a n z q j B k ns g hi u)
  ⟨p,e,show ZP (lexLt ns g)≠Value.notImplemented/\Q (.bool (lexLt ns g)) s from⟨(λx=>nomatch x),h⟩⟩ y
theorem cat_tup{t b:Addr}{vs ws:gq}{Q:Value->XD->Prop}(v:a4u s.heap t vs.toArray)(u:a4u s.heap b ws.toArray)(o:vs≠[])
  (h1:ws=[]->Q (.ref t) s)(r:ws≠[]->Q (.ref s.heap.objs.size) {s with heap:=s.heap.push {cls:=.type "tuple",data:=.seq (vs++ws).toArray}})
  (hsz:vs.length+ws.length<=XQ):X5 (Yg prog w) A (a0S .Add (.ref t) (.ref b)) Q E s:=by
 obtain⟨⟨cls,m,l,q⟩,i,hc,n,hd⟩:=id v;obtain⟨⟨k,c,j,h⟩,a,d,p,g⟩:=id u;simp only at hc hd d g;subst hc hd d g;have e:vs.toArray++ws.toArray=(vs++ws).toArray:=by simp
 by_cases hw:ws=[]
 ·exact concat_meets ⟨_,i,rfl⟩ ⟨_,a,rfl⟩ a7U seq_tuple_add a4J a4z (a4r _ _)
   (tuple_addW1 t b vs.toArray ws.toArray n p m c q h (by simpa using o) (by simp[hw])) ⟨i,a,h1 hw⟩
 ·refine concat_meets ⟨_,i,rfl⟩ ⟨_,a,rfl⟩ a7U seq_tuple_add a4J a4z (a4r _ _)
   (tuple_addW2 t b vs.toArray ws.toArray n p m c q h (by simpa using o) (by simpa using hw) (by rw[XW,XW];exact hsz)) ⟨i,a,?_⟩
  rw[e];exact r hw
noncomputable def sIx(n d:Nat):Option Int->Nat
 |none=>d|some v=>if v<0 then(v+(n:Int)).toNat else min v.toNat n
theorem sIx_none(n d:Nat):sIx n d aY=d:=rfl
end
end HT
namespace L2
open PySem PySem.Spec PyProof.Rows
noncomputable abbrev TO:=St->Hp->(Option Int->Hp->Prop)->Prop
noncomputable def PO(X:Cx)(e:Option Expr)(t:TO):Prop:=
 ∀(a8T:jw)(s:XD)(σ:St)(H:Hp)(Q:Option Int->Hp->Prop),Inv X a8T σ H s->t σ H Q->
  X5 (Yg X.prog X.w) X.A (evalPart e X.env) (λu b=>∃o a,Inv X a8T σ a b/\IsPart u o/\Q o a) X.xe s
noncomputable def Ls:TO:=λ_ H Q=>Q aY H
noncomputable def Lu(t:TE):TO:=λσ H Q=>t σ H λx a=>∃i,x=.int i/\Q (aX i) a
theorem xZ{ns:List Int}:∀{us:gq},Vals (ns.map V.int) us->a0M us ns:=by
 induction ns with
 |nil=>intro us r;rw[a0y]at r;cases r;exact .nil|cons n ns a=>
  intro us r;rw[XS]at r;cases r with
  |cons b c=>obtain⟨t,e⟩:=b;subst e;exact .cons n t (a c)
section
variable{X:Cx}{e:Expr}{te:TE}{lo hi:Option Expr}{tl th:TO}{pos p2:Zj}
theorem Lv:PO X aY Ls:=by intro a s b H Q I h;rw[evalPart_none];exact XC ⟨aY,H,I,.none,h⟩
theorem Lx(h:PE X e te):PO X (aX e) (Lu te):=by intro a s j H Q I hw;rw[evalPart_some];refine aR (h a s j H _ I hw) λu k ⟨x,b,c,g,d⟩=>?_;obtain⟨i,rfl,q⟩:=d;obtain⟨t,rfl⟩:=g;exact⟨aX i,b,c,.int i t,q⟩
noncomputable def yA(X:Cx)(r:V->Option Int->Option Int->Hp->VK->Prop):Prop:=
 ∀(a8T:jw)(s:XD)(σ:St)(H:Hp)(x:V)(v b c:Value)(lo hi:Option Int)(a:Addr)(Q:VK),Inv X a8T σ H s->RelV x v->s.heap.IsSliceOf a b c .none->IsPart b lo->IsPart c hi->r x lo hi H Q->
  ∃T id,a5n (.type T) "__getitem__"=pure (aX (.builtin id))/\s.TypeIs v T/\X5 (Yg X.prog X.w) X.A (a5f v (.ref a)) (EP X a8T σ Q) X.xe s
noncomputable def Lz(r:V->Option Int->Option Int->Hp->VK->Prop)(te:TE)(tl th:TO):TE:=λσ H Q=>te σ H λx a=>tl σ a λl b=>th σ b λu c=>r x l u c Q
theorem LA{r:V->Option Int->Option Int->Hp->VK->Prop}(E:yA X r)(z:PE X e te)(B:PO X lo tl)(J:PO X hi th):PE X (.Subscript e (.Slice lo hi aY p2) pos) (Lz r te tl th):=by intro a s d H Q I h;refine a5s (aR (z a s d H _ I h) λv U ⟨x,k,n,R,M⟩=>?_);refine wpAny_Slice (aR (B a U d k _ n M) λg Y ⟨l,m,o,K,N⟩=>aR (J a Y d m _ o N) λi c ⟨u,j,p,L,O⟩=>?_);rw[evalPart_none];refine XC ?_;have w:Inv X a d j {c with heap:=c.heap.push {cls:=.type "slice",data:=.fields #[g,i,.none]}}:=p.kept (t':=c.toks) λb Z q=>XE _ q;obtain⟨T,id,y,G,A⟩:=E a {c with heap:=c.heap.push {cls:=.type "slice",data:=.fields #[g,i,.none]}} d j x v g i l u c.heap.objs.size Q w R (a4d ..) K L O;show X5 (Yg X.prog X.w) X.A (a3O e (.Slice lo hi aY p2) v (.ref c.heap.objs.size)) (EP X a d Q) X.xe {c with heap:=c.heap.push {cls:=.type "slice",data:=.fields #[g,i,.none]}};exact a8J (ops:=[.ref c.heap.objs.size,v]) G y A (by with_unfolding_all rfl)
noncomputable def mT(xs:gw)(lo hi:Option Int):gw:=(xs.drop (HT.sIx xs.length 0 lo)).take (HT.sIx xs.length xs.length hi-HT.sIx xs.length 0 lo)
theorem LB(xs:gw)(lo hi:Option Int):(mT xs lo hi).length<=xs.length:=by unfold mT;rw[Zy,Z9];lia
noncomputable def CN(K:Xy):R2:=λx y H Q=>∃a b xs c,x=.ref a/\y=.ref b/\SqT K H a xs/\SqT K H b c/\xs≠[]/\xs.length+c.length<=XQ /\
 (c=[]->Q (.ref a) H)/\(c≠[]->∀p,H p=aY->Q (.ref p) (aP H p (.tup (xs++c))))
theorem Vals.nil_iff{xs:gw}{us:gq}(r:Vals xs us):us=[]↔xs=[]:=by
 cases r with
 |nil=>simp|cons _ _=>simp
theorem LC:OpR X (a0S .Add) (CN X.K):=by intro j s K H x y v u Q I A B h;obtain⟨a,b,E,G,rfl,rfl,k,l,m,g,p,r⟩:=h;cases A;cases B;obtain⟨n,d,o,_⟩:=I.tuple k;obtain⟨i,c,p2,_⟩:=I.tuple l;refine HT.cat_tup o p2 (λz=>m (d.nil_iff.mp z)) (λz=>⟨.ref a,H,I,rfl,p (c.nil_iff.mp z)⟩) (λz=>?_) (by rw[<- d.length,<- c.length];exact g);refine⟨.ref s.heap.objs.size,_,I.laid (t':=s.toks) (o:=.tup (E++G)) (λb J q=>XE _ q) (XJ _) ?_,rfl,r (λw=>z (c.nil_iff.mpr w)) _ (I.hok.fresh (XJ _))⟩;exact⟨by rw[XI];exact g,_,d.append c,TupN.new _ _⟩
end
noncomputable def iH(n:Nat)(i:Int):Option Nat:=if 0<=i then(if i<n then aX i.toNat else aY)else if -(n:Int)<=i then aX (i+n).toNat else aY
noncomputable def atI{a:Type}(xs:List a)(i:Int):Option a:=(iH xs.length i).bind λj=>xs[j]?
theorem CO{n:Nat}{i:Int}{j:Nat}(h:iH n i=aX j):seqIndex? i n=aX j/\j<n/\-(n:Int)<=i/\i<n:=by
 unfold iH at h;by_cases b:0<=i
 ·rw[if_pos b]at h;by_cases a:i<n
  ·rw[if_pos a]at h;have e:i.toNat=j:=XZ h;exact⟨by rw[a6Y b a,e],by lia,by lia,a⟩
  ·rw[if_neg a]at h;cases h
 ·rw[if_neg b]at h;by_cases a:-(n:Int)<=i
  ·rw[if_pos a]at h;have e:(i+n).toNat=j:=XZ h;exact⟨by rw[a6l (by lia) a,e],by lia,a,by lia⟩
  ·rw[if_neg a]at h;cases h
theorem yD{a:Type}{xs:List a}{i:Int}{v:a}(h:atI xs i=aX v):∃j,seqIndex? i xs.length=aX j/\xs[j]?=aX v/\j<xs.length/\-(xs.length:Int)<=i/\i<xs.length:=by
 unfold atI at h;cases e:iH xs.length i with
 |none=>rw[e]at h;cases h|some j=>rw[e]at h;obtain⟨b,c,d,g⟩:=CO e;exact⟨j,b,h,c,d,g⟩
noncomputable def yF(b:Expr):Prop:=∀o i,a4P b b4 o i=operate [o,i] (a5f o i)
noncomputable def IxR(X:Cx)(r:R2):Prop:=
 ∀(b a:Expr)(a8T:jw)(s:XD)(σ:St)(H:Hp)(x y:V)(v u:Value)(Q:VK),Inv X a8T σ H s->RelV x v->RelV y u->r x y H Q->
  a4P a b4 v u=operate [v,u] (a5f v u)->X5 (Yg X.prog X.w) X.A (a3O b a v u) (EP X a8T σ Q) X.xe s
noncomputable def CP(X:Cx)(id:String)(r:V->gw->Hp->VK->Prop):Prop:=
 ∀(a8T:jw)(s:XD)(σ:St)(H:Hp)(x:V)(xs:gw)(v:Value)(us:gq)(Q:VK),Inv X a8T σ H s->RelV x v->Vals xs us->r x xs H Q->
  X5 (Yg X.prog X.w) X.A (call (.builtin id) (v::us)) (EP X a8T σ Q) X.xe s
section
variable{X:Cx}{a b:Expr}{ta tb:TE}{pos:Zj}
theorem IxR.or{r i:R2}(h:IxR X r)(h':IxR X i):IxR X (λx y H Q=>r x y H Q\/i x y H Q):=by
 intro d c e s l H x y v u Q I j k q g;rcases q with q|q
 ·exact h d c e s l H x y v u Q I j k q g
 ·exact h' d c e s l H x y v u Q I j k q g
theorem LF{r:R2}(j:IxR X r)(g:PE X a ta)(i:PE X b tb)(k:yF b):PE X (.Subscript a b pos) (rJ r ta tb):=by intro c s o H Q I h;exact a5s (xO g i I h λv u n x y d e l m q=>j a b c n o d x y v u Q e l m q (k _ _))
noncomputable def CQ(K:Xy):R2:=λx y H Q=>∃p xs i v,x=.ref p/\y=.int i/\SqL K H p xs/\atI xs i=aX v/\Q v H
noncomputable def CS(K:Xy):R2:=λx y H Q=>∃p xs i v,x=.ref p/\y=.int i/\SqT K H p xs/\atI xs i=aX v/\Q v H
noncomputable def CT:R2:=λx y H Q=>∃z i c,x=.str z/\y=.int i/\z.length<=XQ/\atI z.cps.toList i=aX c/\Q (.str ⟨#[c]⟩) H
theorem ix_list:IxR X (CQ X.K):=by
 intro n m c s E H x y v u Q I O R h B;obtain⟨p,xs,i,z,rfl,rfl,N,L,q⟩:=h;cases O;obtain⟨t,rfl⟩:=R;obtain⟨g,r,k,Z⟩:=I.list N;obtain⟨j,d,G,U,J,K⟩:=yD L;obtain⟨w,o,l⟩:=r.get G;have M:=r.length;have Y:=nX;have fin:EP X c E Q w s:=⟨z,H,I,l,q⟩;by_cases A:0<=i
 ·have e:i.toNat=j:=by rw[a6Y A K]at d;exact XZ d
  exact item_listR k.isList A (by lia) (by rw[e];simpa using o) fin B
 ·have e:(i+(g.toArray.size:Int)).toNat=j:=by rw[a6l (by lia) J]at d;rw[XW,<- M];exact XZ d
  exact a6k (x:=w) k.isList.typeIs a4g.lookup
   (wpAny_getItem_list_neg (Q:=λr T=>r=w/\EP X c E Q r T) k.isList (by lia) (by rw[XW]<;>lia) (by lia) (by rw[e];simpa using o) ⟨rfl,fin⟩) B
theorem ix_tup:IxR X (CS X.K):=by
 intro g e c s l H x y v u Q I K L h G;obtain⟨p,Y,i,z,rfl,rfl,E,A,q⟩:=h;cases K;obtain⟨t,rfl⟩:=L;obtain⟨J,r,k,U⟩:=I.tuple E;obtain⟨j,n,o,N,O,R⟩:=yD A;obtain⟨w,m,d⟩:=r.get o;have B:=r.length;have T:=nX;have fin:EP X c l Q w s:=⟨z,H,I,d,q⟩;exact a6k (x:=w) k.typeIs slot_tuple_getitem.lookup
  (getItem_tuple (j:=j) (Q:=λr M=>r=w/\EP X c l Q r M) k (by lia) (by lia) (by rw[XW,<- B];exact n) (by simpa using m) ⟨rfl,fin⟩) G
theorem LG:IxR X CT:=by
 intro e d k s M H x y v u Q I B E h A
 obtain ⟨z,i,c,rfl,rfl,K,r,q⟩:=h
 obtain ⟨t,rfl⟩:=B
 obtain ⟨L,rfl⟩:=E
 obtain ⟨j,g,n,G,o,p⟩:=yD r
 have w:z.cps.toList.length=z.length:=by simp [Str.length]
 rw [w] at g o p
 have J:=nX
 exact a8J (typeIs_str s z t) slot_str_getitem.lookup (getItem_str (c:=c) (by
  have l:decide (i < -(2 ^ 63:Int))=false:=decide_eq_false (by lia)
  have m:decide (i >= 2 ^ 63)=false:=decide_eq_false (by lia)
  rw [l,m,a3o]) (by rw [g];simpa using n) ⟨.str ⟨#[c]⟩,H,I.tok _,⟨_,rfl⟩,q⟩) A
noncomputable def CU (K:Xy):R2:=fun x y H Q=>CQ K x y H Q\/CS K x y H Q\/CT x y H Q
theorem LH:IxR X (CU X.K):=ix_list.or (ix_tup.or LG)
theorem LI(its:gq)(n j:Nat)(u:Value):Zh (·.setIfInBounds j u) {cls:=.type "list",data:=.seq its.toArray n}={cls:=.type "list",data:=.seq (its.set j u).toArray n}:=by simp[Zh]
theorem Inv.lst{a8T:jw}{σ:St}{H:Hp}{s:XD}{p:Addr}{xs:gw}(I:Inv X a8T σ H s)(h:H p=aX (.lst xs)) :
  ∃(its:gq)(n:Nat),Vals xs its/\s.heap.get? p=aX {cls:=.type "list",data:=.seq its.toArray n}/\xs.length<=XQ:=by
 obtain⟨z,its,n,r,e⟩:=I.hok p _ h;exact⟨its,n,r,e,z⟩
theorem Inv.lstUpd{a8T:jw}{σ:St}{H:Hp}{s:XD}{p:Addr}{xs d:gw}{its its':gq}{n c:Nat}{f:Obj->Obj}(I:Inv X a8T σ H s)(h:H p=aX (.lst xs))
  (j:s.heap.get? p=aX {cls:=.type "list",data:=.seq its.toArray n}) (g:f {cls:=.type "list",data:=.seq its.toArray n}={cls:=.type "list",data:=.seq its'.toArray c}) (r:Vals d its')(hz:d.length<=XQ)(t:Nat) :
  Inv X a8T σ (aP H p (.lst d)) {s with heap:=s.heap.update p f,toks:=t}:=by
 have e:(s.heap.update p f).get? p=aX {cls:=.type "list",data:=.seq its'.toArray c}:=by rw[Zd f j (by rw[g]<;>rfl),g]
 refine I.write (x:=p) (e:=p) (by rw[h];trivial) (.inl rfl) (λb u i q=>(Y7 _ _ (Yn i)).trans q) ⟨_,e⟩ ?_;exact⟨hz,its',c,r,e⟩
noncomputable def uA:V->V->V->Hp->(Hp->Prop)->Prop:=λo i v H Q=>∃p xs k j,o=.ref p/\i=.int k/\H p=aX (.lst xs)/\iH xs.length k=aX j/\Q (aP H p (.lst (xs.set j v)))
theorem CV:Ci X uA:=by
 intro e s M H o i v T R u Q I J G K h;obtain⟨p,L,k,j,rfl,rfl,A,B,q⟩:=h;cases J;obtain⟨t,rfl⟩:=G;obtain⟨c,n,r,m,E⟩:=I.lst A;obtain⟨d,N,y,z⟩:=CO B;have l:=r.length;have O:=nX;have w:Inv X e M (aP H p (.lst (L.set j v))) {s with heap:=s.heap.update p (Zh (·.setIfInBounds j u))}:=
  I.lstUpd A m (LI c n j u) (r.set K j) (by rw[YL];exact E) s.toks
 by_cases x:0<=k
 ·have g:k.toNat=j:=by rw[a6Y x z]at d;exact XZ d
  exact PySem.W.ki_setAt m x (by lia) (by rw[XW,<- l];exact z) (by rw[g];exact⟨_,w,q⟩)
 ·have g:(k+(c.toArray.size:Int)).toNat=j:=by rw[a6l (by lia) y]at d;rw[XW,<- l];exact XZ d
  exact PySem.W.ki_setBack m (by lia) (by rw[XW,<- l];exact y) (by lia) (by rw[g];exact⟨_,w,q⟩)
theorem LJ(lo hi:Option Int)(n:Nat):(Z3 lo hi aY n).1=((HT.sIx n 0 lo:Nat):Int)/\(Z3 lo hi aY n).2.1=((HT.sIx n n hi:Nat):Int)/\(Z3 lo hi aY n).2.2=1:=by
 refine⟨?_,?_,rfl⟩
 ·cases lo with
  |none=>simp[Z3,HT.sIx]|some i=>
   simp only[Z3,HT.sIx,a3A,show(1:Int)>0 by decide,if_true];by_cases h:i<0
   ·simp only[h,if_true]<;>lia
   ·simp only[h,if_false]<;>lia
 ·cases hi with
  |none=>simp[Z3,HT.sIx]|some i=>
   simp only[Z3,HT.sIx,a3A,show(1:Int)>0 by decide,if_true];by_cases h:i<0
   ·simp only[h,if_true]<;>lia
   ·simp only[h,if_false]<;>lia
theorem LK(its:gq)(lo hi:Option Int):a5W its.toArray lo hi aY=((its.drop (HT.sIx its.length 0 lo)).take (HT.sIx its.length its.length hi-HT.sIx its.length 0 lo)).toArray:=by obtain⟨c,d,e⟩:=LJ lo hi its.toArray.size;unfold a5W;rw[c,d,e];simp only[sliceRange_one,pick_run,XW]<;>rfl
noncomputable def yG(K:Xy):V->Option Int->Option Int->Hp->VK->Prop:=λx lo hi H Q=>∃a xs,x=.ref a/\SqL K H a xs/\∀p,H p=aY->Q (.ref p) (aP H p (.lst (mT xs lo hi)))
theorem LL:yA X (yG X.K):=by intro i s A H x v y z e hi w Q I p j n o h;obtain⟨a,c,rfl,k,q⟩:=h;cases p;obtain⟨m,r,g,l⟩:=I.list k;have d:=r.length;refine⟨"list",_,a4g.lookup,g.isList.typeIs,?_⟩;refine a5M g.isList j n o .none (by simp) ?_ (by rw[XW]<;>lia);rw[LK,<- d];refine⟨.ref s.heap.objs.size,_,I.laid (t':=s.toks) (o:=.lst (mT c e hi)) (λb u q=>XE _ q) (XJ _) ?_,rfl,q _ (I.hok.fresh (XJ _))⟩;exact⟨Ys (LB c e hi) l,_,0,(r.drop (HT.sIx c.length 0 e)).take (HT.sIx c.length c.length hi-HT.sIx c.length 0 e),XT _ rfl⟩
theorem CW:OpR X (YU .NotIn) (λx y H Q=>∃i j,x=.str i/\y=.str j/\Q (.bl (!(!(Zl j i 0 j.length 1).isEmpty))) H):=by intro c s k H x y v u Q I d e h;obtain⟨i,j,rfl,rfl,q⟩:=h;obtain⟨t,rfl⟩:=d;obtain⟨g,rfl⟩:=e;exact notIn_str ⟨.bl _,H,I,rfl,q⟩
theorem call_len_seq:CallR X (.builtin "len") (λxs H Q=>∃p d,xs=[.ref p]/\(SqL X.K H p d\/SqT X.K H p d)/\Q (.int d.length) H):=by
 intro k s v H xs o Q I r h;obtain⟨p,d,rfl,e,q⟩:=h;obtain⟨u,rfl,m⟩:=fY r;cases m;have n:=nX;rcases e with e|e
 ·obtain⟨g,j,i,l⟩:=I.list e;have c:=j.length;exact Calls.call_len_list i.isList (by simp only[XW]<;>lia) ⟨.int d.length,H,I.tok _,⟨s.toks+1,by rw[XW,c]⟩,q⟩
 ·obtain⟨g,j,i,l⟩:=I.tuple e;have c:=j.length;exact len_tuple i (by simp only[XW]<;>lia) ⟨.int d.length,H,I.tok _,⟨s.toks+1,by rw[XW,c]⟩,q⟩
theorem LM:CallR X (.builtin "len") (λxs H Q=>∃z,xs=[.str z]/\z.length<=XQ/\Q (.int z.length) H):=by intro c s i H xs g Q I r h;obtain⟨z,rfl,e,q⟩:=h;obtain⟨u,rfl,t,rfl⟩:=fY r;have d:=nX;exact len_str (by lia) ⟨.int z.length,H,I.tok _,⟨_,rfl⟩,q⟩
theorem CallR.or{f:Value}{r d:gw->Hp->VK->Prop}(h:CallR X f r)(h':CallR X f d):CallR X f (λxs H Q=>r xs H Q\/d xs H Q):=by
 intro c s i H xs g Q I e q;rcases q with q|q
 ·exact h c s i H xs g Q I e q
 ·exact h' c s i H xs g Q I e q
theorem call_list_of:CallR X (.type "list") (λxs H Q=>∃p d,xs=[.ref p]/\(SqL X.K H p d\/SqT X.K H p d)/\∀l,H l=aY->Q (.ref l) (aP H l (.lst d))):=by
 intro m s z H xs A Q I r h;obtain⟨p,d,rfl,i,q⟩:=h;obtain⟨u,rfl,y⟩:=fY r;cases y;have fin:∀(its:gq),Vals d its->d.length<=XQ->∀(h':YZ)(c':Nat),(∀b x,s.heap.get? b=aX x->h'.get? b=aX x)->
   h'.get? s.heap.objs.size=aX {cls:=.type "list",dict:=aY,data:=.seq its.toArray c',slots:=#[]}->EP X m z Q (.ref s.heap.objs.size) {s with heap:=h'}:=λits c j h' c' k e=>
  ⟨.ref s.heap.objs.size,_,I.laid (t':=s.toks) k (XJ _) (show ObjOk X.prog X.w _ h' _ (.lst d)from⟨j,its,c',c,e⟩),rfl,q _ (I.hok.fresh (XJ _))⟩
 rcases i with i|i
 ·obtain⟨its,c,w,j⟩:=I.list i;have g:=c.length;obtain⟨o,v,hc,n,hd⟩:=w.isList;exact call_list_seq p (.inl rfl) v hc hd (λh' c' k e=>fin its c j h' c' k e) (by simp only[XW]<;>lia)
 ·obtain⟨its,c,w,j⟩:=I.tuple i;have g:=c.length;obtain⟨o,v,hc,n,hd⟩:=w;exact call_list_seq p (.inr rfl) v hc hd (λh' c' k e=>fin its c j h' c' k e) (by simp only[XW]<;>lia)
theorem CY:CallR X (.type "tuple") (λxs H Q=>∃p d,xs=[.ref p]/\((SqL X.K H p d/\∀l,H l=aY->Q (.ref l) (aP H l (.tup d)))\/(SqT X.K H p d/\Q (.ref p) H))):=by
 intro g s x H xs B Q I r h;obtain⟨p,d,rfl,h⟩:=h;obtain⟨u,rfl,A⟩:=fY r;cases A;rcases h with⟨j,q⟩|⟨j,q⟩
 ·obtain⟨c,m,k,w⟩:=I.list j;have v:=m.length;refine call_tuple_list k.isList (λi z=>?_) (by simp only[XW]<;>lia);have n:Inv X g x H {s with heap:=i}:=I.kept (t':=s.toks) z;have y:Inv X g x (aP H i.objs.size (.tup d)) {s with heap:=i.push {cls:=.type "tuple",data:=.seq c.toArray}}:=
   n.laid (t':=s.toks) (λb o e=>XE _ e) (XJ _) (show ObjOk X.prog X.w _ _ _ (.tup d)from⟨w,c,m,TupN.new _ _⟩)
  exact⟨.ref i.objs.size,_,y,rfl,q _ (n.hok.fresh (XJ _))⟩
 ·obtain⟨c,m,k,w⟩:=I.tuple j;exact call_tuple_same k ⟨.ref p,H,I,rfl,q⟩
noncomputable def uB(K:Xy)(T:String)(x:V)(H:Hp):Prop:=match x with
 |.str _=>T="str"|.int _=>T="int"|.ref p=>(T="list"/\∃d,SqL K H p d)\/(T="tuple"/\∃o,K.lookup p=aX o/\o.cls=.type "tuple"/\o.dict=aY) \/
   (T="dict"/\((∃c,H p=aX (.dK c))\/∃c,H p=aX (.dT c)))\/(T="set"/\∃S n,H p=aX (.set S n))
 |_=>False
theorem CZ{a8T:jw}{σ:St}{H:Hp}{s:XD}{T:String}{x:V}{v:Value}(I:Inv X a8T σ H s)(r:RelV x v)(ty:uB X.K T x H) :
  s.TypeIs v T/\∀a,v=.ref a->∃k,s.heap.get? a=aX k/\k.dict=none:=by
 cases x with
 |str z=>obtain⟨t,rfl⟩:=r;cases(show T="str" from ty);exact⟨typeIs_str s z t,λ_ e=>nomatch e⟩|int i=>obtain⟨t,rfl⟩:=r;cases(show T="int" from ty);exact⟨typeIs_int s i t,λ_ e=>nomatch e⟩|ref p=>
  cases r;rcases ty with⟨rfl,u,m⟩|⟨rfl,o,d,hc,hd⟩|⟨rfl,d⟩|⟨rfl,S,n,d⟩
  ·obtain⟨q,_,l,_⟩:=I.list m;refine⟨l.isList.typeIs,λa e=>?_⟩;cases e;obtain⟨o,n,e,c,hd,_⟩:=l;exact⟨o,e,hd⟩
  ·refine⟨⟨o,I.kIn p o d,hc⟩,λa e=>?_⟩;cases e;exact⟨o,I.kIn _ o d,hd⟩
  ·have z:∃o,s.heap.get? p=aX o/\o.ExactDict:=by
    rcases d with⟨j,d⟩|⟨j,d⟩
    ·obtain⟨_,_,_,_,o,_,_,e,g,_⟩:=I.hok p _ d;exact⟨o,e,g⟩
    ·obtain⟨_,_,_,_,o,_,_,e,g,_⟩:=I.hok p _ d;exact⟨o,e,g⟩
   obtain⟨o,e,g⟩:=z;refine⟨⟨o,e,g.1⟩,λa h=>?_⟩;cases h;exact⟨o,e,g.2.1⟩
  ·obtain⟨o,_,_,_,e,g,_⟩:=I.hok p _ d;refine⟨⟨o,e,g.1⟩,λa h=>?_⟩;cases h;exact⟨o,e,g.2.1⟩
 |_=>exact Z0 ty
noncomputable def C0(K:Xy)(T:String)(r:V->gw->Hp->VK->Prop)(to:TE):TE:=λσ H Q=>to σ H λx c=>uB K T x c/\r x [] c Q
noncomputable def C1(K:Xy)(T:String)(r:V->gw->Hp->VK->Prop)(to:TE)(t:TA):TE:=λσ H Q=>to σ H λx c=>uB K T x c/\t σ c λxs d=>r x xs d Q
variable{o e:Expr}{es:List Expr}{to:TE}{t:TA}{name:Str}{apos cpos:Zj}{T id:String}{r:V->gw->Hp->VK->Prop}
theorem LN(y:PlainAttrs T)(i:Slot T name id)(j:a6j (.builtin id)=pure (.type "method_descriptor")) (u:CP X id r)(w:PE X o to)
  (c:a0v o name X.env (eval o X.env)=eval o X.env:=by rfl)(d:(apos.endLine==cpos.line)=true:=by rfl):PE X (.Call (.Attribute o name apos) [] [] cpos) (C0 X.K T r to):=by
 intro g s m H Q I h;refine a1u c d (aR (w g s m H _ I h) λv A ⟨x,n,k,l,ty,z⟩=>?_);obtain⟨p,q⟩:=CZ k l ty;exact⟨T,id,y,i,j,p,q,Z7 rfl (a1J (u g A m n x [] v [] Q k l .nil z))⟩
theorem LO(K:PlainAttrs T)(k:Slot T name id)(l:a6j (.builtin id)=pure (.type "method_descriptor")) (E:CP X id r)(G:PE X o to)(B:PA X (e::es) t)
  (g:a0v o name X.env (eval o X.env)=eval o X.env:=by rfl)
  (j:((a0l cpos (Yr (e::es) X.env)).all (λx=>!x.1)&&(a3v cpos (a1U [] X.env)).all (λx=>x.1.isSome)
   && decide ((e::es).length+([]:List a1a).length+(if([]:List a1a).isEmpty then 0 else 1)<30))=true:=by rfl)
  (i:(apos.endLine==cpos.line)=true:=by rfl)(J:Yr (e::es) X.env=(b4,eval e X.env)::Yr es X.env:=by rfl)(c:(a0l cpos (Yr es X.env)).any (·.1)=false:=by rfl) :
  PE X (.Call (.Attribute o name apos) (e::es) [] cpos) (C1 X.K T r to t):=by
 intro d s m H Q I h;refine a6h g j i rfl (aR (G d s m H _ I h) λv O ⟨x,u,n,q,ty,L⟩=>?_);obtain⟨z,A⟩:=CZ n q ty;refine⟨T,id,K,k,l,z,A,?_⟩;have p:=B cpos d O m u _ n L;rw[J]at p ⊢;refine Z7 (by show(b4||(a0l cpos (Yr es X.env)).any (·.1))=b4;rw[c]<;>rfl) (a5A ?_);exact aR p λU R ⟨Y,w,y,N,M⟩=>E d R m w x Y v U Q y q N M
end
noncomputable def kK(X:Cx)(id:String)(r:V->gw->Hp->VK->Prop):Prop:=
 ∀(a8T:jw)(s:XD)(σ:St)(H:Hp)(x:V)(xs:gw)(v:Value)(us:gq)(Q:VK),Inv X a8T σ H s->RelV x v->Vals xs us->r x xs H Q->
  X5 (Yg X.prog X.w) X.A (call (.builtin id) (v::us)) (EP X a8T σ Q) X.xe s
theorem Vals.one{x:V}{us:gq}(h:Vals [x] us):∃u,us=[u]/\RelV x u:=by
 cases h with
 |cons r t=>cases t;exact⟨_,rfl,r⟩
theorem Vals.two{x y:V}{us:gq}(h:Vals [x,y] us):∃u v,us=[u,v]/\RelV x u/\RelV y v:=by
 cases h with
 |cons r t=>obtain⟨v,rfl,q⟩:=Vals.one t;exact⟨_,v,rfl,r,q⟩
theorem Vals.zero:∀{us:gq},Vals [] us->us=[]
 |_,.nil=>rfl
theorem Vals.dropLast{xs:gw}{us:gq}(h:Vals xs us):Vals xs.dropLast us.dropLast:=by
 induction h with
 |nil=>exact .nil|cons r t a=>
  cases t with
  |nil=>exact .nil|cons q b=>exact .cons r a
theorem Vals.eraseIdx:∀{xs:gw}{us:gq}(i:Nat),Vals xs us->Vals (xs.eraseIdx i) (us.eraseIdx i)
 |_,_,_,.nil=>.nil|_,_,0,.cons _ t=>t|_,_,i+1,.cons r t=>.cons r (Vals.eraseIdx i t)
theorem Vals.reverse{xs:gw}{us:gq}(h:Vals xs us):Vals xs.reverse us.reverse:=by
 induction h with
 |nil=>exact .nil|cons r t a=>rw[a0L,a0L];exact Vals.append a (.cons r .nil)
theorem LP{d:Type}(l:List d):l.eraseIdx (l.length-1)=l.dropLast:=by
 induction l with
 |nil=>rfl|cons a r c=>
  cases r with
  |nil=>rfl|cons b r=>
   have e:(a::b::r).length-1=((b::r).length-1)+1:=by have g:(a::b::r).length=r.length+2:=rfl;have h:(b::r).length=r.length+1:=rfl;lia
   rw[e,List.eraseIdx_cons_succ,c];all_goals rfl
section
variable{X:Cx}{a8T:jw}{σ:St}{H:Hp}{s:XD}{l b:Addr}{xs ys zs:gw}
theorem Inv.lset{its its':gq}{n:Nat}{f:Array Value->Array Value}{t':Nat}(I:Inv X a8T σ H s)(a:H l=aX (.lst xs))
  (e:s.heap.get? l=aX {cls:=.type "list",data:=.seq its.toArray n}) (d:f its.toArray=its'.toArray)(h:Vals ys its')(hz:ys.length<=XQ) :
  Inv X a8T σ (aP H l (.lst ys)) {s with heap:=s.heap.update l (Zh f),toks:=t'}:=by
 have q:=PySem.IsL.update e f;rw[d]at q;refine I.write (x:=l) (e:=l) (by rw[a];exact trivial) (.inl rfl) (λi u c g=>(Y7 s.heap (Zh f) (Yn c)).trans g) ⟨_,q⟩ ?_;exact⟨hz,its',_,h,q⟩
theorem Inv.lnew{its:gq}{t':Nat}(I:Inv X a8T σ H s)(a:Vals ys its)(hz:ys.length<=XQ) :
  Inv X a8T σ (aP H s.heap.objs.size (.lst ys)) {s with heap:=s.heap.push {cls:=.type "list",data:=.seq its.toArray},toks:=t'}:=
 I.laid (λ_ _ q=>XE _ q) (XJ _) ⟨hz,its,0,a,XT _ rfl⟩
theorem Inv.fresh(I:Inv X a8T σ H s):H s.heap.objs.size=none:=I.hok.fresh (XJ _)
theorem Inv.lstM(I:Inv X a8T σ H s)(a:H l=aX (.lst xs)):xs.length<=XQ/\∃(its:gq)(n:Nat),Vals xs its/\xs.length=its.length/\s.heap.get? l=aX {cls:=.type "list",data:=.seq its.toArray n}:=by obtain⟨z,its,n,r,e⟩:=I.hok l _ a;exact⟨z,its,n,r,r.length,e⟩
theorem LQ{n:Nat}(h:n<=XQ):a1L n=false:=by unfold a1L;exact decide_eq_false (by lia)
end
section
variable{X:Cx}
noncomputable def C2:V->gw->Hp->VK->Prop:=λx vs H Q=>∃l xs y,x=.ref l/\vs=[y]/\H l=aX (.lst xs)/\xs.length<XQ/\Q .non (aP H l (.lst (xs++[y])))
theorem C3:kK X "list.append" C2:=by intro c s w H x o v m Q I i g h;obtain⟨l,p,y,rfl,rfl,b,k,q⟩:=h;cases i;obtain⟨u,rfl,d⟩:=g.one;obtain⟨z,a,n,r,j,e⟩:=I.lstM b;refine a5r F.slot_list_append ⟨_,e,rfl⟩ F.entry_list_append (F.args_list_append_2 _ _) (PySem.list_append l a.toArray n u (by rw[XW];lia)) ⟨e,?_⟩;refine⟨.non,_,I.lset (its':=a++[u]) b e (by simp) (r.append (.cons d .nil)) ?_,rfl,q⟩;rw[XI,a5w];lia
noncomputable def C4:V->gw->Hp->VK->Prop:=λx vs H Q=>∃l b xs a,x=.ref l/\vs=[.ref b]/\H l=aX (.lst xs)/\H b=aX (.lst a)/\xs.length+a.length<=XQ/\Q .non (aP H l (.lst (xs++a)))
theorem LR:kK X "list.extend" C4:=by
 intro j s O H x K v J Q I B A h;obtain⟨l,b,L,N,rfl,rfl,i,m,G,q⟩:=h;cases B;obtain⟨u,rfl,y⟩:=A.one;cases y;obtain⟨z,c,n,r,E,e⟩:=I.lstM i;obtain⟨M,a,p,w,o,k⟩:=I.lstM m;have g:c.toArray.size+a.toArray.size<=XQ:=by rw[XW,XW];lia
 have d:¬ (!c.toArray.isEmpty&&a1L (c.toArray.size+a.toArray.size))=true:=by rw[LQ g,Bool.and_false];exact X9
 refine a5r F.slot_list_extend ⟨_,e,rfl⟩ F.entry_list_extend (F.args_list_extend_2 _ _)
  (AutoSeq1.list_extend_list_list_0 l c.toArray n b a.toArray p d (by rw[XW];lia) (by lia)) ⟨e,k,?_⟩
 refine⟨.non,_,I.lset (its':=c++a) i e (by simp) (r.append w) ?_,rfl,q⟩;rw[XI];lia
noncomputable def C5:V->gw->Hp->VK->Prop:=λx vs H Q=>∃l xs y,x=.ref l/\vs=[]/\H l=aX (.lst xs)/\xs[xs.length-1]?=aX y/\Q y (aP H l (.lst xs.dropLast))
theorem LS:kK X "list.pop" C5:=by
 intro g s E H x A v w Q I p o h;obtain⟨l,B,y,rfl,rfl,d,k,q⟩:=h;cases p;have b:=o.zero;subst b;obtain⟨z,a,n,r,i,e⟩:=I.lstM d;obtain⟨u,j,m⟩:=r.get k;have c:a.toArray[a.toArray.size-1]?=aX u:=by show a.toArray[a.length-1]?=aX u;rw[<- YW,<- i];exact j
 refine a5r F.slot_list_pop ⟨_,e,rfl⟩ F.entry_list_pop (F.args_list_pop_1 _) (MeetsSeq.list_pop_last l a.toArray n u c (by rw[XW];lia)) ⟨e,?_⟩;refine⟨y,_,I.lset (its':=a.dropLast) d e ?_ r.dropLast ?_,m,q⟩
 ·show a.toArray.eraseIdxIfInBounds (a.toArray.size-1)=a.dropLast.toArray;rw[XW,List.eraseIdxIfInBounds_toArray,LP]
 ·rw[List.length_dropLast];lia
noncomputable def C6:V->gw->Hp->VK->Prop:=λx vs H Q=>∃l xs,x=.ref l/\vs=[]/\H l=aX (.lst xs)/\Q .non (aP H l (.lst xs.reverse))
theorem LU:kK X "list.reverse" C6:=by intro d s p H x m v k Q I i g h;obtain⟨l,o,rfl,rfl,c,q⟩:=h;cases i;have b:=g.zero;subst b;obtain⟨z,a,n,r,j,e⟩:=I.lstM c;refine a5r F.slot_list_reverse ⟨_,e,rfl⟩ F.entry_list_reverse (F.args_list_reverse_1 _) (AutoSeq1.list_reverse_list_0 l a.toArray n (by rw[XW];lia)) ⟨e,?_⟩;refine⟨.non,_,I.lset (its':=a.reverse) c e (by simp) r.reverse ?_,rfl,q⟩;rw[a1Q];lia
noncomputable def C7:R2:=λx y H Q=>∃l b xs a,x=.ref l/\y=.ref b/\H l=aX (.lst xs)/\H b=aX (.lst a)/\xs.length+a.length<=XQ/\∀p,H p=aY->Q (.ref p) (aP H p (.lst (xs++a)))
theorem LV:OpR X (a0S .Add) C7:=by
 intro d s L H x y v u Q I p w h;obtain⟨l,b,G,K,rfl,rfl,k,j,B,q⟩:=h;cases p;cases w;obtain⟨z,c,n,r,A,e⟩:=I.lstM k;obtain⟨J,a,E,o,m,g⟩:=I.lstM j;refine PySem.P.add_list e g ?_ (by rw[XW,XW];lia);have i:c.toArray++a.toArray=(c++a).toArray:=by simp
 rw[i];exact⟨.ref _,_,I.lnew (t':=s.toks) (r.append o) (by rw[XI];lia),rfl,q _ I.fresh⟩
end
section
variable{prog:Yk}{w:Yz}{A:Yt}{E:Value->XD->Prop}{s:XD}
end
section
variable{X:Cx}
end
end L2
namespace Att
open PySem PySem.W PySem.Calls PyProof.Rows
theorem LW{P:ZG}{h:YZ}:∀(ns:List Int)(vs:gq),WellAll P h vs (ns.map a1D)->a0M vs ns:=by
 intro ns;induction ns with
 |nil=>intro vs w;rw[a0y]at w;cases w;exact .nil|cons n ns c=>
  intro vs w;rw[XS]at w;cases w with
  |cons a b=>cases a;exact .cons _ _ (c _ b)
theorem script_of{l:OpenLaw}{n:Nat}(w:l.most=aX n){P:ZG}{h:YZ}{args:List WData}{e:gq}
  (c:l.row.toRowW.claim.pre args=b5)(o:WellAll P h e args) :
  ∃a p b,e=[XO a]/\args=[WData.list (b.map a1D)]/\h.get? a=aX {cls:=.type "list",data:=.seq p.toArray}/\a0M p b/\b.length<=n:=by
 have m:WShape.hasAll [] args [.list .int]=true:=(pre_splitW c).1;have hc:l.pre.holds [] {args:=args}=true:=(pre_splitW c).2;obtain⟨d,r,rfl,s,u⟩:=hasAllW_cons m;obtain rfl:=hasAllW_nil u;obtain⟨B,rfl,v⟩:=hasW_list s;obtain⟨b,rfl⟩:=items_int v;have i:b.length<=n:=by
  unfold OpenLaw.pre at hc;have j:(WTm.not (.lt (.lit (.int (n:Int))) (.len (.arg 0)))).holds [] {args:=[.list (b.map .int)]}=true:=by have j:=(holds_andW hc).1;rw[w]at j;exact j
  have k:=condW_of j (w_not (w_lt w_lit (w_len_list (w_arg rfl))));rw[Xx]at k;refine a7f λq=>?_;have y:(n:Int)<((b.length:Nat):Int):=by lia
  first
   |(rw[decide_eq_true y]at k;exact absurd k (by decide))|(simp at k;lia)
 cases o with
 |cons z A=>
  cases A;cases z with
  |list x g=>exact⟨_,_,b,rfl,rfl,x,LW b _ g,i⟩
theorem post_true(l:OpenLaw)(args:List WData):l.row.toRowW.claim.post args (.bool b5) args=true:=
 postW_of (r:=l.row.toRowW) (X:=(b5==b5))
  (show a7J [] (.bool b5) .bool=b5 by first|rfl|decide|simp[a7J,WShape.arms,WShape.armsAll])
  (show(WTm.eq .res (.lit (.bool b5))).value [] {args:=args,res:=aX (.bool b5),after:=args}=aX (.bool (b5==b5))from w_eq_bool (w_res rfl) w_lit) rfl
section
variable{prog:Yk}{w:Yz}{A:Yt}{E:Value->XD->Prop}{s:XD}{K:Frag}
end
end Att
namespace L2
open PySem PySem.Spec PyProof.Rows
theorem C8:∀{vs:gq}{ns:List Int},a0M vs ns->Vals (ns.map V.int) vs
 |_,_,.nil=>.nil|_,_,.cons n t h=>.cons ⟨t,rfl⟩ (C8 h)
noncomputable def C9(H:Hp):Prop:=∀b,H b=aY\/∃o xs,H b=aX (.frz o (.lst xs))
theorem law_call{P:Yk}{w:Yz}{K:Xy}{M Z:Str->Option Value}{CX:kJ}{k:Nat}{R a:Addr}{fd:a0h}{x:Str}{sp:Sp}{c:XD}{vs:gq}{ns:List Int}
  (KX:K.In c.heap)(G:c.heap.Ns Zq M)(g:c.heap.Ns a7y Z)(U:∀x:Str,x ≠ "__name__"->Z x=ZA x) (E:c.heap.NoLimit)(hg:c.gens=#[])
  (O:c.heap.get? a=aX {cls:=.type "list",data:=.seq vs.toArray}) (hi:a0M vs ns)(hl:ns.length<=XQ)(hr:Room k a4m)
  (F:∀i:YZ,K.In i->i.Ns Zq M->FnOk P w K M i CX k R fd [x] sp)(y:∀(s:XD)(u:Value),a4w s fd ⟨[u],[]⟩ [(x,u)])
  (Y:∀H:Hp,C9 H->SqL K H a (ns.map V.int)->sp [.ref a] H (λv _=>v=.bl b5) λ_ _ _=>False)
  (T:∀H e j,CX [] H c (λ_ _ _=>False) e j->False) :
  a1g (Yg P w) a4m (.call (.ref R) ⟨[.ref a],[]⟩) (λr j=>r=.ok (.ret (.bool b5))/\OldK c.heap j.heap/\j.os=c.os/\a3E j.gens) c:=by
 have rv:=C8 hi;have L:=hi.length
  -- from an abstract heap in which nothing but the script may be tracked
 have p:∀H:Hp,C9 H->SqL K H a (ns.map V.int)->HOk P w H c.heap->(∀b,H b≠aY->b=a)->(H a≠aY->K.lookup a=aY)->
   a1g (Yg P w) a4m (.call (.ref R) ⟨[.ref a],[]⟩) (λr j=>r=.ok (.ret (.bool b5))/\OldK c.heap j.heap/\j.os=c.os/\a3E j.gens) c:=by
  intro H hO hS I hA hK;have lV:∀{b:Addr}{o:Obj},c.heap.get? b=aX o->H b=aY->(lH c.heap H).get? b=aX o:=λe n=>JD e n;have noA:∀{b:Addr}{o:Obj}{es:Array DictEntry}{ep:Nat},c.heap.get? b=aX o->o.data=.dict es ep->H b=none:=λ{b o es ep} e d=>by
   cases q:H b with
   |none=>rfl|some u=>have Q:b=a:=hA b (by rw[q];simp);subst Q;rw[O]at e;cases e;have d':a5K vs.toArray _=a1l es ep:=d;cases d'
  have l:∀{b:Addr}{m:Str->Option Value},c.heap.Ns b m->(lH c.heap H).Ns b m:=λ{b m} ⟨o,es,ep,e,d,r⟩=>⟨o,es,ep,lV e (noA e d),d,r⟩;have B:K.In (lH c.heap H):=λb o e=>lV (KX b o e) (by
   cases q:H b with
   |none=>rfl|some u=>
    have Q:b=a:=hA b (by rw[q];simp);subst Q;rw[hK (by rw[q];simp)]at e;cases e)
  have hM:Mod K M (lH c.heap H):=⟨B,l G,⟨Z,l g,U⟩,let⟨mc,h1,h2⟩:=E;⟨mc,l h1,h2⟩⟩;have e0:Env0 P w K M (lH c.heap H) a4m [] c H:=⟨rfl,hM,λb o e=>JE e,a1W (JB _ _),trivial,λb g=>absurd (show b∈([]:List Addr)from g) (by simp),I,.of_eq hg⟩;refine a4l ((F _ B (l G)).run a4m [] c H ⟨[.ref a],[]⟩ [.ref a] [.ref a] _ _ hr e0 (y c (.ref a)) (.cons rfl .nil) (Y H hO hS)) λr j h=>?_;cases r with
  |error e=>exact(T H e j h).elim|ok fl=>
   cases fl with
   |next=>exact Z0 h|brk=>exact Z0 h|cont=>exact Z0 h|ret u=>
    obtain⟨v,H',os,A,un,J,r',q⟩:=h;have q':v=.bl true:=q;subst q';obtain rfl:u=ZP true:=r';refine⟨rfl,OldK.of_keep λb o e=>?_,os,A⟩;cases q:H b with
    |none=>exact un.keep b o e q (by intro z;exact absurd (show b∈([]:List Addr)from z) (by simp)) (by simp)|some u=>
     rcases hO b with z|⟨ob,xs,z⟩
     ·rw[q]at z;cases z
     ·have z2:=un.frzs b ob _ z;obtain⟨e1,_⟩:=I b _ z;obtain⟨e2,_⟩:=J b _ z2;rw[e]at e1;cases e1;exact e2
 cases X:K.lookup a with
 |some o=>-- the script is one of the module's own objects
  have e:=KX a o X;rw[O]at e;cases e;refine p (λ_=>aY) (λ_=>.inl rfl) (.inr ⟨_,vs.toArray,_,X,rfl,rfl,rfl,by rw[XW,L];exact hl,by simpa using rv⟩) (λb u z=>by have N:(aY:Option HO)=aX u:=z;cases N) (λb z=>absurd rfl z) λz=>absurd rfl z
 |none=>
  refine p (λb=>if b=a then aX (.frz {cls:=.type "list",data:=.seq vs.toArray} (.lst (ns.map V.int)))else aY) (λb=>?_) (.inl (.inr ⟨{cls:=.type "list",data:=.seq vs.toArray},if_pos rfl⟩)) (λb u z=>?_) (λb z=>?_) λ_=>X
  ·by_cases g:b=a
   ·exact .inr ⟨_,_,if_pos g⟩
   ·exact .inl (if_neg g)
  ·by_cases g:b=a
   ·have N:=(if_pos g).symm.trans z;cases N;subst g;exact⟨O,by rw[Xx];exact hl,vs,_,rv,O⟩
   ·have N:=(if_neg g).symm.trans z;cases N
  ·by_cases g:b=a
   ·exact g
   ·exact absurd (if_neg g) z
noncomputable def i7(s:Stmt):Arguments:=match s with
 |.FunctionDef _ a _ _ _ _ _ _ _ _=>a|_=>{posonlyargs:=[],args:=[],vararg:=aY,kwonlyargs:=[],kw_defaults:=[],kwarg:=aY,defaults:=[]}
noncomputable def fZ(s:Stmt):List Stmt:=match s with
 |.FunctionDef _ _ b _ _ _ _ _ _ _=>b|_=>[]
noncomputable def cP(s:Stmt):a0g:=match s with
 |.FunctionDef _ _ _ _ _ _ sc _ _ _=>sc|_=>{kind:=.function,names:=[],isGenerator:=b4,isCoroutine:=b4}
noncomputable abbrev gN:kJ:=λ_ _ _ _ _ _=>False
noncomputable abbrev E0:XK:=λ_ _ _=>False
theorem Dd{X:Cx}:t7 gN X E0:=λ_ _ _ _ _ _ _ h=>h.elim
structure Fun(K:Xy)(x qual:Str)(st:Stmt)(f:Addr)(fd:a0h):Prop where
 ex:∃(oc:Value)(od:Option Addr)(dV kV doc pm:Value)(an:Option Addr)(cdv ct:Value)(osl:Array (Option Value)),
  fd=ZN x qual (i7 st) (fZ st) (cP st) dV kV doc pm an cdv ct/\K.lookup f=aX ⟨oc,od,.func fd,osl⟩/\a2J K cdv qual=b5
 kp:ZM K (.ref f)=b5
section
variable{P:Yk}{w:Yz}{K:Xy}{mg:Str->Option Value}{base:YZ}
theorem Fun.ok{x a:Str}{st:Stmt}{f:Addr}{g:a0h}{N ps:List Str}{k:Nat}{sp:Sp}(F:Fun K x a st f g)(S:FnScope N ps (cP st))(len:∀vs H Q E,sp vs H Q E->vs.length=ps.length)
  (c:∀(b:Value)(A:Yt)(outer:List a3h)(s:XD)(H:Hp)(vs:gw)(Q:VK)(E:XK),Room k (A.deeper (envOfC a (cP st) s.heap.objs.size f b))->sp vs H Q E->
   ∃t,PSs (lI gN P w K mg base N a (cP st) f b A outer s H E).nox (fZ st) t/\t {nx:=λ_ i=>Q .non i,rt:=Q} (start N vs) H):FnOk P w K mg base gN (k+1) f g ps sp:=by
 obtain⟨p,r,o,kV,j,u,n,b,ct,m,rfl,lk,d⟩:=F.ex;refine Lh lk d S len λA outer s H vs Q E l e=>?_;obtain⟨t,h,q⟩:=c b A outer s H vs Q E l e;exact⟨t,h.nox,q⟩
theorem LX{x a:Str}{st:Stmt}{f:Addr}{i:Value}{j an:Option Addr}{e:Array (Option Value)}{g kV d h b ct:Value}(l:K.lookup f=aX ⟨i,j,.func (ZN x a (i7 st) (fZ st) (cP st) g kV d h an b ct),e⟩)
  (c:a2J K b a=b5)(k:ZM K (.ref f)=b5):Fun K x a st f (ZN x a (i7 st) (fZ st) (cP st) g kV d h an b ct):=⟨⟨i,j,g,kV,d,h,an,b,ct,e,rfl,l,c⟩,k⟩
end
theorem LY{A:Yt}{k:Nat}(a:Room k A):A.units+1<Zk:=Nat.lt_of_le_of_lt (Nat.add_le_add_left (by decide:1<=64) _) a.units
section
variable{X:Cx}
theorem pv(i:Nat){x:Str}{pos:Zj}(b:X.N[i]?=aX x:=by rfl)(c:nV X.env.scope x:=by first|exact a4V rfl|exact a3z (a4V rfl)|exact a3z (a3z rfl))(hd:(x==("__debug__":Str))=false:=by decide)
  (a:(x==("__classdict__":Str))=false:=by decide):PE X (.Name x pos) (xF i):=Cf b c hd a
end
theorem mU{A B:Prop}(h:B):if b4=b5 then A else B:=by rw[if_neg X9];exact h
theorem mV{A B:Prop}(h:A):if b5=b5 then A else B:=by rw[if_pos rfl];exact h
noncomputable def Same(H a:Hp):Prop:=∀b o,H b=aX o->a b=aX o
theorem Same.refl(H:Hp):Same H H:=λ_ _ h=>h
theorem Same.trans{H d e:Hp}(a:Same H d)(b:Same d e):Same H e:=λc o h=>b c o (a c o h)
theorem Same.free{H a:Hp}(e:Same H a){l:Addr}(h:a l=a7A):H l=a7A:=by
 cases q:H l with
 |none=>rfl|some o=>rw[e l o q]at h;cases h
section
variable{κ:Type} [DecidableEq κ]
end
end L2
namespace L3
open PySem PySem.W
theorem left_cut{p q:Yk}{loose:List Str}{Xt:XD → Bool}{O:Type}{Yf:XD → O}{Ya:Yz → O}{N:Nat}{z:Bool}{hA hB hC hD:ZG → YZ}{kA A B E b:Nat}{g:Option Value}{u l m n o n4:Nat}{env:a3h}{j G v H I J:Zj}{i1 i2 i3:Nat}
  (i:∀w:Yz,(fencedOpening Z8 p w N).map (λs=>(s.heap,s.gens,s.drawn,s.toks))=aX (a1v w.params,YJ [],Y9,a4G))
  (size:∀w:Yz,((a1v w.params).isNs Zq,(a1v w.params).objs.size,(a1v w.params).nsMap Zq "__annotations__")=(b5,b,g))
  (y:∀(w:Yz)(a:a2n),topGo Z8 p w b g u ⟨a1v w.params,YJ [],Y9,a4G,a⟩ (topStub p)=aX (⟨hA w.params,YJ [],Y9,kA,a⟩,⟨denote Z8 (.body (Yj p) env),.body (Yj p) env,G,[a1z j]⟩))
  (x:∀(w:Yz)(a:a2n),a4F Z8 p w b g 1 l ⟨hA w.params,YJ [],Y9,kA,a⟩ (blockOf (Yj p) env (.body (Yj p) env) G [a1z j])=aX (.next,⟨hA w.params,YJ [],Y9,kA,a⟩,.body (Yj p) env,v))
  (s1:∀(w:Yz)(a:a2n),a4F Z8 p w b g 1 m ⟨hA w.params,YJ [],Y9,kA,a⟩ (a4i ((Yj p).take i1) env (.body (Yj p) env) v [a1z j])=aX (.next,⟨hB w.params,YJ [],Y9,A,a⟩,.body (Yj p) env,H))
  (s2:∀(w:Yz)(a:a2n),a4F Z8 p w b g 1 n ⟨hB w.params,YJ [],Y9,A,a⟩ (a4i (((Yj p).drop i1).take i2) env (.body (Yj p) env) H [a1z j])=aX (.next,⟨hC w.params,YJ [],Y9,B,a⟩,.body (Yj p) env,I))
  (s3:∀(w:Yz)(a:a2n),a4F Z8 p w b g 1 o ⟨hC w.params,YJ [],Y9,B,a⟩ (a4i ((((Yj p).drop i1).drop i2).take i3) env (.body (Yj p) env) I [a1z j])=aX (.next,⟨hD w.params,YJ [],Y9,E,a⟩,.body (Yj p) env,J))
  (fin:∀(w:Yz)(a:a2n),((topRun Z8 p w b g n4 ⟨hD w.params,YJ [],Y9,E,a⟩ (restOf ((((Yj p).drop i1).drop i2).drop i3) env (.body (Yj p) env) J [a1z j])).bind λc=>match staticsOk (a8i p.main.body) (a1v w.params) c.heap&&namesBound p c.heap&&gensDone c&&laidKept (a1v w.params) c.heap with
   |true=>aX c
   |false=>aY).map (λs=>(openSeen q loose (a8i p.main.body) Xt z s,Yf s))=aX (openGood q loose,Ya w))
  (Z:Nat.ble (u+(l+(m+(n+(o+n4))))) N=b5):LeftO p q loose Xt Yf Ya N z:=λw=>by
 obtain⟨⟨h,R,d,k,a⟩,e,Q⟩:=XA.mp (i w);obtain⟨rfl,rfl,rfl,rfl⟩:h=a1v w.params ∧ R=YJ [] ∧ d=Y9 ∧ k=a4G:=by simpa using Q
 obtain⟨z1,z2,z3⟩:_ ∧ _ ∧ _:=by simpa only[a6J]using size w
 obtain⟨s,X,Y⟩:=XA.mp (fin w a);obtain⟨c,T,U⟩:=Xv.mp X;have M:=a7T (s3 w a) T;rw[a0I]at M;have L:=a7T (s2 w a) M;rw[a0I]at L;have K:=a7T (s1 w a) L;rw[a0I]at K;have r0:=go_top (y w a) (piece_block (x w a) K);have r:=topRun_mono (N-(u+(l+(m+(n+(o+n4)))))) _ _ _ _ r0;rw[show u+(l+(m+(n+(o+n4))))+(N-(u+(l+(m+(n+(o+n4))))))=N by have:=Nat.le_of_ble_eq_true Z;lia]at r;have t:topFrom Z8 p w N ⟨a1v w.params,YJ [],Y9,a4G,a⟩=aX s:=by unfold topFrom;dsimp only;rw[z1,z2,z3,r];exact U
 unfold openEnds;rw[e];show(topFrom Z8 p w N _).map _=_;rw[t];exact congrArg aX Y
end L3
namespace Lw
open PySem L2
noncomputable def aK(i:Nat):Stmt:=Y3.main.body.getD i (.Pass ⟨0,0,0,0⟩)
noncomputable def o7(i j:Nat):Stmt:=match aK i with|.ClassDef _ _ _ b _ _ _ _ _ _ _=>b.getD j (.Pass ⟨0,0,0,0⟩)|_=>.Pass ⟨0,0,0,0⟩
noncomputable def Vw:Yk:={Y3 with main:={Y3.main with body:=aK 1::aK 2::aK 3::aK 4::aK 5::aK 7::aK 8::aK 9::aK 10::aK 11::aK 12::aK 14::aK 15::aK 16::aK 17::aK 18::aK 19::aK 20::aK 21::aK 22::aK 24::aK 26::aK 28::aK 29::aK 30::aK 31::aK 32::aK 33::aK 34::aK 35::aK 37::aK 38::aK 39::aK 40::aK 41::aK 42::aK 43::aK 44::aK 45::aK 46::aK 47::aK 48::aK 49::aK 50::aK 51::aK 52::aK 53::aK 54::aK 55::aK 56::aK 57::aK 58::aK 59::aK 60::[]}}
noncomputable abbrev vS(x:String)(n:Nat):Value:=a4R (Zg x) n
noncomputable abbrev vI(i:Int):Value:=a0o i 0
noncomputable abbrev vR(a:Addr):Value:=XO a
noncomputable abbrev vN:Value:=Zm
noncomputable abbrev cO(fs:Array Value):Obj:={cls:=Yd "code",data:=YR fs}
noncomputable abbrev kO(x y:String)(a b c:Nat)(l n i j k:Int)(r:Addr)(q:Int)(vs:Array Value)(t d:Int)(e:Nat):Obj:={cls:=Yd "code",data:=YR (#[vS x a,vS x b,vS y c,vI l,vI n,vI i,vI j,vI k,vR r,ZP b5,vI q]++vs++#[vI t,vI d,vS y e])}
noncomputable abbrev tO(fs:Array Value):Obj:={cls:=Yd "tuple",data:=a5K fs}
noncomputable abbrev fO(x:Str)(n:Nat)(m:Value)(c:Addr):Obj:=⟨Yd "function",aY,.func (ZN x x (i7 (aK n)) (fZ (aK n)) (cP (aK n)) Zm Zm Zm m aY (XO c) Zm),#[]⟩
noncomputable abbrev eO(P:ZG)(x:String)(n:Nat)(v:Value):DictEntry:={hash:=PyData.keyHash P (Zg x),key:=a4R (Zg x) n,val:=v}
noncomputable abbrev eR(P:ZG)(x:String)(n:Nat)(a:Addr):DictEntry:=eO P x n (vR a)
noncomputable abbrev kA(p:Addr×Obj)(R:Xy):Xy:=p::R
noncomputable def De:List String → Nat → List Value
 |[],_=>[]|x::xs,n=>vS x n::De xs (n+1)
noncomputable abbrev tN(xs:List String)(n:Nat):Obj:=tO (YJ (De xs n))
open PySem.W in
noncomputable def lA(P:ZG):List Obj:=((boot_o_0 P)::(boot_o_1 P)::(boot_o_2 P)::(boot_o_3 P)::(boot_o_4 P)::(boot_o_5 P)::(boot_o_6 P)::(boot_o_7 P)::(boot_o_8 P)::(boot_o_9 P)::(boot_o_10 P)::(tO #[])::({cls:=vN,data:=YR #[]})::(cO #[vS "<module>" 182,vS "<module>" 183,vS "/claim/cut.py" 184,vI 1,vI 0,vI 0,vI 0,vI 0,vR 11,ZP b4,vI 181,vR 12,vN,vN,vN,vN,vI 185,vI 1,vS "/claim/cut.py" 186])::({cls:=Yd "frame",slots:=#[aX (vR 13),aX (vR 3),aX (vR 3),aY,aX (vS "__main__" 164),aY,aX (vR 0)]})::[])
open PySem.W in
noncomputable def Df(P:ZG)(a:Nat)(c:String)(d:Nat)(b:Nat)(R:List Obj):List Obj:=(tO #[vR 24])::({cls:=Yd "builtin_function_or_method",data:=YR #[ZV "type.__prepare__",Yd "type"]})::({cls:=Yd "dict",data:=a1l #[eO P "__module__" a (vS "creasecourt.errors" 187),eO P "__qualname__" (a+2) (vS c (a+1)),eO P "__firstlineno__" (a+4) (a0o d (a+3)),eR P "__static_attributes__" (a+5) b] 4})::(tO #[])::({cls:=vN,data:=YR #[]})::(cO #[vS c (a-5),vS c (a-4),vS "/claim/cut.py" (a-3),vI d,vI 0,vI 0,vI 0,vI 0,vR (b-4),ZP b4,vI 181,vR (b-3),vN,vN,vN,vN,vI (a-2),vI d,vS "/claim/cut.py" (a-1)])::({cls:=Yd "frame",slots:=#[aX (vR (b-2)),aX (vR 3),aX (vR (b-5)),aY,aX (vS "creasecourt.errors" 187),aY,aX (vR 0)]})::(tO #[])::({cls:=Yd "dict",data:=a1l #[eO P "__module__" a (vS "creasecourt.errors" 187),eO P "__firstlineno__" (a+4) (a0o d (a+3)),eR P "__static_attributes__" (a+5) b,eO P "__doc__" (a+6) vN] 2})::({cls:=Yd "type",data:=a7r {name:=Zg c,bases:=[vR 24],mro:=[vR (b+2),vR 24,Yd "ValueError",Yd "Exception",Yd "BaseException",Yd "object"],ns:=(b+1),qualname:=Zg c},slots:=#[aX (vR (b-7)),aY,aX (vS c (a-7)),aX (vS c (a+1)),aX (ZV "ValueError.__new__"),aX (ZP b5)]})::({cls:=Yd "super",data:=YR #[vR (b+2),vR (b+2),vR (b+2)]})::({cls:=Yd "builtin_function_or_method",data:=YR #[ZV "object.__init_subclass__",vR (b+2)]})::R
open PySem.W in
noncomputable def Dg(P:ZG)(a:Nat)(c:String)(d:Nat)(b:Nat)(g:String)(e:Nat)(R:List Obj):List Obj:=(tO #[vR 24])::({cls:=Yd "builtin_function_or_method",data:=YR #[ZV "type.__prepare__",Yd "type"]})::({cls:=Yd "dict",data:=a1l #[eO P "__module__" a (vS "creasecourt.errors" 187),eO P "__qualname__" (a+2) (vS c (a+1)),eO P "__firstlineno__" (a+4) (a0o d (a+3)),eR P "__init__" (a+12) b,eR P "__static_attributes__" (a+14) (b+1)] 5})::(tO #[])::({cls:=vN,data:=YR #[vI (d+2),vI 4,vR (b-1)]})::(cO #[vS c (a-5),vS c (a-4),vS "/claim/cut.py" (a-3),vI d,vI 0,vI 0,vI 0,vI 0,vR (b-10),ZP b4,vI 181,vR (b-9),vN,vN,vN,vN,vI (a-2),vI d,vS "/claim/cut.py" (a-1)])::({cls:=Yd "frame",slots:=#[aX (vR (b-8)),aX (vR 3),aX (vR (b-11)),aY,aX (vS "creasecourt.errors" 187),aY,aX (vR 0)]})::(tO #[])::({cls:=vN,data:=YR #[]})::(tN ["self","edge"] (a+8))::(tO #[])::(⟨vN,aY,.func ({ZN "__init__" g (i7 (o7 e 0)) (fZ (o7 e 0)) (cP (o7 e 0)) vN vN vN vN (aY) vN vN with globals:=0}),#[]⟩)::(cO #[vS "__init__" (a+5),vS g (a+6),vS "/claim/cut.py" (a+7),vI (d+2),vI 2,vI 0,vI 0,vI 3,vR (b-6),ZP b5,vI 181,vR (b-5),vN,vR (b-4),vR (b-3),vR (b-2),vI (a+10),vI (d+2),vS "/claim/cut.py" (a+11)])::(⟨Yd "function",aY,.func (ZN "__init__" g (i7 (o7 e 0)) (fZ (o7 e 0)) (cP (o7 e 0)) vN vN vN (vS "creasecourt.errors" 187) (aY) (vR (b-1)) vN),#[]⟩)::(tN ["edge"] (a+13))::({cls:=Yd "dict",data:=a1l #[eO P "__module__" a (vS "creasecourt.errors" 187),eO P "__firstlineno__" (a+4) (a0o d (a+3)),eR P "__init__" (a+12) b,eR P "__static_attributes__" (a+14) (b+1),eO P "__doc__" (a+15) vN] 2})::({cls:=Yd "type",data:=a7r {name:=Zg c,bases:=[vR 24],mro:=[vR (b+3),vR 24,Yd "ValueError",Yd "Exception",Yd "BaseException",Yd "object"],ns:=(b+2),qualname:=Zg c},slots:=#[aX (vR (b-13)),aY,aX (vS c (a-7)),aX (vS c (a+1)),aX (ZV "ValueError.__new__"),aX (ZP b5)]})::({cls:=Yd "super",data:=YR #[vR (b+3),vR (b+3),vR (b+3)]})::({cls:=Yd "builtin_function_or_method",data:=YR #[ZV "object.__init_subclass__",vR (b+3)]})::R
open PySem.W in
noncomputable def cG(h:List String)(b:Nat)(c:String)(d:Nat)(e:Nat)(i:Nat)(a:Nat)(g:Nat)(j:String)(k:Nat)(R:List Obj):List Obj:=(tO #[])::({cls:=vN,data:=YR #[]})::(tN h b)::(tO #[])::(⟨vN,aY,.func ({ZN c c (i7 (aK d)) (fZ (aK d)) (cP (aK d)) vN vN vN vN (aY) vN vN with globals:=0}),#[]⟩)::(kO c "/claim/cut.py" (b-3) (b-2) (b-1) e i 0 0 3 a 181 #[vR (a+1),vN,vR (a+2),vR (a+3),vR (a+4)] g e (g+1))::(fO c d (vS j k) (a+5))::R
open PySem.W in
noncomputable def jO(b:String)(c:Nat)(a:Nat)(e:Nat)(g:Nat)(d:Nat)(h:String)(i:Nat)(R:List Obj):List Obj:=(tO #[])::({cls:=vN,data:=YR #[]})::(⟨vN,aY,.func ({ZN b b (i7 (aK c)) (fZ (aK c)) (cP (aK c)) vN vN vN vN (aY) vN vN with globals:=0}),#[]⟩)::(kO b "/claim/cut.py" a (a+1) (a+2) e g 0 0 3 d 181 #[vR (d+1),vN,vN,vN,vR (d+2)] (a+3) e (a+4))::(fO b c (vS h i) (d+3))::R
open PySem.W in
noncomputable def lN(P:ZG):List DictEntry:=[eO P "__doc__" 166 vN,eO P "__package__" 167 vN,eO P "__loader__" 168 (ZV "__main__.__loader__#opaque"),eO P "__spec__" 169 vN,eR P "__annotations__" 170 6,eR P "__builtins__" 171 4,eO P "__file__" 173 (vS "/claim/cut.py" 172),eO P "__cached__" 174 vN,eR P "CreaseError" 206 24,eR P "NoSize" 222 37,eR P "NoMark" 238 49,eR P "NoEdge" 263 68,eR P "Twice" 288 87,eR P "is_whole" 297 96,eR P "is_place" 304 103,eR P "is_edge" 311 110,eR P "is_quarter" 318 117,eR P "beside" 327 124,eR P "sides_of" 333 129,eR P "MARKS" 339 130,eR P "is_size" 346 137,eR P "check_size" 354 144,eR P "is_mark" 361 151,eR P "is_within" 370 158,eR P "places_within" 376 163,eR P "edges_in" 382 168,eR P "is_inner_edge" 391 175,eR P "sheet_of" 403 182,eR P "led" 415 189,eR P "edges_laid" 427 196,eR P "heights_in" 440 203,eR P "quarters_at" 446 208,eR P "joined_at" 452 213,eR P "count_between" 458 218,eR P "is_above" 467 225,eR P "crosses" 478 232,eR P "crossing_at" 484 237,eR P "crossing" 497 244,eR P "_law_given" 508 251,eR P "_law_number" 517 258,eR P "_law_quarters" 528 265,eR P "_law_rims" 539 272,eR P "_law_beside" 548 279,eR P "_law_value" 558 286,eR P "_law_mirror" 567 293,eR P "_law_led" 583 300,eR P "_law_then" 604 307,eR P "_law_fold" 610 312,eR P "_law_grown" 630 319,eR P "_law_creased" 643 326,eR P "_law_kind" 652 333,eR P "_law_ways" 672 340,eR P "_law_lines" 678 345,eR P "_law_grid" 697 352,eR P "_law_drawn" 707 359,eR P "_law_in_turn" 718 366,eR P "_law_stirred" 724 371,eR P "_law_spelled" 735 378,eR P "_law_cross" 741 383,eR P "_law_first" 759 390,eR P "_law_same" 767 397,eR P "law" 787 404]
noncomputable def lM:gq:=List.flatMap (λp:Nat×Nat=>[vI p.1,vI 0,vR p.2]) [(2,20),(4,33),(6,45),(8,57),(13,76),(19,95),(21,102),(23,109),(27,116),(31,123),(35,128),(39,136),(41,143),(44,150),(46,157),(48,162),(53,167),(55,174),(57,181),(71,188),(76,195),(82,202),(88,207),(90,212),(92,217),(96,224),(98,231),(105,236),(113,243),(120,250),(125,257),(128,264),(135,271),(142,278),(149,285),(152,292),(155,299),(159,306),(164,311),(185,318),(199,325),(206,332),(211,339),(232,344),(234,351),(248,358),(258,365),(268,370),(280,377),(288,382),(295,389),(309,396),(313,403)]
open PySem.W in
noncomputable def lB(P:ZG):List Obj:=(((lA P).set 3 ({cls:=Yd "dict",data:=a1l (YJ (eO P "__name__" 165 (vS "creasecourt.errors" 187)::(lN P).take 13)) 14})).set 12 ({cls:=vN,data:=YR (YJ (lM.take 15))}))++((tO #[Yd "ValueError"])::(({cls:=Yd "builtin_function_or_method",data:=YR #[ZV "type.__prepare__",Yd "type"]})::(({cls:=Yd "dict",data:=a1l #[eO P "__module__" 196 (vS "creasecourt.errors" 187),eO P "__qualname__" 198 (vS "CreaseError" 197),eO P "__firstlineno__" 200 (a0o 2 199),eR P "__static_attributes__" 201 22] 4})::((tO #[])::(({cls:=vN,data:=YR #[]})::((cO #[vS "CreaseError" 191,vS "CreaseError" 192,vS "/claim/cut.py" 193,vI 2,vI 0,vI 0,vI 0,vI 0,vR 18,ZP b4,vI 181,vR 19,vN,vN,vN,vN,vI 194,vI 2,vS "/claim/cut.py" 195])::(({cls:=Yd "frame",slots:=#[aX (vR 20),aX (vR 3),aX (vR 17),aY,aX (vS "creasecourt.errors" 187),aY,aX (vR 0)]})::((tO #[])::(({cls:=Yd "dict",data:=a1l #[eO P "__module__" 196 (vS "creasecourt.errors" 187),eO P "__firstlineno__" 200 (a0o 2 199),eR P "__static_attributes__" 201 22,eR P "__weakref__" 203 25,eO P "__doc__" 204 vN] 3})::(({cls:=Yd "type",data:=a7r {name:=Zg "CreaseError",bases:=[Yd "ValueError"],mro:=[vR 24,Yd "ValueError",Yd "Exception",Yd "BaseException",Yd "object"],ns:=23,qualname:=Zg "CreaseError",subclasses:=[vR 37,vR 49,vR 68,vR 87]},slots:=#[aX (vR 15),aY,aX (vS "CreaseError" 189),aX (vS "CreaseError" 197),aX (ZV "ValueError.__new__"),aX (ZP b5)]})::(({cls:=Yd "getset_descriptor",data:=YR #[vS "__weakref__" 202,vR 24,ZV "ExceptionGroup.__weakref__",vN]})::(({cls:=Yd "super",data:=YR #[vR 24,vR 24,vR 24]})::(({cls:=Yd "builtin_function_or_method",data:=YR #[ZV "object.__init_subclass__",vR 24]})::(Df P 214 "NoSize" 4 35 (Df P 230 "NoMark" 6 47 (Dg P 246 "NoEdge" 8 65 "NoEdge.__init__" 4 (Dg P 271 "Twice" 13 84 "Twice.__init__" 5 [])))))))))))))))))
open PySem.W in
noncomputable def lC(P:ZG):List Obj:=(((lB P).set 3 ({cls:=Yd "dict",data:=a1l (YJ (eO P "__name__" 165 (vS "law_creasecourt_k62_what_crosses" 498)::(lN P).take 39)) 40})).set 12 ({cls:=vN,data:=YR (YJ (lM.take 90))}))++(cG ["value"] 294 "is_whole" 7 19 1 90 295 "creasecourt.places" 289 (cG ["value"] 301 "is_place" 8 21 1 97 302 "creasecourt.places" 289 (cG ["place"] 308 "is_edge" 9 23 1 104 309 "creasecourt.places" 289 (cG ["place"] 315 "is_quarter" 10 27 1 111 316 "creasecourt.places" 289 (cG ["place","x","y"] 322 "beside" 11 31 1 118 325 "creasecourt.places" 289 (jO "sides_of" 12 328 35 1 125 "creasecourt.places" 289 ((tN ["h","v","o"] 336)::(cG ["value"] 343 "is_size" 15 39 1 131 344 "creasecourt.sheets" 334 (cG ["wide","high"] 350 "check_size" 16 41 2 138 352 "creasecourt.sheets" 334 (cG ["value"] 358 "is_mark" 17 44 1 145 359 "creasecourt.sheets" 334 (cG ["wide","high","place"] 365 "is_within" 18 46 3 152 368 "creasecourt.sheets" 334 (jO "places_within" 19 371 48 2 159 "creasecourt.sheets" 334 (jO "edges_in" 20 377 53 2 164 "creasecourt.sheets" 334 (cG ["wide","high","value"] 386 "is_inner_edge" 21 55 3 169 389 "creasecourt.sheets" 334 (cG ["wide","high","creases","marks","crease","edge"] 395 "sheet_of" 22 57 3 176 401 "creasecourt.sheets" 334 (cG ["laying","place","x","y"] 409 "led" 24 71 2 183 413 "creasecourt.layings" 404 (cG ["sheet","layings","told","edge"] 421 "edges_laid" 26 76 2 190 425 "creasecourt.laid" 416 (cG ["piles","heights","pile","height","quarter"] 433 "heights_in" 28 82 1 197 438 "creasecourt.piles" 428 (jO "quarters_at" 29 441 88 3 204 "creasecourt.piles" 428 (jO "joined_at" 30 447 90 3 209 "creasecourt.piles" 428 (jO "count_between" 31 453 92 3 214 "creasecourt.piles" 428 (cG ["heights","one","other"] 462 "is_above" 32 96 3 219 465 "creasecourt.piles" 428 (cG ["heights","one","other","ours","theirs"] 471 "crosses" 33 98 3 226 476 "creasecourt.piles" 428 (jO "crossing_at" 34 479 105 4 233 "creasecourt.piles" 428 (cG ["sheet","layings","piles","heights","pairs","place","edges"] 488 "crossing" 35 113 3 238 495 "creasecourt.piles" 428 (cG ["_law_script","_law_k","_law_more"] 503 "_law_given" 37 120 2 245 506 "law_creasecourt_k62_what_crosses" 498 []))))))))))))))))))))))))))
open PySem.W in
noncomputable def lD(P:ZG):List Obj:=(((lC P).set 3 ({cls:=Yd "dict",data:=a1l (YJ (eO P "__name__" 165 (vS "law_creasecourt_k62_what_crosses" 498)::(lN P).take 62)) 63})).set 12 ({cls:=vN,data:=YR (YJ (lM.take 159))}))++(cG ["_law_script","_law_k","_law_cell"] 512 "_law_number" 38 125 2 252 515 "law_creasecourt_k62_what_crosses" 498 (cG ["_law_wide","_law_high","_law_found","_law_x","_law_y"] 521 "_law_quarters" 39 128 2 259 526 "law_creasecourt_k62_what_crosses" 498 (cG ["_law_wide","_law_high","_law_found","_law_x","_law_y"] 532 "_law_rims" 40 135 2 266 537 "law_creasecourt_k62_what_crosses" 498 (cG ["_law_rim","_law_x","_law_y"] 543 "_law_beside" 41 142 1 273 546 "law_creasecourt_k62_what_crosses" 498 (cG ["_law_place","_law_kind_here","_law_x","_law_y"] 552 "_law_value" 42 149 2 280 556 "law_creasecourt_k62_what_crosses" 498 (cG ["_law_kind_here","_law_n","_law_some"] 562 "_law_mirror" 43 152 2 287 565 "law_creasecourt_k62_what_crosses" 498 (cG ["_law_way","_law_place","_law_a","_law_b","_law_c","_law_d","_law_e","_law_f","_law_x","_law_y"] 571 "_law_led" 44 155 2 294 581 "law_creasecourt_k62_what_crosses" 498 (cG ["_law_one","_law_other","_law_a","_law_b","_law_c","_law_d","_law_e","_law_f","_law_p","_law_q","_law_r","_law_s","_law_t","_law_u","_law_turn"] 587 "_law_then" 45 159 2 301 602 "law_creasecourt_k62_what_crosses" 498 (jO "_law_fold" 46 605 164 6 308 "law_creasecourt_k62_what_crosses" 498 (cG ["_law_script","_law_wide","_law_high","_law_first_here","_law_many","_law_ways_here","_law_heaps","_law_quarter","_law_k","_law_number_here","_law_kind_here","_law_places","_law_value_here","_law_way"] 614 "_law_grown" 47 185 5 313 628 "law_creasecourt_k62_what_crosses" 498 (cG ["_law_ways_here","_law_wide","_law_high","_law_found","_law_rim","_law_one","_law_other"] 634 "_law_creased" 48 199 3 320 641 "law_creasecourt_k62_what_crosses" 498 (cG ["_law_rim","_law_x","_law_y"] 647 "_law_kind" 49 206 1 327 650 "law_creasecourt_k62_what_crosses" 498 (cG ["_law_wide","_law_high","_law_creased_here","_law_near","_law_quarter","_law_rim","_law_one","_law_other","_law_first_here","_law_ways_here","_law_row","_law_here","_law_there","_law_kind_here"] 656 "_law_ways" 50 211 3 334 670 "law_creasecourt_k62_what_crosses" 498 (jO "_law_lines" 51 673 232 3 341 "law_creasecourt_k62_what_crosses" 498 (cG ["_law_script","_law_wide","_law_high","_law_rights","_law_ups","_law_found","_law_rim","_law_x","_law_y","_law_ways_here","_law_heaps","_law_quarter","_law_place"] 682 "_law_grid" 52 234 3 346 695 "law_creasecourt_k62_what_crosses" 498 (cG ["_law_script","_law_head","_law_wide","_law_high"] 701 "_law_drawn" 53 248 2 353 705 "law_creasecourt_k62_what_crosses" 498 (cG ["_law_some","_law_number_here","_law_keys","_law_made","_law_key"] 711 "_law_in_turn" 54 258 2 360 716 "law_creasecourt_k62_what_crosses" 498 (jO "_law_stirred" 55 719 268 3 367 "law_creasecourt_k62_what_crosses" 498 (cG ["_law_pile","_law_ones","_law_others","_law_word","_law_quarter"] 728 "_law_spelled" 56 280 3 372 733 "law_creasecourt_k62_what_crosses" 498 (jO "_law_cross" 57 736 288 5 379 "law_creasecourt_k62_what_crosses" 498 (cG ["_law_ways_here","_law_heaps","_law_wide","_law_high","_law_creased_here","_law_lots","_law_rim","_law_spot","_law_found","_law_some","_law_k","_law_other"] 745 "_law_first" 58 295 4 384 757 "law_creasecourt_k62_what_crosses" 498 (cG ["_law_found","_law_due"] 763 "_law_same" 59 309 2 391 765 "law_creasecourt_k62_what_crosses" 498 (cG ["_law_script","_law_head","_law_wide","_law_high","_law_ways_here","_law_heaps","_law_marks","_law_rim","_law_sheet","_law_later","_law_folded","_law_made","_law_due","_law_handed"] 771 "law" 60 313 1 398 785 "law_creasecourt_k62_what_crosses" 498 [])))))))))))))))))))))))
noncomputable def As:List Addr:=[3,95,96,102,103,109,110,116,117,123,124,128,129,130,136,137,143,144,150,151,157,158,162,163,167,168,174,175,181,182,188,189,195,196,202,203,207,208,212,213,217,218,224,225,231,232,236,237,243,244,250,251,257,258,264,265,271,272,278,279,285,286,292,293,299,300,306,307,311,312,318,319,325,326,332,333,339,340,344,345,351,352,358,359,365,366,370,371,377,378,382,383,389,390,396,397,403,404]
noncomputable def Kx:ZG → Xy:=λP=>As.map λa=>(a,((lD P)[a]?).getD (tO #[]))
theorem rK:∀P,As=(Kx P).map (·.1):=λ_=>by kernel_rfl
noncomputable def vE:a3h:={scope:=Y3.main.scope,locals:=mainNs,globals:=mainNs,cells:=[],code:=XO 13,frame:=aX 14}
open PySem.W PyProof.Rows in
set_option maxRecDepth 100000 in
set_option maxHeartbeats 0 in
theorem LZ(w:Yz)(a:a2n):topGo Z8 (YX XF).prog w 11 (aX (XO 6)) 12 ⟨a1v w.params,YJ [],Y9,a4G,a⟩ (topStub (YX XF).prog)=aX (⟨⟨YJ (lA w.params),{}⟩,YJ [],Y9,187,a⟩,⟨denote Z8 (.body (Yj (YX XF).prog) vE),(.body (Yj (YX XF).prog) vE),⟨0,0,0,0⟩,[a1z ⟨0,0,0,0⟩]⟩):=by kernel_rfl
open PySem.W PyProof.Rows in
set_option maxRecDepth 100000 in
set_option maxHeartbeats 0 in
theorem L0(w:Yz)(a:a2n):a4F Z8 (YX XF).prog w 11 (aX (XO 6)) 1 1 ⟨⟨YJ (lA w.params),{}⟩,YJ [],Y9,187,a⟩ (blockOf (Yj (YX XF).prog) vE (.body (Yj (YX XF).prog) vE) ⟨0,0,0,0⟩ [a1z ⟨0,0,0,0⟩])=aX (.next,⟨⟨YJ (lA w.params),{}⟩,YJ [],Y9,187,a⟩,(.body (Yj (YX XF).prog) vE),⟨0,0,0,0⟩):=by kernel_rfl
open PySem.W PyProof.Rows in
set_option maxRecDepth 100000 in
set_option maxHeartbeats 0 in
theorem L4(w:Yz)(a:a2n):a4F Z8 (YX XF).prog w 11 (aX (XO 6)) 1 1112 ⟨⟨YJ (lA w.params),{}⟩,YJ [],Y9,187,a⟩ (a4i ((Yj (YX XF).prog).take 6) vE (.body (Yj (YX XF).prog) vE) ⟨0,0,0,0⟩ [a1z ⟨0,0,0,0⟩])=aX (.next,⟨⟨YJ (lB w.params),{}⟩,YJ [],Y9,289,a⟩,(.body (Yj (YX XF).prog) vE),⟨13,0,17,24⟩):=by kernel_rfl
open PySem.W PyProof.Rows in
set_option maxRecDepth 100000 in
set_option maxHeartbeats 0 in
theorem L5(w:Yz)(a:a2n):a4F Z8 (YX XF).prog w 11 (aX (XO 6)) 1 808 ⟨⟨YJ (lB w.params),{}⟩,YJ [],Y9,289,a⟩ (a4i (((Yj (YX XF).prog).drop 6).take 32) vE (.body (Yj (YX XF).prog) vE) ⟨13,0,17,24⟩ [a1z ⟨0,0,0,0⟩])=aX (.next,⟨⟨YJ (lC w.params),{}⟩,YJ [],Y9,509,a⟩,(.body (Yj (YX XF).prog) vE),⟨120,0,124,112⟩):=by kernel_rfl
open PySem.W PyProof.Rows in
set_option maxRecDepth 100000 in
set_option maxHeartbeats 0 in
theorem L6(w:Yz)(a:a2n):a4F Z8 (YX XF).prog w 11 (aX (XO 6)) 1 778 ⟨⟨YJ (lC w.params),{}⟩,YJ [],Y9,509,a⟩ (a4i ((((Yj (YX XF).prog).drop 6).drop 32).take 23) vE (.body (Yj (YX XF).prog) vE) ⟨120,0,124,112⟩ [a1z ⟨0,0,0,0⟩])=aX (.next,⟨⟨YJ (lD w.params),{}⟩,YJ [],Y9,788,a⟩,(.body (Yj (YX XF).prog) vE),⟨313,0,331,79⟩):=by kernel_rfl
open PySem.W PyProof.Rows in
set_option maxRecDepth 100000 in
set_option maxHeartbeats 0 in
theorem run:LeftO (YX XF).prog Vw [] (λs=>xlAt Vw [] s&&recOk (a7K (a6x (YX XF))) s) (Hook.obs (a8Q Kx As rK)) (Hook.val (a8Q Kx As rK)) 5516:=
 L3.left_cut (hA:=λP=>⟨YJ (lA P),{}⟩) (hB:=λP=>⟨YJ (lB P),{}⟩) (hC:=λP=>⟨YJ (lC P),{}⟩) (hD:=λP=>⟨YJ (lD P),{}⟩) (n4:=201) (i1:=6) (i2:=32) (i3:=23) (env:=vE) (boot_open (by kernel_rfl) (by kernel_rfl) (λ_=>by kernel_rfl)) (λw=>by kernel_rfl) LZ L0 L4 L5 L6 (λw a=>by kernel_rfl) (by kernel_rfl)
end Lw
set_option maxHeartbeats 4000000
namespace L3
open PySem
open PySem.SetTable (Probe Met Slot bits runEnd leap turns insertAt sizeAbove)
namespace Tb
noncomputable def rL(m:Nat)(p:Probe):Probe:=
 if p.more>0 then{p with j:=p.j+1,more:=p.more-1}else
 {p with j:=(leap m p.i p.perturb).1,more:=runEnd m (leap m p.i p.perturb).1-(leap m p.i p.perturb).1,i:=(leap m p.i p.perturb).1,perturb:=(leap m p.i p.perturb).2}
noncomputable def L7(m:Nat)(b:Nat):Probe:={j:=b%(m+1),more:=runEnd m (b%(m+1))-b%(m+1),i:=b%(m+1),perturb:=b,dummy:=aY}
noncomputable def jP(m b:Nat):Nat->Probe
 |0=>L7 m b|k+1=>rL m (jP m b k)
noncomputable def lp(m b:Nat):Nat->Nat×Nat
 |0=>(b%(m+1),b)|n+1=>leap m (lp m b n).1 (lp m b n).2
noncomputable def hd(m i q:Nat):Probe:={j:=i,more:=runEnd m i-i,i:=i,perturb:=q,dummy:=aY}
theorem rN{m b k i q:Nat}(h:jP m b k=hd m i q):∀r,r<=runEnd m i-i->jP m b (k+r)={j:=i+r,more:=runEnd m i-i-r,i:=i,perturb:=q,dummy:=aY}
 |0,_=>by rw[a8b,h];rfl
 |r+1,hr=>by have e:=rN h r (by lia);show rL m (jP m b (k+r))=_;rw[e];unfold rL;rw[if_pos (show runEnd m i-i-r>0 by lia)];show Probe.mk (i+r+1) (runEnd m i-i-r-1) i q aY=_;rw[Nat.add_assoc,Nat.sub_sub]
theorem L8{m b k i q:Nat}(h:jP m b k=hd m i q):jP m b (k+(runEnd m i-i)+1)=hd m (leap m i q).1 (leap m i q).2:=by have e:=rN h (runEnd m i-i) (XJ _);show rL m (jP m b (k+(runEnd m i-i)))=_;rw[e];unfold rL;rw[if_neg (show ¬ (runEnd m i-i-(runEnd m i-i)>0) by lia)];rfl
noncomputable def nx(m i:Nat):Nat:=(i*5+1)%(m+1)
noncomputable def Dh(m:Nat):Nat->Nat->Nat
 |0,i=>i|n+1,i=>Dh m n (nx m i)
noncomputable def nY(m:Nat):Nat->Nat->Nat->Nat
 |0,_,acc=>acc|f+1,i,acc=>nY m f (nx m i) (acc ||| (1 <<< i))
noncomputable def L9(m:Nat):Bool:=nY m (m+1) 0 0==2^(m+1)-1&&Dh m (m+1) 0==0
theorem Ma(m b:Nat):∀n,(lp m b n).1<=m
 |0=>a6M (a6y _ (a3I _))|n+1=>a6M (a6y _ (a3I _))
noncomputable def yH(m:Nat)(S:List Nat)(b j:Nat):Prop:=∃k,(jP m b k).j=j/\∀k',k'<k->(jP m b k').j∈S
noncomputable abbrev uC:=Nat×Int×Value
structure Ok(t:a7c)(R:List uC):Prop where
 place:t.place.toList=R.map (·.1)
 dum:t.dummies=#[]
 rise:(R.map (·.1)).Pairwise (·<·)
 le:∀r∈R,r.1<=t.mask
 cov:L9 t.mask=b5
 odd:t.mask%2=1
 room:R.length<=t.mask
 road:∀r∈R,yH t.mask (R.map (·.1)) (bits r.2.1) r.1
section
variable{t:a7c}{R:List uC}
theorem Ok.size(o:Ok t R):t.place.size=R.length:=by have:=congrArg YF o.place;simpa using this
theorem Ok.getD(o:Ok t R){i:Nat}(hi:i<R.length):t.place.getD i 0=(R[i]).1:=by
 have h:t.place.toList[i]?=(R.map (·.1))[i]?:=by rw[o.place]
 have a:i<t.place.size:=by rw[o.size];exact hi
 simp[hi,a]at h;simp[a2a,a,h]
end
noncomputable def lv(m:Nat)(a:Array (Option Nat)):List (Nat×Nat):=(YN (m+1)).filterMap λj=>(a.getD j aY).map (j,·)
theorem mem_lv{m:Nat}{c:Array (Option Nat)}{j i:Nat}:(j,i)∈lv m c↔j<=m/\c.getD j aY=aX i:=by
 unfold lv;rw[a2c];constructor
 ·rintro⟨a,l,e⟩;rw[XA]at e;obtain⟨b,d,g⟩:=e;cases g;exact⟨by simpa[a7n]using l,d⟩
 ·rintro⟨h,k⟩;exact⟨j,by simpa[a7n]using h,by rw[k];rfl⟩
structure Ow(m:Nat)(ds:List Int)(ow:Array (Option Nat)):Prop where
 size:ow.size=m+1
 lt:∀j i,ow.getD j aY=aX i->i<ds.length
 all:∀i,i<ds.length->∃j,ow.getD j aY=aX i
 inj:∀j j' i,ow.getD j aY=aX i->ow.getD j' aY=aX i->j=j'
 road:∀j i,ow.getD j aY=aX i->yH m ((lv m ow).map (·.1)) (bits (ds.getD i 0)) j
section
variable{m:Nat}{ds:List Int}{ow:Array (Option Nat)}
theorem Ow.taken(o:Ow m ds ow){j:Nat}(b:j<=m):j∈(lv m ow).map (·.1)↔(ow.getD j (aX 0)).isNone=false:=by
 have c:j<ow.size:=by rw[o.size];lia
 have e:ow.getD j (aX 0)=ow.getD j none:=by simp[a2a,c]
 rw[e];constructor
 ·intro q;obtain⟨⟨a,i⟩,d,rfl⟩:=XH.mp q;rw[(mem_lv.mp d).2];rfl
 ·intro q;cases z:ow.getD j aY with
  |none=>rw[z]at q;cases q|some i=>exact XH.mpr ⟨(j,i),mem_lv.mpr ⟨b,z⟩,rfl⟩
theorem Ow.free(o:Ow m ds ow){b:Nat}:∀(f n a:Nat),jP m b a=hd m (lp m b n).1 (lp m b n).2->(∀k',k'<a->(jP m b k').j∈(lv m ow).map (·.1))->(∃N,n<=N/\N<n+f/\(lp m b N).1∉(lv m ow).map (·.1))->
  ∃j,a3j m ow f (lp m b n).1 (lp m b n).2=aX j/\j<=m/\j∉(lv m ow).map (·.1)/\yH m ((lv m ow).map (·.1)) b j
 |0,n,a,_,_,⟨N,h1,h2,_⟩=>by lia
 |f+1,n,a,hk,ht,⟨N,h1,h2,hN⟩=>by
  have hi:=Ma m b n;have l:runEnd m (lp m b n).1<=m:=by unfold runEnd;split<;>lia
  have p:(lp m b n).1<=runEnd m (lp m b n).1:=by unfold runEnd;split<;>lia
  unfold a3j;cases z:(YN (runEnd m (lp m b n).1+1-(lp m b n).1)).find? λk=>(ow.getD ((lp m b n).1+k) (aX 0)).isNone with
  |some r=>
   rw[List.find?_range_eq_some]at z;obtain⟨h,s,u⟩:=z;rw[Zs]at s;refine⟨(lp m b n).1+r,rfl,by lia,λq=>?_,a+r,by rw[rN hk r (by lia)],λk' c=>?_⟩
   ·rw[o.taken (by lia)]at q;rw[q]at h;cases h
   ·rcases a5v k' a with y|y
    ·exact ht k' y
    ·obtain⟨d,rfl⟩:=a5g y;rw[rN hk d (by lia)];show(lp m b n).1+d∈_;rw[o.taken (by lia)];have:=u d (by lia);simpa using this
  |none=>
   rw[List.find?_range_eq_none]at z;have g:∀r,r<runEnd m (lp m b n).1+1-(lp m b n).1->(lp m b n).1+r∈(lv m ow).map (·.1):=λr i=>by rw[o.taken (by lia)];have:=z r i;simpa using this
   have ne:N≠n:=λe=>hN (by rw[e];exact g 0 (by lia));refine Ow.free o f (n+1) _ (L8 hk) (λk' c=>?_) ⟨N,by lia,by lia,hN⟩;rcases a5v k' a with y|y
   ·exact ht k' y
   ·obtain⟨d,rfl⟩:=a5g y;rw[rN hk d (by lia)];exact g d (by lia)
end
theorem Ow.nil(m:Nat):Ow m [] (a4a (m+1) aY):=by
 have e:∀j,(a4a (m+1) (aY:Option Nat)).getD j aY=none:=λj=>by simp[a2a]
 have a:∀{P:Prop}(j i:Nat),(a4a (m+1) (aY:Option Nat)).getD j aY=aX i->P:=λj i h=>by rw[e]at h;exact nomatch h
 exact⟨by simp,λj i h=>a j i h,λi h=>absurd h (a1P _),λj b i h _=>a j i h,λj i h=>a j i h⟩
end Tb
end L3
namespace L3
open PySem
open PySem.SetTable (Probe Met Slot bits runEnd leap turns insertAt sizeAbove)
namespace Tb
section
variable{prog:Yk}{w:Yz}{K:Type} [DecidableEq K] {knd:KeyKind prog w K}{A:Yt}{E:Value->XD->Prop}{s:XD}
theorem fits_of{t:a7c}{R:List uC}{es:Array (Int×Value)}(o:Ok t R)(c:es.toList=R.map (·.2)):t.fits es.size=true:=by
 have a:es.size=R.length:=by simpa using congrArg YF c
 have b:=o.room;unfold SetTable.fits SetTable.fill;rw[o.size,a,o.dum];simp;exact b
end
section
variable{prog:Yk}{w:Yz}{A:Yt}{E:Value->XD->Prop}{s:XD}
noncomputable abbrev El:=List Int×Addr
noncomputable def hashT(k:List Int):Int:=reduceHash (a8c (k.map hashInt))
noncomputable def Mb(p:El):Int×Value:=(hashT p.1,XO p.2)
noncomputable def Mc(m:Nat):Prop:=m=7\/m=31\/m=127\/m=511
noncomputable def Di(w:Yz):Bool:=w.params.followText "set-order"
noncomputable def Dk(a:Bool)(L:List El)(o:Obj):Prop:=∃es ep t R,o.ExactSet/\o.data=.set es ep t/\es.toList=R.map (·.2)/\Ok t R/\es.toList.Perm (L.map Mb)/\(L.map (·.1)).Nodup/\Mc t.mask/\L.length*5<t.mask*3/\t.plain=b5/\t.led=a
noncomputable def SObj(L:List El)(o:Obj):Prop:=∃a,Dk a L o
noncomputable def tY(prog:Yk)(w:Yz)(h:YZ)(a:Addr)(L:List El):Prop:=∃o,h.get? a=aX o/\Dk (!Di w) L o/\∀p∈L,IsTupleKey (ZZ prog w) h p.1 p.2
end
end Tb
end L3
namespace L3
open PySem
namespace Tb
theorem Dl{a:Type}:∀(l:List a)(i:Nat)(h:i<l.length),(l[i]::l.eraseIdx i).Perm l
 |x::l,0,_=>.refl _|x::l,i+1,h=>by
  have hi:i<l.length:=by simpa using h
  refine(List.Perm.swap _ _ _).trans ?_;exact(Dl l i hi).cons x
theorem uD{b:Type}(next:Nat->Nat):∀(f k:Nat)(left:List b)(out:Array b),f=left.length->(a4j next f k left out).toList.Perm (out.toList++left)
 |0,k,left,out,h=>by have:left=[]:=a0r.mp h.symm;subst this;unfold a4j;simp
 |f+1,k,left,out,h=>by
  unfold a4j;have a:next k%left.length<left.length:=a6y _ (by lia)
  rw[XM a];dsimp only;refine(uD next f (k+1) _ _ (by rw[List.length_eraseIdx_of_lt a];lia)).trans ?_;rw[a6f,YO];refine List.Perm.append_left _ ?_;exact Dl left _ a
section
variable{prog:Yk}{w:Yz}{A:Yt}{E:Value->XD->Prop}{s:XD}
structure SAt(w:Yz)(h:YZ)(a:Addr)(es:Array (Int×Value))(ep:Nat)(t:a7c)(R:List uC):Prop where
 at_:∃o,h.get? a=aX o/\o.cls=.type "set"/\o.data=.set es ep t
 he:es.toList=R.map (·.2)
 ok:Ok t R
 pl:t.plain=b5
 led:t.led=!Di w
end
end Tb
end L3
namespace L3
open PySem L2
inductive D where
 |non|bl (b:Bool)|int (i:Int)|str (x:Str)|tup (xs:List D)|rol (xs:List D)|loc (a:Nat)|ty (n:String)
 deriving Inhabited
inductive C where
 |lst (xs:List D)
 |dK (kvs:List (cF×D))
 |st (ks:List (List Int))
 |dT (kvs:List (List Int×D))
 |dF (kvs:List (List Int×D))
 deriving Inhabited
noncomputable abbrev Hm:=List C
noncomputable abbrev aF:=List (Option D)
noncomputable abbrev ME:=aF->Hm->Option (D×Hm)
noncomputable abbrev MT:=aF->Hm->Option (Bool×Hm)
noncomputable abbrev MA:=aF->Hm->Option (List D×Hm)
abbrev jk:=Option (D×Hm)
abbrev jx:=List (List Int×D)
abbrev jz:=D×Hm->Prop
inductive Fl where
 |nx|rt (d:D)|bk|ct
noncomputable abbrev MS:=aF->Hm->Option (Fl×aF×Hm)
noncomputable abbrev MF:=List D->Hm->jk
noncomputable def RoL(K:Xy)(H:Hp)(p:Addr)(xs:gw):Prop:=
 (∃o,H p=aX (.frz o (.lst xs))) \/
  ∃(o:Obj)(its:Array Value)(n:Nat),K.lookup p=aX o/\o.cls=.type "list"/\o.dict=aY/\o.data=.seq its n/\its.size<=XQ/\Vals xs its.toList
theorem RoL.sq{K:Xy}{H:Hp}{p:Addr}{xs:gw}(h:RoL K H p xs):SqL K H p xs:=by
 rcases h with⟨o,h⟩|h
 ·exact .inl (.inr ⟨o,h⟩)
 ·exact .inr h
mutual
inductive IsD (K:Xy)(π:Nat->Addr)(n:Nat)(H:Hp):V->D->Prop where
 |non:IsD K π n H .non .non
 |bl (b:Bool):IsD K π n H (.bl b) (.bl b)
 |int (i:Int):IsD K π n H (.int i) (.int i)
 |str (x:Str):IsD K π n H (.str x) (.str x)
 |tup {p:Addr}{vs:gw}{ds:List D}(h:SqT K H p vs)(t:IsDs K π n H vs ds):IsD K π n H (.ref p) (.tup ds)
 |rol {p:Addr}{vs:gw}{ds:List D}(h:RoL K H p vs)(t:IsDs K π n H vs ds):IsD K π n H (.ref p) (.rol ds)
 |loc {a:Nat}(h:a<n):IsD K π n H (.ref (π a)) (.loc a)
 |ty (x:String):IsD K π n H (.ty x) (.ty x)
inductive IsDs (K:Xy)(π:Nat->Addr)(n:Nat)(H:Hp):gw->List D->Prop where
 |nil:IsDs K π n H [] []
 |cons {v:V}{d:D}{vs:gw}{ds:List D}(h:IsD K π n H v d)(t:IsDs K π n H vs ds):IsDs K π n H (v::vs) (d::ds)
end
structure Ext(π:Nat->Addr)(n:Nat)(H:Hp)(π':Nat->Addr)(n':Nat)(H':Hp):Prop where
 le:n<=n'
 pi:∀a,a<n->π' a=π a
 tup:∀p vs,H p=aX (.tup vs)->H' p=aX (.tup vs)
 frz:∀p o u,H p=aX (.frz o u)->H' p=aX (.frz o u)
structure Ext0(π:Nat->Addr)(n:Nat)(H:Hp)(π':Nat->Addr)(n':Nat)(H':Hp):Prop where
 le:n<=n'
 pi:∀a,a<n->π' a=π a
 tup:∀p vs,H p=aX (.tup vs)->H' p=aX (.tup vs)
 frz:∀p o u,(∀φ,u≠HO.ext φ)->H p=aX (.frz o u)->H' p=aX (.frz o u)
section
variable{K:Xy}{π π' π2:Nat->Addr}{n n' n2:Nat}{H H' H2:Hp}
theorem Ext.weak(e:Ext π n H π' n' H'):Ext0 π n H π' n' H':=⟨e.le,e.pi,e.tup,λp o u _ h=>e.frz p o u h⟩
theorem Ext.refl:Ext π n H π n H:=⟨XJ _,λ_ _=>rfl,λ_ _ h=>h,λ_ _ _ h=>h⟩
theorem Ext.trans(a:Ext π n H π' n' H')(b:Ext π' n' H' π2 n2 H2):Ext π n H π2 n2 H2:=
 ⟨Ys a.le b.le,λi h=>(b.pi i (Yh h a.le)).trans (a.pi i h),λp c h=>b.tup p c (a.tup p c h),λp o u h=>b.frz p o u (a.frz p o u h)⟩
theorem Ext0.sqT(e:Ext0 π n H π' n' H'){p:Addr}{vs:gw}(h:SqT K H p vs):SqT K H' p vs:=by
 rcases h with h|h
 ·rcases h with h|⟨o,h⟩
  ·exact .inl (.inl (e.tup _ _ h))
  ·exact .inl (.inr ⟨o,e.frz _ _ _ (λ_ z=>nomatch z) h⟩)
 ·exact .inr h
theorem Ext.sqT(e:Ext π n H π' n' H'){p:Addr}{vs:gw}(h:SqT K H p vs):SqT K H' p vs:=e.weak.sqT h
theorem Ext0.roL(e:Ext0 π n H π' n' H'){p:Addr}{vs:gw}(h:RoL K H p vs):RoL K H' p vs:=by
 rcases h with⟨o,h⟩|h
 ·exact .inl ⟨o,e.frz _ _ _ (λ_ z=>nomatch z) h⟩
 ·exact .inr h
theorem Ext.roL(e:Ext π n H π' n' H'){p:Addr}{vs:gw}(h:RoL K H p vs):RoL K H' p vs:=e.weak.roL h
mutual
theorem IsD.mono0{v:V}{d:D}(e:Ext0 π n H π' n' H'):IsD K π n H v d->IsD K π' n' H' v d
 |.non=>.non|.bl b=>.bl b|.int i=>.int i|.str x=>.str x|.ty x=>.ty x|.tup h t=>.tup (e.sqT h) (IsDs.mono0 e t)|.rol h t=>.rol (e.roL h) (IsDs.mono0 e t)|.loc h=>by rw[<- e.pi _ h];exact .loc (Yh h e.le)
theorem IsDs.mono0{vs:gw}{ds:List D}(e:Ext0 π n H π' n' H'):IsDs K π n H vs ds->IsDs K π' n' H' vs ds
 |.nil=>.nil|.cons h t=>.cons (IsD.mono0 e h) (IsDs.mono0 e t)
end
theorem IsD.mono{v:V}{d:D}(e:Ext π n H π' n' H')(h:IsD K π n H v d):IsD K π' n' H' v d:=h.mono0 e.weak
theorem IsDs.mono{vs:gw}{ds:List D}(e:Ext π n H π' n' H')(h:IsDs K π n H vs ds):IsDs K π' n' H' vs ds:=h.mono0 e.weak
theorem IsDs.length{vs:gw}{ds:List D}(h:IsDs K π n H vs ds):vs.length=ds.length:=by
 induction ds generalizing vs with
 |nil=>cases h;rfl|cons d ds a=>
  cases h with
  |cons h t=>rw[Ym,Ym,a t]
theorem IsDs.get{vs:gw}{ds:List D}(h:IsDs K π n H vs ds){i:Nat}{d:D}(e:ds[i]?=aX d):∃v,vs[i]?=aX v/\IsD K π n H v d:=by
 induction ds generalizing vs i with
 |nil=>simp at e|cons g ds c=>
  cases h with
  |cons h t=>
   cases i with
   |zero=>simp at e;subst e;exact⟨_,rfl,h⟩|succ i=>obtain⟨v,a,b⟩:=c t (by simpa using e);exact⟨v,by simpa using a,b⟩
theorem IsDs.append{vs ws:gw}{ds es:List D}(h:IsDs K π n H vs ds)(a:IsDs K π n H ws es):IsDs K π n H (vs++ws) (ds++es):=by
 induction ds generalizing vs with
 |nil=>cases h;exact a|cons d ds b=>
  cases h with
  |cons h t=>exact .cons h (b t)
theorem IsDs.drop{vs:gw}{ds:List D}(h:IsDs K π n H vs ds)(k:Nat):IsDs K π n H (vs.drop k) (ds.drop k):=by
 induction ds generalizing vs k with
 |nil=>cases h;simpa using IsDs.nil|cons d ds a=>
  cases h with
  |cons h t=>
   cases k with
   |zero=>exact .cons h t|succ k=>exact a t k
theorem IsDs.take{vs:gw}{ds:List D}(h:IsDs K π n H vs ds)(k:Nat):IsDs K π n H (vs.take k) (ds.take k):=by
 induction ds generalizing vs k with
 |nil=>cases h;simpa using IsDs.nil|cons d ds a=>
  cases h with
  |cons h t=>
   cases k with
   |zero=>exact .nil|succ k=>exact .cons h (a t k)
theorem IsDs.atI{vs:gw}{ds:List D}(h:IsDs K π n H vs ds){i:Int}{d:D}(e:L2.atI ds i=aX d):∃v,L2.atI vs i=aX v/\IsD K π n H v d:=by
 unfold L2.atI at e ⊢;rw[h.length];cases q:iH ds.length i with
 |none=>rw[q]at e;cases e|some j=>rw[q]at e;exact h.get e
end
noncomputable def uE(p:Addr)(L:List Tb.El):HO:=.ext λh=>∃o,h.get? p=aX o/\Tb.SObj L o
noncomputable def uF(p:List Int×Addr×V)(w:Value):DictEntry:=⟨Tb.hashT p.1,.ref p.2.1,w⟩
noncomputable def aU(a:Addr)(ps:List (List Int×Addr×V)):HO:=.ext λh=>∃ws:gq,Vals (ps.map (·.2.2)) ws/\(a==YY)=b4/\ps.length<=XQ /\
 ∃o b c,h.get? a=aX o/\o.ExactDict/\o.data=.dict b c/\b.toList=a2F uF ps ws/\(ps.map (·.1)).Nodup
structure Rp(K:Xy)(π:Nat->Addr)(H:Hp)(μ:Hm):Prop where
 inj:∀a b,a<μ.length->b<μ.length->π a=π b->a=b
 has:∀a,a<μ.length->(H (π a)).isSome=b5
 lst:∀a xs,μ[a]?=aX (.lst xs)->∃vs,H (π a)=aX (.lst vs)/\IsDs K π μ.length H vs xs
 dK:∀a kvs,μ[a]?=aX (.dK kvs)->∃vs,H (π a)=aX (.dK vs)/\vs.map (·.1)=kvs.map (·.1)/\IsDs K π μ.length H (vs.map (·.2)) (kvs.map (·.2))
 st:∀a ks,μ[a]?=aX (.st ks)->∃L:List Tb.El,H (π a)=aX (uE (π a) L)/\L.map (·.1)=ks/\IsDs K π μ.length H (L.map λp=>V.ref p.2) (ks.map λk=>D.tup (k.map D.int))
 dT:∀a kvs,μ[a]?=aX (.dT kvs)->∃ps:List (List Int×Addr×V),H (π a)=aX (aU (π a) ps)/\ps.map (·.1)=kvs.map (·.1)/\IsDs K π μ.length H (ps.map λp=>V.ref p.2.1) (kvs.map λk=>D.tup (k.1.map D.int))/\IsDs K π μ.length H (ps.map (·.2.2)) (kvs.map (·.2))
 dF:∀a kvs,μ[a]?=aX (.dF kvs)->∃(ob:Obj)(ps:List (List Int×Addr×V)),H (π a)=aX (.frz ob (aU (π a) ps))/\ps.map (·.1)=kvs.map (·.1)/\IsDs K π μ.length H (ps.map λp=>V.ref p.2.1) (kvs.map λk=>D.tup (k.1.map D.int))/\IsDs K π μ.length H (ps.map (·.2.2)) (kvs.map (·.2))
structure En(K:Xy)(π:Nat->Addr)(n:Nat)(H:Hp)(σ:St)(ρ:aF):Prop where
 len:σ.length=ρ.length
 get:∀(i:Nat)(d:D),ρ[i]?=aX (aX d)->∃v,σ[i]?=aX (aX v)/\IsD K π n H v d
section
variable{K:Xy}{π π' π2:Nat->Addr}{n n' n2:Nat}{H H' H2:Hp}{μ μ':Hm}{σ:St}{ρ:aF}
theorem En.mono(E:En K π n H σ ρ)(e:Ext π n H π' n' H'):En K π' n' H' σ ρ:=
 ⟨E.len,λi d h=>let⟨v,a,b⟩:=E.get i d h;⟨v,a,b.mono e⟩⟩
theorem En.set(E:En K π n H σ ρ){v:V}{d:D}(h:IsD K π n H v d)(i:Nat):En K π n H (σ.set i (aX v)) (ρ.set i (aX d)):=by
 refine⟨by rw[YL,YL];exact E.len,λj c e=>?_⟩;rw[List.getElem?_set]at e ⊢;by_cases a:i=j
 ·subst a;rw[if_pos rfl]at e ⊢;rw[E.len];by_cases b:i<ρ.length
  ·rw[if_pos b]at e ⊢;cases e;exact⟨v,rfl,h⟩
  ·rw[if_neg b]at e;cases e
 ·rw[if_neg a]at e ⊢;exact E.get j c e
theorem Rp.ne{p:Addr}(R:Rp K π H μ)(h:H p=aY){a:Nat}(b:a<μ.length):π a≠p:=λe=>by have:=R.has a b;rw[e,h]at this;cases this
theorem Rp.fresh{p:Addr}{o:HO}(R:Rp K π H μ)(h:H p=aY):Ext π μ.length H π μ.length (aP H p o)/\Rp K π (aP H p o) μ:=by
 have c:∀b u,H b=aX u->aP H p o b=aX u:=λb u e=>by rw[bM (iW e h)];exact e
 have e:Ext π μ.length H π μ.length (aP H p o):=⟨XJ _,λ_ _=>rfl,λq i e=>c q _ e,λq o u e=>c q _ e⟩;refine⟨e,R.inj,λa d=>?_,λa v d=>?_,λa g d=>?_,λa r d=>?_
  ,λa g d=>?_
  ,λa g d=>?_
  ⟩
 ·rw[bM (R.ne h d)];exact R.has a d
 ·obtain⟨i,j,k⟩:=R.lst a v d;exact⟨i,c _ _ j,k.mono e⟩
 ·obtain⟨i,j,k,l⟩:=R.dK a g d;exact⟨i,c _ _ j,k,l.mono e⟩
 ·obtain⟨i,j,k,l⟩:=R.st a r d;exact⟨i,c _ _ j,k,l.mono e⟩
 ·obtain⟨i,j,k,l,m⟩:=R.dT a g d;exact⟨i,c _ _ j,k,l.mono e,m.mono e⟩
 ·obtain⟨s,i,j,k,l,m⟩:=R.dF a g d;exact⟨s,i,c _ _ j,k,l.mono e,m.mono e⟩
noncomputable def rO(K:Xy)(π:Nat->Addr)(n:Nat)(H:Hp)(p:Addr):C->HO->Prop
 |.lst xs,.lst vs=>IsDs K π n H vs xs|.dK kvs,.dK vs=>vs.map (·.1)=kvs.map (·.1)/\IsDs K π n H (vs.map (·.2)) (kvs.map (·.2))|.st ks,o=>∃L:List Tb.El,o=uE p L/\L.map (·.1)=ks/\IsDs K π n H (L.map λp=>V.ref p.2) (ks.map λk=>D.tup (k.map D.int))|.dT kvs,o=>∃ps:List (List Int×Addr×V),o=aU p ps/\ps.map (·.1)=kvs.map (·.1)/\IsDs K π n H (ps.map λp=>V.ref p.2.1) (kvs.map λk=>D.tup (k.1.map D.int))/\IsDs K π n H (ps.map (·.2.2)) (kvs.map (·.2))|.dF kvs,o=>∃(a:Obj)(ps:List (List Int×Addr×V)),o=.frz a (aU p ps)/\ps.map (·.1)=kvs.map (·.1)/\IsDs K π n H (ps.map λp=>V.ref p.2.1) (kvs.map λk=>D.tup (k.1.map D.int))/\IsDs K π n H (ps.map (·.2.2)) (kvs.map (·.2))|_,_=>False
noncomputable def i8(π:Nat->Addr)(n:Nat)(p:Addr):Nat->Addr:=λa=>if a=n then p else π a
theorem Rp.alloc{p:Addr}{c:C}{o:HO}(R:Rp K π H μ)(h:H p=aY)(hc:rO K π μ.length H p c o) :
  Ext π μ.length H (i8 π μ.length p) (μ++[c]).length (aP H p o)/\Rp K (i8 π μ.length p) (aP H p o) (μ++[c])/\i8 π μ.length p μ.length=p:=by
 have B:(μ++[c]).length=μ.length+1:=by simp
 have g:∀b u,H b=aX u->aP H p o b=aX u:=λb u e=>by rw[bM (iW e h)];exact e
 have x:i8 π μ.length p μ.length=p:=if_pos rfl;have v:∀a,a<μ.length->i8 π μ.length p a=π a:=λa d=>if_neg (XU d);have e:Ext π μ.length H (i8 π μ.length p) (μ++[c]).length (aP H p o):=⟨by rw[B];exact a3a _,v,λq m e=>g q _ e,λq o u e=>g q _ e⟩;have split:∀a,a<(μ++[c]).length->a<μ.length\/a=μ.length:=λa d=>by rw[B]at d;lia
 have get:∀a,a<μ.length->(μ++[c])[a]?=μ[a]?:=λa d=>YC d;have j:(μ++[c])[μ.length]?=aX c:=by simp
 refine⟨e,⟨λa b d z q=>?_,λa d=>?_,λa G d=>?_,λa s d=>?_,λa E d=>?_
  ,λa s d=>?_
  ,λa s d=>?_
  ⟩,x⟩
 ·rcases split a d with d|rfl<;>rcases split b z with z|rfl
  ·rw[v a d,v b z]at q;exact R.inj a b d z q
  ·rw[v a d,x]at q;exact absurd q (R.ne h d)
  ·rw[x,v b z]at q;exact absurd q.symm (R.ne h z)
  ·rfl
 ·rcases split a d with d|rfl
  ·rw[v a d,bM (R.ne h d)];exact R.has a d
  ·rw[x,cX];rfl
 ·have i:a<(μ++[c]).length:=(Xz.mp d).1;rcases split a i with l|rfl
  ·rw[get a l]at d;obtain⟨m,w,k⟩:=R.lst a G d;rw[v a l];exact⟨m,g _ _ w,k.mono e⟩
  ·rw[j]at d;cases d;cases o with
   |lst m=>rw[x];exact⟨m,cX,IsDs.mono e hc⟩|_=>exact Z0 hc
 ·have i:a<(μ++[c]).length:=(Xz.mp d).1;rcases split a i with l|rfl
  ·rw[get a l]at d;obtain⟨m,w,k,r⟩:=R.dK a s d;rw[v a l];exact⟨m,g _ _ w,k,r.mono e⟩
  ·rw[j]at d;cases d;cases o with
   |dK m=>rw[x];exact⟨m,cX,hc.1,IsDs.mono e hc.2⟩|_=>exact Z0 hc
 ·have i:a<(μ++[c]).length:=(Xz.mp d).1;rcases split a i with l|rfl
  ·rw[get a l]at d;obtain⟨m,w,k,r⟩:=R.st a E d;rw[v a l];exact⟨m,g _ _ w,k,r.mono e⟩
  ·rw[j]at d;cases d;obtain⟨L,rfl,k,r⟩:=hc;rw[x];exact⟨L,cX,k,r.mono e⟩
 ·have i:a<(μ++[c]).length:=(Xz.mp d).1;rcases split a i with l|rfl
  ·rw[get a l]at d;obtain⟨m,w,k,r,y⟩:=R.dT a s d;rw[v a l];exact⟨m,g _ _ w,k,r.mono e,y.mono e⟩
  ·rw[j]at d;cases d;obtain⟨L,rfl,k,r,y⟩:=hc;rw[x];exact⟨L,cX,k,r.mono e,y.mono e⟩
 ·have i:a<(μ++[c]).length:=(Xz.mp d).1;rcases split a i with l|rfl
  ·rw[get a l]at d;obtain⟨A,m,w,k,r,y⟩:=R.dF a s d;rw[v a l];exact⟨A,m,g _ _ w,k,r.mono e,y.mono e⟩
  ·rw[j]at d;cases d;obtain⟨A,L,rfl,k,r,y⟩:=hc;rw[x];exact⟨A,L,cX,k,r.mono e,y.mono e⟩
theorem Rp.putU{a:Nat}{c:C}{o u:HO}(R:Rp K π H μ)(E:a<μ.length)(y:H (π a)=aX u)(A:(∀vs,u≠.tup vs)/\∀s v,(∀J,v≠HO.ext J)->u≠.frz s v)(hc:rO K π μ.length H (π a) c o) :
  Ext0 π μ.length H π (μ.set a c).length (aP H (π a) o)/\Rp K π (aP H (π a) o) (μ.set a c):=by
 have m:(μ.set a c).length=μ.length:=YL ..;have e:Ext0 π μ.length H π (μ.set a c).length (aP H (π a) o):=by
  refine⟨a1W m.symm,λ_ _=>rfl,λq vs z=>?_,λq M N nx z=>?_⟩
  ·rw[bM]
   ·exact z
   ·intro e;subst e;rw[y]at z;exact A.1 _ (XZ z)
  ·rw[bM]
   ·exact z
   ·intro e;subst e;rw[y]at z;exact A.2 _ _ nx (XZ z)
 have i:∀b,b<μ.length->b≠a->aP H (π a) o (π b)=H (π b):=λb d x=>bM λq=>x (R.inj b a d E q);refine⟨e,⟨λb B d w=>R.inj b B (m▸d) (m▸w),λb d=>?_,λb I d=>?_,λb l d=>?_,λb G d=>?_
  ,λb l d=>?_
  ,λb l d=>?_
  ⟩⟩
 ·by_cases h:b=a
  ·subst h;rw[cX];rfl
  ·rw[i b (m▸d) h];exact R.has b (m▸d)
 ·have g:b<μ.length:=m▸(Xz.mp d).1;by_cases h:b=a
  ·subst h;rw[YA g]at d;cases d;cases o with
   |lst vs=>exact⟨vs,cX,IsDs.mono0 e hc⟩|_=>exact Z0 hc
  ·rw[XB (Yn h)]at d;obtain⟨vs,p,j⟩:=R.lst b I d;exact⟨vs,by rw[i b g h];exact p,j.mono0 e⟩
 ·have g:b<μ.length:=m▸(Xz.mp d).1;by_cases h:b=a
  ·subst h;rw[YA g]at d;cases d;cases o with
   |dK vs=>exact⟨vs,cX,hc.1,IsDs.mono0 e hc.2⟩|_=>exact Z0 hc
  ·rw[XB (Yn h)]at d;obtain⟨vs,p,j,k⟩:=R.dK b l d;exact⟨vs,by rw[i b g h];exact p,j,k.mono0 e⟩
 ·have g:b<μ.length:=m▸(Xz.mp d).1;by_cases h:b=a
  ·subst h;rw[YA g]at d;cases d;obtain⟨L,rfl,j,k⟩:=hc;exact⟨L,cX,j,k.mono0 e⟩
  ·rw[XB (Yn h)]at d;obtain⟨vs,p,j,k⟩:=R.st b G d;exact⟨vs,by rw[i b g h];exact p,j,k.mono0 e⟩
 ·have g:b<μ.length:=m▸(Xz.mp d).1;by_cases h:b=a
  ·subst h;rw[YA g]at d;cases d;obtain⟨L,rfl,j,k,r⟩:=hc;exact⟨L,cX,j,k.mono0 e,r.mono0 e⟩
  ·rw[XB (Yn h)]at d;obtain⟨vs,p,j,k,r⟩:=R.dT b l d;exact⟨vs,by rw[i b g h];exact p,j,k.mono0 e,r.mono0 e⟩
 ·have g:b<μ.length:=m▸(Xz.mp d).1;by_cases h:b=a
  ·subst h;rw[YA g]at d;cases d;obtain⟨s,L,rfl,j,k,r⟩:=hc;exact⟨s,L,cX,j,k.mono0 e,r.mono0 e⟩
  ·rw[XB (Yn h)]at d;obtain⟨s,vs,p,j,k,r⟩:=R.dF b l d;exact⟨s,vs,by rw[i b g h];exact p,j,k.mono0 e,r.mono0 e⟩
theorem Rp.put0{a:Nat}{c:C}{o u:HO}(R:Rp K π H μ)(g:a<μ.length)(h:H (π a)=aX u)(e:(∃vs,u=.lst vs)\/(∃vs,u=.dK vs)\/(∃d,u=.ext d)\/∃b d,u=.frz b (.ext d))(hc:rO K π μ.length H (π a) c o) :
  Ext0 π μ.length H π (μ.set a c).length (aP H (π a) o)/\Rp K π (aP H (π a) o) (μ.set a c):=
 R.putU g h ⟨λvs z=>(by rcases e with⟨w,rfl⟩|⟨w,rfl⟩|⟨w,rfl⟩|⟨b,w,rfl⟩<;>cases z),λb v nx z=>by
  rcases e with⟨w,rfl⟩|⟨w,rfl⟩|⟨w,rfl⟩|⟨b,w,rfl⟩<;>cases z;exact nx _ rfl⟩ hc
theorem Rp.putE{a:Nat}{c:C}{o u:HO}(R:Rp K π H μ)(h:a<μ.length)(d:H (π a)=aX u)(b:(∀vs,u≠.tup vs)/\∀g v,u≠.frz g v)(hc:rO K π μ.length H (π a) c o) :
  Ext π μ.length H π (μ.set a c).length (aP H (π a) o)/\Rp K π (aP H (π a) o) (μ.set a c):=by
 have e:Ext π μ.length H π (μ.set a c).length (aP H (π a) o):=by
  refine⟨a1W (YL ..).symm,λ_ _=>rfl,λq vs z=>?_,λq i j z=>?_⟩
  ·rw[bM]
   ·exact z
   ·intro e;subst e;rw[d]at z;exact b.1 _ (XZ z)
  ·rw[bM]
   ·exact z
   ·intro e;subst e;rw[d]at z;exact b.2 _ _ (XZ z)
 exact⟨e,(R.putU h d ⟨b.1,λg v _=>b.2 g v⟩ hc).2⟩
theorem Rp.put{a:Nat}{c:C}{o u:HO}(R:Rp K π H μ)(d:a<μ.length)(e:H (π a)=aX u)(b:(∃vs,u=.lst vs)\/(∃vs,u=.dK vs)\/∃g,u=.ext g)(hc:rO K π μ.length H (π a) c o) :
  Ext π μ.length H π (μ.set a c).length (aP H (π a) o)/\Rp K π (aP H (π a) o) (μ.set a c):=
 R.putE d e ⟨λvs z=>(by rcases b with⟨w,rfl⟩|⟨w,rfl⟩|⟨w,rfl⟩<;>cases z),λh v z=>by rcases b with⟨w,rfl⟩|⟨w,rfl⟩|⟨w,rfl⟩<;>cases z⟩ hc
end
noncomputable def KC(K:Xy)(Q:VK)(π:Nat->Addr)(n:Nat)(H:Hp)(d:D)(a:Hm):Prop:=
 ∀b v c,Ext π n H b a.length c->Rp K b c a->IsD K b a.length c v d->Q v c
theorem KC.after{K:Xy}{Q:VK}{π b:Nat->Addr}{n h:Nat}{H g:Hp}{d:D}{a:Hm}(k:KC K Q π n H d a)(e:Ext π n H b h g):KC K Q b h g d a:=
 λc v j l R i=>k c v j (e.trans l) R i
inductive tM (K:Xy)(m:ME)(σ:St)(H:Hp)(Q:VK):Prop
 |mk (π:Nat->Addr)(ρ:aF)(μ:Hm)(d:D)(μ':Hm)(R:Rp K π H μ)(E:En K π μ.length H σ ρ)(hm:m ρ μ=aX (d,μ'))(k:KC K Q π μ.length H d μ'):tM K m σ H Q
inductive tMT (K:Xy)(m:MT)(σ:St)(H:Hp)(Q:Bool->Hp->Prop):Prop
 |mk (π:Nat->Addr)(ρ:aF)(μ:Hm)(b:Bool)(μ':Hm)(R:Rp K π H μ)(E:En K π μ.length H σ ρ)(hm:m ρ μ=aX (b,μ'))(k:∀π' H',Ext π μ.length H π' μ'.length H'->Rp K π' H' μ'->Q b H'):tMT K m σ H Q
inductive tMA (K:Xy)(m:MA)(σ:St)(H:Hp)(Q:gw->Hp->Prop):Prop
 |mk (π:Nat->Addr)(ρ:aF)(μ:Hm)(ds:List D)(μ':Hm)(R:Rp K π H μ)(E:En K π μ.length H σ ρ)(hm:m ρ μ=aX (ds,μ'))(k:∀π' vs H',Ext π μ.length H π' μ'.length H'->Rp K π' H' μ'->IsDs K π' μ'.length H' vs ds->Q vs H'):tMA K m σ H Q
noncomputable def nZ(K:Xy)(E:Ends)(π:Nat->Addr)(n:Nat)(H:Hp)(h:Fl)(g:aF)(b:Hm):Prop:=
 match h with
 |.nx=>∀a c e,Ext π n H a b.length e->Rp K a e b->En K a b.length e c g->E.nx c e|.bk=>∀a c e,Ext π n H a b.length e->Rp K a e b->En K a b.length e c g->E.bk c e|.ct=>∀a c e,Ext π n H a b.length e->Rp K a e b->En K a b.length e c g->E.ct c e|.rt d=>KC K E.rt π n H d b
inductive tMS (K:Xy)(m:MS)(E:Ends)(σ:St)(H:Hp):Prop
 |mk (π:Nat->Addr)(ρ:aF)(μ:Hm)(fl:Fl)(ρ':aF)(μ':Hm)(R:Rp K π H μ)(EN:En K π μ.length H σ ρ)(hm:m ρ μ=aX (fl,ρ',μ'))(k:nZ K E π μ.length H fl ρ' μ'):tMS K m E σ H
inductive spI0 (K:Xy)(f:MF)(vs:gw)(H:Hp)(Q:VK):Prop
 |mk (π:Nat->Addr)(ds:List D)(μ:Hm)(d:D)(μ':Hm)(R:Rp K π H μ)(i:IsDs K π μ.length H vs ds)(hm:f ds μ=aX (d,μ'))(k:KC K Q π μ.length H d μ'):spI0 K f vs H Q
noncomputable def jQ(K:Xy)(k:Nat)(f:MF):Sp:=λvs H Q _=>vs.length=k/\spI0 K f vs H Q
section
variable{X:Cx}{e a b c:Expr}{t:TE}{m ma mb mc:ME}{pos:Zj}
theorem c9(h:PE X e t)(hw:∀σ H Q,tM X.K m σ H Q->t σ H Q):PE X e (tM X.K m):=λa8T s σ H Q I q=>h a8T s σ H Q I (hw σ H Q q)
theorem uG{t:TT}{m:MT}(h:PT X e t)(hw:∀σ H Q,tMT X.K m σ H Q->t σ H Q):PT X e (tMT X.K m):=λa8T s σ H Q I q=>h a8T s σ H Q I (hw σ H Q q)
theorem Dm{t:TT}{m:MT}(h:PW X e t)(hw:∀σ H Q,tMT X.K m σ H Q->t σ H Q):PW X e (tMT X.K m):=λd a8T s σ H Q I q=>h d a8T s σ H Q I (hw σ H Q q)
theorem Dn{es:List Expr}{t:TA}{m:MA}(h:PA X es t)(hw:∀σ H Q,tMA X.K m σ H Q->t σ H Q):PA X es (tMA X.K m):=λp a8T s σ H Q I q=>h p a8T s σ H Q I (hw σ H Q q)
theorem iI{st:Stmt}{t:TS}{m:MS}(h:PS X st t)(hw:∀E σ H,tMS X.K m E σ H->t E σ H):PS X st (tMS X.K m):=λa8T s σ H E I q=>h a8T s σ H E I (hw E σ H q)
theorem Dp{st:List Stmt}{t:TS}{m:MS}(h:PSs X st t)(hw:∀E σ H,tMS X.K m E σ H->t E σ H):PSs X st (tMS X.K m):=λa8T s σ H E I q=>h a8T s σ H E I (hw E σ H q)
noncomputable def aA(i:Nat):ME:=λh g=>match h[i]? with|some (aX d)=>aX (d,g)|_=>aY
noncomputable def mC(d:D):ME:=λ_ g=>aX (d,g)
theorem Md{i:Nat}{k:aF}{j g:Hm}{d:D}(h:aA i k j=aX (d,g)):k[i]?=aX (aX d)/\g=j:=by
 unfold aA at h;split at h
 ·rename_i l e;cases h;exact⟨e,rfl⟩
 ·cases h
theorem Me{x:Str}(i:Nat)(h:PE X (.Name x pos) (xF i)):PE X (.Name x pos) (tM X.K (aA i)):=c9 h (by
 rintro s H Q ⟨p,r,q,d,o,R,E,n,k⟩;obtain⟨g,rfl⟩:=Md n;obtain⟨v,j,l⟩:=E.get i d g;exact⟨v,j,k p v H .refl R l⟩)
theorem o8{v:V}{d:D}(h:PE X e (tC v))(hd:∀π n H,IsD X.K π n H v d):PE X e (tM X.K (mC d)):=c9 h (by
 rintro p H Q ⟨π,o,l,j,i,R,E,g,k⟩;cases g;exact k π v H .refl R (hd _ _ _))
theorem Mf{i:Int}{j:Nat}:PE X (.Constant (.int i) j pos) (tM X.K (mC (.int i))):=o8 JI λ_ _ _=>.int i
theorem Mg{i:Bool}{j:Nat}:PE X (.Constant (.bool i) j pos) (tM X.K (mC (.bl i))):=o8 JJ λ_ _ _=>.bl i
theorem Mh{i:Str}{j:Nat}:PE X (.Constant (.str i) j pos) (tM X.K (mC (.str i))):=o8 JM λ_ _ _=>.str i
theorem Mi{j:Nat}:PE X (.Constant .none j pos) (tM X.K (mC .non)):=o8 JK λ_ _ _=>.non
noncomputable def aB(f:D->D->Hm->jk)(a b:ME):ME:=λd g=>(a d g).bind λp=>(b d p.2).bind λq=>f p.1 q.1 q.2
noncomputable def dC(K:Xy)(f:D->D->Hm->jk)(r:R2):Prop:=
 ∀i H g x y d h j k Q,Rp K i H g->IsD K i g.length H j x->IsD K i g.length H k y->f x y g=aX (d,h)->KC K Q i g.length H d h->r j k H Q
theorem rP{f:D->D->Hm->jk}{r:R2}{K:Xy}(z:dC K f r):∀σ H Q,tM K (aB f ma mb) σ H Q->rJ r (tM K ma) (tM K mb) σ H Q:=by rintro σ H Q ⟨L,q,J,d,j,R,E,g,k⟩;obtain⟨⟨x,h⟩,v,g⟩:=Xv.mp g;obtain⟨⟨y,i⟩,w,g⟩:=Xv.mp g;exact⟨L,q,J,x,h,R,E,v,λl G M o u A=>⟨l,q,h,y,i,u,E.mono o,w,λn I s p R2 B=>z n s i x y d j G I Q R2 (A.mono p) B g (k.after (o.trans p))⟩⟩
theorem Mj{op:a5t}{r:R2}{f:D->D->Hm->jk}(i:OpR X (a0S op) r)(h:dC X.K f r)(d:PE X a (tM X.K ma))(g:PE X b (tM X.K mb)):PE X (.BinOp a op b pos) (tM X.K (aB f ma mb)):=
 c9 (KP i d g) (rP h)
theorem fG{op:a1n}{r:R2}{f:D->D->Hm->jk}(j:OpR X (YU op) r)(h:dC X.K f r)(d:PE X a (tM X.K ma))(g:PE X b (tM X.K mb))(i:a0T op b=b4):PE X (.Compare a [op] [b] pos) (tM X.K (aB f ma mb)):=
 c9 (KW j d g i) (rP h)
noncomputable def aV(m:ME):MT:=λg d=>(m g d).bind λp=>match p.1 with|.bl b=>aX (b,p.2)|_=>aY
theorem Dq{K:Xy}:∀σ H Q,tMT K (aV m) σ H Q->tM K m σ H λx g=>∃k,x=.bl k/\Q k g:=by
 rintro σ H Q ⟨r,s,o,b,p,R,E,d,k⟩;obtain⟨⟨x,q⟩,l,d⟩:=Xv.mp d;cases x with
 |bl c=>cases d;refine⟨r,s,o,_,_,R,E,l,λh v g j i n=>?_⟩;cases n;exact⟨_,rfl,k h g j i⟩|_=>cases d
theorem fH{op:a1n}{r:R2}{f:D->D->Hm->jk}(l:OpR X (YU op) r)(j:dC X.K f r)(g:PE X a (tM X.K ma))(i:PE X b (tM X.K mb))(k:a0T op b=b4):PT X (.Compare a [op] [b] pos) (tMT X.K (aV (aB f ma mb))):=
 uG (KY l g i k) λd H Q h=>rP j d H _ (Dq d H Q h)
end
section
variable{X:Cx}{e a b c:Expr}{m ma mb mc:ME}{pos:Zj}{mt mu:MT}{bY:List Expr}
noncomputable def eH(a b:MT):MT:=λd g=>(a d g).bind λp=>match p.1 with|true=>b d p.2|false=>aX (b4,p.2)
noncomputable def iJ(a b:MT):MT:=λd g=>(a d g).bind λp=>match p.1 with|true=>aX (b5,p.2)|false=>b d p.2
noncomputable def lJ(a:MT):MT:=λg d=>(a g d).map λp=>(!p.1,p.2)
theorem Mm(d:PT X a (tMT X.K mt)):PW X (.BoolOp .And [a] pos) (tMT X.K mt):=JS d
theorem Mn(d:PT X a (tMT X.K mt)):PW X (.BoolOp .Or [a] pos) (tMT X.K mt):=JT d
theorem Mo(v:PT X a (tMT X.K mt))(w:PW X (.BoolOp .And (b::bY) pos) (tMT X.K mu)):PW X (.BoolOp .And (a::b::bY) pos) (tMT X.K (eH mt mu)):=Dm (JU v w) (by
 rintro A H Q ⟨z,p,y,d,l,R,E,i,k⟩;obtain⟨⟨x,g⟩,u,i⟩:=Xv.mp i;refine⟨z,p,y,x,g,R,E,u,λh q j o=>?_⟩;cases x with
 |true=>refine mV ?_;exact⟨h,p,g,d,l,o,E.mono j,i,λn r s R2=>k n r (j.trans s) R2⟩|false=>
  refine mU ?_;cases i;exact k h q j o)
theorem Mp(v:PT X a (tMT X.K mt))(w:PW X (.BoolOp .Or (b::bY) pos) (tMT X.K mu)):PW X (.BoolOp .Or (a::b::bY) pos) (tMT X.K (iJ mt mu)):=Dm (JV v w) (by
 rintro A H Q ⟨z,p,y,d,l,R,E,i,k⟩;obtain⟨⟨x,g⟩,u,i⟩:=Xv.mp i;refine⟨z,p,y,x,g,R,E,u,λh q j o=>?_⟩;cases x with
 |true=>refine mV ?_;cases i;exact k h q j o|false=>
  refine mU ?_;exact⟨h,p,g,d,l,o,E.mono j,i,λn r s R2=>k n r (j.trans s) R2⟩)
theorem Mq(p:PT X a (tMT X.K mt)):PT X (.UnaryOp .Not a pos) (tMT X.K (lJ mt)):=uG (JW p) (by
 rintro v H Q ⟨s,u,q,d,r,R,E,g,k⟩;obtain⟨⟨x,h⟩,o,g⟩:=XA.mp g;cases g;exact⟨s,u,q,x,h,R,E,o,λi j n l=>k i j n l⟩)
noncomputable def fP(a b:ME):ME:=λd g=>(a d g).bind λp=>match p.1 with|.bl b5=>b d p.2|.bl b4=>aX (.bl b4,p.2)|_=>aY
noncomputable def yI(a b:ME):ME:=λd g=>(a d g).bind λp=>match p.1 with|.bl b5=>aX (.bl b5,p.2)|.bl b4=>b d p.2|_=>aY
noncomputable def mW(a:ME):ME:=λg d=>(a g d).bind λp=>match p.1 with|.bl b=>aX (.bl (!b),p.2)|_=>aY
theorem Mr{op:BoolOp}(h:PE X a (tM X.K m)):PE X (.BoolOp op [a] pos) (tM X.K m):=J3 h
theorem Ms(r:PE X a (tM X.K ma))(s:PE X (.BoolOp .And (b::bY) pos) (tM X.K mb)):PE X (.BoolOp .And (a::b::bY) pos) (tM X.K (fP ma mb)):=c9 (J4 r s) (by
 rintro z H Q ⟨w,o,v,d,l,R,E,g,k⟩;obtain⟨⟨x,h⟩,q,g⟩:=Xv.mp g;cases x with
 |bl c=>
  refine⟨w,o,v,.bl c,h,R,E,q,λi y p j n u=>?_⟩;cases u;refine⟨c,rfl,?_⟩;cases c with
  |true=>refine mV ?_;exact⟨i,o,h,d,l,n,E.mono j,g,k.after j⟩|false=>refine mU ?_;cases g;exact k i _ p j n (.bl b4)
 |_=>cases g)
theorem Mt(r:PE X a (tM X.K ma))(s:PE X (.BoolOp .Or (b::bY) pos) (tM X.K mb)):PE X (.BoolOp .Or (a::b::bY) pos) (tM X.K (yI ma mb)):=c9 (J5 r s) (by
 rintro z H Q ⟨w,o,v,d,l,R,E,g,k⟩;obtain⟨⟨x,h⟩,q,g⟩:=Xv.mp g;cases x with
 |bl c=>
  refine⟨w,o,v,.bl c,h,R,E,q,λi y p j n u=>?_⟩;cases u;refine⟨c,rfl,?_⟩;cases c with
  |true=>refine mV ?_;cases g;exact k i _ p j n (.bl b5)|false=>refine mU ?_;exact⟨i,o,h,d,l,n,E.mono j,g,k.after j⟩
 |_=>cases g)
theorem Mu(o:PE X a (tM X.K ma)):PE X (.UnaryOp .Not a pos) (tM X.K (mW ma)):=c9 (J6 o) (by
 rintro y H Q ⟨u,v,q,d,r,R,E,g,k⟩;obtain⟨⟨x,s⟩,n,g⟩:=Xv.mp g;cases x with
 |bl c=>cases g;refine⟨u,v,q,_,_,R,E,n,λh w i l j p=>?_⟩;cases p;exact⟨_,rfl,k h _ i l j (.bl _)⟩
 |_=>cases g)
noncomputable def m3(t:MT)(a b:ME):ME:=λd g=>(t d g).bind λp=>match p.1 with|true=>a d p.2|false=>b d p.2
theorem Mv(hc:PT X c (tMT X.K mt))(q:PE X a (tM X.K ma))(r:PE X b (tM X.K mb)):PE X (.IfExp c a b pos) (tM X.K (m3 mt ma mb)):=c9 (J8 hc q r) (by
 rintro w H Q ⟨u,n,s,d,h,R,E,l,k⟩;obtain⟨⟨x,g⟩,p,l⟩:=Xv.mp l;refine⟨u,n,s,x,g,R,E,p,λi v j o=>?_⟩;cases x with
 |true=>refine mV ?_;exact⟨i,n,g,d,h,o,E.mono j,l,k.after j⟩|false=>
  refine mU ?_;exact⟨i,n,g,d,h,o,E.mono j,l,k.after j⟩)
noncomputable def aD:MA:=λ_ d=>aX ([],d)
noncomputable def aC(a:ME)(r:MA):MA:=λd g=>(a d g).bind λp=>(r d p.2).bind λq=>aX (p.1::q.1,q.2)
variable{es:List Expr}{ms:MA}
theorem Mw:PA X [] (tMA X.K aD):=Dn CC (by
 rintro n H Q ⟨i,l,j,d,h,R,E,g,k⟩;cases g;exact k i [] H .refl R .nil)
theorem Mx(v:PE X e (tM X.K m))(w:PA X es (tMA X.K ms))(y:Yr (e::es) X.env=(b4,eval e X.env)::Yr es X.env:=by rfl):PA X (e::es) (tMA X.K (aC m ms)):=Dn (CD v w y) (by
 rintro N H Q ⟨J,p,G,d,I,R,E,g,k⟩;obtain⟨⟨x,h⟩,s,g⟩:=Xv.mp g;obtain⟨⟨B,i⟩,u,g⟩:=Xv.mp g;cases g;exact⟨J,p,G,x,h,R,E,s,λj L K n r z=>⟨j,p,h,B,i,r,E.mono n,u,λl M q o R2 A=>k l _ q (n.trans o) R2 (.cons (z.mono o) A)⟩⟩)
noncomputable def bZ(ms:MA):ME:=λg d=>(ms g d).bind λp=>if p.1.length<=XQ then aX (.tup p.1,p.2)else aY
noncomputable def b7(ms:MA):ME:=λg d=>(ms g d).bind λp=>if p.1.length<=XQ then aX (.loc p.2.length,p.2++[.lst p.1])else aY
theorem My{v:Nat}(h:PA X es (tMA X.K ms)):PE X (.Tuple es v pos) (tM X.K (bZ ms)):=c9 (La h) (by
 rintro I H Q ⟨z,A,w,d,x,R,E,g,k⟩;obtain⟨⟨G,y⟩,q,g⟩:=Xv.mp g;split at g
 ·rename_i r;cases g;refine⟨z,A,w,_,_,R,E,q,λi u B o n l=>⟨by rw[l.length];exact r,λp s=>?_⟩⟩;obtain⟨j,R2⟩:=n.fresh (o:=.tup u) s;exact k i _ _ (o.trans j) R2 (.tup (.of cX) (l.mono j))
 ·cases g)
theorem Mz(h:PA X es (tMA X.K ms)):PE X (.List es pos) (tM X.K (b7 ms)):=c9 (Lb h) (by
 rintro J H Q ⟨G,I,A,d,B,R,E,i,k⟩;obtain⟨⟨l,g⟩,w,i⟩:=Xv.mp i;split at i
 ·rename_i x;cases i;refine⟨G,I,A,l,g,R,E,w,λj n o u s r=>⟨by rw[r.length];exact x,λp y=>?_⟩⟩;obtain⟨v,R2,q⟩:=s.alloc (c:=.lst l) (o:=.lst n) y r;have z:IsD X.K (i8 j g.length p) (g++[C.lst l]).length (aP o p (.lst n)) (.ref p) (.loc g.length):=by have:=IsD.loc (K:=X.K) (π:=i8 j g.length p) (n:=(g++[C.lst l]).length) (H:=aP o p (.lst n)) (a:=g.length) (by simp);rw[q]at this;exact this
  exact k _ _ _ (u.trans v) R2 z
 ·cases i)
noncomputable def aH(f:MF)(ms:MA):ME:=λg d=>(ms g d).bind λp=>f p.1 p.2
theorem MB{K:Xy}{f:MF}{n:Nat}{E:XK}(w:∀j i ds g,ms j i=aX (ds,g)->ds.length=n):∀σ H Q,tM K (aH f ms) σ H Q->xX (jQ K n f) [] E (tMA K ms) σ H Q:=by rintro σ H Q ⟨y,j,i,d,g,R,E,l,k⟩;obtain⟨⟨o,h⟩,q,l⟩:=Xv.mp l;refine⟨y,j,i,o,h,R,E,q,λp x s v u r=>?_⟩;show jQ K n f (x++[]) s Q _;rw[Yl];exact⟨by rw[r.length];exact w j i o h q,p,o,h,d,g,u,r,l,k.after v⟩
theorem MC:∀i g ds d,aD i g=aX (ds,d)->ds.length=0:=by intro i g ds d h;cases h;rfl
theorem MH{n:Nat}(h:∀i j ds d,ms i j=aX (ds,d)->ds.length=n):∀i j ds d,aC m ms i j=aX (ds,d)->ds.length=n+1:=by intro i j ds d g;obtain⟨⟨x,k⟩,q,g⟩:=Xv.mp g;obtain⟨⟨o,p⟩,l,g⟩:=Xv.mp g;cases g;rw[Ym,h i k o _ l]
theorem MJ{k:Nat}{f:Addr}{i:a0h}{ps:List Str}{j:MF}{x:Str}{p:Zj}{n:Nat}(F:FnOk X.prog X.w X.K X.mg X.base gN k f i ps (jQ X.K n j))(w:Room k X.A)(r:Gl X x)(u:X.mg x=aX (.ref f))
  (s:ZM X.K (.ref f)=b5)(o:Binds X.K i ps [])(l:PA X (e::es) (tMA X.K ms))(v:∀z y ds h,ms z y=aX (ds,h)->ds.length=n)(d:(x==("__debug__":Str))=false:=by decide)
  (q:Yr (e::es) X.env=(b4,eval e X.env)::Yr es X.env:=by rfl)(g:(a0l pos (Yr es X.env)).any (·.1)=false:=by rfl) :
  PE X (.Call (.Name x p) (e::es) [] pos) (tM X.K (aH j ms)):=
 c9 (Lc F w r u s o .nil (E:=E0) Dd l d q g) (MB v)
noncomputable def eT(K:Xy)(f:MF)(r:gw->Hp->VK->Prop):Prop:=
 ∀i H h k d g j Q,Rp K i H h->IsDs K i h.length H j k->f k h=aX (d,g)->KC K Q i h.length H d g->r j H Q
theorem yJ{K:Xy}{f:MF}{r:gw->Hp->VK->Prop}(s:eT K f r):∀σ H Q,tM K (aH f ms) σ H Q->t9 r (tMA K ms) σ H Q:=by rintro σ H Q ⟨x,y,w,d,i,R,E,h,k⟩;obtain⟨⟨l,g⟩,q,h⟩:=Xv.mp h;exact⟨x,y,w,l,g,R,E,q,λj v n p o u=>s j n g l d i v Q o u h (k.after p)⟩
theorem MK{f:MF}{r:gw->Hp->VK->Prop}{id:String}{x:Str}{p:Zj}(hc:CallR X (.builtin id) r)(j:eT X.K f r)(k:Gl X x)(l:X.mg x=aY)(o:ZA x=aX (.builtin id))(h:PA X (e::es) (tMA X.K ms))
  (n:x ≠ "__name__":=by decide) (d:(x==("__debug__":Str))=false:=by decide)
  (i:Yr (e::es) X.env=(b4,eval e X.env)::Yr es X.env:=by rfl)(g:(a0l pos (Yr es X.env)).any (·.1)=false:=by rfl):PE X (.Call (.Name x p) (e::es) [] pos) (tM X.K (aH f ms)):=
 c9 (Li hc k l o h n d i g) (yJ j)
theorem ML{f:MF}{r:gw->Hp->VK->Prop}{T:String}{x:Str}{p:Zj}(hc:CallR X (.type T) r)(j:eT X.K f r)(k:Gl X x)(l:X.mg x=aY)(o:ZA x=aX (.type T))(h:PA X (e::es) (tMA X.K ms))
  (n:x ≠ "__name__":=by decide) (d:(x==("__debug__":Str))=false:=by decide)
  (i:Yr (e::es) X.env=(b4,eval e X.env)::Yr es X.env:=by rfl)(g:(a0l pos (Yr es X.env)).any (·.1)=false:=by rfl):PE X (.Call (.Name x p) (e::es) [] pos) (tM X.K (aH f ms)):=
 c9 (Lj hc k l o h n d i g) (yJ j)
noncomputable def bK(d:Hm):D->Option (List D)
 |.tup xs=>aX xs|.rol xs=>aX xs|.loc a=>match d[a]? with|some (.lst xs)=>aX xs|_=>aY
 |_=>aY
noncomputable def hV:D->D->Hm->jk
 |.str z,.int i,μ=>if z.length<=XQ then(atI z.cps.toList i).map λc=>(.str ⟨#[c]⟩,μ)else aY|x,.int i,μ=>(bK μ x).bind λg=>(atI g i).map λd=>(d,μ)|_,_,_=>aY
theorem MN{K:Xy}:dC K hV (CU K):=by
 intro p H N x y d G L M Q R r B g k;cases B with
 |int i=>
  cases r with
  |str z=>
   simp only[hV]at g;split at g
   ·rename_i w;obtain⟨c,j,l⟩:=XA.mp g;cases l;exact .inr (.inr ⟨z,i,c,rfl,rfl,w,j,k p _ H .refl R (.str _)⟩)
   ·cases g
  |tup h t=>simp only[hV,bK,XY]at g;obtain⟨q,j,l⟩:=XA.mp g;cases l;obtain⟨v,n,o⟩:=t.atI j;exact .inr (.inl ⟨_,_,i,v,rfl,rfl,h,n,k p _ H .refl R o⟩)|rol h t=>simp only[hV,bK,XY]at g;obtain⟨q,j,l⟩:=XA.mp g;cases l;obtain⟨v,n,o⟩:=t.atI j;exact .inl ⟨_,_,i,v,rfl,rfl,h.sq,n,k p _ H .refl R o⟩|@loc a I=>
   simp only[hV,bK]at g;split at g
   ·rename_i E A;simp only[XY]at g;obtain⟨q,j,l⟩:=XA.mp g;cases l;obtain⟨J,s,u⟩:=R.lst a E A;obtain⟨v,n,o⟩:=u.atI j;exact .inl ⟨_,_,i,v,rfl,rfl,.of s,n,k p _ H .refl R o⟩
   ·cases g
  |_=>simp[hV,bK]at g
 |_=>cases r<;>simp[hV]at g
theorem MP(d:PE X a (tM X.K ma))(g:PE X b (tM X.K mb))(h:yF b):PE X (.Subscript a b pos) (tM X.K (aB hV ma mb)):=c9 (LF LH d g h) (rP MN)
noncomputable def jR(xs:List D)(lo hi:Option Int):List D:=(xs.drop (HT.sIx xs.length 0 lo)).take (HT.sIx xs.length xs.length hi-HT.sIx xs.length 0 lo)
noncomputable abbrev MO:=aF->Hm->Option (Option Int×Hm)
noncomputable def n5:MO:=λ_ d=>aX (aY,d)
noncomputable def lO(m:ME):MO:=λg d=>(m g d).bind λp=>match p.1 with|.int i=>aX (aX i,p.2)|_=>aY
inductive tMO (K:Xy)(m:MO)(σ:St)(H:Hp)(Q:Option Int->Hp->Prop):Prop
 |mk (π:Nat->Addr)(ρ:aF)(μ:Hm)(o:Option Int)(μ':Hm)(R:Rp K π H μ)(E:En K π μ.length H σ ρ)(hm:m ρ μ=aX (o,μ'))(k:∀π' H',Ext π μ.length H π' μ'.length H'->Rp K π' H' μ'->Q o H'):tMO K m σ H Q
theorem MQ:PO X aY (tMO X.K n5):=λa8T s σ H Q I q=>Lv a8T s σ H Q I (by
 obtain⟨h,j,i,o,g,R,E,d,k⟩:=q;cases d;exact k h H .refl R)
theorem MR(h:PE X e (tM X.K m)):PO X (aX e) (tMO X.K (lO m)):=λa8T s σ H Q I q=>Lx h a8T s σ H Q I (by
 obtain⟨y,z,u,o,v,R,E,d,k⟩:=q;obtain⟨⟨x,w⟩,p,d⟩:=Xv.mp d;cases x with
 |int i=>cases d;refine⟨y,z,u,_,_,R,E,p,λg A j n l r=>?_⟩;cases r;exact⟨_,rfl,k g j n l⟩
 |_=>cases d)
noncomputable abbrev Ds(K:Xy):V->Option Int->Option Int->Hp->VK->Prop:=yG K
theorem MU{X:Cx}:yA X (Ds X.K):=LL
theorem Dt{K:Xy}{x:V}{lo hi:Option Int}{H:Hp}{Q:VK}(h:yG K x lo hi H Q):Ds K x lo hi H Q:=h
noncomputable def o9(a:ME)(lo hi:MO):ME:=λd h=>(a d h).bind λp=>(lo d p.2).bind λq=>(hi d q.2).bind λr=>
 match p.1 with
 |.tup _=>aY|x=>(bK r.2 x).bind λg=>aX (.loc r.2.length,r.2++[.lst (jR g q.1 r.1)])
theorem Du{K:Xy}{π:Nat->Addr}{n:Nat}{H:Hp}{vs:gw}{ds:List D}(h:IsDs K π n H vs ds)(lo hi:Option Int):IsDs K π n H (mT vs lo hi) (jR ds lo hi):=by unfold mT jR;rw[h.length];exact(h.drop _).take _
theorem lQ{K:Xy}{π:Nat->Addr}{d:Hm}{p:Addr}{c:C}{H:Hp}:IsD K (i8 π d.length p) (d++[c]).length H (.ref p) (.loc d.length):=by have:=IsD.loc (K:=K) (π:=i8 π d.length p) (n:=(d++[c]).length) (H:=H) (a:=d.length) (by simp);rw[show i8 π d.length p d.length=p from if_pos rfl]at this;exact this
theorem MV{lo hi:Option Expr}{K J:MO}{p2:Zj}(Z:PE X a (tM X.K ma))(hl:PO X lo (tMO X.K K))(hu:PO X hi (tMO X.K J)):PE X (.Subscript a (.Slice lo hi aY p2) pos) (tM X.K (o9 ma K J)):=c9 (LA MU Z hl hu) (by
 rintro σ H Q ⟨π,I,μ,d,μ',R,E,g,k⟩;obtain⟨⟨x,j⟩,N,g⟩:=Xv.mp g;obtain⟨⟨l,n⟩,O,g⟩:=Xv.mp g;obtain⟨⟨u,A⟩,T,g⟩:=Xv.mp g;refine⟨π,I,μ,x,j,R,E,N,λB v1 H1 o M i1=>⟨B,I,j,l,n,M,E.mono o,O,λG H2 r R2=>⟨G,I,n,u,A,R2,(E.mono o).mono r,T,λπ3 H3 w s=>?_⟩⟩⟩;have i3:=(i1.mono r).mono w;cases i3 with
 |rol h t=>simp only[bK,XY]at g;cases g;refine Dt ⟨_,_,rfl,h.sq,λp z=>?_⟩;obtain⟨y,v,q⟩:=s.alloc (c:=.lst (jR _ l u)) (o:=.lst (mT _ l u)) z (Du t l u);exact k _ _ _ (((o.trans r).trans w).trans y) v lQ|@loc i hi'=>
  simp only[bK]at g;split at g
  ·rename_i L hx;simp only[XY]at g;cases g;obtain⟨vs,U,Y⟩:=s.lst i L hx;refine Dt ⟨_,_,rfl,.of U,λp z=>?_⟩;obtain⟨y,v,q⟩:=s.alloc (c:=.lst (jR L l u)) (o:=.lst (mT vs l u)) z (Du Y l u);exact k _ _ _ (((o.trans r).trans w).trans y) v lQ
  ·cases g
 |tup h t=>simp at g
 |_=>simp[bK]at g)
end
section
variable{X:Cx}{e a b c:Expr}{m:ME}{pos:Zj}{mt:MT}{st:Stmt}{bY body orelse:List Stmt}{ms mr mu:MS}
noncomputable def b6:MS:=λg d=>aX (.nx,g,d)
noncomputable def aG(a b:MS):MS:=λg d=>(a g d).bind λp=>match p.1 with|.nx=>b p.2.1 p.2.2|_=>aX p
noncomputable def bC(m:ME):MS:=λd g=>(m d g).map λp=>(.rt p.1,d,p.2)
noncomputable def dW(m:ME):MS:=λd g=>(m d g).map λp=>(.nx,d,p.2)
noncomputable def bT(t:MT)(a b:MS):MS:=λd g=>(t d g).bind λp=>match p.1 with|true=>a d p.2|false=>b d p.2
noncomputable def aW(i:Nat)(m:ME):MS:=λd g=>(m d g).map λp=>(.nx,d.set i (aX p.1),p.2)
theorem MW:PSs X [] (tMS X.K b6):=Dp Kb (by
 rintro E l H ⟨i,p,o,n,j,h,R,d,g,k⟩;cases g;exact k i l H .refl R d)
theorem MX(h1:PS X st (tMS X.K ms))(A:PSs X bY (tMS X.K mr)):PSs X (st::bY) (tMS X.K (aG ms mr)):=Dp (Kc h1 A) (by
 rintro E L H ⟨G,I,B,w,u,r,R,y,i,k⟩;obtain⟨⟨v,p,o⟩,h1,i⟩:=Xv.mp i;refine⟨G,I,B,v,p,o,R,y,h1,?_⟩;cases v with
 |nx=>
  intro s J K q z x;refine⟨s,p,o,w,u,r,z,x,i,?_⟩;cases w with
  |nx=>exact λg h l n R2 j=>k g h l (q.trans n) R2 j|bk=>exact λg h l n R2 j=>k g h l (q.trans n) R2 j|ct=>exact λg h l n R2 j=>k g h l (q.trans n) R2 j|rt d=>exact KC.after k q
 |rt d=>cases i;exact k|bk=>cases i;exact k
 |ct=>cases i;exact k)
theorem MY(h1:PS X st (tMS X.K ms)):PSs X [st] (tMS X.K ms):=Kd h1
theorem MZ:PS X (.Pass pos) (tMS X.K b6):=iI Ke (by
 rintro E l H ⟨i,p,o,n,j,h,R,d,g,k⟩;cases g;exact k i l H .refl R d)
theorem M0(j:PE X e (tM X.K m)):PS X (.Return (aX e) pos) (tMS X.K (bC m)):=iI (Ki j) (by
 rintro E s H ⟨o,p,l,r,q,n,R,h,d,k⟩;obtain⟨⟨x,g⟩,i,d⟩:=XA.mp d;cases d;exact⟨o,p,l,x,g,R,h,i,k⟩)
theorem M3(p:PE X e (tM X.K m))(q:a1M e aY pos.line X.env=pure false:=by rfl):PS X (.Expr e pos) (tMS X.K (dW m)):=iI (Kg p q) (by
 rintro E y H ⟨u,v,r,z,w,s,R,i,d,k⟩;obtain⟨⟨x,g⟩,o,d⟩:=XA.mp d;cases d;exact⟨u,v,r,x,g,R,i,o,λh B l j n A=>k h y l j n (i.mono j)⟩)
theorem M4(hc:PT X c (tMT X.K mt))(G:PSs X body (tMS X.K ms))(I:PSs X orelse (tMS X.K mu)):PS X (.If c body orelse pos) (tMS X.K (bT mt ms mu)):=iI (Km hc G I) (by
 rintro E L H ⟨K,w,J,s,n,j,R,v,u,k⟩;obtain⟨⟨x,i⟩,B,u⟩:=Xv.mp u;refine⟨K,w,J,x,i,R,v,B,λl A o y=>?_⟩;have z:nZ X.K E l i.length A s n j:=by
  cases s with
  |nx=>exact λg h q r R2 p=>k g h q (o.trans r) R2 p|bk=>exact λg h q r R2 p=>k g h q (o.trans r) R2 p|ct=>exact λg h q r R2 p=>k g h q (o.trans r) R2 p|rt d=>exact KC.after k o
 cases x with
 |true=>refine mV ?_;exact⟨l,w,i,s,n,j,y,v.mono o,u,z⟩|false=>
  refine mU ?_;exact⟨l,w,i,s,n,j,y,v.mono o,u,z⟩)
theorem Dv{i:Nat}{x:Str}{d:Zj}(r:X.N.Nodup)(hi:X.N[i]?=aX x)(w:Loc X.env.scope x)(s:PE X e (tM X.K m))(v:a1M e (aX (.Name x d)) pos.line X.env=pure false:=by rfl)
  (u:X.fn x=b5\/X.env.scope.names.lookup x=aX .local:=by first|exact .inl rfl|exact .inr rfl|assumption):PS X (.Assign [.Name x d] e pos) (tMS X.K (aW i m)):=iI (Kr r hi w s v u) (by
 rintro E L H ⟨B,G,z,J,I,A,R,l,g,k⟩;obtain⟨⟨x,h⟩,q,g⟩:=XA.mp g;cases g;exact⟨B,G,z,x,h,R,l,q,λj K o n p y=>k j _ o n p ((l.mono n).set y i)⟩)
end
noncomputable def uH(n:Nat)(ds:List D):aF:=ds.map aX++Yv (n-ds.length) aY
noncomputable def yK(n:Nat)(m:MS):MF:=λds a=>(m (uH n ds) a).bind λp=>match p.1 with|.rt d=>aX (d,p.2.2)|.nx=>aX (.non,p.2.2)|_=>aY
theorem M5{K:Xy}{π:Nat->Addr}{n:Nat}{H:Hp}{N:List Str}{vs:gw}{ds:List D}(h:IsDs K π n H vs ds)(l:vs.length<=N.length):En K π n H (L2.start N vs) (uH N.length ds):=by
 have a:=h.length;refine⟨by simp[L2.start,uH,a],λi d e=>?_⟩;unfold uH at e;unfold L2.start;by_cases hi:i<ds.length
 ·rw[YC (by simpa using hi),XR]at e;obtain⟨k,b,c⟩:=XA.mp e;cases c;obtain⟨v,g,j⟩:=h.get b;exact⟨v,by rw[YC (by rw[Xx,a];exact hi),XR,g];rfl,j⟩
 ·rw[Zt (by simpa using a1C.mp hi)]at e;have:=a0t (n:=N.length-ds.length) (a:=(aY:Option D)) (i:=i-(ds.map aX).length);rw[this]at e;split at e<;>simp at e
section
variable{P:Yk}{w:Yz}{K:Xy}{mg:Str->Option Value}{base:YZ}
theorem M6{x a:Str}{st:Stmt}{f:Addr}{o:a0h}{N ps:List Str}{k:Nat}{m:MS}(F:Fun K x a st f o)(S:FnScope N ps (cP st))(g:ps.length<=N.length)
  (c:∀(b:Value)(A:Yt)(outer:List a3h)(s:XD)(H:Hp)(E:XK),Room k (A.deeper (a4t a (cP st) s.heap.objs.size f b))->
   PSs (lI gN P w K mg base N a (cP st) f b A outer s H E).nox (fZ st) (tMS K m)):FnOk P w K mg base gN (k+1) f o ps (jQ K ps.length (yK N.length m)):=by
 refine F.ok S (λG H Q E h=>h.1) λb A outer s H G Q E z h=>⟨_,c b A outer s H E z,?_⟩;obtain⟨B,L,ds,I,d,J,R,i,e,q⟩:=h;obtain⟨⟨p,n,j⟩,y,e⟩:=Xv.mp e;refine⟨L,_,I,p,n,j,R,M5 i (by rw[B];exact g),y,?_⟩;cases p with
 |rt T=>cases e;exact q|nx=>cases e;exact λl M r v u O=>q l .non r v u .non|bk=>cases e|ct=>cases e
end
open SeqAt (EqAt RcAt RcNeAt)
inductive KD where
 |non|bl (b:Bool)|int (i:Int)|str (x:Str)|tup (n:Nat)|lst (n:Nat)
inductive IsK (s:XD):Value->KD->Prop where
 |non:IsK s .none .non
 |bl (b:Bool):IsK s (.bool b) (.bl b)
 |int (i:Int)(t:a8S):IsK s (.int i t) (.int i)
 |str (x:Str)(t:a8S):IsK s (.str x t) (.str x)
 |tup {l:Addr}{its:gq}(h:s.heap.IsTuple l its.toArray):IsK s (.ref l) (.tup its.length)
 |lst {l:Addr}{its:gq}(h:s.heap.IsList l its.toArray):IsK s (.ref l) (.lst its.length)
noncomputable def pG(e:Nat->Bool):KD->KD->Bool
 |.non,.non=>b5|.bl a,.bl b=>a==b|.bl a,.int b=>(if a then 1 else 0)==b|.int a,.bl b=>a==(if b then 1 else 0)|.int a,.int b=>a==b|.str a,.str b=>a==b|.tup n,.tup k=>(YN (min n k)).all e&&n==k|.lst n,.lst k=>(YN (min n k)).all e&&n==k|_,_=>b4
noncomputable def uI(A:Yt)(s:XD)(u v:Value)(e:Nat->Bool):Prop:=
 (∀l b c a,u=.ref l->v=.ref b->s.heap.IsTuple l c->s.heap.IsTuple b a->∀j (h1:j<c.size)(d:j<a.size),EqAt A.in1 s c[j] a[j] (e j)) /\
 (∀l b c a,u=.ref l->v=.ref b->s.heap.IsList l c->s.heap.IsList b a->∀j (h1:j<c.size)(d:j<a.size),EqAt A.in1 s c[j] a[j] (e j))
section
variable{A:Yt}{s:XD}{u v:Value}{k k':KD}{e:Nat->Bool}
theorem Dw{n k:Nat}(e:Nat->Bool)(h:n=k):((YN (min n k)).all e&&n==k)=(YN n).all e:=by subst h;simp
theorem Dx{n k:Nat}(e:Nat->Bool)(h:n≠k):((YN (min n k)).all e&&n==k)=false:=by simp[h]
theorem yL(h:IsK s u k)(h':IsK s v k')(c:A.units<Zk)(o:uI A s u v e):RcAt A s u v (pG e k k'):=by
 cases h with
 |non=>
  cases h' with
  |non=>exact RcAt.none_none|bl b=>exact RcAt.none_bool b|int i t=>exact RcAt.none_int i t|str x t=>exact RcAt.none_str x t|tup h=>exact RcAt.none_tuple h c|lst h=>exact RcAt.none_list h c
 |bl a=>
  cases h' with
  |non=>exact RcAt.bool_none a|bl b=>exact RcAt.bool_bool a b|int i t=>exact RcAt.bool_int a i t|str x t=>exact RcAt.bool_str a x t|tup h=>exact RcAt.bool_tuple a h c|lst h=>exact RcAt.bool_list a h c
 |int a j=>
  cases h' with
  |non=>exact RcAt.int_none a j|bl b=>exact RcAt.int_bool a j b|int i t=>exact RcAt.int_int a j i t|str x t=>exact RcAt.int_str a j x t|tup h=>exact RcAt.int_tuple a j h c|lst h=>exact RcAt.int_list a j h c
 |str a j=>
  cases h' with
  |non=>exact RcAt.str_none a j|bl b=>exact RcAt.str_bool a j b|int i t=>exact RcAt.str_int a j i t|str x t=>exact RcAt.str_str a j x t|tup h=>exact RcAt.str_tuple a j h c|lst h=>exact RcAt.str_list a j h c
 |tup g=>
  cases h' with
  |non=>exact RcAt.tuple_none g c|bl b=>exact RcAt.tuple_bool b g c|int i t=>exact RcAt.tuple_int i t g c|str x t=>exact RcAt.tuple_str x t g c|tup h=>have:=RcAt.tuples (e:=e) g h c (o.1 _ _ _ _ rfl rfl g h);simpa[pG]using this|lst h=>exact RcAt.tuple_list g h c
 |lst g=>
  cases h' with
  |non=>exact RcAt.list_none g c|bl b=>exact RcAt.list_bool b g c|int i t=>exact RcAt.list_int i t g c|str x t=>exact RcAt.list_str x t g c|tup h=>exact RcAt.list_tuple g h c|@lst b d h=>
   rename_i l m;by_cases n:m.length=d.length
   ·have:=RcAt.lists (e:=e) g h (by simpa using n) c (o.2 _ _ _ _ rfl rfl g h);show RcAt A s _ _ ((YN (min m.length d.length)).all e&&m.length==d.length);rw[Dw e n];simpa using this
   ·have:=RcAt.lists_lengths g h (by simpa using n) c;show RcAt A s _ _ ((YN (min m.length d.length)).all e&&m.length==d.length);rw[Dx e n];exact this
theorem M7(h:IsK s u k)(h':IsK s v k')(c:A.units<Zk)(o:uI A s u v e):RcNeAt A s u v (!pG e k k'):=by
 cases h with
 |non=>
  cases h' with
  |non=>exact RcNeAt.none_none|bl b=>exact RcNeAt.none_bool b|int i t=>exact RcNeAt.none_int i t|str x t=>exact RcNeAt.none_str x t|tup h=>exact RcNeAt.none_tuple h c|lst h=>exact RcNeAt.none_list h c
 |bl a=>
  cases h' with
  |non=>exact RcNeAt.bool_none a|bl b=>exact RcNeAt.bool_bool a b|int i t=>exact RcNeAt.bool_int a i t|str x t=>exact RcNeAt.bool_str a x t|tup h=>exact RcNeAt.bool_tuple a h c|lst h=>exact RcNeAt.bool_list a h c
 |int a j=>
  cases h' with
  |non=>exact RcNeAt.int_none a j|bl b=>exact RcNeAt.int_bool a j b|int i t=>exact RcNeAt.int_int a j i t|str x t=>exact RcNeAt.int_str a j x t|tup h=>exact RcNeAt.int_tuple a j h c|lst h=>exact RcNeAt.int_list a j h c
 |str a j=>
  cases h' with
  |non=>exact RcNeAt.str_none a j|bl b=>exact RcNeAt.str_bool a j b|int i t=>exact RcNeAt.str_int a j i t|str x t=>exact RcNeAt.str_str a j x t|tup h=>exact RcNeAt.str_tuple a j h c|lst h=>exact RcNeAt.str_list a j h c
 |tup g=>
  cases h' with
  |non=>exact RcNeAt.tuple_none g c|bl b=>exact RcNeAt.tuple_bool b g c|int i t=>exact RcNeAt.tuple_int i t g c|str x t=>exact RcNeAt.tuple_str x t g c|tup h=>have:=RcNeAt.tuples (e:=e) g h c (o.1 _ _ _ _ rfl rfl g h);simpa[pG]using this|lst h=>exact RcNeAt.tuple_list g h c
 |lst g=>
  cases h' with
  |non=>exact RcNeAt.list_none g c|bl b=>exact RcNeAt.list_bool b g c|int i t=>exact RcNeAt.list_int i t g c|str x t=>exact RcNeAt.list_str x t g c|tup h=>exact RcNeAt.list_tuple g h c|@lst b d h=>
   rename_i l m;by_cases n:m.length=d.length
   ·have:=RcNeAt.lists (e:=e) g h (by simpa using n) c (o.2 _ _ _ _ rfl rfl g h);show RcNeAt A s _ _ (!((YN (min m.length d.length)).all e&&m.length==d.length));rw[Dw e n];simpa using this
   ·have:=RcNeAt.lists_lengths g h (by simpa using n) c;show RcNeAt A s _ _ (!((YN (min m.length d.length)).all e&&m.length==d.length));rw[Dx e n];exact this
theorem M8(h:IsK s u k)(h':IsK s v k')(c:A.units<Zk)(o:uI A s u v e)(n:∀l b,u=.ref l->v=.ref b->l≠b):EqAt A s u v (pG e k k'):=by
 cases h with
 |non=>
  cases h' with
  |non=>exact EqAt.same _|bl b=>exact EqAt.none_bool b|int i t=>exact EqAt.none_int i t|str x t=>exact EqAt.none_str x t|tup h=>exact EqAt.none_tuple h c|lst h=>exact EqAt.none_list h c
 |bl a=>
  cases h' with
  |non=>exact EqAt.bool_none a|bl b=>exact EqAt.bool_bool a b|int i t=>exact EqAt.bool_int a i t|str x t=>exact EqAt.bool_str a x t|tup h=>exact EqAt.bool_tuple a h c|lst h=>exact EqAt.bool_list a h c
 |int a d=>
  cases h' with
  |non=>exact EqAt.int_none a d|bl b=>exact EqAt.int_bool a d b|int i t=>exact EqAt.int_int a d i t|str x t=>exact EqAt.int_str a d x t|tup h=>exact EqAt.int_tuple a d h c|lst h=>exact EqAt.int_list a d h c
 |str a d=>
  cases h' with
  |non=>exact EqAt.str_none a d|bl b=>exact EqAt.str_bool a d b|int i t=>exact EqAt.str_int a d i t|str x t=>exact EqAt.str_str a d x t|tup h=>exact EqAt.str_tuple a d h c|lst h=>exact EqAt.str_list a d h c
 |@tup l m g=>
  cases h' with
  |non=>exact EqAt.tuple_none g c|bl b=>exact EqAt.tuple_bool b g c|int i t=>exact EqAt.tuple_int i t g c|str x t=>exact EqAt.tuple_str x t g c|@tup b j h=>exact EqAt.of_refs (n l b rfl rfl) (yL (k:=.tup m.length) (k':=.tup j.length) (.tup g) (.tup h) c o)|lst h=>exact EqAt.tuple_list g h c
 |@lst l m g=>
  cases h' with
  |non=>exact EqAt.list_none g c|bl b=>exact EqAt.list_bool b g c|int i t=>exact EqAt.list_int i t g c|str x t=>exact EqAt.list_str x t g c|tup h=>exact EqAt.list_tuple g h c|@lst b j h=>exact EqAt.of_refs (n l b rfl rfl) (yL (k:=.lst m.length) (k':=.lst j.length) (.lst g) (.lst h) c o)
end
inductive KdD where
 |non|bl (b:Bool)|int (i:Int)|str (x:Str)|tup (xs:List D)|lst (xs:List D)
noncomputable def e8(c:Hm):D->Option KdD
 |.non=>aX .non|.bl b=>aX (.bl b)|.int i=>aX (.int i)|.str x=>aX (.str x)|.tup xs=>aX (.tup xs)|.rol xs=>aX (.lst xs)|.loc a=>match c[a]? with|some (.lst xs)=>aX (.lst xs)|_=>aY
 |.ty _=>aY
noncomputable def iK(f:D->D->Option Bool):List D->List D->Option Bool
 |x::xs,y::ys=>(f x y).bind λb=>(iK f xs ys).map λc=>b&&c|[],[]=>aX b5|_,_=>aX b4
noncomputable def jS(f:D->D->Option Bool):KdD->KdD->Option Bool
 |.non,.non=>aX b5|.bl a,.bl b=>aX (a==b)|.bl a,.int b=>aX ((if a then 1 else 0)==b)|.int a,.bl b=>aX (a==(if b then 1 else 0))|.int a,.int b=>aX (a==b)|.str a,.str b=>aX (a==b)|.tup xs,.tup ys=>iK f xs ys|.lst xs,.lst ys=>iK f xs ys|_,_=>aX b4
noncomputable abbrev yM(f:D->D->Option Bool):D->D->Option Bool:=f
theorem Dy{f:D->D->Option Bool}{x y:D}{b:Bool}(h:yM f x y=aX b):f x y=aX b\/(b=b5/\∃a,x=.loc a/\y=.loc a):=.inl h
noncomputable def cS:Nat->Hm->D->D->Option Bool
 |0,_,_,_=>aY|n+1,μ,x,y=>(e8 μ x).bind λa=>(e8 μ y).bind λb=>jS (yM (cS n μ)) a b
noncomputable abbrev jT(n:Nat)(a:Hm):D->D->Option Bool:=yM (cS n a)
noncomputable def yN:KdD->KD
 |.non=>.non|.bl b=>.bl b|.int i=>.int i|.str x=>.str x|.tup xs=>.tup xs.length|.lst xs=>.lst xs.length
noncomputable def pH:KdD->List D
 |.tup xs=>xs|.lst xs=>xs|_=>[]
section
variable{X:Cx}{a8T:jw}{σ:St}{H:Hp}{s:XD}{π:Nat->Addr}{μ:Hm}
inductive KdAt (X:Cx)(π:Nat->Addr)(n:Nat)(H:Hp)(s:XD)(u:Value):KdD->Prop where
 |non (h:u=.none):KdAt X π n H s u .non
 |bl (b:Bool)(h:u=.bool b):KdAt X π n H s u (.bl b)
 |int (i:Int)(t:a8S)(h:u=.int i t):KdAt X π n H s u (.int i)
 |str (x:Str)(t:a8S)(h:u=.str x t):KdAt X π n H s u (.str x)
 |tup {xs:List D}(p:Addr)(vs:gw)(its:gq)(h:u=.ref p)(q:SqT X.K H p vs)(i:IsDs X.K π n H vs xs)(r:Vals vs its)(t:s.heap.IsTuple p its.toArray):KdAt X π n H s u (.tup xs)
 |lst {xs:List D}(p:Addr)(vs:gw)(its:gq)(h:u=.ref p)(q:SqL X.K H p vs)(i:IsDs X.K π n H vs xs)(r:Vals vs its)(t:s.heap.IsList p its.toArray):KdAt X π n H s u (.lst xs)
theorem pI(I:Inv X a8T σ H s)(R:Rp X.K π H μ){v:V}{d:D}{u:Value}(h:IsD X.K π μ.length H v d)(r:RelV v u){k:KdD}(e:e8 μ d=aX k):KdAt X π μ.length H s u k:=by
 cases h with
 |non=>cases e;exact .non r|bl b=>cases e;exact .bl b r|int i=>cases e;obtain⟨t,q⟩:=r;exact .int i t q|str x=>cases e;obtain⟨t,q⟩:=r;exact .str x t q|ty x=>cases e|tup q t=>cases e;obtain⟨c,g,p,_⟩:=I.tuple q;exact .tup _ _ c r q t g p|rol q t=>cases e;obtain⟨c,g,p,_⟩:=I.list q.sq;exact .lst _ _ c r q.sq t g p.isList|@loc a w=>
  simp only[e8]at e;split at e
  ·rename_i o m;cases e;obtain⟨n,j,l⟩:=R.lst a o m;have q:SqL X.K H (π a) n:=.of j;obtain⟨c,g,p,_⟩:=I.list q;exact .lst _ _ c r q l g p.isList
  ·cases e
theorem KdAt.isK{u:Value}{k:KdD}{n:Nat}(h:KdAt X π n H s u k):IsK s u (yN k):=by
 cases h with
 |non h=>subst h;exact .non|bl b h=>subst h;exact .bl b|int i t h=>subst h;exact .int i t|str x t h=>subst h;exact .str x t|tup p c a h q i r t=>subst h;have:a.length=_:=r.length.symm.trans i.length;show IsK s (.ref p) (.tup _);rw[<- this];exact .tup t|lst p c a h q i r t=>subst h;have:a.length=_:=r.length.symm.trans i.length;show IsK s (.ref p) (.lst _);rw[<- this];exact .lst t
noncomputable def i9(f:D->D->Option Bool)(xs a:List D)(j:Nat):Bool:=match xs[j]?,a[j]? with
 |some x,aX y=>(f x y).getD b4|_,_=>b4
theorem yO{f:D->D->Option Bool}:∀{xs a:List D}{b:Bool},iK f xs a=aX b->b=((YN (min xs.length a.length)).all (i9 f xs a)&&xs.length==a.length)/\∀(j:Nat) x y,xs[j]?=aX x->a[j]?=aX y->f x y=aX (i9 f xs a j)
 |[],[],b,h=>by cases h;exact⟨rfl,λj x y e=>by simp at e⟩
 |x::xs,[],b,h=>by cases h;exact⟨by simp,λj x y _ e=>by simp at e⟩
 |[],y::a,b,h=>by cases h;exact⟨by simp,λj x y e=>by simp at e⟩
 |x::xs,y::a,b,h=>by
  simp only[iK]at h;obtain⟨c,l,n⟩:=Xv.mp h;obtain⟨d,o,p⟩:=XA.mp n;obtain⟨q,r⟩:=yO o;have k:i9 f (x::xs) (y::a) 0=c:=by simp[i9,l]
  have m:∀j,i9 f (x::xs) (y::a) (j+1)=i9 f xs a j:=λj=>by simp[i9]
  refine⟨?_,λj u v g i=>?_⟩
  ·subst p;rw[q];simp only[Ym,Nat.add_min_add_right];rw[a5h,YG,List.all_map,k];have:(i9 f (x::xs) (y::a)∘Nat.succ)=i9 f xs a:=funext λj=>m j;rw[this];simp[Bool.and_assoc]
  ·cases j with
   |zero=>simp at g i;subst g;subst i;rw[k,l]|succ j=>rw[m j];exact r j u v (by simpa using g) (by simpa using i)
theorem Dz{f:D->D->Option Bool}{k k':KdD}{b:Bool}(h:jS f k k'=aX b):b=pG (i9 f (pH k) (pH k')) (yN k) (yN k'):=by
 cases k<;>cases k'<;>simp only[jS]at h<;>first
  |(have a:=XZ h;subst a;rfl)|(obtain⟨c,_⟩:=yO h;rw[c];rfl)
theorem M9(I:Inv X a8T σ H s)(R:Rp X.K π H μ):∀(n:Nat){v:V}{u:Value}{x y:D}{b:Bool},RelV v u->IsD X.K π μ.length H v x->IsD X.K π μ.length H v y->cS n μ x y=aX b->b=true:=by
 intro n;induction n with
 |zero=>intro v u x y b _ _ _ h;cases h|succ n ih=>
  intro v u x y b r hx hy h;obtain⟨k,T,h⟩:=Xv.mp h;obtain⟨k',h2,h⟩:=Xv.mp h;have a1:=pI I R hx r T;have o:=pI I R hy r h2;have g:∀{vs:gw}{xs Q:List D}{c:Bool},(∀v∈vs,∃u,RelV v u)->IsDs X.K π μ.length H vs xs->IsDs X.K π μ.length H vs Q->iK (jT n μ) xs Q=aX c->c=true:=by
   intro vs;induction vs with
   |nil=>intro xs Q c _ Y m h;cases Y;cases m;cases h;rfl|cons w vs Z=>
    intro xs Q c hr Y m h;cases Y with
    |cons p1 t1=>
     cases m with
     |cons K B=>simp only[iK]at h;obtain⟨c1,T,h3⟩:=Xv.mp h;obtain⟨c2,h4,h5⟩:=XA.mp h3;obtain⟨O,M⟩:=hr w (X8 ..);have a:c1=true:=(Dy T).elim (ih M p1 K) (·.1);have l:=Z (λv G=>hr v (X7 _ G)) t1 B h4;subst a;subst l;exact h5.symm
  cases a1 with
  |non a=>
   subst a;cases o with
   |non _=>simp only[jS]at h;exact(XZ h).symm|bl _ e=>cases e|int _ _ e=>cases e|str _ _ e=>cases e|tup _ _ _ e=>cases e|lst _ _ _ e=>cases e
  |bl c a=>
   subst a;cases o with
   |non e=>cases e|bl _ e=>cases e;simp only[jS,beq_self_eq_true]at h;exact(XZ h).symm|int _ _ e=>cases e|str _ _ e=>cases e|tup _ _ _ e=>cases e|lst _ _ _ e=>cases e
  |int c t a=>
   subst a;cases o with
   |non e=>cases e|bl _ e=>cases e|int _ _ e=>cases e;simp only[jS,beq_self_eq_true]at h;exact(XZ h).symm|str _ _ e=>cases e|tup _ _ _ e=>cases e|lst _ _ _ e=>cases e
  |str c t a=>
   subst a;cases o with
   |non e=>cases e|bl _ e=>cases e|int _ _ e=>cases e|str _ _ e=>cases e;simp only[jS,beq_self_eq_true]at h;exact(XZ h).symm|tup _ _ _ e=>cases e|lst _ _ _ e=>cases e
  |tup p vs J a q i N t=>
   have z:KdAt X π μ.length H s (.ref p) _:=a▸KdAt.tup p vs J a q i N t;rw[a]at o;cases o with
   |non e=>cases e|bl _ e=>cases e|int _ _ e=>cases e|str _ _ e=>cases e|tup K E d l L m A B=>
    cases l;have:=I.tuple_inj q L;subst this;exact g (λv G=>by
     obtain⟨j,U,rfl⟩:=a5R G;obtain⟨O,_,M⟩:=N.get (XM U);exact⟨O,M⟩) i m h
   |lst K E d l L m A B=>cases l;exact absurd rfl (ZQ B t)
  |lst p vs J a q i N t=>
   rw[a]at o;cases o with
   |non e=>cases e|bl _ e=>cases e|int _ _ e=>cases e|str _ _ e=>cases e|tup K E d l L m A B=>cases l;exact absurd rfl (ZQ t B)|lst K E d l L m A B=>
    cases l;have:=I.list_inj q L;subst this;exact g (λv G=>by
     obtain⟨j,U,rfl⟩:=a5R G;obtain⟨O,_,M⟩:=N.get (XM U);exact⟨O,M⟩) i m h
theorem n6(A:Yt):A.in1.units=A.units+1:=rfl
theorem DA(I:Inv X a8T σ H s){A:Yt}{n:Nat}(ih:∀{A:Yt}{v v':V}{u u':Value}{x y:D}{b:Bool},A.units+n<Zk->RelV v u->RelV v' u'->IsD X.K π μ.length H v x->IsD X.K π μ.length H v' y->cS n μ x y=aX b->EqAt A s u u' b)
  (hu:A.units+(n+1)<Zk){u u':Value}{k k':KdD}{b:Bool}(a1:KdAt X π μ.length H s u k)(a2:KdAt X π μ.length H s u' k')(h:jS (jT n μ) k k'=aX b):uI A s u u' (i9 (jT n μ) (pH k) (pH k')):=by
 have G:∀{vs Q:gw}{its its':gq}{xs U:List D}{c:Bool},Vals vs its->Vals Q its'->IsDs X.K π μ.length H vs xs->IsDs X.K π μ.length H Q U->iK (jT n μ) xs U=aX c->
   ∀j (h1:j<its.length)(T:j<its'.length),EqAt A.in1 s its[j] its'[j] (i9 (jT n μ) xs U j):=by
  intro vs Q its its' xs U c r r' i i' e j h1 T;have l1:=r.length;have l2:=r'.length;have l3:=i.length;have l4:=i'.length;have hx:xs[j]?=aX (xs[j]'(by lia)):=XM _;have hy:U[j]?=aX (U[j]'(by lia)):=XM _;obtain⟨v,v1,v2⟩:=i.get hx;obtain⟨v',v1',v2'⟩:=i'.get hy;obtain⟨w,w1,w2⟩:=r.get v1;obtain⟨w',w1',w2'⟩:=r'.get v1';rw[XM h1]at w1;rw[XM T]at w1';cases w1;cases w1';have key:∀{x y:D}{b:Bool},IsD X.K π μ.length H v x->IsD X.K π μ.length H v' y->jT n μ x y=aX b->EqAt A.in1 s its[j] its'[j] b:=λ{x y b} i1 J hq=>by
   rcases Dy hq with hq|⟨rfl,a,rfl,rfl⟩
   ·exact ih (by rw[n6];lia) w2 w2' i1 J hq
   ·cases i1;cases J;have z1:its[j]=XO (π a):=w2;have z2:its'[j]=XO (π a):=w2';rw[z1,z2];exact EqAt.same _
  exact key v2 v2' ((yO e).2 j _ _ hx hy)
 constructor
 ·intro l b' E z e1 e2 Z t2 j h1 T;subst e1;subst e2;cases a1 with
  |tup p vs its e q i r t=>
   cases e;cases a2 with
   |tup p2 R B d q2 J Y O=>
    cases d;have z1:E=its.toArray:=by obtain⟨o,K,g2,n1,M⟩:=Z;obtain⟨o',g,L,N,m⟩:=t;rw[K]at g;cases g;rw[M]at m;injection m
    have z2:z=B.toArray:=by obtain⟨o,K,g2,n1,M⟩:=t2;obtain⟨o',g,L,N,m⟩:=O;rw[K]at g;cases g;rw[M]at m;injection m
    subst z1;subst z2;have:=G r Y i J h j (by simpa using h1) (by simpa using T);simpa[pH]using this
   |lst p2 R B d q2 J Y O=>cases d;exact absurd rfl (ZQ O t2)|non d=>cases d|bl _ d=>cases d|int _ _ d=>cases d|str _ _ d=>cases d
  |lst p vs its e q i r t=>cases e;exact absurd rfl (ZQ t Z)|non e=>cases e|bl _ e=>cases e|int _ _ e=>cases e|str _ _ e=>cases e
 ·intro l b' E z e1 e2 Z t2 j h1 T;subst e1;subst e2;cases a1 with
  |lst p vs its e q i r t=>
   cases e;cases a2 with
   |lst p2 R B d q2 J Y O=>
    cases d;have z1:E=its.toArray:=by obtain⟨o,K,g2,n1,M⟩:=Z;obtain⟨o',g,L,N,m⟩:=t;rw[K]at g;cases g;rw[M]at m;injection m
    have z2:z=B.toArray:=by obtain⟨o,K,g2,n1,M⟩:=t2;obtain⟨o',g,L,N,m⟩:=O;rw[K]at g;cases g;rw[M]at m;injection m
    subst z1;subst z2;have:=G r Y i J h j (by simpa using h1) (by simpa using T);simpa[pH]using this
   |tup p2 R B d q2 J Y O=>cases d;exact absurd rfl (ZQ t2 O)|non d=>cases d|bl _ d=>cases d|int _ _ d=>cases d|str _ _ d=>cases d
  |tup p vs its e q i r t=>cases e;exact absurd rfl (ZQ Z t)|non e=>cases e|bl _ e=>cases e|int _ _ e=>cases e|str _ _ e=>cases e
theorem yP(I:Inv X a8T σ H s)(R:Rp X.K π H μ):∀(n:Nat){A:Yt}{v c:V}{u a:Value}{x y:D}{b:Bool},A.units+n<Zk->RelV v u->RelV c a->IsD X.K π μ.length H v x->IsD X.K π μ.length H c y->cS n μ x y=aX b->EqAt A s u a b:=by
 intro n;induction n with
 |zero=>intro A v c u a x y b _ _ _ _ _ h;cases h|succ n J=>
  intro A v c u a x y b G r m i j h;have q:=h;obtain⟨k,w,h⟩:=Xv.mp h;obtain⟨L,B,h⟩:=Xv.mp h;have d:=pI I R i r w;have e:=pI I R j m B;by_cases g:u=a
  ·subst g;have:v=c:=r.inj m;subst this;have:=M9 I R (n+1) r i j q;subst this;exact EqAt.same _
  ·have E:=DA I J G d e h;rw[Dz h];exact M8 d.isK e.isK (by lia) E λl K o p z=>g (by rw[o,p,z])
theorem DB(I:Inv X a8T σ H s)(R:Rp X.K π H μ)(n:Nat){A:Yt}{v g:V}{u d:Value}{x y:D}{b:Bool}(l:A.units+n<Zk)(r:RelV v u)(p:RelV g d)(m:IsD X.K π μ.length H v x)(o:IsD X.K π μ.length H g y)(h:cS n μ x y=aX b) :
  RcAt A s u d b/\RcNeAt A s u d (!b):=by
 cases n with
 |zero=>cases h|succ n=>obtain⟨k,i,h⟩:=Xv.mp h;obtain⟨q,j,h⟩:=Xv.mp h;have a:=pI I R m r i;have c:=pI I R o p j;have e:=DA I (A:=A) (yP I R n) l a c h;rw[Dz h];exact⟨yL a.isK c.isK (by lia) e,M7 a.isK c.isK (by lia) e⟩
end
section
variable{K:Xy}
noncomputable def m4(g:Int->Int->Option Int):D->D->Hm->jk
 |.int i,.int j,μ=>(g i j).map λz=>(.int z,μ)|_,_,_=>aY
theorem DC{g:Int->Int->Option Int}{x y d:D}{b a:Hm}(h:m4 g x y b=aX (d,a)):∃i j z,x=.int i/\y=.int j/\g i j=aX z/\d=.int z/\a=b:=by
 unfold m4 at h;split at h
 ·rename_i i j;obtain⟨z,c,e⟩:=XA.mp h;cases e;exact⟨i,j,z,rfl,rfl,c,rfl,rfl⟩
 ·cases h
theorem yQ{a:Int->Int->Prop}{g:Int->Int->Option Int}{g':Int->Int->Int}(e:∀i j z,g i j=aX z->a i j/\z=g' i j):dC K (m4 g) (rI a λi j=>.int (g' i j)):=by intro o H r x y d n p q Q R l m h k;obtain⟨i,j,z,rfl,rfl,b,rfl,rfl⟩:=DC h;cases l;cases m;obtain⟨c,rfl⟩:=e i j z b;exact⟨i,j,rfl,rfl,c,k o _ H .refl R (.int _)⟩
theorem Na{g':Int->Int->Int}:dC K (m4 λi j=>aX (g' i j)) (iG λi j=>.int (g' i j)):=by intro h H n x y d g l m Q R c e b k;obtain⟨i,j,z,rfl,rfl,a,rfl,rfl⟩:=DC b;cases c;cases e;cases a;exact⟨i,j,rfl,rfl,k h _ H .refl R (.int _)⟩
noncomputable def iL:=m4 λi j=>aX (i-j)
noncomputable def DD:=m4 λi j=>if((-(2^64)<i/\i<2^64)\/(-(2^64)<j/\j<2^64))\/(i.natAbs<2^4000/\j.natAbs<2^4000)\/YB i+YB j<=134217728 then aX (i*j)else aY
noncomputable def bU:D->D->Hm->jk
 |x,y,μ=>DD x y μ
noncomputable def eD:=m4 λi j=>if 0<j/\j<2^4000 then aX (i/j)else aY
noncomputable def bH:=m4 λi j=>if 0<j then aX (i%j)else aY
noncomputable def CMulB(i j:Int):Prop:=CMul i j\/(i.natAbs<2^4000/\j.natAbs<2^4000)\/YB i+YB j<=134217728
noncomputable def DE(i j:Int):Prop:=0<j/\j<2^4000
theorem DF{i:Int}(h:i.natAbs<2^4000):YB i<=4000:=by
 unfold YB;split
 ·exact Yu _
 ·rename_i b;have a:i.natAbs≠0:=by intro z;exact b (by simpa using z)
  have:=(a8y a).mpr h;lia
theorem CMulB.ok{i j:Int}(h:CMulB i j):a7i i j:=by
 rcases h with h|⟨b,c⟩|h
 ·exact h.ok
 rotate_left
 ·have a:a1j (YB i+YB j)=false:=by
   unfold a1j;rw[decide_eq_false];have:bitsLine=134217728:=by decide
   lia
  unfold a7i;rw[a];simp
 ·have d:=DF b;have e:=DF c;have a:a1j (YB i+YB j)=false:=by
   unfold a1j;rw[decide_eq_false];have:(8000:Int)<=bitsLine:=by decide
   lia
  unfold a7i;rw[a];simp
section
variable{X:Cx}
theorem Nb:OpR X (a0S .Mult) (rI CMulB λi j=>.int (i*j)):=xP λ_ _ _ _ _ _ _ hc q=>a8n q hc.ok
theorem Nc:OpR X (a0S .FloorDiv) (rI DE λi j=>.int (i/j)):=xP λi j _ _ _ _ _ hc q=>by
 have c:(0:Int)<j:=hc.1;have d:j<2^4000:=hc.2;have a:j.natAbs≠0:=by lia
 have b:j.natAbs<2^4000:=by
  have:((2^4000:Nat):Int)=2^4000:=by decide
  lia
 have e:=(a8y a).mpr b;exact a8p (by lia) (by rw[Int.fdiv_eq_ediv_of_nonneg i (by lia)];exact q) (.inl (PyProof.noPylong_of_log2 (by lia)))
end
theorem yR{c:Prop} [Decidable c] {a z:Int}(h:(if c then aX a else aY)=aX z):c/\z=a:=by
 split at h
 ·cases h;exact⟨by assumption,rfl⟩
 ·cases h
theorem Nd:dC K iL (iG λi j=>.int (i-j)):=Na
theorem Nf:dC K DD (rI CMulB λi j=>.int (i*j)):=yQ λi j z h=>by have:=yR h;exact this
theorem Ng:dC K bU (rI CMulB λi j=>.int (i*j)):=Nf
theorem Nh:dC K eD (rI DE λi j=>.int (i/j)):=yQ λi j z h=>by have:=yR h;exact this
theorem Ni:dC K bH (rI (λ_ j=>0<j) λi j=>.int (i%j)):=yQ λ_ _ _ h=>yR h
noncomputable def yS:D->Option D
 |.int i=>aX (.int (-i))|_=>aY
noncomputable def bB:D->D->Hm->jk
 |.int i,.int j,μ=>aX (.int (i+j),μ)|.str x,.str y,μ=>if x.length+y.length<=XQ then aX (.str (x++y),μ)else aY|.loc a,.loc b,μ=>match μ[a]?,μ[b]? with
  |some (.lst xs),aX (.lst ys)=>if xs.length+ys.length<=XQ then aX (.loc μ.length,μ++[.lst (xs++ys)])else aY|_,_=>aY
 |.tup xs,.tup ys,μ=>if xs≠[]/\ys≠[]/\xs.length+ys.length<=XQ then aX (.tup (xs++ys),μ)else aY|_,_,_=>aY
noncomputable def yT(K:Xy):R2:=λx y H Q=>iG (λi j=>.int (i+j)) x y H Q\/(∃i j,x=.str i/\y=.str j/\i.length+j.length<=XQ/\Q (.str (i++j)) H)\/C7 x y H Q
theorem op_addB{X:Cx}:OpR X (a0S .Add) (yT X.K):=op_add.or (op_add_str.or LV)
noncomputable def yU(K:Xy):R2:=λx y H Q=>yT K x y H Q\/CN K x y H Q
theorem Nj{X:Cx}:OpR X (a0S .Add) (yU X.K):=op_addB.or LC
theorem yV{K:Xy}{x y:V}{H:Hp}{Q:VK}(h:yT K x y H Q):yU K x y H Q:=.inl h
theorem Nk:dC K bB (yU K):=by
 intro r H J x y d E G I Q R l m a k;unfold bB at a;split at a
 ·cases a;cases l;cases m;exact yV (.inl ⟨_,_,rfl,rfl,k r _ H .refl R (.int _)⟩)
 ·split at a
  ·rename_i n;cases a;cases l;cases m;exact yV (.inr (.inl ⟨_,_,rfl,rfl,n,k r _ H .refl R (.str _)⟩))
  ·cases a
 ·split at a
  ·rename_i w z B c;split at a
   ·rename_i n;cases a;cases l;cases m;obtain⟨u,g,h⟩:=R.lst _ w B;obtain⟨v,A,s⟩:=R.lst _ z c;refine yV (.inr (.inr ⟨_,_,u,v,rfl,rfl,by first|exact g|exact .inl (.inl g),A,by rw[h.length,s.length];exact n,λp o=>?_⟩));obtain⟨b,R2,q⟩:=R.alloc (c:=.lst (w++z)) (o:=.lst (u++v)) o (h.append s);exact k _ _ _ b R2 lQ
   ·cases a
  ·cases a
 ·split at a
  ·rename_i c;cases a;cases l with
   |tup g i=>
    cases m with
    |tup h j=>refine .inr ⟨_,_,_,_,rfl,rfl,g,h,λe=>c.1 (by rw[e]at i;cases i;rfl),by rw[i.length,j.length];exact c.2.2,λe=>absurd (by rw[e]at j;cases j;rfl) c.2.1,λ_ p o=>?_⟩;obtain⟨b,R2⟩:=R.fresh (o:=.tup _) o;exact k r _ _ b R2 (.tup (.of cX) ((i.mono b).append (j.mono b)))
  ·cases a
 ·cases a
noncomputable def hW(p:Int->Int->Bool):D->D->Hm->jk
 |.int i,.int j,μ=>aX (.bl (p i j),μ)|_,_,_=>aY
theorem jC{p:Int->Int->Bool}:dC K (hW p) (iG λi j=>.bl (p i j)):=by
 intro g H m x y d e h l Q R b c a k;unfold hW at a;split at a
 ·cases a;cases b;cases c;exact⟨_,_,rfl,rfl,k g _ H .refl R (.bl _)⟩
 ·cases a
noncomputable def jD:=hW λi j=>decide (i<j)
noncomputable def pJ:=hW λi j=>decide (i<=j)
noncomputable def kL:=hW λi j=>decide (j<i)
noncomputable def yW:=hW λi j=>decide (j<=i)
noncomputable def yX(K:Xy)(ne:Bool):R2:=λx y H Q=>∃π a c d b,Rp K π H a/\IsD K π a.length H x c/\IsD K π a.length H y d/\cS 8 a c d=aX b/\Q (.bl (if ne then !b else b)) H
theorem DG{X:Cx}(c:X.A.units+8<Zk):OpR X (YU .Eq) (yX X.K b4):=by intro a s o H x y v u Q I i j h;obtain⟨n,m,k,l,b,R,d,g,e,q⟩:=h;exact(DB I R 8 c i j d g e).1 _ _ _ _ ⟨.bl b,H,I,rfl,q⟩
theorem DH{X:Cx}(c:X.A.units+8<Zk):OpR X (YU .NotEq) (yX X.K b5):=by intro a s o H x y v u Q I i j h;obtain⟨n,m,k,l,b,R,d,g,e,q⟩:=h;exact(DB I R 8 c i j d g e).2 _ _ _ _ ⟨.bl (!b),H,I,rfl,q⟩
noncomputable def aZ(ne:Bool):D->D->Hm->jk:=λx y a=>(cS 8 a x y).map λb=>(.bl (if ne then !b else b),a)
theorem uJ{ne:Bool}:dC K (aZ ne) (yX K ne):=by intro a H j x y d l m n Q R h i g k;obtain⟨b,c,e⟩:=XA.mp g;cases e;exact⟨a,j,x,y,b,R,h,i,c,k a _ H .refl R (.bl _)⟩
noncomputable def yY:D->D->Hm->jk
 |.str i,.str j,μ=>aX (.bl (!(Zl j i 0 j.length 1).isEmpty),μ)|_,_,_=>aY
theorem DI:dC K yY (λx y H Q=>∃i j,x=.str i/\y=.str j/\Q (.bl (!(Zl j i 0 j.length 1).isEmpty)) H):=by
 intro g H m x y d e h l Q R b c a k;unfold yY at a;split at a
 ·cases a;cases b;cases c;exact⟨_,_,rfl,rfl,k g _ H .refl R (.bl _)⟩
 ·cases a
end
section
variable{X:Cx}{a b c:Expr}{ma mb mc:ME}{pos:Zj}
theorem uK{k:Nat}{A:Yt}(r:Room k A):A.units+8<Zk:=by have:=r.un;lia
theorem Nl(s:PE X a (tM X.K ma)):PE X (.UnaryOp .USub a pos) (tM X.K (λj g=>(ma j g).bind λp=>(yS p.1).map λd=>(d,p.2))):=c9 (KQ KU s) (by
 rintro B H Q ⟨z,j,g,d,v,R,E,e,k⟩;obtain⟨⟨x,w⟩,q,e⟩:=Xv.mp e;obtain⟨y,l,r⟩:=XA.mp e;cases r;cases x with
 |int i=>cases l;refine⟨z,j,g,_,_,R,E,q,λh A m o n u=>?_⟩;cases u;exact⟨_,rfl,k h _ m o n (.int _)⟩
 |_=>cases l)
theorem Nm{x:Str}{n:String}(d:Gl X x)(e:X.mg x=aY)(h:ZA x=aX (.type n))(g:x ≠ "__name__":=by decide) (hd:(x==("__debug__":Str))=false:=by decide):PE X (.Name x pos) (tM X.K (mC (.ty n))):=
 o8 (JO (v:=.ty n) d e h rfl g hd) λ_ _ _=>.ty n
end
noncomputable def yZ(b:Hm):D->Option String
 |.non=>aX "NoneType"|.bl _=>aX "bool"|.int _=>aX "int"|.str _=>aX "str"|.tup _=>aX "tuple"|.rol _=>aX "list"|.loc a=>match b[a]? with
  |some (.lst _)=>aX "list"|some (.dK _)=>aX "dict"|some (.dT _)=>aX "dict"|_=>aY
 |.ty _=>aY
noncomputable def uL(t c:String):Option Bool:=match c with
 | "int"=>aX (t=="int" || t=="bool")| "bool"=>aX (t=="bool")| "str"=>aX (t=="str")| "list"=>aX (t=="list")| "tuple"=>aX (t=="tuple")| "dict"=>aX (t=="dict")|_=>aY
noncomputable def jE:MF:=λds a=>match ds with
 |[x,.ty c]=>(yZ a x).bind λt=>(uL t c).map λb=>(.bl b,a)|_=>aY
theorem lR (K:Xy){t c:String}{b:Bool}(d:t = "NoneType"\/t = "bool"\/t = "int"\/t = "str"\/t = "tuple"\/t = "list"\/t = "dict") (h:uL t c=aX b):a6p K (.type t) (.type c)=aX b:=by
 unfold uL at h
 split at h<;>first
  | cases h;done
  | (have a:=XZ h;subst a
     rcases d with rfl|rfl|rfl|rfl|rfl|rfl|rfl<;>first|rfl|decide +kernel|(unfold a6p;simp;rfl))
end L3
namespace L3
open PySem L2
noncomputable abbrev MG:=D->aF->Hm->Option aF
inductive tMG (K:Xy)(g:MG)(v:V)(σ:St)(H:Hp)(Q:St->Hp->Prop):Prop
 |mk (π:Nat->Addr)(ρ:aF)(μ:Hm)(d:D)(ρ':aF)(R:Rp K π H μ)(E:En K π μ.length H σ ρ)(i:IsD K π μ.length H v d)(hm:g d ρ μ=aX ρ')(k:∀σ',En K π μ.length H σ' ρ'->Q σ' H):tMG K g v σ H Q
noncomputable def bP(i:Nat):MG:=λd a _=>aX (a.set i (aX d))
section
variable{X:Cx}{pos:Zj}
theorem DJ{i:Nat}{x:Str}(b:X.N.Nodup)(hi:X.N[i]?=aX x)(g:Loc X.env.scope x)(c:X.fn x=b5\/X.env.scope.names.lookup x=aX .local:=by first|exact .inl rfl|exact .inr rfl|assumption):PG X (.Name x pos) (tMG X.K (bP i)):=by intro a s l H v u Q I r h;obtain⟨n,o,m,d,j,R,E,hd,e,k⟩:=h;cases e;exact Cj b hi g c a s l H v u Q I r (k _ (E.set hd i))
noncomputable def Nn(K:Xy)(c:TE):TI:=λσ H R=>c σ H λx b=>∃a,x=.ref a/\(((∃xs,SqL K b a xs)/\R (xK K a) b)\/((∃xs,SqT K b a xs)/\R (xM K a) b))
theorem Np{l tg:Expr}{n:TE}(r:PE X l n):PI X tg l (Nn X.K n):=by
 intro i s B H R I h;refine aR (r i s B H _ I h) λv c ⟨x,m,d,y,w⟩=>?_;obtain⟨a,e,q⟩:=w;subst e;cases y;rcases q with⟨⟨A,k⟩,q⟩|⟨⟨A,k⟩,q⟩
 ·obtain⟨g,z,p,u⟩:=d.list k;refine a4f p.isList ?_;refine⟨c.heap.objs.size,[c.heap.objs.size],_,_,m,rfl,d.kept (t':=c.toks) λb o e=>XE _ e,Kw a _,⟨_,XT _ rfl,rfl,rfl⟩,λb j=>?_,q⟩;have e:b=c.heap.objs.size:=by simpa using j
  subst e;exact d.fpOk (XJ _) (d.hok.fresh (XJ _))
 ·obtain⟨g,z,p,u⟩:=d.tuple k;refine wpAny_pyIter_tuple (show c.heap.IsTuple a g.toArray from p) ?_;refine⟨c.heap.objs.size,[c.heap.objs.size],_,_,m,rfl,d.kept (t':=c.toks) λb o e=>XE _ e,Ky a _,⟨_,XT _ rfl,rfl,rfl⟩,λb j=>?_,q⟩;have e:b=c.heap.objs.size:=by simpa using j
  subst e;exact d.fpOk (XJ _) (d.hok.fresh (XJ _))
end
structure Wk(K:Xy)(J:It)(src:Hm->Nat->Option (Option D))(π:Nat->Addr)(n:Nat)(H:Hp):Prop where
 stop:∀π' μ H' i,Ext π n H π' μ.length H'->Rp K π' H' μ->src μ i=aX aY->J.stop i H'
 go:∀π' μ H' i d,Ext π n H π' μ.length H'->Rp K π' H' μ->src μ i=aX (aX d)->J.go i H'/\∀x H2,J.yld i H' x H2->Ext π' μ.length H' π' μ.length H2/\Rp K π' H2 μ/\IsD K π' μ.length H2 x d
noncomputable def lT(x:D):Hm->Nat->Option (Option D):=λa i=>(bK a x).map λxs=>xs[i]?
theorem Nq{K:Xy}{π:Nat->Addr}{A:Hm}{H:Hp}{v:V}{x:D}{xs:List D}(R:Rp K π H A)(h:IsD K π A.length H v x)(B:bK A x=aX xs) :
  ∃a,v=.ref a/\(((∃b,SqL K H a b)/\Wk K (xK K a) (lT x) π A.length H)\/((∃b,SqT K H a b)/\Wk K (xM K a) (lT x) π A.length H)):=by
 cases h with
 |@tup p b ds q t=>
  refine⟨p,rfl,.inr ⟨⟨b,q⟩,⟨λk j o i e l z=>?_,λk j o i d e l z=>?_⟩⟩⟩
  ·simp only[lT,bK,X3]at z;have g:ds[i]?=none:=XZ z;exact⟨b,e.sqT q,by rw[t.length];exact Yy.mp g⟩
  ·simp only[lT,bK,X3]at z;have g:ds[i]?=aX d:=XZ z;obtain⟨w,c,m⟩:=t.get g;refine⟨⟨b,w,e.sqT q,c⟩,λy I ⟨r,s⟩=>?_⟩;subst r;have:=s b (e.sqT q);rw[c]at this;cases this;exact⟨.refl,l,m.mono e⟩
 |@rol p b ds q t=>
  refine⟨p,rfl,.inl ⟨⟨b,q.sq⟩,⟨λk j o i e l z=>?_,λk j o i d e l z=>?_⟩⟩⟩
  ·simp only[lT,bK,X3]at z;have g:ds[i]?=none:=XZ z;exact⟨b,(e.roL q).sq,by rw[t.length];exact Yy.mp g⟩
  ·simp only[lT,bK,X3]at z;have g:ds[i]?=aX d:=XZ z;obtain⟨w,c,m⟩:=t.get g;refine⟨⟨b,w,(e.roL q).sq,c⟩,λy I ⟨r,s⟩=>?_⟩;subst r;have:=s b (e.roL q).sq;rw[c]at this;cases this;exact⟨.refl,l,m.mono e⟩
 |@loc a L=>
  have hc:∃b,H (π a)=aX (.lst b):=by
   simp only[bK]at B;split at B
   ·rename_i n u;obtain⟨b,c,_⟩:=R.lst a n u;exact⟨b,c⟩
   ·cases B
  obtain⟨G,E⟩:=hc;refine⟨π a,rfl,.inl ⟨⟨G,.of E⟩,⟨λk j o i e l z=>?_,λk j o i d e l z=>?_⟩⟩⟩
  ·simp only[lT,bK]at z;split at z
   ·rename_i n u;obtain⟨b,c,m⟩:=l.lst a n u;rw[e.pi a L]at c;have g:n[i]?=none:=XZ z;exact⟨b,.of c,by rw[m.length];exact Yy.mp g⟩
   ·cases z
  ·simp only[lT,bK]at z;split at z
   ·rename_i n u;obtain⟨b,c,m⟩:=l.lst a n u;rw[e.pi a L]at c;have g:n[i]?=aX d:=XZ z;obtain⟨w,J,M⟩:=m.get g;refine⟨⟨b,w,.of c,J⟩,λy I ⟨r,s⟩=>?_⟩;subst r;have:=s b (.of c);rw[J]at this;cases this;exact⟨.refl,l,M⟩
   ·cases z
 |_=>cases B
noncomputable def dD(a:Hm->Nat->Option (Option D))(g:MG)(b:MS):Nat->Nat->MS
 |0,_,_,_=>aY|n+1,i,ρ,μ=>(a μ i).bind λo=>match o with
  |none=>aX (.nx,ρ,μ)|some d=>(g d ρ μ).bind λc=>(b c μ).bind λp=>match p.1 with
   |.nx=>dD a g b n (i+1) p.2.1 p.2.2|.ct=>dD a g b n (i+1) p.2.1 p.2.2|.bk=>aX (.nx,p.2.1,p.2.2)|.rt d=>aX (.rt d,p.2.1,p.2.2)
theorem Nt{K:Xy}{J:It}{B:Hm->Nat->Option (Option D)}{g:MG}{b:MS}{π:Nat->Addr}{Q:Nat}{O:Hp}(W:Wk K J B π Q O){E:Ends}{A:Fl}{p:aF}{j:Hm}(hE:nZ K E π Q O A p j)
  {G:Nat->Addr}{u:Hm}{H1:Hp}{T:aF}{σ1:St}{n:Nat}(e1:Ext π Q O G u.length H1)(R1:Rp K G H1 u)(E1:En K G u.length H1 σ1 T)(h:dD B g b n 0 T u=aX (A,p,j)) :
  ∃Wd:Nat->Nat->St->Hp->Prop,(∃m,Wd 0 m σ1 H1)/\∀i m X H,Wd i m X H->
   (J.stop i H/\E.nx X H)\/(J.go i H/\∃N:St->Hp->Prop,(∀w s,N w s->∃m',m'<m/\Wd (i+1) m' w s)/\∀x s,J.yld i H x s->tMG K g x X s λσ2 H2=>tMS K b {E with nx:=N,ct:=N,bk:=E.nx} σ2 H2):=by
 have lift:∀{a:Nat->Addr}{n2:Nat}{H2:Hp}(e:Ext π Q O a n2 H2){A:Fl}{p:aF}{j:Hm},nZ K E π Q O A p j->nZ K E a n2 H2 A p j:=λ{a n2 H2} e {A p j} k=>by
  cases A with
  |nx=>exact λv r H3 e3 R3 M=>k v r H3 (e.trans e3) R3 M|bk=>exact λv r H3 e3 R3 M=>k v r H3 (e.trans e3) R3 M|ct=>exact λv r H3 e3 R3 M=>k v r H3 (e.trans e3) R3 M|rt d=>exact KC.after k e
 refine⟨λi m X H=>∃a l I,Ext π Q O a l.length H/\Rp K a H l/\En K a l.length H X I/\dD B g b m i I l=aX (A,p,j),⟨n,G,u,T,e1,R1,E1,h⟩,?_⟩;rintro i m X H ⟨a,l,I,z,R2,E2,h2⟩;cases m with
 |zero=>cases h2|succ m=>
  obtain⟨o,h3,h4⟩:=Xv.mp h2;cases o with
  |none=>cases h4;exact .inl ⟨W.stop a _ H i z R2 h3,hE a X H z R2 E2⟩|some d=>
   obtain⟨g1,g2⟩:=W.go a l H i d z R2 h3;obtain⟨ρ3,h5,h6⟩:=Xv.mp h4;obtain⟨⟨f4,U,R⟩,h7,h8⟩:=Xv.mp h6;refine .inr ⟨g1,λw s=>∃c L q,Ext π Q O c q.length s/\Rp K c s q/\En K c q.length s w L/\dD B g b m (i+1) L q=aX (A,p,j),
    λw s ⟨c,L,q,a1,a2,a3,a4⟩=>⟨m,ZK _,c,q,L,a1,a2,a3,a4⟩,λx s y=>?_⟩
   obtain⟨ex,Rx,hx⟩:=g2 x s y;have z:=z.trans ex;refine⟨a,I,l,d,ρ3,Rx,E2.mono ex,hx,h5,λr M=>⟨a,ρ3,l,f4,U,R,Rx,M,h7,?_⟩⟩;cases f4 with
   |nx=>exact λc Y H5 e5 R5 Z=>⟨c,U,R,z.trans e5,R5,Z,h8⟩|ct=>exact λc Y H5 e5 R5 Z=>⟨c,U,R,z.trans e5,R5,Z,h8⟩|bk=>cases h8;exact λc Y H5 e5 R5 Z=>hE c Y H5 (z.trans e5) R5 Z|rt d'=>cases h8;exact KC.after hE z
section
variable{X:Cx}{pos:Zj}{tg iter:Expr}{body:List Stmt}{mi:ME}{g:MG}{mb:MS}
noncomputable def iA(lo:Int)(n:Nat):Hm->Nat->Option (Option D):=λ_ i=>aX (if i<n then aX (.int (lo+i))else aY)
theorem DK{K:Xy}{lo:Int}{k:Nat}{π:Nat->Addr}{n:Nat}{H:Hp}:Wk K (mR lo k) (iA lo k) π n H:=by
 refine⟨λb m c i e R z=>?_,λb m c i d e R z=>?_⟩
 ·have a:=XZ z;split at a
  ·cases a
  ·exact a1C.mp (by assumption)
 ·have a:=XZ z;split at a
  ·cases a;rename_i h;exact⟨h,λx o ⟨j,l⟩=>by subst j;rw[l];exact⟨.refl,R,.int _⟩⟩
  ·cases a
end
noncomputable def pK(y:Str):Str:="#"++y
noncomputable def bN(xs N:List Str):List Str:=N.map λy=>if xs.contains y then pK y else y
theorem n8(xs N:List Str):(bN xs N).length=N.length:=by unfold bN;simp
theorem Nu{xs N:List Str}{i:Nat}{y:Str}(h:(bN xs N)[i]?=aX y):∃a,N[i]?=aX a/\((xs.contains a=b5/\y=pK a)\/(xs.contains a=b4/\y=a)):=by
 unfold bN at h;rw[XR]at h;obtain⟨a,c,b⟩:=XA.mp h;refine⟨a,c,?_⟩;cases hc:xs.contains a with
 |true=>rw[hc]at b;exact .inl ⟨rfl,by simpa using b.symm⟩|false=>rw[hc]at b;exact .inr ⟨rfl,by simpa using b.symm⟩
noncomputable def cQ(X:Cx)(scope:a0g)(a:List (Str×Addr))(C:Addr)(N:List Str)(s₀:XD)(H₀:Hp)(b:List Addr):Cx:=
 {X with N:=N,s₀:=s₀,H₀:=H₀,env:=a1B scope a C X.env,outer:=X.stack,stack:=X.stack,ex:=b,fn:=λ_=>b4,pn:=[],xe:=λ_ _=>False}
theorem DL{env:a3h}:∀(names:List (Str×a0p))(x:Str),(names.map λ(n,k)=>if(k==Z4&&env.scope.kind==.function&&env.kindOf n==aX .cell)then(n,a0f)else(n,k)).lookup x
  = (names.lookup x).map λk=>if(k==Z4&&env.scope.kind==.function&&env.kindOf x==aX .cell)then a0f else k
 |[],_=>rfl|(n,k)::r,x=>by
  have c:=DL (env:=env) r x;rw[XS];by_cases b:x=n
  ·subst b;have key:∀(k':a0p)(l:List (Str×a0p)),a2X x ((x,k')::l)=aX k':=λk' l=>by simp[a1y]
   rw[key];show a2X x ((if(k==Z4&&env.scope.kind==.function&&env.kindOf x==aX .cell)=b5 then(x,a0f)else(x,k))::_)=aX (if(k==Z4&&env.scope.kind==.function&&env.kindOf x==aX .cell)=b5 then a0f else k);split
   ·rw[key]
   ·rw[key]
  ·have a:(x==n)=false:=by simpa using b
   have key:∀(k':a0p)(l:List (Str×a0p)),a2X x ((n,k')::l)=a2X x l:=λk' l=>by simp only[a1y,a]
   rw[key];show a2X x ((if(k==Z4&&env.scope.kind==.function&&env.kindOf n==aX .cell)=b5 then(n,a0f)else(n,k))::_)=_;split
   ·rw[key];exact c
   ·rw[key];exact c
structure CompOk(X:Cx)(scope:a0g)(cl:List (Str×Addr))(xs:List Str):Prop where
 clos:a7x scope X.env=pure cl
 nocell:∀y∈scope.names,y.2≠.cell
 kind:scope.kind=.function
 names:∀y∈scope.names,y.2=.local->scope.names.lookup y.1=aX .local
 here:∀x∈xs,scope.names.lookup x=aX .local
 sub:∀y c,cl.lookup y=aX c->X.env.cells.lookup y=aX c
 free:∀y,scope.names.lookup y=aX .free->(X.env.kindOf y=aX .cell\/X.env.kindOf y=aX .free)/\∃c,cl.lookup y=aX c
 own:∀y,scope.names.lookup y=aX .local->y∉bN xs X.N
 hidn:∀y∈X.N,xs.contains y=b5->scope.names.lookup (pK y)=aY
section
variable{X:Cx}{scope:a0g}{cl:List (Str×Addr)}{xs:List Str}
theorem CompOk.kindOf(O:CompOk X scope cl xs)(C:Addr)(y:Str):(a1B scope cl C X.env).kindOf y=(scope.names.lookup y).map λk=>if(k==Z4&&X.env.scope.kind==.function&&X.env.kindOf y==aX .cell)then a0f else k:=
 DL scope.names y
theorem CompOk.outer(O:CompOk X scope cl xs){C:Addr}{y:Str}(h:(a1B scope cl C X.env).kindOf y=aX .cell\/(a1B scope cl C X.env).kindOf y=aX .free):scope.names.lookup y=aX .free:=by
 rw[O.kindOf]at h;cases q:scope.names.lookup y with
 |none=>rw[q]at h;rcases h with h|h<;>cases h
 |some k=>
  rw[q]at h;cases k with
  |free=>rfl|cell=>exact absurd rfl (O.nocell _ (Zc q))| «local»=>rcases h with h|h<;>simp at h
  |globalExplicit=>rcases h with h|h<;>simp at h
  |globalImplicit=>rcases h with h|h<;>simp at h
theorem CompOk.inv{a8T:jw}{σ:St}{H:Hp}{s:XD}{T:List Addr}{d:YZ}{tk:Nat}(O:CompOk X scope cl xs)(I:Inv X a8T σ H s)(B:∀b∈T,iZ X a8T H b)(hob:∀b∈T,∃o,s.heap.get? b=aX o){m:Str->Option Value}
  (hns:d.Ns s.heap.objs.size m)(L:∀b o,s.heap.get? b=aX o->d.get? b=aX o) :
  Inv (cQ X scope cl s.heap.objs.size (bN xs X.N++xs) s H T) [] (σ++Yv xs.length aY) H {s with heap:=d,toks:=tk}:=by
 refine⟨⟨I.ok.mod,O.kind,I.ok.glob,I.ok.blt,XJ _,λy z c U A=>?_,λy hy=>?_,(λy c h=>by cases h),I.ok.hd,I.ok.frames,.inl rfl,λb G=>?_,λb o e=>I.bs b o e,Ys I.ok.bsz I.sz,λb o e G=>?_,λb G Z=>?_,I.stack,I.stkFree⟩,
  rfl,I.bare,Un.kept L,⟨m,hns,λi y v U A w=>?_⟩,λy c h=>?_,I.hok.fresh (XJ _),λy c h=>I.freeC y c (O.sub y c h),λp hp=>absurd (show p∈([]:jw)from hp) (by simp),I.hok.kept L,?_⟩
 ·exact I.ok.inj y z c (O.sub y c U) (O.sub z c A)
 ·exact(O.free y (O.outer hy)).2
 ·obtain⟨f0,N,Q,x,R,f5⟩:=B b G;obtain⟨o,K⟩:=hob b G;exact⟨XU (XN K),λy c h=>R y c (O.sub y c h)⟩
 ·obtain⟨f0,N,Q,x,R,f5⟩:=B b G;rcases x with x|x
  ·exact I.ok.noex b o e x
  ·exact absurd (Yh (XN (I.ok.bs b o e).1) x) (a0H _)
 ·obtain⟨f0,N,Q,x,R,f5⟩:=B b G;rcases Yi.mp (I.stkSub b Z)with z|z
  ·exact N z
  ·exact Q z
 ·have hi:i<σ.length:=by
   by_cases hi:i<σ.length
   ·exact hi
   ·rw[Zt (a1C.mp hi),a0t]at A;split at A<;>cases A
  rw[YC hi]at A;have J:(bN xs X.N)[i]?=aX y:=by have n:(bN xs X.N++xs)[i]?=aX y:=U;rw[YC (by rw[n8,<- I.len];exact hi)]at n;exact n
  have j:scope.names.lookup y≠aX .local:=λz=>O.own y z (X6 J);have E:=O.kindOf s.heap.objs.size y;have Y:X.N[i]?=aX y:=by
   obtain⟨y0,q1,M⟩:=Nu J;rcases M with⟨M,q3⟩|⟨M,q3⟩
   ·exfalso;have hz:=O.hidn y0 (X6 q1) M;rw[<- q3]at hz;rw[hz]at E;have a:(a1B scope cl s.heap.objs.size X.env).kindOf y=aX .local\/(a1B scope cl s.heap.objs.size X.env).kindOf y=aX .cell\/(a1B scope cl s.heap.objs.size X.env).kindOf y=aX .free:=w;rw[E]at a;rcases a with a|a|a<;>cases a
   ·rw[q3];exact q1
  have a:(a1B scope cl s.heap.objs.size X.env).kindOf y=aX .cell\/(a1B scope cl s.heap.objs.size X.env).kindOf y=aX .free:=by
   rcases w with w|w|w
   ·exfalso;have a:(a1B scope cl s.heap.objs.size X.env).kindOf y=aX .local:=w;rw[E]at a;cases q:scope.names.lookup y with
    |none=>rw[q]at a;cases a|some k=>
     rw[q]at a;cases k with
     | «local»=>exact j q|cell=>simp at a|free=>simp only[X3]at a;split at a<;>cases a|globalExplicit=>simp at a|globalImplicit=>simp at a
   ·exact .inl w
   ·exact .inr w
  obtain⟨g,c,hc⟩:=O.free y (O.outer a);obtain⟨m0,hn0,hl0⟩:=I.loc;obtain⟨u,r,l⟩:=hl0 i y v Y A (by rcases g with g|g;exact .inr (.inl g);exact .inr (.inr g));refine⟨u,r,.inr ⟨a,c,hc,?_⟩⟩;rcases l with⟨lk,_⟩|⟨_,c',e',z⟩
  ·exfalso;rcases g with g|g
   ·rw[g]at lk;cases lk
   ·rw[g]at lk;cases lk
  ·rw[O.sub y c hc]at e';cases e';obtain⟨o,K,hd⟩:=z;exact⟨o,L c o K,hd⟩
 ·obtain⟨v,q⟩:=I.cell y c (O.sub y c h);exact⟨v,by obtain⟨o,K,hd⟩:=q;exact⟨o,L c o K,hd⟩⟩
 ·show(σ++Yv xs.length aY).length=(bN xs X.N++xs).length;rw[XI,XI,I.len,Zp,n8]
theorem CompOk.back{a8T Q:jw}{σ E:St}{H i:Hp}{s s1:XD}{j:List Addr}{h':YZ}{N:List Str}(I:Inv X a8T σ H s)(p:∀b∈j,iZ X a8T H b)
  (J:Inv (cQ X scope cl s.heap.objs.size N s H j) Q E i s1)(m:∀b o,b≠s.heap.objs.size->s1.heap.get? b=aX o->h'.get? b=aX o):Inv X a8T σ i {s1 with heap:=h'}:=by
 have u:Un (iX X.stack) j H i s.heap h':=by
  have h:Un (iX X.stack) j H i s.heap s1.heap:=J.base;have ne:∀b o,s.heap.get? b=aX o->b≠s.heap.objs.size:=λb o e=>XU (XN e);refine⟨λb o e n k l=>m b o (ne b o e) (h.keep b o e n k l),λb o e n k l=>?_,h.free,λb o e l=>?_,h.tups,h.frzs,h.tbls⟩
  ·obtain⟨R,q⟩:=h.slot b o e n k l;exact⟨R,m b _ (ne b o e) q⟩
  ·obtain⟨O,q⟩:=h.there b o e l;exact⟨O,m b _ (ne b o e) q⟩
 have a:i s.heap.objs.size=none:=J.free;have x:HOk X.prog X.w i h':=λb v e=>by
  refine(J.hok b v e).stay (λc w hc q=>m c w ?_ q) (λ_ q=>q) λ_ _ q=>q;rcases hc with z|z
  ·rw[z];intro B;rw[B,a]at e;cases e
  ·intro B;rw[B,a]at z;cases z
 have y:s1.os=s.os:=J.os;obtain⟨Y,g,d,t,A⟩:=s1;obtain rfl:A=s.os:=y;have r:=Inv.call (X:=X) (a8T:=a8T) (σ:=σ) (H:=H) (s:=s) (h':=h') (g':=g) (d':=d) (t':=t) (ch:=j) I u x J.bare λb k=>let⟨T,G,U,K,L,M⟩:=p b k;⟨K,G,L,M⟩;exact r
end
theorem Nv{prog:Yk}{w:Yz}{A:Yt}{R:a4H->XD->Prop}{s:XD}{elt a iter:Expr}{ifs:List Expr}{scope:a0g}{pos:Zj}{B p:Value}{env:a3h}(I:Nat->XD->Prop)
  (turn:∀n s,I n s->X5 (Yg prog w) A (a1q B) (λr d=>match r with
   |none=>R (.ok .next) d
   |some v=>X5 (Yg prog w) A (a3e a B v) (λ_ e=>X5 (Yg prog w) A (a3w a env v) (λ_ k=>
     X5 (Yg prog w) A (forIn ifs b5 λc r=>if r=b5 then do let ok <- a6o c env (eval c env);pure (a1b ok)else pure (a1b r)) (λok g=>
      if ok=b5 then X5 (Yg prog w) A (eval elt env) (λx l=>
       X5 (Yg prog w) A (call (.builtin "list.append") [p,x]) (λ_ o=>∃m,m<n/\I m o) (λ_ _=>False) l) (λ_ _=>False) g
      else ∃m,m<n/\I m g) (λ_ _=>False) k) (λ_ _=>False) e) (λ_ _=>False) d) (λ_ _=>False) s)
  (n:Nat)(h:I n s) :
  a1g (Yg prog w) A (.compLoop (.ListComp elt [⟨a,iter,ifs,0⟩] scope pos) 0 B p env) R s:=by
 refine codeAny_loop rfl I (λn s E=>?_) n h;show X5 _ A ((compTurn (.ListComp elt [⟨a,iter,ifs,0⟩] scope pos) 0 B p env).onRaise (λx=>do noteFrame x env;theTreesLotGoes x)) _ _ s;refine wpAny_noted ?_;rw[compTurn_list];refine Xw (a1R (Xw (Y8 (turn n s E) (λr d i=>?_) λ_ _ b=>b.elim)));cases r with
 |none=>exact XC i|some v=>
  refine Xw (Y8 i (λ_ e q=>?_) λ_ _ b=>b.elim);refine Xw (Y8 q (λ_ k u=>Xw (Y8 u (λok g j=>?_) λ_ _ b=>b.elim)) λ_ _ b=>b.elim);cases ok with
  |false=>exact XC ⟨rfl,j⟩|true=>exact Xw (Xw (Y8 j (λx l y=>Xw (Y8 y (λ_ o z=>XC (XC ⟨rfl,z⟩)) λ_ _ b=>b.elim)) λ_ _ b=>b.elim))
noncomputable def pL(b:Hm)(a:Nat)(y:D):Option Hm:=match b[a]? with
 |some (.lst xs)=>if xs.length<XQ then aX (b.set a (.lst (xs++[y])))else aY|_=>aY
noncomputable abbrev BD:=D->Hm->Option aF
noncomputable def pM:BD:=λd _=>aX [aX d]
noncomputable def DM(k:Nat):BD:=λd a=>(bK a d).bind λxs=>if xs.length=k then aX (xs.map aX)else aY
noncomputable def jF(a:Hm->Nat->Option (Option D))(h:BD)(c:MT)(e:ME)(b:aF)(g:Nat):Nat->Nat->Hm->Option Hm
 |0,_,_=>aY|n+1,i,μ=>(a μ i).bind λo=>match o with
  |none=>aX μ|some d=>(h d μ).bind λx=>(c (b++x) μ).bind λp=>match p.1 with
   |true=>(e (b++x) p.2).bind λq=>(pL q.2 g q.1).bind λj=>jF a h c e b g n (i+1) j|false=>jF a h c e b g n (i+1) p.2
noncomputable def jU:MT:=λ_ a=>aX (b5,a)
noncomputable def n9(X:Cx)(ifs:List Expr)(m:MT):Prop:=
 ∀(a8T:jw)(s:XD)(σ:St)(H:Hp)(Q:Bool->Hp->Prop),Inv X a8T σ H s->tMT X.K m σ H Q->
  X5 (Yg X.prog X.w) X.A (forIn ifs b5 λc r=>if r=b5 then do let ok <- a6o c X.env (eval c X.env);pure (a1b ok)else pure (a1b r)) (TP X a8T σ Q) X.xe s
theorem Nw{X:Cx}:n9 X [] jU:=by intro a s j H Q I h;obtain⟨e,i,g,b,d,R,E,c,k⟩:=h;cases c;exact wpAny_tests_nil ⟨H,I,k e H .refl R⟩
theorem Nx{X:Cx}{c:Expr}{m:MT}(h:PT X c (tMT X.K m)):n9 X [c] m:=λa8T s σ H Q I q=>wpAny_tests_one (h a8T s σ H Q I q)
section
variable{prog:Yk}{w:Yz}{A:Yt}{E:Value->XD->Prop}{s:XD}
theorem DN{e t:Addr}{items:Array Value}(h:t≠e):∀(n i:Nat)(s:XD)(Q:gq->XD->Prop),s.heap.IsListIter e t i->s.heap.IsList t items->i+n<=items.size->
  (∀k,k.IsListIter e t (i+n)->a0k e s.heap k->Q ((items.toList.drop i).take n) {s with heap:=k})->X5 (Yg prog w) A (draw (.ref e) n) Q E s
 |0,i,s,Q,hit,_,_,hQ=>by show X5 _ _ (pure []) Q E s;exact XC (by simpa using hQ s.heap hit (a4O ..))
 |n+1,i,s,Q,hit,ht,hle,hQ=>by
  have g:i<items.size:=by lia
  show X5 _ _ (a1q (.ref e) >>= _) Q E s;refine Xw (a6g hit ht (x:=items[i]) (by simp[g]) λl b a=>?_);refine Xw (YI (DN h n (i+1) _ _ b (ht.extBut a.extBut h) (by lia) λj c d=>XC ?_));have hd:items.toList.drop i=items[i]::items.toList.drop (i+1):=by simp[a4N,g]
  have:=hQ j (by rw[show i+(n+1)=i+1+n by lia];exact c) (a.trans d);rw[hd,List.take_succ_cons]at this;exact this
theorem Ny{t:Addr}{items:Array Value}{Q:gq->XD->Prop}(q:A.handled=aY)(j:s.heap.IsList t items)
  (p:∀m,a2p s.heap.objs.size s.heap m->Q items.toList {s with heap:=m}):X5 (Yg prog w) A (a6W (.ref t) items.size aY) Q E s:=by
 have i:t≠s.heap.objs.size:=by obtain⟨o,r,_⟩:=j;exact XU (XN r)
 unfold a6W;refine Xw ?_
 ·unfold notIterableAtAll;refine Xw (a3c j.typeIs slot_list_iter.lookup ?_);refine XC ?_;simp only[Yb,if_false];refine Xw (YI (a4f j ?_));refine Xw (YI (DN i items.size 0 _ _ ⟨_,XT _ rfl,rfl,rfl⟩ (j.push _) (by lia) λk c a=>?_));have h:List.take items.size (List.drop 0 items.toList)=items.toList:=by rw[a7p];exact Zx (by simp)
  rw[h];rw[if_neg (by simp)];have g:k.IsList t items:=(j.push _).extBut a.extBut i;refine Xw (YI (a6F q c g (by simp) λl d=>?_));simp only[Option.isSome_none,Yb,if_false];refine XC (p l λb o n e=>d b o n (a.extBut b o n (XE _ e)))
theorem Nz{env:a3h}{a:List Expr} {x1} {pos:Zj}{t:Addr}{items:Array Value}{Q:Unit->XD->Prop}(d:A.handled=aY)(g:s.heap.IsList t items)
  (e:(ZU a env).length=items.size)(b:(ZU a env).findIdx? (·.1)=aY)
  (h:∀c,a2p s.heap.objs.size s.heap c->X5 (Yg prog w) A (a3Q ((ZU a env).map (·.2)) items.toList) Q E {s with heap:=c}) :
  X5 (Yg prog w) A (a3w (.Tuple a x1 pos) env (.ref t)) Q E s:=by
 rw[a8x];refine Xw (a1R ?_);unfold unpack;rw[e,b];exact Xw (YI (Ny d g h))
end
noncomputable def oA:aF->List Nat->List D->aF
 |ρ,i::is,x::xs=>oA (ρ.set i (aX x)) is xs|ρ,_,_=>ρ
noncomputable def cT(a:List Nat):MG:=λd c b=>(bK b d).bind λxs=>if xs.length=a.length then aX (oA c a xs)else aY
noncomputable def uM:List Nat->mQ
 |[]=>Ck|i::r=>Cm (xH i) (uM r)
theorem y1{K:Xy}{π:Nat->Addr}{n:Nat}{H:Hp}:∀(a:List Nat){vs:gw}{xs:List D}{σ:St}{c:aF}{Q:St->Hp->Prop},IsDs K π n H vs xs->En K π n H σ c->xs.length=a.length->(∀b,En K π n H b (oA c a xs)->Q b H)->uM a vs σ H Q
 |[],vs,xs,σ,c,Q,h,E,hl,k=>by
  cases h with
  |nil=>exact⟨rfl,k σ E⟩|cons h t=>cases hl
 |i::a,vs,xs,σ,c,Q,h,E,hl,k=>by
  cases h with
  |nil=>cases hl|cons h t=>exact⟨_,_,rfl,y1 a t (E.set h i) (by simpa using hl) k⟩
section
variable{X:Cx}{pos:Zj}
theorem NA{es:List Expr}{k:Nat}{l:List Nat}(hc:X.calm=b5)(h:o6 X es (uM l))(L:(ZU es X.env).length=l.length:=by rfl)(p:(ZU es X.env).findIdx? (·.1)=none:=by rfl) :
  PG X (.Tuple es k pos) (tMG X.K (cT l)):=by
 intro i s y H v u Q I r hw;obtain⟨O,ρ,N,d,ρ',R,E,hd,Y,M⟩:=hw;obtain⟨K,j,B⟩:=Xv.mp Y;split at B
 ·rename_i x;cases B;have n:(∃a g,v=.ref a/\SqT X.K H a g/\IsDs X.K O N.length H g K)\/(∃a g,v=.ref a/\SqL X.K H a g/\IsDs X.K O N.length H g K):=by
   cases hd with
   |tup q t=>cases j;exact .inl ⟨_,_,rfl,q,t⟩|rol q t=>cases j;exact .inr ⟨_,_,rfl,q.sq,t⟩|@loc a ha=>
    simp only[bK]at j;split at j
    ·rename_i ys Z;cases j;obtain⟨g,T,U⟩:=R.lst a K Z;exact .inr ⟨_,g,rfl,.of T,U⟩
    ·cases j
   |_=>cases j
  rcases n with⟨a,g,rfl,q,t⟩|⟨a,g,rfl,q,t⟩
  ·cases r;obtain⟨m,w,G,hz⟩:=I.tuple q;have c:m.length=l.length:=by rw[<- w.length,t.length];exact x
   refine a8w (I.ok.hd hc) G (by simp[L,c]) p λA J=>?_;have z:Inv X i y H {s with heap:=A}:=I.kept (t':=s.toks) λb o e=>J b o (XU (XN e)) e;exact h i _ y H g _ Q z (by simpa using w) (y1 l t E x M)
  ·cases r;obtain⟨m,w,G,hz⟩:=I.list q;have c:m.length=l.length:=by rw[<- w.length,t.length];exact x
   refine Nz (I.ok.hd hc) G.isList (by simp[L,c]) p λA J=>?_;have z:Inv X i y H {s with heap:=A}:=I.kept (t':=s.toks) λb o e=>J b o (XU (XN e)) e;exact h i _ y H g _ Q z (by simpa using w) (y1 l t E x M)
 ·cases B
noncomputable def fQ(m:ME)(g:MG):MS:=λb c=>(m b c).bind λp=>(g p.1 b p.2).map λa=>(.nx,a,p.2)
theorem NB{tg e:Expr}{m:ME}{g:MG}(q:PE X e (tM X.K m))(r:PG X tg (tMG X.K g))(s:a3N [tg] e pos.line X.env=pure false:=by rfl)(hw:a0d [tg] e X.env=pure none:=by rfl)
  (h1:(ZU [tg] X.env).map (·.2)=[a3w tg X.env]:=by rfl):PS X (.Assign [tg] e pos) (tMS X.K (fQ m g)):=iI (Cq q r s hw h1) (by
 rintro E I H ⟨y,l,v,B,z,w,R,h,a,k⟩;obtain⟨⟨x,c⟩,h1,a⟩:=Xv.mp a;obtain⟨A,p,a⟩:=XA.mp a;cases a;exact⟨y,l,v,x,c,R,h,h1,λb G o j i u=>⟨b,l,_,x,_,i,h.mono j,u,p,λd n=>k b d o j i n⟩⟩)
end
section
variable{X:Cx}{K:Xy}
noncomputable def rQ:MF:=λds a=>match ds with
 |[.str z]=>if z.length<=XQ then aX (.int z.length,a)else aY|[x]=>(bK a x).map λb=>(.int b.length,a)|_=>aY
noncomputable def y8(K:Xy):gw->Hp->VK->Prop:=λxs H Q=>(∃p a,xs=[.ref p]/\(SqL K H p a\/SqT K H p a)/\Q (.int a.length) H)\/(∃z,xs=[.str z]/\z.length<=XQ/\Q (.int z.length) H)
theorem call_lenM:CallR X (.builtin "len") (y8 X.K):=call_len_seq.or LM
theorem rR{π:Nat->Addr}{b:Hm}{H:Hp}{v:V}{x:D}{xs:List D}(R:Rp K π H b)(h:IsD K π b.length H v x)(e:bK b x=aX xs):∃p vs,v=.ref p/\(SqL K H p vs\/SqT K H p vs)/\IsDs K π b.length H vs xs:=by
 cases h with
 |tup q t=>cases e;exact⟨_,_,rfl,.inr q,t⟩|rol q t=>cases e;exact⟨_,_,rfl,.inl q.sq,t⟩|@loc a i=>
  simp only[bK]at e;split at e
  ·rename_i j g;cases e;obtain⟨vs,c,d⟩:=R.lst a xs g;exact⟨_,vs,rfl,.inl (.of c),d⟩
  ·cases e
 |_=>cases e
theorem DO:eT K rQ (y8 K):=by
 intro b H o m d j l Q R i a k;unfold rQ at a;split at a
 ·split at a
  ·rename_i g;cases a;cases i with
   |cons i t=>cases i;cases t;exact .inr ⟨_,rfl,g,k b _ H .refl R (.int _)⟩
  ·cases a
 ·obtain⟨n,c,e⟩:=XA.mp a;cases e;cases i with
  |cons i t=>cases t;obtain⟨p,h,rfl,q,hd⟩:=rR R i c;refine .inl ⟨p,h,rfl,q,?_⟩;rw[hd.length];exact k b _ H .refl R (.int _)
 ·cases a
noncomputable def m5:MF:=λds a=>match ds with
 |[.int i]=>aX (.int i,a)|[.bl b]=>aX (.int (if b then 1 else 0),a)|_=>aY
theorem NF:eT K m5 (λxs H Q=>(∃i,xs=[.int i]/\Q (.int i) H)\/∃k,xs=[.bl k]/\Q (.int (if k then 1 else 0)) H):=by
 intro b H g xs d c e Q R i a k;unfold m5 at a;split at a
 ·cases a;cases i with
  |cons i t=>cases i;cases t;exact .inl ⟨_,rfl,k b _ H .refl R (.int _)⟩
 ·cases a;cases i with
  |cons i t=>cases i;cases t;exact .inr ⟨_,rfl,k b _ H .refl R (.int _)⟩
 ·cases a
noncomputable def rS:MF:=λds a=>match ds with
 |[x]=>(bK a x).map λb=>(.loc a.length,a++[.lst b])|_=>aY
theorem DP:eT K rS (λxs H Q=>∃p a,xs=[.ref p]/\(SqL K H p a\/SqT K H p a)/\∀l,H l=aY->Q (.ref l) (aP H l (.lst a))):=by
 intro r H o xs d m n Q R i b k;unfold rS at b;split at b
 ·obtain⟨a,g,h⟩:=XA.mp b;cases h;cases i with
  |cons i t=>cases t;obtain⟨p,c,rfl,q,hd⟩:=rR R i g;refine⟨p,c,rfl,q,λl j=>?_⟩;obtain⟨e,R2,_⟩:=R.alloc (c:=.lst a) (o:=.lst c) j hd;exact k _ _ _ e R2 lQ
 ·cases b
noncomputable def DQ(K:Xy):gw->Hp->VK->Prop:=λvs H Q=>∃π a x v t c b,vs=[v,.ty c]/\Rp K π H a/\IsD K π a.length H v x/\yZ a x=aX t/\uL t c=aX b/\Q (.bl b) H
theorem NG:eT K jE (DQ K):=by
 intro c H p o d m n Q R i a k;unfold jE at a;split at a
 ·obtain⟨t,e,a⟩:=Xv.mp a;obtain⟨b,g,a⟩:=XA.mp a;cases a;cases i with
  |cons i j=>
   cases j with
   |cons h l=>cases l;cases h;exact⟨c,_,_,_,t,_,b,rfl,R,i,e,g,k c _ H .refl R (.bl _)⟩
 ·cases a
theorem NH:CallR X (.builtin "isinstance") (DQ X.K):=by
 intro G s Z H N us Q I r h;obtain⟨L,μ,x,v,t,c,b,rfl,R,i,d,k,q⟩:=h;obtain⟨u,u2,rfl,m,U⟩:=t6 r;cases U;have fin:∀J,EP X G Z Q (.bool b) {s with toks:=J}:=λJ=>⟨.bl b,H,I.tok J,rfl,q⟩;cases i with
 |non=>cases d;cases m;exact ZY PySem.W.kitx_none I.kIn a1i (lR X.K (by simp) k) (λz=>nomatch z) fin|bl y=>cases d;cases m;exact ZY PySem.W.kitx_bool I.kIn a1i (lR X.K (by simp) k) (λz=>nomatch z) fin|int y=>cases d;obtain⟨t,rfl⟩:=m;exact ZY PySem.W.kitx_int I.kIn a1i (lR X.K (by simp) k) (λz=>nomatch z) fin|str y=>cases d;obtain⟨t,rfl⟩:=m;exact ZY PySem.W.kitx_str I.kIn a1i (lR X.K (by simp) k) (λz=>nomatch z) fin|tup g t=>cases d;cases m;obtain⟨B,M,p,_⟩:=I.tuple g;obtain⟨o,e,j,_⟩:=p;exact ZY PySem.W.kitx_tuple I.kIn ⟨o,e,j⟩ (lR X.K (by simp) k) (λz=>nomatch z) fin|rol g t=>cases d;cases m;obtain⟨B,M,p,_⟩:=I.list g.sq;obtain⟨o,e,j,_⟩:=p.isList;exact ZY a5D I.kIn ⟨o,e,j⟩ (lR X.K (by simp) k) (λz=>nomatch z) fin|@loc a ha=>
  cases m;simp only[yZ]at d;split at d
  ·rename_i N A;cases d;obtain⟨E,w,h4⟩:=R.lst a N A;obtain⟨B,M,p,_⟩:=I.list (SqL.of (K:=X.K) w);obtain⟨o,e,j,_⟩:=p.isList;exact ZY a5D I.kIn ⟨o,e,j⟩ (lR X.K (by simp) k) (λz=>nomatch z) fin
  ·rename_i l A;cases d;obtain⟨E,w,_⟩:=R.dK a l A;obtain⟨_,_,Y,_,p⟩:=(show ObjOk X.prog X.w H s.heap (L a) (.dK E)from I.hok _ _ w);obtain⟨o,T,O,e,j,_⟩:=p;exact ZY a5E I.kIn ⟨o,e,j.1⟩ (lR X.K (by simp) k) (λz=>nomatch z) fin
  ·rename_i l A;cases d;obtain⟨E,w,_⟩:=R.dT a l A;obtain⟨⟨Y,_,_,_,o,T,O,e,j,_⟩,_⟩:=(show ObjOk X.prog X.w H s.heap (L a) (aU (L a) E)from I.hok _ _ w);exact ZY a5E I.kIn ⟨o,e,j.1⟩ (lR X.K (by simp) k) (λz=>nomatch z) fin
  ·cases d
 |ty n=>cases d
end
inductive IsKs (K:Xy)(π:Nat->Addr)(n:Nat)(H:Hp):List (cF×V)->List (cF×D)->Prop where
 |nil:IsKs K π n H [] []
 |cons {k:cF}{v:V}{d:D}{vs:List (cF×V)}{ds:List (cF×D)}(h:IsD K π n H v d)(t:IsKs K π n H vs ds):IsKs K π n H ((k,v)::vs) ((k,d)::ds)
section
variable{K:Xy}{π π':Nat->Addr}{n n':Nat}{H H':Hp}
theorem IsKs.length{vs:List (cF×V)}{ds:List (cF×D)}(h:IsKs K π n H vs ds):vs.length=ds.length:=by
 induction h with
 |nil=>rfl|cons h t a=>rw[Ym,Ym,a]
end
noncomputable def NI(K:Xy)(a:List (ME×ME)):List (TE×TE):=a.map λp=>(tM K p.1,tM K p.2)
section
variable{X:Cx}{a b c:Expr}{ma mb mc:ME}{pos:Zj}
end
theorem jV{k:Nat}{A:Yt}(r:Room k A):A.units+1<Zk:=by have:=r.un;lia
noncomputable def lU(a:ME):ME:=λc b=>(a c b).bind λp=>(yS p.1).map λd=>(d,p.2)
noncomputable def iB(cells:List (Str×Addr)):List (Str×a0p)->List (Str×Addr)->List (Str×Addr)
 |[],acc=>acc|(n,k)::r,acc=>if k=.free then(match cells.lookup n with|some c=>iB cells r ((n,c)::acc)|none=>iB cells r acc)else iB cells r acc
theorem DR{env:a3h}:∀(names:List (Str×a0p))(a:List (Str×Addr)),(∀y∈names,y.2=.free->∃c,env.cells.lookup y.1=aX c)->
  (forIn names a λ(x:Str×a0p)(d:List (Str×Addr))=>(do
   if x.2==.free then(do let c <- cellOf env x.1;pure (a1b ((x.1,c)::d)))else pure (a1b d):a8k (ForInStep (List (Str×Addr)))))=pure (iB env.cells names a)
 |[],a,_=>rfl|(n,k)::r,a,h=>by
  have g:=λa=>DR r a λy i=>h y (X7 _ i);rw[a7h];by_cases b:k=.free
  ·subst b;obtain⟨c,hc⟩:=h (n,.free) (X8 ..) rfl;dsimp only at hc;have e:cellOf env n=pure c:=by unfold cellOf;rw[hc]
   simp only[iB,hc,e,beq_self_eq_true,if_true,pure_bind];exact g _
  ·have e:(k==Z4)=false:=by simpa using b
   simp only[iB,e,b,if_false,Yb,pure_bind];exact g _
theorem NJ{scope:a0g}{env:a3h}(h:∀y∈scope.names,y.2=.free->∃c,env.cells.lookup y.1=aX c):a7x scope env=pure (iB env.cells scope.names []):=by have:=DR (env:=env) scope.names [] h;unfold a7x;simp only[bind_pure]at *;exact this
theorem uN{cells:List (Str×Addr)}:∀(names:List (Str×a0p))(a:List (Str×Addr)),(∀y c,a.lookup y=aX c->cells.lookup y=aX c)->∀y c,(iB cells names a).lookup y=aX c->cells.lookup y=aX c
 |[],a,h=>h|(n,k)::r,a,h=>by
  unfold iB;split
  ·split
   ·rename_i c0 hc;refine uN r _ λy c e=>?_;rw[a1y]at e;by_cases b:y=n
    ·subst b;simp only[beq_self_eq_true]at e;cases e;exact hc
    ·have:(y==n)=false:=by simpa using b
     rw[this]at e;exact h y c e
   ·exact uN r a h
  ·exact uN r a h
theorem uO{cells:List (Str×Addr)}:∀(names:List (Str×a0p))(a:List (Str×Addr))(y:Str),(∃c,a.lookup y=aX c)->∃c,(iB cells names a).lookup y=aX c
 |[],a,y,h=>h|(n,k)::r,a,y,h=>by
  unfold iB;split
  ·split
   ·refine uO r _ y ?_;rw[a1y];by_cases b:(y==n)=b5
    ·rw[b];exact⟨_,rfl⟩
    ·have:(y==n)=false:=by simpa using b
     rw[this];exact h
   ·exact uO r a y h
  ·exact uO r a y h
theorem uP{cells:List (Str×Addr)}:∀(names:List (Str×a0p))(a:List (Str×Addr))(y:Str),(y,Z4)∈names->(∃c,cells.lookup y=aX c)->∃c,(iB cells names a).lookup y=aX c
 |[],a,y,h,_=>by cases h
 |(n,k)::r,a,y,h,hc=>by
  unfold iB;rcases Yi.mp h with h|h
  ·cases h;obtain⟨c,hc⟩:=hc;rw[if_pos rfl,hc];exact uO r _ _ ⟨c,by simp[a1y]⟩
  ·split
   ·split
    ·exact uP r _ y h hc
    ·exact uP r _ y h hc
   ·exact uP r _ y h hc
structure CompSt(osc:a0g)(N:List Str)(scope:a0g)(xs:List Str):Prop where
 nocell:∀y∈scope.names,y.2≠.cell
 kind:scope.kind=.function
 names:∀y∈scope.names,y.2=.local->scope.names.lookup y.1=aX .local
 here:∀x∈xs,scope.names.lookup x=aX .local
 free:∀y∈scope.names,y.2=.free->osc.names.lookup y.1=aX .cell\/osc.names.lookup y.1=aX .free
 own:∀y∈scope.names,y.2=.local->y.1∉bN xs N
 nd:N.Nodup
 hnd:(bN xs N).Nodup
 hidn:∀y∈N,xs.contains y=b5->scope.names.lookup (pK y)=aY
theorem CompSt.ok{X:Cx}{scope:a0g}{xs:List Str}(S:CompSt X.env.scope X.N scope xs)(ok:X.Ok):CompOk X scope (iB X.env.cells scope.names []) xs:=by
 have has:∀y∈scope.names,y.2=.free->∃c,X.env.cells.lookup y.1=aX c:=λy d b=>ok.has y.1 (S.free y d b);refine⟨NJ has,S.nocell,S.kind,S.names,S.here,uN scope.names [] (λy c e=>by cases e),λy e=>?_,λy e=>?_,S.hidn⟩
 ·have a:=Zc e;exact⟨S.free _ a rfl,uP scope.names [] y a (has _ a rfl)⟩
 ·exact S.own _ (Zc e) rfl
section
variable{X:Cx}{pos:Zj}
noncomputable def pN(i j:Nat)(b:MA):MS:=λa c=>(b a c).bind λp=>match p.1 with
 |[v,w]=>aX (.nx,(a.set i (aX v)).set j (aX w),p.2)|_=>aY
theorem NK{i j:Nat}{x y:Str}{a b:Expr}{r:MA}{m py pt:Zj}{l h:Nat}{c:Zj}(hc:X.calm=b5)(w:X.N.Nodup)(hi:X.N[i]?=aX x)(A:X.N[j]?=aX y)(e:i≠j)
  (G:X.env.scope.names.lookup x=aX .local)(I:X.env.scope.names.lookup y=aX .local)(z:PA X [a,b] (tMA X.K r))
  (hw:a0d [.Tuple [.Name x m,.Name y py] l pt] (.Tuple [a,b] h c) X.env=pure (aX [x,y]))
  (B:a3N [.Tuple [.Name x m,.Name y py] l pt] (.Tuple [a,b] h c) pos.line X.env=pure false:=by rfl) :
  PS X (.Assign [.Tuple [.Name x m,.Name y py] l pt] (.Tuple [a,b] h c) pos) (tMS X.K (pN i j r)):=iI (Kt hc w hi A e G I z hw B) (by
 rintro E Z H ⟨O,Q,M,U,T,N,R,p,d,k⟩;obtain⟨⟨ds,n⟩,v,d⟩:=Xv.mp d;refine⟨O,Q,M,ds,n,R,p,v,λo Y s q u g=>?_⟩;dsimp only at d;split at d
 ·cases d;cases g with
  |cons g K=>
   cases K with
   |cons J L=>cases L;exact⟨_,_,rfl,k o _ s q u (((p.mono q).set g i).set J j)⟩
 ·cases d)
end
noncomputable def cY(e:Expr):Bool:=!(e.ctorIdx==22)
theorem f6{e:Expr}{es:List Expr}{env:a3h}(h:cY e=b5):Yr (e::es) env=(b4,eval e env)::Yr es env:=by cases e<;>first|rfl|cases h
theorem oB{pos:Zj}{env:a3h}:∀{es:List Expr},es.all cY=b5->(a0l pos (Yr es env)).any (·.1)=b4
 |[],_=>rfl|e::es,h=>by rw[YG,XG]at h;rw[f6 h.1];have:=oB (pos:=pos) (env:=env) h.2;simpa[a0l]using this
theorem rV{e:Expr}{es:List Expr}{env:a3h}(h:cY e=b5):ZU (e::es) env=(b4,a3w e env)::ZU es env:=by cases e<;>first|rfl|cases h
theorem DS{env:a3h}:∀{es:List Expr},es.all cY=b5->(ZU es env).length=es.length
 |[],_=>rfl|e::es,h=>by rw[YG,XG]at h;rw[rV h.1,Ym,Ym,DS h.2]
theorem DT{env:a3h}:∀{es:List Expr},es.all cY=b5->(ZU es env).findIdx? (·.1)=aY
 |[],_=>rfl|e::es,h=>by rw[YG,XG]at h;rw[rV h.1,List.findIdx?_cons,DT h.2];rfl
section
variable{X:Cx}{e a b c:Expr}{es:List Expr}{m:ME}{ms:MA}{pos:Zj}
end
structure QE(X:Cx)(e:Expr)(m:ME):Prop where
 h:PE X e (tM X.K m)
structure QT(X:Cx)(e:Expr)(m:MT):Prop where
 h:PT X e (tMT X.K m)
structure QW(X:Cx)(e:Expr)(m:MT):Prop where
 h:PW X e (tMT X.K m)
structure QA(X:Cx)(es:List Expr)(m:MA)(n:Nat):Prop where
 h:PA X es (tMA X.K m)
 l:∀ρ μ ds μ',m ρ μ=aX (ds,μ')->ds.length=n
 s:es.all cY=b5
structure QO(X:Cx)(e:Option Expr)(m:MO):Prop where
 h:PO X e (tMO X.K m)
structure QS(X:Cx)(st:Stmt)(m:MS):Prop where
 h:PS X st (tMS X.K m)
structure QB(X:Cx)(st:List Stmt)(m:MS):Prop where
 h:PSs X st (tMS X.K m)
structure QG(X:Cx)(e:Expr)(g:MG):Prop where
 h:PG X e (tMG X.K g)
structure QGs(X:Cx)(es:List Expr)(is:List Nat):Prop where
 h:o6 X es (uM is)
 n:es.length=is.length
 s:es.all cY=b5
structure QI(X:Cx)(ifs:List Expr)(m:MT):Prop where
 h:n9 X ifs m
structure QP(X:Cx)(pos:Zj)(keys:List (Option Expr))(values:List Expr)(prs:List (ME×ME)):Prop where
 h:Ll X pos keys values (NI X.K prs)
 a:keys.all (·.isSome)=b5
 l:keys.length=values.length
section
variable{X:Cx}{e a b c:Expr}{m ma mb mc:ME}{pos:Zj}{mt mu:MT}{bY es:List Expr}{ms:MA}{n:Nat}
theorem NL{x:Str}(i:Nat)(g:X.N[i]?=aX x:=by rfl)(h:nV X.env.scope x:=by first|exact a4V rfl|exact a3z (a4V rfl)|exact a3z (a3z rfl))(hd:(x==("__debug__":Str))=false:=by decide)
  (d:(x==("__classdict__":Str))=false:=by decide):QE X (.Name x pos) (aA i):=⟨Me i (Cf g h hd d)⟩
theorem NM{i:Int}{j:Nat}:QE X (.Constant (.int i) j pos) (mC (.int i)):=⟨Mf⟩
theorem NN{i:Bool}{j:Nat}:QE X (.Constant (.bool i) j pos) (mC (.bl i)):=⟨Mg⟩
theorem NO{i:Str}{j:Nat}:QE X (.Constant (.str i) j pos) (mC (.str i)):=⟨Mh⟩
theorem NP{j:Nat}:QE X (.Constant .none j pos) (mC .non):=⟨Mi⟩
theorem rW{op:a5t}{r:R2}{f:D->D->Hm->jk}(i:OpR X (a0S op) r)(h:dC X.K f r)(d:QE X a ma)(g:QE X b mb):QE X (.BinOp a op b pos) (aB f ma mb):=⟨Mj i h d.h g.h⟩
theorem NQ(d:QE X a ma)(g:QE X b mb):QE X (.BinOp a .Add b pos) (aB bB ma mb):=rW Nj Nk d g
theorem NR(d:QE X a ma)(g:QE X b mb):QE X (.BinOp a .Sub b pos) (aB iL ma mb):=rW KR Nd d g
theorem NS(d:QE X a ma)(g:QE X b mb):QE X (.BinOp a .Mult b pos) (aB bU ma mb):=rW Nb Ng d g
theorem NT(d:QE X a ma)(g:QE X b mb):QE X (.BinOp a .FloorDiv b pos) (aB eD ma mb):=rW Nc Nh d g
theorem NU(d:QE X a ma)(g:QE X b mb):QE X (.BinOp a .Mod b pos) (aB bH ma mb):=rW KS Ni d g
theorem NV(d:QE X a ma):QE X (.UnaryOp .USub a pos) (lU ma):=⟨Nl d.h⟩
theorem NW(d:QE X a ma):QE X (.UnaryOp .Not a pos) (mW ma):=⟨Mu d.h⟩
theorem NX{k:Nat}(h:Room k X.A)(d:QE X a ma)(g:QE X b mb):QE X (.Compare a [.Eq] [b] pos) (aB (aZ b4) ma mb):=⟨fG (DG (uK h)) uJ d.h g.h (dP _)⟩
theorem NY{k:Nat}(h:Room k X.A)(d:QE X a ma)(g:QE X b mb):QE X (.Compare a [.NotEq] [b] pos) (aB (aZ b5) ma mb):=⟨fG (DH (uK h)) uJ d.h g.h (dP _)⟩
theorem NZ(d:QE X a ma)(g:QE X b mb):QE X (.Compare a [.Lt] [b] pos) (aB jD ma mb):=⟨fG xQ jC d.h g.h (dP _)⟩
theorem N0(d:QE X a ma)(g:QE X b mb):QE X (.Compare a [.LtE] [b] pos) (aB pJ ma mb):=⟨fG xR jC d.h g.h (dP _)⟩
theorem N3(d:QE X a ma)(g:QE X b mb):QE X (.Compare a [.Gt] [b] pos) (aB kL ma mb):=⟨fG xS jC d.h g.h (dP _)⟩
theorem N4(d:QE X a ma)(g:QE X b mb):QE X (.Compare a [.GtE] [b] pos) (aB yW ma mb):=⟨fG xT jC d.h g.h (dP _)⟩
noncomputable def gO(e:Expr):Bool:=!(e.ctorIdx==7)
theorem jG{op:a1n}{b:Expr}(h:gO b=b5):a0T op b=false:=by cases b<;>first|rfl|cases h
theorem N5{op:BoolOp}(h:QE X a m):QE X (.BoolOp op [a] pos) m:=⟨Mr h.h⟩
theorem N6(d:QE X a ma)(g:QE X (.BoolOp .And (b::bY) pos) mb):QE X (.BoolOp .And (a::b::bY) pos) (fP ma mb):=⟨Ms d.h g.h⟩
theorem N7(d:QE X a ma)(g:QE X (.BoolOp .Or (b::bY) pos) mb):QE X (.BoolOp .Or (a::b::bY) pos) (yI ma mb):=⟨Mt d.h g.h⟩
theorem N8(hc:QT X c mt)(d:QE X a ma)(g:QE X b mb):QE X (.IfExp c a b pos) (m3 mt ma mb):=⟨Mv hc.h d.h g.h⟩
theorem N9:QA X [] aD 0:=⟨Mw,MC,rfl⟩
theorem Oa(g:QE X e m)(d:QA X es ms n)(h:cY e=true:=by rfl):QA X (e::es) (aC m ms) (n+1):=⟨Mx g.h d.h (f6 h),MH d.l,by rw[YG,h,d.s];rfl⟩
theorem Ob{d:Nat}(h:QA X es ms n):QE X (.Tuple es d pos) (bZ ms):=⟨My h.h⟩
theorem Oc(h:QA X es ms n):QE X (.List es pos) (b7 ms):=⟨Mz h.h⟩
noncomputable def jW(e:Expr):Bool:=!(e.ctorIdx==26)
theorem DU{b:Expr}(h:jW b=b5):yF b:=by intro o i;cases b<;>first|rfl|cases h
theorem Od(d:QE X a ma)(g:QE X b mb)(h:jW b=true:=by rfl):QE X (.Subscript a b pos) (aB hV ma mb):=⟨MP d.h g.h (DU h)⟩
theorem Oe:QO X aY n5:=⟨MQ⟩
theorem Of(h:QE X e m):QO X (aX e) (lO m):=⟨MR h.h⟩
theorem Og{lo hi:Option Expr}{g d:MO}{k:Zj}(h:QE X a ma)(i:QO X lo g)(j:QO X hi d):QE X (.Subscript a (.Slice lo hi aY k) pos) (o9 ma g d):=⟨MV h.h i.h j.h⟩
theorem Oh{k:Nat}{f:Addr}{i:a0h}{ps:List Str}{j:MF}{x:Str}{p:Zj}(F:FnOk X.prog X.w X.K X.mg X.base gN k f i ps (jQ X.K n j))(s:Room k X.A)(r:X.mg x=aX (.ref f))
  (q:ZM X.K (.ref f)=b5)(l:Binds X.K i ps [])(d:QA X (e::es) ms n)(o:Gl X x:=by rfl)(g:(x==("__debug__":Str))=false:=by decide):QE X (.Call (.Name x p) (e::es) [] pos) (aH j ms):=by
 have h:=d.s;rw[YG,XG]at h;exact⟨MJ F s o r q l d.h d.l g (f6 h.1) (oB h.2)⟩
theorem y9{f:MF}{r:gw->Hp->VK->Prop}{id:String}{x:Str}{p:Zj}(hc:CallR X (.builtin id) r)(i:eT X.K f r)(k:X.mg x=aY)(o:ZA x=aX (.builtin id))(h:QA X (e::es) ms n)
  (j:Gl X x:=by rfl)(l:x ≠ "__name__":=by decide) (d:(x==("__debug__":Str))=false:=by decide):QE X (.Call (.Name x p) (e::es) [] pos) (aH f ms):=by
 have g:=h.s;rw[YG,XG]at g;exact⟨MK hc i j k o h.h l d (f6 g.1) (oB g.2)⟩
theorem Oi{f:MF}{r:gw->Hp->VK->Prop}{T:String}{x:Str}{p:Zj}(hc:CallR X (.type T) r)(i:eT X.K f r)(k:X.mg x=aY)(o:ZA x=aX (.type T))(h:QA X (e::es) ms n)
  (j:Gl X x:=by rfl)(l:x ≠ "__name__":=by decide) (d:(x==("__debug__":Str))=false:=by decide):QE X (.Call (.Name x p) (e::es) [] pos) (aH f ms):=by
 have g:=h.s;rw[YG,XG]at g;exact⟨ML hc i j k o h.h l d (f6 g.1) (oB g.2)⟩
theorem Oj{x:Str}{n:String}(g:X.mg x=aY)(i:ZA x=aX (.type n))(d:Gl X x:=by rfl)(h:x ≠ "__name__":=by decide) (hd:(x==("__debug__":Str))=false:=by decide):QE X (.Name x pos) (mC (.ty n)):=⟨Nm d g i h hd⟩
theorem Ol{k:Nat}(h:Room k X.A)(d:QE X a ma)(g:QE X b mb):QT X (.Compare a [.Eq] [b] pos) (aV (aB (aZ b4) ma mb)):=⟨fH (DG (uK h)) uJ d.h g.h (dP _)⟩
theorem Om{k:Nat}(h:Room k X.A)(d:QE X a ma)(g:QE X b mb):QT X (.Compare a [.NotEq] [b] pos) (aV (aB (aZ b5) ma mb)):=⟨fH (DH (uK h)) uJ d.h g.h (dP _)⟩
theorem Oo(d:QE X a ma)(g:QE X b mb):QT X (.Compare a [.Lt] [b] pos) (aV (aB jD ma mb)):=⟨fH xQ jC d.h g.h (dP _)⟩
theorem Oq(d:QE X a ma)(g:QE X b mb):QT X (.Compare a [.LtE] [b] pos) (aV (aB pJ ma mb)):=⟨fH xR jC d.h g.h (dP _)⟩
theorem Ot(d:QE X a ma)(g:QE X b mb):QT X (.Compare a [.Gt] [b] pos) (aV (aB kL ma mb)):=⟨fH xS jC d.h g.h (dP _)⟩
theorem Ou(d:QE X a ma)(g:QE X b mb):QT X (.Compare a [.GtE] [b] pos) (aV (aB yW ma mb)):=⟨fH xT jC d.h g.h (dP _)⟩
noncomputable def zA:Expr->Bool
 |.UnaryOp .Not ..=>b4|.BoolOp ..=>b4|.IfExp ..=>b4|.Compare ..=>b4|_=>b5
theorem Ov{e:Expr}{env:a3h}(h:zA e=b5):∀d,a6o e env d=(do let v <- d;a7F e.pos;holding [v] (truthy v)):=by
 intro d;cases e<;>first|rfl|cases h|skip
 rename_i g x p;cases g<;>first|rfl|cases h
theorem Ox(d:QT X a mt):QT X (.UnaryOp .Not a pos) (lJ mt):=⟨Mq d.h⟩
theorem Oy(d:QT X a mt):QW X (.BoolOp .And [a] pos) mt:=⟨Mm d.h⟩
theorem Oz(d:QT X a mt):QW X (.BoolOp .Or [a] pos) mt:=⟨Mn d.h⟩
theorem OA(d:QT X a mt)(g:QW X (.BoolOp .And (b::bY) pos) mu):QW X (.BoolOp .And (a::b::bY) pos) (eH mt mu):=⟨Mo d.h g.h⟩
theorem OB(d:QT X a mt)(g:QW X (.BoolOp .Or (b::bY) pos) mu):QW X (.BoolOp .Or (a::b::bY) pos) (iJ mt mu):=⟨Mp d.h g.h⟩
theorem OC(h:QW X e mt):QT X e mt:=⟨h.h.pt⟩
theorem OD:QI X [] jU:=⟨Nw⟩
theorem OE(h:QT X c mt):QI X [c] mt:=⟨Nx h.h⟩
end
section
variable{X:Cx}{e a b c:Expr}{m:ME}{pos:Zj}{mt:MT}{st:Stmt}{bY body orelse:List Stmt}{ms mr mu:MS}{n:Nat}{is:List Nat}{es:List Expr}{g:MG}
theorem OF:QB X [] b6:=⟨MW⟩
theorem OG(h1:QS X st ms)(d:QB X bY mr):QB X (st::bY) (aG ms mr):=⟨MX h1.h d.h⟩
theorem OH(h1:QS X st ms):QB X [st] ms:=⟨MY h1.h⟩
theorem OI:QS X (.Pass pos) b6:=⟨MZ⟩
theorem OJ(d:QE X e m):QS X (.Return (aX e) pos) (bC m):=⟨M0 d.h⟩
noncomputable def kM(e:Expr):Bool:=!(e.ctorIdx==8||e.ctorIdx==9||e.ctorIdx==10)
theorem uQ{e:Expr}{t:Option Expr}{n:Nat}{env:a3h}(h:kM e=b5):a1M e t n env=pure false:=by cases e<;>first|rfl|cases h
theorem OK(d:QE X e m)(h:kM e=true:=by rfl):QS X (.Expr e pos) (dW m):=⟨M3 d.h (uQ h)⟩
theorem OL(hc:QT X c mt)(d:QB X body ms)(h:QB X orelse mu):QS X (.If c body orelse pos) (bT mt ms mu):=⟨M4 hc.h d.h h.h⟩
theorem OM(i:Nat){x:Str}{d:Zj}(j:X.N.Nodup)(k:QE X e m)(h:kM e=true:=by rfl)(hi:X.N[i]?=aX x:=by rfl)(o:Loc X.env.scope x:=by first|exact a4V rfl|exact a3z rfl)
  (l:X.fn x=b5\/X.env.scope.names.lookup x=aX .local:=by first|exact .inl rfl|exact .inr rfl):QS X (.Assign [.Name x d] e pos) (aW i m):=⟨Dv j hi o k.h (uQ h) l⟩
theorem ON(i:Nat){x:Str}(d:X.N.Nodup)(hi:X.N[i]?=aX x:=by rfl)(j:Loc X.env.scope x:=by first|exact a4V rfl|exact a3z rfl)
  (h:X.fn x=b5\/X.env.scope.names.lookup x=aX .local:=by first|exact .inl rfl|exact .inr rfl):QG X (.Name x pos) (bP i):=⟨DJ d hi j h⟩
theorem DV:QGs X [] []:=⟨Cn,rfl,rfl⟩
theorem DW(i:Nat){x:Str}(h:X.N.Nodup)(d:QGs X es is)(hi:X.N[i]?=aX x:=by rfl)(k:Loc X.env.scope x:=by first|exact a4V rfl|exact a3z rfl)
  (j:X.fn x=b5\/X.env.scope.names.lookup x=aX .local:=by first|exact .inl rfl|exact .inr rfl):QGs X (.Name x pos::es) (i::is):=
 ⟨xI (Cj h hi k j) d.h (by rw[rV (e:=.Name x pos) rfl];rfl),by rw[Ym,Ym,d.n],by rw[YG,d.s];rfl⟩
theorem zB{k:Nat}(h:QGs X es is)(hc:X.calm=true:=by rfl):QG X (.Tuple es k pos) (cT is):=⟨NA hc h.h ((DS h.s).trans h.n) (DT h.s)⟩
noncomputable def zC(e:Expr):Bool:=!(e.ctorIdx==25)
theorem OO{es:List Expr}{k:Nat}{pt:Zj}{e:Expr}{env:a3h}(h:zC e=b5):a0d [.Tuple es k pt] e env=pure none:=by cases e<;>first|rfl|cases h
theorem OP{k:Nat}{pt:Zj}(d:QE X e m)(i:QG X (.Tuple es k pt) g)(h:zC e=true:=by rfl):QS X (.Assign [.Tuple es k pt] e pos) (fQ m g):=
 ⟨NB d.h i.h (by cases e<;>rfl) (OO h) (by rw[rV (e:=.Tuple es k pt) rfl];rfl)⟩
theorem OQ(i j:Nat){x y:Str}{a b:Expr}{ms:MA}{o py pt:Zj}{l k:Nat}{d:Zj}(p:X.N.Nodup)(q:QA X [a,b] ms n)(h:i≠j:=by decide)(hc:X.calm=true:=by rfl)(hi:X.N[i]?=aX x:=by rfl)(r:X.N[j]?=aX y:=by rfl)
  (s:X.env.scope.names.lookup x=aX .local:=by rfl)(u:X.env.scope.names.lookup y=aX .local:=by rfl)
  (hw:a0d [.Tuple [.Name x o,.Name y py] l pt] (.Tuple [a,b] k d) X.env=pure (aX [x,y]):=by rfl) :
  QS X (.Assign [.Tuple [.Name x o,.Name y py] l pt] (.Tuple [a,b] k d) pos) (pN i j ms):=⟨NK hc p hi r h s u q.h hw (by rfl)⟩
end
section
variable{P:Yk}{w:Yz}{K:Xy}{mg:Str->Option Value}{base:YZ}
theorem OR{x a:Str}{st:Stmt}{f:Addr}{g:a0h}{N ps:List Str}{k:Nat}{body:List Stmt}{m:MS}(F:Fun K x a st f g)(S:FnScope N ps (cP st))(e:ps.length<=N.length)(d:fZ st=body)
  (c:∀(b:Value)(A:Yt)(outer:List a3h)(s:XD)(H:Hp)(E:XK),Room k (A.deeper (a4t a (cP st) s.heap.objs.size f b))->
   QB (lI gN P w K mg base N a (cP st) f b A outer s H E).nox body m):FnOk P w K mg base gN (k+1) f g ps (jQ K ps.length (yK N.length m)):=
 M6 F S e λb A outer s H E h=>by rw[d];exact(c b A outer s H E h).h
end
noncomputable abbrev iC:=Hm->Nat->Option (Option D)
noncomputable abbrev MI:=aF->Hm->Option (iC×Nat×Hm)
inductive tMI (K:Xy)(m:MI)(σ:St)(H:Hp)(R:It->Hp->Prop):Prop
 |mk (π:Nat->Addr)(ρ:aF)(μ:Hm)(src:iC)(n:Nat)(μ':Hm)(r:Rp K π H μ)(E:En K π μ.length H σ ρ)(hm:m ρ μ=aX (src,n,μ'))(k:∀π' H' J,Ext π μ.length H π' μ'.length H'->Rp K π' H' μ'->Wk K J src π' μ'.length H'->R J H'):tMI K m σ H R
structure QJ(X:Cx)(e:Expr)(m:MI):Prop where
 h:∀tg,PI X tg e (tMI X.K m)
section
variable{X:Cx}{pos:Zj}{e:Expr}{m:ME}
noncomputable def DX:MI:=λ_ _=>aY
theorem OS:QJ X e DX:=⟨λtg a8T s σ H R I hw=>by
 obtain⟨h,i,g,b,n,c,d,E,a,k⟩:=hw;cases a⟩
noncomputable def gP(a:Hm):D->Option (List D)
 |d=>bK a d
noncomputable def cH(x:D):iC:=λa i=>(gP a x).map λxs=>xs[i]?
noncomputable def cR(m:ME):MI:=λb a=>(m b a).bind λp=>(gP p.2 p.1).map λxs=>(cH p.1,xs.length+1,p.2)
theorem OT(h:QE X e m):QJ X e (cR m):=⟨λtg a8T s σ H R I hw=>by
 obtain⟨K,L,G,A,n,J,r,E,b,k⟩:=hw;obtain⟨⟨x,i⟩,u,b⟩:=Xv.mp b;obtain⟨B,w,b⟩:=XA.mp b;cases b;have key:∀(o:bK i x=aX B)(p:cH x=lT x),X5 (Yg X.prog X.w) X.A (eval e X.env) (λv z=>X5 (Yg X.prog X.w) X.A (a2H v) (xJ X a8T σ tg R) X.xe z) X.xe s:=λo p=>by
  refine Np h.h a8T s σ H R I ⟨K,L,G,x,_,r,E,u,λc M j l d y=>?_⟩;obtain⟨a,e,q⟩:=Nq d y o;subst e;refine⟨a,rfl,?_⟩;dsimp only at k;rw[p]at k;rcases q with⟨g,W⟩|⟨g,W⟩
  ·exact .inl ⟨g,k c j _ l d W⟩
  ·exact .inr ⟨g,k c j _ l d W⟩
 cases x with
 |_=>exact key w rfl⟩
noncomputable def m7(a:MA):MI:=λc b=>(a c b).bind λp=>match p.1 with
 |[.int j]=>if -(2^62)<=j/\j<2^62 then aX (iA 0 j.toNat,j.toNat+1,p.2)else aY|_=>aY
theorem OU{q:Cx->Prop}{tg:Expr}(tr:∀(l:Addr)(lo:Int)(n:Nat),Turn q X.prog X.w X.K tg (mR lo n) [l] l (λi h=>a3y h l (lo+(i:Nat)*1) ((n:Int)-(i:Nat)) 1)){a:Expr}{y:MA}{n:Nat}{p:Zj}(c:Gl X "range") (d:X.mg "range"=aY) (u:QA X [a] y n):rF q X tg (.Call (.Name "range" p) [a] [] pos) (tMI X.K (m7 y)):=λa8T s σ H R I hw=>by
 have w:=u.s;rw[YG,XG]at w;obtain⟨O,Q,M,K,T,N,B,E,b,k⟩:=hw;obtain⟨⟨x,o⟩,J,b⟩:=Xv.mp b;refine KG tr c d u.h (f6 w.1) a8T s σ H R I ⟨O,Q,M,x,o,B,E,J,λr U z G A g=>?_⟩;dsimp only at b;split at b
 ·rename_i j;split at b
  ·rename_i v;cases b;cases g with
   |cons g L=>cases g;cases L;exact⟨j,rfl,v.1,v.2,k r z _ G A DK⟩
  ·cases b
 ·cases b
theorem OV{a:Expr}{d:MA}{n:Nat}{p:Zj}(b:Gl X "range") (c:X.mg "range"=aY) (g:QA X [a] d n):QJ X (.Call (.Name "range" p) [a] [] pos) (m7 d):=⟨λtg=>OU Cr b c g⟩
noncomputable def jH(a:MA):MI:=λc b=>(a c b).bind λp=>match p.1 with
 |[.int i,.int j]=>if -(2^62)<=i/\i<2^62/\-(2^62)<=j/\j<2^62 then aX (iA i (j-i).toNat,(j-i).toNat+1,p.2)else aY|_=>aY
theorem OW{a b:Expr}{u:MA}{n:Nat}{p:Zj}(g:Gl X "range") (h:X.mg "range"=aY) (r:QA X [a,b] u n):QJ X (.Call (.Name "range" p) [a,b] [] pos) (jH u):=⟨λtg a8T s σ H R I hw=>by
 have d:=r.s;rw[YG,XG,YG,XG]at d;obtain⟨O,Q,M,J,T,N,y,E,c,k⟩:=hw;obtain⟨⟨x,o⟩,A,c⟩:=Xv.mp c;refine KH g h r.h (by rw[f6 d.1,f6 d.2.1];rfl) (by rw[f6 d.2.1];rfl) a8T s σ H R I ⟨O,Q,M,x,o,y,E,A,λq U v z w l=>?_⟩;dsimp only at c;split at c
 ·rename_i i j;split at c
  ·rename_i B;cases c;cases l with
   |cons l K=>
    cases l;cases K with
    |cons G L=>cases G;cases L;exact⟨i,j,rfl,B,k q v _ z w DK⟩
  ·cases c
 ·cases c⟩
noncomputable def bW(c:MI)(g:MG)(b:MS):MS:=λa d=>(c a d).bind λp=>dD p.1 g b p.2.1 0 a p.2.2
end
noncomputable def kN(d:BD)(g:MI)(c:MT)(e:ME):ME:=λb h=>(g b h).bind λp=>(jF p.1 d c e b p.2.2.length p.2.1 0 (p.2.2++[.lst []])).map λa=>(.loc p.2.2.length,a)
noncomputable abbrev fR(a:MI)(c:MT)(e:ME):ME:=kN pM a c e
noncomputable def gB(n:Nat)(a:BD):MG:=λd c b=>(a d b).map λx=>c.take n++x
theorem OX{X:Cx}{n:Nat}{x:Str}{i:Zj}(j:X.N.length=n+1)(h:PG X (.Name x i) (tMG X.K (bP n))):PG X (.Name x i) (tMG X.K (gB n pM)):=by
 intro b s w H v u Q I r hw;obtain⟨p,a,o,d,q,R,E,hd,l,k⟩:=hw;cases l;refine h b s w H v u Q I r ⟨p,a,o,d,_,R,E,hd,rfl,λc g=>k c ?_⟩;have m:a.length=n+1:=by rw[<- E.len,I.len,j]
 have e:a.set n (aX d)=a.take n++[aX d]:=by rw[List.set_eq_take_append_cons_drop,if_pos (by lia),List.drop_of_length_le (by lia)]
 rw[e]at g;exact g
theorem DY:∀(xs:List D)(a b:aF),b.length=xs.length->oA (a++b) (a2o a.length xs.length) xs=a++xs.map aX
 |[],a,[],_=>by simp[oA]
 |x::xs,a,y::b,h=>by have c:=DY xs (a++[aX x]) b (by simpa using h);rw[Ym,a2x];show oA ((a++y::b).set a.length (aX x)) (a2o (a.length+1) xs.length) xs=_;rw[a2N _ _ (XJ _),a8a,Y2];rw[XI,a5w]at c;rw[YO,List.singleton_append]at c;rw[c];simp
theorem OY{X:Cx}{n k:Nat}{tg:Expr}(q:X.N.length=n+k)(h:PG X tg (tMG X.K (cT (a2o n k)))):PG X tg (tMG X.K (gB n (DM k))):=by
 intro b s J H v u Q I r hw;obtain⟨B,a,A,d,G,R,E,hd,w,z⟩:=hw;obtain⟨y,m,o⟩:=XA.mp w;obtain⟨l,p,c⟩:=Xv.mp m;split at c
 ·rename_i j;cases c;subst o;have x:a.length=n+k:=by rw[<- E.len,I.len,q]
  refine h b s J H v u Q I r ⟨B,a,A,d,oA a (a2o n k) l,R,E,hd,(by simp only[cT,p,XY,List.length_range',if_pos j]),λg i=>z g ?_⟩;have e:=DY l (a.take n) (a.drop n) (by rw[Z9];lia);rw[a0I,Zy,Nat.min_eq_left (by lia),j]at e;rw[e]at i;exact i
 ·cases c
section
variable{X:Cx}{scope:a0g}{cl:List (Str×Addr)}{xs:List Str}{tg elt iter:Expr}{ifs:List Expr}{pos ppos:Zj}{mi:MI}{me:ME}{mc:MT}{bd:BD}
theorem OZ{K:Xy}{π:Nat->Addr}{n:Nat}{H:Hp}{σ:St}{a o:aF}{k:Nat}(E:En K π n H σ (a++o))(b:o.length=k):En K π n H σ (a++Yv k aY):=by
 refine⟨by rw[E.len,XI,XI,Zp,b],λi d q=>?_⟩;by_cases hi:i<a.length
 ·rw[YC hi]at q;exact E.get i d (by rw[YC hi];exact q)
 ·rw[Zt (a1C.mp hi),a0t]at q;split at q<;>cases q
theorem DZ{q:Cx->Prop}(O:CompOk X scope cl xs)(hq:∀a8T σ H s k,Inv X a8T σ H s->q (cQ X scope cl s.heap.objs.size (bN xs X.N++xs) s H k))(hi:rF q X tg iter (tMI X.K mi))(hb':∀d μ z,bd d μ=aX z->z.length=xs.length)(hg:∀C s₀ H₀ k,PG (cQ X scope cl C (bN xs X.N++xs) s₀ H₀ k) tg (tMG X.K (gB X.N.length bd)))
  (hc:∀C s₀ H₀ k,n9 (cQ X scope cl C (bN xs X.N++xs) s₀ H₀ k) ifs mc)(he:∀C s₀ H₀ k,PE (cQ X scope cl C (bN xs X.N++xs) s₀ H₀ k) elt (tM X.K me))
  (hs:∀x,a0X iter X.env x=pure x){use:Option (Value->a8k Unit)}{QQ:Value->XD->Prop}{a8T:jw}{s:XD}{σ:St}{H:Hp}{π:Nat->Addr}{U:aF}{μ Y:Hm}{d:D}
  (I:Inv X a8T σ H s)(R:Rp X.K π H μ)(E:En X.K π μ.length H σ U)(hm:kN bd mi mc me U μ=aX (d,Y))
  (fin:∀(p C:Addr)(l:Nat->Addr)(g:Hp)(s':XD),Ext π μ.length H l Y.length g->Rp X.K l g Y->IsD X.K l Y.length g (.ref p) d->(∃m,s'.heap.Ns C m)->X.s₀.heap.objs.size<=C->C≠X.env.locals->g C=aY->
   (∀y c,X.env.cells.lookup y=aX c->c≠C)->(∀q∈X.pn++a8T,q.1≠C)->(∀h',(∀b o,b≠C->s'.heap.get? b=aX o->h'.get? b=aX o)->Inv X a8T σ g {s' with heap:=h'})->
   compPost (Yg X.prog X.w) X.A X.xe use QQ (.ref p) C (.ok .next) s') :
  X5 (Yg X.prog X.w) X.A (comprehension (.ListComp elt [⟨tg,iter,ifs,0⟩] scope pos) scope X.env ppos (newList []) b4 (eval iter X.env) use) QQ X.xe s:=by
 obtain⟨⟨src,nt,a⟩,h1,hm⟩:=Xv.mp hm;obtain⟨μ2,h3,hm⟩:=XA.mp hm;cases hm;have hit:X5 (Yg X.prog X.w) X.A (eval iter X.env) (λv s1=>X5 (Yg X.prog X.w) X.A (a2H v) (PIEq q X a8T σ tg λJ H1=>∃Z,Ext π μ.length H Z a.length H1/\Rp X.K Z H1 a/\Wk X.K J src Z a.length H1) X.xe s1) X.xe s:=
  hi a8T s σ H _ I ⟨π,U,μ,src,nt,a,R,E,h1,λZ H1 J e1 R1 W=>⟨Z,e1,R1,W⟩⟩
 refine wpAny_comprehension_free rfl hs O.clos O.kind O.names (Y8 hit (λv s1 hv=>Y8 hv (λitv B h4=>?_) λ_ _ z=>z) λ_ _ z=>z);obtain⟨it,k,tn,J,H2,rfl,I2,T,st2,f2,Z,e1,R1,W⟩:=h4;refine Y4 (wpAny_newFunctionEnv O.nocell (by intro y hy;simp at hy) (λh₁ K L=>?_) O.kind);dsimp only at K L ⊢;have hfr:H2 B.heap.objs.size=none:=I2.hok.fresh (XJ _);have I3:Inv X a8T σ (aP H2 B.heap.objs.size (.lst [])) {B with heap:=B.heap.push {cls:=.type "list",dict:=aY,data:=.seq ([]:gq).toArray}}:=
  I2.laid (t':=B.toks) (λb u e=>XE _ e) (XJ _) ⟨Yu _,[],0,.nil,XT _ rfl⟩
 obtain⟨e2,R2,q2⟩:=R1.alloc (c:=.lst []) (o:=.lst []) hfr .nil;generalize hs3:({B with heap:=B.heap.push {cls:=.type "list",dict:=aY,data:=.seq ([]:gq).toArray}}:XD)=s3 at I3;have G:B.heap.push {cls:=.type "list",dict:=aY,data:=.seq ([]:gq).toArray}=s3.heap:=by rw[<- hs3]
 have e12:=e1.trans e2;generalize hH3:aP H2 B.heap.objs.size (.lst [])=H3 at I3 e2 R2 e12;generalize hπ3:i8 Z a.length B.heap.objs.size=π3 at e2 R2 q2 e12;have hob:∀b∈k,∃o,s3.heap.get? b=aX o:=λb A=>by obtain⟨o,ho,_⟩:=T.obj 0 _ st2 b A;exact⟨o,by rw[<- G];exact XE _ ho⟩
 have f3:∀b∈k,iZ X a8T H3 b:=λb A=>by obtain⟨o,ho,_⟩:=T.obj 0 _ st2 b A;refine⟨?_,(f2 b A).2⟩;rw[<- hH3,bM (XU (XN ho))];exact(f2 b A).1
 have st3:tn 0 s3.heap:=T.keep 0 _ _ st2 λb A o e=>by rw[<- G];exact XE _ e
 have hC:(B.heap.push {cls:=.type "list",dict:=aY,data:=.seq ([]:gq).toArray}).objs.size=s3.heap.objs.size:=by rw[G]
 rw[G]at K L;have hk1:∀b o,s3.heap.get? b=aX o->h₁.get? b=aX o:=λb o e=>L.extBut b o (XU (XN e)) (XE _ e);have E3:En X.K π3 (a++[C.lst []]).length H3 (σ++Yv xs.length aY) (U++Yv xs.length aY):=by
  have E':=E.mono e12;refine⟨by rw[XI,XI,E'.len,Zp,Zp],λi d' q=>?_⟩;by_cases hi:i<U.length
  ·rw[YC hi]at q;obtain⟨v,h5,h6⟩:=E'.get i d' q;exact⟨v,by rw[YC (by rw[E'.len];exact hi)];exact h5,h6⟩
  ·rw[Zt (a1C.mp hi),a0t]at q;split at q<;>cases q
 have hlen:U.length=X.N.length:=by rw[<- E.len];exact I.len
 have stat:∀{g:Hp}{pl:jw},(∀b∈k,g b=aY)->pl=[]->∀b∈k,iZ (cQ X scope cl s3.heap.objs.size (bN xs X.N++xs) s3 H3 k) pl g b:=λ{g pl} hn hpl b A=>by
  obtain⟨f0,f1,f2',f3',f4,f5⟩:=f3 b A;obtain⟨o,ho⟩:=hob b A;refine⟨hn b A,XU (XN ho),λz=>?_,.inl A,λy c h=>f4 y c (O.sub y c h),λp hp=>?_⟩
  ·rcases Yi.mp (I3.stkSub b z)with z|z
   ·exact f1 z
   ·exact f2' z
  ·subst hpl;exact absurd (show p∈([]:jw)from hp) (by simp)
 have loop:∀s4:XD,(∃tk,s4={s3 with heap:=h₁,toks:=tk})->
   a1g (Yg X.prog X.w) X.A (.compLoop (.ListComp elt [⟨tg,iter,ifs,0⟩] scope pos) 0 (.ref it) (.ref B.heap.objs.size) (a1B scope cl s3.heap.objs.size X.env))
    (compPost (Yg X.prog X.w) X.A X.xe use QQ (.ref B.heap.objs.size) s3.heap.objs.size) s4:=by
  rintro s4 ⟨tk,rfl⟩;have I4:=O.inv (tk:=tk) I3 f3 hob K hk1;refine Nv (λn s'=>∃i Q g l M o,Inv (cQ X scope cl s3.heap.objs.size (bN xs X.N++xs) s3 H3 k) [] Q g s'/\tn i s'.heap/\(∀b∈k,g b=aY)/\Ext π3 (a++[C.lst []]).length H3 l M.length g/\Rp X.K l g M /\
   En X.K l M.length g Q (U++o)/\o.length=xs.length/\jF src bd mc me U a.length n i M=aX Y) ?_ nt
   ⟨0,_,H3,π3,a++[C.lst []],Yv xs.length aY,I4,T.keep 0 _ _ st3 λb A o e=>hk1 b o e,λb A=>(f3 b A).1,.refl,R2,E3,Zp,h3⟩
  rintro n s5 ⟨i,σ5,H5,N,μ5,o5,I5,st5,fr5,e5,R5,E5,l5,g5⟩;cases n with
  |zero=>cases g5|succ n=>
   obtain⟨o,h6,h7⟩:=Xv.mp g5;cases o with
   |none=>
    cases h7;have stop:=W.stop N _ H5 i (e2.trans e5) R5 h6;refine Y8 (T.done (cQ X scope cl s3.heap.objs.size (bN xs X.N++xs) s3 H3 k) rfl rfl rfl (hq a8T σ H3 s3 k I3) i [] s5 σ5 H5 (λ_ _=>False) I5 (stat fr5 rfl) st5 stop) (λr s6 ⟨hr,I6⟩=>?_) λ_ _ z=>z;subst hr;obtain⟨m6,hn6,_⟩:=id I6.loc;have hp:N a.length=B.heap.objs.size:=by rw[e5.pi a.length (by simp),q2]
    refine fin B.heap.objs.size s3.heap.objs.size N H5 s6 (e12.trans e5) R5 ?_ ⟨m6,hn6⟩ I3.sz (Yn (XU I3.lt)) I6.free (λy c hc z=>?_) (λq hq z=>?_) λh' hh=>CompOk.back I3 f3 I6 hh
    ·rw[<- hp];exact .loc (Yh (by simp) e5.le)
    ·obtain⟨v,o,ho,_⟩:=I3.cell y c hc;exact XU (XN ho) z
    ·exact XU (XN (I3.pin q hq).1) z
   |some d=>
    obtain⟨z,hz,h7⟩:=Xv.mp h7;obtain⟨⟨b,μ6⟩,h8,h9⟩:=Xv.mp h7;obtain⟨g1,g2⟩:=W.go N μ5 H5 i d (e2.trans e5) R5 h6;refine Y8 (T.item (cQ X scope cl s3.heap.objs.size (bN xs X.N++xs) s3 H3 k) rfl rfl rfl (hq a8T σ H3 s3 k I3) i [] s5 σ5 H5 (λ_ _=>False) I5 (stat fr5 rfl) st5 g1) (λr s6 ⟨u,hr,h10⟩=>?_) λ_ _ z=>z;subst hr;refine Y8 h10 (λ_ s7 ⟨v,H7,I7,r7,y7,st7,fr7⟩=>?_) λ_ _ z=>z;obtain⟨e7,R7,hd⟩:=g2 v H7 y7;have I7':=I7.pinned (stat fr7 rfl) (T.obj _ _ st7);have e5:=e5.trans e7;refine Y8 (hg _ _ _ _ _ s7 σ5 H7 v u (λQ g=>En X.K N μ5.length H7 Q (U++z)/\g=H7) I7' r7
     ⟨N,U++Yv xs.length aY,μ5,d,U++z,R7,OZ (E5.mono e7) l5,hd,(by
      show(bd d μ5).map (λx=>(U++Yv xs.length aY).take X.N.length++x)=_;rw[hz,<- hlen,a7o];rfl),λQ E'=>⟨E',rfl⟩⟩) (λ_ s8 ⟨σ8,H8,I8,E8,z2⟩=>?_) λ_ _ z=>z
    subst z2;have again:∀{s9:XD}{H9:Hp}{j:Nat->Addr}{μ9:Hm},Inv (cQ X scope cl s3.heap.objs.size (bN xs X.N++xs) s3 H3 k) ([]++rH k s7.heap) σ8 H9 s9->Ext π3 (a++[C.lst []]).length H3 j μ9.length H9->Rp X.K j H9 μ9->
      En X.K j μ9.length H9 σ8 (U++z)->jF src bd mc me U a.length n (i+1) μ9=aX Y->
      ∃m,m<n+1/\∃i Q g l M o,Inv (cQ X scope cl s3.heap.objs.size (bN xs X.N++xs) s3 H3 k) [] Q g s9/\tn i s9.heap/\(∀b∈k,g b=aY)/\Ext π3 (a++[C.lst []]).length H3 l M.length g/\Rp X.K l g M /\
       En X.K l M.length g Q (U++o)/\o.length=xs.length/\jF src bd mc me U a.length m i M=aX Y:=λ{s9 H9 j μ9} I9 e9 R9 E9 g9=>by
     refine⟨n,ZK _,i+1,_,H9,j,μ9,z,I9.unpinned,T.keep _ _ _ st7 λb A o e=>(I9.pin (b,o) (YQ _ (YQ _ (tZ A e)))).1,λb A=>?_,e9,R9,E9,hb' _ _ _ hz,g9⟩;obtain⟨o,e,_⟩:=T.obj _ _ st7 b A;exact(I9.pin (b,o) (YQ _ (YQ _ (tZ A e)))).2.1
    refine Y8 (hc _ _ _ _ _ s8 _ H8 (λb' g=>∃j,b'=b/\Ext N μ5.length H8 j μ6.length g/\Rp X.K j g μ6) I8 ⟨N,_,μ5,b,μ6,R7,E8,h8,λj H9 e9 R9=>⟨j,rfl,e9,R9⟩⟩) (λok s9 ⟨H9,I9,j,A,e9,R9⟩=>?_) λ_ _ z=>z;subst A;cases ok with
    |false=>rw[if_neg X9];exact again I9 (e5.trans e9) R9 (E8.mono e9) h9|true=>
     rw[if_pos rfl];obtain⟨⟨dy,μ7⟩,h11,h12⟩:=Xv.mp h9;obtain⟨μ8,h13,h14⟩:=Xv.mp h12;refine Y8 (he _ _ _ _ _ s9 _ H9 (λy g=>∃w,Ext j μ6.length H9 w μ7.length g/\Rp X.K w g μ7/\IsD X.K w μ7.length g y dy) I9 ⟨j,_,μ6,dy,μ7,R9,E8.mono e9,h11,λw y H10 e10 R10 i10=>⟨w,e10,R10,i10⟩⟩)
      (λu' s10 ⟨y,H10,I10,ry,w,e10,R10,i10⟩=>?_) λ_ _ z=>z
     unfold pL at h13;split at h13
     ·rename_i zs hz;split at h13
      ·rename_i hl;cases h13;obtain⟨vs,h15,h16⟩:=R10.lst _ zs hz;have eall:=(e5.trans e9).trans e10;have hp:w a.length=B.heap.objs.size:=by rw[eall.pi a.length (by simp),q2]
       obtain⟨e11,R11⟩:=R10.put (a:=a.length) (c:=.lst (zs++[dy])) (o:=.lst (vs++[y])) (Xz.mp hz).1 h15 (.inl ⟨vs,rfl⟩) (h16.append (.cons i10 .nil));rw[hp]at h15 e11 R11;refine Y8 (C3 (X:=cQ X scope cl s3.heap.objs.size (bN xs X.N++xs) s3 H3 k) _ s10 _ H10 (.ref B.heap.objs.size) [y] (.ref B.heap.objs.size) [u'] (λ_ g=>g=aP H10 B.heap.objs.size (.lst (vs++[y]))) I10 rfl (.cons ry .nil)
        ⟨B.heap.objs.size,vs,y,rfl,rfl,h15,by rw[h16.length];exact hl,rfl⟩) (λ_ s11 ⟨_,H11,I11,_,z⟩=>?_) λ_ _ z=>z
       subst z;exact again I11 (eall.trans e11) R11 ((E8.mono (e9.trans e10)).mono e11) h14
      ·cases h13
     ·cases h13
 have l4:=loop {s3 with heap:=h₁,toks:=B.toks+([]:List (Str×Value)).length} ⟨_,rfl⟩;have hst4:tn 0 h₁:=T.keep 0 _ _ st3 λb A o e=>hk1 b o e;subst hs3;exact codeAny_compStart_list l4 (T.self _ 0 _ _ _ hst4 l4)
theorem O0{q:Cx->Prop}(O:CompOk X scope cl xs)(L:∀a8T σ H s a,Inv X a8T σ H s->q (cQ X scope cl s.heap.objs.size (bN xs X.N++xs) s H a))(hi:rF q X tg iter (tMI X.K mi))(c:∀d r z,bd d r=aX z->z.length=xs.length)(B:∀C s₀ H₀ a,PG (cQ X scope cl C (bN xs X.N++xs) s₀ H₀ a) tg (tMG X.K (gB X.N.length bd)))
  (hc:∀C s₀ H₀ a,n9 (cQ X scope cl C (bN xs X.N++xs) s₀ H₀ a) ifs mc)(A:∀C s₀ H₀ a,PE (cQ X scope cl C (bN xs X.N++xs) s₀ H₀ a) elt (tM X.K me))
  (M:∀x,a0X iter X.env x=pure x):PE X (.ListComp elt [⟨tg,iter,ifs,0⟩] scope pos) (tM X.K (kN bd mi mc me)):=by
 intro a8T s σ H Q I hw;obtain⟨π,ρ,r,d,Y,R,E,G,k⟩:=hw;rw[eval_ListComp];refine DZ (use:=aY) O L hi c B hc A M I R E G λp C i j Z v u T h N K g l n back=>?_;obtain⟨m,J⟩:=h;exact⟨m,J,λw U=>⟨.ref p,j,back w (λb o y e=>(U.2 b y).trans e),rfl,k i _ j v u T⟩⟩
theorem O1(O:CompOk X scope cl xs)(a:X.calm=b5)(hi:PI X tg iter (tMI X.K mi))(c:∀d i z,bd d i=aX z->z.length=xs.length)(g:∀C s₀ H₀ b,PG (cQ X scope cl C (bN xs X.N++xs) s₀ H₀ b) tg (tMG X.K (gB X.N.length bd)))
  (hc:∀C s₀ H₀ b,n9 (cQ X scope cl C (bN xs X.N++xs) s₀ H₀ b) ifs mc)(e:∀C s₀ H₀ b,PE (cQ X scope cl C (bN xs X.N++xs) s₀ H₀ b) elt (tM X.K me))
  (h:∀x,a0X iter X.env x=pure x):PE X (.ListComp elt [⟨tg,iter,ifs,0⟩] scope pos) (tM X.K (kN bd mi mc me)):=O0 O (λ_ _ _ _ _ _=>a) hi c g hc e h
theorem O2{i:Nat}{y:Str}{py g:Zj}(O:CompOk X scope cl xs)(hN:X.N.Nodup)(h:X.calm=b5)(hi:PI X tg iter (tMI X.K mi))(B:∀d Y z,bd d Y=aX z->z.length=xs.length)(hg:∀C s₀ H₀ n,PG (cQ X scope cl C (bN xs X.N++xs) s₀ H₀ n) tg (tMG X.K (gB X.N.length bd)))
  (hc:∀C s₀ H₀ n,n9 (cQ X scope cl C (bN xs X.N++xs) s₀ H₀ n) ifs mc)(he:∀C s₀ H₀ n,PE (cQ X scope cl C (bN xs X.N++xs) s₀ H₀ n) elt (tM X.K me))
  (hs:∀x,a0X iter X.env x=pure x)(hy:X.N[i]?=aX y)(U:X.env.scope.names.lookup y=aX .local)
  (K:a1M (.ListComp elt [⟨tg,iter,ifs,0⟩] scope pos) (aX (.Name y py)) g.line X.env=pure b5) :
  PS X (.Assign [.Name y py] (.ListComp elt [⟨tg,iter,ifs,0⟩] scope pos) g) (tMS X.K (aW i (kN bd mi mc me))):=by
 intro l s Z H EN I hw;obtain⟨π,ρ,Y,fl,ρ',μ',R,E,G,k⟩:=hw;obtain⟨⟨d,μ1⟩,h1,G⟩:=XA.mp G;cases G;rw[exec_Assign_Name_used _ _ _ _ K];refine Xw (a1R ?_);refine Xw (Xw ?_);refine DZ (use:=aX (a3w (.Name y py) X.env)) (QQ:=λ_ u=>X5 (Yg X.prog X.w) X.A (pure ()) (λ_ M=>X5 (Yg X.prog X.w) X.A (pure a6S) (SP X l EN) X.xe M) X.xe u) O (λ_ _ _ _ _ _=>h) hi B hg hc he hs I R E h1 λp C Q v u T R1 i1 J L q j c r back=>?_;obtain⟨m,hn⟩:=J;have I1:Inv X l Z v u:=back u.heap λb o _ e=>e;show X5 (Yg X.prog X.w) X.A (a3w (.Name y py) X.env (.ref p)) _ X.xe u;refine a7D ?_;refine Ce I1 hN hy (.inl U) (show RelV (.ref p) (.ref p)from rfl) (λs2 I2 ⟨a,sb,A⟩=>?_) (.inr U);have w:C≠a:=by
  rcases A with rfl|A
  ·exact q
  ·exact Yn (c _ _ A)
 refine⟨m,hn.sameBut sb w,λh' N=>XC (XC ?_)⟩;refine⟨Z.set i (aX (.ref p)),v,I2.turned (t':=s2.toks) (λb o hb e=>(N.2 b hb).trans e) j q (.inr L) c r,?_⟩;exact k Q _ v T R1 ((E.mono T).set i1 i)
end
noncomputable def cA:ME:=λ_ _=>aY
noncomputable def oC:MT:=λ_ _=>aY
noncomputable def cK:MS:=λ_ _=>aY
section
variable{X:Cx}{e a b c o:Expr}{m m1 m2 ma mb mc:ME}{pos:Zj}{mt mu:MT}{bY es:List Expr}{ms:MA}{n:Nat}
theorem cE:QE X e cA:=⟨λa8T s σ H Q I h=>by
 obtain⟨l,p,j,d,i,R,E,g,k⟩:=h;cases g⟩
theorem zD:QT X e oC:=⟨λa8T s σ H Q I h=>by
 obtain⟨l,p,j,d,i,R,E,g,k⟩:=h;cases g⟩
theorem O3:QW X e oC:=⟨λj a8T s σ H Q I h=>by
 obtain⟨p,q,l,d,i,R,E,g,k⟩:=h;cases g⟩
theorem dX{st:Stmt}:QS X st cK:=⟨λa8T s σ H D I h=>by
 obtain⟨p,q,l,j,i,g,R,E,d,k⟩:=h;cases d⟩
theorem uR{g:MG}(p:∀d l j,g d l j=aY):QG X e g:=⟨λa8T s σ H v u Q I r h=>by
 obtain⟨w,l,j,d,q,R,E,hd,i,k⟩:=h;rw[p]at i;cases i⟩
theorem oD(h1:QE X e m1)(p:QE X e m2)(h:∀i g r,m i g=aX r->m1 i g=aX r\/m2 i g=aX r):QE X e m:=⟨λa8T s σ H Q I q=>by
 obtain⟨l,i,g,d,j,R,E,u,k⟩:=q;rcases h i g _ u with z|z
 ·exact h1.h a8T s σ H Q I ⟨l,i,g,d,j,R,E,z,k⟩
 ·exact p.h a8T s σ H Q I ⟨l,i,g,d,j,R,E,z,k⟩⟩
theorem pO{m m1 m2:MT}(h1:QT X e m1)(p:QT X e m2)(h:∀i g r,m i g=aX r->m1 i g=aX r\/m2 i g=aX r):QT X e m:=⟨λa8T s σ H Q I q=>by
 obtain⟨l,i,g,d,j,R,E,u,k⟩:=q;rcases h i g _ u with z|z
 ·exact h1.h a8T s σ H Q I ⟨l,i,g,d,j,R,E,z,k⟩
 ·exact p.h a8T s σ H Q I ⟨l,i,g,d,j,R,E,z,k⟩⟩
theorem iM{f j k:D->D->Hm->jk}(h:∀x y d r,f x y d=aX r->j x y d=aX r\/k x y d=aX r) :
  ∀i d r,aB f ma mb i d=aX r->aB j ma mb i d=aX r\/aB k ma mb i d=aX r:=by
 intro i d r g;obtain⟨p,l,g⟩:=Xv.mp g;obtain⟨q,s,g⟩:=Xv.mp g;rcases h _ _ _ _ g with z|z
 ·exact .inl (Xv.mpr ⟨p,l,Xv.mpr ⟨q,s,z⟩⟩)
 ·exact .inr (Xv.mpr ⟨p,l,Xv.mpr ⟨q,s,z⟩⟩)
theorem pP(h:∀g d r,m g d=aX r->m1 g d=aX r\/m2 g d=aX r):∀g d r,aV m g d=aX r->aV m1 g d=aX r\/aV m2 g d=aX r:=by
 intro g d r i;obtain⟨p,j,i⟩:=Xv.mp i;rcases h _ _ _ j with z|z
 ·exact .inl (Xv.mpr ⟨p,z,i⟩)
 ·exact .inr (Xv.mpr ⟨p,z,i⟩)
noncomputable def zE:List D->Option (List Int)
 |[]=>aX []|.int i::r=>(zE r).map (i::·)|_=>aY
noncomputable def dR:D->Option (List Int)
 |.tup ds=>zE ds|_=>aY
noncomputable def bV(d:jx)(k:List Int):Option D:=(d.find? λp=>decide (p.1=k)).map (·.2)
noncomputable def dE(g:jx)(k:List Int)(d:D):jx:=if(bV g k).isSome then g.map (λp=>if p.1=k then(p.1,d)else p)else g++[(k,d)]
noncomputable def aJ:D->D->Hm->jk:=λx y g=>match x with
 |.loc a=>match g[a]? with
  |some (.dT kvs)=>(dR y).bind λk=>(bV kvs k).map λd=>(d,g)|some (.dF kvs)=>(dR y).bind λk=>(bV kvs k).map λd=>(d,g)|_=>hV x y g
 |_=>hV x y g
structure TabOk(X:Cx)(x:Str)(kvs:List (cF×D)):Prop where
 ex:∃(p:Addr)(vs:List (cF×V))(ws:List (cF×Value)),X.mg x=aX (.ref p)/\(∀h:YZ,X.K.In h->h.DictOf (rC X.prog X.w) p ws)/\KV vs ws/\∀π n H,IsKs X.K π n H vs kvs
theorem D0{a8T:jw}{σ:St}{H:Hp}{s:XD}(I:Inv X a8T σ H s){p:Addr}{d:Obj}(h:X.K.lookup p=aX d):H p=none:=(I.bs p d (I.mod.kin p d h)).2
theorem D1{K:Xy}{π:Nat->Addr}{H:Hp}{i:Hm}(R:Rp K π H i){g:Nat}(p:g<i.length):∃u,H (π g)=aX u/\(∀vs,u≠.tup vs)/\∀j v,(∀l,v≠HO.ext l)->u≠.frz j v:=by
 cases q:i[g]? with
 |none=>exact absurd (Yy.mp q) (by lia)|some k=>
  cases k with
  |lst d=>obtain⟨vs,h,_⟩:=R.lst g d q;exact⟨_,h,(λ_ z=>nomatch z),λ_ _ _ z=>nomatch z⟩|dK d=>obtain⟨vs,h,_⟩:=R.dK g d q;exact⟨_,h,(λ_ z=>nomatch z),λ_ _ _ z=>nomatch z⟩|st d=>obtain⟨vs,h,_⟩:=R.st g d q;exact⟨_,h,(λ_ z=>nomatch z),λ_ _ _ z=>nomatch z⟩|dT d=>obtain⟨vs,h,_⟩:=R.dT g d q;exact⟨_,h,(λ_ z=>nomatch z),λ_ _ _ z=>nomatch z⟩|dF d=>obtain⟨j,vs,h,_⟩:=R.dF g d q;exact⟨_,h,(λ_ z=>nomatch z),λ_ _ n z=>n _ (by cases z;rfl)⟩
section
variable{a8T:jw}{σ:St}{H:Hp}{s:XD}{π:Nat->Addr}{μ:Hm}
theorem D2(I:Inv X a8T σ H s)(R:Rp X.K π H μ){g:Nat}(k:g<μ.length){vs:gw}(h:SqT X.K H (π g) vs):False:=by
 obtain⟨u,d,i,j⟩:=D1 R k;rcases h with(h|⟨q,h⟩)|⟨q,p,n,l,_⟩
 ·rw[d]at h;exact i _ (XZ h)
 ·rw[d]at h;exact j _ (.tup vs) (λr z=>nomatch z) (XZ h)
 ·rw[D0 I l]at d;cases d
theorem D3(I:Inv X a8T σ H s)(R:Rp X.K π H μ){g:Nat}(j:g<μ.length){vs:gw}(h:RoL X.K H (π g) vs):False:=by
 obtain⟨u,d,q,i⟩:=D1 R j;rcases h with⟨p,h⟩|⟨p,l,n,k,_⟩
 ·rw[d]at h;exact i _ (.lst vs) (λr z=>nomatch z) (XZ h)
 ·rw[D0 I k]at d;cases d
theorem D4(I:Inv X a8T σ H s){p:Addr}{vs ws:gw}(h:SqT X.K H p vs)(h':RoL X.K H p ws):False:=by obtain⟨g,_,t,_⟩:=I.tuple h;obtain⟨d,_,l,_⟩:=I.list h'.sq;exact absurd rfl (ZQ l.isList t)
mutual
theorem D5(I:Inv X a8T σ H s)(R:Rp X.K π H μ){v:V}{d d':D}:IsD X.K π μ.length H v d->IsD X.K π μ.length H v d'->d=d'
 |.non,h'=>by cases h';rfl
 |.bl _,h'=>by cases h';rfl
 |.int _,h'=>by cases h';rfl
 |.str _,h'=>by cases h';rfl
 |.ty _,h'=>by cases h';rfl
 |.tup h t,h'=>by
  cases h' with
  |tup g i=>have:=I.tuple_inj h g;subst this;rw[zF I R t i]|rol g i=>exact(D4 I h g).elim|loc g=>exact(D2 I R g h).elim
 |.rol h t,h'=>by
  cases h' with
  |tup g i=>exact(D4 I g h).elim|rol g i=>have:=I.list_inj h.sq g.sq;subst this;rw[zF I R t i]|loc g=>exact(D3 I R g h).elim
 |.loc (a:=a1) ha,h'=>by
  generalize hz:V.ref (π a1)=z at h';cases h' with
  |tup g i=>cases hz;exact(D2 I R ha g).elim|rol g i=>cases hz;exact(D3 I R ha g).elim|loc g=>have:=R.inj _ _ ha g (V.ref.inj hz);rw[this]|_=>cases hz
theorem zF(I:Inv X a8T σ H s)(R:Rp X.K π H μ){vs:gw}{ds d:List D}:IsDs X.K π μ.length H vs ds->IsDs X.K π μ.length H vs d->ds=d
 |.nil,h'=>by cases h';rfl
 |.cons h t,h'=>by
  cases h' with
  |cons g i=>rw[D5 I R h g,zF I R t i]
end
end
noncomputable def jX(a:Hm)(x:D):List D->Option Bool
 |[]=>aX b4|y::r=>(cS 8 a y x).bind λb=>(jX a x r).map λc=>b||c
noncomputable def kP(a:Bool):D->D->Hm->jk:=λx y c=>(bK c y).bind λd=>(jX c x d).map λb=>(.bl (if a then !b else b),c)
noncomputable def zG(K:Xy)(c:Bool):R2:=λx y H Q=>∃π a d e g b,Rp K π H a/\IsD K π a.length H x d/\IsD K π a.length H y e/\bK a e=aX g/\jX a d g=aX b/\Q (.bl (if c then !b else b)) H
theorem uS{K:Xy}{c:Bool}:dC K (kP c) (zG K c):=by intro e H p x y d m n o Q R i j a k;obtain⟨l,g,a⟩:=Xv.mp a;obtain⟨b,h,a⟩:=XA.mp a;cases a;exact⟨e,_,x,y,l,b,R,i,j,g,h,k e _ H .refl R (.bl _)⟩
theorem uT{a8T:jw}{σ:St}{H:Hp}{s:XD}{π:Nat->Addr}{i:Hm}(I:Inv X a8T σ H s)(R:Rp X.K π H i){A:Yt}(O:A.units+8<Zk){x:V}{v:Value}{l:D}(rx:RelV x v)(Y:IsD X.K π i.length H x l) :
  ∀{e:List D}{vs:gw}{us:gq}{b:Bool},IsDs X.K π i.length H vs e->Vals vs us->jX i l e=aX b->
   ∃g:Value->Bool,(∀u∈us,a4n A s u v (g u))/\us.any g=b:=by
 classical
 intro e vs us b hi k d
 have n:∀{e:List D}{vs:gw}{us:gq}{b:Bool},IsDs X.K π i.length H vs e->Vals vs us->jX i l e=aX b->(∀u∈us,∃c,a4n A s u v c/\∃w m,RelV w u/\IsD X.K π i.length H w m/\cS 8 i m l=aX c):=by
  intro e
  induction e with
  |nil=>
   intro vs us b hi k d u a
   cases hi
   cases k
   cases a
  |cons y e G=>
   intro vs us b hi k d u a
   cases hi with
   |cons h t=>
    cases k with
    |cons r rt=>
     obtain⟨c,q,d⟩:=Xv.mp d
     obtain⟨L,B,d⟩:=XA.mp d
     rcases Yi.mp a with rfl|a
     ·exact⟨c,yP I R 8 O r rx h Y q,_,_,r,h,q⟩
     ·exact G t rt B u a
 have o:=n hi k d
 refine⟨λu=>if h:u∈us then a3m (o u h)else b4,λu a=>?_,?_⟩
 ·simp only[dif_pos a]
  exact(a4C (o u a)).1
 ·have key:∀u (h:u∈us) w m c,RelV w u->IsD X.K π i.length H w m->cS 8 i m l=aX c->a3m (o u h)=c:=by
   intro u h w m c J U K
   obtain⟨_,w2,M,Z,T,N⟩:=a4C (o u h)
   have:w2=w:=Z.inj J
   subst this
   have:=D5 I R T U
   subst this
   rw[N]at K
   exact XZ K
  have p:∀{e:List D}{vs:gw}{j:gq}{b:Bool},(∀u∈j,u∈us)->IsDs X.K π i.length H vs e->Vals vs j->jX i l e=aX b->j.any (λu=>if h:u∈us then a3m (o u h)else b4)=b:=by
   intro e
   induction e with
   |nil=>
    intro vs j b E hi k d
    cases hi
    cases k
    cases d
    rfl
   |cons y e G=>
    intro vs j b E hi k d
    cases hi with
    |cons h t=>
     cases k with
     |@cons _ u _ us2 r rt=>
      obtain⟨c,q,d⟩:=Xv.mp d
      obtain⟨L,B,d⟩:=XA.mp d
      have jV:u∈us:=E u (X8 ..)
      rw[a4X,G (λz Q=>E z (X7 _ Q)) t rt B,dif_pos jV,key u jV _ _ c r h q]
      exact d
  exact p (λ_ h=>h) hi k d
theorem uU{k:Nat}{A:Yt}(r:Room k A):A.units+9<Zk:=by have:=r.un;lia
theorem D6(G:X.A.units+9<Zk):OpR X (YU .In) (zG X.K b4):=by
 intro m s N H x y v u Q I l A h;obtain⟨M,L,B,E,K,b,R,k,z,n,j,q⟩:=h;obtain⟨p,J,rfl,c,hd⟩:=rR R z n;cases A;rcases c with c|c
 ·obtain⟨a,r,i,o⟩:=I.list c;obtain⟨g,d,e⟩:=uT I R (A:=X.A.in1) (by rw[n6];lia) l k hd r j;refine SeqAt.in_listAt g i.isList (λw hw=>d w (by simpa using hw)) ⟨.bl _,H,I,rfl,?_⟩;rw[show a.toArray.any g=a.any g by simp,e];exact q
 ·obtain⟨a,r,i,o⟩:=I.tuple c;obtain⟨g,d,e⟩:=uT I R (A:=X.A.in1) (by rw[n6];lia) l k hd r j;refine SeqAt.in_tupleAt g i (λw hw=>d w (by simpa using hw)) ⟨.bl _,H,I,rfl,?_⟩;rw[show a.toArray.any g=a.any g by simp,e];exact q
theorem D7(G:X.A.units+9<Zk):OpR X (YU .NotIn) (zG X.K b5):=by
 intro m s N H x y v u Q I l A h;obtain⟨M,L,B,E,K,b,R,k,z,n,j,q⟩:=h;obtain⟨p,J,rfl,c,hd⟩:=rR R z n;cases A;rcases c with c|c
 ·obtain⟨a,r,i,o⟩:=I.list c;obtain⟨g,d,e⟩:=uT I R (A:=X.A.in1) (by rw[n6];lia) l k hd r j;refine SeqAt.notIn_listAt g i.isList (λw hw=>d w (by simpa using hw)) ⟨.bl _,H,I,rfl,?_⟩;rw[show a.toArray.any g=a.any g by simp,e];exact q
 ·obtain⟨a,r,i,o⟩:=I.tuple c;obtain⟨g,d,e⟩:=uT I R (A:=X.A.in1) (by rw[n6];lia) l k hd r j;refine SeqAt.notIn_tupleAt g i (λw hw=>d w (by simpa using hw)) ⟨.bl _,H,I,rfl,?_⟩;rw[show a.toArray.any g=a.any g by simp,e];exact q
noncomputable def cB(b:Bool):D->D->Hm->jk
 |.str i,.str j,μ=>aX (.bl (if b then !(!(Zl j i 0 j.length 1).isEmpty)else !(Zl j i 0 j.length 1).isEmpty),μ)|x,.loc a,μ=>match μ[a]? with
  |some (.dT kvs)=>(dR x).map λk=>(.bl (if b then !(bV kvs k).isSome else(bV kvs k).isSome),μ)|some (.dF kvs)=>(dR x).map λk=>(.bl (if b then !(bV kvs k).isSome else(bV kvs k).isSome),μ)|_=>kP b x (.loc a) μ
 |x,y,μ=>kP b x y μ
noncomputable def zH:D->D->Hm->jk
 |.str i,.str j,μ=>aX (.bl (!(!(Zl j i 0 j.length 1).isEmpty)),μ)|_,_,_=>aY
theorem D8{K:Xy}:dC K zH (λx y H Q=>∃i j,x=.str i/\y=.str j/\Q (.bl (!(!(Zl j i 0 j.length 1).isEmpty))) H):=by
 intro g H m x y d e h l Q R b c a k;unfold zH at a;split at a
 ·cases a;cases b;cases c;exact⟨_,_,rfl,rfl,k g _ H .refl R (.bl _)⟩
 ·cases a
noncomputable def kQ(a:Bool):D->D->Hm->jk
 |x,.non,μ=>aX (.bl (match x with|.non=>!a|_=>a),μ)|_,_,_=>aY
theorem D9{K:Xy}:dC K (kQ b4) (λx y H Q=>y=.non/\Q (.bl (decide (x=.non))) H):=by
 intro g H j x y d e h i Q R b c a k;unfold kQ at a;split at a
 ·cases a;cases c;refine⟨rfl,?_⟩;cases b<;>exact k g _ H .refl R (.bl _)
 ·cases a
theorem Ea{K:Xy}:dC K (kQ b5) (λx y H Q=>y=.non/\Q (.bl (!decide (x=.non))) H):=by
 intro g H j x y d e h i Q R b c a k;unfold kQ at a;split at a
 ·cases a;cases c;refine⟨rfl,?_⟩;cases b<;>exact k g _ H .refl R (.bl _)
 ·cases a
theorem O4(c:QE X a ma)(d:QE X b mb):QE X (.Compare a [.Is] [b] pos) (aB (kQ b4) ma mb):=⟨fG Cw D9 c.h d.h (dP _)⟩
theorem O5(c:QE X a ma)(d:QE X b mb):QE X (.Compare a [.IsNot] [b] pos) (aB (kQ b5) ma mb):=⟨fG Cy Ea c.h d.h (dP _)⟩
theorem O6(c:QE X a ma)(d:QE X b mb):QT X (.Compare a [.Is] [b] pos) (aV (aB (kQ b4) ma mb)):=⟨fH Cw D9 c.h d.h (dP _)⟩
theorem O7(c:QE X a ma)(d:QE X b mb):QT X (.Compare a [.IsNot] [b] pos) (aV (aB (kQ b5) ma mb)):=⟨fH Cy Ea c.h d.h (dP _)⟩
end
section
variable{X:Cx}{e a b c o:Expr}{m m1 m2 ma mb mc mo:ME}{pos apos cpos:Zj}{mt mu:MT}{bY es:List Expr}{ms:MA}{n:Nat}
noncomputable def oE(d:Hm):D->Bool
 |.rol _=>b5|.loc a=>match d[a]? with|some (.lst _)=>b5|_=>b4
 |_=>b4
noncomputable def dQ(f:D->List D->Hm->jk)(mo:ME)(ms:MA):ME:=λd g=>(mo d g).bind λp=>match oE p.2 p.1 with
 |true=>(ms d p.2).bind λq=>f p.1 q.1 q.2|false=>aY
noncomputable def jI(K:Xy)(f:D->List D->Hm->jk)(r:V->gw->Hp->VK->Prop):Prop:=
 ∀i H g x k d h v j Q,Rp K i H g->IsD K i g.length H v x->IsDs K i g.length H j k->f x k g=aX (d,h)->KC K Q i g.length H d h->r v j H Q
theorem Eb{K:Xy}{π:Nat->Addr}{H:Hp}{d:Hm}{v:V}{x:D}(R:Rp K π H d)(h:IsD K π d.length H v x)(e:oE d x=b5):uB K "list" v H:=by
 cases h with
 |rol h t=>exact .inl ⟨rfl,_,h.sq⟩|@loc a l=>
  simp only[oE]at e;split at e
  ·rename_i k i;obtain⟨j,g,_⟩:=R.lst a k i;exact .inl ⟨rfl,j,.of g⟩
  ·cases e
 |_=>cases e
theorem O8{K:Xy}{f:D->List D->Hm->jk}{r:V->gw->Hp->VK->Prop}(G:jI K f r):∀σ H Q,tM K (dQ f mo ms) σ H Q->C1 K "list" r (tM K mo) (tMA K ms) σ H Q:=by
 rintro σ H Q ⟨O,y,N,d,j,R,E,g,k⟩;obtain⟨⟨x,h⟩,A,g⟩:=Xv.mp g;dsimp only at g;split at g
 ·rename_i I;obtain⟨⟨w,i⟩,B,g⟩:=Xv.mp g;refine⟨O,y,N,x,h,R,E,A,λl L T s q v=>⟨Eb q v I,l,y,h,w,i,q,E.mono s,B,λp M z u R2 J=>?_⟩⟩;exact G p z i x w d j L M Q R2 (v.mono u) J g (k.after (s.trans u))
 ·cases g
theorem O9{K:Xy}{f:D->List D->Hm->jk}{r:V->gw->Hp->VK->Prop}(w:jI K f r):∀σ H Q,tM K (dQ f mo aD) σ H Q->C0 K "list" r (tM K mo) σ H Q:=by
 rintro σ H Q ⟨G,I,A,d,i,R,E,g,k⟩;obtain⟨⟨x,h⟩,u,g⟩:=Xv.mp g;dsimp only at g;split at g
 ·rename_i y;obtain⟨⟨J,B⟩,v,g⟩:=Xv.mp g;cases v;refine⟨G,I,A,x,h,R,E,u,λj z q s l p=>⟨Eb l p y,?_⟩⟩;exact w j q h x [] d i z [] Q l p .nil g (k.after s)
 ·cases g
noncomputable def jY:Expr->Bool
 |.Call (.Name _ _) [] [] _=>b4|_=>b5
theorem lV{o:Expr}{i:Str}{env:a3h}{d:a8k Value}(h:jY o=b5):a0v o i env d=d:=by
 cases o with
 |Call f g j p=>
  cases f with
  |Name id q=>
   cases g with
   |nil=>
    cases j with
    |nil=>cases h|cons _ _=>rfl
   |cons _ _=>rfl
  |_=>rfl
 |_=>rfl
theorem Ec{e:Expr}{es:List Expr}{env:a3h}{cpos:Zj}(h:(e::es).all cY=b5)(i:(e::es).length<30) :
  ((a0l cpos (Yr (e::es) env)).all (λx=>!x.1)&&(a3v cpos (a1U [] env)).all (λx=>x.1.isSome)
   && decide ((e::es).length+([]:List a1a).length+(if([]:List a1a).isEmpty then 0 else 1)<30))=true:=by
 have d:(a0l cpos (Yr (e::es) env)).all (λx=>!x.1)=true:=by have:=oB (pos:=cpos) (env:=env) h;rw[List.all_eq_not_any_not];simpa using this
 rw[d];have g:(e::es).length+([]:List a1a).length+(if([]:List a1a).isEmpty then 0 else 1)<30:=by show(e::es).length+0+0<30;lia
 rw[decide_eq_true g];rfl
theorem Ed{f:D->List D->Hm->jk}{r:V->gw->Hp->VK->Prop}{name:Str}{id:String}(h:Slot "list" name id) (i:a6j (.builtin id)=pure (.type "method_descriptor")) (p:kK X id r)(k:jI X.K f r)
  (s:QE X o mo)(j:QA X (e::es) ms n)(u:jY o=b5)(l:(apos.endLine==cpos.line)=b5)(q:(e::es).length<30):QE X (.Call (.Attribute o name apos) (e::es) [] cpos) (dQ f mo ms):=by
 have g:=j.s;have d:=g;rw[YG,XG]at d;exact⟨c9 (LO a4y h i p s.h j.h (lV u) (Ec g q) l (f6 d.1) (oB d.2)) (O8 k)⟩
theorem Ee{f:D->List D->Hm->jk}{r:V->gw->Hp->VK->Prop}{name:Str}{id:String}(d:Slot "list" name id) (g:a6j (.builtin id)=pure (.type "method_descriptor")) (j:kK X id r)(h:jI X.K f r)
  (k:QE X o mo)(l:jY o=b5)(i:(apos.endLine==cpos.line)=b5):QE X (.Call (.Attribute o name apos) [] [] cpos) (dQ f mo aD):=
 ⟨c9 (LN a4y d g j k.h (lV l) i) (O9 h)⟩
noncomputable def eU:D->List D->Hm->jk
 |.loc a,[y],μ=>(pL μ a y).map λd=>(.non,d)|_,_,_=>aY
noncomputable def oF:D->List D->Hm->jk
 |.loc a,[.loc b],μ=>match μ[a]?,μ[b]? with
  |some (.lst xs),aX (.lst ys)=>if xs.length+ys.length<=XQ then aX (.non,μ.set a (.lst (xs++ys)))else aY|_,_=>aY
 |_,_,_=>aY
noncomputable def pQ:D->List D->Hm->jk
 |.loc a,[],μ=>match μ[a]? with
  |some (.lst xs)=>(xs[xs.length-1]?).map λy=>(y,μ.set a (.lst xs.dropLast))|_=>aY
 |_,_,_=>aY
noncomputable def pR:D->List D->Hm->jk
 |.loc a,[],μ=>match μ[a]? with
  |some (.lst xs)=>aX (.non,μ.set a (.lst xs.reverse))|_=>aY
 |_,_,_=>aY
theorem Ef{K:Xy}{π:Nat->Addr}{n:Nat}{H:Hp}{vs:gw}{ds:List D}(h:IsDs K π n H vs ds):IsDs K π n H vs.reverse ds.reverse:=by
 induction ds generalizing vs with
 |nil=>cases h;exact .nil|cons d ds g=>
  cases h with
  |cons h t=>rw[a0L,a0L];exact(g t).append (.cons h .nil)
theorem Pa{K:Xy}{π:Nat->Addr}{n:Nat}{H:Hp}{vs:gw}{ds:List D}(h:IsDs K π n H vs ds):IsDs K π n H vs.dropLast ds.dropLast:=by rw[a5x,a5x,h.length];exact h.take _
theorem Pb{K:Xy}:jI K eU C2:=by
 intro I H M x L d E v J Q R A i h k;unfold eU at h;split at h
 ·rename_i a y;obtain⟨G,g,h⟩:=XA.mp h;cases h;unfold pL at g;split at g
  ·rename_i r q;split at g
   ·rename_i w;cases g;obtain⟨j,l,p⟩:=R.lst a r q;cases A;cases i with
    |cons B z=>cases z;obtain⟨u,s⟩:=R.put (a:=a) (c:=.lst (r++[y])) (o:=.lst (j++[_])) (Xz.mp q).1 l (.inl ⟨j,rfl⟩) (p.append (.cons B .nil));exact⟨_,j,_,rfl,rfl,l,by rw[p.length];exact w,k I _ _ u s .non⟩
   ·cases g
  ·cases g
 ·cases h
theorem Pc{K:Xy}:jI K oF C4:=by
 intro L H O x N d J v M Q R G h g k;unfold oF at g;split at g
 ·rename_i a b;split at g
  ·rename_i u s q B;split at g
   ·rename_i A;cases g;obtain⟨i,j,l⟩:=R.lst a u q;obtain⟨r,z,p⟩:=R.lst b s B;cases G;cases h with
    |cons I E=>cases E;cases I;obtain⟨y,w⟩:=R.put (a:=a) (c:=.lst (u++s)) (o:=.lst (i++r)) (Xz.mp q).1 j (.inl ⟨i,rfl⟩) (l.append p);exact⟨_,_,i,r,rfl,rfl,j,z,by rw[l.length,p.length];exact A,k L _ _ y w .non⟩
   ·cases g
  ·cases g
 ·cases g
theorem Pd{K:Xy}:jI K pR C6:=by
 intro y H B x A d w v z Q R u h g k;unfold pR at g;split at g
 ·rename_i a;split at g
  ·rename_i p l;cases g;obtain⟨i,j,s⟩:=R.lst a p l;cases u;cases h;obtain⟨r,q⟩:=R.put (a:=a) (c:=.lst p.reverse) (o:=.lst i.reverse) (Xz.mp l).1 j (.inl ⟨i,rfl⟩) (Ef s);exact⟨_,i,rfl,rfl,j,k y _ _ r q .non⟩
  ·cases g
 ·cases g
theorem Pe{K:Xy}:jI K pQ C5:=by
 intro G H L x J d E v I Q R B i g k;unfold pQ at g;split at g
 ·rename_i a;split at g
  ·rename_i r q;obtain⟨y,u,g⟩:=XA.mp g;cases g;obtain⟨j,p,h⟩:=R.lst a r q;cases B;cases i;obtain⟨w,z,A⟩:=h.get u;obtain⟨l,s⟩:=R.put (a:=a) (c:=.lst r.dropLast) (o:=.lst j.dropLast) (Xz.mp q).1 p (.inl ⟨j,rfl⟩) (Pa h);refine⟨_,j,w,rfl,rfl,p,by rw[h.length];exact z,k G w _ l s (A.mono l)⟩
  ·cases g
 ·cases g
noncomputable def pS(d:Hm):D->Option Bool
 |.non=>aX b4|.bl b=>aX b|.int i=>aX (i != 0)|.str z=>if z.length<=XQ then aX ((z.length:Int) != 0)else aY|.tup xs=>aX (!xs.isEmpty)|.rol xs=>aX (!xs.isEmpty)|.loc a=>match d[a]? with|some (.lst xs)=>aX (!xs.isEmpty)|some (.dK kvs)=>aX (!kvs.isEmpty)|_=>aY
 |.ty _=>aY
theorem uV{g i:Type}{xs:List g}{d:List i}(h:xs.length=d.length):xs.isEmpty=d.isEmpty:=by cases xs<;>cases d<;>first|rfl|cases h
theorem Pf{K:Xy}{π:Nat->Addr}{H:Hp}{p:Hm}{v:V}{x:D}{b:Bool}(R:Rp K π H p)(h:IsD K π p.length H v x)(e:pS p x=aX b):xV K v H b:=by
 cases h with
 |non=>cases e;rfl|bl c=>cases e;rfl|int i=>cases e;rfl|str z=>
  simp only[pS]at e;split at e
  ·rename_i q;cases e;exact⟨q,rfl⟩
  ·cases e
 |tup h t=>cases e;exact .inr (.inl ⟨_,h,by rw[uV t.length]⟩)|rol h t=>cases e;exact .inl ⟨_,h.sq,by rw[uV t.length]⟩|@loc a s=>
  simp only[pS]at e;split at e
  ·rename_i r j;cases e;obtain⟨l,d,g⟩:=R.lst a r j;exact .inl ⟨l,.of d,by rw[uV g.length]⟩
  ·rename_i k j;cases e;obtain⟨l,d,g,_⟩:=R.dK a k j;refine .inr (.inr ⟨l,d,?_⟩);have:=congrArg YF g;rw[Xx,Xx]at this;rw[uV this]
  ·cases e
 |ty n=>cases e
noncomputable def fI(m:ME):MT:=λg d=>(m g d).bind λp=>(pS p.2 p.1).map λb=>(b,p.2)
theorem Pg(h:QE X e m)(r:zA e=b5):QT X e (fI m):=⟨uG (K3 h.h (Ov r)) (by
 rintro G H Q ⟨y,z,u,b,v,R,E,d,k⟩;obtain⟨⟨x,w⟩,p,d⟩:=Xv.mp d;obtain⟨A,q,d⟩:=XA.mp d;cases d;exact⟨y,z,u,x,_,R,E,p,λg B j l i s=>⟨_,Pf i s q,k g j l i⟩⟩)⟩
theorem Ph{k:Nat}{f:Addr}{j:a0h}{ps:List Str}{l:MF}{x:Str}{p:Zj}(F:FnOk X.prog X.w X.K X.mg X.base gN k f j ps (jQ X.K 0 l))(v:Room k X.A)(g:X.mg x=aX (.ref f))
  (u:ZM X.K (.ref f)=b5)(r:Binds X.K j ps [])(s:Gl X x)(h:(x==("__debug__":Str))=b4):QE X (.Call (.Name x p) [] [] pos) (aH l aD):=
 ⟨c9 (Ld F v s g u r .nil (E:=E0) Dd h) (by
  rintro G H Q ⟨z,B,w,d,i,R,E,g,k⟩;obtain⟨⟨A,y⟩,q,g⟩:=Xv.mp g;cases q;exact⟨rfl,z,[],w,d,i,R,.nil,g,k⟩)⟩
noncomputable def oG(c:MT)(b:MS):Nat->MS
 |0,_,_=>aY|n+1,ρ,μ=>(c ρ μ).bind λp=>match p.1 with
  |false=>aX (.nx,ρ,p.2)|true=>(b ρ p.2).bind λq=>match q.1 with
   |.nx=>oG c b n q.2.1 q.2.2|.ct=>oG c b n q.2.1 q.2.2|.bk=>aX (.nx,q.2.1,q.2.2)|.rt d=>aX (.rt d,q.2.1,q.2.2)
noncomputable def pT(n:Nat)(c:MT)(b:MS):MS:=oG c b n
theorem Pj{body:List Stmt}{mb:MS}(n:Nat)(hc:QT X c mt)(hb:QB X body mb)(hp:a4L (Yg X.prog X.w) X.A X.env X.xe):QS X (.While c body [] pos) (pT n mt mb):=⟨iI (Kv hp hc.h hb.h) (by
 rintro E σ H ⟨Y,ρ,U,Q,B,z,R,EN,hm,k⟩;have q:∀{h:Nat->Addr}{n2:Nat}{H2:Hp}(e:Ext Y U.length H h n2 H2),nZ X.K E h n2 H2 Q B z:=λ{h n2 H2} e=>by
  cases Q with
  |nx=>exact λi s y j x J=>k i s y (e.trans j) x J|bk=>exact λi s y j x J=>k i s y (e.trans j) x J|ct=>exact λi s y j x J=>k i s y (e.trans j) x J|rt d=>exact KC.after k e
 refine⟨λm v w=>∃h l r,Ext Y U.length H h l.length w/\Rp X.K h w l/\En X.K h l.length w v r/\oG mt mb m r l=aX (Q,B,z),⟨n,Y,U,ρ,.refl,R,EN,hm⟩,?_⟩;rintro m σ1 H1 ⟨h,l,r,M,R2,Z,h2⟩;cases m with
 |zero=>cases h2|succ m=>
  obtain⟨⟨b,O⟩,h3,h4⟩:=Xv.mp h2;refine⟨h,r,l,b,O,R2,Z,h3,λi y j x=>?_⟩;cases b with
  |false=>refine mU ?_;cases h4;exact q M i σ1 y j x (Z.mono j)|true=>
   refine mV ?_;obtain⟨⟨f4,G,A⟩,h5,T⟩:=Xv.mp h4;refine⟨λv w=>∃g u p,Ext Y U.length H g p.length w/\Rp X.K g w p/\En X.K g p.length w v u/\oG mt mb m u p=aX (Q,B,z),
    λv w ⟨g,u,p,a1,a2,a3,a4⟩=>⟨m,ZK _,g,p,u,a1,a2,a3,a4⟩,i,r,O,f4,G,A,x,Z.mono j,h5,?_⟩
   cases f4 with
   |nx=>exact λg I H5 N L K=>⟨g,G,A,(M.trans j).trans N,L,K,T⟩|ct=>exact λg I H5 N L K=>⟨g,G,A,(M.trans j).trans N,L,K,T⟩|bk=>cases T;exact λg I H5 N L K=>q (M.trans j) g I H5 N L K|rt d'=>
    cases T;exact q (M.trans j))⟩
theorem Pk:QS X (.Return aY pos) (bC (mC .non)):=⟨iI Kk (by
 rintro E r H ⟨h,q,p,l,i,g,R,j,d,k⟩;cases d;exact k h .non H .refl R .non)⟩
end
section
variable{X:Cx}
end
open PyProof.Rows (IntsAre)
open PySem.W (KasT kas_asc kas_desc kas_tail3 kas_descPart kas_count kas_place kas_bin kas_sort kas_rev kas_ask)
noncomputable def rX{b:Type}(ans:Nat->Nat->Bool):KasT b->b
 |.ret a=>a|.ask i j k=>rX ans (k (ans i j))
noncomputable def InR{c:Type}(n:Nat)(R:c->Prop):KasT c->Prop
 |.ret a=>R a|.ask i j k=>i<n/\j<n/\∀b,InR n R (k b)
theorem InR.bind{c g:Type}{n:Nat}{R:c->Prop}{d:g->Prop}{f:c->KasT g}(e:∀a,R a->InR n d (f a)):∀{t:KasT c},InR n R t->InR n d (t.bind f)
 |.ret a,q=>e a q|.ask i j k,q=>⟨q.1,q.2.1,λb=>InR.bind e (q.2.2 b)⟩
theorem Eg{c:Type}{n:Nat}{R:c->Prop}{ans:Nat->Nat->Bool}{b:Nat->Nat->(Bool->XD->Prop)->XD->Prop}{s:XD}(hc:∀i j (C:Bool->XD->Prop),i<n->j<n->C (ans i j) s->b i j C s){Q:c->XD->Prop} :
  ∀{t:KasT c},InR n R t->Q (rX ans t) s->t.kasWp b Q s
 |.ret a,_,q=>q|.ask i j k,h,q=>hc i j _ h.1 h.2.1 (Eg hc (h.2.2 _) q)
theorem Eh{b:Type}{n:Nat}{R:b->Prop}{ans:Nat->Nat->Bool}:∀{t:KasT b},InR n R t->R (rX ans t)
 |.ret a,q=>q|.ask i j k,h=>Eh (t:=k (ans i j)) (h.2.2 _)
section
variable{n:Nat}
noncomputable def IxOk(n:Nat)(p:Array Nat):Prop:=p.Perm (YN n).toArray
theorem IxOk.lt{p:Array Nat}(h:IxOk n p)(b:0<n)(i:Nat):p.getD i 0<n:=by
 by_cases hi:i<p.size
 ·have e:p.getD i 0=p[i]:=by simp[a2a,hi]
  rw[e];have c:p[i]∈p:=Array.getElem_mem hi;have a:p[i]∈(YN n).toArray:=h.mem_iff.mp c;simpa using a
 ·have e:p.getD i 0=0:=by simp[a2a,hi]
  rw[e];exact b
theorem IxOk.rev{p:Array Nat}(h:IxOk n p)(i j:Nat):IxOk n (a4k p i j):=(a8o _ _ _ _).trans h
theorem IxOk.bub{p:Array Nat}(h:IxOk n p)(i j:Nat):IxOk n (a8v p i j):=(a8u _ _ _).trans h
theorem zI{p:Array Nat}(h:IxOk n p)(a:0<n):∀(f m:Nat),InR n (λ_=>True) (kas_asc p f m)
 |0,m=>trivial
 |f+1,m=>⟨h.lt a _,h.lt a _,λb=>by
   cases b with
   |true=>exact trivial
   |false=>exact zI h a f (m+1)⟩
theorem uW(a:0<n):∀(f:Nat)(p:Array Nat)(m q:Nat),IxOk n p->InR n (λr=>IxOk n r.1) (a8P f p m q)
 |0,p,m,q,h=>h
 |f+1,p,m,q,h=>⟨h.lt a _,h.lt a _,λb=>by
   cases b with
   |true=>
    show InR n _ (if q>0 then a8P f (a4k p (m-(q+1)) m) (m+1) 0 else a8P f p (m+1) 0);split
    ·exact uW a f _ _ _ (h.rev _ _)
    ·exact uW a f _ _ _ h
   |false=>
    refine⟨h.lt a _,h.lt a _,λd=>?_⟩;cases d with
    |true=>exact h
    |false=>exact uW a f _ _ _ h⟩
theorem Ei(c:0<n){p:Array Nat}(h:IxOk n p)(a r:Nat):InR n (λr=>IxOk n r.2) (a5X a r p):=
 by
 have b:IxOk n (a4k p 0 a):=h.rev 0 a;unfold a5X;refine InR.bind (R:=λ_=>True) (λm _=>?_) (zI b c _ _);exact b
theorem Ej(b:0<n){p:Array Nat}(h:IxOk n p)(a r:Nat):InR n (λr=>IxOk n r.2) (a6n a r p):=
 InR.bind (λq c=>by
  show InR n _ (if q.2.2>0 then a5X q.2.1 r (a4k q.1 (q.2.1-(q.2.2+1)) q.2.1)else a5X q.2.1 r q.1);split
  ·exact Ei b (c.rev _ _) _ _
  ·exact Ei b c _ _) (uW b _ _ _ _ h)
theorem Pl(a:0<n){p:Array Nat}(h:IxOk n p)(r:Nat):InR n (λr=>IxOk n r.2) (kas_count r p):=
 InR.bind (λm _=>by
  show InR n _ (if(m==r)=b5 then a5J (m,p)else if m>1 then KasT.ask (p.getD 0 0) (p.getD (m-1) 0) (λc=>if c=b5 then a5J (m,p)else a6n m r (a4k p 0 m))else a6n m r p);split
  ·exact h
  ·split
   ·refine⟨h.lt a _,h.lt a _,λb=>?_⟩;cases b with
    |true=>exact h|false=>exact Ej a (h.rev _ _) _ _
   ·exact Ej a h _ _) (zI h a _ _)
theorem zJ{p:Array Nat}(h:IxOk n p)(a:0<n)(k:Nat):∀(f l r:Nat),InR n (λ_=>True) (a7W p k f l r)
 |0,l,r=>trivial|f+1,l,r=>by
  show InR n _ (if l >= r then a5J l else KasT.ask (p.getD k 0) (p.getD ((l+r)/2) 0) λc=>if c=b5 then a7W p k f l ((l+r)/2)else a7W p k f ((l+r)/2+1) r);split
  ·exact trivial
  ·refine⟨h.lt a _,h.lt a _,λb=>?_⟩;cases b with
   |true=>exact zJ h a k f _ _|false=>exact zJ h a k f _ _
theorem Ek(a:0<n):∀(f:Nat)(p:Array Nat)(k:Nat),IxOk n p->InR n (IxOk n) (kas_bin f p k)
 |0,p,k,h=>h|f+1,p,k,h=>InR.bind (λl _=>Ek a f _ _ (h.bub _ _)) (zJ h a k _ _ _)
theorem Em(a:0<n):InR n (IxOk n) (a8O n):=
 InR.bind (λr b=>by
  show InR n _ (if r.1<n then kas_bin (n-max r.1 1) r.2 (max r.1 1)else a5J r.2);split
  ·exact Ek a _ _ _ b
  ·exact b) (Pl a (Array.Perm.refl _) n)
end
noncomputable def dJ(lt:Nat->Nat->Bool)(n:Nat):List Nat:=(rX lt (a8O n)).toList
theorem zK(lt:Nat->Nat->Bool){n:Nat}(a:0<n):(dJ lt n).Perm (YN n):=by have h:IxOk n (rX lt (a8O n)):=Eh (Em a);have:=Array.perm_iff_toList_perm.mp h;simpa[dJ]using this
section
variable{X:Cx}{a8T:jw}{σ:St}{H:Hp}{s:XD}
end
theorem Eo{prog:Yk}{w:Yz}{A:Yt}{s:XD}{Q:Bool->XD->Prop}:∀{us vs:gq}{ns b:List Int}(i:Nat),a0M us ns->a0M vs b->Q (HT.lexLt ns b) s->
  PySem.W.KatLex prog w A b5 (decide (us.length<vs.length)) Q (us.zip vs) i s
 |_,_,_,_,i,.nil,.nil,h=>by exact h
 |_,_,_,_,i,.nil,.cons c u hv,h=>by show Q (decide (0<_+1)) s;rw[decide_eq_true (a3I _)];exact h
 |_,_,_,_,i,.cons a t hu,.nil,h=>by show Q (decide (_+1<0)) s;rw[decide_eq_false (a1P _)];exact h
 |_,_,_,_,i,.cons (vs:=us) (ns:=ns) a t hu,.cons (vs:=vs) (ns:=b) c u hv,h=>by
  rw[HT.lexLt_cons]at h;refine PySem.W.kat_cons (a4S a t c u prog w _ _ ?_);by_cases e:a=c
  ·subst e;rw[if_pos rfl]at h;rw[beq_self_eq_true];refine PySem.W.kat_yes ?_;have:=Eo (prog:=prog) (w:=w) (A:=A) (s:=s) (Q:=Q) (i+1) hu hv h;have g:decide ((a0o a t::us).length<(a0o a u::vs).length)=decide (us.length<vs.length):=by simp
   rw[g];exact this
  ·rw[if_neg e]at h;have d:(a==c)=false:=by simpa using e
   rw[d];refine PySem.W.kat_no ?_;cases hi:(b5&&i==0)with
   |true=>exact a8m h|false=>exact PySem.W.kat_one _ _ (a4s h)
noncomputable abbrev TupsV(K:Xy)(H:Hp):gw->List (List Int)->Prop:=a2w λv t=>∃a,v=V.ref a/\SqT K H a (t.map V.int)
theorem TupsV.get{K:Xy}{H:Hp}:∀{vs:gw}{b:List (List Int)}{i:Nat},TupsV K H vs b->i<vs.length->∃a,vs[i]?=aX (V.ref a)/\SqT K H a ((b.getD i []).map V.int)
 |_,_,_,.nil,h=>by simp at h
 |_,_,0,.cons ⟨a,e,q⟩ _,_=>⟨a,by rw[e];rfl,q⟩|_,_,i+1,.cons _ t,h=>by obtain⟨a,e,q⟩:=TupsV.get (i:=i) t (by simpa using h);exact⟨a,by simpa using e,q⟩
section
open PyProof.Rows
variable{prog:Yk}{w:Yz}{A:Yt}{E:Value->XD->Prop}{s:XD}
theorem Ep{c:Addr}{us:gq}{z:Nat}{R:Fin->XD->Prop}(h:us.length<2)(g:s.heap.get? c=aX (Zv "list" us.toArray z)) (q:R (.done (.ret .none)) {s with heap:=a3X s.heap c us us.toArray}) :
  X5 (Yg prog w) A (Builtin.«list.sort» ⟨[.ref c],[]⟩) R E s:=by
 rw[a8h];have lt:c<s.heap.objs.size:=XN g;refine Xw (listItems_at g rfl (Xw (a3P g rfl ?_)));obtain⟨y,d⟩:∃y,(s.heap.update c (Zh λ_=>#[])).get? c=aX (Zv "list" #[] y):=⟨_,a8j g _⟩;refine Xw (a4Q d rfl (Xw (a5l (Xw (a1S (YI ?_))))));have e:(((s.heap.update c (Zh λ_=>#[])).push (Zv "tuple" us.toArray 0)).push (Zv "list" #[] 0)).get? c=aX (Zv "list" #[] y):=
  XE _ (XE _ d)
 show X5 (Yg prog w) A _ R E ⟨((s.heap.update c (Zh λ_=>#[])).push (Zv "tuple" us.toArray 0)).push (Zv "list" #[] 0),s.gens,s.drawn,s.toks,s.os⟩;dsimp only;have a:us.toArray.size<2:=by simpa using h
 rw[if_pos a,if_pos a];refine Xw (XC ?_);rw[StateT.run_pure];refine Xw (XC ?_);dsimp only;have b:a8H (λx=>x.2) (arrOf (SortSt.mk' general' (us.toArray.zip us.toArray) #[] 7 aY))=us.toArray:=by show a8H (λx=>x.2) (us.toArray.zip us.toArray)=us.toArray;exact Array.ext (by simp) (λi j k=>by simp)
 refine Xw (a4Q e rfl (Xw (a3P e rfl ?_ (hsz2:=by rw[b,X2];lia))));rw[b];simp only[bne_self_eq_false,Yb,if_false];exact XC q
end
theorem Er(lt:Nat->Nat->Bool):dJ lt 1=[0]:=rfl
theorem zL(lt:Nat->Nat->Bool):dJ lt 0=[]:=rfl
theorem lW(lt:Nat->Nat->Bool)(n:Nat):(dJ lt n).Perm (YN n):=by
 cases n with
 |zero=>rw[zL];exact .nil|succ n=>exact zK lt (a3I n)
section
variable{X:Cx}
end
theorem Pm{ns:List Int}{us:gq}(h:Vals (ns.map V.int) us):a0M us ns:=xZ h
section
variable{X:Cx}
end
end L3
namespace L3
open PySem PySem.Spec
namespace Tb
section
variable{prog:Yk}{w:Yz}{A:Yt}{E:Value->XD->Prop}{s:XD}
noncomputable abbrev IsT(prog:Yk)(w:Yz)(h:YZ)(k:List Int)(b:Addr):Prop:=IsTupleKey (ZZ prog w) h k b
end
section
variable{prog:Yk}{w:Yz}{A:Yt}{R:a4H->XD->Prop}{I:Addr}{fp wr:List Addr}{G:Array a7j->Array a7j->Prop}{n:Nat}{P:Nat->Value->Prop}{St:Nat->XD->Prop}
end
section
variable{prog:Yk}{w:Yz}{A:Yt}{E:Value->XD->Prop}{s:XD}
noncomputable abbrev gO(a:Bool):Obj:={cls:=.type "set",dict:=aY,data:=.set #[] 0 (.fresh 0 0 a)}
end
end Tb
end L3
namespace L3
open PySem L2
open PyProof.Rows (IntsAre)
theorem Es:∀{ds:List D}{k:List Int},zE ds=aX k->ds=k.map D.int
 |[],k,h=>by cases h;rfl
 |d::ds,k,h=>by
  cases d with
  |int i=>obtain⟨c,a,b⟩:=XA.mp h;subst b;rw[Es a];rfl|_=>cases h
theorem Pn{x:D}{k:List Int}(h:dR x=aX k):x=.tup (k.map D.int):=by
 cases x with
 |tup ds=>rw[Es h]|_=>cases h
noncomputable def fS(b:Hm):D->Option (List D)
 |.rol xs=>aX xs|.loc a=>match b[a]? with
  |some (.lst xs)=>aX xs|_=>aY
 |_=>aY
section
variable{K:Xy}{π:Nat->Addr}{n:Nat}{H:Hp}{μ:Hm}
theorem oH{v:V}{x:D}{xs:List D}(R:Rp K π H μ)(h:IsD K π μ.length H v x)(e:fS μ x=aX xs):∃p vs,v=.ref p/\SqL K H p vs/\IsDs K π μ.length H vs xs:=by
 cases h with
 |rol q t=>cases e;exact⟨_,_,rfl,q.sq,t⟩|@loc a g=>
  simp only[fS]at e;split at e
  ·rename_i i d;cases e;obtain⟨vs,b,c⟩:=R.lst a xs d;exact⟨_,vs,rfl,.of b,c⟩
  ·cases e
 |_=>cases e
theorem ints_of':∀{vs:gw}{k:List Int},IsDs K π n H vs (k.map D.int)->vs=k.map V.int
 |_,[],h=>by cases h;rfl
 |_,i::k,h=>by
  cases h with
  |cons h t=>cases h;rw[ints_of' t];rfl
theorem zM:∀(k:List Int),IsDs K π n H (k.map V.int) (k.map D.int)
 |[]=>.nil|i::k=>.cons (.int i) (zM k)
end
theorem Et{X:Cx}:∀{k:List Int}{xs:gq},Vals (k.map V.int) xs->ItemsAre (ZZ X.prog X.w) k xs
 |[],_,h=>by cases h;exact .nil
 |i::k,_,h=>by
  cases h with
  |cons h t=>obtain⟨a,rfl⟩:=h;exact .cons (intKind_is _ _ _ _) (Et t)
section
variable{X:Cx}{a8T:jw}{σ:St}{H:Hp}{s:XD}
theorem kR(I:Inv X a8T σ H s){b:Addr}{k:List Int}(h:SqT X.K H b (k.map V.int)):Tb.IsT X.prog X.w s.heap k b:=by obtain⟨i,g,⟨a,e,c,n,d⟩,_⟩:=I.tuple h;exact⟨a,i.toArray,n,e,c,d,by simpa using Et g⟩
theorem call_lenT:CallR X (.builtin "len") (λxs H Q=>∃a L,xs=[V.ref a]/\H a=aX (uE a L)/\Q (.int L.length) H):=by
 intro a8T s σ H xs z Q I r h;obtain⟨a,L,rfl,e,q⟩:=h;obtain⟨u,rfl,x⟩:=fY r;cases x;obtain⟨⟨o,n,w,d,y,t,R,c,hd,g,ok,p,m,k,i,v,j⟩,_,_⟩:=I.hok a _ e;have b:d.size=L.length:=by have:=p.length_eq;simpa using this
 have l:t.mask<=511:=by rcases k with h|h|h|h<;>lia
 refine call_len_set n c hd (Tb.fits_of ok g) (by rw[b];lia) ?_;rw[b];exact⟨.int L.length,H,I.tok _,⟨_,rfl⟩,q⟩
end
end L3
namespace L3
open PySem L2
open PyProof.Rows (IntsAre Fr News seqObj)
section
variable{prog:Yk}{w:Yz}{A:Yt}{E:Value->XD->Prop}{s:XD}{h₀:YZ}{L:Addr}{m:Str->Option Value}{news:jw}
end
theorem rY:∀a:List Int,HT.lexLt a a=b4
 |[]=>rfl|x::a=>by rw[HT.lexLt_cons,if_pos rfl];exact rY a
theorem rZ:∀{a b c:List Int},HT.lexLt a b=b5->HT.lexLt b c=b5->HT.lexLt a c=b5
 |_,[],[],_,h=>absurd h (by intro z;cases z)|_,_::_,[],_,h=>absurd h (by intro z;cases z)|[],_,_::_,_,_=>rfl|_::_,[],_::_,h,_=>absurd h (by intro z;cases z)|x::a,y::b,z::c,h1,h2=>by
  rw[HT.lexLt_cons]at h1 h2 ⊢;by_cases e:x=y
  ·subst e;rw[if_pos rfl]at h1;by_cases d:x=z
   ·subst d;rw[if_pos rfl]at h2 ⊢;exact rZ h1 h2
   ·rw[if_neg d]at h2 ⊢;exact h2
  ·rw[if_neg e]at h1;by_cases d:y=z
   ·subst d;rw[if_neg e];exact h1
   ·rw[if_neg d]at h2;rw[decide_eq_true_eq]at h1 h2;rw[if_neg (by lia),decide_eq_true_eq];lia
section
variable{X:Cx}{a8T:jw}{σ:St}{H:Hp}{s:XD}
end
end L3
namespace L3
open PySem
open PySem.W (KasT kas_asc kas_desc kas_tail3 kas_descPart kas_count kas_place kas_bin kas_sort kas_rev)
open PyProof.Rows (mirror bubble getElem?_bubble getElem?_mirror_all mirror_size bubble_size)
section
variable{ans:Nat->Nat->Bool}{κ:Nat->Nat}(hk:∀i j,ans i j=decide (κ i<κ j))
noncomputable def gK(κ:Nat->Nat)(p:Array Nat)(k:Nat):Nat:=κ (p.getD k 0)
theorem Eu{p q:Array Nat}{k m:Nat}(h:p[k]?=q[m]?):p.getD k 0=q.getD m 0:=by
 have e:∀(a:Array Nat)(i:Nat),a.getD i 0=(a[i]?).getD 0:=λa i=>by
  by_cases hi:i<a.size
  ·simp[a2a,hi]
  ·simp[a2a,hi]
 rw[e,e,h]
theorem Po{p:Array Nat}{i j:Nat}(a:j<=p.size)(k:Nat):gK κ (a4k p i j) k=if i<=k/\k<j then gK κ p (i+j-1-k)else gK κ p k:=by
 have h:=getElem?_mirror_all (i:=i) a k;by_cases c:i<=k/\k<j
 ·rw[if_pos c]at h ⊢;exact congrArg κ (Eu h)
 ·rw[if_neg c]at h ⊢;exact congrArg κ (Eu h)
structure Falls(κ:Nat->Nat)(p:Array Nat)(n q:Nat):Prop where
 fall:∀i j,i<=j->j<n->gK κ p j<=gK κ p i
 alike:∀k,n-1-q<=k->k<n->gK κ p k=gK κ p (n-1)
 qn:q<n
theorem Falls.rev{p:Array Nat}{n q:Nat}(F:Falls κ p n q)(a:n<=p.size):∀k,gK κ (a4k p (n-(q+1)) n) k=gK κ p k:=λk=>by
 rw[Po a];split
 ·rename_i c;have:=F.qn;rw[F.alike (n-(q+1)+n-1-k) (by lia) (by lia),F.alike k (by lia) c.2]
 ·rfl
theorem Falls.same{p c:Array Nat}{n q:Nat}(F:Falls κ p n q)(h:∀k,gK κ c k=gK κ p k):Falls κ c n q:=
 ⟨λi j a b=>by rw[h,h];exact F.fall i j a b,λk a b=>by rw[h,h];exact F.alike k a b,F.qn⟩
end
section
variable{α:Type}{lt:α->α->Bool}(irr:∀a,lt a a=b4)(tr:∀a b c,lt a b=b5->lt b c=b5->lt a c=b5)(nt:∀a b c,lt a b=b5->lt a c=b5\/lt c b=b5)
end
end L3
namespace L3
open PySem L2
section
variable{X:Cx}{a b c:Expr}{ma mb mc:ME}{pos:Zj}
noncomputable def jZ(f g:D->D->Hm->jk)(a b c:ME):ME:=λd e=>(a d e).bind λp=>(b d p.2).bind λq=>(f p.1 q.1 q.2).bind λr=>match r.1 with
 |.bl b5=>(c d r.2).bind λt=>g q.1 t.1 t.2|.bl b4=>aX (.bl b4,r.2)|_=>aY
theorem Ew{f g:D->D->Hm->jk}{r J:R2}{K:Xy}(hf:dC K f r)(hg:dC K g J):∀σ H Q,tM K (jZ f g ma mb mc) σ H Q->xU r J (tM K ma) (tM K mb) (tM K mc) σ H Q:=by
 rintro σ H Q ⟨π,w,μ,d,q,R,E,e,k⟩;obtain⟨⟨x,h⟩,Y,e⟩:=Xv.mp e;obtain⟨⟨y,i⟩,Z,e⟩:=Xv.mp e;obtain⟨⟨z,j⟩,h3,e⟩:=Xv.mp e;refine⟨π,w,μ,x,h,R,E,Y,λs v1 H1 n T i1=>⟨s,w,h,y,i,T,E.mono n,Z,λu L M o R2 I=>?_⟩⟩;refine hf u M i x y z j v1 L _ R2 (i1.mono o) I h3 λm v3 N p A i3=>?_;cases z with
 |bl B=>
  cases i3;refine⟨B,rfl,?_⟩;cases B with
  |true=>refine mV ?_;obtain⟨⟨t,l⟩,h4,e⟩:=Xv.mp e;exact⟨m,w,j,t,l,A,((E.mono n).mono o).mono p,h4,λv v4 O G U i4=>hg v O l y t d q L v4 Q U ((I.mono p).mono G) i4 e (k.after (((n.trans o).trans p).trans G))⟩|false=>refine mU ?_;cases e;exact k m _ N ((n.trans o).trans p) A (.bl b4)
 |_=>cases e
noncomputable def l6:a1n->Option (Int->Int->Bool)
 |.Lt=>aX λi j=>decide (i<j)|.LtE=>aX λi j=>decide (i<=j)|.Gt=>aX λi j=>decide (j<i)|.GtE=>aX λi j=>decide (j<=i)|_=>aY
theorem pU{op:a1n}{p:Int->Int->Bool}(h:l6 op=aX p):OpR X (YU op) (iG λi j=>.bl (p i j))/\(op=.Lt\/op=.LtE\/op=.Gt\/op=.GtE):=by cases op<;>first|(cases h;first|exact⟨xQ,by simp⟩|exact⟨xR,by simp⟩|exact⟨xS,by simp⟩|exact⟨xT,by simp⟩)|cases h
theorem Ex{op d:a1n}(h':d=.Lt\/d=.LtE\/d=.Gt\/d=.GtE):a7V [op,d] [b,c]=false:=by show a0T d c=b4;rcases h' with rfl|rfl|rfl|rfl<;>exact dP _
theorem Pp{op d:a1n}{p q:Int->Int->Bool}(h:l6 op=aX p)(h':l6 d=aX q)(e:QE X a ma)(g:QE X b mb)(hc:QE X c mc):QE X (.Compare a [op,d] [b,c] pos) (jZ (hW p) (hW q) ma mb mc):=
 ⟨c9 (KZ (pU h).1 (pU h').1 e.h g.h hc.h (Ex (pU (X:=X) h').2)) (Ew jC jC)⟩
theorem Pq{op d:a1n}{p q:Int->Int->Bool}(h:l6 op=aX p)(h':l6 d=aX q)(g:QE X a ma)(i:QE X b mb)(hc:QE X c mc):QT X (.Compare a [op,d] [b,c] pos) (aV (jZ (hW p) (hW q) ma mb mc)):=
 ⟨uG (K0 (pU h).1 (pU h').1 g.h i.h hc.h (Ex (pU (X:=X) h').2)) λe H Q h=>Ew jC jC e H _ (Dq e H Q h)⟩
noncomputable def uX(d:Bool):D->D->Hm->jk
 |.bl b,.bl c,μ=>aX (.bl (if d then !(b==c)else b==c),μ)|.int _,.bl _,μ=>aX (.bl d,μ)|_,_,_=>aY
noncomputable def f7(d:Bool):D->D->Hm->jk:=λx y e=>match y with
 |.bl _=>uX d x y e|_=>kQ d x y e
noncomputable def zN(d:Bool):R2:=λx y H Q=>∃c,y=.bl c/\((∃b,x=.bl b/\Q (.bl (if d then !(b==c)else b==c)) H)\/((∃i,x=.int i)/\Q (.bl d) H))
theorem uY{K:Xy}{g:Bool}:dC K (uX g) (zN g):=by
 intro j H o x y d l m n Q R h i e k;unfold uX at e;split at e
 ·cases e;cases h;cases i;exact⟨_,rfl,.inl ⟨_,rfl,k j _ H .refl R (.bl _)⟩⟩
 ·cases e;cases h;cases i;exact⟨_,rfl,.inr ⟨⟨_,rfl⟩,k j _ H .refl R (.bl _)⟩⟩
 ·cases e
theorem Ey:OpR X (YU .Is) (zN b4):=by
 intro e s j H x y v u Q I d g h;obtain⟨c,rfl,h⟩:=h;cases g;rcases h with⟨b,rfl,q⟩|⟨⟨i,rfl⟩,q⟩
 ·cases d;exact XC (nW I q (by cases b<;>cases c<;>rfl))
 ·obtain⟨t,rfl⟩:=d;exact XC (nW I q rfl)
theorem Ez:OpR X (YU .IsNot) (zN b5):=by
 intro e s j H x y v u Q I d g h;obtain⟨c,rfl,h⟩:=h;cases g;rcases h with⟨b,rfl,q⟩|⟨⟨i,rfl⟩,q⟩
 ·cases d;exact XC (nW I q (by cases b<;>cases c<;>rfl))
 ·obtain⟨t,rfl⟩:=d;exact XC (nW I q rfl)
theorem uZ{d:Bool}(x y:D)(e:Hm)(r:D×Hm)(h:f7 d x y e=aX r):uX d x y e=aX r\/kQ d x y e=aX r:=by
 unfold f7 at h;split at h
 ·exact .inl h
 ·exact .inr h
theorem Pt(d:QE X a ma)(e:QE X b mb):QE X (.Compare a [.Is] [b] pos) (aB (f7 b4) ma mb):=oD ⟨fG Ey uY d.h e.h (dP _)⟩ (O4 d e) (iM uZ)
theorem Pu(d:QE X a ma)(e:QE X b mb):QE X (.Compare a [.IsNot] [b] pos) (aB (f7 b5) ma mb):=oD ⟨fG Ez uY d.h e.h (dP _)⟩ (O5 d e) (iM uZ)
theorem Pw(d:QE X a ma)(e:QE X b mb):QT X (.Compare a [.Is] [b] pos) (aV (aB (f7 b4) ma mb)):=pO ⟨fH Ey uY d.h e.h (dP _)⟩ (O6 d e) (pP (iM uZ))
theorem Px(d:QE X a ma)(e:QE X b mb):QT X (.Compare a [.IsNot] [b] pos) (aV (aB (f7 b5) ma mb)):=pO ⟨fH Ez uY d.h e.h (dP _)⟩ (O7 d e) (pP (iM uZ))
end
section
variable{X:Cx}
end
noncomputable def zO:MF:=λds a=>match ds with
 |[.int i,.int j]=>aX (.int (if j<i then j else i),a)|_=>aY
noncomputable def zP:MF:=λds a=>match ds with
 |[.int i,.int j]=>aX (.int (if j>i then j else i),a)|_=>aY
theorem Py{K:Xy}:eT K zO (λxs H Q=>∃i j,xs=[.int i,.int j]/\Q (.int (if j<i then j else i)) H):=by
 intro g H l xs d e h Q R i a k;unfold zO at a;split at a
 ·cases a;cases i with
  |cons i t=>
   cases i;cases t with
   |cons b c=>cases b;cases c;exact⟨_,_,rfl,k g _ H .refl R (.int _)⟩
 ·cases a
theorem Pz{K:Xy}:eT K zP (λxs H Q=>∃i j,xs=[.int i,.int j]/\Q (.int (if j>i then j else i)) H):=by
 intro g H l xs d e h Q R i a k;unfold zP at a;split at a
 ·cases a;cases i with
  |cons i t=>
   cases i;cases t with
   |cons b c=>cases b;cases c;exact⟨_,_,rfl,k g _ H .refl R (.int _)⟩
 ·cases a
noncomputable def dM{a:Type}(xs:List a)(lo hi st:Option Int):List a:=(a5o (Z3 lo hi st xs.length).1 (Z3 lo hi st xs.length).2.1 (Z3 lo hi st xs.length).2.2).filterMap (xs[·]?)
noncomputable def pV(a:ME)(lo hi st:MO):ME:=λb d=>(a b d).bind λp=>(lo b p.2).bind λq=>(hi b q.2).bind λr=>(st b r.2).bind λt=>if t.1≠aX 0 then(fS t.2 p.1).bind λc=>if(dM c q.1 r.1 t.1).length<=XQ then aX (.loc t.2.length,t.2++[.lst (dM c q.1 r.1 t.1)])else aY else aY
theorem PC{K:Xy}{π:Nat->Addr}{n:Nat}{H:Hp}{vs:gw}{ds:List D}(h:IsDs K π n H vs ds)(lo hi st:Option Int):IsDs K π n H (dM vs lo hi st) (dM ds lo hi st):=by
 unfold dM;rw[h.length];generalize a5o _ _ _=l;induction l with
 |nil=>exact .nil|cons i l a=>
  rw[ZR,ZR];cases hi:ds[i]? with
  |none=>
   have:vs[i]?=none:=by rw[Yy]at hi ⊢;rw[h.length];exact hi
   rw[this];exact a
  |some d=>obtain⟨v,b,c⟩:=h.get hi;rw[b];exact .cons c a
theorem PD{vs:gw}{its:gq}(r:Vals vs its)(lo hi st:Option Int):Vals (dM vs lo hi st) (dM its lo hi st):=by
 unfold dM;rw[r.length];generalize a5o _ _ _=l;induction l with
 |nil=>exact .nil|cons i l a=>
  rw[ZR,ZR];cases hi:vs[i]? with
  |none=>
   have:its[i]?=none:=by rw[Yy]at hi ⊢;rw[<- r.length];exact hi
   rw[this];exact a
  |some v=>obtain⟨u,b,c⟩:=r.get hi;rw[b];exact .cons c a
section
variable{X:Cx}{e:Expr}{te:TE}{lo hi:Option Expr}{st:Expr}{tl th tt:TO}{pos p2:Zj}
noncomputable def PF(K:Xy)(te:TE)(tl th tt:TO):TE:=λσ H Q=>te σ H λx c=>tl σ c λl d=>th σ d λu g=>tt σ g λt b=>t≠aX 0/\∃a xs,x=.ref a/\SqL K b a xs/\(dM xs l u t).length<=XQ/\∀p,b p=aY->Q (.ref p) (aP b p (.lst (dM xs l u t)))
open PyProof.Rows in
theorem PH(M:PE X e te)(N:PO X lo tl)(R:PO X hi th)(O:PO X (aX st) tt):PE X (.Subscript e (.Slice lo hi (aX st) p2) pos) (PF X.K te tl th tt):=by
 intro c s i H Q I h;refine a5s (aR (M c s i H _ I h) λv s1 ⟨x,y,E,r1,q1⟩=>?_);refine wpAny_Slice (aR (N c s1 i y _ E q1) λo s2 ⟨l,z,G,pl,q2⟩=>aR (R c s2 i z _ G q2) λw s3 ⟨u,A,J,pu,q3⟩=>aR (O c s3 i A _ J q3) λp d ⟨t,B,K,pt,q4⟩=>?_);obtain⟨L,a,xs,rfl,T,U,q⟩:=q4;cases r1;have m:Inv X c i B {d with heap:=d.heap.push {cls:=.type "slice",data:=.fields #[o,w,p]}}:=K.kept (t':=d.toks) λb Z q=>XE _ q;obtain⟨k,r,j,Y⟩:=m.list T;have n:=r.length;show X5 (Yg X.prog X.w) X.A (a3O e (.Slice lo hi (aX st) p2) (.ref a) (.ref d.heap.objs.size)) (EP X c i Q) X.xe {d with heap:=d.heap.push {cls:=.type "slice",data:=.fields #[o,w,p]}};refine a8J (ops:=[.ref a,.ref d.heap.objs.size]) j.isList.typeIs a4g.lookup ?_ (by with_unfolding_all rfl);refine a5M j.isList (a4d ..) pl pu pt L ?_ (by rw[XW]<;>lia);have g:a5W k.toArray l u t=(dM k l u t).toArray:=by unfold a5W dM;simp
 rw[g];refine⟨.ref _,_,m.laid (t':=d.toks) (o:=.lst (dM xs l u t)) (λb Z q=>XE _ q) (XJ _) ?_,rfl,q _ (m.hok.fresh (XJ _))⟩;exact⟨U,_,0,PD r l u t,XT _ rfl⟩
theorem PJ{z:ME}{B A G:MO}(he:QE X e z)(hl:QO X lo B)(hu:QO X hi A)(ht:QO X (aX st) G):QE X (.Subscript e (.Slice lo hi (aX st) p2) pos) (pV z B A G):=⟨c9 (PH he.h hl.h hu.h ht.h) (by
 rintro σ H Q ⟨π,m,μ,d,μ',R,E,a,k⟩;obtain⟨⟨x,c⟩,O,a⟩:=Xv.mp a;obtain⟨⟨l,g⟩,T,a⟩:=Xv.mp a;obtain⟨⟨u,h⟩,U,a⟩:=Xv.mp a;obtain⟨⟨t,o⟩,Y,a⟩:=Xv.mp a;refine⟨π,m,μ,x,c,R,E,O,λr v1 H1 i J i1=>⟨r,m,c,l,g,J,E.mono i,T,λs H2 j R2=>⟨s,m,g,u,h,R2,(E.mono i).mono j,U,λv H3 n K=>⟨v,m,h,t,o,K,((E.mono i).mono j).mono n,Y,λπ4 H4 y w=>?_⟩⟩⟩⟩;split at a
 ·rename_i N;obtain⟨xs,Z,a⟩:=Xv.mp a;split at a
  ·rename_i hz;cases a;obtain⟨p,I,rfl,q,hd⟩:=oH w (((i1.mono j).mono n).mono y) Z;have b:=PC hd l u t;refine⟨N,p,I,rfl,q,by rw[b.length];exact hz,λp' hp=>?_⟩;obtain⟨M,L,_⟩:=w.alloc (c:=.lst (dM xs l u t)) (o:=.lst (dM I l u t)) hp b;exact k _ _ _ ((((i.trans j).trans n).trans y).trans M) L lQ
  ·cases a
 ·cases a)⟩
end
section
variable{X:Cx}{a8T:jw}{σ:St}{H:Hp}{s:XD}{h':YZ}
theorem zQ{t':Nat}{ch:List Addr}{a:Addr}{o:HO}(I:Inv X a8T σ H s)(k:∀b u,b∉ch->s.heap.get? b=aX u->h'.get? b=aX u)(i:∀b∈ch,iZ X a8T H b)(j:s.heap.objs.size<=a)
  (new:ObjOk X.prog X.w (aP H a o) h' a o):Inv X a8T σ (aP H a o) {s with heap:=h',toks:=t'}:=by
 have d:=I.hok.fresh j;have g:∀b u,H b=aX u->b∉ch:=λb u e z=>by have:=(i b z).1;rw[e]at this;cases this
 refine I.step (g':=s.gens) (d':=s.drawn) (ch:=ch) (λb h=>let⟨K,x,L,y,A,B⟩:=i b h;⟨y,x,A,B⟩) (λb o _ _ hc e _=>k b o hc e) (λb o _ _ hc e _=>⟨o.slots,k b o hc e⟩) (λb J hc e n=>?_)
  (λb o hc e=>⟨o,k b o hc e⟩) (λb l q=>?_) (λb J l q=>?_) (λb M q=>?_) (λm E=>?_) (λb u e=>?_) I.bare
 ·rw[bM (XU (Yh (XN e) j))];exact n
 ·rw[bM (iW q d)];exact q
 ·rw[bM (iW q d)];exact q
 ·exact⟨#[],by rw[bM (iW q d),q];simp⟩
 ·obtain⟨o,w,p,G,r⟩:=E;exact⟨o,w,p,k _ o (λz=>(i _ z).2.1 rfl) G,r⟩
 ·by_cases h:b=a
  ·subst h;rw[cX]at e;cases e;exact new
  ·rw[bM h]at e;refine(I.hok b u e).stay (λc v hc q=>k c v ?_ q) (λc q=>by rw[bM (iW q d)];exact q) λc l q=>by rw[bM (iW q d)];exact q
   rcases hc with z|z
   ·rw[z];exact g b u e
   ·exact g c _ z
theorem EA{t':Nat}{ch:List Addr}(I:Inv X a8T σ H s)(k:∀b u,b∉ch->s.heap.get? b=aX u->h'.get? b=aX u)(d:∀b∈ch,iZ X a8T H b):Inv X a8T σ H {s with heap:=h',toks:=t'}:=by
 have a:∀b u,H b=aX u->b∉ch:=λb u e z=>by have:=(d b z).1;rw[e]at this;cases this
 refine I.step (g':=s.gens) (d':=s.drawn) (ch:=ch) (λb x=>let⟨E,j,G,l,p,w⟩:=d b x;⟨l,j,p,w⟩) (λb o _ _ hc e _=>k b o hc e) (λb o _ _ hc e _=>⟨o.slots,k b o hc e⟩) (λb B hc e n=>n)
  (λb o hc e=>⟨o,k b o hc e⟩) (λb g q=>q) (λb B g q=>q) (λb J q=>⟨#[],by rw[q];simp⟩) (λm y=>?_) (λb u e=>?_) I.bare
 ·obtain⟨o,i,h,A,r⟩:=y;exact⟨o,i,h,k _ o (λz=>(d _ z).2.1 rfl) A,r⟩
 ·refine(I.hok b u e).stay (λc v hc q=>k c v ?_ q) (λc q=>q) λc g q=>q;rcases hc with z|z
  ·rw[z];exact a b u e
  ·exact a c _ z
end
noncomputable def zR(K:Xy)(a:Addr):It:=
 ⟨λi H=>∃b x,SqL K H a b/\b[i]?=aX x,λi H x c=>∃p v,x=.ref p/\H p=aY/\c=aP H p (.tup [.int i,v])/\∀b,SqL K H a b->b[i]?=aX v,λi H=>∃b,SqL K H a b/\b.length<=i⟩
theorem PL{P:Yk}{w:Yz}{K:Xy}{es:List Expr}{kx:Nat}{pt:Zj}(a e m:Addr)(r:e≠m) :
  Turn Qc P w K (.Tuple es kx pt) (zR K a) [e,m] e (λi h=>∃l,IsEnum h e m i l/\h.IsListIter m a i) where
 mem:=by simp
 obj:=λi h ⟨l,st,j⟩ b n=>by
  have g:b=e\/b=m:=by simpa using n
  rcases g with rfl|rfl
  ·exact⟨_,st,λv z=>by
    have z':YR _=a3b v:=z;cases z'⟩
  ·obtain⟨o,J,c,d⟩:=j;exact⟨o,J,λv z=>by rw[d]at z;cases z⟩
 keep:=λi h h' ⟨l,st,j⟩ k=>⟨l,k e (by simp) _ st,j.at λo J=>k m (by simp) o J⟩;item:=by
  intro X N hw M hc i G s σ H E I A ⟨l,st,j⟩ R;subst N hw M;obtain⟨xs,x,B,Z⟩:=R;obtain⟨its,rv,p,hz⟩:=I.list B;obtain⟨u,hu,ru⟩:=rv.get Z;refine wpAny_pyNext_enum_item st j p.isList (x:=u) (by simpa using hu) r λh1 ho hit ht hsz hk=>⟨_,rfl,wpAny_letOwnedTupleGo_enum ho λh2 O q=>?_⟩;have y:e<s.heap.objs.size:=XN st;have T:s.heap.objs.size≠e:=YT y;have Y:h2.get? s.heap.objs.size=aX {cls:=.type "tuple",data:=.seq #[.int i s.toks,u]}:=(q.2 _ T).trans ht;have Q:H s.heap.objs.size=none:=I.hok.fresh (XJ _);refine⟨.ref s.heap.objs.size,aP H s.heap.objs.size (.tup [.int i,x]),?_,rfl,⟨s.heap.objs.size,x,rfl,Q,rfl,λys hy=>by rw[I.list_inj hy B];exact Z⟩,⟨u,O,hit.extBut q.extBut (Yn r)⟩,λb n=>?_⟩
  ·refine zQ (s:=s) (h':=h2) (t':=s.toks+1) (ch:=[e,m]) I (λb ob n L=>?_) A (XJ _) ?_
   ·have g:b≠e/\b≠m:=by simpa using n
    exact(q.2 b g.1).trans (hk b ob g.1 g.2 L)
   ·exact⟨by show(2:Nat)<=XQ;decide,[.int i s.toks,u],.cons ⟨_,rfl⟩ (.cons ru .nil),_,Y,rfl,0,rfl,rfl⟩
  ·have g:b=e\/b=m:=by simpa using n
   have hn:=(A b n).1;obtain⟨o,U,_⟩:=j;rw[bM]
   ·exact hn
   ·rcases g with rfl|rfl
    ·exact XU y
    ·exact XU (XN U)
 done:=by
  intro X N hw M hc i G s σ H E I A ⟨l,st,j⟩ R;subst N hw M;obtain⟨xs,B,Z⟩:=R;obtain⟨its,rv,p,hz⟩:=I.list B;have hl:=rv.length;refine wpAny_pyNext_enum_end (I.ok.hd hc) st j p.isList (by simp;lia) λh' L=>⟨rfl,EA (t':=s.toks) (ch:=[e,m]) I (λb o n z=>L b o ?_ z) A⟩;have g:b≠e/\b≠m:=by simpa using n
  exact g.2
 self:=λ_ _ _ _ _ ⟨l,st,_⟩ h=>a7C st h
structure QJT(X:Cx)(e:Expr)(m:MI):Prop where
 h:∀es k p,PI X (.Tuple es k p) e (tMI X.K m)
theorem QJ.t{X:Cx}{e:Expr}{m:MI}(h:QJ X e m):QJT X e m:=⟨λes k p=>h.h _⟩
noncomputable def oI(x:D):iC:=λa i=>(bK a x).map λxs=>(xs[i]?).map λd=>.tup [.int i,d]
noncomputable def pW(a:MA):MI:=λd c=>(a d c).bind λp=>match p.1 with
 |[x]=>(fS p.2 x).map λb=>(oI x,b.length+1,p.2)|_=>aY
theorem PM{K:Xy}{π:Nat->Addr}{r:Hm}{H:Hp}{v:V}{x:D}{xs:List D}(R:Rp K π H r)(h:IsD K π r.length H v x)(u:fS r x=aX xs):∃a,v=.ref a/\(∃vs,SqL K H a vs)/\Wk K (zR K a) (oI x) π r.length H:=by
 have hw:bK r x=aX xs:=by
  cases x with
  |rol k=>exact u|loc b=>exact u|_=>cases u
 obtain⟨p,vs,rfl,Q,_⟩:=oH R h u;refine⟨p,rfl,⟨vs,Q⟩,?_⟩
  -- the list as it stands j
 have j:∀g c l,Ext π r.length H g c.length l->Rp K g l c->∀k,bK c x=aX k->∃m,SqL K l p m/\IsDs K g c.length l m k:=λg c l e n k I=>by
  have U:=h.mono e;have N:fS c x=aX k:=by
   cases x with
   |rol zs=>exact I|loc b=>exact I|_=>cases u
  obtain⟨Z,m,J,o,s⟩:=oH n U N;cases J;exact⟨m,o,s⟩
 refine⟨λg c l i e n z=>?_,λg c l i d e n z=>?_⟩
 ·obtain⟨k,A,w⟩:=XA.mp z;obtain⟨m,o,s⟩:=j g c l e n k A;have B:k[i]?=none:=by
   cases q:k[i]? with
   |none=>rfl|some d=>rw[q]at w;cases w
  exact⟨m,o,by rw[s.length];exact Yy.mp B⟩
 ·obtain⟨k,A,w⟩:=XA.mp z;obtain⟨Y,B,L⟩:=XA.mp w;subst L;obtain⟨m,o,s⟩:=j g c l e n k A;obtain⟨v,G,M⟩:=s.get B;refine⟨⟨m,v,o,G⟩,?_⟩;rintro y X ⟨t,v',rfl,O,rfl,T⟩;have:=T m o;rw[G]at this;cases this;obtain⟨E,R2⟩:=n.fresh (o:=.tup [.int i,v]) O;exact⟨E,R2,.tup (.of cX) (.cons (.int _) (.cons (M.mono E) .nil))⟩
noncomputable def PN(K:Xy)(c:TA):TI:=λσ H R=>c σ H λvs b=>∃a,vs=[.ref a]/\(∃xs,SqL K b a xs)/\R (zR K a) b
open PyProof.Rows in
theorem PQ{X:Cx}{a:Expr}{k:TA}{p pos pt:Zj}{es:List Expr}{G:Nat}(w:Gl X "enumerate") (y:X.mg "enumerate"=aY) (r:PA X [a] k)(A:Yr [a] X.env=[(b4,eval a X.env)]):PI X (.Tuple es G pt) (.Call (.Name "enumerate" p) [a] [] pos) (PN X.K k):=by
 intro e s l H R I h;refine Call_ (iY I w y Boot.«enumerate» (callWith_type1 (aR (r pos e s l H _ I h) λQ c ⟨T,i,d,L,K⟩=>?_) A rfl));obtain⟨n,rfl,⟨U,z⟩,q⟩:=K;obtain⟨u,rfl,M⟩:=fY L;cases M;obtain⟨E,O,J,N⟩:=d.list z;refine call_enumerate_list J.isList λo j hit B x=>?_;refine a7C j ?_;have m:Inv X e l i {c with heap:=o}:=d.kept (t':=c.toks) x;refine⟨c.heap.objs.size+1,[c.heap.objs.size+1,c.heap.objs.size],_,_,i,rfl,m,PL n _ _ (Nat.succ_ne_self _),⟨_,j,hit⟩,λb v=>?_,q⟩;have g:b=c.heap.objs.size+1\/b=c.heap.objs.size:=by simpa using v
 rcases g with rfl|rfl
 ·exact d.fpOk (a3a _) (d.hok.fresh (a3a _))
 ·exact d.fpOk (XJ _) (d.hok.fresh (XJ _))
theorem PR{X:Cx}{a:Expr}{m:MA}{n:Nat}{p pos:Zj}(c:Gl X "enumerate") (d:X.mg "enumerate"=aY) (j:QA X [a] m n):QJT X (.Call (.Name "enumerate" p) [a] [] pos) (pW m):=⟨λes L pt a8T s σ H R I hw=>by
 have l:=j.s;rw[YG,XG]at l;obtain⟨J,K,B,z,M,G,q,E,b,k⟩:=hw;obtain⟨⟨x,g⟩,v,b⟩:=Xv.mp b;refine PQ c d j.h (f6 l.1) a8T s σ H R I ⟨J,K,B,x,g,q,E,v,λh N o u i e=>?_⟩;dsimp only at b;split at b
 ·rename_i x;obtain⟨O,w,b⟩:=XA.mp b;cases b;cases e with
  |cons e A=>cases A;obtain⟨r,rfl,y,W⟩:=PM i e w;exact⟨r,rfl,y,k h o _ u i W⟩
 ·cases b⟩
section
variable{X:Cx}{pos:Zj}
theorem u3{tg iter:Expr}{w:MI}{g:MG}{v:MS}{body:List Stmt}(hi:PI X tg iter (tMI X.K w))(G:QG X tg g)(B:QB X body v)(I:a4L (Yg X.prog X.w) X.A X.env X.xe)(hc:X.calm=b5)(K:gO iter=b5) :
  QS X (.For tg iter body [] pos) (bW w g v):=⟨iI (KL I hc hi G.h B.h (by intro z;cases iter<;>first|rfl|cases K)) (by
 rintro E Q H ⟨N,O,M,u,r,p,R,s,m,k⟩;obtain⟨⟨o,n,l⟩,A,m⟩:=Xv.mp m;refine⟨N,O,M,o,n,l,R,s,A,λq x J i y W=>?_⟩;have L:nZ X.K E q l.length x u r p:=by
  cases u with
  |nx=>exact λa b e j h c=>k a b e (i.trans j) h c|bk=>exact λa b e j h c=>k a b e (i.trans j) h c|ct=>exact λa b e j h c=>k a b e (i.trans j) h c|rt d=>exact KC.after k i
 exact Nt W L .refl y (s.mono i) m)⟩
theorem PU{st:Stmt}{m g i:MS}(h1:QS X st g)(l:QS X st i)(h:∀b a r,m b a=aX r->g b a=aX r\/i b a=aX r):QS X st m:=⟨λa8T s σ H D I q=>by
 obtain⟨j,b,a,e,d,c,R,E,n,k⟩:=q;rcases h b a _ n with z|z
 ·exact h1.h a8T s σ H D I ⟨j,b,a,e,d,c,R,E,z,k⟩
 ·exact l.h a8T s σ H D I ⟨j,b,a,e,d,c,R,E,z,k⟩⟩
noncomputable def oJ(put:D->D->D->Hm->Option Hm)(o i v:ME):MS:=λa c=>(v a c).bind λp=>(o a p.2).bind λq=>(i a q.2).bind λr=>(put q.1 r.1 p.1 r.2).map λb=>(.nx,a,b)
noncomputable def iN:D->D->D->Hm->Option Hm
 |.loc a,.int i,d,μ=>match μ[a]? with
  |some (.lst xs)=>(iH xs.length i).map λj=>μ.set a (.lst (xs.set j d))|_=>aY
 |_,_,_,_=>aY
noncomputable def r6:D->D->D->Hm->Option Hm
 |.loc a,y,d,μ=>match μ[a]? with
  |some (.dT kvs)=>(dR y).bind λk=>if kvs.length<XQ then aX (μ.set a (.dT (dE kvs k d)))else aY|_=>aY
 |_,_,_,_=>aY
noncomputable def oK:D->D->D->Hm->Option Hm:=λo i d b=>match o with
 |.loc a=>match b[a]? with
  |some (.dT _)=>r6 o i d b|_=>iN o i d b
 |_=>aY
noncomputable def dN:=oJ oK
theorem EB{K:Xy}{π:Nat->Addr}{n:Nat}{H:Hp}:∀{vs:gw}{ds:List D}(j:Nat){v:V}{d:D},IsDs K π n H vs ds->IsD K π n H v d->IsDs K π n H (vs.set j v) (ds.set j d)
 |_,_,j,_,_,.nil,h=>by simp;exact .nil
 |_,_,0,_,_,.cons _ t,h=>.cons h t|_,_,j+1,_,_,.cons h0 t,h=>.cons h0 (EB j t h)
noncomputable def PV(e ty g:TE):TS:=λD σ H=>g σ H λv a=>e σ a λx b=>ty σ b λy c=>uA x y v c λd=>D.nx σ d
open PyProof.Rows in
theorem PX{o i a:Expr}{c:Zj}{e ty g:TE}(z:PE X o e)(hi:PE X i ty)(B:PE X a g)(A:a1M a (aX (.Subscript o i c)) pos.line X.env=pure b4):PS X (.Assign [.Subscript o i c] a pos) (PV e ty g):=by intro b s d H D I h;refine a6i (aR (B b s d H _ I h) λr Q ⟨v,j,n,M,G⟩=>aR (z b Q d j _ n G) λu R ⟨x,k,p,N,J⟩=>aR (hi b R d k _ p J) λE T ⟨y,l,q,O,K⟩=>?_) A;exact aR (CV b T d l x y v u E r _ q N O M K) λ_ U ⟨m,w,L⟩=>⟨d,m,w,L⟩
theorem zT{K:Xy}{π:Nat->Addr}{H:Hp}{c b:Hm}{o i v:V}{y z x:D}(R:Rp K π H c)(w:IsD K π c.length H o y)(A:IsD K π c.length H i z)(u:IsD K π c.length H v x)(h:iN y z x c=aX b){Q:Hp->Prop}(k:∀d,Ext π c.length H π b.length d->Rp K π d b->Q d):uA o i v H Q:=by
 cases y with
 |loc a=>
  cases z with
  |int i=>
   simp only[iN]at h;split at h
   ·rename_i n m;obtain⟨j,r,s⟩:=XA.mp h;subst s;obtain⟨e,g,l⟩:=R.lst _ n m;cases w;cases A;obtain⟨q,p⟩:=R.put (c:=.lst (n.set j x)) (o:=.lst (e.set j v)) (Xz.mp m).1 g (.inl ⟨e,rfl⟩) (EB j l u);exact⟨_,e,i,j,rfl,rfl,g,by rw[l.length];exact r,k _ q p⟩
   ·cases h
  |_=>simp[iN]at h
 |_=>simp[iN]at h
theorem PY{o i e:Expr}{A w v:ME}{b:Zj}(O:QE X o A)(hi:QE X i w)(N:QE X e v)(h:kM e=b5):QS X (.Assign [.Subscript o i b] e pos) (oJ iN A w v):=
 ⟨iI (PX O.h hi.h N.h (uQ h)) (by
 rintro E σ H ⟨π,s,Y,fl,ρ',Z,R,g,a,k⟩;obtain⟨⟨x,c⟩,J,a⟩:=Xv.mp a;obtain⟨⟨y,d⟩,K,a⟩:=Xv.mp a;obtain⟨⟨z,n⟩,L,a⟩:=Xv.mp a;obtain⟨μ4,M,a⟩:=XA.mp a;cases a;exact⟨π,s,Y,x,c,R,g,J,λp v1 H1 j B Q=>⟨p,s,c,y,d,B,g.mono j,K,λq v2 H2 l R2 T=>⟨q,s,d,z,n,R2,(g.mono j).mono l,L,λr v3 H3 m G U=>zT G (T.mono m) U ((Q.mono l).mono m) M λH4 u I=>k r σ _ (((j.trans l).trans m).trans u) I ((((g.mono j).mono l).mono m).mono u)⟩⟩⟩)⟩
noncomputable def r8(m o i g i2:ME):MS:=λa h=>(m a h).bind λp=>match p.1 with
 |.tup [v,w]=>(o a p.2).bind λq=>(i a q.2).bind λr=>(iN q.1 r.1 v r.2).bind λb=>(g a b).bind λd=>(i2 a d.2).bind λe=>(iN d.1 e.1 w e.2).map λc=>(.nx,a,c)|_=>aY
theorem PZ{o i b i2 e:Expr}{c d pt:Zj}{a:Nat}{env:a3h}:a0d [.Tuple [.Subscript o i c,.Subscript b i2 d] a pt] e env=pure none:=by
 unfold a0d;cases e<;>first|rfl|skip
 dsimp only;split
 ·rfl
 ·split<;>rfl
theorem EC{o i:Expr}{b a:ME}{p:Zj}(c:QE X o b)(hi:QE X i a)(h:jW i=b5):PG X (.Subscript o i p) (Co (tM X.K b) (tM X.K a) uA):=Kq c.h hi.h CV (by intro v;cases i<;>first|rfl|cases h)
theorem P0{o i r i2 e:Expr}{Z mo mi g d:ME}{B G pt:Zj}{A:Nat}(hc:X.calm=b5)(he:QE X e Z)(ho:QE X o mo)(hi:QE X i mi)(w:QE X r g)(v:QE X i2 d)(h1:jW i=b5)(h2:jW i2=b5) :
  QS X (.Assign [.Tuple [.Subscript o i B,.Subscript r i2 G] A pt] e pos) (r8 Z mo mi g d):=
 ⟨iI (Cq (tg:=.Tuple [.Subscript o i B,.Subscript r i2 G] A pt) he.h (Ko hc (xI (EC ho hi h1) (xI (EC w v h2) Cn rfl) rfl) rfl rfl) (by cases e<;>rfl) PZ (by rw[rV (e:=.Tuple [.Subscript o i B,.Subscript r i2 G] A pt) rfl];rfl)) (by
 rintro E σ H ⟨π,m,μ,fl,ρ',μ',R,T,a,k⟩;obtain⟨⟨x,h⟩,g1,a⟩:=Xv.mp a;refine⟨π,m,μ,x,h,R,T,g1,λL v1 H1 U R1 i1=>?_⟩;dsimp only at a;split at a
 ·obtain⟨⟨y,j⟩,g2,a⟩:=Xv.mp a;obtain⟨⟨z,I⟩,g3,a⟩:=Xv.mp a;obtain⟨J,g4,a⟩:=Xv.mp a;obtain⟨⟨y',l⟩,g5,a⟩:=Xv.mp a;obtain⟨⟨z',K⟩,g6,a⟩:=Xv.mp a;obtain⟨μ7,g7,a⟩:=XA.mp a;cases a;cases i1 with
  |tup q t=>
   cases t with
   |cons ia t=>
    cases t with
    |cons ib t=>cases t;have c:=T.mono U;refine⟨_,_,rfl,q,rfl,_,_,rfl,⟨L,m,h,y,j,R1,c,g2,λM v2 H2 s R2 i2=>⟨M,m,j,z,I,R2,c.mono s,g3,λN v3 H3 u R3 i3=>zT R3 (i2.mono u) i3 ((ia.mono s).mono u) g4 λH4 e4 R4=>?_⟩⟩⟩;have b:=(s.trans u).trans e4;exact⟨_,_,rfl,⟨N,m,J,y',l,R4,c.mono b,g5,λO v5 H5 n R5 i5=>⟨O,m,l,z',K,R5,(c.mono b).mono n,g6,λQ v6 H6 p R6 i6=>zT R6 (i5.mono p) i6 (((ib.mono b).mono n).mono p) g7 λH7 Y R7=>⟨rfl,k Q σ _ (((U.trans b).trans (n.trans p)).trans Y) R7 (((c.mono b).mono (n.trans p)).mono Y)⟩⟩⟩⟩
 ·cases a)⟩
theorem P4{f j k:D->D->D->Hm->Option Hm}{i g e:ME}(h:∀x y z b r,f x y z b=aX r->j x y z b=aX r\/k x y z b=aX r):∀d b r,oJ f i g e d b=aX r->oJ j i g e d b=aX r\/oJ k i g e d b=aX r:=by
 intro d b r a;obtain⟨p,l,a⟩:=Xv.mp a;obtain⟨q,m,a⟩:=Xv.mp a;obtain⟨t,n,a⟩:=Xv.mp a;obtain⟨c,o,a⟩:=XA.mp a;rcases h _ _ _ _ _ o with z|z
 ·exact .inl (Xv.mpr ⟨p,l,Xv.mpr ⟨q,m,Xv.mpr ⟨t,n,XA.mpr ⟨c,z,a⟩⟩⟩⟩)
 ·exact .inr (Xv.mpr ⟨p,l,Xv.mpr ⟨q,m,Xv.mpr ⟨t,n,XA.mpr ⟨c,z,a⟩⟩⟩⟩)
theorem ED{st:Stmt}{i:Nat}:QS X st (aW i cA):=⟨λa8T s σ H D I q=>by
 obtain⟨g,h,e,d,c,b,R,E,a,k⟩:=q;cases a⟩
end
section
variable{X:Cx}
end
section
variable{X:Cx}
end
section
variable{X:Cx}{e o:Expr}{mo:ME}{apos cpos:Zj}{es:List Expr}{ms:MA}{n:Nat}
end
section
variable{prog:Yk}{w:Yz}{A:Yt}{E:Value->XD->Prop}{s:XD}{r:Addr}{Q:Bool->XD->Prop}
theorem P5:a5n (.type "list_reverseiterator") "__len__"=pure none:=by rw[a8g,a6H];kernel_rfl
theorem P7:a5n (.type "list_reverseiterator") "__length_hint__"=pure (aX (.builtin "list_reverseiterator.__length_hint__")):=by rw[a8g,a6H];kernel_rfl
theorem P8(b:s.TypeIs (.ref r) "list_reverseiterator") (h:Q b4 s):X5 (Yg prog w) A (a3n (.ref r)) Q E s:=by unfold a3n;refine Xw (a3c b P5 ?_);dsimp only;refine a0Q (λa=>absurd a (by decide +kernel)) (λ_=>?_);refine a0Q (λa=>absurd a (by decide)) (λ_=>?_);refine Xw (a3c b P7 ?_);generalize bN:("list_reverseiterator.__length_hint__":String)=id0;wp_delta;rw[show splitId id0=aX ("list_reverseiterator","__length_hint__")from by subst bN;decide +kernel];subst bN;refine Xw (a0A (T:="list_reverseiterator") (b:=b5) b (by rw[isSubtype_type];kernel_rfl) ?_);refine a0Q (λa=>absurd a (by decide)) (λ_=>?_);refine a0Q (λ_=>?_) (λa=>absurd (by decide +kernel) a);refine a0Q (λa=>absurd a (by decide +kernel)) (λ_=>?_);exact XC h
end
section
variable{prog:Yk}{w:Yz}{A:Yt}{E:Value->XD->Prop}{s:XD}{p a:Addr}{its:Array Value}
theorem P9{R:a4H->XD->Prop}(U:A.handled=aY)(hit:s.heap.IsRevIter p a ((its.size:Int)-1))(Y:s.heap.IsList a its)(G:a≠p)(S:Addr)(n:S≠p)(y:S≠a)(res:Value)(j:Nat)(T:s.heap.get? S=aX {cls:=.type "list",data:=.seq #[] j})
  (Q:∀u tk c m,(∀b o,b≠S->b≠p->s.heap.get? b=aX o->u.get? b=aX o)->u.get? S=aX {cls:=.type "list",dict:=aY,data:=.seq c m,slots:=#[]}->ItemsOf (λi v=>its[its.size-1-i]?=aX v) c its.size->R (.ok (.ret res)) {s with heap:=u,toks:=tk}) (Z:its.size<=XQ) :
  X5 (Yg prog w) A.in1 (ZE (.ref S) (.ref p) res)
   (λfin l=>match fin with|.done f=>R (.ok f) l|.again m=>m.quiet=b5/\a1g (Yg prog w) A m R l) (λe l=>R (.error e) l) s:=by
 have z:S∉[p,a]:=by simp only[Yi,a0Y,or_false,not_or];exact⟨n,y⟩
 have W:=Walks.listRev (prog:=prog) (w:=w) (A:=A.in1) U p a G its;have key:∀(h:YZ)(d tk:Nat),h.IsRevIter p a ((its.size:Int)-1)->h.IsList a its->(∀b o,b≠S->s.heap.get? b=aX o->h.get? b=aX o)->
   h.get? S=aX {cls:=.type "list",data:=.seq #[] d}->a1g (Yg prog w) A (.builtin "list.extend.loop" ⟨[.ref S,.ref p,res],[]⟩) R {s with heap:=h,toks:=tk}:=by
  intro h d tk I r X k;refine codeAny_extend_loopS W.toS Z S z res its.size 0 _ #[] d rfl (Yu _) ⟨Yu _,by simpa using I,r⟩ k (ItemsOf.nil _) λl c m K x q=>?_;rw[Moved.eq_with K];refine Q l.heap l.toks c m (λb o J H e=>K.heap b o (λg=>?_) (X b o J e)) x q;rcases Yi.mp g with L|g
  ·exact J L
  ·exact H (XX.mp g)
 unfold ZE;refine Xw (wpAny_typeOf (T:="list_reverseiterator") hit.typeIs ?_);have M:a0N (.ref S) (.ref p)=false:=by simp[a0N,n]
 have N:(Yd "list_reverseiterator"==Yd "list")=false:=by decide +kernel
 have O:(Yd "list_reverseiterator"==Yd "tuple")=false:=by decide +kernel
 simp only[M,N,O,a3o,Yb,if_false];refine Xw (wpAny_pyIter_revIter hit ?_);refine Xw (YI (P8 hit.typeIs ?_));refine a0Q (λB=>absurd B (by decide +kernel)) (λ_=>XC ⟨a0e PySem.F.plain_extend_loop _,?_⟩);exact key _ j s.toks hit Y (λb o _ e=>e) T
theorem Qa{R:a4H->XD->Prop}(I:A.handled=aY)(hit:s.heap.IsRevIter p a ((its.size:Int)-1))(K:s.heap.IsList a its)(y:a≠p)(S:Addr)(l:S≠p)(k:S≠a)(r:s.heap.get? S=aX {cls:=.type "list",data:=.seq #[]})
  (H:∀j G c h,(∀b o,b≠S->b≠p->s.heap.get? b=aX o->j.get? b=aX o)->j.get? S=aX {cls:=.type "list",dict:=aY,data:=.seq c h,slots:=#[]}->ItemsOf (λi v=>its[its.size-1-i]?=aX v) c its.size->R (.ok (.ret .none)) {s with heap:=j,toks:=G}) (L:its.size<=XQ) :
  X5 (Yg prog w) A.in1 (Builtin.«list.__init__» ⟨[.ref S,.ref p],[]⟩)
   (λfin q=>match fin with|.done f=>R (.ok f) q|.again h=>h.quiet=b5/\a1g (Yg prog w) A h R q) (λe q=>R (.error e) q) s:=by
 show X5 _ _ (do let B <- a3V (.ref S);a8D (.ref S) (λ_=>#[]);letGo B.toList.reverse;ZE (.ref S) (.ref p) .none) _ _ s;refine Xw ?_;unfold a3V;refine Xw (a3s r rfl (XC ?_));show X5 _ _ (a4E S (λ_=>#[]) >>= λ_=>letGo (#[]:Array Value).toList.reverse >>= λ_=>ZE (.ref S) (.ref p) .none) _ _ s;refine Xw (a0O r rfl ?_);have d:=Zd (Zh (λ_=>(#[]:Array Value))) r rfl;have g:∀b o,b≠S->s.heap.get? b=aX o->(s.heap.update S (Zh (λ_=>(#[]:Array Value)))).get? b=aX o:=
  λb o n e=>(Y7 _ _ (Yn n)).trans e
 refine Xw (a2D ?_);refine P9 I (hit.at λo e=>g p o (Yn l) e) (let⟨o,M,x⟩:=K;⟨o,g a o (Yn k) M,x⟩) y S l k .none _ d (λj G c h J u m=>?_) L;exact H j G c h (λb o n z e=>J b o n z (g b o n e)) u m
theorem Qb{Q:Value->XD->Prop}(H:A.handled=aY)(hit:s.heap.IsRevIter p a ((its.size:Int)-1))(y:s.heap.IsList a its)(q:a≠p)(J:its.size<=XQ)
  (z:∀g r c m,(∀b o,b≠p->s.heap.get? b=aX o->g.get? b=aX o)->g.get? s.heap.objs.size=aX {cls:=.type "list",dict:=aY,data:=.seq c m,slots:=#[]}->ItemsOf (λi v=>its[its.size-1-i]?=aX v) c its.size->Q (.ref s.heap.objs.size) {s with heap:=g,toks:=r}) :
  X5 (Yg prog w) A (call (.type "list") [.ref p]) Q E s:=by
 refine callType_codes (Q₁:=λl d=>l=.ref s.heap.objs.size/\d={s with heap:=s.heap.push {cls:=.type "list",data:=.seq #[]}}) PySem.F.called_list (PySem.F.typeCall_list_1 _) PySem.F.entry_list_init
  (code_list_new _ ⟨rfl,rfl⟩) λl d k=>?_
 obtain⟨rfl,rfl⟩:=k;have u:(s.heap.push {cls:=.type "list",data:=.seq #[]}).get? s.heap.objs.size=aX {cls:=.type "list",data:=.seq #[]}:=XT _ rfl;have K:p<s.heap.objs.size:=let⟨o,j,_⟩:=hit;XN j;have B:a<s.heap.objs.size:=let⟨o,j,_⟩:=y;XN j;refine⟨⟨_,u,rfl⟩,PySem.F.args_list_init_2 _ _,Qa (A:=A.in1) H (hit.at λo e=>XE _ e) (let⟨o,j,x⟩:=y;⟨o,XE _ j,x⟩) q _ (YT K) (YT B) u (λg r c m I n h=>?_) J⟩;exact⟨rfl,z g r c m (λb o G e=>I b o (XU (XN e)) G (XE _ e)) n h⟩
end
noncomputable def EE(K:Xy):gw->Hp->VK->Prop:=λxs H Q=>∃(p:Addr)(a:gw),xs=[.ref p]/\SqL K H p a/\∀l,H l=aY->Q (.ref l) (aP H l (.lst a.reverse))
theorem EF:∀{a:gw}{its:gq},Vals a its->Vals a.reverse its.reverse
 |_,_,.nil=>.nil|_,_,.cons h t=>by rw[a0L,a0L];exact(EF t).append (.cons h .nil)
theorem Qd{X:Cx}{e:Expr}{t:TA}{p G pos d:Zj}(hc:X.calm=b5)(N:Gl X "list") (O:X.mg "list"=aY) (r:Gl X "reversed") (w:X.mg "reversed"=aY) (M:PA X [e] t)(T:Yr [e] X.env=(b4,eval e X.env)::Yr [] X.env) :
  PE X (.Call (.Name "list" p) [.Call (.Name "reversed" G) [e] [] d] [] pos) (t9 (EE X.K) t):=by
 intro m s σ H Q I h;refine ZL (iY I N O a1r ?_ (by decide) (by decide));refine Zi ?_ rfl rfl;show X5 _ _ (spliced ((b4,eval (.Call (.Name "reversed" G) [e] [] d) X.env)::a0l pos (Yr [] X.env))) _ _ s;refine a1Y (ZL (iY I r w a6r ?_ (by decide) (by decide)));refine Zi (aR (M d m s σ H _ I h) λus j ⟨vs,H1,l,r1,q1⟩=>?_) T rfl;obtain⟨q,ys,rfl,R,k⟩:=q1;obtain⟨u,rfl,ru⟩:=fY r1;cases ru;obtain⟨a,J,Z,U⟩:=l.list R;have E:=J.length;have v:=Z.isList;have z:q<j.heap.objs.size:=let⟨o,y,_⟩:=v;XN y;refine call_reversed_list v ?_;refine a2k ?_;refine Qb (l.ok.hd hc) (p:=j.heap.objs.size) (a:=q) (its:=a.toArray) ⟨_,XT _ rfl,rfl,rfl⟩ (let⟨o,y,x⟩:=v;⟨o,XE _ y,x⟩) (XU z) (by simp only[XW]<;>lia) λh' tk c K Y B g=>?_;have n:c.toList=a.reverse:=by
  refine a1o λi=>?_;have hn:c.size=a.length:=by simpa using g.1
  by_cases hi:i<a.length
  ·have L:=g.2 i c[i] (a2j (by lia));rw[YW,a2j (by lia),<- L,List.getElem?_reverse hi,XW,List.getElem?_toArray]
  ·rw[ZC (by rw[Z5];lia),ZC (by rw[a1Q];lia)]
 have A:(j.heap.push (revObj q ((a.toArray.size:Int)-1))).objs.size=j.heap.objs.size+1:=by simp[Heap.push]
 rw[A]at B ⊢;refine⟨.ref (j.heap.objs.size+1),_,l.laid (t':=tk) (a:=j.heap.objs.size+1) (o:=.lst ys.reverse) (λb o e=>Y b o (XU (XN e)) (XE _ e)) (by lia) ⟨by rw[a1Q];exact U,a.reverse,K,EF J,by rw[<- n];simpa using B⟩,rfl,k _ (l.hok.fresh (by lia))⟩
noncomputable def m8:MF:=λds b=>match ds with
 |[.loc a]=>match b[a]? with
  |some (.lst xs)=>aX (.loc b.length,b++[.lst xs.reverse])|_=>aY
 |_=>aY
theorem Qe{K:Xy}:eT K m8 (EE K):=by
 intro s H r q d o p Q R i b k;unfold m8 at b;split at b
 ·rename_i a;split at b
  ·rename_i e n;cases b;cases i with
   |cons i t=>cases t;cases i;obtain⟨c,h,j⟩:=R.lst a e n;refine⟨_,c,rfl,.of h,λl m=>?_⟩;obtain⟨g,R2,_⟩:=R.alloc (c:=.lst e.reverse) (o:=.lst c.reverse) m (Ef j);exact k _ _ _ g R2 lQ
  ·cases b
 ·cases b
theorem Qf{X:Cx}{e:Expr}{j:MA}{n:Nat}{p k pos a:Zj}(hc:X.calm=b5)(d:X.mg "list"=aY) (g:X.mg "reversed"=aY) (h:QA X [e] j n)(b:Gl X "list") (c:Gl X "reversed") :
  QE X (.Call (.Name "list" p) [.Call (.Name "reversed" k) [e] [] a] [] pos) (aH m8 j):=by
 have i:=h.s;rw[YG,XG]at i;exact⟨c9 (Qd hc b d c g h.h (f6 i.1)) (yJ Qe)⟩
noncomputable def zU:MF:=zP
noncomputable def zV:MF:=zO
noncomputable abbrev bO:=List (List Int×Addr×V)
noncomputable def bQ(ps:bO)(ws:gq):List (List Int×Addr×Value):=a2F (λp w=>(p.1,p.2.1,w)) ps ws
theorem u4{P:Yk}{w:Yz}:∀(ps:bO)(ws:gq),a2F uF ps ws=(bQ ps ws).map (a7w (ZH (ZZ P w)))
 |[],_=>by simp[bQ]
 |p::ps,[]=>by simp[bQ]
 |p::ps,u::ws=>by have a:=u4 (P:=P) (w:=w) ps ws;unfold bQ at a ⊢;rw[YH,YH,XS,a];rfl
theorem l7:∀{ps:bO}{ws:gq},Vals (ps.map (·.2.2)) ws->(bQ ps ws).map (·.1)=ps.map (·.1)
 |[],_,_=>by simp[bQ]
 |p::ps,_,.cons r t=>by have a:=l7 (ps:=ps) t;unfold bQ at a ⊢;rw[YH,XS,XS,a]
theorem EG:∀{ps:bO}{ws:gq}{x:List Int×Addr×Value},x∈bQ ps ws->∃p∈ps,p.1=x.1/\p.2.1=x.2.1
 |[],_,x,h=>by simp[bQ]at h
 |p::ps,[],x,h=>by simp[bQ]at h
 |p::ps,u::ws,x,h=>by
  unfold bQ at h;rw[YH]at h;rcases Yi.mp h with e|h
  ·subst e;exact⟨p,X8 ..,rfl,rfl⟩
  ·obtain⟨q,a,e⟩:=EG (ps:=ps) (ws:=ws) h;exact⟨q,X7 _ a,e⟩
noncomputable def eI(ps:bO)(k:List Int):Option V:=(ps.find? λp=>decide (p.1=k)).map (·.2.2)
noncomputable def iO(ps:bO)(k:List Int)(b:Addr)(v:V):bO:=if(eI ps k).isSome then ps.map (λp=>if p.1=k then(p.1,p.2.1,v)else p)else ps++[(k,b,v)]
theorem m9:∀{ps:bO}{ws:gq},Vals (ps.map (·.2.2)) ws->∀k,RelO (eI ps k) ((a2Q (bQ ps ws) k).map (·.2))
 |[],_,.nil,k=>by simp[eI,bQ,a2Q];exact a1i
 |p::ps,_,.cons r t,k=>by
  have a:=m9 (ps:=ps) t k;unfold eI a2Q bQ at a ⊢;rw[YH,a0D,a0D];by_cases e:p.1=k
  ·simp only[e,decide_true];exact r
  ·simp only[e,decide_false];exact a
theorem zW(ps:bO)(k:List Int)(b:Addr)(v:V):(iO ps k b v).length<=ps.length+1:=by unfold iO;split<;>simp
theorem EH{k:List Int}{v:V}{u:Value}(d:RelV v u):∀{ps:bO}{ws:gq},Vals (ps.map (·.2.2)) ws->
  ∃a,Vals ((ps.map λp=>if p.1=k then(p.1,p.2.1,v)else p).map (·.2.2)) a/\(bQ ps ws).map (putAt k u)=bQ (ps.map λp=>if p.1=k then(p.1,p.2.1,v)else p) a
 |[],_,.nil=>⟨[],.nil,by simp[bQ]⟩|p::ps,_,.cons (b:=w) r t=>by
  obtain⟨a,c,b⟩:=EH d (ps:=ps) t;by_cases e:p.1=k
  ·refine⟨u::a,?_,?_⟩
   ·rw[XS,XS,if_pos e];exact .cons d c
   ·unfold bQ at b ⊢;rw[YH,XS,b,XS,if_pos e,YH];unfold putAt;rw[if_pos e]
  ·refine⟨w::a,?_,?_⟩
   ·rw[XS,XS,if_neg e];exact .cons r c
   ·unfold bQ at b ⊢;rw[YH,XS,b,XS,if_neg e,YH];unfold putAt;rw[if_neg e]
theorem EI{k:List Int}{b:Addr}{v:V}{u:Value}:∀{ps:bO}{ws:gq},Vals (ps.map (·.2.2)) ws->bQ ps ws++[(k,b,u)]=bQ (ps++[(k,b,v)]) (ws++[u])
 |[],_,.nil=>by simp[bQ]
 |p::ps,_,.cons r t=>by have a:=EI (k:=k) (b:=b) (v:=v) (u:=u) (ps:=ps) t;unfold bQ at a ⊢;rw[YH,a0a,a,a0a,a0a,YH]
theorem zX{ps:bO}{ws:gq}(r:Vals (ps.map (·.2.2)) ws)(k:List Int)(b:Addr){v:V}{u:Value}(c:RelV v u) :
  ∃a,Vals ((iO ps k b v).map (·.2.2)) a/\a7E (bQ ps ws) k b u=bQ (iO ps k b v) a:=by
 have e:=(m9 r k).isSome_eq;rw[a2f]at e;unfold iO a7E;rw[e];by_cases h:(a2Q (bQ ps ws) k).isSome=b5
 ·rw[if_pos h,if_pos h];exact EH c r
 ·rw[if_neg h,if_neg h];refine⟨ws++[u],?_,EI r⟩;rw[X4];exact a7z r c
section
variable{X:Cx}{a8T:jw}{σ:St}{H:Hp}{s:XD}{a:Addr}{ps:bO}
noncomputable def eJ(K:Xy)(H:Hp)(ps:bO):Prop:=∀p∈ps,SqT K H p.2.1 (p.1.map V.int)
theorem jJ(I:Inv X a8T σ H s)(e:Rd H a (aU a ps))(n:eJ X.K H ps):(a==YY)=b4/\ps.length<=XQ /\
  ∃b,Vals (ps.map (·.2.2)) b/\s.heap.DictOfH (ZH (ZZ X.prog X.w)) a (bQ ps b):=by
 obtain⟨⟨b,r,v,q,o,h,g,i,j,k,l,m⟩,_⟩:=(show ObjOk X.prog X.w H s.heap a (aU a ps)from e.ok I.hok);refine⟨v,q,b,r,o,h,g,i,j,k,by rw[l];exact u4 ps b,λx w=>?_,by rw[l7 r];exact m⟩;obtain⟨p,u,c,d⟩:=EG w;rw[<- c,<- d];exact kR I (n p u)
theorem u5{P:Yk}{w:Yz}{m:Hp}{h':YZ}{ws:gq}(l:(a==YY)=b4)(k:ps.length<=XQ)(r:Vals (ps.map (·.2.2)) ws)(d:h'.DictOfH (ZH (ZZ P w)) a (bQ ps ws)):ObjOk P w m h' a (aU a ps):=by obtain⟨o,e,c,b,g,h,i,_,j⟩:=d;refine⟨⟨ws,r,l,k,o,e,c,b,g,h,by rw[i,u4 (P:=P) (w:=w)],by rw[<- l7 r];exact j⟩,⟨o,b⟩,?_⟩;rintro p q ⟨ws,r,l,k,o,e,c,b,g,h,i,j⟩ n;exact⟨ws,r,l,k,o,e,c,n o b,g,h,i,j⟩
theorem Qg(I:Inv X a8T σ H s)(e:Rd H a (aU a ps))(b:eJ X.K H ps):s.TypeIs (.ref a) "dict":=by obtain⟨_,_,c,_,d⟩:=jJ I e b;exact d.typeIs
theorem nB{A:Yt}(b:A.units+1<Zk):(ZH (ZZ X.prog X.w)).room A.in1:=by show A.in1.units<Zk;rw[n6];lia
variable{A:Yt}{E:Value->XD->Prop}{b:Addr}{k:List Int}{v:V}
theorem Qh{Q:Value->XD->Prop}(o:A.units+1<Zk)(I:Inv X a8T σ H s)(e:Rd H a (aU a ps))(m:eJ X.K H ps)(l:SqT X.K H b (k.map V.int))(q:eI ps k=aX v)
  (h:∀c j,Inv X a8T σ H j->RelV v c->Q c j):X5 (Yg X.prog X.w) A (a5f (.ref a) (.ref b)) Q E s:=by
 obtain⟨x,w,u,r,d⟩:=jJ I e m;obtain⟨c,hw,i⟩:=RelO.some_of (v:=v) (o:=(a2Q (bQ ps u) k).map (·.2)) (by rw[<- q];exact m9 r k);obtain⟨p,n,g⟩:=XA.mp hw;refine wpAny_getItem_heap (nB o) (kR I l) d n ?_;rw[g];exact h c _ (I.tok _) i
theorem Qi{Q:Value->XD->Prop}(l:A.units+1<Zk)(I:Inv X a8T σ H s)(e:Rd H a (aU a ps))(i:eJ X.K H ps)(g:SqT X.K H b (k.map V.int))
  (h:∀c,Inv X a8T σ H c->Q (.bool (eI ps k).isSome) c):X5 (Yg X.prog X.w) A (YU .In (.ref b) (.ref a)) Q E s:=by
 obtain⟨j,m,n,r,d⟩:=jJ I e i;refine wpAny_in_heap (nB l) (kR I g) j d ?_;have q:=(m9 r k).isSome_eq;rw[a2f]at q;rw[<- q];exact h _ (I.tok _)
theorem Qj{Q:Value->XD->Prop}(l:A.units+1<Zk)(I:Inv X a8T σ H s)(e:Rd H a (aU a ps))(i:eJ X.K H ps)(g:SqT X.K H b (k.map V.int))
  (h:∀c,Inv X a8T σ H c->Q (.bool (!(eI ps k).isSome)) c):X5 (Yg X.prog X.w) A (YU .NotIn (.ref b) (.ref a)) Q E s:=by
 obtain⟨j,m,n,r,d⟩:=jJ I e i;refine a8l (nB l) (kR I g) j d ?_;have q:=(m9 r k).isSome_eq;rw[a2f]at q;rw[<- q];exact h _ (I.tok _)
theorem Qk{Q:Unit->XD->Prop}{u:Value}(x:A.units+1<Zk)(I:Inv X a8T σ H s)(e:H a=aX (aU a ps))(o:eJ X.K H ps)(m:SqT X.K H b (k.map V.int))(hz:ps.length<XQ)(B:RelV v u)
  (h:∀i,Inv X a8T σ (aP H a (aU a (iO ps k b v))) i->Q () i):X5 (Yg X.prog X.w) A (setItem (.ref a) (.ref b) u) Q E s:=by
 obtain⟨w,K,G,r,d⟩:=jJ I (.of e) o;have y:(bQ ps G).length<=XQ:=by have:=congrArg YF (l7 r);rw[Xx,Xx]at this;lia
 refine wpAny_setItem_heap (hsz:=y) (nB x) (kR I m) d λl c g=>h _ ?_;obtain⟨J,z,j⟩:=zX r k b B;rw[j]at c;have n:∃q,l.get? a=aX q:=let⟨q,_,_,p,_⟩:=c;⟨q,p⟩;exact xY I (by rw[e];exact a1i) g n (u5 w (by have:=zW ps k b v;lia) z c)
end
noncomputable def IsTs(K:Xy)(π:Nat->Addr)(n:Nat)(H:Hp):bO->jx->Prop:=a2w λp q=>p.1=q.1/\SqT K H p.2.1 (p.1.map V.int)/\IsD K π n H p.2.2 q.2
section
variable{K:Xy}{π:Nat->Addr}{n:Nat}{H:Hp}{μ:Hm}
theorem Ql{b:Addr}{k:List Int}(h:IsD K π n H (.ref b) (.tup (k.map D.int))):SqT K H b (k.map V.int):=by
 cases h with
 |tup q t=>rw[ints_of' t]at q;exact q
theorem IsTs.of:∀{ps:bO}{a:jx},ps.map (·.1)=a.map (·.1)->IsDs K π n H (ps.map λp=>V.ref p.2.1) (a.map λk=>D.tup (k.1.map D.int))->IsDs K π n H (ps.map (·.2.2)) (a.map (·.2))->IsTs K π n H ps a
 |[],[],_,_,_=>.nil|[],_::_,h,_,_=>by cases h
 |_::_,[],h,_,_=>by cases h
 |p::ps,q::a,h,h2,h3=>by
  cases h2 with
  |cons b c=>
   cases h3 with
   |cons d e=>rw[XS,XS,List.cons.injEq]at h;refine .cons ⟨h.1,?_,d⟩ (IsTs.of h.2 c e);rw[h.1];exact Ql b
theorem IsTs.keys:∀{ps:bO}{b:jx},IsTs K π n H ps b->eJ K H ps
 |_,_,.nil=>λp a=>nomatch a|_,_,.cons h t=>λp a=>by
  rcases Yi.mp a with e|a
  ·subst e;exact h.2.1
  ·exact IsTs.keys t p a
theorem IsTs.to:∀{ps:bO}{a:jx},IsTs K π n H ps a->ps.map (·.1)=a.map (·.1)/\IsDs K π n H (ps.map λp=>V.ref p.2.1) (a.map λk=>D.tup (k.1.map D.int))/\IsDs K π n H (ps.map (·.2.2)) (a.map (·.2))
 |_,_,.nil=>⟨rfl,.nil,.nil⟩|_,_,.cons (a:=p) (b:=q) h t=>by obtain⟨b,c,d⟩:=IsTs.to t;refine⟨by rw[XS,XS,h.1,b],.cons ?_ c,.cons h.2.2 d⟩;show IsD K π n H (.ref p.2.1) (.tup (q.1.map D.int));rw[<- h.1];exact .tup h.2.1 (zM p.1)
theorem IsTs.val(k:List Int):∀{ps:bO}{a:jx},IsTs K π n H ps a->(eI ps k=aY/\bV a k=aY)\/∃v d,eI ps k=aX v/\bV a k=aX d/\IsD K π n H v d
 |_,_,.nil=>.inl ⟨rfl,rfl⟩|_,_,.cons (a:=p) (b:=q) h t=>by
  have b:=IsTs.val k t;unfold eI bV at b ⊢;rw[a0D,a0D,<- h.1];by_cases e:p.1=k
  ·simp only[e,decide_true];exact .inr ⟨_,_,rfl,rfl,h.2.2⟩
  ·simp only[e,decide_false];exact b
theorem IsTs.put{ps:bO}{a:jx}(h:IsTs K π n H ps a)(k:List Int){b:Addr}{v:V}{d:D}(l:SqT K H b (k.map V.int))(j:IsD K π n H v d):IsTs K π n H (iO ps k b v) (dE a k d):=by
 have e:(eI ps k).isSome=(bV a k).isSome:=by rcases h.val k with⟨g,i⟩|⟨v,d,g,i,_⟩<;>rw[g,i]<;>rfl
 have c:∀{ps:bO}{a:jx},IsTs K π n H ps a->IsTs K π n H (ps.map λp=>if p.1=k then(p.1,p.2.1,v)else p) (a.map λp=>if p.1=k then(p.1,d)else p):=by
  intro ps a h;unfold IsTs at h;induction h with
  |nil=>exact .nil|@cons p q ps o h t m=>
   rw[XS,XS];refine .cons ?_ m;by_cases z:p.1=k
   ·rw[if_pos z,if_pos (h.1.symm.trans z)];exact⟨h.1,h.2.1,j⟩
   ·rw[if_neg z,if_neg λy=>z (h.1.trans y)];exact h
 unfold iO dE;rw[e];split
 ·exact c h
 ·exact a7z h ⟨rfl,l,j⟩
theorem f9{a:Nat}{b:jx}(R:Rp K π H μ)(h:μ[a]?=aX (.dT b)):∃ps,H (π a)=aX (aU (π a) ps)/\IsTs K π μ.length H ps b:=by obtain⟨ps,c,d,e,g⟩:=R.dT a b h;exact⟨ps,c,.of d e g⟩
theorem r9{a:Nat}{b:jx}(R:Rp K π H μ)(h:μ[a]?=aX (.dF b)):∃c ps,H (π a)=aX (.frz c (aU (π a) ps))/\IsTs K π μ.length H ps b:=by obtain⟨c,ps,d,e,g,i⟩:=R.dF a b h;exact⟨c,ps,d,.of e g i⟩
theorem kT{v:V}{x:D}{k:List Int}(h:IsD K π n H v x)(e:dR x=aX k):∃b,v=.ref b/\SqT K H b (k.map V.int):=by
 have:=Pn e;subst this;cases h with
 |tup q t=>rw[ints_of' t]at q;exact⟨_,rfl,q⟩
end
noncomputable def gA:ME:=λ_ a=>aX (.loc a.length,a++[.dT []])
section
variable{X:Cx}{pos:Zj}
theorem EJ{P:Yk}{w:Yz}{H:Hp}(h:YZ)(a:YY<h.objs.size):ObjOk P w H (h.push {cls:=.type "dict",data:=.dict #[]}) h.objs.size (aU h.objs.size []):=
 u5 (ws:=[]) (beq_eq_false_iff_ne.mpr (Yn (XU a))) (Yu _) .nil (a8C h)
noncomputable def Qm:TE:=λ_ H Q=>∀p,H p=aY->Q (.ref p) (aP H p (aU p []))
theorem Qn:PE X (.Dict [] [] pos) Qm:=λa8T s σ H Q I h=>wpAny_Dict_empty ⟨.ref s.heap.objs.size,_,I.laid (a:=s.heap.objs.size) (o:=aU s.heap.objs.size []) (t':=s.toks) (λ_ _ q=>XE _ q) (XJ _) (EJ s.heap I.big),rfl,h _ (I.hok.fresh (XJ _))⟩
theorem Qo:QE X (.Dict [] [] pos) gA:=⟨c9 Qn (by
 rintro m H Q ⟨j,l,i,d,g,R,E,c,k⟩ p e;cases c;obtain⟨b,a,h⟩:=R.alloc (c:=.dT []) (o:=aU p []) e ⟨[],rfl,rfl,.nil,.nil⟩;exact k _ _ _ b a lQ)⟩
end
noncomputable def sC:D->D->Hm->jk
 |.loc a,y,μ=>match μ[a]? with
  |some (.dT kvs)=>(dR y).bind λk=>(bV kvs k).map λd=>(d,μ)|some (.dF kvs)=>(dR y).bind λk=>(bV kvs k).map λd=>(d,μ)|_=>aY
 |_,_,_=>aY
section
variable{X:Cx}{a b e:Expr}{ma mb me:ME}{pos tpos:Zj}{td ty tv:TE}
noncomputable def EK(K:Xy):R2:=λx y H Q=>∃a b ps k v,x=.ref a/\y=.ref b/\Rd H a (aU a ps)/\eJ K H ps/\SqT K H b (k.map V.int)/\eI ps k=aX v/\Q v H
theorem Qp(z:X.A.units+1<Zk)(r:PE X a td)(hi:PE X b ty)(w:CL b):PE X (.Subscript a b pos) (λσ H Q=>td σ H λx d=>ty σ d λy g=>EK X.K x y g Q):=by intro c s σ H Q I h;refine Lk PySem.F.slot_dict_getitem.lookup w (aR (r c s σ H _ I h) λu L ⟨x,d,m,J,E⟩=>aR (hi c L σ d _ m E) λB N ⟨y,g,j,K,a,b,M,k,v,o,p,e,l,q,A,G⟩=>?_);subst o p;obtain rfl:u=XO a:=J;obtain rfl:B=XO b:=K;exact⟨Qg j e l,Qh z j e l q A λR O n i=>⟨v,g,n,i,G⟩⟩
theorem Qq{K:Xy}:dC K sC (EK K):=by
 intro u H J x y d E G I Q R r s c k;unfold sC at c;split at c
 ·split at c
  ·rename_i m hc;obtain⟨h,j,c⟩:=Xv.mp c;obtain⟨w,g,c⟩:=XA.mp c;cases c;cases r;obtain⟨n,i,T⟩:=f9 R hc;obtain⟨b,rfl,l⟩:=kT s j;rcases T.val h with⟨_,z⟩|⟨v,A,o,p,q⟩
   ·rw[z]at g;cases g
   ·rw[p]at g;cases g;exact⟨_,b,n,h,v,rfl,rfl,.of i,T.keys,l,o,k u _ H .refl R q⟩
  ·rename_i m hc;obtain⟨h,j,c⟩:=Xv.mp c;obtain⟨w,g,c⟩:=XA.mp c;cases c;cases r;obtain⟨B,n,i,T⟩:=r9 R hc;obtain⟨b,rfl,l⟩:=kT s j;rcases T.val h with⟨_,z⟩|⟨v,A,o,p,q⟩
   ·rw[z]at g;cases g
   ·rw[p]at g;cases g;exact⟨_,b,n,h,v,rfl,rfl,.inr ⟨B,i⟩,T.keys,l,o,k u _ H .refl R q⟩
  ·cases c
 ·cases c
theorem Qr{k:Nat}(g:Room k X.A)(c:QE X a ma)(d:QE X b mb)(h:jW b=b5):QE X (.Subscript a b pos) (aB sC ma mb):=⟨c9 (Qp (jV g) c.h d.h (DU h)) (rP Qq)⟩
end
section
variable{X:Cx}{o i e:Expr}{mo mi me:ME}{pos tpos:Zj}{td ty tv:TE}
noncomputable def Qs(K:Xy)(td ty tv:TE):TS:=λD σ H=>tv σ H λv d=>td σ d λx g=>ty σ g λy c=>∃a b ps k,x=.ref a/\y=.ref b/\c a=aX (aU a ps)/\eJ K c ps/\SqT K c b (k.map V.int)/\ps.length<XQ/\D.nx σ (aP c a (aU a (iO ps k b v)))
theorem Qt(G:X.A.units+1<Zk)(B:PE X o td)(hi:PE X i ty)(J:PE X e tv)(E:a1M e (aX (.Subscript o i tpos)) pos.line X.env=pure b4) :
  PS X (.Assign [.Subscript o i tpos] e pos) (Qs X.K td ty tv):=by
 intro c s d H D I h;refine a6i (aR (J c s d H _ I h) λr U ⟨v,g,l,Q,M⟩=>aR (B c U d g _ l M) λu Y ⟨x,j,m,R,N⟩=>aR (hi c Y d j _ m N) λL s3 ⟨y,Z,n,T,a,b,ps,k,q,w,e,A,z,K,O⟩=>?_) E;subst q w;obtain rfl:u=XO a:=R;obtain rfl:L=XO b:=T;exact Qk G n e A z K Q λs4 p=>⟨d,_,p,O⟩
theorem Qu{g:Nat}(hr:Room g X.A)(ho:QE X o mo)(hi:QE X i mi)(he:QE X e me)(h:kM e=b5):QS X (.Assign [.Subscript o i tpos] e pos) (oJ r6 mo mi me):=
 ⟨iI (Qt (LY hr) ho.h hi.h he.h (uQ h)) (by
 rintro E σ H ⟨π,J,μ,fl,ρ',μ',R,m,d,k⟩;obtain⟨⟨x,j⟩,h1,d⟩:=Xv.mp d;obtain⟨⟨y,l⟩,h2,d⟩:=Xv.mp d;obtain⟨⟨z,A⟩,h3,d⟩:=Xv.mp d;obtain⟨μ4,c,d⟩:=XA.mp d;cases d;refine⟨π,J,μ,x,j,R,m,h1,λB v1 H1 n O i1=>⟨B,J,j,y,l,O,m.mono n,h2,λG v2 H2 p R2 i2=>⟨G,J,l,z,A,R2,(m.mono n).mono p,h3,λI v3 H3 q K i3=>?_⟩⟩⟩;cases y with
 |loc a=>
  simp only[r6]at c;split at c
  ·rename_i v hc;obtain⟨g,h5,c⟩:=Xv.mp c;split at c
   ·rename_i hz;cases c;have u:=i2.mono q;cases u with
    |loc r=>
     obtain⟨w,M,T⟩:=f9 K hc;obtain⟨b,rfl,N⟩:=kT i3 h5;have hv:=(i1.mono p).mono q;have U:=T.put g N hv;obtain⟨Y,Z,g3⟩:=U.to;have s:w.length<XQ:=by have:=congrArg YF (T.to).1;rw[Xx,Xx]at this;lia
     refine⟨_,b,w,g,rfl,rfl,M,T.keys,N,s,?_⟩;obtain⟨L,Q⟩:=K.put (c:=.dT (dE v g x)) (o:=aU _ (iO w g b v1)) r M (.inr (.inr ⟨_,rfl⟩)) ⟨_,rfl,Y,Z,g3⟩;exact k I σ _ (((n.trans p).trans q).trans L) Q ((((m.mono n).mono p).mono q).mono L)
   ·cases c
  ·cases c
 |_=>simp[r6]at c)⟩
end
noncomputable def sD(b:Bool):D->D->Hm->jk
 |x,.loc a,μ=>match μ[a]? with
  |some (.dT kvs)=>(dR x).map λk=>(.bl (if b then !(bV kvs k).isSome else(bV kvs k).isSome),μ)|some (.dF kvs)=>(dR x).map λk=>(.bl (if b then !(bV kvs k).isSome else(bV kvs k).isSome),μ)|_=>aY
 |_,_,_=>aY
noncomputable def zY(K:Xy)(c:Bool):R2:=λx y H Q=>∃a b ps k,x=.ref b/\y=.ref a/\Rd H a (aU a ps)/\eJ K H ps/\SqT K H b (k.map V.int)/\Q (.bl (if c then !(eI ps k).isSome else(eI ps k).isSome)) H
theorem EL{X:Cx}(j:X.A.units+1<Zk):OpR X (YU .In) (zY X.K b4):=by intro d s p H x y v u Q I l m h;obtain⟨a,b,n,k,rfl,rfl,e,i,g,q⟩:=h;obtain rfl:v=XO b:=l;obtain rfl:u=XO a:=m;exact Qi j I e i g λo c=>⟨.bl _,H,c,rfl,q⟩
theorem EM{X:Cx}(j:X.A.units+1<Zk):OpR X (YU .NotIn) (zY X.K b5):=by intro d s p H x y v u Q I l m h;obtain⟨a,b,n,k,rfl,rfl,e,i,g,q⟩:=h;obtain rfl:v=XO b:=l;obtain rfl:u=XO a:=m;exact Qj j I e i g λo c=>⟨.bl _,H,c,rfl,q⟩
theorem u6{K:Xy}{j:Bool}:dC K (sD j) (zY K j):=by
 intro q H z x y d s u w Q R o p a k;unfold sD at a;split at a
 ·split at a
  ·rename_i h hc;obtain⟨g,c,a⟩:=XA.mp a;cases a;cases p;obtain⟨l,m,T⟩:=f9 R hc;obtain⟨b,rfl,n⟩:=kT o c;have e:(eI l g).isSome=(bV h g).isSome:=by rcases T.val g with⟨c,i⟩|⟨v,d,c,i,_⟩<;>rw[c,i]<;>rfl
   refine⟨_,b,l,g,rfl,rfl,.of m,T.keys,n,?_⟩;rw[e];exact k q _ H .refl R (.bl _)
  ·rename_i h hc;obtain⟨g,c,a⟩:=XA.mp a;cases a;cases p;obtain⟨r,l,m,T⟩:=r9 R hc;obtain⟨b,rfl,n⟩:=kT o c;have e:(eI l g).isSome=(bV h g).isSome:=by rcases T.val g with⟨c,i⟩|⟨v,d,c,i,_⟩<;>rw[c,i]<;>rfl
   refine⟨_,b,l,g,rfl,rfl,.inr ⟨r,m⟩,T.keys,n,?_⟩;rw[e];exact k q _ H .refl R (.bl _)
  ·cases a
 ·cases a
section
variable{X:Cx}{a b:Expr}{ma mb:ME}{pos:Zj}
end
noncomputable def RawD(h:YZ)(d:Addr)(es:Array DictEntry)(ep:Nat):Prop:=∃z,h.get? d=aX z/\z.ExactDict/\z.data=.dict es ep
theorem RawD.ty{s:XD}{d:Addr} {es ep} (g:RawD s.heap d es ep):s.TypeIs (.ref d) "dict":=let⟨z,a,b,_⟩:=g;⟨z,a,b.1⟩
theorem RawD.stay{h h':YZ}{d:Addr} {es ep} (g:RawD h d es ep)(k:∀o,h.get? d=aX o->h'.get? d=aX o):RawD h' d es ep:=let⟨z,a,b⟩:=g;⟨z,k z a,b⟩
theorem RawD.lt{h:YZ}{d:Addr} {es ep} (g:RawD h d es ep):d<h.objs.size:=let⟨_,a,_⟩:=g;XN a
section
variable{P:Yk}{w:Yz}{A:Yt}{E:Value->XD->Prop}{s:XD}{d it:Addr}{i ep:Nat}{es:Array DictEntry}
theorem zZ{Q:Value->XD->Prop}(lo:(d==YY)=b4)(g:RawD s.heap d es ep)
  (q:Q (.ref s.heap.objs.size) {s with heap:=s.heap.push {cls:=.type "dict_keyiterator",data:=.fields #[.ref d,.int 0 0,.int es.size 0,.int ep 0]}}):X5 (Yg P w) A (a2H (.ref d)) Q E s:=by
 obtain⟨z,a,c,b⟩:=id g;refine a4e g.ty F.slot_dict_iter (Ze F.slot_dict_iter g.ty F.entry_dict_iter ?_ (F.args_dict_iter_1 _));unfold Builtin.«dict.__iter__» a8G;refine Xw (Xw (a0i g.ty ?_));show X5 _ _ (pure (XO d)) _ _ _;refine XC ?_;show X5 _ _ (ZO d >>= _) _ _ _;unfold ZO;rw[if_neg (λx=>X9 (lo.symm.trans x))];refine Xw (XC (Xw (Zf a b (Xw (a0n a b (Xw (Y4 (XC ?_))))))));exact⟨_,rfl,"dict_keyiterator",_,⟨_,XT _ rfl,rfl⟩,F.slot_dict_keyiterator_next.lookup,by simpa[a1k]using q⟩
theorem u7{Q:Option Value->XD->Prop}(o:A.handled=aY)(j:s.heap.IsKeyIter it d i es.size ep)(g:RawD s.heap d es ep)
  (r:∀e a,es[i]?=aX e->a.IsKeyIter it d (i+1) es.size ep->a0k it s.heap a->Q (aX e.key) {s with heap:=a})
  (v:es[i]?=aY->∀a,a2p it s.heap a->Q aY {s with heap:=a}):X5 (Yg P w) A (a1q (.ref it)) Q E s:=by
 obtain⟨y,c,p,b⟩:=id j;obtain⟨z,l,B,m⟩:=id g;have k:∀{Q:String->XD->Prop}{A:Yt}{E:Value->XD->Prop},Q "dict_keyiterator" s->X5 (Yg P w) A (a4Y (.ref it)) Q E s:=λq=>wpAny_typeNameOfWhole_keyiter j.typeIs q;unfold a1q;refine Xw (a5N (a2P (name:=Zg "__next__") j.typeIs F.slot_dict_keyiterator_next (Ze F.slot_dict_keyiterator_next j.typeIs F.entry_dict_keyiterator_next ?_ (F.args_dict_keyiterator_next_1 _))));refine Xw (XC (Xw (Xw (Xw (k (XC (Xw (a5m c b ?_))))))));simp only[show ZS "dict_keyiterator"=b4 by decide,Yb,if_false];show X5 _ _ (if(XO d==Zm)=b5 then _ else _) _ _ _;rw[if_neg (show ¬ (XO d==Zm)=b5 from λx=>X9 x)];refine Xw (XC (Xw (Zf l m ?_)));rw[if_neg (λx=>by simp at x)];refine Xw (XC (Xw (a0n l m ?_)));rw[if_neg (λx=>by simp at x)];refine XC ?_;simp only[if_neg (show ¬ ((i:Int)<0) by lia),a1t];cases n:es[i]? with
 |some e=>
  refine Xw (Xw (k (XC (Xw (a6G j.typeIs ?_)))));show X5 _ _ (a4h (.ref it) 1 (a1k ((i:Int)+1)) >>= _) _ _ _;refine Xw (a2t c b (by simp) ?_);have h:(s.heap.update it (a3q (·.setIfInBounds 1 (a1k ((i:Int)+1))))).IsKeyIter it d (i+1) es.size ep:=
   ⟨_,Zd _ c (a5I (a2g b _)),(a6K ..).trans p,by simp[a2g b,a1k]⟩
  generalize hu:s.heap.update it (a3q (·.setIfInBounds 1 (a1k ((i:Int)+1))))=u at h;refine Xw (YI (Xw (a6G (s:={s with heap:=u}) h.typeIs ?_)));show X5 _ _ (pure e.key) _ _ _;exact XC (XC ⟨_,rfl,XC (r e u n h (hu▸ZI ..))⟩)
 |none=>refine Xw (Xw (k (XC ?_)));show X5 _ _ (a4h (.ref it) 0 .none >>= _) _ _ _;refine Xw (a2t c b (by simp) ?_);show X5 _ _ (a6m (.type "StopIteration") [] >>= _) _ _ _;simp only[a6m,a8N];refine Xw (Xw (Y4 ?_ (by size_fits)));refine Xw (m:=a1A _ _) (a3t (a:=Zm) (by first|rfl|(simp only[a1A];rfl)) (Y4 ?_ (by size_fits)));simp only[a8M];refine Xw (a5L ?_);rw[show A.in1.handled=aY from o];refine Xw (XC (a6U ?thrown));case thrown=>exact Xw (a0A (T:="StopIteration") (b:=b5) ⟨_,XT _ rfl,rfl⟩ a5p (XC (v n _ (((ZI ..).extBut.push _).push _))))
theorem EO(m:A.handled=aY)(l:d≠it)(es:Array DictEntry)(ep:Nat):Walks P w A it [it,d] [it] es.size (λi v=>∃e,es[i]?=aX e/\v=e.key) (λi h=>h.IsKeyIter it d i es.size ep/\RawD h d es ep) where
 sub:=λb a=>by rw[XX.mp a];exact X8 ..
 frame:=λ_ _ _ st k=>⟨st.1.at λo e=>k it (by simp) o e,st.2.stay λo e=>k d (by simp) o e⟩
 item:=λi s Q E hi st q=>u7 m st.1 st.2 (λe j c p n=>q _ j s.toks ⟨e,c,rfl⟩ ⟨p,st.2.stay λo g=>n.extBut d o l g⟩ λb o a g=>n.extBut b o (λz=>a (by simp[z])) g) (λc=>by simp at c;lia)
 done:=λs Q E st q=>u7 m st.1 st.2 (λe j c=>by simp at c) (λ_ j x=>q j s.toks λb o a g=>x b o (λz=>a (by simp[z])) g)
 self:=λ_ _ _ _ st q=>a6V st.1 q
theorem ER(lo:(d==YY)=b4):PySem.W.KdlSrc P w "dict" d d es.size (λi v=>∃e,es[i]?=aX e/\v=e.key) (λh=>RawD h d es ep) where
 type:=λ_ g=>g.ty
 there:=λ_ g=>⟨g.lt,g.lt⟩
 keep:=λ_ _ g k=>g.stay λo e=>k d (.inl rfl) o e
 notList:=by decide
 notTuple:=by decide
 hint:=λ_ _ _ _ g q=>PySem.W.kdl_hint_dict g.ty q
 iter:=λ_ _ a g=>⟨_,_,(λ_ _ q=>zZ lo g q),EO a (XU g.lt) es ep,⟨⟨_,XT _ rfl,rfl,rfl⟩,g.stay λo e=>XE _ e⟩⟩
theorem Qv(lo:(d==YY)=b4):a7L P w (Builtin.«dict.__len__» ⟨[.ref d],[]⟩) (λ_ R s=>∃es ep,RawD s.heap d es ep/\R (.ok (.ret (.int (es.size:Nat) s.toks))) {s with toks:=s.toks+1}):=
 .of_wp λA R s ⟨es,ep,⟨z,a,c,b⟩,q⟩=>by show X5 _ _ (dictSize d >>= _) _ _ _;unfold dictSize;refine Xw (Xw (Zf a b (XC ?_)));show X5 _ _ (a8E d >>= _) _ _ _;refine Xw (wpAny_pendingCount_other lo (wpAny_ret_mkInt ?_));rw[a8b];exact q
theorem Qw{Q:Value->XD->Prop}(lo:(d==YY)=b4)(g:RawD s.heap d es ep)(hz:es.size<=XQ)(q:Q (.int (es.size:Nat) (s.toks+1)) {s with toks:=s.toks+1+1}):X5 (Yg P w) A (call (.builtin "len") [.ref d]) Q E s:=
 a8s g.ty F.slot_dict_len (λb a=>a2m F.slot_dict_len g.ty F.entry_dict_len (F.args_dict_len_1 _) (Qv lo) ⟨es,ep,g,a⟩) (by lia) (by rw[X2]at hz;lia) q
end
theorem z7:∀{ps:bO}{ws:gq},Vals (ps.map (·.2.2)) ws->(bQ ps ws).map (λx=>XO x.2.1)=ps.map λp=>XO p.2.1
 |[],_,_=>by simp[bQ]
 |p::ps,_,.cons r t=>by have a:=z7 (ps:=ps) t;unfold bQ at a ⊢;rw[YH,XS,XS,a]
theorem ES:∀ps:bO,Vals (ps.map λp=>V.ref p.2.1) (ps.map λp=>XO p.2.1)
 |[]=>.nil|p::ps=>.cons rfl (ES ps)
section
variable{X:Cx}{a8T:jw}{σ:St}{H:Hp}{s:XD}{a:Addr}{ps:bO}
theorem pX(I:Inv X a8T σ H s)(e:H a=aX (aU a ps))(h:eJ X.K H ps):(a==YY)=b4/\ps.length<=XQ/\∃es ep,RawD s.heap a es ep/\es.toList.map (·.key)=ps.map λp=>XO p.2.1:=by obtain⟨j,i,k,r,z,es,ep,b,c,d,g,_⟩:=jJ I (.of e) h;refine⟨j,i,es,ep,⟨z,b,c,d⟩,?_⟩;rw[g,Yc,<- z7 r];rfl
noncomputable def ET(K:Xy):gw->Hp->VK->Prop:=λxs H Q=>∃a ps,xs=[V.ref a]/\H a=aX (aU a ps)/\eJ K H ps/\Q (.int ps.length) H
theorem Qx:CallR X (.builtin "len") (ET X.K):=by
 intro a8T s σ H o n Q I r h;obtain⟨a,ps,rfl,c,e,q⟩:=h;obtain⟨u,rfl,k⟩:=fY r;cases k;obtain⟨j,m,b,l,g,d⟩:=pX I c e;have i:b.size=ps.length:=by have:=congrArg YF d;simpa using this
 refine Qw j g (by lia) ?_;rw[i];exact⟨.int ps.length,H,(I.tok _).tok _,⟨_,rfl⟩,q⟩
noncomputable def EU(K:Xy):gw->Hp->VK->Prop:=λxs H Q=>∃a ps,xs=[V.ref a]/\H a=aX (aU a ps)/\eJ K H ps/\∀l,H l=aY->Q (.ref l) (aP H l (.lst (ps.map λp=>V.ref p.2.1)))
theorem Qy(hc:X.calm=b5):CallR X (.type "list") (EU X.K):=by
 intro a8T s σ H N M Q I r h;obtain⟨a,ps,rfl,x,y,q⟩:=h;obtain⟨u,rfl,E⟩:=fY r;cases E;obtain⟨B,z,m,J,g,d⟩:=pX I x y;have L:m.size=ps.length:=by have:=congrArg YF d;simpa using this
 refine PySem.W.kdl_call (ER B) (I.ok.hd hc) g (by lia) λK G b k A w c=>?_;refine⟨.ref s.heap.objs.size,_,I.laid (t':=G) (a:=s.heap.objs.size) (o:=.lst (ps.map λp=>V.ref p.2.1)) A (XJ _) ?_,rfl,q _ (I.hok.fresh (XJ _))⟩;refine⟨by rw[Xx];exact z,b.toList,k,?_,by simpa using w⟩;have l:b.toList=ps.map λp=>XO p.2.1:=by
  rw[<- d];refine a1o λi=>?_;rw[XR,YW,YW];cases j:b[i]? with
  |some v=>obtain⟨e,n,o⟩:=c.2 i v j;rw[n,o];rfl|none=>
   have:b.size<=i:=by simpa using j
   rw[a2C (by rw[<- c.1];exact this)];rfl
 rw[l];exact ES ps
end
section
variable{X:Cx}{a b o i e:Expr}{ma mb mo mi me:ME}{pos tpos:Zj}{k:Nat}
theorem Qz(l:Room k X.A)(g:QE X a ma)(j:QE X b mb)(h:jW b=b5):QE X (.Subscript a b pos) (aB aJ ma mb):=
 oD (Qr l g j h) (Od g j h) (iM λx y m r c=>by
  unfold aJ at c;split at c
  ·split at c
   ·rename_i d hc;refine .inl ?_;simp only[sC,hc];exact c
   ·rename_i d hc;refine .inl ?_;simp only[sC,hc];exact c
   ·exact .inr c
  ·exact .inr c)
noncomputable def pY(c:Bool):D->D->Hm->jk:=λx y d=>match sD c x y d with
 |some r=>aX r|none=>kP c x y d
theorem u9{c:Bool}(x y:D)(d:Hm)(r:D×Hm)(h:pY c x y d=aX r):sD c x y d=aX r\/kP c x y d=aX r:=by
 unfold pY at h;split at h
 ·rename_i z;rw[z];exact .inl h
 ·exact .inr h
theorem EV{g:Bool}(x y:D)(l:Hm)(r:D×Hm)(h:cB g x y l=aX r):(∃i j,x=.str i/\y=.str j)\/pY g x y l=aX r:=by
 cases y with
 |loc a=>
  refine .inr ?_;have e:cB g x (.loc a) l=(match l[a]? with
   |some (.dT d)=>(dR x).map λk=>(D.bl (if g then !(bV d k).isSome else(bV d k).isSome),l)|some (.dF d)=>(dR x).map λk=>(D.bl (if g then !(bV d k).isSome else(bV d k).isSome),l)
   |_=>kP g x (.loc a) l):=by cases x<;>rfl
  rw[e]at h;unfold pY;simp only[sD];cases hc:l[a]? with
  |none=>rw[hc]at h;exact h|some c=>
   rw[hc]at h;cases c with
   |dT d=>dsimp only at h ⊢;rw[h]|dF d=>dsimp only at h ⊢;rw[h]|_=>exact h
 |str j=>
  cases x with
  |str i=>exact .inl ⟨i,j,rfl,rfl⟩|_=>exact .inr h
 |_=>cases x<;>exact .inr h
theorem EW(x y:D)(c:Hm)(r:D×Hm)(h:cB b4 x y c=aX r):yY x y c=aX r\/pY b4 x y c=aX r:=by
 rcases EV x y c r h with⟨i,j,rfl,rfl⟩|z
 ·exact .inl h
 ·exact .inr z
theorem EX(x y:D)(c:Hm)(r:D×Hm)(h:cB b5 x y c=aX r):zH x y c=aX r\/pY b5 x y c=aX r:=by
 rcases EV x y c r h with⟨i,j,rfl,rfl⟩|z
 ·exact .inl h
 ·exact .inr z
theorem QC(g:Room k X.A)(c:QE X a ma)(d:QE X b mb)(h:gO b=b5):QE X (.Compare a [.In] [b] pos) (aB (cB b4) ma mb):=
 oD ⟨fG Cv DI c.h d.h (jG h)⟩ (oD ⟨fG (EL (jV g)) u6 c.h d.h (jG h)⟩ ⟨fG (D6 (uU g)) uS c.h d.h (jG h)⟩ (iM u9)) (iM EW)
theorem QD(g:Room k X.A)(c:QE X a ma)(d:QE X b mb)(h:gO b=b5):QE X (.Compare a [.NotIn] [b] pos) (aB (cB b5) ma mb):=
 oD ⟨fG CW D8 c.h d.h (jG h)⟩ (oD ⟨fG (EM (jV g)) u6 c.h d.h (jG h)⟩ ⟨fG (D7 (uU g)) uS c.h d.h (jG h)⟩ (iM u9)) (iM EX)
theorem vA(g:Room k X.A)(c:QE X a ma)(d:QE X b mb)(h:gO b=b5):QT X (.Compare a [.In] [b] pos) (aV (aB (cB b4) ma mb)):=
 pO ⟨fH Cv DI c.h d.h (jG h)⟩ (pO ⟨fH (EL (jV g)) u6 c.h d.h (jG h)⟩ ⟨fH (D6 (uU g)) uS c.h d.h (jG h)⟩ (pP (iM u9))) (pP (iM EW))
theorem QF(g:Room k X.A)(c:QE X a ma)(d:QE X b mb)(h:gO b=b5):QT X (.Compare a [.NotIn] [b] pos) (aV (aB (cB b5) ma mb)):=
 pO ⟨fH CW D8 c.h d.h (jG h)⟩ (pO ⟨fH (EM (jV g)) u6 c.h d.h (jG h)⟩ ⟨fH (D7 (uU g)) uS c.h d.h (jG h)⟩ (pP (iM u9))) (pP (iM EX))
theorem QH(j:Room k X.A)(g:QE X o mo)(hi:QE X i mi)(d:QE X e me)(h:kM e=b5):QS X (.Assign [.Subscript o i tpos] e pos) (dN mo mi me):=
 PU (Qu j g hi d h) (PY g hi d h) (P4 λx y z l r c=>by
  unfold oK at c;split at c
  ·split at c
   ·exact .inl c
   ·exact .inr c
  ·cases c)
end
noncomputable def z8(K:Xy)(a b:Addr):It:=
 ⟨λi H=>∃c d x y,SqL K H a c/\SqL K H b d/\c[i]?=aX x/\d[i]?=aX y,
   λi H z e=>∃p v u,z=.ref p/\H p=aY/\e=aP H p (.tup [v,u])/\(∀c,SqL K H a c->c[i]?=aX v)/\∀d,SqL K H b d->d[i]?=aX u,
   λi H=>∃c d,SqL K H a c/\SqL K H b d/\(c.length<=i\/d.length<=i)⟩
theorem QK{P:Yk}{w:Yz}{K:Xy}{es:List Expr}{kx:Nat}{pt:Zj}{a b z n to l m:Addr}(A:ZipApart z n to l m a b) :
  Turn Qc P w K (.Tuple es kx pt) (z8 K a b) [z,n,to,l,m] z (λi h=>IsZip h z n to .none/\IsPair h n (.ref l) (.ref m)/\(∃u v,IsPair h to u v)/\h.IsListIter l a i/\h.IsListIter m b i) where
 mem:=by simp
 obj:=λi h ⟨r,B,⟨u,v,J⟩,L,M⟩ c hc=>by
  have hc':c=z\/c=n\/c=to\/c=l\/c=m:=by simpa using hc
  rcases hc' with rfl|rfl|rfl|rfl|rfl
  ·exact⟨_,r,λq e=>by
    have R:YR _=a3b q:=e;cases R⟩
  ·exact⟨_,B,λq e=>by
    have R:a5K _ _=a3b q:=e;cases R⟩
  ·exact⟨_,J,λq e=>by
    have R:a5K _ _=a3b q:=e;cases R⟩
  ·obtain⟨o,e1,c,d⟩:=L;exact⟨o,e1,λv e=>by rw[d]at e;cases e⟩
  ·obtain⟨o,e1,c,d⟩:=M;exact⟨o,e1,λv e=>by rw[d]at e;cases e⟩
 keep:=λi h h' ⟨r,B,⟨u,v,J⟩,L,M⟩ k=>⟨k z (by simp) _ r,k n (by simp) _ B,⟨u,v,k to (by simp) _ J⟩,L.at λo e=>k l (by simp) o e,M.at λo e=>k m (by simp) o e⟩;item:=by
  intro X hP hw hK hc i Z s σ H E I U ⟨r,B,⟨u,v,J⟩,L,M⟩ hg;subst hP hw hK;obtain⟨xs,ys,x,y,Y,G,Q,hy⟩:=hg;obtain⟨its,rv,p,hz⟩:=I.list Y;obtain⟨T,N,p2,hz2⟩:=I.list G;obtain⟨u1,jV,ru1⟩:=rv.get Q;obtain⟨u2,hu2,ru2⟩:=N.get hy;refine wpAny_pyNext_zip_item A r B J L M p.isList p2.isList (x:=u1) (y:=u2) (by simpa using jV) (by simpa using hu2) λh1 a1 a2 a3 a4 a5 a6 hk=>⟨_,rfl,wpAny_letOwnedTupleGo_zip a1 λh2 b1 j=>?_⟩;have ne:∀{c o},s.heap.get? c=aX o->s.heap.objs.size≠c:=λe=>YT (XN e);have l4:∃o,s.heap.get? l=aX o:=let⟨o,e,_⟩:=L;⟨o,e⟩;have l5:∃o,s.heap.get? m=aX o:=let⟨o,e,_⟩:=M;⟨o,e⟩;have ht2:h2.get? s.heap.objs.size=aX {cls:=.type "tuple",data:=.seq #[u1,u2]}:=(j.2 _ (ne r)).trans a5;have hfr:H s.heap.objs.size=none:=I.hok.fresh (XJ _);have g2':IsPair h2 n (.ref l) (.ref m):=(j.2 _ A.TIz).trans (hk _ _ A.TIz A.TITO A.TIi1 A.TIi2 B);refine⟨.ref s.heap.objs.size,aP H s.heap.objs.size (.tup [x,y]),?_,rfl,⟨s.heap.objs.size,x,y,rfl,hfr,rfl,λws hw=>by rw[I.list_inj hw Y];exact Q,λws hw=>by rw[I.list_inj hw G];exact hy⟩,
   ⟨b1,g2',⟨_,_,(j.2 _ A.TOz).trans a2⟩,a3.extBut j.extBut A.i1z,a4.extBut j.extBut A.i2z⟩,λc O=>?_⟩
  ·refine zQ (s:=s) (h':=h2) (t':=s.toks) (ch:=[z,n,to,l,m]) I (λc oc O ec=>?_) U (XJ _) ?_
   ·have g:c≠z/\c≠n/\c≠to/\c≠l/\c≠m:=by simpa using O
    exact(j.2 c g.1).trans (hk c oc g.1 g.2.2.1 g.2.2.2.1 g.2.2.2.2 ec)
   ·exact⟨by show(2:Nat)<=XQ;decide,[u1,u2],.cons ru1 (.cons ru2 .nil),_,ht2,rfl,0,rfl,rfl⟩
  ·have g:c=z\/c=n\/c=to\/c=l\/c=m:=by simpa using O
   have hn:=(U c O).1;rw[bM]
   ·exact hn
   ·rcases g with rfl|rfl|rfl|rfl|rfl
    ·exact(ne r).symm
    ·exact(ne B).symm
    ·exact(ne J).symm
    ·exact(ne l4.choose_spec).symm
    ·exact(ne l5.choose_spec).symm
 done:=by
  intro X hP hw hK hc i Z s σ H E I U ⟨r,B,⟨u,v,J⟩,L,M⟩ hg;subst hP hw hK;obtain⟨xs,ys,Y,G,Q⟩:=hg;obtain⟨its,rv,p,hz⟩:=I.list Y;obtain⟨T,N,p2,hz2⟩:=I.list G;have hl:=rv.length;have hl2:=N.length;refine wpAny_pyNext_zip_end (I.ok.hd hc) A r B J L M p.isList p2.isList ?_ λh' eb=>⟨rfl,EA (t':=s.toks) (ch:=[z,n,to,l,m]) I (λc o O e=>?_) U⟩
  ·rcases Q with Q|Q
   ·exact .inl (by simp;lia)
   ·exact .inr (by simp;lia)
  ·have g:c≠z/\c≠n/\c≠to/\c≠l/\c≠m:=by simpa using O
   exact eb c o g.1 g.2.2.1 g.2.2.2.1 g.2.2.2.2 e
 self:=λ_ _ _ _ _ ⟨r,_⟩ h=>a7P r h
noncomputable def oM(x y:D):iC:=λa i=>(bK a x).bind λxs=>(bK a y).map λb=>(xs[i]?).bind λd=>(b[i]?).map λe=>.tup [d,e]
noncomputable def sE(a:MA):MI:=λe d=>(a e d).bind λp=>match p.1 with
 |[x,y]=>(fS p.2 x).bind λb=>(fS p.2 y).map λc=>(oM x y,min b.length c.length+1,p.2)|_=>aY
theorem EY{K:Xy}{π:Nat->Addr}{j:Hm}{H:Hp}{v:V}{x:D}{xs:List D}(R:Rp K π H j)(h:IsD K π j.length H v x)(k:fS j x=aX xs):∃p,v=.ref p/\(∃vs,SqL K H p vs) /\
  ∀c a d,Ext π j.length H c a.length d->Rp K c d a->∀i,bK a x=aX i->∃g,SqL K d p g/\IsDs K c a.length d g i:=by
 obtain⟨p,vs,rfl,r,_⟩:=oH R h k;refine⟨p,rfl,⟨vs,r⟩,λc a d e m i l=>?_⟩;have q:fS a x=aX i:=by
  cases x with
  |rol w=>exact l|loc b=>exact l|_=>cases k
 obtain⟨u,g,o,s,n⟩:=oH m (h.mono e) q;cases o;exact⟨g,s,n⟩
theorem QL{K:Xy}{π:Nat->Addr}{l:Hm}{H:Hp}{v U:V}{x y:D}{xs ys:List D}(R:Rp K π H l)(h:IsD K π l.length H v x)(h':IsD K π l.length H U y)(hs:fS l x=aX xs)(B:fS l y=aX ys) :
  ∃a b,v=.ref a/\U=.ref b/\(∃I,SqL K H a I)/\(∃I,SqL K H b I)/\Wk K (z8 K a b) (oM x y) π l.length H:=by
 obtain⟨a,rfl,qa,N⟩:=EY R h hs;obtain⟨b,rfl,qb,O⟩:=EY R h' B;refine⟨a,b,rfl,rfl,qa,qb,λg c m i e j z=>?_,λg c m i d e j z=>?_⟩
 ·obtain⟨n,w,z⟩:=Xv.mp z;obtain⟨bs,A,z⟩:=XA.mp z;obtain⟨r,o,s⟩:=N g c m e j n w;obtain⟨q,p,u⟩:=O g c m e j bs A;refine⟨r,q,o,p,?_⟩;rw[s.length,u.length];cases J:n[i]? with
  |none=>exact .inl (Yy.mp J)|some d=>
   cases k:bs[i]? with
   |none=>exact .inr (Yy.mp k)|some d'=>rw[J,k]at z;cases z
 ·obtain⟨n,w,z⟩:=Xv.mp z;obtain⟨bs,A,z⟩:=XA.mp z;obtain⟨Z,h3,z⟩:=Xv.mp z;obtain⟨d2',h4,h5⟩:=XA.mp z;subst h5;obtain⟨r,o,s⟩:=N g c m e j n w;obtain⟨q,p,u⟩:=O g c m e j bs A;obtain⟨X,L,k1⟩:=s.get h3;obtain⟨Y,M,k2⟩:=u.get h4;refine⟨⟨r,q,X,Y,o,p,L,M⟩,?_⟩;rintro y H2 ⟨t,v1,v2,rfl,hn,rfl,E,G⟩;have Q:=E r o;have T:=G q p;rw[L]at Q;rw[M]at T;cases Q;cases T;obtain⟨k,R2⟩:=j.fresh (o:=.tup [X,Y]) hn;exact⟨k,R2,.tup (.of cX) (.cons (k1.mono k) (.cons (k2.mono k) .nil))⟩
noncomputable def QM(K:Xy)(d:TA):TI:=λσ H R=>d σ H λvs c=>∃a b,vs=[.ref a,.ref b]/\(∃xs,SqL K c a xs)/\(∃e,SqL K c b e)/\R (z8 K a b) c
open PyProof.Rows in
theorem QN{X:Cx}{a b:Expr}{z:TA}{p pos pt:Zj}{es:List Expr}{kx:Nat}(O:Gl X "zip") (T:X.mg "zip"=aY) (N:PA X [a,b] z)(Y:Yr [a,b] X.env=(b4,eval a X.env)::Yr [b] X.env)(o:(a0l pos (Yr [b] X.env)).any (·.1)=b4) :
  PI X (.Tuple es kx pt) (.Call (.Name "zip" p) [a,b] [] pos) (QM X.K z):=by
 intro i s A H R I h;refine Call_ (iY I O T Boot.«zip» (Zi (aR (N pos i s A H _ I h) λus d ⟨vs,v,g,r1,q1⟩=>?_) Y o));obtain⟨l,m,rfl,⟨ws,U⟩,⟨ws2,n⟩,q⟩:=q1;cases r1 with
 |cons ru r=>
  cases r with
  |cons u r=>
   cases r;cases ru;cases u;obtain⟨its,rv,y,hz⟩:=g.list U;obtain⟨x,rv2,k,hz2⟩:=g.list n;have la:l<d.heap.objs.size:=let⟨_,e,_⟩:=y.isList;XN e;have lb:m<d.heap.objs.size:=let⟨_,e,_⟩:=k.isList;XN e;refine call_zip_2 y.isList k.isList λM w G J K L Z Q=>a7P w ?_;have B:Inv X i A v {d with heap:=M}:=g.kept (t':=d.toks) Q;have E:ZipApart (d.heap.objs.size+4) (d.heap.objs.size+2) (d.heap.objs.size+3) d.heap.objs.size (d.heap.objs.size+1) l m:=by have la':@LT.lt Nat _ l d.heap.objs.size:=la;have lb':@LT.lt Nat _ m d.heap.objs.size:=lb;constructor<;>(show @Ne Nat _ _;lia)
   refine⟨d.heap.objs.size+4,[d.heap.objs.size+4,d.heap.objs.size+2,d.heap.objs.size+3,d.heap.objs.size,d.heap.objs.size+1],_,_,v,rfl,B,QK E,⟨w,G,⟨_,_,J⟩,K,L⟩,λc hc=>?_,q⟩;have j:d.heap.objs.size<=c:=by simp only[Yi,a0Y,or_false]at hc;rcases hc with rfl|rfl|rfl|rfl|rfl<;>first|exact Nat.le_add_right _ _|exact XJ _
   exact g.fpOk j (g.hok.fresh j)
theorem QR{X:Cx}{a b:Expr}{o:MA}{n:Nat}{p pos:Zj}(d:Gl X "zip") (e:X.mg "zip"=aY) (m:QA X [a,b] o n):QJT X (.Call (.Name "zip" p) [a,b] [] pos) (sE o):=⟨λes Y pt a8T s σ H R I hw=>by
 have g:=m.s;rw[YG,XG,YG,XG]at g;obtain⟨T,U,O,L,Z,Q,r,E,c,k⟩:=hw;obtain⟨⟨x,i⟩,z,c⟩:=Xv.mp c;refine QN d e m.h (f6 g.1) (by rw[f6 g.2.1];rfl) a8T s σ H R I ⟨T,U,O,x,i,r,E,z,λj vs q w l h=>?_⟩;dsimp only at c;split at c
 ·rename_i x y;obtain⟨xs,A,c⟩:=Xv.mp c;obtain⟨ys,B,c⟩:=XA.mp c;cases c;cases h with
  |cons h M=>
   cases M with
   |cons G N=>cases N;obtain⟨u,v,rfl,rfl,J,K,W⟩:=QL l h G A B;exact⟨u,v,rfl,J,K,k j q _ w l W⟩
 ·cases c⟩
section
variable{X:Cx}{a8T:jw}{σ:St}{A:Yt}{E:Value->XD->Prop}{d:Addr}
theorem QU{H:Hp}{s:XD}{b:Addr}{k:List Int}{v:V}{u:Value}{ps:bO}{Q:Unit->XD->Prop}(z:A.units<Zk)(I:Inv X a8T σ H s)(e:H d=aX (aU d ps))(w:eJ X.K H ps)(n:SqT X.K H b (k.map V.int))(hz:ps.length<XQ)(J:RelV v u)
  (h:∀i,Inv X a8T σ (aP H d (aU d (iO ps k b v))) i->(∀c o,c≠d->s.heap.get? c=aX o->i.heap.get? c=aX o)->Q () i):X5 (Yg X.prog X.w) A (dictSet d (.ref b) u) Q E s:=by
 obtain⟨y,M,K,r,j⟩:=jJ I (.of e) w;have B:(bQ ps K).length<=XQ:=by have:=congrArg YF (l7 r);rw[Xx,Xx]at this;lia
 refine wpAny_dictSet_heap (hsz:=B) (show(ZH (ZZ X.prog X.w)).room A from z) (kR I n) j λm g a=>h _ ?_ λc o hc e=>a.extBut c o hc e;obtain⟨L,G,l⟩:=zX r k b J;rw[l]at g;have p:∃q,m.get? d=aX q:=let⟨q,_,_,x,_⟩:=g;⟨q,x⟩;exact xY I (by rw[e];exact a1i) a p (u5 y (by have:=zW ps k b v;lia) G g)
end
noncomputable def ItI(h:YZ)(c d S:Addr)(i n ep:Nat):Prop:=∃(b ok g:Value)(e:Bool),h.get? c=aX {cls:=.type "dict_itemiterator",dict:=aY,data:=.fields #[b,.bool e,.ref d,.int i 0,.int n 0,.int ep 0,ok,g],slots:=#[]} /\
 (b=.none\/∃(a:Addr)(o:Obj),b=a1k a/\h.get? a=aX o/\a≠c/\a≠S)
theorem ItI.ty{s:XD}{a d S:Addr} {i n ep} (j:ItI s.heap a d S i n ep):s.TypeIs (.ref a) "dict_itemiterator":=let⟨_,_,_,_,e,_⟩:=j;⟨_,e,rfl⟩
theorem ItI.stay{h h':YZ}{c d S:Addr} {i n ep} (j:ItI h c d S i n ep)(m:c≠S)(k:∀b o,b≠S->h.get? b=aX o->h'.get? b=aX o):ItI h' c d S i n ep:=by
 obtain⟨v,ok,p,l,e,r⟩:=j;refine⟨v,ok,p,l,k _ _ m e,?_⟩;rcases r with r|⟨a,o,q,s,u,g⟩
 ·exact .inl r
 ·exact .inr ⟨a,o,q,k _ _ g s,u,g⟩
section
variable{P:Yk}{w:Yz}{A:Yt}{E:Value->XD->Prop}{s:XD}{d it S:Addr}{i ep:Nat}{es:Array DictEntry}
theorem z9{n ok G:Value}{L:Bool}{Q:Option Value->XD->Prop}(hh:A.handled=aY)(y:s.heap.get? it=aX {cls:=.type "dict_itemiterator",dict:=aY,data:=.fields #[n,.bool L,.ref d,.int i 0,.int es.size 0,.int ep 0,ok,G],slots:=#[]}) (jr:n=.none\/∃(a:Addr)(o:Obj),n=a1k a/\s.heap.get? a=aX o/\a≠it/\a≠S)(g:RawD s.heap d es ep)(hS:S<s.heap.objs.size)
  (q1:∀e j,es[i]?=aX e->ItI j it d S (i+1) es.size ep->(n=.none->a3T j it d (i+1) es.size ep e.key e.val s.heap.objs.size)->j.get? s.heap.objs.size=aX {cls:=.type "tuple",data:=.seq #[e.key,e.val]}->j.objs.size=s.heap.objs.size+1->(∀b o,b≠it->s.heap.get? b=aX o->j.get? b=aX o)->Q (aX (.ref s.heap.objs.size)) {s with heap:=j})
  (q2:es[i]?=aY->∀j,a2p it s.heap j->Q aY {s with heap:=j}):X5 (Yg P w) A (a1q (.ref it)) Q E s:=by
 obtain⟨z,g1,g2,g3⟩:=id g;have ty:s.TypeIs (.ref it) "dict_itemiterator":=⟨_,y,rfl⟩;obtain⟨c,r,p,H,B⟩:=s;have T:∀{Q:String->XD->Prop}{A:Yt}{E:Value->XD->Prop},Q "dict_itemiterator" ⟨c,r,p,H,B⟩->X5 (Yg P w) A (a4Y (.ref it)) Q E ⟨c,r,p,H,B⟩:=λq=>wpAny_typeNameOfWhole_itemiter ty q;unfold a1q;refine Xw (a5N (a2P (name:=Zg "__next__") ty F.slot_dict_itemiterator_next (Ze F.slot_dict_itemiterator_next ty F.entry_dict_itemiterator_next ?_ (F.args_dict_itemiterator_next_1 _))));refine Xw (XC (Xw (Xw (Xw (T (XC (Xw (a5m y rfl ?_))))))));simp only[show ZS "dict_itemiterator"=b5 by decide,if_true];show X5 _ _ (if(XO d==Zm)=b5 then _ else _) _ _ _;rw[if_neg (show ¬ (XO d==Zm)=b5 from λx=>X9 x)];refine Xw (XC (Xw (Zf g1 g3 ?_)));rw[if_neg (λx=>by simp at x)];refine Xw (XC (Xw (a0n g1 g3 ?_)));rw[if_neg (λx=>by simp at x)];refine XC ?_;simp only[if_neg (show ¬ ((i:Int)<0) by lia),a1t];have R:it<c.objs.size:=XN y;cases he:es[i]? with
 |some e=>
  refine Xw (Xw (T (XC (Xw (a2Z ty ?_)))));show X5 _ _ (a4h (.ref it) 3 (a1k ((i:Int)+1)) >>= _) _ _ _;refine Xw (a0K y (by simp) λu N O=>?_);replace O:a0k it c u:=O;replace N:u.get? it=aX {cls:=.type "dict_itemiterator",dict:=aY,data:=.fields #[n,.bool L,.ref d,.int ((i+1:Nat):Int) 0,.int es.size 0,.int ep 0,ok,G],slots:=#[]}:=by rw[show((i+1:Nat):Int)=(i:Int)+1 by lia];simpa[a1k]using N
  have I:Shared.TypeIs ⟨u,r,p,H,B⟩ (.ref it) "dict_itemiterator":=⟨_,N,rfl⟩;refine Xw (YI (Xw (a2Z I (Xw (a2Z I ?_)))));show X5 _ _ (a2r (.ref it) 6 e.key e.val) _ _ _;unfold a2r;refine Xw (a5l ?_);have zu:u.objs.size=c.objs.size:=O.1;have k:=XE {cls:=.type "tuple",data:=.seq #[e.key,e.val]} N;have Y:(u.push {cls:=.type "tuple",data:=.seq #[e.key,e.val]}).get? c.objs.size=aX {cls:=.type "tuple",data:=.seq #[e.key,e.val]}:=zu▸XT u rfl;have vz:(u.push {cls:=.type "tuple",data:=.seq #[e.key,e.val]}).objs.size=c.objs.size+1:=by rw[a2e,zu]
  have J:∀b o,b≠it->c.get? b=aX o->(u.push {cls:=.type "tuple",data:=.seq #[e.key,e.val]}).get? b=aX o:=λb o M x=>XE _ (O.extBut b o M x);show X5 _ _ (a2h (.ref it) >>= _) _ _ ⟨u.push {cls:=.type "tuple",data:=.seq #[e.key,e.val]},r,p,H,B⟩;rw[zu];generalize u.push {cls:=.type "tuple",data:=.seq #[e.key,e.val]}=v at k Y vz J;have h:c.objs.size≠it:=YT R;have fin:∀l:YZ,ItI l it d S (i+1) es.size ep->(n=.none->a3T l it d (i+1) es.size ep e.key e.val c.objs.size)->a0k it v l->Q (aX (.ref c.objs.size)) ⟨l,r,p,H,B⟩:=λl j' jo X=>q1 e l he j' jo (X.extBut _ _ h Y) (by show l.objs.size=_;rw[X.1,vz]) λb o M x=>X.extBut b o M (J b o M x);refine Xw ?_;unfold a2h;rcases jr with rfl|⟨a,o,rfl,U,m,r4⟩
  ·refine Xw (a1T k rfl (x:=.none) rfl (XC ?_));simp only[if_true];refine Xw (a1T k rfl (x:=ok) rfl (Xw (a1T k rfl (x:=G) rfl ?_)));refine Xw (a0K k (by simp) λv3 Z K=>Xw (a0K Z (by simp) λv4 x4 y4=>Xw (a0K x4 (by simp) λv5 x5 y5=>Xw (a0K x5 (by simp) λv6 x6 y6=>?_))));have x7:a3T v6 it d (i+1) es.size ep e.key e.val c.objs.size:=x6;refine Xw (a2D (XC (XC ⟨_,rfl,XC (fin v6 ?_ (λ_=>x7) ?_)⟩)))
   ·refine⟨a1k c.objs.size,e.key,e.val,b4,x7,.inr ⟨c.objs.size,_,rfl,y6.extBut _ _ h (y5.extBut _ _ h (y4.extBut _ _ h (K.extBut _ _ h Y))),h,YT hS⟩⟩
   ·exact((K.trans y4).trans y5).trans y6
  ·refine Xw (a1T k rfl (x:=a1k a) rfl ?_);show X5 _ _ (loadIfAlive ((a:Int).toNat) >>= _) _ _ _;rw[a1t];refine Xw (PySem.W.kdx_alive (J a o m U) ?_);simp only[Option.isNone_some,Yb,if_false];refine Xw (a1T k rfl (x:=.bool L) rfl ?_);cases L with
   |true=>rw[if_neg (show ¬ ((ZP b5 != ZP b5)=b5)from λx=>X9 x)];refine XC ?_;simp only[Yb,if_false];exact XC (XC ⟨_,rfl,XC (fin v ⟨_,ok,G,b5,k,.inr ⟨a,o,rfl,J a o m U,m,r4⟩⟩ (λz=>nomatch z) (a4O _ _))⟩)|false=>rw[if_pos (show(ZP b4 != ZP b5)=b5 from rfl)];refine Xw (a0K k (by simp) λv3 Z K=>XC ?_);simp only[Yb,if_false];exact XC (XC ⟨_,rfl,XC (fin v3 ⟨_,ok,G,b5,by simpa using Z,.inr ⟨a,o,rfl,K.extBut a o m (J a o m U),m,r4⟩⟩ (λz=>nomatch z) K)⟩)
 |none=>refine Xw (Xw (T (XC ?_)));show X5 _ _ (a4h (.ref it) 2 .none >>= _) _ _ _;refine Xw (a2t y rfl (by simp) ?_);show X5 _ _ (a6m (.type "StopIteration") [] >>= _) _ _ _;simp only[a6m,a8N];refine Xw (Xw (Y4 ?_ (by size_fits)));refine Xw (m:=a1A _ _) (a3t (a:=Zm) (by first|rfl|(simp only[a1A];rfl)) (Y4 ?_ (by size_fits)));simp only[a8M];refine Xw (a5L ?_);rw[show A.in1.handled=aY from hh];refine Xw (XC (a6U ?thrown));case thrown=>exact Xw (a0A (T:="StopIteration") (b:=b5) ⟨_,XT _ rfl,rfl⟩ a5p (XC (q2 he _ (((ZI ..).extBut.push _).push _))))
theorem EZ{r:Addr}{Q:Value->XD->Prop}(a:s.heap.IsItemsView r d)(g:RawD s.heap d es ep)
  (q:Q (.ref s.heap.objs.size) {s with heap:=s.heap.push {cls:=.type "dict_itemiterator",data:=.fields #[.none,.bool b4,.ref d,.int 0 0,.int es.size 0,.int ep 0,.none,.none]}}):X5 (Yg P w) A (a2H (.ref r)) Q E s:=by
 obtain⟨y,e,k,h⟩:=id a;obtain⟨z,b,j,c⟩:=id g;refine a4e a.typeIs F.slot_dict_items_iter (Ze F.slot_dict_items_iter a.typeIs F.entry_dict_items_iter ?_ (F.args_dict_items_iter_1 _));unfold Builtin.«dict_items.__iter__» a2R a2A;refine Xw (XC (Xw (Xw (a1T e h (x:=.ref d) rfl (XC (Xw (Xw (Zf b c (Xw (a0n b c ?_))))))))));simp only[show ZS "dict_itemiterator"=b5 by decide,if_true];refine Y4 (XC ⟨_,rfl,"dict_itemiterator",_,⟨_,XT _ rfl,rfl⟩,F.slot_dict_itemiterator_next.lookup,?_⟩) (by simp only[sizeOk,a2i,XW,XI,Ym,a1h];rw[X2];lia);simpa[a1k,a2i]using q
end
structure PrsAt(es:Array DictEntry)(lo:Addr)(h:YZ)(as:List Addr):Prop where
 up:as.Pairwise (·<·)
 over:∀a∈as,lo<a
 prs:∀(j:Nat)(a:Addr),as[j]?=aX a->∃e,es[j]?=aX e/\h.get? a=aX {cls:=.type "tuple",data:=.seq #[e.key,e.val]}
theorem PrsAt.stay{es:Array DictEntry}{lo:Addr}{h h':YZ}{as:List Addr}(p:PrsAt es lo h as)(k:∀b o,lo<b->h.get? b=aX o->h'.get? b=aX o):PrsAt es lo h' as:=
 ⟨p.up,p.over,λj a c=>let⟨e,d,g⟩:=p.prs j a c;⟨e,d,k a _ (p.over a (X6 c)) g⟩⟩
theorem PrsAt.lt{es:Array DictEntry}{lo:Addr}{h:YZ}{as:List Addr}(p:PrsAt es lo h as){a:Addr}(b:a∈as):a<h.objs.size:=by obtain⟨j,c⟩:=a0J.mp b;obtain⟨_,_,e⟩:=p.prs j a c;exact XN e
theorem PrsAt.snoc{es:Array DictEntry}{lo:Addr}{h:YZ}{as:List Addr}{b:Addr}{e:DictEntry}(p:PrsAt es lo h as)(k:∀a∈as,a<b)(m:lo<b)(l:es[as.length]?=aX e)(n:h.get? b=aX {cls:=.type "tuple",data:=.seq #[e.key,e.val]}):PrsAt es lo h (as++[b]):=by
 refine⟨a1F.mpr ⟨p.up,a5c _ _,λa d c hc=>by rw[XX.mp hc];exact k a d⟩,λa d=>?_,λj a g=>?_⟩
 ·rcases Yq.mp d with d|d
  ·exact p.over a d
  ·rw[XX.mp d];exact m
 ·rcases a6L j as.length with i|i|i
  ·rw[YC i]at g;exact p.prs j a g
  ·subst i;have:b=a:=by simpa using g
   subst this;exact⟨e,l,n⟩
  ·rw[ZC (by simp;lia)]at g;cases g
section
variable{P:Yk}{w:Yz}{A:Yt}{s:XD}{R:a4H->XD->Prop}{es:Array DictEntry}{ep:Nat}{S I d:Addr}
theorem QV(Q:A.handled=aY)(u:S<I)(H:d≠S)(G:d≠I)(hn:es.size<=XQ)(res:Value){h1:YZ}
  (T:∀(h':YZ)(tk:Nat)(j:Array Value)(c:Nat)(as:List Addr),(∀b o,b≠S->b≠I->h1.get? b=aX o->h'.get? b=aX o)->h'.get? S=aX {cls:=.type "list",dict:=aY,data:=.seq j c,slots:=#[]}->as.length=es.size->PrsAt es I h' as->j.toList=as.map XO->R (.ok (.ret res)) {s with heap:=h',toks:=tk}) :
  ∀(k i:Nat)(h:YZ)(tk c:Nat)(j:Array Value)(as:List Addr),es.size-i=k->i<=es.size->ItI h I d S i es.size ep->RawD h d es ep->(∀b o,b≠S->b≠I->h1.get? b=aX o->h.get? b=aX o)->h.get? S=aX {cls:=.type "list",dict:=aY,data:=.seq j c,slots:=#[]}->
   j.toList=as.map XO->as.length=i->PrsAt es I h as->I<h.objs.size->a1g (Yg P w) A (.builtin "list.extend.loop" ⟨[.ref S,.ref I,res],[]⟩) R {s with heap:=h,toks:=tk}:=by
 have ne:S≠I:=XU u;intro k;induction k with
 |zero=>intro i h tk c j as U hi ⟨_,_,_,_,L,M⟩ g N n B v E lt;refine a0R F.entry_extend_loop ?_;rw[ZX F.plain_extend_loop _];refine Xw (m:=a1q (.ref I)) (z9 (s:={s with heap:=h,toks:=tk}) (A:=A.in1) Q L M g (XN n) (λe h' m=>?_) λ_ h' x=>XC (T h' tk j c as (λb o y q z=>x b o q (N b o y q z)) (x S _ ne n) (by lia) (E.stay λb o p z=>x b o (YT p) z) B));rw[a2C (by lia)]at m;cases m|succ k Y=>
  intro i h tk c j as U hi ⟨_,_,_,_,L,M⟩ g N n B v E lt;have sz:j.size=i:=by rw[<- Z5,B,Xx,v]
  refine a0R F.entry_extend_loop ?_;rw[ZX F.plain_extend_loop _];refine Xw (m:=a1q (.ref I)) (z9 (s:={s with heap:=h,toks:=tk}) (A:=A.in1) Q L M g (XN n) (λe h' m Z _ K X l=>?_) λm=>?_)
  ·dsimp only at K X l ⊢;have r:=l S _ ne n;have O:S<h.objs.size:=XN n;have up:∀b o,b≠S->h'.get? b=aX o->(h'.update S (Zh (·.push (XO h.objs.size)))).get? b=aX o:=λb o p z=>(Y7 _ _ (Yn p)).trans z;refine Xw (m:=a4E S (·.push (XO h.objs.size))) (a0O r rfl (XC ⟨a0e F.plain_extend_loop _,?_⟩) (by rw[sz];lia) (by show(j.push (XO h.objs.size)).size<=XQ+1;rw[Array.size_push,sz];lia));refine Y (i+1) _ tk _ (j.push (XO h.objs.size)) (as++[h.objs.size]) (by lia) (by lia) (Z.stay (Yn ne) up) (g.stay λo z=>up d o H (l d o G z)) (λb o y q z=>up b o y (l b o q (N b o y q z))) (Zd _ r rfl) (by rw[a6f,B,X4];rfl) (by rw[XI,v];rfl) ?_ ?_
   ·exact((E.stay λb o p z=>up b o (YT (a1V u p)) (l b o (YT p) z))).snoc (λa J=>E.lt J) lt (by rw[v];exact m) (up _ _ (YT O) K)
   ·exact a1V lt (XN (up _ _ (YT O) K))
  ·rw[a2j (by lia)]at m;cases m
theorem QX{r:Addr}{res:Value}{c0:Nat}(H:A.handled=aY)(p:s.heap.IsItemsView r d)(g:RawD s.heap d es ep)(Sr:S≠r)(x:d≠S)(z:s.heap.get? S=aX {cls:=.type "list",data:=.seq #[] c0}) (K:es.size<=XQ)
  (E:∀(h':YZ)(tk:Nat)(k:Array Value)(c:Nat)(as:List Addr),(∀b o,b≠S->s.heap.get? b=aX o->h'.get? b=aX o)->h'.get? S=aX {cls:=.type "list",dict:=aY,data:=.seq k c,slots:=#[]}->as.length=es.size->PrsAt es s.heap.objs.size h' as->k.toList=as.map XO->R (.ok (.ret res)) {s with heap:=h',toks:=tk}) :
  X5 (Yg P w) A.in1 (ZE (.ref S) (.ref r) res) (λfin n=>match fin with|.done f=>R (.ok f) n|.again c'=>c'.quiet=b5/\a1g (Yg P w) A c' R n) (λe n=>R (.error e) n) s:=by
 have v:S<s.heap.objs.size:=XN z;have B:d<s.heap.objs.size:=g.lt;have run:∀(h:YZ)(c1 tk:Nat),(∀b o,b≠S->(s.heap.push {cls:=.type "dict_itemiterator",data:=.fields #[.none,.bool b4,.ref d,.int 0 0,.int es.size 0,.int ep 0,.none,.none]}).get? b=aX o->h.get? b=aX o)->h.get? S=aX {cls:=.type "list",data:=.seq #[] c1}->
   a1g (Yg P w) A (.builtin "list.extend.loop" ⟨[.ref S,.ref s.heap.objs.size,res],[]⟩) R {s with heap:=h,toks:=tk}:=by
  intro h c1 tk q i;have y:=q s.heap.objs.size _ (YT v) (XT _ rfl);exact QV (s:=s) (h1:=s.heap) (ep:=ep) H v x (XU B) K res (λh' u k c as M N O Q T=>E h' u k c as (λb o l e=>M b o l (XU (XN e)) e) N O Q T) es.size 0 h tk c1 #[] [] (a5u _) (Yu _)
   ⟨.none,.none,.none,b4,y,.inl rfl⟩ (g.stay λo e=>q d o x (XE _ e)) (λb o l _ e=>q b o l (XE _ e)) i rfl rfl ⟨a4B,λ_ G=>(by cases G),λj a J=>(by simp at J)⟩ (XN y)
 unfold ZE;refine Xw (wpAny_typeOf (T:="dict_items") p.typeIs ?_);simp only[show a0N (.ref S) (.ref r)=b4 by simp[a0N,Sr],show(Yd "dict_items"==Yd "list")=b4 by decide,show(Yd "dict_items"==Yd "tuple")=b4 by decide,a3o,Yb,if_false];refine Xw (EZ p g ?_);have i:=XE {cls:=.type "dict_itemiterator",data:=.fields #[.none,.bool b4,.ref d,.int 0 0,.int es.size 0,.int ep 0,.none,.none]} z;refine Xw (YI (PySem.W.kdx_hint (let⟨o,L,hc,_⟩:=p;⟨o,XE _ L,hc⟩) ?_));refine a0Q (λ_=>?_) (λ_=>XC ⟨a0e F.plain_extend_loop _,run _ c0 _ (λb o _ e=>e) i⟩);refine Xw (a1p (Xw ?_));refine Xw (m:=a4E S (·.push .none)) (a0O i rfl ?_);have m:=Zd (Zh (·.push Zm)) i rfl;refine a0O (hz:=by seq_fits) m rfl (XC ⟨a0e F.plain_extend_loop _,run _ _ _ (λb o l e=>?_) (Zd (Zh (·.pop)) m rfl)⟩);exact(Y7 _ _ (Yn l)).trans ((Y7 _ _ (Yn l)).trans e)
theorem QY{r:Addr}{E:Value->XD->Prop}{T:gq->XD->Prop}(G:A.handled=aY)(u:s.heap.IsItemsView r d)(g:RawD s.heap d es ep)(H:es.size<=XQ)
  (q:∀(h':YZ)(tk:Nat)(as:List Addr),(∀b o,s.heap.get? b=aX o->h'.get? b=aX o)->as.length=es.size->PrsAt es s.heap.objs.size h' as->s.heap.objs.size<=h'.objs.size->T (as.map XO) {s with heap:=h',toks:=tk}):X5 (Yg P w) A (collect (.ref r)) T E s:=by
 have J:r<s.heap.objs.size:=let⟨_,n,_⟩:=u;XN n
 unfold collect
 refine Xw (wpAny_runValue (a0R a8q ?_))
 rw[ZX F.plain_proto_collect _]
 refine Xw (m:=newList []) (Y4 (XC ⟨a0e F.plain_list_iadd _,a0R a8r ?_⟩))
 rw[ZX F.plain_list_iadd _]
 have z:(s.heap.push {cls:=.type "list",data:=.seq ([]:gq).toArray}).get? s.heap.objs.size=aX {cls:=.type "list",data:=.seq #[]}:=XT _ rfl
 have all:=QX (A:=A) (s:={s with heap:=s.heap.push {cls:=.type "list",data:=.seq ([]:gq).toArray}}) (P:=P) (w:=w) (es:=es) (ep:=ep) (res:=.ref s.heap.objs.size) (c0:=0)
  (R:=λ(q:a4H)(p:XD)=>∃(h':YZ)(tk:Nat)(h:Array Value)(c:Nat)(as:List Addr),q=.ok (.ret (.ref s.heap.objs.size))/\p={s with heap:=h',toks:=tk}/\(∀b o,s.heap.get? b=aX o->h'.get? b=aX o)/\h'.get? s.heap.objs.size=aX {cls:=.type "list",dict:=aY,data:=.seq h c,slots:=#[]}/\as.length=es.size/\PrsAt es s.heap.objs.size h' as/\h.toList=as.map XO)
  G (let⟨o,n,x⟩:=u;⟨o,XE _ n,x⟩) (g.stay λo e=>XE _ e) (YT J) (XU g.lt) z H
  (λh' tk h c as k i l j m=>⟨h',tk,h,c,as,rfl,rfl,λb o e=>k b o (XU (XN e)) (XE _ e),i,l,⟨j.up,λa B=>a1V (ZK _) (by have:=j.over a B;rw[a2e]at this;exact this),j.prs⟩,m⟩)
 refine Y8 all (λfin p x=>?_) λe p x=>?_
 ·cases fin with
  |done f=>
   obtain⟨h',tk,h,c,as,e,rfl,k,i,l,j,m⟩:=x
   cases e
   refine Xw (m:=load s.heap.objs.size) (a7u i (XC ?_))
   show T h.toList _
   rw[m]
   exact q h' tk as k l j (a0B (XN i))
  |again c1=>
   refine⟨x.1,a4l x.2 λy K x=>?_⟩
   obtain⟨h',tk,h,c,as,rfl,rfl,k,i,l,j,m⟩:=x
   refine Xw (m:=load s.heap.objs.size) (a7u i (XC ?_))
   show T h.toList _
   rw[m]
   exact q h' tk as k l j (a0B (XN i))
 ·obtain⟨_,_,_,_,_,v,_⟩:=x
  cases v
end
end L3
namespace L3
open PySem L2 PySem.W PyProof.Rows
section
variable{P:Yk}{w:Yz}{A:Yt}{E:Value->XD->Prop}{s:XD}
theorem QZ{v:Value}{Q:Bool->XD->Prop}(q:Q b5 s):X5 (Yg P w) A (eqBool v v) Q E s:=by unfold eqBool;refine YI ?_;rw[if_pos (by simp)];exact Xw (a1p (XC q))
theorem Aa:∀k:List Int,HT.lexLt k k=b4
 |[]=>rfl|a::k=>by simp[HT.lexLt,Aa k]
noncomputable def j0(P:Yk)(w:Yz)(h:YZ)(b:Addr)(k:List Int):Prop:=Tb.IsT P w h k b/\∃xs:gq,a4u h b xs.toArray/\a0M xs k
theorem Q0{a g b h:Addr}{v l:Value}{k k':List Int}{C:Bool->XD->Prop}(j:A.units<Zk)(m:s.heap.get? a=aX {cls:=.type "tuple",data:=.seq #[.ref b,v]}) (d:s.heap.get? g=aX {cls:=.type "tuple",data:=.seq #[.ref h,l]})
  (i:j0 P w s.heap b k)(c:j0 P w s.heap h k')(n:k=k'->v=l)(q:C (HT.lexLt k k') s):X5 (Yg P w) A (keyLt' (tuples' b4) (.ref a) (.ref g)) C (λ_ _=>False) s:=by
 refine kat_lt m rfl d rfl ?_;refine kat_cons ((ZH (ZZ P w)).eqBool j i.1 c.1 ?_);by_cases e:k=k'
 ·obtain rfl:=n e;subst e;rw[decide_eq_true rfl];refine kat_yes (kat_cons (QZ (kat_yes (kat_nil ?_))));rw[Aa]at q;exact q
 ·rw[decide_eq_false e];obtain⟨x,r,o⟩:=i.2;obtain⟨y,u,p⟩:=c.2;refine kat_no (kat_one _ _ (HT.lt_tupInts r u (by simpa using o) (by simpa using p) j ?_));exact q
noncomputable def pZ(P:Yk)(w:Yz)(A:Yt)(us:gq)(an:Nat->Nat->Bool)(s:XD):Prop:=
 X5 (Yg P w) A (keyKind' us.toArray) (λb a=>a=s/\∀(i j:Nat)(C:Bool->XD->Prop),i<us.length->j<us.length->C (an i j) s->X5 (Yg P w) A (keyLt' b (us.getD i .none) (us.getD j .none)) C (λ_ _=>False) s) (λ_ _=>False) s
theorem Q1{es:Array DictEntry}{lo:Addr}{as bs:List Addr}{ks:List (List Int)}(X:A.units<Zk)(p:PrsAt es lo s.heap as)(h0:0<as.length)(hl:as.length=es.size)(hk:ks.length=es.size)(U:bs.length=es.size)(key:∀(j:Nat)(e:DictEntry),es[j]?=aX e->e.key=.ref (bs.getD j 0)/\j0 P w s.heap (bs.getD j 0) (ks.getD j []))
  (nd:ks.Nodup):pZ P w A (as.map XO) (λi j=>HT.lexLt (ks.getD i []) (ks.getD j [])) s:=by
 have d:∀i,i<as.length->∃(e:DictEntry),es[i]?=aX e/\s.heap.get? (as.getD i 0)=aX {cls:=.type "tuple",data:=.seq #[.ref (bs.getD i 0),e.val]}/\j0 P w s.heap (bs.getD i 0) (ks.getD i []):=λi hi=>by
  have L:as[i]?=aX (as.getD i 0):=by simp[Zz,hi]
  obtain⟨e,q,l⟩:=p.prs i _ L;obtain⟨Z,r⟩:=key i e q;rw[Z]at l;exact⟨e,q,l,r⟩
 unfold pZ;have m:KatTups s.heap (as.map XO) (bs.map XO):=by
  have go:∀(n:Nat)(a c:List Addr),a.length=n->c.length=n->(∀i,i<n->∃v:Value,s.heap.get? (a.getD i 0)=aX {cls:=.type "tuple",data:=.seq #[.ref (c.getD i 0),v]})->KatTups s.heap (a.map XO) (c.map XO):=by
   intro n;induction n with
   |zero=>intro a c g k _;rw[a0r.mp g,a0r.mp k];exact .nil|succ n Y=>
    intro a c g k J;match a,c,g,k with
    |x::a,y::c,g,k=>obtain⟨v,H⟩:=J 0 (by lia);refine .cons H rfl rfl (by simp) (Y a c (by simpa using g) (by simpa using k) λi hi=>?_);have:=J (i+1) (by lia);simpa using this
  refine go as.length as bs rfl (by lia) λi hi=>?_;obtain⟨e,_,l,_⟩:=d i hi;exact⟨_,l⟩
 refine kat_kind (T:=.type "tuple") m (by rw[Xx];lia) (λv H=>?_) (by decide) ⟨rfl,λi j C hi G R=>?_⟩
 ·obtain⟨b,T,rfl⟩:=XH.mp H;obtain⟨i,hi⟩:=a0J.mp T;have u:i<as.length:=by have:=(Xz.mp hi).1;lia
  obtain⟨e,_,_,r⟩:=d i u;have:bs.getD i 0=b:=by simp[Zz,hi]
  rw[this]at r;obtain⟨xs,⟨o,o1,o2,_⟩,_⟩:=r.2;exact kitAt_ty _ _ ⟨o,o1,o2⟩
 ·rw[Xx]at hi G;obtain⟨e,q,l,K⟩:=d i hi;obtain⟨e',I,M,N⟩:=d j G;have O:(as.map XO).getD i .none=.ref (as.getD i 0):=by simp[Zz,hi]
  have Q:(as.map XO).getD j .none=.ref (as.getD j 0):=by simp[Zz,G]
  rw[O,Q];refine Q0 X l M K N (λz=>?_) R;have B:i=j:=by
   have g:ks.getD i []=ks[i]:=by simp[Zz,show i<ks.length by lia]
   have k:ks.getD j []=ks[j]:=by simp[Zz,show j<ks.length by lia]
   rw[g,k]at z;rcases a6L i j with h|h|h
   ·exact absurd z ((a1c.mp nd) i j (by lia) (by lia) h)
   ·exact h
   ·exact absurd z.symm ((a1c.mp nd) j i (by lia) (by lia) h)
  subst B;rw[q]at I;cases I;rfl
end
section
variable{P:Yk}{w:Yz}{A:Yt}{E:Value->XD->Prop}{s:XD}
theorem E4{c:Addr}{us:gq}{z:Nat}{R:PySem.Fin->XD->Prop}{an:Nat->Nat->Bool}(M:2<=us.length)(m:us.length<64)(g:s.heap.get? c=aX (Zv "list" us.toArray z)) (H:∀I:YZ,(∀b o,b≠c->s.heap.get? b=aX o->I.get? b=aX o)->pZ P w A us an {s with heap:=I})
  (q:R (.done (.ret .none)) {s with heap:=a3X s.heap c us ((dJ an us.length).map λi=>us.getD i Zm).toArray}):X5 (Yg P w) A (Builtin.«list.sort» ⟨[.ref c],[]⟩) R E s:=by
 rw[a8h]
 refine Xw (listItems_at g rfl (Xw (a3P g rfl ?_ (by rw[XW,X2];lia) (Yu _))))
 obtain⟨y,B⟩:∃y,(s.heap.update c (Zh λ_=>#[])).get? c=aX (Zv "list" #[] y):=⟨_,a8j g _⟩
 refine Xw (a4Q B rfl (Xw (a5l (Xw (a1S (YI ?_) (Yu _))) (by show us.length<=_;rw[X2];lia))))
 have G:(((s.heap.update c (Zh λ_=>#[])).push (Zv "tuple" us.toArray 0)).push (Zv "list" #[] 0)).get? c=aX (Zv "list" #[] y):=
  XE _ (XE _ B)
 have l:=H (((s.heap.update c (Zh λ_=>#[])).push (Zv "tuple" us.toArray 0)).push (Zv "list" #[] 0)) λb o O e=>XE _ (XE _ ((Y7 _ _ (Yn O)).trans e))
 show X5 (Yg P w) A _ R E ⟨((s.heap.update c (Zh λ_=>#[])).push (Zv "tuple" us.toArray 0)).push (Zv "list" #[] 0),s.gens,s.drawn,s.toks,s.os⟩
 dsimp only
 have h:¬ us.toArray.size<2:=by rw[XW];lia
 rw[if_neg h,if_neg h]
 refine Xw (Y8 l (λU k n=>?_) λ_ _ x=>x.elim)
 obtain⟨rfl,n⟩:=n
 refine Xw (Y8 (kat_run (ks:=us) (vs:=us) (κ:=U) (Q:=λa k=>k={s with heap:=((s.heap.update c (Zh λ_=>#[])).push (Zv "tuple" us.toArray 0)).push (Zv "list" #[] 0)}/\failedOf a=aY/\(arrOf a).map (·.2)=((dJ an us.length).map λi=>us.getD i Zm).toArray)
  (G:=λp k=>k={s with heap:=((s.heap.update c (Zh λ_=>#[])).push (Zv "tuple" us.toArray 0)).push (Zv "list" #[] 0)}/\p.toList=dJ an us.length) rfl M m (λp a k X K L v=>⟨v.1,L,by rw[kat_snds rfl K,v.2]⟩)
  (Eg (n:=us.length) (ans:=an) (λi j C hi Q N=>n i j C hi Q N) (Em (by lia)) ⟨rfl,rfl⟩)) (λr k T=>?_) λ_ _ e=>e)
 obtain⟨⟨⟩,a⟩:=r
 obtain⟨rfl,J,d⟩:=T
 dsimp only at J d ⊢
 rw[d]
 have u:((dJ an us.length).map λi=>us.getD i Zm).length=us.length:=by
  rw[Xx,(zK an (n:=us.length) (by lia)).length_eq,a6C]
 refine Xw (a4Q G rfl (Xw (a3P G rfl ?_ (hsz2:=by rw[XW,u,X2];lia))))
 rw[J]
 simp only[bne_self_eq_false,Yb,if_false]
 exact XC q
theorem Q2{r d:Addr}{es:Array DictEntry}{ep:Nat}{Q:Value->XD->Prop}{an:Nat->Nat->Bool}(J:A.handled=aY)(K:s.heap.IsItemsView r d)(g:RawD s.heap d es ep)(B:es.size<64)
  (H:2<=es.size->∀(h:YZ)(tk:Nat)(as:List Addr),(∀b o,s.heap.get? b=aX o->h.get? b=aX o)->as.length=es.size->PrsAt es s.heap.objs.size h as->pZ P w A.in1.in1 (as.map XO) an {s with heap:=h,toks:=tk})
  (q:∀(h:YZ)(tk:Nat)(as:List Addr)(L e:Nat),(∀b o,s.heap.get? b=aX o->h.get? b=aX o)->as.length=es.size->PrsAt es s.heap.objs.size h as->s.heap.objs.size<=L->(∀a∈as,a≠L)->h.get? L=aX (Zv "list" ((dJ an es.size).map λi=>XO (as.getD i 0)).toArray e)->Q (.ref L) {s with heap:=h,toks:=tk}) :
  X5 (Yg P w) A (call (.builtin "sorted") [.ref r]) Q E s:=by
 refine a4D kind_sorted plain_sorted entry_sorted (args_sorted1 _) ?_
 unfold a5B
 refine Xw (m:=checkCount "sorted" 1 1 _) (XC (Xw (QY (A:=A.in1) J K g (by rw[X2];lia) λc tk as y n u l=>?_)))
 have z:(as.map XO).length=es.size:=by rw[Xx,n]
 refine Xw (a1S ?_ (by rw[z,X2];lia))
 have k:(c.push (Zv "list" (as.map XO).toArray 0)).get? c.objs.size=aX (Zv "list" (as.map XO).toArray 0):=XT _ rfl
 have fin:∀j:gq,j=((dJ an es.size).map λi=>XO (as.getD i 0))->Q (.ref c.objs.size) {s with heap:=a3X (c.push (Zv "list" (as.map XO).toArray 0)) c.objs.size (as.map XO) j.toArray,toks:=tk}:=by
  rintro j rfl
  obtain⟨e,I⟩:=sortedHeap_at (h:=c.push (Zv "list" (as.map XO).toArray 0)) (out:=((dJ an es.size).map λi=>XO (as.getD i 0)).toArray) k
  have m:∀b o,c.get? b=aX o->(a3X (c.push (Zv "list" (as.map XO).toArray 0)) c.objs.size (as.map XO) ((dJ an es.size).map λi=>XO (as.getD i 0)).toArray).get? b=aX o:=λb o x=>by
   rw[a8K (XU (XN x)) (by rw[a2e];exact a3K (XN x))]
   exact XE _ x
  exact q _ tk as c.objs.size e (λb o x=>m b o (y b o x)) n (u.stay λb o _ x=>m b o x) l (λa G=>XU (u.lt G)) I
 by_cases p:2<=es.size
 ·refine Xw (YI (Ze a3u (s:={s with heap:=c.push (Zv "list" (as.map XO).toArray 0),toks:=tk}) ⟨_,k,rfl⟩ a3f (E4 (an:=an) (by lia) (by lia) k (λh v=>?_) ⟨_,rfl,?_⟩) (a3x _)))
  ·exact H p h tk as (λb o e=>v b o (XU (Yh (XN e) l)) (XE _ (y b o e))) n (u.stay λb o M e=>v b o (XU (XN e)) (XE _ e))
  ·refine XC ⟨_,rfl,fin _ ?_⟩
   rw[z]
   refine Ye λi hi=>?_
   have hi:i<as.length:=by
    have:=Zs.mp ((lW an es.size).mem_iff.mp hi)
    lia
   simp[Zz,hi]
 ·refine Xw (YI (Ze a3u (s:={s with heap:=c.push (Zv "list" (as.map XO).toArray 0),toks:=tk}) ⟨_,k,rfl⟩ a3f (Ep (by lia) k ⟨_,rfl,?_⟩) (a3x _)))
  refine XC ⟨_,rfl,fin (as.map XO) ?_⟩
  match as,n with
  |[],e=>rw[<- e];show[]=(dJ _ 0).map _;rw[zL];rfl
  |[b],e=>rw[<- e];show[XO b]=(dJ _ 1).map _;rw[Er];rfl
  |_::_::_,e=>rw[<- e]at p;simp at p
end
end L3
namespace L3
open PySem L2
noncomputable def l8(ps:bO):bO:=(dJ (λi j=>HT.lexLt ((ps.map (·.1)).getD i []) ((ps.map (·.1)).getD j [])) ps.length).map λi=>ps.getD i ([],0,.non)
theorem sortT_perm{ps:bO}:(l8 ps).Perm ps:=by
 unfold l8;have p:=(lW (λi j=>HT.lexLt ((ps.map (·.1)).getD i []) ((ps.map (·.1)).getD j [])) ps.length).map λi=>ps.getD i ([],0,.non);have e:(YN ps.length).map (λi=>ps.getD i ([],0,.non))=ps:=by refine a6Q (by simp) λi b a=>?_;simp[Zz,a]
 rw[e]at p;exact p
section
variable{P:Yk}{w:Yz}
theorem E6(d:Addr)(hd:(d==YY)=b4):a7L P w (Builtin.«dict.items» ⟨[.ref d],[]⟩) (λ_ R s=>(∃es ep,RawD s.heap d es ep) /\
   R (.ok (.ret (.ref s.heap.objs.size))) {s with heap:=s.heap.push {cls:=.type "dict_items",data:=.fields #[.ref d]}}):=
 .of_wp λA R s ⟨⟨es,ep,g⟩,h⟩=>by unfold Builtin.«dict.items»;refine Xw ?_;unfold a2B;refine Xw (a0i g.ty ?_);show X5 _ _ (pure d) _ _ s;refine XC ?_;show X5 _ _ (ZO d >>= _) _ _ s;unfold ZO;rw[if_neg (by rw[hd];exact X9)];refine Xw (XC ?_);exact Xw (Y4 (XC ⟨_,rfl,h⟩))
end
noncomputable def l9(a:jx):jx:=(dJ (λi j=>HT.lexLt ((a.map (·.1)).getD i []) ((a.map (·.1)).getD j [])) a.length).map λi=>a.getD i ([],.non)
theorem E7{a b:Type}{R:a->b->Prop}{as:List a}{bs:List b}(h:a2w R as bs)(c:a)(d:b):∀i,i<as.length->R (as.getD i c) (bs.getD i d):=by
 induction h with
 |nil=>exact λi hi=>nomatch hi|cons e t g=>
  intro i hi;cases i with
  |zero=>exact e|succ i=>exact g i (by simpa using hi)
theorem Ab{a b:Type}{R:a->b->Prop}{f:Nat->a}{g:Nat->b}:∀{l:List Nat},(∀i∈l,R (f i) (g i))->a2w R (l.map f) (l.map g)
 |[],_=>.nil|i::l,h=>.cons (h i (X8 ..)) (Ab λj c=>h j (X7 _ c))
theorem Q3{K:Xy}{π:Nat->Addr}{n:Nat}{H:Hp}{ps:bO}{a:jx}(h:IsTs K π n H ps a):ps.length=a.length/\IsTs K π n H (l8 ps) (l9 a):=by
 have b:=h.to.1;have c:ps.length=a.length:=by have:=congrArg YF b;simpa using this
 refine⟨c,?_⟩;unfold l8 l9;rw[b,c];refine Ab λi hi=>E7 h _ _ i ?_;have:=Zs.mp ((lW _ a.length).mem_iff.mp hi);lia
noncomputable def qA(mk mv:ME):ME:=λb a=>(mk b (a++[.dT []])).bind λp=>(mv b p.2).bind λq=>match q.2[a.length]? with
 |some (.dT [])=>(dR p.1).map λk=>(.loc a.length,q.2.set a.length (.dT [(k,q.1)]))|_=>aY
section
variable{X:Cx}{k v:Expr}{mk mv:ME}{tk tv:TE}{pos:Zj}
noncomputable def Q4(K:Xy)(tk tv:TE):TE:=λσ H Q=>∀p,H p=aY->tk σ (aP H p (aU p [])) λx d=>tv σ d λy a=>a p=aX (aU p [])/\∃b c,x=.ref b/\SqT K a b (c.map V.int)/\Q (.ref p) (aP a p (aU p [(c,b,y)]))
theorem Q5(K:X.A.units+1<Zk)(n:PE X k tk)(w:PE X v tv):PE X (.Dict [aX k] [v] pos) (Q4 X.K tk tv):=by intro a s c H Q I q;have o:=I.hok.fresh (XJ s.heap.objs.size);have h:=I.laid (a:=s.heap.objs.size) (o:=aU s.heap.objs.size []) (h':=s.heap.push {cls:=.type "dict",data:=.dict #[]}) (t':=s.toks) (λ_ _ q=>XE _ q) (XJ _) (EJ s.heap I.big);refine wpAny_Dict_any rfl rfl (by simp) (by simp) (pairTrees_cons_walk (aR (n a _ c _ _ h (q _ o)) λu G ⟨x,d,i,B,z⟩=>aR (w a G c d _ i z) λO N ⟨y,J,j,E,e,b,L,l,m,A⟩=>pairTrees_nil_walk ?_));subst l;obtain rfl:u=XO b:=B;unfold storeAll;refine Xw (Xw (QU (by lia) j e (λp r=>nomatch r) m (by rw[X2];simp) E λM g _=>XC (XC ?_)));exact⟨.ref s.heap.objs.size,_,g,rfl,A⟩
theorem Q6{n:Nat}(Z:Room n X.A)(U:QE X k mk)(hv:QE X v mv):QE X (.Dict [aX k] [v] pos) (qA mk mv):=⟨c9 (Q5 (jV Z) U.h hv.h) (by
 rintro σ H Q ⟨π,K,h,d,μ',R,E,a,kc⟩ p Y;obtain⟨⟨x,c⟩,N,a⟩:=Xv.mp a;obtain⟨⟨y,e⟩,O,a⟩:=Xv.mp a;obtain⟨q,M,q1⟩:=R.alloc (c:=.dT []) (o:=aU p []) Y ⟨[],rfl,rfl,.nil,.nil⟩;refine⟨_,K,_,x,c,M,E.mono q,N,λz v1 H1 m R2 i1=>⟨z,K,c,y,e,R2,(E.mono q).mono m,O,λg J L r A i2=>?_⟩⟩;dsimp only at a;split at a
 ·rename_i hc;obtain⟨l,u,a⟩:=XA.mp a;cases a;have i:h.length<e.length:=(Xz.mp hc).1;have w:(h++[C.dT []]).length<=c.length:=m.le;have j:g h.length=p:=by rw[r.pi h.length (by simp at w;lia),m.pi h.length (by simp),q1]
  obtain⟨ps,s,T⟩:=f9 A hc;cases T;obtain⟨b,rfl,I⟩:=kT (i1.mono r) u;obtain⟨G,B⟩:=A.put (a:=h.length) (c:=.dT [(l,y)]) (o:=aU _ [(l,b,J)]) i s (.inr (.inr ⟨_,rfl⟩)) (by
   have o:IsTs X.K g e.length L [(l,b,J)] [(l,y)]:=.cons ⟨rfl,I,i2⟩ .nil;exact⟨_,rfl,o.to.1,o.to.2.1,o.to.2.2⟩)
  rw[j]at s G B;refine⟨s,b,l,rfl,I,kc g _ _ (((q.trans m).trans r).trans G) B ?_⟩;rw[<- j];exact .loc (by rw[YL];exact i)
 ·cases a)⟩
end
section
variable{X:Cx}{a8T pins0:jw}{σ σ0:St}{H H0:Hp}{s s0:XD}{a:Addr}{ps ps0:bO}{ob:Obj}
theorem Inv.freeze(I:Inv X a8T σ H s)(e:H a=aX (aU a ps))(c:s.heap.get? a=aX ob):Inv X a8T σ (aP H a (.frz ob (aU a ps))) s:=by have ok:ObjOk X.prog X.w H s.heap a (aU a ps):=I.hok a _ e;exact I.write (x:=a) (e:=a) (h':=s.heap) (t':=s.toks) (by rw[e];exact a1i) (.inl rfl) (λb q _ z=>z) ⟨ob,c⟩ ⟨c,ok⟩
theorem Inv.thaw(m:Inv X pins0 σ0 H0 s0)(n:H0 a=aX (aU a ps0))(I:Inv X a8T σ H s)(e:H a=aX (.frz ob (aU a ps))):Inv X a8T σ (aP H a (aU a ps)) s:=by
 have ne:∀{b:Addr},H b=aY->b≠a:=λ{b} h z=>by rw[z,e]at h;cases h
 refine⟨I.ok,I.os,I.bare,⟨I.base.keep,I.base.slot,λb o d g i=>?_,I.base.there,λb k h=>?_,λb o u h=>?_,λb v h=>?_⟩,I.loc,I.cell,?_,λx c h=>?_,λp r=>?_,λb u q=>?_,I.len⟩
 ·have:=I.base.free b o d g i;rw[bM (ne this)];exact this
 ·have:=I.base.tups b k h;rw[bM λz=>by rw[z,e]at this;cases this];exact this
 ·have:=I.base.frzs b o u h;rw[bM λz=>by
   have l:=m.base.frzs b o u h;rw[z,n]at l;cases l]
  exact this
 ·obtain⟨more,d⟩:=I.base.tbls b v h;exact⟨more,by rw[bM λz=>by rw[z,e]at d;cases d];exact d⟩
 ·rw[bM (ne I.free)];exact I.free
 ·have:=I.freeC x c h;rw[bM (ne this)];exact this
 ·obtain⟨d,g,i⟩:=I.pin p r;exact⟨d,by rw[bM (ne g)];exact g,i⟩
 ·by_cases j:b=a
  ·subst j;rw[cX]at q;cases q;exact(show ObjOk X.prog X.w H s.heap b (.frz ob (aU b ps))from I.hok b _ e).2
  ·rw[bM j]at q;exact(I.hok b u q).stay (λ_ _ _ z=>z) (λc h=>by rw[bM λz=>by rw[z,e]at h;cases h];exact h) λc k h=>by rw[bM λz=>by rw[z,e]at h;cases h];exact h
end
noncomputable def qB(i:Nat)(c:aF)(b:Hm):Option (Nat×jx):=match c[i]? with
 |some (aX (.loc a))=>match b[a]? with
  |some (.dT kvs)=>aX (a,kvs)|_=>aY
 |_=>aY
theorem Fb{i:Nat}{d:aF}{c:Hm}{a:Nat}{b:jx}(h:qB i d c=aX (a,b)):c[a]?=aX (.dT b):=by
 unfold qB at h;split at h
 ·split at h
  ·rename_i hc;cases h;exact hc
  ·cases h
 ·cases h
noncomputable def Ac(i:Nat)(d e:ME):ME:=λc b=>match qB i c b with
 |some (a,kvs)=>(d c (b.set a (.dF kvs))).bind λr=>match r.2[a]? with
  |some (.dF kvs')=>aX (r.1,r.2.set a (.dT kvs'))|_=>aY
 |none=>e c b
noncomputable def eV(i:Nat)(d e:MS):MS:=λc b=>match qB i c b with
 |some (a,kvs)=>(d c (b.set a (.dF kvs))).bind λr=>match r.2.2[a]? with
  |some (.dF kvs')=>aX (r.1,r.2.1,r.2.2.set a (.dT kvs'))|_=>aY
 |none=>e c b
section
variable{X:Cx}{a8T:jw}{σ:St}{H:Hp}{s:XD}{π:Nat->Addr}{ρ:aF}{μ:Hm}{a:Nat}{kvs:jx}
theorem Fc(I:Inv X a8T σ H s)(R:Rp X.K π H μ)(E:En X.K π μ.length H σ ρ)(hc:μ[a]?=aX (.dT kvs)):∃b ps,H (π a)=aX (aU (π a) ps)/\Inv X a8T σ (aP H (π a) (.frz b (aU (π a) ps))) s /\
  Rp X.K π (aP H (π a) (.frz b (aU (π a) ps))) (μ.set a (.dF kvs))/\En X.K π (μ.set a (.dF kvs)).length (aP H (π a) (.frz b (aU (π a) ps))) σ ρ:=by
 obtain⟨ps,c,T⟩:=f9 R hc;obtain⟨_,⟨b,e⟩,_⟩:=(show ObjOk X.prog X.w H s.heap (π a) (aU (π a) ps)from I.hok _ _ c);obtain⟨d,R2⟩:=R.put (c:=.dF kvs) (o:=.frz b (aU (π a) ps)) (Xz.mp hc).1 c (.inr (.inr ⟨_,rfl⟩)) ⟨b,ps,rfl,T.to⟩;exact⟨b,ps,c,Inv.freeze I c e,R2,E.mono d⟩
theorem sF{i:jw}{n:St}{k:Hp}{x:XD}{c:Nat->Addr}{g:Hm}{E:Obj}{ps:bO}{d:jx}(I:Inv X a8T σ H s)(e:H (π a)=aX (aU (π a) ps))(A:a<μ.length)
  (y:Inv X i n k x)(w:Rp X.K c k g)(l:Ext π (μ.set a (.dF kvs)).length (aP H (π a) (.frz E (aU (π a) ps))) c g.length k)(hc:g[a]?=aX (.dF d)) :
  ∃q,Inv X i n q x/\Ext π μ.length H c (g.set a (.dT d)).length q/\Rp X.K c q (g.set a (.dT d))/\Ext0 c g.length k c (g.set a (.dT d)).length q:=by
 have r:c a=π a:=l.pi a (by rw[YL];exact A);obtain⟨G,j,v,T⟩:=r9 w hc;obtain⟨K,R2⟩:=w.put0 (c:=.dT d) (o:=aU (c a) j) (Xz.mp hc).1 v (.inr (.inr (.inr ⟨_,_,rfl⟩))) ⟨j,rfl,T.to⟩;rw[r]at v;refine⟨aP k (c a) (aU (c a) j),?_,⟨?_,λb B=>l.pi b (by rw[YL];exact B),λp J h=>?_,λp o u h=>?_⟩,R2,K⟩
 ·rw[r];exact Inv.thaw I e y v
 ·have:=l.le;rw[YL]at this ⊢;exact this
 ·have m:p≠π a:=λz=>by rw[z,e]at h;cases h
  have:=l.tup p J (by rw[bM m];exact h);rw[r,bM m];exact this
 ·have m:p≠π a:=λz=>by rw[z,e]at h;cases h
  have:=l.frz p o u (by rw[bM m];exact h);rw[r,bM m];exact this
theorem En.mono0{K:Xy}{b:Nat->Addr}{n g:Nat}{c:Hp}(E:En K π n H σ ρ)(e:Ext0 π n H b g c):En K b g c σ ρ:=
 ⟨E.len,λi d h=>let⟨v,j,k⟩:=E.get i d h;⟨v,j,k.mono0 e⟩⟩
end
section
variable{X:Cx}{e:Expr}{st:Stmt}{i:Nat}
theorem Q7{y z:ME}(h1:QE X e y)(Z:QE X e z):QE X e (Ac i y z):=⟨by
 intro j s G H Q I hw;obtain⟨l,B,A,d,q,R,E,c,k⟩:=hw;unfold Ac at c;split at c
 ·rename_i a p hv;obtain⟨⟨x,g⟩,Y,c⟩:=Xv.mp c;dsimp only at c;split at c
  ·rename_i w n;cases c;have hc:=Fb hv;obtain⟨ob,ps,T,K,N,J⟩:=Fc I R E hc;refine aR (h1.h j s G _ (λv h=>∃b,Ext l (A.set a (.dF p)).length (aP H (l a) (.frz ob (aU (l a) ps))) b g.length h/\Rp X.K b h g/\IsD X.K b g.length h v d) K ⟨l,B,_,d,g,N,J,Y,λb v h m R2 o=>⟨b,m,R2,o⟩⟩) λu s2 ⟨v,h,L,rv,b,m,R2,o⟩=>?_;obtain⟨r,M,U,O,x3⟩:=sF I T (Xz.mp hc).1 L R2 m n;exact⟨v,r,M,rv,k b v r U O (o.mono0 x3)⟩
  ·cases c
 ·exact Z.h j s G H Q I ⟨l,B,A,d,q,R,E,c,k⟩⟩
theorem Ad{Y Z:MS}(h1:QS X st Y)(h2:QS X st Z):QS X st (eV i Y Z):=⟨by
 intro J s σ H D I hw;obtain⟨l,ρ,K,B,o,T,R,E,r,k⟩:=hw;unfold eV at r;split at r
 ·rename_i a w hv;obtain⟨⟨fl1,ρ1,g⟩,g1,r⟩:=Xv.mp r;dsimp only at r;split at r
  ·rename_i U p;cases r;have hc:=Fb hv;have M:=(Xz.mp hc).1;obtain⟨N,O,L,I1,R1,E1⟩:=Fc I R E hc;refine aR (h1.h J s σ _ ⟨λc h=>B=.nx/\∃b,Ext l (K.set a (.dF w)).length (aP H (l a) (.frz N (aU (l a) O))) b g.length h/\Rp X.K b h g/\En X.K b g.length h c o,
     λv h=>∃d,B=.rt d/\∃b,Ext l (K.set a (.dF w)).length (aP H (l a) (.frz N (aU (l a) O))) b g.length h/\Rp X.K b h g/\IsD X.K b g.length h v d,
     λc h=>B=.bk/\∃b,Ext l (K.set a (.dF w)).length (aP H (l a) (.frz N (aU (l a) O))) b g.length h/\Rp X.K b h g/\En X.K b g.length h c o,
     λc h=>B=.ct/\∃b,Ext l (K.set a (.dF w)).length (aP H (l a) (.frz N (aU (l a) O))) b g.length h/\Rp X.K b h g/\En X.K b g.length h c o⟩ I1 ⟨l,ρ,_,B,o,g,R1,E1,g1,?_⟩) λf s2 q=>?_
   ·cases B with
    |nx=>exact λb c h j R2 m=>⟨rfl,b,j,R2,m⟩|bk=>exact λb c h j R2 m=>⟨rfl,b,j,R2,m⟩|ct=>exact λb c h j R2 m=>⟨rfl,b,j,R2,m⟩|rt d=>exact λb v h j R2 Q=>⟨d,rfl,b,j,R2,Q⟩
   ·cases f with
    |next=>obtain⟨c,h,x,rfl,b,j,R2,m⟩:=q;obtain⟨n,y,A,z,G⟩:=sF I L M x R2 j p;exact⟨c,n,y,k b c n A z (En.mono0 m G)⟩|brk=>obtain⟨c,h,x,rfl,b,j,R2,m⟩:=q;obtain⟨n,y,A,z,G⟩:=sF I L M x R2 j p;exact⟨c,n,y,k b c n A z (En.mono0 m G)⟩|cont=>obtain⟨c,h,x,rfl,b,j,R2,m⟩:=q;obtain⟨n,y,A,z,G⟩:=sF I L M x R2 j p;exact⟨c,n,y,k b c n A z (En.mono0 m G)⟩|ret u=>obtain⟨v,c,h,x,rv,d,rfl,b,j,R2,Q⟩:=q;obtain⟨n,y,A,z,G⟩:=sF I L M x R2 j p;exact⟨v,c,n,y,rv,k b v n A z (Q.mono0 G)⟩
  ·cases r
 ·exact h2.h J s σ H D I ⟨l,ρ,K,B,o,T,R,E,r,k⟩⟩
end
noncomputable def Ae(d:Addr)(a:Obj)(ps:bO):It:=⟨λi H=>H d=aX (.frz a (aU d ps))/\i<ps.length,λi H x b=>b=H/\∃p,ps[i]?=aX p/\x=.ref p.2.1,λi H=>H d=aX (.frz a (aU d ps))/\ps.length<=i⟩
theorem oN{X:Cx}{a8T:jw}{σ:St}{H:Hp}{s:XD}{d:Addr}{c:Obj}{ps:bO}(I:Inv X a8T σ H s)(e:H d=aX (.frz c (aU d ps))) :
  (d==YY)=b4/\ps.length<=XQ/\∃a b,RawD s.heap d a b/\c.data=.dict a b/\a.toList.map (·.key)=ps.map λp=>XO p.2.1:=by
 obtain⟨g,⟨q,r,m,l,o,a,b,h,j,i,k,n⟩,_⟩:=(show ObjOk X.prog X.w H s.heap d (.frz c (aU d ps))from I.hok d _ e);rw[g]at h;cases h;refine⟨m,l,a,b,⟨c,g,j,i⟩,i,?_⟩;rw[k,u4 (P:=X.prog) (w:=X.w),Yc,<- z7 r];rfl
theorem Fd:∀(ps:bO)(ws:gq),ps.length=ws.length->(a2F uF ps ws).map (·.val)=ws
 |[],[],_=>rfl|[],_::_,h=>by cases h
 |_::_,[],h=>by cases h
 |p::ps,u::ws,h=>by rw[YH,XS,Fd ps ws (by simpa using h)];rfl
theorem sG{X:Cx}{a8T:jw}{σ:St}{H:Hp}{s:XD}{d:Addr}{c:Obj}{ps:bO}(I:Inv X a8T σ H s)(e:H d=aX (.frz c (aU d ps))) :
  (d==YY)=b4/\ps.length<=XQ/\∃a b,RawD s.heap d a b/\c.data=.dict a b/\Vals (ps.map (·.2.2)) (a.toList.map (·.val)):=by
 obtain⟨h,⟨g,r,p,n,o,a,b,i,l,j,m,q⟩,_⟩:=(show ObjOk X.prog X.w H s.heap d (.frz c (aU d ps))from I.hok d _ e);rw[h]at i;cases i;refine⟨p,n,a,b,⟨c,h,l,j⟩,j,?_⟩;have k:(a2F uF ps g).map (·.val)=g:=Fd ps g (by
  have:=r.length;rw[Xx]at this;exact this)
 rw[m,k];exact r
theorem Q8{P:Yk}{w:Yz}{K:Xy}{tg:Expr}{d n:Addr}{U:Obj}{ps:bO}{es:Array DictEntry}{ep:Nat}(hd:U.data=.dict es ep):Turn Qc P w K tg (Ae d U ps) [n] n (λi h=>h.IsKeyIter n d i es.size ep) where
 mem:=by simp
 obj:=λi h st b j=>by
  have e:b=n:=by simpa using j
  subst e;obtain⟨o,e,c,d⟩:=st;exact⟨o,e,λv z=>by rw[d]at z;cases z⟩
 keep:=λi h q st k=>st.at λo e=>k n (by simp) o e;item:=by
  intro X O hw N hc i p s Y H E I x st Q;subst O hw N;obtain⟨m,r⟩:=Q;obtain⟨lo,hl,A,y,g,a,u⟩:=oN I m;rw[hd]at a;cases a;have hs:es.size=ps.length:=by have:=congrArg YF u;simpa using this
  obtain⟨B,G,f2,J,L,M⟩:=x n (by simp);refine u7 (I.ok.hd hc) st g (λe q l T sb=>?_) λhn=>by simp at hn;lia
  have Z:Inv X p Y H {s with heap:=q}:=I.turned (t':=s.toks) (λb o j e=>(sb.2 b j).trans e) B G J L M;obtain⟨o,e1,c,d1⟩:=id T;have R:ps[i]?=aX ps[i]:=XM r;have ek:e.key=.ref (ps[i]).2.1:=by have:=congrArg (·[i]?) u;simp only[XR,YW,l,R,X3]at this;exact XZ this
  exact⟨e.key,rfl,rG (s:={s with heap:=q}) e1 c d1 (by decide) ⟨.ref (ps[i]).2.1,H,Z,ek,⟨rfl,ps[i],R,rfl⟩,T,λb j=>(x b j).1⟩⟩
 done:=by
  intro X O hw N hc i p s Y H E I x st Q;subst O hw N;obtain⟨m,r⟩:=Q;obtain⟨lo,hl,A,y,g,a,u⟩:=oN I m;rw[hd]at a;cases a;have hs:es.size=ps.length:=by have:=congrArg YF u;simpa using this
  obtain⟨B,G,f2,J,L,M⟩:=x n (by simp);exact u7 (I.ok.hd hc) st g (λe q l=>by
   have:=(a1Z.mp l).1;lia) λ_ q eb=>⟨rfl,I.turned (t':=s.toks) (λb o j e=>eb b o j e) B G J L M⟩
 self:=λ_ _ _ _ _ st h=>a6V st h
theorem Q9{X:Cx}{l tg:Expr}{n:TE}(m:PE X l n):PI X tg l (λσ H R=>n σ H λv a=>∃d k ps,v=.ref d/\a d=aX (.frz k (aU d ps))/\R (Ae d k ps) a):=by
 intro j s σ H R I h;refine aR (m j s σ H _ I h) λv i ⟨y,a,c,x,w⟩=>?_;obtain⟨d,k,ps,e,r,q⟩:=w;subst e;obtain rfl:v=XO d:=x;obtain⟨u,m,A,z,g,hd,B⟩:=oN c r;refine zZ u g ⟨i.heap.objs.size,[i.heap.objs.size],_,_,a,rfl,c.kept (t':=i.toks) λb o e=>XE _ e,Q8 hd,⟨_,XT _ rfl,rfl,rfl⟩,λb p=>?_,q⟩;have e:b=i.heap.objs.size:=by simpa using p
 subst e;exact c.fpOk (XJ _) (c.hok.fresh (XJ _))
noncomputable def fJ(a:jx):List D:=a.map λk=>D.tup (k.1.map D.int)
theorem Ra{K:Xy}{π:Nat->Addr}{n:Nat}{H:Hp}{d:Addr}{j:Obj}{ps:bO}{a:jx}(g:H d=aX (.frz j (aU d ps)))(T:IsTs K π n H ps a):Wk K (Ae d j ps) (cH (.tup (fJ a))) π n H:=by
 have w:ps.length=a.length:=by have:=congrArg YF T.to.1;simpa using this
 refine⟨λc s k i e R z=>?_,λc s k i l e R z=>?_⟩
 ·have b:(fJ a)[i]?=none:=XZ z;have:=Yy.mp b;rw[fJ,Xx]at this;exact⟨e.frz _ _ _ g,by lia⟩
 ·have b:(fJ a)[i]?=aX l:=XZ z;have hi:i<a.length:=by have:=(Xz.mp b).1;rwa [fJ,Xx]at this
  refine⟨⟨e.frz _ _ _ g,by lia⟩,λv u ⟨m,p,o,q⟩=>?_⟩;subst m q;obtain⟨x,h,r⟩:=(T.to.2.1.mono e).get b;rw[XR,o]at h;cases h;exact⟨.refl,R,r⟩
noncomputable def fA(m:ME):MI:=λc b=>(m c b).bind λp=>match p.1 with
 |.loc a=>match p.2[a]? with
  |some (.dF kvs)=>aX (cH (.tup (fJ kvs)),kvs.length+1,p.2)|_=>aY
 |_=>aY
theorem Af{X:Cx}{e:Expr}{m:ME}(h:QE X e m):QJ X e (fA m):=⟨λtg a8T s σ H R I hw=>by
 obtain⟨z,A,v,u,n,w,i,E,a,k⟩:=hw;obtain⟨⟨x,y⟩,l,a⟩:=Xv.mp a;dsimp only at a;split at a
 ·split at a
  ·rename_i p hc;cases a;refine Q9 h.h a8T s σ H R I ⟨z,A,v,_,_,i,E,l,λb B g j c o=>?_⟩;cases o;obtain⟨q,r,d,T⟩:=r9 c hc;exact⟨_,q,r,rfl,d,k b g _ j c (Ra d T)⟩
  ·cases a
 ·cases a⟩
end L3
namespace L3
open PySem L2 PySem.W PyProof.Rows
section
variable{P:Yk}{w:Yz}{A:Yt}{E:Value->XD->Prop}{s:XD}
noncomputable def Fe(h:YZ)(b:Addr)(k:List Int):Prop:=∃xs:gq,a4u h b xs.toArray/\a0M xs k
theorem Rb{bs:List Addr}{ks:List (List Int)}(I:0<bs.length)(q:ks.length=bs.length)(key:∀(j:Nat)(b:Addr),bs[j]?=aX b->Fe s.heap b (ks.getD j [])/\ks.getD j []≠[]):pZ P w A (bs.map XO) (λi j=>HT.lexLt (ks.getD i []) (ks.getD j [])) s:=by
 have h:∃fs:gq,fs.length=bs.length/\KatTups s.heap (bs.map XO) fs/\∀v∈fs,∃i t,v=a0o i t:=by
  clear I;induction bs generalizing ks with
  |nil=>exact⟨[],rfl,.nil,λv a=>nomatch a⟩|cons b bs N=>
   match ks,q with
   |k::ks,q=>
    obtain⟨fs,r,l,m⟩:=N (ks:=ks) (by simpa using q) λj c hc=>by simpa using key (j+1) c (by simpa using hc)
    obtain⟨⟨xs,⟨o,e,c,n,d⟩,hi⟩,g⟩:=key 0 b rfl;simp only[a5S]at hi g;cases hi with
    |nil=>exact absurd rfl g|@cons i u Q O K=>
     refine⟨a0o i u::fs,by simp[r],.cons e c d (by simp) l,λv a=>?_⟩;rcases Yi.mp a with rfl|a
     ·exact⟨i,u,rfl⟩
     ·exact m v a
 obtain⟨fs,r,l,m⟩:=h;unfold pZ;refine kat_kind (T:=.type "int") l ?_ (λv a=>?_) rfl ⟨rfl,λi j C hi p J=>?_⟩
 ·lia
 ·obtain⟨i,t,rfl⟩:=m v a;exact .now
 ·rw[Xx]at hi p;obtain⟨⟨xa,⟨Y,z,R,U,x⟩,L⟩,_⟩:=key i bs[i] (XM hi);obtain⟨⟨xb,⟨Z,B,T,X,y⟩,M⟩,_⟩:=key j bs[j] (XM p);have G:(bs.map XO).getD i .none=.ref bs[i]:=by simp[Zz,hi]
  have H:(bs.map XO).getD j .none=.ref bs[j]:=by simp[Zz,p]
  rw[G,H];exact kat_lt z x B y (Eo 0 L M J)
theorem Rc{d:Addr}{es:Array DictEntry}{ep:Nat}{Q:Value->XD->Prop}{bs:List Addr}{ks:List (List Int)}(J:A.handled=aY)(lo:(d==YY)=b4)(g:RawD s.heap d es ep)(r:es.toList.map (·.key)=bs.map XO)(H:es.size<64)(L:ks.length=bs.length)
  (key:∀(j:Nat)(b:Addr),bs[j]?=aX b->Fe s.heap b (ks.getD j [])/\ks.getD j []≠[])
  (q:∀(h' n:YZ)(tk:Nat)(e:Nat),(∀b o,s.heap.get? b=aX o->h'.get? b=aX o)->(∀b o,h'.get? b=aX o->n.get? b=aX o)->n.get? h'.objs.size=aX (Zv "list" ((dJ (λi j=>HT.lexLt (ks.getD i []) (ks.getD j [])) es.size).map λi=>XO (bs.getD i 0)).toArray e)->Q (.ref h'.objs.size) {s with heap:=n,toks:=tk}) :
  X5 (Yg P w) A (call (.builtin "sorted") [.ref d]) Q E s:=by
 have l:bs.length=es.size:=by have:=congrArg YF r;simpa using this.symm
 refine a4D kind_sorted plain_sorted entry_sorted (args_sorted1 _) ?_;unfold a5B;refine Xw (m:=checkCount "sorted" 1 1 _) (XC (Xw (kdu_collect (A:=A.in1) (ER lo) J g (by rw[X2];lia) λh' tk c z a=>?_)));have G:c.toList=bs.map XO:=by
  rw[<- r];refine a1o λi=>?_;rw[XR,YW,YW];cases y:c[i]? with
  |some v=>obtain⟨e,R,T⟩:=a.2 i v y;rw[R,T];rfl|none=>
   have:c.size<=i:=by simpa using y
   rw[a2C (by rw[<- a.1];exact this)];rfl
 rw[G];have B:(bs.map XO).length=es.size:=by rw[Xx,l]
 refine Xw (a1S ?_ (by rw[B,X2];lia));have k:(h'.push (Zv "list" (bs.map XO).toArray 0)).get? h'.objs.size=aX (Zv "list" (bs.map XO).toArray 0):=XT _ rfl;have fin:∀h:gq,h=((dJ (λi j=>HT.lexLt (ks.getD i []) (ks.getD j [])) es.size).map λi=>XO (bs.getD i 0))->Q (.ref h'.objs.size) {s with heap:=a3X (h'.push (Zv "list" (bs.map XO).toArray 0)) h'.objs.size (bs.map XO) h.toArray,toks:=tk}:=by rintro h rfl;obtain⟨e,I⟩:=sortedHeap_at (h:=h'.push (Zv "list" (bs.map XO).toArray 0)) (out:=((dJ (λi j=>HT.lexLt (ks.getD i []) (ks.getD j [])) es.size).map λi=>XO (bs.getD i 0)).toArray) k;refine q h' _ tk e z (λb o x=>?_) I;rw[a8K (XU (XN x)) (by rw[a2e];exact a3K (XN x))];exact XE _ x
 by_cases u:2<=es.size
 ·refine Xw (YI (Ze a3u (s:={s with heap:=h'.push (Zv "list" (bs.map XO).toArray 0),toks:=tk}) ⟨_,k,rfl⟩ a3f (E4 (an:=λi j=>HT.lexLt (ks.getD i []) (ks.getD j [])) (by lia) (by lia) k (λn M=>?_) ⟨_,rfl,?_⟩) (a3x _)))
  ·refine Rb (by lia) L λj b K=>?_;obtain⟨⟨O,⟨o,o1,N⟩,hi⟩,p⟩:=key j b K;have m:=z _ _ o1;exact⟨⟨O,⟨o,M b o (XU (XN m)) (XE _ m),N⟩,hi⟩,p⟩
  ·refine XC ⟨_,rfl,fin _ ?_⟩;rw[B];refine Ye λi hi=>?_;have hi:i<bs.length:=by have:=Zs.mp ((zK _ (n:=es.size) (by lia)).mem_iff.mp hi);lia
   simp[Zz,hi]
 ·refine Xw (YI (Ze a3u (s:={s with heap:=h'.push (Zv "list" (bs.map XO).toArray 0),toks:=tk}) ⟨_,k,rfl⟩ a3f (Ep (by lia) k ⟨_,rfl,?_⟩) (a3x _)));refine XC ⟨_,rfl,fin (bs.map XO) ?_⟩;match bs,l with
  |[],e=>rw[<- e];show[]=(dJ _ 0).map _;rw[zL];rfl|[b],e=>rw[<- e];show[XO b]=(dJ _ 1).map _;rw[Er];rfl|_::_::_,e=>rw[<- e]at u;simp at u
end
end L3
namespace L3
open PySem L2
noncomputable def Ff(K:Xy):gw->Hp->VK->Prop:=λxs H Q=>∃a ps,xs=[V.ref a]/\H a=aX (aU a ps)/\eJ K H ps/\ps.length<64/\(∀p∈ps,p.1≠[])/\∀l,H l=aY->Q (.ref l) (aP H l (.lst ((l8 ps).map λp=>V.ref p.2.1)))
section
variable{X:Cx}
theorem Rf(hc:X.calm=b5):CallR X (.builtin "sorted") (Ff X.K):=by
 intro n s σ H xs us Q I r h;obtain⟨a,c,rfl,O,B,N,w,q⟩:=h;obtain⟨u,rfl,ru⟩:=fY r;cases ru;obtain⟨lo,m,J,ep,g,A⟩:=pX I O B;have R:J.size=c.length:=by have:=congrArg YF A;simpa using this
 have L:∀{j:Nat}{b:Addr},(c.map (·.2.1))[j]?=aX b->∃p∈c,c[j]?=aX p/\p.2.1=b:=λ{j b} d=>by rw[XR]at d;obtain⟨p,k,K⟩:=XA.mp d;exact⟨p,X6 k,k,K⟩
 refine Rc (bs:=c.map (·.2.1)) (ks:=c.map (·.1)) (I.ok.hd hc) lo g (by rw[A,Yc];rfl) (by lia) (by simp) (λj b d=>?_) λo M y e U Y Z=>?_
 ·obtain⟨p,E,k,rfl⟩:=L d;have G:(c.map (·.1)).getD j []=p.1:=by simp[Zz,k]
  rw[G];obtain⟨x,rx,t,_⟩:=I.tuple (B p E);exact⟨⟨x,t,xZ rx⟩,w p E⟩
 ·have z:Inv X n σ H {s with heap:=o,toks:=y}:=I.kept (t':=y) U;refine⟨.ref o.objs.size,_,z.laid (t':=y) (h':=M) (a:=o.objs.size) (o:=.lst ((l8 c).map λp=>V.ref p.2.1)) Y (XJ _) ?_,rfl,q _ (z.hok.fresh (XJ _))⟩;have v:(l8 c).length=c.length:=sortT_perm.length_eq;refine⟨by rw[Xx,v];exact m,_,e,?_,Z⟩;unfold l8;rw[R,Yc];have:∀l:List Nat,(∀i∈l,i<c.length)->Vals (l.map ((λp:List Int×Addr×V=>V.ref p.2.1)∘λi=>c.getD i ([],0,.non))) (l.map λi=>XO ((c.map (·.2.1)).getD i 0)):=λl m=>by
   induction l with
   |nil=>exact .nil|cons i l T=>refine .cons ?_ (T λj d=>m j (X7 _ d));have hi:=m i (X8 ..);show XO _=XO _;simp[Zz,hi]
  exact this _ λi hi=>Zs.mp ((lW _ c.length).mem_iff.mp hi)
end
noncomputable def qC(b:Hm):D->Bool
 |.loc a=>match b[a]? with|some (.dT _)=>b5|_=>b4
 |_=>b4
noncomputable def j4(f:D->List D->Hm->jk)(b:ME)(c:MA):ME:=λa d=>(b a d).bind λp=>match qC p.2 p.1 with
 |true=>(c a p.2).bind λq=>f p.1 q.1 q.2|false=>aY
noncomputable def Ag(K:Xy)(x:V)(H:Hp):Prop:=∃a ps,x=.ref a/\H a=aX (aU a ps)/\eJ K H ps
theorem Rg{K:Xy}{π:Nat->Addr}{H:Hp}{b:Hm}{v:V}{x:D}(R:Rp K π H b)(h:IsD K π b.length H v x)(e:qC b x=b5):Ag K v H:=by
 cases h with
 |@loc a i=>
  simp only[qC]at e;split at e
  ·rename_i j d;obtain⟨g,c,T⟩:=f9 R d;exact⟨_,g,rfl,c,T.keys⟩
  ·cases e
 |_=>cases e
section
variable{X:Cx}{e o:Expr}{mo:ME}{to:TE}{t:TA}{apos cpos:Zj}{es:List Expr}{ms:MA}{n:Nat}{r:V->gw->Hp->VK->Prop}{f:D->List D->Hm->jk}{name:Str}{id:String}
theorem Rh(m:Slot "dict" name id) (w:a6j (.builtin id)=pure (.type "method_descriptor")) (N:kK X id r)(O:PE X o to)(L:PA X (e::es) t)(i:a0v o name X.env (eval o X.env)=eval o X.env)
  (l:((a0l cpos (Yr (e::es) X.env)).all (λx=>!x.1)&&(a3v cpos (a1U [] X.env)).all (λx=>x.1.isSome)&&decide ((e::es).length+([]:List a1a).length+(if([]:List a1a).isEmpty then 0 else 1)<30))=b5)
  (j:(apos.endLine==cpos.line)=b5)(R:Yr (e::es) X.env=(b4,eval e X.env)::Yr es X.env)(c:(a0l cpos (Yr es X.env)).any (·.1)=b4) :
  PE X (.Call (.Attribute o name apos) (e::es) [] cpos) (λk H Q=>to k H λx p=>Ag X.K x p/\t k p λq u=>r x q u Q):=by
 intro d s k H Q I h;refine a6h i l j rfl (aR (O d s k H _ I h) λv s1 ⟨x,p,y,Y,ty,T⟩=>?_);obtain⟨a,ps,rfl,G,M⟩:=ty;obtain rfl:v=XO a:=Y;obtain⟨lo,hl,q,ep,g,_⟩:=pX y G M;refine⟨"dict",id,a1e,m,w,g.ty,λb E=>?_,?_⟩
 ·cases E;obtain⟨z,J,K,_⟩:=g;exact⟨z,J,K.2.1⟩
 have A:=L cpos d s1 k p _ y T;rw[R]at A ⊢;refine Z7 (by show(b4||(a0l cpos (Yr es X.env)).any (·.1))=b4;rw[c]<;>rfl) (a5A ?_);exact aR A λus s2 ⟨q,u,B,Z,U⟩=>N d s2 k u (.ref a) q _ us Q B rfl Z U
theorem Ri{K:Xy}(z:jI K f r):∀σ H Q,tM K (j4 f mo ms) σ H Q->tM K mo σ H λx g=>Ag K x g/\tMA K ms σ g λvs h=>r x vs h Q:=by
 rintro σ H Q ⟨J,v,I,d,i,R,E,a,k⟩;obtain⟨⟨x,b⟩,w,a⟩:=Xv.mp a;dsimp only at a;split at a
 ·rename_i A;obtain⟨⟨u,c⟩,y,a⟩:=Xv.mp a;refine⟨J,v,I,x,b,R,E,w,λj G g p m s=>⟨Rg m s A,j,v,b,u,c,m,E.mono p,y,λl vs h q R2 B=>?_⟩⟩;exact z l h c x u d i G vs Q R2 (s.mono q) B a (k.after (p.trans q))
 ·cases a
theorem Fg(c:Slot "dict" name id) (d:a6j (.builtin id)=pure (.type "method_descriptor")) (j:kK X id r)(h:jI X.K f r)
  (l:QE X o mo)(g:QA X (e::es) ms n)(m:jY o=b5)(i:(apos.endLine==cpos.line)=b5)(k:(e::es).length<30):QE X (.Call (.Attribute o name apos) (e::es) [] cpos) (j4 f mo ms):=by
 have b:=g.s;have a:=b;rw[YG,XG]at a;exact⟨c9 (Rh c d j l.h g.h (lV m) (Ec b k) i (f6 a.1) (oB a.2)) (Ri h)⟩
end
noncomputable def iD:D->List D->Hm->jk
 |.loc a,[y,z],μ=>match μ[a]? with
  |some (.dT kvs)=>(dR y).map λk=>((bV kvs k).getD z,μ)|_=>aY
 |_,_,_=>aY
noncomputable def Fh(K:Xy):V->gw->Hp->VK->Prop:=λx vs H Q=>∃a b ps k z,x=.ref a/\vs=[.ref b,z]/\H a=aX (aU a ps)/\eJ K H ps/\SqT K H b (k.map V.int)/\Q ((eI ps k).getD z) H
theorem Rj{K:Xy}:jI K iD (Fh K):=by
 intro u H A x z d s v y Q R m c a k;unfold iD at a;split at a
 ·split at a
  ·rename_i p hc;obtain⟨h,j,a⟩:=XA.mp a;cases a;cases m;cases c with
   |cons n t=>
    cases t with
    |cons o t=>
     cases t;obtain⟨q,i,T⟩:=f9 R hc;obtain⟨b,rfl,l⟩:=kT n j;refine⟨_,b,q,h,_,rfl,rfl,i,T.keys,l,k u _ H .refl R ?_⟩;rcases T.val h with⟨e,g⟩|⟨v,w,e,g,r⟩
     ·rw[e,g];exact o
     ·rw[e,g];exact r
  ·cases a
 ·cases a
theorem Rk{X:Cx}(w:X.A.units+1<Zk):kK X "dict.get" (Fh X.K):=by
 intro m s N H x L v K Q I E B h;obtain⟨a,b,g,k,z,rfl,rfl,e,o,n,q⟩:=h;cases E;obtain⟨u,G,rfl,A,i⟩:=B.two;obtain rfl:u=XO b:=A;obtain⟨p,J,l,r,d⟩:=jJ I (.of e) o;refine a2m a4U d.typeIs PySem.F.entry_dict_get (PySem.F.args_dict_get_3 _ _ _) (meetsH_dict_get_default (ZH (ZZ X.prog X.w)) a b p G) ⟨nB w,k,_,kR I n,d,?_⟩;refine⟨(eI g k).getD z,H,I.tok _,?_,q⟩;have:=m9 r k;cases j:eI g k with
 |none=>
  rw[j]at this;cases c:(a2Q (bQ g l) k).map (·.2)with
  |none=>exact i|some y=>rw[c]at this;exact this.elim
 |some M=>
  rw[j]at this;cases c:(a2Q (bQ g l) k).map (·.2)with
  |none=>rw[c]at this;exact this.elim|some y=>rw[c]at this;exact this
section
variable{P:Yk}{w:Yz}{K:Type} [DecidableEq K] {knd:HeapKind P w K}{A:Yt}{E:Value->XD->Prop}{s:XD}{d a:Addr}{k:K}{xs:List (K×Addr×Value)}
theorem Rl{v:Value}{Q:Value->XD->Prop}(z:knd.room A)(q:knd.is s.heap k a)(I:s.heap.DictOfH knd d xs)(hz:xs.length<=XQ)
  (h1:∀p,a2Q xs k=aX p->Q p.2 {s with toks:=s.toks+knd.draws k})(H:a2Q xs k=aY->∀n,n.DictOfH knd d (a7E xs k a v)->a0k d s.heap n->Q v {s with heap:=n,toks:=s.toks+knd.draws k}) :
  X5 (Yg P w) A (a5q d (.ref a) v) Q E s:=by
 obtain⟨o,J,G,g,hc,hd,m,h,r⟩:=id I;unfold a5q;refine YI (Xw (knd.pyHash z q (Xw (a7k (s:={s with toks:=s.toks+knd.draws k}) z q g hd m h r (λi=>?_) λj p u=>?_))))
 ·have b:=a7H i;have l:k∉xs.map (·.1):=not_mem_keys_of_get i;refine Xw (a1p (Xw (wpAny_updateDictKeys (hz:=by have e:=a4Z m;lia) (s:={s with toks:=s.toks+knd.draws k}) g hd (XC (H b _ ⟨_,_,G+1,Zd _ g (Obj.isFreed_of_dict (a5P hd _)),hc.mapDictKeys _,a5P hd _,?_,λx c=>?_,?_⟩ (ZI ..))))))
  ·rw[a6X b];simp[m,a7w]
  ·rw[a6X b]at c;rcases Yq.mp c with c|c
   ·exact knd.keeps (h x c) g hd (ZI ..)
   ·rw[XX]at c;subst c;exact knd.keeps q g hd (ZI ..)
  ·rw[a6X b,X4,Y5];exact⟨r,by simp,λx c y B e=>by
    simp only[XS,a0y,XX]at B;subst B;exact l (e▸c)⟩
 ·refine Xw (Zf (s:={s with toks:=s.toks+knd.draws k}) g hd ?_);rw[a8R m j,u];exact Xw (a1p (XC (h1 _ (atKey_of_get r u))))
theorem Rm(knd:HeapKind P w K)(d a:Addr)(hd:(d==YY)=b4)(v:Value):a7L P w (Builtin.«dict.setdefault» ⟨[.ref d,.ref a,v],[]⟩) (λA R s=>knd.room A.in1/\∃k xs,knd.is s.heap k a/\s.heap.DictOfH knd d xs/\xs.length<=XQ /\
   (∀p,a2Q xs k=aX p->R (.ok (.ret p.2)) {s with toks:=s.toks+knd.draws k})/\(a2Q xs k=aY->∀b,b.DictOfH knd d (a7E xs k a v)->a0k d s.heap b->R (.ok (.ret v)) {s with heap:=b,toks:=s.toks+knd.draws k})):=
 .of_wp λA R s ⟨n,k,xs,j,g,o,h,i⟩=>by unfold Builtin.«dict.setdefault»;refine Xw ?_;unfold a8F;refine Xw (a0i g.typeIs (XC ?_));show X5 _ _ (if(d==YY)=b5 then _ else(a5q d (.ref a) v >>= _)) _ _ s;rw[if_neg (by rw[hd];exact X9)];exact Xw (Rl n j g o (λp m=>XC ⟨_,rfl,h p m⟩) λl b c e=>XC ⟨v,rfl,i l b c e⟩)
end
noncomputable def oO:D->List D->Hm->jk
 |.loc a,[y,z],μ=>match μ[a]? with
  |some (.dT kvs)=>(dR y).bind λk=>match bV kvs k with
   |some d=>aX (d,μ)|none=>if kvs.length<XQ then aX (z,μ.set a (.dT (dE kvs k z)))else aY
  |_=>aY
 |_,_,_=>aY
noncomputable def Fi(K:Xy):V->gw->Hp->VK->Prop:=λx vs H Q=>∃a b ps k z,x=.ref a/\vs=[.ref b,z]/\H a=aX (aU a ps)/\eJ K H ps/\SqT K H b (k.map V.int)/\((∃v,eI ps k=aX v/\Q v H)\/(eI ps k=aY/\ps.length<XQ/\Q z (aP H a (aU a (iO ps k b z)))))
theorem Rn{K:Xy}:jI K oO (Fi K):=by
 intro q H L x J d B v I Q R y h a k;unfold oO at a;split at a
 ·split at a
  ·rename_i e hc;obtain⟨c,u,a⟩:=Xv.mp a;cases y with
   |loc g=>
    cases h with
    |cons z t=>
     cases t with
     |cons p t=>
      cases t;obtain⟨i,m,T⟩:=f9 R hc;obtain⟨b,rfl,o⟩:=kT z u;refine⟨_,b,i,c,_,rfl,rfl,m,T.keys,o,?_⟩;have w:i.length=e.length:=by have:=congrArg YF T.to.1;simpa using this
      rcases T.val c with⟨j,l⟩|⟨v,E,j,l,A⟩
      ·rw[l]at a;dsimp only at a;split at a
       ·rename_i G;cases a;have s:=T.put c o p;obtain⟨n,r⟩:=R.put (c:=.dT (dE e c d)) (o:=aU _ (iO i c b _)) g m (.inr (.inr ⟨_,rfl⟩)) ⟨_,rfl,s.to⟩;exact .inr ⟨j,by lia,k q _ _ n r (p.mono n)⟩
       ·cases a
      ·rw[l]at a;cases a;exact .inl ⟨v,j,k q _ H .refl R A⟩
  ·cases a
 ·cases a
theorem Ro{X:Cx}(M:X.A.units+1<Zk):kK X "dict.setdefault" (Fi X.K):=by
 intro w s σ H x vs v us Q I U T h;obtain⟨a,b,n,k,z,rfl,rfl,e,G,B,q⟩:=h;cases U;obtain⟨u,Y,rfl,R,i⟩:=T.two;obtain rfl:u=XO b:=R;obtain⟨m,hl,Z,r,d⟩:=jJ I (.of e) G;have N:(bQ n Z).length<=XQ:=by have:=congrArg YF (l7 r);rw[Xx,Xx]at this;lia
 have c:=m9 r k;refine a2m a3H d.typeIs PySem.F.entry_dict_setdefault (PySem.F.args_dict_setdefault_3 _ _ _) (Rm (ZH (ZZ X.prog X.w)) a b m Y) ⟨nB M,k,_,kR I B,d,N,λp K=>?_,λJ A j l=>?_⟩
 ·rw[K]at c;rcases q with⟨o,g,q⟩|⟨g,_⟩
  ·rw[g]at c;exact⟨o,H,I.tok _,c,q⟩
  ·rw[g]at c;exact c.elim
 ·rw[J]at c;rcases q with⟨o,g,q⟩|⟨g,hz,q⟩
  ·rw[g]at c;exact c.elim
  ·obtain⟨ws',O,y⟩:=zX r k b i;rw[y]at j;have E:∃q,A.get? a=aX q:=let⟨q,_,_,L,_⟩:=j;⟨q,L⟩;exact⟨z,_,xY I (by rw[e];exact a1i) l E (u5 m (by have:=zW n k b z;lia) O j),i,q⟩
section
variable{P:Yk}{w:Yz}{A:Yt}{E:Value->XD->Prop}{s:XD}
end
section
variable{X:Cx}
end
noncomputable abbrev sH:=List (List Int×Addr×Value)
inductive Hits (A:Yt)(s:XD)(ys:sH):sH->Bool->Prop
 |nil:Hits A s ys [] b5
 |miss {x:List Int×Addr×Value}{r:sH}:a2Q ys x.1=aY->Hits A s ys (x::r) b4
 |hit {x:List Int×Addr×Value}{p:Addr×Value}{r:sH}{e b:Bool}:a2Q ys x.1=aX p->a4n A s x.2.2 p.2 e->Hits A s ys r b->Hits A s ys (x::r) (e&&b)
section
variable{P:Yk}{w:Yz}{A:Yt}{E:Value->XD->Prop}{s:XD}{a b:Addr}{xs ys:sH}{r:Bool}
theorem Fj{nm:String}{Q:Bool->XD->Prop}(hu:(ZH (ZZ P w)).room A)(la:(a==YY)=b4)(lb:(b==YY)=b4)(Y:s.heap.DictOfH (ZH (ZZ P w)) a xs)(Z:s.heap.DictOfH (ZH (ZZ P w)) b ys)
  (m:xs.length=ys.length->Hits A s ys xs r)(q:Q (xs.length==ys.length&&r) s):X5 (Yg P w) A (a3W nm a b) Q E s:=by
 obtain⟨oa,d,ep,o,_,u,O,J,na⟩:=Y;obtain⟨ob,fs,fp,B,_,N,v,K,U⟩:=Z;have X:=a4Z O;have sb:=a4Z v;unfold a3W ZO;rw[if_neg (by rw[la];exact X9),if_neg (by rw[lb];exact X9)];refine Xw (XC (Xw (XC (Xw (Zf o u ?_)))));dsimp only;refine Xw (Zf B N ?_);by_cases l:d.size=fs.size
 ·have T:xs.length=ys.length:=by lia
  have L:Q r s:=by simpa[T]using q
  have hh:=m T;rw[if_neg (by rw[l];simp)];refine Xw (a0n o u (Xw ?_));rw[a7m];simp only[a7l,a5u,Nat.add_sub_cancel,Nat.div_one];refine a7Q _ (λbY c M=>M=s/\c=(aY,())/\∃i,bY=a2o i (d.size-i)/\i<=d.size/\Hits A s ys (xs.drop i) r) _ ?_ ?_ _ _ ⟨rfl,rfl,0,by simp,Yu _,hh⟩
  ·rintro x bY c M ⟨rfl,rfl,i,k,hi,h⟩;have H:i<d.size:=a7e λz=>by rw[Nat.sub_eq_zero_of_le z]at k;cases k
   have e0:d.size-i=(d.size-(i+1))+1:=by lia
   rw[e0,a2x]at k;injection k with hx hrest;subst hx;have g:x<xs.length:=by lia
   rw[a4N g]at h;have ex:xs[x]?=aX xs[x]:=XM g;refine Xw (Zf o u ?_);rw[a8R O x,ex,X3];dsimp only;have hk:=J xs[x] (a0s g);refine Xw (YI (Xw (a7k (k:=xs[x].1) (a:=xs[x].2.1) hu hk B N v K U (λI=>?_) λj p R=>?_)))
   ·have n:=a7H I;have er:r=false:=by
     cases h with
     |miss _=>rfl|hit e _ _=>rw[n]at e;cases e
    subst er;refine XC ?_;simp only[a0V,if_true];exact XC (XC L)
   ·have n:=atKey_of_get U R;refine Xw (Zf B N ?_);rw[a8R v j,R,X3];dsimp only;generalize hxs:xs[x]=y at h n;cases h with
    |miss e=>rw[n]at e;cases e|@hit _ p' _ e' b' e h2 h3=>
     rw[n]at e;cases e;refine YI (h2 P w _ _ ?_);cases e' with
     |false=>simp only[a0V,if_true];exact XC (XC L)|true=>simp only[a1f,Yb,if_false];refine Xw (a0n o u ?_);rw[if_neg (by simp)];refine XC ⟨rfl,rfl,x+1,hrest,H,?_⟩;simpa using h3
  ·rintro c M ⟨rfl,rfl,i,k,hi,h⟩;have G:i=d.size:=by
    rcases a5v i d.size with z|z
    ·rw[show d.size-i=(d.size-(i+1))+1 by lia,a2x]at k;cases k
    ·lia
   refine XC ?_;rw[G,X,List.drop_length]at h;cases h;exact L
 ·rw[if_pos (by simpa using l)];have:(xs.length==ys.length)=false:=by rw[<- X,<- sb];simpa using l
  rw[this,a7s]at q;exact Xw (a1p (XC q))
theorem Rq{Q:Value->XD->Prop}(g:(ZH (ZZ P w)).room A.in1)(h:A.units<Zk)(i:(a==YY)=b4)(j:(b==YY)=b4)(d:s.heap.DictOfH (ZH (ZZ P w)) a xs)(e:s.heap.DictOfH (ZH (ZZ P w)) b ys)
  (c:xs.length=ys.length->Hits A.in1 s ys xs r)(q:Q (.bool (xs.length==ys.length&&r)) s):X5 (Yg P w) A (YU .Eq (.ref a) (.ref b)) Q E s:=by
 refine a2l (op:=.Eq) d.typeIs e.typeIs a5b (Ze a5b d.typeIs PySem.F.entry_dict_eq ?_ (PySem.F.args_dict_eq_2 _ _)) h;show X5 _ _ (a0G "__eq__" ⟨[.ref a,.ref b],[]⟩ >>= _) _ _ s;refine Xw ?_;unfold a0G;refine Xw (a0i d.typeIs (XC (Xw (a0A (T:="dict") e.typeIs a4T ?_))));simp only[a1f,Yb,if_false];exact Xw (XC (Xw (XC (Xw (Fj g i j d e c (XC ⟨_,rfl,(λx=>nomatch x),by simpa using q⟩))))))
theorem Rt{Q:Value->XD->Prop}(g:(ZH (ZZ P w)).room A.in1)(h:A.units<Zk)(i:(a==YY)=b4)(j:(b==YY)=b4)(d:s.heap.DictOfH (ZH (ZZ P w)) a xs)(e:s.heap.DictOfH (ZH (ZZ P w)) b ys)
  (c:xs.length=ys.length->Hits A.in1 s ys xs r)(q:Q (.bool (!(xs.length==ys.length&&r))) s):X5 (Yg P w) A (YU .NotEq (.ref a) (.ref b)) Q E s:=by
 refine a2l (op:=.NotEq) d.typeIs e.typeIs a5a (Ze a5a d.typeIs PySem.F.entry_dict_ne ?_ (PySem.F.args_dict_ne_2 _ _)) h;show X5 _ _ (a0G "__ne__" ⟨[.ref a,.ref b],[]⟩ >>= _) _ _ s;refine Xw ?_;unfold a0G;refine Xw (a0i d.typeIs (XC (Xw (a0A (T:="dict") e.typeIs a4T ?_))));simp only[a1f,Yb,if_false];exact Xw (XC (Xw (XC (Xw (Fj g i j d e c (XC ⟨_,rfl,(λx=>nomatch x),by simpa using q⟩))))))
end
noncomputable def nC(c:Hm)(a:jx):jx->Option Bool
 |[]=>aX b5|(k,d)::r=>match bV a k with
  |none=>aX b4|some y=>(cS 8 c d y).bind λe=>(nC c a r).map λb=>e&&b
noncomputable def jK(ne:Bool):D->D->Hm->jk
 |.loc a,.loc b,μ=>match μ[a]?,μ[b]? with
  |some (.dT kvs),aX (.dT kws)=>if kvs.length=kws.length then(nC μ kws kvs).map λe=>(.bl (if ne then !e else e),μ)else aX (.bl ne,μ)|_,_=>aY
 |_,_,_=>aY
noncomputable def Fm(K:Xy)(ne:Bool):R2:=λx y H Q=>∃π g a b ps qs c d e,Rp K π H g/\x=.ref (π a)/\y=.ref (π b)/\H (π a)=aX (aU (π a) ps)/\H (π b)=aX (aU (π b) qs)/\IsTs K π g.length H ps c/\IsTs K π g.length H qs d /\
 (c.length=d.length->nC g d c=aX e)/\Q (.bl (if ne then !(c.length==d.length&&e)else(c.length==d.length&&e))) H
theorem vB{K:Xy}{ne:Bool}:dC K (jK ne) (Fm K ne):=by
 intro h H p x y d v w A Q R s u a k;unfold jK at a;split at a
 ·split at a
  ·rename_i b c hc i;cases s;cases u;obtain⟨n,l,T⟩:=f9 R hc;obtain⟨o,m,j⟩:=f9 R i;split at a
   ·rename_i g;obtain⟨e,r,a⟩:=XA.mp a;cases a;refine⟨h,p,_,_,n,o,b,c,e,R,rfl,rfl,l,m,T,j,λ_=>r,?_⟩;rw[g,beq_self_eq_true,Bool.true_and];exact k h _ H .refl R (.bl _)
   ·rename_i g;cases a;refine⟨h,p,_,_,n,o,b,c,b5,R,rfl,rfl,l,m,T,j,λz=>absurd z g,?_⟩;have:(b.length==c.length)=false:=by simpa using g
    rw[this];have q:(if ne=b5 then !(b4&&b5)else(b4&&b5))=ne:=by cases ne<;>rfl
    rw[q];exact k h _ H .refl R (.bl _)
  ·cases a
 ·cases a
theorem Fn{X:Cx}{a8T:jw}{σ:St}{H:Hp}{s:XD}{π:Nat->Addr}{o:Hm}{A:Yt}(I:Inv X a8T σ H s)(R:Rp X.K π H o)(z:A.units+8<Zk){qs:bO}{j:jx}{c:gq}(r:IsTs X.K π o.length H qs j)(B:Vals (qs.map (·.2.2)) c) :
  ∀{ps:bO}{i:jx}{ws:gq}{e:Bool},IsTs X.K π o.length H ps i->Vals (ps.map (·.2.2)) ws->nC o j i=aX e->Hits A s (bQ qs c) (bQ ps ws) e
 |_,_,_,_,.nil,.nil,h=>by cases h;exact .nil
 |_,_,_,_,.cons (a:=p) (b:=q) h t,.cons (b:=u) ru tu,g=>by
  obtain⟨k,d⟩:=q;have x:p.1=k:=h.1;have a:=m9 B p.1;unfold bQ;rw[YH];simp only[nC]at g;split at g
  ·rename_i n;cases g;refine .miss ?_;rcases r.val p.1 with⟨l,b⟩|⟨v,G,l,b,E⟩
   ·rw[l]at a;cases m:a2Q (bQ qs c) p.1 with
    |none=>exact m|some y=>rw[m]at a;exact a.elim
   ·rw[x]at b;rw[n]at b;cases b
  ·rename_i y n;obtain⟨L,J,g⟩:=Xv.mp g;obtain⟨K,m,g⟩:=XA.mp g;subst g;rcases r.val p.1 with⟨l,b⟩|⟨v,G,l,b,E⟩
   ·rw[x]at b;rw[n]at b;cases b
   ·rw[x]at b;rw[n]at b;cases b;rw[l]at a;cases w:a2Q (bQ qs c) p.1 with
    |none=>rw[w]at a;exact a.elim|some M=>rw[w]at a;exact .hit (x:=(p.1,p.2.1,u)) w (yP I R 8 z ru a h.2.2 E J) (Fn I R z r B t tu m)
section
variable{X:Cx}{a b:Expr}{ma mb:ME}{pos:Zj}{k:Nat}
theorem vC(ne:Bool)(hu:X.A.units+16<Zk):OpR X (YU (if ne then .NotEq else .Eq)) (Fm X.K ne):=by
 intro O s σ H x y v u Q I rx ry h;obtain⟨N,μ,i,j,n,o,l,m,e,R,rfl,rfl,U,Y,T,g,Z,q⟩:=h;obtain rfl:v=XO (N i):=rx;obtain rfl:u=XO (N j):=ry;obtain⟨G,hl,p,r,B⟩:=jJ I (.of U) T.keys;obtain⟨J,hl',d,M,E⟩:=jJ I (.of Y) g.keys;have K:(bQ n p).length=l.length:=by have w:=congrArg YF (l7 r);have A:=congrArg YF T.to.1;simp only[Xx]at w A;lia
 have L:(bQ o d).length=m.length:=by have w:=congrArg YF (l7 M);have A:=congrArg YF g.to.1;simp only[Xx]at w A;lia
 have c:(bQ n p).length=(bQ o d).length->Hits X.A.in1 s (bQ o d) (bQ n p) e:=λz=>Fn I R (by rw[n6];lia) g M T r (Z (by lia));cases ne with
 |false=>exact Rq (nB (by lia)) (by lia) G J B E c ⟨.bl _,H,I,rfl,by rw[K,L];exact q⟩|true=>exact Rt (nB (by lia)) (by lia) G J B E c ⟨.bl _,H,I,rfl,by rw[K,L];exact q⟩
theorem Ru(e:Room k X.A)(c:QE X a ma)(d:QE X b mb):QE X (.Compare a [.Eq] [b] pos) (aB (jK b4) ma mb):=⟨fG (vC b4 (by have:=e.un;lia)) vB c.h d.h (dP _)⟩
theorem Rv(e:Room k X.A)(c:QE X a ma)(d:QE X b mb):QE X (.Compare a [.NotEq] [b] pos) (aB (jK b5) ma mb):=⟨fG (vC b5 (by have:=e.un;lia)) vB c.h d.h (dP _)⟩
theorem Ry(e:Room k X.A)(c:QE X a ma)(d:QE X b mb):QT X (.Compare a [.Eq] [b] pos) (aV (aB (jK b4) ma mb)):=⟨fH (vC b4 (by have:=e.un;lia)) vB c.h d.h (dP _)⟩
theorem Rz(e:Room k X.A)(c:QE X a ma)(d:QE X b mb):QT X (.Compare a [.NotEq] [b] pos) (aV (aB (jK b5) ma mb)):=⟨fH (vC b5 (by have:=e.un;lia)) vB c.h d.h (dP _)⟩
end
noncomputable abbrev Ah(n:Nat):Prop:=n<64
section
variable{X:Cx}{a8T:jw}{σ:St}{H H':Hp}{s:XD}{h':YZ}
theorem RA{t':Nat}(I:Inv X a8T σ H s)(k:∀b u,s.heap.get? b=aX u->h'.get? b=aX u)(a:∀b,b<s.heap.objs.size->H' b=H b)(new:∀b o,s.heap.objs.size<=b->H' b=aX o->ObjOk X.prog X.w H' h' b o) :
  Inv X a8T σ H' {s with heap:=h',toks:=t'}:=by
 have lt:∀b u,H b=aX u->b<s.heap.objs.size:=λb u e=>a7e λz=>by rw[I.hok.fresh z]at e;cases e
 have same:∀b u,H b=aX u->H' b=aX u:=λb u e=>by rw[a b (lt b u e)];exact e
 refine I.un ⟨λb u q _ _ _=>k b u q,λb u q _ _ _=>⟨u.slots,k b u q⟩,λb u q n _=>by rw[a b (XN q)];exact n,λb u q _=>⟨u,k b u q⟩,λb g q=>same b _ q,λb u g q=>same b _ q,λb h q=>⟨#[],by rw[same b _ q];simp⟩⟩ λb u e=>?_;by_cases d:b<s.heap.objs.size
 ·rw[a b d]at e;exact(I.hok b u e).stay (λc v _ q=>k c v q) (λc q=>same c _ q) λc g q=>same c _ q
 ·exact new b u (a7f d) e
noncomputable def gC(H:Hp):List Addr->bO->Hp
 |a::as,p::ps=>gC (aP H a (.tup [.ref p.2.1,p.2.2])) as ps|_,_=>H
theorem oP:∀{as:List Addr}{ps:bO}{H:Hp}{b:Addr},b∉as->gC H as ps b=H b
 |[],_,_,_,_=>by simp[gC]
 |a::as,[],_,_,_=>rfl|a::as,p::ps,H,b,h=>by rw[Yi,not_or]at h;show gC (aP H a _) as ps b=H b;rw[oP h.2,bM h.1]
theorem vD:∀{as:List Addr}{ps:bO}{H:Hp}{i:Nat}{a:Addr}{p:List Int×Addr×V},as.Nodup->as[i]?=aX a->ps[i]?=aX p->gC H as ps a=aX (.tup [.ref p.2.1,p.2.2])
 |[],_,_,_,_,_,_,h,_=>by simp at h
 |_::_,[],_,_,_,_,_,_,h=>by simp at h
 |x::as,y::ps,H,0,a,p,nd,h1,h2=>by
  obtain rfl:x=a:=by simpa using h1
  obtain rfl:y=p:=by simpa using h2
  rw[Yx]at nd;show gC (aP H x _) as ps x=_;rw[oP nd.1,cX]
 |x::as,y::ps,H,i+1,a,p,nd,h1,h2=>by rw[Yx]at nd;exact vD (as:=as) (ps:=ps) (i:=i) nd.2 (by simpa using h1) (by simpa using h2)
noncomputable def sI(ps:bO):List Nat:=dJ (λi j=>HT.lexLt ((ps.map (·.1)).getD i []) ((ps.map (·.1)).getD j [])) ps.length
noncomputable def fT(as:List Addr)(ps:bO):gw:=(sI ps).map λi=>V.ref (as.getD i 0)
theorem RB(hc:X.calm=b5)(hun:X.A.units+64<Zk)(I:Inv X a8T σ H s){d r:Addr}{ps:bO}{Q:VK}(e:H d=aX (aU d ps))(hk:eJ X.K H ps)(M:Ah ps.length)(hv:s.heap.IsItemsView r d)
  (k:∀(as:List Addr)(L l:Addr),as.length=ps.length->(l::L::as).Nodup->(∀a∈l::L::as,H a=aY)->Q (.ref l) (aP (aP (gC H as ps) L (.lst (fT as ps))) l (.tup (fT as ps)))) :
  X5 (Yg X.prog X.w) X.A (call (.builtin "sorted") [.ref r]) (λv s'=>X5 (Yg X.prog X.w) X.A (call (.type "tuple") [v]) (EP X a8T σ Q) X.xe s') X.xe s:=by
 obtain⟨lo,hl,ws,rv,z,es,ep,z1,z2,z3,z4,z5,z6⟩:=jJ I (.of e) hk;have hwl:ws.length=ps.length:=by have:=rv.length;rw[Xx]at this;exact this.symm
 have hxl:(bQ ps ws).length=ps.length:=by unfold bQ;rw[List.length_zipWith,hwl,Nat.min_self]
 have y:es.size=ps.length:=by rw[<- Z5,z4,Xx,hxl]
 have nd:(ps.map (·.1)).Nodup:=by rw[l7 rv]at z6;exact z6
 have K:∀(j:Nat)(n:DictEntry),es[j]?=aX n->∃p u,ps[j]?=aX p/\ws[j]?=aX u/\n.key=.ref p.2.1/\n.val=u:=λj n h=>by
  rw[<- YW,z4,XR]at h;obtain⟨x,q,rfl⟩:=XA.mp h;unfold bQ at q;rw[List.getElem?_zipWith]at q;cases A:ps[j]? with
  |none=>rw[A]at q;simp at q|some p=>
   cases hw:ws[j]? with
   |none=>rw[A,hw]at q;simp at q|some u=>
    rw[A,hw]at q;have:(p.1,p.2.1,u)=x:=by simpa using q
    subst this;exact⟨p,u,rfl,rfl,rfl,rfl⟩
 have M:ps.length<64:=M;refine Q2 (an:=λi j=>HT.lexLt ((ps.map (·.1)).getD i []) ((ps.map (·.1)).getD j [])) (I.ok.hd hc) hv ⟨z,z1,z2,z3⟩ (by lia) (λh22 Y J as kp U G=>?_) (λY J as L n kp U G hL nL gL=>?_)
 ·have I3:Inv X a8T σ H {s with heap:=Y,toks:=J}:=I.kept (t':=J) kp;refine Q1 (A:=X.A.in1.in1) (s:={s with heap:=Y,toks:=J}) (bs:=ps.map (·.2.1)) (ks:=ps.map (·.1)) (by show X.A.units+1+1<Zk;lia) G (by lia) U (by rw[Xx,y]) (by rw[Xx,y]) (λj n w=>?_) nd;obtain⟨p,u,E,p2,p3,p4⟩:=K j n w;have m:j<ps.length:=(Xz.mp E).1;have g:(ps.map (·.2.1)).getD j 0=p.2.1:=by simp[Zz,E]
  have ek:(ps.map (·.1)).getD j []=p.1:=by simp[Zz,E]
  rw[g,ek];have sq:=hk p (X6 E);refine⟨p3,kR I3 sq,?_⟩;obtain⟨xs,rx,t,_⟩:=I3.tuple sq;exact⟨xs,t,Pm rx⟩
 ·rw[y]at gL U;have B:as.Nodup:=G.up.imp λh=>XU h;have hin:∀i∈sI ps,i<ps.length:=λi hi=>Zs.mp ((lW _ _).mem_iff.mp hi);have T:(sI ps).length=ps.length:=by have:=(lW (λi j=>HT.lexLt ((ps.map (·.1)).getD i []) ((ps.map (·.1)).getD j [])) ps.length).length_eq;rw[a6C]at this;exact this
  have nLa:L∉as:=λh=>nL L h rfl;have I1:Inv X a8T σ (aP (gC H as ps) L (.lst (fT as ps))) {s with heap:=Y,toks:=J}:=by
   refine RA (t':=J) I kp (λb Z=>?_) λb o Z g=>?_
   ·rw[bM (XU (Yh Z hL)),oP λh=>Nat.lt_asymm Z (G.over b h)]
   ·by_cases O:b=L
    ·subst O;rw[cX]at g;cases g;refine⟨by unfold fT;rw[Xx,T];exact hl,(sI ps).map λi=>XO (as.getD i 0),n,?_,gL⟩;unfold fT;exact Ab λi _=>rfl
    ·rw[bM O]at g;by_cases R:b∈as
     ·obtain⟨j,w⟩:=a0J.mp R;have m:j<ps.length:=by have:=(Xz.mp w).1;lia
      have A:ps[j]?=aX ps[j]:=XM m;rw[vD B w A]at g;cases g;obtain⟨x,x1,x2⟩:=G.prs j _ w;obtain⟨p,u,E,p2,p3,p4⟩:=K j x x1;rw[A]at E;cases E;obtain⟨u',g1,g2⟩:=rv.get (i:=j) (x:=ps[j].2.2) (by rw[XR,A];rfl);rw[p2]at g1;cases g1;rw[p3,p4]at x2;exact⟨by show(2:Nat)<=XQ;decide,[.ref ps[j].2.1,u],.cons rfl (.cons g2 .nil),_,x2,rfl,0,rfl,rfl⟩
     ·rw[oP R,I.hok.fresh Z]at g;cases g
  refine CY a8T _ σ _ [.ref L] [.ref L] Q I1 (.cons rfl .nil) ⟨L,fT as ps,rfl,.inl ⟨.inl (.inl cX),λl c=>?_⟩⟩;have lL:l≠L:=λh=>by rw[h,cX]at c;cases c
  rw[bM lL]at c;have la:l∉as:=λh=>by
   obtain⟨j,w⟩:=a0J.mp h;have m:j<ps.length:=by have:=(Xz.mp w).1;lia
   rw[vD B w (XM m)]at c;cases c
  rw[oP la]at c;refine k as L l U ?_ λa N=>?_
  ·rw[Yx,Yx];exact⟨λh=>(Yi.mp h).elim lL la,nLa,B⟩
  ·rcases Yi.mp N with rfl|N
   ·exact c
   rcases Yi.mp N with rfl|N
   ·exact I.hok.fresh hL
   ·exact I.hok.fresh (a0B (G.over a N))
end
noncomputable def Ai(k:List Int×D):D:=.tup [.tup (k.1.map D.int),k.2]
noncomputable def vF:D->Hm->jk
 |.loc a,μ=>match μ[a]? with
  |some (.dT kvs)=>if Ah kvs.length then aX (.tup ((l9 kvs).map Ai),μ)else aY|_=>aY
 |_,_=>aY
noncomputable def vG(m:ME):ME:=λb a=>(m b a).bind λr=>vF r.1 r.2
noncomputable def Fo(K:Xy):V->Hp->VK->Prop:=λx H Q=>∃a ps,x=.ref a/\H a=aX (aU a ps)/\eJ K H ps/\Ah ps.length /\
 ∀(as:List Addr)(L l:Addr),as.length=ps.length->(l::L::as).Nodup->(∀a∈l::L::as,H a=aY)->Q (.ref l) (aP (aP (gC H as ps) L (.lst (fT as ps))) l (.tup (fT as ps)))
section
variable{X:Cx}{o:Expr}{to:TE}{apos cpos p p2 pos pos2:Zj}
theorem RC(hc:X.calm=b5)(w:X.A.units+64<Zk)(r:X.mg "sorted"=aY) (u:X.mg "tuple"=aY) (m:Gl X "sorted") (n:Gl X "tuple") (O:PE X o to)
  (c:a0v o "items" X.env (eval o X.env)=eval o X.env) (d:(apos.endLine==cpos.line)=b5) :
  PE X (.Call (.Name "tuple" p) [.Call (.Name "sorted" p2) [.Call (.Attribute o "items" apos) [] [] cpos] [] pos2] [] pos) (λj H Q=>to j H λx k=>Fo X.K x k Q):=by
 intro i s j H Q I h;refine ZL (iY I n u a1m ?_);refine Zi ?_ rfl rfl;refine a1Y ?_;refine ZL (iY I m r a2K ?_);refine a2S ?_ rfl rfl;refine a1Y ?_;refine a1u c d (aR (O i s j H _ I h) λv y ⟨x,k,A,U,a,ps,L,e,B,l,q⟩=>?_);subst L;obtain rfl:v=XO a:=U;obtain⟨T,Z,K,J,g,Y⟩:=pX A e B;refine⟨"dict","dict.items",a1e,a1d,a4x,g.ty,λb G=>?_,Z7 rfl (a1J ?_)⟩
 ·cases G;obtain⟨z,M,N,_⟩:=g;exact⟨z,M,N.2.1⟩
 refine a2m a1d g.ty a4q (a4b _) (E6 a T) ⟨⟨K,J,g⟩,?_⟩;refine a2k ?_;have E:Inv X i j k {y with heap:=y.heap.push {cls:=.type "dict_items",data:=.fields #[.ref a]}}:=A.kept (t':=y.toks) λb o e=>XE _ e;refine aR (RB hc w E e B l ⟨_,XT _ rfl,rfl,rfl⟩ q) λv s' R=>a2k R
end
theorem Fp{K:Xy}{π:Nat->Addr}{c:Hm}:∀{as:List Addr}{ps:bO}{H:Hp},Rp K π H c->as.Nodup->(∀a∈as,H a=aY)->Ext π c.length H π c.length (gC H as ps)/\Rp K π (gC H as ps) c
 |[],_,H,R,_,_=>by simp only[gC];exact⟨.refl,R⟩
 |a::as,[],H,R,_,_=>⟨.refl,R⟩|a::as,p::ps,H,R,nd,hf=>by
  rw[Yx]at nd;obtain⟨g,e⟩:=R.fresh (o:=.tup [.ref p.2.1,p.2.2]) (hf a (X8 ..));obtain⟨h,R2⟩:=Fp (as:=as) (ps:=ps) e nd.2 λb d=>by rw[bM (λw:b=a=>nd.1 (w▸d))];exact hf b (X7 _ d)
  exact⟨g.trans h,R2⟩
theorem RD{K:Xy}{N:ME}:∀σ H Q,tM K (vG N) σ H Q->tM K N σ H λx m=>Fo K x m Q:=by
 rintro σ H Q ⟨π,ρ,μ,d,n,R,E,g,k⟩;obtain⟨⟨x,y⟩,h1,g⟩:=Xv.mp g;refine⟨π,ρ,μ,x,y,R,E,h1,λh v1 m Z z i1=>?_⟩;have k1:=k.after Z;dsimp only at g;unfold vF at g;split at g
 ·split at g
  ·rename_i b hc;split at g
   ·rename_i hb;cases g;cases i1;obtain⟨c,e2,T⟩:=f9 z hc;have M:c.length=b.length:=by have:=congrArg YF T.to.1;simpa using this
    refine⟨_,c,rfl,e2,T.keys,by rw[M];exact hb,λe L l al nd s=>?_⟩;rw[Yx,Yx]at nd;obtain⟨A,U⟩:=Fp (ps:=c) z nd.2.2 λa ha=>s a (X7 _ (X7 _ ha));have hL:gC m e c L=none:=by rw[oP nd.2.1];exact s L (X7 _ (X8 ..))
    obtain⟨B,X⟩:=U.fresh (o:=.lst (fT e c)) hL;have hl:aP (gC m e c) L (.lst (fT e c)) l=none:=by rw[bM (λw:l=L=>nd.1 (by rw[w];exact X8 ..)),oP λw=>nd.1 (X7 _ w)];exact s l (X8 ..)
    obtain⟨G,Y⟩:=X.fresh (o:=.tup (fT e c)) hl;refine k1 h _ _ ((A.trans B).trans G) Y (.tup (.of cX) ?_);have v:c.map (·.1)=b.map (·.1):=T.to.1;have key:∀o:List Nat,(∀i∈o,i<b.length)->IsDs K h n.length (aP (aP (gC m e c) L (.lst (fT e c))) l (.tup (fT e c))) (o.map λi=>V.ref (e.getD i 0)) (o.map (Ai∘λi=>b.getD i ([],.non))):=λo q=>by
     induction o with
     |nil=>exact .nil|cons i o ih=>
      have hi:=q i (X8 ..);have p:e[i]?=aX (e.getD i 0):=by simp[Zz,show i<e.length by lia]
      have u:c[i]?=aX c[i]:=XM (by lia);have hik:b[i]?=aX b[i]:=XM hi;have I:b.getD i ([],.non)=b[i]:=by simp[Zz,hi]
      have ep:c.getD i ([],0,.non)=c[i]:=by simp[Zz,show i<c.length by lia]
      have O:=E7 T ([],0,.non) ([],.non) i (by lia);rw[ep,I]at O;obtain⟨q1,q2,q3⟩:=O;refine .cons ?_ (ih λj hj=>q j (X7 _ hj));have r:aP (aP (gC m e c) L (.lst (fT e c))) l (.tup (fT e c)) (e.getD i 0)=aX (.tup [.ref c[i].2.1,c[i].2.2]):=by have g:=X6 p;rw[bM (λw:e.getD i 0=l=>nd.1 (by rw[<- w];exact X7 _ g)),bM (λw:e.getD i 0=L=>nd.2.1 (by rw[<- w];exact g))];exact vD nd.2.2 p u
      show IsD K h n.length _ (.ref (e.getD i 0)) (Ai (b.getD i ([],.non)));rw[I];have J:=(A.trans B).trans G;have ik:IsD K h n.length m (.ref c[i].2.1) (.tup (b[i].1.map D.int)):=by rw[<- q1];exact .tup q2 (zM _)
      exact .tup (.of r) (.cons (ik.mono J) (.cons (q3.mono J) .nil))
    have ey:fT e c=(dJ (λi j=>HT.lexLt ((b.map (·.1)).getD i []) ((b.map (·.1)).getD j [])) b.length).map λi=>V.ref (e.getD i 0):=by unfold fT sI;rw[v,M]
    have fin:=key (dJ (λi j=>HT.lexLt ((b.map (·.1)).getD i []) ((b.map (·.1)).getD j [])) b.length) λi hi=>Zs.mp ((lW _ _).mem_iff.mp hi);rw[<- ey]at fin;unfold l9;rw[Yc];exact fin
   ·cases g
  ·cases g
 ·cases g
theorem RE{X:Cx}{o:Expr}{j:ME}{a b p n pos c:Zj}(hc:X.calm=b5)(i:X.A.units+64<Zk)(g:X.mg "sorted"=aY) (h:X.mg "tuple"=aY) (d:Gl X "sorted") (e:Gl X "tuple") (l:QE X o j)(m:jY o=b5)(k:(a.endLine==b.line)=b5) :
  QE X (.Call (.Name "tuple" p) [.Call (.Name "sorted" n) [.Call (.Attribute o "items" a) [] [] b] [] c] [] pos) (vG j):=
 ⟨c9 (RC hc i g h d e l.h (lV m) k) RD⟩
section
variable{P:Yk}{w:Yz}{A:Yt}{E:Value->XD->Prop}{s:XD}{d it:Addr}{i ep:Nat}{es:Array DictEntry}
theorem RF(d:Addr)(hd:(d==YY)=b4):a7L P w (Builtin.«dict.values» ⟨[.ref d],[]⟩) (λ_ R s=>(∃es ep,RawD s.heap d es ep) /\
   R (.ok (.ret (.ref s.heap.objs.size))) {s with heap:=s.heap.push {cls:=.type "dict_values",data:=.fields #[.ref d]}}):=
 .of_wp λA R s ⟨⟨es,ep,g⟩,h⟩=>by show X5 _ _ (a2B "values" _ >>= _) _ _ s;refine Xw ?_;unfold a2B;refine Xw (a0i g.ty ?_);show X5 _ _ (pure d) _ _ s;refine XC ?_;show X5 _ _ (ZO d >>= _) _ _ s;unfold ZO;rw[if_neg (by rw[hd];exact X9)];refine Xw (XC ?_);exact Xw (Y4 (XC ⟨_,rfl,h⟩))
theorem RG{v:Addr}{Q:Value->XD->Prop}(c:s.heap.IsValuesView v d)(g:RawD s.heap d es ep)
  (q:Q (.ref s.heap.objs.size) {s with heap:=s.heap.push {cls:=.type "dict_valueiterator",data:=.fields #[.ref d,.int 0 0,.int es.size 0,.int ep 0]}}):X5 (Yg P w) A (a2H (.ref v)) Q E s:=by
 obtain⟨l,b,j,a⟩:=id c;obtain⟨z,e,k,h⟩:=id g;refine a4e c.typeIs F.slot_dict_values_iter (Ze F.slot_dict_values_iter c.typeIs F.entry_dict_values_iter ?_ (F.args_dict_values_iter_1 _));unfold Builtin.«dict_values.__iter__»;refine Xw (XC (Xw ?_));unfold a2R;refine Xw (a1T b a (x:=.ref d) rfl (XC (Xw ?_)));unfold a2A;refine Xw (Zf e h (Xw (a0n e h ?_)));simp only[show ZS "dict_valueiterator"=b4 by decide,Yb,if_false];refine Y4 (XC ⟨_,rfl,"dict_valueiterator",_,⟨_,XT _ rfl,rfl⟩,F.slot_dict_valueiterator_next.lookup,?_⟩);simpa[a1k]using q
theorem Fq{Q:Option Value->XD->Prop}(o:A.handled=aY)(j:s.heap.IsValIter it d i es.size ep)(g:RawD s.heap d es ep)
  (r:∀e a,es[i]?=aX e->a.IsValIter it d (i+1) es.size ep->a0k it s.heap a->Q (aX e.val) {s with heap:=a})
  (v:es[i]?=aY->∀a,a2p it s.heap a->Q aY {s with heap:=a}):X5 (Yg P w) A (a1q (.ref it)) Q E s:=by
 obtain⟨y,h,p,b⟩:=id j;obtain⟨z,l,B,m⟩:=id g;have k:∀{Q:String->XD->Prop}{A:Yt}{E:Value->XD->Prop},Q "dict_valueiterator" s->X5 (Yg P w) A (a4Y (.ref it)) Q E s:=λq=>wpAny_typeNameOfWhole_valiter j.typeIs q;unfold a1q;refine Xw (a5N (a2P (name:=Zg "__next__") j.typeIs F.slot_dict_valueiterator_next (Ze F.slot_dict_valueiterator_next j.typeIs F.entry_dict_valueiterator_next ?_ (F.args_dict_valueiterator_next_1 _))));refine Xw (XC (Xw (Xw (Xw (k (XC (Xw (a5m h b ?_))))))));simp only[show ZS "dict_valueiterator"=b4 by decide,Yb,if_false];show X5 _ _ (if(XO d==Zm)=b5 then _ else _) _ _ _;rw[if_neg (show ¬ (XO d==Zm)=b5 from λx=>X9 x)];refine Xw (XC (Xw (Zf l m ?_)));rw[if_neg (λx=>by simp at x)];refine Xw (XC (Xw (a0n l m ?_)));rw[if_neg (λx=>by simp at x)];refine XC ?_;simp only[if_neg (show ¬ ((i:Int)<0) by lia),a1t];cases n:es[i]? with
 |some e=>
  refine Xw (Xw (k (XC (Xw (a3i j.typeIs ?_)))));show X5 _ _ (a4h (.ref it) 1 (a1k ((i:Int)+1)) >>= _) _ _ _;refine Xw (a2t h b (by simp) ?_);have c:(s.heap.update it (a3q (·.setIfInBounds 1 (a1k ((i:Int)+1))))).IsValIter it d (i+1) es.size ep:=
   ⟨_,Zd _ h (a5I (a2g b _)),(a6K ..).trans p,by simp[a2g b,a1k]⟩
  generalize hu:s.heap.update it (a3q (·.setIfInBounds 1 (a1k ((i:Int)+1))))=u at c;refine Xw (YI (Xw (a3i (s:={s with heap:=u}) c.typeIs (Xw (a3i (s:={s with heap:=u}) c.typeIs ?_)))));show X5 _ _ (pure e.val) _ _ _;exact XC (XC ⟨_,rfl,XC (r e u n c (hu▸ZI ..))⟩)
 |none=>refine Xw (Xw (k (XC ?_)));show X5 _ _ (a4h (.ref it) 0 .none >>= _) _ _ _;refine Xw (a2t h b (by simp) ?_);show X5 _ _ (a6m (.type "StopIteration") [] >>= _) _ _ _;simp only[a6m,a8N];refine Xw (Xw (Y4 ?_ (by size_fits)));refine Xw (m:=a1A _ _) (a3t (a:=Zm) (by first|rfl|(simp only[a1A];rfl)) (Y4 ?_ (by size_fits)));simp only[a8M];refine Xw (a5L ?_);rw[show A.in1.handled=aY from o];refine Xw (XC (a6U ?thrown));case thrown=>exact Xw (a0A (T:="StopIteration") (b:=b5) ⟨_,XT _ rfl,rfl⟩ a5p (XC (v n _ (((ZI ..).extBut.push _).push _))))
end
noncomputable def Aj(d:Addr)(a:Obj)(ps:bO):It:=⟨λi H=>H d=aX (.frz a (aU d ps))/\i<ps.length,λi H x b=>b=H/\∃p,ps[i]?=aX p/\x=p.2.2,λi H=>H d=aX (.frz a (aU d ps))/\ps.length<=i⟩
theorem RH{P:Yk}{w:Yz}{K:Xy}{tg:Expr}{d n:Addr}{Y:Obj}{ps:bO}{es:Array DictEntry}{ep:Nat}(hd:Y.data=.dict es ep):Turn Qc P w K tg (Aj d Y ps) [n] n (λi h=>h.IsValIter n d i es.size ep) where
 mem:=by simp
 obj:=λi h st b j=>by
  have e:b=n:=by simpa using j
  subst e;obtain⟨o,e,c,d⟩:=st;exact⟨o,e,λv z=>by rw[d]at z;cases z⟩
 keep:=λi h q st k=>let⟨o,e,c⟩:=st;⟨o,k n (by simp) o e,c⟩;item:=by
  intro X Q hw O hc i p s σ H E I y st R;subst Q hw O;obtain⟨m,r⟩:=R;obtain⟨lo,hl,B,A,g,a,x⟩:=sG I m;rw[hd]at a;cases a;have hs:es.size=ps.length:=by have:=x.length;rw[Xx,Xx,Z5]at this;exact this.symm
  obtain⟨G,J,f2,L,M,N⟩:=y n (by simp);refine Fq (I.ok.hd hc) st g (λe q l U sb=>?_) λhn=>by simp at hn;lia
  have I1:Inv X p σ H {s with heap:=q}:=I.turned (t':=s.toks) (λb o j e=>(sb.2 b j).trans e) G J L M N;obtain⟨o,e1,c,d1⟩:=id U;have T:ps[i]?=aX ps[i]:=XM r;obtain⟨u,Z,u2⟩:=x.get (i:=i) (x:=ps[i].2.2) (by rw[XR,T];rfl);rw[XR,YW,l]at Z;cases Z;exact⟨e.val,rfl,rG (s:={s with heap:=q}) e1 c d1 (by decide) ⟨ps[i].2.2,H,I1,u2,⟨rfl,ps[i],T,rfl⟩,U,λb j=>(y b j).1⟩⟩
 done:=by
  intro X Q hw O hc i p s σ H E I y st R;subst Q hw O;obtain⟨m,r⟩:=R;obtain⟨lo,hl,B,A,g,a,x⟩:=sG I m;rw[hd]at a;cases a;have hs:es.size=ps.length:=by have:=x.length;rw[Xx,Xx,Z5]at this;exact this.symm
  obtain⟨G,J,f2,L,M,N⟩:=y n (by simp);exact Fq (I.ok.hd hc) st g (λe q l=>by
   have:=(a1Z.mp l).1;lia) λ_ q eb=>⟨rfl,I.turned (t':=s.toks) (λb o j e=>eb b o j e) G J L M N⟩
 self:=λ_ _ _ _ _ st h=>wpAny_pyIter_valiter st h
theorem RI{X:Cx}{l tg:Expr}{J:TE}{a c:Zj}(G:PE X l J)(j:a0v l "values" X.env (eval l X.env)=eval l X.env) (k:(a.endLine==c.line)=b5) :
  PI X tg (.Call (.Attribute l "values" a) [] [] c) (λp H R=>J p H λv m=>∃d x A,v=.ref d/\m d=aX (.frz x (aU d A))/\R (Aj d x A) m):=by
 intro i s p H R I h;refine a1u j k (aR (G i s p H _ I h) λv n ⟨y,m,B,r1,q1⟩=>?_);obtain⟨d,x,A,e,E,q⟩:=q1;subst e;obtain rfl:v=XO d:=r1;obtain⟨Z,G,N,L,g,hd,he⟩:=sG B E;refine⟨"dict","dict.values",a1e,a4p,PySem.F.type_dict_values,g.ty,λb K=>?_,Z7 rfl (a1J ?_)⟩
 ·cases K;obtain⟨z,Q,u,_⟩:=g;exact⟨z,Q,u.2.1⟩
 refine a2m a4p g.ty PySem.F.entry_dict_values (PySem.F.args_dict_values_1 _) (RF d Z) ⟨⟨N,L,g⟩,?_⟩;have r:Inv X i p m {n with heap:=n.heap.push {cls:=.type "dict_values",data:=.fields #[.ref d]}}:=B.kept (t':=n.toks) λb o e=>XE _ e;obtain⟨lo2,Y,O,M,u,w,U⟩:=sG r E;show X5 (Yg X.prog X.w) X.A (a2H (.ref n.heap.objs.size)) (xJ X i p tg R) X.xe _;refine RG ⟨_,XT _ rfl,rfl,rfl⟩ u ⟨_,[_],_,_,m,rfl,r.kept (t':=n.toks) λb o e=>XE _ e,RH w,⟨_,XT _ rfl,rfl,rfl⟩,λb T=>?_,q⟩;have e:=XX.mp T;subst e;exact r.fpOk (XJ _) (r.hok.fresh (XJ _))
noncomputable def j5(a:jx):List D:=a.map (·.2)
theorem RJ{K:Xy}{π:Nat->Addr}{n:Nat}{H:Hp}{d:Addr}{j:Obj}{ps:bO}{a:jx}(g:H d=aX (.frz j (aU d ps)))(T:IsTs K π n H ps a):Wk K (Aj d j ps) (cH (.tup (j5 a))) π n H:=by
 have w:ps.length=a.length:=by have:=congrArg YF T.to.1;simpa using this
 refine⟨λc s k i e R z=>?_,λc s k i l e R z=>?_⟩
 ·have b:(j5 a)[i]?=none:=XZ z;have:=Yy.mp b;rw[j5,Xx]at this;exact⟨e.frz _ _ _ g,by lia⟩
 ·have b:(j5 a)[i]?=aX l:=XZ z;have hi:i<a.length:=by have:=(Xz.mp b).1;rwa [j5,Xx]at this
  refine⟨⟨e.frz _ _ _ g,by lia⟩,λv u ⟨m,p,o,q⟩=>?_⟩;subst m q;obtain⟨x,h,r⟩:=(T.to.2.2.mono e).get b;rw[XR,o]at h;cases h;exact⟨.refl,R,r⟩
noncomputable def qD(m:ME):MI:=λc b=>(m c b).bind λp=>match p.1 with
 |.loc a=>match p.2[a]? with
  |some (.dF kvs)=>aX (cH (.tup (j5 kvs)),kvs.length+1,p.2)|_=>aY
 |_=>aY
theorem RK{X:Cx}{e:Expr}{m:ME}{a b:Zj}(h:QE X e m)(r:jY e=b5)(q:(a.endLine==b.line)=b5):QJ X (.Call (.Attribute e "values" a) [] [] b) (qD m):=⟨λtg a8T s σ H R I hw=>by
 obtain⟨J,K,A,z,n,B,l,E,c,k⟩:=hw;obtain⟨⟨x,G⟩,p,c⟩:=Xv.mp c;dsimp only at c;split at c
 ·split at c
  ·rename_i v hc;cases c;refine RI h.h (lV r) q a8T s σ H R I ⟨J,K,A,_,_,l,E,p,λd L j o g u=>?_⟩;cases u;obtain⟨w,y,i,T⟩:=r9 g hc;exact⟨_,w,y,rfl,i,k d j _ o g (RJ i T)⟩
  ·cases c
 ·cases c⟩
section
variable{P:Yk}{w:Yz}{A:Yt}{E:Value->XD->Prop}{s:XD}{d it:Addr}{i ep:Nat}{es:Array DictEntry}{ok ov:Value}
theorem Fs{Q:Option Value->XD->Prop}(h:A.handled=aY)(j:IsItemIter s.heap it d i es.size ep ok ov)(g:RawD s.heap d es ep)
  (m:∀e a,es[i]?=aX e->a3T a it d (i+1) es.size ep e.key e.val s.heap.objs.size->a.get? s.heap.objs.size=aX {cls:=.type "tuple",data:=.seq #[e.key,e.val]}->
   (∀b o,b≠it->s.heap.get? b=aX o->a.get? b=aX o)->Q (aX (.ref s.heap.objs.size)) {s with heap:=a})
  (n:es[i]?=aY->∀a,a2p it s.heap a->Q aY {s with heap:=a}):X5 (Yg P w) A (a1q (.ref it)) Q E s:=
 z9 (S:=d) h j (.inl rfl) g g.lt (λe a c _ o l _ k=>m e a c (o rfl) l k) n
end
noncomputable def Ak(d:Addr)(a:Obj)(ps:bO):It:=⟨λi H=>H d=aX (.frz a (aU d ps))/\i<ps.length,λi H x b=>∃t p,x=.ref t/\H t=aY/\ps[i]?=aX p/\b=aP H t (.tup [.ref p.2.1,p.2.2]),λi H=>H d=aX (.frz a (aU d ps))/\ps.length<=i⟩
theorem RL{P:Yk}{w:Yz}{K:Xy}{el:List Expr}{kx:Nat}{pt:Zj}{d j:Addr}{ob:Obj}{ps:bO}{es:Array DictEntry}{ep:Nat}(hd:ob.data=.dict es ep):Turn Qc P w K (.Tuple el kx pt) (Ak d ob ps) [j] j (λi h=>∃ok p,IsItemIter h j d i es.size ep ok p) where
 mem:=by simp
 obj:=λi h ⟨ok,p,st⟩ b n=>by
  have e:b=j:=by simpa using n
  subst e;exact⟨_,st,λv z=>by
   have z':YR _=a3b v:=z;cases z'⟩
 keep:=λi h O ⟨ok,p,st⟩ k=>⟨ok,p,k j (by simp) _ st⟩;item:=by
  intro X T hw R hc i L s σ H E I G ⟨ok,p,st⟩ Y;subst T hw R;obtain⟨m,x⟩:=Y;obtain⟨lo,hl,N,M,g,a,J⟩:=oN I m;rw[hd]at a;cases a;obtain⟨_,_,es2,ep2,_,r,he⟩:=sG I m;rw[hd]at r;cases r;have hs:es.size=ps.length:=by have:=congrArg YF J;simpa using this
  refine Fs (I.ok.hd hc) st g (λe O l a1 a2 a3=>⟨_,rfl,wpAny_letOwnedTupleGo_items a1 λh2 b1 B=>?_⟩) λhn=>by simp at hn;lia
  have Z:ps[i]?=aX ps[i]:=XM x;have ek:e.key=.ref (ps[i]).2.1:=by have:=congrArg (·[i]?) J;simp only[XR,YW,l,Z,X3]at this;exact XZ this
  obtain⟨u,u1,u2⟩:=he.get (i:=i) (x:=ps[i].2.2) (by rw[XR,Z];rfl);rw[XR,YW,l]at u1;cases u1;have y:j<s.heap.objs.size:=XN st;have ht2:h2.get? s.heap.objs.size=aX {cls:=.type "tuple",data:=.seq #[e.key,e.val]}:=(B.2 _ (YT y)).trans a2;have U:H s.heap.objs.size=none:=I.hok.fresh (XJ _);refine⟨.ref s.heap.objs.size,aP H s.heap.objs.size (.tup [.ref (ps[i]).2.1,(ps[i]).2.2]),?_,rfl,⟨_,ps[i],rfl,U,Z,rfl⟩,⟨_,_,b1⟩,λc n=>?_⟩
  ·refine zQ (s:=s) (h':=h2) (t':=s.toks) (ch:=[j]) I (λc oc n ec=>?_) G (XJ _) ?_
   ·have q:c≠j:=by simpa using n
    exact(B.2 c q).trans (a3 c oc q ec)
   ·exact⟨by show(2:Nat)<=XQ;decide,[e.key,e.val],.cons ek (.cons u2 .nil),_,ht2,rfl,0,rfl,rfl⟩
  ·rw[bM]
   ·exact(G c n).1
   ·have e:c=j:=by simpa using n
    rw[e];exact XU y
 done:=by
  intro X T hw R hc i L s σ H E I G ⟨ok,p,st⟩ Y;subst T hw R;obtain⟨m,x⟩:=Y;obtain⟨lo,hl,N,M,g,a,J⟩:=oN I m;rw[hd]at a;cases a;have hs:es.size=ps.length:=by have:=congrArg YF J;simpa using this
  obtain⟨f0,f1,f2,f3,f4,f5⟩:=G j (by simp);exact Fs (I.ok.hd hc) st g (λe O l=>by
   have:=(a1Z.mp l).1;lia) λ_ O eb=>⟨rfl,I.turned (t':=s.toks) (λb o n e=>eb b o n e) f0 f1 f3 f4 f5⟩
 self:=λA i s Q E ⟨ok,p,st⟩ h=>PySem.W.kcp_self st h
theorem RM{X:Cx}{l:Expr}{E:List Expr}{K:Nat}{pt:Zj}{L:TE}{a c:Zj}(J:PE X l L)(j:a0v l "items" X.env (eval l X.env)=eval l X.env) (k:(a.endLine==c.line)=b5) :
  PI X (.Tuple E K pt) (.Call (.Attribute l "items" a) [] [] c) (λp H R=>L p H λv m=>∃d x A,v=.ref d/\m d=aX (.frz x (aU d A))/\R (Ak d x A) m):=by
 intro i s p H R I h;refine a1u j k (aR (J i s p H _ I h) λv n ⟨y,m,B,r1,q1⟩=>?_);obtain⟨d,x,A,e,G,q⟩:=q1;subst e;obtain rfl:v=XO d:=r1;obtain⟨lo,J,Q,N,g,hd,he⟩:=oN B G;refine⟨"dict","dict.items",a1e,a1d,a4x,g.ty,λb M=>?_,Z7 rfl (a1J ?_)⟩
 ·cases M;obtain⟨z,U,u,_⟩:=g;exact⟨z,U,u.2.1⟩
 refine a2m a1d g.ty a4q (a4b _) (E6 d lo) ⟨⟨Q,N,g⟩,?_⟩;have r:Inv X i p m {n with heap:=n.heap.push {cls:=.type "dict_items",data:=.fields #[.ref d]}}:=B.kept (t':=n.toks) λb o e=>XE _ e;obtain⟨lo2,hl2,T,O,u,w,Z⟩:=oN r G;show X5 (Yg X.prog X.w) X.A (a2H (.ref n.heap.objs.size)) (xJ X i p (.Tuple E K pt) R) X.xe _;refine EZ ⟨_,XT _ rfl,rfl,rfl⟩ u ⟨_,[_],_,_,m,rfl,r.kept (t':=n.toks) λb o e=>XE _ e,RL w,⟨_,_,XT _ rfl⟩,λb Y=>?_,q⟩;have e:=XX.mp Y;subst e;exact r.fpOk (XJ _) (r.hok.fresh (XJ _))
noncomputable def iP(a:jx):List D:=a.map λk=>.tup [.tup (k.1.map D.int),k.2]
theorem RN{K:Xy}{π:Nat->Addr}{n:Nat}{H:Hp}{d:Addr}{m:Obj}{ps:bO}{a:jx}(j:H d=aX (.frz m (aU d ps)))(T:IsTs K π n H ps a):Wk K (Ak d m ps) (cH (.tup (iP a))) π n H:=by
 have E:ps.length=a.length:=by have:=congrArg YF T.to.1;simpa using this
 refine⟨λh A o i e R z=>?_,λh A o i q e R z=>?_⟩
 ·have b:(iP a)[i]?=none:=XZ z;have:=Yy.mp b;rw[iP,Xx]at this;exact⟨e.frz _ _ _ j,by lia⟩
 ·have b:(iP a)[i]?=aX q:=XZ z;have hi:i<a.length:=by have:=(Xz.mp b).1;rwa [iP,Xx]at this
  refine⟨⟨e.frz _ _ _ j,by lia⟩,λv B ⟨t,p,r,s,u,w⟩=>?_⟩;subst r w;have c:a[i]?=aX a[i]:=XM hi;obtain⟨G,k,x⟩:=(T.to.2.1.mono e).get (i:=i) (d:=D.tup ((a[i]).1.map D.int)) (by rw[XR,c];rfl);obtain⟨I,l,y⟩:=(T.to.2.2.mono e).get (i:=i) (d:=(a[i]).2) (by rw[XR,c];rfl);rw[XR,u]at k l;cases k;cases l;obtain⟨g,R2⟩:=R.fresh (o:=.tup [.ref p.2.1,p.2.2]) s;rw[iP,XR,c]at b;cases b;exact⟨g,R2,.tup (.of cX) (.cons (x.mono g) (.cons (y.mono g) .nil))⟩
theorem RO{X:Cx}{l:Expr}{i:TE}(j:PE X l i):PE X l (λσ H Q=>i σ H λv a=>∃d ps,v=.ref d/\a d=aX (aU d ps)/\∀c,Q v (aP a d (.frz c (aU d ps)))):=by intro b s σ H Q I h;refine aR (j b s σ H _ I h) λv o ⟨y,a,g,n,m⟩=>?_;obtain⟨d,ps,rfl,e,q⟩:=m;obtain⟨_,⟨c,k⟩,_⟩:=(show ObjOk X.prog X.w a o.heap d (aU d ps)from g.hok _ _ e);exact⟨_,_,Inv.freeze g e k,n,q c⟩
noncomputable def sJ(m:ME):MI:=λc b=>(m c b).bind λp=>match p.1 with
 |.loc a=>match p.2[a]? with
  |some (.dT kvs)=>aX (cH (.tup (iP kvs)),kvs.length+1,p.2.set a (.dF kvs))|_=>aY
 |_=>aY
theorem RP{X:Cx}{e:Expr}{m:ME}{a b:Zj}(h:QE X e m)(w:jY e=b5)(v:(a.endLine==b.line)=b5):QJT X (.Call (.Attribute e "items" a) [] [] b) (sJ m):=⟨λes M pt a8T s σ H R I hw=>by
 obtain⟨J,K,A,z,n,B,q,E,c,k⟩:=hw;obtain⟨⟨x,G⟩,u,c⟩:=Xv.mp c;dsimp only at c;split at c
 ·split at c
  ·rename_i i hc;cases c;refine RM (RO h.h) (lV w) v a8T s σ H R I ⟨J,K,A,_,_,q,E,u,λl N L r o y=>?_⟩;cases y;obtain⟨d,p,T⟩:=f9 o hc;refine⟨_,d,rfl,p,λj=>?_⟩;obtain⟨g,R2⟩:=o.put (c:=.dF i) (o:=.frz j (aU _ d)) (Xz.mp hc).1 p (.inr (.inr ⟨_,rfl⟩)) ⟨j,d,rfl,T.to⟩;exact⟨_,j,d,rfl,cX,k l _ _ (r.trans g) R2 (RN cX (IsTs.of T.to.1 (T.to.2.1.mono g) (T.to.2.2.mono g)))⟩
  ·cases c
 ·cases c⟩
open PyProof.Rows (IsTup kmk_tree seqObj)
section
variable{P:Yk}{w:Yz}{A:Yt}{E:Value->XD->Prop}{s:XD}{I S:Addr}{fp wr:List Addr}{n:Nat}{Pv:Nat->Value->Prop}{St:Nat->YZ->Prop}{kw:List (Str×Value)}{R:a4H->XD->Prop}{bt:Nat->Nat->Bool}{J:YZ->Prop}
noncomputable abbrev Lft(wr:List Addr)(S:Addr)(h h':YZ):Prop:=∀b o,b∉wr->b≠S->h.get? b=aX o->h'.get? b=aX o
theorem RQ(K:Walks P w A.in1 I fp wr n Pv St)(T:∀h h',J h->Lft wr S h h'->J h')(hc:∀i j vi vj t (Q E:Value->XD->Prop),J t.heap->Pv i vi->Pv j vj->Q (.bool (bt i j)) t->X5 (Yg P w) A.in1 (a2E .Lt vi vj) Q E t)(U:S∉fp) :
  ∀(k j:Nat)(s:XD)(g:Value)(c:Nat),n-(j+1)=k->j+1<=n->St (j+1) s.heap->J s.heap->Pv (a0j bt j) g->s.heap.get? S=aX {cls:=.type "list",dict:=aY,data:=.seq #[g,g] c,slots:=#[]}->
   (∀v h' G,Pv (a0j bt (n-1)) v->Lft wr S s.heap h'->R (.ok (.ret v)) {s with heap:=h',toks:=G})->a1g (Yg P w) A (.builtin "min.loop" ⟨[.ref I,.none,.ref S],kw⟩) R s:=by
 have Z:S∉wr:=λz=>U (K.sub _ z);have nm:(toString "min"++toString ".loop":String)="min.loop":=by decide
 intro k;induction k with
 |zero=>
  intro j s g c e1 e2 st Y B u q;obtain rfl:j+1=n:=by lia
  refine a0R F.entry_min_loop ?_;rw[ZX F.plain_min_loop _];refine Xw (m:=a7S (.ref S)) (a3s u rfl ?_);refine Xw (m:=tryCatch (a1q (.ref I)) _) (a2s (K.done s _ _ st λh' G p=>?_));refine Xw (m:=a4E S λ_=>#[]) (a0O (p S _ Z u) rfl (Xw (a2D (XC ?_))));exact q g _ G B λb o d a e=>(Y7 _ _ (Yn a)).trans (p b o d e)
 |succ k X=>
  intro j s g c e1 e2 st Y B u q;refine a0R F.entry_min_loop ?_;rw[ZX F.plain_min_loop _];refine Xw (m:=a7S (.ref S)) (a3s u rfl ?_);refine Xw (m:=tryCatch (a1q (.ref I)) _) (a2s (K.item (j+1) s _ _ (by lia) st λv h' G pv x p=>?_));have l:=p S _ Z u;have m:=T _ h' Y λb o d _ e=>p b o d e;show X5 _ A.in1 (tryCatch (holding [v,v] (a2E .Lt v g >>= _)) _ >>= _) _ _ _;refine Xw (a2s (YI (Xw (hc (j+1) (a0j bt j) v g _ _ _ m pv B (Xw (YI (ZT (Xw (a2D (XC ?_))))))))));cases y:bt (j+1) (a0j bt j)with
  |true=>simp only[if_true];refine Xw (a0O l rfl (Xw (a2D ?_)));rw[nm];have M:Lft [] S h' (h'.update S (Zh λ_=>#[v,v])):=λb o _ a e=>(Y7 _ _ (Yn a)).trans e;refine XC ⟨a0e F.plain_min_loop _,X (j+1) _ v _ (by lia) (by lia) (K.frame _ _ _ x λb y o e=>M b o (by simp) (λz=>U (z▸y)) e) (T _ _ m λb o _ a e=>M b o (by simp) a e) (by simp only[a0j,y,if_true];exact pv) (Zd _ l rfl) λO H r N L=>?_⟩;exact q O H r N λb o d a e=>L b o d a (M b o (by simp) a (p b o d e))|false=>simp only[Yb,if_false];refine Xw (a2D ?_);rw[nm];exact XC ⟨a0e F.plain_min_loop _,X (j+1) _ g c (by lia) (by lia) x m (by simp only[a0j,y,Yb,if_false];exact B) l λO H r N L=>q O H r N λb o d a e=>L b o d a (p b o d e)⟩
theorem RR(K:Walks P w A.in1 I fp wr n Pv St)(p:∀h h',J h->Lft wr S h h'->J h')(hc:∀i j vi vj t (Q E:Value->XD->Prop),J t.heap->Pv i vi->Pv j vj->Q (.bool (bt i j)) t->X5 (Yg P w) A.in1 (a2E .Lt vi vj) Q E t)(q:S∉fp){c:Nat}
  (st:St 0 s.heap)(N:J s.heap)(G:s.heap.get? S=aX {cls:=.type "list",dict:=aY,data:=.seq #[] c,slots:=#[]})
  (Y:0<n->∀v h' k,Pv (a0j bt (n-1)) v->Lft wr S s.heap h'->R (.ok (.ret v)) {s with heap:=h',toks:=k})
  (Z:n=0->∃x d,kw=[(x,d)]/\∀h' k,Lft wr S s.heap h'->R (.ok (.ret d)) {s with heap:=h',toks:=k}):a1g (Yg P w) A (.builtin "min.loop" ⟨[.ref I,.none,.ref S],kw⟩) R s:=by
 have T:S∉wr:=λz=>q (K.sub _ z);have U:(toString "min"++toString ".loop":String)="min.loop":=by decide
 refine a0R F.entry_min_loop ?_;rw[ZX F.plain_min_loop _];refine Xw (m:=a7S (.ref S)) (a3s G rfl ?_);by_cases H:n=0
 ·subst H;obtain⟨x,d,rfl,q3⟩:=Z rfl;refine Xw (m:=tryCatch (a1q (.ref I)) _) (a2s (K.done s _ _ st λh' k m=>?_));exact Xw (a1p (XC (q3 h' k λb o a _ e=>m b o a e)))
 ·refine Xw (m:=tryCatch (a1q (.ref I)) _) (a2s (K.item 0 s _ _ (by lia) st λv h' k pv y m=>?_));have l:=m S _ T G;have r:=p _ h' N λb o a _ e=>m b o a e;refine Xw (m:=a4E S λ_=>#[v,v]) (a0O l rfl ?_);rw[U];have u:Lft [] S h' (h'.update S (Zh λ_=>#[v,v])):=λb o _ g e=>(Y7 _ _ (Yn g)).trans e;refine XC ⟨a0e F.plain_min_loop _,RQ K p hc q _ 0 _ v _ rfl (by lia) (K.frame _ _ _ y λb M o e=>u b o (by simp) (λz=>q (z▸M)) e) (p _ _ r λb o _ g e=>u b o (by simp) g e) pv (Zd _ l rfl) λv' L B X O=>?_⟩;exact Y (by lia) v' L B X λb o a g e=>O b o a g (u b o (by simp) g (m b o a e))
end
section
variable{P:Yk}{w:Yz}{A:Yt}{E:Value->XD->Prop}{s:XD}
noncomputable def Al(x y:List Int×List Int):Bool:=if x.1=y.1 then HT.lexLt x.2 y.2 else HT.lexLt x.1 y.1
theorem RS{a i b j c c':Addr}{k k' m r:List Int}{Q:Value->XD->Prop}(U:A.units+2<Zk)(H:a4u s.heap a #[.ref b,.ref c])(o:a4u s.heap i #[.ref j,.ref c'])
  (x:j0 P w s.heap b k)(d:j0 P w s.heap j k')(hc:j0 P w s.heap c m)(g:j0 P w s.heap c' r)(q:Q (.bool (Al (k,m) (k',r))) s):X5 (Yg P w) A (a2E .Lt (.ref a) (.ref i)) Q E s:=by
 obtain⟨y,p,v,X,I⟩:=id H;obtain⟨B,n,u,Y,G⟩:=id o;have h:A.in1.units<Zk:=by show A.units+1<Zk;lia
 refine a2l (op:=.Lt) ⟨y,p,v⟩ ⟨B,n,u⟩ F.slot_tuple_lt (Ze F.slot_tuple_lt ⟨y,p,v⟩ F.entry_tuple_lt ?_ (F.args_tuple_lt_2 _ _)) (by lia);refine Xw (m:=isInstance (.ref i) (.type "tuple")) (a0A ⟨B,n,u⟩ isSubtype_tuple_tuple ?_);simp only[a1f,Yb,if_false];refine Xw (a7t p I (Xw (a7t n G (Xw ?_))));show X5 _ _ (forIn [(XO b,XO j),(XO c,XO c')] _ _) _ _ s;simp only[a7h,List.forIn_nil];refine Xw (Xw ((ZH (ZZ P w)).eqBool h x.1 d.1 ?_));obtain⟨xs,N,J⟩:=x.2;obtain⟨ys,O,K⟩:=d.2;obtain⟨zs,R,L⟩:=hc.2;obtain⟨Z,T,M⟩:=g.2;unfold Al at q;dsimp only at q;by_cases e:k=k'
 ·rw[decide_eq_true e];rw[if_pos e]at q;simp only[a1f,Yb,if_false];refine XC (Xw (Xw ((ZH (ZZ P w)).eqBool h hc.1 g.1 ?_)));by_cases l:m=r
  ·rw[decide_eq_true l];subst l;rw[Aa]at q;simp only[a1f,Yb,if_false];exact XC (XC (XC ⟨.bool b4,rfl,(λz=>nomatch z),q⟩))
  ·rw[decide_eq_false l];simp only[a0V,if_true];refine Xw (a1p (Xw (HT.lt_tupInts R T (by simpa using L) (by simpa using M) h ?_)));exact Xw (XC (XC (XC (XC ⟨_,rfl,(λz=>nomatch z),q⟩))))
 ·rw[decide_eq_false e];rw[if_neg e]at q;simp only[a0V,if_true];refine Xw (a1p (Xw (HT.lt_tupInts N O (by simpa using J) (by simpa using K) h ?_)));exact Xw (XC (XC (XC (XC ⟨_,rfl,(λz=>nomatch z),q⟩))))
end
theorem Ft{xs:gw}{us:gq}(r:Vals xs us){i:Nat}{u:Value}(h:us[i]?=aX u):∃x,xs[i]?=aX x/\RelV x u:=by
 cases e:xs[i]? with
 |none=>rw[r.none_of e]at h;cases h|some x=>obtain⟨c,a,b⟩:=r.get e;rw[a]at h;cases h;exact⟨x,rfl,b⟩
section
variable{X:Cx}{a8T:jw}{σ:St}{H:Hp}{s:XD}
theorem vH(I:Inv X a8T σ H s){b:Addr}{k:List Int}(h:SqT X.K H b (k.map V.int)):j0 X.prog X.w s.heap b k:=by obtain⟨a,c,t,_⟩:=I.tuple h;exact⟨kR I h,a,t,xZ c⟩
structure PrV(K:Xy)(H:Hp)(v:V)(a b c:Addr)(z:List Int×List Int):Prop where
 v:v=.ref a
 t:SqT K H a [.ref b,.ref c]
 k:SqT K H b (z.1.map V.int)
 m:SqT K H c (z.2.map V.int)
theorem Lft.up{c:List Addr}{S:Addr}{a h h':YZ}(j:∀b o,a.get? b=aX o->h.get? b=aX o)(l:Lft c S h h')(hw:∀b∈c,a.objs.size<=b)(d:a.objs.size<=S):∀b o,a.get? b=aX o->h'.get? b=aX o:=λb o e=>l b o (λz=>absurd (XN e) (a1C.mpr (hw b z))) (λz=>absurd (XN e) (a1C.mpr (z▸d))) (j b o e)
noncomputable def kU(ps:List (List Int×List Int))(i j:Nat):Bool:=Al (ps.getD i ([],[])) (ps.getD j ([],[]))
noncomputable def Fu(K:Xy):gw->Hp->VK->Prop:=λxs H Q=>∃(p:Addr)(vs:gw)(ps:List (List Int×List Int)),xs=[.ref p,.non]/\SqL K H p vs/\(∀i v,vs[i]?=aX v->∃a b c,PrV K H v a b c (ps.getD i ([],[]))) /\
 (vs=[]->Q .non H)/\∀v,vs[a0j (kU ps) (vs.length-1)]?=aX v->Q v H
theorem RT(a:Value):argsOk "min" ⟨[a],[(Zg "default",.none)]⟩:=by unfold argsOk;kernel_rfl
noncomputable abbrev vJ(a:Option Value):List (Str×Value):=a.toList.map λd=>(Zg "default",d)
theorem RU{P:Yk}{w:Yz}{A:Yt}{Q E:Value->XD->Prop}(a:Option Value)(hd:a=aY\/a=aX .none){u:Value}{b:Obj}(hit:∀{A:Yt}{Q E:Value->XD->Prop},Q (.ref s.heap.objs.size) {s with heap:=s.heap.push b}->X5 (Yg P w) A (a2H u) Q E s)
  (h:a1g (Yg P w) A (.builtin "min.loop" ⟨[.ref s.heap.objs.size,.none,.ref (s.heap.push b).objs.size],vJ a⟩) (λr d=>match r with|.ok (.ret v)=>Q v d|.ok _=>False|.error e=>E e d) {s with heap:=(s.heap.push b).push (Zv "list" #[] 0)}) :
  X5 (Yg P w) A (call (.builtin "min") [u] (vJ a)) Q E s:=by
 have c:(toString "min"++toString ".loop":String)="min.loop":=by decide
 rcases hd with rfl|rfl
 ·refine call_function_tree a5O a5F a5G (PySem.F.args_min1 _) ?_;refine Xw (m:=a0m "min" ["key","default"] 0 ⟨[],[]⟩) (a3t (show a0m "min" ["key","default"] 0 ⟨[],[]⟩=pure [aY,aY]from rfl) (Xw (XC (Xw (hit (Xw (a1S ?_ (Yu _))))))));rw[c];exact XC ⟨a0e a4K _,h⟩
 ·refine kmk_tree a5O a5F a5G (RT _) ?_;refine Xw (m:=a0m "min" ["key","default"] 0 ⟨[],[(Zg "default",.none)]⟩) (a3t (show a0m "min" ["key","default"] 0 ⟨[],[(Zg "default",.none)]⟩=pure [aY,aX .none]from rfl) (Xw (XC (Xw (hit (Xw (a1S ?_ (Yu _))))))));rw[c];exact XC ⟨a0e a4K _,h⟩
theorem Fv{Q:VK}(I:Inv X a8T σ H s)(a:Option Value)(hd:a=aY\/a=aX .none){u:Value}{d:Obj}(hit:∀{A:Yt}{Q E:Value->XD->Prop},Q (.ref s.heap.objs.size) {s with heap:=s.heap.push d}->X5 (Yg X.prog X.w) A (a2H u) Q E s){p:Addr}(y:p<s.heap.objs.size){n:Nat}{g:Nat->Value->Prop}{St:Nat->YZ->Prop}
  (K:Walks X.prog X.w X.A.in1 s.heap.objs.size [s.heap.objs.size,p] [s.heap.objs.size] n g St)(st:St 0 ((s.heap.push d).push (Zv "list" #[] 0))) {bt:Nat->Nat->Bool}(c:∀i j k m (t:XD)(Q E:Value->XD->Prop),Inv X a8T σ H {s with heap:=t.heap,toks:=t.toks}->g i k->g j m->Q (.bool (bt i j)) t->X5 (Yg X.prog X.w) X.A.in1 (a2E .Lt k m) Q E t)
  (Y:0<n->∀v,g (a0j bt (n-1)) v->∃x,RelV x v/\Q x H)(Z:n=0->a=aX .none/\Q .non H):X5 (Yg X.prog X.w) X.A (call (.builtin "min") [u] (vJ a)) (EP X a8T σ Q) X.xe s:=by
 have B:∀b o,s.heap.get? b=aX o->((s.heap.push d).push (Zv "list" #[] 0)).get? b=aX o:=λb o e=>XE _ (XE _ e);have M:(s.heap.push d).objs.size=s.heap.objs.size+1:=a2e ..;have r:s.heap.objs.size<=(s.heap.push d).objs.size:=by rw[M];exact a3a _
 have J:∀b∈[s.heap.objs.size],s.heap.objs.size<=b:=λb R=>a1W (XX.mp R).symm;refine RU a hd hit (RR (bt:=bt) (J:=λh=>∀b o,s.heap.get? b=aX o->h.get? b=aX o) K (λh L j l=>l.up j J r) (λi j k m t O N U hi T q=>c i j k m t O N (I.kept (t':=t.toks) U) hi T q)
  (λz=>?_) st B (XT _ rfl) (λw v L G pv l=>?_) λw=>?_)
 ·rcases Yi.mp z with e|z
  ·exact YT (Nat.lt_of_lt_of_eq (ZK _) M.symm) e
  ·exact YT (Yh y r) (XX.mp z)
 ·obtain⟨x,e,q⟩:=Y w v pv;exact⟨x,H,I.kept (t':=G) (l.up B J r),e,q⟩
 ·obtain⟨rfl,q⟩:=Z w;exact⟨_,_,rfl,λL G l=>⟨.non,H,I.kept (t':=G) (l.up B J r),rfl,q⟩⟩
theorem Fw(hc:X.calm=b5)(L:X.A.units+64<Zk){p:Addr}{vs:gw}{ps:List (List Int×List Int)}{Q:VK}(I:Inv X a8T σ H s)(K:SqL X.K H p vs)(J:∀i v,vs[i]?=aX v->∃a b c,PrV X.K H v a b c (ps.getD i ([],[])))(l:Option Value)
  (hd:(l=aY/\vs≠[])\/(l=aX .none/\(vs=[]->Q .non H)))(U:∀v,vs[a0j (kU ps) (vs.length-1)]?=aX v->Q v H) :
  X5 (Yg X.prog X.w) X.A (call (.builtin "min") [.ref p] (vJ l)) (EP X a8T σ Q) X.xe s:=by
 have A:X.A.in1.handled=none:=I.ok.hd hc;obtain⟨d,w,u,hz⟩:=I.list K;have E:d.toArray.size=vs.length:=by rw[XW,<- w.length]
 have k:p<s.heap.objs.size:=by obtain⟨o,G,_⟩:=u.isList;exact XN G
 refine Fv I l (hd.imp And.left And.left) (λq=>a4f u.isList q) k (Walks.list A _ p (XU k) d.toArray) ⟨⟨_,XE _ (XT _ rfl),rfl,rfl⟩,(u.isList.push _).push _⟩ (bt:=kU ps) (λi j vi vj t Q' E' m hi B q=>?_) (λz v pv=>?_) λz=>?_
 ·have e:∀{i v},d.toArray[i]?=aX v->∃a b c,v=.ref a/\a4u t.heap a #[.ref b,.ref c]/\j0 X.prog X.w t.heap b (ps.getD i ([],[])).1/\j0 X.prog X.w t.heap c (ps.getD i ([],[])).2:=λ{i v} hi=>by obtain⟨x,n,r⟩:=Ft w (i:=i) (u:=v) (by simpa using hi);obtain⟨a,b,c,g⟩:=J i x n;obtain⟨rfl⟩:=g.v;cases r;obtain⟨us,ru,t,_⟩:=m.tuple g.t;obtain⟨u1,u2,rfl,Y,Z⟩:=t6 ru;cases Y;cases Z;exact⟨a,b,c,rfl,t,vH m g.k,vH m g.m⟩
  obtain⟨a,b,c,rfl,t1,M,O⟩:=e hi;obtain⟨a',b',c',rfl,t2,N,R⟩:=e B;exact RS (by show X.A.units+1+2<Zk;lia) t1 t2 M N O R q
 ·obtain⟨x,n,r⟩:=Ft w (i:=a0j (kU ps) (d.toArray.size-1)) (u:=v) (by simpa using pv);exact⟨x,r,U x (by rw[<- E];exact n)⟩
 ·have y:vs=[]:=a0r.mp (by lia);rcases hd with⟨_,h⟩|⟨rfl,T⟩
  ·exact absurd y h
  ·exact⟨rfl,T y⟩
theorem RV(hc:X.calm=b5)(a:X.A.units+64<Zk){xs:gw}{u:Value}{Q:VK}(I:Inv X a8T σ H s)(r:∃y,xs=[y,.non]/\RelV y u)(h:Fu X.K xs H Q) :
  X5 (Yg X.prog X.w) X.A (call (.builtin "min") [u] [(Zg "default",.none)]) (EP X a8T σ Q) X.xe s:=by
 obtain⟨p,k,j,rfl,d,c,e,g⟩:=h;obtain⟨y,b,i⟩:=r;cases b;cases i;exact Fw hc a I d c (aX .none) (.inr ⟨rfl,e⟩) g
end
noncomputable def vK:D->Option (List Int×List Int)
 |.tup [a,b]=>(dR a).bind λk=>(dR b).map λm=>(k,m)|_=>aY
noncomputable def qE:List D->Option (List (List Int×List Int))
 |[]=>aX []|d::ds=>(vK d).bind λz=>(qE ds).map λa=>z::a
noncomputable def kW:MF:=λds b=>match ds with
 |[.loc a,.non]=>match b[a]? with
  |some (.lst xs)=>(qE xs).bind λc=>if xs=[]then aX (.non,b)else(xs[a0j (kU c) (xs.length-1)]?).map λd=>(d,b)|_=>aY
 |_=>aY
section
variable{K:Xy}{π:Nat->Addr}{n:Nat}{H:Hp}
theorem RW{v:V}{x:D}{z:List Int×List Int}(h:IsD K π n H v x)(e:vK x=aX z):∃a b c,PrV K H v a b c z:=by
 unfold vK at e;split at e
 ·obtain⟨k,d,e⟩:=Xv.mp e;obtain⟨m,g,e⟩:=XA.mp e;cases e;cases h with
  |tup j t=>
   cases t with
   |cons l t=>
    cases t with
    |cons o t=>cases t;obtain⟨b,rfl,i⟩:=kT l d;obtain⟨c,rfl,hc⟩:=kT o g;exact⟨_,b,c,rfl,j,i,hc⟩
 ·cases e
theorem Am:∀{xs:List D}{vs:gw}{ps:List (List Int×List Int)},IsDs K π n H vs xs->qE xs=aX ps->∀i v,vs[i]?=aX v->∃a b c,PrV K H v a b c (ps.getD i ([],[]))
 |[],_,_,h,_,i,v,hv=>by cases h;cases hv
 |x::xs,_,_,h,e,i,v,hv=>by
  obtain⟨z,d,e⟩:=Xv.mp e;obtain⟨k,g,e⟩:=XA.mp e;cases e;cases h with
  |cons j t=>
   cases i with
   |zero=>cases hv;exact RW j d|succ i=>exact Am t g i v hv
end
theorem RX{K:Xy}:eT K kW (Fu K):=by
 intro h H G g d y E Q R i a k;unfold kW at a;split at a
 ·split at a
  ·rename_i g r;obtain⟨w,n,a⟩:=Xv.mp a;cases i with
   |cons s t=>
    cases t with
    |cons u t=>
     cases t;cases u;obtain⟨p,x,e,q,hd⟩:=oH (xs:=g) R s (by simp only[fS,r]);refine⟨p,x,w,by rw[e],q,Am hd n,λj=>?_,λv b=>?_⟩
     ·subst j;cases hd;rw[if_pos rfl]at a;cases a;exact k h _ H .refl R .non
     ·have c:g≠[]:=λz=>by subst z;cases hd;cases b
      rw[if_neg c]at a;obtain⟨A,o,a⟩:=XA.mp a;cases a;obtain⟨B,l,m⟩:=hd.get o;rw[hd.length]at b;rw[l]at b;cases b;exact k h _ H .refl R m
  ·cases a
 ·cases a
theorem RY{X:Cx}{e j:Expr}{m O:ME}{p p1 pos:Zj}(hc:X.calm=b5)(B:X.A.units+64<Zk)(hg:Gl X "min") (hm:X.mg "min"=aY) (h:QE X e m)(h1:QE X j O)(hs:cY e=b5) :
  QE X (.Call (.Name "min" p) [e] [⟨aX "default",j,p1⟩] pos) (aH kW (aC m (aC O aD))):=⟨by
 intro n s σ H Q I hw;obtain⟨Z,ρ,Y,d,L,R,E,hw,k⟩:=hw;obtain⟨⟨ds,μ2⟩,o,hw⟩:=Xv.mp hw;obtain⟨⟨x,c⟩,g1,o⟩:=Xv.mp o;obtain⟨⟨ds',μ3⟩,A,o⟩:=Xv.mp o;obtain⟨⟨y,g⟩,M,A⟩:=Xv.mp A;cases A;cases o;dsimp only at M hw;refine ZL (iY I hg hm a1w ?_ (by decide) (by decide));have st:Yr [e] X.env=(b4,eval e X.env)::Yr [] X.env:=f6 hs;refine a8t (aR (CD h.h CC st pos n s σ H (λT i=>∃v a,T=[v]/\Ext Z Y.length H a c.length i/\Rp X.K a i c/\IsD X.K a c.length i v x) I ⟨Z,ρ,Y,x,c,R,E,g1,λa v i j z G=>⟨v,a,rfl,j,z,G⟩⟩) λus s1 ⟨T,i,I1,r1,v,a,ev,j,z,G⟩=>?_) (by rw[st];rfl) (by rw[st];rfl);subst ev;refine aR (Lf h1.h Le pos n s1 σ i (λU l=>∃w b,U=[w]/\Ext a c.length i b g.length l/\Rp X.K b l g/\IsD X.K b g.length l w y) I1 ⟨a,ρ,c,y,g,z,E.mono j,M,λb w l r R2 J=>⟨w,b,rfl,r,R2,J⟩⟩) λws s2 ⟨U,l,I2,r2,w,b,ew,r,R2,J⟩=>?_;subst ew;obtain⟨u,rfl,ru⟩:=fY r1;obtain⟨u2,rfl,K⟩:=fY r2;have N:=RX b l g [x,y] d L [v,w] Q R2 (.cons (G.mono r) (.cons J .nil)) hw (k.after (j.trans r));obtain⟨q,vs',ps,e5,hr'⟩:=id N;cases e5;cases K;exact RV hc B I2 ⟨_,rfl,ru⟩ N⟩
noncomputable def RZ(K:Xy):gw->Hp->VK->Prop:=λxs H Q=>∃a k b v ps,xs=[V.ref a]/\H a=aX (aU a ((k,b,v)::ps))/\eJ K H ((k,b,v)::ps)/\(∀p∈ps,HT.lexLt p.1 k=b4)/\Q (.ref b) H
noncomputable def Fx(K:Xy):gw->Hp->VK->Prop:=λxs H Q=>RZ K xs H Q\/∃(p:Addr)(vs:gw)(ps:List (List Int×List Int)),xs=[.ref p]/\SqL K H p vs/\(∀i v,vs[i]?=aX v->∃a b c,PrV K H v a b c (ps.getD i ([],[])))/\vs≠[]/\∀v,vs[a0j (kU ps) (vs.length-1)]?=aX v->Q v H
theorem Fy{bt:Nat->Nat->Bool}:∀n:Nat,(∀j,j<n->bt (j+1) 0=b4)->a0j bt n=0
 |0,_=>rfl|n+1,h=>by have e:=Fy n λj a=>h j (a3K a);simp only[a0j,e,h n (ZK n),Yb,if_false]
theorem R0{X:Cx}(hc:X.calm=b5)(w:X.A.units+64<Zk):CallR X (.builtin "min") (Fx X.K):=by
 intro K s σ H xs us Q I r h;rcases h with h|h;case inr=>obtain⟨p,vs,d,rfl,hq,Z,ne,q2⟩:=h;obtain⟨u,rfl,x⟩:=fY r;cases x;exact Fw hc w I hq Z aY (.inl ⟨rfl,ne⟩) q2
 obtain⟨a,k,b,v,d,rfl,T,n,Y,q⟩:=h;obtain⟨u,rfl,x⟩:=fY r;cases x;have U:X.A.in1.handled=none:=I.ok.hd hc;obtain⟨lo,hz,l,M,g,B⟩:=pX I T n;have hs:l.size=d.length+1:=by have:=congrArg YF B;simpa using this
 have c:∀{i:Nat}{e:DictEntry},l[i]?=aX e->∃p,((k,b,v)::d)[i]?=aX p/\e.key=.ref p.2.1:=λ{i e} hi=>by have:=congrArg (·[i]?) B;simp only[XR,YW,hi,X3]at this;obtain⟨p,z,A⟩:=XA.mp this.symm;exact⟨p,z,A.symm⟩
 refine Fv I aY (.inl rfl) (λq=>zZ lo g q) g.lt (EO U (XU g.lt) l M) ⟨⟨_,XE _ (XT _ rfl),rfl,rfl⟩,g.stay λo e=>XE _ (XE _ e)⟩ (bt:=λi j=>HT.lexLt ((((k,b,v)::d).getD i ([],0,.non)).1) ((((k,b,v)::d).getD j ([],0,.non)).1)) (λi j vi vj t Q' E' y hi E q=>?_) (λR w' pv=>?_) λR=>by lia
 ·obtain⟨z,N,rfl⟩:=hi;obtain⟨A,O,rfl⟩:=E;obtain⟨p1,G,k1⟩:=c N;obtain⟨p2,J,k2⟩:=c O;rw[k1,k2];obtain⟨x1,t1,i1⟩:=(vH y (n p1 (X6 G))).2;obtain⟨x2,t2,i2⟩:=(vH y (n p2 (X6 J))).2;refine HT.lt_tupInts t1 t2 (by simpa using i1) (by simpa using i2) (by show X.A.units+1<Zk;lia) ?_;rw[Zu,Zu,G,J]at q;exact q
 ·rw[Fy _ λj E=>by
   rw[List.getD_cons_succ,a5S,Zu,XM (show j<d.length by lia)];exact Y _ (a0s _)]at pv
  obtain⟨e,f,rfl⟩:=pv;obtain⟨p,m,L⟩:=c f;cases m;exact⟨.ref b,L,q⟩
noncomputable def j6:MF:=λds b=>match ds with
 |[.loc a]=>match b[a]? with
  |some (.dT (c::kvs))=>if(kvs.all λp=>!HT.lexLt p.1 c.1)=b5 then aX (.tup (c.1.map D.int),b)else aY|some (.lst xs)=>(qE xs).bind λe=>if xs=[]then aY else(xs[a0j (kU e) (xs.length-1)]?).map λd=>(d,b)|_=>aY
 |_=>aY
theorem R8{K:Xy}:eT K j6 (Fx K):=by
 intro s H O r d J N Q R i a k;unfold j6 at a;split at a
 ·split at a
  ·rename_i G n b;split at a
   ·rename_i A;cases a;cases i with
    |cons i t=>
     cases t;cases i;obtain⟨c,l,T⟩:=f9 R b;have g:=T.to;cases c with
     |nil=>cases g.1|cons p c=>
      obtain⟨h,j⟩:=List.cons.inj g.1;refine .inl ?_;refine⟨_,p.1,p.2.1,p.2.2,c,rfl,l,T.keys,λx B=>?_,?_⟩
      ·have:x.1∈n.map (·.1):=by rw[<- j];exact XH.mpr ⟨x,B,rfl⟩
       obtain⟨y,b,w⟩:=XH.mp this;have:=a0u.mp A y b;rw[<- w,show p.1=G.1 from h];simpa using this
      ·cases g.2.1 with
       |cons i t=>exact k s _ H .refl R i
   ·cases a
  ·rename_i r b;obtain⟨c,l,a⟩:=Xv.mp a;split at a
   ·cases a
   ·rename_i m;obtain⟨L,z,a⟩:=XA.mp a;cases a;cases i with
    |cons E t=>cases t;obtain⟨p,I,e,q,hd⟩:=oH (xs:=r) R E (by simp only[fS,b]);refine .inr ⟨p,I,c,by rw[e],q,Am hd l,λu=>m (a0r.mp (by rw[<- hd.length,u];rfl)),λv o=>?_⟩;obtain⟨M,h,j⟩:=hd.get z;rw[hd.length,h]at o;cases o;exact k s _ H .refl R j
  ·cases a
 ·cases a
end L3
namespace L3
open PySem L2
structure Sig where
 fn:List (Str×Nat)
 con:List (Str×D)
 tab:List (Str×List (cF×D))
 no:List Str
 dIt:List Str
 dEq:List Str
 dMe:List Str
structure Cs where
 N:List Str
 ks:List (Str×a0p)
noncomputable def kX(x:Str):List Str->Option Nat
 |[]=>aY|y::r=>if x=y then aX 0 else(kX x r).map (·+1)
theorem oQ{x:Str}:∀{N:List Str}{i:Nat},kX x N=aX i->N[i]?=aX x
 |[],_,h=>by cases h
 |y::r,i,h=>by
  unfold kX at h;split at h
  ·rename_i e;cases h;subst e;rfl
  ·obtain⟨j,a,b⟩:=XA.mp h;subst b;have:=oQ a;simpa using this
noncomputable def glob(c:Cs)(x:Str):Bool:=decide (c.ks.lookup x=aX .globalImplicit)&&!(x==("__debug__":Str))
noncomputable def nY(c:Cs)(x:Str):Bool:=(decide (c.ks.lookup x=aX .local)||decide (c.ks.lookup x=aX .cell)||decide (c.ks.lookup x=aX .free))&&!(x==("__debug__":Str))&&!(x==("__classdict__":Str))
noncomputable def nD(c:Cs)(x:Str):Bool:=decide (c.ks.lookup x=aX .local)||decide (c.ks.lookup x=aX .cell)
noncomputable def An(x:Str):Option String:=
 if x="int" then aX "int" else if x="bool" then aX "bool" else if x="str" then aX "str" else if x="list" then aX "list" else if x="tuple" then aX "tuple" else if x="dict" then aX "dict" else aY
theorem Sa{x:Str}{n:String}(h:An x=aX n):ZA x=aX (.type n)/\x ≠ "__name__":=by
 unfold An at h;split at h
 ·rename_i e;subst e;cases h;exact⟨a2T,by decide⟩
 split at h
 ·rename_i e;subst e;cases h;exact⟨a6w,by decide⟩
 split at h
 ·rename_i e;subst e;cases h;exact⟨a6q,by decide⟩
 split at h
 ·rename_i e;subst e;cases h;exact⟨a1r,by decide⟩
 split at h
 ·rename_i e;subst e;cases h;exact⟨a1m,by decide⟩
 split at h
 ·rename_i e;subst e;cases h;exact⟨a6v,by decide⟩
 ·cases h
noncomputable def Ao(S:Sig)(c:Cs)(x:Str):ME:=
 if nY c x=b5 then(match kX x c.N with|some i=>aA i|none=>cA)
 else if glob c x=b5 then(match S.con.lookup x with
  |some d=>mC d
  |none=>if S.no.contains x=b5 then(match An x with|some n=>mC (.ty n)|none=>cA)else cA)
 else cA
noncomputable def gG(r:Expr->ME):List Expr->MA
 |[]=>aD|e::es=>aC (r e) (gG r es)
noncomputable def vL(op:BoolOp):List ME->ME
 |[]=>cA|[m]=>m|m::r=>match op with
  |.And=>fP m (vL op r)|.Or=>yI m (vL op r)
noncomputable def vM(op:BoolOp):List MT->MT
 |[]=>oC|[m]=>m|m::r=>match op with
  |.And=>eH m (vM op r)|.Or=>iJ m (vM op r)
noncomputable def Fz(op:a5t)(a b:ME):ME:=match op with
 |.Add=>aB bB a b|.Sub=>aB iL a b|.Mult=>aB bU a b|.FloorDiv=>aB eD a b|.Mod=>aB bH a b|_=>cA
noncomputable def nE(op:a1n)(ns:Bool)(a b:ME):ME:=match op with
 |.Eq=>aB (aZ b4) a b|.NotEq=>aB (aZ b5) a b|.Lt=>aB jD a b|.LtE=>aB pJ a b|.Gt=>aB kL a b|.GtE=>aB yW a b|.In=>if ns=b5 then aB (cB b4) a b else cA|.NotIn=>if ns=b5 then aB (cB b5) a b else cA|.Is=>aB (f7 b4) a b|.IsNot=>aB (f7 b5) a b
noncomputable def qF(r:Expr->ME):Option Expr->MO
 |none=>n5|some e=>lO (r e)
noncomputable def fD:MF:=λds b=>match ds with
 |[.loc a]=>match b[a]? with
  |some (.lst xs)=>aX (.int xs.length,b)|some (.st ks)=>aX (.int ks.length,b)|some (.dT kvs)=>aX (.int kvs.length,b)|_=>aY
 |_=>rQ ds b
noncomputable def Ap:MF:=λds a=>match ds with
 |[x]=>(bK a x).map λb=>(.tup b,a)|_=>aY
theorem Sb{K:Xy}:eT K Ap (λxs H Q=>∃p b,xs=[.ref p]/\((SqL K H p b/\∀l,H l=aY->Q (.ref l) (aP H l (.tup b)))\/(SqT K H p b/\Q (.ref p) H))):=by
 intro g H r xs d n o Q R i a k;unfold Ap at a;split at a
 ·obtain⟨b,h,j⟩:=XA.mp a;cases j;cases i with
  |cons i t=>
   cases t;obtain⟨p,e,rfl,q,hd⟩:=rR R i h;refine⟨p,e,rfl,?_⟩;rcases q with q|q
   ·refine .inl ⟨q,λl m=>?_⟩;obtain⟨c,R2⟩:=R.fresh (o:=.tup e) m;exact k g _ _ c R2 (.tup (.of cX) (hd.mono c))
   ·exact .inr ⟨q,k g _ H .refl R (.tup q hd)⟩
 ·cases a
noncomputable def oR:MF:=λds b=>match ds with
 |[.loc a]=>match b[a]? with
  |some (.dT kvs)=>aX (.loc b.length,b++[.lst (kvs.map λk=>D.tup (k.1.map D.int))])|_=>rS [.loc a] b
 |ds=>rS ds b
theorem Se{K:Xy}:eT K oR (λxs H Q=>(∃p g,xs=[.ref p]/\(SqL K H p g\/SqT K H p g)/\∀l,H l=aY->Q (.ref l) (aP H l (.lst g)))\/EU K xs H Q):=by
 intro n H m xs d c j Q R i b k;unfold oR at b;split at b
 ·rename_i a;split at b
  ·rename_i e s;cases b;cases i with
   |cons i t=>cases t;cases i;obtain⟨h,q,T⟩:=f9 R s;refine .inr ⟨_,h,rfl,q,T.keys,λl r=>?_⟩;obtain⟨o,R2,_⟩:=R.alloc (c:=.lst (e.map λk:List Int×D=>D.tup (k.1.map D.int))) (o:=.lst (h.map λp:List Int×Addr×V=>V.ref p.2.1)) r T.to.2.1;exact k _ _ _ o R2 lQ
  ·exact .inl (DP n H m _ d c j Q R i b k)
 ·exact .inl (DP n H m _ d c j Q R i b k)
noncomputable def Aq(x:Str):Option MF:=
 if x="len" then aX fD
 else if x="isinstance" then aX jE
 else if x="int" then aX m5
 else if x="list" then aX oR
 else if x="tuple" then aX Ap
 else if x="min" then aX zV else if x="max" then aX zU
 else aY
noncomputable def Sf(K:Xy):gw->Hp->VK->Prop:=λxs H Q=>y8 K xs H Q\/(∃a L,xs=[V.ref a]/\H a=aX (uE a L)/\Q (.int L.length) H)\/ET K xs H Q
theorem Sg{K:Xy}:eT K fD (Sf K):=by
 intro g H l q d e j Q R i b k;unfold fD at b;split at b
 ·rename_i a;split at b
  ·rename_i r c;refine .inl (DO g H l _ d e j Q R i ?_ k);simp only[rQ,bK,c];exact b
  ·rename_i n c;cases b;cases i with
   |cons i t=>cases t;cases i;obtain⟨L,h,m,_⟩:=R.st a n c;have:=congrArg YF m;rw[Xx]at this;refine .inr (.inl ⟨_,L,rfl,h,?_⟩);rw[this];exact k g _ H .refl R (.int _)
  ·rename_i o c;cases b;cases i with
   |cons i t=>cases t;cases i;obtain⟨p,h,T⟩:=f9 R c;have:=congrArg YF T.to.1;rw[Xx,Xx]at this;refine .inr (.inr ⟨_,p,rfl,h,T.keys,?_⟩);rw[this];exact k g _ H .refl R (.int _)
  ·cases b
 ·exact .inl (DO g H l _ d e j Q R i b k)
theorem Si{X:Cx}{x:Str}{f:MF}(a:X.calm=b5)(b:X.A.units+64<Zk)(h:Aq x=aX f):∃v r,ZA x=aX v/\((∃id,v=.builtin id)\/∃T,v=.type T)/\CallR X v r/\eT X.K f r/\x ≠ "__name__":=by
 unfold Aq at h;split at h
 ·rename_i e;subst e;cases h;exact⟨_,_,a6t,.inl ⟨_,rfl⟩,call_lenM.or (call_lenT.or Qx),Sg,by decide⟩
 split at h
 ·rename_i e;subst e;cases h;exact⟨_,_,a6u,.inl ⟨_,rfl⟩,NH,NG,by decide⟩
 split at h
 ·rename_i e;subst e;cases h;exact⟨_,_,a2T,.inr ⟨_,rfl⟩,K7,NF,by decide⟩
 split at h
 ·rename_i e;subst e;cases h;exact⟨_,_,a1r,.inr ⟨_,rfl⟩,call_list_of.or (Qy a),Se,by decide⟩
 split at h
 ·rename_i e;subst e;cases h;exact⟨_,_,a1m,.inr ⟨_,rfl⟩,CY,Sb,by decide⟩
 split at h
 ·rename_i e;subst e;cases h;exact⟨_,_,a1w,.inl ⟨_,rfl⟩,K6 a,Py,by decide⟩
 split at h
 ·rename_i e;subst e;cases h;exact⟨_,_,a6s,.inl ⟨_,rfl⟩,K5 a,Pz,by decide⟩
 ·cases h
noncomputable def Ar(x:Str):Option MF:=
 Aq x
theorem Sj{X:Cx}{x:Str}{f:MF}(a:X.calm=b5)(b:X.A.units+64<Zk)(h:Ar x=aX f):∃v r,ZA x=aX v/\((∃id,v=.builtin id)\/∃T,v=.type T)/\CallR X v r/\eT X.K f r/\x ≠ "__name__":=by unfold Ar at h;exact Si a b h
noncomputable def FA(m:Str)(n:Nat):Option (D->List D->Hm->jk):=
 if n=1 then(if m="append" then aX eU
  else if m="extend" then aX oF
  else aY)
 else if n=0 then(
  if m="pop" then aX pQ else
  if m="reverse" then aX pR else
  aY)
 else aY
noncomputable def j7:MF:=λds b=>match ds with
 |[.loc a]=>match b[a]? with
  |some (.dT kvs)=>if kvs.length<64/\(∀p∈kvs,p.1≠[])then aX (.loc b.length,b++[.lst ((l9 kvs).map λk=>D.tup (k.1.map D.int))])else aY|_=>aY
 |_=>aY
theorem Sk{K:Xy}:eT K j7 (Ff K):=by
 intro A H y x d u w Q R i a k;unfold j7 at a;split at a
 ·split at a
  ·rename_i b s;split at a
   ·rename_i m;cases a;cases i with
    |cons i t=>
     cases t;cases i;obtain⟨c,j,T⟩:=f9 R s;obtain⟨v,g⟩:=Q3 T;refine⟨_,c,rfl,j,T.keys,by lia,λp o z=>?_,λl n=>?_⟩
     ·have:p.1∈b.map (·.1):=by rw[<- T.to.1];exact XH.mpr ⟨p,o,rfl⟩
      obtain⟨q,r,e⟩:=XH.mp this;exact m.2 q r (e.trans z)
     ·obtain⟨h,R2,_⟩:=R.alloc (c:=.lst ((l9 b).map λk:List Int×D=>D.tup (k.1.map D.int))) (o:=.lst ((l8 c).map λp:List Int×Addr×V=>V.ref p.2.1)) n g.to.2.1;exact k _ _ _ h R2 lQ
   ·cases a
  ·cases a
 ·cases a
noncomputable def FC(S:Sig)(f:Expr)(args:List Expr):Option Expr:=match f with
 |.Name x _=>match args with
  |[.Name y p]=>if S.dMe.contains y=b5/\x="min" then aX (.Name y p)else aY|_=>aY
 |_=>aY
noncomputable def FD(S:Sig):Expr->List Expr->Option (Bool×Expr)
 |.Name x _,[.Name y p]=>if S.dMe.contains y=b5 then(if x="sorted" then aX (b5,.Name y p)else if x="dict" then aX (b4,.Name y p)else aY)else aY|_,_=>aY
noncomputable def FE(S:Sig)(o:Expr)(m:Str)(n:Nat):Option (D->List D->Hm->jk):=
 if m="setdefault"/\n=2 then aX oO else
 if m="get"/\n=2 then aX iD else
 aY
noncomputable def FF(S:Sig):Expr->Bool
 |.Name x _=>S.dEq.contains x|.Dict [] [] _=>S.dEq.contains "{}"|_=>b4
noncomputable def qH(op:a1n)(a b:ME):ME:=match op with
 |.Eq=>aB (jK b4) a b|.NotEq=>aB (jK b5) a b|_=>cA
noncomputable def vO(S:Sig)(c:Cs)(tg:Expr):Expr->Option Nat
 |.Name x _=>match tg with
  |.Name _ _=>if S.dIt.contains x=b5 then kX x c.N else aY|_=>aY
 |_=>aY
noncomputable def Au(S:Sig)(F:Str->MF)(r:Expr->ME)(c:Cs)(f:Expr)(args:List Expr)(a:Zj):ME:=match f with
 |.Name x _=>if glob c x&&args.all cY then(match S.fn.lookup x with
   |some n=>if args.length=n then aH (F x) (gG r args)else cA|none=>
   if S.no.contains x&&!args.isEmpty then(match Ar x with|some g=>aH g (gG r args)|none=>cA)else cA)
  else cA
 |.Attribute o m apos=>if jY o&&(apos.endLine==a.line)&&args.all cY then(
   match FE S o m args.length with
   |some g=>j4 g (r o) (gG r args)|none=>
   match FA m args.length with
   |some g=>dQ g (r o) (gG r args)|none=>
    cA)
  else cA
 |_=>cA
noncomputable def Av:Expr->Option (Expr×List Expr)
 |.Call f as [] _=>aX (f,as)|_=>aY
theorem Sm{e f:Expr}{as:List Expr}(h:Av e=aX (f,as)):∃pos,e=.Call f as [] pos:=by
 unfold Av at h;split at h
 ·cases h;exact⟨_,rfl⟩
 ·cases h
noncomputable def vP:Expr->Option Str
 |.Name x _=>aX x|_=>aY
theorem FG{e:Expr}{x:Str}(h:vP e=aX x):∃p,e=.Name x p:=by
 unfold vP at h;split at h
 ·cases h;exact⟨_,rfl⟩
 ·cases h
noncomputable def o1:List Expr->Option Expr
 |[e]=>aX e|_=>aY
theorem FH{l:List Expr}{e:Expr}(h:o1 l=aX e):l=[e]:=by
 unfold o1 at h;split at h
 ·cases h;rfl
 ·cases h
noncomputable def Aw(f:Expr)(args:List Expr):Option (Str×Str×Expr):=(vP f).bind λx=>(o1 args).bind λa=>(Av a).bind λg=>(vP g.1).bind λy=>(o1 g.2).map λe=>(x,y,e)
theorem FI{f:Expr}{args:List Expr}{x y:Str}{e:Expr}(h:Aw f args=aX (x,y,e)):∃p c pos,f=.Name x p/\args=[.Call (.Name y c) [e] [] pos]:=by obtain⟨m,d,h⟩:=Xv.mp h;obtain⟨a,i,h⟩:=Xv.mp h;obtain⟨g,j,h⟩:=Xv.mp h;obtain⟨n,b,h⟩:=Xv.mp h;obtain⟨l,k,h⟩:=XA.mp h;cases h;obtain⟨p,rfl⟩:=FG d;obtain⟨pos,rfl⟩:=Sm j;obtain⟨c,b⟩:=FG b;exact⟨p,c,pos,rfl,by rw[FH i,b,FH k]⟩
noncomputable def Sn(f:Expr)(args:List Expr):Option (Bool×Expr):=(Aw f args).bind λt=>
 if t.1="list"/\t.2.1="reversed" then aX (b5,t.2.2)else
 aY
noncomputable def FJ:Bool->Str
 |false=>"range"|true=>"reversed"
noncomputable def lstM:Bool->MF
 |true=>m8|false=>m8
noncomputable def Ax(S:Sig)(F:Str->MF)(r:Expr->ME)(c:Cs)(f:Expr)(args:List Expr)(a:Zj):ME:=
 match Sn f args with
 |some (b,e)=>if glob c "list" && glob c (FJ b)&&S.no.contains "list" && S.no.contains (FJ b)&&cY e then aH (lstM b) (gG r [e])else cA|none=>Au S F r c f args a
noncomputable def Ay:Expr->Option (Expr×Zj×Zj)
 |.Call g [] [] cpos=>match g with
  |.Attribute o m apos=>if m="items" then aX (o,apos,cpos)else aY|_=>aY
 |_=>aY
theorem So{e o:Expr}{a b:Zj}(h:Ay e=aX (o,a,b)):e=.Call (.Attribute o "items" a) [] [] b:=by
 unfold Ay at h;split at h
 ·split at h
  ·split at h
   ·rename_i c;cases h;rw[c]
   ·cases h
  ·cases h
 ·cases h
noncomputable def Sq(f:Expr)(args:List Expr):Option (Expr×Zj×Zj):=(Aw f args).bind λt=>if t.1="tuple"/\t.2.1="sorted" then Ay t.2.2 else aY
noncomputable def Az(S:Sig)(F:Str->MF)(r:Expr->ME)(c:Cs)(f:Expr)(args:List Expr)(a:Zj):ME:=
 match Sq f args with
 |some q=>if glob c "sorted" && glob c "tuple" && S.no.contains "sorted" && S.no.contains "tuple" && jY q.1&&(q.2.1.endLine==q.2.2.line)then vG (r q.1)else cA|none=>
 match FC S f args with
 |some e=>if glob c "min" && S.no.contains "min" then aH j6 (gG r [e])else cA|none=>
 match FD S f args with
 |some (b5,e)=>if glob c "sorted" && S.no.contains "sorted" then aH j7 (gG r [e])else cA|some (b4,e)=>cA|none=>
 Ax S F r c f args a
noncomputable def qI(c:Cs)(scope:a0g)(xs:List Str):Bool:=
 (scope.names.all λy=>decide (y.2≠.cell))&&decide (scope.kind=.function)&&(scope.names.all λy=>decide (y.2≠.local)||decide (scope.names.lookup y.1=aX .local)) &&
 (xs.all λx=>decide (scope.names.lookup x=aX .local))&&decide xs.Nodup&&(scope.names.all λy=>decide (y.2≠.free)||decide (c.ks.lookup y.1=aX .cell)||decide (c.ks.lookup y.1=aX .free)) &&
 (scope.names.all λy=>decide (y.2≠.local)||!(bN xs c.N).contains y.1)&&decide (bN xs c.N).Nodup&&(c.N.all λy=>!xs.contains y||decide (scope.names.lookup (pK y)=aY))
noncomputable def sL(c:Cs)(scope:a0g)(xs:List Str):Cs:=
 ⟨bN xs c.N++xs,scope.names.map λ(n,k)=>if(k==Z4&&c.ks.lookup n==aX .cell)then(n,a0f)else(n,k)⟩
noncomputable def FK(r:Expr->MT):List Expr->MT
 |[]=>jU|[t]=>r t|_=>oC
noncomputable def AA(S:Sig)(c:Cs):Expr->Option (List Expr)
 |.Call (.Name x _) args [] _=>if x="range" then(if glob c x&&S.no.contains x&&args.all cY then aX args else aY)else aY|_=>aY
noncomputable def vQ(S:Sig)(r:Expr->ME)(c:Cs)(e:Expr):MI:=match AA S c e with
 |some [a]=>m7 (gG r [a])|some [a,b]=>jH (gG r [a,b])|some _=>DX|none=>cR (r e)
noncomputable def AB(S:Sig)(c:Cs):Expr->Option Expr
 |.Call (.Name x _) [a] [] _=>if x="enumerate" then(if glob c x&&S.no.contains x&&cY a then aX a else aY)else aY|_=>aY
noncomputable def AD(S:Sig)(r:Expr->ME)(c:Cs)(e:Expr):MI:=match AB S c e with
 |some a=>pW (gG r [a])|none=>vQ S r c e
noncomputable def AE(S:Sig)(c:Cs):Expr->Option (Expr×Expr)
 |.Call (.Name x _) [a,b] [] _=>if x="zip" then(if glob c x&&S.no.contains x&&cY a&&cY b then aX (a,b)else aY)else aY|_=>aY
noncomputable def AF(S:Sig)(r:Expr->ME)(c:Cs)(e:Expr):MI:=match AE S c e with
 |some (a,b)=>sE (gG r [a,b])|none=>AD S r c e
noncomputable def AG:Expr->Option (List Str)
 |.Name x _=>aX [x]|.Tuple es _ _=>es.mapM λe=>match e with|.Name x _=>aX x|_=>aY
 |_=>aY
noncomputable def AH:Expr->Nat->BD
 |.Tuple ..,n=>DM n|_,_=>pM
noncomputable def sN(S:Sig)(r:Expr->ME)(c:Cs)(tg e:Expr):MI:=match tg with
 |.Tuple ..=>AF S r c e|_=>vQ S r c e
noncomputable def nF(b:MI)(d:Cs->Expr->ME)(e:Cs->Expr->MT)(c:Cs)(elt tg iter:Expr)(ifs:List Expr)(scope:a0g):ME:=match AG tg with
 |some a=>if qI c scope a&&gO iter then kN (AH tg a.length) b (FK (e (sL c scope a)) ifs) (d (sL c scope a) elt)else cA|none=>cA
noncomputable def AI(S:Sig)(a:Cs->Expr->ME)(b:Cs->Expr->MT)(c:Cs)(elt tg iter:Expr)(ifs:List Expr)(scope:a0g):ME:=
 match vO S c tg iter with
 |some i=>Ac i (nF (fA (a c iter)) a b c elt tg iter ifs scope) cA|none=>
 nF (sN S (a c) c tg iter) a b c elt tg iter ifs scope
noncomputable def FL:Const->ME
 |.int i=>mC (.int i)|.bool b=>mC (.bl b)|.str s=>mC (.str s)|.none=>mC .non|_=>cA
noncomputable def FN(m:ME):UnaryOp->ME
 |.USub=>lU m|.Not=>mW m|_=>cA
noncomputable def AJ(S:Sig)(r:Expr->ME)(a:Expr):List a1n->List Expr->ME
 |[op],[b]=>if FF S b then qH op (r a) (r b)else nE op (gO b) (r a) (r b)
 |[op,op'],[b,b']=>(match l6 op,l6 op' with
  |some p,aX q=>jZ (hW p) (hW q) (r a) (r b) (r b')
  |_,_=>cA)
 |_,_=>cA
noncomputable def AK(r:Expr->ME):List (Option Expr)->List Expr->ME
 |[],[]=>gA|[aX k],[v]=>qA (r k) (r v)|_,_=>cA
noncomputable def AL(S:Sig)(r:Expr->ME)(c:Cs)(a b:Expr):ME:=match b with
 |.Slice lo hi aY _=>o9 (r a) (qF r lo) (qF r hi)|.Slice lo hi (aX st) _=>pV (r a) (qF r lo) (qF r hi) (qF r (aX st))|b=>if jW b then aB aJ (r a) (r b)else cA
noncomputable def AM(r:Expr->ME)(es:List Expr):ME:=if es.all cY then bZ (gG r es)else cA
noncomputable def AN(r:Expr->ME)(es:List Expr):ME:=if es.all cY then b7 (gG r es)else cA
noncomputable def AO(S:Sig)(r:Expr->ME)(c:Cs)(f:Expr)(args:List Expr)(d:Str)(b:Expr):ME:=match f with
 |.Name x _=>match args with
  |[a]=>if x="min"/\d="default"/\(glob c "min" && S.no.contains "min" && cY a)=b5 then aH kW (aC (r a) (aC (r b) aD))else cA|_=>cA
 |_=>cA
noncomputable def AQ(S:Sig)(F:Str->MF)(r:Expr->ME)(c:Cs)(f:Expr)(args:List Expr)(a:Zj):List a1a->ME
 |[]=>Az S F r c f args a|[⟨aX k1,e1,_⟩]=>AO S r c f args k1 e1|_=>cA
noncomputable def AR(S:Sig)(a:Cs->Expr->ME)(b:Cs->Expr->MT)(c:Cs)(elt:Expr)(scope:a0g):List Comprehension->ME
 |[⟨tg,iter,ifs,0⟩]=>AI S a b c elt tg iter ifs scope|_=>cA
noncomputable def FP(S:Sig)(F:Str->MF)(d:Cs->Expr->ME)(e:Cs->Expr->MT)(c:Cs):Expr->ME
 |.Name x _=>Ao S c x|.Constant v _ _=>FL v|.BinOp a op b _=>Fz op (d c a) (d c b)|.UnaryOp op a _=>FN (d c a) op|.Compare a ops bs _=>AJ S (d c) a ops bs|.BoolOp op vs _=>vL op (vs.map (d c))|.IfExp t a b _=>m3 (e c t) (d c a) (d c b)|.Tuple es _ _=>AM (d c) es|.List es _=>AN (d c) es|.Dict keys values _=>AK (d c) keys values|.Subscript a b _=>AL S (d c) c a b|.Call f args kws cpos=>AQ S F (d c) c f args cpos kws|.ListComp elt gs scope _=>AR S d e c elt scope gs|_=>cA
noncomputable def sO(r:Expr->ME)(e:Expr):MT:=if zA e then fI (r e)else oC
noncomputable def AS(S:Sig)(r:Expr->ME)(a:Expr)(ops:List a1n)(bs:List Expr)(p:Zj):MT:=match ops,bs with
 |[op],[b]=>if FF S b then aV (qH op (r a) (r b))else aV (nE op (gO b) (r a) (r b))
 |[op,op'],[b,b']=>(match l6 op,l6 op' with
  |some p,aX q=>aV (jZ (hW p) (hW q) (r a) (r b) (r b'))
  |_,_=>oC)
 |ops,bs=>sO r (.Compare a ops bs p)
noncomputable def Ss(r:Expr->ME)(t:MT)(a:Expr)(p:Zj):UnaryOp->MT
 |.Not=>t|op=>sO r (.UnaryOp op a p)
noncomputable def FQ(S:Sig)(b:Cs->Expr->ME)(d:Cs->Expr->MT)(c:Cs):Expr->MT
 |.BoolOp op vs _=>vM op (vs.map (d c))|.UnaryOp op a p=>Ss (b c) (lJ (d c a)) a p op|.Compare a ops bs p=>AS S (b c) a ops bs p|e=>sO (b c) e
noncomputable def tr(S:Sig)(F:Str->MF):Nat->(Cs->Expr->ME)×(Cs->Expr->MT)
 |0=>(λ_ _=>cA,λ_ _=>oC)|n+1=>(FP S F (tr S F n).1 (tr S F n).2,FQ S (tr S F n).1 (tr S F n).2)
structure Okx(S:Sig)(F:Str->MF)(k:Nat)(c:Cs)(X:Cx):Prop where
 N:X.N=c.N
 nd:X.N.Nodup
 ks:X.env.scope.names=c.ks
 kind:X.env.scope.kind=.function
 calm:X.calm=b5
 room:Room k X.A
 never:a4L (Yg X.prog X.w) X.A X.env X.xe
 fn:∀x n,S.fn.lookup x=aX n->∃(f:Addr)(fd:a0h)(ps:List Str),FnOk X.prog X.w X.K X.mg X.base gN k f fd ps (jQ X.K n (F x))/\X.mg x=aX (.ref f)/\ZM X.K (.ref f)=b5/\Binds X.K fd ps []
 con:∀x d,S.con.lookup x=aX d->∃v u,X.mg x=aX u/\RelV v u/\∀π n H,IsD X.K π n H v d
 tab:∀x kvs,S.tab.lookup x=aX kvs->TabOk X x kvs
 no:∀x,S.no.contains x=b5->X.mg x=aY
section
variable{S:Sig}{F:Str->MF}{k:Nat}{c:Cs}{X:Cx}
theorem Su(ks:X.env.scope.names=c.ks){x:Str}(h:glob c x=b5):Gl X x/\(x==("__debug__":Str))=false:=by unfold glob at h;rw[XG]at h;refine⟨?_,by simpa using h.2⟩;show X.env.scope.names.lookup x=_;rw[ks];exact of_decide_eq_true h.1
theorem Sv(ks:X.env.scope.names=c.ks){x:Str}(h:nY c x=b5):nV X.env.scope x/\(x==("__debug__":Str))=b4/\(x==("__classdict__":Str))=false:=by
 unfold nY at h;rw[XG,XG,Z2,Z2]at h;obtain⟨⟨a,b⟩,d⟩:=h;refine⟨?_,by simpa using b,by simpa using d⟩;unfold nV;rw[ks];rcases a with(a|a)|a
 ·exact .inl (of_decide_eq_true a)
 ·exact .inr (.inl (of_decide_eq_true a))
 ·exact .inr (.inr (of_decide_eq_true a))
theorem Okx.gl(O:Okx S F k c X){x:Str}(h:glob c x=b5):Gl X x/\(x==("__debug__":Str))=false:=Su O.ks h
theorem Okx.vis(O:Okx S F k c X){x:Str}(h:nY c x=b5):nV X.env.scope x/\(x==("__debug__":Str))=b4/\(x==("__classdict__":Str))=false:=Sv O.ks h
theorem Sw(O:Okx S F k c X)(x:Str)(pos:Zj):QE X (.Name x pos) (Ao S c x):=by
 unfold Ao;split
 ·rename_i h;obtain⟨a,b,j⟩:=O.vis h;split
  ·rename_i i hi;exact NL i (by rw[O.N];exact oQ hi) a b j
  ·exact cE
 split
 ·rename_i h;obtain⟨a,b⟩:=O.gl h;split
  ·rename_i d hd;obtain⟨v,u,m,r,i⟩:=O.con x d hd;exact⟨o8 (JN a m r b) i⟩
  ·split
   ·rename_i l;split
    ·rename_i n o;obtain⟨e,g⟩:=Sa o;exact Oj (O.no x l) e a g b
    ·exact cE
   ·exact cE
 ·exact cE
theorem iQ{r:Expr->ME}(a:∀e,QE X e (r e)):∀(es:List Expr),es.all cY=b5->QA X es (gG r es) es.length
 |[],_=>N9|e::es,h=>by rw[YG,XG]at h;exact Oa (a e) (iQ a es h.2) h.1
theorem FR{r:Expr->ME}(a:∀e,QE X e (r e))(op:BoolOp)(pos:Zj):∀(vs:List Expr),QE X (.BoolOp op vs pos) (vL op (vs.map r))
 |[]=>cE|[e]=>N5 (a e)|e::d::es=>by
  have b:=FR a op pos (d::es);cases op with
  |And=>exact N6 (a e) b|Or=>exact N7 (a e) b
theorem FT{r:Expr->MT}(a:∀e,QT X e (r e))(op:BoolOp)(pos:Zj):∀(vs:List Expr),QW X (.BoolOp op vs pos) (vM op (vs.map r))
 |[]=>O3|[e]=>by
  cases op with
  |And=>exact Oy (a e)|Or=>exact Oz (a e)
 |e::d::es=>by
  have b:=FT a op pos (d::es);cases op with
  |And=>exact OA (a e) b|Or=>exact OB (a e) b
theorem Sx{a b:Expr}{g h:ME}(d:QE X a g)(e:QE X b h)(op:a5t)(pos:Zj):QE X (.BinOp a op b pos) (Fz op g h):=by
 cases op with
 |Add=>exact NQ d e|Sub=>exact NR d e|Mult=>exact NS d e|FloorDiv=>exact NT d e|Mod=>exact NU d e|_=>exact cE
theorem Sy(O:Okx S F k c X){a b:Expr}{g i:ME}(d:QE X a g)(e:QE X b i)(op:a1n)(pos:Zj):QE X (.Compare a [op] [b] pos) (nE op (gO b) g i):=by
 cases op with
 |Eq=>exact NX O.room d e|NotEq=>exact NY O.room d e|Lt=>exact NZ d e|LtE=>exact N0 d e|Gt=>exact N3 d e|GtE=>exact N4 d e|In=>
  simp only[nE];split
  ·rename_i h;exact QC O.room d e h
  ·exact cE
 |NotIn=>
  simp only[nE];split
  ·rename_i h;exact QD O.room d e h
  ·exact cE
 |Is=>exact Pt d e|IsNot=>exact Pu d e
theorem FU{e:Expr}:QT X e (aV cA):=⟨λa8T s σ H Q I h=>by
 obtain⟨i,j,g,d,b,R,E,a,k⟩:=h;cases a⟩
theorem Sz(O:Okx S F k c X){a b:Expr}{g i:ME}(d:QE X a g)(e:QE X b i)(op:a1n)(pos:Zj):QT X (.Compare a [op] [b] pos) (aV (nE op (gO b) g i)):=by
 cases op with
 |Eq=>exact Ol O.room d e|NotEq=>exact Om O.room d e|Lt=>exact Oo d e|LtE=>exact Oq d e|Gt=>exact Ot d e|GtE=>exact Ou d e|In=>
  simp only[nE];split
  ·rename_i h;exact vA O.room d e h
  ·exact FU
 |NotIn=>
  simp only[nE];split
  ·rename_i h;exact QF O.room d e h
  ·exact FU
 |Is=>exact Pw d e|IsNot=>exact Px d e
theorem sP{r:Expr->ME}(a:∀e,QE X e (r e)):∀o:Option Expr,QO X o (qF r o)
 |none=>Oe|some e=>Of (a e)
theorem SA(O:Okx S F k c X){r:Expr->ME}(j:∀e,QE X e (r e))(f:Expr)(args:List Expr)(h:Zj):QE X (.Call f args [] h) (Au S F r c f args h):=by
 unfold Au;split
 ·rename_i x p;split
  ·rename_i w;rw[XG]at w;obtain⟨y,z⟩:=O.gl w.1;have i:=iQ j args w.2;split
   ·rename_i n B;split
    ·rename_i b;obtain⟨Q,R,U,E,a,L,A⟩:=O.fn x n B;subst b;cases args with
     |nil=>exact Ph E O.room a L A y z|cons e q=>exact Oh E O.room a L A i y z
    ·exact cE
   ·skip;split
    ·rename_i d;rw[XG]at d;split
     ·rename_i g A;obtain⟨v,Y,H,M,I,J,K⟩:=Sj (X:=X) O.calm O.room.units A;cases args with
      |nil=>exact absurd d.2 (by simp)|cons e q=>
       rcases M with⟨id,rfl⟩|⟨T,rfl⟩
       ·exact y9 I J (O.no x d.1) H i y K z
       ·exact Oi I J (O.no x d.1) H i y K z
     ·exact cE
    ·exact cE
  ·exact cE
 ·rename_i o m G;split
  ·rename_i w;rw[XG,XG]at w;obtain⟨⟨s,u⟩,N⟩:=w;have i:=iQ j args N;split
   ·rename_i g a;unfold FE at a;split at a
    ·rename_i b;obtain⟨rfl,b⟩:=b;cases a;cases args with
     |nil=>cases b|cons e q=>exact Fg a3H PySem.F.type_dict_setdefault (Ro (by have:=O.room.units;lia)) Rn (j o) i s u (by rw[b];decide)
    split at a
    ·rename_i b;obtain⟨rfl,b⟩:=b;cases a;cases args with
     |nil=>cases b|cons e q=>exact Fg a4U PySem.F.type_dict_get (Rk (by have:=O.room.units;lia)) Rj (j o) i s u (by rw[b];decide)
    cases a
   split
   ·rename_i g a;unfold FA at a;split at a
    ·rename_i b;cases args with
     |nil=>cases b|cons e q=>
      have B:(e::q).length<30:=by rw[b];decide
      split at a
      ·rename_i l;subst l;cases a;exact Ed PySem.F.slot_list_append PySem.F.type_list_append C3 Pb (j o) i s u B
      split at a
      ·rename_i l;subst l;cases a;exact Ed PySem.F.slot_list_extend PySem.F.type_list_extend LR Pc (j o) i s u B
      ·cases a
    split at a
    ·rename_i b;cases args with
     |cons e q=>cases b|nil=>
      split at a
      ·rename_i l;subst l;cases a;exact Ee PySem.F.slot_list_pop PySem.F.type_list_pop LS Pe (j o) s u
      split at a
      ·rename_i l;subst l;cases a;exact Ee PySem.F.slot_list_reverse PySem.F.type_list_reverse LU Pd (j o) s u
      cases a
    ·cases a
   ·skip
    ·exact cE
  ·exact cE
 ·exact cE
theorem SD(O:Okx S F k c X){r:Expr->ME}(j:∀e,QE X e (r e))(f:Expr)(args:List Expr)(a:Zj):QE X (.Call f args [] a) (Ax S F r c f args a):=by
 unfold Ax;split
 ·rename_i b e h;split
  ·rename_i i;rw[XG,XG,XG,XG]at i;obtain⟨⟨⟨⟨l,m⟩,q⟩,s⟩,st⟩:=i;have o:=iQ j [e] (by rw[YG,st];rfl);obtain⟨t,n,g⟩:=Xv.mp h;obtain⟨p,v,u,rfl,rfl⟩:=FI n;split at g
   ·rename_i d;cases g;rw[d.1,d.2];exact Qf O.calm (O.no _ q) (O.no _ s) o (O.gl l).1 (O.gl m).1
   ·cases g
  ·exact cE
 ·exact SA O j f args a
theorem SE(nd:X.N.Nodup)(e:X.N=c.N)(ks:X.env.scope.names=c.ks){scope:a0g}{xs:List Str}(h:qI c scope xs=b5):CompSt X.env.scope X.N scope xs/\xs.Nodup:=by
 unfold qI at h;rw[XG,XG]at h;obtain⟨⟨h,b⟩,q⟩:=h;have b:=of_decide_eq_true b;have d:∀y∈c.N,xs.contains y=b5->scope.names.lookup (pK y)=none:=λy a hc=>by have:=a0u.mp q y a;rw[hc]at this;simpa using this
 simp only[XG,a0u,decide_eq_true_eq,Z2,Z1,List.contains_eq_mem,decide_eq_false_iff_not]at h;obtain⟨⟨⟨⟨⟨⟨i,j⟩,l⟩,m⟩,p⟩,n⟩,o⟩:=h;refine⟨⟨i,j,λy a g=>(l y a).resolve_left (λz=>z g),m,λy a r=>?_,λy a g=>?_,nd,by rw[e];exact b,by rw[e];exact d⟩,p⟩
 ·rw[ks];rcases n y a with(z|z)|z
  ·exact absurd r z
  ·exact .inl z
  ·exact .inr z
 ·rw[e];have:=(o y a).resolve_left (λz=>z g);exact this
theorem sQ(O:Okx S F k c X){scope:a0g}{xs:List Str}(h:qI c scope xs=b5):CompSt X.env.scope X.N scope xs/\xs.Nodup:=SE O.nd O.N O.ks h
theorem FV{N xs:List Str}(h:N.Nodup)(d:xs.Nodup)(g:∀x∈xs,x∉N):(N++xs).Nodup:=by rw[Y5];exact⟨h,d,λa i b j e=>by subst e;exact g _ j i⟩
theorem FW{scope:a0g}{xs:List Str}(Q:CompSt X.env.scope X.N scope xs/\xs.Nodup):(bN xs X.N++xs).Nodup:=FV Q.1.hnd Q.2 λx a=>Q.1.own (x,.local) (Zc (Q.1.here x a)) rfl
theorem SF(a:X.env.scope.kind=.function)(ks:X.env.scope.names=c.ks)(scope:a0g)(xs:List Str):(a7G scope X.env).names=(sL c scope xs).ks:=by
 unfold a7G sL;dsimp only;refine Ye λy _=>?_;obtain⟨n,b⟩:=y;dsimp only;have:(X.env.scope.kind==ScopeKind.function)=true:=by rw[a];rfl
 rw[this,a3p];show(if(b==Z4&&X.env.scope.names.lookup n==aX a0f)=b5 then _ else _)=_;rw[ks]
theorem Okx.comp(O:Okx S F k c X){scope:a0g}{xs:List Str}(h:qI c scope xs=b5){b:List (Str×Addr)}{C:Addr}{s₀:XD}{H₀:Hp}{d:List Addr}:Okx S F k (sL c scope xs) (cQ X scope b C (bN xs X.N++xs) s₀ H₀ d):=
 ⟨show bN xs X.N++xs=bN xs c.N++xs by rw[O.N],FW (sQ O h),SF O.kind O.ks scope xs,(sQ O h).1.kind,O.calm,O.room,a5H,O.fn,O.con,λy a q=>⟨(O.tab y a q).ex⟩,O.no
  ⟩
theorem FX{r:Expr->MT}(j:∀e,QT X e (r e)):∀es:List Expr,QI X es (FK r es)
 |[]=>OD|[t]=>OE (j t)
 |a::b::es=>⟨λg s p H Q I h=>by
   obtain⟨n,o,m,d,l,R,E,i,k⟩:=h;cases i⟩
theorem FY(O:Okx S F k c X){e:Expr}{args:List Expr}(h:AA S c e=aX args):∃p pos,e=.Call (.Name "range" p) args [] pos/\Gl X "range"/\X.mg "range"=aY/\args.all cY=true:=by
 unfold AA at h;split at h
 ·split at h
  ·rename_i b;subst b;split at h
   ·rename_i a;cases h;rw[XG,XG]at a;exact⟨_,_,rfl,(O.gl a.1.1).1,O.no _ a.1.2,a.2⟩
   ·cases h
  ·cases h
 ·cases h
theorem FZ(O:Okx S F k c X){r:Expr->ME}(j:∀e,QE X e (r e))(e:Expr):QJ X e (vQ S r c e):=by
 unfold vQ;split
 ·rename_i a h;obtain⟨p,l,rfl,d,g,i⟩:=FY O h;exact OV d g (iQ j [a] i)
 ·rename_i a b h;obtain⟨p,l,rfl,d,g,i⟩:=FY O h;exact OW d g (iQ j [a,b] i)
 ·exact OS
 ·exact OT (j e)
theorem SG(O:Okx S F k c X){e a:Expr}(h:AB S c e=aX a):∃p pos,e=.Call (.Name "enumerate" p) [a] [] pos/\Gl X "enumerate"/\X.mg "enumerate"=aY/\cY a=true:=by
 unfold AB at h;split at h
 ·split at h
  ·rename_i d;subst d;split at h
   ·rename_i b;cases h;rw[XG,XG]at b;exact⟨_,_,rfl,(O.gl b.1.1).1,O.no _ b.1.2,b.2⟩
   ·cases h
  ·cases h
 ·cases h
theorem SJ(O:Okx S F k c X){r:Expr->ME}(b:∀e,QE X e (r e))(e:Expr):QJT X e (AD S r c e):=by
 unfold AD;split
 ·rename_i a h;obtain⟨p,j,rfl,d,g,i⟩:=SG O h;exact PR d g (iQ b [a] (by rw[YG,i];rfl))
 ·exact(FZ O b e).t
theorem SK(O:Okx S F k c X){e a b:Expr}(h:AE S c e=aX (a,b)):∃p pos,e=.Call (.Name "zip" p) [a,b] [] pos/\Gl X "zip"/\X.mg "zip"=aY/\cY a=b5/\cY b=true:=by
 unfold AE at h;split at h
 ·split at h
  ·rename_i g;subst g;split at h
   ·rename_i d;cases h;rw[XG,XG,XG]at d;exact⟨_,_,rfl,(O.gl d.1.1.1).1,O.no _ d.1.1.2,d.1.2,d.2⟩
   ·cases h
  ·cases h
 ·cases h
theorem SM(O:Okx S F k c X){r:Expr->ME}(d:∀e,QE X e (r e))(e:Expr):QJT X e (AF S r c e):=by
 unfold AF;split
 ·rename_i a b h;obtain⟨p,m,rfl,g,i,j,l⟩:=SK O h;exact QR g i (iQ d [a,b] (by rw[YG,YG,j,l];rfl))
 ·exact SJ O d e
theorem AU(O:Okx S F k c X){r:Expr->ME}(a:∀e,QE X e (r e))(tg e:Expr):PI X tg e (tMI X.K (sN S r c tg e)):=by
 unfold sN;split
 ·exact(SM O a e).h _ _ _
 ·exact(FZ O a e).h _
theorem F0{iter:Expr}{env:a3h}(h:gO iter=b5):∀x,a0X iter env x=pure x:=by intro z;cases iter<;>first|rfl|cases h
end
theorem F1{X:Cx}(c:X.N.Nodup):∀(es:List Expr)(xs:List Str)(n:Nat),(es.mapM λe=>match e with|.Name x _=>aX x|_=>aY)=aX xs->(∀j x,xs[j]?=aX x->X.N[n+j]?=aX x/\X.env.scope.names.lookup x=aX .local)->QGs X es (a2o n xs.length)
 |[],xs,n,h,hx=>by cases h;exact DV
 |e::es,xs,n,h,hx=>by
  rw[List.mapM_cons]at h;obtain⟨x,b,h⟩:=Xv.mp h;obtain⟨i,d,h⟩:=Xv.mp h;cases h;cases e with
  |Name y p=>cases b;rw[Ym,a2x];have a:=hx 0 x rfl;refine DW n c (F1 c es i (n+1) d λj z g=>?_) (by simpa using a.1) (.inl a.2) (.inr a.2);have:=hx (j+1) z (by simpa using g);rw[show n+1+j=n+(j+1) by lia];exact this|_=>cases b
theorem SN{c:Cs}{X:Cx}{scope:a0g}{x:Str}{p:Zj}(Q:CompSt X.env.scope X.N scope [x]/\[x].Nodup)(a:List (Str×Addr))(C:Addr)(s₀:XD)(H₀:Hp)(b:List Addr):PG (cQ X scope a C (bN [x] X.N++[x]) s₀ H₀ b) (.Name x p) (tMG X.K (gB X.N.length pM)):=by have e:=FW Q;have d:(a7G scope X.env).names.lookup x=aX .local:=a6Z (Q.1.here x (by simp));exact OX (X:=cQ X scope a C (bN [x] X.N++[x]) s₀ H₀ b) (by show(bN [x] X.N++[x]).length=_;rw[XI,n8];rfl) (DJ (X:=cQ X scope a C (bN [x] X.N++[x]) s₀ H₀ b) e (by show(bN [x] X.N++[x])[X.N.length]?=_;rw[<- n8 [x] X.N];simp) (.inl d) (.inr d))
theorem vT{S:Sig}{F:Str->MF}{k:Nat}{c:Cs}{X:Cx}(O:Okx S F k c X){scope:a0g}{tg:Expr}{xs:List Str}(a:AG tg=aX xs)(h:qI c scope xs=b5)(b:List (Str×Addr))(C:Addr)(s₀:XD)(H₀:Hp)(e:List Addr) :
  PG (cQ X scope b C (bN xs X.N++xs) s₀ H₀ e) tg (tMG X.K (gB X.N.length (AH tg xs.length)))/\∀d n z,AH tg xs.length d n=aX z->z.length=xs.length:=by
 obtain⟨St,i⟩:=sQ O h;have r:(bN xs X.N++xs).Nodup:=FV St.hnd i λx a=>St.own (x,.local) (Zc (St.here x a)) rfl;have g:∀x∈xs,(a7G scope X.env).names.lookup x=aX .local:=λx a=>a6Z (St.here x a);unfold AG at a;split at a
 ·rename_i x p;cases a;refine⟨SN (c:=c) ⟨St,i⟩ b C s₀ H₀ e,λd n z m=>?_⟩;cases m;rfl
 ·rename_i q v pt;refine⟨OY (X:=cQ X scope b C (bN xs X.N++xs) s₀ H₀ e) (by show(bN xs X.N++xs).length=_;rw[XI,n8]) (zB (X:=cQ X scope b C (bN xs X.N++xs) s₀ H₀ e) (F1 (X:=cQ X scope b C (bN xs X.N++xs) s₀ H₀ e) r q xs X.N.length a λj x o=>⟨?_,g x (X6 o)⟩) O.calm).h,λd n z m=>?_⟩
  ·show(bN xs X.N++xs)[X.N.length+j]?=aX x;rw[Zt (by rw[n8];lia),n8,show X.N.length+j-X.N.length=j by lia];exact o
  ·obtain⟨w,u,l⟩:=Xv.mp m;split at l
   ·rename_i s;cases l;rw[Xx];exact s
   ·cases l
 ·cases a
theorem SO(O:Okx S F k c X){r:Expr->ME}(g:∀e,QE X e (r e))(f:Expr)(args:List Expr)(b:Zj):QE X (.Call f args [] b) (Az S F r c f args b):=by
 unfold Az;split
 ·rename_i q h;split
  ·rename_i a;rw[XG,XG,XG,XG,XG]at a;obtain⟨⟨⟨⟨⟨l,m⟩,s⟩,u⟩,st⟩,o⟩:=a;obtain⟨t,n,j⟩:=Xv.mp h;split at j
   ·rename_i d;obtain⟨p,w,v,rfl,rfl⟩:=FI n;rw[d.1,d.2,So j];exact RE O.calm O.room.units (O.no _ s) (O.no _ u) (O.gl l).1 (O.gl m).1 (g _) st o
   ·cases j
  ·exact cE
 split
 ·rename_i e h;split
  ·rename_i a;rw[XG]at a;unfold FC at h;split at h
   ·split at h
    ·split at h
     ·rename_i i;obtain⟨_,rfl⟩:=i;cases h;exact y9 (R0 O.calm O.room.units) R8 (O.no _ a.2) a1w (iQ g _ rfl) (O.gl a.1).1 (by decide) (O.gl a.1).2
     ·cases h
    ·cases h
   ·cases h
  ·exact cE
 split
 ·rename_i e h;split
  ·rename_i a;rw[XG]at a;unfold FD at h;split at h
   ·split at h
    ·split at h
     ·rename_i i;subst i;cases h;exact y9 (Rf O.calm) Sk (O.no _ a.2) a2K (iQ g _ rfl) (O.gl a.1).1 (by decide) (O.gl a.1).2
     ·split at h
      ·cases h
      ·cases h
    ·cases h
   ·cases h
  ·exact cE
 ·exact cE
 exact SD O g _ _ _
theorem AV{S:Sig}{F:Str->MF}{k:Nat}{m:Cs->Expr->ME}{n:Cs->Expr->MT}(o:∀c X,Okx S F k c X->∀e,QE X e (m c e))(p:∀c X,Okx S F k c X->∀e,QT X e (n c e))(c:Cs)(X:Cx)(O:Okx S F k c X)
  (elt tg iter:Expr)(ifs:List Expr)(scope:a0g)(pos:Zj){l:MI}(hi:PI X tg iter (tMI X.K l)):QE X (.ListComp elt [⟨tg,iter,ifs,0⟩] scope pos) (nF l m n c elt tg iter ifs scope):=by
 unfold nF;split
 ·rename_i v j;split
  ·rename_i h;rw[XG]at h;refine⟨λg s u H Q I q=>?_⟩;exact O1 ((sQ O h.1).1.ok I.ok) O.calm hi (λd r z=>(vT O j h.1 [] 0 s H []).2 d r z) (λC b a i=>(vT O j h.1 _ C b a i).1) (λC b a i=>(FX (p _ _ (O.comp h.1)) _).h) (λC b a i=>(o _ _ (O.comp h.1) _).h) (F0 h.2) g s u H Q I q
  ·exact cE
 ·exact cE
theorem SQ{S:Sig}{F:Str->MF}{k:Nat}{d:Cs->Expr->ME}{g:Cs->Expr->MT}(a:∀c X,Okx S F k c X->∀e,QE X e (d c e))(b:∀c X,Okx S F k c X->∀e,QT X e (g c e))(c:Cs)(X:Cx)(O:Okx S F k c X)
  (elt tg iter:Expr)(ifs:List Expr)(scope:a0g)(pos:Zj):QE X (.ListComp elt [⟨tg,iter,ifs,0⟩] scope pos) (AI S d g c elt tg iter ifs scope):=by
 unfold AI;split
 ·exact Q7 (AV a b c X O elt tg iter ifs scope pos ((Af (a c X O iter)).h tg)) cE
 exact AV a b c X O elt tg iter ifs scope pos (AU O (a c X O) tg iter)
theorem SR{S:Sig}{F:Str->MF}{k:Nat}{c:Cs}{X:Cx}(O:Okx S F k c X){a b:Expr}{g h:ME}(d:QE X a g)(e:QE X b h)(op:a1n)(pos:Zj):QE X (.Compare a [op] [b] pos) (qH op g h):=by
 unfold qH;split
 ·exact Ru O.room d e
 ·exact Rv O.room d e
 ·exact cE
theorem SS{S:Sig}{F:Str->MF}{k:Nat}{c:Cs}{X:Cx}(O:Okx S F k c X){a b:Expr}{g h:ME}(d:QE X a g)(e:QE X b h)(op:a1n)(pos:Zj):QT X (.Compare a [op] [b] pos) (aV (qH op g h)):=by
 unfold qH;split
 ·exact Ry O.room d e
 ·exact Rz O.room d e
 ·exact⟨λi s p H Q I q=>by
   obtain⟨n,o,m,b,l,R,E,j,k⟩:=q;cases j⟩
section
variable{S:Sig}{F:Str->MF}{k:Nat}{c:Cs}{X:Cx}{r:Expr->ME}
theorem SU(v:Const)(n:Nat)(p:Zj):QE X (.Constant v n p) (FL v):=by cases v<;>first|exact NM|exact NN|exact NO|exact NP|exact cE
theorem SV(b:∀e,QE X e (r e))(op:UnaryOp)(a:Expr)(p:Zj):QE X (.UnaryOp op a p) (FN (r a) op):=by cases op<;>first|exact NV (b _)|exact NW (b _)|exact cE
theorem SW(O:Okx S F k c X)(b:∀e,QE X e (r e))(a:Expr)(ops:List a1n)(bs:List Expr)(p:Zj):QE X (.Compare a ops bs p) (AJ S r a ops bs):=by
 unfold AJ;split
 ·split
  ·exact SR O (b _) (b _) _ _
  ·exact Sy O (b _) (b _) _ _
 ·split
  ·rename_i d g;exact Pp d g (b _) (b _) (b _)
  ·exact cE
 ·exact cE
theorem SX(O:Okx S F k c X)(a:∀e,QE X e (r e))(ks:List (Option Expr))(vs:List Expr)(p:Zj):QE X (.Dict ks vs p) (AK r ks vs):=by
 unfold AK;try split
 ·exact Qo
 ·exact Q6 O.room (a _) (a _)
 ·exact cE
theorem SY(O:Okx S F k c X)(d:∀e,QE X e (r e))(a b:Expr)(p:Zj):QE X (.Subscript a b p) (AL S r c a b):=by
 unfold AL;split
 ·exact Og (d _) (sP d _) (sP d _)
 ·exact PJ (d _) (sP d _) (sP d _) (sP d _)
 ·split
  ·rename_i h
   ·exact Qz O.room (d _) (d _) h
  ·exact cE
theorem AW(a:∀e,QE X e (r e))(e:Expr):QT X e (sO r e):=by
 unfold sO;split
 ·rename_i h;exact Pg (a _) h
 ·exact zD
theorem S1(O:Okx S F k c X)(b:∀e,QE X e (r e))(a:Expr)(ops:List a1n)(bs:List Expr)(p:Zj):QT X (.Compare a ops bs p) (AS S r a ops bs p):=by
 unfold AS;split
 ·split
  ·exact SS O (b _) (b _) _ _
  ·exact Sz O (b _) (b _) _ _
 ·split
  ·rename_i d g;exact Pq d g (b _) (b _) (b _)
  ·exact zD
 ·exact AW b _
theorem S2(a:∀e,QE X e (r e))(es:List Expr)(n:Nat)(p:Zj):QE X (.Tuple es n p) (AM r es):=by
 unfold AM;split
 ·rename_i h;exact Ob (iQ a _ h)
 ·exact cE
theorem S3(a:∀e,QE X e (r e))(es:List Expr)(p:Zj):QE X (.List es p) (AN r es):=by
 unfold AN;split
 ·rename_i h;exact Oc (iQ a _ h)
 ·exact cE
theorem S4(O:Okx S F k c X)(b:∀e,QE X e (r e))(f:Expr)(args:List Expr)(d:Str)(a:Expr)(g p:Zj):QE X (.Call f args [⟨aX d,a,g⟩] p) (AO S r c f args d a):=by
 unfold AO;cases f with
 |Name x i=>
  dsimp only;split
  ·split
   ·rename_i h;obtain⟨rfl,rfl,h⟩:=h;rw[XG,XG]at h;exact RY O.calm O.room.units (O.gl h.1.1).1 (O.no _ h.1.2) (b _) (b _) h.2
   ·exact cE
  ·exact cE
 |_=>exact cE
theorem S5(O:Okx S F k c X)(b:∀e,QE X e (r e))(f:Expr)(args:List Expr)(a:List a1a)(p:Zj):QE X (.Call f args a p) (AQ S F r c f args p a):=by
 unfold AQ;split
 ·exact SO O b _ _ _
 ·exact S4 O b _ _ _ _ _ _
 ·exact cE
end
theorem F2{S:Sig}{F:Str->MF}{k:Nat}{m:Cs->Expr->ME}{o:Cs->Expr->MT}(y:∀c X,Okx S F k c X->∀e,QE X e (m c e))(z:∀c X,Okx S F k c X->∀e,QT X e (o c e))(c:Cs)(X:Cx)(O:Okx S F k c X) :
  (∀e,QE X e (FP S F m o c e))/\∀e,QT X e (FQ S m o c e):=by
 have d:=y c X O;have s:=z c X O;constructor
 ·intro e;cases e with
  |Name x p=>exact Sw O _ _|Constant v n p=>exact SU v n p|BinOp a i b p=>exact Sx (d _) (d _) _ _|UnaryOp i a p=>exact SV d i a p|Compare a g bs p=>exact SW O d a g bs p|BoolOp i w p=>exact FR d _ _ _|IfExp t a b p=>exact N8 (s _) (d _) (d _)|Tuple r n p=>exact S2 d r n p|List r p=>exact S3 d r p|Dict B w p=>exact SX O d B w p|Subscript a b p=>exact SY O d a b p|Call f j u l=>exact S5 O d f j u l|ListComp q A h p=>
   show QE X _ (AR S m o c q h A);unfold AR;split
   ·exact SQ y z c X O _ _ _ _ _ _
   ·exact cE
  |_=>exact cE
 ·intro e;cases e with
  |BoolOp i w p=>exact OC (FT s _ _ _)|UnaryOp i a p=>
   cases i;case Not=>exact Ox (s _)
   all_goals exact AW d _
  |Compare a g bs p=>exact S1 O d a g bs p|_=>exact AW d _
theorem AX{S:Sig}{F:Str->MF}{k:Nat}:∀(n:Nat),(∀c X,Okx S F k c X->∀e,QE X e ((tr S F n).1 c e))/\∀c X,Okx S F k c X->∀e,QT X e ((tr S F n).2 c e)
 |0=>⟨λc X O e=>cE,λc X O e=>zD⟩|n+1=>by have a:=AX (S:=S) (F:=F) (k:=k) n;exact⟨λc X O e=>(F2 a.1 a.2 c X O).1 e,λc X O e=>(F2 a.1 a.2 c X O).2 e⟩
noncomputable def vU:MG:=λ_ _ _=>aY
noncomputable def sR(c:Cs):List Expr->Option (List Nat)
 |[]=>aX []|.Name x _::r=>if nD c x then(kX x c.N).bind λi=>(sR c r).map (i::·)else aY|_=>aY
noncomputable def qJ(c:Cs):Expr->MG
 |.Name x _=>if nD c x then(match kX x c.N with|some i=>bP i|none=>vU)else vU|.Tuple es _ _=>match sR c es with|some a=>cT a|none=>vU
 |_=>vU
noncomputable def kZ(r:Stmt->MS):List Stmt->MS
 |[]=>b6|[s]=>r s|s::t=>aG (r s) (kZ r t)
noncomputable def AY(S:Sig)(E:Cs->Expr->ME)(T:Cs->Expr->MT)(c:Cs)(i:Nat):Expr->MS
 |.ListComp elt [⟨tg,iter,ifs,0⟩] scope _=>match vO S c tg iter with
  |some j=>eV j (aW i (nF (fA (E c iter)) E T c elt tg iter ifs scope)) cK|none=>aW i (nF (sN S (E c) c tg iter) E T c elt tg iter ifs scope)
 |_=>cK
noncomputable def F3(c:Cs)(x y:Str)(d py:Zj)(a b:Expr):Bool:=
 decide (c.ks.lookup x=aX .local)&&decide (c.ks.lookup y=aX .local)&&(py.line==d.line)&&decide (x≠y)&&cY a&&cY b&&!(a2I 8 a&&a2I 8 b)&&!(a2u 8 a&&a2u 8 b)
noncomputable def AZ(S:Sig)(E:Cs->Expr->ME)(T:Cs->Expr->MT)(c:Cs)(tg e:Expr):MS:=match tg with
 |.Name y _=>if nD c y then(match kX y c.N with
   |some i=>if kM e then aW i (E c e)else AY S E T c i e
   |none=>cK)else cK
 |.Tuple es _ _=>if zC e then(match sR c es with|some d=>fQ (E c e) (cT d)|none=>cK)
   else(match es,e with
    |[.Name x px,.Name y py],.Tuple [a,b] _ _=>if F3 c x y px py a b then(match kX x c.N,kX y c.N with|some i,aX j=>pN i j (gG (E c) [a,b])|_,_=>cK)else cK|[.Subscript o i _,.Subscript o2 i2 _],_=>if jW i&&jW i2 then r8 (E c e) (E c o) (E c i) (E c o2) (E c i2)else cK
    |_,_=>cK)
 |.Subscript o i _=>if kM e&&jW i then dN (E c o) (E c i) (E c e)else cK|_=>cK
noncomputable def qK:Nat:=1000000000
noncomputable def A2(S:Sig)(c:Cs)(tg:Expr):Expr->Option (Nat×Expr×Zj×Zj)
 |.Call g [] [] cpos=>match g with
  |.Attribute o m apos=>if m="values" then(vO S c tg o).map λj=>(j,o,apos,cpos)else aY|_=>aY
 |_=>aY
theorem S6{S:Sig}{c:Cs}{tg e:Expr}{q:Nat×Expr×Zj×Zj}(h:A2 S c tg e=aX q):e=.Call (.Attribute q.2.1 "values" q.2.2.1) [] [] q.2.2.2:=by
 unfold A2 at h;split at h
 ·split at h
  ·split at h
   ·rename_i a;obtain⟨j,_,rfl⟩:=XA.mp h;rw[a]
   ·cases h
  ·cases h
 ·cases h
noncomputable def A3(tg:Expr):Expr->Option (Expr×Zj×Zj)
 |.Call g [] [] cpos=>match g with
  |.Attribute o m apos=>match tg with
   |.Tuple ..=>if m="items" then aX (o,apos,cpos)else aY|_=>aY
  |_=>aY
 |_=>aY
theorem S7{tg e:Expr}{q:Expr×Zj×Zj}(h:A3 tg e=aX q):e=.Call (.Attribute q.1 "items" q.2.1) [] [] q.2.2/\∃es b p,tg=.Tuple es b p:=by
 unfold A3 at h;split at h
 ·split at h
  ·split at h
   ·split at h
    ·rename_i a;cases h;rw[a];exact⟨rfl,_,_,_,rfl⟩
    ·cases h
   ·cases h
  ·cases h
 ·cases h
noncomputable def F4(S:Sig)(E:Cs->Expr->ME)(T:Cs->Expr->MT)(c:Cs)(r:Stmt->MS):Stmt->MS
 |.Return (aX e) _=>bC (E c e)|.Return aY _=>bC (mC .non)|.If t a b _=>bT (T c t) (kZ r a) (kZ r b)|.Assign [tg] e _=>AZ S E T c tg e|.Expr e _=>if kM e then dW (E c e)else cK|.For tg iter body [] _=>if gO iter then
  (match A3 tg iter with
  |some q=>if jY q.1&&(q.2.1.endLine==q.2.2.line)then bW (sJ (E c q.1)) (qJ c tg) (kZ r body)else cK|none=>
  (match A2 S c tg iter with
  |some q=>if jY q.2.1&&(q.2.2.1.endLine==q.2.2.2.line)then eV q.1 (bW (qD (E c q.2.1)) (qJ c tg) (kZ r body)) cK else cK|none=>
  (match vO S c tg iter with
  |some j=>eV j (bW (fA (E c iter)) (qJ c tg) (kZ r body)) cK
  |none=>bW (sN S (E c) c tg iter) (qJ c tg) (kZ r body))
  )
  )
  else cK
 |.While t body [] _=>pT qK (T c t) (kZ r body)|.Pass _=>b6|_=>cK
noncomputable def A4(S:Sig)(F:Str->MF)(m:Nat)(c:Cs):Nat->Stmt->MS
 |0=>λ_=>cK|n+1=>F4 S (tr S F m).1 (tr S F m).2 c (A4 S F m c n)
section
variable{S:Sig}{F:Str->MF}{k:Nat}{c:Cs}{X:Cx}
theorem S8(ks:X.env.scope.names=c.ks){x:Str}(h:nD c x=b5):L2.Loc X.env.scope x:=by unfold nD at h;rw[Z2]at h;unfold L2.Loc;rw[ks];exact h.imp of_decide_eq_true of_decide_eq_true
theorem Okx.own(O:Okx S F k c X){x:Str}(h:nD c x=b5):L2.Loc X.env.scope x:=S8 O.ks h
theorem A5(O:Okx S F k c X)(b:∀x,X.fn x=b5):∀(es:List Expr)(a:List Nat),sR c es=aX a->QGs X es a
 |[],a,h=>by cases h;exact DV
 |e::es,a,h=>by
  cases e with
  |Name x p=>
   unfold sR at h;split at h
   ·rename_i j;obtain⟨i,d,h⟩:=Xv.mp h;obtain⟨l,g,h⟩:=XA.mp h;subst h;exact DW i O.nd (A5 O b es l g) (by rw[O.N];exact oQ d) (O.own j) (.inl (b x))
   ·cases h
  |_=>cases h
theorem vV(O:Okx S F k c X)(a:∀x,X.fn x=b5)(e:Expr):QG X e (qJ c e):=by
 unfold qJ;split
 ·split
  ·rename_i b;split
   ·rename_i i hi;exact ON i O.nd (by rw[O.N];exact oQ hi) (O.own b) (.inl (a _))
   ·exact uR λ_ _ _=>rfl
  ·exact uR λ_ _ _=>rfl
 ·split
  ·rename_i d hi;exact zB (A5 O a _ d hi) O.calm
  ·exact uR λ_ _ _=>rfl
 ·exact uR λ_ _ _=>rfl
theorem mD{r:Stmt->MS}(a:∀s,QS X s (r s)):∀b:List Stmt,QB X b (kZ r b)
 |[]=>OF|[s]=>OH (a s)|s::t::ts=>OG (a s) (mD a (t::ts))
theorem S9{elt tg iter:Expr}{ifs:List Expr}{scope:a0g}{pos py:Zj}{y:Str}{n:Nat}{env:a3h} :
  ∃b:Bool,a1M (.ListComp elt [⟨tg,iter,ifs,0⟩] scope pos) (aX (.Name y py)) n env=pure b/\(b=b5->env.kindOf y=aX .local):=by
 refine⟨env.blockKind==.function&&env.kindOf y==aX .local&&py.line==pos.line&&!(scope.names.any λ(n,k)=>n==y&&(k==.local||k==.cell)),rfl,λh=>?_⟩;simp only[XG,beq_iff_eq]at h;exact h.1.1.2
theorem F5(O:Okx S F k c X)(A:∀x,X.fn x=b5){E:Cs->Expr->ME}{T:Cs->Expr->MT}(r:∀c X,Okx S F k c X->∀e,QE X e (E c e))(u:∀c X,Okx S F k c X->∀e,QT X e (T c e))
  {i:Nat}{y:Str}{py j:Zj}(hi:X.N[i]?=aX y)(B:nD c y=b5)(elt tg iter:Expr)(ifs:List Expr)(scope:a0g)(pos:Zj){w:MI}(m:PI X tg iter (tMI X.K w)):QS X (.Assign [.Name y py] (.ListComp elt [⟨tg,iter,ifs,0⟩] scope pos) j) (aW i (nF w E T c elt tg iter ifs scope)):=by
  obtain⟨b,l,p⟩:=S9 (elt:=elt) (tg:=tg) (iter:=iter) (ifs:=ifs) (scope:=scope) (pos:=pos) (py:=py) (y:=y) (n:=j.line) (env:=X.env);cases b with
  |false=>exact⟨Dv O.nd hi (O.own B) (AV r u c X O elt tg iter ifs scope pos m).h l (.inl (A y))⟩|true=>
   unfold nF;split
   ·rename_i K v;split
    ·rename_i h;rw[XG]at h;refine⟨λn s J H D I q=>?_⟩;exact O2 ((sQ O h.1).1.ok I.ok) O.nd O.calm m (λd G z=>(vT O v h.1 [] 0 s H []).2 d G z) (λC g a o=>(vT O v h.1 _ C g a o).1) (λC g a o=>(FX (u _ _ (O.comp h.1)) _).h) (λC g a o=>(r _ _ (O.comp h.1) _).h) (F0 h.2) hi (p rfl) l n s J H D I q
    ·exact ED
   ·exact ED
theorem Ta(O:Okx S F k c X)(g:∀x,X.fn x=b5){E:Cs->Expr->ME}{T:Cs->Expr->MT}(b:∀c X,Okx S F k c X->∀e,QE X e (E c e))(d:∀c X,Okx S F k c X->∀e,QT X e (T c e))
  {i:Nat}{y:Str}{py a:Zj}(hi:X.N[i]?=aX y)(h:nD c y=b5)(e:Expr):QS X (.Assign [.Name y py] e a) (AY S E T c i e):=by
 unfold AY;split
 ·split
  ·exact Ad (F5 O g b d hi h _ _ _ _ _ _ ((Af (b c X O _)).h _)) dX
  ·exact F5 O g b d hi h _ _ _ _ _ _ (AU O (b c X O) _ _)
 ·exact dX
theorem Tc{env:a3h}{x y:Str}{m py pt l:Zj}{v u:Nat}{a b:Expr}(r:env.scope.kind=.function)(n:env.kindOf x=aX .local)(o:env.kindOf y=aX .local)(s:(py.line==m.line)=b5)(j:x≠y)
  (p:cY a=b5)(q:cY b=b5)(i:(a2I 8 a&&a2I 8 b)=b4)(hc:(a2u 8 a&&a2u 8 b)=b4) :
  a0d [.Tuple [.Name x m,.Name y py] v pt] (.Tuple [a,b] u l) env=pure (aX [x,y]):=by
 have bk:(env.blockKind != .function)=false:=by unfold Env.blockKind;rw[r];rfl
 have g:[a,b].all (a2I 8)=false:=by simpa using i
 have e:[a,b].all (a2u 8)=false:=by simpa using hc
 have d:py.line=m.line:=eq_of_beq s;have nd:[x,y].eraseDups.length=2:=by
  have:(y==x)=false:=by simpa using Yn j
  simp[List.eraseDups_cons,this]
 unfold a0d;dsimp only;rw[bk];split
 ·rename_i h;simp at h
 split
 ·rename_i h;exfalso;simp only[a4X,List.any_nil,a3o,Z2]at h;rcases h with h|h
  ·clear i hc g e;cases a<;>first|exact a6T h|cases p
  ·clear i hc g e;cases b<;>first|exact a6T h|cases q
 split
 ·rename_i h;exfalso;simp[Expr.pos,n,o,d,nd]at h
 rw[g,e];simp[Expr.pos,n,o,d]
theorem Td(O:Okx S F k c X)(g:∀x,X.fn x=b5){E:Cs->Expr->ME}{T:Cs->Expr->MT}(a:∀c X,Okx S F k c X->∀e,QE X e (E c e))(B:∀c X,Okx S F k c X->∀e,QT X e (T c e))(tg e:Expr)(pos:Zj) :
  QS X (.Assign [tg] e pos) (AZ S E T c tg e):=by
 unfold AZ;split
 ·split
  ·rename_i s;split
   ·rename_i i hi;have b:=oQ hi;rw[<- O.N]at b;split
    ·rename_i l;exact OM i O.nd (a c X O e) l b (O.own s) (.inl (g _))
    ·exact Ta O g a B b s e
   ·exact dX
  ·exact dX
 ·split
  ·rename_i l;split
   ·rename_i H hi;exact OP (a c X O e) (zB (A5 O g _ H hi) O.calm) l
   ·exact dX
  ·split
   ·split
    ·rename_i h;unfold F3 at h;simp only[XG,decide_eq_true_eq,Z1]at h;obtain⟨⟨⟨⟨⟨⟨⟨u,v⟩,w⟩,p⟩,q⟩,r⟩,y⟩,A⟩:=h;split
     ·rename_i i j hi G;have m:=u;have n:=v;rw[<- O.ks]at m n;have o:=oQ hi;have d:=oQ G;refine OQ i j O.nd (iQ (a c X O) _ (by rw[YG,YG,q,r];rfl)) (λz=>?_) O.calm (by rw[O.N];exact o) (by rw[O.N];exact d) m n (Tc O.kind m n w p q r y A);subst z;rw[o]at d;exact p (XZ d)
     ·exact dX
    ·exact dX
   ·split
    ·rename_i h;rw[XG]at h;exact P0 O.calm (a c X O _) (a c X O _) (a c X O _) (a c X O _) (a c X O _) h.1 h.2
    ·exact dX
   ·exact dX
 ·split
  ·rename_i h;rw[XG]at h;exact QH O.room (a c X O _) (a c X O _) (a c X O _) h.1
  ·exact dX
 ·exact dX
theorem Te(O:Okx S F k c X)(m:∀x,X.fn x=b5){E:Cs->Expr->ME}{T:Cs->Expr->MT}(g:∀c X,Okx S F k c X->∀e,QE X e (E c e))(u:∀c X,Okx S F k c X->∀e,QT X e (T c e)){r:Stmt->MS}(j:∀s,QS X s (r s))(st:Stmt) :
  QS X st (F4 S E T c r st):=by
 cases st with
 |Return o p=>
  cases o with
  |none=>exact Pk|some e=>exact OJ (g c X O _)
 |If t a b p=>exact OL (u c X O _) (mD j _) (mD j _)|Assign w e p=>
  cases w with
  |nil=>exact dX|cons B G=>
   cases G with
   |nil=>exact Td O m g u _ _ _|cons _ _=>exact dX
 |Expr e p=>
  show QS X _ (if kM e then dW (E c e)else cK);split
  ·rename_i h;exact OK (g c X O _) h
  ·exact dX
 |For B n l d p=>
  cases d with
  |cons _ _=>exact dX|nil=>
   show QS X _ (if gO n then _ else cK);split
   ·rename_i h;split
    ·rename_i q v;split
     ·rename_i i;rw[XG]at i;obtain⟨e,z,A,pt,y⟩:=S7 v;rw[e]at h ⊢;subst y;exact u3 ((RP (g c X O _) i.1 i.2).h z A pt) (vV O m _) (mD j _) O.never O.calm h
     ·exact dX
    split
    ·rename_i q v;split
     ·rename_i i;rw[XG]at i;have e:=S6 v;rw[e]at h ⊢;exact Ad (u3 ((RK (g c X O _) i.1 i.2).h _) (vV O m _) (mD j _) O.never O.calm h) dX
     ·exact dX
    split
    ·exact Ad (u3 ((Af (g c X O _)).h _) (vV O m _) (mD j _) O.never O.calm h) dX
    exact u3 (AU O (g c X O) _ _) (vV O m _) (mD j _) O.never O.calm h
   ·exact dX
 |While t l d p=>
  cases d with
  |nil=>exact Pj _ (u c X O _) (mD j _) O.never|cons _ _=>exact dX
 |Pass p=>exact OI|_=>exact dX
theorem F6(O:Okx S F k c X)(a:∀x,X.fn x=b5)(m:Nat):∀(n:Nat)(st:Stmt),QS X st (A4 S F m c n st)
 |0,_=>dX|n+1,st=>Te O a (AX m).1 (AX m).2 (F6 O a m n) st
end
noncomputable def eE(st:Stmt):List Str:=(i7 st).args.map (·.arg)
noncomputable def nG(st:Stmt):List Str:=eE st++(cP st).names.filterMap λy=>if(y.2==NameKind.local||y.2==a0f)&&!(eE st).contains y.1 then aX y.1 else aY
noncomputable def nH(st:Stmt):Bool:=
 decide ((cP st).kind=.function)&&!(cP st).isCoroutine&&!(cP st).isGenerator&&decide (nG st).Nodup &&
 ((eE st).all λx=>decide ((cP st).names.lookup x=aX .local)||decide ((cP st).names.lookup x=aX .cell))&&((cP st).names.all λy=>decide (y.2≠.free))
theorem Tf{st:Stmt}(h:nH st=b5):FnScope (nG st) (eE st) (cP st):=by unfold nH at h;simp only[XG,decide_eq_true_eq,Z1,a0u,Z2]at h;obtain⟨⟨⟨⟨⟨a,b⟩,c⟩,d⟩,e⟩,g⟩:=h;exact⟨a,b,c,d,by unfold nG;simp,e,g⟩
noncomputable def F7:Nat:=40
noncomputable def F8:Nat:=40
noncomputable abbrev lk(_:Sig)(ds:List (Str×Stmt))(x:Str):Option Stmt:=ds.lookup x
noncomputable def A6(S:Sig)(F:Str->MF)(st:Stmt):MF:=yK (nG st).length (kZ (A4 S F F7 ⟨nG st,(cP st).names⟩ F8) (fZ st))
noncomputable def j8(S:Sig)(ds:List (Str×Stmt)):Nat->Str->MF
 |0,_=>λ_ _=>aY|k+1,x=>match lk S ds x with
  |none=>λ_ _=>aY|some st=>A6 S (j8 S ds k) st
structure DefAt(K:Xy)(mg:Str->Option Value)(x:Str)(st:Stmt):Prop where
 ex:∃f fd,Fun K x x st f fd/\mg x=aX (.ref f)/\Binds K fd (eE st) []
structure TxtOk(P:Yk)(w:Yz)(K:Xy)(mg:Str->Option Value)(S:Sig)(ds:List (Str×Stmt)):Prop where
 fns:∀x n,S.fn.lookup x=aX n->∃st,ds.lookup x=aX st/\(eE st).length=n
 defs:∀x st,ds.lookup x=aX st->DefAt K mg x st/\nH st=b5
 con:∀x d,S.con.lookup x=aX d->∃v u,mg x=aX u/\RelV v u/\∀π n H,IsD K π n H v d
 tab:∀x kvs,S.tab.lookup x=aX kvs->∃(p:Addr)(vs:List (cF×V))(ws:List (cF×Value)),mg x=aX (.ref p)/\(∀h:YZ,K.In h->h.DictOf (rC P w) p ws)/\KV vs ws/\∀π n H,IsKs K π n H vs kvs
 no:∀x,S.no.contains x=b5->mg x=aY
theorem F9{S:Sig}{ds:List (Str×Stmt)}{x:Str}{st:Stmt}(h:ds.lookup x=aX st):lk S ds x=aX st:=by unfold lk;rw[h]
theorem TxtOk.sc{P:Yk}{w:Yz}{K:Xy}{a:Str->Option Value}{S:Sig}{ds:List (Str×Stmt)}(T:TxtOk P w K a S ds){x:Str}{st:Stmt}(h:lk S ds x=aX st):nH st=true:=(T.defs _ _ h).2
theorem Tg{P:Yk}{w:Yz}{K:Xy}{o:Str->Option Value}{base:YZ}{S:Sig}{ds:List (Str×Stmt)}(T:TxtOk P w K o S ds)(k:Nat):∀(x:Str)(st:Stmt)(G q:Str)(f:Addr)(j:a0h),lk S ds x=aX st->Fun K G q st f j->
  FnOk P w K o base gN k f j (eE st) (jQ K (eE st).length (j8 S ds k x)):=by
 induction k using Nat.strongRecOn with
 |_ k l=>
 intro x st G q f j z M;cases k with
 |zero=>exact⟨λvs H Q E h=>h.1,λA outer s H r us vs Q E B he hb hv U=>by
   obtain⟨_,π,J,μ,d,μ',R,i,N,kc⟩:=U;cases N⟩
 |succ k=>
  have Y:=l k (ZK k);have e:j8 S ds (k+1) x=A6 S (j8 S ds k) st:=by show(match lk S ds x with|none=>_|some st=>A6 S (j8 S ds k) st)=_;rw[z]
  rw[e];have c:=Tf (T.sc z);refine OR M c (by unfold nG;simp) rfl λg A outer s H E B=>?_;have O:Okx S (j8 S ds k) k ⟨nG st,(cP st).names⟩ (lI gN P w K o base (nG st) q (cP st) f g A outer s H E).nox:=by
   refine⟨rfl,c.nd,rfl,c.kind,rfl,B,a5H,λy n X=>?_,T.con,λy m q=>⟨T.tab y m q⟩,T.no
    ⟩
   ·obtain⟨a,v,L⟩:=T.fns y n X;obtain⟨u,b,p,Z,I⟩:=(T.defs y a v).1.ex;subst L;exact⟨u,b,eE a,Y y a _ _ u b (F9 v) p,Z,p.kp,I⟩
  exact mD (F6 O (λ_=>rfl) F7 F8) (fZ st)
theorem Th{P:Yk}{w:Yz}{K:Xy}{b:Str->Option Value}{base:YZ}{S:Sig}{ds:List (Str×Stmt)}(T:TxtOk P w K b S ds)(k:Nat)(x:Str)(st:Stmt)(f:Addr)(a:a0h)(d:ds.lookup x=aX st)(c:Fun K x x st f a) :
  FnOk P w K b base gN k f a (eE st) (jQ K (eE st).length (j8 S ds k x)):=Tg T k x st x x f a (F9 d) c
theorem Ga:∀{ns:List Int}{b:Nat},a1O (ns.map a1D)<=b->∀n∈ns,YB n<=b
 |[],_,_,n,a=>nomatch a|m::ns,b,h,n,a=>by
  have e:a1O ((m::ns).map a1D)=a3Z (.int m)+1+a1O (ns.map a1D):=rfl;have c:a3Z (.int m)=YB m:=rfl;rw[e,c]at h;rcases Yi.mp a with rfl|a
  ·lia
  ·exact Ga (b:=b) (by lia) n a
section
open PySem PySem.W PySem.Calls PyProof.Rows
theorem Ti{l:a6b}{n:Nat}{q:Yk}{loose:List Str}{XP:(Str->Option Value)->YZ->Prop}{YP:Yz->YZ->Prop}{d:DefRec}
  (U:l.most=aX n)(y:d.params.defaults=[])
  (call:∀(w:Yz)(s₀ b:XD)(s B:Str->Option Value)(g:Addr)(o:Obj)(E p c:Value)(a:Addr)(vs:gq)(ns:List Int),
   Ground q loose [] XP w s₀ s B b.heap->YP w b.heap->
   b.heap.get? g=aX o->o.data=.func (docDef d.name d.params d.body d.scope E p c)->b.heap.CodeRec p d.name->s d.name=aX (.ref g)->
   b.heap.get? a=aX {cls:=.type "list",data:=.seq vs.toArray}->a0M vs ns->ns.length<=n->(∀m∈ns,YB m<=2^20)->b.gens=#[]->
   a1g (Yg l.prog w) a4m (.call (.ref g) ⟨[.ref a],[]⟩) (λr u=>r=.ok (.ret (.bool b5))/\OldK b.heap u.heap/\u.os=b.os/\a3E u.gens) b) :
  a6I q loose XP YP l.row.toRowW d [] (λf vs=>a7Y f vs):=by
 intro w s₀ b s B G Y g o E p c K kV X hd x I z Q H J as k h hrd A R;obtain rfl:K=.none:=Dflts.none I y;obtain rfl:kV=.none:=Dflts.noKw I;obtain⟨a,vs,ns,rfl,rfl,j,e,i⟩:=Att.script_of U k A;have O:∀m∈ns,YB m<=2^20:=by
  have v:a3R (.list (ns.map a1D))=true:=by have:=h;unfold a7Z at this;simpa using this
  unfold a3R at v;rw[XG]at v;exact Ga (of_decide_eq_true v.2)
 refine enter_call (a4l (call w s₀ b s B g o E p c a vs ns G Y X (fd_plain hd) x z j e i O Q) λr u Z=>?_);obtain⟨rfl,L,M,N⟩:=Z;exact⟨.inl ⟨.bool b5,.bool b5,[],rfl,λ_=>rfl,.bool b5,Att.post_true l _,λ_=>⟨a4B,λ_ T=>(nomatch T)⟩⟩,L,M,N⟩
end
theorem walkM{l:a6b}{q:Yk}{loose:List Str}{XP:(Str->Option Value)->YZ->Prop}{YP:Yz->YZ->Prop}{d:DefRec}{K:ZG->Xy}{S:Sig}{ds:List (Str×Stmt)}{k:Nat}{st:Stmt}{x:Str}(hn:l.most=aX 63)(L:d.params.defaults=[])
  (hr:Room k a4m)(hY:∀(w:Yz)(h:YZ),YP w h->(K w.params).In h)(hl:ds.lookup d.name=aX st)(hx:eE st=[x])
  (T:∀(w:Yz)(B:Str->Option Value)(h:YZ),(K w.params).In h->h.Ns Zq B->TxtOk l.prog w (K w.params) B S ds/\∃f I,Fun (K w.params) d.name d.name st f I/\B d.name=aX (.ref f)/\∀(s:XD)(u:Value),a4w s I ⟨[u],[]⟩ [(x,u)])
  (M:∀b:List Int,b.length<=63->(∀m∈b,YB m<=2^20)->∃p,j8 S ds k d.name [.rol (b.map D.int)] []=aX (.bl b5,p)) :
  a6I q loose XP YP l.row.toRowW d [] (λf Z=>a7Y f Z):=by
 refine Ti hn L λw U X B mb fa o pm cd doc a Z b G Y ho hd hcd N A g c J hg=>?_;have Q:=hY w _ Y;obtain⟨hT,f,I,hF,R,hb⟩:=T w B _ Q G.T.g;rw[N]at R;cases R;refine L2.law_call (CX:=gN) (sp:=jQ (K w.params) 1 (j8 S ds k d.name)) Q G.T.g G.T.b G.T.builtins G.T.nolimit hg A g (Ys c (by decide)) hr (λy hb1 hb2=>?_) hb (λH hO hS=>?_) λH e s' z=>z
 ·have:=Th (base:=y) hT k d.name st fa I hl hF;rw[hx]at this;exact this
 ·obtain⟨p,hM⟩:=M b c J;have O:RoL (K w.params) H a (b.map V.int):=by
   rcases hS with(h|h)|h
   ·rcases hO a with z|⟨o,E,z⟩
    ·rw[z]at h;cases h
    ·rw[z]at h;cases h
   ·exact .inl h
   ·exact .inr h
  refine⟨rfl,λ_=>0,[.rol (b.map D.int)],[],.bl b5,p,⟨λi j hi=>absurd hi (a1P _),λi hi=>absurd hi (a1P _),λi E h=>(by cases h),λi E h=>(by cases h),λi E h=>(by cases h)
   ,λi E h=>(by cases h)
   ,λi E h=>(by cases h)
   ⟩,.cons (.rol O ?_) .nil,hM,λπ' v H' _ _ hv=>?_⟩
  ·have:∀b:List Int,IsDs (K w.params) (λ_=>0) ([]:Hm).length H (b.map V.int) (b.map D.int):=λb=>by
    induction b with
    |nil=>exact .nil|cons n r ih=>exact .cons (.int n) ih
   exact this b
  ·cases hv;rfl
end L3
namespace L3
open PySem L2
theorem vW{a:Type}:∀{l:List (Str×a)}{x:Str}{b:a},l.lookup x=aX b->(x,b)∈l:=λh=>Zc h
theorem Tj{S:Sig}{ds:List (Str×Stmt)}(h:(S.fn.all λp=>match ds.lookup p.1 with|some st=>decide ((eE st).length=p.2)|none=>b4)=b5):∀x n,S.fn.lookup x=aX n->∃st,ds.lookup x=aX st/\(eE st).length=n:=by
 intro x n e;have:=a0u.mp h (x,n) (vW e);dsimp only at this;split at this
 ·rename_i st a;exact⟨st,a,of_decide_eq_true this⟩
 ·cases this
theorem Tn{K:Xy}{a:Str->Option Value}{ds:List (Str×Stmt)}(h:∀p∈ds,DefAt K a p.1 p.2/\nH p.2=b5):∀x st,ds.lookup x=aX st->DefAt K a x st/\nH st=true:=λx st e=>h (x,st) (vW e)
theorem To{K:Xy}{b:Str->Option Value}{a:List (Str×D)}(h:∀p∈a,∃v u,b p.1=aX u/\RelV v u/\∀π n H,IsD K π n H v p.2):∀x d,a.lookup x=aX d->∃v u,b x=aX u/\RelV v u/\∀π n H,IsD K π n H v d:=λx d e=>h (x,d) (vW e)
inductive EntsOf (w:Yz):List DictEntry->List (cF×Value)->Prop where
 |nil:EntsOf w [] []
 |cons {e:DictEntry}{k:cF}{v:Value}{es:List DictEntry}{kvs:List (cF×Value)}(h:xE k e.key=b5)(hh:e.hash=Cb w k)(hv:e.val=v)(t:EntsOf w es kvs):EntsOf w (e::es) ((k,v)::kvs)
theorem Tp{a:Str->Option Value}{ns:List Str}(h:∀x∈ns,a x=aY):∀x,ns.contains x=b5->a x=none:=λx e=>h x (by simpa using e)
noncomputable def vX:Nat->(Nat->Value)->gq
 |0,_=>[]|n+1,u=>u 0::vX n λi=>u (i+1)
theorem Gb:∀us:gq,∃u,us=vX us.length u
 |[]=>⟨λ_=>.none,rfl⟩|v::us=>let⟨u,a⟩:=Gb us;⟨λi=>match i with|0=>v|i+1=>u i,congrArg (v::·) a⟩
noncomputable abbrev Gd:Type:=Value->Value->Value->Option Addr->Value->Value->(Nat->Value)->a8k (List (Str×Value))
noncomputable def Tq(x:Str)(st:Stmt)(m:Value)(c:Addr):Obj:=⟨Yd "function",aY,.func (ZN x x (i7 st) (fZ st) (cP st) .none .none .none m aY (.ref c) .none),#[]⟩
noncomputable def Ge(K:Xy)(d:(Str×Stmt)×Value×Addr×Addr):Option (Option Value)×Option Obj×Bool×Bool×Bool×Gd:=(a2v K Zq d.1.1,K.lookup d.2.2.2,a2J K (.ref d.2.2.1) d.1.1,ZM K (.ref d.2.2.2),nH d.1.2,λkV b c an a ct u=>a7b (ZN d.1.1 d.1.1 (i7 d.1.2) (fZ d.1.2) (cP d.1.2) .none kV b c an a ct) ⟨vX (eE d.1.2).length u,[]⟩)
noncomputable def Gf(d:(Str×Stmt)×Value×Addr×Addr):Option (Option Value)×Option Obj×Bool×Bool×Bool×Gd:=(aX (aX (.ref d.2.2.2)),aX (Tq d.1.1 d.1.2 d.2.1 d.2.2.1),b5,b5,b5,λ_ _ _ _ _ _ u=>pure ((eE d.1.2).zip (vX (eE d.1.2).length u)))
noncomputable def vY(K:Xy)(d:Str×Stmt):(Str×Stmt)×Value×Addr×Addr:=(d,match a2v K Zq d.1 with
 |some (aX (.ref f))=>(match K.lookup f with
  |some ⟨_,_,.func fd,_⟩=>(match fd.code with
   |.ref c=>(fd.pyModule,c,f)
   |_=>(.none,0,0))
  |_=>(.none,0,0))
 |_=>(.none,0,0))
noncomputable def vZ(K:Xy)(ds:List (Str×Stmt)):Prop:=ds.map (λd=>Ge K (vY K d))=ds.map λd=>Gf (vY K d)
theorem Gg{K:Xy}{h:YZ}{i:Str->Option Value}(X:K.In h)(G:h.Ns Zq i){ds:List (Str×Stmt)}(q:vZ K ds):∀p∈ds,(DefAt K i p.1 p.2/\nH p.2=b5)/\∃f j,Fun K p.1 p.1 p.2 f j/\i p.1=aX (.ref f)/\∀us:gq,us.length=(eE p.2).length->a7b j ⟨us,[]⟩=pure ((eE p.2).zip us):=by
 intro g r;have t:=a6B.mp q g r;have e:(vY K g).1=g:=rfl;generalize vY K g=d at t e;obtain⟨p,m,c,f⟩:=d;cases e;unfold Ge Gf at t;obtain⟨a,t⟩:=a2L t;obtain⟨l,t⟩:=a2L t;obtain⟨c,t⟩:=a2L t;obtain⟨k,t⟩:=a2L t;obtain⟨s,b⟩:=a2L t;have F:=LX (st:=p.2) l c k;have D:=λkV doc pm an cdv ct (us:gq)(o:us.length=(eE p.2).length)=>(by
  obtain⟨u,n⟩:=Gb us;rw[o]at n;rw[n];exact congrFun (congrFun (congrFun (congrFun (congrFun (congrFun (congrFun b kV) doc) pm) an) cdv) ct) u:a7b (ZN p.1 p.1 (i7 p.2) (fZ p.2) (cP p.2) .none kV doc pm an cdv ct) ⟨us,[]⟩=pure ((eE p.2).zip us))
 exact⟨⟨⟨_,_,F,a4o X G a,Binds.all (D _ _ _ _ _ _)⟩,s⟩,_,_,F,a4o X G a,D _ _ _ _ _ _⟩
theorem Tr{K:Xy}{h:YZ}{c:Str->Option Value}(X:K.In h)(G:h.Ns Zq c){ds:List (Str×Stmt)}(q:vZ K ds){x y:Str}{st:Stmt}(d:ds.lookup x=aX st)(e:eE st=[y]):∃f a,Fun K x x st f a/\c x=aX (.ref f)/\∀(s:XD)(u:Value),a4w s a ⟨[u],[]⟩ [(y,u)]:=by obtain⟨f,a,F,m,b⟩:=(Gg X G q (x,st) (vW d)).2;dsimp only at b;rw[e]at b;exact⟨f,a,F,m,λs u=>.of_eq (b [u] rfl)⟩
theorem Ts{K:Xy}{h:YZ}{a:Str->Option Value}(X:K.In h)(G:h.Ns Zq a){ns:List Str}(q:ns.map (a2v K Zq)=ns.map λ_=>aX aY):∀x∈ns,a x=none:=λx b=>PySem.W.mg_none_of X G (a6B.mp q x b)
noncomputable def sS{c d:Type}(f:c->d->Bool):List c->List d->Bool
 |[],[]=>b5|a::as,b::bs=>f a b&&sS f as bs|_,_=>b4
noncomputable def sT(K:Xy):Nat->Value->D->Bool
 |0,_,_=>b4|k+1,u,d=>match d with
  |.non=>(match u with|.none=>b5|_=>b4)|.bl b=>(match u with|.bool c=>decide (b=c)|_=>b4)|.int i=>(match u with|.int j _=>decide (i=j)|_=>b4)|.str x=>(match u with|.str y _=>decide (x=y)|_=>b4)
  |.tup ds=>(match u with
   |.ref p=>(match K.lookup p with
    |some ⟨.type t,aY,.seq its _,_⟩=>decide (t="tuple")&&decide (its.size<=1000)&&sS (sT K k) its.toList ds
    |_=>b4)
   |_=>b4)
  |.rol ds=>(match u with
   |.ref p=>(match K.lookup p with
    |some ⟨.type t,aY,.seq its _,_⟩=>decide (t="list")&&decide (its.size<=1000)&&sS (sT K k) its.toList ds
    |_=>b4)
   |_=>b4)
  |_=>b4
theorem Gh{K:Xy}{f:Value->D->Bool}(h:∀u d,f u d=b5->∃v,RelV v u/\∀π n H,IsD K π n H v d):∀us ds,sS f us ds=b5->∃vs,Vals vs us/\∀π n H,IsDs K π n H vs ds
 |[],[],_=>⟨[],.nil,λ_ _ _=>.nil⟩|u::us,d::ds,e=>by obtain⟨a,b⟩:=a0W.mp e;obtain⟨v,r,q⟩:=h u d a;obtain⟨vs,g,c⟩:=Gh h us ds b;exact⟨v::vs,.cons r g,λ_ _ _=>.cons (q _ _ _) (c _ _ _)⟩
 |[],_::_,e=>nomatch e|_::_,[],e=>nomatch e
theorem Gi{K:Xy}:∀(k:Nat)(u:Value)(d:D),sT K k u d=b5->∃v,RelV v u/\∀π n H,IsD K π n H v d
 |0,_,_,e=>nomatch e|k+1,u,d,e=>by
  have seq:∀{p:Addr}{ds:List D}{c:String},(match K.lookup p with|some ⟨.type t,aY,.seq g _,_⟩=>decide (t=c)&&decide (g.size<=1000)&&sS (sT K k) g.toList ds|_=>b4)=b5->∃h g n l,K.lookup p=aX ⟨.type c,aY,.seq g n,l⟩/\g.size<=XQ/\Vals h g.toList/\∀π n H,IsDs K π n H h ds:=λ{p ds c} e=>by
   split at e
   ·rename_i t g n l j;obtain⟨e,q⟩:=a0W.mp e;obtain⟨a,b⟩:=a0W.mp e;cases of_decide_eq_true a;obtain⟨h,r,i⟩:=Gh (Gi k) _ _ q;exact⟨h,g,n,l,j,Ys (of_decide_eq_true b) (by decide),r,i⟩
   ·cases e
  cases d with
  |non=>cases u with
   |none=>exact⟨.non,rfl,λ_ _ _=>.non⟩|_=>cases e
  |bl b=>cases u with
   |bool c=>cases of_decide_eq_true e;exact⟨.bl b,rfl,λ_ _ _=>.bl _⟩|_=>cases e
  |int b=>cases u with
   |int c=>cases of_decide_eq_true e;exact⟨.int b,⟨_,rfl⟩,λ_ _ _=>.int _⟩|_=>cases e
  |str b=>cases u with
   |str c=>cases of_decide_eq_true e;exact⟨.str b,⟨_,rfl⟩,λ_ _ _=>.str _⟩|_=>cases e
  |tup ds=>cases u with
   |ref p=>obtain⟨h,g,n,l,j,m,r,i⟩:=seq e;exact⟨.ref p,rfl,λ_ _ _=>.tup (vs:=h) (.inr ⟨_,g,n,j,rfl,rfl,rfl,m,r⟩) (i _ _ _)⟩|_=>cases e
  |rol ds=>cases u with
   |ref p=>obtain⟨h,g,n,l,j,m,r,i⟩:=seq e;exact⟨.ref p,rfl,λ_ _ _=>.rol (vs:=h) (.inr ⟨_,g,n,j,rfl,rfl,rfl,m,r⟩) (i _ _ _)⟩|_=>cases e
  |_=>cases e
noncomputable def Gj(K:Xy)(a:List (Str×D)):Bool:=a.all λc=>match a2v K Zq c.1 with|some (aX u)=>sT K 8 u c.2|_=>b4
theorem Tt{K:Xy}{h:YZ}{b:Str->Option Value}(X:K.In h)(G:h.Ns Zq b){a:List (Str×D)}(q:Gj K a=b5):∀p∈a,∃v u,b p.1=aX u/\RelV v u/\∀π n H,IsD K π n H v p.2:=λp c=>by
 have t:=a0u.mp q p c;split at t
 ·rename_i u d;obtain⟨v,r,i⟩:=Gi _ _ _ t;exact⟨v,u,a4o X G d,r,i⟩
 ·cases t
noncomputable def W{a:Type}(o:Option a)(Q:a->Prop):Prop:=∃r,o=aX r/\Q r
section
variable{α β:Type}{o:Option α}{Q:α->Prop}
theorem W_some{r:α}{Q:α->Prop}:W (aX r) Q↔Q r:=⟨λ⟨_,h,q⟩=>by cases h;exact q,λq=>⟨r,rfl,q⟩⟩
theorem W_none{Q:α->Prop}:W aY Q↔False:=⟨λ⟨_,h,_⟩=>(by cases h),λh=>h.elim⟩
theorem W_bind{g:α->Option β}{Q:β->Prop}:W (o.bind g) Q↔W o λr=>W (g r) Q:=by
 cases o with
 |none=>exact⟨λ⟨_,h,_⟩=>(by cases h),λ⟨_,h,_⟩=>(by cases h)⟩|some a=>simp[W_some]
theorem W_map{g:α->β}{Q:β->Prop}:W (o.map g) Q↔W o λr=>Q (g r):=by
 cases o with
 |none=>exact⟨λ⟨_,h,_⟩=>(by cases h),λ⟨_,h,_⟩=>(by cases h)⟩|some a=>simp[W_some]
theorem bI{a:α->Prop}(h:W o Q)(k:∀r,Q r->a r):W o a:=let⟨r,e,q⟩:=h;⟨r,e,k r q⟩
theorem v7{c:Prop} [Decidable c] {a b:Option α}:W (if c then a else b) Q↔if c then W a Q else W b Q:=by split<;>rfl
end
noncomputable def fin:Option (Fl×aF×Hm)->jk:=λo=>o.bind λp=>match p.1 with|.rt d=>aX (d,p.2.2)|.nx=>aX (.non,p.2.2)|_=>aY
theorem W_fin{o:Option (Fl×aF×Hm)}{Q:jz}:W (fin o) Q↔W o λp=>match p.1 with|.rt d=>Q (d,p.2.2)|.nx=>Q (.non,p.2.2)|_=>False:=by
 unfold fin;rw[W_bind];constructor
 ·exact λh=>bI h λp q=>by obtain⟨a,c,b⟩:=p;cases a<;>simpa[W_some,W_none]using q
 ·exact λh=>bI h λp q=>by obtain⟨a,c,b⟩:=p;cases a<;>simpa[W_some,W_none]using q
theorem aE{d b:Hm}(h:d<+:b){a:Nat}{c:C}(e:d[a]?=aX c):b[a]?=aX c:=by obtain⟨t,rfl⟩:=h;have g:=(Xz.mp e).1;rw[YC g];exact e
theorem sU{b a:Hm}(h:b<+:a):b.length<=a.length:=h.length_le
theorem aL(a:Hm)(c:C):a<+:a++[c]:=⟨[c],rfl⟩
theorem cI{d b:Hm}(h:d<+:b){a:Nat}(e:d.length<=a)(c:C):d<+:b.set a c:=by obtain⟨t,rfl⟩:=h;rw[a2N _ _ e];exact⟨_,rfl⟩
theorem w_mSeq{a b:MS}{d:aF}{c:Hm} {Q}:W (aG a b d c) Q↔W (a d c) λp=>match p.1 with|.nx=>W (b p.2.1 p.2.2) Q|_=>Q p:=by
 unfold aG;rw[W_bind];constructor
 ·exact λh=>bI h λp q=>by obtain⟨e,d,c⟩:=p;cases e<;>simpa[W_some,W_none]using q
 ·exact λh=>bI h λp q=>by obtain⟨e,d,c⟩:=p;cases e<;>simpa[W_some,W_none]using q
theorem w_mRet{m:ME}{a:aF}{b:Hm} {Q}:W (bC m a b) Q↔W (m a b) λp=>Q (.rt p.1,a,p.2):=W_map
theorem w_mDrop{m:ME}{a:aF}{b:Hm} {Q}:W (dW m a b) Q↔W (m a b) λp=>Q (.nx,a,p.2):=W_map
theorem w_mSet{i:Nat}{m:ME}{a:aF}{b:Hm} {Q}:W (aW i m a b) Q↔W (m a b) λp=>Q (.nx,a.set i (aX p.1),p.2):=W_map
theorem w_mNext{b:aF}{a:Hm} {Q}:W (b6 b a) Q↔Q (.nx,b,a):=W_some
theorem w_mIfS{t:MT}{a b:MS}{c:aF}{d:Hm} {Q}:W (bT t a b c d) Q↔W (t c d) λp=>if p.1=b5 then W (a c p.2) Q else W (b c p.2) Q:=by unfold bT;rw[W_bind];constructor<;>exact λh=>bI h λp q=>by obtain⟨x,d⟩:=p;cases x<;>simpa using q
theorem w_mIfE{t:MT}{a b:ME}{c:aF}{d:Hm} {Q}:W (m3 t a b c d) Q↔W (t c d) λp=>if p.1=b5 then W (a c p.2) Q else W (b c p.2) Q:=by unfold m3;rw[W_bind];constructor<;>exact λh=>bI h λp q=>by obtain⟨x,d⟩:=p;cases x<;>simpa using q
theorem w_mAndT{a b:MT}{d:aF}{c:Hm} {Q}:W (eH a b d c) Q↔W (a d c) λp=>if p.1=b5 then W (b d p.2) Q else Q (b4,p.2):=by unfold eH;rw[W_bind];constructor<;>exact λh=>bI h λp q=>by obtain⟨x,c⟩:=p;cases x<;>simpa[W_some]using q
theorem w_mOrT{a b:MT}{d:aF}{c:Hm} {Q}:W (iJ a b d c) Q↔W (a d c) λp=>if p.1=b5 then Q (b5,p.2)else W (b d p.2) Q:=by unfold iJ;rw[W_bind];constructor<;>exact λh=>bI h λp q=>by obtain⟨x,c⟩:=p;cases x<;>simpa[W_some]using q
theorem w_mNotT{a:MT}{c:aF}{b:Hm} {Q}:W (lJ a c b) Q↔W (a c b) λp=>Q (!p.1,p.2):=W_map
theorem w_mOp{f:D->D->Hm->jk}{a b:ME}{c:aF}{d:Hm} {Q}:W (aB f a b c d) Q↔W (a c d) λp=>W (b c p.2) λq=>W (f p.1 q.1 q.2) Q:=by unfold aB;rw[W_bind];simp only[W_bind]
theorem fK{d:D}{b:aF}{a:Hm} {Q}:W (mC d b a) Q↔Q (d,a):=W_some
theorem cL{d:D}{b:aF}{a:Hm} {Q}:W (aA 0 (aX d::b) a) Q↔Q (d,a):=by show W (aX (d,a)) Q↔_;exact W_some
theorem c5{i:Nat}{x:Option D}{b:aF}{a:Hm} {Q}:W (aA (i+1) (x::b) a) Q↔W (aA i b a) Q:=by unfold aA;rw[a5d]
theorem dS{b:aF}{a:Hm} {Q}:W (aD b a) Q↔Q ([],a):=W_some
theorem w_mCons{a:ME}{r:MA}{b:aF}{c:Hm} {Q}:W (aC a r b c) Q↔W (a b c) λp=>W (r b p.2) λq=>Q (p.1::q.1,q.2):=by unfold aC;simp only[W_bind,W_some]
theorem w_mTup {a:MA}{c:aF}{b:Hm} {Q}:W (bZ a c b) Q↔W (a c b) fun p=>p.1.length<=XQ/\Q (.tup p.1,p.2):=by
 unfold bZ
 rw [W_bind]
 constructor<;>exact fun h=>bI h fun p q=>by
  first
  | (rw [v7] at q;split at q
     ·exact ⟨by assumption,W_some.mp q⟩
     ·exact (W_none.mp q).elim)
  | (rw [if_pos q.1];exact W_some.mpr q.2)
theorem w_mLst {a:MA}{c:aF}{b:Hm} {Q}:W (b7 a c b) Q↔W (a c b) fun p=>p.1.length<=XQ/\Q (.loc p.2.length,p.2++[.lst p.1]):=by
 unfold b7
 rw [W_bind]
 constructor<;>exact fun h=>bI h fun p q=>by
  first
  | (rw [v7] at q;split at q
     ·exact ⟨by assumption,W_some.mp q⟩
     ·exact (W_none.mp q).elim)
  | (rw [if_pos q.1];exact W_some.mpr q.2)
theorem w_mCall {f:MF}{a:MA}{c:aF}{b:Hm} {Q}:W (aH f a c b) Q↔W (a c b) fun p=>W (f p.1 p.2) Q:=W_bind
theorem w_mTest{m:ME}{c:aF}{a:Hm} {Q}:W (aV m c a) Q↔W (m c a) λp=>match p.1 with|.bl b=>Q (b,p.2)|_=>False:=by unfold aV;rw[W_bind];constructor<;>exact λh=>bI h λp q=>by obtain⟨d,a⟩:=p;cases d<;>simpa[W_some,W_none]using q
theorem w_mTru{m:ME}{c:aF}{a:Hm} {Q}:W (fI m c a) Q↔W (m c a) λp=>W (pS p.2 p.1) λb=>Q (b,p.2):=by unfold fI;simp only[W_bind,W_map]
theorem Tu{a:ME}{c:aF}{b:Hm} {Q}:W (lU a c b) Q↔W (a c b) λp=>match p.1 with|.int i=>Q (.int (-i),p.2)|_=>False:=by unfold lU;rw[W_bind];constructor<;>exact λh=>bI h λp q=>by obtain⟨d,b⟩:=p;cases d<;>simpa[W_some,W_none,W_map,yS]using q
theorem w_mNotV{a:ME}{e:aF}{c:Hm} {Q}:W (mW a e c) Q↔W (a e c) λp=>match p.1 with|.bl b=>Q (.bl (!b),p.2)|_=>False:=by unfold mW;rw[W_bind];constructor<;>exact λh=>bI h λp q=>by obtain⟨d,c⟩:=p;cases d<;>simpa[W_some,W_none]using q
theorem w_mAndV{a b:ME}{g:aF}{e:Hm} {Q}:W (fP a b g e) Q↔W (a g e) λp=>match p.1 with|.bl c=>if c=b5 then W (b g p.2) Q else Q (.bl b4,p.2)|_=>False:=by
 unfold fP;rw[W_bind];constructor<;>exact λh=>bI h λp q=>by
  obtain⟨d,e⟩:=p;cases d with
  |bl c=>cases c<;>simpa[W_some]using q|_=>simpa[W_none]using q
theorem Tv{m o i j i2:ME}{a:aF}{k:Hm} {Q} (h:W (m a k) λp=>∃v w,p.1=.tup [v,w]/\W (o a p.2) λq=>W (i a q.2) λr=>W (iN q.1 r.1 v r.2) λb=>W (j a b) λc=>W (i2 a c.2) λd=>W (iN c.1 d.1 w d.2) λg=>Q (.nx,a,g)):W (r8 m o i j i2 a k) Q:=by unfold r8;rw[W_bind];refine bI h λp ⟨v,w,e,h⟩=>?_;rw[e];exact W_bind.mpr (bI h λq h=>W_bind.mpr (bI h λr h=>W_bind.mpr (bI h λb h=>W_bind.mpr (bI h λc h=>W_bind.mpr (bI h λd h=>W_map.mpr h)))))
theorem w_mPar{i j:Nat}{g:MA}{e:aF}{d:Hm} {Q}:W (pN i j g e d) Q↔W (g e d) λp=>match p.1 with|[v,w]=>Q (.nx,(e.set i (aX v)).set j (aX w),p.2)|_=>False:=by
 unfold pN;rw[W_bind];constructor<;>exact λh=>bI h λp q=>by
  obtain⟨l,d⟩:=p;match l,q with
  |[],q=>simpa[W_none]using q|[a],q=>simpa[W_none]using q|[a,b],q=>simpa[W_some]using q|a::b::c::l,q=>simpa[W_none]using q
theorem w_mAsg{m:ME}{g:MG}{a:aF}{c:Hm} {Q}:W (fQ m g a c) Q↔W (m a c) λp=>W (g p.1 a p.2) λb=>Q (.nx,b,p.2):=by unfold fQ;simp only[W_bind,W_map]
section
variable{i j:Int}{μ:Hm}{Q:jz}{a b c d e g:D}
theorem w_addI:W (bB (.int i) (.int j) μ) Q↔Q (.int (i+j),μ):=W_some
theorem w_subI:W (iL (.int i) (.int j) μ) Q↔Q (.int (i-j),μ):=W_some
theorem dY(h:0<j):W (bH (.int i) (.int j) μ) Q↔Q (.int (i%j),μ):=by show W ((if 0<j then aX (i%j)else aY).map λz=>(D.int z,μ)) Q↔_;rw[if_pos h];exact W_some
theorem Tw:(1073741824:Int)<2^4000:=by decide +kernel
theorem Tx(h:0<j)(k:j<2^4000):W (eD (.int i) (.int j) μ) Q↔Q (.int (i/j),μ):=by show W ((if 0<j/\j<2^4000 then aX (i/j)else aY).map λz=>(D.int z,μ)) Q↔_;rw[if_pos ⟨h,k⟩];exact W_some
theorem iR(h:0<j)(k:j<1073741824):W (eD (.int i) (.int j) μ) Q↔Q (.int (i/j),μ):=Tx h (Int.lt_trans k Tw)
theorem j9(h:(-(2^64)<i/\i<2^64)\/(-(2^64)<j/\j<2^64)):W (bU (.int i) (.int j) μ) Q↔Q (.int (i*j),μ):=by show W ((if((-(2^64)<i/\i<2^64)\/(-(2^64)<j/\j<2^64))\/(i.natAbs<2^4000/\j.natAbs<2^4000)\/YB i+YB j<=134217728 then aX (i*j)else aY).map λz=>(D.int z,μ)) Q↔_;rw[if_pos (.inl h)];exact W_some
theorem w_eqI:W (aZ b4 (.int i) (.int j) μ) Q↔Q (.bl (i==j),μ):=W_some
theorem w_neI:W (aZ b5 (.int i) (.int j) μ) Q↔Q (.bl (!(i==j)),μ):=W_some
theorem w_neS{x y:Str}:W (aZ b5 (.str x) (.str y) μ) Q↔Q (.bl (!(x==y)),μ):=W_some
theorem w_neB{x y:Bool}:W (aZ b5 (.bl x) (.bl y) μ) Q↔Q (.bl (!(x==y)),μ):=W_some
theorem w_ltI:W (jD (.int i) (.int j) μ) Q↔Q (.bl (decide (i<j)),μ):=W_some
theorem Tz:W (pJ (.int i) (.int j) μ) Q↔Q (.bl (decide (i<=j)),μ):=W_some
theorem w_gtI:W (kL (.int i) (.int j) μ) Q↔Q (.bl (decide (j<i)),μ):=W_some
theorem w_it20:W (aJ (.tup [a,b]) (.int 0) μ) Q↔Q (a,μ):=W_some
theorem w_it21:W (aJ (.tup [a,b]) (.int 1) μ) Q↔Q (b,μ):=W_some
theorem TB:W (aJ (.tup [a,b,c,d,e,g]) (.int 0) μ) Q↔Q (a,μ):=W_some
theorem TC:W (aJ (.tup [a,b,c,d,e,g]) (.int 1) μ) Q↔Q (b,μ):=W_some
theorem TF:W (aJ (.tup [a,b,c,d,e,g]) (.int 2) μ) Q↔Q (c,μ):=W_some
theorem TH:W (aJ (.tup [a,b,c,d,e,g]) (.int 3) μ) Q↔Q (d,μ):=W_some
theorem TJ:W (aJ (.tup [a,b,c,d,e,g]) (.int 4) μ) Q↔Q (e,μ):=W_some
theorem TK:W (aJ (.tup [a,b,c,d,e,g]) (.int 5) μ) Q↔Q (g,μ):=W_some
theorem w_truB{b:Bool}{Q:Bool->Prop}:W (pS μ (.bl b)) Q↔Q b:=W_some
theorem w_gTup2{h:aF}{i j:Nat}{Q:aF->Prop}:W (cT [i,j] (.tup [a,b]) h μ) Q↔Q ((h.set i (aX a)).set j (aX b)):=W_some
end
theorem c6{b:Hm}{a:Nat}{xs:List D}{i:Int}{d:D}{Q:jz}(h:b[a]?=aX (.lst xs))(hi:atI xs i=aX d):W (aJ (.loc a) (.int i) b) Q↔Q (d,b):=by
 have:aJ (.loc a) (.int i) b=aX (d,b):=by simp only[aJ,hV,bK,h,XY,hi,X3]
 rw[this];exact W_some
theorem Gk{d:Hm}{l:Nat}{a b:D}{c:aF}{i j:Nat}{Q:aF->Prop}(h:d[l]?=aX (.lst [a,b])):W (cT [i,j] (.loc l) c d) Q↔Q ((c.set i (aX a)).set j (aX b)):=by
 have:cT [i,j] (.loc l) c d=aX ((c.set i (aX a)).set j (aX b)):=by simp only[cT,bK,h,XY];rfl
 rw[this];exact W_some
theorem w_iSeq{m:ME}{b:aF}{a:Hm}{Q:iC×Nat×Hm->Prop}:W (cR m b a) Q↔W (m b a) λp=>W (gP p.2 p.1) λxs=>Q (cH p.1,xs.length+1,p.2):=by unfold cR;simp only[W_bind,W_map]
theorem w_mForI{c:MI}{g:MG}{b:MS}{a:aF}{d:Hm} {Q}:W (bW c g b a d) Q↔W (c a d) λp=>W (dD p.1 g b p.2.1 0 a p.2.2) Q:=W_bind
theorem A7 {j:Int}{e:MA}{g:aF}{c:Hm}{Q:iC×Nat×Hm->Prop}:W (m7 e g c) Q↔W (e g c) fun p=>match p.1 with|[.int j]=>(-(2 ^ 62)<=j/\j<2 ^ 62)/\Q (iA 0 j.toNat,j.toNat+1,p.2)|_=>False:=by
 unfold m7
 rw [W_bind]
 constructor<;>exact fun h=>bI h fun p q=>by
  obtain ⟨l,c⟩:=p
  match l,q with
  | [],q=>simpa [W_none] using q
  | [d],q=>
   cases d with
   | int j=>
    first
    | (dsimp only at q;rw [v7] at q;split at q
       ·rename_i i;exact ⟨i,W_some.mp q⟩
       ·exact (W_none.mp q).elim)
    | (dsimp only;rw [if_pos q.1];exact W_some.mpr q.2)
   | _=>simpa [W_none] using q
  | a::b::l,q=>simpa [W_none] using q
theorem w_iRng2 {a:MA}{c:aF}{b:Hm}{Q:iC×Nat×Hm->Prop}:W (jH a c b) Q↔W (a c b) fun p=>match p.1 with|[.int i,.int j]=>(-(2 ^ 62)<=i/\i<2 ^ 62/\-(2 ^ 62)<=j/\j<2 ^ 62)/\Q (iA i (j - i).toNat,(j - i).toNat+1,p.2)|_=>False:=by
 unfold jH
 rw [W_bind]
 constructor<;>exact fun h=>bI h fun p q=>by
  split at q
  ·rename_i e
   try rw [e]
   first
   | (rw [v7] at q;split at q
      ·rename_i d;exact ⟨d,W_some.mp q⟩
      ·exact (W_none.mp q).elim)
   | ((try dsimp only);rw [if_pos q.1];exact W_some.mpr q.2)
  ·first
   | exact (W_none.mp q).elim
   | exact q.elim
theorem mE {j:iC}{g:MG}{b:MS}{N:Nat}{Q:Fl×aF×Hm->Prop}(I:Nat->aF->Hm->Prop)
  (go:∀ i c a,i<N->I i c a->∃ d k,j a i=aX (aX d)/\g d c a=aX k/\W (b k a) fun p=>match p.1 with|.nx=>I (i+1) p.2.1 p.2.2|.ct=>I (i+1) p.2.1 p.2.2|.bk=>Q (.nx,p.2.1,p.2.2)|.rt d=>Q (.rt d,p.2.1,p.2.2))
  (e:∀ c a,I N c a->j a N=aX aY/\Q (.nx,c,a)):∀ (m i:Nat)(c:aF)(a:Hm),i+m=N->I i c a->W (dD j g b (m+1) i c a) Q
 | 0,i,c,a,h,hI=>by
  have:i=N:=by lia
  subst this
  obtain ⟨o,r⟩:=e c a hI
  unfold dD
  rw [o]
  exact W_some.mpr r
 | m+1,i,c,a,h,hI=>by
  obtain ⟨d,k,o,r,u⟩:=go i c a (by lia) hI
  unfold dD
  rw [o]
  simp only [XY,r]
  rw [W_bind]
  refine bI u fun p q=>?_
  obtain ⟨s,n,l⟩:=p
  cases s with
  | nx=>exact mE I go e m (i+1) n l (by lia) q
  | ct=>exact mE I go e m (i+1) n l (by lia) q
  | bk=>exact W_some.mpr q
  | rt d=>exact W_some.mpr q
theorem gQ{a:Nat}{xs:List D}{g:MG}{b:MS}{h:aF}{c:Hm}{Q:Fl×aF×Hm->Prop}(I:Nat->aF->Hm->Prop)(n:I 0 h c)(m:∀i h c,I i h c->c[a]?=aX (.lst xs))
  (go:∀i d h c,xs[i]?=aX d->I i h c->∃j,g d h c=aX j/\W (b j c) λp=>match p.1 with|.nx=>I (i+1) p.2.1 p.2.2|.ct=>I (i+1) p.2.1 p.2.2|.bk=>Q (.nx,p.2.1,p.2.2)|.rt d=>Q (.rt d,p.2.1,p.2.2))
  (l:∀h c,I xs.length h c->Q (.nx,h,c)):W (dD (cH (.loc a)) g b (xs.length+1) 0 h c) Q:=by
 refine mE (N:=xs.length) I (λi h c hi k=>?_) (λh c k=>⟨?_,l h c k⟩) xs.length 0 h c (by lia) n
 ·have e:xs[i]?=aX xs[i]:=XM hi;obtain⟨j,o,q⟩:=go i xs[i] h c e k;refine⟨xs[i],j,?_,o,q⟩;simp only[cH,gP,bK,m i h c k,X3,e]
 ·simp only[cH,gP,bK,m _ h c k,X3];simp
theorem TL{x:D}{xs:List D}(l:∀a,gP a x=aX xs){g:MG}{b:MS}{c:aF}{a:Hm}{Q:Fl×aF×Hm->Prop}(I:Nat->aF->Hm->Prop)(m:I 0 c a)
  (go:∀i d c a,xs[i]?=aX d->I i c a->∃h,g d c a=aX h/\W (b h a) λp=>match p.1 with|.nx=>I (i+1) p.2.1 p.2.2|.ct=>I (i+1) p.2.1 p.2.2|.bk=>Q (.nx,p.2.1,p.2.2)|.rt d=>Q (.rt d,p.2.1,p.2.2))
  (j:∀c a,I xs.length c a->Q (.nx,c,a)):W (dD (cH x) g b (xs.length+1) 0 c a) Q:=by
 refine mE (N:=xs.length) I (λi c a hi k=>?_) (λc a k=>⟨?_,j c a k⟩) xs.length 0 c a (by lia) m
 ·have e:xs[i]?=aX xs[i]:=XM hi;obtain⟨h,n,o⟩:=go i xs[i] c a e k;refine⟨xs[i],h,?_,n,o⟩;simp only[cH,l,X3,e]
 ·simp only[cH,l,X3];simp
theorem oS{lo:Int}{n:Nat}{g:MG}{b:MS}{c:aF}{a:Hm}{Q:Fl×aF×Hm->Prop}(I:Nat->aF->Hm->Prop)(k:I 0 c a)
  (go:∀(i:Nat) c a,i<n->I i c a->∃e,g (.int (lo+i)) c a=aX e/\W (b e a) λp=>match p.1 with|.nx=>I (i+1) p.2.1 p.2.2|.ct=>I (i+1) p.2.1 p.2.2|.bk=>Q (.nx,p.2.1,p.2.2)|.rt d=>Q (.rt d,p.2.1,p.2.2))
  (h:∀c a,I n c a->Q (.nx,c,a)):W (dD (iA lo n) g b (n+1) 0 c a) Q:=by
 refine mE (N:=n) I (λi c a hi j=>?_) (λc a j=>⟨?_,h c a j⟩) n 0 c a (by lia) k
 ·obtain⟨e,l,m⟩:=go i c a hi j;exact⟨_,e,by simp only[iA,if_pos hi],l,m⟩
 ·simp only[iA,a0H,if_false]
theorem A8{c:Hm}{a:Nat}{b:List D}{y:D}(h:c[a]?=aX (.lst b))(d:b.length<XQ):pL c a y=aX (c.set a (.lst (b++[y]))):=by unfold pL;rw[h];exact if_pos d
theorem A9{u:iC}{c:MT}{e:ME}{G:aF}{μ0:Hm}{xs:List D}{p:D->Bool}{v:D->D}{Q:Hm->Prop}(x:∀a i,μ0<+:a->u a i=aX xs[i]?)(H:xs.length<=XQ)
  (hc:∀d a,d∈xs->μ0<+:a->W (c (G++[aX d]) a) λr=>r.1=p d/\a<+:r.2)
  (z:∀d a,d∈xs->p d=b5->μ0<+:a->W (e (G++[aX d]) a) λr=>r.1=v d/\a<+:r.2)
  (fin:∀a,μ0<+:a->a[μ0.length]?=aX (.lst ((xs.filter p).map v))->Q a) :
  ∀(m i:Nat)(a:Hm),i+m=xs.length->μ0<+:a->a[μ0.length]?=aX (.lst (((xs.take i).filter p).map v))->W (jF u pM c e G μ0.length (m+1) i a) Q
 |0,i,a,hi,hp,ha=>by
  have:i=xs.length:=by lia
  subst this;unfold jF;rw[x a _ hp];rw[ZC (XJ _)];simp only[XY];refine W_some.mpr (fin a hp ?_);simpa using ha
 |m+1,i,a,hi,hp,ha=>by
  have o:i<xs.length:=by lia
  have I:xs[i]?=aX xs[i]:=XM o;have h:xs[i]∈xs:=a0s o;unfold jF;rw[x a _ hp,I];simp only[XY,pM];rw[W_bind];refine bI (hc _ a h hp) λr q=>?_;obtain⟨b,w⟩:=r;obtain⟨J,s⟩:=q;dsimp only at J s ⊢;subst J;have g:xs.take (i+1)=xs.take i++[xs[i]]:=by rw[List.take_succ,I];rfl
  have k:=aE s ha;cases j:p xs[i]with
  |false=>refine A9 x H hc z fin m (i+1) w (by lia) (hp.trans s) ?_;rw[k,g,Zb];simp[j]|true=>
   dsimp only;rw[W_bind];refine bI (z _ w h j (hp.trans s)) λr q=>?_;obtain⟨y,E⟩:=r;obtain⟨K,B⟩:=q;dsimp only at K B ⊢;subst K;have l:=aE B k;have n:(((xs.take i).filter p).map v).length<XQ:=by have L:=YM p (xs.take i);rw[Xx];rw[Zy]at L;lia
   rw[A8 l n,XY];have A:μ0<+:E:=(hp.trans s).trans B;refine A9 x H hc z fin m (i+1) _ (by lia) (cI A (XJ _) _) ?_;rw[YA (Xz.mp l).1,g,Zb];simp[j]
theorem mF{u:MI}{c:MT}{e:ME}{b:aF}{w:Hm}{xs:List D}{p:D->Bool}{v:D->D}{Q:jz}
  (hit:W (u b w) λr=>(∀a i,r.2.2<+:a->r.1 a i=aX xs[i]?)/\r.2.1=xs.length+1/\xs.length<=XQ /\
   (∀d a,d∈xs->r.2.2<+:a->W (c (b++[aX d]) a) λs=>s.1=p d/\a<+:s.2)/\(∀d a,d∈xs->p d=b5->r.2.2<+:a->W (e (b++[aX d]) a) λs=>s.1=v d/\a<+:s.2) /\
   ∀a,r.2.2<+:a->a[r.2.2.length]?=aX (.lst ((xs.filter p).map v))->Q (.loc r.2.2.length,a)):W (fR u c e b w) Q:=by
 unfold fR kN;rw[W_bind];refine bI hit λr q=>?_;obtain⟨x,n,g⟩:=r;obtain⟨h,j,k,l,m,o⟩:=q;dsimp only at h j k l m o ⊢;subst j;rw[W_map];exact A9 h k l m o xs.length 0 (g++[.lst []]) (by lia) (aL _ _) (by simp)
theorem qL{c:Hm}{a:Nat}{xs:List D}(h:c[a]?=aX (.lst xs)):∀b i,c<+:b->cH (.loc a) b i=aX xs[i]?:=λb i d=>by simp only[cH,gP,bK,aE d h,X3]
theorem TM{xs:List D}{b:Hm}:∀a i,b<+:a->cH (.tup xs) a i=aX xs[i]?:=λa i c=>rfl
noncomputable def iS(lo:Int)(n:Nat):List D:=(YN n).map λ(i:Nat)=>.int (lo+(i:Int))
theorem Gm{lo:Int}{n:Nat}{b:Hm}:∀a i,b<+:a->iA lo n a i=aX (iS lo n)[i]?:=λa i _=>by
 unfold iA iS;rw[XR];by_cases h:i<n
 ·rw[if_pos h,List.getElem?_range h];rfl
 ·rw[if_neg h,ZC (by simpa using a1C.mp h)];rfl
noncomputable abbrev P(x y:Int):D:=.tup [.int x,.int y]
noncomputable abbrev PP(p:Int×Int):D:=P p.1 p.2
theorem TN(n:Nat)(e:Hm)(p q:Int×Int):cS (n+2) e (PP p) (PP q)=aX (p==q):=by obtain⟨a,b⟩:=p;obtain⟨c,d⟩:=q;show aX (a==c&&(b==d&&b5))=aX ((a,b)==(c,d));rw[a3p];rfl
theorem Gn(n:Nat)(a:Hm):∀ps qs:jq,iK (jT (n+2) a) (ps.map PP) (qs.map PP)=aX (ps==qs)
 |[],[]=>rfl|[],_::_=>rfl|_::_,[]=>rfl|p::ps,q::qs=>by rw[XS,XS];show(cS (n+2) a (PP p) (PP q)).bind (λb=>(iK (jT (n+2) a) (ps.map PP) (qs.map PP)).map λc=>b&&c)=_;rw[TN,Gn n a ps qs];rfl
theorem TQ{c:Hm}{a b:Nat}{ps qs:jq}(g:c[a]?=aX (.lst (ps.map PP)))(h:c[b]?=aX (.lst (qs.map PP))):cS 8 c (.loc a) (.loc b)=aX (ps==qs):=by
 have d:e8 c (.loc a)=aX (.lst (ps.map PP)):=by simp only[e8,g]
 have e:e8 c (.loc b)=aX (.lst (qs.map PP)):=by simp only[e8,h]
 show(e8 c (.loc a)).bind (λx=>(e8 c (.loc b)).bind λy=>jS (jT 7 c) x y)=_;rw[d,e];exact Gn 5 c ps qs
theorem Gp(n:Nat)(a:Hm):∀ps qs:List Int,iK (jT (n+1) a) (ps.map D.int) (qs.map D.int)=aX (ps==qs)
 |[],[]=>rfl|[],_::_=>rfl|_::_,[]=>rfl|p::ps,q::qs=>by rw[XS,XS];show(cS (n+1) a (.int p) (.int q)).bind (λb=>(iK (jT (n+1) a) (ps.map D.int) (qs.map D.int)).map λc=>b&&c)=_;rw[Gp n a ps qs];rfl
theorem qM{c:Hm}{a b:Nat}{xs d:List D}{Q:jz}(e:c[a]?=aX (.lst xs))(g:c[b]?=aX (.lst d))(h:xs.length+d.length<=XQ):W (bB (.loc a) (.loc b) c) Q↔Q (.loc c.length,c++[.lst (xs++d)]):=by simp only[bB,e,g,if_pos h];exact W_some
theorem iE{f:D->List D->Hm->jk}{b:ME}{c:MA}{a:aF}{d:Hm}{Q:jz}(h:W (b a d) λp=>oE p.2 p.1=b5/\W (c a p.2) λq=>W (f p.1 q.1 q.2) Q):W (dQ f b c a d) Q:=by unfold dQ;rw[W_bind];refine bI h λp q=>?_;rw[q.1];exact W_bind.mpr q.2
theorem gR{b:Hm}{a:Nat}{xs:List D}(h:b[a]?=aX (.lst xs)):oE b (.loc a)=true:=by simp only[oE,h]
theorem kE{b:Hm}{a:Nat}{xs:List D}{y:D}{Q:jz}(h:b[a]?=aX (.lst xs))(c:xs.length<XQ):W (eU (.loc a) [y] b) Q↔Q (.non,b.set a (.lst (xs++[y]))):=by simp only[eU,A8 h c,X3];exact W_some
theorem Gq{c:Hm}{a b:Nat}{xs d:List D}{Q:jz}(h:c[a]?=aX (.lst xs))(e:c[b]?=aX (.lst d))(g:xs.length+d.length<=XQ):W (oF (.loc a) [.loc b] c) Q↔Q (.non,c.set a (.lst (xs++d))):=by simp only[oF,h,e,if_pos g];exact W_some
theorem w_instTB{a:Hm}{xs:List D}{Q:jz}:W (jE [.tup xs,.ty "tuple"] a) Q↔Q (.bl b5,a):=W_some
theorem TR{a:Hm}{i:Int}{Q:jz}:W (jE [.int i,.ty "bool"] a) Q↔Q (.bl b4,a):=W_some
theorem TU{a:Hm}{i:Int}{Q:jz}:W (jE [.int i,.ty "int"] a) Q↔Q (.bl b5,a):=W_some
theorem TV{a:Hm}{b:Str}{Q:jz}:W (jE [.str b,.ty "str"] a) Q↔Q (.bl b5,a):=W_some
theorem mG{b:Hm}{a:Nat}{xs:List D}{Q:jz}(h:b[a]?=aX (.lst xs)):W (fD [.loc a] b) Q↔Q (.int xs.length,b):=by simp only[fD,rQ,bK,h,X3];exact W_some
theorem w_lenR{a:Hm}{xs:List D}{Q:jz}:W (fD [.rol xs] a) Q↔Q (.int xs.length,a):=W_some
theorem eK{b:Hm}{a:Nat}{xs:List D}{Q:List D->Prop}(h:b[a]?=aX (.lst xs)):W (gP b (.loc a)) Q↔Q xs:=by simp only[gP,bK,h];exact W_some
theorem w_mPart{m:ME}{b:aF}{a:Hm}{Q:Option Int×Hm->Prop}:W (lO m b a) Q↔W (m b a) λp=>match p.1 with|.int i=>Q (aX i,p.2)|_=>False:=by unfold lO;rw[W_bind];constructor<;>exact λh=>bI h λp q=>by obtain⟨d,a⟩:=p;cases d<;>simpa[W_some,W_none]using q
theorem TX{a:ME}{lo hi:MO}{b:aF}{g:Hm}{Q:jz}(h:W (a b g) λp=>∃l,p.1=.loc l/\W (lo b p.2) λq=>W (hi b q.2) λr=>∃xs,r.2[l]?=aX (.lst xs)/\Q (.loc r.2.length,r.2++[.lst (jR xs q.1 r.1)])):W (o9 a lo hi b g) Q:=by unfold o9;rw[W_bind];refine bI h λp q=>?_;obtain⟨d,k⟩:=p;obtain⟨l,c,e⟩:=q;dsimp only at c e ⊢;subst c;rw[W_bind];refine bI e λs q=>?_;rw[W_bind];refine bI q λr q=>?_;obtain⟨xs,i,j⟩:=q;simp only[bK,i,XY];exact W_some.mpr j
theorem bA(a:Hm)(c:C):(a++[c])[a.length]?=aX c:=by simp
theorem w_mChain{f g:D->D->Hm->jk}{a b c:ME}{e:aF}{i:Hm} {Q}:W (jZ f g a b c e i) Q↔W (a e i) λp=>W (b e p.2) λq=>W (f p.1 q.1 q.2) λr=>match r.1 with|.bl k=>if k=b5 then W (c e r.2) λt=>W (g q.1 t.1 t.2) Q else Q (.bl b4,r.2)|_=>False:=by
 unfold jZ;simp only[W_bind];constructor<;>exact λh=>bI h λp q=>bI q λm l=>bI l λr j=>by
  obtain⟨d,i⟩:=r;cases d with
  |bl k=>cases k<;>simpa[W_some,W_bind]using j|_=>simpa[W_none]using j
section
variable{i j:Int}{μ:Hm}{Q:jz}
theorem w_isNN:W (f7 b4 .non .non μ) Q↔Q (.bl b5,μ):=W_some
theorem w_isnotNN:W (f7 b5 .non .non μ) Q↔Q (.bl b4,μ):=W_some
theorem w_isTN{xs:List D}:W (f7 b4 (.tup xs) .non μ) Q↔Q (.bl b4,μ):=W_some
theorem w_min:W (zV [.int i,.int j] μ) Q↔Q (.int (min i j),μ):=by
 have:(if j<i then j else i)=min i j:=by split<;>lia
 show W (aX (D.int (if j<i then j else i),μ)) Q↔_;rw[this];exact W_some
theorem w_max:W (zU [.int i,.int j] μ) Q↔Q (.int (max i j),μ):=by
 have:(if j>i then j else i)=max i j:=by split<;>lia
 show W (aX (D.int (if j>i then j else i),μ)) Q↔_;rw[this];exact W_some
end
theorem Gs{a:ME}{lo hi st:MO}{b:aF}{g:Hm}{Q:jz}(h:W (a b g) λp=>∃l,p.1=.loc l/\W (lo b p.2) λq=>W (hi b q.2) λr=>W (st b r.2) λt=>t.1≠aX 0/\∃xs,t.2[l]?=aX (.lst xs)/\(dM xs q.1 r.1 t.1).length<=XQ/\Q (.loc t.2.length,t.2++[.lst (dM xs q.1 r.1 t.1)])):W (pV a lo hi st b g) Q:=by unfold pV;rw[W_bind];refine bI h λp q=>?_;obtain⟨d,n⟩:=p;obtain⟨l,c,e⟩:=q;dsimp only at c e ⊢;subst c;rw[W_bind];refine bI e λs q=>?_;rw[W_bind];refine bI q λr q=>?_;rw[W_bind];refine bI q λt q=>?_;obtain⟨i,xs,j,k,m⟩:=q;rw[if_pos i];simp only[fS,j,XY];rw[if_pos k];exact W_some.mpr m
theorem Gu{b:MA}{i:aF}{g:Hm}{Q:iC×Nat×Hm->Prop}(h:W (b i g) λp=>∃a xs,p.1=[.loc a]/\p.2[a]?=aX (.lst xs)/\Q (oI (.loc a),xs.length+1,p.2)):W (pW b i g) Q:=by unfold pW;rw[W_bind];refine bI h λp q=>?_;obtain⟨l,j⟩:=p;obtain⟨a,xs,c,d,e⟩:=q;dsimp only at c d e ⊢;subst c;dsimp only;simp only[fS,d,X3];exact W_some.mpr e
theorem Gv{a:Nat}{xs:List D}{g:MG}{b:MS}{h:aF}{c:Hm}{Q:Fl×aF×Hm->Prop}(I:Nat->aF->Hm->Prop)(n:I 0 h c)(m:∀i h c,I i h c->c[a]?=aX (.lst xs))
  (go:∀(i:Nat) d h c,xs[i]?=aX d->I i h c->∃j,g (.tup [.int i,d]) h c=aX j/\W (b j c) λp=>match p.1 with|.nx=>I (i+1) p.2.1 p.2.2|.ct=>I (i+1) p.2.1 p.2.2|.bk=>Q (.nx,p.2.1,p.2.2)|.rt d=>Q (.rt d,p.2.1,p.2.2))
  (l:∀h c,I xs.length h c->Q (.nx,h,c)):W (dD (oI (.loc a)) g b (xs.length+1) 0 h c) Q:=by
 refine mE (N:=xs.length) I (λi h c hi k=>?_) (λh c k=>⟨?_,l h c k⟩) xs.length 0 h c (by lia) n
 ·have e:xs[i]?=aX xs[i]:=XM hi;obtain⟨j,o,q⟩:=go i xs[i] h c e k;refine⟨_,j,?_,o,q⟩;simp only[oI,bK,m i h c k,X3,e]
 ·simp only[oI,bK,m _ h c k,X3];simp
theorem Ba{n:iC}{A:BD}{c:MT}{e:ME}{z:aF}{a N:Nat}{Q:Hm->Prop}(I:Nat->List D->Hm->Prop)(B:N<=XQ)(k:∀i g j,I i g j->g.length<=i)
  (go:∀i g j,i<N->I i g j->j[a]?=aX (.lst g)->∃d x,n j i=aX (aX d)/\A d j=aX x/\W (c (z++x) j) λr=>(r.1=b4->r.2[a]?=aX (.lst g)/\I (i+1) g r.2) /\
   (r.1=b5->W (e (z++x) r.2) λs=>s.2[a]?=aX (.lst g)/\I (i+1) (g++[s.1]) (s.2.set a (.lst (g++[s.1])))))
  (l:∀g j,I N g j->j[a]?=aX (.lst g)->n j N=aX aY/\Q j):∀(m i:Nat)(g:List D)(j:Hm),i+m=N->I i g j->j[a]?=aX (.lst g)->W (jF n A c e z a (m+1) i j) Q
 |0,i,g,j,h,hI,hg=>by
  have:i=N:=by lia
  subst this;obtain⟨u,v⟩:=l g j hI hg;unfold jF;rw[u];exact W_some.mpr v
 |m+1,i,g,j,h,hI,hg=>by
  obtain⟨d,x,u,v,E⟩:=go i g j (by lia) hI hg;unfold jF;rw[u];simp only[XY,v];rw[W_bind];refine bI E λr q=>?_;obtain⟨b,w⟩:=r;cases b with
  |false=>obtain⟨o,p⟩:=q.1 rfl;exact Ba I B k go l m (i+1) g w (by lia) p o|true=>dsimp only;rw[W_bind];refine bI (q.2 rfl) λs q=>?_;obtain⟨y,G⟩:=s;obtain⟨o,p⟩:=q;dsimp only at o p ⊢;have H:=k i g j hI;rw[A8 o (by lia),XY];refine Ba I B k go l m (i+1) _ _ (by lia) p ?_;rw[YA (Xz.mp o).1]
theorem TY{h:BD}{v:MI}{c:MT}{e:ME}{g:aF}{a:Hm}{Q:jz}
  (hit:W (v g a) λr=>∃(N:Nat)(I:Nat->List D->Hm->Prop),r.2.1=N+1/\N<=XQ/\(∀i b a,I i b a->b.length<=i)/\I 0 [] (r.2.2++[.lst []]) /\
   (∀i b a,i<N->I i b a->a[r.2.2.length]?=aX (.lst b)->∃d x,r.1 a i=aX (aX d)/\h d a=aX x/\W (c (g++x) a) λp=>(p.1=b4->p.2[r.2.2.length]?=aX (.lst b)/\I (i+1) b p.2) /\
    (p.1=b5->W (e (g++x) p.2) λs=>s.2[r.2.2.length]?=aX (.lst b)/\I (i+1) (b++[s.1]) (s.2.set r.2.2.length (.lst (b++[s.1]))))) /\
   (∀b a,I N b a->a[r.2.2.length]?=aX (.lst b)->r.1 a N=aX aY/\Q (.loc r.2.2.length,a))):W (kN h v c e g a) Q:=by
 unfold kN;rw[W_bind];refine bI hit λr q=>?_;obtain⟨w,n,y⟩:=r;obtain⟨N,I,j,k,l,m,o,u⟩:=q;dsimp only at j k l m o u ⊢;subst j;rw[W_map];exact Ba I k l o u N 0 [] _ (by lia) m (by simp)
theorem w_mTrue{b:aF}{a:Hm}{Q:Bool×Hm->Prop}:W (jU b a) Q↔Q (b5,a):=W_some
theorem w_mPut{o i v:ME}{a:aF}{c:Hm} {Q}:W (dN o i v a c) Q↔W (v a c) λp=>W (o a p.2) λq=>W (i a q.2) λr=>W (oK q.1 r.1 p.1 r.2) λb=>Q (.nx,a,b):=by unfold dN oJ;simp only[W_bind,W_map]
theorem TZ{d:MA}{i:aF}{g:Hm}{Q:iC×Nat×Hm->Prop}(h:W (d i g) λp=>∃a b xs c,p.1=[.loc a,.loc b]/\p.2[a]?=aX (.lst xs)/\p.2[b]?=aX (.lst c)/\Q (oM (.loc a) (.loc b),min xs.length c.length+1,p.2)):W (sE d i g) Q:=by unfold sE;rw[W_bind];refine bI h λp q=>?_;obtain⟨a,b,xs,c,e,j,k,q⟩:=q;rw[e];simp only[fS,j,k,XY,X3];exact W_some.mpr q
section
variable{μ:Hm}{a:Nat}{kvs:jx}{k:List Int}{d y:D}{ρ:aF}{Q:jz}
theorem w_mDNewT:W (gA ρ μ) Q↔Q (.loc μ.length,μ++[.dT []]):=W_some
theorem Gw{b:Bool}(h:μ[a]?=aX (.dT kvs))(c:dR y=aX k):W (cB b y (.loc a) μ) Q↔Q (.bl (if b then !(bV kvs k).isSome else(bV kvs k).isSome),μ):=by
 have:cB b y (.loc a) μ=aX (.bl (if b then !(bV kvs k).isSome else(bV kvs k).isSome),μ):=by simp only[cB,h,c,X3]
 rw[this];exact W_some
theorem gH{Q:Hm->Prop}(h:μ[a]?=aX (.dT kvs))(b:dR y=aX k)(c:kvs.length<XQ):W (oK (.loc a) y d μ) Q↔Q (μ.set a (.dT (dE kvs k d))):=by simp only[oK,r6,h,b,XY,if_pos c];exact W_some
theorem T1{xs:List D}(h:μ[a]?=aX (.lst xs)):W (oR [.loc a] μ) Q↔Q (.loc μ.length,μ++[.lst xs]):=by simp only[oR,h,rS,bK,X3];exact W_some
end
theorem T3{b:Hm}{a:Nat}{xs:List D}{Q:jz}(h:b[a]?=aX (.lst xs)):W (m8 [.loc a] b) Q↔Q (.loc b.length,b++[.lst xs.reverse]):=by simp only[m8,h];exact W_some
theorem Bb{z:Str}{i:Int}{c:Nat}{a:Hm}{Q:jz}(hz:z.length<=XQ)(h:atI z.cps.toList i=aX c):W (aJ (.str z) (.int i) a) Q↔Q (.str ⟨#[c]⟩,a):=by
 have:aJ (.str z) (.int i) a=aX (.str ⟨#[c]⟩,a):=by simp only[aJ,hV];rw[if_pos hz,h];rfl
 rw[this];exact W_some
theorem Gx{x y:Str}{a:Hm}{Q:jz}(h:x.length+y.length<=XQ):W (bB (.str x) (.str y) a) Q↔Q (.str (x++y),a):=by
 have:bB (.str x) (.str y) a=aX (.str (x++y),a):=by simp only[bB];rw[if_pos h]
 rw[this];exact W_some
theorem w_intB{a:Hm}{b:Bool}{Q:jz}:W (m5 [.bl b] a) Q↔Q (.int (if b then 1 else 0),a):=by cases b<;>exact W_some
end L3
namespace Lw
open PySem L2 L3
noncomputable def ds:List (Str×Stmt):=(("is_whole",aK 7)::("is_place",aK 8)::("is_edge",aK 9)::("is_quarter",aK 10)::("beside",aK 11)::("sides_of",aK 12)::("is_size",aK 15)::("check_size",aK 16)::("is_mark",aK 17)::("is_within",aK 18)::("places_within",aK 19)::("edges_in",aK 20)::("is_inner_edge",aK 21)::("sheet_of",aK 22)::("led",aK 24)::("edges_laid",aK 26)::("heights_in",aK 28)::("quarters_at",aK 29)::("joined_at",aK 30)::("count_between",aK 31)::("is_above",aK 32)::("crosses",aK 33)::("crossing_at",aK 34)::("crossing",aK 35)::("_law_given",aK 37)::("_law_number",aK 38)::("_law_quarters",aK 39)::("_law_rims",aK 40)::("_law_beside",aK 41)::("_law_value",aK 42)::("_law_mirror",aK 43)::("_law_led",aK 44)::("_law_then",aK 45)::("_law_fold",aK 46)::("_law_grown",aK 47)::("_law_creased",aK 48)::("_law_kind",aK 49)::("_law_ways",aK 50)::("_law_lines",aK 51)::("_law_grid",aK 52)::("_law_drawn",aK 53)::("_law_in_turn",aK 54)::("_law_stirred",aK 55)::("_law_spelled",aK 56)::("_law_cross",aK 57)::("_law_first",aK 58)::("_law_same",aK 59)::("law",aK 60)::[])
noncomputable def Bc:D:=(.tup [(.str "h"),(.str "v"),(.str "o")])
noncomputable def S:Sig:={fn:=(("is_whole",1)::("is_place",1)::("is_edge",1)::("is_quarter",1)::("beside",1)::("sides_of",1)::("is_size",1)::("check_size",2)::("is_mark",1)::("is_within",3)::("places_within",2)::("edges_in",2)::("is_inner_edge",3)::("sheet_of",3)::("led",2)::("edges_laid",2)::("heights_in",1)::("quarters_at",3)::("joined_at",3)::("count_between",3)::("is_above",3)::("crosses",3)::("crossing_at",4)::("crossing",3)::("_law_given",2)::("_law_number",2)::("_law_quarters",2)::("_law_rims",2)::("_law_beside",1)::("_law_value",2)::("_law_mirror",2)::("_law_led",2)::("_law_then",2)::("_law_fold",6)::("_law_grown",5)::("_law_creased",3)::("_law_kind",1)::("_law_ways",3)::("_law_lines",3)::("_law_grid",3)::("_law_drawn",2)::("_law_in_turn",2)::("_law_stirred",3)::("_law_spelled",3)::("_law_cross",5)::("_law_first",4)::("_law_same",2)::("law",1)::[]),con:=[("MARKS",Bc)],tab:=[],no:=["bool","enumerate","int","isinstance","len","list","max","min","range","reversed","sorted","str","tuple","zip"],dIt:=["_law_heaps","_law_ways_here","_law_gone","piles","_law_lots"],dEq:=["_law_made"],dMe:=["_law_heaps","_law_ways_here","_law_near","_law_some","_law_found"]}
@[irreducible] noncomputable def f(k:Nat)(x:Str):MF:=j8 S ds k x
noncomputable def Gy(k:Nat):MS:=aG (dN (aA 9) (aA 10) (aB aJ (aA 0) (aA 10))) (bT (aV (aB (aZ b4) (aB kL (aH (f k "_law_value") (aC (aH (f k "_law_led") (aC (aB aJ (aA 0) (aA 10)) (aC (aA 10) aD))) (aC (aA 2) aD))) (aA 3)) (aA 4))) (dN (aA 9) (aA 10) (aH (f k "_law_then") (aC (aB aJ (aA 0) (aA 10)) (aC (aA 8) aD)))) b6)
noncomputable def Gz(k:Nat):MS:=bT (aV (aB (aZ b4) (aB kL (aH (f k "_law_value") (aC (aA 6) (aC (aA 2) aD))) (aA 3)) (aA 4))) (dN (aA 12) (aH (f k "_law_led") (aC (aA 8) (aC (aA 6) aD))) (aH m8 (aC (aB aJ (aA 1) (aA 6)) aD))) (dN (aA 11) (aA 6) (aB aJ (aA 1) (aA 6)))
noncomputable def GA:MS:=aG (aW 13 (j4 iD (aA 11) (aC (aA 6) (aC (b7 aD) aD)))) (dN (aA 11) (aA 6) (m3 (fI (aA 5)) (aB bB (aA 13) (aB aJ (aA 12) (aA 6))) (aB bB (aB aJ (aA 12) (aA 6)) (aA 13))))
noncomputable def GB:MS:=aG (dN (aA 5) (aA 7) (bZ (aC (mC (.int 1)) (aC (mC (.int 0)) (aC (mC (.int 0)) (aC (mC (.int 1)) (aC (mC (.int 0)) (aC (mC (.int 0)) aD)))))))) (dN (aA 6) (aA 7) (b7 (aC (aA 7) aD)))
noncomputable def GC(k:Nat):MS:=aG (fQ (aH (f k "_law_beside") (aC (aA 5) aD)) (cT [6,7])) (aG (dW (dQ eU (aB aJ (aA 3) (aA 6)) (aC (bZ (aC (aA 7) (aC (aA 5) aD))) aD))) (dW (dQ eU (aB aJ (aA 3) (aA 7)) (aC (bZ (aC (aA 6) (aC (aA 5) aD))) aD))))
noncomputable def GD(k:Nat):MS:=aG (dN (aA 9) (aA 12) (aB aJ (aA 9) (aA 11))) (bT (aV (aB (cB b4) (aA 5) (aA 2))) (aG (aW 13 (aH (f k "_law_kind") (aC (aA 5) aD))) (dN (aA 9) (aA 12) (aH (f k "_law_then") (aC (aH (f k "_law_mirror") (aC (aA 13) (aC (aH (f k "_law_value") (aC (aA 5) (aC (aA 13) aD))) aD))) (aC (aB aJ (aA 9) (aA 11)) aD))))) b6)
noncomputable def GF(k:Nat):MS:=bT (aV (aB (cB b5) (aA 12) (aA 9))) (aG (dW (dQ eU (aA 10) (aC (aA 12) aD))) (GD k)) b6
noncomputable def GG(k:Nat):MS:=aG (aW 11 (dQ pQ (aA 10) aD)) (bW (cR (aB aJ (aA 3) (aA 11))) (cT [12,5]) (GF k))
noncomputable def GH(k:Nat):MS:=aG (aW 12 (aH (f k "_law_led") (aC (aB aJ (aA 9) (aA 11)) (aC (aA 11) aD)))) (dN (aA 10) (aA 12) (aB bB (j4 iD (aA 10) (aC (aA 12) (aC (b7 aD) aD))) (b7 (aC (aA 11) aD))))
noncomputable def GJ(k:Nat):MS:=aG (bT (aV (aB (aZ b4) (aH fD (aC (aA 3) aD)) (mC (.int 2)))) (bC (aB (aZ b4) (aH (f k "count_between") (aC (aA 0) (aC (aA 3) (aC (aA 4) aD)))) (mC (.int 1)))) b6) (bT (aV (aB (aZ b4) (aH fD (aC (aA 4) aD)) (mC (.int 2)))) (bC (aB (aZ b4) (aH (f k "count_between") (aC (aA 0) (aC (aA 4) (aC (aA 3) aD)))) (mC (.int 1)))) b6)
noncomputable def GK(k:Nat):MS:=bT (fI (aH (f k "crosses") (aC (aA 0) (aC (aB aJ (aA 5) (aA 7)) (aC (aB aJ (aA 5) (aA 8)) aD))))) (dW (dQ eU (aA 6) (aC (bZ (aC (aA 4) (aC (aB aJ (aA 3) (aA 8)) aD))) aD))) b6
noncomputable def GL:MS:=aG (bT (aV (aB (cB b4) (aA 4) (aA 1))) (aW 3 (aB bB (aA 3) (mC (.str "1")))) b6) (bT (aV (aB (cB b4) (aA 4) (aA 2))) (aW 3 (aB bB (aA 3) (mC (.str "2")))) b6)
noncomputable def Bd(k:Nat):MS:=dW (dQ eU (aA 5) (aC (aH (f k "_law_spelled") (aC (j4 iD (aA 0) (aC (aA 6) (aC (b7 aD) aD))) (aC (aH (f k "_law_beside") (aC (aA 2) aD)) (aC (aH (f k "_law_beside") (aC (aA 3) aD)) aD)))) aD))
noncomputable def GN(k:Nat):MS:=aG (aW 7 (aH (f k "_law_led") (aC (aB aJ (aA 0) (aB aJ (aH (f k "_law_beside") (aC (aA 6) aD)) (mC (.int 0)))) (aC (aA 6) aD)))) (dN (aA 5) (aA 7) (aB bB (j4 iD (aA 5) (aC (aA 7) (aC (b7 aD) aD))) (b7 (aC (aA 6) aD))))
noncomputable def GO(k:Nat):MS:=bT (fI (aH (f k "_law_cross") (aC (aA 1) (aC (aA 7) (aC (aB aJ (aA 9) (aA 10)) (aC (aA 11) (aC (aA 4) aD))))))) (dW (dQ eU (aA 8) (aC (bZ (aC (aB aJ (aA 9) (aA 10)) (aC (aA 11) aD))) aD))) b6
noncomputable def Be(k:Nat):MS:=aG (aW 9 (aB aJ (aA 5) (aA 7))) (bW (m7 (aC (aH fD (aC (aA 9) aD)) aD)) (bP 10) (bW (cR (o9 (aA 9) (lO (aB bB (aA 10) (mC (.int 1)))) n5)) (bP 11) (GO k)))
noncomputable def GP:MS:=aG (aW 3 gA) (aG (bW (cR (aA 2)) (bP 4) (dN (aA 3) (aA 4) (aB aJ (aA 0) (aA 4)))) (bC (aA 3)))
noncomputable def GQ:MS:=aG (bT (aV (aB (aZ b4) (aB bH (aA 1) (mC (.int 3))) (mC (.int 2)))) (aW 2 (aB bB (pV (aA 2) (lO (mC (.int 1))) n5 (lO (mC (.int 2)))) (pV (aA 2) n5 n5 (lO (mC (.int 2)))))) b6) GP
noncomputable def GR:MS:=aG (aW 7 (aB aJ (aA 3) (aB aJ (aA 5) (aB bH (aB eD (aA 1) (mC (.int 4))) (aH fD (aC (aA 5) aD)))))) (aG (aW 8 (aB bH (aB eD (aA 1) (mC (.int 512))) (aB iL (aH fD (aC (aA 7) aD)) (mC (.int 1))))) (r8 (bZ (aC (aB aJ (aA 7) (aB bB (aA 8) (mC (.int 1)))) (aC (aB aJ (aA 7) (aA 8)) aD))) (aA 7) (aA 8) (aA 7) (aB bB (aA 8) (mC (.int 1)))))
noncomputable def GS:MS:=dW (dQ eU (aA 6) (aC (bZ (aC (aA 7) (aC (aB aJ (mC (.str "hvo")) (aB bH (aB bB (aB bB (aB bU (aB aJ (aA 7) (mC (.int 0))) (mC (.int 7))) (aB aJ (aA 7) (mC (.int 1)))) (aB eD (aA 1) (mC (.int 135)))) (mC (.int 3)))) aD))) aD))
theorem T4(k:Nat)(a:D)(b:Hm):f (k+1) "is_whole" [a] b=fin ((bC (fP (aH jE (aC (aA 0) (aC (mC (.ty "int")) aD))) (mW (aH jE (aC (aA 0) (aC (mC (.ty "bool")) aD)))))) [aX a] b):=by kernel_rfl
theorem T5(k:Nat)(a:D)(b:Hm):f (k+1) "is_place" [a] b=fin ((bC (fP (aH jE (aC (aA 0) (aC (mC (.ty "tuple")) aD))) (fP (aB (aZ b4) (aH fD (aC (aA 0) aD)) (mC (.int 2))) (fP (aH (f k "is_whole") (aC (aB aJ (aA 0) (mC (.int 0))) aD)) (aH (f k "is_whole") (aC (aB aJ (aA 0) (mC (.int 1))) aD)))))) [aX a] b):=by kernel_rfl
theorem GU(k:Nat)(a:D)(b:Hm):f (k+1) "is_edge" [a] b=fin ((aG (bT (aV (aB (aZ b4) (aB bH (aB aJ (aA 0) (mC (.int 0))) (mC (.int 2))) (mC (.int 1)))) (bC (aB (aZ b4) (aB bH (aB aJ (aA 0) (mC (.int 1))) (mC (.int 2))) (mC (.int 1)))) b6) (bC (fP (aB (aZ b4) (aB bH (aB aJ (aA 0) (mC (.int 1))) (mC (.int 2))) (mC (.int 0))) (aB (aZ b5) (aB bH (aB aJ (aA 0) (mC (.int 0))) (mC (.int 4))) (aB bH (aB aJ (aA 0) (mC (.int 1))) (mC (.int 4))))))) [aX a] b):=by kernel_rfl
theorem T6(k:Nat)(a:D)(b:Hm):f (k+1) "is_quarter" [a] b=fin ((aG (bT (aV (aB (aZ b4) (aB bH (aB aJ (aA 0) (mC (.int 0))) (mC (.int 2))) (mC (.int 1)))) (bC (aB (aZ b4) (aB bH (aB aJ (aA 0) (mC (.int 1))) (mC (.int 4))) (mC (.int 2)))) b6) (bC (fP (aB (aZ b4) (aB bH (aB aJ (aA 0) (mC (.int 0))) (mC (.int 4))) (mC (.int 2))) (aB (aZ b4) (aB bH (aB aJ (aA 0) (mC (.int 1))) (mC (.int 2))) (mC (.int 1)))))) [aX a] b):=by kernel_rfl
theorem T7(k:Nat)(a:D)(b:Hm):f (k+1) "beside" [a] b=fin ((aG (aW 1 (aB aJ (aA 0) (mC (.int 0)))) (aG (aW 2 (aB aJ (aA 0) (mC (.int 1)))) (bC (b7 (aC (bZ (aC (aB iL (aA 1) (mC (.int 1))) (aC (aA 2) aD))) (aC (bZ (aC (aA 1) (aC (aB iL (aA 2) (mC (.int 1))) aD))) (aC (bZ (aC (aA 1) (aC (aB bB (aA 2) (mC (.int 1))) aD))) (aC (bZ (aC (aB bB (aA 1) (mC (.int 1))) (aC (aA 2) aD))) aD)))))))) [aX a,aY,aY] b):=by kernel_rfl
theorem T8(k:Nat)(a:D)(b:Hm):f (k+1) "sides_of" [a] b=fin ((bC (fR (cR (aH (f k "beside") (aC (aA 0) aD))) (fI (aH (f k "is_quarter") (aC (aA 1) aD))) (aA 1))) [aX a] b):=by kernel_rfl
theorem T9(k:Nat)(a:D)(b:Hm):f (k+1) "is_size" [a] b=fin ((bC (fP (aH (f k "is_whole") (aC (aA 0) aD)) (jZ pJ pJ (mC (.int 1)) (aA 0) (mC (.int 6))))) [aX a] b):=by kernel_rfl
theorem Ua(k:Nat)(a b:D)(c:Hm):f (k+1) "check_size" [a,b] c=fin ((bT (lJ (eH (fI (aH (f k "is_size") (aC (aA 0) aD))) (fI (aH (f k "is_size") (aC (aA 1) aD))))) cK b6) [aX a,aX b] c):=by kernel_rfl
theorem Ub(k:Nat)(a:D)(b:Hm):f (k+1) "is_mark" [a] b=fin ((bC (fP (aH jE (aC (aA 0) (aC (mC (.ty "str")) aD))) (aB (cB b4) (aA 0) (mC Bc)))) [aX a] b):=by kernel_rfl
theorem Uc(k:Nat)(a b c:D)(d:Hm):f (k+1) "is_within" [a,b,c] d=fin ((bC (fP (jZ jD jD (mC (.int 0)) (aB aJ (aA 2) (mC (.int 0))) (aB bU (mC (.int 4)) (aA 0))) (jZ jD jD (mC (.int 0)) (aB aJ (aA 2) (mC (.int 1))) (aB bU (mC (.int 4)) (aA 1))))) [aX a,aX b,aX c] d):=by kernel_rfl
theorem Ud(k:Nat)(a b:D)(c:Hm):f (k+1) "places_within" [a,b] c=fin ((aG (aW 2 (b7 aD)) (aG (bW (jH (aC (mC (.int 1)) (aC (aB bU (mC (.int 4)) (aA 0)) aD))) (bP 3) (dW (dQ oF (aA 2) (aC (fR (jH (aC (mC (.int 1)) (aC (aB bU (mC (.int 4)) (aA 1)) aD))) jU (bZ (aC (aA 3) (aC (aA 4) aD)))) aD)))) (bC (aA 2)))) [aX a,aX b,aY,aY] c):=by kernel_rfl
theorem Ue(k:Nat)(a b:D)(c:Hm):f (k+1) "edges_in" [a,b] c=fin ((bC (fR (cR (aH (f k "places_within") (aC (aA 0) (aC (aA 1) aD)))) (fI (aH (f k "is_edge") (aC (aA 2) aD))) (aA 2))) [aX a,aX b] c):=by kernel_rfl
theorem Ug(k:Nat)(a b c:D)(d:Hm):f (k+1) "is_inner_edge" [a,b,c] d=fin ((bC (fP (aH (f k "is_place") (aC (aA 2) aD)) (fP (aH (f k "is_within") (aC (aA 0) (aC (aA 1) (aC (aA 2) aD)))) (aH (f k "is_edge") (aC (aA 2) aD))))) [aX a,aX b,aX c] d):=by kernel_rfl
theorem Uh(k:Nat)(a b c:D)(d:Hm):f (k+1) "sheet_of" [a,b,c] d=fin ((aG (dW (aH (f k "check_size") (aC (aA 0) (aC (aA 1) aD)))) (aG (aW 3 gA) (aG (bW (cR (aA 2)) (bP 4) (aG (aW 5 (aB aJ (aA 4) (mC (.int 0)))) (aG (bT (lJ (fI (aH (f k "is_inner_edge") (aC (aA 0) (aC (aA 1) (aC (aA 5) aD)))))) cK b6) (aG (bT (lJ (fI (aH (f k "is_mark") (aC (aB aJ (aA 4) (mC (.int 1))) aD)))) cK b6) (aG (bT (aV (aB (cB b4) (aA 5) (aA 3))) cK b6) (dN (aA 3) (aA 5) (aB aJ (aA 4) (mC (.int 1))))))))) (bC (bZ (aC (aA 0) (aC (aA 1) (aC (vG (aA 3)) aD)))))))) [aX a,aX b,aX c,aY,aY,aY] d):=by kernel_rfl
theorem Ui(k:Nat)(a b:D)(c:Hm):f (k+1) "led" [a,b] c=fin ((aG (aW 2 (aB aJ (aA 1) (mC (.int 0)))) (aG (aW 3 (aB aJ (aA 1) (mC (.int 1)))) (bC (bZ (aC (aB bB (aB bB (aB bU (aB aJ (aA 0) (mC (.int 0))) (aA 2)) (aB bU (aB aJ (aA 0) (mC (.int 1))) (aA 3))) (aB aJ (aA 0) (mC (.int 4)))) (aC (aB bB (aB bB (aB bU (aB aJ (aA 0) (mC (.int 2))) (aA 2)) (aB bU (aB aJ (aA 0) (mC (.int 3))) (aA 3))) (aB aJ (aA 0) (mC (.int 5)))) aD)))))) [aX a,aX b,aY,aY] c):=by kernel_rfl
theorem Uj(k:Nat)(a b:D)(c:Hm):f (k+1) "edges_laid" [a,b] c=fin ((aG (aW 2 gA) (aG (bW (cR (aH (f k "edges_in") (aC (aB aJ (aA 0) (mC (.int 0))) (aC (aB aJ (aA 0) (mC (.int 1))) aD)))) (bP 3) (dW (dQ eU (j4 oO (aA 2) (aC (aH (f k "led") (aC (aB aJ (aA 1) (aB aJ (aH (f k "sides_of") (aC (aA 3) aD)) (mC (.int 0)))) (aC (aA 3) aD))) (aC (b7 aD) aD))) (aC (aA 3) aD)))) (bC (aA 2)))) [aX a,aX b,aY,aY] c):=by kernel_rfl
theorem Uk(k:Nat)(a:D)(b:Hm):f (k+1) "heights_in" [a] b=fin ((aG (aW 1 gA) (aG (eV 0 (bW (qD (aA 0)) (bP 2) (bW (pW (aC (aA 2) aD)) (cT [3,4]) (dN (aA 1) (aA 4) (aA 3)))) cK) (bC (aA 1)))) [aX a,aY,aY,aY,aY] b):=by kernel_rfl
theorem Ul(k:Nat)(a b c:D)(d:Hm):f (k+1) "quarters_at" [a,b,c] d=fin ((bC (fR (cR (aH (f k "sides_of") (aC (aA 0) aD))) (aV (aB (aZ b4) (aH (f k "led") (aC (aB aJ (aA 1) (aA 3)) (aC (aA 3) aD))) (aA 2))) (aA 3))) [aX a,aX b,aX c] d):=by kernel_rfl
theorem Um(k:Nat)(a b c:D)(d:Hm):f (k+1) "joined_at" [a,b,c] d=fin ((bC (fR (cR (aH (f k "sides_of") (aC (aA 2) aD))) jU (aH (f k "quarters_at") (aC (aA 0) (aC (aA 1) (aC (aA 3) aD)))))) [aX a,aX b,aX c] d):=by kernel_rfl
theorem Uo(k:Nat)(a b c:D)(d:Hm):f (k+1) "count_between" [a,b,c] d=fin ((aG (aW 3 (aH zV (aC (aB aJ (aA 0) (aB aJ (aA 1) (mC (.int 0)))) (aC (aB aJ (aA 0) (aB aJ (aA 1) (mC (.int 1)))) aD)))) (aG (aW 4 (aH zU (aC (aB aJ (aA 0) (aB aJ (aA 1) (mC (.int 0)))) (aC (aB aJ (aA 0) (aB aJ (aA 1) (mC (.int 1)))) aD)))) (bC (aH fD (aC (fR (cR (aA 2)) (aV (jZ jD jD (aA 3) (aB aJ (aA 0) (aA 5)) (aA 4))) (aA 5)) aD))))) [aX a,aX b,aX c,aY,aY] d):=by kernel_rfl
theorem Up(k:Nat)(a b c:D)(d:Hm):f (k+1) "is_above" [a,b,c] d=fin ((bC (aB kL (aB aJ (aA 0) (aA 1)) (aB aJ (aA 0) (aA 2)))) [aX a,aX b,aX c] d):=by kernel_rfl
theorem Uq(k:Nat)(a b c:D)(d:Hm):f (k+1) "crosses" [a,b,c] d=fin ((aG (bW (sE (aC (aA 1) (aC (aA 2) aD))) (cT [3,4]) (GJ k)) (bC (aB (aZ b5) (aH (f k "is_above") (aC (aA 0) (aC (aB aJ (aB aJ (aA 1) (mC (.int 0))) (mC (.int 0))) (aC (aB aJ (aB aJ (aA 2) (mC (.int 0))) (mC (.int 0))) aD)))) (aH (f k "is_above") (aC (aA 0) (aC (aB aJ (aB aJ (aA 1) (mC (.int 1))) (mC (.int 0))) (aC (aB aJ (aB aJ (aA 2) (mC (.int 1))) (mC (.int 0))) aD))))))) [aX a,aX b,aX c,aY,aY] d):=by kernel_rfl
theorem Ur(k:Nat)(a b c d:D)(e:Hm):f (k+1) "crossing_at" [a,b,c,d] e=fin ((aG (aW 5 (fR (cR (aA 3)) jU (aH (f k "joined_at") (aC (aA 9) (aC (aA 1) (aC (aA 2) aD)))))) (aG (aW 6 (b7 aD)) (aG (bW (pW (aC (aA 3) aD)) (cT [7,4]) (bW (jH (aC (aB bB (aA 7) (mC (.int 1))) (aC (aH fD (aC (aA 3) aD)) aD))) (bP 8) (GK k))) (bC (aA 6))))) [aX a,aX b,aX c,aX d,aY,aY,aY,aY,aY] e):=by kernel_rfl
theorem Us(k:Nat)(a b c:D)(d:Hm):f (k+1) "crossing" [a,b,c] d=fin ((aG (aW 3 (aH (f k "heights_in") (aC (aA 2) aD))) (aG (aW 4 (b7 aD)) (aG (bW (sJ (aH (f k "edges_laid") (aC (aA 0) (aC (aA 1) aD)))) (cT [5,6]) (dW (dQ oF (aA 4) (aC (aH (f k "crossing_at") (aC (aA 3) (aC (aA 1) (aC (aA 5) (aC (aA 6) aD))))) aD)))) (bC (aH kW (aC (aA 4) (aC (mC .non) aD))))))) [aX a,aX b,aX c,aY,aY,aY,aY] d):=by kernel_rfl
theorem Ut(k:Nat)(a b:D)(c:Hm):f (k+1) "_law_given" [a,b] c=fin ((aG (bT (aV (aB jD (aA 1) (aH fD (aC (aA 0) aD)))) (bC (aB aJ (aA 0) (aA 1))) b6) (aG (aW 2 (aB bU (aB bU (aB bB (aA 1) (mC (.int 3))) (aB bB (aA 1) (mC (.int 3)))) (mC (.int 48271)))) (bC (m3 (aV (aB (aZ b4) (aA 0) (b7 aD))) (aA 2) (aB bB (aA 2) (aB bU (aB aJ (aA 0) (aB bH (aA 1) (aH fD (aC (aA 0) aD)))) (aB bB (aA 1) (mC (.int 5))))))))) [aX a,aX b,aY] c):=by kernel_rfl
theorem Uu(k:Nat)(a b:D)(c:Hm):f (k+1) "_law_number" [a,b] c=fin ((aG (aW 2 (aB bB (aB bB (aB bH (aH (f k "_law_given") (aC (aA 0) (aC (aA 1) aD))) (mC (.int 1000003))) (aB bU (mC (.int 7)) (aA 1))) (mC (.int 3)))) (bC (aB bH (aB bU (aB bU (aA 2) (aA 2)) (mC (.int 48271))) (mC (.int 2147483647))))) [aX a,aX b,aY] c):=by kernel_rfl
theorem Uv(k:Nat)(a b:D)(c:Hm):f (k+1) "_law_quarters" [a,b] c=fin ((aG (aW 2 (b7 aD)) (aG (bW (jH (aC (mC (.int 1)) (aC (aB bU (mC (.int 4)) (aA 0)) aD))) (bP 3) (bW (jH (aC (mC (.int 1)) (aC (aB bU (mC (.int 4)) (aA 1)) aD))) (bP 4) (bT (iJ (eH (aV (aB (aZ b4) (aB bH (aA 3) (mC (.int 4))) (mC (.int 2)))) (aV (aB (aZ b4) (aB bH (aA 4) (mC (.int 2))) (mC (.int 1))))) (eH (aV (aB (aZ b4) (aB bH (aA 4) (mC (.int 4))) (mC (.int 2)))) (aV (aB (aZ b4) (aB bH (aA 3) (mC (.int 2))) (mC (.int 1)))))) (dW (dQ eU (aA 2) (aC (bZ (aC (aA 3) (aC (aA 4) aD))) aD))) b6))) (bC (aA 2)))) [aX a,aX b,aY,aY,aY] c):=by kernel_rfl
theorem Uw(k:Nat)(a b:D)(c:Hm):f (k+1) "_law_rims" [a,b] c=fin ((aG (aW 2 (b7 aD)) (aG (bW (jH (aC (mC (.int 1)) (aC (aB bU (mC (.int 4)) (aA 0)) aD))) (bP 3) (bW (jH (aC (mC (.int 1)) (aC (aB bU (mC (.int 4)) (aA 1)) aD))) (bP 4) (bT (eH (aV (aB (aZ b4) (aB bH (aA 3) (mC (.int 2))) (aB bH (aA 4) (mC (.int 2))))) (iJ (aV (aB (aZ b4) (aB bH (aA 3) (mC (.int 2))) (mC (.int 1)))) (aV (aB (aZ b5) (aB bH (aA 3) (mC (.int 4))) (aB bH (aA 4) (mC (.int 4))))))) (dW (dQ eU (aA 2) (aC (bZ (aC (aA 3) (aC (aA 4) aD))) aD))) b6))) (bC (aA 2)))) [aX a,aX b,aY,aY,aY] c):=by kernel_rfl
theorem Ux(k:Nat)(a:D)(b:Hm):f (k+1) "_law_beside" [a] b=fin ((aG (fQ (aA 0) (cT [1,2])) (aG (bT (aV (aB (aZ b4) (aB bH (aA 1) (mC (.int 2))) (mC (.int 1)))) (bC (b7 (aC (bZ (aC (aA 1) (aC (aB iL (aB bB (aA 2) (mC (.int 2))) (aB bH (aA 2) (mC (.int 4)))) aD))) (aC (bZ (aC (aB iL (aB bB (aA 1) (mC (.int 2))) (aB bH (aA 1) (mC (.int 4)))) (aC (aA 2) aD))) aD)))) b6) (aG (bT (aV (aB (aZ b4) (aB bH (aA 2) (mC (.int 4))) (mC (.int 0)))) (bC (b7 (aC (bZ (aC (aA 1) (aC (aB iL (aA 2) (mC (.int 1))) aD))) (aC (bZ (aC (aA 1) (aC (aB bB (aA 2) (mC (.int 1))) aD))) aD)))) b6) (bC (b7 (aC (bZ (aC (aB iL (aA 1) (mC (.int 1))) (aC (aA 2) aD))) (aC (bZ (aC (aB bB (aA 1) (mC (.int 1))) (aC (aA 2) aD))) aD))))))) [aX a,aY,aY] b):=by kernel_rfl
theorem Uy(k:Nat)(a b:D)(c:Hm):f (k+1) "_law_value" [a,b] c=fin ((aG (fQ (aA 0) (cT [2,3])) (bC (aB aJ (b7 (aC (aA 3) (aC (aA 2) (aC (aB iL (aA 2) (aA 3)) (aC (aB bB (aA 2) (aA 3)) aD))))) (aA 1)))) [aX a,aX b,aY,aY] c):=by kernel_rfl
theorem Uz(k:Nat)(a b:D)(c:Hm):f (k+1) "_law_mirror" [a,b] c=fin ((aG (aW 2 (b7 (aC (bZ (aC (mC (.int 1)) (aC (mC (.int 0)) (aC (mC (.int 0)) (aC (lU (mC (.int 1))) (aC (mC (.int 0)) (aC (aB bU (mC (.int 2)) (aA 1)) aD))))))) (aC (bZ (aC (lU (mC (.int 1))) (aC (mC (.int 0)) (aC (mC (.int 0)) (aC (mC (.int 1)) (aC (aB bU (mC (.int 2)) (aA 1)) (aC (mC (.int 0)) aD))))))) aD)))) (bC (aB aJ (aB bB (aA 2) (b7 (aC (bZ (aC (mC (.int 0)) (aC (mC (.int 1)) (aC (mC (.int 1)) (aC (mC (.int 0)) (aC (aA 1) (aC (lU (aA 1)) aD))))))) (aC (bZ (aC (mC (.int 0)) (aC (lU (mC (.int 1))) (aC (lU (mC (.int 1))) (aC (mC (.int 0)) (aC (aA 1) (aC (aA 1) aD))))))) aD)))) (aA 0)))) [aX a,aX b,aY] c):=by kernel_rfl
theorem UA(k:Nat)(a b:D)(c:Hm):f (k+1) "_law_led" [a,b] c=fin ((aG (fQ (aA 0) (cT [2,3,4,5,6,7])) (aG (fQ (aA 1) (cT [8,9])) (bC (bZ (aC (aB bB (aB bB (aB bU (aA 2) (aA 8)) (aB bU (aA 3) (aA 9))) (aA 6)) (aC (aB bB (aB bB (aB bU (aA 4) (aA 8)) (aB bU (aA 5) (aA 9))) (aA 7)) aD)))))) [aX a,aX b,aY,aY,aY,aY,aY,aY,aY,aY] c):=by kernel_rfl
theorem UB(k:Nat)(a b:D)(c:Hm):f (k+1) "_law_then" [a,b] c=fin ((aG (fQ (aA 0) (cT [2,3,4,5,6,7])) (aG (fQ (aA 1) (cT [8,9,10,11,12,13])) (aG (aW 14 (bZ (aC (aB bB (aB bU (aA 8) (aA 2)) (aB bU (aA 9) (aA 4))) (aC (aB bB (aB bU (aA 8) (aA 3)) (aB bU (aA 9) (aA 5))) (aC (aB bB (aB bU (aA 10) (aA 2)) (aB bU (aA 11) (aA 4))) (aC (aB bB (aB bU (aA 10) (aA 3)) (aB bU (aA 11) (aA 5))) aD)))))) (bC (aB bB (aA 14) (bZ (aC (aB bB (aB bB (aB bU (aA 8) (aA 6)) (aB bU (aA 9) (aA 7))) (aA 12)) (aC (aB bB (aB bB (aB bU (aA 10) (aA 6)) (aB bU (aA 11) (aA 7))) (aA 13)) aD)))))))) [aX a,aX b,aY,aY,aY,aY,aY,aY,aY,aY,aY,aY,aY,aY,aY] c):=by kernel_rfl
theorem UC(k:Nat)(a b c d e g:D)(h:Hm):f (k+1) "_law_fold" [a,b,c,d,e,g] h=fin ((aG (eV 1 (aW 7 (fR (fA (aA 1)) jU (aB (aZ b4) (aB kL (aH (f k "_law_value") (aC (aA 14) (aC (aA 2) aD))) (aA 3)) (aA 4)))) cK) (aG (bT (iJ (aV (aB (cB b5) (mC (.bl b5)) (aA 7))) (aV (aB (cB b5) (mC (.bl b4)) (aA 7)))) (bC (bZ (aC (aA 0) (aC (aA 1) aD)))) b6) (aG (aW 8 (aH (f k "_law_mirror") (aC (aA 2) (aC (aA 3) aD)))) (aG (aW 9 gA) (aG (eV 0 (bW (fA (aA 0)) (bP 10) (Gy k)) cK) (aG (aW 11 gA) (aG (aW 12 gA) (aG (eV 1 (bW (fA (aA 1)) (bP 6) (Gz k)) cK) (aG (eV 12 (bW (fA (aA 12)) (bP 6) GA) cK) (bC (bZ (aC (aA 9) (aC (aA 11) aD))))))))))))) [aX a,aX b,aX c,aX d,aX e,aX g,aY,aY,aY,aY,aY,aY,aY,aY] h):=by kernel_rfl
theorem UD(k:Nat)(a b c d e:D)(g:Hm):f (k+1) "_law_grown" [a,b,c,d,e] g=fin ((aG (aW 5 gA) (aG (aW 6 gA) (aG (bW (cR (aH (f k "_law_quarters") (aC (aA 1) (aC (aA 2) aD)))) (bP 7) GB) (aG (bW (m7 (aC (aA 4) aD)) (bP 8) (aG (aW 9 (aH (f k "_law_number") (aC (aA 0) (aC (aB bB (aA 3) (aA 8)) aD)))) (aG (aW 10 (aB bH (aA 9) (mC (.int 4)))) (aG (aW 11 (aH j7 (aC (aA 6) aD))) (aG (aW 12 (aH (f k "_law_value") (aC (aB aJ (aA 11) (aB bH (aB eD (aA 9) (mC (.int 4))) (aH fD (aC (aA 11) aD)))) (aC (aA 10) aD)))) (aG (aW 13 (aB bH (aB eD (aA 9) (mC (.int 4096))) (mC (.int 4)))) (fQ (aH (f k "_law_fold") (aC (aA 5) (aC (aA 6) (aC (aA 10) (aC (aB iL (aA 12) (aB bH (aA 12) (mC (.int 4)))) (aC (aB (aZ b4) (aB bH (aA 13) (mC (.int 2))) (mC (.int 0))) (aC (aB jD (aA 13) (mC (.int 2))) aD))))))) (cT [5,6])))))))) (bC (bZ (aC (aA 5) (aC (aA 6) aD)))))))) [aX a,aX b,aX c,aX d,aX e,aY,aY,aY,aY,aY,aY,aY,aY,aY] g):=by kernel_rfl
theorem UE(k:Nat)(a b c:D)(d:Hm):f (k+1) "_law_creased" [a,b,c] d=fin ((aG (aW 3 (b7 aD)) (aG (bW (cR (aH (f k "_law_rims") (aC (aA 1) (aC (aA 2) aD)))) (bP 4) (aG (fQ (aH (f k "_law_beside") (aC (aA 4) aD)) (cT [5,6])) (bT (aV (aB (aZ b5) (aB aJ (aA 0) (aA 5)) (aB aJ (aA 0) (aA 6)))) (dW (dQ eU (aA 3) (aC (aA 4) aD))) b6))) (bC (aA 3)))) [aX a,aX b,aX c,aY,aY,aY,aY] d):=by kernel_rfl
theorem UG(k:Nat)(a:D)(b:Hm):f (k+1) "_law_kind" [a] b=fin ((aG (fQ (aA 0) (cT [1,2])) (aG (bT (aV (aB (aZ b4) (aB bH (aA 1) (mC (.int 2))) (mC (.int 1)))) (bC (aB bB (mC (.int 2)) (aH m5 (aC (aB (aZ b5) (aB bH (aA 1) (mC (.int 4))) (aB bH (aA 2) (mC (.int 4)))) aD)))) b6) (bC (aH m5 (aC (aB (aZ b5) (aB bH (aA 2) (mC (.int 4))) (mC (.int 0))) aD))))) [aX a,aY,aY] b):=by kernel_rfl
theorem UH(k:Nat)(a b c:D)(d:Hm):f (k+1) "_law_ways" [a,b,c] d=fin ((aG (aW 3 gA) (aG (bW (cR (aH (f k "_law_quarters") (aC (aA 0) (aC (aA 1) aD)))) (bP 4) (dN (aA 3) (aA 4) (b7 aD))) (aG (bW (cR (aH (f k "_law_rims") (aC (aA 0) (aC (aA 1) aD)))) (bP 5) (GC k)) (aG (aW 8 (aH j6 (aC (aA 3) aD))) (aG (aW 9 (qA (aA 8) (bZ (aC (mC (.int 1)) (aC (mC (.int 0)) (aC (mC (.int 0)) (aC (mC (.int 1)) (aC (mC (.int 0)) (aC (mC (.int 0)) aD))))))))) (aG (aW 10 (b7 (aC (aA 8) aD))) (aG (pT qK (aV (aB (aZ b5) (aA 10) (b7 aD))) (GG k)) (bC (aA 9))))))))) [aX a,aX b,aX c,aY,aY,aY,aY,aY,aY,aY,aY,aY,aY,aY] d):=by kernel_rfl
theorem UI(k:Nat)(a b c:D)(d:Hm):f (k+1) "_law_lines" [a,b,c] d=fin ((bC (fR (jH (aC (mC (.int 1)) (aC (aA 2) aD))) (aV (aB kL (aB bH (aB eD (aH (f k "_law_number") (aC (aA 0) (aC (aB bB (aA 1) (aA 3)) aD))) (mC (.int 16))) (mC (.int 3))) (mC (.int 0)))) (aB bU (mC (.int 4)) (aA 3)))) [aX a,aX b,aX c] d):=by kernel_rfl
theorem UJ(k:Nat)(a b c:D)(d:Hm):f (k+1) "_law_grid" [a,b,c] d=fin ((aG (aW 3 (aH (f k "_law_lines") (aC (aA 0) (aC (mC (.int 10)) (aC (aA 1) aD))))) (aG (aW 4 (aH (f k "_law_lines") (aC (aA 0) (aC (mC (.int 20)) (aC (aA 2) aD))))) (aG (aW 5 (b7 aD)) (aG (bW (cR (aH (f k "_law_rims") (aC (aA 1) (aC (aA 2) aD)))) (bP 6) (aG (fQ (aA 6) (cT [7,8])) (bT (iJ (eH (aV (aB (aZ b4) (aB bH (aA 7) (mC (.int 4))) (mC (.int 0)))) (eH (aV (aB (aZ b4) (aB bH (aA 8) (mC (.int 4))) (mC (.int 2)))) (aV (aB (cB b4) (aA 7) (aA 3))))) (eH (aV (aB (aZ b4) (aB bH (aA 8) (mC (.int 4))) (mC (.int 0)))) (eH (aV (aB (aZ b4) (aB bH (aA 7) (mC (.int 4))) (mC (.int 2)))) (aV (aB (cB b4) (aA 8) (aA 4)))))) (dW (dQ eU (aA 5) (aC (aA 6) aD))) b6))) (aG (aW 9 (aH (f k "_law_ways") (aC (aA 1) (aC (aA 2) (aC (aA 5) aD))))) (aG (aW 10 gA) (aG (bW (cR (aH j7 (aC (aA 9) aD))) (bP 11) (GH k)) (bC (bZ (aC (aA 9) (aC (aA 10) aD))))))))))) [aX a,aX b,aX c,aY,aY,aY,aY,aY,aY,aY,aY,aY,aY] d):=by kernel_rfl
theorem UK(k:Nat)(a b:D)(c:Hm):f (k+1) "_law_drawn" [a,b] c=fin ((aG (aW 2 (aB bB (mC (.int 1)) (aB bH (aA 1) (mC (.int 3))))) (aG (aW 3 (aB bB (mC (.int 1)) (aB bH (aB eD (aA 1) (mC (.int 3))) (mC (.int 3))))) (aG (bT (aV (aB (aZ b4) (aB bH (aB eD (aA 1) (mC (.int 9))) (mC (.int 3))) (mC (.int 1)))) (aG (aW 2 (aB bB (mC (.int 3)) (aB bH (aA 1) (mC (.int 4))))) (aG (aW 3 (aB bB (mC (.int 1)) (aB bH (aB eD (aA 1) (mC (.int 4))) (mC (.int 2))))) (aG (bT (aV (aB (aZ b4) (aB bH (aB eD (aA 1) (mC (.int 27))) (mC (.int 2))) (mC (.int 1)))) (pN 2 3 (aC (aA 3) (aC (aA 2) aD))) b6) (bC (aB bB (bZ (aC (aA 2) (aC (aA 3) aD))) (aH (f k "_law_grid") (aC (aA 0) (aC (aA 2) (aC (aA 3) aD))))))))) b6) (bC (aB bB (bZ (aC (aA 2) (aC (aA 3) aD))) (aH (f k "_law_grown") (aC (aA 0) (aC (aA 2) (aC (aA 3) (aC (mC (.int 2)) (aC (aB bH (aB eD (aA 1) (mC (.int 27))) (mC (.int 5))) aD))))))))))) [aX a,aX b,aY,aY] c):=by kernel_rfl
theorem UL(k:Nat)(a b:D)(c:Hm):f (k+1) "_law_in_turn" [a,b] c=fin ((aG (aW 2 (aH j7 (aC (aA 0) aD))) (aG (bT (aV (aB (aZ b4) (aB bH (aA 1) (mC (.int 3))) (mC (.int 1)))) (dW (dQ pR (aA 2) aD)) b6) GQ)) [aX a,aX b,aY,aY,aY] c):=by kernel_rfl
theorem UM(k:Nat)(a b c:D)(d:Hm):f (k+1) "_law_stirred" [a,b,c] d=fin ((aG (aW 3 gA) (aG (eV 0 (bW (fA (aA 0)) (bP 4) (dN (aA 3) (aA 4) (aH oR (aC (aB aJ (aA 0) (aA 4)) aD)))) cK) (aG (aW 5 (fR (cR (aH j7 (aC (aA 0) aD))) (aV (aB kL (aH fD (aC (aB aJ (aA 0) (aA 9)) aD)) (mC (.int 1)))) (aA 9))) (aG (bW (m7 (aC (aA 2) aD)) (bP 6) (aG (aW 1 (aB bH (aB bB (aB bB (aB bU (aA 1) (aA 1)) (aB bU (mC (.int 31)) (aA 6))) (mC (.int 5))) (mC (.int 2147483629)))) (bT (aV (aB (aZ b5) (aA 5) (b7 aD))) GR b6))) (bC (aA 3)))))) [aX a,aX b,aX c,aY,aY,aY,aY,aY,aY] d):=by kernel_rfl
theorem UN(k:Nat)(a b c:D)(d:Hm):f (k+1) "_law_spelled" [a,b,c] d=fin ((aG (aW 3 (mC (.str ""))) (aG (bW (cR (aA 0)) (bP 4) GL) (bC (aA 3)))) [aX a,aX b,aX c,aY,aY] d):=by kernel_rfl
theorem UO(k:Nat)(a b c d e:D)(g:Hm):f (k+1) "_law_cross" [a,b,c,d,e] g=fin ((aG (aW 5 (b7 aD)) (aG (bW (cR (aH (f k "_law_beside") (aC (aA 1) aD))) (bP 6) (Bd k)) (aG (bT (eH (aV (aB (cB b5) (aA 2) (aA 4))) (aV (aB (cB b5) (aA 3) (aA 4)))) (bC (aB (aZ b5) (aB aJ (aA 5) (mC (.int 0))) (aB aJ (aA 5) (mC (.int 1))))) b6) (bC (aB (aZ b5) (fR (cR (aA 5)) (aV (aB (cB b4) (aA 7) (bZ (aC (mC (.str "121")) (aC (mC (.str "212")) (aC (mC (.str "1212")) (aC (mC (.str "2121")) aD))))))) (aA 7)) (b7 aD)))))) [aX a,aX b,aX c,aX d,aX e,aY,aY] g):=by kernel_rfl
theorem UP(k:Nat)(a b c d:D)(e:Hm):f (k+1) "_law_first" [a,b,c,d] e=fin ((aG (aW 4 (aH (f k "_law_creased") (aC (aA 0) (aC (aA 2) (aC (aA 3) aD))))) (aG (aW 5 gA) (aG (bW (cR (aH (f k "_law_rims") (aC (aA 2) (aC (aA 3) aD)))) (bP 6) (GN k)) (aG (aW 8 (b7 aD)) (aG (eV 5 (bW (fA (aA 5)) (bP 7) (Be k)) cK) (bC (m3 (aV (aB (aZ b5) (aA 8) (b7 aD))) (aH j6 (aC (aA 8) aD)) (mC .non)))))))) [aX a,aX b,aX c,aX d,aY,aY,aY,aY,aY,aY,aY,aY] e):=by kernel_rfl
theorem UQ(k:Nat)(a b:D)(c:Hm):f (k+1) "_law_same" [a,b] c=fin ((aG (bT (aV (aB (f7 b4) (aA 1) (mC .non))) (bC (aB (f7 b4) (aA 0) (mC .non))) b6) (bC (fP (aH jE (aC (aA 0) (aC (mC (.ty "tuple")) aD))) (aB (aZ b4) (aA 0) (aA 1))))) [aX a,aX b] c):=by kernel_rfl
theorem UR(k:Nat)(a:D)(b:Hm):f (k+1) "law" [a] b=fin ((aG (aW 1 (aH (f k "_law_number") (aC (aA 0) (aC (mC (.int 0)) aD)))) (aG (fQ (aH (f k "_law_drawn") (aC (aA 0) (aC (aA 1) aD))) (cT [2,3,4,5])) (aG (aW 6 (b7 aD)) (aG (bW (cR (aH (f k "_law_creased") (aC (aA 4) (aC (aA 2) (aC (aA 3) aD))))) (bP 7) GS) (aG (aW 8 (aH (f k "sheet_of") (aC (aA 2) (aC (aA 3) (aC (aA 6) aD))))) (aG (aW 9 (aH (f k "_law_in_turn") (aC (aA 4) (aC (aH (f k "_law_number") (aC (aA 0) (aC (mC (.int 9)) aD))) aD)))) (aG (aW 10 (aB (aZ b5) (aB bH (aB eD (aA 1) (mC (.int 9))) (mC (.int 3))) (mC (.int 1)))) (aG (bT (eH (fI (aA 10)) (aV (aB (f7 b5) (aH (f k "crossing") (aC (aA 8) (aC (aA 9) (aC (aA 5) aD)))) (mC .non)))) (bC (mC (.bl b4))) b6) (aG (aW 11 (aH (f k "_law_stirred") (aC (aA 5) (aC (aH (f k "_law_number") (aC (aA 0) (aC (mC (.int 1)) aD))) (aC (aB aJ (b7 (aC (aB bB (mC (.int 1)) (aB bH (aB eD (aA 1) (mC (.int 135))) (mC (.int 4)))) (aC (aB bH (aB eD (aA 1) (mC (.int 135))) (mC (.int 40))) aD))) (aH m5 (aC (mW (aA 10)) aD))) aD))))) (aG (aW 12 (aH (f k "_law_first") (aC (aA 4) (aC (aA 11) (aC (aA 2) (aC (aA 3) aD)))))) (aG (aW 13 (aH (f k "_law_in_turn") (aC (aA 11) (aC (aH (f k "_law_number") (aC (aA 0) (aC (mC (.int 8)) aD))) aD)))) (aG (bT (iJ (lJ (fI (aH (f k "_law_same") (aC (aH (f k "crossing") (aC (aA 8) (aC (aA 9) (aC (aA 13) aD)))) (aC (aA 12) aD))))) (aV (aB (jK b5) (aA 13) (aA 11)))) (bC (mC (.bl b4))) b6) (aG (bT (fI (aA 10)) (bC (aB (f7 b4) (aH (f k "crossing") (aC (aA 8) (aC (aA 4) (aC (aA 5) aD)))) (mC .non))) b6) (bC (aH (f k "_law_same") (aC (aH (f k "crossing") (aC (aA 8) (aC (aA 4) (aC (aA 11) aD)))) (aC (aA 12) aD))))))))))))))))) [aX a,aY,aY,aY,aY,aY,aY,aY,aY,aY,aY,aY,aY,aY] b):=by kernel_rfl
theorem w_mul4{z:Int}{a:Hm}{Q:jz}:W (bU (.int 4) (.int z) a) Q↔Q (.int (4*z),a):=j9 (.inl ⟨by decide,by decide⟩)
theorem sV{z:Int}{a:Hm}{Q:jz}:W (bH (.int z) (.int 2) a) Q↔Q (.int (z%2),a):=dY (by decide)
theorem w_mod4{z:Int}{a:Hm}{Q:jz}:W (bH (.int z) (.int 4) a) Q↔Q (.int (z%4),a):=dY (by decide)
theorem w_div4{z:Int}{a:Hm}{Q:jz}:W (eD (.int z) (.int 4) a) Q↔Q (.int (z/4),a):=iR (by decide) (by decide)
theorem US:(2:Nat)<=XQ:=by decide
theorem eL{a b:D}:([a,b]:List D).length<=XQ:=US
theorem UT:(1:Nat)<=XQ:=by decide
theorem oT{a:D}:([a]:List D).length<=XQ:=UT
noncomputable def mS:D->Int
 |.int i=>i|_=>0
theorem Bf{lo:Int}{n:Nat}{d:D}(h:d∈iS lo n):∃j:Nat,j<n/\d=.int (lo+(j:Int)):=by unfold iS at h;obtain⟨j,a,rfl⟩:=XH.mp h;exact⟨j,Zs.mp a,rfl⟩
theorem Bg{t:MT}{A B C:MS}{c:aF}{d a:Hm}{b:Bool}{Q:jz}(h:t c d=aX (b,a))(h1:b=b5->W (fin (aG A C c a)) Q)(g:b=b4->W (fin (aG B C c a)) Q):W (fin (aG (bT t A B) C c d)) Q:=by
 cases b
 ·have e:aG (bT t A B) C c d=aG B C c a:=by unfold aG bT;rw[h];rfl
  rw[e];exact g rfl
 ·have e:aG (bT t A B) C c d=aG A C c a:=by unfold aG bT;rw[h];rfl
  rw[e];exact h1 rfl
theorem wA{a C:MS}{e c:aF}{d b:Hm}{Q:jz}(h:a e d=aX (.nx,c,b))(k:W (fin (C c b)) Q):W (fin (aG a C e d)) Q:=by unfold aG;rw[h];exact k
theorem UU{g:MF}{b:MA}{d:aF}{c a:Hm}{ds:List D}{Q:jz}(h:b d c=aX (ds,a))(k:W (g ds a) Q):W (aH g b d c) Q:=by unfold aH;rw[h];exact k
theorem UW{g:D->D->Hm->jk}{a b:ME}{e:aF}{h c d:Hm}{x y:D}{Q:jz}(h1:a e h=aX (x,c))(i:b e c=aX (y,d))(k:W (g x y d) Q):W (aB g a b e h) Q:=by unfold aB;rw[h1,XY,i];exact k
theorem UX{m:ME}{b:aF}{a:Hm}{Q:jz}(k:W (m b a) Q):W (fin (bC m b a)) Q:=W_fin.mpr (w_mRet.mpr (bI k λ_ q=>q))
section
variable{α:Type}{i:Nat}{m:ME}{ms:MA}{g:MF}{t:MT}{A B C:MS}{ρ:aF}{μ μ':Hm}{ds:List D}{Q:jz}{R:Fl×aF×Hm->Prop}
theorem dG{o:jk}{a:Option (Fl×aF×Hm)}(e:o=fin a)(h:W a λp=>match p.1 with|.rt d=>Q (d,p.2.2)|.nx=>Q (.non,p.2.2)|_=>False):W o Q:=e▸W_fin.mpr h
theorem bJ(h:W (m ρ μ) λp=>W (C (ρ.set i (aX p.1)) p.2) R):W (aG (aW i m) C ρ μ) R:=w_mSeq.mpr (w_mSet.mpr h)
theorem fL(h:W (A ρ μ) λp=>p.1=.nx/\W (C p.2.1 p.2.2) R):W (aG A C ρ μ) R:=w_mSeq.mpr (bI h λp q=>by rw[q.1];exact q.2)
theorem Bh(h:W (m ρ μ) λp=>W (C ρ p.2) R):W (aG (dW m) C ρ μ) R:=w_mSeq.mpr (w_mDrop.mpr h)
theorem cZ(h:W (m ρ μ) λp=>R (.rt p.1,ρ,p.2)):W (bC m ρ μ) R:=w_mRet.mpr h
theorem bD(h:ms ρ μ=aX (ds,μ'))(k:W (g ds μ') Q):W (aH g ms ρ μ) Q:=w_mCall.mpr ⟨_,h,k⟩
theorem c7(h:W (ms ρ μ) λp=>W (g p.1 p.2) Q):W (aH g ms ρ μ) Q:=w_mCall.mpr h
theorem a7{Q:List D×Hm->Prop}(h:W (m ρ μ) λp=>W (ms ρ p.2) λq=>Q (p.1::q.1,q.2)):W (aC m ms ρ μ) Q:=w_mCons.mpr h
theorem Bi(h:W (t ρ μ) λp=>p.1=b4/\W (aG B C ρ p.2) R):W (aG (bT t A B) C ρ μ) R:=w_mSeq.mpr (w_mIfS.mpr (bI h λp q=>by rw[if_neg (by rw[q.1];exact X9)];exact w_mSeq.mp q.2))
theorem Bj{T:Bool×Hm->Prop}(h:W (t ρ μ) λp=>T (!p.1,p.2)):W (lJ t ρ μ) T:=w_mNotT.mpr h
theorem mH{T:Bool×Hm->Prop}{b:Bool}(h:W (m ρ μ) λp=>p.1=.bl b/\T (b,p.2)):W (fI m ρ μ) T:=w_mTru.mpr (bI h λp ⟨e,q⟩=>by rw[e];exact w_truB.mpr q)
theorem Bk(h:W (C ρ μ) R):W (aG b6 C ρ μ) R:=w_mSeq.mpr (w_mNext.mpr h)
theorem cM{T:Bool×Hm->Prop}(h:W (m ρ μ) λp=>∃b,p.1=.bl b/\T (b,p.2)):W (aV m ρ μ) T:=w_mTest.mpr (bI h λp ⟨b,e,q⟩=>by rw[e];exact q)
theorem UY{s t:MT}{T:Bool×Hm->Prop}(h:W (s ρ μ) λp=>p.1=b4/\W (t ρ p.2) T):W (iJ s t ρ μ) T:=w_mOrT.mpr (bI h λp q=>by rw[if_neg (by rw[q.1];exact X9)];exact q.2)
theorem a8{h:D->D->Hm->jk}{a b:ME}{c d:Hm}{x y:D}(h1:a ρ μ=aX (x,c))(e:b ρ c=aX (y,d))(k:W (h x y d) Q):W (aB h a b ρ μ) Q:=w_mOp.mpr ⟨_,h1,_,e,k⟩
theorem aN{h:D->D->Hm->jk}{a b:ME}(k:W (a ρ μ) λp=>W (b ρ p.2) λq=>W (h p.1 q.1 q.2) Q):W (aB h a b ρ μ) Q:=w_mOp.mpr k
end
noncomputable def eW(p e:Int×Int):Int×Int:=
 if e.1%2=1 then(if e.1%4=e.2%4 then(p.2+(e.1-e.2),p.1-(e.1-e.2))else(e.1+e.2-p.2,e.1+e.2-p.1))else if e.2%4=0 then(p.1,2*e.2-p.2)else(2*e.1-p.1,p.2)
noncomputable def gJ:D->Int×Int
 |.tup [.int x,.int y]=>(x,y)|_=>(0,0)
theorem sW(p:Int×Int->Bool)(l:jq):((l.map PP).filter λd=>p (gJ d)).map (λd=>d)=(l.filter p).map PP:=by
 rw[a7N];induction l with
 |nil=>rfl|cons a l b=>
  have e:(List.map PP (a::l)).filter (λd=>p (gJ d))=if p a then PP a::(l.map PP).filter (λd=>p (gJ d))else(l.map PP).filter λd=>p (gJ d):=by rw[XS,a0Z];rfl
  rw[e,b,a0Z];split<;>rfl
theorem GV{d:D}{l:jq}(h:d∈l.map PP):∃x y,d=P x y:=by obtain⟨p,_,rfl⟩:=XH.mp h;exact⟨p.1,p.2,rfl⟩
theorem Bl{n:Nat}{i:Int}(a:0<=i)(h:i<n):iH n i=aX i.toNat:=by unfold iH;rw[if_pos a,if_pos h]
theorem GW{a:List Int}{i:Int}(b:0<=i)(h:i<a.length):atI (a.map D.int) i=aX (.int (a.getD i.toNat 0)):=by
 unfold atI;rw[Xx,Bl b h,XY,XR];have hi:i.toNat<a.length:=by lia
 simp[Zz,hi]
theorem GX{xs:List D}{i:Int}{d:D}{a:Hm}{Q:jz}(h:atI xs i=aX d):W (aJ (.rol xs) (.int i) a) Q↔Q (d,a):=by
 have:aJ (.rol xs) (.int i) a=aX (d,a):=by simp only[aJ,hV,bK,XY,h,X3]
 rw[this];exact W_some
theorem UZ{a:Hm}{b:Nat}{ns:List Int}{Q:jz}(e:a[b]?=aX (.lst [])):W (aZ b4 (.rol (ns.map D.int)) (.loc b) a) Q↔Q (.bl (ns==[]),a):=by
 have c:e8 a (.rol (ns.map D.int))=aX (.lst (ns.map D.int)):=rfl;have d:e8 a (.loc b)=aX (.lst (([]:List Int).map D.int)):=by simp only[e8,e];rfl
 have:cS 8 a (.rol (ns.map D.int)) (.loc b)=aX (ns==[]):=by show(e8 a (.rol (ns.map D.int))).bind (λx=>(e8 a (.loc b)).bind λy=>jS (cS 7 a) x y)=_;rw[c,d];exact Gp 6 a ns []
 unfold aZ;rw[this];exact W_some
structure Ly where
 a:Int
 b:Int
 c:Int
 d:Int
 e:Int
 g:Int
 deriving DecidableEq
noncomputable abbrev LD(A:Ly):D:=.tup [.int A.a,.int A.b,.int A.c,.int A.d,.int A.e,.int A.g]
noncomputable def Dih(A:Ly):Prop:=(A.b=0/\A.c=0/\(A.a=1\/A.a=-1)/\(A.d=1\/A.d=-1))\/(A.a=0/\A.d=0/\(A.b=1\/A.b=-1)/\(A.c=1\/A.c=-1))
theorem Dih.sm{A:Ly}(h:Dih A):(-1<=A.a/\A.a<=1)/\(-1<=A.b/\A.b<=1)/\(-1<=A.c/\A.c<=1)/\(-1<=A.d/\A.d<=1):=by unfold Dih at h;lia
noncomputable def aI(A:Ly)(p:Int×Int):Int×Int:=(A.a*p.1+A.b*p.2+A.e,A.c*p.1+A.d*p.2+A.g)
noncomputable def cD(A B:Ly):Ly:=⟨B.a*A.a+B.b*A.c,B.a*A.b+B.b*A.d,B.c*A.a+B.d*A.c,B.c*A.b+B.d*A.d,B.a*A.e+B.b*A.g+B.e,B.c*A.e+B.d*A.g+B.g⟩
noncomputable def Bm(A:Ly):Ly:=⟨A.a,A.c,A.b,A.d,-(A.a*A.e+A.c*A.g),-(A.b*A.e+A.d*A.g)⟩
noncomputable def dO:Ly:=⟨1,0,0,1,0,0⟩
noncomputable def gT(e:Int×Int):Ly:=
 ⟨(eW (1,0) e).1-(eW (0,0) e).1,(eW (0,1) e).1-(eW (0,0) e).1,(eW (1,0) e).2-(eW (0,0) e).2,(eW (0,1) e).2-(eW (0,0) e).2,(eW (0,0) e).1,(eW (0,0) e).2⟩
noncomputable def iT(A:Ly):Int:=A.a*A.d-A.b*A.c
theorem Ly.ext'{A B:Ly}(h1:A.a=B.a)(a:A.b=B.b)(b:A.c=B.c)(c:A.d=B.d)(d:A.e=B.e)(e:A.g=B.g):A=B:=by cases A;cases B;simp_all
theorem GY(e:Int×Int):Dih (gT e):=by obtain⟨x,y⟩:=e;unfold Dih gT eW;dsimp only;split<;>split<;>dsimp only<;>lia
theorem U0(e:Int×Int):iT (gT e)=-1:=by
 have h:=GY e;obtain⟨x,y⟩:=e;unfold iT gT eW;dsimp only;split<;>split<;>dsimp only
 ·rw[show(0:Int)+(x-y)-(0+(x-y))=0 by lia,show(1:Int)+(x-y)-(0+(x-y))=1 by lia,show(1:Int)-(x-y)-(0-(x-y))=1 by lia,show(0:Int)-(x-y)-(0-(x-y))=0 by lia];rfl
 ·rw[show x+y-0-(x+y-0)=0 by lia,show x+y-1-(x+y-0)=-1 by lia];rfl
 ·rw[show(1:Int)-0=1 by rfl,show 2*y-1-(2*y-0)=-1 by lia,show(0:Int)-0=0 by rfl,show 2*y-0-(2*y-0)=0 by lia];rfl
 ·rw[show 2*x-1-(2*x-0)=-1 by lia,show(1:Int)-0=1 by rfl,show 2*x-0-(2*x-0)=0 by lia,show(0:Int)-0=0 by rfl];rfl
theorem nI(e p:Int×Int):aI (gT e) p=eW p e:=by
 obtain⟨x,y⟩:=e;obtain⟨u,v⟩:=p;unfold aI gT eW;dsimp only;split<;>split<;>dsimp only
 ·rw[show(0:Int)+(x-y)-(0+(x-y))=0 by lia,show(1:Int)+(x-y)-(0+(x-y))=1 by lia,show(1:Int)-(x-y)-(0-(x-y))=1 by lia,show(0:Int)-(x-y)-(0-(x-y))=0 by lia];refine YV ?_ ?_<;>dsimp only<;>lia
 ·rw[show x+y-0-(x+y-0)=0 by lia,show x+y-1-(x+y-0)=-1 by lia];refine YV ?_ ?_<;>dsimp only<;>lia
 ·rw[show(1:Int)-0=1 by rfl,show 2*y-1-(2*y-0)=-1 by lia,show(0:Int)-0=0 by rfl,show 2*y-0-(2*y-0)=0 by lia];refine YV ?_ ?_<;>dsimp only<;>lia
 ·rw[show 2*x-1-(2*x-0)=-1 by lia,show(1:Int)-0=1 by rfl,show 2*x-0-(2*x-0)=0 by lia,show(0:Int)-0=0 by rfl];refine YV ?_ ?_<;>dsimp only<;>lia
theorem mI(A B:Ly)(p:Int×Int):aI (cD A B) p=aI B (aI A p):=by unfold aI cD;refine YV ?_ ?_<;>dsimp only<;>grind
theorem G0(A B:Ly):iT (cD A B)=iT A*iT B:=by unfold iT cD;dsimp only;grind
theorem U1(A:Ly):cD A dO=A:=by unfold cD dO;exact Ly.ext' (by dsimp only;lia) (by dsimp only;lia) (by dsimp only;lia) (by dsimp only;lia) (by dsimp only;lia) (by dsimp only;lia)
theorem U2(A:Ly):cD dO A=A:=by unfold cD dO;exact Ly.ext' (by dsimp only;lia) (by dsimp only;lia) (by dsimp only;lia) (by dsimp only;lia) (by dsimp only;lia) (by dsimp only;lia)
theorem Bn(A B E:Ly):cD (cD A B) E=cD A (cD B E):=by unfold cD;refine Ly.ext' ?_ ?_ ?_ ?_ ?_ ?_<;>dsimp only<;>grind
theorem G2:Dih dO:=.inl ⟨rfl,rfl,.inl rfl,.inl rfl⟩
theorem Bo{A:Ly}(h:Dih A):∃e g,A=⟨1,0,0,1,e,g⟩\/A=⟨1,0,0,-1,e,g⟩\/A=⟨-1,0,0,1,e,g⟩\/A=⟨-1,0,0,-1,e,g⟩\/A=⟨0,1,1,0,e,g⟩\/A=⟨0,1,-1,0,e,g⟩\/A=⟨0,-1,1,0,e,g⟩\/A=⟨0,-1,-1,0,e,g⟩:=by obtain⟨a,b,c,d,e,g⟩:=A;refine⟨e,g,?_⟩;simp only[Dih]at h;rcases h with⟨rfl,rfl,rfl|rfl,rfl|rfl⟩|⟨rfl,rfl,rfl|rfl,rfl|rfl⟩<;>simp
theorem nJ{x y:Int}(a:x=1\/x=-1)(b:y=1\/y=-1):x*y=1\/x*y=-1:=by rcases a with rfl|rfl<;>rcases b with rfl|rfl<;>decide
theorem Bp{A B:Ly}(hA:Dih A)(hB:Dih B):Dih (cD A B):=by
 unfold Dih cD;dsimp only;rcases hA with⟨c,d,a,b⟩|⟨c,d,a,b⟩<;>rcases hB with⟨k1,k2,k3,k4⟩|⟨k1,k2,k3,k4⟩<;>rw[c,d,k1,k2]<;>simp only[a5z,a5y,a1X,a3M,true_and]
 ·exact .inl ⟨nJ k3 a,nJ k4 b⟩
 ·exact .inr ⟨nJ k3 b,nJ k4 a⟩
 ·exact .inr ⟨nJ k3 a,nJ k4 b⟩
 ·exact .inl ⟨nJ k3 b,nJ k4 a⟩
theorem G3{A:Ly}(hA:Dih A)(p:Int×Int):aI (Bm A) (aI A p)=p:=by obtain⟨e,g,h⟩:=Bo hA;rcases h with rfl|rfl|rfl|rfl|rfl|rfl|rfl|rfl<;>(refine YV ?_ ?_<;>dsimp only[aI,Bm]<;>lia)
theorem G4{A B:Ly}(h:∀p,aI A p=aI B p):A=B:=by have a:=h (0,0);have b:=h (1,0);have c:=h (0,1);unfold aI at a b c;simp only[a6J]at a b c;exact Ly.ext' (by lia) (by lia) (by lia) (by lia) (by lia) (by lia)
theorem wB(p:Int×Int):aI dO p=p:=by unfold aI dO;refine YV ?_ ?_<;>dsimp only<;>lia
theorem Bq{a b c d e g:D}:([a,b,c,d,e,g]:List D).length<=XQ:=by show(6:Nat)<=XQ;decide
theorem k5{i j:Int}(h:-1<=i/\i<=1){a:Hm}{Q:jz}:W (bU (.int i) (.int j) a) Q↔Q (.int (i*j),a):=j9 (.inl ⟨by lia,by lia⟩)
theorem G5(k:Nat)(A:Ly)(hA:Dih A)(x y:Int)(a:Hm)(Q:jz):W (f (k+1) "led" [LD A,P x y] a) Q↔Q (PP (aI A (x,y)),a):=by obtain⟨b,c,d,e⟩:=hA.sm;rw[Ui,W_fin];simp only[w_mSeq,w_mSet,w_mRet,w_mTup,w_mCons,dS,w_mOp,cL,c5,fK,w_it20,w_it21,TB,TC,TF,TH,TJ,TK,Y2,Za,k5 b,k5 c,k5 d,k5 e,w_addI,eL,true_and];rfl
noncomputable def kF(lo:Int)(n m:Nat):jq:=(YN n).flatMap λ(i:Nat)=>(YN m).map λ(j:Nat)=>(lo+(i:Int),lo+(j:Int))
noncomputable def kG(lo x:Int)(m:Nat):jq:=(YN m).map λ(j:Nat)=>(x,lo+(j:Int))
theorem G6(lo:Int)(n m:Nat):kF lo (n+1) m=kF lo n m++kG lo (lo+(n:Int)) m:=by unfold kF kG;rw[a2M,Z6];simp
theorem G7(lo x:Int)(m:Nat):kG lo x (m+1)=kG lo x m++[(x,lo+(m:Int))]:=by unfold kG;rw[a2M,X4];rfl
theorem G8(lo x:Int)(m:Nat):(kG lo x m).length=m:=by unfold kG;simp
theorem G9(lo:Int)(m:Nat):∀n:Nat,(kF lo n m).length=n*m
 |0=>by simp[kF]
 |n+1=>by rw[G6,XI,G9 lo m n,G8,a3J]
theorem Ha{b:Hm}{a:Nat}{c c':C}:(b.set a c).set a c'=b.set a c':=a2G ..
theorem bX{b:Hm}{a:Nat}{c c':C}(h:b[a]?=aX c):(b.set a c')[a]?=aX c':=by rw[YA (Xz.mp h).1]
theorem Br(a:Hm)(c c':C):(a++[c]).set a.length c'=a++[c']:=by rw[a2N _ _ (XJ _)];simp
theorem Bs{b:Hm}{a:Nat}{c:C}(h:b[a]?=aX c):b.set a c=b:=by obtain⟨d,rfl⟩:=Xz.mp h;exact List.set_getElem_self d
noncomputable abbrev Hb:MS:=dW (dQ eU (aA 2) (aC (bZ (aC (aA 3) (aC (aA 4) aD))) aD))
theorem U3(T:MT)(c:Int->Int->Bool)(e g:D)(a:Nat)(x:Int)(q:∀y b Q,W (T [aX e,aX g,aX (.loc a),aX (.int x),aX (.int y)] b) Q↔Q (c x y,b))(lo:Int)(m:Nat)(ps:jq)(r:ps.length+m<=1000)(b:Hm)(h:b[a]?=aX (.lst (ps.map PP)))(o:Option D)(Q:Fl×aF×Hm->Prop)
  (d:∀o,Q (.nx,[aX e,aX g,aX (.loc a),aX (.int x),o],b.set a (.lst ((ps++(kG lo x m).filter λp=>c p.1 p.2).map PP)))):W (dD (iA lo m) (bP 4) (bT T Hb b6) (m+1) 0 [aX e,aX g,aX (.loc a),aX (.int x),o] b) Q:=by
 refine oS (λi l j=>i<=m/\j=b.set a (.lst ((ps++(kG lo x i).filter λp=>c p.1 p.2).map PP))/\∃o,l=[aX e,aX g,aX (.loc a),aX (.int x),o]) ⟨Yu _,?_,o,rfl⟩ ?_ ?_
 ·simp only[kG,a7g,a0y,a0E,Yl];exact(Bs h).symm
 ·rintro i l k hi ⟨_,rfl,o,rfl⟩;refine⟨_,rfl,?_⟩;simp only[Y2,Za,w_mIfS];rw[q];cases n:c x (lo+(i:Int))with
  |false=>simp only[Yb,if_false,w_mNext];refine⟨hi,?_,_,rfl⟩;rw[G7,Zb];simp[n]|true=>
   simp only[if_true,w_mDrop];refine iE ?_;simp only[cL,c5];refine⟨gR (bX h),?_⟩;simp only[w_mCons,dS,w_mTup,cL,c5,eL,true_and];refine(kE (bX h) ?_).mpr ?_
   ·have:=YM (λp=>c p.1 p.2) (kG lo x i);rw[G8]at this;rw[Xx,XI,X2];lia
   refine⟨hi,?_,_,rfl⟩;rw[Ha,G7,Zb];simp[n,PP,P]
 ·rintro l k ⟨_,rfl,o,rfl⟩;exact d o
theorem Hc(T:MT)(g:Int->Int->Bool)(d e:D)(a:Nat)(r:MI)(lo:Int)(m:Nat)(hit:∀o1 c b Q,W (r [aX d,aX e,aX (.loc a),o1,c] b) Q↔Q (iA lo m,m+1,b))(u:∀x y b Q,W (T [aX d,aX e,aX (.loc a),aX (.int x),aX (.int y)] b) Q↔Q (g x y,b))(n:Nat)(w:n*m+m<=900)(b:Hm)(q:b[a]?=aX (.lst []))(Q:Fl×aF×Hm->Prop)
  (h:∀o1 c,Q (.nx,[aX d,aX e,aX (.loc a),o1,c],b.set a (.lst (((kF lo n m).filter λp=>g p.1 p.2).map PP)))):W (dD (iA lo n) (bP 3) (bW r (bP 4) (bT T Hb b6)) (n+1) 0 [aX d,aX e,aX (.loc a),aY,aY] b) Q:=by
 refine oS (λi l j=>i<=n/\j=b.set a (.lst (((kF lo i m).filter λp=>g p.1 p.2).map PP))/\∃o1 c,l=[aX d,aX e,aX (.loc a),o1,c]) ⟨Yu _,?_,aY,aY,rfl⟩ ?_ ?_
 ·simp only[kF,a7g,a2y,a0E,a0y];exact(Bs q).symm
 ·rintro i l k hi ⟨_,rfl,o1,c,rfl⟩;refine⟨_,rfl,?_⟩;simp only[Y2,Za,w_mForI];rw[hit];refine U3 T g d e a _ (u _) lo m _ ?_ _ (bX q) _ _ λo=>?_
  ·have s:=YM (λp=>g p.1 p.2) (kF lo i m);rw[G9]at s;have v:i*m<=n*m:=Nat.mul_le_mul_right _ (a0B hi);lia
  ·refine⟨hi,?_,_,_,rfl⟩;rw[Ha,G6,Zb]
 ·rintro l k ⟨_,rfl,o1,c,rfl⟩;exact h o1 c
noncomputable def bG(p:Int×Int):List Int:=[p.1,p.2]
theorem U4{a:Type}(l:List a)(d:a):(YN l.length).map (λi=>l.getD i d)=l:=by refine a6Q (by simp) λi c b=>?_;simp[Zz,b]
theorem gU{es:jq}{i:Nat}{d:D}(h:(es.map PP)[i]?=aX d):∃p,es[i]?=aX p/\d=PP p:=by rw[XR]at h;obtain⟨p,a,b⟩:=XA.mp h;exact⟨p,a,b.symm⟩
theorem bR(q:Int×Int):dR (PP q)=aX (bG q):=rfl
theorem Hd{l:jx}(nd:(l.map (·.1)).Nodup){k:List Int}{d:D}(h:(k,d)∈l):bV l k=aX d:=by
 induction l with
 |nil=>cases h|cons p l a=>
  rw[XS,Yx]at nd;unfold bV;rw[a0D];rcases Yi.mp h with h|h
  ·rw[<- h];simp
  ·have:decide (p.1=k)=false:=decide_eq_false λz=>nd.1 (XH.mpr ⟨_,h,z.symm⟩);rw[this];exact a nd.2 h
theorem sX{p q:Int×Int}(h:bG p=bG q):p=q:=by unfold bG at h;injection h with h1 h2;injection h2 with h2;exact YV h1 h2
theorem w_gTup6{k:aF}{i1 i2 i3 h i j:Nat}{a b c d e g:D}{l:Hm}{Q:aF->Prop}:W (cT [i1,i2,i3,h,i,j] (.tup [a,b,c,d,e,g]) k l) Q↔Q ((((((k.set i1 (aX a)).set i2 (aX b)).set i3 (aX c)).set h (aX d)).set i (aX e)).set j (aX g)):=W_some
noncomputable abbrev Gr:=List ((Int×Int)×jq)
noncomputable def dZ(G:Gr)(p q:Int×Int):Gr:=if(G.map (·.1)).contains p then G.map (λg=>if g.1=p then(g.1,g.2++[q])else g)else G++[(p,[q])]
noncomputable abbrev Zr:=List ((Int×Int)×jq×Nat)
noncomputable def GZ(Z:Zr):Gr:=Z.map λz=>(z.1,z.2.1)
noncomputable def aM(Z:Zr):jx:=Z.map λz=>(bG z.1,D.loc z.2.2)
structure GI(μ0 μ:Hm)(a:Nat)(Z:Zr):Prop where
 pre:μ0<+:μ
 lo:μ0.length<=a
 dic:μ[a]?=aX (.dT (aM Z))
 kd:(Z.map (·.1)).Nodup
 bd:(Z.map (·.2.2)).Nodup
 at_:∀z∈Z,μ0.length<=z.2.2/\μ[z.2.2]?=aX (.lst (z.2.1.map PP))
theorem jL{Z:Zr}{z:(Int×Int)×jq×Nat}(d:(Z.map (·.1)).Nodup)(h:z∈Z):bV (aM Z) (bG z.1)=aX (.loc z.2.2):=by
 refine Hd ?_ (XH.mpr ⟨z,h,rfl⟩);have e:(aM Z).map (·.1)=(Z.map (·.1)).map bG:=by unfold aM;rw[Yc,Yc];rfl
 rw[e];exact a1I _ (λa b c x=>c (sX x)) d
theorem wC{Z:Zr}{p:Int×Int}(h:p∉Z.map (·.1)):bV (aM Z) (bG p)=none:=by
 unfold bV;rw[a2d.mpr]
 ·rfl
 ·intro x a;obtain⟨z,b,rfl⟩:=XH.mp a;rw[decide_eq_true_iff];exact λe=>h (XH.mpr ⟨z,b,sX e⟩)
theorem k6{Z:Zr}{p:Int×Int}(h:p∈Z.map (·.1)):∃z∈Z,z.1=p:=by obtain⟨z,a,b⟩:=XH.mp h;exact⟨z,a,b⟩
theorem Bt{Z:Zr}(b:(Z.map (·.1)).Nodup){z y:(Int×Int)×jq×Nat}(hz:z∈Z)(c:y∈Z)(e:z.1=y.1):z=y:=by
 induction Z with
 |nil=>cases hz|cons x Z d=>
  rw[XS,Yx]at b;rcases Yi.mp hz with a|a<;>rcases Yi.mp c with h2|h2
  ·rw[a,h2]
  ·exact(b.1 (XH.mpr ⟨y,h2,by rw[<- a];exact e.symm⟩)).elim
  ·exact(b.1 (XH.mpr ⟨z,a,by rw[<- h2];exact e⟩)).elim
  ·exact d b.2 a h2
theorem He{Z:Zr}(b:(Z.map (·.2.2)).Nodup){z y:(Int×Int)×jq×Nat}(hz:z∈Z)(c:y∈Z)(e:z.2.2=y.2.2):z=y:=by
 induction Z with
 |nil=>cases hz|cons x Z d=>
  rw[XS,Yx]at b;rcases Yi.mp hz with a|a<;>rcases Yi.mp c with h2|h2
  ·rw[a,h2]
  ·exact(b.1 (XH.mpr ⟨y,h2,by rw[<- a];exact e.symm⟩)).elim
  ·exact(b.1 (XH.mpr ⟨z,a,by rw[<- h2];exact e⟩)).elim
  ·exact d b.2 a h2
theorem d9(Z:Zr):(GZ Z).map (·.1)=Z.map (·.1):=by unfold GZ;rw[Yc];rfl
theorem Hf{Z:Zr}{p q:Int×Int}(h:p∈Z.map (·.1)):dZ (GZ Z) p q=GZ (Z.map λz=>if z.1=p then(z.1,z.2.1++[q],z.2.2)else z):=by
 unfold dZ;rw[d9,if_pos (Yo.mpr h)];unfold GZ;rw[Yc,Yc];refine Ye λz _=>?_;show(if z.1=p then(z.1,z.2.1++[q])else(z.1,z.2.1))=_;by_cases e:z.1=p
 ·simp[e]
 ·simp[e]
theorem Hg{Z:Zr}{p q:Int×Int}{b:Nat}(h:p∉Z.map (·.1)):dZ (GZ Z) p q=GZ (Z++[(p,[q],b)]):=by unfold dZ;rw[d9,if_neg (λz=>h (Yo.mp z))];unfold GZ;rw[X4];rfl
theorem GI.more{μ0 c b:Hm}{a:Nat}{Z:Zr}(I:GI μ0 c a Z)(h:c<+:b):GI μ0 b a Z:=⟨I.pre.trans h,I.lo,aE h I.dic,I.kd,I.bd,λz hz=>⟨(I.at_ z hz).1,aE h (I.at_ z hz).2⟩⟩
theorem GI.ne{μ0 c:Hm}{a:Nat}{Z:Zr}(I:GI μ0 c a Z){z:(Int×Int)×jq×Nat}(hz:z∈Z):z.2.2≠a:=λe=>by have b:=(I.at_ z hz).2;rw[e,I.dic]at b;cases b
theorem GI.hit{μ0 c:Hm}{a:Nat}{Z:Zr}(I:GI μ0 c a Z){z:(Int×Int)×jq×Nat}(hz:z∈Z)(q:Int×Int) :
  GI μ0 (c.set z.2.2 (.lst (z.2.1.map PP++[PP q]))) a (Z.map λy=>if y.1=z.1 then(y.1,y.2.1++[q],y.2.2)else y):=by
 have i:(Z.map λy=>if y.1=z.1 then(y.1,y.2.1++[q],y.2.2)else y).map (·.1)=Z.map (·.1):=by rw[Yc];refine Ye λy _=>?_;show(if y.1=z.1 then(y.1,y.2.1++[q],y.2.2)else y).1=y.1;split<;>rfl
 have h:(Z.map λy=>if y.1=z.1 then(y.1,y.2.1++[q],y.2.2)else y).map (·.2.2)=Z.map (·.2.2):=by rw[Yc];refine Ye λy _=>?_;show(if y.1=z.1 then(y.1,y.2.1++[q],y.2.2)else y).2.2=y.2.2;split<;>rfl
 have j:aM (Z.map λy=>if y.1=z.1 then(y.1,y.2.1++[q],y.2.2)else y)=aM Z:=by unfold aM;rw[Yc];refine Ye λy _=>?_;show(bG (if y.1=z.1 then(y.1,y.2.1++[q],y.2.2)else y).1,D.loc (if y.1=z.1 then(y.1,y.2.1++[q],y.2.2)else y).2.2)=_;split<;>rfl
 refine⟨cI I.pre (I.at_ z hz).1 _,I.lo,?_,by rw[i];exact I.kd,by rw[h];exact I.bd,λy k=>?_⟩
 ·rw[j,XB (I.ne hz)];exact I.dic
 ·obtain⟨x,b,rfl⟩:=XH.mp k;obtain⟨d,g⟩:=I.at_ x b;by_cases e:x.1=z.1
  ·have:x=z:=Bt I.kd b hz e;subst this;rw[if_pos rfl];refine⟨d,?_⟩;show(c.set x.2.2 _)[x.2.2]?=_;rw[bX g,X4];rfl
  ·rw[if_neg e];refine⟨d,?_⟩;rw[XB λw=>e (by rw[He I.bd b hz w.symm])];exact g
theorem Hh{Z:Zr}{p:Int×Int}{qs:jq}{b:Nat}(h:p∉Z.map (·.1)):dE (aM Z) (bG p) (.loc b)=aM (Z++[(p,qs,b)]):=by unfold dE;rw[wC h,if_neg (by simp)];unfold aM;rw[X4];rfl
theorem GI.new{μ0 j:Hm}{a b:Nat}{Z:Zr}(I:GI μ0 j a Z){p:Int×Int}(k:p∉Z.map (·.1)){qs:jq}(h:j[b]?=aX (.lst (qs.map PP)))(m:μ0.length<=b)(n:∀z∈Z,z.2.2≠b) :
  GI μ0 (j.set a (.dT (dE (aM Z) (bG p) (.loc b)))) a (Z++[(p,qs,b)]):=by
 have i:b≠a:=λe=>by rw[e,I.dic]at h;cases h
 refine⟨cI I.pre I.lo _,I.lo,by rw[bX I.dic,Hh k],?_,?_,λz c=>?_⟩
 ·rw[X4,Y5];exact⟨I.kd,by simp,λx g y d e=>by
   simp only[XS,a0y,XX]at d;rw[e,d]at g;exact k g⟩
 ·rw[X4,Y5];exact⟨I.bd,by simp,λx g y d e=>by
   simp only[XS,a0y,XX]at d;obtain⟨z,c,l⟩:=XH.mp g;exact n z c (by rw[l,e,d])⟩
 ·rcases Yq.mp c with c|c
  ·rw[XB (Yn (I.ne c))];exact I.at_ z c
  ·rw[XX.mp c];exact⟨m,by rw[XB (Yn i)];exact h⟩
theorem Hi{Z:Zr}{p:Int×Int}{qs:jq}{b:Nat}(h:p∈Z.map (·.1))(d:(Z.map (·.1)).Nodup):dE (aM Z) (bG p) (.loc b)=aM (Z.map λy=>if y.1=p then(y.1,qs,b)else y):=by
 obtain⟨z,c,e⟩:=k6 h;unfold dE;rw[<- e,jL d c,Option.isSome_some,if_pos rfl];unfold aM;rw[Yc,Yc];refine Ye λy _=>?_;show(if bG y.1=bG z.1 then(bG y.1,D.loc b)else(bG y.1,D.loc y.2.2))=(bG (if y.1=z.1 then(y.1,qs,b)else y).1,D.loc (if y.1=z.1 then(y.1,qs,b)else y).2.2);by_cases a:y.1=z.1
 ·rw[if_pos (by rw[a]),if_pos a]
 ·rw[if_neg (λw=>a (sX w)),if_neg a]
theorem GI.swap{μ0 o:Hm}{a b:Nat}{Z:Zr}(I:GI μ0 o a Z){z:(Int×Int)×jq×Nat}(hz:z∈Z){qs:jq}(j:o[b]?=aX (.lst (qs.map PP)))(q:μ0.length<=b)(m:∀z∈Z,z.2.2≠b) :
  GI μ0 (o.set a (.dT (dE (aM Z) (bG z.1) (.loc b)))) a (Z.map λy=>if y.1=z.1 then(y.1,qs,b)else y):=by
 have g:b≠a:=λe=>by rw[e,I.dic]at j;cases j
 have p:(Z.map λy=>if y.1=z.1 then(y.1,qs,b)else y).map (·.1)=Z.map (·.1):=by rw[Yc];refine Ye λy _=>?_;show(if y.1=z.1 then(y.1,qs,b)else y).1=y.1;split<;>rfl
 refine⟨cI I.pre I.lo _,I.lo,by rw[bX I.dic,Hi (XH.mpr ⟨z,hz,rfl⟩) I.kd],by rw[p];exact I.kd,?_,λy c=>?_⟩
 ·have l:=I.kd;have i:=I.bd;clear p g j q I;induction Z with
  |nil=>cases hz|cons x Z u=>
   rw[XS,Yx]at l i;have off:∀Y:Zr,(∀y∈Y,y.1≠z.1)->(Y.map λy=>if y.1=z.1 then(y.1,qs,b)else y)=Y:=λY s=>by have:Y.map (λy=>if y.1=z.1 then(y.1,qs,b)else y)=Y.map id:=Ye λy c=>if_neg (s y c);rw[this,a1G]
   rcases Yi.mp hz with rfl|h
   ·rw[XS,if_pos rfl,off Z (λy c e=>l.1 (XH.mpr ⟨y,c,e⟩)),XS,Yx];refine⟨λw=>?_,i.2⟩;obtain⟨y,c,d⟩:=XH.mp w;exact m y (X7 _ c) d
   ·have k:x.1≠z.1:=λe=>l.1 (XH.mpr ⟨z,h,e.symm⟩);rw[XS,if_neg k,XS,Yx];refine⟨λw=>?_,u h (λy c=>m y (X7 _ c)) l.2 i.2⟩;obtain⟨y,c,d⟩:=XH.mp w;obtain⟨r,n,rfl⟩:=XH.mp c;by_cases e:r.1=z.1
    ·rw[if_pos e]at d;exact m x (X8 ..) d.symm
    ·rw[if_neg e]at d;exact i.1 (XH.mpr ⟨r,n,d⟩)
 ·obtain⟨x,k,rfl⟩:=XH.mp c;by_cases e:x.1=z.1
  ·rw[if_pos e];exact⟨q,by rw[XB (Yn g)];exact j⟩
  ·rw[if_neg e,XB (Yn (I.ne k))];exact I.at_ x k
theorem U5{Z:Zr}{z:(Int×Int)×jq×Nat}(hz:z∈Z)(c:(Z.map (·.1)).Nodup)(q:Int×Int)(b:Nat):dZ (GZ Z) z.1 q=GZ (Z.map λy=>if y.1=z.1 then(y.1,z.2.1++[q],b)else y):=by
 rw[Hf (XH.mpr ⟨z,hz,rfl⟩)];unfold GZ;rw[Yc,Yc];refine Ye λy a=>?_;by_cases e:y.1=z.1
 ·have:y=z:=Bt c a hz e;subst this;simp
 ·simp[e]
theorem rZ:∀a b c:List Int,HT.lexLt a b=b5->HT.lexLt b c=b5->HT.lexLt a c=b5
 |[],[],_,h,_=>by cases h
 |[],_::_,[],_,h=>by cases h
 |[],_::_,_::_,_,_=>rfl|_::_,[],_,h,_=>by cases h
 |_::_,_::_,[],_,h=>by cases h
 |x::xs,y::ys,z::zs,e,d=>by
  rw[HT.lexLt_cons]at e d ⊢;by_cases i:x=y
  ·subst i;rw[if_pos rfl]at e;by_cases g:x=z
   ·rw[if_pos g]at d ⊢;exact rZ xs ys zs e d
   ·rw[if_neg g]at d ⊢;exact d
  ·rw[if_neg i]at e;have e:=of_decide_eq_true e;by_cases g:y=z
   ·subst g;rw[if_neg i];exact decide_eq_true e
   ·rw[if_neg g]at d;have d:=of_decide_eq_true d;rw[if_neg (by lia)];exact decide_eq_true (by lia)
theorem rY:∀k:List Int,HT.lexLt k k=b4
 |[]=>rfl|a::k=>by rw[HT.lexLt_cons,if_pos rfl];exact rY k
theorem U6{c:Hm}{a:Nat}{b:jx}{Q:jz}(h:c[a]?=aX (.dT b))(h1:b.length<64)(d:∀p∈b,p.1≠[]):W (j7 [.loc a] c) Q↔Q (.loc c.length,c++[.lst ((l9 b).map λk=>D.tup (k.1.map D.int))]):=by simp only[j7,h];rw[if_pos ⟨h1,d⟩];exact W_some
theorem wD{f:D->List D->Hm->jk}{b:ME}{c:MA}{a:aF}{d:Hm}{Q:jz}(h:W (b a d) λp=>qC p.2 p.1=b5/\W (c a p.2) λq=>W (f p.1 q.1 q.2) Q):W (j4 f b c a d) Q:=by unfold j4;rw[W_bind];refine bI h λp q=>?_;rw[q.1];exact W_bind.mpr q.2
theorem wF{c:Hm}{a:Nat}{b:jx}(h:c[a]?=aX (.dT b)):qC c (.loc a)=true:=by simp only[qC,h]
noncomputable def Bu(a:Nat)(Z:Zr)(d b:Hm):Prop:=∀c x,d[c]?=aX x->c≠a->(∀z∈Z,z.2.2≠c)->b[c]?=aX x
theorem U7{Z:Zr}{p q:Int×Int}{b:Nat}(h:p∉Z.map (·.1)):((Z++[(p,[],b)]:Zr).map λy=>if y.1=p then(y.1,y.2.1++[q],y.2.2)else y)=Z++[(p,[q],b)]:=by
 rw[X4];have:(Z.map λy=>if y.1=p then(y.1,y.2.1++[q],y.2.2)else y)=Z:=by have e:(Z.map λy=>if y.1=p then(y.1,y.2.1++[q],y.2.2)else y)=Z.map id:=Ye λy a=>if_neg λe=>h (XH.mpr ⟨y,a,e⟩);rw[e,a1G]
 rw[this];simp
theorem gM(Z:Zr):(aM Z).length=Z.length:=Xx ..
theorem U8{μ0 b:Hm}{a:Nat}{Z:Zr}(I:GI μ0 b a Z)(p q:Int×Int)(K:Z.length<1000)(G:∀z∈Z,z.2.1.length<1000)(Q:jz)
  (H:∀l h,GI μ0 h a l->GZ l=dZ (GZ Z) p q->Bu a Z b h->(∀z∈l,(∃y∈Z,y.2.2=z.2.2)\/b.length<=z.2.2)->Q (.non,h)) :
  W (oO (.loc a) [PP p,.loc b.length] (b++[.lst []])) λr=>oE r.2 r.1=b5/\W (eU r.1 [PP q] r.2) Q:=by
 have i:=I.more (aL b (C.lst []));have B:=bA b (C.lst []);have E:μ0.length<=b.length:=I.pre.length_le;have n:∀z∈Z,z.2.2<b.length:=λz d=>(Xz.mp (I.at_ z d).2).1;have L:a<b.length:=(Xz.mp I.dic).1;have k:∀c x,b[c]?=aX x->(b++[C.lst []])[c]?=aX x:=λc x e=>aE (aL _ _) e;by_cases j:p∈Z.map (·.1)
 ·obtain⟨z,d,rfl⟩:=k6 j;simp only[oO,i.dic,bR,XY,jL I.kd d];refine W_some.mpr ⟨gR (i.at_ z d).2,(kE (i.at_ z d).2 (by rw[Xx,X2];have:=G z d;lia)).mpr ?_⟩;refine H _ _ (i.hit d q) (Hf j).symm (λc x e v w=>?_) λy g=>?_
  ·rw[XB (w z d)];exact k c x e
  ·obtain⟨x,J,rfl⟩:=XH.mp g;refine .inl ⟨x,J,?_⟩;split<;>rfl
 ·have m:(aM Z).length<XQ:=by rw[gM,X2];lia
  simp only[oO,i.dic,bR,XY,wC j,if_pos m];have o:=i.new j (qs:=[]) (b:=b.length) B E (λz d=>XU (n z d));have A:(p,([]:jq),b.length)∈Z++[(p,[],b.length)]:=Yq.mpr (.inr (XX.mpr rfl));have u:=(o.at_ _ A).2;refine W_some.mpr ⟨gR u,(kE u (by rw[Xx,X2];show(0:Nat)<_;decide)).mpr ?_⟩;have s:=o.hit A q;rw[U7 j]at s;refine H _ _ s (Hg j).symm (λc x e v w=>?_) λy g=>?_
  ·have hc:c<b.length:=(Xz.mp e).1;rw[XB (by show b.length≠c;lia),XB (Yn v)];exact k c x e
  ·rcases Yq.mp g with g|g
   ·exact .inl ⟨y,g,rfl⟩
   ·rw[XX.mp g];exact .inr (XJ _)
theorem U9{μ0 b:Hm}{a:Nat}{Z:Zr}(I:GI μ0 b a Z)(p q:Int×Int)(M:Z.length<1000)(G:∀z∈Z,z.2.1.length<1000)(Q:Hm->Prop)
  (H:∀s h,GI μ0 h a s->GZ s=dZ (GZ Z) p q->Bu a Z b h->(∀z∈s,(∃y∈Z,y.2.2=z.2.2)\/b.length<=z.2.2)->Q h) :
  W (iD (.loc a) [PP p,.loc b.length] (b++[.lst []])) λr=>W (bB r.1 (.loc r.2.length) (r.2++[.lst [PP q]])) λt=>W (oK (.loc a) (PP p) t.1 t.2) Q:=by
 have n:=I.more (aL b (C.lst []));have o:=n.more (aL _ (C.lst [PP q]));have E:=bA b (C.lst []);have A:=bA (b++[C.lst []]) (C.lst [PP q]);have L:μ0.length<=b.length:=I.pre.length_le;have k:∀z∈Z,z.2.2<b.length:=λz g=>(Xz.mp (I.at_ z g).2).1;have B:∀c x y,b[c]?=aX x->(((b++[C.lst []])++[C.lst [PP q]])++[C.lst y])[c]?=aX x:=λc x y e=>aE (((aL _ _).trans (aL _ _)).trans (aL _ _)) e;have j:(aM Z).length<XQ:=by rw[gM,X2];lia
 have m:((b++[C.lst []])++[C.lst [PP q]]).length=b.length+2:=by simp
 by_cases l:p∈Z.map (·.1)
 ·obtain⟨z,g,rfl⟩:=k6 l;simp only[iD,n.dic,bR,X3,jL I.kd g,Option.getD_some];refine W_some.mpr ((qM (o.at_ z g).2 A (by rw[Xx,X2];have:=G z g;simp;lia)).mpr ?_);have u:z.2.1.map PP++[PP q]=(z.2.1++[q]).map PP:=by rw[X4];rfl
  rw[u];have i:=o.more (aL _ (C.lst ((z.2.1++[q]).map PP)));have v:=bA ((b++[C.lst []])++[C.lst [PP q]]) (C.lst ((z.2.1++[q]).map PP));refine(gH i.dic (bR _) j).mpr ?_;refine H _ _ (i.swap g (qs:=z.2.1++[q]) v (by rw[m];lia) λy d=>by have:=k y d;rw[m];lia) (U5 g I.kd q _).symm (λc x e w K=>?_) λy d=>?_
  ·rw[XB (Yn w)];exact B c x _ e
  ·obtain⟨x,J,rfl⟩:=XH.mp d;split
   ·exact .inr (by dsimp only;lia)
   ·exact .inl ⟨x,J,rfl⟩
 ·simp only[iD,n.dic,bR,X3,wC l,a3A];refine W_some.mpr ((qM (aE (aL _ _) E) A (by rw[X2];show(1:Nat)<=_;decide)).mpr ?_);have u:([]:List D)++[PP q]=[q].map PP:=rfl;rw[u];have i:=o.more (aL _ (C.lst ([q].map PP)));have v:=bA ((b++[C.lst []])++[C.lst [PP q]]) (C.lst ([q].map PP));refine(gH i.dic (bR _) j).mpr ?_;refine H _ _ (i.new l (qs:=[q]) v (by rw[m];lia) λy d=>by have:=k y d;rw[m];lia) (Hg l).symm (λc x e w K=>?_) λy d=>?_
  ·rw[XB (Yn w)];exact B c x _ e
  ·rcases Yq.mp d with d|d
   ·exact .inl ⟨y,d,rfl⟩
   ·rw[XX.mp d];exact .inr (by dsimp only;lia)
noncomputable def cN(g:Int×Int->Int×Int)(qs:jq):Gr:=qs.foldl (λG q=>dZ G (g q) q) []
theorem Bv{g:Int×Int->Int×Int}{qs:jq}{i:Nat}{q:Int×Int}(h:qs[i]?=aX q):cN g (qs.take (i+1))=dZ (cN g (qs.take i)) (g q) q:=by unfold cN;rw[a6z,h,a3B];rfl
theorem Va(G:Gr)(p q:Int×Int):(dZ G p q).length<=G.length+1:=by unfold dZ;split<;>simp
theorem Vb{G:Gr}{p q:Int×Int}{n:Nat}(h:∀g∈G,g.2.length<=n):∀g∈dZ G p q,g.2.length<=n+1:=by
 intro g a;unfold dZ at a;split at a
 ·obtain⟨x,b,rfl⟩:=XH.mp a;have:=h x b;split
  ·simp;lia
  ·lia
 ·rcases Yq.mp a with a|a
  ·have:=h g a;lia
  ·rw[XX.mp a];simp
theorem sY(g:Int×Int->Int×Int)(qs:jq):(cN g qs).length<=qs.length/\∀x∈cN g qs,x.2.length<=qs.length:=by
 suffices ∀(qs:jq)(G:Gr)(n:Nat),G.length<=n->(∀x∈G,x.2.length<=n)->(qs.foldl (λG q=>dZ G (g q) q) G).length<=n+qs.length/\∀x∈qs.foldl (λG q=>dZ G (g q) q) G,x.2.length<=n+qs.length by have:=this qs [] 0 (XJ _) (λx c=>nomatch c);unfold cN;simpa using this
 intro qs;induction qs with
 |nil=>exact λG n b a=>⟨b,a⟩|cons q qs d=>intro G n b a;have:=d (dZ G (g q) q) (n+1) (by have:=Va G (g q) q;lia) (Vb a);rw[Ym,show n+(qs.length+1)=n+1+qs.length by lia];exact this
theorem eM(Z:Zr):(GZ Z).length=Z.length:=Xx ..
theorem Bw{Z:Zr}{G:Gr}{n:Nat}(e:GZ Z=G)(h:G.length<=n/\∀x∈G,x.2.length<=n):Z.length<=n/\∀z∈Z,z.2.1.length<=n:=by subst e;exact⟨by rw[<- eM];exact h.1,λz a=>h.2 (z.1,z.2.1) (XH.mpr ⟨z,a,rfl⟩)⟩
noncomputable def eA(k:Int)(p:Int×Int):Int:=if k=0 then p.2 else if k=1 then p.1 else if k=2 then p.1-p.2 else p.1+p.2
noncomputable def bE(k n:Int):Ly:=if k=0 then⟨1,0,0,-1,0,2*n⟩else if k=1 then⟨-1,0,0,1,2*n,0⟩else if k=2 then⟨0,1,1,0,n,-n⟩else⟨0,-1,-1,0,n,n⟩
theorem qN(k n:Int):Dih (bE k n):=by
 unfold bE;split
 ·exact .inl ⟨rfl,rfl,.inl rfl,.inr rfl⟩
 split
 ·exact .inl ⟨rfl,rfl,.inr rfl,.inl rfl⟩
 split
 ·exact .inr ⟨rfl,rfl,.inl rfl,.inl rfl⟩
 ·exact .inr ⟨rfl,rfl,.inr rfl,.inr rfl⟩
theorem sZ(k n:Int)(p:Int×Int):aI (bE k n) (aI (bE k n) p)=p:=by
 obtain⟨x,y⟩:=p;unfold bE aI;split
 ·refine YV ?_ ?_<;>dsimp only<;>lia
 split
 ·refine YV ?_ ?_<;>dsimp only<;>lia
 split
 ·refine YV ?_ ?_<;>dsimp only<;>lia
 ·refine YV ?_ ?_<;>dsimp only<;>lia
noncomputable def aO(G:Gr)(p:Int×Int):jq:=match G.find? (λg=>decide (g.1=p))with|some g=>g.2|none=>[]
noncomputable def eX(G:Gr)(p:Int×Int)(L:jq):Gr:=if(G.map (·.1)).contains p then G.map (λg=>if g.1=p then(g.1,L)else g)else G++[(p,L)]
theorem wG(p:Int×Int):aO [] p=[]:=rfl
theorem gW(g:(Int×Int)×jq)(G:Gr)(p:Int×Int):aO (g::G) p=if g.1=p then g.2 else aO G p:=by
 unfold aO;rw[a0D];by_cases e:g.1=p
 ·rw[if_pos e,decide_eq_true e]
 ·rw[if_neg e,decide_eq_false e]
theorem gZ{G:Gr}(a:(G.map (·.1)).Nodup){g:(Int×Int)×jq}(h:g∈G):aO G g.1=g.2:=by
 induction G with
 |nil=>cases h|cons x G b=>
  rw[XS,Yx]at a;rw[gW];rcases Yi.mp h with rfl|h
  ·exact if_pos rfl
  ·rw[if_neg (λe:x.1=g.1=>a.1 (by rw[e];exact XH.mpr ⟨g,h,rfl⟩)),b a.2 h]
theorem iU{G:Gr}{p:Int×Int}(h:p∉G.map (·.1)):aO G p=[]:=by
 induction G with
 |nil=>rfl|cons x G a=>rw[XS,Yi,not_or]at h;rw[gW,if_neg (λe=>h.1 e.symm),a h.2]
theorem Hj{G K:Gr}{p:Int×Int}(h:p∉G.map (·.1)):aO (G++K) p=aO K p:=by
 induction G with
 |nil=>rfl|cons x G a=>rw[XS,Yi,not_or]at h;rw[a0a,gW,if_neg (λe=>h.1 e.symm),a h.2]
theorem atG_append'{G K:Gr}{p:Int×Int}(h:p∈G.map (·.1)):aO (G++K) p=aO G p:=by
 induction G with
 |nil=>cases h|cons x G a=>
  rw[a0a,gW,gW];by_cases e:x.1=p
  ·rw[if_pos e,if_pos e]
  ·rw[if_neg e,if_neg e];rw[XS,Yi]at h;exact a (h.resolve_left λw=>e w.symm)
theorem Hk(G:Gr)(p:Int×Int)(L:jq):(eX G p L).map (·.1)=if(G.map (·.1)).contains p then G.map (·.1)else G.map (·.1)++[p]:=by
 unfold eX;split
 ·rw[Yc];refine Ye λg _=>?_;show(if g.1=p then(g.1,L)else g).1=g.1;split<;>rfl
 ·rw[X4];rfl
theorem Hl{G:Gr}{p:Int×Int}{L:jq}(a:(G.map (·.1)).Nodup):((eX G p L).map (·.1)).Nodup:=by
 rw[Hk];split
 ·exact a
 ·rename_i h;rw[Y5];exact⟨a,by simp,λx b y c e=>h (Yo.mpr (by rw[XX.mp c]at e;exact e▸b))⟩
theorem putG_mem{G:Gr}{p q:Int×Int}{L:jq}:q∈(eX G p L).map (·.1)↔q∈G.map (·.1)\/q=p:=by
 rw[Hk];split
 ·rename_i h;exact⟨.inl,λz=>z.elim id λe=>e▸Yo.mp h⟩
 ·rw[Yq,XX]
theorem wH(G:Gr)(p q:Int×Int)(L:jq):aO (eX G p L) q=if q=p then L else aO G q:=by
 unfold eX;split
 ·rename_i h;have h:=Yo.mp h;induction G with
  |nil=>cases h|cons x G d=>
   rw[XS,gW,gW];by_cases e:x.1=p
   ·rw[if_pos e];by_cases a:q=p
    ·rw[if_pos a,if_pos (by rw[e,a])]
    ·rw[if_neg a,if_neg (by show ¬ x.1=q;rw[e];exact λw=>a w.symm),if_neg (by rw[e];exact λw=>a w.symm)];by_cases b:p∈G.map (·.1)
     ·rw[d (Yo.mpr b) b,if_neg a]
     ·have:(G.map λg=>if g.1=p then(g.1,L)else g)=G:=by have w:(G.map λg=>if g.1=p then(g.1,L)else g)=G.map id:=Ye λg i=>if_neg λe=>b (XH.mpr ⟨g,i,e⟩);rw[w,a1G]
      rw[this]
   ·rw[if_neg e];rw[XS,Yi]at h;have c:=h.resolve_left λw=>e w.symm;rw[d (Yo.mpr c) c];by_cases a:x.1=q
    ·rw[if_pos a,if_pos a,if_neg (by rw[<- a];exact e)]
    ·rw[if_neg a,if_neg a]
 ·rename_i h;have h:p∉G.map (·.1):=λz=>h (Yo.mpr z);by_cases e:q=p
  ·rw[if_pos e,e,Hj h,gW,if_pos rfl]
  ·rw[if_neg e];by_cases b:q∈G.map (·.1)
   ·exact atG_append' b
   ·rw[Hj b,gW,if_neg (λw=>e w.symm),wG,iU b]
theorem Vc{G:Gr}{p:Int×Int}(h:aO G p≠[]):p∈G.map (·.1):=a3U λz=>h (iU z)
structure Pil(qs:jq)(f:Int×Int->Int×Int)(G:Gr):Prop where
 kd:(G.map (·.1)).Nodup
 ne:∀g∈G,g.2≠[]
 pm:∀p,(aO G p).Perm (qs.filter λq=>decide (f q=p))
theorem Pil.key{qs:jq}{f:Int×Int->Int×Int}{G:Gr}(h:Pil qs f G){p:Int×Int}:p∈G.map (·.1)↔∃q∈qs,f q=p:=by
 constructor
 ·intro d;obtain⟨g,c,rfl⟩:=XH.mp d;have a:=h.pm g.1;rw[gZ h.kd c]at a;obtain⟨q,b⟩:=a4M _ (h.ne g c);have:=Yp.mp (a.mem_iff.mp b);exact⟨q,this.1,of_decide_eq_true this.2⟩
 ·rintro⟨q,b,rfl⟩;refine Vc λe=>?_;have a:=h.pm (f q);rw[e]at a;have:q∈([]:jq):=a.mem_iff.mpr (Yp.mpr ⟨b,decide_eq_true rfl⟩);cases this
theorem Hn{g:Type}(a b:g->Bool)(hd:∀x,a x=b5->b x=b4):∀l:List g,(l.filter λx=>a x||b x).Perm (l.filter a++l.filter b)
 |[]=>.nil|x::l=>by
  have e:=Hn a b hd l;cases c:a x with
  |true=>rw[YD (by simp[c]),YD c,YE (by simp[hd x c])];exact e.cons x|false=>
   cases d:b x with
   |true=>rw[YD (by simp[d]),YE (by simp[c]),YD d];exact(e.cons x).trans List.perm_middle.symm|false=>rw[YE (by simp[c,d]),YE (by simp[c]),YE (by simp[d])];exact e
noncomputable def jM(mv:Int×Int->Bool)(G:Gr):Gr:=G.filter λg=>!mv g.1
noncomputable def fU(mv:Int×Int->Bool)(M:Int×Int->Int×Int)(G:Gr):Gr:=(G.filter λg=>mv g.1).map λg=>(M g.1,g.2.reverse)
noncomputable def fV(a:Bool)(S:Gr)(g:(Int×Int)×jq):Gr:=eX S g.1 (if a then aO S g.1++g.2 else g.2++aO S g.1)
noncomputable def oU(mv:Int×Int->Bool)(M:Int×Int->Int×Int)(a:Bool)(G:Gr):Gr:=(fU mv M G).foldl (fV a) (jM mv G)
theorem Bx{mv:Int×Int->Bool}(p:Int×Int):∀G:Gr,aO (jM mv G) p=if mv p then[]else aO G p
 |[]=>by cases mv p<;>rfl
 |g::G=>by
  have a:=Bx (mv:=mv) p G;unfold jM at a ⊢;rw[gW];cases h:mv g.1 with
  |true=>
   rw[YE (by simp[h]),a];by_cases e:g.1=p
   ·rw[<- e,h];rfl
   ·rw[if_neg e]
  |false=>
   rw[YD (by simp[h]),gW];by_cases e:g.1=p
   ·rw[if_pos e,if_pos e,<- e,h];rfl
   ·rw[if_neg e,if_neg e,a]
theorem By{mv:Int×Int->Bool}{M:Int×Int->Int×Int}(a:∀p,M (M p)=p)(p:Int×Int):∀G:Gr,aO (fU mv M G) p=if mv (M p)then(aO G (M p)).reverse else[]
 |[]=>by cases mv (M p)<;>rfl
 |g::G=>by
  have b:=By (mv:=mv) a p G;unfold fU at b ⊢;rw[gW];have hi:M g.1=p↔g.1=M p:=⟨λe=>by rw[<- e,a],λe=>by rw[e,a]⟩;cases h:mv g.1 with
  |true=>
   rw[YD (by simp[h]),XS,gW];by_cases e:g.1=M p
   ·rw[if_pos (hi.mpr e),if_pos e,<- e,h];rfl
   ·rw[if_neg (λw=>e (hi.mp w)),if_neg e,b]
  |false=>
   rw[YE (by simp[h]),b];by_cases e:g.1=M p
   ·rw[<- e,h];rfl
   ·rw[if_neg e]
theorem Ho(a:Bool):∀(K S:Gr),(K.map (·.1)).Nodup->(S.map (·.1)).Nodup->(∀g∈S,g.2≠[])->(∀g∈K,g.2≠[])->
  ((K.foldl (fV a) S).map (·.1)).Nodup/\(∀g∈K.foldl (fV a) S,g.2≠[])/\∀p,(aO (K.foldl (fV a) S) p).Perm (aO S p++aO K p)
 |[],S,_,hs,ns,_=>⟨hs,ns,λp=>by rw[wG,Yl];exact .refl _⟩|g::K,S,hk,hs,ns,nk=>by
  rw[XS,Yx]at hk;rw[a1K];have b:((fV a S g).map (·.1)).Nodup:=Hl hs;have i:∀x∈fV a S g,x.2≠[]:=λx c=>by
   have e:aO (fV a S g) x.1=x.2:=gZ b c;rw[<- e];unfold fV;rw[wH];have k:=nk g (X8 ..);split
   ·cases a
    ·exact λw=>k (a5j.mp w).1
    ·exact λw=>k (a5j.mp w).2
   ·rename_i d;have:x.1∈(fV a S g).map (·.1):=XH.mpr ⟨x,c,rfl⟩;rcases putG_mem.mp this with h|h
    ·obtain⟨y,j,l⟩:=XH.mp h;rw[<- l,gZ hs j];exact ns y j
    ·exact absurd h d
  obtain⟨m,n,o⟩:=Ho a K (fV a S g) hk.2 b i λx c=>nk x (X7 _ c);refine⟨m,n,λp=>(o p).trans ?_⟩;rw[gW];unfold fV;rw[wH];by_cases e:p=g.1
  ·rw[if_pos e,if_pos e.symm,e,iU hk.1,Yl];cases a
   ·exact List.perm_append_comm
   ·exact .refl _
  ·rw[if_neg e,if_neg (λw=>e w.symm)]
theorem Vd{qs:jq}{f:Int×Int->Int×Int}{G:Gr}(h:Pil qs f G){mv:Int×Int->Bool}{M:Int×Int->Int×Int}(d:∀p,M (M p)=p)(c:Bool) :
  Pil qs (λq=>if mv (f q)then M (f q)else f q) (oU mv M c G):=by
 have j:∀(l:List ((Int×Int)×jq)),l.Sublist G->(l.map (·.1)).Nodup:=λl v=>(v.map _).nodup h.kd;have o:((fU mv M G).map (·.1)).Nodup:=by
  have e:(fU mv M G).map (·.1)=((G.filter λg=>mv g.1).map (·.1)).map M:=by unfold fU;rw[Yc,Yc];rfl
  rw[e];exact a1I _ (λa b k w=>k (by rw[<- d a,w,d])) (j _ Zo)
 obtain⟨r,s,u⟩:=Ho c (fU mv M G) (jM mv G) o (j _ Zo) (λg m=>h.ne g (Yp.mp m).1) (λg m=>by
  obtain⟨y,x,rfl⟩:=XH.mp m;exact λw=>h.ne y (Yp.mp x).1 (List.reverse_eq_nil_iff.mp w))
 refine⟨r,s,λp=>(u p).trans ?_⟩;rw[Bx,By d];have e:(qs.filter λq=>decide ((if mv (f q)then M (f q)else f q)=p))=qs.filter λq=>(!mv (f q)&&decide (f q=p))||(mv (f q)&&decide (f q=M p)):=by
  congr 1;funext q;have hi:M (f q)=p↔f q=M p:=⟨λe=>by rw[<- e,d],λe=>by rw[e,d]⟩;cases mv (f q)with
  |true=>simp[hi]|false=>simp
 rw[e];refine List.Perm.trans ?_ (Hn _ _ (λq n=>?_) qs).symm
 ·refine List.Perm.append ?_ ?_
  ·cases i:mv p with
   |true=>rw[if_pos rfl,a0z.mpr];intro q _ w;rw[XG]at w;have e:=of_decide_eq_true w.2;rw[e,i]at w;exact X9 w.1|false=>
    rw[if_neg X9];have:(qs.filter λq=>!mv (f q)&&decide (f q=p))=qs.filter λq=>decide (f q=p):=by
     congr 1;funext q;by_cases e:f q=p
     ·simp[e,i]
     ·simp[e]
    rw[this];exact h.pm p
  ·cases i:mv (M p)with
   |true=>
    rw[if_pos rfl];have:(qs.filter λq=>mv (f q)&&decide (f q=M p))=qs.filter λq=>decide (f q=M p):=by
     congr 1;funext q;by_cases e:f q=M p
     ·simp[e,i]
     ·simp[e]
    rw[this];exact(a6A _).trans (h.pm (M p))
   |false=>rw[if_neg X9,a0z.mpr];intro q _ w;rw[XG]at w;have e:=of_decide_eq_true w.2;rw[e,i]at w;exact X9 w.1
 ·rw[XG]at n;simp only[Z1]at n;rw[n.1];rfl
theorem Ve{p:Int×Int}{u:Int}(a:0<=u/\u<4):atI [D.int p.2,.int p.1,.int (p.1-p.2),.int (p.1+p.2)] u=aX (.int (eA u p)):=by
 have:u=0\/u=1\/u=2\/u=3:=by lia
 rcases this with rfl|rfl|rfl|rfl<;>rfl
theorem tB(k:Nat)(p:Int×Int)(u:Int)(c:0<=u/\u<4)(b:Hm)(Q:jz)(H:∀a,b<+:a->Q (.int (eA u p),a)):W (f (k+1) "_law_value" [PP p,.int u] b) Q:=by rw[Uy];exact wA rfl (UX (UW rfl rfl ((c6 (bA _ _) (Ve c)).mpr (H _ (aL _ _)))))
theorem Vf{n u:Int}(a:0<=u/\u<4):atI [LD ⟨1,0,0,-1,0,2*n⟩,LD ⟨-1,0,0,1,2*n,0⟩,LD ⟨0,1,1,0,n,-n⟩,LD ⟨0,-1,-1,0,n,n⟩] u=aX (LD (bE u n)):=by
 have:u=0\/u=1\/u=2\/u=3:=by lia
 rcases this with rfl|rfl|rfl|rfl<;>rfl
theorem Hq(k:Nat)(u n:Int)(c:0<=u/\u<4)(b:Hm)(Q:jz)(H:∀a,b<+:a->Q (LD (bE u n),a)):W (f (k+1) "_law_mirror" [.int u,.int n] b) Q:=by rw[Uz];refine wA rfl (W_fin.mpr ?_);simp only[w_mRet,w_mOp,w_mLst,w_mTup,w_mCons,dS,fK,Tu,cL,c5,Y2,Za];refine⟨Bq,Bq,eL,?_⟩;refine(qM (aE (aL _ _) (bA _ _)) (bA _ _) (by show(4:Nat)<=XQ;decide)).mpr ?_;exact(c6 (bA _ _) (Vf c)).mpr (H _ (((aL _ _).trans (aL _ _)).trans (aL _ _)))
theorem wI(k:Nat)(A:Ly)(hA:Dih A)(p:Int×Int)(a:Hm)(Q:jz):W (f (k+1) "_law_led" [LD A,PP p] a) Q↔Q (PP (aI A p),a):=by obtain⟨b,c,d,e⟩:=hA.sm;rw[UA,W_fin];simp only[w_mSeq,w_mAsg,cL,w_gTup6,w_gTup2,Y2,Za,w_mRet,w_mTup,w_mCons,dS,w_mOp,c5,k5 b,k5 c,k5 d,k5 e,w_addI,eL,true_and];rfl
theorem Hr{xs a:List D}{b:Hm}{Q:jz}(h:xs≠[]/\a≠[]/\xs.length+a.length<=XQ):W (bB (.tup xs) (.tup a) b) Q↔Q (.tup (xs++a),b):=by simp only[bB];rw[if_pos h];exact W_some
theorem w_eqBl{a:Hm}{x y:Bool}{Q:jz}:W (aZ b4 (.bl x) (.bl y) a) Q↔Q (.bl (x==y),a):=W_some
theorem qO{b:aF}{a:Hm}{i j p q:Nat}{x y z w:Int}{Q:jz}(hi:aA i b a=aX (.int x,a))(c:aA j b a=aX (.int y,a))(d:aA p b a=aX (.int z,a))(e:aA q b a=aX (.int w,a))(g:-1<=x/\x<=1)(hz:-1<=z/\z<=1)(H:Q (.int (x*y+z*w),a)):W (aB bB (aB bU (aA i) (aA j)) (aB bU (aA p) (aA q)) b a) Q:=
 aN (a8 hi c ((k5 g).mpr (a8 d e ((k5 hz).mpr (w_addI.mpr H)))))
theorem Hs(k:Nat)(A B:Ly)(hA:Dih A)(hB:Dih B)(a:Hm)(Q:jz):W (f (k+1) "_law_then" [LD A,LD B] a) Q↔Q (LD (cD A B),a):=by
 obtain⟨b,c,d,g⟩:=hB.sm;have w:W (f (k+1) "_law_then" [LD A,LD B] a) λr=>r=(LD (cD A B),a):=by refine dG (UB k _ _ a) (w_mSeq.mpr (w_mAsg.mpr ⟨_,rfl,w_gTup6.mpr (w_mSeq.mpr (w_mAsg.mpr ⟨_,rfl,w_gTup6.mpr ?_⟩))⟩));dsimp only[Y2,Za];refine bJ (w_mTup.mpr (a7 (qO rfl rfl rfl rfl b c (a7 (qO rfl rfl rfl rfl b c (a7 (qO rfl rfl rfl rfl d g (a7 (qO rfl rfl rfl rfl d g ⟨_,rfl,by show(4:Nat)<=XQ;decide,?_⟩)))))))));refine cZ (aN ⟨_,rfl,w_mTup.mpr (a7 (aN (qO rfl rfl rfl rfl b c ⟨_,rfl,w_addI.mpr (a7 (aN (qO rfl rfl rfl rfl d g ⟨_,rfl,w_addI.mpr ⟨_,rfl,eL,(Hr ⟨by simp,by simp,by show(6:Nat)<=XQ;decide⟩).mpr rfl⟩⟩)))⟩)))⟩)
 obtain⟨r,e,rfl⟩:=w;rw[e];exact W_some
noncomputable def tD(ns:List Int)(i:Int):Int:=if i<ns.length then ns.getD i.toNat 0 else if ns=[]then(i+3)*(i+3)*48271 else(i+3)*(i+3)*48271+ns.getD (i%(ns.length:Int)).toNat 0*(i+5)
theorem Vg(k:Nat)(ns:List Int)(i:Int)(hi:0<=i/\i<=100)(c:Hm)(Q:jz)(H:∀b,c<+:b->Q (.int (tD ns i),b)):W (f (k+1) "_law_given" [.rol (ns.map D.int),.int i] c) Q:=by
 unfold tD at H;refine dG (Ut k _ _ c) (w_mSeq.mpr (w_mIfS.mpr (cM (a8 rfl rfl (w_ltI.mpr ⟨_,rfl,?_⟩)))));rw[Xx];by_cases h:i<ns.length
 ·rw[if_pos h]at H;rw[if_pos (decide_eq_true h)];exact w_mRet.mpr (a8 rfl rfl ((GX (GW hi.1 h)).mpr (H _ (Yw _))))
 ·rw[if_neg h]at H;rw[if_neg (by rw[decide_eq_false h];exact X9)];refine w_mNext.mpr (bJ (aN (aN (aN ⟨_,rfl,_,rfl,w_addI.mpr (aN ⟨_,rfl,_,rfl,w_addI.mpr ((j9 (.inl (by lia))).mpr ⟨_,rfl,(j9 (.inr (by decide))).mpr ?_⟩)⟩)⟩))));refine w_mRet.mpr (w_mIfE.mpr (cM (aN ⟨_,rfl,w_mLst.mpr ⟨_,rfl,Yu _,(UZ (bA _ _)).mpr ⟨_,rfl,?_⟩⟩⟩)));by_cases a:ns=[]
  ·rw[if_pos a]at H;rw[if_pos (show(ns==[])=b5 by rw[a];rfl)];exact⟨_,rfl,H _ (aL _ _)⟩
  ·have e:(ns==[])=false:=by
    cases ns with
    |nil=>exact absurd rfl a|cons=>rfl
   have g:0<ns.length:=a3g.mpr a;rw[if_neg a]at H;rw[if_neg (by show ¬ (ns==[])=b5;rw[e];exact X9)];have d:0<=i%(ns.length:Int)/\i%(ns.length:Int)<ns.length:=⟨a0F _ (by lia),a0c _ (by lia)⟩;refine aN ⟨_,rfl,aN (aN ⟨_,rfl,aN ⟨_,rfl,bD rfl (w_lenR.mpr ?_)⟩⟩)⟩;rw[Xx];refine(dY (by lia)).mpr ((GX (GW d.1 d.2)).mpr (aN ⟨_,rfl,_,rfl,w_addI.mpr ((j9 (.inr (by lia))).mpr (w_addI.mpr ?_))⟩));exact H _ (aL _ _)
noncomputable def wJ(ns:List Int)(i:Int):Int:=(tD ns i%1000003+7*i+3)*(tD ns i%1000003+7*i+3)*48271%2147483647
theorem Ht(k:Nat)(ns:List Int)(i:Int)(hi:0<=i/\i<=100)(b:Hm)(Q:jz)(H:∀a,b<+:a->Q (.int (wJ ns i),a)):W (f (k+2) "_law_number" [.rol (ns.map D.int),.int i] b) Q:=by
 refine dG (Uu (k+1) _ _ b) (bJ (aN (aN (aN (bD rfl (Vg k ns i hi _ _ λd c=>?_))))));unfold wJ at H;generalize tD ns i=v at H;have e:=a0F v (show(1000003:Int)≠0 by decide);have g:=a0c v (show(0:Int)<1000003 by decide);refine⟨_,rfl,(dY (by decide)).mpr (aN ⟨_,rfl,_,rfl,(j9 (.inl (by decide))).mpr (w_addI.mpr ⟨_,rfl,w_addI.mpr ?_⟩)⟩)⟩;refine cZ (aN (aN (aN ⟨_,rfl,_,rfl,(j9 (.inl ?_)).mpr ⟨_,rfl,(j9 (.inr (by decide))).mpr ⟨_,rfl,(dY (by decide)).mpr ?_⟩⟩⟩)))
 ·exact⟨by lia,by lia⟩
 ·exact H _ c
theorem tE(k:Nat)(ns:List Int)(i:Int)(hi:0<=i/\i<=100)(b:Hm)(Q:jz)(H:∀v a,0<=v->v<2147483647->b<+:a->Q (.int v,a)):W (f (k+2) "_law_number" [.rol (ns.map D.int),.int i] b) Q:=
 Ht k ns i hi b Q λa p=>H _ a (a0F _ (by decide)) (a0c _ (by decide)) p
noncomputable def Bz(x y:Int):Bool:=(x%4==2&&y%2==1)||(y%4==2&&x%2==1)
noncomputable def bF(w h:Int):jq:=(kF 1 (4*w-1).toNat (4*h-1).toNat).filter λp=>Bz p.1 p.2
theorem qP{w:Int}(h:1<=w/\w<=3):w∈[(1:Int),2,3]:=by
 have:w=1\/w=2\/w=3:=by lia
 rcases this with rfl|rfl|rfl<;>decide
noncomputable def qQ:List (List Int)->Bool
 |x::y::r=>HT.lexLt x y&&qQ (y::r)|_=>b5
theorem Vh:∀w∈[(1:Int),2,3],∀h∈[(1:Int),2,3],(bF w h).length<=36/\1<=(bF w h).length/\qQ ((bF w h).map bG)=true:=by decide +kernel
theorem nK:∀{l:List (List Int)},qQ l=b5->l.Pairwise λx y=>HT.lexLt x y=b5
 |[],_=>.nil|[x],_=>a5c _ _|x::y::r,h=>by
  unfold qQ at h;rw[XG]at h;have b:=nK h.2;refine a0x.mpr ⟨λz a=>?_,b⟩;rcases Yi.mp a with rfl|a
  ·exact h.1
  ·exact rZ _ _ _ h.1 ((a0x.mp b).1 z a)
theorem Vi{a b:List Int}(h:HT.lexLt a b=b5):HT.lexLt b a=false:=by
 cases e:HT.lexLt b a with
 |false=>rfl|true=>have:=rZ _ _ _ h e;rw[rY]at this;exact this.symm
noncomputable def Dc(c:Hm)(a:Nat)(b:jx):Prop:=c[a]?=aX (.dT b)\/c[a]?=aX (.dF b)
theorem dU{c:Hm}{a:Nat}{b:jx}{y d:D}{k:List Int}{Q:jz}(h:Dc c a b)(e:dR y=aX k)(g:bV b k=aX d):W (aJ (.loc a) y c) Q↔Q (d,c):=by
 have:aJ (.loc a) y c=aX (d,c):=by rcases h with h|h<;>simp only[aJ,h,e,XY,g,X3]
 rw[this];exact W_some
theorem BA{i:Nat}{g j:MS}{d:aF}{c:Hm}{a:Nat}{b:jx}{Q:Fl×aF×Hm->Prop}(h:d[i]?=aX (aX (.loc a)))(hc:c[a]?=aX (.dT b))
  (H:W (g d (c.set a (.dF b))) λr=>r.2.2[a]?=aX (.dF b)/\Q (r.1,r.2.1,r.2.2.set a (.dT b))):W (eV i g j d c) Q:=by
 have e:qB i d c=aX (a,b):=by simp only[qB,h,hc]
 unfold eV;rw[e];rw[W_bind];refine bI H λr q=>?_;rw[q.1];exact W_some.mpr q.2
theorem tF{i j:Nat}{body:MS}{v:MS}{m:aF}{h:Hm}{a:Nat}{b:jx}{Q:Fl×aF×Hm->Prop}(hi:m[i]?=aX (aX (.loc a)))(hc:h[a]?=aX (.dT b))(I:Nat->aF->Hm->Prop)
  (s:I 0 m (h.set a (.dF b)))(go:∀n k d g c,b[n]?=aX (k,d)->I n g c->W (body (g.set j (aX (.tup (k.map D.int)))) c) λp=>p.1=.nx/\I (n+1) p.2.1 p.2.2)
  (l:∀g c,I b.length g c->c[a]?=aX (.dF b)/\Q (.nx,g,c.set a (.dT b))):W (eV i (bW (fA (aA i)) (bP j) body) v m h) Q:=by
 refine BA hi hc ?_;have r:(h.set a (.dF b))[a]?=aX (.dF b):=bX hc;have hit:fA (aA i) m (h.set a (.dF b))=aX (cH (.tup (fJ b)),b.length+1,h.set a (.dF b)):=by simp only[fA,aA,hi,XY,r]
 rw[w_mForI,hit,W_some];refine mE (N:=b.length) I (λn g c u o=>?_) (λg c o=>⟨?_,l g c o⟩) b.length 0 m _ (by lia) s
 ·have e:b[n]?=aX (b[n].1,b[n].2):=XM u;refine⟨.tup (b[n].1.map D.int),_,?_,rfl,bI (go n _ _ g c e o) λp q=>?_⟩
  ·show aX ((fJ b)[n]?)=_;unfold fJ;rw[XR,e];rfl
  ·rw[q.1];exact q.2
 ·show aX ((fJ b)[b.length]?)=_;rw[ZC (by unfold fJ;simp)]
structure HI(μ:Hm)(a:Nat)(Z:Zr):Prop where
 dic:Dc μ a (aM Z)
 kd:(Z.map (·.1)).Nodup
 at_:∀z∈Z,μ[z.2.2]?=aX (.lst (z.2.1.map PP))
theorem Dc.more{d c:Hm}{a:Nat}{b:jx}(I:Dc d a b)(h:d<+:c):Dc c a b:=I.elim (λe=>.inl (aE h e)) λe=>.inr (aE h e)
theorem HI.more{c b:Hm}{a:Nat}{Z:Zr}(I:HI c a Z)(h:c<+:b):HI b a Z:=⟨I.dic.more h,I.kd,λz hz=>aE h (I.at_ z hz)⟩
theorem HI.ne{g:Hm}{a b:Nat}{d:jx}{Z:Zr}(I:HI g a Z)(h:Dc g b d){z:(Int×Int)×jq×Nat}(hz:z∈Z):z.2.2≠b:=λe=>by have c:=I.at_ z hz;rw[e]at c;rcases h with h|h<;>(rw[h]at c;cases c)
theorem HI.frz{d:Hm}{a b:Nat}{c:jx}{Z:Zr}(I:HI d a Z)(h:d[b]?=aX (.dT c)):HI (d.set b (.dF c)) a Z:=by
 refine⟨?_,I.kd,λz g=>by rw[XB (Yn (I.ne (.inl h) g))];exact I.at_ z g⟩;by_cases e:b=a
 ·subst e;have:c=aM Z:=by
   rcases I.dic with w|w
   ·rw[h]at w;injection w with w;injection w
   ·rw[h]at w;cases w
  rw[<- this];exact .inr (bX h)
 ·unfold Dc;rw[XB e];exact I.dic
theorem GI.hi{μ0 b:Hm}{a:Nat}{Z:Zr}(I:GI μ0 b a Z):HI b a Z:=⟨.inl I.dic,I.kd,λz hz=>(I.at_ z hz).2⟩
theorem tG{d c:Hm}{a:Nat}{b:jx}(hc:d[a]?=aX (.dT b))(h:d.set a (.dF b)<+:c):d<+:c.set a (.dT b):=by obtain⟨t,rfl⟩:=h;have e:a<d.length:=(Xz.mp hc).1;rw[a1E _ _ (by rw[YL];exact e),a2G,Bs hc];exact a2b _ _
theorem Hu{w h:Int}(hw:1<=w/\w<=6)(c:1<=h/\h<=6):(4*w-1).toNat*(4*h-1).toNat+(4*h-1).toNat<=900:=by
 have a:(4*w-1).toNat<=23:=by lia
 have b:(4*h-1).toNat<=23:=by lia
 have:=a1s a b;lia
theorem Hv(k:Nat)(w h:Int)(hw:1<=w/\w<=6)(b:1<=h/\h<=6)(a:Hm)(Q:jz)(H:Q (.loc a.length,a++[.lst ((bF w h).map PP)])):W (f (k+1) "_law_quarters" [.int w,.int h] a) Q:=by
 rw[Uv,W_fin];simp only[w_mSeq,w_mSet,w_mLst,dS];refine⟨Yu _,?_⟩;simp only[Y2,Za,w_mForI,w_iRng2,w_mCons,dS,fK,w_mOp,cL,c5,w_mul4];refine⟨by lia,?_⟩;refine Hc _ Bz _ _ _ _ 1 (4*h-1).toNat (λo1 c a Q=>?_) (λx y a Q=>?_) (4*w-1).toNat (Hu hw b) _ (bA _ _) _ λo1 c=>?_
 ·simp only[w_iRng2,w_mCons,dS,fK,w_mOp,cL,c5,w_mul4];exact and_iff_right (by lia)
 ·simp only[w_mOrT,w_mAndT,w_mTest,w_mOp,cL,c5,fK,sV,w_mod4,w_eqI,w_addI];unfold Bz;cases x%4==2<;>cases y%2==1<;>cases y%4==2<;>cases x%2==1<;>simp
 ·simp only[w_mRet,cL,c5];rw[Br];exact H
theorem Vj(k:Nat)(w h:Int)(hw:1<=w/\w<=3)(b:1<=h/\h<=3)(a:Hm)(Q:jz)(H:Q (.loc a.length,a++[.lst ((bF w h).map PP)])):W (f (k+1) "_law_quarters" [.int w,.int h] a) Q:=Hv k w h (by lia) (by lia) a Q H
theorem nM{i:Nat}{b:aF}{a:Hm}{d:D}{Q:jz}(h:b[i]?=aX (aX d)):W (aA i b a) Q↔Q (d,a):=by
 have:aA i b a=aX (d,a):=by simp only[aA,h]
 rw[this];exact W_some
theorem GI.thaw{μ0 c:Hm}{m b:Nat}{a:jx}{Z:Zr}(e:μ0[m]?=aX (.dT a))(I:GI (μ0.set m (.dF a)) c b Z):GI μ0 (c.set m (.dT a)) b Z:=by have j:m<μ0.length:=(Xz.mp e).1;have g:=I.lo;rw[YL]at g;refine⟨tG e I.pre,g,by rw[XB (by lia)];exact I.dic,I.kd,I.bd,λz i=>?_⟩;obtain⟨d,h⟩:=I.at_ z i;rw[YL]at d;exact⟨d,by rw[XB (by lia)];exact h⟩
theorem tH{Z:Zr}{n:Nat}{k:List Int}{d:D}(h:(aM Z)[n]?=aX (k,d)):∃z∈Z,Z[n]?=aX z/\k=bG z.1/\d=.loc z.2.2:=by unfold aM at h;rw[XR]at h;obtain⟨z,a,b⟩:=XA.mp h;cases b;exact⟨z,X6 a,a,rfl,rfl⟩
theorem eY{a:Type}{l:List a}{n:Nat}{x:a}(h:l[n]?=aX x):l.take (n+1)=l.take n++[x]:=by rw[a6z,h];rfl
theorem mJ{c:Type}{l:List c}(nd:l.Nodup){n:Nat}{x:c}(h:l[n]?=aX x):x∉l.take n:=λg=>by
 obtain⟨j,a⟩:=a0J.mp g;have b:j<n:=by have:=(Xz.mp a).1;rw[Zy]at this;lia
 rw[a4W b]at a;have i:n<l.length:=(Xz.mp h).1;have d:=(Xz.mp a).2;have e:=(Xz.mp h).2;exact absurd ((a6P nd).mp (d.trans e.symm)) (by lia)
theorem Vk{i j c:Nat}{h:aF}{m2:MS}{μ0 s:Hm}{m b:Nat}{Z:Zr}(hi:h[i]?=aX (aX (.loc m)))(hc:h[c]?=aX (aX (.loc b)))(K:h[j]?=aX aY)(ij:j≠i)(cj:j≠c)(r:μ0<+:s)(lo:μ0.length<=b)
  (gb:s[b]?=aX (.dT []))(v:μ0[m]?=aX (.dT (aM Z)))(Y:(Z.map (·.1)).Nodup)(A:∀z∈Z,μ0[z.2.2]?=aX (.lst (z.2.1.map PP)))(hZ:Z.length<=100)(hl:∀z∈Z,z.2.1.length<=100)(Q:Fl×aF×Hm->Prop)
  (H:∀E o a,GZ E=GZ Z->GI μ0 a b E->(∀z∈E,s.length<=z.2.2)->Q (.nx,h.set j o,a)) :
  W (eV i (bW (fA (aA i)) (bP j) (dN (aA c) (aA j) (aH oR (aC (aB aJ (aA i) (aA j)) aD)))) m2 h s) Q:=by
 have M:=aE r v;have N:m<μ0.length:=(Xz.mp v).1;have T:μ0.set m (.dF (aM Z))<+:s.set m (.dF (aM Z)):=by obtain⟨t,rfl⟩:=r;rw[a1E _ _ N];exact a2b _ _
 have L:h.set j aY=h:=by
  refine a1o λx=>?_;by_cases e:j=x
  ·subst e;rw[YA (Xz.mp K).1,K]
  ·rw[XB e]
 refine tF hi M (λn u a=>∃o l,u=h.set j o/\GZ l=(GZ Z).take n/\GI (μ0.set m (.dF (aM Z))) a b l/\(∀z∈l,s.length<=z.2.2)/\s.length<=a.length) ⟨aY,[],L.symm,rfl,⟨T,by rw[YL];exact lo,by rw[XB (by lia)];exact gb,ZF,ZF,λz q=>nomatch q⟩,(λz q=>nomatch q),by simp⟩ ?_ ?_
 ·rintro n k d u a hk ⟨o,l,rfl,w,I,O,g⟩;obtain⟨z,q,B,rfl,rfl⟩:=tH hk;rw[a2G];have v1:(h.set j (aX (D.tup ((bG z.1).map D.int))))[i]?=aX (aX (.loc m)):=by rw[XB ij];exact hi
  have v2:(h.set j (aX (D.tup ((bG z.1).map D.int))))[c]?=aX (aX (.loc b)):=by rw[XB cj];exact hc
  have v3:(h.set j (aX (D.tup ((bG z.1).map D.int))))[j]?=aX (aX (PP z.1)):=by rw[YA (Xz.mp K).1];rfl
  have G:(μ0.set m (.dF (aM Z)))[m]?=aX (.dF (aM Z)):=bX v;have gm:=aE I.pre G;have gz:a[z.2.2]?=aX (.lst (z.2.1.map PP)):=by refine aE I.pre ?_;rw[XB (λe=>by have:=A z q;rw[<- e,v]at this;cases this)];exact A z q
  simp only[w_mPut,w_mCall,w_mCons,dS,w_mOp,nM v1,nM v2,nM v3];refine(dU (.inr gm) (bR z.1) (jL Y q)).mpr ((T1 gz).mpr ?_);simp only[nM v2,nM v3];have U:=I.more (aL a (C.lst (z.2.1.map PP)));have J:l.length=((GZ Z).take n).length:=by rw[<- w,GZ,Xx]
  have X:l.length<=100:=by rw[J,Zy,GZ,Xx];lia
  refine(gH U.dic (bR z.1) (by rw[gM,X2];lia)).mpr ?_;have R:z.1∉l.map (·.1):=by rw[<- d9,w,a3l,d9];exact mJ Y (by rw[XR,B];rfl)
  have I2:=U.new R (qs:=z.2.1) (b:=a.length) (bA _ _) (Ys (by rw[YL];exact r.length_le) g) (λy p=>XU (Xz.mp (I.at_ y p).2).1);refine⟨trivial,aX (D.tup ((bG z.1).map D.int)),_,rfl,?_,I2,λy p=>?_,by simp;lia⟩
  ·rw[eY (x:=(z.1,z.2.1)) (by unfold GZ;rw[XR,B];rfl),<- w];unfold GZ;rw[X4];rfl
  ·rcases Yq.mp p with p|p
   ·exact O y p
   ·rw[XX.mp p];exact g
 ·rintro u a ⟨o,l,rfl,w,I,O,g⟩;have G:(μ0.set m (.dF (aM Z)))[m]?=aX (.dF (aM Z)):=bX v;refine⟨aE I.pre G,H l o _ ?_ (I.thaw v) O⟩;rw[w,Zx];rw[gM,GZ,Xx];exact XJ _
theorem Hw{a:Type}:∀xs:List a,(YN xs.length).filterMap (λi=>xs[i]?)=xs
 |[]=>rfl|x::xs=>by rw[Ym,a5h,ZR,List.filterMap_map];show x::(YN xs.length).filterMap (λi=>(x::xs)[i+1]?)=x::xs;simp only[a5d];rw[Hw xs]
noncomputable def Hx(n:Nat)(lo:Option Int):List Nat:=a5o (Z3 lo aY (aX 2) n).1 (Z3 lo aY (aX 2) n).2.1 (Z3 lo aY (aX 2) n).2.2
theorem Vl:∀n∈YN 64,((Hx n (aX 1))++Hx n aY).isPerm (YN n)=true:=by decide +kernel
theorem qR{a b:Type}(g:a->b)(xs:List a)(lo:Option Int):dM (xs.map g) lo aY (aX 2)=(dM xs lo aY (aX 2)).map g:=by unfold dM;rw[Xx,a6d];congr 1;funext i;rw[XR]
theorem uD{a:Type}(xs:List a)(h:xs.length<64):(dM xs (aX 1) aY (aX 2)++dM xs aY aY (aX 2)).Perm xs:=by have e:=(List.isPerm_iff.mp (Vl xs.length (Zs.mpr h))).filterMap λi=>xs[i]?;rw[Hw,ZD]at e;exact e
noncomputable abbrev aT(v:Int×Int->D)(ps:jq):jx:=ps.map λp=>(bG p,v p)
theorem fM{v:Int×Int->D}{ps:jq}(nd:ps.Nodup){p:Int×Int}(h:p∈ps):bV (aT v ps) (bG p)=aX (v p):=by refine Hd ?_ (XH.mpr ⟨p,h,rfl⟩);rw[Yc];exact a1I _ (λa b c x=>c (sX x)) nd
theorem qS{v:Int×Int->D}{ps:jq}{p:Int×Int}(h:p∉ps):bV (aT v ps) (bG p)=none:=by
 unfold bV;rw[a2d.mpr]
 ·rfl
 ·intro x a;obtain⟨z,b,rfl⟩:=XH.mp a;rw[decide_eq_true_iff];exact λe=>h (sX e▸b)
theorem tI{v:Int×Int->D}{ps:jq}{p:Int×Int}(h:p∉ps):dE (aT v ps) (bG p) (v p)=aT v (ps++[p]):=by unfold dE;rw[qS h,if_neg (by simp)];show _=List.map _ _;rw[X4];rfl
noncomputable def eF(ps:jq):jq:=(dJ (λi j=>HT.lexLt ((ps.map bG).getD i []) ((ps.map bG).getD j [])) ps.length).map λi=>ps.getD i (0,0)
theorem qT(ps:jq):(eF ps).Perm ps:=by have p:=(lW (λi j=>HT.lexLt ((ps.map bG).getD i []) ((ps.map bG).getD j [])) ps.length).map λi=>ps.getD i (0,0);rw[U4]at p;exact p
theorem Hy(v:Int×Int->D)(ps:jq):l9 (aT v ps)=aT v (eF ps):=by
 unfold l9 eF aT;have a:(ps.map λp=>(bG p,v p)).map (·.1)=ps.map bG:=by rw[Yc];rfl
 rw[a,Xx,Yc];refine Ye λi hi=>?_;have hi:i<ps.length:=Zs.mp ((lW _ _).mem_iff.mp hi);simp[Zz,hi]
theorem BB{b:Hm}{a:Nat}{v:Int×Int->D}{ps:jq}{Q:jz}(h:b[a]?=aX (.dT (aT v ps)))(h1:ps.length<64):W (j7 [.loc a] b) Q↔Q (.loc b.length,b++[.lst ((eF ps).map PP)]):=by rw[U6 h (by rw[Xx];exact h1) (λp c z=>by obtain⟨x,_,rfl⟩:=XH.mp c;cases z),Hy,Yc];rfl
theorem Vm{i j c l:Nat}{k:aF}{μ0 u:Hm}{a b:Nat}{v:Int×Int->D}{ps ks:jq}(hi:k[i]?=aX (aX (.loc a)))(hc:k[c]?=aX (aX (.loc b)))(w:k[j]?=aX aY)(L:j≠i)(I:j≠c)(B:μ0<+:u)(lo:μ0.length<=b)
  (G:u[b]?=aX (.dT []))(J:μ0[a]?=aX (.dT (aT v ps)))(gl:u[l]?=aX (.lst (ks.map PP)))(nd:ps.Nodup)(z:ks.Perm ps)(T:ps.length<=100)(Q:Fl×aF×Hm->Prop)
  (H:∀o g,μ0<+:g->g[b]?=aX (.dT (aT v ks))->Q (.nx,k.set j o,g)) :
  W (dD (cH (.loc l)) (bP j) (dN (aA c) (aA j) (aB aJ (aA i) (aA j))) ((ks.map PP).length+1) 0 k u) Q:=by
 have y:k.set j aY=k:=by
  refine a1o λx=>?_;by_cases e:j=x
  ·subst e;rw[YA (Xz.mp w).1,w]
  ·rw[XB e]
 have M:l≠b:=λe=>by rw[e,G]at gl;cases gl
 refine gQ (λn m g=>∃o,m=k.set j o/\μ0<+:g/\g[b]?=aX (.dT (aT v (ks.take n)))/\g[l]?=aX (.lst (ks.map PP))) ⟨aY,y.symm,B,G,gl⟩ (by rintro _ _ _ ⟨_,_,_,_,h⟩;exact h) ?_ ?_
 ·rintro n d m g hd ⟨o,rfl,s,p,E⟩;obtain⟨q,r,rfl⟩:=gU hd;have A:q∈ps:=z.mem_iff.mp (X6 r);refine⟨_,rfl,?_⟩;rw[a2G];have N:(k.set j (aX (PP q)))[i]?=aX (aX (.loc a)):=by rw[XB L];exact hi
  have O:(k.set j (aX (PP q)))[c]?=aX (aX (.loc b)):=by rw[XB I];exact hc
  have R:(k.set j (aX (PP q)))[j]?=aX (aX (PP q)):=by rw[YA (Xz.mp w).1]
  simp only[w_mPut,w_mOp,nM N,nM O,nM R];refine(dU (.inl (aE s J)) (bR q) (fM nd A)).mpr ?_;have U:n<ks.length:=(Xz.mp r).1;have K:=z.length_eq;refine(gH p (bR q) (by rw[Xx,Zy,X2];lia)).mpr ?_;refine⟨aX (PP q),rfl,cI s lo _,?_,by rw[XB (Yn M)];exact E⟩;rw[bX p,tI (mJ (z.nodup_iff.mpr nd) r),eY r]
 ·rintro m g ⟨o,rfl,s,p,E⟩;refine H o g s ?_;rw[Xx,YS]at p;exact p
theorem Hz(ps:jq):(eF ps).length=ps.length:=(qT ps).length_eq
theorem Vn{G:Gr}(b:(G.map (·.1)).Nodup)(p q:Int×Int):dZ G p q=eX G p (aO G p++[q]):=by
 unfold dZ eX;by_cases h:(G.map (·.1)).contains p=b5
 ·rw[if_pos h,if_pos h];refine Ye λg a=>?_;by_cases e:g.1=p
  ·rw[if_pos e,if_pos e,<- e,gZ b a]
  ·rw[if_neg e,if_neg e]
 ·rw[if_neg h,if_neg h,iU λw=>h (Yo.mpr w)];rfl
theorem HA(g:Int×Int->Int×Int):∀(qs:jq)(G:Gr),(G.map (·.1)).Nodup->((qs.foldl (λG q=>dZ G (g q) q) G).map (·.1)).Nodup/\∀p,aO (qs.foldl (λG q=>dZ G (g q) q) G) p=aO G p++qs.filter λq=>decide (g q=p)
 |[],G,kd=>⟨kd,λp=>by simp⟩|q::qs,G,kd=>by
  rw[a1K,Vn kd];obtain⟨a,b⟩:=HA g qs (eX G (g q) (aO G (g q)++[q])) (Hl kd);refine⟨a,λp=>?_⟩;rw[b,wH];by_cases e:p=g q
  ·subst e;rw[if_pos rfl,YD (by simp)];simp
  ·rw[if_neg e,YE (by simp;exact λw=>e w.symm)]
theorem groups_pil{g:Int×Int->Int×Int}{qs:jq}:Pil qs g (cN g qs):=by
 obtain⟨b,c⟩:=HA g qs [] ZF;refine⟨b,λx a e=>?_,λp=>by unfold cN;rw[c,wG];exact .refl _⟩
  -- no empty list is made
 have:∀(qs:jq)(G:Gr),(∀x∈G,x.2≠[])->∀x∈qs.foldl (λG q=>dZ G (g q) q) G,x.2≠[]:=λqs=>by
  induction qs with
  |nil=>exact λG h=>h|cons q qs i=>
   intro G h;rw[a1K];refine i _ λx a=>?_;unfold dZ at a;split at a
   ·obtain⟨y,d,rfl⟩:=XH.mp a;split
    ·simp
    ·exact h y d
   ·rcases Yq.mp a with a|a
    ·exact h x a
    ·rw[XX.mp a];simp
 exact this qs [] (λx a=>nomatch a) x a e
theorem Pil.of{qs ps:jq}{g:Int×Int->Int×Int}{G:Gr}(P:Pil qs g G)(h:qs.Perm ps):Pil ps g G:=⟨P.kd,P.ne,λp=>(P.pm p).trans (h.filter _)⟩
noncomputable def mK(Z:Zr)(p:Int×Int):D:=match Z.find? (λz=>decide (z.1=p))with|some z=>.loc z.2.2|none=>.non
theorem BC{Z:Zr}(a:(Z.map (·.1)).Nodup){z:(Int×Int)×jq×Nat}(h:z∈Z):mK Z z.1=.loc z.2.2:=by
 unfold mK;induction Z with
 |nil=>cases h|cons x Z b=>
  rw[XS,Yx]at a;rw[a0D];rcases Yi.mp h with rfl|h
  ·rw[decide_eq_true rfl]
  ·have e:decide (x.1=z.1)=false:=decide_eq_false λe=>a.1 (by rw[e];exact XH.mpr ⟨z,h,rfl⟩);rw[e];exact b a.2 h
theorem HB{Z:Zr}(b:(Z.map (·.1)).Nodup):aM Z=aT (mK Z) (Z.map (·.1)):=by unfold aM aT;rw[Yc];exact Ye λz a=>by show _=(bG z.1,mK Z z.1);rw[BC b a]
theorem HC{b:Hm}{a:Nat}{Z:Zr}{Q:jz}(c:(Z.map (·.1)).Nodup)(h:b[a]?=aX (.dT (aM Z)))(h1:Z.length<64):W (j7 [.loc a] b) Q↔Q (.loc b.length,b++[.lst ((eF (Z.map (·.1))).map PP)]):=by rw[HB c]at h;exact BB h (by rw[Xx];exact h1)
theorem nN{Z:Zr}(a:(Z.map (·.1)).Nodup){z:(Int×Int)×jq×Nat}(h:z∈Z):aO (GZ Z) z.1=z.2.1:=gZ (by rw[d9];exact a) (g:=(z.1,z.2.1)) (XH.mpr ⟨z,h,rfl⟩)
theorem Vo{Z:Zr}{d:D}(h:d∈fJ (aM Z)):∃p∈Z.map (·.1),d=PP p:=by obtain⟨c,a,rfl⟩:=XH.mp h;obtain⟨z,b,rfl⟩:=XH.mp a;exact⟨z.1,XH.mpr ⟨z,b,rfl⟩,rfl⟩
theorem Vp{i:Nat}{d:aF}{c:Hm}{a:Nat}{b:jx}(hi:d[i]?=aX (aX (.loc a)))(e:c[a]?=aX (.dF b)):fA (aA i) d c=aX (cH (.tup (fJ b)),b.length+1,c):=by simp only[fA,aA,hi,XY,e]
theorem BE(p:Int×Int):gJ (PP p)=p:=rfl
noncomputable def tJ(Z:Zr)(p:Int×Int):Nat:=match Z.find? (λz=>decide (z.1=p))with|some z=>z.2.2|none=>0
theorem HD{Z:Zr}(b:(Z.map (·.1)).Nodup){z:(Int×Int)×jq×Nat}(h:z∈Z):tJ Z z.1=z.2.2:=by
 have e:=BC b h;unfold mK at e;unfold tJ;split at e
 ·rename_i y a;try rw[a]
  injection e
 ·cases e
noncomputable def hG(Z:Zr)(ks:jq):Zr:=ks.map λp=>(p,aO (GZ Z) p,tJ Z p)
theorem wK(Z:Zr)(ks:jq):(hG Z ks).map (·.1)=ks:=by unfold hG;rw[Yc];exact a1G _
theorem BF{Z:Zr}(b:(Z.map (·.1)).Nodup){ks:jq}(c:ks.Perm (Z.map (·.1))){y:(Int×Int)×jq×Nat}(h:y∈hG Z ks):y∈Z:=by obtain⟨p,d,rfl⟩:=XH.mp h;obtain⟨z,a,rfl⟩:=k6 (c.mem_iff.mp d);rw[nN b a,HD b a];exact a
theorem Vq{Z:Zr}(b:(Z.map (·.1)).Nodup){ks:jq}(c:ks.Perm (Z.map (·.1))):aM (hG Z ks)=aT (mK Z) ks:=by unfold aM hG aT;rw[Yc];refine Ye λp d=>?_;obtain⟨z,a,rfl⟩:=k6 (c.mem_iff.mp d);show(bG z.1,D.loc (tJ Z z.1))=(bG z.1,mK Z z.1);rw[HD b a,BC b a]
theorem HE{Z:Zr}(d:(Z.map (·.1)).Nodup){ks:jq}(b:ks.Perm (Z.map (·.1)))(p:Int×Int):aO (GZ (hG Z ks)) p=aO (GZ Z) p:=by
 have a:((hG Z ks).map (·.1)).Nodup:=by rw[wK];exact b.nodup_iff.mpr d
 by_cases h:p∈ks
 ·have c:(p,aO (GZ Z) p,tJ Z p)∈hG Z ks:=XH.mpr ⟨p,h,rfl⟩;exact nN a c
 ·rw[iU (by rw[d9,wK];exact h),iU (by rw[d9];exact λw=>h (b.mem_iff.mpr w))]
theorem HF{c:Hm}{Z:Zr}(i:(Z.map (·.1)).Nodup)(a:∀z∈Z,c[z.2.2]?=aX (.lst (z.2.1.map PP))):∀Y:Zr,(∀y∈Y,c[y.2.2]?=aX (.lst (y.2.1.map PP))/\y.1∈Z.map (·.1)/\aO (GZ Z) y.1=y.2.1)->nC c (aM Z) (aM Y)=aX b5
 |[],_=>rfl|y::Y,h=>by have n:=HF i a Y λx m=>h x (X7 _ m);obtain⟨k,l,j⟩:=h y (X8 ..);obtain⟨z,g,e⟩:=k6 l;show(match bV (aM Z) (bG y.1)with|none=>aX b4|some d=>(cS 8 c (.loc y.2.2) d).bind λe=>(nC c (aM Z) (aM Y)).map λb=>e&&b)=aX b5;rw[<- e,jL i g,n];rw[<- e,nN i g]at j;dsimp only;rw[TQ k (a z g),j,beq_self_eq_true];rfl
theorem GI.mut{μ0 g:Hm}{a:Nat}{Z:Zr}(I:GI μ0 g a Z){z:(Int×Int)×jq×Nat}(hz:z∈Z)(L:jq) :
  GI μ0 (g.set z.2.2 (.lst (L.map PP))) a (Z.map λy=>if y.1=z.1 then(y.1,L,y.2.2)else y):=by
 have i:(Z.map λy=>if y.1=z.1 then(y.1,L,y.2.2)else y).map (·.1)=Z.map (·.1):=by rw[Yc];refine Ye λy _=>?_;show(if y.1=z.1 then(y.1,L,y.2.2)else y).1=y.1;split<;>rfl
 have h:(Z.map λy=>if y.1=z.1 then(y.1,L,y.2.2)else y).map (·.2.2)=Z.map (·.2.2):=by rw[Yc];refine Ye λy _=>?_;show(if y.1=z.1 then(y.1,L,y.2.2)else y).2.2=y.2.2;split<;>rfl
 have j:aM (Z.map λy=>if y.1=z.1 then(y.1,L,y.2.2)else y)=aM Z:=by unfold aM;rw[Yc];refine Ye λy _=>?_;show(bG (if y.1=z.1 then(y.1,L,y.2.2)else y).1,D.loc (if y.1=z.1 then(y.1,L,y.2.2)else y).2.2)=_;split<;>rfl
 refine⟨cI I.pre (I.at_ z hz).1 _,I.lo,?_,by rw[i];exact I.kd,by rw[h];exact I.bd,λy k=>?_⟩
 ·rw[j,XB (I.ne hz)];exact I.dic
 ·obtain⟨x,b,rfl⟩:=XH.mp k;obtain⟨c,d⟩:=I.at_ x b;by_cases e:x.1=z.1
  ·have:x=z:=Bt I.kd b hz e;subst this;rw[if_pos rfl];exact⟨c,bX d⟩
  ·rw[if_neg e];refine⟨c,?_⟩;rw[XB λw=>e (by rw[He I.bd b hz w.symm])];exact d
theorem qU{L:jq}{i:Int}{q:Int×Int}{j:Nat}(a:iH L.length i=aX j)(b:L[j]?=aX q):atI (L.map PP) i=aX (PP q):=by unfold atI;rw[Xx,a,XY,XR,b];rfl
theorem HG{K:jx}{k:List Int}{d:D}(h:bV K k=aY):dE K k d=K++[(k,d)]:=by unfold dE;rw[h,if_neg (by simp)]
theorem HH{K:jx}{k:List Int}{d e:D}(h:bV K k=aY):dE (K++[(k,d)]) k e=K++[(k,e)]:=by
 have b:∀p∈K,p.1≠k:=λp a w=>by unfold bV at h;rw[Option.map_eq_none_iff,a2d]at h;exact h p a (decide_eq_true w)
 have c:(bV (K++[(k,d)]) k).isSome=true:=by unfold bV;rw[a2f,List.find?_isSome];exact⟨(k,d),Yq.mpr (.inr (XX.mpr rfl)),decide_eq_true rfl⟩
 unfold dE;rw[if_pos c,X4];have:(K.map λp=>if p.1=k then(p.1,e)else p)=K:=by have w:(K.map λp=>if p.1=k then(p.1,e)else p)=K.map id:=Ye λp a=>if_neg (b p a);rw[w,a1G]
 rw[this];simp
noncomputable def cC(u n:Int)(a:Bool)(p:Int×Int):Bool:=decide (n<eA u p)==a
noncomputable def cU(u n:Int)(a:Bool)(F:Int×Int->Ly)(q:Int×Int):Ly:=if cC u n a (aI (F q) q)then cD (F q) (bE u n)else F q
theorem HJ{u n:Int}{a:Bool}{F:Int×Int->Ly}(b:∀q,Dih (F q))(q:Int×Int):Dih (cU u n a F q):=by
 unfold cU;split
 ·exact Bp (b q) (qN u n)
 ·exact b q
theorem Vr(u n:Int)(a:Bool)(F:Int×Int->Ly)(q:Int×Int):aI (cU u n a F q) q=if cC u n a (aI (F q) q)then aI (bE u n) (aI (F q) q)else aI (F q) q:=by
 unfold cU;split
 ·rw[mI]
 ·rfl
theorem HI.put{j:Hm}{s b:Nat}{Z:Zr}(I:HI j s Z)(d:j[s]?=aX (.dT (aM Z))){p:Int×Int}{L:jq}(i:j[b]?=aX (.lst (L.map PP))) :
  ∃h,dE (aM Z) (bG p) (.loc b)=aM h/\GZ h=eX (GZ Z) p L/\HI (j.set s (.dT (aM h))) s h:=by
 have bs:b≠s:=λe=>by rw[e,d]at i;cases i
 have k:((GZ Z).map (·.1)).Nodup:=by rw[d9];exact I.kd
 by_cases c:p∈Z.map (·.1)
 ·refine⟨Z.map λy=>if y.1=p then(y.1,L,b)else y,Hi c I.kd,?_,.inl (bX d),?_,λy a=>?_⟩
  ·unfold eX;rw[d9,if_pos (Yo.mpr c)];unfold GZ;rw[Yc,Yc];refine Ye λz _=>?_;show((if z.1=p then(z.1,L,b)else z).1,(if z.1=p then(z.1,L,b)else z).2.1)=if z.1=p then(z.1,L)else(z.1,z.2.1)
   split<;>rfl
  ·have e:(Z.map λy=>if y.1=p then(y.1,L,b)else y).map (·.1)=Z.map (·.1):=by rw[Yc];refine Ye λy _=>?_;show(if y.1=p then(y.1,L,b)else y).1=y.1;split<;>rfl
   rw[e];exact I.kd
  ·obtain⟨x,g,rfl⟩:=XH.mp a;split
   ·rw[XB (Yn bs)];exact i
   ·rw[XB (Yn (I.ne (.inl d) g))];exact I.at_ x g
 ·refine⟨Z++[(p,L,b)],Hh c,?_,.inl (bX d),?_,λy a=>?_⟩
  ·unfold eX;rw[d9,if_neg (λw=>c (Yo.mp w))];unfold GZ;rw[X4];rfl
  ·rw[X4,Y5];exact⟨I.kd,by simp,λx g y a e=>by
    simp only[XS,a0y,XX]at a;rw[e,a]at g;exact c g⟩
  ·rcases Yq.mp a with a|a
   ·rw[XB (Yn (I.ne (.inl d) a))];exact I.at_ y a
   ·rw[XX.mp a,XB (Yn bs)];exact i
theorem HI.off{d:Hm}{a s:Nat}{Z:Zr}{b:jx}(I:HI d a Z)(g:d[s]?=aX (.dT b))(h:a≠s)(c:C):HI (d.set s c) a Z:=by refine⟨?_,I.kd,λz e=>by rw[XB (Yn (I.ne (.inl g) e))];exact I.at_ z e⟩;unfold Dc;rw[XB (Yn h)];exact I.dic
theorem BG{G:Gr}{p:Int×Int}{L:jq}(h:p∉G.map (·.1)):eX G p L=G++[(p,L)]:=by unfold eX;rw[if_neg (λw=>h (Yo.mp w))]
theorem HK(mv:Int×Int->Bool)(G:Gr)(g:(Int×Int)×jq):jM mv (G++[g])=if mv g.1 then jM mv G else jM mv G++[g]:=by unfold jM;rw[Zb];cases h:mv g.1<;>simp[h]
theorem HL(mv:Int×Int->Bool)(M:Int×Int->Int×Int)(G:Gr)(g:(Int×Int)×jq):fU mv M (G++[g])=if mv g.1 then fU mv M G++[(M g.1,g.2.reverse)]else fU mv M G:=by unfold fU;rw[Zb,X4];cases h:mv g.1<;>simp[h]
theorem wL{c:Type} [DecidableEq c]:∀{l m:List c},l.Nodup->(∀x∈l,x∈m)->l.length<=m.length
 |[],_,_,_=>Yu _|x::l,m,h,hs=>by rw[Yx]at h;have a:=hs x (X8 ..);have d:=wL (l:=l) (m:=m.erase x) h.2 λy b=>(List.mem_erase_of_ne (λe:y=x=>h.1 (e▸b))).mpr (hs y (X7 _ b));rw[List.length_erase_of_mem a]at d;have:=a5i a;rw[Ym];lia
theorem Pil.len{qs:jq}{g:Int×Int->Int×Int}{G:Gr}(P:Pil qs g G):G.length<=qs.length/\∀x∈G,x.2.length<=qs.length:=by
 constructor
 ·have:=wL P.kd (m:=qs.map g) λp a=>by obtain⟨q,b,e⟩:=P.key.mp a;exact XH.mpr ⟨q,b,e⟩
  rw[Xx,Xx]at this;exact this
 ·intro x c;have:=(P.pm x.1).length_eq;rw[gZ P.kd c]at this;rw[this];exact YM _ _
theorem Pil.lenZ{qs:jq}{g:Int×Int->Int×Int}{Z:Zr}(P:Pil qs g (GZ Z)):Z.length<=qs.length/\∀z∈Z,1<=z.2.1.length/\z.2.1.length<=qs.length:=by obtain⟨a,c⟩:=P.len;unfold GZ at a;rw[Xx]at a;refine⟨a,λz d=>?_⟩;have b:(z.1,z.2.1)∈GZ Z:=XH.mpr ⟨z,d,rfl⟩;exact⟨a3g.mpr (P.ne _ b),c _ b⟩
theorem HM(a:Hm)(x:Bool):∀bs:List Bool,∃b,jX a (.bl x) (bs.map D.bl)=aX b
 |[]=>⟨_,rfl⟩|b::bs=>by obtain⟨c,e⟩:=HM a x bs;rw[XS];unfold jX;cases b<;>cases x<;>first|exact⟨_,rfl⟩|exact⟨c,e⟩|(rw[e];exact⟨_,rfl⟩)
theorem HN{c:Hm}{a:Nat}{bs:List Bool}(x:Bool)(h:c[a]?=aX (.lst (bs.map D.bl))):∃b,cB b5 (.bl x) (.loc a) c=aX (.bl b,c):=by obtain⟨b,e⟩:=HM c x bs;refine⟨!b,?_⟩;simp only[cB,h,kP,bK,XY,e,X3,if_true]
theorem qV{Z:Zr}{i:Nat}{z:(Int×Int)×jq×Nat}(h:Z[i]?=aX z):(GZ Z).take (i+1)=(GZ Z).take i++[(z.1,z.2.1)]:=eY (by unfold GZ;rw[XR,h];rfl)
theorem cV{b:Bool}{P Q:Prop}(h:b=b4)(q:Q):if b=b5 then P else Q:=by rw[h];exact q
theorem c4{b:Bool}{P Q:Prop}(h:b=b5)(q:P):if b=b5 then P else Q:=by rw[h];exact q
theorem HP{a:Hm}{s:Nat}{Z:Zr}(I:HI a s Z)(h:a[s]?=aX (.dT (aM Z)))(p:Int×Int):∃c,iD (.loc s) [PP p,.loc a.length] (a++[C.lst []])=aX (.loc c,a++[C.lst []])/\(a++[C.lst []])[c]?=aX (.lst ((aO (GZ Z) p).map PP)):=by
 have g:=aL a (C.lst []);by_cases b:p∈Z.map (·.1)
 ·obtain⟨t,d,e⟩:=k6 b;refine⟨t.2.2,?_,?_⟩
  ·simp only[iD,aE g h,bR,X3];rw[<- e,jL I.kd d];rfl
  ·rw[<- e,nN I.kd d];exact aE g (I.at_ t d)
 ·refine⟨a.length,?_,?_⟩
  ·simp only[iD,aE g h,bR,X3];rw[wC b];rfl
  ·rw[iU (by rw[d9];exact b)];exact bA _ _
theorem Vs{G:Gr}{p:Int×Int}{L:jq}{y:(Int×Int)×jq}(h:y∈eX G p L):y∈G\/y.2=L:=by
 unfold eX at h;split at h
 ·obtain⟨t,a,e⟩:=XH.mp h;split at e
  ·rw[<- e];exact .inr rfl
  ·rw[<- e];exact .inl a
 ·rcases Yq.mp h with h|h
  ·exact .inl h
  ·rw[XX.mp h];exact .inr rfl
theorem HQ{c:Hm}{a:Nat}{b:jx}(e:c[a]?=aX (.dT b)){d:Hm}(p:c<+:d):c.set a (.dF b)<+:d.set a (.dF b):=by obtain⟨t,rfl⟩:=p;rw[a1E _ _ (Xz.mp e).1];exact a2b _ _
theorem oV{d:Hm}{a c:Nat}{b:jx}(g:d[a]?=aX (.dT b))(h:d.length<=c)(x:C)(e:Hm):(e.set a x)[c]?=e[c]?:=XB (XU (Yh (Xz.mp g).1 h))
section
variable{u n:Int}{a o:Bool}{m2:MS}{Z:Zr}{μ:Hm}{h:Nat}
theorem Vt(k:Nat)(R:0<=u/\u<4){F:Int×Int->Ly}(J:∀q,Dih (F q)){qs:jq}(nd:qs.Nodup)(N:qs.length<=100){w:Nat}(hw:μ[w]?=aX (.dT (aT (λq=>LD (F q)) qs))){v y z A:Option D}{xs:List (Option D)}(Q:Fl×aF×Hm->Prop)
  (H:∀x b,μ<+:b->b[μ.length]?=aX (.dT (aT (λq=>LD (cU u n a F q)) qs))->Q (.nx,aX (.loc w)::v::aX (.int u)::aX (.int n)::aX (.bl a)::y::z::A::aX (LD (bE u n))::aX (.loc μ.length)::x::xs,b)) :
  W (eV 0 (bW (fA (aA 0)) (bP 10) (Gy (k+1))) m2 (aX (.loc w)::v::aX (.int u)::aX (.int n)::aX (.bl a)::y::z::A::aX (LD (bE u n))::aX (.loc μ.length)::aY::xs) (μ++[.dT []])) Q:=by
 have I:(μ.set w (.dF (aT (λq=>LD (F q)) qs)))[w]?=aX (.dF (aT (λq=>LD (F q)) qs)):=bX hw;have L:(μ.set w (.dF (aT (λq=>LD (F q)) qs))).length<=μ.length:=a1W YL;refine tF rfl (aE (aL _ _) hw) (λi c b=>∃x,c=aX (.loc w)::v::aX (.int u)::aX (.int n)::aX (.bl a)::y::z::A::aX (LD (bE u n))::aX (.loc μ.length)::x::xs/\μ.set w (.dF (aT (λq=>LD (F q)) qs))<+:b/\b[μ.length]?=aX (.dT (aT (λq=>LD (cU u n a F q)) (qs.take i))))
  ⟨aY,rfl,HQ hw (aL _ _),by rw[oV hw (XJ _)];exact bA _ _⟩ ?_ ?_
 ·rintro i U d c b K ⟨x,rfl,p,g⟩;rw[XR]at K;obtain⟨q,r,e⟩:=XA.mp K;cases e;have s:∀{B:Hm}{Q:jz},μ.set w (.dF (aT (λq=>LD (F q)) qs))<+:B->Q (LD (F q),B)->W (aJ (.loc w) (PP q) B) Q:=λO h=>(dU (.inr (aE O I)) (bR q) (fM nd (X6 r))).mpr h;have M:bV (aT (λq=>LD (cU u n a F q)) (qs.take i)) (bG q)=none:=qS (mJ nd r);have lt:(qs.take i).length<=100:=Ys (YK _ _) N;have E:aT (λq=>LD (cU u n a F q)) (qs.take (i+1))=aT (λq=>LD (cU u n a F q)) (qs.take i)++[(bG q,LD (cU u n a F q))]:=by rw[eY r,aT,X4];rfl
  refine w_mSeq.mpr (w_mPut.mpr (a8 rfl rfl (s p ⟨_,rfl,_,rfl,(gH g (bR q) (by rw[Xx,X2];lia)).mpr ?_⟩)));rw[HG M];have j:=cI p L (C.dT (aT (λq=>LD (cU u n a F q)) (qs.take i)++[(bG q,LD (F q))]));have G:=bX (c':=C.dT (aT (λq=>LD (cU u n a F q)) (qs.take i)++[(bG q,LD (F q))])) g;generalize b.set μ.length (C.dT (aT (λq=>LD (cU u n a F q)) (qs.take i)++[(bG q,LD (F q))]))=μ2 at j G;refine w_mIfS.mpr (cM (aN (aN (c7 (a7 (c7 (a7 (a8 rfl rfl (s j ⟨_,rfl,(wI k (F q) (J q) q _ _).mpr ⟨_,rfl,tB k _ u R _ _ λT l=>⟨_,rfl,w_gtI.mpr ⟨_,rfl,w_eqBl.mpr ⟨_,rfl,?_⟩⟩⟩⟩⟩)))))))));have m:=aE l G;cases hc:cC u n a (aI (F q) q)with
  |true=>refine c4 hc (w_mPut.mpr (c7 (a7 (a8 rfl rfl (s (j.trans l) ⟨_,rfl,(Hs k (F q) (bE u n) (J q) (qN u n) _ _).mpr ⟨_,rfl,_,rfl,(gH m (bR q) (by rw[XI,Xx,X2];show _+1<_;lia)).mpr ⟨rfl,_,rfl,cI (j.trans l) L _,?_⟩⟩⟩)))));rw[bX m,HH M,E,cU,if_pos hc]|false=>refine cV hc (w_mNext.mpr ⟨rfl,_,rfl,j.trans l,?_⟩);rw[m,E,cU,if_neg (by rw[hc];exact X9)]
 ·rintro c b ⟨x,rfl,p,g⟩;rw[Xx,YS]at g;exact⟨aE p I,H x _ (tG hw p) (by rw[oV hw (XJ _)];exact g)⟩
theorem HI.thaw{d:Hm}{c b:Nat}{e:jx}{Y:Zr}(J:HI d c Y)(g:d[b]?=aX (.dF e))(hc:c≠b)(x:C):HI (d.set b x) c Y:=by refine⟨?_,J.kd,λz i=>by rw[XB (Yn (J.ne (.inr g) i))];exact J.at_ z i⟩;unfold Dc;rw[XB (Yn hc)];exact J.dic
theorem Vu(k:Nat)(hu:0<=u/\u<4)(I:HI μ h Z)(g:μ[h]?=aX (.dT (aM Z)))(hl:Z.length<=100){m:Hm}{s:Nat}(X:μ<+:m)(ls:μ.length<=s)(gs:m[s]?=aX (.dT []))(gg:m[s+1]?=aX (.dT [])){x0 x5 x6 x7 x9 q r:Option D}(Q:Fl×aF×Hm->Prop)
  (H:∀x S G b,μ<+:b->HI b s S->b[s]?=aX (.dT (aM S))->GZ S=jM (cC u n a) (GZ Z)->HI b (s+1) G->b[s+1]?=aX (.dT (aM G))->GZ G=fU (cC u n a) (aI (bE u n)) (GZ Z)->Q (.nx,[x0,aX (.loc h),aX (.int u),aX (.int n),aX (.bl a),x5,x,x7,aX (LD (bE u n)),x9,q,aX (.loc s),aX (.loc (s+1)),r],b)) :
  W (eV 1 (bW (fA (aA 1)) (bP 6) (Gz (k+1))) m2 [x0,aX (.loc h),aX (.int u),aX (.int n),aX (.bl a),x5,x6,x7,aX (LD (bE u n)),x9,q,aX (.loc s),aX (.loc (s+1)),r] m) Q:=by
 have IF:=I.frz g;have l0:(μ.set h (.dF (aM Z))).length<=s:=by rw[YL];exact ls
 have gF:(μ.set h (.dF (aM Z)))[h]?=aX (.dF (aM Z)):=bX g;have O:∀{c:Nat}{m:Hm},m[c]?=aX (.dT [])->HI m c []:=λe=>⟨.inl e,ZF,λz J=>nomatch J⟩;have M:(m.set h (.dF (aM Z)))[s]?=aX (.dT []):=(oV g ls _ _).trans gs;have L:(m.set h (.dF (aM Z)))[s+1]?=aX (.dT []):=(oV g (by lia) _ _).trans gg;refine tF rfl (aE X g) (λi A b=>∃x S G,A=[x0,aX (.loc h),aX (.int u),aX (.int n),aX (.bl a),x5,x,x7,aX (LD (bE u n)),x9,q,aX (.loc s),aX (.loc (s+1)),r]/\μ.set h (.dF (aM Z))<+:b /\
  HI b s S/\b[s]?=aX (.dT (aM S))/\GZ S=jM (cC u n a) ((GZ Z).take i)/\HI b (s+1) G/\b[s+1]?=aX (.dT (aM G))/\GZ G=fU (cC u n a) (aI (bE u n)) ((GZ Z).take i)) ⟨x6,[],[],rfl,HQ g X,O M,M,rfl,O L,L,rfl⟩ ?_ ?_
 ·rintro i kk d A b hk ⟨x,S,G,rfl,K,IS,g1,E,Y,g2,B⟩;obtain⟨z,J,R,rfl,rfl⟩:=tH hk;have et:=qV R;have T:z.1∉((GZ Z).take i).map (·.1):=by rw[a3l,d9];exact mJ I.kd (by rw[XR,R];rfl)
  have lt:((GZ Z).take i).length<=100:=Ys (YK _ _) (by rw[eM];exact hl);refine w_mIfS.mpr (cM (aN (aN (bD rfl (tB k _ u hu _ _ λv l=>⟨_,rfl,w_gtI.mpr ⟨_,rfl,w_eqBl.mpr ⟨_,rfl,?_⟩⟩⟩)))));replace l:b<+:v:=l;have j:=IF.more (K.trans l);have q13:=K.trans l;cases hc:cC u n a z.1 with
  |true=>
   have lG:G.length<=100:=by rw[<- eM,B,fU,Xx];exact Ys (YM _ _) lt
   refine c4 hc (w_mPut.mpr (c7 (a7 (a8 rfl rfl ((dU j.dic (bR z.1) (jL I.kd J)).mpr ⟨_,rfl,(T3 (j.at_ z J)).mpr ⟨_,rfl,bD rfl ((wI k (bE u n) (qN u n) z.1 _ _).mpr ?_)⟩⟩)))));have U:=l.trans (aL v (C.lst (z.2.1.map PP).reverse));have g4:=aE U g2;obtain⟨G',e1,e2,I4⟩:=(Y.more U).put g4 (p:=aI (bE u n) z.1) (L:=z.2.1.reverse) (b:=v.length) (by rw[a3S];exact bA _ _);refine(gH g4 (bR _) (by rw[gM,X2];lia)).mpr ?_;rw[e1];refine⟨rfl,_,S,G',rfl,cI (K.trans U) (by lia) _,(IS.more U).off g4 (by lia) _,by rw[XB (by lia)];exact aE U g1,by rw[et,HK,if_pos hc];exact E,I4,bX g4,?_⟩;rw[et,HL,if_pos hc,e2,B,BG];intro w;obtain⟨y,hy,ey⟩:=XH.mp w;obtain⟨y',hy',rfl⟩:=XH.mp hy;have:y'.1=z.1:=by rw[<- sZ u n y'.1,show aI (bE u n) y'.1=aI (bE u n) z.1 from ey,sZ]
   exact T (this▸XH.mpr ⟨y',(Yp.mp hy').1,rfl⟩)
  |false=>
   have lS:S.length<=100:=by rw[<- eM,E,jM];exact Ys (YM _ _) lt
   have N:¬ cC u n a z.1=true:=by rw[hc];exact X9
   have g3:=aE l g1;obtain⟨S',e1,e2,I4⟩:=(IS.more l).put g3 (p:=z.1) (j.at_ z J);refine cV hc (w_mPut.mpr (a8 rfl rfl ((dU j.dic (bR z.1) (jL I.kd J)).mpr ⟨_,rfl,_,rfl,(gH g3 (bR z.1) (by rw[gM,X2];lia)).mpr ?_⟩)));rw[e1];refine⟨rfl,_,S',G,rfl,cI q13 l0 _,I4,bX g3,?_,(Y.more l).off g3 (by lia) _,by rw[XB (by lia)];exact aE l g2,by rw[et,HL,if_neg N];exact B⟩;rw[et,HK,if_neg N,e2,E,BG];intro w;obtain⟨y,hy,ey⟩:=XH.mp w;exact T (ey▸XH.mpr ⟨y,(Yp.mp hy).1,rfl⟩)
 ·rintro A b ⟨x,S,G,rfl,K,IS,g1,E,Y,g2,B⟩;have p:=aE K gF;have hhl:=(Xz.mp g).1;rw[Zx (by rw[gM,eM];exact XJ _)]at E B;exact⟨p,H x S G _ (tG g K) (IS.thaw p (by lia) _) ((oV g ls _ _).trans g1) E (Y.thaw p (by lia) _) ((oV g (by lia) _ _).trans g2) B⟩
theorem Vv{s:Nat}{k G:Zr}{w:Hm}(IS0:HI w s k)(hs:w[s]?=aX (.dT (aM k)))(IG:HI w (s+1) G)(hg:w[s+1]?=aX (.dT (aM G)))(lS:k.length+G.length<=100)(ll:∀z∈k,z.2.1.length<=100)(lg:∀z∈G,z.2.1.length<=100){O R T U X x6 Y x8 x9 g:Option D}
  (pre:μ<+:w)(ls:μ.length<=s)(Q:Fl×aF×Hm->Prop)(H:∀x y S b,μ<+:b->HI b s S->b[s]?=aX (.dT (aM S))->GZ S=(GZ G).foldl (fV o) (GZ k)->Q (.nx,[O,R,T,U,X,aX (.bl o),x,Y,x8,x9,g,aX (.loc s),aX (.loc (s+1)),y],b)) :
  W (eV 12 (bW (fA (aA 12)) (bP 6) GA) m2 [O,R,T,U,X,aX (.bl o),x6,Y,x8,x9,g,aX (.loc s),aX (.loc (s+1)),aY] w) Q:=by
 have IF:=IG.frz hg;refine tF rfl hg (λi r b=>∃x y S,r=[O,R,T,U,X,aX (.bl o),x,Y,x8,x9,g,aX (.loc s),aX (.loc (s+1)),y]/\μ<+:b/\HI b s S/\b[s]?=aX (.dT (aM S))/\GZ S=((GZ G).take i).foldl (fV o) (GZ k)/\S.length<=k.length+i/\(∀z∈S,z.2.1.length<=100+100*i)/\HI b (s+1) G/\b[s+1]?=aX (.dF (aM G)))
  ⟨x6,aY,k,rfl,cI pre (by lia) _,IS0.frz hg,by rw[XB (by lia)];exact hs,rfl,by lia,λz v=>by have:=ll z v;lia,IF,bX hg⟩ ?_ ?_
 ·rintro i kk d r b hk ⟨x,y,S,rfl,p1,A,I,eS,l1,l2,IG1,gF⟩;obtain⟨z,v,J,rfl,rfl⟩:=tH hk;have hil:=(Xz.mp J).1;have lz:=lg z v;obtain⟨c,e1,E⟩:=HP A I z.1;refine bJ (wD ⟨_,rfl,wF I,w_mCons.mpr ⟨_,rfl,w_mCons.mpr (w_mLst.mpr ⟨_,rfl,Yu _,_,rfl,_,e1,w_mPut.mpr (w_mIfE.mpr (mH ⟨_,rfl,rfl,?_⟩))⟩)⟩⟩);have M:=aL b (C.lst []);have B:=A.more M;have g2:=aE M I;have l:=IG1.more M;have p:=aE M gF;have K:=p1.trans M;generalize b++[C.lst []]=μ2 at E B g2 l p K;have la:(aO (GZ S) z.1).length<=100+100*i:=by
   by_cases hp:z.1∈S.map (·.1)
   ·obtain⟨t,ht,e⟩:=k6 hp;rw[<- e,nN A.kd ht];exact l2 t ht
   ·rw[iU (by rw[d9];exact hp)];exact Yu _
  have m:∀L:jq,fV o (GZ S) (z.1,z.2.1)=eX (GZ S) z.1 L->L.length<=100+100*(i+1)->W (oK (.loc s) (PP z.1) (.loc μ2.length) (μ2++[.lst (L.map PP)])) λj=>True/\∃x y S,[O,R,T,U,X,aX (.bl o),aX (PP z.1),Y,x8,x9,g,aX (.loc s),aX (.loc (s+1)),aX (.loc c)]=[O,R,T,U,X,aX (.bl o),x,Y,x8,x9,g,aX (.loc s),aX (.loc (s+1)),y]/\μ<+:j/\HI j s S/\j[s]?=aX (.dT (aM S))/\GZ S=((GZ G).take (i+1)).foldl (fV o) (GZ k)/\S.length<=k.length+(i+1)/\(∀z∈S,z.2.1.length<=100+100*(i+1))/\HI j (s+1) G/\j[s+1]?=aX (.dF (aM G)):=λL eo lL=>by
   have N:=aL μ2 (C.lst (L.map PP));have g3:=aE N g2;obtain⟨S',e3,e4,I4⟩:=(B.more N).put g3 (p:=z.1) (bA _ _);refine(gH g3 (bR z.1) (by rw[gM,X2];lia)).mpr ?_;rw[e3];refine⟨trivial,_,_,S',rfl,cI (K.trans N) ls _,I4,bX g3,?_,?_,λy hy=>?_,(l.more N).off g3 (by lia) _,by rw[XB (by lia)];exact aE N p⟩
   ·rw[qV J,a3B,<- eS,e4,<- eo];rfl
   ·rw[<- eM,e4,eX];split
    ·rw[Xx,eM];lia
    ·rw[XI,eM];show _+1<=_;lia
   ·have hy':(y.1,y.2.1)∈eX (GZ S) z.1 L:=by rw[<- e4];exact XH.mpr ⟨y,hy,rfl⟩
    rcases Vs hy' with h|h
    ·obtain⟨t,ht,e⟩:=XH.mp h;have:=l2 t ht;have E:t.2.1=y.2.1:=congrArg (·.2) e;rw[<- E];lia
    ·rw[show y.2.1=L from h];exact lL
  have it:∀{Q:jz},Q (.loc z.2.2,μ2)->W (aJ (.loc (s+1)) (PP z.1) μ2) Q:=λh=>(dU (.inr p) (bR z.1) (jL IG.kd v)).mpr h;cases o with
  |true=>refine c4 rfl (aN ⟨_,rfl,a8 rfl rfl (it ((qM E (l.at_ z v) (by rw[Xx,Xx,X2];lia)).mpr ⟨_,rfl,_,rfl,?_⟩))⟩);have:=m (aO (GZ S) z.1++z.2.1) rfl (by rw[XI];lia);rw[X4]at this;exact bI this λ_ q=>⟨rfl,q.2⟩|false=>refine cV rfl (aN (a8 rfl rfl (it ⟨_,rfl,(qM (l.at_ z v) E (by rw[Xx,Xx,X2];lia)).mpr ⟨_,rfl,_,rfl,?_⟩⟩)));have:=m (z.2.1++aO (GZ S) z.1) rfl (by rw[XI];lia);rw[X4]at this;exact bI this λ_ q=>⟨rfl,q.2⟩
 ·rintro r b ⟨x,y,S,rfl,p1,A,I,eS,_,_,_,gF⟩;rw[gM,Zx (by rw[eM];exact XJ _)]at eS;exact⟨gF,H x y S _ (cI p1 (by lia) _) (A.thaw gF (by lia) _) (by rw[XB (by lia)];exact I) eS⟩
end
theorem Vx(k:Nat){g:Hm}{w h:Nat}{u n:Int}{a o:Bool}(L:0<=u/\u<4){F:Int×Int->Ly}(N:∀q,Dih (F q)){qs:jq}(nd:qs.Nodup)(hl:qs.length<=36)(hw:g[w]?=aX (.dT (aT (λq=>LD (F q)) qs))){Z:Zr}(I:HI g h Z)(l:g[h]?=aX (.dT (aM Z)))
  (P:Pil qs (λq=>aI (F q) q) (GZ Z))(Q:jz)
  (H:∀w' h' (r:Int×Int->Ly) Z' c,g<+:c->c[w']?=aX (.dT (aT (λq=>LD (r q)) qs))->HI c h' Z'->c[h']?=aX (.dT (aM Z'))->(∀q,Dih (r q))->Pil qs (λq=>aI (r q) q) (GZ Z')->((r=F/\Z'=Z)\/(r=cU u n a F/\GZ Z'=oU (cC u n a) (aI (bE u n)) o (GZ Z)))->Q (.tup [.loc w',.loc h'],c)) :
  W (f (k+2) "_law_fold" [.loc w,.loc h,.int u,.int n,.bl a,.bl o] g) Q:=by
 have lZ:=P.len.1;rw[eM]at lZ;have X:(g.set h (.dF (aM Z)))[h]?=aX (.dF (aM Z)):=bX l;refine dG (UC (k+1) _ _ _ _ _ _ g) (w_mSeq.mpr (BA rfl l (w_mSet.mpr (mF (xs:=fJ (aM Z)) (p:=λ_=>b5) (v:=λd=>.bl (cC u n a (gJ d))) ?_))));rw[Vp rfl X];refine W_some.mpr ⟨TM,by rw[fJ,Xx],by rw[fJ,Xx,gM,X2];lia,λd c hd K=>w_mTrue.mpr ⟨rfl,Yw _⟩,λd c hd _ K=>?_,λc K Y=>⟨aE K X,?_⟩⟩
 ·obtain⟨p,hpm,rfl⟩:=Vo hd;refine aN (aN (bD rfl (tB k _ u L _ _ λi R=>⟨_,rfl,w_gtI.mpr ⟨_,rfl,w_eqBl.mpr ⟨?_,R⟩⟩⟩)));rw[BE];rfl
 have e1:((fJ (aM Z)).filter λ_=>b5).map (λd=>D.bl (cC u n a (gJ d)))=((fJ (aM Z)).map λd=>cC u n a (gJ d)).map D.bl:=by rw[List.filter_eq_self.mpr (λ_ _=>rfl),Yc];rfl
 rw[e1]at Y;have m:=tG l K;have lq:(g.set h (.dF (aM Z))).length=g.length:=YL;have E:=(oV l (a1W lq.symm) (.dT (aM Z)) c).trans Y;generalize(g.set h (.dF (aM Z))).length=b at E;generalize c.set h (.dT (aM Z))=μ1 at m E;obtain⟨b1,i1⟩:=HN b5 E;obtain⟨b2,i2⟩:=HN b4 E;have j:=H w h F Z μ1 m (aE m hw) (I.more m) (aE m l) N P (.inl ⟨rfl,rfl⟩);refine w_mSeq.mpr (w_mIfS.mpr (w_mOrT.mpr (cM (a8 rfl rfl ⟨_,i1,_,rfl,?_⟩))));cases b1 with
 |true=>exact c4 rfl (c4 rfl (cZ (w_mTup.mpr ⟨_,rfl,eL,j⟩)))|false=>
  refine cV rfl (cM (a8 rfl rfl ⟨_,i2,_,rfl,?_⟩));cases b2 with
  |true=>exact c4 rfl (cZ (w_mTup.mpr ⟨_,rfl,eL,j⟩))|false=>
   refine cV rfl (w_mNext.mpr (bJ (bD rfl (Hq k u n L _ _ λμ2 p2=>bJ (w_mDNewT.mpr (w_mSeq.mpr ?_))))));have q2:=m.trans p2;refine Vt k L N nd (by lia) (aE q2 hw) _ λx i R g3=>bJ (w_mDNewT.mpr (bJ (w_mDNewT.mpr (w_mSeq.mpr ?_))));have T:=q2.trans R;have l4:(i++[C.dT []]).length=i.length+1:=XI;have J:=bA (i++[C.dT []]) (C.dT []);rw[l4]at J ⊢;refine Vu k L (I.more T) (aE T l) (by lia) ((aL _ _).trans (aL _ _)) (XJ _) (aE (aL _ _) (bA _ _)) J _ λx' S G μ5 p5 IS J B IG g6 A=>w_mSeq.mpr ?_;have lS:S.length<=36:=by rw[<- eM,B,jM];exact Ys (YM _ _) (by rw[eM];lia)
   have lG:G.length<=36:=by rw[<- eM,A,fU,Xx];exact Ys (YM _ _) (by rw[eM];lia)
   refine Vv IS J IG g6 (by lia) (λz O=>?_) (λz O=>?_) p5 (XJ _) _ λx2 y2 S' U p6 M g8 s=>cZ (w_mTup.mpr ⟨_,rfl,eL,H _ _ (cU u n a F) S' U (T.trans p6) (aE p6 g3) M g8 (HJ N) ?_ (.inr ⟨rfl,by rw[s,B,A];rfl⟩)⟩)
   ·have v:(z.1,z.2.1)∈GZ S:=XH.mpr ⟨z,O,rfl⟩;rw[B]at v;exact Ys (P.len.2 _ (Yp.mp v).1) (by lia)
   ·have v:(z.1,z.2.1)∈GZ G:=XH.mpr ⟨z,O,rfl⟩;rw[A]at v;obtain⟨y,hy,e⟩:=XH.mp v;have:=P.len.2 _ (Yp.mp hy).1;injection e with _ e;rw[<- e,a1Q];lia
   rw[s,B,A,show(λq=>aI (cU u n a F q) q)=_ from funext λq=>Vr u n a F q];exact Vd P (sZ u n) o
theorem HR{a:Type} [DecidableEq a]:∀{l:List a},l.Nodup->∀{p:a},p∈l->(l.filter λq=>decide (q=p))=[p]
 |[],_,_,h=>by cases h
 |x::l,nd,p,h=>by
  rw[Yx]at nd;by_cases e:x=p
  ·subst e;rw[YD (by simp),a0z.mpr];intro y b w;exact nd.1 (of_decide_eq_true w▸b)
  ·rw[YE (by simp[e])];exact HR nd.2 ((Yi.mp h).resolve_left λw=>e w.symm)
noncomputable def k7(qs:jq):Gr:=qs.map λq=>(q,[q])
theorem BH(qs:jq):(k7 qs).map (·.1)=qs:=by unfold k7;rw[Yc];exact a1G _
theorem Vy{qs:jq}(nd:qs.Nodup):Pil qs (λq=>aI dO q) (k7 qs):=by
 have a:((k7 qs).map (·.1)).Nodup:=by rw[BH];exact nd
 refine⟨a,λg b=>?_,λp=>?_⟩
 ·obtain⟨q,_,rfl⟩:=XH.mp b;simp
 ·have e:(λq=>decide (aI dO q=p))=λq=>decide (q=p):=funext λq=>by rw[wB]
  rw[e];by_cases h:p∈qs
  ·have:=gZ a (g:=(p,[p])) (XH.mpr ⟨p,h,rfl⟩);rw[this,HR nd h]
  ·rw[iU (by rw[BH];exact h),a0z.mpr];intro q c w;exact h (of_decide_eq_true w▸c)
structure Grw(qs:jq)(μ:Hm)(w h:Nat)(F:Int×Int->Ly)(Z:Zr):Prop where
 hw:μ[w]?=aX (.dT (aT (λq=>LD (F q)) qs))
 hi:HI μ h Z
 hh:μ[h]?=aX (.dT (aM Z))
 di:∀q,Dih (F q)
 pl:Pil qs (λq=>aI (F q) q) (GZ Z)
theorem Vz{μ0 n:Hm}{l a b:Nat}{qs:jq}(nd:qs.Nodup)(hl:qs.length<=100){E G J K L O:Option D}{xs:List (Option D)}(B:μ0<+:n)(la:μ0.length<=a)(p:a<b)(u:n[a]?=aX (.dT []))(o:n[b]?=aX (.dT []))(gl:n[l]?=aX (.lst (qs.map PP)))(Q:Fl×aF×Hm->Prop)
  (H:∀x Z c,μ0<+:c->Grw qs c a b (λ_=>dO) Z->GZ Z=k7 qs->Q (.nx,E::G::J::K::L::aX (.loc a)::aX (.loc b)::x::xs,c)) :
  W (dD (cH (.loc l)) (bP 7) GB ((qs.map PP).length+1) 0 (E::G::J::K::L::aX (.loc a)::aX (.loc b)::O::xs) n) Q:=by
 have w:a≠l:=λe=>by rw[e,gl]at u;cases u
 have y:b≠l:=λe=>by rw[e,gl]at o;cases o
 refine gQ (λi g c=>∃x Z,g=E::G::J::K::L::aX (.loc a)::aX (.loc b)::x::xs/\μ0<+:c/\c[a]?=aX (.dT (aT (λ_=>LD dO) (qs.take i)))/\HI c b Z/\c[b]?=aX (.dT (aM Z))/\GZ Z=k7 (qs.take i)/\c[l]?=aX (.lst (qs.map PP)))
  ⟨O,[],rfl,B,u,⟨.inl o,ZF,λz hz=>nomatch hz⟩,o,rfl,gl⟩ (by rintro _ _ _ ⟨_,_,_,_,_,_,_,_,h⟩;exact h) ?_ ?_
 ·rintro i d g c hd ⟨x,Z,rfl,A,k,I,r,j,M⟩;obtain⟨q,v,rfl⟩:=gU hd;have N:q∉qs.take i:=mJ nd v;have lt:(qs.take i).length<=100:=Ys (YK _ _) hl;have lZ:Z.length<=100:=by rw[<- eM,j,k7,Xx];exact lt
  refine⟨_,rfl,w_mSeq.mpr (w_mPut.mpr (w_mTup.mpr ⟨_,rfl,Bq,_,rfl,_,rfl,(gH k (bR q) (by rw[Xx,X2];lia)).mpr ?_⟩))⟩;have U:dE (aT (λ_=>LD dO) (qs.take i)) (bG q) (LD dO)=aT (λ_=>LD dO) (qs.take (i+1)):=by rw[eY v];exact tI (v:=λ_=>LD dO) N
  have p2:=cI A la (C.dT (aT (λ_=>LD dO) (qs.take (i+1))));have m:=aL (c.set a (C.dT (aT (λ_=>LD dO) (qs.take (i+1))))) (C.lst [PP q]);have s:=aE m ((XB (XU p)).trans r);obtain⟨T,X,Y,R⟩:=((I.off k (YT p) _).more m).put s (p:=q) (L:=[q]) (bA _ _);rw[show D.tup [.int 1,.int 0,.int 0,.int 1,.int 0,.int 0]=LD dO from rfl,U];refine w_mPut.mpr (w_mLst.mpr ⟨_,rfl,oT,_,rfl,_,rfl,(gH s (bR q) (by rw[gM,X2];lia)).mpr ?_⟩);rw[X];refine⟨_,T,rfl,cI (p2.trans m) (by lia) _,(XB (YT p)).trans (aE m (bX k)),R,bX s,?_,(XB y).trans (aE m ((XB w).trans M))⟩;rw[Y,j,BG (by rw[BH];exact N),eY v,k7,k7,X4];rfl
 ·rintro g c ⟨x,Z,rfl,A,k,I,r,j,M⟩;rw[Xx,YS]at k j;exact H x Z c A ⟨k,I,r,λ_=>G2,by rw[j];exact Vy nd⟩ j
theorem VA(J:(Int×Int->Ly)->Gr->Prop)(k:Nat)(ns:List Int)(w h:Int)(T:J (λ_=>dO) (k7 (bF w h)))(U:∀F G u n a o,0<=u/\u<4->n%4=0->Pil (bF w h) (λq=>aI (F q) q) G->J F G->J (cU u n a F) (oU (cC u n a) (aI (bE u n)) o G))(hw:1<=w/\w<=3)(hh:1<=h/\h<=3)(c m:Int)(hc:0<=c/\c<=50)(hm:0<=m/\m<=10)(nd:(bF w h).Nodup)(hl:(bF w h).length<=36)(h1:1<=(bF w h).length)(s:Hm)(Q:jz)
  (H:∀a b F Z d,s<+:d->Grw (bF w h) d a b F Z->J F (GZ Z)->Q (.tup [.loc a,.loc b],d)):W (f (k+3) "_law_grown" [.rol (ns.map D.int),.int w,.int h,.int c,.int m] s) Q:=by
 refine dG (UD (k+2) _ _ _ _ _ s) (bJ (w_mDNewT.mpr (bJ (w_mDNewT.mpr (w_mSeq.mpr (w_mForI.mpr (w_iSeq.mpr (bD rfl (Vj (k+1) w h hw hh _ _ ((eK (bA _ _)).mpr ?_))))))))));refine Vz (μ0:=s) nd (by lia) (((aL _ _).trans (aL _ _)).trans (aL _ _)) (XJ _) (by rw[XI];exact ZK _) (aE ((aL _ _).trans (aL _ _)) (bA _ _)) (aE (aL _ _) (bA _ _)) (bA _ _) _ λx Z μ1 p1 O e1=>fL (w_mForI.mpr ((A7 (j:=0)).mpr ⟨_,rfl,by lia,?_⟩));refine oS (λi r d=>∃a b F Z E I K g j l p,r=[aX (.rol (ns.map D.int)),aX (.int w),aX (.int h),aX (.int c),aX (.int m),aX (.loc a),aX (.loc b),E,I,K,g,j,l,p]/\s<+:d/\Grw (bF w h) d a b F Z/\J F (GZ Z))
  ⟨_,_,_,Z,x,_,_,_,_,_,_,rfl,p1,O,by rw[e1];exact T⟩ ?_ ?_
 ·rintro i r y hi ⟨a,b,F,Z,E,I,K,g,j,l,p,rfl,B,G,A⟩;have lZ:=G.pl.lenZ.1;have zp:0<(eF (Z.map (·.1))).length:=by rw[Hz,Xx];obtain⟨q,hq⟩:=List.exists_mem_of_length_pos (l:=bF w h) h1;have:=G.pl.key.mpr ⟨q,hq,rfl⟩;rw[d9]at this;have:=a5i this;rwa [Xx]at this
  refine⟨_,rfl,bJ (bD rfl (tE k ns _ (by lia) _ _ λv z v0 v1 M=>bJ (a8 rfl rfl (w_mod4.mpr (bJ (bD rfl ((HC G.hi.kd (aE M G.hh) (by lia)).mpr (bJ ?_))))))))⟩;have p4:=aL z (C.lst ((eF (Z.map (·.1))).map PP));have L:=bA z (C.lst ((eF (Z.map (·.1))).map PP));have b1:=a0F (v/4) (show((eF (Z.map (·.1))).length:Int)≠0 by lia);have b2:=a0c (v/4) (show 0<((eF (Z.map (·.1))).length:Int) by lia);refine c7 (a7 (aN ⟨_,rfl,aN (a8 rfl rfl (w_div4.mpr (bD rfl ((mG L).mpr ((dY (by rw[Xx];lia)).mpr ?_)))))⟩));rw[Xx];refine(c6 L (qU (Bl b1 b2) (XM (by lia)))).mpr ⟨_,rfl,tB (k+1) _ (v%4) (by lia) _ _ λμ5 p5=>bJ (aN (a8 rfl rfl ((iR (by decide) (by decide)).mpr ⟨_,rfl,w_mod4.mpr (w_mAsg.mpr (bD rfl ?_))⟩)))⟩;have e:=(M.trans p4).trans p5;refine Vx k (by lia) G.di nd hl (aE e G.hw) (G.hi.more e) (aE e G.hh) G.pl _ λw' h' N Y μ6 p6 g6 R g7 d6 X e6=>w_gTup2.mpr ⟨w',h',N,Y,_,_,_,_,_,_,_,rfl,B.trans (e.trans p6),⟨g6,R,g7,d6,X⟩,?_⟩;rcases e6 with⟨rfl,rfl⟩|⟨rfl,e7⟩
  ·exact A
  ·rw[e7];exact U F _ _ _ _ _ (by lia) (by lia) G.pl A
 ·rintro r y ⟨a,b,F,Z,E,I,K,g,j,l,p,rfl,B,G,A⟩;exact⟨rfl,cZ (w_mTup.mpr ⟨_,rfl,eL,H a b F Z y B G A⟩)⟩
theorem HS(u n:Int)(p:Int×Int):aI (bE u n) p=if u=0 then(p.1,2*n-p.2)else if u=1 then(2*n-p.1,p.2)else if u=2 then(p.2+n,p.1-n)else(n-p.2,n-p.1):=by
 unfold bE aI;split
 ·refine YV ?_ ?_<;>dsimp only<;>lia
 split
 ·refine YV ?_ ?_<;>dsimp only<;>lia
 split
 ·refine YV ?_ ?_<;>dsimp only<;>lia
 ·refine YV ?_ ?_<;>dsimp only<;>lia
theorem VB(u n:Int):iT (bE u n)=-1:=by
 unfold bE iT;split
 ·rfl
 split
 ·rfl
 split
 ·rfl
 ·rfl
theorem HU{A:Ly}(h:Dih A):(iT A=1/\A.c=-A.b/\A.d=A.a)\/(iT A=-1/\A.c=A.b/\A.d=-A.a):=by
 obtain⟨a,b,c,d,e,g⟩:=A;unfold Dih at h;unfold iT;dsimp only at h ⊢;rcases h with⟨rfl,rfl,i,j⟩|⟨rfl,rfl,i,j⟩
 ·rcases i with rfl|rfl<;>rcases j with rfl|rfl<;>decide
 ·rcases i with rfl|rfl<;>rcases j with rfl|rfl<;>decide
theorem HV{a b x y:Int}(h1:a*x+b*y=0)(e:a*y-b*x=0)(hd:x*x+y*y≠0):a=0/\b=0:=by
 have c:a*(x*x+y*y)=0:=by grind
 have d:b*(x*x+y*y)=0:=by grind
 exact⟨(a2O.mp c).resolve_right hd,(a2O.mp d).resolve_right hd⟩
theorem VC{p q:Int×Int}(h:p≠q):(p.1-q.1)*(p.1-q.1)+(p.2-q.2)*(p.2-q.2)≠0:=λe=>by
 have b:(p.1-q.1)*(p.1-q.1)=0/\(p.2-q.2)*(p.2-q.2)=0:=by
  have a:∀z:Int,0<=z*z:=λz=>by
   rcases Int.le_total 0 z with h|h
   ·exact Int.mul_nonneg h h
   ·exact Int.mul_nonneg_of_nonpos_of_nonpos h h
  have:=a (p.1-q.1);have:=a (p.2-q.2);omega
 refine h (YV ?_ ?_)
 ·rcases a2O.mp b.1 with z|z<;>lia
 ·rcases a2O.mp b.2 with z|z<;>lia
theorem VD{B C:Ly}(hB:Dih B)(hC:Dih C)(hd:iT B=iT C){p q:Int×Int}(R:p≠q)(h1:aI B p=aI C p)(l:aI B q=aI C q):B=C:=by
 have j:=HU hB;have k:=HU hC;have nz:=VC R;clear R;obtain⟨x,y⟩:=p;obtain⟨z,w⟩:=q;unfold aI at h1 l;injection h1 with u1 u2;injection l with v1 v2;dsimp only at nz u1 u2 v1 v2;have h:(B.a-C.a)*(x-z)+(B.b-C.b)*(y-w)=0:=by grind
 have i:(B.c-C.c)*(x-z)+(B.d-C.d)*(y-w)=0:=by grind
 have key:B.a-C.a=0/\B.b-C.b=0:=by
  rcases j with⟨a,c,d⟩|⟨a,c,d⟩<;>rcases k with⟨c1,c2,c3⟩|⟨c1,c2,c3⟩
  ·exact HV h (by rw[c,d,c2,c3]at i;grind) nz
  ·rw[hd,c1]at a;cases a
  ·rw[hd,c1]at a;cases a
  ·exact HV h (by rw[c,d,c2,c3]at i;grind) nz
 have e:B.a=C.a:=by lia
 have g:B.b=C.b:=by lia
 have b:B.c=C.c/\B.d=C.d:=by
  rcases j with⟨a,c,d⟩|⟨a,c,d⟩<;>rcases k with⟨c1,c2,c3⟩|⟨c1,c2,c3⟩
  ·rw[c,d,c2,c3,e,g];exact⟨rfl,rfl⟩
  ·rw[hd,c1]at a;cases a
  ·rw[hd,c1]at a;cases a
  ·rw[c,d,c2,c3,e,g];exact⟨rfl,rfl⟩
 refine Ly.ext' e g b.1 b.2 ?_ ?_
 ·rw[e,g]at u1;lia
 ·rw[b.1,b.2]at u2;lia
noncomputable def b9(x y:Int):Bool:=x%2==y%2&&(x%2==1||!(x%4==y%4))
noncomputable def sA(e:Int×Int):Int×Int:=if e.1%2=1 then(e.1,e.2+2-e.2%4)else if e.2%4=0 then(e.1,e.2-1)else(e.1-1,e.2)
noncomputable def sB(e:Int×Int):Int×Int:=if e.1%2=1 then(e.1+2-e.1%4,e.2)else if e.2%4=0 then(e.1,e.2+1)else(e.1+1,e.2)
theorem mM{e:Int×Int}(h:b9 e.1 e.2=b5):(e.1%2=1/\e.2%2=1)\/(e.1%2=0/\e.2%4=0/\e.1%4=2)\/(e.1%2=0/\e.2%4=2/\e.1%4=0):=by unfold b9 at h;simp only[XG,Z2,beq_iff_eq,Z1,beq_eq_false_iff_ne]at h;lia
theorem BI{e:Int×Int}(h:b9 e.1 e.2=b5):eW (sA e) e=sB e/\eW (sB e) e=sA e:=by
 have:=mM h;unfold eW sA sB;rcases this with⟨b,c⟩|⟨b,c,a⟩|⟨b,c,a⟩
 ·simp only[if_pos b];by_cases a:e.1%4=e.2%4
  ·simp only[if_pos a];refine⟨YV ?_ ?_,YV ?_ ?_⟩<;>dsimp only<;>lia
  ·simp only[if_neg a];refine⟨YV ?_ ?_,YV ?_ ?_⟩<;>dsimp only<;>lia
 ·simp only[if_neg (show ¬ e.1%2=1 by lia),if_pos c];refine⟨YV ?_ ?_,YV ?_ ?_⟩<;>dsimp only<;>lia
 ·simp only[if_neg (show ¬ e.1%2=1 by lia),if_neg (show ¬ e.2%4=0 by lia)];refine⟨YV ?_ ?_,YV ?_ ?_⟩<;>dsimp only<;>lia
theorem HW{F:Int×Int->Ly}{e:Int×Int}(a:b9 e.1 e.2=b5)(h:F (sA e)=cD (gT e) (F (sB e))):aI (F (sA e)) (sA e)=aI (F (sB e)) (sB e):=by rw[h,mI,nI,(BI a).1]
theorem VE(u n:Int):cD (bE u n) (bE u n)=dO:=G4 λp=>by rw[mI,sZ,wB]
noncomputable def aQ(w h:Int):jq:=(kF 1 (4*w-1).toNat (4*h-1).toNat).filter λp=>b9 p.1 p.2
noncomputable def cJ:jq:=[(1,1),(1,2),(1,3),(2,1),(2,2),(2,3),(3,1),(3,2),(3,3),(4,1),(5,1),(6,1),(4,2),(5,2),(6,2),(1,4),(1,5),(1,6),(2,4),(2,5),(2,6)]
theorem eN:∀p∈cJ,(1<=p.1/\p.1<=6)/\(1<=p.2/\p.2<=6)/\(bF p.1 p.2).length<=48/\1<=(bF p.1 p.2).length/\qQ ((bF p.1 p.2).map bG)=b5/\(aQ p.1 p.2).length<=64/\qQ ((aQ p.1 p.2).map bG)=b5 /\
  ∀e∈aQ p.1 p.2,b9 e.1 e.2=b5/\sA e∈bF p.1 p.2/\sB e∈bF p.1 p.2/\(0<e.1/\e.1<4*p.1)/\0<e.2/\e.2<4*p.2:=by decide +kernel
theorem wM(k:Nat)(w h:Int)(hw:1<=w/\w<=6)(b:1<=h/\h<=6)(a:Hm)(Q:jz)(H:Q (.loc a.length,a++[.lst ((aQ w h).map PP)])):W (f (k+1) "_law_rims" [.int w,.int h] a) Q:=by
 rw[Uw,W_fin];simp only[w_mSeq,w_mSet,w_mLst,dS];refine⟨Yu _,?_⟩;simp only[Y2,Za,w_mForI,w_iRng2,w_mCons,dS,fK,w_mOp,cL,c5,w_mul4];refine⟨by lia,?_⟩;refine Hc _ b9 _ _ _ _ 1 (4*h-1).toNat (λo1 c a Q=>?_) (λx y a Q=>?_) (4*w-1).toNat (Hu hw b) _ (bA _ _) _ λo1 c=>?_
 ·simp only[w_iRng2,w_mCons,dS,fK,w_mOp,cL,c5,w_mul4];exact and_iff_right (by lia)
 ·simp only[w_mOrT,w_mAndT,w_mTest,w_mOp,cL,c5,fK,sV,w_mod4,w_eqI,w_neI];unfold b9;cases x%2==y%2<;>cases x%2==1<;>cases x%4==y%4<;>simp
 ·simp only[w_mRet,cL,c5];rw[Br];exact H
theorem qW(k:Nat)(e:Int×Int)(d:Hm)(Q:jz)(H:∀b c,d<+:c->c[b]?=aX (.lst [PP (sA e),PP (sB e)])->Q (.loc b,c)):W (f (k+1) "_law_beside" [PP e] d) Q:=by
 rw[Ux];unfold sA sB at H;refine wA rfl (Bg rfl (λh=>⟨_,rfl,?_⟩) λh=>Bg rfl (λa=>⟨_,rfl,?_⟩) λa=>⟨_,rfl,?_⟩)
 ·have h:e.1%2=1:=by simpa using h
  simp only[if_pos h]at H;exact H _ _ (aL _ _) (bA _ _)
 ·have h:¬ e.1%2=1:=by simpa using h
  have a:e.2%4=0:=by simpa using a
  simp only[if_neg h,if_pos a]at H;exact H _ _ (aL _ _) (bA _ _)
 ·have h:¬ e.1%2=1:=by simpa using h
  have a:¬ e.2%4=0:=by simpa using a
  simp only[if_neg h,if_neg a]at H;exact H _ _ (aL _ _) (bA _ _)
theorem VF(a:Hm)(A B:Ly):cS 8 a (LD A) (LD B)=aX (decide (A=B)):=by
 have:cS 8 a (LD A) (LD B)=aX (A.a==B.a&&(A.b==B.b&&(A.c==B.c&&(A.d==B.d&&(A.e==B.e&&(A.g==B.g&&b5)))))):=rfl;rw[this];congr 1;rw[Zw,decide_eq_true_iff];simp only[XG,beq_iff_eq,and_true];constructor
 ·rintro⟨b,c,d,e,g,h⟩;exact Ly.ext' b c d e g h
 ·rintro rfl;exact⟨rfl,rfl,rfl,rfl,rfl,rfl⟩
theorem w_neLD{a:Hm}{A B:Ly}{Q:jz}:W (aZ b5 (LD A) (LD B) a) Q↔Q (.bl (!decide (A=B)),a):=by
 have:aZ b5 (LD A) (LD B) a=aX (.bl (!decide (A=B)),a):=by unfold aZ;rw[VF];rfl
 rw[this];exact W_some
noncomputable def fE(w h:Int)(F:Int×Int->Ly):jq:=(aQ w h).filter λe=>!decide (F (sA e)=F (sB e))
theorem HX(k:Nat){g:Hm}{a:Nat}{w h:Int}(J:(w,h)∈cJ){F:Int×Int->Ly}{row:jq}(nd:row.Nodup)(z:∀q∈bF w h,q∈row)(G:g[a]?=aX (.dT (aT (λq=>LD (F q)) row)))(Q:jz)
  (H:∀b c,g<+:c->c[b]?=aX (.lst ((fE w h F).map PP))->Q (.loc b,c)):W (f (k+2) "_law_creased" [.loc a,.int w,.int h] g) Q:=by
 obtain⟨hw,I,_,_,_,A,_,B⟩:=eN _ J;refine dG (UE (k+1) _ _ _ g) (bJ (w_mLst.mpr ⟨_,rfl,Yu _,fL (w_mForI.mpr (w_iSeq.mpr (bD rfl (wM k w h hw I _ _ ((eK (bA _ _)).mpr ?_)))))⟩));refine gQ (λi j c=>∃s u v,j=[aX (.loc a),aX (.int w),aX (.int h),aX (.loc g.length),s,u,v]/\g<+:c/\c[g.length]?=aX (.lst ((((aQ w h).take i).filter λe=>!decide (F (sA e)=F (sB e))).map PP))/\c[(g++[C.lst []]).length]?=aX (.lst ((aQ w h).map PP)))
  ⟨aY,aY,aY,rfl,(aL _ _).trans (aL _ _),aE (aL _ _) (bA _ _),bA _ _⟩ (by rintro _ _ _ ⟨_,_,_,_,_,_,h⟩;exact h) ?_ ?_
 ·rintro i d j x hd ⟨s,u,v,rfl,m,n,p⟩;obtain⟨e,r,rfl⟩:=gU hd;obtain⟨_,K,L,_⟩:=B e (X6 r);refine⟨_,rfl,w_mSeq.mpr (w_mAsg.mpr (bD rfl (qW k e _ _ λb M l E=>(Gk E).mpr ?_)))⟩;have y:=aE (m.trans l) G;have o:=aE l n;have lt:(((aQ w h).take i).filter λe=>!decide (F (sA e)=F (sB e))).length<=64:=Ys (YM _ _) (Ys (YK _ _) A);refine w_mIfS.mpr (cM (aN (a8 rfl rfl ((dU (.inl y) (bR _) (fM nd (z _ K))).mpr (a8 rfl rfl ((dU (.inl y) (bR _) (fM nd (z _ L))).mpr (w_neLD.mpr ⟨_,rfl,?_⟩)))))));cases hc:decide (F (sA e)=F (sB e))with
  |true=>refine cV rfl (w_mNext.mpr ⟨_,_,_,rfl,m.trans l,?_,aE l p⟩);rw[eY r,Zb,YE (by rw[hc];exact X9),a0E,Yl];exact o|false=>refine c4 rfl (w_mDrop.mpr (iE ⟨_,rfl,gR o,_,rfl,(kE o (by rw[Xx,X2];lia)).mpr ⟨_,_,_,rfl,cI (m.trans l) (XJ _) _,?_,(XB (by rw[XI];exact XU (ZK _))).trans (aE l p)⟩⟩));rw[bX o,eY r,Zb,YD (by rw[hc];rfl),a0E,X4];rfl
 ·rintro j x ⟨s,u,v,rfl,m,n,p⟩;rw[Xx,YS]at n;exact⟨rfl,cZ ⟨_,rfl,H _ _ m n⟩⟩
noncomputable def flat(G:Gr):jq:=G.flatMap (·.2)
noncomputable def bL(G:Gr)(q:Int×Int):Int:=match G.find? (λg=>g.2.contains q)with|some g=>(g.2.idxOf q:Nat)|none=>0
theorem HY(G:Gr)(g:(Int×Int)×jq):flat (G++[g])=flat G++g.2:=by unfold flat;rw[Z6];simp
theorem mem_flat{G:Gr}{q:Int×Int}:q∈flat G↔∃g∈G,q∈g.2:=a1x
theorem Pil.one{qs:jq}{f:Int×Int->Int×Int}{G:Gr}(P:Pil qs f G){g:(Int×Int)×jq}(a:g∈G){q:Int×Int}(b:q∈g.2):q∈qs/\f q=g.1:=by have h:=P.pm g.1;rw[gZ P.kd a]at h;have:=Yp.mp (h.mem_iff.mp b);exact⟨this.1,of_decide_eq_true this.2⟩
theorem Pil.nd{qs:jq}{f:Int×Int->Int×Int}{G:Gr}(nd:qs.Nodup)(P:Pil qs f G){g:(Int×Int)×jq}(a:g∈G):g.2.Nodup:=by have h:=P.pm g.1;rw[gZ P.kd a]at h;exact h.nodup_iff.mpr (nd.sublist Zo)
theorem HZ{f:Int×Int->Int×Int}:∀{G:Gr},(G.map (·.1)).Nodup->(∀g∈G,g.2.Nodup/\∀q∈g.2,f q=g.1)->(flat G).Nodup
 |[],_,_=>ZF|g::G,kd,h=>by rw[XS,Yx]at kd;show(g.2++flat G).Nodup;rw[Y5];refine⟨(h g (X8 ..)).1,HZ kd.2 λx c=>h x (X7 _ c),λa k b l e=>?_⟩;subst e;obtain⟨x,c,d⟩:=mem_flat.mp l;have i:=(h g (X8 ..)).2 a k;have j:=(h x (X7 _ c)).2 a d;exact kd.1 (XH.mpr ⟨x,c,by rw[<- j,i]⟩)
theorem Pil.flat{qs:jq}{f:Int×Int->Int×Int}{G:Gr}(nd:qs.Nodup)(P:Pil qs f G):(Lw.flat G).Perm qs:=by
 have c:(Lw.flat G).Nodup:=HZ (f:=f) P.kd λg a=>⟨P.nd nd a,λq b=>(P.one a b).2⟩;refine(a0U c nd).mpr λq=>?_;rw[mem_flat];constructor
 ·rintro⟨g,a,b⟩;exact(P.one a b).1
 ·intro b;obtain⟨g,a,e⟩:=XH.mp (P.key.mpr ⟨q,b,rfl⟩);refine⟨g,a,?_⟩;have h:=P.pm g.1;rw[gZ P.kd a]at h;exact h.mem_iff.mpr (Yp.mpr ⟨b,decide_eq_true e.symm⟩)
theorem BJ{qs:jq}{f:Int×Int->Int×Int}{G:Gr}(nd:qs.Nodup)(P:Pil qs f G){g:(Int×Int)×jq}(a:g∈G){i:Nat}{q:Int×Int}(b:g.2[i]?=aX q):bL G q=i:=by
 have k:=X6 b;have n:G.find? (λx=>x.2.contains q)=aX g:=by
  cases h:G.find? (λx=>x.2.contains q)with
  |none=>exact absurd (Yo.mpr k) (by have:=a2d.mp h g a;simpa using this)|some x=>
   have l:=List.mem_of_find?_eq_some h;have c:q∈x.2:=by have d:=List.find?_some h;exact Yo.mp d
   have e:x.1=g.1:=by rw[<- (P.one l c).2,(P.one a k).2]
   have j:=gZ P.kd l;have m:=gZ P.kd a;rw[e,m]at j;rw[show x=g from YV e j.symm]
 unfold bL;rw[n];have hi:i<g.2.length:=(Xz.mp b).1;have e:=(Xz.mp b).2;have:g.2.idxOf q=i:=by rw[<- e];exact(P.nd nd a).idxOf_getElem i hi
 show((g.2.idxOf q:Nat):Int)=i;rw[this]
theorem VG{h n:Hm}{l b:Nat}{v:Int×Int->D}{L K:jq}(z:∀(i:Nat) q,L[i]?=aX q->v q=.int (i:Int))(u:∀q∈L,q∉K)(nd:L.Nodup)(A:K.length+L.length<=1000){j k o r:Option D}(m:h<+:n)(lo:h.length<=b)(gl:h[l]?=aX (.lst (L.map PP)))(s:n[b]?=aX (.dT (aT v K)))(Q:Fl×aF×Hm->Prop)
  (H:∀x y a,h<+:a->a[b]?=aX (.dT (aT v (K++L)))->Q (.nx,[j,aX (.loc b),k,x,y],a)) :
  W (dD (oI (.loc l)) (cT [3,4]) (dN (aA 1) (aA 4) (aA 3)) ((L.map PP).length+1) 0 [j,aX (.loc b),k,o,r] n) Q:=by
 refine Gv (λi c a=>∃x y,c=[j,aX (.loc b),k,x,y]/\h<+:a/\a[b]?=aX (.dT (aT v (K++L.take i)))) ⟨o,r,rfl,m,by rw[a2U,Yl];exact s⟩ (by rintro _ _ _ ⟨_,_,_,p,_⟩;exact aE p gl) ?_ ?_
 ·rintro i d c a hd ⟨x,y,rfl,p,g⟩;obtain⟨q,e,rfl⟩:=gU hd;refine⟨_,rfl,?_⟩;have hi:i<L.length:=(Xz.mp e).1;show W (dN (aA 1) (aA 4) (aA 3) [j,aX (.loc b),k,aX (.int i),aX (PP q)] a) _;simp only[w_mPut,cL,c5];refine(gH g (bR q) (by rw[Xx,XI,Zy,X2];lia)).mpr ?_;refine⟨_,_,rfl,cI p lo _,?_⟩;rw[bX g,<- z i q e,tI,eY e,YO];intro w;rcases Yq.mp w with w|w
  ·exact u q (X6 e) w
  ·exact mJ nd e w
 ·rintro c a ⟨x,y,rfl,p,g⟩;rw[Xx,YS]at g;exact H x y a p g
theorem VH{i j:Nat}{body:MS}{v:MS}{m:aF}{h:Hm}{a:Nat}{b:jx}{Q:Fl×aF×Hm->Prop}(hi:m[i]?=aX (aX (.loc a)))(hc:h[a]?=aX (.dT b))(I:Nat->aF->Hm->Prop)
  (s:I 0 m (h.set a (.dF b)))(go:∀n k d g c,b[n]?=aX (k,d)->I n g c->W (body (g.set j (aX d)) c) λp=>p.1=.nx/\I (n+1) p.2.1 p.2.2)
  (l:∀g c,I b.length g c->c[a]?=aX (.dF b)/\Q (.nx,g,c.set a (.dT b))):W (eV i (bW (qD (aA i)) (bP j) body) v m h) Q:=by
 refine BA hi hc ?_;have r:(h.set a (.dF b))[a]?=aX (.dF b):=bX hc;have hit:qD (aA i) m (h.set a (.dF b))=aX (cH (.tup (j5 b)),b.length+1,h.set a (.dF b)):=by simp only[qD,aA,hi,XY,r]
 rw[w_mForI,hit,W_some];refine mE (N:=b.length) I (λn g c u o=>?_) (λg c o=>⟨?_,l g c o⟩) b.length 0 m _ (by lia) s
 ·have e:b[n]?=aX (b[n].1,b[n].2):=XM u;refine⟨b[n].2,_,?_,rfl,bI (go n _ _ g c e o) λp q=>?_⟩
  ·show aX ((j5 b)[n]?)=_;unfold j5;rw[XR,e];rfl
  ·rw[q.1];exact q.2
 ·show aX ((j5 b)[b.length]?)=_;rw[ZC (by unfold j5;simp)]
theorem VI{qs:jq}{g:Int×Int->Int×Int}(nd:qs.Nodup)(o:qs.length<=100){Z:Zr}(P:Pil qs g (GZ Z)){i:Nat}{z:(Int×Int)×jq×Nat}(hz:Z[i]?=aX z) :
  (∀(j:Nat) q,z.2.1[j]?=aX q->(λq=>D.int (bL (GZ Z) q)) q=.int (j:Int))/\(∀q∈z.2.1,q∉flat ((GZ Z).take i))/\z.2.1.Nodup/\(flat ((GZ Z).take i)).length+z.2.1.length<=1000:=by
 have a:(z.1,z.2.1)∈GZ Z:=XH.mpr ⟨z,X6 hz,rfl⟩;refine⟨λj q b=>by dsimp only;rw[BJ nd P a b],λq b w=>?_,P.nd nd a,?_⟩
 ·obtain⟨x,h,c⟩:=mem_flat.mp w;have d:=a2V h;have e:x.1=z.1:=by rw[<- (P.one d c).2,(P.one a b).2]
  have:z.1∉((GZ Z).take i).map (·.1):=by rw[a3l,d9];have k:=P.kd;rw[d9]at k;exact mJ k (by rw[XR,hz];rfl)
  exact this (e▸XH.mpr ⟨x,h,rfl⟩)
 ·have l:=(P.flat nd).length_eq;have m:(flat ((GZ Z).take i)).length+z.2.1.length=(flat ((GZ Z).take (i+1))).length:=by rw[qV hz,HY,XI]
  have n:(flat ((GZ Z).take (i+1))).length<=(flat (GZ Z)).length:=by
   have:GZ Z=(GZ Z).take (i+1)++(GZ Z).drop (i+1):=(a0I _ _).symm;conv=>rhs;rw[this]
   unfold flat;rw[Z6,XI];lia
  lia
theorem VJ(k:Nat){qs:jq}{g:Int×Int->Int×Int}(nd:qs.Nodup)(B:qs.length<=100){c:Hm}{h:Nat}{Z:Zr}(I:HI c h Z)(j:c[h]?=aX (.dT (aM Z)))(P:Pil qs g (GZ Z))(Q:jz)
  (H:∀b a,c<+:a->a[b]?=aX (.dT (aT (λq=>.int (bL (GZ Z) q)) (flat (GZ Z))))->Q (.loc b,a)):W (f (k+1) "heights_in" [.loc h] c) Q:=by
 have p:h<c.length:=(Xz.mp j).1;rw[Uk,W_fin,w_mSeq];simp only[w_mSet,w_mDNewT,Y2,Za];rw[w_mSeq];have s:=I.frz j;have m:(c.set h (.dF (aM Z))).length=c.length:=YL;have r:c.set h (.dF (aM Z))<+:(c++[C.dT []]).set h (.dF (aM Z)):=by rw[a1E _ _ p];exact a2b _ _
 refine VH rfl (aE (aL _ _) j) (λi e a=>∃x y z,e=[aX (.loc h),aX (.loc c.length),x,y,z]/\c.set h (.dF (aM Z))<+:a/\a[c.length]?=aX (.dT (aT (λq=>.int (bL (GZ Z) q)) (flat ((GZ Z).take i)))))
  ⟨aY,aY,aY,rfl,r,by rw[XB (by lia)];exact bA _ _⟩ ?_ ?_
 ·rintro i N d e a A ⟨x,y,T,rfl,n,o⟩;obtain⟨z,u,l,rfl,rfl⟩:=tH A;simp only[Y2,Za,w_mForI];refine Gu ?_;simp only[w_mCons,dS,cL,c5];refine⟨z.2.2,z.2.1.map PP,rfl,(s.more n).at_ z u,?_⟩;obtain⟨G,J,K,L⟩:=VI nd B P l;refine VG (v:=λq=>.int (bL (GZ Z) q)) (K:=flat ((GZ Z).take i)) G J K L n (by rw[m];exact XJ _) (s.at_ z u) o _ λO R M E v=>?_;refine⟨rfl,_,_,_,rfl,E,?_⟩;rw[qV l,HY];exact v
 ·rintro e a ⟨x,y,z,rfl,n,o⟩;have w:a[h]?=aX (.dF (aM Z)):=aE n (bX j);refine⟨w,?_⟩;simp only[w_mRet,cL,c5];refine H _ _ (tG j n) ?_;rw[XB (by lia),o,Zx (by rw[gM,GZ,Xx];exact XJ _)]
noncomputable abbrev MD(p:(Int×Int)×Str):D:=.tup [PP p.1,.str p.2]
noncomputable def jN(q:Int×Int):jq:=[(q.1-1,q.2),(q.1,q.2-1),(q.1,q.2+1),(q.1+1,q.2)]
noncomputable def c8(p:Int×Int):Bool:=if p.1%2=1 then p.2%4==2 else p.1%4==2&&p.2%2==1
theorem Ia:(4:Nat)<=XQ:=by decide
theorem VL(k:Nat)(x y:Int)(a:Hm)(Q:jz):W (f (k+1) "is_quarter" [P x y] a) Q↔Q (.bl (c8 (x,y)),a):=by
 rw[T6,W_fin];simp only[w_mSeq,w_mRet,w_mNext,w_mIfS,w_mTest,w_mAndV,w_mOp,fK,cL,w_it20,w_it21,w_eqI,w_neI,sV,w_mod4];unfold c8;by_cases h:x%2=1
 ·simp[h]
 ·have e:(x%2==1)=false:=by simpa using h
  simp only[e,h,Yb,if_false];cases x%4==2<;>simp
theorem VM(k:Nat)(q:Int×Int)(a:Hm):f (k+1) "beside" [PP q] a=aX (.loc a.length,a++[C.lst [P (q.1-1) q.2,P q.1 (q.2-1),P q.1 (q.2+1),P (q.1+1) q.2]]):=by rw[T7];kernel_rfl
theorem BK(k:Nat)(q:Int×Int)(c:Hm)(Q:jz)(H:∀a b,c<+:b->b[a]?=aX (.lst (((jN q).filter c8).map PP))->Q (.loc a,b)):W (f (k+2) "sides_of" [PP q] c) Q:=by
 rw[T8,W_fin];simp only[w_mRet];refine mF (xs:=(jN q).map PP) (p:=λd=>c8 (gJ d)) (v:=λd=>d) ?_;refine w_iSeq.mpr (UU rfl ?_);rw[VM,W_some];have g:(c++[C.lst [P (q.1-1) q.2,P q.1 (q.2-1),P q.1 (q.2+1),P (q.1+1) q.2]])[c.length]?=aX (.lst ((jN q).map PP)):=bA _ _;refine(eK g).mpr ⟨qL g,rfl,Ia,λd b hd e=>?_,λd b hd _ e=>?_,λb e h=>?_⟩
 ·obtain⟨u,v,rfl⟩:=GV hd;simp only[a0a,a0C,w_mTru,w_mCall,w_mCons,dS,cL,c5,VL,w_truB];exact⟨rfl,Yw _⟩
 ·simp only[a0a,a0C,cL,c5];exact⟨trivial,Yw _⟩
 ·refine H _ _ ((aL _ _).trans e) ?_;rw[h,sW c8]
theorem BL(p:Int×Int):c8 p=b5↔(p.1%2=1/\p.2%4=2)\/(p.1%4=2/\p.2%2=1):=by
 unfold c8;split
 ·rw[beq_iff_eq];lia
 ·rw[XG,beq_iff_eq,beq_iff_eq];lia
theorem nO(z:Int):z%2=z%4%2:=(Int.emod_emod_of_dvd z (by decide)).symm
theorem Ib{x y r s:Int}(a:x%4=r%4)(b:y%4=s%4):c8 (x,y)=c8 (r,s):=by unfold c8;dsimp only;rw[nO x,nO y,a,b,<- nO,<- nO]
theorem VN(x y:Int):c8 (-x,y)=c8 (x,y):=by
 unfold c8;dsimp only;have a:-x%2=x%2:=by lia
 rcases a7q x with h|h
 ·rw[show -x%4=x%4 by lia,a]
 ·rw[a,h,if_pos rfl,if_pos rfl]
theorem VO(x y:Int):c8 (y,x)=c8 (x,y):=by rw[Zw,BL,BL];exact⟨λh=>h.symm.imp a5V a5V,λh=>h.symm.imp a5V a5V⟩
theorem VP{x y r s:Int}(a:x%4=r)(b:y%4=s)(i j:Int):c8 (x+i,y+j)=c8 (r+i,s+j):=Ib (by rw[<- a,a6R]) (by rw[<- b,a6R])
theorem BM{x y r s:Int}(a:x%4=r)(b:y%4=s):(jN (x,y)).filter c8=(([(-1,0),(0,-1),(0,1),(1,0)]:jq).filter λd=>c8 (r+d.1,s+d.2)).map λd=>(x+d.1,y+d.2):=by
 have:jN (x,y)=([(-1,0),(0,-1),(0,1),(1,0)]:jq).map λd=>(x+d.1,y+d.2):=by simp only[jN,XS,a0y,a1X];rfl
 rw[this,List.filter_map];congr 1;exact a6D λd _=>VP a b d.1 d.2
theorem VQ{e:Int×Int}(h:b9 e.1 e.2=b5):(jN e).filter c8=[sA e,sB e]\/(jN e).filter c8=[sB e,sA e]:=by
 have:=mM h;obtain⟨x,y⟩:=e;unfold sA sB;dsimp only at this ⊢;rcases this with⟨d,c⟩|⟨d,c,g⟩|⟨d,c,g⟩
 ·have a:x%4=1\/x%4=3:=by lia
  have b:y%4=1\/y%4=3:=by lia
  rw[if_pos d,if_pos d];rcases a with a|a<;>rcases b with b|b<;>rw[BM a b,a,b]
  ·exact .inl (by show[(x+0,y+1),(x+1,y+0)]=_;simp;lia)
  ·exact .inl (by show[(x+0,y+-1),(x+1,y+0)]=_;simp;lia)
  ·exact .inr (by show[(x+-1,y+0),(x+0,y+1)]=_;simp;lia)
  ·exact .inr (by show[(x+-1,y+0),(x+0,y+-1)]=_;simp;lia)
 ·simp only[if_neg (show ¬ x%2=1 by lia),if_pos c];rw[BM g c];exact .inl (by show[(x+0,y+-1),(x+0,y+1)]=_;rw[a1X];rfl)
 ·simp only[if_neg (show ¬ x%2=1 by lia),if_neg (show ¬ y%4=0 by lia)];rw[BM g c];exact .inl (by show[(x+-1,y+0),(x+1,y+0)]=_;rw[a1X];rfl)
theorem VR{x y r s:Int}(a:x%4=r%4)(b:y%4=s%4):b9 x y=b9 r s:=by unfold b9;rw[nO x,nO y,a,b,<- nO,<- nO]
theorem VS(x y:Int):b9 (-x) y=b9 x y:=by
 unfold b9;have a:-x%2=x%2:=by lia
 rcases a7q x with h|h
 ·rw[show -x%4=x%4 by lia,a]
 ·rw[a,h];rfl
theorem VT(x y:Int):b9 y x=b9 x y:=by
 unfold b9;rw[BEq.comm (a:=y%2),BEq.comm (a:=y%4)];cases h:x%2==y%2
 ·rfl
 ·rw[eq_of_beq h]
theorem Ic{T:Int->Int->Bool}(i:∀{x y r s},x%4=r%4->y%4=s%4->T x y=T r s)(pn:∀x y,T (-x) y=T x y)(ps:∀x y,T y x=T x y){A:Ly}(hA:Dih A)(a:A.e%4=0/\A.g%4=0)(e:Int×Int):T (aI A e).1 (aI A e).2=T e.1 e.2:=by
 have c:=pn e.1 e.2;have b:=ps e.1 e.2;have d:T e.1 (-e.2)=T e.1 e.2:=by rw[<- ps,pn,b]
 have h:T (-e.1) (-e.2)=T e.1 e.2:=by rw[pn,d]
 have g:∀{x y r s u v:Int},u%4=0/\v%4=0->T r s=T e.1 e.2->x=r+u->y=s+v->T x y=T e.1 e.2:=λa q j l=>(i (by clear q;lia) (by clear q;lia)).trans q;unfold aI;obtain⟨u,v,k|k|k|k|k|k|k|k⟩:=Bo hA<;>subst k<;>dsimp only at a ⊢
 ·exact g a rfl (by lia) (by lia)
 ·exact g a d (by lia) (by lia)
 ·exact g a c (by lia) (by lia)
 ·exact g a h (by lia) (by lia)
 ·exact g a b (by lia) (by lia)
 ·exact g a ((ps _ _).trans c) (by lia) (by lia)
 ·exact g a ((pn _ _).trans b) (by lia) (by lia)
 ·exact g a ((ps _ _).trans h) (by lia) (by lia)
theorem qX{A:Ly}(hA:Dih A)(a:A.e%4=0/\A.g%4=0){e:Int×Int}(h:b9 e.1 e.2=b5):b9 (aI A e).1 (aI A e).2=true:=(Ic VR VS VT hA a e).trans h
noncomputable def SH(w h:Int)(S:List ((Int×Int)×Str)):D:=.tup [.int w,.int h,.tup (S.map MD)]
theorem mN{e:Int×Int}(h:b9 e.1 e.2=b5):sA e≠sB e:=by
 have:=mM h;unfold sA sB;intro w;rcases this with⟨a,b⟩|⟨a,b,c⟩|⟨a,b,c⟩
 ·rw[if_pos a,if_pos a]at w;injection w with w1 w2;lia
 ·simp only[if_neg (show ¬ e.1%2=1 by lia),if_pos b]at w;injection w with w1 w2;lia
 ·simp only[if_neg (show ¬ e.1%2=1 by lia),if_neg (show ¬ e.2%4=0 by lia)]at w;injection w with w1 w2;lia
structure CrF(qs:jq)(F:Int×Int->Ly)(e:Int×Int):Prop where
 r:b9 e.1 e.2=b5
 a:sA e∈qs
 b:sB e∈qs
 m:F (sA e)=cD (gT e) (F (sB e))
theorem Pil.re{qs:jq}{g:Int×Int->Int×Int}{Z:Zr}(P:Pil qs g (GZ Z)){ks:jq}(a:ks.Perm (Z.map (·.1))):Pil qs g (GZ (hG Z ks)):=by
 have b:(Z.map (·.1)).Nodup:=by rw[<- d9];exact P.kd
 refine⟨by rw[d9,wK];exact a.nodup_iff.mpr b,λx c=>?_,λp=>by rw[HE b a];exact P.pm p⟩;obtain⟨z,d,rfl⟩:=XH.mp c;exact P.ne _ (XH.mpr ⟨z,BF b a d,rfl⟩)
theorem HI.re{e c:Hm}{a b:Nat}{Z:Zr}(I:HI e a Z)(p:e<+:c){ks:jq}(d:ks.Perm (Z.map (·.1)))(h:c[b]?=aX (.dT (aT (mK Z) ks))):HI c b (hG Z ks)/\c[b]?=aX (.dT (aM (hG Z ks))):=by
 have g:c[b]?=aX (.dT (aM (hG Z ks))):=by rw[Vq I.kd d];exact h
 exact⟨⟨.inl g,by rw[wK];exact d.nodup_iff.mpr I.kd,λz i=>aE p (I.at_ z (BF I.kd d i))⟩,g⟩
theorem Pil.turn{qs:jq}{g:Int×Int->Int×Int}{G K:Gr}(P:Pil qs g G)(k:(K.map (·.1)).Nodup)(i:(K.map (·.1)).Perm (G.map (·.1)))(h:∀x∈K,x.2.Perm (aO G x.1)):Pil qs g K:=by
 refine⟨k,λx a e=>?_,λp=>?_⟩
 ·obtain⟨y,j,b⟩:=XH.mp (i.mem_iff.mp (XH.mpr ⟨x,a,rfl⟩));have b:y.1=x.1:=b;have d:=h x a;rw[e,<- b,gZ P.kd j]at d;exact P.ne y j d.symm.eq_nil
 ·by_cases c:p∈K.map (·.1)
  ·obtain⟨x,a,rfl⟩:=XH.mp c;rw[gZ k a];exact(h x a).trans (P.pm x.1)
  ·rw[iU c,<- iU (G:=G) (p:=p) λw=>c (i.mem_iff.mpr w)];exact P.pm p
theorem VU{n:Int}(h:0<=n/\n<2147483647):(-(2^64)<n/\n<2^64)\/(-(2^64)<n/\n<2^64):=.inl ⟨by lia,by lia⟩
theorem VW(n c:Int):0<=(n*n+c)%2147483629/\(n*n+c)%2147483629<2147483647:=by have:=a0F (n*n+c) (show(2147483629:Int)≠0 by decide);have:=a0c (n*n+c) (show(0:Int)<2147483629 by decide);lia
theorem wN{a:Hm}{A B:Nat}{ds:List D}{Q:jz}(hA:a[A]?=aX (.lst ds))(hB:a[B]?=aX (.lst [])):W (aZ b5 (.loc A) (.loc B) a) Q↔Q (.bl (!ds.isEmpty),a):=by
 have b:∀{x:Nat}{xs:List D},a[x]?=aX (.lst xs)->e8 a (.loc x)=aX (.lst xs):=λh=>by simp only[e8,h]
 have e:cS 8 a (.loc A) (.loc B)=aX ds.isEmpty:=by show(e8 a (.loc A)).bind (λu=>(e8 a (.loc B)).bind λv=>jS (cS 7 a) u v)=_;rw[b hA,b hB];show iK (cS 7 a) ds []=_;cases ds<;>rfl
 unfold aZ;rw[e];exact W_some
theorem oW{n i:Nat}(h:i<n):iH n (i:Int)=aX i:=by unfold iH;rw[if_pos (by lia),if_pos (by lia)];rfl
noncomputable def BN(s:Str):Prop:=s="o"\/s="v"\/s="h"
theorem Ie(k:Nat)(i:Int)(a:Hm)(Q:jz):W (f (k+1) "is_whole" [.int i] a) Q↔Q (.bl b5,a):=by rw[T4,W_fin];simp only[w_mRet,w_mAndV,w_mNotV,w_mCall,w_mCons,dS,cL,fK,TU,TR,if_true,a0V]
theorem Ig(k:Nat){i:Int}(h:1<=i/\i<=6)(a:Hm)(Q:jz)(H:Q (.bl b5,a)):W (f (k+2) "is_size" [.int i] a) Q:=by rw[T9,W_fin];simp only[w_mRet,w_mAndV,w_mCall,w_mCons,dS,cL,fK,Ie,if_true,w_mChain,Tz,decide_eq_true h.1,decide_eq_true h.2];exact H
theorem VX(k:Nat){w h:Int}(hw:1<=w/\w<=6)(b:1<=h/\h<=6)(a:Hm)(Q:jz)(H:Q (.non,a)):W (f (k+3) "check_size" [.int w,.int h] a) Q:=by rw[Ua,W_fin];simp only[w_mIfS,w_mNotT,w_mAndT,w_mTru,w_mCall,w_mCons,dS,cL,c5];refine Ig k hw _ _ ?_;simp only[w_truB,if_true];refine Ig k b _ _ ?_;simp only[w_truB,a1f,Yb,if_false,w_mNext];exact H
theorem VY(k:Nat){s:Str}(h:BN s)(a:Hm)(Q:jz)(H:Q (.bl b5,a)):W (f (k+1) "is_mark" [.str s] a) Q:=by
 rw[Ub,W_fin];simp only[w_mRet,w_mAndV,w_mCall,w_mCons,dS,cL,fK,TV,if_true,w_mOp];have e:cB b4 (.str s) Bc a=aX (.bl b5,a):=by rcases h with rfl|rfl|rfl<;>rfl
 rw[e,W_some];exact H
theorem VZ(k:Nat){w h:Int}{e:Int×Int}(j:b9 e.1 e.2=b5)(h1:0<e.1/\e.1<4*w)(d:0<e.2/\e.2<4*h)(a:Hm)(Q:jz)(H:Q (.bl b5,a)):W (f (k+3) "is_inner_edge" [.int w,.int h,PP e] a) Q:=by
 rw[Ug,W_fin];simp only[w_mRet,w_mAndV,w_mCall,w_mCons,dS,cL,c5];rw[T5,W_fin];simp only[w_mRet,w_mAndV,w_mCall,w_mCons,dS,cL,c5,fK,w_mOp,w_instTB,if_true];rw[show fD [PP e] a=aX (.int 2,a)from rfl,W_some];simp only[w_eqI,beq_self_eq_true,if_true,PP,P,w_it20,w_it21,Ie];rw[Uc,W_fin];simp only[w_mRet,w_mAndV,w_mChain,cL,c5,fK,w_mOp,w_it20,w_it21,w_mul4,w_ltI,decide_eq_true h1.1,decide_eq_true h1.2,decide_eq_true d.1,decide_eq_true d.2,if_true];rw[GU,W_fin];simp only[w_mSeq,w_mRet,w_mIfS,w_mNext,w_mAndV,w_mTest,cL,c5,fK,w_mOp,w_it20,w_it21,sV,w_mod4,w_eqI,w_neI];have:=mM j;cases c:e.1%2==1 with
 |true=>
  simp only[if_true];have b:(e.2%2==1)=true:=by simp only[beq_iff_eq]at c ⊢;lia
  rw[b];exact H
 |false=>
  simp only[Yb,if_false];have g:¬ e.1%2=1:=by simpa using c
  have b:(e.2%2==0)=true:=by simp only[beq_iff_eq];lia
  have i:(e.1%4==e.2%4)=false:=by simp only[beq_eq_false_iff_ne];lia
  simp only[b,i,if_true,a0V];exact H
theorem V0(k:Nat){w h:Int}(hsz:(w,h)∈cJ){cr:jq}(mk:Int×Int->Str)(A:cr.length<64)(nd:cr.Nodup)(u:∀p∈cr,p∈aQ w h)(ok:∀p,BN (mk p))
  {c:Hm}{a:Nat}(q:c[a]?=aX (.lst (cr.map λe=>MD (e,mk e))))(Q:jz)(H:∀S b,c<+:b->Q (SH w h S,b)):W (f (k+4) "sheet_of" [.int w,.int h,.loc a] c) Q:=by
 have F:=eN _ hsz;refine dG (Uh (k+3) _ _ _ c) (Bh (bD rfl (VX k F.1 F.2.1 _ _ (bJ (w_mDNewT.mpr (fL (w_mForI.mpr (w_iSeq.mpr ⟨_,rfl,(eK (aE (aL _ _) q)).mpr ?_⟩))))))));refine gQ (λi g b=>∃x y,g=[aX (.int w),aX (.int h),aX (.loc a),aX (.loc c.length),x,y]/\c<+:b/\b[c.length]?=aX (.dT (aT (λe=>.str (mk e)) (cr.take i))))
  ⟨aY,aY,rfl,aL _ _,by rw[a2U];exact bA _ _⟩ (by rintro _ _ _ ⟨_,_,_,p,_⟩;exact aE p q) ?_ ?_
 ·rintro i d g b hd ⟨x,y,rfl,o,j⟩;rw[XR]at hd;obtain⟨p,m,rfl⟩:=XA.mp hd;have n:p∈cr:=X6 m;obtain⟨z,_,_,r,s⟩:=F.2.2.2.2.2.2.2 p (u p n);have l:p∉cr.take i:=mJ nd m;have v:(aT (λe=>.str (mk e)) (cr.take i)).length<XQ:=by rw[Xx,Zy,X2];lia
  refine⟨_,rfl,bJ (a8 rfl rfl (w_it20.mpr (Bi (Bj (mH (bD rfl (VZ k z r s _ _ ⟨rfl,rfl,Bk (Bi (Bj (mH (c7 (a7 (a8 rfl rfl (w_it21.mpr ⟨_,rfl,VY (k+2) (ok p) _ _ ⟨rfl,rfl,Bk (Bi (cM (a8 rfl rfl ((Gw j (bR p)).mpr ?_))))⟩⟩)))))))⟩)))))))⟩;rw[qS l];refine⟨_,rfl,rfl,Bk (w_mPut.mpr (a8 rfl rfl (w_it21.mpr ⟨_,rfl,_,rfl,(gH j (bR p) v).mpr ⟨_,_,rfl,cI o (XJ _) _,?_⟩⟩)))⟩;rw[bX j,tI (v:=λe=>.str (mk e)) l,eY m]
 ·rintro g b ⟨x,y,rfl,o,j⟩;rw[Xx,YS]at j;have e:vF (.loc c.length) b=aX (.tup (((eF cr).map λe=>(e,mk e)).map MD),b):=by simp only[vF,j];rw[if_pos (by first|exact trivial|(rw[Xx];lia)),Hy];unfold aT;rw[Yc,Yc];rfl
  exact⟨rfl,cZ (w_mTup.mpr (a7 ⟨_,rfl,a7 ⟨_,rfl,a7 (W_bind.mpr ⟨_,rfl,_,e,_,rfl,by show(3:Nat)<=XQ;decide,H _ _ o⟩)⟩⟩))⟩
noncomputable abbrev ND(x:(Int×Int)×(Int×Int)):D:=.tup [PP x.1,PP x.2]
noncomputable def hU(rs:jq)(q:Int×Int):List ((Int×Int)×(Int×Int)):=rs.flatMap λr=>if sA r=q then[(sB r,r)]else if sB r=q then[(sA r,r)]else[]
theorem V1(rs:jq)(r q:Int×Int):hU (rs++[r]) q=hU rs q++if sA r=q then[(sB r,r)]else if sB r=q then[(sA r,r)]else[]:=by unfold hU;rw[Z6,a3C,a2y,Yl]
theorem V2{rs:jq}{q:Int×Int}{x:(Int×Int)×(Int×Int)}(h:x∈hU rs q):x.2∈rs/\((sA x.2=q/\x.1=sB x.2)\/(sB x.2=q/\x.1=sA x.2)):=by
 obtain⟨r,b,a⟩:=a1x.mp h;split at a
 ·rename_i e;cases XX.mp a;exact⟨b,.inl ⟨e,rfl⟩⟩
 ·split at a
  ·rename_i e;cases XX.mp a;exact⟨b,.inr ⟨e,rfl⟩⟩
  ·cases a
theorem V3{rs:jq}{r p q:Int×Int}(h:r∈rs)(e:(sA r=p/\sB r=q)\/(sA r=q/\sB r=p)):∃x∈hU rs p,x.1=q:=by
 by_cases a:sA r=p
 ·refine⟨(sB r,r),a1x.mpr ⟨r,h,by rw[if_pos a];exact X8 ..⟩,?_⟩;rcases e with e|e
  ·exact e.2
  ·show sB r=q;rw[e.2,<- a,e.1]
 ·obtain⟨b,c⟩:=e.resolve_left λz=>a z.1;exact⟨(sA r,r),a1x.mpr ⟨r,h,by rw[if_neg a,if_pos c];exact X8 ..⟩,b⟩
theorem Ih(q:Int×Int):∀rs:jq,(hU rs q).length<=rs.length
 |[]=>XJ _|r::rs=>by
  show((if sA r=q then[(sB r,r)]else if sB r=q then[(sA r,r)]else[])++hU rs q).length<=_;have:=Ih q rs;rw[XI,Ym];split
  ·show 1+_<=_;lia
  ·split
   ·show 1+_<=_;lia
   ·show 0+_<=_;lia
structure Nr(μ:Hm)(a b:Nat)(qs:jq)(L:Int×Int->List ((Int×Int)×(Int×Int))):Prop where
 dic:μ[a]?=aX (.dT (aT (λq=>.loc (b+qs.idxOf q)) qs))
 at_:∀q∈qs,μ[b+qs.idxOf q]?=aX (.lst ((L q).map ND))
theorem Nr.more{d c:Hm}{a b:Nat}{qs:jq}{L:Int×Int->List ((Int×Int)×(Int×Int))}(N:Nr d a b qs L)(h:d<+:c):Nr c a b qs L:=⟨aE h N.dic,λq e=>aE h (N.at_ q e)⟩
theorem tK{qs:jq}{q:Int×Int}(h:q∈qs):qs.idxOf q<qs.length:=List.idxOf_lt_length_of_mem h
theorem V4{qs:jq}{p q:Int×Int}(c:p∈qs)(d:q∈qs)(e:qs.idxOf p=qs.idxOf q):p=q:=by have a:=a6e (tK c);have b:=a6e (tK d);rw[<- a,<- b];congr 1
theorem Nr.app{j:Hm}{a b:Nat}{qs:jq}{L c:Int×Int->List ((Int×Int)×(Int×Int))}(N:Nr j a b qs L){q:Int×Int}(i:q∈qs)(e:∀p∈qs,p≠q->c p=L p):Nr (j.set (b+qs.idxOf q) (.lst ((c q).map ND))) a b qs c:=by
 have d:=N.at_ q i;refine⟨?_,λp g=>?_⟩
 ·rw[XB (λz=>by rw[z,N.dic]at d;cases d)];exact N.dic
 ·by_cases h:p=q
  ·subst h;exact bX d
  ·rw[XB (λz=>h (V4 g i (by lia))),e p g h];exact N.at_ p g
theorem V5{qs:jq}(nd:qs.Nodup)(K:qs.length<=100){μ0 c:Hm}{l a:Nat}(u:μ0<+:c)(J:μ0.length<=a)(r:c[a]?=aX (.dT []))(gl:c[l]?=aX (.lst (qs.map PP))){v w y:Option D}{xs:List (Option D)}(Q:Fl×aF×Hm->Prop)
  (H:∀x b,μ0<+:b->c.length+qs.length<=b.length->Nr b a c.length qs (λ_=>[])->Q (.nx,v::w::y::aX (.loc a)::x::xs,b)) :
  W (dD (cH (.loc l)) (bP 4) (dN (aA 3) (aA 4) (b7 aD)) ((qs.map PP).length+1) 0 (v::w::y::aX (.loc a)::aY::xs) c) Q:=by
 have I:a<c.length:=(Xz.mp r).1;have s:l≠a:=λe=>by rw[e,r]at gl;cases gl
 refine gQ (λi g b=>∃x,g=v::w::y::aX (.loc a)::x::xs/\μ0<+:b/\b.length=c.length+i/\b[a]?=aX (.dT (aT (λq=>.loc (c.length+qs.idxOf q)) (qs.take i)))/\(∀j,j<i->b[c.length+j]?=aX (.lst []))/\b[l]?=aX (.lst (qs.map PP)))
  ⟨aY,rfl,u,rfl,r,λj E=>absurd E (a1P _),gl⟩ (by rintro _ _ _ ⟨_,_,_,_,_,_,h⟩;exact h) ?_ ?_
 ·rintro i d g b hd ⟨x,rfl,p,n,m,o,B⟩;obtain⟨q,k,rfl⟩:=gU hd;have hi:i<qs.length:=(Xz.mp k).1;have A:qs.idxOf q=i:=by rw[<- (Xz.mp k).2];exact nd.idxOf_getElem i hi
  refine⟨_,rfl,w_mPut.mpr (w_mLst.mpr ⟨_,rfl,Yu _,_,rfl,_,rfl,(gH (aE (aL _ _) m) (bR q) (by rw[Xx,Zy,X2];lia)).mpr ?_⟩)⟩;have G:dE (aT (λq=>.loc (c.length+qs.idxOf q)) (qs.take i)) (bG q) (.loc b.length)=aT (λq=>.loc (c.length+qs.idxOf q)) (qs.take (i+1)):=by rw[eY k,n,<- A];exact tI (v:=λq=>.loc (c.length+qs.idxOf q)) (by rw[A];exact mJ nd k)
  refine⟨_,rfl,cI (p.trans (aL _ _)) J _,by rw[YL,XI,n];rfl,?_,λj E=>?_,by rw[XB (Yn s)];exact aE (aL _ _) B⟩
  ·rw[bX (aE (aL _ _) m)];exact congrArg (λz=>aX (C.dT z)) G
  ·rw[XB (by lia)];by_cases e:j=i
   ·rw[e,<- n];exact bA _ _
   ·exact aE (aL _ _) (o j (by lia))
 ·rintro g b ⟨x,rfl,p,n,m,o,B⟩;rw[Xx]at n o;rw[Xx,YS]at m;exact H x b p (by lia) ⟨m,λq k=>o _ (tK k)⟩
theorem Ii{c:Hm}{a b:Nat}{qs:jq}(nd:qs.Nodup){L:Int×Int->List ((Int×Int)×(Int×Int))}(N:Nr c a b qs L){q:Int×Int}(o:q∈qs)(z:(L q).length<1000){g:aF}{i j m:Nat}{x y:Int×Int}(hi:g[i]?=aX (aX (PP q)))(u:g[j]?=aX (aX (PP x)))(w:g[m]?=aX (aX (PP y)))(s:g[3]?=aX (aX (.loc a)))
  {Q:jz}(H:∀k,k q=L q++[(x,y)]->(∀p,p≠q->k p=L p)->Nr (c.set (b+qs.idxOf q) (.lst ((k q).map ND))) a b qs k->Q (.non,c.set (b+qs.idxOf q) (.lst ((k q).map ND)))) :
  W (dQ eU (aB aJ (aA 3) (aA i)) (aC (bZ (aC (aA j) (aC (aA m) aD))) aD) g c) Q:=by
 have r:=N.at_ q o;have v:∀{n:Nat}{d:D}{c:Hm},g[n]?=aX (aX d)->aA n g c=aX (d,c):=λ{n d c} h=>by unfold aA;rw[h]
 refine iE (a8 (v s) (v hi) ((dU (.inl N.dic) (bR q) (fM nd o)).mpr ⟨gR r,w_mCons.mpr (w_mTup.mpr (w_mCons.mpr ⟨_,v u,w_mCons.mpr ⟨_,v w,_,rfl,eL,_,rfl,(kE r (by rw[Xx,X2];lia)).mpr ?_⟩⟩))⟩));have e:(λp=>if p=q then L q++[(x,y)]else L p) q=L q++[(x,y)]:=if_pos rfl;have:=H (λp=>if p=q then L q++[(x,y)]else L p) e (λp l=>if_neg l) (N.app o λp _ l=>if_neg l);rw[if_pos rfl,X4]at this;exact this
theorem V6(k:Nat){qs rs:jq}(nd:qs.Nodup)(hl:rs.length<=100)(X:∀r∈rs,b9 r.1 r.2=b5/\sA r∈qs/\sB r∈qs){μ0 n:Hm}{l a b:Nat}(v:μ0<+:n)(lb:μ0.length<=b)(ll:b+qs.length<=l)(N:Nr n a b qs λ_=>[])(gl:n[l]?=aX (.lst (rs.map PP))){w A B E:Option D}{xs:List (Option D)}(Q:Fl×aF×Hm->Prop)
  (H:∀x y z c,μ0<+:c->Nr c a b qs (hU rs)->Q (.nx,w::A::B::aX (.loc a)::E::x::y::z::xs,c)) :
  W (dD (cH (.loc l)) (bP 5) (GC (k+1)) ((rs.map PP).length+1) 0 (w::A::B::aX (.loc a)::E::aY::aY::aY::xs) n) Q:=by
 refine gQ (λi j c=>∃x y z,j=w::A::B::aX (.loc a)::E::x::y::z::xs/\μ0<+:c/\Nr c a b qs (hU (rs.take i))/\c[l]?=aX (.lst (rs.map PP))) ⟨aY,aY,aY,rfl,v,N,gl⟩ (by rintro _ _ _ ⟨_,_,_,_,_,_,h⟩;exact h) ?_ ?_
 ·rintro i d j c hd ⟨x,y,z,rfl,p,N,g⟩;obtain⟨r,m,rfl⟩:=gU hd;obtain⟨U,G,I⟩:=X r (X6 m);have ne:=mN U;have len:∀q,(hU (rs.take i) q).length<900:=λq=>by have:=Ih q (rs.take i);have:=YK i rs;lia
  refine⟨_,rfl,w_mSeq.mpr (w_mAsg.mpr (bD rfl (qW k r _ _ λb' Z u T=>(Gk T).mpr ?_)))⟩;refine Bh (Ii nd (N.more u) G (a1V (len _) (by decide)) rfl rfl rfl rfl λJ M o K=>w_mDrop.mpr ?_);have Y:(J (sB r)).length<1000:=by rw[o _ (Yn ne)];exact a1V (len _) (by decide)
  have ia:=tK G;have ib:=tK I;refine Ii nd K I Y rfl rfl rfl rfl λL2 O R L=>⟨_,_,_,rfl,cI (cI (p.trans u) (by lia) _) (by lia) _,?_,by rw[XB (by lia),XB (by lia)];exact aE u g⟩;have e:L2=hU (rs.take (i+1)):=funext λq=>by
   rw[eY m,V1];by_cases h:q=sB r
   ·rw[h,O,o _ (Yn ne),if_neg ne,if_pos rfl]
   ·rw[R _ h];by_cases s:q=sA r
    ·rw[s,M,if_pos rfl]
    ·rw[o _ s,if_neg (Yn s),if_neg (Yn h),Yl]
  rw[<- e];exact L
 ·rintro j c ⟨x,y,z,rfl,p,N,g⟩;rw[Xx,YS]at N;exact H x y z c p N
noncomputable def dH(r:Int×Int):Int:=if r.1%2=1 then(if r.1%4=r.2%4 then 2 else 3)else if r.2%4=0 then 0 else 1
theorem Ij(r:Int×Int):0<=dH r/\dH r<4:=by unfold dH;split<;>split<;>decide
theorem V7(k:Nat)(r:Int×Int)(a:Hm)(Q:jz)(H:Q (.int (dH r),a)):W (f (k+1) "_law_kind" [PP r] a) Q:=by
 rw[UG];unfold dH at H;refine wA rfl (Bg rfl (λh=>?_) λh=>?_)
 ·rw[if_pos (by simpa using h)]at H;by_cases e:r.1%4=r.2%4
  ·rw[if_pos e]at H;refine⟨_,rfl,?_⟩;simp only[beq_iff_eq.mpr e];exact H
  ·rw[if_neg e]at H;refine⟨_,rfl,?_⟩;simp only[beq_eq_false_iff_ne.mpr e];exact H
 ·rw[if_neg (by simpa using h)]at H;by_cases e:r.2%4=0
  ·rw[if_pos e]at H;refine⟨_,rfl,?_⟩;simp only[beq_iff_eq.mpr e];exact H
  ·rw[if_neg e]at H;refine⟨_,rfl,?_⟩;simp only[beq_eq_false_iff_ne.mpr e];exact H
structure LcF(F:Int×Int->Ly)(cr:jq)(r:Int×Int):Prop where
 y:r∈cr->F (sB r)=cD (bE (dH r) (eA (dH r) r)) (F (sA r))/\F (sA r)=cD (bE (dH r) (eA (dH r) r)) (F (sB r))
 n:r∉cr->F (sA r)=F (sB r)
theorem LcF.step{F:Int×Int->Ly}{cr:jq}{r p q:Int×Int}(h:LcF F cr r)(e:(sA r=p/\q=sB r)\/(sB r=p/\q=sA r)):(r∈cr->F q=cD (bE (dH r) (eA (dH r) r)) (F p))/\(r∉cr->F q=F p):=by
 rcases e with⟨rfl,rfl⟩|⟨rfl,rfl⟩
 ·exact⟨λz=>(h.y z).1,λz=>(h.n z).symm⟩
 ·exact⟨λz=>(h.y z).2,λz=>h.n z⟩
theorem BO(a:Hm)(q:Int×Int):∀ps:jq,jX a (PP q) (ps.map PP)=aX (ps.contains q)
 |[]=>rfl|p::ps=>by have e:cS 8 a (PP p) (PP q)=aX (p.1==q.1&&(p.2==q.2&&b5)):=rfl;show(cS 8 a (PP p) (PP q)).bind (λb=>(jX a (PP q) (ps.map PP)).map λc=>b||c)=_;rw[e,BO a q ps,List.contains_cons];show aX ((p.1==q.1&&(p.2==q.2&&b5))||ps.contains q)=_;congr 2;rw[a3p];rw[Zw];simp only[XG,beq_iff_eq];exact⟨λz=>YV z.1.symm z.2.symm,λz=>by rw[z];exact⟨rfl,rfl⟩⟩
theorem wO{b:Hm}{a:Nat}{ps:jq}{q:Int×Int}{Q:jz}(h:b[a]?=aX (.lst (ps.map PP))):W (cB b4 (PP q) (.loc a) b) Q↔Q (.bl (ps.contains q),b):=by
 have:cB b4 (PP q) (.loc a) b=aX (.bl (ps.contains q),b):=by simp only[cB,h,kP,bK,XY,BO,X3,Yb,if_false]
 rw[this];exact W_some
structure Sr(μ0:Hm)(F:Int×Int->Ly)(qs:jq)(c d:Nat)(K S:jq)(μ:Hm):Prop where
 pre:μ0<+:μ
 dic:μ[c]?=aX (.dT (aT (λq=>LD (F q)) K))
 row:μ[d]?=aX (.lst (S.map PP))
 nd:K.Nodup
 sub:∀q∈K,q∈qs
 st:∀q∈S,q∈K
noncomputable abbrev Rw(w h:Int)(c a n:Nat)(g j k l:Option D)(i b d e:Option D):aF:=[aX (.int w),aX (.int h),aX (.loc c),aX (.loc a),g,i,j,k,l,aX (.loc n),aX (.loc (n+1)),b,d,e]
theorem V8(k:Nat){F:Int×Int->Ly}(T:∀q,Dih (F q)){cr:jq}{μ0 i:Hm}{w h:Int}{c a n:Nat}(hc:μ0[c]?=aX (.lst (cr.map PP)))(G:μ0.length<=n)(p:μ0<+:i){K:jq}(nd:K.Nodup)(hl:K.length<900)(g:i[n]?=aX (.dT (aT (λq=>LD (F q)) K)))
  {b q r:Int×Int}(B:b∈K)(E:q∉K)(N:r∈cr->F q=cD (bE (dH r) (eA (dH r) r)) (F b))(O:r∉cr->F q=F b){I J L M A:Option D}(Q:Fl×aF×Hm->Prop)
  (H:∀x e,μ0<+:e->e[n]?=aX (.dT (aT (λq=>LD (F q)) (K++[q])))->(∀d y,i[d]?=aX y->d≠n->e[d]?=aX y)->Q (.nx,Rw w h c a n I J L M (aX (PP r)) (aX (PP b)) (aX (PP q)) x,e)) :
  W (GD (k+1) (Rw w h c a n I J L M (aX (PP r)) (aX (PP b)) (aX (PP q)) A) i) Q:=by
 have U:(aT (λq=>LD (F q)) K).length<XQ:=by rw[Xx,X2];lia
 refine w_mSeq.mpr (w_mPut.mpr (a8 rfl rfl ((dU (.inl g) (bR b) (fM nd B)).mpr ⟨_,rfl,_,rfl,(gH g (bR q) U).mpr ?_⟩)));have R:dE (aT (λq=>LD (F q)) K) (bG q) (LD (F b))=aT (λq=>LD (F q)) K++[(bG q,LD (F b))]:=HG (qS E);have j:(i.set n (.dT (dE (aT (λq=>LD (F q)) K) (bG q) (LD (F b)))))[n]?=aX (.dT (aT (λq=>LD (F q)) K++[(bG q,LD (F b))])):=by rw[bX g,R]
 have u:=cI p G (C.dT (dE (aT (λq=>LD (F q)) K) (bG q) (LD (F b))));have v:∀d y,i[d]?=aX y->d≠n->(i.set n (.dT (dE (aT (λq=>LD (F q)) K) (bG q) (LD (F b)))))[d]?=aX y:=λd y hd o=>by rw[XB (Yn o)];exact hd
 generalize i.set n (.dT (dE (aT (λq=>LD (F q)) K) (bG q) (LD (F b))))=μ1 at j u v;refine w_mIfS.mpr (cM (a8 rfl rfl ((wO (aE u hc)).mpr ⟨_,rfl,?_⟩)));by_cases s:r∈cr
 ·have X:bV (aT (λq=>LD (F q)) K++[(bG q,LD (F b))]) (bG b)=aX (LD (F b)):=by have:=fM (v:=λq=>LD (F q)) nd B;unfold bV at this ⊢;rw[List.find?_append,Option.map_or,this];rfl
  rw[if_pos (Yo.mpr s)];refine bJ (bD rfl (V7 k r _ _ ?_));refine w_mPut.mpr (c7 (a7 (c7 (a7 ⟨_,rfl,a7 (bD rfl (tB k r (dH r) (Ij r) _ _ λY l=>⟨_,rfl,?_⟩))⟩))));refine Hq k (dH r) _ (Ij r) _ _ λZ m=>a7 (a8 rfl rfl ((dU (.inl (aE (l.trans m) j)) (bR b) X).mpr ⟨_,rfl,?_⟩));refine(Hs k _ _ (qN _ _) (T b) _ _).mpr ⟨_,rfl,_,rfl,(gH (aE (l.trans m) j) (bR q) ?_).mpr ?_⟩
  ·rw[XI,Xx,X2];show K.length+1<_;lia
  ·refine H _ _ (cI (u.trans (l.trans m)) G _) ?_ λd y hd o=>by rw[XB (Yn o)];exact aE (l.trans m) (v d y hd o)
   rw[bX (aE (l.trans m) j),HH (qS E),<- N s,aT,aT,X4];rfl
 ·rw[if_neg (λz=>s (Yo.mp z))];refine w_mNext.mpr (H _ _ u ?_ v);rw[j,<- O s,aT,aT,X4];rfl
theorem V9{c:MT}{b:MS}{Q:Fl×aF×Hm->Prop}(I:Nat->aF->Hm->Prop)
  (u:∀m a g,I m a g->W (c a g) λp=>if p.1=b5 then W (b a p.2) λq=>match q.1 with
   |.nx=>∃e,e<m/\I e q.2.1 q.2.2|.ct=>∃e,e<m/\I e q.2.1 q.2.2|.bk=>Q (.nx,q.2.1,q.2.2)
   |.rt d=>Q (.rt d,q.2.1,q.2.2)else Q (.nx,a,p.2)):∀(n m:Nat)(a:aF)(g:Hm),m<n->I m a g->W (oG c b n a g) Q:=by
 intro n;induction n with
 |zero=>intro m a g h;lia|succ n l=>
  intro m a g z s;unfold oG;rw[W_bind];refine bI (u m a g s) λp k=>?_;obtain⟨v,w⟩:=p;cases v with
  |false=>exact W_some.mpr (by simpa using k)|true=>
   simp only[if_true]at k;dsimp only;rw[W_bind];refine bI k λq i=>?_;obtain⟨o,y,x⟩:=q;cases o with
   |nx=>obtain⟨e,r,j⟩:=i;exact l e _ _ (by lia) j|ct=>obtain⟨e,r,j⟩:=i;exact l e _ _ (by lia) j|bk=>exact W_some.mpr i|rt d=>exact W_some.mpr i
theorem Wa{c:MT}{b:MS}{a:aF}{e:Hm}{Q:Fl×aF×Hm->Prop}(I:Nat->aF->Hm->Prop)(m:Nat)(i:m<1000000000)(h:I m a e)
  (j:∀m a e,I m a e->W (c a e) λp=>if p.1=b5 then W (b a p.2) λq=>match q.1 with
   |.nx=>∃g,g<m/\I g q.2.1 q.2.2|.ct=>∃g,g<m/\I g q.2.1 q.2.2|.bk=>Q (.nx,q.2.1,q.2.2)
   |.rt d=>Q (.rt d,q.2.1,q.2.2)else Q (.nx,a,p.2)):W (pT qK c b a e) Q:=by
 unfold pT;exact V9 I j qK m a e (by unfold qK;exact i) h
theorem Sr.len{μ0:Hm}{F:Int×Int->Ly}{qs:jq}{c d:Nat}{K S:jq}{a:Hm}(I:Sr μ0 F qs c d K S a):K.length<=qs.length:=wL I.nd I.sub
theorem Wb(k:Nat){F:Int×Int->Ly}(hF:∀q,Dih (F q)){cr qs:jq}(lq:qs.length<=100){μ0 O:Hm}{w h:Int}{c a n m:Nat}(hc:μ0[c]?=aX (.lst (cr.map PP)))(ln:μ0.length<=n){L:List ((Int×Int)×(Int×Int))}(X:μ0[m]?=aX (.lst (L.map ND))){K S:jq}(lS:S.length<=100){b:Int×Int}(hh:b∈K)(I:Sr μ0 F qs n (n+1) K S O)
  (hL:∀x∈L,x.1∈qs/\(x.2∈cr->F x.1=cD (bE (dH x.2) (eA (dH x.2) x.2)) (F b))/\(x.2∉cr->F x.1=F b)){E G J M r g j:Option D}(Q:Fl×aF×Hm->Prop)
  (H:∀T r g j l,Sr μ0 F qs n (n+1) (K++T) (S++T) l->(∀x∈L,x.1∈K++T)->Q (.nx,Rw w h c a n E G J M r (aX (PP b)) g j,l)) :
  W (dD (cH (.loc m)) (cT [12,5]) (GF (k+1)) ((L.map ND).length+1) 0 (Rw w h c a n E G J M r (aX (PP b)) g j) O) Q:=by
 refine gQ (λi s l=>∃T r g j,s=Rw w h c a n E G J M r (aX (PP b)) g j/\Sr μ0 F qs n (n+1) (K++T) (S++T) l/\∀x∈L.take i,x.1∈K++T) ⟨[],r,g,j,rfl,by rw[Yl,Yl];exact I,λx B=>nomatch B⟩ (λ_ _ _ ⟨_,_,_,_,_,I,_⟩=>aE I.pre X) ?_ ?_
 ·rintro i d s l hd ⟨T,r,g,j,rfl,I,z⟩;rw[XR]at hd;obtain⟨x,B,rfl⟩:=XA.mp hd;obtain⟨Y,Z,h3⟩:=hL x (X6 B);refine⟨_,rfl,w_mIfS.mpr (cM (a8 rfl rfl ((Gw I.dic (bR x.1)).mpr ⟨_,rfl,?_⟩)))⟩;have N:=eY B;by_cases A:x.1∈K++T
  ·refine cV (by rw[fM I.nd A];rfl) (w_mNext.mpr ⟨T,_,_,_,rfl,I,λy p=>?_⟩);rw[N]at p;rcases Yq.mp p with p|p
   ·exact z y p
   ·rw[XX.mp p];exact A
  ·refine c4 (by rw[qS A];rfl) ?_;have lK:=I.len;have e0:T.length<=100:=by rw[XI]at lK;lia
   refine Bh (iE ⟨_,rfl,gR I.row,a7 ⟨_,rfl,_,rfl,(kE I.row (by rw[Xx,XI,X2];lia)).mpr ?_⟩⟩);have R:(S++T).map PP++[PP x.1]=(S++(T++[x.1])).map PP:=by rw[<- YO,X4 (l₂:=[x.1])];rfl
   rw[R];refine V8 k hF hc ln (cI I.pre (by lia) _) I.nd (by lia) (by rw[XB (by lia)];exact I.dic) (Y6 _ hh) A Z h3 _ λy μ2 p2 U k2=>?_;refine⟨T++[x.1],_,_,_,rfl,⟨p2,by rw[<- YO];exact U,k2 _ _ (bX I.row) (by lia),?_,λq o=>?_,λq o=>?_⟩,λy p=>?_⟩
   ·rw[<- YO,Y5];exact⟨I.nd,by simp,λu hu v hv e=>A (by rw[XX.mp hv]at e;exact e▸hu)⟩
   ·rw[<- YO]at o;rcases Yq.mp o with o|o
    ·exact I.sub q o
    ·rw[XX.mp o];exact Y
   ·rw[<- YO]at o ⊢;rcases Yq.mp o with o|o
    ·exact Y6 _ (I.st q o)
    ·exact YQ _ o
   ·rw[<- YO];rw[N]at p;rcases Yq.mp p with p|p
    ·exact Y6 _ (z y p)
    ·rw[XX.mp p];exact YQ _ (X8 ..)
 ·rintro s l ⟨T,r,g,j,rfl,I,z⟩;rw[Xx,YS]at z;exact H T r g j l I z
theorem Wc{b:Hm}{a:Nat}{xs:List D}{y:D}{Q:jz}(h:b[a]?=aX (.lst (xs++[y]))):W (pQ (.loc a) [] b) Q↔Q (y,b.set a (.lst xs)):=by simp only[pQ,h];simp[W_some]
theorem We(k:Nat){F:Int×Int->Ly}(hF:∀q,Dih (F q)){cr qs rs:jq}(nq:qs.Nodup)(lq:qs.length<=100)(hr:∀r∈rs,LcF F cr r/\sA r∈qs/\sB r∈qs){μ0 μ:Hm}{w h:Int}{c a b n:Nat}(hc:μ0[c]?=aX (.lst (cr.map PP)))(ln:μ0.length<=n)(N:Nr μ0 a b qs (hU rs)){f0:Int×Int}(I:Sr μ0 F qs n (n+1) [f0] [f0] μ)
  {M s O R U j l o:Option D}(Q:Fl×aF×Hm->Prop)(H:∀K s j l o p,Sr μ0 F qs n (n+1) K [] p->f0∈K->(∀q∈K,∀x∈hU rs q,x.1∈K)->Q (.nx,Rw w h c a n M O R U s j l o,p)) :
  W (pT qK (aV (aB (aZ b5) (aA 10) (b7 aD))) (GG (k+1)) (Rw w h c a n M O R U s j l o) μ) Q:=by
 refine Wa (λm B p=>∃K S s j l o,B=Rw w h c a n M O R U s j l o/\Sr μ0 F qs n (n+1) K S p/\S.Nodup/\f0∈K/\(∀q∈K,q∉S->∀x∈hU rs q,x.1∈K)/\m=2*(qs.length-K.length)+S.length) (2*(qs.length-1)+1) (by lia)
  ⟨[f0],[f0],_,_,_,_,rfl,I,by simp,X8 ..,λq g E=>absurd g E,rfl⟩ ?_
 rintro m B p ⟨K,S,s,j,l,o,rfl,I,y,hf,J,rfl⟩;refine cM (aN ⟨_,rfl,w_mLst.mpr ⟨_,rfl,Yu _,(wN (aE (aL _ _) I.row) (bA _ _)).mpr ⟨_,rfl,?_⟩⟩⟩);have i:Sr μ0 F qs n (n+1) K S (p++[C.lst []]):=⟨I.pre.trans (aL _ _),aE (aL _ _) I.dic,aE (aL _ _) I.row,I.nd,I.sub,I.st⟩;generalize p++[C.lst []]=μ1 at i;clear I;rcases List.eq_nil_or_concat S with rfl|⟨S,d,rfl⟩
 ·refine cV rfl ?_;exact H K s j l o μ1 i hf λq g=>J q g (by simp)
 ·rw[List.concat_eq_append]at y i J ⊢;have hb:(!((S++[d]).map PP).isEmpty)=true:=by simp
  refine c4 hb ?_;have hh:d∈K:=i.st d (by simp);have nh:d∉S:=λz=>by rw[Y5]at y;exact y.2.2 d z d (by simp) rfl
  have lS:(S++[d]).length<=100:=by have:=wL y (λq g=>i.sub q (i.st q g));lia
  rw[XI]at lS;have Z:=i.row;rw[X4]at Z;refine bJ (iE ⟨_,rfl,gR i.row,_,rfl,(Wc Z).mpr ?_⟩);have X:Sr μ0 F qs n (n+1) K S (μ1.set (n+1) (.lst (S.map PP))):=⟨cI i.pre (by lia) _,by rw[XB (by lia)];exact i.dic,bX i.row,i.nd,i.sub,λq g=>i.st q (Y6 _ g)⟩;have Y:=N.more X.pre;have g:=i.sub d hh;refine w_mForI.mpr (w_iSeq.mpr (a8 rfl rfl ((dU (.inl Y.dic) (bR d) (fM nq g)).mpr ((eK (Y.at_ d g)).mpr ?_))));refine Wb k hF lq hc ln (N.at_ d g) (by lia) hh X (λx A=>?_) _ λT y5 y12 y13 μ3 G hT=>?_
  ·obtain⟨h1,h2⟩:=V2 A;obtain⟨l1,q1,q2⟩:=hr x.2 h1;refine⟨?_,l1.step h2⟩;rcases h2 with⟨_,e⟩|⟨_,e⟩
   ·rw[e];exact q2
   ·rw[e];exact q1
  ·have lK:=G.len;rw[XI]at lK;have L:=G.nd;rw[Y5]at L;refine⟨_,?_,K++T,S++T,_,_,_,_,rfl,G,?_,Y6 _ hf,λq g E x A=>?_,rfl⟩
   ·rw[XI,XI,XI];show _<_+(_+1);lia
   ·rw[Y5];rw[Y5]at y;exact⟨y.1,L.2.1,λu hu v hv e=>L.2.2 u (i.st u (Y6 _ hu)) v hv e⟩
   ·by_cases e:q=d
    ·rw[e]at A;exact hT x A
    ·rcases Yq.mp g with g|g
     ·exact Y6 _ (J q g (λz=>(Yq.mp z).elim (λz=>E (Y6 _ z)) λz=>e (XX.mp z)) x A)
     ·exact absurd (YQ _ g) E
noncomputable def tL(q:Int×Int):Int×Int:=if q.1%4=1 then(if q.1=1 then(if q.2=2 then q else(q.1+1,q.2-1))else(q.1-2,q.2))else if q.1%4=3 then(q.1-1,q.2-1)else if q.2%4=3 then(q.1-1,q.2-1)else if q.2=1 then(q.1-1,q.2+1)else(q.1,q.2-2)
noncomputable def BP:Nat->Int×Int->Int×Int
 |0,q=>q|n+1,q=>BP n (tL q)
theorem BQ:∀p∈cJ,(∀q∈bF p.1 p.2,BP 30 q=(1,2)/\(q=(1,2)\/(tL q∈bF p.1 p.2/\((aQ p.1 p.2).any λr=>(sA r==tL q&&sB r==q)||(sA r==q&&sB r==tL q))=b5)))/\(bF p.1 p.2).head?=aX (1,2):=by decide +kernel
theorem Ik{w h:Int}(g:(w,h)∈cJ){K:jq}(b:(1,2)∈K)(c:∀q∈K,∀x∈hU (aQ w h) q,x.1∈K):∀(n:Nat)(q:Int×Int),q∈bF w h->BP n q=(1,2)->q∈K
 |0,q,_,e=>by rw[show q=(1,2)from e];exact b
 |n+1,q,hq,e=>by
  rcases((BQ _ g).1 q hq).2 with a|⟨a,i⟩
  ·rw[a];exact b
  ·have k:=Ik g b c n (tL q) a e;obtain⟨r,l,d⟩:=List.any_eq_true.mp i;simp only[Z2,XG,beq_iff_eq]at d;obtain⟨x,m,j⟩:=V3 l d;exact j▸c _ k x m
theorem Wg{b:Hm}{a:Nat}{v:Int×Int->D}{q:Int×Int}{qs:jq}{Q:jz}(h:b[a]?=aX (.dT (aT v (q::qs))))(d:((q::qs).map bG).Pairwise λx y=>HT.lexLt x y=b5):W (j6 [.loc a] b) Q↔Q (PP q,b):=by
 have e:((aT v qs).all λp=>!HT.lexLt p.1 (bG q))=true:=a0u.mpr λp c=>by obtain⟨x,g,rfl⟩:=XH.mp c;have:=(a0x.mp d).1 (bG x) (XH.mpr ⟨x,g,rfl⟩);rw[Z1];exact Vi this
 have:j6 [.loc a] b=aX (PP q,b):=by simp only[j6,h,aT,XS];rw[if_pos e];rfl
 rw[this];exact W_some
theorem Wh{i:Nat}{mv:ME}{b:aF}{a:Hm}{q:Int×Int}{y:D}{Q:jz}(h:b[i]?=aX (aX (PP q)))(c:∀a,mv b a=aX (y,a))(H:Q (.loc a.length,a++[.dT [(bG q,y)]])):W (qA (aA i) mv b a) Q:=by
 have:qA (aA i) mv b a=aX (.loc a.length,a++[.dT [(bG q,y)]]):=by unfold qA aA;simp only[h,XY,c,bA];rw[bR];show aX (D.loc a.length,(a++[C.dT []]).set a.length (C.dT [(bG q,y)]))=_;rw[Br]
 exact⟨_,this,H⟩
theorem oX{qs:jq}(up:(qs.map bG).Pairwise λx y=>HT.lexLt x y=b5):qs.Nodup:=by rw[List.pairwise_map]at up;exact up.imp λ{x y} h e=>by rw[e,rY]at h;exact X9 h
theorem Wi(k:Nat){w h:Int}(p:(w,h)∈cJ){F:Int×Int->Ly}(L:∀q,Dih (F q))(f0:F (1,2)=dO){cr:jq}(M:∀r∈aQ w h,LcF F cr r){g:Hm}{c:Nat}(hc:g[c]?=aX (.lst (cr.map PP)))(Q:jz)
  (H:∀a row l,g<+:l->l[a]?=aX (.dT (aT (λq=>LD (F q)) row))->row.Perm (bF w h)->Q (.loc a,l)):W (f (k+2) "_law_ways" [.int w,.int h,.loc c] g) Q:=by
 obtain⟨hw,x,y,_,up,z,_,fr⟩:=eN _ p;have up:=nK up;replace y:(bF w h).length<=48:=y;replace z:(aQ w h).length<=64:=z;have nd:(bF w h).Nodup:=oX up;refine dG (UH (k+1) _ _ _ g) (bJ (w_mDNewT.mpr (fL (w_mForI.mpr (w_iSeq.mpr (bD rfl (Hv k w h hw x _ _ ((eK (bA _ _)).mpr ?_))))))));refine V5 (μ0:=g) nd (by lia) ((aL _ _).trans (aL _ _)) (XJ _) (aE (aL _ _) (bA _ _)) (bA _ _) _ λX U E oT s=>⟨rfl,?_⟩;have B:g.length<=((g++[C.dT []])++[C.lst ((bF w h).map PP)]).length:=sU ((aL _ _).trans (aL _ _));generalize((g++[C.dT []])++[C.lst ((bF w h).map PP)]).length=b at oT s B;refine fL (w_mForI.mpr (w_iSeq.mpr (bD rfl (wM k w h hw x _ _ ((eK (bA _ _)).mpr ?_)))));refine V6 k (rs:=aQ w h) nd (by lia) (λr j=>⟨(fr r j).1,(fr r j).2.1,(fr r j).2.2.1⟩) (E.trans (aL _ _)) B oT (s.more (aL _ _)) (bA _ _) _ λY Z x7 d G v=>⟨rfl,?_⟩;clear s oT E;have hd:=(BQ _ p).2;obtain⟨n,i⟩:∃n,bF w h=(1,2)::n:=by
  cases e:bF w h with
  |nil=>rw[e]at hd;cases hd|cons q n=>rw[e]at hd;cases hd;exact⟨n,rfl⟩
 refine bJ (bD rfl ((Wg (q:=(1,2)) (qs:=n) (by rw[<- i];exact v.dic) (by rw[<- i];exact up)).mpr ?_));refine bJ (Wh (q:=(1,2)) (y:=LD dO) rfl (λ_=>rfl) (bJ (w_mLst.mpr ⟨_,rfl,oT,fL ?_⟩)));have N:(1,2)∈bF w h:=by rw[i];exact X8 ..
 have A:(d++[C.dT [(bG (1,2),LD dO)]]).length=d.length+1:=by simp
 rw[A];refine We k (μ0:=d) (n:=d.length) (f0:=(1,2)) L nd (by lia) (λr j=>⟨M r j,(fr r j).2.1,(fr r j).2.2.1⟩) (aE G hc) (XJ _) v ⟨(aL _ _).trans (aL _ _),?_,?_,by simp,λq m=>by rw[XX.mp m];exact N,λq m=>m⟩ _ ?_
 ·rw[aE (aL _ _) (bA _ _)];show _=aX (C.dT [(bG (1,2),LD (F (1,2)))]);rw[f0]
 ·rw[<- A];exact bA _ _
 ·intro K y5 O R T u o J I;refine⟨rfl,cZ ⟨_,rfl,H _ K u (G.trans o.pre) o.dic ?_⟩⟩;exact(a0U o.nd nd).mpr λq=>⟨o.sub q,λm=>Ik p J I 30 q m ((BQ _ p).1 q m).1⟩
noncomputable def fW(X:List Int):Nat->Int×Int
 |0=>(1,0)|c+1=>if(X.any λx=>x==4*((c:Int)+1))=b5 then(-(fW X c).1,(fW X c).1*(8*((c:Int)+1))+(fW X c).2)else fW X c
noncomputable def mO(X Y:List Int)(q:Int×Int):Ly:=⟨(fW X (q.1/4).toNat).1,0,0,(fW Y (q.2/4).toNat).1,(fW X (q.1/4).toNat).2,(fW Y (q.2/4).toNat).2⟩
theorem tP(X:List Int):∀c:Nat,((fW X c).1=1\/(fW X c).1=-1)/\(fW X c).2%4=0
 |0=>⟨.inl rfl,rfl⟩|c+1=>by
  obtain⟨a,b⟩:=tP X c;unfold fW;split
  ·dsimp only;rcases a with h|h<;>rw[h]<;>exact⟨by decide,by lia⟩
  ·exact⟨a,b⟩
theorem BR(X Y:List Int)(q:Int×Int):Dih (mO X Y q):=.inl ⟨rfl,rfl,(tP X _).1,(tP Y _).1⟩
noncomputable def k8(X Y:List Int)(r:Int×Int):Bool:=(r.1%4==0&&(r.2%4==2&&X.any λx=>x==r.1))||(r.2%4==0&&(r.1%4==2&&Y.any λx=>x==r.2))
theorem Il{X:List Int}{c d:Nat}{y:Int}(hd:d=c+1)(a:y=4*((c:Int)+1)):fW X d=if(X.any λx=>x==y)=b5 then(-(fW X c).1,(fW X c).1*(2*y)+(fW X c).2)else fW X c:=by subst hd a;show(if _ then(_,_*(8*((c:Int)+1))+_)else _)=_;rw[show(2:Int)*(4*((c:Int)+1))=8*((c:Int)+1) by lia]
theorem Im(a d e g y:Int):cD (bE 0 y) ⟨a,0,0,d,e,g⟩=⟨a,0,0,-d,e,d*(2*y)+g⟩:=by simp only[cD,bE,if_true,a5T,a5z,a5y,a1X,a3M,a8B];rfl
theorem Io(a d e g y:Int):cD (bE 1 y) ⟨a,0,0,d,e,g⟩=⟨-a,0,0,d,a*(2*y)+e,g⟩:=by simp only[cD,bE,show((1:Int)=0)=False from by simp,if_false,if_true,a5T,a5z,a5y,a1X,a3M,a8B];rfl
theorem Wj{X Y:List Int}{r:Int×Int}(p:b9 r.1 r.2=b5)(h1:0<r.1)(o:0<r.2){cr:jq}(hc:r∈cr↔k8 X Y r=b5):LcF (mO X Y) cr r:=by
 obtain⟨x,y⟩:=r;dsimp only at h1 o;unfold k8 at hc;rcases mM p with⟨c,b⟩|⟨c,b,d⟩|⟨c,b,d⟩<;>dsimp only at c b hc
 ·have i:(x%4==0)=false:=by rw[beq_eq_false_iff_ne];lia
  have j:(y%4==0)=false:=by rw[beq_eq_false_iff_ne];lia
  rw[i,j]at hc;refine⟨λz=>by simpa using hc.mp z,λ_=>?_⟩;unfold mO sA sB;dsimp only;rw[if_pos c,if_pos c];dsimp only;rw[show(y+2-y%4)/4=y/4 by lia,show(x+2-x%4)/4=x/4 by lia]
 ·dsimp only at d;have i:(x%4==0)=false:=by rw[beq_eq_false_iff_ne];lia
  have j:(y%4==0)=true:=by rw[beq_iff_eq];exact b
  have l:(x%4==2)=true:=by rw[beq_iff_eq];exact d
  rw[i,j,l]at hc;have k:dH (x,y)=0:=by unfold dH;dsimp only;rw[if_neg (by lia),if_pos b]
  have g:sA (x,y)=(x,y-1):=by unfold sA;dsimp only;rw[if_neg (by lia),if_pos b]
  have h:sB (x,y)=(x,y+1):=by unfold sB;dsimp only;rw[if_neg (by lia),if_pos b]
  have a:=Il (X:=Y) (c:=((y-1)/4).toNat) (d:=((y+1)/4).toNat) (y:=y) (by lia) (by lia);have n:(x,y)∈cr↔(Y.any λz=>z==y)=true:=hc.trans (by simp);refine⟨λz=>?_,λz=>?_⟩
  ·rw[k,g,h,show eA 0 (x,y)=y from rfl];rw[if_pos (n.mp z)]at a;unfold mO;dsimp only;rw[a,Im,Im,a8z,a8A,a5k];exact⟨rfl,rfl⟩
  ·rw[g,h];rw[if_neg (λe=>z (n.mpr e))]at a;unfold mO;dsimp only;rw[a]
 ·dsimp only at d;have i:(x%4==0)=true:=by rw[beq_iff_eq];exact d
  have j:(y%4==0)=false:=by rw[beq_eq_false_iff_ne];lia
  have l:(y%4==2)=true:=by rw[beq_iff_eq];exact b
  rw[i,j,l]at hc;have k:dH (x,y)=1:=by unfold dH;dsimp only;rw[if_neg (by lia),if_neg (by lia)]
  have g:sA (x,y)=(x-1,y):=by unfold sA;dsimp only;rw[if_neg (by lia),if_neg (by lia)]
  have h:sB (x,y)=(x+1,y):=by unfold sB;dsimp only;rw[if_neg (by lia),if_neg (by lia)]
  have a:=Il (X:=X) (c:=((x-1)/4).toNat) (d:=((x+1)/4).toNat) (y:=x) (by lia) (by lia);have m:(x,y)∈cr↔(X.any λz=>z==x)=true:=hc.trans (by simp);refine⟨λz=>?_,λz=>?_⟩
  ·rw[k,g,h,show eA 1 (x,y)=x from rfl];rw[if_pos (m.mp z)]at a;unfold mO;dsimp only;rw[a,Io,Io,a8z,a8A,a5k];exact⟨rfl,rfl⟩
  ·rw[g,h];rw[if_neg (λe=>z (m.mpr e))]at a;unfold mO;dsimp only;rw[a]
theorem Ip(a:Hm)(x:Int):∀ws:List Int,jX a (.int x) (ws.map D.int)=aX (ws.any λw=>w==x)
 |[]=>rfl|w::ws=>by rw[XS,a4X];show(cS 8 a (.int w) (.int x)).bind _=_;have e:cS 8 a (.int w) (.int x)=aX (w==x):=rfl;rw[e,Ip a x ws];rfl
theorem Wl{b:Hm}{a:Nat}{x:Int}{ws:List Int}{Q:jz}(h:b[a]?=aX (.lst (ws.map D.int))):W (cB b4 (.int x) (.loc a) b) Q↔Q (.bl (ws.any λw=>w==x),b):=by
 have e:cB b4 (.int x) (.loc a) b=aX (.bl (ws.any λw=>w==x),b):=by simp only[cB,kP,bK,h,XY,Ip,X3,Yb,if_false]
 rw[e];exact W_some
theorem Iq(k:Nat)(ns:List Int)(c m:Int)(hc:0<=c/\c<=50)(o:1<=m/\m<=6)(g:Hm)(Q:jz)(H:∀(X:List Int) a b,g<+:b->b[a]?=aX (.lst (X.map D.int))->Q (.loc a,b)):W (f (k+3) "_law_lines" [.rol (ns.map D.int),.int c,.int m] g) Q:=by
 refine dG (UI (k+2) _ _ _ g) (cZ (mF (xs:=iS 1 (m-1).toNat) (p:=λd=>decide (wJ ns (c+mS d)/16%3>0)) (v:=λd=>.int (4*mS d)) (w_iRng2.mpr ⟨_,rfl,by lia,Gm,by simp[iS],by rw[X2];simp[iS];lia,λd b hd e=>?_,λd b hd _ e=>?_,λb e h=>?_⟩)))
 ·obtain⟨j,i,rfl⟩:=Bf hd;exact cM (aN (aN (aN (bD rfl (Ht k ns _ (by lia) _ _ λn l=>⟨_,rfl,(iR (by decide) (by decide)).mpr ⟨_,rfl,(dY (by decide)).mpr ⟨_,rfl,w_gtI.mpr ⟨_,rfl,rfl,l⟩⟩⟩⟩)))))
 ·obtain⟨j,i,rfl⟩:=Bf hd;exact a8 rfl rfl (w_mul4.mpr ⟨rfl,Yw _⟩)
 ·refine H ((((iS 1 (m-1).toNat).filter λd=>decide (wJ ns (c+mS d)/16%3>0))).map λd=>4*mS d) _ _ e ?_;rw[Yc];exact h
theorem Ir{g:aF}{b i j a:Nat}{μ0 c:Hm}{Z:Zr}{p q:Int×Int}(l:g[b]?=aX (aX (.loc a)))(hi:g[i]?=aX (aX (PP p)))(n:g[j]?=aX (aX (PP q)))(I:GI μ0 c a Z)(m:Z.length<1000)(o:∀z∈Z,z.2.1.length<1000)(Q:Fl×aF×Hm->Prop)
  (H:∀k e,GI μ0 e a k->GZ k=dZ (GZ Z) p q->Bu a Z c e->(∀z∈k,(∃y∈Z,y.2.2=z.2.2)\/c.length<=z.2.2)->Q (.nx,g,e)):W (dN (aA b) (aA i) (aB bB (j4 iD (aA b) (aC (aA i) (aC (b7 aD) aD))) (b7 (aC (aA j) aD))) g c) Q:=by
 have v:∀{x:Nat}{d:D}(_:g[x]?=aX (aX d))(c:Hm),aA x g c=aX (d,c):=λh c=>by unfold aA;rw[h]
 refine w_mPut.mpr (aN (wD ⟨_,v l _,wF I.dic,w_mCons.mpr ⟨_,v hi _,w_mCons.mpr (w_mLst.mpr ⟨_,rfl,Yu _,_,rfl,?_⟩)⟩⟩));exact bI (U9 I p q m o _ H) λr s=>w_mLst.mpr (w_mCons.mpr ⟨_,v n _,_,rfl,oT,bI s λt u=>⟨_,v l _,_,v hi _,u⟩⟩)
theorem Wm(k:Nat){F:Int×Int->Ly}(T:∀q,Dih (F q)){qs row:jq}(K:row.Perm qs)(nd:qs.Nodup)(lq:qs.length<=100){μ0 n:Hm}{a b l:Nat}(O:μ0[a]?=aX (.dT (aT (λq=>LD (F q)) row)))(gl:n[l]?=aX (.lst (qs.map PP)))(p:μ0<+:n)(Y:μ0.length<=b)(R:n[b]?=aX (.dT [])){r s u v w A B E G:Option D}(Q:Fl×aF×Hm->Prop)
  (H:∀x y Z c,μ0<+:c->HI c b Z->c[b]?=aX (.dT (aM Z))->GZ Z=cN (λq=>aI (F q) q) qs->Q (.nx,[r,s,u,v,w,A,B,E,G,aX (.loc a),aX (.loc b),x,y],c)) :
  W (dD (cH (.loc l)) (bP 11) (GH (k+1)) ((qs.map PP).length+1) 0 [r,s,u,v,w,A,B,E,G,aX (.loc a),aX (.loc b),aY,aY] n) Q:=by
 refine gQ (λi j c=>∃x y Z,j=[r,s,u,v,w,A,B,E,G,aX (.loc a),aX (.loc b),x,y]/\GI μ0 c b Z/\GZ Z=cN (λq=>aI (F q) q) (qs.take i)/\c[l]?=aX (.lst (qs.map PP))/\∀z∈Z,l<z.2.2) ⟨aY,aY,[],rfl,⟨p,Y,R,ZF,ZF,λz g=>nomatch g⟩,rfl,gl,λz g=>nomatch g⟩ (by rintro _ _ _ ⟨_,_,_,_,_,_,h,_⟩;exact h) ?_ ?_
 ·rintro i d j c hd ⟨x,y,Z,rfl,I,m,gl,L⟩;obtain⟨q,J,rfl⟩:=gU hd;have sm:=Bw m (sY _ _);have lt:(qs.take i).length<=100:=Ys (YK _ _) lq;refine⟨_,rfl,bJ (c7 (a7 (a8 rfl rfl ((dU (.inl (aE I.pre O)) (bR q) (fM (K.nodup_iff.mpr nd) (K.mem_iff.mpr (X6 J)))).mpr ⟨_,rfl,(wI k (F q) (T q) q _ _).mpr ?_⟩))))⟩;refine Ir rfl rfl rfl I (by have:=sm.1;lia) (λz g=>by have:=sm.2 z g;lia) _ λN μ2 M o X nw=>⟨_,_,N,rfl,M,by rw[o,m,Bv J],X _ _ gl (λe=>by rw[e,I.dic]at gl;cases gl) (λz g=>YT (L z g)),λz g=>?_⟩;rcases nw z g with⟨y,U,e⟩|e
  ·rw[<- e];exact L y U
  ·exact Yh (Xz.mp gl).1 e
 ·rintro j c ⟨x,y,Z,rfl,I,m,_,_⟩;rw[Xx,YS]at m;exact H x y Z c I.pre I.hi I.dic m
structure Wf(w h:Int)(F:Int×Int->Ly):Prop where
 di:∀q,Dih (F q)
 lt:∀q,(F q).e%4=0/\(F q).g%4=0
 ed:∀e∈aQ w h,F (sA e)=F (sB e)\/F (sA e)=cD (gT e) (F (sB e))
structure Dr(qs:jq)(μ:Hm)(a b:Nat)(F:Int×Int->Ly)(row:jq)(Z:Zr):Prop where
 hw:μ[a]?=aX (.dT (aT (λq=>LD (F q)) row))
 hr:row.Perm qs
 hi:HI μ b Z
 hh:μ[b]?=aX (.dT (aM Z))
 pl:Pil qs (λq=>aI (F q) q) (GZ Z)
theorem Dr.more{qs:jq}{e c:Hm}{a b:Nat}{F:Int×Int->Ly}{row:jq}{Z:Zr}(d:Dr qs e a b F row Z)(p:e<+:c):Dr qs c a b F row Z:=⟨aE p d.hw,d.hr,d.hi.more p,aE p d.hh,d.pl⟩
theorem Iu{r:Int×Int}(d:b9 r.1 r.2=b5):bE (dH r) (eA (dH r) r)=gT r:=by
 refine G4 λp=>?_;rw[HS,nI];obtain⟨x,y⟩:=r;obtain⟨u,v⟩:=p;unfold eW dH eA;rcases mM d with⟨a,b⟩|⟨a,b,c⟩|⟨a,b,c⟩<;>dsimp only at a b ⊢
 ·simp only[if_pos a];by_cases h:x%4=y%4
  ·simp only[if_pos h];refine YV ?_ ?_<;>simp<;>lia
  ·simp only[if_neg h];refine YV ?_ ?_<;>simp<;>lia
 ·simp only[if_neg (show ¬ x%2=1 by lia),if_pos b];refine YV ?_ ?_<;>simp
 ·simp only[if_neg (show ¬ x%2=1 by lia),if_neg (show ¬ y%4=0 by lia)];refine YV ?_ ?_<;>simp
theorem oY{a:Type}{o:Option a}{x:a}(h:W o λr=>r=x):o=aX x:=by obtain⟨r,e,rfl⟩:=h;exact e
section
variable{ρ:aF}{μ:Hm}
theorem tQ{s t:MT}{b c:Bool}(a:s ρ μ=aX (b,μ))(d:t ρ μ=aX (c,μ)):eH s t ρ μ=aX (b&&c,μ):=oY (w_mAndT.mpr ⟨_,a,by cases b with|true=>exact c4 rfl ⟨_,d,rfl⟩|false=>exact cV rfl rfl⟩)
theorem Wn{s t:MT}{b c:Bool}(a:s ρ μ=aX (b,μ))(d:t ρ μ=aX (c,μ)):iJ s t ρ μ=aX (b||c,μ):=oY (w_mOrT.mpr ⟨_,a,by cases b with|true=>exact c4 rfl rfl|false=>exact cV rfl ⟨_,d,rfl⟩⟩)
theorem wQ{i:Nat}{z c:Int}(h:aA i ρ μ=aX (.int z,μ)):aV (aB (aZ b4) (aB bH (aA i) (mC (.int 4))) (mC (.int c))) ρ μ=aX (z%4==c,μ):=oY (cM (aN (a8 h rfl (w_mod4.mpr ⟨_,rfl,w_eqI.mpr ⟨_,rfl,rfl⟩⟩))))
theorem vA{i j a:Nat}{z:Int}{X:List Int}(b:μ[a]?=aX (.lst (X.map D.int)))(h:aA i ρ μ=aX (.int z,μ))(c:aA j ρ μ=aX (.loc a,μ)):aV (aB (cB b4) (aA i) (aA j)) ρ μ=aX (X.any λx=>x==z,μ):=oY (cM (a8 h c ((Wl b).mpr ⟨_,rfl,rfl⟩)))
end
theorem Wo{X Y:List Int}{r:Int×Int}{c:Hm}{a b:Nat}(d:c[a]?=aX (.lst (X.map D.int)))(e:c[b]?=aX (.lst (Y.map D.int))){g h i j k:Option D}{xs:List (Option D)}{Q:Bool×Hm->Prop}(H:Q (k8 X Y r,c)) :
  W (iJ (eH (aV (aB (aZ b4) (aB bH (aA 7) (mC (.int 4))) (mC (.int 0)))) (eH (aV (aB (aZ b4) (aB bH (aA 8) (mC (.int 4))) (mC (.int 2)))) (aV (aB (cB b4) (aA 7) (aA 3))))) (eH (aV (aB (aZ b4) (aB bH (aA 8) (mC (.int 4))) (mC (.int 0)))) (eH (aV (aB (aZ b4) (aB bH (aA 7) (mC (.int 4))) (mC (.int 2)))) (aV (aB (cB b4) (aA 8) (aA 4)))))
   (g::h::i::aX (.loc a)::aX (.loc b)::j::k::aX (.int r.1)::aX (.int r.2)::xs) c) Q:=
 ⟨_,Wn (tQ (wQ rfl) (tQ (wQ rfl) (vA d rfl rfl))) (tQ (wQ rfl) (tQ (wQ rfl) (vA e rfl rfl))),H⟩
theorem Wq:∀p∈cJ,((aQ p.1 p.2).filter λe=>e.1%2==0).length<=48:=by decide +kernel
theorem Iv{c:Type}{p q:c->Bool}:∀{l:List c},(∀x∈l,p x=b5->q x=b5)->(l.filter p).length<=(l.filter q).length
 |[],_=>XJ _|x::l,h=>by
  have g:=Iv (l:=l) λy e=>h y (X7 _ e);have d:=h x (X8 ..);by_cases a:p x=b5
  ·rw[YD a,YD (d a),Ym,Ym];lia
  ·rw[YE a];refine Ys g ?_;by_cases b:q x=b5
   ·rw[YD b];exact a3a _
   ·rw[YE b];exact XJ _
theorem Iw(k:Nat)(ns:List Int){w h:Int}(E:(w,h)∈cJ)(G:Hm)(Q:jz)(H:∀a b F row Z c,G<+:c->Dr (bF w h) c a b F row Z->Wf w h F->(fE w h F).length<=48->Q (.tup [.loc a,.loc b],c)):W (f (k+4) "_law_grid" [.rol (ns.map D.int),.int w,.int h] G) Q:=by
 obtain⟨hw,J,K,_,up,L,_,fr⟩:=eN _ E;replace K:(bF w h).length<=48:=K;replace L:(aQ w h).length<=64:=L;have up:=nK up;have nd:(bF w h).Nodup:=oX up;refine dG (UJ (k+3) _ _ _ G) (bJ (bD rfl (Iq k ns 10 w (by decide) hw _ _ λX T μ1 p1 gX=>bJ (bD rfl (Iq k ns 20 h (by decide) J _ _ λY U g M gY=>?_)))));refine bJ (w_mLst.mpr ⟨_,rfl,Yu _,fL (w_mForI.mpr (w_iSeq.mpr (bD rfl (wM (k+2) w h hw J _ _ ((eK (bA _ _)).mpr ?_)))))⟩);have g0:((g++[C.lst []])++[C.lst ((aQ w h).map PP)])[g.length]?=aX (.lst []):=aE (aL _ _) (bA _ _);refine gQ (λi l c=>∃x y z,l=[aX (.rol (ns.map D.int)),aX (.int w),aX (.int h),aX (.loc T),aX (.loc U),aX (.loc g.length),x,y,z,aY,aY,aY,aY]/\g<+:c/\c[g.length]?=aX (.lst ((((aQ w h).take i).filter (k8 X Y)).map PP))/\c[(g++[C.lst []]).length]?=aX (.lst ((aQ w h).map PP)))
  ⟨aY,aY,aY,rfl,(aL _ _).trans (aL _ _),g0,bA _ _⟩ (by rintro _ _ _ ⟨_,_,_,_,_,_,h⟩;exact h) ?_ ?_
 ·rintro i d l c hd ⟨x,y,z,rfl,p,j,A⟩;obtain⟨r,n,rfl⟩:=gU hd;have O:=eY n;refine⟨_,rfl,w_mSeq.mpr (w_mAsg.mpr ⟨_,rfl,w_gTup2.mpr (w_mIfS.mpr (Wo (aE (M.trans p) gX) (aE p gY) (r:=r) ?_))⟩)⟩;cases o:k8 X Y r with
  |false=>refine cV rfl (w_mNext.mpr ⟨_,_,_,rfl,p,?_,A⟩);rw[O,Zb,YE (by rw[o];exact X9),a0E,Yl];exact j|true=>
   refine c4 rfl (w_mDrop.mpr (iE ⟨_,rfl,gR j,w_mCons.mpr ⟨_,rfl,_,rfl,(kE j ?_).mpr ⟨_,_,_,rfl,cI p (XJ _) _,?_,?_⟩⟩⟩))
   ·rw[Xx,X2];have:=YM (k8 X Y) ((aQ w h).take i);have:=YK i (aQ w h);lia
   ·rw[bX j,O,Zb,YD o,a0E,X4];rfl
   ·rw[XB (by rw[XI];show _≠_+1;lia)];exact A
 ·rintro l μ3 ⟨x,y,z,rfl,p3,j,A⟩;rw[Xx,YS]at j;have s:∀r∈aQ w h,LcF (mO X Y) ((aQ w h).filter (k8 X Y)) r:=λr n=>Wj (fr r n).1 (fr r n).2.2.2.1.1 (fr r n).2.2.2.2.1 (by rw[Yp];exact and_iff_right n);refine⟨rfl,bJ (bD rfl (Wi (k+1) E (BR X Y) rfl s j _ λa row μ4 p4 B u=>?_))⟩;have lr:row.length=(bF w h).length:=u.length_eq;refine bJ (w_mDNewT.mpr (fL (w_mForI.mpr (w_iSeq.mpr (bD rfl ((BB (aE (aL _ _) B) (by lia)).mpr ?_))))));have v:=qT row;have sl:=v.length_eq;refine(eK (bA _ _)).mpr ?_;refine Wm (k+2) (BR X Y) v.symm ((v.trans u).nodup_iff.mpr nd) (by lia) B (bA _ _) ((aL _ _).trans (aL _ _)) (XJ _) (aE (aL _ _) (bA _ _)) _ λx y Z I N R g5 eG=>⟨rfl,cZ (w_mTup.mpr ⟨_,rfl,eL,?_⟩)⟩;refine H _ _ (mO X Y) row Z I (p1.trans (M.trans (p3.trans (p4.trans N)))) ⟨aE N B,u,R,g5,by rw[eG];exact groups_pil.of (v.trans u)⟩ ⟨BR X Y,λq=>⟨(tP X _).2,(tP Y _).2⟩,λe m=>?_⟩ ?_;rotate_left
  ·refine Ys (Iv λe m hc=>?_) (Wq _ E);refine beq_iff_eq.mpr (a3U λhn=>?_);have o:k8 X Y e=false:=by unfold k8;have r:=mM (fr e m).1;rw[show(e.1%4==0)=b4 by rw[beq_eq_false_iff_ne];lia,show(e.2%4==0)=b4 by rw[beq_eq_false_iff_ne];lia];rfl
   have:=(s e m).n (λz=>by rw[(Yp.mp z).2]at o;cases o);rw[this]at hc;simp at hc
  by_cases hc:e∈(aQ w h).filter (k8 X Y)
  ·rw[<- Iu (fr e m).1];exact .inr ((s e m).y hc).2
  ·exact .inl ((s e m).n hc)
theorem Iy(u:Int){n:Int}(a:n%4=0){A:Ly}(h:A.e%4=0/\A.g%4=0):(cD A (bE u n)).e%4=0/\(cD A (bE u n)).g%4=0:=by
 unfold cD bE;split
 ·dsimp only;lia
 split
 ·dsimp only;lia
 split
 ·dsimp only;lia
 ·dsimp only;lia
theorem Wr{w h:Int}(hw:1<=w/\w<=3)(c:1<=h/\h<=3):(w,h)∈cJ:=by
 have a:=qP hw;have b:=qP c;revert w h;intro w h _ _ a b;have:∀w∈[(1:Int),2,3],∀h∈[(1:Int),2,3],(w,h)∈cJ:=by decide
 exact this w a h b
theorem Ws:∀w∈[(3:Int),4,5,6],∀h∈[(1:Int),2],(w,h)∈cJ/\(h,w)∈cJ:=by decide
theorem Wt(v:Int):3+v%4∈[(3:Int),4,5,6]:=by
 have:v%4=0\/v%4=1\/v%4=2\/v%4=3:=by lia
 rcases this with h|h|h|h<;>rw[h]<;>decide
theorem Wu(v:Int):1+v%2∈[(1:Int),2]:=by
 have:v%2=0\/v%2=1:=by lia
 rcases this with h|h<;>rw[h]<;>decide
theorem BS{w h:Int}{a b:Nat}{c:Hm}{Q:jz}(H:Q (.tup [.int w,.int h,.loc a,.loc b],c)):W (bB (.tup [.int w,.int h]) (.tup [.loc a,.loc b]) c) Q:=(Hr ⟨by simp,by simp,by show(4:Nat)<=XQ;decide⟩).mpr H
theorem Wv:∀w∈[(1:Int),2,3],∀h∈[(1:Int),2,3],(aQ w h).length<=48:=by decide +kernel
noncomputable def oZ(h:Int)(x:Int):jq:=(YN (4*h-1).toNat).map λ(j:Nat)=>(x,1+(j:Int))
noncomputable def nQ(h:Int)(n:Nat):jq:=(YN n).flatMap λ(i:Nat)=>oZ h (1+(i:Int))
noncomputable def tR(w h:Int):jq:=nQ h (4*w-1).toNat
theorem Iz(h:Int)(n:Nat):nQ h (n+1)=nQ h n++oZ h (1+(n:Int)):=by unfold nQ;rw[a2M,Z6];simp
theorem IA(h x:Int):(oZ h x).length=(4*h-1).toNat:=by unfold oZ;simp
theorem BU(h:Int):∀n:Nat,(nQ h n).length=n*(4*h-1).toNat
 |0=>by simp[nQ]
 |n+1=>by rw[Iz,XI,BU h n,IA,a3J]
theorem IC{h:Int}(b:h<=6){n:Nat}(a:n<=23):n*(4*h-1).toNat<=529:=by have:n*(4*h-1).toNat<=23*23:=a1s a (by lia);lia
theorem Ww(h x:Int):((iS 1 (4*h-1).toNat).filter λ_=>b5).map (λd=>P x (mS d))=(oZ h x).map PP:=by unfold iS oZ;rw[show ∀l:List D,l.filter (λ_=>b5)=l from λl=>by simp,Yc,Yc];rfl
theorem Wx(k:Nat)(w h:Int)(hw:1<=w/\w<=6)(s:1<=h/\h<=6)(e:Hm)(Q:jz)(H:∀a b,e<+:b->b[a]?=aX (.lst ((tR w h).map PP))->e.length<=a->Q (.loc a,b)):W (f (k+1) "places_within" [.int w,.int h] e) Q:=by
 rw[Ud,W_fin];simp only[w_mSeq,w_mSet,w_mLst,dS];refine⟨Yu _,?_⟩;simp only[Y2,Za,w_mForI,w_iRng2,w_mCons,dS,fK,w_mOp,cL,c5,w_mul4];refine⟨by lia,?_⟩;refine oS (lo:=1) (λi q b=>e<+:b/\b[e.length]?=aX (.lst ((nQ h i).map PP))/\∃o,q=[aX (.int w),aX (.int h),aX (.loc e.length),o]) ⟨aL _ _,bA _ _,aY,rfl⟩ ?_ ?_
 ·rintro i q p hi ⟨n,g,o,rfl⟩;refine⟨_,rfl,?_⟩;simp only[Y2,Za,w_mDrop];refine iE ?_;simp only[cL,c5];refine⟨gR g,?_⟩;simp only[w_mCons,dS];refine mF (xs:=iS 1 (4*h-1).toNat) (p:=λ_=>b5) (v:=λd=>P (1+(i:Int)) (mS d)) ?_;simp only[w_iRng2,w_mCons,dS,fK,w_mOp,cL,c5,w_mul4];refine⟨by lia,Gm,by simp[iS],by rw[X2];simp[iS];lia,?_,?_,?_⟩
  ·intro d b hd n;exact w_mTrue.mpr ⟨rfl,Yw _⟩
  ·intro d b hd _ n;obtain⟨j,v,rfl⟩:=Bf hd;simp only[a0a,a0C,w_mTup,w_mCons,dS,cL,c5,eL,true_and];exact⟨rfl,Yw _⟩
  ·intro u c l;rw[Ww]at l;have m:((nQ h i).map PP).length+((oZ h (1+(i:Int))).map PP).length<=XQ:=by have r:=IC (h:=h) s.2 (n:=i+1) (by lia);rw[a3J]at r;rw[Xx,Xx,BU,IA,X2];lia
   refine(Gq (aE c g) l m).mpr ?_;refine⟨cI (n.trans c) (XJ _) _,?_,_,rfl⟩;rw[YA (Xz.mp (aE c g)).1,Iz,X4]
 ·rintro q p ⟨n,g,o,rfl⟩;simp only[w_mRet,cL,c5];exact H _ _ n g (XJ _)
theorem Wy{w h:Int}(hw:w<=6)(a:h<=6):(tR w h).length<=529:=by unfold tR;rw[BU];exact IC a (by lia)
noncomputable def qY(p:Int×Int):Bool:=if p.1%2=1 then p.2%2==1 else p.2%2==0&&!(p.1%4==p.2%4)
theorem Wz(k:Nat)(x y:Int)(a:Hm)(Q:jz):W (f (k+1) "is_edge" [P x y] a) Q↔Q (.bl (qY (x,y)),a):=by
 rw[GU,W_fin];simp only[w_mSeq,w_mRet,w_mNext,w_mIfS,w_mTest,w_mAndV,w_mOp,fK,cL,w_it20,w_it21,w_eqI,w_neI,sV,w_mod4];unfold qY;by_cases h:x%2=1
 ·simp[h]
 ·have e:(x%2==1)=false:=by simpa using h
  simp only[e,h,Yb,if_false];cases y%2==0<;>simp
theorem WA:∀p∈cJ,(tR p.1 p.2).filter qY=aQ p.1 p.2:=by decide +kernel
theorem WB(k:Nat){w h:Int}(j:(w,h)∈cJ)(e:Hm)(Q:jz)(H:∀a b,e<+:b->b[a]?=aX (.lst ((aQ w h).map PP))->Q (.loc a,b)):W (f (k+2) "edges_in" [.int w,.int h] e) Q:=by
 obtain⟨hw,i,_⟩:=eN _ j;refine dG (Ue (k+1) _ _ e) (cZ (mF (xs:=(tR w h).map PP) (p:=λd=>qY (gJ d)) (v:=λd=>d) (w_iSeq.mpr (bD rfl (Wx _ w h hw i _ _ λa n m g o=>(eK g).mpr ⟨qL g,rfl,?_,λd b hd c=>?_,λd b hd _ c=>⟨_,rfl,rfl,Yw _⟩,λb c l=>?_⟩)))))
 ·have:=Wy (w:=w) (h:=h) hw.2 i.2;rw[Xx,X2];lia
 ·obtain⟨u,v,rfl⟩:=GV hd;exact mH (b:=qY (u,v)) (bD rfl ((Wz k u v _ _).mpr ⟨rfl,rfl,Yw _⟩))
 ·refine H _ _ (m.trans c) ?_;rw[l,sW qY,WA _ j]
noncomputable def fN(e:Int×Int):jq:=(jN e).filter c8
theorem kH{e:Int×Int}(h:b9 e.1 e.2=b5):∃s t,fN e=[s,t]/\s≠t/\((s=sA e/\t=sB e)\/(s=sB e/\t=sA e)):=by
 rcases VQ h with a|a
 ·exact⟨_,_,a,mN h,.inl ⟨rfl,rfl⟩⟩
 ·exact⟨_,_,a,Yn (mN h),.inr ⟨rfl,rfl⟩⟩
theorem ID{e:Int×Int}(h:b9 e.1 e.2=b5):eW e e=e:=by
 obtain⟨x,y⟩:=e;unfold eW;rcases mM h with⟨a,b⟩|⟨a,b,c⟩|⟨a,b,c⟩<;>dsimp only at a b ⊢
 ·by_cases h:x%4=y%4
  ·simp only[if_pos a,if_pos h];refine YV ?_ ?_<;>dsimp only<;>lia
  ·simp only[if_pos a,if_neg h];refine YV ?_ ?_<;>dsimp only<;>lia
 ·simp only[if_neg (show ¬ x%2=1 by lia),if_pos b];refine YV ?_ ?_<;>dsimp only<;>lia
 ·simp only[if_neg (show ¬ x%2=1 by lia),if_neg (show ¬ y%4=0 by lia)];refine YV ?_ ?_<;>dsimp only<;>lia
noncomputable def aS(F:Int×Int->Ly)(e:Int×Int):Int×Int:=aI (F (sA e)) e
theorem wR{F:Int×Int->Ly}{e:Int×Int}(h:b9 e.1 e.2=b5)(hd:F (sA e)=F (sB e)\/F (sA e)=cD (gT e) (F (sB e))):aI (F (sB e)) e=aS F e:=by
 unfold aS;rcases hd with hd|hd
 ·rw[hd]
 ·rw[hd,mI,nI,ID h]
theorem WC(k t:Nat){w h:Int}(U:(w,h)∈cJ){S:List ((Int×Int)×Str)}{F:Int×Int->Ly}(wf:Wf w h F){row:jq}(K:row.Perm (bF w h))(nd:(bF w h).Nodup){l:Hm}(ht:l[t]?=aX (.dT (aT (λq=>LD (F q)) row)))(Q:jz)
  (H:∀a Z j,GI l j a Z->GZ Z=cN (aS F) (aQ w h)->Q (.loc a,j)):W (f (k+3) "edges_laid" [SH w h S,.loc t] l) Q:=by
 obtain⟨_,_,_,_,_,X,_,fr⟩:=eN _ U;replace X:(aQ w h).length<=64:=X;refine dG (Uj (k+2) _ _ l) (bJ (w_mDNewT.mpr (fL (w_mForI.mpr (w_iSeq.mpr (bD rfl (WB k U _ _ λb u p1 v=>(eK v).mpr ?_)))))));have M:u[l.length]?=aX (.dT []):=aE p1 (bA _ _);have I0:GI l u l.length []:=⟨(aL _ _).trans p1,XJ _,M,ZF,ZF,λz m=>nomatch m⟩;have J:b≠l.length:=λe=>by rw[e,M]at v;cases v
 refine gQ (λi A j=>∃Z Y,GI l j l.length Z/\GZ Z=cN (aS F) ((aQ w h).take i)/\j[b]?=aX (.lst ((aQ w h).map PP))/\(∀z∈Z,b<z.2.2)/\A=[aX (SH w h S),aX (.loc t),aX (.loc l.length),Y]) ⟨[],aY,I0,rfl,v,(λz m=>nomatch m),rfl⟩ (λi A j h=>let⟨Z,o2,_,_,g,_⟩:=h;g) ?_ ?_
 ·rintro i d A L hd ⟨Z,Y,I,o,G,n,rfl⟩;obtain⟨e,O,rfl⟩:=gU hd;have R:=X6 O;obtain⟨r1,q1,q2,_⟩:=fr e R;obtain⟨s,t',es,_,E⟩:=kH r1;have p:s∈row/\aI (F s) e=aS F e:=by
   rcases E with⟨rfl,_⟩|⟨rfl,_⟩
   ·exact⟨K.mem_iff.mpr q1,rfl⟩
   ·exact⟨K.mem_iff.mpr q2,wR r1 (wf.ed e R)⟩
  refine⟨[aX (SH w h S),aX (.loc t),aX (.loc l.length),aX (PP e)],rfl,w_mDrop.mpr (iE (wD ⟨_,rfl,wF I.dic,a7 (c7 (a7 (aN ⟨_,rfl,aN (bD rfl (BK k e _ _ λc μ3 x N=>?_))⟩)))⟩))⟩;rw[show(jN e).filter c8=[s,t']from es]at N;refine⟨_,rfl,(c6 N (show atI ([s,t'].map PP) 0=aX (PP s)from rfl)).mpr ((dU (.inl (aE (I.pre.trans x) ht)) (bR s) (fM (K.nodup_iff.mpr nd) p.1)).mpr ⟨_,rfl,(G5 (k+1) (F s) (wf.di s) e.1 e.2 _ _).mpr (a7 (w_mLst.mpr ⟨_,rfl,Yu _,_,rfl,?_⟩))⟩)⟩;rw[show((e.1,e.2):Int×Int)=e from rfl,p.2];have sm:=Bw o (sY _ _);have ht2:=YK i (aQ w h);refine bI (U8 (I.more x) (aS F e) e (by have:=sm.1;lia) (λz m=>by have:=sm.2 z m;lia) _ ?_) λr T=>⟨T.1,⟨_,rfl,T.2⟩⟩;intro Z' j I' B kp nw;refine⟨Z',aX (PP e),I',by rw[B,o,Bv O],kp _ _ (aE x G) J (λz m=>by have:=n z m;lia),λz m=>?_,rfl⟩;rcases nw z m with⟨y,hy,e⟩|e
  ·rw[<- e];exact n y hy
  ·have:=(Xz.mp (aE x G)).1;lia
 ·rintro A L ⟨Z,o2,I,o,G,n,rfl⟩;rw[Xx,YS]at o;exact⟨rfl,cZ ⟨_,rfl,H _ _ _ I o⟩⟩
theorem IE(R:Int×Int->Nat->Hm->Prop){x:aF}{g:Hm}{l:Nat}{es:jq}{z:ME}{E:MI}(gl:g[l]?=aX (.lst (es.map PP)))(O:es.length<=100)(hit:E x g=aX (cH (.loc l),(es.map PP).length+1,g))
  (A:∀e c k n,R e c k->(∀b v,g.length<b->k[b]?=aX v->n[b]?=aX v)->R e c n)(go:∀e∈es,∀a,g<+:a->g.length<a.length->W (z (x++[aX (PP e)]) a) λs=>a<+:s.2/\∃c,s.1=.loc c/\R e c s.2)(Q:jz)
  (H:∀(d:List Nat) a,g<+:a->a[g.length]?=aX (.lst (d.map D.loc))->d.length=es.length->(∀(i:Nat) e c,es[i]?=aX e->d[i]?=aX c->R e c a)->Q (.loc g.length,a)):W (fR E jU z x g) Q:=by
 refine TY ⟨_,hit,es.length,(λi q a=>∃d:List Nat,q=d.map D.loc/\d.length=i/\g<+:a/\∀(j:Nat) e c,es[j]?=aX e->d[j]?=aX c->R e c a),by rw[Xx],by rw[X2];lia,?_,⟨[],rfl,rfl,aL _ _,λj e c _ h=>by simp at h⟩,?_,?_⟩
 ·rintro i q a ⟨d,rfl,h,_⟩;rw[Xx];lia
 ·rintro i q a hi ⟨d,rfl,hc,p,r⟩ o;have B:es[i]?=aX es[i]:=XM hi;refine⟨PP es[i],_,?_,rfl,w_mTrue.mpr ⟨λh=>(by cases h),λ_=>?_⟩⟩
  ·simp only[cH,gP,bK,aE p gl,X3,XR,B]
  ·refine bI (go es[i] (a0s hi) a p (Xz.mp o).1) λs ⟨w,c,I,M⟩=>⟨aE w o,d++[c],by rw[I,X4];rfl,by rw[XI,hc];rfl,cI (p.trans w) (XJ _) _,λj e y u m=>?_⟩;have G:∀k:Hm,k<+:s.2->∀b v,g.length<b->k[b]?=aX v->(s.2.set g.length (.lst (d.map D.loc++[s.1])))[b]?=aX v:=λk h b v N L=>by rw[XB (by lia)];exact aE h L
   by_cases K:j<d.length
   ·rw[YC K]at m;exact A e y _ _ (r j e y u m) (G a w)
   ·have J:j=i:=by have:=(Xz.mp m).1;rw[XI]at this;have:j<d.length+1:=this;lia
    subst J;rw[Zt (by lia),hc,a8a]at m;rw[B]at u;cases u;cases m;exact A _ _ _ _ M (G s.2 (Yw _))
 ·rintro q a ⟨d,rfl,hc,p,r⟩ o;refine⟨?_,H d a p o hc r⟩;simp only[cH,gP,bK,aE p gl,X3];rw[ZC (by rw[Xx];exact XJ _)]
theorem w_eqPd{p q:Int×Int}{a:Hm}{Q:jz}:W (aZ b4 (PP p) (PP q) a) Q↔Q (.bl (decide (p=q)),a):=by
 have e:cS 8 a (PP p) (PP q)=aX (p.1==q.1&&(p.2==q.2&&b5)):=rfl;have:aZ b4 (PP p) (PP q) a=aX (.bl (decide (p=q)),a):=by unfold aZ;rw[e];show aX (D.bl (p.1==q.1&&(p.2==q.2&&b5)),a)=_;congr 3;rw[a3p,Zw];simp only[XG,beq_iff_eq,decide_eq_true_iff];exact⟨λz=>YV z.1 z.2,λz=>by rw[z];exact⟨rfl,rfl⟩⟩
 rw[this];exact W_some
noncomputable def a9(F:Int×Int->Ly)(e s:Int×Int):jq:=(fN e).filter λq=>decide (aI (F q) q=s)
section
variable{F:Int×Int->Ly}{row:jq}{t:Nat}{μ:Hm}
theorem WD(k:Nat)(j:∀q,Dih (F q))(nd:row.Nodup)(o:μ[t]?=aX (.dT (aT (λq=>LD (F q)) row))){e s:Int×Int}(l:∀q∈fN e,q∈row)(Q:jz)(H:∀c b,μ<+:b->μ.length<=c->b[c]?=aX (.lst ((a9 F e s).map PP))->Q (.loc c,b)):W (f (k+3) "quarters_at" [PP e,.loc t,PP s] μ) Q:=by
 refine dG (Ul (k+2) _ _ _ μ) (cZ (mF (xs:=(fN e).map PP) (p:=λd=>decide (aI (F (gJ d)) (gJ d)=s)) (v:=λd=>d) (w_iSeq.mpr (bD rfl (BK k e _ _ λa p h i=>(eK i).mpr ⟨qL i,rfl,?_,λd b hd g=>?_,λd b hd _ g=>⟨_,rfl,rfl,Yw _⟩,λb g m=>?_⟩)))))
 ·rw[Xx];exact Ys (YM _ _) Ia
 ·obtain⟨q,n,rfl⟩:=XH.mp hd;exact cM (aN (c7 (a7 (a8 rfl rfl ((dU (.inl (aE (h.trans g) o)) (bR q) (fM nd (l q n))).mpr ⟨_,rfl,(G5 (k+1) (F q) (j q) q.1 q.2 _ _).mpr ⟨_,rfl,w_eqPd.mpr ⟨_,rfl,rfl,Yw _⟩⟩⟩)))))
 ·refine H _ _ (h.trans g) (sU h) ?_;rw[m,sW λq=>decide (aI (F q) q=s)];rfl
noncomputable def JC(lo:Nat)(A B:jq)(c:Nat)(μ:Hm):Prop:=∃c0 c1,lo<c/\lo<c0/\lo<c1/\μ[c]?=aX (.lst [.loc c0,.loc c1])/\μ[c0]?=aX (.lst (A.map PP))/\μ[c1]?=aX (.lst (B.map PP))
theorem WE(k:Nat)(z:∀q,Dih (F q))(nd:row.Nodup)(E:μ[t]?=aX (.dT (aT (λq=>LD (F q)) row))){e p s0 s1:Int×Int}(A:∀q∈fN e,q∈row)(u:fN p=[s0,s1]){lo:Nat}(B:lo<μ.length)(Q:jz)(H:∀c b,μ<+:b->JC lo (a9 F e s0) (a9 F e s1) c b->Q (.loc c,b)):W (f (k+4) "joined_at" [PP e,.loc t,PP p] μ) Q:=by
 refine dG (Um (k+3) _ _ _ μ) (cZ ?_);obtain⟨⟨x,d⟩,y,a,g,i,o⟩:W (f (k+3) "sides_of" [PP p] μ) λr=>∃a,μ<+:r.2/\r.2[a]?=aX (.lst ((fN p).map PP))/\r.1=.loc a:=BK (k+1) p _ _ λa d g i=>⟨a,g,i,rfl⟩;dsimp only at g i o;subst o;have hc:fR (cR (aH (f (k+3) "sides_of") (aC (aA 2) aD))) jU (aH (f (k+3) "quarters_at") (aC (aA 0) (aC (aA 1) (aC (aA 3) aD)))) [aX (PP e),aX (.loc t),aX (PP p)] μ=fR (λ_ μ=>aX (cH (.loc a),((fN p).map PP).length+1,μ)) jU (aH (f (k+3) "quarters_at") (aC (aA 0) (aC (aA 1) (aC (aA 3) aD)))) [aX (PP e),aX (.loc t),aX (PP p)] d:=by
  have:cR (aH (f (k+3) "sides_of") (aC (aA 2) aD)) [aX (PP e),aX (.loc t),aX (PP p)] μ=aX (cH (.loc a),((fN p).map PP).length+1,d):=by unfold cR;rw[show aH (f (k+3) "sides_of") (aC (aA 2) aD) [aX (PP e),aX (.loc t),aX (PP p)] μ=f (k+3) "sides_of" [PP p] μ from rfl,y];simp only[XY,gP,bK,i];rfl
  unfold fR kN;rw[this]
 rw[hc];have lt:μ.length<=d.length:=sU g;refine IE (R:=λs c b=>d.length<c/\b[c]?=aX (.lst ((a9 F e s).map PP))) i (by rw[u];show(2:Nat)<=100;decide) rfl (λe c R T h k=>⟨h.1,k c _ h.1 h.2⟩) (λs L b n O=>bD rfl (WD k z nd (aE (g.trans n) E) A _ λc K G m w=>⟨G,c,rfl,by lia,w⟩)) _ λv b n l m j=>?_;rw[u]at m j;match v,m,l,j with
 |[c0,c1],_,l,j=>obtain⟨M,I⟩:=j 0 s0 c0 rfl rfl;obtain⟨N,J⟩:=j 1 s1 c1 rfl rfl;exact H _ _ (g.trans n) ⟨c0,c1,by lia,by lia,by lia,l,I,J⟩
end
noncomputable def o4(r:Int×Int->Int)(a b:Int×Int)(L:jq):Nat:=(L.filter λq=>decide (min (r a) (r b)<r q)&&decide (r q<max (r a) (r b))).length
section
variable{r:Int×Int->Int}{fl:jq}{h:Nat}{μ:Hm}
theorem IH(k:Nat)(j:fl.Nodup)(i:μ[h]?=aX (.dT (aT (λq=>.int (r q)) fl))){a b:Int×Int}(w:a∈fl)(z:b∈fl){L:jq}(v:∀q∈L,q∈fl)(A:L.length<=100){x y:Nat}(e:μ[x]?=aX (.lst ([a,b].map PP)))(l:μ[y]?=aX (.lst (L.map PP)))(Q:jz)(H:∀c,μ<+:c->Q (.int (o4 r a b L),c)):W (f (k+1) "count_between" [.loc h,.loc x,.loc y] μ) Q:=by
 have n:atI ([a,b].map PP) 0=aX (PP a):=rfl;have o:atI ([a,b].map PP) 1=aX (PP b):=rfl;have p:∀{Q:jz},Q (.int (r a),μ)->W (aJ (.loc h) (PP a) μ) Q:=λq=>(dU (.inl i) (bR a) (fM j w)).mpr q;have s:∀{Q:jz},Q (.int (r b),μ)->W (aJ (.loc h) (PP b) μ) Q:=λq=>(dU (.inl i) (bR b) (fM j z)).mpr q;refine dG (Uo k _ _ _ μ) (bJ (c7 (a7 (aN ⟨_,rfl,a8 rfl rfl ((c6 e n).mpr (p (a7 (aN ⟨_,rfl,a8 rfl rfl ((c6 e o).mpr (s ⟨_,rfl,w_min.mpr ?_⟩))⟩))))⟩))));refine bJ (c7 (a7 (aN ⟨_,rfl,a8 rfl rfl ((c6 e n).mpr (p (a7 (aN ⟨_,rfl,a8 rfl rfl ((c6 e o).mpr (s ⟨_,rfl,w_max.mpr ?_⟩))⟩))))⟩)));refine cZ (c7 (a7 (mF (xs:=L.map PP) (p:=λd=>decide (min (r a) (r b)<r (gJ d))&&decide (r (gJ d)<max (r a) (r b))) (v:=λd=>d) (w_iSeq.mpr ⟨_,rfl,(eK l).mpr ⟨qL l,rfl,by rw[Xx,X2];lia,λd c hd g=>?_,λd c hd _ g=>⟨_,rfl,rfl,Yw _⟩,λc g m=>?_⟩⟩))))
 ·obtain⟨q,u,rfl⟩:=XH.mp hd;refine cM (w_mChain.mpr ⟨_,rfl,a8 rfl rfl ((dU (.inl (aE g i)) (bR q) (fM j (v q u))).mpr (w_ltI.mpr ?_))⟩);rw[BE];cases decide (min (r a) (r b)<r q)with
  |false=>exact⟨_,rfl,rfl,Yw _⟩|true=>exact⟨_,rfl,w_ltI.mpr ⟨_,rfl,rfl,Yw _⟩⟩
 ·rw[sW λq=>decide (min (r a) (r b)<r q)&&decide (r q<max (r a) (r b))]at m;refine⟨_,rfl,(mG m).mpr ?_⟩;rw[Xx];exact H _ g
end
noncomputable def k9(r:Int×Int->Int)(X Y:jq):Option Bool:=match X with
 |[a,b]=>aX (o4 r a b Y==1)|_=>match Y with
  |[c,d]=>aX (o4 r c d X==1)|_=>aY
noncomputable def qZ(r:Int×Int->Int)(X Y:jq):Bool:=decide (r (X.headD (0,0))>r (Y.headD (0,0)))
noncomputable def nR(r:Int×Int->Int)(a c d e:jq):Bool:=match k9 r a d with
 |some b=>b|none=>match k9 r c e with
  |some b=>b|none=>qZ r a d != qZ r c e
theorem II{X:jq}(h:X.length=2):∃a b,X=[a,b]:=by
 match X,h with
 |[a,b],_=>exact⟨a,b,rfl⟩
theorem WG{r:Int×Int->Int}{X Y:jq}{c d:Int×Int}(a:X.length≠2)(b:Y=[c,d]):k9 r X Y=aX (o4 r c d X==1):=by
 subst b;unfold k9;split
 ·exact absurd rfl a
 ·rfl
theorem WH{r:Int×Int->Int}{X Y:jq}(a:X.length≠2)(b:Y.length≠2):k9 r X Y=none:=by
 unfold k9;split
 ·exact absurd rfl a
 ·split
  ·exact absurd rfl b
  ·rfl
theorem IJ(n:Nat):(((n:Int))==1)=(n==1):=by rw[Zw,beq_iff_eq,beq_iff_eq];lia
theorem IK(n:Nat):(((n:Int))==2)=(n==2):=by rw[Zw,beq_iff_eq,beq_iff_eq];lia
section
variable{r:Int×Int->Int}{fl:jq}{h:Nat}{μ:Hm}
theorem IL(k:Nat)(u:fl.Nodup)(s:μ[h]?=aX (.dT (aT (λq=>.int (r q)) fl))){X Y:jq}(j:∀q∈X,q∈fl)(l:∀q∈Y,q∈fl)(w:X.length<=100)(z:Y.length<=100){x y:Nat}(g:μ[x]?=aX (.lst (X.map PP)))(i:μ[y]?=aX (.lst (Y.map PP))){m n:Option D}(R:Fl×aF×Hm->Prop)
  (o:∀b c,k9 r X Y=aX b->μ<+:c->R (.rt (.bl b),[aX (.loc h),m,n,aX (.loc x),aX (.loc y)],c))(v:k9 r X Y=aY->R (.nx,[aX (.loc h),m,n,aX (.loc x),aX (.loc y)],μ)):W (GJ (k+1) [aX (.loc h),m,n,aX (.loc x),aX (.loc y)] μ) R:=by
 refine w_mSeq.mpr (w_mIfS.mpr (cM (aN (bD rfl ((mG g).mpr ⟨_,rfl,w_eqI.mpr ⟨_,rfl,?_⟩⟩)))));rw[Xx,IK];by_cases d:X.length=2
 ·refine c4 (beq_iff_eq.mpr d) ?_;obtain⟨a,b,rfl⟩:=II d;refine w_mRet.mpr (aN (bD rfl (IH k u s (j a (by simp)) (j b (by simp)) l z g i _ λc p=>⟨_,rfl,w_eqI.mpr ?_⟩)));rw[IJ];exact o _ _ rfl p
 ·refine cV (beq_eq_false_iff_ne.mpr d) (w_mNext.mpr (w_mIfS.mpr (cM (aN (bD rfl ((mG i).mpr ⟨_,rfl,w_eqI.mpr ⟨_,rfl,?_⟩⟩))))));rw[Xx,IK];by_cases e:Y.length=2
  ·refine c4 (beq_iff_eq.mpr e) ?_;obtain⟨a,b,rfl⟩:=II e;refine w_mRet.mpr (aN (bD rfl (IH k u s (l a (by simp)) (l b (by simp)) j w i g _ λc p=>⟨_,rfl,w_eqI.mpr ?_⟩)));rw[IJ];exact o _ _ (WG d rfl) p
  ·exact cV (beq_eq_false_iff_ne.mpr e) (w_mNext.mpr (v (WH d e)))
theorem IM(k:Nat)(d:fl.Nodup)(c:μ[h]?=aX (.dT (aT (λq=>.int (r q)) fl))){a b:Int×Int}(e:a∈fl)(g:b∈fl)(Q:jz)(H:Q (.bl (decide (r a>r b)),μ)):W (f (k+1) "is_above" [.loc h,PP a,PP b] μ) Q:=
 dG (Up k _ _ _ μ) (cZ (aN (a8 rfl rfl ((dU (.inl c) (bR a) (fM d e)).mpr (a8 rfl rfl ((dU (.inl c) (bR b) (fM d g)).mpr (w_gtI.mpr H)))))))
inductive Sh:jq->jq->Prop where
 |c0 (a b):Sh [a,b] []
 |c1 (a b):Sh [] [a,b]
 |s (a b):Sh [a] [b]
theorem Sh.len{A B:jq}(s:Sh A B):A.length<=100/\B.length<=100:=by cases s<;>exact⟨by simp,by simp⟩
theorem w_neB{x y:Bool}{μ:Hm}{Q:jz}:W (aZ b5 (.bl x) (.bl y) μ) Q↔Q (.bl (x != y),μ):=by
 have:aZ b5 (.bl x) (.bl y) μ=aX (.bl (x != y),μ):=by cases x<;>cases y<;>rfl
 rw[this];exact W_some
theorem WI(k:Nat)(U:fl.Nodup)(O:μ[h]?=aX (.dT (aT (λq=>.int (r q)) fl))){E G I J:jq}(sA:Sh E G)(sB:Sh I J)(R:∀q,q∈E\/q∈G->q∈fl)(T:∀q,q∈I\/q∈J->q∈fl){lo x y:Nat}(jA:JC lo E G x μ)(jB:JC lo I J y μ)(Q:jz)
  (H:∀g,μ<+:g->Q (.bl (nR r E G I J),g)):W (f (k+2) "crosses" [.loc h,.loc x,.loc y] μ) Q:=by
 obtain⟨a0,a1,_,_,_,m,K,L⟩:=jA;obtain⟨b0,b1,_,_,_,n,M,N⟩:=jB;have lA:=sA.len;have lB:=sB.len;refine dG (Uq (k+1) _ _ _ μ) (w_mSeq.mpr (w_mForI.mpr (TZ ⟨_,rfl,_,_,_,_,rfl,m,n,?_⟩)));refine mE (N:=2) (λi A g=>∃u v,A=[aX (.loc h),aX (.loc x),aX (.loc y),u,v]/\μ<+:g/\(0<i->k9 r E I=aY)/\(1<i->k9 r G J=aY)) ?_ ?_ 2 0 _ μ rfl ⟨aY,aY,rfl,Yw _,λz=>absurd z (a0H _),λz=>absurd z (by decide)⟩
 ·rintro i A g hi ⟨u,v,rfl,p,l,B⟩;have j:∀i,oM (.loc x) (.loc y) g i=aX (([D.loc a0,.loc a1][i]?).bind λd=>([D.loc b0,.loc b1][i]?).map λe=>.tup [d,e]):=λi=>by simp only[oM,bK,aE p m,aE p n,XY,X3]
  have hc:i=0\/i=1:=by lia
  rcases hc with rfl|rfl
  ·refine⟨_,_,j 0,rfl,IL k U (aE p O) (λq o=>R q (.inl o)) (λq o=>T q (.inl o)) lA.1 lB.1 (aE p K) (aE p M) _ (λb w e Y=>?_) λe=>⟨_,_,rfl,p,λ_=>e,λz=>absurd z (by decide)⟩⟩;have:=H w (p.trans Y);unfold nR at this;rw[e]at this;exact this
  ·refine⟨_,_,j 1,rfl,IL k U (aE p O) (λq o=>R q (.inr o)) (λq o=>T q (.inr o)) lA.2 lB.2 (aE p L) (aE p N) _ (λb w e Y=>?_) λe=>⟨_,_,rfl,p,λ_=>l (by decide),λ_=>e⟩⟩;have:=H w (p.trans Y);unfold nR at this;rw[l (by decide),e]at this;exact this
 ·rintro A g ⟨u,v,rfl,p,l,B⟩;have l:=l (by decide);have B:=B (by decide);have j:oM (.loc x) (.loc y) g 2=aX none:=by simp only[oM,bK,aE p m,aE p n,XY,X3];rfl
  refine⟨j,?_⟩;have:=H g p;unfold nR at this;rw[l,B]at this;cases sA with
  |c0 a b=>cases l|c1 a b=>cases B|s a b=>
   cases sB with
   |c0 c d=>cases l|c1 c d=>cases B|s c d=>have Z:∀{u v:D},atI [u,v] 0=aX u:=rfl;have i1:∀{u v:D},atI [u,v] 1=aX v:=rfl;have X:∀q,atI ([q].map PP) 0=aX (PP q):=λ_=>rfl;have m:=aE p m;have n:=aE p n;refine w_mRet.mpr (aN (c7 (a7 ⟨_,rfl,a7 (aN (a8 rfl rfl ((c6 m Z).mpr ⟨_,rfl,(c6 (aE p K) (X a)).mpr (a7 (aN (a8 rfl rfl ((c6 n Z).mpr ⟨_,rfl,(c6 (aE p M) (X c)).mpr ⟨_,rfl,?_⟩⟩))))⟩)))⟩)));refine IM k U (aE p O) (R a (.inl (by simp))) (T c (.inl (by simp))) _ (c7 (a7 ⟨_,rfl,a7 (aN (a8 rfl rfl ((c6 m i1).mpr ⟨_,rfl,(c6 (aE p L) (X b)).mpr (a7 (aN (a8 rfl rfl ((c6 n i1).mpr ⟨_,rfl,(c6 (aE p N) (X d)).mpr ⟨_,rfl,?_⟩⟩))))⟩)))⟩));exact IM k U (aE p O) (R b (.inr (by simp))) (T d (.inr (by simp))) _ (w_neB.mpr this)
end
theorem IP(p q:Int×Int):q∈jN p↔(q.1=p.1-1/\q.2=p.2)\/(q.1=p.1/\q.2=p.2-1)\/(q.1=p.1/\q.2=p.2+1)\/(q.1=p.1+1/\q.2=p.2):=by unfold jN;simp only[Yi,a0Y,or_false,Prod.ext_iff]
theorem wU{A:Ly}(hA:Dih A)(c:A.e%4=0/\A.g%4=0){e q:Int×Int}(h:q∈fN e):aI A q∈fN (aI A e):=by
 obtain⟨a,b⟩:=Yp.mp h;rw[IP]at a;refine Yp.mpr ⟨?_,?_⟩
 ·rw[IP];unfold aI;obtain⟨u,v,h|h|h|h|h|h|h|h⟩:=Bo hA<;>subst h<;>dsimp only<;>lia
 ·rw[show c8 (aI A q)=c8 q from Ic (T:=λx y=>c8 (x,y)) Ib VN VO hA c q];exact b
theorem wV{A:Ly}(hA:Dih A){p q:Int×Int}(h:p≠q):aI A p≠aI A q:=λe=>h (by
 have:=congrArg (aI (Bm A)) e;rwa [G3 hA,G3 hA]at this)
section
variable{w h:Int}{F:Int×Int->Ly}{e:Int×Int}
theorem q8(E:(w,h)∈cJ)(wf:Wf w h F)(r:e∈aQ w h){s0 s1:Int×Int}(l:fN (aS F e)=[s0,s1]):Sh (a9 F e s0) (a9 F e s1)/\(∀q,q∈a9 F e s0\/q∈a9 F e s1->q∈bF w h)/\b9 (aS F e).1 (aS F e).2=true:=by
 obtain⟨n,y,z,_⟩:=(eN _ E).2.2.2.2.2.2.2 e r;have A:b9 (aS F e).1 (aS F e).2=true:=qX (wf.di _) (wf.lt _) n;obtain⟨c,d,k,I,i⟩:=kH n;have x:c∈bF w h/\d∈bF w h:=by
  rcases i with⟨rfl,rfl⟩|⟨rfl,rfl⟩
  ·exact⟨y,z⟩
  ·exact⟨z,y⟩
 have j:∀s,∀q∈a9 F e s,q∈bF w h:=λs q m=>by
  have:=(Yp.mp m).1;rw[k]at this;simp only[Yi,a0Y,or_false]at this;rcases this with rfl|rfl
  ·exact x.1
  ·exact x.2
 refine⟨?_,λq m=>m.elim (j _ q) (j _ q),A⟩;obtain⟨u,v,o,g,_⟩:=kH A;rw[l]at o;cases o;have B:aI (F c) e=aS F e/\aI (F d) e=aS F e:=by
  have:=wR n (wf.ed e r);rcases i with⟨rfl,rfl⟩|⟨rfl,rfl⟩
  ·exact⟨rfl,this⟩
  ·exact⟨this,rfl⟩
 have G:aI (F c) c=s0\/aI (F c) c=s1:=by have:=wU (wf.di c) (wf.lt c) (e:=e) (q:=c) (by rw[k];simp);rw[B.1,l]at this;simpa using this
 have H:aI (F d) d=s0\/aI (F d) d=s1:=by have:=wU (wf.di d) (wf.lt d) (e:=e) (q:=d) (by rw[k];simp);rw[B.2,l]at this;simpa using this
 unfold a9;rw[k];have p:∀s,([c,d].filter λq=>decide (aI (F q) q=s))=(if aI (F c) c=s then[c]else[])++if aI (F d) d=s then[d]else[]:=λs=>by rw[a0Z,a0Z,a0E];by_cases a:aI (F c) c=s<;>by_cases b:aI (F d) d=s<;>simp[a,b]
 rw[p,p];rcases G with a|a<;>rcases H with b|b
 ·rw[a,b,if_pos rfl,if_pos rfl,if_neg g,if_neg g];exact .c0 _ _
 ·rw[a,b,if_pos rfl,if_neg (Yn g),if_neg g,if_pos rfl];exact .s _ _
 ·rw[a,b,if_neg (Yn g),if_pos rfl,if_pos rfl,if_neg g];exact .s _ _
 ·rw[a,b,if_neg (Yn g),if_neg (Yn g),if_pos rfl,if_pos rfl];exact .c1 _ _
end
theorem WJ(r:Int×Int->Int){c d e g:jq}(a:Sh c d)(b:Sh e g):nR r d c g e=nR r c d e g:=by
 cases a<;>cases b<;>try rfl
 show(qZ r _ _ != qZ r _ _)=(qZ r _ _ != qZ r _ _);exact Bool.xor_comm _ _
section
variable{t:Bool}{qs:jq}{g:Int×Int->Int×Int}{r r':Int×Int->Int}
end
noncomputable def eZ(F:Int×Int->Ly)(r:Int×Int->Int)(p e a:Int×Int):Bool:=match fN p with
 |[s0,s1]=>nR r (a9 F e s0) (a9 F e s1) (a9 F a s0) (a9 F a s1)|_=>b4
noncomputable def iF(c:Int×Int->Int×Int->Bool)(e:Int×Int)(L:jq):List ((Int×Int)×(Int×Int)):=(L.filter (c e)).map λx=>(e,x)
noncomputable def fX(c:Int×Int->Int×Int->Bool)(es:jq)(n:Nat):List ((Int×Int)×(Int×Int)):=(YN n).flatMap λk=>iF c (es.getD k (0,0)) (es.drop (k+1))
theorem BV(c:Int×Int->Int×Int->Bool)(es:jq)(n:Nat):fX c es (n+1)=fX c es n++iF c (es.getD n (0,0)) (es.drop (n+1)):=by unfold fX;rw[a2M,Z6,a3C,a2y,Yl]
theorem BW(c:Int×Int->Int×Int->Bool)(e:Int×Int)(L:jq):(iF c e L).length<=L.length:=by unfold iF;rw[Xx];exact YM _ _
theorem tS(c:Int×Int->Int×Int->Bool)(es:jq):∀n:Nat,(fX c es n).length<=n*es.length
 |0=>Yu _|n+1=>by have b:=tS c es n;have a:=BW c (es.getD n (0,0)) (es.drop (n+1));rw[Z9]at a;rw[BV,XI,a3J];lia
theorem wW(c:Int×Int->Int×Int->Bool)(e x:Int×Int)(L:jq):iF c e (L++[x])=iF c e L++if c e x=b5 then[(e,x)]else[]:=by
 unfold iF;rw[Zb,X4];congr 1;by_cases h:c e x=b5
 ·rw[if_pos h,YD h];rfl
 ·rw[if_neg h,YE h];rfl
theorem IQ{a:List Nat}{i:Nat}{c:Nat}(h:a[i]?=aX c):atI (a.map D.loc) (i:Int)=aX (.loc c):=by have hi:=(Xz.mp h).1;unfold atI;rw[Xx,oW hi];show(a.map D.loc)[i]?=_;rw[XR,h];rfl
section
variable{w h:Int}{F:Int×Int->Ly}{r:Int×Int->Int}{fl row es:jq}{p s0 s1:Int×Int}{t hg l:Nat}
theorem WK(k:Nat)(hs:(w,h)∈cJ)(wf:Wf w h F)(nf:fl.Nodup)(mf:∀q∈bF w h,q∈fl){g:Hm}(hh:g[hg]?=aX (.dT (aT (λq=>.int (r q)) fl)))(R:fN p=[s0,s1])(gl:g[l]?=aX (.lst (es.map PP)))(le:es.length<=64)(he:∀e∈es,e∈aQ w h/\aS F e=p){lo j:Nat}{v:List Nat}(gj:g[j]?=aX (.lst (v.map D.loc)))(lc:v.length=es.length)(hR:∀(i:Nat) e c,es[i]?=aX e->v[i]?=aX c->JC lo (a9 F e s0) (a9 F e s1) c g)
  {i:Nat}{e:Int×Int}(hi:es[i]?=aX e){base:List ((Int×Int)×(Int×Int))}(lb:base.length<=5000){μ:Hm}(p1:g<+:μ)(gb:μ[g.length]?=aX (.lst (base.map ND))){Y Z x8:Option D}(Q:Fl×aF×Hm->Prop)
  (H:∀x n,g<+:n->n[g.length]?=aX (.lst ((base++iF (eZ F r p) e (es.drop (i+1))).map ND))->Q (.nx,[aX (.loc hg),Y,Z,aX (.loc l),aX (PP e),aX (.loc j),aX (.loc g.length),aX (.int i),x],n)) :
  W (dD (iA ((i:Int)+1) (es.length-(i+1))) (bP 8) (GK (k+2)) (es.length-(i+1)+1) 0 [aX (.loc hg),Y,Z,aX (.loc l),aX (PP e),aX (.loc j),aX (.loc g.length),aX (.int i),x8] μ) Q:=by
 have hil:=(Xz.mp hi).1;obtain⟨ci,z⟩:∃c,v[i]?=aX c:=⟨v[i]'(by lia),XM (by lia)⟩;have ji:=hR i e ci hi z;obtain⟨L,M⟩:=he e (X6 hi);obtain⟨sh,sm,_⟩:=q8 hs wf L (s0:=s0) (s1:=s1) (by rw[M];exact R);refine oS (λm y n=>∃x,y=[aX (.loc hg),Y,Z,aX (.loc l),aX (PP e),aX (.loc j),aX (.loc g.length),aX (.int i),x]/\g<+:n/\n[g.length]?=aX (.lst ((base++iF (eZ F r p) e ((es.drop (i+1)).take m)).map ND))) ⟨x8,rfl,p1,by rw[a2U];show _=aX (C.lst ((base++[]).map ND));rw[Yl];exact gb⟩ ?_ ?_
 ·rintro m y n hm ⟨x,rfl,o,I⟩;have G:i+1+m<es.length:=by lia
  obtain⟨u,s⟩:∃u,es[i+1+m]?=aX u:=⟨es[i+1+m],XM G⟩;obtain⟨cm,E⟩:∃c,v[i+1+m]?=aX c:=⟨v[i+1+m]'(by lia),XM (by lia)⟩;have jm:=hR _ u cm s E;obtain⟨N,O⟩:=he u (X6 s);obtain⟨U,X,_⟩:=q8 hs wf N (s0:=s0) (s1:=s1) (by rw[O];exact R);have em:((i:Int)+1+(m:Nat))=((i+1+m:Nat):Int):=by lia
  have tk:(es.drop (i+1)).take (m+1)=(es.drop (i+1)).take m++[u]:=eY (by rw[List.getElem?_drop];exact s);have mono:∀{A B:jq}{c:Nat},JC lo A B c g->JC lo A B c n:=λ⟨c0,c1,a,b,c,d,e,f⟩=>⟨c0,c1,a,b,c,aE o d,aE o e,aE o f⟩;rw[em];refine⟨_,rfl,w_mIfS.mpr (mH (b:=eZ F r p e u) (c7 (a7 ⟨_,rfl,a7 (a8 rfl rfl ((c6 (aE o gj) (IQ z)).mpr (a7 (a8 rfl rfl ((c6 (aE o gj) (IQ E)).mpr ⟨_,rfl,?_⟩)))))⟩)))⟩;refine WI k nf (aE o hh) sh U (λq T=>mf q (sm q T)) (λq T=>mf q (X q T)) (mono ji) (mono jm) _ λμ3 K=>⟨by unfold eZ;rw[R],?_⟩;have J:=aE K I;have lb2:(base++iF (eZ F r p) e ((es.drop (i+1)).take m)).length<=6000:=by have:=BW (eZ F r p) e ((es.drop (i+1)).take m);have:=YK m (es.drop (i+1));rw[Z9]at this;rw[XI];lia
  cases hb:eZ F r p e u with
  |false=>refine cV rfl (w_mNext.mpr ⟨_,rfl,o.trans K,?_⟩);rw[tk,wW,hb,if_neg X9,Yl];exact J|true=>refine c4 rfl (w_mDrop.mpr (iE ⟨_,rfl,gR J,a7 (w_mTup.mpr (a7 ⟨_,rfl,a7 (a8 rfl rfl ((c6 (aE (o.trans K) gl) (qU (oW G) s)).mpr ⟨_,rfl,eL,_,rfl,(kE J (by rw[Xx,X2];lia)).mpr ⟨_,rfl,cI (o.trans K) (XJ _) _,?_⟩⟩))⟩))⟩));rw[bX J,tk,wW,hb,if_pos rfl,<- YO,X4 (l₂:=[(e,u)])];rfl
 ·rintro y n ⟨x,rfl,o,I⟩;rw[Zx (by rw[Z9];exact XJ _)]at I;exact H x n o I
theorem WL(k:Nat)(R:(w,h)∈cJ)(wf:Wf w h F)(O:row.Perm (bF w h))(nd:(bF w h).Nodup)(nf:fl.Nodup)(mf:∀q∈bF w h,q∈fl){m:Hm}(ht:m[t]?=aX (.dT (aT (λq=>LD (F q)) row)))(hh:m[hg]?=aX (.dT (aT (λq=>.int (r q)) fl)))(N:fN p=[s0,s1])(gl:m[l]?=aX (.lst (es.map PP)))(T:es.length<=64)(M:∀e∈es,e∈aQ w h/\aS F e=p)(Q:jz)
  (H:∀c g,m<+:g->g[c]?=aX (.lst ((fX (eZ F r p) es es.length).map ND))->Q (.loc c,g)):W (f (k+5) "crossing_at" [.loc hg,.loc t,PP p,.loc l] m) Q:=by
 have sq:∀e∈es,∀q∈fN e,q∈row:=λe E q G=>by
  obtain⟨r1,U,X,_⟩:=(eN _ R).2.2.2.2.2.2.2 e (M e E).1;obtain⟨u,v,A,_,B⟩:=kH r1;rw[A]at G;simp only[Yi,a0Y,or_false]at G;refine O.mem_iff.mpr ?_;rcases B with⟨rfl,rfl⟩|⟨rfl,rfl⟩<;>rcases G with rfl|rfl
  ·exact U
  ·exact X
  ·exact X
  ·exact U
 have hit:cR (aA 3) [aX (.loc hg),aX (.loc t),aX (PP p),aX (.loc l),aY,aY,aY,aY,aY] m=aX (cH (.loc l),(es.map PP).length+1,m):=by show(gP m (.loc l)).map _=_;simp only[gP,bK,gl];rfl
 refine dG (Ur (k+4) _ _ _ _ m) (bJ (IE (R:=λe c g=>JC m.length (a9 F e s0) (a9 F e s1) c g) gl (by lia) hit ?_ (λe E g n l1=>bD rfl (WE k wf.di (O.nodup_iff.mpr nd) (aE n ht) (sq e E) N l1 _ λc μ2 y j=>⟨y,c,rfl,j⟩)) _ λcs o n Z lc hR=>bJ (w_mLst.mpr ⟨_,rfl,Yu _,fL (w_mForI.mpr (Gu ⟨_,rfl,l,es.map PP,rfl,aE (n.trans (aL _ _)) gl,?_⟩))⟩)))
 ·rintro e c m1 m2 ⟨c0,c1,a,b,d,A,B,Y⟩ I;exact⟨c0,c1,a,b,d,I _ _ a A,I _ _ b B,I _ _ d Y⟩
 ·refine Gv (λi s g=>∃J K L,s=[aX (.loc hg),aX (.loc t),aX (PP p),aX (.loc l),J,aX (.loc m.length),aX (.loc o.length),K,L]/\o<+:g/\g[o.length]?=aX (.lst ((fX (eZ F r p) es i).map ND))) ⟨aY,aY,aY,rfl,aL _ _,bA _ _⟩ (λ_ _ _ ⟨_,_,_,_,q,_⟩=>aE (n.trans q) gl) ?_ ?_
  ·rintro i d s g hd ⟨J,K,L,rfl,y,z⟩;obtain⟨e,hi,rfl⟩:=gU hd;have hil:=(Xz.mp hi).1;have lb:(fX (eZ F r p) es i).length<=5000:=by have h1:=tS (eZ F r p) es i;have h2:=a1s (show i<=64 by lia) T;lia
   refine⟨_,rfl,w_mForI.mpr (w_iRng2.mpr (a7 (a8 rfl rfl (w_addI.mpr (a7 (bD rfl ((mG (aE (n.trans y) gl)).mpr ⟨_,rfl,?_⟩)))))))⟩;refine⟨⟨by lia,by lia,by lia,by rw[Xx];lia⟩,?_⟩;rw[Xx,show((es.length:Int)-((i:Int)+1)).toNat=es.length-(i+1) by lia];refine WK (k+2) R wf nf mf (aE n hh) N (aE n gl) T M Z lc hR hi lb y z _ λx μ3 p3 g3=>⟨_,_,_,rfl,p3,?_⟩;rw[BV,Zu,hi];exact g3
  ·rintro s g ⟨J,K,L,rfl,y,z⟩;rw[Xx]at z;exact⟨rfl,cZ ⟨_,rfl,H _ _ (n.trans y) z⟩⟩
end
theorem IT(bt:Nat->Nat->Bool):∀n:Nat,a0j bt n<=n
 |0=>XJ _|n+1=>by have:=IT bt n;unfold a0j;split<;>lia
noncomputable def wX(x:(Int×Int)×(Int×Int)):List Int×List Int:=(bG x.1,bG x.2)
theorem BX:∀L:List ((Int×Int)×(Int×Int)),qE (L.map ND)=aX (L.map wX)
 |[]=>rfl|x::L=>by rw[XS,XS];show(vK (ND x)).bind (λz=>(qE (L.map ND)).map λa=>z::a)=_;rw[BX L];show((dR (PP x.1)).bind λk=>(dR (PP x.2)).map λm=>(k,m)).bind _=_;rw[bR,bR];rfl
noncomputable def iV(L:List ((Int×Int)×(Int×Int))):D:=match L[a0j (kU (L.map wX)) (L.length-1)]? with|some x=>ND x|none=>.non
theorem IU{a:Hm}{b:Nat}{L:List ((Int×Int)×(Int×Int))}{Q:jz}(g:a[b]?=aX (.lst (L.map ND))):W (kW [.loc b,.non] a) Q↔Q (iV L,a):=by
 have:kW [.loc b,.non] a=aX (iV L,a):=by
  simp only[kW,g,BX,XY];cases L with
  |nil=>rfl|cons x L=>
   rw[if_neg (by simp),Xx,XR];unfold iV;have h:=IT (kU ((x::L).map wX)) ((x::L).length-1);have:a0j (kU ((x::L).map wX)) ((x::L).length-1)<(x::L).length:=by rw[Ym]at h ⊢;lia
   rw[XM this];rfl
 rw[this];exact W_some
theorem WM(L:List ((Int×Int)×(Int×Int))):iV L=.non\/∃x,iV L=ND x:=by
 unfold iV;split
 ·exact .inr ⟨_,rfl⟩
 ·exact .inl rfl
noncomputable def eB(c:Int×Int->Int×Int->Int×Int->Bool)(G:Gr):List ((Int×Int)×(Int×Int)):=G.flatMap λg=>fX (c g.1) g.2 g.2.length
section
variable(c:Int×Int->Int×Int->Int×Int->Bool)
theorem IV(G:Gr)(g:(Int×Int)×jq):eB c (G++[g])=eB c G++fX (c g.1) g.2 g.2.length:=by unfold eB;rw[Z6,a3C,a2y,Yl]
theorem BY:∀G:Gr,(∀g∈G,g.2.length<=64)->(eB c G).length<=4096*G.length
 |[],_=>XJ _|g::G,h=>by have d:=BY G λx b=>h x (X7 _ b);have e:=tS (c g.1) g.2 g.2.length;have a:=h g (X8 ..);have i:=a1s a a;show(fX (c g.1) g.2 g.2.length++eB c G).length<=_;rw[XI,Ym];lia
end
theorem WN{m:ME}{d:aF}{c:Hm}{Q:iC×Nat×Hm->Prop}(h:W (m d c) λp=>∃a b,p.1=.loc a/\p.2[a]?=aX (.dT b)/\Q (cH (.tup (iP b)),b.length+1,p.2.set a (.dF b))):W (sJ m d c) Q:=by unfold sJ;rw[W_bind];refine bI h λp ⟨a,b,e,g,q⟩=>?_;rw[e];dsimp only;rw[g];exact W_some.mpr q
theorem WO(k:Nat){w h:Int}(O:(w,h)∈cJ){F:Int×Int->Ly}(wf:Wf w h F)(nd:(bF w h).Nodup){S:List ((Int×Int)×Str)}{J:Hm}{a b:Nat}{row:jq}{Z:Zr}(d:Dr (bF w h) J a b F row Z)(Q:jz)
  (H:∀j,J<+:j->Q (iV (eB (eZ F (bL (GZ Z))) (cN (aS F) (aQ w h))),j)):W (f (k+6) "crossing" [SH w h S,.loc a,.loc b] J) Q:=by
 obtain⟨_,_,l1,_,_,u,upR,fr⟩:=eN _ O;replace l1:(bF w h).length<=48:=l1;replace u:(aQ w h).length<=64:=u;have pf:=d.pl.flat nd;have B:Pil (aQ w h) (aS F) (cN (aS F) (aQ w h)):=groups_pil;have sm:=sY (aS F) (aQ w h);refine dG (Us (k+5) _ _ _ J) (bJ (bD rfl (VJ (k+4) nd (by lia) d.hi d.hh d.pl _ λc l U g1=>bJ (w_mLst.mpr ⟨_,rfl,Yu _,fL (w_mForI.mpr (WN (bD rfl (WC (k+2) a O wf d.hr nd (aE (U.trans (aL _ _)) d.hw) _ λm Y μ2 I E=>⟨m,_,rfl,I.dic,?_⟩))))⟩))));have R:l.length<(l++[C.lst []]).length:=by simp
 have x:∀y∈Y,y.2.2≠m/\y.2.2≠l.length:=λy x=>⟨I.ne x,YT (Yh R (I.at_ y x).1)⟩;have mm:m≠l.length:=YT (Yh R I.lo);have p2:l<+:μ2.set m (.dF (aM Y)):=cI ((aL _ _).trans I.pre) (a0B (Yh R I.lo)) _;rw[show(aM Y).length=(iP (aM Y)).length from(Xx ..).symm];refine TL (x:=.tup (iP (aM Y))) (xs:=iP (aM Y)) (λ_=>rfl) (λi r j=>∃X x6,r=[aX (SH w h S),aX (.loc a),aX (.loc b),aX (.loc c),aX (.loc l.length),X,x6]/\l<+:j/\(∀y∈Y,j[y.2.2]?=aX (.lst (y.2.1.map PP)))/\j[l.length]?=aX (.lst ((eB (eZ F (bL (GZ Z))) ((GZ Y).take i)).map ND)))
  ⟨aY,aY,rfl,p2,λy n=>by rw[XB (Yn (x y n).1)];exact(I.at_ y n).2,by rw[XB mm];exact aE I.pre (bA _ _)⟩ ?_ ?_
 ·rintro i dd r j hd ⟨X,x6,rfl,A,K,s⟩;obtain⟨y,p,rfl⟩:∃y,Y[i]?=aX y/\dd=.tup [PP y.1,.loc y.2.2]:=by unfold iP aM at hd;rw[Yc,XR]at hd;obtain⟨y,o,v⟩:=XA.mp hd;exact⟨y,o,v.symm⟩
  have z:=X6 p;have L:(y.1,y.2.1)∈cN (aS F) (aQ w h):=by rw[<- E];exact XH.mpr ⟨y,z,rfl⟩
  have he:∀e∈y.2.1,e∈aQ w h/\aS F e=y.1:=λe N=>B.one L N;obtain⟨e0,h0⟩:=a4M _ (B.ne _ L);have rp:b9 y.1.1 y.1.2=true:=by obtain⟨o,v⟩:=he e0 h0;rw[<- v];exact qX (wf.di _) (wf.lt _) (fr e0 o).1
  obtain⟨s0,s1,es,_,_⟩:=kH rp;have T:=sm.2 _ L;have lY:Y.length<=64:=by have:=congrArg YF E;rw[eM]at this;have:=sm.1;lia
  have hil:=(Xz.mp p).1;have lt:(eB (eZ F (bL (GZ Z))) ((GZ Y).take i)).length<=300000:=by
   have:=BY (eZ F (bL (GZ Z))) ((GZ Y).take i) λg M=>by have o:=a2V M;rw[E]at o;exact Ys (sm.2 g o) u
   rw[Zy,eM]at this;lia
  have lp:(fX (eZ F (bL (GZ Z)) y.1) y.2.1 y.2.1.length).length<=5000:=by have o:=tS (eZ F (bL (GZ Z)) y.1) y.2.1 y.2.1.length;have v:=a1s (Ys T u) (Ys T u);dsimp only at v;lia
  refine⟨_,rfl,w_mDrop.mpr (iE ⟨_,rfl,gR s,a7 (bD rfl (WL k O wf d.hr nd (pf.nodup_iff.mpr nd) (λq N=>pf.mem_iff.mpr N) (aE (U.trans A) d.hw) (aE A g1) es (K y z) (Ys T u) he _ λc' μ4 G g4=>⟨_,rfl,(Gq (aE G s) g4 (by rw[Xx,Xx,X2];lia)).mpr ⟨_,_,rfl,cI (A.trans G) (XJ _) _,λy' n=>?_,?_⟩⟩))⟩)⟩
  ·rw[XB (Yn (x y' n).2)];exact aE G (K y' n)
  ·rw[bX (aE G s),qV p,IV,X4]
 ·rintro r j ⟨X,x6,rfl,A,K,s⟩;rw[iP,Xx,gM,Zx (by rw[eM];exact XJ _),E]at s;exact⟨rfl,cZ (bD rfl ((IU s).mpr (H _ (U.trans A))))⟩
noncomputable def cW(c:List Bool):Bool:=c==[b5,b4,b5,b4]||c==[b4,b5,b4,b5]
theorem alt_iff{c:List Bool}:cW c=b5↔c=[b5,b4,b5,b4]\/c=[b4,b5,b4,b5]:=by unfold cW;rw[Z2,beq_iff_eq,beq_iff_eq]
theorem IW{c:List Bool}(h:cW c=b5):c.length=4:=by rcases alt_iff.mp h with e|e<;>rw[e]<;>rfl
theorem IX(c:List Bool):cW c.reverse=cW c:=by rw[Zw,alt_iff,alt_iff,a5Q,a5Q];exact or_comm
theorem BZ(a b:List Bool):cW (a++b)=cW (b++a):=by
 have h:∀a b:List Bool,cW (a++b)=b5->cW (b++a)=true:=λa b h=>by
  have k:∀c:List Bool,cW c=b5->∀n,n<5->cW (c.drop n++c.take n)=true:=λc hc=>by rcases alt_iff.mp hc with rfl|rfl<;>decide
  have l:=IW h;rw[XI]at l;have:=k _ h a.length (by lia);rwa [List.drop_left,a7o]at this
 exact Zw.mpr ⟨h a b,h b a⟩
theorem WQ(c:List Bool):cW (c.map not)=cW c:=by
 have h:∀c:List Bool,cW c=b5->cW (c.map not)=true:=λc hc=>by rcases alt_iff.mp hc with rfl|rfl<;>rfl
 refine Zw.mpr ⟨λk=>?_,h c⟩;have:=h _ k;rwa [Yc,show(not∘not)=id from funext a7O,a1G]at this
theorem B2(x:Bool){A B C:List Bool}(hA:∀b∈A,b=x)(hB:∀b∈B,b=!x)(hC:∀b∈C,b=x):cW (A++(B++C))=false:=by
 have k:∀x:Bool,∀a,a<5->∀b,b<5->∀c,c<5->cW (Yv a x++(Yv b (!x)++Yv c x))=false:=by decide +kernel
 refine a3D.mpr λh=>?_;have l:=IW h;rw[XI,XI]at l;rw[a0b.mpr ⟨rfl,hA⟩,a0b.mpr ⟨rfl,hB⟩,a0b.mpr ⟨rfl,hC⟩,k x _ (by lia) _ (by lia) _ (by lia)]at h;cases h
noncomputable def bS(e a q:Int×Int):Option Bool:=if q=sA e\/q=sB e then aX b5 else if q=sA a\/q=sB a then aX b4 else aY
noncomputable def wd(e a:Int×Int)(P:jq):List Bool:=P.filterMap (bS e a)
theorem IY{e a q:Int×Int}(h:bS e a q=aX b5):q=sA e\/q=sB e:=by
 unfold bS at h;split at h
 ·assumption
 ·split at h<;>cases h
theorem IZ{e a q:Int×Int}(h:bS e a q=aX b4):q=sA a\/q=sB a:=by
 unfold bS at h;split at h
 ·cases h
 ·split at h
  ·assumption
  ·cases h
theorem nU{e a:Int×Int}{P:jq}{x:Bool}(h:∀q∈P,bS e a q≠aX !x):∀b∈wd e a P,b=x:=λb d=>by obtain⟨q,g,c⟩:=a2c.mp d;have:=h q g;rw[c]at this;revert this;cases b<;>cases x<;>simp
theorem Ja{e a:Int×Int}{P:jq}(h:∀q∈P,bS e a q=aY):wd e a P=[]:=List.filterMap_eq_nil_iff.mpr h
noncomputable def eQ(G:Gr)(s t e a:Int×Int):Bool:=cW (wd e a (aO G s)++(wd e a (aO G t)).reverse)
theorem wY(G:Gr)(s t e a:Int×Int):eQ G s t e a=eQ G t s e a:=by unfold eQ;rw[<- IX,a0q,ZJ]
noncomputable def mP{a:Type}(o:Bool)(X Y:List a):List a:=if o then X++Y else Y++X
theorem Jb(o:Bool)(p:Int×Int):∀(K S:Gr),(K.map (·.1)).Nodup->aO (K.foldl (fV o) S) p=mP o (aO S p) (aO K p)
 |[],S,_=>by
  rw[wG];unfold mP;cases o
  ·rfl
  ·exact(Yl _).symm
 |g::K,S,hk=>by
  rw[XS,Yx]at hk;rw[a1K,Jb o p K _ hk.2,gW];unfold fV;rw[wH];by_cases e:p=g.1
  ·rw[if_pos e,if_pos e.symm,e,iU hk.1];unfold mP;cases o
   ·rfl
   ·exact Yl _
  ·rw[if_neg e,if_neg (λw=>e w.symm)]
theorem WR{G:Gr}(h:(G.map (·.1)).Nodup){mv:Int×Int->Bool}{M:Int×Int->Int×Int}(c:∀p,M (M p)=p)(o:Bool)(p:Int×Int) :
  aO (oU mv M o G) p=mP o (if mv p then[]else aO G p) (if mv (M p)then(aO G (M p)).reverse else[]):=by
 unfold oU;rw[Jb,Bx,By c];have e:(fU mv M G).map (·.1)=((G.filter λg=>mv g.1).map (·.1)).map M:=by unfold fU;rw[Yc,Yc];rfl
 rw[e];exact a1I _ (λa b d w=>d (by rw[<- c a,w,c])) ((Zo.map _).nodup h)
theorem Jc{G:Gr}(c:(G.map (·.1)).Nodup){mv:Int×Int->Bool}{M:Int×Int->Int×Int}(b:∀p,M (M p)=p)(o:Bool)(e a p:Int×Int) :
  wd e a (aO (oU mv M o G) p)=mP o (if mv p then[]else wd e a (aO G p)) (if mv (M p)then(wd e a (aO G (M p))).reverse else[]):=by
 rw[WR c b];have h:∀X Y:jq,wd e a (mP o X Y)=mP o (wd e a X) (wd e a Y):=λX Y=>by cases o<;>exact ZD
 rw[h];congr 1
 ·cases mv p<;>rfl
 ·cases mv (M p)
  ·rfl
  ·exact List.filterMap_reverse
theorem Jd(x o:Bool){a d c e:List Bool}(i:∀b∈a,b=x)(h1:∀b∈d,b=x)(l:∀b∈c,b=!x)(m:∀b∈e,b=!x):cW (mP o a c.reverse++(mP o d e.reverse).reverse)=false:=by
 have r:∀{L:List Bool}{y:Bool},(∀b∈L,b=y)->∀b∈L.reverse,b=y:=λh b g=>h b (a6O.mp g);have j:∀{L K:List Bool}{y:Bool},(∀b∈L,b=y)->(∀b∈K,b=y)->∀b∈L++K,b=y:=λh k b g=>(Yq.mp g).elim (h b) (k b);cases o
 ·show cW ((c.reverse++a)++(e.reverse++d).reverse)=b4;rw[a0q,ZJ,YO,<- YO a];exact B2 (!x) (r l) (by rw[a7O];exact j i (r h1)) m
 ·show cW ((a++c.reverse)++(d++e.reverse).reverse)=b4;rw[a0q,ZJ,YO,<- YO c.reverse];exact B2 x i (j (r l) m) (r h1)
section
variable{u n:Int}{a:Bool}
theorem wZ(e:0<=u/\u<4)(d:n%4=0){s:Int×Int}(b:c8 s=b5):cC u n a (aI (bE u n) s)=!cC u n a s:=by
 have h:decide (n<eA u (aI (bE u n) s))=!decide (n<eA u s):=by
  rw[BL]at b;rw[HS,Zw,Z1,decide_eq_true_iff,decide_eq_false_iff_not];unfold eA;obtain⟨x,y⟩:=s;dsimp only at b ⊢;have c:u=0\/u=1\/u=2\/u=3:=by lia
  rcases c with rfl|rfl|rfl|rfl
  ·show n<2*n-y↔¬ n<y;lia
  ·show n<2*n-x↔¬ n<x;lia
  ·show n<y+n-(x-n)↔¬ n<x-y;lia
  ·show n<n-y+(n-x)↔¬ n<x+y;lia
 unfold cC;rw[h];cases decide (n<eA u s)<;>cases a<;>rfl
theorem WS(k:0<=u/\u<4)(j:n%4=0){p:Int×Int}(i:b9 p.1 p.2=b5)(hd:cC u n a (sA p)≠cC u n a (sB p)):u=dH p/\n=eA (dH p) p:=by
 have h:¬ (n<eA u (sA p)↔n<eA u (sB p)):=λe=>hd (by unfold cC;rw[decide_eq_decide.mpr e]);clear hd;obtain⟨x,y⟩:=p;revert h;have c:u=0\/u=1\/u=2\/u=3:=by lia
 unfold sA sB dH;rcases mM i with⟨b,d⟩|⟨b,d,g⟩|⟨b,d,g⟩<;>dsimp only at b d ⊢
 ·by_cases g:x%4=y%4
  ·simp only[if_pos b,if_pos g];rcases c with rfl|rfl|rfl|rfl<;>unfold eA<;>simp<;>lia
  ·simp only[if_pos b,if_neg g];rcases c with rfl|rfl|rfl|rfl<;>unfold eA<;>simp<;>lia
 ·simp only[if_neg (show ¬ x%2=1 by lia),if_pos d];rcases c with rfl|rfl|rfl|rfl<;>unfold eA<;>simp<;>lia
 ·simp only[if_neg (show ¬ x%2=1 by lia),if_neg (show ¬ y%4=0 by lia)];rcases c with rfl|rfl|rfl|rfl<;>unfold eA<;>simp<;>lia
theorem B3(h:0<=u/\u<4)(g:n%4=0){p:Int×Int}(b:b9 p.1 p.2=b5)(hd:cC u n a (sA p)≠cC u n a (sB p)):aI (bE u n) p=p/\aI (bE u n) (sA p)=sB p/\aI (bE u n) (sB p)=sA p:=by
 obtain⟨c,d⟩:=WS h g b hd;have e:bE u n=gT p:=by rw[c,d];exact Iu b
 rw[e,nI,nI,nI];exact⟨ID b,BI b⟩
end
theorem B4{p q:Int×Int}(b:b9 p.1 p.2=b5)(h:q∈fN p):q=sA p\/q=sB p:=by
 obtain⟨s,t,e,_,a⟩:=kH b;rw[e]at h;have:q=s\/q=t:=by simpa using h
 rcases a with⟨rfl,rfl⟩|⟨rfl,rfl⟩
 ·exact this
 ·exact this.symm
theorem xA{p q:Int×Int}(b:b9 p.1 p.2=b5)(h:q=sA p\/q=sB p):q∈fN p:=by obtain⟨s,t,e,_,a⟩:=kH b;rw[e];rcases a with⟨rfl,rfl⟩|⟨rfl,rfl⟩<;>rcases h with rfl|rfl<;>simp
theorem Je{p q:Int×Int}(a:b9 p.1 p.2=b5)(h:q=sA p\/q=sB p):c8 q=true:=(Yp.mp (xA a h)).2
theorem B5{A:Ly}(hA:Dih A)(b:A.e%4=0/\A.g%4=0){e q:Int×Int}(a:b9 e.1 e.2=b5)(c:q=sA e\/q=sB e):aI A q=sA (aI A e)\/aI A q=sB (aI A e):=B4 (qX hA b a) (wU hA b (xA a c))
noncomputable def JL(F:Int×Int->Ly):Prop:=(∀q,Dih (F q))/\(∀q,(F q).e%4=0/\(F q).g%4=0)/\∀e,b9 e.1 e.2=b5->F (sA e)=F (sB e)\/F (sA e)=cD (gT e) (F (sB e))
theorem WT:JL λ_=>dO:=⟨λ_=>G2,λ_=>⟨rfl,rfl⟩,λ_ _=>.inl rfl⟩
theorem Jf{x y:Bool}(h:x≠y):(x=b5/\y=b4)\/(x=b4/\y=b5):=by cases x<;>cases y<;>simp at h ⊢
theorem WU(F:Int×Int->Ly)(u n:Int)(a:Bool)(m:0<=u/\u<4)(k:n%4=0)(h:JL F):JL (cU u n a F):=by
 obtain⟨c,j,p⟩:=h;refine⟨HJ c,λq=>?_,λe b=>?_⟩
 ·unfold cU;split
  ·exact Iy u k (j q)
  ·exact j q
 ·unfold cU;rcases p e b with i|i
  ·have s:=B5 (c (sB e)) (j (sB e)) b (.inl rfl);have lt:=B5 (c (sB e)) (j (sB e)) b (.inr rfl);have o:=qX (c (sB e)) (j (sB e)) b;have ne:=wV (c (sB e)) (mN b);rw[i];by_cases d:cC u n a (aI (F (sB e)) (sA e))=cC u n a (aI (F (sB e)) (sB e))
   ·rw[d];exact .inl rfl
   ·have l:aI (bE u n) (aI (F (sB e)) (sA e))=aI (F (sB e)) (sB e)/\aI (bE u n) (aI (F (sB e)) (sB e))=aI (F (sB e)) (sA e):=by
     rcases s with g|g<;>rcases lt with e2|e2
     ·exact absurd (g.trans e2.symm) ne
     ·rw[g,e2]at d ⊢;exact(B3 m k o d).2
     ·rw[g,e2]at d ⊢;exact(B3 m k o (Yn d)).2.symm
     ·exact absurd (g.trans e2.symm) ne
    obtain⟨v,w⟩:=BI b;have X:cD (F (sB e)) (bE u n)=cD (gT e) (F (sB e)):=by
     refine VD (Bp (c _) (qN u n)) (Bp (GY e) (c _)) ?_ (mN b) ?_ ?_
     ·rw[G0,G0,VB,U0,Int.mul_comm]
     ·rw[mI,mI,nI,v,l.1]
     ·rw[mI,mI,nI,w,l.2]
    refine .inr ?_;rcases Jf d with⟨x,y⟩|⟨x,y⟩<;>rw[x,y]
    ·exact X
    ·show F (sB e)=cD (gT e) (cD (F (sB e)) (bE u n));rw[<- Bn,<- X,Bn,VE,U1]
  ·have r:=HW b i;refine .inr ?_;rw[r];split
   ·rw[<- Bn,<- i]
   ·exact i
theorem JL.wf{w h:Int}(b:(w,h)∈cJ){F:Int×Int->Ly}(J:JL F):Wf w h F:=⟨J.1,J.2.1,λe a=>J.2.2 e ((eN _ b).2.2.2.2.2.2.2 e a).1⟩
section
variable{w h:Int}{F:Int×Int->Ly}
theorem tT(b:(w,h)∈cJ)(wf:Wf w h F){e:Int×Int}(a:e∈aQ w h):b9 (aS F e).1 (aS F e).2=true:=qX (wf.di _) (wf.lt _) ((eN _ b).2.2.2.2.2.2.2 e a).1
theorem rA(d:(w,h)∈cJ)(wf:Wf w h F){e:Int×Int}(a:e∈aQ w h){q:Int×Int}(b:q=sA e\/q=sB e):aI (F q) q=sA (aS F e)\/aI (F q) q=sB (aS F e):=by
 have c:=((eN _ d).2.2.2.2.2.2.2 e a).1;have g:aI (F q) e=aS F e:=by
  rcases b with rfl|rfl
  ·rfl
  ·exact wR c (wf.ed e a)
 have:=B5 (wf.di q) (wf.lt q) c b;rwa [g]at this
noncomputable def NC(w h:Int)(F:Int×Int->Ly)(G:Gr):Prop:=∀e∈aQ w h,∀a∈aQ w h,aS F e=aS F a->eQ G (sA (aS F e)) (sB (aS F e)) e a=b4
theorem Jg(u n:Int)(a:Bool)(e:Int×Int):aS (cU u n a F) e=if cC u n a (aI (F (sA e)) (sA e))then aI (bE u n) (aS F e)else aS F e:=by
 unfold aS cU;split
 ·exact mI _ _ _
 ·rfl
theorem WV(T:(w,h)∈cJ)(wf:Wf w h F){G:Gr}(P:Pil (bF w h) (λq=>aI (F q) q) G){u n:Int}{a o:Bool}(M:0<=u/\u<4)(K:n%4=0)(nc:NC w h F G):NC w h (cU u n a F) (oU (cC u n a) (aI (bE u n)) o G):=by
 intro e v j m ep
 have J:=sZ u n
 have Y:Dih (bE u n):=qN u n
  -- where both lay ahead
 have R:∀x∈aQ w h,aS F x=aS (cU u n a F) x\/aS F x=aI (bE u n) (aS (cU u n a F) x):=λx _=>by
  rw[Jg]
  split
  ·exact .inr (J _).symm
  ·exact .inl rfl
 have r:=R e v
 have d:=R j m
 rw[<- ep]at d
 have lt:(bE u n).e%4=0/\(bE u n).g%4=0:=by
  have:=Iy u K (A:=dO) ⟨rfl,rfl⟩
  rwa [U2]at this
 have rM:∀{x:Int×Int},b9 x.1 x.2=b5->b9 (aI (bE u n) x).1 (aI (bE u n) x).2=true:=λh=>qX Y lt h
 have H:b9 (aS (cU u n a F) e).1 (aS (cU u n a F) e).2=true:=by
  rw[Jg]
  split
  ·exact rM (tT T wf v)
  ·exact tT T wf v
 generalize aS (cU u n a F) e=p at r d H
 have q0:=Je H (.inl rfl)
 have q1:=Je H (.inr rfl)
 have pm:∀{s q:Int×Int},q∈aO G s->aI (F q) q=s:=λ{s q} g=>of_decide_eq_true (Yp.mp ((P.pm s).mem_iff.mp g)).2
 unfold eQ
 rw[Jc P.kd J,Jc P.kd J,wZ M K q0,wZ M K q1]
 by_cases hd:cC u n a (sA p)=cC u n a (sB p)
 ·cases A:cC u n a (sA p)with
  |true=>
   rw[<- hd,A]
   cases o<;>rfl
  |false=>
   rw[<- hd,A]
   simp only[a0V,if_true,Yb,if_false]
      -- what rA at p,what rA at its mirror
   have U:cC u n a (aI (bE u n) (sA p))=true:=by rw[wZ M K q0,A];rfl
   have X:cC u n a (aI (bE u n) (sB p))=true:=by rw[wZ M K q1,<- hd,A];rfl
   have sM:∀{q:Int×Int},q=sA (aI (bE u n) p)\/q=sB (aI (bE u n) p)->q=aI (bE u n) (sA p)\/q=aI (bE u n) (sB p):=λ{q} g=>by
    have:=wU Y lt (xA (rM H) g)
    rw[J]at this
    rcases B4 H this with e|e
    ·exact .inl (by rw[<- e,J])
    ·exact .inr (by rw[<- e,J])
   have st:∀{x q s:Int×Int},x∈aQ w h->(q=sA x\/q=sB x)->aS F x=p->aI (F q) q=s->cC u n a s=false:=λN g B Z=>by
    have:=rA T wf N g
    rw[B,Z]at this
    rcases this with e|e
    ·rw[e,A]
    ·rw[e,<- hd,A]
   have go:∀{x q s:Int×Int},x∈aQ w h->(q=sA x\/q=sB x)->aS F x=aI (bE u n) p->aI (F q) q=s->cC u n a s=true:=λN g B Z=>by
    have:=rA T wf N g
    rw[B,Z]at this
    rcases sM this with e|e
    ·rw[e,U]
    ·rw[e,X]
   have E:∀{s:Int×Int}{b:Bool},cC u n a s=b->∀{x:Int×Int},(∀{q:Int×Int},(q=sA x\/q=sB x)->aI (F q) q=s->cC u n a s=!b)->∀q∈aO G s,¬ (q=sA x\/q=sB x):=λ{s b} hb x k q g N=>by
    have:=k N (pm g)
    rw[hb]at this
    cases b<;>cases this
   have Q:∀{q:Int×Int},¬ (q=sA e\/q=sB e)->bS e j q≠aX true:=λh k=>h (IY k)
   have O:∀{q:Int×Int},¬ (q=sA j\/q=sB j)->bS e j q≠aX false:=λh k=>h (IZ k)
   have nn:∀{q:Int×Int},¬ (q=sA e\/q=sB e)->¬ (q=sA j\/q=sB j)->bS e j q=none:=λi l=>by
    unfold bS
    rw[if_neg i,if_neg l]
   have I:cC u n a (sB p)=false:=by rw[<- hd,A]
   rcases r with r|r<;>rcases d with d|d
   ·-- both stay
    have z:∀{s:Int×Int},cC u n a s=b5->wd e j (aO G s)=[]:=λc=>Ja λq g=>nn (E c (λi l=>st v i r l) q g) (E c (λi l=>st m i d l) q g)
    rw[z U,z X]
    have:=nc e v j m (by rw[r,d])
    rw[r]at this
    unfold eQ at this
    cases o
    ·exact this
    ·show cW ((_++[])++(_++[]).reverse)=b4
     rw[Yl,Yl]
     exact this
   ·-- the one stays,the other goes
    have c0:∀{s:Int×Int},cC u n a s=b4->∀b∈wd e j (aO G s),b=true:=λc=>nU λq g=>O (E c (λi l=>go m i d l) q g)
    have c1:∀{s:Int×Int},cC u n a s=b5->∀b∈wd e j (aO G s),b=false:=λc=>nU λq g=>Q (E c (λi l=>st v i r l) q g)
    exact Jd b5 o (c0 A) (c0 I) (c1 U) (c1 X)
   ·have c0:∀{s:Int×Int},cC u n a s=b4->∀b∈wd e j (aO G s),b=false:=λc=>nU λq g=>Q (E c (λi l=>go v i r l) q g)
    have c1:∀{s:Int×Int},cC u n a s=b5->∀b∈wd e j (aO G s),b=true:=λc=>nU λq g=>O (E c (λi l=>st m i d l) q g)
    exact Jd b4 o (c0 A) (c0 I) (c1 U) (c1 X)
   ·-- both go
    have z:∀{s:Int×Int},cC u n a s=b4->wd e j (aO G s)=[]:=λc=>Ja λq g=>nn (E c (λi l=>go v i r l) q g) (E c (λi l=>go m i d l) q g)
    rw[z A,z I]
    have:=nc e v j m (by rw[r,d])
    rw[r]at this
    have k:eQ G (aI (bE u n) (sA p)) (aI (bE u n) (sB p)) e j=false:=by
     have n2:=wV Y (mN H)
     have h0:=sM (.inl rfl)
     have i:=sM (.inr rfl)
     have n3:=mN (rM H)
     rcases h0 with L|L<;>rcases i with B|B
     ·exact absurd (L.trans B.symm) n3
     ·rwa [L,B]at this
     ·rw[L,B]at this
      rwa [wY]
     ·exact absurd (L.trans B.symm) n3
    unfold eQ at k
    rw[<- IX,a0q,ZJ,BZ]at k
    cases o
    ·show cW ((_++[])++(_++[]).reverse)=b4
     rw[Yl,Yl,ZJ]
     exact k
    ·show cW (([]++a0w _)++a0w ([]++a0w _))=b4
     rw[a0C,a0C,ZJ]
     exact k
 ·obtain⟨f1,f2,f3⟩:=B3 M K H hd
  rw[f1,or_self]at r d
  have:=nc e v j m (by rw[r,d])
  rw[r]at this
  unfold eQ at this
  rw[f2,f3]
  rcases Jf hd with⟨x,y⟩|⟨x,y⟩<;>rw[x,y]
  ·cases o
   ·show cW ([]++(a0w _++_).reverse)=b4
    rw[a0C,a0q,ZJ,BZ]
    exact this
   ·show cW ([]++(_++a0w _).reverse)=b4
    rw[a0C,a0q,ZJ]
    exact this
  ·cases o
   ·show cW ((a0w _++_)++a0w ([]++[]))=b4
    rw[Yl,a6N,Yl,BZ]
    exact this
   ·show cW ((_++a0w _)++a0w ([]++[]))=b4
    rw[Yl,a6N,Yl]
    exact this
end
theorem B6{a c:Type}{f:a->Option c}{b:c}:∀{L:List a},(∀q∈L,f q=aX b)->L.filterMap f=Yv L.length b
 |[],_=>rfl|x::L,h=>by rw[ZW (h x (X8 ..)),B6 λq d=>h q (X7 _ d)];rfl
theorem WW{qs:jq}{g:Int×Int->Int×Int}{G:Gr}(nd:qs.Nodup)(P:Pil qs g G)(s:Int×Int):(aO G s).Pairwise λx y=>bL G x<bL G y:=by
 by_cases b:s∈G.map (·.1)
 ·obtain⟨x,a,rfl⟩:=XH.mp b;rw[gZ P.kd a,a1c];intro i j hi c d;rw[BJ nd P a (XM hi),BJ nd P a (XM c)];lia
 ·rw[iU b];exact .nil
theorem Jh{a b:Int×Int}{P:jq}(k:a∈P)(l:b∈P)(j:a≠b):∃x y d e g,P=d++x::(e++y::g)/\((x=a/\y=b)\/(x=b/\y=a)):=by
 obtain⟨L,R,rfl⟩:=a3r k;rcases Yq.mp l with h|h
 ·obtain⟨c,L2,rfl⟩:=a3r h;exact⟨b,a,c,L2,R,by rw[YO];rfl,.inr ⟨rfl,rfl⟩⟩
 ·obtain⟨i,R2,rfl⟩:=a3r ((Yi.mp h).resolve_left (Yn j));exact⟨a,b,L,i,R2,rfl,.inl ⟨rfl,rfl⟩⟩
section
variable{w h:Int}{F:Int×Int->Ly}{e e':Int×Int}
theorem rB(c:(w,h)∈cJ)(b:e∈aQ w h){s q:Int×Int}:q∈a9 F e s↔(q=sA e\/q=sB e)/\aI (F q) q=s:=by have a:=((eN _ c).2.2.2.2.2.2.2 e b).1;unfold a9;rw[Yp,decide_eq_true_iff];exact⟨λz=>⟨B4 a z.1,z.2⟩,λz=>⟨xA a z.1,z.2⟩⟩
theorem Ji(c:(w,h)∈cJ)(a:e∈aQ w h){q:Int×Int}(b:q=sA e\/q=sB e):q∈bF w h:=by
 obtain⟨_,d,g,_⟩:=(eN _ c).2.2.2.2.2.2.2 e a;rcases b with rfl|rfl
 ·exact d
 ·exact g
theorem B7(j:(w,h)∈cJ)(wf:Wf w h F)(g:e∈aQ w h)(a:e'∈aQ w h)(ne:e≠e')(sp:aS F e=aS F e'){q:Int×Int}(i:q=sA e\/q=sB e)(b:q=sA e'\/q=sB e'):False:=by
 have k:∀{x:Int×Int},x∈aQ w h->(q=sA x\/q=sB x)->aI (F q) x=aS F x:=λ{x} c d=>by
  rcases d with rfl|rfl
  ·rfl
  ·exact wR ((eN _ j).2.2.2.2.2.2.2 x c).1 (wf.ed x c)
 exact wV (wf.di q) ne (by rw[k g i,k a b,sp])
theorem tU(c:(w,h)∈cJ)(b:e∈aQ w h)(s:Int×Int):(a9 F e s).Nodup:=by obtain⟨x,y,a,d,_⟩:=kH ((eN _ c).2.2.2.2.2.2.2 e b).1;unfold a9;rw[a];exact Zo.nodup (by simpa using d)
variable{G:Gr}
structure Pr(F:Int×Int->Ly)(G:Gr)(e e' s:Int×Int):Prop where
 pm:((aO G s).filter λq=>(bS e e' q).isSome).Perm (a9 F e s++a9 F e' s)
 t:∀q∈a9 F e s,bS e e' q=aX b5
 f:∀q∈a9 F e' s,bS e e' q=aX b4
 pw:(aO G s).Pairwise λx y=>bL G x<bL G y
 mt:∀{q},q∈aO G s->bS e e' q=aX b5->q∈a9 F e s
 mf:∀{q},q∈aO G s->bS e e' q=aX b4->q∈a9 F e' s
 mem:∀{q},q∈a9 F e s\/q∈a9 F e' s->q∈aO G s
 nd:(a9 F e' s).Nodup
theorem Pr.of(g:(w,h)∈cJ)(wf:Wf w h F)(nd:(bF w h).Nodup)(P:Pil (bF w h) (λq=>aI (F q) q) G)(j:e∈aQ w h)(c:e'∈aQ w h)(ne:e≠e')(sp:aS F e=aS F e')(s:Int×Int):Pr F G e e' s:=by
 have l:∀{q:Int×Int},q∈aO G s↔q∈bF w h/\aI (F q) q=s:=λ{q}=>by rw[(P.pm s).mem_iff,Yp,decide_eq_true_iff]
 have t:∀q∈a9 F e s,bS e e' q=aX true:=λq d=>by unfold bS;rw[if_pos ((rB g j).mp d).1]
 have f:∀q∈a9 F e' s,bS e e' q=aX false:=λq d=>by have a:=((rB g c).mp d).1;unfold bS;rw[if_neg (λz=>B7 g wf j c ne sp z a),if_pos a]
 have o:∀{q:Int×Int},q∈aO G s->bS e e' q=aX b5->q∈a9 F e s:=λd a=>(rB g j).mpr ⟨IY a,(l.mp d).2⟩;have n:∀{q:Int×Int},q∈aO G s->bS e e' q=aX b4->q∈a9 F e' s:=λd a=>(rB g c).mpr ⟨IZ a,(l.mp d).2⟩;have m:∀{q:Int×Int},q∈a9 F e s\/q∈a9 F e' s->q∈aO G s:=λd=>l.mpr (by
  rcases d with d|d
  ·obtain⟨a,i⟩:=(rB g j).mp d;exact⟨Ji g j a,i⟩
  ·obtain⟨a,i⟩:=(rB g c).mp d;exact⟨Ji g c a,i⟩)
 refine⟨(a0U (Zo.nodup ((P.pm s).nodup_iff.mpr (Zo.nodup nd))) ?_).mpr λq=>?_,t,f,WW nd P s,o,n,m,tU g c s⟩
 ·rw[Y5];exact⟨tU g j s,tU g c s,λx r y u p=>by
   subst p;have:=(t x r).symm.trans (f x u);cases this⟩
 ·rw[Yp,Yq];constructor
  ·rintro⟨a,i⟩;cases k:bS e e' q with
   |none=>rw[k]at i;cases i|some b=>
    cases b
    ·exact .inr (n a k)
    ·exact .inl (o a k)
  ·intro a;refine⟨m a,?_⟩;rcases a with a|a
   ·rw[t q a];rfl
   ·rw[f q a];rfl
theorem Pr.word{s:Int×Int}(p:Pr F G e e' s):(wd e e' (aO G s)).Perm (Yv (a9 F e s).length b5++Yv (a9 F e' s).length b4):=by
 have a:wd e e' (aO G s)=((aO G s).filter λq=>(bS e e' q).isSome).filterMap (bS e e'):=by unfold wd;rw[List.filterMap_filter];exact congrArg (λg=>a2Y g (aO G s)) (funext λq=>by cases bS e e' q<;>rfl)
 rw[a];refine(p.pm.filterMap _).trans ?_;rw[ZD,B6 p.t,B6 p.f]
theorem Pr.len{s:Int×Int}(p:Pr F G e e' s):(wd e e' (aO G s)).length=(a9 F e s).length+(a9 F e' s).length:=by rw[p.word.length_eq,XI,Zp,Zp]
theorem Pr.btw{s a b:Int×Int}(p:Pr F G e e' s)(R:a≠b)(h:a9 F e s=[a,b]):∃i j k,wd e e' (aO G s)=Yv i b4++b5::(Yv j b4++b5::Yv k b4)/\o4 (bL G) a b (a9 F e' s)=j:=by
 have H:a∈a9 F e s:=by rw[h];simp
 have I:b∈a9 F e s:=by rw[h];simp
 obtain⟨x,y,m,g,n,l,K⟩:=Jh (p.mem (.inl H)) (p.mem (.inl I)) R;have O:=p.pw;rw[l]at O;obtain⟨_,w2,Q⟩:=a1F.mp O;obtain⟨J,w5⟩:=a0x.mp w2;obtain⟨w6,w7,w8⟩:=a1F.mp w5;obtain⟨w9,_⟩:=a0x.mp w7;have L:bS e e' x=aX b5/\bS e e' y=aX true:=by
  rcases K with⟨rfl,rfl⟩|⟨rfl,rfl⟩
  ·exact⟨p.t _ H,p.t _ I⟩
  ·exact⟨p.t _ I,p.t _ H⟩
 have u:∀q,q∈aO G s->q≠x->q≠y->bS e e' q≠aX true:=λq c M N k=>by
  have:=p.mt c k;rw[h]at this;have:q=a\/q=b:=by simpa using this
  rcases K with⟨rfl,rfl⟩|⟨rfl,rfl⟩
  ·exact this.elim M N
  ·exact this.elim N M
 have ne:∀{q z:Int×Int},bL G q<bL G z->q≠z:=λh e=>by rw[e]at h;lia
 have U:∀q∈m,q∈aO G s:=λq c=>by rw[l];exact Y6 _ c
 have A:∀q∈g,q∈aO G s:=λq c=>by rw[l];simp[c]
 have X:∀q∈n,q∈aO G s:=λq c=>by rw[l];simp[c]
 have B:∀q∈m,bL G q<bL G x/\bL G q<bL G y:=λq c=>⟨Q q c x (by simp),Q q c y (by simp)⟩;have o:∀q∈g,bL G x<bL G q/\bL G q<bL G y:=λq c=>⟨J q (by simp[c]),w8 q c y (by simp)⟩;have E:∀q∈n,bL G x<bL G q/\bL G y<bL G q:=λq c=>⟨J q (by simp[c]),w9 q c⟩;have Z:wd e e' m=Yv (wd e e' m).length false:=a0b.mpr ⟨rfl,nU λq c=>u q (U q c) (ne (B q c).1) (ne (B q c).2)⟩;have r2:wd e e' g=Yv (wd e e' g).length false:=a0b.mpr ⟨rfl,nU λq c=>u q (A q c) (Yn (ne (o q c).1)) (ne (o q c).2)⟩;have r3:wd e e' n=Yv (wd e e' n).length false:=a0b.mpr ⟨rfl,nU λq c=>u q (X q c) (Yn (ne (E q c).1)) (Yn (ne (E q c).2))⟩;refine⟨(wd e e' m).length,(wd e e' g).length,(wd e e' n).length,?_,?_⟩
 ·rw[l];show a2Y _ _=_;rw[ZD,ZW L.1,ZD,ZW L.2];rw[<- Z,<- r2,<- r3];rfl
 ·show o4 _ a b _=(g.filterMap (bS e e')).length;rw[List.length_filterMap_eq_countP,List.countP_eq_length_filter];have Y:g.Nodup:=w6.imp λh=>ne h;refine((a0U (Zo.nodup p.nd) (Zo.nodup Y)).mpr λq=>?_).length_eq;have T:(decide (min (bL G a) (bL G b)<bL G q)&&decide (bL G q<max (bL G a) (bL G b)))=b5↔bL G x<bL G q/\bL G q<bL G y:=by have:=J y (by simp);rw[XG,decide_eq_true_iff,decide_eq_true_iff];rcases K with⟨rfl,rfl⟩|⟨rfl,rfl⟩<;>lia
  rw[Yp,Yp,T];constructor
  ·rintro⟨d,v,r⟩;refine⟨?_,by rw[p.f q d];rfl⟩;have:=p.mem (.inr d);rw[l]at this;simp only[Yq,Yi]at this;rcases this with z|rfl|z|rfl|z
   ·have:=B q z;lia
   ·lia
   ·exact z
   ·lia
   ·have:=E q z;lia
  ·rintro⟨d,v⟩;refine⟨?_,o q d⟩;cases r:bS e e' q with
   |none=>rw[r]at v;cases v|some b=>
    cases b
    ·exact p.mf (A q d) r
    ·exact absurd r (u q (A q d) (Yn (ne (o q d).1)) (ne (o q d).2))
theorem Pr.two{s a c:Int×Int}(p:Pr F G e e' s)(h:a9 F e s=[a])(h':a9 F e' s=[c]):wd e e' (aO G s)=if bL G a>bL G c then[b4,b5]else[b5,b4]:=by
 have i:a∈a9 F e s:=by rw[h];simp
 have j:c∈a9 F e' s:=by rw[h'];simp
 have b:=p.t a i;have g:=p.f c j;have q:a≠c:=λz=>by rw[z,g]at b;cases b
 obtain⟨x,y,m,n,o,d,H⟩:=Jh (p.mem (.inl i)) (p.mem (.inr j)) q;have k:=p.pw;rw[d]at k;have lt:=(a0x.mp (a1F.mp k).2.1).1 y (by simp);have l:=p.len;rw[h,h',d]at l;rw[d];have E:∃u v,bS e e' x=aX u/\bS e e' y=aX v/\[u,v]=if bL G a>bL G c then[b4,b5]else[b5,b4]:=by
  rcases H with⟨rfl,rfl⟩|⟨rfl,rfl⟩
  ·exact⟨_,_,b,g,by rw[if_neg (by lia)]⟩
  ·exact⟨_,_,g,b,by rw[if_pos lt]⟩
 obtain⟨u,v,A,B,r⟩:=E;rw[<- r];unfold wd at l ⊢;rw[ZD,ZW A,ZD,ZW B]at l ⊢;simp only[XI,Ym,a1h]at l;rw[a1H (l:=m.filterMap (bS e e')) (by lia),a1H (l:=n.filterMap (bS e e')) (by lia),a1H (l:=o.filterMap (bS e e')) (by lia)];rfl
end
theorem WX{e a q:Int×Int}(h:(q=sA e\/q=sB e)->(q=sA a\/q=sB a)->False):bS a e q=(bS e a q).map not:=by
 unfold bS;by_cases b:q=sA e\/q=sB e
 ·rw[if_pos b,if_pos b,if_neg (h b)];rfl
 ·rw[if_neg b,if_neg b];by_cases c:q=sA a\/q=sB a
  ·rw[if_pos c,if_pos c];rfl
  ·rw[if_neg c,if_neg c];rfl
theorem Jj{e a:Int×Int}(h:∀q,(q=sA e\/q=sB e)->(q=sA a\/q=sB a)->False)(G:Gr)(s t:Int×Int):eQ G s t a e=eQ G s t e a:=by
 have k:∀P,wd a e P=(wd e a P).map not:=λP=>by unfold wd;rw[a6d];exact congrArg (λg=>a2Y g P) (funext λq=>WX (h q))
 unfold eQ;rw[k,k,<- a3S,<- X4,WQ]
section
variable{w h:Int}{F:Int×Int->Ly}{e e' s t:Int×Int}{G:Gr}
theorem WY:∀i,i<3->∀j,j<3->∀k,k<3->∀m,m<3->i+j+k+m=2->cW ((Yv i b4++b5::(Yv j b4++b5::Yv k b4))++Yv m b4)=(j==1):=by decide +kernel
theorem xB{a b:Int×Int}(p:Pr F G e e' s)(o:Pr F G e e' t)(m:a≠b)(d:a9 F e s=[a,b])(h1:a9 F e t=[])(r:(a9 F e' s).length+(a9 F e' t).length=2):(o4 (bL G) a b (a9 F e' s)==1)=eQ G s t e e':=by obtain⟨i,j,k,c,n⟩:=p.btw m d;have g:=o.word;rw[h1]at g;have q:wd e e' (aO G t)=Yv (a9 F e' t).length false:=List.perm_replicate.mp g;have l:=p.len;rw[d,c]at l;simp only[XI,Ym,Zp,a1h]at l;unfold eQ;rw[c,q,List.reverse_replicate,WY i (by lia) j (by lia) k (by lia) _ (by lia) (by lia),n]
theorem Sh.sum{A B:jq}(s:Sh A B):A.length+B.length=2:=by cases s<;>rfl
theorem Sh.sw{A B:jq}(s:Sh A B):Sh B A:=by cases s<;>constructor
theorem WZ(p:Pr F G e e' s)(k:Pr F G e e' t)(q:Pr F G e' e s)(o:Pr F G e' e t)(l:Sh (a9 F e s) (a9 F e t))(g:Sh (a9 F e' s) (a9 F e' t))(n:(a9 F e s).Nodup/\(a9 F e t).Nodup)(m:∀q,(q=sA e\/q=sB e)->(q=sA e'\/q=sB e')->False) :
  nR (bL G) (a9 F e s) (a9 F e t) (a9 F e' s) (a9 F e' t)=eQ G s t e e':=by
 have j:∀{a b:Int×Int},[a,b].Nodup->a≠b:=λh=>by simpa using h
 generalize hA:a9 F e s=A0 at l n;generalize hB:a9 F e t=A1 at l n;cases l with
 |c0 a b=>exact xB p k (j n.1) hA hB g.sum|c1 a b=>rw[WJ (bL G) (.c0 a b) g.sw,wY];exact xB k p (j n.2) hB hA (by rw[a3L];exact g.sum)|s a b=>
  have r:=p.nd;have i:=k.nd;generalize hC:a9 F e' s=B0 at g r;generalize hE:a9 F e' t=B1 at g i;cases g with
  |c0 c d=>have:=xB q o (j r) hC hE (by rw[hA,hB];rfl);rw[Jj m,hA]at this;exact this|c1 c d=>have:=xB o q (j i) hE hC (by rw[hA,hB];rfl);rw[Jj m,hB,wY]at this;exact this|s c d=>unfold eQ;rw[p.two hA hC,k.two hB hE];show(decide (bL G a>bL G c) != decide (bL G b>bL G d))=_;by_cases u:bL G a>bL G c<;>by_cases v:bL G b>bL G d<;>simp only[u,v,if_true,if_false,decide_true,decide_false]<;>rfl
theorem W0(b:(w,h)∈cJ)(wf:Wf w h F)(nd:(bF w h).Nodup)(P:Pil (bF w h) (λq=>aI (F q) q) G)(c:e∈aQ w h)(a:e'∈aQ w h)(ne:e≠e')(sp:aS F e=aS F e'):eZ F (bL G) (aS F e) e e'=eQ G (sA (aS F e)) (sB (aS F e)) e e':=by
 obtain⟨x,y,g,_,d⟩:=kH (tT b wf c);unfold eZ;rw[g];have:=WZ (Pr.of b wf nd P c a ne sp x) (Pr.of b wf nd P c a ne sp y) (Pr.of b wf nd P a c (Yn ne) sp.symm x) (Pr.of b wf nd P a c (Yn ne) sp.symm y) (q8 b wf c g).1 (q8 b wf a (by rw[<- sp];exact g)).1 ⟨tU b c x,tU b c y⟩ (λq=>B7 b wf c a ne sp);dsimp only;rw[this];rcases d with⟨rfl,rfl⟩|⟨rfl,rfl⟩
 ·rfl
 ·exact wY _ _ _ _ _
noncomputable def xC:Nat->List (List Bool)
 |0=>[[]]|n+1=>[]::(xC n).flatMap λl=>[b5::l,b4::l]
theorem B8:∀(n:Nat)(l:List Bool),l.length<=n->l∈xC n
 |0,[],_=>XX.mpr rfl|n+1,[],_=>X8 ..|n+1,b::l,h=>X7 _ (a1x.mpr ⟨l,B8 n l (Nat.le_of_succ_le_succ h),by cases b<;>simp⟩)
noncomputable def ch(b:Bool):Str:=if b then "1" else "2"
noncomputable def wS(X:List Bool):Str:=X.foldl (λs b=>s++ch b) ""
noncomputable def inW(s:Str):Bool:=("121"==s)||(("212"==s)||(("1212"==s)||(("2121"==s)||false)))
noncomputable def B9(cr:Bool)(X Y:List Bool):Bool:=if cr then inW (wS X)||inW (wS Y)else !(wS X==wS Y)
theorem W2:∀X∈xC 4,∀Y∈xC 4,X.count b5+Y.count b5=2->X.count b4+Y.count b4=2->B9 (!(X.count b5==1&&X.count b4==1)) X Y=cW (X++Y.reverse):=by decide +kernel
theorem Jk(d:(w,h)∈cJ)(wf:Wf w h F)(b:e∈aQ w h)(v:s=sA (aS F e)\/s=sB (aS F e)):((a9 F e s).length==1)=decide (F (sA e)=F (sB e)):=by
 have j:=((eN _ d).2.2.2.2.2.2.2 e b).1;have o:=mN (tT d wf b);have l:=rA d wf b (.inl rfl);have n:=rA d wf b (.inr rfl);have k:F (sA e)=F (sB e)↔aI (F (sA e)) (sA e)≠aI (F (sB e)) (sB e):=by
  constructor
  ·intro a;rw[a];exact wV (wf.di _) (mN j)
  ·intro i;rcases wf.ed e b with a|a
   ·exact a
   ·exact absurd (HW j a) i
 have c:(a9 F e s).length=(if aI (F (sA e)) (sA e)=s then 1 else 0)+if aI (F (sB e)) (sB e)=s then 1 else 0:=by
  have m:∀x y:Int×Int,([x,y].filter λq=>decide (aI (F q) q=s)).length=(if aI (F x) x=s then 1 else 0)+if aI (F y) y=s then 1 else 0:=λx y=>by by_cases r:aI (F x) x=s<;>by_cases u:aI (F y) y=s<;>simp[r,u]
  obtain⟨x,y,p,_,g⟩:=kH j;unfold a9;rw[p,m];rcases g with⟨rfl,rfl⟩|⟨rfl,rfl⟩
  ·rfl
  ·exact a3L _ _
 rw[c,Zw,beq_iff_eq,decide_eq_true_iff,k];generalize aI (F (sA e)) (sA e)=x at l;generalize aI (F (sB e)) (sB e)=y at n;have i:=Yn o;rcases v with rfl|rfl<;>rcases l with rfl|rfl<;>rcases n with rfl|rfl<;>simp[o,i]
theorem W3(b:(w,h)∈cJ)(wf:Wf w h F)(nd:(bF w h).Nodup)(P:Pil (bF w h) (λq=>aI (F q) q) G)(c:e∈aQ w h)(a:e'∈aQ w h)(ne:e≠e')(sp:aS F e=aS F e') :
  B9 (!(decide (F (sA e)=F (sB e))&&decide (F (sA e')=F (sB e')))) (wd e e' (aO G (sA (aS F e)))) (wd e e' (aO G (sB (aS F e))))=eQ G (sA (aS F e)) (sB (aS F e)) e e':=by
 obtain⟨x,y,j,_,d⟩:=kH (tT b wf c);have g:=(q8 b wf c j).1.sum;have i:=(q8 b wf a (by rw[<- sp];exact j)).1.sum;have sw:(a9 F e (sA (aS F e))).length+(a9 F e (sB (aS F e))).length=2/\(a9 F e' (sA (aS F e))).length+(a9 F e' (sB (aS F e))).length=2:=by
  rcases d with⟨rfl,rfl⟩|⟨rfl,rfl⟩
  ·exact⟨g,i⟩
  ·exact⟨(a3L _ _).trans g,(a3L _ _).trans i⟩
 have ct:∀s,(wd e e' (aO G s)).count b5=(a9 F e s).length/\(wd e e' (aO G s)).count b4=(a9 F e' s).length:=λs=>by have:=(Pr.of b wf nd P c a ne sp s).word;rw[this.count_eq,this.count_eq,a6E,a6E];simp[List.count_replicate]
 have k:∀s,(wd e e' (aO G s)).length=(a9 F e s).length+(a9 F e' s).length:=λs=>(Pr.of b wf nd P c a ne sp s).len;have:=W2 _ (B8 4 (wd e e' (aO G (sA (aS F e)))) (by rw[k];lia)) _ (B8 4 (wd e e' (aO G (sB (aS F e)))) (by rw[k];lia)) (by rw[(ct _).1,(ct _).1];exact sw.1) (by rw[(ct _).2,(ct _).2];exact sw.2);rw[(ct _).1,(ct _).2,Jk b wf c (.inl rfl),Jk b wf a (.inl (by rw[<- sp]))]at this;exact this
end
noncomputable def kI(G:Gr)(p e a:Int×Int):Bool:=eQ G (sA p) (sB p) e a
theorem W4{G K:Gr}(h:∀p,aO K p=aO G p):kI K=kI G:=by funext p e e';unfold kI eQ;rw[h,h]
theorem Jl{es:jq}(nd:es.Nodup){k:Nat}{e x:Int×Int}(d:es[k]?=aX e)(h:x∈es.drop (k+1)):e≠x:=λz=>by obtain⟨g,b⟩:=Xz.mp d;obtain⟨j,c,a⟩:=List.mem_iff_getElem.mp h;rw[Z9]at c;rw[List.getElem_drop]at a;exact a1c.mp nd k (k+1+j) g (by lia) (by lia) (by rw[b,a,z])
theorem W5{c c':Int×Int->Int×Int->Bool}{es:jq}(nd:es.Nodup)(h:∀e∈es,∀x∈es,e≠x->c e x=c' e x):fX c es es.length=fX c' es es.length:=by unfold fX;rw[a2z,a2z];refine congrArg _ (Ye λk a=>?_);have a:=Zs.mp a;have b:es[k]?=aX es[k]:=XM a;rw[Zu,b];unfold iF;exact congrArg _ (a6D λx d=>h _ (a0s a) x (a2W d) (Jl nd b d))
section
variable{w h:Int}{F:Int×Int->Ly}{G:Gr}
theorem Jm(n:(w,h)∈cJ){c c':Int×Int->Int×Int->Int×Int->Bool}(k:∀e∈aQ w h,∀x∈aQ w h,e≠x->aS F e=aS F x->c (aS F e) e x=c' (aS F e) e x):eB c (cN (aS F) (aQ w h))=eB c' (cN (aS F) (aQ w h)):=by have a:Pil (aQ w h) (aS F) (cN (aS F) (aQ w h)):=groups_pil;have p:(aQ w h).Nodup:=oX (nK (eN _ n).2.2.2.2.2.2.1);unfold eB;rw[a2z,a2z];refine congrArg _ (Ye λg b=>W5 (a.nd p b) λe m x o ne=>?_);obtain⟨i,d⟩:=a.one b m;obtain⟨j,l⟩:=a.one b o;rw[<- d];exact k e i x j ne (d.trans l.symm)
theorem W6(m:NC w h F G):eB (kI G) (cN (aS F) (aQ w h))=[]:=by have a:Pil (aQ w h) (aS F) (cN (aS F) (aQ w h)):=groups_pil;refine a5e.mpr λg d=>a5e.mpr λk b=>List.map_eq_nil_iff.mpr (a0z.mpr λx l=>?_);have b:=Zs.mp b;rw[Zu,XM b];obtain⟨e,c⟩:=a.one d (a0s b);obtain⟨i,j⟩:=a.one d (a2W l);have:=m _ e x i (c.trans j.symm);rw[c]at this;exact a3D.mp this
theorem xD(k:Nat)(g:(w,h)∈cJ)(wf:Wf w h F)(nd:(bF w h).Nodup){S:List ((Int×Int)×Str)}{i:Hm}{a b:Nat}{row:jq}{Z:Zr}(d:Dr (bF w h) i a b F row Z)(Q:jz)
  (H:∀c,i<+:c->Q (iV (eB (kI (GZ Z)) (cN (aS F) (aQ w h))),c)):W (f (k+6) "crossing" [SH w h S,.loc a,.loc b] i) Q:=
 WO k g wf nd d Q λc p=>by rw[show eB (eZ F (bL (GZ Z))) (cN (aS F) (aQ w h))=eB (kI (GZ Z)) (cN (aS F) (aQ w h))from Jm g λe j x l ne m=>W0 g wf nd d.pl j l ne m];exact H c p
end
theorem Jn(X:List Bool)(b:Bool):wS (X++[b])=wS X++ch b:=a3B ..
theorem W7(X:List Bool):(wS X).length=X.length:=by
 have:∀(X:List Bool)(s:Str),(X.foldl (λs b=>s++ch b) s).length=s.length+X.length:=λX=>by
  induction X with
  |nil=>exact λs=>rfl|cons b X c=>
   intro s;have a:(s++ch b).length=s.length+1:=by show(s.cps++(ch b).cps).size=_;rw[Array.size_append];cases b<;>rfl
   rw[a1K,c,a,Ym];lia
 exact(this X "").trans (Nat.zero_add _)
theorem Jo{a b q:Int×Int}(h:q=a\/q=b):[a,b].contains q=true:=Yo.mpr (by rcases h with rfl|rfl<;>simp)
theorem Ca{a b q:Int×Int}(h:¬ (q=a\/q=b)):[a,b].contains q=false:=a3D.mpr λz=>h (by simpa using Yo.mp z)
noncomputable def Dj(e a:Int×Int):Prop:=∀q,(q=sA e\/q=sB e)->(q=sA a\/q=sB a)->False
section
variable{e e':Int×Int}
theorem W8(k:Nat)(s:Dj e e'){g:Hm}{l a b:Nat}{P:jq}(gl:g[l]?=aX (.lst (P.map PP)))(u:g[a]?=aX (.lst ([sA e,sB e].map PP)))(p:g[b]?=aX (.lst ([sA e',sB e'].map PP)))(w:P.length<=100)(Q:jz)(H:Q (.str (wS (wd e e' P)),g)) :
  W (f (k+1) "_law_spelled" [.loc l,.loc a,.loc b] g) Q:=by
 refine dG (UN k _ _ _ g) (bJ ⟨_,rfl,fL (w_mForI.mpr (w_iSeq.mpr ⟨_,rfl,(eK gl).mpr ?_⟩))⟩);refine gQ (b:=GL) (λi j h=>∃x,j=[aX (.loc l),aX (.loc a),aX (.loc b),aX (.str (wS (wd e e' (P.take i)))),x]/\h=g) ⟨aY,rfl,rfl⟩ (by rintro _ _ _ ⟨_,_,rfl⟩;exact gl) ?_ ?_
 ·rintro i d j h hd ⟨x,rfl,rfl⟩;obtain⟨q,v,rfl⟩:=gU hd;have m:wd e e' (P.take (i+1))=wd e e' (P.take i)++(bS e e' q).toList:=by
   unfold wd;rw[eY v,ZD];refine congrArg _ ?_;cases c:bS e e' q with
   |none=>exact List.filterMap_cons_none c|some b=>exact ZW c
  have r:(wS (wd e e' (P.take i))).length+1<=XQ:=by have c:=List.length_filterMap_le (bS e e') (P.take i);have o:=YK i P;rw[W7,X2];show(a2Y _ _).length+1<=_;lia
  refine⟨_,rfl,w_mSeq.mpr (w_mIfS.mpr (cM (a8 rfl rfl ((wO u).mpr ⟨_,rfl,?_⟩))))⟩;by_cases c:q=sA e\/q=sB e
  ·have n:bS e e' q=aX true:=by unfold bS;rw[if_pos c]
   rw[n]at m;refine c4 (Jo c) (w_mSet.mpr (a8 rfl rfl ((Gx r).mpr (w_mIfS.mpr (cM (a8 rfl rfl ((wO p).mpr ⟨_,rfl,cV (Ca (s q c)) (w_mNext.mpr ⟨aX (PP q),?_,rfl⟩)⟩)))))));rw[m];show _=[_,_,_,aX (D.str (wS (_++[b5]))),_];rw[Jn];rfl
  ·refine cV (Ca c) (w_mNext.mpr (w_mIfS.mpr (cM (a8 rfl rfl ((wO p).mpr ⟨_,rfl,?_⟩)))));by_cases o:q=sA e'\/q=sB e'
   ·have n:bS e e' q=aX false:=by unfold bS;rw[if_neg c,if_pos o]
    rw[n]at m;refine c4 (Jo o) (w_mSet.mpr (a8 rfl rfl ((Gx r).mpr ⟨aX (PP q),?_,rfl⟩)));rw[m];show _=[_,_,_,aX (D.str (wS (_++[b4]))),_];rw[Jn];rfl
   ·have n:bS e e' q=none:=by unfold bS;rw[if_neg c,if_neg o]
    rw[n]at m;refine cV (Ca o) (w_mNext.mpr ⟨aX (PP q),?_,rfl⟩);rw[m];show _=[_,_,_,aX (D.str (wS (_++[]))),_];rw[Yl];rfl
 ·rintro j h ⟨x,rfl,rfl⟩;rw[Xx,YS];exact⟨rfl,cZ ⟨_,rfl,H⟩⟩
noncomputable abbrev Jp(G:Gr)(e e' p:Int×Int):List Str:=[sA p,sB p].map λs=>wS (wd e e' (aO G s))
theorem W9(k:Nat)(u:Dj e e'){μ0 d:Hm}{g:Nat}{Z:Zr}(I:HI μ0 g Z)(n:μ0[g]?=aX (.dT (aM Z)))(B:∀p,(aO (GZ Z) p).length<=100)(h:μ0<+:d){ws:List Str}(m:d[μ0.length]?=aX (.lst (ws.map D.str)))(M:ws.length<=100){s:Int×Int}{q r:Option D}(Q:Fl×aF×Hm->Prop)
  (H:∀a,μ0<+:a->(∀b v,b≠μ0.length->d[b]?=aX v->a[b]?=aX v)->a[μ0.length]?=aX (.lst ((ws++[wS (wd e e' (aO (GZ Z) s))]).map D.str))->Q (.nx,[aX (.loc g),q,aX (PP e),aX (PP e'),r,aX (.loc μ0.length),aX (PP s)],a)) :
  W (Bd (k+1) [aX (.loc g),q,aX (PP e),aX (PP e'),r,aX (.loc μ0.length),aX (PP s)] d) Q:=by
 obtain⟨c,w,x⟩:=HP (I.more h) (aE h n) s;refine w_mDrop.mpr (iE ⟨_,rfl,gR m,a7 (c7 (a7 (wD ⟨_,rfl,wF (aE h n),w_mCons.mpr ⟨_,rfl,w_mCons.mpr (w_mLst.mpr ⟨_,rfl,Yu _,_,rfl,_,w,a7 (bD rfl (qW k e _ _ λK G o y=>a7 (bD rfl (qW k e' _ _ λL J i z=>⟨_,rfl,W8 k u (aE (o.trans i) x) (aE i y) z (B s) _ ⟨_,rfl,?_⟩⟩))))⟩)⟩⟩)))⟩);have j:=((aL d (C.lst [])).trans o).trans i;have l:=aE j m;refine(kE l (by rw[Xx,X2];lia)).mpr (H _ (cI (h.trans j) (XJ _) _) (λb v E A=>by rw[XB (Yn E)];exact aE j A) ?_);rw[bX l,X4];rfl
theorem w_neS{s u:Str}{a:Hm}{Q:jz}:W (aZ b5 (.str s) (.str u) a) Q↔Q (.bl (!(s==u)),a):=W_some
theorem Jq{c:aF}{b:Hm}{i j a:Nat}{q:Int×Int}{ps:jq}(g:b[a]?=aX (.lst (ps.map PP)))(h:aA i c b=aX (PP q,b))(d:aA j c b=aX (.loc a,b)):aV (aB (cB b5) (aA i) (aA j)) c b=aX (!ps.contains q,b):=by
 have:cB b5 (PP q) (.loc a) b=aX (.bl (!ps.contains q),b):=by simp only[cB,g,kP,bK,XY,BO,X3,if_true]
 exact oY (cM (a8 h d ⟨_,this,_,rfl,rfl⟩))
theorem w_inW{s:Str}{a:Hm}{Q:jz}:W (cB b4 (.str s) (.tup [.str "121",.str "212",.str "1212",.str "2121"]) a) Q↔Q (.bl (inW s),a):=W_some
noncomputable def Jr:D->Bool
 |.str s=>inW s|_=>b4
noncomputable def fF(a:jq)(G:Gr)(p e e':Int×Int):Bool:=B9 (!(!a.contains e&&!a.contains e')) (wd e e' (aO G (sA p))) (wd e e' (aO G (sB p)))
theorem Xa(k:Nat)(B:Dj e e'){b:Hm}{m cr:Nat}{Z:Zr}(I:HI b m Z)(K:b[m]?=aX (.dT (aM Z)))(O:∀p,(aO (GZ Z) p).length<=100){q:jq}(J:b[cr]?=aX (.lst (q.map PP)))(p:Int×Int)(Q:jz)
  (H:∀a,b<+:a->Q (.bl (fF q (GZ Z) p e e'),a)):W (f (k+2) "_law_cross" [.loc m,PP p,PP e,PP e',.loc cr] b) Q:=by
 refine dG (UO (k+1) _ _ _ _ _ b) (bJ (w_mLst.mpr ⟨_,rfl,Yu _,fL (w_mForI.mpr (w_iSeq.mpr (bD rfl (qW k p _ _ λl R v r=>(eK r).mpr ?_))))⟩));have N:l≠b.length:=λz=>by have:=aE v (bA b (C.lst []));rw[z,this]at r;cases r
 refine gQ (b:=Bd (k+1)) (xs:=[sA p,sB p].map PP) (λi j a=>∃x,j=[aX (.loc m),aX (PP p),aX (PP e),aX (PP e'),aX (.loc cr),aX (.loc b.length),x]/\b<+:a/\a[l]?=aX (.lst ([sA p,sB p].map PP))/\a[b.length]?=aX (.lst (((Jp (GZ Z) e e' p).take i).map D.str))) ⟨aY,rfl,(aL _ _).trans v,r,aE v (bA _ _)⟩ (by rintro _ _ _ ⟨_,_,_,h,_⟩;exact h) ?_ ?_
 ·rintro i d j a hd ⟨x,rfl,o,y,u⟩;obtain⟨s,L,rfl⟩:=gU hd;refine⟨_,rfl,W9 k B I K O o u (Ys (YK _ _) (by show(2:Nat)<=100;decide)) _ λg w M c=>⟨_,rfl,w,M _ _ N y,?_⟩⟩;rw[c,eY (l:=Jp (GZ Z) e e' p) (n:=i) (by rw[XR,L];rfl)]
 ·rintro j a ⟨x,rfl,o,y,u⟩;have c:a[b.length]?=aX (.lst [.str (wS (wd e e' (aO (GZ Z) (sA p)))),.str (wS (wd e e' (aO (GZ Z) (sB p))))]):=u;have n:=aE o J;unfold fF at H;generalize wd e e' (aO (GZ Z) (sA p))=X at H c;generalize wd e e' (aO (GZ Z) (sB p))=Y at H c;refine⟨rfl,w_mSeq.mpr (w_mIfS.mpr ⟨_,tQ (Jq n rfl rfl) (Jq n rfl rfl),?_⟩)⟩;cases A:!q.contains e&&!q.contains e' with
  |true=>rw[A]at H;exact c4 rfl (cZ (aN (a8 rfl rfl ((c6 c (show atI [_,_] 0=aX (D.str (wS X))from rfl)).mpr (a8 rfl rfl ((c6 c (show atI [_,_] 1=aX (D.str (wS Y))from rfl)).mpr (w_neS.mpr (H _ o))))))))|false=>
   rw[A]at H;refine cV rfl (w_mNext.mpr (cZ (aN (mF (xs:=[.str (wS X),.str (wS Y)]) (p:=Jr) (v:=λd=>d) (w_iSeq.mpr ⟨_,rfl,(eK c).mpr ⟨qL c,rfl,eL,λd g hd m=>?_,λd g hd _ m=>⟨_,rfl,rfl,Yw _⟩,λg w G=>w_mLst.mpr ⟨_,rfl,Yu _,(wN (aE (aL _ _) G) (bA _ _)).mpr ?_⟩⟩⟩)))))
   ·have:∃s,d=.str s:=by simp only[Yi,a0Y,or_false]at hd;rcases hd with rfl|rfl<;>exact⟨_,rfl⟩
    obtain⟨s,rfl⟩:=this;exact cM (a8 rfl rfl (w_inW.mpr ⟨_,rfl,rfl,Yw _⟩))
   ·have E:(!(([D.str (wS X),.str (wS Y)].filter Jr).map λd=>d).isEmpty)=(inW (wS X)||inW (wS Y)):=by rw[a7N,a0Z,a0Z];show(!List.isEmpty (if inW (wS X)=b5 then _ else if inW (wS Y)=b5 then _ else _))=_;cases inW (wS X)<;>cases inW (wS Y)<;>rfl
    rw[E];exact H _ (o.trans (w.trans (aL _ _)))
end
theorem Xb{b:Hm}{a:Nat}{xs:List D}{Q:jz}(h:b[a]?=aX (.lst xs)):W (pR (.loc a) [] b) Q↔Q (.non,b.set a (.lst xs.reverse)):=by simp only[pR,h];exact W_some
theorem Xc{ks:jq}{t:Int}(b:0<=t/\t<=ks.length):jR (ks.map PP) (aX t) aY=(ks.drop t.toNat).map PP/\jR (ks.map PP) aY (aX t)=(ks.take t.toNat).map PP:=by
 have e:HT.sIx (ks.map PP).length 0 (aX t)=t.toNat:=by show(if t<0 then _ else min t.toNat _)=_;rw[if_neg (by lia),Xx];lia
 have a:HT.sIx (ks.map PP).length (ks.map PP).length (aX t)=t.toNat:=by show(if t<0 then _ else min t.toNat _)=_;rw[if_neg (by lia),Xx];lia
 unfold jR;constructor
 ·rw[e,HT.sIx_none,Zx (by rw[Z9];exact XJ _),List.map_drop]
 ·rw[a,HT.sIx_none,a7p,a5u,a3l]
section
variable{w h:Int}{F:Int×Int->Ly}{row:jq}{a hp cr:Nat}
theorem Xd(k:Nat)(T:(w,h)∈cJ)(wf:Wf w h F)(E:row.Perm (bF w h))(nd:(bF w h).Nodup){μ0 o:Hm}{l:Nat}(O:μ0[a]?=aX (.dT (aT (λq=>LD (F q)) row)))(r:μ0<+:o)(R:o[μ0.length]?=aX (.dT []))(gl:o[l]?=aX (.lst ((aQ w h).map PP)))(ll:μ0.length<l){s u v A:Option D}{xs:List (Option D)}(Q:Fl×aF×Hm->Prop)
  (H:∀x y Z c,GI μ0 c μ0.length Z->GZ Z=cN (aS F) (aQ w h)->Q (.nx,aX (.loc a)::s::u::v::A::aX (.loc μ0.length)::x::y::xs,c)) :
  W (dD (cH (.loc l)) (bP 6) (GN (k+1)) (((aQ w h).map PP).length+1) 0 (aX (.loc a)::s::u::v::A::aX (.loc μ0.length)::aY::aY::xs) o) Q:=by
 obtain⟨_,_,_,_,_,G,_,fr⟩:=eN _ T;replace G:(aQ w h).length<=64:=G;refine gQ (λi j c=>∃x y Z,j=aX (.loc a)::s::u::v::A::aX (.loc μ0.length)::x::y::xs/\GI μ0 c μ0.length Z/\GZ Z=cN (aS F) ((aQ w h).take i)/\c[l]?=aX (.lst ((aQ w h).map PP))/\∀z∈Z,l<z.2.2)
  ⟨aY,aY,[],rfl,⟨r,XJ _,R,ZF,ZF,λz g=>nomatch g⟩,rfl,gl,λz g=>nomatch g⟩ (by rintro _ _ _ ⟨_,_,_,_,_,_,h,_⟩;exact h) ?_ ?_
 ·rintro i d j c hd ⟨x,y,Z,rfl,I,m,gl,J⟩;obtain⟨e,B,rfl⟩:=gU hd;have qm:=E.mem_iff.mpr (fr e (X6 B)).2.1;refine⟨_,rfl,bJ (c7 (a7 (aN ⟨_,rfl,aN (bD rfl (qW k e _ _ λb μ1 n N=>?_))⟩)))⟩;refine⟨_,rfl,(c6 N (show atI [PP (sA e),PP (sB e)] 0=aX (PP (sA e))from rfl)).mpr ((dU (.inl (aE (I.pre.trans n) O)) (bR _) (fM (E.nodup_iff.mpr nd) qm)).mpr ⟨_,rfl,(wI k (F (sA e)) (wf.di _) e _ _).mpr ?_⟩)⟩;have K:=I.more n;have sm:=Bw m (sY _ _);have ht:=YK i (aQ w h);refine Ir (p:=aS F e) rfl rfl rfl K (by have:=sm.1;lia) (λz g=>by have:=sm.2 z g;lia) _ λM μ2 L p X Y=>⟨_,_,M,rfl,L,by rw[p,m,Bv B],X _ _ (aE n gl) (by lia) (λz g=>by have:=J z g;lia),λz g=>?_⟩;rcases Y z g with⟨y,U,e⟩|e
  ·rw[<- e];exact J y U
  ·have:=(Xz.mp (aE n gl)).1;lia
 ·rintro j c ⟨x,y,Z,rfl,I,m,_,_⟩;rw[Xx,YS]at m;exact H x y Z c I m
noncomputable def Kp(c:Nat)(e d:Hm):Prop:=∀b v,b≠c->e[b]?=aX v->d[b]?=aX v
theorem Kp.app{c:Nat}{i g d:Hm}(h:Kp c i g)(p:g<+:d):Kp c i d:=λb v n e=>aE p (h b v n e)
theorem Kp.set{c:Nat}{g d:Hm}(h:Kp c g d)(x:C):Kp c g (d.set c x):=λb v n e=>by rw[XB (Yn n)];exact h b v n e
theorem Kp.trans{c:Nat}{i g d:Hm}(h:Kp c i g)(k:Kp c g d):Kp c i d:=λb v n e=>k b v n (h b v n e)
variable{μ0:Hm}{Z:Zr}{cs es:jq}{p:Int×Int}{c l:Nat}
theorem Xe(k:Nat)(I:HI μ0 hp Z)(hh:μ0[hp]?=aX (.dT (aM Z)))(lz:∀p,(aO (GZ Z) p).length<=100)(G:μ0[cr]?=aX (.lst (cs.map PP)))(lc:μ0.length<=c)(le:es.length<=64)(dj:∀e∈es,∀x∈es,e≠x->Dj e x)(ne:es.Nodup){i:Nat}{e:Int×Int}(hi:es[i]?=aX e){s:Hm}(p0:μ0<+:s)(gl:s[l]?=aX (.lst (es.map PP)))(X:l≠c)
  {base:List ((Int×Int)×(Int×Int))}(lb:base.length<=300000){m:Nat}(gm:s[m]?=aX (.lst ((es.drop (i+1)).map PP)))(Y:m≠c)(gc:s[c]?=aX (.lst (base.map ND))){L M N O R z:Option D}(Q:Fl×aF×Hm->Prop)
  (H:∀x b,μ0<+:b->Kp c s b->b[c]?=aX (.lst ((base++iF (fF cs (GZ Z) p) e (es.drop (i+1))).map ND))->Q (.nx,[L,aX (.loc hp),M,N,aX (.loc cr),O,R,aX (PP p),aX (.loc c),aX (.loc l),aX (.int i),x],b)) :
  W (dD (cH (.loc m)) (bP 11) (GO (k+2)) (((es.drop (i+1)).map PP).length+1) 0 [L,aX (.loc hp),M,N,aX (.loc cr),O,R,aX (PP p),aX (.loc c),aX (.loc l),aX (.int i),z] s) Q:=by
 have K:=(Xz.mp hi).1;refine gQ (λj u b=>∃x,u=[L,aX (.loc hp),M,N,aX (.loc cr),O,R,aX (PP p),aX (.loc c),aX (.loc l),aX (.int i),x]/\μ0<+:b/\Kp c s b/\b[c]?=aX (.lst ((base++iF (fF cs (GZ Z) p) e ((es.drop (i+1)).take j)).map ND))) ⟨z,rfl,p0,λ_ _ _ h=>h,by rw[a2U];show _=aX (C.lst ((base++[]).map ND));rw[Yl];exact gc⟩ (by rintro _ _ _ ⟨_,_,_,o,_⟩;exact o _ _ Y gm) ?_ ?_
 ·rintro j d u b hd ⟨x,rfl,q,o,B⟩;obtain⟨A,n,rfl⟩:=gU hd;have U:=X6 n;have J:=o _ _ X gl;have it:∀{g:Hm},b<+:g->W (aJ (.loc l) (.int i) g) λr=>r=(PP e,g):=λh=>(c6 (aE h J) (qU (oW K) hi)).mpr rfl;have y:∀{g:Hm},b<+:g->aJ (.loc l) (.int i) g=aX (PP e,g):=λh=>oY (it h);refine⟨_,rfl,w_mIfS.mpr (mH (b:=fF cs (GZ Z) p e A) (c7 (a7 ⟨_,rfl,a7 ⟨_,rfl,a7 (a8 rfl rfl ⟨_,y (Yw _),_,rfl,?_⟩)⟩⟩)))⟩;refine Xa k (dj e (X6 hi) A (a2W U) (Jl ne hi U)) (I.more q) (aE q hh) lz (aE q G) p _ λμ3 v=>⟨rfl,?_⟩;have E:=aE v B;have lb2:(base++iF (fF cs (GZ Z) p) e ((es.drop (i+1)).take j)).length<=400000:=by have:=BW (fF cs (GZ Z) p) e ((es.drop (i+1)).take j);have:=YK j (es.drop (i+1));rw[Z9]at this;rw[XI];lia
  cases T:fF cs (GZ Z) p e A with
  |false=>refine cV rfl (w_mNext.mpr ⟨_,rfl,q.trans v,o.app v,?_⟩);rw[eY n,wW,T,if_neg X9,Yl];exact E|true=>refine c4 rfl (w_mDrop.mpr (iE ⟨_,rfl,gR E,a7 (w_mTup.mpr (a7 (a8 rfl rfl ⟨_,y v,_,rfl,eL,_,rfl,(kE E (by rw[Xx,X2];lia)).mpr ⟨_,rfl,cI (q.trans v) lc _,(o.app v).set _,?_⟩⟩)))⟩));rw[bX E,eY n,wW,T,if_pos rfl,<- YO,X4 (l₂:=[(e,A)])];rfl
 ·rintro u b ⟨x,rfl,q,o,B⟩;rw[Xx,YS]at B;exact H x b q o B
theorem Xf(k:Nat)(I:HI μ0 hp Z)(hh:μ0[hp]?=aX (.dT (aM Z)))(lz:∀p,(aO (GZ Z) p).length<=100)(A:μ0[cr]?=aX (.lst (cs.map PP)))(lc:μ0.length<=c)(O:es.length<=64)(R:∀e∈es,∀x∈es,e≠x->Dj e x)(ne:es.Nodup){g:Hm}(p0:μ0<+:g)(gl:g[l]?=aX (.lst (es.map PP)))(N:l≠c)
  {base:List ((Int×Int)×(Int×Int))}(lb:base.length<=290000)(X:g[c]?=aX (.lst (base.map ND))){b:Nat}(Y:aJ (.loc b) (PP p) g=aX (.loc l,g)){J K L M x9 q r:Option D}(Q:Fl×aF×Hm->Prop)
  (H:∀x y z d,μ0<+:d->Kp c g d->d[c]?=aX (.lst ((base++fX (fF cs (GZ Z) p) es es.length).map ND))->Q (.nx,[J,aX (.loc hp),K,L,aX (.loc cr),aX (.loc b),M,aX (PP p),aX (.loc c),x,y,z],d)) :
  W (Be (k+2) [J,aX (.loc hp),K,L,aX (.loc cr),aX (.loc b),M,aX (PP p),aX (.loc c),x9,q,r] g) Q:=by
 refine bJ (a8 rfl rfl ⟨_,Y,w_mForI.mpr ((A7 (j:=0)).mpr (a7 (bD rfl ((mG gl).mpr ⟨_,rfl,?_⟩))))⟩);rw[Xx];refine⟨by lia,?_⟩;refine oS (λi j d=>∃y z,j=[J,aX (.loc hp),K,L,aX (.loc cr),aX (.loc b),M,aX (PP p),aX (.loc c),aX (.loc l),y,z]/\μ0<+:d/\Kp c g d/\d[c]?=aX (.lst ((base++fX (fF cs (GZ Z) p) es i).map ND))) ⟨q,r,rfl,p0,λ_ _ _ h=>h,by show _=aX (C.lst ((base++[]).map ND));rw[Yl];exact X⟩ ?_ ?_
 ·rintro i j d hi ⟨y,z,rfl,G,s,m⟩;have o:i<es.length:=by lia
  have n:=s _ _ N gl;have v:jR (es.map PP) (aX ((i:Int)+1)) aY=(es.drop (i+1)).map PP:=by rw[(Xc (ks:=es) (t:=(i:Int)+1) (by lia)).1];rfl
  have T:(0:Int)+(i:Nat)=(i:Int):=a3M _;rw[T];refine⟨_,rfl,w_mForI.mpr (w_iSeq.mpr (TX ⟨_,rfl,l,rfl,w_mPart.mpr (a8 rfl rfl (w_addI.mpr ⟨_,rfl,es.map PP,n,?_⟩))⟩))⟩;show W (gP (d++[C.lst (jR (es.map PP) (aX ((i:Int)+1)) aY)]) (.loc d.length)) _;rw[v];have u:d.length≠c:=YT (Xz.mp m).1;have E:(base++fX (fF cs (GZ Z) p) es i).length<=300000:=by have h1:=tS (fF cs (GZ Z) p) es i;have h2:=a1s (show i<=64 by lia) O;rw[XI];lia
  refine(eK (bA _ _)).mpr (Xe k I hh lz A lc O R ne (XM o) (G.trans (aL _ _)) (aE (aL _ _) n) N E (bA _ _) u (aE (aL _ _) m) _ λx μ3 p3 B U=>⟨_,_,rfl,p3,(s.app (aL _ _)).trans B,?_⟩);rw[U,BV,Zu,XM o,YO];rfl
 ·rintro j d ⟨y,z,rfl,G,s,m⟩;rw[a1t]at m;exact H _ _ _ d G s m
end
theorem Xg{a:Hm}{b:Nat}{L:List ((Int×Int)×(Int×Int))}{Q:jz}(ne:L≠[])(g:a[b]?=aX (.lst (L.map ND))):W (j6 [.loc b] a) Q↔Q (iV L,a):=by
 have:j6 [.loc b] a=kW [.loc b,.non] a:=by simp only[j6,kW,g,BX,XY];rw[if_neg (by simpa using ne),if_neg (by simpa using ne)]
 rw[this];exact IU g
theorem Xh(k:Nat){w h:Int}(u:(w,h)∈cJ){F:Int×Int->Ly}(wf:Wf w h F)(nd:(bF w h).Nodup){G:Hm}{a b:Nat}{row:jq}{Z:Zr}(d:Dr (bF w h) G a b F row Z)(Q:jz)
  (H:∀c,G<+:c->Q (iV (eB (kI (GZ Z)) (cN (aS F) (aQ w h))),c)):W (f (k+3) "_law_first" [.loc a,.loc b,.int w,.int h] G) Q:=by
 obtain⟨hw,hh,l1,_,_,l2,upR,fr⟩:=eN _ u;replace l1:(bF w h).length<=48:=l1;replace l2:(aQ w h).length<=64:=l2;have nr:(aQ w h).Nodup:=oX (nK upR);have B:Pil (aQ w h) (aS F) (cN (aS F) (aQ w h)):=groups_pil;have sm:=sY (aS F) (aQ w h);have lz:∀p,(aO (GZ Z) p).length<=100:=λp=>by rw[(d.pl.pm p).length_eq];exact Ys (YM _ _) (by lia)
 have eC:eB (fF (fE w h F) (GZ Z)) (cN (aS F) (aQ w h))=eB (kI (GZ Z)) (cN (aS F) (aQ w h)):=Jm u λe r x hx ne sp=>by
  have cc:∀y∈aQ w h,(!(fE w h F).contains y)=decide (F (sA y)=F (sB y)):=λy m=>by rw[Zw,Z1,decide_eq_true_iff,<- Bool.not_eq_true,Yo];unfold fE;rw[Yp];simp[m]
  unfold fF;rw[cc e r,cc x hx];exact W3 u wf nd d.pl r hx ne sp
 rw[<- eC]at H;refine dG (UP (k+2) _ _ _ _ G) (bJ (bD rfl (HX k u (d.hr.nodup_iff.mpr nd) (λq hq=>d.hr.mem_iff.mpr hq) d.hw _ λcr j p1 g1=>bJ (w_mDNewT.mpr (w_mSeq.mpr (w_mForI.mpr (w_iSeq.mpr (bD rfl (wM (k+1) w h hw hh _ _ ((eK (bA _ _)).mpr ?_))))))))));have U:=d.more p1;refine Xd (k+1) u wf d.hr nd U.hw ((aL _ _).trans (aL _ _)) (aE (aL _ _) (bA _ _)) (bA _ _) (by rw[XI];exact ZK _) _ λx6 E Y l J I=>bJ (w_mLst.mpr ⟨_,rfl,Yu _,fL ?_⟩);have gY:=aE (aL l (C.lst [])) J.dic;have yl:∀y∈Y,y.2.2<l.length/\y.2.2≠j.length:=λy m=>⟨(Xz.mp (J.at_ y m).2).1,J.ne m⟩;have O:j.length<l.length:=(Xz.mp J.dic).1;refine tF (body:=Be (k+2)) rfl gY (λi s c=>∃E T n o,s=[aX (.loc a),aX (.loc b),aX (.int w),aX (.int h),aX (.loc cr),aX (.loc j.length),x6,E,aX (.loc l.length),T,n,o]/\j<+:c/\(∀y∈Y,c[y.2.2]?=aX (.lst (y.2.1.map PP)))/\c[j.length]?=aX (.dF (aM Y))/\c[l.length]?=aX (.lst ((eB (fF (fE w h F) (GZ Z)) ((GZ Y).take i)).map ND)))
  ⟨E,aY,aY,aY,rfl,cI (J.pre.trans (aL _ _)) (XJ _) _,λy m=>?_,bX gY,?_⟩ ?_ ?_
 ·rw[XB (Yn (yl y m).2)];exact aE (aL _ _) (J.at_ y m).2
 ·rw[XB (XU O)];exact bA _ _
 ·rintro i kk dd s c hkv ⟨E,T,n,o,rfl,p3,X,M,K⟩;obtain⟨y,m,A,rfl,rfl⟩:=tH hkv;have hg:(y.1,y.2.1)∈cN (aS F) (aQ w h):=by rw[<- I];exact XH.mpr ⟨y,m,rfl⟩
  have r:∀e∈y.2.1,e∈aQ w h/\aS F e=y.1:=λe hq=>B.one hg hq;have ly:y.2.1.length<=(aQ w h).length:=sm.2 _ hg;have lY:Y.length<=64:=by have:=congrArg YF I;rw[eM]at this;have:=sm.1;lia
  have hil:=(Xz.mp A).1;have lt:(eB (fF (fE w h F) (GZ Z)) ((GZ Y).take i)).length<=290000:=by
   have:=BY (fF (fE w h F) (GZ Z)) ((GZ Y).take i) λg hg'=>by have:=sm.2 g (by rw[<- I];exact a2V hg');lia
   have N:=YK i (GZ Y);rw[eM]at N;lia
  refine Xf (p:=y.1) k U.hi U.hh lz g1 (a0B O) (by lia) (λe h1 x N ne=>λq=>B7 u wf (r e h1).1 (r x N).1 ne ((r e h1).2.trans (r x N).2.symm)) (B.nd nr hg) p3 (X y m) (XU (yl y m).1) lt K (oY ((dU (.inr M) (bR _) (jL J.kd m)).mpr rfl)) _ λT n o μ4 R kp v=>⟨rfl,_,_,_,_,rfl,R,λz hz=>kp _ _ (XU (yl z hz).1) (X z hz),kp _ _ (XU O) M,?_⟩;rw[v,qV A,IV]
 ·rintro s c ⟨E,T,n,o,rfl,p3,X,M,K⟩;rw[gM,<- eM,YS,I]at K;have v:(c.set j.length (.dT (aM Y)))[l.length]?=aX (.lst ((eB (fF (fE w h F) (GZ Z)) (cN (aS F) (aQ w h))).map ND)):=by rw[XB (XU O)];exact K
  have R:G<+:c.set j.length (.dT (aM Y)):=cI (p1.trans p3) (sU p1) _;generalize c.set j.length (.dT (aM Y))=μ5 at v R;refine⟨M,rfl,cZ (w_mIfE.mpr (cM (aN ⟨_,rfl,w_mLst.mpr ⟨_,rfl,Yu _,(wN (aE (aL _ _) v) (bA _ _)).mpr ⟨_,rfl,?_⟩⟩⟩)))⟩;have p5:=R.trans (aL μ5 (C.lst []));have g5:=aE (aL μ5 (C.lst [])) v;generalize eB (fF (fE w h F) (GZ Z)) (cN (aS F) (aQ w h))=L at H g5;cases L with
  |nil=>exact cV rfl ⟨_,rfl,H _ p5⟩|cons x L=>exact c4 rfl (bD rfl ((Xg (by simp) g5).mpr (H _ p5)))
theorem Js(k:Nat)(L:List ((Int×Int)×(Int×Int)))(g:Hm)(Q:jz)(H:Q (.bl b5,g)):W (f (k+1) "_law_same" [iV L,iV L] g) Q:=by
 refine dG (UQ k _ _ g) (w_mSeq.mpr (w_mIfS.mpr (cM (a8 rfl rfl ?_))));rcases WM L with e|⟨x,e⟩
 ·rw[e];exact w_isNN.mpr ⟨_,rfl,c4 rfl (cZ (a8 rfl rfl (w_isNN.mpr H)))⟩
 ·rw[e];obtain⟨⟨a,b⟩,c,d⟩:=x;have h:cS 8 g (ND ((a,b),(c,d))) (ND ((a,b),(c,d)))=aX ((a==a&&(b==b&&b5))&&((c==c&&(d==d&&b5))&&b5)):=by kernel_rfl
  have:aZ b4 (ND ((a,b),(c,d))) (ND ((a,b),(c,d))) g=aX (.bl b5,g):=by unfold aZ;rw[h];simp
  exact w_isTN.mpr ⟨_,rfl,cV rfl (w_mNext.mpr (cZ (w_mAndV.mpr (bD rfl (w_instTB.mpr (c4 rfl (a8 rfl rfl ⟨_,this,H⟩)))))))⟩
section
variable{a:Nat}{ps ks:jq}{v:Int×Int->D}{μ μ1:Hm}{n:Int}
theorem Jt(e:μ[a]?=aX (.dT (aT v ps)))(nd:ps.Nodup)(j:ps.length<64)(d:μ<+:μ1)(h:ks.Perm ps){l:Nat}(gl:μ1[l]?=aX (.lst (ks.map PP))){x:Option D}(R:Fl×aF×Hm->Prop)(H:∀b i c,μ<+:c->c[b]?=aX (.dT (aT v ks))->R (.rt (.loc b),i,c)):W (GP [aX (.loc a),x,aX (.loc l),aY,aY] μ1) R:=
 bJ (w_mDNewT.mpr (fL (w_mForI.mpr (w_iSeq.mpr ⟨_,rfl,(eK (aE (aL _ _) gl)).mpr (Vm (i:=0) (c:=3) (j:=4) rfl rfl rfl (by decide) (by decide) (d.trans (aL _ _)) (sU d) (bA _ _) e (aE (aL _ _) gl) nd h (by lia) _ λo c p g=>⟨rfl,cZ ⟨_,rfl,H _ _ _ p g⟩⟩)⟩))))
theorem Ju(h:μ[a]?=aX (.dT (aT v ps)))(nd:ps.Nodup)(i:ps.length<64)(j:μ<+:μ1)(g:ks.Perm ps){l:Nat}(gl:μ1[l]?=aX (.lst (ks.map PP)))(R:Fl×aF×Hm->Prop)(H:∀ks b e c,ks.Perm ps->μ<+:c->c[b]?=aX (.dT (aT v ks))->R (.rt (.loc b),e,c)):W (GQ [aX (.loc a),aX (.int n),aX (.loc l),aY,aY] μ1) R:=by
 have k:=g.length_eq;refine w_mSeq.mpr (w_mIfS.mpr (cM (aN (a8 rfl rfl ((dY (by decide)).mpr ⟨_,rfl,w_eqI.mpr ⟨_,rfl,?_⟩⟩)))));cases n%3==2 with
 |false=>exact cV rfl (w_mNext.mpr (Jt h nd i j g gl _ λb e c=>H ks b e c g))|true=>
  have m:=(uD ks (by lia)).length_eq;rw[XI]at m;refine c4 rfl (w_mSet.mpr (aN (Gs ⟨_,rfl,l,rfl,_,rfl,_,rfl,_,rfl,by simp,_,gl,?_,Gs ⟨_,rfl,l,rfl,_,rfl,_,rfl,_,rfl,by simp,_,aE (aL _ _) gl,?_,(qM (aE (aL _ _) (bA _ _)) (bA _ _) ?_).mpr ?_⟩⟩)))
  ·show(dM (ks.map PP) (aX 1) aY (aX 2)).length<=_;rw[qR,Xx,X2];lia
  ·show(dM (ks.map PP) aY aY (aX 2)).length<=_;rw[qR,Xx,X2];lia
  ·show(dM (ks.map PP) (aX 1) aY (aX 2)).length+(dM (ks.map PP) aY aY (aX 2)).length<=_;rw[qR,qR,Xx,Xx,X2];lia
  ·have d:=(uD ks (by lia)).trans g;refine Jt h nd i (j.trans (((aL _ _).trans (aL _ _)).trans (aL _ _))) d ?_ _ λb e c=>H _ b e c d;rw[X4,<- qR,<- qR];exact bA _ _
theorem Jv(k:Nat)(e:μ[a]?=aX (.dT (aT v ps)))(nd:ps.Nodup)(g:ps.length<64)(Q:jz)(H:∀ks b c,ks.Perm ps->μ<+:c->c[b]?=aX (.dT (aT v ks))->Q (.loc b,c)):W (f (k+1) "_law_in_turn" [.loc a,.int n] μ) Q:=by
 refine dG (UL k _ _ μ) (bJ (bD rfl ((BB e g).mpr (w_mSeq.mpr (w_mIfS.mpr (cM (aN (a8 rfl rfl ((dY (by decide)).mpr ⟨_,rfl,w_eqI.mpr ⟨_,rfl,?_⟩⟩)))))))));have h:=aL μ (C.lst ((eF ps).map PP));have d:=bA μ (C.lst ((eF ps).map PP));cases n%3==1 with
 |false=>exact cV rfl (w_mNext.mpr (Ju e nd g h (qT ps) d _ λks b _ c=>H ks b c))|true=>refine c4 rfl (w_mDrop.mpr (iE ⟨_,rfl,gR d,_,rfl,(Xb d).mpr (Ju e nd g (cI h (XJ _) _) ((a6A _).trans (qT ps)) ?_ _ λks b _ c=>H ks b c)⟩));rw[bX d,a3S]
end
theorem Jw{b:Hm}{a:Nat}{xs:List D}{i:Int}{j:Nat}{d:D}{Q:Hm->Prop}(h:b[a]?=aX (.lst xs))(hi:iH xs.length i=aX j)(q:Q (b.set a (.lst (xs.set j d)))):W (iN (.loc a) (.int i) d b) Q:=by
 have:iN (.loc a) (.int i) d b=aX (b.set a (.lst (xs.set j d))):=by simp only[iN,h,hi,X3]
 rw[this];exact W_some.mpr q
theorem Xi{μ0 c:Hm}{b l:Nat}{Y:Zr}(I:GI μ0 c b Y){ps:jq}(gl:c[l]?=aX (.lst (ps.map PP)))(A:ps≠[])(B:∀p∈ps,∃y∈Y,y.1=p/\1<y.2.1.length){v:Int}{m n o q G J:Option D}(Q:Fl×aF×Hm->Prop)
  (H:∀x y z (L:jq) μ',z∈Y->L.Perm z.2.1->μ'=c.set z.2.2 (.lst (L.map PP))->Q (.nx,[m,aX (.int v),n,aX (.loc b),o,aX (.loc l),q,x,y],μ')) :
  W (GR [m,aX (.int v),n,aX (.loc b),o,aX (.loc l),q,G,J] c) Q:=by
 have E:0<ps.length:=a3g.mpr A;have r:=a0F (v/4) (show(ps.length:Int)≠0 by lia);have s:=a0c (v/4) (show 0<(ps.length:Int) by lia);have h:(v/4%(ps.length:Int)).toNat<ps.length:=by lia
 obtain⟨z,g,w,K⟩:=B _ (a0s h);have a:=(I.at_ z g).2;refine bJ (aN ⟨_,rfl,aN ⟨_,rfl,aN (aN ⟨_,rfl,_,rfl,w_div4.mpr (bD rfl ((mG gl).mpr ?_))⟩)⟩⟩);rw[Xx];refine(dY (by lia)).mpr ((c6 gl (qU (Bl r s) (XM h))).mpr ((dU (.inl I.dic) (bR _) (by rw[<- w];exact jL I.kd g)).mpr ?_));refine bJ (aN (aN ⟨_,rfl,_,rfl,(iR (by decide) (by decide)).mpr (aN (bD rfl ((mG a).mpr ⟨_,rfl,w_subI.mpr ?_⟩)))⟩));rw[Xx];refine(dY (by lia)).mpr ?_;have c1:=a0F (v/512) (show((z.2.1.length:Int)-1)≠0 by lia);have u:=a0c (v/512) (show 0<((z.2.1.length:Int)-1) by lia);generalize v/512%((z.2.1.length:Int)-1)=j at c1 u;obtain⟨i,rfl⟩:∃i:Nat,j=i:=⟨j.toNat,by lia⟩;have hi:i+1<z.2.1.length:=by lia
 have k:(i:Int)+1=((i+1:Nat):Int):=by lia
 have e:=qU (L:=z.2.1) (oW hi) (XM hi);have d:=qU (L:=z.2.1) (oW (a2q hi)) (XM (a2q hi));refine Tv (w_mTup.mpr (a7 (aN ⟨_,rfl,a8 rfl rfl (w_addI.mpr ?_)⟩)));rw[k];refine(c6 a e).mpr (a7 (a8 rfl rfl ((c6 a d).mpr ⟨_,rfl,eL,_,_,rfl,_,rfl,_,rfl,Jw a (by rw[Xx];exact oW (a2q hi)) ⟨_,rfl,a8 rfl rfl (w_addI.mpr ?_)⟩⟩)));rw[k];refine Jw (bX a) (by rw[YL,Xx];exact oW hi) ?_;rw[a2G,<- a7M,<- a7M];exact H _ _ z _ _ g (List.set_set_perm (a2q hi) hi) rfl
theorem Xj(k:Nat){qs:jq}{g:Int×Int->Int×Int}(lq:qs.length<=48){q:Hm}{h:Nat}{Z:Zr}(I:HI q h Z)(hh:q[h]?=aX (.dT (aM Z)))(P:Pil qs g (GZ Z))(n:Int)(hn:0<=n/\n<2147483647)(t:Int)(ht:0<=t/\t<=50)(Q:jz)
  (H:∀b Y a,q<+:a->HI a b Y->a[b]?=aX (.dT (aM Y))->Pil qs g (GZ Y)->Q (.loc b,a)):W (f (k+1) "_law_stirred" [.loc h,.int n,.int t] q) Q:=by
 obtain⟨lZ,mZ⟩:=P.lenZ;refine dG (UM k _ _ _ q) (bJ (w_mDNewT.mpr (fL (Vk (μ0:=q) rfl rfl rfl (by decide) (by decide) (aL _ _) (XJ _) (bA _ _) hh I.kd I.at_ (by lia) (λz j=>by have:=(mZ z j).2;lia) _ λY o c eG J hb=>⟨rfl,?_⟩))));have hat:∀z∈Z,c[z.2.2]?=aX (.lst (z.2.1.map PP)):=λz j=>aE J.pre (I.at_ z j);refine bJ (mF (xs:=(eF (Z.map (·.1))).map PP) (p:=λd=>decide ((aO (GZ Z) (gJ d)).length>1)) (v:=λd=>d) (w_iSeq.mpr (bD rfl ((HC I.kd (aE J.pre hh) (by lia)).mpr ((eK (bA _ _)).mpr ⟨qL (bA _ _),rfl,by rw[Xx,Hz,Xx,X2];lia,λd a hd B=>?_,λd a hd _ B=>⟨_,rfl,rfl,Yw _⟩,λμ2 p2 T=>?_⟩)))))
 ·obtain⟨p,hp',rfl⟩:=XH.mp hd;obtain⟨z,j,rfl⟩:=k6 ((qT _).mem_iff.mp hp');have pp:=(aL c (C.lst ((eF (Z.map (·.1))).map PP))).trans B;refine cM (aN (c7 (a7 (a8 rfl rfl ((dU (.inl (aE (J.pre.trans pp) hh)) (bR z.1) (jL I.kd j)).mpr ⟨_,rfl,(mG (aE pp (hat z j))).mpr ⟨_,rfl,w_gtI.mpr ⟨_,rfl,?_,Yw _⟩⟩⟩)))));rw[Xx,BE,nN I.kd j];exact decide_eq_decide.mpr ⟨λz=>by lia,λz=>by lia⟩
 ·have e:((((eF (Z.map (·.1))).map PP).filter λd=>decide ((aO (GZ Z) (gJ d)).length>1)).map λd=>d)=((eF (Z.map (·.1))).filter λp=>decide ((aO (GZ Z) p).length>1)).map PP:=sW (λp=>decide ((aO (GZ Z) p).length>1)) _;rw[e]at T;have G:∀p∈(eF (Z.map (·.1))).filter λp=>decide ((aO (GZ Z) p).length>1),p∈Z.map (·.1)/\1<(aO (GZ Z) p).length:=λp B=>by obtain⟨U,h2⟩:=Yp.mp B;exact⟨(qT _).mem_iff.mp U,of_decide_eq_true h2⟩
  generalize(eF (Z.map (·.1))).filter (λp=>decide ((aO (GZ Z) p).length>1))=ps at T G;have p12:=(aL c (C.lst ((eF (Z.map (·.1))).map PP))).trans p2;have J2:=J.more p12;have kY:Y.map (·.1)=Z.map (·.1):=by rw[<- d9,<- d9,eG]
  refine fL (w_mForI.mpr ((A7 (j:=0)).mpr ⟨_,rfl,by lia,?_⟩));have ln1:(c++[C.lst ((eF (Z.map (·.1))).map PP)]).length=c.length+1:=by simp
  rw[ln1]at T ⊢;refine oS (λi A a=>∃u x y z S,A=[aX (.loc h),aX (.int u),aX (.int t),aX (.loc q.length),o,aX (.loc (c.length+1)),x,y,z]/\(0<=u/\u<2147483647)/\GI q a q.length S/\S.map (·.1)=Z.map (·.1)/\(∀z∈S,z.2.2<c.length)/\(∀z∈S,z.2.1.Perm (aO (GZ Z) z.1))/\a[c.length+1]?=aX (.lst (ps.map PP)))
   ⟨n,aY,aY,aY,Y,rfl,hn,J2,kY,λz j=>(Xz.mp (J.at_ z j).2).1,λz j=>?_,T⟩ ?_ ?_
  ·rw[<- eG,nN J.kd j]
  ·rintro i A a hi ⟨u,x,y,z,S,rfl,hu,K,M,N,E,gl⟩;refine⟨_,rfl,bJ (aN (aN (aN (a8 rfl rfl ((j9 (VU hu)).mpr (a8 rfl rfl ((j9 (.inl (by decide))).mpr (w_addI.mpr ⟨_,rfl,w_addI.mpr ⟨_,rfl,(dY (by decide)).mpr ?_⟩⟩))))))))⟩;rw[Int.add_assoc];have s:=VW u (31*(0+(i:Int))+5);generalize(u*u+(31*(0+(i:Int))+5))%2147483629=v at s;refine w_mIfS.mpr (cM (aN ⟨_,rfl,w_mLst.mpr ⟨_,rfl,Yu _,(wN (aE (aL _ _) gl) (bA _ _)).mpr ⟨_,rfl,?_⟩⟩⟩));have p4:=aL a (C.lst []);have R:=K.more p4;have l:=aE p4 gl;generalize a++[C.lst []]=μ4 at p4 R l;by_cases X:ps=[]
   ·refine cV (by rw[X];rfl) (w_mNext.mpr ⟨v,_,_,_,S,rfl,s,R,M,N,E,l⟩)
   ·refine c4 (by cases ps with|nil=>exact absurd rfl X|cons=>rfl) ?_;refine Xi R l X (λp B=>?_) _ λx' O z' L μ5 w hL e5=>?_
    ·obtain⟨U,h2⟩:=G p B;rw[<- M]at U;obtain⟨y,r,e⟩:=k6 U;exact⟨y,r,e,by rw[(E y r).length_eq,e];exact h2⟩
    ·subst e5;refine⟨v,_,_,_,_,rfl,s,R.mut w L,?_,λy r=>?_,λy r=>?_,?_⟩
     ·rw[Yc,<- M];refine Ye λy _=>?_;show(if y.1=z'.1 then(y.1,L,y.2.2)else y).1=y.1;split<;>rfl
     ·obtain⟨O,m,rfl⟩:=XH.mp r;split
      ·exact N O m
      ·exact N O m
     ·obtain⟨O,m,rfl⟩:=XH.mp r;split
      ·rename_i e;dsimp only;rw[e];exact hL.trans (E z' w)
      ·exact E O m
     ·have:=N z' w;rw[XB (by lia)];exact l
  ·rintro A a ⟨u,x,y,z,S,rfl,_,K,M,N,E,gl⟩;refine⟨rfl,cZ ⟨_,rfl,H _ S a K.pre K.hi K.dic (P.turn (by rw[d9];exact K.kd) (by rw[d9,d9,M]) λx hx=>?_)⟩⟩;obtain⟨y,r,rfl⟩:=XH.mp hx;exact E y r
theorem Xk{w h:Int}(G:Gr):NC w h (λ_=>dO) G:=λe _ d _ sp=>by
 unfold aS at sp ⊢;rw[wB,wB]at sp;subst sp;have k:∀P,∀b∈wd e e P,b=true:=λP=>nU λq _=>λz=>by
  unfold bS at z;by_cases a:q=sA e\/q=sB e
  ·rw[if_pos a]at z;cases z
  ·rw[if_neg a,if_neg a]at z;cases z
 unfold eQ;exact B2 b5 (A:=wd e e _) (B:=[]) (k _) (λb c=>nomatch c) λb c=>k _ b (a6O.mp c)
theorem Xl(k:Nat)(ns:List Int)(v:Int)(j:Hm)(Q:jz)(H:∀w h a b F row Z g,(w,h)∈cJ->j<+:g->Dr (bF w h) g a b F row Z->Wf w h F->(fE w h F).length<=48->((v/9%3==1)=b4->NC w h F (GZ Z))->Q (.tup [.int w,.int h,.loc a,.loc b],g)):W (f (k+5) "_law_drawn" [.rol (ns.map D.int),.int v] j) Q:=by
 refine dG (UK (k+4) _ _ j) (bJ (aN ⟨_,rfl,a8 rfl rfl ((dY (by decide)).mpr (w_addI.mpr (bJ (aN ⟨_,rfl,aN (aN ⟨_,rfl,_,rfl,(iR (by decide) (by decide)).mpr ⟨_,rfl,(dY (by decide)).mpr (w_addI.mpr ?_)⟩⟩)⟩))))⟩));refine w_mSeq.mpr (w_mIfS.mpr (cM (aN (aN (aN ⟨_,rfl,_,rfl,(iR (by decide) (by decide)).mpr ⟨_,rfl,(dY (by decide)).mpr ⟨_,rfl,w_eqI.mpr ⟨_,rfl,?_⟩⟩⟩⟩)))));cases A:v/9%3==1 with
 |true=>
  rw[A]at H;refine c4 rfl (bJ (aN ⟨_,rfl,a8 rfl rfl ((dY (by decide)).mpr (w_addI.mpr (bJ (aN ⟨_,rfl,aN (aN ⟨_,rfl,_,rfl,(iR (by decide) (by decide)).mpr ⟨_,rfl,(dY (by decide)).mpr (w_addI.mpr ?_)⟩⟩)⟩))))⟩));obtain⟨q,r⟩:=Ws _ (Wt v) _ (Wu (v/4));refine w_mSeq.mpr (w_mIfS.mpr (cM (aN (aN (aN ⟨_,rfl,_,rfl,(iR (by decide) (by decide)).mpr ⟨_,rfl,(dY (by decide)).mpr ⟨_,rfl,w_eqI.mpr ⟨_,rfl,?_⟩⟩⟩⟩)))));cases v/27%2==1 with
  |true=>refine c4 rfl (w_mPar.mpr ⟨_,rfl,?_⟩);refine w_mRet.mpr (aN (w_mTup.mpr ⟨_,rfl,eL,bD rfl (Iw k ns r _ _ λa b F row Z g p d e c=>BS (H _ _ a b F row Z g r p d e c (λz=>nomatch z)))⟩))|false=>refine cV rfl (w_mNext.mpr ?_);refine w_mRet.mpr (aN (w_mTup.mpr ⟨_,rfl,eL,bD rfl (Iw k ns q _ _ λa b F row Z g p d e c=>BS (H _ _ a b F row Z g q p d e c (λz=>nomatch z)))⟩))
 |false=>
  refine cV rfl (w_mNext.mpr ?_);have hw:1<=1+v%3/\1+v%3<=3:=by lia
  have i:1<=1+v/3%3/\1+v/3%3<=3:=by lia
  generalize 1+v%3=w at hw;generalize 1+v/3%3=h at i;obtain⟨s,x,y⟩:=Vh _ (qP hw) _ (qP i);have sz:=Wr hw i;refine w_mRet.mpr (aN (w_mTup.mpr ⟨_,rfl,eL,c7 (a7 ⟨_,rfl,a7 ⟨_,rfl,a7 ⟨_,rfl,a7 ⟨_,rfl,a7 (aN (aN ⟨_,rfl,_,rfl,(iR (by decide) (by decide)).mpr ⟨_,rfl,(dY (by decide)).mpr ⟨_,rfl,?_⟩⟩⟩))⟩⟩⟩⟩)⟩));exact VA (λF G=>JL F/\NC w h F G) (k+1) ns w h ⟨WT,Xk _⟩ (λF G u n a o m l P J=>⟨WU F u n a m l J.1,WV sz (J.1.wf sz) P m l J.2⟩) hw i 2 (v/27%5) (by decide) (by lia) (oX (nK y)) s x _ _ λa b F Z g p G J=>BS (H w h a b F _ Z g sz p ⟨G.hw,.refl _,G.hi,G.hh,G.pl⟩ (J.1.wf sz) (Ys (YM _ _) (Wv _ (qP hw) _ (qP i))) λ_=>J.2)
noncomputable def tV(t:Int):Str:=if t=0 then "h" else if t=1 then "v" else "o"
theorem Xm{t:Int}(b:0<=t/\t<3){a:Hm}{Q:jz}(H:Q (.str (tV t),a)):W (aJ (.str "hvo") (.int t) a) Q:=by
 have:t=0\/t=1\/t=2:=by lia
 rcases this with rfl|rfl|rfl
 ·exact(Bb (c:=104) (by decide) (by decide)).mpr H
 ·exact(Bb (c:=118) (by decide) (by decide)).mpr H
 ·exact(Bb (c:=111) (by decide) (by decide)).mpr H
theorem Xn(t:Int):BN (tV t):=by
 unfold tV;split
 ·exact .inr (.inr rfl)
 ·split
  ·exact .inr (.inl rfl)
  ·exact .inl rfl
noncomputable def lE(w h v:Int)(F:Int×Int->Ly):List ((Int×Int)×Str):=(fE w h F).map λe=>(e,tV ((e.1*7+e.2+v/135)%3))
theorem Xo{w h v:Int}{F:Int×Int->Ly}(u:(fE w h F).length<=48){μ0 g:Hm}{l:Nat}(A:μ0<+:g)(j:g[μ0.length]?=aX (.lst []))(gl:g[l]?=aX (.lst ((fE w h F).map PP))){o p q r s:Option D}{xs:List (Option D)}(Q:Fl×aF×Hm->Prop)
  (H:∀x a,μ0<+:a->a[μ0.length]?=aX (.lst ((lE w h v F).map MD))->Q (.nx,o::aX (.int v)::p::q::r::s::aX (.loc μ0.length)::x::xs,a)) :
  W (dD (cH (.loc l)) (bP 7) GS (((fE w h F).map PP).length+1) 0 (o::aX (.int v)::p::q::r::s::aX (.loc μ0.length)::aY::xs) g) Q:=by
 have y:μ0.length≠l\/fE w h F=[]:=by
  by_cases e:μ0.length=l
  ·rw[e,gl]at j;exact .inr (by simpa using j)
  ·exact .inl e
 refine gQ (λi b a=>∃x,b=o::aX (.int v)::p::q::r::s::aX (.loc μ0.length)::x::xs/\μ0<+:a/\a[μ0.length]?=aX (.lst (((lE w h v F).take i).map MD))/\a[l]?=aX (.lst ((fE w h F).map PP))) ⟨aY,rfl,A,j,gl⟩ (by rintro _ _ _ ⟨_,_,_,_,h⟩;exact h) ?_ ?_
 ·rintro i d b a hd ⟨x,rfl,n,c,k⟩;obtain⟨e,m,rfl⟩:=gU hd;have ne:μ0.length≠l:=y.resolve_right λz=>by rw[z]at m;cases m
  have lt:=YK i (lE w h v F);have B:(lE w h v F).length<=48:=by unfold lE;rw[Xx];exact u
  refine⟨_,rfl,w_mDrop.mpr (iE ⟨_,rfl,gR c,a7 (w_mTup.mpr (a7 ⟨_,rfl,a7 (aN ⟨_,rfl,aN (aN (aN (aN (a8 rfl rfl (w_it20.mpr ⟨_,rfl,(j9 (.inr (by decide))).mpr (a8 rfl rfl (w_it21.mpr (w_addI.mpr ?_)))⟩))))) ⟩)⟩))⟩)⟩;refine a8 rfl rfl ((iR (by decide) (by decide)).mpr (w_addI.mpr ⟨_,rfl,(dY (by decide)).mpr (Xm (by lia) ⟨_,rfl,eL,_,rfl,(kE c (by rw[Xx,X2];lia)).mpr ⟨_,rfl,cI n (XJ _) _,?_,?_⟩⟩)⟩))
  ·rw[bX c,eY (l:=lE w h v F) (n:=i) (by unfold lE;rw[XR,m];rfl),X4];rfl
  ·rw[XB ne];exact k
 ·rintro b a ⟨x,rfl,n,c,_⟩;have:((fE w h F).map PP).length=(lE w h v F).length:=by unfold lE;rw[Xx,Xx]
  rw[this,YS]at c;exact H x a n c
theorem Xp{v:Int}{d:Bool}{a:Hm}{c:aF}(h1:c[1]?=aX (aX (.int v)))(g:c[10]?=aX (aX (.bl d))){Q:jz}(H:∀t b,0<=t/\t<=50->a<+:b->Q (.int t,b)):W (aB aJ (b7 (aC (aB bB (mC (.int 1)) (aB bH (aB eD (aA 1) (mC (.int 135))) (mC (.int 4)))) (aC (aB bH (aB eD (aA 1) (mC (.int 135))) (mC (.int 40))) aD))) (aH m5 (aC (mW (aA 10)) aD)) c a) Q:=by
 have e:∀a:Hm,aA 1 c a=aX (.int v,a):=λa=>by unfold aA;rw[h1]
 have h:∀a:Hm,aA 10 c a=aX (.bl d,a):=λa=>by unfold aA;rw[g]
 refine aN (w_mLst.mpr (a7 (aN ⟨_,rfl,aN (a8 (e _) rfl ((iR (by decide) (by decide)).mpr ⟨_,rfl,(dY (by decide)).mpr (w_addI.mpr (a7 (aN (a8 (e _) rfl ((iR (by decide) (by decide)).mpr ⟨_,rfl,(dY (by decide)).mpr ⟨_,rfl,eL,?_⟩⟩)))))⟩))⟩)));refine c7 (a7 (w_mNotV.mpr ⟨_,h _,⟨_,rfl,w_intB.mpr ?_⟩⟩));cases d with
 |false=>exact(c6 (bA _ _) (show atI [D.int (1+v/135%4),.int (v/135%40)] 1=aX (.int (v/135%40))from rfl)).mpr (H _ _ (by lia) (aL _ _))|true=>exact(c6 (bA _ _) (show atI [D.int (1+v/135%4),.int (v/135%40)] 0=aX (.int (1+v/135%4))from rfl)).mpr (H _ _ (by lia) (aL _ _))
theorem Xq{c:Hm}{a b:Nat}{Y Z:Zr}{Q:jz}(d:c[a]?=aX (.dT (aM Y)))(e:c[b]?=aX (.dT (aM Z)))(h:Y.length=Z.length)(g:nC c (aM Z) (aM Y)=aX b5)(H:Q (.bl b4,c)):W (jK b5 (.loc a) (.loc b) c) Q:=by
 have:jK b5 (.loc a) (.loc b) c=aX (.bl b4,c):=by simp only[jK,d,e];rw[if_pos (by rw[gM,gM,h]),g];rfl
 rw[this];exact W_some.mpr H
theorem Xr(k:Nat)(ns:List Int)(μ:Hm):W (f (k+7) "law" [.rol (ns.map D.int)] μ) λr=>r.1=.bl true:=by
 refine dG (UR (k+6) _ μ) (bJ (bD rfl (tE (k+4) ns 0 (by decide) _ _ λv μ1 _ _ p1=>?_)));refine w_mSeq.mpr (w_mAsg.mpr (bD rfl (Xl (k+1) ns _ _ _ λw h a b F row Z x g p2 d wf cl nc=>⟨_,rfl,bJ (w_mLst.mpr ⟨_,rfl,Yu _,fL (w_mForI.mpr (w_iSeq.mpr (bD rfl ?_)))⟩)⟩)));obtain⟨_,_,H,l0,up,l2,J,fr⟩:=eN _ g;replace H:(bF w h).length<=48:=H;have nd:(bF w h).Nodup:=oX (nK up);have i:=d.hr.nodup_iff.mpr nd;have lrow:=d.hr.length_eq;have da:=d.more (aL x (C.lst []));refine HX (k+4) g i (λq hq=>d.hr.mem_iff.mpr hq) da.hw _ λlc μ3 p3 g3=>(eK g3).mpr (Xo cl ((aL _ _).trans p3) (aE p3 (bA _ _)) g3 _ λx7 μ4 p4 g4=>⟨rfl,?_⟩);have nr:(aQ w h).Nodup:=oX (nK J);refine bJ (bD rfl (V0 (k+2) g (cr:=fE w h F) (λe=>tV ((e.1*7+e.2+v/135)%3)) (by lia) ((Zo (l:=aQ w h)).nodup nr) (λp hp=>(Yp.mp hp).1) (λ_=>Xn _) (by rw[g4,lE,Yc];rfl) _ λS μ5 p5=>?_));have X:=d.more (p4.trans p5);refine bJ (c7 (a7 ⟨_,rfl,a7 (bD rfl (tE (k+4) ns 9 (by decide) _ _ λv9 μ6 _ _ p6=>⟨_,rfl,?_⟩))⟩));refine Jv (k+5) (aE p6 X.hw) i (by lia) _ λj E l G p7 g7=>bJ (aN (aN (aN ⟨_,rfl,_,rfl,(iR (by decide) (by decide)).mpr ⟨_,rfl,(dY (by decide)).mpr ⟨_,rfl,w_neI.mpr ?_⟩⟩⟩)));have m:=X.more (p6.trans p7);have e7:Dr (bF w h) l E b F j Z:=⟨g7,G.trans m.hr,m.hi,m.hh,m.pl⟩;generalize hf:(!(v/9%3==1))=n;have u:n=b5->iV (eB (kI (GZ Z)) (cN (aS F) (aQ w h)))=.non:=λz=>by rw[W6 (nc (by rw[z]at hf;simpa using hf))];rfl
 obtain⟨⟨b8,μ8⟩,t8,rfl,p8⟩:W (eH (fI (aA 10)) (aV (aB (f7 b5) (aH (f (k+6) "crossing") (aC (aA 8) (aC (aA 9) (aC (aA 5) aD)))) (mC .non))) [aX (.rol (ns.map D.int)),aX (.int v),aX (.int w),aX (.int h),aX (.loc a),aX (.loc b),aX (.loc x.length),x7,aX (SH w h S),aX (.loc E),aX (.bl n),aY,aY,aY] l) λr=>r.1=b4/\l<+:r.2:=by
  refine w_mAndT.mpr (mH (b:=n) ⟨_,rfl,rfl,?_⟩);cases n with
  |false=>exact cV rfl ⟨rfl,Yw _⟩|true=>refine c4 rfl (cM (aN (bD rfl (xD k g wf nd e7 _ λμ' p=>⟨_,rfl,?_⟩))));rw[u rfl];exact w_isnotNN.mpr ⟨_,rfl,rfl,p⟩
 refine w_mSeq.mpr (w_mIfS.mpr ⟨_,t8,cV rfl (w_mNext.mpr ?_)⟩);have d8:=m.more p8;refine bJ (c7 (a7 ⟨_,rfl,a7 (bD rfl (tE (k+4) ns 1 (by decide) _ _ λv1 μ9 K L p9=>a7 (Xp rfl rfl λt μA ht pA=>⟨_,rfl,?_⟩)))⟩));have A:=d8.more (p9.trans pA);refine Xj (k+5) H A.hi A.hh A.pl v1 ⟨K,L⟩ t ht _ λU Y M pB IB gB T=>?_;have dB:=A.more pB;have yB:Dr (bF w h) M a U F row Y:=⟨dB.hw,dB.hr,IB,gB,T⟩;have lY:=T.lenZ.1;refine bJ (bD rfl (Xh (k+3) g wf nd yB _ λN pC=>?_));have B:=yB.more pC;have gY:N[U]?=aX (.dT (aT (mK Y) (Y.map (·.1)))):=by rw[<- HB B.hi.kd];exact B.hh
 refine bJ (c7 (a7 ⟨_,rfl,a7 (bD rfl (tE (k+4) ns 8 (by decide) _ _ λv8 μD _ _ I=>⟨_,rfl,?_⟩))⟩));refine Jv (k+5) (aE I gY) B.hi.kd (by rw[Xx];lia) _ λks b3 O s pE gE=>?_;have c:=B.more (I.trans pE);obtain⟨R,h3⟩:=c.hi.re (Yw _) s gE;have pF:=(p8.trans (p9.trans pA)).trans (pB.trans (pC.trans (I.trans pE)));have rE:Dr (bF w h) O E b3 F j (hG Y ks):=⟨aE pF g7,e7.hr,R,h3,c.pl.re s⟩;have cg:kI (GZ (hG Y ks))=kI (GZ Y):=W4 λp=>HE c.hi.kd s p;refine w_mSeq.mpr (w_mIfS.mpr (UY (Bj (mH (b:=b5) (c7 (a7 (bD rfl (xD k g wf nd rE _ λμF o=>a7 ⟨_,rfl,⟨_,rfl,?_⟩⟩))))))));rw[cg];refine Js (k+5) _ _ _ ⟨rfl,rfl,cM (a8 rfl rfl (Xq (aE o h3) (aE o c.hh) ?_ (HF c.hi.kd (λz hz=>aE o (c.hi.at_ z hz)) _ λy hy=>?_) ⟨_,rfl,cV rfl (w_mNext.mpr ?_)⟩))⟩
 ·have:=s.length_eq;rw[Xx]at this;unfold hG;rw[Xx,this]
 ·have hm:=BF c.hi.kd s hy;exact⟨aE o (R.at_ y hy),XH.mpr ⟨y,hm,rfl⟩,nN c.hi.kd hm⟩
 refine w_mSeq.mpr (w_mIfS.mpr (mH (b:=n) ⟨_,rfl,rfl,?_⟩));cases n with
 |true=>refine c4 rfl (cZ (aN (bD rfl (xD k g wf nd (m.more (pF.trans o)) _ λQ qG=>⟨_,rfl,?_⟩))));rw[u rfl];exact w_isNN.mpr rfl|false=>exact cV rfl (w_mNext.mpr (cZ (c7 (a7 (bD rfl (xD k g wf nd (c.more o) _ λQ qG=>a7 ⟨_,rfl,⟨_,rfl,Js (k+5) _ _ _ rfl⟩⟩))))))
theorem Xs:∀ns:List Int,ns.length<=63->∃a,j8 S ds 7 "law" [.rol (ns.map D.int)] []=aX (.bl b5,a):=λns _=>by obtain⟨⟨d,a⟩,b,c⟩:=Xr 0 ns [];dsimp only at c;subst c;refine⟨a,?_⟩;unfold f at b;exact b
theorem dz(Q:ZG):vZ (Kx Q) ds:=by unfold vZ;kernel_rfl
theorem cz(Q:ZG):Gj (Kx Q) S.con=true:=by kernel_rfl
theorem nz(Q:ZG):S.no.map (a2v (Kx Q) Zq)=S.no.map λ_=>aX none:=by kernel_rfl
theorem Xu{P:Yk}{w:Yz}{Q:ZG}
  {h:YZ}{a:Str → Option Value}(X:(Kx Q).In h)(G:h.Ns Zq a):TxtOk P w (Kx Q) a S ds ∧ ∃f b,Fun (Kx Q) "law" "law" (aK 60) f b ∧ a "law"=aX (.ref f) ∧ ∀(s:XD)(u:Value),a4w s b ⟨[u],[]⟩ [("_law_script",u)]:=by
 refine⟨⟨Tj (by decide +kernel),Tn λp c=>(Gg X G (dz Q) p c).1,To (Tt X G (cz Q)),λx d e=>?_,Tp (Ts X G (nz Q))⟩,Tr X G (dz Q) (by kernel_rfl) (by kernel_rfl)⟩
 ·cases e
end Lw
open PySem PySem.W PyProof.Rows
set_option maxRecDepth 100000 in
set_option maxHeartbeats 0 in
theorem PySem.Challenge.cw_creasecourt_k62_what_crosses_holds : PySem.Challenge.rw_creasecourt_k62_what_crosses.Holds := by
 w_on
 refine holds_law (by decide +kernel) fun a=>?_
 refine holds_open (q:=Lw.Vw) (loose:=[]) (Xt:=fun s=>xlAt Lw.Vw [] s&&recOk (a7K (a6x (YX XF))) s) (XP:=XL Lw.Vw []) (Yf:=Hook.obs (a8Q Lw.Kx Lw.As Lw.rK)) (Ya:=Hook.val (a8Q Lw.Kx Lw.As Lw.rK)) (YP:=Hook.says (a8Q Lw.Kx Lw.As Lw.rK)) (N:=5516) Lw.run (Hook.of _) (Hook.keeps _) (fun s e=>xl_of s (a0W.mp e).1) XL.keeps (by rfl) (by rfl) (by rfl) (fun s e=>recFacts_of (a0W.mp e).2) (by rfl) (by first|assumption|decide +kernel) (by decide +kernel) ⟨rfl,rfl,rfl,rfl,rfl,by decide +kernel⟩ ?hw ?hc
 case hw=>w_witness2
 k_fill
 refine L3.walkM (l:=XF) (S:=Lw.S) (ds:=Lw.ds) (k:=7) (st:=Lw.aK 60) (x:="_law_script") rfl rfl ⟨rfl,by decide,by decide⟩ (fun w h Y=>PySem.W.kIn_of Y) (by kernel_rfl) (by kernel_rfl) ?F (fun c h _=>Lw.Xs c h)
 case F=>
  intro w d h b G
  refine' Lw.Xu (P:=Y3) (w:=w)  b G
