import PyProof.Rows.All
import Wide.All
import OpenK.AllK
import Wide.FinOn
import PyProof.EqAt
import PyProof.EqKinds
import PyProof.TupleCall
import KE.KDictSum
import PyProof.SliceStr2
import PyProof.NeKinds
import PyProof.StrWalks
import PyProof.ConsumeWalk
import KE.KSortTup
import PyProof.StationsW
import OpenK.KOwn
import PyProof.RulesAs
import PyProof.NsDelKeeps
import PyProof.InstStoreFacts
import OpenK.KCls
import PyProof.ExcArgs
import PyProof.ExcAttrAll.ValueError
import KE.KIsAll
import PyProof.Rows.SetFrom
import PyProof.Rows.SortStr
import PyProof.SumAny
import PyProof.EnumMake
import KE.KRevIter
import PyProof.MeetsStr
import PyProof.ListRange
import PyProof.Rows.Range3
import KE.KDictList
import PyProof.PureStr
import PyProof.WalkInts
import PyProof.ConsumeS
import PyProof.ZipIter
import PyProof.AttrMissHeap
import KE.KDictOf
import PyProof.DictItems
import KE.KItemsList
import KE.KEqDict
import PyProof.DictValues
import PyProof.DictWalks
import PyProof.Rows.StrNews
import KE.KPairComp
import KE.KMinKey
import KE.KPar
import PySem.Challenge.RW_creasecourt_k64_whole_turned_about
open Option renaming some->aX,none->aY
open Bool renaming false->b3,true->b4
open And renaming symm->a4M
open Array renaming mk->XT,getElem?_toList->X2,length_toList->Zk,getElem?_eq_some_iff->a1m,getD->a1n,getElem?_eq_getElem->a1w,getElem?_eq_none->a1S,replicate->a3m,toList_push->a4U,toList->a6u,map->a7B
open Bool renaming and_eq_true->WZ,false_ne_true->Xo,false_eq_true->Xp,eq_iff_iff->YV,or_eq_true->Y3,not_eq_true'->Z4,and_eq_true_iff->a0c,not_true->a1G,not_false->a2l,or_false->a2z,and_true->a2A,noConfusion->a5J,false_and->a6h,and_comm->a6t
open Classical renaming byContradiction->Zt,choose->a2w,choose_spec->a3K
open False renaming elim->Zf
open ForInStep renaming yield->a0h
open Int renaming toNat_of_nonneg->YO,emod_lt_of_pos->Z0,emod_nonneg->a0t,toNat_natCast->a0I,add_zero->a1k,neg_add_cancel_left->a4o,zero_mul->a4t,zero_add->a4u,mul_zero->a4v,mul_one->a4L,emod_add_emod->a5H,mul_eq_zero->a6e,emod_two_eq->a6f,sub_self->a6S,neg_neg->a7t,neg_mul->a7u,mul_neg->a7v
open List renaming length_map->WO,getElem?_eq_some_iff->WR,getElem?_set_ne->WT,mem_map->W0,getElem?_eq_getElem->W3,length_append->W4,getElem?_map->W6,map_map->W7,map_cons->Xa,size_toArray->Xb,mem_cons_of_mem->Xc,mem_singleton->Xe,mem_cons_self->Xf,map_append->Xj,mem_of_getElem?->Xn,mem_cons->Xr,map_congr_left->Xs,prefix_refl->Xx,length_cons->Xy,contains_iff_mem->XA,mem_filter->XD,all_cons->XG,getElem?_append_left->XM,nodup_cons->XN,length_set->XO,filter_cons_of_pos->XQ,filter_cons_of_neg->XR,mem_append->XS,getElem?_eq_none_iff->XU,length_filter_le->XW,zipWith_cons_cons->XX,getElem?_set_self->XY,length->X0,mem_append_right->X3,set_cons_zero->X7,getD->X8,range->X9,set_cons_succ->Yc,filter_append->Yd,append_nil->Yh,take_length->Yj,take_of_length_le->Yk,length_take->Ys,nodup_append->Yt,mem_append_left->Yw,length_take_le'->Yx,all_eq_true->YB,getElem?_eq_none->YD,nodup_nil->YH,getElem?_append_right->YI,mem_range->YR,append_assoc->Y2,eraseIdx_eq_take_drop_succ->Y4,take_append_drop->Y5,mem_iff_getElem?->Y6,cons_append->Y9,replicate->Zc,length_eq_zero_iff->Ze,flatMap_append->Zl,getD_eq_getElem?_getD->Zu,length_replicate->Zw,find?_cons->ZA,set_append_left->ZF,filter_eq_self->ZN,not_mem_nil->ZO,getElem_mem->ZP,getElem?_replicate->ZQ,prefix_append->ZS,map_nil->ZT,filter_nil->Z1,reverse_cons->Z3,length_pos_iff->a0k,filter_sublist->a0l,map_take->a0p,pairwise_map->a0C,flatMap_cons->a0D,filter_eq_nil_iff->a0E,lookup_cons->a0N,length_drop->a0O,nil_append->a0W,length_nil->a0X,foldl_cons->a0Y,length_reverse->a1g,perm_ext_iff_of_nodup->a1o,mem_filterMap->a1p,find?_eq_none->a1q,pairwise_iff_getElem->a1x,drop_eq_getElem_cons->a1y,filter_congr->a1C,ext_getElem?->a1D,mem_flatMap->a1N,flatMap_nil->a1O,filter_cons->a1P,countP_cons->a1Q,zipWith->a1W,range_succ->a2b,set_append_right->a2c,length_singleton->a2d,range'->a2h,map_id->a2i,lookup->a2j,filterMap_cons->a2s,pairwise_cons->a2D,set_set->a2O,length_range->a2P,all_map->a2Q,eraseIdxIfInBounds_toArray->a2X,perm_middle->a3e,of_mem_zip->a3o,take_zero->a3I,exists_mem_of_ne_nil->a3V,getElem?_take_of_lt->a4g,any_cons->a4h,pairwise_singleton->a4j,range_succ_eq_map->a4k,length_pos_of_mem->a4l,drop_of_length_le->a4m,append_eq_nil_iff->a4n,getElem?_reverse->a4r,dropLast_eq_take->a4s,mem_of_mem_take->a4E,getElem?_of_mem->a4F,getElem_of_mem->a4J,getD_cons_zero->a4K,zip_cons_cons->a4S,getElem_idxOf->a4T,take_add_one->a5r,reverse_perm->a5s,map_inj_left->a5t,foldl_append->a5u,range'_succ->a5D,map_reverse->a5E,getElem_inj->a5F,ext_getElem->a5G,range_zero->a5X,forIn_cons->a5Y,take_succ->a6c,map->a6d,map_drop->a6s
open List.Pairwise renaming map->a0T,nil->a3J,of_map->a6Q
open List.Perm renaming eq_of_pairwise->a0d
open Nat renaming le_refl->WY,ne_of_lt->Xd,lt_of_lt_of_le->Xq,le_trans->Xz,zero_le->XJ,ne_of_gt->X1,lt_succ_self->YW,lt_irrefl->Zs,le_succ->ZH,not_lt->ZY,le_of_lt->ZZ,le_of_eq->a0j,not_lt_zero->a1f,lt_trans->a1j,mul_le_mul->a1u,succ_mul->a2V,lt_succ_of_lt->a2W,le_of_not_lt->a3k,lt_of_lt_of_eq->a5q,lt_trichotomy->a5C,min_eq_left->a6b,succ_pos->a6O,sub_self->a6P,log2_lt->a7s
open Ne renaming symm->XI
open Option renaming bind_eq_some_iff->WM,map_eq_some_iff->WS,bind_some->Xi,map_some->Xm,isSome_map->a1s
open Option.some renaming inj->Xg,injEq->a7I
open Or renaming inr->a2N,inl->a4f
open Prod renaming ext->XH
open Prod.mk renaming inj->a2a,injEq->a5A
open PyProof.Rows renaming seqObj->Yu,callWith_type1->Yz,IntsAre->ZU,entry_list_sort->a1r,slot_list_sort->a1I,args_list_sort->a1K,callWith_builtin1->a2f,sortedAll_old->a2B,sortedAll_at->a2L,AllBare->a2R,listUpdate_at->a3b,sortedHeap->a3g,assignInOrder_cons->a3h,lt_int->a3z,envOfC->a3A,IsTup->a3B,seqEpoch_at->a3Z,subscriptTail_builtinR->a4Z,plain_sorted->a5b,entry_sorted->a5e,args_sorted1->a5f,kind_sorted->a5R,assignInOrder_nil->a6z,list_sort_plain->a6Y,get?_update_seq->a7a,wpAny_notIn_heap->a7c,sorted_ints->a7d,pow_int_small->a7e,pow_int->a7f,oneLt_int->a7g,mul_int->a7h,mirror_perm->a7i,floordiv_int->a7j,entry_proto_collect'->a7k,entry_list_iadd'->a7l,call_len_slot->a7m,callWith_kw->a7n,bubble_perm->a7o,bubble->a7p,assign_Tuple_tuple->a7q,assign_Tuple->a7r,sortedHeap_old->a7D
open PyProof.Rows.Boot renaming sorted->a0w,tuple->a0z,list->a0H,min->a0M,int->a2g,str->a5h,reversed->a5i,max->a5j,len->a5k,isinstance->a5l,dict->a5m,bool->a5n,all->a5o
open PySem renaming wpAny_bind->WN,wpAny_pure->WV,Shared->WX,sizeLine->W8,sizeLine_eq->Xh,wpAny->Xk,model->Xv,Program->Xw,starEach->XB,Around->XC,World->XF,wpAny_newObj_type->XZ,wpAny_holding->X4,Heap->Ye,wpAny_mono->Ym,wpAny_call_entry->Yo,mem_of_lookup->Yp,compareOp->Yv,wpAny_setField_rec->YA,Pos->YE,mainGlobals->YF,sysModules->YG,cLine->YL,bootBuiltins->YN,Params->YS,wpAny_truthy_bool->YT,wpAny_dictEntries->YU,wpAny_Call_Name_kw->YX,treeTable->Zo,assignEach->Zp,wpAny_isOneOf_itemiter->Zv,plainId_quiet->Zx,Scope->Zz,FuncData->ZC,backTo->ZI,wpAny_dictEpoch->ZK,wpAny_field->ZL,NameKind->ZM,attributeBase->ZR,wpAny_typeNameOfWhole_itemiter->ZV,firstArgMember->ZW,binaryOp->ZX,wpAny_updateSeq->Z6,wpAny_passesOwn->Z7,wpAny_ite_split->Z8,codeAny_builtin->Z9,swappedStores->a0a,behindInMarks->a0b,foldedSetIterable->a0e,argBest->a0f,Keyword->a0g,rawInt->a0m,wpAny_isInstance->a0q,tupleKind->a0r,pyNext->a0v,wpAny_newList->a0y,intKind->a0A,codeAny->a0B,wpAny_callSpecial?_slot->a0J,wpAny_Call_method0_late->a0K,wpAny_setField->a0P,compEnvC->a0R,wpAny_notOrdered_dict->a0U,evalArgs_none->a0V,CmpOp->a0Z,wpAny_rule->a1b,swapsWith->a1c,wpAny_letGo->a1h,keywordEach->a1i,call_meetsIn->a1A,OsState->a1B,wpAny_tryCatch->a1H,constantsAlone->a1J,Paired->a1M,wpAny_pyIter_slot->a1T,wpAny_pyIter_list->a1U,wpAny_of_eq->a1V,wpAny_standAt->a1X,foldedForSure->a1Y,setField->a2e,pyIter->a2m,call_meets->a2n,wpAny_specialOf->a2p,wpAny_execs_nil->a2q,letOwnedTupleGo->a2r,wpAny_isOneOf_valiter->a2t,Env->a2v,wpAny_seqItems->a2E,wpAny_newTuple->a2F,wpAny_fieldsOf->a2G,richCompare->a2H,isSubtype_stop->a2I,backToKw->a2J,atKey->a2K,IsRangeIter->a2M,wpAny_handled->a2Y,wpAny_attempt->a2Z,swapsWithSole->a3a,assignInOrder->a3c,assign->a3i,IsItemIter->a3l,codeAny_mono->a3s,callerA->a3t,BindsTo->a3D,updateSeq->a3L,seqIndex?->a3M,newExc->a3O,Result->a3Q,PassesOwn->a3U,wpAny_throw->a3X,subscripted->a3Y,typeNameOfWhole->a4i,dictSetDefault->a4p,Operator->a4q,bindL->a4O,bindC->a4P,wpAny_pyNext_list_item->a4V,wpAny_Call_method_late->a4W,wpAny_Assign_Subscript->a4X,typeOf->a4Y,seqIndex_neg->a5a,isTrue->a5c,getItem->a5d,wpAny_pyNext_list_end->a5v,wpAny_isOneOf_keyiter->a5w,builtinLookup_eq_fast->a5x,wpAny_pyIter_keyiter->a5K,unpackItems->a5L,storedH_new->a5M,seqIndex_of->a5N,raiseNew->a5O,newTuple->a5P,lookup_relabel_local->a5Q,bindName->a5S,bindArgs->a5T,SetTable->a5V,IntMulOk->a5Z,GenState->a6a,wpAny_tupleItemsOf->a6i,wpAny_pyIter_tuple->a6j,wpAny_load->a6k,wpAny_Name->a6l,typeLookup->a6m,entryOfKey->a6n,closureFor->a6o,checkCount->a6p,builtinsNs->a6q,wpAny_pyIter_enum->a6v,wpAny_assign_Name->a6w,storedH->a6x,relabel->a6y,MeetsIn->a6D,wpAny_pyIter_zip->a6E,wpAny_execs_cons->a6F,seqItems?->a6G,noFill_tuple_add->a6I,lastMarks->a6J,cellsFrom->a6K,call->a6M,wpAny_loadPart'->a6W,typeLookup_type->a6X,importedModules->a6Z,Sem->a7b,wpAny_bindName->a7C,recursionLimit->a7E,fitsIndex_both->a7G,Tok->a7H
open PySem.Around renaming under_plainId->Zb
open PySem.Builtin renaming sorted->a2x
open PySem.Builtin.Builtins renaming bindParams->ZJ
open PySem.Builtin.Dict renaming showsAll->Zj,noArgs->a1R,pendingCount->a7y,keyAndDefault->a7z,dictSlotNone->a7A
open PySem.Builtin.Dict_items renaming ownsTuple->Yr,ownedTupleIsFree->Y7,ownedTupleFields->Y8,pairFromOwner->Zg,newIterator->a0i,dictOf->a0G
open PySem.Builtin.Int renaming intBits->XE,intTooBig->a0u
open PySem.Builtin.List renaming listExtendWith->YQ,listSameRef->Z5,listTooLong->a1a,listLengthHint->a2y,listItems->a3f,listUpdate->a7x
open PySem.Builtin.Range renaming rangeSize->a6V
open PySem.Builtin.Str renaming occurrences->YC
open PySem.Builtin.Tuple renaming tupleHashOf->a6T,tupleCompareSizes->a6U
open PySem.Calls renaming callWith_builtin->Zm,spliced_cons->a1l,call_function_entry->a1v,spliced_nil->a1z,Name_function_global->a3C,evalArgs_plain->a4w
open PySem.Challenge renaming rw_creasecourt_k64_whole_turned_about->WU,pw_creasecourt_k64_whole_turned_about->Yb
open PySem.Data renaming fields->X6,dict->a0x,cell->a2o,seq->a4G,cls->a6g
open PySem.F renaming slot_dict_items->a0n,plainAttrs_dict->a0o,slot_dict_setdefault->a2U,args_dict_items_1->a3n,slot_dict_values->a3w,entry_dict_items->a3x,args_tuple_add_2->a3y,type_dict_items->a3E,plainAttrs_list->a3F,entry_tuple_add->a3G,slot_tuple_add->a3S,plain_min_loop->a3T,type_list_pop->a4c,slot_list_pop->a4d,slot_dict_get->a4e,plain_min->a4A,entry_min->a4B,kind_min->a4H
open PySem.Flow renaming next->a5I
open PySem.Heap renaming get?_push_of_some->WW,lt_size->W2,get?_push_size->W9,get?_update_other->Yl,get?_update_self->Yq,SameBut->YK,size_push->a0F,ExtBut->a1E
open PySem.Heap.DictOfH renaming new->a7w
open PySem.Heap.IsTuple renaming push->a5z
open PySem.Heap.SameBut renaming update->YJ,refl->a3W
open PySem.NameKind renaming free->Zi,cell->Zy
open PySem.Obj renaming mapSeq->Yi,data_mapFields->a1t,mapFields->a2C,isFreed_of_fields->a4D,data_mapDictKeys->a4I,cls_mapFields->a5B
open PySem.Paired renaming length->a3H,snoc->a6r
open PySem.PassesOwn renaming never->a4C
open PySem.SeqAt renaming ne_of_list_tuple->Y1,EqAt->a3u
open PySem.SeqAt.EqAt renaming int_int->a4b
open PySem.Shared renaming TypeIs->a5U
open PySem.Str renaming ofString->Yy
open PySem.Value renaming ref->W5,type->Xl,none->X5,bool->Y0,builtin->Za,int->Zq,str->a4a
open PySem.W renaming Frag->WQ,behindTheImports->Xu,boot_drawn->Yn,kas_place->YM,keepIn->YY,fnOf->YZ,kia_one->Zd,kas_desc->Zh,kas_rev->ZD,kas_asc->ZE,kas_descPart->Z2,boot_heap->a0L,topFrame->a0Q,findIn->a1d,kas_tail3->a1F,nsIn->a1L,codeIn->a1Z,methodObj->a2u,piecesOf->a3p,kas_sort->a3q,kas_bin->a3r,mg_of->a3v,segRun->a3N,boot_toks->a3P,cellsFrom_some->a3R,specialIn->a4x,kitx_list->a4y,kitx_dict->a4z,kas_count->a4N,instObj->a4Q,OpenLaw->a4R,kitOne->a5g,WalkO->a5y,isFn->a5W,piece_app->a6H,KasT->a6R,kHook->a7F
open PySem.W.KasFin renaming intro->a6C
open PySem.W.KasT renaming ret->ZG,ask->a2k
open PySem.W.OpenLaw renaming row->Yg
open PySem.W.OpenRow renaming toRowW->a5p
open PySem.W.RowW renaming records->a6B
open PySem.W.WData renaming int->a0S,weightAll->a1e,layable->a3d,weight->a3j,layableAll->a6N
open PySem.W.WShape renaming has->a6A
open PySem.Walks renaming list->a6L
open Sum renaming inr->a2S,inl->a2T
open True renaming intro->a0s
local macro_rules|`(tactic| omega) => `(tactic| lia)
set_option compiler.extract_closed false
set_option bootstrap.genMatcherCode false
set_option genSizeOf false
set_option genSizeOfSpec false
set_option Elab.async false
set_option linter.all false
set_option maxRecDepth 100000
set_option linter.all false
abbrev gq:=List PySem.Value
abbrev jw:=List (PySem.Addr×PySem.Obj)
abbrev jq:=List (Int×Int)
namespace L2
open PySem PySem.Spec PyProof.Rows
noncomputable abbrev cA:=Sum Int Str
noncomputable def wX:cA->Value->Bool
 |.inl k,v=>Value.isInt k v|.inr x,v=>Value.isStrOf x v
noncomputable def Bz(w:XF):cA->Int
 |.inl k=>hashInt k|.inr x=>hashStr w x
theorem kX:∀{k:cA}{v:Value},wX k v=b4->(∃i t,k=a2T i/\v=Zq i t)\/(∃x t,k=a2S x/\v=a4a x t)
 |.inl i,v,h=>by obtain⟨t,e⟩:=Value.isInt_shape (k:=i) (v:=v) h;exact .inl ⟨i,t,rfl,e⟩
 |.inr x,v,h=>by obtain⟨t,e⟩:=Value.isStrOf_shape (x:=x) (v:=v) h;exact .inr ⟨x,t,rfl,e⟩
theorem IK(a b:Int):decide ((a2T a:cA)=a2T b)=(a==b):=by
 by_cases e:a=b
 ·subst e;simp
 ·have h:¬ (a2T a:cA)=a2T b:=λq=>e (Sum.inl.inj q);rw[decide_eq_false h];exact(beq_eq_false_iff_ne.mpr e).symm
theorem IL(a b:Str):decide ((a2S a:cA)=a2S b)=decide (a=b):=by
 by_cases e:a=b
 ·subst e;simp
 ·have h:¬ (a2S a:cA)=a2S b:=λq=>e (Sum.inr.inj q);rw[decide_eq_false h,decide_eq_false e]
theorem IM(a:Int)(b:Str):decide ((a2T a:cA)=a2S b)=false:=decide_eq_false (λq=>nomatch q)
theorem IP(a:Str)(b:Int):decide ((a2S a:cA)=a2T b)=false:=decide_eq_false (λq=>nomatch q)
noncomputable def qO(prog:Xw)(w:XF):PySem.KeyKind prog w cA where
 is:=wX
 hash:=Bz w
 inj:=λv a b g d=>by
  rcases kX g with⟨i,t,rfl,rfl⟩|⟨x,t,rfl,rfl⟩
  ·rcases kX d with⟨j,u,rfl,e⟩|⟨y,u,rfl,e⟩
   ·injection e with e1 _;rw[e1]
   ·exact nomatch e
  ·rcases kX d with⟨j,u,rfl,e⟩|⟨y,u,rfl,e⟩
   ·exact nomatch e
   ·injection e with e1 _;rw[e1]
 byValue:=λk v h=>by rcases kX h with⟨i,t,rfl,rfl⟩|⟨x,t,rfl,rfl⟩<;>rfl
 pyHash:=λc h=>by
  rcases kX c with⟨i,t,rfl,rfl⟩|⟨x,t,rfl,rfl⟩
  ·exact wpAny_pyHash_int h
  ·exact wpAny_pyHash_str h
 eqBool:=λl c h=>by
  rcases kX l with⟨i,t,rfl,rfl⟩|⟨x,t,rfl,rfl⟩
  ·rcases kX c with⟨j,u,rfl,rfl⟩|⟨y,u,rfl,rfl⟩
   ·rw[IK]at h;exact wpAny_eqBool_int h
   ·rw[IM]at h;exact SeqAt.EqAt.int_str i t y u _ _ _ _ h
  ·rcases kX c with⟨j,u,rfl,rfl⟩|⟨y,u,rfl,rfl⟩
   ·rw[IP]at h;exact SeqAt.EqAt.str_int x t j u _ _ _ _ h
   ·rw[IL]at h;exact wpAny_eqBool_str h
 «strs»:=λk x t v h=>by
  rcases kX h with⟨i,u,rfl,e⟩|⟨y,u,rfl,e⟩
  ·exact nomatch e
  ·injection e with e1 _;subst e1;cases v<;>rfl
inductive V where
 |non|bl (b:Bool)|int (i:Int)|str (x:Str)|byt (b:Array UInt8)|flt (b:UInt64)|ref (a:Addr)|ty (n:String)
 deriving DecidableEq
abbrev gw:=List V
noncomputable def RelV:V->Value->Prop
 |.non,u=>u=X5|.bl b,u=>u=Y0 b|.int i,u=>∃t,u=Zq i t|.str x,u=>∃t,u=a4a x t|.byt b,u=>∃t,u=Value.bytes b t|.flt b,u=>∃t,u=Value.float b t|.ref a,u=>u=W5 a|.ty n,u=>u=Xl n
noncomputable abbrev Vals:gw->gq->Prop:=a1M RelV
theorem Vals.length{xs:gw}{us:gq}(r:Vals xs us):xs.length=us.length:=a3H r
theorem Vals.get:∀{xs:gw}{us:gq}{i:Nat}{x:V},Vals xs us->xs[i]?=aX x->∃u,us[i]?=aX u/\RelV x u
 |_,_,_,_,.nil,e=>by simp at e
 |_,_,0,_,.cons r _,e=>by simp at e;subst e;exact⟨_,rfl,r⟩
 |_,_,i+1,x,.cons _ t,e=>by obtain⟨u,a,b⟩:=Vals.get (i:=i) (x:=x) t (by simpa using e);exact⟨u,by simpa using a,b⟩
theorem Vals.set{x:V}{u:Value}(r:RelV x u):∀{xs:gw}{us:gq}(i:Nat),Vals xs us->Vals (xs.set i x) (us.set i u)
 |_,_,_,.nil=>.nil|_,_,0,.cons _ t=>.cons r t|_,_,i+1,.cons q t=>.cons q (Vals.set r i t)
theorem Vals.append:∀{xs a:gw}{us ws:gq},Vals xs us->Vals a ws->Vals (xs++a) (us++ws)
 |_,_,_,_,.nil,s=>s|_,_,_,_,.cons r t,s=>.cons r (Vals.append t s)
theorem Vals.take:∀{xs:gw}{us:gq}(n:Nat),Vals xs us->Vals (xs.take n) (us.take n)
 |_,_,0,_=>.nil|_,_,_+1,.nil=>.nil|_,_,n+1,.cons r t=>.cons r (Vals.take n t)
theorem Vals.drop:∀{xs:gw}{us:gq}(n:Nat),Vals xs us->Vals (xs.drop n) (us.drop n)
 |_,_,0,r=>r|_,_,_+1,.nil=>.nil|_,_,n+1,.cons _ t=>Vals.drop n t
theorem Vals.none_of:∀{xs:gw}{us:gq}{i:Nat},Vals xs us->xs[i]?=aY->us[i]?=none:=λ{xs us i} r e=>by have a:=r.length;have b:xs.length<=i:=XU.mp e;exact XU.mpr (by omega)
noncomputable def RelO:Option V->Option Value->Prop
 |some v,aX u=>RelV v u|none,aY=>True|_,_=>False
noncomputable def KV{κ:Type}:List (κ×V)->List (κ×Value)->Prop:=a1M λ(p:κ×V)(q:κ×Value)=>p.1=q.1/\RelV p.2 q.2
noncomputable def kV:cA->V
 |.inl i=>.int i|.inr x=>.str x
inductive HO where
 |lst (xs:gw)
 |tup (xs:gw)
 |dK (kvs:List (cA×V))|dT (kvs:List (List cA×V))
 |set (S:Int->Bool)(n:Nat)
 |ins (C dx:Addr)(fs:List (Str×V))
 |own (x:Addr)
 |xd (fs:List (Str×V))
 |met (f x:Addr)
 |rng (lo hi:Int)
 |frz (o:Obj)(u:HO)
 |tbl (ps:Array Value)
 |ext (φ:Ye->Prop)
noncomputable abbrev Hp:=Addr->Option HO
noncomputable def aM(H:Hp)(a:Addr)(o:HO):Hp:=λb=>if b=a then aX o else H b
theorem cQ{H:Hp}{a:Addr}{o:HO}:aM H a o a=aX o:=by unfold aM;rw[if_pos rfl]
theorem bF{H:Hp}{a b:Addr}{o:HO}(h:b≠a):aM H a o b=H b:=by unfold aM;rw[if_neg h]
theorem fI{H:Hp}{a b:Addr}{o:HO}(h:H a=aX o)(h':H b=aY):a≠b:=by intro e;subst e;rw[h]at h';cases h'
section
variable(P:Xw)(w:XF)
noncomputable def TupN(h:Ye)(a:Addr)(xs:Array Value):Prop:=∃o,h.get? a=aX o/\o.cls=.type "tuple"/\∃n,o.data=.seq xs n/\o.dict=aY
theorem TupN.tup{h:Ye}{a:Addr}{xs:Array Value}(x:TupN h a xs):a3B h a xs:=let⟨o,e,c,n,d,_⟩:=x;⟨o,e,c,n,d⟩
theorem TupN.new(h:Ye)(items:Array Value):TupN (h.push {cls:=.type "tuple",data:=.seq items}) h.objs.size items:=⟨_,W9 _ rfl,rfl,_,rfl,rfl⟩
noncomputable def ObjOk(H:Hp)(h:Ye)(a:Addr):HO->Prop
 |.lst b=>b.length<=W8/\∃(its:gq)(n:Nat),Vals b its/\h.get? a=aX {cls:=.type "list",data:=.seq its.toArray n}|.tup b=>b.length<=W8/\∃its:gq,Vals b its/\TupN h a its.toArray|.dK kvs=>kvs.length<=W8/\(a==YG)=b3/\∃i,KV kvs i/\h.DictOf (qO P w) a i|.dT kvs=>kvs.length<=W8/\(a==YG)=b3/\∃b:List (List cA×Addr×Value),
   a1M (λ(p:List cA×V)(q:List cA×Addr×Value)=>p.1=q.1/\H q.2.1=aX (.tup (p.1.map kV))/\RelV p.2 q.2.2) kvs b /\
   ∃o d j,h.get? a=aX o/\o.ExactDict/\o.data=.dict d j/\d.toList=b.map (a6n (a0r (qO P w)))/\(b.map (·.1)).Nodup
 |.set S n=>h.SetOf (a0A P w) a S n|.ins C dx fs=>H dx=aX (.own a)/\fs.length<=1000/\dx≠a/\h.get? a=aX (a4Q C dx) /\
   ∃c,h.Ns1 dx c/\(∀f,RelO (fs.lookup f) (c f))/\PySem.Within c (fs.map (·.1))
 |.own _=>∃o,h.get? a=aX o|.xd fs=>∃c,h.Ns1 a c/\∀f,RelO (fs.lookup f) (c f)|.rng lo hi=>∃t u v,h.get? a=aX {cls:=.type "range",data:=.fields #[.int lo t,.int hi u,.int 1 v]}|.frz o u=>h.get? a=aX o/\ObjOk H h a u|.tbl ps=>h.get? a=aX {cls:=.none,data:=.fields ps}|.met f x=>h.get? a=aX (a2u (.ref f) (.ref x))|.ext φ=>φ h/\(∃o,h.get? a=aX o)/\∀e g:Ye,φ e->(∀o,e.get? a=aX o->g.get? a=aX o)->φ g
noncomputable def HOk(H:Hp)(h:Ye):Prop:=∀a o,H a=aX o->ObjOk P w H h a o
end
section
variable{P:Xw}{w:XF}{H H':Hp}{h h':Ye}{a:Addr}{o:HO}
theorem ObjOk.lt(x:ObjOk P w H h a o):a<h.objs.size:=by
 cases o with
 |lst c=>obtain⟨_,_,_,_,e⟩:=x;exact W2 e|tup c=>obtain⟨_,_,_,p⟩:=x;exact p.tup.lt|dK b=>obtain⟨_,_,_,_,o,_,_,e,_⟩:=x;exact W2 e|dT b=>obtain⟨_,_,_,_,o,_,_,e,_⟩:=x;exact W2 e|set S n=>obtain⟨o,_,_,_,e,_⟩:=x;exact W2 e|ins C d fs=>obtain⟨_,_,_,e,_⟩:=x;exact W2 e|own y=>obtain⟨_,e⟩:=x;exact W2 e|xd fs=>obtain⟨_,⟨_,_,_,e,_⟩,_⟩:=x;exact W2 e|rng g hi=>obtain⟨_,_,_,e⟩:=x;exact W2 e|frz i u=>obtain⟨e,_⟩:=x;exact W2 e|tbl j=>exact W2 (show h.get? a=aX _ from x)|met f y=>exact W2 (show h.get? a=aX _ from x)|ext k=>obtain⟨_,⟨_,e⟩,_⟩:=x;exact W2 e
theorem a1M.mapP{d e:Type}{F G:d->e->Prop}:∀{c:List d}{l₂:List e},a1M F c l₂->(∀a b,F a b->G a b)->a1M G c l₂
 |_,_,.nil,_=>.nil|_,_,.cons r t,f=>.cons (f _ _ r) (a1M.mapP t f)
theorem ObjOk.stay(x:ObjOk P w H h a o)(k:∀b u,(b=a\/H b=aX (.own a))->h.get? b=aX u->h'.get? b=aX u)
  (I:∀b,H b=aX (.own a)->H' b=aX (.own a))(J:∀b m,H b=aX (.tup m)->H' b=aX (.tup m)):ObjOk P w H' h' a o:=by
 induction o with
 |lst m=>obtain⟨z,l,n,r,e⟩:=x;exact⟨z,l,n,r,k _ _ (.inl rfl) e⟩|tup m=>obtain⟨z,l,r,g,e,c⟩:=x;exact⟨z,l,r,g,k _ _ (.inl rfl) e,c⟩|dK s=>obtain⟨z,y,L,r,g,j,i,e,c⟩:=x;exact⟨z,y,L,r,g,j,i,k _ _ (.inl rfl) e,c⟩|dT s=>obtain⟨z,y,m,r,g,j,i,e,c⟩:=x;exact⟨z,y,m,a1M.mapP r λp q z=>⟨z.1,J _ _ z.2.1,z.2.2⟩,g,j,i,k _ _ (.inl rfl) e,c⟩|set S n=>obtain⟨g,j,i,t,e,c⟩:=x;exact⟨g,j,i,t,k _ _ (.inl rfl) e,c⟩|ins C M fs=>obtain⟨d,z,ne,e,A,⟨B,j,i,G,c⟩,r⟩:=x;exact⟨I _ d,z,ne,k _ _ (.inl rfl) e,A,⟨B,j,i,k _ _ (.inr d) G,c⟩,r⟩|own y=>obtain⟨g,e⟩:=x;exact⟨g,k _ _ (.inl rfl) e⟩|xd fs=>obtain⟨A,⟨B,j,i,e,c⟩,r⟩:=x;exact⟨A,⟨B,j,i,k _ _ (.inl rfl) e,c⟩,r⟩|rng N hi=>obtain⟨t,u,v,e⟩:=x;exact⟨t,u,v,k _ _ (.inl rfl) e⟩|frz g u K=>obtain⟨e,q⟩:=x;exact⟨k _ _ (.inl rfl) e,K q⟩|tbl E=>have e:h.get? a=aX {cls:=.none,data:=.fields E}:=x;show h'.get? a=aX {cls:=.none,data:=.fields E};exact k a _ (.inl rfl) e|met f y=>have e:h.get? a=aX (a2u (.ref f) (.ref y)):=x;show h'.get? a=aX (a2u (.ref f) (.ref y));exact k a _ (.inl rfl) e|ext O=>obtain⟨p,⟨o,e⟩,st⟩:=x;exact⟨st _ _ p λo q=>k _ _ (.inl rfl) q,⟨o,k _ _ (.inl rfl) e⟩,st⟩
theorem HOk.lt(x:HOk P w H h)(e:H a=aX o):a<h.objs.size:=(x a o e).lt
theorem HOk.fresh(x:HOk P w H h)(e:h.objs.size<=a):H a=none:=by
 cases q:H a with
 |none=>rfl|some u=>exact absurd (Xq (x.lt q) e) (Zs _)
theorem HOk.kept(x:HOk P w H h)(k:∀b u,h.get? b=aX u->h'.get? b=aX u):HOk P w H h':=λa o e=>(x a o e).stay (λb u _ q=>k b u q) (λ_ q=>q) λ_ _ q=>q
theorem HOk.laid(x:HOk P w H h)(k:∀b u,h.get? b=aX u->h'.get? b=aX u)(i:h.objs.size<=a)(new:ObjOk P w (aM H a o) h' a o):HOk P w (aM H a o) h':=λb u e=>by
 have g:=x.fresh i;by_cases d:b=a
 ·subst d;rw[cQ]at e;cases e;exact new
 ·rw[bF d]at e;exact(x b u e).stay (λc v _ q=>k c v q) (λc q=>by rw[bF (fI q g)];exact q) λc j q=>by rw[bF (fI q g)];exact q
end
noncomputable def Rd(H:Hp)(a:Addr)(u:HO):Prop:=H a=aX u\/∃o,H a=aX (.frz o u)
theorem Rd.of{H:Hp}{a:Addr}{u:HO}(h:H a=aX u):Rd H a u:=.inl h
theorem Rd.ok{P:Xw}{w:XF}{H:Hp}{h:Ye}{a:Addr}{u:HO}(r:Rd H a u)(x:HOk P w H h):ObjOk P w H h a u:=by
 rcases r with r|⟨o,r⟩
 ·exact x a u r
 ·obtain⟨_,q⟩:=x a _ r;exact q
noncomputable def qP:Option HO->Prop
 |some (.lst _)=>True|some (.dK _)=>True|some (.dT _)=>True|some (.set _ _)=>True|some (.ins _ _ _)=>True|some (.ext _)=>True|_=>False
section
variable{P:Xw}{w:XF}{H:Hp}{h h':Ye}{x e:Addr}{o':HO}
theorem HOk.write(ok:HOk P w H h)(j:qP (H x))(n:e=x\/H e=aX (.own x))(k:∀b u,b≠e->h.get? b=aX u->h'.get? b=aX u)(m:∃u,h'.get? e=aX u)
  (new:ObjOk P w (aM H x o') h' x o'):HOk P w (aM H x o') h':=λb u q=>by
 have d:∀c y,H c=aX (.own y)->c≠x:=λc y r z=>by subst z;rw[r]at j;exact j
 have g:∀c l,H c=aX (.tup l)->c≠x:=λc l r z=>by subst z;rw[r]at j;exact j
 by_cases i:b=x
 ·subst i;rw[cQ]at q;cases q;exact new
 ·rw[bF i]at q;by_cases a:b=e
  ·have o:H b=aX (.own x):=by
    rcases n with z|z
    ·exact absurd (a.trans z) i
    ·rw[a];exact z
   rw[q]at o;cases o;obtain⟨v,p⟩:=m;exact⟨v,by rw[a];exact p⟩
  ·refine(ok b u q).stay (λc v hc r=>k c v ?_ r) (λc r=>by rw[bF (d c b r)];exact r) λc l r=>by rw[bF (g c l r)];exact r
   rcases hc with rfl|hc
   ·exact a
   ·rintro rfl;rcases n with z|z
    ·exact d c b hc z
    ·rw[hc]at z;cases z;exact i rfl
end
structure Un(fs ex:List Addr)(H H':Hp)(h h':Ye):Prop where
 keep:∀b o,h.get? b=aX o->H b=aY->b∉fs->b∉ex->h'.get? b=aX o
 slot:∀b o,h.get? b=aX o->H b=aY->b∈fs->b∉ex->∃sl,h'.get? b=aX {o with slots:=sl}
 free:∀b o,h.get? b=aX o->H b=aY->b∉ex->H' b=aY
 there:∀b o,h.get? b=aX o->b∉ex->∃o',h'.get? b=aX o'
 tups:∀b xs,H b=aX (.tup xs)->H' b=aX (.tup xs)
 frzs:∀b o u,H b=aX (.frz o u)->H' b=aX (.frz o u)
 tbls:∀b ps,H b=aX (.tbl ps)->∃more,H' b=aX (.tbl (ps++more))
section
variable{fs fs' ex ex':List Addr}{H H1 H2:Hp}{h h1 h2 h':Ye}{a x e:Addr}{o:HO}
theorem Un.any(u:Un fs ex H H1 h h1){b:Addr}{c:Obj}(q:h.get? b=aX c)(n:H b=aY)(g:b∉ex):∃i,h1.get? b=aX {c with slots:=i}:=by
 by_cases d:b∈fs
 ·exact u.slot b c q n d g
 ·exact⟨c.slots,u.keep b c q n d g⟩
theorem Un.kept(k:∀b u,h.get? b=aX u->h'.get? b=aX u):Un fs ex H H h h':=
 ⟨λb c q _ _ _=>k b c q,λb c q _ _ _=>⟨c.slots,k b c q⟩,λ_ _ _ n _=>n,λb c q _=>⟨c,k b c q⟩,λ_ _ q=>q,λ_ _ _ q=>q,λ_ d q=>⟨#[],by rw[q];simp⟩⟩
theorem Un.refl:Un fs ex H H h h:=Un.kept λ_ _ q=>q
theorem Un.laid(k:∀b u,h.get? b=aX u->h'.get? b=aX u)(d:h.objs.size<=a)(c:H a=aY):Un fs ex H (aM H a o) h h' where
 keep:=λb u q _ _ _=>k b u q
 slot:=λb u q _ _ _=>⟨u.slots,k b u q⟩
 free:=λb u q n _=>by rw[bF (Xd (Xq (W2 q) d))];exact n
 there:=λb u q _=>⟨u,k b u q⟩
 tups:=λb g q=>by rw[bF (fI q c)];exact q
 frzs:=λb u g q=>by rw[bF (fI q c)];exact q
 tbls:=λb i q=>⟨#[],by rw[bF (fI q c),q];simp⟩
theorem Un.write(d:qP (H x))(m:e=x\/H e=aX (.own x))(k:∀b u,b≠e->h.get? b=aX u->h'.get? b=aX u)(g:∃u,h'.get? e=aX u):Un fs ex H (aM H x o) h h':=by
 have l:∀b,H b=aY->b≠x:=λb n z=>by subst z;rw[n]at d;exact d
 have j:∀b,H b=aY->b≠e:=λb n z=>by
  subst z;rcases m with r|r
  ·exact l b n r
  ·rw[n]at r;cases r
 have i:∀b u,H b=aX u->¬ qP (aX u)->b≠x:=λb u q p z=>by subst z;rw[q]at d;exact p d
 refine⟨λb u q n _ _=>k b u (j b n) q,λb u q n _ _=>⟨u.slots,k b u (j b n) q⟩,λb u q n _=>by rw[bF (l b n)];exact n,λb u q _=>?_,
  λb s q=>by rw[bF (i b _ q λz=>z)];exact q,λb u s q=>by rw[bF (i b _ q λz=>z)];exact q,λb v q=>⟨#[],by rw[bF (i b _ q λz=>z),q];simp⟩⟩
 by_cases c:b=e
 ·subst c;exact g
 ·exact⟨u,k b u c q⟩
end
noncomputable def sX(h:Ye)(H:Hp):List Addr:=(X9 h.objs.size).filter λa=>(H a).isSome
noncomputable def kZ(h:Ye)(H:Hp):Ye:=PySem.W.hideAll h (sX h H)
theorem IQ(h:Ye)(H:Hp):(kZ h H).objs.size=h.objs.size:=PySem.W.hideAll_size _ _
theorem IT{h:Ye}{H:Hp}{b:Addr}{o:Obj}(e:h.get? b=aX o)(n:H b=aY):(kZ h H).get? b=aX o:=
 PySem.W.hideAll_get _ e λa=>by have q:(H b).isSome=true:=(XD.mp a).2;rw[n]at q;simp at q
theorem IU{h:Ye}{H:Hp}{b:Addr}{o:Obj}(e:(kZ h H).get? b=aX o):h.get? b=aX o/\H b=none:=by
 have a:h.get? b=aX o:=PySem.W.of_hideAll (sX h H) e;refine⟨a,?_⟩;cases q:H b with
 |none=>rfl|some x=>have c:b∈sX h H:=XD.mpr ⟨YR.mpr (W2 a),by simp[q]⟩;have z:(kZ h H).get? b=none:=PySem.W.hideAll_none (sX h H) c;rw[z]at e;cases e
noncomputable def sY(g h:Ye)(L:Addr):jw:=(X9 h.objs.size).filterMap λa=>if a=L\/(g.get? a).isSome=b4 then aY else(h.get? a).map λo=>(a,o)
theorem wY{g h:Ye}{L a:Addr}{o:Obj}(h1:a≠L)(c:g.get? a=aY)(b:h.get? a=aX o):(a,o)∈sY g h L:=
 a1p.mpr ⟨a,YR.mpr (W2 b),by simp[h1,c,b]⟩
theorem IV{g h:Ye}{L:Addr}{p:Addr×Obj}(c:p∈sY g h L):p.1≠L/\g.get? p.1=aY/\h.get? p.1=aX p.2:=by
 obtain⟨b,_,e⟩:=a1p.mp c;split at e
 ·cases e
 ·rename_i a;cases q:h.get? b with
  |none=>rw[q]at e;simp at e|some u=>
   rw[q]at e;simp only[Xm,a7I]at e;subst e;refine⟨λz=>a (.inl z),?_,q⟩;show g.get? b=aY;cases r:g.get? b with
   |none=>rfl|some v=>exact(a (.inr (by simp[r]))).elim
noncomputable def b6(g h:Ye)(L d:Addr):jw:=(sY g h L).filter λp=>decide (p.1≠d)
theorem IW{g h:Ye}{L:Addr}:News g L h (sY g h L):=λp d=>let⟨a,b,c⟩:=IV d;⟨c,a,b⟩
structure Mod(K:WQ)(mg:Str->Option Value)(base:Ye):Prop where
 kin:K.In base
 glob:base.Ns YF mg
 blt:∃mb,base.Ns a6q mb/\∀x:Str,x ≠ "__name__"->mb x=YN x
 nolimit:base.NoLimit
structure Cx where
 prog:Xw
 w:XF
 K:WQ
 mg:Str->Option Value
 base:Ye
 A:XC
 N:List Str
 s₀:WX
 H₀:Hp
 env:a2v
 outer:List a2v
 stack:List a2v
 ex:List Addr
 fn:Str->Bool
 calm:Bool
 pn:jw
 xe:Value->WX->Prop
noncomputable def iR(l:List a2v):List Addr:=l.filterMap (·.frame)
noncomputable abbrev Cx.fs(X:Cx):List Addr:=iR X.outer
noncomputable def nI(sc:Zz)(x:Str):Prop:=sc.names.lookup x=aX .local\/sc.names.lookup x=aX .cell\/sc.names.lookup x=aX .free
noncomputable def Loc(sc:Zz)(x:Str):Prop:=sc.names.lookup x=aX .local\/sc.names.lookup x=aX .cell
noncomputable def IX(env:a2v)(h:Ye)(m:Str->Option Value)(x:Str)(u:Value):Prop:=
 (env.kindOf x=aX .local/\m x=aX u)\/((env.kindOf x=aX .cell\/env.kindOf x=aX .free)/\∃c,env.cells.lookup x=aX c/\h.IsCell c (aX u))
structure Cx.Ok(X:Cx):Prop where
 mod:Mod X.K X.mg X.base
 kind:X.env.scope.kind=.function
 glob:X.env.globals=YF
 blt:X.env.builtins=a6q
 above:X.s₀.heap.objs.size<=X.env.locals
 inj:∀x y c,X.env.cells.lookup x=aX c->X.env.cells.lookup y=aX c->x=y
 has:∀x,(X.env.kindOf x=aX .cell\/X.env.kindOf x=aX .free)->∃c,X.env.cells.lookup x=aX c
 cab:∀x c,X.fn x=b4->X.env.cells.lookup x=aX c->X.s₀.heap.objs.size<=c
 hd:X.calm=b4->X.A.handled=aY
 frames:X.A.frames=aX X.stack
 stk:X.stack=X.outer\/(X.stack=X.env::X.outer/\X.env.frame=aX X.env.locals)
 exf:∀b∈X.ex,b≠X.env.locals/\∀x c,X.env.cells.lookup x=aX c->c≠b
 bs:∀b o,X.base.get? b=aX o->X.s₀.heap.get? b=aX o/\X.H₀ b=aY
 bsz:X.base.objs.size<=X.s₀.heap.objs.size
 noex:∀b o,X.base.get? b=aX o->b∉X.ex
 exfs:∀b∈X.ex,b∉X.fs
 funs:X.s₀.heap.FunFrames X.base X.outer
 frf:∀b∈X.fs,X.H₀ b=aY
structure Inv(X:Cx)(a7J:jw)(σ:List (Option V))(H:Hp)(s:WX):Prop where
 ok:X.Ok
 os:s.os=X.s₀.os
 bare:a2R s.gens
 base:Un X.fs X.ex X.H₀ H X.s₀.heap s.heap
 loc:∃m,s.heap.Ns X.env.locals m/\∀(i:Nat)(x:Str)(v:V),X.N[i]?=aX x->σ[i]?=aX (aX v)->nI X.env.scope x->∃u,RelV v u/\IX X.env s.heap m x u
 cell:∀x c,X.env.cells.lookup x=aX c->∃v,s.heap.IsCell c v
 free:H X.env.locals=aY
 freeC:∀x c,X.env.cells.lookup x=aX c->H c=aY
 pin:∀p∈X.pn++a7J,s.heap.get? p.1=aX p.2/\H p.1=aY/\p.1≠X.env.locals/\p.1∉X.fs/\∀v,p.2.data≠.cell v
 hok:HOk X.prog X.w H s.heap
 len:σ.length=X.N.length
section
variable{X:Cx}{a7J:jw}{σ:List (Option V)}{H H':Hp}{s:WX}{h':Ye}
theorem Cx.Ok.nofr(ok:X.Ok){b:Addr}{o:Obj}(e:X.base.get? b=aX o):b∉X.fs:=λa=>by have:=(ok.funs.mem a).1;rw[e]at this;cases this
theorem Inv.bs(I:Inv X a7J σ H s):∀b o,X.base.get? b=aX o->s.heap.get? b=aX o/\H b=none:=λb o e=>⟨I.base.keep b o (I.ok.bs b o e).1 (I.ok.bs b o e).2 (I.ok.nofr e) (I.ok.noex b o e),I.base.free b o (I.ok.bs b o e).1 (I.ok.bs b o e).2 (I.ok.noex b o e)⟩
theorem Inv.bk(I:Inv X a7J σ H s):∀b o,X.base.get? b=aX o->s.heap.get? b=aX o:=λb o e=>(I.bs b o e).1
theorem Inv.mod(I:Inv X a7J σ H s):Mod X.K X.mg X.base:=I.ok.mod
theorem Inv.kIn(I:Inv X a7J σ H s):X.K.In s.heap:=I.ok.mod.kin.keeps I.bk
theorem Inv.fr(I:Inv X a7J σ H s):∃m,Fr X.base X.env.locals s.heap m:=
 let⟨m,a,_⟩:=I.loc
 ⟨m,a,I.bk,Xz I.ok.bsz I.ok.above⟩
theorem Inv.lt(I:Inv X a7J σ H s):X.env.locals<s.heap.objs.size:=let⟨_,a,_⟩:=I.loc;a.lt
theorem Inv.sz(I:Inv X a7J σ H s):X.s₀.heap.objs.size<=s.heap.objs.size:=Xz I.ok.above (ZZ I.lt)
theorem Inv.nofs(I:Inv X a7J σ H s){a:Addr}(h:s.heap.objs.size<=a):a∉X.fs:=λb=>by obtain⟨_,o,c,_⟩:=I.ok.funs.mem b;exact absurd (Xq (W2 c) (Xz I.sz h)) (Zs _)
theorem Inv.cne(I:Inv X a7J σ H s):∀x c,X.env.cells.lookup x=aX c->c≠X.env.locals:=λx c e z=>by obtain⟨v,o,d,hd⟩:=I.cell x c e;obtain⟨m,⟨i,h,g,b,a,_⟩,_⟩:=I.loc;rw[z,b]at d;cases d;rw[a]at hd;cases hd
theorem Inv.funs(I:Inv X a7J σ H s):s.heap.FunFrames X.base X.outer:=by
 have all:∀(l:List a2v),(∀b∈iR l,b∈X.fs)->X.s₀.heap.FunFrames X.base l->s.heap.FunFrames X.base l:=by
  intro l;induction l with
  |nil=>intro _ _;trivial|cons h r p=>intro g j;obtain⟨i,⟨L,o,d,k,m,hd⟩,n⟩:=j;have a:L∈X.fs:=g L (by unfold iR;rw[a2s,d];exact Xf);obtain⟨q,e⟩:=I.base.slot L o m (I.ok.frf L a) a λz=>I.ok.exfs L z a;exact⟨i,⟨L,_,d,k,e,hd⟩,p (λb c=>g b (by unfold iR;rw[a2s,d];exact Xc _ c)) n⟩
 exact all X.outer (λ_ c=>c) I.ok.funs
theorem Inv.stack(I:Inv X a7J σ H s):s.heap.FunFrames X.base X.stack:=by
 rcases I.ok.stk with e|⟨e,a⟩
 ·rw[e];exact I.funs
 ·rw[e];obtain⟨m,b,_⟩:=I.loc;refine .cons (by rw[I.ok.kind];decide) a b ?_ I.funs;exact Heap.get?_none_of_le (Xz I.ok.bsz I.ok.above)
theorem Inv.stkSub(I:Inv X a7J σ H s):∀b∈iR X.stack,b∈X.env.locals::X.fs:=λb a=>by
 rcases I.ok.stk with e|⟨e,c⟩
 ·rw[e]at a;exact Xc _ a
 ·rw[e]at a;unfold iR at a;rw[a2s,c]at a;exact a
theorem Inv.stkFree(I:Inv X a7J σ H s):∀b∈iR X.stack,H b=none:=λb a=>by
 rcases Xr.mp (I.stkSub b a)with e|a
 ·rw[e];exact I.free
 ·obtain⟨_,o,c,_⟩:=I.ok.funs.mem a;exact I.base.free b o c (I.ok.frf b a) λz=>I.ok.exfs b z a
theorem Inv.step{g':Array a6a}{t':Nat}{d':Drawn}{ch:List Addr}(I:Inv X a7J σ H s)
  (h:∀b∈ch,(b∈X.ex\/X.s₀.heap.objs.size<=b)/\b≠X.env.locals/\(∀x c,X.env.cells.lookup x=aX c->c≠b)/\∀p∈X.pn++a7J,p.1≠b)
  (j:∀b o,b≠X.env.locals->b∉X.fs->b∉ch->s.heap.get? b=aX o->H b=aY->h'.get? b=aX o)
  (B:∀b o,b≠X.env.locals->b∈X.fs->b∉ch->s.heap.get? b=aX o->H b=aY->∃Y,h'.get? b=aX {o with slots:=Y})(free:∀b o,b∉ch->s.heap.get? b=aX o->H b=aY->H' b=aY)
  (J:∀b o,b∉ch->s.heap.get? b=aX o->∃O,h'.get? b=aX O)
  (R:∀b E,H b=aX (.tup E)->H' b=aX (.tup E))(M:∀b o u,H b=aX (.frz o u)->H' b=aX (.frz o u))(Q:∀b T,H b=aX (.tbl T)->∃more,H' b=aX (.tbl (T++more)))
  (ns:∀m,s.heap.Ns X.env.locals m->h'.Ns X.env.locals m)(U:HOk X.prog X.w H' h')(hg:a2R g') :
  Inv X a7J σ H' {s with heap:=h',gens:=g',drawn:=d',toks:=t'}:=by
 have N:∀b o,X.s₀.heap.get? b=aX o->b≠X.env.locals:=λb o e=>Xd (Xq (W2 e) I.ok.above);have A:∀b o,X.s₀.heap.get? b=aX o->b∉X.ex->b∉ch:=λb o e a G=>by
  rcases(h b G).1 with z|z
  ·exact a z
  ·exact absurd (Xq (W2 e) z) (Zs _)
 have g:∀x c,X.env.cells.lookup x=aX c->∀v,s.heap.IsCell c v->h'.IsCell c v:=λx c e v ⟨o,K,hd⟩=>by
  have w:c∉ch:=λz=>(h c z).2.2.1 x c e rfl;by_cases hc:c∈X.fs
  ·obtain⟨Y,q⟩:=B c o (I.cne x c e) hc w K (I.freeC x c e);exact⟨_,q,hd⟩
  ·exact⟨o,j c o (I.cne x c e) hc w K (I.freeC x c e),hd⟩
 refine⟨I.ok,I.os,hg,⟨λb o e n G a=>?_,λb o e n G a=>?_,λb o e n a=>?_,λb o e a=>?_,λb E e=>R b E (I.base.tups b E e),λb o E e=>M b o E (I.base.frzs b o E e),λb T e=>?_⟩,?_,λx c e=>?_,?_,λx c e=>?_,λp hp=>?_,U,I.len⟩
 ·exact j b o (N b o e) G (A b o e a) (I.base.keep b o e n G a) (I.base.free b o e n a)
 ·obtain⟨Y,y⟩:=I.base.slot b o e n G a;obtain⟨Z,L⟩:=B b _ (N b o e) G (A b o e a) y (I.base.free b o e n a);exact⟨Z,L⟩
 ·obtain⟨O,y⟩:=I.base.there b o e a;exact free b O (A b o e a) y (I.base.free b o e n a)
 ·obtain⟨O,y⟩:=I.base.there b o e a;exact J b O (A b o e a) y
 ·obtain⟨m1,y⟩:=I.base.tbls b T e;obtain⟨m2,L⟩:=Q b _ y;exact⟨m1++m2,by rw[L,Array.append_assoc]⟩
 ·obtain⟨m,hn,hl⟩:=I.loc;refine⟨m,ns m hn,λi x v y L e3=>?_⟩;obtain⟨u,r,l⟩:=hl i x v y L e3;refine⟨u,r,?_⟩;rcases l with l|⟨k,c,e,z⟩
  ·exact .inl l
  ·exact .inr ⟨k,c,e,g x c e _ z⟩
 ·obtain⟨v,z⟩:=I.cell x c e;exact⟨v,g x c e v z⟩
 ·obtain⟨m,⟨o,_,_,K,_⟩,_⟩:=I.loc;exact free _ o (λz=>(h _ z).2.1 rfl) K I.free
 ·obtain⟨v,o,K,hd⟩:=I.cell x c e;exact free c o (λz=>(h c z).2.2.1 x c e rfl) K (I.freeC x c e)
 ·obtain⟨e,n,ne,nf,d⟩:=I.pin p hp;have w:p.1∉ch:=λz=>(h p.1 z).2.2.2 p hp rfl;exact⟨j p.1 p.2 ne nf w e n,free p.1 p.2 w e n,ne,nf,d⟩
theorem Inv.un{t':Nat}(I:Inv X a7J σ H s)(u:Un X.fs [] H H' s.heap h')(h:HOk X.prog X.w H' h'):Inv X a7J σ H' {s with heap:=h',toks:=t'}:=by
 obtain⟨m,⟨o,q,p,i,r⟩,_⟩:=id I.loc;obtain⟨x,j⟩:=u.any i I.free (by simp);exact I.step (g':=s.gens) (d':=s.drawn) (ch:=[]) (λ_ z=>nomatch z) (λb o _ g _ e n=>u.keep b o e n g (by simp)) (λb o _ g _ e n=>u.slot b o e n g (by simp)) (λb o _ e n=>u.free b o e n (by simp)) (λb o _ e=>u.there b o e (by simp)) u.tups u.frzs u.tbls (λv k=>by
  obtain⟨w,d,c,a,l⟩:=k;rw[i]at a;cases a;exact⟨_,d,c,j,l⟩) h I.bare
theorem Inv.call{g':Array a6a}{t':Nat}{d':Drawn}{ch:List Addr}(I:Inv X a7J σ H s)(u:Un (iR X.stack) ch H H' s.heap h')(j:HOk X.prog X.w H' h')(q:a2R g')
  (a:∀b∈ch,(b∈X.ex\/X.s₀.heap.objs.size<=b)/\b≠X.env.locals/\(∀x c,X.env.cells.lookup x=aX c->c≠b)/\∀p∈X.pn++a7J,p.1≠b) :
  Inv X a7J σ H' {s with heap:=h',gens:=g',drawn:=d',toks:=t'}:=by
 obtain⟨m,⟨o,A,y,k,r⟩,_⟩:=id I.loc;obtain⟨G,i⟩:=u.any k I.free λz=>(a _ z).2.1 rfl;exact I.step (ch:=ch) a (λb o i l hc e n=>u.keep b o e n (λz=>(Xr.mp (I.stkSub b z)).elim i l) hc) (λb o _ _ hc e n=>u.any e n hc) (λb o hc e n=>u.free b o e n hc) (λb o hc e=>u.there b o e hc) u.tups u.frzs u.tbls (λB v=>by
  obtain⟨E,h,g,d,w⟩:=v;rw[k]at d;cases d;exact⟨_,h,g,i,w⟩) j q
theorem Inv.turned{t':Nat}{a:Addr}(I:Inv X a7J σ H s)(k:∀b o,b≠a->s.heap.get? b=aX o->h'.get? b=aX o)(A:H a=aY)(g:a≠X.env.locals)
  (h1:a∈X.ex\/X.s₀.heap.objs.size<=a)(j:∀x c,X.env.cells.lookup x=aX c->c≠a)(l:∀p∈X.pn++a7J,p.1≠a):Inv X a7J σ H {s with heap:=h',toks:=t'}:=by
 have d:∀b u,H b=aX u->b≠a:=λb u e z=>by rw[z,A]at e;cases e
 refine I.step (g':=s.gens) (d':=s.drawn) (ch:=[a]) (λb w=>?_) (λb o _ _ hc e _=>k b o (λz=>hc (by simp[z])) e) (λb o _ _ hc e _=>⟨o.slots,k b o (λz=>hc (by simp[z])) e⟩) (λ_ _ _ _ n=>n)
  (λb o hc e=>⟨o,k b o (λz=>hc (by simp[z])) e⟩) (λ_ _ e=>e) (λ_ _ _ e=>e) (λb E e=>⟨#[],by rw[e];simp⟩) (λm y=>?_) (λb u e=>?_) I.bare
 ·have e:b=a:=by simpa using w
  subst e;exact⟨h1,g,j,l⟩
 ·obtain⟨o,i,h,B,r⟩:=y;exact⟨o,i,h,k _ o (XI g) B,r⟩
 ·refine(I.hok b u e).stay (λc v hc q=>k c v ?_ q) (λ_ q=>q) λ_ _ q=>q;rcases hc with z|z
  ·rw[z];exact d b u e
  ·exact d c _ z
theorem Inv.tok(I:Inv X a7J σ H s)(t:Nat):Inv X a7J σ H {s with toks:=t}:=I.un (h':=s.heap) (t':=t) Un.refl I.hok
theorem Inv.kept{t':Nat}(I:Inv X a7J σ H s)(k:∀b u,s.heap.get? b=aX u->h'.get? b=aX u):Inv X a7J σ H {s with heap:=h',toks:=t'}:=I.un (Un.kept k) (I.hok.kept k)
theorem Inv.laid{a:Addr}{o:HO}{t':Nat}(I:Inv X a7J σ H s)(k:∀b u,s.heap.get? b=aX u->h'.get? b=aX u)(c:s.heap.objs.size<=a)(new:ObjOk X.prog X.w (aM H a o) h' a o) :
  Inv X a7J σ (aM H a o) {s with heap:=h',toks:=t'}:=I.un (Un.laid k c (I.hok.fresh c)) (I.hok.laid k c new)
theorem Inv.write{x e:Addr}{o:HO}{t':Nat}(I:Inv X a7J σ H s)(d:qP (H x))(c:e=x\/H e=aX (.own x))(k:∀b u,b≠e->s.heap.get? b=aX u->h'.get? b=aX u)(a:∃u,h'.get? e=aX u)
  (new:ObjOk X.prog X.w (aM H x o) h' x o):Inv X a7J σ (aM H x o) {s with heap:=h',toks:=t'}:=I.un (Un.write d c k a) (I.hok.write d c k a new)
theorem Inv.pins_of{a:jw}(I:Inv X a7J σ H s)(h:∀p∈a,s.heap.get? p.1=aX p.2/\H p.1=aY/\p.1≠X.env.locals/\p.1∉X.fs/\∀v,p.2.data≠.cell v):Inv X a σ H s:=
 ⟨I.ok,I.os,I.bare,I.base,I.loc,I.cell,I.free,I.freeC,λp b=>(XS.mp b).elim (λz=>I.pin p (Yw _ z)) (h p),I.hok,I.len⟩
theorem BA{N:List Str}(e:N.Nodup){i j:Nat}{x:Str}(a:N[i]?=aX x)(b:N[j]?=aX x):i=j:=by obtain⟨g,c⟩:=WR.mp a;obtain⟨h,d⟩:=WR.mp b;exact(a5F e).mp (c.trans d.symm)
theorem BB{M:Model}{A:XC}{E:Value->WX->Prop}{i:Nat}{x:Str}{v:V}{u:Value}{Q:Unit->WX->Prop}(I:Inv X a7J σ H s)(hN:X.N.Nodup)(hi:X.N[i]?=aX x)(B:Loc X.env.scope x)(r:RelV v u)
  (h:∀s',Inv X a7J (σ.set i (aX v)) H s'->(∃a,YK a s.heap s'.heap/\(a=X.env.locals\/X.env.cells.lookup x=aX a))->Q () s')(hf:X.fn x=b4\/X.env.scope.names.lookup x=aX .local:=by first|exact .inl rfl|exact .inr rfl|assumption):Xk M A (storeName X.env x u) Q E s:=by
 obtain⟨m,hn,hl⟩:=id I.loc;have Y:(X.env.scope.kind==.class||(X.env.scope.kind==.module&&X.env.locals != X.env.globals))=false:=by rw[I.ok.kind];rfl
 have K:i<σ.length:=by rw[I.len];exact(WR.mp hi).1
 have cne:=I.cne;have w:∀{a:Addr}{h':Ye},(∃o,s.heap.get? a=aX o/\H a=aY)->YK a s.heap h'->HOk X.prog X.w H h':=λ{a h'} ha g b ob e=>by
  obtain⟨_,_,G⟩:=ha;refine(I.hok b ob e).stay (λc w' hc q=>(g.2 c ?_).trans q) (λ_ q=>q) λ_ _ q=>q;rintro rfl;rcases hc with rfl|hc
  ·rw[G]at e;cases e
  ·rw[G]at hc;cases hc
 rcases B with L|L
 ·refine wpAny_storeName_local L hn (λh' hn' g=>?_) Y;obtain⟨oL,_,_,hoL,_⟩:=id hn;refine h _ ⟨I.ok,I.os,I.bare,⟨λb o e n N B=>?_,λb o e n N B=>?_,I.base.free,λb o e B=>?_,I.base.tups,I.base.frzs,I.base.tbls⟩,⟨_,hn',λj y v' l J e3=>?_⟩,λy c e=>?_,I.free,I.freeC,λp hp=>?_,w ⟨oL,hoL,I.free⟩ g,by simpa using I.len⟩ ⟨_,g,.inl rfl⟩
  ·exact(g.2 b (Xd (Xq (W2 e) I.ok.above))).trans (I.base.keep b o e n N B)
  ·obtain⟨sl,l⟩:=I.base.slot b o e n N B;exact⟨sl,(g.2 b (Xd (Xq (W2 e) I.ok.above))).trans l⟩
  ·obtain⟨o',l⟩:=I.base.there b o e B;exact⟨o',(g.2 b (Xd (Xq (W2 e) I.ok.above))).trans l⟩
  ·by_cases R:j=i
   ·subst R;rw[hi]at l;cases l;rw[XY K]at J;cases J;exact⟨u,r,.inl ⟨L,by simp⟩⟩
   ·rw[WT (XI R)]at J;obtain⟨u',r',q⟩:=hl j y v' l J e3;refine⟨u',r',?_⟩;rcases q with⟨k,e⟩|⟨k,c,e,z⟩
    ·refine .inl ⟨k,?_⟩;have:y≠x:=λe=>R (BA hN l (e▸hi));simp[this,e]
    ·exact .inr ⟨k,c,e,z.sameBut g (cne y c e)⟩
  ·obtain⟨w',z⟩:=I.cell y c e;exact⟨w',z.sameBut g (cne y c e)⟩
  ·obtain⟨e,n,ne,nf,d⟩:=I.pin p hp;exact⟨(g.2 p.1 ne).trans e,n,ne,nf,d⟩
 ·have O:X.fn x=true:=by
   rcases hf with z|z
   ·exact z
   ·rw[z]at L;cases L
  obtain⟨c,hc⟩:=I.ok.has x (.inl L);obtain⟨w',z⟩:=I.cell x c hc;refine wpAny_storeName_cell I.ok.kind L hc z (λh' T g=>?_);obtain⟨oc,Z,hocd⟩:=id z;refine h {s with heap:=h'} ⟨I.ok,I.os,I.bare,⟨λb o e n N B=>?_,λb o e n N B=>?_,I.base.free,λb o e B=>?_,I.base.tups,I.base.frzs,I.base.tbls⟩,⟨m,hn.sameBut g (XI (cne x c hc)),λj y v' l J e3=>?_⟩,λy c' e=>?_,I.free,I.freeC,λp hp=>?_,w ⟨oc,Z,I.freeC x c hc⟩ g,by simpa using I.len⟩ ⟨c,g,.inr hc⟩
  ·exact(g.2 b (Xd (Xq (W2 e) (I.ok.cab x c O hc)))).trans (I.base.keep b o e n N B)
  ·obtain⟨sl,l⟩:=I.base.slot b o e n N B;exact⟨sl,(g.2 b (Xd (Xq (W2 e) (I.ok.cab x c O hc)))).trans l⟩
  ·obtain⟨o',l⟩:=I.base.there b o e B;exact⟨o',(g.2 b (Xd (Xq (W2 e) (I.ok.cab x c O hc)))).trans l⟩
  ·by_cases R:j=i
   ·subst R;rw[hi]at l;cases l;rw[XY K]at J;cases J;exact⟨u,r,.inr ⟨.inl L,c,hc,T⟩⟩
   ·rw[WT (XI R)]at J;obtain⟨u',r',q⟩:=hl j y v' l J e3;refine⟨u',r',?_⟩;rcases q with q|⟨k,c',e,z'⟩
    ·exact .inl q
    ·refine .inr ⟨k,c',e,z'.sameBut g ?_⟩;rintro rfl;exact R (BA hN l (I.ok.inj _ _ _ e hc▸hi))
  ·by_cases U:c'=c
   ·subst U;exact⟨_,T⟩
   ·obtain⟨w2,z2⟩:=I.cell y c' e;exact⟨w2,z2.sameBut g U⟩
  ·obtain⟨e,n,ne,nf,d⟩:=I.pin p hp;refine⟨(g.2 p.1 ?_).trans e,n,ne,nf,d⟩;intro q;rw[q,Z]at e;have q':oc=p.2:=Xg e;exact d w' (by rw[<- q'];exact hocd)
theorem sZ{M:Model}{A:XC}{E:Value->WX->Prop}{i:Nat}{x:Str}{v:V}{u:Value}{Q:Unit->WX->Prop}(I:Inv X a7J σ H s)(c:X.N.Nodup)(hi:X.N[i]?=aX x)(e:Loc X.env.scope x)(r:RelV v u)
  (h:∀a,Inv X a7J (σ.set i (aX v)) H a->Q () a)(d:X.fn x=b4\/X.env.scope.names.lookup x=aX .local:=by first|exact .inl rfl|exact .inr rfl|assumption):Xk M A (storeName X.env x u) Q E s:=
 BB I c hi e r (λa b _=>h a b) d
end
noncomputable abbrev XK:=Value->Option Addr->Hp->Prop
noncomputable abbrev St:=List (Option V)
noncomputable abbrev VK:=V->Hp->Prop
noncomputable abbrev TE:=St->Hp->VK->Prop
noncomputable abbrev TT:=St->Hp->(Bool->Hp->Prop)->Prop
noncomputable abbrev TA:=St->Hp->(List V->Hp->Prop)->Prop
structure Ends where
 nx:St->Hp->Prop
 rt:VK
 bk:St->Hp->Prop:=λ_ _=>False
 ct:St->Hp->Prop:=λ_ _=>False
noncomputable abbrev TS:=Ends->St->Hp->Prop
inductive EP (X:Cx)(a7J:jw)(σ:St)(Q:VK)(u:Value)(s':WX):Prop
 |mk (v:V)(H':Hp)(I:Inv X a7J σ H' s')(r:RelV v u)(q:Q v H'):EP X a7J σ Q u s'
inductive TP (X:Cx)(a7J:jw)(σ:St)(Q:Bool->Hp->Prop)(b:Bool)(s':WX):Prop
 |mk (H':Hp)(I:Inv X a7J σ H' s')(q:Q b H'):TP X a7J σ Q b s'
inductive AP (X:Cx)(a7J:jw)(σ:St)(Q:gw->Hp->Prop)(us:gq)(s':WX):Prop
 |mk (vs:gw)(H':Hp)(I:Inv X a7J σ H' s')(r:Vals vs us)(q:Q vs H'):AP X a7J σ Q us s'
inductive SPn (X:Cx)(a7J:jw)(Q:St->Hp->Prop)(s':WX):Prop
 |mk (σ':St)(H':Hp)(I:Inv X a7J σ' H' s')(q:Q σ' H'):SPn X a7J Q s'
inductive SPr (X:Cx)(a7J:jw)(Q:VK)(u:Value)(s':WX):Prop
 |mk (v:V)(σ':St)(H':Hp)(I:Inv X a7J σ' H' s')(r:RelV v u)(q:Q v H'):SPr X a7J Q u s'
noncomputable def SP(X:Cx)(a7J:jw)(D:Ends)(f:Flow)(a:WX):Prop:=
 match f with
 |.next=>SPn X a7J D.nx a|.brk=>SPn X a7J D.bk a|.cont=>SPn X a7J D.ct a|.ret u=>SPr X a7J D.rt u a
noncomputable def PE(X:Cx)(e:Expr)(t:TE):Prop:=
 ∀(a7J:jw)(s:WX)(σ:St)(H:Hp)(Q:VK),Inv X a7J σ H s->t σ H Q->Xk (Xv X.prog X.w) X.A (eval e X.env) (EP X a7J σ Q) X.xe s
noncomputable def PT(X:Cx)(e:Expr)(t:TT):Prop:=
 ∀(a7J:jw)(s:WX)(σ:St)(H:Hp)(Q:Bool->Hp->Prop),Inv X a7J σ H s->t σ H Q->Xk (Xv X.prog X.w) X.A (a5c e X.env (eval e X.env)) (TP X a7J σ Q) X.xe s
noncomputable def PW(X:Cx)(e:Expr)(t:TT):Prop:=
 ∀(a:a7b Value)(a7J:jw)(s:WX)(σ:St)(H:Hp)(Q:Bool->Hp->Prop),Inv X a7J σ H s->t σ H Q->Xk (Xv X.prog X.w) X.A (a5c e X.env a) (TP X a7J σ Q) X.xe s
theorem PW.pt{X:Cx}{e:Expr}{t:TT}(h:PW X e t):PT X e t:=h _
noncomputable def PA(X:Cx)(es:List Expr)(t:TA):Prop:=
 ∀(pos:YE)(a7J:jw)(s:WX)(σ:St)(H:Hp)(Q:gw->Hp->Prop),Inv X a7J σ H s->t σ H Q->Xk (Xv X.prog X.w) X.A (spliced (ZI pos (XB es X.env))) (AP X a7J σ Q) X.xe s
noncomputable def PS(X:Cx)(st:Stmt)(t:TS):Prop:=
 ∀(a7J:jw)(s:WX)(σ:St)(H:Hp)(D:Ends),Inv X a7J σ H s->t D σ H->Xk (Xv X.prog X.w) X.A (exec st X.env) (SP X a7J D) X.xe s
noncomputable def PSs(X:Cx)(st:List Stmt)(t:TS):Prop:=
 ∀(a7J:jw)(s:WX)(σ:St)(H:Hp)(D:Ends),Inv X a7J σ H s->t D σ H->Xk (Xv X.prog X.w) X.A (execs st X.env) (SP X a7J D) X.xe s
theorem aV{c:Type}{t:a7b c}{Q b:c->WX->Prop}{M:Model}{A:XC}{E:Value->WX->Prop}{s:WX}(h:Xk M A t Q E s)(d:∀a s,Q a s->b a s):Xk M A t b E s:=Ym h d λ_ _ x=>x
section
variable{X:Cx}
noncomputable def wZ(i:Nat):TE:=λσ H Q=>∃v,σ[i]?=aX (aX v)/\Q v H
noncomputable def tC(v:V):TE:=λ_ H Q=>Q v H
theorem BC{i:Nat}{x:Str}{pos:YE}(j:X.N[i]?=aX x)(p:nI X.env.scope x)(hd:(x==("__debug__":Str))=false:=by decide) (g:(x==("__classdict__":Str))=false:=by decide):PE X (.Name x pos) (wZ i):=by
 intro d s q H Q I h;obtain⟨v,e,h⟩:=h;obtain⟨m,o,k⟩:=I.loc;obtain⟨u,r,l⟩:=k i x v j e p;have fin:EP X d q Q u s:=⟨v,H,I,r,h⟩;rcases l with⟨b,n⟩|⟨b,c,hc,a⟩
 ·exact a6l (wpAny_loadName_local I.ok.kind b o n fin) hd
 ·rcases b with b|b
  ·exact a6l (wpAny_loadName_cell I.ok.kind b hc a fin) hd
  ·exact a6l (wpAny_loadName_free I.ok.kind b hc a fin g) hd
theorem IY{i j pos}:PE X (.Constant (.int i) j pos) (tC (.int i)):=λ_ _ _ H _ I h=>wpAny_Constant_int ⟨.int i,H,I.tok _,⟨_,rfl⟩,h⟩
theorem IZ{b j pos}:PE X (.Constant (.bool b) j pos) (tC (.bl b)):=λ_ _ _ H _ I h=>Constant_bool ⟨.bl b,H,I,rfl,h⟩
theorem Ja{j pos}:PE X (.Constant .none j pos) (tC .non):=λ_ _ _ H _ I h=>Constant_none ⟨.non,H,I,rfl,h⟩
theorem Jb{x j pos}:PE X (.Constant (.str x) j pos) (tC (.str x)):=λ_ _ _ H _ I h=>Calls.Constant_str ⟨.str x,H,I.tok _,⟨_,rfl⟩,h⟩
noncomputable def Gl(X:Cx)(x:Str):Prop:=X.env.kindOf x=aX .globalImplicit
theorem w4{E:Value->WX->Prop}{a7J:jw}{s:WX}{σ:St}{H:Hp}{x:Str}{u:Value}{pos:YE}{Q:Value->WX->Prop}(I:Inv X a7J σ H s)(a:Gl X x)(b:X.mg x=aX u)(h:Q u s)
  (hd:(x==("__debug__":Str))=false:=by decide):Xk (Xv X.prog X.w) X.A (eval (.Name x pos) X.env) Q E s:=
 a3C I.ok.kind a (Calls.loadGlobal_global (by rw[I.ok.glob];exact I.mod.glob.keeps I.bk) b h) hd
theorem iS{E:Value->WX->Prop}{a7J:jw}{s:WX}{σ:St}{H:Hp}{x:Str}{u:Value}{pos:YE}{Q:Value->WX->Prop}(I:Inv X a7J σ H s)(c:Gl X x)(d:X.mg x=aY)(g:YN x=aX u)(h:Q u s)
  (e:x ≠ "__name__":=by decide) (hd:(x==("__debug__":Str))=false:=by decide):Xk (Xv X.prog X.w) X.A (eval (.Name x pos) X.env) Q E s:=by
 obtain⟨i,a,b⟩:=I.mod.blt;exact a3C I.ok.kind c (Calls.loadGlobal_builtin (by rw[I.ok.glob];exact I.mod.glob.keeps I.bk) d (by rw[I.ok.blt];exact a.keeps I.bk) ((b x e).trans g) h) hd
theorem Jc{x:Str}{v:V}{u:Value}{pos:YE}(a:Gl X x)(b:X.mg x=aX u)(r:RelV v u)(hd:(x==("__debug__":Str))=false:=by decide):PE X (.Name x pos) (tC v):=
 λ_ _ _ H _ I h=>w4 I a b ⟨v,H,I,r,h⟩ hd
theorem Jd{x:Str}{v:V}{u:Value}{pos:YE}(a:Gl X x)(b:X.mg x=aY)(d:YN x=aX u)(r:RelV v u)(c:x ≠ "__name__":=by decide) (hd:(x==("__debug__":Str))=false:=by decide):PE X (.Name x pos) (tC v):=
 λ_ _ _ H _ I h=>iS I a b d ⟨v,H,I,r,h⟩ c hd
variable{a b:Expr}{ta tb:TE}{pos:YE}
variable{tA tB':TT}{b6:List Expr}
noncomputable def Je(t u:TT):TT:=λσ H Q=>t σ H λc d=>if c=b4 then u σ d Q else Q b3 d
noncomputable def Jf(t u:TT):TT:=λσ H Q=>t σ H λc d=>if c=b4 then Q b4 d else u σ d Q
noncomputable def Jg(t:TT):TT:=λσ H Q=>t σ H λc d=>Q (!c) d
theorem Jh(g:PT X a tA):PW X (.BoolOp .And [a] pos) tA:=by
 intro k d s i H Q I h;refine isTrue_and (aV (g d s i H Q I h) λc j e=>?_);cases c with
 |true=>exact isTrue_and_nil e|false=>exact e
theorem Ji(g:PT X a tA):PW X (.BoolOp .Or [a] pos) tA:=by
 intro k d s i H Q I h;refine isTrue_or (aV (g d s i H Q I h) λc j e=>?_);cases c with
 |false=>exact isTrue_or_nil e|true=>exact e
theorem Jj(k:PT X a tA)(l:PW X (.BoolOp .And (b::b6) pos) tB'):PW X (.BoolOp .And (a::b::b6) pos) (Je tA tB'):=by
 intro n d s j H Q I h;refine isTrue_and (aV (k d s j H _ I h) λc m ⟨e,g,i⟩=>?_);cases c with
 |true=>exact l n d m j e Q g i|false=>exact⟨e,g,i⟩
theorem Jk(k:PT X a tA)(l:PW X (.BoolOp .Or (b::b6) pos) tB'):PW X (.BoolOp .Or (a::b::b6) pos) (Jf tA tB'):=by
 intro n d s j H Q I h;refine isTrue_or (aV (k d s j H _ I h) λc m ⟨e,g,i⟩=>?_);cases c with
 |true=>exact⟨e,g,i⟩|false=>exact l n d m j e Q g i
theorem Jl(i:PT X a tA):PT X (.UnaryOp .Not a pos) (Jg tA):=by intro d s j H Q I h;exact isTrue_not (aV (i d s j H (λc g=>Q (!c) g) I h) λ_ _ ⟨e,J,q⟩=>⟨e,J,q⟩)
noncomputable def Jm(ta tb:TE):TE:=λσ H Q=>ta σ H λx d=>∃c,x=.bl c/\if c=b4 then tb σ d Q else Q (.bl b3) d
noncomputable def Jn(ta tb:TE):TE:=λσ H Q=>ta σ H λx d=>∃c,x=.bl c/\if c=b4 then Q (.bl b4) d else tb σ d Q
noncomputable def Jo(ta:TE):TE:=λσ H Q=>ta σ H λx d=>∃c,x=.bl c/\Q (.bl (!c)) d
theorem Jp{op} {t:TE}(h:PE X a t):PE X (.BoolOp op [a] pos) t:=λa7J s σ H Q I hw=>BoolOp_one (h a7J s σ H Q I hw)
theorem Jq(k:PE X a ta)(l:PE X (.BoolOp .And (b::b6) pos) tb):PE X (.BoolOp .And (a::b::b6) pos) (Jm ta tb):=by
 intro d s j H Q I h;refine BoolOp_and (aV (k d s j H _ I h) λv n ⟨x,g,i,m,e⟩=>?_);obtain⟨c,rfl,e⟩:=e;cases m;refine YT ?_;cases c with
 |true=>exact l d n j g Q i e|false=>exact⟨.bl b3,g,i,rfl,e⟩
theorem Jr(k:PE X a ta)(l:PE X (.BoolOp .Or (b::b6) pos) tb):PE X (.BoolOp .Or (a::b::b6) pos) (Jn ta tb):=by
 intro d s j H Q I h;refine BoolOp_or (aV (k d s j H _ I h) λv n ⟨x,g,i,m,e⟩=>?_);obtain⟨c,rfl,e⟩:=e;cases m;refine YT ?_;cases c with
 |false=>exact l d n j g Q i e|true=>exact⟨.bl b4,g,i,rfl,e⟩
theorem Js(j:PE X a ta):PE X (.UnaryOp .Not a pos) (Jo ta):=by intro d s l H Q I h;refine UnaryOp_ (aV (j d s l H _ I h) λv m ⟨x,g,i,k,e⟩=>?_);obtain⟨c,rfl,e⟩:=e;cases k;exact not_of (YT ⟨.bl (!c),g,i,rfl,e⟩)
noncomputable def Jt(t:TT)(ta tb:TE):TE:=λσ H Q=>t σ H λc d=>if c=b4 then ta σ d Q else tb σ d Q
theorem Ju{c:Expr}(hc:PT X c tA)(m:PE X a ta)(n:PE X b tb):PE X (.IfExp c a b pos) (Jt tA ta tb):=by
 intro e s g H Q I h;refine wpAny_IfExp (aV (hc e s g H _ I h) λd l ⟨i,j,k⟩=>?_);cases d with
 |true=>exact m e l g i Q j k|false=>exact n e l g i Q j k
end
noncomputable def SqL(K:WQ)(H:Hp)(a:Addr)(xs:gw):Prop:=
 Rd H a (.lst xs) \/
  ∃(o:Obj)(its:Array Value)(n:Nat),K.lookup a=aX o/\o.cls=.type "list"/\o.dict=aY/\o.data=.seq its n/\its.size<=W8/\Vals xs its.toList
noncomputable def SqT(K:WQ)(H:Hp)(a:Addr)(xs:gw):Prop:=
 Rd H a (.tup xs) \/
  ∃(o:Obj)(its:Array Value)(n:Nat),K.lookup a=aX o/\o.cls=.type "tuple"/\o.dict=aY/\o.data=.seq its n/\its.size<=W8/\Vals xs its.toList
noncomputable def Jv:Value->Option V
 |.none=>aX .non|.bool b=>aX (.bl b)|.int i _=>aX (.int i)|.str x _=>aX (.str x)|.bytes b _=>aX (.byt b)|.float b _=>aX (.flt b)|.ref a=>aX (.ref a)|.type n=>aX (.ty n)|_=>aY
theorem RelV.abs{x:V}{u:Value}(r:RelV x u):Jv u=aX x:=by
 cases x with
 |non=>cases r;rfl|bl _=>cases r;rfl|int _=>obtain⟨t,rfl⟩:=r;rfl|str _=>obtain⟨t,rfl⟩:=r;rfl|byt _=>obtain⟨t,rfl⟩:=r;rfl|flt _=>obtain⟨t,rfl⟩:=r;rfl|ref _=>cases r;rfl|ty _=>cases r;rfl
theorem RelV.inj{x y:V}{u:Value}(r:RelV x u)(q:RelV y u):x=y:=Xg (r.abs.symm.trans q.abs)
theorem Vals.inj:∀{xs a:gw}{us:gq},Vals xs us->Vals a us->xs=a
 |_,_,_,.nil,.nil=>rfl|_,_,_,.cons r t,.cons r' t'=>by rw[r.inj r',Vals.inj t t']
section
variable{X:Cx}{a7J:jw}{σ:St}{H:Hp}{s:WX}{a:Addr}{xs ys:gw}
theorem SqL.of{K:WQ}(h:H a=aX (.lst xs)):SqL K H a xs:=.inl (.inl h)
theorem SqT.of{K:WQ}(h:H a=aX (.tup xs)):SqT K H a xs:=.inl (.inl h)
theorem Inv.list(I:Inv X a7J σ H s)(h:SqL X.K H a xs):∃its:gq,Vals xs its/\PlainL s.heap a its.toArray/\xs.length<=W8:=by
 rcases h with h|⟨o,its,n,b,hc,hd,c,d,r⟩
 ·obtain⟨z,its,n,r,e⟩:=h.ok I.hok;exact⟨its,r,⟨_,n,e,rfl,rfl,rfl⟩,z⟩
 ·refine⟨its.toList,r,⟨o,n,I.kIn a o b,hc,hd,by simpa using c⟩,?_⟩;have e:=r.length;simp only[Zk]at e;omega
theorem Inv.tuple(I:Inv X a7J σ H s)(h:SqT X.K H a xs):∃its:gq,Vals xs its/\a3B s.heap a its.toArray/\xs.length<=W8:=by
 rcases h with h|⟨o,its,n,b,hc,hd,c,d,r⟩
 ·obtain⟨z,its,r,p⟩:=h.ok I.hok;exact⟨its,r,p.tup,z⟩
 ·refine⟨its.toList,r,⟨o,I.kIn a o b,hc,n,by simpa using c⟩,?_⟩;have e:=r.length;simp only[Zk]at e;omega
theorem Inv.list_inj(I:Inv X a7J σ H s)(h:SqL X.K H a xs)(h':SqL X.K H a ys):xs=ys:=by
 obtain⟨c,r,⟨o,n,e,_,_,d⟩,_⟩:=I.list h;obtain⟨b,j,⟨l,k,i,_,_,g⟩,_⟩:=I.list h';rw[e]at i;cases i;rw[d]at g;injection g with d1 _;have:c=b:=by simpa using congrArg a6u d1
 subst this;exact r.inj j
theorem Inv.tuple_inj(I:Inv X a7J σ H s)(h:SqT X.K H a xs)(h':SqT X.K H a ys):xs=ys:=by
 obtain⟨c,r,⟨o,e,_,n,d⟩,_⟩:=I.tuple h;obtain⟨b,j,⟨l,i,_,k,g⟩,_⟩:=I.tuple h';rw[e]at i;cases i;rw[d]at g;injection g with d1 _;have:c=b:=by simpa using congrArg a6u d1
 subst this;exact r.inj j
end
noncomputable abbrev Cx.wish(X:Cx)(E:Value->WX->Prop):Cx:={X with xe:=E}
noncomputable abbrev Cx.nox(X:Cx):Cx:=X.wish λ_ _=>False
theorem Cx.Ok.wish{X:Cx}(ok:X.Ok)(E:Value->WX->Prop):(X.wish E).Ok:=
 ⟨ok.mod,ok.kind,ok.glob,ok.blt,ok.above,ok.inj,ok.has,ok.cab,ok.hd,ok.frames,ok.stk,ok.exf,ok.bs,ok.bsz,ok.noex,ok.exfs,ok.funs,ok.frf⟩
theorem Cx.Ok.unwish{X:Cx}{E:Value->WX->Prop}(ok:(X.wish E).Ok):X.Ok:=
 ⟨ok.mod,ok.kind,ok.glob,ok.blt,ok.above,ok.inj,ok.has,ok.cab,ok.hd,ok.frames,ok.stk,ok.exf,ok.bs,ok.bsz,ok.noex,ok.exfs,ok.funs,ok.frf⟩
section
variable{X:Cx}{a7J:jw}{σ:St}{H:Hp}{s:WX}{E:Value->WX->Prop}
theorem Inv.wish(I:Inv X a7J σ H s)(E:Value->WX->Prop):Inv (X.wish E) a7J σ H s:=⟨I.ok.wish E,I.os,I.bare,I.base,I.loc,I.cell,I.free,I.freeC,I.pin,I.hok,I.len⟩
theorem Inv.unwish(I:Inv (X.wish E) a7J σ H s):Inv X a7J σ H s:=⟨I.ok.unwish,I.os,I.bare,I.base,I.loc,I.cell,I.free,I.freeC,I.pin,I.hok,I.len⟩
theorem SP.unwish{D:Ends}{f:Flow}{c:WX}(h:SP (X.wish E) a7J D f c):SP X a7J D f c:=by
 cases f with
 |next=>obtain⟨a,b,I,q⟩:=h;exact⟨a,b,I.unwish,q⟩|brk=>obtain⟨a,b,I,q⟩:=h;exact⟨a,b,I.unwish,q⟩|cont=>obtain⟨a,b,I,q⟩:=h;exact⟨a,b,I.unwish,q⟩|ret u=>obtain⟨v,a,b,I,r,q⟩:=h;exact⟨v,a,b,I.unwish,r,q⟩
theorem PSs.nox{st:List Stmt}{t:TS}(h:PSs X.nox st t):PSs X st t:=λa7J s σ H D I hw=>Ym (h a7J s σ H D (I.wish _) hw) (λ_ _ q=>q.unwish) λ_ _ z=>Zf z
end
section
variable{X:Cx}{st:Stmt}{b6:List Stmt}{t u:TS}{e:Expr}{te:TE}{pos:YE}
noncomputable def BE:TS:=λD σ H=>D.nx σ H
noncomputable def Jw(t u:TS):TS:=λD σ H=>t {D with nx:=u D} σ H
theorem Jx:PSs X [] BE:=λ_ _ σ H _ I h=>a2q ⟨σ,H,I,h⟩
theorem Jy(h1:PS X st t)(g:PSs X b6 u):PSs X (st::b6) (Jw t u):=by
 intro a s j H D I h;refine a6F (aV (h1 a s j H {D with nx:=u D} I h) λf i q=>?_);cases f with
 |next=>obtain⟨b,c,d,q⟩:=q;exact g a i b c D d q|ret v=>exact q|brk=>exact q|cont=>exact q
theorem Jz(h1:PS X st t):PSs X [st] t:=by
 intro a s b H D I h;refine a6F (aV (h1 a s b H D I h) λf c q=>?_);cases f with
 |next=>exact a2q q|ret v=>exact q|brk=>exact q|cont=>exact q
theorem JA:PS X (.Pass pos) BE:=λ_ _ σ H _ I h=>wpAny_Pass ⟨σ,H,I,h⟩
theorem Inv.quiet{a7J:jw}{σ:St}{H:Hp}{s:WX}(I:Inv X a7J σ H s):interactive X.env=false:=by simp[interactive,I.ok.kind]
noncomputable def JB(te:TE):TS:=λD σ H=>te σ H λ_ a=>D.nx σ a
theorem JD(g:PE X e te)(i:a1c e aY pos.line X.env=pure false:=by rfl):PS X (.Expr e pos) (JB te):=by intro a s b H D I h;exact wpAny_Expr_any (aV (g a s b H _ I h) λv l ⟨x,c,d,k,j⟩=>⟨b,c,d,j⟩) I.quiet i
noncomputable def JG(te:TE):TS:=λD σ H=>te σ H D.rt
theorem JH(g:PE X e te):PS X (.Return (aX e) pos) (JG te):=by intro a s b H D I h;exact wpAny_Return_some (aV (g a s b H _ I h) λv k ⟨x,c,d,j,i⟩=>⟨x,b,c,d,j,i⟩)
noncomputable def JI:TS:=λD _ H=>D.rt .non H
theorem JJ:PS X (.Return aY pos) JI:=λ_ _ σ H _ I h=>wpAny_Return_none ⟨.non,σ,H,I,rfl,h⟩
noncomputable def JK(c:TT)(t u:TS):TS:=λD σ H=>c σ H λb a=>if b=b4 then t D σ a else u D σ a
theorem JM{c:Expr}{a b:List Stmt}{n:TT}(hc:PT X c n)(o:PSs X a t)(p:PSs X b u):PS X (.If c a b pos) (JK n t u):=by
 intro g s i H D I h;refine wpAny_If (aV (hc g s i H _ I h) λd m ⟨j,k,l⟩=>?_);cases d with
 |true=>exact o g m i j D k l|false=>exact p g m i j D k l
end
noncomputable abbrev TG:=V->St->Hp->(St->Hp->Prop)->Prop
noncomputable abbrev oS:=List V->St->Hp->(St->Hp->Prop)->Prop
noncomputable def PG(X:Cx)(a:Expr)(t:TG):Prop:=
 ∀(a7J:jw)(s:WX)(σ:St)(H:Hp)(v:V)(u:Value)(Q:St->Hp->Prop),Inv X a7J σ H s->RelV v u->t v σ H Q->
  Xk (Xv X.prog X.w) X.A (a3i a X.env u) (λ_ b=>SPn X a7J Q b) X.xe s
noncomputable def qQ(X:Cx)(b:List Expr)(t:oS):Prop:=
 ∀(a7J:jw)(s:WX)(σ:St)(H:Hp)(vs:gw)(us:gq)(Q:St->Hp->Prop),Inv X a7J σ H s->Vals vs us->t vs σ H Q->
  Xk (Xv X.prog X.w) X.A (a3c ((Zp b X.env).map (·.2)) us) (λ_ a=>SPn X a7J Q a) X.xe s
noncomputable abbrev BF:=V->V->V->Hp->(Hp->Prop)->Prop
noncomputable def JN(X:Cx)(t:BF):Prop:=
 ∀(a7J:jw)(s:WX)(σ:St)(H:Hp)(o i v:V)(c b u:Value)(Q:Hp->Prop),Inv X a7J σ H s->RelV o c->RelV i b->RelV v u->t o i v H Q->
  Xk (Xv X.prog X.w) X.A (setItem c b u) (λ_ d=>∃a,Inv X a7J σ a d/\Q a) X.xe s
section
variable{X:Cx}{pos:YE}
noncomputable def w5(i:Nat):TG:=λv σ H Q=>Q (σ.set i (aX v)) H
theorem BG{i:Nat}{x:Str}(c:X.N.Nodup)(hi:X.N[i]?=aX x)(e:Loc X.env.scope x)(d:X.fn x=b4\/X.env.scope.names.lookup x=aX .local:=by first|exact .inl rfl|exact .inr rfl|assumption):PG X (.Name x pos) (w5 i):=by intro b s j H v u Q I r h;exact a6w (sZ I c hi e r (λg a=>⟨_,H,a,h⟩) d)
noncomputable def BH:oS:=λvs σ H Q=>vs=[]/\Q σ H
noncomputable def BI(t:TG)(u:oS):oS:=λvs σ H Q=>∃v r,vs=v::r/\t v σ H λa b=>u r a b Q
theorem JO:qQ X [] BH:=by intro a s b H d c Q I r h;obtain⟨e,h⟩:=h;subst e;cases r;exact a6z ⟨b,H,I,h⟩
theorem JP{e:Expr}{es:List Expr}{t:TG}{u:oS}(h1:PG X e t)(i:qQ X es u)
  (j:(Zp (e::es) X.env).map (·.2)=a3i e X.env::(Zp es X.env).map (·.2):=by rfl):qQ X (e::es) (BI t u):=by
 intro a s n H q o Q I r h;obtain⟨v,p,g,h⟩:=h;subst g;cases r with
 |cons r l=>rw[j];refine a3h (aV (h1 a s n H _ _ _ I r h) λ_ m ⟨b,c,d,k⟩=>?_);exact i a m b c _ _ Q d l k
noncomputable def BJ(b:TE)(g:TG):TS:=λD σ H=>b σ H λx a=>g x σ a D.nx
theorem JQ{tg e:Expr}{b:TE}{g:TG}(j:PE X e b)(k:PG X tg g)(l:a3a [tg] e pos.line X.env=pure false:=by rfl)(hw:a0a [tg] e X.env=pure none:=by rfl)
  (h1:(Zp [tg] X.env).map (·.2)=[a3i tg X.env]:=by rfl):PS X (.Assign [tg] e pos) (BJ b g):=by
 intro a s c H D I h;refine wpAny_Assign_stores (aV (j a s c H _ I h) λv o ⟨x,d,i,n,m⟩=>?_) l hw;rw[h1];exact aV (k a o c d x v _ i n m) λ_ p q=>q
theorem JR{i:Nat}{x:Str}{e:Expr}{c:TE}{a:YE}(k:X.N.Nodup)(hi:X.N[i]?=aX x)(o:Loc X.env.scope x)(l:PE X e c)(n:a1c e (aX (.Name x a)) pos.line X.env=pure false:=by rfl)(m:X.fn x=b4\/X.env.scope.names.lookup x=aX .local:=by first|exact .inl rfl|exact .inr rfl|assumption) :
  PS X (.Assign [.Name x a] e pos) (BJ c (w5 i)):=by
 intro b s r H D I h;refine wpAny_Assign_Name (aV (l b s r H _ I h) λv u ⟨y,d,g,q,p⟩=>?_) n;exact sZ g k hi o q (λw j=>⟨_,d,j,p⟩) m
noncomputable def JS(i j:Nat)(b:TA):TS:=λD σ H=>b σ H λvs a=>∃v w,vs=[v,w]/\D.nx ((σ.set i (aX v)).set j (aX w)) a
theorem JT{i j:Nat}{x y:Str}{a b:Expr}{K:TA}{r py pt:YE} {kt k2 pt2} (hc:X.calm=b4)(E:X.N.Nodup)(hi:X.N[i]?=aX x)(Y:X.N[j]?=aX y)(m:i≠j)
  (G:X.env.scope.names.lookup x=aX .local)(J:X.env.scope.names.lookup y=aX .local)(U:PA X [a,b] K)
  (hw:a0a [.Tuple [.Name x r,.Name y py] kt pt] (.Tuple [a,b] k2 pt2) X.env=pure (aX [x,y]))
  (Z:a3a [.Tuple [.Name x r,.Name y py] kt pt] (.Tuple [a,b] k2 pt2) pos.line X.env=pure false:=by rfl) :
  PS X (.Assign [.Tuple [.Name x r,.Name y py] kt pt] (.Tuple [a,b] k2 pt2) pos) (JS i j K):=by
 intro l s L H D I h;rw[exec_Assign_arm];refine WN (a1X ?_);rw[Z];refine WN (WV ?_);rw[if_neg (by decide)];refine WN (Tuple_ (aV (U _ l s L H _ I h) λus d ⟨vs,A,M,r1,u⟩=>?_));obtain⟨v,w,R,u⟩:=u;subst R;obtain⟨g,k,rfl,rv,z⟩:∃g k,us=[g,k]/\RelV v g/\RelV w k:=by
  cases r1 with
  |cons p q=>
   cases q with
   |cons p' q'=>cases q';exact⟨_,_,rfl,p,p'⟩
 refine XZ ?_ (by show 2<=W8;decide);have N:Inv X l L A {d with heap:=d.heap.push {cls:=.type "tuple",data:=.seq [g,k].toArray}}:=M.kept (t':=d.toks) λb o e=>WW _ e;rw[hw];refine WN (WV ?_);show Xk (Xv X.prog X.w) X.A (do rule "assign.swapped-stores";let c <- a5L (.ref d.heap.objs.size) 2 aY;a3c [λv=>a5S X.env y v,λv=>a5S X.env x v] c.reverse;pure a5I) _ _ _;refine WN (a1b (WN (unpackItems_tuple (items:=#[g,k]) (I.ok.hd hc) (IsTup.new d.heap _) λT n=>?_)));have O:=N.kept (h':=T) (t':=d.toks) λb o e=>n b o (Xd (W2 e)) e;show Xk _ _ (a3c [λv=>a5S X.env y v,λv=>a5S X.env x v] [k,g] >>= λ_=>pure a5I) _ _ _;refine WN (a3h (a7C (sZ O E Y (.inl J) z (λs2 Q=>?_) (.inr J))));refine a3h (a7C (sZ Q E hi (.inl G) rv (λs3 B=>a6z (WV ?_)) (.inr G)));rw[List.set_comm _ _ (XI m)]at B;exact⟨_,A,B,u⟩
end
section
variable{X:Cx}{pos:YE}
noncomputable def JU(c:TT)(h:TS):TS:=λD σ H=>∃W:Nat->St->Hp->Prop,(∃m,W m σ H)/\∀m σ H,W m σ H->
 c σ H λb e=>if b=b4 then ∃N:St->Hp->Prop,(∀a d,N a d->∃g,g<m/\W g a d)/\h {D with nx:=N,ct:=N,bk:=D.nx} σ e else D.nx σ e
theorem JV{c:Expr}{body:List Stmt}{B:TT}{A:TS}(z:a3U (Xv X.prog X.w) X.A X.env X.xe)(hc:PT X c B)(G:PSs X body A):PS X (.While c body [] pos) (JU B A):=by
 intro e s R H D I h;obtain⟨W,⟨J,O⟩,turn⟩:=h;refine wpAny_While (codeAny_whileLoop (λn K=>∃i r,Inv X e i r K/\W n i r) ?_ J ⟨R,H,I,O⟩);rintro n L ⟨d,u,E,Q⟩;refine Z7 z (aV (hc e L d u _ E (turn n d u Q)) λb M ⟨w,x,j⟩=>?_);cases b with
 |true=>
  obtain⟨N,y,j⟩:=j;rw[if_pos rfl];refine Z7 z (aV (G e M d w _ x j) λf T k=>?_);cases f with
  |next=>obtain⟨a,g,l,p⟩:=k;obtain⟨o,m,q⟩:=y a g p;exact⟨o,m,a,g,l,q⟩|cont=>obtain⟨a,g,l,p⟩:=k;obtain⟨o,m,q⟩:=y a g p;exact⟨o,m,a,g,l,q⟩|brk=>exact k|ret v=>exact k
 |false=>rw[if_neg Xo];exact a2q ⟨d,w,x,j⟩
end
structure It where
 go:Nat->Hp->Prop
 yld:Nat->Hp->V->Hp->Prop
 stop:Nat->Hp->Prop
noncomputable def iT(X:Cx)(a7J:jw)(H:Hp)(b:Addr):Prop:=
 H b=aY/\b≠X.env.locals/\b∉X.fs/\(b∈X.ex\/X.s₀.heap.objs.size<=b)/\(∀x c,X.env.cells.lookup x=aX c->c≠b)/\∀p∈X.pn++a7J,p.1≠b
theorem Inv.fpOk{X:Cx}{a7J:jw}{σ:St}{H d:Hp}{s:WX}{b:Addr}(I:Inv X a7J σ H s)(a:s.heap.objs.size<=b)(g:d b=aY):iT X a7J d b:=by
 refine⟨g,X1 (Xq I.lt a),I.nofs a,.inr (Xz I.sz a),λx c e z=>?_,λp h z=>?_⟩
 ·obtain⟨v,q⟩:=I.cell x c e;exact absurd (Xq q.lt (by rw[z];exact a)) (Zs _)
 ·exact absurd (Xq (W2 (I.pin p h).1) (by rw[z];exact a)) (Zs _)
noncomputable abbrev Qc(X:Cx):Prop:=X.calm=b4
structure Turn(q:Cx->Prop)(P:Xw)(w:XF)(K:WQ)(tg:Expr)(J:It)(fp:List Addr)(it:Addr)(tn:Nat->Ye->Prop):Prop where
 mem:it∈fp
 obj:∀i h,tn i h->∀b∈fp,∃o,h.get? b=aX o/\∀v,o.data≠.cell v
 keep:∀i h h',tn i h->(∀b∈fp,∀o,h.get? b=aX o->h'.get? b=aX o)->tn i h'
 item:∀(X:Cx),X.prog=P->X.w=w->X.K=K->q X->∀(i:Nat)(a7J:jw)(s:WX)(σ:St)(H:Hp)(E:Value->WX->Prop),Inv X a7J σ H s->(∀b∈fp,iT X a7J H b)->tn i s.heap->J.go i H->
  Xk (Xv P w) X.A (a0v (.ref it)) (λr s1=>∃u,r=aX u /\
   Xk (Xv P w) X.A (a2r tg (.ref it) u) (λ_ s2=>∃x H',Inv X a7J σ H' s2/\RelV x u/\J.yld i H x H'/\tn (i+1) s2.heap/\∀b∈fp,H' b=aY) E s1) E s
 done:∀(X:Cx),X.prog=P->X.w=w->X.K=K->q X->∀(i:Nat)(a7J:jw)(s:WX)(σ:St)(H:Hp)(E:Value->WX->Prop),Inv X a7J σ H s->(∀b∈fp,iT X a7J H b)->tn i s.heap->J.stop i H->
  Xk (Xv P w) X.A (a0v (.ref it)) (λr s1=>r=aY/\Inv X a7J σ H s1) E s
 self:∀(A:XC)(i:Nat)(s:WX)(Q:Value->WX->Prop)(E:Value->WX->Prop),tn i s.heap->Q (.ref it) s->Xk (Xv P w) A (a2m (.ref it)) Q E s
noncomputable abbrev TI:=St->Hp->(It->Hp->Prop)->Prop
inductive PIEq (q:Cx->Prop)(X:Cx)(a7J:jw)(σ:St)(tg:Expr)(R:It->Hp->Prop)(itv:Value)(s2:WX):Prop
 |mk (it:Addr)(fp:List Addr)(tn:Nat->Ye->Prop)(J:It)(H':Hp)(e:itv=.ref it)(I:Inv X a7J σ H' s2)(T:Turn q X.prog X.w X.K tg J fp it tn)(t0:tn 0 s2.heap)(f:∀b∈fp,iT X a7J H' b)(r:R J H'):PIEq q X a7J σ tg R itv s2
noncomputable abbrev w6:=PIEq Qc
noncomputable def qR(q:Cx->Prop)(X:Cx)(tg iter:Expr)(b:TI):Prop:=
 ∀(a7J:jw)(s:WX)(σ:St)(H:Hp)(R:It->Hp->Prop),Inv X a7J σ H s->b σ H R->
  Xk (Xv X.prog X.w) X.A (eval iter X.env) (λv a=>Xk (Xv X.prog X.w) X.A (a2m v) (PIEq q X a7J σ tg R) X.xe a) X.xe s
noncomputable abbrev PI:=qR Qc
theorem qS {M:Model}{A:XC}{E:Value->WX->Prop}{s:WX}{tg:Expr}{b:Addr}{u:Value}{o:Obj}{n:String}{vs:Array Value}{Q:Unit->WX->Prop}(d:s.heap.get? b=aX o)(hc:o.cls=.type n)(hd:o.data=.fields vs)
  (c:["enumerate","zip","dict_itemiterator","dict_reverseitemiterator","odict_iterator","itertools.zip_longest","itertools.pairwise"].contains n=b3) (a:Q () s):Xk M A (a2r tg (.ref b) u) Q E s:=by
 unfold a2r
 cases tg<;>first
  | exact WV a
  | (cases u<;>first
    | exact WV a
    | (refine WN (a6k d ?_)
       rw [hc,hd]
       show Xk M A (if (["enumerate","zip","dict_itemiterator","dict_reverseitemiterator","odict_iterator","itertools.zip_longest","itertools.pairwise"].contains n&&vs[0]? == aX (a0m _))=b4 then _ else _) Q E s
       rw [if_neg (by intro h;rw [c,a6h] at h;cases h)]
       exact WV a))
noncomputable def w8 (K:WQ)(a:Addr):It:=
 ⟨fun i H=>∃ b x,SqL K H a b/\b[i]? = aX x,fun i H x c=>c=H/\∀ b,SqL K H a b->b[i]? = aX x,fun i H=>∃ b,SqL K H a b/\b.length<=i⟩
noncomputable def w9(K:WQ)(a:Addr):It:=
 ⟨λi H=>∃b x,SqT K H a b/\b[i]?=aX x,λi H x c=>c=H/\∀b,SqT K H a b->b[i]?=aX x,λi H=>∃b,SqT K H a b/\b.length<=i⟩
noncomputable def mI(lo:Int)(n:Nat):It:=⟨λi _=>i<n,λi H x a=>a=H/\x=.int (lo+i),λi _=>n<=i⟩
theorem JW{P:Xw}{w:XF}{K:WQ}{tg:Expr}(a j:Addr):Turn Qc P w K tg (w8 K a) [j] j (λi h=>h.IsListIter j a i) where
 mem:=by simp
 obj:=λi h st b g=>by
  have e:b=j:=by simpa using g
  subst e;obtain⟨o,e,c,d⟩:=st;exact⟨o,e,λv z=>by rw[d]at z;cases z⟩
 keep:=λi h n st k=>st.at λo e=>k j (by simp) o e;item:=by intro X M hw L hc i l s T H E I q st N;subst M hw L;obtain⟨xs,x,r,O⟩:=N;obtain⟨Q,R,p,hz⟩:=I.list r;obtain⟨u,hu,ru⟩:=R.get O;obtain⟨y,A,Z,B,G,J⟩:=q j (by simp);refine a4V st p.isList (x:=u) (by simpa using hu) λn m sb=>?_;have U:Inv X l T H {s with heap:=n}:=I.turned (t':=s.toks) (λb o g e=>(sb.2 b g).trans e) y A B G J;obtain⟨o,e,c,d⟩:=id m;exact⟨u,rfl,qS (s:={s with heap:=n}) e c d (by decide) ⟨x,H,U,ru,⟨rfl,λys hy=>by rw[I.list_inj hy r];exact O⟩,m,λb g=>(q b g).1⟩⟩
 done:=by intro X M hw L hc i l s T H E I q st N;subst M hw L;obtain⟨xs,r,O⟩:=N;obtain⟨Q,R,p,hz⟩:=I.list r;obtain⟨y,A,Z,B,G,J⟩:=q j (by simp);have hl:=R.length;exact a5v (I.ok.hd hc) st p.isList (by simp;omega) λn Y=>⟨rfl,I.turned (t':=s.toks) (λb o g e=>Y b o g e) y A B G J⟩
 self:=λ_ _ _ _ _ st h=>wpAny_pyIter_listiter st h
theorem JX{P:Xw}{w:XF}{K:WQ}{tg:Expr}(a j:Addr):Turn Qc P w K tg (w9 K a) [j] j (λi h=>h.IsTupleIter j a i) where
 mem:=by simp
 obj:=λi h st b g=>by
  have e:b=j:=by simpa using g
  subst e;obtain⟨o,e,c,d⟩:=st;exact⟨o,e,λv z=>by rw[d]at z;cases z⟩
 keep:=λi h q st k=>st.at λo e=>k j (by simp) o e;item:=by intro X N hw M hc i m s T H E I r st O;subst N hw M;obtain⟨xs,x,y,Q⟩:=O;obtain⟨l,R,p,hz⟩:=I.tuple y;obtain⟨u,hu,ru⟩:=R.get Q;obtain⟨A,B,Z,G,J,L⟩:=r j (by simp);refine wpAny_pyNext_tuple_item st (show s.heap.IsTuple a l.toArray from p) (x:=u) (by simpa using hu) λq n sb=>?_;have U:Inv X m T H {s with heap:=q}:=I.turned (t':=s.toks) (λb o g e=>(sb.2 b g).trans e) A B G J L;obtain⟨o,e,c,d⟩:=id n;exact⟨u,rfl,qS (s:={s with heap:=q}) e c d (by decide) ⟨x,H,U,ru,⟨rfl,λys hy=>by rw[I.tuple_inj hy y];exact Q⟩,n,λb g=>(r b g).1⟩⟩
 done:=by intro X N hw M hc i m s T H E I r st O;subst N hw M;obtain⟨xs,y,Q⟩:=O;obtain⟨l,R,p,hz⟩:=I.tuple y;obtain⟨A,B,Z,G,J,L⟩:=r j (by simp);have hl:=R.length;exact wpAny_pyNext_tuple_end (I.ok.hd hc) st (show s.heap.IsTuple a l.toArray from p) (by simp;omega) λq Y=>⟨rfl,I.turned (t':=s.toks) (λb o g e=>Y b o g e) A B G J L⟩
 self:=λ_ _ _ _ _ st h=>wpAny_pyIter_tupleiter st h
theorem BK{P:Xw}{w:XF}{K:WQ}{tg:Expr}(a:Addr)(lo:Int)(n:Nat):Turn Qc P w K tg (mI lo n) [a] a (λi h=>a2M h a (lo+(i:Nat)*1) ((n:Int)-(i:Nat)) 1) where
 mem:=by simp
 obj:=λi h st b c=>by
  have e:b=a:=by simpa using c
  subst e;exact⟨_,st,λv z=>by
   have Q:X6 _=a2o v:=z;cases Q⟩
 keep:=λi h j st k=>k a (by simp) _ st;item:=by intro X y hw x hc i d s G H E I l st A;subst y hw x;obtain⟨m,p,M,q,r,u⟩:=l a (by simp);have W:=Walks.range (prog:=X.prog) (w:=X.w) (I.ok.hd hc) a lo 1 n;refine W.item i s _ _ A st λv j B N g O=>?_;obtain⟨t,rfl⟩:=N;have J:Inv X d G H {s with heap:=j,toks:=B}:=I.turned (λb o c e=>O b o (by simpa using c) e) m p q r u;refine⟨_,rfl,qS (s:={s with heap:=j,toks:=B}) (n:="range_iterator") g rfl rfl (by decide) ⟨.int (lo+i),H,J,⟨t,?_⟩,⟨rfl,rfl⟩,g,λb c=>(l b c).1⟩⟩;rw[a4L]
 done:=by intro X y hw x hc i d s G H E I l st A;subst y hw x;obtain⟨m,p,M,q,r,u⟩:=l a (by simp);exact wpAny_pyNext_range_end (I.ok.hd hc) st (by have:n<=i:=A;omega) λj L=>⟨rfl,I.turned (t':=s.toks) (λb o c e=>L b o c e) m p q r u⟩
 self:=λ_ _ _ _ _ st h=>wpAny_pyIter_rangeiter st h
section
variable{X:Cx}{tg:Expr}
theorem BL{q:Cx->Prop}(tr:∀(c:Addr)(lo:Int)(n:Nat),Turn q X.prog X.w X.K tg (mI lo n) [c] c (λi h=>a2M h c (lo+(i:Nat)*1) ((n:Int)-(i:Nat)) 1)){a7J:jw}{σ:St}{H:Hp}{s:WX}{R:It->Hp->Prop}{E:Value->WX->Prop}{lo hi:Int}{t u v:a7H}{tk:Nat}(I:Inv X a7J σ H s)(h1:-(2^62)<=lo)(j:lo<2^62)(k:-(2^62)<=hi)(l:hi<2^62)
  (m:R (mI lo (hi-lo).toNat) H):Xk (Xv X.prog X.w) X.A (a2m (.ref s.heap.objs.size)) (PIEq q X a7J σ tg R) E {s with heap:=s.heap.push {cls:=.type "range",data:=.fields #[.int lo t,.int hi u,.int 1 v]},toks:=tk}:=by
 refine wpAny_pyIter_range (IsRange.new ..) (small_one h1 j k l) ?_;have a:Inv X a7J σ H {s with heap:=s.heap.push {cls:=.type "range",data:=.fields #[.int lo t,.int hi u,.int 1 v]},toks:=tk}:=I.kept λb o e=>WW _ e;refine⟨(s.heap.push {cls:=.type "range",data:=.fields #[.int lo t,.int hi u,.int 1 v]}).objs.size,[(s.heap.push {cls:=.type "range",data:=.fields #[.int lo t,.int hi u,.int 1 v]}).objs.size],_,_,H,rfl,
  a.kept (t':=tk) λb o e=>WW _ e,tr _ lo (hi-lo).toNat,?_,λb p=>?_,m⟩
 ·have d:lo+((0:Nat):Int)*1=lo:=by simp
  have g:(((hi-lo).toNat:Nat):Int)-((0:Nat):Int)=a6V lo hi 1:=by rw[rangeSize_one];split<;>omega
  show a2M _ _ (lo+((0:Nat):Int)*1) ((((hi-lo).toNat:Nat):Int)-((0:Nat):Int)) 1;rw[d,g];exact W9 _ rfl
 ·have e:b=(s.heap.push {cls:=.type "range",data:=.fields #[.int lo t,.int hi u,.int 1 v]}).objs.size:=by simpa using p
  subst e;exact a.fpOk (WY _) (a.hok.fresh (WY _))
noncomputable def JY(b:TA):TI:=λσ H R=>b σ H λvs a=>∃j:Int,vs=[.int j]/\-(2^62)<=j/\j<2^62/\R (mI 0 j.toNat) a
noncomputable def JZ(b:TA):TI:=λσ H R=>b σ H λvs a=>∃i j:Int,vs=[.int i,.int j]/\(-(2^62)<=i/\i<2^62/\-(2^62)<=j/\j<2^62)/\R (mI i (j-i).toNat) a
theorem J3{q:Cx->Prop}(tr:∀(c:Addr)(lo:Int)(n:Nat),Turn q X.prog X.w X.K tg (mI lo n) [c] c (λi h=>a2M h c (lo+(i:Nat)*1) ((n:Int)-(i:Nat)) 1)){a:Expr}{g:TA}{p pos:YE}(m:Gl X "range") (o:X.mg "range"=aY) (l:PA X [a] g)(u:XB [a] X.env=[(b3,eval a X.env)]:=by rfl):qR q X tg (.Call (.Name "range" p) [a] [] pos) (JY g):=by
 intro b s z H R I h;refine Call_ (iS I m o boot_range (Yz (aV (l pos b s z H _ I h) λE B ⟨G,A,k,x,d⟩=>?_) u rfl));obtain⟨j,e,d,v,w⟩:=d;subst e;cases x with
 |cons r y=>cases y;obtain⟨t,rfl⟩:=r;exact call_range_1 (BL tr k (by omega) (by omega) d v (by simpa using w))
theorem J5{a b:Expr}{l:TA}{p pos:YE}(o:Gl X "range") (u:X.mg "range"=aY) (n:PA X [a,b] l)(v:XB [a,b] X.env=[(b3,eval a X.env),(b3,eval b X.env)]:=by rfl)(c:XB [b] X.env=[(b3,eval b X.env)]:=by rfl) :
  PI X tg (.Call (.Name "range" p) [a,b] [] pos) (JZ l):=by
 intro d s B H R I h;refine Call_ (iS I o u boot_range (Yz (aV (n pos d s B H _ I h) λK G ⟨L,E,m,A,g⟩=>?_) (by rw[v,c]) (by rw[c];rfl)));obtain⟨i,j,e,⟨g,w,x,y⟩,q⟩:=g;subst e;cases A with
 |cons r k=>
  cases k with
  |cons z k=>cases k;obtain⟨t,rfl⟩:=r;obtain⟨J,rfl⟩:=z;exact call_range_2 (BL BK m g w x y q)
noncomputable def J6(k:TI)(g:TG)(j:TS):TS:=λD σ H=>k σ H λJ e=>∃W:Nat->Nat->St->Hp->Prop,(∃m,W 0 m σ e)/\∀i m σ H,W i m σ H->
 (J.stop i H/\D.nx σ H)\/(J.go i H/\∃N:St->Hp->Prop,(∀b a,N b a->∃d,d<m/\W (i+1) d b a)/\∀x a,J.yld i H x a->g x σ a λc h=>j {D with nx:=N,ct:=N,bk:=D.nx} c h)
noncomputable def qT(a:List Addr)(h:Ye):jw:=a.filterMap λb=>(h.get? b).map λo=>(b,o)
theorem tB{a:List Addr}{h:Ye}{b:Addr}{o:Obj}(c:b∈a)(e:h.get? b=aX o):(b,o)∈qT a h:=a1p.mpr ⟨b,c,by rw[e];rfl⟩
theorem J7{a:List Addr}{h:Ye}{p:Addr×Obj}(g:p∈qT a h):p.1∈a/\h.get? p.1=aX p.2:=by
 obtain⟨b,d,e⟩:=a1p.mp g;cases q:h.get? b with
 |none=>rw[q]at e;cases e|some o=>rw[q]at e;have c:(b,o)=p:=Xg e;subst c;exact⟨d,q⟩
theorem Inv.pinned{a7J:jw}{σ:St}{H:Hp}{s:WX}{a:List Addr}(I:Inv X a7J σ H s)(k:∀b∈a,iT X a7J H b)(l:∀b∈a,∃o,s.heap.get? b=aX o/\∀v,o.data≠.cell v):Inv X (a7J++qT a s.heap) σ H s:=
 I.pins_of λp m=>(XS.mp m).elim (λz=>I.pin p (X3 _ z)) λz=>by obtain⟨g,e⟩:=J7 z;obtain⟨h,i,j,_⟩:=k p.1 g;obtain⟨o,c,d⟩:=l p.1 g;rw[e]at c;cases c;exact⟨e,h,i,j,d⟩
theorem Inv.unpinned{a7J b:jw}{σ:St}{H:Hp}{s:WX}(I:Inv X (a7J++b) σ H s):Inv X a7J σ H s:=I.pins_of λp a=>I.pin p (X3 _ (Yw _ a))
theorem J8{iter:Expr}{body:List Stmt}{wi:TI}{g:TG}{tb:TS}{pos:YE}(K:a3U (Xv X.prog X.w) X.A X.env X.xe)(hc:X.calm=b4)(hi:PI X tg iter wi)(hg:PG X tg g)(p:PSs X body tb)
  (hs:∀x,a0e iter X.env x=pure x:=by intro _;rfl):PS X (.For tg iter body [] pos) (J6 wi g tb):=by
 intro c s σ H D I h;refine wpAny_For (aV (hi c s σ H _ I h) λv s1 h1=>aV h1 λitv s2 h2=>?_) hs;obtain⟨it,E,tn,J,H2,e,I2,T,st2,f2,W,⟨m0,w0⟩,turn⟩:=h2;subst e
  -- what stays b4 of the iterator's objects through the loop
 have q:∀{z:Hp},(∀b∈E,z b=aY)->∀b∈E,iT X c z b:=λhn b p=>⟨hn b p,(f2 b p).2⟩;refine codeAny_forLoop_any (λn s'=>∃i w z,Inv X c w z s'/\tn i s'.heap/\(∀b∈E,z b=aY)/\W i n w z) ?_ m0 ⟨0,σ,H2,I2,st2,λb p=>(f2 b p).1,w0⟩;rintro n s3 ⟨i,y,Q,I3,M,G,w3⟩;rcases turn i n y Q w3 with⟨O,qn⟩|⟨go,N,hN,step⟩
 ·refine Z7 K (aV (T.done X rfl rfl rfl hc i c s3 y Q X.xe I3 (q G) M O) λr s4 ⟨Y,I4⟩=>?_);subst Y;exact a2q ⟨y,Q,I4,qn⟩
 ·refine Z7 K (aV (T.item X rfl rfl rfl hc i c s3 y Q X.xe I3 (q G) M go) λr s4 ⟨u,Y,h4⟩=>?_);subst Y;refine Z7 K (aV h4 λ_ s5 ⟨x,H5,I5,r5,y5,B,U⟩=>?_);have R:=I5.pinned (q U) (T.obj _ _ B);refine Z7 K (aV (hg _ s5 y H5 x u _ R r5 (step x H5 y5)) λ_ s6 ⟨σ6,H6,I6,q6⟩=>?_);refine Z7 K (aV (p _ s6 σ6 H6 _ I6 q6) λf Z A=>?_);have l:∀{a:St}{j:Hp},Inv X (c++qT E s5.heap) a j Z->N a j->∃m,m<n/\∃i w z,Inv X c w z Z/\tn i Z.heap/\(∀b∈E,z b=aY)/\W i m w z:=λ{a j} k L=>by obtain⟨m',hm,w7⟩:=hN a j L;refine⟨m',hm,i+1,a,j,k.unpinned,T.keep _ _ _ B λb p o e=>(k.pin (b,o) (X3 _ (X3 _ (tB p e)))).1,λb p=>?_,w7⟩;obtain⟨o,e,d⟩:=T.obj _ _ B b p;exact(k.pin (b,o) (X3 _ (X3 _ (tB p e)))).2.1
  cases f with
  |next=>obtain⟨a,j,k,L⟩:=A;exact l k L|cont=>obtain⟨a,j,k,L⟩:=A;exact l k L|brk=>obtain⟨a,j,k,A⟩:=A;exact⟨a,j,k.unpinned,A⟩|ret v=>obtain⟨x7,a,j,k,r7,A⟩:=A;exact⟨x7,a,j,k.unpinned,r7,A⟩
end
noncomputable abbrev R2:=V->V->Hp->VK->Prop
noncomputable def OpR(X:Cx)(f:Value->Value->a7b Value)(r:R2):Prop:=
 ∀(a7J:jw)(s:WX)(σ:St)(H:Hp)(x y:V)(v u:Value)(Q:VK),Inv X a7J σ H s->RelV x v->RelV y u->r x y H Q->
  Xk (Xv X.prog X.w) X.A (f v u) (EP X a7J σ Q) X.xe s
noncomputable def xA(X:Cx)(f:Value->a7b Value)(r:V->Hp->VK->Prop):Prop:=
 ∀(a7J:jw)(s:WX)(σ:St)(H:Hp)(x:V)(v:Value)(Q:VK),Inv X a7J σ H s->RelV x v->r x H Q->
  Xk (Xv X.prog X.w) X.A (f v) (EP X a7J σ Q) X.xe s
noncomputable def CallR(X:Cx)(f:Value)(r:gw->Hp->VK->Prop):Prop:=
 ∀(a7J:jw)(s:WX)(σ:St)(H:Hp)(xs:gw)(us:gq)(Q:VK),Inv X a7J σ H s->Vals xs us->r xs H Q->
  Xk (Xv X.prog X.w) X.A (call f us) (EP X a7J σ Q) X.xe s
noncomputable def J9(X:Cx)(r:V->Hp->(Bool->Hp->Prop)->Prop):Prop:=
 ∀(a7J:jw)(s:WX)(σ:St)(H:Hp)(x:V)(v:Value)(Q:Bool->Hp->Prop),Inv X a7J σ H s->RelV x v->r x H Q->
  Xk (Xv X.prog X.w) X.A (truthy v) (TP X a7J σ Q) X.xe s
noncomputable def qU(r:R2)(c d:TE):TE:=λσ H Q=>c σ H λx a=>d σ a λy b=>r x y b Q
noncomputable def Ka(r:V->Hp->VK->Prop)(b:TE):TE:=λσ H Q=>b σ H λx a=>r x a Q
noncomputable def rI(C:Int->Int->Prop)(g:Int->Int->V):R2:=λx y H Q=>∃i j,x=.int i/\y=.int j/\C i j/\Q (g i j) H
noncomputable def iC(g:Int->Int->V):R2:=λx y H Q=>∃i j,x=.int i/\y=.int j/\Q (g i j) H
noncomputable def rU(g:Int->V):V->Hp->VK->Prop:=λx H Q=>∃i,x=.int i/\Q (g i) H
section
variable{X:Cx}{a b c:Expr}{ta tb tc:TE}{pos:YE}
theorem xB(m:PE X a ta)(n:PE X b tb){a7J:jw}{s:WX}{σ:St}{H:Hp}{R:V->V->Hp->Prop}(I:Inv X a7J σ H s)
  (h:ta σ H λx j=>tb σ j λy d=>R x y d){Q:Value->WX->Prop}{f:Value->Value->a7b Value}
  (o:∀v u i x y d,Inv X a7J σ d i->RelV x v->RelV y u->R x y d->Xk (Xv X.prog X.w) X.A (f v u) Q X.xe i) :
  Xk (Xv X.prog X.w) X.A (eval a X.env) (λv e=>Xk (Xv X.prog X.w) X.A (eval b X.env) (λu g=>Xk (Xv X.prog X.w) X.A (f v u) Q X.xe g) X.xe e) X.xe s:=by
 refine aV (m a7J s σ H _ I h) λv z ⟨x,j,k,r,p⟩=>?_;refine aV (n a7J z σ j _ k p) λu i ⟨y,d,l,w,q⟩=>?_;exact o v u i x y d l r w q
theorem Kb{op:a4q}{r:R2}(k:OpR X (ZX op) r)(i:PE X a ta)(j:PE X b tb):PE X (.BinOp a op b pos) (qU r ta tb):=by intro d s o H Q I h;exact wpAny_BinOp (xB i j I h λv u n x y e g l m q=>k d n o e x y v u Q g l m q)
theorem Kc{op:UnaryOp}{r:V->Hp->VK->Prop}(k:xA X (unaryOp op) r)(j:PE X a ta):PE X (.UnaryOp op a pos) (Ka r ta):=by intro d s e H Q I h;exact UnaryOp_ (aV (j d s e H _ I h) λv n ⟨x,g,i,m,l⟩=>k d n e g x v Q i m l)
theorem tD{f:Value->Value->a7b Value}{C:Int->Int->Prop}{g:Int->Int->Int}
  (d:∀(i j:Int)(t u:a7H)(s:WX)(Q:Value->WX->Prop)(E:Value->WX->Prop),C i j->Q (.int (g i j) s.toks) {s with toks:=s.toks+1}->Xk (Xv X.prog X.w) X.A (f (.int i t) (.int j u)) Q E s) :
  OpR X f (rI C λi j=>.int (g i j)):=by
 intro e s n H x y v u Q I k l h;obtain⟨i,j,rfl,rfl,hc,q⟩:=h;obtain⟨t,rfl⟩:=k;obtain⟨m,rfl⟩:=l;exact d i j t m s _ _ hc ⟨.int (g i j),H,I.tok _,⟨_,rfl⟩,q⟩
theorem BM{f:Value->Value->a7b Value}{g:Int->Int->Int}
  (d:∀(i j:Int)(t u:a7H)(s:WX)(Q:Value->WX->Prop)(E:Value->WX->Prop),Q (.int (g i j) s.toks) {s with toks:=s.toks+1}->Xk (Xv X.prog X.w) X.A (f (.int i t) (.int j u)) Q E s) :
  OpR X f (iC λi j=>.int (g i j)):=by
 intro e s n H x y v u Q I k l h;obtain⟨i,j,rfl,rfl,q⟩:=h;obtain⟨t,rfl⟩:=k;obtain⟨m,rfl⟩:=l;exact d i j t m s _ _ ⟨.int (g i j),H,I.tok _,⟨_,rfl⟩,q⟩
theorem tE{f:Value->Value->a7b Value}{g:Int->Int->Bool}
  (d:∀(i j:Int)(t u:a7H)(s:WX)(Q:Value->WX->Prop)(E:Value->WX->Prop),Q (.bool (g i j)) s->Xk (Xv X.prog X.w) X.A (f (.int i t) (.int j u)) Q E s) :
  OpR X f (iC λi j=>.bl (g i j)):=by
 intro e s n H x y v u Q I k l h;obtain⟨i,j,rfl,rfl,q⟩:=h;obtain⟨t,rfl⟩:=k;obtain⟨m,rfl⟩:=l;exact d i j t m s _ _ ⟨.bl (g i j),H,I,rfl,q⟩
noncomputable def Kd(i j:Int):Prop:=0<=j/\j<=1000000/\i.natAbs<2^64
noncomputable def CMul(i j:Int):Prop:=(-(2^64)<i/\i<2^64)\/(-(2^64)<j/\j<2^64)
theorem CMul.ok{i j:Int}(h:CMul i j):a5Z i j:=by
 rcases h with⟨d,e⟩|⟨d,e⟩
 ·exact .of_left (intBits_le_64 d e)
 ·exact .of_right (intBits_le_64 d e)
theorem op_add:OpR X (ZX .Add) (iC λi j=>.int (i+j)):=BM λ_ _ _ _ _ _ _ q=>add_int q
theorem Ke:OpR X (ZX .Sub) (iC λi j=>.int (i-j)):=BM λ_ _ _ _ _ _ _ q=>sub_int q
theorem Kf:OpR X (ZX .Mod) (rI (λ_ j=>0<j) λi j=>.int (i%j)):=tD λi j _ _ _ _ _ hc q=>by have d:(0:Int)<j:=hc;exact mod_int' (by omega) (by rw[Int.fmod_eq_emod_of_nonneg i (by omega)];exact q)
theorem j7{f:Value->a7b Value}{g:Int->Int}
  (d:∀(i:Int)(t:a7H)(s:WX)(Q:Value->WX->Prop)(E:Value->WX->Prop),Q (.int (g i) s.toks) {s with toks:=s.toks+1}->Xk (Xv X.prog X.w) X.A (f (.int i t)) Q E s) :
  xA X f (rU λi=>.int (g i)):=by
 intro e s k H x v Q I j h;obtain⟨i,rfl,q⟩:=h;obtain⟨t,rfl⟩:=j;exact d i t s _ _ ⟨.int (g i),H,I.tok _,⟨_,rfl⟩,q⟩
theorem Kg:xA X (unaryOp .USub) (rU λi=>.int (-i)):=j7 λ_ _ _ _ _ q=>neg_int q
end
section
variable{X:Cx}{a b c:Expr}{ta tb tc:TE}{pos:YE}
theorem Kh{a7J:jw}{σ:St}{H:Hp}{s:WX}{Q:VK}{k k':Bool}(I:Inv X a7J σ H s)(q:Q (.bl k) H)(e:k=k'):EP X a7J σ Q (.bool k') s:=by subst e;exact⟨.bl k,H,I,rfl,q⟩
theorem xC:OpR X (Yv .Lt) (iC λi j=>.bl (decide (i<j))):=tE λ_ _ _ _ _ _ _ q=>lt_int q
theorem xD:OpR X (Yv .LtE) (iC λi j=>.bl (decide (i<=j))):=tE λ_ _ _ _ _ _ _ q=>le_int q
theorem xE:OpR X (Yv .Gt) (iC λi j=>.bl (decide (j<i))):=tE λ_ _ _ _ _ _ _ q=>gt_int q
theorem xF:OpR X (Yv .GtE) (iC λi j=>.bl (decide (j<=i))):=tE λ_ _ _ _ _ _ _ q=>ge_int q
theorem BN:OpR X (Yv .In) (λx y H Q=>∃i j,x=.str i/\y=.str j/\Q (.bl (!(YC j i 0 j.length 1).isEmpty)) H):=by intro d s l H x y v u Q I e g h;obtain⟨i,j,rfl,rfl,q⟩:=h;obtain⟨t,rfl⟩:=e;obtain⟨k,rfl⟩:=g;exact in_str (Kh I q rfl)
theorem OpR.or{f:Value->Value->a7b Value}{r e:R2}(h:OpR X f r)(h':OpR X f e):OpR X f (λx y H Q=>r x y H Q\/e x y H Q):=by
 intro d s j H x y v u Q I g i q;rcases q with q|q
 ·exact h d s j H x y v u Q I g i q
 ·exact h' d s j H x y v u Q I g i q
theorem iD(b:Expr){op:a0Z}(h:op≠.In:=by decide)(g:op≠.NotIn:=by decide):a0b op b=false:=by
 have d:(op==CmpOp.In)=false:=by cases op<;>first|rfl|exact absurd rfl h
 have e:(op==CmpOp.NotIn)=false:=by cases op<;>first|rfl|exact absurd rfl g
 cases b<;>simp[a0b,d,e]
theorem Ki{op:a0Z}{r:R2}(l:OpR X (Yv op) r)(i:PE X a ta)(j:PE X b tb)(k:a0b op b=b3):PE X (.Compare a [op] [b] pos) (qU r ta tb):=by intro d s p H Q I h;exact wpAny_Compare1 (xB i j I h λv u o x y e g m n q=>l d o p e x y v u Q g m n q) k
noncomputable def BO(t:TE):TT:=λσ H Q=>t σ H λx d=>∃k,x=.bl k/\Q k d
theorem Kj{op:a0Z}{r:R2}(A:OpR X (Yv op) r)(p:PE X a ta)(q:PE X b tb)(w:a0b op b=b3):PT X (.Compare a [op] [b] pos) (BO (qU r ta tb)):=by
 intro d s g H Q I h;refine wpAny_isTrue_Compare1 (aV (p d s g H _ I h) λv M ⟨x,i,m,J,B⟩=>aV (q d M g i _ m B) λu N ⟨y,j,n,K,E⟩=>
  aV (A d N g j x y v u _ n J K E) λc O ⟨z,l,o,L,k,e,G⟩=>?_) w
 subst e;cases L;exact YT ⟨l,o,G⟩
noncomputable def xG(r i:R2)(ta tb tc:TE):TE:=λσ H Q=>ta σ H λx e=>tb σ e λy g=>r x y g λz d=>∃k,z=.bl k /\
 (if k=b4 then tc σ d λj h=>i y j h Q else Q (.bl b3) d)
theorem Kk{op i:a0Z}{r p:R2}(N:OpR X (Yv op) r)(l:OpR X (Yv i) p)(K:PE X a ta)(L:PE X b tb)(hc:PE X c tc)
  (M:a6J [op,i] [b,c]=false:=by with_unfolding_all rfl):PE X (.Compare a [op,i] [b,c] pos) (xG r p ta tb tc):=by
 intro g s j H Q I h;refine Compare_chain (aV (K g s j H _ I h) λv s1 ⟨x,w,E,U,O⟩=>chain_link (aV (L g s1 j w _ E O) λu s2 ⟨y,A,G,q,R⟩=>
  aV (N g s2 j A x y v u _ G U q R) λd s3 ⟨z,m,n,Y,k,e,o⟩=>?_)) M
 subst e;cases Y;refine YT ?_;cases k with
 |false=>exact ite_ff ⟨.bl b3,m,n,rfl,o⟩|true=>exact ite_tt (chain_last (aV (hc g s3 j m _ n o) λw' s4 ⟨z',B,J,Z,T⟩=>l g s4 j B y z' u w' Q J q Z T))
theorem Kl{op i:a0Z}{r p:R2}(U:OpR X (Yv op) r)(l:OpR X (Yv i) p)(O:PE X a ta)(R:PE X b tb)(hc:PE X c tc)
  (T:a6J [op,i] [b,c]=false:=by with_unfolding_all rfl):PT X (.Compare a [op,i] [b,c] pos) (BO (xG r p ta tb tc)):=by
 intro g s j H Q I h;refine isTrue_chain (aV (O g s j H _ I h) λv s1 ⟨x,w,G,r1,Z⟩=>test_link (aV (R g s1 j w _ G Z) λu s2 ⟨y,A,J,q,q2⟩=>
  aV (U g s2 j A x y v u _ J r1 q q2) λd s3 ⟨z,m,n,r3,k,e,o⟩=>?_)) T
 subst e;cases r3;refine YT ?_;cases k with
 |false=>obtain⟨k',M,Y⟩:=o;cases M;exact ite_ff ⟨m,n,Y⟩|true=>refine ite_tt (test_last (aV (hc g s3 j m _ n o) λw' s4 ⟨z',B,K,r4,q4⟩=>aV (l g s4 j B y z' u w' _ K q r4 q4) λd' s5 ⟨z2,E,L,r5,k2,N,q5⟩=>?_));subst N;cases r5;exact YT ⟨E,L,q5⟩
noncomputable def xH(K:WQ)(x:V)(H:Hp)(k:Bool):Prop:=
 match x with
 |.non=>k=b3|.bl b=>k=b|.int i=>k=(i != 0)|.str y=>y.length<=W8/\k=((y.length:Int) != 0)|.byt y=>y.size<=W8/\k=((y.size:Int) != 0)|.ref p=>(∃e,SqL K H p e/\k=!e.isEmpty)\/(∃e,SqT K H p e/\k=!e.isEmpty)\/∃d,H p=aX (.dK d)/\k=!d.isEmpty|_=>False
theorem Km{κ:Type}{kvs:List (κ×V)}{vs:List (κ×Value)}(r:KV kvs vs):(!vs.isEmpty)=!kvs.isEmpty:=by cases r<;>rfl
theorem BP{xs:gw}{its:gq}(r:Vals xs its):(!its.toArray.isEmpty)=!xs.isEmpty:=by cases r<;>simp
theorem nJ:(W8:Nat)<2^63:=by rw[Xh];decide
theorem Kn:J9 X (λx H Q=>∃k,xH X.K x H k/\Q k H):=by
 intro B s L H x v Q I n h;obtain⟨k,e,q⟩:=h;have J:=nJ;have K:W8=16777216:=Xh;cases x with
 |non=>cases n;have d:k=false:=e;subst d;exact truthy_none ⟨H,I,q⟩|bl b=>cases n;have d:k=b:=e;subst d;exact YT ⟨H,I,q⟩|int i=>obtain⟨t,rfl⟩:=n;have d:k=(i != 0):=e;subst d;exact PySem.P.truthy_int ⟨H,I,q⟩|str y=>obtain⟨t,rfl⟩:=n;obtain⟨G,d⟩:y.length<=W8/\k=((y.length:Int) != 0):=e;subst d;exact PySem.P.truthy_str (by omega) ⟨H,I.tok _,q⟩|byt y=>obtain⟨t,rfl⟩:=n;obtain⟨G,d⟩:y.size<=W8/\k=((y.size:Int) != 0):=e;subst d;exact PySem.W.truthy_bytes (by omega) ⟨H,I.tok _,q⟩|ref p=>
  cases n;have d:(∃l,SqL X.K H p l/\k=!l.isEmpty)\/(∃l,SqT X.K H p l/\k=!l.isEmpty)\/∃g,H p=aX (.dK g)/\k=!g.isEmpty:=e;rcases d with⟨l,o,d⟩|⟨l,o,d⟩|⟨g,o,d⟩
  ·subst d;obtain⟨w,r,z,A⟩:=I.list o;have j:=r.length;exact wpAny_truthy_list z.isList (by simp only[Xb];omega) ⟨H,I.tok _,by rw[BP r];exact q⟩
  ·subst d;obtain⟨w,r,z,A⟩:=I.tuple o;have j:=r.length;exact truthy_tuple z (by simp only[Xb];omega) ⟨H,I.tok _,by rw[BP r];exact q⟩
  ·subst d;obtain⟨A,E,u,r,m⟩:g.length<=W8/\(p==YG)=b3/\∃u,KV g u/\s.heap.DictOf (qO X.prog X.w) p u:=I.hok p _ o;have j:g.length=u.length:=a3H r;exact wpAny_truthy_dict E m (by omega) ⟨H,I.tok _,by rw[Km r];exact q⟩
 |_=>exact(show False from e).elim
theorem Ko(m:PE X a ta)(n:∀d,a5c a X.env d=(do let v <- d;standAt a.pos;holding [v] (truthy v))) :
  PT X a (λg H Q=>ta g H λx i=>∃k,xH X.K x i k/\Q k i):=by
 intro e s g H Q I h;exact isTrue_plain (aV (m e s g H _ I h) λv q ⟨x,j,l,p,o⟩=>Kn e q g j x v Q l p o) (n _)
theorem op_add_str:OpR X (ZX .Add) (λx y H Q=>∃i j,x=.str i/\y=.str j/\i.length+j.length<=W8/\Q (.str (i++j)) H):=by intro d s n H x y v u Q I g k h;obtain⟨i,j,rfl,rfl,e,q⟩:=h;obtain⟨t,rfl⟩:=g;obtain⟨l,rfl⟩:=k;exact add_str (λl m=>⟨.str (i++j),H,I.tok _,⟨_,rfl⟩,q⟩) e
theorem fA{x:V}{us:gq}(r:Vals [x] us):∃u,us=[u]/\RelV x u:=by
 cases r with
 |cons d e=>cases e;exact⟨_,rfl,d⟩
theorem tF{x y:V}{us:gq}(r:Vals [x,y] us):∃u d,us=[u,d]/\RelV x u/\RelV y d:=by
 cases r with
 |cons e g=>
  cases g with
  |cons h i=>cases i;exact⟨_,_,rfl,e,h⟩
theorem Kp(hc:X.calm=b4):CallR X (.builtin "max") (λxs H Q=>∃i j,xs=[.int i,.int j]/\Q (.int (if j>i then j else i)) H):=by
 intro e s p H xs n Q I r h;obtain⟨i,j,rfl,q⟩:=h;obtain⟨u,o,rfl,⟨t,rfl⟩,⟨l,rfl⟩⟩:=tF r;refine max_two_ints (I.ok.hd hc) λg m k=>⟨_,H,I.kept k,?_,q⟩;by_cases d:j>i
 ·rw[if_pos d,if_pos d];exact⟨_,rfl⟩
 ·rw[if_neg d,if_neg d];exact⟨_,rfl⟩
theorem Kq(hc:X.calm=b4):CallR X (.builtin "min") (λxs H Q=>∃i j,xs=[.int i,.int j]/\Q (.int (if j<i then j else i)) H):=by
 intro e s p H xs n Q I r h;obtain⟨i,j,rfl,q⟩:=h;obtain⟨u,o,rfl,⟨t,rfl⟩,⟨l,rfl⟩⟩:=tF r;refine min_two_ints (I.ok.hd hc) λg m k=>⟨_,H,I.kept k,?_,q⟩;by_cases d:j<i
 ·rw[if_pos d,if_pos d];exact⟨_,rfl⟩
 ·rw[if_neg d,if_neg d];exact⟨_,rfl⟩
theorem Kr:CallR X (.type "int") (λxs H Q=>(∃i,xs=[.int i]/\Q (.int i) H)\/∃k,xs=[.bl k]/\Q (.int (if k then 1 else 0)) H):=by
 intro d s j H xs g Q I r h;rcases h with⟨i,rfl,q⟩|⟨k,rfl,q⟩
 ·obtain⟨u,rfl,t,rfl⟩:=fA r;exact call_int_int ⟨.int i,H,I,⟨_,rfl⟩,q⟩
 ·obtain⟨u,rfl,e⟩:=fA r;cases e;exact call_int_bool ⟨.int (if k then 1 else 0),H,I.tok _,⟨_,rfl⟩,q⟩
end
structure ObjM(h:Ye)(x dx C:Addr)(mA:Str->Option Value):Prop where
 obj:h.get? x=aX (a4Q C dx)
 ns:h.Ns1 dx mA
 ne:dx≠x
section
variable{prog:Xw}{w:XF}{A:XC}{E:Value->WX->Prop}{s:WX}{K:WQ}{x dx C f:Addr}{mA:Str->Option Value}{name:Str}{v:Value}
end
theorem RelO.some_of{v:V}{o:Option Value}(r:RelO (aX v) o):∃u,o=aX u/\RelV v u:=by
 cases o with
 |none=>exact(show False from r).elim|some u=>exact⟨u,rfl,r⟩
section
variable{P:Xw}{w:XF}{H H':Hp}{h h':Ye}{a C dx:Addr}{fs fs':List (Str×V)}
end
structure Cls(K:WQ)(C:Addr):Prop where
 pg:PySem.W.plainGet K C Str.empty=b4
 hd:PySem.W.hasDictIn K C=b4
 po:PySem.W.plainOver K C=b4
 sa:a1d K (.ref C) "__setattr__"=aX (aX (.builtin "object.__setattr__"))
structure Con(K:WQ)(C:Addr)(f:Str)(v:V)(u:Value):Prop where
 at_:a1d K (.ref C) f=aX (aX u)
 rel:RelV v u
 get:a4x K u "__get__"=aX aY
 cp:PySem.W.copiedNames.contains f=b3
structure Meth(K:WQ)(C:Addr)(m:Str)(f:Addr):Prop where
 at_:a1d K (.ref C) m=aX (aX (.ref f))
 fn:a5W K (.ref f)=b4
 kp:YY K (.ref f)=b4
section
variable{X:Cx}{a7J:jw}{σ:St}{H:Hp}{s:WX}{a C dx:Addr}{fs:List (Str×V)}{f:Str}{v:V}{A:XC}{E:Value->WX->Prop}
end
section
variable{X:Cx}{o e value:Expr}{f:Str}{pos pos' tpos:YE}{ta tv:TE}
end
section
variable{X:Cx}{a7J:jw}{σ:St}{H:Hp}{s:WX}{A:XC}{E:Value->WX->Prop}{Q:Value->WX->Prop}{c:Value}{b:Bool}
inductive TyOf (K:WQ)(H:Hp):V->Value->Prop where
 |non:TyOf K H .non (.type "NoneType")
 |bl (x:Bool):TyOf K H (.bl x) (.type "bool")
 |int (i:Int):TyOf K H (.int i) (.type "int")
 |str (x:Str):TyOf K H (.str x) (.type "str")
 |flt (x:UInt64):TyOf K H (.flt x) (.type "float")
 |lst {a:Addr}{xs:gw}(e:H a=aX (.lst xs)):TyOf K H (.ref a) (.type "list")
 |frz {a:Addr}{o:Obj}{xs:gw}(e:H a=aX (.frz o (.lst xs))):TyOf K H (.ref a) (.type "list")
 |tup {a:Addr}{xs:gw}(e:H a=aX (.tup xs)):TyOf K H (.ref a) (.type "tuple")
 |dK {a:Addr}{kvs:List (cA×V)}(e:H a=aX (.dK kvs)):TyOf K H (.ref a) (.type "dict")
 |dT {a:Addr}{kvs:List (List cA×V)}(e:H a=aX (.dT kvs)):TyOf K H (.ref a) (.type "dict")
 |ins {a C dx:Addr}{fs:List (Str×V)}(e:H a=aX (.ins C dx fs))(cl:Cls K C)(ha:a1d K (.ref C) "__class__"=aX (aX (.builtin "object.__class__")))
   (hn:a4x K (.builtin "object.__class__") "__get__"=aX (aX (.builtin "getset_descriptor.__get__"))) (htk:PySem.W.takesIn K (.builtin "object.__class__")=aX b4)
   (hm:PySem.W.mroIn K C (.type "object")=aX b4):TyOf K H (.ref a) (.ref C)
end
structure Room(k:Nat)(A:XC):Prop where
 hd:A.handled=aY
 dp:A.depth+3*k+5<a7E
 un:A.units+16*k+200<YL
theorem Room.deeper{k:Nat}{A:XC}(r:Room (k+1) A)(env:a2v):Room k (A.deeper env):=
 ⟨r.hd,by have:=r.dp;show A.depth+1+3*k+5<_;omega,by have:=r.un;show A.units+3+16*k+200<_;omega⟩
theorem Room.depth{k:Nat}{A:XC}(r:Room k A):A.depth<a7E:=by have:=r.dp;omega
theorem Room.units{k:Nat}{A:XC}(r:Room k A):A.units+64<YL:=by have:=r.un;omega
noncomputable def xI:TA:=λ_ H Q=>Q [] H
noncomputable def BQ(c:TE)(tr:TA):TA:=λσ H Q=>c σ H λx a=>tr σ a λxs b=>Q (x::xs) b
section
variable{X:Cx}{e:Expr}{es:List Expr}{te:TE}{t:TA}{pos:YE}
theorem BR:PA X [] xI:=λ_ _ _ _ H Q I h=>a1z ⟨[],H,I,.nil,h⟩
theorem BS(j:PE X e te)(k:PA X es t)(l:XB (e::es) X.env=(b3,eval e X.env)::XB es X.env:=by rfl):PA X (e::es) (BQ te t):=by intro pos a s b H Q I h;rw[l];show Xk _ _ (spliced ((b3,eval e X.env)::ZI pos (XB es X.env))) _ _ s;refine a1l (aV (j a s b H _ I h) λu q ⟨x,c,g,o,m⟩=>?_);exact aV (k pos a q b c _ g m) λw v ⟨r,d,i,p,n⟩=>⟨x::r,d,i,.cons o p,n⟩
noncomputable def Ks(t:TA):TE:=λσ H Q=>t σ H λxs a=>xs.length<=W8/\∀p,a p=aY->Q (.ref p) (aM a p (.tup xs))
noncomputable def Kt(t:TA):TE:=λσ H Q=>t σ H λxs a=>xs.length<=W8/\∀p,a p=aY->Q (.ref p) (aM a p (.lst xs))
theorem Ku{x1} (h:PA X es t):PE X (.Tuple es x1 pos) (Ks t):=by intro c s m H Q I j;refine wpAny_Tuple_spliced (aV (h pos c s m H _ I j) λk a ⟨l,d,g,r,z,q⟩=>⟨by rw[<- r.length];exact z,?_⟩);have i:d a.heap.objs.size=none:=g.hok.fresh (WY _);refine⟨.ref a.heap.objs.size,aM d a.heap.objs.size (.tup l),g.laid (t':=a.toks) (λb u e=>WW _ e) (WY _) ?_,rfl,q _ i⟩;exact⟨z,k,r,⟨_,W9 _ rfl,rfl,_,rfl,rfl⟩⟩
theorem Kw(h:PA X es t):PE X (.List es pos) (Kt t):=by intro c s m H Q I j;refine wpAny_List_spliced (aV (h pos c s m H _ I j) λk a ⟨l,d,g,r,z,q⟩=>⟨by rw[<- r.length];exact z,?_⟩);have i:d a.heap.objs.size=none:=g.hok.fresh (WY _);refine⟨.ref a.heap.objs.size,aM d a.heap.objs.size (.lst l),g.laid (t':=a.toks) (λb u e=>WW _ e) (WY _) ?_,rfl,q _ i⟩;exact⟨z,k,0,r,W9 _ rfl⟩
end
noncomputable abbrev Sp:=List V->Hp->VK->XK->Prop
noncomputable abbrev j8:=List a2v->Hp->WX->XK->Value->WX->Prop
structure Env0(P:Xw)(w:XF)(K:WQ)(mg:Str->Option Value)(base:Ye)(A:XC)(outer:List a2v)(s:WX)(H:Hp):Prop where
 frames:A.frames=aX outer
 mod:Mod K mg base
 bs:∀b o,base.get? b=aX o->s.heap.get? b=aX o/\H b=aY
 bsz:base.objs.size<=s.heap.objs.size
 funs:s.heap.FunFrames base outer
 frf:∀b∈iR outer,H b=aY
 hok:HOk P w H s.heap
 bare:a2R s.gens
inductive CE (outer:List a2v)(P:Xw)(w:XF)(H:Hp)(s:WX)(Q:VK)(u:Value)(s':WX):Prop
 |mk (v:V)(H':Hp)(o:s'.os=s.os)(b:a2R s'.gens)(n:Un (iR outer) [] H H' s.heap s'.heap)(k:HOk P w H' s'.heap)(r:RelV v u)(q:Q v H'):CE outer P w H s Q u s'
noncomputable def CR(CX:j8)(outer:List a2v)(P:Xw)(w:XF)(H:Hp)(s:WX)(Q:VK)(E:XK)(r:a3Q)(a:WX):Prop:=
 match r with
 |.ok (.ret u)=>CE outer P w H s Q u a|.ok _=>False|.error e=>CX outer H s E e a
structure FnOk(P:Xw)(w:XF)(K:WQ)(mg:Str->Option Value)(base:Ye)(CX:j8)(k:Nat)(f:Addr)(fd:ZC)(ps:List Str)(sp:Sp):Prop where
 len:∀vs H Q E,sp vs H Q E->vs.length=ps.length
 run:∀(A:XC)(outer:List a2v)(s:WX)(H:Hp)(args:Args)(us:gq)(vs:gw)(Q:VK)(E:XK),Room k A->Env0 P w K mg base A outer s H->a3D s fd args (ps.zip us)->Vals vs us->sp vs H Q E->
  a0B (Xv P w) A (.call (.ref f) args) (CR CX outer P w H s Q E) s
section
variable{X:Cx}{a7J:jw}{σ:St}{H:Hp}{s s':WX}
theorem Inv.env0(I:Inv X a7J σ H s):Env0 X.prog X.w X.K X.mg X.base X.A X.stack s H:=
 ⟨I.ok.frames,I.ok.mod,I.bs,Xz I.ok.bsz I.sz,I.stack,I.stkFree,I.hok,I.bare⟩
theorem Inv.after{Q:VK}{u:Value}(I:Inv X a7J σ H s)(h:CE X.stack X.prog X.w H s Q u s'):EP X a7J σ Q u s':=by obtain⟨v,i,k,a,un,c,r,q⟩:=h;obtain⟨j,g,d,t,e⟩:=s';obtain rfl:e=s.os:=k;exact⟨v,i,I.call (h':=j) (g':=g) (d':=d) (t':=t) (ch:=[]) un c a (λb z=>absurd z (by simp)),r,q⟩
end
noncomputable def xJ(sp:Sp)(a:gw)(E:XK)(t:TA):TE:=λσ H Q=>t σ H λvs b=>sp (vs++a) b Q E
noncomputable def Binds(K:WQ)(a:ZC)(ps:List Str)(ds:gq):Prop:=
 ∀(s:WX)(us:gq),K.In s.heap->(us++ds).length=ps.length->a3D s a ⟨us,[]⟩ (ps.zip (us++ds))
theorem Binds.all{K:WQ}{a:ZC}{ps:List Str}(h:∀us:gq,us.length=ps.length->a5T a ⟨us,[]⟩=pure (ps.zip us)):Binds K a ps []:=λs us _ b=>by rw[Yh]at b ⊢;exact .of_eq (h us b)
noncomputable def tG(CX:j8)(X:Cx)(E:XK):Prop:=∀(a7J:jw)(σ:St)(H:Hp)(s:WX)(e:Value)(a:WX),Inv X a7J σ H s->CX X.stack H s E e a->X.xe e a
section
variable{X:Cx}{CX:j8}{k:Nat}{f C:Addr}{fd:ZC}{ps:List Str}{sp:Sp}{dvs:gw}{ds:gq}{E:XK}{x m:Str}{p pos apos:YE}{e o:Expr}{es:List Expr}{ta:TE}{t:TA}
theorem BU{a7J:jw}{σ:St}{H:Hp}{s:WX}{Q:VK}{us:gq}{vs:gw}(F:FnOk X.prog X.w X.K X.mg X.base CX k f fd ps sp)(i:Room k X.A)(d:Binds X.K fd ps ds)(hd:Vals dvs ds)(j:tG CX X E)
  (I:Inv X a7J σ H s)(r:Vals vs us)(h:sp (vs++dvs) H Q E):Xk (Xv X.prog X.w) X.A (call (.ref f) us) (EP X a7J σ Q) X.xe s:=by
 have b:Vals (vs++dvs) (us++ds):=r.append hd;have g:(us++ds).length=ps.length:=by rw[<- b.length];exact F.len _ _ _ _ h
 refine wpAny_call (a3s (F.run X.A X.stack s H ⟨us,[]⟩ (us++ds) (vs++dvs) Q E i I.env0 (d s us I.kIn g) b h) λr l a=>?_);cases r with
 |error e=>exact j a7J σ H s e l I a|ok c=>
  cases c with
  |ret u=>exact I.after a|next=>exact Zf a|brk=>exact Zf a|cont=>exact Zf a
theorem Ky(F:FnOk X.prog X.w X.K X.mg X.base CX k f fd ps sp)(v:Room k X.A)(l:Gl X x)(u:X.mg x=aX (.ref f))(n:YY X.K (.ref f)=b4)(i:Binds X.K fd ps ds)(hd:Vals dvs ds)(w:tG CX X E)
  (g:PA X (e::es) t)(b:(x==("__debug__":Str))=false:=by decide) (j:XB (e::es) X.env=(b3,eval e X.env)::XB es X.env:=by rfl)(c:(ZI pos (XB es X.env)).any (·.1)=false:=by rfl) :
  PE X (.Call (.Name x p) (e::es) [] pos) (xJ sp dvs E t):=by
 intro a s y H Q I h;refine YX (w4 I l u ?_ b);refine PySem.W.callWith_K (h₀:=X.base) I.ok.mod.kin n (aV (g pos a s y H _ I h) λB A ⟨G,z,d,r,q⟩=>⟨d.kIn,?_⟩) j c;exact BU F v i hd w d r q
theorem Kz(F:FnOk X.prog X.w X.K X.mg X.base CX k f fd ps sp)(j:Room k X.A)(d:Gl X x)(i:X.mg x=aX (.ref f))(g:YY X.K (.ref f)=b4)(c:Binds X.K fd ps ds)(hd:Vals dvs ds)(l:tG CX X E)
  (a:(x==("__debug__":Str))=false:=by decide):PE X (.Call (.Name x p) [] [] pos) (xJ sp dvs E xI):=by
 intro b s n H Q I h;refine YX (w4 I d i ?_ a);exact PySem.W.callWith_K0 I.kIn g (BU (us:=[]) F j c hd l I .nil h)
structure Mk(K:WQ)(C f:Addr):Prop where
 makes:PySem.W.makesIn K C=b4
 init:a1d K (.ref C) "__init__"=aX (aX (.ref f))
 fn:a5W K (.ref f)=b4
 kp:YY K (.ref C)=b4
end
noncomputable def PK(X:Cx)(a:List a0g)(t:TA):Prop:=
 ∀(pos:YE)(a7J:jw)(s:WX)(σ:St)(H:Hp)(Q:gw->Hp->Prop),Inv X a7J σ H s->t σ H Q->Xk (Xv X.prog X.w) X.A (evalAll ((a2J pos (a1i a X.env)).map (·.2))) (AP X a7J σ Q) X.xe s
section
variable{X:Cx}{CX:j8}{k:Nat}{f C:Addr}{fd:ZC}{ps ks:List Str}{sp:Sp}{E:XK}{x m:Str}{p pos apos kpos:YE}{e o:Expr}{es:List Expr}{kws:List a0g}{te ta:TE}{t tk:TA}{nm:Option Str}
theorem KA:PK X [] xI:=λ_ _ _ _ H Q I h=>wpAny_evalAll_nil ⟨[],H,I,.nil,h⟩
theorem KG(j:PE X e te)(l:PK X kws t):PK X (⟨nm,e,kpos⟩::kws) (BQ te t):=by intro pos a s b H Q I h;show Xk _ _ (evalAll ((do let v <- eval e X.env;standAt pos;pure v)::(a2J pos (a1i kws X.env)).map (·.2))) _ _ s;refine wpAny_evalAll_cons (WN (aV (j a s b H _ I h) λu y ⟨x,c,g,r,n⟩=>WN (a1X (WV ?_))));exact aV (l pos a y b c _ g n) λB A ⟨z,d,i,w,q⟩=>⟨x::z,d,i,.cons r w,q⟩
structure KBinds(K:WQ)(fd:ZC)(ps ks:List Str)(g:gq->gq->gq)(gV:gw->gw->gw):Prop where
 to:∀(s:WX)(us ws:gq),K.In s.heap->(g us ws).length=ps.length->a3D s fd ⟨us,ks.zip ws⟩ (ps.zip (g us ws))
 rel:∀{vs:gw}{us:gq}{zs:gw}{ws:gq},Vals vs us->Vals zs ws->Vals (gV vs zs) (g us ws)
variable{g:gq->gq->gq}{gV:gw->gw->gw}
end
structure FnScope(N P:List Str)(sc:Zz):Prop where
 kind:sc.kind=.function
 co:sc.isCoroutine=b3
 gen:sc.isGenerator=b3
 nd:N.Nodup
 pre:N.take P.length=P
 par:∀x∈P,sc.names.lookup x=aX .local\/sc.names.lookup x=aX .cell
 nofree:∀y∈sc.names,y.2≠.free
theorem BV{kindOf:Str->Option ZM}{x:Str}:∀{a:List (Str×Value)}{m:Str->Option Value},(∀v,(x,v)∉a)->a4O kindOf a m x=m x
 |[],_,_=>rfl|(n,v)::r,m,h=>by
  unfold a4O;rw[BV λw hw=>h w (Xc _ hw)];split
  ·have:x≠n:=by rintro rfl;exact h v Xf
   simp[this]
  ·rfl
theorem BW{kindOf:Str->Option ZM}{x:Str}:∀{a:List (Str×Value)}{m:Str->Option Value},(∀v,(x,v)∉a)->a4P kindOf a m x=m x
 |[],_,_=>rfl|(n,v)::r,m,h=>by
  unfold a4P;rw[BW λw hw=>h w (Xc _ hw)];split
  ·rfl
  ·have:x≠n:=by rintro rfl;exact h v Xf
   simp[this]
theorem BX{kindOf:Str->Option ZM}{x:Str}{v:Value}:∀{P:List Str}{vs:gq}{i:Nat}{m:Str->Option Value},P.Nodup->P[i]?=aX x->vs[i]?=aX v->kindOf x=aX .local->
  a4O kindOf (P.zip vs) m x=aX v
 |[],_,_,_,_,h,_,_=>by simp at h
 |_::_,[],_,_,_,_,h,_=>by simp at h
 |p::P,w::vs,0,m,nd,h1,h2,hk=>by simp at h1 h2;subst h1;subst h2;show a4O kindOf ((p,w)::P.zip vs) m p=_;unfold a4O;rw[BV λv a=>(XN.mp nd).1 (a3o a).1,if_pos hk];simp
 |p::P,w::vs,i+1,m,nd,h1,h2,hk=>by show a4O kindOf ((p,w)::P.zip vs) m x=_;unfold a4O;exact BX (i:=i) (XN.mp nd).2 (by simpa using h1) (by simpa using h2) hk
theorem BY{kindOf:Str->Option ZM}{x:Str}{v:Value}:∀{P:List Str}{vs:gq}{i:Nat}{m:Str->Option Value},P.Nodup->P[i]?=aX x->vs[i]?=aX v->kindOf x≠aX .local->
  a4P kindOf (P.zip vs) m x=aX v
 |[],_,_,_,_,h,_,_=>by simp at h
 |_::_,[],_,_,_,_,h,_=>by simp at h
 |p::P,w::vs,0,m,nd,h1,h2,hk=>by simp at h1 h2;subst h1;subst h2;show a4P kindOf ((p,w)::P.zip vs) m p=_;unfold a4P;rw[BW λv a=>(XN.mp nd).1 (a3o a).1,if_neg hk];simp
 |p::P,w::vs,i+1,m,nd,h1,h2,hk=>by show a4P kindOf ((p,w)::P.zip vs) m x=_;unfold a4P;exact BY (i:=i) (XN.mp nd).2 (by simpa using h1) (by simpa using h2) hk
noncomputable def start(N:List Str)(vs:gw):St:=vs.map aX++Zc (N.length-vs.length) aY
noncomputable def k0(CX:j8)(P:Xw)(w:XF)(K:WQ)(g:Str->Option Value)(base:Ye)(N:List Str)(a:Str)(scope:Zz)(f:Addr)(c:Value)(A:XC)(outer:List a2v)(s:WX)(H:Hp)(E:XK):Cx where
 prog:=P
 w:=w
 K:=K
 mg:=g
 base:=base
 A:=A.deeper (envOfC a scope s.heap.objs.size f c)
 N:=N
 s₀:=s
 H₀:=H
 env:=envOfC a scope s.heap.objs.size f c
 outer:=outer
 stack:=envOfC a scope s.heap.objs.size f c::outer
 ex:=[]
 calm:=b4
 fn:=λ_=>b4
 pn:=[]
 xe:=λe h=>Xk (Xv P w) (A.deeper (envOfC a scope s.heap.objs.size f c)) (leaving (envOfC a scope s.heap.objs.size f c) e) (λ_ b=>CX outer H s E e b) (λd b=>CX outer H s E d b) h
theorem BZ{sc:Zz}{n:Nat}{x:Str}(h:sc.names.lookup x=aX .cell):∃c,(a6K n sc.names []).lookup x=aX c:=by have q:=a3R sc.names n [] (.inl h);exact Option.isSome_iff_exists.mp q
theorem KH{CX:j8}{P:Xw}{w:XF}{K:WQ}{I:Str->Option Value}{base:Ye}{N ps:List Str}{d:Str}{scope:Zz}{f:Addr}{B:Value}{A:XC}{outer:List a2v}{s s1:WX}{H:Hp}{E:XK}{us:gq}{vs:gw}
  (S:FnScope N ps scope)(hd:A.handled=aY)(j:Env0 P w K I base A outer s H)(T:vs.length=ps.length)(r:Vals vs us)
  (x:InCallC s s.heap.objs.size (a4O (envOfC d scope s.heap.objs.size f B).kindOf (ps.zip us) λ_=>aY) (a6K (s.heap.objs.size+1) scope.names []) (a4P (envOfC d scope s.heap.objs.size f B).kindOf (ps.zip us) λ_=>aY) s1) :
  Inv (k0 CX P w K I base N d scope f B A outer s H E) [] (start N vs) H s1:=by
 have O:ps.length<=N.length:=by have:=congrArg X0 S.pre;rw[Ys]at this;omega
 obtain⟨G,U,rfl,J⟩:=x.done;have m:∀b:Addr,b∉(k0 CX P w K I base N d scope f B A outer s H E).ex:=λb z=>absurd (show b∈([]:List Addr)from z) (by simp);refine⟨⟨j.mod,S.kind,rfl,rfl,WY _,λy z c G g=>?_,λy l=>?_,λy c _ h=>?_,λ_=>hd,Around.frames_deeper j.frames,.inr ⟨rfl,rfl⟩,λb z=>absurd z (m b),j.bs,j.bsz,λb _ _=>m b,λb z=>absurd z (m b),j.funs,j.frf⟩,
  rfl,j.bare,Un.kept J,⟨_,x.toInCall.ns,λi y v G g R=>?_⟩,λy c h=>⟨_,x.cell y c h⟩,j.hok.fresh (WY _),λy c h=>?_,λp n=>absurd (show p∈([]:jw)from n) (by simp),j.hok.kept J,?_⟩
 ·exact name_of_addr x.apart (Yp G) (Yp g)
 ·have l:scope.names.lookup y=aX .cell\/scope.names.lookup y=aX .free:=l;rcases l with l|l
  ·exact BZ l
  ·exact absurd rfl (S.nofree _ (Yp l))
 ·exact ZZ (x.above y c (Yp h))
 ·have hi:i<vs.length:=by
   unfold start at g;by_cases hi:i<vs.length
   ·exact hi
   ·rw[YI (by simpa using hi)]at g;rw[ZQ]at g;split at g<;>cases g
  have M:vs[i]?=aX v:=by
   unfold start at g;rw[XM (by simpa using hi),W6]at g;cases e:vs[i]? with
   |none=>rw[e]at g;cases g|some a=>rw[e]at g;cases g;rfl
  obtain⟨u,L,Q⟩:=r.get M;have n:ps[i]?=aX y:=by rw[<- S.pre,a4g (by omega)];exact G
  have o:ps.Nodup:=by rw[<- S.pre];exact S.nd.sublist (List.take_sublist _ _)
  refine⟨u,Q,?_⟩;rcases S.par y (Xn n)with k|k
  ·exact .inl ⟨k,BX o n L k⟩
  ·obtain⟨c,e⟩:=BZ (n:=s.heap.objs.size+1) k;refine .inr ⟨.inl k,c,e,?_⟩;have q:=x.cell y c e;rw[BY o n L (by show scope.names.lookup y≠_;rw[k];decide)]at q;exact q
 ·exact j.hok.fresh (ZZ (x.above y c (Yp h)))
 ·unfold start;show _=N.length;rw[W4,WO,Zw];omega
theorem KI{CX:j8}{P:Xw}{w:XF}{K:WQ}{B:Str->Option Value}{base:Ye}{k:Nat}{f:Addr}{name a:Str}{d:Arguments}{body:List Stmt}{scope:Zz}{Y kV m Z c ct oc:Value}{an od:Option Addr}
  {O:Array (Option Value)}{N ps:List Str}{sp:Sp}(lk:K.lookup f=aX ⟨oc,od,.func (YZ name a d body scope Y kV m Z an c ct),O⟩)(G:a1Z K c a=b4)(S:FnScope N ps scope)
  (len:∀vs H Q E,sp vs H Q E->vs.length=ps.length)
  (i:∀(A:XC)(outer:List a2v)(s:WX)(H:Hp)(vs:gw)(Q:VK)(E:XK),Room k (A.deeper (envOfC a scope s.heap.objs.size f c))->sp vs H Q E->
   ∃t,PSs (k0 CX P w K B base N a scope f c A outer s H E) body t/\t {nx:=λ_ h=>Q .non h,rt:=Q} (start N vs) H) :
  FnOk P w K B base CX (k+1) f (YZ name a d body scope Y kV m Z an c ct) ps sp:=by
 refine⟨len,λA outer s H X us vs Q E L p hb r z=>?_⟩;have hl:=len _ _ _ _ z;have U:K.In s.heap:=p.mod.kin.keeps λb o e=>(p.bs b o e).1;have M:s.heap.NoLimit:=p.mod.nolimit.keeps λb o e=>(p.bs b o e).1;have j:∀y∈ps.zip us,scope.names.lookup y.1=aX .local\/(scope.names.lookup y.1=aX .cell/\((a6K (s.heap.objs.size+1) scope.names []).lookup y.1).isSome=b4):=λ⟨n,v⟩ hy=>by
  rcases S.par n (a3o hy).1 with q|q
  ·exact .inl q
  ·exact .inr ⟨q,a3R _ _ _ (.inl q)⟩
 refine codeAny_call_function L.depth (U _ _ lk) rfl S.co S.gen rfl (PySem.W.codeRec_of U G) (hb _ _ _ _ ?_);refine wpAny_newFunctionEnv_cells S.kind j λenv he s1 x=>?_;subst he;refine⟨M.keeps x.toInCall.keep,codeAny_func ?_⟩;obtain⟨t,ht,hq⟩:=i A outer s H vs Q E (L.deeper _) z;have I:Inv (k0 CX P w K B base N a scope f c A outer s H E) [] (start N vs) H s1:=KH S L.hd p hl r x;refine Ym (ht [] s1 (start N vs) H _ I hq) (λfl T l=>?_) λe T l=>l;have fin:∀{g:St}{h:Hp}{v:V}{u:Value},Inv (k0 CX P w K B base N a scope f c A outer s H E) [] g h T->RelV v u->Q v h->CE outer P w H s Q u T:=
  λ{g h v u} J R q=>⟨v,h,J.os,J.bare,J.base,J.hok,R,q⟩
 cases fl with
 |ret u=>obtain⟨v,g,h,J,R,q⟩:=l;exact fin J R q|next=>obtain⟨g,h,J,q⟩:=l;exact fin (v:=V.non) (u:=X5) J rfl q|brk=>obtain⟨_,_,_,q⟩:=l;exact Zf q|cont=>obtain⟨_,_,_,q⟩:=l;exact Zf q
section
variable{X:Cx}{x:Str}{p pos:YE}{e:Expr}{es:List Expr}{t:TA}{id T:String}{r:gw->Hp->VK->Prop}
noncomputable def tH(r:gw->Hp->VK->Prop)(t:TA):TE:=λσ H Q=>t σ H λvs a=>r vs a Q
theorem KJ(hc:CallR X (.builtin id) r)(l:Gl X x)(m:X.mg x=aY)(o:YN x=aX (.builtin id))(j:PA X (e::es) t)(n:x ≠ "__name__":=by decide) (b:(x==("__debug__":Str))=false:=by decide)
  (k:XB (e::es) X.env=(b3,eval e X.env)::XB es X.env:=by rfl)(c:(ZI pos (XB es X.env)).any (·.1)=false:=by rfl):PE X (.Call (.Name x p) (e::es) [] pos) (tH r t):=by
 intro a s d H Q I h;refine YX (iS I l m o ?_ n b);exact a2f (aV (j pos a s d H _ I h) λw v ⟨y,g,i,u,q⟩=>hc a v d g y w Q i u q) k c
theorem KL(hc:CallR X (.type T) r)(l:Gl X x)(m:X.mg x=aY)(o:YN x=aX (.type T))(j:PA X (e::es) t)(n:x ≠ "__name__":=by decide) (b:(x==("__debug__":Str))=false:=by decide)
  (k:XB (e::es) X.env=(b3,eval e X.env)::XB es X.env:=by rfl)(c:(ZI pos (XB es X.env)).any (·.1)=false:=by rfl):PE X (.Call (.Name x p) (e::es) [] pos) (tH r t):=by
 intro a s d H Q I h;refine YX (iS I l m o ?_ n b);exact Yz (aV (j pos a s d H _ I h) λw v ⟨y,g,i,u,q⟩=>hc a v d g y w Q i u q) k c
end
section
variable{κ:Type} [DecidableEq κ]
theorem RelO.isSome_eq{o:Option V}{u:Option Value}(r:RelO o u):o.isSome=u.isSome:=by
 cases o with
 |none=>cases u with
  |none=>rfl|some _=>exact(show False from r).elim
 |some _=>cases u with
  |none=>exact(show False from r).elim|some _=>rfl
theorem RelO.getD{o:Option V}{u:Option Value}{d:V}{d':Value}(r:RelO o u)(a:RelV d d'):RelV (o.getD d) (u.getD d'):=by
 cases o with
 |none=>cases u with
  |none=>exact a|some _=>exact(show False from r).elim
 |some _=>cases u with
  |none=>exact(show False from r).elim|some _=>exact r
theorem KV.length{kvs:List (κ×V)}{vs:List (κ×Value)}(r:KV kvs vs):kvs.length=vs.length:=a3H r
end
section
variable{P:Xw}{w:XF}{H:Hp}{h:Ye}{a:Addr}
end
section
variable{X:Cx}{a7J:jw}{σ:St}{H:Hp}{s:WX}{a:Addr}{y v:V}{u r:Value}{o:Option V}{A:XC}{E:Value->WX->Prop}
theorem Inv.big(I:Inv X a7J σ H s):YG<s.heap.objs.size:=by have h:YF<s.heap.objs.size:=(I.mod.glob.keeps I.bk).lt;exact a1j (by decide) h
theorem xK{h':Ye}{t':Nat}{c:HO}(I:Inv X a7J σ H s)(h:qP (H a))(g:YK a s.heap h')(e:∃q,h'.get? a=aX q)(new:ObjOk X.prog X.w (aM H a c) h' a c) :
  Inv X a7J σ (aM H a c) {s with heap:=h',toks:=t'}:=
 I.write (x:=a) (e:=a) h (.inl rfl) (λb q d z=>(g.2 b d).trans z) e new
end
section
variable{X:Cx}{a7J:jw}{σ:St}{H:Hp}{s:WX}{a:Addr}{kvs:List (cA×V)}{k:cA}{u:Value}{A:XC}{E:Value->WX->Prop}
end
noncomputable def B2(i:Expr):Prop:=∀b a,a3Y i b3 b a=operate [b,a] (a5d b a)
theorem KN{prog:Xw}{w:XF}{A:XC}{E:Value->WX->Prop}{s:WX}{env:a2v}{b a:Expr}{pos:YE}{T id:String}{Q:Value->WX->Prop}
  (m:a6m (.type T) "__getitem__"=pure (aX (.builtin id))) (n:B2 a)
  (h:Xk (Xv prog w) A (eval b env) (λo e=>Xk (Xv prog w) A (eval a env) (λi c=>c.TypeIs o T/\Xk (Xv prog w) A (a5d o i) Q E c) E e) E s) :
  Xk (Xv prog w) A (eval (.Subscript b a pos) env) Q E s:=by
 refine Subscript_ (Ym h (λo e j=>Ym j (λi c d=>?_) λ_ _ x=>x) λ_ _ x=>x);obtain⟨l,d⟩:=d;unfold subscriptTail;refine WN ?_;rw[getitemInPython_of_ne l.not_modules];refine WN (a2p l m ?_);have fin:Xk (Xv prog w) A (a3Y a b3 o i) (λr g=>Xk (Xv prog w) A (letTemporaryGo b o r >>= λ_=>pure r) Q E g) E c:=by rw[n o i];exact wpAny_operating (Ym d (λr g k=>WN (wpAny_letTemporaryGo (WV k))) λ_ _ x=>x)
 first
  |exact WV (WN fin)|exact WN (WV (WN fin))|exact WN fin
section
variable{X:Cx}{o i e value:Expr}{pos pos' tpos:YE}{td ty tv:TE}
end
section
variable{X:Cx}{pos:YE}
end
noncomputable def B3:List (TE×TE)->St->Hp->(List (V×V)->Hp->Prop)->Prop
 |[],_,H,Q=>Q [] H|(tk,tv)::r,σ,H,Q=>tk σ H λx a=>tv σ a λy b=>B3 r σ b λd c=>Q ((x,y)::d) c
noncomputable abbrev VV:List (V×V)->List (Value×Value)->Prop:=a1M λp q=>RelV p.1 q.1/\RelV p.2 q.2
noncomputable def KO(X:Cx)(pos:YE)(keys:List (Option Expr))(a:List Expr)(b:List (TE×TE)):Prop:=
 ∀(a7J:jw)(s:WX)(σ:St)(H:Hp)(Q:List (V×V)->Hp->Prop),Inv X a7J σ H s->B3 b σ H Q->
  Xk (Xv X.prog X.w) X.A (evalPairs (pairTrees keys a X.env pos)) (λg e=>∃d c,Inv X a7J σ c e/\VV d g/\Q d c) X.xe s
structure M1(X:Cx)(o:Expr)(m:Str)(apos:YE)(e:Expr)(cpos:YE):Prop where
 base:ZR o m X.env (eval o X.env)=eval o X.env
 few:((ZI cpos (XB [e] X.env)).all (λx=>!x.1)&&(a2J cpos (a1i [] X.env)).all (λx=>x.1.isSome)
  && decide (([e]:List Expr).length+([]:List a0g).length+(if([]:List a0g).isEmpty then 0 else 1)<30))=b4
 line:(apos.endLine==cpos.line)=b4
 trees:ZI cpos (XB [e] X.env)=[(b3,eval e X.env)]
structure M2(X:Cx)(o:Expr)(m:Str)(apos:YE)(e f:Expr)(cpos:YE):Prop where
 base:ZR o m X.env (eval o X.env)=eval o X.env
 few:((ZI cpos (XB [e,f] X.env)).all (λx=>!x.1)&&(a2J cpos (a1i [] X.env)).all (λx=>x.1.isSome)
  && decide (([e,f]:List Expr).length+([]:List a0g).length+(if([]:List a0g).isEmpty then 0 else 1)<30))=b4
 line:(apos.endLine==cpos.line)=b4
 trees:ZI cpos (XB [e,f] X.env)=[(b3,eval e X.env),(b3,eval f X.env)]
noncomputable def IsD(H:Hp)(a:Addr):Prop:=(∃kvs,Rd H a (.dK kvs))\/∃kvs,Rd H a (.dT kvs)
section
variable{X:Cx}{a7J:jw}{σ:St}{H:Hp}{s:WX}{a:Addr}{y d:V}{u r:Value}{o:Option V}{A:XC}{E:Value->WX->Prop}
end
section
variable{X:Cx}{o e f:Expr}{apos cpos:YE}{td ty tx:TE}
end
section
variable{X:Cx}{a7J:jw}{σ:St}{H:Hp}{s:WX}{a:Addr}{kvs:List (cA×V)}{A:XC}{E:Value->WX->Prop}
end
section
variable{X:Cx}{a7J:jw}{σ:St}{H:Hp}{s:WX}{a:Addr}{y:V}{u:Value}{A:XC}{E:Value->WX->Prop}
end
end L2
namespace HT
open PySem PyProof.Rows
noncomputable def lexLt:List Int->List Int->Bool
 |[],[]=>b3|[],_::_=>b4|_::_,[]=>b3|x::xs,y::ys=>if x=y then lexLt xs ys else decide (x<y)
theorem lexLt_cons(x y:Int)(xs a:List Int):lexLt (x::xs) (y::a)=if x=y then lexLt xs a else decide (x<y):=rfl
theorem KP:lexLt [] []=false:=rfl
theorem KQ(y:Int)(a:List Int):lexLt [] (y::a)=true:=rfl
theorem KR(x:Int)(xs:List Int):lexLt (x::xs) []=false:=rfl
theorem KS(A:XC)(s:WX)(a:Int)(t:a7H)(c:Int)(u:a7H):∃e,a3u A s (.int a t) (.int c u) e/\(e=b4↔a=c):=
 ⟨(a==c),a4b a t c u,by simp⟩
theorem KU(A:XC)(s:WX)(a:Int)(t:a7H)(c:Int)(u:a7H)(prog:Xw)(w:XF)(E:Value->WX->Prop)(Q:Value->WX->Prop)(h:Q (.bool (decide (a<c))) s) :
  Xk (Xv prog w) A (a2H .Lt (.int a t) (.int c u)) Q E s:=
 (a3z h:Xk (Xv prog w) A (Yv .Lt (.int a t) (.int c u)) Q E s)
section
open PySem.SeqAt
open PySem.AutoSeq1 (wpAny_loadPart')
open PySem.MeetsSeq PySem.MeetsSeq2 PySem.MeetsSeq3
theorem KW(l b:Addr)(items i:Array Value)(n n2:Nat)(X M:Option Addr)(sl Q:Array (Option Value))(ns J:List Int)(hi:ZU items.toList ns)(T:ZU i.toList J) :
  Meets (Builtin.«tuple.__lt__» ⟨[.ref l,.ref b],[]⟩)
   (λ_ R s=>s.heap.get? l=aX {cls:=.type "tuple",dict:=X,data:=.seq items n,slots:=sl}/\s.heap.get? b=aX {cls:=.type "tuple",dict:=M,data:=.seq i n2,slots:=Q} /\
    R (.ok (.ret (.bool (lexLt ns J)))) s):=
 .of_wp λz w A R s h=>by
  obtain⟨I,g,d,L,K⟩:=s;obtain⟨hl,Y,h⟩:=h;have f2:=AutoSeq1.sub_tuple_tuple;have z1:items.size=ns.length:=by rw[<- hi.length];simp
  have z2:i.size=J.length:=by rw[<- T.length];simp
  wp_walk using a6W hl,a6W Y,wpAny_forIn_list _ (λb6 b O=>b.1=aY/\O=⟨I,g,d,L,K⟩/\∃(vs ws:gq)(m k:List Int),b6=vs.zip ws /\
   ZU vs m/\ZU ws k/\m.length+i.size=k.length+items.size/\R (.ok (.ret (.bool (lexLt m k)))) ⟨I,g,d,L,K⟩) _
  case turn=>
   rintro⟨y,x⟩ b6 b O ⟨B,rfl,vs,ws,m,k,p,E,o,j,r⟩;cases E with
   |nil=>rw[List.zip_nil_left]at p;cases p|cons a t G=>
    cases o with
    |nil=>rw[List.zip_nil_right]at p;cases p|cons c u H=>
     rw[a4S]at p;injection p with hyx hrest;injection hyx with hy hx;subst hy hx;rw[lexLt_cons]at r;simp only[Xy]at j;obtain⟨e,Z,v⟩:=KS A.in1 ⟨I,g,d,L,K⟩ a t c u;refine WN (Z z w _ _ ?_);cases e with
     |true=>rw[if_pos (v.mp rfl)]at r;wp_walk;exact⟨rfl,rfl,_,_,_,_,hrest,G,H,by omega,r⟩|false=>rw[if_neg (λq=>absurd (v.mpr q) Xo)]at r;have N:=KU A.in1 ⟨I,g,d,L,K⟩ a t c u z w;wp_walk using N;exact⟨_,rfl,by simpa using r⟩
  case fin=>
   rintro⟨b1,b2⟩ O ⟨B,rfl,vs,ws,m,k,p,E,o,j,r⟩;simp only at B;subst B;have U:lexLt m k=decide (items.size<i.size):=by
    cases E with
    |nil=>
     cases o with
     |nil=>simp only[a0X]at j;rw[KP];exact(decide_eq_false (by omega)).symm|cons c u hw=>simp only[a0X,Xy]at j;rw[KQ];exact(decide_eq_true (by omega)).symm
    |cons a t U=>
     cases o with
     |nil=>simp only[a0X,Xy]at j;rw[KR];exact(decide_eq_false (by omega)).symm|cons c u hw=>rw[a4S]at p;cases p
   rw[U]at r;wp_walk;exact⟨_,rfl,by simpa[a6U]using r⟩
  case h=>exact⟨rfl,rfl,items.toList,i.toList,ns,J,rfl,hi,T,by omega,h⟩
end
section
variable{prog:Xw}{w:XF}{A:XC}{E:Value->WX->Prop}{s:WX}
theorem lt_tupInts{l b:Addr}{items a:Array Value}{ns g:List Int}{Q:Value->WX->Prop}(v:a3B s.heap l items)(r:a3B s.heap b a)(hi:ZU items.toList ns)(u:ZU a.toList g)
  (y:A.units<YL)(h:Q (.bool (lexLt ns g)) s):Xk (Xv prog w) A (Yv .Lt (.ref l) (.ref b)) Q E s:=by
 obtain⟨⟨cls,q,o,B⟩,p,hc,n,hd⟩:=id v;obtain⟨⟨m,j,i,k⟩,e,c,z,d⟩:=id r;simp only at hc hd c d;subst hc hd c d;exact richCompare_meets_room (op:=.Lt) ⟨_,p,rfl⟩ ⟨_,e,rfl⟩ PySem.F.slot_tuple_lt PySem.F.entry_tuple_lt (PySem.F.args_tuple_lt_2 _ _) (KW l b items a n z q j B k ns g hi u)
  ⟨p,e,show Y0 (lexLt ns g)≠Value.notImplemented/\Q (.bool (lexLt ns g)) s from⟨(λx=>nomatch x),h⟩⟩ y
theorem cat_tup{t b:Addr}{vs ws:gq}{Q:Value->WX->Prop}(v:a3B s.heap t vs.toArray)(u:a3B s.heap b ws.toArray)(o:vs≠[])
  (h1:ws=[]->Q (.ref t) s)(r:ws≠[]->Q (.ref s.heap.objs.size) {s with heap:=s.heap.push {cls:=.type "tuple",data:=.seq (vs++ws).toArray}})
  (hsz:vs.length+ws.length<=W8):Xk (Xv prog w) A (ZX .Add (.ref t) (.ref b)) Q E s:=by
 obtain⟨⟨cls,m,l,q⟩,i,hc,n,hd⟩:=id v;obtain⟨⟨k,c,j,h⟩,a,d,p,g⟩:=id u;simp only at hc hd d g;subst hc hd d g;have e:vs.toArray++ws.toArray=(vs++ws).toArray:=by simp
 by_cases hw:ws=[]
 ·exact concat_meets ⟨_,i,rfl⟩ ⟨_,a,rfl⟩ a6I seq_tuple_add a3S a3G (a3y _ _)
   (tuple_addW1 t b vs.toArray ws.toArray n p m c q h (by simpa using o) (by simp[hw])) ⟨i,a,h1 hw⟩
 ·refine concat_meets ⟨_,i,rfl⟩ ⟨_,a,rfl⟩ a6I seq_tuple_add a3S a3G (a3y _ _)
   (tuple_addW2 t b vs.toArray ws.toArray n p m c q h (by simpa using o) (by simpa using hw) (by rw[Xb,Xb];exact hsz)) ⟨i,a,?_⟩
  rw[e];exact r hw
end
end HT
namespace L2
open PySem PySem.Spec PyProof.Rows
noncomputable abbrev TO:=St->Hp->(Option Int->Hp->Prop)->Prop
noncomputable def PO(X:Cx)(e:Option Expr)(t:TO):Prop:=
 ∀(a7J:jw)(s:WX)(σ:St)(H:Hp)(Q:Option Int->Hp->Prop),Inv X a7J σ H s->t σ H Q->
  Xk (Xv X.prog X.w) X.A (evalPart e X.env) (λu b=>∃o a,Inv X a7J σ a b/\IsPart u o/\Q o a) X.xe s
theorem tI{ns:List Int}:∀{us:gq},Vals (ns.map V.int) us->ZU us ns:=by
 induction ns with
 |nil=>intro us r;rw[ZT]at r;cases r;exact .nil|cons n ns a=>
  intro us r;rw[Xa]at r;cases r with
  |cons b c=>obtain⟨t,e⟩:=b;subst e;exact .cons n t (a c)
section
variable{X:Cx}{e:Expr}{te:TE}{lo hi:Option Expr}{tl th:TO}{pos p2:YE}
noncomputable def B4(K:WQ):R2:=λx y H Q=>∃a b xs c,x=.ref a/\y=.ref b/\SqT K H a xs/\SqT K H b c/\xs≠[]/\xs.length+c.length<=W8 /\
 (c=[]->Q (.ref a) H)/\(c≠[]->∀p,H p=aY->Q (.ref p) (aM H p (.tup (xs++c))))
theorem Vals.nil_iff{xs:gw}{us:gq}(r:Vals xs us):us=[]↔xs=[]:=by
 cases r with
 |nil=>simp|cons _ _=>simp
theorem KY:OpR X (ZX .Add) (B4 X.K):=by intro j s K H x y v u Q I A B h;obtain⟨a,b,E,G,rfl,rfl,k,l,m,g,p,r⟩:=h;cases A;cases B;obtain⟨n,d,o,_⟩:=I.tuple k;obtain⟨i,c,p2,_⟩:=I.tuple l;refine HT.cat_tup o p2 (λz=>m (d.nil_iff.mp z)) (λz=>⟨.ref a,H,I,rfl,p (c.nil_iff.mp z)⟩) (λz=>?_) (by rw[<- d.length,<- c.length];exact g);refine⟨.ref s.heap.objs.size,_,I.laid (t':=s.toks) (o:=.tup (E++G)) (λb J q=>WW _ q) (WY _) ?_,rfl,r (λw=>z (c.nil_iff.mpr w)) _ (I.hok.fresh (WY _))⟩;exact⟨by rw[W4];exact g,_,d.append c,TupN.new _ _⟩
end
noncomputable def iU(n:Nat)(i:Int):Option Nat:=if 0<=i then(if i<n then aX i.toNat else aY)else if -(n:Int)<=i then aX (i+n).toNat else aY
noncomputable def atI{a:Type}(xs:List a)(i:Int):Option a:=(iU xs.length i).bind λj=>xs[j]?
theorem B5{n:Nat}{i:Int}{j:Nat}(h:iU n i=aX j):a3M i n=aX j/\j<n/\-(n:Int)<=i/\i<n:=by
 unfold iU at h;by_cases b:0<=i
 ·rw[if_pos b]at h;by_cases a:i<n
  ·rw[if_pos a]at h;have e:i.toNat=j:=Xg h;exact⟨by rw[a5N b a,e],by omega,by omega,a⟩
  ·rw[if_neg a]at h;cases h
 ·rw[if_neg b]at h;by_cases a:-(n:Int)<=i
  ·rw[if_pos a]at h;have e:(i+n).toNat=j:=Xg h;exact⟨by rw[a5a (by omega) a,e],by omega,a,by omega⟩
  ·rw[if_neg a]at h;cases h
theorem xM{a:Type}{xs:List a}{i:Int}{v:a}(h:atI xs i=aX v):∃j,a3M i xs.length=aX j/\xs[j]?=aX v/\j<xs.length/\-(xs.length:Int)<=i/\i<xs.length:=by
 unfold atI at h;cases e:iU xs.length i with
 |none=>rw[e]at h;cases h|some j=>rw[e]at h;obtain⟨b,c,d,g⟩:=B5 e;exact⟨j,b,h,c,d,g⟩
noncomputable def xN(b:Expr):Prop:=∀o i,a3Y b b3 o i=operate [o,i] (a5d o i)
noncomputable def IxR(X:Cx)(r:R2):Prop:=
 ∀(b a:Expr)(a7J:jw)(s:WX)(σ:St)(H:Hp)(x y:V)(v u:Value)(Q:VK),Inv X a7J σ H s->RelV x v->RelV y u->r x y H Q->
  a3Y a b3 v u=operate [v,u] (a5d v u)->Xk (Xv X.prog X.w) X.A (subscriptTail b a v u) (EP X a7J σ Q) X.xe s
noncomputable def B6(X:Cx)(id:String)(r:V->gw->Hp->VK->Prop):Prop:=
 ∀(a7J:jw)(s:WX)(σ:St)(H:Hp)(x:V)(xs:gw)(v:Value)(us:gq)(Q:VK),Inv X a7J σ H s->RelV x v->Vals xs us->r x xs H Q->
  Xk (Xv X.prog X.w) X.A (call (.builtin id) (v::us)) (EP X a7J σ Q) X.xe s
section
variable{X:Cx}{a b:Expr}{ta tb:TE}{pos:YE}
theorem IxR.or{r i:R2}(h:IxR X r)(h':IxR X i):IxR X (λx y H Q=>r x y H Q\/i x y H Q):=by
 intro d c e s l H x y v u Q I j k q g;rcases q with q|q
 ·exact h d c e s l H x y v u Q I j k q g
 ·exact h' d c e s l H x y v u Q I j k q g
theorem KZ{r:R2}(j:IxR X r)(g:PE X a ta)(i:PE X b tb)(k:xN b):PE X (.Subscript a b pos) (qU r ta tb):=by intro c s o H Q I h;exact Subscript_ (xB g i I h λv u n x y d e l m q=>j a b c n o d x y v u Q e l m q (k _ _))
noncomputable def B7(K:WQ):R2:=λx y H Q=>∃p xs i v,x=.ref p/\y=.int i/\SqL K H p xs/\atI xs i=aX v/\Q v H
noncomputable def B8(K:WQ):R2:=λx y H Q=>∃p xs i v,x=.ref p/\y=.int i/\SqT K H p xs/\atI xs i=aX v/\Q v H
noncomputable def B9:R2:=λx y H Q=>∃z i c,x=.str z/\y=.int i/\z.length<=W8/\atI z.cps.toList i=aX c/\Q (.str ⟨#[c]⟩) H
theorem ix_list:IxR X (B7 X.K):=by
 intro n m c s E H x y v u Q I O R h B;obtain⟨p,xs,i,z,rfl,rfl,N,L,q⟩:=h;cases O;obtain⟨t,rfl⟩:=R;obtain⟨g,r,k,Z⟩:=I.list N;obtain⟨j,d,G,U,J,K⟩:=xM L;obtain⟨w,o,l⟩:=r.get G;have M:=r.length;have Y:=nJ;have fin:EP X c E Q w s:=⟨z,H,I,l,q⟩;by_cases A:0<=i
 ·have e:i.toNat=j:=by rw[a5N A K]at d;exact Xg d
  exact item_listR k.isList A (by omega) (by rw[e];simpa using o) fin B
 ·have e:(i+(g.toArray.size:Int)).toNat=j:=by rw[a5a (by omega) J]at d;rw[Xb,<- M];exact Xg d
  exact a4Z (x:=w) k.isList.typeIs slot_list_getitem.lookup
   (wpAny_getItem_list_neg (Q:=λr T=>r=w/\EP X c E Q r T) k.isList (by omega) (by rw[Xb]<;>omega) (by omega) (by rw[e];simpa using o) ⟨rfl,fin⟩) B
theorem ix_tup:IxR X (B8 X.K):=by
 intro g e c s l H x y v u Q I K L h G;obtain⟨p,Y,i,z,rfl,rfl,E,A,q⟩:=h;cases K;obtain⟨t,rfl⟩:=L;obtain⟨J,r,k,U⟩:=I.tuple E;obtain⟨j,n,o,N,O,R⟩:=xM A;obtain⟨w,m,d⟩:=r.get o;have B:=r.length;have T:=nJ;have fin:EP X c l Q w s:=⟨z,H,I,d,q⟩;exact a4Z (x:=w) k.typeIs slot_tuple_getitem.lookup
  (getItem_tuple (j:=j) (Q:=λr M=>r=w/\EP X c l Q r M) k (by omega) (by omega) (by rw[Xb,<- B];exact n) (by simpa using m) ⟨rfl,fin⟩) G
theorem K0:IxR X B9:=by
 intro e d k s M H x y v u Q I B E h A
 obtain ⟨z,i,c,rfl,rfl,K,r,q⟩:=h
 obtain ⟨t,rfl⟩:=B
 obtain ⟨L,rfl⟩:=E
 obtain ⟨j,g,n,G,o,p⟩:=xM r
 have w:z.cps.toList.length=z.length:=by simp [Str.length]
 rw [w] at g o p
 have J:=nJ
 exact tail_any (typeIs_str s z t) slot_str_getitem.lookup (getItem_str (c:=c) (by
  have l:decide (i < -(2 ^ 63:Int))=false:=decide_eq_false (by omega)
  have m:decide (i >= 2 ^ 63)=false:=decide_eq_false (by omega)
  rw [l,m,a2z]) (by rw [g];simpa using n) ⟨.str ⟨#[c]⟩,H,I.tok _,⟨_,rfl⟩,q⟩) A
noncomputable def Ca (K:WQ):R2:=fun x y H Q=>B7 K x y H Q\/B8 K x y H Q\/B9 x y H Q
theorem K1:IxR X (Ca X.K):=ix_list.or (ix_tup.or K0)
theorem K2(its:gq)(n j:Nat)(u:Value):Yi (·.setIfInBounds j u) {cls:=.type "list",data:=.seq its.toArray n}={cls:=.type "list",data:=.seq (its.set j u).toArray n}:=by simp[Yi]
theorem Inv.lst{a7J:jw}{σ:St}{H:Hp}{s:WX}{p:Addr}{xs:gw}(I:Inv X a7J σ H s)(h:H p=aX (.lst xs)) :
  ∃(its:gq)(n:Nat),Vals xs its/\s.heap.get? p=aX {cls:=.type "list",data:=.seq its.toArray n}/\xs.length<=W8:=by
 obtain⟨z,its,n,r,e⟩:=I.hok p _ h;exact⟨its,n,r,e,z⟩
theorem Inv.lstUpd{a7J:jw}{σ:St}{H:Hp}{s:WX}{p:Addr}{xs d:gw}{its its':gq}{n c:Nat}{f:Obj->Obj}(I:Inv X a7J σ H s)(h:H p=aX (.lst xs))
  (j:s.heap.get? p=aX {cls:=.type "list",data:=.seq its.toArray n}) (g:f {cls:=.type "list",data:=.seq its.toArray n}={cls:=.type "list",data:=.seq its'.toArray c}) (r:Vals d its')(hz:d.length<=W8)(t:Nat) :
  Inv X a7J σ (aM H p (.lst d)) {s with heap:=s.heap.update p f,toks:=t}:=by
 have e:(s.heap.update p f).get? p=aX {cls:=.type "list",data:=.seq its'.toArray c}:=by rw[Yq f j (by rw[g]<;>rfl),g]
 refine I.write (x:=p) (e:=p) (by rw[h];trivial) (.inl rfl) (λb u i q=>(Yl _ _ (XI i)).trans q) ⟨_,e⟩ ?_;exact⟨hz,its',c,r,e⟩
noncomputable def Cb:V->V->V->Hp->(Hp->Prop)->Prop:=λo i v H Q=>∃p xs k j,o=.ref p/\i=.int k/\H p=aX (.lst xs)/\iU xs.length k=aX j/\Q (aM H p (.lst (xs.set j v)))
theorem K3:JN X Cb:=by
 intro e s M H o i v T R u Q I J G K h;obtain⟨p,L,k,j,rfl,rfl,A,B,q⟩:=h;cases J;obtain⟨t,rfl⟩:=G;obtain⟨c,n,r,m,E⟩:=I.lst A;obtain⟨d,N,y,z⟩:=B5 B;have l:=r.length;have O:=nJ;have w:Inv X e M (aM H p (.lst (L.set j v))) {s with heap:=s.heap.update p (Yi (·.setIfInBounds j u))}:=
  I.lstUpd A m (K2 c n j u) (r.set K j) (by rw[XO];exact E) s.toks
 by_cases x:0<=k
 ·have g:k.toNat=j:=by rw[a5N x z]at d;exact Xg d
  exact PySem.W.ki_setAt m x (by omega) (by rw[Xb,<- l];exact z) (by rw[g];exact⟨_,w,q⟩)
 ·have g:(k+(c.toArray.size:Int)).toNat=j:=by rw[a5a (by omega) y]at d;rw[Xb,<- l];exact Xg d
  exact PySem.W.ki_setBack m (by omega) (by rw[Xb,<- l];exact y) (by omega) (by rw[g];exact⟨_,w,q⟩)
theorem Cd:OpR X (Yv .NotIn) (λx y H Q=>∃i j,x=.str i/\y=.str j/\Q (.bl (!(!(YC j i 0 j.length 1).isEmpty))) H):=by intro c s k H x y v u Q I d e h;obtain⟨i,j,rfl,rfl,q⟩:=h;obtain⟨t,rfl⟩:=d;obtain⟨g,rfl⟩:=e;exact notIn_str ⟨.bl _,H,I,rfl,q⟩
theorem call_len_seq:CallR X (.builtin "len") (λxs H Q=>∃p d,xs=[.ref p]/\(SqL X.K H p d\/SqT X.K H p d)/\Q (.int d.length) H):=by
 intro k s v H xs o Q I r h;obtain⟨p,d,rfl,e,q⟩:=h;obtain⟨u,rfl,m⟩:=fA r;cases m;have n:=nJ;rcases e with e|e
 ·obtain⟨g,j,i,l⟩:=I.list e;have c:=j.length;exact Calls.call_len_list i.isList (by simp only[Xb]<;>omega) ⟨.int d.length,H,I.tok _,⟨s.toks+1,by rw[Xb,c]⟩,q⟩
 ·obtain⟨g,j,i,l⟩:=I.tuple e;have c:=j.length;exact len_tuple i (by simp only[Xb]<;>omega) ⟨.int d.length,H,I.tok _,⟨s.toks+1,by rw[Xb,c]⟩,q⟩
theorem K5:CallR X (.builtin "len") (λxs H Q=>∃z,xs=[.str z]/\z.length<=W8/\Q (.int z.length) H):=by intro c s i H xs g Q I r h;obtain⟨z,rfl,e,q⟩:=h;obtain⟨u,rfl,t,rfl⟩:=fA r;have d:=nJ;exact len_str (by omega) ⟨.int z.length,H,I.tok _,⟨_,rfl⟩,q⟩
theorem CallR.or{f:Value}{r d:gw->Hp->VK->Prop}(h:CallR X f r)(h':CallR X f d):CallR X f (λxs H Q=>r xs H Q\/d xs H Q):=by
 intro c s i H xs g Q I e q;rcases q with q|q
 ·exact h c s i H xs g Q I e q
 ·exact h' c s i H xs g Q I e q
theorem call_list_of:CallR X (.type "list") (λxs H Q=>∃p d,xs=[.ref p]/\(SqL X.K H p d\/SqT X.K H p d)/\∀l,H l=aY->Q (.ref l) (aM H l (.lst d))):=by
 intro m s z H xs A Q I r h;obtain⟨p,d,rfl,i,q⟩:=h;obtain⟨u,rfl,y⟩:=fA r;cases y;have fin:∀(its:gq),Vals d its->d.length<=W8->∀(h':Ye)(c':Nat),(∀b x,s.heap.get? b=aX x->h'.get? b=aX x)->
   h'.get? s.heap.objs.size=aX {cls:=.type "list",dict:=aY,data:=.seq its.toArray c',slots:=#[]}->EP X m z Q (.ref s.heap.objs.size) {s with heap:=h'}:=λits c j h' c' k e=>
  ⟨.ref s.heap.objs.size,_,I.laid (t':=s.toks) k (WY _) (show ObjOk X.prog X.w _ h' _ (.lst d)from⟨j,its,c',c,e⟩),rfl,q _ (I.hok.fresh (WY _))⟩
 rcases i with i|i
 ·obtain⟨its,c,w,j⟩:=I.list i;have g:=c.length;obtain⟨o,v,hc,n,hd⟩:=w.isList;exact call_list_seq p (.inl rfl) v hc hd (λh' c' k e=>fin its c j h' c' k e) (by simp only[Xb]<;>omega)
 ·obtain⟨its,c,w,j⟩:=I.tuple i;have g:=c.length;obtain⟨o,v,hc,n,hd⟩:=w;exact call_list_seq p (.inr rfl) v hc hd (λh' c' k e=>fin its c j h' c' k e) (by simp only[Xb]<;>omega)
theorem Ce:CallR X (.type "tuple") (λxs H Q=>∃p d,xs=[.ref p]/\((SqL X.K H p d/\∀l,H l=aY->Q (.ref l) (aM H l (.tup d)))\/(SqT X.K H p d/\Q (.ref p) H))):=by
 intro g s x H xs B Q I r h;obtain⟨p,d,rfl,h⟩:=h;obtain⟨u,rfl,A⟩:=fA r;cases A;rcases h with⟨j,q⟩|⟨j,q⟩
 ·obtain⟨c,m,k,w⟩:=I.list j;have v:=m.length;refine call_tuple_list k.isList (λi z=>?_) (by simp only[Xb]<;>omega);have n:Inv X g x H {s with heap:=i}:=I.kept (t':=s.toks) z;have y:Inv X g x (aM H i.objs.size (.tup d)) {s with heap:=i.push {cls:=.type "tuple",data:=.seq c.toArray}}:=
   n.laid (t':=s.toks) (λb o e=>WW _ e) (WY _) (show ObjOk X.prog X.w _ _ _ (.tup d)from⟨w,c,m,TupN.new _ _⟩)
  exact⟨.ref i.objs.size,_,y,rfl,q _ (n.hok.fresh (WY _))⟩
 ·obtain⟨c,m,k,w⟩:=I.tuple j;exact call_tuple_same k ⟨.ref p,H,I,rfl,q⟩
noncomputable def tJ(K:WQ)(T:String)(x:V)(H:Hp):Prop:=match x with
 |.str _=>T="str"|.int _=>T="int"|.ref p=>(T="list"/\∃d,SqL K H p d)\/(T="tuple"/\∃o,K.lookup p=aX o/\o.cls=.type "tuple"/\o.dict=aY) \/
   (T="dict"/\((∃c,H p=aX (.dK c))\/∃c,H p=aX (.dT c)))\/(T="set"/\∃S n,H p=aX (.set S n))
 |_=>False
theorem Cf{a7J:jw}{σ:St}{H:Hp}{s:WX}{T:String}{x:V}{v:Value}(I:Inv X a7J σ H s)(r:RelV x v)(ty:tJ X.K T x H) :
  s.TypeIs v T/\∀a,v=.ref a->∃k,s.heap.get? a=aX k/\k.dict=none:=by
 cases x with
 |str z=>obtain⟨t,rfl⟩:=r;cases(show T="str" from ty);exact⟨typeIs_str s z t,λ_ e=>nomatch e⟩|int i=>obtain⟨t,rfl⟩:=r;cases(show T="int" from ty);exact⟨typeIs_int s i t,λ_ e=>nomatch e⟩|ref p=>
  cases r;rcases ty with⟨rfl,u,m⟩|⟨rfl,o,d,hc,hd⟩|⟨rfl,d⟩|⟨rfl,S,n,d⟩
  ·obtain⟨q,_,l,_⟩:=I.list m;refine⟨l.isList.typeIs,λa e=>?_⟩;cases e;obtain⟨o,n,e,c,hd,_⟩:=l;exact⟨o,e,hd⟩
  ·refine⟨⟨o,I.kIn p o d,hc⟩,λa e=>?_⟩;cases e;exact⟨o,I.kIn _ o d,hd⟩
  ·have z:∃o,s.heap.get? p=aX o/\o.ExactDict:=by
    rcases d with⟨j,d⟩|⟨j,d⟩
    ·obtain⟨_,_,_,_,o,_,_,e,g,_⟩:=I.hok p _ d;exact⟨o,e,g⟩
    ·obtain⟨_,_,_,_,o,_,_,e,g,_⟩:=I.hok p _ d;exact⟨o,e,g⟩
   obtain⟨o,e,g⟩:=z;refine⟨⟨o,e,g.1⟩,λa h=>?_⟩;cases h;exact⟨o,e,g.2.1⟩
  ·obtain⟨o,_,_,_,e,g,_⟩:=I.hok p _ d;refine⟨⟨o,e,g.1⟩,λa h=>?_⟩;cases h;exact⟨o,e,g.2.1⟩
 |_=>exact Zf ty
noncomputable def Cg(K:WQ)(T:String)(r:V->gw->Hp->VK->Prop)(to:TE):TE:=λσ H Q=>to σ H λx c=>tJ K T x c/\r x [] c Q
noncomputable def Ci(K:WQ)(T:String)(r:V->gw->Hp->VK->Prop)(to:TE)(t:TA):TE:=λσ H Q=>to σ H λx c=>tJ K T x c/\t σ c λxs d=>r x xs d Q
variable{o e:Expr}{es:List Expr}{to:TE}{t:TA}{name:Str}{apos cpos:YE}{T id:String}{r:V->gw->Hp->VK->Prop}
theorem K6(y:PlainAttrs T)(i:Slot T name id)(j:a4Y (.builtin id)=pure (.type "method_descriptor")) (u:B6 X id r)(w:PE X o to)
  (c:ZR o name X.env (eval o X.env)=eval o X.env:=by rfl)(d:(apos.endLine==cpos.line)=true:=by rfl):PE X (.Call (.Attribute o name apos) [] [] cpos) (Cg X.K T r to):=by
 intro g s m H Q I h;refine a0K c d (aV (w g s m H _ I h) λv A ⟨x,n,k,l,ty,z⟩=>?_);obtain⟨p,q⟩:=Cf k l ty;exact⟨T,id,y,i,j,p,q,Zm rfl (a0V (u g A m n x [] v [] Q k l .nil z))⟩
theorem K7(K:PlainAttrs T)(k:Slot T name id)(l:a4Y (.builtin id)=pure (.type "method_descriptor")) (E:B6 X id r)(G:PE X o to)(B:PA X (e::es) t)
  (g:ZR o name X.env (eval o X.env)=eval o X.env:=by rfl)
  (j:((ZI cpos (XB (e::es) X.env)).all (λx=>!x.1)&&(a2J cpos (a1i [] X.env)).all (λx=>x.1.isSome)
   && decide ((e::es).length+([]:List a0g).length+(if([]:List a0g).isEmpty then 0 else 1)<30))=true:=by rfl)
  (i:(apos.endLine==cpos.line)=true:=by rfl)(J:XB (e::es) X.env=(b3,eval e X.env)::XB es X.env:=by rfl)(c:(ZI cpos (XB es X.env)).any (·.1)=false:=by rfl) :
  PE X (.Call (.Attribute o name apos) (e::es) [] cpos) (Ci X.K T r to t):=by
 intro d s m H Q I h;refine a4W g j i rfl (aV (G d s m H _ I h) λv O ⟨x,u,n,q,ty,L⟩=>?_);obtain⟨z,A⟩:=Cf n q ty;refine⟨T,id,K,k,l,z,A,?_⟩;have p:=B cpos d O m u _ n L;rw[J]at p ⊢;refine Zm (by show(b3||(ZI cpos (XB es X.env)).any (·.1))=b3;rw[c]<;>rfl) (a4w ?_);exact aV p λU R ⟨Y,w,y,N,M⟩=>E d R m w x Y v U Q y q N M
end
noncomputable def iV(X:Cx)(id:String)(r:V->gw->Hp->VK->Prop):Prop:=
 ∀(a7J:jw)(s:WX)(σ:St)(H:Hp)(x:V)(xs:gw)(v:Value)(us:gq)(Q:VK),Inv X a7J σ H s->RelV x v->Vals xs us->r x xs H Q->
  Xk (Xv X.prog X.w) X.A (call (.builtin id) (v::us)) (EP X a7J σ Q) X.xe s
theorem Vals.one{x:V}{us:gq}(h:Vals [x] us):∃u,us=[u]/\RelV x u:=by
 cases h with
 |cons r t=>cases t;exact⟨_,rfl,r⟩
theorem Vals.two{x y:V}{us:gq}(h:Vals [x,y] us):∃u v,us=[u,v]/\RelV x u/\RelV y v:=by
 cases h with
 |cons r t=>obtain⟨v,rfl,q⟩:=Vals.one t;exact⟨_,v,rfl,r,q⟩
theorem Vals.zero:∀{us:gq},Vals [] us->us=[]
 |_,.nil=>rfl
theorem Vals.dropLast{xs:gw}{us:gq}(h:Vals xs us):Vals xs.dropLast us.dropLast:=by
 induction h with
 |nil=>exact .nil|cons r t a=>
  cases t with
  |nil=>exact .nil|cons q b=>exact .cons r a
theorem Vals.eraseIdx:∀{xs:gw}{us:gq}(i:Nat),Vals xs us->Vals (xs.eraseIdx i) (us.eraseIdx i)
 |_,_,_,.nil=>.nil|_,_,0,.cons _ t=>t|_,_,i+1,.cons r t=>.cons r (Vals.eraseIdx i t)
theorem Vals.reverse{xs:gw}{us:gq}(h:Vals xs us):Vals xs.reverse us.reverse:=by
 induction h with
 |nil=>exact .nil|cons r t a=>rw[Z3,Z3];exact Vals.append a (.cons r .nil)
theorem K8{d:Type}(l:List d):l.eraseIdx (l.length-1)=l.dropLast:=by
 induction l with
 |nil=>rfl|cons a r c=>
  cases r with
  |nil=>rfl|cons b r=>
   have e:(a::b::r).length-1=((b::r).length-1)+1:=by have g:(a::b::r).length=r.length+2:=rfl;have h:(b::r).length=r.length+1:=rfl;omega
   rw[e,List.eraseIdx_cons_succ,c];all_goals rfl
theorem Cj{a:Type}:∀(l:List a)(i:Nat),(l.eraseIdx i).length<=l.length
 |[],_=>WY _|_::_,0=>ZH _|_::r,i+1=>Nat.succ_le_succ (Cj r i)
section
variable{X:Cx}{a7J:jw}{σ:St}{H:Hp}{s:WX}{l b:Addr}{xs ys zs:gw}
theorem Inv.lset{its its':gq}{n:Nat}{f:Array Value->Array Value}{t':Nat}(I:Inv X a7J σ H s)(a:H l=aX (.lst xs))
  (e:s.heap.get? l=aX {cls:=.type "list",data:=.seq its.toArray n}) (d:f its.toArray=its'.toArray)(h:Vals ys its')(hz:ys.length<=W8) :
  Inv X a7J σ (aM H l (.lst ys)) {s with heap:=s.heap.update l (Yi f),toks:=t'}:=by
 have q:=PySem.IsL.update e f;rw[d]at q;refine I.write (x:=l) (e:=l) (by rw[a];exact trivial) (.inl rfl) (λi u c g=>(Yl s.heap (Yi f) (XI c)).trans g) ⟨_,q⟩ ?_;exact⟨hz,its',_,h,q⟩
theorem Inv.lnew{its:gq}{t':Nat}(I:Inv X a7J σ H s)(a:Vals ys its)(hz:ys.length<=W8) :
  Inv X a7J σ (aM H s.heap.objs.size (.lst ys)) {s with heap:=s.heap.push {cls:=.type "list",data:=.seq its.toArray},toks:=t'}:=
 I.laid (λ_ _ q=>WW _ q) (WY _) ⟨hz,its,0,a,W9 _ rfl⟩
theorem Inv.fresh(I:Inv X a7J σ H s):H s.heap.objs.size=none:=I.hok.fresh (WY _)
theorem Inv.lstM(I:Inv X a7J σ H s)(a:H l=aX (.lst xs)):xs.length<=W8/\∃(its:gq)(n:Nat),Vals xs its/\xs.length=its.length/\s.heap.get? l=aX {cls:=.type "list",data:=.seq its.toArray n}:=by obtain⟨z,its,n,r,e⟩:=I.hok l _ a;exact⟨z,its,n,r,r.length,e⟩
theorem K9{n:Nat}(h:n<=W8):a1a n=false:=by unfold a1a;exact decide_eq_false (by omega)
end
section
variable{X:Cx}
noncomputable def Ck:V->gw->Hp->VK->Prop:=λx vs H Q=>∃l xs y,x=.ref l/\vs=[y]/\H l=aX (.lst xs)/\xs.length<W8/\Q .non (aM H l (.lst (xs++[y])))
theorem Cm:iV X "list.append" Ck:=by intro c s w H x o v m Q I i g h;obtain⟨l,p,y,rfl,rfl,b,k,q⟩:=h;cases i;obtain⟨u,rfl,d⟩:=g.one;obtain⟨z,a,n,r,j,e⟩:=I.lstM b;refine a2n F.slot_list_append ⟨_,e,rfl⟩ F.entry_list_append (F.args_list_append_2 _ _) (PySem.list_append l a.toArray n u (by rw[Xb];omega)) ⟨e,?_⟩;refine⟨.non,_,I.lset (its':=a++[u]) b e (by simp) (r.append (.cons d .nil)) ?_,rfl,q⟩;rw[W4,a2d];omega
noncomputable def Cn:V->gw->Hp->VK->Prop:=λx vs H Q=>∃l b xs a,x=.ref l/\vs=[.ref b]/\H l=aX (.lst xs)/\H b=aX (.lst a)/\xs.length+a.length<=W8/\Q .non (aM H l (.lst (xs++a)))
theorem La:iV X "list.extend" Cn:=by
 intro j s O H x K v J Q I B A h;obtain⟨l,b,L,N,rfl,rfl,i,m,G,q⟩:=h;cases B;obtain⟨u,rfl,y⟩:=A.one;cases y;obtain⟨z,c,n,r,E,e⟩:=I.lstM i;obtain⟨M,a,p,w,o,k⟩:=I.lstM m;have g:c.toArray.size+a.toArray.size<=W8:=by rw[Xb,Xb];omega
 have d:¬ (!c.toArray.isEmpty&&a1a (c.toArray.size+a.toArray.size))=true:=by rw[K9 g,Bool.and_false];exact Xo
 refine a2n F.slot_list_extend ⟨_,e,rfl⟩ F.entry_list_extend (F.args_list_extend_2 _ _)
  (AutoSeq1.list_extend_list_list_0 l c.toArray n b a.toArray p d (by rw[Xb];omega) (by omega)) ⟨e,k,?_⟩
 refine⟨.non,_,I.lset (its':=c++a) i e (by simp) (r.append w) ?_,rfl,q⟩;rw[W4];omega
noncomputable def Co:V->gw->Hp->VK->Prop:=λx vs H Q=>∃l xs y,x=.ref l/\vs=[]/\H l=aX (.lst xs)/\xs[xs.length-1]?=aX y/\Q y (aM H l (.lst xs.dropLast))
theorem Lb:iV X "list.pop" Co:=by
 intro g s E H x A v w Q I p o h;obtain⟨l,B,y,rfl,rfl,d,k,q⟩:=h;cases p;have b:=o.zero;subst b;obtain⟨z,a,n,r,i,e⟩:=I.lstM d;obtain⟨u,j,m⟩:=r.get k;have c:a.toArray[a.toArray.size-1]?=aX u:=by show a.toArray[a.length-1]?=aX u;rw[<- X2,<- i];exact j
 refine a2n F.slot_list_pop ⟨_,e,rfl⟩ F.entry_list_pop (F.args_list_pop_1 _) (MeetsSeq.list_pop_last l a.toArray n u c (by rw[Xb];omega)) ⟨e,?_⟩;refine⟨y,_,I.lset (its':=a.dropLast) d e ?_ r.dropLast ?_,m,q⟩
 ·show a.toArray.eraseIdxIfInBounds (a.toArray.size-1)=a.dropLast.toArray;rw[Xb,a2X,K8]
 ·rw[List.length_dropLast];omega
noncomputable def Cp:V->gw->Hp->VK->Prop:=λx vs H Q=>∃l xs i k y,x=.ref l/\vs=[.int i]/\H l=aX (.lst xs)/\-(2^63)<=i/\i<2^63/\a3M i xs.length=aX k/\xs[k]?=aX y/\Q y (aM H l (.lst (xs.eraseIdx k)))
theorem Lc:iV X "list.pop" Cp:=by
 intro d s L H x K v J Q I E B h;obtain⟨l,G,i,k,y,rfl,rfl,c,g,j,m,p,q⟩:=h;cases E;obtain⟨u,rfl,A⟩:=B.one;obtain⟨t,rfl⟩:=A;obtain⟨z,a,n,r,o,e⟩:=I.lstM c;obtain⟨w,hw,b⟩:=r.get p;refine a2n F.slot_list_pop ⟨_,e,rfl⟩ F.entry_list_pop (F.args_list_pop_2 _ _)
  (MeetsSeq.list_pop_at l a.toArray n i t k w (a7G g j) (by rw[Xb,<- o];exact m) (by rw[<- X2];exact hw) (by rw[Xb];omega)) ⟨e,?_⟩
 refine⟨y,_,I.lset (its':=a.eraseIdx k) c e ?_ (r.eraseIdx k) ?_,b,q⟩
 ·show a.toArray.eraseIdxIfInBounds k=(a.eraseIdx k).toArray;rw[a2X]
 ·have:=Cj G k;omega
noncomputable def Cq:V->gw->Hp->VK->Prop:=λx vs H Q=>∃l xs,x=.ref l/\vs=[]/\H l=aX (.lst xs)/\Q .non (aM H l (.lst xs.reverse))
theorem Ld:iV X "list.reverse" Cq:=by intro d s p H x m v k Q I i g h;obtain⟨l,o,rfl,rfl,c,q⟩:=h;cases i;have b:=g.zero;subst b;obtain⟨z,a,n,r,j,e⟩:=I.lstM c;refine a2n F.slot_list_reverse ⟨_,e,rfl⟩ F.entry_list_reverse (F.args_list_reverse_1 _) (AutoSeq1.list_reverse_list_0 l a.toArray n (by rw[Xb];omega)) ⟨e,?_⟩;refine⟨.non,_,I.lset (its':=a.reverse) c e (by simp) r.reverse ?_,rfl,q⟩;rw[a1g];omega
noncomputable def Cr:R2:=λx y H Q=>∃l b xs a,x=.ref l/\y=.ref b/\H l=aX (.lst xs)/\H b=aX (.lst a)/\xs.length+a.length<=W8/\∀p,H p=aY->Q (.ref p) (aM H p (.lst (xs++a)))
theorem Le:OpR X (ZX .Add) Cr:=by
 intro d s L H x y v u Q I p w h;obtain⟨l,b,G,K,rfl,rfl,k,j,B,q⟩:=h;cases p;cases w;obtain⟨z,c,n,r,A,e⟩:=I.lstM k;obtain⟨J,a,E,o,m,g⟩:=I.lstM j;refine PySem.P.add_list e g ?_ (by rw[Xb,Xb];omega);have i:c.toArray++a.toArray=(c++a).toArray:=by simp
 rw[i];exact⟨.ref _,_,I.lnew (t':=s.toks) (r.append o) (by rw[W4];omega),rfl,q _ I.fresh⟩
end
section
variable{prog:Xw}{w:XF}{A:XC}{E:Value->WX->Prop}{s:WX}
end
section
variable{X:Cx}
end
end L2
namespace Att
open PySem PySem.W PySem.Calls PyProof.Rows
theorem Lf{P:YS}{h:Ye}:∀(ns:List Int)(vs:gq),WellAll P h vs (ns.map a0S)->ZU vs ns:=by
 intro ns;induction ns with
 |nil=>intro vs w;rw[ZT]at w;cases w;exact .nil|cons n ns c=>
  intro vs w;rw[Xa]at w;cases w with
  |cons a b=>cases a;exact .cons _ _ (c _ b)
theorem script_of{l:OpenLaw}{n:Nat}(w:l.most=aX n){P:YS}{h:Ye}{args:List WData}{e:gq}
  (c:l.row.toRowW.claim.pre args=b4)(o:WellAll P h e args) :
  ∃a p b,e=[W5 a]/\args=[WData.list (b.map a0S)]/\h.get? a=aX {cls:=.type "list",data:=.seq p.toArray}/\ZU p b/\b.length<=n:=by
 have m:WShape.hasAll [] args [.list .int]=true:=(pre_splitW c).1;have hc:l.pre.holds [] {args:=args}=true:=(pre_splitW c).2;obtain⟨d,r,rfl,s,u⟩:=hasAllW_cons m;obtain rfl:=hasAllW_nil u;obtain⟨B,rfl,v⟩:=hasW_list s;obtain⟨b,rfl⟩:=items_int v;have i:b.length<=n:=by
  unfold OpenLaw.pre at hc;have j:(WTm.not (.lt (.lit (.int (n:Int))) (.len (.arg 0)))).holds [] {args:=[.list (b.map .int)]}=true:=by have j:=(holds_andW hc).1;rw[w]at j;exact j
  have k:=condW_of j (w_not (w_lt w_lit (w_len_list (w_arg rfl))));rw[WO]at k;refine a3k λq=>?_;have y:(n:Int)<((b.length:Nat):Int):=by omega
  first
   |(rw[decide_eq_true y]at k;exact absurd k (by decide))|(simp at k;omega)
 cases o with
 |cons z A=>
  cases A;cases z with
  |list x g=>exact⟨_,_,b,rfl,rfl,x,Lf b _ g,i⟩
theorem post_true(l:OpenLaw)(args:List WData):l.row.toRowW.claim.post args (.bool b4) args=true:=
 postW_of (r:=l.row.toRowW) (X:=(b4==b4))
  (show a6A [] (.bool b4) .bool=b4 by first|rfl|decide|simp[a6A,WShape.arms,WShape.armsAll])
  (show(WTm.eq .res (.lit (.bool b4))).value [] {args:=args,res:=aX (.bool b4),after:=args}=aX (.bool (b4==b4))from w_eq_bool (w_res rfl) w_lit) rfl
section
variable{prog:Xw}{w:XF}{A:XC}{E:Value->WX->Prop}{s:WX}{K:Frag}
end
end Att
namespace L2
open PySem PySem.Spec PyProof.Rows
theorem xO:∀{vs:gq}{ns:List Int},ZU vs ns->Vals (ns.map V.int) vs
 |_,_,.nil=>.nil|_,_,.cons n t h=>.cons ⟨t,rfl⟩ (xO h)
noncomputable def Ct(H:Hp):Prop:=∀b,H b=aY\/∃o xs,H b=aX (.frz o (.lst xs))
theorem law_call{P:Xw}{w:XF}{K:WQ}{M Z:Str->Option Value}{CX:j8}{k:Nat}{R a:Addr}{fd:ZC}{x:Str}{sp:Sp}{c:WX}{vs:gq}{ns:List Int}
  (KX:K.In c.heap)(G:c.heap.Ns YF M)(g:c.heap.Ns a6q Z)(U:∀x:Str,x ≠ "__name__"->Z x=YN x) (E:c.heap.NoLimit)(hg:c.gens=#[])
  (O:c.heap.get? a=aX {cls:=.type "list",data:=.seq vs.toArray}) (hi:ZU vs ns)(hl:ns.length<=W8)(hr:Room k a3t)
  (F:∀i:Ye,K.In i->i.Ns YF M->FnOk P w K M i CX k R fd [x] sp)(y:∀(s:WX)(u:Value),a3D s fd ⟨[u],[]⟩ [(x,u)])
  (Y:∀H:Hp,Ct H->SqL K H a (ns.map V.int)->sp [.ref a] H (λv _=>v=.bl b4) λ_ _ _=>False)
  (T:∀H e j,CX [] H c (λ_ _ _=>False) e j->False) :
  a0B (Xv P w) a3t (.call (.ref R) ⟨[.ref a],[]⟩) (λr j=>r=.ok (.ret (.bool b4))/\OldK c.heap j.heap/\j.os=c.os/\a2R j.gens) c:=by
 have rv:=xO hi;have L:=hi.length
  -- from an abstract heap in which nothing but the script may be tracked
 have p:∀H:Hp,Ct H->SqL K H a (ns.map V.int)->HOk P w H c.heap->(∀b,H b≠aY->b=a)->(H a≠aY->K.lookup a=aY)->
   a0B (Xv P w) a3t (.call (.ref R) ⟨[.ref a],[]⟩) (λr j=>r=.ok (.ret (.bool b4))/\OldK c.heap j.heap/\j.os=c.os/\a2R j.gens) c:=by
  intro H hO hS I hA hK;have lJ:∀{b:Addr}{o:Obj},c.heap.get? b=aX o->H b=aY->(kZ c.heap H).get? b=aX o:=λe n=>IT e n;have noA:∀{b:Addr}{o:Obj}{es:Array DictEntry}{ep:Nat},c.heap.get? b=aX o->o.data=.dict es ep->H b=none:=λ{b o es ep} e d=>by
   cases q:H b with
   |none=>rfl|some u=>have Q:b=a:=hA b (by rw[q];simp);subst Q;rw[O]at e;cases e;have d':a4G vs.toArray _=a0x es ep:=d;cases d'
  have l:∀{b:Addr}{m:Str->Option Value},c.heap.Ns b m->(kZ c.heap H).Ns b m:=λ{b m} ⟨o,es,ep,e,d,r⟩=>⟨o,es,ep,lJ e (noA e d),d,r⟩;have B:K.In (kZ c.heap H):=λb o e=>lJ (KX b o e) (by
   cases q:H b with
   |none=>rfl|some u=>
    have Q:b=a:=hA b (by rw[q];simp);subst Q;rw[hK (by rw[q];simp)]at e;cases e)
  have hM:Mod K M (kZ c.heap H):=⟨B,l G,⟨Z,l g,U⟩,let⟨mc,h1,h2⟩:=E;⟨mc,l h1,h2⟩⟩;have e0:Env0 P w K M (kZ c.heap H) a3t [] c H:=⟨rfl,hM,λb o e=>IU e,a0j (IQ _ _),trivial,λb g=>absurd (show b∈([]:List Addr)from g) (by simp),I,.of_eq hg⟩;refine a3s ((F _ B (l G)).run a3t [] c H ⟨[.ref a],[]⟩ [.ref a] [.ref a] _ _ hr e0 (y c (.ref a)) (.cons rfl .nil) (Y H hO hS)) λr j h=>?_;cases r with
  |error e=>exact(T H e j h).elim|ok fl=>
   cases fl with
   |next=>exact Zf h|brk=>exact Zf h|cont=>exact Zf h|ret u=>
    obtain⟨v,H',os,A,un,J,r',q⟩:=h;have q':v=.bl true:=q;subst q';obtain rfl:u=Y0 true:=r';refine⟨rfl,OldK.of_keep λb o e=>?_,os,A⟩;cases q:H b with
    |none=>exact un.keep b o e q (by intro z;exact absurd (show b∈([]:List Addr)from z) (by simp)) (by simp)|some u=>
     rcases hO b with z|⟨ob,xs,z⟩
     ·rw[q]at z;cases z
     ·have z2:=un.frzs b ob _ z;obtain⟨e1,_⟩:=I b _ z;obtain⟨e2,_⟩:=J b _ z2;rw[e]at e1;cases e1;exact e2
 cases X:K.lookup a with
 |some o=>-- the script is one of the module's own objects
  have e:=KX a o X;rw[O]at e;cases e;refine p (λ_=>aY) (λ_=>.inl rfl) (.inr ⟨_,vs.toArray,_,X,rfl,rfl,rfl,by rw[Xb,L];exact hl,by simpa using rv⟩) (λb u z=>by have N:(aY:Option HO)=aX u:=z;cases N) (λb z=>absurd rfl z) λz=>absurd rfl z
 |none=>
  refine p (λb=>if b=a then aX (.frz {cls:=.type "list",data:=.seq vs.toArray} (.lst (ns.map V.int)))else aY) (λb=>?_) (.inl (.inr ⟨{cls:=.type "list",data:=.seq vs.toArray},if_pos rfl⟩)) (λb u z=>?_) (λb z=>?_) λ_=>X
  ·by_cases g:b=a
   ·exact .inr ⟨_,_,if_pos g⟩
   ·exact .inl (if_neg g)
  ·by_cases g:b=a
   ·have N:=(if_pos g).symm.trans z;cases N;subst g;exact⟨O,by rw[WO];exact hl,vs,_,rv,O⟩
   ·have N:=(if_neg g).symm.trans z;cases N
  ·by_cases g:b=a
   ·exact g
   ·exact absurd (if_neg g) z
noncomputable def iW(s:Stmt):Arguments:=match s with
 |.FunctionDef _ a _ _ _ _ _ _ _ _=>a|_=>{posonlyargs:=[],args:=[],vararg:=aY,kwonlyargs:=[],kw_defaults:=[],kwarg:=aY,defaults:=[]}
noncomputable def fQ(s:Stmt):List Stmt:=match s with
 |.FunctionDef _ _ b _ _ _ _ _ _ _=>b|_=>[]
noncomputable def cM(s:Stmt):Zz:=match s with
 |.FunctionDef _ _ _ _ _ _ sc _ _ _=>sc|_=>{kind:=.function,names:=[],isGenerator:=b3,isCoroutine:=b3}
noncomputable abbrev f9:j8:=λ_ _ _ _ _ _=>False
noncomputable abbrev E0:XK:=λ_ _ _=>False
theorem Cu{X:Cx}:tG f9 X E0:=λ_ _ _ _ _ _ _ h=>h.elim
structure Fun(K:WQ)(x qual:Str)(st:Stmt)(f:Addr)(fd:ZC):Prop where
 ex:∃(oc:Value)(od:Option Addr)(dV kV doc pm:Value)(an:Option Addr)(cdv ct:Value)(osl:Array (Option Value)),
  fd=YZ x qual (iW st) (fQ st) (cM st) dV kV doc pm an cdv ct/\K.lookup f=aX ⟨oc,od,.func fd,osl⟩/\a1Z K cdv qual=b4
 kp:YY K (.ref f)=b4
section
variable{P:Xw}{w:XF}{K:WQ}{mg:Str->Option Value}{base:Ye}
theorem Fun.ok{x a:Str}{st:Stmt}{f:Addr}{g:ZC}{N ps:List Str}{k:Nat}{sp:Sp}(F:Fun K x a st f g)(S:FnScope N ps (cM st))(len:∀vs H Q E,sp vs H Q E->vs.length=ps.length)
  (c:∀(b:Value)(A:XC)(outer:List a2v)(s:WX)(H:Hp)(vs:gw)(Q:VK)(E:XK),Room k (A.deeper (envOfC a (cM st) s.heap.objs.size f b))->sp vs H Q E->
   ∃t,PSs (k0 f9 P w K mg base N a (cM st) f b A outer s H E).nox (fQ st) t/\t {nx:=λ_ i=>Q .non i,rt:=Q} (start N vs) H):FnOk P w K mg base f9 (k+1) f g ps sp:=by
 obtain⟨p,r,o,kV,j,u,n,b,ct,m,rfl,lk,d⟩:=F.ex;refine KI lk d S len λA outer s H vs Q E l e=>?_;obtain⟨t,h,q⟩:=c b A outer s H vs Q E l e;exact⟨t,h.nox,q⟩
theorem Lg{x a:Str}{st:Stmt}{f:Addr}{i:Value}{j an:Option Addr}{e:Array (Option Value)}{g kV d h b ct:Value}(l:K.lookup f=aX ⟨i,j,.func (YZ x a (iW st) (fQ st) (cM st) g kV d h an b ct),e⟩)
  (c:a1Z K b a=b4)(k:YY K (.ref f)=b4):Fun K x a st f (YZ x a (iW st) (fQ st) (cM st) g kV d h an b ct):=⟨⟨i,j,g,kV,d,h,an,b,ct,e,rfl,l,c⟩,k⟩
end
theorem Lh{A:XC}{k:Nat}(a:Room k A):A.units+1<YL:=Nat.lt_of_le_of_lt (Nat.add_le_add_left (by decide:1<=64) _) a.units
section
variable{X:Cx}
theorem pv(i:Nat){x:Str}{pos:YE}(b:X.N[i]?=aX x:=by rfl)(c:nI X.env.scope x:=by first|exact a4f rfl|exact a2N (a4f rfl)|exact a2N (a2N rfl))(hd:(x==("__debug__":Str))=false:=by decide)
  (a:(x==("__classdict__":Str))=false:=by decide):PE X (.Name x pos) (wZ i):=BC b c hd a
end
theorem mJ{A B:Prop}(h:B):if b3=b4 then A else B:=by rw[if_neg Xo];exact h
theorem mK{A B:Prop}(h:A):if b4=b4 then A else B:=by rw[if_pos rfl];exact h
section
variable{κ:Type} [DecidableEq κ]
end
end L2
namespace L3
open PySem PySem.W
theorem left_cut{p q:Xw}{loose:List Str}{Xt:WX → Bool}{O:Type}{Yf:WX → O}{Ya:XF → O}{N:Nat}{z:Bool}{hA hB hC hD:YS → Ye}{kA A B E b:Nat}{g:Option Value}{u l m n o n4:Nat}{env:a2v}{j G v H I J:YE}{i1 i2 i3:Nat}
  (i:∀w:XF,(fencedOpening Zo p w N).map (λs=>(s.heap,s.gens,s.drawn,s.toks))=aX (a0L w.params,XT [],Yn,a3P))
  (size:∀w:XF,((a0L w.params).isNs YF,(a0L w.params).objs.size,(a0L w.params).nsMap YF "__annotations__")=(b4,b,g))
  (y:∀(w:XF)(a:a1B),topGo Zo p w b g u ⟨a0L w.params,XT [],Yn,a3P,a⟩ (topStub p)=aX (⟨hA w.params,XT [],Yn,kA,a⟩,⟨denote Zo (.body (Xu p) env),.body (Xu p) env,G,[a0Q j]⟩))
  (x:∀(w:XF)(a:a1B),a3N Zo p w b g 1 l ⟨hA w.params,XT [],Yn,kA,a⟩ (blockOf (Xu p) env (.body (Xu p) env) G [a0Q j])=aX (.next,⟨hA w.params,XT [],Yn,kA,a⟩,.body (Xu p) env,v))
  (s1:∀(w:XF)(a:a1B),a3N Zo p w b g 1 m ⟨hA w.params,XT [],Yn,kA,a⟩ (a3p ((Xu p).take i1) env (.body (Xu p) env) v [a0Q j])=aX (.next,⟨hB w.params,XT [],Yn,A,a⟩,.body (Xu p) env,H))
  (s2:∀(w:XF)(a:a1B),a3N Zo p w b g 1 n ⟨hB w.params,XT [],Yn,A,a⟩ (a3p (((Xu p).drop i1).take i2) env (.body (Xu p) env) H [a0Q j])=aX (.next,⟨hC w.params,XT [],Yn,B,a⟩,.body (Xu p) env,I))
  (s3:∀(w:XF)(a:a1B),a3N Zo p w b g 1 o ⟨hC w.params,XT [],Yn,B,a⟩ (a3p ((((Xu p).drop i1).drop i2).take i3) env (.body (Xu p) env) I [a0Q j])=aX (.next,⟨hD w.params,XT [],Yn,E,a⟩,.body (Xu p) env,J))
  (fin:∀(w:XF)(a:a1B),((topRun Zo p w b g n4 ⟨hD w.params,XT [],Yn,E,a⟩ (restOf ((((Xu p).drop i1).drop i2).drop i3) env (.body (Xu p) env) J [a0Q j])).bind λc=>match staticsOk (a6Z p.main.body) (a0L w.params) c.heap&&namesBound p c.heap&&gensDone c&&laidKept (a0L w.params) c.heap with
   |true=>aX c
   |false=>aY).map (λs=>(openSeen q loose (a6Z p.main.body) Xt z s,Yf s))=aX (openGood q loose,Ya w))
  (le:Nat.ble (u+(l+(m+(n+(o+n4))))) N=b4):LeftO p q loose Xt Yf Ya N z:=λw=>by
 obtain⟨⟨h,R,d,k,a⟩,e,Q⟩:=WS.mp (i w);obtain⟨rfl,rfl,rfl,rfl⟩:h=a0L w.params ∧ R=XT [] ∧ d=Yn ∧ k=a3P:=by simpa using Q
 obtain⟨z1,z2,z3⟩:_ ∧ _ ∧ _:=by simpa only[a5A]using size w
 obtain⟨s,X,Y⟩:=WS.mp (fin w a);obtain⟨c,T,U⟩:=WM.mp X;have M:=a6H (s3 w a) T;rw[Y5]at M;have L:=a6H (s2 w a) M;rw[Y5]at L;have K:=a6H (s1 w a) L;rw[Y5]at K;have Z:=go_top (y w a) (piece_block (x w a) K);have r:=topRun_mono (N-(u+(l+(m+(n+(o+n4)))))) _ _ _ _ Z;rw[show u+(l+(m+(n+(o+n4))))+(N-(u+(l+(m+(n+(o+n4))))))=N by have:=Nat.le_of_ble_eq_true le;omega]at r;have t:topFrom Zo p w N ⟨a0L w.params,XT [],Yn,a3P,a⟩=aX s:=by unfold topFrom;dsimp only;rw[z1,z2,z3,r];exact U
 unfold openEnds;rw[e];show(topFrom Zo p w N _).map _=_;rw[t];exact congrArg aX Y
end L3
namespace Lw
open PySem L2
noncomputable def aK(i:Nat):Stmt:=Yb.main.body.getD i (.Pass ⟨0,0,0,0⟩)
noncomputable def oT(i j:Nat):Stmt:=match aK i with|.ClassDef _ _ _ b _ _ _ _ _ _ _=>b.getD j (.Pass ⟨0,0,0,0⟩)|_=>.Pass ⟨0,0,0,0⟩
noncomputable def Vw:Xw:={Yb with main:={Yb.main with body:=aK 1::aK 2::aK 3::aK 4::aK 5::aK 7::aK 8::aK 9::aK 10::aK 11::aK 12::aK 14::aK 15::aK 16::aK 17::aK 18::aK 19::aK 20::aK 21::aK 22::aK 24::aK 25::aK 27::aK 28::aK 30::aK 31::aK 32::aK 33::aK 34::aK 35::aK 36::aK 37::aK 38::aK 39::aK 40::aK 41::aK 43::aK 44::aK 45::aK 46::aK 47::aK 48::aK 49::aK 50::aK 51::aK 52::aK 53::aK 54::aK 55::aK 56::aK 57::aK 58::aK 59::aK 60::aK 61::aK 62::aK 63::[]}}
noncomputable abbrev vS(x:String)(n:Nat):Value:=a4a (Yy x) n
noncomputable abbrev vI(i:Int):Value:=Zq i 0
noncomputable abbrev vR(a:Addr):Value:=W5 a
noncomputable abbrev vN:Value:=X5
noncomputable abbrev cO(fs:Array Value):Obj:={cls:=Xl "code",data:=X6 fs}
noncomputable abbrev kO(x y:String)(a b c:Nat)(l n i j k:Int)(r:Addr)(q:Int)(vs:Array Value)(t d:Int)(e:Nat):Obj:={cls:=Xl "code",data:=X6 (#[vS x a,vS x b,vS y c,vI l,vI n,vI i,vI j,vI k,vR r,Y0 b4,vI q]++vs++#[vI t,vI d,vS y e])}
noncomputable abbrev tO(fs:Array Value):Obj:={cls:=Xl "tuple",data:=a4G fs}
noncomputable abbrev fO(x:Str)(n:Nat)(m:Value)(c:Addr):Obj:=⟨Xl "function",aY,.func (YZ x x (iW (aK n)) (fQ (aK n)) (cM (aK n)) X5 X5 X5 m aY (W5 c) X5),#[]⟩
noncomputable abbrev eO(P:YS)(x:String)(n:Nat)(v:Value):DictEntry:={hash:=PyData.keyHash P (Yy x),key:=a4a (Yy x) n,val:=v}
noncomputable abbrev eR(P:YS)(x:String)(n:Nat)(a:Addr):DictEntry:=eO P x n (vR a)
noncomputable abbrev kA(p:Addr×Obj)(R:WQ):WQ:=p::R
noncomputable def Cv:List String → Nat → List Value
 |[],_=>[]|x::xs,n=>vS x n::Cv xs (n+1)
noncomputable abbrev tN(xs:List String)(n:Nat):Obj:=tO (XT (Cv xs n))
open PySem.W in
noncomputable def lA(P:YS):List Obj:=((boot_o_0 P)::(boot_o_1 P)::(boot_o_2 P)::(boot_o_3 P)::(boot_o_4 P)::(boot_o_5 P)::(boot_o_6 P)::(boot_o_7 P)::(boot_o_8 P)::(boot_o_9 P)::(boot_o_10 P)::(tO #[])::({cls:=vN,data:=X6 #[]})::(cO #[vS "<module>" 182,vS "<module>" 183,vS "/claim/cut.py" 184,vI 1,vI 0,vI 0,vI 0,vI 0,vR 11,Y0 b3,vI 181,vR 12,vN,vN,vN,vN,vI 185,vI 1,vS "/claim/cut.py" 186])::({cls:=Xl "frame",slots:=#[aX (vR 13),aX (vR 3),aX (vR 3),aY,aX (vS "__main__" 164),aY,aX (vR 0)]})::[])
open PySem.W in
noncomputable def Cw(P:YS)(a:Nat)(c:String)(d:Nat)(b:Nat)(R:List Obj):List Obj:=(tO #[vR 24])::({cls:=Xl "builtin_function_or_method",data:=X6 #[Za "type.__prepare__",Xl "type"]})::({cls:=Xl "dict",data:=a0x #[eO P "__module__" a (vS "creasecourt.errors" 187),eO P "__qualname__" (a+2) (vS c (a+1)),eO P "__firstlineno__" (a+4) (Zq d (a+3)),eR P "__static_attributes__" (a+5) b] 4})::(tO #[])::({cls:=vN,data:=X6 #[]})::(cO #[vS c (a-5),vS c (a-4),vS "/claim/cut.py" (a-3),vI d,vI 0,vI 0,vI 0,vI 0,vR (b-4),Y0 b3,vI 181,vR (b-3),vN,vN,vN,vN,vI (a-2),vI d,vS "/claim/cut.py" (a-1)])::({cls:=Xl "frame",slots:=#[aX (vR (b-2)),aX (vR 3),aX (vR (b-5)),aY,aX (vS "creasecourt.errors" 187),aY,aX (vR 0)]})::(tO #[])::({cls:=Xl "dict",data:=a0x #[eO P "__module__" a (vS "creasecourt.errors" 187),eO P "__firstlineno__" (a+4) (Zq d (a+3)),eR P "__static_attributes__" (a+5) b,eO P "__doc__" (a+6) vN] 2})::({cls:=Xl "type",data:=a6g {name:=Yy c,bases:=[vR 24],mro:=[vR (b+2),vR 24,Xl "ValueError",Xl "Exception",Xl "BaseException",Xl "object"],ns:=(b+1),qualname:=Yy c},slots:=#[aX (vR (b-7)),aY,aX (vS c (a-7)),aX (vS c (a+1)),aX (Za "ValueError.__new__"),aX (Y0 b4)]})::({cls:=Xl "super",data:=X6 #[vR (b+2),vR (b+2),vR (b+2)]})::({cls:=Xl "builtin_function_or_method",data:=X6 #[Za "object.__init_subclass__",vR (b+2)]})::R
open PySem.W in
noncomputable def Cy(P:YS)(a:Nat)(c:String)(d:Nat)(b:Nat)(g:String)(e:Nat)(R:List Obj):List Obj:=(tO #[vR 24])::({cls:=Xl "builtin_function_or_method",data:=X6 #[Za "type.__prepare__",Xl "type"]})::({cls:=Xl "dict",data:=a0x #[eO P "__module__" a (vS "creasecourt.errors" 187),eO P "__qualname__" (a+2) (vS c (a+1)),eO P "__firstlineno__" (a+4) (Zq d (a+3)),eR P "__init__" (a+12) b,eR P "__static_attributes__" (a+14) (b+1)] 5})::(tO #[])::({cls:=vN,data:=X6 #[vI (d+2),vI 4,vR (b-1)]})::(cO #[vS c (a-5),vS c (a-4),vS "/claim/cut.py" (a-3),vI d,vI 0,vI 0,vI 0,vI 0,vR (b-10),Y0 b3,vI 181,vR (b-9),vN,vN,vN,vN,vI (a-2),vI d,vS "/claim/cut.py" (a-1)])::({cls:=Xl "frame",slots:=#[aX (vR (b-8)),aX (vR 3),aX (vR (b-11)),aY,aX (vS "creasecourt.errors" 187),aY,aX (vR 0)]})::(tO #[])::({cls:=vN,data:=X6 #[]})::(tN ["self","edge"] (a+8))::(tO #[])::(⟨vN,aY,.func ({YZ "__init__" g (iW (oT e 0)) (fQ (oT e 0)) (cM (oT e 0)) vN vN vN vN (aY) vN vN with globals:=0}),#[]⟩)::(cO #[vS "__init__" (a+5),vS g (a+6),vS "/claim/cut.py" (a+7),vI (d+2),vI 2,vI 0,vI 0,vI 3,vR (b-6),Y0 b4,vI 181,vR (b-5),vN,vR (b-4),vR (b-3),vR (b-2),vI (a+10),vI (d+2),vS "/claim/cut.py" (a+11)])::(⟨Xl "function",aY,.func (YZ "__init__" g (iW (oT e 0)) (fQ (oT e 0)) (cM (oT e 0)) vN vN vN (vS "creasecourt.errors" 187) (aY) (vR (b-1)) vN),#[]⟩)::(tN ["edge"] (a+13))::({cls:=Xl "dict",data:=a0x #[eO P "__module__" a (vS "creasecourt.errors" 187),eO P "__firstlineno__" (a+4) (Zq d (a+3)),eR P "__init__" (a+12) b,eR P "__static_attributes__" (a+14) (b+1),eO P "__doc__" (a+15) vN] 2})::({cls:=Xl "type",data:=a6g {name:=Yy c,bases:=[vR 24],mro:=[vR (b+3),vR 24,Xl "ValueError",Xl "Exception",Xl "BaseException",Xl "object"],ns:=(b+2),qualname:=Yy c},slots:=#[aX (vR (b-13)),aY,aX (vS c (a-7)),aX (vS c (a+1)),aX (Za "ValueError.__new__"),aX (Y0 b4)]})::({cls:=Xl "super",data:=X6 #[vR (b+3),vR (b+3),vR (b+3)]})::({cls:=Xl "builtin_function_or_method",data:=X6 #[Za "object.__init_subclass__",vR (b+3)]})::R
open PySem.W in
noncomputable def cC(h:List String)(b:Nat)(c:String)(d:Nat)(e:Nat)(i:Nat)(a:Nat)(g:Nat)(j:String)(k:Nat)(R:List Obj):List Obj:=(tO #[])::({cls:=vN,data:=X6 #[]})::(tN h b)::(tO #[])::(⟨vN,aY,.func ({YZ c c (iW (aK d)) (fQ (aK d)) (cM (aK d)) vN vN vN vN (aY) vN vN with globals:=0}),#[]⟩)::(kO c "/claim/cut.py" (b-3) (b-2) (b-1) e i 0 0 3 a 181 #[vR (a+1),vN,vR (a+2),vR (a+3),vR (a+4)] g e (g+1))::(fO c d (vS j k) (a+5))::R
open PySem.W in
noncomputable def gO(b:String)(c:Nat)(a:Nat)(e:Nat)(g:Nat)(d:Nat)(h:String)(i:Nat)(R:List Obj):List Obj:=(tO #[])::({cls:=vN,data:=X6 #[]})::(⟨vN,aY,.func ({YZ b b (iW (aK c)) (fQ (aK c)) (cM (aK c)) vN vN vN vN (aY) vN vN with globals:=0}),#[]⟩)::(kO b "/claim/cut.py" a (a+1) (a+2) e g 0 0 3 d 181 #[vR (d+1),vN,vN,vN,vR (d+2)] (a+3) e (a+4))::(fO b c (vS h i) (d+3))::R
open PySem.W in
noncomputable def lN(P:YS):List DictEntry:=[eO P "__doc__" 166 vN,eO P "__package__" 167 vN,eO P "__loader__" 168 (Za "__main__.__loader__#opaque"),eO P "__spec__" 169 vN,eR P "__annotations__" 170 6,eR P "__builtins__" 171 4,eO P "__file__" 173 (vS "/claim/cut.py" 172),eO P "__cached__" 174 vN,eR P "CreaseError" 206 24,eR P "NoSize" 222 37,eR P "NoMark" 238 49,eR P "NoEdge" 263 68,eR P "Twice" 288 87,eR P "is_whole" 297 96,eR P "is_place" 304 103,eR P "is_edge" 311 110,eR P "is_quarter" 318 117,eR P "beside" 327 124,eR P "sides_of" 333 129,eR P "MARKS" 339 130,eR P "is_size" 346 137,eR P "check_size" 354 144,eR P "is_mark" 361 151,eR P "is_within" 370 158,eR P "places_within" 376 163,eR P "edges_in" 382 168,eR P "is_inner_edge" 391 175,eR P "sheet_of" 403 182,eR P "led" 415 189,eR P "is_turned" 422 196,eR P "stacks" 433 203,eR P "edges_laid" 443 210,eR P "are_piles" 451 215,eR P "heights_in" 462 222,eR P "quarters_at" 468 227,eR P "joined_at" 474 232,eR P "count_between" 480 237,eR P "is_above" 489 244,eR P "crosses" 500 251,eR P "crossing_at" 506 256,eR P "crossing" 519 263,eR P "turned_first" 528 270,eR P "mark_by_heights" 538 277,eR P "marks_by" 544 282,eR P "_law_given" 555 289,eR P "_law_number" 565 296,eR P "_law_quarters" 576 303,eR P "_law_rims" 587 310,eR P "_law_beside" 596 317,eR P "_law_value" 606 324,eR P "_law_mirror" 615 331,eR P "_law_led" 631 338,eR P "_law_then" 652 345,eR P "_law_fold" 658 350,eR P "_law_grown" 678 357,eR P "_law_creased" 691 364,eR P "_law_kind" 700 371,eR P "_law_ways" 720 378,eR P "_law_lines" 726 383,eR P "_law_grid" 745 390,eR P "_law_drawn" 755 397,eR P "_law_stirred" 761 402,eR P "_law_carried" 779 409,eR P "_law_other" 785 414,eR P "law" 791 419]
noncomputable def lM:gq:=List.flatMap (λp:Nat×Nat=>[vI p.1,vI 0,vR p.2]) [(2,20),(4,33),(6,45),(8,57),(13,76),(19,95),(21,102),(23,109),(27,116),(31,123),(35,128),(39,136),(41,143),(44,150),(46,157),(48,162),(53,167),(55,174),(57,181),(71,188),(75,195),(78,202),(83,209),(89,214),(94,221),(100,226),(102,231),(104,236),(108,243),(110,250),(117,255),(125,262),(131,269),(136,276),(139,281),(143,288),(148,295),(157,302),(164,309),(171,316),(178,323),(181,330),(184,337),(188,344),(193,349),(214,356),(228,363),(235,370),(240,377),(261,382),(263,389),(277,396),(287,401),(299,408),(314,413),(316,418)]
open PySem.W in
noncomputable def lB(P:YS):List Obj:=(((lA P).set 3 ({cls:=Xl "dict",data:=a0x (XT (eO P "__name__" 165 (vS "creasecourt.errors" 187)::(lN P).take 13)) 14})).set 12 ({cls:=vN,data:=X6 (XT (lM.take 15))}))++((tO #[Xl "ValueError"])::(({cls:=Xl "builtin_function_or_method",data:=X6 #[Za "type.__prepare__",Xl "type"]})::(({cls:=Xl "dict",data:=a0x #[eO P "__module__" 196 (vS "creasecourt.errors" 187),eO P "__qualname__" 198 (vS "CreaseError" 197),eO P "__firstlineno__" 200 (Zq 2 199),eR P "__static_attributes__" 201 22] 4})::((tO #[])::(({cls:=vN,data:=X6 #[]})::((cO #[vS "CreaseError" 191,vS "CreaseError" 192,vS "/claim/cut.py" 193,vI 2,vI 0,vI 0,vI 0,vI 0,vR 18,Y0 b3,vI 181,vR 19,vN,vN,vN,vN,vI 194,vI 2,vS "/claim/cut.py" 195])::(({cls:=Xl "frame",slots:=#[aX (vR 20),aX (vR 3),aX (vR 17),aY,aX (vS "creasecourt.errors" 187),aY,aX (vR 0)]})::((tO #[])::(({cls:=Xl "dict",data:=a0x #[eO P "__module__" 196 (vS "creasecourt.errors" 187),eO P "__firstlineno__" 200 (Zq 2 199),eR P "__static_attributes__" 201 22,eR P "__weakref__" 203 25,eO P "__doc__" 204 vN] 3})::(({cls:=Xl "type",data:=a6g {name:=Yy "CreaseError",bases:=[Xl "ValueError"],mro:=[vR 24,Xl "ValueError",Xl "Exception",Xl "BaseException",Xl "object"],ns:=23,qualname:=Yy "CreaseError",subclasses:=[vR 37,vR 49,vR 68,vR 87]},slots:=#[aX (vR 15),aY,aX (vS "CreaseError" 189),aX (vS "CreaseError" 197),aX (Za "ValueError.__new__"),aX (Y0 b4)]})::(({cls:=Xl "getset_descriptor",data:=X6 #[vS "__weakref__" 202,vR 24,Za "ExceptionGroup.__weakref__",vN]})::(({cls:=Xl "super",data:=X6 #[vR 24,vR 24,vR 24]})::(({cls:=Xl "builtin_function_or_method",data:=X6 #[Za "object.__init_subclass__",vR 24]})::(Cw P 214 "NoSize" 4 35 (Cw P 230 "NoMark" 6 47 (Cy P 246 "NoEdge" 8 65 "NoEdge.__init__" 4 (Cy P 271 "Twice" 13 84 "Twice.__init__" 5 [])))))))))))))))))
open PySem.W in
noncomputable def lC(P:YS):List Obj:=(((lB P).set 3 ({cls:=Xl "dict",data:=a0x (XT (eO P "__name__" 165 (vS "creasecourt.piles" 444)::(lN P).take 40)) 41})).set 12 ({cls:=vN,data:=X6 (XT (lM.take 93))}))++(cC ["value"] 294 "is_whole" 7 19 1 90 295 "creasecourt.places" 289 (cC ["value"] 301 "is_place" 8 21 1 97 302 "creasecourt.places" 289 (cC ["place"] 308 "is_edge" 9 23 1 104 309 "creasecourt.places" 289 (cC ["place"] 315 "is_quarter" 10 27 1 111 316 "creasecourt.places" 289 (cC ["place","x","y"] 322 "beside" 11 31 1 118 325 "creasecourt.places" 289 (gO "sides_of" 12 328 35 1 125 "creasecourt.places" 289 ((tN ["h","v","o"] 336)::(cC ["value"] 343 "is_size" 15 39 1 131 344 "creasecourt.sheets" 334 (cC ["wide","high"] 350 "check_size" 16 41 2 138 352 "creasecourt.sheets" 334 (cC ["value"] 358 "is_mark" 17 44 1 145 359 "creasecourt.sheets" 334 (cC ["wide","high","place"] 365 "is_within" 18 46 3 152 368 "creasecourt.sheets" 334 (gO "places_within" 19 371 48 2 159 "creasecourt.sheets" 334 (gO "edges_in" 20 377 53 2 164 "creasecourt.sheets" 334 (cC ["wide","high","value"] 386 "is_inner_edge" 21 55 3 169 389 "creasecourt.sheets" 334 (cC ["wide","high","creases","marks","crease","edge"] 395 "sheet_of" 22 57 3 176 401 "creasecourt.sheets" 334 (cC ["laying","place","x","y"] 409 "led" 24 71 2 183 413 "creasecourt.layings" 404 (cC ["laying"] 419 "is_turned" 25 75 1 190 420 "creasecourt.layings" 404 (cC ["layings","told","quarter"] 428 "stacks" 27 78 1 197 431 "creasecourt.laid" 423 (cC ["sheet","layings","told","edge"] 437 "edges_laid" 28 83 2 204 441 "creasecourt.laid" 423 (gO "are_piles" 30 446 89 2 211 "creasecourt.piles" 444 (cC ["piles","heights","pile","height","quarter"] 455 "heights_in" 31 94 1 216 460 "creasecourt.piles" 444 (gO "quarters_at" 32 463 100 3 223 "creasecourt.piles" 444 (gO "joined_at" 33 469 102 3 228 "creasecourt.piles" 444 (gO "count_between" 34 475 104 3 233 "creasecourt.piles" 444 (cC ["heights","one","other"] 484 "is_above" 35 108 3 238 487 "creasecourt.piles" 444 (cC ["heights","one","other","ours","theirs"] 493 "crosses" 36 110 3 245 498 "creasecourt.piles" 444 (gO "crossing_at" 37 501 117 4 252 "creasecourt.piles" 444 [])))))))))))))))))))))))))))
open PySem.W in
noncomputable def lD(P:YS):List Obj:=(((lC P).set 3 ({cls:=Xl "dict",data:=a0x (XT (eO P "__name__" 165 (vS "law_creasecourt_k64_whole_turned_about" 545)::(lN P).take 65)) 66})).set 12 ({cls:=vN,data:=X6 (XT (lM.take 168))}))++(cC ["sheet","layings","piles","heights","pairs","place","edges"] 510 "crossing" 38 125 3 257 517 "creasecourt.piles" 444 (cC ["layings","edge","sides"] 523 "turned_first" 39 131 2 264 526 "creasecourt.piles" 444 (cC ["heights","layings","edge","sides"] 532 "mark_by_heights" 40 136 3 271 536 "creasecourt.piles" 444 (gO "marks_by" 41 539 139 3 278 "creasecourt.piles" 444 (cC ["_law_script","_law_k","_law_more"] 550 "_law_given" 43 143 2 283 553 "law_creasecourt_k64_whole_turned_about" 545 (cC ["_law_script","_law_k","_law_cell","_law_j"] 559 "_law_number" 44 148 2 290 563 "law_creasecourt_k64_whole_turned_about" 545 (cC ["_law_wide","_law_high","_law_found","_law_x","_law_y"] 569 "_law_quarters" 45 157 2 297 574 "law_creasecourt_k64_whole_turned_about" 545 (cC ["_law_wide","_law_high","_law_found","_law_x","_law_y"] 580 "_law_rims" 46 164 2 304 585 "law_creasecourt_k64_whole_turned_about" 545 (cC ["_law_rim","_law_x","_law_y"] 591 "_law_beside" 47 171 1 311 594 "law_creasecourt_k64_whole_turned_about" 545 (cC ["_law_place","_law_kind_here","_law_x","_law_y"] 600 "_law_value" 48 178 2 318 604 "law_creasecourt_k64_whole_turned_about" 545 (cC ["_law_kind_here","_law_n","_law_some"] 610 "_law_mirror" 49 181 2 325 613 "law_creasecourt_k64_whole_turned_about" 545 (cC ["_law_way","_law_place","_law_a","_law_b","_law_c","_law_d","_law_e","_law_f","_law_x","_law_y"] 619 "_law_led" 50 184 2 332 629 "law_creasecourt_k64_whole_turned_about" 545 (cC ["_law_one","_law_other_here","_law_a","_law_b","_law_c","_law_d","_law_e","_law_f","_law_p","_law_q","_law_r","_law_s","_law_t","_law_u","_law_turn"] 635 "_law_then" 51 188 2 339 650 "law_creasecourt_k64_whole_turned_about" 545 (gO "_law_fold" 52 653 193 6 346 "law_creasecourt_k64_whole_turned_about" 545 (cC ["_law_script","_law_wide","_law_high","_law_first","_law_many","_law_ways_here","_law_heaps","_law_quarter","_law_k","_law_number_here","_law_kind_here","_law_places","_law_value_here","_law_way"] 662 "_law_grown" 53 214 5 351 676 "law_creasecourt_k64_whole_turned_about" 545 (cC ["_law_ways_here","_law_wide","_law_high","_law_found","_law_rim","_law_one","_law_other_here"] 682 "_law_creased" 54 228 3 358 689 "law_creasecourt_k64_whole_turned_about" 545 (cC ["_law_rim","_law_x","_law_y"] 695 "_law_kind" 55 235 1 365 698 "law_creasecourt_k64_whole_turned_about" 545 (cC ["_law_wide","_law_high","_law_creased_here","_law_near","_law_quarter","_law_rim","_law_one","_law_other_here","_law_first","_law_ways_here","_law_row","_law_here","_law_there","_law_kind_here"] 704 "_law_ways" 56 240 3 372 718 "law_creasecourt_k64_whole_turned_about" 545 (gO "_law_lines" 57 721 261 3 379 "law_creasecourt_k64_whole_turned_about" 545 (cC ["_law_script","_law_wide","_law_high","_law_rights","_law_ups","_law_found","_law_rim","_law_x","_law_y","_law_ways_here","_law_heaps","_law_quarter","_law_place"] 730 "_law_grid" 58 263 3 384 743 "law_creasecourt_k64_whole_turned_about" 545 (cC ["_law_script","_law_head","_law_wide","_law_high"] 749 "_law_drawn" 59 277 2 391 753 "law_creasecourt_k64_whole_turned_about" 545 (gO "_law_stirred" 60 756 287 3 398 "law_creasecourt_k64_whole_turned_about" 545 (cC ["_law_ways_here","_law_heaps","_law_mirrors","_law_turned","_law_whole","_law_number_here","_law_far","_law_later","_law_quarter","_law_made","_law_place","_law_pile"] 765 "_law_carried" 61 299 4 403 777 "law_creasecourt_k64_whole_turned_about" 545 (gO "_law_other" 62 780 314 1 410 "law_creasecourt_k64_whole_turned_about" 545 (gO "law" 63 786 316 1 415 "law_creasecourt_k64_whole_turned_about" 545 [])))))))))))))))))))))))))
noncomputable def As:List Addr:=[3,95,96,102,103,109,110,116,117,123,124,128,129,130,136,137,143,144,150,151,157,158,162,163,167,168,174,175,181,182,188,189,195,196,202,203,209,210,214,215,221,222,226,227,231,232,236,237,243,244,250,251,255,256,262,263,269,270,276,277,281,282,288,289,295,296,302,303,309,310,316,317,323,324,330,331,337,338,344,345,349,350,356,357,363,364,370,371,377,378,382,383,389,390,396,397,401,402,408,409,413,414,418,419]
noncomputable def Kx:YS → WQ:=λP=>As.map λa=>(a,((lD P)[a]?).getD (tO #[]))
theorem qV:∀P,As=(Kx P).map (·.1):=λ_=>by kernel_rfl
noncomputable def vE:a2v:={scope:=Yb.main.scope,locals:=mainNs,globals:=mainNs,cells:=[],code:=W5 13,frame:=aX 14}
open PySem.W PyProof.Rows in
set_option maxRecDepth 100000 in
set_option maxHeartbeats 0 in
theorem Li(w:XF)(a:a1B):topGo Zo (Yg WU).prog w 11 (aX (W5 6)) 12 ⟨a0L w.params,XT [],Yn,a3P,a⟩ (topStub (Yg WU).prog)=aX (⟨⟨XT (lA w.params),{}⟩,XT [],Yn,187,a⟩,⟨denote Zo (.body (Xu (Yg WU).prog) vE),(.body (Xu (Yg WU).prog) vE),⟨0,0,0,0⟩,[a0Q ⟨0,0,0,0⟩]⟩):=by kernel_rfl
open PySem.W PyProof.Rows in
set_option maxRecDepth 100000 in
set_option maxHeartbeats 0 in
theorem Lj(w:XF)(a:a1B):a3N Zo (Yg WU).prog w 11 (aX (W5 6)) 1 1 ⟨⟨XT (lA w.params),{}⟩,XT [],Yn,187,a⟩ (blockOf (Xu (Yg WU).prog) vE (.body (Xu (Yg WU).prog) vE) ⟨0,0,0,0⟩ [a0Q ⟨0,0,0,0⟩])=aX (.next,⟨⟨XT (lA w.params),{}⟩,XT [],Yn,187,a⟩,(.body (Xu (Yg WU).prog) vE),⟨0,0,0,0⟩):=by kernel_rfl
open PySem.W PyProof.Rows in
set_option maxRecDepth 100000 in
set_option maxHeartbeats 0 in
theorem Lk(w:XF)(a:a1B):a3N Zo (Yg WU).prog w 11 (aX (W5 6)) 1 1112 ⟨⟨XT (lA w.params),{}⟩,XT [],Yn,187,a⟩ (a3p ((Xu (Yg WU).prog).take 6) vE (.body (Xu (Yg WU).prog) vE) ⟨0,0,0,0⟩ [a0Q ⟨0,0,0,0⟩])=aX (.next,⟨⟨XT (lB w.params),{}⟩,XT [],Yn,289,a⟩,(.body (Xu (Yg WU).prog) vE),⟨13,0,17,24⟩):=by kernel_rfl
open PySem.W PyProof.Rows in
set_option maxRecDepth 100000 in
set_option maxHeartbeats 0 in
theorem Ll(w:XF)(a:a1B):a3N Zo (Yg WU).prog w 11 (aX (W5 6)) 1 819 ⟨⟨XT (lB w.params),{}⟩,XT [],Yn,289,a⟩ (a3p (((Xu (Yg WU).prog).drop 6).take 32) vE (.body (Xu (Yg WU).prog) vE) ⟨13,0,17,24⟩ [a0Q ⟨0,0,0,0⟩])=aX (.next,⟨⟨XT (lC w.params),{}⟩,XT [],Yn,507,a⟩,(.body (Xu (Yg WU).prog) vE),⟨117,0,124,16⟩):=by kernel_rfl
open PySem.W PyProof.Rows in
set_option maxRecDepth 100000 in
set_option maxHeartbeats 0 in
theorem Lm(w:XF)(a:a1B):a3N Zo (Yg WU).prog w 11 (aX (W5 6)) 1 831 ⟨⟨XT (lC w.params),{}⟩,XT [],Yn,507,a⟩ (a3p ((((Xu (Yg WU).prog).drop 6).drop 32).take 26) vE (.body (Xu (Yg WU).prog) vE) ⟨117,0,124,16⟩ [a0Q ⟨0,0,0,0⟩])=aX (.next,⟨⟨XT (lD w.params),{}⟩,XT [],Yn,792,a⟩,(.body (Xu (Yg WU).prog) vE),⟨316,0,333,48⟩):=by kernel_rfl
open PySem.W PyProof.Rows in
set_option maxRecDepth 100000 in
set_option maxHeartbeats 0 in
theorem run:LeftO (Yg WU).prog Vw [] (λs=>xlAt Vw [] s&&recOk (a6B (a5p (Yg WU))) s) (Hook.obs (a7F Kx As qV)) (Hook.val (a7F Kx As qV)) 5644:=
 L3.left_cut (hA:=λP=>⟨XT (lA P),{}⟩) (hB:=λP=>⟨XT (lB P),{}⟩) (hC:=λP=>⟨XT (lC P),{}⟩) (hD:=λP=>⟨XT (lD P),{}⟩) (n4:=201) (i1:=6) (i2:=32) (i3:=26) (env:=vE) (boot_open (by kernel_rfl) (by kernel_rfl) (λ_=>by kernel_rfl)) (λw=>by kernel_rfl) Li Lj Lk Ll Lm (λw a=>by kernel_rfl) (by kernel_rfl)
end Lw
set_option maxHeartbeats 4000000
namespace L3
open PySem
open PySem.SetTable (Probe Met Slot bits runEnd leap turns insertAt sizeAbove)
namespace Tb
noncomputable def Ln(m:Nat)(p:Probe):Probe:=
 if p.more>0 then{p with j:=p.j+1,more:=p.more-1}else
 {p with j:=(leap m p.i p.perturb).1,more:=runEnd m (leap m p.i p.perturb).1-(leap m p.i p.perturb).1,i:=(leap m p.i p.perturb).1,perturb:=(leap m p.i p.perturb).2}
noncomputable def Lo(m:Nat)(b:Nat):Probe:={j:=b%(m+1),more:=runEnd m (b%(m+1))-b%(m+1),i:=b%(m+1),perturb:=b,dummy:=aY}
noncomputable def xP(m b:Nat):Nat->Probe
 |0=>Lo m b|k+1=>Ln m (xP m b k)
noncomputable def lp(m b:Nat):Nat->Nat×Nat
 |0=>(b%(m+1),b)|n+1=>leap m (lp m b n).1 (lp m b n).2
noncomputable def hd(m i q:Nat):Probe:={j:=i,more:=runEnd m i-i,i:=i,perturb:=q,dummy:=aY}
noncomputable def nx(m i:Nat):Nat:=(i*5+1)%(m+1)
noncomputable def Cz(m:Nat):Nat->Nat->Nat
 |0,i=>i|n+1,i=>Cz m n (nx m i)
noncomputable def nK(m:Nat):Nat->Nat->Nat->Nat
 |0,_,acc=>acc|f+1,i,acc=>nK m f (nx m i) (acc ||| (1 <<< i))
noncomputable def Lp(m:Nat):Bool:=nK m (m+1) 0 0==2^(m+1)-1&&Cz m (m+1) 0==0
noncomputable def CA(m:Nat)(S:List Nat)(b j:Nat):Prop:=∃k,(xP m b k).j=j/\∀k',k'<k->(xP m b k').j∈S
noncomputable abbrev tK:=Nat×Int×Value
structure Ok(t:a5V)(R:List tK):Prop where
 place:t.place.toList=R.map (·.1)
 dum:t.dummies=#[]
 rise:(R.map (·.1)).Pairwise (·<·)
 le:∀r∈R,r.1<=t.mask
 cov:Lp t.mask=b4
 odd:t.mask%2=1
 room:R.length<=t.mask
 road:∀r∈R,CA t.mask (R.map (·.1)) (bits r.2.1) r.1
section
variable{t:a5V}{R:List tK}
theorem Ok.size(o:Ok t R):t.place.size=R.length:=by have:=congrArg X0 o.place;simpa using this
theorem Ok.getD(o:Ok t R){i:Nat}(hi:i<R.length):t.place.getD i 0=(R[i]).1:=by
 have h:t.place.toList[i]?=(R.map (·.1))[i]?:=by rw[o.place]
 have a:i<t.place.size:=by rw[o.size];exact hi
 simp[hi,a]at h;simp[a1n,a,h]
end
noncomputable def lv(m:Nat)(a:Array (Option Nat)):List (Nat×Nat):=(X9 (m+1)).filterMap λj=>(a.getD j aY).map (j,·)
structure Ow(m:Nat)(ds:List Int)(ow:Array (Option Nat)):Prop where
 size:ow.size=m+1
 lt:∀j i,ow.getD j aY=aX i->i<ds.length
 all:∀i,i<ds.length->∃j,ow.getD j aY=aX i
 inj:∀j j' i,ow.getD j aY=aX i->ow.getD j' aY=aX i->j=j'
 road:∀j i,ow.getD j aY=aX i->CA m ((lv m ow).map (·.1)) (bits (ds.getD i 0)) j
section
variable{m:Nat}{ds:List Int}{ow:Array (Option Nat)}
end
theorem Ow.nil(m:Nat):Ow m [] (a3m (m+1) aY):=by
 have e:∀j,(a3m (m+1) (aY:Option Nat)).getD j aY=none:=λj=>by simp[a1n]
 have a:∀{P:Prop}(j i:Nat),(a3m (m+1) (aY:Option Nat)).getD j aY=aX i->P:=λj i h=>by rw[e]at h;exact nomatch h
 exact⟨by simp,λj i h=>a j i h,λi h=>absurd h (a1f _),λj b i h _=>a j i h,λj i h=>a j i h⟩
end Tb
end L3
namespace L3
open PySem
open PySem.SetTable (Probe Met Slot bits runEnd leap turns insertAt sizeAbove)
namespace Tb
section
variable{prog:Xw}{w:XF}{K:Type} [DecidableEq K] {knd:KeyKind prog w K}{A:XC}{E:Value->WX->Prop}{s:WX}
theorem fits_of{t:a5V}{R:List tK}{es:Array (Int×Value)}(o:Ok t R)(c:es.toList=R.map (·.2)):t.fits es.size=true:=by
 have a:es.size=R.length:=by simpa using congrArg X0 c
 have b:=o.room;unfold SetTable.fits SetTable.fill;rw[o.size,a,o.dum];simp;exact b
end
section
variable{prog:Xw}{w:XF}{A:XC}{E:Value->WX->Prop}{s:WX}
noncomputable abbrev El:=List Int×Addr
noncomputable def hashT(k:List Int):Int:=reduceHash (a6T (k.map hashInt))
noncomputable def Lq(p:El):Int×Value:=(hashT p.1,W5 p.2)
noncomputable def Lr(m:Nat):Prop:=m=7\/m=31\/m=127\/m=511
noncomputable def CB(w:XF):Bool:=w.params.followText "set-order"
noncomputable def CC(a:Bool)(L:List El)(o:Obj):Prop:=∃es ep t R,o.ExactSet/\o.data=.set es ep t/\es.toList=R.map (·.2)/\Ok t R/\es.toList.Perm (L.map Lq)/\(L.map (·.1)).Nodup/\Lr t.mask/\L.length*5<t.mask*3/\t.plain=b4/\t.led=a
noncomputable def SObj(L:List El)(o:Obj):Prop:=∃a,CC a L o
noncomputable def BF(prog:Xw)(w:XF)(h:Ye)(a:Addr)(L:List El):Prop:=∃o,h.get? a=aX o/\CC (!CB w) L o/\∀p∈L,IsTupleKey (a0A prog w) h p.1 p.2
end
end Tb
end L3
namespace L3
open PySem
namespace Tb
section
variable{prog:Xw}{w:XF}{A:XC}{E:Value->WX->Prop}{s:WX}
structure SAt(w:XF)(h:Ye)(a:Addr)(es:Array (Int×Value))(ep:Nat)(t:a5V)(R:List tK):Prop where
 at_:∃o,h.get? a=aX o/\o.cls=.type "set"/\o.data=.set es ep t
 he:es.toList=R.map (·.2)
 ok:Ok t R
 pl:t.plain=b4
 led:t.led=!CB w
end
end Tb
end L3
namespace L3
open PySem L2
inductive D where
 |non|bl (b:Bool)|int (i:Int)|str (x:Str)|tup (xs:List D)|rol (xs:List D)|loc (a:Nat)|ty (n:String)
 deriving Inhabited
inductive C where
 |lst (xs:List D)
 |dK (kvs:List (cA×D))
 |st (ks:List (List Int))
 |dT (kvs:List (List Int×D))
 |dF (kvs:List (List Int×D))
 deriving Inhabited
noncomputable abbrev Hm:=List C
noncomputable abbrev aG:=List (Option D)
noncomputable abbrev ME:=aG->Hm->Option (D×Hm)
noncomputable abbrev MT:=aG->Hm->Option (Bool×Hm)
noncomputable abbrev MA:=aG->Hm->Option (List D×Hm)
abbrev jk:=Option (D×Hm)
abbrev jx:=List (List Int×D)
abbrev jz:=D×Hm->Prop
inductive Fl where
 |nx|rt (d:D)|bk|ct
noncomputable abbrev MS:=aG->Hm->Option (Fl×aG×Hm)
noncomputable abbrev MF:=List D->Hm->jk
noncomputable def RoL(K:WQ)(H:Hp)(p:Addr)(xs:gw):Prop:=
 (∃o,H p=aX (.frz o (.lst xs))) \/
  ∃(o:Obj)(its:Array Value)(n:Nat),K.lookup p=aX o/\o.cls=.type "list"/\o.dict=aY/\o.data=.seq its n/\its.size<=W8/\Vals xs its.toList
theorem RoL.sq{K:WQ}{H:Hp}{p:Addr}{xs:gw}(h:RoL K H p xs):SqL K H p xs:=by
 rcases h with⟨o,h⟩|h
 ·exact .inl (.inr ⟨o,h⟩)
 ·exact .inr h
mutual
inductive IsD (K:WQ)(π:Nat->Addr)(n:Nat)(H:Hp):V->D->Prop where
 |non:IsD K π n H .non .non
 |bl (b:Bool):IsD K π n H (.bl b) (.bl b)
 |int (i:Int):IsD K π n H (.int i) (.int i)
 |str (x:Str):IsD K π n H (.str x) (.str x)
 |tup {p:Addr}{vs:gw}{ds:List D}(h:SqT K H p vs)(t:IsDs K π n H vs ds):IsD K π n H (.ref p) (.tup ds)
 |rol {p:Addr}{vs:gw}{ds:List D}(h:RoL K H p vs)(t:IsDs K π n H vs ds):IsD K π n H (.ref p) (.rol ds)
 |loc {a:Nat}(h:a<n):IsD K π n H (.ref (π a)) (.loc a)
 |ty (x:String):IsD K π n H (.ty x) (.ty x)
inductive IsDs (K:WQ)(π:Nat->Addr)(n:Nat)(H:Hp):gw->List D->Prop where
 |nil:IsDs K π n H [] []
 |cons {v:V}{d:D}{vs:gw}{ds:List D}(h:IsD K π n H v d)(t:IsDs K π n H vs ds):IsDs K π n H (v::vs) (d::ds)
end
structure Ext(π:Nat->Addr)(n:Nat)(H:Hp)(π':Nat->Addr)(n':Nat)(H':Hp):Prop where
 le:n<=n'
 pi:∀a,a<n->π' a=π a
 tup:∀p vs,H p=aX (.tup vs)->H' p=aX (.tup vs)
 frz:∀p o u,H p=aX (.frz o u)->H' p=aX (.frz o u)
structure Ext0(π:Nat->Addr)(n:Nat)(H:Hp)(π':Nat->Addr)(n':Nat)(H':Hp):Prop where
 le:n<=n'
 pi:∀a,a<n->π' a=π a
 tup:∀p vs,H p=aX (.tup vs)->H' p=aX (.tup vs)
 frz:∀p o u,(∀φ,u≠HO.ext φ)->H p=aX (.frz o u)->H' p=aX (.frz o u)
section
variable{K:WQ}{π π' π2:Nat->Addr}{n n' n2:Nat}{H H' H2:Hp}
theorem Ext.weak(e:Ext π n H π' n' H'):Ext0 π n H π' n' H':=⟨e.le,e.pi,e.tup,λp o u _ h=>e.frz p o u h⟩
theorem Ext.refl:Ext π n H π n H:=⟨WY _,λ_ _=>rfl,λ_ _ h=>h,λ_ _ _ h=>h⟩
theorem Ext.trans(a:Ext π n H π' n' H')(b:Ext π' n' H' π2 n2 H2):Ext π n H π2 n2 H2:=
 ⟨Xz a.le b.le,λi h=>(b.pi i (Xq h a.le)).trans (a.pi i h),λp c h=>b.tup p c (a.tup p c h),λp o u h=>b.frz p o u (a.frz p o u h)⟩
theorem Ext0.sqT(e:Ext0 π n H π' n' H'){p:Addr}{vs:gw}(h:SqT K H p vs):SqT K H' p vs:=by
 rcases h with h|h
 ·rcases h with h|⟨o,h⟩
  ·exact .inl (.inl (e.tup _ _ h))
  ·exact .inl (.inr ⟨o,e.frz _ _ _ (λ_ z=>nomatch z) h⟩)
 ·exact .inr h
theorem Ext.sqT(e:Ext π n H π' n' H'){p:Addr}{vs:gw}(h:SqT K H p vs):SqT K H' p vs:=e.weak.sqT h
theorem Ext0.roL(e:Ext0 π n H π' n' H'){p:Addr}{vs:gw}(h:RoL K H p vs):RoL K H' p vs:=by
 rcases h with⟨o,h⟩|h
 ·exact .inl ⟨o,e.frz _ _ _ (λ_ z=>nomatch z) h⟩
 ·exact .inr h
theorem Ext.roL(e:Ext π n H π' n' H'){p:Addr}{vs:gw}(h:RoL K H p vs):RoL K H' p vs:=e.weak.roL h
mutual
theorem IsD.mono0{v:V}{d:D}(e:Ext0 π n H π' n' H'):IsD K π n H v d->IsD K π' n' H' v d
 |.non=>.non|.bl b=>.bl b|.int i=>.int i|.str x=>.str x|.ty x=>.ty x|.tup h t=>.tup (e.sqT h) (IsDs.mono0 e t)|.rol h t=>.rol (e.roL h) (IsDs.mono0 e t)|.loc h=>by rw[<- e.pi _ h];exact .loc (Xq h e.le)
theorem IsDs.mono0{vs:gw}{ds:List D}(e:Ext0 π n H π' n' H'):IsDs K π n H vs ds->IsDs K π' n' H' vs ds
 |.nil=>.nil|.cons h t=>.cons (IsD.mono0 e h) (IsDs.mono0 e t)
end
theorem IsD.mono{v:V}{d:D}(e:Ext π n H π' n' H')(h:IsD K π n H v d):IsD K π' n' H' v d:=h.mono0 e.weak
theorem IsDs.mono{vs:gw}{ds:List D}(e:Ext π n H π' n' H')(h:IsDs K π n H vs ds):IsDs K π' n' H' vs ds:=h.mono0 e.weak
theorem IsDs.length{vs:gw}{ds:List D}(h:IsDs K π n H vs ds):vs.length=ds.length:=by
 induction ds generalizing vs with
 |nil=>cases h;rfl|cons d ds a=>
  cases h with
  |cons h t=>rw[Xy,Xy,a t]
theorem IsDs.get{vs:gw}{ds:List D}(h:IsDs K π n H vs ds){i:Nat}{d:D}(e:ds[i]?=aX d):∃v,vs[i]?=aX v/\IsD K π n H v d:=by
 induction ds generalizing vs i with
 |nil=>simp at e|cons g ds c=>
  cases h with
  |cons h t=>
   cases i with
   |zero=>simp at e;subst e;exact⟨_,rfl,h⟩|succ i=>obtain⟨v,a,b⟩:=c t (by simpa using e);exact⟨v,by simpa using a,b⟩
theorem IsDs.append{vs ws:gw}{ds es:List D}(h:IsDs K π n H vs ds)(a:IsDs K π n H ws es):IsDs K π n H (vs++ws) (ds++es):=by
 induction ds generalizing vs with
 |nil=>cases h;exact a|cons d ds b=>
  cases h with
  |cons h t=>exact .cons h (b t)
theorem IsDs.drop{vs:gw}{ds:List D}(h:IsDs K π n H vs ds)(k:Nat):IsDs K π n H (vs.drop k) (ds.drop k):=by
 induction ds generalizing vs k with
 |nil=>cases h;simpa using IsDs.nil|cons d ds a=>
  cases h with
  |cons h t=>
   cases k with
   |zero=>exact .cons h t|succ k=>exact a t k
theorem IsDs.take{vs:gw}{ds:List D}(h:IsDs K π n H vs ds)(k:Nat):IsDs K π n H (vs.take k) (ds.take k):=by
 induction ds generalizing vs k with
 |nil=>cases h;simpa using IsDs.nil|cons d ds a=>
  cases h with
  |cons h t=>
   cases k with
   |zero=>exact .nil|succ k=>exact .cons h (a t k)
theorem IsDs.atI{vs:gw}{ds:List D}(h:IsDs K π n H vs ds){i:Int}{d:D}(e:L2.atI ds i=aX d):∃v,L2.atI vs i=aX v/\IsD K π n H v d:=by
 unfold L2.atI at e ⊢;rw[h.length];cases q:iU ds.length i with
 |none=>rw[q]at e;cases e|some j=>rw[q]at e;exact h.get e
end
noncomputable def tL(p:Addr)(L:List Tb.El):HO:=.ext λh=>∃o,h.get? p=aX o/\Tb.SObj L o
noncomputable def tP(p:List Int×Addr×V)(w:Value):DictEntry:=⟨Tb.hashT p.1,.ref p.2.1,w⟩
noncomputable def aU(a:Addr)(ps:List (List Int×Addr×V)):HO:=.ext λh=>∃ws:gq,Vals (ps.map (·.2.2)) ws/\(a==YG)=b3/\ps.length<=W8 /\
 ∃o b c,h.get? a=aX o/\o.ExactDict/\o.data=.dict b c/\b.toList=a1W tP ps ws/\(ps.map (·.1)).Nodup
structure Rp(K:WQ)(π:Nat->Addr)(H:Hp)(μ:Hm):Prop where
 inj:∀a b,a<μ.length->b<μ.length->π a=π b->a=b
 has:∀a,a<μ.length->(H (π a)).isSome=b4
 lst:∀a xs,μ[a]?=aX (.lst xs)->∃vs,H (π a)=aX (.lst vs)/\IsDs K π μ.length H vs xs
 dK:∀a kvs,μ[a]?=aX (.dK kvs)->∃vs,H (π a)=aX (.dK vs)/\vs.map (·.1)=kvs.map (·.1)/\IsDs K π μ.length H (vs.map (·.2)) (kvs.map (·.2))
 st:∀a ks,μ[a]?=aX (.st ks)->∃L:List Tb.El,H (π a)=aX (tL (π a) L)/\L.map (·.1)=ks/\IsDs K π μ.length H (L.map λp=>V.ref p.2) (ks.map λk=>D.tup (k.map D.int))
 dT:∀a kvs,μ[a]?=aX (.dT kvs)->∃ps:List (List Int×Addr×V),H (π a)=aX (aU (π a) ps)/\ps.map (·.1)=kvs.map (·.1)/\IsDs K π μ.length H (ps.map λp=>V.ref p.2.1) (kvs.map λk=>D.tup (k.1.map D.int))/\IsDs K π μ.length H (ps.map (·.2.2)) (kvs.map (·.2))
 dF:∀a kvs,μ[a]?=aX (.dF kvs)->∃(ob:Obj)(ps:List (List Int×Addr×V)),H (π a)=aX (.frz ob (aU (π a) ps))/\ps.map (·.1)=kvs.map (·.1)/\IsDs K π μ.length H (ps.map λp=>V.ref p.2.1) (kvs.map λk=>D.tup (k.1.map D.int))/\IsDs K π μ.length H (ps.map (·.2.2)) (kvs.map (·.2))
structure En(K:WQ)(π:Nat->Addr)(n:Nat)(H:Hp)(σ:St)(ρ:aG):Prop where
 len:σ.length=ρ.length
 get:∀(i:Nat)(d:D),ρ[i]?=aX (aX d)->∃v,σ[i]?=aX (aX v)/\IsD K π n H v d
section
variable{K:WQ}{π π' π2:Nat->Addr}{n n' n2:Nat}{H H' H2:Hp}{μ μ':Hm}{σ:St}{ρ:aG}
theorem En.mono(E:En K π n H σ ρ)(e:Ext π n H π' n' H'):En K π' n' H' σ ρ:=
 ⟨E.len,λi d h=>let⟨v,a,b⟩:=E.get i d h;⟨v,a,b.mono e⟩⟩
theorem En.set(E:En K π n H σ ρ){v:V}{d:D}(h:IsD K π n H v d)(i:Nat):En K π n H (σ.set i (aX v)) (ρ.set i (aX d)):=by
 refine⟨by rw[XO,XO];exact E.len,λj c e=>?_⟩;rw[List.getElem?_set]at e ⊢;by_cases a:i=j
 ·subst a;rw[if_pos rfl]at e ⊢;rw[E.len];by_cases b:i<ρ.length
  ·rw[if_pos b]at e ⊢;cases e;exact⟨v,rfl,h⟩
  ·rw[if_neg b]at e;cases e
 ·rw[if_neg a]at e ⊢;exact E.get j c e
theorem Rp.ne{p:Addr}(R:Rp K π H μ)(h:H p=aY){a:Nat}(b:a<μ.length):π a≠p:=λe=>by have:=R.has a b;rw[e,h]at this;cases this
theorem Rp.fresh{p:Addr}{o:HO}(R:Rp K π H μ)(h:H p=aY):Ext π μ.length H π μ.length (aM H p o)/\Rp K π (aM H p o) μ:=by
 have c:∀b u,H b=aX u->aM H p o b=aX u:=λb u e=>by rw[bF (fI e h)];exact e
 have e:Ext π μ.length H π μ.length (aM H p o):=⟨WY _,λ_ _=>rfl,λq i e=>c q _ e,λq o u e=>c q _ e⟩;refine⟨e,R.inj,λa d=>?_,λa v d=>?_,λa g d=>?_,λa r d=>?_
  ,λa g d=>?_
  ,λa g d=>?_
  ⟩
 ·rw[bF (R.ne h d)];exact R.has a d
 ·obtain⟨i,j,k⟩:=R.lst a v d;exact⟨i,c _ _ j,k.mono e⟩
 ·obtain⟨i,j,k,l⟩:=R.dK a g d;exact⟨i,c _ _ j,k,l.mono e⟩
 ·obtain⟨i,j,k,l⟩:=R.st a r d;exact⟨i,c _ _ j,k,l.mono e⟩
 ·obtain⟨i,j,k,l,m⟩:=R.dT a g d;exact⟨i,c _ _ j,k,l.mono e,m.mono e⟩
 ·obtain⟨s,i,j,k,l,m⟩:=R.dF a g d;exact⟨s,i,c _ _ j,k,l.mono e,m.mono e⟩
noncomputable def qW(K:WQ)(π:Nat->Addr)(n:Nat)(H:Hp)(p:Addr):C->HO->Prop
 |.lst xs,.lst vs=>IsDs K π n H vs xs|.dK kvs,.dK vs=>vs.map (·.1)=kvs.map (·.1)/\IsDs K π n H (vs.map (·.2)) (kvs.map (·.2))|.st ks,o=>∃L:List Tb.El,o=tL p L/\L.map (·.1)=ks/\IsDs K π n H (L.map λp=>V.ref p.2) (ks.map λk=>D.tup (k.map D.int))|.dT kvs,o=>∃ps:List (List Int×Addr×V),o=aU p ps/\ps.map (·.1)=kvs.map (·.1)/\IsDs K π n H (ps.map λp=>V.ref p.2.1) (kvs.map λk=>D.tup (k.1.map D.int))/\IsDs K π n H (ps.map (·.2.2)) (kvs.map (·.2))|.dF kvs,o=>∃(a:Obj)(ps:List (List Int×Addr×V)),o=.frz a (aU p ps)/\ps.map (·.1)=kvs.map (·.1)/\IsDs K π n H (ps.map λp=>V.ref p.2.1) (kvs.map λk=>D.tup (k.1.map D.int))/\IsDs K π n H (ps.map (·.2.2)) (kvs.map (·.2))|_,_=>False
noncomputable def iX(π:Nat->Addr)(n:Nat)(p:Addr):Nat->Addr:=λa=>if a=n then p else π a
theorem Rp.alloc{p:Addr}{c:C}{o:HO}(R:Rp K π H μ)(h:H p=aY)(hc:qW K π μ.length H p c o) :
  Ext π μ.length H (iX π μ.length p) (μ++[c]).length (aM H p o)/\Rp K (iX π μ.length p) (aM H p o) (μ++[c])/\iX π μ.length p μ.length=p:=by
 have B:(μ++[c]).length=μ.length+1:=by simp
 have g:∀b u,H b=aX u->aM H p o b=aX u:=λb u e=>by rw[bF (fI e h)];exact e
 have x:iX π μ.length p μ.length=p:=if_pos rfl;have v:∀a,a<μ.length->iX π μ.length p a=π a:=λa d=>if_neg (Xd d);have e:Ext π μ.length H (iX π μ.length p) (μ++[c]).length (aM H p o):=⟨by rw[B];exact ZH _,v,λq m e=>g q _ e,λq o u e=>g q _ e⟩;have split:∀a,a<(μ++[c]).length->a<μ.length\/a=μ.length:=λa d=>by rw[B]at d;omega
 have get:∀a,a<μ.length->(μ++[c])[a]?=μ[a]?:=λa d=>XM d;have j:(μ++[c])[μ.length]?=aX c:=by simp
 refine⟨e,⟨λa b d z q=>?_,λa d=>?_,λa G d=>?_,λa s d=>?_,λa E d=>?_
  ,λa s d=>?_
  ,λa s d=>?_
  ⟩,x⟩
 ·rcases split a d with d|rfl<;>rcases split b z with z|rfl
  ·rw[v a d,v b z]at q;exact R.inj a b d z q
  ·rw[v a d,x]at q;exact absurd q (R.ne h d)
  ·rw[x,v b z]at q;exact absurd q.symm (R.ne h z)
  ·rfl
 ·rcases split a d with d|rfl
  ·rw[v a d,bF (R.ne h d)];exact R.has a d
  ·rw[x,cQ];rfl
 ·have i:a<(μ++[c]).length:=(WR.mp d).1;rcases split a i with l|rfl
  ·rw[get a l]at d;obtain⟨m,w,k⟩:=R.lst a G d;rw[v a l];exact⟨m,g _ _ w,k.mono e⟩
  ·rw[j]at d;cases d;cases o with
   |lst m=>rw[x];exact⟨m,cQ,IsDs.mono e hc⟩|_=>exact Zf hc
 ·have i:a<(μ++[c]).length:=(WR.mp d).1;rcases split a i with l|rfl
  ·rw[get a l]at d;obtain⟨m,w,k,r⟩:=R.dK a s d;rw[v a l];exact⟨m,g _ _ w,k,r.mono e⟩
  ·rw[j]at d;cases d;cases o with
   |dK m=>rw[x];exact⟨m,cQ,hc.1,IsDs.mono e hc.2⟩|_=>exact Zf hc
 ·have i:a<(μ++[c]).length:=(WR.mp d).1;rcases split a i with l|rfl
  ·rw[get a l]at d;obtain⟨m,w,k,r⟩:=R.st a E d;rw[v a l];exact⟨m,g _ _ w,k,r.mono e⟩
  ·rw[j]at d;cases d;obtain⟨L,rfl,k,r⟩:=hc;rw[x];exact⟨L,cQ,k,r.mono e⟩
 ·have i:a<(μ++[c]).length:=(WR.mp d).1;rcases split a i with l|rfl
  ·rw[get a l]at d;obtain⟨m,w,k,r,y⟩:=R.dT a s d;rw[v a l];exact⟨m,g _ _ w,k,r.mono e,y.mono e⟩
  ·rw[j]at d;cases d;obtain⟨L,rfl,k,r,y⟩:=hc;rw[x];exact⟨L,cQ,k,r.mono e,y.mono e⟩
 ·have i:a<(μ++[c]).length:=(WR.mp d).1;rcases split a i with l|rfl
  ·rw[get a l]at d;obtain⟨A,m,w,k,r,y⟩:=R.dF a s d;rw[v a l];exact⟨A,m,g _ _ w,k,r.mono e,y.mono e⟩
  ·rw[j]at d;cases d;obtain⟨A,L,rfl,k,r,y⟩:=hc;rw[x];exact⟨A,L,cQ,k,r.mono e,y.mono e⟩
theorem Rp.putU{a:Nat}{c:C}{o u:HO}(R:Rp K π H μ)(E:a<μ.length)(y:H (π a)=aX u)(A:(∀vs,u≠.tup vs)/\∀s v,(∀J,v≠HO.ext J)->u≠.frz s v)(hc:qW K π μ.length H (π a) c o) :
  Ext0 π μ.length H π (μ.set a c).length (aM H (π a) o)/\Rp K π (aM H (π a) o) (μ.set a c):=by
 have m:(μ.set a c).length=μ.length:=XO ..;have e:Ext0 π μ.length H π (μ.set a c).length (aM H (π a) o):=by
  refine⟨a0j m.symm,λ_ _=>rfl,λq vs z=>?_,λq M N nx z=>?_⟩
  ·rw[bF]
   ·exact z
   ·intro e;subst e;rw[y]at z;exact A.1 _ (Xg z)
  ·rw[bF]
   ·exact z
   ·intro e;subst e;rw[y]at z;exact A.2 _ _ nx (Xg z)
 have i:∀b,b<μ.length->b≠a->aM H (π a) o (π b)=H (π b):=λb d x=>bF λq=>x (R.inj b a d E q);refine⟨e,⟨λb B d w=>R.inj b B (m▸d) (m▸w),λb d=>?_,λb I d=>?_,λb l d=>?_,λb G d=>?_
  ,λb l d=>?_
  ,λb l d=>?_
  ⟩⟩
 ·by_cases h:b=a
  ·subst h;rw[cQ];rfl
  ·rw[i b (m▸d) h];exact R.has b (m▸d)
 ·have g:b<μ.length:=m▸(WR.mp d).1;by_cases h:b=a
  ·subst h;rw[XY g]at d;cases d;cases o with
   |lst vs=>exact⟨vs,cQ,IsDs.mono0 e hc⟩|_=>exact Zf hc
  ·rw[WT (XI h)]at d;obtain⟨vs,p,j⟩:=R.lst b I d;exact⟨vs,by rw[i b g h];exact p,j.mono0 e⟩
 ·have g:b<μ.length:=m▸(WR.mp d).1;by_cases h:b=a
  ·subst h;rw[XY g]at d;cases d;cases o with
   |dK vs=>exact⟨vs,cQ,hc.1,IsDs.mono0 e hc.2⟩|_=>exact Zf hc
  ·rw[WT (XI h)]at d;obtain⟨vs,p,j,k⟩:=R.dK b l d;exact⟨vs,by rw[i b g h];exact p,j,k.mono0 e⟩
 ·have g:b<μ.length:=m▸(WR.mp d).1;by_cases h:b=a
  ·subst h;rw[XY g]at d;cases d;obtain⟨L,rfl,j,k⟩:=hc;exact⟨L,cQ,j,k.mono0 e⟩
  ·rw[WT (XI h)]at d;obtain⟨vs,p,j,k⟩:=R.st b G d;exact⟨vs,by rw[i b g h];exact p,j,k.mono0 e⟩
 ·have g:b<μ.length:=m▸(WR.mp d).1;by_cases h:b=a
  ·subst h;rw[XY g]at d;cases d;obtain⟨L,rfl,j,k,r⟩:=hc;exact⟨L,cQ,j,k.mono0 e,r.mono0 e⟩
  ·rw[WT (XI h)]at d;obtain⟨vs,p,j,k,r⟩:=R.dT b l d;exact⟨vs,by rw[i b g h];exact p,j,k.mono0 e,r.mono0 e⟩
 ·have g:b<μ.length:=m▸(WR.mp d).1;by_cases h:b=a
  ·subst h;rw[XY g]at d;cases d;obtain⟨s,L,rfl,j,k,r⟩:=hc;exact⟨s,L,cQ,j,k.mono0 e,r.mono0 e⟩
  ·rw[WT (XI h)]at d;obtain⟨s,vs,p,j,k,r⟩:=R.dF b l d;exact⟨s,vs,by rw[i b g h];exact p,j,k.mono0 e,r.mono0 e⟩
theorem Rp.put0{a:Nat}{c:C}{o u:HO}(R:Rp K π H μ)(g:a<μ.length)(h:H (π a)=aX u)(e:(∃vs,u=.lst vs)\/(∃vs,u=.dK vs)\/(∃d,u=.ext d)\/∃b d,u=.frz b (.ext d))(hc:qW K π μ.length H (π a) c o) :
  Ext0 π μ.length H π (μ.set a c).length (aM H (π a) o)/\Rp K π (aM H (π a) o) (μ.set a c):=
 R.putU g h ⟨λvs z=>(by rcases e with⟨w,rfl⟩|⟨w,rfl⟩|⟨w,rfl⟩|⟨b,w,rfl⟩<;>cases z),λb v nx z=>by
  rcases e with⟨w,rfl⟩|⟨w,rfl⟩|⟨w,rfl⟩|⟨b,w,rfl⟩<;>cases z;exact nx _ rfl⟩ hc
theorem Rp.putE{a:Nat}{c:C}{o u:HO}(R:Rp K π H μ)(h:a<μ.length)(d:H (π a)=aX u)(b:(∀vs,u≠.tup vs)/\∀g v,u≠.frz g v)(hc:qW K π μ.length H (π a) c o) :
  Ext π μ.length H π (μ.set a c).length (aM H (π a) o)/\Rp K π (aM H (π a) o) (μ.set a c):=by
 have e:Ext π μ.length H π (μ.set a c).length (aM H (π a) o):=by
  refine⟨a0j (XO ..).symm,λ_ _=>rfl,λq vs z=>?_,λq i j z=>?_⟩
  ·rw[bF]
   ·exact z
   ·intro e;subst e;rw[d]at z;exact b.1 _ (Xg z)
  ·rw[bF]
   ·exact z
   ·intro e;subst e;rw[d]at z;exact b.2 _ _ (Xg z)
 exact⟨e,(R.putU h d ⟨b.1,λg v _=>b.2 g v⟩ hc).2⟩
theorem Rp.put{a:Nat}{c:C}{o u:HO}(R:Rp K π H μ)(d:a<μ.length)(e:H (π a)=aX u)(b:(∃vs,u=.lst vs)\/(∃vs,u=.dK vs)\/∃g,u=.ext g)(hc:qW K π μ.length H (π a) c o) :
  Ext π μ.length H π (μ.set a c).length (aM H (π a) o)/\Rp K π (aM H (π a) o) (μ.set a c):=
 R.putE d e ⟨λvs z=>(by rcases b with⟨w,rfl⟩|⟨w,rfl⟩|⟨w,rfl⟩<;>cases z),λh v z=>by rcases b with⟨w,rfl⟩|⟨w,rfl⟩|⟨w,rfl⟩<;>cases z⟩ hc
end
noncomputable def KC(K:WQ)(Q:VK)(π:Nat->Addr)(n:Nat)(H:Hp)(d:D)(a:Hm):Prop:=
 ∀b v c,Ext π n H b a.length c->Rp K b c a->IsD K b a.length c v d->Q v c
theorem KC.after{K:WQ}{Q:VK}{π b:Nat->Addr}{n h:Nat}{H g:Hp}{d:D}{a:Hm}(k:KC K Q π n H d a)(e:Ext π n H b h g):KC K Q b h g d a:=
 λc v j l R i=>k c v j (e.trans l) R i
inductive tM (K:WQ)(m:ME)(σ:St)(H:Hp)(Q:VK):Prop
 |mk (π:Nat->Addr)(ρ:aG)(μ:Hm)(d:D)(μ':Hm)(R:Rp K π H μ)(E:En K π μ.length H σ ρ)(hm:m ρ μ=aX (d,μ'))(k:KC K Q π μ.length H d μ'):tM K m σ H Q
inductive tMT (K:WQ)(m:MT)(σ:St)(H:Hp)(Q:Bool->Hp->Prop):Prop
 |mk (π:Nat->Addr)(ρ:aG)(μ:Hm)(b:Bool)(μ':Hm)(R:Rp K π H μ)(E:En K π μ.length H σ ρ)(hm:m ρ μ=aX (b,μ'))(k:∀π' H',Ext π μ.length H π' μ'.length H'->Rp K π' H' μ'->Q b H'):tMT K m σ H Q
inductive tMA (K:WQ)(m:MA)(σ:St)(H:Hp)(Q:gw->Hp->Prop):Prop
 |mk (π:Nat->Addr)(ρ:aG)(μ:Hm)(ds:List D)(μ':Hm)(R:Rp K π H μ)(E:En K π μ.length H σ ρ)(hm:m ρ μ=aX (ds,μ'))(k:∀π' vs H',Ext π μ.length H π' μ'.length H'->Rp K π' H' μ'->IsDs K π' μ'.length H' vs ds->Q vs H'):tMA K m σ H Q
noncomputable def nM(K:WQ)(E:Ends)(π:Nat->Addr)(n:Nat)(H:Hp)(h:Fl)(g:aG)(b:Hm):Prop:=
 match h with
 |.nx=>∀a c e,Ext π n H a b.length e->Rp K a e b->En K a b.length e c g->E.nx c e|.bk=>∀a c e,Ext π n H a b.length e->Rp K a e b->En K a b.length e c g->E.bk c e|.ct=>∀a c e,Ext π n H a b.length e->Rp K a e b->En K a b.length e c g->E.ct c e|.rt d=>KC K E.rt π n H d b
inductive tMS (K:WQ)(m:MS)(E:Ends)(σ:St)(H:Hp):Prop
 |mk (π:Nat->Addr)(ρ:aG)(μ:Hm)(fl:Fl)(ρ':aG)(μ':Hm)(R:Rp K π H μ)(EN:En K π μ.length H σ ρ)(hm:m ρ μ=aX (fl,ρ',μ'))(k:nM K E π μ.length H fl ρ' μ'):tMS K m E σ H
inductive spI0 (K:WQ)(f:MF)(vs:gw)(H:Hp)(Q:VK):Prop
 |mk (π:Nat->Addr)(ds:List D)(μ:Hm)(d:D)(μ':Hm)(R:Rp K π H μ)(i:IsDs K π μ.length H vs ds)(hm:f ds μ=aX (d,μ'))(k:KC K Q π μ.length H d μ'):spI0 K f vs H Q
noncomputable def jL(K:WQ)(k:Nat)(f:MF):Sp:=λvs H Q _=>vs.length=k/\spI0 K f vs H Q
section
variable{X:Cx}{e a b c:Expr}{t:TE}{m ma mb mc:ME}{pos:YE}
theorem dE(h:PE X e t)(hw:∀σ H Q,tM X.K m σ H Q->t σ H Q):PE X e (tM X.K m):=λa7J s σ H Q I q=>h a7J s σ H Q I (hw σ H Q q)
theorem tQ{t:TT}{m:MT}(h:PT X e t)(hw:∀σ H Q,tMT X.K m σ H Q->t σ H Q):PT X e (tMT X.K m):=λa7J s σ H Q I q=>h a7J s σ H Q I (hw σ H Q q)
theorem CD{t:TT}{m:MT}(h:PW X e t)(hw:∀σ H Q,tMT X.K m σ H Q->t σ H Q):PW X e (tMT X.K m):=λd a7J s σ H Q I q=>h d a7J s σ H Q I (hw σ H Q q)
theorem CF{es:List Expr}{t:TA}{m:MA}(h:PA X es t)(hw:∀σ H Q,tMA X.K m σ H Q->t σ H Q):PA X es (tMA X.K m):=λp a7J s σ H Q I q=>h p a7J s σ H Q I (hw σ H Q q)
theorem iY{st:Stmt}{t:TS}{m:MS}(h:PS X st t)(hw:∀E σ H,tMS X.K m E σ H->t E σ H):PS X st (tMS X.K m):=λa7J s σ H E I q=>h a7J s σ H E I (hw E σ H q)
theorem CG{st:List Stmt}{t:TS}{m:MS}(h:PSs X st t)(hw:∀E σ H,tMS X.K m E σ H->t E σ H):PSs X st (tMS X.K m):=λa7J s σ H E I q=>h a7J s σ H E I (hw E σ H q)
noncomputable def aA(i:Nat):ME:=λh g=>match h[i]? with|some (aX d)=>aX (d,g)|_=>aY
noncomputable def mC(d:D):ME:=λ_ g=>aX (d,g)
theorem Ls{i:Nat}{k:aG}{j g:Hm}{d:D}(h:aA i k j=aX (d,g)):k[i]?=aX (aX d)/\g=j:=by
 unfold aA at h;split at h
 ·rename_i l e;cases h;exact⟨e,rfl⟩
 ·cases h
theorem Lu{x:Str}(i:Nat)(h:PE X (.Name x pos) (wZ i)):PE X (.Name x pos) (tM X.K (aA i)):=dE h (by
 rintro s H Q ⟨p,r,q,d,o,R,E,n,k⟩;obtain⟨g,rfl⟩:=Ls n;obtain⟨v,j,l⟩:=E.get i d g;exact⟨v,j,k p v H .refl R l⟩)
theorem oU{v:V}{d:D}(h:PE X e (tC v))(hd:∀π n H,IsD X.K π n H v d):PE X e (tM X.K (mC d)):=dE h (by
 rintro p H Q ⟨π,o,l,j,i,R,E,g,k⟩;cases g;exact k π v H .refl R (hd _ _ _))
theorem Lv{i:Int}{j:Nat}:PE X (.Constant (.int i) j pos) (tM X.K (mC (.int i))):=oU IY λ_ _ _=>.int i
theorem Lx{i:Bool}{j:Nat}:PE X (.Constant (.bool i) j pos) (tM X.K (mC (.bl i))):=oU IZ λ_ _ _=>.bl i
theorem Lz{i:Str}{j:Nat}:PE X (.Constant (.str i) j pos) (tM X.K (mC (.str i))):=oU Jb λ_ _ _=>.str i
theorem LA{j:Nat}:PE X (.Constant .none j pos) (tM X.K (mC .non)):=oU Ja λ_ _ _=>.non
noncomputable def aC(f:D->D->Hm->jk)(a b:ME):ME:=λd g=>(a d g).bind λp=>(b d p.2).bind λq=>f p.1 q.1 q.2
noncomputable def dQ(K:WQ)(f:D->D->Hm->jk)(r:R2):Prop:=
 ∀i H g x y d h j k Q,Rp K i H g->IsD K i g.length H j x->IsD K i g.length H k y->f x y g=aX (d,h)->KC K Q i g.length H d h->r j k H Q
theorem qX{f:D->D->Hm->jk}{r:R2}{K:WQ}(z:dQ K f r):∀σ H Q,tM K (aC f ma mb) σ H Q->qU r (tM K ma) (tM K mb) σ H Q:=by rintro σ H Q ⟨L,q,J,d,j,R,E,g,k⟩;obtain⟨⟨x,h⟩,v,g⟩:=WM.mp g;obtain⟨⟨y,i⟩,w,g⟩:=WM.mp g;exact⟨L,q,J,x,h,R,E,v,λl G M o u A=>⟨l,q,h,y,i,u,E.mono o,w,λn I s p R2 B=>z n s i x y d j G I Q R2 (A.mono p) B g (k.after (o.trans p))⟩⟩
theorem LB{op:a4q}{r:R2}{f:D->D->Hm->jk}(i:OpR X (ZX op) r)(h:dQ X.K f r)(d:PE X a (tM X.K ma))(g:PE X b (tM X.K mb)):PE X (.BinOp a op b pos) (tM X.K (aC f ma mb)):=
 dE (Kb i d g) (qX h)
theorem iZ{op:a0Z}{r:R2}{f:D->D->Hm->jk}(j:OpR X (Yv op) r)(h:dQ X.K f r)(d:PE X a (tM X.K ma))(g:PE X b (tM X.K mb))(i:a0b op b=b3):PE X (.Compare a [op] [b] pos) (tM X.K (aC f ma mb)):=
 dE (Ki j d g i) (qX h)
noncomputable def a8(m:ME):MT:=λg d=>(m g d).bind λp=>match p.1 with|.bl b=>aX (b,p.2)|_=>aY
theorem CH{K:WQ}:∀σ H Q,tMT K (a8 m) σ H Q->tM K m σ H λx g=>∃k,x=.bl k/\Q k g:=by
 rintro σ H Q ⟨r,s,o,b,p,R,E,d,k⟩;obtain⟨⟨x,q⟩,l,d⟩:=WM.mp d;cases x with
 |bl c=>cases d;refine⟨r,s,o,_,_,R,E,l,λh v g j i n=>?_⟩;cases n;exact⟨_,rfl,k h g j i⟩|_=>cases d
theorem i7{op:a0Z}{r:R2}{f:D->D->Hm->jk}(l:OpR X (Yv op) r)(j:dQ X.K f r)(g:PE X a (tM X.K ma))(i:PE X b (tM X.K mb))(k:a0b op b=b3):PT X (.Compare a [op] [b] pos) (tMT X.K (a8 (aC f ma mb))):=
 tQ (Kj l g i k) λd H Q h=>qX j d H _ (CH d H Q h)
end
section
variable{X:Cx}{e a b c:Expr}{m ma mb mc:ME}{pos:YE}{mt mu:MT}{b6:List Expr}
noncomputable def fD(a b:MT):MT:=λd g=>(a d g).bind λp=>match p.1 with|true=>b d p.2|false=>aX (b3,p.2)
noncomputable def iE(a b:MT):MT:=λd g=>(a d g).bind λp=>match p.1 with|true=>aX (b4,p.2)|false=>b d p.2
noncomputable def j9(a:MT):MT:=λg d=>(a g d).map λp=>(!p.1,p.2)
theorem LC(d:PT X a (tMT X.K mt)):PW X (.BoolOp .And [a] pos) (tMT X.K mt):=Jh d
theorem LF(d:PT X a (tMT X.K mt)):PW X (.BoolOp .Or [a] pos) (tMT X.K mt):=Ji d
theorem LG(v:PT X a (tMT X.K mt))(w:PW X (.BoolOp .And (b::b6) pos) (tMT X.K mu)):PW X (.BoolOp .And (a::b::b6) pos) (tMT X.K (fD mt mu)):=CD (Jj v w) (by
 rintro A H Q ⟨z,p,y,d,l,R,E,i,k⟩;obtain⟨⟨x,g⟩,u,i⟩:=WM.mp i;refine⟨z,p,y,x,g,R,E,u,λh q j o=>?_⟩;cases x with
 |true=>refine mK ?_;exact⟨h,p,g,d,l,o,E.mono j,i,λn r s R2=>k n r (j.trans s) R2⟩|false=>
  refine mJ ?_;cases i;exact k h q j o)
theorem LH(v:PT X a (tMT X.K mt))(w:PW X (.BoolOp .Or (b::b6) pos) (tMT X.K mu)):PW X (.BoolOp .Or (a::b::b6) pos) (tMT X.K (iE mt mu)):=CD (Jk v w) (by
 rintro A H Q ⟨z,p,y,d,l,R,E,i,k⟩;obtain⟨⟨x,g⟩,u,i⟩:=WM.mp i;refine⟨z,p,y,x,g,R,E,u,λh q j o=>?_⟩;cases x with
 |true=>refine mK ?_;cases i;exact k h q j o|false=>
  refine mJ ?_;exact⟨h,p,g,d,l,o,E.mono j,i,λn r s R2=>k n r (j.trans s) R2⟩)
theorem LI(p:PT X a (tMT X.K mt)):PT X (.UnaryOp .Not a pos) (tMT X.K (j9 mt)):=tQ (Jl p) (by
 rintro v H Q ⟨s,u,q,d,r,R,E,g,k⟩;obtain⟨⟨x,h⟩,o,g⟩:=WS.mp g;cases g;exact⟨s,u,q,x,h,R,E,o,λi j n l=>k i j n l⟩)
noncomputable def fR(a b:ME):ME:=λd g=>(a d g).bind λp=>match p.1 with|.bl b4=>b d p.2|.bl b3=>aX (.bl b3,p.2)|_=>aY
noncomputable def xQ(a b:ME):ME:=λd g=>(a d g).bind λp=>match p.1 with|.bl b4=>aX (.bl b4,p.2)|.bl b3=>b d p.2|_=>aY
noncomputable def oV(a:ME):ME:=λg d=>(a g d).bind λp=>match p.1 with|.bl b=>aX (.bl (!b),p.2)|_=>aY
theorem LJ{op:BoolOp}(h:PE X a (tM X.K m)):PE X (.BoolOp op [a] pos) (tM X.K m):=Jp h
theorem LK(r:PE X a (tM X.K ma))(s:PE X (.BoolOp .And (b::b6) pos) (tM X.K mb)):PE X (.BoolOp .And (a::b::b6) pos) (tM X.K (fR ma mb)):=dE (Jq r s) (by
 rintro z H Q ⟨w,o,v,d,l,R,E,g,k⟩;obtain⟨⟨x,h⟩,q,g⟩:=WM.mp g;cases x with
 |bl c=>
  refine⟨w,o,v,.bl c,h,R,E,q,λi y p j n u=>?_⟩;cases u;refine⟨c,rfl,?_⟩;cases c with
  |true=>refine mK ?_;exact⟨i,o,h,d,l,n,E.mono j,g,k.after j⟩|false=>refine mJ ?_;cases g;exact k i _ p j n (.bl b3)
 |_=>cases g)
theorem LL(r:PE X a (tM X.K ma))(s:PE X (.BoolOp .Or (b::b6) pos) (tM X.K mb)):PE X (.BoolOp .Or (a::b::b6) pos) (tM X.K (xQ ma mb)):=dE (Jr r s) (by
 rintro z H Q ⟨w,o,v,d,l,R,E,g,k⟩;obtain⟨⟨x,h⟩,q,g⟩:=WM.mp g;cases x with
 |bl c=>
  refine⟨w,o,v,.bl c,h,R,E,q,λi y p j n u=>?_⟩;cases u;refine⟨c,rfl,?_⟩;cases c with
  |true=>refine mK ?_;cases g;exact k i _ p j n (.bl b4)|false=>refine mJ ?_;exact⟨i,o,h,d,l,n,E.mono j,g,k.after j⟩
 |_=>cases g)
theorem LM(o:PE X a (tM X.K ma)):PE X (.UnaryOp .Not a pos) (tM X.K (oV ma)):=dE (Js o) (by
 rintro y H Q ⟨u,v,q,d,r,R,E,g,k⟩;obtain⟨⟨x,s⟩,n,g⟩:=WM.mp g;cases x with
 |bl c=>cases g;refine⟨u,v,q,_,_,R,E,n,λh w i l j p=>?_⟩;cases p;exact⟨_,rfl,k h _ i l j (.bl _)⟩
 |_=>cases g)
noncomputable def k5(t:MT)(a b:ME):ME:=λd g=>(t d g).bind λp=>match p.1 with|true=>a d p.2|false=>b d p.2
theorem LN(hc:PT X c (tMT X.K mt))(q:PE X a (tM X.K ma))(r:PE X b (tM X.K mb)):PE X (.IfExp c a b pos) (tM X.K (k5 mt ma mb)):=dE (Ju hc q r) (by
 rintro w H Q ⟨u,n,s,d,h,R,E,l,k⟩;obtain⟨⟨x,g⟩,p,l⟩:=WM.mp l;refine⟨u,n,s,x,g,R,E,p,λi v j o=>?_⟩;cases x with
 |true=>refine mK ?_;exact⟨i,n,g,d,h,o,E.mono j,l,k.after j⟩|false=>
  refine mJ ?_;exact⟨i,n,g,d,h,o,E.mono j,l,k.after j⟩)
noncomputable def aD:MA:=λ_ d=>aX ([],d)
noncomputable def aB(a:ME)(r:MA):MA:=λd g=>(a d g).bind λp=>(r d p.2).bind λq=>aX (p.1::q.1,q.2)
variable{es:List Expr}{ms:MA}
theorem LO:PA X [] (tMA X.K aD):=CF BR (by
 rintro n H Q ⟨i,l,j,d,h,R,E,g,k⟩;cases g;exact k i [] H .refl R .nil)
theorem LP(v:PE X e (tM X.K m))(w:PA X es (tMA X.K ms))(y:XB (e::es) X.env=(b3,eval e X.env)::XB es X.env:=by rfl):PA X (e::es) (tMA X.K (aB m ms)):=CF (BS v w y) (by
 rintro N H Q ⟨J,p,G,d,I,R,E,g,k⟩;obtain⟨⟨x,h⟩,s,g⟩:=WM.mp g;obtain⟨⟨B,i⟩,u,g⟩:=WM.mp g;cases g;exact⟨J,p,G,x,h,R,E,s,λj L K n r z=>⟨j,p,h,B,i,r,E.mono n,u,λl M q o R2 A=>k l _ q (n.trans o) R2 (.cons (z.mono o) A)⟩⟩)
noncomputable def bW(ms:MA):ME:=λg d=>(ms g d).bind λp=>if p.1.length<=W8 then aX (.tup p.1,p.2)else aY
noncomputable def cD(ms:MA):ME:=λg d=>(ms g d).bind λp=>if p.1.length<=W8 then aX (.loc p.2.length,p.2++[.lst p.1])else aY
theorem LQ{v:Nat}(h:PA X es (tMA X.K ms)):PE X (.Tuple es v pos) (tM X.K (bW ms)):=dE (Ku h) (by
 rintro I H Q ⟨z,A,w,d,x,R,E,g,k⟩;obtain⟨⟨G,y⟩,q,g⟩:=WM.mp g;split at g
 ·rename_i r;cases g;refine⟨z,A,w,_,_,R,E,q,λi u B o n l=>⟨by rw[l.length];exact r,λp s=>?_⟩⟩;obtain⟨j,R2⟩:=n.fresh (o:=.tup u) s;exact k i _ _ (o.trans j) R2 (.tup (.of cQ) (l.mono j))
 ·cases g)
theorem LR(h:PA X es (tMA X.K ms)):PE X (.List es pos) (tM X.K (cD ms)):=dE (Kw h) (by
 rintro J H Q ⟨G,I,A,d,B,R,E,i,k⟩;obtain⟨⟨l,g⟩,w,i⟩:=WM.mp i;split at i
 ·rename_i x;cases i;refine⟨G,I,A,l,g,R,E,w,λj n o u s r=>⟨by rw[r.length];exact x,λp y=>?_⟩⟩;obtain⟨v,R2,q⟩:=s.alloc (c:=.lst l) (o:=.lst n) y r;have z:IsD X.K (iX j g.length p) (g++[C.lst l]).length (aM o p (.lst n)) (.ref p) (.loc g.length):=by have:=IsD.loc (K:=X.K) (π:=iX j g.length p) (n:=(g++[C.lst l]).length) (H:=aM o p (.lst n)) (a:=g.length) (by simp);rw[q]at this;exact this
  exact k _ _ _ (u.trans v) R2 z
 ·cases i)
noncomputable def aI(f:MF)(ms:MA):ME:=λg d=>(ms g d).bind λp=>f p.1 p.2
theorem LS{K:WQ}{f:MF}{n:Nat}{E:XK}(w:∀j i ds g,ms j i=aX (ds,g)->ds.length=n):∀σ H Q,tM K (aI f ms) σ H Q->xJ (jL K n f) [] E (tMA K ms) σ H Q:=by rintro σ H Q ⟨y,j,i,d,g,R,E,l,k⟩;obtain⟨⟨o,h⟩,q,l⟩:=WM.mp l;refine⟨y,j,i,o,h,R,E,q,λp x s v u r=>?_⟩;show jL K n f (x++[]) s Q _;rw[Yh];exact⟨by rw[r.length];exact w j i o h q,p,o,h,d,g,u,r,l,k.after v⟩
theorem LU:∀i g ds d,aD i g=aX (ds,d)->ds.length=0:=by intro i g ds d h;cases h;rfl
theorem LV{n:Nat}(h:∀i j ds d,ms i j=aX (ds,d)->ds.length=n):∀i j ds d,aB m ms i j=aX (ds,d)->ds.length=n+1:=by intro i j ds d g;obtain⟨⟨x,k⟩,q,g⟩:=WM.mp g;obtain⟨⟨o,p⟩,l,g⟩:=WM.mp g;cases g;rw[Xy,h i k o _ l]
theorem LW{k:Nat}{f:Addr}{i:ZC}{ps:List Str}{j:MF}{x:Str}{p:YE}{n:Nat}(F:FnOk X.prog X.w X.K X.mg X.base f9 k f i ps (jL X.K n j))(w:Room k X.A)(r:Gl X x)(u:X.mg x=aX (.ref f))
  (s:YY X.K (.ref f)=b4)(o:Binds X.K i ps [])(l:PA X (e::es) (tMA X.K ms))(v:∀z y ds h,ms z y=aX (ds,h)->ds.length=n)(d:(x==("__debug__":Str))=false:=by decide)
  (q:XB (e::es) X.env=(b3,eval e X.env)::XB es X.env:=by rfl)(g:(ZI pos (XB es X.env)).any (·.1)=false:=by rfl) :
  PE X (.Call (.Name x p) (e::es) [] pos) (tM X.K (aI j ms)):=
 dE (Ky F w r u s o .nil (E:=E0) Cu l d q g) (LS v)
noncomputable def dR(K:WQ)(f:MF)(r:gw->Hp->VK->Prop):Prop:=
 ∀i H h k d g j Q,Rp K i H h->IsDs K i h.length H j k->f k h=aX (d,g)->KC K Q i h.length H d g->r j H Q
theorem xR{K:WQ}{f:MF}{r:gw->Hp->VK->Prop}(s:dR K f r):∀σ H Q,tM K (aI f ms) σ H Q->tH r (tMA K ms) σ H Q:=by rintro σ H Q ⟨x,y,w,d,i,R,E,h,k⟩;obtain⟨⟨l,g⟩,q,h⟩:=WM.mp h;exact⟨x,y,w,l,g,R,E,q,λj v n p o u=>s j n g l d i v Q o u h (k.after p)⟩
theorem LX{f:MF}{r:gw->Hp->VK->Prop}{id:String}{x:Str}{p:YE}(hc:CallR X (.builtin id) r)(j:dR X.K f r)(k:Gl X x)(l:X.mg x=aY)(o:YN x=aX (.builtin id))(h:PA X (e::es) (tMA X.K ms))
  (n:x ≠ "__name__":=by decide) (d:(x==("__debug__":Str))=false:=by decide)
  (i:XB (e::es) X.env=(b3,eval e X.env)::XB es X.env:=by rfl)(g:(ZI pos (XB es X.env)).any (·.1)=false:=by rfl):PE X (.Call (.Name x p) (e::es) [] pos) (tM X.K (aI f ms)):=
 dE (KJ hc k l o h n d i g) (xR j)
theorem LY{f:MF}{r:gw->Hp->VK->Prop}{T:String}{x:Str}{p:YE}(hc:CallR X (.type T) r)(j:dR X.K f r)(k:Gl X x)(l:X.mg x=aY)(o:YN x=aX (.type T))(h:PA X (e::es) (tMA X.K ms))
  (n:x ≠ "__name__":=by decide) (d:(x==("__debug__":Str))=false:=by decide)
  (i:XB (e::es) X.env=(b3,eval e X.env)::XB es X.env:=by rfl)(g:(ZI pos (XB es X.env)).any (·.1)=false:=by rfl):PE X (.Call (.Name x p) (e::es) [] pos) (tM X.K (aI f ms)):=
 dE (KL hc k l o h n d i g) (xR j)
noncomputable def bK(d:Hm):D->Option (List D)
 |.tup xs=>aX xs|.rol xs=>aX xs|.loc a=>match d[a]? with|some (.lst xs)=>aX xs|_=>aY
 |_=>aY
noncomputable def iF:D->D->Hm->jk
 |.str z,.int i,μ=>if z.length<=W8 then(atI z.cps.toList i).map λc=>(.str ⟨#[c]⟩,μ)else aY|x,.int i,μ=>(bK μ x).bind λg=>(atI g i).map λd=>(d,μ)|_,_,_=>aY
theorem LZ{K:WQ}:dQ K iF (Ca K):=by
 intro p H N x y d G L M Q R r B g k;cases B with
 |int i=>
  cases r with
  |str z=>
   simp only[iF]at g;split at g
   ·rename_i w;obtain⟨c,j,l⟩:=WS.mp g;cases l;exact .inr (.inr ⟨z,i,c,rfl,rfl,w,j,k p _ H .refl R (.str _)⟩)
   ·cases g
  |tup h t=>simp only[iF,bK,Xi]at g;obtain⟨q,j,l⟩:=WS.mp g;cases l;obtain⟨v,n,o⟩:=t.atI j;exact .inr (.inl ⟨_,_,i,v,rfl,rfl,h,n,k p _ H .refl R o⟩)|rol h t=>simp only[iF,bK,Xi]at g;obtain⟨q,j,l⟩:=WS.mp g;cases l;obtain⟨v,n,o⟩:=t.atI j;exact .inl ⟨_,_,i,v,rfl,rfl,h.sq,n,k p _ H .refl R o⟩|@loc a I=>
   simp only[iF,bK]at g;split at g
   ·rename_i E A;simp only[Xi]at g;obtain⟨q,j,l⟩:=WS.mp g;cases l;obtain⟨J,s,u⟩:=R.lst a E A;obtain⟨v,n,o⟩:=u.atI j;exact .inl ⟨_,_,i,v,rfl,rfl,.of s,n,k p _ H .refl R o⟩
   ·cases g
  |_=>simp[iF,bK]at g
 |_=>cases r<;>simp[iF]at g
theorem L0(d:PE X a (tM X.K ma))(g:PE X b (tM X.K mb))(h:xN b):PE X (.Subscript a b pos) (tM X.K (aC iF ma mb)):=dE (KZ K1 d g h) (qX LZ)
noncomputable abbrev MO:=aG->Hm->Option (Option Int×Hm)
inductive tMO (K:WQ)(m:MO)(σ:St)(H:Hp)(Q:Option Int->Hp->Prop):Prop
 |mk (π:Nat->Addr)(ρ:aG)(μ:Hm)(o:Option Int)(μ':Hm)(R:Rp K π H μ)(E:En K π μ.length H σ ρ)(hm:m ρ μ=aX (o,μ'))(k:∀π' H',Ext π μ.length H π' μ'.length H'->Rp K π' H' μ'->Q o H'):tMO K m σ H Q
theorem mM{K:WQ}{π:Nat->Addr}{d:Hm}{p:Addr}{c:C}{H:Hp}:IsD K (iX π d.length p) (d++[c]).length H (.ref p) (.loc d.length):=by have:=IsD.loc (K:=K) (π:=iX π d.length p) (n:=(d++[c]).length) (H:=H) (a:=d.length) (by simp);rw[show iX π d.length p d.length=p from if_pos rfl]at this;exact this
end
section
variable{X:Cx}{e a b c:Expr}{m:ME}{pos:YE}{mt:MT}{st:Stmt}{b6 body orelse:List Stmt}{ms mr mu:MS}
noncomputable def bZ:MS:=λg d=>aX (.nx,g,d)
noncomputable def aH(a b:MS):MS:=λg d=>(a g d).bind λp=>match p.1 with|.nx=>b p.2.1 p.2.2|_=>aX p
noncomputable def aZ(m:ME):MS:=λd g=>(m d g).map λp=>(.rt p.1,d,p.2)
noncomputable def eD(m:ME):MS:=λd g=>(m d g).map λp=>(.nx,d,p.2)
noncomputable def bU(t:MT)(a b:MS):MS:=λd g=>(t d g).bind λp=>match p.1 with|true=>a d p.2|false=>b d p.2
noncomputable def aT(i:Nat)(m:ME):MS:=λd g=>(m d g).map λp=>(.nx,d.set i (aX p.1),p.2)
theorem L4:PSs X [] (tMS X.K bZ):=CG Jx (by
 rintro E l H ⟨i,p,o,n,j,h,R,d,g,k⟩;cases g;exact k i l H .refl R d)
theorem L5(h1:PS X st (tMS X.K ms))(A:PSs X b6 (tMS X.K mr)):PSs X (st::b6) (tMS X.K (aH ms mr)):=CG (Jy h1 A) (by
 rintro E L H ⟨G,I,B,w,u,r,R,y,i,k⟩;obtain⟨⟨v,p,o⟩,h1,i⟩:=WM.mp i;refine⟨G,I,B,v,p,o,R,y,h1,?_⟩;cases v with
 |nx=>
  intro s J K q z x;refine⟨s,p,o,w,u,r,z,x,i,?_⟩;cases w with
  |nx=>exact λg h l n R2 j=>k g h l (q.trans n) R2 j|bk=>exact λg h l n R2 j=>k g h l (q.trans n) R2 j|ct=>exact λg h l n R2 j=>k g h l (q.trans n) R2 j|rt d=>exact KC.after k q
 |rt d=>cases i;exact k|bk=>cases i;exact k
 |ct=>cases i;exact k)
theorem L6(h1:PS X st (tMS X.K ms)):PSs X [st] (tMS X.K ms):=Jz h1
theorem L7:PS X (.Pass pos) (tMS X.K bZ):=iY JA (by
 rintro E l H ⟨i,p,o,n,j,h,R,d,g,k⟩;cases g;exact k i l H .refl R d)
theorem L8(j:PE X e (tM X.K m)):PS X (.Return (aX e) pos) (tMS X.K (aZ m)):=iY (JH j) (by
 rintro E s H ⟨o,p,l,r,q,n,R,h,d,k⟩;obtain⟨⟨x,g⟩,i,d⟩:=WS.mp d;cases d;exact⟨o,p,l,x,g,R,h,i,k⟩)
theorem L9(p:PE X e (tM X.K m))(q:a1c e aY pos.line X.env=pure false:=by rfl):PS X (.Expr e pos) (tMS X.K (eD m)):=iY (JD p q) (by
 rintro E y H ⟨u,v,r,z,w,s,R,i,d,k⟩;obtain⟨⟨x,g⟩,o,d⟩:=WS.mp d;cases d;exact⟨u,v,r,x,g,R,i,o,λh B l j n A=>k h y l j n (i.mono j)⟩)
theorem Ma(hc:PT X c (tMT X.K mt))(G:PSs X body (tMS X.K ms))(I:PSs X orelse (tMS X.K mu)):PS X (.If c body orelse pos) (tMS X.K (bU mt ms mu)):=iY (JM hc G I) (by
 rintro E L H ⟨K,w,J,s,n,j,R,v,u,k⟩;obtain⟨⟨x,i⟩,B,u⟩:=WM.mp u;refine⟨K,w,J,x,i,R,v,B,λl A o y=>?_⟩;have z:nM X.K E l i.length A s n j:=by
  cases s with
  |nx=>exact λg h q r R2 p=>k g h q (o.trans r) R2 p|bk=>exact λg h q r R2 p=>k g h q (o.trans r) R2 p|ct=>exact λg h q r R2 p=>k g h q (o.trans r) R2 p|rt d=>exact KC.after k o
 cases x with
 |true=>refine mK ?_;exact⟨l,w,i,s,n,j,y,v.mono o,u,z⟩|false=>
  refine mJ ?_;exact⟨l,w,i,s,n,j,y,v.mono o,u,z⟩)
theorem CI{i:Nat}{x:Str}{d:YE}(r:X.N.Nodup)(hi:X.N[i]?=aX x)(w:Loc X.env.scope x)(s:PE X e (tM X.K m))(v:a1c e (aX (.Name x d)) pos.line X.env=pure false:=by rfl)
  (u:X.fn x=b4\/X.env.scope.names.lookup x=aX .local:=by first|exact .inl rfl|exact .inr rfl|assumption):PS X (.Assign [.Name x d] e pos) (tMS X.K (aT i m)):=iY (JR r hi w s v u) (by
 rintro E L H ⟨B,G,z,J,I,A,R,l,g,k⟩;obtain⟨⟨x,h⟩,q,g⟩:=WS.mp g;cases g;exact⟨B,G,z,x,h,R,l,q,λj K o n p y=>k j _ o n p ((l.mono n).set y i)⟩)
end
noncomputable def tR(n:Nat)(ds:List D):aG:=ds.map aX++Zc (n-ds.length) aY
noncomputable def xS(n:Nat)(m:MS):MF:=λds a=>(m (tR n ds) a).bind λp=>match p.1 with|.rt d=>aX (d,p.2.2)|.nx=>aX (.non,p.2.2)|_=>aY
theorem Mb{K:WQ}{π:Nat->Addr}{n:Nat}{H:Hp}{N:List Str}{vs:gw}{ds:List D}(h:IsDs K π n H vs ds)(l:vs.length<=N.length):En K π n H (L2.start N vs) (tR N.length ds):=by
 have a:=h.length;refine⟨by simp[L2.start,tR,a],λi d e=>?_⟩;unfold tR at e;unfold L2.start;by_cases hi:i<ds.length
 ·rw[XM (by simpa using hi),W6]at e;obtain⟨k,b,c⟩:=WS.mp e;cases c;obtain⟨v,g,j⟩:=h.get b;exact⟨v,by rw[XM (by rw[WO,a];exact hi),W6,g];rfl,j⟩
 ·rw[YI (by simpa using ZY.mp hi)]at e;have:=ZQ (n:=N.length-ds.length) (a:=(aY:Option D)) (i:=i-(ds.map aX).length);rw[this]at e;split at e<;>simp at e
section
variable{P:Xw}{w:XF}{K:WQ}{mg:Str->Option Value}{base:Ye}
theorem Mc{x a:Str}{st:Stmt}{f:Addr}{o:ZC}{N ps:List Str}{k:Nat}{m:MS}(F:Fun K x a st f o)(S:FnScope N ps (cM st))(g:ps.length<=N.length)
  (c:∀(b:Value)(A:XC)(outer:List a2v)(s:WX)(H:Hp)(E:XK),Room k (A.deeper (a3A a (cM st) s.heap.objs.size f b))->
   PSs (k0 f9 P w K mg base N a (cM st) f b A outer s H E).nox (fQ st) (tMS K m)):FnOk P w K mg base f9 (k+1) f o ps (jL K ps.length (xS N.length m)):=by
 refine F.ok S (λG H Q E h=>h.1) λb A outer s H G Q E z h=>⟨_,c b A outer s H E z,?_⟩;obtain⟨B,L,ds,I,d,J,R,i,e,q⟩:=h;obtain⟨⟨p,n,j⟩,y,e⟩:=WM.mp e;refine⟨L,_,I,p,n,j,R,Mb i (by rw[B];exact g),y,?_⟩;cases p with
 |rt T=>cases e;exact q|nx=>cases e;exact λl M r v u O=>q l .non r v u .non|bk=>cases e|ct=>cases e
end
open SeqAt (EqAt RcAt RcNeAt)
inductive KD where
 |non|bl (b:Bool)|int (i:Int)|str (x:Str)|tup (n:Nat)|lst (n:Nat)
inductive IsK (s:WX):Value->KD->Prop where
 |non:IsK s .none .non
 |bl (b:Bool):IsK s (.bool b) (.bl b)
 |int (i:Int)(t:a7H):IsK s (.int i t) (.int i)
 |str (x:Str)(t:a7H):IsK s (.str x t) (.str x)
 |tup {l:Addr}{its:gq}(h:s.heap.IsTuple l its.toArray):IsK s (.ref l) (.tup its.length)
 |lst {l:Addr}{its:gq}(h:s.heap.IsList l its.toArray):IsK s (.ref l) (.lst its.length)
noncomputable def oW(e:Nat->Bool):KD->KD->Bool
 |.non,.non=>b4|.bl a,.bl b=>a==b|.bl a,.int b=>(if a then 1 else 0)==b|.int a,.bl b=>a==(if b then 1 else 0)|.int a,.int b=>a==b|.str a,.str b=>a==b|.tup n,.tup k=>(X9 (min n k)).all e&&n==k|.lst n,.lst k=>(X9 (min n k)).all e&&n==k|_,_=>b3
noncomputable def tS(A:XC)(s:WX)(u v:Value)(e:Nat->Bool):Prop:=
 (∀l b c a,u=.ref l->v=.ref b->s.heap.IsTuple l c->s.heap.IsTuple b a->∀j (h1:j<c.size)(d:j<a.size),EqAt A.in1 s c[j] a[j] (e j)) /\
 (∀l b c a,u=.ref l->v=.ref b->s.heap.IsList l c->s.heap.IsList b a->∀j (h1:j<c.size)(d:j<a.size),EqAt A.in1 s c[j] a[j] (e j))
section
variable{A:XC}{s:WX}{u v:Value}{k k':KD}{e:Nat->Bool}
theorem CJ{n k:Nat}(e:Nat->Bool)(h:n=k):((X9 (min n k)).all e&&n==k)=(X9 n).all e:=by subst h;simp
theorem CK{n k:Nat}(e:Nat->Bool)(h:n≠k):((X9 (min n k)).all e&&n==k)=false:=by simp[h]
theorem xT(h:IsK s u k)(h':IsK s v k')(c:A.units<YL)(o:tS A s u v e):RcAt A s u v (oW e k k'):=by
 cases h with
 |non=>
  cases h' with
  |non=>exact RcAt.none_none|bl b=>exact RcAt.none_bool b|int i t=>exact RcAt.none_int i t|str x t=>exact RcAt.none_str x t|tup h=>exact RcAt.none_tuple h c|lst h=>exact RcAt.none_list h c
 |bl a=>
  cases h' with
  |non=>exact RcAt.bool_none a|bl b=>exact RcAt.bool_bool a b|int i t=>exact RcAt.bool_int a i t|str x t=>exact RcAt.bool_str a x t|tup h=>exact RcAt.bool_tuple a h c|lst h=>exact RcAt.bool_list a h c
 |int a j=>
  cases h' with
  |non=>exact RcAt.int_none a j|bl b=>exact RcAt.int_bool a j b|int i t=>exact RcAt.int_int a j i t|str x t=>exact RcAt.int_str a j x t|tup h=>exact RcAt.int_tuple a j h c|lst h=>exact RcAt.int_list a j h c
 |str a j=>
  cases h' with
  |non=>exact RcAt.str_none a j|bl b=>exact RcAt.str_bool a j b|int i t=>exact RcAt.str_int a j i t|str x t=>exact RcAt.str_str a j x t|tup h=>exact RcAt.str_tuple a j h c|lst h=>exact RcAt.str_list a j h c
 |tup g=>
  cases h' with
  |non=>exact RcAt.tuple_none g c|bl b=>exact RcAt.tuple_bool b g c|int i t=>exact RcAt.tuple_int i t g c|str x t=>exact RcAt.tuple_str x t g c|tup h=>have:=RcAt.tuples (e:=e) g h c (o.1 _ _ _ _ rfl rfl g h);simpa[oW]using this|lst h=>exact RcAt.tuple_list g h c
 |lst g=>
  cases h' with
  |non=>exact RcAt.list_none g c|bl b=>exact RcAt.list_bool b g c|int i t=>exact RcAt.list_int i t g c|str x t=>exact RcAt.list_str x t g c|tup h=>exact RcAt.list_tuple g h c|@lst b d h=>
   rename_i l m;by_cases n:m.length=d.length
   ·have:=RcAt.lists (e:=e) g h (by simpa using n) c (o.2 _ _ _ _ rfl rfl g h);show RcAt A s _ _ ((X9 (min m.length d.length)).all e&&m.length==d.length);rw[CJ e n];simpa using this
   ·have:=RcAt.lists_lengths g h (by simpa using n) c;show RcAt A s _ _ ((X9 (min m.length d.length)).all e&&m.length==d.length);rw[CK e n];exact this
theorem Md(h:IsK s u k)(h':IsK s v k')(c:A.units<YL)(o:tS A s u v e):RcNeAt A s u v (!oW e k k'):=by
 cases h with
 |non=>
  cases h' with
  |non=>exact RcNeAt.none_none|bl b=>exact RcNeAt.none_bool b|int i t=>exact RcNeAt.none_int i t|str x t=>exact RcNeAt.none_str x t|tup h=>exact RcNeAt.none_tuple h c|lst h=>exact RcNeAt.none_list h c
 |bl a=>
  cases h' with
  |non=>exact RcNeAt.bool_none a|bl b=>exact RcNeAt.bool_bool a b|int i t=>exact RcNeAt.bool_int a i t|str x t=>exact RcNeAt.bool_str a x t|tup h=>exact RcNeAt.bool_tuple a h c|lst h=>exact RcNeAt.bool_list a h c
 |int a j=>
  cases h' with
  |non=>exact RcNeAt.int_none a j|bl b=>exact RcNeAt.int_bool a j b|int i t=>exact RcNeAt.int_int a j i t|str x t=>exact RcNeAt.int_str a j x t|tup h=>exact RcNeAt.int_tuple a j h c|lst h=>exact RcNeAt.int_list a j h c
 |str a j=>
  cases h' with
  |non=>exact RcNeAt.str_none a j|bl b=>exact RcNeAt.str_bool a j b|int i t=>exact RcNeAt.str_int a j i t|str x t=>exact RcNeAt.str_str a j x t|tup h=>exact RcNeAt.str_tuple a j h c|lst h=>exact RcNeAt.str_list a j h c
 |tup g=>
  cases h' with
  |non=>exact RcNeAt.tuple_none g c|bl b=>exact RcNeAt.tuple_bool b g c|int i t=>exact RcNeAt.tuple_int i t g c|str x t=>exact RcNeAt.tuple_str x t g c|tup h=>have:=RcNeAt.tuples (e:=e) g h c (o.1 _ _ _ _ rfl rfl g h);simpa[oW]using this|lst h=>exact RcNeAt.tuple_list g h c
 |lst g=>
  cases h' with
  |non=>exact RcNeAt.list_none g c|bl b=>exact RcNeAt.list_bool b g c|int i t=>exact RcNeAt.list_int i t g c|str x t=>exact RcNeAt.list_str x t g c|tup h=>exact RcNeAt.list_tuple g h c|@lst b d h=>
   rename_i l m;by_cases n:m.length=d.length
   ·have:=RcNeAt.lists (e:=e) g h (by simpa using n) c (o.2 _ _ _ _ rfl rfl g h);show RcNeAt A s _ _ (!((X9 (min m.length d.length)).all e&&m.length==d.length));rw[CJ e n];simpa using this
   ·have:=RcNeAt.lists_lengths g h (by simpa using n) c;show RcNeAt A s _ _ (!((X9 (min m.length d.length)).all e&&m.length==d.length));rw[CK e n];exact this
theorem Me(h:IsK s u k)(h':IsK s v k')(c:A.units<YL)(o:tS A s u v e)(n:∀l b,u=.ref l->v=.ref b->l≠b):EqAt A s u v (oW e k k'):=by
 cases h with
 |non=>
  cases h' with
  |non=>exact EqAt.same _|bl b=>exact EqAt.none_bool b|int i t=>exact EqAt.none_int i t|str x t=>exact EqAt.none_str x t|tup h=>exact EqAt.none_tuple h c|lst h=>exact EqAt.none_list h c
 |bl a=>
  cases h' with
  |non=>exact EqAt.bool_none a|bl b=>exact EqAt.bool_bool a b|int i t=>exact EqAt.bool_int a i t|str x t=>exact EqAt.bool_str a x t|tup h=>exact EqAt.bool_tuple a h c|lst h=>exact EqAt.bool_list a h c
 |int a d=>
  cases h' with
  |non=>exact EqAt.int_none a d|bl b=>exact EqAt.int_bool a d b|int i t=>exact EqAt.int_int a d i t|str x t=>exact EqAt.int_str a d x t|tup h=>exact EqAt.int_tuple a d h c|lst h=>exact EqAt.int_list a d h c
 |str a d=>
  cases h' with
  |non=>exact EqAt.str_none a d|bl b=>exact EqAt.str_bool a d b|int i t=>exact EqAt.str_int a d i t|str x t=>exact EqAt.str_str a d x t|tup h=>exact EqAt.str_tuple a d h c|lst h=>exact EqAt.str_list a d h c
 |@tup l m g=>
  cases h' with
  |non=>exact EqAt.tuple_none g c|bl b=>exact EqAt.tuple_bool b g c|int i t=>exact EqAt.tuple_int i t g c|str x t=>exact EqAt.tuple_str x t g c|@tup b j h=>exact EqAt.of_refs (n l b rfl rfl) (xT (k:=.tup m.length) (k':=.tup j.length) (.tup g) (.tup h) c o)|lst h=>exact EqAt.tuple_list g h c
 |@lst l m g=>
  cases h' with
  |non=>exact EqAt.list_none g c|bl b=>exact EqAt.list_bool b g c|int i t=>exact EqAt.list_int i t g c|str x t=>exact EqAt.list_str x t g c|tup h=>exact EqAt.list_tuple g h c|@lst b j h=>exact EqAt.of_refs (n l b rfl rfl) (xT (k:=.lst m.length) (k':=.lst j.length) (.lst g) (.lst h) c o)
end
inductive KdD where
 |non|bl (b:Bool)|int (i:Int)|str (x:Str)|tup (xs:List D)|lst (xs:List D)
noncomputable def d8(c:Hm):D->Option KdD
 |.non=>aX .non|.bl b=>aX (.bl b)|.int i=>aX (.int i)|.str x=>aX (.str x)|.tup xs=>aX (.tup xs)|.rol xs=>aX (.lst xs)|.loc a=>match c[a]? with|some (.lst xs)=>aX (.lst xs)|_=>aY
 |.ty _=>aY
noncomputable def gA(f:D->D->Option Bool):List D->List D->Option Bool
 |x::xs,y::ys=>(f x y).bind λb=>(gA f xs ys).map λc=>b&&c|[],[]=>aX b4|_,_=>aX b3
noncomputable def i8(f:D->D->Option Bool):KdD->KdD->Option Bool
 |.non,.non=>aX b4|.bl a,.bl b=>aX (a==b)|.bl a,.int b=>aX ((if a then 1 else 0)==b)|.int a,.bl b=>aX (a==(if b then 1 else 0))|.int a,.int b=>aX (a==b)|.str a,.str b=>aX (a==b)|.tup xs,.tup ys=>gA f xs ys|.lst xs,.lst ys=>gA f xs ys|_,_=>aX b3
noncomputable abbrev xU(f:D->D->Option Bool):D->D->Option Bool:=f
theorem CL{f:D->D->Option Bool}{x y:D}{b:Bool}(h:xU f x y=aX b):f x y=aX b\/(b=b4/\∃a,x=.loc a/\y=.loc a):=.inl h
noncomputable def cG:Nat->Hm->D->D->Option Bool
 |0,_,_,_=>aY|n+1,μ,x,y=>(d8 μ x).bind λa=>(d8 μ y).bind λb=>i8 (xU (cG n μ)) a b
noncomputable abbrev jM(n:Nat)(a:Hm):D->D->Option Bool:=xU (cG n a)
noncomputable def xV:KdD->KD
 |.non=>.non|.bl b=>.bl b|.int i=>.int i|.str x=>.str x|.tup xs=>.tup xs.length|.lst xs=>.lst xs.length
noncomputable def oX:KdD->List D
 |.tup xs=>xs|.lst xs=>xs|_=>[]
section
variable{X:Cx}{a7J:jw}{σ:St}{H:Hp}{s:WX}{π:Nat->Addr}{μ:Hm}
inductive KdAt (X:Cx)(π:Nat->Addr)(n:Nat)(H:Hp)(s:WX)(u:Value):KdD->Prop where
 |non (h:u=.none):KdAt X π n H s u .non
 |bl (b:Bool)(h:u=.bool b):KdAt X π n H s u (.bl b)
 |int (i:Int)(t:a7H)(h:u=.int i t):KdAt X π n H s u (.int i)
 |str (x:Str)(t:a7H)(h:u=.str x t):KdAt X π n H s u (.str x)
 |tup {xs:List D}(p:Addr)(vs:gw)(its:gq)(h:u=.ref p)(q:SqT X.K H p vs)(i:IsDs X.K π n H vs xs)(r:Vals vs its)(t:s.heap.IsTuple p its.toArray):KdAt X π n H s u (.tup xs)
 |lst {xs:List D}(p:Addr)(vs:gw)(its:gq)(h:u=.ref p)(q:SqL X.K H p vs)(i:IsDs X.K π n H vs xs)(r:Vals vs its)(t:s.heap.IsList p its.toArray):KdAt X π n H s u (.lst xs)
theorem oY(I:Inv X a7J σ H s)(R:Rp X.K π H μ){v:V}{d:D}{u:Value}(h:IsD X.K π μ.length H v d)(r:RelV v u){k:KdD}(e:d8 μ d=aX k):KdAt X π μ.length H s u k:=by
 cases h with
 |non=>cases e;exact .non r|bl b=>cases e;exact .bl b r|int i=>cases e;obtain⟨t,q⟩:=r;exact .int i t q|str x=>cases e;obtain⟨t,q⟩:=r;exact .str x t q|ty x=>cases e|tup q t=>cases e;obtain⟨c,g,p,_⟩:=I.tuple q;exact .tup _ _ c r q t g p|rol q t=>cases e;obtain⟨c,g,p,_⟩:=I.list q.sq;exact .lst _ _ c r q.sq t g p.isList|@loc a w=>
  simp only[d8]at e;split at e
  ·rename_i o m;cases e;obtain⟨n,j,l⟩:=R.lst a o m;have q:SqL X.K H (π a) n:=.of j;obtain⟨c,g,p,_⟩:=I.list q;exact .lst _ _ c r q l g p.isList
  ·cases e
theorem KdAt.isK{u:Value}{k:KdD}{n:Nat}(h:KdAt X π n H s u k):IsK s u (xV k):=by
 cases h with
 |non h=>subst h;exact .non|bl b h=>subst h;exact .bl b|int i t h=>subst h;exact .int i t|str x t h=>subst h;exact .str x t|tup p c a h q i r t=>subst h;have:a.length=_:=r.length.symm.trans i.length;show IsK s (.ref p) (.tup _);rw[<- this];exact .tup t|lst p c a h q i r t=>subst h;have:a.length=_:=r.length.symm.trans i.length;show IsK s (.ref p) (.lst _);rw[<- this];exact .lst t
noncomputable def i9(f:D->D->Option Bool)(xs a:List D)(j:Nat):Bool:=match xs[j]?,a[j]? with
 |some x,aX y=>(f x y).getD b3|_,_=>b3
theorem xW{f:D->D->Option Bool}:∀{xs a:List D}{b:Bool},gA f xs a=aX b->b=((X9 (min xs.length a.length)).all (i9 f xs a)&&xs.length==a.length)/\∀(j:Nat) x y,xs[j]?=aX x->a[j]?=aX y->f x y=aX (i9 f xs a j)
 |[],[],b,h=>by cases h;exact⟨rfl,λj x y e=>by simp at e⟩
 |x::xs,[],b,h=>by cases h;exact⟨by simp,λj x y _ e=>by simp at e⟩
 |[],y::a,b,h=>by cases h;exact⟨by simp,λj x y e=>by simp at e⟩
 |x::xs,y::a,b,h=>by
  simp only[gA]at h;obtain⟨c,l,n⟩:=WM.mp h;obtain⟨d,o,p⟩:=WS.mp n;obtain⟨q,r⟩:=xW o;have k:i9 f (x::xs) (y::a) 0=c:=by simp[i9,l]
  have m:∀j,i9 f (x::xs) (y::a) (j+1)=i9 f xs a j:=λj=>by simp[i9]
  refine⟨?_,λj u v g i=>?_⟩
  ·subst p;rw[q];simp only[Xy,Nat.add_min_add_right];rw[a4k,XG,a2Q,k];have:(i9 f (x::xs) (y::a)∘Nat.succ)=i9 f xs a:=funext λj=>m j;rw[this];simp[Bool.and_assoc]
  ·cases j with
   |zero=>simp at g i;subst g;subst i;rw[k,l]|succ j=>rw[m j];exact r j u v (by simpa using g) (by simpa using i)
theorem CM{f:D->D->Option Bool}{k k':KdD}{b:Bool}(h:i8 f k k'=aX b):b=oW (i9 f (oX k) (oX k')) (xV k) (xV k'):=by
 cases k<;>cases k'<;>simp only[i8]at h<;>first
  |(have a:=Xg h;subst a;rfl)|(obtain⟨c,_⟩:=xW h;rw[c];rfl)
theorem Mf(I:Inv X a7J σ H s)(R:Rp X.K π H μ):∀(n:Nat){v:V}{u:Value}{x y:D}{b:Bool},RelV v u->IsD X.K π μ.length H v x->IsD X.K π μ.length H v y->cG n μ x y=aX b->b=true:=by
 intro n;induction n with
 |zero=>intro v u x y b _ _ _ h;cases h|succ n ih=>
  intro v u x y b r hx hy h;obtain⟨k,T,h⟩:=WM.mp h;obtain⟨k',h2,h⟩:=WM.mp h;have a1:=oY I R hx r T;have o:=oY I R hy r h2;have g:∀{vs:gw}{xs Q:List D}{c:Bool},(∀v∈vs,∃u,RelV v u)->IsDs X.K π μ.length H vs xs->IsDs X.K π μ.length H vs Q->gA (jM n μ) xs Q=aX c->c=true:=by
   intro vs;induction vs with
   |nil=>intro xs Q c _ Y m h;cases Y;cases m;cases h;rfl|cons w vs Z=>
    intro xs Q c hr Y m h;cases Y with
    |cons p1 t1=>
     cases m with
     |cons K B=>simp only[gA]at h;obtain⟨c1,T,h3⟩:=WM.mp h;obtain⟨c2,h4,h5⟩:=WS.mp h3;obtain⟨O,M⟩:=hr w (Xf ..);have a:c1=true:=(CL T).elim (ih M p1 K) (·.1);have l:=Z (λv G=>hr v (Xc _ G)) t1 B h4;subst a;subst l;exact h5.symm
  cases a1 with
  |non a=>
   subst a;cases o with
   |non _=>simp only[i8]at h;exact(Xg h).symm|bl _ e=>cases e|int _ _ e=>cases e|str _ _ e=>cases e|tup _ _ _ e=>cases e|lst _ _ _ e=>cases e
  |bl c a=>
   subst a;cases o with
   |non e=>cases e|bl _ e=>cases e;simp only[i8,beq_self_eq_true]at h;exact(Xg h).symm|int _ _ e=>cases e|str _ _ e=>cases e|tup _ _ _ e=>cases e|lst _ _ _ e=>cases e
  |int c t a=>
   subst a;cases o with
   |non e=>cases e|bl _ e=>cases e|int _ _ e=>cases e;simp only[i8,beq_self_eq_true]at h;exact(Xg h).symm|str _ _ e=>cases e|tup _ _ _ e=>cases e|lst _ _ _ e=>cases e
  |str c t a=>
   subst a;cases o with
   |non e=>cases e|bl _ e=>cases e|int _ _ e=>cases e|str _ _ e=>cases e;simp only[i8,beq_self_eq_true]at h;exact(Xg h).symm|tup _ _ _ e=>cases e|lst _ _ _ e=>cases e
  |tup p vs J a q i N t=>
   have z:KdAt X π μ.length H s (.ref p) _:=a▸KdAt.tup p vs J a q i N t;rw[a]at o;cases o with
   |non e=>cases e|bl _ e=>cases e|int _ _ e=>cases e|str _ _ e=>cases e|tup K E d l L m A B=>
    cases l;have:=I.tuple_inj q L;subst this;exact g (λv G=>by
     obtain⟨j,U,rfl⟩:=a4J G;obtain⟨O,_,M⟩:=N.get (W3 U);exact⟨O,M⟩) i m h
   |lst K E d l L m A B=>cases l;exact absurd rfl (Y1 B t)
  |lst p vs J a q i N t=>
   rw[a]at o;cases o with
   |non e=>cases e|bl _ e=>cases e|int _ _ e=>cases e|str _ _ e=>cases e|tup K E d l L m A B=>cases l;exact absurd rfl (Y1 t B)|lst K E d l L m A B=>
    cases l;have:=I.list_inj q L;subst this;exact g (λv G=>by
     obtain⟨j,U,rfl⟩:=a4J G;obtain⟨O,_,M⟩:=N.get (W3 U);exact⟨O,M⟩) i m h
theorem oZ(A:XC):A.in1.units=A.units+1:=rfl
theorem CN(I:Inv X a7J σ H s){A:XC}{n:Nat}(ih:∀{A:XC}{v v':V}{u u':Value}{x y:D}{b:Bool},A.units+n<YL->RelV v u->RelV v' u'->IsD X.K π μ.length H v x->IsD X.K π μ.length H v' y->cG n μ x y=aX b->EqAt A s u u' b)
  (hu:A.units+(n+1)<YL){u u':Value}{k k':KdD}{b:Bool}(a1:KdAt X π μ.length H s u k)(a2:KdAt X π μ.length H s u' k')(h:i8 (jM n μ) k k'=aX b):tS A s u u' (i9 (jM n μ) (oX k) (oX k')):=by
 have G:∀{vs Q:gw}{its its':gq}{xs U:List D}{c:Bool},Vals vs its->Vals Q its'->IsDs X.K π μ.length H vs xs->IsDs X.K π μ.length H Q U->gA (jM n μ) xs U=aX c->
   ∀j (h1:j<its.length)(T:j<its'.length),EqAt A.in1 s its[j] its'[j] (i9 (jM n μ) xs U j):=by
  intro vs Q its its' xs U c r r' i i' e j h1 T;have l1:=r.length;have l2:=r'.length;have l3:=i.length;have l4:=i'.length;have hx:xs[j]?=aX (xs[j]'(by omega)):=W3 _;have hy:U[j]?=aX (U[j]'(by omega)):=W3 _;obtain⟨v,v1,v2⟩:=i.get hx;obtain⟨v',v1',v2'⟩:=i'.get hy;obtain⟨w,w1,w2⟩:=r.get v1;obtain⟨w',w1',w2'⟩:=r'.get v1';rw[W3 h1]at w1;rw[W3 T]at w1';cases w1;cases w1';have key:∀{x y:D}{b:Bool},IsD X.K π μ.length H v x->IsD X.K π μ.length H v' y->jM n μ x y=aX b->EqAt A.in1 s its[j] its'[j] b:=λ{x y b} i1 J hq=>by
   rcases CL hq with hq|⟨rfl,a,rfl,rfl⟩
   ·exact ih (by rw[oZ];omega) w2 w2' i1 J hq
   ·cases i1;cases J;have z1:its[j]=W5 (π a):=w2;have z2:its'[j]=W5 (π a):=w2';rw[z1,z2];exact EqAt.same _
  exact key v2 v2' ((xW e).2 j _ _ hx hy)
 constructor
 ·intro l b' E z e1 e2 Z t2 j h1 T;subst e1;subst e2;cases a1 with
  |tup p vs its e q i r t=>
   cases e;cases a2 with
   |tup p2 R B d q2 J Y O=>
    cases d;have z1:E=its.toArray:=by obtain⟨o,K,g2,n1,M⟩:=Z;obtain⟨o',g,L,N,m⟩:=t;rw[K]at g;cases g;rw[M]at m;injection m
    have z2:z=B.toArray:=by obtain⟨o,K,g2,n1,M⟩:=t2;obtain⟨o',g,L,N,m⟩:=O;rw[K]at g;cases g;rw[M]at m;injection m
    subst z1;subst z2;have:=G r Y i J h j (by simpa using h1) (by simpa using T);simpa[oX]using this
   |lst p2 R B d q2 J Y O=>cases d;exact absurd rfl (Y1 O t2)|non d=>cases d|bl _ d=>cases d|int _ _ d=>cases d|str _ _ d=>cases d
  |lst p vs its e q i r t=>cases e;exact absurd rfl (Y1 t Z)|non e=>cases e|bl _ e=>cases e|int _ _ e=>cases e|str _ _ e=>cases e
 ·intro l b' E z e1 e2 Z t2 j h1 T;subst e1;subst e2;cases a1 with
  |lst p vs its e q i r t=>
   cases e;cases a2 with
   |lst p2 R B d q2 J Y O=>
    cases d;have z1:E=its.toArray:=by obtain⟨o,K,g2,n1,M⟩:=Z;obtain⟨o',g,L,N,m⟩:=t;rw[K]at g;cases g;rw[M]at m;injection m
    have z2:z=B.toArray:=by obtain⟨o,K,g2,n1,M⟩:=t2;obtain⟨o',g,L,N,m⟩:=O;rw[K]at g;cases g;rw[M]at m;injection m
    subst z1;subst z2;have:=G r Y i J h j (by simpa using h1) (by simpa using T);simpa[oX]using this
   |tup p2 R B d q2 J Y O=>cases d;exact absurd rfl (Y1 t2 O)|non d=>cases d|bl _ d=>cases d|int _ _ d=>cases d|str _ _ d=>cases d
  |tup p vs its e q i r t=>cases e;exact absurd rfl (Y1 Z t)|non e=>cases e|bl _ e=>cases e|int _ _ e=>cases e|str _ _ e=>cases e
theorem CO(I:Inv X a7J σ H s)(R:Rp X.K π H μ):∀(n:Nat){A:XC}{v c:V}{u a:Value}{x y:D}{b:Bool},A.units+n<YL->RelV v u->RelV c a->IsD X.K π μ.length H v x->IsD X.K π μ.length H c y->cG n μ x y=aX b->EqAt A s u a b:=by
 intro n;induction n with
 |zero=>intro A v c u a x y b _ _ _ _ _ h;cases h|succ n J=>
  intro A v c u a x y b G r m i j h;have q:=h;obtain⟨k,w,h⟩:=WM.mp h;obtain⟨L,B,h⟩:=WM.mp h;have d:=oY I R i r w;have e:=oY I R j m B;by_cases g:u=a
  ·subst g;have:v=c:=r.inj m;subst this;have:=Mf I R (n+1) r i j q;subst this;exact EqAt.same _
  ·have E:=CN I J G d e h;rw[CM h];exact Me d.isK e.isK (by omega) E λl K o p z=>g (by rw[o,p,z])
theorem CP(I:Inv X a7J σ H s)(R:Rp X.K π H μ)(n:Nat){A:XC}{v g:V}{u d:Value}{x y:D}{b:Bool}(l:A.units+n<YL)(r:RelV v u)(p:RelV g d)(m:IsD X.K π μ.length H v x)(o:IsD X.K π μ.length H g y)(h:cG n μ x y=aX b) :
  RcAt A s u d b/\RcNeAt A s u d (!b):=by
 cases n with
 |zero=>cases h|succ n=>obtain⟨k,i,h⟩:=WM.mp h;obtain⟨q,j,h⟩:=WM.mp h;have a:=oY I R m r i;have c:=oY I R o p j;have e:=CN I (A:=A) (CO I R n) l a c h;rw[CM h];exact⟨xT a.isK c.isK (by omega) e,Md a.isK c.isK (by omega) e⟩
end
section
variable{K:WQ}
noncomputable def k7(g:Int->Int->Option Int):D->D->Hm->jk
 |.int i,.int j,μ=>(g i j).map λz=>(.int z,μ)|_,_,_=>aY
theorem CQ{g:Int->Int->Option Int}{x y d:D}{b a:Hm}(h:k7 g x y b=aX (d,a)):∃i j z,x=.int i/\y=.int j/\g i j=aX z/\d=.int z/\a=b:=by
 unfold k7 at h;split at h
 ·rename_i i j;obtain⟨z,c,e⟩:=WS.mp h;cases e;exact⟨i,j,z,rfl,rfl,c,rfl,rfl⟩
 ·cases h
theorem tT{a:Int->Int->Prop}{g:Int->Int->Option Int}{g':Int->Int->Int}(e:∀i j z,g i j=aX z->a i j/\z=g' i j):dQ K (k7 g) (rI a λi j=>.int (g' i j)):=by intro o H r x y d n p q Q R l m h k;obtain⟨i,j,z,rfl,rfl,b,rfl,rfl⟩:=CQ h;cases l;cases m;obtain⟨c,rfl⟩:=e i j z b;exact⟨i,j,rfl,rfl,c,k o _ H .refl R (.int _)⟩
theorem Mg{g':Int->Int->Int}:dQ K (k7 λi j=>aX (g' i j)) (iC λi j=>.int (g' i j)):=by intro h H n x y d g l m Q R c e b k;obtain⟨i,j,z,rfl,rfl,a,rfl,rfl⟩:=CQ b;cases c;cases e;cases a;exact⟨i,j,rfl,rfl,k h _ H .refl R (.int _)⟩
noncomputable def gC:=k7 λi j=>aX (i-j)
noncomputable def CS:=k7 λi j=>if((-(2^64)<i/\i<2^64)\/(-(2^64)<j/\j<2^64))\/(i.natAbs<2^4000/\j.natAbs<2^4000)\/XE i+XE j<=134217728 then aX (i*j)else aY
noncomputable def bO:D->D->Hm->jk
 |x,y,μ=>CS x y μ
noncomputable def dG:=k7 λi j=>if 0<j/\j<2^4000 then aX (i/j)else aY
noncomputable def a7:=k7 λi j=>if 0<j then aX (i%j)else aY
noncomputable def k8:=k7 λi j=>if(0<=j/\j<=1000000/\i.natAbs<2^64)\/(0<=j/\j<=100/\i.natAbs<2^4000)then aX (i^j.toNat)else aY
noncomputable def CMulB(i j:Int):Prop:=CMul i j\/(i.natAbs<2^4000/\j.natAbs<2^4000)\/XE i+XE j<=134217728
noncomputable def CT(i j:Int):Prop:=0<j/\j<2^4000
noncomputable def CU(i j:Int):Prop:=Kd i j\/(0<=j/\j<=100/\i.natAbs<2^4000)
theorem xX{i:Int}(h:i.natAbs<2^4000):XE i<=4000:=by
 unfold XE;split
 ·exact XJ _
 ·rename_i b;have a:i.natAbs≠0:=by intro z;exact b (by simpa using z)
  have:=(a7s a).mpr h;omega
theorem CMulB.ok{i j:Int}(h:CMulB i j):a5Z i j:=by
 rcases h with h|⟨b,c⟩|h
 ·exact h.ok
 rotate_left
 ·have a:a0u (XE i+XE j)=false:=by
   unfold a0u;rw[decide_eq_false];have:bitsLine=134217728:=by decide
   omega
  unfold a5Z;rw[a];simp
 ·have d:=xX b;have e:=xX c;have a:a0u (XE i+XE j)=false:=by
   unfold a0u;rw[decide_eq_false];have:(8000:Int)<=bitsLine:=by decide
   omega
  unfold a5Z;rw[a];simp
section
variable{X:Cx}
theorem Mh:OpR X (ZX .Mult) (rI CMulB λi j=>.int (i*j)):=tD λ_ _ _ _ _ _ _ hc q=>a7h q hc.ok
theorem Mi:OpR X (ZX .FloorDiv) (rI CT λi j=>.int (i/j)):=tD λi j _ _ _ _ _ hc q=>by
 have c:(0:Int)<j:=hc.1;have d:j<2^4000:=hc.2;have a:j.natAbs≠0:=by omega
 have b:j.natAbs<2^4000:=by
  have:((2^4000:Nat):Int)=2^4000:=by decide
  omega
 have e:=(a7s a).mpr b;exact a7j (by omega) (by rw[Int.fdiv_eq_ediv_of_nonneg i (by omega)];exact q) (.inl (PyProof.noPylong_of_log2 (by omega)))
theorem Mj:OpR X (ZX .Pow) (rI CU λi j=>.int (i^j.toNat)):=tD λi j _ _ _ _ _ hc q=>by
 rcases hc with hc|⟨a,c,d⟩
 ·exact a7e hc.1 hc.2.1 hc.2.2 q
 ·have b:=xX d;refine a7f a ?_ q;have:(XE i:Int)*j<=4000*100:=Int.mul_le_mul (by omega) c a (by omega);omega
end
theorem tU{c:Prop} [Decidable c] {a z:Int}(h:(if c then aX a else aY)=aX z):c/\z=a:=by
 split at h
 ·cases h;exact⟨by assumption,rfl⟩
 ·cases h
theorem Ml:dQ K gC (iC λi j=>.int (i-j)):=Mg
theorem Mm:dQ K CS (rI CMulB λi j=>.int (i*j)):=tT λi j z h=>by have:=tU h;exact this
theorem Mn:dQ K bO (rI CMulB λi j=>.int (i*j)):=Mm
theorem Mo:dQ K dG (rI CT λi j=>.int (i/j)):=tT λi j z h=>by have:=tU h;exact this
theorem Mp:dQ K a7 (rI (λ_ j=>0<j) λi j=>.int (i%j)):=tT λ_ _ _ h=>tU h
theorem Mq:dQ K k8 (rI CU λi j=>.int (i^j.toNat)):=tT λi j z h=>by have:=tU h;exact this
noncomputable def xY:D->Option D
 |.int i=>aX (.int (-i))|_=>aY
noncomputable def bI:D->D->Hm->jk
 |.int i,.int j,μ=>aX (.int (i+j),μ)|.str x,.str y,μ=>if x.length+y.length<=W8 then aX (.str (x++y),μ)else aY|.loc a,.loc b,μ=>match μ[a]?,μ[b]? with
  |some (.lst xs),aX (.lst ys)=>if xs.length+ys.length<=W8 then aX (.loc μ.length,μ++[.lst (xs++ys)])else aY|_,_=>aY
 |.tup xs,.tup ys,μ=>if xs≠[]/\ys≠[]/\xs.length+ys.length<=W8 then aX (.tup (xs++ys),μ)else aY|_,_,_=>aY
noncomputable def xZ(K:WQ):R2:=λx y H Q=>iC (λi j=>.int (i+j)) x y H Q\/(∃i j,x=.str i/\y=.str j/\i.length+j.length<=W8/\Q (.str (i++j)) H)\/Cr x y H Q
theorem op_addB{X:Cx}:OpR X (ZX .Add) (xZ X.K):=op_add.or (op_add_str.or Le)
noncomputable def yA(K:WQ):R2:=λx y H Q=>xZ K x y H Q\/B4 K x y H Q
theorem Mr{X:Cx}:OpR X (ZX .Add) (yA X.K):=op_addB.or KY
theorem yB{K:WQ}{x y:V}{H:Hp}{Q:VK}(h:xZ K x y H Q):yA K x y H Q:=.inl h
theorem Ms:dQ K bI (yA K):=by
 intro r H J x y d E G I Q R l m a k;unfold bI at a;split at a
 ·cases a;cases l;cases m;exact yB (.inl ⟨_,_,rfl,rfl,k r _ H .refl R (.int _)⟩)
 ·split at a
  ·rename_i n;cases a;cases l;cases m;exact yB (.inr (.inl ⟨_,_,rfl,rfl,n,k r _ H .refl R (.str _)⟩))
  ·cases a
 ·split at a
  ·rename_i w z B c;split at a
   ·rename_i n;cases a;cases l;cases m;obtain⟨u,g,h⟩:=R.lst _ w B;obtain⟨v,A,s⟩:=R.lst _ z c;refine yB (.inr (.inr ⟨_,_,u,v,rfl,rfl,by first|exact g|exact .inl (.inl g),A,by rw[h.length,s.length];exact n,λp o=>?_⟩));obtain⟨b,R2,q⟩:=R.alloc (c:=.lst (w++z)) (o:=.lst (u++v)) o (h.append s);exact k _ _ _ b R2 mM
   ·cases a
  ·cases a
 ·split at a
  ·rename_i c;cases a;cases l with
   |tup g i=>
    cases m with
    |tup h j=>refine .inr ⟨_,_,_,_,rfl,rfl,g,h,λe=>c.1 (by rw[e]at i;cases i;rfl),by rw[i.length,j.length];exact c.2.2,λe=>absurd (by rw[e]at j;cases j;rfl) c.2.1,λ_ p o=>?_⟩;obtain⟨b,R2⟩:=R.fresh (o:=.tup _) o;exact k r _ _ b R2 (.tup (.of cQ) ((i.mono b).append (j.mono b)))
  ·cases a
 ·cases a
noncomputable def gP(p:Int->Int->Bool):D->D->Hm->jk
 |.int i,.int j,μ=>aX (.bl (p i j),μ)|_,_,_=>aY
theorem jC{p:Int->Int->Bool}:dQ K (gP p) (iC λi j=>.bl (p i j)):=by
 intro g H m x y d e h l Q R b c a k;unfold gP at a;split at a
 ·cases a;cases b;cases c;exact⟨_,_,rfl,rfl,k g _ H .refl R (.bl _)⟩
 ·cases a
noncomputable def jD:=gP λi j=>decide (i<j)
noncomputable def o4:=gP λi j=>decide (i<=j)
noncomputable def jN:=gP λi j=>decide (j<i)
noncomputable def yC:=gP λi j=>decide (j<=i)
noncomputable def yD(K:WQ)(ne:Bool):R2:=λx y H Q=>∃π a c d b,Rp K π H a/\IsD K π a.length H x c/\IsD K π a.length H y d/\cG 8 a c d=aX b/\Q (.bl (if ne then !b else b)) H
theorem CV{X:Cx}(c:X.A.units+8<YL):OpR X (Yv .Eq) (yD X.K b3):=by intro a s o H x y v u Q I i j h;obtain⟨n,m,k,l,b,R,d,g,e,q⟩:=h;exact(CP I R 8 c i j d g e).1 _ _ _ _ ⟨.bl b,H,I,rfl,q⟩
theorem CW{X:Cx}(c:X.A.units+8<YL):OpR X (Yv .NotEq) (yD X.K b4):=by intro a s o H x y v u Q I i j h;obtain⟨n,m,k,l,b,R,d,g,e,q⟩:=h;exact(CP I R 8 c i j d g e).2 _ _ _ _ ⟨.bl (!b),H,I,rfl,q⟩
noncomputable def aR(ne:Bool):D->D->Hm->jk:=λx y a=>(cG 8 a x y).map λb=>(.bl (if ne then !b else b),a)
theorem tV{ne:Bool}:dQ K (aR ne) (yD K ne):=by intro a H j x y d l m n Q R h i g k;obtain⟨b,c,e⟩:=WS.mp g;cases e;exact⟨a,j,x,y,b,R,h,i,c,k a _ H .refl R (.bl _)⟩
noncomputable def yE:D->D->Hm->jk
 |.str i,.str j,μ=>aX (.bl (!(YC j i 0 j.length 1).isEmpty),μ)|_,_,_=>aY
theorem CY:dQ K yE (λx y H Q=>∃i j,x=.str i/\y=.str j/\Q (.bl (!(YC j i 0 j.length 1).isEmpty)) H):=by
 intro g H m x y d e h l Q R b c a k;unfold yE at a;split at a
 ·cases a;cases b;cases c;exact⟨_,_,rfl,rfl,k g _ H .refl R (.bl _)⟩
 ·cases a
end
section
variable{X:Cx}{a b c:Expr}{ma mb mc:ME}{pos:YE}
theorem tW{k:Nat}{A:XC}(r:Room k A):A.units+8<YL:=by have:=r.un;omega
theorem Mt(s:PE X a (tM X.K ma)):PE X (.UnaryOp .USub a pos) (tM X.K (λj g=>(ma j g).bind λp=>(xY p.1).map λd=>(d,p.2))):=dE (Kc Kg s) (by
 rintro B H Q ⟨z,j,g,d,v,R,E,e,k⟩;obtain⟨⟨x,w⟩,q,e⟩:=WM.mp e;obtain⟨y,l,r⟩:=WS.mp e;cases r;cases x with
 |int i=>cases l;refine⟨z,j,g,_,_,R,E,q,λh A m o n u=>?_⟩;cases u;exact⟨_,rfl,k h _ m o n (.int _)⟩
 |_=>cases l)
theorem Mu{x:Str}{n:String}(d:Gl X x)(e:X.mg x=aY)(h:YN x=aX (.type n))(g:x ≠ "__name__":=by decide) (hd:(x==("__debug__":Str))=false:=by decide):PE X (.Name x pos) (tM X.K (mC (.ty n))):=
 oU (Jd (v:=.ty n) d e h rfl g hd) λ_ _ _=>.ty n
end
noncomputable def yF(b:Hm):D->Option String
 |.non=>aX "NoneType"|.bl _=>aX "bool"|.int _=>aX "int"|.str _=>aX "str"|.tup _=>aX "tuple"|.rol _=>aX "list"|.loc a=>match b[a]? with
  |some (.lst _)=>aX "list"|some (.dK _)=>aX "dict"|some (.dT _)=>aX "dict"|_=>aY
 |.ty _=>aY
noncomputable def tX(t c:String):Option Bool:=match c with
 | "int"=>aX (t=="int" || t=="bool")| "bool"=>aX (t=="bool")| "str"=>aX (t=="str")| "list"=>aX (t=="list")| "tuple"=>aX (t=="tuple")| "dict"=>aX (t=="dict")|_=>aY
noncomputable def jO:MF:=λds a=>match ds with
 |[x,.ty c]=>(yF a x).bind λt=>(tX t c).map λb=>(.bl b,a)|_=>aY
theorem k9 (K:WQ){t c:String}{b:Bool}(d:t = "NoneType"\/t = "bool"\/t = "int"\/t = "str"\/t = "tuple"\/t = "list"\/t = "dict") (h:tX t c=aX b):a5g K (.type t) (.type c)=aX b:=by
 unfold tX at h
 split at h<;>first
  | cases h;done
  | (have a:=Xg h;subst a
     rcases d with rfl|rfl|rfl|rfl|rfl|rfl|rfl<;>first|rfl|decide +kernel|(unfold a5g;simp;rfl))
end L3
namespace L3
open PySem L2
noncomputable abbrev MG:=D->aG->Hm->Option aG
inductive tMG (K:WQ)(g:MG)(v:V)(σ:St)(H:Hp)(Q:St->Hp->Prop):Prop
 |mk (π:Nat->Addr)(ρ:aG)(μ:Hm)(d:D)(ρ':aG)(R:Rp K π H μ)(E:En K π μ.length H σ ρ)(i:IsD K π μ.length H v d)(hm:g d ρ μ=aX ρ')(k:∀σ',En K π μ.length H σ' ρ'->Q σ' H):tMG K g v σ H Q
noncomputable def bT(i:Nat):MG:=λd a _=>aX (a.set i (aX d))
section
variable{X:Cx}{pos:YE}
theorem CZ{i:Nat}{x:Str}(b:X.N.Nodup)(hi:X.N[i]?=aX x)(g:Loc X.env.scope x)(c:X.fn x=b4\/X.env.scope.names.lookup x=aX .local:=by first|exact .inl rfl|exact .inr rfl|assumption):PG X (.Name x pos) (tMG X.K (bT i)):=by intro a s l H v u Q I r h;obtain⟨n,o,m,d,j,R,E,hd,e,k⟩:=h;cases e;exact BG b hi g c a s l H v u Q I r (k _ (E.set hd i))
noncomputable def Mv(K:WQ)(c:TE):TI:=λσ H R=>c σ H λx b=>∃a,x=.ref a/\(((∃xs,SqL K b a xs)/\R (w8 K a) b)\/((∃xs,SqT K b a xs)/\R (w9 K a) b))
theorem Mw{l tg:Expr}{n:TE}(r:PE X l n):PI X tg l (Mv X.K n):=by
 intro i s B H R I h;refine aV (r i s B H _ I h) λv c ⟨x,m,d,y,w⟩=>?_;obtain⟨a,e,q⟩:=w;subst e;cases y;rcases q with⟨⟨A,k⟩,q⟩|⟨⟨A,k⟩,q⟩
 ·obtain⟨g,z,p,u⟩:=d.list k;refine a1U p.isList ?_;refine⟨c.heap.objs.size,[c.heap.objs.size],_,_,m,rfl,d.kept (t':=c.toks) λb o e=>WW _ e,JW a _,⟨_,W9 _ rfl,rfl,rfl⟩,λb j=>?_,q⟩;have e:b=c.heap.objs.size:=by simpa using j
  subst e;exact d.fpOk (WY _) (d.hok.fresh (WY _))
 ·obtain⟨g,z,p,u⟩:=d.tuple k;refine a6j (show c.heap.IsTuple a g.toArray from p) ?_;refine⟨c.heap.objs.size,[c.heap.objs.size],_,_,m,rfl,d.kept (t':=c.toks) λb o e=>WW _ e,JX a _,⟨_,W9 _ rfl,rfl,rfl⟩,λb j=>?_,q⟩;have e:b=c.heap.objs.size:=by simpa using j
  subst e;exact d.fpOk (WY _) (d.hok.fresh (WY _))
end
structure Wk(K:WQ)(J:It)(src:Hm->Nat->Option (Option D))(π:Nat->Addr)(n:Nat)(H:Hp):Prop where
 stop:∀π' μ H' i,Ext π n H π' μ.length H'->Rp K π' H' μ->src μ i=aX aY->J.stop i H'
 go:∀π' μ H' i d,Ext π n H π' μ.length H'->Rp K π' H' μ->src μ i=aX (aX d)->J.go i H'/\∀x H2,J.yld i H' x H2->Ext π' μ.length H' π' μ.length H2/\Rp K π' H2 μ/\IsD K π' μ.length H2 x d
noncomputable def lE(x:D):Hm->Nat->Option (Option D):=λa i=>(bK a x).map λxs=>xs[i]?
theorem Mx{K:WQ}{π:Nat->Addr}{A:Hm}{H:Hp}{v:V}{x:D}{xs:List D}(R:Rp K π H A)(h:IsD K π A.length H v x)(B:bK A x=aX xs) :
  ∃a,v=.ref a/\(((∃b,SqL K H a b)/\Wk K (w8 K a) (lE x) π A.length H)\/((∃b,SqT K H a b)/\Wk K (w9 K a) (lE x) π A.length H)):=by
 cases h with
 |@tup p b ds q t=>
  refine⟨p,rfl,.inr ⟨⟨b,q⟩,⟨λk j o i e l z=>?_,λk j o i d e l z=>?_⟩⟩⟩
  ·simp only[lE,bK,Xm]at z;have g:ds[i]?=none:=Xg z;exact⟨b,e.sqT q,by rw[t.length];exact XU.mp g⟩
  ·simp only[lE,bK,Xm]at z;have g:ds[i]?=aX d:=Xg z;obtain⟨w,c,m⟩:=t.get g;refine⟨⟨b,w,e.sqT q,c⟩,λy I ⟨r,s⟩=>?_⟩;subst r;have:=s b (e.sqT q);rw[c]at this;cases this;exact⟨.refl,l,m.mono e⟩
 |@rol p b ds q t=>
  refine⟨p,rfl,.inl ⟨⟨b,q.sq⟩,⟨λk j o i e l z=>?_,λk j o i d e l z=>?_⟩⟩⟩
  ·simp only[lE,bK,Xm]at z;have g:ds[i]?=none:=Xg z;exact⟨b,(e.roL q).sq,by rw[t.length];exact XU.mp g⟩
  ·simp only[lE,bK,Xm]at z;have g:ds[i]?=aX d:=Xg z;obtain⟨w,c,m⟩:=t.get g;refine⟨⟨b,w,(e.roL q).sq,c⟩,λy I ⟨r,s⟩=>?_⟩;subst r;have:=s b (e.roL q).sq;rw[c]at this;cases this;exact⟨.refl,l,m.mono e⟩
 |@loc a L=>
  have hc:∃b,H (π a)=aX (.lst b):=by
   simp only[bK]at B;split at B
   ·rename_i n u;obtain⟨b,c,_⟩:=R.lst a n u;exact⟨b,c⟩
   ·cases B
  obtain⟨G,E⟩:=hc;refine⟨π a,rfl,.inl ⟨⟨G,.of E⟩,⟨λk j o i e l z=>?_,λk j o i d e l z=>?_⟩⟩⟩
  ·simp only[lE,bK]at z;split at z
   ·rename_i n u;obtain⟨b,c,m⟩:=l.lst a n u;rw[e.pi a L]at c;have g:n[i]?=none:=Xg z;exact⟨b,.of c,by rw[m.length];exact XU.mp g⟩
   ·cases z
  ·simp only[lE,bK]at z;split at z
   ·rename_i n u;obtain⟨b,c,m⟩:=l.lst a n u;rw[e.pi a L]at c;have g:n[i]?=aX d:=Xg z;obtain⟨w,J,M⟩:=m.get g;refine⟨⟨b,w,.of c,J⟩,λy I ⟨r,s⟩=>?_⟩;subst r;have:=s b (.of c);rw[J]at this;cases this;exact⟨.refl,l,M⟩
   ·cases z
 |_=>cases B
noncomputable def dS(a:Hm->Nat->Option (Option D))(g:MG)(b:MS):Nat->Nat->MS
 |0,_,_,_=>aY|n+1,i,ρ,μ=>(a μ i).bind λo=>match o with
  |none=>aX (.nx,ρ,μ)|some d=>(g d ρ μ).bind λc=>(b c μ).bind λp=>match p.1 with
   |.nx=>dS a g b n (i+1) p.2.1 p.2.2|.ct=>dS a g b n (i+1) p.2.1 p.2.2|.bk=>aX (.nx,p.2.1,p.2.2)|.rt d=>aX (.rt d,p.2.1,p.2.2)
theorem My{K:WQ}{J:It}{B:Hm->Nat->Option (Option D)}{g:MG}{b:MS}{π:Nat->Addr}{Q:Nat}{O:Hp}(W:Wk K J B π Q O){E:Ends}{A:Fl}{p:aG}{j:Hm}(hE:nM K E π Q O A p j)
  {G:Nat->Addr}{u:Hm}{H1:Hp}{T:aG}{σ1:St}{n:Nat}(e1:Ext π Q O G u.length H1)(R1:Rp K G H1 u)(E1:En K G u.length H1 σ1 T)(h:dS B g b n 0 T u=aX (A,p,j)) :
  ∃Wd:Nat->Nat->St->Hp->Prop,(∃m,Wd 0 m σ1 H1)/\∀i m X H,Wd i m X H->
   (J.stop i H/\E.nx X H)\/(J.go i H/\∃N:St->Hp->Prop,(∀w s,N w s->∃m',m'<m/\Wd (i+1) m' w s)/\∀x s,J.yld i H x s->tMG K g x X s λσ2 H2=>tMS K b {E with nx:=N,ct:=N,bk:=E.nx} σ2 H2):=by
 have lift:∀{a:Nat->Addr}{n2:Nat}{H2:Hp}(e:Ext π Q O a n2 H2){A:Fl}{p:aG}{j:Hm},nM K E π Q O A p j->nM K E a n2 H2 A p j:=λ{a n2 H2} e {A p j} k=>by
  cases A with
  |nx=>exact λv r H3 e3 R3 M=>k v r H3 (e.trans e3) R3 M|bk=>exact λv r H3 e3 R3 M=>k v r H3 (e.trans e3) R3 M|ct=>exact λv r H3 e3 R3 M=>k v r H3 (e.trans e3) R3 M|rt d=>exact KC.after k e
 refine⟨λi m X H=>∃a l I,Ext π Q O a l.length H/\Rp K a H l/\En K a l.length H X I/\dS B g b m i I l=aX (A,p,j),⟨n,G,u,T,e1,R1,E1,h⟩,?_⟩;rintro i m X H ⟨a,l,I,z,R2,E2,h2⟩;cases m with
 |zero=>cases h2|succ m=>
  obtain⟨o,h3,h4⟩:=WM.mp h2;cases o with
  |none=>cases h4;exact .inl ⟨W.stop a _ H i z R2 h3,hE a X H z R2 E2⟩|some d=>
   obtain⟨g1,g2⟩:=W.go a l H i d z R2 h3;obtain⟨ρ3,h5,h6⟩:=WM.mp h4;obtain⟨⟨f4,U,R⟩,h7,h8⟩:=WM.mp h6;refine .inr ⟨g1,λw s=>∃c L q,Ext π Q O c q.length s/\Rp K c s q/\En K c q.length s w L/\dS B g b m (i+1) L q=aX (A,p,j),
    λw s ⟨c,L,q,a1,a2,a3,a4⟩=>⟨m,YW _,c,q,L,a1,a2,a3,a4⟩,λx s y=>?_⟩
   obtain⟨ex,Rx,hx⟩:=g2 x s y;have z:=z.trans ex;refine⟨a,I,l,d,ρ3,Rx,E2.mono ex,hx,h5,λr M=>⟨a,ρ3,l,f4,U,R,Rx,M,h7,?_⟩⟩;cases f4 with
   |nx=>exact λc Y H5 e5 R5 Z=>⟨c,U,R,z.trans e5,R5,Z,h8⟩|ct=>exact λc Y H5 e5 R5 Z=>⟨c,U,R,z.trans e5,R5,Z,h8⟩|bk=>cases h8;exact λc Y H5 e5 R5 Z=>hE c Y H5 (z.trans e5) R5 Z|rt d'=>cases h8;exact KC.after hE z
section
variable{X:Cx}{pos:YE}{tg iter:Expr}{body:List Stmt}{mi:ME}{g:MG}{mb:MS}
noncomputable def gQ(lo:Int)(n:Nat):Hm->Nat->Option (Option D):=λ_ i=>aX (if i<n then aX (.int (lo+i))else aY)
theorem C0{K:WQ}{lo:Int}{k:Nat}{π:Nat->Addr}{n:Nat}{H:Hp}:Wk K (mI lo k) (gQ lo k) π n H:=by
 refine⟨λb m c i e R z=>?_,λb m c i d e R z=>?_⟩
 ·have a:=Xg z;split at a
  ·cases a
  ·exact ZY.mp (by assumption)
 ·have a:=Xg z;split at a
  ·cases a;rename_i h;exact⟨h,λx o ⟨j,l⟩=>by subst j;rw[l];exact⟨.refl,R,.int _⟩⟩
  ·cases a
end
noncomputable def o6(y:Str):Str:="#"++y
noncomputable def bL(xs N:List Str):List Str:=N.map λy=>if xs.contains y then o6 y else y
theorem nN(xs N:List Str):(bL xs N).length=N.length:=by unfold bL;simp
theorem Mz{xs N:List Str}{i:Nat}{y:Str}(h:(bL xs N)[i]?=aX y):∃a,N[i]?=aX a/\((xs.contains a=b4/\y=o6 a)\/(xs.contains a=b3/\y=a)):=by
 unfold bL at h;rw[W6]at h;obtain⟨a,c,b⟩:=WS.mp h;refine⟨a,c,?_⟩;cases hc:xs.contains a with
 |true=>rw[hc]at b;exact .inl ⟨rfl,by simpa using b.symm⟩|false=>rw[hc]at b;exact .inr ⟨rfl,by simpa using b.symm⟩
noncomputable def cN(X:Cx)(scope:Zz)(a:List (Str×Addr))(C:Addr)(N:List Str)(s₀:WX)(H₀:Hp)(b:List Addr):Cx:=
 {X with N:=N,s₀:=s₀,H₀:=H₀,env:=a0R scope a C X.env,outer:=X.stack,stack:=X.stack,ex:=b,fn:=λ_=>b3,pn:=[],xe:=λ_ _=>False}
theorem C1{env:a2v}:∀(names:List (Str×ZM))(x:Str),(names.map λ(n,k)=>if(k==Zi&&env.scope.kind==.function&&env.kindOf n==aX .cell)then(n,Zy)else(n,k)).lookup x
  = (names.lookup x).map λk=>if(k==Zi&&env.scope.kind==.function&&env.kindOf x==aX .cell)then Zy else k
 |[],_=>rfl|(n,k)::r,x=>by
  have c:=C1 (env:=env) r x;rw[Xa];by_cases b:x=n
  ·subst b;have key:∀(k':ZM)(l:List (Str×ZM)),a2j x ((x,k')::l)=aX k':=λk' l=>by simp[a0N]
   rw[key];show a2j x ((if(k==Zi&&env.scope.kind==.function&&env.kindOf x==aX .cell)=b4 then(x,Zy)else(x,k))::_)=aX (if(k==Zi&&env.scope.kind==.function&&env.kindOf x==aX .cell)=b4 then Zy else k);split
   ·rw[key]
   ·rw[key]
  ·have a:(x==n)=false:=by simpa using b
   have key:∀(k':ZM)(l:List (Str×ZM)),a2j x ((n,k')::l)=a2j x l:=λk' l=>by simp only[a0N,a]
   rw[key];show a2j x ((if(k==Zi&&env.scope.kind==.function&&env.kindOf n==aX .cell)=b4 then(n,Zy)else(n,k))::_)=_;split
   ·rw[key];exact c
   ·rw[key];exact c
structure CompOk(X:Cx)(scope:Zz)(cl:List (Str×Addr))(xs:List Str):Prop where
 clos:a6o scope X.env=pure cl
 nocell:∀y∈scope.names,y.2≠.cell
 kind:scope.kind=.function
 names:∀y∈scope.names,y.2=.local->scope.names.lookup y.1=aX .local
 here:∀x∈xs,scope.names.lookup x=aX .local
 sub:∀y c,cl.lookup y=aX c->X.env.cells.lookup y=aX c
 free:∀y,scope.names.lookup y=aX .free->(X.env.kindOf y=aX .cell\/X.env.kindOf y=aX .free)/\∃c,cl.lookup y=aX c
 own:∀y,scope.names.lookup y=aX .local->y∉bL xs X.N
 hidn:∀y∈X.N,xs.contains y=b4->scope.names.lookup (o6 y)=aY
section
variable{X:Cx}{scope:Zz}{cl:List (Str×Addr)}{xs:List Str}
theorem CompOk.kindOf(O:CompOk X scope cl xs)(C:Addr)(y:Str):(a0R scope cl C X.env).kindOf y=(scope.names.lookup y).map λk=>if(k==Zi&&X.env.scope.kind==.function&&X.env.kindOf y==aX .cell)then Zy else k:=
 C1 scope.names y
theorem CompOk.outer(O:CompOk X scope cl xs){C:Addr}{y:Str}(h:(a0R scope cl C X.env).kindOf y=aX .cell\/(a0R scope cl C X.env).kindOf y=aX .free):scope.names.lookup y=aX .free:=by
 rw[O.kindOf]at h;cases q:scope.names.lookup y with
 |none=>rw[q]at h;rcases h with h|h<;>cases h
 |some k=>
  rw[q]at h;cases k with
  |free=>rfl|cell=>exact absurd rfl (O.nocell _ (Yp q))| «local»=>rcases h with h|h<;>simp at h
  |globalExplicit=>rcases h with h|h<;>simp at h
  |globalImplicit=>rcases h with h|h<;>simp at h
theorem CompOk.inv{a7J:jw}{σ:St}{H:Hp}{s:WX}{T:List Addr}{d:Ye}{tk:Nat}(O:CompOk X scope cl xs)(I:Inv X a7J σ H s)(B:∀b∈T,iT X a7J H b)(hob:∀b∈T,∃o,s.heap.get? b=aX o){m:Str->Option Value}
  (hns:d.Ns s.heap.objs.size m)(L:∀b o,s.heap.get? b=aX o->d.get? b=aX o) :
  Inv (cN X scope cl s.heap.objs.size (bL xs X.N++xs) s H T) [] (σ++Zc xs.length aY) H {s with heap:=d,toks:=tk}:=by
 refine⟨⟨I.ok.mod,O.kind,I.ok.glob,I.ok.blt,WY _,λy z c U A=>?_,λy hy=>?_,(λy c h=>by cases h),I.ok.hd,I.ok.frames,.inl rfl,λb G=>?_,λb o e=>I.bs b o e,Xz I.ok.bsz I.sz,λb o e G=>?_,λb G Z=>?_,I.stack,I.stkFree⟩,
  rfl,I.bare,Un.kept L,⟨m,hns,λi y v U A w=>?_⟩,λy c h=>?_,I.hok.fresh (WY _),λy c h=>I.freeC y c (O.sub y c h),λp hp=>absurd (show p∈([]:jw)from hp) (by simp),I.hok.kept L,?_⟩
 ·exact I.ok.inj y z c (O.sub y c U) (O.sub z c A)
 ·exact(O.free y (O.outer hy)).2
 ·obtain⟨f0,N,Q,x,R,f5⟩:=B b G;obtain⟨o,K⟩:=hob b G;exact⟨Xd (W2 K),λy c h=>R y c (O.sub y c h)⟩
 ·obtain⟨f0,N,Q,x,R,f5⟩:=B b G;rcases x with x|x
  ·exact I.ok.noex b o e x
  ·exact absurd (Xq (W2 (I.ok.bs b o e).1) x) (Zs _)
 ·obtain⟨f0,N,Q,x,R,f5⟩:=B b G;rcases Xr.mp (I.stkSub b Z)with z|z
  ·exact N z
  ·exact Q z
 ·have hi:i<σ.length:=by
   by_cases hi:i<σ.length
   ·exact hi
   ·rw[YI (ZY.mp hi),ZQ]at A;split at A<;>cases A
  rw[XM hi]at A;have J:(bL xs X.N)[i]?=aX y:=by have n:(bL xs X.N++xs)[i]?=aX y:=U;rw[XM (by rw[nN,<- I.len];exact hi)]at n;exact n
  have j:scope.names.lookup y≠aX .local:=λz=>O.own y z (Xn J);have E:=O.kindOf s.heap.objs.size y;have Y:X.N[i]?=aX y:=by
   obtain⟨y0,q1,M⟩:=Mz J;rcases M with⟨M,q3⟩|⟨M,q3⟩
   ·exfalso;have hz:=O.hidn y0 (Xn q1) M;rw[<- q3]at hz;rw[hz]at E;have a:(a0R scope cl s.heap.objs.size X.env).kindOf y=aX .local\/(a0R scope cl s.heap.objs.size X.env).kindOf y=aX .cell\/(a0R scope cl s.heap.objs.size X.env).kindOf y=aX .free:=w;rw[E]at a;rcases a with a|a|a<;>cases a
   ·rw[q3];exact q1
  have a:(a0R scope cl s.heap.objs.size X.env).kindOf y=aX .cell\/(a0R scope cl s.heap.objs.size X.env).kindOf y=aX .free:=by
   rcases w with w|w|w
   ·exfalso;have a:(a0R scope cl s.heap.objs.size X.env).kindOf y=aX .local:=w;rw[E]at a;cases q:scope.names.lookup y with
    |none=>rw[q]at a;cases a|some k=>
     rw[q]at a;cases k with
     | «local»=>exact j q|cell=>simp at a|free=>simp only[Xm]at a;split at a<;>cases a|globalExplicit=>simp at a|globalImplicit=>simp at a
   ·exact .inl w
   ·exact .inr w
  obtain⟨g,c,hc⟩:=O.free y (O.outer a);obtain⟨m0,hn0,hl0⟩:=I.loc;obtain⟨u,r,l⟩:=hl0 i y v Y A (by rcases g with g|g;exact .inr (.inl g);exact .inr (.inr g));refine⟨u,r,.inr ⟨a,c,hc,?_⟩⟩;rcases l with⟨lk,_⟩|⟨_,c',e',z⟩
  ·exfalso;rcases g with g|g
   ·rw[g]at lk;cases lk
   ·rw[g]at lk;cases lk
  ·rw[O.sub y c hc]at e';cases e';obtain⟨o,K,hd⟩:=z;exact⟨o,L c o K,hd⟩
 ·obtain⟨v,q⟩:=I.cell y c (O.sub y c h);exact⟨v,by obtain⟨o,K,hd⟩:=q;exact⟨o,L c o K,hd⟩⟩
 ·show(σ++Zc xs.length aY).length=(bL xs X.N++xs).length;rw[W4,W4,I.len,Zw,nN]
theorem CompOk.back{a7J Q:jw}{σ E:St}{H i:Hp}{s s1:WX}{j:List Addr}{h':Ye}{N:List Str}(I:Inv X a7J σ H s)(p:∀b∈j,iT X a7J H b)
  (J:Inv (cN X scope cl s.heap.objs.size N s H j) Q E i s1)(m:∀b o,b≠s.heap.objs.size->s1.heap.get? b=aX o->h'.get? b=aX o):Inv X a7J σ i {s1 with heap:=h'}:=by
 have u:Un (iR X.stack) j H i s.heap h':=by
  have h:Un (iR X.stack) j H i s.heap s1.heap:=J.base;have ne:∀b o,s.heap.get? b=aX o->b≠s.heap.objs.size:=λb o e=>Xd (W2 e);refine⟨λb o e n k l=>m b o (ne b o e) (h.keep b o e n k l),λb o e n k l=>?_,h.free,λb o e l=>?_,h.tups,h.frzs,h.tbls⟩
  ·obtain⟨R,q⟩:=h.slot b o e n k l;exact⟨R,m b _ (ne b o e) q⟩
  ·obtain⟨O,q⟩:=h.there b o e l;exact⟨O,m b _ (ne b o e) q⟩
 have a:i s.heap.objs.size=none:=J.free;have x:HOk X.prog X.w i h':=λb v e=>by
  refine(J.hok b v e).stay (λc w hc q=>m c w ?_ q) (λ_ q=>q) λ_ _ q=>q;rcases hc with z|z
  ·rw[z];intro B;rw[B,a]at e;cases e
  ·intro B;rw[B,a]at z;cases z
 have y:s1.os=s.os:=J.os;obtain⟨Y,g,d,t,A⟩:=s1;obtain rfl:A=s.os:=y;have r:=Inv.call (X:=X) (a7J:=a7J) (σ:=σ) (H:=H) (s:=s) (h':=h') (g':=g) (d':=d) (t':=t) (ch:=j) I u x J.bare λb k=>let⟨T,G,U,K,L,M⟩:=p b k;⟨K,G,L,M⟩;exact r
end
theorem MB{prog:Xw}{w:XF}{A:XC}{R:a3Q->WX->Prop}{s:WX}{elt a iter:Expr}{ifs:List Expr}{scope:Zz}{pos:YE}{B p:Value}{env:a2v}(I:Nat->WX->Prop)
  (turn:∀n s,I n s->Xk (Xv prog w) A (a0v B) (λr d=>match r with
   |none=>R (.ok .next) d
   |some v=>Xk (Xv prog w) A (a2r a B v) (λ_ e=>Xk (Xv prog w) A (a3i a env v) (λ_ k=>
     Xk (Xv prog w) A (forIn ifs b4 λc r=>if r=b4 then do let ok <- a5c c env (eval c env);pure (a0h ok)else pure (a0h r)) (λok g=>
      if ok=b4 then Xk (Xv prog w) A (eval elt env) (λx l=>
       Xk (Xv prog w) A (call (.builtin "list.append") [p,x]) (λ_ o=>∃m,m<n/\I m o) (λ_ _=>False) l) (λ_ _=>False) g
      else ∃m,m<n/\I m g) (λ_ _=>False) k) (λ_ _=>False) e) (λ_ _=>False) d) (λ_ _=>False) s)
  (n:Nat)(h:I n s) :
  a0B (Xv prog w) A (.compLoop (.ListComp elt [⟨a,iter,ifs,0⟩] scope pos) 0 B p env) R s:=by
 refine codeAny_loop rfl I (λn s E=>?_) n h;show Xk _ A ((compTurn (.ListComp elt [⟨a,iter,ifs,0⟩] scope pos) 0 B p env).onRaise (λx=>do noteFrame x env;theTreesLotGoes x)) _ _ s;refine wpAny_noted ?_;rw[compTurn_list];refine WN (a1X (WN (Ym (turn n s E) (λr d i=>?_) λ_ _ b=>b.elim)));cases r with
 |none=>exact WV i|some v=>
  refine WN (Ym i (λ_ e q=>?_) λ_ _ b=>b.elim);refine WN (Ym q (λ_ k u=>WN (Ym u (λok g j=>?_) λ_ _ b=>b.elim)) λ_ _ b=>b.elim);cases ok with
  |false=>exact WV ⟨rfl,j⟩|true=>exact WN (WN (Ym j (λx l y=>WN (Ym y (λ_ o z=>WV (WV ⟨rfl,z⟩)) λ_ _ b=>b.elim)) λ_ _ b=>b.elim))
noncomputable def o7(b:Hm)(a:Nat)(y:D):Option Hm:=match b[a]? with
 |some (.lst xs)=>if xs.length<W8 then aX (b.set a (.lst (xs++[y])))else aY|_=>aY
noncomputable abbrev BD:=D->Hm->Option aG
noncomputable def o8:BD:=λd _=>aX [aX d]
noncomputable def tY(k:Nat):BD:=λd a=>(bK a d).bind λxs=>if xs.length=k then aX (xs.map aX)else aY
noncomputable def iG(a:Hm->Nat->Option (Option D))(h:BD)(c:MT)(e:ME)(b:aG)(g:Nat):Nat->Nat->Hm->Option Hm
 |0,_,_=>aY|n+1,i,μ=>(a μ i).bind λo=>match o with
  |none=>aX μ|some d=>(h d μ).bind λx=>(c (b++x) μ).bind λp=>match p.1 with
   |true=>(e (b++x) p.2).bind λq=>(o7 q.2 g q.1).bind λj=>iG a h c e b g n (i+1) j|false=>iG a h c e b g n (i+1) p.2
noncomputable def fS:MT:=λ_ a=>aX (b4,a)
noncomputable def nO(X:Cx)(ifs:List Expr)(m:MT):Prop:=
 ∀(a7J:jw)(s:WX)(σ:St)(H:Hp)(Q:Bool->Hp->Prop),Inv X a7J σ H s->tMT X.K m σ H Q->
  Xk (Xv X.prog X.w) X.A (forIn ifs b4 λc r=>if r=b4 then do let ok <- a5c c X.env (eval c X.env);pure (a0h ok)else pure (a0h r)) (TP X a7J σ Q) X.xe s
theorem MC{X:Cx}:nO X [] fS:=by intro a s j H Q I h;obtain⟨e,i,g,b,d,R,E,c,k⟩:=h;cases c;exact wpAny_tests_nil ⟨H,I,k e H .refl R⟩
theorem MH{X:Cx}{c:Expr}{m:MT}(h:PT X c (tMT X.K m)):nO X [c] m:=λa7J s σ H Q I q=>wpAny_tests_one (h a7J s σ H Q I q)
section
variable{prog:Xw}{w:XF}{A:XC}{E:Value->WX->Prop}{s:WX}
theorem C2{e t:Addr}{items:Array Value}(h:t≠e):∀(n i:Nat)(s:WX)(Q:gq->WX->Prop),s.heap.IsListIter e t i->s.heap.IsList t items->i+n<=items.size->
  (∀k,k.IsListIter e t (i+n)->YK e s.heap k->Q ((items.toList.drop i).take n) {s with heap:=k})->Xk (Xv prog w) A (draw (.ref e) n) Q E s
 |0,i,s,Q,hit,_,_,hQ=>by show Xk _ _ (pure []) Q E s;exact WV (by simpa using hQ s.heap hit (a3W ..))
 |n+1,i,s,Q,hit,ht,hle,hQ=>by
  have g:i<items.size:=by omega
  show Xk _ _ (a0v (.ref e) >>= _) Q E s;refine WN (a4V hit ht (x:=items[i]) (by simp[g]) λl b a=>?_);refine WN (X4 (C2 h n (i+1) _ _ b (ht.extBut a.extBut h) (by omega) λj c d=>WV ?_));have hd:items.toList.drop i=items[i]::items.toList.drop (i+1):=by simp[a1y,g]
  have:=hQ j (by rw[show i+(n+1)=i+1+n by omega];exact c) (a.trans d);rw[hd,List.take_succ_cons]at this;exact this
theorem MJ{t:Addr}{items:Array Value}{Q:gq->WX->Prop}(q:A.handled=aY)(j:s.heap.IsList t items)
  (p:∀m,a1E s.heap.objs.size s.heap m->Q items.toList {s with heap:=m}):Xk (Xv prog w) A (a5L (.ref t) items.size aY) Q E s:=by
 have i:t≠s.heap.objs.size:=by obtain⟨o,r,_⟩:=j;exact Xd (W2 r)
 unfold a5L;refine WN ?_
 ·unfold notIterableAtAll;refine WN (a2p j.typeIs slot_list_iter.lookup ?_);refine WV ?_;simp only[Xp,if_false];refine WN (X4 (a1U j ?_));refine WN (X4 (C2 i items.size 0 _ _ ⟨_,W9 _ rfl,rfl,rfl⟩ (j.push _) (by omega) λk c a=>?_));have h:List.take items.size (List.drop 0 items.toList)=items.toList:=by rw[List.drop_zero];exact Yk (by simp)
  rw[h];rw[if_neg (by simp)];have g:k.IsList t items:=(j.push _).extBut a.extBut i;refine WN (X4 (a5v q c g (by simp) λl d=>?_));simp only[Option.isSome_none,Xp,if_false];refine WV (p l λb o n e=>d b o n (a.extBut b o n (WW _ e)))
theorem MK{env:a2v}{a:List Expr} {x1} {pos:YE}{t:Addr}{items:Array Value}{Q:Unit->WX->Prop}(d:A.handled=aY)(g:s.heap.IsList t items)
  (e:(Zp a env).length=items.size)(b:(Zp a env).findIdx? (·.1)=aY)
  (h:∀c,a1E s.heap.objs.size s.heap c->Xk (Xv prog w) A (a3c ((Zp a env).map (·.2)) items.toList) Q E {s with heap:=c}) :
  Xk (Xv prog w) A (a3i (.Tuple a x1 pos) env (.ref t)) Q E s:=by
 rw[a7r];refine WN (a1X ?_);unfold unpack;rw[e,b];exact WN (X4 (MJ d g h))
end
noncomputable def nP:aG->List Nat->List D->aG
 |ρ,i::is,x::xs=>nP (ρ.set i (aX x)) is xs|ρ,_,_=>ρ
noncomputable def cP(is:List Nat):MG:=λd b a=>(bK a d).bind λxs=>if xs.length=is.length then aX (nP b is xs)else aY
noncomputable def tZ:List Nat->oS
 |[]=>BH|i::r=>BI (w5 i) (tZ r)
theorem yG{K:WQ}{π:Nat->Addr}{n:Nat}{H:Hp}:∀(is:List Nat){vs:gw}{xs:List D}{σ:St}{b:aG}{Q:St->Hp->Prop},IsDs K π n H vs xs->En K π n H σ b->xs.length=is.length->(∀a,En K π n H a (nP b is xs)->Q a H)->tZ is vs σ H Q
 |[],vs,xs,σ,b,Q,h,E,hl,k=>by
  cases h with
  |nil=>exact⟨rfl,k σ E⟩|cons h t=>cases hl
 |i::is,vs,xs,σ,b,Q,h,E,hl,k=>by
  cases h with
  |nil=>cases hl|cons h t=>exact⟨_,_,rfl,yG is t (E.set h i) (by simpa using hl) k⟩
section
variable{X:Cx}{pos:YE}
theorem ML{es:List Expr}{k:Nat}{is:List Nat}(hc:X.calm=b4)(h:qQ X es (tZ is))(K:(Zp es X.env).length=is.length:=by rfl)(n:(Zp es X.env).findIdx? (·.1)=none:=by rfl) :
  PG X (.Tuple es k pos) (tMG X.K (cP is)):=by
 intro i s x H v u Q I r hw;obtain⟨N,ρ,M,d,ρ',R,E,hd,U,L⟩:=hw;obtain⟨J,j,A⟩:=WM.mp U;split at A
 ·rename_i w;cases A;have m:(∃a g,v=.ref a/\SqT X.K H a g/\IsDs X.K N M.length H g J)\/(∃a g,v=.ref a/\SqL X.K H a g/\IsDs X.K N M.length H g J):=by
   cases hd with
   |tup q t=>cases j;exact .inl ⟨_,_,rfl,q,t⟩|rol q t=>cases j;exact .inr ⟨_,_,rfl,q.sq,t⟩|@loc a ha=>
    simp only[bK]at j;split at j
    ·rename_i ys Y;cases j;obtain⟨g,O,T⟩:=R.lst a J Y;exact .inr ⟨_,g,rfl,.of O,T⟩
    ·cases j
   |_=>cases j
  rcases m with⟨a,g,rfl,q,t⟩|⟨a,g,rfl,q,t⟩
  ·cases r;obtain⟨l,p,B,Z⟩:=I.tuple q;have c:l.length=is.length:=by rw[<- p.length,t.length];exact w
   refine a7q (I.ok.hd hc) B (by simp[K,c]) n λz G=>?_;have y:Inv X i x H {s with heap:=z}:=I.kept (t':=s.toks) λb o e=>G b o (Xd (W2 e)) e;exact h i _ x H g _ Q y (by simpa using p) (yG is t E w L)
  ·cases r;obtain⟨l,p,B,Z⟩:=I.list q;have c:l.length=is.length:=by rw[<- p.length,t.length];exact w
   refine MK (I.ok.hd hc) B.isList (by simp[K,c]) n λz G=>?_;have y:Inv X i x H {s with heap:=z}:=I.kept (t':=s.toks) λb o e=>G b o (Xd (W2 e)) e;exact h i _ x H g _ Q y (by simpa using p) (yG is t E w L)
 ·cases A
noncomputable def fE(m:ME)(g:MG):MS:=λb c=>(m b c).bind λp=>(g p.1 b p.2).map λa=>(.nx,a,p.2)
theorem MM{tg e:Expr}{m:ME}{g:MG}(q:PE X e (tM X.K m))(r:PG X tg (tMG X.K g))(s:a3a [tg] e pos.line X.env=pure false:=by rfl)(hw:a0a [tg] e X.env=pure none:=by rfl)
  (h1:(Zp [tg] X.env).map (·.2)=[a3i tg X.env]:=by rfl):PS X (.Assign [tg] e pos) (tMS X.K (fE m g)):=iY (JQ q r s hw h1) (by
 rintro E I H ⟨y,l,v,B,z,w,R,h,a,k⟩;obtain⟨⟨x,c⟩,h1,a⟩:=WM.mp a;obtain⟨A,p,a⟩:=WS.mp a;cases a;exact⟨y,l,v,x,c,R,h,h1,λb G o j i u=>⟨b,l,_,x,_,i,h.mono j,u,p,λd n=>k b d o j i n⟩⟩)
end
section
variable{X:Cx}{K:WQ}
noncomputable def qY:MF:=λds a=>match ds with
 |[.str z]=>if z.length<=W8 then aX (.int z.length,a)else aY|[x]=>(bK a x).map λb=>(.int b.length,a)|_=>aY
noncomputable def yH(K:WQ):gw->Hp->VK->Prop:=λxs H Q=>(∃p a,xs=[.ref p]/\(SqL K H p a\/SqT K H p a)/\Q (.int a.length) H)\/(∃z,xs=[.str z]/\z.length<=W8/\Q (.int z.length) H)
theorem call_lenM:CallR X (.builtin "len") (yH X.K):=call_len_seq.or K5
theorem o9{π:Nat->Addr}{b:Hm}{H:Hp}{v:V}{x:D}{xs:List D}(R:Rp K π H b)(h:IsD K π b.length H v x)(e:bK b x=aX xs):∃p vs,v=.ref p/\(SqL K H p vs\/SqT K H p vs)/\IsDs K π b.length H vs xs:=by
 cases h with
 |tup q t=>cases e;exact⟨_,_,rfl,.inr q,t⟩|rol q t=>cases e;exact⟨_,_,rfl,.inl q.sq,t⟩|@loc a i=>
  simp only[bK]at e;split at e
  ·rename_i j g;cases e;obtain⟨vs,c,d⟩:=R.lst a xs g;exact⟨_,vs,rfl,.inl (.of c),d⟩
  ·cases e
 |_=>cases e
theorem C3:dR K qY (yH K):=by
 intro b H o m d j l Q R i a k;unfold qY at a;split at a
 ·split at a
  ·rename_i g;cases a;cases i with
   |cons i t=>cases i;cases t;exact .inr ⟨_,rfl,g,k b _ H .refl R (.int _)⟩
  ·cases a
 ·obtain⟨n,c,e⟩:=WS.mp a;cases e;cases i with
  |cons i t=>cases t;obtain⟨p,h,rfl,q,hd⟩:=o9 R i c;refine .inl ⟨p,h,rfl,q,?_⟩;rw[hd.length];exact k b _ H .refl R (.int _)
 ·cases a
noncomputable def mN:MF:=λds a=>match ds with
 |[.int i]=>aX (.int i,a)|[.bl b]=>aX (.int (if b then 1 else 0),a)|_=>aY
theorem MN:dR K mN (λxs H Q=>(∃i,xs=[.int i]/\Q (.int i) H)\/∃k,xs=[.bl k]/\Q (.int (if k then 1 else 0)) H):=by
 intro b H g xs d c e Q R i a k;unfold mN at a;split at a
 ·cases a;cases i with
  |cons i t=>cases i;cases t;exact .inl ⟨_,rfl,k b _ H .refl R (.int _)⟩
 ·cases a;cases i with
  |cons i t=>cases i;cases t;exact .inr ⟨_,rfl,k b _ H .refl R (.int _)⟩
 ·cases a
noncomputable def qZ:MF:=λds a=>match ds with
 |[x]=>(bK a x).map λb=>(.loc a.length,a++[.lst b])|_=>aY
theorem C4:dR K qZ (λxs H Q=>∃p a,xs=[.ref p]/\(SqL K H p a\/SqT K H p a)/\∀l,H l=aY->Q (.ref l) (aM H l (.lst a))):=by
 intro r H o xs d m n Q R i b k;unfold qZ at b;split at b
 ·obtain⟨a,g,h⟩:=WS.mp b;cases h;cases i with
  |cons i t=>cases t;obtain⟨p,c,rfl,q,hd⟩:=o9 R i g;refine⟨p,c,rfl,q,λl j=>?_⟩;obtain⟨e,R2,_⟩:=R.alloc (c:=.lst a) (o:=.lst c) j hd;exact k _ _ _ e R2 mM
 ·cases b
noncomputable def C5(K:WQ):gw->Hp->VK->Prop:=λvs H Q=>∃π a x v t c b,vs=[v,.ty c]/\Rp K π H a/\IsD K π a.length H v x/\yF a x=aX t/\tX t c=aX b/\Q (.bl b) H
theorem MP:dR K jO (C5 K):=by
 intro c H p o d m n Q R i a k;unfold jO at a;split at a
 ·obtain⟨t,e,a⟩:=WM.mp a;obtain⟨b,g,a⟩:=WS.mp a;cases a;cases i with
  |cons i j=>
   cases j with
   |cons h l=>cases l;cases h;exact⟨c,_,_,_,t,_,b,rfl,R,i,e,g,k c _ H .refl R (.bl _)⟩
 ·cases a
theorem MQ:CallR X (.builtin "isinstance") (C5 X.K):=by
 intro G s Z H N us Q I r h;obtain⟨L,μ,x,v,t,c,b,rfl,R,i,d,k,q⟩:=h;obtain⟨u,u2,rfl,m,U⟩:=tF r;cases U;have fin:∀J,EP X G Z Q (.bool b) {s with toks:=J}:=λJ=>⟨.bl b,H,I.tok J,rfl,q⟩;cases i with
 |non=>cases d;cases m;exact Zd PySem.W.kitx_none I.kIn a0s (k9 X.K (by simp) k) (λz=>nomatch z) fin|bl y=>cases d;cases m;exact Zd PySem.W.kitx_bool I.kIn a0s (k9 X.K (by simp) k) (λz=>nomatch z) fin|int y=>cases d;obtain⟨t,rfl⟩:=m;exact Zd PySem.W.kitx_int I.kIn a0s (k9 X.K (by simp) k) (λz=>nomatch z) fin|str y=>cases d;obtain⟨t,rfl⟩:=m;exact Zd PySem.W.kitx_str I.kIn a0s (k9 X.K (by simp) k) (λz=>nomatch z) fin|tup g t=>cases d;cases m;obtain⟨B,M,p,_⟩:=I.tuple g;obtain⟨o,e,j,_⟩:=p;exact Zd PySem.W.kitx_tuple I.kIn ⟨o,e,j⟩ (k9 X.K (by simp) k) (λz=>nomatch z) fin|rol g t=>cases d;cases m;obtain⟨B,M,p,_⟩:=I.list g.sq;obtain⟨o,e,j,_⟩:=p.isList;exact Zd a4y I.kIn ⟨o,e,j⟩ (k9 X.K (by simp) k) (λz=>nomatch z) fin|@loc a ha=>
  cases m;simp only[yF]at d;split at d
  ·rename_i N A;cases d;obtain⟨E,w,h4⟩:=R.lst a N A;obtain⟨B,M,p,_⟩:=I.list (SqL.of (K:=X.K) w);obtain⟨o,e,j,_⟩:=p.isList;exact Zd a4y I.kIn ⟨o,e,j⟩ (k9 X.K (by simp) k) (λz=>nomatch z) fin
  ·rename_i l A;cases d;obtain⟨E,w,_⟩:=R.dK a l A;obtain⟨_,_,Y,_,p⟩:=(show ObjOk X.prog X.w H s.heap (L a) (.dK E)from I.hok _ _ w);obtain⟨o,T,O,e,j,_⟩:=p;exact Zd a4z I.kIn ⟨o,e,j.1⟩ (k9 X.K (by simp) k) (λz=>nomatch z) fin
  ·rename_i l A;cases d;obtain⟨E,w,_⟩:=R.dT a l A;obtain⟨⟨Y,_,_,_,o,T,O,e,j,_⟩,_⟩:=(show ObjOk X.prog X.w H s.heap (L a) (aU (L a) E)from I.hok _ _ w);exact Zd a4z I.kIn ⟨o,e,j.1⟩ (k9 X.K (by simp) k) (λz=>nomatch z) fin
  ·cases d
 |ty n=>cases d
end
inductive IsKs (K:WQ)(π:Nat->Addr)(n:Nat)(H:Hp):List (cA×V)->List (cA×D)->Prop where
 |nil:IsKs K π n H [] []
 |cons {k:cA}{v:V}{d:D}{vs:List (cA×V)}{ds:List (cA×D)}(h:IsD K π n H v d)(t:IsKs K π n H vs ds):IsKs K π n H ((k,v)::vs) ((k,d)::ds)
section
variable{K:WQ}{π π':Nat->Addr}{n n':Nat}{H H':Hp}
theorem IsKs.length{vs:List (cA×V)}{ds:List (cA×D)}(h:IsKs K π n H vs ds):vs.length=ds.length:=by
 induction h with
 |nil=>rfl|cons h t a=>rw[Xy,Xy,a]
end
noncomputable def MR(K:WQ)(a:List (ME×ME)):List (TE×TE):=a.map λp=>(tM K p.1,tM K p.2)
section
variable{X:Cx}{a b c:Expr}{ma mb mc:ME}{pos:YE}
end
theorem jP{k:Nat}{A:XC}(r:Room k A):A.units+1<YL:=by have:=r.un;omega
noncomputable def kE(a:ME):ME:=λc b=>(a c b).bind λp=>(xY p.1).map λd=>(d,p.2)
noncomputable def gR(cells:List (Str×Addr)):List (Str×ZM)->List (Str×Addr)->List (Str×Addr)
 |[],acc=>acc|(n,k)::r,acc=>if k=.free then(match cells.lookup n with|some c=>gR cells r ((n,c)::acc)|none=>gR cells r acc)else gR cells r acc
theorem C6{env:a2v}:∀(names:List (Str×ZM))(a:List (Str×Addr)),(∀y∈names,y.2=.free->∃c,env.cells.lookup y.1=aX c)->
  (forIn names a λ(x:Str×ZM)(d:List (Str×Addr))=>(do
   if x.2==.free then(do let c <- cellOf env x.1;pure (a0h ((x.1,c)::d)))else pure (a0h d):a7b (ForInStep (List (Str×Addr)))))=pure (gR env.cells names a)
 |[],a,_=>rfl|(n,k)::r,a,h=>by
  have g:=λa=>C6 r a λy i=>h y (Xc _ i);rw[a5Y];by_cases b:k=.free
  ·subst b;obtain⟨c,hc⟩:=h (n,.free) (Xf ..) rfl;dsimp only at hc;have e:cellOf env n=pure c:=by unfold cellOf;rw[hc]
   simp only[gR,hc,e,beq_self_eq_true,if_true,pure_bind];exact g _
  ·have e:(k==Zi)=false:=by simpa using b
   simp only[gR,e,b,if_false,Xp,pure_bind];exact g _
theorem MU{scope:Zz}{env:a2v}(h:∀y∈scope.names,y.2=.free->∃c,env.cells.lookup y.1=aX c):a6o scope env=pure (gR env.cells scope.names []):=by have:=C6 (env:=env) scope.names [] h;unfold a6o;simp only[bind_pure]at *;exact this
theorem t5{cells:List (Str×Addr)}:∀(names:List (Str×ZM))(a:List (Str×Addr)),(∀y c,a.lookup y=aX c->cells.lookup y=aX c)->∀y c,(gR cells names a).lookup y=aX c->cells.lookup y=aX c
 |[],a,h=>h|(n,k)::r,a,h=>by
  unfold gR;split
  ·split
   ·rename_i c0 hc;refine t5 r _ λy c e=>?_;rw[a0N]at e;by_cases b:y=n
    ·subst b;simp only[beq_self_eq_true]at e;cases e;exact hc
    ·have:(y==n)=false:=by simpa using b
     rw[this]at e;exact h y c e
   ·exact t5 r a h
  ·exact t5 r a h
theorem t6{cells:List (Str×Addr)}:∀(names:List (Str×ZM))(a:List (Str×Addr))(y:Str),(∃c,a.lookup y=aX c)->∃c,(gR cells names a).lookup y=aX c
 |[],a,y,h=>h|(n,k)::r,a,y,h=>by
  unfold gR;split
  ·split
   ·refine t6 r _ y ?_;rw[a0N];by_cases b:(y==n)=b4
    ·rw[b];exact⟨_,rfl⟩
    ·have:(y==n)=false:=by simpa using b
     rw[this];exact h
   ·exact t6 r a y h
  ·exact t6 r a y h
theorem t7{cells:List (Str×Addr)}:∀(names:List (Str×ZM))(a:List (Str×Addr))(y:Str),(y,Zi)∈names->(∃c,cells.lookup y=aX c)->∃c,(gR cells names a).lookup y=aX c
 |[],a,y,h,_=>by cases h
 |(n,k)::r,a,y,h,hc=>by
  unfold gR;rcases Xr.mp h with h|h
  ·cases h;obtain⟨c,hc⟩:=hc;rw[if_pos rfl,hc];exact t6 r _ _ ⟨c,by simp[a0N]⟩
  ·split
   ·split
    ·exact t7 r _ y h hc
    ·exact t7 r _ y h hc
   ·exact t7 r _ y h hc
structure CompSt(osc:Zz)(N:List Str)(scope:Zz)(xs:List Str):Prop where
 nocell:∀y∈scope.names,y.2≠.cell
 kind:scope.kind=.function
 names:∀y∈scope.names,y.2=.local->scope.names.lookup y.1=aX .local
 here:∀x∈xs,scope.names.lookup x=aX .local
 free:∀y∈scope.names,y.2=.free->osc.names.lookup y.1=aX .cell\/osc.names.lookup y.1=aX .free
 own:∀y∈scope.names,y.2=.local->y.1∉bL xs N
 nd:N.Nodup
 hnd:(bL xs N).Nodup
 hidn:∀y∈N,xs.contains y=b4->scope.names.lookup (o6 y)=aY
theorem CompSt.ok{X:Cx}{scope:Zz}{xs:List Str}(S:CompSt X.env.scope X.N scope xs)(ok:X.Ok):CompOk X scope (gR X.env.cells scope.names []) xs:=by
 have has:∀y∈scope.names,y.2=.free->∃c,X.env.cells.lookup y.1=aX c:=λy d b=>ok.has y.1 (S.free y d b);refine⟨MU has,S.nocell,S.kind,S.names,S.here,t5 scope.names [] (λy c e=>by cases e),λy e=>?_,λy e=>?_,S.hidn⟩
 ·have a:=Yp e;exact⟨S.free _ a rfl,t7 scope.names [] y a (has _ a rfl)⟩
 ·exact S.own _ (Yp e) rfl
section
variable{X:Cx}{pos:YE}
noncomputable def pE(i j:Nat)(b:MA):MS:=λa c=>(b a c).bind λp=>match p.1 with
 |[v,w]=>aX (.nx,(a.set i (aX v)).set j (aX w),p.2)|_=>aY
theorem MV{i j:Nat}{x y:Str}{a b:Expr}{r:MA}{m py pt:YE}{l h:Nat}{c:YE}(hc:X.calm=b4)(w:X.N.Nodup)(hi:X.N[i]?=aX x)(A:X.N[j]?=aX y)(e:i≠j)
  (G:X.env.scope.names.lookup x=aX .local)(I:X.env.scope.names.lookup y=aX .local)(z:PA X [a,b] (tMA X.K r))
  (hw:a0a [.Tuple [.Name x m,.Name y py] l pt] (.Tuple [a,b] h c) X.env=pure (aX [x,y]))
  (B:a3a [.Tuple [.Name x m,.Name y py] l pt] (.Tuple [a,b] h c) pos.line X.env=pure false:=by rfl) :
  PS X (.Assign [.Tuple [.Name x m,.Name y py] l pt] (.Tuple [a,b] h c) pos) (tMS X.K (pE i j r)):=iY (JT hc w hi A e G I z hw B) (by
 rintro E Z H ⟨O,Q,M,U,T,N,R,p,d,k⟩;obtain⟨⟨ds,n⟩,v,d⟩:=WM.mp d;refine⟨O,Q,M,ds,n,R,p,v,λo Y s q u g=>?_⟩;dsimp only at d;split at d
 ·cases d;cases g with
  |cons g K=>
   cases K with
   |cons J L=>cases L;exact⟨_,_,rfl,k o _ s q u (((p.mono q).set g i).set J j)⟩
 ·cases d)
end
noncomputable def cT(e:Expr):Bool:=!(e.ctorIdx==22)
theorem fT{e:Expr}{es:List Expr}{env:a2v}(h:cT e=b4):XB (e::es) env=(b3,eval e env)::XB es env:=by cases e<;>first|rfl|cases h
theorem nQ{pos:YE}{env:a2v}:∀{es:List Expr},es.all cT=b4->(ZI pos (XB es env)).any (·.1)=b3
 |[],_=>rfl|e::es,h=>by rw[XG,WZ]at h;rw[fT h.1];have:=nQ (pos:=pos) (env:=env) h.2;simpa[ZI]using this
theorem t8{e:Expr}{es:List Expr}{env:a2v}(h:cT e=b4):Zp (e::es) env=(b3,a3i e env)::Zp es env:=by cases e<;>first|rfl|cases h
theorem C7{env:a2v}:∀{es:List Expr},es.all cT=b4->(Zp es env).length=es.length
 |[],_=>rfl|e::es,h=>by rw[XG,WZ]at h;rw[t8 h.1,Xy,Xy,C7 h.2]
theorem C8{env:a2v}:∀{es:List Expr},es.all cT=b4->(Zp es env).findIdx? (·.1)=aY
 |[],_=>rfl|e::es,h=>by rw[XG,WZ]at h;rw[t8 h.1,List.findIdx?_cons,C8 h.2];rfl
section
variable{X:Cx}{e a b c:Expr}{es:List Expr}{m:ME}{ms:MA}{pos:YE}
end
structure QE(X:Cx)(e:Expr)(m:ME):Prop where
 h:PE X e (tM X.K m)
structure QT(X:Cx)(e:Expr)(m:MT):Prop where
 h:PT X e (tMT X.K m)
structure QW(X:Cx)(e:Expr)(m:MT):Prop where
 h:PW X e (tMT X.K m)
structure QA(X:Cx)(es:List Expr)(m:MA)(n:Nat):Prop where
 h:PA X es (tMA X.K m)
 l:∀ρ μ ds μ',m ρ μ=aX (ds,μ')->ds.length=n
 s:es.all cT=b4
structure QO(X:Cx)(e:Option Expr)(m:MO):Prop where
 h:PO X e (tMO X.K m)
structure QS(X:Cx)(st:Stmt)(m:MS):Prop where
 h:PS X st (tMS X.K m)
structure QB(X:Cx)(st:List Stmt)(m:MS):Prop where
 h:PSs X st (tMS X.K m)
structure QG(X:Cx)(e:Expr)(g:MG):Prop where
 h:PG X e (tMG X.K g)
structure QGs(X:Cx)(es:List Expr)(is:List Nat):Prop where
 h:qQ X es (tZ is)
 n:es.length=is.length
 s:es.all cT=b4
structure QI(X:Cx)(ifs:List Expr)(m:MT):Prop where
 h:nO X ifs m
structure QP(X:Cx)(pos:YE)(keys:List (Option Expr))(values:List Expr)(prs:List (ME×ME)):Prop where
 h:KO X pos keys values (MR X.K prs)
 a:keys.all (·.isSome)=b4
 l:keys.length=values.length
section
variable{X:Cx}{e a b c:Expr}{m ma mb mc:ME}{pos:YE}{mt mu:MT}{b6 es:List Expr}{ms:MA}{n:Nat}
theorem MW{x:Str}(i:Nat)(g:X.N[i]?=aX x:=by rfl)(h:nI X.env.scope x:=by first|exact a4f rfl|exact a2N (a4f rfl)|exact a2N (a2N rfl))(hd:(x==("__debug__":Str))=false:=by decide)
  (d:(x==("__classdict__":Str))=false:=by decide):QE X (.Name x pos) (aA i):=⟨Lu i (BC g h hd d)⟩
theorem MX{i:Int}{j:Nat}:QE X (.Constant (.int i) j pos) (mC (.int i)):=⟨Lv⟩
theorem MY{i:Bool}{j:Nat}:QE X (.Constant (.bool i) j pos) (mC (.bl i)):=⟨Lx⟩
theorem MZ{i:Str}{j:Nat}:QE X (.Constant (.str i) j pos) (mC (.str i)):=⟨Lz⟩
theorem M0{j:Nat}:QE X (.Constant .none j pos) (mC .non):=⟨LA⟩
theorem pF{op:a4q}{r:R2}{f:D->D->Hm->jk}(i:OpR X (ZX op) r)(h:dQ X.K f r)(d:QE X a ma)(g:QE X b mb):QE X (.BinOp a op b pos) (aC f ma mb):=⟨LB i h d.h g.h⟩
theorem M3(d:QE X a ma)(g:QE X b mb):QE X (.BinOp a .Add b pos) (aC bI ma mb):=pF Mr Ms d g
theorem M4(d:QE X a ma)(g:QE X b mb):QE X (.BinOp a .Sub b pos) (aC gC ma mb):=pF Ke Ml d g
theorem M5(d:QE X a ma)(g:QE X b mb):QE X (.BinOp a .Mult b pos) (aC bO ma mb):=pF Mh Mn d g
theorem M6(d:QE X a ma)(g:QE X b mb):QE X (.BinOp a .FloorDiv b pos) (aC dG ma mb):=pF Mi Mo d g
theorem M7(d:QE X a ma)(g:QE X b mb):QE X (.BinOp a .Mod b pos) (aC a7 ma mb):=pF Kf Mp d g
theorem M8(d:QE X a ma)(g:QE X b mb):QE X (.BinOp a .Pow b pos) (aC k8 ma mb):=pF Mj Mq d g
theorem M9(d:QE X a ma):QE X (.UnaryOp .USub a pos) (kE ma):=⟨Mt d.h⟩
theorem Na(d:QE X a ma):QE X (.UnaryOp .Not a pos) (oV ma):=⟨LM d.h⟩
theorem Nb{k:Nat}(h:Room k X.A)(d:QE X a ma)(g:QE X b mb):QE X (.Compare a [.Eq] [b] pos) (aC (aR b3) ma mb):=⟨iZ (CV (tW h)) tV d.h g.h (iD _)⟩
theorem Nc{k:Nat}(h:Room k X.A)(d:QE X a ma)(g:QE X b mb):QE X (.Compare a [.NotEq] [b] pos) (aC (aR b4) ma mb):=⟨iZ (CW (tW h)) tV d.h g.h (iD _)⟩
theorem Nd(d:QE X a ma)(g:QE X b mb):QE X (.Compare a [.Lt] [b] pos) (aC jD ma mb):=⟨iZ xC jC d.h g.h (iD _)⟩
theorem Nf(d:QE X a ma)(g:QE X b mb):QE X (.Compare a [.LtE] [b] pos) (aC o4 ma mb):=⟨iZ xD jC d.h g.h (iD _)⟩
theorem Ng(d:QE X a ma)(g:QE X b mb):QE X (.Compare a [.Gt] [b] pos) (aC jN ma mb):=⟨iZ xE jC d.h g.h (iD _)⟩
theorem Nh(d:QE X a ma)(g:QE X b mb):QE X (.Compare a [.GtE] [b] pos) (aC yC ma mb):=⟨iZ xF jC d.h g.h (iD _)⟩
noncomputable def gD(e:Expr):Bool:=!(e.ctorIdx==7)
theorem jE{op:a0Z}{b:Expr}(h:gD b=b4):a0b op b=false:=by cases b<;>first|rfl|cases h
theorem Ni{op:BoolOp}(h:QE X a m):QE X (.BoolOp op [a] pos) m:=⟨LJ h.h⟩
theorem Nj(d:QE X a ma)(g:QE X (.BoolOp .And (b::b6) pos) mb):QE X (.BoolOp .And (a::b::b6) pos) (fR ma mb):=⟨LK d.h g.h⟩
theorem Nk(d:QE X a ma)(g:QE X (.BoolOp .Or (b::b6) pos) mb):QE X (.BoolOp .Or (a::b::b6) pos) (xQ ma mb):=⟨LL d.h g.h⟩
theorem Nl(hc:QT X c mt)(d:QE X a ma)(g:QE X b mb):QE X (.IfExp c a b pos) (k5 mt ma mb):=⟨LN hc.h d.h g.h⟩
theorem Nm:QA X [] aD 0:=⟨LO,LU,rfl⟩
theorem Nn(g:QE X e m)(d:QA X es ms n)(h:cT e=true:=by rfl):QA X (e::es) (aB m ms) (n+1):=⟨LP g.h d.h (fT h),LV d.l,by rw[XG,h,d.s];rfl⟩
theorem Np{d:Nat}(h:QA X es ms n):QE X (.Tuple es d pos) (bW ms):=⟨LQ h.h⟩
theorem Nq(h:QA X es ms n):QE X (.List es pos) (cD ms):=⟨LR h.h⟩
noncomputable def pG(e:Expr):Bool:=!(e.ctorIdx==26)
theorem C9{b:Expr}(h:pG b=b4):xN b:=by intro o i;cases b<;>first|rfl|cases h
theorem Nt(d:QE X a ma)(g:QE X b mb)(h:pG b=true:=by rfl):QE X (.Subscript a b pos) (aC iF ma mb):=⟨L0 d.h g.h (C9 h)⟩
theorem Nu{k:Nat}{f:Addr}{i:ZC}{ps:List Str}{j:MF}{x:Str}{p:YE}(F:FnOk X.prog X.w X.K X.mg X.base f9 k f i ps (jL X.K n j))(s:Room k X.A)(r:X.mg x=aX (.ref f))
  (q:YY X.K (.ref f)=b4)(l:Binds X.K i ps [])(d:QA X (e::es) ms n)(o:Gl X x:=by rfl)(g:(x==("__debug__":Str))=false:=by decide):QE X (.Call (.Name x p) (e::es) [] pos) (aI j ms):=by
 have h:=d.s;rw[XG,WZ]at h;exact⟨LW F s o r q l d.h d.l g (fT h.1) (nQ h.2)⟩
theorem yI{f:MF}{r:gw->Hp->VK->Prop}{id:String}{x:Str}{p:YE}(hc:CallR X (.builtin id) r)(i:dR X.K f r)(k:X.mg x=aY)(o:YN x=aX (.builtin id))(h:QA X (e::es) ms n)
  (j:Gl X x:=by rfl)(l:x ≠ "__name__":=by decide) (d:(x==("__debug__":Str))=false:=by decide):QE X (.Call (.Name x p) (e::es) [] pos) (aI f ms):=by
 have g:=h.s;rw[XG,WZ]at g;exact⟨LX hc i j k o h.h l d (fT g.1) (nQ g.2)⟩
theorem Nv{f:MF}{r:gw->Hp->VK->Prop}{T:String}{x:Str}{p:YE}(hc:CallR X (.type T) r)(i:dR X.K f r)(k:X.mg x=aY)(o:YN x=aX (.type T))(h:QA X (e::es) ms n)
  (j:Gl X x:=by rfl)(l:x ≠ "__name__":=by decide) (d:(x==("__debug__":Str))=false:=by decide):QE X (.Call (.Name x p) (e::es) [] pos) (aI f ms):=by
 have g:=h.s;rw[XG,WZ]at g;exact⟨LY hc i j k o h.h l d (fT g.1) (nQ g.2)⟩
theorem Nw{x:Str}{n:String}(g:X.mg x=aY)(i:YN x=aX (.type n))(d:Gl X x:=by rfl)(h:x ≠ "__name__":=by decide) (hd:(x==("__debug__":Str))=false:=by decide):QE X (.Name x pos) (mC (.ty n)):=⟨Mu d g i h hd⟩
theorem Nx{k:Nat}(h:Room k X.A)(d:QE X a ma)(g:QE X b mb):QT X (.Compare a [.Eq] [b] pos) (a8 (aC (aR b3) ma mb)):=⟨i7 (CV (tW h)) tV d.h g.h (iD _)⟩
theorem Ny{k:Nat}(h:Room k X.A)(d:QE X a ma)(g:QE X b mb):QT X (.Compare a [.NotEq] [b] pos) (a8 (aC (aR b4) ma mb)):=⟨i7 (CW (tW h)) tV d.h g.h (iD _)⟩
theorem Nz(d:QE X a ma)(g:QE X b mb):QT X (.Compare a [.Lt] [b] pos) (a8 (aC jD ma mb)):=⟨i7 xC jC d.h g.h (iD _)⟩
theorem NA(d:QE X a ma)(g:QE X b mb):QT X (.Compare a [.LtE] [b] pos) (a8 (aC o4 ma mb)):=⟨i7 xD jC d.h g.h (iD _)⟩
theorem NB(d:QE X a ma)(g:QE X b mb):QT X (.Compare a [.Gt] [b] pos) (a8 (aC jN ma mb)):=⟨i7 xE jC d.h g.h (iD _)⟩
theorem NC(d:QE X a ma)(g:QE X b mb):QT X (.Compare a [.GtE] [b] pos) (a8 (aC yC ma mb)):=⟨i7 xF jC d.h g.h (iD _)⟩
noncomputable def yJ:Expr->Bool
 |.UnaryOp .Not ..=>b3|.BoolOp ..=>b3|.IfExp ..=>b3|.Compare ..=>b3|_=>b4
theorem NF{e:Expr}{env:a2v}(h:yJ e=b4):∀d,a5c e env d=(do let v <- d;standAt e.pos;holding [v] (truthy v)):=by
 intro d;cases e<;>first|rfl|cases h|skip
 rename_i g x p;cases g<;>first|rfl|cases h
theorem NG(d:QT X a mt):QT X (.UnaryOp .Not a pos) (j9 mt):=⟨LI d.h⟩
theorem NH(d:QT X a mt):QW X (.BoolOp .And [a] pos) mt:=⟨LC d.h⟩
theorem NI(d:QT X a mt):QW X (.BoolOp .Or [a] pos) mt:=⟨LF d.h⟩
theorem NJ(d:QT X a mt)(g:QW X (.BoolOp .And (b::b6) pos) mu):QW X (.BoolOp .And (a::b::b6) pos) (fD mt mu):=⟨LG d.h g.h⟩
theorem NK(d:QT X a mt)(g:QW X (.BoolOp .Or (b::b6) pos) mu):QW X (.BoolOp .Or (a::b::b6) pos) (iE mt mu):=⟨LH d.h g.h⟩
theorem NL(h:QW X e mt):QT X e mt:=⟨h.h.pt⟩
theorem NM:QI X [] fS:=⟨MC⟩
theorem NN(h:QT X c mt):QI X [c] mt:=⟨MH h.h⟩
end
section
variable{X:Cx}{e a b c:Expr}{m:ME}{pos:YE}{mt:MT}{st:Stmt}{b6 body orelse:List Stmt}{ms mr mu:MS}{n:Nat}{is:List Nat}{es:List Expr}{g:MG}
theorem NO:QB X [] bZ:=⟨L4⟩
theorem NP(h1:QS X st ms)(d:QB X b6 mr):QB X (st::b6) (aH ms mr):=⟨L5 h1.h d.h⟩
theorem NQ(h1:QS X st ms):QB X [st] ms:=⟨L6 h1.h⟩
theorem NR:QS X (.Pass pos) bZ:=⟨L7⟩
theorem NS(d:QE X e m):QS X (.Return (aX e) pos) (aZ m):=⟨L8 d.h⟩
noncomputable def kF(e:Expr):Bool:=!(e.ctorIdx==8||e.ctorIdx==9||e.ctorIdx==10)
theorem t9{e:Expr}{t:Option Expr}{n:Nat}{env:a2v}(h:kF e=b4):a1c e t n env=pure false:=by cases e<;>first|rfl|cases h
theorem NT(d:QE X e m)(h:kF e=true:=by rfl):QS X (.Expr e pos) (eD m):=⟨L9 d.h (t9 h)⟩
theorem NU(hc:QT X c mt)(d:QB X body ms)(h:QB X orelse mu):QS X (.If c body orelse pos) (bU mt ms mu):=⟨Ma hc.h d.h h.h⟩
theorem NV(i:Nat){x:Str}{d:YE}(j:X.N.Nodup)(k:QE X e m)(h:kF e=true:=by rfl)(hi:X.N[i]?=aX x:=by rfl)(o:Loc X.env.scope x:=by first|exact a4f rfl|exact a2N rfl)
  (l:X.fn x=b4\/X.env.scope.names.lookup x=aX .local:=by first|exact .inl rfl|exact .inr rfl):QS X (.Assign [.Name x d] e pos) (aT i m):=⟨CI j hi o k.h (t9 h) l⟩
theorem NW(i:Nat){x:Str}(d:X.N.Nodup)(hi:X.N[i]?=aX x:=by rfl)(j:Loc X.env.scope x:=by first|exact a4f rfl|exact a2N rfl)
  (h:X.fn x=b4\/X.env.scope.names.lookup x=aX .local:=by first|exact .inl rfl|exact .inr rfl):QG X (.Name x pos) (bT i):=⟨CZ d hi j h⟩
theorem Dd:QGs X [] []:=⟨JO,rfl,rfl⟩
theorem De(i:Nat){x:Str}(h:X.N.Nodup)(d:QGs X es is)(hi:X.N[i]?=aX x:=by rfl)(k:Loc X.env.scope x:=by first|exact a4f rfl|exact a2N rfl)
  (j:X.fn x=b4\/X.env.scope.names.lookup x=aX .local:=by first|exact .inl rfl|exact .inr rfl):QGs X (.Name x pos::es) (i::is):=
 ⟨JP (BG h hi k j) d.h (by rw[t8 (e:=.Name x pos) rfl];rfl),by rw[Xy,Xy,d.n],by rw[XG,d.s];rfl⟩
theorem yK{k:Nat}(h:QGs X es is)(hc:X.calm=true:=by rfl):QG X (.Tuple es k pos) (cP is):=⟨ML hc h.h ((C7 h.s).trans h.n) (C8 h.s)⟩
noncomputable def yL(e:Expr):Bool:=!(e.ctorIdx==25)
theorem NX{es:List Expr}{k:Nat}{pt:YE}{e:Expr}{env:a2v}(h:yL e=b4):a0a [.Tuple es k pt] e env=pure none:=by cases e<;>first|rfl|cases h
theorem NY{k:Nat}{pt:YE}(d:QE X e m)(i:QG X (.Tuple es k pt) g)(h:yL e=true:=by rfl):QS X (.Assign [.Tuple es k pt] e pos) (fE m g):=
 ⟨MM d.h i.h (by cases e<;>rfl) (NX h) (by rw[t8 (e:=.Tuple es k pt) rfl];rfl)⟩
theorem NZ(i j:Nat){x y:Str}{a b:Expr}{ms:MA}{o py pt:YE}{l k:Nat}{d:YE}(p:X.N.Nodup)(q:QA X [a,b] ms n)(h:i≠j:=by decide)(hc:X.calm=true:=by rfl)(hi:X.N[i]?=aX x:=by rfl)(r:X.N[j]?=aX y:=by rfl)
  (s:X.env.scope.names.lookup x=aX .local:=by rfl)(u:X.env.scope.names.lookup y=aX .local:=by rfl)
  (hw:a0a [.Tuple [.Name x o,.Name y py] l pt] (.Tuple [a,b] k d) X.env=pure (aX [x,y]):=by rfl) :
  QS X (.Assign [.Tuple [.Name x o,.Name y py] l pt] (.Tuple [a,b] k d) pos) (pE i j ms):=⟨MV hc p hi r h s u q.h hw (by rfl)⟩
end
section
variable{P:Xw}{w:XF}{K:WQ}{mg:Str->Option Value}{base:Ye}
theorem N0{x a:Str}{st:Stmt}{f:Addr}{g:ZC}{N ps:List Str}{k:Nat}{body:List Stmt}{m:MS}(F:Fun K x a st f g)(S:FnScope N ps (cM st))(e:ps.length<=N.length)(d:fQ st=body)
  (c:∀(b:Value)(A:XC)(outer:List a2v)(s:WX)(H:Hp)(E:XK),Room k (A.deeper (a3A a (cM st) s.heap.objs.size f b))->
   QB (k0 f9 P w K mg base N a (cM st) f b A outer s H E).nox body m):FnOk P w K mg base f9 (k+1) f g ps (jL K ps.length (xS N.length m)):=
 Mc F S e λb A outer s H E h=>by rw[d];exact(c b A outer s H E h).h
end
noncomputable abbrev gE:=Hm->Nat->Option (Option D)
noncomputable abbrev MI:=aG->Hm->Option (gE×Nat×Hm)
inductive tMI (K:WQ)(m:MI)(σ:St)(H:Hp)(R:It->Hp->Prop):Prop
 |mk (π:Nat->Addr)(ρ:aG)(μ:Hm)(src:gE)(n:Nat)(μ':Hm)(r:Rp K π H μ)(E:En K π μ.length H σ ρ)(hm:m ρ μ=aX (src,n,μ'))(k:∀π' H' J,Ext π μ.length H π' μ'.length H'->Rp K π' H' μ'->Wk K J src π' μ'.length H'->R J H'):tMI K m σ H R
structure QJ(X:Cx)(e:Expr)(m:MI):Prop where
 h:∀tg,PI X tg e (tMI X.K m)
section
variable{X:Cx}{pos:YE}{e:Expr}{m:ME}
noncomputable def Df:MI:=λ_ _=>aY
theorem N3:QJ X e Df:=⟨λtg a7J s σ H R I hw=>by
 obtain⟨h,i,g,b,n,c,d,E,a,k⟩:=hw;cases a⟩
noncomputable def gG(a:Hm):D->Option (List D)
 |d=>bK a d
noncomputable def cI(x:D):gE:=λa i=>(gG a x).map λxs=>xs[i]?
noncomputable def cU(m:ME):MI:=λb a=>(m b a).bind λp=>(gG p.2 p.1).map λxs=>(cI p.1,xs.length+1,p.2)
theorem N4(h:QE X e m):QJ X e (cU m):=⟨λtg a7J s σ H R I hw=>by
 obtain⟨K,L,G,A,n,J,r,E,b,k⟩:=hw;obtain⟨⟨x,i⟩,u,b⟩:=WM.mp b;obtain⟨B,w,b⟩:=WS.mp b;cases b;have key:∀(o:bK i x=aX B)(p:cI x=lE x),Xk (Xv X.prog X.w) X.A (eval e X.env) (λv z=>Xk (Xv X.prog X.w) X.A (a2m v) (w6 X a7J σ tg R) X.xe z) X.xe s:=λo p=>by
  refine Mw h.h a7J s σ H R I ⟨K,L,G,x,_,r,E,u,λc M j l d y=>?_⟩;obtain⟨a,e,q⟩:=Mx d y o;subst e;refine⟨a,rfl,?_⟩;dsimp only at k;rw[p]at k;rcases q with⟨g,W⟩|⟨g,W⟩
  ·exact .inl ⟨g,k c j _ l d W⟩
  ·exact .inr ⟨g,k c j _ l d W⟩
 cases x with
 |_=>exact key w rfl⟩
noncomputable def lF(a:MA):MI:=λc b=>(a c b).bind λp=>match p.1 with
 |[.int j]=>if -(2^62)<=j/\j<2^62 then aX (gQ 0 j.toNat,j.toNat+1,p.2)else aY|_=>aY
theorem N5{q:Cx->Prop}{tg:Expr}(tr:∀(l:Addr)(lo:Int)(n:Nat),Turn q X.prog X.w X.K tg (mI lo n) [l] l (λi h=>a2M h l (lo+(i:Nat)*1) ((n:Int)-(i:Nat)) 1)){a:Expr}{y:MA}{n:Nat}{p:YE}(c:Gl X "range") (d:X.mg "range"=aY) (u:QA X [a] y n):qR q X tg (.Call (.Name "range" p) [a] [] pos) (tMI X.K (lF y)):=λa7J s σ H R I hw=>by
 have w:=u.s;rw[XG,WZ]at w;obtain⟨O,Q,M,K,T,N,B,E,b,k⟩:=hw;obtain⟨⟨x,o⟩,J,b⟩:=WM.mp b;refine J3 tr c d u.h (fT w.1) a7J s σ H R I ⟨O,Q,M,x,o,B,E,J,λr U z G A g=>?_⟩;dsimp only at b;split at b
 ·rename_i j;split at b
  ·rename_i v;cases b;cases g with
   |cons g L=>cases g;cases L;exact⟨j,rfl,v.1,v.2,k r z _ G A C0⟩
  ·cases b
 ·cases b
theorem N6{a:Expr}{d:MA}{n:Nat}{p:YE}(b:Gl X "range") (c:X.mg "range"=aY) (g:QA X [a] d n):QJ X (.Call (.Name "range" p) [a] [] pos) (lF d):=⟨λtg=>N5 BK b c g⟩
noncomputable def jF(a:MA):MI:=λc b=>(a c b).bind λp=>match p.1 with
 |[.int i,.int j]=>if -(2^62)<=i/\i<2^62/\-(2^62)<=j/\j<2^62 then aX (gQ i (j-i).toNat,(j-i).toNat+1,p.2)else aY|_=>aY
theorem N7{a b:Expr}{u:MA}{n:Nat}{p:YE}(g:Gl X "range") (h:X.mg "range"=aY) (r:QA X [a,b] u n):QJ X (.Call (.Name "range" p) [a,b] [] pos) (jF u):=⟨λtg a7J s σ H R I hw=>by
 have d:=r.s;rw[XG,WZ,XG,WZ]at d;obtain⟨O,Q,M,J,T,N,y,E,c,k⟩:=hw;obtain⟨⟨x,o⟩,A,c⟩:=WM.mp c;refine J5 g h r.h (by rw[fT d.1,fT d.2.1];rfl) (by rw[fT d.2.1];rfl) a7J s σ H R I ⟨O,Q,M,x,o,y,E,A,λq U v z w l=>?_⟩;dsimp only at c;split at c
 ·rename_i i j;split at c
  ·rename_i B;cases c;cases l with
   |cons l K=>
    cases l;cases K with
    |cons G L=>cases G;cases L;exact⟨i,j,rfl,B,k q v _ z w C0⟩
  ·cases c
 ·cases c⟩
noncomputable def bV(c:MI)(g:MG)(b:MS):MS:=λa d=>(c a d).bind λp=>dS p.1 g b p.2.1 0 a p.2.2
end
noncomputable def gT(d:BD)(g:MI)(c:MT)(e:ME):ME:=λb h=>(g b h).bind λp=>(iG p.1 d c e b p.2.2.length p.2.1 0 (p.2.2++[.lst []])).map λa=>(.loc p.2.2.length,a)
noncomputable abbrev eW(a:MI)(c:MT)(e:ME):ME:=gT o8 a c e
noncomputable def gB(n:Nat)(a:BD):MG:=λd c b=>(a d b).map λx=>c.take n++x
theorem N8{X:Cx}{n:Nat}{x:Str}{i:YE}(j:X.N.length=n+1)(h:PG X (.Name x i) (tMG X.K (bT n))):PG X (.Name x i) (tMG X.K (gB n o8)):=by
 intro b s w H v u Q I r hw;obtain⟨p,a,o,d,q,R,E,hd,l,k⟩:=hw;cases l;refine h b s w H v u Q I r ⟨p,a,o,d,_,R,E,hd,rfl,λc g=>k c ?_⟩;have m:a.length=n+1:=by rw[<- E.len,I.len,j]
 have e:a.set n (aX d)=a.take n++[aX d]:=by rw[List.set_eq_take_append_cons_drop,if_pos (by omega),a4m (by omega)]
 rw[e]at g;exact g
theorem Dg:∀(xs:List D)(a b:aG),b.length=xs.length->nP (a++b) (a2h a.length xs.length) xs=a++xs.map aX
 |[],a,[],_=>by simp[nP]
 |x::xs,a,y::b,h=>by have c:=Dg xs (a++[aX x]) b (by simpa using h);rw[Xy,a5D];show nP ((a++y::b).set a.length (aX x)) (a2h (a.length+1) xs.length) xs=_;rw[a2c _ _ (WY _),a6P,X7];rw[W4,a2d]at c;rw[Y2,List.singleton_append]at c;rw[c];simp
theorem N9{X:Cx}{n k:Nat}{tg:Expr}(q:X.N.length=n+k)(h:PG X tg (tMG X.K (cP (a2h n k)))):PG X tg (tMG X.K (gB n (tY k))):=by
 intro b s J H v u Q I r hw;obtain⟨B,a,A,d,G,R,E,hd,w,z⟩:=hw;obtain⟨y,m,o⟩:=WS.mp w;obtain⟨l,p,c⟩:=WM.mp m;split at c
 ·rename_i j;cases c;subst o;have x:a.length=n+k:=by rw[<- E.len,I.len,q]
  refine h b s J H v u Q I r ⟨B,a,A,d,nP a (a2h n k) l,R,E,hd,(by simp only[cP,p,Xi,List.length_range',if_pos j]),λg i=>z g ?_⟩;have e:=Dg l (a.take n) (a.drop n) (by rw[a0O];omega);rw[Y5,Ys,a6b (by omega),j]at e;rw[e]at i;exact i
 ·cases c
section
variable{X:Cx}{scope:Zz}{cl:List (Str×Addr)}{xs:List Str}{tg elt iter:Expr}{ifs:List Expr}{pos ppos:YE}{mi:MI}{me:ME}{mc:MT}{bd:BD}
theorem Oa{K:WQ}{π:Nat->Addr}{n:Nat}{H:Hp}{σ:St}{a o:aG}{k:Nat}(E:En K π n H σ (a++o))(b:o.length=k):En K π n H σ (a++Zc k aY):=by
 refine⟨by rw[E.len,W4,W4,Zw,b],λi d q=>?_⟩;by_cases hi:i<a.length
 ·rw[XM hi]at q;exact E.get i d (by rw[XM hi];exact q)
 ·rw[YI (ZY.mp hi),ZQ]at q;split at q<;>cases q
theorem Dh{q:Cx->Prop}(O:CompOk X scope cl xs)(hq:∀a7J σ H s k,Inv X a7J σ H s->q (cN X scope cl s.heap.objs.size (bL xs X.N++xs) s H k))(hi:qR q X tg iter (tMI X.K mi))(hb':∀d μ z,bd d μ=aX z->z.length=xs.length)(hg:∀C s₀ H₀ k,PG (cN X scope cl C (bL xs X.N++xs) s₀ H₀ k) tg (tMG X.K (gB X.N.length bd)))
  (hc:∀C s₀ H₀ k,nO (cN X scope cl C (bL xs X.N++xs) s₀ H₀ k) ifs mc)(he:∀C s₀ H₀ k,PE (cN X scope cl C (bL xs X.N++xs) s₀ H₀ k) elt (tM X.K me))
  (hs:∀x,a0e iter X.env x=pure x){use:Option (Value->a7b Unit)}{QQ:Value->WX->Prop}{a7J:jw}{s:WX}{σ:St}{H:Hp}{π:Nat->Addr}{U:aG}{μ Y:Hm}{d:D}
  (I:Inv X a7J σ H s)(R:Rp X.K π H μ)(E:En X.K π μ.length H σ U)(hm:gT bd mi mc me U μ=aX (d,Y))
  (fin:∀(p C:Addr)(l:Nat->Addr)(g:Hp)(s':WX),Ext π μ.length H l Y.length g->Rp X.K l g Y->IsD X.K l Y.length g (.ref p) d->(∃m,s'.heap.Ns C m)->X.s₀.heap.objs.size<=C->C≠X.env.locals->g C=aY->
   (∀y c,X.env.cells.lookup y=aX c->c≠C)->(∀q∈X.pn++a7J,q.1≠C)->(∀h',(∀b o,b≠C->s'.heap.get? b=aX o->h'.get? b=aX o)->Inv X a7J σ g {s' with heap:=h'})->
   compPost (Xv X.prog X.w) X.A X.xe use QQ (.ref p) C (.ok .next) s') :
  Xk (Xv X.prog X.w) X.A (comprehension (.ListComp elt [⟨tg,iter,ifs,0⟩] scope pos) scope X.env ppos (newList []) b3 (eval iter X.env) use) QQ X.xe s:=by
 obtain⟨⟨src,nt,a⟩,h1,hm⟩:=WM.mp hm;obtain⟨μ2,h3,hm⟩:=WS.mp hm;cases hm;have hit:Xk (Xv X.prog X.w) X.A (eval iter X.env) (λv s1=>Xk (Xv X.prog X.w) X.A (a2m v) (PIEq q X a7J σ tg λJ H1=>∃Z,Ext π μ.length H Z a.length H1/\Rp X.K Z H1 a/\Wk X.K J src Z a.length H1) X.xe s1) X.xe s:=
  hi a7J s σ H _ I ⟨π,U,μ,src,nt,a,R,E,h1,λZ H1 J e1 R1 W=>⟨Z,e1,R1,W⟩⟩
 refine wpAny_comprehension_free rfl hs O.clos O.kind O.names (Ym hit (λv s1 hv=>Ym hv (λitv B h4=>?_) λ_ _ z=>z) λ_ _ z=>z);obtain⟨it,k,tn,J,H2,rfl,I2,T,st2,f2,Z,e1,R1,W⟩:=h4;refine XZ (wpAny_newFunctionEnv O.nocell (by intro y hy;simp at hy) (λh₁ K L=>?_) O.kind);dsimp only at K L ⊢;have hfr:H2 B.heap.objs.size=none:=I2.hok.fresh (WY _);have I3:Inv X a7J σ (aM H2 B.heap.objs.size (.lst [])) {B with heap:=B.heap.push {cls:=.type "list",dict:=aY,data:=.seq ([]:gq).toArray}}:=
  I2.laid (t':=B.toks) (λb u e=>WW _ e) (WY _) ⟨XJ _,[],0,.nil,W9 _ rfl⟩
 obtain⟨e2,R2,q2⟩:=R1.alloc (c:=.lst []) (o:=.lst []) hfr .nil;generalize hs3:({B with heap:=B.heap.push {cls:=.type "list",dict:=aY,data:=.seq ([]:gq).toArray}}:WX)=s3 at I3;have G:B.heap.push {cls:=.type "list",dict:=aY,data:=.seq ([]:gq).toArray}=s3.heap:=by rw[<- hs3]
 have e12:=e1.trans e2;generalize hH3:aM H2 B.heap.objs.size (.lst [])=H3 at I3 e2 R2 e12;generalize hπ3:iX Z a.length B.heap.objs.size=π3 at e2 R2 q2 e12;have hob:∀b∈k,∃o,s3.heap.get? b=aX o:=λb A=>by obtain⟨o,ho,_⟩:=T.obj 0 _ st2 b A;exact⟨o,by rw[<- G];exact WW _ ho⟩
 have f3:∀b∈k,iT X a7J H3 b:=λb A=>by obtain⟨o,ho,_⟩:=T.obj 0 _ st2 b A;refine⟨?_,(f2 b A).2⟩;rw[<- hH3,bF (Xd (W2 ho))];exact(f2 b A).1
 have st3:tn 0 s3.heap:=T.keep 0 _ _ st2 λb A o e=>by rw[<- G];exact WW _ e
 have hC:(B.heap.push {cls:=.type "list",dict:=aY,data:=.seq ([]:gq).toArray}).objs.size=s3.heap.objs.size:=by rw[G]
 rw[G]at K L;have hk1:∀b o,s3.heap.get? b=aX o->h₁.get? b=aX o:=λb o e=>L.extBut b o (Xd (W2 e)) (WW _ e);have E3:En X.K π3 (a++[C.lst []]).length H3 (σ++Zc xs.length aY) (U++Zc xs.length aY):=by
  have E':=E.mono e12;refine⟨by rw[W4,W4,E'.len,Zw,Zw],λi d' q=>?_⟩;by_cases hi:i<U.length
  ·rw[XM hi]at q;obtain⟨v,h5,h6⟩:=E'.get i d' q;exact⟨v,by rw[XM (by rw[E'.len];exact hi)];exact h5,h6⟩
  ·rw[YI (ZY.mp hi),ZQ]at q;split at q<;>cases q
 have hlen:U.length=X.N.length:=by rw[<- E.len];exact I.len
 have stat:∀{g:Hp}{pl:jw},(∀b∈k,g b=aY)->pl=[]->∀b∈k,iT (cN X scope cl s3.heap.objs.size (bL xs X.N++xs) s3 H3 k) pl g b:=λ{g pl} hn hpl b A=>by
  obtain⟨f0,f1,f2',f3',f4,f5⟩:=f3 b A;obtain⟨o,ho⟩:=hob b A;refine⟨hn b A,Xd (W2 ho),λz=>?_,.inl A,λy c h=>f4 y c (O.sub y c h),λp hp=>?_⟩
  ·rcases Xr.mp (I3.stkSub b z)with z|z
   ·exact f1 z
   ·exact f2' z
  ·subst hpl;exact absurd (show p∈([]:jw)from hp) (by simp)
 have loop:∀s4:WX,(∃tk,s4={s3 with heap:=h₁,toks:=tk})->
   a0B (Xv X.prog X.w) X.A (.compLoop (.ListComp elt [⟨tg,iter,ifs,0⟩] scope pos) 0 (.ref it) (.ref B.heap.objs.size) (a0R scope cl s3.heap.objs.size X.env))
    (compPost (Xv X.prog X.w) X.A X.xe use QQ (.ref B.heap.objs.size) s3.heap.objs.size) s4:=by
  rintro s4 ⟨tk,rfl⟩;have I4:=O.inv (tk:=tk) I3 f3 hob K hk1;refine MB (λn s'=>∃i Q g l M o,Inv (cN X scope cl s3.heap.objs.size (bL xs X.N++xs) s3 H3 k) [] Q g s'/\tn i s'.heap/\(∀b∈k,g b=aY)/\Ext π3 (a++[C.lst []]).length H3 l M.length g/\Rp X.K l g M /\
   En X.K l M.length g Q (U++o)/\o.length=xs.length/\iG src bd mc me U a.length n i M=aX Y) ?_ nt
   ⟨0,_,H3,π3,a++[C.lst []],Zc xs.length aY,I4,T.keep 0 _ _ st3 λb A o e=>hk1 b o e,λb A=>(f3 b A).1,.refl,R2,E3,Zw,h3⟩
  rintro n s5 ⟨i,σ5,H5,N,μ5,o5,I5,st5,fr5,e5,R5,E5,l5,g5⟩;cases n with
  |zero=>cases g5|succ n=>
   obtain⟨o,h6,h7⟩:=WM.mp g5;cases o with
   |none=>
    cases h7;have stop:=W.stop N _ H5 i (e2.trans e5) R5 h6;refine Ym (T.done (cN X scope cl s3.heap.objs.size (bL xs X.N++xs) s3 H3 k) rfl rfl rfl (hq a7J σ H3 s3 k I3) i [] s5 σ5 H5 (λ_ _=>False) I5 (stat fr5 rfl) st5 stop) (λr s6 ⟨hr,I6⟩=>?_) λ_ _ z=>z;subst hr;obtain⟨m6,hn6,_⟩:=id I6.loc;have hp:N a.length=B.heap.objs.size:=by rw[e5.pi a.length (by simp),q2]
    refine fin B.heap.objs.size s3.heap.objs.size N H5 s6 (e12.trans e5) R5 ?_ ⟨m6,hn6⟩ I3.sz (XI (Xd I3.lt)) I6.free (λy c hc z=>?_) (λq hq z=>?_) λh' hh=>CompOk.back I3 f3 I6 hh
    ·rw[<- hp];exact .loc (Xq (by simp) e5.le)
    ·obtain⟨v,o,ho,_⟩:=I3.cell y c hc;exact Xd (W2 ho) z
    ·exact Xd (W2 (I3.pin q hq).1) z
   |some d=>
    obtain⟨z,hz,h7⟩:=WM.mp h7;obtain⟨⟨b,μ6⟩,h8,h9⟩:=WM.mp h7;obtain⟨g1,g2⟩:=W.go N μ5 H5 i d (e2.trans e5) R5 h6;refine Ym (T.item (cN X scope cl s3.heap.objs.size (bL xs X.N++xs) s3 H3 k) rfl rfl rfl (hq a7J σ H3 s3 k I3) i [] s5 σ5 H5 (λ_ _=>False) I5 (stat fr5 rfl) st5 g1) (λr s6 ⟨u,hr,h10⟩=>?_) λ_ _ z=>z;subst hr;refine Ym h10 (λ_ s7 ⟨v,H7,I7,r7,y7,st7,fr7⟩=>?_) λ_ _ z=>z;obtain⟨e7,R7,hd⟩:=g2 v H7 y7;have I7':=I7.pinned (stat fr7 rfl) (T.obj _ _ st7);have e5:=e5.trans e7;refine Ym (hg _ _ _ _ _ s7 σ5 H7 v u (λQ g=>En X.K N μ5.length H7 Q (U++z)/\g=H7) I7' r7
     ⟨N,U++Zc xs.length aY,μ5,d,U++z,R7,Oa (E5.mono e7) l5,hd,(by
      show(bd d μ5).map (λx=>(U++Zc xs.length aY).take X.N.length++x)=_;rw[hz,<- hlen,List.take_left];rfl),λQ E'=>⟨E',rfl⟩⟩) (λ_ s8 ⟨σ8,H8,I8,E8,z2⟩=>?_) λ_ _ z=>z
    subst z2;have again:∀{s9:WX}{H9:Hp}{j:Nat->Addr}{μ9:Hm},Inv (cN X scope cl s3.heap.objs.size (bL xs X.N++xs) s3 H3 k) ([]++qT k s7.heap) σ8 H9 s9->Ext π3 (a++[C.lst []]).length H3 j μ9.length H9->Rp X.K j H9 μ9->
      En X.K j μ9.length H9 σ8 (U++z)->iG src bd mc me U a.length n (i+1) μ9=aX Y->
      ∃m,m<n+1/\∃i Q g l M o,Inv (cN X scope cl s3.heap.objs.size (bL xs X.N++xs) s3 H3 k) [] Q g s9/\tn i s9.heap/\(∀b∈k,g b=aY)/\Ext π3 (a++[C.lst []]).length H3 l M.length g/\Rp X.K l g M /\
       En X.K l M.length g Q (U++o)/\o.length=xs.length/\iG src bd mc me U a.length m i M=aX Y:=λ{s9 H9 j μ9} I9 e9 R9 E9 g9=>by
     refine⟨n,YW _,i+1,_,H9,j,μ9,z,I9.unpinned,T.keep _ _ _ st7 λb A o e=>(I9.pin (b,o) (X3 _ (X3 _ (tB A e)))).1,λb A=>?_,e9,R9,E9,hb' _ _ _ hz,g9⟩;obtain⟨o,e,_⟩:=T.obj _ _ st7 b A;exact(I9.pin (b,o) (X3 _ (X3 _ (tB A e)))).2.1
    refine Ym (hc _ _ _ _ _ s8 _ H8 (λb' g=>∃j,b'=b/\Ext N μ5.length H8 j μ6.length g/\Rp X.K j g μ6) I8 ⟨N,_,μ5,b,μ6,R7,E8,h8,λj H9 e9 R9=>⟨j,rfl,e9,R9⟩⟩) (λok s9 ⟨H9,I9,j,A,e9,R9⟩=>?_) λ_ _ z=>z;subst A;cases ok with
    |false=>rw[if_neg Xo];exact again I9 (e5.trans e9) R9 (E8.mono e9) h9|true=>
     rw[if_pos rfl];obtain⟨⟨dy,μ7⟩,h11,h12⟩:=WM.mp h9;obtain⟨μ8,h13,h14⟩:=WM.mp h12;refine Ym (he _ _ _ _ _ s9 _ H9 (λy g=>∃w,Ext j μ6.length H9 w μ7.length g/\Rp X.K w g μ7/\IsD X.K w μ7.length g y dy) I9 ⟨j,_,μ6,dy,μ7,R9,E8.mono e9,h11,λw y H10 e10 R10 i10=>⟨w,e10,R10,i10⟩⟩)
      (λu' s10 ⟨y,H10,I10,ry,w,e10,R10,i10⟩=>?_) λ_ _ z=>z
     unfold o7 at h13;split at h13
     ·rename_i zs hz;split at h13
      ·rename_i hl;cases h13;obtain⟨vs,h15,h16⟩:=R10.lst _ zs hz;have eall:=(e5.trans e9).trans e10;have hp:w a.length=B.heap.objs.size:=by rw[eall.pi a.length (by simp),q2]
       obtain⟨e11,R11⟩:=R10.put (a:=a.length) (c:=.lst (zs++[dy])) (o:=.lst (vs++[y])) (WR.mp hz).1 h15 (.inl ⟨vs,rfl⟩) (h16.append (.cons i10 .nil));rw[hp]at h15 e11 R11;refine Ym (Cm (X:=cN X scope cl s3.heap.objs.size (bL xs X.N++xs) s3 H3 k) _ s10 _ H10 (.ref B.heap.objs.size) [y] (.ref B.heap.objs.size) [u'] (λ_ g=>g=aM H10 B.heap.objs.size (.lst (vs++[y]))) I10 rfl (.cons ry .nil)
        ⟨B.heap.objs.size,vs,y,rfl,rfl,h15,by rw[h16.length];exact hl,rfl⟩) (λ_ s11 ⟨_,H11,I11,_,z⟩=>?_) λ_ _ z=>z
       subst z;exact again I11 (eall.trans e11) R11 ((E8.mono (e9.trans e10)).mono e11) h14
      ·cases h13
     ·cases h13
 have l4:=loop {s3 with heap:=h₁,toks:=B.toks+([]:List (Str×Value)).length} ⟨_,rfl⟩;have hst4:tn 0 h₁:=T.keep 0 _ _ st3 λb A o e=>hk1 b o e;subst hs3;exact codeAny_compStart_list l4 (T.self _ 0 _ _ _ hst4 l4)
theorem Ob{q:Cx->Prop}(O:CompOk X scope cl xs)(L:∀a7J σ H s a,Inv X a7J σ H s->q (cN X scope cl s.heap.objs.size (bL xs X.N++xs) s H a))(hi:qR q X tg iter (tMI X.K mi))(c:∀d r z,bd d r=aX z->z.length=xs.length)(B:∀C s₀ H₀ a,PG (cN X scope cl C (bL xs X.N++xs) s₀ H₀ a) tg (tMG X.K (gB X.N.length bd)))
  (hc:∀C s₀ H₀ a,nO (cN X scope cl C (bL xs X.N++xs) s₀ H₀ a) ifs mc)(A:∀C s₀ H₀ a,PE (cN X scope cl C (bL xs X.N++xs) s₀ H₀ a) elt (tM X.K me))
  (M:∀x,a0e iter X.env x=pure x):PE X (.ListComp elt [⟨tg,iter,ifs,0⟩] scope pos) (tM X.K (gT bd mi mc me)):=by
 intro a7J s σ H Q I hw;obtain⟨π,ρ,r,d,Y,R,E,G,k⟩:=hw;rw[eval_ListComp];refine Dh (use:=aY) O L hi c B hc A M I R E G λp C i j Z v u T h N K g l n back=>?_;obtain⟨m,J⟩:=h;exact⟨m,J,λw U=>⟨.ref p,j,back w (λb o y e=>(U.2 b y).trans e),rfl,k i _ j v u T⟩⟩
theorem Oc(O:CompOk X scope cl xs)(a:X.calm=b4)(hi:PI X tg iter (tMI X.K mi))(c:∀d i z,bd d i=aX z->z.length=xs.length)(g:∀C s₀ H₀ b,PG (cN X scope cl C (bL xs X.N++xs) s₀ H₀ b) tg (tMG X.K (gB X.N.length bd)))
  (hc:∀C s₀ H₀ b,nO (cN X scope cl C (bL xs X.N++xs) s₀ H₀ b) ifs mc)(e:∀C s₀ H₀ b,PE (cN X scope cl C (bL xs X.N++xs) s₀ H₀ b) elt (tM X.K me))
  (h:∀x,a0e iter X.env x=pure x):PE X (.ListComp elt [⟨tg,iter,ifs,0⟩] scope pos) (tM X.K (gT bd mi mc me)):=Ob O (λ_ _ _ _ _ _=>a) hi c g hc e h
theorem Od{i:Nat}{y:Str}{py g:YE}(O:CompOk X scope cl xs)(hN:X.N.Nodup)(h:X.calm=b4)(hi:PI X tg iter (tMI X.K mi))(B:∀d Y z,bd d Y=aX z->z.length=xs.length)(hg:∀C s₀ H₀ n,PG (cN X scope cl C (bL xs X.N++xs) s₀ H₀ n) tg (tMG X.K (gB X.N.length bd)))
  (hc:∀C s₀ H₀ n,nO (cN X scope cl C (bL xs X.N++xs) s₀ H₀ n) ifs mc)(he:∀C s₀ H₀ n,PE (cN X scope cl C (bL xs X.N++xs) s₀ H₀ n) elt (tM X.K me))
  (hs:∀x,a0e iter X.env x=pure x)(hy:X.N[i]?=aX y)(U:X.env.scope.names.lookup y=aX .local)
  (K:a1c (.ListComp elt [⟨tg,iter,ifs,0⟩] scope pos) (aX (.Name y py)) g.line X.env=pure b4) :
  PS X (.Assign [.Name y py] (.ListComp elt [⟨tg,iter,ifs,0⟩] scope pos) g) (tMS X.K (aT i (gT bd mi mc me))):=by
 intro l s Z H EN I hw;obtain⟨π,ρ,Y,fl,ρ',μ',R,E,G,k⟩:=hw;obtain⟨⟨d,μ1⟩,h1,G⟩:=WS.mp G;cases G;rw[exec_Assign_Name_used _ _ _ _ K];refine WN (a1X ?_);refine WN (WN ?_);refine Dh (use:=aX (a3i (.Name y py) X.env)) (QQ:=λ_ u=>Xk (Xv X.prog X.w) X.A (pure ()) (λ_ M=>Xk (Xv X.prog X.w) X.A (pure a5I) (SP X l EN) X.xe M) X.xe u) O (λ_ _ _ _ _ _=>h) hi B hg hc he hs I R E h1 λp C Q v u T R1 i1 J L q j c r back=>?_;obtain⟨m,hn⟩:=J;have I1:Inv X l Z v u:=back u.heap λb o _ e=>e;show Xk (Xv X.prog X.w) X.A (a3i (.Name y py) X.env (.ref p)) _ X.xe u;refine a6w ?_;refine BB I1 hN hy (.inl U) (show RelV (.ref p) (.ref p)from rfl) (λs2 I2 ⟨a,sb,A⟩=>?_) (.inr U);have w:C≠a:=by
  rcases A with rfl|A
  ·exact q
  ·exact XI (c _ _ A)
 refine⟨m,hn.sameBut sb w,λh' N=>WV (WV ?_)⟩;refine⟨Z.set i (aX (.ref p)),v,I2.turned (t':=s2.toks) (λb o hb e=>(N.2 b hb).trans e) j q (.inr L) c r,?_⟩;exact k Q _ v T R1 ((E.mono T).set i1 i)
end
noncomputable def bX:ME:=λ_ _=>aY
noncomputable def nR:MT:=λ_ _=>aY
noncomputable def cJ:MS:=λ_ _=>aY
section
variable{X:Cx}{e a b c o:Expr}{m m1 m2 ma mb mc:ME}{pos:YE}{mt mu:MT}{b6 es:List Expr}{ms:MA}{n:Nat}
theorem b8:QE X e bX:=⟨λa7J s σ H Q I h=>by
 obtain⟨l,p,j,d,i,R,E,g,k⟩:=h;cases g⟩
theorem yM:QT X e nR:=⟨λa7J s σ H Q I h=>by
 obtain⟨l,p,j,d,i,R,E,g,k⟩:=h;cases g⟩
theorem Oe:QW X e nR:=⟨λj a7J s σ H Q I h=>by
 obtain⟨p,q,l,d,i,R,E,g,k⟩:=h;cases g⟩
theorem eE{st:Stmt}:QS X st cJ:=⟨λa7J s σ H D I h=>by
 obtain⟨p,q,l,j,i,g,R,E,d,k⟩:=h;cases d⟩
theorem uA{g:MG}(p:∀d l j,g d l j=aY):QG X e g:=⟨λa7J s σ H v u Q I r h=>by
 obtain⟨w,l,j,d,q,R,E,hd,i,k⟩:=h;rw[p]at i;cases i⟩
theorem q8(h1:QE X e m1)(p:QE X e m2)(h:∀i g r,m i g=aX r->m1 i g=aX r\/m2 i g=aX r):QE X e m:=⟨λa7J s σ H Q I q=>by
 obtain⟨l,i,g,d,j,R,E,u,k⟩:=q;rcases h i g _ u with z|z
 ·exact h1.h a7J s σ H Q I ⟨l,i,g,d,j,R,E,z,k⟩
 ·exact p.h a7J s σ H Q I ⟨l,i,g,d,j,R,E,z,k⟩⟩
theorem uB{m m1 m2:MT}(h1:QT X e m1)(p:QT X e m2)(h:∀i g r,m i g=aX r->m1 i g=aX r\/m2 i g=aX r):QT X e m:=⟨λa7J s σ H Q I q=>by
 obtain⟨l,i,g,d,j,R,E,u,k⟩:=q;rcases h i g _ u with z|z
 ·exact h1.h a7J s σ H Q I ⟨l,i,g,d,j,R,E,z,k⟩
 ·exact p.h a7J s σ H Q I ⟨l,i,g,d,j,R,E,z,k⟩⟩
theorem lH{f j k:D->D->Hm->jk}(h:∀x y d r,f x y d=aX r->j x y d=aX r\/k x y d=aX r) :
  ∀i d r,aC f ma mb i d=aX r->aC j ma mb i d=aX r\/aC k ma mb i d=aX r:=by
 intro i d r g;obtain⟨p,l,g⟩:=WM.mp g;obtain⟨q,s,g⟩:=WM.mp g;rcases h _ _ _ _ g with z|z
 ·exact .inl (WM.mpr ⟨p,l,WM.mpr ⟨q,s,z⟩⟩)
 ·exact .inr (WM.mpr ⟨p,l,WM.mpr ⟨q,s,z⟩⟩)
theorem uC(h:∀g d r,m g d=aX r->m1 g d=aX r\/m2 g d=aX r):∀g d r,a8 m g d=aX r->a8 m1 g d=aX r\/a8 m2 g d=aX r:=by
 intro g d r i;obtain⟨p,j,i⟩:=WM.mp i;rcases h _ _ _ j with z|z
 ·exact .inl (WM.mpr ⟨p,z,i⟩)
 ·exact .inr (WM.mpr ⟨p,z,i⟩)
noncomputable def nU:List D->Option (List Int)
 |[]=>aX []|.int i::r=>(nU r).map (i::·)|_=>aY
noncomputable def c5:D->Option (List Int)
 |.tup ds=>nU ds|_=>aY
noncomputable def bS(kvs:jx)(k:List Int):Option D:=(kvs.find? λp=>decide (p.1=k)).map (·.2)
noncomputable def c9(kvs:jx)(k:List Int)(d:D):jx:=if(bS kvs k).isSome then kvs.map (λp=>if p.1=k then(p.1,d)else p)else kvs++[(k,d)]
noncomputable def aJ:D->D->Hm->jk:=λx y g=>match x with
 |.loc a=>match g[a]? with
  |some (.dT kvs)=>(c5 y).bind λk=>(bS kvs k).map λd=>(d,g)|some (.dF kvs)=>(c5 y).bind λk=>(bS kvs k).map λd=>(d,g)|_=>iF x y g
 |_=>iF x y g
structure TabOk(X:Cx)(x:Str)(kvs:List (cA×D)):Prop where
 ex:∃(p:Addr)(vs:List (cA×V))(ws:List (cA×Value)),X.mg x=aX (.ref p)/\(∀h:Ye,X.K.In h->h.DictOf (qO X.prog X.w) p ws)/\KV vs ws/\∀π n H,IsKs X.K π n H vs kvs
theorem Di{a7J:jw}{σ:St}{H:Hp}{s:WX}(I:Inv X a7J σ H s){p:Addr}{d:Obj}(h:X.K.lookup p=aX d):H p=none:=(I.bs p d (I.mod.kin p d h)).2
theorem Dj{K:WQ}{π:Nat->Addr}{H:Hp}{i:Hm}(R:Rp K π H i){g:Nat}(p:g<i.length):∃u,H (π g)=aX u/\(∀vs,u≠.tup vs)/\∀j v,(∀l,v≠HO.ext l)->u≠.frz j v:=by
 cases q:i[g]? with
 |none=>exact absurd (XU.mp q) (by omega)|some k=>
  cases k with
  |lst d=>obtain⟨vs,h,_⟩:=R.lst g d q;exact⟨_,h,(λ_ z=>nomatch z),λ_ _ _ z=>nomatch z⟩|dK d=>obtain⟨vs,h,_⟩:=R.dK g d q;exact⟨_,h,(λ_ z=>nomatch z),λ_ _ _ z=>nomatch z⟩|st d=>obtain⟨vs,h,_⟩:=R.st g d q;exact⟨_,h,(λ_ z=>nomatch z),λ_ _ _ z=>nomatch z⟩|dT d=>obtain⟨vs,h,_⟩:=R.dT g d q;exact⟨_,h,(λ_ z=>nomatch z),λ_ _ _ z=>nomatch z⟩|dF d=>obtain⟨j,vs,h,_⟩:=R.dF g d q;exact⟨_,h,(λ_ z=>nomatch z),λ_ _ n z=>n _ (by cases z;rfl)⟩
section
variable{a7J:jw}{σ:St}{H:Hp}{s:WX}{π:Nat->Addr}{μ:Hm}
theorem Dk(I:Inv X a7J σ H s)(R:Rp X.K π H μ){g:Nat}(k:g<μ.length){vs:gw}(h:SqT X.K H (π g) vs):False:=by
 obtain⟨u,d,i,j⟩:=Dj R k;rcases h with(h|⟨q,h⟩)|⟨q,p,n,l,_⟩
 ·rw[d]at h;exact i _ (Xg h)
 ·rw[d]at h;exact j _ (.tup vs) (λr z=>nomatch z) (Xg h)
 ·rw[Di I l]at d;cases d
theorem Dl(I:Inv X a7J σ H s)(R:Rp X.K π H μ){g:Nat}(j:g<μ.length){vs:gw}(h:RoL X.K H (π g) vs):False:=by
 obtain⟨u,d,q,i⟩:=Dj R j;rcases h with⟨p,h⟩|⟨p,l,n,k,_⟩
 ·rw[d]at h;exact i _ (.lst vs) (λr z=>nomatch z) (Xg h)
 ·rw[Di I k]at d;cases d
theorem Dm(I:Inv X a7J σ H s){p:Addr}{vs ws:gw}(h:SqT X.K H p vs)(h':RoL X.K H p ws):False:=by obtain⟨g,_,t,_⟩:=I.tuple h;obtain⟨d,_,l,_⟩:=I.list h'.sq;exact absurd rfl (Y1 l.isList t)
mutual
theorem Dn(I:Inv X a7J σ H s)(R:Rp X.K π H μ){v:V}{d d':D}:IsD X.K π μ.length H v d->IsD X.K π μ.length H v d'->d=d'
 |.non,h'=>by cases h';rfl
 |.bl _,h'=>by cases h';rfl
 |.int _,h'=>by cases h';rfl
 |.str _,h'=>by cases h';rfl
 |.ty _,h'=>by cases h';rfl
 |.tup h t,h'=>by
  cases h' with
  |tup g i=>have:=I.tuple_inj h g;subst this;rw[yN I R t i]|rol g i=>exact(Dm I h g).elim|loc g=>exact(Dk I R g h).elim
 |.rol h t,h'=>by
  cases h' with
  |tup g i=>exact(Dm I g h).elim|rol g i=>have:=I.list_inj h.sq g.sq;subst this;rw[yN I R t i]|loc g=>exact(Dl I R g h).elim
 |.loc (a:=a1) ha,h'=>by
  generalize hz:V.ref (π a1)=z at h';cases h' with
  |tup g i=>cases hz;exact(Dk I R ha g).elim|rol g i=>cases hz;exact(Dl I R ha g).elim|loc g=>have:=R.inj _ _ ha g (V.ref.inj hz);rw[this]|_=>cases hz
theorem yN(I:Inv X a7J σ H s)(R:Rp X.K π H μ){vs:gw}{ds d:List D}:IsDs X.K π μ.length H vs ds->IsDs X.K π μ.length H vs d->ds=d
 |.nil,h'=>by cases h';rfl
 |.cons h t,h'=>by
  cases h' with
  |cons g i=>rw[Dn I R h g,yN I R t i]
end
end
noncomputable def jQ(a:Hm)(x:D):List D->Option Bool
 |[]=>aX b3|y::r=>(cG 8 a y x).bind λb=>(jQ a x r).map λc=>b||c
noncomputable def lI(a:Bool):D->D->Hm->jk:=λx y c=>(bK c y).bind λd=>(jQ c x d).map λb=>(.bl (if a then !b else b),c)
noncomputable def yO(K:WQ)(c:Bool):R2:=λx y H Q=>∃π a d e g b,Rp K π H a/\IsD K π a.length H x d/\IsD K π a.length H y e/\bK a e=aX g/\jQ a d g=aX b/\Q (.bl (if c then !b else b)) H
theorem uD{K:WQ}{c:Bool}:dQ K (lI c) (yO K c):=by intro e H p x y d m n o Q R i j a k;obtain⟨l,g,a⟩:=WM.mp a;obtain⟨b,h,a⟩:=WS.mp a;cases a;exact⟨e,_,x,y,l,b,R,i,j,g,h,k e _ H .refl R (.bl _)⟩
theorem uE{a7J:jw}{σ:St}{H:Hp}{s:WX}{π:Nat->Addr}{i:Hm}(I:Inv X a7J σ H s)(R:Rp X.K π H i){A:XC}(O:A.units+8<YL){x:V}{v:Value}{l:D}(rx:RelV x v)(Y:IsD X.K π i.length H x l) :
  ∀{e:List D}{vs:gw}{us:gq}{b:Bool},IsDs X.K π i.length H vs e->Vals vs us->jQ i l e=aX b->
   ∃g:Value->Bool,(∀u∈us,a3u A s u v (g u))/\us.any g=b:=by
 classical
 intro e vs us b hi k d
 have n:∀{e:List D}{vs:gw}{us:gq}{b:Bool},IsDs X.K π i.length H vs e->Vals vs us->jQ i l e=aX b->(∀u∈us,∃c,a3u A s u v c/\∃w m,RelV w u/\IsD X.K π i.length H w m/\cG 8 i m l=aX c):=by
  intro e
  induction e with
  |nil=>
   intro vs us b hi k d u a
   cases hi
   cases k
   cases a
  |cons y e G=>
   intro vs us b hi k d u a
   cases hi with
   |cons h t=>
    cases k with
    |cons r rt=>
     obtain⟨c,q,d⟩:=WM.mp d
     obtain⟨L,B,d⟩:=WS.mp d
     rcases Xr.mp a with rfl|a
     ·exact⟨c,CO I R 8 O r rx h Y q,_,_,r,h,q⟩
     ·exact G t rt B u a
 have o:=n hi k d
 refine⟨λu=>if h:u∈us then a2w (o u h)else b3,λu a=>?_,?_⟩
 ·simp only[dif_pos a]
  exact(a3K (o u a)).1
 ·have key:∀u (h:u∈us) w m c,RelV w u->IsD X.K π i.length H w m->cG 8 i m l=aX c->a2w (o u h)=c:=by
   intro u h w m c J U K
   obtain⟨_,w2,M,Z,T,N⟩:=a3K (o u h)
   have:w2=w:=Z.inj J
   subst this
   have:=Dn I R T U
   subst this
   rw[N]at K
   exact Xg K
  have p:∀{e:List D}{vs:gw}{j:gq}{b:Bool},(∀u∈j,u∈us)->IsDs X.K π i.length H vs e->Vals vs j->jQ i l e=aX b->j.any (λu=>if h:u∈us then a2w (o u h)else b3)=b:=by
   intro e
   induction e with
   |nil=>
    intro vs j b E hi k d
    cases hi
    cases k
    cases d
    rfl
   |cons y e G=>
    intro vs j b E hi k d
    cases hi with
    |cons h t=>
     cases k with
     |@cons _ u _ us2 r rt=>
      obtain⟨c,q,d⟩:=WM.mp d
      obtain⟨L,B,d⟩:=WS.mp d
      have jP:u∈us:=E u (Xf ..)
      rw[a4h,G (λz Q=>E z (Xc _ Q)) t rt B,dif_pos jP,key u jP _ _ c r h q]
      exact d
  exact p (λ_ h=>h) hi k d
theorem uF{k:Nat}{A:XC}(r:Room k A):A.units+9<YL:=by have:=r.un;omega
theorem Dp(G:X.A.units+9<YL):OpR X (Yv .In) (yO X.K b3):=by
 intro m s N H x y v u Q I l A h;obtain⟨M,L,B,E,K,b,R,k,z,n,j,q⟩:=h;obtain⟨p,J,rfl,c,hd⟩:=o9 R z n;cases A;rcases c with c|c
 ·obtain⟨a,r,i,o⟩:=I.list c;obtain⟨g,d,e⟩:=uE I R (A:=X.A.in1) (by rw[oZ];omega) l k hd r j;refine SeqAt.in_listAt g i.isList (λw hw=>d w (by simpa using hw)) ⟨.bl _,H,I,rfl,?_⟩;rw[show a.toArray.any g=a.any g by simp,e];exact q
 ·obtain⟨a,r,i,o⟩:=I.tuple c;obtain⟨g,d,e⟩:=uE I R (A:=X.A.in1) (by rw[oZ];omega) l k hd r j;refine SeqAt.in_tupleAt g i (λw hw=>d w (by simpa using hw)) ⟨.bl _,H,I,rfl,?_⟩;rw[show a.toArray.any g=a.any g by simp,e];exact q
theorem Dq(G:X.A.units+9<YL):OpR X (Yv .NotIn) (yO X.K b4):=by
 intro m s N H x y v u Q I l A h;obtain⟨M,L,B,E,K,b,R,k,z,n,j,q⟩:=h;obtain⟨p,J,rfl,c,hd⟩:=o9 R z n;cases A;rcases c with c|c
 ·obtain⟨a,r,i,o⟩:=I.list c;obtain⟨g,d,e⟩:=uE I R (A:=X.A.in1) (by rw[oZ];omega) l k hd r j;refine SeqAt.notIn_listAt g i.isList (λw hw=>d w (by simpa using hw)) ⟨.bl _,H,I,rfl,?_⟩;rw[show a.toArray.any g=a.any g by simp,e];exact q
 ·obtain⟨a,r,i,o⟩:=I.tuple c;obtain⟨g,d,e⟩:=uE I R (A:=X.A.in1) (by rw[oZ];omega) l k hd r j;refine SeqAt.notIn_tupleAt g i (λw hw=>d w (by simpa using hw)) ⟨.bl _,H,I,rfl,?_⟩;rw[show a.toArray.any g=a.any g by simp,e];exact q
noncomputable def cK(b:Bool):D->D->Hm->jk
 |.str i,.str j,μ=>aX (.bl (if b then !(!(YC j i 0 j.length 1).isEmpty)else !(YC j i 0 j.length 1).isEmpty),μ)|x,.loc a,μ=>match μ[a]? with
  |some (.dT kvs)=>(c5 x).map λk=>(.bl (if b then !(bS kvs k).isSome else(bS kvs k).isSome),μ)|some (.dF kvs)=>(c5 x).map λk=>(.bl (if b then !(bS kvs k).isSome else(bS kvs k).isSome),μ)|_=>lI b x (.loc a) μ
 |x,y,μ=>lI b x y μ
noncomputable def yP:D->D->Hm->jk
 |.str i,.str j,μ=>aX (.bl (!(!(YC j i 0 j.length 1).isEmpty)),μ)|_,_,_=>aY
theorem Ds{K:WQ}:dQ K yP (λx y H Q=>∃i j,x=.str i/\y=.str j/\Q (.bl (!(!(YC j i 0 j.length 1).isEmpty))) H):=by
 intro g H m x y d e h l Q R b c a k;unfold yP at a;split at a
 ·cases a;cases b;cases c;exact⟨_,_,rfl,rfl,k g _ H .refl R (.bl _)⟩
 ·cases a
end
section
variable{X:Cx}{e a b c o:Expr}{m m1 m2 ma mb mc mo:ME}{pos apos cpos:YE}{mt mu:MT}{b6 es:List Expr}{ms:MA}{n:Nat}
noncomputable def nV(d:Hm):D->Bool
 |.rol _=>b4|.loc a=>match d[a]? with|some (.lst _)=>b4|_=>b3
 |_=>b3
noncomputable def dH(f:D->List D->Hm->jk)(mo:ME)(ms:MA):ME:=λd g=>(mo d g).bind λp=>match nV p.2 p.1 with
 |true=>(ms d p.2).bind λq=>f p.1 q.1 q.2|false=>aY
noncomputable def gU(K:WQ)(f:D->List D->Hm->jk)(r:V->gw->Hp->VK->Prop):Prop:=
 ∀i H g x k d h v j Q,Rp K i H g->IsD K i g.length H v x->IsDs K i g.length H j k->f x k g=aX (d,h)->KC K Q i g.length H d h->r v j H Q
theorem Dt{K:WQ}{π:Nat->Addr}{H:Hp}{d:Hm}{v:V}{x:D}(R:Rp K π H d)(h:IsD K π d.length H v x)(e:nV d x=b4):tJ K "list" v H:=by
 cases h with
 |rol h t=>exact .inl ⟨rfl,_,h.sq⟩|@loc a l=>
  simp only[nV]at e;split at e
  ·rename_i k i;obtain⟨j,g,_⟩:=R.lst a k i;exact .inl ⟨rfl,j,.of g⟩
  ·cases e
 |_=>cases e
theorem Of{K:WQ}{f:D->List D->Hm->jk}{r:V->gw->Hp->VK->Prop}(G:gU K f r):∀σ H Q,tM K (dH f mo ms) σ H Q->Ci K "list" r (tM K mo) (tMA K ms) σ H Q:=by
 rintro σ H Q ⟨O,y,N,d,j,R,E,g,k⟩;obtain⟨⟨x,h⟩,A,g⟩:=WM.mp g;dsimp only at g;split at g
 ·rename_i I;obtain⟨⟨w,i⟩,B,g⟩:=WM.mp g;refine⟨O,y,N,x,h,R,E,A,λl L T s q v=>⟨Dt q v I,l,y,h,w,i,q,E.mono s,B,λp M z u R2 J=>?_⟩⟩;exact G p z i x w d j L M Q R2 (v.mono u) J g (k.after (s.trans u))
 ·cases g
theorem Og{K:WQ}{f:D->List D->Hm->jk}{r:V->gw->Hp->VK->Prop}(w:gU K f r):∀σ H Q,tM K (dH f mo aD) σ H Q->Cg K "list" r (tM K mo) σ H Q:=by
 rintro σ H Q ⟨G,I,A,d,i,R,E,g,k⟩;obtain⟨⟨x,h⟩,u,g⟩:=WM.mp g;dsimp only at g;split at g
 ·rename_i y;obtain⟨⟨J,B⟩,v,g⟩:=WM.mp g;cases v;refine⟨G,I,A,x,h,R,E,u,λj z q s l p=>⟨Dt l p y,?_⟩⟩;exact w j q h x [] d i z [] Q l p .nil g (k.after s)
 ·cases g
noncomputable def jR:Expr->Bool
 |.Call (.Name _ _) [] [] _=>b3|_=>b4
theorem lJ{o:Expr}{i:Str}{env:a2v}{d:a7b Value}(h:jR o=b4):ZR o i env d=d:=by
 cases o with
 |Call f g j p=>
  cases f with
  |Name id q=>
   cases g with
   |nil=>
    cases j with
    |nil=>cases h|cons _ _=>rfl
   |cons _ _=>rfl
  |_=>rfl
 |_=>rfl
theorem Du{e:Expr}{es:List Expr}{env:a2v}{cpos:YE}(h:(e::es).all cT=b4)(i:(e::es).length<30) :
  ((ZI cpos (XB (e::es) env)).all (λx=>!x.1)&&(a2J cpos (a1i [] env)).all (λx=>x.1.isSome)
   && decide ((e::es).length+([]:List a0g).length+(if([]:List a0g).isEmpty then 0 else 1)<30))=true:=by
 have d:(ZI cpos (XB (e::es) env)).all (λx=>!x.1)=true:=by have:=nQ (pos:=cpos) (env:=env) h;rw[List.all_eq_not_any_not];simpa using this
 rw[d];have g:(e::es).length+([]:List a0g).length+(if([]:List a0g).isEmpty then 0 else 1)<30:=by show(e::es).length+0+0<30;omega
 rw[decide_eq_true g];rfl
theorem uG{f:D->List D->Hm->jk}{r:V->gw->Hp->VK->Prop}{name:Str}{id:String}(h:Slot "list" name id) (i:a4Y (.builtin id)=pure (.type "method_descriptor")) (p:iV X id r)(k:gU X.K f r)
  (s:QE X o mo)(j:QA X (e::es) ms n)(u:jR o=b4)(l:(apos.endLine==cpos.line)=b4)(q:(e::es).length<30):QE X (.Call (.Attribute o name apos) (e::es) [] cpos) (dH f mo ms):=by
 have g:=j.s;have d:=g;rw[XG,WZ]at d;exact⟨dE (K7 a3F h i p s.h j.h (lJ u) (Du g q) l (fT d.1) (nQ d.2)) (Of k)⟩
theorem Dv{f:D->List D->Hm->jk}{r:V->gw->Hp->VK->Prop}{name:Str}{id:String}(d:Slot "list" name id) (g:a4Y (.builtin id)=pure (.type "method_descriptor")) (j:iV X id r)(h:gU X.K f r)
  (k:QE X o mo)(l:jR o=b4)(i:(apos.endLine==cpos.line)=b4):QE X (.Call (.Attribute o name apos) [] [] cpos) (dH f mo aD):=
 ⟨dE (K6 a3F d g j k.h (lJ l) i) (Og h)⟩
noncomputable def fF:D->List D->Hm->jk
 |.loc a,[y],μ=>(o7 μ a y).map λd=>(.non,d)|_,_,_=>aY
noncomputable def nW:D->List D->Hm->jk
 |.loc a,[.loc b],μ=>match μ[a]?,μ[b]? with
  |some (.lst xs),aX (.lst ys)=>if xs.length+ys.length<=W8 then aX (.non,μ.set a (.lst (xs++ys)))else aY|_,_=>aY
 |_,_,_=>aY
noncomputable def pH:D->List D->Hm->jk
 |.loc a,[],μ=>match μ[a]? with
  |some (.lst xs)=>(xs[xs.length-1]?).map λy=>(y,μ.set a (.lst xs.dropLast))|_=>aY
 |_,_,_=>aY
noncomputable def pI:D->List D->Hm->jk
 |.loc a,[],μ=>match μ[a]? with
  |some (.lst xs)=>aX (.non,μ.set a (.lst xs.reverse))|_=>aY
 |_,_,_=>aY
theorem Dw{K:WQ}{π:Nat->Addr}{n:Nat}{H:Hp}{vs:gw}{ds:List D}(h:IsDs K π n H vs ds):IsDs K π n H vs.reverse ds.reverse:=by
 induction ds generalizing vs with
 |nil=>cases h;exact .nil|cons d ds g=>
  cases h with
  |cons h t=>rw[Z3,Z3];exact(g t).append (.cons h .nil)
theorem Oh{K:WQ}{π:Nat->Addr}{n:Nat}{H:Hp}{vs:gw}{ds:List D}(h:IsDs K π n H vs ds):IsDs K π n H vs.dropLast ds.dropLast:=by rw[a4s,a4s,h.length];exact h.take _
theorem Oi{K:WQ}:gU K fF Ck:=by
 intro I H M x L d E v J Q R A i h k;unfold fF at h;split at h
 ·rename_i a y;obtain⟨G,g,h⟩:=WS.mp h;cases h;unfold o7 at g;split at g
  ·rename_i r q;split at g
   ·rename_i w;cases g;obtain⟨j,l,p⟩:=R.lst a r q;cases A;cases i with
    |cons B z=>cases z;obtain⟨u,s⟩:=R.put (a:=a) (c:=.lst (r++[y])) (o:=.lst (j++[_])) (WR.mp q).1 l (.inl ⟨j,rfl⟩) (p.append (.cons B .nil));exact⟨_,j,_,rfl,rfl,l,by rw[p.length];exact w,k I _ _ u s .non⟩
   ·cases g
  ·cases g
 ·cases h
theorem Oj{K:WQ}:gU K nW Cn:=by
 intro L H O x N d J v M Q R G h g k;unfold nW at g;split at g
 ·rename_i a b;split at g
  ·rename_i u s q B;split at g
   ·rename_i A;cases g;obtain⟨i,j,l⟩:=R.lst a u q;obtain⟨r,z,p⟩:=R.lst b s B;cases G;cases h with
    |cons I E=>cases E;cases I;obtain⟨y,w⟩:=R.put (a:=a) (c:=.lst (u++s)) (o:=.lst (i++r)) (WR.mp q).1 j (.inl ⟨i,rfl⟩) (l.append p);exact⟨_,_,i,r,rfl,rfl,j,z,by rw[l.length,p.length];exact A,k L _ _ y w .non⟩
   ·cases g
  ·cases g
 ·cases g
theorem Ol{K:WQ}:gU K pI Cq:=by
 intro y H B x A d w v z Q R u h g k;unfold pI at g;split at g
 ·rename_i a;split at g
  ·rename_i p l;cases g;obtain⟨i,j,s⟩:=R.lst a p l;cases u;cases h;obtain⟨r,q⟩:=R.put (a:=a) (c:=.lst p.reverse) (o:=.lst i.reverse) (WR.mp l).1 j (.inl ⟨i,rfl⟩) (Dw s);exact⟨_,i,rfl,rfl,j,k y _ _ r q .non⟩
  ·cases g
 ·cases g
theorem Om{K:WQ}:gU K pH Co:=by
 intro G H L x J d E v I Q R B i g k;unfold pH at g;split at g
 ·rename_i a;split at g
  ·rename_i r q;obtain⟨y,u,g⟩:=WS.mp g;cases g;obtain⟨j,p,h⟩:=R.lst a r q;cases B;cases i;obtain⟨w,z,A⟩:=h.get u;obtain⟨l,s⟩:=R.put (a:=a) (c:=.lst r.dropLast) (o:=.lst j.dropLast) (WR.mp q).1 p (.inl ⟨j,rfl⟩) (Oh h);refine⟨_,j,w,rfl,rfl,p,by rw[h.length];exact z,k G w _ l s (A.mono l)⟩
  ·cases g
 ·cases g
noncomputable def nX:D->List D->Hm->jk
 |.loc a,[.int i],μ=>match μ[a]? with
  |some (.lst xs)=>if 0<=i/\i<2^62 then(xs[i.toNat]?).map λy=>(y,μ.set a (.lst (xs.eraseIdx i.toNat)))else aY|_=>aY
 |_,_,_=>aY
theorem Oo{K:WQ}{π:Nat->Addr}{n:Nat}{H:Hp}{vs:gw}{ds:List D}(h:IsDs K π n H vs ds)(k:Nat):IsDs K π n H (vs.eraseIdx k) (ds.eraseIdx k):=by rw[Y4,Y4];exact(h.take k).append (h.drop (k+1))
theorem Oq{i:Int}{n:Nat}(d:0<=i)(h:i.toNat<n):a3M i n=aX i.toNat:=by have e:(if i<0 then i+(n:Int)else i)=i:=if_neg (by omega);unfold a3M;dsimp only;rw[e,if_pos (by rw[WZ,decide_eq_true_iff,decide_eq_true_iff];omega)]
theorem Ot{K:WQ}:gU K nX Cp:=by
 intro L H O x N d J v M Q R G h g k;unfold nX at g;split at g
 ·split at g
  ·rename_i s r;split at g
   ·rename_i B;obtain⟨y,z,g⟩:=WS.mp g;cases g;obtain⟨i,l,p⟩:=R.lst _ s r;cases G;cases h with
    |cons E I=>cases E;cases I;obtain⟨w,q,A⟩:=p.get z;obtain⟨j,u⟩:=R.put (c:=.lst (s.eraseIdx _)) (o:=.lst (i.eraseIdx _)) (WR.mp r).1 l (.inl ⟨i,rfl⟩) (Oo p _);have hw:=(WR.mp q).1;refine⟨_,i,_,_,w,rfl,rfl,l,by omega,by omega,Oq B.1 hw,q,k L w _ j u (A.mono j)⟩
   ·cases g
  ·cases g
 ·cases g
noncomputable def pJ(d:Hm):D->Option Bool
 |.non=>aX b3|.bl b=>aX b|.int i=>aX (i != 0)|.str z=>if z.length<=W8 then aX ((z.length:Int) != 0)else aY|.tup xs=>aX (!xs.isEmpty)|.rol xs=>aX (!xs.isEmpty)|.loc a=>match d[a]? with|some (.lst xs)=>aX (!xs.isEmpty)|some (.dK kvs)=>aX (!kvs.isEmpty)|_=>aY
 |.ty _=>aY
theorem uH{g i:Type}{xs:List g}{d:List i}(h:xs.length=d.length):xs.isEmpty=d.isEmpty:=by cases xs<;>cases d<;>first|rfl|cases h
theorem Ou{K:WQ}{π:Nat->Addr}{H:Hp}{p:Hm}{v:V}{x:D}{b:Bool}(R:Rp K π H p)(h:IsD K π p.length H v x)(e:pJ p x=aX b):xH K v H b:=by
 cases h with
 |non=>cases e;rfl|bl c=>cases e;rfl|int i=>cases e;rfl|str z=>
  simp only[pJ]at e;split at e
  ·rename_i q;cases e;exact⟨q,rfl⟩
  ·cases e
 |tup h t=>cases e;exact .inr (.inl ⟨_,h,by rw[uH t.length]⟩)|rol h t=>cases e;exact .inl ⟨_,h.sq,by rw[uH t.length]⟩|@loc a s=>
  simp only[pJ]at e;split at e
  ·rename_i r j;cases e;obtain⟨l,d,g⟩:=R.lst a r j;exact .inl ⟨l,.of d,by rw[uH g.length]⟩
  ·rename_i k j;cases e;obtain⟨l,d,g,_⟩:=R.dK a k j;refine .inr (.inr ⟨l,d,?_⟩);have:=congrArg X0 g;rw[WO,WO]at this;rw[uH this]
  ·cases e
 |ty n=>cases e
noncomputable def fG(m:ME):MT:=λg d=>(m g d).bind λp=>(pJ p.2 p.1).map λb=>(b,p.2)
theorem Ov(h:QE X e m)(r:yJ e=b4):QT X e (fG m):=⟨tQ (Ko h.h (NF r)) (by
 rintro G H Q ⟨y,z,u,b,v,R,E,d,k⟩;obtain⟨⟨x,w⟩,p,d⟩:=WM.mp d;obtain⟨A,q,d⟩:=WS.mp d;cases d;exact⟨y,z,u,x,_,R,E,p,λg B j l i s=>⟨_,Ou i s q,k g j l i⟩⟩)⟩
theorem Ox{k:Nat}{f:Addr}{j:ZC}{ps:List Str}{l:MF}{x:Str}{p:YE}(F:FnOk X.prog X.w X.K X.mg X.base f9 k f j ps (jL X.K 0 l))(v:Room k X.A)(g:X.mg x=aX (.ref f))
  (u:YY X.K (.ref f)=b4)(r:Binds X.K j ps [])(s:Gl X x)(h:(x==("__debug__":Str))=b3):QE X (.Call (.Name x p) [] [] pos) (aI l aD):=
 ⟨dE (Kz F v s g u r .nil (E:=E0) Cu h) (by
  rintro G H Q ⟨z,B,w,d,i,R,E,g,k⟩;obtain⟨⟨A,y⟩,q,g⟩:=WM.mp g;cases q;exact⟨rfl,z,[],w,d,i,R,.nil,g,k⟩)⟩
noncomputable def nY(c:MT)(b:MS):Nat->MS
 |0,_,_=>aY|n+1,ρ,μ=>(c ρ μ).bind λp=>match p.1 with
  |false=>aX (.nx,ρ,p.2)|true=>(b ρ p.2).bind λq=>match q.1 with
   |.nx=>nY c b n q.2.1 q.2.2|.ct=>nY c b n q.2.1 q.2.2|.bk=>aX (.nx,q.2.1,q.2.2)|.rt d=>aX (.rt d,q.2.1,q.2.2)
noncomputable def pK(n:Nat)(c:MT)(b:MS):MS:=nY c b n
theorem Oy{body:List Stmt}{mb:MS}(n:Nat)(hc:QT X c mt)(hb:QB X body mb)(hp:a3U (Xv X.prog X.w) X.A X.env X.xe):QS X (.While c body [] pos) (pK n mt mb):=⟨iY (JV hp hc.h hb.h) (by
 rintro E σ H ⟨Y,ρ,U,Q,B,z,R,EN,hm,k⟩;have q:∀{h:Nat->Addr}{n2:Nat}{H2:Hp}(e:Ext Y U.length H h n2 H2),nM X.K E h n2 H2 Q B z:=λ{h n2 H2} e=>by
  cases Q with
  |nx=>exact λi s y j x J=>k i s y (e.trans j) x J|bk=>exact λi s y j x J=>k i s y (e.trans j) x J|ct=>exact λi s y j x J=>k i s y (e.trans j) x J|rt d=>exact KC.after k e
 refine⟨λm v w=>∃h l r,Ext Y U.length H h l.length w/\Rp X.K h w l/\En X.K h l.length w v r/\nY mt mb m r l=aX (Q,B,z),⟨n,Y,U,ρ,.refl,R,EN,hm⟩,?_⟩;rintro m σ1 H1 ⟨h,l,r,M,R2,Z,h2⟩;cases m with
 |zero=>cases h2|succ m=>
  obtain⟨⟨b,O⟩,h3,h4⟩:=WM.mp h2;refine⟨h,r,l,b,O,R2,Z,h3,λi y j x=>?_⟩;cases b with
  |false=>refine mJ ?_;cases h4;exact q M i σ1 y j x (Z.mono j)|true=>
   refine mK ?_;obtain⟨⟨f4,G,A⟩,h5,T⟩:=WM.mp h4;refine⟨λv w=>∃g u p,Ext Y U.length H g p.length w/\Rp X.K g w p/\En X.K g p.length w v u/\nY mt mb m u p=aX (Q,B,z),
    λv w ⟨g,u,p,a1,a2,a3,a4⟩=>⟨m,YW _,g,p,u,a1,a2,a3,a4⟩,i,r,O,f4,G,A,x,Z.mono j,h5,?_⟩
   cases f4 with
   |nx=>exact λg I H5 N L K=>⟨g,G,A,(M.trans j).trans N,L,K,T⟩|ct=>exact λg I H5 N L K=>⟨g,G,A,(M.trans j).trans N,L,K,T⟩|bk=>cases T;exact λg I H5 N L K=>q (M.trans j) g I H5 N L K|rt d'=>
    cases T;exact q (M.trans j))⟩
theorem Oz:QS X (.Return aY pos) (aZ (mC .non)):=⟨iY JJ (by
 rintro E r H ⟨h,q,p,l,i,g,R,j,d,k⟩;cases d;exact k h .non H .refl R .non)⟩
end
noncomputable def pL:List D->Option (List Bool)
 |[]=>aX []|.bl b::r=>(pL r).map (b::·)|_=>aY
noncomputable def uI:MF:=λds a=>match ds with
 |[x]=>(bK a x).bind λb=>(pL b).map λbs=>(.bl (bs.all id),a)|_=>aY
theorem Dx{K:WQ}{π:Nat->Addr}{n:Nat}{H:Hp}:∀{xs:List D}{vs:gw}{bs:List Bool},IsDs K π n H vs xs->pL xs=aX bs->vs=bs.map V.bl
 |[],_,bs,h,e=>by cases h;cases e;rfl
 |x::xs,vs,bs,h,e=>by
  cases h with
  |cons h t=>
   cases x with
   |bl b=>obtain⟨a,c,d⟩:=WS.mp e;subst d;cases h;rw[Dx t c];rfl|_=>cases e
noncomputable def Dy(K:WQ)(g:List Bool->Bool):gw->Hp->VK->Prop:=λxs H Q=>∃p bs,xs=[.ref p]/\(SqL K H p (bs.map V.bl)\/SqT K H p (bs.map V.bl))/\Q (.bl (g bs)) H
theorem OA{K:WQ}{g:List Bool->Bool}{f:MF}(h:f=λds b=>match ds with|[x]=>(bK b x).bind λxs=>(pL xs).map λbs=>(.bl (g bs),b)|_=>aY):dR K f (Dy K g):=by
 subst h;intro l H b xs d j m Q R i a k;dsimp only at a;split at a
 ·obtain⟨o,c,a⟩:=WM.mp a;obtain⟨bs,e,a⟩:=WS.mp a;cases a;cases i with
  |cons i t=>cases t;obtain⟨p,n,rfl,q,hd⟩:=o9 R i c;have:=Dx hd e;subst this;exact⟨p,bs,rfl,q,k l _ H .refl R (.bl _)⟩
 ·cases a
theorem Dz{bs:List Bool}{n:Nat}(a:n=bs.length):(X9 n).all (λi=>bs.getD i b3)=bs.all id:=by
 subst a;induction bs with
 |nil=>rfl|cons b bs c=>rw[Xy,a4k,XG,a2Q,XG,<- c];rfl
section
variable{X:Cx}
theorem DA{prog:Xw}{w:XF}{A:XC}{bs:List Bool}{its:gq}(r:Vals (bs.map V.bl) its):TruthOf prog w A (λi v=>its.toArray[i]?=aX v) (λi=>bs.getD i b3):=by
 intro i v s Q E g b;have a:its[i]?=aX v:=by simpa using g
 have hi:i<bs.length:=by have:=(WR.mp a).1;have:=r.length;rw[WO]at this;omega
 obtain⟨u,c,d⟩:=r.get (i:=i) (x:=.bl bs[i]) (by rw[W6,W3 hi];rfl);rw[a]at c;cases c;cases d;have e:bs.getD i b3=bs[i]:=by simp[X8,hi]
 dsimp only at b;rw[e]at b;exact YT b
theorem OB(hc:X.calm=b4):CallR X (.builtin "all") (Dy X.K (·.all id)):=by
 intro x s G H E B Q I r h;obtain⟨p,bs,rfl,j,q⟩:=h;obtain⟨u,rfl,A⟩:=fA r;cases A;have w:X.A.in1.handled=none:=I.ok.hd hc;rcases j with j|j
 ·obtain⟨a,k,g,z⟩:=I.list j;refine call_all_walk (a1U g.isList ?_);have d:p≠s.heap.objs.size:=by obtain⟨o,m,_⟩:=g.isList;exact Xd (W2 m)
  refine⟨s.heap.objs.size,_,_,_,_,_,λi=>bs.getD i b3,rfl,a6L w _ p d a.toArray,⟨⟨_,W9 _ rfl,rfl,rfl⟩,g.isList.push _⟩,DA k,λy v n=>?_⟩;have c:a.toArray.size=bs.length:=by rw[Xb,<- k.length,WO]
  refine⟨.bl _,H,I.kept (t':=v) λb o e=>n b o ?_ (WW _ e),rfl,?_⟩
  ·intro l;have:b=s.heap.objs.size:=by simpa using l
   exact Xd (W2 e) this
  ·rw[Dz c];exact q
 ·obtain⟨a,k,g,z⟩:=I.tuple j;refine call_all_walk (a6j (show s.heap.IsTuple p a.toArray from g) ?_);have d:p≠s.heap.objs.size:=by obtain⟨o,m,_⟩:=g;exact Xd (W2 m)
  refine⟨s.heap.objs.size,_,_,_,_,_,λi=>bs.getD i b3,rfl,Walks.tuple w _ p d a.toArray,⟨⟨_,W9 _ rfl,rfl,rfl⟩,a5z g _⟩,DA k,λy v n=>?_⟩;have c:a.toArray.size=bs.length:=by rw[Xb,<- k.length,WO]
  refine⟨.bl _,H,I.kept (t':=v) λb o e=>n b o ?_ (WW _ e),rfl,?_⟩
  ·intro l;have:b=s.heap.objs.size:=by simpa using l
   exact Xd (W2 e) this
  ·rw[Dz c];exact q
end
open PyProof.Rows (IntsAre)
open PySem.W (KasT kas_asc kas_desc kas_tail3 kas_descPart kas_count kas_place kas_bin kas_sort kas_rev kas_ask)
noncomputable def bC{b:Type}(ans:Nat->Nat->Bool):a6R b->b
 |.ret a=>a|.ask i j k=>bC ans (k (ans i j))
noncomputable def InR{c:Type}(n:Nat)(R:c->Prop):a6R c->Prop
 |.ret a=>R a|.ask i j k=>i<n/\j<n/\∀b,InR n R (k b)
theorem InR.bind{c g:Type}{n:Nat}{R:c->Prop}{d:g->Prop}{f:c->a6R g}(e:∀a,R a->InR n d (f a)):∀{t:a6R c},InR n R t->InR n d (t.bind f)
 |.ret a,q=>e a q|.ask i j k,q=>⟨q.1,q.2.1,λb=>InR.bind e (q.2.2 b)⟩
theorem yQ{c:Type}{n:Nat}{R:c->Prop}{ans:Nat->Nat->Bool}{b:Nat->Nat->(Bool->WX->Prop)->WX->Prop}{s:WX}(hc:∀i j (C:Bool->WX->Prop),i<n->j<n->C (ans i j) s->b i j C s){Q:c->WX->Prop} :
  ∀{t:a6R c},InR n R t->Q (bC ans t) s->t.kasWp b Q s
 |.ret a,_,q=>q|.ask i j k,h,q=>hc i j _ h.1 h.2.1 (yQ hc (h.2.2 _) q)
theorem DB{b:Type}{n:Nat}{R:b->Prop}{ans:Nat->Nat->Bool}:∀{t:a6R b},InR n R t->R (bC ans t)
 |.ret a,q=>q|.ask i j k,h=>DB (t:=k (ans i j)) (h.2.2 _)
section
variable{n:Nat}
noncomputable def IxOk(n:Nat)(p:Array Nat):Prop:=p.Perm (X9 n).toArray
theorem IxOk.lt{p:Array Nat}(h:IxOk n p)(b:0<n)(i:Nat):p.getD i 0<n:=by
 by_cases hi:i<p.size
 ·have e:p.getD i 0=p[i]:=by simp[a1n,hi]
  rw[e];have c:p[i]∈p:=Array.getElem_mem hi;have a:p[i]∈(X9 n).toArray:=h.mem_iff.mp c;simpa using a
 ·have e:p.getD i 0=0:=by simp[a1n,hi]
  rw[e];exact b
theorem IxOk.rev{p:Array Nat}(h:IxOk n p)(i j:Nat):IxOk n (ZD p i j):=(a7i _ _ _ _).trans h
theorem IxOk.bub{p:Array Nat}(h:IxOk n p)(i j:Nat):IxOk n (a7p p i j):=(a7o _ _ _).trans h
theorem yR{p:Array Nat}(h:IxOk n p)(a:0<n):∀(f m:Nat),InR n (λ_=>True) (ZE p f m)
 |0,m=>trivial
 |f+1,m=>⟨h.lt a _,h.lt a _,λb=>by
   cases b with
   |true=>exact trivial
   |false=>exact yR h a f (m+1)⟩
theorem uJ(a:0<n):∀(f:Nat)(p:Array Nat)(m q:Nat),IxOk n p->InR n (λr=>IxOk n r.1) (Zh f p m q)
 |0,p,m,q,h=>h
 |f+1,p,m,q,h=>⟨h.lt a _,h.lt a _,λb=>by
   cases b with
   |true=>
    show InR n _ (if q>0 then Zh f (ZD p (m-(q+1)) m) (m+1) 0 else Zh f p (m+1) 0);split
    ·exact uJ a f _ _ _ (h.rev _ _)
    ·exact uJ a f _ _ _ h
   |false=>
    refine⟨h.lt a _,h.lt a _,λd=>?_⟩;cases d with
    |true=>exact h
    |false=>exact uJ a f _ _ _ h⟩
theorem DC(c:0<n){p:Array Nat}(h:IxOk n p)(a r:Nat):InR n (λr=>IxOk n r.2) (a1F a r p):=
 by
 have b:IxOk n (ZD p 0 a):=h.rev 0 a;unfold a1F;refine InR.bind (R:=λ_=>True) (λm _=>?_) (yR b c _ _);exact b
theorem DD(b:0<n){p:Array Nat}(h:IxOk n p)(a r:Nat):InR n (λr=>IxOk n r.2) (Z2 a r p):=
 InR.bind (λq c=>by
  show InR n _ (if q.2.2>0 then a1F q.2.1 r (ZD q.1 (q.2.1-(q.2.2+1)) q.2.1)else a1F q.2.1 r q.1);split
  ·exact DC b (c.rev _ _) _ _
  ·exact DC b c _ _) (uJ b _ _ _ _ h)
theorem OC(a:0<n){p:Array Nat}(h:IxOk n p)(r:Nat):InR n (λr=>IxOk n r.2) (a4N r p):=
 InR.bind (λm _=>by
  show InR n _ (if(m==r)=b4 then ZG (m,p)else if m>1 then a2k (p.getD 0 0) (p.getD (m-1) 0) (λc=>if c=b4 then ZG (m,p)else Z2 m r (ZD p 0 m))else Z2 m r p);split
  ·exact h
  ·split
   ·refine⟨h.lt a _,h.lt a _,λb=>?_⟩;cases b with
    |true=>exact h|false=>exact DD a (h.rev _ _) _ _
   ·exact DD a h _ _) (yR h a _ _)
theorem yS{p:Array Nat}(h:IxOk n p)(a:0<n)(k:Nat):∀(f l r:Nat),InR n (λ_=>True) (YM p k f l r)
 |0,l,r=>trivial|f+1,l,r=>by
  show InR n _ (if l >= r then ZG l else a2k (p.getD k 0) (p.getD ((l+r)/2) 0) λc=>if c=b4 then YM p k f l ((l+r)/2)else YM p k f ((l+r)/2+1) r);split
  ·exact trivial
  ·refine⟨h.lt a _,h.lt a _,λb=>?_⟩;cases b with
   |true=>exact yS h a k f _ _|false=>exact yS h a k f _ _
theorem DE(a:0<n):∀(f:Nat)(p:Array Nat)(k:Nat),IxOk n p->InR n (IxOk n) (a3r f p k)
 |0,p,k,h=>h|f+1,p,k,h=>InR.bind (λl _=>DE a f _ _ (h.bub _ _)) (yS h a k _ _ _)
theorem yT(a:0<n):InR n (IxOk n) (a3q n):=
 InR.bind (λr b=>by
  show InR n _ (if r.1<n then a3r (n-max r.1 1) r.2 (max r.1 1)else ZG r.2);split
  ·exact DE a _ _ _ b
  ·exact b) (OC a (Array.Perm.refl _) n)
end
noncomputable def cE(lt:Nat->Nat->Bool)(n:Nat):List Nat:=(bC lt (a3q n)).toList
theorem pM(lt:Nat->Nat->Bool){n:Nat}(a:0<n):(cE lt n).Perm (X9 n):=by have h:IxOk n (bC lt (a3q n)):=DB (yT a);have:=Array.perm_iff_toList_perm.mp h;simpa[cE]using this
section
variable{X:Cx}{a7J:jw}{σ:St}{H:Hp}{s:WX}
theorem DF{P:Xw}{w:XF}{H:Hp}{h:Ye}{a:Addr}{o:HO}(x:ObjOk P w H h a o):∃c,h.get? a=aX c:=by
 cases o with
 |lst d=>obtain⟨_,_,_,_,e⟩:=x;exact⟨_,e⟩|tup d=>obtain⟨_,_,_,c,e,_⟩:=x;exact⟨_,e⟩|dK b=>obtain⟨_,_,_,_,o,_,_,e,_⟩:=x;exact⟨_,e⟩|dT b=>obtain⟨_,_,_,_,o,_,_,e,_⟩:=x;exact⟨_,e⟩|set S n=>obtain⟨o,_,_,_,e,_⟩:=x;exact⟨_,e⟩|ins C g fs=>obtain⟨_,_,_,e,_⟩:=x;exact⟨_,e⟩|own y=>exact x|xd fs=>obtain⟨_,⟨_,_,_,e,_⟩,_⟩:=x;exact⟨_,e⟩|rng i hi=>obtain⟨_,_,_,e⟩:=x;exact⟨_,e⟩|frz c u=>exact⟨_,x.1⟩|tbl j=>exact⟨_,x⟩|met f y=>exact⟨_,x⟩|ext k=>exact x.2.1
theorem OD{h':Ye}{D:Addr}{o:HO}{t':Nat}{m:Str->Option Value}(I:Inv X a7J σ H s)(r:s.heap.Ns X.env.locals m)(a:∀b d,b≠X.env.locals->s.heap.get? b=aX d->h'.get? b=aX d)(l:h'.Ns X.env.locals m)
  (hD:s.heap.get? D=aY)(new:ObjOk X.prog X.w (aM H D o) h' D o):Inv X a7J σ (aM H D o) {s with heap:=h',toks:=t'}:=by
 have h:H D=none:=by
  cases q:H D with
  |none=>rfl|some u=>obtain⟨d,e⟩:=DF (I.hok D u q);rw[hD]at e;cases e
 have i:∀b u,H b=aX u->b≠X.env.locals:=λb u e z=>by rw[z,I.free]at e;cases e
 refine I.step (g':=s.gens) (d':=s.drawn) (ch:=[]) (λ_ z=>nomatch z) (λb d g _ _ e _=>a b d g e) (λb d g _ _ e _=>⟨d.slots,a b d g e⟩) (λb d _ e n=>?_) (λb d _ e=>?_)
  (λb w e=>by rw[bF (fI e h)];exact e) (λb d u e=>by rw[bF (fI e h)];exact e) (λb y e=>⟨#[],by rw[bF (fI e h),e];simp⟩) (λx j=>?_) (λb u e=>?_) I.bare
 ·have:b≠D:=λz=>by rw[z,hD]at e;cases e
  rw[bF this];exact n
 ·by_cases g:b=X.env.locals
  ·obtain⟨k,_,_,p,_⟩:=l;exact⟨k,by rw[g];exact p⟩
  ·exact⟨d,a b d g e⟩
 ·rw[j.eq_nsMap,<- r.eq_nsMap];exact l
 ·by_cases g:b=D
  ·subst g;rw[cQ]at e;cases e;exact new
  ·rw[bF g]at e;refine(I.hok b u e).stay (λc v hc q=>a c v ?_ q) (λc q=>by rw[bF (fI q h)];exact q) λc w q=>by rw[bF (fI q h)];exact q
   rcases hc with rfl|hc
   ·exact i _ _ e
   ·exact i _ _ hc
end
theorem yU{prog:Xw}{w:XF}{A:XC}{s:WX}{Q:Bool->WX->Prop}:∀{us vs:gq}{ns b:List Int}(i:Nat),ZU us ns->ZU vs b->Q (HT.lexLt ns b) s->
  PySem.W.KatLex prog w A b4 (decide (us.length<vs.length)) Q (us.zip vs) i s
 |_,_,_,_,i,.nil,.nil,h=>by exact h
 |_,_,_,_,i,.nil,.cons c u hv,h=>by show Q (decide (0<_+1)) s;rw[decide_eq_true (a6O _)];exact h
 |_,_,_,_,i,.cons a t hu,.nil,h=>by show Q (decide (_+1<0)) s;rw[decide_eq_false (a1f _)];exact h
 |_,_,_,_,i,.cons (vs:=us) (ns:=ns) a t hu,.cons (vs:=vs) (ns:=b) c u hv,h=>by
  rw[HT.lexLt_cons]at h;refine PySem.W.kat_cons (a4b a t c u prog w _ _ ?_);by_cases e:a=c
  ·subst e;rw[if_pos rfl]at h;rw[beq_self_eq_true];refine PySem.W.kat_yes ?_;have:=yU (prog:=prog) (w:=w) (A:=A) (s:=s) (Q:=Q) (i+1) hu hv h;have g:decide ((Zq a t::us).length<(Zq a u::vs).length)=decide (us.length<vs.length):=by simp
   rw[g];exact this
  ·rw[if_neg e]at h;have d:(a==c)=false:=by simpa using e
   rw[d];refine PySem.W.kat_no ?_;cases hi:(b4&&i==0)with
   |true=>exact a7g h|false=>exact PySem.W.kat_one _ _ (a3z h)
noncomputable abbrev TupsV(K:WQ)(H:Hp):gw->List (List Int)->Prop:=a1M λv t=>∃a,v=V.ref a/\SqT K H a (t.map V.int)
theorem TupsV.get{K:WQ}{H:Hp}:∀{vs:gw}{b:List (List Int)}{i:Nat},TupsV K H vs b->i<vs.length->∃a,vs[i]?=aX (V.ref a)/\SqT K H a ((b.getD i []).map V.int)
 |_,_,_,.nil,h=>by simp at h
 |_,_,0,.cons ⟨a,e,q⟩ _,_=>⟨a,by rw[e];rfl,q⟩|_,_,i+1,.cons _ t,h=>by obtain⟨a,e,q⟩:=TupsV.get (i:=i) t (by simpa using h);exact⟨a,by simpa using e,q⟩
section
open PyProof.Rows
variable{prog:Xw}{w:XF}{A:XC}{E:Value->WX->Prop}{s:WX}
theorem yV{c:Addr}{us:gq}{z:Nat}{R:Fin->WX->Prop}(h:us.length<2)(g:s.heap.get? c=aX (Yu "list" us.toArray z)) (q:R (.done (.ret .none)) {s with heap:=a3g s.heap c us us.toArray}) :
  Xk (Xv prog w) A (Builtin.«list.sort» ⟨[.ref c],[]⟩) R E s:=by
 rw[a6Y];have lt:c<s.heap.objs.size:=W2 g;refine WN (listItems_at g rfl (WN (a3b g rfl ?_)));obtain⟨y,d⟩:∃y,(s.heap.update c (Yi λ_=>#[])).get? c=aX (Yu "list" #[] y):=⟨_,a7a g _⟩;refine WN (a3Z d rfl (WN (a2F (WN (a0y (X4 ?_))))));have e:(((s.heap.update c (Yi λ_=>#[])).push (Yu "tuple" us.toArray 0)).push (Yu "list" #[] 0)).get? c=aX (Yu "list" #[] y):=
  WW _ (WW _ d)
 show Xk (Xv prog w) A _ R E ⟨((s.heap.update c (Yi λ_=>#[])).push (Yu "tuple" us.toArray 0)).push (Yu "list" #[] 0),s.gens,s.drawn,s.toks,s.os⟩;dsimp only;have a:us.toArray.size<2:=by simpa using h
 rw[if_pos a,if_pos a];refine WN (WV ?_);rw[StateT.run_pure];refine WN (WV ?_);dsimp only;have b:a7B (λx=>x.2) (arrOf (SortSt.mk' general' (us.toArray.zip us.toArray) #[] 7 aY))=us.toArray:=by show a7B (λx=>x.2) (us.toArray.zip us.toArray)=us.toArray;exact Array.ext (by simp) (λi j k=>by simp)
 refine WN (a3Z e rfl (WN (a3b e rfl ?_ (hsz2:=by rw[b,Xh];omega))));rw[b];simp only[bne_self_eq_false,Xp,if_false];exact WV q
theorem OE{l:Addr}{u:Value}{Q:Value->WX->Prop}(a:s.heap.IsList l [u].toArray)(q:Q (.ref (s.heap.objs.size+1)) {s with heap:=sortedAll s.heap [u] [u].toArray}):Xk (Xv prog w) A (call (.builtin "sorted") [.ref l]) Q E s:=by
 refine a1v a5R a5b a5e (a5f _) ?_;unfold a2x;refine WN (m:=a6p "sorted" 1 1 _) (WV (WN (collect_list a (WN (a0y ?_)))));have z:((s.heap.push (Yu "list" #[] 0)).update s.heap.objs.size (Yi (·++[u].toArray))).objs.size=s.heap.objs.size+1:=by rw[Heap.size_update,size_push']
 have g:(((s.heap.push (Yu "list" #[] 0)).update s.heap.objs.size (Yi (·++[u].toArray))).push (Yu "list" [u].toArray 0)).get? (s.heap.objs.size+1)=aX (Yu "list" [u].toArray 0):=z▸W9 _ rfl;show Xk _ _ _ _ _ ⟨((s.heap.push (Yu "list" #[] 0)).update s.heap.objs.size (Yi (·++[u].toArray))).push (Yu "list" [u].toArray 0),s.gens,s.drawn,s.toks,s.os⟩;rw[z];refine WN (X4 (Yo a1I ⟨_,g,rfl⟩ a1r (yV (us:=[u]) (by simp) g ⟨_,rfl,?_⟩) (a1K _)));exact WV ⟨_,rfl,q⟩
end
theorem yW(lt:Nat->Nat->Bool):cE lt 1=[0]:=rfl
theorem yX(lt:Nat->Nat->Bool):cE lt 0=[]:=rfl
theorem jS(lt:Nat->Nat->Bool)(n:Nat):(cE lt n).Perm (X9 n):=by
 cases n with
 |zero=>rw[yX];exact .nil|succ n=>exact pM lt (a6O n)
section
variable{X:Cx}
theorem OF{a7J:jw}{s:WX}{σ:St}{H:Hp}{q:Addr}{v:V}{Q:VK}(I:Inv X a7J σ H s)(c:SqL X.K H q [v])(k:∀l,H l=aY->Q (.ref l) (aM H l (.lst [v]))) :
  Xk (Xv X.prog X.w) X.A (call (.builtin "sorted") [.ref q]) (EP X a7J σ Q) X.xe s:=by
 obtain⟨d,i,g,j⟩:=I.list c;cases i with
 |cons h rt=>cases rt;rename_i u;refine OE (u:=u) g.isList ?_;obtain⟨e,a⟩:=a2L s.heap [u] [u].toArray;refine⟨.ref (s.heap.objs.size+1),_,I.laid (t':=s.toks) (a:=s.heap.objs.size+1) (o:=.lst [v]) (λb m z=>a2B z) (ZH _) ?_,rfl,k _ (I.hok.fresh (ZH _))⟩;exact⟨by rw[Xh];show 1<=_;decide,[u],e,.cons h .nil,a⟩
end
noncomputable def yY(K:WQ):gw->Hp->VK->Prop:=λxs H Q=>∃q ws a,xs=[.ref q]/\SqL K H q ws/\TupsV K H ws a/\1<=ws.length/\ws.length<64/\(∀t∈a,t≠[]) /\
 ∀l,H l=aY->Q (.ref l) (aM H l (.lst ((cE (λi j=>HT.lexLt (a.getD i []) (a.getD j [])) ws.length).map λi=>ws.getD i .non)))
theorem DG{ns:List Int}{us:gq}(h:Vals (ns.map V.int) us):ZU us ns:=tI h
section
variable{X:Cx}
theorem OG:CallR X (.builtin "sorted") (yY X.K):=by
 intro a7J s σ H xs us Q I r h;obtain⟨q,ws,w,rfl,hq,G,h1,h64,A,k⟩:=h;obtain⟨u,rfl,ru⟩:=fA r;cases ru;by_cases h2:ws.length<2
 ·obtain⟨v,rfl⟩:=List.length_eq_one_iff.mp (by omega:ws.length=1);refine OF I hq λl hl=>?_;have z:=k l hl;rw[a2d,yW]at z;exact z
 replace h2:2<=ws.length:=a3k h2;obtain⟨its,J,pl,hz⟩:=I.list hq;obtain⟨m,F⟩:=I.fr;have Y:=J.length;refine PySem.W.kat_sorted F (IW (g:=X.base) (h:=s.heap) (L:=X.env.locals)) pl.isList (by omega) (by omega) λD e1 h' F' N' hD=>?_;have Z:∀b g,b≠X.env.locals->s.heap.get? b=aX g->h'.get? b=aX g:=λb g hb e=>by
  cases z:X.base.get? b with
  |some M=>have:=I.bk b M z;rw[e]at this;cases this;exact F'.keep b _ z|none=>exact(N' (b,g) (Xc _ (wY hb z e))).1
 have T:=N' (D,_) (Xf ..);have U:s.heap.get? D=none:=by
  cases z:s.heap.get? D with
  |none=>rfl|some g=>exact absurd (hD (D,g) (wY T.2.1 T.2.2 z)) (Zs _)
 have neL:∀{a:Addr}{vs:gw},SqT X.K H a vs->a≠X.env.locals:=λ{a vs} x z=>by
  subst z;rcases x with(x|⟨g,x⟩)|⟨g,_,_,hk,_⟩
  ·rw[I.free]at x;cases x
  ·rw[I.free]at x;cases x
  ·have h1:X.env.locals<X.base.objs.size:=W2 (I.mod.kin _ _ hk);exact Zs _ (Xq h1 F.above)
  -- the tuples stand there still
 have o:∀{a:Addr}{t:List Int},SqT X.K H a (t.map V.int)->∃(g:Obj)(xs:gq)(n:Nat),h'.get? a=aX g/\g.cls=.type "tuple"/\g.data=.seq xs.toArray n/\ZU xs t:=λ{a t} x=>by obtain⟨xs,rx,⟨g,e,c,n,d⟩,_⟩:=I.tuple x;exact⟨g,xs,n,Z a g (neL x) e,c,d,DG rx⟩
 have tups:∀{ws:gw}{its:gq}{w:List (List Int)},Vals ws its->TupsV X.K H ws w->(∀t∈w,t≠[])->∃fs:gq,fs.length=its.length/\PySem.W.KatTups h' its fs/\∀v∈fs,∃i t,v=Zq i t:=by
  intro ws its w J G;induction G generalizing its with
  |nil=>intro _;cases J;exact⟨[],rfl,.nil,λv B=>nomatch B⟩|@cons v t ws w B _ ih=>
   intro A;cases J with
   |cons r1 r2=>
    obtain⟨a,rfl,x⟩:=B;cases r1;obtain⟨fs,h1,h3,h4⟩:=ih r2 λt G=>A t (Xc _ G);obtain⟨g,xs,n,e,c,d,hi⟩:=o x;cases hi with
    |nil=>exact absurd rfl (A [] (Xf ..))|@cons i tk xs' ns' hi'=>
     refine⟨Zq i tk::fs,by simp[h1],.cons e c d (by simp) h3,λv B=>?_⟩;rcases Xr.mp B with rfl|B
     ·exact⟨i,tk,rfl⟩
     ·exact h4 v B
 obtain⟨fs,hf1,hf2,hf3⟩:=tups J G A;refine PySem.W.kat_kind (T:=.type "int") hf2 (by omega) (λv B=>?_) rfl ?_
 ·obtain⟨i,t,rfl⟩:=hf3 v B;exact .now
 have htl:w.length=ws.length:=G.length.symm;refine yQ (n:=its.length) (ans:=λi j=>HT.lexLt (w.getD i []) (w.getD j [])) (λi j C hi hj hC=>?_) (yT (by omega)) ?_
 ·obtain⟨a,ea,sa⟩:=G.get (i:=i) (by omega);obtain⟨b,eb,sb⟩:=G.get (i:=j) (by omega);obtain⟨ua,ha1,ha2⟩:=J.get ea;obtain⟨ub,hb1,hb2⟩:=J.get eb;cases ha2;cases hb2;have ga:its.getD i X5=.ref a:=by simp[X8,ha1]
  have gb:its.getD j X5=.ref b:=by simp[X8,hb1]
  unfold kas_ask;rw[ga,gb];obtain⟨oa,xa,na,e1,_,d1,i1⟩:=o sa;obtain⟨g,xb,nb,e2,_,d2,i2⟩:=o sb;refine PySem.W.kat_lt e1 d1 e2 d2 ?_;have:=yU (prog:=X.prog) (w:=X.w) (A:=X.A.in1.in1) (s:={s with heap:=h'}) (Q:=C) 0 i1 i2 hC;exact this
 ·refine a6C F' N' (.head λp hp=>Xd (hD p hp)) λh'' c N O=>?_;have L:∀b g,b≠X.env.locals->s.heap.get? b=aX g->h''.get? b=aX g:=λb g hb e=>by
   cases z:X.base.get? b with
   |some M=>have:=I.bk b M z;rw[e]at this;cases this;exact N.keep b _ z|none=>exact(O (b,g) (Xc _ (wY hb z e))).1
  have E:=(O (D,_) (Xf ..)).1;rw[<- Y]at E;have y:=pM (λi j=>HT.lexLt (w.getD i []) (w.getD j [])) (n:=ws.length) (by omega);have K:Vals ((cE (λi j=>HT.lexLt (w.getD i []) (w.getD j [])) ws.length).map λi=>ws.getD i .non) ((cE (λi j=>HT.lexLt (w.getD i []) (w.getD j [])) ws.length).map λi=>its.getD i X5):=by
   have R:∀l:List Nat,(∀i∈l,i<ws.length)->Vals (l.map λi=>ws.getD i .non) (l.map λi=>its.getD i X5):=λl=>by
    induction l with
    |nil=>intro _;exact .nil|cons i l ih=>
     intro hl;refine .cons ?_ (ih λj hj=>hl j (Xc _ hj));have hi:=hl i (Xf ..);obtain⟨u,g1,g2⟩:=J.get (W3 hi);have e1:ws.getD i .non=ws[i]:=by simp[X8,hi]
     have e2:its.getD i X5=u:=by simp[X8,g1]
     show RelV (ws.getD i .non) (its.getD i X5);rw[e1,e2];exact g2
   exact R _ λi hi=>by simpa using y.mem_iff.mp hi
  refine⟨.ref D,_,OD (s:=s) (o:=.lst _) (t':=s.toks) I F.ns L N.ns U ⟨?_,_,_,K,E⟩,rfl,k D ?_⟩
  ·rw[WO,y.length_eq,a2P];exact hz
  ·cases z:H D with
   |none=>rfl|some u=>obtain⟨g,e⟩:=DF (I.hok D u z);rw[U]at e;cases e
end
end L3
namespace L3
open PySem PySem.Spec
namespace Tb
section
variable{prog:Xw}{w:XF}{A:XC}{E:Value->WX->Prop}{s:WX}
noncomputable abbrev IsT(prog:Xw)(w:XF)(h:Ye)(k:List Int)(b:Addr):Prop:=IsTupleKey (a0A prog w) h k b
end
section
variable{prog:Xw}{w:XF}{A:XC}{R:a3Q->WX->Prop}{I:Addr}{fp wr:List Addr}{G:Array a6a->Array a6a->Prop}{n:Nat}{P:Nat->Value->Prop}{St:Nat->WX->Prop}
end
section
variable{prog:Xw}{w:XF}{A:XC}{E:Value->WX->Prop}{s:WX}
noncomputable abbrev gD(a:Bool):Obj:={cls:=.type "set",dict:=aY,data:=.set #[] 0 (.fresh 0 0 a)}
end
end Tb
end L3
namespace L3
open PySem L2
open PyProof.Rows (IntsAre)
noncomputable def rA:List D->Option (List (List Int))
 |[]=>aX []|x::r=>(c5 x).bind λk=>(rA r).map (k::·)
theorem yZ:∀{ds:List D}{k:List Int},nU ds=aX k->ds=k.map D.int
 |[],k,h=>by cases h;rfl
 |d::ds,k,h=>by
  cases d with
  |int i=>obtain⟨c,a,b⟩:=WS.mp h;subst b;rw[yZ a];rfl|_=>cases h
theorem DH{x:D}{k:List Int}(h:c5 x=aX k):x=.tup (k.map D.int):=by
 cases x with
 |tup ds=>rw[yZ h]|_=>cases h
theorem DI:∀{xs:List D}{ks:List (List Int)},rA xs=aX ks->xs=ks.map λk=>D.tup (k.map D.int)
 |[],ks,h=>by cases h;rfl
 |x::xs,ks,h=>by obtain⟨k,a,h⟩:=WM.mp h;obtain⟨d,b,c⟩:=WS.mp h;subst c;rw[DH a,DI b];rfl
noncomputable def eX(b:Hm):D->Option (List D)
 |.rol xs=>aX xs|.loc a=>match b[a]? with
  |some (.lst xs)=>aX xs|_=>aY
 |_=>aY
section
variable{K:WQ}{π:Nat->Addr}{n:Nat}{H:Hp}{μ:Hm}
theorem nZ{v:V}{x:D}{xs:List D}(R:Rp K π H μ)(h:IsD K π μ.length H v x)(e:eX μ x=aX xs):∃p vs,v=.ref p/\SqL K H p vs/\IsDs K π μ.length H vs xs:=by
 cases h with
 |rol q t=>cases e;exact⟨_,_,rfl,q.sq,t⟩|@loc a g=>
  simp only[eX]at e;split at e
  ·rename_i i d;cases e;obtain⟨vs,b,c⟩:=R.lst a xs d;exact⟨_,vs,rfl,.of b,c⟩
  ·cases e
 |_=>cases e
theorem ints_of':∀{vs:gw}{k:List Int},IsDs K π n H vs (k.map D.int)->vs=k.map V.int
 |_,[],h=>by cases h;rfl
 |_,i::k,h=>by
  cases h with
  |cons h t=>cases h;rw[ints_of' t];rfl
theorem uK:∀(k:List Int),IsDs K π n H (k.map V.int) (k.map D.int)
 |[]=>.nil|i::k=>.cons (.int i) (uK k)
end
theorem DJ{X:Cx}:∀{k:List Int}{xs:gq},Vals (k.map V.int) xs->ItemsAre (a0A X.prog X.w) k xs
 |[],_,h=>by cases h;exact .nil
 |i::k,_,h=>by
  cases h with
  |cons h t=>obtain⟨a,rfl⟩:=h;exact .cons (intKind_is _ _ _ _) (DJ t)
section
variable{X:Cx}{a7J:jw}{σ:St}{H:Hp}{s:WX}
theorem kG(I:Inv X a7J σ H s){b:Addr}{k:List Int}(h:SqT X.K H b (k.map V.int)):Tb.IsT X.prog X.w s.heap k b:=by obtain⟨i,g,⟨a,e,c,n,d⟩,_⟩:=I.tuple h;exact⟨a,i.toArray,n,e,c,d,by simpa using DJ g⟩
theorem call_lenT:CallR X (.builtin "len") (λxs H Q=>∃a L,xs=[V.ref a]/\H a=aX (tL a L)/\Q (.int L.length) H):=by
 intro a7J s σ H xs z Q I r h;obtain⟨a,L,rfl,e,q⟩:=h;obtain⟨u,rfl,x⟩:=fA r;cases x;obtain⟨⟨o,n,w,d,y,t,R,c,hd,g,ok,p,m,k,i,v,j⟩,_,_⟩:=I.hok a _ e;have b:d.size=L.length:=by have:=p.length_eq;simpa using this
 have l:t.mask<=511:=by rcases k with h|h|h|h<;>omega
 refine call_len_set n c hd (Tb.fits_of ok g) (by rw[b];omega) ?_;rw[b];exact⟨.int L.length,H,I.tok _,⟨_,rfl⟩,q⟩
end
end L3
namespace L3
open PySem L2
noncomputable def y8(ks:List (List Int)):Nat->Nat->Bool:=λi j=>HT.lexLt (ks.getD i []) (ks.getD j [])
noncomputable def rB:MF:=λds b=>match ds with
 |[x]=>(eX b x).bind λc=>(rA c).bind λa=>if 1<=a.length/\a.length<64/\∀t∈a,t≠[]then aX (.loc b.length,b++[.lst ((cE (y8 a) a.length).map λi=>c.getD i .non)])else aY|_=>aY
theorem DK{K:WQ}{π:Nat->Addr}{n:Nat}{H:Hp}:∀{vs:gw}{ks:List (List Int)},IsDs K π n H vs (ks.map λk=>D.tup (k.map D.int))->TupsV K H vs ks
 |_,[],h=>by cases h;exact .nil
 |_,k::ks,h=>by
  cases h with
  |cons h t=>
   cases h with
   |@tup p vs ds a hd=>have:=ints_of' hd;subst this;exact .cons ⟨p,rfl,a⟩ (DK t)
theorem DL{K:WQ}{π:Nat->Addr}{n:Nat}{H:Hp}:∀{vs:gw}{xs:List D}(i:Nat),IsDs K π n H vs xs->IsD K π n H (vs.getD i .non) (xs.getD i .non)
 |_,_,i,.nil=>by simp;exact .non
 |_,_,0,.cons h _=>h|_,_,i+1,.cons _ t=>by simpa using DL i t
theorem DM{K:WQ}{π:Nat->Addr}{n:Nat}{H:Hp}{vs:gw}{xs:List D}(h:IsDs K π n H vs xs):∀(l:List Nat),IsDs K π n H (l.map λi=>vs.getD i .non) (l.map λi=>xs.getD i .non)
 |[]=>.nil|i::l=>.cons (DL i h) (DM h l)
theorem OH{K:WQ}:dR K rB (yY K):=by
 intro y H x w d u v Q R i a k;unfold rB at a;split at a
 ·obtain⟨s,m,a⟩:=WM.mp a;obtain⟨c,n,a⟩:=WM.mp a;split at a
  ·rename_i o;cases a;cases i with
   |cons i t=>
    cases t;obtain⟨p,e,rfl,q,hd⟩:=nZ R i m;have b:=hd;rw[DI n]at b;have r:e.length=c.length:=by have:=b.length;rw[WO]at this;exact this
    refine⟨p,e,c,rfl,q,DK b,by omega,by omega,o.2.2,λl g=>?_⟩;obtain⟨h,R2,_⟩:=R.alloc (c:=.lst ((cE (y8 c) c.length).map λi=>s.getD i .non)) (o:=.lst ((cE (λi j=>HT.lexLt (c.getD i []) (c.getD j [])) e.length).map λi=>e.getD i .non)) g (by
     show IsDs _ _ _ _ _ _;rw[r];exact DM hd _)
    exact k _ _ _ h R2 mM
  ·cases a
 ·cases a
open PyProof.Rows (IntsAre Fr News seqObj)
section
variable{prog:Xw}{w:XF}{A:XC}{E:Value->WX->Prop}{s:WX}{h₀:Ye}{L:Addr}{m:Str->Option Value}{news:jw}
end
theorem mO:∀a:List Int,HT.lexLt a a=b3
 |[]=>rfl|x::a=>by rw[HT.lexLt_cons,if_pos rfl];exact mO a
theorem n5:∀{a b c:List Int},HT.lexLt a b=b4->HT.lexLt b c=b4->HT.lexLt a c=b4
 |_,[],[],_,h=>absurd h (by intro z;cases z)|_,_::_,[],_,h=>absurd h (by intro z;cases z)|[],_,_::_,_,_=>rfl|_::_,[],_::_,h,_=>absurd h (by intro z;cases z)|x::a,y::b,z::c,h1,h2=>by
  rw[HT.lexLt_cons]at h1 h2 ⊢;by_cases e:x=y
  ·subst e;rw[if_pos rfl]at h1;by_cases d:x=z
   ·subst d;rw[if_pos rfl]at h2 ⊢;exact n5 h1 h2
   ·rw[if_neg d]at h2 ⊢;exact h2
  ·rw[if_neg e]at h1;by_cases d:y=z
   ·subst d;rw[if_neg e];exact h1
   ·rw[if_neg d]at h2;rw[decide_eq_true_eq]at h1 h2;rw[if_neg (by omega),decide_eq_true_eq];omega
section
variable{X:Cx}{a7J:jw}{σ:St}{H:Hp}{s:WX}
end
end L3
namespace L3
open PySem
open PySem.W (KasT kas_asc kas_desc kas_tail3 kas_descPart kas_count kas_place kas_bin kas_sort kas_rev)
open PyProof.Rows (mirror bubble getElem?_bubble getElem?_mirror_all mirror_size bubble_size)
theorem pN{b c:Type}{ans:Nat->Nat->Bool}{f:b->a6R c}:∀t:a6R b,bC ans (t.bind f)=bC ans (f (bC ans t))
 |.ret a=>rfl|.ask i j k=>by show bC ans ((k (ans i j)).bind f)=_;rw[pN];rfl
section
variable{ans:Nat->Nat->Bool}{κ:Nat->Nat}(hk:∀i j,ans i j=decide (κ i<κ j))
noncomputable def gK(κ:Nat->Nat)(p:Array Nat)(k:Nat):Nat:=κ (p.getD k 0)
theorem rC{p q:Array Nat}{k m:Nat}(h:p[k]?=q[m]?):p.getD k 0=q.getD m 0:=by
 have e:∀(a:Array Nat)(i:Nat),a.getD i 0=(a[i]?).getD 0:=λa i=>by
  by_cases hi:i<a.size
  ·simp[a1n,hi]
  ·simp[a1n,hi]
 rw[e,e,h]
theorem n6{p:Array Nat}{i j:Nat}(a:j<=p.size)(k:Nat):gK κ (ZD p i j) k=if i<=k/\k<j then gK κ p (i+j-1-k)else gK κ p k:=by
 have h:=getElem?_mirror_all (i:=i) a k;by_cases c:i<=k/\k<j
 ·rw[if_pos c]at h ⊢;exact congrArg κ (rC h)
 ·rw[if_neg c]at h ⊢;exact congrArg κ (rC h)
theorem DN{p:Array Nat}{s d:Nat}(b:s<p.size)(hd:d<=s)(k:Nat):gK κ (bubble p s d) k=if k=s-d then gK κ p s else if s-d<k/\k<=s then gK κ p (k-1)else gK κ p k:=by
 have h:=getElem?_bubble b d hd k;by_cases c:k=s-d
 ·rw[if_pos c]at h ⊢;exact congrArg κ (rC h)
 ·rw[if_neg c]at h ⊢;by_cases a:s-d<k/\k<=s
  ·rw[if_pos a]at h ⊢;exact congrArg κ (rC h)
  ·rw[if_neg a]at h ⊢;exact congrArg κ (rC h)
theorem rD(p:Array Nat)(i j:Nat):(ZD p i j).size=p.size:=mirror_size _ _ _ _
noncomputable def kH(κ:Nat->Nat)(p:Array Nat)(m:Nat):Prop:=∀i j,i<=j->j<m->gK κ p i<=gK κ p j
include hk in
theorem y9(p:Array Nat):∀(f m:Nat),m<=bC ans (ZE p f m)/\bC ans (ZE p f m)<=m+f/\(∀j,m<=j->j<bC ans (ZE p f m)->gK κ p (j-1)<=gK κ p j) /\
  (bC ans (ZE p f m)<m+f->gK κ p (bC ans (ZE p f m))<gK κ p (bC ans (ZE p f m)-1))
 |0,m=>⟨WY _,WY _,λj b a=>absurd (show j<m from a) (by omega),λh=>absurd (show m<m+0 from h) (by omega)⟩|f+1,m=>by
  have e:bC ans (ZE p (f+1) m)=if ans (p.getD m 0) (p.getD (m-1) 0)=b4 then m else bC ans (ZE p f (m+1)):=by show bC ans (if ans (p.getD m 0) (p.getD (m-1) 0)=b4 then ZG m else ZE p f (m+1))=_;split<;>rfl
  rw[e,hk];by_cases h:κ (p.getD m 0)<κ (p.getD (m-1) 0)
  ·rw[if_pos (by simpa using h)];exact⟨WY _,by omega,λj b a=>absurd a (by omega),λ_=>h⟩
  ·rw[if_neg (by simpa using h)];obtain⟨k,l,d,g⟩:=y9 p f (m+1);refine⟨by omega,by omega,λj b a=>?_,λa=>g (by omega)⟩;by_cases c:j=m
   ·subst c;exact ZY.mp h
   ·exact d j (by omega) a
theorem DO{p:Array Nat}{m:Nat}(h:∀j,1<=j->j<m->gK κ p (j-1)<=gK κ p j):kH κ p m:=by
 intro i j a b;induction j with
 |zero=>
  have:i=0:=by omega
  subst this;exact WY _
 |succ j c=>
  by_cases e:i=j+1
  ·subst e;exact WY _
  ·exact Xz (c (by omega) (by omega)) (h (j+1) (by omega) b)
structure Falls(κ:Nat->Nat)(p:Array Nat)(n q:Nat):Prop where
 fall:∀i j,i<=j->j<n->gK κ p j<=gK κ p i
 alike:∀k,n-1-q<=k->k<n->gK κ p k=gK κ p (n-1)
 qn:q<n
theorem Falls.rev{p:Array Nat}{n q:Nat}(F:Falls κ p n q)(a:n<=p.size):∀k,gK κ (ZD p (n-(q+1)) n) k=gK κ p k:=λk=>by
 rw[n6 a];split
 ·rename_i c;have:=F.qn;rw[F.alike (n-(q+1)+n-1-k) (by omega) (by omega),F.alike k (by omega) c.2]
 ·rfl
theorem Falls.same{p c:Array Nat}{n q:Nat}(F:Falls κ p n q)(h:∀k,gK κ c k=gK κ p k):Falls κ c n q:=
 ⟨λi j a b=>by rw[h,h];exact F.fall i j a b,λk a b=>by rw[h,h];exact F.alike k a b,F.qn⟩
include hk in
theorem uL:∀(f:Nat)(p:Array Nat)(n q:Nat),1<=n->n+f<=p.size->Falls κ p n q->
  ∃a b g,bC ans (Zh f p n q)=(a,b,g)/\a.size=p.size/\n<=b/\b<=n+f/\Falls κ a b g
 |0,p,n,q,_,_,F=>⟨p,n,q,rfl,rfl,WY _,WY _,F⟩|f+1,p,n,q,h1,hs,F=>by
  have H:=F.qn;by_cases h:κ (p.getD n 0)<κ (p.getD (n-1) 0)
  ·have K:gK κ p n<gK κ p (n-1):=h;have c:∀a:Array Nat,(∀k,gK κ a k=gK κ p k)->Falls κ a (n+1) 0:=λa w=>⟨λi j hi E=>by
     rw[w,w];by_cases e:j=n
     ·subst j;by_cases A:i=n
      ·subst i;exact WY _
      ·have:=F.fall i (n-1) (by omega) (by omega);omega
     ·exact F.fall i j hi (by omega),λk u v=>by
     have:k=n:=by omega
     subst this;simp,by omega⟩
   by_cases x:q>0
   ·have e:bC ans (Zh (f+1) p n q)=bC ans (Zh f (ZD p (n-(q+1)) n) (n+1) 0):=by show bC ans (if ans (p.getD n 0) (p.getD (n-1) 0)=b4 then(if q>0 then Zh f (ZD p (n-(q+1)) n) (n+1) 0 else Zh f p (n+1) 0)else _)=_;rw[hk,if_pos (by simpa using h),if_pos x]
    obtain⟨a,b,g,m,o,y,z,r⟩:=uL f (ZD p (n-(q+1)) n) (n+1) 0 (by omega) (by rw[rD];omega) (c _ (F.rev (by omega)));exact⟨a,b,g,e.trans m,o.trans (rD _ _ _),by omega,by omega,r⟩
   ·have e:bC ans (Zh (f+1) p n q)=bC ans (Zh f p (n+1) 0):=by show bC ans (if ans (p.getD n 0) (p.getD (n-1) 0)=b4 then(if q>0 then Zh f (ZD p (n-(q+1)) n) (n+1) 0 else Zh f p (n+1) 0)else _)=_;rw[hk,if_pos (by simpa using h),if_neg x]
    obtain⟨a,b,g,m,o,y,z,r⟩:=uL f p (n+1) 0 (by omega) (by omega) (c p λ_=>rfl);exact⟨a,b,g,e.trans m,o,by omega,by omega,r⟩
  ·by_cases s:κ (p.getD (n-1) 0)<κ (p.getD n 0)
   ·have e:bC ans (Zh (f+1) p n q)=(p,n,q):=by show bC ans (if ans (p.getD n 0) (p.getD (n-1) 0)=b4 then _ else a2k (p.getD (n-1) 0) (p.getD n 0) λd=>if d=b4 then ZG (p,n,q)else Zh f p (n+1) (q+1))=_;rw[hk,if_neg (by simpa using h)];show bC ans (if ans (p.getD (n-1) 0) (p.getD n 0)=b4 then ZG (p,n,q)else Zh f p (n+1) (q+1))=_;rw[hk,if_pos (by simpa using s)];rfl
    exact⟨p,n,q,e,rfl,WY _,by omega,F⟩
   ·have e:bC ans (Zh (f+1) p n q)=bC ans (Zh f p (n+1) (q+1)):=by show bC ans (if ans (p.getD n 0) (p.getD (n-1) 0)=b4 then _ else a2k (p.getD (n-1) 0) (p.getD n 0) λd=>if d=b4 then ZG (p,n,q)else Zh f p (n+1) (q+1))=_;rw[hk,if_neg (by simpa using h)];show bC ans (if ans (p.getD (n-1) 0) (p.getD n 0)=b4 then ZG (p,n,q)else Zh f p (n+1) (q+1))=_;rw[hk,if_neg (by simpa using s)]
    have l:gK κ p n=gK κ p (n-1):=by have I:¬ gK κ p n<gK κ p (n-1):=h;have J:¬ gK κ p (n-1)<gK κ p n:=s;omega
    have G:Falls κ p (n+1) (q+1):=⟨λi j hi E=>by
      by_cases e:j=n
      ·subst j;by_cases A:i=n
       ·subst i;exact WY _
       ·rw[l];exact F.fall i (n-1) (by omega) (by omega)
      ·exact F.fall i j hi (by omega),λk u v=>by
      have B:n+1-1=n:=by omega
      rw[B];by_cases e:k=n
      ·rw[e]
      ·rw[l];exact F.alike k (by omega) (by omega),by omega⟩
    obtain⟨a,b,g,m,o,y,z,r⟩:=uL f p (n+1) (q+1) (by omega) (by omega) G;exact⟨a,b,g,e.trans m,o,by omega,by omega,r⟩
include hk in
theorem DP{p:Array Nat}{n N q:Nat}(h1:1<=n)(o:n<=N)(g:p.size=N)(F:Falls κ p n q) :
  ∃m c,bC ans (a1F n N p)=(m,c)/\c.size=N/\1<=m/\m<=N/\kH κ c m:=by
 have up:∀j,1<=j->j<n->gK κ (ZD p 0 n) (j-1)<=gK κ (ZD p 0 n) j:=λj a b=>by rw[n6 (by omega),n6 (by omega),if_pos ⟨by omega,by omega⟩,if_pos ⟨by omega,by omega⟩];exact F.fall _ _ (by omega) (by omega)
 obtain⟨k,l,d,_⟩:=y9 hk (ZD p 0 n) (N-n) n;refine⟨bC ans (ZE (ZD p 0 n) (N-n) n),ZD p 0 n,?_,by rw[rD,g],?_,?_,DO λj h1 e=>?_⟩
 ·unfold a1F;rw[pN];rfl
 ·omega
 ·omega
 ·by_cases h:j<n
  ·exact up j h1 h
  ·exact d j (by omega) e
include hk in
theorem DQ{p:Array Nat}{n N:Nat}(h1:1<=n)(w:n<N)(l:p.size=N)(c:∀i j,i<=j->j<n->gK κ p j<=gK κ p i)(r:gK κ p n<gK κ p (n-1)) :
  ∃m d,bC ans (Z2 n N p)=(m,d)/\d.size=N/\1<=m/\m<=N/\kH κ d m:=by
 have F:Falls κ p (n+1) 0:=⟨λi j hi v=>by
   by_cases e:j=n
   ·subst j;by_cases u:i=n
    ·subst i;exact WY _
    ·have:=c i (n-1) (by omega) (by omega);omega
   ·exact c i j hi (by omega),λk a b=>by
   have:k=n:=by omega
   subst this;simp,by omega⟩
 obtain⟨d,g,o,s,q,x,y,h⟩:=uL hk (N-(n+1)) p (n+1) 0 (by omega) (by omega) F;have e:bC ans (Z2 n N p)=bC ans (if o>0 then a1F g N (ZD d (g-(o+1)) g)else a1F g N d):=by unfold Z2;rw[pN,s]
 rw[e];split
 ·exact DP hk (by omega) (by omega) (by rw[rD,q,l]) (h.same (h.rev (by omega)))
 ·exact DP hk (by omega) (by omega) (q.trans l) h
include hk in
theorem OI{p:Array Nat}{N:Nat}(h1:1<=N)(l:p.size=N):∃m d,bC ans (a4N N p)=(m,d)/\d.size=N/\1<=m/\m<=N/\kH κ d m:=by
 obtain⟨g,v,q,r⟩:=y9 hk p (N-1) 1;have e:bC ans (a4N N p)=bC ans (if(bC ans (ZE p (N-1) 1)==N)=b4 then ZG (bC ans (ZE p (N-1) 1),p)else if bC ans (ZE p (N-1) 1)>1 then a2k (p.getD 0 0) (p.getD (bC ans (ZE p (N-1) 1)-1) 0) (λc=>if c=b4 then ZG (bC ans (ZE p (N-1) 1),p)else Z2 (bC ans (ZE p (N-1) 1)) N (ZD p 0 (bC ans (ZE p (N-1) 1))))else Z2 (bC ans (ZE p (N-1) 1)) N p):=by unfold a4N;rw[pN]
 rw[e];generalize bC ans (ZE p (N-1) 1)=n at *;have up:=DO (κ:=κ) (p:=p) (m:=n) q;split
 ·exact⟨n,p,rfl,l,g,by omega,up⟩
 ·rename_i b;have b:n≠N:=by simpa using b
  have a:=r (by omega);split
  ·rename_i s;show ∃m d,bC ans (if ans (p.getD 0 0) (p.getD (n-1) 0)=b4 then ZG (n,p)else Z2 n N (ZD p 0 n))=(m,d)/\_;rw[hk];by_cases h:κ (p.getD 0 0)<κ (p.getD (n-1) 0)
   ·rw[if_pos (by simpa using h)];exact⟨n,p,rfl,l,g,by omega,up⟩
   ·rw[if_neg (by simpa using h)];have w:¬ gK κ p 0<gK κ p (n-1):=h;have all:∀k,k<n->gK κ p k=gK κ p 0:=λk o=>by have x:=up 0 k (XJ _) o;have y:=up k (n-1) (by omega) (by omega);omega
    refine DQ hk g (by omega) (by rw[rD,l]) (λi j hi u=>?_) ?_
    ·rw[n6 (by omega),n6 (by omega),if_pos ⟨by omega,by omega⟩,if_pos ⟨by omega,by omega⟩,all (0+n-1-j) (by omega),all (0+n-1-i) (by omega)];exact WY _
    ·rw[n6 (by omega),n6 (by omega),if_neg (by omega),if_pos ⟨by omega,by omega⟩,all (0+n-1-(n-1)) (by omega),<- all (n-1) (by omega)];exact a
  ·rename_i s;refine DQ hk g (by omega) l (λi j hi u=>?_) a;have:i=j:=by omega
   subst this;exact WY _
include hk in
theorem zA{p:Array Nat}{k:Nat}(S:kH κ p k):∀(f l r:Nat),r-l<=f->l<=r->r<=k->(∀j,j<l->gK κ p j<=gK κ p k)->(∀j,r<=j->j<k->gK κ p k<gK κ p j)->
  bC ans (YM p k f l r)<=k/\(∀j,j<bC ans (YM p k f l r)->gK κ p j<=gK κ p k)/\∀j,bC ans (YM p k f l r)<=j->j<k->gK κ p k<gK κ p j
 |0,l,r,h1,h2,h3,lo,hi=>by
  have:l=r:=by omega
  subst this;exact⟨h3,lo,hi⟩
 |f+1,l,r,h1,h2,h3,lo,hi=>by
  by_cases h:l >= r
  ·have e:bC ans (YM p k (f+1) l r)=l:=by show bC ans (if l >= r then ZG l else _)=_;rw[if_pos h];rfl
   have:l=r:=by omega
   subst this;rw[e];exact⟨h3,lo,hi⟩
  ·by_cases c:κ (p.getD k 0)<κ (p.getD ((l+r)/2) 0)
   ·have e:bC ans (YM p k (f+1) l r)=bC ans (YM p k f l ((l+r)/2)):=by show bC ans (if l >= r then ZG l else a2k (p.getD k 0) (p.getD ((l+r)/2) 0) λc=>if c=b4 then YM p k f l ((l+r)/2)else YM p k f ((l+r)/2+1) r)=_;rw[if_neg h];show bC ans (if ans (p.getD k 0) (p.getD ((l+r)/2) 0)=b4 then YM p k f l ((l+r)/2)else YM p k f ((l+r)/2+1) r)=_;rw[hk,if_pos (by simpa using c)]
    rw[e];refine zA S f l ((l+r)/2) (by omega) (by omega) (by omega) lo λj b a=>?_;have:=S ((l+r)/2) j b a;have d:gK κ p k<gK κ p ((l+r)/2):=c;omega
   ·have e:bC ans (YM p k (f+1) l r)=bC ans (YM p k f ((l+r)/2+1) r):=by show bC ans (if l >= r then ZG l else a2k (p.getD k 0) (p.getD ((l+r)/2) 0) λc=>if c=b4 then YM p k f l ((l+r)/2)else YM p k f ((l+r)/2+1) r)=_;rw[if_neg h];show bC ans (if ans (p.getD k 0) (p.getD ((l+r)/2) 0)=b4 then YM p k f l ((l+r)/2)else YM p k f ((l+r)/2+1) r)=_;rw[hk,if_neg (by simpa using c)]
    rw[e];refine zA S f ((l+r)/2+1) r (by omega) (by omega) h3 (λj b=>?_) hi;have d:¬ gK κ p k<gK κ p ((l+r)/2):=c;have:=S j ((l+r)/2) (by omega) (by omega);omega
theorem OJ{p:Array Nat}{k l:Nat}(a:k<p.size)(d:l<=k)(S:kH κ p k)(lo:∀j,j<l->gK κ p j<=gK κ p k)(hi:∀j,l<=j->j<k->gK κ p k<gK κ p j):kH κ (bubble p k (k-l)) (k+1):=by
 intro i j b c
 rw[DN a (by omega),DN a (by omega)]
 have e:k-(k-l)=l:=by omega
 rw[e]
 repeat' split
 all_goals first
  |exact WY _
  |(exfalso;omega)
  |(exact ZZ (hi _ (by omega) (by omega)))
  |(exact lo _ (by omega))
  |(exact S _ _ (by omega) (by omega))
include hk in
theorem DR{N:Nat}:∀(f:Nat)(p:Array Nat)(k:Nat),p.size=N->k+f=N->kH κ p k->kH κ (bC ans (a3r f p k)) N
 |0,p,k,hs,h,S=>by
  have:k=N:=by omega
  subst this;exact S
 |f+1,p,k,hs,h,S=>by
  have e:bC ans (a3r (f+1) p k)=bC ans (a3r f (bubble p k (k-bC ans (YM p k k 0 k))) (k+1)):=by show bC ans ((YM p k k 0 k).bind λl=>a3r f (bubble p k (k-l)) (k+1))=_;rw[pN]
  rw[e];obtain⟨a,b,c⟩:=zA hk S k 0 k (by omega) (by omega) (WY _) (λj g=>absurd g (by omega)) (λj m d=>absurd d (by omega));exact DR f _ (k+1) (by rw[bubble_size,hs]) (by omega) (OJ (by omega) a S b c)
include hk in
theorem OK{N:Nat}(h1:1<=N):kH κ (bC ans (a3q N)) N:=by
 obtain⟨m,a,e,d,c,g,S⟩:=OI hk (p:=(X9 N).toArray) h1 (by simp);have b:bC ans (a3q N)=bC ans (if m<N then a3r (N-max m 1) a (max m 1)else ZG a):=by unfold a3q;rw[pN,e]
 rw[b];split
 ·have:max m 1=m:=by omega
  rw[this];exact DR hk (N-m) a m d (by omega) S
 ·have:m=N:=by omega
  subst this;exact S
end
section
variable{α:Type}{lt:α->α->Bool}(irr:∀a,lt a a=b3)(tr:∀a b c,lt a b=b4->lt b c=b4->lt a c=b4)(nt:∀a b c,lt a b=b4->lt a c=b4\/lt c b=b4)
theorem zB{p q:α->Bool}:∀{l:List α},(∀a∈l,p a=b4->q a=b4)->l.countP p<=l.countP q
 |[],_=>WY _|a::l,h=>by have i:=zB (l:=l) λb d=>h b (Xc _ d);rw[a1Q,a1Q];have:=h a (Xf ..);cases e:p a<;>cases g:q a<;>simp_all<;>omega
theorem DS{p q:α->Bool}:∀{l:List α}{b:α},(∀a∈l,p a=b4->q a=b4)->b∈l->p b=b3->q b=b4->l.countP p<l.countP q
 |a::l,b,h,d,h1,h2=>by
  rw[a1Q,a1Q];have e:=zB (l:=l) λc hc=>h c (Xc _ hc);rcases Xr.mp d with rfl|d
  ·simp only[h1,h2,Xp,if_false,if_true];omega
  ·have j:=DS (l:=l) (λc hc=>h c (Xc _ hc)) d h1 h2;have:=h a (Xf ..);cases g:p a<;>cases i:q a<;>simp_all<;>omega
include irr tr nt in
theorem OL{l:List α}{a b:α}(d:a∈l):lt a b=decide (l.countP (λc=>lt c a)<l.countP (λc=>lt c b)):=by
 cases h:lt a b with
 |true=>have:=DS (p:=λc=>lt c a) (q:=λc=>lt c b) (l:=l) (λc _ hc=>tr _ _ _ hc h) d (irr a) h;simpa using this|false=>
  have:=zB (p:=λc=>lt c b) (q:=λc=>lt c a) (l:=l) λc _ hc=>by
   rcases nt c b a hc with z|z
   ·exact z
   ·rw[h]at z;cases z
  simpa using this
include irr tr nt in
theorem DT(d:α)(xs:List α){n:Nat}(l:1<=n):(cE (λi j=>lt (xs.getD i d) (xs.getD j d)) n).Pairwise λi j=>lt (xs.getD j d) (xs.getD i d)=false:=by
 have g:∀i j,lt (xs.getD i d) (xs.getD j d)=decide ((d::xs).countP (λc=>lt c (xs.getD i d))<(d::xs).countP (λc=>lt c (xs.getD j d))):=λi j=>by
  refine OL irr tr nt ?_;by_cases hi:i<xs.length
  ·have:xs.getD i d=xs[i]:=by simp[X8,hi]
   rw[this];exact Xc _ (ZP hi)
  ·have:xs.getD i d=d:=by simp[X8,YD (ZY.mp hi)]
   rw[this];exact Xf ..
 have S:=OK (κ:=λi=>(d::xs).countP λc=>lt c (xs.getD i d)) g l (N:=n);have p:=pM (λi j=>lt (xs.getD i d) (xs.getD j d)) (n:=n) l;have q:(cE (λi j=>lt (xs.getD i d) (xs.getD j d)) n).length=n:=by have:=p.length_eq;simpa using this
 rw[a1x];intro i j hi o m;rw[g];have s:=S i j (by omega) (by omega);have e:∀(a:Array Nat)(k:Nat)(g:k<a.toList.length),a.getD k 0=a.toList[k]:=λa k g=>by
  have h:k<a.size:=by simpa using g
  simp[a1n,h]
 unfold gK at s;rw[e _ i hi,e _ j o]at s;simp only[decide_eq_false_iff_not,ZY];exact s
end
end L3
namespace L3
open PySem L2
section
variable{X:Cx}{a b c:Expr}{ma mb mc:ME}{pos:YE}
noncomputable def jT(f g:D->D->Hm->jk)(a b c:ME):ME:=λd e=>(a d e).bind λp=>(b d p.2).bind λq=>(f p.1 q.1 q.2).bind λr=>match r.1 with
 |.bl b4=>(c d r.2).bind λt=>g q.1 t.1 t.2|.bl b3=>aX (.bl b3,r.2)|_=>aY
theorem DU{f g:D->D->Hm->jk}{r J:R2}{K:WQ}(hf:dQ K f r)(hg:dQ K g J):∀σ H Q,tM K (jT f g ma mb mc) σ H Q->xG r J (tM K ma) (tM K mb) (tM K mc) σ H Q:=by
 rintro σ H Q ⟨π,w,μ,d,q,R,E,e,k⟩;obtain⟨⟨x,h⟩,Y,e⟩:=WM.mp e;obtain⟨⟨y,i⟩,Z,e⟩:=WM.mp e;obtain⟨⟨z,j⟩,h3,e⟩:=WM.mp e;refine⟨π,w,μ,x,h,R,E,Y,λs v1 H1 n T i1=>⟨s,w,h,y,i,T,E.mono n,Z,λu L M o R2 I=>?_⟩⟩;refine hf u M i x y z j v1 L _ R2 (i1.mono o) I h3 λm v3 N p A i3=>?_;cases z with
 |bl B=>
  cases i3;refine⟨B,rfl,?_⟩;cases B with
  |true=>refine mK ?_;obtain⟨⟨t,l⟩,h4,e⟩:=WM.mp e;exact⟨m,w,j,t,l,A,((E.mono n).mono o).mono p,h4,λv v4 O G U i4=>hg v O l y t d q L v4 Q U ((I.mono p).mono G) i4 e (k.after (((n.trans o).trans p).trans G))⟩|false=>refine mJ ?_;cases e;exact k m _ N ((n.trans o).trans p) A (.bl b3)
 |_=>cases e
noncomputable def lO:a0Z->Option (Int->Int->Bool)
 |.Lt=>aX λi j=>decide (i<j)|.LtE=>aX λi j=>decide (i<=j)|.Gt=>aX λi j=>decide (j<i)|.GtE=>aX λi j=>decide (j<=i)|_=>aY
theorem pO{op:a0Z}{p:Int->Int->Bool}(h:lO op=aX p):OpR X (Yv op) (iC λi j=>.bl (p i j))/\(op=.Lt\/op=.LtE\/op=.Gt\/op=.GtE):=by cases op<;>first|(cases h;first|exact⟨xC,by simp⟩|exact⟨xD,by simp⟩|exact⟨xE,by simp⟩|exact⟨xF,by simp⟩)|cases h
theorem DV{op d:a0Z}(h':d=.Lt\/d=.LtE\/d=.Gt\/d=.GtE):a6J [op,d] [b,c]=false:=by show a0b d c=b3;rcases h' with rfl|rfl|rfl|rfl<;>exact iD _
theorem OM{op d:a0Z}{p q:Int->Int->Bool}(h:lO op=aX p)(h':lO d=aX q)(e:QE X a ma)(g:QE X b mb)(hc:QE X c mc):QE X (.Compare a [op,d] [b,c] pos) (jT (gP p) (gP q) ma mb mc):=
 ⟨dE (Kk (pO h).1 (pO h').1 e.h g.h hc.h (DV (pO (X:=X) h').2)) (DU jC jC)⟩
theorem ON{op d:a0Z}{p q:Int->Int->Bool}(h:lO op=aX p)(h':lO d=aX q)(g:QE X a ma)(i:QE X b mb)(hc:QE X c mc):QT X (.Compare a [op,d] [b,c] pos) (a8 (jT (gP p) (gP q) ma mb mc)):=
 ⟨tQ (Kl (pO h).1 (pO h').1 g.h i.h hc.h (DV (pO (X:=X) h').2)) λe H Q h=>DU jC jC e H _ (CH e H Q h)⟩
end
section
variable{X:Cx}
end
noncomputable def zC:MF:=λds a=>match ds with
 |[.int i,.int j]=>aX (.int (if j<i then j else i),a)|_=>aY
noncomputable def zD:MF:=λds a=>match ds with
 |[.int i,.int j]=>aX (.int (if j>i then j else i),a)|_=>aY
theorem OO{K:WQ}:dR K zC (λxs H Q=>∃i j,xs=[.int i,.int j]/\Q (.int (if j<i then j else i)) H):=by
 intro g H l xs d e h Q R i a k;unfold zC at a;split at a
 ·cases a;cases i with
  |cons i t=>
   cases i;cases t with
   |cons b c=>cases b;cases c;exact⟨_,_,rfl,k g _ H .refl R (.int _)⟩
 ·cases a
theorem OP{K:WQ}:dR K zD (λxs H Q=>∃i j,xs=[.int i,.int j]/\Q (.int (if j>i then j else i)) H):=by
 intro g H l xs d e h Q R i a k;unfold zD at a;split at a
 ·cases a;cases i with
  |cons i t=>
   cases i;cases t with
   |cons b c=>cases b;cases c;exact⟨_,_,rfl,k g _ H .refl R (.int _)⟩
 ·cases a
section
variable{X:Cx}{e:Expr}{te:TE}{lo hi:Option Expr}{st:Expr}{tl th tt:TO}{pos p2:YE}
end
section
variable{X:Cx}{a7J:jw}{σ:St}{H:Hp}{s:WX}{h':Ye}
theorem zE{t':Nat}{ch:List Addr}{a:Addr}{o:HO}(I:Inv X a7J σ H s)(k:∀b u,b∉ch->s.heap.get? b=aX u->h'.get? b=aX u)(i:∀b∈ch,iT X a7J H b)(j:s.heap.objs.size<=a)
  (new:ObjOk X.prog X.w (aM H a o) h' a o):Inv X a7J σ (aM H a o) {s with heap:=h',toks:=t'}:=by
 have d:=I.hok.fresh j;have g:∀b u,H b=aX u->b∉ch:=λb u e z=>by have:=(i b z).1;rw[e]at this;cases this
 refine I.step (g':=s.gens) (d':=s.drawn) (ch:=ch) (λb h=>let⟨K,x,L,y,A,B⟩:=i b h;⟨y,x,A,B⟩) (λb o _ _ hc e _=>k b o hc e) (λb o _ _ hc e _=>⟨o.slots,k b o hc e⟩) (λb J hc e n=>?_)
  (λb o hc e=>⟨o,k b o hc e⟩) (λb l q=>?_) (λb J l q=>?_) (λb M q=>?_) (λm E=>?_) (λb u e=>?_) I.bare
 ·rw[bF (Xd (Xq (W2 e) j))];exact n
 ·rw[bF (fI q d)];exact q
 ·rw[bF (fI q d)];exact q
 ·exact⟨#[],by rw[bF (fI q d),q];simp⟩
 ·obtain⟨o,w,p,G,r⟩:=E;exact⟨o,w,p,k _ o (λz=>(i _ z).2.1 rfl) G,r⟩
 ·by_cases h:b=a
  ·subst h;rw[cQ]at e;cases e;exact new
  ·rw[bF h]at e;refine(I.hok b u e).stay (λc v hc q=>k c v ?_ q) (λc q=>by rw[bF (fI q d)];exact q) λc l q=>by rw[bF (fI q d)];exact q
   rcases hc with z|z
   ·rw[z];exact g b u e
   ·exact g c _ z
theorem DW{t':Nat}{ch:List Addr}(I:Inv X a7J σ H s)(k:∀b u,b∉ch->s.heap.get? b=aX u->h'.get? b=aX u)(d:∀b∈ch,iT X a7J H b):Inv X a7J σ H {s with heap:=h',toks:=t'}:=by
 have a:∀b u,H b=aX u->b∉ch:=λb u e z=>by have:=(d b z).1;rw[e]at this;cases this
 refine I.step (g':=s.gens) (d':=s.drawn) (ch:=ch) (λb x=>let⟨E,j,G,l,p,w⟩:=d b x;⟨l,j,p,w⟩) (λb o _ _ hc e _=>k b o hc e) (λb o _ _ hc e _=>⟨o.slots,k b o hc e⟩) (λb B hc e n=>n)
  (λb o hc e=>⟨o,k b o hc e⟩) (λb g q=>q) (λb B g q=>q) (λb J q=>⟨#[],by rw[q];simp⟩) (λm y=>?_) (λb u e=>?_) I.bare
 ·obtain⟨o,i,h,A,r⟩:=y;exact⟨o,i,h,k _ o (λz=>(d _ z).2.1 rfl) A,r⟩
 ·refine(I.hok b u e).stay (λc v hc q=>k c v ?_ q) (λc q=>q) λc g q=>q;rcases hc with z|z
  ·rw[z];exact a b u e
  ·exact a c _ z
end
noncomputable def zF(K:WQ)(a:Addr):It:=
 ⟨λi H=>∃b x,SqL K H a b/\b[i]?=aX x,λi H x c=>∃p v,x=.ref p/\H p=aY/\c=aM H p (.tup [.int i,v])/\∀b,SqL K H a b->b[i]?=aX v,λi H=>∃b,SqL K H a b/\b.length<=i⟩
theorem OQ{P:Xw}{w:XF}{K:WQ}{es:List Expr}{kx:Nat}{pt:YE}(a e m:Addr)(r:e≠m) :
  Turn Qc P w K (.Tuple es kx pt) (zF K a) [e,m] e (λi h=>∃l,IsEnum h e m i l/\h.IsListIter m a i) where
 mem:=by simp
 obj:=λi h ⟨l,st,j⟩ b n=>by
  have g:b=e\/b=m:=by simpa using n
  rcases g with rfl|rfl
  ·exact⟨_,st,λv z=>by
    have z':X6 _=a2o v:=z;cases z'⟩
  ·obtain⟨o,J,c,d⟩:=j;exact⟨o,J,λv z=>by rw[d]at z;cases z⟩
 keep:=λi h h' ⟨l,st,j⟩ k=>⟨l,k e (by simp) _ st,j.at λo J=>k m (by simp) o J⟩;item:=by
  intro X N hw M hc i G s σ H E I A ⟨l,st,j⟩ R;subst N hw M;obtain⟨xs,x,B,Z⟩:=R;obtain⟨its,rv,p,hz⟩:=I.list B;obtain⟨u,hu,ru⟩:=rv.get Z;refine wpAny_pyNext_enum_item st j p.isList (x:=u) (by simpa using hu) r λh1 ho hit ht hsz hk=>⟨_,rfl,wpAny_letOwnedTupleGo_enum ho λh2 O q=>?_⟩;have y:e<s.heap.objs.size:=W2 st;have T:s.heap.objs.size≠e:=X1 y;have Y:h2.get? s.heap.objs.size=aX {cls:=.type "tuple",data:=.seq #[.int i s.toks,u]}:=(q.2 _ T).trans ht;have Q:H s.heap.objs.size=none:=I.hok.fresh (WY _);refine⟨.ref s.heap.objs.size,aM H s.heap.objs.size (.tup [.int i,x]),?_,rfl,⟨s.heap.objs.size,x,rfl,Q,rfl,λys hy=>by rw[I.list_inj hy B];exact Z⟩,⟨u,O,hit.extBut q.extBut (XI r)⟩,λb n=>?_⟩
  ·refine zE (s:=s) (h':=h2) (t':=s.toks+1) (ch:=[e,m]) I (λb ob n L=>?_) A (WY _) ?_
   ·have g:b≠e/\b≠m:=by simpa using n
    exact(q.2 b g.1).trans (hk b ob g.1 g.2 L)
   ·exact⟨by show(2:Nat)<=W8;decide,[.int i s.toks,u],.cons ⟨_,rfl⟩ (.cons ru .nil),_,Y,rfl,0,rfl,rfl⟩
  ·have g:b=e\/b=m:=by simpa using n
   have hn:=(A b n).1;obtain⟨o,U,_⟩:=j;rw[bF]
   ·exact hn
   ·rcases g with rfl|rfl
    ·exact Xd y
    ·exact Xd (W2 U)
 done:=by
  intro X N hw M hc i G s σ H E I A ⟨l,st,j⟩ R;subst N hw M;obtain⟨xs,B,Z⟩:=R;obtain⟨its,rv,p,hz⟩:=I.list B;have hl:=rv.length;refine wpAny_pyNext_enum_end (I.ok.hd hc) st j p.isList (by simp;omega) λh' L=>⟨rfl,DW (t':=s.toks) (ch:=[e,m]) I (λb o n z=>L b o ?_ z) A⟩;have g:b≠e/\b≠m:=by simpa using n
  exact g.2
 self:=λ_ _ _ _ _ ⟨l,st,_⟩ h=>a6v st h
structure QJT(X:Cx)(e:Expr)(m:MI):Prop where
 h:∀es k p,PI X (.Tuple es k p) e (tMI X.K m)
theorem QJ.t{X:Cx}{e:Expr}{m:MI}(h:QJ X e m):QJT X e m:=⟨λes k p=>h.h _⟩
noncomputable def n8(x:D):gE:=λa i=>(bK a x).map λxs=>(xs[i]?).map λd=>.tup [.int i,d]
noncomputable def pP(a:MA):MI:=λd c=>(a d c).bind λp=>match p.1 with
 |[x]=>(eX p.2 x).map λb=>(n8 x,b.length+1,p.2)|_=>aY
theorem OR{K:WQ}{π:Nat->Addr}{r:Hm}{H:Hp}{v:V}{x:D}{xs:List D}(R:Rp K π H r)(h:IsD K π r.length H v x)(u:eX r x=aX xs):∃a,v=.ref a/\(∃vs,SqL K H a vs)/\Wk K (zF K a) (n8 x) π r.length H:=by
 have hw:bK r x=aX xs:=by
  cases x with
  |rol k=>exact u|loc b=>exact u|_=>cases u
 obtain⟨p,vs,rfl,Q,_⟩:=nZ R h u;refine⟨p,rfl,⟨vs,Q⟩,?_⟩
  -- the list as it stands j
 have j:∀g c l,Ext π r.length H g c.length l->Rp K g l c->∀k,bK c x=aX k->∃m,SqL K l p m/\IsDs K g c.length l m k:=λg c l e n k I=>by
  have U:=h.mono e;have N:eX c x=aX k:=by
   cases x with
   |rol zs=>exact I|loc b=>exact I|_=>cases u
  obtain⟨Z,m,J,o,s⟩:=nZ n U N;cases J;exact⟨m,o,s⟩
 refine⟨λg c l i e n z=>?_,λg c l i d e n z=>?_⟩
 ·obtain⟨k,A,w⟩:=WS.mp z;obtain⟨m,o,s⟩:=j g c l e n k A;have B:k[i]?=none:=by
   cases q:k[i]? with
   |none=>rfl|some d=>rw[q]at w;cases w
  exact⟨m,o,by rw[s.length];exact XU.mp B⟩
 ·obtain⟨k,A,w⟩:=WS.mp z;obtain⟨Y,B,L⟩:=WS.mp w;subst L;obtain⟨m,o,s⟩:=j g c l e n k A;obtain⟨v,G,M⟩:=s.get B;refine⟨⟨m,v,o,G⟩,?_⟩;rintro y X ⟨t,v',rfl,O,rfl,T⟩;have:=T m o;rw[G]at this;cases this;obtain⟨E,R2⟩:=n.fresh (o:=.tup [.int i,v]) O;exact⟨E,R2,.tup (.of cQ) (.cons (.int _) (.cons (M.mono E) .nil))⟩
noncomputable def OS(K:WQ)(c:TA):TI:=λσ H R=>c σ H λvs b=>∃a,vs=[.ref a]/\(∃xs,SqL K b a xs)/\R (zF K a) b
open PyProof.Rows in
theorem OT{X:Cx}{a:Expr}{k:TA}{p pos pt:YE}{es:List Expr}{G:Nat}(w:Gl X "enumerate") (y:X.mg "enumerate"=aY) (r:PA X [a] k)(A:XB [a] X.env=[(b3,eval a X.env)]):PI X (.Tuple es G pt) (.Call (.Name "enumerate" p) [a] [] pos) (OS X.K k):=by
 intro e s l H R I h;refine Call_ (iS I w y Boot.«enumerate» (callWith_type1 (aV (r pos e s l H _ I h) λQ c ⟨T,i,d,L,K⟩=>?_) A rfl));obtain⟨n,rfl,⟨U,z⟩,q⟩:=K;obtain⟨u,rfl,M⟩:=fA L;cases M;obtain⟨E,O,J,N⟩:=d.list z;refine call_enumerate_list J.isList λo j hit B x=>?_;refine a6v j ?_;have m:Inv X e l i {c with heap:=o}:=d.kept (t':=c.toks) x;refine⟨c.heap.objs.size+1,[c.heap.objs.size+1,c.heap.objs.size],_,_,i,rfl,m,OQ n _ _ (Nat.succ_ne_self _),⟨_,j,hit⟩,λb v=>?_,q⟩;have g:b=c.heap.objs.size+1\/b=c.heap.objs.size:=by simpa using v
 rcases g with rfl|rfl
 ·exact d.fpOk (ZH _) (d.hok.fresh (ZH _))
 ·exact d.fpOk (WY _) (d.hok.fresh (WY _))
theorem OU{X:Cx}{a:Expr}{m:MA}{n:Nat}{p pos:YE}(c:Gl X "enumerate") (d:X.mg "enumerate"=aY) (j:QA X [a] m n):QJT X (.Call (.Name "enumerate" p) [a] [] pos) (pP m):=⟨λes L pt a7J s σ H R I hw=>by
 have l:=j.s;rw[XG,WZ]at l;obtain⟨J,K,B,z,M,G,q,E,b,k⟩:=hw;obtain⟨⟨x,g⟩,v,b⟩:=WM.mp b;refine OT c d j.h (fT l.1) a7J s σ H R I ⟨J,K,B,x,g,q,E,v,λh N o u i e=>?_⟩;dsimp only at b;split at b
 ·rename_i x;obtain⟨O,w,b⟩:=WS.mp b;cases b;cases e with
  |cons e A=>cases A;obtain⟨r,rfl,y,W⟩:=OR i e w;exact⟨r,rfl,y,k h o _ u i W⟩
 ·cases b⟩
section
variable{X:Cx}{pos:YE}
theorem uM{tg iter:Expr}{w:MI}{g:MG}{v:MS}{body:List Stmt}(hi:PI X tg iter (tMI X.K w))(G:QG X tg g)(B:QB X body v)(I:a3U (Xv X.prog X.w) X.A X.env X.xe)(hc:X.calm=b4)(K:gD iter=b4) :
  QS X (.For tg iter body [] pos) (bV w g v):=⟨iY (J8 I hc hi G.h B.h (by intro z;cases iter<;>first|rfl|cases K)) (by
 rintro E Q H ⟨N,O,M,u,r,p,R,s,m,k⟩;obtain⟨⟨o,n,l⟩,A,m⟩:=WM.mp m;refine⟨N,O,M,o,n,l,R,s,A,λq x J i y W=>?_⟩;have L:nM X.K E q l.length x u r p:=by
  cases u with
  |nx=>exact λa b e j h c=>k a b e (i.trans j) h c|bk=>exact λa b e j h c=>k a b e (i.trans j) h c|ct=>exact λa b e j h c=>k a b e (i.trans j) h c|rt d=>exact KC.after k i
 exact My W L .refl y (s.mono i) m)⟩
theorem OV{st:Stmt}{m g i:MS}(h1:QS X st g)(l:QS X st i)(h:∀b a r,m b a=aX r->g b a=aX r\/i b a=aX r):QS X st m:=⟨λa7J s σ H D I q=>by
 obtain⟨j,b,a,e,d,c,R,E,n,k⟩:=q;rcases h b a _ n with z|z
 ·exact h1.h a7J s σ H D I ⟨j,b,a,e,d,c,R,E,z,k⟩
 ·exact l.h a7J s σ H D I ⟨j,b,a,e,d,c,R,E,z,k⟩⟩
noncomputable def n9(put:D->D->D->Hm->Option Hm)(o i v:ME):MS:=λa c=>(v a c).bind λp=>(o a p.2).bind λq=>(i a q.2).bind λr=>(put q.1 r.1 p.1 r.2).map λb=>(.nx,a,b)
noncomputable def rF:D->D->D->Hm->Option Hm
 |.loc a,.int i,d,μ=>match μ[a]? with
  |some (.lst xs)=>(iU xs.length i).map λj=>μ.set a (.lst (xs.set j d))|_=>aY
 |_,_,_,_=>aY
noncomputable def rG:D->D->D->Hm->Option Hm
 |.loc a,y,d,μ=>match μ[a]? with
  |some (.dT kvs)=>(c5 y).bind λk=>if kvs.length<W8 then aX (μ.set a (.dT (c9 kvs k d)))else aY|_=>aY
 |_,_,_,_=>aY
noncomputable def pQ:D->D->D->Hm->Option Hm:=λo i d b=>match o with
 |.loc a=>match b[a]? with
  |some (.dT _)=>rG o i d b|_=>rF o i d b
 |_=>aY
noncomputable def dJ:=n9 pQ
theorem DX{K:WQ}{π:Nat->Addr}{n:Nat}{H:Hp}:∀{vs:gw}{ds:List D}(j:Nat){v:V}{d:D},IsDs K π n H vs ds->IsD K π n H v d->IsDs K π n H (vs.set j v) (ds.set j d)
 |_,_,j,_,_,.nil,h=>by simp;exact .nil
 |_,_,0,_,_,.cons _ t,h=>.cons h t|_,_,j+1,_,_,.cons h0 t,h=>.cons h0 (DX j t h)
noncomputable def OW(e ty g:TE):TS:=λD σ H=>g σ H λv a=>e σ a λx b=>ty σ b λy c=>Cb x y v c λd=>D.nx σ d
open PyProof.Rows in
theorem OX{o i a:Expr}{c:YE}{e ty g:TE}(z:PE X o e)(hi:PE X i ty)(B:PE X a g)(A:a1c a (aX (.Subscript o i c)) pos.line X.env=pure b3):PS X (.Assign [.Subscript o i c] a pos) (OW e ty g):=by intro b s d H D I h;refine a4X (aV (B b s d H _ I h) λr Q ⟨v,j,n,M,G⟩=>aV (z b Q d j _ n G) λu R ⟨x,k,p,N,J⟩=>aV (hi b R d k _ p J) λE T ⟨y,l,q,O,K⟩=>?_) A;exact aV (K3 b T d l x y v u E r _ q N O M K) λ_ U ⟨m,w,L⟩=>⟨d,m,w,L⟩
theorem OY{o i e:Expr}{Q O N:ME}{d:YE}(ho:QE X o Q)(hi:QE X i O)(he:QE X e N)(h:kF e=b4):QS X (.Assign [.Subscript o i d] e pos) (n9 rF Q O N):=
 ⟨iY (OX ho.h hi.h he.h (t9 h)) (by
 rintro E σ H ⟨π,G,μ,fl,ρ',μ',R,m,b,k⟩;obtain⟨⟨x,g⟩,Z,b⟩:=WM.mp b;obtain⟨⟨y,l⟩,h2,b⟩:=WM.mp b;obtain⟨⟨z,v⟩,h3,b⟩:=WM.mp b;obtain⟨μ4,c,b⟩:=WS.mp b;cases b;refine⟨π,G,μ,x,g,R,m,Z,λw v1 H1 n U i1=>⟨w,G,g,y,l,U,m.mono n,h2,λA v2 H2 p R2 i2=>⟨A,G,l,z,v,R2,(m.mono n).mono p,h3,λB v3 H3 q I i3=>?_⟩⟩⟩;dsimp only at c;cases y with
 |loc a=>
  cases z with
  |int i=>
   simp only[rF]at c;split at c
   ·rename_i T M;obtain⟨j,h5,h6⟩:=WS.mp c;subst h6;obtain⟨u,K,L⟩:=I.lst _ T M;have s:=i2.mono q;cases s;cases i3;have r:=(WR.mp M).1;have iv:=(i1.mono p).mono q;refine⟨_,u,i,j,rfl,rfl,K,by rw[L.length];exact h5,?_⟩;obtain⟨J,Y⟩:=I.put (c:=.lst (T.set j x)) (o:=.lst (u.set j v1)) r K (.inl ⟨u,rfl⟩) (DX j L iv);exact k B σ _ (((n.trans p).trans q).trans J) Y ((((m.mono n).mono p).mono q).mono J)
   ·cases c
  |_=>simp[rF]at c
 |_=>simp[rF]at c)⟩
theorem OZ{f j k:D->D->D->Hm->Option Hm}{i g e:ME}(h:∀x y z b r,f x y z b=aX r->j x y z b=aX r\/k x y z b=aX r):∀d b r,n9 f i g e d b=aX r->n9 j i g e d b=aX r\/n9 k i g e d b=aX r:=by
 intro d b r a;obtain⟨p,l,a⟩:=WM.mp a;obtain⟨q,m,a⟩:=WM.mp a;obtain⟨t,n,a⟩:=WM.mp a;obtain⟨c,o,a⟩:=WS.mp a;rcases h _ _ _ _ _ o with z|z
 ·exact .inl (WM.mpr ⟨p,l,WM.mpr ⟨q,m,WM.mpr ⟨t,n,WS.mpr ⟨c,z,a⟩⟩⟩⟩)
 ·exact .inr (WM.mpr ⟨p,l,WM.mpr ⟨q,m,WM.mpr ⟨t,n,WS.mpr ⟨c,z,a⟩⟩⟩⟩)
theorem DY{st:Stmt}{i:Nat}:QS X st (aT i bX):=⟨λa7J s σ H D I q=>by
 obtain⟨g,h,e,d,c,b,R,E,a,k⟩:=q;cases a⟩
end
noncomputable def eY{a:Type}(xs:List a)(k:Nat)(d:a):List a:=xs.take k++d::xs.drop k
noncomputable def pR:D->List D->Hm->jk
 |.loc a,[.int i,d],μ=>match μ[a]? with
  |some (.lst xs)=>if 0<=i/\i<2^63/\xs.length<W8 then aX (.non,μ.set a (.lst (eY xs i.toNat d)))else aY|_=>aY
 |_,_,_=>aY
noncomputable def DZ:V->gw->Hp->VK->Prop:=λx vs H Q=>∃l xs i y,x=.ref l/\vs=[.int i,y]/\H l=aX (.lst xs)/\0<=i/\i<2^63/\xs.length<W8/\Q .non (aM H l (.lst (eY xs i.toNat y)))
theorem O0{K:WQ}{π:Nat->Addr}{n:Nat}{H:Hp}{vs:gw}{ds:List D}(h:IsDs K π n H vs ds)(k:Nat){v:V}{d:D}(a:IsD K π n H v d):IsDs K π n H (eY vs k v) (eY ds k d):=
 (h.take k).append (.cons a (h.drop k))
theorem Vals.ins{xs:gw}{us:gq}(h:Vals xs us)(k:Nat){v:V}{u:Value}(r:RelV v u):Vals (eY xs k v) (eY us k u):=(h.take k).append (.cons r (h.drop k))
section
variable{X:Cx}
theorem O1{K:WQ}:gU K pR DZ:=by
 intro w H z x ds d u v y Q R q p a k;unfold pR at a;split at a
 ·split at a
  ·rename_i j i;split at a
   ·rename_i b;cases a;cases p with
    |cons n r=>
     cases n;cases r with
     |cons o s=>cases s;cases q;obtain⟨e,g,h⟩:=R.lst _ j i;have c:=(WR.mp i).1;refine⟨_,e,_,_,rfl,rfl,g,b.1,b.2.1,by rw[h.length];exact b.2.2,?_⟩;obtain⟨m,l⟩:=R.put (c:=.lst (eY j _ _)) (o:=.lst (eY e _ _)) c g (.inl ⟨e,rfl⟩) (O0 h _ o);exact k w _ _ m l .non
   ·cases a
  ·cases a
 ·cases a
theorem O2(its:gq)(k:Nat)(y:Value):(its.toArray.extract 0 (min k its.toArray.size)).push y++its.toArray.extract (min k its.toArray.size)=(eY its k y).toArray:=by
 apply Array.ext';simp only[eY,Array.toList_append,a4U,Array.toList_extract,Xb];simp[List.extract_eq_drop_take];by_cases h:k<=its.length
 ·rw[a6b h];simp;rw[Yk (by simp)]
 ·rw[Nat.min_eq_right (by omega)];simp;rw[Yk (by omega),a4m (by omega)]
theorem O3:iV X "list.insert" DZ:=by
 intro g s G H x B v A Q I m k h;obtain⟨l,E,i,y,rfl,rfl,d,o,j,p,q⟩:=h;cases m;obtain⟨u,b,rfl,⟨t,rfl⟩,c⟩:=k.two;obtain⟨z,a,n,r,w,e⟩:=I.lstM d;refine a2n F.slot_list_insert ⟨_,e,rfl⟩ F.entry_list_insert (F.args_list_insert_3 _ _ _) (AutoSeq1.list_insert_list_int_val_1 l a.toArray n i t b (by
  rw[a7G (by omega) j];decide) (by rw[Xb];omega)) ⟨e,?_⟩
 refine⟨.non,_,I.lset (its':=eY a i.toNat b) d e ?_ (Vals.ins r _ c) ?_,rfl,q⟩
 ·show(a.toArray.extract 0 (if i<0 then(i+((a.toArray.size:Nat):Int)).toNat else min i.toNat a.toArray.size)).push b++a.toArray.extract (if i<0 then(i+((a.toArray.size:Nat):Int)).toNat else min i.toNat a.toArray.size)=_;rw[if_neg (by omega)];exact O2 a i.toNat b
 ·unfold eY;rw[W4,Xy,Ys,a0O];omega
end
section
variable{X:Cx}
end
section
variable{X:Cx}{e o:Expr}{mo:ME}{apos cpos:YE}{es:List Expr}{ms:MA}{n:Nat}
end
noncomputable def gW(is:List Int):List Int:=is.mergeSort λa b=>decide (a<=b)
theorem O4{is ns:List Int}(g:ns.Perm is)(i:ns.Pairwise (·<=·)):ns=gW is:=by
 have d:(gW is).Perm is:=List.mergeSort_perm _ _;have e:(gW is).Pairwise (·<=·):=by have:=List.pairwise_mergeSort (le:=λa b:Int=>decide (a<=b)) (λa b c d e=>by simp only[decide_eq_true_eq]at *;omega) (λa b=>by simp only[Y3,decide_eq_true_eq];omega) is;exact this.imp λh=>by simpa using h
 exact a0d (le:=λa b:Int=>a<=b) (λa b _ _ d e=>by omega) i e (g.trans d.symm)
noncomputable def oA:MF:=λds a=>match ds with
 |[x]=>(eX a x).bind λc=>(nU c).bind λb=>if b.length<64 then aX (.loc a.length,a++[.lst ((gW b).map D.int)])else aY|_=>aY
noncomputable def zG(K:WQ):gw->Hp->VK->Prop:=λxs H Q=>∃(p:Addr)(is:List Int),xs=[.ref p]/\SqL K H p (is.map V.int)/\is.length<64/\∀l,H l=aY->Q (.ref l) (aM H l (.lst ((gW is).map V.int)))
theorem O5{K:WQ}:dR K oA (zG K):=by
 intro v H u r d m n Q R i a k;unfold oA at a;split at a
 ·obtain⟨s,e,a⟩:=WM.mp a;obtain⟨b,g,a⟩:=WM.mp a;split at a
  ·rename_i h;cases a;cases i with
   |cons i t=>cases t;obtain⟨p,o,rfl,q,hd⟩:=nZ R i e;rw[yZ g]at hd;have:=ints_of' hd;subst this;refine⟨p,b,rfl,q,h,λl j=>?_⟩;obtain⟨c,R2,_⟩:=R.alloc (c:=.lst ((gW b).map D.int)) (o:=.lst ((gW b).map V.int)) j (uK _);exact k _ _ _ c R2 mM
  ·cases a
 ·cases a
theorem call_sortI{X:Cx}:CallR X (.builtin "sorted") (zG X.K):=by
 intro q s N H M L Q I r h;obtain⟨p,g,rfl,A,w,k⟩:=h;obtain⟨u,rfl,E⟩:=fA r;cases E;obtain⟨i,m,B,J⟩:=I.list A;have a:=m.length;rw[WO]at a;refine a7d B.isList (tI m) (by omega) λc j n l o=>?_;obtain⟨e,x⟩:=a2L s.heap i c;have y:H (s.heap.objs.size+1)=none:=I.hok.fresh (ZH _);have v:j=gW g:=O4 l o;subst v;refine⟨.ref (s.heap.objs.size+1),_,I.laid (t':=s.toks) (a:=s.heap.objs.size+1) (o:=.lst ((gW g).map V.int)) (λb K z=>a2B z) (ZH _) ?_,rfl,k _ y⟩;have d:(gW g).length<=W8:=by have:=l.length_eq;have G:=Xh;omega
 refine⟨by rw[WO];exact d,c.toList,e,xO n,?_⟩;rw[x]
noncomputable def lP:MF:=λds a=>match oA ds a with
 |some r=>aX r|none=>rB ds a
theorem O6{K:WQ}:dR K lP (λxs H Q=>zG K xs H Q\/yY K xs H Q):=by
 intro g H e xs d a c Q R i b k;unfold lP at b;split at b
 ·rename_i r h;cases b;exact .inl (O5 g H e xs d a c Q R i h k)
 ·exact .inr (OH g H e xs d a c Q R i b k)
section
variable{prog:Xw}{w:XF}{A:XC}{E:Value->WX->Prop}{s:WX}{r:Addr}{Q:Bool->WX->Prop}
theorem O7:a6m (.type "list_reverseiterator") "__len__"=pure none:=by rw[a6X,a5x];kernel_rfl
theorem O8:a6m (.type "list_reverseiterator") "__length_hint__"=pure (aX (.builtin "list_reverseiterator.__length_hint__")):=by rw[a6X,a5x];kernel_rfl
theorem O9(b:s.TypeIs (.ref r) "list_reverseiterator") (h:Q b3 s):Xk (Xv prog w) A (a2y (.ref r)) Q E s:=by unfold a2y;refine WN (a2p b O7 ?_);dsimp only;refine Z8 (λa=>absurd a (by decide +kernel)) (λ_=>?_);refine Z8 (λa=>absurd a (by decide)) (λ_=>?_);refine WN (a2p b O8 ?_);generalize bL:("list_reverseiterator.__length_hint__":String)=id0;wp_delta;rw[show splitId id0=aX ("list_reverseiterator","__length_hint__")from by subst bL;decide +kernel];subst bL;refine WN (a0q (T:="list_reverseiterator") (b:=b4) b (by rw[isSubtype_type];kernel_rfl) ?_);refine Z8 (λa=>absurd a (by decide)) (λ_=>?_);refine Z8 (λ_=>?_) (λa=>absurd (by decide +kernel) a);refine Z8 (λa=>absurd a (by decide +kernel)) (λ_=>?_);exact WV h
end
section
variable{prog:Xw}{w:XF}{A:XC}{E:Value->WX->Prop}{s:WX}{p a:Addr}{its:Array Value}
theorem Pa{R:a3Q->WX->Prop}(U:A.handled=aY)(hit:s.heap.IsRevIter p a ((its.size:Int)-1))(Y:s.heap.IsList a its)(G:a≠p)(S:Addr)(n:S≠p)(y:S≠a)(res:Value)(j:Nat)(T:s.heap.get? S=aX {cls:=.type "list",data:=.seq #[] j})
  (Q:∀u tk c m,(∀b o,b≠S->b≠p->s.heap.get? b=aX o->u.get? b=aX o)->u.get? S=aX {cls:=.type "list",dict:=aY,data:=.seq c m,slots:=#[]}->ItemsOf (λi v=>its[its.size-1-i]?=aX v) c its.size->R (.ok (.ret res)) {s with heap:=u,toks:=tk}) (Z:its.size<=W8) :
  Xk (Xv prog w) A.in1 (YQ (.ref S) (.ref p) res)
   (λfin l=>match fin with|.done f=>R (.ok f) l|.again m=>m.quiet=b4/\a0B (Xv prog w) A m R l) (λe l=>R (.error e) l) s:=by
 have z:S∉[p,a]:=by simp only[Xr,ZO,or_false,not_or];exact⟨n,y⟩
 have W:=Walks.listRev (prog:=prog) (w:=w) (A:=A.in1) U p a G its;have key:∀(h:Ye)(d tk:Nat),h.IsRevIter p a ((its.size:Int)-1)->h.IsList a its->(∀b o,b≠S->s.heap.get? b=aX o->h.get? b=aX o)->
   h.get? S=aX {cls:=.type "list",data:=.seq #[] d}->a0B (Xv prog w) A (.builtin "list.extend.loop" ⟨[.ref S,.ref p,res],[]⟩) R {s with heap:=h,toks:=tk}:=by
  intro h d tk I r X k;refine codeAny_extend_loopS W.toS Z S z res its.size 0 _ #[] d rfl (XJ _) ⟨XJ _,by simpa using I,r⟩ k (ItemsOf.nil _) λl c m K x q=>?_;rw[Moved.eq_with K];refine Q l.heap l.toks c m (λb o J H e=>K.heap b o (λg=>?_) (X b o J e)) x q;rcases Xr.mp g with L|g
  ·exact J L
  ·exact H (Xe.mp g)
 unfold YQ;refine WN (wpAny_typeOf (T:="list_reverseiterator") hit.typeIs ?_);have M:Z5 (.ref S) (.ref p)=false:=by simp[Z5,n]
 have N:(Xl "list_reverseiterator"==Xl "list")=false:=by decide +kernel
 have O:(Xl "list_reverseiterator"==Xl "tuple")=false:=by decide +kernel
 simp only[M,N,O,a2z,Xp,if_false];refine WN (wpAny_pyIter_revIter hit ?_);refine WN (X4 (O9 hit.typeIs ?_));refine Z8 (λB=>absurd B (by decide +kernel)) (λ_=>WV ⟨Zx PySem.F.plain_extend_loop _,?_⟩);exact key _ j s.toks hit Y (λb o _ e=>e) T
theorem Pb{R:a3Q->WX->Prop}(I:A.handled=aY)(hit:s.heap.IsRevIter p a ((its.size:Int)-1))(K:s.heap.IsList a its)(y:a≠p)(S:Addr)(l:S≠p)(k:S≠a)(r:s.heap.get? S=aX {cls:=.type "list",data:=.seq #[]})
  (H:∀j G c h,(∀b o,b≠S->b≠p->s.heap.get? b=aX o->j.get? b=aX o)->j.get? S=aX {cls:=.type "list",dict:=aY,data:=.seq c h,slots:=#[]}->ItemsOf (λi v=>its[its.size-1-i]?=aX v) c its.size->R (.ok (.ret .none)) {s with heap:=j,toks:=G}) (L:its.size<=W8) :
  Xk (Xv prog w) A.in1 (Builtin.«list.__init__» ⟨[.ref S,.ref p],[]⟩)
   (λfin q=>match fin with|.done f=>R (.ok f) q|.again h=>h.quiet=b4/\a0B (Xv prog w) A h R q) (λe q=>R (.error e) q) s:=by
 show Xk _ _ (do let B <- a3f (.ref S);a7x (.ref S) (λ_=>#[]);letGo B.toList.reverse;YQ (.ref S) (.ref p) .none) _ _ s;refine WN ?_;unfold a3f;refine WN (a2E r rfl (WV ?_));show Xk _ _ (a3L S (λ_=>#[]) >>= λ_=>letGo (#[]:Array Value).toList.reverse >>= λ_=>YQ (.ref S) (.ref p) .none) _ _ s;refine WN (Z6 r rfl ?_);have d:=Yq (Yi (λ_=>(#[]:Array Value))) r rfl;have g:∀b o,b≠S->s.heap.get? b=aX o->(s.heap.update S (Yi (λ_=>(#[]:Array Value)))).get? b=aX o:=
  λb o n e=>(Yl _ _ (XI n)).trans e
 refine WN (a1h ?_);refine Pa I (hit.at λo e=>g p o (XI l) e) (let⟨o,M,x⟩:=K;⟨o,g a o (XI k) M,x⟩) y S l k .none _ d (λj G c h J u m=>?_) L;exact H j G c h (λb o n z e=>J b o n z (g b o n e)) u m
theorem Pc{Q:Value->WX->Prop}(H:A.handled=aY)(hit:s.heap.IsRevIter p a ((its.size:Int)-1))(y:s.heap.IsList a its)(q:a≠p)(J:its.size<=W8)
  (z:∀g r c m,(∀b o,b≠p->s.heap.get? b=aX o->g.get? b=aX o)->g.get? s.heap.objs.size=aX {cls:=.type "list",dict:=aY,data:=.seq c m,slots:=#[]}->ItemsOf (λi v=>its[its.size-1-i]?=aX v) c its.size->Q (.ref s.heap.objs.size) {s with heap:=g,toks:=r}) :
  Xk (Xv prog w) A (call (.type "list") [.ref p]) Q E s:=by
 refine callType_codes (Q₁:=λl d=>l=.ref s.heap.objs.size/\d={s with heap:=s.heap.push {cls:=.type "list",data:=.seq #[]}}) PySem.F.called_list (PySem.F.typeCall_list_1 _) PySem.F.entry_list_init
  (code_list_new _ ⟨rfl,rfl⟩) λl d k=>?_
 obtain⟨rfl,rfl⟩:=k;have u:(s.heap.push {cls:=.type "list",data:=.seq #[]}).get? s.heap.objs.size=aX {cls:=.type "list",data:=.seq #[]}:=W9 _ rfl;have K:p<s.heap.objs.size:=let⟨o,j,_⟩:=hit;W2 j;have B:a<s.heap.objs.size:=let⟨o,j,_⟩:=y;W2 j;refine⟨⟨_,u,rfl⟩,PySem.F.args_list_init_2 _ _,Pb (A:=A.in1) H (hit.at λo e=>WW _ e) (let⟨o,j,x⟩:=y;⟨o,WW _ j,x⟩) q _ (X1 K) (X1 B) u (λg r c m I n h=>?_) J⟩;exact⟨rfl,z g r c m (λb o G e=>I b o (Xd (W2 e)) G (WW _ e)) n h⟩
end
noncomputable def D0(K:WQ):gw->Hp->VK->Prop:=λxs H Q=>∃(p:Addr)(a:gw),xs=[.ref p]/\SqL K H p a/\∀l,H l=aY->Q (.ref l) (aM H l (.lst a.reverse))
theorem D1:∀{a:gw}{its:gq},Vals a its->Vals a.reverse its.reverse
 |_,_,.nil=>.nil|_,_,.cons h t=>by rw[Z3,Z3];exact(D1 t).append (.cons h .nil)
theorem Pd{X:Cx}{e:Expr}{t:TA}{p G pos d:YE}(hc:X.calm=b4)(N:Gl X "list") (O:X.mg "list"=aY) (r:Gl X "reversed") (w:X.mg "reversed"=aY) (M:PA X [e] t)(T:XB [e] X.env=(b3,eval e X.env)::XB [] X.env) :
  PE X (.Call (.Name "list" p) [.Call (.Name "reversed" G) [e] [] d] [] pos) (tH (D0 X.K) t):=by
 intro m s σ H Q I h;refine YX (iS I N O a0H ?_ (by decide) (by decide));refine Yz ?_ rfl rfl;show Xk _ _ (spliced ((b3,eval (.Call (.Name "reversed" G) [e] [] d) X.env)::ZI pos (XB [] X.env))) _ _ s;refine a1l (YX (iS I r w a5i ?_ (by decide) (by decide)));refine Yz (aV (M d m s σ H _ I h) λus j ⟨vs,H1,l,r1,q1⟩=>?_) T rfl;obtain⟨q,ys,rfl,R,k⟩:=q1;obtain⟨u,rfl,ru⟩:=fA r1;cases ru;obtain⟨a,J,Z,U⟩:=l.list R;have E:=J.length;have v:=Z.isList;have z:q<j.heap.objs.size:=let⟨o,y,_⟩:=v;W2 y;refine call_reversed_list v ?_;refine a1z ?_;refine Pc (l.ok.hd hc) (p:=j.heap.objs.size) (a:=q) (its:=a.toArray) ⟨_,W9 _ rfl,rfl,rfl⟩ (let⟨o,y,x⟩:=v;⟨o,WW _ y,x⟩) (Xd z) (by simp only[Xb]<;>omega) λh' tk c K Y B g=>?_;have n:c.toList=a.reverse:=by
  refine a1D λi=>?_;have hn:c.size=a.length:=by simpa using g.1
  by_cases hi:i<a.length
  ·have L:=g.2 i c[i] (a1w (by omega));rw[X2,a1w (by omega),<- L,a4r hi,Xb,List.getElem?_toArray]
  ·rw[YD (by rw[Zk];omega),YD (by rw[a1g];omega)]
 have A:(j.heap.push (revObj q ((a.toArray.size:Int)-1))).objs.size=j.heap.objs.size+1:=by simp[Heap.push]
 rw[A]at B ⊢;refine⟨.ref (j.heap.objs.size+1),_,l.laid (t':=tk) (a:=j.heap.objs.size+1) (o:=.lst ys.reverse) (λb o e=>Y b o (Xd (W2 e)) (WW _ e)) (by omega) ⟨by rw[a1g];exact U,a.reverse,K,D1 J,by rw[<- n];simpa using B⟩,rfl,k _ (l.hok.fresh (by omega))⟩
noncomputable def mP:MF:=λds b=>match ds with
 |[.loc a]=>match b[a]? with
  |some (.lst xs)=>aX (.loc b.length,b++[.lst xs.reverse])|_=>aY
 |_=>aY
theorem Pe{K:WQ}:dR K mP (D0 K):=by
 intro s H r q d o p Q R i b k;unfold mP at b;split at b
 ·rename_i a;split at b
  ·rename_i e n;cases b;cases i with
   |cons i t=>cases t;cases i;obtain⟨c,h,j⟩:=R.lst a e n;refine⟨_,c,rfl,.of h,λl m=>?_⟩;obtain⟨g,R2,_⟩:=R.alloc (c:=.lst e.reverse) (o:=.lst c.reverse) m (Dw j);exact k _ _ _ g R2 mM
  ·cases b
 ·cases b
theorem Pf{X:Cx}{e:Expr}{j:MA}{n:Nat}{p k pos a:YE}(hc:X.calm=b4)(d:X.mg "list"=aY) (g:X.mg "reversed"=aY) (h:QA X [e] j n)(b:Gl X "list") (c:Gl X "reversed") :
  QE X (.Call (.Name "list" p) [.Call (.Name "reversed" k) [e] [] a] [] pos) (aI mP j):=by
 have i:=h.s;rw[XG,WZ]at i;exact⟨dE (Pd hc b d c g h.h (fT i.1)) (xR Pe)⟩
noncomputable def zH:MF:=zD
noncomputable def zI:MF:=zC
noncomputable abbrev bR:=List (List Int×Addr×V)
noncomputable def b9(ps:bR)(ws:gq):List (List Int×Addr×Value):=a1W (λp w=>(p.1,p.2.1,w)) ps ws
theorem uN{P:Xw}{w:XF}:∀(ps:bR)(ws:gq),a1W tP ps ws=(b9 ps ws).map (a6n (a0r (a0A P w)))
 |[],_=>by simp[b9]
 |p::ps,[]=>by simp[b9]
 |p::ps,u::ws=>by have a:=uN (P:=P) (w:=w) ps ws;unfold b9 at a ⊢;rw[XX,XX,Xa,a];rfl
theorem oB:∀{ps:bR}{ws:gq},Vals (ps.map (·.2.2)) ws->(b9 ps ws).map (·.1)=ps.map (·.1)
 |[],_,_=>by simp[b9]
 |p::ps,_,.cons r t=>by have a:=oB (ps:=ps) t;unfold b9 at a ⊢;rw[XX,Xa,Xa,a]
theorem D2:∀{ps:bR}{ws:gq}{x:List Int×Addr×Value},x∈b9 ps ws->∃p∈ps,p.1=x.1/\p.2.1=x.2.1
 |[],_,x,h=>by simp[b9]at h
 |p::ps,[],x,h=>by simp[b9]at h
 |p::ps,u::ws,x,h=>by
  unfold b9 at h;rw[XX]at h;rcases Xr.mp h with e|h
  ·subst e;exact⟨p,Xf ..,rfl,rfl⟩
  ·obtain⟨q,a,e⟩:=D2 (ps:=ps) (ws:=ws) h;exact⟨q,Xc _ a,e⟩
noncomputable def eK(ps:bR)(k:List Int):Option V:=(ps.find? λp=>decide (p.1=k)).map (·.2.2)
noncomputable def iH(ps:bR)(k:List Int)(b:Addr)(v:V):bR:=if(eK ps k).isSome then ps.map (λp=>if p.1=k then(p.1,p.2.1,v)else p)else ps++[(k,b,v)]
theorem oC:∀{ps:bR}{ws:gq},Vals (ps.map (·.2.2)) ws->∀k,RelO (eK ps k) ((a2K (b9 ps ws) k).map (·.2))
 |[],_,.nil,k=>by simp[eK,b9,a2K];exact a0s
 |p::ps,_,.cons r t,k=>by
  have a:=oC (ps:=ps) t k;unfold eK a2K b9 at a ⊢;rw[XX,ZA,ZA];by_cases e:p.1=k
  ·simp only[e,decide_true];exact r
  ·simp only[e,decide_false];exact a
theorem zJ(ps:bR)(k:List Int)(b:Addr)(v:V):(iH ps k b v).length<=ps.length+1:=by unfold iH;split<;>simp
theorem D3{k:List Int}{v:V}{u:Value}(d:RelV v u):∀{ps:bR}{ws:gq},Vals (ps.map (·.2.2)) ws->
  ∃a,Vals ((ps.map λp=>if p.1=k then(p.1,p.2.1,v)else p).map (·.2.2)) a/\(b9 ps ws).map (putAt k u)=b9 (ps.map λp=>if p.1=k then(p.1,p.2.1,v)else p) a
 |[],_,.nil=>⟨[],.nil,by simp[b9]⟩|p::ps,_,.cons (b:=w) r t=>by
  obtain⟨a,c,b⟩:=D3 d (ps:=ps) t;by_cases e:p.1=k
  ·refine⟨u::a,?_,?_⟩
   ·rw[Xa,Xa,if_pos e];exact .cons d c
   ·unfold b9 at b ⊢;rw[XX,Xa,b,Xa,if_pos e,XX];unfold putAt;rw[if_pos e]
  ·refine⟨w::a,?_,?_⟩
   ·rw[Xa,Xa,if_neg e];exact .cons r c
   ·unfold b9 at b ⊢;rw[XX,Xa,b,Xa,if_neg e,XX];unfold putAt;rw[if_neg e]
theorem D4{k:List Int}{b:Addr}{v:V}{u:Value}:∀{ps:bR}{ws:gq},Vals (ps.map (·.2.2)) ws->b9 ps ws++[(k,b,u)]=b9 (ps++[(k,b,v)]) (ws++[u])
 |[],_,.nil=>by simp[b9]
 |p::ps,_,.cons r t=>by have a:=D4 (k:=k) (b:=b) (v:=v) (u:=u) (ps:=ps) t;unfold b9 at a ⊢;rw[XX,Y9,a,Y9,Y9,XX]
theorem zK{ps:bR}{ws:gq}(r:Vals (ps.map (·.2.2)) ws)(k:List Int)(b:Addr){v:V}{u:Value}(c:RelV v u) :
  ∃a,Vals ((iH ps k b v).map (·.2.2)) a/\a6x (b9 ps ws) k b u=b9 (iH ps k b v) a:=by
 have e:=(oC r k).isSome_eq;rw[a1s]at e;unfold iH a6x;rw[e];by_cases h:(a2K (b9 ps ws) k).isSome=b4
 ·rw[if_pos h,if_pos h];exact D3 c r
 ·rw[if_neg h,if_neg h];refine⟨ws++[u],?_,D4 r⟩;rw[Xj];exact a6r r c
section
variable{X:Cx}{a7J:jw}{σ:St}{H:Hp}{s:WX}{a:Addr}{ps:bR}
noncomputable def eM(K:WQ)(H:Hp)(ps:bR):Prop:=∀p∈ps,SqT K H p.2.1 (p.1.map V.int)
theorem kI(I:Inv X a7J σ H s)(e:Rd H a (aU a ps))(n:eM X.K H ps):(a==YG)=b3/\ps.length<=W8 /\
  ∃b,Vals (ps.map (·.2.2)) b/\s.heap.DictOfH (a0r (a0A X.prog X.w)) a (b9 ps b):=by
 obtain⟨⟨b,r,v,q,o,h,g,i,j,k,l,m⟩,_⟩:=(show ObjOk X.prog X.w H s.heap a (aU a ps)from e.ok I.hok);refine⟨v,q,b,r,o,h,g,i,j,k,by rw[l];exact uN ps b,λx w=>?_,by rw[oB r];exact m⟩;obtain⟨p,u,c,d⟩:=D2 w;rw[<- c,<- d];exact kG I (n p u)
theorem uO{P:Xw}{w:XF}{m:Hp}{h':Ye}{ws:gq}(l:(a==YG)=b3)(k:ps.length<=W8)(r:Vals (ps.map (·.2.2)) ws)(d:h'.DictOfH (a0r (a0A P w)) a (b9 ps ws)):ObjOk P w m h' a (aU a ps):=by obtain⟨o,e,c,b,g,h,i,_,j⟩:=d;refine⟨⟨ws,r,l,k,o,e,c,b,g,h,by rw[i,uN (P:=P) (w:=w)],by rw[<- oB r];exact j⟩,⟨o,b⟩,?_⟩;rintro p q ⟨ws,r,l,k,o,e,c,b,g,h,i,j⟩ n;exact⟨ws,r,l,k,o,e,c,n o b,g,h,i,j⟩
theorem Pg(I:Inv X a7J σ H s)(e:Rd H a (aU a ps))(b:eM X.K H ps):s.TypeIs (.ref a) "dict":=by obtain⟨_,_,c,_,d⟩:=kI I e b;exact d.typeIs
theorem pS{A:XC}(b:A.units+1<YL):(a0r (a0A X.prog X.w)).room A.in1:=by show A.in1.units<YL;rw[oZ];omega
variable{A:XC}{E:Value->WX->Prop}{b:Addr}{k:List Int}{v:V}
theorem Ph{Q:Value->WX->Prop}(o:A.units+1<YL)(I:Inv X a7J σ H s)(e:Rd H a (aU a ps))(m:eM X.K H ps)(l:SqT X.K H b (k.map V.int))(q:eK ps k=aX v)
  (h:∀c j,Inv X a7J σ H j->RelV v c->Q c j):Xk (Xv X.prog X.w) A (a5d (.ref a) (.ref b)) Q E s:=by
 obtain⟨x,w,u,r,d⟩:=kI I e m;obtain⟨c,hw,i⟩:=RelO.some_of (v:=v) (o:=(a2K (b9 ps u) k).map (·.2)) (by rw[<- q];exact oC r k);obtain⟨p,n,g⟩:=WS.mp hw;refine wpAny_getItem_heap (pS o) (kG I l) d n ?_;rw[g];exact h c _ (I.tok _) i
theorem Pj{Q:Value->WX->Prop}(l:A.units+1<YL)(I:Inv X a7J σ H s)(e:Rd H a (aU a ps))(i:eM X.K H ps)(g:SqT X.K H b (k.map V.int))
  (h:∀c,Inv X a7J σ H c->Q (.bool (eK ps k).isSome) c):Xk (Xv X.prog X.w) A (Yv .In (.ref b) (.ref a)) Q E s:=by
 obtain⟨j,m,n,r,d⟩:=kI I e i;refine wpAny_in_heap (pS l) (kG I g) j d ?_;have q:=(oC r k).isSome_eq;rw[a1s]at q;rw[<- q];exact h _ (I.tok _)
theorem Pk{Q:Value->WX->Prop}(l:A.units+1<YL)(I:Inv X a7J σ H s)(e:Rd H a (aU a ps))(i:eM X.K H ps)(g:SqT X.K H b (k.map V.int))
  (h:∀c,Inv X a7J σ H c->Q (.bool (!(eK ps k).isSome)) c):Xk (Xv X.prog X.w) A (Yv .NotIn (.ref b) (.ref a)) Q E s:=by
 obtain⟨j,m,n,r,d⟩:=kI I e i;refine a7c (pS l) (kG I g) j d ?_;have q:=(oC r k).isSome_eq;rw[a1s]at q;rw[<- q];exact h _ (I.tok _)
theorem Pl{Q:Unit->WX->Prop}{u:Value}(x:A.units+1<YL)(I:Inv X a7J σ H s)(e:H a=aX (aU a ps))(o:eM X.K H ps)(m:SqT X.K H b (k.map V.int))(hz:ps.length<W8)(B:RelV v u)
  (h:∀i,Inv X a7J σ (aM H a (aU a (iH ps k b v))) i->Q () i):Xk (Xv X.prog X.w) A (setItem (.ref a) (.ref b) u) Q E s:=by
 obtain⟨w,K,G,r,d⟩:=kI I (.of e) o;have y:(b9 ps G).length<=W8:=by have:=congrArg X0 (oB r);rw[WO,WO]at this;omega
 refine wpAny_setItem_heap (hsz:=y) (pS x) (kG I m) d λl c g=>h _ ?_;obtain⟨J,z,j⟩:=zK r k b B;rw[j]at c;have n:∃q,l.get? a=aX q:=let⟨q,_,_,p,_⟩:=c;⟨q,p⟩;exact xK I (by rw[e];exact a0s) g n (uO w (by have:=zJ ps k b v;omega) z c)
end
noncomputable def IsTs(K:WQ)(π:Nat->Addr)(n:Nat)(H:Hp):bR->jx->Prop:=a1M λp q=>p.1=q.1/\SqT K H p.2.1 (p.1.map V.int)/\IsD K π n H p.2.2 q.2
section
variable{K:WQ}{π:Nat->Addr}{n:Nat}{H:Hp}{μ:Hm}
theorem Pm{b:Addr}{k:List Int}(h:IsD K π n H (.ref b) (.tup (k.map D.int))):SqT K H b (k.map V.int):=by
 cases h with
 |tup q t=>rw[ints_of' t]at q;exact q
theorem IsTs.of:∀{ps:bR}{kvs:jx},ps.map (·.1)=kvs.map (·.1)->IsDs K π n H (ps.map λp=>V.ref p.2.1) (kvs.map λk=>D.tup (k.1.map D.int))->IsDs K π n H (ps.map (·.2.2)) (kvs.map (·.2))->IsTs K π n H ps kvs
 |[],[],_,_,_=>.nil|[],_::_,h,_,_=>by cases h
 |_::_,[],h,_,_=>by cases h
 |p::ps,q::kvs,h,h2,h3=>by
  cases h2 with
  |cons a b=>
   cases h3 with
   |cons c d=>rw[Xa,Xa,List.cons.injEq]at h;refine .cons ⟨h.1,?_,c⟩ (IsTs.of h.2 b d);rw[h.1];exact Pm a
theorem IsTs.keys:∀{ps:bR}{kvs:jx},IsTs K π n H ps kvs->eM K H ps
 |_,_,.nil=>λp a=>nomatch a|_,_,.cons h t=>λp a=>by
  rcases Xr.mp a with e|a
  ·subst e;exact h.2.1
  ·exact IsTs.keys t p a
theorem IsTs.to:∀{ps:bR}{kvs:jx},IsTs K π n H ps kvs->ps.map (·.1)=kvs.map (·.1)/\IsDs K π n H (ps.map λp=>V.ref p.2.1) (kvs.map λk=>D.tup (k.1.map D.int))/\IsDs K π n H (ps.map (·.2.2)) (kvs.map (·.2))
 |_,_,.nil=>⟨rfl,.nil,.nil⟩|_,_,.cons (a:=p) (b:=q) h t=>by obtain⟨a,b,c⟩:=IsTs.to t;refine⟨by rw[Xa,Xa,h.1,a],.cons ?_ b,.cons h.2.2 c⟩;show IsD K π n H (.ref p.2.1) (.tup (q.1.map D.int));rw[<- h.1];exact .tup h.2.1 (uK p.1)
theorem IsTs.val(k:List Int):∀{ps:bR}{kvs:jx},IsTs K π n H ps kvs->(eK ps k=aY/\bS kvs k=aY)\/∃v d,eK ps k=aX v/\bS kvs k=aX d/\IsD K π n H v d
 |_,_,.nil=>.inl ⟨rfl,rfl⟩|_,_,.cons (a:=p) (b:=q) h t=>by
  have a:=IsTs.val k t;unfold eK bS at a ⊢;rw[ZA,ZA,<- h.1];by_cases e:p.1=k
  ·simp only[e,decide_true];exact .inr ⟨_,_,rfl,rfl,h.2.2⟩
  ·simp only[e,decide_false];exact a
theorem IsTs.put{ps:bR}{kvs:jx}(h:IsTs K π n H ps kvs)(k:List Int){b:Addr}{v:V}{d:D}(j:SqT K H b (k.map V.int))(i:IsD K π n H v d):IsTs K π n H (iH ps k b v) (c9 kvs k d):=by
 have e:(eK ps k).isSome=(bS kvs k).isSome:=by rcases h.val k with⟨c,g⟩|⟨v,d,c,g,_⟩<;>rw[c,g]<;>rfl
 have a:∀{ps:bR}{kvs:jx},IsTs K π n H ps kvs->IsTs K π n H (ps.map λp=>if p.1=k then(p.1,p.2.1,v)else p) (kvs.map λp=>if p.1=k then(p.1,d)else p):=by
  intro ps kvs h;unfold IsTs at h;induction h with
  |nil=>exact .nil|@cons p q ps m h t l=>
   rw[Xa,Xa];refine .cons ?_ l;by_cases z:p.1=k
   ·rw[if_pos z,if_pos (h.1.symm.trans z)];exact⟨h.1,h.2.1,i⟩
   ·rw[if_neg z,if_neg λy=>z (h.1.trans y)];exact h
 unfold iH c9;rw[e];split
 ·exact a h
 ·exact a6r h ⟨rfl,j,i⟩
theorem gZ{a:Nat}{kvs:jx}(R:Rp K π H μ)(h:μ[a]?=aX (.dT kvs)):∃ps,H (π a)=aX (aU (π a) ps)/\IsTs K π μ.length H ps kvs:=by obtain⟨ps,b,c,d,e⟩:=R.dT a kvs h;exact⟨ps,b,.of c d e⟩
theorem rH{a:Nat}{kvs:jx}(R:Rp K π H μ)(h:μ[a]?=aX (.dF kvs)):∃b ps,H (π a)=aX (.frz b (aU (π a) ps))/\IsTs K π μ.length H ps kvs:=by obtain⟨b,ps,c,d,e,g⟩:=R.dF a kvs h;exact⟨b,ps,c,.of d e g⟩
theorem kJ{v:V}{x:D}{k:List Int}(h:IsD K π n H v x)(e:c5 x=aX k):∃b,v=.ref b/\SqT K H b (k.map V.int):=by
 have:=DH e;subst this;cases h with
 |tup q t=>rw[ints_of' t]at q;exact⟨_,rfl,q⟩
end
noncomputable def fJ:ME:=λ_ a=>aX (.loc a.length,a++[.dT []])
section
variable{X:Cx}{pos:YE}
theorem D5{P:Xw}{w:XF}{H:Hp}(h:Ye)(a:YG<h.objs.size):ObjOk P w H (h.push {cls:=.type "dict",data:=.dict #[]}) h.objs.size (aU h.objs.size []):=
 uO (ws:=[]) (beq_eq_false_iff_ne.mpr (XI (Xd a))) (XJ _) .nil (a7w h)
noncomputable def Pn:TE:=λ_ H Q=>∀p,H p=aY->Q (.ref p) (aM H p (aU p []))
theorem Po:PE X (.Dict [] [] pos) Pn:=λa7J s σ H Q I h=>wpAny_Dict_empty ⟨.ref s.heap.objs.size,_,I.laid (a:=s.heap.objs.size) (o:=aU s.heap.objs.size []) (t':=s.toks) (λ_ _ q=>WW _ q) (WY _) (D5 s.heap I.big),rfl,h _ (I.hok.fresh (WY _))⟩
theorem Pp:QE X (.Dict [] [] pos) fJ:=⟨dE Po (by
 rintro m H Q ⟨j,l,i,d,g,R,E,c,k⟩ p e;cases c;obtain⟨b,a,h⟩:=R.alloc (c:=.dT []) (o:=aU p []) e ⟨[],rfl,rfl,.nil,.nil⟩;exact k _ _ _ b a mM)⟩
end
noncomputable def rJ:D->D->Hm->jk
 |.loc a,y,μ=>match μ[a]? with
  |some (.dT kvs)=>(c5 y).bind λk=>(bS kvs k).map λd=>(d,μ)|some (.dF kvs)=>(c5 y).bind λk=>(bS kvs k).map λd=>(d,μ)|_=>aY
 |_,_,_=>aY
section
variable{X:Cx}{a b e:Expr}{ma mb me:ME}{pos tpos:YE}{td ty tv:TE}
noncomputable def D6(K:WQ):R2:=λx y H Q=>∃a b ps k v,x=.ref a/\y=.ref b/\Rd H a (aU a ps)/\eM K H ps/\SqT K H b (k.map V.int)/\eK ps k=aX v/\Q v H
theorem Pq(z:X.A.units+1<YL)(r:PE X a td)(hi:PE X b ty)(w:B2 b):PE X (.Subscript a b pos) (λσ H Q=>td σ H λx d=>ty σ d λy g=>D6 X.K x y g Q):=by intro c s σ H Q I h;refine KN PySem.F.slot_dict_getitem.lookup w (aV (r c s σ H _ I h) λu L ⟨x,d,m,J,E⟩=>aV (hi c L σ d _ m E) λB N ⟨y,g,j,K,a,b,M,k,v,o,p,e,l,q,A,G⟩=>?_);subst o p;obtain rfl:u=W5 a:=J;obtain rfl:B=W5 b:=K;exact⟨Pg j e l,Ph z j e l q A λR O n i=>⟨v,g,n,i,G⟩⟩
theorem Pr{K:WQ}:dQ K rJ (D6 K):=by
 intro u H J x y d E G I Q R r s c k;unfold rJ at c;split at c
 ·split at c
  ·rename_i m hc;obtain⟨h,j,c⟩:=WM.mp c;obtain⟨w,g,c⟩:=WS.mp c;cases c;cases r;obtain⟨n,i,T⟩:=gZ R hc;obtain⟨b,rfl,l⟩:=kJ s j;rcases T.val h with⟨_,z⟩|⟨v,A,o,p,q⟩
   ·rw[z]at g;cases g
   ·rw[p]at g;cases g;exact⟨_,b,n,h,v,rfl,rfl,.of i,T.keys,l,o,k u _ H .refl R q⟩
  ·rename_i m hc;obtain⟨h,j,c⟩:=WM.mp c;obtain⟨w,g,c⟩:=WS.mp c;cases c;cases r;obtain⟨B,n,i,T⟩:=rH R hc;obtain⟨b,rfl,l⟩:=kJ s j;rcases T.val h with⟨_,z⟩|⟨v,A,o,p,q⟩
   ·rw[z]at g;cases g
   ·rw[p]at g;cases g;exact⟨_,b,n,h,v,rfl,rfl,.inr ⟨B,i⟩,T.keys,l,o,k u _ H .refl R q⟩
  ·cases c
 ·cases c
theorem Pt{k:Nat}(g:Room k X.A)(c:QE X a ma)(d:QE X b mb)(h:pG b=b4):QE X (.Subscript a b pos) (aC rJ ma mb):=⟨dE (Pq (jP g) c.h d.h (C9 h)) (qX Pr)⟩
end
section
variable{X:Cx}{o i e:Expr}{mo mi me:ME}{pos tpos:YE}{td ty tv:TE}
noncomputable def Pu(K:WQ)(td ty tv:TE):TS:=λD σ H=>tv σ H λv d=>td σ d λx g=>ty σ g λy c=>∃a b ps k,x=.ref a/\y=.ref b/\c a=aX (aU a ps)/\eM K c ps/\SqT K c b (k.map V.int)/\ps.length<W8/\D.nx σ (aM c a (aU a (iH ps k b v)))
theorem Pw(G:X.A.units+1<YL)(B:PE X o td)(hi:PE X i ty)(J:PE X e tv)(E:a1c e (aX (.Subscript o i tpos)) pos.line X.env=pure b3) :
  PS X (.Assign [.Subscript o i tpos] e pos) (Pu X.K td ty tv):=by
 intro c s d H D I h;refine a4X (aV (J c s d H _ I h) λr U ⟨v,g,l,Q,M⟩=>aV (B c U d g _ l M) λu Y ⟨x,j,m,R,N⟩=>aV (hi c Y d j _ m N) λL s3 ⟨y,Z,n,T,a,b,ps,k,q,w,e,A,z,K,O⟩=>?_) E;subst q w;obtain rfl:u=W5 a:=R;obtain rfl:L=W5 b:=T;exact Pl G n e A z K Q λs4 p=>⟨d,_,p,O⟩
theorem Px{g:Nat}(hr:Room g X.A)(ho:QE X o mo)(hi:QE X i mi)(he:QE X e me)(h:kF e=b4):QS X (.Assign [.Subscript o i tpos] e pos) (n9 rG mo mi me):=
 ⟨iY (Pw (Lh hr) ho.h hi.h he.h (t9 h)) (by
 rintro E σ H ⟨π,J,μ,fl,ρ',μ',R,m,d,k⟩;obtain⟨⟨x,j⟩,h1,d⟩:=WM.mp d;obtain⟨⟨y,l⟩,h2,d⟩:=WM.mp d;obtain⟨⟨z,A⟩,h3,d⟩:=WM.mp d;obtain⟨μ4,c,d⟩:=WS.mp d;cases d;refine⟨π,J,μ,x,j,R,m,h1,λB v1 H1 n O i1=>⟨B,J,j,y,l,O,m.mono n,h2,λG v2 H2 p R2 i2=>⟨G,J,l,z,A,R2,(m.mono n).mono p,h3,λI v3 H3 q K i3=>?_⟩⟩⟩;cases y with
 |loc a=>
  simp only[rG]at c;split at c
  ·rename_i v hc;obtain⟨g,h5,c⟩:=WM.mp c;split at c
   ·rename_i hz;cases c;have u:=i2.mono q;cases u with
    |loc r=>
     obtain⟨w,M,T⟩:=gZ K hc;obtain⟨b,rfl,N⟩:=kJ i3 h5;have hv:=(i1.mono p).mono q;have U:=T.put g N hv;obtain⟨Y,Z,g3⟩:=U.to;have s:w.length<W8:=by have:=congrArg X0 (T.to).1;rw[WO,WO]at this;omega
     refine⟨_,b,w,g,rfl,rfl,M,T.keys,N,s,?_⟩;obtain⟨L,Q⟩:=K.put (c:=.dT (c9 v g x)) (o:=aU _ (iH w g b v1)) r M (.inr (.inr ⟨_,rfl⟩)) ⟨_,rfl,Y,Z,g3⟩;exact k I σ _ (((n.trans p).trans q).trans L) Q ((((m.mono n).mono p).mono q).mono L)
   ·cases c
  ·cases c
 |_=>simp[rG]at c)⟩
end
noncomputable def rK(b:Bool):D->D->Hm->jk
 |x,.loc a,μ=>match μ[a]? with
  |some (.dT kvs)=>(c5 x).map λk=>(.bl (if b then !(bS kvs k).isSome else(bS kvs k).isSome),μ)|some (.dF kvs)=>(c5 x).map λk=>(.bl (if b then !(bS kvs k).isSome else(bS kvs k).isSome),μ)|_=>aY
 |_,_,_=>aY
noncomputable def zL(K:WQ)(c:Bool):R2:=λx y H Q=>∃a b ps k,x=.ref b/\y=.ref a/\Rd H a (aU a ps)/\eM K H ps/\SqT K H b (k.map V.int)/\Q (.bl (if c then !(eK ps k).isSome else(eK ps k).isSome)) H
theorem D7{X:Cx}(j:X.A.units+1<YL):OpR X (Yv .In) (zL X.K b3):=by intro d s p H x y v u Q I l m h;obtain⟨a,b,n,k,rfl,rfl,e,i,g,q⟩:=h;obtain rfl:v=W5 b:=l;obtain rfl:u=W5 a:=m;exact Pj j I e i g λo c=>⟨.bl _,H,c,rfl,q⟩
theorem D8{X:Cx}(j:X.A.units+1<YL):OpR X (Yv .NotIn) (zL X.K b4):=by intro d s p H x y v u Q I l m h;obtain⟨a,b,n,k,rfl,rfl,e,i,g,q⟩:=h;obtain rfl:v=W5 b:=l;obtain rfl:u=W5 a:=m;exact Pk j I e i g λo c=>⟨.bl _,H,c,rfl,q⟩
theorem uP{K:WQ}{j:Bool}:dQ K (rK j) (zL K j):=by
 intro q H z x y d s u w Q R o p a k;unfold rK at a;split at a
 ·split at a
  ·rename_i h hc;obtain⟨g,c,a⟩:=WS.mp a;cases a;cases p;obtain⟨l,m,T⟩:=gZ R hc;obtain⟨b,rfl,n⟩:=kJ o c;have e:(eK l g).isSome=(bS h g).isSome:=by rcases T.val g with⟨c,i⟩|⟨v,d,c,i,_⟩<;>rw[c,i]<;>rfl
   refine⟨_,b,l,g,rfl,rfl,.of m,T.keys,n,?_⟩;rw[e];exact k q _ H .refl R (.bl _)
  ·rename_i h hc;obtain⟨g,c,a⟩:=WS.mp a;cases a;cases p;obtain⟨r,l,m,T⟩:=rH R hc;obtain⟨b,rfl,n⟩:=kJ o c;have e:(eK l g).isSome=(bS h g).isSome:=by rcases T.val g with⟨c,i⟩|⟨v,d,c,i,_⟩<;>rw[c,i]<;>rfl
   refine⟨_,b,l,g,rfl,rfl,.inr ⟨r,m⟩,T.keys,n,?_⟩;rw[e];exact k q _ H .refl R (.bl _)
  ·cases a
 ·cases a
section
variable{X:Cx}{a b:Expr}{ma mb:ME}{pos:YE}
end
noncomputable def RawD(h:Ye)(d:Addr)(es:Array DictEntry)(ep:Nat):Prop:=∃z,h.get? d=aX z/\z.ExactDict/\z.data=.dict es ep
theorem RawD.ty{s:WX}{d:Addr} {es ep} (g:RawD s.heap d es ep):s.TypeIs (.ref d) "dict":=let⟨z,a,b,_⟩:=g;⟨z,a,b.1⟩
theorem RawD.stay{h h':Ye}{d:Addr} {es ep} (g:RawD h d es ep)(k:∀o,h.get? d=aX o->h'.get? d=aX o):RawD h' d es ep:=let⟨z,a,b⟩:=g;⟨z,k z a,b⟩
theorem RawD.lt{h:Ye}{d:Addr} {es ep} (g:RawD h d es ep):d<h.objs.size:=let⟨_,a,_⟩:=g;W2 a
section
variable{P:Xw}{w:XF}{A:XC}{E:Value->WX->Prop}{s:WX}{d it:Addr}{i ep:Nat}{es:Array DictEntry}
theorem zM{Q:Value->WX->Prop}(lo:(d==YG)=b3)(g:RawD s.heap d es ep)
  (q:Q (.ref s.heap.objs.size) {s with heap:=s.heap.push {cls:=.type "dict_keyiterator",data:=.fields #[.ref d,.int 0 0,.int es.size 0,.int ep 0]}}):Xk (Xv P w) A (a2m (.ref d)) Q E s:=by
 obtain⟨z,a,c,b⟩:=id g;refine a1T g.ty F.slot_dict_iter (Yo F.slot_dict_iter g.ty F.entry_dict_iter ?_ (F.args_dict_iter_1 _));unfold Builtin.«dict.__iter__» a7A;refine WN (WN (a0U g.ty ?_));show Xk _ _ (pure (W5 d)) _ _ _;refine WV ?_;show Xk _ _ (Zj d >>= _) _ _ _;unfold Zj;rw[if_neg (λx=>Xo (lo.symm.trans x))];refine WN (WV (WN (YU a b (WN (ZK a b (WN (XZ (WV ?_))))))));exact⟨_,rfl,"dict_keyiterator",_,⟨_,W9 _ rfl,rfl⟩,F.slot_dict_keyiterator_next.lookup,by simpa[a0m]using q⟩
theorem uQ{Q:Option Value->WX->Prop}(o:A.handled=aY)(j:s.heap.IsKeyIter it d i es.size ep)(g:RawD s.heap d es ep)
  (r:∀e a,es[i]?=aX e->a.IsKeyIter it d (i+1) es.size ep->YK it s.heap a->Q (aX e.key) {s with heap:=a})
  (v:es[i]?=aY->∀a,a1E it s.heap a->Q aY {s with heap:=a}):Xk (Xv P w) A (a0v (.ref it)) Q E s:=by
 obtain⟨y,c,p,b⟩:=id j;obtain⟨z,l,B,m⟩:=id g;have k:∀{Q:String->WX->Prop}{A:XC}{E:Value->WX->Prop},Q "dict_keyiterator" s->Xk (Xv P w) A (a4i (.ref it)) Q E s:=λq=>wpAny_typeNameOfWhole_keyiter j.typeIs q;unfold a0v;refine WN (a2Z (a0J (name:=Yy "__next__") j.typeIs F.slot_dict_keyiterator_next (Yo F.slot_dict_keyiterator_next j.typeIs F.entry_dict_keyiterator_next ?_ (F.args_dict_keyiterator_next_1 _))));refine WN (WV (WN (WN (WN (k (WV (WN (a2G c b ?_))))))));simp only[show Yr "dict_keyiterator"=b3 by decide,Xp,if_false];show Xk _ _ (if(W5 d==X5)=b4 then _ else _) _ _ _;rw[if_neg (show ¬ (W5 d==X5)=b4 from λx=>Xo x)];refine WN (WV (WN (YU l m ?_)));rw[if_neg (λx=>by simp at x)];refine WN (WV (WN (ZK l m ?_)));rw[if_neg (λx=>by simp at x)];refine WV ?_;simp only[if_neg (show ¬ ((i:Int)<0) by omega),a0I];cases n:es[i]? with
 |some e=>
  refine WN (WN (k (WV (WN (a5w j.typeIs ?_)))));show Xk _ _ (a2e (.ref it) 1 (a0m ((i:Int)+1)) >>= _) _ _ _;refine WN (a0P c b (by simp) ?_);have h:(s.heap.update it (a2C (·.setIfInBounds 1 (a0m ((i:Int)+1))))).IsKeyIter it d (i+1) es.size ep:=
   ⟨_,Yq _ c (a4D (a1t b _)),(a5B ..).trans p,by simp[a1t b,a0m]⟩
  generalize hu:s.heap.update it (a2C (·.setIfInBounds 1 (a0m ((i:Int)+1))))=u at h;refine WN (X4 (WN (a5w (s:={s with heap:=u}) h.typeIs ?_)));show Xk _ _ (pure e.key) _ _ _;exact WV (WV ⟨_,rfl,WV (r e u n h (hu▸YJ ..))⟩)
 |none=>refine WN (WN (k (WV ?_)));show Xk _ _ (a2e (.ref it) 0 .none >>= _) _ _ _;refine WN (a0P c b (by simp) ?_);show Xk _ _ (a3O (.type "StopIteration") [] >>= _) _ _ _;simp only[a3O,a5P];refine WN (WN (XZ ?_ (by size_fits)));refine WN (m:=ZW _ _) (a1V (a:=X5) (by first|rfl|(simp only[ZW];rfl)) (XZ ?_ (by size_fits)));simp only[a5O];refine WN (a2Y ?_);rw[show A.in1.handled=aY from o];refine WN (WV (a3X ?thrown));case thrown=>exact WN (a0q (T:="StopIteration") (b:=b4) ⟨_,W9 _ rfl,rfl⟩ a2I (WV (v n _ (((YJ ..).extBut.push _).push _))))
theorem D9(m:A.handled=aY)(l:d≠it)(es:Array DictEntry)(ep:Nat):Walks P w A it [it,d] [it] es.size (λi v=>∃e,es[i]?=aX e/\v=e.key) (λi h=>h.IsKeyIter it d i es.size ep/\RawD h d es ep) where
 sub:=λb a=>by rw[Xe.mp a];exact Xf ..
 frame:=λ_ _ _ st k=>⟨st.1.at λo e=>k it (by simp) o e,st.2.stay λo e=>k d (by simp) o e⟩
 item:=λi s Q E hi st q=>uQ m st.1 st.2 (λe j c p n=>q _ j s.toks ⟨e,c,rfl⟩ ⟨p,st.2.stay λo g=>n.extBut d o l g⟩ λb o a g=>n.extBut b o (λz=>a (by simp[z])) g) (λc=>by simp at c;omega)
 done:=λs Q E st q=>uQ m st.1 st.2 (λe j c=>by simp at c) (λ_ j x=>q j s.toks λb o a g=>x b o (λz=>a (by simp[z])) g)
 self:=λ_ _ _ _ st q=>a5K st.1 q
theorem Ea(lo:(d==YG)=b3):PySem.W.KdlSrc P w "dict" d d es.size (λi v=>∃e,es[i]?=aX e/\v=e.key) (λh=>RawD h d es ep) where
 type:=λ_ g=>g.ty
 there:=λ_ g=>⟨g.lt,g.lt⟩
 keep:=λ_ _ g k=>g.stay λo e=>k d (.inl rfl) o e
 notList:=by decide
 notTuple:=by decide
 hint:=λ_ _ _ _ g q=>PySem.W.kdl_hint_dict g.ty q
 iter:=λ_ _ a g=>⟨_,_,(λ_ _ q=>zM lo g q),D9 a (Xd g.lt) es ep,⟨⟨_,W9 _ rfl,rfl,rfl⟩,g.stay λo e=>WW _ e⟩⟩
theorem Py(lo:(d==YG)=b3):a6D P w (Builtin.«dict.__len__» ⟨[.ref d],[]⟩) (λ_ R s=>∃es ep,RawD s.heap d es ep/\R (.ok (.ret (.int (es.size:Nat) s.toks))) {s with toks:=s.toks+1}):=
 .of_wp λA R s ⟨es,ep,⟨z,a,c,b⟩,q⟩=>by show Xk _ _ (dictSize d >>= _) _ _ _;unfold dictSize;refine WN (WN (YU a b (WV ?_)));show Xk _ _ (a7y d >>= _) _ _ _;refine WN (wpAny_pendingCount_other lo (wpAny_ret_mkInt ?_));rw[Nat.add_zero];exact q
theorem Pz{Q:Value->WX->Prop}(lo:(d==YG)=b3)(g:RawD s.heap d es ep)(hz:es.size<=W8)(q:Q (.int (es.size:Nat) (s.toks+1)) {s with toks:=s.toks+1+1}):Xk (Xv P w) A (call (.builtin "len") [.ref d]) Q E s:=
 a7m g.ty F.slot_dict_len (λb a=>a1A F.slot_dict_len g.ty F.entry_dict_len (F.args_dict_len_1 _) (Py lo) ⟨es,ep,g,a⟩) (by omega) (by rw[Xh]at hz;omega) q
end
theorem zN:∀{ps:bR}{ws:gq},Vals (ps.map (·.2.2)) ws->(b9 ps ws).map (λx=>W5 x.2.1)=ps.map λp=>W5 p.2.1
 |[],_,_=>by simp[b9]
 |p::ps,_,.cons r t=>by have a:=zN (ps:=ps) t;unfold b9 at a ⊢;rw[XX,Xa,Xa,a]
theorem Eb:∀ps:bR,Vals (ps.map λp=>V.ref p.2.1) (ps.map λp=>W5 p.2.1)
 |[]=>.nil|p::ps=>.cons rfl (Eb ps)
section
variable{X:Cx}{a7J:jw}{σ:St}{H:Hp}{s:WX}{a:Addr}{ps:bR}
theorem pT(I:Inv X a7J σ H s)(e:H a=aX (aU a ps))(h:eM X.K H ps):(a==YG)=b3/\ps.length<=W8/\∃es ep,RawD s.heap a es ep/\es.toList.map (·.key)=ps.map λp=>W5 p.2.1:=by obtain⟨j,i,k,r,z,es,ep,b,c,d,g,_⟩:=kI I (.of e) h;refine⟨j,i,es,ep,⟨z,b,c,d⟩,?_⟩;rw[g,W7,<- zN r];rfl
noncomputable def Ec(K:WQ):gw->Hp->VK->Prop:=λxs H Q=>∃a ps,xs=[V.ref a]/\H a=aX (aU a ps)/\eM K H ps/\Q (.int ps.length) H
theorem PB:CallR X (.builtin "len") (Ec X.K):=by
 intro a7J s σ H o n Q I r h;obtain⟨a,ps,rfl,c,e,q⟩:=h;obtain⟨u,rfl,k⟩:=fA r;cases k;obtain⟨j,m,b,l,g,d⟩:=pT I c e;have i:b.size=ps.length:=by have:=congrArg X0 d;simpa using this
 refine Pz j g (by omega) ?_;rw[i];exact⟨.int ps.length,H,(I.tok _).tok _,⟨_,rfl⟩,q⟩
noncomputable def Ed(K:WQ):gw->Hp->VK->Prop:=λxs H Q=>∃a ps,xs=[V.ref a]/\H a=aX (aU a ps)/\eM K H ps/\∀l,H l=aY->Q (.ref l) (aM H l (.lst (ps.map λp=>V.ref p.2.1)))
theorem PC(hc:X.calm=b4):CallR X (.type "list") (Ed X.K):=by
 intro a7J s σ H N M Q I r h;obtain⟨a,ps,rfl,x,y,q⟩:=h;obtain⟨u,rfl,E⟩:=fA r;cases E;obtain⟨B,z,m,J,g,d⟩:=pT I x y;have L:m.size=ps.length:=by have:=congrArg X0 d;simpa using this
 refine PySem.W.kdl_call (Ea B) (I.ok.hd hc) g (by omega) λK G b k A w c=>?_;refine⟨.ref s.heap.objs.size,_,I.laid (t':=G) (a:=s.heap.objs.size) (o:=.lst (ps.map λp=>V.ref p.2.1)) A (WY _) ?_,rfl,q _ (I.hok.fresh (WY _))⟩;refine⟨by rw[WO];exact z,b.toList,k,?_,by simpa using w⟩;have l:b.toList=ps.map λp=>W5 p.2.1:=by
  rw[<- d];refine a1D λi=>?_;rw[W6,X2,X2];cases j:b[i]? with
  |some v=>obtain⟨e,n,o⟩:=c.2 i v j;rw[n,o];rfl|none=>
   have:b.size<=i:=by simpa using j
   rw[a1S (by rw[<- c.1];exact this)];rfl
 rw[l];exact Eb ps
end
section
variable{X:Cx}{a b o i e:Expr}{ma mb mo mi me:ME}{pos tpos:YE}{k:Nat}
theorem PD(l:Room k X.A)(g:QE X a ma)(j:QE X b mb)(h:pG b=b4):QE X (.Subscript a b pos) (aC aJ ma mb):=
 q8 (Pt l g j h) (Nt g j h) (lH λx y m r c=>by
  unfold aJ at c;split at c
  ·split at c
   ·rename_i d hc;refine .inl ?_;simp only[rJ,hc];exact c
   ·rename_i d hc;refine .inl ?_;simp only[rJ,hc];exact c
   ·exact .inr c
  ·exact .inr c)
noncomputable def pU(c:Bool):D->D->Hm->jk:=λx y d=>match rK c x y d with
 |some r=>aX r|none=>lI c x y d
theorem uR{c:Bool}(x y:D)(d:Hm)(r:D×Hm)(h:pU c x y d=aX r):rK c x y d=aX r\/lI c x y d=aX r:=by
 unfold pU at h;split at h
 ·rename_i z;rw[z];exact .inl h
 ·exact .inr h
theorem Ee{g:Bool}(x y:D)(l:Hm)(r:D×Hm)(h:cK g x y l=aX r):(∃i j,x=.str i/\y=.str j)\/pU g x y l=aX r:=by
 cases y with
 |loc a=>
  refine .inr ?_;have e:cK g x (.loc a) l=(match l[a]? with
   |some (.dT d)=>(c5 x).map λk=>(D.bl (if g then !(bS d k).isSome else(bS d k).isSome),l)|some (.dF d)=>(c5 x).map λk=>(D.bl (if g then !(bS d k).isSome else(bS d k).isSome),l)
   |_=>lI g x (.loc a) l):=by cases x<;>rfl
  rw[e]at h;unfold pU;simp only[rK];cases hc:l[a]? with
  |none=>rw[hc]at h;exact h|some c=>
   rw[hc]at h;cases c with
   |dT d=>dsimp only at h ⊢;rw[h]|dF d=>dsimp only at h ⊢;rw[h]|_=>exact h
 |str j=>
  cases x with
  |str i=>exact .inl ⟨i,j,rfl,rfl⟩|_=>exact .inr h
 |_=>cases x<;>exact .inr h
theorem Ef(x y:D)(c:Hm)(r:D×Hm)(h:cK b3 x y c=aX r):yE x y c=aX r\/pU b3 x y c=aX r:=by
 rcases Ee x y c r h with⟨i,j,rfl,rfl⟩|z
 ·exact .inl h
 ·exact .inr z
theorem Eg(x y:D)(c:Hm)(r:D×Hm)(h:cK b4 x y c=aX r):yP x y c=aX r\/pU b4 x y c=aX r:=by
 rcases Ee x y c r h with⟨i,j,rfl,rfl⟩|z
 ·exact .inl h
 ·exact .inr z
theorem PF(g:Room k X.A)(c:QE X a ma)(d:QE X b mb)(h:gD b=b4):QE X (.Compare a [.In] [b] pos) (aC (cK b3) ma mb):=
 q8 ⟨iZ BN CY c.h d.h (jE h)⟩ (q8 ⟨iZ (D7 (jP g)) uP c.h d.h (jE h)⟩ ⟨iZ (Dp (uF g)) uD c.h d.h (jE h)⟩ (lH uR)) (lH Ef)
theorem PH(g:Room k X.A)(c:QE X a ma)(d:QE X b mb)(h:gD b=b4):QE X (.Compare a [.NotIn] [b] pos) (aC (cK b4) ma mb):=
 q8 ⟨iZ Cd Ds c.h d.h (jE h)⟩ (q8 ⟨iZ (D8 (jP g)) uP c.h d.h (jE h)⟩ ⟨iZ (Dq (uF g)) uD c.h d.h (jE h)⟩ (lH uR)) (lH Eg)
theorem uS(g:Room k X.A)(c:QE X a ma)(d:QE X b mb)(h:gD b=b4):QT X (.Compare a [.In] [b] pos) (a8 (aC (cK b3) ma mb)):=
 uB ⟨i7 BN CY c.h d.h (jE h)⟩ (uB ⟨i7 (D7 (jP g)) uP c.h d.h (jE h)⟩ ⟨i7 (Dp (uF g)) uD c.h d.h (jE h)⟩ (uC (lH uR))) (uC (lH Ef))
theorem PJ(g:Room k X.A)(c:QE X a ma)(d:QE X b mb)(h:gD b=b4):QT X (.Compare a [.NotIn] [b] pos) (a8 (aC (cK b4) ma mb)):=
 uB ⟨i7 Cd Ds c.h d.h (jE h)⟩ (uB ⟨i7 (D8 (jP g)) uP c.h d.h (jE h)⟩ ⟨i7 (Dq (uF g)) uD c.h d.h (jE h)⟩ (uC (lH uR))) (uC (lH Eg))
theorem PL(j:Room k X.A)(g:QE X o mo)(hi:QE X i mi)(d:QE X e me)(h:kF e=b4):QS X (.Assign [.Subscript o i tpos] e pos) (dJ mo mi me):=
 OV (Px j g hi d h) (OY g hi d h) (OZ λx y z l r c=>by
  unfold pQ at c;split at c
  ·split at c
   ·exact .inl c
   ·exact .inr c
  ·cases c)
end
noncomputable def zO(K:WQ)(a b:Addr):It:=
 ⟨λi H=>∃c d x y,SqL K H a c/\SqL K H b d/\c[i]?=aX x/\d[i]?=aX y,
   λi H z e=>∃p v u,z=.ref p/\H p=aY/\e=aM H p (.tup [v,u])/\(∀c,SqL K H a c->c[i]?=aX v)/\∀d,SqL K H b d->d[i]?=aX u,
   λi H=>∃c d,SqL K H a c/\SqL K H b d/\(c.length<=i\/d.length<=i)⟩
theorem PM{P:Xw}{w:XF}{K:WQ}{es:List Expr}{kx:Nat}{pt:YE}{a b z n to l m:Addr}(A:ZipApart z n to l m a b) :
  Turn Qc P w K (.Tuple es kx pt) (zO K a b) [z,n,to,l,m] z (λi h=>IsZip h z n to .none/\IsPair h n (.ref l) (.ref m)/\(∃u v,IsPair h to u v)/\h.IsListIter l a i/\h.IsListIter m b i) where
 mem:=by simp
 obj:=λi h ⟨r,B,⟨u,v,J⟩,L,M⟩ c hc=>by
  have hc':c=z\/c=n\/c=to\/c=l\/c=m:=by simpa using hc
  rcases hc' with rfl|rfl|rfl|rfl|rfl
  ·exact⟨_,r,λq e=>by
    have R:X6 _=a2o q:=e;cases R⟩
  ·exact⟨_,B,λq e=>by
    have R:a4G _ _=a2o q:=e;cases R⟩
  ·exact⟨_,J,λq e=>by
    have R:a4G _ _=a2o q:=e;cases R⟩
  ·obtain⟨o,e1,c,d⟩:=L;exact⟨o,e1,λv e=>by rw[d]at e;cases e⟩
  ·obtain⟨o,e1,c,d⟩:=M;exact⟨o,e1,λv e=>by rw[d]at e;cases e⟩
 keep:=λi h h' ⟨r,B,⟨u,v,J⟩,L,M⟩ k=>⟨k z (by simp) _ r,k n (by simp) _ B,⟨u,v,k to (by simp) _ J⟩,L.at λo e=>k l (by simp) o e,M.at λo e=>k m (by simp) o e⟩;item:=by
  intro X hP hw hK hc i Z s σ H E I U ⟨r,B,⟨u,v,J⟩,L,M⟩ hg;subst hP hw hK;obtain⟨xs,ys,x,y,Y,G,Q,hy⟩:=hg;obtain⟨its,rv,p,hz⟩:=I.list Y;obtain⟨T,N,p2,hz2⟩:=I.list G;obtain⟨u1,jP,ru1⟩:=rv.get Q;obtain⟨u2,hu2,ru2⟩:=N.get hy;refine wpAny_pyNext_zip_item A r B J L M p.isList p2.isList (x:=u1) (y:=u2) (by simpa using jP) (by simpa using hu2) λh1 a1 a2 a3 a4 a5 a6 hk=>⟨_,rfl,wpAny_letOwnedTupleGo_zip a1 λh2 b1 j=>?_⟩;have ne:∀{c o},s.heap.get? c=aX o->s.heap.objs.size≠c:=λe=>X1 (W2 e);have l4:∃o,s.heap.get? l=aX o:=let⟨o,e,_⟩:=L;⟨o,e⟩;have l5:∃o,s.heap.get? m=aX o:=let⟨o,e,_⟩:=M;⟨o,e⟩;have ht2:h2.get? s.heap.objs.size=aX {cls:=.type "tuple",data:=.seq #[u1,u2]}:=(j.2 _ (ne r)).trans a5;have hfr:H s.heap.objs.size=none:=I.hok.fresh (WY _);have g2':IsPair h2 n (.ref l) (.ref m):=(j.2 _ A.TIz).trans (hk _ _ A.TIz A.TITO A.TIi1 A.TIi2 B);refine⟨.ref s.heap.objs.size,aM H s.heap.objs.size (.tup [x,y]),?_,rfl,⟨s.heap.objs.size,x,y,rfl,hfr,rfl,λws hw=>by rw[I.list_inj hw Y];exact Q,λws hw=>by rw[I.list_inj hw G];exact hy⟩,
   ⟨b1,g2',⟨_,_,(j.2 _ A.TOz).trans a2⟩,a3.extBut j.extBut A.i1z,a4.extBut j.extBut A.i2z⟩,λc O=>?_⟩
  ·refine zE (s:=s) (h':=h2) (t':=s.toks) (ch:=[z,n,to,l,m]) I (λc oc O ec=>?_) U (WY _) ?_
   ·have g:c≠z/\c≠n/\c≠to/\c≠l/\c≠m:=by simpa using O
    exact(j.2 c g.1).trans (hk c oc g.1 g.2.2.1 g.2.2.2.1 g.2.2.2.2 ec)
   ·exact⟨by show(2:Nat)<=W8;decide,[u1,u2],.cons ru1 (.cons ru2 .nil),_,ht2,rfl,0,rfl,rfl⟩
  ·have g:c=z\/c=n\/c=to\/c=l\/c=m:=by simpa using O
   have hn:=(U c O).1;rw[bF]
   ·exact hn
   ·rcases g with rfl|rfl|rfl|rfl|rfl
    ·exact(ne r).symm
    ·exact(ne B).symm
    ·exact(ne J).symm
    ·exact(ne l4.choose_spec).symm
    ·exact(ne l5.choose_spec).symm
 done:=by
  intro X hP hw hK hc i Z s σ H E I U ⟨r,B,⟨u,v,J⟩,L,M⟩ hg;subst hP hw hK;obtain⟨xs,ys,Y,G,Q⟩:=hg;obtain⟨its,rv,p,hz⟩:=I.list Y;obtain⟨T,N,p2,hz2⟩:=I.list G;have hl:=rv.length;have hl2:=N.length;refine wpAny_pyNext_zip_end (I.ok.hd hc) A r B J L M p.isList p2.isList ?_ λh' eb=>⟨rfl,DW (t':=s.toks) (ch:=[z,n,to,l,m]) I (λc o O e=>?_) U⟩
  ·rcases Q with Q|Q
   ·exact .inl (by simp;omega)
   ·exact .inr (by simp;omega)
  ·have g:c≠z/\c≠n/\c≠to/\c≠l/\c≠m:=by simpa using O
   exact eb c o g.1 g.2.2.1 g.2.2.2.1 g.2.2.2.2 e
 self:=λ_ _ _ _ _ ⟨r,_⟩ h=>a6E r h
noncomputable def oD(x y:D):gE:=λa i=>(bK a x).bind λxs=>(bK a y).map λb=>(xs[i]?).bind λd=>(b[i]?).map λe=>.tup [d,e]
noncomputable def rL(a:MA):MI:=λe d=>(a e d).bind λp=>match p.1 with
 |[x,y]=>(eX p.2 x).bind λb=>(eX p.2 y).map λc=>(oD x y,min b.length c.length+1,p.2)|_=>aY
theorem Eh{K:WQ}{π:Nat->Addr}{j:Hm}{H:Hp}{v:V}{x:D}{xs:List D}(R:Rp K π H j)(h:IsD K π j.length H v x)(k:eX j x=aX xs):∃p,v=.ref p/\(∃vs,SqL K H p vs) /\
  ∀c a d,Ext π j.length H c a.length d->Rp K c d a->∀i,bK a x=aX i->∃g,SqL K d p g/\IsDs K c a.length d g i:=by
 obtain⟨p,vs,rfl,r,_⟩:=nZ R h k;refine⟨p,rfl,⟨vs,r⟩,λc a d e m i l=>?_⟩;have q:eX a x=aX i:=by
  cases x with
  |rol w=>exact l|loc b=>exact l|_=>cases k
 obtain⟨u,g,o,s,n⟩:=nZ m (h.mono e) q;cases o;exact⟨g,s,n⟩
theorem PN{K:WQ}{π:Nat->Addr}{l:Hm}{H:Hp}{v U:V}{x y:D}{xs ys:List D}(R:Rp K π H l)(h:IsD K π l.length H v x)(h':IsD K π l.length H U y)(hs:eX l x=aX xs)(B:eX l y=aX ys) :
  ∃a b,v=.ref a/\U=.ref b/\(∃I,SqL K H a I)/\(∃I,SqL K H b I)/\Wk K (zO K a b) (oD x y) π l.length H:=by
 obtain⟨a,rfl,qa,N⟩:=Eh R h hs;obtain⟨b,rfl,qb,O⟩:=Eh R h' B;refine⟨a,b,rfl,rfl,qa,qb,λg c m i e j z=>?_,λg c m i d e j z=>?_⟩
 ·obtain⟨n,w,z⟩:=WM.mp z;obtain⟨bs,A,z⟩:=WS.mp z;obtain⟨r,o,s⟩:=N g c m e j n w;obtain⟨q,p,u⟩:=O g c m e j bs A;refine⟨r,q,o,p,?_⟩;rw[s.length,u.length];cases J:n[i]? with
  |none=>exact .inl (XU.mp J)|some d=>
   cases k:bs[i]? with
   |none=>exact .inr (XU.mp k)|some d'=>rw[J,k]at z;cases z
 ·obtain⟨n,w,z⟩:=WM.mp z;obtain⟨bs,A,z⟩:=WS.mp z;obtain⟨Z,h3,z⟩:=WM.mp z;obtain⟨d2',h4,h5⟩:=WS.mp z;subst h5;obtain⟨r,o,s⟩:=N g c m e j n w;obtain⟨q,p,u⟩:=O g c m e j bs A;obtain⟨X,L,k1⟩:=s.get h3;obtain⟨Y,M,k2⟩:=u.get h4;refine⟨⟨r,q,X,Y,o,p,L,M⟩,?_⟩;rintro y H2 ⟨t,v1,v2,rfl,hn,rfl,E,G⟩;have Q:=E r o;have T:=G q p;rw[L]at Q;rw[M]at T;cases Q;cases T;obtain⟨k,R2⟩:=j.fresh (o:=.tup [X,Y]) hn;exact⟨k,R2,.tup (.of cQ) (.cons (k1.mono k) (.cons (k2.mono k) .nil))⟩
noncomputable def PQ(K:WQ)(d:TA):TI:=λσ H R=>d σ H λvs c=>∃a b,vs=[.ref a,.ref b]/\(∃xs,SqL K c a xs)/\(∃e,SqL K c b e)/\R (zO K a b) c
open PyProof.Rows in
theorem PR{X:Cx}{a b:Expr}{z:TA}{p pos pt:YE}{es:List Expr}{kx:Nat}(O:Gl X "zip") (T:X.mg "zip"=aY) (N:PA X [a,b] z)(Y:XB [a,b] X.env=(b3,eval a X.env)::XB [b] X.env)(o:(ZI pos (XB [b] X.env)).any (·.1)=b3) :
  PI X (.Tuple es kx pt) (.Call (.Name "zip" p) [a,b] [] pos) (PQ X.K z):=by
 intro i s A H R I h;refine Call_ (iS I O T Boot.«zip» (Yz (aV (N pos i s A H _ I h) λus d ⟨vs,v,g,r1,q1⟩=>?_) Y o));obtain⟨l,m,rfl,⟨ws,U⟩,⟨ws2,n⟩,q⟩:=q1;cases r1 with
 |cons ru r=>
  cases r with
  |cons u r=>
   cases r;cases ru;cases u;obtain⟨its,rv,y,hz⟩:=g.list U;obtain⟨x,rv2,k,hz2⟩:=g.list n;have la:l<d.heap.objs.size:=let⟨_,e,_⟩:=y.isList;W2 e;have lb:m<d.heap.objs.size:=let⟨_,e,_⟩:=k.isList;W2 e;refine call_zip_2 y.isList k.isList λM w G J K L Z Q=>a6E w ?_;have B:Inv X i A v {d with heap:=M}:=g.kept (t':=d.toks) Q;have E:ZipApart (d.heap.objs.size+4) (d.heap.objs.size+2) (d.heap.objs.size+3) d.heap.objs.size (d.heap.objs.size+1) l m:=by have la':@LT.lt Nat _ l d.heap.objs.size:=la;have lb':@LT.lt Nat _ m d.heap.objs.size:=lb;constructor<;>(show @Ne Nat _ _;omega)
   refine⟨d.heap.objs.size+4,[d.heap.objs.size+4,d.heap.objs.size+2,d.heap.objs.size+3,d.heap.objs.size,d.heap.objs.size+1],_,_,v,rfl,B,PM E,⟨w,G,⟨_,_,J⟩,K,L⟩,λc hc=>?_,q⟩;have j:d.heap.objs.size<=c:=by simp only[Xr,ZO,or_false]at hc;rcases hc with rfl|rfl|rfl|rfl|rfl<;>first|exact Nat.le_add_right _ _|exact WY _
   exact g.fpOk j (g.hok.fresh j)
theorem PU{X:Cx}{a b:Expr}{o:MA}{n:Nat}{p pos:YE}(d:Gl X "zip") (e:X.mg "zip"=aY) (m:QA X [a,b] o n):QJT X (.Call (.Name "zip" p) [a,b] [] pos) (rL o):=⟨λes Y pt a7J s σ H R I hw=>by
 have g:=m.s;rw[XG,WZ,XG,WZ]at g;obtain⟨T,U,O,L,Z,Q,r,E,c,k⟩:=hw;obtain⟨⟨x,i⟩,z,c⟩:=WM.mp c;refine PR d e m.h (fT g.1) (by rw[fT g.2.1];rfl) a7J s σ H R I ⟨T,U,O,x,i,r,E,z,λj vs q w l h=>?_⟩;dsimp only at c;split at c
 ·rename_i x y;obtain⟨xs,A,c⟩:=WM.mp c;obtain⟨ys,B,c⟩:=WS.mp c;cases c;cases h with
  |cons h M=>
   cases M with
   |cons G N=>cases N;obtain⟨u,v,rfl,rfl,J,K,W⟩:=PN l h G A B;exact⟨u,v,rfl,J,K,k j q _ w l W⟩
 ·cases c⟩
section
variable{X:Cx}{a7J:jw}{σ:St}{A:XC}{E:Value->WX->Prop}{d:Addr}
theorem PV{H:Hp}{s:WX}{b:Addr}{k:List Int}{v:V}{u:Value}{ps:bR}{Q:Unit->WX->Prop}(z:A.units<YL)(I:Inv X a7J σ H s)(e:H d=aX (aU d ps))(w:eM X.K H ps)(n:SqT X.K H b (k.map V.int))(hz:ps.length<W8)(J:RelV v u)
  (h:∀i,Inv X a7J σ (aM H d (aU d (iH ps k b v))) i->(∀c o,c≠d->s.heap.get? c=aX o->i.heap.get? c=aX o)->Q () i):Xk (Xv X.prog X.w) A (dictSet d (.ref b) u) Q E s:=by
 obtain⟨y,M,K,r,j⟩:=kI I (.of e) w;have B:(b9 ps K).length<=W8:=by have:=congrArg X0 (oB r);rw[WO,WO]at this;omega
 refine wpAny_dictSet_heap (hsz:=B) (show(a0r (a0A X.prog X.w)).room A from z) (kG I n) j λm g a=>h _ ?_ λc o hc e=>a.extBut c o hc e;obtain⟨L,G,l⟩:=zK r k b J;rw[l]at g;have p:∃q,m.get? d=aX q:=let⟨q,_,_,x,_⟩:=g;⟨q,x⟩;exact xK I (by rw[e];exact a0s) a p (uO y (by have:=zJ ps k b v;omega) G g)
end
noncomputable def ItI(h:Ye)(c d S:Addr)(i n ep:Nat):Prop:=∃(b ok g:Value)(e:Bool),h.get? c=aX {cls:=.type "dict_itemiterator",dict:=aY,data:=.fields #[b,.bool e,.ref d,.int i 0,.int n 0,.int ep 0,ok,g],slots:=#[]} /\
 (b=.none\/∃(a:Addr)(o:Obj),b=a0m a/\h.get? a=aX o/\a≠c/\a≠S)
theorem ItI.ty{s:WX}{a d S:Addr} {i n ep} (j:ItI s.heap a d S i n ep):s.TypeIs (.ref a) "dict_itemiterator":=let⟨_,_,_,_,e,_⟩:=j;⟨_,e,rfl⟩
theorem ItI.stay{h h':Ye}{c d S:Addr} {i n ep} (j:ItI h c d S i n ep)(m:c≠S)(k:∀b o,b≠S->h.get? b=aX o->h'.get? b=aX o):ItI h' c d S i n ep:=by
 obtain⟨v,ok,p,l,e,r⟩:=j;refine⟨v,ok,p,l,k _ _ m e,?_⟩;rcases r with r|⟨a,o,q,s,u,g⟩
 ·exact .inl r
 ·exact .inr ⟨a,o,q,k _ _ g s,u,g⟩
section
variable{P:Xw}{w:XF}{A:XC}{E:Value->WX->Prop}{s:WX}{d it S:Addr}{i ep:Nat}{es:Array DictEntry}
theorem Ei{Q:Option Value->WX->Prop}(hh:A.handled=aY)(j:ItI s.heap it d S i es.size ep)(g:RawD s.heap d es ep)(hS:S<s.heap.objs.size)
  (q1:∀e l,es[i]?=aX e->ItI l it d S (i+1) es.size ep->l.get? s.heap.objs.size=aX {cls:=.type "tuple",data:=.seq #[e.key,e.val]}->l.objs.size=s.heap.objs.size+1->(∀b o,b≠it->s.heap.get? b=aX o->l.get? b=aX o)->Q (aX (.ref s.heap.objs.size)) {s with heap:=l})
  (q2:es[i]?=aY->∀l,a1E it s.heap l->Q aY {s with heap:=l}):Xk (Xv P w) A (a0v (.ref it)) Q E s:=by
 obtain⟨z,g1,g2,g3⟩:=id g;have ty:=j.ty;obtain⟨h,r,p,B,y⟩:=s;obtain⟨wn,ok,L,O,K,jr⟩:=j;have T:∀{Q:String->WX->Prop}{A:XC}{E:Value->WX->Prop},Q "dict_itemiterator" ⟨h,r,p,B,y⟩->Xk (Xv P w) A (a4i (.ref it)) Q E ⟨h,r,p,B,y⟩:=λq=>ZV ty q;unfold a0v;refine WN (a2Z (a0J (name:=Yy "__next__") ty F.slot_dict_itemiterator_next (Yo F.slot_dict_itemiterator_next ty F.entry_dict_itemiterator_next ?_ (F.args_dict_itemiterator_next_1 _))));refine WN (WV (WN (WN (WN (T (WV (WN (a2G K rfl ?_))))))));simp only[show Yr "dict_itemiterator"=b4 by decide,if_true];show Xk _ _ (if(W5 d==X5)=b4 then _ else _) _ _ _;rw[if_neg (show ¬ (W5 d==X5)=b4 from λx=>Xo x)];refine WN (WV (WN (YU g1 g3 ?_)));rw[if_neg (λx=>by simp at x)];refine WN (WV (WN (ZK g1 g3 ?_)));rw[if_neg (λx=>by simp at x)];refine WV ?_;simp only[if_neg (show ¬ ((i:Int)<0) by omega),a0I];have R:it<h.objs.size:=W2 K;cases he:es[i]? with
 |some e=>
  refine WN (WN (T (WV (WN (Zv ty ?_)))));show Xk _ _ (a2e (.ref it) 3 (a0m ((i:Int)+1)) >>= _) _ _ _;refine WN (YA K (by simp) λu M N=>?_);replace N:YK it h u:=N;replace M:u.get? it=aX {cls:=.type "dict_itemiterator",dict:=aY,data:=.fields #[wn,.bool O,.ref d,.int ((i+1:Nat):Int) 0,.int es.size 0,.int ep 0,ok,L],slots:=#[]}:=by rw[show((i+1:Nat):Int)=(i:Int)+1 by omega];simpa[a0m]using M
  have G:a5U ⟨u,r,p,B,y⟩ (.ref it) "dict_itemiterator":=⟨_,M,rfl⟩;refine WN (X4 (WN (Zv G (WN (Zv G ?_)))));show Xk _ _ (Zg (.ref it) 6 e.key e.val) _ _ _;unfold Zg;refine WN (a2F ?_);have zu:u.objs.size=h.objs.size:=N.1;have k:=WW {cls:=.type "tuple",data:=.seq #[e.key,e.val]} M;have Y:(u.push {cls:=.type "tuple",data:=.seq #[e.key,e.val]}).get? h.objs.size=aX {cls:=.type "tuple",data:=.seq #[e.key,e.val]}:=zu▸W9 u rfl;have vz:(u.push {cls:=.type "tuple",data:=.seq #[e.key,e.val]}).objs.size=h.objs.size+1:=by rw[a0F,zu]
  have H:∀b o,b≠it->h.get? b=aX o->(u.push {cls:=.type "tuple",data:=.seq #[e.key,e.val]}).get? b=aX o:=λb o J x=>WW _ (N.extBut b o J x);show Xk _ _ (Y7 (.ref it) >>= _) _ _ ⟨u.push {cls:=.type "tuple",data:=.seq #[e.key,e.val]},r,p,B,y⟩;rw[zu];generalize u.push {cls:=.type "tuple",data:=.seq #[e.key,e.val]}=v at k Y vz H;have c:h.objs.size≠it:=X1 R;have fin:∀n:Ye,ItI n it d S (i+1) es.size ep->YK it v n->Q (aX (.ref h.objs.size)) ⟨n,r,p,B,y⟩:=λn j' X=>q1 e n he j' (X.extBut _ _ c Y) (by show n.objs.size=_;rw[X.1,vz]) λb o J x=>X.extBut b o J (H b o J x);refine WN ?_;unfold Y7;rcases jr with rfl|⟨a,o,rfl,U,m,r4⟩
  ·refine WN (ZL k rfl (x:=.none) rfl (WV ?_));simp only[if_true];refine WN (ZL k rfl (x:=ok) rfl (WN (ZL k rfl (x:=L) rfl ?_)));refine WN (YA k (by simp) λv3 Z I=>WN (YA Z (by simp) λv4 x4 y4=>WN (YA x4 (by simp) λv5 x5 y5=>WN (YA x5 (by simp) λv6 x6 y6=>?_))));refine WN (a1h (WV (WV ⟨_,rfl,WV (fin v6 ?_ ?_)⟩)))
   ·refine⟨a0m h.objs.size,e.key,e.val,b3,by simpa using x6,.inr ⟨h.objs.size,_,rfl,y6.extBut _ _ c (y5.extBut _ _ c (y4.extBut _ _ c (I.extBut _ _ c Y))),c,X1 hS⟩⟩
   ·exact((I.trans y4).trans y5).trans y6
  ·refine WN (ZL k rfl (x:=a0m a) rfl ?_);show Xk _ _ (loadIfAlive ((a:Int).toNat) >>= _) _ _ _;rw[a0I];refine WN (PySem.W.kdx_alive (H a o m U) ?_);simp only[Option.isNone_some,Xp,if_false];refine WN (ZL k rfl (x:=.bool O) rfl ?_);cases O with
   |true=>rw[if_neg (show ¬ ((Y0 b4 != Y0 b4)=b4)from λx=>Xo x)];refine WV ?_;simp only[Xp,if_false];exact WV (WV ⟨_,rfl,WV (fin v ⟨_,ok,L,b4,k,.inr ⟨a,o,rfl,H a o m U,m,r4⟩⟩ (a3W _ _))⟩)|false=>rw[if_pos (show(Y0 b3 != Y0 b4)=b4 from rfl)];refine WN (YA k (by simp) λv3 Z I=>WV ?_);simp only[Xp,if_false];exact WV (WV ⟨_,rfl,WV (fin v3 ⟨_,ok,L,b4,by simpa using Z,.inr ⟨a,o,rfl,I.extBut a o m (H a o m U),m,r4⟩⟩ I)⟩)
 |none=>refine WN (WN (T (WV ?_)));show Xk _ _ (a2e (.ref it) 2 .none >>= _) _ _ _;refine WN (a0P K rfl (by simp) ?_);show Xk _ _ (a3O (.type "StopIteration") [] >>= _) _ _ _;simp only[a3O,a5P];refine WN (WN (XZ ?_ (by size_fits)));refine WN (m:=ZW _ _) (a1V (a:=X5) (by first|rfl|(simp only[ZW];rfl)) (XZ ?_ (by size_fits)));simp only[a5O];refine WN (a2Y ?_);rw[show A.in1.handled=aY from hh];refine WN (WV (a3X ?thrown));case thrown=>exact WN (a0q (T:="StopIteration") (b:=b4) ⟨_,W9 _ rfl,rfl⟩ a2I (WV (q2 he _ (((YJ ..).extBut.push _).push _))))
theorem PX{r:Addr}{Q:Value->WX->Prop}(a:s.heap.IsItemsView r d)(g:RawD s.heap d es ep)
  (q:Q (.ref s.heap.objs.size) {s with heap:=s.heap.push {cls:=.type "dict_itemiterator",data:=.fields #[.none,.bool b3,.ref d,.int 0 0,.int es.size 0,.int ep 0,.none,.none]}}):Xk (Xv P w) A (a2m (.ref r)) Q E s:=by
 obtain⟨y,e,k,h⟩:=id a;obtain⟨z,b,j,c⟩:=id g;refine a1T a.typeIs F.slot_dict_items_iter (Yo F.slot_dict_items_iter a.typeIs F.entry_dict_items_iter ?_ (F.args_dict_items_iter_1 _));unfold Builtin.«dict_items.__iter__» a0G a0i;refine WN (WV (WN (WN (ZL e h (x:=.ref d) rfl (WV (WN (WN (YU b c (WN (ZK b c ?_))))))))));simp only[show Yr "dict_itemiterator"=b4 by decide,if_true];refine XZ (WV ⟨_,rfl,"dict_itemiterator",_,⟨_,W9 _ rfl,rfl⟩,F.slot_dict_itemiterator_next.lookup,?_⟩) (by simp only[sizeOk,Y8,Xb,W4,Xy,a0X];rw[Xh];omega);simpa[a0m,Y8]using q
end
structure PrsAt(es:Array DictEntry)(lo:Addr)(h:Ye)(as:List Addr):Prop where
 up:as.Pairwise (·<·)
 over:∀a∈as,lo<a
 prs:∀(j:Nat)(a:Addr),as[j]?=aX a->∃e,es[j]?=aX e/\h.get? a=aX {cls:=.type "tuple",data:=.seq #[e.key,e.val]}
theorem PrsAt.stay{es:Array DictEntry}{lo:Addr}{h h':Ye}{as:List Addr}(p:PrsAt es lo h as)(k:∀b o,lo<b->h.get? b=aX o->h'.get? b=aX o):PrsAt es lo h' as:=
 ⟨p.up,p.over,λj a c=>let⟨e,d,g⟩:=p.prs j a c;⟨e,d,k a _ (p.over a (Xn c)) g⟩⟩
theorem PrsAt.lt{es:Array DictEntry}{lo:Addr}{h:Ye}{as:List Addr}(p:PrsAt es lo h as){a:Addr}(b:a∈as):a<h.objs.size:=by obtain⟨j,c⟩:=Y6.mp b;obtain⟨_,_,e⟩:=p.prs j a c;exact W2 e
theorem PrsAt.snoc{es:Array DictEntry}{lo:Addr}{h:Ye}{as:List Addr}{b:Addr}{e:DictEntry}(p:PrsAt es lo h as)(k:∀a∈as,a<b)(m:lo<b)(l:es[as.length]?=aX e)(n:h.get? b=aX {cls:=.type "tuple",data:=.seq #[e.key,e.val]}):PrsAt es lo h (as++[b]):=by
 refine⟨List.pairwise_append.mpr ⟨p.up,a4j _ _,λa d c hc=>by rw[Xe.mp hc];exact k a d⟩,λa d=>?_,λj a g=>?_⟩
 ·rcases XS.mp d with d|d
  ·exact p.over a d
  ·rw[Xe.mp d];exact m
 ·rcases a5C j as.length with i|i|i
  ·rw[XM i]at g;exact p.prs j a g
  ·subst i;have:b=a:=by simpa using g
   subst this;exact⟨e,l,n⟩
  ·rw[YD (by simp;omega)]at g;cases g
section
variable{P:Xw}{w:XF}{A:XC}{s:WX}{R:a3Q->WX->Prop}{es:Array DictEntry}{ep:Nat}{S I d:Addr}
theorem PY(O:A.handled=aY)(v:S<I)(J:d≠S)(H:d≠I)(Z:es.size<=W8)(res:Value){h1:Ye}
  (Q:∀(h':Ye)(tk:Nat)(l:Array Value)(c:Nat)(as:List Addr),(∀b o,b≠S->b≠I->h1.get? b=aX o->h'.get? b=aX o)->h'.get? S=aX {cls:=.type "list",dict:=aY,data:=.seq l c,slots:=#[]}->as.length=es.size->PrsAt es I h' as->l.toList=as.map W5->R (.ok (.ret res)) {s with heap:=h',toks:=tk}) :
  ∀(k i:Nat)(h:Ye)(tk c:Nat)(l:Array Value)(as:List Addr),es.size-i=k->i<=es.size->ItI h I d S i es.size ep->RawD h d es ep->(∀b o,b≠S->b≠I->h1.get? b=aX o->h.get? b=aX o)->h.get? S=aX {cls:=.type "list",dict:=aY,data:=.seq l c,slots:=#[]}->
   l.toList=as.map W5->as.length=i->PrsAt es I h as->I<h.objs.size->a0B (Xv P w) A (.builtin "list.extend.loop" ⟨[.ref S,.ref I,res],[]⟩) R {s with heap:=h,toks:=tk}:=by
 have ne:S≠I:=Xd v;intro k;induction k with
 |zero=>intro i h tk c l as T hi j g M p E y G lt;refine Z9 F.entry_extend_loop ?_;rw[Zb F.plain_extend_loop _];refine WN (m:=a0v (.ref I)) (Ei (s:={s with heap:=h,toks:=tk}) (A:=A.in1) O j g (W2 p) (λe h' n=>?_) λ_ h' x=>WV (Q h' tk l c as (λb o B r z=>x b o r (M b o B r z)) (x S _ ne p) (by omega) (G.stay λb o q z=>x b o (X1 q) z) E));rw[a1S (by omega)]at n;cases n|succ k X=>
  intro i h tk c l as T hi j g M p E y G lt;have sz:l.size=i:=by rw[<- Zk,E,WO,y]
  refine Z9 F.entry_extend_loop ?_;rw[Zb F.plain_extend_loop _];refine WN (m:=a0v (.ref I)) (Ei (s:={s with heap:=h,toks:=tk}) (A:=A.in1) O j g (W2 p) (λe h' n Y L U m=>?_) λn=>?_)
  ·dsimp only at L U m ⊢;have u:=m S _ ne p;have N:S<h.objs.size:=W2 p;have up:∀b o,b≠S->h'.get? b=aX o->(h'.update S (Yi (·.push (W5 h.objs.size)))).get? b=aX o:=λb o q z=>(Yl _ _ (XI q)).trans z;refine WN (m:=a3L S (·.push (W5 h.objs.size))) (Z6 u rfl (WV ⟨Zx F.plain_extend_loop _,?_⟩) (by rw[sz];omega) (by show(l.push (W5 h.objs.size)).size<=W8+1;rw[Array.size_push,sz];omega));refine X (i+1) _ tk _ (l.push (W5 h.objs.size)) (as++[h.objs.size]) (by omega) (by omega) (Y.stay (XI ne) up) (g.stay λo z=>up d o J (m d o H z)) (λb o B r z=>up b o B (m b o r (M b o B r z))) (Yq _ u rfl) (by rw[a4U,E,Xj];rfl) (by rw[W4,y];rfl) ?_ ?_
   ·exact((G.stay λb o q z=>up b o (X1 (a1j v q)) (m b o (X1 q) z))).snoc (λa K=>G.lt K) lt (by rw[y];exact n) (up _ _ (X1 N) L)
   ·exact a1j lt (W2 (up _ _ (X1 N) L))
  ·rw[a1w (by omega)]at n;cases n
theorem PZ{r:Addr}{res:Value}{c0:Nat}(H:A.handled=aY)(p:s.heap.IsItemsView r d)(g:RawD s.heap d es ep)(Sr:S≠r)(x:d≠S)(z:s.heap.get? S=aX {cls:=.type "list",data:=.seq #[] c0}) (K:es.size<=W8)
  (E:∀(h':Ye)(tk:Nat)(k:Array Value)(c:Nat)(as:List Addr),(∀b o,b≠S->s.heap.get? b=aX o->h'.get? b=aX o)->h'.get? S=aX {cls:=.type "list",dict:=aY,data:=.seq k c,slots:=#[]}->as.length=es.size->PrsAt es s.heap.objs.size h' as->k.toList=as.map W5->R (.ok (.ret res)) {s with heap:=h',toks:=tk}) :
  Xk (Xv P w) A.in1 (YQ (.ref S) (.ref r) res) (λfin n=>match fin with|.done f=>R (.ok f) n|.again c'=>c'.quiet=b4/\a0B (Xv P w) A c' R n) (λe n=>R (.error e) n) s:=by
 have v:S<s.heap.objs.size:=W2 z;have B:d<s.heap.objs.size:=g.lt;have run:∀(h:Ye)(c1 tk:Nat),(∀b o,b≠S->(s.heap.push {cls:=.type "dict_itemiterator",data:=.fields #[.none,.bool b3,.ref d,.int 0 0,.int es.size 0,.int ep 0,.none,.none]}).get? b=aX o->h.get? b=aX o)->h.get? S=aX {cls:=.type "list",data:=.seq #[] c1}->
   a0B (Xv P w) A (.builtin "list.extend.loop" ⟨[.ref S,.ref s.heap.objs.size,res],[]⟩) R {s with heap:=h,toks:=tk}:=by
  intro h c1 tk q i;have y:=q s.heap.objs.size _ (X1 v) (W9 _ rfl);exact PY (s:=s) (h1:=s.heap) (ep:=ep) H v x (Xd B) K res (λh' u k c as M N O Q T=>E h' u k c as (λb o l e=>M b o l (Xd (W2 e)) e) N O Q T) es.size 0 h tk c1 #[] [] (Nat.sub_zero _) (XJ _)
   ⟨.none,.none,.none,b3,y,.inl rfl⟩ (g.stay λo e=>q d o x (WW _ e)) (λb o l _ e=>q b o l (WW _ e)) i rfl rfl ⟨a3J,λ_ G=>(by cases G),λj a J=>(by simp at J)⟩ (W2 y)
 unfold YQ;refine WN (wpAny_typeOf (T:="dict_items") p.typeIs ?_);simp only[show Z5 (.ref S) (.ref r)=b3 by simp[Z5,Sr],show(Xl "dict_items"==Xl "list")=b3 by decide,show(Xl "dict_items"==Xl "tuple")=b3 by decide,a2z,Xp,if_false];refine WN (PX p g ?_);have i:=WW {cls:=.type "dict_itemiterator",data:=.fields #[.none,.bool b3,.ref d,.int 0 0,.int es.size 0,.int ep 0,.none,.none]} z;refine WN (X4 (PySem.W.kdx_hint (let⟨o,L,hc,_⟩:=p;⟨o,WW _ L,hc⟩) ?_));refine Z8 (λ_=>?_) (λ_=>WV ⟨Zx F.plain_extend_loop _,run _ c0 _ (λb o _ e=>e) i⟩);refine WN (a1b (WN ?_));refine WN (m:=a3L S (·.push .none)) (Z6 i rfl ?_);have m:=Yq (Yi (·.push X5)) i rfl;refine Z6 (hz:=by seq_fits) m rfl (WV ⟨Zx F.plain_extend_loop _,run _ _ _ (λb o l e=>?_) (Yq (Yi (·.pop)) m rfl)⟩);exact(Yl _ _ (XI l)).trans ((Yl _ _ (XI l)).trans e)
theorem P0{r:Addr}{E:Value->WX->Prop}{T:gq->WX->Prop}(G:A.handled=aY)(u:s.heap.IsItemsView r d)(g:RawD s.heap d es ep)(H:es.size<=W8)
  (q:∀(h':Ye)(tk:Nat)(as:List Addr),(∀b o,s.heap.get? b=aX o->h'.get? b=aX o)->as.length=es.size->PrsAt es s.heap.objs.size h' as->s.heap.objs.size<=h'.objs.size->T (as.map W5) {s with heap:=h',toks:=tk}):Xk (Xv P w) A (collect (.ref r)) T E s:=by
 have J:r<s.heap.objs.size:=let⟨_,n,_⟩:=u;W2 n
 unfold collect
 refine WN (wpAny_runValue (Z9 a7k ?_))
 rw[Zb F.plain_proto_collect _]
 refine WN (m:=newList []) (XZ (WV ⟨Zx F.plain_list_iadd _,Z9 a7l ?_⟩))
 rw[Zb F.plain_list_iadd _]
 have z:(s.heap.push {cls:=.type "list",data:=.seq ([]:gq).toArray}).get? s.heap.objs.size=aX {cls:=.type "list",data:=.seq #[]}:=W9 _ rfl
 have all:=PZ (A:=A) (s:={s with heap:=s.heap.push {cls:=.type "list",data:=.seq ([]:gq).toArray}}) (P:=P) (w:=w) (es:=es) (ep:=ep) (res:=.ref s.heap.objs.size) (c0:=0)
  (R:=λ(q:a3Q)(p:WX)=>∃(h':Ye)(tk:Nat)(h:Array Value)(c:Nat)(as:List Addr),q=.ok (.ret (.ref s.heap.objs.size))/\p={s with heap:=h',toks:=tk}/\(∀b o,s.heap.get? b=aX o->h'.get? b=aX o)/\h'.get? s.heap.objs.size=aX {cls:=.type "list",dict:=aY,data:=.seq h c,slots:=#[]}/\as.length=es.size/\PrsAt es s.heap.objs.size h' as/\h.toList=as.map W5)
  G (let⟨o,n,x⟩:=u;⟨o,WW _ n,x⟩) (g.stay λo e=>WW _ e) (X1 J) (Xd g.lt) z H
  (λh' tk h c as k i l j m=>⟨h',tk,h,c,as,rfl,rfl,λb o e=>k b o (Xd (W2 e)) (WW _ e),i,l,⟨j.up,λa B=>a1j (YW _) (by have:=j.over a B;rw[a0F]at this;exact this),j.prs⟩,m⟩)
 refine Ym all (λfin p x=>?_) λe p x=>?_
 ·cases fin with
  |done f=>
   obtain⟨h',tk,h,c,as,e,rfl,k,i,l,j,m⟩:=x
   cases e
   refine WN (m:=load s.heap.objs.size) (a6k i (WV ?_))
   show T h.toList _
   rw[m]
   exact q h' tk as k l j (ZZ (W2 i))
  |again c1=>
   refine⟨x.1,a3s x.2 λy K x=>?_⟩
   obtain⟨h',tk,h,c,as,rfl,rfl,k,i,l,j,m⟩:=x
   refine WN (m:=load s.heap.objs.size) (a6k i (WV ?_))
   show T h.toList _
   rw[m]
   exact q h' tk as k l j (ZZ (W2 i))
 ·obtain⟨_,_,_,_,_,v,_⟩:=x
  cases v
end
end L3
namespace L3
open PySem L2 PySem.W PyProof.Rows
section
variable{P:Xw}{w:XF}{A:XC}{E:Value->WX->Prop}{s:WX}
theorem P1{v:Value}{Q:Bool->WX->Prop}(q:Q b4 s):Xk (Xv P w) A (eqBool v v) Q E s:=by unfold eqBool;refine X4 ?_;rw[if_pos (by simp)];exact WN (a1b (WV q))
theorem zP:∀k:List Int,HT.lexLt k k=b3
 |[]=>rfl|a::k=>by simp[HT.lexLt,zP k]
noncomputable def jU(P:Xw)(w:XF)(h:Ye)(b:Addr)(k:List Int):Prop:=Tb.IsT P w h k b/\∃xs:gq,a3B h b xs.toArray/\ZU xs k
theorem P2{a g b h:Addr}{v l:Value}{k k':List Int}{C:Bool->WX->Prop}(j:A.units<YL)(m:s.heap.get? a=aX {cls:=.type "tuple",data:=.seq #[.ref b,v]}) (d:s.heap.get? g=aX {cls:=.type "tuple",data:=.seq #[.ref h,l]})
  (i:jU P w s.heap b k)(c:jU P w s.heap h k')(n:k=k'->v=l)(q:C (HT.lexLt k k') s):Xk (Xv P w) A (keyLt' (tuples' b3) (.ref a) (.ref g)) C (λ_ _=>False) s:=by
 refine kat_lt m rfl d rfl ?_;refine kat_cons ((a0r (a0A P w)).eqBool j i.1 c.1 ?_);by_cases e:k=k'
 ·obtain rfl:=n e;subst e;rw[decide_eq_true rfl];refine kat_yes (kat_cons (P1 (kat_yes (kat_nil ?_))));rw[zP]at q;exact q
 ·rw[decide_eq_false e];obtain⟨x,r,o⟩:=i.2;obtain⟨y,u,p⟩:=c.2;refine kat_no (kat_one _ _ (HT.lt_tupInts r u (by simpa using o) (by simpa using p) j ?_));exact q
noncomputable def pV(P:Xw)(w:XF)(A:XC)(us:gq)(an:Nat->Nat->Bool)(s:WX):Prop:=
 Xk (Xv P w) A (keyKind' us.toArray) (λb a=>a=s/\∀(i j:Nat)(C:Bool->WX->Prop),i<us.length->j<us.length->C (an i j) s->Xk (Xv P w) A (keyLt' b (us.getD i .none) (us.getD j .none)) C (λ_ _=>False) s) (λ_ _=>False) s
theorem P5{es:Array DictEntry}{lo:Addr}{as bs:List Addr}{ks:List (List Int)}(Y:A.units<YL)(p:PrsAt es lo s.heap as)(h0:0<as.length)(hl:as.length=es.size)(hk:ks.length=es.size)(X:bs.length=es.size)(key:∀(j:Nat)(e:DictEntry),es[j]?=aX e->e.key=.ref (bs.getD j 0)/\jU P w s.heap (bs.getD j 0) (ks.getD j []))
  (nd:ks.Nodup):pV P w A (as.map W5) (λi j=>HT.lexLt (ks.getD i []) (ks.getD j [])) s:=by
 have d:∀i,i<as.length->∃(e:DictEntry),es[i]?=aX e/\s.heap.get? (as.getD i 0)=aX {cls:=.type "tuple",data:=.seq #[.ref (bs.getD i 0),e.val]}/\jU P w s.heap (bs.getD i 0) (ks.getD i []):=λi hi=>by
  have L:as[i]?=aX (as.getD i 0):=by simp[X8,hi]
  obtain⟨e,q,l⟩:=p.prs i _ L;obtain⟨k1,r⟩:=key i e q;rw[k1]at l;exact⟨e,q,l,r⟩
 unfold pV;have m:KatTups s.heap (as.map W5) (bs.map W5):=by
  have R:∀(n:Nat)(a c:List Addr),a.length=n->c.length=n->(∀i,i<n->∃v:Value,s.heap.get? (a.getD i 0)=aX {cls:=.type "tuple",data:=.seq #[.ref (c.getD i 0),v]})->KatTups s.heap (a.map W5) (c.map W5):=by
   intro n;induction n with
   |zero=>intro a c g k _;rw[Ze.mp g,Ze.mp k];exact .nil|succ n Z=>
    intro a c g k J;match a,c,g,k with
    |x::a,y::c,g,k=>obtain⟨v,H⟩:=J 0 (by omega);refine .cons H rfl rfl (by simp) (Z a c (by simpa using g) (by simpa using k) λi hi=>?_);have:=J (i+1) (by omega);simpa using this
  refine R as.length as bs rfl (by omega) λi hi=>?_;obtain⟨e,_,l,_⟩:=d i hi;exact⟨_,l⟩
 refine kat_kind (T:=.type "tuple") m (by rw[WO];omega) (λv H=>?_) (by decide) ⟨rfl,λi j C hi G T=>?_⟩
 ·obtain⟨b,U,rfl⟩:=W0.mp H;obtain⟨i,hi⟩:=Y6.mp U;have u:i<as.length:=by have:=(WR.mp hi).1;omega
  obtain⟨e,_,_,r⟩:=d i u;have:bs.getD i 0=b:=by simp[X8,hi]
  rw[this]at r;obtain⟨xs,⟨o,o1,o2,_⟩,_⟩:=r.2;exact kitAt_ty _ _ ⟨o,o1,o2⟩
 ·rw[WO]at hi G;obtain⟨e,q,l,K⟩:=d i hi;obtain⟨e',I,M,N⟩:=d j G;have O:(as.map W5).getD i .none=.ref (as.getD i 0):=by simp[X8,hi]
  have Q:(as.map W5).getD j .none=.ref (as.getD j 0):=by simp[X8,G]
  rw[O,Q];refine P2 Y l M K N (λz=>?_) T;have B:i=j:=by
   have g:ks.getD i []=ks[i]:=by simp[X8,show i<ks.length by omega]
   have k:ks.getD j []=ks[j]:=by simp[X8,show j<ks.length by omega]
   rw[g,k]at z;rcases a5C i j with h|h|h
   ·exact absurd z ((a1x.mp nd) i j (by omega) (by omega) h)
   ·exact h
   ·exact absurd z.symm ((a1x.mp nd) j i (by omega) (by omega) h)
  subst B;rw[q]at I;cases I;rfl
end
section
variable{P:Xw}{w:XF}{A:XC}{E:Value->WX->Prop}{s:WX}
theorem Ej{c:Addr}{us:gq}{z:Nat}{R:PySem.Fin->WX->Prop}{an:Nat->Nat->Bool}(L:2<=us.length)(l:us.length<64)(g:s.heap.get? c=aX (Yu "list" us.toArray z)) (H:∀G:Ye,(∀b o,b≠c->s.heap.get? b=aX o->G.get? b=aX o)->pV P w A us an {s with heap:=G})
  (q:R (.done (.ret .none)) {s with heap:=a3g s.heap c us ((cE an us.length).map λi=>us.getD i X5).toArray}):Xk (Xv P w) A (Builtin.«list.sort» ⟨[.ref c],[]⟩) R E s:=by
 rw[a6Y]
 refine WN (listItems_at g rfl (WN (a3b g rfl ?_ (by rw[Xb,Xh];omega) (XJ _))))
 obtain⟨y,v⟩:∃y,(s.heap.update c (Yi λ_=>#[])).get? c=aX (Yu "list" #[] y):=⟨_,a7a g _⟩
 refine WN (a3Z v rfl (WN (a2F (WN (a0y (X4 ?_) (XJ _))) (by show us.length<=_;rw[Xh];omega))))
 have B:(((s.heap.update c (Yi λ_=>#[])).push (Yu "tuple" us.toArray 0)).push (Yu "list" #[] 0)).get? c=aX (Yu "list" #[] y):=
  WW _ (WW _ v)
 have ask:=H (((s.heap.update c (Yi λ_=>#[])).push (Yu "tuple" us.toArray 0)).push (Yu "list" #[] 0)) λb o N e=>WW _ (WW _ ((Yl _ _ (XI N)).trans e))
 show Xk (Xv P w) A _ R E ⟨((s.heap.update c (Yi λ_=>#[])).push (Yu "tuple" us.toArray 0)).push (Yu "list" #[] 0),s.gens,s.drawn,s.toks,s.os⟩
 dsimp only
 have h:¬ us.toArray.size<2:=by rw[Xb];omega
 rw[if_neg h,if_neg h]
 refine WN (Ym ask (λT k m=>?_) λ_ _ x=>x.elim)
 obtain⟨rfl,m⟩:=m
 refine WN (Ym (kat_run (ks:=us) (vs:=us) (κ:=T) (Q:=λa k=>k={s with heap:=((s.heap.update c (Yi λ_=>#[])).push (Yu "tuple" us.toArray 0)).push (Yu "list" #[] 0)}/\failedOf a=aY/\(arrOf a).map (·.2)=((cE an us.length).map λi=>us.getD i X5).toArray)
  (G:=λp k=>k={s with heap:=((s.heap.update c (Yi λ_=>#[])).push (Yu "tuple" us.toArray 0)).push (Yu "list" #[] 0)}/\p.toList=cE an us.length) rfl L l (λp a k U J K u=>⟨u.1,K,by rw[kat_snds rfl J,u.2]⟩)
  (yQ (n:=us.length) (ans:=an) (λi j C hi O M=>m i j C hi O M) (yT (by omega)) ⟨rfl,rfl⟩)) (λr k Q=>?_) λ_ _ e=>e)
 obtain⟨⟨⟩,a⟩:=r
 obtain⟨rfl,I,d⟩:=Q
 dsimp only at I d ⊢
 rw[d]
 have n:((cE an us.length).map λi=>us.getD i X5).length=us.length:=by
  rw[WO,(pM an (n:=us.length) (by omega)).length_eq,a2P]
 refine WN (a3Z B rfl (WN (a3b B rfl ?_ (hsz2:=by rw[Xb,n,Xh];omega))))
 rw[I]
 simp only[bne_self_eq_false,Xp,if_false]
 exact WV q
theorem P7{r d:Addr}{es:Array DictEntry}{ep:Nat}{Q:Value->WX->Prop}{an:Nat->Nat->Bool}(J:A.handled=aY)(K:s.heap.IsItemsView r d)(g:RawD s.heap d es ep)(B:es.size<64)
  (H:2<=es.size->∀(h:Ye)(tk:Nat)(as:List Addr),(∀b o,s.heap.get? b=aX o->h.get? b=aX o)->as.length=es.size->PrsAt es s.heap.objs.size h as->pV P w A.in1.in1 (as.map W5) an {s with heap:=h,toks:=tk})
  (q:∀(h:Ye)(tk:Nat)(as:List Addr)(L e:Nat),(∀b o,s.heap.get? b=aX o->h.get? b=aX o)->as.length=es.size->PrsAt es s.heap.objs.size h as->s.heap.objs.size<=L->(∀a∈as,a≠L)->h.get? L=aX (Yu "list" ((cE an es.size).map λi=>W5 (as.getD i 0)).toArray e)->Q (.ref L) {s with heap:=h,toks:=tk}) :
  Xk (Xv P w) A (call (.builtin "sorted") [.ref r]) Q E s:=by
 refine a1v a5R a5b a5e (a5f _) ?_
 unfold a2x
 refine WN (m:=a6p "sorted" 1 1 _) (WV (WN (P0 (A:=A.in1) J K g (by rw[Xh];omega) λc tk as y n u l=>?_)))
 have z:(as.map W5).length=es.size:=by rw[WO,n]
 refine WN (a0y ?_ (by rw[z,Xh];omega))
 have k:(c.push (Yu "list" (as.map W5).toArray 0)).get? c.objs.size=aX (Yu "list" (as.map W5).toArray 0):=W9 _ rfl
 have fin:∀j:gq,j=((cE an es.size).map λi=>W5 (as.getD i 0))->Q (.ref c.objs.size) {s with heap:=a3g (c.push (Yu "list" (as.map W5).toArray 0)) c.objs.size (as.map W5) j.toArray,toks:=tk}:=by
  rintro j rfl
  obtain⟨e,I⟩:=sortedHeap_at (h:=c.push (Yu "list" (as.map W5).toArray 0)) (out:=((cE an es.size).map λi=>W5 (as.getD i 0)).toArray) k
  have m:∀b o,c.get? b=aX o->(a3g (c.push (Yu "list" (as.map W5).toArray 0)) c.objs.size (as.map W5) ((cE an es.size).map λi=>W5 (as.getD i 0)).toArray).get? b=aX o:=λb o x=>by
   rw[a7D (Xd (W2 x)) (by rw[a0F];exact a2W (W2 x))]
   exact WW _ x
  exact q _ tk as c.objs.size e (λb o x=>m b o (y b o x)) n (u.stay λb o _ x=>m b o x) l (λa G=>Xd (u.lt G)) I
 by_cases p:2<=es.size
 ·refine WN (X4 (Yo a1I (s:={s with heap:=c.push (Yu "list" (as.map W5).toArray 0),toks:=tk}) ⟨_,k,rfl⟩ a1r (Ej (an:=an) (by omega) (by omega) k (λh v=>?_) ⟨_,rfl,?_⟩) (a1K _)))
  ·exact H p h tk as (λb o e=>v b o (Xd (Xq (W2 e) l)) (WW _ (y b o e))) n (u.stay λb o M e=>v b o (Xd (W2 e)) (WW _ e))
  ·refine WV ⟨_,rfl,fin _ ?_⟩
   rw[z]
   refine Xs λi hi=>?_
   have hi:i<as.length:=by
    have:=YR.mp ((jS an es.size).mem_iff.mp hi)
    omega
   simp[X8,hi]
 ·refine WN (X4 (Yo a1I (s:={s with heap:=c.push (Yu "list" (as.map W5).toArray 0),toks:=tk}) ⟨_,k,rfl⟩ a1r (yV (by omega) k ⟨_,rfl,?_⟩) (a1K _)))
  refine WV ⟨_,rfl,fin (as.map W5) ?_⟩
  match as,n with
  |[],e=>rw[<- e];show[]=(cE _ 0).map _;rw[yX];rfl
  |[b],e=>rw[<- e];show[W5 b]=(cE _ 1).map _;rw[yW];rfl
  |_::_::_,e=>rw[<- e]at p;simp at p
end
end L3
namespace L3
open PySem L2
noncomputable def lQ(ps:bR):bR:=(cE (λi j=>HT.lexLt ((ps.map (·.1)).getD i []) ((ps.map (·.1)).getD j [])) ps.length).map λi=>ps.getD i ([],0,.non)
theorem sortT_perm{ps:bR}:(lQ ps).Perm ps:=by
 unfold lQ;have p:=(jS (λi j=>HT.lexLt ((ps.map (·.1)).getD i []) ((ps.map (·.1)).getD j [])) ps.length).map λi=>ps.getD i ([],0,.non);have e:(X9 ps.length).map (λi=>ps.getD i ([],0,.non))=ps:=by refine a5G (by simp) λi b a=>?_;simp[X8,a]
 rw[e]at p;exact p
section
variable{P:Xw}{w:XF}
theorem Ek(d:Addr)(hd:(d==YG)=b3):a6D P w (Builtin.«dict.items» ⟨[.ref d],[]⟩) (λ_ R s=>(∃es ep,RawD s.heap d es ep) /\
   R (.ok (.ret (.ref s.heap.objs.size))) {s with heap:=s.heap.push {cls:=.type "dict_items",data:=.fields #[.ref d]}}):=
 .of_wp λA R s ⟨⟨es,ep,g⟩,h⟩=>by unfold Builtin.«dict.items»;refine WN ?_;unfold a1R;refine WN (a0U g.ty ?_);show Xk _ _ (pure d) _ _ s;refine WV ?_;show Xk _ _ (Zj d >>= _) _ _ s;unfold Zj;rw[if_neg (by rw[hd];exact Xo)];refine WN (WV ?_);exact WN (XZ (WV ⟨_,rfl,h⟩))
end
noncomputable def fU(kvs:jx):jx:=(cE (λi j=>HT.lexLt ((kvs.map (·.1)).getD i []) ((kvs.map (·.1)).getD j [])) kvs.length).map λi=>kvs.getD i ([],.non)
theorem Em{a b:Type}{R:a->b->Prop}{as:List a}{bs:List b}(h:a1M R as bs)(c:a)(d:b):∀i,i<as.length->R (as.getD i c) (bs.getD i d):=by
 induction h with
 |nil=>exact λi hi=>nomatch hi|cons e t g=>
  intro i hi;cases i with
  |zero=>exact e|succ i=>exact g i (by simpa using hi)
theorem zQ{a b:Type}{R:a->b->Prop}{f:Nat->a}{g:Nat->b}:∀{l:List Nat},(∀i∈l,R (f i) (g i))->a1M R (l.map f) (l.map g)
 |[],_=>.nil|i::l,h=>.cons (h i (Xf ..)) (zQ λj c=>h j (Xc _ c))
theorem P8{K:WQ}{π:Nat->Addr}{n:Nat}{H:Hp}{ps:bR}{kvs:jx}(h:IsTs K π n H ps kvs):ps.length=kvs.length/\IsTs K π n H (lQ ps) (fU kvs):=by
 have a:=h.to.1;have b:ps.length=kvs.length:=by have:=congrArg X0 a;simpa using this
 refine⟨b,?_⟩;unfold lQ fU;rw[a,b];refine zQ λi hi=>Em h _ _ i ?_;have:=YR.mp ((jS _ kvs.length).mem_iff.mp hi);omega
noncomputable def pW(mk mv:ME):ME:=λb a=>(mk b (a++[.dT []])).bind λp=>(mv b p.2).bind λq=>match q.2[a.length]? with
 |some (.dT [])=>(c5 p.1).map λk=>(.loc a.length,q.2.set a.length (.dT [(k,q.1)]))|_=>aY
section
variable{X:Cx}{k v:Expr}{mk mv:ME}{tk tv:TE}{pos:YE}
noncomputable def P9(K:WQ)(tk tv:TE):TE:=λσ H Q=>∀p,H p=aY->tk σ (aM H p (aU p [])) λx d=>tv σ d λy a=>a p=aX (aU p [])/\∃b c,x=.ref b/\SqT K a b (c.map V.int)/\Q (.ref p) (aM a p (aU p [(c,b,y)]))
theorem Qa(K:X.A.units+1<YL)(n:PE X k tk)(w:PE X v tv):PE X (.Dict [aX k] [v] pos) (P9 X.K tk tv):=by intro a s c H Q I q;have o:=I.hok.fresh (WY s.heap.objs.size);have h:=I.laid (a:=s.heap.objs.size) (o:=aU s.heap.objs.size []) (h':=s.heap.push {cls:=.type "dict",data:=.dict #[]}) (t':=s.toks) (λ_ _ q=>WW _ q) (WY _) (D5 s.heap I.big);refine wpAny_Dict_any rfl rfl (by simp) (by simp) (pairTrees_cons_walk (aV (n a _ c _ _ h (q _ o)) λu G ⟨x,d,i,B,z⟩=>aV (w a G c d _ i z) λO N ⟨y,J,j,E,e,b,L,l,m,A⟩=>pairTrees_nil_walk ?_));subst l;obtain rfl:u=W5 b:=B;unfold storeAll;refine WN (WN (PV (by omega) j e (λp r=>nomatch r) m (by rw[Xh];simp) E λM g _=>WV (WV ?_)));exact⟨.ref s.heap.objs.size,_,g,rfl,A⟩
theorem Qb{n:Nat}(Z:Room n X.A)(U:QE X k mk)(hv:QE X v mv):QE X (.Dict [aX k] [v] pos) (pW mk mv):=⟨dE (Qa (jP Z) U.h hv.h) (by
 rintro σ H Q ⟨π,K,h,d,μ',R,E,a,kc⟩ p Y;obtain⟨⟨x,c⟩,N,a⟩:=WM.mp a;obtain⟨⟨y,e⟩,O,a⟩:=WM.mp a;obtain⟨q,M,q1⟩:=R.alloc (c:=.dT []) (o:=aU p []) Y ⟨[],rfl,rfl,.nil,.nil⟩;refine⟨_,K,_,x,c,M,E.mono q,N,λz v1 H1 m R2 i1=>⟨z,K,c,y,e,R2,(E.mono q).mono m,O,λg J L r A i2=>?_⟩⟩;dsimp only at a;split at a
 ·rename_i hc;obtain⟨l,u,a⟩:=WS.mp a;cases a;have i:h.length<e.length:=(WR.mp hc).1;have w:(h++[C.dT []]).length<=c.length:=m.le;have j:g h.length=p:=by rw[r.pi h.length (by simp at w;omega),m.pi h.length (by simp),q1]
  obtain⟨ps,s,T⟩:=gZ A hc;cases T;obtain⟨b,rfl,I⟩:=kJ (i1.mono r) u;obtain⟨G,B⟩:=A.put (a:=h.length) (c:=.dT [(l,y)]) (o:=aU _ [(l,b,J)]) i s (.inr (.inr ⟨_,rfl⟩)) (by
   have o:IsTs X.K g e.length L [(l,b,J)] [(l,y)]:=.cons ⟨rfl,I,i2⟩ .nil;exact⟨_,rfl,o.to.1,o.to.2.1,o.to.2.2⟩)
  rw[j]at s G B;refine⟨s,b,l,rfl,I,kc g _ _ (((q.trans m).trans r).trans G) B ?_⟩;rw[<- j];exact .loc (by rw[XO];exact i)
 ·cases a)⟩
end
section
variable{X:Cx}{a7J pins0:jw}{σ σ0:St}{H H0:Hp}{s s0:WX}{a:Addr}{ps ps0:bR}{ob:Obj}
theorem Inv.freeze(I:Inv X a7J σ H s)(e:H a=aX (aU a ps))(c:s.heap.get? a=aX ob):Inv X a7J σ (aM H a (.frz ob (aU a ps))) s:=by have ok:ObjOk X.prog X.w H s.heap a (aU a ps):=I.hok a _ e;exact I.write (x:=a) (e:=a) (h':=s.heap) (t':=s.toks) (by rw[e];exact a0s) (.inl rfl) (λb q _ z=>z) ⟨ob,c⟩ ⟨c,ok⟩
theorem Inv.thaw(m:Inv X pins0 σ0 H0 s0)(n:H0 a=aX (aU a ps0))(I:Inv X a7J σ H s)(e:H a=aX (.frz ob (aU a ps))):Inv X a7J σ (aM H a (aU a ps)) s:=by
 have ne:∀{b:Addr},H b=aY->b≠a:=λ{b} h z=>by rw[z,e]at h;cases h
 refine⟨I.ok,I.os,I.bare,⟨I.base.keep,I.base.slot,λb o d g i=>?_,I.base.there,λb k h=>?_,λb o u h=>?_,λb v h=>?_⟩,I.loc,I.cell,?_,λx c h=>?_,λp r=>?_,λb u q=>?_,I.len⟩
 ·have:=I.base.free b o d g i;rw[bF (ne this)];exact this
 ·have:=I.base.tups b k h;rw[bF λz=>by rw[z,e]at this;cases this];exact this
 ·have:=I.base.frzs b o u h;rw[bF λz=>by
   have l:=m.base.frzs b o u h;rw[z,n]at l;cases l]
  exact this
 ·obtain⟨more,d⟩:=I.base.tbls b v h;exact⟨more,by rw[bF λz=>by rw[z,e]at d;cases d];exact d⟩
 ·rw[bF (ne I.free)];exact I.free
 ·have:=I.freeC x c h;rw[bF (ne this)];exact this
 ·obtain⟨d,g,i⟩:=I.pin p r;exact⟨d,by rw[bF (ne g)];exact g,i⟩
 ·by_cases j:b=a
  ·subst j;rw[cQ]at q;cases q;exact(show ObjOk X.prog X.w H s.heap b (.frz ob (aU b ps))from I.hok b _ e).2
  ·rw[bF j]at q;exact(I.hok b u q).stay (λ_ _ _ z=>z) (λc h=>by rw[bF λz=>by rw[z,e]at h;cases h];exact h) λc k h=>by rw[bF λz=>by rw[z,e]at h;cases h];exact h
end
noncomputable def mQ(i:Nat)(c:aG)(b:Hm):Option (Nat×jx):=match c[i]? with
 |some (aX (.loc a))=>match b[a]? with
  |some (.dT kvs)=>aX (a,kvs)|_=>aY
 |_=>aY
theorem Eo{i:Nat}{c:aG}{b:Hm}{a:Nat}{kvs:jx}(h:mQ i c b=aX (a,kvs)):b[a]?=aX (.dT kvs):=by
 unfold mQ at h;split at h
 ·split at h
  ·rename_i hc;cases h;exact hc
  ·cases h
 ·cases h
noncomputable def pX(i:Nat)(d e:ME):ME:=λc b=>match mQ i c b with
 |some (a,kvs)=>(d c (b.set a (.dF kvs))).bind λr=>match r.2[a]? with
  |some (.dF kvs')=>aX (r.1,r.2.set a (.dT kvs'))|_=>aY
 |none=>e c b
noncomputable def d9(i:Nat)(d e:MS):MS:=λc b=>match mQ i c b with
 |some (a,kvs)=>(d c (b.set a (.dF kvs))).bind λr=>match r.2.2[a]? with
  |some (.dF kvs')=>aX (r.1,r.2.1,r.2.2.set a (.dT kvs'))|_=>aY
 |none=>e c b
section
variable{X:Cx}{a7J:jw}{σ:St}{H:Hp}{s:WX}{π:Nat->Addr}{ρ:aG}{μ:Hm}{a:Nat}{kvs:jx}
theorem Ep(I:Inv X a7J σ H s)(R:Rp X.K π H μ)(E:En X.K π μ.length H σ ρ)(hc:μ[a]?=aX (.dT kvs)):∃b ps,H (π a)=aX (aU (π a) ps)/\Inv X a7J σ (aM H (π a) (.frz b (aU (π a) ps))) s /\
  Rp X.K π (aM H (π a) (.frz b (aU (π a) ps))) (μ.set a (.dF kvs))/\En X.K π (μ.set a (.dF kvs)).length (aM H (π a) (.frz b (aU (π a) ps))) σ ρ:=by
 obtain⟨ps,c,T⟩:=gZ R hc;obtain⟨_,⟨b,e⟩,_⟩:=(show ObjOk X.prog X.w H s.heap (π a) (aU (π a) ps)from I.hok _ _ c);obtain⟨d,R2⟩:=R.put (c:=.dF kvs) (o:=.frz b (aU (π a) ps)) (WR.mp hc).1 c (.inr (.inr ⟨_,rfl⟩)) ⟨b,ps,rfl,T.to⟩;exact⟨b,ps,c,Inv.freeze I c e,R2,E.mono d⟩
theorem rM{i:jw}{n:St}{k:Hp}{x:WX}{c:Nat->Addr}{g:Hm}{E:Obj}{ps:bR}{d:jx}(I:Inv X a7J σ H s)(e:H (π a)=aX (aU (π a) ps))(A:a<μ.length)
  (y:Inv X i n k x)(w:Rp X.K c k g)(l:Ext π (μ.set a (.dF kvs)).length (aM H (π a) (.frz E (aU (π a) ps))) c g.length k)(hc:g[a]?=aX (.dF d)) :
  ∃q,Inv X i n q x/\Ext π μ.length H c (g.set a (.dT d)).length q/\Rp X.K c q (g.set a (.dT d))/\Ext0 c g.length k c (g.set a (.dT d)).length q:=by
 have r:c a=π a:=l.pi a (by rw[XO];exact A);obtain⟨G,j,v,T⟩:=rH w hc;obtain⟨K,R2⟩:=w.put0 (c:=.dT d) (o:=aU (c a) j) (WR.mp hc).1 v (.inr (.inr (.inr ⟨_,_,rfl⟩))) ⟨j,rfl,T.to⟩;rw[r]at v;refine⟨aM k (c a) (aU (c a) j),?_,⟨?_,λb B=>l.pi b (by rw[XO];exact B),λp J h=>?_,λp o u h=>?_⟩,R2,K⟩
 ·rw[r];exact Inv.thaw I e y v
 ·have:=l.le;rw[XO]at this ⊢;exact this
 ·have m:p≠π a:=λz=>by rw[z,e]at h;cases h
  have:=l.tup p J (by rw[bF m];exact h);rw[r,bF m];exact this
 ·have m:p≠π a:=λz=>by rw[z,e]at h;cases h
  have:=l.frz p o u (by rw[bF m];exact h);rw[r,bF m];exact this
theorem En.mono0{K:WQ}{b:Nat->Addr}{n g:Nat}{c:Hp}(E:En K π n H σ ρ)(e:Ext0 π n H b g c):En K b g c σ ρ:=
 ⟨E.len,λi d h=>let⟨v,j,k⟩:=E.get i d h;⟨v,j,k.mono0 e⟩⟩
end
section
variable{X:Cx}{e:Expr}{st:Stmt}{i:Nat}
theorem Qd{y z:ME}(h1:QE X e y)(Z:QE X e z):QE X e (pX i y z):=⟨by
 intro j s G H Q I hw;obtain⟨l,B,A,d,q,R,E,c,k⟩:=hw;unfold pX at c;split at c
 ·rename_i a p hv;obtain⟨⟨x,g⟩,Y,c⟩:=WM.mp c;dsimp only at c;split at c
  ·rename_i w n;cases c;have hc:=Eo hv;obtain⟨ob,ps,T,K,N,J⟩:=Ep I R E hc;refine aV (h1.h j s G _ (λv h=>∃b,Ext l (A.set a (.dF p)).length (aM H (l a) (.frz ob (aU (l a) ps))) b g.length h/\Rp X.K b h g/\IsD X.K b g.length h v d) K ⟨l,B,_,d,g,N,J,Y,λb v h m R2 o=>⟨b,m,R2,o⟩⟩) λu s2 ⟨v,h,L,rv,b,m,R2,o⟩=>?_;obtain⟨r,M,U,O,x3⟩:=rM I T (WR.mp hc).1 L R2 m n;exact⟨v,r,M,rv,k b v r U O (o.mono0 x3)⟩
  ·cases c
 ·exact Z.h j s G H Q I ⟨l,B,A,d,q,R,E,c,k⟩⟩
theorem zR{Y Z:MS}(h1:QS X st Y)(h2:QS X st Z):QS X st (d9 i Y Z):=⟨by
 intro J s σ H D I hw;obtain⟨l,ρ,K,B,o,T,R,E,r,k⟩:=hw;unfold d9 at r;split at r
 ·rename_i a w hv;obtain⟨⟨fl1,ρ1,g⟩,g1,r⟩:=WM.mp r;dsimp only at r;split at r
  ·rename_i U p;cases r;have hc:=Eo hv;have M:=(WR.mp hc).1;obtain⟨N,O,L,I1,R1,E1⟩:=Ep I R E hc;refine aV (h1.h J s σ _ ⟨λc h=>B=.nx/\∃b,Ext l (K.set a (.dF w)).length (aM H (l a) (.frz N (aU (l a) O))) b g.length h/\Rp X.K b h g/\En X.K b g.length h c o,
     λv h=>∃d,B=.rt d/\∃b,Ext l (K.set a (.dF w)).length (aM H (l a) (.frz N (aU (l a) O))) b g.length h/\Rp X.K b h g/\IsD X.K b g.length h v d,
     λc h=>B=.bk/\∃b,Ext l (K.set a (.dF w)).length (aM H (l a) (.frz N (aU (l a) O))) b g.length h/\Rp X.K b h g/\En X.K b g.length h c o,
     λc h=>B=.ct/\∃b,Ext l (K.set a (.dF w)).length (aM H (l a) (.frz N (aU (l a) O))) b g.length h/\Rp X.K b h g/\En X.K b g.length h c o⟩ I1 ⟨l,ρ,_,B,o,g,R1,E1,g1,?_⟩) λf s2 q=>?_
   ·cases B with
    |nx=>exact λb c h j R2 m=>⟨rfl,b,j,R2,m⟩|bk=>exact λb c h j R2 m=>⟨rfl,b,j,R2,m⟩|ct=>exact λb c h j R2 m=>⟨rfl,b,j,R2,m⟩|rt d=>exact λb v h j R2 Q=>⟨d,rfl,b,j,R2,Q⟩
   ·cases f with
    |next=>obtain⟨c,h,x,rfl,b,j,R2,m⟩:=q;obtain⟨n,y,A,z,G⟩:=rM I L M x R2 j p;exact⟨c,n,y,k b c n A z (En.mono0 m G)⟩|brk=>obtain⟨c,h,x,rfl,b,j,R2,m⟩:=q;obtain⟨n,y,A,z,G⟩:=rM I L M x R2 j p;exact⟨c,n,y,k b c n A z (En.mono0 m G)⟩|cont=>obtain⟨c,h,x,rfl,b,j,R2,m⟩:=q;obtain⟨n,y,A,z,G⟩:=rM I L M x R2 j p;exact⟨c,n,y,k b c n A z (En.mono0 m G)⟩|ret u=>obtain⟨v,c,h,x,rv,d,rfl,b,j,R2,Q⟩:=q;obtain⟨n,y,A,z,G⟩:=rM I L M x R2 j p;exact⟨v,c,n,y,rv,k b v n A z (Q.mono0 G)⟩
  ·cases r
 ·exact h2.h J s σ H D I ⟨l,ρ,K,B,o,T,R,E,r,k⟩⟩
end
noncomputable def zT(d:Addr)(a:Obj)(ps:bR):It:=⟨λi H=>H d=aX (.frz a (aU d ps))/\i<ps.length,λi H x b=>b=H/\∃p,ps[i]?=aX p/\x=.ref p.2.1,λi H=>H d=aX (.frz a (aU d ps))/\ps.length<=i⟩
theorem oE{X:Cx}{a7J:jw}{σ:St}{H:Hp}{s:WX}{d:Addr}{c:Obj}{ps:bR}(I:Inv X a7J σ H s)(e:H d=aX (.frz c (aU d ps))) :
  (d==YG)=b3/\ps.length<=W8/\∃a b,RawD s.heap d a b/\c.data=.dict a b/\a.toList.map (·.key)=ps.map λp=>W5 p.2.1:=by
 obtain⟨g,⟨q,r,m,l,o,a,b,h,j,i,k,n⟩,_⟩:=(show ObjOk X.prog X.w H s.heap d (.frz c (aU d ps))from I.hok d _ e);rw[g]at h;cases h;refine⟨m,l,a,b,⟨c,g,j,i⟩,i,?_⟩;rw[k,uN (P:=X.prog) (w:=X.w),W7,<- zN r];rfl
theorem Er:∀(ps:bR)(ws:gq),ps.length=ws.length->(a1W tP ps ws).map (·.val)=ws
 |[],[],_=>rfl|[],_::_,h=>by cases h
 |_::_,[],h=>by cases h
 |p::ps,u::ws,h=>by rw[XX,Xa,Er ps ws (by simpa using h)];rfl
theorem rN{X:Cx}{a7J:jw}{σ:St}{H:Hp}{s:WX}{d:Addr}{c:Obj}{ps:bR}(I:Inv X a7J σ H s)(e:H d=aX (.frz c (aU d ps))) :
  (d==YG)=b3/\ps.length<=W8/\∃a b,RawD s.heap d a b/\c.data=.dict a b/\Vals (ps.map (·.2.2)) (a.toList.map (·.val)):=by
 obtain⟨h,⟨g,r,p,n,o,a,b,i,l,j,m,q⟩,_⟩:=(show ObjOk X.prog X.w H s.heap d (.frz c (aU d ps))from I.hok d _ e);rw[h]at i;cases i;refine⟨p,n,a,b,⟨c,h,l,j⟩,j,?_⟩;have k:(a1W tP ps g).map (·.val)=g:=Er ps g (by
  have:=r.length;rw[WO]at this;exact this)
 rw[m,k];exact r
theorem Qe{P:Xw}{w:XF}{K:WQ}{tg:Expr}{d n:Addr}{U:Obj}{ps:bR}{es:Array DictEntry}{ep:Nat}(hd:U.data=.dict es ep):Turn Qc P w K tg (zT d U ps) [n] n (λi h=>h.IsKeyIter n d i es.size ep) where
 mem:=by simp
 obj:=λi h st b j=>by
  have e:b=n:=by simpa using j
  subst e;obtain⟨o,e,c,d⟩:=st;exact⟨o,e,λv z=>by rw[d]at z;cases z⟩
 keep:=λi h q st k=>st.at λo e=>k n (by simp) o e;item:=by
  intro X O hw N hc i p s Y H E I x st Q;subst O hw N;obtain⟨m,r⟩:=Q;obtain⟨lo,hl,A,y,g,a,u⟩:=oE I m;rw[hd]at a;cases a;have hs:es.size=ps.length:=by have:=congrArg X0 u;simpa using this
  obtain⟨B,G,f2,J,L,M⟩:=x n (by simp);refine uQ (I.ok.hd hc) st g (λe q l T sb=>?_) λhn=>by simp at hn;omega
  have Z:Inv X p Y H {s with heap:=q}:=I.turned (t':=s.toks) (λb o j e=>(sb.2 b j).trans e) B G J L M;obtain⟨o,e1,c,d1⟩:=id T;have R:ps[i]?=aX ps[i]:=W3 r;have ek:e.key=.ref (ps[i]).2.1:=by have:=congrArg (·[i]?) u;simp only[W6,X2,l,R,Xm]at this;exact Xg this
  exact⟨e.key,rfl,qS (s:={s with heap:=q}) e1 c d1 (by decide) ⟨.ref (ps[i]).2.1,H,Z,ek,⟨rfl,ps[i],R,rfl⟩,T,λb j=>(x b j).1⟩⟩
 done:=by
  intro X O hw N hc i p s Y H E I x st Q;subst O hw N;obtain⟨m,r⟩:=Q;obtain⟨lo,hl,A,y,g,a,u⟩:=oE I m;rw[hd]at a;cases a;have hs:es.size=ps.length:=by have:=congrArg X0 u;simpa using this
  obtain⟨B,G,f2,J,L,M⟩:=x n (by simp);exact uQ (I.ok.hd hc) st g (λe q l=>by
   have:=(a1m.mp l).1;omega) λ_ q eb=>⟨rfl,I.turned (t':=s.toks) (λb o j e=>eb b o j e) B G J L M⟩
 self:=λ_ _ _ _ _ st h=>a5K st h
theorem Qf{X:Cx}{l tg:Expr}{n:TE}(m:PE X l n):PI X tg l (λσ H R=>n σ H λv a=>∃d k ps,v=.ref d/\a d=aX (.frz k (aU d ps))/\R (zT d k ps) a):=by
 intro j s σ H R I h;refine aV (m j s σ H _ I h) λv i ⟨y,a,c,x,w⟩=>?_;obtain⟨d,k,ps,e,r,q⟩:=w;subst e;obtain rfl:v=W5 d:=x;obtain⟨u,m,A,z,g,hd,B⟩:=oE c r;refine zM u g ⟨i.heap.objs.size,[i.heap.objs.size],_,_,a,rfl,c.kept (t':=i.toks) λb o e=>WW _ e,Qe hd,⟨_,W9 _ rfl,rfl,rfl⟩,λb p=>?_,q⟩;have e:b=i.heap.objs.size:=by simpa using p
 subst e;exact c.fpOk (WY _) (c.hok.fresh (WY _))
noncomputable def dU(kvs:jx):List D:=kvs.map λk=>D.tup (k.1.map D.int)
theorem Qg{K:WQ}{π:Nat->Addr}{n:Nat}{H:Hp}{d:Addr}{h:Obj}{ps:bR}{kvs:jx}(c:H d=aX (.frz h (aU d ps)))(T:IsTs K π n H ps kvs):Wk K (zT d h ps) (cI (.tup (dU kvs))) π n H:=by
 have u:ps.length=kvs.length:=by have:=congrArg X0 T.to.1;simpa using this
 refine⟨λb r j i e R z=>?_,λb r j i k e R z=>?_⟩
 ·have a:(dU kvs)[i]?=none:=Xg z;have:=XU.mp a;rw[dU,WO]at this;exact⟨e.frz _ _ _ c,by omega⟩
 ·have a:(dU kvs)[i]?=aX k:=Xg z;have hi:i<kvs.length:=by have:=(WR.mp a).1;rwa [dU,WO]at this
  refine⟨⟨e.frz _ _ _ c,by omega⟩,λv s ⟨l,p,m,o⟩=>?_⟩;subst l o;obtain⟨w,g,q⟩:=(T.to.2.1.mono e).get a;rw[W6,m]at g;cases g;exact⟨.refl,R,q⟩
noncomputable def eA(m:ME):MI:=λc b=>(m c b).bind λp=>match p.1 with
 |.loc a=>match p.2[a]? with
  |some (.dF kvs)=>aX (cI (.tup (dU kvs)),kvs.length+1,p.2)|_=>aY
 |_=>aY
theorem zU{X:Cx}{e:Expr}{m:ME}(h:QE X e m):QJ X e (eA m):=⟨λtg a7J s σ H R I hw=>by
 obtain⟨z,A,v,u,n,w,i,E,a,k⟩:=hw;obtain⟨⟨x,y⟩,l,a⟩:=WM.mp a;dsimp only at a;split at a
 ·split at a
  ·rename_i p hc;cases a;refine Qf h.h a7J s σ H R I ⟨z,A,v,_,_,i,E,l,λb B g j c o=>?_⟩;cases o;obtain⟨q,r,d,T⟩:=rH c hc;exact⟨_,q,r,rfl,d,k b g _ j c (Qg d T)⟩
  ·cases a
 ·cases a⟩
end L3
namespace L3
open PySem L2 PySem.W PyProof.Rows
section
variable{P:Xw}{w:XF}{A:XC}{E:Value->WX->Prop}{s:WX}
noncomputable def Es(h:Ye)(b:Addr)(k:List Int):Prop:=∃xs:gq,a3B h b xs.toArray/\ZU xs k
theorem Qh{bs:List Addr}{ks:List (List Int)}(I:0<bs.length)(q:ks.length=bs.length)(key:∀(j:Nat)(b:Addr),bs[j]?=aX b->Es s.heap b (ks.getD j [])/\ks.getD j []≠[]):pV P w A (bs.map W5) (λi j=>HT.lexLt (ks.getD i []) (ks.getD j [])) s:=by
 have h:∃fs:gq,fs.length=bs.length/\KatTups s.heap (bs.map W5) fs/\∀v∈fs,∃i t,v=Zq i t:=by
  clear I;induction bs generalizing ks with
  |nil=>exact⟨[],rfl,.nil,λv a=>nomatch a⟩|cons b bs N=>
   match ks,q with
   |k::ks,q=>
    obtain⟨fs,r,l,m⟩:=N (ks:=ks) (by simpa using q) λj c hc=>by simpa using key (j+1) c (by simpa using hc)
    obtain⟨⟨xs,⟨o,e,c,n,d⟩,hi⟩,g⟩:=key 0 b rfl;simp only[a4K]at hi g;cases hi with
    |nil=>exact absurd rfl g|@cons i u Q O K=>
     refine⟨Zq i u::fs,by simp[r],.cons e c d (by simp) l,λv a=>?_⟩;rcases Xr.mp a with rfl|a
     ·exact⟨i,u,rfl⟩
     ·exact m v a
 obtain⟨fs,r,l,m⟩:=h;unfold pV;refine kat_kind (T:=.type "int") l ?_ (λv a=>?_) rfl ⟨rfl,λi j C hi p J=>?_⟩
 ·omega
 ·obtain⟨i,t,rfl⟩:=m v a;exact .now
 ·rw[WO]at hi p;obtain⟨⟨xa,⟨Y,z,R,U,x⟩,L⟩,_⟩:=key i bs[i] (W3 hi);obtain⟨⟨xb,⟨Z,B,T,X,y⟩,M⟩,_⟩:=key j bs[j] (W3 p);have G:(bs.map W5).getD i .none=.ref bs[i]:=by simp[X8,hi]
  have H:(bs.map W5).getD j .none=.ref bs[j]:=by simp[X8,p]
  rw[G,H];exact kat_lt z x B y (yU 0 L M J)
theorem Qi{d:Addr}{es:Array DictEntry}{ep:Nat}{Q:Value->WX->Prop}{bs:List Addr}{ks:List (List Int)}(J:A.handled=aY)(lo:(d==YG)=b3)(g:RawD s.heap d es ep)(r:es.toList.map (·.key)=bs.map W5)(H:es.size<64)(L:ks.length=bs.length)
  (key:∀(j:Nat)(b:Addr),bs[j]?=aX b->Es s.heap b (ks.getD j [])/\ks.getD j []≠[])
  (q:∀(h' n:Ye)(tk:Nat)(e:Nat),(∀b o,s.heap.get? b=aX o->h'.get? b=aX o)->(∀b o,h'.get? b=aX o->n.get? b=aX o)->n.get? h'.objs.size=aX (Yu "list" ((cE (λi j=>HT.lexLt (ks.getD i []) (ks.getD j [])) es.size).map λi=>W5 (bs.getD i 0)).toArray e)->Q (.ref h'.objs.size) {s with heap:=n,toks:=tk}) :
  Xk (Xv P w) A (call (.builtin "sorted") [.ref d]) Q E s:=by
 have l:bs.length=es.size:=by have:=congrArg X0 r;simpa using this.symm
 refine a1v a5R a5b a5e (a5f _) ?_;unfold a2x;refine WN (m:=a6p "sorted" 1 1 _) (WV (WN (kdu_collect (A:=A.in1) (Ea lo) J g (by rw[Xh];omega) λh' tk c z a=>?_)));have G:c.toList=bs.map W5:=by
  rw[<- r];refine a1D λi=>?_;rw[W6,X2,X2];cases y:c[i]? with
  |some v=>obtain⟨e,R,T⟩:=a.2 i v y;rw[R,T];rfl|none=>
   have:c.size<=i:=by simpa using y
   rw[a1S (by rw[<- a.1];exact this)];rfl
 rw[G];have B:(bs.map W5).length=es.size:=by rw[WO,l]
 refine WN (a0y ?_ (by rw[B,Xh];omega));have k:(h'.push (Yu "list" (bs.map W5).toArray 0)).get? h'.objs.size=aX (Yu "list" (bs.map W5).toArray 0):=W9 _ rfl;have fin:∀h:gq,h=((cE (λi j=>HT.lexLt (ks.getD i []) (ks.getD j [])) es.size).map λi=>W5 (bs.getD i 0))->Q (.ref h'.objs.size) {s with heap:=a3g (h'.push (Yu "list" (bs.map W5).toArray 0)) h'.objs.size (bs.map W5) h.toArray,toks:=tk}:=by rintro h rfl;obtain⟨e,I⟩:=sortedHeap_at (h:=h'.push (Yu "list" (bs.map W5).toArray 0)) (out:=((cE (λi j=>HT.lexLt (ks.getD i []) (ks.getD j [])) es.size).map λi=>W5 (bs.getD i 0)).toArray) k;refine q h' _ tk e z (λb o x=>?_) I;rw[a7D (Xd (W2 x)) (by rw[a0F];exact a2W (W2 x))];exact WW _ x
 by_cases u:2<=es.size
 ·refine WN (X4 (Yo a1I (s:={s with heap:=h'.push (Yu "list" (bs.map W5).toArray 0),toks:=tk}) ⟨_,k,rfl⟩ a1r (Ej (an:=λi j=>HT.lexLt (ks.getD i []) (ks.getD j [])) (by omega) (by omega) k (λn M=>?_) ⟨_,rfl,?_⟩) (a1K _)))
  ·refine Qh (by omega) L λj b K=>?_;obtain⟨⟨O,⟨o,o1,N⟩,hi⟩,p⟩:=key j b K;have m:=z _ _ o1;exact⟨⟨O,⟨o,M b o (Xd (W2 m)) (WW _ m),N⟩,hi⟩,p⟩
  ·refine WV ⟨_,rfl,fin _ ?_⟩;rw[B];refine Xs λi hi=>?_;have hi:i<bs.length:=by have:=YR.mp ((pM _ (n:=es.size) (by omega)).mem_iff.mp hi);omega
   simp[X8,hi]
 ·refine WN (X4 (Yo a1I (s:={s with heap:=h'.push (Yu "list" (bs.map W5).toArray 0),toks:=tk}) ⟨_,k,rfl⟩ a1r (yV (by omega) k ⟨_,rfl,?_⟩) (a1K _)));refine WV ⟨_,rfl,fin (bs.map W5) ?_⟩;match bs,l with
  |[],e=>rw[<- e];show[]=(cE _ 0).map _;rw[yX];rfl|[b],e=>rw[<- e];show[W5 b]=(cE _ 1).map _;rw[yW];rfl|_::_::_,e=>rw[<- e]at u;simp at u
end
end L3
namespace L3
open PySem L2
noncomputable def Et(K:WQ):gw->Hp->VK->Prop:=λxs H Q=>∃a ps,xs=[V.ref a]/\H a=aX (aU a ps)/\eM K H ps/\ps.length<64/\(∀p∈ps,p.1≠[])/\∀l,H l=aY->Q (.ref l) (aM H l (.lst ((lQ ps).map λp=>V.ref p.2.1)))
section
variable{X:Cx}
theorem Qj(hc:X.calm=b4):CallR X (.builtin "sorted") (Et X.K):=by
 intro n s σ H xs us Q I r h;obtain⟨a,c,rfl,O,B,N,w,q⟩:=h;obtain⟨u,rfl,ru⟩:=fA r;cases ru;obtain⟨lo,m,J,ep,g,A⟩:=pT I O B;have R:J.size=c.length:=by have:=congrArg X0 A;simpa using this
 have L:∀{j:Nat}{b:Addr},(c.map (·.2.1))[j]?=aX b->∃p∈c,c[j]?=aX p/\p.2.1=b:=λ{j b} d=>by rw[W6]at d;obtain⟨p,k,K⟩:=WS.mp d;exact⟨p,Xn k,k,K⟩
 refine Qi (bs:=c.map (·.2.1)) (ks:=c.map (·.1)) (I.ok.hd hc) lo g (by rw[A,W7];rfl) (by omega) (by simp) (λj b d=>?_) λo M y e U Y Z=>?_
 ·obtain⟨p,E,k,rfl⟩:=L d;have G:(c.map (·.1)).getD j []=p.1:=by simp[X8,k]
  rw[G];obtain⟨x,rx,t,_⟩:=I.tuple (B p E);exact⟨⟨x,t,tI rx⟩,w p E⟩
 ·have z:Inv X n σ H {s with heap:=o,toks:=y}:=I.kept (t':=y) U;refine⟨.ref o.objs.size,_,z.laid (t':=y) (h':=M) (a:=o.objs.size) (o:=.lst ((lQ c).map λp=>V.ref p.2.1)) Y (WY _) ?_,rfl,q _ (z.hok.fresh (WY _))⟩;have v:(lQ c).length=c.length:=sortT_perm.length_eq;refine⟨by rw[WO,v];exact m,_,e,?_,Z⟩;unfold lQ;rw[R,W7];have:∀l:List Nat,(∀i∈l,i<c.length)->Vals (l.map ((λp:List Int×Addr×V=>V.ref p.2.1)∘λi=>c.getD i ([],0,.non))) (l.map λi=>W5 ((c.map (·.2.1)).getD i 0)):=λl m=>by
   induction l with
   |nil=>exact .nil|cons i l T=>refine .cons ?_ (T λj d=>m j (Xc _ d));have hi:=m i (Xf ..);show W5 _=W5 _;simp[X8,hi]
  exact this _ λi hi=>YR.mp ((jS _ c.length).mem_iff.mp hi)
end
noncomputable def pY(b:Hm):D->Bool
 |.loc a=>match b[a]? with|some (.dT _)=>b4|_=>b3
 |_=>b3
noncomputable def lR(f:D->List D->Hm->jk)(b:ME)(c:MA):ME:=λa d=>(b a d).bind λp=>match pY p.2 p.1 with
 |true=>(c a p.2).bind λq=>f p.1 q.1 q.2|false=>aY
noncomputable def zV(K:WQ)(x:V)(H:Hp):Prop:=∃a ps,x=.ref a/\H a=aX (aU a ps)/\eM K H ps
theorem Qk{K:WQ}{π:Nat->Addr}{H:Hp}{b:Hm}{v:V}{x:D}(R:Rp K π H b)(h:IsD K π b.length H v x)(e:pY b x=b4):zV K v H:=by
 cases h with
 |@loc a i=>
  simp only[pY]at e;split at e
  ·rename_i j d;obtain⟨g,c,T⟩:=gZ R d;exact⟨_,g,rfl,c,T.keys⟩
  ·cases e
 |_=>cases e
section
variable{X:Cx}{e o:Expr}{mo:ME}{to:TE}{t:TA}{apos cpos:YE}{es:List Expr}{ms:MA}{n:Nat}{r:V->gw->Hp->VK->Prop}{f:D->List D->Hm->jk}{name:Str}{id:String}
theorem Ql(m:Slot "dict" name id) (w:a4Y (.builtin id)=pure (.type "method_descriptor")) (N:iV X id r)(O:PE X o to)(L:PA X (e::es) t)(i:ZR o name X.env (eval o X.env)=eval o X.env)
  (l:((ZI cpos (XB (e::es) X.env)).all (λx=>!x.1)&&(a2J cpos (a1i [] X.env)).all (λx=>x.1.isSome)&&decide ((e::es).length+([]:List a0g).length+(if([]:List a0g).isEmpty then 0 else 1)<30))=b4)
  (j:(apos.endLine==cpos.line)=b4)(R:XB (e::es) X.env=(b3,eval e X.env)::XB es X.env)(c:(ZI cpos (XB es X.env)).any (·.1)=b3) :
  PE X (.Call (.Attribute o name apos) (e::es) [] cpos) (λk H Q=>to k H λx p=>zV X.K x p/\t k p λq u=>r x q u Q):=by
 intro d s k H Q I h;refine a4W i l j rfl (aV (O d s k H _ I h) λv s1 ⟨x,p,y,Y,ty,T⟩=>?_);obtain⟨a,ps,rfl,G,M⟩:=ty;obtain rfl:v=W5 a:=Y;obtain⟨lo,hl,q,ep,g,_⟩:=pT y G M;refine⟨"dict",id,a0o,m,w,g.ty,λb E=>?_,?_⟩
 ·cases E;obtain⟨z,J,K,_⟩:=g;exact⟨z,J,K.2.1⟩
 have A:=L cpos d s1 k p _ y T;rw[R]at A ⊢;refine Zm (by show(b3||(ZI cpos (XB es X.env)).any (·.1))=b3;rw[c]<;>rfl) (a4w ?_);exact aV A λus s2 ⟨q,u,B,Z,U⟩=>N d s2 k u (.ref a) q _ us Q B rfl Z U
theorem Qm{K:WQ}(z:gU K f r):∀σ H Q,tM K (lR f mo ms) σ H Q->tM K mo σ H λx g=>zV K x g/\tMA K ms σ g λvs h=>r x vs h Q:=by
 rintro σ H Q ⟨J,v,I,d,i,R,E,a,k⟩;obtain⟨⟨x,b⟩,w,a⟩:=WM.mp a;dsimp only at a;split at a
 ·rename_i A;obtain⟨⟨u,c⟩,y,a⟩:=WM.mp a;refine⟨J,v,I,x,b,R,E,w,λj G g p m s=>⟨Qk m s A,j,v,b,u,c,m,E.mono p,y,λl vs h q R2 B=>?_⟩⟩;exact z l h c x u d i G vs Q R2 (s.mono q) B a (k.after (p.trans q))
 ·cases a
theorem Eu(c:Slot "dict" name id) (d:a4Y (.builtin id)=pure (.type "method_descriptor")) (j:iV X id r)(h:gU X.K f r)
  (l:QE X o mo)(g:QA X (e::es) ms n)(m:jR o=b4)(i:(apos.endLine==cpos.line)=b4)(k:(e::es).length<30):QE X (.Call (.Attribute o name apos) (e::es) [] cpos) (lR f mo ms):=by
 have b:=g.s;have a:=b;rw[XG,WZ]at a;exact⟨dE (Ql c d j l.h g.h (lJ m) (Du b k) i (fT a.1) (nQ a.2)) (Qm h)⟩
end
noncomputable def mR:D->List D->Hm->jk
 |.loc a,[y,z],μ=>match μ[a]? with
  |some (.dT kvs)=>(c5 y).map λk=>((bS kvs k).getD z,μ)|_=>aY
 |_,_,_=>aY
noncomputable def Ew(K:WQ):V->gw->Hp->VK->Prop:=λx vs H Q=>∃a b ps k z,x=.ref a/\vs=[.ref b,z]/\H a=aX (aU a ps)/\eM K H ps/\SqT K H b (k.map V.int)/\Q ((eK ps k).getD z) H
theorem Qn{K:WQ}:gU K mR (Ew K):=by
 intro u H A x z d s v y Q R m c a k;unfold mR at a;split at a
 ·split at a
  ·rename_i p hc;obtain⟨h,j,a⟩:=WS.mp a;cases a;cases m;cases c with
   |cons n t=>
    cases t with
    |cons o t=>
     cases t;obtain⟨q,i,T⟩:=gZ R hc;obtain⟨b,rfl,l⟩:=kJ n j;refine⟨_,b,q,h,_,rfl,rfl,i,T.keys,l,k u _ H .refl R ?_⟩;rcases T.val h with⟨e,g⟩|⟨v,w,e,g,r⟩
     ·rw[e,g];exact o
     ·rw[e,g];exact r
  ·cases a
 ·cases a
theorem Qo{X:Cx}(w:X.A.units+1<YL):iV X "dict.get" (Ew X.K):=by
 intro m s N H x L v K Q I E B h;obtain⟨a,b,g,k,z,rfl,rfl,e,o,n,q⟩:=h;cases E;obtain⟨u,G,rfl,A,i⟩:=B.two;obtain rfl:u=W5 b:=A;obtain⟨p,J,l,r,d⟩:=kI I (.of e) o;refine a1A a4e d.typeIs PySem.F.entry_dict_get (PySem.F.args_dict_get_3 _ _ _) (meetsH_dict_get_default (a0r (a0A X.prog X.w)) a b p G) ⟨pS w,k,_,kG I n,d,?_⟩;refine⟨(eK g k).getD z,H,I.tok _,?_,q⟩;have:=oC r k;cases j:eK g k with
 |none=>
  rw[j]at this;cases c:(a2K (b9 g l) k).map (·.2)with
  |none=>exact i|some y=>rw[c]at this;exact this.elim
 |some M=>
  rw[j]at this;cases c:(a2K (b9 g l) k).map (·.2)with
  |none=>rw[c]at this;exact this.elim|some y=>rw[c]at this;exact this
section
variable{P:Xw}{w:XF}{K:Type} [DecidableEq K] {knd:HeapKind P w K}{A:XC}{E:Value->WX->Prop}{s:WX}{d a:Addr}{k:K}{xs:List (K×Addr×Value)}
theorem Qp{v:Value}{Q:Value->WX->Prop}(z:knd.room A)(q:knd.is s.heap k a)(I:s.heap.DictOfH knd d xs)(hz:xs.length<=W8)
  (h1:∀p,a2K xs k=aX p->Q p.2 {s with toks:=s.toks+knd.draws k})(H:a2K xs k=aY->∀n,n.DictOfH knd d (a6x xs k a v)->YK d s.heap n->Q v {s with heap:=n,toks:=s.toks+knd.draws k}) :
  Xk (Xv P w) A (a4p d (.ref a) v) Q E s:=by
 obtain⟨o,J,G,g,hc,hd,m,h,r⟩:=id I;unfold a4p;refine X4 (WN (knd.pyHash z q (WN (wpAny_dictFind_heap (s:={s with toks:=s.toks+knd.draws k}) z q g hd m h r (λi=>?_) λj p u=>?_))))
 ·have b:=atKey_none_of_get i;have l:k∉xs.map (·.1):=not_mem_keys_of_get i;refine WN (a1b (WN (wpAny_updateDictKeys (hz:=by have e:=size_of_entries m;omega) (s:={s with toks:=s.toks+knd.draws k}) g hd (WV (H b _ ⟨_,_,G+1,Yq _ g (Obj.isFreed_of_dict (a4I hd _)),hc.mapDictKeys _,a4I hd _,?_,λx c=>?_,?_⟩ (YJ ..))))))
  ·rw[a5M b];simp[m,a6n]
  ·rw[a5M b]at c;rcases XS.mp c with c|c
   ·exact knd.keeps (h x c) g hd (YJ ..)
   ·rw[Xe]at c;subst c;exact knd.keeps q g hd (YJ ..)
  ·rw[a5M b,Xj,Yt];exact⟨r,by simp,λx c y B e=>by
    simp only[Xa,ZT,Xe]at B;subst B;exact l (e▸c)⟩
 ·refine WN (YU (s:={s with toks:=s.toks+knd.draws k}) g hd ?_);rw[entry_at m j,u];exact WN (a1b (WV (h1 _ (atKey_of_get r u))))
theorem Qq(knd:HeapKind P w K)(d a:Addr)(hd:(d==YG)=b3)(v:Value):a6D P w (Builtin.«dict.setdefault» ⟨[.ref d,.ref a,v],[]⟩) (λA R s=>knd.room A.in1/\∃k xs,knd.is s.heap k a/\s.heap.DictOfH knd d xs/\xs.length<=W8 /\
   (∀p,a2K xs k=aX p->R (.ok (.ret p.2)) {s with toks:=s.toks+knd.draws k})/\(a2K xs k=aY->∀b,b.DictOfH knd d (a6x xs k a v)->YK d s.heap b->R (.ok (.ret v)) {s with heap:=b,toks:=s.toks+knd.draws k})):=
 .of_wp λA R s ⟨n,k,xs,j,g,o,h,i⟩=>by unfold Builtin.«dict.setdefault»;refine WN ?_;unfold a7z;refine WN (a0U g.typeIs (WV ?_));show Xk _ _ (if(d==YG)=b4 then _ else(a4p d (.ref a) v >>= _)) _ _ s;rw[if_neg (by rw[hd];exact Xo)];exact WN (Qp n j g o (λp m=>WV ⟨_,rfl,h p m⟩) λl b c e=>WV ⟨v,rfl,i l b c e⟩)
end
noncomputable def mS:D->List D->Hm->jk
 |.loc a,[y,z],μ=>match μ[a]? with
  |some (.dT kvs)=>(c5 y).bind λk=>match bS kvs k with
   |some d=>aX (d,μ)|none=>if kvs.length<W8 then aX (z,μ.set a (.dT (c9 kvs k z)))else aY
  |_=>aY
 |_,_,_=>aY
noncomputable def Ex(K:WQ):V->gw->Hp->VK->Prop:=λx vs H Q=>∃a b ps k z,x=.ref a/\vs=[.ref b,z]/\H a=aX (aU a ps)/\eM K H ps/\SqT K H b (k.map V.int)/\((∃v,eK ps k=aX v/\Q v H)\/(eK ps k=aY/\ps.length<W8/\Q z (aM H a (aU a (iH ps k b z)))))
theorem Qr{K:WQ}:gU K mS (Ex K):=by
 intro q H L x J d B v I Q R y h a k;unfold mS at a;split at a
 ·split at a
  ·rename_i e hc;obtain⟨c,u,a⟩:=WM.mp a;cases y with
   |loc g=>
    cases h with
    |cons z t=>
     cases t with
     |cons p t=>
      cases t;obtain⟨i,m,T⟩:=gZ R hc;obtain⟨b,rfl,o⟩:=kJ z u;refine⟨_,b,i,c,_,rfl,rfl,m,T.keys,o,?_⟩;have w:i.length=e.length:=by have:=congrArg X0 T.to.1;simpa using this
      rcases T.val c with⟨j,l⟩|⟨v,E,j,l,A⟩
      ·rw[l]at a;dsimp only at a;split at a
       ·rename_i G;cases a;have s:=T.put c o p;obtain⟨n,r⟩:=R.put (c:=.dT (c9 e c d)) (o:=aU _ (iH i c b _)) g m (.inr (.inr ⟨_,rfl⟩)) ⟨_,rfl,s.to⟩;exact .inr ⟨j,by omega,k q _ _ n r (p.mono n)⟩
       ·cases a
      ·rw[l]at a;cases a;exact .inl ⟨v,j,k q _ H .refl R A⟩
  ·cases a
 ·cases a
theorem Qs{X:Cx}(M:X.A.units+1<YL):iV X "dict.setdefault" (Ex X.K):=by
 intro w s σ H x vs v us Q I U T h;obtain⟨a,b,n,k,z,rfl,rfl,e,G,B,q⟩:=h;cases U;obtain⟨u,Y,rfl,R,i⟩:=T.two;obtain rfl:u=W5 b:=R;obtain⟨m,hl,Z,r,d⟩:=kI I (.of e) G;have N:(b9 n Z).length<=W8:=by have:=congrArg X0 (oB r);rw[WO,WO]at this;omega
 have c:=oC r k;refine a1A a2U d.typeIs PySem.F.entry_dict_setdefault (PySem.F.args_dict_setdefault_3 _ _ _) (Qq (a0r (a0A X.prog X.w)) a b m Y) ⟨pS M,k,_,kG I B,d,N,λp K=>?_,λJ A j l=>?_⟩
 ·rw[K]at c;rcases q with⟨o,g,q⟩|⟨g,_⟩
  ·rw[g]at c;exact⟨o,H,I.tok _,c,q⟩
  ·rw[g]at c;exact c.elim
 ·rw[J]at c;rcases q with⟨o,g,q⟩|⟨g,hz,q⟩
  ·rw[g]at c;exact c.elim
  ·obtain⟨ws',O,y⟩:=zK r k b i;rw[y]at j;have E:∃q,A.get? a=aX q:=let⟨q,_,_,L,_⟩:=j;⟨q,L⟩;exact⟨z,_,xK I (by rw[e];exact a0s) l E (uO m (by have:=zJ n k b z;omega) O j),i,q⟩
section
variable{P:Xw}{w:XF}{A:XC}{E:Value->WX->Prop}{s:WX}
end
section
variable{X:Cx}
end
noncomputable abbrev rO:=List (List Int×Addr×Value)
inductive Hits (A:XC)(s:WX)(ys:rO):rO->Bool->Prop
 |nil:Hits A s ys [] b4
 |miss {x:List Int×Addr×Value}{r:rO}:a2K ys x.1=aY->Hits A s ys (x::r) b3
 |hit {x:List Int×Addr×Value}{p:Addr×Value}{r:rO}{e b:Bool}:a2K ys x.1=aX p->a3u A s x.2.2 p.2 e->Hits A s ys r b->Hits A s ys (x::r) (e&&b)
section
variable{P:Xw}{w:XF}{A:XC}{E:Value->WX->Prop}{s:WX}{a b:Addr}{xs ys:rO}{r:Bool}
end
section
variable{X:Cx}{a b:Expr}{ma mb:ME}{pos:YE}{k:Nat}
end
noncomputable abbrev zW(n:Nat):Prop:=n<64
section
variable{X:Cx}{a7J:jw}{σ:St}{H H':Hp}{s:WX}{h':Ye}
theorem Qt{t':Nat}(I:Inv X a7J σ H s)(k:∀b u,s.heap.get? b=aX u->h'.get? b=aX u)(a:∀b,b<s.heap.objs.size->H' b=H b)(new:∀b o,s.heap.objs.size<=b->H' b=aX o->ObjOk X.prog X.w H' h' b o) :
  Inv X a7J σ H' {s with heap:=h',toks:=t'}:=by
 have lt:∀b u,H b=aX u->b<s.heap.objs.size:=λb u e=>Nat.lt_of_not_le λz=>by rw[I.hok.fresh z]at e;cases e
 have same:∀b u,H b=aX u->H' b=aX u:=λb u e=>by rw[a b (lt b u e)];exact e
 refine I.un ⟨λb u q _ _ _=>k b u q,λb u q _ _ _=>⟨u.slots,k b u q⟩,λb u q n _=>by rw[a b (W2 q)];exact n,λb u q _=>⟨u,k b u q⟩,λb g q=>same b _ q,λb u g q=>same b _ q,λb h q=>⟨#[],by rw[same b _ q];simp⟩⟩ λb u e=>?_;by_cases d:b<s.heap.objs.size
 ·rw[a b d]at e;exact(I.hok b u e).stay (λc v _ q=>k c v q) (λc q=>same c _ q) λc g q=>same c _ q
 ·exact new b u (a3k d) e
noncomputable def fV(H:Hp):List Addr->bR->Hp
 |a::as,p::ps=>fV (aM H a (.tup [.ref p.2.1,p.2.2])) as ps|_,_=>H
theorem oF:∀{as:List Addr}{ps:bR}{H:Hp}{b:Addr},b∉as->fV H as ps b=H b
 |[],_,_,_,_=>by simp[fV]
 |a::as,[],_,_,_=>rfl|a::as,p::ps,H,b,h=>by rw[Xr,not_or]at h;show fV (aM H a _) as ps b=H b;rw[oF h.2,bF h.1]
theorem uT:∀{as:List Addr}{ps:bR}{H:Hp}{i:Nat}{a:Addr}{p:List Int×Addr×V},as.Nodup->as[i]?=aX a->ps[i]?=aX p->fV H as ps a=aX (.tup [.ref p.2.1,p.2.2])
 |[],_,_,_,_,_,_,h,_=>by simp at h
 |_::_,[],_,_,_,_,_,_,h=>by simp at h
 |x::as,y::ps,H,0,a,p,nd,h1,h2=>by
  obtain rfl:x=a:=by simpa using h1
  obtain rfl:y=p:=by simpa using h2
  rw[XN]at nd;show fV (aM H x _) as ps x=_;rw[oF nd.1,cQ]
 |x::as,y::ps,H,i+1,a,p,nd,h1,h2=>by rw[XN]at nd;exact uT (as:=as) (ps:=ps) (i:=i) nd.2 (by simpa using h1) (by simpa using h2)
noncomputable def rP(ps:bR):List Nat:=cE (λi j=>HT.lexLt ((ps.map (·.1)).getD i []) ((ps.map (·.1)).getD j [])) ps.length
noncomputable def fK(as:List Addr)(ps:bR):gw:=(rP ps).map λi=>V.ref (as.getD i 0)
theorem Qu(hc:X.calm=b4)(hun:X.A.units+64<YL)(I:Inv X a7J σ H s){d r:Addr}{ps:bR}{Q:VK}(e:H d=aX (aU d ps))(hk:eM X.K H ps)(M:zW ps.length)(hv:s.heap.IsItemsView r d)
  (k:∀(as:List Addr)(L l:Addr),as.length=ps.length->(l::L::as).Nodup->(∀a∈l::L::as,H a=aY)->Q (.ref l) (aM (aM (fV H as ps) L (.lst (fK as ps))) l (.tup (fK as ps)))) :
  Xk (Xv X.prog X.w) X.A (call (.builtin "sorted") [.ref r]) (λv s'=>Xk (Xv X.prog X.w) X.A (call (.type "tuple") [v]) (EP X a7J σ Q) X.xe s') X.xe s:=by
 obtain⟨lo,hl,ws,rv,z,es,ep,z1,z2,z3,z4,z5,z6⟩:=kI I (.of e) hk;have hwl:ws.length=ps.length:=by have:=rv.length;rw[WO]at this;exact this.symm
 have hxl:(b9 ps ws).length=ps.length:=by unfold b9;rw[List.length_zipWith,hwl,Nat.min_self]
 have y:es.size=ps.length:=by rw[<- Zk,z4,WO,hxl]
 have nd:(ps.map (·.1)).Nodup:=by rw[oB rv]at z6;exact z6
 have K:∀(j:Nat)(n:DictEntry),es[j]?=aX n->∃p u,ps[j]?=aX p/\ws[j]?=aX u/\n.key=.ref p.2.1/\n.val=u:=λj n h=>by
  rw[<- X2,z4,W6]at h;obtain⟨x,q,rfl⟩:=WS.mp h;unfold b9 at q;rw[List.getElem?_zipWith]at q;cases A:ps[j]? with
  |none=>rw[A]at q;simp at q|some p=>
   cases hw:ws[j]? with
   |none=>rw[A,hw]at q;simp at q|some u=>
    rw[A,hw]at q;have:(p.1,p.2.1,u)=x:=by simpa using q
    subst this;exact⟨p,u,rfl,rfl,rfl,rfl⟩
 have M:ps.length<64:=M;refine P7 (an:=λi j=>HT.lexLt ((ps.map (·.1)).getD i []) ((ps.map (·.1)).getD j [])) (I.ok.hd hc) hv ⟨z,z1,z2,z3⟩ (by omega) (λh22 Y J as kp U G=>?_) (λY J as L n kp U G hL nL gL=>?_)
 ·have I3:Inv X a7J σ H {s with heap:=Y,toks:=J}:=I.kept (t':=J) kp;refine P5 (A:=X.A.in1.in1) (s:={s with heap:=Y,toks:=J}) (bs:=ps.map (·.2.1)) (ks:=ps.map (·.1)) (by show X.A.units+1+1<YL;omega) G (by omega) U (by rw[WO,y]) (by rw[WO,y]) (λj n w=>?_) nd;obtain⟨p,u,E,p2,p3,p4⟩:=K j n w;have m:j<ps.length:=(WR.mp E).1;have g:(ps.map (·.2.1)).getD j 0=p.2.1:=by simp[X8,E]
  have ek:(ps.map (·.1)).getD j []=p.1:=by simp[X8,E]
  rw[g,ek];have sq:=hk p (Xn E);refine⟨p3,kG I3 sq,?_⟩;obtain⟨xs,rx,t,_⟩:=I3.tuple sq;exact⟨xs,t,DG rx⟩
 ·rw[y]at gL U;have B:as.Nodup:=G.up.imp λh=>Xd h;have hin:∀i∈rP ps,i<ps.length:=λi hi=>YR.mp ((jS _ _).mem_iff.mp hi);have T:(rP ps).length=ps.length:=by have:=(jS (λi j=>HT.lexLt ((ps.map (·.1)).getD i []) ((ps.map (·.1)).getD j [])) ps.length).length_eq;rw[a2P]at this;exact this
  have nLa:L∉as:=λh=>nL L h rfl;have I1:Inv X a7J σ (aM (fV H as ps) L (.lst (fK as ps))) {s with heap:=Y,toks:=J}:=by
   refine Qt (t':=J) I kp (λb Z=>?_) λb o Z g=>?_
   ·rw[bF (Xd (Xq Z hL)),oF λh=>Nat.lt_asymm Z (G.over b h)]
   ·by_cases O:b=L
    ·subst O;rw[cQ]at g;cases g;refine⟨by unfold fK;rw[WO,T];exact hl,(rP ps).map λi=>W5 (as.getD i 0),n,?_,gL⟩;unfold fK;exact zQ λi _=>rfl
    ·rw[bF O]at g;by_cases R:b∈as
     ·obtain⟨j,w⟩:=Y6.mp R;have m:j<ps.length:=by have:=(WR.mp w).1;omega
      have A:ps[j]?=aX ps[j]:=W3 m;rw[uT B w A]at g;cases g;obtain⟨x,x1,x2⟩:=G.prs j _ w;obtain⟨p,u,E,p2,p3,p4⟩:=K j x x1;rw[A]at E;cases E;obtain⟨u',g1,g2⟩:=rv.get (i:=j) (x:=ps[j].2.2) (by rw[W6,A];rfl);rw[p2]at g1;cases g1;rw[p3,p4]at x2;exact⟨by show(2:Nat)<=W8;decide,[.ref ps[j].2.1,u],.cons rfl (.cons g2 .nil),_,x2,rfl,0,rfl,rfl⟩
     ·rw[oF R,I.hok.fresh Z]at g;cases g
  refine Ce a7J _ σ _ [.ref L] [.ref L] Q I1 (.cons rfl .nil) ⟨L,fK as ps,rfl,.inl ⟨.inl (.inl cQ),λl c=>?_⟩⟩;have lL:l≠L:=λh=>by rw[h,cQ]at c;cases c
  rw[bF lL]at c;have la:l∉as:=λh=>by
   obtain⟨j,w⟩:=Y6.mp h;have m:j<ps.length:=by have:=(WR.mp w).1;omega
   rw[uT B w (W3 m)]at c;cases c
  rw[oF la]at c;refine k as L l U ?_ λa N=>?_
  ·rw[XN,XN];exact⟨λh=>(Xr.mp h).elim lL la,nLa,B⟩
  ·rcases Xr.mp N with rfl|N
   ·exact c
   rcases Xr.mp N with rfl|N
   ·exact I.hok.fresh hL
   ·exact I.hok.fresh (ZZ (G.over a N))
end
noncomputable def uU(k:List Int×D):D:=.tup [.tup (k.1.map D.int),k.2]
noncomputable def uV:D->Hm->jk
 |.loc a,μ=>match μ[a]? with
  |some (.dT kvs)=>if zW kvs.length then aX (.tup ((fU kvs).map uU),μ)else aY|_=>aY
 |_,_=>aY
noncomputable def uW(m:ME):ME:=λb a=>(m b a).bind λr=>uV r.1 r.2
noncomputable def Ey(K:WQ):V->Hp->VK->Prop:=λx H Q=>∃a ps,x=.ref a/\H a=aX (aU a ps)/\eM K H ps/\zW ps.length /\
 ∀(as:List Addr)(L l:Addr),as.length=ps.length->(l::L::as).Nodup->(∀a∈l::L::as,H a=aY)->Q (.ref l) (aM (aM (fV H as ps) L (.lst (fK as ps))) l (.tup (fK as ps)))
section
variable{X:Cx}{o:Expr}{to:TE}{apos cpos p p2 pos pos2:YE}
theorem Qv(hc:X.calm=b4)(w:X.A.units+64<YL)(r:X.mg "sorted"=aY) (u:X.mg "tuple"=aY) (m:Gl X "sorted") (n:Gl X "tuple") (O:PE X o to)
  (c:ZR o "items" X.env (eval o X.env)=eval o X.env) (d:(apos.endLine==cpos.line)=b4) :
  PE X (.Call (.Name "tuple" p) [.Call (.Name "sorted" p2) [.Call (.Attribute o "items" apos) [] [] cpos] [] pos2] [] pos) (λj H Q=>to j H λx k=>Ey X.K x k Q):=by
 intro i s j H Q I h;refine YX (iS I n u a0z ?_);refine Yz ?_ rfl rfl;refine a1l ?_;refine YX (iS I m r a0w ?_);refine a2f ?_ rfl rfl;refine a1l ?_;refine a0K c d (aV (O i s j H _ I h) λv y ⟨x,k,A,U,a,ps,L,e,B,l,q⟩=>?_);subst L;obtain rfl:v=W5 a:=U;obtain⟨T,Z,K,J,g,Y⟩:=pT A e B;refine⟨"dict","dict.items",a0o,a0n,a3E,g.ty,λb G=>?_,Zm rfl (a0V ?_)⟩
 ·cases G;obtain⟨z,M,N,_⟩:=g;exact⟨z,M,N.2.1⟩
 refine a1A a0n g.ty a3x (a3n _) (Ek a T) ⟨⟨K,J,g⟩,?_⟩;refine a1z ?_;have E:Inv X i j k {y with heap:=y.heap.push {cls:=.type "dict_items",data:=.fields #[.ref a]}}:=A.kept (t':=y.toks) λb o e=>WW _ e;refine aV (Qu hc w E e B l ⟨_,W9 _ rfl,rfl,rfl⟩ q) λv s' R=>a1z R
end
theorem Ez{K:WQ}{π:Nat->Addr}{c:Hm}:∀{as:List Addr}{ps:bR}{H:Hp},Rp K π H c->as.Nodup->(∀a∈as,H a=aY)->Ext π c.length H π c.length (fV H as ps)/\Rp K π (fV H as ps) c
 |[],_,H,R,_,_=>by simp only[fV];exact⟨.refl,R⟩
 |a::as,[],H,R,_,_=>⟨.refl,R⟩|a::as,p::ps,H,R,nd,hf=>by
  rw[XN]at nd;obtain⟨g,e⟩:=R.fresh (o:=.tup [.ref p.2.1,p.2.2]) (hf a (Xf ..));obtain⟨h,R2⟩:=Ez (as:=as) (ps:=ps) e nd.2 λb d=>by rw[bF (λw:b=a=>nd.1 (w▸d))];exact hf b (Xc _ d)
  exact⟨g.trans h,R2⟩
theorem Qw{K:WQ}{N:ME}:∀σ H Q,tM K (uW N) σ H Q->tM K N σ H λx m=>Ey K x m Q:=by
 rintro σ H Q ⟨π,ρ,μ,d,n,R,E,g,k⟩;obtain⟨⟨x,y⟩,h1,g⟩:=WM.mp g;refine⟨π,ρ,μ,x,y,R,E,h1,λh v1 m Z z i1=>?_⟩;have k1:=k.after Z;dsimp only at g;unfold uV at g;split at g
 ·split at g
  ·rename_i b hc;split at g
   ·rename_i hb;cases g;cases i1;obtain⟨c,e2,T⟩:=gZ z hc;have M:c.length=b.length:=by have:=congrArg X0 T.to.1;simpa using this
    refine⟨_,c,rfl,e2,T.keys,by rw[M];exact hb,λe L l al nd s=>?_⟩;rw[XN,XN]at nd;obtain⟨A,U⟩:=Ez (ps:=c) z nd.2.2 λa ha=>s a (Xc _ (Xc _ ha));have hL:fV m e c L=none:=by rw[oF nd.2.1];exact s L (Xc _ (Xf ..))
    obtain⟨B,X⟩:=U.fresh (o:=.lst (fK e c)) hL;have hl:aM (fV m e c) L (.lst (fK e c)) l=none:=by rw[bF (λw:l=L=>nd.1 (by rw[w];exact Xf ..)),oF λw=>nd.1 (Xc _ w)];exact s l (Xf ..)
    obtain⟨G,Y⟩:=X.fresh (o:=.tup (fK e c)) hl;refine k1 h _ _ ((A.trans B).trans G) Y (.tup (.of cQ) ?_);have v:c.map (·.1)=b.map (·.1):=T.to.1;have key:∀o:List Nat,(∀i∈o,i<b.length)->IsDs K h n.length (aM (aM (fV m e c) L (.lst (fK e c))) l (.tup (fK e c))) (o.map λi=>V.ref (e.getD i 0)) (o.map (uU∘λi=>b.getD i ([],.non))):=λo q=>by
     induction o with
     |nil=>exact .nil|cons i o ih=>
      have hi:=q i (Xf ..);have p:e[i]?=aX (e.getD i 0):=by simp[X8,show i<e.length by omega]
      have u:c[i]?=aX c[i]:=W3 (by omega);have hik:b[i]?=aX b[i]:=W3 hi;have I:b.getD i ([],.non)=b[i]:=by simp[X8,hi]
      have ep:c.getD i ([],0,.non)=c[i]:=by simp[X8,show i<c.length by omega]
      have O:=Em T ([],0,.non) ([],.non) i (by omega);rw[ep,I]at O;obtain⟨q1,q2,q3⟩:=O;refine .cons ?_ (ih λj hj=>q j (Xc _ hj));have r:aM (aM (fV m e c) L (.lst (fK e c))) l (.tup (fK e c)) (e.getD i 0)=aX (.tup [.ref c[i].2.1,c[i].2.2]):=by have g:=Xn p;rw[bF (λw:e.getD i 0=l=>nd.1 (by rw[<- w];exact Xc _ g)),bF (λw:e.getD i 0=L=>nd.2.1 (by rw[<- w];exact g))];exact uT nd.2.2 p u
      show IsD K h n.length _ (.ref (e.getD i 0)) (uU (b.getD i ([],.non)));rw[I];have J:=(A.trans B).trans G;have ik:IsD K h n.length m (.ref c[i].2.1) (.tup (b[i].1.map D.int)):=by rw[<- q1];exact .tup q2 (uK _)
      exact .tup (.of r) (.cons (ik.mono J) (.cons (q3.mono J) .nil))
    have ey:fK e c=(cE (λi j=>HT.lexLt ((b.map (·.1)).getD i []) ((b.map (·.1)).getD j [])) b.length).map λi=>V.ref (e.getD i 0):=by unfold fK rP;rw[v,M]
    have fin:=key (cE (λi j=>HT.lexLt ((b.map (·.1)).getD i []) ((b.map (·.1)).getD j [])) b.length) λi hi=>YR.mp ((jS _ _).mem_iff.mp hi);rw[<- ey]at fin;unfold fU;rw[W7];exact fin
   ·cases g
  ·cases g
 ·cases g
theorem Qx{X:Cx}{o:Expr}{j:ME}{a b p n pos c:YE}(hc:X.calm=b4)(i:X.A.units+64<YL)(g:X.mg "sorted"=aY) (h:X.mg "tuple"=aY) (d:Gl X "sorted") (e:Gl X "tuple") (l:QE X o j)(m:jR o=b4)(k:(a.endLine==b.line)=b4) :
  QE X (.Call (.Name "tuple" p) [.Call (.Name "sorted" n) [.Call (.Attribute o "items" a) [] [] b] [] c] [] pos) (uW j):=
 ⟨dE (Qv hc i g h d e l.h (lJ m) k) Qw⟩
section
variable{P:Xw}{w:XF}{A:XC}{E:Value->WX->Prop}{s:WX}{d it:Addr}{i ep:Nat}{es:Array DictEntry}
theorem Qy(d:Addr)(hd:(d==YG)=b3):a6D P w (Builtin.«dict.values» ⟨[.ref d],[]⟩) (λ_ R s=>(∃es ep,RawD s.heap d es ep) /\
   R (.ok (.ret (.ref s.heap.objs.size))) {s with heap:=s.heap.push {cls:=.type "dict_values",data:=.fields #[.ref d]}}):=
 .of_wp λA R s ⟨⟨es,ep,g⟩,h⟩=>by show Xk _ _ (a1R "values" _ >>= _) _ _ s;refine WN ?_;unfold a1R;refine WN (a0U g.ty ?_);show Xk _ _ (pure d) _ _ s;refine WV ?_;show Xk _ _ (Zj d >>= _) _ _ s;unfold Zj;rw[if_neg (by rw[hd];exact Xo)];refine WN (WV ?_);exact WN (XZ (WV ⟨_,rfl,h⟩))
theorem Qz{v:Addr}{Q:Value->WX->Prop}(c:s.heap.IsValuesView v d)(g:RawD s.heap d es ep)
  (q:Q (.ref s.heap.objs.size) {s with heap:=s.heap.push {cls:=.type "dict_valueiterator",data:=.fields #[.ref d,.int 0 0,.int es.size 0,.int ep 0]}}):Xk (Xv P w) A (a2m (.ref v)) Q E s:=by
 obtain⟨l,b,j,a⟩:=id c;obtain⟨z,e,k,h⟩:=id g;refine a1T c.typeIs F.slot_dict_values_iter (Yo F.slot_dict_values_iter c.typeIs F.entry_dict_values_iter ?_ (F.args_dict_values_iter_1 _));unfold Builtin.«dict_values.__iter__»;refine WN (WV (WN ?_));unfold a0G;refine WN (ZL b a (x:=.ref d) rfl (WV (WN ?_)));unfold a0i;refine WN (YU e h (WN (ZK e h ?_)));simp only[show Yr "dict_valueiterator"=b3 by decide,Xp,if_false];refine XZ (WV ⟨_,rfl,"dict_valueiterator",_,⟨_,W9 _ rfl,rfl⟩,F.slot_dict_valueiterator_next.lookup,?_⟩);simpa[a0m]using q
theorem EA{Q:Option Value->WX->Prop}(o:A.handled=aY)(j:s.heap.IsValIter it d i es.size ep)(g:RawD s.heap d es ep)
  (r:∀e a,es[i]?=aX e->a.IsValIter it d (i+1) es.size ep->YK it s.heap a->Q (aX e.val) {s with heap:=a})
  (v:es[i]?=aY->∀a,a1E it s.heap a->Q aY {s with heap:=a}):Xk (Xv P w) A (a0v (.ref it)) Q E s:=by
 obtain⟨y,h,p,b⟩:=id j;obtain⟨z,l,B,m⟩:=id g;have k:∀{Q:String->WX->Prop}{A:XC}{E:Value->WX->Prop},Q "dict_valueiterator" s->Xk (Xv P w) A (a4i (.ref it)) Q E s:=λq=>wpAny_typeNameOfWhole_valiter j.typeIs q;unfold a0v;refine WN (a2Z (a0J (name:=Yy "__next__") j.typeIs F.slot_dict_valueiterator_next (Yo F.slot_dict_valueiterator_next j.typeIs F.entry_dict_valueiterator_next ?_ (F.args_dict_valueiterator_next_1 _))));refine WN (WV (WN (WN (WN (k (WV (WN (a2G h b ?_))))))));simp only[show Yr "dict_valueiterator"=b3 by decide,Xp,if_false];show Xk _ _ (if(W5 d==X5)=b4 then _ else _) _ _ _;rw[if_neg (show ¬ (W5 d==X5)=b4 from λx=>Xo x)];refine WN (WV (WN (YU l m ?_)));rw[if_neg (λx=>by simp at x)];refine WN (WV (WN (ZK l m ?_)));rw[if_neg (λx=>by simp at x)];refine WV ?_;simp only[if_neg (show ¬ ((i:Int)<0) by omega),a0I];cases n:es[i]? with
 |some e=>
  refine WN (WN (k (WV (WN (a2t j.typeIs ?_)))));show Xk _ _ (a2e (.ref it) 1 (a0m ((i:Int)+1)) >>= _) _ _ _;refine WN (a0P h b (by simp) ?_);have c:(s.heap.update it (a2C (·.setIfInBounds 1 (a0m ((i:Int)+1))))).IsValIter it d (i+1) es.size ep:=
   ⟨_,Yq _ h (a4D (a1t b _)),(a5B ..).trans p,by simp[a1t b,a0m]⟩
  generalize hu:s.heap.update it (a2C (·.setIfInBounds 1 (a0m ((i:Int)+1))))=u at c;refine WN (X4 (WN (a2t (s:={s with heap:=u}) c.typeIs (WN (a2t (s:={s with heap:=u}) c.typeIs ?_)))));show Xk _ _ (pure e.val) _ _ _;exact WV (WV ⟨_,rfl,WV (r e u n c (hu▸YJ ..))⟩)
 |none=>refine WN (WN (k (WV ?_)));show Xk _ _ (a2e (.ref it) 0 .none >>= _) _ _ _;refine WN (a0P h b (by simp) ?_);show Xk _ _ (a3O (.type "StopIteration") [] >>= _) _ _ _;simp only[a3O,a5P];refine WN (WN (XZ ?_ (by size_fits)));refine WN (m:=ZW _ _) (a1V (a:=X5) (by first|rfl|(simp only[ZW];rfl)) (XZ ?_ (by size_fits)));simp only[a5O];refine WN (a2Y ?_);rw[show A.in1.handled=aY from o];refine WN (WV (a3X ?thrown));case thrown=>exact WN (a0q (T:="StopIteration") (b:=b4) ⟨_,W9 _ rfl,rfl⟩ a2I (WV (v n _ (((YJ ..).extBut.push _).push _))))
end
noncomputable def zX(d:Addr)(a:Obj)(ps:bR):It:=⟨λi H=>H d=aX (.frz a (aU d ps))/\i<ps.length,λi H x b=>b=H/\∃p,ps[i]?=aX p/\x=p.2.2,λi H=>H d=aX (.frz a (aU d ps))/\ps.length<=i⟩
theorem QC{P:Xw}{w:XF}{K:WQ}{tg:Expr}{d n:Addr}{Y:Obj}{ps:bR}{es:Array DictEntry}{ep:Nat}(hd:Y.data=.dict es ep):Turn Qc P w K tg (zX d Y ps) [n] n (λi h=>h.IsValIter n d i es.size ep) where
 mem:=by simp
 obj:=λi h st b j=>by
  have e:b=n:=by simpa using j
  subst e;obtain⟨o,e,c,d⟩:=st;exact⟨o,e,λv z=>by rw[d]at z;cases z⟩
 keep:=λi h q st k=>let⟨o,e,c⟩:=st;⟨o,k n (by simp) o e,c⟩;item:=by
  intro X Q hw O hc i p s σ H E I y st R;subst Q hw O;obtain⟨m,r⟩:=R;obtain⟨lo,hl,B,A,g,a,x⟩:=rN I m;rw[hd]at a;cases a;have hs:es.size=ps.length:=by have:=x.length;rw[WO,WO,Zk]at this;exact this.symm
  obtain⟨G,J,f2,L,M,N⟩:=y n (by simp);refine EA (I.ok.hd hc) st g (λe q l U sb=>?_) λhn=>by simp at hn;omega
  have I1:Inv X p σ H {s with heap:=q}:=I.turned (t':=s.toks) (λb o j e=>(sb.2 b j).trans e) G J L M N;obtain⟨o,e1,c,d1⟩:=id U;have T:ps[i]?=aX ps[i]:=W3 r;obtain⟨u,Z,u2⟩:=x.get (i:=i) (x:=ps[i].2.2) (by rw[W6,T];rfl);rw[W6,X2,l]at Z;cases Z;exact⟨e.val,rfl,qS (s:={s with heap:=q}) e1 c d1 (by decide) ⟨ps[i].2.2,H,I1,u2,⟨rfl,ps[i],T,rfl⟩,U,λb j=>(y b j).1⟩⟩
 done:=by
  intro X Q hw O hc i p s σ H E I y st R;subst Q hw O;obtain⟨m,r⟩:=R;obtain⟨lo,hl,B,A,g,a,x⟩:=rN I m;rw[hd]at a;cases a;have hs:es.size=ps.length:=by have:=x.length;rw[WO,WO,Zk]at this;exact this.symm
  obtain⟨G,J,f2,L,M,N⟩:=y n (by simp);exact EA (I.ok.hd hc) st g (λe q l=>by
   have:=(a1m.mp l).1;omega) λ_ q eb=>⟨rfl,I.turned (t':=s.toks) (λb o j e=>eb b o j e) G J L M N⟩
 self:=λ_ _ _ _ _ st h=>wpAny_pyIter_valiter st h
theorem QD{X:Cx}{l tg:Expr}{J:TE}{a c:YE}(G:PE X l J)(j:ZR l "values" X.env (eval l X.env)=eval l X.env) (k:(a.endLine==c.line)=b4) :
  PI X tg (.Call (.Attribute l "values" a) [] [] c) (λp H R=>J p H λv m=>∃d x A,v=.ref d/\m d=aX (.frz x (aU d A))/\R (zX d x A) m):=by
 intro i s p H R I h;refine a0K j k (aV (G i s p H _ I h) λv n ⟨y,m,B,r1,q1⟩=>?_);obtain⟨d,x,A,e,E,q⟩:=q1;subst e;obtain rfl:v=W5 d:=r1;obtain⟨Z,G,N,L,g,hd,he⟩:=rN B E;refine⟨"dict","dict.values",a0o,a3w,PySem.F.type_dict_values,g.ty,λb K=>?_,Zm rfl (a0V ?_)⟩
 ·cases K;obtain⟨z,Q,u,_⟩:=g;exact⟨z,Q,u.2.1⟩
 refine a1A a3w g.ty PySem.F.entry_dict_values (PySem.F.args_dict_values_1 _) (Qy d Z) ⟨⟨N,L,g⟩,?_⟩;have r:Inv X i p m {n with heap:=n.heap.push {cls:=.type "dict_values",data:=.fields #[.ref d]}}:=B.kept (t':=n.toks) λb o e=>WW _ e;obtain⟨lo2,Y,O,M,u,w,U⟩:=rN r E;show Xk (Xv X.prog X.w) X.A (a2m (.ref n.heap.objs.size)) (w6 X i p tg R) X.xe _;refine Qz ⟨_,W9 _ rfl,rfl,rfl⟩ u ⟨_,[_],_,_,m,rfl,r.kept (t':=n.toks) λb o e=>WW _ e,QC w,⟨_,W9 _ rfl,rfl,rfl⟩,λb T=>?_,q⟩;have e:=Xe.mp T;subst e;exact r.fpOk (WY _) (r.hok.fresh (WY _))
noncomputable def jV(kvs:jx):List D:=kvs.map (·.2)
theorem QF{K:WQ}{π:Nat->Addr}{n:Nat}{H:Hp}{d:Addr}{h:Obj}{ps:bR}{kvs:jx}(c:H d=aX (.frz h (aU d ps)))(T:IsTs K π n H ps kvs):Wk K (zX d h ps) (cI (.tup (jV kvs))) π n H:=by
 have u:ps.length=kvs.length:=by have:=congrArg X0 T.to.1;simpa using this
 refine⟨λb r j i e R z=>?_,λb r j i k e R z=>?_⟩
 ·have a:(jV kvs)[i]?=none:=Xg z;have:=XU.mp a;rw[jV,WO]at this;exact⟨e.frz _ _ _ c,by omega⟩
 ·have a:(jV kvs)[i]?=aX k:=Xg z;have hi:i<kvs.length:=by have:=(WR.mp a).1;rwa [jV,WO]at this
  refine⟨⟨e.frz _ _ _ c,by omega⟩,λv s ⟨l,p,m,o⟩=>?_⟩;subst l o;obtain⟨w,g,q⟩:=(T.to.2.2.mono e).get a;rw[W6,m]at g;cases g;exact⟨.refl,R,q⟩
noncomputable def pZ(m:ME):MI:=λc b=>(m c b).bind λp=>match p.1 with
 |.loc a=>match p.2[a]? with
  |some (.dF kvs)=>aX (cI (.tup (jV kvs)),kvs.length+1,p.2)|_=>aY
 |_=>aY
theorem QH{X:Cx}{e:Expr}{m:ME}{a b:YE}(h:QE X e m)(r:jR e=b4)(q:(a.endLine==b.line)=b4):QJ X (.Call (.Attribute e "values" a) [] [] b) (pZ m):=⟨λtg a7J s σ H R I hw=>by
 obtain⟨J,K,A,z,n,B,l,E,c,k⟩:=hw;obtain⟨⟨x,G⟩,p,c⟩:=WM.mp c;dsimp only at c;split at c
 ·split at c
  ·rename_i v hc;cases c;refine QD h.h (lJ r) q a7J s σ H R I ⟨J,K,A,_,_,l,E,p,λd L j o g u=>?_⟩;cases u;obtain⟨w,y,i,T⟩:=rH g hc;exact⟨_,w,y,rfl,i,k d j _ o g (QF i T)⟩
  ·cases c
 ·cases c⟩
section
variable{P:Xw}{w:XF}{A:XC}{E:Value->WX->Prop}{s:WX}{d it:Addr}{i ep:Nat}{es:Array DictEntry}{ok ov:Value}
theorem QK{v:Addr}{Q:Value->WX->Prop}(a:s.heap.IsItemsView v d)(g:RawD s.heap d es ep)
  (q:Q (.ref s.heap.objs.size) {s with heap:=s.heap.push {cls:=.type "dict_itemiterator",data:=.fields #[.none,.bool b3,.ref d,.int 0 0,.int es.size 0,.int ep 0,.none,.none]}}):Xk (Xv P w) A (a2m (.ref v)) Q E s:=by
 obtain⟨l,e,k,h⟩:=id a;obtain⟨z,b,j,c⟩:=id g;refine a1T a.typeIs F.slot_dict_items_iter (Yo F.slot_dict_items_iter a.typeIs F.entry_dict_items_iter ?_ (F.args_dict_items_iter_1 _));unfold Builtin.«dict_items.__iter__»;refine WN (WV (WN ?_));unfold a0G;refine WN (ZL e h (x:=.ref d) rfl (WV (WN ?_)));unfold a0i;refine WN (YU b c (WN (ZK b c ?_)));simp only[show Yr "dict_itemiterator"=b4 by decide,if_true];refine XZ (WV ⟨_,rfl,"dict_itemiterator",_,⟨_,W9 _ rfl,rfl⟩,F.slot_dict_itemiterator_next.lookup,?_⟩) (by simp only[sizeOk,Y8,Xb,W4,Xy,a0X,Xh];omega);simpa[a0m,Y8]using q
theorem EB{Q:Option Value->WX->Prop}(hh:A.handled=aY)(j:a3l s.heap it d i es.size ep ok ov)(g:RawD s.heap d es ep)
  (Y:∀e k,es[i]?=aX e->IsItemIterOut k it d (i+1) es.size ep e.key e.val s.heap.objs.size->k.get? s.heap.objs.size=aX {cls:=.type "tuple",data:=.seq #[e.key,e.val]}->
   (∀b o,b≠it->s.heap.get? b=aX o->k.get? b=aX o)->Q (aX (.ref s.heap.objs.size)) {s with heap:=k})
  (Z:es[i]?=aY->∀k,a1E it s.heap k->Q aY {s with heap:=k}):Xk (Xv P w) A (a0v (.ref it)) Q E s:=by
 obtain⟨n,u,r,K,B⟩:=s;dsimp only at j g Y Z;obtain⟨z,L,g2,M⟩:=id g;have ty:∀{h:Ye}{i:Nat}{ok ov:Value},a3l h it d i es.size ep ok ov->a5U ⟨h,u,r,K,B⟩ (.ref it) "dict_itemiterator":=λj=>⟨_,j,rfl⟩;unfold a0v;refine WN (a2Z (a0J (name:=Yy "__next__") (ty j) F.slot_dict_itemiterator_next (Yo F.slot_dict_itemiterator_next (ty j) F.entry_dict_itemiterator_next ?_ (F.args_dict_itemiterator_next_1 _))));refine WN (WV (WN (WN (WN (ZV (ty j) (WV (WN (a2G j rfl ?_))))))));simp only[show Yr "dict_itemiterator"=b4 by decide,if_true];show Xk _ _ (if(W5 d==X5)=b4 then _ else _) _ _ _;rw[if_neg (show ¬ (W5 d==X5)=b4 from λx=>Xo x)];refine WN (WV (WN (YU L M ?_)));rw[if_neg (λx=>by simp at x)];refine WN (WV (WN (ZK L M ?_)));rw[if_neg (λx=>by simp at x)];refine WV ?_;simp only[if_neg (show ¬ ((i:Int)<0) by omega),a0I];cases T:es[i]? with
 |some e=>
  refine WN (WN (ZV (ty j) (WV (WN (Zv (ty j) ?_)))));show Xk _ _ (a2e (.ref it) 3 (a0m ((i:Int)+1)) >>= _) _ _ _;refine WN (YA j (by simp) λa l q=>?_);replace q:YK it n a:=q;replace l:a3l a it d (i+1) es.size ep ok ov:=l;refine WN (X4 (WN (Zv (ty l) (WN (Zv (ty l) ?_)))));show Xk _ _ (Zg (.ref it) 6 e.key e.val) _ _ ⟨a,u,r,K,B⟩;unfold Zg;refine WN (a2F ?_);have p:a.objs.size=n.objs.size:=q.1;have y:it<n.objs.size:=W2 j;have m:a3l (a.push {cls:=.type "tuple",data:=.seq #[e.key,e.val]}) it d (i+1) es.size ep ok ov:=WW _ l;have t2:(a.push {cls:=.type "tuple",data:=.seq #[e.key,e.val]}).get? n.objs.size=aX {cls:=.type "tuple",data:=.seq #[e.key,e.val]}:=by rw[<- p];exact W9 _ rfl
  have U:∀b o,b≠it->n.get? b=aX o->(a.push {cls:=.type "tuple",data:=.seq #[e.key,e.val]}).get? b=aX o:=λb o c x=>WW _ (q.extBut b o c x);show Xk _ _ (Y7 (.ref it) >>= _) _ _ ⟨a.push {cls:=.type "tuple",data:=.seq #[e.key,e.val]},u,r,K,B⟩;rw[p];generalize a.push {cls:=.type "tuple",data:=.seq #[e.key,e.val]}=h2 at m t2 U;refine WN ?_;unfold Y7;refine WN (ZL m rfl (x:=.none) rfl (WV ?_));simp only[if_true];refine WN (ZL m rfl (x:=ok) rfl (WN (ZL m rfl (x:=ov) rfl (WN (YA m (by simp) λN e3 G=>?_)))));replace G:YK it h2 N:=G;refine WN (YA e3 (by simp) λO e4 H=>?_);replace H:YK it N O:=H;refine WN (YA e4 (by simp) λR e5 I=>?_);replace I:YK it O R:=I;refine WN (YA e5 (by simp) λv e6 J=>?_);replace J:YK it R v:=J;have X:∀b o,b≠it->h2.get? b=aX o->v.get? b=aX o:=λb o c x=>J.extBut b o c (I.extBut b o c (H.extBut b o c (G.extBut b o c x)));exact WN (a1h (WV (WV ⟨_,rfl,WV (Y e v T e6 (X _ _ (X1 y) t2) λb o c x=>X b o c (U b o c x))⟩)))
 |none=>refine WN (WN (ZV (ty j) (WV ?_)));show Xk _ _ (a2e (.ref it) 2 .none >>= _) _ _ _;refine WN (a0P j rfl (by simp) ?_);show Xk _ _ (a3O (.type "StopIteration") [] >>= _) _ _ _;simp only[a3O,a5P];refine WN (WN (XZ ?_ (by size_fits)));refine WN (m:=ZW _ _) (a1V (a:=X5) (by first|rfl|(simp only[ZW];rfl)) (XZ ?_ (by size_fits)));simp only[a5O];refine WN (a2Y ?_);rw[show A.in1.handled=aY from hh];refine WN (WV (a3X ?thrown));case thrown=>exact WN (a0q (T:="StopIteration") (b:=b4) ⟨_,W9 _ rfl,rfl⟩ a2I (WV (Z T _ (((YJ ..).extBut.push _).push _))))
end
noncomputable def zY(d:Addr)(a:Obj)(ps:bR):It:=⟨λi H=>H d=aX (.frz a (aU d ps))/\i<ps.length,λi H x b=>∃t p,x=.ref t/\H t=aY/\ps[i]?=aX p/\b=aM H t (.tup [.ref p.2.1,p.2.2]),λi H=>H d=aX (.frz a (aU d ps))/\ps.length<=i⟩
theorem QL{P:Xw}{w:XF}{K:WQ}{el:List Expr}{kx:Nat}{pt:YE}{d j:Addr}{ob:Obj}{ps:bR}{es:Array DictEntry}{ep:Nat}(hd:ob.data=.dict es ep):Turn Qc P w K (.Tuple el kx pt) (zY d ob ps) [j] j (λi h=>∃ok p,a3l h j d i es.size ep ok p) where
 mem:=by simp
 obj:=λi h ⟨ok,p,st⟩ b n=>by
  have e:b=j:=by simpa using n
  subst e;exact⟨_,st,λv z=>by
   have z':X6 _=a2o v:=z;cases z'⟩
 keep:=λi h O ⟨ok,p,st⟩ k=>⟨ok,p,k j (by simp) _ st⟩;item:=by
  intro X T hw R hc i L s σ H E I G ⟨ok,p,st⟩ Y;subst T hw R;obtain⟨m,x⟩:=Y;obtain⟨lo,hl,N,M,g,a,J⟩:=oE I m;rw[hd]at a;cases a;obtain⟨_,_,es2,ep2,_,r,he⟩:=rN I m;rw[hd]at r;cases r;have hs:es.size=ps.length:=by have:=congrArg X0 J;simpa using this
  refine EB (I.ok.hd hc) st g (λe O l a1 a2 a3=>⟨_,rfl,wpAny_letOwnedTupleGo_items a1 λh2 b1 B=>?_⟩) λhn=>by simp at hn;omega
  have Z:ps[i]?=aX ps[i]:=W3 x;have ek:e.key=.ref (ps[i]).2.1:=by have:=congrArg (·[i]?) J;simp only[W6,X2,l,Z,Xm]at this;exact Xg this
  obtain⟨u,u1,u2⟩:=he.get (i:=i) (x:=ps[i].2.2) (by rw[W6,Z];rfl);rw[W6,X2,l]at u1;cases u1;have y:j<s.heap.objs.size:=W2 st;have ht2:h2.get? s.heap.objs.size=aX {cls:=.type "tuple",data:=.seq #[e.key,e.val]}:=(B.2 _ (X1 y)).trans a2;have U:H s.heap.objs.size=none:=I.hok.fresh (WY _);refine⟨.ref s.heap.objs.size,aM H s.heap.objs.size (.tup [.ref (ps[i]).2.1,(ps[i]).2.2]),?_,rfl,⟨_,ps[i],rfl,U,Z,rfl⟩,⟨_,_,b1⟩,λc n=>?_⟩
  ·refine zE (s:=s) (h':=h2) (t':=s.toks) (ch:=[j]) I (λc oc n ec=>?_) G (WY _) ?_
   ·have q:c≠j:=by simpa using n
    exact(B.2 c q).trans (a3 c oc q ec)
   ·exact⟨by show(2:Nat)<=W8;decide,[e.key,e.val],.cons ek (.cons u2 .nil),_,ht2,rfl,0,rfl,rfl⟩
  ·rw[bF]
   ·exact(G c n).1
   ·have e:c=j:=by simpa using n
    rw[e];exact Xd y
 done:=by
  intro X T hw R hc i L s σ H E I G ⟨ok,p,st⟩ Y;subst T hw R;obtain⟨m,x⟩:=Y;obtain⟨lo,hl,N,M,g,a,J⟩:=oE I m;rw[hd]at a;cases a;have hs:es.size=ps.length:=by have:=congrArg X0 J;simpa using this
  obtain⟨f0,f1,f2,f3,f4,f5⟩:=G j (by simp);exact EB (I.ok.hd hc) st g (λe O l=>by
   have:=(a1m.mp l).1;omega) λ_ O eb=>⟨rfl,I.turned (t':=s.toks) (λb o n e=>eb b o n e) f0 f1 f3 f4 f5⟩
 self:=λA i s Q E ⟨ok,p,st⟩ h=>PySem.W.kcp_self st h
theorem QM{X:Cx}{l:Expr}{E:List Expr}{K:Nat}{pt:YE}{L:TE}{a c:YE}(J:PE X l L)(j:ZR l "items" X.env (eval l X.env)=eval l X.env) (k:(a.endLine==c.line)=b4) :
  PI X (.Tuple E K pt) (.Call (.Attribute l "items" a) [] [] c) (λp H R=>L p H λv m=>∃d x A,v=.ref d/\m d=aX (.frz x (aU d A))/\R (zY d x A) m):=by
 intro i s p H R I h;refine a0K j k (aV (J i s p H _ I h) λv n ⟨y,m,B,r1,q1⟩=>?_);obtain⟨d,x,A,e,G,q⟩:=q1;subst e;obtain rfl:v=W5 d:=r1;obtain⟨lo,J,Q,N,g,hd,he⟩:=oE B G;refine⟨"dict","dict.items",a0o,a0n,a3E,g.ty,λb M=>?_,Zm rfl (a0V ?_)⟩
 ·cases M;obtain⟨z,U,u,_⟩:=g;exact⟨z,U,u.2.1⟩
 refine a1A a0n g.ty a3x (a3n _) (Ek d lo) ⟨⟨Q,N,g⟩,?_⟩;have r:Inv X i p m {n with heap:=n.heap.push {cls:=.type "dict_items",data:=.fields #[.ref d]}}:=B.kept (t':=n.toks) λb o e=>WW _ e;obtain⟨lo2,hl2,T,O,u,w,Z⟩:=oE r G;show Xk (Xv X.prog X.w) X.A (a2m (.ref n.heap.objs.size)) (w6 X i p (.Tuple E K pt) R) X.xe _;refine QK ⟨_,W9 _ rfl,rfl,rfl⟩ u ⟨_,[_],_,_,m,rfl,r.kept (t':=n.toks) λb o e=>WW _ e,QL w,⟨_,_,W9 _ rfl⟩,λb Y=>?_,q⟩;have e:=Xe.mp Y;subst e;exact r.fpOk (WY _) (r.hok.fresh (WY _))
noncomputable def iI(kvs:jx):List D:=kvs.map λk=>.tup [.tup (k.1.map D.int),k.2]
theorem QN{K:WQ}{π:Nat->Addr}{n:Nat}{H:Hp}{d:Addr}{l:Obj}{ps:bR}{kvs:jx}(h:H d=aX (.frz l (aU d ps)))(T:IsTs K π n H ps kvs):Wk K (zY d l ps) (cI (.tup (iI kvs))) π n H:=by
 have B:ps.length=kvs.length:=by have:=congrArg X0 T.to.1;simpa using this
 refine⟨λg y m i e R z=>?_,λg y m i o e R z=>?_⟩
 ·have a:(iI kvs)[i]?=none:=Xg z;have:=XU.mp a;rw[iI,WO]at this;exact⟨e.frz _ _ _ h,by omega⟩
 ·have a:(iI kvs)[i]?=aX o:=Xg z;have hi:i<kvs.length:=by have:=(WR.mp a).1;rwa [iI,WO]at this
  refine⟨⟨e.frz _ _ _ h,by omega⟩,λv A ⟨t,p,q,r,s,u⟩=>?_⟩;subst q u;have b:kvs[i]?=aX kvs[i]:=W3 hi;obtain⟨E,j,w⟩:=(T.to.2.1.mono e).get (i:=i) (d:=D.tup ((kvs[i]).1.map D.int)) (by rw[W6,b];rfl);obtain⟨G,k,x⟩:=(T.to.2.2.mono e).get (i:=i) (d:=(kvs[i]).2) (by rw[W6,b];rfl);rw[W6,s]at j k;cases j;cases k;obtain⟨c,R2⟩:=R.fresh (o:=.tup [.ref p.2.1,p.2.2]) r;rw[iI,W6,b]at a;cases a;exact⟨c,R2,.tup (.of cQ) (.cons (w.mono c) (.cons (x.mono c) .nil))⟩
theorem QR{X:Cx}{l:Expr}{i:TE}(j:PE X l i):PE X l (λσ H Q=>i σ H λv a=>∃d ps,v=.ref d/\a d=aX (aU d ps)/\∀c,Q v (aM a d (.frz c (aU d ps)))):=by intro b s σ H Q I h;refine aV (j b s σ H _ I h) λv o ⟨y,a,g,n,m⟩=>?_;obtain⟨d,ps,rfl,e,q⟩:=m;obtain⟨_,⟨c,k⟩,_⟩:=(show ObjOk X.prog X.w a o.heap d (aU d ps)from g.hok _ _ e);exact⟨_,_,Inv.freeze g e k,n,q c⟩
noncomputable def rQ(m:ME):MI:=λc b=>(m c b).bind λp=>match p.1 with
 |.loc a=>match p.2[a]? with
  |some (.dT kvs)=>aX (cI (.tup (iI kvs)),kvs.length+1,p.2.set a (.dF kvs))|_=>aY
 |_=>aY
theorem QU{X:Cx}{e:Expr}{m:ME}{a b:YE}(h:QE X e m)(w:jR e=b4)(v:(a.endLine==b.line)=b4):QJT X (.Call (.Attribute e "items" a) [] [] b) (rQ m):=⟨λes M pt a7J s σ H R I hw=>by
 obtain⟨J,K,A,z,n,B,q,E,c,k⟩:=hw;obtain⟨⟨x,G⟩,u,c⟩:=WM.mp c;dsimp only at c;split at c
 ·split at c
  ·rename_i i hc;cases c;refine QM (QR h.h) (lJ w) v a7J s σ H R I ⟨J,K,A,_,_,q,E,u,λl N L r o y=>?_⟩;cases y;obtain⟨d,p,T⟩:=gZ o hc;refine⟨_,d,rfl,p,λj=>?_⟩;obtain⟨g,R2⟩:=o.put (c:=.dF i) (o:=.frz j (aU _ d)) (WR.mp hc).1 p (.inr (.inr ⟨_,rfl⟩)) ⟨j,d,rfl,T.to⟩;exact⟨_,j,d,rfl,cQ,k l _ _ (r.trans g) R2 (QN cQ (IsTs.of T.to.1 (T.to.2.1.mono g) (T.to.2.2.mono g)))⟩
  ·cases c
 ·cases c⟩
open PyProof.Rows (IsTup kmk_tree seqObj)
section
variable{P:Xw}{w:XF}{A:XC}{E:Value->WX->Prop}{s:WX}{I S:Addr}{fp wr:List Addr}{n:Nat}{Pv:Nat->Value->Prop}{St:Nat->Ye->Prop}{kw:List (Str×Value)}{R:a3Q->WX->Prop}{bt:Nat->Nat->Bool}{J:Ye->Prop}
noncomputable abbrev Lft(wr:List Addr)(S:Addr)(h h':Ye):Prop:=∀b o,b∉wr->b≠S->h.get? b=aX o->h'.get? b=aX o
theorem QV(K:Walks P w A.in1 I fp wr n Pv St)(T:∀h h',J h->Lft wr S h h'->J h')(hc:∀i j vi vj t (Q E:Value->WX->Prop),J t.heap->Pv i vi->Pv j vj->Q (.bool (bt i j)) t->Xk (Xv P w) A.in1 (a2H .Lt vi vj) Q E t)(U:S∉fp) :
  ∀(k j:Nat)(s:WX)(g:Value)(c:Nat),n-(j+1)=k->j+1<=n->St (j+1) s.heap->J s.heap->Pv (a0f bt j) g->s.heap.get? S=aX {cls:=.type "list",dict:=aY,data:=.seq #[g,g] c,slots:=#[]}->
   (∀v h' G,Pv (a0f bt (n-1)) v->Lft wr S s.heap h'->R (.ok (.ret v)) {s with heap:=h',toks:=G})->a0B (Xv P w) A (.builtin "min.loop" ⟨[.ref I,.none,.ref S],kw⟩) R s:=by
 have Z:S∉wr:=λz=>U (K.sub _ z);have nm:(toString "min"++toString ".loop":String)="min.loop":=by decide
 intro k;induction k with
 |zero=>
  intro j s g c e1 e2 st Y B u q;obtain rfl:j+1=n:=by omega
  refine Z9 F.entry_min_loop ?_;rw[Zb F.plain_min_loop _];refine WN (m:=a6G (.ref S)) (a2E u rfl ?_);refine WN (m:=tryCatch (a0v (.ref I)) _) (a1H (K.done s _ _ st λh' G p=>?_));refine WN (m:=a3L S λ_=>#[]) (Z6 (p S _ Z u) rfl (WN (a1h (WV ?_))));exact q g _ G B λb o d a e=>(Yl _ _ (XI a)).trans (p b o d e)
 |succ k X=>
  intro j s g c e1 e2 st Y B u q;refine Z9 F.entry_min_loop ?_;rw[Zb F.plain_min_loop _];refine WN (m:=a6G (.ref S)) (a2E u rfl ?_);refine WN (m:=tryCatch (a0v (.ref I)) _) (a1H (K.item (j+1) s _ _ (by omega) st λv h' G pv x p=>?_));have l:=p S _ Z u;have m:=T _ h' Y λb o d _ e=>p b o d e;show Xk _ A.in1 (tryCatch (holding [v,v] (a2H .Lt v g >>= _)) _ >>= _) _ _ _;refine WN (a1H (X4 (WN (hc (j+1) (a0f bt j) v g _ _ _ m pv B (WN (X4 (YT (WN (a1h (WV ?_))))))))));cases y:bt (j+1) (a0f bt j)with
  |true=>simp only[if_true];refine WN (Z6 l rfl (WN (a1h ?_)));rw[nm];have M:Lft [] S h' (h'.update S (Yi λ_=>#[v,v])):=λb o _ a e=>(Yl _ _ (XI a)).trans e;refine WV ⟨Zx F.plain_min_loop _,X (j+1) _ v _ (by omega) (by omega) (K.frame _ _ _ x λb y o e=>M b o (by simp) (λz=>U (z▸y)) e) (T _ _ m λb o _ a e=>M b o (by simp) a e) (by simp only[a0f,y,if_true];exact pv) (Yq _ l rfl) λO H r N L=>?_⟩;exact q O H r N λb o d a e=>L b o d a (M b o (by simp) a (p b o d e))|false=>simp only[Xp,if_false];refine WN (a1h ?_);rw[nm];exact WV ⟨Zx F.plain_min_loop _,X (j+1) _ g c (by omega) (by omega) x m (by simp only[a0f,y,Xp,if_false];exact B) l λO H r N L=>q O H r N λb o d a e=>L b o d a (p b o d e)⟩
theorem EC(K:Walks P w A.in1 I fp wr n Pv St)(p:∀h h',J h->Lft wr S h h'->J h')(hc:∀i j vi vj t (Q E:Value->WX->Prop),J t.heap->Pv i vi->Pv j vj->Q (.bool (bt i j)) t->Xk (Xv P w) A.in1 (a2H .Lt vi vj) Q E t)(q:S∉fp){c:Nat}
  (st:St 0 s.heap)(N:J s.heap)(G:s.heap.get? S=aX {cls:=.type "list",dict:=aY,data:=.seq #[] c,slots:=#[]})
  (Y:0<n->∀v h' k,Pv (a0f bt (n-1)) v->Lft wr S s.heap h'->R (.ok (.ret v)) {s with heap:=h',toks:=k})
  (Z:n=0->∃x d,kw=[(x,d)]/\∀h' k,Lft wr S s.heap h'->R (.ok (.ret d)) {s with heap:=h',toks:=k}):a0B (Xv P w) A (.builtin "min.loop" ⟨[.ref I,.none,.ref S],kw⟩) R s:=by
 have T:S∉wr:=λz=>q (K.sub _ z);have U:(toString "min"++toString ".loop":String)="min.loop":=by decide
 refine Z9 F.entry_min_loop ?_;rw[Zb F.plain_min_loop _];refine WN (m:=a6G (.ref S)) (a2E G rfl ?_);by_cases H:n=0
 ·subst H;obtain⟨x,d,rfl,q3⟩:=Z rfl;refine WN (m:=tryCatch (a0v (.ref I)) _) (a1H (K.done s _ _ st λh' k m=>?_));exact WN (a1b (WV (q3 h' k λb o a _ e=>m b o a e)))
 ·refine WN (m:=tryCatch (a0v (.ref I)) _) (a1H (K.item 0 s _ _ (by omega) st λv h' k pv y m=>?_));have l:=m S _ T G;have r:=p _ h' N λb o a _ e=>m b o a e;refine WN (m:=a3L S λ_=>#[v,v]) (Z6 l rfl ?_);rw[U];have u:Lft [] S h' (h'.update S (Yi λ_=>#[v,v])):=λb o _ g e=>(Yl _ _ (XI g)).trans e;refine WV ⟨Zx F.plain_min_loop _,QV K p hc q _ 0 _ v _ rfl (by omega) (K.frame _ _ _ y λb M o e=>u b o (by simp) (λz=>q (z▸M)) e) (p _ _ r λb o _ g e=>u b o (by simp) g e) pv (Yq _ l rfl) λv' L B X O=>?_⟩;exact Y (by omega) v' L B X λb o a g e=>O b o a g (u b o (by simp) g (m b o a e))
end
section
variable{P:Xw}{w:XF}{A:XC}{E:Value->WX->Prop}{s:WX}
noncomputable def zZ(x y:List Int×List Int):Bool:=if x.1=y.1 then HT.lexLt x.2 y.2 else HT.lexLt x.1 y.1
theorem QX{a i b j c c':Addr}{k k' m r:List Int}{Q:Value->WX->Prop}(U:A.units+2<YL)(H:a3B s.heap a #[.ref b,.ref c])(o:a3B s.heap i #[.ref j,.ref c'])
  (x:jU P w s.heap b k)(d:jU P w s.heap j k')(hc:jU P w s.heap c m)(g:jU P w s.heap c' r)(q:Q (.bool (zZ (k,m) (k',r))) s):Xk (Xv P w) A (a2H .Lt (.ref a) (.ref i)) Q E s:=by
 obtain⟨y,p,v,X,I⟩:=id H;obtain⟨B,n,u,Y,G⟩:=id o;have h:A.in1.units<YL:=by show A.units+1<YL;omega
 refine wpAny_richCompare_same_room (op:=.Lt) ⟨y,p,v⟩ ⟨B,n,u⟩ F.slot_tuple_lt (Yo F.slot_tuple_lt ⟨y,p,v⟩ F.entry_tuple_lt ?_ (F.args_tuple_lt_2 _ _)) (by omega);refine WN (m:=isInstance (.ref i) (.type "tuple")) (a0q ⟨B,n,u⟩ isSubtype_tuple_tuple ?_);simp only[a1G,Xp,if_false];refine WN (a6i p I (WN (a6i n G (WN ?_))));show Xk _ _ (forIn [(W5 b,W5 j),(W5 c,W5 c')] _ _) _ _ s;simp only[a5Y,List.forIn_nil];refine WN (WN ((a0r (a0A P w)).eqBool h x.1 d.1 ?_));obtain⟨xs,N,J⟩:=x.2;obtain⟨ys,O,K⟩:=d.2;obtain⟨zs,R,L⟩:=hc.2;obtain⟨Z,T,M⟩:=g.2;unfold zZ at q;dsimp only at q;by_cases e:k=k'
 ·rw[decide_eq_true e];rw[if_pos e]at q;simp only[a1G,Xp,if_false];refine WV (WN (WN ((a0r (a0A P w)).eqBool h hc.1 g.1 ?_)));by_cases l:m=r
  ·rw[decide_eq_true l];subst l;rw[zP]at q;simp only[a1G,Xp,if_false];exact WV (WV (WV ⟨.bool b3,rfl,(λz=>nomatch z),q⟩))
  ·rw[decide_eq_false l];simp only[a2l,if_true];refine WN (a1b (WN (HT.lt_tupInts R T (by simpa using L) (by simpa using M) h ?_)));exact WN (WV (WV (WV (WV ⟨_,rfl,(λz=>nomatch z),q⟩))))
 ·rw[decide_eq_false e];rw[if_neg e]at q;simp only[a2l,if_true];refine WN (a1b (WN (HT.lt_tupInts N O (by simpa using J) (by simpa using K) h ?_)));exact WN (WV (WV (WV (WV ⟨_,rfl,(λz=>nomatch z),q⟩))))
end
theorem ED{xs:gw}{us:gq}(r:Vals xs us){i:Nat}{u:Value}(h:us[i]?=aX u):∃x,xs[i]?=aX x/\RelV x u:=by
 cases e:xs[i]? with
 |none=>rw[r.none_of e]at h;cases h|some x=>obtain⟨c,a,b⟩:=r.get e;rw[a]at h;cases h;exact⟨x,rfl,b⟩
section
variable{X:Cx}{a7J:jw}{σ:St}{H:Hp}{s:WX}
theorem uX(I:Inv X a7J σ H s){b:Addr}{k:List Int}(h:SqT X.K H b (k.map V.int)):jU X.prog X.w s.heap b k:=by obtain⟨a,c,t,_⟩:=I.tuple h;exact⟨kG I h,a,t,tI c⟩
structure PrV(K:WQ)(H:Hp)(v:V)(a b c:Addr)(z:List Int×List Int):Prop where
 v:v=.ref a
 t:SqT K H a [.ref b,.ref c]
 k:SqT K H b (z.1.map V.int)
 m:SqT K H c (z.2.map V.int)
theorem Lft.up{c:List Addr}{S:Addr}{a h h':Ye}(j:∀b o,a.get? b=aX o->h.get? b=aX o)(l:Lft c S h h')(hw:∀b∈c,a.objs.size<=b)(d:a.objs.size<=S):∀b o,a.get? b=aX o->h'.get? b=aX o:=λb o e=>l b o (λz=>absurd (W2 e) (ZY.mpr (hw b z))) (λz=>absurd (W2 e) (ZY.mpr (z▸d))) (j b o e)
noncomputable def oG(ps:List (List Int×List Int))(i j:Nat):Bool:=zZ (ps.getD i ([],[])) (ps.getD j ([],[]))
noncomputable def EE(K:WQ):gw->Hp->VK->Prop:=λxs H Q=>∃(p:Addr)(vs:gw)(ps:List (List Int×List Int)),xs=[.ref p,.non]/\SqL K H p vs/\(∀i v,vs[i]?=aX v->∃a b c,PrV K H v a b c (ps.getD i ([],[]))) /\
 (vs=[]->Q .non H)/\∀v,vs[a0f (oG ps) (vs.length-1)]?=aX v->Q v H
theorem QY(a:Value):argsOk "min" ⟨[a],[(Yy "default",.none)]⟩:=by unfold argsOk;kernel_rfl
theorem QZ(hc:X.calm=b4)(hun:X.A.units+64<YL){xs:gw}{u:Value}{Q:VK}(I:Inv X a7J σ H s)(r:∃y,xs=[y,.non]/\RelV y u)(h:EE X.K xs H Q) :
  Xk (Xv X.prog X.w) X.A (call (.builtin "min") [u] [(Yy "default",.none)]) (EP X a7J σ Q) X.xe s:=by
 obtain⟨p,vs,n,rfl,hq,hp,q1,q2⟩:=h;obtain⟨y,T,K⟩:=r;cases T;cases K;have Z:X.A.in1.handled=none:=I.ok.hd hc;obtain⟨d,L,J,hz⟩:=I.list hq;have hl:d.toArray.size=vs.length:=by rw[Xb,<- L.length]
 have m:p<s.heap.objs.size:=by obtain⟨o,ho,_⟩:=J.isList;exact W2 ho
 have nm:(toString "min"++toString ".loop":String)="min.loop":=by decide
 refine kmk_tree a4H a4A a4B (QY _) ?_;refine WN (m:=ZJ "min" ["key","default"] 0 ⟨[],[(Yy "default",.none)]⟩) (a1V (show ZJ "min" ["key","default"] 0 ⟨[],[(Yy "default",.none)]⟩=pure [aY,aX .none]from rfl) (WN (WV (WN (a1U J.isList (WN (a0y ?_ (XJ _))))))));rw[nm];have G:∀b o,s.heap.get? b=aX o->((s.heap.push {cls:=.type "list_iterator",data:=.fields #[.ref p,.int 0 0]}).push (Yu "list" #[] 0)).get? b=aX o:=λb o e=>WW _ (WW _ e);have R:(s.heap.push {cls:=.type "list_iterator",data:=.fields #[.ref p,.int 0 0]}).objs.size=s.heap.objs.size+1:=a0F ..;have w:s.heap.objs.size<=(s.heap.push {cls:=.type "list_iterator",data:=.fields #[.ref p,.int 0 0]}).objs.size:=by rw[R];exact ZH _
 have N:∀b∈[s.heap.objs.size],s.heap.objs.size<=b:=λb Y=>a0j (Xe.mp Y).symm;refine WV ⟨Zx a3T _,EC (bt:=oG n) (J:=λh=>∀b o,s.heap.get? b=aX o->h.get? b=aX o) (a6L Z _ p (Xd m) d.toArray) (λh O j l=>l.up j N w) (λi j vi vj t Q' E' jt hi hj q=>?_)
  (λz=>?_) ⟨⟨_,WW _ (W9 _ rfl),rfl,rfl⟩,(J.isList.push _).push _⟩ G (W9 _ rfl) (λU v O M pv l=>?_) λU=>⟨_,_,rfl,λO M l=>?_⟩⟩
 ·have A:Inv X a7J σ H {s with heap:=t.heap,toks:=t.toks}:=I.kept (t':=t.toks) jt;have k:∀{i v},d.toArray[i]?=aX v->∃a b c,v=.ref a/\a3B t.heap a #[.ref b,.ref c]/\jU X.prog X.w t.heap b (n.getD i ([],[])).1/\jU X.prog X.w t.heap c (n.getD i ([],[])).2:=λ{i v} hi=>by obtain⟨x,B,E⟩:=ED L (i:=i) (u:=v) (by simpa using hi);obtain⟨a,b,c,g⟩:=hp i x B;obtain⟨rfl⟩:=g.v;cases E;obtain⟨us,K,t,_⟩:=A.tuple g.t;obtain⟨u1,u2,rfl,r1,r2⟩:=tF K;cases r1;cases r2;exact⟨a,b,c,rfl,t,uX A g.k,uX A g.m⟩
  obtain⟨a,b,c,rfl,t1,k1,m1⟩:=k hi;obtain⟨a',b',c',rfl,t2,k2,m2⟩:=k hj;exact QX (by show X.A.units+1+2<YL;omega) t1 t2 k1 k2 m1 m2 q
 ·rcases Xr.mp z with e|z
  ·exact X1 (a5q (YW _) R.symm) e
  ·exact X1 (Xq m w) (Xe.mp z)
 ·obtain⟨x,B,E⟩:=ED L (i:=a0f (oG n) (d.toArray.size-1)) (u:=v) (by simpa using pv);exact⟨x,H,I.kept (t':=M) (l.up G N w),E,q2 x (by rw[<- hl];exact B)⟩
 ·exact⟨.non,H,I.kept (t':=M) (l.up G N w),rfl,q1 (Ze.mp (by omega))⟩
end
noncomputable def uY:D->Option (List Int×List Int)
 |.tup [a,b]=>(c5 a).bind λk=>(c5 b).map λm=>(k,m)|_=>aY
noncomputable def rR:List D->Option (List (List Int×List Int))
 |[]=>aX []|d::ds=>(uY d).bind λz=>(rR ds).map λa=>z::a
noncomputable def mT:MF:=λds b=>match ds with
 |[.loc a,.non]=>match b[a]? with
  |some (.lst xs)=>(rR xs).bind λc=>if xs=[]then aX (.non,b)else(xs[a0f (oG c) (xs.length-1)]?).map λd=>(d,b)|_=>aY
 |_=>aY
section
variable{K:WQ}{π:Nat->Addr}{n:Nat}{H:Hp}
theorem Q0{v:V}{x:D}{z:List Int×List Int}(h:IsD K π n H v x)(e:uY x=aX z):∃a b c,PrV K H v a b c z:=by
 unfold uY at e;split at e
 ·obtain⟨k,d,e⟩:=WM.mp e;obtain⟨m,g,e⟩:=WS.mp e;cases e;cases h with
  |tup j t=>
   cases t with
   |cons l t=>
    cases t with
    |cons o t=>cases t;obtain⟨b,rfl,i⟩:=kJ l d;obtain⟨c,rfl,hc⟩:=kJ o g;exact⟨_,b,c,rfl,j,i,hc⟩
 ·cases e
theorem EF:∀{xs:List D}{vs:gw}{ps:List (List Int×List Int)},IsDs K π n H vs xs->rR xs=aX ps->∀i v,vs[i]?=aX v->∃a b c,PrV K H v a b c (ps.getD i ([],[]))
 |[],_,_,h,_,i,v,hv=>by cases h;cases hv
 |x::xs,_,_,h,e,i,v,hv=>by
  obtain⟨z,d,e⟩:=WM.mp e;obtain⟨k,g,e⟩:=WS.mp e;cases e;cases h with
  |cons j t=>
   cases i with
   |zero=>cases hv;exact Q0 j d|succ i=>exact EF t g i v hv
end
theorem Q1{K:WQ}:dR K mT (EE K):=by
 intro h H G g d y E Q R i a k;unfold mT at a;split at a
 ·split at a
  ·rename_i g r;obtain⟨w,n,a⟩:=WM.mp a;cases i with
   |cons s t=>
    cases t with
    |cons u t=>
     cases t;cases u;obtain⟨p,x,e,q,hd⟩:=nZ (xs:=g) R s (by simp only[eX,r]);refine⟨p,x,w,by rw[e],q,EF hd n,λj=>?_,λv b=>?_⟩
     ·subst j;cases hd;rw[if_pos rfl]at a;cases a;exact k h _ H .refl R .non
     ·have c:g≠[]:=λz=>by subst z;cases hd;cases b
      rw[if_neg c]at a;obtain⟨A,o,a⟩:=WS.mp a;cases a;obtain⟨B,l,m⟩:=hd.get o;rw[hd.length]at b;rw[l]at b;cases b;exact k h _ H .refl R m
  ·cases a
 ·cases a
theorem Q2{X:Cx}{e j:Expr}{m O:ME}{p p1 pos:YE}(hc:X.calm=b4)(B:X.A.units+64<YL)(hg:Gl X "min") (hm:X.mg "min"=aY) (h:QE X e m)(h1:QE X j O)(hs:cT e=b4) :
  QE X (.Call (.Name "min" p) [e] [⟨aX "default",j,p1⟩] pos) (aI mT (aB m (aB O aD))):=⟨by
 intro n s σ H Q I hw;obtain⟨Z,ρ,Y,d,L,R,E,hw,k⟩:=hw;obtain⟨⟨ds,μ2⟩,o,hw⟩:=WM.mp hw;obtain⟨⟨x,c⟩,g1,o⟩:=WM.mp o;obtain⟨⟨ds',μ3⟩,A,o⟩:=WM.mp o;obtain⟨⟨y,g⟩,M,A⟩:=WM.mp A;cases A;cases o;dsimp only at M hw;refine YX (iS I hg hm a0M ?_ (by decide) (by decide));have st:XB [e] X.env=(b3,eval e X.env)::XB [] X.env:=fT hs;refine a7n (aV (BS h.h BR st pos n s σ H (λT i=>∃v a,T=[v]/\Ext Z Y.length H a c.length i/\Rp X.K a i c/\IsD X.K a c.length i v x) I ⟨Z,ρ,Y,x,c,R,E,g1,λa v i j z G=>⟨v,a,rfl,j,z,G⟩⟩) λus s1 ⟨T,i,I1,r1,v,a,ev,j,z,G⟩=>?_) (by rw[st];rfl) (by rw[st];rfl);subst ev;refine aV (KG h1.h KA pos n s1 σ i (λU l=>∃w b,U=[w]/\Ext a c.length i b g.length l/\Rp X.K b l g/\IsD X.K b g.length l w y) I1 ⟨a,ρ,c,y,g,z,E.mono j,M,λb w l r R2 J=>⟨w,b,rfl,r,R2,J⟩⟩) λws s2 ⟨U,l,I2,r2,w,b,ew,r,R2,J⟩=>?_;subst ew;obtain⟨u,rfl,ru⟩:=fA r1;obtain⟨u2,rfl,K⟩:=fA r2;have N:=Q1 b l g [x,y] d L [v,w] Q R2 (.cons (G.mono r) (.cons J .nil)) hw (k.after (j.trans r));obtain⟨q,vs',ps,e5,hr'⟩:=id N;cases e5;cases K;exact QZ hc B I2 ⟨_,rfl,ru⟩ N⟩
noncomputable def EG(K:WQ):gw->Hp->VK->Prop:=λxs H Q=>∃a k b v ps,xs=[V.ref a]/\H a=aX (aU a ((k,b,v)::ps))/\eM K H ((k,b,v)::ps)/\(∀p∈ps,HT.lexLt p.1 k=b3)/\Q (.ref b) H
theorem EH{bt:Nat->Nat->Bool}:∀n:Nat,(∀j,j<n->bt (j+1) 0=b3)->a0f bt n=0
 |0,_=>rfl|n+1,h=>by have e:=EH n λj a=>h j (a2W a);simp only[a0f,e,h n (YW n),Xp,if_false]
theorem Q3{X:Cx}(hc:X.calm=b4)(hun:X.A.units+64<YL):CallR X (.builtin "min") (EG X.K):=by
 intro y s σ H xs us Q I r h;obtain⟨a,k,b,v,w,rfl,ha,A,hl,q⟩:=h;obtain⟨u,rfl,ru⟩:=fA r;cases ru;have hh:X.A.in1.handled=none:=I.ok.hd hc;obtain⟨lo,hz,n,x,g,L⟩:=pT I ha A;have nm:(toString "min"++toString ".loop":String)="min.loop":=by decide
 have hs:n.size=w.length+1:=by have:=congrArg X0 L;simpa using this
 have T:(s.heap.push {cls:=.type "dict_keyiterator",data:=.fields #[.ref a,.int 0 0,.int n.size 0,.int x 0]}).objs.size=s.heap.objs.size+1:=a0F ..;have E:s.heap.objs.size<=(s.heap.push {cls:=.type "dict_keyiterator",data:=.fields #[.ref a,.int 0 0,.int n.size 0,.int x 0]}).objs.size:=by rw[T];exact ZH _
 have B:∀c o,s.heap.get? c=aX o->((s.heap.push {cls:=.type "dict_keyiterator",data:=.fields #[.ref a,.int 0 0,.int n.size 0,.int x 0]}).push (Yu "list" #[] 0)).get? c=aX o:=λc o e=>WW _ (WW _ e);have R:∀c∈[s.heap.objs.size],s.heap.objs.size<=c:=λc hc=>a0j (Xe.mp hc).symm;have d:∀{i:Nat}{e:DictEntry},n[i]?=aX e->∃p,((k,b,v)::w)[i]?=aX p/\e.key=.ref p.2.1:=λ{i e} hi=>by have:=congrArg (·[i]?) L;simp only[W6,X2,hi,Xm]at this;obtain⟨p,J,K⟩:=WS.mp this.symm;exact⟨p,J,K.symm⟩
 refine call_function_tree a4H a4A a4B (PySem.F.args_min1 _) ?_;refine WN (m:=ZJ "min" ["key","default"] 0 ⟨[],[]⟩) (a1V (show ZJ "min" ["key","default"] 0 ⟨[],[]⟩=pure [aY,aY]from rfl) (WN (WV (WN (zM lo g (WN (a0y ?_ (XJ _))))))));rw[nm];refine WV ⟨Zx a3T _,EC (bt:=λi j=>HT.lexLt ((((k,b,v)::w).getD i ([],0,.non)).1) ((((k,b,v)::w).getD j ([],0,.non)).1)) (J:=λh=>∀c o,s.heap.get? c=aX o->h.get? c=aX o) (D9 hh (Xd g.lt) n x) (λh h' j l=>l.up j R E) (λi j vi vj t Q' E' jt hi M q=>?_)
  (λz=>?_) ⟨⟨_,WW _ (W9 _ rfl),rfl,rfl⟩,g.stay λo e=>B _ _ e⟩ B (W9 _ rfl) (λh0 w' h' tk pv l=>?_) λh0=>by omega⟩
 ·have G:Inv X y σ H {s with heap:=t.heap,toks:=t.toks}:=I.kept (t':=t.toks) jt;obtain⟨J,Y,rfl⟩:=hi;obtain⟨K,Z,rfl⟩:=M;obtain⟨p1,N,k1⟩:=d Y;obtain⟨p2,O,k2⟩:=d Z;rw[k1,k2];obtain⟨x1,t1,i1⟩:=(uX G (A p1 (Xn N))).2;obtain⟨x2,t2,i2⟩:=(uX G (A p2 (Xn O))).2;refine HT.lt_tupInts t1 t2 (by simpa using i1) (by simpa using i2) (by show X.A.units+1<YL;omega) ?_;rw[Zu,Zu,N,O]at q;exact q
 ·rcases Xr.mp z with e|z
  ·exact X1 (a5q (YW _) T.symm) e
  ·exact X1 (Xq g.lt E) (Xe.mp z)
 ·rw[EH _ λj M=>by
   rw[List.getD_cons_succ,a4K,Zu,W3 (show j<w.length by omega)];exact hl _ (ZP _)]at pv
  obtain⟨e,f,rfl⟩:=pv;obtain⟨p,m,U⟩:=d f;cases m;exact⟨.ref b,H,I.kept (t':=tk) (l.up B R E),U,q⟩
noncomputable def oH:MF:=λds c=>match ds with
 |[.loc a]=>match c[a]? with
  |some (.dT (b::kvs))=>if(kvs.all λp=>!HT.lexLt p.1 b.1)=b4 then aX (.tup (b.1.map D.int),c)else aY|_=>aY
 |_=>aY
theorem Q4{K:WQ}:dR K oH (EG K):=by
 intro s H w v d r u Q R i a k;unfold oH at a;split at a
 ·split at a
  ·rename_i q e c;split at a
   ·rename_i n;cases a;cases i with
    |cons i t=>
     cases t;cases i;obtain⟨g,m,T⟩:=gZ R c;have b:=T.to;cases g with
     |nil=>cases b.1|cons p g=>
      obtain⟨h,j⟩:=List.cons.inj b.1;refine⟨_,p.1,p.2.1,p.2.2,g,rfl,m,T.keys,λx o=>?_,?_⟩
      ·have:x.1∈e.map (·.1):=by rw[<- j];exact W0.mpr ⟨x,o,rfl⟩
       obtain⟨y,c,l⟩:=W0.mp this;have:=YB.mp n y c;rw[<- l,show p.1=q.1 from h];simpa using this
      ·cases b.2.1 with
       |cons i t=>exact k s _ H .refl R i
   ·cases a
  ·cases a
 ·cases a
end L3
namespace L3
open PySem L2
structure Sig where
 fn:List (Str×Nat)
 con:List (Str×D)
 tab:List (Str×List (cA×D))
 no:List Str
 dIt:List Str
 dEq:List Str
 dMe:List Str
structure Cs where
 N:List Str
 ks:List (Str×ZM)
noncomputable def kK(x:Str):List Str->Option Nat
 |[]=>aY|y::r=>if x=y then aX 0 else(kK x r).map (·+1)
theorem oI{x:Str}:∀{N:List Str}{i:Nat},kK x N=aX i->N[i]?=aX x
 |[],_,h=>by cases h
 |y::r,i,h=>by
  unfold kK at h;split at h
  ·rename_i e;cases h;subst e;rfl
  ·obtain⟨j,a,b⟩:=WS.mp h;subst b;have:=oI a;simpa using this
noncomputable def glob(c:Cs)(x:Str):Bool:=decide (c.ks.lookup x=aX .globalImplicit)&&!(x==("__debug__":Str))
noncomputable def nK(c:Cs)(x:Str):Bool:=(decide (c.ks.lookup x=aX .local)||decide (c.ks.lookup x=aX .cell)||decide (c.ks.lookup x=aX .free))&&!(x==("__debug__":Str))&&!(x==("__classdict__":Str))
noncomputable def mU(c:Cs)(x:Str):Bool:=decide (c.ks.lookup x=aX .local)||decide (c.ks.lookup x=aX .cell)
noncomputable def z7(x:Str):Option String:=
 if x="int" then aX "int" else if x="bool" then aX "bool" else if x="str" then aX "str" else if x="list" then aX "list" else if x="tuple" then aX "tuple" else if x="dict" then aX "dict" else aY
theorem Q5{x:Str}{n:String}(h:z7 x=aX n):YN x=aX (.type n)/\x ≠ "__name__":=by
 unfold z7 at h;split at h
 ·rename_i e;subst e;cases h;exact⟨a2g,by decide⟩
 split at h
 ·rename_i e;subst e;cases h;exact⟨a5n,by decide⟩
 split at h
 ·rename_i e;subst e;cases h;exact⟨a5h,by decide⟩
 split at h
 ·rename_i e;subst e;cases h;exact⟨a0H,by decide⟩
 split at h
 ·rename_i e;subst e;cases h;exact⟨a0z,by decide⟩
 split at h
 ·rename_i e;subst e;cases h;exact⟨a5m,by decide⟩
 ·cases h
noncomputable def z8(S:Sig)(c:Cs)(x:Str):ME:=
 if nK c x=b4 then(match kK x c.N with|some i=>aA i|none=>bX)
 else if glob c x=b4 then(match S.con.lookup x with
  |some d=>mC d
  |none=>if S.no.contains x=b4 then(match z7 x with|some n=>mC (.ty n)|none=>bX)else bX)
 else bX
noncomputable def fW(r:Expr->ME):List Expr->MA
 |[]=>aD|e::es=>aB (r e) (fW r es)
noncomputable def uZ(op:BoolOp):List ME->ME
 |[]=>bX|[m]=>m|m::r=>match op with
  |.And=>fR m (uZ op r)|.Or=>xQ m (uZ op r)
noncomputable def u3(op:BoolOp):List MT->MT
 |[]=>nR|[m]=>m|m::r=>match op with
  |.And=>fD m (u3 op r)|.Or=>iE m (u3 op r)
noncomputable def EI(op:a4q)(a b:ME):ME:=match op with
 |.Add=>aC bI a b|.Sub=>aC gC a b|.Mult=>aC bO a b|.FloorDiv=>aC dG a b|.Mod=>aC a7 a b|.Pow=>aC k8 a b|_=>bX
noncomputable def mV(op:a0Z)(ns:Bool)(a b:ME):ME:=match op with
 |.Eq=>aC (aR b3) a b|.NotEq=>aC (aR b4) a b|.Lt=>aC jD a b|.LtE=>aC o4 a b|.Gt=>aC jN a b|.GtE=>aC yC a b|.In=>if ns=b4 then aC (cK b3) a b else bX|.NotIn=>if ns=b4 then aC (cK b4) a b else bX|_=>bX
noncomputable def eZ:MF:=λds b=>match ds with
 |[.loc a]=>match b[a]? with
  |some (.lst xs)=>aX (.int xs.length,b)|some (.st ks)=>aX (.int ks.length,b)|some (.dT kvs)=>aX (.int kvs.length,b)|_=>aY
 |_=>qY ds b
noncomputable def z9:MF:=λds a=>match ds with
 |[x]=>(bK a x).map λb=>(.tup b,a)|_=>aY
theorem Q6{K:WQ}:dR K z9 (λxs H Q=>∃p b,xs=[.ref p]/\((SqL K H p b/\∀l,H l=aY->Q (.ref l) (aM H l (.tup b)))\/(SqT K H p b/\Q (.ref p) H))):=by
 intro g H r xs d n o Q R i a k;unfold z9 at a;split at a
 ·obtain⟨b,h,j⟩:=WS.mp a;cases j;cases i with
  |cons i t=>
   cases t;obtain⟨p,e,rfl,q,hd⟩:=o9 R i h;refine⟨p,e,rfl,?_⟩;rcases q with q|q
   ·refine .inl ⟨q,λl m=>?_⟩;obtain⟨c,R2⟩:=R.fresh (o:=.tup e) m;exact k g _ _ c R2 (.tup (.of cQ) (hd.mono c))
   ·exact .inr ⟨q,k g _ H .refl R (.tup q hd)⟩
 ·cases a
noncomputable def mW:MF:=λds b=>match ds with
 |[.loc a]=>match b[a]? with
  |some (.dT kvs)=>aX (.loc b.length,b++[.lst (kvs.map λk=>D.tup (k.1.map D.int))])|_=>qZ [.loc a] b
 |ds=>qZ ds b
theorem Q7{K:WQ}:dR K mW (λxs H Q=>(∃p g,xs=[.ref p]/\(SqL K H p g\/SqT K H p g)/\∀l,H l=aY->Q (.ref l) (aM H l (.lst g)))\/Ed K xs H Q):=by
 intro n H m xs d c j Q R i b k;unfold mW at b;split at b
 ·rename_i a;split at b
  ·rename_i e s;cases b;cases i with
   |cons i t=>cases t;cases i;obtain⟨h,q,T⟩:=gZ R s;refine .inr ⟨_,h,rfl,q,T.keys,λl r=>?_⟩;obtain⟨o,R2,_⟩:=R.alloc (c:=.lst (e.map λk:List Int×D=>D.tup (k.1.map D.int))) (o:=.lst (h.map λp:List Int×Addr×V=>V.ref p.2.1)) r T.to.2.1;exact k _ _ _ o R2 mM
  ·exact .inl (C4 n H m _ d c j Q R i b k)
 ·exact .inl (C4 n H m _ d c j Q R i b k)
noncomputable def Aa(x:Str):Option MF:=
 if x="len" then aX eZ
 else if x="isinstance" then aX jO
 else if x="int" then aX mN
 else if x="list" then aX mW
 else if x="tuple" then aX z9
 else if x="all" then aX uI
 else if x="sorted" then aX lP
 else if x="min" then aX zI else if x="max" then aX zH
 else aY
noncomputable def Q8(K:WQ):gw->Hp->VK->Prop:=λxs H Q=>yH K xs H Q\/(∃a L,xs=[V.ref a]/\H a=aX (tL a L)/\Q (.int L.length) H)\/Ec K xs H Q
theorem Q9{K:WQ}:dR K eZ (Q8 K):=by
 intro g H l q d e j Q R i b k;unfold eZ at b;split at b
 ·rename_i a;split at b
  ·rename_i r c;refine .inl (C3 g H l _ d e j Q R i ?_ k);simp only[qY,bK,c];exact b
  ·rename_i n c;cases b;cases i with
   |cons i t=>cases t;cases i;obtain⟨L,h,m,_⟩:=R.st a n c;have:=congrArg X0 m;rw[WO]at this;refine .inr (.inl ⟨_,L,rfl,h,?_⟩);rw[this];exact k g _ H .refl R (.int _)
  ·rename_i o c;cases b;cases i with
   |cons i t=>cases t;cases i;obtain⟨p,h,T⟩:=gZ R c;have:=congrArg X0 T.to.1;rw[WO,WO]at this;refine .inr (.inr ⟨_,p,rfl,h,T.keys,?_⟩);rw[this];exact k g _ H .refl R (.int _)
  ·cases b
 ·exact .inl (C3 g H l _ d e j Q R i b k)
theorem Ra{X:Cx}{x:Str}{f:MF}(a:X.calm=b4)(b:X.A.units+64<YL)(h:Aa x=aX f):∃v r,YN x=aX v/\((∃id,v=.builtin id)\/∃T,v=.type T)/\CallR X v r/\dR X.K f r/\x ≠ "__name__":=by
 unfold Aa at h;split at h
 ·rename_i e;subst e;cases h;exact⟨_,_,a5k,.inl ⟨_,rfl⟩,call_lenM.or (call_lenT.or PB),Q9,by decide⟩
 split at h
 ·rename_i e;subst e;cases h;exact⟨_,_,a5l,.inl ⟨_,rfl⟩,MQ,MP,by decide⟩
 split at h
 ·rename_i e;subst e;cases h;exact⟨_,_,a2g,.inr ⟨_,rfl⟩,Kr,MN,by decide⟩
 split at h
 ·rename_i e;subst e;cases h;exact⟨_,_,a0H,.inr ⟨_,rfl⟩,call_list_of.or (PC a),Q7,by decide⟩
 split at h
 ·rename_i e;subst e;cases h;exact⟨_,_,a0z,.inr ⟨_,rfl⟩,Ce,Q6,by decide⟩
 split at h
 ·rename_i e;subst e;cases h;exact⟨_,_,a5o,.inl ⟨_,rfl⟩,OB a,OA rfl,by decide⟩
 split at h
 ·rename_i e;subst e;cases h;exact⟨_,_,a0w,.inl ⟨_,rfl⟩,call_sortI.or OG,O6,by decide⟩
 split at h
 ·rename_i e;subst e;cases h;exact⟨_,_,a0M,.inl ⟨_,rfl⟩,Kq a,OO,by decide⟩
 split at h
 ·rename_i e;subst e;cases h;exact⟨_,_,a5j,.inl ⟨_,rfl⟩,Kp a,OP,by decide⟩
 ·cases h
noncomputable def Ab(x:Str):Option MF:=
 Aa x
theorem Rb{X:Cx}{x:Str}{f:MF}(a:X.calm=b4)(b:X.A.units+64<YL)(h:Ab x=aX f):∃v r,YN x=aX v/\((∃id,v=.builtin id)\/∃T,v=.type T)/\CallR X v r/\dR X.K f r/\x ≠ "__name__":=by unfold Ab at h;exact Ra a b h
noncomputable def EJ(m:Str)(n:Nat):Option (D->List D->Hm->jk):=
 if n=1 then(if m="append" then aX fF
  else if m="extend" then aX nW
  else if m="pop" then aX nX
  else aY)
 else if n=0 then(
  if m="pop" then aX pH else
  if m="reverse" then aX pI else
  aY)
 else if n=2 then(if m="insert" then aX pR else aY)
 else aY
noncomputable def iJ:MF:=λds b=>match ds with
 |[.loc a]=>match b[a]? with
  |some (.dT kvs)=>if kvs.length<64/\(∀p∈kvs,p.1≠[])then aX (.loc b.length,b++[.lst ((fU kvs).map λk=>D.tup (k.1.map D.int))])else aY|_=>aY
 |_=>aY
theorem Rc{K:WQ}:dR K iJ (Et K):=by
 intro A H y x d u w Q R i a k;unfold iJ at a;split at a
 ·split at a
  ·rename_i b s;split at a
   ·rename_i m;cases a;cases i with
    |cons i t=>
     cases t;cases i;obtain⟨c,j,T⟩:=gZ R s;obtain⟨v,g⟩:=P8 T;refine⟨_,c,rfl,j,T.keys,by omega,λp o z=>?_,λl n=>?_⟩
     ·have:p.1∈b.map (·.1):=by rw[<- T.to.1];exact W0.mpr ⟨p,o,rfl⟩
      obtain⟨q,r,e⟩:=W0.mp this;exact m.2 q r (e.trans z)
     ·obtain⟨h,R2,_⟩:=R.alloc (c:=.lst ((fU b).map λk:List Int×D=>D.tup (k.1.map D.int))) (o:=.lst ((lQ c).map λp:List Int×Addr×V=>V.ref p.2.1)) n g.to.2.1;exact k _ _ _ h R2 mM
   ·cases a
  ·cases a
 ·cases a
noncomputable def EK(S:Sig)(f:Expr)(args:List Expr):Option Expr:=match f with
 |.Name x _=>match args with
  |[.Name y p]=>if S.dMe.contains y=b4/\x="min" then aX (.Name y p)else aY|_=>aY
 |_=>aY
noncomputable def EL(S:Sig):Expr->List Expr->Option (Bool×Expr)
 |.Name x _,[.Name y p]=>if S.dMe.contains y=b4 then(if x="sorted" then aX (b4,.Name y p)else if x="dict" then aX (b3,.Name y p)else aY)else aY|_,_=>aY
noncomputable def EM(S:Sig)(o:Expr)(m:Str)(n:Nat):Option (D->List D->Hm->jk):=
 if m="setdefault"/\n=2 then aX mS else
 if m="get"/\n=2 then aX mR else
 aY
noncomputable def u4(S:Sig)(c:Cs)(tg:Expr):Expr->Option Nat
 |.Name x _=>match tg with
  |.Name _ _=>if S.dIt.contains x=b4 then kK x c.N else aY|_=>aY
 |_=>aY
noncomputable def Ac(S:Sig)(F:Str->MF)(r:Expr->ME)(c:Cs)(f:Expr)(args:List Expr)(a:YE):ME:=match f with
 |.Name x _=>if glob c x&&args.all cT then(match S.fn.lookup x with
   |some n=>if args.length=n then aI (F x) (fW r args)else bX|none=>
   if S.no.contains x&&!args.isEmpty then(match Ab x with|some g=>aI g (fW r args)|none=>bX)else bX)
  else bX
 |.Attribute o m apos=>if jR o&&(apos.endLine==a.line)&&args.all cT then(
   match EM S o m args.length with
   |some g=>lR g (r o) (fW r args)|none=>
   match EJ m args.length with
   |some g=>dH g (r o) (fW r args)|none=>
    bX)
  else bX
 |_=>bX
noncomputable def Ad:Expr->Option (Expr×List Expr)
 |.Call f as [] _=>aX (f,as)|_=>aY
theorem Rf{e f:Expr}{as:List Expr}(h:Ad e=aX (f,as)):∃pos,e=.Call f as [] pos:=by
 unfold Ad at h;split at h
 ·cases h;exact⟨_,rfl⟩
 ·cases h
noncomputable def u5:Expr->Option Str
 |.Name x _=>aX x|_=>aY
theorem EO{e:Expr}{x:Str}(h:u5 e=aX x):∃p,e=.Name x p:=by
 unfold u5 at h;split at h
 ·cases h;exact⟨_,rfl⟩
 ·cases h
noncomputable def o1:List Expr->Option Expr
 |[e]=>aX e|_=>aY
theorem ER{l:List Expr}{e:Expr}(h:o1 l=aX e):l=[e]:=by
 unfold o1 at h;split at h
 ·cases h;rfl
 ·cases h
noncomputable def Ae(f:Expr)(args:List Expr):Option (Str×Str×Expr):=(u5 f).bind λx=>(o1 args).bind λa=>(Ad a).bind λg=>(u5 g.1).bind λy=>(o1 g.2).map λe=>(x,y,e)
theorem ES{f:Expr}{args:List Expr}{x y:Str}{e:Expr}(h:Ae f args=aX (x,y,e)):∃p c pos,f=.Name x p/\args=[.Call (.Name y c) [e] [] pos]:=by obtain⟨m,d,h⟩:=WM.mp h;obtain⟨a,i,h⟩:=WM.mp h;obtain⟨g,j,h⟩:=WM.mp h;obtain⟨n,b,h⟩:=WM.mp h;obtain⟨l,k,h⟩:=WS.mp h;cases h;obtain⟨p,rfl⟩:=EO d;obtain⟨pos,rfl⟩:=Rf j;obtain⟨c,b⟩:=EO b;exact⟨p,c,pos,rfl,by rw[ER i,b,ER k]⟩
noncomputable def Rg(f:Expr)(args:List Expr):Option (Bool×Expr):=(Ae f args).bind λt=>
 if t.1="list"/\t.2.1="reversed" then aX (b4,t.2.2)else
 aY
noncomputable def ET:Bool->Str
 |false=>"range"|true=>"reversed"
noncomputable def lstM:Bool->MF
 |true=>mP|false=>mP
noncomputable def Af(S:Sig)(F:Str->MF)(r:Expr->ME)(c:Cs)(f:Expr)(args:List Expr)(a:YE):ME:=
 match Rg f args with
 |some (b,e)=>if glob c "list" && glob c (ET b)&&S.no.contains "list" && S.no.contains (ET b)&&cT e then aI (lstM b) (fW r [e])else bX|none=>Ac S F r c f args a
noncomputable def Ag:Expr->Option (Expr×YE×YE)
 |.Call g [] [] cpos=>match g with
  |.Attribute o m apos=>if m="items" then aX (o,apos,cpos)else aY|_=>aY
 |_=>aY
theorem Rh{e o:Expr}{a b:YE}(h:Ag e=aX (o,a,b)):e=.Call (.Attribute o "items" a) [] [] b:=by
 unfold Ag at h;split at h
 ·split at h
  ·split at h
   ·rename_i c;cases h;rw[c]
   ·cases h
  ·cases h
 ·cases h
noncomputable def Ri(f:Expr)(args:List Expr):Option (Expr×YE×YE):=(Ae f args).bind λt=>if t.1="tuple"/\t.2.1="sorted" then Ag t.2.2 else aY
noncomputable def Ah(S:Sig)(F:Str->MF)(r:Expr->ME)(c:Cs)(f:Expr)(args:List Expr)(a:YE):ME:=
 match Ri f args with
 |some q=>if glob c "sorted" && glob c "tuple" && S.no.contains "sorted" && S.no.contains "tuple" && jR q.1&&(q.2.1.endLine==q.2.2.line)then uW (r q.1)else bX|none=>
 match EK S f args with
 |some e=>if glob c "min" && S.no.contains "min" then aI oH (fW r [e])else bX|none=>
 match EL S f args with
 |some (b4,e)=>if glob c "sorted" && S.no.contains "sorted" then aI iJ (fW r [e])else bX|some (b3,e)=>bX|none=>
 Af S F r c f args a
noncomputable def qA(c:Cs)(scope:Zz)(xs:List Str):Bool:=
 (scope.names.all λy=>decide (y.2≠.cell))&&decide (scope.kind=.function)&&(scope.names.all λy=>decide (y.2≠.local)||decide (scope.names.lookup y.1=aX .local)) &&
 (xs.all λx=>decide (scope.names.lookup x=aX .local))&&decide xs.Nodup&&(scope.names.all λy=>decide (y.2≠.free)||decide (c.ks.lookup y.1=aX .cell)||decide (c.ks.lookup y.1=aX .free)) &&
 (scope.names.all λy=>decide (y.2≠.local)||!(bL xs c.N).contains y.1)&&decide (bL xs c.N).Nodup&&(c.N.all λy=>!xs.contains y||decide (scope.names.lookup (o6 y)=aY))
noncomputable def rS(c:Cs)(scope:Zz)(xs:List Str):Cs:=
 ⟨bL xs c.N++xs,scope.names.map λ(n,k)=>if(k==Zi&&c.ks.lookup n==aX .cell)then(n,Zy)else(n,k)⟩
noncomputable def EU(r:Expr->MT):List Expr->MT
 |[]=>fS|[t]=>r t|_=>nR
noncomputable def Ai(S:Sig)(c:Cs):Expr->Option (List Expr)
 |.Call (.Name x _) args [] _=>if x="range" then(if glob c x&&S.no.contains x&&args.all cT then aX args else aY)else aY|_=>aY
noncomputable def u6(S:Sig)(r:Expr->ME)(c:Cs)(e:Expr):MI:=match Ai S c e with
 |some [a]=>lF (fW r [a])|some [a,b]=>jF (fW r [a,b])|some _=>Df|none=>cU (r e)
noncomputable def Aj(S:Sig)(c:Cs):Expr->Option Expr
 |.Call (.Name x _) [a] [] _=>if x="enumerate" then(if glob c x&&S.no.contains x&&cT a then aX a else aY)else aY|_=>aY
noncomputable def Ak(S:Sig)(r:Expr->ME)(c:Cs)(e:Expr):MI:=match Aj S c e with
 |some a=>pP (fW r [a])|none=>u6 S r c e
noncomputable def Al(S:Sig)(c:Cs):Expr->Option (Expr×Expr)
 |.Call (.Name x _) [a,b] [] _=>if x="zip" then(if glob c x&&S.no.contains x&&cT a&&cT b then aX (a,b)else aY)else aY|_=>aY
noncomputable def Am(S:Sig)(r:Expr->ME)(c:Cs)(e:Expr):MI:=match Al S c e with
 |some (a,b)=>rL (fW r [a,b])|none=>Ak S r c e
noncomputable def An:Expr->Option (List Str)
 |.Name x _=>aX [x]|.Tuple es _ _=>es.mapM λe=>match e with|.Name x _=>aX x|_=>aY
 |_=>aY
noncomputable def Ao:Expr->Nat->BD
 |.Tuple ..,n=>tY n|_,_=>o8
noncomputable def rV(S:Sig)(r:Expr->ME)(c:Cs)(tg e:Expr):MI:=match tg with
 |.Tuple ..=>Am S r c e|_=>u6 S r c e
noncomputable def m3(b:MI)(d:Cs->Expr->ME)(e:Cs->Expr->MT)(c:Cs)(elt tg iter:Expr)(ifs:List Expr)(scope:Zz):ME:=match An tg with
 |some a=>if qA c scope a&&gD iter then gT (Ao tg a.length) b (EU (e (rS c scope a)) ifs) (d (rS c scope a) elt)else bX|none=>bX
noncomputable def Ap(S:Sig)(a:Cs->Expr->ME)(b:Cs->Expr->MT)(c:Cs)(elt tg iter:Expr)(ifs:List Expr)(scope:Zz):ME:=
 match u4 S c tg iter with
 |some i=>pX i (m3 (eA (a c iter)) a b c elt tg iter ifs scope) bX|none=>
 m3 (rV S (a c) c tg iter) a b c elt tg iter ifs scope
noncomputable def EV:Const->ME
 |.int i=>mC (.int i)|.bool b=>mC (.bl b)|.str s=>mC (.str s)|.none=>mC .non|_=>bX
noncomputable def EW(m:ME):UnaryOp->ME
 |.USub=>kE m|.Not=>oV m|_=>bX
noncomputable def Aq(S:Sig)(r:Expr->ME)(a:Expr):List a0Z->List Expr->ME
 |[op],[b]=>mV op (gD b) (r a) (r b)
 |[op,op'],[b,b']=>(match lO op,lO op' with
  |some p,aX q=>jT (gP p) (gP q) (r a) (r b) (r b')
  |_,_=>bX)
 |_,_=>bX
noncomputable def Ar(r:Expr->ME):List (Option Expr)->List Expr->ME
 |[],[]=>fJ|[aX k],[v]=>pW (r k) (r v)|_,_=>bX
noncomputable def Au(S:Sig)(r:Expr->ME)(c:Cs)(a b:Expr):ME:=match b with
 |.Slice _ _ aY _=>bX|b=>if pG b then aC aJ (r a) (r b)else bX
noncomputable def Av(r:Expr->ME)(es:List Expr):ME:=if es.all cT then bW (fW r es)else bX
noncomputable def Aw(r:Expr->ME)(es:List Expr):ME:=if es.all cT then cD (fW r es)else bX
noncomputable def Ax(S:Sig)(r:Expr->ME)(c:Cs)(f:Expr)(args:List Expr)(d:Str)(b:Expr):ME:=match f with
 |.Name x _=>match args with
  |[a]=>if x="min"/\d="default"/\(glob c "min" && S.no.contains "min" && cT a)=b4 then aI mT (aB (r a) (aB (r b) aD))else bX|_=>bX
 |_=>bX
noncomputable def Ay(S:Sig)(F:Str->MF)(r:Expr->ME)(c:Cs)(f:Expr)(args:List Expr)(a:YE):List a0g->ME
 |[]=>Ah S F r c f args a|[⟨aX k1,e1,_⟩]=>Ax S r c f args k1 e1|_=>bX
noncomputable def Az(S:Sig)(a:Cs->Expr->ME)(b:Cs->Expr->MT)(c:Cs)(elt:Expr)(scope:Zz):List Comprehension->ME
 |[⟨tg,iter,ifs,0⟩]=>Ap S a b c elt tg iter ifs scope|_=>bX
noncomputable def EX(S:Sig)(F:Str->MF)(d:Cs->Expr->ME)(e:Cs->Expr->MT)(c:Cs):Expr->ME
 |.Name x _=>z8 S c x|.Constant v _ _=>EV v|.BinOp a op b _=>EI op (d c a) (d c b)|.UnaryOp op a _=>EW (d c a) op|.Compare a ops bs _=>Aq S (d c) a ops bs|.BoolOp op vs _=>uZ op (vs.map (d c))|.IfExp t a b _=>k5 (e c t) (d c a) (d c b)|.Tuple es _ _=>Av (d c) es|.List es _=>Aw (d c) es|.Dict keys values _=>Ar (d c) keys values|.Subscript a b _=>Au S (d c) c a b|.Call f args kws cpos=>Ay S F (d c) c f args cpos kws|.ListComp elt gs scope _=>Az S d e c elt scope gs|_=>bX
noncomputable def rW(r:Expr->ME)(e:Expr):MT:=if yJ e then fG (r e)else nR
noncomputable def AA(S:Sig)(r:Expr->ME)(a:Expr)(c:List a0Z)(bs:List Expr)(p:YE):MT:=match c,bs with
 |[op],[b]=>a8 (mV op (gD b) (r a) (r b))
 |[op,op'],[b,b']=>(match lO op,lO op' with
  |some p,aX q=>a8 (jT (gP p) (gP q) (r a) (r b) (r b'))
  |_,_=>nR)
 |c,bs=>rW r (.Compare a c bs p)
noncomputable def Rj(r:Expr->ME)(t:MT)(a:Expr)(p:YE):UnaryOp->MT
 |.Not=>t|op=>rW r (.UnaryOp op a p)
noncomputable def EY(S:Sig)(b:Cs->Expr->ME)(d:Cs->Expr->MT)(c:Cs):Expr->MT
 |.BoolOp op vs _=>u3 op (vs.map (d c))|.UnaryOp op a p=>Rj (b c) (j9 (d c a)) a p op|.Compare a ops bs p=>AA S (b c) a ops bs p|e=>rW (b c) e
noncomputable def tr(S:Sig)(F:Str->MF):Nat->(Cs->Expr->ME)×(Cs->Expr->MT)
 |0=>(λ_ _=>bX,λ_ _=>nR)|n+1=>(EX S F (tr S F n).1 (tr S F n).2,EY S (tr S F n).1 (tr S F n).2)
structure Okx(S:Sig)(F:Str->MF)(k:Nat)(c:Cs)(X:Cx):Prop where
 N:X.N=c.N
 nd:X.N.Nodup
 ks:X.env.scope.names=c.ks
 kind:X.env.scope.kind=.function
 calm:X.calm=b4
 room:Room k X.A
 never:a3U (Xv X.prog X.w) X.A X.env X.xe
 fn:∀x n,S.fn.lookup x=aX n->∃(f:Addr)(fd:ZC)(ps:List Str),FnOk X.prog X.w X.K X.mg X.base f9 k f fd ps (jL X.K n (F x))/\X.mg x=aX (.ref f)/\YY X.K (.ref f)=b4/\Binds X.K fd ps []
 con:∀x d,S.con.lookup x=aX d->∃v u,X.mg x=aX u/\RelV v u/\∀π n H,IsD X.K π n H v d
 tab:∀x kvs,S.tab.lookup x=aX kvs->TabOk X x kvs
 no:∀x,S.no.contains x=b4->X.mg x=aY
section
variable{S:Sig}{F:Str->MF}{k:Nat}{c:Cs}{X:Cx}
theorem Rk(ks:X.env.scope.names=c.ks){x:Str}(h:glob c x=b4):Gl X x/\(x==("__debug__":Str))=false:=by unfold glob at h;rw[WZ]at h;refine⟨?_,by simpa using h.2⟩;show X.env.scope.names.lookup x=_;rw[ks];exact of_decide_eq_true h.1
theorem Rl(ks:X.env.scope.names=c.ks){x:Str}(h:nK c x=b4):nI X.env.scope x/\(x==("__debug__":Str))=b3/\(x==("__classdict__":Str))=false:=by
 unfold nK at h;rw[WZ,WZ,Y3,Y3]at h;obtain⟨⟨a,b⟩,d⟩:=h;refine⟨?_,by simpa using b,by simpa using d⟩;unfold nI;rw[ks];rcases a with(a|a)|a
 ·exact .inl (of_decide_eq_true a)
 ·exact .inr (.inl (of_decide_eq_true a))
 ·exact .inr (.inr (of_decide_eq_true a))
theorem Okx.gl(O:Okx S F k c X){x:Str}(h:glob c x=b4):Gl X x/\(x==("__debug__":Str))=false:=Rk O.ks h
theorem Okx.vis(O:Okx S F k c X){x:Str}(h:nK c x=b4):nI X.env.scope x/\(x==("__debug__":Str))=b3/\(x==("__classdict__":Str))=false:=Rl O.ks h
theorem Rm(O:Okx S F k c X)(x:Str)(pos:YE):QE X (.Name x pos) (z8 S c x):=by
 unfold z8;split
 ·rename_i h;obtain⟨a,b,j⟩:=O.vis h;split
  ·rename_i i hi;exact MW i (by rw[O.N];exact oI hi) a b j
  ·exact b8
 split
 ·rename_i h;obtain⟨a,b⟩:=O.gl h;split
  ·rename_i d hd;obtain⟨v,u,m,r,i⟩:=O.con x d hd;exact⟨oU (Jc a m r b) i⟩
  ·split
   ·rename_i l;split
    ·rename_i n o;obtain⟨e,g⟩:=Q5 o;exact Nw (O.no x l) e a g b
    ·exact b8
   ·exact b8
 ·exact b8
theorem iK{r:Expr->ME}(a:∀e,QE X e (r e)):∀(es:List Expr),es.all cT=b4->QA X es (fW r es) es.length
 |[],_=>Nm|e::es,h=>by rw[XG,WZ]at h;exact Nn (a e) (iK a es h.2) h.1
theorem EZ{r:Expr->ME}(a:∀e,QE X e (r e))(op:BoolOp)(pos:YE):∀(vs:List Expr),QE X (.BoolOp op vs pos) (uZ op (vs.map r))
 |[]=>b8|[e]=>Ni (a e)|e::d::es=>by
  have b:=EZ a op pos (d::es);cases op with
  |And=>exact Nj (a e) b|Or=>exact Nk (a e) b
theorem E4{r:Expr->MT}(a:∀e,QT X e (r e))(op:BoolOp)(pos:YE):∀(vs:List Expr),QW X (.BoolOp op vs pos) (u3 op (vs.map r))
 |[]=>Oe|[e]=>by
  cases op with
  |And=>exact NH (a e)|Or=>exact NI (a e)
 |e::d::es=>by
  have b:=E4 a op pos (d::es);cases op with
  |And=>exact NJ (a e) b|Or=>exact NK (a e) b
theorem Rn{a b:Expr}{g h:ME}(d:QE X a g)(e:QE X b h)(op:a4q)(pos:YE):QE X (.BinOp a op b pos) (EI op g h):=by
 cases op with
 |Add=>exact M3 d e|Sub=>exact M4 d e|Mult=>exact M5 d e|FloorDiv=>exact M6 d e|Mod=>exact M7 d e|Pow=>exact M8 d e|_=>exact b8
theorem Ro(O:Okx S F k c X){a b:Expr}{g i:ME}(d:QE X a g)(e:QE X b i)(op:a0Z)(pos:YE):QE X (.Compare a [op] [b] pos) (mV op (gD b) g i):=by
 cases op with
 |Eq=>exact Nb O.room d e|NotEq=>exact Nc O.room d e|Lt=>exact Nd d e|LtE=>exact Nf d e|Gt=>exact Ng d e|GtE=>exact Nh d e|In=>
  simp only[mV];split
  ·rename_i h;exact PF O.room d e h
  ·exact b8
 |NotIn=>
  simp only[mV];split
  ·rename_i h;exact PH O.room d e h
  ·exact b8
 |_=>exact b8
theorem AB{e:Expr}:QT X e (a8 bX):=⟨λa7J s σ H Q I h=>by
 obtain⟨i,j,g,d,b,R,E,a,k⟩:=h;cases a⟩
theorem Rt(O:Okx S F k c X){a b:Expr}{g i:ME}(d:QE X a g)(e:QE X b i)(op:a0Z)(pos:YE):QT X (.Compare a [op] [b] pos) (a8 (mV op (gD b) g i)):=by
 cases op with
 |Eq=>exact Nx O.room d e|NotEq=>exact Ny O.room d e|Lt=>exact Nz d e|LtE=>exact NA d e|Gt=>exact NB d e|GtE=>exact NC d e|In=>
  simp only[mV];split
  ·rename_i h;exact uS O.room d e h
  ·exact AB
 |NotIn=>
  simp only[mV];split
  ·rename_i h;exact PJ O.room d e h
  ·exact AB
 |_=>exact AB
theorem Ru(O:Okx S F k c X){r:Expr->ME}(i:∀e,QE X e (r e))(f:Expr)(args:List Expr)(l:YE):QE X (.Call f args [] l) (Ac S F r c f args l):=by
 unfold Ac;split
 ·rename_i x p;split
  ·rename_i y;rw[WZ]at y;obtain⟨z,A⟩:=O.gl y.1;have h:=iK i args y.2;split
   ·rename_i n w;split
    ·rename_i b;obtain⟨Q,R,U,E,a,L,B⟩:=O.fn x n w;subst b;cases args with
     |nil=>exact Ox E O.room a L B z A|cons e q=>exact Nu E O.room a L B h z A
    ·exact b8
   ·skip;split
    ·rename_i j;rw[WZ]at j;split
     ·rename_i g B;obtain⟨v,Y,H,M,I,J,K⟩:=Rb (X:=X) O.calm O.room.units B;cases args with
      |nil=>exact absurd j.2 (by simp)|cons e q=>
       rcases M with⟨id,rfl⟩|⟨T,rfl⟩
       ·exact yI I J (O.no x j.1) H h z K A
       ·exact Nv I J (O.no x j.1) H h z K A
     ·exact b8
    ·exact b8
  ·exact b8
 ·rename_i o m G;split
  ·rename_i y;rw[WZ,WZ]at y;obtain⟨⟨s,u⟩,N⟩:=y;have h:=iK i args N;split
   ·rename_i g a;unfold EM at a;split at a
    ·rename_i b;obtain⟨rfl,b⟩:=b;cases a;cases args with
     |nil=>cases b|cons e q=>exact Eu a2U PySem.F.type_dict_setdefault (Qs (by have:=O.room.units;omega)) Qr (i o) h s u (by rw[b];decide)
    split at a
    ·rename_i b;obtain⟨rfl,b⟩:=b;cases a;cases args with
     |nil=>cases b|cons e q=>exact Eu a4e PySem.F.type_dict_get (Qo (by have:=O.room.units;omega)) Qn (i o) h s u (by rw[b];decide)
    cases a
   split
   ·rename_i g a;unfold EJ at a;split at a
    ·rename_i b;cases args with
     |nil=>cases b|cons e q=>
      have w:(e::q).length<30:=by rw[b];decide
      split at a
      ·rename_i d;subst d;cases a;exact uG PySem.F.slot_list_append PySem.F.type_list_append Cm Oi (i o) h s u w
      split at a
      ·rename_i d;subst d;cases a;exact uG PySem.F.slot_list_extend PySem.F.type_list_extend La Oj (i o) h s u w
      split at a
      ·rename_i d;subst d;cases a;exact uG a4d a4c Lc Ot (i o) h s u w
      ·cases a
    split at a
    ·rename_i b;cases args with
     |cons e q=>cases b|nil=>
      split at a
      ·rename_i d;subst d;cases a;exact Dv a4d a4c Lb Om (i o) s u
      split at a
      ·rename_i d;subst d;cases a;exact Dv PySem.F.slot_list_reverse PySem.F.type_list_reverse Ld Ol (i o) s u
      cases a
    split at a
    ·rename_i b;cases args with
     |nil=>cases b|cons e q=>
      have w:(e::q).length<30:=by rw[b];decide
      split at a
      ·rename_i d;subst d;cases a;exact uG PySem.F.slot_list_insert PySem.F.type_list_insert O3 O1 (i o) h s u w
      ·cases a
    ·cases a
   ·skip
    ·exact b8
  ·exact b8
 ·exact b8
theorem Rv(O:Okx S F k c X){r:Expr->ME}(j:∀e,QE X e (r e))(f:Expr)(args:List Expr)(a:YE):QE X (.Call f args [] a) (Af S F r c f args a):=by
 unfold Af;split
 ·rename_i b e h;split
  ·rename_i i;rw[WZ,WZ,WZ,WZ]at i;obtain⟨⟨⟨⟨l,m⟩,q⟩,s⟩,st⟩:=i;have o:=iK j [e] (by rw[XG,st];rfl);obtain⟨t,n,g⟩:=WM.mp h;obtain⟨p,u,pos,rfl,rfl⟩:=ES n;split at g
   ·rename_i d;cases g;rw[d.1,d.2];exact Pf O.calm (O.no _ q) (O.no _ s) o (O.gl l).1 (O.gl m).1
   ·cases g
  ·exact b8
 ·exact Ru O j f args a
theorem Ry(nd:X.N.Nodup)(e:X.N=c.N)(ks:X.env.scope.names=c.ks){scope:Zz}{xs:List Str}(h:qA c scope xs=b4):CompSt X.env.scope X.N scope xs/\xs.Nodup:=by
 unfold qA at h;rw[WZ,WZ]at h;obtain⟨⟨h,b⟩,q⟩:=h;have b:=of_decide_eq_true b;have d:∀y∈c.N,xs.contains y=b4->scope.names.lookup (o6 y)=none:=λy a hc=>by have:=YB.mp q y a;rw[hc]at this;simpa using this
 simp only[WZ,YB,decide_eq_true_eq,Y3,Z4,List.contains_eq_mem,decide_eq_false_iff_not]at h;obtain⟨⟨⟨⟨⟨⟨i,j⟩,l⟩,m⟩,p⟩,n⟩,o⟩:=h;refine⟨⟨i,j,λy a g=>(l y a).resolve_left (λz=>z g),m,λy a r=>?_,λy a g=>?_,nd,by rw[e];exact b,by rw[e];exact d⟩,p⟩
 ·rw[ks];rcases n y a with(z|z)|z
  ·exact absurd r z
  ·exact .inl z
  ·exact .inr z
 ·rw[e];have:=(o y a).resolve_left (λz=>z g);exact this
theorem rX(O:Okx S F k c X){scope:Zz}{xs:List Str}(h:qA c scope xs=b4):CompSt X.env.scope X.N scope xs/\xs.Nodup:=Ry O.nd O.N O.ks h
theorem E6{N xs:List Str}(h:N.Nodup)(d:xs.Nodup)(g:∀x∈xs,x∉N):(N++xs).Nodup:=by rw[Yt];exact⟨h,d,λa i b j e=>by subst e;exact g _ j i⟩
theorem E7{scope:Zz}{xs:List Str}(Q:CompSt X.env.scope X.N scope xs/\xs.Nodup):(bL xs X.N++xs).Nodup:=E6 Q.1.hnd Q.2 λx a=>Q.1.own (x,.local) (Yp (Q.1.here x a)) rfl
theorem Rz(a:X.env.scope.kind=.function)(ks:X.env.scope.names=c.ks)(scope:Zz)(xs:List Str):(a6y scope X.env).names=(rS c scope xs).ks:=by
 unfold a6y rS;dsimp only;refine Xs λy _=>?_;obtain⟨n,b⟩:=y;dsimp only;have:(X.env.scope.kind==ScopeKind.function)=true:=by rw[a];rfl
 rw[this,a2A];show(if(b==Zi&&X.env.scope.names.lookup n==aX Zy)=b4 then _ else _)=_;rw[ks]
theorem Okx.comp(O:Okx S F k c X){scope:Zz}{xs:List Str}(h:qA c scope xs=b4){b:List (Str×Addr)}{C:Addr}{s₀:WX}{H₀:Hp}{d:List Addr}:Okx S F k (rS c scope xs) (cN X scope b C (bL xs X.N++xs) s₀ H₀ d):=
 ⟨show bL xs X.N++xs=bL xs c.N++xs by rw[O.N],E7 (rX O h),Rz O.kind O.ks scope xs,(rX O h).1.kind,O.calm,O.room,a4C,O.fn,O.con,λy a q=>⟨(O.tab y a q).ex⟩,O.no
  ⟩
theorem Fb{r:Expr->MT}(j:∀e,QT X e (r e)):∀es:List Expr,QI X es (EU r es)
 |[]=>NM|[t]=>NN (j t)
 |a::b::es=>⟨λg s p H Q I h=>by
   obtain⟨n,o,m,d,l,R,E,i,k⟩:=h;cases i⟩
theorem Fc(O:Okx S F k c X){e:Expr}{args:List Expr}(h:Ai S c e=aX args):∃p pos,e=.Call (.Name "range" p) args [] pos/\Gl X "range"/\X.mg "range"=aY/\args.all cT=true:=by
 unfold Ai at h;split at h
 ·split at h
  ·rename_i b;subst b;split at h
   ·rename_i a;cases h;rw[WZ,WZ]at a;exact⟨_,_,rfl,(O.gl a.1.1).1,O.no _ a.1.2,a.2⟩
   ·cases h
  ·cases h
 ·cases h
theorem Fd(O:Okx S F k c X){r:Expr->ME}(j:∀e,QE X e (r e))(e:Expr):QJ X e (u6 S r c e):=by
 unfold u6;split
 ·rename_i a h;obtain⟨p,pos,rfl,d,g,i⟩:=Fc O h;exact N6 d g (iK j [a] i)
 ·rename_i a b h;obtain⟨p,pos,rfl,d,g,i⟩:=Fc O h;exact N7 d g (iK j [a,b] i)
 ·exact N3
 ·exact N4 (j e)
theorem RA(O:Okx S F k c X){e a:Expr}(h:Aj S c e=aX a):∃p pos,e=.Call (.Name "enumerate" p) [a] [] pos/\Gl X "enumerate"/\X.mg "enumerate"=aY/\cT a=true:=by
 unfold Aj at h;split at h
 ·split at h
  ·rename_i d;subst d;split at h
   ·rename_i b;cases h;rw[WZ,WZ]at b;exact⟨_,_,rfl,(O.gl b.1.1).1,O.no _ b.1.2,b.2⟩
   ·cases h
  ·cases h
 ·cases h
theorem RB(O:Okx S F k c X){r:Expr->ME}(b:∀e,QE X e (r e))(e:Expr):QJT X e (Ak S r c e):=by
 unfold Ak;split
 ·rename_i a h;obtain⟨p,pos,rfl,d,g,i⟩:=RA O h;exact OU d g (iK b [a] (by rw[XG,i];rfl))
 ·exact(Fd O b e).t
theorem RC(O:Okx S F k c X){e a b:Expr}(h:Al S c e=aX (a,b)):∃p pos,e=.Call (.Name "zip" p) [a,b] [] pos/\Gl X "zip"/\X.mg "zip"=aY/\cT a=b4/\cT b=true:=by
 unfold Al at h;split at h
 ·split at h
  ·rename_i g;subst g;split at h
   ·rename_i d;cases h;rw[WZ,WZ,WZ]at d;exact⟨_,_,rfl,(O.gl d.1.1.1).1,O.no _ d.1.1.2,d.1.2,d.2⟩
   ·cases h
  ·cases h
 ·cases h
theorem RD(O:Okx S F k c X){r:Expr->ME}(d:∀e,QE X e (r e))(e:Expr):QJT X e (Am S r c e):=by
 unfold Am;split
 ·rename_i a b h;obtain⟨p,pos,rfl,g,i,j,l⟩:=RC O h;exact PU g i (iK d [a,b] (by rw[XG,XG,j,l];rfl))
 ·exact RB O d e
theorem AD(O:Okx S F k c X){r:Expr->ME}(a:∀e,QE X e (r e))(tg e:Expr):PI X tg e (tMI X.K (rV S r c tg e)):=by
 unfold rV;split
 ·exact(RD O a e).h _ _ _
 ·exact(Fd O a e).h _
theorem Fe{iter:Expr}{env:a2v}(h:gD iter=b4):∀x,a0e iter env x=pure x:=by intro z;cases iter<;>first|rfl|cases h
end
theorem Ff{X:Cx}(c:X.N.Nodup):∀(es:List Expr)(xs:List Str)(n:Nat),(es.mapM λe=>match e with|.Name x _=>aX x|_=>aY)=aX xs->(∀j x,xs[j]?=aX x->X.N[n+j]?=aX x/\X.env.scope.names.lookup x=aX .local)->QGs X es (a2h n xs.length)
 |[],xs,n,h,hx=>by cases h;exact Dd
 |e::es,xs,n,h,hx=>by
  rw[List.mapM_cons]at h;obtain⟨x,b,h⟩:=WM.mp h;obtain⟨i,d,h⟩:=WM.mp h;cases h;cases e with
  |Name y p=>cases b;rw[Xy,a5D];have a:=hx 0 x rfl;refine De n c (Ff c es i (n+1) d λj z g=>?_) (by simpa using a.1) (.inl a.2) (.inr a.2);have:=hx (j+1) z (by simpa using g);rw[show n+1+j=n+(j+1) by omega];exact this|_=>cases b
theorem RE{c:Cs}{X:Cx}{scope:Zz}{x:Str}{p:YE}(Q:CompSt X.env.scope X.N scope [x]/\[x].Nodup)(a:List (Str×Addr))(C:Addr)(s₀:WX)(H₀:Hp)(b:List Addr):PG (cN X scope a C (bL [x] X.N++[x]) s₀ H₀ b) (.Name x p) (tMG X.K (gB X.N.length o8)):=by have e:=E7 Q;have d:(a6y scope X.env).names.lookup x=aX .local:=a5Q (Q.1.here x (by simp));exact N8 (X:=cN X scope a C (bL [x] X.N++[x]) s₀ H₀ b) (by show(bL [x] X.N++[x]).length=_;rw[W4,nN];rfl) (CZ (X:=cN X scope a C (bL [x] X.N++[x]) s₀ H₀ b) e (by show(bL [x] X.N++[x])[X.N.length]?=_;rw[<- nN [x] X.N];simp) (.inl d) (.inr d))
theorem u7{S:Sig}{F:Str->MF}{k:Nat}{c:Cs}{X:Cx}(O:Okx S F k c X){scope:Zz}{tg:Expr}{xs:List Str}(a:An tg=aX xs)(h:qA c scope xs=b4)(b:List (Str×Addr))(C:Addr)(s₀:WX)(H₀:Hp)(e:List Addr) :
  PG (cN X scope b C (bL xs X.N++xs) s₀ H₀ e) tg (tMG X.K (gB X.N.length (Ao tg xs.length)))/\∀d n z,Ao tg xs.length d n=aX z->z.length=xs.length:=by
 obtain⟨St,i⟩:=rX O h;have r:(bL xs X.N++xs).Nodup:=E6 St.hnd i λx a=>St.own (x,.local) (Yp (St.here x a)) rfl;have g:∀x∈xs,(a6y scope X.env).names.lookup x=aX .local:=λx a=>a5Q (St.here x a);unfold An at a;split at a
 ·rename_i x p;cases a;refine⟨RE (c:=c) ⟨St,i⟩ b C s₀ H₀ e,λd n z m=>?_⟩;cases m;rfl
 ·rename_i q v pt;refine⟨N9 (X:=cN X scope b C (bL xs X.N++xs) s₀ H₀ e) (by show(bL xs X.N++xs).length=_;rw[W4,nN]) (yK (X:=cN X scope b C (bL xs X.N++xs) s₀ H₀ e) (Ff (X:=cN X scope b C (bL xs X.N++xs) s₀ H₀ e) r q xs X.N.length a λj x o=>⟨?_,g x (Xn o)⟩) O.calm).h,λd n z m=>?_⟩
  ·show(bL xs X.N++xs)[X.N.length+j]?=aX x;rw[YI (by rw[nN];omega),nN,show X.N.length+j-X.N.length=j by omega];exact o
  ·obtain⟨w,u,l⟩:=WM.mp m;split at l
   ·rename_i s;cases l;rw[WO];exact s
   ·cases l
 ·cases a
theorem RF(O:Okx S F k c X){r:Expr->ME}(g:∀e,QE X e (r e))(f:Expr)(args:List Expr)(b:YE):QE X (.Call f args [] b) (Ah S F r c f args b):=by
 unfold Ah;split
 ·rename_i q h;split
  ·rename_i a;rw[WZ,WZ,WZ,WZ,WZ]at a;obtain⟨⟨⟨⟨⟨l,m⟩,s⟩,u⟩,st⟩,o⟩:=a;obtain⟨t,n,j⟩:=WM.mp h;split at j
   ·rename_i d;obtain⟨p,v,pos,rfl,rfl⟩:=ES n;rw[d.1,d.2,Rh j];exact Qx O.calm O.room.units (O.no _ s) (O.no _ u) (O.gl l).1 (O.gl m).1 (g _) st o
   ·cases j
  ·exact b8
 split
 ·rename_i e h;split
  ·rename_i a;rw[WZ]at a;unfold EK at h;split at h
   ·split at h
    ·split at h
     ·rename_i i;obtain⟨_,rfl⟩:=i;cases h;exact yI (Q3 O.calm O.room.units) Q4 (O.no _ a.2) a0M (iK g _ rfl) (O.gl a.1).1 (by decide) (O.gl a.1).2
     ·cases h
    ·cases h
   ·cases h
  ·exact b8
 split
 ·rename_i e h;split
  ·rename_i a;rw[WZ]at a;unfold EL at h;split at h
   ·split at h
    ·split at h
     ·rename_i i;subst i;cases h;exact yI (Qj O.calm) Rc (O.no _ a.2) a0w (iK g _ rfl) (O.gl a.1).1 (by decide) (O.gl a.1).2
     ·split at h
      ·cases h
      ·cases h
    ·cases h
   ·cases h
  ·exact b8
 ·exact b8
 exact Rv O g _ _ _
theorem AE{S:Sig}{F:Str->MF}{k:Nat}{m:Cs->Expr->ME}{n:Cs->Expr->MT}(o:∀c X,Okx S F k c X->∀e,QE X e (m c e))(p:∀c X,Okx S F k c X->∀e,QT X e (n c e))(c:Cs)(X:Cx)(O:Okx S F k c X)
  (elt tg iter:Expr)(ifs:List Expr)(scope:Zz)(pos:YE){l:MI}(hi:PI X tg iter (tMI X.K l)):QE X (.ListComp elt [⟨tg,iter,ifs,0⟩] scope pos) (m3 l m n c elt tg iter ifs scope):=by
 unfold m3;split
 ·rename_i v j;split
  ·rename_i h;rw[WZ]at h;refine⟨λg s u H Q I q=>?_⟩;exact Oc ((rX O h.1).1.ok I.ok) O.calm hi (λd r z=>(u7 O j h.1 [] 0 s H []).2 d r z) (λC b a i=>(u7 O j h.1 _ C b a i).1) (λC b a i=>(Fb (p _ _ (O.comp h.1)) _).h) (λC b a i=>(o _ _ (O.comp h.1) _).h) (Fe h.2) g s u H Q I q
  ·exact b8
 ·exact b8
theorem RG{S:Sig}{F:Str->MF}{k:Nat}{d:Cs->Expr->ME}{g:Cs->Expr->MT}(a:∀c X,Okx S F k c X->∀e,QE X e (d c e))(b:∀c X,Okx S F k c X->∀e,QT X e (g c e))(c:Cs)(X:Cx)(O:Okx S F k c X)
  (elt tg iter:Expr)(ifs:List Expr)(scope:Zz)(pos:YE):QE X (.ListComp elt [⟨tg,iter,ifs,0⟩] scope pos) (Ap S d g c elt tg iter ifs scope):=by
 unfold Ap;split
 ·exact Qd (AE a b c X O elt tg iter ifs scope pos ((zU (a c X O iter)).h tg)) b8
 exact AE a b c X O elt tg iter ifs scope pos (AD O (a c X O) tg iter)
section
variable{S:Sig}{F:Str->MF}{k:Nat}{c:Cs}{X:Cx}{r:Expr->ME}
theorem RH(v:Const)(n:Nat)(p:YE):QE X (.Constant v n p) (EV v):=by cases v<;>first|exact MX|exact MY|exact MZ|exact M0|exact b8
theorem RI(b:∀e,QE X e (r e))(op:UnaryOp)(a:Expr)(p:YE):QE X (.UnaryOp op a p) (EW (r a) op):=by cases op<;>first|exact M9 (b _)|exact Na (b _)|exact b8
theorem RJ(O:Okx S F k c X)(b:∀e,QE X e (r e))(a:Expr)(d:List a0Z)(bs:List Expr)(p:YE):QE X (.Compare a d bs p) (Aq S r a d bs):=by
 unfold Aq;split
 ·exact Ro O (b _) (b _) _ _
 ·split
  ·rename_i g h;exact OM g h (b _) (b _) (b _)
  ·exact b8
 ·exact b8
theorem RK(O:Okx S F k c X)(a:∀e,QE X e (r e))(ks:List (Option Expr))(vs:List Expr)(p:YE):QE X (.Dict ks vs p) (Ar r ks vs):=by
 unfold Ar;try split
 ·exact Pp
 ·exact Qb O.room (a _) (a _)
 ·exact b8
theorem RL(O:Okx S F k c X)(d:∀e,QE X e (r e))(a b:Expr)(p:YE):QE X (.Subscript a b p) (Au S r c a b):=by
 unfold Au;split
 ·exact b8
 ·split
  ·rename_i h
   ·exact PD O.room (d _) (d _) h
  ·exact b8
theorem AF(a:∀e,QE X e (r e))(e:Expr):QT X e (rW r e):=by
 unfold rW;split
 ·rename_i h;exact Ov (a _) h
 ·exact yM
theorem RM(O:Okx S F k c X)(b:∀e,QE X e (r e))(a:Expr)(d:List a0Z)(bs:List Expr)(p:YE):QT X (.Compare a d bs p) (AA S r a d bs p):=by
 unfold AA;split
 ·exact Rt O (b _) (b _) _ _
 ·split
  ·rename_i g h;exact ON g h (b _) (b _) (b _)
  ·exact yM
 ·exact AF b _
theorem RN(a:∀e,QE X e (r e))(es:List Expr)(n:Nat)(p:YE):QE X (.Tuple es n p) (Av r es):=by
 unfold Av;split
 ·rename_i h;exact Np (iK a _ h)
 ·exact b8
theorem RO(a:∀e,QE X e (r e))(es:List Expr)(p:YE):QE X (.List es p) (Aw r es):=by
 unfold Aw;split
 ·rename_i h;exact Nq (iK a _ h)
 ·exact b8
theorem RP(O:Okx S F k c X)(b:∀e,QE X e (r e))(f:Expr)(args:List Expr)(d:Str)(a:Expr)(g p:YE):QE X (.Call f args [⟨aX d,a,g⟩] p) (Ax S r c f args d a):=by
 unfold Ax;cases f with
 |Name x i=>
  dsimp only;split
  ·split
   ·rename_i h;obtain⟨rfl,rfl,h⟩:=h;rw[WZ,WZ]at h;exact Q2 O.calm O.room.units (O.gl h.1.1).1 (O.no _ h.1.2) (b _) (b _) h.2
   ·exact b8
  ·exact b8
 |_=>exact b8
theorem RQ(O:Okx S F k c X)(b:∀e,QE X e (r e))(f:Expr)(args:List Expr)(a:List a0g)(p:YE):QE X (.Call f args a p) (Ay S F r c f args p a):=by
 unfold Ay;split
 ·exact RF O b _ _ _
 ·exact RP O b _ _ _ _ _ _
 ·exact b8
end
theorem Fg{S:Sig}{F:Str->MF}{k:Nat}{m:Cs->Expr->ME}{o:Cs->Expr->MT}(y:∀c X,Okx S F k c X->∀e,QE X e (m c e))(z:∀c X,Okx S F k c X->∀e,QT X e (o c e))(c:Cs)(X:Cx)(O:Okx S F k c X) :
  (∀e,QE X e (EX S F m o c e))/\∀e,QT X e (EY S m o c e):=by
 have d:=y c X O;have s:=z c X O;constructor
 ·intro e;cases e with
  |Name x p=>exact Rm O _ _|Constant v n p=>exact RH v n p|BinOp a i b p=>exact Rn (d _) (d _) _ _|UnaryOp i a p=>exact RI d i a p|Compare a g bs p=>exact RJ O d a g bs p|BoolOp i w p=>exact EZ d _ _ _|IfExp t a b p=>exact Nl (s _) (d _) (d _)|Tuple r n p=>exact RN d r n p|List r p=>exact RO d r p|Dict B w p=>exact RK O d B w p|Subscript a b p=>exact RL O d a b p|Call f j u l=>exact RQ O d f j u l|ListComp q A h p=>
   show QE X _ (Az S m o c q h A);unfold Az;split
   ·exact RG y z c X O _ _ _ _ _ _
   ·exact b8
  |_=>exact b8
 ·intro e;cases e with
  |BoolOp i w p=>exact NL (E4 s _ _ _)|UnaryOp i a p=>
   cases i;case Not=>exact NG (s _)
   all_goals exact AF d _
  |Compare a g bs p=>exact RM O d a g bs p|_=>exact AF d _
theorem AG{S:Sig}{F:Str->MF}{k:Nat}:∀(n:Nat),(∀c X,Okx S F k c X->∀e,QE X e ((tr S F n).1 c e))/\∀c X,Okx S F k c X->∀e,QT X e ((tr S F n).2 c e)
 |0=>⟨λc X O e=>b8,λc X O e=>yM⟩|n+1=>by have a:=AG (S:=S) (F:=F) (k:=k) n;exact⟨λc X O e=>(Fg a.1 a.2 c X O).1 e,λc X O e=>(Fg a.1 a.2 c X O).2 e⟩
noncomputable def u9:MG:=λ_ _ _=>aY
noncomputable def rY(c:Cs):List Expr->Option (List Nat)
 |[]=>aX []|.Name x _::r=>if mU c x then(kK x c.N).bind λi=>(rY c r).map (i::·)else aY|_=>aY
noncomputable def qB(c:Cs):Expr->MG
 |.Name x _=>if mU c x then(match kK x c.N with|some i=>bT i|none=>u9)else u9|.Tuple es _ _=>match rY c es with|some a=>cP a|none=>u9
 |_=>u9
noncomputable def kL(r:Stmt->MS):List Stmt->MS
 |[]=>bZ|[s]=>r s|s::t=>aH (r s) (kL r t)
noncomputable def AH(S:Sig)(E:Cs->Expr->ME)(T:Cs->Expr->MT)(c:Cs)(i:Nat):Expr->MS
 |.ListComp elt [⟨tg,iter,ifs,0⟩] scope _=>match u4 S c tg iter with
  |some j=>d9 j (aT i (m3 (eA (E c iter)) E T c elt tg iter ifs scope)) cJ|none=>aT i (m3 (rV S (E c) c tg iter) E T c elt tg iter ifs scope)
 |_=>cJ
noncomputable def Fh(c:Cs)(x y:Str)(d py:YE)(a b:Expr):Bool:=
 decide (c.ks.lookup x=aX .local)&&decide (c.ks.lookup y=aX .local)&&(py.line==d.line)&&decide (x≠y)&&cT a&&cT b&&!(a1Y 8 a&&a1Y 8 b)&&!(a1J 8 a&&a1J 8 b)
noncomputable def AI(S:Sig)(E:Cs->Expr->ME)(T:Cs->Expr->MT)(c:Cs)(tg e:Expr):MS:=match tg with
 |.Name y _=>if mU c y then(match kK y c.N with
   |some i=>if kF e then aT i (E c e)else AH S E T c i e
   |none=>cJ)else cJ
 |.Tuple es _ _=>if yL e then(match rY c es with|some d=>fE (E c e) (cP d)|none=>cJ)
   else(match es,e with
    |[.Name x px,.Name y py],.Tuple [a,b] _ _=>if Fh c x y px py a b then(match kK x c.N,kK y c.N with|some i,aX j=>pE i j (fW (E c) [a,b])|_,_=>cJ)else cJ
    |_,_=>cJ)
 |.Subscript o i _=>if kF e&&pG i then dJ (E c o) (E c i) (E c e)else cJ|_=>cJ
noncomputable def qC:Nat:=1000000000
noncomputable def AJ(S:Sig)(c:Cs)(tg:Expr):Expr->Option (Nat×Expr×YE×YE)
 |.Call g [] [] cpos=>match g with
  |.Attribute o m apos=>if m="values" then(u4 S c tg o).map λj=>(j,o,apos,cpos)else aY|_=>aY
 |_=>aY
theorem RR{S:Sig}{c:Cs}{tg e:Expr}{q:Nat×Expr×YE×YE}(h:AJ S c tg e=aX q):e=.Call (.Attribute q.2.1 "values" q.2.2.1) [] [] q.2.2.2:=by
 unfold AJ at h;split at h
 ·split at h
  ·split at h
   ·rename_i a;obtain⟨j,_,rfl⟩:=WS.mp h;rw[a]
   ·cases h
  ·cases h
 ·cases h
noncomputable def AK(tg:Expr):Expr->Option (Expr×YE×YE)
 |.Call g [] [] cpos=>match g with
  |.Attribute o m apos=>match tg with
   |.Tuple ..=>if m="items" then aX (o,apos,cpos)else aY|_=>aY
  |_=>aY
 |_=>aY
theorem RS{tg e:Expr}{q:Expr×YE×YE}(h:AK tg e=aX q):e=.Call (.Attribute q.1 "items" q.2.1) [] [] q.2.2/\∃es b p,tg=.Tuple es b p:=by
 unfold AK at h;split at h
 ·split at h
  ·split at h
   ·split at h
    ·rename_i a;cases h;rw[a];exact⟨rfl,_,_,_,rfl⟩
    ·cases h
   ·cases h
  ·cases h
 ·cases h
noncomputable def Fi(S:Sig)(E:Cs->Expr->ME)(T:Cs->Expr->MT)(c:Cs)(r:Stmt->MS):Stmt->MS
 |.Return (aX e) _=>aZ (E c e)|.Return aY _=>aZ (mC .non)|.If t a b _=>bU (T c t) (kL r a) (kL r b)|.Assign [tg] e _=>AI S E T c tg e|.Expr e _=>if kF e then eD (E c e)else cJ|.For tg iter body [] _=>if gD iter then
  (match AK tg iter with
  |some q=>if jR q.1&&(q.2.1.endLine==q.2.2.line)then bV (rQ (E c q.1)) (qB c tg) (kL r body)else cJ|none=>
  (match AJ S c tg iter with
  |some q=>if jR q.2.1&&(q.2.2.1.endLine==q.2.2.2.line)then d9 q.1 (bV (pZ (E c q.2.1)) (qB c tg) (kL r body)) cJ else cJ|none=>
  (match u4 S c tg iter with
  |some j=>d9 j (bV (eA (E c iter)) (qB c tg) (kL r body)) cJ
  |none=>bV (rV S (E c) c tg iter) (qB c tg) (kL r body))
  )
  )
  else cJ
 |.While t body [] _=>pK qC (T c t) (kL r body)|.Pass _=>bZ|_=>cJ
noncomputable def AL(S:Sig)(F:Str->MF)(m:Nat)(c:Cs):Nat->Stmt->MS
 |0=>λ_=>cJ|n+1=>Fi S (tr S F m).1 (tr S F m).2 c (AL S F m c n)
section
variable{S:Sig}{F:Str->MF}{k:Nat}{c:Cs}{X:Cx}
theorem RT(ks:X.env.scope.names=c.ks){x:Str}(h:mU c x=b4):L2.Loc X.env.scope x:=by unfold mU at h;rw[Y3]at h;unfold L2.Loc;rw[ks];exact h.imp of_decide_eq_true of_decide_eq_true
theorem Okx.own(O:Okx S F k c X){x:Str}(h:mU c x=b4):L2.Loc X.env.scope x:=RT O.ks h
theorem AM(O:Okx S F k c X)(a:∀x,X.fn x=b4):∀(es:List Expr)(is:List Nat),rY c es=aX is->QGs X es is
 |[],is,h=>by cases h;exact Dd
 |e::es,is,h=>by
  cases e with
  |Name x p=>
   unfold rY at h;split at h
   ·rename_i g;obtain⟨i,b,h⟩:=WM.mp h;obtain⟨j,d,h⟩:=WS.mp h;subst h;exact De i O.nd (AM O a es j d) (by rw[O.N];exact oI b) (O.own g) (.inl (a x))
   ·cases h
  |_=>cases h
theorem vA(O:Okx S F k c X)(a:∀x,X.fn x=b4)(e:Expr):QG X e (qB c e):=by
 unfold qB;split
 ·split
  ·rename_i b;split
   ·rename_i i hi;exact NW i O.nd (by rw[O.N];exact oI hi) (O.own b) (.inl (a _))
   ·exact uA λ_ _ _=>rfl
  ·exact uA λ_ _ _=>rfl
 ·split
  ·rename_i d hi;exact yK (AM O a _ d hi) O.calm
  ·exact uA λ_ _ _=>rfl
 ·exact uA λ_ _ _=>rfl
theorem lU{r:Stmt->MS}(a:∀s,QS X s (r s)):∀b:List Stmt,QB X b (kL r b)
 |[]=>NO|[s]=>NQ (a s)|s::t::ts=>NP (a s) (lU a (t::ts))
theorem RU{elt tg iter:Expr}{ifs:List Expr}{scope:Zz}{pos py:YE}{y:Str}{n:Nat}{env:a2v} :
  ∃b:Bool,a1c (.ListComp elt [⟨tg,iter,ifs,0⟩] scope pos) (aX (.Name y py)) n env=pure b/\(b=b4->env.kindOf y=aX .local):=by
 refine⟨env.blockKind==.function&&env.kindOf y==aX .local&&py.line==pos.line&&!(scope.names.any λ(n,k)=>n==y&&(k==.local||k==.cell)),rfl,λh=>?_⟩;simp only[WZ,beq_iff_eq]at h;exact h.1.1.2
theorem Fj(O:Okx S F k c X)(A:∀x,X.fn x=b4){E:Cs->Expr->ME}{T:Cs->Expr->MT}(r:∀c X,Okx S F k c X->∀e,QE X e (E c e))(u:∀c X,Okx S F k c X->∀e,QT X e (T c e))
  {i:Nat}{y:Str}{py j:YE}(hi:X.N[i]?=aX y)(B:mU c y=b4)(elt tg iter:Expr)(ifs:List Expr)(scope:Zz)(pos:YE){w:MI}(m:PI X tg iter (tMI X.K w)):QS X (.Assign [.Name y py] (.ListComp elt [⟨tg,iter,ifs,0⟩] scope pos) j) (aT i (m3 w E T c elt tg iter ifs scope)):=by
  obtain⟨b,l,p⟩:=RU (elt:=elt) (tg:=tg) (iter:=iter) (ifs:=ifs) (scope:=scope) (pos:=pos) (py:=py) (y:=y) (n:=j.line) (env:=X.env);cases b with
  |false=>exact⟨CI O.nd hi (O.own B) (AE r u c X O elt tg iter ifs scope pos m).h l (.inl (A y))⟩|true=>
   unfold m3;split
   ·rename_i K v;split
    ·rename_i h;rw[WZ]at h;refine⟨λn s J H D I q=>?_⟩;exact Od ((rX O h.1).1.ok I.ok) O.nd O.calm m (λd G z=>(u7 O v h.1 [] 0 s H []).2 d G z) (λC g a o=>(u7 O v h.1 _ C g a o).1) (λC g a o=>(Fb (u _ _ (O.comp h.1)) _).h) (λC g a o=>(r _ _ (O.comp h.1) _).h) (Fe h.2) hi (p rfl) l n s J H D I q
    ·exact DY
   ·exact DY
theorem RV(O:Okx S F k c X)(g:∀x,X.fn x=b4){E:Cs->Expr->ME}{T:Cs->Expr->MT}(b:∀c X,Okx S F k c X->∀e,QE X e (E c e))(d:∀c X,Okx S F k c X->∀e,QT X e (T c e))
  {i:Nat}{y:Str}{py a:YE}(hi:X.N[i]?=aX y)(h:mU c y=b4)(e:Expr):QS X (.Assign [.Name y py] e a) (AH S E T c i e):=by
 unfold AH;split
 ·split
  ·exact zR (Fj O g b d hi h _ _ _ _ _ _ ((zU (b c X O _)).h _)) eE
  ·exact Fj O g b d hi h _ _ _ _ _ _ (AD O (b c X O) _ _)
 ·exact eE
theorem RW{env:a2v}{x y:Str}{m py pt l:YE}{v u:Nat}{a b:Expr}(r:env.scope.kind=.function)(n:env.kindOf x=aX .local)(o:env.kindOf y=aX .local)(s:(py.line==m.line)=b4)(j:x≠y)
  (p:cT a=b4)(q:cT b=b4)(i:(a1Y 8 a&&a1Y 8 b)=b3)(hc:(a1J 8 a&&a1J 8 b)=b3) :
  a0a [.Tuple [.Name x m,.Name y py] v pt] (.Tuple [a,b] u l) env=pure (aX [x,y]):=by
 have bk:(env.blockKind != .function)=false:=by unfold Env.blockKind;rw[r];rfl
 have g:[a,b].all (a1Y 8)=false:=by simpa using i
 have e:[a,b].all (a1J 8)=false:=by simpa using hc
 have d:py.line=m.line:=eq_of_beq s;have nd:[x,y].eraseDups.length=2:=by
  have:(y==x)=false:=by simpa using XI j
  simp[List.eraseDups_cons,this]
 unfold a0a;dsimp only;rw[bk];split
 ·rename_i h;simp at h
 split
 ·rename_i h;exfalso;simp only[a4h,List.any_nil,a2z,Y3]at h;rcases h with h|h
  ·clear i hc g e;cases a<;>first|exact a5J h|cases p
  ·clear i hc g e;cases b<;>first|exact a5J h|cases q
 split
 ·rename_i h;exfalso;simp[Expr.pos,n,o,d,nd]at h
 rw[g,e];simp[Expr.pos,n,o,d]
theorem RX(O:Okx S F k c X)(g:∀x,X.fn x=b4){E:Cs->Expr->ME}{T:Cs->Expr->MT}(a:∀c X,Okx S F k c X->∀e,QE X e (E c e))(B:∀c X,Okx S F k c X->∀e,QT X e (T c e))(tg e:Expr)(pos:YE) :
  QS X (.Assign [tg] e pos) (AI S E T c tg e):=by
 unfold AI;split
 ·split
  ·rename_i s;split
   ·rename_i i hi;have b:=oI hi;rw[<- O.N]at b;split
    ·rename_i l;exact NV i O.nd (a c X O e) l b (O.own s) (.inl (g _))
    ·exact RV O g a B b s e
   ·exact eE
  ·exact eE
 ·split
  ·rename_i l;split
   ·rename_i H hi;exact NY (a c X O e) (yK (AM O g _ H hi) O.calm) l
   ·exact eE
  ·split
   ·split
    ·rename_i h;unfold Fh at h;simp only[WZ,decide_eq_true_eq,Z4]at h;obtain⟨⟨⟨⟨⟨⟨⟨u,v⟩,w⟩,p⟩,q⟩,r⟩,y⟩,A⟩:=h;split
     ·rename_i i j hi G;have m:=u;have n:=v;rw[<- O.ks]at m n;have o:=oI hi;have d:=oI G;refine NZ i j O.nd (iK (a c X O) _ (by rw[XG,XG,q,r];rfl)) (λz=>?_) O.calm (by rw[O.N];exact o) (by rw[O.N];exact d) m n (RW O.kind m n w p q r y A);subst z;rw[o]at d;exact p (Xg d)
     ·exact eE
    ·exact eE
   ·exact eE
 ·split
  ·rename_i h;rw[WZ]at h;exact PL O.room (a c X O _) (a c X O _) (a c X O _) h.1
  ·exact eE
 ·exact eE
theorem RY(O:Okx S F k c X)(m:∀x,X.fn x=b4){E:Cs->Expr->ME}{T:Cs->Expr->MT}(g:∀c X,Okx S F k c X->∀e,QE X e (E c e))(u:∀c X,Okx S F k c X->∀e,QT X e (T c e)){r:Stmt->MS}(j:∀s,QS X s (r s))(st:Stmt) :
  QS X st (Fi S E T c r st):=by
 cases st with
 |Return o p=>
  cases o with
  |none=>exact Oz|some e=>exact NS (g c X O _)
 |If t a b p=>exact NU (u c X O _) (lU j _) (lU j _)|Assign w e p=>
  cases w with
  |nil=>exact eE|cons B G=>
   cases G with
   |nil=>exact RX O m g u _ _ _|cons _ _=>exact eE
 |Expr e p=>
  show QS X _ (if kF e then eD (E c e)else cJ);split
  ·rename_i h;exact NT (g c X O _) h
  ·exact eE
 |For B n l d p=>
  cases d with
  |cons _ _=>exact eE|nil=>
   show QS X _ (if gD n then _ else cJ);split
   ·rename_i h;split
    ·rename_i q v;split
     ·rename_i i;rw[WZ]at i;obtain⟨e,z,A,pt,y⟩:=RS v;rw[e]at h ⊢;subst y;exact uM ((QU (g c X O _) i.1 i.2).h z A pt) (vA O m _) (lU j _) O.never O.calm h
     ·exact eE
    split
    ·rename_i q v;split
     ·rename_i i;rw[WZ]at i;have e:=RR v;rw[e]at h ⊢;exact zR (uM ((QH (g c X O _) i.1 i.2).h _) (vA O m _) (lU j _) O.never O.calm h) eE
     ·exact eE
    split
    ·exact zR (uM ((zU (g c X O _)).h _) (vA O m _) (lU j _) O.never O.calm h) eE
    exact uM (AD O (g c X O) _ _) (vA O m _) (lU j _) O.never O.calm h
   ·exact eE
 |While t l d p=>
  cases d with
  |nil=>exact Oy _ (u c X O _) (lU j _) O.never|cons _ _=>exact eE
 |Pass p=>exact NR|_=>exact eE
theorem Fm(O:Okx S F k c X)(a:∀x,X.fn x=b4)(m:Nat):∀(n:Nat)(st:Stmt),QS X st (AL S F m c n st)
 |0,_=>eE|n+1,st=>RY O a (AG m).1 (AG m).2 (Fm O a m n) st
end
noncomputable def eF(st:Stmt):List Str:=(iW st).args.map (·.arg)
noncomputable def m4(st:Stmt):List Str:=eF st++(cM st).names.filterMap λy=>if(y.2==NameKind.local||y.2==Zy)&&!(eF st).contains y.1 then aX y.1 else aY
noncomputable def m5(st:Stmt):Bool:=
 decide ((cM st).kind=.function)&&!(cM st).isCoroutine&&!(cM st).isGenerator&&decide (m4 st).Nodup &&
 ((eF st).all λx=>decide ((cM st).names.lookup x=aX .local)||decide ((cM st).names.lookup x=aX .cell))&&((cM st).names.all λy=>decide (y.2≠.free))
theorem RZ{st:Stmt}(h:m5 st=b4):FnScope (m4 st) (eF st) (cM st):=by unfold m5 at h;simp only[WZ,decide_eq_true_eq,Z4,YB,Y3]at h;obtain⟨⟨⟨⟨⟨a,b⟩,c⟩,d⟩,e⟩,g⟩:=h;exact⟨a,b,c,d,by unfold m4;simp,e,g⟩
noncomputable def Fn:Nat:=40
noncomputable def Fo:Nat:=40
noncomputable abbrev lk(_:Sig)(ds:List (Str×Stmt))(x:Str):Option Stmt:=ds.lookup x
noncomputable def AN(S:Sig)(F:Str->MF)(st:Stmt):MF:=xS (m4 st).length (kL (AL S F Fn ⟨m4 st,(cM st).names⟩ Fo) (fQ st))
noncomputable def jW(S:Sig)(ds:List (Str×Stmt)):Nat->Str->MF
 |0,_=>λ_ _=>aY|k+1,x=>match lk S ds x with
  |none=>λ_ _=>aY|some st=>AN S (jW S ds k) st
structure DefAt(K:WQ)(mg:Str->Option Value)(x:Str)(st:Stmt):Prop where
 ex:∃f fd,Fun K x x st f fd/\mg x=aX (.ref f)/\Binds K fd (eF st) []
structure TxtOk(P:Xw)(w:XF)(K:WQ)(mg:Str->Option Value)(S:Sig)(ds:List (Str×Stmt)):Prop where
 fns:∀x n,S.fn.lookup x=aX n->∃st,ds.lookup x=aX st/\(eF st).length=n
 defs:∀x st,ds.lookup x=aX st->DefAt K mg x st/\m5 st=b4
 con:∀x d,S.con.lookup x=aX d->∃v u,mg x=aX u/\RelV v u/\∀π n H,IsD K π n H v d
 tab:∀x kvs,S.tab.lookup x=aX kvs->∃(p:Addr)(vs:List (cA×V))(ws:List (cA×Value)),mg x=aX (.ref p)/\(∀h:Ye,K.In h->h.DictOf (qO P w) p ws)/\KV vs ws/\∀π n H,IsKs K π n H vs kvs
 no:∀x,S.no.contains x=b4->mg x=aY
theorem Fp{S:Sig}{ds:List (Str×Stmt)}{x:Str}{st:Stmt}(h:ds.lookup x=aX st):lk S ds x=aX st:=by unfold lk;rw[h]
theorem TxtOk.sc{P:Xw}{w:XF}{K:WQ}{a:Str->Option Value}{S:Sig}{ds:List (Str×Stmt)}(T:TxtOk P w K a S ds){x:Str}{st:Stmt}(h:lk S ds x=aX st):m5 st=true:=(T.defs _ _ h).2
theorem R0{P:Xw}{w:XF}{K:WQ}{o:Str->Option Value}{base:Ye}{S:Sig}{ds:List (Str×Stmt)}(T:TxtOk P w K o S ds)(k:Nat):∀(x:Str)(st:Stmt)(G q:Str)(f:Addr)(j:ZC),lk S ds x=aX st->Fun K G q st f j->
  FnOk P w K o base f9 k f j (eF st) (jL K (eF st).length (jW S ds k x)):=by
 induction k using Nat.strongRecOn with
 |_ k l=>
 intro x st G q f j z M;cases k with
 |zero=>exact⟨λvs H Q E h=>h.1,λA outer s H r us vs Q E B he hb hv U=>by
   obtain⟨_,π,J,μ,d,μ',R,i,N,kc⟩:=U;cases N⟩
 |succ k=>
  have Y:=l k (YW k);have e:jW S ds (k+1) x=AN S (jW S ds k) st:=by show(match lk S ds x with|none=>_|some st=>AN S (jW S ds k) st)=_;rw[z]
  rw[e];have c:=RZ (T.sc z);refine N0 M c (by unfold m4;simp) rfl λg A outer s H E B=>?_;have O:Okx S (jW S ds k) k ⟨m4 st,(cM st).names⟩ (k0 f9 P w K o base (m4 st) q (cM st) f g A outer s H E).nox:=by
   refine⟨rfl,c.nd,rfl,c.kind,rfl,B,a4C,λy n X=>?_,T.con,λy m q=>⟨T.tab y m q⟩,T.no
    ⟩
   ·obtain⟨a,v,L⟩:=T.fns y n X;obtain⟨u,b,p,Z,I⟩:=(T.defs y a v).1.ex;subst L;exact⟨u,b,eF a,Y y a _ _ u b (Fp v) p,Z,p.kp,I⟩
  exact lU (Fm O (λ_=>rfl) Fn Fo) (fQ st)
theorem R6{P:Xw}{w:XF}{K:WQ}{b:Str->Option Value}{base:Ye}{S:Sig}{ds:List (Str×Stmt)}(T:TxtOk P w K b S ds)(k:Nat)(x:Str)(st:Stmt)(f:Addr)(a:ZC)(d:ds.lookup x=aX st)(c:Fun K x x st f a) :
  FnOk P w K b base f9 k f a (eF st) (jL K (eF st).length (jW S ds k x)):=R0 T k x st x x f a (Fp d) c
theorem Fq:∀{ns:List Int}{b:Nat},a1e (ns.map a0S)<=b->∀n∈ns,XE n<=b
 |[],_,_,n,a=>nomatch a|m::ns,b,h,n,a=>by
  have e:a1e ((m::ns).map a0S)=a3j (.int m)+1+a1e (ns.map a0S):=rfl;have c:a3j (.int m)=XE m:=rfl;rw[e,c]at h;rcases Xr.mp a with rfl|a
  ·omega
  ·exact Fq (b:=b) (by omega) n a
section
open PySem PySem.W PySem.Calls PyProof.Rows
theorem R8{l:a4R}{n:Nat}{q:Xw}{loose:List Str}{XP:(Str->Option Value)->Ye->Prop}{YP:XF->Ye->Prop}{d:DefRec}
  (U:l.most=aX n)(y:d.params.defaults=[])
  (call:∀(w:XF)(s₀ b:WX)(s B:Str->Option Value)(g:Addr)(o:Obj)(E p c:Value)(a:Addr)(vs:gq)(ns:List Int),
   Ground q loose [] XP w s₀ s B b.heap->YP w b.heap->
   b.heap.get? g=aX o->o.data=.func (docDef d.name d.params d.body d.scope E p c)->b.heap.CodeRec p d.name->s d.name=aX (.ref g)->
   b.heap.get? a=aX {cls:=.type "list",data:=.seq vs.toArray}->ZU vs ns->ns.length<=n->(∀m∈ns,XE m<=2^20)->b.gens=#[]->
   a0B (Xv l.prog w) a3t (.call (.ref g) ⟨[.ref a],[]⟩) (λr u=>r=.ok (.ret (.bool b4))/\OldK b.heap u.heap/\u.os=b.os/\a2R u.gens) b) :
  a5y q loose XP YP l.row.toRowW d [] (λf vs=>a6M f vs):=by
 intro w s₀ b s B G Y g o E p c K kV X hd x I z Q H J as k h hrd A R;obtain rfl:K=.none:=Dflts.none I y;obtain rfl:kV=.none:=Dflts.noKw I;obtain⟨a,vs,ns,rfl,rfl,j,e,i⟩:=Att.script_of U k A;have O:∀m∈ns,XE m<=2^20:=by
  have v:a3d (.list (ns.map a0S))=true:=by have:=h;unfold a6N at this;simpa using this
  unfold a3d at v;rw[WZ]at v;exact Fq (of_decide_eq_true v.2)
 refine enter_call (a3s (call w s₀ b s B g o E p c a vs ns G Y X (fd_plain hd) x z j e i O Q) λr u Z=>?_);obtain⟨rfl,L,M,N⟩:=Z;exact⟨.inl ⟨.bool b4,.bool b4,[],rfl,λ_=>rfl,.bool b4,Att.post_true l _,λ_=>⟨a3J,λ_ T=>(nomatch T)⟩⟩,L,M,N⟩
end
theorem walkM{l:a4R}{q:Xw}{loose:List Str}{XP:(Str->Option Value)->Ye->Prop}{YP:XF->Ye->Prop}{d:DefRec}{K:YS->WQ}{S:Sig}{ds:List (Str×Stmt)}{k:Nat}{st:Stmt}{x:Str}(hn:l.most=aX 63)(L:d.params.defaults=[])
  (hr:Room k a3t)(hY:∀(w:XF)(h:Ye),YP w h->(K w.params).In h)(hl:ds.lookup d.name=aX st)(hx:eF st=[x])
  (T:∀(w:XF)(B:Str->Option Value)(h:Ye),(K w.params).In h->h.Ns YF B->TxtOk l.prog w (K w.params) B S ds/\∃f I,Fun (K w.params) d.name d.name st f I/\B d.name=aX (.ref f)/\∀(s:WX)(u:Value),a3D s I ⟨[u],[]⟩ [(x,u)])
  (M:∀b:List Int,b.length<=63->(∀m∈b,XE m<=2^20)->∃p,jW S ds k d.name [.rol (b.map D.int)] []=aX (.bl b4,p)) :
  a5y q loose XP YP l.row.toRowW d [] (λf Z=>a6M f Z):=by
 refine R8 hn L λw U X B mb fa o pm cd doc a Z b G Y ho hd hcd N A g c J hg=>?_;have Q:=hY w _ Y;obtain⟨hT,f,I,hF,R,hb⟩:=T w B _ Q G.T.g;rw[N]at R;cases R;refine L2.law_call (CX:=f9) (sp:=jL (K w.params) 1 (jW S ds k d.name)) Q G.T.g G.T.b G.T.builtins G.T.nolimit hg A g (Xz c (by decide)) hr (λy hb1 hb2=>?_) hb (λH hO hS=>?_) λH e s' z=>z
 ·have:=R6 (base:=y) hT k d.name st fa I hl hF;rw[hx]at this;exact this
 ·obtain⟨p,hM⟩:=M b c J;have O:RoL (K w.params) H a (b.map V.int):=by
   rcases hS with(h|h)|h
   ·rcases hO a with z|⟨o,E,z⟩
    ·rw[z]at h;cases h
    ·rw[z]at h;cases h
   ·exact .inl h
   ·exact .inr h
  refine⟨rfl,λ_=>0,[.rol (b.map D.int)],[],.bl b4,p,⟨λi j hi=>absurd hi (a1f _),λi hi=>absurd hi (a1f _),λi E h=>(by cases h),λi E h=>(by cases h),λi E h=>(by cases h)
   ,λi E h=>(by cases h)
   ,λi E h=>(by cases h)
   ⟩,.cons (.rol O ?_) .nil,hM,λπ' v H' _ _ hv=>?_⟩
  ·have:∀b:List Int,IsDs (K w.params) (λ_=>0) ([]:Hm).length H (b.map V.int) (b.map D.int):=λb=>by
    induction b with
    |nil=>exact .nil|cons n r ih=>exact .cons (.int n) ih
   exact this b
  ·cases hv;rfl
end L3
namespace L3
open PySem L2
theorem vB{a:Type}:∀{l:List (Str×a)}{x:Str}{b:a},l.lookup x=aX b->(x,b)∈l:=λh=>Yp h
theorem Sa{S:Sig}{ds:List (Str×Stmt)}(h:(S.fn.all λp=>match ds.lookup p.1 with|some st=>decide ((eF st).length=p.2)|none=>b3)=b4):∀x n,S.fn.lookup x=aX n->∃st,ds.lookup x=aX st/\(eF st).length=n:=by
 intro x n e;have:=YB.mp h (x,n) (vB e);dsimp only at this;split at this
 ·rename_i st a;exact⟨st,a,of_decide_eq_true this⟩
 ·cases this
theorem Sb{K:WQ}{a:Str->Option Value}{ds:List (Str×Stmt)}(h:∀p∈ds,DefAt K a p.1 p.2/\m5 p.2=b4):∀x st,ds.lookup x=aX st->DefAt K a x st/\m5 st=true:=λx st e=>h (x,st) (vB e)
theorem Se{K:WQ}{b:Str->Option Value}{a:List (Str×D)}(h:∀p∈a,∃v u,b p.1=aX u/\RelV v u/\∀π n H,IsD K π n H v p.2):∀x d,a.lookup x=aX d->∃v u,b x=aX u/\RelV v u/\∀π n H,IsD K π n H v d:=λx d e=>h (x,d) (vB e)
inductive EntsOf (w:XF):List DictEntry->List (cA×Value)->Prop where
 |nil:EntsOf w [] []
 |cons {e:DictEntry}{k:cA}{v:Value}{es:List DictEntry}{kvs:List (cA×Value)}(h:wX k e.key=b4)(hh:e.hash=Bz w k)(hv:e.val=v)(t:EntsOf w es kvs):EntsOf w (e::es) ((k,v)::kvs)
theorem Sf{a:Str->Option Value}{ns:List Str}(h:∀x∈ns,a x=aY):∀x,ns.contains x=b4->a x=none:=λx e=>h x (by simpa using e)
noncomputable def vC:Nat->(Nat->Value)->gq
 |0,_=>[]|n+1,u=>u 0::vC n λi=>u (i+1)
theorem Fs:∀us:gq,∃u,us=vC us.length u
 |[]=>⟨λ_=>.none,rfl⟩|v::us=>let⟨u,a⟩:=Fs us;⟨λi=>match i with|0=>v|i+1=>u i,congrArg (v::·) a⟩
noncomputable abbrev Ft:Type:=Value->Value->Value->Option Addr->Value->Value->(Nat->Value)->a7b (List (Str×Value))
noncomputable def Sg(x:Str)(st:Stmt)(m:Value)(c:Addr):Obj:=⟨Xl "function",aY,.func (YZ x x (iW st) (fQ st) (cM st) .none .none .none m aY (.ref c) .none),#[]⟩
noncomputable def Fu(K:WQ)(d:(Str×Stmt)×Value×Addr×Addr):Option (Option Value)×Option Obj×Bool×Bool×Bool×Ft:=(a1L K YF d.1.1,K.lookup d.2.2.2,a1Z K (.ref d.2.2.1) d.1.1,YY K (.ref d.2.2.2),m5 d.1.2,λkV b c an a ct u=>a5T (YZ d.1.1 d.1.1 (iW d.1.2) (fQ d.1.2) (cM d.1.2) .none kV b c an a ct) ⟨vC (eF d.1.2).length u,[]⟩)
noncomputable def Fv(d:(Str×Stmt)×Value×Addr×Addr):Option (Option Value)×Option Obj×Bool×Bool×Bool×Ft:=(aX (aX (.ref d.2.2.2)),aX (Sg d.1.1 d.1.2 d.2.1 d.2.2.1),b4,b4,b4,λ_ _ _ _ _ _ u=>pure ((eF d.1.2).zip (vC (eF d.1.2).length u)))
noncomputable def vD(K:WQ)(d:Str×Stmt):(Str×Stmt)×Value×Addr×Addr:=(d,match a1L K YF d.1 with
 |some (aX (.ref f))=>(match K.lookup f with
  |some ⟨_,_,.func fd,_⟩=>(match fd.code with
   |.ref c=>(fd.pyModule,c,f)
   |_=>(.none,0,0))
  |_=>(.none,0,0))
 |_=>(.none,0,0))
noncomputable def vF(K:WQ)(ds:List (Str×Stmt)):Prop:=ds.map (λd=>Fu K (vD K d))=ds.map λd=>Fv (vD K d)
theorem Fw{K:WQ}{h:Ye}{i:Str->Option Value}(X:K.In h)(G:h.Ns YF i){ds:List (Str×Stmt)}(q:vF K ds):∀p∈ds,(DefAt K i p.1 p.2/\m5 p.2=b4)/\∃f j,Fun K p.1 p.1 p.2 f j/\i p.1=aX (.ref f)/\∀us:gq,us.length=(eF p.2).length->a5T j ⟨us,[]⟩=pure ((eF p.2).zip us):=by
 intro g r;have t:=a5t.mp q g r;have e:(vD K g).1=g:=rfl;generalize vD K g=d at t e;obtain⟨p,m,c,f⟩:=d;cases e;unfold Fu Fv at t;obtain⟨a,t⟩:=a2a t;obtain⟨l,t⟩:=a2a t;obtain⟨c,t⟩:=a2a t;obtain⟨k,t⟩:=a2a t;obtain⟨s,b⟩:=a2a t;have F:=Lg (st:=p.2) l c k;have D:=λkV doc pm an cdv ct (us:gq)(o:us.length=(eF p.2).length)=>(by
  obtain⟨u,n⟩:=Fs us;rw[o]at n;rw[n];exact congrFun (congrFun (congrFun (congrFun (congrFun (congrFun (congrFun b kV) doc) pm) an) cdv) ct) u:a5T (YZ p.1 p.1 (iW p.2) (fQ p.2) (cM p.2) .none kV doc pm an cdv ct) ⟨us,[]⟩=pure ((eF p.2).zip us))
 exact⟨⟨⟨_,_,F,a3v X G a,Binds.all (D _ _ _ _ _ _)⟩,s⟩,_,_,F,a3v X G a,D _ _ _ _ _ _⟩
theorem Si{K:WQ}{h:Ye}{c:Str->Option Value}(X:K.In h)(G:h.Ns YF c){ds:List (Str×Stmt)}(q:vF K ds){x y:Str}{st:Stmt}(d:ds.lookup x=aX st)(e:eF st=[y]):∃f a,Fun K x x st f a/\c x=aX (.ref f)/\∀(s:WX)(u:Value),a3D s a ⟨[u],[]⟩ [(y,u)]:=by obtain⟨f,a,F,m,b⟩:=(Fw X G q (x,st) (vB d)).2;dsimp only at b;rw[e]at b;exact⟨f,a,F,m,λs u=>.of_eq (b [u] rfl)⟩
theorem Sj{K:WQ}{h:Ye}{a:Str->Option Value}(X:K.In h)(G:h.Ns YF a){ns:List Str}(q:ns.map (a1L K YF)=ns.map λ_=>aX aY):∀x∈ns,a x=none:=λx b=>PySem.W.mg_none_of X G (a5t.mp q x b)
noncomputable def rZ{c d:Type}(f:c->d->Bool):List c->List d->Bool
 |[],[]=>b4|a::as,b::bs=>f a b&&rZ f as bs|_,_=>b3
noncomputable def r6(K:WQ):Nat->Value->D->Bool
 |0,_,_=>b3|k+1,u,d=>match d with
  |.non=>(match u with|.none=>b4|_=>b3)|.bl b=>(match u with|.bool c=>decide (b=c)|_=>b3)|.int i=>(match u with|.int j _=>decide (i=j)|_=>b3)|.str x=>(match u with|.str y _=>decide (x=y)|_=>b3)
  |.tup ds=>(match u with
   |.ref p=>(match K.lookup p with
    |some ⟨.type t,aY,.seq its _,_⟩=>decide (t="tuple")&&decide (its.size<=1000)&&rZ (r6 K k) its.toList ds
    |_=>b3)
   |_=>b3)
  |.rol ds=>(match u with
   |.ref p=>(match K.lookup p with
    |some ⟨.type t,aY,.seq its _,_⟩=>decide (t="list")&&decide (its.size<=1000)&&rZ (r6 K k) its.toList ds
    |_=>b3)
   |_=>b3)
  |_=>b3
theorem Fx{K:WQ}{f:Value->D->Bool}(h:∀u d,f u d=b4->∃v,RelV v u/\∀π n H,IsD K π n H v d):∀us ds,rZ f us ds=b4->∃vs,Vals vs us/\∀π n H,IsDs K π n H vs ds
 |[],[],_=>⟨[],.nil,λ_ _ _=>.nil⟩|u::us,d::ds,e=>by obtain⟨a,b⟩:=a0c.mp e;obtain⟨v,r,q⟩:=h u d a;obtain⟨vs,g,c⟩:=Fx h us ds b;exact⟨v::vs,.cons r g,λ_ _ _=>.cons (q _ _ _) (c _ _ _)⟩
 |[],_::_,e=>nomatch e|_::_,[],e=>nomatch e
theorem Fy{K:WQ}:∀(k:Nat)(u:Value)(d:D),r6 K k u d=b4->∃v,RelV v u/\∀π n H,IsD K π n H v d
 |0,_,_,e=>nomatch e|k+1,u,d,e=>by
  have seq:∀{p:Addr}{ds:List D}{c:String},(match K.lookup p with|some ⟨.type t,aY,.seq g _,_⟩=>decide (t=c)&&decide (g.size<=1000)&&rZ (r6 K k) g.toList ds|_=>b3)=b4->∃h g n l,K.lookup p=aX ⟨.type c,aY,.seq g n,l⟩/\g.size<=W8/\Vals h g.toList/\∀π n H,IsDs K π n H h ds:=λ{p ds c} e=>by
   split at e
   ·rename_i t g n l j;obtain⟨e,q⟩:=a0c.mp e;obtain⟨a,b⟩:=a0c.mp e;cases of_decide_eq_true a;obtain⟨h,r,i⟩:=Fx (Fy k) _ _ q;exact⟨h,g,n,l,j,Xz (of_decide_eq_true b) (by decide),r,i⟩
   ·cases e
  cases d with
  |non=>cases u with
   |none=>exact⟨.non,rfl,λ_ _ _=>.non⟩|_=>cases e
  |bl b=>cases u with
   |bool c=>cases of_decide_eq_true e;exact⟨.bl b,rfl,λ_ _ _=>.bl _⟩|_=>cases e
  |int b=>cases u with
   |int c=>cases of_decide_eq_true e;exact⟨.int b,⟨_,rfl⟩,λ_ _ _=>.int _⟩|_=>cases e
  |str b=>cases u with
   |str c=>cases of_decide_eq_true e;exact⟨.str b,⟨_,rfl⟩,λ_ _ _=>.str _⟩|_=>cases e
  |tup ds=>cases u with
   |ref p=>obtain⟨h,g,n,l,j,m,r,i⟩:=seq e;exact⟨.ref p,rfl,λ_ _ _=>.tup (vs:=h) (.inr ⟨_,g,n,j,rfl,rfl,rfl,m,r⟩) (i _ _ _)⟩|_=>cases e
  |rol ds=>cases u with
   |ref p=>obtain⟨h,g,n,l,j,m,r,i⟩:=seq e;exact⟨.ref p,rfl,λ_ _ _=>.rol (vs:=h) (.inr ⟨_,g,n,j,rfl,rfl,rfl,m,r⟩) (i _ _ _)⟩|_=>cases e
  |_=>cases e
noncomputable def Fz(K:WQ)(a:List (Str×D)):Bool:=a.all λc=>match a1L K YF c.1 with|some (aX u)=>r6 K 8 u c.2|_=>b3
theorem Sk{K:WQ}{h:Ye}{b:Str->Option Value}(X:K.In h)(G:h.Ns YF b){a:List (Str×D)}(q:Fz K a=b4):∀p∈a,∃v u,b p.1=aX u/\RelV v u/\∀π n H,IsD K π n H v p.2:=λp c=>by
 have t:=YB.mp q p c;split at t
 ·rename_i u d;obtain⟨v,r,i⟩:=Fy _ _ _ t;exact⟨v,u,a3v X G d,r,i⟩
 ·cases t
noncomputable def W{a:Type}(o:Option a)(Q:a->Prop):Prop:=∃r,o=aX r/\Q r
section
variable{α β:Type}{o:Option α}{Q:α->Prop}
theorem W_some{r:α}{Q:α->Prop}:W (aX r) Q↔Q r:=⟨λ⟨_,h,q⟩=>by cases h;exact q,λq=>⟨r,rfl,q⟩⟩
theorem W_none{Q:α->Prop}:W aY Q↔False:=⟨λ⟨_,h,_⟩=>(by cases h),λh=>h.elim⟩
theorem W_bind{g:α->Option β}{Q:β->Prop}:W (o.bind g) Q↔W o λr=>W (g r) Q:=by
 cases o with
 |none=>exact⟨λ⟨_,h,_⟩=>(by cases h),λ⟨_,h,_⟩=>(by cases h)⟩|some a=>simp[W_some]
theorem jG{g:α->β}{Q:β->Prop}:W (o.map g) Q↔W o λr=>Q (g r):=by
 cases o with
 |none=>exact⟨λ⟨_,h,_⟩=>(by cases h),λ⟨_,h,_⟩=>(by cases h)⟩|some a=>simp[W_some]
theorem bP{a:α->Prop}(h:W o Q)(k:∀r,Q r->a r):W o a:=let⟨r,e,q⟩:=h;⟨r,e,k r q⟩
theorem vG{c:Prop} [Decidable c] {a b:Option α}:W (if c then a else b) Q↔if c then W a Q else W b Q:=by split<;>rfl
end
noncomputable def fin:Option (Fl×aG×Hm)->jk:=λo=>o.bind λp=>match p.1 with|.rt d=>aX (d,p.2.2)|.nx=>aX (.non,p.2.2)|_=>aY
theorem W_fin{o:Option (Fl×aG×Hm)}{Q:jz}:W (fin o) Q↔W o λp=>match p.1 with|.rt d=>Q (d,p.2.2)|.nx=>Q (.non,p.2.2)|_=>False:=by
 unfold fin;rw[W_bind];constructor
 ·exact λh=>bP h λp q=>by obtain⟨a,c,b⟩:=p;cases a<;>simpa[W_some,W_none]using q
 ·exact λh=>bP h λp q=>by obtain⟨a,c,b⟩:=p;cases a<;>simpa[W_some,W_none]using q
theorem aE{d b:Hm}(h:d<+:b){a:Nat}{c:C}(e:d[a]?=aX c):b[a]?=aX c:=by obtain⟨t,rfl⟩:=h;have g:=(WR.mp e).1;rw[XM g];exact e
theorem AO{b a:Hm}(h:b<+:a):b.length<=a.length:=h.length_le
theorem aP(a:Hm)(c:C):a<+:a++[c]:=⟨[c],rfl⟩
theorem cL{d b:Hm}(h:d<+:b){a:Nat}(e:d.length<=a)(c:C):d<+:b.set a c:=by obtain⟨t,rfl⟩:=h;rw[a2c _ _ e];exact⟨_,rfl⟩
theorem w_mSeq{a b:MS}{d:aG}{c:Hm} {Q}:W (aH a b d c) Q↔W (a d c) λp=>match p.1 with|.nx=>W (b p.2.1 p.2.2) Q|_=>Q p:=by
 unfold aH;rw[W_bind];constructor
 ·exact λh=>bP h λp q=>by obtain⟨e,d,c⟩:=p;cases e<;>simpa[W_some,W_none]using q
 ·exact λh=>bP h λp q=>by obtain⟨e,d,c⟩:=p;cases e<;>simpa[W_some,W_none]using q
theorem w_mRet{m:ME}{a:aG}{b:Hm} {Q}:W (aZ m a b) Q↔W (m a b) λp=>Q (.rt p.1,a,p.2):=jG
theorem w_mDrop{m:ME}{a:aG}{b:Hm} {Q}:W (eD m a b) Q↔W (m a b) λp=>Q (.nx,a,p.2):=jG
theorem w_mSet{i:Nat}{m:ME}{a:aG}{b:Hm} {Q}:W (aT i m a b) Q↔W (m a b) λp=>Q (.nx,a.set i (aX p.1),p.2):=jG
theorem w_mNext{b:aG}{a:Hm} {Q}:W (bZ b a) Q↔Q (.nx,b,a):=W_some
theorem w_mIfS{t:MT}{a b:MS}{c:aG}{d:Hm} {Q}:W (bU t a b c d) Q↔W (t c d) λp=>if p.1=b4 then W (a c p.2) Q else W (b c p.2) Q:=by unfold bU;rw[W_bind];constructor<;>exact λh=>bP h λp q=>by obtain⟨x,d⟩:=p;cases x<;>simpa using q
theorem w_mIfE{t:MT}{a b:ME}{c:aG}{d:Hm} {Q}:W (k5 t a b c d) Q↔W (t c d) λp=>if p.1=b4 then W (a c p.2) Q else W (b c p.2) Q:=by unfold k5;rw[W_bind];constructor<;>exact λh=>bP h λp q=>by obtain⟨x,d⟩:=p;cases x<;>simpa using q
theorem w_mAndT{a b:MT}{d:aG}{c:Hm} {Q}:W (fD a b d c) Q↔W (a d c) λp=>if p.1=b4 then W (b d p.2) Q else Q (b3,p.2):=by unfold fD;rw[W_bind];constructor<;>exact λh=>bP h λp q=>by obtain⟨x,c⟩:=p;cases x<;>simpa[W_some]using q
theorem w_mOrT{a b:MT}{d:aG}{c:Hm} {Q}:W (iE a b d c) Q↔W (a d c) λp=>if p.1=b4 then Q (b4,p.2)else W (b d p.2) Q:=by unfold iE;rw[W_bind];constructor<;>exact λh=>bP h λp q=>by obtain⟨x,c⟩:=p;cases x<;>simpa[W_some]using q
theorem w_mNotT{a:MT}{c:aG}{b:Hm} {Q}:W (j9 a c b) Q↔W (a c b) λp=>Q (!p.1,p.2):=jG
theorem w_mOp{f:D->D->Hm->jk}{a b:ME}{c:aG}{d:Hm} {Q}:W (aC f a b c d) Q↔W (a c d) λp=>W (b c p.2) λq=>W (f p.1 q.1 q.2) Q:=by unfold aC;rw[W_bind];simp only[W_bind]
theorem eN{d:D}{b:aG}{a:Hm} {Q}:W (mC d b a) Q↔Q (d,a):=W_some
theorem b7{d:D}{b:aG}{a:Hm} {Q}:W (aA 0 (aX d::b) a) Q↔Q (d,a):=by show W (aX (d,a)) Q↔_;exact W_some
theorem cH{i:Nat}{x:Option D}{b:aG}{a:Hm} {Q}:W (aA (i+1) (x::b) a) Q↔W (aA i b a) Q:=by unfold aA;rw[List.getElem?_cons_succ]
theorem cV{b:aG}{a:Hm} {Q}:W (aD b a) Q↔Q ([],a):=W_some
theorem w_mCons{a:ME}{r:MA}{b:aG}{c:Hm} {Q}:W (aB a r b c) Q↔W (a b c) λp=>W (r b p.2) λq=>Q (p.1::q.1,q.2):=by unfold aB;simp only[W_bind,W_some]
theorem w_mTup {a:MA}{c:aG}{b:Hm} {Q}:W (bW a c b) Q↔W (a c b) fun p=>p.1.length<=W8/\Q (.tup p.1,p.2):=by
 unfold bW
 rw [W_bind]
 constructor<;>exact fun h=>bP h fun p q=>by
  first
  | (rw [vG] at q;split at q
     ·exact ⟨by assumption,W_some.mp q⟩
     ·exact (W_none.mp q).elim)
  | (rw [if_pos q.1];exact W_some.mpr q.2)
theorem w_mLst {a:MA}{c:aG}{b:Hm} {Q}:W (cD a c b) Q↔W (a c b) fun p=>p.1.length<=W8/\Q (.loc p.2.length,p.2++[.lst p.1]):=by
 unfold cD
 rw [W_bind]
 constructor<;>exact fun h=>bP h fun p q=>by
  first
  | (rw [vG] at q;split at q
     ·exact ⟨by assumption,W_some.mp q⟩
     ·exact (W_none.mp q).elim)
  | (rw [if_pos q.1];exact W_some.mpr q.2)
theorem w_mCall {f:MF}{a:MA}{c:aG}{b:Hm} {Q}:W (aI f a c b) Q↔W (a c b) fun p=>W (f p.1 p.2) Q:=W_bind
theorem w_mTest{m:ME}{c:aG}{a:Hm} {Q}:W (a8 m c a) Q↔W (m c a) λp=>match p.1 with|.bl b=>Q (b,p.2)|_=>False:=by unfold a8;rw[W_bind];constructor<;>exact λh=>bP h λp q=>by obtain⟨d,a⟩:=p;cases d<;>simpa[W_some,W_none]using q
theorem w_mTru{m:ME}{c:aG}{a:Hm} {Q}:W (fG m c a) Q↔W (m c a) λp=>W (pJ p.2 p.1) λb=>Q (b,p.2):=by unfold fG;simp only[W_bind,jG]
theorem FA{a:ME}{c:aG}{b:Hm} {Q}:W (kE a c b) Q↔W (a c b) λp=>match p.1 with|.int i=>Q (.int (-i),p.2)|_=>False:=by unfold kE;rw[W_bind];constructor<;>exact λh=>bP h λp q=>by obtain⟨d,b⟩:=p;cases d<;>simpa[W_some,W_none,jG,xY]using q
theorem Sm{a:ME}{e:aG}{c:Hm} {Q}:W (oV a e c) Q↔W (a e c) λp=>match p.1 with|.bl b=>Q (.bl (!b),p.2)|_=>False:=by unfold oV;rw[W_bind];constructor<;>exact λh=>bP h λp q=>by obtain⟨d,c⟩:=p;cases d<;>simpa[W_some,W_none]using q
theorem lV{a b:ME}{g:aG}{e:Hm} {Q}:W (fR a b g e) Q↔W (a g e) λp=>match p.1 with|.bl c=>if c=b4 then W (b g p.2) Q else Q (.bl b3,p.2)|_=>False:=by
 unfold fR;rw[W_bind];constructor<;>exact λh=>bP h λp q=>by
  obtain⟨d,e⟩:=p;cases d with
  |bl c=>cases c<;>simpa[W_some]using q|_=>simpa[W_none]using q
theorem w_mPar{i j:Nat}{g:MA}{e:aG}{d:Hm} {Q}:W (pE i j g e d) Q↔W (g e d) λp=>match p.1 with|[v,w]=>Q (.nx,(e.set i (aX v)).set j (aX w),p.2)|_=>False:=by
 unfold pE;rw[W_bind];constructor<;>exact λh=>bP h λp q=>by
  obtain⟨l,d⟩:=p;match l,q with
  |[],q=>simpa[W_none]using q|[a],q=>simpa[W_none]using q|[a,b],q=>simpa[W_some]using q|a::b::c::l,q=>simpa[W_none]using q
theorem w_mAsg{m:ME}{g:MG}{a:aG}{c:Hm} {Q}:W (fE m g a c) Q↔W (m a c) λp=>W (g p.1 a p.2) λb=>Q (.nx,b,p.2):=by unfold fE;simp only[W_bind,jG]
section
variable{i j:Int}{μ:Hm}{Q:jz}{a b c d e g:D}
theorem w_addI:W (bI (.int i) (.int j) μ) Q↔Q (.int (i+j),μ):=W_some
theorem w_subI:W (gC (.int i) (.int j) μ) Q↔Q (.int (i-j),μ):=W_some
theorem eH(h:0<j):W (a7 (.int i) (.int j) μ) Q↔Q (.int (i%j),μ):=by show W ((if 0<j then aX (i%j)else aY).map λz=>(D.int z,μ)) Q↔_;rw[if_pos h];exact W_some
theorem Sn:(1073741824:Int)<2^4000:=by decide +kernel
theorem So(h:0<j)(k:j<2^4000):W (dG (.int i) (.int j) μ) Q↔Q (.int (i/j),μ):=by show W ((if 0<j/\j<2^4000 then aX (i/j)else aY).map λz=>(D.int z,μ)) Q↔_;rw[if_pos ⟨h,k⟩];exact W_some
theorem hG(h:0<j)(k:j<1073741824):W (dG (.int i) (.int j) μ) Q↔Q (.int (i/j),μ):=So h (Int.lt_trans k Sn)
theorem lW(h:(-(2^64)<i/\i<2^64)\/(-(2^64)<j/\j<2^64)):W (bO (.int i) (.int j) μ) Q↔Q (.int (i*j),μ):=by show W ((if((-(2^64)<i/\i<2^64)\/(-(2^64)<j/\j<2^64))\/(i.natAbs<2^4000/\j.natAbs<2^4000)\/XE i+XE j<=134217728 then aX (i*j)else aY).map λz=>(D.int z,μ)) Q↔_;rw[if_pos (.inl h)];exact W_some
theorem FC(h:0<=j/\j<=1000000/\i.natAbs<2^64):W (k8 (.int i) (.int j) μ) Q↔Q (.int (i^j.toNat),μ):=by show W ((if(0<=j/\j<=1000000/\i.natAbs<2^64)\/(0<=j/\j<=100/\i.natAbs<2^4000)then aX (i^j.toNat)else aY).map λz=>(D.int z,μ)) Q↔_;rw[if_pos (.inl h)];exact W_some
theorem w_eqI:W (aR b3 (.int i) (.int j) μ) Q↔Q (.bl (i==j),μ):=W_some
theorem vH:W (aR b4 (.int i) (.int j) μ) Q↔Q (.bl (!(i==j)),μ):=W_some
theorem w_eqS{x y:Str}:W (aR b3 (.str x) (.str y) μ) Q↔Q (.bl (x==y),μ):=W_some
theorem w_neB{x y:Bool}:W (aR b4 (.bl x) (.bl y) μ) Q↔Q (.bl (!(x==y)),μ):=W_some
theorem w_ltI:W (jD (.int i) (.int j) μ) Q↔Q (.bl (decide (i<j)),μ):=W_some
theorem Sq:W (o4 (.int i) (.int j) μ) Q↔Q (.bl (decide (i<=j)),μ):=W_some
theorem w_gtI:W (jN (.int i) (.int j) μ) Q↔Q (.bl (decide (j<i)),μ):=W_some
theorem w_it20:W (aJ (.tup [a,b]) (.int 0) μ) Q↔Q (a,μ):=W_some
theorem w_it21:W (aJ (.tup [a,b]) (.int 1) μ) Q↔Q (b,μ):=W_some
theorem FD:W (aJ (.tup [a,b,c,d,e,g]) (.int 0) μ) Q↔Q (a,μ):=W_some
theorem FE:W (aJ (.tup [a,b,c,d,e,g]) (.int 1) μ) Q↔Q (b,μ):=W_some
theorem FF:W (aJ (.tup [a,b,c,d,e,g]) (.int 2) μ) Q↔Q (c,μ):=W_some
theorem FG:W (aJ (.tup [a,b,c,d,e,g]) (.int 3) μ) Q↔Q (d,μ):=W_some
theorem Ss:W (aJ (.tup [a,b,c,d,e,g]) (.int 4) μ) Q↔Q (e,μ):=W_some
theorem Su:W (aJ (.tup [a,b,c,d,e,g]) (.int 5) μ) Q↔Q (g,μ):=W_some
theorem w_truB{b:Bool}{Q:Bool->Prop}:W (pJ μ (.bl b)) Q↔Q b:=W_some
theorem w_gTup2{h:aG}{i j:Nat}{Q:aG->Prop}:W (cP [i,j] (.tup [a,b]) h μ) Q↔Q ((h.set i (aX a)).set j (aX b)):=W_some
end
theorem cW{b:Hm}{a:Nat}{xs:List D}{i:Int}{d:D}{Q:jz}(h:b[a]?=aX (.lst xs))(hi:atI xs i=aX d):W (aJ (.loc a) (.int i) b) Q↔Q (d,b):=by
 have:aJ (.loc a) (.int i) b=aX (d,b):=by simp only[aJ,iF,bK,h,Xi,hi,Xm]
 rw[this];exact W_some
theorem FH{d:Hm}{l:Nat}{a b:D}{c:aG}{i j:Nat}{Q:aG->Prop}(h:d[l]?=aX (.lst [a,b])):W (cP [i,j] (.loc l) c d) Q↔Q ((c.set i (aX a)).set j (aX b)):=by
 have:cP [i,j] (.loc l) c d=aX ((c.set i (aX a)).set j (aX b)):=by simp only[cP,bK,h,Xi];rfl
 rw[this];exact W_some
theorem w_iSeq{m:ME}{b:aG}{a:Hm}{Q:gE×Nat×Hm->Prop}:W (cU m b a) Q↔W (m b a) λp=>W (gG p.2 p.1) λxs=>Q (cI p.1,xs.length+1,p.2):=by unfold cU;simp only[W_bind,jG]
theorem w_mForI{c:MI}{g:MG}{b:MS}{a:aG}{d:Hm} {Q}:W (bV c g b a d) Q↔W (c a d) λp=>W (dS p.1 g b p.2.1 0 a p.2.2) Q:=W_bind
theorem vJ {j:Int}{e:MA}{g:aG}{c:Hm}{Q:gE×Nat×Hm->Prop}:W (lF e g c) Q↔W (e g c) fun p=>match p.1 with|[.int j]=>(-(2 ^ 62)<=j/\j<2 ^ 62)/\Q (gQ 0 j.toNat,j.toNat+1,p.2)|_=>False:=by
 unfold lF
 rw [W_bind]
 constructor<;>exact fun h=>bP h fun p q=>by
  obtain ⟨l,c⟩:=p
  match l,q with
  | [],q=>simpa [W_none] using q
  | [d],q=>
   cases d with
   | int j=>
    first
    | (dsimp only at q;rw [vG] at q;split at q
       ·rename_i i;exact ⟨i,W_some.mp q⟩
       ·exact (W_none.mp q).elim)
    | (dsimp only;rw [if_pos q.1];exact W_some.mpr q.2)
   | _=>simpa [W_none] using q
  | a::b::l,q=>simpa [W_none] using q
theorem w_iRng2 {a:MA}{c:aG}{b:Hm}{Q:gE×Nat×Hm->Prop}:W (jF a c b) Q↔W (a c b) fun p=>match p.1 with|[.int i,.int j]=>(-(2 ^ 62)<=i/\i<2 ^ 62/\-(2 ^ 62)<=j/\j<2 ^ 62)/\Q (gQ i (j - i).toNat,(j - i).toNat+1,p.2)|_=>False:=by
 unfold jF
 rw [W_bind]
 constructor<;>exact fun h=>bP h fun p q=>by
  split at q
  ·rename_i e
   try rw [e]
   first
   | (rw [vG] at q;split at q
      ·rename_i d;exact ⟨d,W_some.mp q⟩
      ·exact (W_none.mp q).elim)
   | ((try dsimp only);rw [if_pos q.1];exact W_some.mpr q.2)
  ·first
   | exact (W_none.mp q).elim
   | exact q.elim
theorem l6 {j:gE}{g:MG}{b:MS}{N:Nat}{Q:Fl×aG×Hm->Prop}(I:Nat->aG->Hm->Prop)
  (o:∀ i c a,i<N->I i c a->∃ d k,j a i=aX (aX d)/\g d c a=aX k/\W (b k a) fun p=>match p.1 with|.nx=>I (i+1) p.2.1 p.2.2|.ct=>I (i+1) p.2.1 p.2.2|.bk=>Q (.nx,p.2.1,p.2.2)|.rt d=>Q (.rt d,p.2.1,p.2.2))
  (e:∀ c a,I N c a->j a N=aX aY/\Q (.nx,c,a)):∀ (m i:Nat)(c:aG)(a:Hm),i+m=N->I i c a->W (dS j g b (m+1) i c a) Q
 | 0,i,c,a,h,hI=>by
  have:i=N:=by omega
  subst this
  obtain ⟨r,s⟩:=e c a hI
  unfold dS
  rw [r]
  exact W_some.mpr s
 | m+1,i,c,a,h,hI=>by
  obtain ⟨d,k,r,s,v⟩:=o i c a (by omega) hI
  unfold dS
  rw [r]
  simp only [Xi,s]
  rw [W_bind]
  refine bP v fun p q=>?_
  obtain ⟨u,n,l⟩:=p
  cases u with
  | nx=>exact l6 I o e m (i+1) n l (by omega) q
  | ct=>exact l6 I o e m (i+1) n l (by omega) q
  | bk=>exact W_some.mpr q
  | rt d=>exact W_some.mpr q
theorem jX{a:Nat}{xs:List D}{g:MG}{b:MS}{h:aG}{c:Hm}{Q:Fl×aG×Hm->Prop}(I:Nat->aG->Hm->Prop)(o:I 0 h c)(m:∀i h c,I i h c->c[a]?=aX (.lst xs))
  (n:∀i d h c,xs[i]?=aX d->I i h c->∃j,g d h c=aX j/\W (b j c) λp=>match p.1 with|.nx=>I (i+1) p.2.1 p.2.2|.ct=>I (i+1) p.2.1 p.2.2|.bk=>Q (.nx,p.2.1,p.2.2)|.rt d=>Q (.rt d,p.2.1,p.2.2))
  (l:∀h c,I xs.length h c->Q (.nx,h,c)):W (dS (cI (.loc a)) g b (xs.length+1) 0 h c) Q:=by
 refine l6 (N:=xs.length) I (λi h c hi k=>?_) (λh c k=>⟨?_,l h c k⟩) xs.length 0 h c (by omega) o
 ·have e:xs[i]?=aX xs[i]:=W3 hi;obtain⟨j,q,r⟩:=n i xs[i] h c e k;refine⟨xs[i],j,?_,q,r⟩;simp only[cI,gG,bK,m i h c k,Xm,e]
 ·simp only[cI,gG,bK,m _ h c k,Xm];simp
theorem Sv{x:D}{xs:List D}(l:∀a,gG a x=aX xs){g:MG}{b:MS}{c:aG}{a:Hm}{Q:Fl×aG×Hm->Prop}(I:Nat->aG->Hm->Prop)(n:I 0 c a)
  (m:∀i d c a,xs[i]?=aX d->I i c a->∃h,g d c a=aX h/\W (b h a) λp=>match p.1 with|.nx=>I (i+1) p.2.1 p.2.2|.ct=>I (i+1) p.2.1 p.2.2|.bk=>Q (.nx,p.2.1,p.2.2)|.rt d=>Q (.rt d,p.2.1,p.2.2))
  (j:∀c a,I xs.length c a->Q (.nx,c,a)):W (dS (cI x) g b (xs.length+1) 0 c a) Q:=by
 refine l6 (N:=xs.length) I (λi c a hi k=>?_) (λc a k=>⟨?_,j c a k⟩) xs.length 0 c a (by omega) n
 ·have e:xs[i]?=aX xs[i]:=W3 hi;obtain⟨h,o,q⟩:=m i xs[i] c a e k;refine⟨xs[i],h,?_,o,q⟩;simp only[cI,l,Xm,e]
 ·simp only[cI,l,Xm];simp
theorem oJ{lo:Int}{n:Nat}{g:MG}{b:MS}{c:aG}{a:Hm}{Q:Fl×aG×Hm->Prop}(I:Nat->aG->Hm->Prop)(l:I 0 c a)
  (k:∀(i:Nat) c a,i<n->I i c a->∃e,g (.int (lo+i)) c a=aX e/\W (b e a) λp=>match p.1 with|.nx=>I (i+1) p.2.1 p.2.2|.ct=>I (i+1) p.2.1 p.2.2|.bk=>Q (.nx,p.2.1,p.2.2)|.rt d=>Q (.rt d,p.2.1,p.2.2))
  (h:∀c a,I n c a->Q (.nx,c,a)):W (dS (gQ lo n) g b (n+1) 0 c a) Q:=by
 refine l6 (N:=n) I (λi c a hi j=>?_) (λc a j=>⟨?_,h c a j⟩) n 0 c a (by omega) l
 ·obtain⟨e,m,o⟩:=k i c a hi j;exact⟨_,e,by simp only[gQ,if_pos hi],m,o⟩
 ·simp only[gQ,Zs,if_false]
theorem AQ{c:Hm}{a:Nat}{b:List D}{y:D}(h:c[a]?=aX (.lst b))(d:b.length<W8):o7 c a y=aX (c.set a (.lst (b++[y]))):=by unfold o7;rw[h];exact if_pos d
theorem AR{u:gE}{c:MT}{e:ME}{G:aG}{μ0:Hm}{xs:List D}{p:D->Bool}{v:D->D}{Q:Hm->Prop}(x:∀a i,μ0<+:a->u a i=aX xs[i]?)(H:xs.length<=W8)
  (hc:∀d a,d∈xs->μ0<+:a->W (c (G++[aX d]) a) λr=>r.1=p d/\a<+:r.2)
  (z:∀d a,d∈xs->p d=b4->μ0<+:a->W (e (G++[aX d]) a) λr=>r.1=v d/\a<+:r.2)
  (fin:∀a,μ0<+:a->a[μ0.length]?=aX (.lst ((xs.filter p).map v))->Q a) :
  ∀(m i:Nat)(a:Hm),i+m=xs.length->μ0<+:a->a[μ0.length]?=aX (.lst (((xs.take i).filter p).map v))->W (iG u o8 c e G μ0.length (m+1) i a) Q
 |0,i,a,hi,hp,ha=>by
  have:i=xs.length:=by omega
  subst this;unfold iG;rw[x a _ hp];rw[YD (WY _)];simp only[Xi];refine W_some.mpr (fin a hp ?_);simpa using ha
 |m+1,i,a,hi,hp,ha=>by
  have o:i<xs.length:=by omega
  have I:xs[i]?=aX xs[i]:=W3 o;have h:xs[i]∈xs:=ZP o;unfold iG;rw[x a _ hp,I];simp only[Xi,o8];rw[W_bind];refine bP (hc _ a h hp) λr q=>?_;obtain⟨b,w⟩:=r;obtain⟨J,s⟩:=q;dsimp only at J s ⊢;subst J;have g:xs.take (i+1)=xs.take i++[xs[i]]:=by rw[a6c,I];rfl
  have k:=aE s ha;cases j:p xs[i]with
  |false=>refine AR x H hc z fin m (i+1) w (by omega) (hp.trans s) ?_;rw[k,g,Yd];simp[j]|true=>
   dsimp only;rw[W_bind];refine bP (z _ w h j (hp.trans s)) λr q=>?_;obtain⟨y,E⟩:=r;obtain⟨K,B⟩:=q;dsimp only at K B ⊢;subst K;have l:=aE B k;have n:(((xs.take i).filter p).map v).length<W8:=by have L:=XW p (xs.take i);rw[WO];rw[Ys]at L;omega
   rw[AQ l n,Xi];have A:μ0<+:E:=(hp.trans s).trans B;refine AR x H hc z fin m (i+1) _ (by omega) (cL A (WY _) _) ?_;rw[XY (WR.mp l).1,g,Yd];simp[j]
theorem jY{u:MI}{c:MT}{e:ME}{b:aG}{w:Hm}{xs:List D}{p:D->Bool}{v:D->D}{Q:jz}
  (hit:W (u b w) λr=>(∀a i,r.2.2<+:a->r.1 a i=aX xs[i]?)/\r.2.1=xs.length+1/\xs.length<=W8 /\
   (∀d a,d∈xs->r.2.2<+:a->W (c (b++[aX d]) a) λs=>s.1=p d/\a<+:s.2)/\(∀d a,d∈xs->p d=b4->r.2.2<+:a->W (e (b++[aX d]) a) λs=>s.1=v d/\a<+:s.2) /\
   ∀a,r.2.2<+:a->a[r.2.2.length]?=aX (.lst ((xs.filter p).map v))->Q (.loc r.2.2.length,a)):W (eW u c e b w) Q:=by
 unfold eW gT;rw[W_bind];refine bP hit λr q=>?_;obtain⟨x,n,g⟩:=r;obtain⟨h,j,k,l,m,o⟩:=q;dsimp only at h j k l m o ⊢;subst j;rw[jG];exact AR h k l m o xs.length 0 (g++[.lst []]) (by omega) (aP _ _) (by simp)
theorem oK{c:Hm}{a:Nat}{xs:List D}(h:c[a]?=aX (.lst xs)):∀b i,c<+:b->cI (.loc a) b i=aX xs[i]?:=λb i d=>by simp only[cI,gG,bK,aE d h,Xm]
theorem AS{xs:List D}{b:Hm}:∀a i,b<+:a->cI (.tup xs) a i=aX xs[i]?:=λa i c=>rfl
noncomputable def fL(lo:Int)(n:Nat):List D:=(X9 n).map λ(i:Nat)=>.int (lo+(i:Int))
theorem AU{lo:Int}{n:Nat}{b:Hm}:∀a i,b<+:a->gQ lo n a i=aX (fL lo n)[i]?:=λa i _=>by
 unfold gQ fL;rw[W6];by_cases h:i<n
 ·rw[if_pos h,List.getElem?_range h];rfl
 ·rw[if_neg h,YD (by simpa using ZY.mp h)];rfl
noncomputable abbrev P(x y:Int):D:=.tup [.int x,.int y]
noncomputable abbrev PP(p:Int×Int):D:=P p.1 p.2
theorem Sw(n:Nat)(e:Hm)(p q:Int×Int):cG (n+2) e (PP p) (PP q)=aX (p==q):=by obtain⟨a,b⟩:=p;obtain⟨c,d⟩:=q;show aX (a==c&&(b==d&&b4))=aX ((a,b)==(c,d));rw[a2A];rfl
theorem FI(n:Nat)(a:Hm):∀ps qs:jq,gA (jM (n+2) a) (ps.map PP) (qs.map PP)=aX (ps==qs)
 |[],[]=>rfl|[],_::_=>rfl|_::_,[]=>rfl|p::ps,q::qs=>by rw[Xa,Xa];show(cG (n+2) a (PP p) (PP q)).bind (λb=>(gA (jM (n+2) a) (ps.map PP) (qs.map PP)).map λc=>b&&c)=_;rw[Sw,FI n a ps qs];rfl
theorem Sx{c:Hm}{a b:Nat}{ps qs:jq}(g:c[a]?=aX (.lst (ps.map PP)))(h:c[b]?=aX (.lst (qs.map PP))):cG 8 c (.loc a) (.loc b)=aX (ps==qs):=by
 have d:d8 c (.loc a)=aX (.lst (ps.map PP)):=by simp only[d8,g]
 have e:d8 c (.loc b)=aX (.lst (qs.map PP)):=by simp only[d8,h]
 show(d8 c (.loc a)).bind (λx=>(d8 c (.loc b)).bind λy=>i8 (jM 7 c) x y)=_;rw[d,e];exact FI 5 c ps qs
theorem FJ{c:Hm}{a b:Nat}{ps qs:jq}{ne:Bool}{Q:jz}(d:c[a]?=aX (.lst (ps.map PP)))(e:c[b]?=aX (.lst (qs.map PP))):W (aR ne (.loc a) (.loc b) c) Q↔Q (.bl (if ne then !(ps==qs)else ps==qs),c):=by unfold aR;rw[Sx d e];exact W_some
theorem FK(n:Nat)(a:Hm):∀ps qs:List Int,gA (jM (n+1) a) (ps.map D.int) (qs.map D.int)=aX (ps==qs)
 |[],[]=>rfl|[],_::_=>rfl|_::_,[]=>rfl|p::ps,q::qs=>by rw[Xa,Xa];show(cG (n+1) a (.int p) (.int q)).bind (λb=>(gA (jM (n+1) a) (ps.map D.int) (qs.map D.int)).map λc=>b&&c)=_;rw[FK n a ps qs];rfl
theorem vK{c:Hm}{a b:Nat}{xs d:List D}{Q:jz}(e:c[a]?=aX (.lst xs))(g:c[b]?=aX (.lst d))(h:xs.length+d.length<=W8):W (bI (.loc a) (.loc b) c) Q↔Q (.loc c.length,c++[.lst (xs++d)]):=by simp only[bI,e,g,if_pos h];exact W_some
theorem hU{f:D->List D->Hm->jk}{b:ME}{c:MA}{a:aG}{d:Hm}{Q:jz}(h:W (b a d) λp=>nV p.2 p.1=b4/\W (c a p.2) λq=>W (f p.1 q.1 q.2) Q):W (dH f b c a d) Q:=by unfold dH;rw[W_bind];refine bP h λp q=>?_;rw[q.1];exact W_bind.mpr q.2
theorem hV{b:Hm}{a:Nat}{xs:List D}(h:b[a]?=aX (.lst xs)):nV b (.loc a)=true:=by simp only[nV,h]
theorem m7{b:Hm}{a:Nat}{xs:List D}{y:D}{Q:jz}(h:b[a]?=aX (.lst xs))(c:xs.length<W8):W (fF (.loc a) [y] b) Q↔Q (.non,b.set a (.lst (xs++[y]))):=by simp only[fF,AQ h c,Xm];exact W_some
theorem FL{c:Hm}{a b:Nat}{xs d:List D}{Q:jz}(h:c[a]?=aX (.lst xs))(e:c[b]?=aX (.lst d))(g:xs.length+d.length<=W8):W (nW (.loc a) [.loc b] c) Q↔Q (.non,c.set a (.lst (xs++d))):=by simp only[nW,h,e,if_pos g];exact W_some
theorem Sy{a:Hm}{xs:List D}{Q:jz}:W (jO [.tup xs,.ty "tuple"] a) Q↔Q (.bl b4,a):=W_some
theorem Sz{a:Hm}{i:Int}{Q:jz}:W (jO [.int i,.ty "bool"] a) Q↔Q (.bl b3,a):=W_some
theorem SA{a:Hm}{i:Int}{Q:jz}:W (jO [.int i,.ty "int"] a) Q↔Q (.bl b4,a):=W_some
theorem SD{a:Hm}{b:Str}{Q:jz}:W (jO [.str b,.ty "str"] a) Q↔Q (.bl b4,a):=W_some
theorem l7{b:Hm}{a:Nat}{xs:List D}{Q:jz}(h:b[a]?=aX (.lst xs)):W (eZ [.loc a] b) Q↔Q (.int xs.length,b):=by simp only[eZ,qY,bK,h,Xm];exact W_some
theorem w_lenR{a:Hm}{xs:List D}{Q:jz}:W (eZ [.rol xs] a) Q↔Q (.int xs.length,a):=W_some
theorem fH{b:Hm}{a:Nat}{xs:List D}{Q:List D->Prop}(h:b[a]?=aX (.lst xs)):W (gG b (.loc a)) Q↔Q xs:=by simp only[gG,bK,h];exact W_some
theorem w_seqT{a:Hm}{xs:List D}{Q:List D->Prop}:W (gG a (.tup xs)) Q↔Q xs:=W_some
theorem bA(a:Hm)(c:C):(a++[c])[a.length]?=aX c:=by simp
theorem w_mChain{f g:D->D->Hm->jk}{a b c:ME}{e:aG}{i:Hm} {Q}:W (jT f g a b c e i) Q↔W (a e i) λp=>W (b e p.2) λq=>W (f p.1 q.1 q.2) λr=>match r.1 with|.bl k=>if k=b4 then W (c e r.2) λt=>W (g q.1 t.1 t.2) Q else Q (.bl b3,r.2)|_=>False:=by
 unfold jT;simp only[W_bind];constructor<;>exact λh=>bP h λp q=>bP q λm l=>bP l λr j=>by
  obtain⟨d,i⟩:=r;cases d with
  |bl k=>cases k<;>simpa[W_some,W_bind]using j|_=>simpa[W_none]using j
section
variable{i j:Int}{μ:Hm}{Q:jz}
theorem w_min:W (zI [.int i,.int j] μ) Q↔Q (.int (min i j),μ):=by
 have:(if j<i then j else i)=min i j:=by split<;>omega
 show W (aX (D.int (if j<i then j else i),μ)) Q↔_;rw[this];exact W_some
theorem w_max:W (zH [.int i,.int j] μ) Q↔Q (.int (max i j),μ):=by
 have:(if j>i then j else i)=max i j:=by split<;>omega
 show W (aX (D.int (if j>i then j else i),μ)) Q↔_;rw[this];exact W_some
theorem FN:∀is:List Int,nU (is.map D.int)=aX is
 |[]=>rfl|i::is=>by show(nU (is.map D.int)).map (i::·)=_;rw[FN is];rfl
theorem SE{a:Nat}{bs:List Bool}(h:μ[a]?=aX (.lst (bs.map D.bl))):W (uI [.loc a] μ) Q↔Q (.bl (bs.all id),μ):=by
 have e:∀bs:List Bool,pL (bs.map D.bl)=aX bs:=λbs=>by
  induction bs with
  |nil=>rfl|cons b bs c=>show(pL (bs.map D.bl)).map (b::·)=_;rw[c];rfl
 simp only[uI,bK,h,Xi,e,Xm];exact W_some
end
theorem FP{b:MA}{i:aG}{g:Hm}{Q:gE×Nat×Hm->Prop}(h:W (b i g) λp=>∃a xs,p.1=[.loc a]/\p.2[a]?=aX (.lst xs)/\Q (n8 (.loc a),xs.length+1,p.2)):W (pP b i g) Q:=by unfold pP;rw[W_bind];refine bP h λp q=>?_;obtain⟨l,j⟩:=p;obtain⟨a,xs,c,d,e⟩:=q;dsimp only at c d e ⊢;subst c;dsimp only;simp only[eX,d,Xm];exact W_some.mpr e
theorem FQ{a:Nat}{xs:List D}{g:MG}{b:MS}{h:aG}{c:Hm}{Q:Fl×aG×Hm->Prop}(I:Nat->aG->Hm->Prop)(o:I 0 h c)(m:∀i h c,I i h c->c[a]?=aX (.lst xs))
  (n:∀(i:Nat) d h c,xs[i]?=aX d->I i h c->∃j,g (.tup [.int i,d]) h c=aX j/\W (b j c) λp=>match p.1 with|.nx=>I (i+1) p.2.1 p.2.2|.ct=>I (i+1) p.2.1 p.2.2|.bk=>Q (.nx,p.2.1,p.2.2)|.rt d=>Q (.rt d,p.2.1,p.2.2))
  (l:∀h c,I xs.length h c->Q (.nx,h,c)):W (dS (n8 (.loc a)) g b (xs.length+1) 0 h c) Q:=by
 refine l6 (N:=xs.length) I (λi h c hi k=>?_) (λh c k=>⟨?_,l h c k⟩) xs.length 0 h c (by omega) o
 ·have e:xs[i]?=aX xs[i]:=W3 hi;obtain⟨j,q,r⟩:=n i xs[i] h c e k;refine⟨_,j,?_,q,r⟩;simp only[n8,bK,m i h c k,Xm,e]
 ·simp only[n8,bK,m _ h c k,Xm];simp
theorem vL{n:gE}{B:BD}{c:MT}{e:ME}{A:aG}{a N:Nat}{Q:Hm->Prop}(I:Nat->List D->Hm->Prop)(E:N<=W8)(k:∀i g j,I i g j->g.length<=i)
  (u:∀i g j,i<N->I i g j->j[a]?=aX (.lst g)->∃d x,n j i=aX (aX d)/\B d j=aX x/\W (c (A++x) j) λr=>(r.1=b3->r.2[a]?=aX (.lst g)/\I (i+1) g r.2) /\
   (r.1=b4->W (e (A++x) r.2) λs=>s.2[a]?=aX (.lst g)/\I (i+1) (g++[s.1]) (s.2.set a (.lst (g++[s.1])))))
  (l:∀g j,I N g j->j[a]?=aX (.lst g)->n j N=aX aY/\Q j):∀(m i:Nat)(g:List D)(j:Hm),i+m=N->I i g j->j[a]?=aX (.lst g)->W (iG n B c e A a (m+1) i j) Q
 |0,i,g,j,h,hI,hg=>by
  have:i=N:=by omega
  subst this;obtain⟨v,w⟩:=l g j hI hg;unfold iG;rw[v];exact W_some.mpr w
 |m+1,i,g,j,h,hI,hg=>by
  obtain⟨d,x,v,w,G⟩:=u i g j (by omega) hI hg;unfold iG;rw[v];simp only[Xi,w];rw[W_bind];refine bP G λr q=>?_;obtain⟨b,z⟩:=r;cases b with
  |false=>obtain⟨o,p⟩:=q.1 rfl;exact vL I E k u l m (i+1) g z (by omega) p o|true=>dsimp only;rw[W_bind];refine bP (q.2 rfl) λs q=>?_;obtain⟨y,H⟩:=s;obtain⟨o,p⟩:=q;dsimp only at o p ⊢;have J:=k i g j hI;rw[AQ o (by omega),Xi];refine vL I E k u l m (i+1) _ _ (by omega) p ?_;rw[XY (WR.mp o).1]
theorem SF{h:BD}{v:MI}{c:MT}{e:ME}{g:aG}{a:Hm}{Q:jz}
  (hit:W (v g a) λr=>∃(N:Nat)(I:Nat->List D->Hm->Prop),r.2.1=N+1/\N<=W8/\(∀i b a,I i b a->b.length<=i)/\I 0 [] (r.2.2++[.lst []]) /\
   (∀i b a,i<N->I i b a->a[r.2.2.length]?=aX (.lst b)->∃d x,r.1 a i=aX (aX d)/\h d a=aX x/\W (c (g++x) a) λp=>(p.1=b3->p.2[r.2.2.length]?=aX (.lst b)/\I (i+1) b p.2) /\
    (p.1=b4->W (e (g++x) p.2) λs=>s.2[r.2.2.length]?=aX (.lst b)/\I (i+1) (b++[s.1]) (s.2.set r.2.2.length (.lst (b++[s.1]))))) /\
   (∀b a,I N b a->a[r.2.2.length]?=aX (.lst b)->r.1 a N=aX aY/\Q (.loc r.2.2.length,a))):W (gT h v c e g a) Q:=by
 unfold gT;rw[W_bind];refine bP hit λr q=>?_;obtain⟨w,n,y⟩:=r;obtain⟨N,I,j,k,l,m,o,u⟩:=q;dsimp only at j k l m o u ⊢;subst j;rw[jG];exact vL I k l o u N 0 [] _ (by omega) m (by simp)
theorem SG{o:gE}{B:BD}{c:MT}{e:ME}{A:aG}{μ0:Hm}{xs:List D}{x:D->aG}{p:D->Bool}{v:D->D}{Q:Hm->Prop}(E:∀a i,μ0<+:a->o a i=aX xs[i]?)(K:xs.length<=W8)(I:∀d a,d∈xs->B d a=aX (x d))
  (hc:∀d a,d∈xs->μ0<+:a->W (c (A++x d) a) λr=>r.1=p d/\a<+:r.2)
  (J:∀d a,d∈xs->p d=b4->μ0<+:a->W (e (A++x d) a) λr=>r.1=v d/\a<+:r.2)
  (fin:∀a,μ0<+:a->a[μ0.length]?=aX (.lst ((xs.filter p).map v))->Q a):W (iG o B c e A μ0.length (xs.length+1) 0 (μ0++[.lst []])) Q:=by
 refine vL (N:=xs.length) (λi u a=>u=((xs.take i).filter p).map v/\μ0<+:a) K ?_ ?_ ?_ xs.length 0 [] _ (by omega) ⟨by simp,aP _ _⟩ (by simp)
 ·rintro i u a ⟨rfl,_⟩;rw[WO];refine Xz (XW _ _) ?_;rw[Ys];omega
 ·rintro i u a hi ⟨rfl,j⟩ n;have G:xs[i]?=aX xs[i]:=W3 hi;have g:xs[i]∈xs:=ZP hi;have h:xs.take (i+1)=xs.take i++[xs[i]]:=by rw[a6c,G];rfl
  refine⟨xs[i],x xs[i],by rw[E a i j,G],I _ _ g,bP (hc _ a g j) λr q=>?_⟩;obtain⟨b,z⟩:=r;obtain⟨l,m⟩:=q;dsimp only at l m ⊢;refine⟨λk=>⟨aE m n,?_,j.trans m⟩,λk=>?_⟩
  ·rw[h,Yd];rw[k]at l;simp[<- l]
  ·rw[k]at l;refine bP (J _ z g l.symm (j.trans m)) λs q=>?_;obtain⟨y,L⟩:=s;obtain⟨H,w⟩:=q;dsimp only at H w ⊢;subst H;refine⟨aE (m.trans w) n,?_,cL ((j.trans m).trans w) (WY _) _⟩;rw[h,Yd,Xj];simp[<- l]
 ·rintro u a ⟨rfl,j⟩ n;refine⟨by rw[E a _ j];simp,fin a j ?_⟩;rw[Yj]at n;exact n
theorem FR{g:BD}{w:MI}{c:MT}{e:ME}{b:aG}{y:Hm}{xs:List D}{x:D->aG}{p:D->Bool}{v:D->D}{Q:jz}
  (hit:W (w b y) λr=>(∀a i,r.2.2<+:a->r.1 a i=aX xs[i]?)/\r.2.1=xs.length+1/\xs.length<=W8/\(∀d a,d∈xs->g d a=aX (x d)) /\
   (∀d a,d∈xs->r.2.2<+:a->W (c (b++x d) a) λs=>s.1=p d/\a<+:s.2)/\(∀d a,d∈xs->p d=b4->r.2.2<+:a->W (e (b++x d) a) λs=>s.1=v d/\a<+:s.2) /\
   ∀a,r.2.2<+:a->a[r.2.2.length]?=aX (.lst ((xs.filter p).map v))->Q (.loc r.2.2.length,a)):W (gT g w c e b y) Q:=by
 unfold gT;rw[W_bind];refine bP hit λr q=>?_;obtain⟨z,n,A⟩:=r;obtain⟨h,j,k,l,m,o,u⟩:=q;dsimp only at h j k l m o u ⊢;subst j;rw[jG];exact SG h k l m o u
theorem w_mTrue{b:aG}{a:Hm}{Q:Bool×Hm->Prop}:W (fS b a) Q↔Q (b4,a):=W_some
theorem w_mPut{o i v:ME}{a:aG}{c:Hm} {Q}:W (dJ o i v a c) Q↔W (v a c) λp=>W (o a p.2) λq=>W (i a q.2) λr=>W (pQ q.1 r.1 p.1 r.2) λb=>Q (.nx,a,b):=by unfold dJ n9;simp only[W_bind,jG]
theorem SJ{d:MA}{i:aG}{g:Hm}{Q:gE×Nat×Hm->Prop}(h:W (d i g) λp=>∃a b xs c,p.1=[.loc a,.loc b]/\p.2[a]?=aX (.lst xs)/\p.2[b]?=aX (.lst c)/\Q (oD (.loc a) (.loc b),min xs.length c.length+1,p.2)):W (rL d i g) Q:=by unfold rL;rw[W_bind];refine bP h λp q=>?_;obtain⟨a,b,xs,c,e,j,k,q⟩:=q;rw[e];simp only[eX,j,k,Xi,Xm];exact W_some.mpr q
section
variable{μ:Hm}{a:Nat}{kvs:jx}{k:List Int}{d y:D}{ρ:aG}{Q:jz}
theorem w_mDNewT:W (fJ ρ μ) Q↔Q (.loc μ.length,μ++[.dT []]):=W_some
theorem SK(h:μ[a]?=aX (.dT kvs))(b:c5 y=aX k)(c:bS kvs k=aX d):W (aJ (.loc a) y μ) Q↔Q (d,μ):=by simp only[aJ,h,b,Xi,c,Xm];exact W_some
theorem FT{b:Bool}(h:μ[a]?=aX (.dT kvs))(c:c5 y=aX k):W (cK b y (.loc a) μ) Q↔Q (.bl (if b then !(bS kvs k).isSome else(bS kvs k).isSome),μ):=by
 have:cK b y (.loc a) μ=aX (.bl (if b then !(bS kvs k).isSome else(bS kvs k).isSome),μ):=by simp only[cK,h,c,Xm]
 rw[this];exact W_some
theorem fX{Q:Hm->Prop}(h:μ[a]?=aX (.dT kvs))(b:c5 y=aX k)(c:kvs.length<W8):W (pQ (.loc a) y d μ) Q↔Q (μ.set a (.dT (c9 kvs k d))):=by simp only[pQ,rG,h,b,Xi,if_pos c];exact W_some
theorem FU{xs:List D}(h:μ[a]?=aX (.lst xs)):W (mW [.loc a] μ) Q↔Q (.loc μ.length,μ++[.lst xs]):=by simp only[mW,h,qZ,bK,Xm];exact W_some
end
theorem SM{b:Hm}{a:Nat}{xs:List D}{i:Int}{y:D}{Q:jz}(h:b[a]?=aX (.lst xs))(c:0<=i)(h1:i<2^63)(d:xs.length<W8):W (pR (.loc a) [.int i,y] b) Q↔Q (.non,b.set a (.lst (eY xs i.toNat y))):=by simp only[pR,h];rw[if_pos ⟨c,h1,d⟩];exact W_some
theorem SN{b:Hm}{a:Nat}{is:List Int}{Q:jz}(h:b[a]?=aX (.lst (is.map D.int)))(c:is.length<64):W (lP [.loc a] b) Q↔Q (.loc b.length,b++[.lst ((gW is).map D.int)]):=by
 have:oA [.loc a] b=aX (.loc b.length,b++[.lst ((gW is).map D.int)]):=by simp only[oA,eX,h,Xi,FN];rw[if_pos c]
 simp only[lP,this];exact W_some
theorem SO{b:Hm}{a:Nat}{xs:List D}{Q:jz}(h:b[a]?=aX (.lst xs)):W (mP [.loc a] b) Q↔Q (.loc b.length,b++[.lst xs.reverse]):=by simp only[mP,h];exact W_some
theorem w_intB{a:Hm}{b:Bool}{Q:jz}:W (mN [.bl b] a) Q↔Q (.int (if b then 1 else 0),a):=by cases b<;>exact W_some
end L3
namespace Lw
open PySem L2 L3
noncomputable def ds:List (Str×Stmt):=(("is_whole",aK 7)::("is_place",aK 8)::("is_edge",aK 9)::("is_quarter",aK 10)::("beside",aK 11)::("sides_of",aK 12)::("is_size",aK 15)::("check_size",aK 16)::("is_mark",aK 17)::("is_within",aK 18)::("places_within",aK 19)::("edges_in",aK 20)::("is_inner_edge",aK 21)::("sheet_of",aK 22)::("led",aK 24)::("is_turned",aK 25)::("stacks",aK 27)::("edges_laid",aK 28)::("are_piles",aK 30)::("heights_in",aK 31)::("quarters_at",aK 32)::("joined_at",aK 33)::("count_between",aK 34)::("is_above",aK 35)::("crosses",aK 36)::("crossing_at",aK 37)::("crossing",aK 38)::("turned_first",aK 39)::("mark_by_heights",aK 40)::("marks_by",aK 41)::("_law_given",aK 43)::("_law_number",aK 44)::("_law_quarters",aK 45)::("_law_rims",aK 46)::("_law_beside",aK 47)::("_law_value",aK 48)::("_law_mirror",aK 49)::("_law_led",aK 50)::("_law_then",aK 51)::("_law_fold",aK 52)::("_law_grown",aK 53)::("_law_creased",aK 54)::("_law_kind",aK 55)::("_law_ways",aK 56)::("_law_lines",aK 57)::("_law_grid",aK 58)::("_law_drawn",aK 59)::("_law_stirred",aK 60)::("_law_carried",aK 61)::("_law_other",aK 62)::("law",aK 63)::[])
noncomputable def AV:D:=(.tup [(.str "h"),(.str "v"),(.str "o")])
noncomputable def S:Sig:={fn:=(("is_whole",1)::("is_place",1)::("is_edge",1)::("is_quarter",1)::("beside",1)::("sides_of",1)::("is_size",1)::("check_size",2)::("is_mark",1)::("is_within",3)::("places_within",2)::("edges_in",2)::("is_inner_edge",3)::("sheet_of",3)::("led",2)::("is_turned",1)::("stacks",1)::("edges_laid",2)::("are_piles",2)::("heights_in",1)::("quarters_at",3)::("joined_at",3)::("count_between",3)::("is_above",3)::("crosses",3)::("crossing_at",4)::("crossing",3)::("turned_first",2)::("mark_by_heights",3)::("marks_by",3)::("_law_given",2)::("_law_number",2)::("_law_quarters",2)::("_law_rims",2)::("_law_beside",1)::("_law_value",2)::("_law_mirror",2)::("_law_led",2)::("_law_then",2)::("_law_fold",6)::("_law_grown",5)::("_law_creased",3)::("_law_kind",1)::("_law_ways",3)::("_law_lines",3)::("_law_grid",3)::("_law_drawn",2)::("_law_stirred",3)::("_law_carried",4)::("_law_other",1)::("law",1)::[]),con:=[("MARKS",AV)],tab:=[],no:=["all","bool","enumerate","int","isinstance","len","list","max","min","range","reversed","sorted","str","tuple","zip"],dIt:=["_law_heaps","_law_ways_here","_law_gone","piles","expected"],dEq:=[],dMe:=["layings","piles","expected","_law_heaps","_law_ways_here","_law_near"]}
@[irreducible] noncomputable def f(k:Nat)(x:Str):MF:=jW S ds k x
noncomputable def FV(k:Nat):MS:=aH (dJ (aA 9) (aA 10) (aC aJ (aA 0) (aA 10))) (bU (a8 (aC (aR b3) (aC jN (aI (f k "_law_value") (aB (aI (f k "_law_led") (aB (aC aJ (aA 0) (aA 10)) (aB (aA 10) aD))) (aB (aA 2) aD))) (aA 3)) (aA 4))) (dJ (aA 9) (aA 10) (aI (f k "_law_then") (aB (aC aJ (aA 0) (aA 10)) (aB (aA 8) aD)))) bZ)
noncomputable def FW(k:Nat):MS:=bU (a8 (aC (aR b3) (aC jN (aI (f k "_law_value") (aB (aA 6) (aB (aA 2) aD))) (aA 3)) (aA 4))) (dJ (aA 12) (aI (f k "_law_led") (aB (aA 8) (aB (aA 6) aD))) (aI mP (aB (aC aJ (aA 1) (aA 6)) aD))) (dJ (aA 11) (aA 6) (aC aJ (aA 1) (aA 6)))
noncomputable def FX:MS:=aH (aT 13 (lR mR (aA 11) (aB (aA 6) (aB (cD aD) aD)))) (dJ (aA 11) (aA 6) (k5 (fG (aA 5)) (aC bI (aA 13) (aC aJ (aA 12) (aA 6))) (aC bI (aC aJ (aA 12) (aA 6)) (aA 13))))
noncomputable def FY:MS:=aH (dJ (aA 5) (aA 7) (bW (aB (mC (.int 1)) (aB (mC (.int 0)) (aB (mC (.int 0)) (aB (mC (.int 1)) (aB (mC (.int 0)) (aB (mC (.int 0)) aD)))))))) (dJ (aA 6) (aA 7) (cD (aB (aA 7) aD)))
noncomputable def FZ(k:Nat):MS:=aZ (k5 (fG (aI (f k "is_above") (aB (aA 0) (aB (aC aJ (aA 3) (mC (.int 0))) (aB (aC aJ (aA 3) (mC (.int 1))) aD))))) (mC (.str "v")) (mC (.str "h")))
noncomputable def F0(k:Nat):MS:=aH (fE (aI (f k "_law_beside") (aB (aA 5) aD)) (cP [6,7])) (aH (eD (dH fF (aC aJ (aA 3) (aA 6)) (aB (bW (aB (aA 7) (aB (aA 5) aD))) aD))) (eD (dH fF (aC aJ (aA 3) (aA 7)) (aB (bW (aB (aA 6) (aB (aA 5) aD))) aD))))
noncomputable def F3(k:Nat):MS:=aH (dJ (aA 9) (aA 12) (aC aJ (aA 9) (aA 11))) (bU (a8 (aC (cK b3) (aA 5) (aA 2))) (aH (aT 13 (aI (f k "_law_kind") (aB (aA 5) aD))) (dJ (aA 9) (aA 12) (aI (f k "_law_then") (aB (aI (f k "_law_mirror") (aB (aA 13) (aB (aI (f k "_law_value") (aB (aA 5) (aB (aA 13) aD))) aD))) (aB (aC aJ (aA 9) (aA 11)) aD))))) bZ)
noncomputable def F4(k:Nat):MS:=bU (a8 (aC (cK b4) (aA 12) (aA 9))) (aH (eD (dH fF (aA 10) (aB (aA 12) aD))) (F3 k)) bZ
noncomputable def F5(k:Nat):MS:=aH (aT 11 (dH pH (aA 10) aD)) (bV (cU (aC aJ (aA 3) (aA 11))) (cP [12,5]) (F4 k))
noncomputable def F6(k:Nat):MS:=aH (aT 12 (aI (f k "_law_led") (aB (aC aJ (aA 9) (aA 11)) (aB (aA 11) aD)))) (dJ (aA 10) (aA 12) (aC bI (lR mR (aA 10) (aB (aA 12) (aB (cD aD) aD))) (cD (aB (aA 11) aD))))
noncomputable def F7:MS:=aH (aT 8 (aC aJ (aA 3) (aC aJ (aA 5) (aC a7 (aC dG (aA 7) (mC (.int 4))) (aI eZ (aB (aA 5) aD)))))) (aH (aT 9 (aC a7 (aC dG (aA 7) (mC (.int 512))) (aC gC (aI eZ (aB (aA 8) aD)) (mC (.int 1))))) (eD (dH pR (aA 8) (aB (aA 9) (aB (dH nX (aA 8) (aB (aC bI (aA 9) (mC (.int 1))) aD)) aD)))))
noncomputable def F8(k:Nat):MS:=aH (aT 6 (aC aJ (cD (aB (mC (.int 1)) (aB (mC (.int 1)) (aB (mC (.int 1)) (aB (aC k8 (mC (.int 10)) (mC (.int 50))) aD))))) (aC a7 (aC dG (aA 5) (mC (.int 1024))) (mC (.int 4))))) (aT 4 (aI (f k "_law_then") (aB (aA 4) (aB (aI (f k "_law_mirror") (aB (aC a7 (aA 5) (mC (.int 4))) (aB (aC bO (aC bO (mC (.int 4)) (aA 6)) (aC gC (aC a7 (aC dG (aA 5) (mC (.int 4))) (mC (.int 41))) (mC (.int 20)))) aD))) aD))))
noncomputable def F9(k:Nat):MS:=dJ (aA 7) (aA 8) (aI (f k "_law_then") (aB (aC aJ (aA 0) (aA 8)) (aB (aA 4) aD)))
noncomputable def Ga(k:Nat):MS:=aH (aT 11 (aI mW (aB (aC aJ (aA 1) (aA 10)) aD))) (aH (bU (fG (aA 3)) (eD (dH pI (aA 11) aD)) bZ) (dJ (aA 9) (aI (f k "_law_led") (aB (aA 4) (aB (aA 10) aD))) (aA 11)))
noncomputable def Gb(k:Nat):MS:=aH (bU (a8 (aC (aR b3) (aI eZ (aB (aA 3) aD)) (mC (.int 2)))) (aZ (aC (aR b3) (aI (f k "count_between") (aB (aA 0) (aB (aA 3) (aB (aA 4) aD)))) (mC (.int 1)))) bZ) (bU (a8 (aC (aR b3) (aI eZ (aB (aA 4) aD)) (mC (.int 2)))) (aZ (aC (aR b3) (aI (f k "count_between") (aB (aA 0) (aB (aA 4) (aB (aA 3) aD)))) (mC (.int 1)))) bZ)
noncomputable def Gd(k:Nat):MS:=bU (fG (aI (f k "crosses") (aB (aA 0) (aB (aC aJ (aA 5) (aA 7)) (aB (aC aJ (aA 5) (aA 8)) aD))))) (eD (dH fF (aA 6) (aB (bW (aB (aA 4) (aB (aC aJ (aA 3) (aA 8)) aD))) aD))) bZ
noncomputable def Ge(k:Nat):MS:=aH (bU (a8 (aC (aR b3) (aC (aR b3) (aC a7 (aI eZ (aB (aA 8) aD)) (mC (.int 2))) (mC (.int 1))) (aA 9))) (aZ (aC (aR b3) (aA 13) (aA 12))) bZ) (aZ (aC (aR b3) (aA 13) (aI (f k "_law_other") (aB (aA 12) aD))))
noncomputable def Gf(k:Nat):MS:=aH (bU (iE (j9 (fG (aI (f k "are_piles") (aB (aA 4) (aB (aA 5) aD))))) (j9 (fG (aI (f k "are_piles") (aB (aA 10) (aB (aA 11) aD)))))) (aZ (mC (.bl b3))) bZ) (aH (bU (a8 (aC (aR b4) (aI (f k "crossing") (aB (aA 7) (aB (aA 10) (aB (aA 11) aD)))) (aI (f k "crossing") (aB (aA 7) (aB (aA 4) (aB (aA 5) aD)))))) (aZ (mC (.bl b3))) bZ) (aH (aT 12 (aI (f k "marks_by") (aB (aA 7) (aB (aA 4) (aB (aA 5) aD))))) (aH (aT 13 (aI (f k "marks_by") (aB (aA 7) (aB (aA 10) (aB (aA 11) aD))))) (Ge k))))
theorem SQ(k:Nat)(a:D)(b:Hm):f (k+1) "is_whole" [a] b=fin ((aZ (fR (aI jO (aB (aA 0) (aB (mC (.ty "int")) aD))) (oV (aI jO (aB (aA 0) (aB (mC (.ty "bool")) aD)))))) [aX a] b):=by kernel_rfl
theorem SR(k:Nat)(a:D)(b:Hm):f (k+1) "is_place" [a] b=fin ((aZ (fR (aI jO (aB (aA 0) (aB (mC (.ty "tuple")) aD))) (fR (aC (aR b3) (aI eZ (aB (aA 0) aD)) (mC (.int 2))) (fR (aI (f k "is_whole") (aB (aC aJ (aA 0) (mC (.int 0))) aD)) (aI (f k "is_whole") (aB (aC aJ (aA 0) (mC (.int 1))) aD)))))) [aX a] b):=by kernel_rfl
theorem Gg(k:Nat)(a:D)(b:Hm):f (k+1) "is_edge" [a] b=fin ((aH (bU (a8 (aC (aR b3) (aC a7 (aC aJ (aA 0) (mC (.int 0))) (mC (.int 2))) (mC (.int 1)))) (aZ (aC (aR b3) (aC a7 (aC aJ (aA 0) (mC (.int 1))) (mC (.int 2))) (mC (.int 1)))) bZ) (aZ (fR (aC (aR b3) (aC a7 (aC aJ (aA 0) (mC (.int 1))) (mC (.int 2))) (mC (.int 0))) (aC (aR b4) (aC a7 (aC aJ (aA 0) (mC (.int 0))) (mC (.int 4))) (aC a7 (aC aJ (aA 0) (mC (.int 1))) (mC (.int 4))))))) [aX a] b):=by kernel_rfl
theorem SS(k:Nat)(a:D)(b:Hm):f (k+1) "is_quarter" [a] b=fin ((aH (bU (a8 (aC (aR b3) (aC a7 (aC aJ (aA 0) (mC (.int 0))) (mC (.int 2))) (mC (.int 1)))) (aZ (aC (aR b3) (aC a7 (aC aJ (aA 0) (mC (.int 1))) (mC (.int 4))) (mC (.int 2)))) bZ) (aZ (fR (aC (aR b3) (aC a7 (aC aJ (aA 0) (mC (.int 0))) (mC (.int 4))) (mC (.int 2))) (aC (aR b3) (aC a7 (aC aJ (aA 0) (mC (.int 1))) (mC (.int 2))) (mC (.int 1)))))) [aX a] b):=by kernel_rfl
theorem SU(k:Nat)(a:D)(b:Hm):f (k+1) "beside" [a] b=fin ((aH (aT 1 (aC aJ (aA 0) (mC (.int 0)))) (aH (aT 2 (aC aJ (aA 0) (mC (.int 1)))) (aZ (cD (aB (bW (aB (aC gC (aA 1) (mC (.int 1))) (aB (aA 2) aD))) (aB (bW (aB (aA 1) (aB (aC gC (aA 2) (mC (.int 1))) aD))) (aB (bW (aB (aA 1) (aB (aC bI (aA 2) (mC (.int 1))) aD))) (aB (bW (aB (aC bI (aA 1) (mC (.int 1))) (aB (aA 2) aD))) aD)))))))) [aX a,aY,aY] b):=by kernel_rfl
theorem SV(k:Nat)(a:D)(b:Hm):f (k+1) "sides_of" [a] b=fin ((aZ (eW (cU (aI (f k "beside") (aB (aA 0) aD))) (fG (aI (f k "is_quarter") (aB (aA 1) aD))) (aA 1))) [aX a] b):=by kernel_rfl
theorem SW(k:Nat)(a:D)(b:Hm):f (k+1) "is_size" [a] b=fin ((aZ (fR (aI (f k "is_whole") (aB (aA 0) aD)) (jT o4 o4 (mC (.int 1)) (aA 0) (mC (.int 6))))) [aX a] b):=by kernel_rfl
theorem SX(k:Nat)(a b:D)(c:Hm):f (k+1) "check_size" [a,b] c=fin ((bU (j9 (fD (fG (aI (f k "is_size") (aB (aA 0) aD))) (fG (aI (f k "is_size") (aB (aA 1) aD))))) cJ bZ) [aX a,aX b] c):=by kernel_rfl
theorem SY(k:Nat)(a:D)(b:Hm):f (k+1) "is_mark" [a] b=fin ((aZ (fR (aI jO (aB (aA 0) (aB (mC (.ty "str")) aD))) (aC (cK b3) (aA 0) (mC AV)))) [aX a] b):=by kernel_rfl
theorem S1(k:Nat)(a b c:D)(d:Hm):f (k+1) "is_within" [a,b,c] d=fin ((aZ (fR (jT jD jD (mC (.int 0)) (aC aJ (aA 2) (mC (.int 0))) (aC bO (mC (.int 4)) (aA 0))) (jT jD jD (mC (.int 0)) (aC aJ (aA 2) (mC (.int 1))) (aC bO (mC (.int 4)) (aA 1))))) [aX a,aX b,aX c] d):=by kernel_rfl
theorem S2(k:Nat)(a b:D)(c:Hm):f (k+1) "places_within" [a,b] c=fin ((aH (aT 2 (cD aD)) (aH (bV (jF (aB (mC (.int 1)) (aB (aC bO (mC (.int 4)) (aA 0)) aD))) (bT 3) (eD (dH nW (aA 2) (aB (eW (jF (aB (mC (.int 1)) (aB (aC bO (mC (.int 4)) (aA 1)) aD))) fS (bW (aB (aA 3) (aB (aA 4) aD)))) aD)))) (aZ (aA 2)))) [aX a,aX b,aY,aY] c):=by kernel_rfl
theorem S3(k:Nat)(a b:D)(c:Hm):f (k+1) "edges_in" [a,b] c=fin ((aZ (eW (cU (aI (f k "places_within") (aB (aA 0) (aB (aA 1) aD)))) (fG (aI (f k "is_edge") (aB (aA 2) aD))) (aA 2))) [aX a,aX b] c):=by kernel_rfl
theorem S4(k:Nat)(a b c:D)(d:Hm):f (k+1) "is_inner_edge" [a,b,c] d=fin ((aZ (fR (aI (f k "is_place") (aB (aA 2) aD)) (fR (aI (f k "is_within") (aB (aA 0) (aB (aA 1) (aB (aA 2) aD)))) (aI (f k "is_edge") (aB (aA 2) aD))))) [aX a,aX b,aX c] d):=by kernel_rfl
theorem S5(k:Nat)(a b c:D)(d:Hm):f (k+1) "sheet_of" [a,b,c] d=fin ((aH (eD (aI (f k "check_size") (aB (aA 0) (aB (aA 1) aD)))) (aH (aT 3 fJ) (aH (bV (cU (aA 2)) (bT 4) (aH (aT 5 (aC aJ (aA 4) (mC (.int 0)))) (aH (bU (j9 (fG (aI (f k "is_inner_edge") (aB (aA 0) (aB (aA 1) (aB (aA 5) aD)))))) cJ bZ) (aH (bU (j9 (fG (aI (f k "is_mark") (aB (aC aJ (aA 4) (mC (.int 1))) aD)))) cJ bZ) (aH (bU (a8 (aC (cK b3) (aA 5) (aA 3))) cJ bZ) (dJ (aA 3) (aA 5) (aC aJ (aA 4) (mC (.int 1))))))))) (aZ (bW (aB (aA 0) (aB (aA 1) (aB (uW (aA 3)) aD)))))))) [aX a,aX b,aX c,aY,aY,aY] d):=by kernel_rfl
theorem S6(k:Nat)(a b:D)(c:Hm):f (k+1) "led" [a,b] c=fin ((aH (aT 2 (aC aJ (aA 1) (mC (.int 0)))) (aH (aT 3 (aC aJ (aA 1) (mC (.int 1)))) (aZ (bW (aB (aC bI (aC bI (aC bO (aC aJ (aA 0) (mC (.int 0))) (aA 2)) (aC bO (aC aJ (aA 0) (mC (.int 1))) (aA 3))) (aC aJ (aA 0) (mC (.int 4)))) (aB (aC bI (aC bI (aC bO (aC aJ (aA 0) (mC (.int 2))) (aA 2)) (aC bO (aC aJ (aA 0) (mC (.int 3))) (aA 3))) (aC aJ (aA 0) (mC (.int 5)))) aD)))))) [aX a,aX b,aY,aY] c):=by kernel_rfl
theorem S7(k:Nat)(a:D)(b:Hm):f (k+1) "is_turned" [a] b=fin ((aZ (aC (aR b3) (aC gC (aC bO (aC aJ (aA 0) (mC (.int 0))) (aC aJ (aA 0) (mC (.int 3)))) (aC bO (aC aJ (aA 0) (mC (.int 1))) (aC aJ (aA 0) (mC (.int 2))))) (kE (mC (.int 1))))) [aX a] b):=by kernel_rfl
theorem S8(k:Nat)(a:D)(b:Hm):f (k+1) "stacks" [a] b=fin ((aH (aT 1 fJ) (aH (bV (cU (aI iJ (aB (aA 0) aD))) (bT 2) (eD (dH fF (lR mS (aA 1) (aB (aI (f k "led") (aB (aC aJ (aA 0) (aA 2)) (aB (aA 2) aD))) (aB (cD aD) aD))) (aB (aA 2) aD)))) (aZ (aA 1)))) [aX a,aY,aY] b):=by kernel_rfl
theorem S9(k:Nat)(a b:D)(c:Hm):f (k+1) "edges_laid" [a,b] c=fin ((aH (aT 2 fJ) (aH (bV (cU (aI (f k "edges_in") (aB (aC aJ (aA 0) (mC (.int 0))) (aB (aC aJ (aA 0) (mC (.int 1))) aD)))) (bT 3) (eD (dH fF (lR mS (aA 2) (aB (aI (f k "led") (aB (aC aJ (aA 1) (aC aJ (aI (f k "sides_of") (aB (aA 3) aD)) (mC (.int 0)))) (aB (aA 3) aD))) (aB (cD aD) aD))) (aB (aA 3) aD)))) (aZ (aA 2)))) [aX a,aX b,aY,aY] c):=by kernel_rfl
theorem Ta(k:Nat)(a b:D)(c:Hm):f (k+1) "are_piles" [a,b] c=fin ((aH (aT 2 (aI (f k "stacks") (aB (aA 0) aD))) (aH (bU (a8 (aC (aR b4) (aI iJ (aB (aA 1) aD)) (aI iJ (aB (aA 2) aD)))) (aZ (mC (.bl b3))) bZ) (aZ (aI uI (aB (pX 2 (eW (eA (aA 2)) fS (aC (aR b3) (aI lP (aB (aC aJ (aA 1) (aA 3)) aD)) (aC aJ (aA 2) (aA 3)))) bX) aD))))) [aX a,aX b,aY] c):=by kernel_rfl
theorem Tc(k:Nat)(a:D)(b:Hm):f (k+1) "heights_in" [a] b=fin ((aH (aT 1 fJ) (aH (d9 0 (bV (pZ (aA 0)) (bT 2) (bV (pP (aB (aA 2) aD)) (cP [3,4]) (dJ (aA 1) (aA 4) (aA 3)))) cJ) (aZ (aA 1)))) [aX a,aY,aY,aY,aY] b):=by kernel_rfl
theorem Td(k:Nat)(a b c:D)(d:Hm):f (k+1) "quarters_at" [a,b,c] d=fin ((aZ (eW (cU (aI (f k "sides_of") (aB (aA 0) aD))) (a8 (aC (aR b3) (aI (f k "led") (aB (aC aJ (aA 1) (aA 3)) (aB (aA 3) aD))) (aA 2))) (aA 3))) [aX a,aX b,aX c] d):=by kernel_rfl
theorem Te(k:Nat)(a b c:D)(d:Hm):f (k+1) "joined_at" [a,b,c] d=fin ((aZ (eW (cU (aI (f k "sides_of") (aB (aA 2) aD))) fS (aI (f k "quarters_at") (aB (aA 0) (aB (aA 1) (aB (aA 3) aD)))))) [aX a,aX b,aX c] d):=by kernel_rfl
theorem Tf(k:Nat)(a b c:D)(d:Hm):f (k+1) "count_between" [a,b,c] d=fin ((aH (aT 3 (aI zI (aB (aC aJ (aA 0) (aC aJ (aA 1) (mC (.int 0)))) (aB (aC aJ (aA 0) (aC aJ (aA 1) (mC (.int 1)))) aD)))) (aH (aT 4 (aI zH (aB (aC aJ (aA 0) (aC aJ (aA 1) (mC (.int 0)))) (aB (aC aJ (aA 0) (aC aJ (aA 1) (mC (.int 1)))) aD)))) (aZ (aI eZ (aB (eW (cU (aA 2)) (a8 (jT jD jD (aA 3) (aC aJ (aA 0) (aA 5)) (aA 4))) (aA 5)) aD))))) [aX a,aX b,aX c,aY,aY] d):=by kernel_rfl
theorem Gh(k:Nat)(a b c:D)(d:Hm):f (k+1) "is_above" [a,b,c] d=fin ((aZ (aC jN (aC aJ (aA 0) (aA 1)) (aC aJ (aA 0) (aA 2)))) [aX a,aX b,aX c] d):=by kernel_rfl
theorem Tg(k:Nat)(a b c:D)(d:Hm):f (k+1) "crosses" [a,b,c] d=fin ((aH (bV (rL (aB (aA 1) (aB (aA 2) aD))) (cP [3,4]) (Gb k)) (aZ (aC (aR b4) (aI (f k "is_above") (aB (aA 0) (aB (aC aJ (aC aJ (aA 1) (mC (.int 0))) (mC (.int 0))) (aB (aC aJ (aC aJ (aA 2) (mC (.int 0))) (mC (.int 0))) aD)))) (aI (f k "is_above") (aB (aA 0) (aB (aC aJ (aC aJ (aA 1) (mC (.int 1))) (mC (.int 0))) (aB (aC aJ (aC aJ (aA 2) (mC (.int 1))) (mC (.int 0))) aD))))))) [aX a,aX b,aX c,aY,aY] d):=by kernel_rfl
theorem Th(k:Nat)(a b c d:D)(e:Hm):f (k+1) "crossing_at" [a,b,c,d] e=fin ((aH (aT 5 (eW (cU (aA 3)) fS (aI (f k "joined_at") (aB (aA 9) (aB (aA 1) (aB (aA 2) aD)))))) (aH (aT 6 (cD aD)) (aH (bV (pP (aB (aA 3) aD)) (cP [7,4]) (bV (jF (aB (aC bI (aA 7) (mC (.int 1))) (aB (aI eZ (aB (aA 3) aD)) aD))) (bT 8) (Gd k))) (aZ (aA 6))))) [aX a,aX b,aX c,aX d,aY,aY,aY,aY,aY] e):=by kernel_rfl
theorem Ti(k:Nat)(a b c:D)(d:Hm):f (k+1) "crossing" [a,b,c] d=fin ((aH (aT 3 (aI (f k "heights_in") (aB (aA 2) aD))) (aH (aT 4 (cD aD)) (aH (bV (rQ (aI (f k "edges_laid") (aB (aA 0) (aB (aA 1) aD)))) (cP [5,6]) (eD (dH nW (aA 4) (aB (aI (f k "crossing_at") (aB (aA 3) (aB (aA 1) (aB (aA 5) (aB (aA 6) aD))))) aD)))) (aZ (aI mT (aB (aA 4) (aB (mC .non) aD))))))) [aX a,aX b,aX c,aY,aY,aY,aY] d):=by kernel_rfl
theorem Tj(k:Nat)(a b:D)(c:Hm):f (k+1) "turned_first" [a,b] c=fin ((aH (aT 2 (aI (f k "sides_of") (aB (aA 1) aD))) (aH (bU (fG (aI (f k "is_turned") (aB (aC aJ (aA 0) (aC aJ (aA 2) (mC (.int 0)))) aD))) (aZ (aA 2)) bZ) (aZ (cD (aB (aC aJ (aA 2) (mC (.int 1))) (aB (aC aJ (aA 2) (mC (.int 0))) aD)))))) [aX a,aX b,aY] c):=by kernel_rfl
theorem To(k:Nat)(a b c:D)(d:Hm):f (k+1) "mark_by_heights" [a,b,c] d=fin ((aH (aT 3 (aI (f k "turned_first") (aB (aA 1) (aB (aA 2) aD)))) (FZ k)) [aX a,aX b,aX c,aY] d):=by kernel_rfl
theorem Tp(k:Nat)(a b c:D)(d:Hm):f (k+1) "marks_by" [a,b,c] d=fin ((aH (aT 3 (aI (f k "heights_in") (aB (aA 2) aD))) (aZ (gT (tY 2) (cU (aC aJ (aA 0) (mC (.int 2)))) fS (bW (aB (aA 4) (aB (aI (f k "mark_by_heights") (aB (aA 3) (aB (aA 1) (aB (aA 4) aD)))) aD)))))) [aX a,aX b,aX c,aY] d):=by kernel_rfl
theorem Tq(k:Nat)(a b:D)(c:Hm):f (k+1) "_law_given" [a,b] c=fin ((aH (bU (a8 (aC jD (aA 1) (aI eZ (aB (aA 0) aD)))) (aZ (aC aJ (aA 0) (aA 1))) bZ) (aH (aT 2 (aC bO (aC bO (aC bI (aA 1) (mC (.int 3))) (aC bI (aA 1) (mC (.int 3)))) (mC (.int 48271)))) (aZ (k5 (a8 (aC (aR b3) (aA 0) (cD aD))) (aA 2) (aC bI (aA 2) (aC bO (aC aJ (aA 0) (aC a7 (aA 1) (aI eZ (aB (aA 0) aD)))) (aC bI (aA 1) (mC (.int 5))))))))) [aX a,aX b,aY] c):=by kernel_rfl
theorem Tr(k:Nat)(a b:D)(c:Hm):f (k+1) "_law_number" [a,b] c=fin ((aH (bU (a8 (aC (aR b3) (aC a7 (aI (f k "_law_given") (aB (aA 0) (aB (mC (.int 0)) aD))) (mC (.int 2))) (mC (.int 1)))) (aH (aT 2 (aI (f k "_law_given") (aB (aA 0) (aB (mC (.int 1)) aD)))) (aH (bV (lF (aB (aA 1) aD)) (bT 3) (aT 2 (aC dG (aA 2) (aC k8 (mC (.int 10)) (mC (.int 6)))))) (bU (a8 (aC jN (aA 2) (mC (.int 0)))) (aZ (aC a7 (aA 2) (aC k8 (mC (.int 10)) (mC (.int 6))))) bZ))) bZ) (aH (aT 2 (aC bI (aC bI (aC a7 (aI (f k "_law_given") (aB (aA 0) (aB (aA 1) aD))) (mC (.int 1000003))) (aC bO (mC (.int 7)) (aA 1))) (mC (.int 3)))) (aZ (aC a7 (aC bO (aC bO (aA 2) (aA 2)) (mC (.int 48271))) (mC (.int 2147483647)))))) [aX a,aX b,aY,aY] c):=by kernel_rfl
theorem Ts(k:Nat)(a b:D)(c:Hm):f (k+1) "_law_quarters" [a,b] c=fin ((aH (aT 2 (cD aD)) (aH (bV (jF (aB (mC (.int 1)) (aB (aC bO (mC (.int 4)) (aA 0)) aD))) (bT 3) (bV (jF (aB (mC (.int 1)) (aB (aC bO (mC (.int 4)) (aA 1)) aD))) (bT 4) (bU (iE (fD (a8 (aC (aR b3) (aC a7 (aA 3) (mC (.int 4))) (mC (.int 2)))) (a8 (aC (aR b3) (aC a7 (aA 4) (mC (.int 2))) (mC (.int 1))))) (fD (a8 (aC (aR b3) (aC a7 (aA 4) (mC (.int 4))) (mC (.int 2)))) (a8 (aC (aR b3) (aC a7 (aA 3) (mC (.int 2))) (mC (.int 1)))))) (eD (dH fF (aA 2) (aB (bW (aB (aA 3) (aB (aA 4) aD))) aD))) bZ))) (aZ (aA 2)))) [aX a,aX b,aY,aY,aY] c):=by kernel_rfl
theorem Tt(k:Nat)(a b:D)(c:Hm):f (k+1) "_law_rims" [a,b] c=fin ((aH (aT 2 (cD aD)) (aH (bV (jF (aB (mC (.int 1)) (aB (aC bO (mC (.int 4)) (aA 0)) aD))) (bT 3) (bV (jF (aB (mC (.int 1)) (aB (aC bO (mC (.int 4)) (aA 1)) aD))) (bT 4) (bU (fD (a8 (aC (aR b3) (aC a7 (aA 3) (mC (.int 2))) (aC a7 (aA 4) (mC (.int 2))))) (iE (a8 (aC (aR b3) (aC a7 (aA 3) (mC (.int 2))) (mC (.int 1)))) (a8 (aC (aR b4) (aC a7 (aA 3) (mC (.int 4))) (aC a7 (aA 4) (mC (.int 4))))))) (eD (dH fF (aA 2) (aB (bW (aB (aA 3) (aB (aA 4) aD))) aD))) bZ))) (aZ (aA 2)))) [aX a,aX b,aY,aY,aY] c):=by kernel_rfl
theorem Tu(k:Nat)(a:D)(b:Hm):f (k+1) "_law_beside" [a] b=fin ((aH (fE (aA 0) (cP [1,2])) (aH (bU (a8 (aC (aR b3) (aC a7 (aA 1) (mC (.int 2))) (mC (.int 1)))) (aZ (cD (aB (bW (aB (aA 1) (aB (aC gC (aC bI (aA 2) (mC (.int 2))) (aC a7 (aA 2) (mC (.int 4)))) aD))) (aB (bW (aB (aC gC (aC bI (aA 1) (mC (.int 2))) (aC a7 (aA 1) (mC (.int 4)))) (aB (aA 2) aD))) aD)))) bZ) (aH (bU (a8 (aC (aR b3) (aC a7 (aA 2) (mC (.int 4))) (mC (.int 0)))) (aZ (cD (aB (bW (aB (aA 1) (aB (aC gC (aA 2) (mC (.int 1))) aD))) (aB (bW (aB (aA 1) (aB (aC bI (aA 2) (mC (.int 1))) aD))) aD)))) bZ) (aZ (cD (aB (bW (aB (aC gC (aA 1) (mC (.int 1))) (aB (aA 2) aD))) (aB (bW (aB (aC bI (aA 1) (mC (.int 1))) (aB (aA 2) aD))) aD))))))) [aX a,aY,aY] b):=by kernel_rfl
theorem Tv(k:Nat)(a b:D)(c:Hm):f (k+1) "_law_value" [a,b] c=fin ((aH (fE (aA 0) (cP [2,3])) (aZ (aC aJ (cD (aB (aA 3) (aB (aA 2) (aB (aC gC (aA 2) (aA 3)) (aB (aC bI (aA 2) (aA 3)) aD))))) (aA 1)))) [aX a,aX b,aY,aY] c):=by kernel_rfl
theorem Tx(k:Nat)(a b:D)(c:Hm):f (k+1) "_law_mirror" [a,b] c=fin ((aH (aT 2 (cD (aB (bW (aB (mC (.int 1)) (aB (mC (.int 0)) (aB (mC (.int 0)) (aB (kE (mC (.int 1))) (aB (mC (.int 0)) (aB (aC bO (mC (.int 2)) (aA 1)) aD))))))) (aB (bW (aB (kE (mC (.int 1))) (aB (mC (.int 0)) (aB (mC (.int 0)) (aB (mC (.int 1)) (aB (aC bO (mC (.int 2)) (aA 1)) (aB (mC (.int 0)) aD))))))) aD)))) (aZ (aC aJ (aC bI (aA 2) (cD (aB (bW (aB (mC (.int 0)) (aB (mC (.int 1)) (aB (mC (.int 1)) (aB (mC (.int 0)) (aB (aA 1) (aB (kE (aA 1)) aD))))))) (aB (bW (aB (mC (.int 0)) (aB (kE (mC (.int 1))) (aB (kE (mC (.int 1))) (aB (mC (.int 0)) (aB (aA 1) (aB (aA 1) aD))))))) aD)))) (aA 0)))) [aX a,aX b,aY] c):=by kernel_rfl
theorem Tz(k:Nat)(a b:D)(c:Hm):f (k+1) "_law_led" [a,b] c=fin ((aH (fE (aA 0) (cP [2,3,4,5,6,7])) (aH (fE (aA 1) (cP [8,9])) (aZ (bW (aB (aC bI (aC bI (aC bO (aA 2) (aA 8)) (aC bO (aA 3) (aA 9))) (aA 6)) (aB (aC bI (aC bI (aC bO (aA 4) (aA 8)) (aC bO (aA 5) (aA 9))) (aA 7)) aD)))))) [aX a,aX b,aY,aY,aY,aY,aY,aY,aY,aY] c):=by kernel_rfl
theorem TB(k:Nat)(a b:D)(c:Hm):f (k+1) "_law_then" [a,b] c=fin ((aH (fE (aA 0) (cP [2,3,4,5,6,7])) (aH (fE (aA 1) (cP [8,9,10,11,12,13])) (aH (aT 14 (bW (aB (aC bI (aC bO (aA 8) (aA 2)) (aC bO (aA 9) (aA 4))) (aB (aC bI (aC bO (aA 8) (aA 3)) (aC bO (aA 9) (aA 5))) (aB (aC bI (aC bO (aA 10) (aA 2)) (aC bO (aA 11) (aA 4))) (aB (aC bI (aC bO (aA 10) (aA 3)) (aC bO (aA 11) (aA 5))) aD)))))) (aZ (aC bI (aA 14) (bW (aB (aC bI (aC bI (aC bO (aA 8) (aA 6)) (aC bO (aA 9) (aA 7))) (aA 12)) (aB (aC bI (aC bI (aC bO (aA 10) (aA 6)) (aC bO (aA 11) (aA 7))) (aA 13)) aD)))))))) [aX a,aX b,aY,aY,aY,aY,aY,aY,aY,aY,aY,aY,aY,aY,aY] c):=by kernel_rfl
theorem TC(k:Nat)(a b c d e g:D)(h:Hm):f (k+1) "_law_fold" [a,b,c,d,e,g] h=fin ((aH (d9 1 (aT 7 (eW (eA (aA 1)) fS (aC (aR b3) (aC jN (aI (f k "_law_value") (aB (aA 14) (aB (aA 2) aD))) (aA 3)) (aA 4)))) cJ) (aH (bU (iE (a8 (aC (cK b4) (mC (.bl b4)) (aA 7))) (a8 (aC (cK b4) (mC (.bl b3)) (aA 7)))) (aZ (bW (aB (aA 0) (aB (aA 1) aD)))) bZ) (aH (aT 8 (aI (f k "_law_mirror") (aB (aA 2) (aB (aA 3) aD)))) (aH (aT 9 fJ) (aH (d9 0 (bV (eA (aA 0)) (bT 10) (FV k)) cJ) (aH (aT 11 fJ) (aH (aT 12 fJ) (aH (d9 1 (bV (eA (aA 1)) (bT 6) (FW k)) cJ) (aH (d9 12 (bV (eA (aA 12)) (bT 6) FX) cJ) (aZ (bW (aB (aA 9) (aB (aA 11) aD))))))))))))) [aX a,aX b,aX c,aX d,aX e,aX g,aY,aY,aY,aY,aY,aY,aY,aY] h):=by kernel_rfl
theorem TF(k:Nat)(a b c d e:D)(g:Hm):f (k+1) "_law_grown" [a,b,c,d,e] g=fin ((aH (aT 5 fJ) (aH (aT 6 fJ) (aH (bV (cU (aI (f k "_law_quarters") (aB (aA 1) (aB (aA 2) aD)))) (bT 7) FY) (aH (bV (lF (aB (aA 4) aD)) (bT 8) (aH (aT 9 (aI (f k "_law_number") (aB (aA 0) (aB (aC bI (aA 3) (aA 8)) aD)))) (aH (aT 10 (aC a7 (aA 9) (mC (.int 4)))) (aH (aT 11 (aI iJ (aB (aA 6) aD))) (aH (aT 12 (aI (f k "_law_value") (aB (aC aJ (aA 11) (aC a7 (aC dG (aA 9) (mC (.int 4))) (aI eZ (aB (aA 11) aD)))) (aB (aA 10) aD)))) (aH (aT 13 (aC a7 (aC dG (aA 9) (mC (.int 4096))) (mC (.int 4)))) (fE (aI (f k "_law_fold") (aB (aA 5) (aB (aA 6) (aB (aA 10) (aB (aC gC (aA 12) (aC a7 (aA 12) (mC (.int 4)))) (aB (aC (aR b3) (aC a7 (aA 13) (mC (.int 2))) (mC (.int 0))) (aB (aC jD (aA 13) (mC (.int 2))) aD))))))) (cP [5,6])))))))) (aZ (bW (aB (aA 5) (aB (aA 6) aD)))))))) [aX a,aX b,aX c,aX d,aX e,aY,aY,aY,aY,aY,aY,aY,aY,aY] g):=by kernel_rfl
theorem TH(k:Nat)(a b c:D)(d:Hm):f (k+1) "_law_creased" [a,b,c] d=fin ((aH (aT 3 (cD aD)) (aH (bV (cU (aI (f k "_law_rims") (aB (aA 1) (aB (aA 2) aD)))) (bT 4) (aH (fE (aI (f k "_law_beside") (aB (aA 4) aD)) (cP [5,6])) (bU (a8 (aC (aR b4) (aC aJ (aA 0) (aA 5)) (aC aJ (aA 0) (aA 6)))) (eD (dH fF (aA 3) (aB (aA 4) aD))) bZ))) (aZ (aA 3)))) [aX a,aX b,aX c,aY,aY,aY,aY] d):=by kernel_rfl
theorem TJ(k:Nat)(a:D)(b:Hm):f (k+1) "_law_kind" [a] b=fin ((aH (fE (aA 0) (cP [1,2])) (aH (bU (a8 (aC (aR b3) (aC a7 (aA 1) (mC (.int 2))) (mC (.int 1)))) (aZ (aC bI (mC (.int 2)) (aI mN (aB (aC (aR b4) (aC a7 (aA 1) (mC (.int 4))) (aC a7 (aA 2) (mC (.int 4)))) aD)))) bZ) (aZ (aI mN (aB (aC (aR b4) (aC a7 (aA 2) (mC (.int 4))) (mC (.int 0))) aD))))) [aX a,aY,aY] b):=by kernel_rfl
theorem TK(k:Nat)(a b c:D)(d:Hm):f (k+1) "_law_ways" [a,b,c] d=fin ((aH (aT 3 fJ) (aH (bV (cU (aI (f k "_law_quarters") (aB (aA 0) (aB (aA 1) aD)))) (bT 4) (dJ (aA 3) (aA 4) (cD aD))) (aH (bV (cU (aI (f k "_law_rims") (aB (aA 0) (aB (aA 1) aD)))) (bT 5) (F0 k)) (aH (aT 8 (aI oH (aB (aA 3) aD))) (aH (aT 9 (pW (aA 8) (bW (aB (mC (.int 1)) (aB (mC (.int 0)) (aB (mC (.int 0)) (aB (mC (.int 1)) (aB (mC (.int 0)) (aB (mC (.int 0)) aD))))))))) (aH (aT 10 (cD (aB (aA 8) aD))) (aH (pK qC (a8 (aC (aR b4) (aA 10) (cD aD))) (F5 k)) (aZ (aA 9))))))))) [aX a,aX b,aX c,aY,aY,aY,aY,aY,aY,aY,aY,aY,aY,aY] d):=by kernel_rfl
theorem TL(k:Nat)(a b c:D)(d:Hm):f (k+1) "_law_lines" [a,b,c] d=fin ((aZ (eW (jF (aB (mC (.int 1)) (aB (aA 2) aD))) (a8 (aC jN (aC a7 (aC dG (aI (f k "_law_number") (aB (aA 0) (aB (aC bI (aA 1) (aA 3)) aD))) (mC (.int 16))) (mC (.int 3))) (mC (.int 0)))) (aC bO (mC (.int 4)) (aA 3)))) [aX a,aX b,aX c] d):=by kernel_rfl
theorem TM(k:Nat)(a b c:D)(d:Hm):f (k+1) "_law_grid" [a,b,c] d=fin ((aH (aT 3 (aI (f k "_law_lines") (aB (aA 0) (aB (mC (.int 10)) (aB (aA 1) aD))))) (aH (aT 4 (aI (f k "_law_lines") (aB (aA 0) (aB (mC (.int 20)) (aB (aA 2) aD))))) (aH (aT 5 (cD aD)) (aH (bV (cU (aI (f k "_law_rims") (aB (aA 1) (aB (aA 2) aD)))) (bT 6) (aH (fE (aA 6) (cP [7,8])) (bU (iE (fD (a8 (aC (aR b3) (aC a7 (aA 7) (mC (.int 4))) (mC (.int 0)))) (fD (a8 (aC (aR b3) (aC a7 (aA 8) (mC (.int 4))) (mC (.int 2)))) (a8 (aC (cK b3) (aA 7) (aA 3))))) (fD (a8 (aC (aR b3) (aC a7 (aA 8) (mC (.int 4))) (mC (.int 0)))) (fD (a8 (aC (aR b3) (aC a7 (aA 7) (mC (.int 4))) (mC (.int 2)))) (a8 (aC (cK b3) (aA 8) (aA 4)))))) (eD (dH fF (aA 5) (aB (aA 6) aD))) bZ))) (aH (aT 9 (aI (f k "_law_ways") (aB (aA 1) (aB (aA 2) (aB (aA 5) aD))))) (aH (aT 10 fJ) (aH (bV (cU (aI iJ (aB (aA 9) aD))) (bT 11) (F6 k)) (aZ (bW (aB (aA 9) (aB (aA 10) aD))))))))))) [aX a,aX b,aX c,aY,aY,aY,aY,aY,aY,aY,aY,aY,aY] d):=by kernel_rfl
theorem TN(k:Nat)(a b:D)(c:Hm):f (k+1) "_law_drawn" [a,b] c=fin ((aH (aT 2 (aC bI (mC (.int 1)) (aC a7 (aA 1) (mC (.int 3))))) (aH (aT 3 (aC bI (mC (.int 1)) (aC a7 (aC dG (aA 1) (mC (.int 3))) (mC (.int 3))))) (aH (bU (a8 (aC (aR b3) (aC a7 (aC dG (aA 1) (mC (.int 9))) (mC (.int 3))) (mC (.int 1)))) (aH (aT 2 (aC bI (mC (.int 3)) (aC a7 (aA 1) (mC (.int 4))))) (aH (aT 3 (aC bI (mC (.int 1)) (aC a7 (aC dG (aA 1) (mC (.int 4))) (mC (.int 2))))) (aH (bU (a8 (aC (aR b3) (aC a7 (aC dG (aA 1) (mC (.int 27))) (mC (.int 2))) (mC (.int 1)))) (pE 2 3 (aB (aA 3) (aB (aA 2) aD))) bZ) (aZ (aC bI (bW (aB (aA 2) (aB (aA 3) aD))) (aI (f k "_law_grid") (aB (aA 0) (aB (aA 2) (aB (aA 3) aD))))))))) bZ) (aZ (aC bI (bW (aB (aA 2) (aB (aA 3) aD))) (aI (f k "_law_grown") (aB (aA 0) (aB (aA 2) (aB (aA 3) (aB (mC (.int 2)) (aB (aC a7 (aC dG (aA 1) (mC (.int 27))) (mC (.int 5))) aD))))))))))) [aX a,aX b,aY,aY] c):=by kernel_rfl
theorem TQ(k:Nat)(a b c:D)(d:Hm):f (k+1) "_law_stirred" [a,b,c] d=fin ((aH (aT 3 fJ) (aH (d9 0 (bV (eA (aA 0)) (bT 4) (dJ (aA 3) (aA 4) (aI mW (aB (aC aJ (aA 0) (aA 4)) aD)))) cJ) (aH (aT 5 (eW (cU (aI iJ (aB (aA 0) aD))) (a8 (aC jN (aI eZ (aB (aC aJ (aA 0) (aA 10)) aD)) (mC (.int 1)))) (aA 10))) (aH (bV (lF (aB (aA 2) aD)) (bT 6) (aH (aT 7 (aI (f k "_law_number") (aB (aA 1) (aB (aC bI (mC (.int 31)) (aA 6)) aD)))) (bU (a8 (aC (aR b4) (aA 5) (cD aD))) F7 bZ))) (aZ (aA 3)))))) [aX a,aX b,aX c,aY,aY,aY,aY,aY,aY,aY] d):=by kernel_rfl
theorem TR(k:Nat)(a b c d:D)(e:Hm):f (k+1) "_law_carried" [a,b,c,d] e=fin ((aH (aT 4 (bW (aB (mC (.int 1)) (aB (mC (.int 0)) (aB (mC (.int 0)) (aB (mC (.int 1)) (aB (mC (.int 0)) (aB (mC (.int 0)) aD)))))))) (aH (bV (cU (aA 2)) (bT 5) (F8 k)) (aH (aT 7 fJ) (aH (d9 0 (bV (eA (aA 0)) (bT 8) (F9 k)) cJ) (aH (aT 9 fJ) (aH (d9 1 (bV (eA (aA 1)) (bT 10) (Ga k)) cJ) (aZ (bW (aB (aA 7) (aB (aA 9) aD)))))))))) [aX a,aX b,aX c,aX d,aY,aY,aY,aY,aY,aY,aY,aY] e):=by kernel_rfl
theorem TU(k:Nat)(a:D)(b:Hm):f (k+1) "_law_other" [a] b=fin ((aZ (gT (tY 2) (cU (aA 0)) fS (bW (aB (aA 1) (aB (k5 (a8 (aC (aR b3) (aA 2) (mC (.str "v")))) (mC (.str "h")) (mC (.str "v"))) aD))))) [aX a] b):=by kernel_rfl
theorem TV(k:Nat)(a:D)(b:Hm):f (k+1) "law" [a] b=fin ((aH (aT 1 (aI (f k "_law_number") (aB (aA 0) (aB (mC (.int 0)) aD)))) (aH (fE (aI (f k "_law_drawn") (aB (aA 0) (aB (aA 1) aD))) (cP [2,3,4,5])) (aH (aT 6 (aC aJ (cD (aB (aC a7 (aC dG (aA 1) (mC (.int 135))) (mC (.int 4))) (aB (aC a7 (aC dG (aA 1) (mC (.int 135))) (mC (.int 30))) aD))) (aI mN (aB (aC (aR b3) (aC a7 (aC dG (aA 1) (mC (.int 9))) (mC (.int 3))) (mC (.int 1))) aD)))) (aH (aT 5 (aI (f k "_law_stirred") (aB (aA 5) (aB (aA 0) (aB (aA 6) aD))))) (aH (aT 7 (aI (f k "sheet_of") (aB (aA 2) (aB (aA 3) (aB (eW (cU (aI (f k "_law_creased") (aB (aA 4) (aB (aA 2) (aB (aA 3) aD))))) fS (bW (aB (aA 14) (aB (mC (.str "o")) aD)))) aD))))) (aH (aT 8 (eW (lF (aB (aC a7 (aI (f k "_law_number") (aB (aA 0) (aB (mC (.int 8)) aD))) (mC (.int 4))) aD)) fS (aI (f k "_law_number") (aB (aA 0) (aB (aC bI (mC (.int 61)) (aA 14)) aD))))) (aH (aT 9 (aC (aR b3) (aC a7 (aI (f k "_law_number") (aB (aA 0) (aB (mC (.int 9)) aD))) (mC (.int 2))) (mC (.int 1)))) (aH (fE (aI (f k "_law_carried") (aB (aA 4) (aB (aA 5) (aB (aA 8) (aB (aA 9) aD))))) (cP [10,11])) (Gf k))))))))) [aX a,aY,aY,aY,aY,aY,aY,aY,aY,aY,aY,aY,aY,aY] b):=by kernel_rfl
theorem w_mul4{z:Int}{a:Hm}{Q:jz}:W (bO (.int 4) (.int z) a) Q↔Q (.int (4*z),a):=lW (.inl ⟨by decide,by decide⟩)
theorem w_mod2{z:Int}{a:Hm}{Q:jz}:W (a7 (.int z) (.int 2) a) Q↔Q (.int (z%2),a):=eH (by decide)
theorem w_mod4{z:Int}{a:Hm}{Q:jz}:W (a7 (.int z) (.int 4) a) Q↔Q (.int (z%4),a):=eH (by decide)
theorem w_div4{z:Int}{a:Hm}{Q:jz}:W (dG (.int z) (.int 4) a) Q↔Q (.int (z/4),a):=hG (by decide) (by decide)
theorem TX:(2:Nat)<=W8:=by decide
theorem eB{a b:D}:([a,b]:List D).length<=W8:=TX
theorem TY:(1:Nat)<=W8:=by decide
theorem oM{a:D}:([a]:List D).length<=W8:=TY
noncomputable def j7:D->Int
 |.int i=>i|_=>0
theorem vM{lo:Int}{n:Nat}{d:D}(h:d∈fL lo n):∃j:Nat,j<n/\d=.int (lo+(j:Int)):=by unfold fL at h;obtain⟨j,a,rfl⟩:=W0.mp h;exact⟨j,YR.mp a,rfl⟩
theorem AW{t:MT}{A B C:MS}{c:aG}{d a:Hm}{b:Bool}{Q:jz}(h:t c d=aX (b,a))(h1:b=b4->W (fin (aH A C c a)) Q)(g:b=b3->W (fin (aH B C c a)) Q):W (fin (aH (bU t A B) C c d)) Q:=by
 cases b
 ·have e:aH (bU t A B) C c d=aH B C c a:=by unfold aH bU;rw[h];rfl
  rw[e];exact g rfl
 ·have e:aH (bU t A B) C c d=aH A C c a:=by unfold aH bU;rw[h];rfl
  rw[e];exact h1 rfl
theorem vO{a C:MS}{e c:aG}{d b:Hm}{Q:jz}(h:a e d=aX (.nx,c,b))(k:W (fin (C c b)) Q):W (fin (aH a C e d)) Q:=by unfold aH;rw[h];exact k
theorem TZ{g:MF}{b:MA}{d:aG}{c a:Hm}{ds:List D}{Q:jz}(h:b d c=aX (ds,a))(k:W (g ds a) Q):W (aI g b d c) Q:=by unfold aI;rw[h];exact k
theorem T1{g:D->D->Hm->jk}{a b:ME}{e:aG}{h c d:Hm}{x y:D}{Q:jz}(h1:a e h=aX (x,c))(i:b e c=aX (y,d))(k:W (g x y d) Q):W (aC g a b e h) Q:=by unfold aC;rw[h1,Xi,i];exact k
theorem T3{m:ME}{b:aG}{a:Hm}{Q:jz}(k:W (m b a) Q):W (fin (aZ m b a)) Q:=W_fin.mpr (w_mRet.mpr (bP k λ_ q=>q))
section
variable{α:Type}{i:Nat}{m:ME}{ms:MA}{g:MF}{t:MT}{A B C:MS}{ρ:aG}{μ μ':Hm}{ds:List D}{Q:jz}{R:Fl×aG×Hm->Prop}
theorem cX{o:jk}{a:Option (Fl×aG×Hm)}(e:o=fin a)(h:W a λp=>match p.1 with|.rt d=>Q (d,p.2.2)|.nx=>Q (.non,p.2.2)|_=>False):W o Q:=e▸W_fin.mpr h
theorem bG(h:W (m ρ μ) λp=>W (C (ρ.set i (aX p.1)) p.2) R):W (aH (aT i m) C ρ μ) R:=w_mSeq.mpr (w_mSet.mpr h)
theorem fM(h:W (A ρ μ) λp=>p.1=.nx/\W (C p.2.1 p.2.2) R):W (aH A C ρ μ) R:=w_mSeq.mpr (bP h λp q=>by rw[q.1];exact q.2)
theorem AX(h:W (m ρ μ) λp=>W (C ρ p.2) R):W (aH (eD m) C ρ μ) R:=w_mSeq.mpr (w_mDrop.mpr h)
theorem cY(h:W (m ρ μ) λp=>R (.rt p.1,ρ,p.2)):W (aZ m ρ μ) R:=w_mRet.mpr h
theorem a9(h:ms ρ μ=aX (ds,μ'))(k:W (g ds μ') Q):W (aI g ms ρ μ) Q:=w_mCall.mpr ⟨_,h,k⟩
theorem c6(h:W (ms ρ μ) λp=>W (g p.1 p.2) Q):W (aI g ms ρ μ) Q:=w_mCall.mpr h
theorem aW{Q:List D×Hm->Prop}(h:W (m ρ μ) λp=>W (ms ρ p.2) λq=>Q (p.1::q.1,q.2)):W (aB m ms ρ μ) Q:=w_mCons.mpr h
theorem Gi(h:W (m ρ μ) λp=>W (g [p.1] p.2) Q):W (aI g (aB m aD) ρ μ) Q:=w_mCall.mpr (w_mCons.mpr (bP h λ_ q=>⟨_,rfl,q⟩))
theorem AY(h:W (t ρ μ) λp=>p.1=b3/\W (aH B C ρ p.2) R):W (aH (bU t A B) C ρ μ) R:=w_mSeq.mpr (w_mIfS.mpr (bP h λp q=>by rw[if_neg (by rw[q.1];exact Xo)];exact w_mSeq.mp q.2))
theorem vP{T:Bool×Hm->Prop}(h:W (t ρ μ) λp=>T (!p.1,p.2)):W (j9 t ρ μ) T:=w_mNotT.mpr h
theorem jZ{T:Bool×Hm->Prop}{b:Bool}(h:W (m ρ μ) λp=>p.1=.bl b/\T (b,p.2)):W (fG m ρ μ) T:=w_mTru.mpr (bP h λp ⟨e,q⟩=>by rw[e];exact w_truB.mpr q)
theorem AZ(h:W (C ρ μ) R):W (aH bZ C ρ μ) R:=w_mSeq.mpr (w_mNext.mpr h)
theorem cZ{T:Bool×Hm->Prop}(h:W (m ρ μ) λp=>∃b,p.1=.bl b/\T (b,p.2)):W (a8 m ρ μ) T:=w_mTest.mpr (bP h λp ⟨b,e,q⟩=>by rw[e];exact q)
theorem T4{s t:MT}{T:Bool×Hm->Prop}(h:W (s ρ μ) λp=>p.1=b3/\W (t ρ p.2) T):W (iE s t ρ μ) T:=w_mOrT.mpr (bP h λp q=>by rw[if_neg (by rw[q.1];exact Xo)];exact q.2)
theorem bB{h:D->D->Hm->jk}{a b:ME}{c d:Hm}{x y:D}(h1:a ρ μ=aX (x,c))(e:b ρ c=aX (y,d))(k:W (h x y d) Q):W (aC h a b ρ μ) Q:=w_mOp.mpr ⟨_,h1,_,e,k⟩
theorem aL{h:D->D->Hm->jk}{a b:ME}(k:W (a ρ μ) λp=>W (b ρ p.2) λq=>W (h p.1 q.1 q.2) Q):W (aC h a b ρ μ) Q:=w_mOp.mpr k
end
noncomputable def eP(p e:Int×Int):Int×Int:=
 if e.1%2=1 then(if e.1%4=e.2%4 then(p.2+(e.1-e.2),p.1-(e.1-e.2))else(e.1+e.2-p.2,e.1+e.2-p.1))else if e.2%4=0 then(p.1,2*e.2-p.2)else(2*e.1-p.1,p.2)
noncomputable def dW:D->Int×Int
 |.tup [.int x,.int y]=>(x,y)|_=>(0,0)
theorem r8(p:Int×Int->Bool)(l:jq):((l.map PP).filter λd=>p (dW d)).map (λd=>d)=(l.filter p).map PP:=by
 rw[List.map_id'];induction l with
 |nil=>rfl|cons a l b=>
  have e:(a6d PP (a::l)).filter (λd=>p (dW d))=if p a then PP a::(l.map PP).filter (λd=>p (dW d))else(l.map PP).filter λd=>p (dW d):=by rw[Xa,a1P];rfl
  rw[e,b,a1P];split<;>rfl
theorem Gj{d:D}{l:jq}(h:d∈l.map PP):∃x y,d=P x y:=by obtain⟨p,_,rfl⟩:=W0.mp h;exact⟨p.1,p.2,rfl⟩
theorem A2{n:Nat}{i:Int}(a:0<=i)(h:i<n):iU n i=aX i.toNat:=by unfold iU;rw[if_pos a,if_pos h]
theorem Gk{a:List Int}{i:Int}(b:0<=i)(h:i<a.length):atI (a.map D.int) i=aX (.int (a.getD i.toNat 0)):=by
 unfold atI;rw[WO,A2 b h,Xi,W6];have hi:i.toNat<a.length:=by omega
 simp[X8,hi]
theorem Gm{xs:List D}{i:Int}{d:D}{a:Hm}{Q:jz}(h:atI xs i=aX d):W (aJ (.rol xs) (.int i) a) Q↔Q (d,a):=by
 have:aJ (.rol xs) (.int i) a=aX (d,a):=by simp only[aJ,iF,bK,Xi,h,Xm]
 rw[this];exact W_some
theorem T5{a:Hm}{b:Nat}{ns:List Int}{Q:jz}(e:a[b]?=aX (.lst [])):W (aR b3 (.rol (ns.map D.int)) (.loc b) a) Q↔Q (.bl (ns==[]),a):=by
 have c:d8 a (.rol (ns.map D.int))=aX (.lst (ns.map D.int)):=rfl;have d:d8 a (.loc b)=aX (.lst (([]:List Int).map D.int)):=by simp only[d8,e];rfl
 have:cG 8 a (.rol (ns.map D.int)) (.loc b)=aX (ns==[]):=by show(d8 a (.rol (ns.map D.int))).bind (λx=>(d8 a (.loc b)).bind λy=>i8 (cG 7 a) x y)=_;rw[c,d];exact FK 6 a ns []
 unfold aR;rw[this];exact W_some
structure Ly where
 a:Int
 b:Int
 c:Int
 d:Int
 e:Int
 g:Int
 deriving DecidableEq
noncomputable abbrev LD(A:Ly):D:=.tup [.int A.a,.int A.b,.int A.c,.int A.d,.int A.e,.int A.g]
noncomputable def Dih(A:Ly):Prop:=(A.b=0/\A.c=0/\(A.a=1\/A.a=-1)/\(A.d=1\/A.d=-1))\/(A.a=0/\A.d=0/\(A.b=1\/A.b=-1)/\(A.c=1\/A.c=-1))
theorem Dih.sm{A:Ly}(h:Dih A):(-1<=A.a/\A.a<=1)/\(-1<=A.b/\A.b<=1)/\(-1<=A.c/\A.c<=1)/\(-1<=A.d/\A.d<=1):=by unfold Dih at h;omega
noncomputable def aF(A:Ly)(p:Int×Int):Int×Int:=(A.a*p.1+A.b*p.2+A.e,A.c*p.1+A.d*p.2+A.g)
noncomputable def bH(A B:Ly):Ly:=⟨B.a*A.a+B.b*A.c,B.a*A.b+B.b*A.d,B.c*A.a+B.d*A.c,B.c*A.b+B.d*A.d,B.a*A.e+B.b*A.g+B.e,B.c*A.e+B.d*A.g+B.g⟩
noncomputable def iL(A:Ly):Ly:=⟨A.a,A.c,A.b,A.d,-(A.a*A.e+A.c*A.g),-(A.b*A.e+A.d*A.g)⟩
noncomputable def c7:Ly:=⟨1,0,0,1,0,0⟩
noncomputable def fY(e:Int×Int):Ly:=
 ⟨(eP (1,0) e).1-(eP (0,0) e).1,(eP (0,1) e).1-(eP (0,0) e).1,(eP (1,0) e).2-(eP (0,0) e).2,(eP (0,1) e).2-(eP (0,0) e).2,(eP (0,0) e).1,(eP (0,0) e).2⟩
noncomputable def dC(A:Ly):Int:=A.a*A.d-A.b*A.c
theorem Ly.ext'{A B:Ly}(h1:A.a=B.a)(a:A.b=B.b)(b:A.c=B.c)(c:A.d=B.d)(d:A.e=B.e)(e:A.g=B.g):A=B:=by cases A;cases B;simp_all
theorem Gn(e:Int×Int):Dih (fY e):=by obtain⟨x,y⟩:=e;unfold Dih fY eP;dsimp only;split<;>split<;>dsimp only<;>omega
theorem Gp(e:Int×Int):dC (fY e)=-1:=by
 have h:=Gn e;obtain⟨x,y⟩:=e;unfold dC fY eP;dsimp only;split<;>split<;>dsimp only
 ·rw[show(0:Int)+(x-y)-(0+(x-y))=0 by omega,show(1:Int)+(x-y)-(0+(x-y))=1 by omega,show(1:Int)-(x-y)-(0-(x-y))=1 by omega,show(0:Int)-(x-y)-(0-(x-y))=0 by omega];rfl
 ·rw[show x+y-0-(x+y-0)=0 by omega,show x+y-1-(x+y-0)=-1 by omega];rfl
 ·rw[show(1:Int)-0=1 by rfl,show 2*y-1-(2*y-0)=-1 by omega,show(0:Int)-0=0 by rfl,show 2*y-0-(2*y-0)=0 by omega];rfl
 ·rw[show 2*x-1-(2*x-0)=-1 by omega,show(1:Int)-0=1 by rfl,show 2*x-0-(2*x-0)=0 by omega,show(0:Int)-0=0 by rfl];rfl
theorem r9(e p:Int×Int):aF (fY e) p=eP p e:=by
 obtain⟨x,y⟩:=e;obtain⟨u,v⟩:=p;unfold aF fY eP;dsimp only;split<;>split<;>dsimp only
 ·rw[show(0:Int)+(x-y)-(0+(x-y))=0 by omega,show(1:Int)+(x-y)-(0+(x-y))=1 by omega,show(1:Int)-(x-y)-(0-(x-y))=1 by omega,show(0:Int)-(x-y)-(0-(x-y))=0 by omega];refine XH ?_ ?_<;>dsimp only<;>omega
 ·rw[show x+y-0-(x+y-0)=0 by omega,show x+y-1-(x+y-0)=-1 by omega];refine XH ?_ ?_<;>dsimp only<;>omega
 ·rw[show(1:Int)-0=1 by rfl,show 2*y-1-(2*y-0)=-1 by omega,show(0:Int)-0=0 by rfl,show 2*y-0-(2*y-0)=0 by omega];refine XH ?_ ?_<;>dsimp only<;>omega
 ·rw[show 2*x-1-(2*x-0)=-1 by omega,show(1:Int)-0=1 by rfl,show 2*x-0-(2*x-0)=0 by omega,show(0:Int)-0=0 by rfl];refine XH ?_ ?_<;>dsimp only<;>omega
theorem jH(A B:Ly)(p:Int×Int):aF (bH A B) p=aF B (aF A p):=by unfold aF bH;refine XH ?_ ?_<;>dsimp only<;>grind
theorem sC(A B:Ly):dC (bH A B)=dC A*dC B:=by unfold dC bH;dsimp only;grind
theorem T6(A:Ly):bH A c7=A:=by unfold bH c7;exact Ly.ext' (by dsimp only;omega) (by dsimp only;omega) (by dsimp only;omega) (by dsimp only;omega) (by dsimp only;omega) (by dsimp only;omega)
theorem sD(A B E:Ly):bH (bH A B) E=bH A (bH B E):=by unfold bH;refine Ly.ext' ?_ ?_ ?_ ?_ ?_ ?_<;>dsimp only<;>grind
theorem A3:Dih c7:=.inl ⟨rfl,rfl,.inl rfl,.inl rfl⟩
theorem sE{A:Ly}(h:Dih A):∃e g,A=⟨1,0,0,1,e,g⟩\/A=⟨1,0,0,-1,e,g⟩\/A=⟨-1,0,0,1,e,g⟩\/A=⟨-1,0,0,-1,e,g⟩\/A=⟨0,1,1,0,e,g⟩\/A=⟨0,1,-1,0,e,g⟩\/A=⟨0,-1,1,0,e,g⟩\/A=⟨0,-1,-1,0,e,g⟩:=by obtain⟨a,b,c,d,e,g⟩:=A;refine⟨e,g,?_⟩;simp only[Dih]at h;rcases h with⟨rfl,rfl,rfl|rfl,rfl|rfl⟩|⟨rfl,rfl,rfl|rfl,rfl|rfl⟩<;>simp
theorem m8{x y:Int}(a:x=1\/x=-1)(b:y=1\/y=-1):x*y=1\/x*y=-1:=by rcases a with rfl|rfl<;>rcases b with rfl|rfl<;>decide
theorem sF{A B:Ly}(hA:Dih A)(hB:Dih B):Dih (bH A B):=by
 unfold Dih bH;dsimp only;rcases hA with⟨c,d,a,b⟩|⟨c,d,a,b⟩<;>rcases hB with⟨k1,k2,k3,k4⟩|⟨k1,k2,k3,k4⟩<;>rw[c,d,k1,k2]<;>simp only[a4v,a4t,a1k,a4u,true_and]
 ·exact .inl ⟨m8 k3 a,m8 k4 b⟩
 ·exact .inr ⟨m8 k3 b,m8 k4 a⟩
 ·exact .inr ⟨m8 k3 a,m8 k4 b⟩
 ·exact .inl ⟨m8 k3 b,m8 k4 a⟩
theorem oN{A:Ly}(hA:Dih A)(p:Int×Int):aF (iL A) (aF A p)=p:=by obtain⟨e,g,h⟩:=sE hA;rcases h with rfl|rfl|rfl|rfl|rfl|rfl|rfl|rfl<;>(refine XH ?_ ?_<;>dsimp only[aF,iL]<;>omega)
theorem T7{A:Ly}(hA:Dih A):bH (iL A) A=c7:=by obtain⟨e,g,h⟩:=sE hA;rcases h with rfl|rfl|rfl|rfl|rfl|rfl|rfl|rfl<;>(refine Ly.ext' ?_ ?_ ?_ ?_ ?_ ?_<;>dsimp only[iL,bH,c7]<;>omega)
theorem Gq{A B:Ly}(h:∀p,aF A p=aF B p):A=B:=by have a:=h (0,0);have b:=h (1,0);have c:=h (0,1);unfold aF at a b c;simp only[a5A]at a b c;exact Ly.ext' (by omega) (by omega) (by omega) (by omega) (by omega) (by omega)
theorem sG(p:Int×Int):aF c7 p=p:=by unfold aF c7;refine XH ?_ ?_<;>dsimp only<;>omega
theorem vQ{a b c d e g:D}:([a,b,c,d,e,g]:List D).length<=W8:=by show(6:Nat)<=W8;decide
theorem jI{i j:Int}(h:-1<=i/\i<=1){a:Hm}{Q:jz}:W (bO (.int i) (.int j) a) Q↔Q (.int (i*j),a):=lW (.inl ⟨by omega,by omega⟩)
theorem A4(k:Nat)(A:Ly)(hA:Dih A)(x y:Int)(a:Hm)(Q:jz):W (f (k+1) "led" [LD A,P x y] a) Q↔Q (PP (aF A (x,y)),a):=by obtain⟨b,c,d,e⟩:=hA.sm;rw[S6,W_fin];simp only[w_mSeq,w_mSet,w_mRet,w_mTup,w_mCons,cV,w_mOp,b7,cH,eN,w_it20,w_it21,FD,FE,FF,FG,Ss,Su,X7,Yc,jI b,jI c,jI d,jI e,w_addI,eB,true_and];rfl
theorem T8(k:Nat)(A:Ly)(hA:Dih A)(a:Hm)(Q:jz):W (f (k+1) "is_turned" [LD A] a) Q↔Q (.bl (dC A==-1),a):=by obtain⟨b,c,d,e⟩:=hA.sm;rw[S7,W_fin];simp only[w_mRet,w_mOp,b7,eN,FA,FD,FE,FF,FG,jI b,jI c,w_subI,w_eqI];rfl
noncomputable def j0(lo:Int)(n m:Nat):jq:=(X9 n).flatMap λ(i:Nat)=>(X9 m).map λ(j:Nat)=>(lo+(i:Int),lo+(j:Int))
noncomputable def j4(lo x:Int)(m:Nat):jq:=(X9 m).map λ(j:Nat)=>(x,lo+(j:Int))
theorem Gs(lo:Int)(n m:Nat):j0 lo (n+1) m=j0 lo n m++j4 lo (lo+(n:Int)) m:=by unfold j0 j4;rw[a2b,Zl];simp
theorem Gu(lo x:Int)(m:Nat):j4 lo x (m+1)=j4 lo x m++[(x,lo+(m:Int))]:=by unfold j4;rw[a2b,Xj];rfl
theorem Gv(lo x:Int)(m:Nat):(j4 lo x m).length=m:=by unfold j4;simp
theorem Gw(lo:Int)(m:Nat):∀n:Nat,(j0 lo n m).length=n*m
 |0=>by simp[j0]
 |n+1=>by rw[Gs,W4,Gw lo m n,Gv,a2V]
theorem Gx{b:Hm}{a:Nat}{c c':C}:(b.set a c).set a c'=b.set a c':=a2O ..
theorem bY{b:Hm}{a:Nat}{c c':C}(h:b[a]?=aX c):(b.set a c')[a]?=aX c':=by rw[XY (WR.mp h).1]
theorem vT(a:Hm)(c c':C):(a++[c]).set a.length c'=a++[c']:=by rw[a2c _ _ (WY _)];simp
theorem A5{b:Hm}{a:Nat}{c:C}(h:b[a]?=aX c):b.set a c=b:=by obtain⟨d,rfl⟩:=WR.mp h;exact List.set_getElem_self d
noncomputable abbrev Gy:MS:=eD (dH fF (aA 2) (aB (bW (aB (aA 3) (aB (aA 4) aD))) aD))
theorem T9(T:MT)(c:Int->Int->Bool)(e g:D)(a:Nat)(x:Int)(q:∀y b Q,W (T [aX e,aX g,aX (.loc a),aX (.int x),aX (.int y)] b) Q↔Q (c x y,b))(lo:Int)(m:Nat)(ps:jq)(r:ps.length+m<=1000)(b:Hm)(h:b[a]?=aX (.lst (ps.map PP)))(o:Option D)(Q:Fl×aG×Hm->Prop)
  (d:∀o,Q (.nx,[aX e,aX g,aX (.loc a),aX (.int x),o],b.set a (.lst ((ps++(j4 lo x m).filter λp=>c p.1 p.2).map PP)))):W (dS (gQ lo m) (bT 4) (bU T Gy bZ) (m+1) 0 [aX e,aX g,aX (.loc a),aX (.int x),o] b) Q:=by
 refine oJ (λi l j=>i<=m/\j=b.set a (.lst ((ps++(j4 lo x i).filter λp=>c p.1 p.2).map PP))/\∃o,l=[aX e,aX g,aX (.loc a),aX (.int x),o]) ⟨XJ _,?_,o,rfl⟩ ?_ ?_
 ·simp only[j4,a5X,ZT,Z1,Yh];exact(A5 h).symm
 ·rintro i l k hi ⟨_,rfl,o,rfl⟩;refine⟨_,rfl,?_⟩;simp only[X7,Yc,w_mIfS];rw[q];cases n:c x (lo+(i:Int))with
  |false=>simp only[Xp,if_false,w_mNext];refine⟨hi,?_,_,rfl⟩;rw[Gu,Yd];simp[n]|true=>
   simp only[if_true,w_mDrop];refine hU ?_;simp only[b7,cH];refine⟨hV (bY h),?_⟩;simp only[w_mCons,cV,w_mTup,b7,cH,eB,true_and];refine(m7 (bY h) ?_).mpr ?_
   ·have:=XW (λp=>c p.1 p.2) (j4 lo x i);rw[Gv]at this;rw[WO,W4,Xh];omega
   refine⟨hi,?_,_,rfl⟩;rw[Gx,Gu,Yd];simp[n,PP,P]
 ·rintro l k ⟨_,rfl,o,rfl⟩;exact d o
theorem Gz(T:MT)(g:Int->Int->Bool)(d e:D)(a:Nat)(r:MI)(lo:Int)(m:Nat)(hit:∀o1 c b Q,W (r [aX d,aX e,aX (.loc a),o1,c] b) Q↔Q (gQ lo m,m+1,b))(u:∀x y b Q,W (T [aX d,aX e,aX (.loc a),aX (.int x),aX (.int y)] b) Q↔Q (g x y,b))(n:Nat)(w:n*m+m<=900)(b:Hm)(q:b[a]?=aX (.lst []))(Q:Fl×aG×Hm->Prop)
  (h:∀o1 c,Q (.nx,[aX d,aX e,aX (.loc a),o1,c],b.set a (.lst (((j0 lo n m).filter λp=>g p.1 p.2).map PP)))):W (dS (gQ lo n) (bT 3) (bV r (bT 4) (bU T Gy bZ)) (n+1) 0 [aX d,aX e,aX (.loc a),aY,aY] b) Q:=by
 refine oJ (λi l j=>i<=n/\j=b.set a (.lst (((j0 lo i m).filter λp=>g p.1 p.2).map PP))/\∃o1 c,l=[aX d,aX e,aX (.loc a),o1,c]) ⟨XJ _,?_,aY,aY,rfl⟩ ?_ ?_
 ·simp only[j0,a5X,a1O,Z1,ZT];exact(A5 q).symm
 ·rintro i l k hi ⟨_,rfl,o1,c,rfl⟩;refine⟨_,rfl,?_⟩;simp only[X7,Yc,w_mForI];rw[hit];refine T9 T g d e a _ (u _) lo m _ ?_ _ (bY q) _ _ λo=>?_
  ·have s:=XW (λp=>g p.1 p.2) (j0 lo i m);rw[Gw]at s;have v:i*m<=n*m:=Nat.mul_le_mul_right _ (ZZ hi);omega
  ·refine⟨hi,?_,_,_,rfl⟩;rw[Gx,Gs,Yd]
 ·rintro l k ⟨_,rfl,o1,c,rfl⟩;exact h o1 c
noncomputable def aO(p:Int×Int):List Int:=[p.1,p.2]
theorem GA:∀ps:jq,rA (ps.map PP)=aX (ps.map aO)
 |[]=>rfl|p::ps=>by rw[Xa];show(c5 (PP p)).bind (λk=>(rA (ps.map PP)).map (k::·))=_;rw[GA ps];rfl
theorem Ua{ps:jq}(h:ps≠[]):nU (ps.map PP)=none:=by
 cases ps with
 |nil=>exact absurd rfl h|cons p ps=>rfl
theorem GB{a:Type}(l:List a)(d:a):(X9 l.length).map (λi=>l.getD i d)=l:=by refine a5G (by simp) λi c b=>?_;simp[X8,b]
theorem kM{es:jq}{i:Nat}{d:D}(h:(es.map PP)[i]?=aX d):∃p,es[i]?=aX p/\d=PP p:=by rw[W6]at h;obtain⟨p,a,b⟩:=WS.mp h;exact⟨p,a,b.symm⟩
theorem bM(q:Int×Int):c5 (PP q)=aX (aO q):=rfl
noncomputable abbrev Kv:=List ((Int×Int)×Ly)
noncomputable def iM(kvs:Kv):jx:=kvs.map λp=>(aO p.1,LD p.2)
theorem A6{l:jx}(nd:(l.map (·.1)).Nodup){k:List Int}{d:D}(h:(k,d)∈l):bS l k=aX d:=by
 induction l with
 |nil=>cases h|cons p l a=>
  rw[Xa,XN]at nd;unfold bS;rw[ZA];rcases Xr.mp h with h|h
  ·rw[<- h];simp
  ·have:decide (p.1=k)=false:=decide_eq_false λz=>nd.1 (W0.mpr ⟨_,h,z.symm⟩);rw[this];exact a nd.2 h
theorem m9{p q:Int×Int}(h:aO p=aO q):p=q:=by unfold aO at h;injection h with h1 h2;injection h2 with h2;exact XH h1 h2
theorem w_gTup6{k:aG}{i1 i2 i3 h i j:Nat}{a b c d e g:D}{l:Hm}{Q:aG->Prop}:W (cP [i1,i2,i3,h,i,j] (.tup [a,b,c,d,e,g]) k l) Q↔Q ((((((k.set i1 (aX a)).set i2 (aX b)).set i3 (aX c)).set h (aX d)).set i (aX e)).set j (aX g)):=W_some
theorem Ub{kvs:Kv}(nd:(kvs.map (·.1)).Nodup):((iM kvs).map (·.1)).Nodup:=by
 have e:(iM kvs).map (·.1)=(kvs.map (·.1)).map aO:=by unfold iM;rw[W7,W7];rfl
 rw[e];exact a0T _ (λa b c z=>c (m9 z)) nd
noncomputable abbrev Gr:=List ((Int×Int)×jq)
noncomputable def dM(G:Gr)(p q:Int×Int):Gr:=if(G.map (·.1)).contains p then G.map (λg=>if g.1=p then(g.1,g.2++[q])else g)else G++[(p,[q])]
noncomputable abbrev Zr:=List ((Int×Int)×jq×Nat)
noncomputable def GZ(Z:Zr):Gr:=Z.map λz=>(z.1,z.2.1)
noncomputable def aN(Z:Zr):jx:=Z.map λz=>(aO z.1,D.loc z.2.2)
structure GI(μ0 μ:Hm)(a:Nat)(Z:Zr):Prop where
 pre:μ0<+:μ
 lo:μ0.length<=a
 dic:μ[a]?=aX (.dT (aN Z))
 kd:(Z.map (·.1)).Nodup
 bd:(Z.map (·.2.2)).Nodup
 at_:∀z∈Z,μ0.length<=z.2.2/\μ[z.2.2]?=aX (.lst (z.2.1.map PP))
theorem jJ{Z:Zr}{z:(Int×Int)×jq×Nat}(d:(Z.map (·.1)).Nodup)(h:z∈Z):bS (aN Z) (aO z.1)=aX (.loc z.2.2):=by
 refine A6 ?_ (W0.mpr ⟨z,h,rfl⟩);have e:(aN Z).map (·.1)=(Z.map (·.1)).map aO:=by unfold aN;rw[W7,W7];rfl
 rw[e];exact a0T _ (λa b c x=>c (m9 x)) d
theorem A7{Z:Zr}{p:Int×Int}(h:p∉Z.map (·.1)):bS (aN Z) (aO p)=none:=by
 unfold bS;rw[a1q.mpr]
 ·rfl
 ·intro x a;obtain⟨z,b,rfl⟩:=W0.mp a;rw[decide_eq_true_iff];exact λe=>h (W0.mpr ⟨z,b,m9 e⟩)
theorem kN{Z:Zr}{p:Int×Int}(h:p∈Z.map (·.1)):∃z∈Z,z.1=p:=by obtain⟨z,a,b⟩:=W0.mp h;exact⟨z,a,b⟩
theorem GC{Z:Zr}(b:(Z.map (·.1)).Nodup){z y:(Int×Int)×jq×Nat}(hz:z∈Z)(c:y∈Z)(e:z.1=y.1):z=y:=by
 induction Z with
 |nil=>cases hz|cons x Z d=>
  rw[Xa,XN]at b;rcases Xr.mp hz with a|a<;>rcases Xr.mp c with h2|h2
  ·rw[a,h2]
  ·exact(b.1 (W0.mpr ⟨y,h2,by rw[<- a];exact e.symm⟩)).elim
  ·exact(b.1 (W0.mpr ⟨z,a,by rw[<- h2];exact e⟩)).elim
  ·exact d b.2 a h2
theorem GD{Z:Zr}(b:(Z.map (·.2.2)).Nodup){z y:(Int×Int)×jq×Nat}(hz:z∈Z)(c:y∈Z)(e:z.2.2=y.2.2):z=y:=by
 induction Z with
 |nil=>cases hz|cons x Z d=>
  rw[Xa,XN]at b;rcases Xr.mp hz with a|a<;>rcases Xr.mp c with h2|h2
  ·rw[a,h2]
  ·exact(b.1 (W0.mpr ⟨y,h2,by rw[<- a];exact e.symm⟩)).elim
  ·exact(b.1 (W0.mpr ⟨z,a,by rw[<- h2];exact e⟩)).elim
  ·exact d b.2 a h2
theorem dX(Z:Zr):(GZ Z).map (·.1)=Z.map (·.1):=by unfold GZ;rw[W7];rfl
theorem Uc{Z:Zr}{p q:Int×Int}(h:p∈Z.map (·.1)):dM (GZ Z) p q=GZ (Z.map λz=>if z.1=p then(z.1,z.2.1++[q],z.2.2)else z):=by
 unfold dM;rw[dX,if_pos (XA.mpr h)];unfold GZ;rw[W7,W7];refine Xs λz _=>?_;show(if z.1=p then(z.1,z.2.1++[q])else(z.1,z.2.1))=_;by_cases e:z.1=p
 ·simp[e]
 ·simp[e]
theorem Ud{Z:Zr}{p q:Int×Int}{b:Nat}(h:p∉Z.map (·.1)):dM (GZ Z) p q=GZ (Z++[(p,[q],b)]):=by unfold dM;rw[dX,if_neg (λz=>h (XA.mp z))];unfold GZ;rw[Xj];rfl
theorem GI.more{μ0 c b:Hm}{a:Nat}{Z:Zr}(I:GI μ0 c a Z)(h:c<+:b):GI μ0 b a Z:=⟨I.pre.trans h,I.lo,aE h I.dic,I.kd,I.bd,λz hz=>⟨(I.at_ z hz).1,aE h (I.at_ z hz).2⟩⟩
theorem GI.ne{μ0 c:Hm}{a:Nat}{Z:Zr}(I:GI μ0 c a Z){z:(Int×Int)×jq×Nat}(hz:z∈Z):z.2.2≠a:=λe=>by have b:=(I.at_ z hz).2;rw[e,I.dic]at b;cases b
theorem GI.hit{μ0 c:Hm}{a:Nat}{Z:Zr}(I:GI μ0 c a Z){z:(Int×Int)×jq×Nat}(hz:z∈Z)(q:Int×Int) :
  GI μ0 (c.set z.2.2 (.lst (z.2.1.map PP++[PP q]))) a (Z.map λy=>if y.1=z.1 then(y.1,y.2.1++[q],y.2.2)else y):=by
 have i:(Z.map λy=>if y.1=z.1 then(y.1,y.2.1++[q],y.2.2)else y).map (·.1)=Z.map (·.1):=by rw[W7];refine Xs λy _=>?_;show(if y.1=z.1 then(y.1,y.2.1++[q],y.2.2)else y).1=y.1;split<;>rfl
 have h:(Z.map λy=>if y.1=z.1 then(y.1,y.2.1++[q],y.2.2)else y).map (·.2.2)=Z.map (·.2.2):=by rw[W7];refine Xs λy _=>?_;show(if y.1=z.1 then(y.1,y.2.1++[q],y.2.2)else y).2.2=y.2.2;split<;>rfl
 have j:aN (Z.map λy=>if y.1=z.1 then(y.1,y.2.1++[q],y.2.2)else y)=aN Z:=by unfold aN;rw[W7];refine Xs λy _=>?_;show(aO (if y.1=z.1 then(y.1,y.2.1++[q],y.2.2)else y).1,D.loc (if y.1=z.1 then(y.1,y.2.1++[q],y.2.2)else y).2.2)=_;split<;>rfl
 refine⟨cL I.pre (I.at_ z hz).1 _,I.lo,?_,by rw[i];exact I.kd,by rw[h];exact I.bd,λy k=>?_⟩
 ·rw[j,WT (I.ne hz)];exact I.dic
 ·obtain⟨x,b,rfl⟩:=W0.mp k;obtain⟨d,g⟩:=I.at_ x b;by_cases e:x.1=z.1
  ·have:x=z:=GC I.kd b hz e;subst this;rw[if_pos rfl];refine⟨d,?_⟩;show(c.set x.2.2 _)[x.2.2]?=_;rw[bY g,Xj];rfl
  ·rw[if_neg e];refine⟨d,?_⟩;rw[WT λw=>e (by rw[GD I.bd b hz w.symm])];exact g
theorem GF{Z:Zr}{p:Int×Int}{qs:jq}{b:Nat}(h:p∉Z.map (·.1)):c9 (aN Z) (aO p) (.loc b)=aN (Z++[(p,qs,b)]):=by unfold c9;rw[A7 h,if_neg (by simp)];unfold aN;rw[Xj];rfl
theorem GI.new{μ0 j:Hm}{a b:Nat}{Z:Zr}(I:GI μ0 j a Z){p:Int×Int}(k:p∉Z.map (·.1)){qs:jq}(h:j[b]?=aX (.lst (qs.map PP)))(m:μ0.length<=b)(n:∀z∈Z,z.2.2≠b) :
  GI μ0 (j.set a (.dT (c9 (aN Z) (aO p) (.loc b)))) a (Z++[(p,qs,b)]):=by
 have i:b≠a:=λe=>by rw[e,I.dic]at h;cases h
 refine⟨cL I.pre I.lo _,I.lo,by rw[bY I.dic,GF k],?_,?_,λz c=>?_⟩
 ·rw[Xj,Yt];exact⟨I.kd,by simp,λx g y d e=>by
   simp only[Xa,ZT,Xe]at d;rw[e,d]at g;exact k g⟩
 ·rw[Xj,Yt];exact⟨I.bd,by simp,λx g y d e=>by
   simp only[Xa,ZT,Xe]at d;obtain⟨z,c,l⟩:=W0.mp g;exact n z c (by rw[l,e,d])⟩
 ·rcases XS.mp c with c|c
  ·rw[WT (XI (I.ne c))];exact I.at_ z c
  ·rw[Xe.mp c];exact⟨m,by rw[WT (XI i)];exact h⟩
theorem Ue{Z:Zr}{p:Int×Int}{qs:jq}{b:Nat}(h:p∈Z.map (·.1))(d:(Z.map (·.1)).Nodup):c9 (aN Z) (aO p) (.loc b)=aN (Z.map λy=>if y.1=p then(y.1,qs,b)else y):=by
 obtain⟨z,c,e⟩:=kN h;unfold c9;rw[<- e,jJ d c,Option.isSome_some,if_pos rfl];unfold aN;rw[W7,W7];refine Xs λy _=>?_;show(if aO y.1=aO z.1 then(aO y.1,D.loc b)else(aO y.1,D.loc y.2.2))=(aO (if y.1=z.1 then(y.1,qs,b)else y).1,D.loc (if y.1=z.1 then(y.1,qs,b)else y).2.2);by_cases a:y.1=z.1
 ·rw[if_pos (by rw[a]),if_pos a]
 ·rw[if_neg (λw=>a (m9 w)),if_neg a]
theorem n5:∀a b c:List Int,HT.lexLt a b=b4->HT.lexLt b c=b4->HT.lexLt a c=b4
 |[],[],_,h,_=>by cases h
 |[],_::_,[],_,h=>by cases h
 |[],_::_,_::_,_,_=>rfl|_::_,[],_,h,_=>by cases h
 |_::_,_::_,[],_,h=>by cases h
 |x::xs,y::ys,z::zs,e,d=>by
  rw[HT.lexLt_cons]at e d ⊢;by_cases i:x=y
  ·subst i;rw[if_pos rfl]at e;by_cases g:x=z
   ·rw[if_pos g]at d ⊢;exact n5 xs ys zs e d
   ·rw[if_neg g]at d ⊢;exact d
  ·rw[if_neg i]at e;have e:=of_decide_eq_true e;by_cases g:y=z
   ·subst g;rw[if_neg i];exact decide_eq_true e
   ·rw[if_neg g]at d;have d:=of_decide_eq_true d;rw[if_neg (by omega)];exact decide_eq_true (by omega)
theorem A8:∀a b c:List Int,HT.lexLt a b=b4->HT.lexLt a c=b4\/HT.lexLt c b=b4
 |[],[],_,h=>by cases h
 |[],_::_,[],_=>.inr rfl|[],_::_,_::_,_=>.inl rfl|_::_,[],_,h=>by cases h
 |_::_,_::_,[],_=>.inr rfl|x::xs,y::ys,z::zs,h=>by
  rw[HT.lexLt_cons]at h ⊢;rw[HT.lexLt_cons];by_cases e:x=y
  ·subst e;rw[if_pos rfl]at h;by_cases d:x=z
   ·subst d;rw[if_pos rfl,if_pos rfl];exact A8 xs ys zs h
   ·rw[if_neg d,if_neg (XI d),decide_eq_true_iff,decide_eq_true_iff];omega
  ·rw[if_neg e]at h;have h:=of_decide_eq_true h;by_cases d:x=z
   ·subst d;rw[if_neg e];exact .inr (decide_eq_true h)
   ·rw[if_neg d,decide_eq_true_iff];by_cases g:z=y
    ·subst g;exact .inl h
    ·rw[if_neg g,decide_eq_true_iff];omega
theorem mO:∀k:List Int,HT.lexLt k k=b3
 |[]=>rfl|a::k=>by rw[HT.lexLt_cons,if_pos rfl];exact mO k
theorem vU:∀a b:List Int,HT.lexLt a b=b3->HT.lexLt b a=b3->a=b
 |[],[],_,_=>rfl|[],_::_,h,_=>by cases h
 |_::_,[],_,h=>by cases h
 |x::xs,y::ys,c,d=>by
  rw[HT.lexLt_cons]at c d;by_cases e:x=y
  ·subst e;rw[if_pos rfl]at c d;rw[vU xs ys c d]
  ·rw[if_neg e]at c;rw[if_neg (XI e)]at d;have c:=of_decide_eq_false c;have d:=of_decide_eq_false d;omega
theorem GG(l:jx)(i:Nat):(l.getD i ([],.non)).1=(l.map (·.1)).getD i []:=by rw[X8,X8,W6];cases l[i]?<;>rfl
theorem Ug{l:jx}{ks:List (List Int)}(c:0<l.length)(k:(l.map (·.1)).Perm ks)(m:ks.Pairwise λx y=>HT.lexLt y x=b3):(fU l).map (·.1)=ks:=by
 have n:((fU l).map (·.1)).Perm ks:=by
  have p:(fU l).Perm l:=by unfold fU;have p:=(pM (λi j=>HT.lexLt ((l.map (·.1)).getD i []) ((l.map (·.1)).getD j [])) c).map λi=>l.getD i ([],.non);rw[GB]at p;exact p
  exact(p.map _).trans k
 have S:=DT (lt:=HT.lexLt) mO n5 A8 [] (l.map (·.1)) (n:=l.length) c;have d:((fU l).map (·.1)).Pairwise λx y=>HT.lexLt y x=false:=by unfold fU;rw[W7,a0C];refine S.imp λ{i j} h=>?_;show HT.lexLt (l.getD j ([],.non)).1 (l.getD i ([],.non)).1=b3;rw[GG,GG];exact h
 exact a0d (le:=λx y=>HT.lexLt y x=b3) (λa b _ _ e g=>(vU b a e g).symm) d m n
theorem Uh(qs:jq):(qs.map aO).map (λk=>D.tup (k.map D.int))=qs.map PP:=by rw[W7];rfl
theorem GH{b:Hm}{a:Nat}{kvs:jx}{Q:jz}(h:b[a]?=aX (.dT kvs))(h1:kvs.length<64)(c:∀p∈kvs,p.1≠[]):W (iJ [.loc a] b) Q↔Q (.loc b.length,b++[.lst ((fU kvs).map λk=>D.tup (k.1.map D.int))]):=by simp only[iJ,h];rw[if_pos ⟨h1,c⟩];exact W_some
theorem vV{f:D->List D->Hm->jk}{b:ME}{c:MA}{a:aG}{d:Hm}{Q:jz}(h:W (b a d) λp=>pY p.2 p.1=b4/\W (c a p.2) λq=>W (f p.1 q.1 q.2) Q):W (lR f b c a d) Q:=by unfold lR;rw[W_bind];refine bP h λp q=>?_;rw[q.1];exact W_bind.mpr q.2
theorem vW{b:Hm}{a:Nat}{kvs:jx}(h:b[a]?=aX (.dT kvs)):pY b (.loc a)=true:=by simp only[pY,h]
noncomputable def Ui(a:Nat)(Z:Zr)(d b:Hm):Prop:=∀c x,d[c]?=aX x->c≠a->(∀z∈Z,z.2.2≠c)->b[c]?=aX x
theorem Uj{Z:Zr}{p q:Int×Int}{b:Nat}(h:p∉Z.map (·.1)):((Z++[(p,[],b)]:Zr).map λy=>if y.1=p then(y.1,y.2.1++[q],y.2.2)else y)=Z++[(p,[q],b)]:=by
 rw[Xj];have:(Z.map λy=>if y.1=p then(y.1,y.2.1++[q],y.2.2)else y)=Z:=by have e:(Z.map λy=>if y.1=p then(y.1,y.2.1++[q],y.2.2)else y)=Z.map id:=Xs λy a=>if_neg λe=>h (W0.mpr ⟨y,a,e⟩);rw[e,a2i]
 rw[this];simp
theorem fZ(Z:Zr):(aN Z).length=Z.length:=WO ..
theorem GJ{μ0 b:Hm}{a:Nat}{Z:Zr}(I:GI μ0 b a Z)(p q:Int×Int)(K:Z.length<1000)(G:∀z∈Z,z.2.1.length<1000)(Q:jz)
  (H:∀l h,GI μ0 h a l->GZ l=dM (GZ Z) p q->Ui a Z b h->(∀z∈l,(∃y∈Z,y.2.2=z.2.2)\/b.length<=z.2.2)->Q (.non,h)) :
  W (mS (.loc a) [PP p,.loc b.length] (b++[.lst []])) λr=>nV r.2 r.1=b4/\W (fF r.1 [PP q] r.2) Q:=by
 have i:=I.more (aP b (C.lst []));have B:=bA b (C.lst []);have E:μ0.length<=b.length:=I.pre.length_le;have n:∀z∈Z,z.2.2<b.length:=λz d=>(WR.mp (I.at_ z d).2).1;have L:a<b.length:=(WR.mp I.dic).1;have k:∀c x,b[c]?=aX x->(b++[C.lst []])[c]?=aX x:=λc x e=>aE (aP _ _) e;by_cases j:p∈Z.map (·.1)
 ·obtain⟨z,d,rfl⟩:=kN j;simp only[mS,i.dic,bM,Xi,jJ I.kd d];refine W_some.mpr ⟨hV (i.at_ z d).2,(m7 (i.at_ z d).2 (by rw[WO,Xh];have:=G z d;omega)).mpr ?_⟩;refine H _ _ (i.hit d q) (Uc j).symm (λc x e v w=>?_) λy g=>?_
  ·rw[WT (w z d)];exact k c x e
  ·obtain⟨x,J,rfl⟩:=W0.mp g;refine .inl ⟨x,J,?_⟩;split<;>rfl
 ·have m:(aN Z).length<W8:=by rw[fZ,Xh];omega
  simp only[mS,i.dic,bM,Xi,A7 j,if_pos m];have o:=i.new j (qs:=[]) (b:=b.length) B E (λz d=>Xd (n z d));have A:(p,([]:jq),b.length)∈Z++[(p,[],b.length)]:=XS.mpr (.inr (Xe.mpr rfl));have u:=(o.at_ _ A).2;refine W_some.mpr ⟨hV u,(m7 u (by rw[WO,Xh];show(0:Nat)<_;decide)).mpr ?_⟩;have s:=o.hit A q;rw[Uj j]at s;refine H _ _ s (Ud j).symm (λc x e v w=>?_) λy g=>?_
  ·have hc:c<b.length:=(WR.mp e).1;rw[WT (by show b.length≠c;omega),WT (XI v)];exact k c x e
  ·rcases XS.mp g with g|g
   ·exact .inl ⟨y,g,rfl⟩
   ·rw[Xe.mp g];exact .inr (WY _)
noncomputable def cR(g:Int×Int->Int×Int)(qs:jq):Gr:=qs.foldl (λG q=>dM G (g q) q) []
theorem A9{g:Int×Int->Int×Int}{qs:jq}{i:Nat}{q:Int×Int}(h:qs[i]?=aX q):cR g (qs.take (i+1))=dM (cR g (qs.take i)) (g q) q:=by unfold cR;rw[a5r,h,a5u];rfl
theorem Uk(G:Gr)(p q:Int×Int):(dM G p q).length<=G.length+1:=by unfold dM;split<;>simp
theorem Ul{G:Gr}{p q:Int×Int}{n:Nat}(h:∀g∈G,g.2.length<=n):∀g∈dM G p q,g.2.length<=n+1:=by
 intro g a;unfold dM at a;split at a
 ·obtain⟨x,b,rfl⟩:=W0.mp a;have:=h x b;split
  ·simp;omega
  ·omega
 ·rcases XS.mp a with a|a
  ·have:=h g a;omega
  ·rw[Xe.mp a];simp
theorem sH(g:Int×Int->Int×Int)(qs:jq):(cR g qs).length<=qs.length/\∀x∈cR g qs,x.2.length<=qs.length:=by
 suffices ∀(qs:jq)(G:Gr)(n:Nat),G.length<=n->(∀x∈G,x.2.length<=n)->(qs.foldl (λG q=>dM G (g q) q) G).length<=n+qs.length/\∀x∈qs.foldl (λG q=>dM G (g q) q) G,x.2.length<=n+qs.length by have:=this qs [] 0 (WY _) (λx c=>nomatch c);unfold cR;simpa using this
 intro qs;induction qs with
 |nil=>exact λG n b a=>⟨b,a⟩|cons q qs d=>intro G n b a;have:=d (dM G (g q) q) (n+1) (by have:=Uk G (g q) q;omega) (Ul a);rw[Xy,show n+(qs.length+1)=n+1+qs.length by omega];exact this
theorem eI(Z:Zr):(GZ Z).length=Z.length:=WO ..
theorem Ba{Z:Zr}{G:Gr}{n:Nat}(e:GZ Z=G)(h:G.length<=n/\∀x∈G,x.2.length<=n):Z.length<=n/\∀z∈Z,z.2.1.length<=n:=by subst e;exact⟨by rw[<- eI];exact h.1,λz a=>h.2 (z.1,z.2.1) (W0.mpr ⟨z,a,rfl⟩)⟩
theorem Um{F:Int×Int->Ly}{row:jq}(nd:row.Nodup){q:Int×Int}(h:q∈row):bS (iM (row.map λq=>(q,F q))) (aO q)=aX (LD (F q)):=by refine A6 (Ub (by rw[W7];exact(by simpa[Function.comp_def]using nd))) ?_;unfold iM;rw[W7];exact W0.mpr ⟨q,h,rfl⟩
theorem GK(F:Int×Int->Ly)(row:jq):(iM (row.map λq=>(q,F q))).map (·.1)=row.map aO:=by unfold iM;rw[W7,W7];rfl
theorem GL(F:Int×Int->Ly)(row:jq):(iM (row.map λq=>(q,F q))).length=row.length:=by unfold iM;rw[WO,WO]
theorem Uo(a:Hm)(xs:List D):GI a ((a++[C.dT []])++[C.lst xs]) a.length []:=
 ⟨(aP _ _).trans (aP _ _),WY _,aE (aP _ _) (bA _ _),YH,YH,λz b=>nomatch b⟩
theorem Up(k t:Nat)(F:Int×Int->Ly)(O:∀q,Dih (F q))(row qs:jq)(j:row.Perm qs)(X:(qs.map aO).Pairwise λx y=>HT.lexLt y x=b3)(hn:1<=qs.length/\qs.length<64)(nd:qs.Nodup)(c:Hm)(J:c[t]?=aX (.dT (iM (row.map λq=>(q,F q)))))
  (Q:jz)(H:∀a Z b,GI c b a Z->GZ Z=cR (λq=>aF (F q) q) qs->Q (.loc a,b)):W (f (k+2) "stacks" [.loc t] c) Q:=by
 have A:row.Nodup:=j.nodup_iff.mpr nd;have T:row.length=qs.length:=j.length_eq;rw[S8,W_fin];simp only[w_mSeq,w_mSet,w_mDNewT,X7,Yc,w_mForI,w_iSeq,w_mCall,w_mCons,cV,b7,cH];refine(GH (aE (aP _ _) J) (by rw[GL];omega) λp U z=>?_).mpr ?_
 ·have:p.1∈row.map aO:=by rw[<- GK F];exact W0.mpr ⟨p,U,rfl⟩
  obtain⟨x,_,e⟩:=W0.mp this;rw[z]at e;cases e
 have N:(fU (iM (row.map λq=>(q,F q)))).map (λk=>D.tup (k.1.map D.int))=qs.map PP:=by have M:=Ug (l:=iM (row.map λq=>(q,F q))) (by rw[GL];omega) (by rw[GK];exact j.map aO) X;rw[<- Uh,<- M,W7];rfl
 rw[N];refine(fH (bA _ _)).mpr ?_;have R:(c++[C.dT []]).length=c.length+1:=by simp
 have v:=bA (c++[C.dT []]) (C.lst (qs.map PP));have E:=Uo c (qs.map PP);rw[R]at v ⊢;generalize(c++[C.dT []])++[C.lst (qs.map PP)]=μ1 at v E;refine jX (λi s b=>∃Z r,GI c b c.length Z/\GZ Z=cR (λq=>aF (F q) q) (qs.take i)/\b[c.length+1]?=aX (.lst (qs.map PP))/\(∀z∈Z,c.length+1<z.2.2)/\s=[aX (.loc t),aX (.loc c.length),r]) ⟨[],aY,E,rfl,v,(λz m=>nomatch m),rfl⟩ (λi s b h=>let⟨Z,r,_,_,g,_⟩:=h;g) ?_ ?_
 ·rintro i d s B hd ⟨Z,r,I,n,w,l,rfl⟩;obtain⟨q,G,rfl⟩:=kM hd;have o:q∈row:=j.mem_iff.mpr (Xn G);refine⟨[aX (.loc t),aX (.loc c.length),aX (PP q)],rfl,?_⟩;simp only[w_mDrop];refine hU (vV ?_);simp only[b7,cH];refine⟨vW I.dic,?_⟩;simp only[w_mCons,cV,w_mCall,w_mOp,b7,cH,w_mLst];refine(SK (aE I.pre J) (bM q) (Um A o)).mpr ?_;refine(A4 k (F q) (O q) q.1 q.2 _ _).mpr ⟨XJ _,?_⟩;have sm:=Ba n (sH _ _);have Y:=Yx i qs;refine GJ I (aF (F q) q) q (by have:=sm.1;omega) (λz m=>by have:=sm.2 z m;omega) _ λL b K u kp nw=>?_;refine⟨L,aX (PP q),K,by rw[u,n,A9 G],kp _ _ w (by omega) (λz m=>by have:=l z m;omega),λz m=>?_,rfl⟩;rcases nw z m with⟨y,hy,e⟩|e
  ·rw[<- e];exact l y hy
  ·have:=(WR.mp w).1;omega
 ·rintro s B ⟨Z,r,I,n,w,l,rfl⟩;rw[WO,Yj]at n;simp only[w_mRet,b7,cH];exact H _ _ _ I n
noncomputable def eC(k:Int)(p:Int×Int):Int:=if k=0 then p.2 else if k=1 then p.1 else if k=2 then p.1-p.2 else p.1+p.2
noncomputable def bJ(k n:Int):Ly:=if k=0 then⟨1,0,0,-1,0,2*n⟩else if k=1 then⟨-1,0,0,1,2*n,0⟩else if k=2 then⟨0,1,1,0,n,-n⟩else⟨0,-1,-1,0,n,n⟩
theorem oO(k n:Int):Dih (bJ k n):=by
 unfold bJ;split
 ·exact .inl ⟨rfl,rfl,.inl rfl,.inr rfl⟩
 split
 ·exact .inl ⟨rfl,rfl,.inr rfl,.inl rfl⟩
 split
 ·exact .inr ⟨rfl,rfl,.inl rfl,.inl rfl⟩
 ·exact .inr ⟨rfl,rfl,.inr rfl,.inr rfl⟩
theorem sI(k n:Int)(p:Int×Int):aF (bJ k n) (aF (bJ k n) p)=p:=by
 obtain⟨x,y⟩:=p;unfold bJ aF;split
 ·refine XH ?_ ?_<;>dsimp only<;>omega
 split
 ·refine XH ?_ ?_<;>dsimp only<;>omega
 split
 ·refine XH ?_ ?_<;>dsimp only<;>omega
 ·refine XH ?_ ?_<;>dsimp only<;>omega
noncomputable def bD(G:Gr)(p:Int×Int):jq:=match G.find? (λg=>decide (g.1=p))with|some g=>g.2|none=>[]
noncomputable def eQ(G:Gr)(p:Int×Int)(L:jq):Gr:=if(G.map (·.1)).contains p then G.map (λg=>if g.1=p then(g.1,L)else g)else G++[(p,L)]
theorem vX(p:Int×Int):bD [] p=[]:=rfl
theorem f6(g:(Int×Int)×jq)(G:Gr)(p:Int×Int):bD (g::G) p=if g.1=p then g.2 else bD G p:=by
 unfold bD;rw[ZA];by_cases e:g.1=p
 ·rw[if_pos e,decide_eq_true e]
 ·rw[if_neg e,decide_eq_false e]
theorem eT{G:Gr}(a:(G.map (·.1)).Nodup){g:(Int×Int)×jq}(h:g∈G):bD G g.1=g.2:=by
 induction G with
 |nil=>cases h|cons x G b=>
  rw[Xa,XN]at a;rw[f6];rcases Xr.mp h with rfl|h
  ·exact if_pos rfl
  ·rw[if_neg (λe:x.1=g.1=>a.1 (by rw[e];exact W0.mpr ⟨g,h,rfl⟩)),b a.2 h]
theorem kP{G:Gr}{p:Int×Int}(h:p∉G.map (·.1)):bD G p=[]:=by
 induction G with
 |nil=>rfl|cons x G a=>rw[Xa,Xr,not_or]at h;rw[f6,if_neg (λe=>h.1 e.symm),a h.2]
theorem GN{G K:Gr}{p:Int×Int}(h:p∉G.map (·.1)):bD (G++K) p=bD K p:=by
 induction G with
 |nil=>rfl|cons x G a=>rw[Xa,Xr,not_or]at h;rw[Y9,f6,if_neg (λe=>h.1 e.symm),a h.2]
theorem atG_append'{G K:Gr}{p:Int×Int}(h:p∈G.map (·.1)):bD (G++K) p=bD G p:=by
 induction G with
 |nil=>cases h|cons x G a=>
  rw[Y9,f6,f6];by_cases e:x.1=p
  ·rw[if_pos e,if_pos e]
  ·rw[if_neg e,if_neg e];rw[Xa,Xr]at h;exact a (h.resolve_left λw=>e w.symm)
theorem GO(G:Gr)(p:Int×Int)(L:jq):(eQ G p L).map (·.1)=if(G.map (·.1)).contains p then G.map (·.1)else G.map (·.1)++[p]:=by
 unfold eQ;split
 ·rw[W7];refine Xs λg _=>?_;show(if g.1=p then(g.1,L)else g).1=g.1;split<;>rfl
 ·rw[Xj];rfl
theorem GP{G:Gr}{p:Int×Int}{L:jq}(a:(G.map (·.1)).Nodup):((eQ G p L).map (·.1)).Nodup:=by
 rw[GO];split
 ·exact a
 ·rename_i h;rw[Yt];exact⟨a,by simp,λx b y c e=>h (XA.mpr (by rw[Xe.mp c]at e;exact e▸b))⟩
theorem putG_mem{G:Gr}{p q:Int×Int}{L:jq}:q∈(eQ G p L).map (·.1)↔q∈G.map (·.1)\/q=p:=by
 rw[GO];split
 ·rename_i h;exact⟨.inl,λz=>z.elim id λe=>e▸XA.mp h⟩
 ·rw[XS,Xe]
theorem Bb(G:Gr)(p q:Int×Int)(L:jq):bD (eQ G p L) q=if q=p then L else bD G q:=by
 unfold eQ;split
 ·rename_i h;have h:=XA.mp h;induction G with
  |nil=>cases h|cons x G d=>
   rw[Xa,f6,f6];by_cases e:x.1=p
   ·rw[if_pos e];by_cases a:q=p
    ·rw[if_pos a,if_pos (by rw[e,a])]
    ·rw[if_neg a,if_neg (by show ¬ x.1=q;rw[e];exact λw=>a w.symm),if_neg (by rw[e];exact λw=>a w.symm)];by_cases b:p∈G.map (·.1)
     ·rw[d (XA.mpr b) b,if_neg a]
     ·have:(G.map λg=>if g.1=p then(g.1,L)else g)=G:=by have w:(G.map λg=>if g.1=p then(g.1,L)else g)=G.map id:=Xs λg i=>if_neg λe=>b (W0.mpr ⟨g,i,e⟩);rw[w,a2i]
      rw[this]
   ·rw[if_neg e];rw[Xa,Xr]at h;have c:=h.resolve_left λw=>e w.symm;rw[d (XA.mpr c) c];by_cases a:x.1=q
    ·rw[if_pos a,if_pos a,if_neg (by rw[<- a];exact e)]
    ·rw[if_neg a,if_neg a]
 ·rename_i h;have h:p∉G.map (·.1):=λz=>h (XA.mpr z);by_cases e:q=p
  ·rw[if_pos e,e,GN h,f6,if_pos rfl]
  ·rw[if_neg e];by_cases b:q∈G.map (·.1)
   ·exact atG_append' b
   ·rw[GN b,f6,if_neg (λw=>e w.symm),vX,kP b]
theorem Uq{G:Gr}{p:Int×Int}(h:bD G p≠[]):p∈G.map (·.1):=Zt λz=>h (kP z)
structure Pil(qs:jq)(f:Int×Int->Int×Int)(G:Gr):Prop where
 kd:(G.map (·.1)).Nodup
 ne:∀g∈G,g.2≠[]
 pm:∀p,(bD G p).Perm (qs.filter λq=>decide (f q=p))
theorem Pil.key{qs:jq}{f:Int×Int->Int×Int}{G:Gr}(h:Pil qs f G){p:Int×Int}:p∈G.map (·.1)↔∃q∈qs,f q=p:=by
 constructor
 ·intro d;obtain⟨g,c,rfl⟩:=W0.mp d;have a:=h.pm g.1;rw[eT h.kd c]at a;obtain⟨q,b⟩:=a3V _ (h.ne g c);have:=XD.mp (a.mem_iff.mp b);exact⟨q,this.1,of_decide_eq_true this.2⟩
 ·rintro⟨q,b,rfl⟩;refine Uq λe=>?_;have a:=h.pm (f q);rw[e]at a;have:q∈([]:jq):=a.mem_iff.mpr (XD.mpr ⟨b,decide_eq_true rfl⟩);cases this
theorem GQ{g:Type}(a b:g->Bool)(hd:∀x,a x=b4->b x=b3):∀l:List g,(l.filter λx=>a x||b x).Perm (l.filter a++l.filter b)
 |[]=>.nil|x::l=>by
  have e:=GQ a b hd l;cases c:a x with
  |true=>rw[XQ (by simp[c]),XQ c,XR (by simp[hd x c])];exact e.cons x|false=>
   cases d:b x with
   |true=>rw[XQ (by simp[d]),XR (by simp[c]),XQ d];exact(e.cons x).trans a3e.symm|false=>rw[XR (by simp[c,d]),XR (by simp[c]),XR (by simp[d])];exact e
noncomputable def jK(mv:Int×Int->Bool)(G:Gr):Gr:=G.filter λg=>!mv g.1
noncomputable def gH(mv:Int×Int->Bool)(M:Int×Int->Int×Int)(G:Gr):Gr:=(G.filter λg=>mv g.1).map λg=>(M g.1,g.2.reverse)
noncomputable def gJ(a:Bool)(S:Gr)(g:(Int×Int)×jq):Gr:=eQ S g.1 (if a then bD S g.1++g.2 else g.2++bD S g.1)
noncomputable def Ur(mv:Int×Int->Bool)(M:Int×Int->Int×Int)(a:Bool)(G:Gr):Gr:=(gH mv M G).foldl (gJ a) (jK mv G)
theorem GR{mv:Int×Int->Bool}(p:Int×Int):∀G:Gr,bD (jK mv G) p=if mv p then[]else bD G p
 |[]=>by cases mv p<;>rfl
 |g::G=>by
  have a:=GR (mv:=mv) p G;unfold jK at a ⊢;rw[f6];cases h:mv g.1 with
  |true=>
   rw[XR (by simp[h]),a];by_cases e:g.1=p
   ·rw[<- e,h];rfl
   ·rw[if_neg e]
  |false=>
   rw[XQ (by simp[h]),f6];by_cases e:g.1=p
   ·rw[if_pos e,if_pos e,<- e,h];rfl
   ·rw[if_neg e,if_neg e,a]
theorem GS{mv:Int×Int->Bool}{M:Int×Int->Int×Int}(a:∀p,M (M p)=p)(p:Int×Int):∀G:Gr,bD (gH mv M G) p=if mv (M p)then(bD G (M p)).reverse else[]
 |[]=>by cases mv (M p)<;>rfl
 |g::G=>by
  have b:=GS (mv:=mv) a p G;unfold gH at b ⊢;rw[f6];have hi:M g.1=p↔g.1=M p:=⟨λe=>by rw[<- e,a],λe=>by rw[e,a]⟩;cases h:mv g.1 with
  |true=>
   rw[XQ (by simp[h]),Xa,f6];by_cases e:g.1=M p
   ·rw[if_pos (hi.mpr e),if_pos e,<- e,h];rfl
   ·rw[if_neg (λw=>e (hi.mp w)),if_neg e,b]
  |false=>
   rw[XR (by simp[h]),b];by_cases e:g.1=M p
   ·rw[<- e,h];rfl
   ·rw[if_neg e]
theorem GU(a:Bool):∀(K S:Gr),(K.map (·.1)).Nodup->(S.map (·.1)).Nodup->(∀g∈S,g.2≠[])->(∀g∈K,g.2≠[])->
  ((K.foldl (gJ a) S).map (·.1)).Nodup/\(∀g∈K.foldl (gJ a) S,g.2≠[])/\∀p,(bD (K.foldl (gJ a) S) p).Perm (bD S p++bD K p)
 |[],S,_,hs,ns,_=>⟨hs,ns,λp=>by rw[vX,Yh];exact .refl _⟩|g::K,S,hk,hs,ns,nk=>by
  rw[Xa,XN]at hk;rw[a0Y];have b:((gJ a S g).map (·.1)).Nodup:=GP hs;have i:∀x∈gJ a S g,x.2≠[]:=λx c=>by
   have e:bD (gJ a S g) x.1=x.2:=eT b c;rw[<- e];unfold gJ;rw[Bb];have k:=nk g (Xf ..);split
   ·cases a
    ·exact λw=>k (a4n.mp w).1
    ·exact λw=>k (a4n.mp w).2
   ·rename_i d;have:x.1∈(gJ a S g).map (·.1):=W0.mpr ⟨x,c,rfl⟩;rcases putG_mem.mp this with h|h
    ·obtain⟨y,j,l⟩:=W0.mp h;rw[<- l,eT hs j];exact ns y j
    ·exact absurd h d
  obtain⟨m,n,o⟩:=GU a K (gJ a S g) hk.2 b i λx c=>nk x (Xc _ c);refine⟨m,n,λp=>(o p).trans ?_⟩;rw[f6];unfold gJ;rw[Bb];by_cases e:p=g.1
  ·rw[if_pos e,if_pos e.symm,e,kP hk.1,Yh];cases a
   ·exact List.perm_append_comm
   ·exact .refl _
  ·rw[if_neg e,if_neg (λw=>e w.symm)]
theorem Us{qs:jq}{f:Int×Int->Int×Int}{G:Gr}(h:Pil qs f G){mv:Int×Int->Bool}{M:Int×Int->Int×Int}(d:∀p,M (M p)=p)(c:Bool) :
  Pil qs (λq=>if mv (f q)then M (f q)else f q) (Ur mv M c G):=by
 have j:∀(l:List ((Int×Int)×jq)),l.Sublist G->(l.map (·.1)).Nodup:=λl v=>(v.map _).nodup h.kd;have o:((gH mv M G).map (·.1)).Nodup:=by
  have e:(gH mv M G).map (·.1)=((G.filter λg=>mv g.1).map (·.1)).map M:=by unfold gH;rw[W7,W7];rfl
  rw[e];exact a0T _ (λa b k w=>k (by rw[<- d a,w,d])) (j _ a0l)
 obtain⟨r,s,u⟩:=GU c (gH mv M G) (jK mv G) o (j _ a0l) (λg m=>h.ne g (XD.mp m).1) (λg m=>by
  obtain⟨y,x,rfl⟩:=W0.mp m;exact λw=>h.ne y (XD.mp x).1 (List.reverse_eq_nil_iff.mp w))
 refine⟨r,s,λp=>(u p).trans ?_⟩;rw[GR,GS d];have e:(qs.filter λq=>decide ((if mv (f q)then M (f q)else f q)=p))=qs.filter λq=>(!mv (f q)&&decide (f q=p))||(mv (f q)&&decide (f q=M p)):=by
  congr 1;funext q;have hi:M (f q)=p↔f q=M p:=⟨λe=>by rw[<- e,d],λe=>by rw[e,d]⟩;cases mv (f q)with
  |true=>simp[hi]|false=>simp
 rw[e];refine List.Perm.trans ?_ (GQ _ _ (λq n=>?_) qs).symm
 ·refine List.Perm.append ?_ ?_
  ·cases i:mv p with
   |true=>rw[if_pos rfl,a0E.mpr];intro q _ w;rw[WZ]at w;have e:=of_decide_eq_true w.2;rw[e,i]at w;exact Xo w.1|false=>
    rw[if_neg Xo];have:(qs.filter λq=>!mv (f q)&&decide (f q=p))=qs.filter λq=>decide (f q=p):=by
     congr 1;funext q;by_cases e:f q=p
     ·simp[e,i]
     ·simp[e]
    rw[this];exact h.pm p
  ·cases i:mv (M p)with
   |true=>
    rw[if_pos rfl];have:(qs.filter λq=>mv (f q)&&decide (f q=M p))=qs.filter λq=>decide (f q=M p):=by
     congr 1;funext q;by_cases e:f q=M p
     ·simp[e,i]
     ·simp[e]
    rw[this];exact(a5s _).trans (h.pm (M p))
   |false=>rw[if_neg Xo,a0E.mpr];intro q _ w;rw[WZ]at w;have e:=of_decide_eq_true w.2;rw[e,i]at w;exact Xo w.1
 ·rw[WZ]at n;simp only[Z4]at n;rw[n.1];rfl
theorem Ut{p:Int×Int}{u:Int}(a:0<=u/\u<4):atI [D.int p.2,.int p.1,.int (p.1-p.2),.int (p.1+p.2)] u=aX (.int (eC u p)):=by
 have:u=0\/u=1\/u=2\/u=3:=by omega
 rcases this with rfl|rfl|rfl|rfl<;>rfl
theorem sJ(k:Nat)(p:Int×Int)(u:Int)(c:0<=u/\u<4)(b:Hm)(Q:jz)(H:∀a,b<+:a->Q (.int (eC u p),a)):W (f (k+1) "_law_value" [PP p,.int u] b) Q:=by rw[Tv];exact vO rfl (T3 (T1 rfl rfl ((cW (bA _ _) (Ut c)).mpr (H _ (aP _ _)))))
theorem Uu{n u:Int}(a:0<=u/\u<4):atI [LD ⟨1,0,0,-1,0,2*n⟩,LD ⟨-1,0,0,1,2*n,0⟩,LD ⟨0,1,1,0,n,-n⟩,LD ⟨0,-1,-1,0,n,n⟩] u=aX (LD (bJ u n)):=by
 have:u=0\/u=1\/u=2\/u=3:=by omega
 rcases this with rfl|rfl|rfl|rfl<;>rfl
theorem Bc(k:Nat)(u n:Int)(c:0<=u/\u<4)(b:Hm)(Q:jz)(H:∀a,b<+:a->Q (LD (bJ u n),a)):W (f (k+1) "_law_mirror" [.int u,.int n] b) Q:=by rw[Tx];refine vO rfl (W_fin.mpr ?_);simp only[w_mRet,w_mOp,w_mLst,w_mTup,w_mCons,cV,eN,FA,b7,cH,X7,Yc];refine⟨vQ,vQ,eB,?_⟩;refine(vK (aE (aP _ _) (bA _ _)) (bA _ _) (by show(4:Nat)<=W8;decide)).mpr ?_;exact(cW (bA _ _) (Uu c)).mpr (H _ (((aP _ _).trans (aP _ _)).trans (aP _ _)))
theorem vY(k:Nat)(A:Ly)(hA:Dih A)(p:Int×Int)(a:Hm)(Q:jz):W (f (k+1) "_law_led" [LD A,PP p] a) Q↔Q (PP (aF A p),a):=by obtain⟨b,c,d,e⟩:=hA.sm;rw[Tz,W_fin];simp only[w_mSeq,w_mAsg,b7,w_gTup6,w_gTup2,X7,Yc,w_mRet,w_mTup,w_mCons,cV,w_mOp,cH,jI b,jI c,jI d,jI e,w_addI,eB,true_and];rfl
theorem GV{xs a:List D}{b:Hm}{Q:jz}(h:xs≠[]/\a≠[]/\xs.length+a.length<=W8):W (bI (.tup xs) (.tup a) b) Q↔Q (.tup (xs++a),b):=by simp only[bI];rw[if_pos h];exact W_some
theorem w_eqBl{a:Hm}{x y:Bool}{Q:jz}:W (aR b3 (.bl x) (.bl y) a) Q↔Q (.bl (x==y),a):=W_some
theorem qD{b:aG}{a:Hm}{i j p q:Nat}{x y z w:Int}{Q:jz}(hi:aA i b a=aX (.int x,a))(c:aA j b a=aX (.int y,a))(d:aA p b a=aX (.int z,a))(e:aA q b a=aX (.int w,a))(g:-1<=x/\x<=1)(hz:-1<=z/\z<=1)(H:Q (.int (x*y+z*w),a)):W (aC bI (aC bO (aA i) (aA j)) (aC bO (aA p) (aA q)) b a) Q:=
 aL (bB hi c ((jI g).mpr (bB d e ((jI hz).mpr (w_addI.mpr H)))))
theorem vZ(k:Nat)(A B:Ly)(hA:Dih A)(hB:Dih B)(a:Hm)(Q:jz):W (f (k+1) "_law_then" [LD A,LD B] a) Q↔Q (LD (bH A B),a):=by
 obtain⟨b,c,d,g⟩:=hB.sm;have w:W (f (k+1) "_law_then" [LD A,LD B] a) λr=>r=(LD (bH A B),a):=by refine cX (TB k _ _ a) (w_mSeq.mpr (w_mAsg.mpr ⟨_,rfl,w_gTup6.mpr (w_mSeq.mpr (w_mAsg.mpr ⟨_,rfl,w_gTup6.mpr ?_⟩))⟩));dsimp only[X7,Yc];refine bG (w_mTup.mpr (aW (qD rfl rfl rfl rfl b c (aW (qD rfl rfl rfl rfl b c (aW (qD rfl rfl rfl rfl d g (aW (qD rfl rfl rfl rfl d g ⟨_,rfl,by show(4:Nat)<=W8;decide,?_⟩)))))))));refine cY (aL ⟨_,rfl,w_mTup.mpr (aW (aL (qD rfl rfl rfl rfl b c ⟨_,rfl,w_addI.mpr (aW (aL (qD rfl rfl rfl rfl d g ⟨_,rfl,w_addI.mpr ⟨_,rfl,eB,(GV ⟨by simp,by simp,by show(6:Nat)<=W8;decide⟩).mpr rfl⟩⟩)))⟩)))⟩)
 obtain⟨r,e,rfl⟩:=w;rw[e];exact W_some
noncomputable def iN(ns:List Int)(i:Int):Int:=if i<ns.length then ns.getD i.toNat 0 else if ns=[]then(i+3)*(i+3)*48271 else(i+3)*(i+3)*48271+ns.getD (i%(ns.length:Int)).toNat 0*(i+5)
theorem Bd(k:Nat)(ns:List Int)(i:Int)(hi:0<=i/\i<=100)(c:Hm)(Q:jz)(H:∀b,c<+:b->Q (.int (iN ns i),b)):W (f (k+1) "_law_given" [.rol (ns.map D.int),.int i] c) Q:=by
 unfold iN at H;refine cX (Tq k _ _ c) (w_mSeq.mpr (w_mIfS.mpr (cZ (bB rfl rfl (w_ltI.mpr ⟨_,rfl,?_⟩)))));rw[WO];by_cases h:i<ns.length
 ·rw[if_pos h]at H;rw[if_pos (decide_eq_true h)];exact w_mRet.mpr (bB rfl rfl ((Gm (Gk hi.1 h)).mpr (H _ (Xx _))))
 ·rw[if_neg h]at H;rw[if_neg (by rw[decide_eq_false h];exact Xo)];refine w_mNext.mpr (bG (aL (aL (aL ⟨_,rfl,_,rfl,w_addI.mpr (aL ⟨_,rfl,_,rfl,w_addI.mpr ((lW (.inl (by omega))).mpr ⟨_,rfl,(lW (.inr (by decide))).mpr ?_⟩)⟩)⟩))));refine w_mRet.mpr (w_mIfE.mpr (cZ (aL ⟨_,rfl,w_mLst.mpr ⟨_,rfl,XJ _,(T5 (bA _ _)).mpr ⟨_,rfl,?_⟩⟩⟩)));by_cases a:ns=[]
  ·rw[if_pos a]at H;rw[if_pos (show(ns==[])=b4 by rw[a];rfl)];exact⟨_,rfl,H _ (aP _ _)⟩
  ·have e:(ns==[])=false:=by
    cases ns with
    |nil=>exact absurd rfl a|cons=>rfl
   have g:0<ns.length:=a0k.mpr a;rw[if_neg a]at H;rw[if_neg (by show ¬ (ns==[])=b4;rw[e];exact Xo)];have d:0<=i%(ns.length:Int)/\i%(ns.length:Int)<ns.length:=⟨a0t _ (by omega),Z0 _ (by omega)⟩;refine aL ⟨_,rfl,aL (aL ⟨_,rfl,aL ⟨_,rfl,a9 rfl (w_lenR.mpr ?_)⟩⟩)⟩;rw[WO];refine(eH (by omega)).mpr ((Gm (Gk d.1 d.2)).mpr (aL ⟨_,rfl,_,rfl,w_addI.mpr ((lW (.inr (by omega))).mpr (w_addI.mpr ?_))⟩));exact H _ (aP _ _)
noncomputable def sL(c:Int):Nat->Int
 |0=>c|n+1=>sL c n/1000000
noncomputable def Be(ns:List Int)(i:Int):Int:=(iN ns i%1000003+7*i+3)*(iN ns i%1000003+7*i+3)*48271%2147483647
noncomputable def j5(ns:List Int)(i:Int):Int:=if iN ns 0%2=1/\0<sL (iN ns 1) i.toNat then sL (iN ns 1) i.toNat%1000000 else Be ns i
theorem GW(ns:List Int)(i:Int):0<=j5 ns i/\j5 ns i<2147483647:=by
 unfold j5;split
 ·omega
 ·exact⟨a0t _ (by decide),Z0 _ (by decide)⟩
theorem w_ten6{a:Hm}{Q:jz}:W (k8 (.int 10) (.int 6) a) Q↔Q (.int 1000000,a):=(FC ⟨by decide,by decide,by decide⟩).trans (by rfl)
theorem GX(k:Nat)(ns:List Int)(i:Int)(hi:0<=i/\i<=100){x y:Option D}(b:Hm)(R:Fl×aG×Hm->Prop)(H:∀e a,b<+:a->R (.rt (.int (Be ns i)),e,a)) :
  W ((aH (aT 2 (aC bI (aC bI (aC a7 (aI (f (k+1) "_law_given") (aB (aA 0) (aB (aA 1) aD))) (mC (.int 1000003))) (aC bO (mC (.int 7)) (aA 1))) (mC (.int 3)))) (aZ (aC a7 (aC bO (aC bO (aA 2) (aA 2)) (mC (.int 48271))) (mC (.int 2147483647))))) [aX (.rol (ns.map D.int)),aX (.int i),x,y] b) R:=by
 refine bG (aL (aL (aL (a9 rfl (Bd k ns i hi _ _ λd c=>?_)))));unfold Be at H;generalize iN ns i=v at H;have g:=a0t v (show(1000003:Int)≠0 by decide);have h:=Z0 v (show(0:Int)<1000003 by decide);refine⟨_,rfl,(eH (by decide)).mpr (aL ⟨_,rfl,_,rfl,(lW (.inl (by decide))).mpr (w_addI.mpr ⟨_,rfl,w_addI.mpr ?_⟩)⟩)⟩;refine cY (aL (aL (aL ⟨_,rfl,_,rfl,(lW (.inl ?_)).mpr ⟨_,rfl,(lW (.inr (by decide))).mpr ⟨_,rfl,(eH (by decide)).mpr ?_⟩⟩⟩)))
 ·exact⟨by omega,by omega⟩
 ·exact H _ _ c
theorem oP(k:Nat)(ns:List Int)(i:Int)(hi:0<=i/\i<=100)(e:Hm)(Q:jz)(H:∀a,e<+:a->Q (.int (j5 ns i),a)):W (f (k+2) "_law_number" [.rol (ns.map D.int),.int i] e) Q:=by
 unfold j5 at H;refine cX (Tr (k+1) _ _ e) (w_mSeq.mpr (w_mIfS.mpr (cZ (aL (aL (a9 rfl (Bd k ns 0 (by decide) _ _ λm g=>⟨_,rfl,w_mod2.mpr ⟨_,rfl,w_eqI.mpr ⟨_,rfl,?_⟩⟩⟩)))))));by_cases d:iN ns 0%2=1
 ·rw[if_pos (show(iN ns 0%2==1)=b4 from beq_iff_eq.mpr d)];refine bG (a9 rfl (Bd k ns 1 (by decide) _ _ λn l=>fM ?_));refine w_mForI.mpr ((vJ (j:=0)).mpr ⟨_,rfl,by omega,?_⟩);refine oJ (λj b a=>∃x,b=[aX (.rol (ns.map D.int)),aX (.int i),aX (.int (sL (iN ns 1) j)),x]/\e<+:a) ⟨aY,rfl,g.trans l⟩ ?_ ?_
  ·rintro j b a _ ⟨x,rfl,p⟩;exact⟨_,rfl,w_mSet.mpr (aL ⟨_,rfl,aL ⟨_,rfl,_,rfl,w_ten6.mpr ((hG (by decide) (by decide)).mpr ⟨_,rfl,p⟩)⟩⟩)⟩
  ·rintro b a ⟨x,rfl,p⟩;refine⟨rfl,w_mIfS.mpr (cZ (aL ⟨_,rfl,_,rfl,w_gtI.mpr ⟨_,rfl,?_⟩⟩))⟩;by_cases h:0<sL (iN ns 1) i.toNat
   ·rw[if_pos ⟨d,h⟩]at H;rw[if_pos (decide_eq_true h)];refine w_mRet.mpr (aL ⟨_,rfl,aL ⟨_,rfl,_,rfl,w_ten6.mpr ((eH (by decide)).mpr ?_)⟩⟩);exact H _ p
   ·rw[if_neg (λz=>h z.2)]at H;rw[if_neg (by rw[decide_eq_false h];exact Xo)];exact w_mNext.mpr (GX k ns i hi _ _ λ_ a c=>H a (p.trans c))
 ·rw[if_neg (λz=>d z.1)]at H;rw[if_neg (show ¬ (iN ns 0%2==1)=b4 from λz=>d (beq_iff_eq.mp z))];exact w_mNext.mpr (GX k ns i hi _ _ λ_ a c=>H a (g.trans c))
theorem Uv(k:Nat)(ns:List Int)(i:Int)(hi:0<=i/\i<=100)(b:Hm)(Q:jz)(H:∀v a,0<=v->v<2147483647->b<+:a->Q (.int v,a)):W (f (k+2) "_law_number" [.rol (ns.map D.int),.int i] b) Q:=
 oP k ns i hi b Q λa p=>H _ a (GW ns i).1 (GW ns i).2 p
noncomputable def Bf(x y:Int):Bool:=(x%4==2&&y%2==1)||(y%4==2&&x%2==1)
noncomputable def bE(w h:Int):jq:=(j0 1 (4*w-1).toNat (4*h-1).toNat).filter λp=>Bf p.1 p.2
theorem qE{w:Int}(h:1<=w/\w<=3):w∈[(1:Int),2,3]:=by
 have:w=1\/w=2\/w=3:=by omega
 rcases this with rfl|rfl|rfl<;>decide
noncomputable def qF:List (List Int)->Bool
 |x::y::r=>HT.lexLt x y&&qF (y::r)|_=>b4
theorem Uw:∀w∈[(1:Int),2,3],∀h∈[(1:Int),2,3],(bE w h).length<=36/\1<=(bE w h).length/\qF ((bE w h).map aO)=true:=by decide +kernel
theorem nB:∀{l:List (List Int)},qF l=b4->l.Pairwise λx y=>HT.lexLt x y=b4
 |[],_=>.nil|[x],_=>a4j _ _|x::y::r,h=>by
  unfold qF at h;rw[WZ]at h;have b:=nB h.2;refine a2D.mpr ⟨λz a=>?_,b⟩;rcases Xr.mp a with rfl|a
  ·exact h.1
  ·exact n5 _ _ _ h.1 ((a2D.mp b).1 z a)
theorem v7{a b:List Int}(h:HT.lexLt a b=b4):HT.lexLt b a=false:=by
 cases e:HT.lexLt b a with
 |false=>rfl|true=>have:=n5 _ _ _ h e;rw[mO]at this;exact this.symm
noncomputable def Dc(b:Hm)(a:Nat)(kvs:jx):Prop:=b[a]?=aX (.dT kvs)\/b[a]?=aX (.dF kvs)
theorem c4{b:Hm}{a:Nat}{kvs:jx}{y d:D}{k:List Int}{Q:jz}(h:Dc b a kvs)(c:c5 y=aX k)(e:bS kvs k=aX d):W (aJ (.loc a) y b) Q↔Q (d,b):=by
 have:aJ (.loc a) y b=aX (d,b):=by rcases h with h|h<;>simp only[aJ,h,c,Xi,e,Xm]
 rw[this];exact W_some
theorem Bg{i:Nat}{d g:MS}{c:aG}{b:Hm}{a:Nat}{kvs:jx}{Q:Fl×aG×Hm->Prop}(h:c[i]?=aX (aX (.loc a)))(hc:b[a]?=aX (.dT kvs))
  (H:W (d c (b.set a (.dF kvs))) λr=>r.2.2[a]?=aX (.dF kvs)/\Q (r.1,r.2.1,r.2.2.set a (.dT kvs))):W (d9 i d g c b) Q:=by
 have e:mQ i c b=aX (a,kvs):=by simp only[mQ,h,hc]
 unfold d9;rw[e];rw[W_bind];refine bP H λr q=>?_;rw[q.1];exact W_some.mpr q.2
theorem qG{i j:Nat}{body:MS}{v:MS}{l:aG}{g:Hm}{a:Nat}{kvs:jx}{Q:Fl×aG×Hm->Prop}(hi:l[i]?=aX (aX (.loc a)))(hc:g[a]?=aX (.dT kvs))(I:Nat->aG->Hm->Prop)
  (s:I 0 l (g.set a (.dF kvs)))(r:∀n k d c b,kvs[n]?=aX (k,d)->I n c b->W (body (c.set j (aX (.tup (k.map D.int)))) b) λp=>p.1=.nx/\I (n+1) p.2.1 p.2.2)
  (h:∀c b,I kvs.length c b->b[a]?=aX (.dF kvs)/\Q (.nx,c,b.set a (.dT kvs))):W (d9 i (bV (eA (aA i)) (bT j) body) v l g) Q:=by
 refine Bg hi hc ?_;have o:(g.set a (.dF kvs))[a]?=aX (.dF kvs):=bY hc;have hit:eA (aA i) l (g.set a (.dF kvs))=aX (cI (.tup (dU kvs)),kvs.length+1,g.set a (.dF kvs)):=by simp only[eA,aA,hi,Xi,o]
 rw[w_mForI,hit,W_some];refine l6 (N:=kvs.length) I (λn c b u m=>?_) (λc b m=>⟨?_,h c b m⟩) kvs.length 0 l _ (by omega) s
 ·have e:kvs[n]?=aX (kvs[n].1,kvs[n].2):=W3 u;refine⟨.tup (kvs[n].1.map D.int),_,?_,rfl,bP (r n _ _ c b e m) λp q=>?_⟩
  ·show aX ((dU kvs)[n]?)=_;unfold dU;rw[W6,e];rfl
  ·rw[q.1];exact q.2
 ·show aX ((dU kvs)[kvs.length]?)=_;rw[YD (by unfold dU;simp)]
structure HI(μ:Hm)(a:Nat)(Z:Zr):Prop where
 dic:Dc μ a (aN Z)
 kd:(Z.map (·.1)).Nodup
 at_:∀z∈Z,μ[z.2.2]?=aX (.lst (z.2.1.map PP))
theorem Dc.more{c b:Hm}{a:Nat}{kvs:jx}(I:Dc c a kvs)(h:c<+:b):Dc b a kvs:=I.elim (λe=>.inl (aE h e)) λe=>.inr (aE h e)
theorem HI.more{c b:Hm}{a:Nat}{Z:Zr}(I:HI c a Z)(h:c<+:b):HI b a Z:=⟨I.dic.more h,I.kd,λz hz=>aE h (I.at_ z hz)⟩
theorem HI.ne{d:Hm}{a b:Nat}{kvs:jx}{Z:Zr}(I:HI d a Z)(h:Dc d b kvs){z:(Int×Int)×jq×Nat}(hz:z∈Z):z.2.2≠b:=λe=>by have c:=I.at_ z hz;rw[e]at c;rcases h with h|h<;>(rw[h]at c;cases c)
theorem HI.frz{c:Hm}{a b:Nat}{kvs:jx}{Z:Zr}(I:HI c a Z)(h:c[b]?=aX (.dT kvs)):HI (c.set b (.dF kvs)) a Z:=by
 refine⟨?_,I.kd,λz d=>by rw[WT (XI (I.ne (.inl h) d))];exact I.at_ z d⟩;by_cases e:b=a
 ·subst e;have:kvs=aN Z:=by
   rcases I.dic with w|w
   ·rw[h]at w;injection w with w;injection w
   ·rw[h]at w;cases w
  rw[<- this];exact .inr (bY h)
 ·unfold Dc;rw[WT e];exact I.dic
theorem GI.hi{μ0 b:Hm}{a:Nat}{Z:Zr}(I:GI μ0 b a Z):HI b a Z:=⟨.inl I.dic,I.kd,λz hz=>(I.at_ z hz).2⟩
theorem nC{c b:Hm}{a:Nat}{kvs:jx}(hc:c[a]?=aX (.dT kvs))(h:c.set a (.dF kvs)<+:b):c<+:b.set a (.dT kvs):=by obtain⟨t,rfl⟩:=h;have d:a<c.length:=(WR.mp hc).1;rw[ZF _ _ (by rw[XO];exact d),a2O,A5 hc];exact ZS _ _
theorem GY{w h:Int}(hw:1<=w/\w<=6)(c:1<=h/\h<=6):(4*w-1).toNat*(4*h-1).toNat+(4*h-1).toNat<=900:=by
 have a:(4*w-1).toNat<=23:=by omega
 have b:(4*h-1).toNat<=23:=by omega
 have:=a1u a b;omega
theorem G0(k:Nat)(w h:Int)(hw:1<=w/\w<=6)(b:1<=h/\h<=6)(a:Hm)(Q:jz)(H:Q (.loc a.length,a++[.lst ((bE w h).map PP)])):W (f (k+1) "_law_quarters" [.int w,.int h] a) Q:=by
 rw[Ts,W_fin];simp only[w_mSeq,w_mSet,w_mLst,cV];refine⟨XJ _,?_⟩;simp only[X7,Yc,w_mForI,w_iRng2,w_mCons,cV,eN,w_mOp,b7,cH,w_mul4];refine⟨by omega,?_⟩;refine Gz _ Bf _ _ _ _ 1 (4*h-1).toNat (λo1 c a Q=>?_) (λx y a Q=>?_) (4*w-1).toNat (GY hw b) _ (bA _ _) _ λo1 c=>?_
 ·simp only[w_iRng2,w_mCons,cV,eN,w_mOp,b7,cH,w_mul4];exact and_iff_right (by omega)
 ·simp only[w_mOrT,w_mAndT,w_mTest,w_mOp,b7,cH,eN,w_mod2,w_mod4,w_eqI,w_addI];unfold Bf;cases x%4==2<;>cases y%2==1<;>cases y%4==2<;>cases x%2==1<;>simp
 ·simp only[w_mRet,b7,cH];rw[vT];exact H
theorem Ux(k:Nat)(w h:Int)(hw:1<=w/\w<=3)(b:1<=h/\h<=3)(a:Hm)(Q:jz)(H:Q (.loc a.length,a++[.lst ((bE w h).map PP)])):W (f (k+1) "_law_quarters" [.int w,.int h] a) Q:=G0 k w h (by omega) (by omega) a Q H
theorem sM{i:Nat}{b:aG}{a:Hm}{d:D}{Q:jz}(h:b[i]?=aX (aX d)):W (aA i b a) Q↔Q (d,a):=by
 have:aA i b a=aX (d,a):=by simp only[aA,h]
 rw[this];exact W_some
theorem GI.thaw{μ0 a:Hm}{m b:Nat}{kvs:jx}{Z:Zr}(d:μ0[m]?=aX (.dT kvs))(I:GI (μ0.set m (.dF kvs)) a b Z):GI μ0 (a.set m (.dT kvs)) b Z:=by have i:m<μ0.length:=(WR.mp d).1;have e:=I.lo;rw[XO]at e;refine⟨nC d I.pre,e,by rw[WT (by omega)];exact I.dic,I.kd,I.bd,λz h=>?_⟩;obtain⟨c,g⟩:=I.at_ z h;rw[XO]at c;exact⟨c,by rw[WT (by omega)];exact g⟩
theorem sN{Z:Zr}{n:Nat}{k:List Int}{d:D}(h:(aN Z)[n]?=aX (k,d)):∃z∈Z,Z[n]?=aX z/\k=aO z.1/\d=.loc z.2.2:=by unfold aN at h;rw[W6]at h;obtain⟨z,a,b⟩:=WS.mp h;cases b;exact⟨z,Xn a,a,rfl,rfl⟩
theorem gM{a:Type}{l:List a}{n:Nat}{x:a}(h:l[n]?=aX x):l.take (n+1)=l.take n++[x]:=by rw[a5r,h];rfl
theorem kQ{c:Type}{l:List c}(nd:l.Nodup){n:Nat}{x:c}(h:l[n]?=aX x):x∉l.take n:=λg=>by
 obtain⟨j,a⟩:=Y6.mp g;have b:j<n:=by have:=(WR.mp a).1;rw[Ys]at this;omega
 rw[a4g b]at a;have i:n<l.length:=(WR.mp h).1;have d:=(WR.mp a).2;have e:=(WR.mp h).2;exact absurd ((a5F nd).mp (d.trans e.symm)) (by omega)
theorem Uy{i j c:Nat}{h:aG}{m2:MS}{μ0 s:Hm}{m b:Nat}{Z:Zr}(hi:h[i]?=aX (aX (.loc m)))(hc:h[c]?=aX (aX (.loc b)))(K:h[j]?=aX aY)(ij:j≠i)(cj:j≠c)(r:μ0<+:s)(lo:μ0.length<=b)
  (gb:s[b]?=aX (.dT []))(v:μ0[m]?=aX (.dT (aN Z)))(Y:(Z.map (·.1)).Nodup)(A:∀z∈Z,μ0[z.2.2]?=aX (.lst (z.2.1.map PP)))(hZ:Z.length<=100)(hl:∀z∈Z,z.2.1.length<=100)(Q:Fl×aG×Hm->Prop)
  (H:∀E o a,GZ E=GZ Z->GI μ0 a b E->(∀z∈E,s.length<=z.2.2)->Q (.nx,h.set j o,a)) :
  W (d9 i (bV (eA (aA i)) (bT j) (dJ (aA c) (aA j) (aI mW (aB (aC aJ (aA i) (aA j)) aD)))) m2 h s) Q:=by
 have M:=aE r v;have N:m<μ0.length:=(WR.mp v).1;have T:μ0.set m (.dF (aN Z))<+:s.set m (.dF (aN Z)):=by obtain⟨t,rfl⟩:=r;rw[ZF _ _ N];exact ZS _ _
 have L:h.set j aY=h:=by
  refine a1D λx=>?_;by_cases e:j=x
  ·subst e;rw[XY (WR.mp K).1,K]
  ·rw[WT e]
 refine qG hi M (λn u a=>∃o l,u=h.set j o/\GZ l=(GZ Z).take n/\GI (μ0.set m (.dF (aN Z))) a b l/\(∀z∈l,s.length<=z.2.2)/\s.length<=a.length) ⟨aY,[],L.symm,rfl,⟨T,by rw[XO];exact lo,by rw[WT (by omega)];exact gb,YH,YH,λz q=>nomatch q⟩,(λz q=>nomatch q),by simp⟩ ?_ ?_
 ·rintro n k d u a hk ⟨o,l,rfl,w,I,O,g⟩;obtain⟨z,q,B,rfl,rfl⟩:=sN hk;rw[a2O];have v1:(h.set j (aX (D.tup ((aO z.1).map D.int))))[i]?=aX (aX (.loc m)):=by rw[WT ij];exact hi
  have v2:(h.set j (aX (D.tup ((aO z.1).map D.int))))[c]?=aX (aX (.loc b)):=by rw[WT cj];exact hc
  have v3:(h.set j (aX (D.tup ((aO z.1).map D.int))))[j]?=aX (aX (PP z.1)):=by rw[XY (WR.mp K).1];rfl
  have G:(μ0.set m (.dF (aN Z)))[m]?=aX (.dF (aN Z)):=bY v;have gm:=aE I.pre G;have gz:a[z.2.2]?=aX (.lst (z.2.1.map PP)):=by refine aE I.pre ?_;rw[WT (λe=>by have:=A z q;rw[<- e,v]at this;cases this)];exact A z q
  simp only[w_mPut,w_mCall,w_mCons,cV,w_mOp,sM v1,sM v2,sM v3];refine(c4 (.inr gm) (bM z.1) (jJ Y q)).mpr ((FU gz).mpr ?_);simp only[sM v2,sM v3];have U:=I.more (aP a (C.lst (z.2.1.map PP)));have J:l.length=((GZ Z).take n).length:=by rw[<- w,GZ,WO]
  have X:l.length<=100:=by rw[J,Ys,GZ,WO];omega
  refine(fX U.dic (bM z.1) (by rw[fZ,Xh];omega)).mpr ?_;have R:z.1∉l.map (·.1):=by rw[<- dX,w,a0p,dX];exact kQ Y (by rw[W6,B];rfl)
  have I2:=U.new R (qs:=z.2.1) (b:=a.length) (bA _ _) (Xz (by rw[XO];exact r.length_le) g) (λy p=>Xd (WR.mp (I.at_ y p).2).1);refine⟨trivial,aX (D.tup ((aO z.1).map D.int)),_,rfl,?_,I2,λy p=>?_,by simp;omega⟩
  ·rw[gM (x:=(z.1,z.2.1)) (by unfold GZ;rw[W6,B];rfl),<- w];unfold GZ;rw[Xj];rfl
  ·rcases XS.mp p with p|p
   ·exact O y p
   ·rw[Xe.mp p];exact g
 ·rintro u a ⟨o,l,rfl,w,I,O,g⟩;have G:(μ0.set m (.dF (aN Z)))[m]?=aX (.dF (aN Z)):=bY v;refine⟨aE I.pre G,H l o _ ?_ (I.thaw v) O⟩;rw[w,Yk];rw[fZ,GZ,WO];exact WY _
noncomputable abbrev aQ(v:Int×Int->D)(ps:jq):jx:=ps.map λp=>(aO p,v p)
theorem eU{v:Int×Int->D}{ps:jq}(nd:ps.Nodup){p:Int×Int}(h:p∈ps):bS (aQ v ps) (aO p)=aX (v p):=by refine A6 ?_ (W0.mpr ⟨p,h,rfl⟩);rw[W7];exact a0T _ (λa b c x=>c (m9 x)) nd
theorem qH{v:Int×Int->D}{ps:jq}{p:Int×Int}(h:p∉ps):bS (aQ v ps) (aO p)=none:=by
 unfold bS;rw[a1q.mpr]
 ·rfl
 ·intro x a;obtain⟨z,b,rfl⟩:=W0.mp a;rw[decide_eq_true_iff];exact λe=>h (m9 e▸b)
theorem sO{v:Int×Int->D}{ps:jq}{p:Int×Int}(h:p∉ps):c9 (aQ v ps) (aO p) (v p)=aQ v (ps++[p]):=by unfold c9;rw[qH h,if_neg (by simp)];show _=a6d _ _;rw[Xj];rfl
noncomputable def bQ(ps:jq):jq:=(cE (λi j=>HT.lexLt ((ps.map aO).getD i []) ((ps.map aO).getD j [])) ps.length).map λi=>ps.getD i (0,0)
theorem kR(ps:jq):(bQ ps).Perm ps:=by have p:=(jS (λi j=>HT.lexLt ((ps.map aO).getD i []) ((ps.map aO).getD j [])) ps.length).map λi=>ps.getD i (0,0);rw[GB]at p;exact p
theorem G3(v:Int×Int->D)(ps:jq):fU (aQ v ps)=aQ v (bQ ps):=by
 unfold fU bQ aQ;have a:(ps.map λp=>(aO p,v p)).map (·.1)=ps.map aO:=by rw[W7];rfl
 rw[a,WO,W7];refine Xs λi hi=>?_;have hi:i<ps.length:=YR.mp ((jS _ _).mem_iff.mp hi);simp[X8,hi]
theorem Bh(ps:jq):((bQ ps).map aO).Pairwise λx y=>HT.lexLt y x=false:=by
 by_cases h:ps=[]
 ·subst h;have:bQ []=[]:=by have:=(kR []).length_eq;exact Ze.mp this
  rw[this];exact .nil
 have b:0<ps.length:=a0k.mpr h;have S:=DT (lt:=HT.lexLt) mO n5 A8 [] (ps.map aO) (n:=ps.length) b;unfold bQ;rw[W7,a0C];have a:∀i∈cE (λi j=>HT.lexLt ((ps.map aO).getD i []) ((ps.map aO).getD j [])) ps.length,aO (ps.getD i (0,0))=(ps.map aO).getD i []:=λi hi=>by have hi:i<ps.length:=YR.mp ((jS _ _).mem_iff.mp hi);simp[X8,hi]
 exact S.imp_of_mem λ{i j} hi c h=>by show HT.lexLt (aO (ps.getD j (0,0))) (aO (ps.getD i (0,0)))=b3;rw[a i hi,a j c];exact h
theorem srt_eq{ps qs:jq}:bQ ps=bQ qs↔ps.Perm qs:=by
 constructor
 ·intro h;exact(kR ps).symm.trans (h▸kR qs)
 ·intro h;have e:(bQ ps).map aO=(bQ qs).map aO:=a0d (le:=λx y=>HT.lexLt y x=b3) (λa b _ _ c d=>(vU b a c d).symm) (Bh ps) (Bh qs) ((((kR ps).trans h).trans (kR qs).symm).map _);have inj:∀{a b:jq},a.map aO=b.map aO->a=b:=λ{a}=>by
   induction a with
   |nil=>intro b h;cases b with
    |nil=>rfl|cons=>cases h
   |cons x a g=>intro b h;cases b with
    |nil=>cases h|cons y b=>rw[Xa,Xa]at h;injection h with c d;rw[m9 c,g d]
  exact inj e
theorem G4{b:Hm}{a:Nat}{v:Int×Int->D}{ps:jq}{Q:jz}(h:b[a]?=aX (.dT (aQ v ps)))(h1:ps.length<64):W (iJ [.loc a] b) Q↔Q (.loc b.length,b++[.lst ((bQ ps).map PP)]):=by rw[GH h (by rw[WO];exact h1) (λp c z=>by obtain⟨x,_,rfl⟩:=W0.mp c;cases z),G3,W7];rfl
theorem Uz:bQ []=[]:=Ze.mp (kR []).length_eq
theorem G5(ps:jq):(bQ ps).length=ps.length:=(kR ps).length_eq
theorem Bi{ps:jq}(h:(ps.map aO).Pairwise λx y=>HT.lexLt y x=b3):bQ ps=ps:=by
 have e:(bQ ps).map aO=ps.map aO:=a0d (le:=λx y=>HT.lexLt y x=b3) (λa b _ _ c d=>(vU b a c d).symm) (Bh ps) h ((kR ps).map _);have inj:∀{a b:jq},a.map aO=b.map aO->a=b:=λ{a}=>by
  induction a with
  |nil=>intro b h;cases b with
   |nil=>rfl|cons=>cases h
  |cons x a g=>intro b h;cases b with
   |nil=>cases h|cons y b=>rw[Xa,Xa]at h;injection h with c d;rw[m9 c,g d]
 exact inj e
theorem UA{b:Hm}{a:Nat}{ps:jq}{Q:jz}(h:b[a]?=aX (.lst (ps.map PP)))(l:ps.length<64):W (lP [.loc a] b) Q↔Q (.loc b.length,b++[.lst ((bQ ps).map PP)]):=by
 by_cases c:ps=[]
 ·subst c;have e:gW []=[]:=by simp[gW]
  rw[SN (is:=[]) h (by decide),e,Uz];rfl
 have m:0<ps.length:=a0k.mpr c;have d:oA [.loc a] b=none:=by simp only[oA,eX,h,Xi];rw[Ua c];rfl
 have g:(cE (y8 (ps.map aO)) ps.length).map (λi=>(ps.map PP).getD i .non)=(bQ ps).map PP:=by unfold bQ;rw[W7];refine Xs λi hi=>?_;have hi:i<ps.length:=YR.mp ((jS _ _).mem_iff.mp hi);simp[X8,hi]
 have j:rB [.loc a] b=aX (.loc b.length,b++[.lst ((bQ ps).map PP)]):=by simp only[rB,eX,h,Xi,GA];rw[if_pos ⟨by rw[WO];omega,by rw[WO];omega,λt k=>by obtain⟨p,_,rfl⟩:=W0.mp k;simp[aO]⟩,WO,g]
 simp only[lP,d,j];exact W_some
noncomputable def Bj(a b:Gr):Bool:=decide ((a.map (·.1)).Perm (b.map (·.1)))&&a.all λg=>bQ g.2==bQ (bD b g.1)
theorem G6{G:Gr}(b:(G.map (·.1)).Nodup)(p q:Int×Int):dM G p q=eQ G p (bD G p++[q]):=by
 unfold dM eQ;by_cases h:(G.map (·.1)).contains p=b4
 ·rw[if_pos h,if_pos h];refine Xs λg a=>?_;by_cases e:g.1=p
  ·rw[if_pos e,if_pos e,<- e,eT b a]
  ·rw[if_neg e,if_neg e]
 ·rw[if_neg h,if_neg h,kP λw=>h (XA.mpr w)];rfl
theorem Bk(g:Int×Int->Int×Int):∀(qs:jq)(G:Gr),(G.map (·.1)).Nodup->((qs.foldl (λG q=>dM G (g q) q) G).map (·.1)).Nodup/\∀p,bD (qs.foldl (λG q=>dM G (g q) q) G) p=bD G p++qs.filter λq=>decide (g q=p)
 |[],G,kd=>⟨kd,λp=>by simp⟩|q::qs,G,kd=>by
  rw[a0Y,G6 kd];obtain⟨a,b⟩:=Bk g qs (eQ G (g q) (bD G (g q)++[q])) (GP kd);refine⟨a,λp=>?_⟩;rw[b,Bb];by_cases e:p=g q
  ·subst e;rw[if_pos rfl,XQ (by simp)];simp
  ·rw[if_neg e,XR (by simp;exact λw=>e w.symm)]
theorem v8{g:Int×Int->Int×Int}{qs:jq}:Pil qs g (cR g qs):=by
 obtain⟨b,c⟩:=Bk g qs [] YH;refine⟨b,λx a e=>?_,λp=>by unfold cR;rw[c,vX];exact .refl _⟩
  -- no empty list is made
 have:∀(qs:jq)(G:Gr),(∀x∈G,x.2≠[])->∀x∈qs.foldl (λG q=>dM G (g q) q) G,x.2≠[]:=λqs=>by
  induction qs with
  |nil=>exact λG h=>h|cons q qs i=>
   intro G h;rw[a0Y];refine i _ λx a=>?_;unfold dM at a;split at a
   ·obtain⟨y,d,rfl⟩:=W0.mp a;split
    ·simp
    ·exact h y d
   ·rcases XS.mp a with a|a
    ·exact h x a
    ·rw[Xe.mp a];simp
 exact this qs [] (λx a=>nomatch a) x a e
theorem UB{qs:jq}{g:Int×Int->Int×Int}{G K:Gr}(h:Pil qs g G)(h':Pil qs g K):(G.map (·.1)).Perm (K.map (·.1)):=
 (a1o h.kd h'.kd).mpr λp=>by rw[h.key,h'.key]
noncomputable def sP(S a:Gr):Bool:=decide ((a.map (·.1)).Perm (S.map (·.1)))&&S.all λg=>bQ (bD a g.1)==g.2
theorem UC{qs:jq}{g:Int×Int->Int×Int}{G a:Gr}(j:(qs.map aO).Pairwise λx y=>HT.lexLt y x=b3)(h:Pil qs g G):sP (cR g qs) a=Bj G a:=by
 have i:Pil qs g (cR g qs):=v8;have d:=UB h i;have n:decide ((a.map (·.1)).Perm ((cR g qs).map (·.1)))=decide ((G.map (·.1)).Perm (a.map (·.1))):=by refine decide_eq_decide.mpr ⟨λw=>d.trans w.symm,λw=>w.symm.trans d⟩
 unfold sP Bj;rw[n];congr 1;have b:∀p,bD (cR g qs) p=bQ (bD G p):=λp=>by
  have k:bD (cR g qs) p=qs.filter λq=>decide (g q=p):=by have:=(Bk g qs [] YH).2 p;rw[vX,a0W]at this;exact this
  have m:bQ (qs.filter λq=>decide (g q=p))=qs.filter λq=>decide (g q=p):=Bi (by
   rw[a0C]at j ⊢;exact j.sublist a0l)
  rw[k,<- m,srt_eq];exact(h.pm p).symm
 have c:∀(K:Gr)(t:Int×Int->jq->Bool),(K.map (·.1)).Nodup->(K.all λx=>t x.1 x.2)=(K.map (·.1)).all λp=>t p (bD K p):=λK t r=>by rw[a2Q,YV,YB,YB];refine forall_congr' λx=>?_;refine imp_congr_right λo=>?_;show _↔t x.1 (bD K x.1)=b4;rw[eT r o]
 rw[c (cR g qs) (λp l=>bQ (bD a p)==l) i.kd,c G (λp l=>bQ l==bQ (bD a p)) h.kd,YV,YB,YB];constructor
 ·intro w p e;have:=w p (d.mem_iff.mp e);rw[b]at this;rw[beq_iff_eq]at this ⊢;exact this.symm
 ·intro w p e;have:=w p (d.mem_iff.mpr e);rw[b];rw[beq_iff_eq]at this ⊢;exact this.symm
theorem UD{i:Nat}{d g:ME}{c:aG}{b:Hm}{a:Nat}{kvs:jx}{Q:jz}(h:c[i]?=aX (aX (.loc a)))(hc:b[a]?=aX (.dT kvs))
  (H:W (d c (b.set a (.dF kvs))) λr=>r.2[a]?=aX (.dF kvs)/\Q (r.1,r.2.set a (.dT kvs))):W (pX i d g c b) Q:=by
 have e:mQ i c b=aX (a,kvs):=by simp only[mQ,h,hc]
 unfold pX;rw[e];rw[W_bind];refine bP H λr q=>?_;rw[q.1];exact W_some.mpr q.2
noncomputable def v9(Z:Zr)(p:Int×Int):D:=match Z.find? (λz=>decide (z.1=p))with|some z=>.loc z.2.2|none=>.non
theorem UE{Z:Zr}(a:(Z.map (·.1)).Nodup){z:(Int×Int)×jq×Nat}(h:z∈Z):v9 Z z.1=.loc z.2.2:=by
 unfold v9;induction Z with
 |nil=>cases h|cons x Z b=>
  rw[Xa,XN]at a;rw[ZA];rcases Xr.mp h with rfl|h
  ·rw[decide_eq_true rfl]
  ·have e:decide (x.1=z.1)=false:=decide_eq_false λe=>a.1 (by rw[e];exact W0.mpr ⟨z,h,rfl⟩);rw[e];exact b a.2 h
theorem UG{Z:Zr}(b:(Z.map (·.1)).Nodup):aN Z=aQ (v9 Z) (Z.map (·.1)):=by unfold aN aQ;rw[W7];exact Xs λz a=>by show _=(aO z.1,v9 Z z.1);rw[UE b a]
theorem wA{b:Hm}{a:Nat}{Z:Zr}{Q:jz}(c:(Z.map (·.1)).Nodup)(h:b[a]?=aX (.dT (aN Z)))(h1:Z.length<64):W (iJ [.loc a] b) Q↔Q (.loc b.length,b++[.lst ((bQ (Z.map (·.1))).map PP)]):=by rw[UG c]at h;exact G4 h (by rw[WO];exact h1)
theorem l8{Z:Zr}(a:(Z.map (·.1)).Nodup){z:(Int×Int)×jq×Nat}(h:z∈Z):bD (GZ Z) z.1=z.2.1:=eT (by rw[dX];exact a) (g:=(z.1,z.2.1)) (W0.mpr ⟨z,h,rfl⟩)
theorem UH{c:Hm}{a:Nat}{Z:Zr}(I:HI c a Z)(d:∀z∈Z,z.2.1.length<64){p:Int×Int}(e:p∈Z.map (·.1))(Q:jz)(H:Q (.loc c.length,c++[.lst ((bQ (bD (GZ Z) p)).map PP)])) :
  W (aJ (.loc a) (PP p) c) λr=>W (lP [r.1] r.2) Q:=by
 obtain⟨z,b,rfl⟩:=kN e;refine(c4 I.dic (bM z.1) (jJ I.kd b)).mpr ((UA (I.at_ z b) (d z b)).mpr ?_);rw[l8 I.kd b]at H;exact H
theorem G7{Z:Zr}{d:D}(h:d∈dU (aN Z)):∃p∈Z.map (·.1),d=PP p:=by obtain⟨c,a,rfl⟩:=W0.mp h;obtain⟨z,b,rfl⟩:=W0.mp a;exact⟨z.1,W0.mpr ⟨z,b,rfl⟩,rfl⟩
theorem UI(Z:Zr):dU (aN Z)=(Z.map (·.1)).map PP:=by unfold dU aN;rw[W7,W7];rfl
theorem G8{i:Nat}{c:aG}{b:Hm}{a:Nat}{kvs:jx}(hi:c[i]?=aX (aX (.loc a)))(d:b[a]?=aX (.dF kvs)):eA (aA i) c b=aX (cI (.tup (dU kvs)),kvs.length+1,b):=by simp only[eA,aA,hi,Xi,d]
theorem wB(p:Int×Int):dW (PP p)=p:=rfl
theorem GI.mut{μ0 g:Hm}{a:Nat}{Z:Zr}(I:GI μ0 g a Z){z:(Int×Int)×jq×Nat}(hz:z∈Z)(L:jq) :
  GI μ0 (g.set z.2.2 (.lst (L.map PP))) a (Z.map λy=>if y.1=z.1 then(y.1,L,y.2.2)else y):=by
 have i:(Z.map λy=>if y.1=z.1 then(y.1,L,y.2.2)else y).map (·.1)=Z.map (·.1):=by rw[W7];refine Xs λy _=>?_;show(if y.1=z.1 then(y.1,L,y.2.2)else y).1=y.1;split<;>rfl
 have h:(Z.map λy=>if y.1=z.1 then(y.1,L,y.2.2)else y).map (·.2.2)=Z.map (·.2.2):=by rw[W7];refine Xs λy _=>?_;show(if y.1=z.1 then(y.1,L,y.2.2)else y).2.2=y.2.2;split<;>rfl
 have j:aN (Z.map λy=>if y.1=z.1 then(y.1,L,y.2.2)else y)=aN Z:=by unfold aN;rw[W7];refine Xs λy _=>?_;show(aO (if y.1=z.1 then(y.1,L,y.2.2)else y).1,D.loc (if y.1=z.1 then(y.1,L,y.2.2)else y).2.2)=_;split<;>rfl
 refine⟨cL I.pre (I.at_ z hz).1 _,I.lo,?_,by rw[i];exact I.kd,by rw[h];exact I.bd,λy k=>?_⟩
 ·rw[j,WT (I.ne hz)];exact I.dic
 ·obtain⟨x,b,rfl⟩:=W0.mp k;obtain⟨c,d⟩:=I.at_ x b;by_cases e:x.1=z.1
  ·have:x=z:=GC I.kd b hz e;subst this;rw[if_pos rfl];exact⟨c,bY d⟩
  ·rw[if_neg e];refine⟨c,?_⟩;rw[WT λw=>e (by rw[GD I.bd b hz w.symm])];exact d
theorem UJ(L:jq)(i:Nat)(q:Int×Int):eY (L.map PP) i (PP q)=(eY L i q).map PP:=by unfold eY;simp[a0p,a6s]
theorem Bl{L:jq}{i:Int}{q:Int×Int}{j:Nat}(a:iU L.length i=aX j)(b:L[j]?=aX q):atI (L.map PP) i=aX (PP q):=by unfold atI;rw[WO,a,Xi,W6,b];rfl
theorem G9{K:jx}{k:List Int}{d:D}(h:bS K k=aY):c9 K k d=K++[(k,d)]:=by unfold c9;rw[h,if_neg (by simp)]
theorem Ha{K:jx}{k:List Int}{d e:D}(h:bS K k=aY):c9 (K++[(k,d)]) k e=K++[(k,e)]:=by
 have b:∀p∈K,p.1≠k:=λp a w=>by unfold bS at h;rw[Option.map_eq_none_iff,a1q]at h;exact h p a (decide_eq_true w)
 have c:(bS (K++[(k,d)]) k).isSome=true:=by unfold bS;rw[a1s,List.find?_isSome];exact⟨(k,d),XS.mpr (.inr (Xe.mpr rfl)),decide_eq_true rfl⟩
 unfold c9;rw[if_pos c,Xj];have:(K.map λp=>if p.1=k then(p.1,e)else p)=K:=by have w:(K.map λp=>if p.1=k then(p.1,e)else p)=K.map id:=Xs λp a=>if_neg (b p a);rw[w,a2i]
 rw[this];simp
noncomputable def eJ(u n:Int)(a:Bool)(p:Int×Int):Bool:=decide (n<eC u p)==a
noncomputable def dD(u n:Int)(a:Bool)(F:Int×Int->Ly)(q:Int×Int):Ly:=if eJ u n a (aF (F q) q)then bH (F q) (bJ u n)else F q
theorem Hb{u n:Int}{a:Bool}{F:Int×Int->Ly}(b:∀q,Dih (F q))(q:Int×Int):Dih (dD u n a F q):=by
 unfold dD;split
 ·exact sF (b q) (oO u n)
 ·exact b q
theorem Bm(u n:Int)(a:Bool)(F:Int×Int->Ly)(q:Int×Int):aF (dD u n a F q) q=if eJ u n a (aF (F q) q)then aF (bJ u n) (aF (F q) q)else aF (F q) q:=by
 unfold dD;split
 ·rw[jH]
 ·rfl
theorem HI.put{j:Hm}{s b:Nat}{Z:Zr}(I:HI j s Z)(d:j[s]?=aX (.dT (aN Z))){p:Int×Int}{L:jq}(i:j[b]?=aX (.lst (L.map PP))) :
  ∃h,c9 (aN Z) (aO p) (.loc b)=aN h/\GZ h=eQ (GZ Z) p L/\HI (j.set s (.dT (aN h))) s h:=by
 have bs:b≠s:=λe=>by rw[e,d]at i;cases i
 have k:((GZ Z).map (·.1)).Nodup:=by rw[dX];exact I.kd
 by_cases c:p∈Z.map (·.1)
 ·refine⟨Z.map λy=>if y.1=p then(y.1,L,b)else y,Ue c I.kd,?_,.inl (bY d),?_,λy a=>?_⟩
  ·unfold eQ;rw[dX,if_pos (XA.mpr c)];unfold GZ;rw[W7,W7];refine Xs λz _=>?_;show((if z.1=p then(z.1,L,b)else z).1,(if z.1=p then(z.1,L,b)else z).2.1)=if z.1=p then(z.1,L)else(z.1,z.2.1)
   split<;>rfl
  ·have e:(Z.map λy=>if y.1=p then(y.1,L,b)else y).map (·.1)=Z.map (·.1):=by rw[W7];refine Xs λy _=>?_;show(if y.1=p then(y.1,L,b)else y).1=y.1;split<;>rfl
   rw[e];exact I.kd
  ·obtain⟨x,g,rfl⟩:=W0.mp a;split
   ·rw[WT (XI bs)];exact i
   ·rw[WT (XI (I.ne (.inl d) g))];exact I.at_ x g
 ·refine⟨Z++[(p,L,b)],GF c,?_,.inl (bY d),?_,λy a=>?_⟩
  ·unfold eQ;rw[dX,if_neg (λw=>c (XA.mp w))];unfold GZ;rw[Xj];rfl
  ·rw[Xj,Yt];exact⟨I.kd,by simp,λx g y a e=>by
    simp only[Xa,ZT,Xe]at a;rw[e,a]at g;exact c g⟩
  ·rcases XS.mp a with a|a
   ·rw[WT (XI (I.ne (.inl d) a))];exact I.at_ y a
   ·rw[Xe.mp a,WT (XI bs)];exact i
theorem HI.off{b:Hm}{a s:Nat}{Z:Zr}{kvs:jx}(I:HI b a Z)(e:b[s]?=aX (.dT kvs))(h:a≠s)(c:C):HI (b.set s c) a Z:=by refine⟨?_,I.kd,λz d=>by rw[WT (XI (I.ne (.inl e) d))];exact I.at_ z d⟩;unfold Dc;rw[WT (XI h)];exact I.dic
theorem wC{G:Gr}{p:Int×Int}{L:jq}(h:p∉G.map (·.1)):eQ G p L=G++[(p,L)]:=by unfold eQ;rw[if_neg (λw=>h (XA.mp w))]
theorem Hc(mv:Int×Int->Bool)(G:Gr)(g:(Int×Int)×jq):jK mv (G++[g])=if mv g.1 then jK mv G else jK mv G++[g]:=by unfold jK;rw[Yd];cases h:mv g.1<;>simp[h]
theorem Hd(mv:Int×Int->Bool)(M:Int×Int->Int×Int)(G:Gr)(g:(Int×Int)×jq):gH mv M (G++[g])=if mv g.1 then gH mv M G++[(M g.1,g.2.reverse)]else gH mv M G:=by unfold gH;rw[Yd,Xj];cases h:mv g.1<;>simp[h]
theorem wD{c:Type} [DecidableEq c]:∀{l m:List c},l.Nodup->(∀x∈l,x∈m)->l.length<=m.length
 |[],_,_,_=>XJ _|x::l,m,h,hs=>by rw[XN]at h;have a:=hs x (Xf ..);have d:=wD (l:=l) (m:=m.erase x) h.2 λy b=>(List.mem_erase_of_ne (λe:y=x=>h.1 (e▸b))).mpr (hs y (Xc _ b));rw[List.length_erase_of_mem a]at d;have:=a4l a;rw[Xy];omega
theorem Pil.len{qs:jq}{g:Int×Int->Int×Int}{G:Gr}(P:Pil qs g G):G.length<=qs.length/\∀x∈G,x.2.length<=qs.length:=by
 constructor
 ·have:=wD P.kd (m:=qs.map g) λp a=>by obtain⟨q,b,e⟩:=P.key.mp a;exact W0.mpr ⟨q,b,e⟩
  rw[WO,WO]at this;exact this
 ·intro x c;have:=(P.pm x.1).length_eq;rw[eT P.kd c]at this;rw[this];exact XW _ _
theorem Pil.lenZ{qs:jq}{g:Int×Int->Int×Int}{Z:Zr}(P:Pil qs g (GZ Z)):Z.length<=qs.length/\∀z∈Z,1<=z.2.1.length/\z.2.1.length<=qs.length:=by obtain⟨a,c⟩:=P.len;unfold GZ at a;rw[WO]at a;refine⟨a,λz d=>?_⟩;have b:(z.1,z.2.1)∈GZ Z:=W0.mpr ⟨z,d,rfl⟩;exact⟨a0k.mpr (P.ne _ b),c _ b⟩
theorem He(a:Hm)(x:Bool):∀bs:List Bool,∃b,jQ a (.bl x) (bs.map D.bl)=aX b
 |[]=>⟨_,rfl⟩|b::bs=>by obtain⟨c,e⟩:=He a x bs;rw[Xa];unfold jQ;cases b<;>cases x<;>first|exact⟨_,rfl⟩|exact⟨c,e⟩|(rw[e];exact⟨_,rfl⟩)
theorem Hf{c:Hm}{a:Nat}{bs:List Bool}(x:Bool)(h:c[a]?=aX (.lst (bs.map D.bl))):∃b,cK b4 (.bl x) (.loc a) c=aX (.bl b,c):=by obtain⟨b,e⟩:=He c x bs;refine⟨!b,?_⟩;simp only[cK,h,lI,bK,Xi,e,Xm,if_true]
theorem qI{Z:Zr}{i:Nat}{z:(Int×Int)×jq×Nat}(h:Z[i]?=aX z):(GZ Z).take (i+1)=(GZ Z).take i++[(z.1,z.2.1)]:=gM (by unfold GZ;rw[W6,h];rfl)
theorem dN{b:Bool}{P Q:Prop}(h:b=b3)(q:Q):if b=b4 then P else Q:=by rw[h];exact q
theorem dY{b:Bool}{P Q:Prop}(h:b=b4)(q:P):if b=b4 then P else Q:=by rw[h];exact q
theorem Hg{a:Hm}{s:Nat}{Z:Zr}(I:HI a s Z)(h:a[s]?=aX (.dT (aN Z)))(p:Int×Int):∃c,mR (.loc s) [PP p,.loc a.length] (a++[C.lst []])=aX (.loc c,a++[C.lst []])/\(a++[C.lst []])[c]?=aX (.lst ((bD (GZ Z) p).map PP)):=by
 have g:=aP a (C.lst []);by_cases b:p∈Z.map (·.1)
 ·obtain⟨t,d,e⟩:=kN b;refine⟨t.2.2,?_,?_⟩
  ·simp only[mR,aE g h,bM,Xm];rw[<- e,jJ I.kd d];rfl
  ·rw[<- e,l8 I.kd d];exact aE g (I.at_ t d)
 ·refine⟨a.length,?_,?_⟩
  ·simp only[mR,aE g h,bM,Xm];rw[A7 b];rfl
  ·rw[kP (by rw[dX];exact b)];exact bA _ _
theorem UK{G:Gr}{p:Int×Int}{L:jq}{y:(Int×Int)×jq}(h:y∈eQ G p L):y∈G\/y.2=L:=by
 unfold eQ at h;split at h
 ·obtain⟨t,a,e⟩:=W0.mp h;split at e
  ·rw[<- e];exact .inr rfl
  ·rw[<- e];exact .inl a
 ·rcases XS.mp h with h|h
  ·exact .inl h
  ·rw[Xe.mp h];exact .inr rfl
theorem Hh{b:Hm}{a:Nat}{kvs:jx}(d:b[a]?=aX (.dT kvs)){c:Hm}(p:b<+:c):b.set a (.dF kvs)<+:c.set a (.dF kvs):=by obtain⟨t,rfl⟩:=p;rw[ZF _ _ (WR.mp d).1];exact ZS _ _
theorem nD{b:Hm}{a c:Nat}{kvs:jx}(e:b[a]?=aX (.dT kvs))(h:b.length<=c)(x:C)(d:Hm):(d.set a x)[c]?=d[c]?:=WT (Xd (Xq (WR.mp e).1 h))
section
variable{u n:Int}{a o:Bool}{m2:MS}{Z:Zr}{μ:Hm}{h:Nat}
theorem UL(k:Nat)(R:0<=u/\u<4){F:Int×Int->Ly}(J:∀q,Dih (F q)){qs:jq}(nd:qs.Nodup)(N:qs.length<=100){w:Nat}(hw:μ[w]?=aX (.dT (aQ (λq=>LD (F q)) qs))){v y z A:Option D}{xs:List (Option D)}(Q:Fl×aG×Hm->Prop)
  (H:∀x b,μ<+:b->b[μ.length]?=aX (.dT (aQ (λq=>LD (dD u n a F q)) qs))->Q (.nx,aX (.loc w)::v::aX (.int u)::aX (.int n)::aX (.bl a)::y::z::A::aX (LD (bJ u n))::aX (.loc μ.length)::x::xs,b)) :
  W (d9 0 (bV (eA (aA 0)) (bT 10) (FV (k+1))) m2 (aX (.loc w)::v::aX (.int u)::aX (.int n)::aX (.bl a)::y::z::A::aX (LD (bJ u n))::aX (.loc μ.length)::aY::xs) (μ++[.dT []])) Q:=by
 have I:(μ.set w (.dF (aQ (λq=>LD (F q)) qs)))[w]?=aX (.dF (aQ (λq=>LD (F q)) qs)):=bY hw;have L:(μ.set w (.dF (aQ (λq=>LD (F q)) qs))).length<=μ.length:=a0j XO;refine qG rfl (aE (aP _ _) hw) (λi c b=>∃x,c=aX (.loc w)::v::aX (.int u)::aX (.int n)::aX (.bl a)::y::z::A::aX (LD (bJ u n))::aX (.loc μ.length)::x::xs/\μ.set w (.dF (aQ (λq=>LD (F q)) qs))<+:b/\b[μ.length]?=aX (.dT (aQ (λq=>LD (dD u n a F q)) (qs.take i))))
  ⟨aY,rfl,Hh hw (aP _ _),by rw[nD hw (WY _)];exact bA _ _⟩ ?_ ?_
 ·rintro i U d c b K ⟨x,rfl,p,g⟩;rw[W6]at K;obtain⟨q,r,e⟩:=WS.mp K;cases e;have s:∀{B:Hm}{Q:jz},μ.set w (.dF (aQ (λq=>LD (F q)) qs))<+:B->Q (LD (F q),B)->W (aJ (.loc w) (PP q) B) Q:=λO h=>(c4 (.inr (aE O I)) (bM q) (eU nd (Xn r))).mpr h;have M:bS (aQ (λq=>LD (dD u n a F q)) (qs.take i)) (aO q)=none:=qH (kQ nd r);have lt:(qs.take i).length<=100:=Xz (Yx _ _) N;have E:aQ (λq=>LD (dD u n a F q)) (qs.take (i+1))=aQ (λq=>LD (dD u n a F q)) (qs.take i)++[(aO q,LD (dD u n a F q))]:=by rw[gM r,aQ,Xj];rfl
  refine w_mSeq.mpr (w_mPut.mpr (bB rfl rfl (s p ⟨_,rfl,_,rfl,(fX g (bM q) (by rw[WO,Xh];omega)).mpr ?_⟩)));rw[G9 M];have j:=cL p L (C.dT (aQ (λq=>LD (dD u n a F q)) (qs.take i)++[(aO q,LD (F q))]));have G:=bY (c':=C.dT (aQ (λq=>LD (dD u n a F q)) (qs.take i)++[(aO q,LD (F q))])) g;generalize b.set μ.length (C.dT (aQ (λq=>LD (dD u n a F q)) (qs.take i)++[(aO q,LD (F q))]))=μ2 at j G;refine w_mIfS.mpr (cZ (aL (aL (c6 (aW (c6 (aW (bB rfl rfl (s j ⟨_,rfl,(vY k (F q) (J q) q _ _).mpr ⟨_,rfl,sJ k _ u R _ _ λT l=>⟨_,rfl,w_gtI.mpr ⟨_,rfl,w_eqBl.mpr ⟨_,rfl,?_⟩⟩⟩⟩⟩)))))))));have m:=aE l G;cases hc:eJ u n a (aF (F q) q)with
  |true=>refine dY hc (w_mPut.mpr (c6 (aW (bB rfl rfl (s (j.trans l) ⟨_,rfl,(vZ k (F q) (bJ u n) (J q) (oO u n) _ _).mpr ⟨_,rfl,_,rfl,(fX m (bM q) (by rw[W4,WO,Xh];show _+1<_;omega)).mpr ⟨rfl,_,rfl,cL (j.trans l) L _,?_⟩⟩⟩)))));rw[bY m,Ha M,E,dD,if_pos hc]|false=>refine dN hc (w_mNext.mpr ⟨rfl,_,rfl,j.trans l,?_⟩);rw[m,E,dD,if_neg (by rw[hc];exact Xo)]
 ·rintro c b ⟨x,rfl,p,g⟩;rw[WO,Yj]at g;exact⟨aE p I,H x _ (nC hw p) (by rw[nD hw (WY _)];exact g)⟩
theorem HI.thaw{d:Hm}{c b:Nat}{kvs:jx}{Y:Zr}(J:HI d c Y)(g:d[b]?=aX (.dF kvs))(hc:c≠b)(x:C):HI (d.set b x) c Y:=by refine⟨?_,J.kd,λz e=>by rw[WT (XI (J.ne (.inr g) e))];exact J.at_ z e⟩;unfold Dc;rw[WT (XI hc)];exact J.dic
theorem UM(k:Nat)(hu:0<=u/\u<4)(I:HI μ h Z)(g:μ[h]?=aX (.dT (aN Z)))(hl:Z.length<=100){m:Hm}{s:Nat}(X:μ<+:m)(ls:μ.length<=s)(gs:m[s]?=aX (.dT []))(gg:m[s+1]?=aX (.dT [])){x0 x5 x6 x7 x9 q r:Option D}(Q:Fl×aG×Hm->Prop)
  (H:∀x S G b,μ<+:b->HI b s S->b[s]?=aX (.dT (aN S))->GZ S=jK (eJ u n a) (GZ Z)->HI b (s+1) G->b[s+1]?=aX (.dT (aN G))->GZ G=gH (eJ u n a) (aF (bJ u n)) (GZ Z)->Q (.nx,[x0,aX (.loc h),aX (.int u),aX (.int n),aX (.bl a),x5,x,x7,aX (LD (bJ u n)),x9,q,aX (.loc s),aX (.loc (s+1)),r],b)) :
  W (d9 1 (bV (eA (aA 1)) (bT 6) (FW (k+1))) m2 [x0,aX (.loc h),aX (.int u),aX (.int n),aX (.bl a),x5,x6,x7,aX (LD (bJ u n)),x9,q,aX (.loc s),aX (.loc (s+1)),r] m) Q:=by
 have IF:=I.frz g;have l0:(μ.set h (.dF (aN Z))).length<=s:=by rw[XO];exact ls
 have gF:(μ.set h (.dF (aN Z)))[h]?=aX (.dF (aN Z)):=bY g;have O:∀{c:Nat}{m:Hm},m[c]?=aX (.dT [])->HI m c []:=λe=>⟨.inl e,YH,λz J=>nomatch J⟩;have M:(m.set h (.dF (aN Z)))[s]?=aX (.dT []):=(nD g ls _ _).trans gs;have L:(m.set h (.dF (aN Z)))[s+1]?=aX (.dT []):=(nD g (by omega) _ _).trans gg;refine qG rfl (aE X g) (λi A b=>∃x S G,A=[x0,aX (.loc h),aX (.int u),aX (.int n),aX (.bl a),x5,x,x7,aX (LD (bJ u n)),x9,q,aX (.loc s),aX (.loc (s+1)),r]/\μ.set h (.dF (aN Z))<+:b /\
  HI b s S/\b[s]?=aX (.dT (aN S))/\GZ S=jK (eJ u n a) ((GZ Z).take i)/\HI b (s+1) G/\b[s+1]?=aX (.dT (aN G))/\GZ G=gH (eJ u n a) (aF (bJ u n)) ((GZ Z).take i)) ⟨x6,[],[],rfl,Hh g X,O M,M,rfl,O L,L,rfl⟩ ?_ ?_
 ·rintro i kk d A b hk ⟨x,S,G,rfl,K,IS,g1,E,Y,g2,B⟩;obtain⟨z,J,R,rfl,rfl⟩:=sN hk;have et:=qI R;have T:z.1∉((GZ Z).take i).map (·.1):=by rw[a0p,dX];exact kQ I.kd (by rw[W6,R];rfl)
  have lt:((GZ Z).take i).length<=100:=Xz (Yx _ _) (by rw[eI];exact hl);refine w_mIfS.mpr (cZ (aL (aL (a9 rfl (sJ k _ u hu _ _ λv l=>⟨_,rfl,w_gtI.mpr ⟨_,rfl,w_eqBl.mpr ⟨_,rfl,?_⟩⟩⟩)))));replace l:b<+:v:=l;have j:=IF.more (K.trans l);have q13:=K.trans l;cases hc:eJ u n a z.1 with
  |true=>
   have lG:G.length<=100:=by rw[<- eI,B,gH,WO];exact Xz (XW _ _) lt
   refine dY hc (w_mPut.mpr (c6 (aW (bB rfl rfl ((c4 j.dic (bM z.1) (jJ I.kd J)).mpr ⟨_,rfl,(SO (j.at_ z J)).mpr ⟨_,rfl,a9 rfl ((vY k (bJ u n) (oO u n) z.1 _ _).mpr ?_)⟩⟩)))));have U:=l.trans (aP v (C.lst (z.2.1.map PP).reverse));have g4:=aE U g2;obtain⟨G',e1,e2,I4⟩:=(Y.more U).put g4 (p:=aF (bJ u n) z.1) (L:=z.2.1.reverse) (b:=v.length) (by rw[a5E];exact bA _ _);refine(fX g4 (bM _) (by rw[fZ,Xh];omega)).mpr ?_;rw[e1];refine⟨rfl,_,S,G',rfl,cL (K.trans U) (by omega) _,(IS.more U).off g4 (by omega) _,by rw[WT (by omega)];exact aE U g1,by rw[et,Hc,if_pos hc];exact E,I4,bY g4,?_⟩;rw[et,Hd,if_pos hc,e2,B,wC];intro w;obtain⟨y,hy,ey⟩:=W0.mp w;obtain⟨y',hy',rfl⟩:=W0.mp hy;have:y'.1=z.1:=by rw[<- sI u n y'.1,show aF (bJ u n) y'.1=aF (bJ u n) z.1 from ey,sI]
   exact T (this▸W0.mpr ⟨y',(XD.mp hy').1,rfl⟩)
  |false=>
   have lS:S.length<=100:=by rw[<- eI,E,jK];exact Xz (XW _ _) lt
   have N:¬ eJ u n a z.1=true:=by rw[hc];exact Xo
   have g3:=aE l g1;obtain⟨S',e1,e2,I4⟩:=(IS.more l).put g3 (p:=z.1) (j.at_ z J);refine dN hc (w_mPut.mpr (bB rfl rfl ((c4 j.dic (bM z.1) (jJ I.kd J)).mpr ⟨_,rfl,_,rfl,(fX g3 (bM z.1) (by rw[fZ,Xh];omega)).mpr ?_⟩)));rw[e1];refine⟨rfl,_,S',G,rfl,cL q13 l0 _,I4,bY g3,?_,(Y.more l).off g3 (by omega) _,by rw[WT (by omega)];exact aE l g2,by rw[et,Hd,if_neg N];exact B⟩;rw[et,Hc,if_neg N,e2,E,wC];intro w;obtain⟨y,hy,ey⟩:=W0.mp w;exact T (ey▸W0.mpr ⟨y,(XD.mp hy).1,rfl⟩)
 ·rintro A b ⟨x,S,G,rfl,K,IS,g1,E,Y,g2,B⟩;have p:=aE K gF;have hhl:=(WR.mp g).1;rw[Yk (by rw[fZ,eI];exact WY _)]at E B;exact⟨p,H x S G _ (nC g K) (IS.thaw p (by omega) _) ((nD g ls _ _).trans g1) E (Y.thaw p (by omega) _) ((nD g (by omega) _ _).trans g2) B⟩
theorem UN{s:Nat}{k G:Zr}{w:Hm}(IS0:HI w s k)(hs:w[s]?=aX (.dT (aN k)))(IG:HI w (s+1) G)(hg:w[s+1]?=aX (.dT (aN G)))(lS:k.length+G.length<=100)(ll:∀z∈k,z.2.1.length<=100)(lg:∀z∈G,z.2.1.length<=100){O R T U X x6 Y x8 x9 g:Option D}
  (pre:μ<+:w)(ls:μ.length<=s)(Q:Fl×aG×Hm->Prop)(H:∀x y S b,μ<+:b->HI b s S->b[s]?=aX (.dT (aN S))->GZ S=(GZ G).foldl (gJ o) (GZ k)->Q (.nx,[O,R,T,U,X,aX (.bl o),x,Y,x8,x9,g,aX (.loc s),aX (.loc (s+1)),y],b)) :
  W (d9 12 (bV (eA (aA 12)) (bT 6) FX) m2 [O,R,T,U,X,aX (.bl o),x6,Y,x8,x9,g,aX (.loc s),aX (.loc (s+1)),aY] w) Q:=by
 have IF:=IG.frz hg;refine qG rfl hg (λi r b=>∃x y S,r=[O,R,T,U,X,aX (.bl o),x,Y,x8,x9,g,aX (.loc s),aX (.loc (s+1)),y]/\μ<+:b/\HI b s S/\b[s]?=aX (.dT (aN S))/\GZ S=((GZ G).take i).foldl (gJ o) (GZ k)/\S.length<=k.length+i/\(∀z∈S,z.2.1.length<=100+100*i)/\HI b (s+1) G/\b[s+1]?=aX (.dF (aN G)))
  ⟨x6,aY,k,rfl,cL pre (by omega) _,IS0.frz hg,by rw[WT (by omega)];exact hs,rfl,by omega,λz v=>by have:=ll z v;omega,IF,bY hg⟩ ?_ ?_
 ·rintro i kk d r b hk ⟨x,y,S,rfl,p1,A,I,eS,l1,l2,IG1,gF⟩;obtain⟨z,v,J,rfl,rfl⟩:=sN hk;have hil:=(WR.mp J).1;have lz:=lg z v;obtain⟨c,e1,E⟩:=Hg A I z.1;refine bG (vV ⟨_,rfl,vW I,w_mCons.mpr ⟨_,rfl,w_mCons.mpr (w_mLst.mpr ⟨_,rfl,XJ _,_,rfl,_,e1,w_mPut.mpr (w_mIfE.mpr (jZ ⟨_,rfl,rfl,?_⟩))⟩)⟩⟩);have M:=aP b (C.lst []);have B:=A.more M;have g2:=aE M I;have l:=IG1.more M;have p:=aE M gF;have K:=p1.trans M;generalize b++[C.lst []]=μ2 at E B g2 l p K;have la:(bD (GZ S) z.1).length<=100+100*i:=by
   by_cases hp:z.1∈S.map (·.1)
   ·obtain⟨t,ht,e⟩:=kN hp;rw[<- e,l8 A.kd ht];exact l2 t ht
   ·rw[kP (by rw[dX];exact hp)];exact XJ _
  have m:∀L:jq,gJ o (GZ S) (z.1,z.2.1)=eQ (GZ S) z.1 L->L.length<=100+100*(i+1)->W (pQ (.loc s) (PP z.1) (.loc μ2.length) (μ2++[.lst (L.map PP)])) λj=>True/\∃x y S,[O,R,T,U,X,aX (.bl o),aX (PP z.1),Y,x8,x9,g,aX (.loc s),aX (.loc (s+1)),aX (.loc c)]=[O,R,T,U,X,aX (.bl o),x,Y,x8,x9,g,aX (.loc s),aX (.loc (s+1)),y]/\μ<+:j/\HI j s S/\j[s]?=aX (.dT (aN S))/\GZ S=((GZ G).take (i+1)).foldl (gJ o) (GZ k)/\S.length<=k.length+(i+1)/\(∀z∈S,z.2.1.length<=100+100*(i+1))/\HI j (s+1) G/\j[s+1]?=aX (.dF (aN G)):=λL eo lL=>by
   have N:=aP μ2 (C.lst (L.map PP));have g3:=aE N g2;obtain⟨S',e3,e4,I4⟩:=(B.more N).put g3 (p:=z.1) (bA _ _);refine(fX g3 (bM z.1) (by rw[fZ,Xh];omega)).mpr ?_;rw[e3];refine⟨trivial,_,_,S',rfl,cL (K.trans N) ls _,I4,bY g3,?_,?_,λy hy=>?_,(l.more N).off g3 (by omega) _,by rw[WT (by omega)];exact aE N p⟩
   ·rw[qI J,a5u,<- eS,e4,<- eo];rfl
   ·rw[<- eI,e4,eQ];split
    ·rw[WO,eI];omega
    ·rw[W4,eI];show _+1<=_;omega
   ·have hy':(y.1,y.2.1)∈eQ (GZ S) z.1 L:=by rw[<- e4];exact W0.mpr ⟨y,hy,rfl⟩
    rcases UK hy' with h|h
    ·obtain⟨t,ht,e⟩:=W0.mp h;have:=l2 t ht;have E:t.2.1=y.2.1:=congrArg (·.2) e;rw[<- E];omega
    ·rw[show y.2.1=L from h];exact lL
  have it:∀{Q:jz},Q (.loc z.2.2,μ2)->W (aJ (.loc (s+1)) (PP z.1) μ2) Q:=λh=>(c4 (.inr p) (bM z.1) (jJ IG.kd v)).mpr h;cases o with
  |true=>refine dY rfl (aL ⟨_,rfl,bB rfl rfl (it ((vK E (l.at_ z v) (by rw[WO,WO,Xh];omega)).mpr ⟨_,rfl,_,rfl,?_⟩))⟩);have:=m (bD (GZ S) z.1++z.2.1) rfl (by rw[W4];omega);rw[Xj]at this;exact bP this λ_ q=>⟨rfl,q.2⟩|false=>refine dN rfl (aL (bB rfl rfl (it ⟨_,rfl,(vK (l.at_ z v) E (by rw[WO,WO,Xh];omega)).mpr ⟨_,rfl,_,rfl,?_⟩⟩)));have:=m (z.2.1++bD (GZ S) z.1) rfl (by rw[W4];omega);rw[Xj]at this;exact bP this λ_ q=>⟨rfl,q.2⟩
 ·rintro r b ⟨x,y,S,rfl,p1,A,I,eS,_,_,_,gF⟩;rw[fZ,Yk (by rw[eI];exact WY _)]at eS;exact⟨gF,H x y S _ (cL p1 (by omega) _) (A.thaw gF (by omega) _) (by rw[WT (by omega)];exact I) eS⟩
end
theorem UO(k:Nat){g:Hm}{w h:Nat}{u n:Int}{a o:Bool}(E:0<=u/\u<4){F:Int×Int->Ly}(N:∀q,Dih (F q)){qs:jq}(nd:qs.Nodup)(hl:qs.length<=36)(hw:g[w]?=aX (.dT (aQ (λq=>LD (F q)) qs))){Z:Zr}(I:HI g h Z)(l:g[h]?=aX (.dT (aN Z)))
  (P:Pil qs (λq=>aF (F q) q) (GZ Z))(Q:jz)
  (H:∀w' h' (r:Int×Int->Ly) Z' c,g<+:c->c[w']?=aX (.dT (aQ (λq=>LD (r q)) qs))->HI c h' Z'->c[h']?=aX (.dT (aN Z'))->(∀q,Dih (r q))->Pil qs (λq=>aF (r q) q) (GZ Z')->(r=F\/r=dD u n a F)->Q (.tup [.loc w',.loc h'],c)) :
  W (f (k+2) "_law_fold" [.loc w,.loc h,.int u,.int n,.bl a,.bl o] g) Q:=by
 have lZ:=P.len.1;rw[eI]at lZ;have X:(g.set h (.dF (aN Z)))[h]?=aX (.dF (aN Z)):=bY l;refine cX (TC (k+1) _ _ _ _ _ _ g) (w_mSeq.mpr (Bg rfl l (w_mSet.mpr (jY (xs:=dU (aN Z)) (p:=λ_=>b4) (v:=λd=>.bl (eJ u n a (dW d))) ?_))));rw[G8 rfl X];refine W_some.mpr ⟨AS,by rw[dU,WO],by rw[dU,WO,fZ,Xh];omega,λd c hd B=>w_mTrue.mpr ⟨rfl,Xx _⟩,λd c hd _ B=>?_,λc B Y=>⟨aE B X,?_⟩⟩
 ·obtain⟨p,hpm,rfl⟩:=G7 hd;refine aL (aL (a9 rfl (sJ k _ u E _ _ λi R=>⟨_,rfl,w_gtI.mpr ⟨_,rfl,w_eqBl.mpr ⟨?_,R⟩⟩⟩)));rw[wB];rfl
 have e1:((dU (aN Z)).filter λ_=>b4).map (λd=>D.bl (eJ u n a (dW d)))=((dU (aN Z)).map λd=>eJ u n a (dW d)).map D.bl:=by rw[ZN.mpr (λ_ _=>rfl),W7];rfl
 rw[e1]at Y;have m:=nC l B;have lq:(g.set h (.dF (aN Z))).length=g.length:=XO;have v:=(nD l (a0j lq.symm) (.dT (aN Z)) c).trans Y;generalize(g.set h (.dF (aN Z))).length=b at v;generalize c.set h (.dT (aN Z))=μ1 at m v;obtain⟨b1,i1⟩:=Hf b4 v;obtain⟨b2,i2⟩:=Hf b3 v;have j:=H w h F Z μ1 m (aE m hw) (I.more m) (aE m l) N P (.inl rfl);refine w_mSeq.mpr (w_mIfS.mpr (w_mOrT.mpr (cZ (bB rfl rfl ⟨_,i1,_,rfl,?_⟩))));cases b1 with
 |true=>exact dY rfl (dY rfl (cY (w_mTup.mpr ⟨_,rfl,eB,j⟩)))|false=>
  refine dN rfl (cZ (bB rfl rfl ⟨_,i2,_,rfl,?_⟩));cases b2 with
  |true=>exact dY rfl (cY (w_mTup.mpr ⟨_,rfl,eB,j⟩))|false=>
   refine dN rfl (w_mNext.mpr (bG (a9 rfl (Bc k u n E _ _ λμ2 p2=>bG (w_mDNewT.mpr (w_mSeq.mpr ?_))))));have q2:=m.trans p2;refine UL k E N nd (by omega) (aE q2 hw) _ λx i R g3=>bG (w_mDNewT.mpr (bG (w_mDNewT.mpr (w_mSeq.mpr ?_))));have T:=q2.trans R;have l4:(i++[C.dT []]).length=i.length+1:=W4;have A:=bA (i++[C.dT []]) (C.dT []);rw[l4]at A ⊢;refine UM k E (I.more T) (aE T l) (by omega) ((aP _ _).trans (aP _ _)) (WY _) (aE (aP _ _) (bA _ _)) A _ λx' S G μ5 p5 IS A L IG g6 K=>w_mSeq.mpr ?_;have lS:S.length<=36:=by rw[<- eI,L,jK];exact Xz (XW _ _) (by rw[eI];omega)
   have lG:G.length<=36:=by rw[<- eI,K,gH,WO];exact Xz (XW _ _) (by rw[eI];omega)
   refine UN IS A IG g6 (by omega) (λz O=>?_) (λz O=>?_) p5 (WY _) _ λx2 y2 S' U p6 J g8 M=>cY (w_mTup.mpr ⟨_,rfl,eB,H _ _ (dD u n a F) S' U (T.trans p6) (aE p6 g3) J g8 (Hb N) ?_ (.inr rfl)⟩)
   ·have s:(z.1,z.2.1)∈GZ S:=W0.mpr ⟨z,O,rfl⟩;rw[L]at s;exact Xz (P.len.2 _ (XD.mp s).1) (by omega)
   ·have s:(z.1,z.2.1)∈GZ G:=W0.mpr ⟨z,O,rfl⟩;rw[K]at s;obtain⟨y,hy,e⟩:=W0.mp s;have:=P.len.2 _ (XD.mp hy).1;injection e with _ e;rw[<- e,a1g];omega
   rw[M,L,K,show(λq=>aF (dD u n a F q) q)=_ from funext λq=>Bm u n a F q];exact Us P (sI u n) o
theorem Hi{a:Type} [DecidableEq a]:∀{l:List a},l.Nodup->∀{p:a},p∈l->(l.filter λq=>decide (q=p))=[p]
 |[],_,_,h=>by cases h
 |x::l,nd,p,h=>by
  rw[XN]at nd;by_cases e:x=p
  ·subst e;rw[XQ (by simp),a0E.mpr];intro y b w;exact nd.1 (of_decide_eq_true w▸b)
  ·rw[XR (by simp[e])];exact Hi nd.2 ((Xr.mp h).resolve_left λw=>e w.symm)
noncomputable def nE(qs:jq):Gr:=qs.map λq=>(q,[q])
theorem Bn(qs:jq):(nE qs).map (·.1)=qs:=by unfold nE;rw[W7];exact a2i _
theorem UP{qs:jq}(nd:qs.Nodup):Pil qs (λq=>aF c7 q) (nE qs):=by
 have a:((nE qs).map (·.1)).Nodup:=by rw[Bn];exact nd
 refine⟨a,λg b=>?_,λp=>?_⟩
 ·obtain⟨q,_,rfl⟩:=W0.mp b;simp
 ·have e:(λq=>decide (aF c7 q=p))=λq=>decide (q=p):=funext λq=>by rw[sG]
  rw[e];by_cases h:p∈qs
  ·have:=eT a (g:=(p,[p])) (W0.mpr ⟨p,h,rfl⟩);rw[this,Hi nd h]
  ·rw[kP (by rw[Bn];exact h),a0E.mpr];intro q c w;exact h (of_decide_eq_true w▸c)
structure Grw(qs:jq)(μ:Hm)(w h:Nat)(F:Int×Int->Ly)(Z:Zr):Prop where
 hw:μ[w]?=aX (.dT (aQ (λq=>LD (F q)) qs))
 hi:HI μ h Z
 hh:μ[h]?=aX (.dT (aN Z))
 di:∀q,Dih (F q)
 pl:Pil qs (λq=>aF (F q) q) (GZ Z)
theorem UQ{μ0 n:Hm}{l a b:Nat}{qs:jq}(nd:qs.Nodup)(hl:qs.length<=100){E G J K L O:Option D}{xs:List (Option D)}(B:μ0<+:n)(la:μ0.length<=a)(p:a<b)(u:n[a]?=aX (.dT []))(o:n[b]?=aX (.dT []))(gl:n[l]?=aX (.lst (qs.map PP)))(Q:Fl×aG×Hm->Prop)
  (H:∀x Z c,μ0<+:c->Grw qs c a b (λ_=>c7) Z->Q (.nx,E::G::J::K::L::aX (.loc a)::aX (.loc b)::x::xs,c)) :
  W (dS (cI (.loc l)) (bT 7) FY ((qs.map PP).length+1) 0 (E::G::J::K::L::aX (.loc a)::aX (.loc b)::O::xs) n) Q:=by
 have w:a≠l:=λe=>by rw[e,gl]at u;cases u
 have y:b≠l:=λe=>by rw[e,gl]at o;cases o
 refine jX (λi g c=>∃x Z,g=E::G::J::K::L::aX (.loc a)::aX (.loc b)::x::xs/\μ0<+:c/\c[a]?=aX (.dT (aQ (λ_=>LD c7) (qs.take i)))/\HI c b Z/\c[b]?=aX (.dT (aN Z))/\GZ Z=nE (qs.take i)/\c[l]?=aX (.lst (qs.map PP)))
  ⟨O,[],rfl,B,u,⟨.inl o,YH,λz hz=>nomatch hz⟩,o,rfl,gl⟩ (by rintro _ _ _ ⟨_,_,_,_,_,_,_,_,h⟩;exact h) ?_ ?_
 ·rintro i d g c hd ⟨x,Z,rfl,A,j,I,r,k,M⟩;obtain⟨q,v,rfl⟩:=kM hd;have N:q∉qs.take i:=kQ nd v;have lt:(qs.take i).length<=100:=Xz (Yx _ _) hl;have lZ:Z.length<=100:=by rw[<- eI,k,nE,WO];exact lt
  refine⟨_,rfl,w_mSeq.mpr (w_mPut.mpr (w_mTup.mpr ⟨_,rfl,vQ,_,rfl,_,rfl,(fX j (bM q) (by rw[WO,Xh];omega)).mpr ?_⟩))⟩;have U:c9 (aQ (λ_=>LD c7) (qs.take i)) (aO q) (LD c7)=aQ (λ_=>LD c7) (qs.take (i+1)):=by rw[gM v];exact sO (v:=λ_=>LD c7) N
  have p2:=cL A la (C.dT (aQ (λ_=>LD c7) (qs.take (i+1))));have m:=aP (c.set a (C.dT (aQ (λ_=>LD c7) (qs.take (i+1))))) (C.lst [PP q]);have s:=aE m ((WT (Xd p)).trans r);obtain⟨T,X,Y,R⟩:=((I.off j (X1 p) _).more m).put s (p:=q) (L:=[q]) (bA _ _);rw[show D.tup [.int 1,.int 0,.int 0,.int 1,.int 0,.int 0]=LD c7 from rfl,U];refine w_mPut.mpr (w_mLst.mpr ⟨_,rfl,oM,_,rfl,_,rfl,(fX s (bM q) (by rw[fZ,Xh];omega)).mpr ?_⟩);rw[X];refine⟨_,T,rfl,cL (p2.trans m) (by omega) _,(WT (X1 p)).trans (aE m (bY j)),R,bY s,?_,(WT y).trans (aE m ((WT w).trans M))⟩;rw[Y,k,wC (by rw[Bn];exact N),gM v,nE,nE,Xj];rfl
 ·rintro g c ⟨x,Z,rfl,A,j,I,r,k,M⟩;rw[WO,Yj]at j k;exact H x Z c A ⟨j,I,r,λ_=>A3,by rw[k];exact UP nd⟩
theorem UR(J:(Int×Int->Ly)->Prop)(R:J λ_=>c7)(T:∀F u n a,0<=u/\u<4->n%4=0->J F->J (dD u n a F))(k:Nat)(ns:List Int)(w h:Int)(hw:1<=w/\w<=3)(hh:1<=h/\h<=3)(c m:Int)(hc:0<=c/\c<=50)(hm:0<=m/\m<=10)(nd:(bE w h).Nodup)(hl:(bE w h).length<=36)(h1:1<=(bE w h).length)(r:Hm)(Q:jz)
  (H:∀a b F Z d,r<+:d->Grw (bE w h) d a b F Z->J F->Q (.tup [.loc a,.loc b],d)):W (f (k+3) "_law_grown" [.rol (ns.map D.int),.int w,.int h,.int c,.int m] r) Q:=by
 refine cX (TF (k+2) _ _ _ _ _ r) (bG (w_mDNewT.mpr (bG (w_mDNewT.mpr (w_mSeq.mpr (w_mForI.mpr (w_iSeq.mpr (a9 rfl (Ux (k+1) w h hw hh _ _ ((fH (bA _ _)).mpr ?_))))))))));refine UQ (μ0:=r) nd (by omega) (((aP _ _).trans (aP _ _)).trans (aP _ _)) (WY _) (by rw[W4];exact YW _) (aE ((aP _ _).trans (aP _ _)) (bA _ _)) (aE (aP _ _) (bA _ _)) (bA _ _) _ λx Z μ1 p1 N=>fM (w_mForI.mpr ((vJ (j:=0)).mpr ⟨_,rfl,by omega,?_⟩));refine oJ (λi p d=>∃a b F Z B E I g j l o,p=[aX (.rol (ns.map D.int)),aX (.int w),aX (.int h),aX (.int c),aX (.int m),aX (.loc a),aX (.loc b),B,E,I,g,j,l,o]/\r<+:d/\Grw (bE w h) d a b F Z/\J F)
  ⟨_,_,_,Z,x,_,_,_,_,_,_,rfl,p1,N,R⟩ ?_ ?_
 ·rintro i p s hi ⟨a,b,F,Z,B,E,I,g,j,l,o,rfl,A,G,z⟩;have lZ:=G.pl.lenZ.1;have zp:0<(bQ (Z.map (·.1))).length:=by rw[G5,WO];obtain⟨q,hq⟩:=List.exists_mem_of_length_pos (l:=bE w h) h1;have:=G.pl.key.mpr ⟨q,hq,rfl⟩;rw[dX]at this;have:=a4l this;rwa [WO]at this
  refine⟨_,rfl,bG (a9 rfl (Uv k ns _ (by omega) _ _ λv y v0 v1 L=>bG (bB rfl rfl (w_mod4.mpr (bG (a9 rfl ((wA G.hi.kd (aE L G.hh) (by omega)).mpr (bG ?_))))))))⟩;have p4:=aP y (C.lst ((bQ (Z.map (·.1))).map PP));have K:=bA y (C.lst ((bQ (Z.map (·.1))).map PP));have Y:=a0t (v/4) (show((bQ (Z.map (·.1))).length:Int)≠0 by omega);have b2:=Z0 (v/4) (show 0<((bQ (Z.map (·.1))).length:Int) by omega);refine c6 (aW (aL ⟨_,rfl,aL (bB rfl rfl (w_div4.mpr (a9 rfl ((l7 K).mpr ((eH (by rw[WO];omega)).mpr ?_)))))⟩));rw[WO];refine(cW K (Bl (A2 Y b2) (W3 (by omega)))).mpr ⟨_,rfl,sJ (k+1) _ (v%4) (by omega) _ _ λμ5 p5=>bG (aL (bB rfl rfl ((hG (by decide) (by decide)).mpr ⟨_,rfl,w_mod4.mpr (w_mAsg.mpr (a9 rfl ?_))⟩)))⟩;have e:=(L.trans p4).trans p5;refine UO k (by omega) G.di nd hl (aE e G.hw) (G.hi.more e) (aE e G.hh) G.pl _ λw' h' M X μ6 p6 g6 O g7 d6 U e6=>w_gTup2.mpr ⟨w',h',M,X,_,_,_,_,_,_,_,rfl,A.trans (e.trans p6),⟨g6,O,g7,d6,U⟩,?_⟩;rcases e6 with rfl|rfl
  ·exact z
  ·exact T F _ _ _ (by omega) (by omega) z
 ·rintro p s ⟨a,b,F,Z,B,E,I,g,j,l,o,rfl,A,G,z⟩;exact⟨rfl,cY (w_mTup.mpr ⟨_,rfl,eB,H a b F Z s A G z⟩)⟩
theorem Hj(k t:Nat)(F:Int×Int->Ly)(K:∀q,Dih (F q))(row qs:jq)(e:row.Perm qs)(M:(qs.map aO).Pairwise λx y=>HT.lexLt y x=b3)(L:1<=qs.length/\qs.length<64)(nd:qs.Nodup){l:Hm}(N:l[t]?=aX (.dT (aQ (λq=>LD (F q)) row)))
  {a:Nat}{Z:Zr}(I:HI l a Z)(h1:l[a]?=aX (.dT (aN Z)))(O:Z.length<64)(R:∀z∈Z,z.2.1.length<64)(Q:jz)(H:∀c,l<+:c->Q (.bl (sP (cR (λq=>aF (F q) q) qs) (GZ Z)),c)):W (f (k+3) "are_piles" [.loc t,.loc a] l) Q:=by
 refine cX (Ta (k+2) _ _ l) (bG (a9 rfl (Up k t F K row qs e M L nd _ (by rw[N];unfold iM aQ;rw[W7];rfl) _ λb S r J u=>?_)));have T:S.length<=qs.length:=by rw[<- eI,u];exact(sH (λq=>aF (F q) q) qs).1
 refine w_mSeq.mpr (w_mIfS.mpr (cZ (aL (a9 rfl ((wA I.kd (aE J.pre h1) O).mpr (a9 rfl ((wA J.kd (aE (aP _ _) J.dic) (by omega)).mpr ((FJ (aE (aP _ _) (bA _ _)) (bA _ _)).mpr ⟨_,rfl,?_⟩))))))));have o:=(aP r (C.lst ((bQ (Z.map (·.1))).map PP))).trans (aP _ (C.lst ((bQ (S.map (·.1))).map PP)));have h:=J.pre.trans o;unfold sP at H;rw[<- u,dX,dX]at H;by_cases m:(Z.map (·.1)).Perm (S.map (·.1))
 ·rw[decide_eq_true m,Bool.true_and]at H;have i:=aE o J.dic;have B:=(I.more h).frz i;have E:=(J.hi.more o).frz i;have v:=bY (c':=C.dF (aN S)) i;refine dN (by rw[srt_eq.mpr m,beq_self_eq_true];rfl) (w_mNext.mpr (cY (Gi (UD (a:=b) (kvs:=aN S) rfl i (jY (xs:=dU (aN S)) (p:=λ_=>b4) (v:=λd=>.bl (bQ (bD (GZ Z) (dW d))==bD (GZ S) (dW d))) ?_)))));rw[G8 rfl v];refine W_some.mpr ⟨AS,by rw[dU,WO],by rw[dU,WO,fZ,Xh];omega,λd c hd j=>w_mTrue.mpr ⟨rfl,Xx _⟩,λd c hd _ j=>?_,λc j A=>⟨aE j v,?_⟩⟩
  ·obtain⟨p,e,rfl⟩:=G7 hd;obtain⟨z,n,rfl⟩:=kN e;have s:=E.more (j.trans (aP c (C.lst ((bQ (bD (GZ Z) z.1)).map PP))));refine aL (Gi (bB rfl rfl (UH (B.more j) R (m.mem_iff.mpr e) _ (bB rfl rfl ((c4 s.dic (bM z.1) (jJ J.kd n)).mpr ((FJ (bA _ _) (s.at_ z n)).mpr ⟨?_,aP _ _⟩))))));rw[wB,l8 J.kd n];rfl
  ·have G:((dU (aN S)).filter λ_=>b4).map (λd=>D.bl (bQ (bD (GZ Z) (dW d))==bD (GZ S) (dW d)))=((GZ S).map λg=>bQ (bD (GZ Z) g.1)==g.2).map D.bl:=by rw[ZN.mpr (λ_ _=>rfl),UI,W7,W7,W7,show GZ S=S.map λz=>(z.1,z.2.1)from rfl,W7];refine Xs λz n=>?_;show D.bl (bQ (bD (GZ Z) z.1)==bD (GZ S) z.1)=D.bl (bQ (bD (GZ Z) z.1)==z.2.1);rw[l8 J.kd n]
   rw[G]at A;refine(SE ((nD i (a0j XO.symm) _ _).trans A)).mpr ?_;have:=H _ (h.trans (nC i j));rw[a2Q];exact this
 ·rw[decide_eq_false m,a6h]at H;exact dY (by rw[beq_eq_false_iff_ne.mpr λw=>m (srt_eq.mp w)];rfl) (cY ⟨_,rfl,H _ h⟩)
theorem hW(u n:Int)(p:Int×Int):aF (bJ u n) p=if u=0 then(p.1,2*n-p.2)else if u=1 then(2*n-p.1,p.2)else if u=2 then(p.2+n,p.1-n)else(n-p.2,n-p.1):=by
 unfold bJ aF;split
 ·refine XH ?_ ?_<;>dsimp only<;>omega
 split
 ·refine XH ?_ ?_<;>dsimp only<;>omega
 split
 ·refine XH ?_ ?_<;>dsimp only<;>omega
 ·refine XH ?_ ?_<;>dsimp only<;>omega
theorem Hk(u n:Int):dC (bJ u n)=-1:=by
 unfold bJ dC;split
 ·rfl
 split
 ·rfl
 split
 ·rfl
 ·rfl
noncomputable def Rq(p q:Int×Int):Prop:=
 (p.1=q.1/\p.1%4=2/\((p.2=q.2+2/\q.2%4=3)\/(q.2=p.2+2/\p.2%4=3)))\/(p.2=q.2/\p.2%4=2/\((p.1=q.1+2/\q.1%4=3)\/(q.1=p.1+2/\p.1%4=3))) \/
 (p.1%4=2/\q.2%4=2/\(q.1=p.1+1\/q.1=p.1-1)/\(p.2=q.2+1\/p.2=q.2-1))\/(q.1%4=2/\p.2%4=2/\(p.1=q.1+1\/p.1=q.1-1)/\(q.2=p.2+1\/q.2=p.2-1))
instance (p q:Int×Int):Decidable (Rq p q):=by unfold Rq;infer_instance
noncomputable def wF(u c v:Int):Int×Int:=if u=0 then(c,v)else if u=1 then(v,c)else if u=2 then(c,c-v)else(c,v-c)
noncomputable def Hl(u:Int)(p q:Int×Int):Bool:=!decide (Rq p q)||decide (0<eC u p)==decide (0<eC u q)||decide (aF (bJ u 0) p=q)
theorem US:∀u:Nat,u<4->∀c:Nat,c<4->∀v:Nat,v<9->∀d:Nat,d<5->∀e:Nat,e<5->Hl u (wF u c (v-4)) ((wF u c (v-4)).1+(d-2),(wF u c (v-4)).2+(e-2))=true:=by decide +kernel
theorem Rq.tr{p q:Int×Int}(h:Rq p q)(i j:Int):Rq (p.1-4*i,p.2-4*j) (q.1-4*i,q.2-4*j):=by
 have m:∀z i:Int,(z-4*i)%4=z%4:=λz i=>by omega
 unfold Rq;dsimp only;rw[m,m,m,m];rcases h with⟨a,b,c⟩|⟨a,b,c⟩|⟨a,b,c,d⟩|⟨a,b,c,d⟩
 ·exact .inl ⟨by rw[a],b,c.imp (λh=>⟨by omega,h.2⟩) λh=>⟨by omega,h.2⟩⟩
 ·exact .inr (.inl ⟨by rw[a],b,c.imp (λh=>⟨by omega,h.2⟩) λh=>⟨by omega,h.2⟩⟩)
 ·exact .inr (.inr (.inl ⟨a,b,c.imp (λh=>by omega) λh=>by omega,d.imp (λh=>by omega) λh=>by omega⟩))
 ·exact .inr (.inr (.inr ⟨a,b,c.imp (λh=>by omega) λh=>by omega,d.imp (λh=>by omega) λh=>by omega⟩))
theorem Rq.near{p q:Int×Int}(h:Rq p q):(-2<=q.1-p.1/\q.1-p.1<=2)/\-2<=q.2-p.2/\q.2-p.2<=2:=by rcases h with⟨b,_,⟨a,_⟩|⟨a,_⟩⟩|⟨b,_,⟨a,_⟩|⟨a,_⟩⟩|⟨_,_,a,c⟩|⟨_,_,a,c⟩<;>omega
noncomputable def Hn(u:Int)(p q:Int×Int):Bool:=!decide (Rq p q)||decide (Rq (aF (bJ u 0) p) (aF (bJ u 0) q))
theorem UT:∀u:Nat,u<4->∀c:Nat,c<4->∀b:Nat,b<4->∀d:Nat,d<5->∀e:Nat,e<5->Hn u (c,b) (c+(d-2),b+(e-2))=true:=by decide +kernel
theorem Rq.mir{p q:Int×Int}(h:Rq p q)(u:Int){n:Int}(s:n%4=0):Rq (aF (bJ u n) p) (aF (bJ u n) q):=by
 obtain⟨m,rfl⟩:∃m,n=4*m:=⟨n/4,by omega⟩;obtain⟨⟨k,l⟩,o,r⟩:=h.near;have g:∀(w:Nat),w<4->Rq (aF (bJ w 0) (p.1-4*(p.1/4),p.2-4*(p.2/4))) (aF (bJ w 0) (q.1-4*(p.1/4),q.2-4*(p.2/4))):=λw hw=>by have R:=h.tr (p.1/4) (p.2/4);have K:=UT w hw (p.1%4).toNat (by omega) (p.2%4).toNat (by omega) (q.1-p.1+2).toNat (by omega) (q.2-p.2+2).toNat (by omega);rw[YO (by omega),YO (by omega),YO (by omega),YO (by omega),show p.1%4=p.1-4*(p.1/4) by omega,show p.2%4=p.2-4*(p.2/4) by omega,show p.1-4*(p.1/4)+(q.1-p.1+2-2)=q.1-4*(p.1/4) by omega,show p.2-4*(p.2/4)+(q.2-p.2+2-2)=q.2-4*(p.2/4) by omega,Hn,decide_eq_true R]at K;exact of_decide_eq_true K
 have a:∀(w:Nat),w<4->∀i j:Int,(∀z:Int×Int,aF (bJ u (4*m)) z=((aF (bJ w 0) (z.1-4*(p.1/4),z.2-4*(p.2/4))).1-4*i,(aF (bJ w 0) (z.1-4*(p.1/4),z.2-4*(p.2/4))).2-4*j))->Rq (aF (bJ u (4*m)) p) (aF (bJ u (4*m)) q):=λw hw i j e=>by rw[e,e];exact(g w hw).tr i j
 by_cases b:u=0
 ·exact a 0 (by decide) (-(p.1/4)) (p.2/4-2*m) λz=>by rw[hW,hW,if_pos b,if_pos (by decide)];exact XH (by dsimp only;omega) (by dsimp only;omega)
 by_cases c:u=1
 ·exact a 1 (by decide) (p.1/4-2*m) (-(p.2/4)) λz=>by rw[hW,hW,if_neg b,if_pos c,if_neg (by decide),if_pos (by decide)];exact XH (by dsimp only;omega) (by dsimp only;omega)
 by_cases d:u=2
 ·exact a 2 (by decide) (-(p.2/4)-m) (m-p.1/4) λz=>by rw[hW,hW,if_neg b,if_neg c,if_pos d,if_neg (by decide),if_neg (by decide),if_pos (by decide)];exact XH (by dsimp only;omega) (by dsimp only;omega)
 ·exact a 3 (by decide) (p.2/4-m) (p.1/4-m) λz=>by rw[hW,hW,if_neg b,if_neg c,if_neg d,if_neg (by decide),if_neg (by decide),if_neg (by decide)];exact XH (by dsimp only;omega) (by dsimp only;omega)
theorem Rq.cross{p q:Int×Int}(h:Rq p q){u n:Int}{a:Bool}(x:0<=u/\u<4)(H:n%4=0)(w:eJ u n a p≠eJ u n a q):aF (bJ u n) p=q:=by
 obtain⟨m,rfl⟩:∃m,n=4*m:=⟨n/4,by omega⟩;obtain⟨⟨y,z⟩,E,G⟩:=h.near;have hd:¬ decide (4*m<eC u p)=decide (4*m<eC u q):=λe=>w (by unfold eJ;rw[e]);have d:∀(i j c v:Int),(0<=c/\c<4)->(-4<=v/\v<=4)->(p.1-4*i,p.2-4*j)=wF u c v->eC u (p.1-4*i,p.2-4*j)=eC u p-4*m->eC u (q.1-4*i,q.2-4*j)=eC u q-4*m->aF (bJ u 0) (p.1-4*i,p.2-4*j)=(q.1-4*i,q.2-4*j):=λi j c v hc b o r s=>by have R:=h.tr i j;have K:=US u.toNat (by omega) c.toNat (by omega) (v+4).toNat (by omega) (q.1-p.1+2).toNat (by omega) (q.2-p.2+2).toNat (by omega);rw[YO x.1,YO hc.1,YO (by omega),YO (by omega),YO (by omega),show v+4-4=v by omega,<- o]at K;dsimp only at K;rw[show p.1-4*i+(q.1-p.1+2-2)=q.1-4*i by omega,show p.2-4*j+(q.2-p.2+2-2)=q.2-4*j by omega,Hl,decide_eq_true R,r,s]at K;refine(Bool.or_eq_true_iff.mp K).elim (λe=>(hd ?_).elim) of_decide_eq_true;rw[a1G,Bool.false_or,beq_iff_eq,decide_eq_decide]at e;rw[decide_eq_decide];omega
 have mk:∀{A B:Int×Int},A=B->A.1=B.1/\A.2=B.2:=λe=>e▸⟨rfl,rfl⟩;have b:-4<=eC u p-4*m/\eC u p-4*m<=4:=by rw[decide_eq_decide]at hd;unfold eC at hd ⊢;split<;>(try split)<;>(try split)<;>simp_all<;>omega
 have:u=0\/u=1\/u=2\/u=3:=by omega
 have l:p.1-4*(p.1/4)=p.1%4:=by omega
 rw[hW];rcases this with rfl|rfl|rfl|rfl
 ·have K:=mk (d (p.1/4) m (p.1%4) _ (by omega) b (XH l rfl) rfl rfl);rw[hW]at K;have g:p.1-4*(p.1/4)=q.1-4*(p.1/4):=K.1;have k:2*0-(p.2-4*m)=q.2-4*m:=K.2;exact XH (by show p.1=q.1;omega) (by show 2*(4*m)-p.2=q.2;omega)
 ·have K:=mk (d m (p.2/4) (p.2%4) _ (by omega) b (XH rfl (by show p.2-4*(p.2/4)=p.2%4;omega)) rfl rfl);rw[hW]at K;have g:2*0-(p.1-4*m)=q.1-4*m:=K.1;have k:p.2-4*(p.2/4)=q.2-4*(p.2/4):=K.2;exact XH (by show 2*(4*m)-p.1=q.1;omega) (by show p.2=q.2;omega)
 ·have K:=mk (d (p.1/4) (p.1/4-m) (p.1%4) _ (by omega) b (XH l (by show p.2-4*(p.1/4-m)=p.1%4-(p.1-p.2-4*m);omega)) (by show p.1-4*(p.1/4)-(p.2-4*(p.1/4-m))=p.1-p.2-4*m;omega) (by show q.1-4*(p.1/4)-(q.2-4*(p.1/4-m))=q.1-q.2-4*m;omega));rw[hW]at K;have g:p.2-4*(p.1/4-m)+0=q.1-4*(p.1/4):=K.1;have k:p.1-4*(p.1/4)-0=q.2-4*(p.1/4-m):=K.2;exact XH (by show p.2+4*m=q.1;omega) (by show p.1-4*m=q.2;omega)
 ·have K:=mk (d (p.1/4) (m-p.1/4) (p.1%4) _ (by omega) b (XH l (by show p.2-4*(m-p.1/4)=(p.1+p.2-4*m)-p.1%4;omega)) (by show p.1-4*(p.1/4)+(p.2-4*(m-p.1/4))=p.1+p.2-4*m;omega) (by show q.1-4*(p.1/4)+(q.2-4*(m-p.1/4))=q.1+q.2-4*m;omega));rw[hW]at K;have g:0-(p.2-4*(m-p.1/4))=q.1-4*(p.1/4):=K.1;have k:0-(p.1-4*(p.1/4))=q.2-4*(m-p.1/4):=K.2;exact XH (by show 4*m-p.2=q.1;omega) (by show 4*m-p.1=q.2;omega)
theorem wG{A:Ly}(h:Dih A):(dC A=1/\A.c=-A.b/\A.d=A.a)\/(dC A=-1/\A.c=A.b/\A.d=-A.a):=by
 obtain⟨a,b,c,d,e,g⟩:=A;unfold Dih at h;unfold dC;dsimp only at h ⊢;rcases h with⟨rfl,rfl,i,j⟩|⟨rfl,rfl,i,j⟩
 ·rcases i with rfl|rfl<;>rcases j with rfl|rfl<;>decide
 ·rcases i with rfl|rfl<;>rcases j with rfl|rfl<;>decide
theorem Ho{a b x y:Int}(h1:a*x+b*y=0)(e:a*y-b*x=0)(hd:x*x+y*y≠0):a=0/\b=0:=by
 have c:a*(x*x+y*y)=0:=by grind
 have d:b*(x*x+y*y)=0:=by grind
 exact⟨(a6e.mp c).resolve_right hd,(a6e.mp d).resolve_right hd⟩
theorem Rq.dif{p q:Int×Int}(h:Rq p q):(p.1-q.1)*(p.1-q.1)+(p.2-q.2)*(p.2-q.2)≠0:=by
 unfold Rq at h;rcases h with⟨d,_,c⟩|⟨d,_,c⟩|⟨_,_,c,e⟩|⟨_,_,c,e⟩
 ·rw[d,a6S];rcases c with⟨h,_⟩|⟨h,_⟩<;>rw[h]
  ·rw[show q.2+2-q.2=2 by omega];decide
  ·rw[show p.2-(p.2+2)=-2 by omega];decide
 ·rw[d,a6S];rcases c with⟨h,_⟩|⟨h,_⟩<;>rw[h]
  ·rw[show q.1+2-q.1=2 by omega];decide
  ·rw[show p.1-(p.1+2)=-2 by omega];decide
 ·have a:p.1-q.1=1\/p.1-q.1=-1:=by omega
  have b:p.2-q.2=1\/p.2-q.2=-1:=by omega
  rcases a with a|a<;>rcases b with b|b<;>rw[a,b]<;>decide
 ·have a:p.1-q.1=1\/p.1-q.1=-1:=by omega
  have b:p.2-q.2=1\/p.2-q.2=-1:=by omega
  rcases a with a|a<;>rcases b with b|b<;>rw[a,b]<;>decide
theorem UU{B C:Ly}(hB:Dih B)(hC:Dih C)(hd:dC B=dC C){p q:Int×Int}(R:Rq p q)(h1:aF B p=aF C p)(l:aF B q=aF C q):B=C:=by
 have j:=wG hB;have k:=wG hC;have nz:=R.dif;clear R;obtain⟨x,y⟩:=p;obtain⟨z,w⟩:=q;unfold aF at h1 l;injection h1 with u1 u2;injection l with v1 v2;dsimp only at nz u1 u2 v1 v2;have h:(B.a-C.a)*(x-z)+(B.b-C.b)*(y-w)=0:=by grind
 have i:(B.c-C.c)*(x-z)+(B.d-C.d)*(y-w)=0:=by grind
 have key:B.a-C.a=0/\B.b-C.b=0:=by
  rcases j with⟨a,c,d⟩|⟨a,c,d⟩<;>rcases k with⟨c1,c2,c3⟩|⟨c1,c2,c3⟩
  ·exact Ho h (by rw[c,d,c2,c3]at i;grind) nz
  ·rw[hd,c1]at a;cases a
  ·rw[hd,c1]at a;cases a
  ·exact Ho h (by rw[c,d,c2,c3]at i;grind) nz
 have e:B.a=C.a:=by omega
 have g:B.b=C.b:=by omega
 have b:B.c=C.c/\B.d=C.d:=by
  rcases j with⟨a,c,d⟩|⟨a,c,d⟩<;>rcases k with⟨c1,c2,c3⟩|⟨c1,c2,c3⟩
  ·rw[c,d,c2,c3,e,g];exact⟨rfl,rfl⟩
  ·rw[hd,c1]at a;cases a
  ·rw[hd,c1]at a;cases a
  ·rw[c,d,c2,c3,e,g];exact⟨rfl,rfl⟩
 refine Ly.ext' e g b.1 b.2 ?_ ?_
 ·rw[e,g]at u1;omega
 ·rw[b.1,b.2]at u2;omega
noncomputable def cB(x y:Int):Bool:=x%2==y%2&&(x%2==1||!(x%4==y%4))
noncomputable def sA(e:Int×Int):Int×Int:=if e.1%2=1 then(e.1,e.2+2-e.2%4)else if e.2%4=0 then(e.1,e.2-1)else(e.1-1,e.2)
noncomputable def sB(e:Int×Int):Int×Int:=if e.1%2=1 then(e.1+2-e.1%4,e.2)else if e.2%4=0 then(e.1,e.2+1)else(e.1+1,e.2)
theorem l9{e:Int×Int}(h:cB e.1 e.2=b4):(e.1%2=1/\e.2%2=1)\/(e.1%2=0/\e.2%4=0/\e.1%4=2)\/(e.1%2=0/\e.2%4=2/\e.1%4=0):=by unfold cB at h;simp only[WZ,Y3,beq_iff_eq,Z4,beq_eq_false_iff_ne]at h;omega
theorem Hq{e:Int×Int}(h:cB e.1 e.2=b4):Rq (sA e) (sB e):=by
 have:=l9 h;unfold Rq sA sB;rcases this with⟨b,a⟩|⟨b,a,c⟩|⟨b,a,c⟩
 ·simp only[if_pos b];exact .inr (.inr (.inr ⟨by omega,by omega,by omega,by omega⟩))
 ·simp only[if_neg (show ¬ e.1%2=1 by omega),if_pos a];exact .inl ⟨trivial,c,.inr ⟨by omega,by omega⟩⟩
 ·simp only[if_neg (show ¬ e.1%2=1 by omega),if_neg (show ¬ e.2%4=0 by omega)];exact .inr (.inl ⟨trivial,a,.inr ⟨by omega,by omega⟩⟩)
theorem Hr{e:Int×Int}(h:cB e.1 e.2=b4):eP (sA e) e=sB e/\eP (sB e) e=sA e:=by
 have:=l9 h;unfold eP sA sB;rcases this with⟨b,c⟩|⟨b,c,a⟩|⟨b,c,a⟩
 ·simp only[if_pos b];by_cases a:e.1%4=e.2%4
  ·simp only[if_pos a];refine⟨XH ?_ ?_,XH ?_ ?_⟩<;>dsimp only<;>omega
  ·simp only[if_neg a];refine⟨XH ?_ ?_,XH ?_ ?_⟩<;>dsimp only<;>omega
 ·simp only[if_neg (show ¬ e.1%2=1 by omega),if_pos c];refine⟨XH ?_ ?_,XH ?_ ?_⟩<;>dsimp only<;>omega
 ·simp only[if_neg (show ¬ e.1%2=1 by omega),if_neg (show ¬ e.2%4=0 by omega)];refine⟨XH ?_ ?_,XH ?_ ?_⟩<;>dsimp only<;>omega
noncomputable def EdF(F:Int×Int->Ly)(e:Int×Int):Prop:=(F (sA e)=F (sB e)/\Rq (aF (F (sA e)) (sA e)) (aF (F (sB e)) (sB e)))\/F (sA e)=bH (fY e) (F (sB e))
theorem EdF.pos{F:Int×Int->Ly}{e:Int×Int}(a:cB e.1 e.2=b4)(h:F (sA e)=bH (fY e) (F (sB e))):aF (F (sA e)) (sA e)=aF (F (sB e)) (sB e):=by rw[h,jH,r9,(Hr a).1]
theorem UW(u n:Int):bH (bJ u n) (bJ u n)=c7:=Gq λp=>by rw[jH,sI,sG]
theorem EdF.fold{F:Int×Int->Ly}(j:∀q,Dih (F q)){u n:Int}{a:Bool}(p:0<=u/\u<4)(l:n%4=0){e:Int×Int}(i:cB e.1 e.2=b4)(h:EdF F e):EdF (dD u n a F) e:=by
 rcases h with⟨b,g⟩|b
 ·by_cases d:eJ u n a (aF (F (sA e)) (sA e))=eJ u n a (aF (F (sB e)) (sB e))
  ·refine .inl ⟨?_,?_⟩
   ·unfold dD;rw[d,b]
   ·rw[Bm,Bm,d];split
    ·exact Rq.mir g u l
    ·exact g
  ·have c1:=Rq.cross g p l d;have m:aF (bJ u n) (aF (F (sB e)) (sB e))=aF (F (sA e)) (sA e):=by rw[<- c1,sI]
   obtain⟨r,s⟩:=Hr i;have X:bH (F (sA e)) (bJ u n)=bH (fY e) (F (sB e)):=by
    refine UU (sF (j _) (oO u n)) (sF (Gn e) (j _)) ?_ (Hq i) ?_ ?_
    ·rw[sC,sC,Hk,Gp,b,Int.mul_comm]
    ·rw[jH,jH,r9,r];exact c1
    ·rw[jH,jH,r9,s,b,m,b]
   refine .inr ?_;unfold dD;cases k:eJ u n a (aF (F (sA e)) (sA e))with
   |true=>
    have c:eJ u n a (aF (F (sB e)) (sB e))=false:=by
     cases c:eJ u n a (aF (F (sB e)) (sB e))with
     |false=>rfl|true=>exact absurd (k.trans c.symm) d
    rw[c];simp only[if_true,Xp,if_false];exact X
   |false=>
    have c:eJ u n a (aF (F (sB e)) (sB e))=true:=by
     cases c:eJ u n a (aF (F (sB e)) (sB e))with
     |true=>rfl|false=>exact absurd (k.trans c.symm) d
    rw[c];simp only[if_true,Xp,if_false];rw[<- sD,<- X,sD,UW,T6]
 ·have o:=EdF.pos i b;refine .inr ?_;unfold dD;rw[o];split
  ·rw[<- sD,<- b]
  ·exact b
noncomputable def JE(F:Int×Int->Ly):Prop:=(∀q,Dih (F q))/\∀e,cB e.1 e.2=b4->EdF F e
theorem UX:JE λ_=>c7:=⟨λ_=>A3,λe a=>.inl ⟨rfl,by rw[sG,sG];exact Hq a⟩⟩
theorem UY(F:Int×Int->Ly)(u n:Int)(a:Bool)(d:0<=u/\u<4)(c:n%4=0)(h:JE F):JE (dD u n a F):=⟨Hb h.1,λe b=>(h.2 e b).fold h.1 d c b⟩
noncomputable def bN(w h:Int):jq:=(j0 1 (4*w-1).toNat (4*h-1).toNat).filter λp=>cB p.1 p.2
noncomputable def dO:jq:=[(1,1),(1,2),(1,3),(2,1),(2,2),(2,3),(3,1),(3,2),(3,3),(4,1),(5,1),(6,1),(4,2),(5,2),(6,2),(1,4),(1,5),(1,6),(2,4),(2,5),(2,6)]
theorem f7:∀p∈dO,(1<=p.1/\p.1<=6)/\(1<=p.2/\p.2<=6)/\(bE p.1 p.2).length<=48/\1<=(bE p.1 p.2).length/\qF ((bE p.1 p.2).map aO)=b4/\(bN p.1 p.2).length<=64/\qF ((bN p.1 p.2).map aO)=b4 /\
  ∀e∈bN p.1 p.2,cB e.1 e.2=b4/\sA e∈bE p.1 p.2/\sB e∈bE p.1 p.2/\(0<e.1/\e.1<4*p.1)/\0<e.2/\e.2<4*p.2:=by decide +kernel
theorem Bo(k:Nat)(w h:Int)(hw:1<=w/\w<=6)(b:1<=h/\h<=6)(a:Hm)(Q:jz)(H:Q (.loc a.length,a++[.lst ((bN w h).map PP)])):W (f (k+1) "_law_rims" [.int w,.int h] a) Q:=by
 rw[Tt,W_fin];simp only[w_mSeq,w_mSet,w_mLst,cV];refine⟨XJ _,?_⟩;simp only[X7,Yc,w_mForI,w_iRng2,w_mCons,cV,eN,w_mOp,b7,cH,w_mul4];refine⟨by omega,?_⟩;refine Gz _ cB _ _ _ _ 1 (4*h-1).toNat (λo1 c a Q=>?_) (λx y a Q=>?_) (4*w-1).toNat (GY hw b) _ (bA _ _) _ λo1 c=>?_
 ·simp only[w_iRng2,w_mCons,cV,eN,w_mOp,b7,cH,w_mul4];exact and_iff_right (by omega)
 ·simp only[w_mOrT,w_mAndT,w_mTest,w_mOp,b7,cH,eN,w_mod2,w_mod4,w_eqI,vH];unfold cB;cases x%2==y%2<;>cases x%2==1<;>cases x%4==y%4<;>simp
 ·simp only[w_mRet,b7,cH];rw[vT];exact H
theorem Hs(k:Nat)(e:Int×Int)(d:Hm)(Q:jz)(H:∀b c,d<+:c->c[b]?=aX (.lst [PP (sA e),PP (sB e)])->Q (.loc b,c)):W (f (k+1) "_law_beside" [PP e] d) Q:=by
 rw[Tu];unfold sA sB at H;refine vO rfl (AW rfl (λh=>⟨_,rfl,?_⟩) λh=>AW rfl (λa=>⟨_,rfl,?_⟩) λa=>⟨_,rfl,?_⟩)
 ·have h:e.1%2=1:=by simpa using h
  simp only[if_pos h]at H;exact H _ _ (aP _ _) (bA _ _)
 ·have h:¬ e.1%2=1:=by simpa using h
  have a:e.2%4=0:=by simpa using a
  simp only[if_neg h,if_pos a]at H;exact H _ _ (aP _ _) (bA _ _)
 ·have h:¬ e.1%2=1:=by simpa using h
  have a:¬ e.2%4=0:=by simpa using a
  simp only[if_neg h,if_neg a]at H;exact H _ _ (aP _ _) (bA _ _)
theorem UZ(a:Hm)(A B:Ly):cG 8 a (LD A) (LD B)=aX (decide (A=B)):=by
 have:cG 8 a (LD A) (LD B)=aX (A.a==B.a&&(A.b==B.b&&(A.c==B.c&&(A.d==B.d&&(A.e==B.e&&(A.g==B.g&&b4)))))):=rfl;rw[this];congr 1;rw[YV,decide_eq_true_iff];simp only[WZ,beq_iff_eq,and_true];constructor
 ·rintro⟨b,c,d,e,g,h⟩;exact Ly.ext' b c d e g h
 ·rintro rfl;exact⟨rfl,rfl,rfl,rfl,rfl,rfl⟩
theorem w_neLD{a:Hm}{A B:Ly}{Q:jz}:W (aR b4 (LD A) (LD B) a) Q↔Q (.bl (!decide (A=B)),a):=by
 have:aR b4 (LD A) (LD B) a=aX (.bl (!decide (A=B)),a):=by unfold aR;rw[UZ];rfl
 rw[this];exact W_some
noncomputable def iA(w h:Int)(F:Int×Int->Ly):jq:=(bN w h).filter λe=>!decide (F (sA e)=F (sB e))
theorem U0(k:Nat){g:Hm}{a:Nat}{w h:Int}(J:(w,h)∈dO){F:Int×Int->Ly}{row:jq}(nd:row.Nodup)(z:∀q∈bE w h,q∈row)(G:g[a]?=aX (.dT (aQ (λq=>LD (F q)) row)))(Q:jz)
  (H:∀b c,g<+:c->c[b]?=aX (.lst ((iA w h F).map PP))->Q (.loc b,c)):W (f (k+2) "_law_creased" [.loc a,.int w,.int h] g) Q:=by
 obtain⟨hw,I,_,_,_,A,_,B⟩:=f7 _ J;refine cX (TH (k+1) _ _ _ g) (bG (w_mLst.mpr ⟨_,rfl,XJ _,fM (w_mForI.mpr (w_iSeq.mpr (a9 rfl (Bo k w h hw I _ _ ((fH (bA _ _)).mpr ?_)))))⟩));refine jX (λi j c=>∃s u v,j=[aX (.loc a),aX (.int w),aX (.int h),aX (.loc g.length),s,u,v]/\g<+:c/\c[g.length]?=aX (.lst ((((bN w h).take i).filter λe=>!decide (F (sA e)=F (sB e))).map PP))/\c[(g++[C.lst []]).length]?=aX (.lst ((bN w h).map PP)))
  ⟨aY,aY,aY,rfl,(aP _ _).trans (aP _ _),aE (aP _ _) (bA _ _),bA _ _⟩ (by rintro _ _ _ ⟨_,_,_,_,_,_,h⟩;exact h) ?_ ?_
 ·rintro i d j x hd ⟨s,u,v,rfl,m,n,p⟩;obtain⟨e,r,rfl⟩:=kM hd;obtain⟨_,K,L,_⟩:=B e (Xn r);refine⟨_,rfl,w_mSeq.mpr (w_mAsg.mpr (a9 rfl (Hs k e _ _ λb M l E=>(FH E).mpr ?_)))⟩;have y:=aE (m.trans l) G;have o:=aE l n;have lt:(((bN w h).take i).filter λe=>!decide (F (sA e)=F (sB e))).length<=64:=Xz (XW _ _) (Xz (Yx _ _) A);refine w_mIfS.mpr (cZ (aL (bB rfl rfl ((c4 (.inl y) (bM _) (eU nd (z _ K))).mpr (bB rfl rfl ((c4 (.inl y) (bM _) (eU nd (z _ L))).mpr (w_neLD.mpr ⟨_,rfl,?_⟩)))))));cases hc:decide (F (sA e)=F (sB e))with
  |true=>refine dN rfl (w_mNext.mpr ⟨_,_,_,rfl,m.trans l,?_,aE l p⟩);rw[gM r,Yd,XR (by rw[hc];exact Xo),Z1,Yh];exact o|false=>refine dY rfl (w_mDrop.mpr (hU ⟨_,rfl,hV o,_,rfl,(m7 o (by rw[WO,Xh];omega)).mpr ⟨_,_,_,rfl,cL (m.trans l) (WY _) _,?_,(WT (by rw[W4];exact Xd (YW _))).trans (aE l p)⟩⟩));rw[bY o,gM r,Yd,XQ (by rw[hc];rfl),Z1,Xj];rfl
 ·rintro j x ⟨s,u,v,rfl,m,n,p⟩;rw[WO,Yj]at n;exact⟨rfl,cY ⟨_,rfl,H _ _ m n⟩⟩
noncomputable def flat(G:Gr):jq:=G.flatMap (·.2)
noncomputable def cF(G:Gr)(q:Int×Int):Int:=match G.find? (λg=>g.2.contains q)with|some g=>(g.2.idxOf q:Nat)|none=>0
theorem Ht(G:Gr)(g:(Int×Int)×jq):flat (G++[g])=flat G++g.2:=by unfold flat;rw[Zl];simp
theorem mem_flat{G:Gr}{q:Int×Int}:q∈flat G↔∃g∈G,q∈g.2:=a1N
theorem Pil.one{qs:jq}{f:Int×Int->Int×Int}{G:Gr}(P:Pil qs f G){g:(Int×Int)×jq}(a:g∈G){q:Int×Int}(b:q∈g.2):q∈qs/\f q=g.1:=by have h:=P.pm g.1;rw[eT P.kd a]at h;have:=XD.mp (h.mem_iff.mp b);exact⟨this.1,of_decide_eq_true this.2⟩
theorem Pil.nd{qs:jq}{f:Int×Int->Int×Int}{G:Gr}(nd:qs.Nodup)(P:Pil qs f G){g:(Int×Int)×jq}(a:g∈G):g.2.Nodup:=by have h:=P.pm g.1;rw[eT P.kd a]at h;exact h.nodup_iff.mpr (nd.sublist a0l)
theorem Hu{f:Int×Int->Int×Int}:∀{G:Gr},(G.map (·.1)).Nodup->(∀g∈G,g.2.Nodup/\∀q∈g.2,f q=g.1)->(flat G).Nodup
 |[],_,_=>YH|g::G,kd,h=>by rw[Xa,XN]at kd;show(g.2++flat G).Nodup;rw[Yt];refine⟨(h g (Xf ..)).1,Hu kd.2 λx c=>h x (Xc _ c),λa k b l e=>?_⟩;subst e;obtain⟨x,c,d⟩:=mem_flat.mp l;have i:=(h g (Xf ..)).2 a k;have j:=(h x (Xc _ c)).2 a d;exact kd.1 (W0.mpr ⟨x,c,by rw[<- j,i]⟩)
theorem Pil.flat{qs:jq}{f:Int×Int->Int×Int}{G:Gr}(nd:qs.Nodup)(P:Pil qs f G):(Lw.flat G).Perm qs:=by
 have c:(Lw.flat G).Nodup:=Hu (f:=f) P.kd λg a=>⟨P.nd nd a,λq b=>(P.one a b).2⟩;refine(a1o c nd).mpr λq=>?_;rw[mem_flat];constructor
 ·rintro⟨g,a,b⟩;exact(P.one a b).1
 ·intro b;obtain⟨g,a,e⟩:=W0.mp (P.key.mpr ⟨q,b,rfl⟩);refine⟨g,a,?_⟩;have h:=P.pm g.1;rw[eT P.kd a]at h;exact h.mem_iff.mpr (XD.mpr ⟨b,decide_eq_true e.symm⟩)
theorem mD{qs:jq}{f:Int×Int->Int×Int}{G:Gr}(nd:qs.Nodup)(P:Pil qs f G){g:(Int×Int)×jq}(a:g∈G){i:Nat}{q:Int×Int}(b:g.2[i]?=aX q):cF G q=i:=by
 have k:=Xn b;have n:G.find? (λx=>x.2.contains q)=aX g:=by
  cases h:G.find? (λx=>x.2.contains q)with
  |none=>exact absurd (XA.mpr k) (by have:=a1q.mp h g a;simpa using this)|some x=>
   have l:=List.mem_of_find?_eq_some h;have c:q∈x.2:=by have d:=List.find?_some h;exact XA.mp d
   have e:x.1=g.1:=by rw[<- (P.one l c).2,(P.one a k).2]
   have j:=eT P.kd l;have m:=eT P.kd a;rw[e,m]at j;rw[show x=g from XH e j.symm]
 unfold cF;rw[n];have hi:i<g.2.length:=(WR.mp b).1;have e:=(WR.mp b).2;have:g.2.idxOf q=i:=by rw[<- e];exact(P.nd nd a).idxOf_getElem i hi
 show((g.2.idxOf q:Nat):Int)=i;rw[this]
theorem U1{h n:Hm}{l b:Nat}{v:Int×Int->D}{L K:jq}(z:∀(i:Nat) q,L[i]?=aX q->v q=.int (i:Int))(u:∀q∈L,q∉K)(nd:L.Nodup)(A:K.length+L.length<=1000){j k o r:Option D}(m:h<+:n)(lo:h.length<=b)(gl:h[l]?=aX (.lst (L.map PP)))(s:n[b]?=aX (.dT (aQ v K)))(Q:Fl×aG×Hm->Prop)
  (H:∀x y a,h<+:a->a[b]?=aX (.dT (aQ v (K++L)))->Q (.nx,[j,aX (.loc b),k,x,y],a)) :
  W (dS (n8 (.loc l)) (cP [3,4]) (dJ (aA 1) (aA 4) (aA 3)) ((L.map PP).length+1) 0 [j,aX (.loc b),k,o,r] n) Q:=by
 refine FQ (λi c a=>∃x y,c=[j,aX (.loc b),k,x,y]/\h<+:a/\a[b]?=aX (.dT (aQ v (K++L.take i)))) ⟨o,r,rfl,m,by rw[a3I,Yh];exact s⟩ (by rintro _ _ _ ⟨_,_,_,p,_⟩;exact aE p gl) ?_ ?_
 ·rintro i d c a hd ⟨x,y,rfl,p,g⟩;obtain⟨q,e,rfl⟩:=kM hd;refine⟨_,rfl,?_⟩;have hi:i<L.length:=(WR.mp e).1;show W (dJ (aA 1) (aA 4) (aA 3) [j,aX (.loc b),k,aX (.int i),aX (PP q)] a) _;simp only[w_mPut,b7,cH];refine(fX g (bM q) (by rw[WO,W4,Ys,Xh];omega)).mpr ?_;refine⟨_,_,rfl,cL p lo _,?_⟩;rw[bY g,<- z i q e,sO,gM e,Y2];intro w;rcases XS.mp w with w|w
  ·exact u q (Xn e) w
  ·exact kQ nd e w
 ·rintro c a ⟨x,y,rfl,p,g⟩;rw[WO,Yj]at g;exact H x y a p g
theorem U2{i j:Nat}{body:MS}{v:MS}{l:aG}{g:Hm}{a:Nat}{kvs:jx}{Q:Fl×aG×Hm->Prop}(hi:l[i]?=aX (aX (.loc a)))(hc:g[a]?=aX (.dT kvs))(I:Nat->aG->Hm->Prop)
  (s:I 0 l (g.set a (.dF kvs)))(r:∀n k d c b,kvs[n]?=aX (k,d)->I n c b->W (body (c.set j (aX d)) b) λp=>p.1=.nx/\I (n+1) p.2.1 p.2.2)
  (h:∀c b,I kvs.length c b->b[a]?=aX (.dF kvs)/\Q (.nx,c,b.set a (.dT kvs))):W (d9 i (bV (pZ (aA i)) (bT j) body) v l g) Q:=by
 refine Bg hi hc ?_;have o:(g.set a (.dF kvs))[a]?=aX (.dF kvs):=bY hc;have hit:pZ (aA i) l (g.set a (.dF kvs))=aX (cI (.tup (jV kvs)),kvs.length+1,g.set a (.dF kvs)):=by simp only[pZ,aA,hi,Xi,o]
 rw[w_mForI,hit,W_some];refine l6 (N:=kvs.length) I (λn c b u m=>?_) (λc b m=>⟨?_,h c b m⟩) kvs.length 0 l _ (by omega) s
 ·have e:kvs[n]?=aX (kvs[n].1,kvs[n].2):=W3 u;refine⟨kvs[n].2,_,?_,rfl,bP (r n _ _ c b e m) λp q=>?_⟩
  ·show aX ((jV kvs)[n]?)=_;unfold jV;rw[W6,e];rfl
  ·rw[q.1];exact q.2
 ·show aX ((jV kvs)[kvs.length]?)=_;rw[YD (by unfold jV;simp)]
theorem U3{qs:jq}{g:Int×Int->Int×Int}(nd:qs.Nodup)(o:qs.length<=100){Z:Zr}(P:Pil qs g (GZ Z)){i:Nat}{z:(Int×Int)×jq×Nat}(hz:Z[i]?=aX z) :
  (∀(j:Nat) q,z.2.1[j]?=aX q->(λq=>D.int (cF (GZ Z) q)) q=.int (j:Int))/\(∀q∈z.2.1,q∉flat ((GZ Z).take i))/\z.2.1.Nodup/\(flat ((GZ Z).take i)).length+z.2.1.length<=1000:=by
 have a:(z.1,z.2.1)∈GZ Z:=W0.mpr ⟨z,Xn hz,rfl⟩;refine⟨λj q b=>by dsimp only;rw[mD nd P a b],λq b w=>?_,P.nd nd a,?_⟩
 ·obtain⟨x,h,c⟩:=mem_flat.mp w;have d:=a4E h;have e:x.1=z.1:=by rw[<- (P.one d c).2,(P.one a b).2]
  have:z.1∉((GZ Z).take i).map (·.1):=by rw[a0p,dX];have k:=P.kd;rw[dX]at k;exact kQ k (by rw[W6,hz];rfl)
  exact this (e▸W0.mpr ⟨x,h,rfl⟩)
 ·have l:=(P.flat nd).length_eq;have m:(flat ((GZ Z).take i)).length+z.2.1.length=(flat ((GZ Z).take (i+1))).length:=by rw[qI hz,Ht,W4]
  have n:(flat ((GZ Z).take (i+1))).length<=(flat (GZ Z)).length:=by
   have:GZ Z=(GZ Z).take (i+1)++(GZ Z).drop (i+1):=(Y5 _ _).symm;conv=>rhs;rw[this]
   unfold flat;rw[Zl,W4];omega
  omega
theorem Hv(k:Nat){qs:jq}{g:Int×Int->Int×Int}(nd:qs.Nodup)(B:qs.length<=100){c:Hm}{h:Nat}{Z:Zr}(I:HI c h Z)(j:c[h]?=aX (.dT (aN Z)))(P:Pil qs g (GZ Z))(Q:jz)
  (H:∀b a,c<+:a->a[b]?=aX (.dT (aQ (λq=>.int (cF (GZ Z) q)) (flat (GZ Z))))->Q (.loc b,a)):W (f (k+1) "heights_in" [.loc h] c) Q:=by
 have p:h<c.length:=(WR.mp j).1;rw[Tc,W_fin,w_mSeq];simp only[w_mSet,w_mDNewT,X7,Yc];rw[w_mSeq];have s:=I.frz j;have m:(c.set h (.dF (aN Z))).length=c.length:=XO;have r:c.set h (.dF (aN Z))<+:(c++[C.dT []]).set h (.dF (aN Z)):=by rw[ZF _ _ p];exact ZS _ _
 refine U2 rfl (aE (aP _ _) j) (λi e a=>∃x y z,e=[aX (.loc h),aX (.loc c.length),x,y,z]/\c.set h (.dF (aN Z))<+:a/\a[c.length]?=aX (.dT (aQ (λq=>.int (cF (GZ Z) q)) (flat ((GZ Z).take i)))))
  ⟨aY,aY,aY,rfl,r,by rw[WT (by omega)];exact bA _ _⟩ ?_ ?_
 ·rintro i N d e a A ⟨x,y,T,rfl,n,o⟩;obtain⟨z,u,l,rfl,rfl⟩:=sN A;simp only[X7,Yc,w_mForI];refine FP ?_;simp only[w_mCons,cV,b7,cH];refine⟨z.2.2,z.2.1.map PP,rfl,(s.more n).at_ z u,?_⟩;obtain⟨G,J,K,L⟩:=U3 nd B P l;refine U1 (v:=λq=>.int (cF (GZ Z) q)) (K:=flat ((GZ Z).take i)) G J K L n (by rw[m];exact WY _) (s.at_ z u) o _ λO R M E v=>?_;refine⟨rfl,_,_,_,rfl,E,?_⟩;rw[qI l,Ht];exact v
 ·rintro e a ⟨x,y,z,rfl,n,o⟩;have w:a[h]?=aX (.dF (aN Z)):=aE n (bY j);refine⟨w,?_⟩;simp only[w_mRet,b7,cH];refine H _ _ (nC j n) ?_;rw[WT (by omega),o,Yk (by rw[fZ,GZ,WO];exact WY _)]
noncomputable def iB(F:Int×Int->Ly)(r:Int×Int->Int)(e:Int×Int):Str:=if(decide (r (sB e)<r (sA e))==decide (dC (F (sA e))<0))=b4 then "v" else "h"
noncomputable abbrev MD(p:(Int×Int)×Str):D:=.tup [PP p.1,.str p.2]
theorem U4{l:List ((Int×Int)×Str)}{i:Nat}{d:D}(h:(l.map MD)[i]?=aX d):∃p,l[i]?=aX p/\d=MD p:=by rw[W6]at h;obtain⟨p,a,b⟩:=WS.mp h;exact⟨p,a,b.symm⟩
noncomputable def iO(q:Int×Int):jq:=[(q.1-1,q.2),(q.1,q.2-1),(q.1,q.2+1),(q.1+1,q.2)]
noncomputable def c8(p:Int×Int):Bool:=if p.1%2=1 then p.2%4==2 else p.1%4==2&&p.2%2==1
theorem Hw:(4:Nat)<=W8:=by decide
theorem U5(k:Nat)(x y:Int)(a:Hm)(Q:jz):W (f (k+1) "is_quarter" [P x y] a) Q↔Q (.bl (c8 (x,y)),a):=by
 rw[SS,W_fin];simp only[w_mSeq,w_mRet,w_mNext,w_mIfS,w_mTest,lV,w_mOp,eN,b7,w_it20,w_it21,w_eqI,vH,w_mod2,w_mod4];unfold c8;by_cases h:x%2=1
 ·simp[h]
 ·have e:(x%2==1)=false:=by simpa using h
  simp only[e,h,Xp,if_false];cases x%4==2<;>simp
theorem U6(k:Nat)(q:Int×Int)(a:Hm):f (k+1) "beside" [PP q] a=aX (.loc a.length,a++[C.lst [P (q.1-1) q.2,P q.1 (q.2-1),P q.1 (q.2+1),P (q.1+1) q.2]]):=by rw[SU];kernel_rfl
theorem wH(k:Nat)(q:Int×Int)(c:Hm)(Q:jz)(H:∀a b,c<+:b->b[a]?=aX (.lst (((iO q).filter c8).map PP))->Q (.loc a,b)):W (f (k+2) "sides_of" [PP q] c) Q:=by
 rw[SV,W_fin];simp only[w_mRet];refine jY (xs:=(iO q).map PP) (p:=λd=>c8 (dW d)) (v:=λd=>d) ?_;refine w_iSeq.mpr (TZ rfl ?_);rw[U6,W_some];have g:(c++[C.lst [P (q.1-1) q.2,P q.1 (q.2-1),P q.1 (q.2+1),P (q.1+1) q.2]])[c.length]?=aX (.lst ((iO q).map PP)):=bA _ _;refine(fH g).mpr ⟨oK g,rfl,Hw,λd b hd e=>?_,λd b hd _ e=>?_,λb e h=>?_⟩
 ·obtain⟨u,v,rfl⟩:=Gj hd;simp only[Y9,a0W,w_mTru,w_mCall,w_mCons,cV,b7,cH,U5,w_truB];exact⟨rfl,Xx _⟩
 ·simp only[Y9,a0W,b7,cH];exact⟨trivial,Xx _⟩
 ·refine H _ _ ((aP _ _).trans e) ?_;rw[h,r8 c8]
noncomputable def sQ(F:Int×Int->Ly)(r:Int×Int->Int)(s t:Int×Int):Str:=if(if dC (F s)=-1 then decide (r t<r s)else decide (r s<r t))=b4 then "v" else "h"
theorem U7{F:Int×Int->Ly}{r:Int×Int->Int}{e:Int×Int}(h:∀q,Dih (F q))(hd:F (sA e)=bH (fY e) (F (sB e)))(i:r (sA e)≠r (sB e)):sQ F r (sA e) (sB e)=iB F r e/\sQ F r (sB e) (sA e)=iB F r e:=by
 have d:dC (F (sA e))=-dC (F (sB e)):=by rw[hd,sC,Gp];omega
 have g:=wG (h (sB e));unfold sQ iB;have a:dC (F (sB e))=1\/dC (F (sB e))=-1:=g.imp (·.1) (·.1);rw[d];rcases a with a|a
 ·rw[a];constructor<;>(by_cases b:r (sB e)<r (sA e)<;>by_cases c:r (sA e)<r (sB e)<;>simp[b,c]<;>omega)
 ·rw[a];constructor<;>(by_cases b:r (sB e)<r (sA e)<;>by_cases c:r (sA e)<r (sB e)<;>simp[b,c]<;>omega)
theorem Hx(p:Int×Int):c8 p=b4↔(p.1%2=1/\p.2%4=2)\/(p.1%4=2/\p.2%2=1):=by
 unfold c8;split
 ·rw[beq_iff_eq];omega
 ·rw[WZ,beq_iff_eq,beq_iff_eq];omega
theorem nF(z:Int):z%2=z%4%2:=(Int.emod_emod_of_dvd z (by decide)).symm
theorem Hy{x y r s:Int}(a:x%4=r%4)(b:y%4=s%4):c8 (x,y)=c8 (r,s):=by unfold c8;dsimp only;rw[nF x,nF y,a,b,<- nF,<- nF]
theorem U8(x y:Int):c8 (-x,y)=c8 (x,y):=by
 unfold c8;dsimp only;have a:-x%2=x%2:=by omega
 rcases a6f x with h|h
 ·rw[show -x%4=x%4 by omega,a]
 ·rw[a,h,if_pos rfl,if_pos rfl]
theorem U9(x y:Int):c8 (y,x)=c8 (x,y):=by rw[YV,Hx,Hx];exact⟨λh=>h.symm.imp a4M a4M,λh=>h.symm.imp a4M a4M⟩
theorem Va{x y r s:Int}(a:x%4=r)(b:y%4=s)(i j:Int):c8 (x+i,y+j)=c8 (r+i,s+j):=Hy (by rw[<- a,a5H]) (by rw[<- b,a5H])
theorem Bp{x y r s:Int}(a:x%4=r)(b:y%4=s):(iO (x,y)).filter c8=(([(-1,0),(0,-1),(0,1),(1,0)]:jq).filter λd=>c8 (r+d.1,s+d.2)).map λd=>(x+d.1,y+d.2):=by
 have:iO (x,y)=([(-1,0),(0,-1),(0,1),(1,0)]:jq).map λd=>(x+d.1,y+d.2):=by simp only[iO,Xa,ZT,a1k];rfl
 rw[this,List.filter_map];congr 1;exact a1C λd _=>Va a b d.1 d.2
theorem Hz{e:Int×Int}(h:cB e.1 e.2=b4):(iO e).filter c8=[sA e,sB e]\/(iO e).filter c8=[sB e,sA e]:=by
 have:=l9 h;obtain⟨x,y⟩:=e;unfold sA sB;dsimp only at this ⊢;rcases this with⟨d,c⟩|⟨d,c,g⟩|⟨d,c,g⟩
 ·have a:x%4=1\/x%4=3:=by omega
  have b:y%4=1\/y%4=3:=by omega
  rw[if_pos d,if_pos d];rcases a with a|a<;>rcases b with b|b<;>rw[Bp a b,a,b]
  ·exact .inl (by show[(x+0,y+1),(x+1,y+0)]=_;simp;omega)
  ·exact .inl (by show[(x+0,y+-1),(x+1,y+0)]=_;simp;omega)
  ·exact .inr (by show[(x+-1,y+0),(x+0,y+1)]=_;simp;omega)
  ·exact .inr (by show[(x+-1,y+0),(x+0,y+-1)]=_;simp;omega)
 ·simp only[if_neg (show ¬ x%2=1 by omega),if_pos c];rw[Bp g c];exact .inl (by show[(x+0,y+-1),(x+0,y+1)]=_;rw[a1k];rfl)
 ·simp only[if_neg (show ¬ x%2=1 by omega),if_neg (show ¬ y%4=0 by omega)];rw[Bp g c];exact .inl (by show[(x+-1,y+0),(x+1,y+0)]=_;rw[a1k];rfl)
theorem Vb{x y r s:Int}(a:x%4=r%4)(b:y%4=s%4):cB x y=cB r s:=by unfold cB;rw[nF x,nF y,a,b,<- nF,<- nF]
theorem Vc(x y:Int):cB (-x) y=cB x y:=by
 unfold cB;have a:-x%2=x%2:=by omega
 rcases a6f x with h|h
 ·rw[show -x%4=x%4 by omega,a]
 ·rw[a,h];rfl
theorem Vd(x y:Int):cB y x=cB x y:=by
 unfold cB;rw[BEq.comm (a:=y%2),BEq.comm (a:=y%4)];cases h:x%2==y%2
 ·rfl
 ·rw[eq_of_beq h]
theorem HA{T:Int->Int->Bool}(i:∀{x y r s},x%4=r%4->y%4=s%4->T x y=T r s)(pn:∀x y,T (-x) y=T x y)(ps:∀x y,T y x=T x y){A:Ly}(hA:Dih A)(a:A.e%4=0/\A.g%4=0)(e:Int×Int):T (aF A e).1 (aF A e).2=T e.1 e.2:=by
 have c:=pn e.1 e.2;have b:=ps e.1 e.2;have d:T e.1 (-e.2)=T e.1 e.2:=by rw[<- ps,pn,b]
 have h:T (-e.1) (-e.2)=T e.1 e.2:=by rw[pn,d]
 have g:∀{x y r s u v:Int},u%4=0/\v%4=0->T r s=T e.1 e.2->x=r+u->y=s+v->T x y=T e.1 e.2:=λa q j l=>(i (by clear q;omega) (by clear q;omega)).trans q;unfold aF;obtain⟨u,v,k|k|k|k|k|k|k|k⟩:=sE hA<;>subst k<;>dsimp only at a ⊢
 ·exact g a rfl (by omega) (by omega)
 ·exact g a d (by omega) (by omega)
 ·exact g a c (by omega) (by omega)
 ·exact g a h (by omega) (by omega)
 ·exact g a b (by omega) (by omega)
 ·exact g a ((ps _ _).trans c) (by omega) (by omega)
 ·exact g a ((pn _ _).trans b) (by omega) (by omega)
 ·exact g a ((ps _ _).trans h) (by omega) (by omega)
theorem wI{A:Ly}(hA:Dih A)(a:A.e%4=0/\A.g%4=0){e:Int×Int}(h:cB e.1 e.2=b4):cB (aF A e).1 (aF A e).2=true:=(HA Vb Vc Vd hA a e).trans h
theorem HB(k:Nat){r:Int×Int->Int}{e:jq}(j:e.Nodup){g:Hm}{a c:Nat}(i:g[a]?=aX (.dT (aQ (λq=>.int (r q)) e))){x y:Int×Int}(l:x∈e)(m:y∈e)(h:g[c]?=aX (.lst ([x,y].map PP))){b d:Option D}(Q:Fl×aG×Hm->Prop)(H:Q (.rt (.str (if decide (r y<r x)=b4 then "v" else "h")),[aX (.loc a),b,d,aX (.loc c)],g)) :
  W (FZ (k+1) [aX (.loc a),b,d,aX (.loc c)] g) Q:=by
 refine cY (w_mIfE.mpr (jZ (b:=decide (r y<r x)) (c6 (aW ⟨_,rfl,aW (bB rfl rfl ((cW h rfl).mpr (aW (bB rfl rfl ((cW h rfl).mpr ⟨_,rfl,cX (Gh k _ _ _ _) (cY (aL (bB rfl rfl ((c4 (.inl i) (bM x) (eU j l)).mpr (bB rfl rfl ((c4 (.inl i) (bM y) (eU j m)).mpr (w_gtI.mpr ⟨rfl,?_⟩)))))))⟩)))))⟩))));cases hc:decide (r y<r x)with
 |true=>rw[hc]at H;exact dY rfl ⟨_,rfl,H⟩|false=>rw[hc]at H;exact dN rfl ⟨_,rfl,H⟩
theorem Ve(k:Nat){F:Int×Int->Ly}(u:∀q,Dih (F q)){r:Int×Int->Int}{row g:jq}(L:row.Nodup)(y:g.Nodup){d:Hm}{a b:Nat}(v:d[a]?=aX (.dT (aQ (λq=>.int (r q)) g)))(G:d[b]?=aX (.dT (aQ (λq=>LD (F q)) row)))
  {e:Int×Int}(I:cB e.1 e.2=b4)(x:sA e∈row/\sB e∈row)(n:sA e∈g/\sB e∈g)(hd:F (sA e)=bH (fY e) (F (sB e)))(J:r (sA e)≠r (sB e))(Q:jz)(H:∀m,d<+:m->Q (.str (iB F r e),m)) :
  W (f (k+4) "mark_by_heights" [.loc a,.loc b,PP e] d) Q:=by
 have c:∀s t:Int×Int,s∈row->s∈g->t∈g->sQ F r s t=iB F r e->(iO e).filter c8=[s,t]->W (f (k+4) "mark_by_heights" [.loc a,.loc b,PP e] d) Q:=λs t K fs p E B=>by
  refine cX (To (k+3) _ _ _ d) (bG (a9 rfl (cX (Tj (k+2) _ _ d) (bG (a9 rfl (wH k e _ _ λl M j i=>?_))))));rw[B]at i;rw[<- E]at H;unfold sQ at H;refine w_mSeq.mpr (w_mIfS.mpr (jZ (c6 (aW (aL ⟨_,rfl,bB rfl rfl ((cW i rfl).mpr ((c4 (.inl (aE j G)) (bM s) (eU L K)).mpr ⟨_,rfl,(T8 (k+1) (F s) (u s) _ _).mpr ⟨rfl,?_⟩⟩))⟩)))));cases o:dC (F s)==-1 with
  |true=>rw[if_pos (eq_of_beq o)]at H;exact dY rfl (cY ⟨_,rfl,HB (k+2) y (aE j v) fs p i _ (H _ j)⟩)|false=>rw[if_neg (show ¬ dC (F s)=-1 from λw=>by rw[w]at o;cases o)]at H;exact dN rfl (w_mNext.mpr (cY (w_mLst.mpr (aW (bB rfl rfl ((cW i rfl).mpr (aW (bB rfl rfl ((cW i rfl).mpr ⟨_,rfl,eB,HB (k+2) y (aE (j.trans (aP _ _)) v) p fs (bA _ _) _ (H _ (j.trans (aP _ _)))⟩)))))))))
 obtain⟨z,A⟩:=U7 u hd J;rcases Hz I with h|h
 ·exact c _ _ x.1 n.1 n.2 z h
 ·exact c _ _ x.2 n.2 n.1 A h
theorem Vf{a b c:D}{d:Hm}{Q:jz}:W (aJ (.tup [a,b,c]) (.int 2) d) Q↔Q (c,d):=W_some
noncomputable def SH(w h:Int)(S:List ((Int×Int)×Str)):D:=.tup [.int w,.int h,.tup (S.map MD)]
noncomputable def qJ:D->D
 |.tup (a::_)=>a|_=>.non
noncomputable def wJ:D->D
 |.tup [_,b]=>b|_=>.non
theorem Bq{qs:jq}{g:Int×Int->Int×Int}{G:Gr}(nd:qs.Nodup)(P:Pil qs g G){a b:Int×Int}(l:a∈qs)(o:b∈qs)(ne:a≠b)(e:g a=g b):cF G a≠cF G b:=by
 obtain⟨x,d,k⟩:=W0.mp (P.key.mpr ⟨a,l,rfl⟩);have h:=P.pm x.1;rw[eT P.kd d]at h;have m:a∈x.2:=h.mem_iff.mpr (XD.mpr ⟨l,decide_eq_true k.symm⟩);have n:b∈x.2:=h.mem_iff.mpr (XD.mpr ⟨o,decide_eq_true (e.symm.trans k.symm)⟩);obtain⟨i,hi⟩:=a4F m;obtain⟨j,c⟩:=a4F n;rw[mD nd P d hi,mD nd P d c];intro w;have p:i=j:=by omega
 subst p;rw[hi]at c;exact ne (Xg c)
theorem sR{e:Int×Int}(h:cB e.1 e.2=b4):sA e≠sB e:=by
 have:=l9 h;unfold sA sB;intro w;rcases this with⟨a,b⟩|⟨a,b,c⟩|⟨a,b,c⟩
 ·rw[if_pos a,if_pos a]at w;injection w with w1 w2;omega
 ·simp only[if_neg (show ¬ e.1%2=1 by omega),if_pos b]at w;injection w with w1 w2;omega
 ·simp only[if_neg (show ¬ e.1%2=1 by omega),if_neg (show ¬ e.2%4=0 by omega)]at w;injection w with w1 w2;omega
structure CrF(qs:jq)(F:Int×Int->Ly)(e:Int×Int):Prop where
 r:cB e.1 e.2=b4
 a:sA e∈qs
 b:sB e∈qs
 m:F (sA e)=bH (fY e) (F (sB e))
theorem HC(k:Nat){w h:Int}{qs:jq}(nd:qs.Nodup)(N:qs.length<=100){F:Int×Int->Ly}(y:∀q,Dih (F q)){row:jq}(g:row.Perm qs){S:List ((Int×Int)×Str)}(O:S.length<=100)(z:∀p∈S,CrF qs F p.1)
  {i:Hm}{a b:Nat}(A:i[a]?=aX (.dT (aQ (λq=>LD (F q)) row))){Z:Zr}(I:HI i b Z)(B:i[b]?=aX (.dT (aN Z)))(P:Pil qs (λq=>aF (F q) q) (GZ Z))(Q:jz)
  (H:∀c e,i<+:e->i.length<=c->e[c]?=aX (.lst ((S.map λp=>(p.1,iB F (cF (GZ Z)) p.1)).map MD))->Q (.loc c,e)):W (f (k+5) "marks_by" [SH w h S,.loc a,.loc b] i) Q:=by
 rw[Tp,W_fin,w_mSeq];simp only[w_mSet,w_mCall,w_mCons,cV,b7,cH];refine Hv (k+3) nd (by omega) I B P _ λc K l v=>?_;simp only[X7,Yc,w_mRet];have n:=P.flat nd;refine FR (xs:=S.map MD) (x:=λd=>[aX (qJ d),aX (wJ d)]) (p:=λ_=>b4) (v:=λd=>MD (dW (qJ d),iB F (cF (GZ Z)) (dW (qJ d)))) ?_;simp only[SH,w_iSeq,w_mOp,b7,cH,eN,Vf];refine w_seqT.mpr ⟨AS,rfl,by rw[WO,Xh];omega,λd e hd=>?_,λd e hd j=>w_mTrue.mpr ⟨rfl,Xx _⟩,λd e hd _ j=>?_,λL G x=>?_⟩
 ·obtain⟨m,_,rfl⟩:=W0.mp hd;rfl
 ·obtain⟨m,E,rfl⟩:=W0.mp hd;simp only[Y9,a0W,w_mTup,w_mCall,w_mCons,cV,b7,cH,qJ,wJ];obtain⟨o,r,s,u⟩:=z m E;refine Ve k y (g.nodup_iff.mpr nd) (n.nodup_iff.mpr nd) (aE j v) (aE (l.trans j) A) o ⟨g.mem_iff.mpr r,g.mem_iff.mpr s⟩ ⟨n.mem_iff.mpr r,n.mem_iff.mpr s⟩ u (Bq nd P r s (sR o) (EdF.pos o u)) _ λM J=>?_;exact⟨eB,rfl,J⟩
 ·refine H _ _ (l.trans G) l.length_le ?_;rw[x,ZN.mpr λ_ _=>rfl,W7,W7];rfl
theorem Pil.turn{qs:jq}{g:Int×Int->Int×Int}{G K:Gr}(P:Pil qs g G)(k:(K.map (·.1)).Nodup)(i:(K.map (·.1)).Perm (G.map (·.1)))(h:∀x∈K,x.2.Perm (bD G x.1)):Pil qs g K:=by
 refine⟨k,λx a e=>?_,λp=>?_⟩
 ·obtain⟨y,j,b⟩:=W0.mp (i.mem_iff.mp (W0.mpr ⟨x,a,rfl⟩));have b:y.1=x.1:=b;have d:=h x a;rw[e,<- b,eT P.kd j]at d;exact P.ne y j d.symm.eq_nil
 ·by_cases c:p∈K.map (·.1)
  ·obtain⟨x,a,rfl⟩:=W0.mp c;rw[eT k a];exact(h x a).trans (P.pm x.1)
  ·rw[kP c,<- kP (G:=G) (p:=p) λw=>c (i.mem_iff.mpr w)];exact P.pm p
theorem HD{a:Hm}{A B:Nat}{ds:List D}{Q:jz}(hA:a[A]?=aX (.lst ds))(hB:a[B]?=aX (.lst [])):W (aR b4 (.loc A) (.loc B) a) Q↔Q (.bl (!ds.isEmpty),a):=by
 have b:∀{x:Nat}{xs:List D},a[x]?=aX (.lst xs)->d8 a (.loc x)=aX (.lst xs):=λh=>by simp only[d8,h]
 have e:cG 8 a (.loc A) (.loc B)=aX ds.isEmpty:=by show(d8 a (.loc A)).bind (λu=>(d8 a (.loc B)).bind λv=>i8 (cG 7 a) u v)=_;rw[b hA,b hB];show gA (cG 7 a) ds []=_;cases ds<;>rfl
 unfold aR;rw[e];exact W_some
theorem HE{n i:Nat}(h:i<n):iU n (i:Int)=aX i:=by unfold iU;rw[if_pos (by omega),if_pos (by omega)];rfl
noncomputable def HF(s:Str):Prop:=s="o"\/s="v"\/s="h"
theorem HG(k:Nat)(i:Int)(a:Hm)(Q:jz):W (f (k+1) "is_whole" [.int i] a) Q↔Q (.bl b4,a):=by rw[SQ,W_fin];simp only[w_mRet,lV,Sm,w_mCall,w_mCons,cV,b7,eN,SA,Sz,if_true,a2l]
theorem HH(k:Nat){i:Int}(h:1<=i/\i<=6)(a:Hm)(Q:jz)(H:Q (.bl b4,a)):W (f (k+2) "is_size" [.int i] a) Q:=by rw[SW,W_fin];simp only[w_mRet,lV,w_mCall,w_mCons,cV,b7,eN,HG,if_true,w_mChain,Sq,decide_eq_true h.1,decide_eq_true h.2];exact H
theorem Vg(k:Nat){w h:Int}(hw:1<=w/\w<=6)(b:1<=h/\h<=6)(a:Hm)(Q:jz)(H:Q (.non,a)):W (f (k+3) "check_size" [.int w,.int h] a) Q:=by rw[SX,W_fin];simp only[w_mIfS,w_mNotT,w_mAndT,w_mTru,w_mCall,w_mCons,cV,b7,cH];refine HH k hw _ _ ?_;simp only[w_truB,if_true];refine HH k b _ _ ?_;simp only[w_truB,a1G,Xp,if_false,w_mNext];exact H
theorem Vh(k:Nat){s:Str}(h:HF s)(a:Hm)(Q:jz)(H:Q (.bl b4,a)):W (f (k+1) "is_mark" [.str s] a) Q:=by
 rw[SY,W_fin];simp only[w_mRet,lV,w_mCall,w_mCons,cV,b7,eN,SD,if_true,w_mOp];have e:cK b3 (.str s) AV a=aX (.bl b4,a):=by rcases h with rfl|rfl|rfl<;>rfl
 rw[e,W_some];exact H
theorem Vi(k:Nat){w h:Int}{e:Int×Int}(j:cB e.1 e.2=b4)(h1:0<e.1/\e.1<4*w)(d:0<e.2/\e.2<4*h)(a:Hm)(Q:jz)(H:Q (.bl b4,a)):W (f (k+3) "is_inner_edge" [.int w,.int h,PP e] a) Q:=by
 rw[S4,W_fin];simp only[w_mRet,lV,w_mCall,w_mCons,cV,b7,cH];rw[SR,W_fin];simp only[w_mRet,lV,w_mCall,w_mCons,cV,b7,cH,eN,w_mOp,Sy,if_true];rw[show eZ [PP e] a=aX (.int 2,a)from rfl,W_some];simp only[w_eqI,beq_self_eq_true,if_true,PP,P,w_it20,w_it21,HG];rw[S1,W_fin];simp only[w_mRet,lV,w_mChain,b7,cH,eN,w_mOp,w_it20,w_it21,w_mul4,w_ltI,decide_eq_true h1.1,decide_eq_true h1.2,decide_eq_true d.1,decide_eq_true d.2,if_true];rw[Gg,W_fin];simp only[w_mSeq,w_mRet,w_mIfS,w_mNext,lV,w_mTest,b7,cH,eN,w_mOp,w_it20,w_it21,w_mod2,w_mod4,w_eqI,vH];have:=l9 j;cases c:e.1%2==1 with
 |true=>
  simp only[if_true];have b:(e.2%2==1)=true:=by simp only[beq_iff_eq]at c ⊢;omega
  rw[b];exact H
 |false=>
  simp only[Xp,if_false];have g:¬ e.1%2=1:=by simpa using c
  have b:(e.2%2==0)=true:=by simp only[beq_iff_eq];omega
  have i:(e.1%4==e.2%4)=false:=by simp only[beq_eq_false_iff_ne];omega
  simp only[b,i,if_true,a2l];exact H
noncomputable def qK(S:List ((Int×Int)×Str))(e:Int×Int):D:=match S.find? (λp=>decide (p.1=e))with|some p=>.str p.2|none=>.non
theorem Br:∀{S:List ((Int×Int)×Str)},(S.map (·.1)).Nodup->∀{p:(Int×Int)×Str},p∈S->qK S p.1=.str p.2
 |[],_,_,h=>nomatch h|x::S,nd,p,h=>by
  rw[Xa,XN]at nd;unfold qK;rw[ZA];rcases Xr.mp h with rfl|h
  ·rw[decide_eq_true rfl]
  ·have e:decide (x.1=p.1)=false:=decide_eq_false λe=>nd.1 (by rw[e];exact W0.mpr ⟨p,h,rfl⟩);rw[e];exact Br nd.2 h
theorem Vj(k:Nat){w h:Int}(hsz:(w,h)∈dO){S:List ((Int×Int)×Str)}(J:S.length<64)(v:((S.map (·.1)).map aO).Pairwise λx y=>HT.lexLt x y=b4)(E:∀p∈S,p.1∈bN w h)(ok:∀p∈S,HF p.2)
  {g:Hm}{a:Nat}(u:g[a]?=aX (.lst (S.map MD)))(Q:jz)(H:∀c,g<+:c->Q (SH w h S,c)):W (f (k+4) "sheet_of" [.int w,.int h,.loc a] g) Q:=by
 have nd:(S.map (·.1)).Nodup:=by
  have:((S.map (·.1)).map aO).Nodup:=v.imp λ{x y} n e=>by rw[e,mO]at n;cases n
  exact a6Q aO (λa b n e=>n (by rw[e])) this
 have F:=f7 _ hsz;refine cX (S5 (k+3) _ _ _ g) (AX (a9 rfl (Vg k F.1 F.2.1 _ _ (bG (w_mDNewT.mpr (fM (w_mForI.mpr (w_iSeq.mpr ⟨_,rfl,(fH (aE (aP _ _) u)).mpr ?_⟩))))))));refine jX (λi l c=>∃x y,l=[aX (.int w),aX (.int h),aX (.loc a),aX (.loc g.length),x,y]/\g<+:c/\c[g.length]?=aX (.dT (aQ (qK S) ((S.take i).map (·.1)))))
  ⟨aY,aY,rfl,aP _ _,by rw[a3I];exact bA _ _⟩ (by rintro _ _ _ ⟨_,_,_,p,_⟩;exact aE p u) ?_ ?_
 ·rintro i d l c hd ⟨x,y,rfl,s,m⟩;obtain⟨p,r,rfl⟩:=U4 hd;have j:p∈S:=Xn r;obtain⟨I,_,_,z,A⟩:=F.2.2.2.2.2.2.2 p.1 (E p j);have o:p.1∉(S.take i).map (·.1):=by rw[a0p];exact kQ nd (by rw[W6,r];rfl)
  have G:(aQ (qK S) ((S.take i).map (·.1))).length<W8:=by rw[WO,WO,Ys,Xh];omega
  refine⟨_,rfl,bG (bB rfl rfl (w_it20.mpr (AY (vP (jZ (a9 rfl (Vi k I z A _ _ ⟨rfl,rfl,AZ (AY (vP (jZ (c6 (aW (bB rfl rfl (w_it21.mpr ⟨_,rfl,Vh (k+2) (ok p j) _ _ ⟨rfl,rfl,AZ (AY (cZ (bB rfl rfl ((FT m (bM p.1)).mpr ?_))))⟩⟩)))))))⟩)))))))⟩;rw[qH o];refine⟨_,rfl,rfl,AZ (w_mPut.mpr (bB rfl rfl (w_it21.mpr ⟨_,rfl,_,rfl,(fX m (bM p.1) G).mpr ⟨_,_,rfl,cL s (WY _) _,?_⟩⟩)))⟩;rw[bY m,<- Br nd j,sO o,gM r,Xj];rfl
 ·rintro l c ⟨x,y,rfl,s,m⟩;rw[WO,Yj]at m;have e:uV (.loc g.length) c=aX (.tup (S.map MD),c):=by
   have B:bQ (S.map (·.1))=S.map (·.1):=Bi (v.imp λn=>v7 n);simp only[uV,m];rw[if_pos (by first|exact trivial|(rw[WO,WO];omega)),G3,B];unfold aQ;rw[W7,W7];have:S.map ((uU∘λq=>(aO q,qK S q))∘λx=>x.1)=S.map MD:=Xs λp r=>by show D.tup [.tup ((aO p.1).map D.int),qK S p.1]=MD p;rw[Br nd r];rfl
   rw[this]
  exact⟨rfl,cY (w_mTup.mpr (aW ⟨_,rfl,aW ⟨_,rfl,aW (W_bind.mpr ⟨_,rfl,_,e,_,rfl,by show(3:Nat)<=W8;decide,H _ s⟩)⟩⟩))⟩
theorem Vk(a:Hm)(p:(Int×Int)×Str):cG 7 a (MD p) (MD p)=aX true:=by
 obtain⟨⟨x,y⟩,s⟩:=p;have e:cG 7 a (MD ((x,y),s)) (MD ((x,y),s))=aX ((x==x&&(y==y&&b4))&&((s==s)&&b4)):=by kernel_rfl
 rw[e];simp
theorem HJ(a:Hm):∀T:List ((Int×Int)×Str),gA (cG 7 a) (T.map MD) (T.map MD)=aX b4
 |[]=>rfl|p::T=>by show(cG 7 a (MD p) (MD p)).bind (λb=>(gA (cG 7 a) (T.map MD) (T.map MD)).map λc=>b&&c)=_;rw[Vk,HJ a T];rfl
noncomputable abbrev ND(x:(Int×Int)×(Int×Int)):D:=.tup [PP x.1,PP x.2]
noncomputable def gN(rs:jq)(q:Int×Int):List ((Int×Int)×(Int×Int)):=rs.flatMap λr=>if sA r=q then[(sB r,r)]else if sB r=q then[(sA r,r)]else[]
theorem Vl(rs:jq)(r q:Int×Int):gN (rs++[r]) q=gN rs q++if sA r=q then[(sB r,r)]else if sB r=q then[(sA r,r)]else[]:=by unfold gN;rw[Zl,a0D,a1O,Yh]
theorem Vm{rs:jq}{q:Int×Int}{x:(Int×Int)×(Int×Int)}(h:x∈gN rs q):x.2∈rs/\((sA x.2=q/\x.1=sB x.2)\/(sB x.2=q/\x.1=sA x.2)):=by
 obtain⟨r,b,a⟩:=a1N.mp h;split at a
 ·rename_i e;cases Xe.mp a;exact⟨b,.inl ⟨e,rfl⟩⟩
 ·split at a
  ·rename_i e;cases Xe.mp a;exact⟨b,.inr ⟨e,rfl⟩⟩
  ·cases a
theorem Vn{rs:jq}{r p q:Int×Int}(h:r∈rs)(e:(sA r=p/\sB r=q)\/(sA r=q/\sB r=p)):∃x∈gN rs p,x.1=q:=by
 by_cases a:sA r=p
 ·refine⟨(sB r,r),a1N.mpr ⟨r,h,by rw[if_pos a];exact Xf ..⟩,?_⟩;rcases e with e|e
  ·exact e.2
  ·show sB r=q;rw[e.2,<- a,e.1]
 ·obtain⟨b,c⟩:=e.resolve_left λz=>a z.1;exact⟨(sA r,r),a1N.mpr ⟨r,h,by rw[if_neg a,if_pos c];exact Xf ..⟩,b⟩
theorem HK(q:Int×Int):∀rs:jq,(gN rs q).length<=rs.length
 |[]=>WY _|r::rs=>by
  show((if sA r=q then[(sB r,r)]else if sB r=q then[(sA r,r)]else[])++gN rs q).length<=_;have:=HK q rs;rw[W4,Xy];split
  ·show 1+_<=_;omega
  ·split
   ·show 1+_<=_;omega
   ·show 0+_<=_;omega
structure Nr(μ:Hm)(a b:Nat)(qs:jq)(L:Int×Int->List ((Int×Int)×(Int×Int))):Prop where
 dic:μ[a]?=aX (.dT (aQ (λq=>.loc (b+qs.idxOf q)) qs))
 at_:∀q∈qs,μ[b+qs.idxOf q]?=aX (.lst ((L q).map ND))
theorem Nr.more{d c:Hm}{a b:Nat}{qs:jq}{L:Int×Int->List ((Int×Int)×(Int×Int))}(N:Nr d a b qs L)(h:d<+:c):Nr c a b qs L:=⟨aE h N.dic,λq e=>aE h (N.at_ q e)⟩
theorem sS{qs:jq}{q:Int×Int}(h:q∈qs):qs.idxOf q<qs.length:=List.idxOf_lt_length_of_mem h
theorem Vo{qs:jq}{p q:Int×Int}(c:p∈qs)(d:q∈qs)(e:qs.idxOf p=qs.idxOf q):p=q:=by have a:=a4T (sS c);have b:=a4T (sS d);rw[<- a,<- b];congr 1
theorem Nr.app{j:Hm}{a b:Nat}{qs:jq}{L c:Int×Int->List ((Int×Int)×(Int×Int))}(N:Nr j a b qs L){q:Int×Int}(i:q∈qs)(e:∀p∈qs,p≠q->c p=L p):Nr (j.set (b+qs.idxOf q) (.lst ((c q).map ND))) a b qs c:=by
 have d:=N.at_ q i;refine⟨?_,λp g=>?_⟩
 ·rw[WT (λz=>by rw[z,N.dic]at d;cases d)];exact N.dic
 ·by_cases h:p=q
  ·subst h;exact bY d
  ·rw[WT (λz=>h (Vo g i (by omega))),e p g h];exact N.at_ p g
theorem Vp{qs:jq}(nd:qs.Nodup)(K:qs.length<=100){μ0 c:Hm}{l a:Nat}(u:μ0<+:c)(J:μ0.length<=a)(r:c[a]?=aX (.dT []))(gl:c[l]?=aX (.lst (qs.map PP))){v w y:Option D}{xs:List (Option D)}(Q:Fl×aG×Hm->Prop)
  (H:∀x b,μ0<+:b->c.length+qs.length<=b.length->Nr b a c.length qs (λ_=>[])->Q (.nx,v::w::y::aX (.loc a)::x::xs,b)) :
  W (dS (cI (.loc l)) (bT 4) (dJ (aA 3) (aA 4) (cD aD)) ((qs.map PP).length+1) 0 (v::w::y::aX (.loc a)::aY::xs) c) Q:=by
 have I:a<c.length:=(WR.mp r).1;have s:l≠a:=λe=>by rw[e,r]at gl;cases gl
 refine jX (λi g b=>∃x,g=v::w::y::aX (.loc a)::x::xs/\μ0<+:b/\b.length=c.length+i/\b[a]?=aX (.dT (aQ (λq=>.loc (c.length+qs.idxOf q)) (qs.take i)))/\(∀j,j<i->b[c.length+j]?=aX (.lst []))/\b[l]?=aX (.lst (qs.map PP)))
  ⟨aY,rfl,u,rfl,r,λj E=>absurd E (a1f _),gl⟩ (by rintro _ _ _ ⟨_,_,_,_,_,_,h⟩;exact h) ?_ ?_
 ·rintro i d g b hd ⟨x,rfl,p,n,m,o,B⟩;obtain⟨q,k,rfl⟩:=kM hd;have hi:i<qs.length:=(WR.mp k).1;have A:qs.idxOf q=i:=by rw[<- (WR.mp k).2];exact nd.idxOf_getElem i hi
  refine⟨_,rfl,w_mPut.mpr (w_mLst.mpr ⟨_,rfl,XJ _,_,rfl,_,rfl,(fX (aE (aP _ _) m) (bM q) (by rw[WO,Ys,Xh];omega)).mpr ?_⟩)⟩;have G:c9 (aQ (λq=>.loc (c.length+qs.idxOf q)) (qs.take i)) (aO q) (.loc b.length)=aQ (λq=>.loc (c.length+qs.idxOf q)) (qs.take (i+1)):=by rw[gM k,n,<- A];exact sO (v:=λq=>.loc (c.length+qs.idxOf q)) (by rw[A];exact kQ nd k)
  refine⟨_,rfl,cL (p.trans (aP _ _)) J _,by rw[XO,W4,n];rfl,?_,λj E=>?_,by rw[WT (XI s)];exact aE (aP _ _) B⟩
  ·rw[bY (aE (aP _ _) m)];exact congrArg (λz=>aX (C.dT z)) G
  ·rw[WT (by omega)];by_cases e:j=i
   ·rw[e,<- n];exact bA _ _
   ·exact aE (aP _ _) (o j (by omega))
 ·rintro g b ⟨x,rfl,p,n,m,o,B⟩;rw[WO]at n o;rw[WO,Yj]at m;exact H x b p (by omega) ⟨m,λq k=>o _ (sS k)⟩
theorem HL{c:Hm}{a b:Nat}{qs:jq}(nd:qs.Nodup){L:Int×Int->List ((Int×Int)×(Int×Int))}(N:Nr c a b qs L){q:Int×Int}(o:q∈qs)(z:(L q).length<1000){g:aG}{i j m:Nat}{x y:Int×Int}(hi:g[i]?=aX (aX (PP q)))(u:g[j]?=aX (aX (PP x)))(w:g[m]?=aX (aX (PP y)))(s:g[3]?=aX (aX (.loc a)))
  {Q:jz}(H:∀k,k q=L q++[(x,y)]->(∀p,p≠q->k p=L p)->Nr (c.set (b+qs.idxOf q) (.lst ((k q).map ND))) a b qs k->Q (.non,c.set (b+qs.idxOf q) (.lst ((k q).map ND)))) :
  W (dH fF (aC aJ (aA 3) (aA i)) (aB (bW (aB (aA j) (aB (aA m) aD))) aD) g c) Q:=by
 have r:=N.at_ q o;have v:∀{n:Nat}{d:D}{c:Hm},g[n]?=aX (aX d)->aA n g c=aX (d,c):=λ{n d c} h=>by unfold aA;rw[h]
 refine hU (bB (v s) (v hi) ((c4 (.inl N.dic) (bM q) (eU nd o)).mpr ⟨hV r,w_mCons.mpr (w_mTup.mpr (w_mCons.mpr ⟨_,v u,w_mCons.mpr ⟨_,v w,_,rfl,eB,_,rfl,(m7 r (by rw[WO,Xh];omega)).mpr ?_⟩⟩))⟩));have e:(λp=>if p=q then L q++[(x,y)]else L p) q=L q++[(x,y)]:=if_pos rfl;have:=H (λp=>if p=q then L q++[(x,y)]else L p) e (λp l=>if_neg l) (N.app o λp _ l=>if_neg l);rw[if_pos rfl,Xj]at this;exact this
theorem Vq(k:Nat){qs rs:jq}(nd:qs.Nodup)(hl:rs.length<=100)(X:∀r∈rs,cB r.1 r.2=b4/\sA r∈qs/\sB r∈qs){μ0 n:Hm}{l a b:Nat}(v:μ0<+:n)(lb:μ0.length<=b)(ll:b+qs.length<=l)(N:Nr n a b qs λ_=>[])(gl:n[l]?=aX (.lst (rs.map PP))){w A B E:Option D}{xs:List (Option D)}(Q:Fl×aG×Hm->Prop)
  (H:∀x y z c,μ0<+:c->Nr c a b qs (gN rs)->Q (.nx,w::A::B::aX (.loc a)::E::x::y::z::xs,c)) :
  W (dS (cI (.loc l)) (bT 5) (F0 (k+1)) ((rs.map PP).length+1) 0 (w::A::B::aX (.loc a)::E::aY::aY::aY::xs) n) Q:=by
 refine jX (λi j c=>∃x y z,j=w::A::B::aX (.loc a)::E::x::y::z::xs/\μ0<+:c/\Nr c a b qs (gN (rs.take i))/\c[l]?=aX (.lst (rs.map PP))) ⟨aY,aY,aY,rfl,v,N,gl⟩ (by rintro _ _ _ ⟨_,_,_,_,_,_,h⟩;exact h) ?_ ?_
 ·rintro i d j c hd ⟨x,y,z,rfl,p,N,g⟩;obtain⟨r,m,rfl⟩:=kM hd;obtain⟨U,G,I⟩:=X r (Xn m);have ne:=sR U;have len:∀q,(gN (rs.take i) q).length<900:=λq=>by have:=HK q (rs.take i);have:=Yx i rs;omega
  refine⟨_,rfl,w_mSeq.mpr (w_mAsg.mpr (a9 rfl (Hs k r _ _ λb' Z u T=>(FH T).mpr ?_)))⟩;refine AX (HL nd (N.more u) G (a1j (len _) (by decide)) rfl rfl rfl rfl λJ M o K=>w_mDrop.mpr ?_);have Y:(J (sB r)).length<1000:=by rw[o _ (XI ne)];exact a1j (len _) (by decide)
  have ia:=sS G;have ib:=sS I;refine HL nd K I Y rfl rfl rfl rfl λL2 O R L=>⟨_,_,_,rfl,cL (cL (p.trans u) (by omega) _) (by omega) _,?_,by rw[WT (by omega),WT (by omega)];exact aE u g⟩;have e:L2=gN (rs.take (i+1)):=funext λq=>by
   rw[gM m,Vl];by_cases h:q=sB r
   ·rw[h,O,o _ (XI ne),if_neg ne,if_pos rfl]
   ·rw[R _ h];by_cases s:q=sA r
    ·rw[s,M,if_pos rfl]
    ·rw[o _ s,if_neg (XI s),if_neg (XI h),Yh]
  rw[<- e];exact L
 ·rintro j c ⟨x,y,z,rfl,p,N,g⟩;rw[WO,Yj]at N;exact H x y z c p N
noncomputable def dZ(r:Int×Int):Int:=if r.1%2=1 then(if r.1%4=r.2%4 then 2 else 3)else if r.2%4=0 then 0 else 1
theorem HM(r:Int×Int):0<=dZ r/\dZ r<4:=by unfold dZ;split<;>split<;>decide
theorem Vr(k:Nat)(r:Int×Int)(a:Hm)(Q:jz)(H:Q (.int (dZ r),a)):W (f (k+1) "_law_kind" [PP r] a) Q:=by
 rw[TJ];unfold dZ at H;refine vO rfl (AW rfl (λh=>?_) λh=>?_)
 ·rw[if_pos (by simpa using h)]at H;by_cases e:r.1%4=r.2%4
  ·rw[if_pos e]at H;refine⟨_,rfl,?_⟩;simp only[beq_iff_eq.mpr e];exact H
  ·rw[if_neg e]at H;refine⟨_,rfl,?_⟩;simp only[beq_eq_false_iff_ne.mpr e];exact H
 ·rw[if_neg (by simpa using h)]at H;by_cases e:r.2%4=0
  ·rw[if_pos e]at H;refine⟨_,rfl,?_⟩;simp only[beq_iff_eq.mpr e];exact H
  ·rw[if_neg e]at H;refine⟨_,rfl,?_⟩;simp only[beq_eq_false_iff_ne.mpr e];exact H
structure LcF(F:Int×Int->Ly)(cr:jq)(r:Int×Int):Prop where
 y:r∈cr->F (sB r)=bH (bJ (dZ r) (eC (dZ r) r)) (F (sA r))/\F (sA r)=bH (bJ (dZ r) (eC (dZ r) r)) (F (sB r))
 n:r∉cr->F (sA r)=F (sB r)
theorem LcF.step{F:Int×Int->Ly}{a:jq}{r p q:Int×Int}(h:LcF F a r)(e:(sA r=p/\q=sB r)\/(sB r=p/\q=sA r)):(r∈a->F q=bH (bJ (dZ r) (eC (dZ r) r)) (F p))/\(r∉a->F q=F p):=by
 rcases e with⟨rfl,rfl⟩|⟨rfl,rfl⟩
 ·exact⟨λz=>(h.y z).1,λz=>(h.n z).symm⟩
 ·exact⟨λz=>(h.y z).2,λz=>h.n z⟩
theorem HN(a:Hm)(q:Int×Int):∀ps:jq,jQ a (PP q) (ps.map PP)=aX (ps.contains q)
 |[]=>rfl|p::ps=>by have e:cG 8 a (PP p) (PP q)=aX (p.1==q.1&&(p.2==q.2&&b4)):=rfl;show(cG 8 a (PP p) (PP q)).bind (λb=>(jQ a (PP q) (ps.map PP)).map λc=>b||c)=_;rw[e,HN a q ps,List.contains_cons];show aX ((p.1==q.1&&(p.2==q.2&&b4))||ps.contains q)=_;congr 2;rw[a2A];rw[YV];simp only[WZ,beq_iff_eq];exact⟨λz=>XH z.1.symm z.2.symm,λz=>by rw[z];exact⟨rfl,rfl⟩⟩
theorem Vs{b:Hm}{a:Nat}{ps:jq}{q:Int×Int}{Q:jz}(h:b[a]?=aX (.lst (ps.map PP))):W (cK b3 (PP q) (.loc a) b) Q↔Q (.bl (ps.contains q),b):=by
 have:cK b3 (PP q) (.loc a) b=aX (.bl (ps.contains q),b):=by simp only[cK,h,lI,bK,Xi,HN,Xm,Xp,if_false]
 rw[this];exact W_some
structure Sr(μ0:Hm)(F:Int×Int->Ly)(qs:jq)(c d:Nat)(K S:jq)(μ:Hm):Prop where
 pre:μ0<+:μ
 dic:μ[c]?=aX (.dT (aQ (λq=>LD (F q)) K))
 row:μ[d]?=aX (.lst (S.map PP))
 nd:K.Nodup
 sub:∀q∈K,q∈qs
 st:∀q∈S,q∈K
noncomputable abbrev Rw(w h:Int)(c a n:Nat)(g j k l:Option D)(i b d e:Option D):aG:=[aX (.int w),aX (.int h),aX (.loc c),aX (.loc a),g,i,j,k,l,aX (.loc n),aX (.loc (n+1)),b,d,e]
theorem Vt(k:Nat){F:Int×Int->Ly}(U:∀q,Dih (F q)){o:jq}{μ0 i:Hm}{w h:Int}{c a n:Nat}(hc:μ0[c]?=aX (.lst (o.map PP)))(I:μ0.length<=n)(p:μ0<+:i){K:jq}(nd:K.Nodup)(hl:K.length<900)(g:i[n]?=aX (.dT (aQ (λq=>LD (F q)) K)))
  {b q r:Int×Int}(E:b∈K)(G:q∉K)(O:r∈o->F q=bH (bJ (dZ r) (eC (dZ r) r)) (F b))(R:r∉o->F q=F b){J L M N B:Option D}(Q:Fl×aG×Hm->Prop)
  (H:∀x e,μ0<+:e->e[n]?=aX (.dT (aQ (λq=>LD (F q)) (K++[q])))->(∀d y,i[d]?=aX y->d≠n->e[d]?=aX y)->Q (.nx,Rw w h c a n J L M N (aX (PP r)) (aX (PP b)) (aX (PP q)) x,e)) :
  W (F3 (k+1) (Rw w h c a n J L M N (aX (PP r)) (aX (PP b)) (aX (PP q)) B) i) Q:=by
 have X:(aQ (λq=>LD (F q)) K).length<W8:=by rw[WO,Xh];omega
 refine w_mSeq.mpr (w_mPut.mpr (bB rfl rfl ((c4 (.inl g) (bM b) (eU nd E)).mpr ⟨_,rfl,_,rfl,(fX g (bM q) X).mpr ?_⟩)));have T:c9 (aQ (λq=>LD (F q)) K) (aO q) (LD (F b))=aQ (λq=>LD (F q)) K++[(aO q,LD (F b))]:=G9 (qH G);have j:(i.set n (.dT (c9 (aQ (λq=>LD (F q)) K) (aO q) (LD (F b)))))[n]?=aX (.dT (aQ (λq=>LD (F q)) K++[(aO q,LD (F b))])):=by rw[bY g,T]
 have v:=cL p I (C.dT (c9 (aQ (λq=>LD (F q)) K) (aO q) (LD (F b))));have A:∀d y,i[d]?=aX y->d≠n->(i.set n (.dT (c9 (aQ (λq=>LD (F q)) K) (aO q) (LD (F b)))))[d]?=aX y:=λd y hd s=>by rw[WT (XI s)];exact hd
 generalize i.set n (.dT (c9 (aQ (λq=>LD (F q)) K) (aO q) (LD (F b))))=μ1 at j v A;refine w_mIfS.mpr (cZ (bB rfl rfl ((Vs (aE v hc)).mpr ⟨_,rfl,?_⟩)));by_cases u:r∈o
 ·have Y:bS (aQ (λq=>LD (F q)) K++[(aO q,LD (F b))]) (aO b)=aX (LD (F b)):=by have:=eU (v:=λq=>LD (F q)) nd E;unfold bS at this ⊢;rw[List.find?_append,Option.map_or,this];rfl
  rw[if_pos (XA.mpr u)];refine bG (a9 rfl (Vr k r _ _ ?_));refine w_mPut.mpr (c6 (aW (c6 (aW ⟨_,rfl,aW (a9 rfl (sJ k r (dZ r) (HM r) _ _ λZ l=>⟨_,rfl,?_⟩))⟩))));refine Bc k (dZ r) _ (HM r) _ _ λμ3 m=>aW (bB rfl rfl ((c4 (.inl (aE (l.trans m) j)) (bM b) Y).mpr ⟨_,rfl,?_⟩));refine(vZ k _ _ (oO _ _) (U b) _ _).mpr ⟨_,rfl,_,rfl,(fX (aE (l.trans m) j) (bM q) ?_).mpr ?_⟩
  ·rw[W4,WO,Xh];show K.length+1<_;omega
  ·refine H _ _ (cL (v.trans (l.trans m)) I _) ?_ λd y hd s=>by rw[WT (XI s)];exact aE (l.trans m) (A d y hd s)
   rw[bY (aE (l.trans m) j),Ha (qH G),<- O u,aQ,aQ,Xj];rfl
 ·rw[if_neg (λz=>u (XA.mp z))];refine w_mNext.mpr (H _ _ v ?_ A);rw[j,<- R u,aQ,aQ,Xj];rfl
theorem Vu{c:MT}{b:MS}{Q:Fl×aG×Hm->Prop}(I:Nat->aG->Hm->Prop)
  (u:∀m a g,I m a g->W (c a g) λp=>if p.1=b4 then W (b a p.2) λq=>match q.1 with
   |.nx=>∃e,e<m/\I e q.2.1 q.2.2|.ct=>∃e,e<m/\I e q.2.1 q.2.2|.bk=>Q (.nx,q.2.1,q.2.2)
   |.rt d=>Q (.rt d,q.2.1,q.2.2)else Q (.nx,a,p.2)):∀(n m:Nat)(a:aG)(g:Hm),m<n->I m a g->W (nY c b n a g) Q:=by
 intro n;induction n with
 |zero=>intro m a g h;omega|succ n l=>
  intro m a g z s;unfold nY;rw[W_bind];refine bP (u m a g s) λp k=>?_;obtain⟨v,w⟩:=p;cases v with
  |false=>exact W_some.mpr (by simpa using k)|true=>
   simp only[if_true]at k;dsimp only;rw[W_bind];refine bP k λq i=>?_;obtain⟨o,y,x⟩:=q;cases o with
   |nx=>obtain⟨e,r,j⟩:=i;exact l e _ _ (by omega) j|ct=>obtain⟨e,r,j⟩:=i;exact l e _ _ (by omega) j|bk=>exact W_some.mpr i|rt d=>exact W_some.mpr i
theorem Vv{c:MT}{b:MS}{a:aG}{e:Hm}{Q:Fl×aG×Hm->Prop}(I:Nat->aG->Hm->Prop)(m:Nat)(i:m<1000000000)(h:I m a e)
  (j:∀m a e,I m a e->W (c a e) λp=>if p.1=b4 then W (b a p.2) λq=>match q.1 with
   |.nx=>∃g,g<m/\I g q.2.1 q.2.2|.ct=>∃g,g<m/\I g q.2.1 q.2.2|.bk=>Q (.nx,q.2.1,q.2.2)
   |.rt d=>Q (.rt d,q.2.1,q.2.2)else Q (.nx,a,p.2)):W (pK qC c b a e) Q:=by
 unfold pK;exact Vu I j qC m a e (by unfold qC;exact i) h
theorem Sr.len{μ0:Hm}{F:Int×Int->Ly}{qs:jq}{c d:Nat}{K S:jq}{a:Hm}(I:Sr μ0 F qs c d K S a):K.length<=qs.length:=wD I.nd I.sub
theorem Vx(k:Nat){F:Int×Int->Ly}(hF:∀q,Dih (F q)){E qs:jq}(lq:qs.length<=100){μ0 R:Hm}{w h:Int}{c a n m:Nat}(hc:μ0[c]?=aX (.lst (E.map PP)))(ln:μ0.length<=n){L:List ((Int×Int)×(Int×Int))}(Y:μ0[m]?=aX (.lst (L.map ND))){K S:jq}(lS:S.length<=100){b:Int×Int}(hh:b∈K)(I:Sr μ0 F qs n (n+1) K S R)
  (hL:∀x∈L,x.1∈qs/\(x.2∈E->F x.1=bH (bJ (dZ x.2) (eC (dZ x.2) x.2)) (F b))/\(x.2∉E->F x.1=F b)){G J M N r g j:Option D}(Q:Fl×aG×Hm->Prop)
  (H:∀T r g j l,Sr μ0 F qs n (n+1) (K++T) (S++T) l->(∀x∈L,x.1∈K++T)->Q (.nx,Rw w h c a n G J M N r (aX (PP b)) g j,l)) :
  W (dS (cI (.loc m)) (cP [12,5]) (F4 (k+1)) ((L.map ND).length+1) 0 (Rw w h c a n G J M N r (aX (PP b)) g j) R) Q:=by
 refine jX (λi s l=>∃T r g j,s=Rw w h c a n G J M N r (aX (PP b)) g j/\Sr μ0 F qs n (n+1) (K++T) (S++T) l/\∀x∈L.take i,x.1∈K++T) ⟨[],r,g,j,rfl,by rw[Yh,Yh];exact I,λx B=>nomatch B⟩ (λ_ _ _ ⟨_,_,_,_,_,I,_⟩=>aE I.pre Y) ?_ ?_
 ·rintro i d s l hd ⟨T,r,g,j,rfl,I,z⟩;rw[W6]at hd;obtain⟨x,B,rfl⟩:=WS.mp hd;obtain⟨Z,h2,h3⟩:=hL x (Xn B);refine⟨_,rfl,w_mIfS.mpr (cZ (bB rfl rfl ((FT I.dic (bM x.1)).mpr ⟨_,rfl,?_⟩)))⟩;have O:=gM B;by_cases A:x.1∈K++T
  ·refine dN (by rw[eU I.nd A];rfl) (w_mNext.mpr ⟨T,_,_,_,rfl,I,λy p=>?_⟩);rw[O]at p;rcases XS.mp p with p|p
   ·exact z y p
   ·rw[Xe.mp p];exact A
  ·refine dY (by rw[qH A];rfl) ?_;have lK:=I.len;have e0:T.length<=100:=by rw[W4]at lK;omega
   refine AX (hU ⟨_,rfl,hV I.row,aW ⟨_,rfl,_,rfl,(m7 I.row (by rw[WO,W4,Xh];omega)).mpr ?_⟩⟩);have U:(S++T).map PP++[PP x.1]=(S++(T++[x.1])).map PP:=by rw[<- Y2,Xj (l₂:=[x.1])];rfl
   rw[U];refine Vt k hF hc ln (cL I.pre (by omega) _) I.nd (by omega) (by rw[WT (by omega)];exact I.dic) (Yw _ hh) A h2 h3 _ λy μ2 p2 X k2=>?_;refine⟨T++[x.1],_,_,_,rfl,⟨p2,by rw[<- Y2];exact X,k2 _ _ (bY I.row) (by omega),?_,λq o=>?_,λq o=>?_⟩,λy p=>?_⟩
   ·rw[<- Y2,Yt];exact⟨I.nd,by simp,λu hu v hv e=>A (by rw[Xe.mp hv]at e;exact e▸hu)⟩
   ·rw[<- Y2]at o;rcases XS.mp o with o|o
    ·exact I.sub q o
    ·rw[Xe.mp o];exact Z
   ·rw[<- Y2]at o ⊢;rcases XS.mp o with o|o
    ·exact Yw _ (I.st q o)
    ·exact X3 _ o
   ·rw[<- Y2];rw[O]at p;rcases XS.mp p with p|p
    ·exact Yw _ (z y p)
    ·rw[Xe.mp p];exact X3 _ (Xf ..)
 ·rintro s l ⟨T,r,g,j,rfl,I,z⟩;rw[WO,Yj]at z;exact H T r g j l I z
theorem Vy{b:Hm}{a:Nat}{xs:List D}{y:D}{Q:jz}(h:b[a]?=aX (.lst (xs++[y]))):W (pH (.loc a) [] b) Q↔Q (y,b.set a (.lst xs)):=by simp only[pH,h];simp[W_some]
theorem Vz(k:Nat){F:Int×Int->Ly}(hF:∀q,Dih (F q)){Z qs rs:jq}(nq:qs.Nodup)(lq:qs.length<=100)(hr:∀r∈rs,LcF F Z r/\sA r∈qs/\sB r∈qs){μ0 μ:Hm}{w h:Int}{c a b n:Nat}(hc:μ0[c]?=aX (.lst (Z.map PP)))(ln:μ0.length<=n)(N:Nr μ0 a b qs (gN rs)){f0:Int×Int}(I:Sr μ0 F qs n (n+1) [f0] [f0] μ)
  {M s O R U j l o:Option D}(Q:Fl×aG×Hm->Prop)(H:∀K s j l o p,Sr μ0 F qs n (n+1) K [] p->f0∈K->(∀q∈K,∀x∈gN rs q,x.1∈K)->Q (.nx,Rw w h c a n M O R U s j l o,p)) :
  W (pK qC (a8 (aC (aR b4) (aA 10) (cD aD))) (F5 (k+1)) (Rw w h c a n M O R U s j l o) μ) Q:=by
 refine Vv (λm B p=>∃K S s j l o,B=Rw w h c a n M O R U s j l o/\Sr μ0 F qs n (n+1) K S p/\S.Nodup/\f0∈K/\(∀q∈K,q∉S->∀x∈gN rs q,x.1∈K)/\m=2*(qs.length-K.length)+S.length) (2*(qs.length-1)+1) (by omega)
  ⟨[f0],[f0],_,_,_,_,rfl,I,by simp,Xf ..,λq g E=>absurd g E,rfl⟩ ?_
 rintro m B p ⟨K,S,s,j,l,o,rfl,I,y,hf,J,rfl⟩;refine cZ (aL ⟨_,rfl,w_mLst.mpr ⟨_,rfl,XJ _,(HD (aE (aP _ _) I.row) (bA _ _)).mpr ⟨_,rfl,?_⟩⟩⟩);have i:Sr μ0 F qs n (n+1) K S (p++[C.lst []]):=⟨I.pre.trans (aP _ _),aE (aP _ _) I.dic,aE (aP _ _) I.row,I.nd,I.sub,I.st⟩;generalize p++[C.lst []]=μ1 at i;clear I;rcases List.eq_nil_or_concat S with rfl|⟨S,d,rfl⟩
 ·refine dN rfl ?_;exact H K s j l o μ1 i hf λq g=>J q g (by simp)
 ·rw[List.concat_eq_append]at y i J ⊢;have hb:(!((S++[d]).map PP).isEmpty)=true:=by simp
  refine dY hb ?_;have hh:d∈K:=i.st d (by simp);have nh:d∉S:=λz=>by rw[Yt]at y;exact y.2.2 d z d (by simp) rfl
  have lS:(S++[d]).length<=100:=by have:=wD y (λq g=>i.sub q (i.st q g));omega
  rw[W4]at lS;have g1:=i.row;rw[Xj]at g1;refine bG (hU ⟨_,rfl,hV i.row,_,rfl,(Vy g1).mpr ?_⟩);have X:Sr μ0 F qs n (n+1) K S (μ1.set (n+1) (.lst (S.map PP))):=⟨cL i.pre (by omega) _,by rw[WT (by omega)];exact i.dic,bY i.row,i.nd,i.sub,λq g=>i.st q (Yw _ g)⟩;have Y:=N.more X.pre;have g:=i.sub d hh;refine w_mForI.mpr (w_iSeq.mpr (bB rfl rfl ((c4 (.inl Y.dic) (bM d) (eU nq g)).mpr ((fH (Y.at_ d g)).mpr ?_))));refine Vx k hF lq hc ln (N.at_ d g) (by omega) hh X (λx A=>?_) _ λT y5 y12 y13 μ3 G hT=>?_
  ·obtain⟨h1,h2⟩:=Vm A;obtain⟨l1,q1,q2⟩:=hr x.2 h1;refine⟨?_,l1.step h2⟩;rcases h2 with⟨_,e⟩|⟨_,e⟩
   ·rw[e];exact q2
   ·rw[e];exact q1
  ·have lK:=G.len;rw[W4]at lK;have L:=G.nd;rw[Yt]at L;refine⟨_,?_,K++T,S++T,_,_,_,_,rfl,G,?_,Yw _ hf,λq g E x A=>?_,rfl⟩
   ·rw[W4,W4,W4];show _<_+(_+1);omega
   ·rw[Yt];rw[Yt]at y;exact⟨y.1,L.2.1,λu hu v hv e=>L.2.2 u (i.st u (Yw _ hu)) v hv e⟩
   ·by_cases e:q=d
    ·rw[e]at A;exact hT x A
    ·rcases XS.mp g with g|g
     ·exact Yw _ (J q g (λz=>(XS.mp z).elim (λz=>E (Yw _ z)) λz=>e (Xe.mp z)) x A)
     ·exact absurd (X3 _ g) E
noncomputable def sT(q:Int×Int):Int×Int:=if q.1%4=1 then(if q.1=1 then(if q.2=2 then q else(q.1+1,q.2-1))else(q.1-2,q.2))else if q.1%4=3 then(q.1-1,q.2-1)else if q.2%4=3 then(q.1-1,q.2-1)else if q.2=1 then(q.1-1,q.2+1)else(q.1,q.2-2)
noncomputable def Bs:Nat->Int×Int->Int×Int
 |0,q=>q|n+1,q=>Bs n (sT q)
theorem Bt:∀p∈dO,(∀q∈bE p.1 p.2,Bs 30 q=(1,2)/\(q=(1,2)\/(sT q∈bE p.1 p.2/\((bN p.1 p.2).any λr=>(sA r==sT q&&sB r==q)||(sA r==q&&sB r==sT q))=b4)))/\(bE p.1 p.2).head?=aX (1,2):=by decide +kernel
theorem HP{w h:Int}(g:(w,h)∈dO){K:jq}(b:(1,2)∈K)(c:∀q∈K,∀x∈gN (bN w h) q,x.1∈K):∀(n:Nat)(q:Int×Int),q∈bE w h->Bs n q=(1,2)->q∈K
 |0,q,_,e=>by rw[show q=(1,2)from e];exact b
 |n+1,q,hq,e=>by
  rcases((Bt _ g).1 q hq).2 with a|⟨a,i⟩
  ·rw[a];exact b
  ·have k:=HP g b c n (sT q) a e;obtain⟨r,l,d⟩:=List.any_eq_true.mp i;simp only[Y3,WZ,beq_iff_eq]at d;obtain⟨x,m,j⟩:=Vn l d;exact j▸c _ k x m
theorem VA{b:Hm}{a:Nat}{v:Int×Int->D}{q:Int×Int}{qs:jq}{Q:jz}(h:b[a]?=aX (.dT (aQ v (q::qs))))(d:((q::qs).map aO).Pairwise λx y=>HT.lexLt x y=b4):W (oH [.loc a] b) Q↔Q (PP q,b):=by
 have e:((aQ v qs).all λp=>!HT.lexLt p.1 (aO q))=true:=YB.mpr λp c=>by obtain⟨x,g,rfl⟩:=W0.mp c;have:=(a2D.mp d).1 (aO x) (W0.mpr ⟨x,g,rfl⟩);rw[Z4];exact v7 this
 have:oH [.loc a] b=aX (PP q,b):=by simp only[oH,h,aQ,Xa];rw[if_pos e];rfl
 rw[this];exact W_some
theorem VB{i:Nat}{mv:ME}{b:aG}{a:Hm}{q:Int×Int}{y:D}{Q:jz}(h:b[i]?=aX (aX (PP q)))(c:∀a,mv b a=aX (y,a))(H:Q (.loc a.length,a++[.dT [(aO q,y)]])):W (pW (aA i) mv b a) Q:=by
 have:pW (aA i) mv b a=aX (.loc a.length,a++[.dT [(aO q,y)]]):=by unfold pW aA;simp only[h,Xi,c,bA];rw[bM];show aX (D.loc a.length,(a++[C.dT []]).set a.length (C.dT [(aO q,y)]))=_;rw[vT]
 exact⟨_,this,H⟩
theorem qL{qs:jq}(up:(qs.map aO).Pairwise λx y=>HT.lexLt x y=b4):qs.Nodup:=by rw[a0C]at up;exact up.imp λ{x y} h e=>by rw[e,mO]at h;exact Xo h
theorem VC(k:Nat){w h:Int}(p:(w,h)∈dO){F:Int×Int->Ly}(M:∀q,Dih (F q))(f0:F (1,2)=c7){x:jq}(N:∀r∈bN w h,LcF F x r){g:Hm}{c:Nat}(hc:g[c]?=aX (.lst (x.map PP)))(Q:jz)
  (H:∀a row l,g<+:l->l[a]?=aX (.dT (aQ (λq=>LD (F q)) row))->row.Perm (bE w h)->Q (.loc a,l)):W (f (k+2) "_law_ways" [.int w,.int h,.loc c] g) Q:=by
 obtain⟨hw,y,z,_,up,A,_,fr⟩:=f7 _ p;have up:=nB up;replace z:(bE w h).length<=48:=z;replace A:(bN w h).length<=64:=A;have nd:(bE w h).Nodup:=qL up;refine cX (TK (k+1) _ _ _ g) (bG (w_mDNewT.mpr (fM (w_mForI.mpr (w_iSeq.mpr (a9 rfl (G0 k w h hw y _ _ ((fH (bA _ _)).mpr ?_))))))));refine Vp (μ0:=g) nd (by omega) ((aP _ _).trans (aP _ _)) (WY _) (aE (aP _ _) (bA _ _)) (bA _ _) _ λY X G oM s=>⟨rfl,?_⟩;have E:g.length<=((g++[C.dT []])++[C.lst ((bE w h).map PP)]).length:=AO ((aP _ _).trans (aP _ _));generalize((g++[C.dT []])++[C.lst ((bE w h).map PP)]).length=b at oM s E;refine fM (w_mForI.mpr (w_iSeq.mpr (a9 rfl (Bo k w h hw y _ _ ((fH (bA _ _)).mpr ?_)))));refine Vq k (rs:=bN w h) nd (by omega) (λr j=>⟨(fr r j).1,(fr r j).2.1,(fr r j).2.2.1⟩) (G.trans (aP _ _)) E oM (s.more (aP _ _)) (bA _ _) _ λZ x6 x7 d I v=>⟨rfl,?_⟩;clear s oM G;have hd:=(Bt _ p).2;obtain⟨n,i⟩:∃n,bE w h=(1,2)::n:=by
  cases e:bE w h with
  |nil=>rw[e]at hd;cases hd|cons q n=>rw[e]at hd;cases hd;exact⟨n,rfl⟩
 refine bG (a9 rfl ((VA (q:=(1,2)) (qs:=n) (by rw[<- i];exact v.dic) (by rw[<- i];exact up)).mpr ?_));refine bG (VB (q:=(1,2)) (y:=LD c7) rfl (λ_=>rfl) (bG (w_mLst.mpr ⟨_,rfl,oM,fM ?_⟩)));have O:(1,2)∈bE w h:=by rw[i];exact Xf ..
 have B:(d++[C.dT [(aO (1,2),LD c7)]]).length=d.length+1:=by simp
 rw[B];refine Vz k (μ0:=d) (n:=d.length) (f0:=(1,2)) M nd (by omega) (λr j=>⟨N r j,(fr r j).2.1,(fr r j).2.2.1⟩) (aE I hc) (WY _) v ⟨(aP _ _).trans (aP _ _),?_,?_,by simp,λq m=>by rw[Xe.mp m];exact O,λq m=>m⟩ _ ?_
 ·rw[aE (aP _ _) (bA _ _)];show _=aX (C.dT [(aO (1,2),LD (F (1,2)))]);rw[f0]
 ·rw[<- B];exact bA _ _
 ·intro K y5 R T U u o L J;refine⟨rfl,cY ⟨_,rfl,H _ K u (I.trans o.pre) o.dic ?_⟩⟩;exact(a1o o.nd nd).mpr λq=>⟨o.sub q,λm=>HP p L J 30 q m ((Bt _ p).1 q m).1⟩
noncomputable def fN(X:List Int):Nat->Int×Int
 |0=>(1,0)|c+1=>if(X.any λx=>x==4*((c:Int)+1))=b4 then(-(fN X c).1,(fN X c).1*(8*((c:Int)+1))+(fN X c).2)else fN X c
noncomputable def mE(X Y:List Int)(q:Int×Int):Ly:=⟨(fN X (q.1/4).toNat).1,0,0,(fN Y (q.2/4).toNat).1,(fN X (q.1/4).toNat).2,(fN Y (q.2/4).toNat).2⟩
theorem sU(X:List Int):∀c:Nat,((fN X c).1=1\/(fN X c).1=-1)/\(fN X c).2%4=0
 |0=>⟨.inl rfl,rfl⟩|c+1=>by
  obtain⟨a,b⟩:=sU X c;unfold fN;split
  ·dsimp only;rcases a with h|h<;>rw[h]<;>exact⟨by decide,by omega⟩
  ·exact⟨a,b⟩
theorem Bu(X Y:List Int)(q:Int×Int):Dih (mE X Y q):=.inl ⟨rfl,rfl,(sU X _).1,(sU Y _).1⟩
noncomputable def kT(X Y:List Int)(r:Int×Int):Bool:=(r.1%4==0&&(r.2%4==2&&X.any λx=>x==r.1))||(r.2%4==0&&(r.1%4==2&&Y.any λx=>x==r.2))
theorem HQ{X:List Int}{c d:Nat}{y:Int}(hd:d=c+1)(a:y=4*((c:Int)+1)):fN X d=if(X.any λx=>x==y)=b4 then(-(fN X c).1,(fN X c).1*(2*y)+(fN X c).2)else fN X c:=by subst hd a;show(if _ then(_,_*(8*((c:Int)+1))+_)else _)=_;rw[show(2:Int)*(4*((c:Int)+1))=8*((c:Int)+1) by omega]
theorem HR(a d e g y:Int):bH (bJ 0 y) ⟨a,0,0,d,e,g⟩=⟨a,0,0,-d,e,d*(2*y)+g⟩:=by simp only[bH,bJ,if_true,a4L,a4v,a4t,a1k,a4u,a7v];rfl
theorem HS(a d e g y:Int):bH (bJ 1 y) ⟨a,0,0,d,e,g⟩=⟨-a,0,0,d,a*(2*y)+e,g⟩:=by simp only[bH,bJ,show((1:Int)=0)=False from by simp,if_false,if_true,a4L,a4v,a4t,a1k,a4u,a7v];rfl
theorem VD{X Y:List Int}{r:Int×Int}(q:cB r.1 r.2=b4)(h1:0<r.1)(p:0<r.2){k:jq}(hc:r∈k↔kT X Y r=b4):LcF (mE X Y) k r:=by
 obtain⟨x,y⟩:=r;dsimp only at h1 p;unfold kT at hc;rcases l9 q with⟨c,b⟩|⟨c,b,d⟩|⟨c,b,d⟩<;>dsimp only at c b hc
 ·have i:(x%4==0)=false:=by rw[beq_eq_false_iff_ne];omega
  have j:(y%4==0)=false:=by rw[beq_eq_false_iff_ne];omega
  rw[i,j]at hc;refine⟨λz=>by simpa using hc.mp z,λ_=>?_⟩;unfold mE sA sB;dsimp only;rw[if_pos c,if_pos c];dsimp only;rw[show(y+2-y%4)/4=y/4 by omega,show(x+2-x%4)/4=x/4 by omega]
 ·dsimp only at d;have i:(x%4==0)=false:=by rw[beq_eq_false_iff_ne];omega
  have j:(y%4==0)=true:=by rw[beq_iff_eq];exact b
  have m:(x%4==2)=true:=by rw[beq_iff_eq];exact d
  rw[i,j,m]at hc;have l:dZ (x,y)=0:=by unfold dZ;dsimp only;rw[if_neg (by omega),if_pos b]
  have g:sA (x,y)=(x,y-1):=by unfold sA;dsimp only;rw[if_neg (by omega),if_pos b]
  have h:sB (x,y)=(x,y+1):=by unfold sB;dsimp only;rw[if_neg (by omega),if_pos b]
  have a:=HQ (X:=Y) (c:=((y-1)/4).toNat) (d:=((y+1)/4).toNat) (y:=y) (by omega) (by omega);have o:(x,y)∈k↔(Y.any λz=>z==y)=true:=hc.trans (by simp);refine⟨λz=>?_,λz=>?_⟩
  ·rw[l,g,h,show eC 0 (x,y)=y from rfl];rw[if_pos (o.mp z)]at a;unfold mE;dsimp only;rw[a,HR,HR,a7t,a7u,a4o];exact⟨rfl,rfl⟩
  ·rw[g,h];rw[if_neg (λe=>z (o.mpr e))]at a;unfold mE;dsimp only;rw[a]
 ·dsimp only at d;have i:(x%4==0)=true:=by rw[beq_iff_eq];exact d
  have j:(y%4==0)=false:=by rw[beq_eq_false_iff_ne];omega
  have m:(y%4==2)=true:=by rw[beq_iff_eq];exact b
  rw[i,j,m]at hc;have l:dZ (x,y)=1:=by unfold dZ;dsimp only;rw[if_neg (by omega),if_neg (by omega)]
  have g:sA (x,y)=(x-1,y):=by unfold sA;dsimp only;rw[if_neg (by omega),if_neg (by omega)]
  have h:sB (x,y)=(x+1,y):=by unfold sB;dsimp only;rw[if_neg (by omega),if_neg (by omega)]
  have a:=HQ (X:=X) (c:=((x-1)/4).toNat) (d:=((x+1)/4).toNat) (y:=x) (by omega) (by omega);have n:(x,y)∈k↔(X.any λz=>z==x)=true:=hc.trans (by simp);refine⟨λz=>?_,λz=>?_⟩
  ·rw[l,g,h,show eC 1 (x,y)=x from rfl];rw[if_pos (n.mp z)]at a;unfold mE;dsimp only;rw[a,HS,HS,a7t,a7u,a4o];exact⟨rfl,rfl⟩
  ·rw[g,h];rw[if_neg (λe=>z (n.mpr e))]at a;unfold mE;dsimp only;rw[a]
theorem HU(a:Hm)(x:Int):∀ws:List Int,jQ a (.int x) (ws.map D.int)=aX (ws.any λw=>w==x)
 |[]=>rfl|w::ws=>by rw[Xa,a4h];show(cG 8 a (.int w) (.int x)).bind _=_;have e:cG 8 a (.int w) (.int x)=aX (w==x):=rfl;rw[e,HU a x ws];rfl
theorem VE{b:Hm}{a:Nat}{x:Int}{ws:List Int}{Q:jz}(h:b[a]?=aX (.lst (ws.map D.int))):W (cK b3 (.int x) (.loc a) b) Q↔Q (.bl (ws.any λw=>w==x),b):=by
 have e:cK b3 (.int x) (.loc a) b=aX (.bl (ws.any λw=>w==x),b):=by simp only[cK,lI,bK,h,Xi,HU,Xm,Xp,if_false]
 rw[e];exact W_some
theorem HV(k:Nat)(ns:List Int)(c m:Int)(hc:0<=c/\c<=50)(o:1<=m/\m<=6)(g:Hm)(Q:jz)(H:∀(X:List Int) a b,g<+:b->b[a]?=aX (.lst (X.map D.int))->Q (.loc a,b)):W (f (k+3) "_law_lines" [.rol (ns.map D.int),.int c,.int m] g) Q:=by
 refine cX (TL (k+2) _ _ _ g) (cY (jY (xs:=fL 1 (m-1).toNat) (p:=λd=>decide (j5 ns (c+j7 d)/16%3>0)) (v:=λd=>.int (4*j7 d)) (w_iRng2.mpr ⟨_,rfl,by omega,AU,by simp[fL],by rw[Xh];simp[fL];omega,λd b hd e=>?_,λd b hd _ e=>?_,λb e h=>?_⟩)))
 ·obtain⟨j,i,rfl⟩:=vM hd;exact cZ (aL (aL (aL (a9 rfl (oP k ns _ (by omega) _ _ λn l=>⟨_,rfl,(hG (by decide) (by decide)).mpr ⟨_,rfl,(eH (by decide)).mpr ⟨_,rfl,w_gtI.mpr ⟨_,rfl,rfl,l⟩⟩⟩⟩)))))
 ·obtain⟨j,i,rfl⟩:=vM hd;exact bB rfl rfl (w_mul4.mpr ⟨rfl,Xx _⟩)
 ·refine H ((((fL 1 (m-1).toNat).filter λd=>decide (j5 ns (c+j7 d)/16%3>0))).map λd=>4*j7 d) _ _ e ?_;rw[W7];exact h
structure Wf(w h:Int)(F:Int×Int->Ly):Prop where
 di:∀q,Dih (F q)
 lt:∀q,(F q).e%4=0/\(F q).g%4=0
 ed:∀e∈bN w h,F (sA e)=F (sB e)\/F (sA e)=bH (fY e) (F (sB e))
structure Dr(qs:jq)(μ:Hm)(a b:Nat)(F:Int×Int->Ly)(row:jq)(Z:Zr):Prop where
 hw:μ[a]?=aX (.dT (aQ (λq=>LD (F q)) row))
 hr:row.Perm qs
 hi:HI μ b Z
 hh:μ[b]?=aX (.dT (aN Z))
 pl:Pil qs (λq=>aF (F q) q) (GZ Z)
theorem Dr.more{qs:jq}{e c:Hm}{a b:Nat}{F:Int×Int->Ly}{row:jq}{Z:Zr}(d:Dr qs e a b F row Z)(p:e<+:c):Dr qs c a b F row Z:=⟨aE p d.hw,d.hr,d.hi.more p,aE p d.hh,d.pl⟩
theorem VF{r:Int×Int}(d:cB r.1 r.2=b4):bJ (dZ r) (eC (dZ r) r)=fY r:=by
 refine Gq λp=>?_;rw[hW,r9];obtain⟨x,y⟩:=r;obtain⟨u,v⟩:=p;unfold eP dZ eC;rcases l9 d with⟨a,b⟩|⟨a,b,c⟩|⟨a,b,c⟩<;>dsimp only at a b ⊢
 ·simp only[if_pos a];by_cases h:x%4=y%4
  ·simp only[if_pos h];refine XH ?_ ?_<;>simp<;>omega
  ·simp only[if_neg h];refine XH ?_ ?_<;>simp<;>omega
 ·simp only[if_neg (show ¬ x%2=1 by omega),if_pos b];refine XH ?_ ?_<;>simp
 ·simp only[if_neg (show ¬ x%2=1 by omega),if_neg (show ¬ y%4=0 by omega)];refine XH ?_ ?_<;>simp
theorem wK{a:Type}{o:Option a}{x:a}(h:W o λr=>r=x):o=aX x:=by obtain⟨r,e,rfl⟩:=h;exact e
section
variable{ρ:aG}{μ:Hm}
theorem wL{s t:MT}{b c:Bool}(a:s ρ μ=aX (b,μ))(d:t ρ μ=aX (c,μ)):fD s t ρ μ=aX (b&&c,μ):=wK (w_mAndT.mpr ⟨_,a,by cases b with|true=>exact dY rfl ⟨_,d,rfl⟩|false=>exact dN rfl rfl⟩)
theorem VG{s t:MT}{b c:Bool}(a:s ρ μ=aX (b,μ))(d:t ρ μ=aX (c,μ)):iE s t ρ μ=aX (b||c,μ):=wK (w_mOrT.mpr ⟨_,a,by cases b with|true=>exact dY rfl rfl|false=>exact dN rfl ⟨_,d,rfl⟩⟩)
theorem wM{i:Nat}{z c:Int}(h:aA i ρ μ=aX (.int z,μ)):a8 (aC (aR b3) (aC a7 (aA i) (mC (.int 4))) (mC (.int c))) ρ μ=aX (z%4==c,μ):=wK (cZ (aL (bB h rfl (w_mod4.mpr ⟨_,rfl,w_eqI.mpr ⟨_,rfl,rfl⟩⟩))))
theorem uS{i j a:Nat}{z:Int}{X:List Int}(b:μ[a]?=aX (.lst (X.map D.int)))(h:aA i ρ μ=aX (.int z,μ))(c:aA j ρ μ=aX (.loc a,μ)):a8 (aC (cK b3) (aA i) (aA j)) ρ μ=aX (X.any λx=>x==z,μ):=wK (cZ (bB h c ((VE b).mpr ⟨_,rfl,rfl⟩)))
end
theorem VH{X Y:List Int}{r:Int×Int}{c:Hm}{a b:Nat}(d:c[a]?=aX (.lst (X.map D.int)))(e:c[b]?=aX (.lst (Y.map D.int))){g h i j k:Option D}{xs:List (Option D)}{Q:Bool×Hm->Prop}(H:Q (kT X Y r,c)) :
  W (iE (fD (a8 (aC (aR b3) (aC a7 (aA 7) (mC (.int 4))) (mC (.int 0)))) (fD (a8 (aC (aR b3) (aC a7 (aA 8) (mC (.int 4))) (mC (.int 2)))) (a8 (aC (cK b3) (aA 7) (aA 3))))) (fD (a8 (aC (aR b3) (aC a7 (aA 8) (mC (.int 4))) (mC (.int 0)))) (fD (a8 (aC (aR b3) (aC a7 (aA 7) (mC (.int 4))) (mC (.int 2)))) (a8 (aC (cK b3) (aA 8) (aA 4)))))
   (g::h::i::aX (.loc a)::aX (.loc b)::j::k::aX (.int r.1)::aX (.int r.2)::xs) c) Q:=
 ⟨_,VG (wL (wM rfl) (wL (wM rfl) (uS d rfl rfl))) (wL (wM rfl) (wL (wM rfl) (uS e rfl rfl))),H⟩
theorem VI(k:Nat){F:Int×Int->Ly}(hF:∀q,Dih (F q)){qs row:jq}(hr:row.Perm qs)(nd:qs.Nodup)(lq:qs.length<=100){μ0 u:Hm}{a b l:Nat}(ga:μ0[a]?=aX (.dT (aQ (λq=>LD (F q)) row)))(gl:u[l]?=aX (.lst (qs.map PP)))(w:μ0<+:u)(lb:μ0.length<=b)(U:u[b]?=aX (.dT [])){A B E G J K L M N:Option D}(Q:Fl×aG×Hm->Prop)
  (H:∀x y Z j,μ0<+:j->HI j b Z->j[b]?=aX (.dT (aN Z))->GZ Z=cR (λq=>aF (F q) q) qs->Q (.nx,[A,B,E,G,J,K,L,M,N,aX (.loc a),aX (.loc b),x,y],j)) :
  W (dS (cI (.loc l)) (bT 11) (F6 (k+1)) ((qs.map PP).length+1) 0 [A,B,E,G,J,K,L,M,N,aX (.loc a),aX (.loc b),aY,aY] u) Q:=by
 refine jX (λi m j=>∃x y Z,m=[A,B,E,G,J,K,L,M,N,aX (.loc a),aX (.loc b),x,y]/\μ0<+:j/\HI j b Z/\j[b]?=aX (.dT (aN Z))/\GZ Z=cR (λq=>aF (F q) q) (qs.take i)/\j[l]?=aX (.lst (qs.map PP))) ⟨aY,aY,[],rfl,w,⟨.inl U,YH,λz hz=>nomatch hz⟩,U,rfl,gl⟩ (by rintro _ _ _ ⟨_,_,_,_,_,_,_,_,h⟩;exact h) ?_ ?_
 ·rintro i d m j hd ⟨x,y,Z,rfl,p,I,g,n,gl⟩;obtain⟨q,Y,rfl⟩:=kM hd;have hm:q∈row:=hr.mem_iff.mpr (Xn Y);have sm:=sH (λq=>aF (F q) q) (qs.take i);have lt:(qs.take i).length<=100:=Xz (Yx _ _) lq;have lZ:=Ba (n:=100) n ⟨Xz sm.1 lt,λx hx=>Xz (sm.2 x hx) lt⟩;refine⟨_,rfl,bG (c6 (aW (bB rfl rfl ((c4 (.inl (aE p ga)) (bM q) (eU (hr.nodup_iff.mpr nd) hm)).mpr ⟨_,rfl,(vY k (F q) (hF q) q _ _).mpr ?_⟩))))⟩;obtain⟨c,e1,R⟩:=Hg I g (aF (F q) q);refine w_mPut.mpr (aL (vV ⟨_,rfl,vW g,w_mCons.mpr ⟨_,rfl,w_mCons.mpr (w_mLst.mpr ⟨_,rfl,XJ _,_,rfl,_,e1,w_mLst.mpr ⟨_,rfl,oM,?_⟩⟩)⟩⟩));have r:=aP j (C.lst []);have O:=I.more r;have T:=aE r g;have o:=p.trans r;generalize j++[C.lst []]=μ2 at R r O T o;have la:(bD (GZ Z) (aF (F q) q)).length<=100:=by
   by_cases X:aF (F q) q∈Z.map (·.1)
   ·obtain⟨t,ht,e⟩:=kN X;rw[<- e,l8 I.kd ht];exact lZ.2 t ht
   ·rw[kP (by rw[dX];exact X)];exact XJ _
  refine(vK (aE (aP _ _) R) (bA _ _) (by rw[WO,Xh];show _+1<=_;omega)).mpr ?_;have s:=(aP μ2 (C.lst [PP q])).trans (aP _ (C.lst ((bD (GZ Z) (aF (F q) q)).map PP++[PP q])));have g4:((μ2++[C.lst [PP q]])++[C.lst ((bD (GZ Z) (aF (F q) q)).map PP++[PP q])])[(μ2++[C.lst [PP q]]).length]?=aX (.lst ((bD (GZ Z) (aF (F q) q)++[q]).map PP)):=by rw[Xj];exact bA _ _
  have v:=aE s T;obtain⟨Z',e3,e4,I4⟩:=(O.more s).put v (p:=aF (F q) q) g4;refine⟨_,rfl,_,rfl,(fX v (bM _) (by rw[fZ,Xh];omega)).mpr ?_⟩;rw[e3];refine⟨_,_,Z',rfl,cL (o.trans s) lb _,I4,bY v,?_,?_⟩
  ·rw[e4,A9 Y,<- n,G6 (by rw[dX];exact I.kd)]
  ·rw[WT (λe=>by rw[<- e,g]at gl;cases gl)];exact aE (r.trans s) gl
 ·rintro m j ⟨x,y,Z,rfl,p,I,g,n,_⟩;rw[WO,Yj]at n;exact H x y Z j p I g n
theorem VJ:∀p∈dO,((bN p.1 p.2).filter λe=>e.1%2==0).length<=48:=by decide +kernel
theorem HW{c:Type}{p q:c->Bool}:∀{l:List c},(∀x∈l,p x=b4->q x=b4)->(l.filter p).length<=(l.filter q).length
 |[],_=>WY _|x::l,h=>by
  have g:=HW (l:=l) λy e=>h y (Xc _ e);have d:=h x (Xf ..);by_cases a:p x=b4
  ·rw[XQ a,XQ (d a),Xy,Xy];omega
  ·rw[XR a];refine Xz g ?_;by_cases b:q x=b4
   ·rw[XQ b];exact ZH _
   ·rw[XR b];exact WY _
theorem HX(k:Nat)(ns:List Int){w h:Int}(B:(w,h)∈dO)(E:Hm)(Q:jz)(H:∀a b F row Z c,E<+:c->Dr (bE w h) c a b F row Z->Wf w h F->(iA w h F).length<=48->Q (.tup [.loc a,.loc b],c)):W (f (k+4) "_law_grid" [.rol (ns.map D.int),.int w,.int h] E) Q:=by
 obtain⟨hw,I,J,_,up,K,_,fr⟩:=f7 _ B;replace J:(bE w h).length<=48:=J;replace K:(bN w h).length<=64:=K;have up:=nB up;have nd:(bE w h).Nodup:=qL up;refine cX (TM (k+3) _ _ _ E) (bG (a9 rfl (HV k ns 10 w (by decide) hw _ _ λX R μ1 p1 gX=>bG (a9 rfl (HV k ns 20 h (by decide) I _ _ λY T g L gY=>?_)))));refine bG (w_mLst.mpr ⟨_,rfl,XJ _,fM (w_mForI.mpr (w_iSeq.mpr (a9 rfl (Bo (k+2) w h hw I _ _ ((fH (bA _ _)).mpr ?_)))))⟩);have g0:((g++[C.lst []])++[C.lst ((bN w h).map PP)])[g.length]?=aX (.lst []):=aE (aP _ _) (bA _ _);refine jX (λi l c=>∃x y z,l=[aX (.rol (ns.map D.int)),aX (.int w),aX (.int h),aX (.loc R),aX (.loc T),aX (.loc g.length),x,y,z,aY,aY,aY,aY]/\g<+:c/\c[g.length]?=aX (.lst ((((bN w h).take i).filter (kT X Y)).map PP))/\c[(g++[C.lst []]).length]?=aX (.lst ((bN w h).map PP)))
  ⟨aY,aY,aY,rfl,(aP _ _).trans (aP _ _),g0,bA _ _⟩ (by rintro _ _ _ ⟨_,_,_,_,_,_,h⟩;exact h) ?_ ?_
 ·rintro i d l c hd ⟨x,y,z,rfl,p,j,v⟩;obtain⟨r,n,rfl⟩:=kM hd;have N:=gM n;refine⟨_,rfl,w_mSeq.mpr (w_mAsg.mpr ⟨_,rfl,w_gTup2.mpr (w_mIfS.mpr (VH (aE (L.trans p) gX) (aE p gY) (r:=r) ?_))⟩)⟩;cases o:kT X Y r with
  |false=>refine dN rfl (w_mNext.mpr ⟨_,_,_,rfl,p,?_,v⟩);rw[N,Yd,XR (by rw[o];exact Xo),Z1,Yh];exact j|true=>
   refine dY rfl (w_mDrop.mpr (hU ⟨_,rfl,hV j,w_mCons.mpr ⟨_,rfl,_,rfl,(m7 j ?_).mpr ⟨_,_,_,rfl,cL p (WY _) _,?_,?_⟩⟩⟩))
   ·rw[WO,Xh];have:=XW (kT X Y) ((bN w h).take i);have:=Yx i (bN w h);omega
   ·rw[bY j,N,Yd,XQ o,Z1,Xj];rfl
   ·rw[WT (by rw[W4];show _≠_+1;omega)];exact v
 ·rintro l μ3 ⟨x,y,z,rfl,p3,j,v⟩;rw[WO,Yj]at j;have s:∀r∈bN w h,LcF (mE X Y) ((bN w h).filter (kT X Y)) r:=λr n=>VD (fr r n).1 (fr r n).2.2.2.1.1 (fr r n).2.2.2.2.1 (by rw[XD];exact and_iff_right n);refine⟨rfl,bG (a9 rfl (VC (k+1) B (Bu X Y) rfl s j _ λa row μ4 p4 A u=>?_))⟩;have lr:row.length=(bE w h).length:=u.length_eq;refine bG (w_mDNewT.mpr (fM (w_mForI.mpr (w_iSeq.mpr (a9 rfl ((G4 (aE (aP _ _) A) (by omega)).mpr ?_))))));have es:bQ row=bE w h:=by rw[srt_eq.mpr u];exact Bi (up.imp λh1=>v7 h1)
  rw[es];refine(fH (bA _ _)).mpr ?_;refine VI (k+2) (Bu X Y) u nd (by omega) A (bA _ _) ((aP _ _).trans (aP _ _)) (WY _) (aE (aP _ _) (bA _ _)) _ λx y Z G M O g5 U=>⟨rfl,cY (w_mTup.mpr ⟨_,rfl,eB,?_⟩)⟩;refine H _ _ (mE X Y) row Z G (p1.trans (L.trans (p3.trans (p4.trans M)))) ⟨aE M A,u,O,g5,by rw[U];exact v8⟩ ⟨Bu X Y,λq=>⟨(sU X _).2,(sU Y _).2⟩,λe m=>?_⟩ ?_;rotate_left
  ·refine Xz (HW λe m hc=>?_) (VJ _ B);refine beq_iff_eq.mpr (Zt λhn=>?_);have o:kT X Y e=false:=by unfold kT;have r:=l9 (fr e m).1;rw[show(e.1%4==0)=b3 by rw[beq_eq_false_iff_ne];omega,show(e.2%4==0)=b3 by rw[beq_eq_false_iff_ne];omega];rfl
   have:=(s e m).n (λz=>by rw[(XD.mp z).2]at o;cases o);rw[this]at hc;simp at hc
  by_cases hc:e∈(bN w h).filter (kT X Y)
  ·rw[<- VF (fr e m).1];exact .inr ((s e m).y hc).2
  ·exact .inl ((s e m).n hc)
noncomputable def JL(F:Int×Int->Ly):Prop:=JE F/\∀q,(F q).e%4=0/\(F q).g%4=0
theorem HY(u:Int){n:Int}(a:n%4=0){A:Ly}(h:A.e%4=0/\A.g%4=0):(bH A (bJ u n)).e%4=0/\(bH A (bJ u n)).g%4=0:=by
 unfold bH bJ;split
 ·dsimp only;omega
 split
 ·dsimp only;omega
 split
 ·dsimp only;omega
 ·dsimp only;omega
theorem VL:JL λ_=>c7:=⟨UX,λ_=>⟨rfl,rfl⟩⟩
theorem VM(F:Int×Int->Ly)(u n:Int)(a:Bool)(c:0<=u/\u<4)(b:n%4=0)(h:JL F):JL (dD u n a F):=⟨UY F u n a c b h.1,λq=>by
 unfold dD;split
 ·exact HY u b (h.2 q)
 ·exact h.2 q⟩
theorem HZ{w h:Int}(hw:1<=w/\w<=3)(c:1<=h/\h<=3):(w,h)∈dO:=by
 have a:=qE hw;have b:=qE c;revert w h;intro w h _ _ a b;have:∀w∈[(1:Int),2,3],∀h∈[(1:Int),2,3],(w,h)∈dO:=by decide
 exact this w a h b
theorem VN:∀w∈[(3:Int),4,5,6],∀h∈[(1:Int),2],(w,h)∈dO/\(h,w)∈dO:=by decide
theorem VO(v:Int):3+v%4∈[(3:Int),4,5,6]:=by
 have:v%4=0\/v%4=1\/v%4=2\/v%4=3:=by omega
 rcases this with h|h|h|h<;>rw[h]<;>decide
theorem VP(v:Int):1+v%2∈[(1:Int),2]:=by
 have:v%2=0\/v%2=1:=by omega
 rcases this with h|h<;>rw[h]<;>decide
theorem Bv{w h:Int}{a b:Nat}{c:Hm}{Q:jz}(H:Q (.tup [.int w,.int h,.loc a,.loc b],c)):W (bI (.tup [.int w,.int h]) (.tup [.loc a,.loc b]) c) Q:=(GV ⟨by simp,by simp,by show(4:Nat)<=W8;decide⟩).mpr H
theorem VQ:∀w∈[(1:Int),2,3],∀h∈[(1:Int),2,3],(bN w h).length<=48:=by decide +kernel
theorem VR(k:Nat)(ns:List Int)(v:Int)(l:Hm)(Q:jz)(H:∀w h a b F row Z g,(w,h)∈dO->l<+:g->Dr (bE w h) g a b F row Z->Wf w h F->(iA w h F).length<=48->Q (.tup [.int w,.int h,.loc a,.loc b],g)):W (f (k+5) "_law_drawn" [.rol (ns.map D.int),.int v] l) Q:=by
 refine cX (TN (k+4) _ _ l) (bG (aL ⟨_,rfl,bB rfl rfl ((eH (by decide)).mpr (w_addI.mpr (bG (aL ⟨_,rfl,aL (aL ⟨_,rfl,_,rfl,(hG (by decide) (by decide)).mpr ⟨_,rfl,(eH (by decide)).mpr (w_addI.mpr ?_)⟩⟩)⟩))))⟩));refine w_mSeq.mpr (w_mIfS.mpr (cZ (aL (aL (aL ⟨_,rfl,_,rfl,(hG (by decide) (by decide)).mpr ⟨_,rfl,(eH (by decide)).mpr ⟨_,rfl,w_eqI.mpr ⟨_,rfl,?_⟩⟩⟩⟩)))));cases v/9%3==1 with
 |true=>
  refine dY rfl (bG (aL ⟨_,rfl,bB rfl rfl ((eH (by decide)).mpr (w_addI.mpr (bG (aL ⟨_,rfl,aL (aL ⟨_,rfl,_,rfl,(hG (by decide) (by decide)).mpr ⟨_,rfl,(eH (by decide)).mpr (w_addI.mpr ?_)⟩⟩)⟩))))⟩));obtain⟨m,n⟩:=VN _ (VO v) _ (VP (v/4));refine w_mSeq.mpr (w_mIfS.mpr (cZ (aL (aL (aL ⟨_,rfl,_,rfl,(hG (by decide) (by decide)).mpr ⟨_,rfl,(eH (by decide)).mpr ⟨_,rfl,w_eqI.mpr ⟨_,rfl,?_⟩⟩⟩⟩)))));cases v/27%2==1 with
  |true=>refine dY rfl (w_mPar.mpr ⟨_,rfl,?_⟩);refine w_mRet.mpr (aL (w_mTup.mpr ⟨_,rfl,eB,a9 rfl (HX k ns n _ _ λa b F row Z g p d e c=>Bv (H _ _ a b F row Z g n p d e c))⟩))|false=>refine dN rfl (w_mNext.mpr ?_);refine w_mRet.mpr (aL (w_mTup.mpr ⟨_,rfl,eB,a9 rfl (HX k ns m _ _ λa b F row Z g p d e c=>Bv (H _ _ a b F row Z g m p d e c))⟩))
 |false=>
  refine dN rfl (w_mNext.mpr ?_);have hw:1<=1+v%3/\1+v%3<=3:=by omega
  have i:1<=1+v/3%3/\1+v/3%3<=3:=by omega
  generalize 1+v%3=w at hw;generalize 1+v/3%3=h at i;obtain⟨o,q,r⟩:=Uw _ (qE hw) _ (qE i);refine w_mRet.mpr (aL (w_mTup.mpr ⟨_,rfl,eB,c6 (aW ⟨_,rfl,aW ⟨_,rfl,aW ⟨_,rfl,aW ⟨_,rfl,aW (aL (aL ⟨_,rfl,_,rfl,(hG (by decide) (by decide)).mpr ⟨_,rfl,(eH (by decide)).mpr ⟨_,rfl,?_⟩⟩⟩))⟩⟩⟩⟩)⟩));refine UR JL VL VM (k+1) ns w h hw i 2 (v/27%5) (by decide) (by omega) (qL (nB r)) o q _ _ λa b F Z g p G J=>Bv (H w h a b F _ Z g (HZ hw i) p ⟨G.hw,.refl _,G.hi,G.hh,G.pl⟩ ⟨G.di,J.2,λe s=>?_⟩ (Xz (XW _ _) (VQ _ (qE hw) _ (qE i))));rcases J.1.2 e ((f7 _ (HZ hw i)).2.2.2.2.2.2.2 e s).1 with j|j
  ·exact .inl j.1
  ·exact .inr j
theorem VS{b:Hm}{a:Nat}{xs:List D}{i:Int}{d:D}{Q:jz}(h:b[a]?=aX (.lst xs))(c:0<=i/\i<1000)(hi:xs[i.toNat]?=aX d):W (nX (.loc a) [.int i] b) Q↔Q (d,b.set a (.lst (xs.eraseIdx i.toNat))):=by
 have e:nX (.loc a) [.int i] b=aX (d,b.set a (.lst (xs.eraseIdx i.toNat))):=by simp only[nX,h];rw[if_pos (by omega),hi];rfl
 rw[e];exact W_some
theorem VT{a:Type}(l:List a)(i:Nat)(x:a):(eY l i x).Perm (x::l):=by unfold eY;refine a3e.trans ?_;rw[Y5]
theorem VU{L:jq}{n m:Nat}{q:Int×Int}(h:L[n]?=aX q):(eY (L.eraseIdx n) m q).Perm L:=by obtain⟨a,rfl⟩:=WR.mp h;refine(VT _ _ _).trans ?_;rw[Y4];refine a3e.symm.trans ?_;rw[<- a1y a,Y5]
theorem VW(L:jq)(i:Nat):(L.map PP).eraseIdx i=(L.eraseIdx i).map PP:=by rw[Y4,Y4,Xj,a0p,a6s]
theorem VX{μ0 d:Hm}{b l:Nat}{Y:Zr}(I:GI μ0 d b Y){ps:jq}(gl:d[l]?=aX (.lst (ps.map PP)))(w:ps≠[])(B:∀p∈ps,∃y∈Y,y.1=p/\1<y.2.1.length)(A:∀y∈Y,y.2.1.length<=100){v:Int}{h i k m n G J:Option D}(Q:Fl×aG×Hm->Prop)
  (H:∀x y z (L:jq) μ',z∈Y->L.Perm z.2.1->μ'=d.set z.2.2 (.lst (L.map PP))->Q (.nx,[h,i,k,aX (.loc b),m,aX (.loc l),n,aX (.int v),x,y],μ')) :
  W (F7 [h,i,k,aX (.loc b),m,aX (.loc l),n,aX (.int v),G,J] d) Q:=by
 have E:0<ps.length:=a0k.mpr w;have o:=a0t (v/4) (show(ps.length:Int)≠0 by omega);have r:=Z0 (v/4) (show 0<(ps.length:Int) by omega);have g:(v/4%(ps.length:Int)).toNat<ps.length:=by omega
 obtain⟨z,c,u,K⟩:=B _ (ZP g);have M:=A z c;have a:=(I.at_ z c).2;refine bG (aL ⟨_,rfl,aL ⟨_,rfl,aL (aL ⟨_,rfl,_,rfl,w_div4.mpr (a9 rfl ((l7 gl).mpr ?_))⟩)⟩⟩);rw[WO];refine(eH (by omega)).mpr ((cW gl (Bl (A2 o r) (W3 g))).mpr ((c4 (.inl I.dic) (bM _) (by rw[<- u];exact jJ I.kd c)).mpr ?_));refine bG (aL (aL ⟨_,rfl,_,rfl,(hG (by decide) (by decide)).mpr (aL (a9 rfl ((l7 a).mpr ⟨_,rfl,w_subI.mpr ?_⟩)))⟩));rw[WO];refine(eH (by omega)).mpr ?_;have c1:=a0t (v/512) (show((z.2.1.length:Int)-1)≠0 by omega);have s:=Z0 (v/512) (show 0<((z.2.1.length:Int)-1) by omega);generalize v/512%((z.2.1.length:Int)-1)=j at c1 s;have e:z.2.1[(j+1).toNat]?=aX (z.2.1[(j+1).toNat]'(by omega)):=W3 (by omega);generalize z.2.1[(j+1).toNat]'(by omega)=q at e;refine w_mDrop.mpr (hU ⟨_,rfl,hV a,aW ⟨_,rfl,aW (hU ⟨_,rfl,hV a,aW (bB rfl rfl (w_addI.mpr ⟨_,rfl,(VS a (by omega) (by rw[W6,e];rfl)).mpr ⟨_,rfl,?_⟩⟩))⟩)⟩⟩);refine(SM (bY a) c1 (by omega) (by rw[List.length_eraseIdx,WO,Xh];split<;>omega)).mpr ?_;rw[a2O,VW,UJ];exact H _ _ z _ _ c (VU e) rfl
theorem VY(k:Nat)(ns:List Int){qs:jq}{g:Int×Int->Int×Int}(lq:qs.length<=48){r:Hm}{h:Nat}{Z:Zr}(I:HI r h Z)(hh:r[h]?=aX (.dT (aN Z)))(P:Pil qs g (GZ Z))(t:Int)(ht:0<=t/\t<=50)(Q:jz)
  (H:∀b Y c,r<+:c->HI c b Y->c[b]?=aX (.dT (aN Y))->Pil qs g (GZ Y)->Q (.loc b,c)):W (f (k+3) "_law_stirred" [.loc h,.rol (ns.map D.int),.int t] r) Q:=by
 obtain⟨lZ,mZ⟩:=P.lenZ;refine cX (TQ (k+2) _ _ _ r) (bG (w_mDNewT.mpr (fM (Uy (μ0:=r) rfl rfl rfl (by decide) (by decide) (aP _ _) (WY _) (bA _ _) hh I.kd I.at_ (by omega) (λz l=>by have:=(mZ z l).2;omega) _ λY o j eG J hb=>⟨rfl,?_⟩))));have hat:∀z∈Z,j[z.2.2]?=aX (.lst (z.2.1.map PP)):=λz l=>aE J.pre (I.at_ z l);refine bG (jY (xs:=(bQ (Z.map (·.1))).map PP) (p:=λd=>decide ((bD (GZ Z) (dW d)).length>1)) (v:=λd=>d) (w_iSeq.mpr (a9 rfl ((wA I.kd (aE J.pre hh) (by omega)).mpr ((fH (bA _ _)).mpr ⟨oK (bA _ _),rfl,by rw[WO,G5,WO,Xh];omega,λd c hd A=>?_,λd c hd _ A=>⟨_,rfl,rfl,Xx _⟩,λμ2 p2 R=>?_⟩)))))
 ·obtain⟨p,hp',rfl⟩:=W0.mp hd;obtain⟨z,l,rfl⟩:=kN ((kR _).mem_iff.mp hp');have pp:=(aP j (C.lst ((bQ (Z.map (·.1))).map PP))).trans A;refine cZ (aL (c6 (aW (bB rfl rfl ((c4 (.inl (aE (J.pre.trans pp) hh)) (bM z.1) (jJ I.kd l)).mpr ⟨_,rfl,(l7 (aE pp (hat z l))).mpr ⟨_,rfl,w_gtI.mpr ⟨_,rfl,?_,Xx _⟩⟩⟩)))));rw[WO,wB,l8 I.kd l];exact decide_eq_decide.mpr ⟨λz=>by omega,λz=>by omega⟩
 ·have e:((((bQ (Z.map (·.1))).map PP).filter λd=>decide ((bD (GZ Z) (dW d)).length>1)).map λd=>d)=((bQ (Z.map (·.1))).filter λp=>decide ((bD (GZ Z) p).length>1)).map PP:=r8 (λp=>decide ((bD (GZ Z) p).length>1)) _;rw[e]at R;have E:∀p∈(bQ (Z.map (·.1))).filter λp=>decide ((bD (GZ Z) p).length>1),p∈Z.map (·.1)/\1<(bD (GZ Z) p).length:=λp A=>by obtain⟨T,X⟩:=XD.mp A;exact⟨(kR _).mem_iff.mp T,of_decide_eq_true X⟩
  generalize(bQ (Z.map (·.1))).filter (λp=>decide ((bD (GZ Z) p).length>1))=ps at R E;have p12:=(aP j (C.lst ((bQ (Z.map (·.1))).map PP))).trans p2;have J2:=J.more p12;have kY:Y.map (·.1)=Z.map (·.1):=by rw[<- dX,<- dX,eG]
  have lo:∀{a:Nat} {z},z∈Y->μ2[a]?=aX (.lst (ps.map PP))->True:=λ_ _=>trivial;refine fM (w_mForI.mpr ((vJ (j:=0)).mpr ⟨_,rfl,by omega,?_⟩));have ln1:(j++[C.lst ((bQ (Z.map (·.1))).map PP)]).length=j.length+1:=by simp
  rw[ln1]at R ⊢;refine oJ (λi w c=>∃x y z u S,w=[aX (.loc h),aX (.rol (ns.map D.int)),aX (.int t),aX (.loc r.length),o,aX (.loc (j.length+1)),x,y,z,u]/\GI r c r.length S/\S.map (·.1)=Z.map (·.1)/\(∀z∈S,z.2.2<j.length)/\(∀z∈S,z.2.1.Perm (bD (GZ Z) z.1))/\c[j.length+1]?=aX (.lst (ps.map PP)))
   ⟨aY,aY,aY,aY,Y,rfl,J2,kY,λz l=>(WR.mp (J.at_ z l).2).1,λz l=>?_,R⟩ ?_ ?_
  ·rw[<- eG,l8 J.kd l]
  ·rintro i w c hi ⟨x,y,z,u,S,rfl,K,B,G,v,gl⟩;refine⟨_,rfl,bG (a9 rfl (oP k ns _ (by omega) _ _ λN p3=>?_))⟩;refine w_mIfS.mpr (cZ (aL ⟨_,rfl,w_mLst.mpr ⟨_,rfl,XJ _,(HD (aE (p3.trans (aP _ _)) gl) (bA _ _)).mpr ⟨_,rfl,?_⟩⟩⟩));have p4:=p3.trans (aP N (C.lst []));have O:=K.more p4;have n:=aE p4 gl;generalize N++[C.lst []]=μ4 at p4 O n;by_cases U:ps=[]
   ·refine dN (by rw[U];rfl) (w_mNext.mpr ⟨_,_,_,_,S,rfl,O,B,G,v,n⟩)
   ·refine dY (by cases ps with|nil=>exact absurd rfl U|cons=>rfl) ?_;have aS:∀y∈S,1<=y.2.1.length/\y.2.1.length<=48:=λy m=>by
     have hk:y.1∈Z.map (·.1):=by rw[<- B];exact W0.mpr ⟨y,m,rfl⟩
     obtain⟨z,l,e⟩:=kN hk;rw[(v y m).length_eq,<- e,l8 I.kd l];have:=mZ z l;omega
    refine VX O n U (λp A=>?_) (λy m=>by have:=(aS y m).2;omega) _ λx' M z' L μ5 s hL e5=>?_
    ·obtain⟨T,X⟩:=E p A;rw[<- B]at T;obtain⟨y,m,e⟩:=kN T;exact⟨y,m,e,by rw[(v y m).length_eq,e];exact X⟩
    ·subst e5;refine⟨_,_,_,_,_,rfl,O.mut s L,?_,λy m=>?_,λy m=>?_,?_⟩
     ·rw[W7,<- B];refine Xs λy _=>?_;show(if y.1=z'.1 then(y.1,L,y.2.2)else y).1=y.1;split<;>rfl
     ·obtain⟨M,q,rfl⟩:=W0.mp m;split
      ·exact G M q
      ·exact G M q
     ·obtain⟨M,q,rfl⟩:=W0.mp m;split
      ·rename_i e;dsimp only;rw[e];exact hL.trans (v z' s)
      ·exact v M q
     ·have:=G z' s;rw[WT (by omega)];exact n
  ·rintro w c ⟨x,y,z,u,S,rfl,K,B,G,v,gl⟩;refine⟨rfl,cY ⟨_,rfl,H _ S c K.pre K.hi K.dic (P.turn (by rw[dX];exact K.kd) (by rw[dX,dX,B]) λx hx=>?_)⟩⟩;obtain⟨y,m,rfl⟩:=W0.mp hx;exact v y m
noncomputable def fP(T:Ly)(t:Bool)(G:Gr):Gr:=G.map λg=>(aF T g.1,if t then g.2.reverse else g.2)
theorem VZ{T:Ly}(a:Dih T)(p:Int×Int):aF T (aF (iL T) p)=p:=by rw[<- jH,T7 a,sG]
theorem Bw{T:Ly}(a:Dih T){p q:Int×Int}:aF T p=q↔p=aF (iL T) q:=⟨λe=>by rw[<- e,oN a],λe=>by rw[e,VZ a]⟩
theorem Ia(t:Bool)(L:jq):(if t then L.reverse else L).Perm L:=by
 cases t
 ·exact .refl _
 ·exact a5s L
theorem Ib{T:Ly}(a:Dih T)(t:Bool)(p:Int×Int):∀G:Gr,bD (fP T t G) p=if t then(bD G (aF (iL T) p)).reverse else bD G (aF (iL T) p)
 |[]=>by cases t<;>rfl
 |g::G=>by
  show bD ((aF T g.1,if t then g.2.reverse else g.2)::fP T t G) p=_;rw[f6,f6,Ib a t p G];by_cases e:g.1=aF (iL T) p
  ·rw[if_pos ((Bw a).mpr e),if_pos e]
  ·rw[if_neg (λz=>e ((Bw a).mp z)),if_neg e]
theorem Ic{T:Ly}(c:Dih T)(t:Bool){qs:jq}{g:Int×Int->Int×Int}{G:Gr}(P:Pil qs g G):Pil qs (λq=>aF T (g q)) (fP T t G):=by
 refine⟨?_,λx d=>?_,λp=>?_⟩
 ·unfold fP;rw[W7];have:=P.kd;rw[List.Nodup,a0C]at this ⊢;exact this.imp λ{a b} h e=>h (by
   have:=congrArg (aF (iL T)) (show aF T a.1=aF T b.1 from e);rwa [oN c,oN c]at this)
 ·obtain⟨y,i,rfl⟩:=W0.mp d;intro e;have:=(Ia t y.2).length_eq;dsimp only at e;rw[e]at this;exact P.ne y i (Ze.mp this.symm)
 ·rw[Ib c];refine(Ia t _).trans ((P.pm _).trans ?_);have:(λq=>decide (g q=aF (iL T) p))=λq=>decide (aF T (g q)=p):=funext λq=>decide_eq_decide.mpr (Bw c).symm;rw[this]
noncomputable def Tn(t:Bool)(qs:jq)(g:Int×Int->Int×Int)(r c:Int×Int->Int):Prop:=∀a∈qs,∀b∈qs,g a=g b->decide (c a<c b)=if t then decide (r b<r a)else decide (r a<r b)
theorem Ie{qs:jq}{g:Int×Int->Int×Int}{G:Gr}(P:Pil qs g G){a:Int×Int}(b:a∈qs):∃x∈G,x.1=g a/\a∈x.2:=by obtain⟨x,c,e⟩:=W0.mp (P.key.mpr ⟨a,b,rfl⟩);refine⟨x,c,e,?_⟩;have:=P.pm x.1;rw[eT P.kd c]at this;exact this.mem_iff.mpr (XD.mpr ⟨b,decide_eq_true e.symm⟩)
theorem Ig{T:Ly}(B:Dih T)(t:Bool){qs:jq}(nd:qs.Nodup){g:Int×Int->Int×Int}{G:Gr}(P:Pil qs g G):Tn t qs g (cF G) (cF (fP T t G)):=λa E b H e=>by
 have d:=Ic B t P;obtain⟨x,l,w,m⟩:=Ie P E;have o:b∈x.2:=by
  obtain⟨y,I,A,p⟩:=Ie P H;have:y=x:=by
   have v:=eT P.kd l;have r:=eT P.kd I;have s:y.1=x.1:=by rw[A,w,e]
   rw[s,v]at r;exact XH s r.symm
  rw[<- this];exact p
 obtain⟨i,hi⟩:=Y6.mp m;obtain⟨j,k⟩:=Y6.mp o;have c:(aF T x.1,if t then x.2.reverse else x.2)∈fP T t G:=W0.mpr ⟨x,l,rfl⟩;have J:=(WR.mp hi).1;have K:=(WR.mp k).1;rw[mD nd P l hi,mD nd P l k];cases t with
 |false=>rw[mD nd d c (i:=i) hi,mD nd d c (i:=j) k];rfl|true=>
  have u:∀{n:Nat}{q:Int×Int},x.2[n]?=aX q->n<x.2.length->x.2.reverse[x.2.length-1-n]?=aX q:=λ{n q} h L=>by rw[a4r (by omega),<- h];congr 1;omega
  rw[mD nd d c (u hi J),mD nd d c (u k K)];exact decide_eq_decide.mpr ⟨λz=>by omega,λz=>by omega⟩
theorem w_ten50{a:Hm}{Q:jz}:W (k8 (.int 10) (.int 50) a) Q↔Q (.int (10^50),a):=FC ⟨by decide,by decide,by decide⟩
theorem V0{a b c d:D}:([a,b,c,d]:List D).length<=W8:=by show(4:Nat)<=W8;decide
theorem V1{z:Int}{u:Int}(a:0<=u/\u<4):∃c,atI [D.int 1,.int 1,.int 1,.int z] u=aX (.int c):=by
 have:u=0\/u=1\/u=2\/u=3:=by omega
 rcases this with rfl|rfl|rfl|rfl
 ·exact⟨_,rfl⟩
 ·exact⟨_,rfl⟩
 ·exact⟨_,rfl⟩
 ·exact⟨_,rfl⟩
structure Tw(n:Nat)(T:Ly):Prop where
 di:Dih T
 lt:T.e%4=0/\T.g%4=0
 de:dC T=if n%2=1 then -1 else 1
theorem V2(k:Nat){μ0:Hm}{l:Nat}{e:List Int}(gl:μ0[l]?=aX (.lst (e.map D.int))){g j m o:Option D}{xs:List (Option D)}(Q:Fl×aG×Hm->Prop)(H:∀T x y a,μ0<+:a->Tw e.length T->Q (.nx,g::j::m::o::aX (LD T)::x::y::xs,a)) :
  W (dS (cI (.loc l)) (bT 5) (F8 (k+1)) ((e.map D.int).length+1) 0 (g::j::m::o::aX (LD c7)::aY::aY::xs) μ0) Q:=by
 refine jX (λi b a=>∃T x y,b=g::j::m::o::aX (LD T)::x::y::xs/\μ0<+:a/\Tw i T) ⟨c7,aY,aY,rfl,Xx _,A3,⟨rfl,rfl⟩,rfl⟩ (by rintro _ _ _ ⟨_,_,_,_,p,_⟩;exact aE p gl) ?_ ?_
 ·rintro i d b a hd ⟨T,x,y,rfl,p,t⟩;rw[W6]at hd;obtain⟨n,_,rfl⟩:=WS.mp hd;obtain⟨c,hc⟩:=V1 (z:=10^50) (u:=n/1024%4) (by omega);refine⟨_,rfl,bG (aL (w_mLst.mpr (aW ⟨_,rfl,aW ⟨_,rfl,aW ⟨_,rfl,aW (bB rfl rfl (w_ten50.mpr ⟨_,rfl,V0,aL (aL ⟨_,rfl,_,rfl,(hG (by decide) (by decide)).mpr ⟨_,rfl,(eH (by decide)).mpr ((cW (bA _ _) hc).mpr ?_)⟩⟩)⟩))⟩⟩⟩)))⟩;have r:=p.trans (aP a (C.lst [D.int 1,.int 1,.int 1,.int (10^50)]));generalize a++[C.lst [D.int 1,.int 1,.int 1,.int (10^50)]]=μ1 at r;refine w_mSet.mpr (c6 (aW ⟨_,rfl,aW (c6 (aW (bB rfl rfl (w_mod4.mpr (aW (aL (bB rfl rfl (w_mul4.mpr (aL (aL (bB rfl rfl (w_div4.mpr ⟨_,rfl,(eH (by decide)).mpr ⟨_,rfl,w_subI.mpr ((lW (.inr (by omega))).mpr ⟨_,rfl,?_⟩)⟩⟩))))))))))))⟩));have q:(4*c*(n/4%41-20))%4=0:=by rw[Int.mul_assoc];omega
  generalize 4*c*(n/4%41-20)=z at q;refine Bc k (n%4) z (by omega) _ _ λu s=>⟨_,rfl,(vZ k T _ t.di (oO _ _) _ _).mpr ⟨bH T (bJ (n%4) z),_,_,rfl,r.trans s,sF t.di (oO _ _),HY _ q t.lt,?_⟩⟩;rw[sC,Hk,t.de];by_cases h:i%2=1
  ·rw[if_pos h,if_neg (by omega)];rfl
  ·rw[if_neg h,if_pos (by omega)];rfl
 ·rintro b a ⟨T,x,y,rfl,p,t⟩;rw[WO]at t;exact H T x y a p t
theorem V3(k:Nat){F:Int×Int->Ly}(B:∀q,Dih (F q)){T:Ly}(E:Dih T){row:jq}(nd:row.Nodup)(K:row.length<=100){c:Hm}{a:Nat}(j:c[a]?=aX (.dT (aQ (λq=>LD (F q)) row))){r s u v w:Option D}{xs:List (Option D)}{G:MS}(Q:Fl×aG×Hm->Prop)
  (H:∀x b,c<+:b->b[c.length]?=aX (.dT (aQ (λq=>LD (bH (F q) T)) row))->Q (.nx,aX (.loc a)::r::s::u::aX (LD T)::v::w::aX (.loc c.length)::x::xs,b)) :
  W (d9 0 (bV (eA (aA 0)) (bT 8) (F9 (k+1))) G (aX (.loc a)::r::s::u::aX (LD T)::v::w::aX (.loc c.length)::aY::xs) (c++[.dT []])) Q:=by
 have l:a<c.length:=(WR.mp j).1;have m:c.set a (.dF (aQ (λq=>LD (F q)) row))<+:(c++[C.dT []]).set a (.dF (aQ (λq=>LD (F q)) row)):=by rw[ZF _ _ l];exact ZS _ _
 have y:(c.set a (.dF (aQ (λq=>LD (F q)) row)))[a]?=aX (.dF (aQ (λq=>LD (F q)) row)):=bY j;have J:(c.set a (.dF (aQ (λq=>LD (F q)) row))).length=c.length:=XO;refine qG rfl (aE (aP _ _) j) (λi h b=>∃x,h=aX (.loc a)::r::s::u::aX (LD T)::v::w::aX (.loc c.length)::x::xs/\c.set a (.dF (aQ (λq=>LD (F q)) row))<+:b/\b[c.length]?=aX (.dT (aQ (λq=>LD (bH (F q) T)) (row.take i))))
  ⟨aY,rfl,m,by rw[WT (by omega)];exact bA _ _⟩ ?_ ?_
 ·rintro i I d h b A ⟨x,rfl,p,g⟩;rw[W6]at A;obtain⟨q,n,e⟩:=WS.mp A;cases e;have o:=Xn n;refine w_mPut.mpr (c6 (aW (bB rfl rfl ((c4 (.inr (aE p y)) (bM q) (eU nd o)).mpr ⟨_,rfl,(vZ k (F q) T (B q) E _ _).mpr ⟨_,rfl,_,rfl,(fX g (bM q) (by rw[WO,Ys,Xh];omega)).mpr ⟨rfl,_,rfl,cL p (by omega) _,?_⟩⟩⟩))));rw[bY g,gM n];exact congrArg (λz=>aX (C.dT z)) (sO (v:=λq=>LD (bH (F q) T)) (kQ nd n))
 ·rintro h b ⟨x,rfl,p,g⟩;rw[WO,Yj]at g;exact⟨aE p y,H x _ (nC j p) (by rw[WT (by omega)];exact g)⟩
theorem V4{b:Hm}{a:Nat}{xs:List D}{Q:jz}(h:b[a]?=aX (.lst xs)):W (pI (.loc a) [] b) Q↔Q (.non,b.set a (.lst xs.reverse)):=by simp only[pI,h];exact W_some
theorem V5(k:Nat){T:Ly}(M:Dih T){t:Bool}{Z:Zr}(lZ:Z.length<=100){b:Hm}{h:Nat}(I:HI b h Z)(o:b[h]?=aX (.dT (aN Z))){r s v A B E:Option D}{m2:MS}(Q:Fl×aG×Hm->Prop)
  (H:∀x y Y a,b<+:a->HI a b.length Y->a[b.length]?=aX (.dT (aN Y))->GZ Y=fP T t (GZ Z)->Q (.nx,[r,aX (.loc h),s,aX (.bl t),aX (LD T),v,A,B,E,aX (.loc b.length),x,y],a)) :
  W (d9 1 (bV (eA (aA 1)) (bT 10) (Ga (k+1))) m2 [r,aX (.loc h),s,aX (.bl t),aX (LD T),v,A,B,E,aX (.loc b.length),aY,aY] (b++[.dT []])) Q:=by
 have N:h<b.length:=(WR.mp o).1;have O:b.set h (.dF (aN Z))<+:(b++[C.dT []]).set h (.dF (aN Z)):=by rw[ZF _ _ N];exact ZS _ _
 have IF:=I.frz o;have l0:(b.set h (.dF (aN Z))).length=b.length:=XO;have K:(b.set h (.dF (aN Z)))[h]?=aX (.dF (aN Z)):=bY o;have R:((GZ Z).map (·.1)).Nodup:=by rw[dX];exact I.kd
 have X:((b++[C.dT []]).set h (.dF (aN Z)))[b.length]?=aX (.dT []):=by rw[WT (by omega)];exact bA _ _
 refine qG rfl (aE (aP _ _) o) (λi m a=>∃x y Y,m=[r,aX (.loc h),s,aX (.bl t),aX (LD T),v,A,B,E,aX (.loc b.length),x,y]/\b.set h (.dF (aN Z))<+:a/\HI a b.length Y/\a[b.length]?=aX (.dT (aN Y))/\GZ Y=fP T t ((GZ Z).take i))
  ⟨aY,aY,[],rfl,O,⟨.inl X,YH,λz l=>nomatch l⟩,X,rfl⟩ ?_ ?_
 ·rintro i kk d m a hk ⟨x,y,Y,rfl,p,J,g,n⟩;obtain⟨z,l,q,rfl,rfl⟩:=sN hk;have tk:=qI q;have lY:Y.length<=100:=by have:=congrArg X0 n;rw[eI,fP,WO,Ys,eI]at this;omega
  have nk:aF T z.1∉(GZ Y).map (·.1):=by
   rw[n,fP,W7];intro w;obtain⟨u,hu,e⟩:=W0.mp w;have e1:u.1=z.1:=by have:=congrArg (aF (iL T)) (show aF T u.1=aF T z.1 from e);rwa [oN M,oN M]at this
   have:z.1∉((GZ Z).take i).map (·.1):=by rw[a0p];exact kQ R (by rw[W6,GZ,W6,q];rfl)
   exact this (W0.mpr ⟨u,hu,e1⟩)
  refine bG (c6 (aW (bB rfl rfl ((c4 (.inr (aE p K)) (bM z.1) (jJ I.kd l)).mpr ⟨_,rfl,(FU ((IF.more p).at_ z l)).mpr ?_⟩))));have j:∀(L:jq)(c:Hm),a<+:c->c[a.length]?=aX (.lst (L.map PP))->L=(if t then z.2.1.reverse else z.2.1)->W (dJ (aA 9) (aI (f (k+1) "_law_led") (aB (aA 4) (aB (aA 10) aD))) (aA 11) [r,aX (.loc h),s,aX (.bl t),aX (LD T),v,A,B,E,aX (.loc b.length),aX (PP z.1),aX (.loc a.length)] c) λp=>p.1=.nx/\∃x y Y,p.2.1=[r,aX (.loc h),s,aX (.bl t),aX (LD T),v,A,B,E,aX (.loc b.length),x,y]/\b.set h (.dF (aN Z))<+:p.2.2/\HI p.2.2 b.length Y/\p.2.2[b.length]?=aX (.dT (aN Y))/\GZ Y=fP T t ((GZ Z).take (i+1)):=λL c U g2 eL=>by have G:=aE U g;obtain⟨Y',e3,e4,J4⟩:=(J.more U).put G (p:=aF T z.1) g2;refine w_mPut.mpr ⟨_,rfl,_,rfl,a9 rfl ((vY k T M z.1 _ _).mpr ((fX G (bM _) (by rw[fZ,Xh];omega)).mpr ?_))⟩;rw[e3];refine⟨rfl,_,_,Y',rfl,cL (p.trans U) (by omega) _,J4,bY G,?_⟩;rw[e4,wC nk,n,tk,eL];unfold fP;rw[Xj];rfl
  cases t with
  |false=>exact w_mSeq.mpr (w_mIfS.mpr (jZ ⟨_,rfl,rfl,dN rfl (w_mNext.mpr (j z.2.1 _ (aP _ _) (bA _ _) rfl))⟩))|true=>refine w_mSeq.mpr (w_mIfS.mpr (jZ ⟨_,rfl,rfl,dY rfl (w_mDrop.mpr (hU ⟨_,rfl,hV (bA _ _),_,rfl,(V4 (bA _ _)).mpr ?_⟩))⟩));rw[vT,<- a5E];exact j z.2.1.reverse _ (aP _ _) (bA _ _) rfl
 ·rintro m a ⟨x,y,Y,rfl,p,J,g,n⟩;rw[fZ,Yk (by rw[eI];exact WY _)]at n;refine⟨aE p K,H x y Y _ (nC o p) ⟨?_,J.kd,λz l=>?_⟩ (by rw[WT (by omega)];exact g) n⟩
  ·unfold Dc;rw[WT (by omega)];exact J.dic
  ·rw[WT (XI (J.ne (.inr (aE p K)) l))];exact J.at_ z l
theorem V6(k:Nat){qs:jq}(nd:qs.Nodup)(M:qs.length<=48){g:Hm}{a b l:Nat}{F:Int×Int->Ly}(E:∀q,Dih (F q)){row:jq}{Z:Zr}(d:Dr qs g a b F row Z){r:List Int}(gl:g[l]?=aX (.lst (r.map D.int)))(t:Bool)(Q:jz)
  (H:∀T m n Y c,g<+:c->Tw r.length T->Dr qs c m n (λq=>bH (F q) T) row Y->GZ Y=fP T t (GZ Z)->Q (.tup [.loc m,.loc n],c)):W (f (k+2) "_law_carried" [.loc a,.loc b,.loc l,.bl t] g) Q:=by
 have G:row.length<=100:=by rw[d.hr.length_eq];omega
 have L:=d.pl.lenZ.1;refine cX (TR (k+1) _ _ _ _ g) (bG (w_mTup.mpr ⟨_,rfl,vQ,fM (w_mForI.mpr (w_iSeq.mpr ⟨_,rfl,(fH gl).mpr ?_⟩))⟩));refine V2 k gl _ λT x y I i h=>⟨rfl,bG (w_mDNewT.mpr (fM ?_))⟩;refine V3 k E h.di (d.hr.nodup_iff.mpr nd) G (aE i d.hw) _ λz K s A=>⟨rfl,bG (w_mDNewT.mpr (fM ?_))⟩;have o:=d.more (i.trans s);refine V5 k h.di (by omega) o.hi o.hh _ λu v Y j w J B p=>⟨rfl,cY (w_mTup.mpr ⟨_,rfl,eB,H T _ _ Y j (i.trans (s.trans w)) h ⟨aE w A,d.hr,J,B,?_⟩ p⟩)⟩;rw[p];have:=Ic h.di t d.pl;have e:(λq=>aF T (aF (F q) q))=λq=>aF (bH (F q) T) q:=funext λq=>(jH _ _ _).symm;rw[e]at this;exact this
noncomputable def oQ(h:Int)(x:Int):jq:=(X9 (4*h-1).toNat).map λ(j:Nat)=>(x,1+(j:Int))
noncomputable def nG(h:Int)(n:Nat):jq:=(X9 n).flatMap λ(i:Nat)=>oQ h (1+(i:Int))
noncomputable def sV(w h:Int):jq:=nG h (4*w-1).toNat
theorem Ih(h:Int)(n:Nat):nG h (n+1)=nG h n++oQ h (1+(n:Int)):=by unfold nG;rw[a2b,Zl];simp
theorem Ii(h x:Int):(oQ h x).length=(4*h-1).toNat:=by unfold oQ;simp
theorem Bx(h:Int):∀n:Nat,(nG h n).length=n*(4*h-1).toNat
 |0=>by simp[nG]
 |n+1=>by rw[Ih,W4,Bx h n,Ii,a2V]
theorem Ij{h:Int}(b:h<=6){n:Nat}(a:n<=23):n*(4*h-1).toNat<=529:=by have:n*(4*h-1).toNat<=23*23:=a1u a (by omega);omega
theorem V7(h x:Int):((fL 1 (4*h-1).toNat).filter λ_=>b4).map (λd=>P x (j7 d))=(oQ h x).map PP:=by unfold fL oQ;rw[show ∀l:List D,l.filter (λ_=>b4)=l from λl=>by simp,W7,W7];rfl
theorem V8(k:Nat)(w h:Int)(hw:1<=w/\w<=6)(s:1<=h/\h<=6)(e:Hm)(Q:jz)(H:∀a b,e<+:b->b[a]?=aX (.lst ((sV w h).map PP))->e.length<=a->Q (.loc a,b)):W (f (k+1) "places_within" [.int w,.int h] e) Q:=by
 rw[S2,W_fin];simp only[w_mSeq,w_mSet,w_mLst,cV];refine⟨XJ _,?_⟩;simp only[X7,Yc,w_mForI,w_iRng2,w_mCons,cV,eN,w_mOp,b7,cH,w_mul4];refine⟨by omega,?_⟩;refine oJ (lo:=1) (λi q b=>e<+:b/\b[e.length]?=aX (.lst ((nG h i).map PP))/\∃o,q=[aX (.int w),aX (.int h),aX (.loc e.length),o]) ⟨aP _ _,bA _ _,aY,rfl⟩ ?_ ?_
 ·rintro i q p hi ⟨n,g,o,rfl⟩;refine⟨_,rfl,?_⟩;simp only[X7,Yc,w_mDrop];refine hU ?_;simp only[b7,cH];refine⟨hV g,?_⟩;simp only[w_mCons,cV];refine jY (xs:=fL 1 (4*h-1).toNat) (p:=λ_=>b4) (v:=λd=>P (1+(i:Int)) (j7 d)) ?_;simp only[w_iRng2,w_mCons,cV,eN,w_mOp,b7,cH,w_mul4];refine⟨by omega,AU,by simp[fL],by rw[Xh];simp[fL];omega,?_,?_,?_⟩
  ·intro d b hd n;exact w_mTrue.mpr ⟨rfl,Xx _⟩
  ·intro d b hd _ n;obtain⟨j,v,rfl⟩:=vM hd;simp only[Y9,a0W,w_mTup,w_mCons,cV,b7,cH,eB,true_and];exact⟨rfl,Xx _⟩
  ·intro u c l;rw[V7]at l;have m:((nG h i).map PP).length+((oQ h (1+(i:Int))).map PP).length<=W8:=by have r:=Ij (h:=h) s.2 (n:=i+1) (by omega);rw[a2V]at r;rw[WO,WO,Bx,Ii,Xh];omega
   refine(FL (aE c g) l m).mpr ?_;refine⟨cL (n.trans c) (WY _) _,?_,_,rfl⟩;rw[XY (WR.mp (aE c g)).1,Ih,Xj]
 ·rintro q p ⟨n,g,o,rfl⟩;simp only[w_mRet,b7,cH];exact H _ _ n g (WY _)
theorem V9{w h:Int}(hw:w<=6)(a:h<=6):(sV w h).length<=529:=by unfold sV;rw[Bx];exact Ij a (by omega)
noncomputable def qM(p:Int×Int):Bool:=if p.1%2=1 then p.2%2==1 else p.2%2==0&&!(p.1%4==p.2%4)
theorem Wa(k:Nat)(x y:Int)(a:Hm)(Q:jz):W (f (k+1) "is_edge" [P x y] a) Q↔Q (.bl (qM (x,y)),a):=by
 rw[Gg,W_fin];simp only[w_mSeq,w_mRet,w_mNext,w_mIfS,w_mTest,lV,w_mOp,eN,b7,w_it20,w_it21,w_eqI,vH,w_mod2,w_mod4];unfold qM;by_cases h:x%2=1
 ·simp[h]
 ·have e:(x%2==1)=false:=by simpa using h
  simp only[e,h,Xp,if_false];cases y%2==0<;>simp
theorem Wb:∀p∈dO,(sV p.1 p.2).filter qM=bN p.1 p.2:=by decide +kernel
theorem Wc(k:Nat){w h:Int}(j:(w,h)∈dO)(e:Hm)(Q:jz)(H:∀a b,e<+:b->b[a]?=aX (.lst ((bN w h).map PP))->Q (.loc a,b)):W (f (k+2) "edges_in" [.int w,.int h] e) Q:=by
 obtain⟨hw,i,_⟩:=f7 _ j;refine cX (S3 (k+1) _ _ e) (cY (jY (xs:=(sV w h).map PP) (p:=λd=>qM (dW d)) (v:=λd=>d) (w_iSeq.mpr (a9 rfl (V8 _ w h hw i _ _ λa n m g o=>(fH g).mpr ⟨oK g,rfl,?_,λd b hd c=>?_,λd b hd _ c=>⟨_,rfl,rfl,Xx _⟩,λb c l=>?_⟩)))))
 ·have:=V9 (w:=w) (h:=h) hw.2 i.2;rw[WO,Xh];omega
 ·obtain⟨u,v,rfl⟩:=Gj hd;exact jZ (b:=qM (u,v)) (a9 rfl ((Wa k u v _ _).mpr ⟨rfl,rfl,Xx _⟩))
 ·refine H _ _ (m.trans c) ?_;rw[l,r8 qM,Wb _ j]
noncomputable def e8(e:Int×Int):jq:=(iO e).filter c8
theorem mF{e:Int×Int}(h:cB e.1 e.2=b4):∃s t,e8 e=[s,t]/\s≠t/\((s=sA e/\t=sB e)\/(s=sB e/\t=sA e)):=by
 rcases Hz h with a|a
 ·exact⟨_,_,a,sR h,.inl ⟨rfl,rfl⟩⟩
 ·exact⟨_,_,a,XI (sR h),.inr ⟨rfl,rfl⟩⟩
theorem We{e:Int×Int}(h:cB e.1 e.2=b4):eP e e=e:=by
 obtain⟨x,y⟩:=e;unfold eP;rcases l9 h with⟨a,b⟩|⟨a,b,c⟩|⟨a,b,c⟩<;>dsimp only at a b ⊢
 ·by_cases h:x%4=y%4
  ·simp only[if_pos a,if_pos h];refine XH ?_ ?_<;>dsimp only<;>omega
  ·simp only[if_pos a,if_neg h];refine XH ?_ ?_<;>dsimp only<;>omega
 ·simp only[if_neg (show ¬ x%2=1 by omega),if_pos b];refine XH ?_ ?_<;>dsimp only<;>omega
 ·simp only[if_neg (show ¬ x%2=1 by omega),if_neg (show ¬ y%4=0 by omega)];refine XH ?_ ?_<;>dsimp only<;>omega
noncomputable def cS(F:Int×Int->Ly)(e:Int×Int):Int×Int:=aF (F (sA e)) e
theorem By{F:Int×Int->Ly}{e:Int×Int}(h:cB e.1 e.2=b4)(hd:F (sA e)=F (sB e)\/F (sA e)=bH (fY e) (F (sB e))):aF (F (sB e)) e=cS F e:=by
 unfold cS;rcases hd with hd|hd
 ·rw[hd]
 ·rw[hd,jH,r9,We h]
theorem Wg(k t:Nat){w h:Int}(U:(w,h)∈dO){S:List ((Int×Int)×Str)}{F:Int×Int->Ly}(wf:Wf w h F){row:jq}(K:row.Perm (bE w h))(nd:(bE w h).Nodup){l:Hm}(ht:l[t]?=aX (.dT (aQ (λq=>LD (F q)) row)))(Q:jz)
  (H:∀a Z j,GI l j a Z->GZ Z=cR (cS F) (bN w h)->Q (.loc a,j)):W (f (k+3) "edges_laid" [SH w h S,.loc t] l) Q:=by
 obtain⟨_,_,_,_,_,X,_,fr⟩:=f7 _ U;replace X:(bN w h).length<=64:=X;refine cX (S9 (k+2) _ _ l) (bG (w_mDNewT.mpr (fM (w_mForI.mpr (w_iSeq.mpr (a9 rfl (Wc k U _ _ λb u p1 v=>(fH v).mpr ?_)))))));have M:u[l.length]?=aX (.dT []):=aE p1 (bA _ _);have I0:GI l u l.length []:=⟨(aP _ _).trans p1,WY _,M,YH,YH,λz m=>nomatch m⟩;have J:b≠l.length:=λe=>by rw[e,M]at v;cases v
 refine jX (λi A j=>∃Z Y,GI l j l.length Z/\GZ Z=cR (cS F) ((bN w h).take i)/\j[b]?=aX (.lst ((bN w h).map PP))/\(∀z∈Z,b<z.2.2)/\A=[aX (SH w h S),aX (.loc t),aX (.loc l.length),Y]) ⟨[],aY,I0,rfl,v,(λz m=>nomatch m),rfl⟩ (λi A j h=>let⟨Z,o2,_,_,g,_⟩:=h;g) ?_ ?_
 ·rintro i d A L hd ⟨Z,Y,I,o,G,n,rfl⟩;obtain⟨e,O,rfl⟩:=kM hd;have R:=Xn O;obtain⟨r1,q1,q2,_⟩:=fr e R;obtain⟨s,t',es,_,E⟩:=mF r1;have p:s∈row/\aF (F s) e=cS F e:=by
   rcases E with⟨rfl,_⟩|⟨rfl,_⟩
   ·exact⟨K.mem_iff.mpr q1,rfl⟩
   ·exact⟨K.mem_iff.mpr q2,By r1 (wf.ed e R)⟩
  refine⟨[aX (SH w h S),aX (.loc t),aX (.loc l.length),aX (PP e)],rfl,w_mDrop.mpr (hU (vV ⟨_,rfl,vW I.dic,aW (c6 (aW (aL ⟨_,rfl,aL (a9 rfl (wH k e _ _ λc μ3 x N=>?_))⟩)))⟩))⟩;rw[show(iO e).filter c8=[s,t']from es]at N;refine⟨_,rfl,(cW N (show atI ([s,t'].map PP) 0=aX (PP s)from rfl)).mpr ((c4 (.inl (aE (I.pre.trans x) ht)) (bM s) (eU (K.nodup_iff.mpr nd) p.1)).mpr ⟨_,rfl,(A4 (k+1) (F s) (wf.di s) e.1 e.2 _ _).mpr (aW (w_mLst.mpr ⟨_,rfl,XJ _,_,rfl,?_⟩))⟩)⟩;rw[show((e.1,e.2):Int×Int)=e from rfl,p.2];have sm:=Ba o (sH _ _);have ht2:=Yx i (bN w h);refine bP (GJ (I.more x) (cS F e) e (by have:=sm.1;omega) (λz m=>by have:=sm.2 z m;omega) _ ?_) λr T=>⟨T.1,⟨_,rfl,T.2⟩⟩;intro Z' j I' B kp nw;refine⟨Z',aX (PP e),I',by rw[B,o,A9 O],kp _ _ (aE x G) J (λz m=>by have:=n z m;omega),λz m=>?_,rfl⟩;rcases nw z m with⟨y,hy,e⟩|e
  ·rw[<- e];exact n y hy
  ·have:=(WR.mp (aE x G)).1;omega
 ·rintro A L ⟨Z,o2,I,o,G,n,rfl⟩;rw[WO,Yj]at o;exact⟨rfl,cY ⟨_,rfl,H _ _ _ I o⟩⟩
theorem Ik(R:Int×Int->Nat->Hm->Prop){x:aG}{g:Hm}{l:Nat}{es:jq}{z:ME}{E:MI}(gl:g[l]?=aX (.lst (es.map PP)))(le:es.length<=100)(hit:E x g=aX (cI (.loc l),(es.map PP).length+1,g))
  (A:∀e c k n,R e c k->(∀b v,g.length<b->k[b]?=aX v->n[b]?=aX v)->R e c n)(K:∀e∈es,∀a,g<+:a->g.length<a.length->W (z (x++[aX (PP e)]) a) λs=>a<+:s.2/\∃c,s.1=.loc c/\R e c s.2)(Q:jz)
  (H:∀(d:List Nat) a,g<+:a->a[g.length]?=aX (.lst (d.map D.loc))->d.length=es.length->(∀(i:Nat) e c,es[i]?=aX e->d[i]?=aX c->R e c a)->Q (.loc g.length,a)):W (eW E fS z x g) Q:=by
 refine SF ⟨_,hit,es.length,(λi q a=>∃d:List Nat,q=d.map D.loc/\d.length=i/\g<+:a/\∀(j:Nat) e c,es[j]?=aX e->d[j]?=aX c->R e c a),by rw[WO],by rw[Xh];omega,?_,⟨[],rfl,rfl,aP _ _,λj e c _ h=>by simp at h⟩,?_,?_⟩
 ·rintro i q a ⟨d,rfl,h,_⟩;rw[WO];omega
 ·rintro i q a hi ⟨d,rfl,hc,p,r⟩ o;have B:es[i]?=aX es[i]:=W3 hi;refine⟨PP es[i],_,?_,rfl,w_mTrue.mpr ⟨λh=>(by cases h),λ_=>?_⟩⟩
  ·simp only[cI,gG,bK,aE p gl,Xm,W6,B]
  ·refine bP (K es[i] (ZP hi) a p (WR.mp o).1) λs ⟨w,c,I,N⟩=>⟨aE w o,d++[c],by rw[I,Xj];rfl,by rw[W4,hc];rfl,cL (p.trans w) (WY _) _,λj e y u m=>?_⟩;have G:∀k:Hm,k<+:s.2->∀b v,g.length<b->k[b]?=aX v->(s.2.set g.length (.lst (d.map D.loc++[s.1])))[b]?=aX v:=λk h b v O M=>by rw[WT (by omega)];exact aE h M
   by_cases L:j<d.length
   ·rw[XM L]at m;exact A e y _ _ (r j e y u m) (G a w)
   ·have J:j=i:=by have:=(WR.mp m).1;rw[W4]at this;have:j<d.length+1:=this;omega
    subst J;rw[YI (by omega),hc,a6P]at m;rw[B]at u;cases u;cases m;exact A _ _ _ _ N (G s.2 (Xx _))
 ·rintro q a ⟨d,rfl,hc,p,r⟩ o;refine⟨?_,H d a p o hc r⟩;simp only[cI,gG,bK,aE p gl,Xm];rw[YD (by rw[WO];exact WY _)]
theorem w_eqPd{p q:Int×Int}{a:Hm}{Q:jz}:W (aR b3 (PP p) (PP q) a) Q↔Q (.bl (decide (p=q)),a):=by
 have e:cG 8 a (PP p) (PP q)=aX (p.1==q.1&&(p.2==q.2&&b4)):=rfl;have:aR b3 (PP p) (PP q) a=aX (.bl (decide (p=q)),a):=by unfold aR;rw[e];show aX (D.bl (p.1==q.1&&(p.2==q.2&&b4)),a)=_;congr 3;rw[a2A,YV];simp only[WZ,beq_iff_eq,decide_eq_true_iff];exact⟨λz=>XH z.1 z.2,λz=>by rw[z];exact⟨rfl,rfl⟩⟩
 rw[this];exact W_some
noncomputable def dP(F:Int×Int->Ly)(e s:Int×Int):jq:=(e8 e).filter λq=>decide (aF (F q) q=s)
section
variable{F:Int×Int->Ly}{row:jq}{t:Nat}{μ:Hm}
theorem Wh(k:Nat)(j:∀q,Dih (F q))(nd:row.Nodup)(o:μ[t]?=aX (.dT (aQ (λq=>LD (F q)) row))){e s:Int×Int}(l:∀q∈e8 e,q∈row)(Q:jz)(H:∀c b,μ<+:b->μ.length<=c->b[c]?=aX (.lst ((dP F e s).map PP))->Q (.loc c,b)):W (f (k+3) "quarters_at" [PP e,.loc t,PP s] μ) Q:=by
 refine cX (Td (k+2) _ _ _ μ) (cY (jY (xs:=(e8 e).map PP) (p:=λd=>decide (aF (F (dW d)) (dW d)=s)) (v:=λd=>d) (w_iSeq.mpr (a9 rfl (wH k e _ _ λa p h i=>(fH i).mpr ⟨oK i,rfl,?_,λd b hd g=>?_,λd b hd _ g=>⟨_,rfl,rfl,Xx _⟩,λb g m=>?_⟩)))))
 ·rw[WO];exact Xz (XW _ _) Hw
 ·obtain⟨q,n,rfl⟩:=W0.mp hd;exact cZ (aL (c6 (aW (bB rfl rfl ((c4 (.inl (aE (h.trans g) o)) (bM q) (eU nd (l q n))).mpr ⟨_,rfl,(A4 (k+1) (F q) (j q) q.1 q.2 _ _).mpr ⟨_,rfl,w_eqPd.mpr ⟨_,rfl,rfl,Xx _⟩⟩⟩)))))
 ·refine H _ _ (h.trans g) (AO h) ?_;rw[m,r8 λq=>decide (aF (F q) q=s)];rfl
noncomputable def JC(lo:Nat)(A B:jq)(c:Nat)(μ:Hm):Prop:=∃c0 c1,lo<c/\lo<c0/\lo<c1/\μ[c]?=aX (.lst [.loc c0,.loc c1])/\μ[c0]?=aX (.lst (A.map PP))/\μ[c1]?=aX (.lst (B.map PP))
theorem Wi(k:Nat)(z:∀q,Dih (F q))(nd:row.Nodup)(E:μ[t]?=aX (.dT (aQ (λq=>LD (F q)) row))){e p s0 s1:Int×Int}(A:∀q∈e8 e,q∈row)(u:e8 p=[s0,s1]){lo:Nat}(B:lo<μ.length)(Q:jz)(H:∀c b,μ<+:b->JC lo (dP F e s0) (dP F e s1) c b->Q (.loc c,b)):W (f (k+4) "joined_at" [PP e,.loc t,PP p] μ) Q:=by
 refine cX (Te (k+3) _ _ _ μ) (cY ?_);obtain⟨⟨x,d⟩,y,a,g,i,o⟩:W (f (k+3) "sides_of" [PP p] μ) λr=>∃a,μ<+:r.2/\r.2[a]?=aX (.lst ((e8 p).map PP))/\r.1=.loc a:=wH (k+1) p _ _ λa d g i=>⟨a,g,i,rfl⟩;dsimp only at g i o;subst o;have hc:eW (cU (aI (f (k+3) "sides_of") (aB (aA 2) aD))) fS (aI (f (k+3) "quarters_at") (aB (aA 0) (aB (aA 1) (aB (aA 3) aD)))) [aX (PP e),aX (.loc t),aX (PP p)] μ=eW (λ_ μ=>aX (cI (.loc a),((e8 p).map PP).length+1,μ)) fS (aI (f (k+3) "quarters_at") (aB (aA 0) (aB (aA 1) (aB (aA 3) aD)))) [aX (PP e),aX (.loc t),aX (PP p)] d:=by
  have:cU (aI (f (k+3) "sides_of") (aB (aA 2) aD)) [aX (PP e),aX (.loc t),aX (PP p)] μ=aX (cI (.loc a),((e8 p).map PP).length+1,d):=by unfold cU;rw[show aI (f (k+3) "sides_of") (aB (aA 2) aD) [aX (PP e),aX (.loc t),aX (PP p)] μ=f (k+3) "sides_of" [PP p] μ from rfl,y];simp only[Xi,gG,bK,i];rfl
  unfold eW gT;rw[this]
 rw[hc];have lt:μ.length<=d.length:=AO g;refine Ik (R:=λs c b=>d.length<c/\b[c]?=aX (.lst ((dP F e s).map PP))) i (by rw[u];show(2:Nat)<=100;decide) rfl (λe c R T h k=>⟨h.1,k c _ h.1 h.2⟩) (λs L b n O=>a9 rfl (Wh k z nd (aE (g.trans n) E) A _ λc K G m w=>⟨G,c,rfl,by omega,w⟩)) _ λv b n l m j=>?_;rw[u]at m j;match v,m,l,j with
 |[c0,c1],_,l,j=>obtain⟨M,I⟩:=j 0 s0 c0 rfl rfl;obtain⟨N,J⟩:=j 1 s1 c1 rfl rfl;exact H _ _ (g.trans n) ⟨c0,c1,by omega,by omega,by omega,l,I,J⟩
end
noncomputable def oR(r:Int×Int->Int)(a b:Int×Int)(L:jq):Nat:=(L.filter λq=>decide (min (r a) (r b)<r q)&&decide (r q<max (r a) (r b))).length
section
variable{r:Int×Int->Int}{fl:jq}{h:Nat}{μ:Hm}
theorem Il(k:Nat)(j:fl.Nodup)(i:μ[h]?=aX (.dT (aQ (λq=>.int (r q)) fl))){a b:Int×Int}(w:a∈fl)(z:b∈fl){L:jq}(v:∀q∈L,q∈fl)(A:L.length<=100){x y:Nat}(e:μ[x]?=aX (.lst ([a,b].map PP)))(l:μ[y]?=aX (.lst (L.map PP)))(Q:jz)(H:∀c,μ<+:c->Q (.int (oR r a b L),c)):W (f (k+1) "count_between" [.loc h,.loc x,.loc y] μ) Q:=by
 have n:atI ([a,b].map PP) 0=aX (PP a):=rfl;have o:atI ([a,b].map PP) 1=aX (PP b):=rfl;have p:∀{Q:jz},Q (.int (r a),μ)->W (aJ (.loc h) (PP a) μ) Q:=λq=>(c4 (.inl i) (bM a) (eU j w)).mpr q;have s:∀{Q:jz},Q (.int (r b),μ)->W (aJ (.loc h) (PP b) μ) Q:=λq=>(c4 (.inl i) (bM b) (eU j z)).mpr q;refine cX (Tf k _ _ _ μ) (bG (c6 (aW (aL ⟨_,rfl,bB rfl rfl ((cW e n).mpr (p (aW (aL ⟨_,rfl,bB rfl rfl ((cW e o).mpr (s ⟨_,rfl,w_min.mpr ?_⟩))⟩))))⟩))));refine bG (c6 (aW (aL ⟨_,rfl,bB rfl rfl ((cW e n).mpr (p (aW (aL ⟨_,rfl,bB rfl rfl ((cW e o).mpr (s ⟨_,rfl,w_max.mpr ?_⟩))⟩))))⟩)));refine cY (c6 (aW (jY (xs:=L.map PP) (p:=λd=>decide (min (r a) (r b)<r (dW d))&&decide (r (dW d)<max (r a) (r b))) (v:=λd=>d) (w_iSeq.mpr ⟨_,rfl,(fH l).mpr ⟨oK l,rfl,by rw[WO,Xh];omega,λd c hd g=>?_,λd c hd _ g=>⟨_,rfl,rfl,Xx _⟩,λc g m=>?_⟩⟩))))
 ·obtain⟨q,u,rfl⟩:=W0.mp hd;refine cZ (w_mChain.mpr ⟨_,rfl,bB rfl rfl ((c4 (.inl (aE g i)) (bM q) (eU j (v q u))).mpr (w_ltI.mpr ?_))⟩);rw[wB];cases decide (min (r a) (r b)<r q)with
  |false=>exact⟨_,rfl,rfl,Xx _⟩|true=>exact⟨_,rfl,w_ltI.mpr ⟨_,rfl,rfl,Xx _⟩⟩
 ·rw[r8 λq=>decide (min (r a) (r b)<r q)&&decide (r q<max (r a) (r b))]at m;refine⟨_,rfl,(l7 m).mpr ?_⟩;rw[WO];exact H _ g
end
noncomputable def kU(r:Int×Int->Int)(X Y:jq):Option Bool:=match X with
 |[a,b]=>aX (oR r a b Y==1)|_=>match Y with
  |[c,d]=>aX (oR r c d X==1)|_=>aY
noncomputable def qN(r:Int×Int->Int)(X Y:jq):Bool:=decide (r (X.headD (0,0))>r (Y.headD (0,0)))
noncomputable def mG(r:Int×Int->Int)(a c d e:jq):Bool:=match kU r a d with
 |some b=>b|none=>match kU r c e with
  |some b=>b|none=>qN r a d != qN r c e
theorem Im{X:jq}(h:X.length=2):∃a b,X=[a,b]:=by
 match X,h with
 |[a,b],_=>exact⟨a,b,rfl⟩
theorem Wj{r:Int×Int->Int}{X Y:jq}{c d:Int×Int}(a:X.length≠2)(b:Y=[c,d]):kU r X Y=aX (oR r c d X==1):=by
 subst b;unfold kU;split
 ·exact absurd rfl a
 ·rfl
theorem Wl{r:Int×Int->Int}{X Y:jq}(a:X.length≠2)(b:Y.length≠2):kU r X Y=none:=by
 unfold kU;split
 ·exact absurd rfl a
 ·split
  ·exact absurd rfl b
  ·rfl
theorem Io(n:Nat):(((n:Int))==1)=(n==1):=by rw[YV,beq_iff_eq,beq_iff_eq];omega
theorem Ip(n:Nat):(((n:Int))==2)=(n==2):=by rw[YV,beq_iff_eq,beq_iff_eq];omega
section
variable{r:Int×Int->Int}{fl:jq}{h:Nat}{μ:Hm}
theorem Iq(k:Nat)(u:fl.Nodup)(s:μ[h]?=aX (.dT (aQ (λq=>.int (r q)) fl))){X Y:jq}(j:∀q∈X,q∈fl)(l:∀q∈Y,q∈fl)(w:X.length<=100)(z:Y.length<=100){x y:Nat}(g:μ[x]?=aX (.lst (X.map PP)))(i:μ[y]?=aX (.lst (Y.map PP))){m n:Option D}(R:Fl×aG×Hm->Prop)
  (o:∀b c,kU r X Y=aX b->μ<+:c->R (.rt (.bl b),[aX (.loc h),m,n,aX (.loc x),aX (.loc y)],c))(v:kU r X Y=aY->R (.nx,[aX (.loc h),m,n,aX (.loc x),aX (.loc y)],μ)):W (Gb (k+1) [aX (.loc h),m,n,aX (.loc x),aX (.loc y)] μ) R:=by
 refine w_mSeq.mpr (w_mIfS.mpr (cZ (aL (a9 rfl ((l7 g).mpr ⟨_,rfl,w_eqI.mpr ⟨_,rfl,?_⟩⟩)))));rw[WO,Ip];by_cases d:X.length=2
 ·refine dY (beq_iff_eq.mpr d) ?_;obtain⟨a,b,rfl⟩:=Im d;refine w_mRet.mpr (aL (a9 rfl (Il k u s (j a (by simp)) (j b (by simp)) l z g i _ λc p=>⟨_,rfl,w_eqI.mpr ?_⟩)));rw[Io];exact o _ _ rfl p
 ·refine dN (beq_eq_false_iff_ne.mpr d) (w_mNext.mpr (w_mIfS.mpr (cZ (aL (a9 rfl ((l7 i).mpr ⟨_,rfl,w_eqI.mpr ⟨_,rfl,?_⟩⟩))))));rw[WO,Ip];by_cases e:Y.length=2
  ·refine dY (beq_iff_eq.mpr e) ?_;obtain⟨a,b,rfl⟩:=Im e;refine w_mRet.mpr (aL (a9 rfl (Il k u s (l a (by simp)) (l b (by simp)) j w i g _ λc p=>⟨_,rfl,w_eqI.mpr ?_⟩)));rw[Io];exact o _ _ (Wj d rfl) p
  ·exact dN (beq_eq_false_iff_ne.mpr e) (w_mNext.mpr (v (Wl d e)))
theorem Ir(k:Nat)(d:fl.Nodup)(c:μ[h]?=aX (.dT (aQ (λq=>.int (r q)) fl))){a b:Int×Int}(e:a∈fl)(g:b∈fl)(Q:jz)(H:Q (.bl (decide (r a>r b)),μ)):W (f (k+1) "is_above" [.loc h,PP a,PP b] μ) Q:=
 cX (Gh k _ _ _ μ) (cY (aL (bB rfl rfl ((c4 (.inl c) (bM a) (eU d e)).mpr (bB rfl rfl ((c4 (.inl c) (bM b) (eU d g)).mpr (w_gtI.mpr H)))))))
inductive Sh:jq->jq->Prop where
 |c0 (a b):Sh [a,b] []
 |c1 (a b):Sh [] [a,b]
 |s (a b):Sh [a] [b]
theorem Sh.len{A B:jq}(s:Sh A B):A.length<=100/\B.length<=100:=by cases s<;>exact⟨by simp,by simp⟩
theorem w_neB{x y:Bool}{μ:Hm}{Q:jz}:W (aR b4 (.bl x) (.bl y) μ) Q↔Q (.bl (x != y),μ):=by
 have:aR b4 (.bl x) (.bl y) μ=aX (.bl (x != y),μ):=by cases x<;>cases y<;>rfl
 rw[this];exact W_some
theorem Wm(k:Nat)(U:fl.Nodup)(O:μ[h]?=aX (.dT (aQ (λq=>.int (r q)) fl))){E G I J:jq}(sA:Sh E G)(sB:Sh I J)(R:∀q,q∈E\/q∈G->q∈fl)(T:∀q,q∈I\/q∈J->q∈fl){lo x y:Nat}(jA:JC lo E G x μ)(jB:JC lo I J y μ)(Q:jz)
  (H:∀g,μ<+:g->Q (.bl (mG r E G I J),g)):W (f (k+2) "crosses" [.loc h,.loc x,.loc y] μ) Q:=by
 obtain⟨a0,a1,_,_,_,m,K,L⟩:=jA;obtain⟨b0,b1,_,_,_,n,M,N⟩:=jB;have lA:=sA.len;have lB:=sB.len;refine cX (Tg (k+1) _ _ _ μ) (w_mSeq.mpr (w_mForI.mpr (SJ ⟨_,rfl,_,_,_,_,rfl,m,n,?_⟩)));refine l6 (N:=2) (λi A g=>∃u v,A=[aX (.loc h),aX (.loc x),aX (.loc y),u,v]/\μ<+:g/\(0<i->kU r E I=aY)/\(1<i->kU r G J=aY)) ?_ ?_ 2 0 _ μ rfl ⟨aY,aY,rfl,Xx _,λz=>absurd z (Zs _),λz=>absurd z (by decide)⟩
 ·rintro i A g hi ⟨u,v,rfl,p,l,B⟩;have j:∀i,oD (.loc x) (.loc y) g i=aX (([D.loc a0,.loc a1][i]?).bind λd=>([D.loc b0,.loc b1][i]?).map λe=>.tup [d,e]):=λi=>by simp only[oD,bK,aE p m,aE p n,Xi,Xm]
  have hc:i=0\/i=1:=by omega
  rcases hc with rfl|rfl
  ·refine⟨_,_,j 0,rfl,Iq k U (aE p O) (λq o=>R q (.inl o)) (λq o=>T q (.inl o)) lA.1 lB.1 (aE p K) (aE p M) _ (λb w e Y=>?_) λe=>⟨_,_,rfl,p,λ_=>e,λz=>absurd z (by decide)⟩⟩;have:=H w (p.trans Y);unfold mG at this;rw[e]at this;exact this
  ·refine⟨_,_,j 1,rfl,Iq k U (aE p O) (λq o=>R q (.inr o)) (λq o=>T q (.inr o)) lA.2 lB.2 (aE p L) (aE p N) _ (λb w e Y=>?_) λe=>⟨_,_,rfl,p,λ_=>l (by decide),λ_=>e⟩⟩;have:=H w (p.trans Y);unfold mG at this;rw[l (by decide),e]at this;exact this
 ·rintro A g ⟨u,v,rfl,p,l,B⟩;have l:=l (by decide);have B:=B (by decide);have j:oD (.loc x) (.loc y) g 2=aX none:=by simp only[oD,bK,aE p m,aE p n,Xi,Xm];rfl
  refine⟨j,?_⟩;have:=H g p;unfold mG at this;rw[l,B]at this;cases sA with
  |c0 a b=>cases l|c1 a b=>cases B|s a b=>
   cases sB with
   |c0 c d=>cases l|c1 c d=>cases B|s c d=>have Z:∀{u v:D},atI [u,v] 0=aX u:=rfl;have i1:∀{u v:D},atI [u,v] 1=aX v:=rfl;have X:∀q,atI ([q].map PP) 0=aX (PP q):=λ_=>rfl;have m:=aE p m;have n:=aE p n;refine w_mRet.mpr (aL (c6 (aW ⟨_,rfl,aW (aL (bB rfl rfl ((cW m Z).mpr ⟨_,rfl,(cW (aE p K) (X a)).mpr (aW (aL (bB rfl rfl ((cW n Z).mpr ⟨_,rfl,(cW (aE p M) (X c)).mpr ⟨_,rfl,?_⟩⟩))))⟩)))⟩)));refine Ir k U (aE p O) (R a (.inl (by simp))) (T c (.inl (by simp))) _ (c6 (aW ⟨_,rfl,aW (aL (bB rfl rfl ((cW m i1).mpr ⟨_,rfl,(cW (aE p L) (X b)).mpr (aW (aL (bB rfl rfl ((cW n i1).mpr ⟨_,rfl,(cW (aE p N) (X d)).mpr ⟨_,rfl,?_⟩⟩))))⟩)))⟩));exact Ir k U (aE p O) (R b (.inr (by simp))) (T d (.inr (by simp))) _ (w_neB.mpr this)
end
theorem Iu(p q:Int×Int):q∈iO p↔(q.1=p.1-1/\q.2=p.2)\/(q.1=p.1/\q.2=p.2-1)\/(q.1=p.1/\q.2=p.2+1)\/(q.1=p.1+1/\q.2=p.2):=by unfold iO;simp only[Xr,ZO,or_false,Prod.ext_iff]
theorem wN{A:Ly}(hA:Dih A)(c:A.e%4=0/\A.g%4=0){e q:Int×Int}(h:q∈e8 e):aF A q∈e8 (aF A e):=by
 obtain⟨a,b⟩:=XD.mp h;rw[Iu]at a;refine XD.mpr ⟨?_,?_⟩
 ·rw[Iu];unfold aF;obtain⟨u,v,h|h|h|h|h|h|h|h⟩:=sE hA<;>subst h<;>dsimp only<;>omega
 ·rw[show c8 (aF A q)=c8 q from HA (T:=λx y=>c8 (x,y)) Hy U8 U9 hA c q];exact b
theorem wO{A:Ly}(hA:Dih A){p q:Int×Int}(h:p≠q):aF A p≠aF A q:=λe=>h (by
 have:=congrArg (aF (iL A)) e;rwa [oN hA,oN hA]at this)
theorem Wn{A:Ly}(hA:Dih A)(c:A.e%4=0/\A.g%4=0){e s t:Int×Int}(h:cB e.1 e.2=b4)(d:e8 e=[s,t]):e8 (aF A e)=[aF A s,aF A t]\/e8 (aF A e)=[aF A t,aF A s]:=by
 obtain⟨u,v,i,ne,_⟩:=mF (wI hA c h);have a:=wN hA c (e:=e) (q:=s) (by rw[d];simp);have b:=wN hA c (e:=e) (q:=t) (by rw[d];simp);have st:s≠t:=by obtain⟨k,l,g,j,_⟩:=mF h;rw[d]at g;cases g;exact j
 have n:=wO hA st;rw[i]at a b ⊢;simp only[Xr,ZO,or_false]at a b;rcases a with a|a<;>rcases b with b|b
 ·exact absurd (a.trans b.symm) n
 ·rw[a,b];exact .inl rfl
 ·rw[a,b];exact .inr rfl
 ·exact absurd (a.trans b.symm) n
section
variable{w h:Int}{F:Int×Int->Ly}{e:Int×Int}
theorem wQ(G:(w,h)∈dO)(i:Wf w h F)(x:e∈bN w h){s0 s1:Int×Int}(m:e8 (cS F e)=[s0,s1]):Sh (dP F e s0) (dP F e s1)/\(∀q,q∈dP F e s0\/q∈dP F e s1->q∈bE w h)/\cB (cS F e).1 (cS F e).2=true:=by
 obtain⟨o,z,A,_⟩:=(f7 _ G).2.2.2.2.2.2.2 e x;have B:cB (cS F e).1 (cS F e).2=true:=wI (i.di _) (i.lt _) o;obtain⟨c,d,l,J,j⟩:=mF o;have y:c∈bE w h/\d∈bE w h:=by
  rcases j with⟨rfl,rfl⟩|⟨rfl,rfl⟩
  ·exact⟨z,A⟩
  ·exact⟨A,z⟩
 have k:∀s,∀q∈dP F e s,q∈bE w h:=λs q n=>by
  have:=(XD.mp n).1;rw[l]at this;simp only[Xr,ZO,or_false]at this;rcases this with rfl|rfl
  ·exact y.1
  ·exact y.2
 refine⟨?_,λq n=>n.elim (k _ q) (k _ q),B⟩;obtain⟨u,v,p,g,_⟩:=mF B;rw[m]at p;cases p;have E:aF (F c) e=cS F e/\aF (F d) e=cS F e:=by
  have:=By o (i.ed e x);rcases j with⟨rfl,rfl⟩|⟨rfl,rfl⟩
  ·exact⟨rfl,this⟩
  ·exact⟨this,rfl⟩
 have H:aF (F c) c=s0\/aF (F c) c=s1:=by have:=wN (i.di c) (i.lt c) (e:=e) (q:=c) (by rw[l];simp);rw[E.1,m]at this;simpa using this
 have I:aF (F d) d=s0\/aF (F d) d=s1:=by have:=wN (i.di d) (i.lt d) (e:=e) (q:=d) (by rw[l];simp);rw[E.2,m]at this;simpa using this
 unfold dP;rw[l];have r:∀s,([c,d].filter λq=>decide (aF (F q) q=s))=(if aF (F c) c=s then[c]else[])++if aF (F d) d=s then[d]else[]:=λs=>by rw[a1P,a1P,Z1];by_cases a:aF (F c) c=s<;>by_cases b:aF (F d) d=s<;>simp[a,b]
 rw[r,r];rcases H with a|a<;>rcases I with b|b
 ·rw[a,b,if_pos rfl,if_pos rfl,if_neg g,if_neg g];exact .c0 _ _
 ·rw[a,b,if_pos rfl,if_neg (XI g),if_neg g,if_pos rfl];exact .s _ _
 ·rw[a,b,if_neg (XI g),if_pos rfl,if_pos rfl,if_neg g];exact .s _ _
 ·rw[a,b,if_neg (XI g),if_neg (XI g),if_pos rfl,if_pos rfl];exact .c1 _ _
end
theorem Wo(r:Int×Int->Int){c d e g:jq}(a:Sh c d)(b:Sh e g):mG r d c g e=mG r c d e g:=by
 cases a<;>cases b<;>try rfl
 show(qN r _ _ != qN r _ _)=(qN r _ _ != qN r _ _);exact Bool.xor_comm _ _
theorem Iv(r:Int×Int->Int)(a b q:Int×Int):(decide (min (r a) (r b)<r q)&&decide (r q<max (r a) (r b)))=((decide (r a<r q)&&decide (r q<r b))||(decide (r b<r q)&&decide (r q<r a))):=by rw[YV];simp only[WZ,Y3,decide_eq_true_iff];omega
section
variable{t:Bool}{qs:jq}{g:Int×Int->Int×Int}{r r':Int×Int->Int}
theorem sW(T:Tn t qs g r r'){a b s:Int×Int}{L:jq}(c:a∈qs/\g a=s)(d:b∈qs/\g b=s)(i:∀q∈L,q∈qs/\g q=s):oR r' a b L=oR r a b L:=by
 unfold oR;congr 1;refine a1C λq j=>?_;obtain⟨e,h⟩:=i q j;rw[Iv,Iv,T a c.1 q e (by rw[c.2,h]),T q e b d.1 (by rw[h,d.2]),T b d.1 q e (by rw[d.2,h]),T q e a c.1 (by rw[h,c.2])];cases t
 ·rfl
 ·simp only[if_true];rw[a6t,a6t (decide (r q<r b)),Bool.or_comm]
theorem Wq(T:Tn t qs g r r'){e l m n:jq}(a:Sh e l)(b:Sh m n){s0 s1:Int×Int}(c:(∀q∈e,q∈qs/\g q=s0)/\∀q∈l,q∈qs/\g q=s1)(d:(∀q∈m,q∈qs/\g q=s0)/\∀q∈n,q∈qs/\g q=s1)(ne:∀x y,(x∈e/\y∈m)\/(x∈l/\y∈n)->r x≠r y):mG r' e l m n=mG r e l m n:=by
 cases a with
 |c0 x y=>exact congrArg (·==1) (sW T (c.1 x (by simp)) (c.1 y (by simp)) d.1)|c1 x y=>
  cases b with
  |c0 z v=>rfl|c1 z v=>exact congrArg (·==1) (sW T (c.2 x (by simp)) (c.2 y (by simp)) d.2)|s z v=>exact congrArg (·==1) (sW T (c.2 x (by simp)) (c.2 y (by simp)) d.2)
 |s x y=>
  cases b with
  |c0 z v=>exact congrArg (·==1) (sW T (d.1 z (by simp)) (d.1 v (by simp)) c.1)|c1 z v=>exact congrArg (·==1) (sW T (d.2 z (by simp)) (d.2 v (by simp)) c.2)|s z v=>
   obtain⟨A,B⟩:=c.1 x (by simp);obtain⟨E,G⟩:=c.2 y (by simp);obtain⟨H,I⟩:=d.1 z (by simp);obtain⟨u,w⟩:=d.2 v (by simp);have o:=ne x z (.inl ⟨by simp,by simp⟩);have p:=ne y v (.inr ⟨by simp,by simp⟩);show(decide (r' z<r' x) != decide (r' v<r' y))=(decide (r z<r x) != decide (r v<r y));rw[T z H x A (by rw[I,B]),T v u y E (by rw[w,G])];cases t
   ·rfl
   ·simp only[if_true];have f:∀{i j:Int},i≠j->decide (i<j)=!decide (j<i):=λ{i j} h=>by
     by_cases k:i<j
     ·rw[decide_eq_true k,decide_eq_false (by omega)];rfl
     ·rw[decide_eq_false k,decide_eq_true (by omega)];rfl
    rw[f o,f p];cases decide (r z<r x)<;>cases decide (r v<r y)<;>rfl
end
noncomputable def eV(F:Int×Int->Ly)(r:Int×Int->Int)(p e a:Int×Int):Bool:=match e8 p with
 |[s0,s1]=>mG r (dP F e s0) (dP F e s1) (dP F a s0) (dP F a s1)|_=>b3
noncomputable def iP(c:Int×Int->Int×Int->Bool)(e:Int×Int)(L:jq):List ((Int×Int)×(Int×Int)):=(L.filter (c e)).map λx=>(e,x)
noncomputable def iQ(c:Int×Int->Int×Int->Bool)(es:jq)(n:Nat):List ((Int×Int)×(Int×Int)):=(X9 n).flatMap λk=>iP c (es.getD k (0,0)) (es.drop (k+1))
theorem wR(c:Int×Int->Int×Int->Bool)(es:jq)(n:Nat):iQ c es (n+1)=iQ c es n++iP c (es.getD n (0,0)) (es.drop (n+1)):=by unfold iQ;rw[a2b,Zl,a0D,a1O,Yh]
theorem Iw(c:Int×Int->Int×Int->Bool)(e:Int×Int)(L:jq):(iP c e L).length<=L.length:=by unfold iP;rw[WO];exact XW _ _
theorem wU(c:Int×Int->Int×Int->Bool)(es:jq):∀n:Nat,(iQ c es n).length<=n*es.length
 |0=>XJ _|n+1=>by have b:=wU c es n;have a:=Iw c (es.getD n (0,0)) (es.drop (n+1));rw[a0O]at a;rw[wR,W4,a2V];omega
theorem Iy(c:Int×Int->Int×Int->Bool)(e x:Int×Int)(L:jq):iP c e (L++[x])=iP c e L++if c e x=b4 then[(e,x)]else[]:=by
 unfold iP;rw[Yd,Xj];congr 1;by_cases h:c e x=b4
 ·rw[if_pos h,XQ h];rfl
 ·rw[if_neg h,XR h];rfl
theorem Iz{a:List Nat}{i:Nat}{c:Nat}(h:a[i]?=aX c):atI (a.map D.loc) (i:Int)=aX (.loc c):=by have hi:=(WR.mp h).1;unfold atI;rw[WO,HE hi];show(a.map D.loc)[i]?=_;rw[W6,h];rfl
section
variable{w h:Int}{F:Int×Int->Ly}{r:Int×Int->Int}{fl row es:jq}{p s0 s1:Int×Int}{t hg l:Nat}
theorem Wr(k:Nat)(hs:(w,h)∈dO)(wf:Wf w h F)(nf:fl.Nodup)(mf:∀q∈bE w h,q∈fl){g:Hm}(hh:g[hg]?=aX (.dT (aQ (λq=>.int (r q)) fl)))(R:e8 p=[s0,s1])(gl:g[l]?=aX (.lst (es.map PP)))(le:es.length<=64)(he:∀e∈es,e∈bN w h/\cS F e=p){lo j:Nat}{v:List Nat}(gj:g[j]?=aX (.lst (v.map D.loc)))(lc:v.length=es.length)(hR:∀(i:Nat) e c,es[i]?=aX e->v[i]?=aX c->JC lo (dP F e s0) (dP F e s1) c g)
  {i:Nat}{e:Int×Int}(hi:es[i]?=aX e){base:List ((Int×Int)×(Int×Int))}(lb:base.length<=5000){μ:Hm}(p1:g<+:μ)(gb:μ[g.length]?=aX (.lst (base.map ND))){Y Z x8:Option D}(Q:Fl×aG×Hm->Prop)
  (H:∀x n,g<+:n->n[g.length]?=aX (.lst ((base++iP (eV F r p) e (es.drop (i+1))).map ND))->Q (.nx,[aX (.loc hg),Y,Z,aX (.loc l),aX (PP e),aX (.loc j),aX (.loc g.length),aX (.int i),x],n)) :
  W (dS (gQ ((i:Int)+1) (es.length-(i+1))) (bT 8) (Gd (k+2)) (es.length-(i+1)+1) 0 [aX (.loc hg),Y,Z,aX (.loc l),aX (PP e),aX (.loc j),aX (.loc g.length),aX (.int i),x8] μ) Q:=by
 have hil:=(WR.mp hi).1;obtain⟨ci,z⟩:∃c,v[i]?=aX c:=⟨v[i]'(by omega),W3 (by omega)⟩;have ji:=hR i e ci hi z;obtain⟨L,M⟩:=he e (Xn hi);obtain⟨sh,sm,_⟩:=wQ hs wf L (s0:=s0) (s1:=s1) (by rw[M];exact R);refine oJ (λm y n=>∃x,y=[aX (.loc hg),Y,Z,aX (.loc l),aX (PP e),aX (.loc j),aX (.loc g.length),aX (.int i),x]/\g<+:n/\n[g.length]?=aX (.lst ((base++iP (eV F r p) e ((es.drop (i+1)).take m)).map ND))) ⟨x8,rfl,p1,by rw[a3I];show _=aX (C.lst ((base++[]).map ND));rw[Yh];exact gb⟩ ?_ ?_
 ·rintro m y n hm ⟨x,rfl,o,I⟩;have G:i+1+m<es.length:=by omega
  obtain⟨u,s⟩:∃u,es[i+1+m]?=aX u:=⟨es[i+1+m],W3 G⟩;obtain⟨cm,E⟩:∃c,v[i+1+m]?=aX c:=⟨v[i+1+m]'(by omega),W3 (by omega)⟩;have jm:=hR _ u cm s E;obtain⟨N,O⟩:=he u (Xn s);obtain⟨U,X,_⟩:=wQ hs wf N (s0:=s0) (s1:=s1) (by rw[O];exact R);have em:((i:Int)+1+(m:Nat))=((i+1+m:Nat):Int):=by omega
  have tk:(es.drop (i+1)).take (m+1)=(es.drop (i+1)).take m++[u]:=gM (by rw[List.getElem?_drop];exact s);have mono:∀{A B:jq}{c:Nat},JC lo A B c g->JC lo A B c n:=λ⟨c0,c1,a,b,c,d,e,f⟩=>⟨c0,c1,a,b,c,aE o d,aE o e,aE o f⟩;rw[em];refine⟨_,rfl,w_mIfS.mpr (jZ (b:=eV F r p e u) (c6 (aW ⟨_,rfl,aW (bB rfl rfl ((cW (aE o gj) (Iz z)).mpr (aW (bB rfl rfl ((cW (aE o gj) (Iz E)).mpr ⟨_,rfl,?_⟩)))))⟩)))⟩;refine Wm k nf (aE o hh) sh U (λq T=>mf q (sm q T)) (λq T=>mf q (X q T)) (mono ji) (mono jm) _ λμ3 K=>⟨by unfold eV;rw[R],?_⟩;have J:=aE K I;have lb2:(base++iP (eV F r p) e ((es.drop (i+1)).take m)).length<=6000:=by have:=Iw (eV F r p) e ((es.drop (i+1)).take m);have:=Yx m (es.drop (i+1));rw[a0O]at this;rw[W4];omega
  cases hb:eV F r p e u with
  |false=>refine dN rfl (w_mNext.mpr ⟨_,rfl,o.trans K,?_⟩);rw[tk,Iy,hb,if_neg Xo,Yh];exact J|true=>refine dY rfl (w_mDrop.mpr (hU ⟨_,rfl,hV J,aW (w_mTup.mpr (aW ⟨_,rfl,aW (bB rfl rfl ((cW (aE (o.trans K) gl) (Bl (HE G) s)).mpr ⟨_,rfl,eB,_,rfl,(m7 J (by rw[WO,Xh];omega)).mpr ⟨_,rfl,cL (o.trans K) (WY _) _,?_⟩⟩))⟩))⟩));rw[bY J,tk,Iy,hb,if_pos rfl,<- Y2,Xj (l₂:=[(e,u)])];rfl
 ·rintro y n ⟨x,rfl,o,I⟩;rw[Yk (by rw[a0O];exact WY _)]at I;exact H x n o I
theorem Ws(k:Nat)(R:(w,h)∈dO)(X:Wf w h F)(O:row.Perm (bE w h))(nd:(bE w h).Nodup)(nf:fl.Nodup)(mf:∀q∈bE w h,q∈fl){m:Hm}(ht:m[t]?=aX (.dT (aQ (λq=>LD (F q)) row)))(hh:m[hg]?=aX (.dT (aQ (λq=>.int (r q)) fl)))(N:e8 p=[s0,s1])(gl:m[l]?=aX (.lst (es.map PP)))(le:es.length<=64)(M:∀e∈es,e∈bN w h/\cS F e=p)(Q:jz)
  (H:∀c g,m<+:g->g[c]?=aX (.lst ((iQ (eV F r p) es es.length).map ND))->Q (.loc c,g)):W (f (k+5) "crossing_at" [.loc hg,.loc t,PP p,.loc l] m) Q:=by
 have sq:∀e∈es,∀q∈e8 e,q∈row:=λe E q G=>by
  obtain⟨r1,T,U,_⟩:=(f7 _ R).2.2.2.2.2.2.2 e (M e E).1;obtain⟨u,v,A,_,B⟩:=mF r1;rw[A]at G;simp only[Xr,ZO,or_false]at G;refine O.mem_iff.mpr ?_;rcases B with⟨rfl,rfl⟩|⟨rfl,rfl⟩<;>rcases G with rfl|rfl
  ·exact T
  ·exact U
  ·exact U
  ·exact T
 have hit:cU (aA 3) [aX (.loc hg),aX (.loc t),aX (PP p),aX (.loc l),aY,aY,aY,aY,aY] m=aX (cI (.loc l),(es.map PP).length+1,m):=by show(gG m (.loc l)).map _=_;simp only[gG,bK,gl];rfl
 refine cX (Th (k+4) _ _ _ _ m) (bG (Ik (R:=λe c g=>JC m.length (dP F e s0) (dP F e s1) c g) gl (by omega) hit ?_ (λe E g n l1=>a9 rfl (Wi k X.di (O.nodup_iff.mpr nd) (aE n ht) (sq e E) N l1 _ λc μ2 y j=>⟨y,c,rfl,j⟩)) _ λcs o n Z lc hR=>bG (w_mLst.mpr ⟨_,rfl,XJ _,fM (w_mForI.mpr (FP ⟨_,rfl,l,es.map PP,rfl,aE (n.trans (aP _ _)) gl,?_⟩))⟩)))
 ·rintro e c m1 m2 ⟨c0,c1,a,b,d,A,B,Y⟩ I;exact⟨c0,c1,a,b,d,I _ _ a A,I _ _ b B,I _ _ d Y⟩
 ·refine FQ (λi s g=>∃J K L,s=[aX (.loc hg),aX (.loc t),aX (PP p),aX (.loc l),J,aX (.loc m.length),aX (.loc o.length),K,L]/\o<+:g/\g[o.length]?=aX (.lst ((iQ (eV F r p) es i).map ND))) ⟨aY,aY,aY,rfl,aP _ _,bA _ _⟩ (λ_ _ _ ⟨_,_,_,_,q,_⟩=>aE (n.trans q) gl) ?_ ?_
  ·rintro i d s g hd ⟨J,K,L,rfl,y,z⟩;obtain⟨e,hi,rfl⟩:=kM hd;have hil:=(WR.mp hi).1;have lb:(iQ (eV F r p) es i).length<=5000:=by have h1:=wU (eV F r p) es i;have h2:=a1u (show i<=64 by omega) le;omega
   refine⟨_,rfl,w_mForI.mpr (w_iRng2.mpr (aW (bB rfl rfl (w_addI.mpr (aW (a9 rfl ((l7 (aE (n.trans y) gl)).mpr ⟨_,rfl,?_⟩)))))))⟩;refine⟨⟨by omega,by omega,by omega,by rw[WO];omega⟩,?_⟩;rw[WO,show((es.length:Int)-((i:Int)+1)).toNat=es.length-(i+1) by omega];refine Wr (k+2) R X nf mf (aE n hh) N (aE n gl) le M Z lc hR hi lb y z _ λx μ3 p3 g3=>⟨_,_,_,rfl,p3,?_⟩;rw[wR,Zu,hi];exact g3
  ·rintro s g ⟨J,K,L,rfl,y,z⟩;rw[WO]at z;exact⟨rfl,cY ⟨_,rfl,H _ _ (n.trans y) z⟩⟩
end
theorem IA(bt:Nat->Nat->Bool):∀n:Nat,a0f bt n<=n
 |0=>WY _|n+1=>by have:=IA bt n;unfold a0f;split<;>omega
noncomputable def wV(x:(Int×Int)×(Int×Int)):List Int×List Int:=(aO x.1,aO x.2)
theorem IB:∀L:List ((Int×Int)×(Int×Int)),rR (L.map ND)=aX (L.map wV)
 |[]=>rfl|x::L=>by rw[Xa,Xa];show(uY (ND x)).bind (λz=>(rR (L.map ND)).map λa=>z::a)=_;rw[IB L];show((c5 (PP x.1)).bind λk=>(c5 (PP x.2)).map λm=>(k,m)).bind _=_;rw[bM,bM];rfl
noncomputable def mH(L:List ((Int×Int)×(Int×Int))):D:=match L[a0f (oG (L.map wV)) (L.length-1)]? with|some x=>ND x|none=>.non
theorem Wt{a:Hm}{b:Nat}{L:List ((Int×Int)×(Int×Int))}{Q:jz}(g:a[b]?=aX (.lst (L.map ND))):W (mT [.loc b,.non] a) Q↔Q (mH L,a):=by
 have:mT [.loc b,.non] a=aX (mH L,a):=by
  simp only[mT,g,IB,Xi];cases L with
  |nil=>rfl|cons x L=>
   rw[if_neg (by simp),WO,W6];unfold mH;have h:=IA (oG ((x::L).map wV)) ((x::L).length-1);have:a0f (oG ((x::L).map wV)) ((x::L).length-1)<(x::L).length:=by rw[Xy]at h ⊢;omega
   rw[W3 this];rfl
 rw[this];exact W_some
theorem Wu(L:List ((Int×Int)×(Int×Int))):mH L=.non\/∃x,mH L=ND x:=by
 unfold mH;split
 ·exact .inr ⟨_,rfl⟩
 ·exact .inl rfl
noncomputable def j6(F:Int×Int->Ly)(r:Int×Int->Int)(G:Gr):List ((Int×Int)×(Int×Int)):=G.flatMap λg=>iQ (eV F r g.1) g.2 g.2.length
theorem Wv(F:Int×Int->Ly)(r:Int×Int->Int)(G:Gr)(g:(Int×Int)×jq):j6 F r (G++[g])=j6 F r G++iQ (eV F r g.1) g.2 g.2.length:=by unfold j6;rw[Zl,a0D,a1O,Yh]
theorem IC(F:Int×Int->Ly)(r:Int×Int->Int):∀G:Gr,(∀g∈G,g.2.length<=64)->(j6 F r G).length<=4096*G.length
 |[],_=>WY _|g::G,h=>by have c:=IC F r G λx b=>h x (Xc _ b);have d:=wU (eV F r g.1) g.2 g.2.length;have a:=h g (Xf ..);have e:=a1u a a;show(iQ (eV F r g.1) g.2 g.2.length++j6 F r G).length<=_;rw[W4,Xy];omega
theorem Ww{m:ME}{c:aG}{b:Hm}{Q:gE×Nat×Hm->Prop}(h:W (m c b) λp=>∃a kvs,p.1=.loc a/\p.2[a]?=aX (.dT kvs)/\Q (cI (.tup (iI kvs)),kvs.length+1,p.2.set a (.dF kvs))):W (rQ m c b) Q:=by unfold rQ;rw[W_bind];refine bP h λp ⟨a,kvs,e,g,q⟩=>?_;rw[e];dsimp only;rw[g];exact W_some.mpr q
theorem ID(k:Nat){w h:Int}(R:(w,h)∈dO){F:Int×Int->Ly}(J:Wf w h F)(nd:(bE w h).Nodup){S:List ((Int×Int)×Str)}{K:Hm}{a b:Nat}{row:jq}{Z:Zr}(d:Dr (bE w h) K a b F row Z)(Q:jz)
  (H:∀j,K<+:j->Q (mH (j6 F (cF (GZ Z)) (cR (cS F) (bN w h))),j)):W (f (k+6) "crossing" [SH w h S,.loc a,.loc b] K) Q:=by
 obtain⟨_,_,l1,_,_,u,upR,fr⟩:=f7 _ R;replace l1:(bE w h).length<=48:=l1;replace u:(bN w h).length<=64:=u;have pf:=d.pl.flat nd;have B:Pil (bN w h) (cS F) (cR (cS F) (bN w h)):=v8;have sm:=sH (cS F) (bN w h);refine cX (Ti (k+5) _ _ _ K) (bG (a9 rfl (Hv (k+4) nd (by omega) d.hi d.hh d.pl _ λc l X g1=>bG (w_mLst.mpr ⟨_,rfl,XJ _,fM (w_mForI.mpr (Ww (a9 rfl (Wg (k+2) a R J d.hr nd (aE (X.trans (aP _ _)) d.hw) _ λm Y μ2 I E=>⟨m,_,rfl,I.dic,?_⟩))))⟩))));have T:l.length<(l++[C.lst []]).length:=by simp
 have x:∀y∈Y,y.2.2≠m/\y.2.2≠l.length:=λy x=>⟨I.ne x,X1 (Xq T (I.at_ y x).1)⟩;have mm:m≠l.length:=X1 (Xq T I.lo);have p2:l<+:μ2.set m (.dF (aN Y)):=cL ((aP _ _).trans I.pre) (ZZ (Xq T I.lo)) _;rw[show(aN Y).length=(iI (aN Y)).length from(WO ..).symm];refine Sv (x:=.tup (iI (aN Y))) (xs:=iI (aN Y)) (λ_=>rfl) (λi r j=>∃x5 x6,r=[aX (SH w h S),aX (.loc a),aX (.loc b),aX (.loc c),aX (.loc l.length),x5,x6]/\l<+:j/\(∀y∈Y,j[y.2.2]?=aX (.lst (y.2.1.map PP)))/\j[l.length]?=aX (.lst ((j6 F (cF (GZ Z)) ((GZ Y).take i)).map ND)))
  ⟨aY,aY,rfl,p2,λy n=>by rw[WT (XI (x y n).1)];exact(I.at_ y n).2,by rw[WT mm];exact aE I.pre (bA _ _)⟩ ?_ ?_
 ·rintro i dd r j hd ⟨x5,x6,rfl,A,L,s⟩;obtain⟨y,p,rfl⟩:∃y,Y[i]?=aX y/\dd=.tup [PP y.1,.loc y.2.2]:=by unfold iI aN at hd;rw[W7,W6]at hd;obtain⟨y,o,v⟩:=WS.mp hd;exact⟨y,o,v.symm⟩
  have z:=Xn p;have M:(y.1,y.2.1)∈cR (cS F) (bN w h):=by rw[<- E];exact W0.mpr ⟨y,z,rfl⟩
  have he:∀e∈y.2.1,e∈bN w h/\cS F e=y.1:=λe O=>B.one M O;obtain⟨e0,h0⟩:=a3V _ (B.ne _ M);have rp:cB y.1.1 y.1.2=true:=by obtain⟨o,v⟩:=he e0 h0;rw[<- v];exact wI (J.di _) (J.lt _) (fr e0 o).1
  obtain⟨s0,s1,es,_,_⟩:=mF rp;have U:=sm.2 _ M;have lY:Y.length<=64:=by have:=congrArg X0 E;rw[eI]at this;have:=sm.1;omega
  have hil:=(WR.mp p).1;have lt:(j6 F (cF (GZ Z)) ((GZ Y).take i)).length<=300000:=by
   have:=IC F (cF (GZ Z)) ((GZ Y).take i) λg N=>by have o:=a4E N;rw[E]at o;exact Xz (sm.2 g o) u
   rw[Ys,eI]at this;omega
  have lp:(iQ (eV F (cF (GZ Z)) y.1) y.2.1 y.2.1.length).length<=5000:=by have o:=wU (eV F (cF (GZ Z)) y.1) y.2.1 y.2.1.length;have v:=a1u (Xz U u) (Xz U u);dsimp only at v;omega
  refine⟨_,rfl,w_mDrop.mpr (hU ⟨_,rfl,hV s,aW (a9 rfl (Ws k R J d.hr nd (pf.nodup_iff.mpr nd) (λq O=>pf.mem_iff.mpr O) (aE (X.trans A) d.hw) (aE A g1) es (L y z) (Xz U u) he _ λc' μ4 G g4=>⟨_,rfl,(FL (aE G s) g4 (by rw[WO,WO,Xh];omega)).mpr ⟨_,_,rfl,cL (A.trans G) (WY _) _,λy' n=>?_,?_⟩⟩))⟩)⟩
  ·rw[WT (XI (x y' n).2)];exact aE G (L y' n)
  ·rw[bY (aE G s),qI p,Wv,Xj]
 ·rintro r j ⟨x5,x6,rfl,A,L,s⟩;rw[iI,WO,fZ,Yk (by rw[eI];exact WY _),E]at s;exact⟨rfl,cY (a9 rfl ((Wt s).mpr (H _ (X.trans A))))⟩
section
variable{T:Ly}(hT:Dih T)
theorem Wx(hT:Dih T)(G:Gr)(p q:Int×Int):dM (G.map λx=>(aF T x.1,x.2)) (aF T p) q=(dM G p q).map λx=>(aF T x.1,x.2):=by
 have inj:∀{u v:Int×Int},aF T u=aF T v↔u=v:=λ{u v}=>⟨λe=>Zt λn=>wO hT n e,λe=>by rw[e]⟩;unfold dM;have e:((G.map λx=>(aF T x.1,x.2)).map (·.1)).contains (aF T p)=(G.map (·.1)).contains p:=by
  rw[YV,XA,XA,W7];constructor
  ·intro h;obtain⟨x,a,e⟩:=W0.mp h;exact W0.mpr ⟨x,a,inj.mp e⟩
  ·intro h;obtain⟨x,a,e⟩:=W0.mp h;exact W0.mpr ⟨x,a,inj.mpr e⟩
 rw[e];split
 ·rw[W7,W7];refine Xs λx _=>?_;show(if aF T x.1=aF T p then(aF T x.1,x.2++[q])else(aF T x.1,x.2))=_;by_cases h:x.1=p
  ·rw[if_pos (inj.mpr h)];show _=(aF T (if x.1=p then(x.1,x.2++[q])else x).1,(if x.1=p then(x.1,x.2++[q])else x).2);rw[if_pos h]
  ·rw[if_neg (λz=>h (inj.mp z))];show _=(aF T (if x.1=p then(x.1,x.2++[q])else x).1,(if x.1=p then(x.1,x.2++[q])else x).2);rw[if_neg h]
 ·rw[Xj];rfl
theorem Wy(hT:Dih T)(g:Int×Int->Int×Int)(es:jq):cR (λe=>aF T (g e)) es=(cR g es).map λx=>(aF T x.1,x.2):=by
 have a:∀(es:jq)(G:Gr),es.foldl (λG q=>dM G (aF T (g q)) q) (G.map λx=>(aF T x.1,x.2))=(es.foldl (λG q=>dM G (g q) q) G).map λx=>(aF T x.1,x.2):=by
  intro es;induction es with
  |nil=>intro G;rfl|cons e es b=>intro G;rw[a0Y,a0Y,Wx hT,b]
 exact a es []
end
section
variable{w h:Int}{F:Int×Int->Ly}{T:Ly}{n:Nat}{G:Gr}{t:Bool}
theorem nH(a:Dih T)(e s:Int×Int):dP (λq=>bH (F q) T) e (aF T s)=dP F e s:=by unfold dP;refine a1C λq _=>decide_eq_decide.mpr ?_;rw[jH];exact⟨λz=>Zt λk=>wO a k z,λz=>by rw[z]⟩
theorem wW(o:(w,h)∈dO)(p:Wf w h F){e:Int×Int}(c:e∈bN w h){s q:Int×Int}(m:q∈dP F e s):q∈bE w h/\aF (F q) q=s/\aF (F q) e=cS F e:=by
 obtain⟨b,a⟩:=XD.mp m;obtain⟨i,d,g,_⟩:=(f7 _ o).2.2.2.2.2.2.2 e c;obtain⟨u,v,k,_,l⟩:=mF i;have j:=By i (p.ed e c);rw[k]at b;simp only[Xr,ZO,or_false]at b;rcases l with⟨rfl,rfl⟩|⟨rfl,rfl⟩<;>rcases b with rfl|rfl
 ·exact⟨d,of_decide_eq_true a,rfl⟩
 ·exact⟨g,of_decide_eq_true a,j⟩
 ·exact⟨g,of_decide_eq_true a,j⟩
 ·exact⟨d,of_decide_eq_true a,rfl⟩
theorem Wz(l:(w,h)∈dO)(g:Wf w h F)(d:Tw n T)(nd:(bE w h).Nodup)(P:Pil (bE w h) (λq=>aF (F q) q) G){p e o:Int×Int}(i:e∈bN w h/\cS F e=p)(c:o∈bN w h/\cS F o=p)(ne:e≠o) :
  eV (λq=>bH (F q) T) (cF (fP T t G)) (aF T p) e o=eV F (cF G) p e o:=by
 have I:cB p.1 p.2=true:=by rw[<- i.2];exact wI (g.di _) (g.lt _) ((f7 _ l).2.2.2.2.2.2.2 e i.1).1
 obtain⟨r,u,v,_,_⟩:=mF I;obtain⟨a,_,_⟩:=wQ l g i.1 (s0:=r) (s1:=u) (by rw[i.2];exact v);obtain⟨b,_,_⟩:=wQ l g c.1 (s0:=r) (s1:=u) (by rw[c.2];exact v);have m:∀{x:Int×Int},x∈bN w h->∀s,∀q∈dP F x s,q∈bE w h/\aF (F q) q=s:=λA s q H=>⟨(wW l g A H).1,(wW l g A H).2.1⟩;have j:=Wq (Ig d.di t nd P) a b ⟨m i.1 r,m i.1 u⟩ ⟨m c.1 r,m c.1 u⟩ λx y E=>by obtain⟨s,A,L⟩:∃s,x∈dP F e s/\y∈dP F o s:=E.elim (λz=>⟨r,z⟩) λz=>⟨u,z⟩;obtain⟨M,N,J⟩:=wW l g i.1 A;obtain⟨O,Q,K⟩:=wW l g c.1 L;refine Bq nd P M O (λz=>ne ?_) (N.trans Q.symm);rw[<- z,c.2]at K;rw[i.2]at J;exact Zt λk=>wO (g.di x) k (J.trans K.symm)
 unfold eV;rw[v];dsimp only;rcases Wn d.di d.lt I v with B|B
 ·rw[B];dsimp only;rw[nH d.di,nH d.di,nH d.di,nH d.di];exact j
 ·rw[B];dsimp only;rw[nH d.di,nH d.di,nH d.di,nH d.di,Wo _ a b];exact j
theorem WA{c c':Int×Int->Int×Int->Bool}{e:Int×Int}{L:jq}(h:∀x∈L,c e x=c' e x):iP c e L=iP c' e L:=by unfold iP;rw[a1C h]
theorem IE{c c':Int×Int->Int×Int->Bool}{es:jq}(nd:es.Nodup)(h:∀e∈es,∀x∈es,e≠x->c e x=c' e x):∀n,n<=es.length->iQ c es n=iQ c' es n
 |0,_=>rfl|n+1,hn=>by rw[wR,wR,IE nd h n (by omega)];congr 1;have hi:es[n]?=aX es[n]:=W3 hn;rw[Zu,hi];refine WA λx a=>h _ (ZP hn) x (List.mem_of_mem_drop a) λe=>?_;have hd:es.drop n=es[n]::es.drop (n+1):=a1y hn;have:=nd.sublist (List.drop_sublist n es);rw[hd,XN]at this;have b:es[n]=x:=e;exact this.1 (b▸a)
theorem WB(d:(w,h)∈dO)(r:Wf w h F)(i:Tw n T)(nd:(bE w h).Nodup)(P:Pil (bE w h) (λq=>aF (F q) q) G) :
  j6 (λq=>bH (F q) T) (cF (fP T t G)) (cR (cS λq=>bH (F q) T) (bN w h))=j6 F (cF G) (cR (cS F) (bN w h)):=by
 obtain⟨_,_,_,_,_,_,up,_⟩:=f7 _ d;have p:(bN w h).Nodup:=qL (nB up);have e:(cS λq=>bH (F q) T)=λe=>aF T (cS F e):=funext λe=>jH _ _ _;have a:Pil (bN w h) (cS F) (cR (cS F) (bN w h)):=v8;rw[e,Wy i.di];unfold j6;rw[List.flatMap_map];have j:∀{l:Gr}{f g:(Int×Int)×jq->List ((Int×Int)×(Int×Int))},(∀x∈l,f x=g x)->l.flatMap f=l.flatMap g:=λ{l f g} h=>by
  induction l with
  |nil=>rfl|cons x l o=>rw[a0D,a0D,h x (Xf ..),o λy m=>h y (Xc _ m)]
 refine j λx c=>IE (a.nd p c) (λe k s b ne=>?_) _ (WY _);exact Wz d r i nd P (a.one c k) (a.one c b) ne
end
noncomputable def kW(s:Str):Str:=if s="v" then "h" else "v"
theorem WC{qs:jq}{F:Int×Int->Ly}(h:∀q,Dih (F q)){T:Ly}{n:Nat}(a:Tw n T){G:Gr}{t:Bool}(nd:qs.Nodup)(P:Pil qs (λq=>aF (F q) q) G){e:Int×Int}(c:CrF qs F e) :
  iB (λq=>bH (F q) T) (cF (fP T t G)) e=if(decide (n%2=1)==t)=b4 then iB F (cF G) e else kW (iB F (cF G) e):=by
 have pos:=EdF.pos c.r c.m;have i:=Ig a.di t nd P (sB e) c.b (sA e) c.a pos.symm;have ne:=Bq nd P c.a c.b (sR c.r) pos;have b:decide (dC (bH (F (sA e)) T)<0)=(decide (dC (F (sA e))<0) != decide (n%2=1)):=by
  rw[sC,a.de];rcases wG (h (sA e))with⟨d,_,_⟩|⟨d,_,_⟩<;>rw[d]<;>by_cases o:n%2=1
  ·rw[if_pos o,decide_eq_true o];rfl
  ·rw[if_neg o,decide_eq_false o];rfl
  ·rw[if_pos o,decide_eq_true o];rfl
  ·rw[if_neg o,decide_eq_false o];rfl
 unfold iB;dsimp only;rw[i,b];have g:decide (cF G (sA e)<cF G (sB e))=!decide (cF G (sB e)<cF G (sA e)):=by
  by_cases k:cF G (sA e)<cF G (sB e)
  ·rw[decide_eq_true k,decide_eq_false (by omega)];rfl
  ·rw[decide_eq_false k,decide_eq_true (by omega)];rfl
 rw[g];generalize decide (cF G (sB e)<cF G (sA e))=u;generalize decide (dC (F (sA e))<0)=v;generalize decide (n%2=1)=o;cases t<;>cases u<;>cases v<;>cases o<;>rfl
theorem WD{w h:Int}{F:Int×Int->Ly}(c:Wf w h F){n:Nat}{T:Ly}(b:Tw n T):Wf w h λq=>bH (F q) T:=by
 refine⟨λq=>sF (c.di q) b.di,λq=>?_,λe g=>?_⟩
 ·have a:=c.lt q;have d:=b.lt;unfold bH;obtain⟨u,v,k|k|k|k|k|k|k|k⟩:=sE b.di<;>rw[k]at d ⊢<;>dsimp only at d ⊢<;>omega
 ·rcases c.ed e g with a|a
  ·exact .inl (by rw[a])
  ·refine .inr ?_;rw[<- sD,<- a]
theorem IH{qs:jq}{g:Int×Int->Int×Int}(a:(qs.map aO).Pairwise λx y=>HT.lexLt y x=b3){G:Gr}(P:Pil qs g G):sP (cR g qs) G=true:=by rw[UC a P];unfold Bj;rw[WZ];refine⟨decide_eq_true (.refl _),YB.mpr λx b=>?_⟩;rw[eT P.kd b,beq_iff_eq]
theorem w_neM{L:List ((Int×Int)×(Int×Int))}{g:Hm}{Q:jz}:W (aR b4 (mH L) (mH L) g) Q↔Q (.bl b3,g):=by
 rcases Wu L with e|⟨x,e⟩
 ·rw[e];exact W_some
 ·obtain⟨⟨a,b⟩,c,d⟩:=x;rw[e];have h:cG 8 g (ND ((a,b),(c,d))) (ND ((a,b),(c,d)))=aX ((a==a&&(b==b&&b4))&&((c==c&&(d==d&&b4))&&b4)):=by kernel_rfl
  have:aR b4 (ND ((a,b),(c,d))) (ND ((a,b),(c,d))) g=aX (.bl b3,g):=by unfold aR;rw[h];simp
  rw[this];exact W_some
theorem II{c:Hm}{a b:Nat}{T:List ((Int×Int)×Str)}{Q:jz}(g:c[a]?=aX (.lst (T.map MD)))(i:c[b]?=aX (.lst (T.map MD))):W (aR b3 (.loc a) (.loc b) c) Q↔Q (.bl b4,c):=by
 have d:∀{x:Nat}{xs:List D},c[x]?=aX (.lst xs)->d8 c (.loc x)=aX (.lst xs):=λh=>by simp only[d8,h]
 have e:cG 8 c (.loc a) (.loc b)=aX true:=by show(d8 c (.loc a)).bind (λu=>(d8 c (.loc b)).bind λv=>i8 (cG 7 c) u v)=_;rw[d g,d i];exact HJ c T
 unfold aR;rw[e];exact W_some
theorem w_eqS{s u:Str}{a:Hm}{Q:jz}:W (aR b3 (.str s) (.str u) a) Q↔Q (.bl (s==u),a):=W_some
theorem WE(k:Nat){g:Hm}{a:Nat}{T:List ((Int×Int)×Str)}(q:T.length<=100)(h:g[a]?=aX (.lst (T.map MD)))(Q:jz)(H:∀c b,g<+:b->b[c]?=aX (.lst ((T.map λp=>(p.1,kW p.2)).map MD))->Q (.loc c,b)):W (f (k+1) "_law_other" [.loc a] g) Q:=by
 refine cX (TU k _ g) (cY (FR (xs:=T.map MD) (x:=λd=>[aX (qJ d),aX (wJ d)]) (p:=λ_=>b4) (v:=λd=>match wJ d with|.str s=>.tup [qJ d,.str (kW s)]|_=>.non) (w_iSeq.mpr ⟨_,rfl,(fH h).mpr ⟨oK h,rfl,by rw[WO,Xh];omega,λd b hd=>?_,λd b hd j=>w_mTrue.mpr ⟨rfl,Xx _⟩,λd b hd _ j=>?_,λn l i=>?_⟩⟩)))
 ·obtain⟨m,_,rfl⟩:=W0.mp hd;rfl
 ·obtain⟨⟨m,s⟩,o,rfl⟩:=W0.mp hd;refine w_mTup.mpr (aW ⟨_,rfl,aW (w_mIfE.mpr (cZ (bB rfl rfl (w_eqS.mpr ⟨_,rfl,?_⟩))))⟩);by_cases e:s="v"
  ·refine dY (beq_iff_eq.mpr e) ⟨_,rfl,_,rfl,eB,?_,Xx _⟩;show _=D.tup [PP m,.str (kW s)];unfold kW;rw[if_pos e];rfl
  ·refine dN (beq_eq_false_iff_ne.mpr e) ⟨_,rfl,_,rfl,eB,?_,Xx _⟩;show _=D.tup [PP m,.str (kW s)];unfold kW;rw[if_neg e];rfl
 ·refine H _ _ l ?_;rw[i,ZN.mpr λ_ _=>rfl,W7,W7];rfl
theorem IJ{w h:Int}(d:(w,h)∈dO){F:Int×Int->Ly}(k:Wf w h F){e:Int×Int}(c:e∈iA w h F):CrF (bE w h) F e:=by obtain⟨a,b⟩:=XD.mp c;obtain⟨j,g,i,_⟩:=(f7 _ d).2.2.2.2.2.2.2 e a;refine⟨j,g,i,(k.ed e a).resolve_left λz=>?_⟩;rw[z]at b;simp at b
theorem WG(k:Nat){i:Hm}{a b m:Nat}{d:List Int}{t:Bool}{T U:List ((Int×Int)×Str)}(u:T.length<=100)(s:i[m]?=aX (.lst (d.map D.int)))(n:i[a]?=aX (.lst (T.map MD)))(o:i[b]?=aX (.lst (U.map MD)))(e:U=T.map λp=>(p.1,if(decide (d.length%2=1)==t)=b4 then p.2 else kW p.2)){v w x y z A B E j l:Option D}(Q:Fl×aG×Hm->Prop)(H:∀G h,Q (.rt (.bl b4),G,h)) :
  W (Ge (k+1) [v,w,x,y,z,A,B,E,aX (.loc m),aX (.bl t),j,l,aX (.loc a),aX (.loc b)] i) Q:=by
 refine w_mSeq.mpr (w_mIfS.mpr (cZ (aL (aL (aL (a9 rfl ((l7 s).mpr ⟨_,rfl,w_mod2.mpr ⟨_,rfl,w_eqI.mpr ⟨_,rfl,w_eqBl.mpr ⟨_,rfl,?_⟩⟩⟩⟩)))))));have r:(((d.map D.int).length:Int)%2==1)=decide (d.length%2=1):=by rw[WO,YV,beq_iff_eq,decide_eq_true_iff];omega
 rw[r];cases q:decide (d.length%2=1)==t with
 |true=>rw[q]at e;refine dY rfl (w_mRet.mpr (bB rfl rfl ((II (T:=T) (by rw[o,e];simp) n).mpr (H _ _))))|false=>rw[q]at e;refine dN rfl (w_mNext.mpr (w_mRet.mpr (aL ⟨_,rfl,a9 rfl (WE k u n _ λc h p g=>(II (T:=T.map λp=>(p.1,kW p.2)) (by rw[aE p o,e];simp) g).mpr (H _ _))⟩)))
theorem WH(k:Nat){w h:Int}(n:(w,h)∈dO){F:Int×Int->Ly}(g:Wf w h F)(cl:(iA w h F).length<=48){A:Hm}{a b B N m:Nat}{row:jq}{Z Y:Zr}{K:List Int}{t:Bool}(gm:A[m]?=aX (.lst (K.map D.int)))(d:Dr (bE w h) A a b F row Z){T:Ly}(L:Tw K.length T)(d':Dr (bE w h) A B N (λq=>bH (F q) T) row Y)(O:GZ Y=fP T t (GZ Z)){x0 x1 x2 x3 x6:Option D}(Q:Fl×aG×Hm->Prop)(H:∀ρ M,Q (.rt (.bl b4),ρ,M)) :
  W (Gf (k+6) [x0,x1,x2,x3,aX (.loc a),aX (.loc b),x6,aX (SH w h ((iA w h F).map λe=>(e,"o"))),aX (.loc m),aX (.bl t),aX (.loc B),aX (.loc N),aY,aY] A) Q:=by
 obtain⟨_,_,R,u,up,l2,_,fr⟩:=f7 _ n;replace R:(bE w h).length<=48:=R;replace u:1<=(bE w h).length:=u;have up:=nB up;have nd:(bE w h).Nodup:=qL up;have v:=up.imp λ{x y} h1=>v7 h1;have l:=WD g L;have z1:=d.pl.lenZ;have z2:=d'.pl.lenZ;refine w_mSeq.mpr (w_mIfS.mpr (T4 (vP (jZ (b:=b4) (a9 rfl (Hj (k+3) a F g.di row _ d.hr v ⟨u,by omega⟩ nd d.hw d.hi d.hh (by omega) (λz I=>by have:=(z1.2 z I).2;omega) _ λμ1 U=>⟨by rw[IH v d.pl],rfl,?_⟩))))));have o:=d'.more U;refine vP (jZ (b:=b4) (a9 rfl (Hj (k+3) B _ l.di row _ o.hr v ⟨u,by omega⟩ nd o.hw o.hi o.hh (by omega) (λz I=>by have:=(z2.2 z I).2;omega) _ λμ2 p2=>⟨by rw[IH v o.pl],dN rfl (w_mNext.mpr ?_)⟩)));have j:=U.trans p2;refine w_mSeq.mpr (w_mIfS.mpr (cZ (aL (a9 rfl (ID k n l nd (d'.more j) _ λμ3 X=>a9 rfl (ID k n g nd (d.more (j.trans X)) _ λμ4 p4=>?_))))));rw[O,WB n g L nd d.pl];refine w_neM.mpr ⟨_,rfl,dN rfl (w_mNext.mpr ?_)⟩;have i:=j.trans (X.trans p4);have c1:∀p∈(iA w h F).map λe=>(e,("o":Str)),CrF (bE w h) F p.1:=λp G=>by obtain⟨e,E,rfl⟩:=W0.mp G;exact IJ n g E
 have c2:∀p∈(iA w h F).map λe=>(e,("o":Str)),CrF (bE w h) (λq=>bH (F q) T) p.1:=λp G=>by obtain⟨r1,r2,r3,r4⟩:=c1 p G;refine⟨r1,r2,r3,?_⟩;show bH (F (sA p.1)) T=bH (fY p.1) (bH (F (sB p.1)) T);rw[<- sD,<- r4]
 have J:((iA w h F).map λe=>(e,("o":Str))).length<=100:=by rw[WO];omega
 have r:=d.more i;refine bG (a9 rfl (HC (k+1) nd (by omega) g.di r.hr J c1 r.hw r.hi r.hh r.pl _ λc μ5 p5 _ g5=>?_));have s:=d'.more (i.trans p5);refine bG (a9 rfl (HC (k+1) nd (by omega) l.di s.hr J c2 s.hw s.hi s.hh s.pl _ λc' μ6 p6 _ g6=>?_));refine WG (k+5) (by rw[WO];exact J) (aE (i.trans (p5.trans p6)) gm) (aE p6 g5) g6 ?_ _ H;rw[W7,W7,W7];refine Xs λe E=>?_;show(e,iB (λq=>bH (F q) T) (cF (GZ Y)) e)=(e,if(decide (K.length%2=1)==t)=b4 then iB F (cF (GZ Z)) e else kW (iB F (cF (GZ Z)) e));rw[O,WC g.di L nd d.pl (IJ n g E)]
theorem WI{v:Int}{a:Hm}{d:aG}(h1:d[1]?=aX (aX (.int v))){Q:jz}(H:∀t b,0<=t/\t<=50->a<+:b->Q (.int t,b)):W (aC aJ (cD (aB (aC a7 (aC dG (aA 1) (mC (.int 135))) (mC (.int 4))) (aB (aC a7 (aC dG (aA 1) (mC (.int 135))) (mC (.int 30))) aD))) (aI mN (aB (aC (aR b3) (aC a7 (aC dG (aA 1) (mC (.int 9))) (mC (.int 3))) (mC (.int 1))) aD)) d a) Q:=by
 have c:∀a:Hm,aA 1 d a=aX (.int v,a):=λa=>by unfold aA;rw[h1]
 refine aL (w_mLst.mpr (aW (aL (bB (c _) rfl ((hG (by decide) (by decide)).mpr ⟨_,rfl,(eH (by decide)).mpr (aW (aL (bB (c _) rfl ((hG (by decide) (by decide)).mpr ⟨_,rfl,(eH (by decide)).mpr ⟨_,rfl,eB,?_⟩⟩))))⟩)))));refine c6 (aW (aL (aL (bB (c _) rfl ((hG (by decide) (by decide)).mpr ⟨_,rfl,(eH (by decide)).mpr ⟨_,rfl,w_eqI.mpr ⟨_,rfl,w_intB.mpr ?_⟩⟩⟩)))));cases v/9%3==1 with
 |true=>exact(cW (bA _ _) (show atI [D.int (v/135%4),.int (v/135%30)] 1=aX (.int (v/135%30))from rfl)).mpr (H _ _ (by omega) (aP _ _))|false=>exact(cW (bA _ _) (show atI [D.int (v/135%4),.int (v/135%30)] 0=aX (.int (v/135%4))from rfl)).mpr (H _ _ (by omega) (aP _ _))
theorem WJ(k:Nat)(ns:List Int)(J:Hm):W (f (k+7) "law" [.rol (ns.map D.int)] J) λr=>r.1=.bl true:=by
 refine cX (TV (k+6) _ J) (bG (a9 rfl (oP (k+4) ns 0 (by decide) _ _ λμ1 p1=>?_)));refine w_mSeq.mpr (w_mAsg.mpr (a9 rfl (VR (k+1) ns _ _ _ λw h a b F row Z μ2 n p2 d I N=>⟨_,rfl,bG (WI rfl λt μ3 ht p3=>?_)⟩)));obtain⟨_,_,o,l0,up,l2,v,fr⟩:=f7 _ n;replace o:(bE w h).length<=48:=o;have nd:(bE w h).Nodup:=qL (nB up);have i:=d.more p3;refine bG (a9 rfl (VY (k+3) ns o i.hi i.hh i.pl t ht _ λM Y x p4 K U L=>?_));have l:Dr (bE w h) x a M F row Y:=⟨aE p4 i.hw,i.hr,K,U,L⟩;refine bG (c6 (aW ⟨_,rfl,aW ⟨_,rfl,aW ?_⟩⟩));refine jY (xs:=(iA w h F).map PP) (p:=λ_=>b4) (v:=λd=>MD (dW d,"o")) (w_iSeq.mpr (a9 rfl (U0 (k+4) n (l.hr.nodup_iff.mpr nd) (λq X=>l.hr.mem_iff.mpr X) l.hw _ λlc μ5 p5 B=>(fH B).mpr ⟨oK B,rfl,by rw[WO,Xh];omega,λd c hd g=>w_mTrue.mpr ⟨rfl,Xx _⟩,λd c hd _ g=>?_,λμ6 p6 E=>⟨_,rfl,?_⟩⟩)))
 ·obtain⟨e,s,rfl⟩:=W0.mp hd;exact w_mTup.mpr ⟨_,rfl,eB,rfl,Xx _⟩
 rw[ZN.mpr λ_ _=>rfl,W7,show(a6d ((λd=>MD (dW d,("o":Str)))∘PP) (iA w h F))=((iA w h F).map λe=>(e,("o":Str))).map MD by rw[W7];rfl]at E;have k1:((iA w h F).map λe=>(e,("o":Str))).map (·.1)=iA w h F:=by rw[W7];exact a2i _
 refine Vj (k+2) n (by rw[WO];omega) (by rw[k1];exact(nB v).sublist ((a0l (l:=bN w h)).map aO)) (λp g=>?_) (λp g=>?_) E _ λμ7 p7=>?_
 ·obtain⟨e,s,rfl⟩:=W0.mp g;exact(XD.mp s).1
 ·obtain⟨e,s,rfl⟩:=W0.mp g;exact .inl rfl
 have O:=l.more (p5.trans (p6.trans p7));refine bG (jY (xs:=fL 0 (j5 ns 8%4).toNat) (p:=λ_=>b4) (v:=λd=>.int (j5 ns (61+j7 d))) ((vJ (j:=0)).mpr (aW (aL (a9 rfl (oP (k+4) ns 8 (by decide) _ _ λy p8=>⟨_,rfl,w_mod4.mpr ⟨_,rfl,by omega,AU,by simp[fL],by rw[Xh];simp[fL];omega,λd c hd g=>w_mTrue.mpr ⟨rfl,Xx _⟩,λd c hd _ g=>?_,λz p9 m=>?_⟩⟩))))))
 ·obtain⟨j,hj,rfl⟩:=vM hd;exact a9 rfl (oP (k+4) ns _ (by omega) _ _ λc p=>⟨rfl,p⟩)
 obtain⟨G,m⟩:∃G:List Int,z[y.length]?=aX (.lst (G.map D.int)):=⟨(fL 0 (j5 ns 8%4).toNat).map λd=>j5 ns (61+j7 d),by rw[m,ZN.mpr λ_ _=>rfl,W7];rfl⟩;refine bG (aL (aL (a9 rfl (oP (k+4) ns 9 (by decide) _ _ λμA u=>⟨_,rfl,w_mod2.mpr ⟨_,rfl,w_eqI.mpr ?_⟩⟩))));have A:=O.more (p8.trans (p9.trans u));refine w_mSeq.mpr (w_mAsg.mpr (a9 rfl (V6 (k+4) nd o I.di A (aE u m) _ _ λT a' b' Y' μB H tw Q R=>⟨_,rfl,?_⟩)));exact WH k n I N (aE (u.trans H) m) (A.more H) tw Q R _ λ_ _=>rfl
theorem WK:∀ns:List Int,ns.length<=63->∃a,jW S ds 7 "law" [.rol (ns.map D.int)] []=aX (.bl b4,a):=λns _=>by obtain⟨⟨d,a⟩,b,c⟩:=WJ 0 ns [];dsimp only at c;subst c;refine⟨a,?_⟩;unfold f at b;exact b
theorem dz(Q:YS):vF (Kx Q) ds:=by unfold vF;kernel_rfl
theorem cz(Q:YS):Fz (Kx Q) S.con=true:=by kernel_rfl
theorem nz(Q:YS):S.no.map (a1L (Kx Q) YF)=S.no.map λ_=>aX none:=by kernel_rfl
theorem WL{P:Xw}{w:XF}{Q:YS}
  {h:Ye}{a:Str → Option Value}(X:(Kx Q).In h)(G:h.Ns YF a):TxtOk P w (Kx Q) a S ds ∧ ∃f b,Fun (Kx Q) "law" "law" (aK 63) f b ∧ a "law"=aX (.ref f) ∧ ∀(s:WX)(u:Value),a3D s b ⟨[u],[]⟩ [("_law_script",u)]:=by
 refine⟨⟨Sa (by decide +kernel),Sb λp c=>(Fw X G (dz Q) p c).1,Se (Sk X G (cz Q)),λx d e=>?_,Sf (Sj X G (nz Q))⟩,Si X G (dz Q) (by kernel_rfl) (by kernel_rfl)⟩
 ·cases e
end Lw
open PySem PySem.W PyProof.Rows
set_option maxRecDepth 100000 in
set_option maxHeartbeats 0 in
theorem PySem.Challenge.cw_creasecourt_k64_whole_turned_about_holds : PySem.Challenge.rw_creasecourt_k64_whole_turned_about.Holds := by
 w_on
 refine holds_law (by decide +kernel) fun a=>?_
 refine holds_open (q:=Lw.Vw) (loose:=[]) (Xt:=fun s=>xlAt Lw.Vw [] s&&recOk (a6B (a5p (Yg WU))) s) (XP:=XL Lw.Vw []) (Yf:=Hook.obs (a7F Lw.Kx Lw.As Lw.qV)) (Ya:=Hook.val (a7F Lw.Kx Lw.As Lw.qV)) (YP:=Hook.says (a7F Lw.Kx Lw.As Lw.qV)) (N:=5644) Lw.run (Hook.of _) (Hook.keeps _) (fun s e=>xl_of s (a0c.mp e).1) XL.keeps (by rfl) (by rfl) (by rfl) (fun s e=>recFacts_of (a0c.mp e).2) (by rfl) (by first|assumption|decide +kernel) (by decide +kernel) ⟨rfl,rfl,rfl,rfl,rfl,by decide +kernel⟩ ?hw ?hc
 case hw=>w_witness2
 k_fill
 refine L3.walkM (l:=WU) (S:=Lw.S) (ds:=Lw.ds) (k:=7) (st:=Lw.aK 63) (x:="_law_script") rfl rfl ⟨rfl,by decide,by decide⟩ (fun w h Y=>PySem.W.kIn_of Y) (by kernel_rfl) (by kernel_rfl) ?F (fun c h _=>Lw.WK c h)
 case F=>
  intro w d h b G
  refine' Lw.WL (P:=Yb) (w:=w)  b G
