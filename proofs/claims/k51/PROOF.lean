import PyProof.Rows.All
import Wide.All
import OpenK.AllK
import Wide.FinOn
import PyProof.EqAt
import PyProof.EqKinds
import PyProof.TupleCall
import KE.KDictSum
import PyProof.SliceStr2
import PyProof.NeKinds
import PyProof.StrWalks
import PyProof.ConsumeWalk
import KE.KSortTup
import PyProof.StationsW
import OpenK.KOwn
import PyProof.RulesAs
import PyProof.NsDelKeeps
import PyProof.InstStoreFacts
import OpenK.KCls
import PyProof.ExcArgs
import PyProof.ExcAttrAll.ValueError
import KE.KIsAll
import PyProof.Rows.SetFrom
import PyProof.Rows.SortStr
import PyProof.SumAny
import PyProof.EnumMake
import KE.KRevIter
import PyProof.MeetsStr
import PyProof.ListRange
import PyProof.Rows.Range3
import KE.KDictList
import PyProof.PureStr
import PyProof.WalkInts
import PyProof.ConsumeS
import PyProof.ZipIter
import PyProof.AttrMissHeap
import KE.KDictOf
import PyProof.DictItems
import KE.KItemsList
import KE.KEqDict
import PyProof.DictValues
import PyProof.DictWalks
import PyProof.Rows.StrNews
import KE.KPairComp
import KE.KMinKey
import KE.KPar
import PySem.Challenge.RW_creasecourt_k51_ties_told
open Option renaming some->b4,none->b6
open Bool renaming false->b7,true->b8
open Array renaming mk->WC,getElem?_eq_some_iff->W5,getD->Ye,getElem?_toList->YD,length_toList->Y1,getElem?_setIfInBounds->ZS,getElem_mem->a1b,replicate->a1C,getElem?_eq_getElem->a2d,eraseIdxIfInBounds->a2q,append_assoc->a3y,toList_inj->a4m,toList->a5g,map->a6t
open Bool renaming and_eq_true->VO,false_ne_true->VZ,false_eq_true->Wq,and_eq_true_iff->Ym,or_eq_true->Zf,not_eq_true'->Zx,not_true->a0j,eq_iff_iff->a0y,false_or->a0S,or_true->a1f,not_false->a2c,or_false->a2x,false_and->a4P,and_false->a4Q,true_and->a5e,and_true->a5f,true_or->a5B
open Classical renaming choose->YO,choose_spec->Zo,byContradiction->a1t
open False renaming elim->WR
open ForInStep renaming yield->YX
open Int renaming toNat_natCast->XN,emod_lt_of_pos->YA,emod_nonneg->Zh,zero_add->ZA,natCast_emod->a4J,natCast_add->a4N,mul_add->a6m
open List renaming length_map->VI,getElem?_eq_some_iff->VN,getElem?_eq_getElem->VT,map_cons->V0,length_append->V1,prefix_refl->V3,getElem?_map->V5,size_toArray->V7,length_cons->Wc,range->Wf,getElem?_set_ne->Wl,mem_map->Wm,mem_cons_of_mem->Wn,map_map->Wo,mem_cons->Wr,getElem?_eq_none_iff->Ws,getElem?_append_left->Ww,map_append->Wz,getElem?_set_self->WA,all_cons->WE,zipWith_cons_cons->WK,mem_singleton->WL,mem_of_getElem?->WO,mem_cons_self->WS,length_take->WV,length_range->WW,mem_range->WZ,getD->W3,nodup_cons->W4,mem_append->Xa,find?_cons->Xb,length->Xc,mem_append_right->Xj,mem_filter->Xk,set_cons_zero->Xu,cons_append->Xw,all_eq_true->Xx,pairwise_iff_getElem->XA,length_set->XD,set_cons_succ->XF,take_length->XH,replicate->XJ,getElem?_append_right->XM,nil_append->XQ,length_filter_le->XS,append_nil->X1,map_congr_left->X4,getElem_of_mem->X5,filterMap_cons->X6,getElem_mem->Yc,filter_cons->Yd,getD_eq_getElem?_getD->Yg,take_append_drop->Yh,length_replicate->Yi,pairwise_map->Yl,not_mem_nil->Yr,length_drop->Ys,getElem?_replicate->Yt,find?_eq_none->Yv,filter_append->Yw,length_nil->YB,any_cons->YC,mem_iff_getElem?->YG,length_singleton->YH,take_succ->YV,flatMap_append->Y3,filter_eq_self->Y4,sum_cons->Y8,range_succ->Zc,take_of_length_le->Zu,getElem?_eq_none->ZE,lookup_cons->ZF,lookup->ZO,take_zero->Z6,contains_cons->Z7,drop_eq_getElem_cons->a0b,append_assoc->a0e,any_eq_true->a0l,zipWith->a0r,range_succ_eq_map->a0s,set_append_right->a0z,range'->a0F,forall_mem_cons->a0G,zip_cons_cons->a0T,mem_filterMap->a0U,nodup_append->a1d,of_mem_zip->a1E,length_zip->a1F,filter_map->a1G,idxOf_lt_length_of_mem->a1S,drop_zero->a1Z,map_take->a2v,getElem?_take_of_lt->a2w,length_eq_zero_iff->a2z,head_eq_of_cons_eq->a2A,filter_cons_of_pos->a2B,filter_cons_of_neg->a2C,not_of_lt_findIdx->a2H,length_pos_of_mem->a2I,any_map->a2J,all_map->a2K,getElem?_zipWith->a3a,pairwise_append->a3g,mem_of_mem_drop->a3h,mem_append_left->a3i,length_take_le'->a3j,getElem?_of_mem->a3k,findIdx_getElem->a3l,length_flatMap->a3s,getElem?_range->a3t,getD_cons_zero->a3u,filter_sublist->a3v,take_sublist->a4j,map_inj_left->a4k,getElem?_set->a4l,range'_succ->a4u,nodup_range->a4v,getElem_inj->a4w,forIn_cons->a4G,filter_nil->a4H,map->a4L,map_drop->a5d,map_nil->a5y,flatMap->a5z
open List.Nodup renaming length_le_of_subset->Zn
open List.Pairwise renaming nil->a2a,map->a5N,imp->a5O,filterMap->a5P
open List.cons renaming injEq->a3m
open Nat renaming le_refl->VS,ne_of_lt->V4,lt_of_lt_of_le->Wb,le_trans->WM,lt_irrefl->Xp,ne_of_gt->Xr,lt_succ_self->XU,zero_le->Yb,lt_of_succ_lt->YQ,lt_trans->YZ,lt_or_ge->Y0,mod_lt->Zk,lt_trichotomy->Zz,not_lt->ZL,le_succ->ZR,not_lt_zero->Z1,le_of_lt->Z3,lt_succ_of_lt->a0h,le_of_eq->a0x,mod_eq_of_lt->a1B,min_eq_left->a1P,lt_succ_iff->a1Q,exists_eq_add_of_le->a2G,zero_add->a2X,succ_pos->a2Y,succ_mul->a2Z,lt_of_le_of_lt->a4i,le_of_lt_succ->a4t,le_of_not_lt->a4F,mul_le_mul->a5c,sub_zero->a5L,add_zero->a5M,log2_lt->a6l
open Ne renaming symm->WG
open Option renaming bind_eq_some_iff->VF,map_eq_some_iff->VJ,bind_some->Wg,map_some->Wu,isSome_iff_exists->Y2,isSome_map->Zm,getD_none->a3K,none->a5b
open Option.some renaming inj->VY
open Or renaming inr->a1c,inl->a2u
open Prod renaming ext->Yq,ext_iff->a5x
open Prod.mk renaming inj->a0w,injEq->a4s
open PyProof.Rows renaming callWith_type1->XC,seqObj->XG,IntsAre->Zd,callWith_builtin1->Zg,envOfC->Zy,AllBare->a0t,entry_list_sort->a0N,slot_list_sort->a0V,args_list_sort->a0Z,subscriptTail->a1n,listUpdate_at->a1o,gt_int->a1O,seqEpoch_at->a2t,sortedHeap->a2P,Subscript_->a2V,subscriptTail_builtinR->a3R,boot_range->a4Z,IsTup->a5A,list_sort_plain->a5W,get?_update_seq->a5Y,wpAny_notIn_heap->a5Z,mul_int->a6a,mirror_perm->a6b,lt_int->a6c,floordiv_int->a6d,entry_proto_collect'->a6e,entry_list_iadd'->a6f,call_len_slot->a6g,bubble_perm->a6h,bubble->a6i,assign_Tuple_tuple->a6j,assign_Tuple->a6k,tail_any->a6v,Call_->a6F
open PyProof.Rows.Boot renaming tuple->Zr,sorted->a0v,dict->a0D,sum->a3X,str->a3Y,min->a3Z,max->a4a,list->a4b,len->a4c,isinstance->a4d,int->a4e,bool->a4f,all->a4g
open PySem renaming wpAny_bind->VH,Shared->VL,wpAny_pure->VQ,sizeLine->VW,wpAny->V2,Program->V6,model->V8,sizeLine_eq->V9,Around->Wh,World->Wj,starEach->Wt,wpAny_mono->WB,mainGlobals->WD,Heap->WI,wpAny_holding->WN,wpAny_loadPart_at->WY,compareOp->W6,wpAny_newObj_type->W7,codeAny_builtin->W8,mem_of_lookup->Xg,Params->Xi,wpAny_truthy_bool->Xl,plainId_quiet->Xm,Pos->Xq,cLine->Xs,FuncData->Xy,wpAny_updateSeq->Xz,bootBuiltins->XB,wpAny_tryCatch->XR,excClassObj->XT,wpAny_call_entry->XX,wpAny_Call_Name_kw->XY,sysModules->XZ,rawInt->X2,treeTable->X7,assignEach->X8,Scope->Yj,wpAny_letGo->Yn,wpAny_field->Yo,NameKind->Yp,wpAny_isSubtype_exc->Yu,wpAny_seqItems->Yx,backTo->Yy,sliceBounds->YE,wpAny_setField_rec->YI,wpAny_pyIter_tuple->YJ,typeLookup->YK,pyNext->YL,wpAny_passesOwn->YR,behindInMarks->YT,foldedSetIterable->YW,wpAny_setField->Y5,richCompare->Y6,intKind->Za,Paired->Zj,binaryOp->Zp,attributeBase->Zq,wpAny_loadPart'->Zs,wpAny_execs_nil->Zt,Keyword->Zv,wpAny_dictEntries->ZG,compEnvC->ZI,CmpOp->ZT,wpAny_execs_cons->ZV,swapsWith->ZW,seqItems?->ZX,codeAny->Z2,IsRangeIter->Z4,codeAny_mono->a0c,OsState->a0d,updateSeq->a0f,tupleKind->a0g,Env->a0k,wpAny_pyIter_list->a0q,wpAny_standAt->a0u,checkBuiltinCall->a0A,atKey->a0B,SetTable->a0C,wpAny_isOneOf_itemiter->a0I,wpAny_dictEpoch->a0L,letOwnedTupleGo->a0M,wpAny_notOrdered_dict->a0O,keywordEach->a0W,firstArgMember->a0X,codeAny_call_builtin->a0Y,wpAny_newList->a1m,IsItemIterOut->a1s,wpAny_rule->a1v,wpAny_call->a1w,call_meets->a1x,assign->a1y,wpAny_typeOf->a1I,slot_list_getitem->a1J,callerA->a1M,Model->a1R,BindsTo->a1U,wpAny_isInstance->a2e,setFlight->a2f,pyIter->a2h,noteFrame->a2i,Result->a2l,PassesOwn->a2n,wpAny_of_eq->a2r,subscripted->a2s,valueAt->a2D,getItem->a2E,OwnTail->a2F,wpAny_newTuple->a2M,wpAny_load->a2N,wpAny_Expr_any->a2O,setField->a2Q,isInstance->a2S,bindArgs->a2T,backToKw->a2U,Operator->a2W,evalArgs_none->a3c,wpAny_getItem_list_slice->a3p,swappedStores->a3q,ExceptHandler->a3x,wpAny_pyNext_tuple_item->a3z,wpAny_callSpecial?_slot->a3A,wpAny_Call_method0_late->a3B,slicePick->a3C,bindL->a3E,bindC->a3F,wpAny_pyNext_tuple_end->a3M,wpAny_pyNext_range_end->a3N,wpAny_pyNext_list_item->a3O,wpAny_pyIter_rangeiter->a3P,wpAny_Assign_Subscript->a3Q,seqIndex_neg->a3S,isTrue->a3U,call_meetsIn->a3V,wpAny_pyNext_list_end->a4n,wpAny_isOneOf_keyiter->a4o,unbindBehindTheSuite->a4A,seqIndex_of->a4B,newTuple->a4C,lookup_relabel_local->a4D,IntMulOk->a4I,GenState->a4K,wpAny_tupleItemsOf->a4R,wpAny_pyIter_range->a4S,wpAny_Name->a4T,sliceRange->a4U,getattributeRaised->a4V,closureFor->a4W,call_function_tree->a4X,builtinsNs->a4Y,Tok->a5a,wpAny_pyIter_slot->a5h,wpAny_pyIter_enum->a5i,wpAny_assign_Name->a5j,wpAny_Return_some->a5k,wpAny_Assign_Name->a5l,storedH->a5m,relabel->a5n,leaving->a5o,call_sum_walkAnyS->a5q,wpAny_pyIter_zip->a5C,lastMarks->a5E,cellsFrom->a5G,Sem->a5I,call->a5J,wpAny_specialOf->a5U,typeNameOfWhole->a5V,importedModules->a5X,wpAny_fieldsOf->a6u,refuseLoop_ref->a6w,recursionLimit->a6x,putAt->a6y,newExc->a6z,isSubtype_stop->a6D
open PySem.Around renaming under_plainId->Wx,under->a2y
open PySem.Builtin renaming sorted->a3b
open PySem.Builtin.Builtins renaming bindParams->a0E
open PySem.Builtin.Dict renaming showsAll->Ze,updateFrom->a1l,pairItems->a1u,selfAndRest->a6o,pendingCount->a6p,noArgs->a6q,dictSlotNone->a6r,addKeywords->a6s
open PySem.Builtin.Dict_items renaming ownsTuple->Y9,ownedTupleIsFree->Z9,ownedTupleFields->a0a,pairFromOwner->a0i,newIterator->a4y,dictOf->a4z
open PySem.Builtin.Int renaming intBits->Wv,intTooBig->Zi
open PySem.Builtin.List renaming listTooLong->ZU,listExtendWith->a0R,listSameRef->a1e
open PySem.Builtin.ObjectAttr renaming storeInDict->a0o,newKeyGuard->a4x
open PySem.Builtin.Range renaming rangeSize->WT,small->a5T
open PySem.Builtin.Str renaming occurrences->Xo
open PySem.Builtin.Tuple renaming tupleHashOf->a5R,tupleCompareSizes->a5S
open PySem.Calls renaming callWith_builtin->a0p,spliced_cons->a0Q,spliced_nil->a1a,Name_function_global->a1T,call_function_entry->a2b
open PySem.Challenge renaming rw_creasecourt_k51_ties_told->VP,pw_creasecourt_k51_ties_told->Xe
open PySem.Code renaming isFrame->a2L,quiet_builtin->a3L,frames->a5Q
open PySem.Data renaming fields->WQ,dict->Zl,cell->a0n,seq->a3o,cls->a4O
open PySem.EntryCells renaming newEntry->a2p
open PySem.F renaming slot_dict_items->Y7,excBase_ValueError->Z0,store_ValueError->Z8,args_dict_items_1->a1D,entry_dict_items->a1N,type_dict_items->a1W,plainAttrs_dict->a1X
open PySem.Heap renaming get?_push_of_some->VM,lt_size->VR,get?_push_size->VX,get?_update_other->Wi,get?_update_self->WH,size_push->XW,SameBut->Zw,get?_none_of_le->ZP,ExtBut->a0H,get?_update_ne->a3w
open PySem.Heap.DictOfH renaming new->a6n
open PySem.Heap.IsSliceOf renaming new->a1H
open PySem.Heap.IsTuple renaming push->a0K
open PySem.Heap.SameBut renaming update->a0m,refl->a2o
open PySem.IsRange renaming new->a4M
open PySem.MeetsSeq renaming plain_remove_loop->YF,entry_remove_loop->a1r
open PySem.NameKind renaming free->X3,cell->Yk
open PySem.Obj renaming mapSeq->WU,data_mapFields->Yz,isFreed_of_fields->YN,mapFields->ZN,cls_mapFields->a1k
open PySem.Paired renaming snoc->a1j,length->a1Y
open PySem.PassesOwn renaming never->a3f
open PySem.SeqAt renaming ne_of_list_tuple->XI,EqAt->Zb
open PySem.SetTable renaming below->W9,has->a1V,slot->a3W
open PySem.SetTable.below renaming go->ZK
open PySem.SetTable.layClean renaming free->ZQ
open PySem.SetTable.probe renaming go->ZJ
open PySem.Str renaming ofString->X9
open PySem.Value renaming ref->VU,type->Wa,int->Wy,none->WJ,builtin->Xf,bool->XE,str->a1g,isInt->a5t,float->a5u,bytes->a5v
open PySem.W renaming Frag->VG,behindTheImports->We,keepIn->WX,nsIn->W0,boot_drawn->Xd,findIn->Xh,fnOf->Xv,kia_one->X0,looks_findIn->YM,Looks->YY,boot_heap->ZC,mg_of->ZD,topFrame->ZH,codeIn->ZY,specialIn->Z5,callWith_K->a0J,methodObj->a0P,kitOne->a1z,piecesOf->a1K,kas_rev->a1L,segRun->a2g,hashAt->a2j,boot_toks->a2k,cellsFrom_some->a2m,kat_cons->a2R,kitx_list->a3d,kitx_dict->a3e,plainGet->a3r,kas_tail3->a3D,takesIn->a3G,instObj->a3H,findCls->a3I,OpenLaw->a3J,kas_descPart->a3T,mroIn->a4p,excIn->a4q,WalkO->a4r,isFn->a4E,kat_yes->a5p,piece_app->a5D,kas_place->a5F,kas_sort->a6A,kas_desc->a6B,kHook->a6C,KasT->a6E
open PySem.W.KasT renaming ret->a3n
open PySem.W.Looks renaming here->YS
open PySem.W.OpenLaw renaming row->W2
open PySem.W.OpenRow renaming toRowW->a4h
open PySem.W.RowW renaming records->a5w
open PySem.W.WData renaming int->ZM,weightAll->ZZ,layable->a1q,weight->a1A,layableAll->a5K
open PySem.W.WShape renaming has->a5s
open PySem.Walks renaming tuple->a1p,range->a5r,list->a5H
open Sum renaming inr->a1h,inl->a1i
open True renaming intro->YU
local macro_rules|`(tactic| omega) => `(tactic| lia)
set_option compiler.extract_closed false
set_option bootstrap.genMatcherCode false
set_option genSizeOf false
set_option genSizeOfSpec false
set_option Elab.async false
set_option linter.all false
set_option maxRecDepth 100000
set_option linter.all false
namespace L2
open PySem PySem.Spec PyProof.Rows
noncomputable abbrev aQ:=Sum Int Str
noncomputable def v7:aQ->Value->Bool
 |.inl k,v=>a5t k v|.inr x,v=>Value.isStrOf x v
noncomputable def Bo(w:Wj):aQ->Int
 |.inl k=>hashInt k|.inr x=>hashStr w x
theorem jT:∀{k:aQ}{v:Value},v7 k v=b8->(∃i t,k=a1i i/\v=Wy i t)\/(∃x t,k=a1h x/\v=a1g x t)
 |.inl i,v,h=>by obtain⟨t,e⟩:=Value.isInt_shape (k:=i) (v:=v) h;exact .inl ⟨i,t,rfl,e⟩
 |.inr x,v,h=>by obtain⟨t,e⟩:=Value.isStrOf_shape (x:=x) (v:=v) h;exact .inr ⟨x,t,rfl,e⟩
theorem Hf(a b:Int):decide ((a1i a:aQ)=a1i b)=(a==b):=by
 by_cases e:a=b
 ·subst e;simp
 ·have h:¬ (a1i a:aQ)=a1i b:=λq=>e (Sum.inl.inj q);rw[decide_eq_false h];exact(beq_eq_false_iff_ne.mpr e).symm
theorem Hg(a b:Str):decide ((a1h a:aQ)=a1h b)=decide (a=b):=by
 by_cases e:a=b
 ·subst e;simp
 ·have h:¬ (a1h a:aQ)=a1h b:=λq=>e (Sum.inr.inj q);rw[decide_eq_false h,decide_eq_false e]
theorem Hh(a:Int)(b:Str):decide ((a1i a:aQ)=a1h b)=false:=decide_eq_false (λq=>nomatch q)
theorem Hi(a:Str)(b:Int):decide ((a1h a:aQ)=a1i b)=false:=decide_eq_false (λq=>nomatch q)
noncomputable def lK(prog:V6)(w:Wj):PySem.KeyKind prog w aQ where
 is:=v7
 hash:=Bo w
 inj:=λv a b l d=>by
  rcases jT l with⟨i,t,rfl,rfl⟩|⟨x,t,rfl,rfl⟩
  ·rcases jT d with⟨j,u,rfl,e⟩|⟨y,u,rfl,e⟩
   ·injection e with e1 _;rw[e1]
   ·exact nomatch e
  ·rcases jT d with⟨j,u,rfl,e⟩|⟨y,u,rfl,e⟩
   ·exact nomatch e
   ·injection e with e1 _;rw[e1]
 byValue:=λk v h=>by rcases jT h with⟨i,t,rfl,rfl⟩|⟨x,t,rfl,rfl⟩<;>rfl
 pyHash:=λc h=>by
  rcases jT c with⟨i,t,rfl,rfl⟩|⟨x,t,rfl,rfl⟩
  ·exact wpAny_pyHash_int h
  ·exact wpAny_pyHash_str h
 eqBool:=λm c h=>by
  rcases jT m with⟨i,t,rfl,rfl⟩|⟨x,t,rfl,rfl⟩
  ·rcases jT c with⟨j,u,rfl,rfl⟩|⟨y,u,rfl,rfl⟩
   ·rw[Hf]at h;exact wpAny_eqBool_int h
   ·rw[Hh]at h;exact SeqAt.EqAt.int_str i t y u _ _ _ _ h
  ·rcases jT c with⟨j,u,rfl,rfl⟩|⟨y,u,rfl,rfl⟩
   ·rw[Hi]at h;exact SeqAt.EqAt.str_int x t j u _ _ _ _ h
   ·rw[Hg]at h;exact wpAny_eqBool_str h
 «strs»:=λk x t v h=>by
  rcases jT h with⟨i,u,rfl,e⟩|⟨y,u,rfl,e⟩
  ·exact nomatch e
  ·injection e with e1 _;subst e1;cases v<;>rfl
end L2
namespace L2
open PySem PySem.Spec PyProof.Rows
inductive V where
 |non|bl (b:Bool)|int (i:Int)|str (x:Str)|byt (b:Array UInt8)|flt (b:UInt64)|ref (a:Addr)|ty (n:String)
 deriving DecidableEq
noncomputable def RelV:V->Value->Prop
 |.non,u=>u=WJ|.bl b,u=>u=XE b|.int i,u=>∃t,u=Wy i t|.str x,u=>∃t,u=a1g x t|.byt b,u=>∃t,u=a5v b t|.flt b,u=>∃t,u=a5u b t|.ref a,u=>u=VU a|.ty n,u=>u=Wa n
noncomputable abbrev Vals:List V->List Value->Prop:=Zj RelV
theorem Vals.length{xs:List V}{us:List Value}(r:Vals xs us):xs.length=us.length:=a1Y r
theorem Vals.get:∀{xs:List V}{us:List Value}{i:Nat}{x:V},Vals xs us->xs[i]?=b4 x->∃u,us[i]?=b4 u/\RelV x u
 |_,_,_,_,.nil,e=>by simp at e
 |_,_,0,_,.cons r _,e=>by simp at e;subst e;exact⟨_,rfl,r⟩
 |_,_,i+1,x,.cons _ t,e=>by obtain⟨u,a,b⟩:=Vals.get (i:=i) (x:=x) t (by simpa using e);exact⟨u,by simpa using a,b⟩
theorem Vals.set{x:V}{u:Value}(r:RelV x u):∀{xs:List V}{us:List Value}(i:Nat),Vals xs us->Vals (xs.set i x) (us.set i u)
 |_,_,_,.nil=>.nil|_,_,0,.cons _ t=>.cons r t|_,_,i+1,.cons q t=>.cons q (Vals.set r i t)
theorem Vals.append:∀{xs a:List V}{us ws:List Value},Vals xs us->Vals a ws->Vals (xs++a) (us++ws)
 |_,_,_,_,.nil,s=>s|_,_,_,_,.cons r t,s=>.cons r (Vals.append t s)
theorem Vals.take:∀{xs:List V}{us:List Value}(n:Nat),Vals xs us->Vals (xs.take n) (us.take n)
 |_,_,0,_=>.nil|_,_,_+1,.nil=>.nil|_,_,n+1,.cons r t=>.cons r (Vals.take n t)
theorem Vals.drop:∀{xs:List V}{us:List Value}(n:Nat),Vals xs us->Vals (xs.drop n) (us.drop n)
 |_,_,0,r=>r|_,_,_+1,.nil=>.nil|_,_,n+1,.cons _ t=>Vals.drop n t
theorem Vals.none_of:∀{xs:List V}{us:List Value}{i:Nat},Vals xs us->xs[i]?=b6->us[i]?=none:=λ{xs us i} r e=>by have a:=r.length;have b:xs.length<=i:=Ws.mp e;exact Ws.mpr (by omega)
noncomputable def RelO:Option V->Option Value->Prop
 |some v,b4 u=>RelV v u|none,b6=>True|_,_=>False
noncomputable def KV{κ:Type}:List (κ×V)->List (κ×Value)->Prop:=Zj λ(p:κ×V)(q:κ×Value)=>p.1=q.1/\RelV p.2 q.2
noncomputable def kV:aQ->V
 |.inl i=>.int i|.inr x=>.str x
inductive HO where
 |lst (xs:List V)
 |tup (xs:List V)
 |dK (kvs:List (aQ×V))|dT (kvs:List (List aQ×V))
 |set (S:Int->Bool)(n:Nat)
 |ins (C dx:Addr)(fs:List (Str×V))
 |own (x:Addr)
 |xd (fs:List (Str×V))
 |met (f x:Addr)
 |rng (lo hi:Int)
 |frz (o:Obj)(u:HO)
 |tbl (ps:Array Value)
 |ext (φ:WI->Prop)
noncomputable abbrev Hp:=Addr->Option HO
noncomputable def aI(H:Hp)(a:Addr)(o:HO):Hp:=λb=>if b=a then b4 o else H b
theorem bR{H:Hp}{a:Addr}{o:HO}:aI H a o a=b4 o:=by unfold aI;rw[if_pos rfl]
theorem aT{H:Hp}{a b:Addr}{o:HO}(h:b≠a):aI H a o b=H b:=by unfold aI;rw[if_neg h]
theorem hU{H:Hp}{a b:Addr}{o:HO}(h:H a=b4 o)(h':H b=b6):a≠b:=by intro e;subst e;rw[h]at h';cases h'
section
variable(P:V6)(w:Wj)
noncomputable def TupN(h:WI)(a:Addr)(xs:Array Value):Prop:=∃o,h.get? a=b4 o/\o.cls=.type "tuple"/\∃n,o.data=.seq xs n/\o.dict=b6
theorem TupN.tup{h:WI}{a:Addr}{xs:Array Value}(x:TupN h a xs):a5A h a xs:=let⟨o,e,c,n,d,_⟩:=x;⟨o,e,c,n,d⟩
theorem TupN.new(h:WI)(items:Array Value):TupN (h.push {cls:=.type "tuple",data:=.seq items}) h.objs.size items:=⟨_,VX _ rfl,rfl,_,rfl,rfl⟩
noncomputable def ObjOk(H:Hp)(h:WI)(a:Addr):HO->Prop
 |.lst c=>c.length<=VW/\∃(b:List Value)(n:Nat),Vals c b/\h.get? a=b4 {cls:=.type "list",data:=.seq b.toArray n}|.tup c=>c.length<=VW/\∃b:List Value,Vals c b/\TupN h a b.toArray|.dK kvs=>kvs.length<=VW/\(a==XZ)=b7/\∃l,KV kvs l/\h.DictOf (lK P w) a l|.dT kvs=>kvs.length<=VW/\(a==XZ)=b7/\∃c:List (List aQ×Addr×Value),
   Zj (λ(p:List aQ×V)(q:List aQ×Addr×Value)=>p.1=q.1/\H q.2.1=b4 (.tup (p.1.map kV))/\RelV p.2 q.2.2) kvs c /\
   ∃o e m,h.get? a=b4 o/\o.ExactDict/\o.data=.dict e m/\e.toList=c.map (entryOfKey (a0g (lK P w)))/\(c.map (·.1)).Nodup
 |.set S n=>h.SetOf (Za P w) a S n|.ins C dx fs=>H dx=b4 (.own a)/\fs.length<=1000/\dx≠a/\h.get? a=b4 (a3H C dx) /\
   ∃d,h.Ns1 dx d/\(∀f,RelO (fs.lookup f) (d f))/\PySem.Within d (fs.map (·.1))
 |.own _=>∃o,h.get? a=b4 o|.xd fs=>∃d,h.Ns1 a d/\∀f,RelO (fs.lookup f) (d f)|.rng lo hi=>∃t u v,h.get? a=b4 {cls:=.type "range",data:=.fields #[.int lo t,.int hi u,.int 1 v]}|.frz o u=>h.get? a=b4 o/\ObjOk H h a u|.tbl ps=>h.get? a=b4 {cls:=.none,data:=.fields ps}|.met f x=>h.get? a=b4 (a0P (.ref f) (.ref x))|.ext φ=>φ h/\(∃o,h.get? a=b4 o)/\∀i j:WI,φ i->(∀o,i.get? a=b4 o->j.get? a=b4 o)->φ j
noncomputable def HOk(H:Hp)(h:WI):Prop:=∀a o,H a=b4 o->ObjOk P w H h a o
end
section
variable{P:V6}{w:Wj}{H H':Hp}{h h':WI}{a:Addr}{o:HO}
theorem ObjOk.lt(x:ObjOk P w H h a o):a<h.objs.size:=by
 cases o with
 |lst c=>obtain⟨_,_,_,_,e⟩:=x;exact VR e|tup c=>obtain⟨_,_,_,p⟩:=x;exact p.tup.lt|dK b=>obtain⟨_,_,_,_,o,_,_,e,_⟩:=x;exact VR e|dT b=>obtain⟨_,_,_,_,o,_,_,e,_⟩:=x;exact VR e|set S n=>obtain⟨o,_,_,_,e,_⟩:=x;exact VR e|ins C d fs=>obtain⟨_,_,_,e,_⟩:=x;exact VR e|own y=>obtain⟨_,e⟩:=x;exact VR e|xd fs=>obtain⟨_,⟨_,_,_,e,_⟩,_⟩:=x;exact VR e|rng j i=>obtain⟨_,_,_,e⟩:=x;exact VR e|frz l u=>obtain⟨e,_⟩:=x;exact VR e|tbl m=>exact VR (show h.get? a=b4 _ from x)|met f y=>exact VR (show h.get? a=b4 _ from x)|ext q=>obtain⟨_,⟨_,e⟩,_⟩:=x;exact VR e
theorem Zj.mapP{c d:Type}{F G:c->d->Prop}:∀{l₁:List c}{l₂:List d},Zj F l₁ l₂->(∀a b,F a b->G a b)->Zj G l₁ l₂
 |_,_,.nil,_=>.nil|_,_,.cons r t,f=>.cons (f _ _ r) (Zj.mapP t f)
theorem ObjOk.stay(x:ObjOk P w H h a o)(k:∀b u,(b=a\/H b=b4 (.own a))->h.get? b=b4 u->h'.get? b=b4 u)
  (J:∀b,H b=b4 (.own a)->H' b=b4 (.own a))(K:∀b s,H b=b4 (.tup s)->H' b=b4 (.tup s)):ObjOk P w H' h' a o:=by
 induction o with
 |lst s=>obtain⟨z,m,n,r,e⟩:=x;exact⟨z,m,n,r,k _ _ (.inl rfl) e⟩|tup s=>obtain⟨z,m,r,i,e,c⟩:=x;exact⟨z,m,r,i,k _ _ (.inl rfl) e,c⟩|dK A=>obtain⟨z,y,M,r,i,l,j,e,c⟩:=x;exact⟨z,y,M,r,i,l,j,k _ _ (.inl rfl) e,c⟩|dT A=>obtain⟨z,y,s,r,i,l,j,e,c⟩:=x;exact⟨z,y,s,Zj.mapP r λp q z=>⟨z.1,K _ _ z.2.1,z.2.2⟩,i,l,j,k _ _ (.inl rfl) e,c⟩|set S n=>obtain⟨i,l,j,t,e,c⟩:=x;exact⟨i,l,j,t,k _ _ (.inl rfl) e,c⟩|ins C N fs=>obtain⟨d,z,ne,e,B,⟨E,l,j,I,c⟩,r⟩:=x;exact⟨J _ d,z,ne,k _ _ (.inl rfl) e,B,⟨E,l,j,k _ _ (.inr d) I,c⟩,r⟩|own y=>obtain⟨i,e⟩:=x;exact⟨i,k _ _ (.inl rfl) e⟩|xd fs=>obtain⟨B,⟨E,l,j,e,c⟩,r⟩:=x;exact⟨B,⟨E,l,j,k _ _ (.inl rfl) e,c⟩,r⟩|rng Q O=>obtain⟨t,u,v,e⟩:=x;exact⟨t,u,v,k _ _ (.inl rfl) e⟩|frz i u L=>obtain⟨e,q⟩:=x;exact⟨k _ _ (.inl rfl) e,L q⟩|tbl G=>have e:h.get? a=b4 {cls:=.none,data:=.fields G}:=x;show h'.get? a=b4 {cls:=.none,data:=.fields G};exact k a _ (.inl rfl) e|met f y=>have e:h.get? a=b4 (a0P (.ref f) (.ref y)):=x;show h'.get? a=b4 (a0P (.ref f) (.ref y));exact k a _ (.inl rfl) e|ext R=>obtain⟨p,⟨o,e⟩,st⟩:=x;exact⟨st _ _ p λo q=>k _ _ (.inl rfl) q,⟨o,k _ _ (.inl rfl) e⟩,st⟩
theorem HOk.lt(x:HOk P w H h)(e:H a=b4 o):a<h.objs.size:=(x a o e).lt
theorem HOk.fresh(x:HOk P w H h)(e:h.objs.size<=a):H a=none:=by
 cases q:H a with
 |none=>rfl|some u=>exact absurd (Wb (x.lt q) e) (Xp _)
theorem HOk.kept(x:HOk P w H h)(k:∀b u,h.get? b=b4 u->h'.get? b=b4 u):HOk P w H h':=λa o e=>(x a o e).stay (λb u _ q=>k b u q) (λ_ q=>q) λ_ _ q=>q
theorem HOk.laid(x:HOk P w H h)(k:∀b u,h.get? b=b4 u->h'.get? b=b4 u)(j:h.objs.size<=a)(new:ObjOk P w (aI H a o) h' a o):HOk P w (aI H a o) h':=λb u e=>by
 have i:=x.fresh j;by_cases d:b=a
 ·subst d;rw[bR]at e;cases e;exact new
 ·rw[aT d]at e;exact(x b u e).stay (λc v _ q=>k c v q) (λc q=>by rw[aT (hU q i)];exact q) λc l q=>by rw[aT (hU q i)];exact q
end
noncomputable def Rd(H:Hp)(a:Addr)(u:HO):Prop:=H a=b4 u\/∃o,H a=b4 (.frz o u)
theorem Rd.of{H:Hp}{a:Addr}{u:HO}(h:H a=b4 u):Rd H a u:=.inl h
theorem Rd.ok{P:V6}{w:Wj}{H:Hp}{h:WI}{a:Addr}{u:HO}(r:Rd H a u)(x:HOk P w H h):ObjOk P w H h a u:=by
 rcases r with r|⟨o,r⟩
 ·exact x a u r
 ·obtain⟨_,q⟩:=x a _ r;exact q
noncomputable def pL:Option HO->Prop
 |some (.lst _)=>True|some (.dK _)=>True|some (.dT _)=>True|some (.set _ _)=>True|some (.ins _ _ _)=>True|some (.ext _)=>True|_=>False
section
variable{P:V6}{w:Wj}{H:Hp}{h h':WI}{x e:Addr}{o':HO}
theorem HOk.write(ok:HOk P w H h)(l:pL (H x))(o:e=x\/H e=b4 (.own x))(k:∀b u,b≠e->h.get? b=b4 u->h'.get? b=b4 u)(n:∃u,h'.get? e=b4 u)
  (new:ObjOk P w (aI H x o') h' x o'):HOk P w (aI H x o') h':=λb u q=>by
 have d:∀c y,H c=b4 (.own y)->c≠x:=λc y r z=>by subst z;rw[r]at l;exact l
 have i:∀c m,H c=b4 (.tup m)->c≠x:=λc m r z=>by subst z;rw[r]at l;exact l
 by_cases j:b=x
 ·subst j;rw[bR]at q;cases q;exact new
 ·rw[aT j]at q;by_cases a:b=e
  ·have p:H b=b4 (.own x):=by
    rcases o with z|z
    ·exact absurd (a.trans z) j
    ·rw[a];exact z
   rw[q]at p;cases p;obtain⟨v,s⟩:=n;exact⟨v,by rw[a];exact s⟩
  ·refine(ok b u q).stay (λc v hc r=>k c v ?_ r) (λc r=>by rw[aT (d c b r)];exact r) λc m r=>by rw[aT (i c m r)];exact r
   rcases hc with rfl|hc
   ·exact a
   ·rintro rfl;rcases o with z|z
    ·exact d c b hc z
    ·rw[hc]at z;cases z;exact j rfl
end
structure Un(fs ex:List Addr)(H H':Hp)(h h':WI):Prop where
 keep:∀b o,h.get? b=b4 o->H b=b6->b∉fs->b∉ex->h'.get? b=b4 o
 slot:∀b o,h.get? b=b4 o->H b=b6->b∈fs->b∉ex->∃sl,h'.get? b=b4 {o with slots:=sl}
 free:∀b o,h.get? b=b4 o->H b=b6->b∉ex->H' b=b6
 there:∀b o,h.get? b=b4 o->b∉ex->∃o',h'.get? b=b4 o'
 tups:∀b xs,H b=b4 (.tup xs)->H' b=b4 (.tup xs)
 frzs:∀b o u,H b=b4 (.frz o u)->H' b=b4 (.frz o u)
 tbls:∀b ps,H b=b4 (.tbl ps)->∃more,H' b=b4 (.tbl (ps++more))
section
variable{fs fs' ex ex':List Addr}{H H1 H2:Hp}{h h1 h2 h':WI}{a x e:Addr}{o:HO}
theorem Un.any(u:Un fs ex H H1 h h1){b:Addr}{c:Obj}(q:h.get? b=b4 c)(n:H b=b6)(i:b∉ex):∃j,h1.get? b=b4 {c with slots:=j}:=by
 by_cases d:b∈fs
 ·exact u.slot b c q n d i
 ·exact⟨c.slots,u.keep b c q n d i⟩
theorem Un.trans(a:Un fs ex H H1 h h1)(b:Un fs ex H1 H2 h1 h2):Un fs ex H H2 h h2 where
 keep:=λc i q n hc d=>b.keep c i (a.keep c i q n hc d) (a.free c i q n d) hc d
 slot:=λc i q n hc d=>by obtain⟨w,j⟩:=a.slot c i q n hc d;obtain⟨r,m⟩:=b.slot c _ j (a.free c i q n d) hc d;exact⟨r,m⟩
 free:=λc i q n d=>by obtain⟨p,j⟩:=a.there c i q d;exact b.free c p j (a.free c i q n d) d
 there:=λc i q d=>by obtain⟨p,j⟩:=a.there c i q d;exact b.there c p j d
 tups:=λc l q=>b.tups c l (a.tups c l q);frzs:=λc i l q=>b.frzs c i l (a.frzs c i l q);tbls:=λc v q=>by obtain⟨s,j⟩:=a.tbls c v q;obtain⟨u,m⟩:=b.tbls c _ j;exact⟨s++u,by rw[m,a3y]⟩
theorem Un.kept(k:∀b u,h.get? b=b4 u->h'.get? b=b4 u):Un fs ex H H h h':=
 ⟨λb c q _ _ _=>k b c q,λb c q _ _ _=>⟨c.slots,k b c q⟩,λ_ _ _ n _=>n,λb c q _=>⟨c,k b c q⟩,λ_ _ q=>q,λ_ _ _ q=>q,λ_ d q=>⟨#[],by rw[q];simp⟩⟩
theorem Un.refl:Un fs ex H H h h:=Un.kept λ_ _ q=>q
theorem Un.laid(k:∀b u,h.get? b=b4 u->h'.get? b=b4 u)(d:h.objs.size<=a)(c:H a=b6):Un fs ex H (aI H a o) h h' where
 keep:=λb u q _ _ _=>k b u q
 slot:=λb u q _ _ _=>⟨u.slots,k b u q⟩
 free:=λb u q n _=>by rw[aT (V4 (Wb (VR q) d))];exact n
 there:=λb u q _=>⟨u,k b u q⟩
 tups:=λb i q=>by rw[aT (hU q c)];exact q
 frzs:=λb u i q=>by rw[aT (hU q c)];exact q
 tbls:=λb j q=>⟨#[],by rw[aT (hU q c),q];simp⟩
theorem Un.write(d:pL (H x))(p:e=x\/H e=b4 (.own x))(k:∀b u,b≠e->h.get? b=b4 u->h'.get? b=b4 u)(i:∃u,h'.get? e=b4 u):Un fs ex H (aI H x o) h h':=by
 have m:∀b,H b=b6->b≠x:=λb n z=>by subst z;rw[n]at d;exact d
 have l:∀b,H b=b6->b≠e:=λb n z=>by
  subst z;rcases p with r|r
  ·exact m b n r
  ·rw[n]at r;cases r
 have j:∀b u,H b=b4 u->¬ pL (b4 u)->b≠x:=λb u q s z=>by subst z;rw[q]at d;exact s d
 refine⟨λb u q n _ _=>k b u (l b n) q,λb u q n _ _=>⟨u.slots,k b u (l b n) q⟩,λb u q n _=>by rw[aT (m b n)];exact n,λb u q _=>?_,
  λb v q=>by rw[aT (j b _ q λz=>z)];exact q,λb u v q=>by rw[aT (j b _ q λz=>z)];exact q,λb w q=>⟨#[],by rw[aT (j b _ q λz=>z),q];simp⟩⟩
 by_cases c:b=e
 ·subst c;exact i
 ·exact⟨u,k b u c q⟩
theorem Un.mono(u:Un fs ex H H1 h h1)(l:∀b∈fs,b∈fs')(i:∀b∈ex,b∈ex'):Un fs' ex' H H1 h h1:=
 ⟨λb d q n j c=>u.keep b d q n (λz=>j (l b z)) λz=>c (i b z),λ_ _ q n _ c=>u.any q n λz=>c (i _ z),λb d q n c=>u.free b d q n λz=>c (i b z),λb d q c=>u.there b d q λz=>c (i b z),u.tups,u.frzs,u.tbls⟩
end
noncomputable def r8(h:WI)(H:Hp):List Addr:=(Wf h.objs.size).filter λa=>(H a).isSome
noncomputable def jU(h:WI)(H:Hp):WI:=PySem.W.hideAll h (r8 h H)
theorem Hj(h:WI)(H:Hp):(jU h H).objs.size=h.objs.size:=PySem.W.hideAll_size _ _
theorem Hk{h:WI}{H:Hp}{b:Addr}{o:Obj}(e:h.get? b=b4 o)(n:H b=b6):(jU h H).get? b=b4 o:=
 PySem.W.hideAll_get _ e λa=>by have q:(H b).isSome=true:=(Xk.mp a).2;rw[n]at q;simp at q
theorem Hl{h:WI}{H:Hp}{b:Addr}{o:Obj}(e:(jU h H).get? b=b4 o):h.get? b=b4 o/\H b=none:=by
 have a:h.get? b=b4 o:=PySem.W.of_hideAll (r8 h H) e;refine⟨a,?_⟩;cases q:H b with
 |none=>rfl|some x=>have c:b∈r8 h H:=Xk.mpr ⟨WZ.mpr (VR a),by simp[q]⟩;have z:(jU h H).get? b=none:=PySem.W.hideAll_none (r8 h H) c;rw[z]at e;cases e
noncomputable def Hn(g h:WI)(L:Addr):List (Addr×Obj):=(Wf h.objs.size).filterMap λa=>if a=L\/(g.get? a).isSome=b8 then b6 else(h.get? a).map λo=>(a,o)
noncomputable def rest(g h:WI)(L d:Addr):List (Addr×Obj):=(Hn g h L).filter λp=>decide (p.1≠d)
end L2
namespace L2
open PySem PySem.Spec PyProof.Rows
structure Mod(K:VG)(mg:Str->Option Value)(base:WI):Prop where
 kin:K.In base
 glob:base.Ns WD mg
 blt:∃mb,base.Ns a4Y mb/\∀x:Str,x ≠ "__name__"->mb x=XB x
 nolimit:base.NoLimit
structure Cx where
 prog:V6
 w:Wj
 K:VG
 mg:Str->Option Value
 base:WI
 A:Wh
 N:List Str
 s₀:VL
 H₀:Hp
 env:a0k
 outer:List a0k
 stack:List a0k
 ex:List Addr
 fn:Str->Bool
 calm:Bool
 pn:List (Addr×Obj)
 xe:Value->VL->Prop
noncomputable def dB(l:List a0k):List Addr:=l.filterMap (·.frame)
noncomputable abbrev Cx.fs(X:Cx):List Addr:=dB X.outer
noncomputable def lO(sc:Yj)(x:Str):Prop:=sc.names.lookup x=b4 .local\/sc.names.lookup x=b4 .cell\/sc.names.lookup x=b4 .free
noncomputable def Loc(sc:Yj)(x:Str):Prop:=sc.names.lookup x=b4 .local\/sc.names.lookup x=b4 .cell
noncomputable def Ho(env:a0k)(h:WI)(m:Str->Option Value)(x:Str)(u:Value):Prop:=
 (env.kindOf x=b4 .local/\m x=b4 u)\/((env.kindOf x=b4 .cell\/env.kindOf x=b4 .free)/\∃c,env.cells.lookup x=b4 c/\h.IsCell c (b4 u))
structure Cx.Ok(X:Cx):Prop where
 mod:Mod X.K X.mg X.base
 kind:X.env.scope.kind=.function
 glob:X.env.globals=WD
 blt:X.env.builtins=a4Y
 above:X.s₀.heap.objs.size<=X.env.locals
 inj:∀x y c,X.env.cells.lookup x=b4 c->X.env.cells.lookup y=b4 c->x=y
 has:∀x,(X.env.kindOf x=b4 .cell\/X.env.kindOf x=b4 .free)->∃c,X.env.cells.lookup x=b4 c
 cab:∀x c,X.fn x=b8->X.env.cells.lookup x=b4 c->X.s₀.heap.objs.size<=c
 hd:X.calm=b8->X.A.handled=b6
 frames:X.A.frames=b4 X.stack
 stk:X.stack=X.outer\/(X.stack=X.env::X.outer/\X.env.frame=b4 X.env.locals)
 exf:∀b∈X.ex,b≠X.env.locals/\∀x c,X.env.cells.lookup x=b4 c->c≠b
 bs:∀b o,X.base.get? b=b4 o->X.s₀.heap.get? b=b4 o/\X.H₀ b=b6
 bsz:X.base.objs.size<=X.s₀.heap.objs.size
 noex:∀b o,X.base.get? b=b4 o->b∉X.ex
 exfs:∀b∈X.ex,b∉X.fs
 funs:X.s₀.heap.FunFrames X.base X.outer
 frf:∀b∈X.fs,X.H₀ b=b6
structure Inv(X:Cx)(a6G:List (Addr×Obj))(σ:List (Option V))(H:Hp)(s:VL):Prop where
 ok:X.Ok
 os:s.os=X.s₀.os
 bare:a0t s.gens
 base:Un X.fs X.ex X.H₀ H X.s₀.heap s.heap
 loc:∃m,s.heap.Ns X.env.locals m/\∀(i:Nat)(x:Str)(v:V),X.N[i]?=b4 x->σ[i]?=b4 (b4 v)->lO X.env.scope x->∃u,RelV v u/\Ho X.env s.heap m x u
 cell:∀x c,X.env.cells.lookup x=b4 c->∃v,s.heap.IsCell c v
 free:H X.env.locals=b6
 freeC:∀x c,X.env.cells.lookup x=b4 c->H c=b6
 pin:∀p∈X.pn++a6G,s.heap.get? p.1=b4 p.2/\H p.1=b6/\p.1≠X.env.locals/\p.1∉X.fs/\∀v,p.2.data≠.cell v
 hok:HOk X.prog X.w H s.heap
 len:σ.length=X.N.length
section
variable{X:Cx}{a6G:List (Addr×Obj)}{σ:List (Option V)}{H H':Hp}{s:VL}{h':WI}
theorem Cx.Ok.nofr(ok:X.Ok){b:Addr}{o:Obj}(e:X.base.get? b=b4 o):b∉X.fs:=λa=>by have:=(ok.funs.mem a).1;rw[e]at this;cases this
theorem Inv.bs(I:Inv X a6G σ H s):∀b o,X.base.get? b=b4 o->s.heap.get? b=b4 o/\H b=none:=λb o e=>⟨I.base.keep b o (I.ok.bs b o e).1 (I.ok.bs b o e).2 (I.ok.nofr e) (I.ok.noex b o e),I.base.free b o (I.ok.bs b o e).1 (I.ok.bs b o e).2 (I.ok.noex b o e)⟩
theorem Inv.bk(I:Inv X a6G σ H s):∀b o,X.base.get? b=b4 o->s.heap.get? b=b4 o:=λb o e=>(I.bs b o e).1
theorem Inv.mod(I:Inv X a6G σ H s):Mod X.K X.mg X.base:=I.ok.mod
theorem Inv.kIn(I:Inv X a6G σ H s):X.K.In s.heap:=I.ok.mod.kin.keeps I.bk
theorem Inv.nolimit(I:Inv X a6G σ H s):s.heap.NoLimit:=I.ok.mod.nolimit.keeps I.bk
theorem Inv.fr(I:Inv X a6G σ H s):∃m,Fr X.base X.env.locals s.heap m:=
 let⟨m,a,_⟩:=I.loc
 ⟨m,a,I.bk,WM I.ok.bsz I.ok.above⟩
theorem Inv.lt(I:Inv X a6G σ H s):X.env.locals<s.heap.objs.size:=let⟨_,a,_⟩:=I.loc;a.lt
theorem Inv.sz(I:Inv X a6G σ H s):X.s₀.heap.objs.size<=s.heap.objs.size:=WM I.ok.above (Z3 I.lt)
theorem Inv.nofs(I:Inv X a6G σ H s){a:Addr}(h:s.heap.objs.size<=a):a∉X.fs:=λb=>by obtain⟨_,o,c,_⟩:=I.ok.funs.mem b;exact absurd (Wb (VR c) (WM I.sz h)) (Xp _)
theorem Inv.cne(I:Inv X a6G σ H s):∀x c,X.env.cells.lookup x=b4 c->c≠X.env.locals:=λx c e z=>by obtain⟨v,o,d,hd⟩:=I.cell x c e;obtain⟨m,⟨j,i,h,b,a,_⟩,_⟩:=I.loc;rw[z,b]at d;cases d;rw[a]at hd;cases hd
theorem Inv.funs(I:Inv X a6G σ H s):s.heap.FunFrames X.base X.outer:=by
 have all:∀(l:List a0k),(∀b∈dB l,b∈X.fs)->X.s₀.heap.FunFrames X.base l->s.heap.FunFrames X.base l:=by
  intro l;induction l with
  |nil=>intro _ _;trivial|cons i r u=>intro h m;obtain⟨j,⟨L,o,d,n,p,hd⟩,q⟩:=m;have a:L∈X.fs:=h L (by unfold dB;rw[X6,d];exact WS);obtain⟨v,e⟩:=I.base.slot L o p (I.ok.frf L a) a λz=>I.ok.exfs L z a;exact⟨j,⟨L,_,d,n,e,hd⟩,u (λb c=>h b (by unfold dB;rw[X6,d];exact Wn _ c)) q⟩
 exact all X.outer (λ_ c=>c) I.ok.funs
theorem Inv.stack(I:Inv X a6G σ H s):s.heap.FunFrames X.base X.stack:=by
 rcases I.ok.stk with e|⟨e,a⟩
 ·rw[e];exact I.funs
 ·rw[e];obtain⟨m,b,_⟩:=I.loc;refine .cons (by rw[I.ok.kind];decide) a b ?_ I.funs;exact ZP (WM I.ok.bsz I.ok.above)
theorem Inv.stkSub(I:Inv X a6G σ H s):∀b∈dB X.stack,b∈X.env.locals::X.fs:=λb a=>by
 rcases I.ok.stk with e|⟨e,c⟩
 ·rw[e]at a;exact Wn _ a
 ·rw[e]at a;unfold dB at a;rw[X6,c]at a;exact a
theorem Inv.stkFree(I:Inv X a6G σ H s):∀b∈dB X.stack,H b=none:=λb a=>by
 rcases Wr.mp (I.stkSub b a)with e|a
 ·rw[e];exact I.free
 ·obtain⟨_,o,c,_⟩:=I.ok.funs.mem a;exact I.base.free b o c (I.ok.frf b a) λz=>I.ok.exfs b z a
theorem Inv.step{g':Array a4K}{t':Nat}{d':Drawn}{ch:List Addr}(I:Inv X a6G σ H s)
  (j:∀b∈ch,(b∈X.ex\/X.s₀.heap.objs.size<=b)/\b≠X.env.locals/\(∀x c,X.env.cells.lookup x=b4 c->c≠b)/\∀p∈X.pn++a6G,p.1≠b)
  (w:∀b o,b≠X.env.locals->b∉X.fs->b∉ch->s.heap.get? b=b4 o->H b=b6->h'.get? b=b4 o)
  (slot:∀b o,b≠X.env.locals->b∈X.fs->b∉ch->s.heap.get? b=b4 o->H b=b6->∃Y,h'.get? b=b4 {o with slots:=Y})(free:∀b o,b∉ch->s.heap.get? b=b4 o->H b=b6->H' b=b6)
  (J:∀b o,b∉ch->s.heap.get? b=b4 o->∃Q,h'.get? b=b4 Q)
  (T:∀b E,H b=b4 (.tup E)->H' b=b4 (.tup E))(M:∀b o u,H b=b4 (.frz o u)->H' b=b4 (.frz o u))(R:∀b U,H b=b4 (.tbl U)->∃N,H' b=b4 (.tbl (U++N)))
  (ns:∀m,s.heap.Ns X.env.locals m->h'.Ns X.env.locals m)(hok:HOk X.prog X.w H' h')(hg:a0t g') :
  Inv X a6G σ H' {s with heap:=h',gens:=g',drawn:=d',toks:=t'}:=by
 have O:∀b o,X.s₀.heap.get? b=b4 o->b≠X.env.locals:=λb o e=>V4 (Wb (VR e) I.ok.above);have B:∀b o,X.s₀.heap.get? b=b4 o->b∉X.ex->b∉ch:=λb o e a G=>by
  rcases(j b G).1 with z|z
  ·exact a z
  ·exact absurd (Wb (VR e) z) (Xp _)
 have h:∀x c,X.env.cells.lookup x=b4 c->∀v,s.heap.IsCell c v->h'.IsCell c v:=λx c e v ⟨o,K,hd⟩=>by
  have y:c∉ch:=λz=>(j c z).2.2.1 x c e rfl;by_cases hc:c∈X.fs
  ·obtain⟨Y,q⟩:=slot c o (I.cne x c e) hc y K (I.freeC x c e);exact⟨_,q,hd⟩
  ·exact⟨o,w c o (I.cne x c e) hc y K (I.freeC x c e),hd⟩
 refine⟨I.ok,I.os,hg,⟨λb o e n G a=>?_,λb o e n G a=>?_,λb o e n a=>?_,λb o e a=>?_,λb E e=>T b E (I.base.tups b E e),λb o E e=>M b o E (I.base.frzs b o E e),λb U e=>?_⟩,?_,λx c e=>?_,?_,λx c e=>?_,λp hp=>?_,hok,I.len⟩
 ·exact w b o (O b o e) G (B b o e a) (I.base.keep b o e n G a) (I.base.free b o e n a)
 ·obtain⟨Y,A⟩:=I.base.slot b o e n G a;obtain⟨Z,L⟩:=slot b _ (O b o e) G (B b o e a) A (I.base.free b o e n a);exact⟨Z,L⟩
 ·obtain⟨Q,A⟩:=I.base.there b o e a;exact free b Q (B b o e a) A (I.base.free b o e n a)
 ·obtain⟨Q,A⟩:=I.base.there b o e a;exact J b Q (B b o e a) A
 ·obtain⟨m1,A⟩:=I.base.tbls b U e;obtain⟨m2,L⟩:=R b _ A;exact⟨m1++m2,by rw[L,a3y]⟩
 ·obtain⟨m,hn,hl⟩:=I.loc;refine⟨m,ns m hn,λi x v A L e3=>?_⟩;obtain⟨u,r,l⟩:=hl i x v A L e3;refine⟨u,r,?_⟩;rcases l with l|⟨k,c,e,z⟩
  ·exact .inl l
  ·exact .inr ⟨k,c,e,h x c e _ z⟩
 ·obtain⟨v,z⟩:=I.cell x c e;exact⟨v,h x c e v z⟩
 ·obtain⟨m,⟨o,_,_,K,_⟩,_⟩:=I.loc;exact free _ o (λz=>(j _ z).2.1 rfl) K I.free
 ·obtain⟨v,o,K,hd⟩:=I.cell x c e;exact free c o (λz=>(j c z).2.2.1 x c e rfl) K (I.freeC x c e)
 ·obtain⟨e,n,ne,nf,d⟩:=I.pin p hp;have y:p.1∉ch:=λz=>(j p.1 z).2.2.2 p hp rfl;exact⟨w p.1 p.2 ne nf y e n,free p.1 p.2 y e n,ne,nf,d⟩
theorem Inv.un{t':Nat}(I:Inv X a6G σ H s)(u:Un X.fs [] H H' s.heap h')(hok:HOk X.prog X.w H' h'):Inv X a6G σ H' {s with heap:=h',toks:=t'}:=by
 obtain⟨m,⟨o,v,q,i,r⟩,_⟩:=id I.loc;obtain⟨y,j⟩:=u.any i I.free (by simp);exact I.step (g':=s.gens) (d':=s.drawn) (ch:=[]) (λ_ z=>nomatch z) (λb o _ h _ e n=>u.keep b o e n h (by simp)) (λb o _ h _ e n=>u.slot b o e n h (by simp)) (λb o _ e n=>u.free b o e n (by simp)) (λb o _ e=>u.there b o e (by simp)) u.tups u.frzs u.tbls (λw l=>by
  obtain⟨x,d,c,a,p⟩:=l;rw[i]at a;cases a;exact⟨_,d,c,j,p⟩) hok I.bare
theorem Inv.call{g':Array a4K}{t':Nat}{d':Drawn}{ch:List Addr}(I:Inv X a6G σ H s)(u:Un (dB X.stack) ch H H' s.heap h')(hok:HOk X.prog X.w H' h')(v:a0t g')
  (a:∀b∈ch,(b∈X.ex\/X.s₀.heap.objs.size<=b)/\b≠X.env.locals/\(∀x c,X.env.cells.lookup x=b4 c->c≠b)/\∀p∈X.pn++a6G,p.1≠b) :
  Inv X a6G σ H' {s with heap:=h',gens:=g',drawn:=d',toks:=t'}:=by
 obtain⟨m,⟨o,B,A,l,r⟩,_⟩:=id I.loc;obtain⟨J,j⟩:=u.any l I.free λz=>(a _ z).2.1 rfl;exact I.step (ch:=ch) a (λb o j q hc e n=>u.keep b o e n (λz=>(Wr.mp (I.stkSub b z)).elim j q) hc) (λb o _ _ hc e n=>u.any e n hc) (λb o hc e n=>u.free b o e n hc) (λb o hc e=>u.there b o e hc) u.tups u.frzs u.tbls (λE w=>by
  obtain⟨G,i,h,d,y⟩:=w;rw[l]at d;cases d;exact⟨_,i,h,j,y⟩) hok v
theorem Inv.turned{t':Nat}{a:Addr}(I:Inv X a6G σ H s)(k:∀b o,b≠a->s.heap.get? b=b4 o->h'.get? b=b4 o)(B:H a=b6)(h:a≠X.env.locals)
  (h1:a∈X.ex\/X.s₀.heap.objs.size<=a)(l:∀x c,X.env.cells.lookup x=b4 c->c≠a)(w:∀p∈X.pn++a6G,p.1≠a):Inv X a6G σ H {s with heap:=h',toks:=t'}:=by
 have d:∀b u,H b=b4 u->b≠a:=λb u e z=>by rw[z,B]at e;cases e
 refine I.step (g':=s.gens) (d':=s.drawn) (ch:=[a]) (λb y=>?_) (λb o _ _ hc e _=>k b o (λz=>hc (by simp[z])) e) (λb o _ _ hc e _=>⟨o.slots,k b o (λz=>hc (by simp[z])) e⟩) (λ_ _ _ _ n=>n)
  (λb o hc e=>⟨o,k b o (λz=>hc (by simp[z])) e⟩) (λ_ _ e=>e) (λ_ _ _ e=>e) (λb G e=>⟨#[],by rw[e];simp⟩) (λm A=>?_) (λb u e=>?_) I.bare
 ·have e:b=a:=by simpa using y
  subst e;exact⟨h1,h,l,w⟩
 ·obtain⟨o,j,i,E,r⟩:=A;exact⟨o,j,i,k _ o (WG h) E,r⟩
 ·refine(I.hok b u e).stay (λc v hc q=>k c v ?_ q) (λ_ q=>q) λ_ _ q=>q;rcases hc with z|z
  ·rw[z];exact d b u e
  ·exact d c _ z
theorem Inv.tok(I:Inv X a6G σ H s)(t:Nat):Inv X a6G σ H {s with toks:=t}:=I.un (h':=s.heap) (t':=t) Un.refl I.hok
theorem Inv.kept{t':Nat}(I:Inv X a6G σ H s)(k:∀b u,s.heap.get? b=b4 u->h'.get? b=b4 u):Inv X a6G σ H {s with heap:=h',toks:=t'}:=I.un (Un.kept k) (I.hok.kept k)
theorem Inv.laid{a:Addr}{o:HO}{t':Nat}(I:Inv X a6G σ H s)(k:∀b u,s.heap.get? b=b4 u->h'.get? b=b4 u)(c:s.heap.objs.size<=a)(new:ObjOk X.prog X.w (aI H a o) h' a o) :
  Inv X a6G σ (aI H a o) {s with heap:=h',toks:=t'}:=I.un (Un.laid k c (I.hok.fresh c)) (I.hok.laid k c new)
theorem Inv.write{x e:Addr}{o:HO}{t':Nat}(I:Inv X a6G σ H s)(d:pL (H x))(c:e=x\/H e=b4 (.own x))(k:∀b u,b≠e->s.heap.get? b=b4 u->h'.get? b=b4 u)(a:∃u,h'.get? e=b4 u)
  (new:ObjOk X.prog X.w (aI H x o) h' x o):Inv X a6G σ (aI H x o) {s with heap:=h',toks:=t'}:=I.un (Un.write d c k a) (I.hok.write d c k a new)
theorem Inv.weak{a:List (Option V)}(I:Inv X a6G σ H s)(h:a.length=σ.length)(w:∀(i:Nat) v,a[i]?=b4 (b4 v)->σ[i]?=b4 (b4 v)):Inv X a6G a H s:=
 ⟨I.ok,I.os,I.bare,I.base,let⟨m,j,b⟩:=I.loc;⟨m,j,λi x v c d e=>b i x v c (w i v d) e⟩,I.cell,I.free,I.freeC,I.pin,I.hok,h.trans I.len⟩
theorem Inv.pins_of{a:List (Addr×Obj)}(I:Inv X a6G σ H s)(h:∀p∈a,s.heap.get? p.1=b4 p.2/\H p.1=b6/\p.1≠X.env.locals/\p.1∉X.fs/\∀v,p.2.data≠.cell v):Inv X a σ H s:=
 ⟨I.ok,I.os,I.bare,I.base,I.loc,I.cell,I.free,I.freeC,λp b=>(Xa.mp b).elim (λz=>I.pin p (a3i _ z)) (h p),I.hok,I.len⟩
theorem v8{N:List Str}(e:N.Nodup){i j:Nat}{x:Str}(a:N[i]?=b4 x)(b:N[j]?=b4 x):i=j:=by obtain⟨h,c⟩:=VN.mp a;obtain⟨l,d⟩:=VN.mp b;exact(a4w e).mp (c.trans d.symm)
theorem r9{M:a1R}{A:Wh}{E:Value->VL->Prop}{i:Nat}{x:Str}{v:V}{u:Value}{Q:Unit->VL->Prop}(I:Inv X a6G σ H s)(hN:X.N.Nodup)(hi:X.N[i]?=b4 x)(G:Loc X.env.scope x)(r:RelV v u)
  (h:∀s',Inv X a6G (σ.set i (b4 v)) H s'->(∃a,Zw a s.heap s'.heap/\(a=X.env.locals\/X.env.cells.lookup x=b4 a))->Q () s')(hf:X.fn x=b8\/X.env.scope.names.lookup x=b4 .local:=by first|exact .inl rfl|exact .inr rfl|assumption):V2 M A (storeName X.env x u) Q E s:=by
 obtain⟨m,hn,hl⟩:=id I.loc;have Z:(X.env.scope.kind==.class||(X.env.scope.kind==.module&&X.env.locals != X.env.globals))=false:=by rw[I.ok.kind];rfl
 have L:i<σ.length:=by rw[I.len];exact(VN.mp hi).1
 have cne:=I.cne;have B:∀{a:Addr}{h':WI},(∃o,s.heap.get? a=b4 o/\H a=b6)->Zw a s.heap h'->HOk X.prog X.w H h':=λ{a h'} ha l b ob e=>by
  obtain⟨_,_,J⟩:=ha;refine(I.hok b ob e).stay (λc w' hc q=>(l.2 c ?_).trans q) (λ_ q=>q) λ_ _ q=>q;rintro rfl;rcases hc with rfl|hc
  ·rw[J]at e;cases e
  ·rw[J]at hc;cases hc
 rcases G with N|N
 ·refine wpAny_storeName_local N hn (λh' hn' l=>?_) Z;obtain⟨oL,_,_,hoL,_⟩:=id hn;refine h _ ⟨I.ok,I.os,I.bare,⟨λb o e n O G=>?_,λb o e n O G=>?_,I.base.free,λb o e G=>?_,I.base.tups,I.base.frzs,I.base.tbls⟩,⟨_,hn',λj y v' w K e3=>?_⟩,λy c e=>?_,I.free,I.freeC,λp hp=>?_,B ⟨oL,hoL,I.free⟩ l,by simpa using I.len⟩ ⟨_,l,.inl rfl⟩
  ·exact(l.2 b (V4 (Wb (VR e) I.ok.above))).trans (I.base.keep b o e n O G)
  ·obtain⟨sl,w⟩:=I.base.slot b o e n O G;exact⟨sl,(l.2 b (V4 (Wb (VR e) I.ok.above))).trans w⟩
  ·obtain⟨o',w⟩:=I.base.there b o e G;exact⟨o',(l.2 b (V4 (Wb (VR e) I.ok.above))).trans w⟩
  ·by_cases T:j=i
   ·subst T;rw[hi]at w;cases w;rw[WA L]at K;cases K;exact⟨u,r,.inl ⟨N,by simp⟩⟩
   ·rw[Wl (WG T)]at K;obtain⟨u',r',q⟩:=hl j y v' w K e3;refine⟨u',r',?_⟩;rcases q with⟨k,e⟩|⟨k,c,e,z⟩
    ·refine .inl ⟨k,?_⟩;have:y≠x:=λe=>T (v8 hN w (e▸hi));simp[this,e]
    ·exact .inr ⟨k,c,e,z.sameBut l (cne y c e)⟩
  ·obtain⟨w',z⟩:=I.cell y c e;exact⟨w',z.sameBut l (cne y c e)⟩
  ·obtain⟨e,n,ne,nf,d⟩:=I.pin p hp;exact⟨(l.2 p.1 ne).trans e,n,ne,nf,d⟩
 ·have R:X.fn x=true:=by
   rcases hf with z|z
   ·exact z
   ·rw[z]at N;cases N
  obtain⟨c,hc⟩:=I.ok.has x (.inl N);obtain⟨w',z⟩:=I.cell x c hc;refine wpAny_storeName_cell I.ok.kind N hc z (λh' U l=>?_);obtain⟨oc,hoc,hocd⟩:=id z;refine h {s with heap:=h'} ⟨I.ok,I.os,I.bare,⟨λb o e n O G=>?_,λb o e n O G=>?_,I.base.free,λb o e G=>?_,I.base.tups,I.base.frzs,I.base.tbls⟩,⟨m,hn.sameBut l (WG (cne x c hc)),λj y v' w K e3=>?_⟩,λy c' e=>?_,I.free,I.freeC,λp hp=>?_,B ⟨oc,hoc,I.freeC x c hc⟩ l,by simpa using I.len⟩ ⟨c,l,.inr hc⟩
  ·exact(l.2 b (V4 (Wb (VR e) (I.ok.cab x c R hc)))).trans (I.base.keep b o e n O G)
  ·obtain⟨sl,w⟩:=I.base.slot b o e n O G;exact⟨sl,(l.2 b (V4 (Wb (VR e) (I.ok.cab x c R hc)))).trans w⟩
  ·obtain⟨o',w⟩:=I.base.there b o e G;exact⟨o',(l.2 b (V4 (Wb (VR e) (I.ok.cab x c R hc)))).trans w⟩
  ·by_cases T:j=i
   ·subst T;rw[hi]at w;cases w;rw[WA L]at K;cases K;exact⟨u,r,.inr ⟨.inl N,c,hc,U⟩⟩
   ·rw[Wl (WG T)]at K;obtain⟨u',r',q⟩:=hl j y v' w K e3;refine⟨u',r',?_⟩;rcases q with q|⟨k,c',e,z'⟩
    ·exact .inl q
    ·refine .inr ⟨k,c',e,z'.sameBut l ?_⟩;rintro rfl;exact T (v8 hN w (I.ok.inj _ _ _ e hc▸hi))
  ·by_cases Y:c'=c
   ·subst Y;exact⟨_,U⟩
   ·obtain⟨w2,z2⟩:=I.cell y c' e;exact⟨w2,z2.sameBut l Y⟩
  ·obtain⟨e,n,ne,nf,d⟩:=I.pin p hp;refine⟨(l.2 p.1 ?_).trans e,n,ne,nf,d⟩;intro q;rw[q,hoc]at e;have q':oc=p.2:=VY e;exact d w' (by rw[<- q'];exact hocd)
theorem Bp{M:a1R}{A:Wh}{E:Value->VL->Prop}{i:Nat}{x:Str}{v:V}{u:Value}{Q:Unit->VL->Prop}(I:Inv X a6G σ H s)(c:X.N.Nodup)(e:X.N[i]?=b4 x)(j:Loc X.env.scope x)(r:RelV v u)
  (h:∀a,Inv X a6G (σ.set i (b4 v)) H a->Q () a)(d:X.fn x=b8\/X.env.scope.names.lookup x=b4 .local:=by first|exact .inl rfl|exact .inr rfl|assumption):V2 M A (storeName X.env x u) Q E s:=
 r9 I c e j r (λa b _=>h a b) d
theorem Inv.call'{a:VL}{ch:List Addr}(I:Inv X a6G σ H s)(l:a.os=s.os)(u:Un (dB X.stack) ch H H' s.heap a.heap)(hok:HOk X.prog X.w H' a.heap)(j:a0t a.gens)
  (d:∀b∈ch,(b∈X.ex\/X.s₀.heap.objs.size<=b)/\b≠X.env.locals/\(∀x c,X.env.cells.lookup x=b4 c->c≠b)/\∀p∈X.pn++a6G,p.1≠b):Inv X a6G σ H' a:=by
 obtain⟨h',i,h,n,m⟩:=a;have e:m=s.os:=l;subst e;exact I.call (g':=i) (t':=n) (d':=h) u hok j d
end
noncomputable abbrev XK:=Value->Option Addr->Hp->Prop
noncomputable abbrev St:=List (Option V)
noncomputable abbrev VK:=V->Hp->Prop
noncomputable abbrev TE:=St->Hp->VK->Prop
noncomputable abbrev TT:=St->Hp->(Bool->Hp->Prop)->Prop
noncomputable abbrev TA:=St->Hp->(List V->Hp->Prop)->Prop
structure Ends where
 nx:St->Hp->Prop
 rt:VK
 bk:St->Hp->Prop:=λ_ _=>False
 ct:St->Hp->Prop:=λ_ _=>False
noncomputable abbrev TS:=Ends->St->Hp->Prop
inductive EP (X:Cx)(a6G:List (Addr×Obj))(σ:St)(Q:VK)(u:Value)(s':VL):Prop
 |mk (v:V)(H':Hp)(I:Inv X a6G σ H' s')(r:RelV v u)(q:Q v H'):EP X a6G σ Q u s'
inductive TP (X:Cx)(a6G:List (Addr×Obj))(σ:St)(Q:Bool->Hp->Prop)(b:Bool)(s':VL):Prop
 |mk (H':Hp)(I:Inv X a6G σ H' s')(q:Q b H'):TP X a6G σ Q b s'
inductive AP (X:Cx)(a6G:List (Addr×Obj))(σ:St)(Q:List V->Hp->Prop)(us:List Value)(s':VL):Prop
 |mk (vs:List V)(H':Hp)(I:Inv X a6G σ H' s')(r:Vals vs us)(q:Q vs H'):AP X a6G σ Q us s'
inductive SPn (X:Cx)(a6G:List (Addr×Obj))(Q:St->Hp->Prop)(s':VL):Prop
 |mk (σ':St)(H':Hp)(I:Inv X a6G σ' H' s')(q:Q σ' H'):SPn X a6G Q s'
inductive SPr (X:Cx)(a6G:List (Addr×Obj))(Q:VK)(u:Value)(s':VL):Prop
 |mk (v:V)(σ':St)(H':Hp)(I:Inv X a6G σ' H' s')(r:RelV v u)(q:Q v H'):SPr X a6G Q u s'
noncomputable def SP(X:Cx)(a6G:List (Addr×Obj))(D:Ends)(f:Flow)(a:VL):Prop:=
 match f with
 |.next=>SPn X a6G D.nx a|.brk=>SPn X a6G D.bk a|.cont=>SPn X a6G D.ct a|.ret u=>SPr X a6G D.rt u a
noncomputable def PE(X:Cx)(e:Expr)(t:TE):Prop:=
 ∀(a6G:List (Addr×Obj))(s:VL)(σ:St)(H:Hp)(Q:VK),Inv X a6G σ H s->t σ H Q->V2 (V8 X.prog X.w) X.A (eval e X.env) (EP X a6G σ Q) X.xe s
noncomputable def PT(X:Cx)(e:Expr)(t:TT):Prop:=
 ∀(a6G:List (Addr×Obj))(s:VL)(σ:St)(H:Hp)(Q:Bool->Hp->Prop),Inv X a6G σ H s->t σ H Q->V2 (V8 X.prog X.w) X.A (a3U e X.env (eval e X.env)) (TP X a6G σ Q) X.xe s
noncomputable def PW(X:Cx)(e:Expr)(t:TT):Prop:=
 ∀(a:a5I Value)(a6G:List (Addr×Obj))(s:VL)(σ:St)(H:Hp)(Q:Bool->Hp->Prop),Inv X a6G σ H s->t σ H Q->V2 (V8 X.prog X.w) X.A (a3U e X.env a) (TP X a6G σ Q) X.xe s
theorem PW.pt{X:Cx}{e:Expr}{t:TT}(h:PW X e t):PT X e t:=h _
noncomputable def PA(X:Cx)(es:List Expr)(t:TA):Prop:=
 ∀(pos:Xq)(a6G:List (Addr×Obj))(s:VL)(σ:St)(H:Hp)(Q:List V->Hp->Prop),Inv X a6G σ H s->t σ H Q->V2 (V8 X.prog X.w) X.A (spliced (Yy pos (Wt es X.env))) (AP X a6G σ Q) X.xe s
noncomputable def PS(X:Cx)(st:Stmt)(t:TS):Prop:=
 ∀(a6G:List (Addr×Obj))(s:VL)(σ:St)(H:Hp)(D:Ends),Inv X a6G σ H s->t D σ H->V2 (V8 X.prog X.w) X.A (exec st X.env) (SP X a6G D) X.xe s
noncomputable def PSs(X:Cx)(st:List Stmt)(t:TS):Prop:=
 ∀(a6G:List (Addr×Obj))(s:VL)(σ:St)(H:Hp)(D:Ends),Inv X a6G σ H s->t D σ H->V2 (V8 X.prog X.w) X.A (execs st X.env) (SP X a6G D) X.xe s
theorem aM{c:Type}{t:a5I c}{Q b:c->VL->Prop}{M:a1R}{A:Wh}{E:Value->VL->Prop}{s:VL}(h:V2 M A t Q E s)(d:∀a s,Q a s->b a s):V2 M A t b E s:=WB h d λ_ _ x=>x
end L2
namespace L2
open PySem PySem.Spec PyProof.Rows
section
variable{X:Cx}
noncomputable def mZ(i:Nat):TE:=λσ H Q=>∃v,σ[i]?=b4 (b4 v)/\Q v H
noncomputable def tC(v:V):TE:=λ_ H Q=>Q v H
theorem pM{i:Nat}{x:Str}{pos:Xq}(n:X.N[i]?=b4 x)(w:lO X.env.scope x)(hd:(x==("__debug__":Str))=false:=by decide) (j:(x==("__classdict__":Str))=false:=by decide):PE X (.Name x pos) (mZ i):=by
 intro d s y H Q I h;obtain⟨v,e,h⟩:=h;obtain⟨m,q,o⟩:=I.loc;obtain⟨u,r,l⟩:=o i x v n e w;have fin:EP X d y Q u s:=⟨v,H,I,r,h⟩;rcases l with⟨b,p⟩|⟨b,c,hc,a⟩
 ·exact a4T (wpAny_loadName_local I.ok.kind b q p fin) hd
 ·rcases b with b|b
  ·exact a4T (wpAny_loadName_cell I.ok.kind b hc a fin) hd
  ·exact a4T (wpAny_loadName_free I.ok.kind b hc a fin j) hd
theorem Hq{i j pos}:PE X (.Constant (.int i) j pos) (tC (.int i)):=λ_ _ _ H _ I h=>wpAny_Constant_int ⟨.int i,H,I.tok _,⟨_,rfl⟩,h⟩
theorem Hr{b j pos}:PE X (.Constant (.bool b) j pos) (tC (.bl b)):=λ_ _ _ H _ I h=>Constant_bool ⟨.bl b,H,I,rfl,h⟩
theorem Hs{j pos}:PE X (.Constant .none j pos) (tC .non):=λ_ _ _ H _ I h=>Constant_none ⟨.non,H,I,rfl,h⟩
theorem Bq{x j pos}:PE X (.Constant (.str x) j pos) (tC (.str x)):=λ_ _ _ H _ I h=>Calls.Constant_str ⟨.str x,H,I.tok _,⟨_,rfl⟩,h⟩
noncomputable def Gl(X:Cx)(x:Str):Prop:=X.env.kindOf x=b4 .globalImplicit
theorem lP{E:Value->VL->Prop}{a6G:List (Addr×Obj)}{s:VL}{σ:St}{H:Hp}{x:Str}{u:Value}{pos:Xq}{Q:Value->VL->Prop}(I:Inv X a6G σ H s)(a:Gl X x)(b:X.mg x=b4 u)(h:Q u s)
  (hd:(x==("__debug__":Str))=false:=by decide):V2 (V8 X.prog X.w) X.A (eval (.Name x pos) X.env) Q E s:=
 a1T I.ok.kind a (Calls.loadGlobal_global (by rw[I.ok.glob];exact I.mod.glob.keeps I.bk) b h) hd
theorem i7{E:Value->VL->Prop}{a6G:List (Addr×Obj)}{s:VL}{σ:St}{H:Hp}{x:Str}{u:Value}{pos:Xq}{Q:Value->VL->Prop}(I:Inv X a6G σ H s)(c:Gl X x)(d:X.mg x=b6)(i:XB x=b4 u)(h:Q u s)
  (e:x ≠ "__name__":=by decide) (hd:(x==("__debug__":Str))=false:=by decide):V2 (V8 X.prog X.w) X.A (eval (.Name x pos) X.env) Q E s:=by
 obtain⟨j,a,b⟩:=I.mod.blt;exact a1T I.ok.kind c (Calls.loadGlobal_builtin (by rw[I.ok.glob];exact I.mod.glob.keeps I.bk) d (by rw[I.ok.blt];exact a.keeps I.bk) ((b x e).trans i) h) hd
theorem Ht{x:Str}{v:V}{u:Value}{pos:Xq}(a:Gl X x)(b:X.mg x=b4 u)(r:RelV v u)(hd:(x==("__debug__":Str))=false:=by decide):PE X (.Name x pos) (tC v):=
 λ_ _ _ H _ I h=>lP I a b ⟨v,H,I,r,h⟩ hd
theorem Hu{x:Str}{v:V}{u:Value}{pos:Xq}(a:Gl X x)(b:X.mg x=b6)(d:XB x=b4 u)(r:RelV v u)(c:x ≠ "__name__":=by decide) (hd:(x==("__debug__":Str))=false:=by decide):PE X (.Name x pos) (tC v):=
 λ_ _ _ H _ I h=>i7 I a b d ⟨v,H,I,r,h⟩ c hd
variable{a b:Expr}{ta tb:TE}{pos:Xq}
variable{tA tB':TT}{rest:List Expr}
noncomputable def Hv(t u:TT):TT:=λσ H Q=>t σ H λc d=>if c=b8 then u σ d Q else Q b7 d
noncomputable def Hw(t u:TT):TT:=λσ H Q=>t σ H λc d=>if c=b8 then Q b8 d else u σ d Q
noncomputable def Hx(t:TT):TT:=λσ H Q=>t σ H λc d=>Q (!c) d
theorem Hy(i:PT X a tA):PW X (.BoolOp .And [a] pos) tA:=by
 intro m d s j H Q I h;refine isTrue_and (aM (i d s j H Q I h) λc l e=>?_);cases c with
 |true=>exact isTrue_and_nil e|false=>exact e
theorem Hz(i:PT X a tA):PW X (.BoolOp .Or [a] pos) tA:=by
 intro m d s j H Q I h;refine isTrue_or (aM (i d s j H Q I h) λc l e=>?_);cases c with
 |false=>exact isTrue_or_nil e|true=>exact e
theorem HA(m:PT X a tA)(n:PW X (.BoolOp .And (b::rest) pos) tB'):PW X (.BoolOp .And (a::b::rest) pos) (Hv tA tB'):=by
 intro p d s l H Q I h;refine isTrue_and (aM (m d s l H _ I h) λc o ⟨e,i,j⟩=>?_);cases c with
 |true=>exact n p d o l e Q i j|false=>exact⟨e,i,j⟩
theorem HB(m:PT X a tA)(n:PW X (.BoolOp .Or (b::rest) pos) tB'):PW X (.BoolOp .Or (a::b::rest) pos) (Hw tA tB'):=by
 intro p d s l H Q I h;refine isTrue_or (aM (m d s l H _ I h) λc o ⟨e,i,j⟩=>?_);cases c with
 |true=>exact⟨e,i,j⟩|false=>exact n p d o l e Q i j
theorem HC(j:PT X a tA):PT X (.UnaryOp .Not a pos) (Hx tA):=by intro d s l H Q I h;exact isTrue_not (aM (j d s l H (λc i=>Q (!c) i) I h) λ_ _ ⟨e,J,q⟩=>⟨e,J,q⟩)
noncomputable def HD(ta tb:TE):TE:=λσ H Q=>ta σ H λx d=>∃c,x=.bl c/\if c=b8 then tb σ d Q else Q (.bl b7) d
noncomputable def HE(ta tb:TE):TE:=λσ H Q=>ta σ H λx d=>∃c,x=.bl c/\if c=b8 then Q (.bl b8) d else tb σ d Q
noncomputable def HF(ta:TE):TE:=λσ H Q=>ta σ H λx d=>∃c,x=.bl c/\Q (.bl (!c)) d
theorem HG{op} {t:TE}(h:PE X a t):PE X (.BoolOp op [a] pos) t:=λa6G s σ H Q I hw=>BoolOp_one (h a6G s σ H Q I hw)
theorem HH(m:PE X a ta)(n:PE X (.BoolOp .And (b::rest) pos) tb):PE X (.BoolOp .And (a::b::rest) pos) (HD ta tb):=by
 intro d s l H Q I h;refine BoolOp_and (aM (m d s l H _ I h) λv p ⟨x,i,j,o,e⟩=>?_);obtain⟨c,rfl,e⟩:=e;cases o;refine Xl ?_;cases c with
 |true=>exact n d p l i Q j e|false=>exact⟨.bl b7,i,j,rfl,e⟩
theorem HI(m:PE X a ta)(n:PE X (.BoolOp .Or (b::rest) pos) tb):PE X (.BoolOp .Or (a::b::rest) pos) (HE ta tb):=by
 intro d s l H Q I h;refine BoolOp_or (aM (m d s l H _ I h) λv p ⟨x,i,j,o,e⟩=>?_);obtain⟨c,rfl,e⟩:=e;cases o;refine Xl ?_;cases c with
 |false=>exact n d p l i Q j e|true=>exact⟨.bl b8,i,j,rfl,e⟩
theorem HJ(l:PE X a ta):PE X (.UnaryOp .Not a pos) (HF ta):=by intro d s n H Q I h;refine UnaryOp_ (aM (l d s n H _ I h) λv o ⟨x,i,j,m,e⟩=>?_);obtain⟨c,rfl,e⟩:=e;cases m;exact not_of (Xl ⟨.bl (!c),i,j,rfl,e⟩)
noncomputable def HK(t:TT)(ta tb:TE):TE:=λσ H Q=>t σ H λc d=>if c=b8 then ta σ d Q else tb σ d Q
theorem HL{c:Expr}(hc:PT X c tA)(o:PE X a ta)(p:PE X b tb):PE X (.IfExp c a b pos) (HK tA ta tb):=by
 intro e s i H Q I h;refine wpAny_IfExp (aM (hc e s i H _ I h) λd n ⟨j,l,m⟩=>?_);cases d with
 |true=>exact o e n i j Q l m|false=>exact p e n i j Q l m
end
end L2
namespace L2
open PySem PySem.Spec PyProof.Rows
noncomputable def SqL(K:VG)(H:Hp)(a:Addr)(xs:List V):Prop:=
 Rd H a (.lst xs) \/
  ∃(o:Obj)(b:Array Value)(n:Nat),K.lookup a=b4 o/\o.cls=.type "list"/\o.dict=b6/\o.data=.seq b n/\b.size<=VW/\Vals xs b.toList
noncomputable def SqT(K:VG)(H:Hp)(a:Addr)(xs:List V):Prop:=
 Rd H a (.tup xs) \/
  ∃(o:Obj)(b:Array Value)(n:Nat),K.lookup a=b4 o/\o.cls=.type "tuple"/\o.dict=b6/\o.data=.seq b n/\b.size<=VW/\Vals xs b.toList
noncomputable def HM:Value->Option V
 |.none=>b4 .non|.bool b=>b4 (.bl b)|.int i _=>b4 (.int i)|.str x _=>b4 (.str x)|.bytes b _=>b4 (.byt b)|.float b _=>b4 (.flt b)|.ref a=>b4 (.ref a)|.type n=>b4 (.ty n)|_=>b6
theorem RelV.abs{x:V}{u:Value}(r:RelV x u):HM u=b4 x:=by
 cases x with
 |non=>cases r;rfl|bl _=>cases r;rfl|int _=>obtain⟨t,rfl⟩:=r;rfl|str _=>obtain⟨t,rfl⟩:=r;rfl|byt _=>obtain⟨t,rfl⟩:=r;rfl|flt _=>obtain⟨t,rfl⟩:=r;rfl|ref _=>cases r;rfl|ty _=>cases r;rfl
theorem RelV.inj{x y:V}{u:Value}(r:RelV x u)(q:RelV y u):x=y:=VY (r.abs.symm.trans q.abs)
theorem Vals.inj:∀{xs a:List V}{us:List Value},Vals xs us->Vals a us->xs=a
 |_,_,_,.nil,.nil=>rfl|_,_,_,.cons r t,.cons r' t'=>by rw[r.inj r',Vals.inj t t']
section
variable{X:Cx}{a6G:List (Addr×Obj)}{σ:St}{H:Hp}{s:VL}{a:Addr}{xs ys:List V}
theorem SqL.of{K:VG}(h:H a=b4 (.lst xs)):SqL K H a xs:=.inl (.inl h)
theorem SqT.of{K:VG}(h:H a=b4 (.tup xs)):SqT K H a xs:=.inl (.inl h)
theorem Inv.list(I:Inv X a6G σ H s)(h:SqL X.K H a xs):∃b:List Value,Vals xs b/\PlainL s.heap a b.toArray/\xs.length<=VW:=by
 rcases h with h|⟨o,b,n,c,hc,hd,d,i,r⟩
 ·obtain⟨z,b,n,r,e⟩:=h.ok I.hok;exact⟨b,r,⟨_,n,e,rfl,rfl,rfl⟩,z⟩
 ·refine⟨b.toList,r,⟨o,n,I.kIn a o c,hc,hd,by simpa using d⟩,?_⟩;have e:=r.length;simp only[Y1]at e;omega
theorem Inv.tuple(I:Inv X a6G σ H s)(h:SqT X.K H a xs):∃b:List Value,Vals xs b/\a5A s.heap a b.toArray/\xs.length<=VW:=by
 rcases h with h|⟨o,b,n,c,hc,hd,d,i,r⟩
 ·obtain⟨z,b,r,p⟩:=h.ok I.hok;exact⟨b,r,p.tup,z⟩
 ·refine⟨b.toList,r,⟨o,I.kIn a o c,hc,n,by simpa using d⟩,?_⟩;have e:=r.length;simp only[Y1]at e;omega
theorem Inv.tupN(I:Inv X a6G σ H s)(h:SqT X.K H a xs):∃b:List Value,Vals xs b/\TupN s.heap a b.toArray:=by
 rcases h with h|⟨o,b,n,c,hc,hd,d,e,r⟩
 ·obtain⟨z,b,r,p⟩:=h.ok I.hok;exact⟨b,r,p⟩
 ·exact⟨b.toList,r,o,I.kIn a o c,hc,n,by simpa using d,hd⟩
theorem Inv.list_inj(I:Inv X a6G σ H s)(h:SqL X.K H a xs)(h':SqL X.K H a ys):xs=ys:=by
 obtain⟨c,r,⟨o,n,e,_,_,d⟩,_⟩:=I.list h;obtain⟨b,l,⟨p,m,j,_,_,i⟩,_⟩:=I.list h';rw[e]at j;cases j;rw[d]at i;injection i with d1 _;have:c=b:=by simpa using congrArg a5g d1
 subst this;exact r.inj l
theorem Inv.tuple_inj(I:Inv X a6G σ H s)(h:SqT X.K H a xs)(h':SqT X.K H a ys):xs=ys:=by
 obtain⟨c,r,⟨o,e,_,n,d⟩,_⟩:=I.tuple h;obtain⟨b,l,⟨p,j,_,m,i⟩,_⟩:=I.tuple h';rw[e]at j;cases j;rw[d]at i;injection i with d1 _;have:c=b:=by simpa using congrArg a5g d1
 subst this;exact r.inj l
end
noncomputable abbrev Cx.wish(X:Cx)(E:Value->VL->Prop):Cx:={X with xe:=E}
noncomputable abbrev Cx.nox(X:Cx):Cx:=X.wish λ_ _=>False
theorem Cx.Ok.wish{X:Cx}(ok:X.Ok)(E:Value->VL->Prop):(X.wish E).Ok:=
 ⟨ok.mod,ok.kind,ok.glob,ok.blt,ok.above,ok.inj,ok.has,ok.cab,ok.hd,ok.frames,ok.stk,ok.exf,ok.bs,ok.bsz,ok.noex,ok.exfs,ok.funs,ok.frf⟩
theorem Cx.Ok.unwish{X:Cx}{E:Value->VL->Prop}(ok:(X.wish E).Ok):X.Ok:=
 ⟨ok.mod,ok.kind,ok.glob,ok.blt,ok.above,ok.inj,ok.has,ok.cab,ok.hd,ok.frames,ok.stk,ok.exf,ok.bs,ok.bsz,ok.noex,ok.exfs,ok.funs,ok.frf⟩
section
variable{X:Cx}{a6G:List (Addr×Obj)}{σ:St}{H:Hp}{s:VL}{E:Value->VL->Prop}
theorem Inv.wish(I:Inv X a6G σ H s)(E:Value->VL->Prop):Inv (X.wish E) a6G σ H s:=⟨I.ok.wish E,I.os,I.bare,I.base,I.loc,I.cell,I.free,I.freeC,I.pin,I.hok,I.len⟩
theorem Inv.unwish(I:Inv (X.wish E) a6G σ H s):Inv X a6G σ H s:=⟨I.ok.unwish,I.os,I.bare,I.base,I.loc,I.cell,I.free,I.freeC,I.pin,I.hok,I.len⟩
theorem SP.unwish{D:Ends}{f:Flow}{c:VL}(h:SP (X.wish E) a6G D f c):SP X a6G D f c:=by
 cases f with
 |next=>obtain⟨a,b,I,q⟩:=h;exact⟨a,b,I.unwish,q⟩|brk=>obtain⟨a,b,I,q⟩:=h;exact⟨a,b,I.unwish,q⟩|cont=>obtain⟨a,b,I,q⟩:=h;exact⟨a,b,I.unwish,q⟩|ret u=>obtain⟨v,a,b,I,r,q⟩:=h;exact⟨v,a,b,I.unwish,r,q⟩
theorem PE.nox{e:Expr}{t:TE}(h:PE X.nox e t):PE X e t:=λa6G s σ H Q I hw=>WB (h a6G s σ H Q (I.wish _) hw) (λ_ _ ⟨v,a,b,r,q⟩=>⟨v,a,b.unwish,r,q⟩) λ_ _ z=>WR z
theorem PT.nox{e:Expr}{t:TT}(h:PT X.nox e t):PT X e t:=λa6G s σ H Q I hw=>WB (h a6G s σ H Q (I.wish _) hw) (λ_ _ ⟨a,b,q⟩=>⟨a,b.unwish,q⟩) λ_ _ z=>WR z
theorem PSs.nox{st:List Stmt}{t:TS}(h:PSs X.nox st t):PSs X st t:=λa6G s σ H D I hw=>WB (h a6G s σ H D (I.wish _) hw) (λ_ _ q=>q.unwish) λ_ _ z=>WR z
end
section
variable{X:Cx}{st:Stmt}{rest:List Stmt}{t u:TS}{e:Expr}{te:TE}{pos:Xq}
noncomputable def Br:TS:=λD σ H=>D.nx σ H
noncomputable def HN(t u:TS):TS:=λD σ H=>t {D with nx:=u D} σ H
theorem HP:PSs X [] Br:=λ_ _ σ H _ I h=>Zt ⟨σ,H,I,h⟩
theorem HQ(h1:PS X st t)(i:PSs X rest u):PSs X (st::rest) (HN t u):=by
 intro a s l H D I h;refine ZV (aM (h1 a s l H {D with nx:=u D} I h) λf j q=>?_);cases f with
 |next=>obtain⟨b,c,d,q⟩:=q;exact i a j b c D d q|ret v=>exact q|brk=>exact q|cont=>exact q
theorem HR(h1:PS X st t):PSs X [st] t:=by
 intro a s b H D I h;refine ZV (aM (h1 a s b H D I h) λf c q=>?_);cases f with
 |next=>exact Zt q|ret v=>exact q|brk=>exact q|cont=>exact q
theorem HS:PS X (.Pass pos) Br:=λ_ _ σ H _ I h=>wpAny_Pass ⟨σ,H,I,h⟩
theorem Inv.quiet{a6G:List (Addr×Obj)}{σ:St}{H:Hp}{s:VL}(I:Inv X a6G σ H s):interactive X.env=false:=by simp[interactive,I.ok.kind]
noncomputable def HU(te:TE):TS:=λD σ H=>te σ H λ_ a=>D.nx σ a
theorem HV(i:PE X e te)(j:ZW e b6 pos.line X.env=pure false:=by rfl):PS X (.Expr e pos) (HU te):=by intro a s b H D I h;exact a2O (aM (i a s b H _ I h) λv n ⟨x,c,d,m,l⟩=>⟨b,c,d,l⟩) I.quiet j
noncomputable def HW(te:TE):TS:=λD σ H=>te σ H D.rt
theorem HX(i:PE X e te):PS X (.Return (b4 e) pos) (HW te):=by intro a s b H D I h;exact a5k (aM (i a s b H _ I h) λv m ⟨x,c,d,l,j⟩=>⟨x,b,c,d,l,j⟩)
noncomputable def HY:TS:=λD _ H=>D.rt .non H
theorem HZ:PS X (.Return b6 pos) HY:=λ_ _ σ H _ I h=>wpAny_Return_none ⟨.non,σ,H,I,rfl,h⟩
noncomputable def Ia(c:TT)(t u:TS):TS:=λD σ H=>c σ H λb a=>if b=b8 then t D σ a else u D σ a
theorem Ib{c:Expr}{a b:List Stmt}{p:TT}(hc:PT X c p)(q:PSs X a t)(r:PSs X b u):PS X (.If c a b pos) (Ia p t u):=by
 intro i s j H D I h;refine wpAny_If (aM (hc i s j H _ I h) λd o ⟨l,m,n⟩=>?_);cases d with
 |true=>exact q i o j l D m n|false=>exact r i o j l D m n
end
noncomputable abbrev TG:=V->St->Hp->(St->Hp->Prop)->Prop
noncomputable abbrev m3:=List V->St->Hp->(St->Hp->Prop)->Prop
noncomputable def PG(X:Cx)(a:Expr)(t:TG):Prop:=
 ∀(a6G:List (Addr×Obj))(s:VL)(σ:St)(H:Hp)(v:V)(u:Value)(Q:St->Hp->Prop),Inv X a6G σ H s->RelV v u->t v σ H Q->
  V2 (V8 X.prog X.w) X.A (a1y a X.env u) (λ_ b=>SPn X a6G Q b) X.xe s
noncomputable def pN(X:Cx)(ts:List Expr)(t:m3):Prop:=
 ∀(a6G:List (Addr×Obj))(s:VL)(σ:St)(H:Hp)(vs:List V)(us:List Value)(Q:St->Hp->Prop),Inv X a6G σ H s->Vals vs us->t vs σ H Q->
  V2 (V8 X.prog X.w) X.A (assignInOrder ((X8 ts X.env).map (·.2)) us) (λ_ a=>SPn X a6G Q a) X.xe s
noncomputable abbrev Bs:=V->V->V->Hp->(Hp->Prop)->Prop
noncomputable def Ic(X:Cx)(t:Bs):Prop:=
 ∀(a6G:List (Addr×Obj))(s:VL)(σ:St)(H:Hp)(o i v:V)(c b u:Value)(Q:Hp->Prop),Inv X a6G σ H s->RelV o c->RelV i b->RelV v u->t o i v H Q->
  V2 (V8 X.prog X.w) X.A (setItem c b u) (λ_ d=>∃a,Inv X a6G σ a d/\Q a) X.xe s
section
variable{X:Cx}{pos:Xq}
noncomputable def v9(i:Nat):TG:=λv σ H Q=>Q (σ.set i (b4 v)) H
theorem Bt{i:Nat}{x:Str}(c:X.N.Nodup)(e:X.N[i]?=b4 x)(j:Loc X.env.scope x)(d:X.fn x=b8\/X.env.scope.names.lookup x=b4 .local:=by first|exact .inl rfl|exact .inr rfl|assumption):PG X (.Name x pos) (v9 i):=by intro b s m H v u Q I r h;exact a5j (Bp I c e j r (λl a=>⟨_,H,a,h⟩) d)
noncomputable def Bu:m3:=λvs σ H Q=>vs=[]/\Q σ H
noncomputable def Bv(t:TG)(u:m3):m3:=λvs σ H Q=>∃v r,vs=v::r/\t v σ H λa H'=>u r a H' Q
theorem Ie:pN X [] Bu:=by intro a s b H d c Q I r h;obtain⟨e,h⟩:=h;subst e;cases r;exact assignInOrder_nil ⟨b,H,I,h⟩
theorem Ig{e:Expr}{es:List Expr}{t:TG}{u:m3}(h1:PG X e t)(j:pN X es u)
  (l:(X8 (e::es) X.env).map (·.2)=a1y e X.env::(X8 es X.env).map (·.2):=by rfl):pN X (e::es) (Bv t u):=by
 intro a s p H x q Q I r h;obtain⟨v,w,i,h⟩:=h;subst i;cases r with
 |cons r n=>rw[l];refine assignInOrder_cons (aM (h1 a s p H _ _ _ I r h) λ_ o ⟨b,c,d,m⟩=>?_);exact j a o b c _ _ Q d n m
noncomputable def Bw(b:TE)(g:TG):TS:=λD σ H=>b σ H λx a=>g x σ a D.nx
theorem Ih{tg e:Expr}{b:TE}{g:TG}(j:PE X e b)(l:PG X tg g)(m:swapsWithSole [tg] e pos.line X.env=pure false:=by rfl)(hw:a3q [tg] e X.env=pure none:=by rfl)
  (h1:(X8 [tg] X.env).map (·.2)=[a1y tg X.env]:=by rfl):PS X (.Assign [tg] e pos) (Bw b g):=by
 intro a s c H D I h;refine wpAny_Assign_stores (aM (j a s c H _ I h) λv p ⟨x,d,i,o,n⟩=>?_) m hw;rw[h1];exact aM (l a p c d x v _ i o n) λ_ r q=>q
theorem Ii{i:Nat}{x:Str}{e:Expr}{c:TE}{a:Xq}(m:X.N.Nodup)(p:X.N[i]?=b4 x)(r:Loc X.env.scope x)(n:PE X e c)(q:ZW e (b4 (.Name x a)) pos.line X.env=pure false:=by rfl)(o:X.fn x=b8\/X.env.scope.names.lookup x=b4 .local:=by first|exact .inl rfl|exact .inr rfl|assumption) :
  PS X (.Assign [.Name x a] e pos) (Bw c (v9 i)):=by
 intro b s z H D I h;refine a5l (aM (n b s z H _ I h) λv A ⟨y,d,j,w,u⟩=>?_) q;exact Bp j m p r w (λB l=>⟨_,d,l,u⟩) o
end
section
variable{X:Cx}{pos:Xq}
noncomputable def Ij(c:TT)(i:TS):TS:=λD σ H=>∃W:Nat->St->Hp->Prop,(∃m,W m σ H)/\∀m σ H,W m σ H->
 c σ H λb e=>if b=b8 then ∃N:St->Hp->Prop,(∀a d,N a d->∃h,h<m/\W h a d)/\i {D with nx:=N,ct:=N,bk:=D.nx} σ e else D.nx σ e
theorem Ik{c:Expr}{body:List Stmt}{G:TT}{E:TS}(B:a2n (V8 X.prog X.w) X.A X.env X.xe)(hc:PT X c G)(K:PSs X body E):PS X (.While c body [] pos) (Ij G E):=by
 intro e s U H D I h;obtain⟨W,⟨L,R⟩,turn⟩:=h;refine wpAny_While (codeAny_whileLoop (λn M=>∃j w,Inv X e j w M/\W n j w) ?_ L ⟨U,H,I,R⟩);rintro n O ⟨d,x,J,T⟩;refine YR B (aM (hc e O d x _ J (turn n d x T)) λb Q ⟨y,z,l⟩=>?_);cases b with
 |true=>
  obtain⟨N,A,l⟩:=l;rw[if_pos rfl];refine YR B (aM (K e Q d y _ z l) λf Y m=>?_);cases f with
  |next=>obtain⟨a,i,o,r⟩:=m;obtain⟨q,p,u⟩:=A a i r;exact⟨q,p,a,i,o,u⟩|cont=>obtain⟨a,i,o,r⟩:=m;obtain⟨q,p,u⟩:=A a i r;exact⟨q,p,a,i,o,u⟩|brk=>exact m|ret v=>exact m
 |false=>rw[if_neg VZ];exact Zt ⟨d,y,z,l⟩
end
structure It where
 go:Nat->Hp->Prop
 yld:Nat->Hp->V->Hp->Prop
 stop:Nat->Hp->Prop
noncomputable def gG(X:Cx)(a6G:List (Addr×Obj))(H:Hp)(b:Addr):Prop:=
 H b=b6/\b≠X.env.locals/\b∉X.fs/\(b∈X.ex\/X.s₀.heap.objs.size<=b)/\(∀x c,X.env.cells.lookup x=b4 c->c≠b)/\∀p∈X.pn++a6G,p.1≠b
theorem Inv.fpOk{X:Cx}{a6G:List (Addr×Obj)}{σ:St}{H H':Hp}{s:VL}{b:Addr}(I:Inv X a6G σ H s)(a:s.heap.objs.size<=b)(d:H' b=b6):gG X a6G H' b:=by
 refine⟨d,Xr (Wb I.lt a),I.nofs a,.inr (WM I.sz a),λx c e z=>?_,λp h z=>?_⟩
 ·obtain⟨v,q⟩:=I.cell x c e;exact absurd (Wb q.lt (by rw[z];exact a)) (Xp _)
 ·exact absurd (Wb (VR (I.pin p h).1) (by rw[z];exact a)) (Xp _)
noncomputable abbrev Qc(X:Cx):Prop:=X.calm=b8
structure Turn(q:Cx->Prop)(P:V6)(w:Wj)(K:VG)(tg:Expr)(J:It)(fp:List Addr)(it:Addr)(tn:Nat->WI->Prop):Prop where
 mem:it∈fp
 obj:∀i h,tn i h->∀b∈fp,∃o,h.get? b=b4 o/\∀v,o.data≠.cell v
 keep:∀i h h',tn i h->(∀b∈fp,∀o,h.get? b=b4 o->h'.get? b=b4 o)->tn i h'
 item:∀(X:Cx),X.prog=P->X.w=w->X.K=K->q X->∀(i:Nat)(a6G:List (Addr×Obj))(s:VL)(σ:St)(H:Hp)(E:Value->VL->Prop),Inv X a6G σ H s->(∀b∈fp,gG X a6G H b)->tn i s.heap->J.go i H->
  V2 (V8 P w) X.A (YL (.ref it)) (λr s1=>∃u,r=b4 u /\
   V2 (V8 P w) X.A (a0M tg (.ref it) u) (λ_ s2=>∃x H',Inv X a6G σ H' s2/\RelV x u/\J.yld i H x H'/\tn (i+1) s2.heap/\∀b∈fp,H' b=b6) E s1) E s
 done:∀(X:Cx),X.prog=P->X.w=w->X.K=K->q X->∀(i:Nat)(a6G:List (Addr×Obj))(s:VL)(σ:St)(H:Hp)(E:Value->VL->Prop),Inv X a6G σ H s->(∀b∈fp,gG X a6G H b)->tn i s.heap->J.stop i H->
  V2 (V8 P w) X.A (YL (.ref it)) (λr s1=>r=b6/\Inv X a6G σ H s1) E s
 self:∀(A:Wh)(i:Nat)(s:VL)(Q:Value->VL->Prop)(E:Value->VL->Prop),tn i s.heap->Q (.ref it) s->V2 (V8 P w) A (a2h (.ref it)) Q E s
noncomputable abbrev TI:=St->Hp->(It->Hp->Prop)->Prop
inductive PIEq (q:Cx->Prop)(X:Cx)(a6G:List (Addr×Obj))(σ:St)(tg:Expr)(R:It->Hp->Prop)(itv:Value)(s2:VL):Prop
 |mk (it:Addr)(fp:List Addr)(tn:Nat->WI->Prop)(J:It)(H':Hp)(e:itv=.ref it)(I:Inv X a6G σ H' s2)(T:Turn q X.prog X.w X.K tg J fp it tn)(t0:tn 0 s2.heap)(f:∀b∈fp,gG X a6G H' b)(r:R J H'):PIEq q X a6G σ tg R itv s2
noncomputable abbrev wA:=PIEq Qc
noncomputable def pO(q:Cx->Prop)(X:Cx)(tg iter:Expr)(b:TI):Prop:=
 ∀(a6G:List (Addr×Obj))(s:VL)(σ:St)(H:Hp)(R:It->Hp->Prop),Inv X a6G σ H s->b σ H R->
  V2 (V8 X.prog X.w) X.A (eval iter X.env) (λv a=>V2 (V8 X.prog X.w) X.A (a2h v) (PIEq q X a6G σ tg R) X.xe a) X.xe s
noncomputable abbrev PI:=pO Qc
theorem m5 {M:a1R}{A:Wh}{E:Value->VL->Prop}{s:VL}{tg:Expr}{b:Addr}{u:Value}{o:Obj}{n:String}{vs:Array Value}{Q:Unit->VL->Prop}(d:s.heap.get? b=b4 o)(hc:o.cls=.type n)(hd:o.data=.fields vs)
  (c:["enumerate","zip","dict_itemiterator","dict_reverseitemiterator","odict_iterator","itertools.zip_longest","itertools.pairwise"].contains n=b7) (a:Q () s):V2 M A (a0M tg (.ref b) u) Q E s:=by
 unfold a0M
 cases tg<;>first
  | exact VQ a
  | (cases u<;>first
    | exact VQ a
    | (refine VH (a2N d ?_)
       rw [hc,hd]
       show V2 M A (if (["enumerate","zip","dict_itemiterator","dict_reverseitemiterator","odict_iterator","itertools.zip_longest","itertools.pairwise"].contains n&&vs[0]? == b4 (X2 _))=b8 then _ else _) Q E s
       rw [if_neg (by intro h;rw [c,a4P] at h;cases h)]
       exact VQ a))
noncomputable def wB (K:VG)(a:Addr):It:=
 ⟨fun i H=>∃ b x,SqL K H a b/\b[i]? = b4 x,fun i H x c=>c=H/\∀ b,SqL K H a b->b[i]? = b4 x,fun i H=>∃ b,SqL K H a b/\b.length<=i⟩
noncomputable def wC(K:VG)(a:Addr):It:=
 ⟨λi H=>∃b x,SqT K H a b/\b[i]?=b4 x,λi H x c=>c=H/\∀b,SqT K H a b->b[i]?=b4 x,λi H=>∃b,SqT K H a b/\b.length<=i⟩
noncomputable def kG(lo:Int)(n:Nat):It:=⟨λi _=>i<n,λi H x H'=>H'=H/\x=.int (lo+i),λi _=>n<=i⟩
theorem Il{P:V6}{w:Wj}{K:VG}{tg:Expr}(a l:Addr):Turn Qc P w K tg (wB K a) [l] l (λi h=>h.IsListIter l a i) where
 mem:=by simp
 obj:=λi h st b j=>by
  have e:b=l:=by simpa using j
  subst e;obtain⟨o,e,c,d⟩:=st;exact⟨o,e,λv z=>by rw[d]at z;cases z⟩
 keep:=λi h q st k=>st.at λo e=>k l (by simp) o e;item:=by intro X N hw M hc i m s U H E I r st O;subst N hw M;obtain⟨xs,x,y,Q⟩:=O;obtain⟨R,T,p,hz⟩:=I.list y;obtain⟨u,hu,ru⟩:=T.get Q;obtain⟨A,B,f2,G,J,L⟩:=r l (by simp);refine a3O st p.isList (x:=u) (by simpa using hu) λq n sb=>?_;have Y:Inv X m U H {s with heap:=q}:=I.turned (t':=s.toks) (λb o j e=>(sb.2 b j).trans e) A B G J L;obtain⟨o,e,c,d⟩:=id n;exact⟨u,rfl,m5 (s:={s with heap:=q}) e c d (by decide) ⟨x,H,Y,ru,⟨rfl,λys hy=>by rw[I.list_inj hy y];exact Q⟩,n,λb j=>(r b j).1⟩⟩
 done:=by intro X N hw M hc i m s U H E I r st O;subst N hw M;obtain⟨xs,y,Q⟩:=O;obtain⟨R,T,p,hz⟩:=I.list y;obtain⟨A,B,f2,G,J,L⟩:=r l (by simp);have hl:=T.length;exact a4n (I.ok.hd hc) st p.isList (by simp;omega) λq Z=>⟨rfl,I.turned (t':=s.toks) (λb o j e=>Z b o j e) A B G J L⟩
 self:=λ_ _ _ _ _ st h=>wpAny_pyIter_listiter st h
theorem Im{P:V6}{w:Wj}{K:VG}{tg:Expr}(a l:Addr):Turn Qc P w K tg (wC K a) [l] l (λi h=>h.IsTupleIter l a i) where
 mem:=by simp
 obj:=λi h st b j=>by
  have e:b=l:=by simpa using j
  subst e;obtain⟨o,e,c,d⟩:=st;exact⟨o,e,λv z=>by rw[d]at z;cases z⟩
 keep:=λi h r st k=>st.at λo e=>k l (by simp) o e;item:=by intro X O hw N hc i n s U H E I y st Q;subst O hw N;obtain⟨xs,x,A,R⟩:=Q;obtain⟨m,T,p,hz⟩:=I.tuple A;obtain⟨u,hu,ru⟩:=T.get R;obtain⟨B,G,f2,J,L,M⟩:=y l (by simp);refine a3z st (show s.heap.IsTuple a m.toArray from p) (x:=u) (by simpa using hu) λr q sb=>?_;have Y:Inv X n U H {s with heap:=r}:=I.turned (t':=s.toks) (λb o j e=>(sb.2 b j).trans e) B G J L M;obtain⟨o,e,c,d⟩:=id q;exact⟨u,rfl,m5 (s:={s with heap:=r}) e c d (by decide) ⟨x,H,Y,ru,⟨rfl,λys hy=>by rw[I.tuple_inj hy A];exact R⟩,q,λb j=>(y b j).1⟩⟩
 done:=by intro X O hw N hc i n s U H E I y st Q;subst O hw N;obtain⟨xs,A,R⟩:=Q;obtain⟨m,T,p,hz⟩:=I.tuple A;obtain⟨B,G,f2,J,L,M⟩:=y l (by simp);have hl:=T.length;exact a3M (I.ok.hd hc) st (show s.heap.IsTuple a m.toArray from p) (by simp;omega) λr Z=>⟨rfl,I.turned (t':=s.toks) (λb o j e=>Z b o j e) B G J L M⟩
 self:=λ_ _ _ _ _ st h=>wpAny_pyIter_tupleiter st h
theorem Bx{P:V6}{w:Wj}{K:VG}{tg:Expr}(a:Addr)(lo:Int)(n:Nat):Turn Qc P w K tg (kG lo n) [a] a (λi h=>Z4 h a (lo+(i:Nat)*1) ((n:Int)-(i:Nat)) 1) where
 mem:=by simp
 obj:=λi h st b c=>by
  have e:b=a:=by simpa using c
  subst e;exact⟨_,st,λv z=>by
   have R:WQ _=a0n v:=z;cases R⟩
 keep:=λi h l st k=>k a (by simp) _ st;item:=by intro X A hw y hc i d s J H E I m st B;subst A hw y;obtain⟨p,q,N,r,u,x⟩:=m a (by simp);have W:=a5r (prog:=X.prog) (w:=X.w) (I.ok.hd hc) a lo 1 n;refine W.item i s _ _ B st λv l G O j Q=>?_;obtain⟨t,rfl⟩:=O;have L:Inv X d J H {s with heap:=l,toks:=G}:=I.turned (λb o c e=>Q b o (by simpa using c) e) p q r u x;refine⟨_,rfl,m5 (s:={s with heap:=l,toks:=G}) (n:="range_iterator") j rfl rfl (by decide) ⟨.int (lo+i),H,L,⟨t,?_⟩,⟨rfl,rfl⟩,j,λb c=>(m b c).1⟩⟩;rw[Int.mul_one]
 done:=by intro X A hw y hc i d s J H E I m st B;subst A hw y;obtain⟨p,q,N,r,u,x⟩:=m a (by simp);exact a3N (I.ok.hd hc) st (by have:n<=i:=B;omega) λl M=>⟨rfl,I.turned (t':=s.toks) (λb o c e=>M b o c e) p q r u x⟩
 self:=λ_ _ _ _ _ st h=>a3P st h
end L2
namespace L2
open PySem PySem.Spec PyProof.Rows
section
variable{X:Cx}{tg:Expr}
theorem By{q:Cx->Prop}(tr:∀(d:Addr)(lo:Int)(n:Nat),Turn q X.prog X.w X.K tg (kG lo n) [d] d (λi h=>Z4 h d (lo+(i:Nat)*1) ((n:Int)-(i:Nat)) 1)){a6G:List (Addr×Obj)}{σ:St}{H:Hp}{s:VL}{R:It->Hp->Prop}{E:Value->VL->Prop}{lo a:Int}{t u v:a5a}{tk:Nat}(I:Inv X a6G σ H s)(h1:-(2^62)<=lo)(m:lo<2^62)(p:-(2^62)<=a)(r:a<2^62)
  (w:R (kG lo (a-lo).toNat) H):V2 (V8 X.prog X.w) X.A (a2h (.ref s.heap.objs.size)) (PIEq q X a6G σ tg R) E {s with heap:=s.heap.push {cls:=.type "range",data:=.fields #[.int lo t,.int a u,.int 1 v]},toks:=tk}:=by
 refine a4S (a4M ..) (small_one h1 m p r) ?_;have c:Inv X a6G σ H {s with heap:=s.heap.push {cls:=.type "range",data:=.fields #[.int lo t,.int a u,.int 1 v]},toks:=tk}:=I.kept λb o e=>VM _ e;refine⟨(s.heap.push {cls:=.type "range",data:=.fields #[.int lo t,.int a u,.int 1 v]}).objs.size,[(s.heap.push {cls:=.type "range",data:=.fields #[.int lo t,.int a u,.int 1 v]}).objs.size],_,_,H,rfl,
  c.kept (t':=tk) λb o e=>VM _ e,tr _ lo (a-lo).toNat,?_,λb x=>?_,w⟩
 ·have j:lo+((0:Nat):Int)*1=lo:=by simp
  have l:(((a-lo).toNat:Nat):Int)-((0:Nat):Int)=WT lo a 1:=by rw[rangeSize_one];split<;>omega
  show Z4 _ _ (lo+((0:Nat):Int)*1) ((((a-lo).toNat:Nat):Int)-((0:Nat):Int)) 1;rw[j,l];exact VX _ rfl
 ·have e:b=(s.heap.push {cls:=.type "range",data:=.fields #[.int lo t,.int a u,.int 1 v]}).objs.size:=by simpa using x
  subst e;exact c.fpOk (VS _) (c.hok.fresh (VS _))
noncomputable def Io(b:TA):TI:=λσ H R=>b σ H λvs a=>∃j:Int,vs=[.int j]/\-(2^62)<=j/\j<2^62/\R (kG 0 j.toNat) a
noncomputable def Ip(b:TA):TI:=λσ H R=>b σ H λvs a=>∃i j:Int,vs=[.int i,.int j]/\(-(2^62)<=i/\i<2^62/\-(2^62)<=j/\j<2^62)/\R (kG i (j-i).toNat) a
theorem Iq{q:Cx->Prop}(tr:∀(c:Addr)(lo:Int)(n:Nat),Turn q X.prog X.w X.K tg (kG lo n) [c] c (λi h=>Z4 h c (lo+(i:Nat)*1) ((n:Int)-(i:Nat)) 1)){a:Expr}{l:TA}{p pos:Xq}(u:Gl X "range") (v:X.mg "range"=b6) (o:PA X [a] l)(w:Wt [a] X.env=[(b7,eval a X.env)]:=by rfl):pO q X tg (.Call (.Name "range" p) [a] [] pos) (Io l):=by
 intro b s B H R I h;refine a6F (i7 I u v a4Z (XC (aM (o pos b s B H _ I h) λJ G ⟨K,E,m,z,d⟩=>?_) w rfl));obtain⟨j,e,d,x,y⟩:=d;subst e;cases z with
 |cons r A=>cases A;obtain⟨t,rfl⟩:=r;exact call_range_1 (By tr m (by omega) (by omega) d x (by simpa using y))
theorem Ir{a b:Expr}{n:TA}{p pos:Xq}(v:Gl X "range") (w:X.mg "range"=b6) (u:PA X [a,b] n)(x:Wt [a,b] X.env=[(b7,eval a X.env),(b7,eval b X.env)]:=by rfl)(c:Wt [b] X.env=[(b7,eval b X.env)]:=by rfl) :
  PI X tg (.Call (.Name "range" p) [a,b] [] pos) (Ip n):=by
 intro d s G H R I h;refine a6F (i7 I v w a4Z (XC (aM (u pos d s G H _ I h) λM K ⟨N,J,o,E,l⟩=>?_) (by rw[x,c]) (by rw[c];rfl)));obtain⟨i,j,e,⟨l,y,z,A⟩,q⟩:=l;subst e;cases E with
 |cons r m=>
  cases m with
  |cons B m=>cases m;obtain⟨t,rfl⟩:=r;obtain⟨L,rfl⟩:=B;exact call_range_2 (By Bx o l y z A q)
noncomputable def Iu(l:TI)(g:TG)(j:TS):TS:=λD σ H=>l σ H λJ e=>∃W:Nat->Nat->St->Hp->Prop,(∃m,W 0 m σ e)/\∀i m σ H,W i m σ H->
 (J.stop i H/\D.nx σ H)\/(J.go i H/\∃N:St->Hp->Prop,(∀b a,N b a->∃d,d<m/\W (i+1) d b a)/\∀x a,J.yld i H x a->g x σ a λc h=>j {D with nx:=N,ct:=N,bk:=D.nx} c h)
noncomputable def pP(a:List Addr)(h:WI):List (Addr×Obj):=a.filterMap λb=>(h.get? b).map λo=>(b,o)
theorem sA{a:List Addr}{h:WI}{b:Addr}{o:Obj}(c:b∈a)(e:h.get? b=b4 o):(b,o)∈pP a h:=a0U.mpr ⟨b,c,by rw[e];rfl⟩
theorem Iv{a:List Addr}{h:WI}{p:Addr×Obj}(i:p∈pP a h):p.1∈a/\h.get? p.1=b4 p.2:=by
 obtain⟨b,d,e⟩:=a0U.mp i;cases q:h.get? b with
 |none=>rw[q]at e;cases e|some o=>rw[q]at e;have c:(b,o)=p:=VY e;subst c;exact⟨d,q⟩
theorem Inv.pinned{a6G:List (Addr×Obj)}{σ:St}{H:Hp}{s:VL}{a:List Addr}(I:Inv X a6G σ H s)(m:∀b∈a,gG X a6G H b)(n:∀b∈a,∃o,s.heap.get? b=b4 o/\∀v,o.data≠.cell v):Inv X (a6G++pP a s.heap) σ H s:=
 I.pins_of λp q=>(Xa.mp q).elim (λz=>I.pin p (Xj _ z)) λz=>by obtain⟨h,e⟩:=Iv z;obtain⟨i,j,l,_⟩:=m p.1 h;obtain⟨o,c,d⟩:=n p.1 h;rw[e]at c;cases c;exact⟨e,i,j,l,d⟩
theorem Inv.unpinned{a6G pl:List (Addr×Obj)}{σ:St}{H:Hp}{s:VL}(I:Inv X (a6G++pl) σ H s):Inv X a6G σ H s:=I.pins_of λp a=>I.pin p (Xj _ (a3i _ a))
theorem Iw{iter:Expr}{body:List Stmt}{wi:TI}{g:TG}{tb:TS}{pos:Xq}(K:a2n (V8 X.prog X.w) X.A X.env X.xe)(hc:X.calm=b8)(hi:PI X tg iter wi)(hg:PG X tg g)(q:PSs X body tb)
  (hs:∀x,YW iter X.env x=pure x:=by intro _;rfl):PS X (.For tg iter body [] pos) (Iu wi g tb):=by
 intro c s σ H D I h;refine wpAny_For (aM (hi c s σ H _ I h) λv s1 h1=>aM h1 λitv s2 h2=>?_) hs;obtain⟨it,E,tn,J,H2,e,I2,T,st2,f2,W,⟨m0,w0⟩,turn⟩:=h2;subst e
  -- what stays b8 of the iterator's objects through the loop
 have w:∀{H':Hp},(∀b∈E,H' b=b6)->∀b∈E,gG X c H' b:=λhn b q=>⟨hn b q,(f2 b q).2⟩;refine codeAny_forLoop_any (λn s'=>∃i y H',Inv X c y H' s'/\tn i s'.heap/\(∀b∈E,H' b=b6)/\W i n y H') ?_ m0 ⟨0,σ,H2,I2,st2,λb q=>(f2 b q).1,w0⟩;rintro n s3 ⟨i,z,Q,I3,M,G,w3⟩;rcases turn i n z Q w3 with⟨O,qn⟩|⟨go,N,hN,step⟩
 ·refine YR K (aM (T.done X rfl rfl rfl hc i c s3 z Q X.xe I3 (w G) M O) λr s4 ⟨Y,I4⟩=>?_);subst Y;exact Zt ⟨z,Q,I4,qn⟩
 ·refine YR K (aM (T.item X rfl rfl rfl hc i c s3 z Q X.xe I3 (w G) M go) λr s4 ⟨u,Y,h4⟩=>?_);subst Y;refine YR K (aM h4 λ_ s5 ⟨x,H5,I5,r5,y5,B,U⟩=>?_);have R:=I5.pinned (w U) (T.obj _ _ B);refine YR K (aM (hg _ s5 z H5 x u _ R r5 (step x H5 y5)) λ_ s6 ⟨σ6,H6,I6,q6⟩=>?_);refine YR K (aM (q _ s6 σ6 H6 _ I6 q6) λf Z A=>?_);have p:∀{a:St}{j:Hp},Inv X (c++pP E s5.heap) a j Z->N a j->∃m,m<n/\∃i y H',Inv X c y H' Z/\tn i Z.heap/\(∀b∈E,H' b=b6)/\W i m y H':=λ{a j} l L=>by obtain⟨m',hm,w7⟩:=hN a j L;refine⟨m',hm,i+1,a,j,l.unpinned,T.keep _ _ _ B λb q o e=>(l.pin (b,o) (Xj _ (Xj _ (sA q e)))).1,λb q=>?_,w7⟩;obtain⟨o,e,d⟩:=T.obj _ _ B b q;exact(l.pin (b,o) (Xj _ (Xj _ (sA q e)))).2.1
  cases f with
  |next=>obtain⟨a,j,l,L⟩:=A;exact p l L|cont=>obtain⟨a,j,l,L⟩:=A;exact p l L|brk=>obtain⟨a,j,l,A⟩:=A;exact⟨a,j,l.unpinned,A⟩|ret v=>obtain⟨x7,a,j,l,r7,A⟩:=A;exact⟨x7,a,j,l.unpinned,r7,A⟩
end
end L2
namespace L2
open PySem PySem.Spec PyProof.Rows
noncomputable abbrev R2:=V->V->Hp->VK->Prop
noncomputable def OpR(X:Cx)(f:Value->Value->a5I Value)(r:R2):Prop:=
 ∀(a6G:List (Addr×Obj))(s:VL)(σ:St)(H:Hp)(x y:V)(v u:Value)(Q:VK),Inv X a6G σ H s->RelV x v->RelV y u->r x y H Q->
  V2 (V8 X.prog X.w) X.A (f v u) (EP X a6G σ Q) X.xe s
noncomputable def wD(X:Cx)(f:Value->a5I Value)(r:V->Hp->VK->Prop):Prop:=
 ∀(a6G:List (Addr×Obj))(s:VL)(σ:St)(H:Hp)(x:V)(v:Value)(Q:VK),Inv X a6G σ H s->RelV x v->r x H Q->
  V2 (V8 X.prog X.w) X.A (f v) (EP X a6G σ Q) X.xe s
noncomputable def CallR(X:Cx)(f:Value)(r:List V->Hp->VK->Prop):Prop:=
 ∀(a6G:List (Addr×Obj))(s:VL)(σ:St)(H:Hp)(xs:List V)(us:List Value)(Q:VK),Inv X a6G σ H s->Vals xs us->r xs H Q->
  V2 (V8 X.prog X.w) X.A (call f us) (EP X a6G σ Q) X.xe s
noncomputable def Iy(X:Cx)(r:V->Hp->(Bool->Hp->Prop)->Prop):Prop:=
 ∀(a6G:List (Addr×Obj))(s:VL)(σ:St)(H:Hp)(x:V)(v:Value)(Q:Bool->Hp->Prop),Inv X a6G σ H s->RelV x v->r x H Q->
  V2 (V8 X.prog X.w) X.A (truthy v) (TP X a6G σ Q) X.xe s
noncomputable def pQ(r:R2)(c d:TE):TE:=λσ H Q=>c σ H λx a=>d σ a λy b=>r x y b Q
noncomputable def Iz(r:V->Hp->VK->Prop)(b:TE):TE:=λσ H Q=>b σ H λx a=>r x a Q
noncomputable def rI(C:Int->Int->Prop)(g:Int->Int->V):R2:=λx y H Q=>∃i j,x=.int i/\y=.int j/\C i j/\Q (g i j) H
noncomputable def gH(g:Int->Int->V):R2:=λx y H Q=>∃i j,x=.int i/\y=.int j/\Q (g i j) H
noncomputable def rU(g:Int->V):V->Hp->VK->Prop:=λx H Q=>∃i,x=.int i/\Q (g i) H
section
variable{X:Cx}{a b c:Expr}{ta tb tc:TE}{pos:Xq}
theorem wF(o:PE X a ta)(p:PE X b tb){a6G:List (Addr×Obj)}{s:VL}{σ:St}{H:Hp}{R:V->V->Hp->Prop}(I:Inv X a6G σ H s)
  (h:ta σ H λx l=>tb σ l λy d=>R x y d){Q:Value->VL->Prop}{f:Value->Value->a5I Value}
  (q:∀v u j x y d,Inv X a6G σ d j->RelV x v->RelV y u->R x y d->V2 (V8 X.prog X.w) X.A (f v u) Q X.xe j) :
  V2 (V8 X.prog X.w) X.A (eval a X.env) (λv e=>V2 (V8 X.prog X.w) X.A (eval b X.env) (λu i=>V2 (V8 X.prog X.w) X.A (f v u) Q X.xe i) X.xe e) X.xe s:=by
 refine aM (o a6G s σ H _ I h) λv B ⟨x,l,m,z,r⟩=>?_;refine aM (p a6G B σ l _ m r) λu j ⟨y,d,n,A,w⟩=>?_;exact q v u j x y d n z A w
theorem IA{op:a2W}{r:R2}(m:OpR X (Zp op) r)(j:PE X a ta)(l:PE X b tb):PE X (.BinOp a op b pos) (pQ r ta tb):=by intro d s w H Q I h;exact wpAny_BinOp (wF j l I h λv u p x y e i n o q=>m d p w e x y v u Q i n o q)
theorem IB{op:UnaryOp}{r:V->Hp->VK->Prop}(m:wD X (unaryOp op) r)(l:PE X a ta):PE X (.UnaryOp op a pos) (Iz r ta):=by intro d s e H Q I h;exact UnaryOp_ (aM (l d s e H _ I h) λv p ⟨x,i,j,o,n⟩=>m d p e i x v Q j o n)
theorem wG{f:Value->Value->a5I Value}{C:Int->Int->Prop}{g:Int->Int->Int}
  (d:∀(i j:Int)(t u:a5a)(s:VL)(Q:Value->VL->Prop)(E:Value->VL->Prop),C i j->Q (.int (g i j) s.toks) {s with toks:=s.toks+1}->V2 (V8 X.prog X.w) X.A (f (.int i t) (.int j u)) Q E s) :
  OpR X f (rI C λi j=>.int (g i j)):=by
 intro e s o H x y v u Q I l m h;obtain⟨i,j,rfl,rfl,hc,q⟩:=h;obtain⟨t,rfl⟩:=l;obtain⟨n,rfl⟩:=m;exact d i j t n s _ _ hc ⟨.int (g i j),H,I.tok _,⟨_,rfl⟩,q⟩
theorem Bz{f:Value->Value->a5I Value}{g:Int->Int->Int}
  (d:∀(i j:Int)(t u:a5a)(s:VL)(Q:Value->VL->Prop)(E:Value->VL->Prop),Q (.int (g i j) s.toks) {s with toks:=s.toks+1}->V2 (V8 X.prog X.w) X.A (f (.int i t) (.int j u)) Q E s) :
  OpR X f (gH λi j=>.int (g i j)):=by
 intro e s o H x y v u Q I l m h;obtain⟨i,j,rfl,rfl,q⟩:=h;obtain⟨t,rfl⟩:=l;obtain⟨n,rfl⟩:=m;exact d i j t n s _ _ ⟨.int (g i j),H,I.tok _,⟨_,rfl⟩,q⟩
theorem sC{f:Value->Value->a5I Value}{g:Int->Int->Bool}
  (d:∀(i j:Int)(t u:a5a)(s:VL)(Q:Value->VL->Prop)(E:Value->VL->Prop),Q (.bool (g i j)) s->V2 (V8 X.prog X.w) X.A (f (.int i t) (.int j u)) Q E s) :
  OpR X f (gH λi j=>.bl (g i j)):=by
 intro e s o H x y v u Q I l m h;obtain⟨i,j,rfl,rfl,q⟩:=h;obtain⟨t,rfl⟩:=l;obtain⟨n,rfl⟩:=m;exact d i j t n s _ _ ⟨.bl (g i j),H,I,rfl,q⟩
noncomputable def CMul(i j:Int):Prop:=(-(2^64)<i/\i<2^64)\/(-(2^64)<j/\j<2^64)
theorem CMul.ok{i j:Int}(h:CMul i j):a4I i j:=by
 rcases h with⟨d,e⟩|⟨d,e⟩
 ·exact .of_left (intBits_le_64 d e)
 ·exact .of_right (intBits_le_64 d e)
theorem op_add:OpR X (Zp .Add) (gH λi j=>.int (i+j)):=Bz λ_ _ _ _ _ _ _ q=>add_int q
theorem IC:OpR X (Zp .Sub) (gH λi j=>.int (i-j)):=Bz λ_ _ _ _ _ _ _ q=>sub_int q
theorem ID:OpR X (Zp .Mod) (rI (λ_ j=>0<j) λi j=>.int (i%j)):=wG λi j _ _ _ _ _ hc q=>by have d:(0:Int)<j:=hc;exact mod_int' (by omega) (by rw[Int.fmod_eq_emod_of_nonneg i (by omega)];exact q)
theorem m7{f:Value->a5I Value}{g:Int->Int}
  (d:∀(i:Int)(t:a5a)(s:VL)(Q:Value->VL->Prop)(E:Value->VL->Prop),Q (.int (g i) s.toks) {s with toks:=s.toks+1}->V2 (V8 X.prog X.w) X.A (f (.int i t)) Q E s) :
  wD X f (rU λi=>.int (g i)):=by
 intro e s l H x v Q I j h;obtain⟨i,rfl,q⟩:=h;obtain⟨t,rfl⟩:=j;exact d i t s _ _ ⟨.int (g i),H,I.tok _,⟨_,rfl⟩,q⟩
theorem IE:wD X (unaryOp .USub) (rU λi=>.int (-i)):=m7 λ_ _ _ _ _ q=>neg_int q
end
section
variable{X:Cx}{a b c:Expr}{ta tb tc:TE}{pos:Xq}
theorem lQ{a6G:List (Addr×Obj)}{σ:St}{H:Hp}{s:VL}{Q:VK}{k k':Bool}(I:Inv X a6G σ H s)(q:Q (.bl k) H)(e:k=k'):EP X a6G σ Q (.bool k') s:=by subst e;exact⟨.bl k,H,I,rfl,q⟩
theorem wH:OpR X (W6 .Lt) (gH λi j=>.bl (decide (i<j))):=sC λ_ _ _ _ _ _ _ q=>lt_int q
theorem wI:OpR X (W6 .LtE) (gH λi j=>.bl (decide (i<=j))):=sC λ_ _ _ _ _ _ _ q=>le_int q
theorem wJ:OpR X (W6 .Gt) (gH λi j=>.bl (decide (j<i))):=sC λ_ _ _ _ _ _ _ q=>gt_int q
theorem wK:OpR X (W6 .GtE) (gH λi j=>.bl (decide (j<=i))):=sC λ_ _ _ _ _ _ _ q=>ge_int q
theorem BA:OpR X (W6 .In) (λx y H Q=>∃i j,x=.str i/\y=.str j/\Q (.bl (!(Xo j i 0 j.length 1).isEmpty)) H):=by intro d s n H x y v u Q I e l h;obtain⟨i,j,rfl,rfl,q⟩:=h;obtain⟨t,rfl⟩:=e;obtain⟨m,rfl⟩:=l;exact in_str (lQ I q rfl)
theorem BB:OpR X (W6 .Is) (λx y H Q=>y=.non/\Q (.bl (decide (x=.non))) H):=by
 intro e s j H x y v u Q I d i h;obtain⟨rfl,q⟩:=h;cases i;refine is_none_gen (lQ I q ?_);cases x<;>first
  |(cases d;rfl)|(obtain⟨t,rfl⟩:=d;rfl)
theorem BC:OpR X (W6 .IsNot) (λx y H Q=>y=.non/\Q (.bl (!decide (x=.non))) H):=by
 intro e s j H x y v u Q I d i h;obtain⟨rfl,q⟩:=h;cases i;refine isnot_none_gen (lQ I q ?_);cases x<;>first
  |(cases d;rfl)|(obtain⟨t,rfl⟩:=d;rfl)
theorem OpR.or{f:Value->Value->a5I Value}{r e:R2}(h:OpR X f r)(h':OpR X f e):OpR X f (λx y H Q=>r x y H Q\/e x y H Q):=by
 intro d s l H x y v u Q I i j q;rcases q with q|q
 ·exact h d s l H x y v u Q I i j q
 ·exact h' d s l H x y v u Q I i j q
theorem dN(b:Expr){op:ZT}(h:op≠.In:=by decide)(i:op≠.NotIn:=by decide):YT op b=false:=by
 have d:(op==CmpOp.In)=false:=by cases op<;>first|rfl|exact absurd rfl h
 have e:(op==CmpOp.NotIn)=false:=by cases op<;>first|rfl|exact absurd rfl i
 cases b<;>simp[YT,d,e]
theorem IF{op:ZT}{r:R2}(n:OpR X (W6 op) r)(j:PE X a ta)(l:PE X b tb)(m:YT op b=b7):PE X (.Compare a [op] [b] pos) (pQ r ta tb):=by intro d s z H Q I h;exact wpAny_Compare1 (wF j l I h λv u w x y e i o p q=>n d w z e x y v u Q i o p q) m
noncomputable def BE(t:TE):TT:=λσ H Q=>t σ H λx H'=>∃k,x=.bl k/\Q k H'
theorem IG{op:ZT}{r:R2}(B:OpR X (W6 op) r)(q:PE X a ta)(w:PE X b tb)(A:YT op b=b7):PT X (.Compare a [op] [b] pos) (BE (pQ r ta tb)):=by
 intro d s i H Q I h;refine wpAny_isTrue_Compare1 (aM (q d s i H _ I h) λv N ⟨x,j,n,K,E⟩=>aM (w d N i j _ n E) λu O ⟨y,l,o,L,G⟩=>
  aM (B d O i l x y v u _ o K L G) λc R ⟨z,m,p,M,k,e,J⟩=>?_) A
 subst e;cases M;exact Xl ⟨m,p,J⟩
noncomputable def wL(r j:R2)(ta tb tc:TE):TE:=λσ H Q=>ta σ H λx e=>tb σ e λy h=>r x y h λz d=>∃k,z=.bl k /\
 (if k=b8 then tc σ d λl i=>j y l i Q else Q (.bl b7) d)
theorem IH{op j:ZT}{r q:R2}(O:OpR X (W6 op) r)(m:OpR X (W6 j) q)(L:PE X a ta)(M:PE X b tb)(hc:PE X c tc)
  (N:a5E [op,j] [b,c]=false:=by with_unfolding_all rfl):PE X (.Compare a [op,j] [b,c] pos) (wL r q ta tb tc):=by
 intro i s l H Q I h;refine Compare_chain (aM (L i s l H _ I h) λv s1 ⟨x,A,G,Y,R⟩=>chain_link (aM (M i s1 l A _ G R) λu s2 ⟨y,B,J,w,T⟩=>
  aM (O i s2 l B x y v u _ J Y w T) λd s3 ⟨z,n,o,Z,k,e,p⟩=>?_)) N
 subst e;cases Z;refine Xl ?_;cases k with
 |false=>exact ite_ff ⟨.bl b7,n,o,rfl,p⟩|true=>exact ite_tt (chain_last (aM (hc i s3 l n _ o p) λw' s4 ⟨z',E,K,r4,U⟩=>m i s4 l E y z' u w' Q K w r4 U))
theorem II{op j:ZT}{r q:R2}(Y:OpR X (W6 op) r)(m:OpR X (W6 j) q)(R:PE X a ta)(T:PE X b tb)(hc:PE X c tc)
  (U:a5E [op,j] [b,c]=false:=by with_unfolding_all rfl):PT X (.Compare a [op,j] [b,c] pos) (BE (wL r q ta tb tc)):=by
 intro i s l H Q I h;refine isTrue_chain (aM (R i s l H _ I h) λv s1 ⟨x,A,J,r1,q1⟩=>test_link (aM (T i s1 l A _ J q1) λu s2 ⟨y,B,K,w,q2⟩=>
  aM (Y i s2 l B x y v u _ K r1 w q2) λd s3 ⟨z,n,o,r3,k,e,p⟩=>?_)) U
 subst e;cases r3;refine Xl ?_;cases k with
 |false=>obtain⟨k',N,Z⟩:=p;cases N;exact ite_ff ⟨n,o,Z⟩|true=>refine ite_tt (test_last (aM (hc i s3 l n _ o p) λw' s4 ⟨z',E,L,r4,q4⟩=>aM (m i s4 l E y z' u w' _ L w r4 q4) λd' s5 ⟨z2,G,M,r5,k2,O,q5⟩=>?_));subst O;cases r5;exact Xl ⟨G,M,q5⟩
noncomputable def wM(K:VG)(x:V)(H:Hp)(k:Bool):Prop:=
 match x with
 |.non=>k=b7|.bl b=>k=b|.int i=>k=(i != 0)|.str y=>y.length<=VW/\k=((y.length:Int) != 0)|.byt y=>y.size<=VW/\k=((y.size:Int) != 0)|.ref p=>(∃e,SqL K H p e/\k=!e.isEmpty)\/(∃e,SqT K H p e/\k=!e.isEmpty)\/∃d,H p=b4 (.dK d)/\k=!d.isEmpty|_=>False
theorem IJ{κ:Type}{kvs:List (κ×V)}{vs:List (κ×Value)}(r:KV kvs vs):(!vs.isEmpty)=!kvs.isEmpty:=by cases r<;>rfl
theorem BF{xs:List V}{d:List Value}(r:Vals xs d):(!d.toArray.isEmpty)=!xs.isEmpty:=by cases r<;>simp
theorem kH:(VW:Nat)<2^63:=by rw[V9];decide
theorem IK:Iy X (λx H Q=>∃k,wM X.K x H k/\Q k H):=by
 intro E s M H x v Q I o h;obtain⟨k,e,q⟩:=h;have K:=kH;have L:VW=16777216:=V9;cases x with
 |non=>cases o;have d:k=false:=e;subst d;exact truthy_none ⟨H,I,q⟩|bl b=>cases o;have d:k=b:=e;subst d;exact Xl ⟨H,I,q⟩|int i=>obtain⟨t,rfl⟩:=o;have d:k=(i != 0):=e;subst d;exact PySem.P.truthy_int ⟨H,I,q⟩|str y=>obtain⟨t,rfl⟩:=o;obtain⟨J,d⟩:y.length<=VW/\k=((y.length:Int) != 0):=e;subst d;exact PySem.P.truthy_str (by omega) ⟨H,I.tok _,q⟩|byt y=>obtain⟨t,rfl⟩:=o;obtain⟨J,d⟩:y.size<=VW/\k=((y.size:Int) != 0):=e;subst d;exact PySem.W.truthy_bytes (by omega) ⟨H,I.tok _,q⟩|ref p=>
  cases o;have d:(∃n,SqL X.K H p n/\k=!n.isEmpty)\/(∃n,SqT X.K H p n/\k=!n.isEmpty)\/∃j,H p=b4 (.dK j)/\k=!j.isEmpty:=e;rcases d with⟨n,u,d⟩|⟨n,u,d⟩|⟨j,u,d⟩
  ·subst d;obtain⟨z,r,A,B⟩:=I.list u;have l:=r.length;exact wpAny_truthy_list A.isList (by simp only[V7];omega) ⟨H,I.tok _,by rw[BF r];exact q⟩
  ·subst d;obtain⟨z,r,A,B⟩:=I.tuple u;have l:=r.length;exact truthy_tuple A (by simp only[V7];omega) ⟨H,I.tok _,by rw[BF r];exact q⟩
  ·subst d;obtain⟨B,G,w,r,m⟩:j.length<=VW/\(p==XZ)=b7/\∃w,KV j w/\s.heap.DictOf (lK X.prog X.w) p w:=I.hok p _ u;have l:j.length=w.length:=a1Y r;exact wpAny_truthy_dict G m (by omega) ⟨H,I.tok _,by rw[IJ r];exact q⟩
 |_=>exact(show False from e).elim
theorem IL(n:PE X a ta)(o:∀d,a3U a X.env d=(do let v <- d;standAt a.pos;holding [v] (truthy v))) :
  PT X a (λi H Q=>ta i H λx j=>∃k,wM X.K x j k/\Q k j):=by
 intro e s i H Q I h;exact isTrue_plain (aM (n e s i H _ I h) λv r ⟨x,l,m,q,p⟩=>IK e r i l x v Q m q p) (o _)
theorem op_add_str:OpR X (Zp .Add) (λx y H Q=>∃i j,x=.str i/\y=.str j/\i.length+j.length<=VW/\Q (.str (i++j)) H):=by intro d s p H x y v u Q I l m h;obtain⟨i,j,rfl,rfl,e,q⟩:=h;obtain⟨t,rfl⟩:=l;obtain⟨n,rfl⟩:=m;exact add_str (λn o=>⟨.str (i++j),H,I.tok _,⟨_,rfl⟩,q⟩) e
theorem i8{x:V}{us:List Value}(r:Vals [x] us):∃u,us=[u]/\RelV x u:=by
 cases r with
 |cons d e=>cases e;exact⟨_,rfl,d⟩
theorem pR{x y:V}{us:List Value}(r:Vals [x,y] us):∃u d,us=[u,d]/\RelV x u/\RelV y d:=by
 cases r with
 |cons e h=>
  cases h with
  |cons i j=>cases j;exact⟨_,_,rfl,e,i⟩
theorem IM(hc:X.calm=b8):CallR X (.builtin "max") (λxs H Q=>∃i j,xs=[.int i,.int j]/\Q (.int (if j>i then j else i)) H):=by
 intro e s v H xs o Q I r h;obtain⟨i,j,rfl,q⟩:=h;obtain⟨u,p,rfl,⟨t,rfl⟩,⟨m,rfl⟩⟩:=pR r;refine max_two_ints (I.ok.hd hc) λl n k=>⟨_,H,I.kept k,?_,q⟩;by_cases d:j>i
 ·rw[if_pos d,if_pos d];exact⟨_,rfl⟩
 ·rw[if_neg d,if_neg d];exact⟨_,rfl⟩
theorem IP(hc:X.calm=b8):CallR X (.builtin "min") (λxs H Q=>∃i j,xs=[.int i,.int j]/\Q (.int (if j<i then j else i)) H):=by
 intro e s v H xs o Q I r h;obtain⟨i,j,rfl,q⟩:=h;obtain⟨u,p,rfl,⟨t,rfl⟩,⟨m,rfl⟩⟩:=pR r;refine min_two_ints (I.ok.hd hc) λl n k=>⟨_,H,I.kept k,?_,q⟩;by_cases d:j<i
 ·rw[if_pos d,if_pos d];exact⟨_,rfl⟩
 ·rw[if_neg d,if_neg d];exact⟨_,rfl⟩
end
end L2
namespace L2
open PySem PySem.Spec PyProof.Rows
structure ObjM(h:WI)(x dx C:Addr)(mA:Str->Option Value):Prop where
 obj:h.get? x=b4 (a3H C dx)
 ns:h.Ns1 dx mA
 ne:dx≠x
section
variable{prog:V6}{w:Wj}{A:Wh}{E:Value->VL->Prop}{s:VL}{K:VG}{x dx C f:Addr}{mA:Str->Option Value}{name:Str}{v:Value}
end
theorem RelO.some_of{v:V}{o:Option Value}(r:RelO (b4 v) o):∃u,o=b4 u/\RelV v u:=by
 cases o with
 |none=>exact(show False from r).elim|some u=>exact⟨u,rfl,r⟩
theorem RelO.none_of{o:Option Value}(r:RelO b6 o):o=none:=by
 cases o with
 |none=>rfl|some u=>exact(show False from r).elim
theorem IQ{v:V}{u:Value}(r:RelV v u):PySem.W.handedIn u=true:=by
 cases v with
 |non=>cases(show u=WJ from r);rfl|bl b=>cases(show u=XE b from r);rfl|int i=>obtain⟨t,e⟩:=(show ∃t,u=Wy i t from r);cases e;rfl|str x=>obtain⟨t,e⟩:=(show ∃t,u=a1g x t from r);cases e;rfl|byt b=>obtain⟨t,e⟩:=(show ∃t,u=a5v b t from r);cases e;rfl|flt b=>obtain⟨t,e⟩:=(show ∃t,u=a5u b t from r);cases e;rfl|ref a=>cases(show u=VU a from r);rfl|ty n=>cases(show u=Wa n from r);rfl
section
variable{P:V6}{w:Wj}{H H':Hp}{h h':WI}{a C dx:Addr}{fs fs':List (Str×V)}
end
structure Cls(K:VG)(C:Addr):Prop where
 pg:a3r K C Str.empty=b8
 hd:PySem.W.hasDictIn K C=b8
 po:PySem.W.plainOver K C=b8
 sa:Xh K (.ref C) "__setattr__"=b4 (b4 (.builtin "object.__setattr__"))
theorem Cls.get{K:VG}{C:Addr}(c:Cls K C)(f:Str):a3r K C f=true:=c.pg
structure Con(K:VG)(C:Addr)(f:Str)(v:V)(u:Value):Prop where
 at_:Xh K (.ref C) f=b4 (b4 u)
 rel:RelV v u
 get:Z5 K u "__get__"=b4 b6
 cp:PySem.W.copiedNames.contains f=b7
structure Meth(K:VG)(C:Addr)(m:Str)(f:Addr):Prop where
 at_:Xh K (.ref C) m=b4 (b4 (.ref f))
 fn:a4E K (.ref f)=b8
 kp:WX K (.ref f)=b8
section
variable{X:Cx}{a6G:List (Addr×Obj)}{σ:St}{H:Hp}{s:VL}{a C dx:Addr}{fs:List (Str×V)}{f:Str}{v:V}{A:Wh}{E:Value->VL->Prop}
theorem IS{prog:V6}{w:Wj}{env:a0k}{e:Expr}{f:Str}{pos:Xq}{s:VL}{Q:Value->VL->Prop}(c:Zq e f env (eval e env)=eval e env)
  (h:V2 (V8 prog w) A (eval e env) (λo b=>V2 (V8 prog w) A (getAttr o f b8) Q E b) E s):V2 (V8 prog w) A (eval (.Attribute e f pos) env) Q E s:=
 Attribute_any_ h (by rw[arm_eval_Attribute,c])
end
section
variable{X:Cx}{o e value:Expr}{f:Str}{pos pos' tpos:Xq}{ta tv:TE}
end
section
variable{X:Cx}{a6G:List (Addr×Obj)}{σ:St}{H:Hp}{s:VL}{A:Wh}{E:Value->VL->Prop}{Q:Value->VL->Prop}{c:Value}{b:Bool}
inductive TyOf (K:VG)(H:Hp):V->Value->Prop where
 |non:TyOf K H .non (.type "NoneType")
 |bl (x:Bool):TyOf K H (.bl x) (.type "bool")
 |int (i:Int):TyOf K H (.int i) (.type "int")
 |str (x:Str):TyOf K H (.str x) (.type "str")
 |flt (x:UInt64):TyOf K H (.flt x) (.type "float")
 |lst {a:Addr}{xs:List V}(e:H a=b4 (.lst xs)):TyOf K H (.ref a) (.type "list")
 |frz {a:Addr}{o:Obj}{xs:List V}(e:H a=b4 (.frz o (.lst xs))):TyOf K H (.ref a) (.type "list")
 |tup {a:Addr}{xs:List V}(e:H a=b4 (.tup xs)):TyOf K H (.ref a) (.type "tuple")
 |dK {a:Addr}{kvs:List (aQ×V)}(e:H a=b4 (.dK kvs)):TyOf K H (.ref a) (.type "dict")
 |dT {a:Addr}{kvs:List (List aQ×V)}(e:H a=b4 (.dT kvs)):TyOf K H (.ref a) (.type "dict")
 |ins {a C dx:Addr}{fs:List (Str×V)}(e:H a=b4 (.ins C dx fs))(cl:Cls K C)(ha:Xh K (.ref C) "__class__"=b4 (b4 (.builtin "object.__class__")))
   (hn:Z5 K (.builtin "object.__class__") "__get__"=b4 (b4 (.builtin "getset_descriptor.__get__"))) (htk:a3G K (.builtin "object.__class__")=b4 b8)
   (hm:a4p K C (.type "object")=b4 b8):TyOf K H (.ref a) (.ref C)
end
end L2
namespace L2
open PySem PySem.Spec PyProof.Rows
structure Room(k:Nat)(A:Wh):Prop where
 hd:A.handled=b6
 dp:A.depth+3*k+5<a6x
 un:A.units+16*k+200<Xs
theorem Room.mono{j k:Nat}{A:Wh}(r:Room k A)(h:j<=k):Room j A:=⟨r.hd,by have:=r.dp;omega,by have:=r.un;omega⟩
theorem Room.deeper{k:Nat}{A:Wh}(r:Room (k+1) A)(env:a0k):Room k (A.deeper env):=
 ⟨r.hd,by have:=r.dp;show A.depth+1+3*k+5<_;omega,by have:=r.un;show A.units+3+16*k+200<_;omega⟩
theorem Room.in1{k:Nat}{A:Wh}(r:Room (k+1) A):Room k A.in1:=
 ⟨r.hd,by have:=r.dp;show A.depth+3*k+5<_;omega,by have:=r.un;show A.units+1+16*k+200<_;omega⟩
theorem IT{A:Wh}{C:Addr}{us:List Value}{a:List (Str×Value)}:(A.under (.builtin "type.__call__" ⟨.ref C::us,a⟩)).depth=A.depth+1:=by first|rfl|simp[a2y,Code.weight,Code.isCreation,Code.isGuard,Code.isCaller,a5Q,a2L,guardIds]
theorem IU{A:Wh}{C:Addr}{us:List Value}{a:List (Str×Value)}:(A.under (.builtin "type.__call__" ⟨.ref C::us,a⟩)).units=A.units+1:=by first|rfl|simp[a2y,Code.cUnits,a5Q,a2L]
theorem Room.make{k:Nat}{A:Wh}(r:Room (k+1) A)(C:Addr)(us:List Value)(a:List (Str×Value)):Room k (A.under (.builtin "type.__call__" ⟨.ref C::us,a⟩)):=
 ⟨r.hd,by have:=r.dp;rw[IT];omega,by have:=r.un;rw[IU];omega⟩
theorem Room.depth{k:Nat}{A:Wh}(r:Room k A):A.depth<a6x:=by have:=r.dp;omega
theorem Room.units{k:Nat}{A:Wh}(r:Room k A):A.units+64<Xs:=by have:=r.un;omega
noncomputable def BG:TA:=λ_ H Q=>Q [] H
noncomputable def IV(c:TE)(tr:TA):TA:=λσ H Q=>c σ H λx a=>tr σ a λxs b=>Q (x::xs) b
section
variable{X:Cx}{e:Expr}{es:List Expr}{te:TE}{t:TA}{pos:Xq}
theorem BH:PA X [] BG:=λ_ _ _ _ H Q I h=>a1a ⟨[],H,I,.nil,h⟩
theorem wN(l:PE X e te)(m:PA X es t)(n:Wt (e::es) X.env=(b7,eval e X.env)::Wt es X.env:=by rfl):PA X (e::es) (IV te t):=by intro pos a s b H Q I h;rw[n];show V2 _ _ (spliced ((b7,eval e X.env)::Yy pos (Wt es X.env))) _ _ s;refine a0Q (aM (l a s b H _ I h) λu v ⟨x,c,i,q,o⟩=>?_);exact aM (m pos a v b c _ i o) λz y ⟨w,d,j,r,p⟩=>⟨x::w,d,j,.cons q r,p⟩
noncomputable def IW(t:TA):TE:=λσ H Q=>t σ H λxs a=>xs.length<=VW/\∀p,a p=b6->Q (.ref p) (aI a p (.tup xs))
noncomputable def IX(t:TA):TE:=λσ H Q=>t σ H λxs a=>xs.length<=VW/\∀p,a p=b6->Q (.ref p) (aI a p (.lst xs))
theorem IY{x1} (h:PA X es t):PE X (.Tuple es x1 pos) (IW t):=by intro c s o H Q I l;refine wpAny_Tuple_spliced (aM (h pos c s o H _ I l) λm a ⟨n,d,i,r,z,q⟩=>⟨by rw[<- r.length];exact z,?_⟩);have j:d a.heap.objs.size=none:=i.hok.fresh (VS _);refine⟨.ref a.heap.objs.size,aI d a.heap.objs.size (.tup n),i.laid (t':=a.toks) (λb u e=>VM _ e) (VS _) ?_,rfl,q _ j⟩;exact⟨z,m,r,⟨_,VX _ rfl,rfl,_,rfl,rfl⟩⟩
theorem IZ(h:PA X es t):PE X (.List es pos) (IX t):=by intro c s o H Q I l;refine wpAny_List_spliced (aM (h pos c s o H _ I l) λm a ⟨n,d,i,r,z,q⟩=>⟨by rw[<- r.length];exact z,?_⟩);have j:d a.heap.objs.size=none:=i.hok.fresh (VS _);refine⟨.ref a.heap.objs.size,aI d a.heap.objs.size (.lst n),i.laid (t':=a.toks) (λb u e=>VM _ e) (VS _) ?_,rfl,q _ j⟩;exact⟨z,m,0,r,VX _ rfl⟩
end
noncomputable abbrev Sp:=List V->Hp->VK->XK->Prop
noncomputable abbrev fM:=List a0k->Hp->VL->XK->Value->VL->Prop
structure Env0(P:V6)(w:Wj)(K:VG)(mg:Str->Option Value)(base:WI)(A:Wh)(outer:List a0k)(s:VL)(H:Hp):Prop where
 frames:A.frames=b4 outer
 mod:Mod K mg base
 bs:∀b o,base.get? b=b4 o->s.heap.get? b=b4 o/\H b=b6
 bsz:base.objs.size<=s.heap.objs.size
 funs:s.heap.FunFrames base outer
 frf:∀b∈dB outer,H b=b6
 hok:HOk P w H s.heap
 bare:a0t s.gens
inductive CE (outer:List a0k)(P:V6)(w:Wj)(H:Hp)(s:VL)(Q:VK)(u:Value)(s':VL):Prop
 |mk (v:V)(H':Hp)(o:s'.os=s.os)(b:a0t s'.gens)(n:Un (dB outer) [] H H' s.heap s'.heap)(k:HOk P w H' s'.heap)(r:RelV v u)(q:Q v H'):CE outer P w H s Q u s'
noncomputable def CR(CX:fM)(outer:List a0k)(P:V6)(w:Wj)(H:Hp)(s:VL)(Q:VK)(E:XK)(r:a2l)(a:VL):Prop:=
 match r with
 |.ok (.ret u)=>CE outer P w H s Q u a|.ok _=>False|.error e=>CX outer H s E e a
structure FnOk(P:V6)(w:Wj)(K:VG)(mg:Str->Option Value)(base:WI)(CX:fM)(k:Nat)(f:Addr)(fd:Xy)(ps:List Str)(sp:Sp):Prop where
 len:∀vs H Q E,sp vs H Q E->vs.length=ps.length
 run:∀(A:Wh)(outer:List a0k)(s:VL)(H:Hp)(args:Args)(us:List Value)(vs:List V)(Q:VK)(E:XK),Room k A->Env0 P w K mg base A outer s H->a1U s fd args (ps.zip us)->Vals vs us->sp vs H Q E->
  Z2 (V8 P w) A (.call (.ref f) args) (CR CX outer P w H s Q E) s
theorem FnOk.mono{P:V6}{w:Wj}{K:VG}{c:Str->Option Value}{base:WI}{CX:fM}{j k:Nat}{f:Addr}{b:Xy}{ps:List Str}{sp:Sp}(F:FnOk P w K c base CX j f b ps sp)(h:j<=k) :
  FnOk P w K c base CX k f b ps sp:=⟨F.len,λA outer s H a e i Q E d=>F.run A outer s H a e i Q E (d.mono h)⟩
theorem FnOk.imp{P:V6}{w:Wj}{K:VG}{e:Str->Option Value}{base:WI}{CX:fM}{k:Nat}{f:Addr}{d:Xy}{ps:List Str}{sp c:Sp}(F:FnOk P w K e base CX k f d ps sp)
  (h:∀a H Q E,c a H Q E->sp a H Q E):FnOk P w K e base CX k f d ps c:=
 ⟨λa H Q E q=>F.len a H Q E (h _ _ _ _ q),λA outer s H b o a Q E l j i n m=>F.run A outer s H b o a Q E l j i n (h _ _ _ _ m)⟩
theorem Env0.make{P:V6}{w:Wj}{K:VG}{a:Str->Option Value}{base:WI}{A:Wh}{outer:List a0k}{s:VL}{H:Hp}(e:Env0 P w K a base A outer s H)(C:Addr)(us:List Value)(b:List (Str×Value)) :
  Env0 P w K a base (A.under (.builtin "type.__call__" ⟨.ref C::us,b⟩)) outer s H:=⟨by first|exact e.frames|(simpa[a2y,Code.envs,a2L,pushEnvs]using e.frames),e.mod,e.bs,e.bsz,e.funs,e.frf,e.hok,e.bare⟩
theorem Env0.in1{P:V6}{w:Wj}{K:VG}{a:Str->Option Value}{base:WI}{A:Wh}{outer:List a0k}{s:VL}{H:Hp}(e:Env0 P w K a base A outer s H) :
  Env0 P w K a base A.in1 outer s H:=⟨e.frames,e.mod,e.bs,e.bsz,e.funs,e.frf,e.hok,e.bare⟩
section
variable{X:Cx}{a6G:List (Addr×Obj)}{σ:St}{H:Hp}{s s':VL}
theorem Inv.env0(I:Inv X a6G σ H s):Env0 X.prog X.w X.K X.mg X.base X.A X.stack s H:=
 ⟨I.ok.frames,I.ok.mod,I.bs,WM I.ok.bsz I.sz,I.stack,I.stkFree,I.hok,I.bare⟩
theorem Inv.after{Q:VK}{u:Value}(I:Inv X a6G σ H s)(h:CE X.stack X.prog X.w H s Q u s'):EP X a6G σ Q u s':=by obtain⟨v,e,j,a,un,hok,r,q⟩:=h;obtain⟨i,g,d,t,c⟩:=s';obtain rfl:c=s.os:=j;exact⟨v,e,I.call (h':=i) (g':=g) (d':=d) (t':=t) (ch:=[]) un hok a (λb z=>absurd z (by simp)),r,q⟩
end
noncomputable def wO(sp:Sp)(a:List V)(E:XK)(t:TA):TE:=λσ H Q=>t σ H λvs b=>sp (vs++a) b Q E
noncomputable def Binds(K:VG)(a:Xy)(ps:List Str)(ds:List Value):Prop:=
 ∀(s:VL)(us:List Value),K.In s.heap->(us++ds).length=ps.length->a1U s a ⟨us,[]⟩ (ps.zip (us++ds))
theorem Binds.all{K:VG}{a:Xy}{ps:List Str}(h:∀us:List Value,us.length=ps.length->a2T a ⟨us,[]⟩=pure (ps.zip us)):Binds K a ps []:=λs us _ b=>by rw[X1]at b ⊢;exact .of_eq (h us b)
noncomputable def sD(CX:fM)(X:Cx)(E:XK):Prop:=∀(a6G:List (Addr×Obj))(σ:St)(H:Hp)(s:VL)(e:Value)(a:VL),Inv X a6G σ H s->CX X.stack H s E e a->X.xe e a
section
variable{X:Cx}{CX:fM}{k:Nat}{f C:Addr}{fd:Xy}{ps:List Str}{sp:Sp}{dvs:List V}{ds:List Value}{E:XK}{x m:Str}{p pos apos:Xq}{e o:Expr}{es:List Expr}{ta:TE}{t:TA}
theorem BI{a6G:List (Addr×Obj)}{σ:St}{H:Hp}{s:VL}{Q:VK}{us:List Value}{vs:List V}(F:FnOk X.prog X.w X.K X.mg X.base CX k f fd ps sp)(j:Room k X.A)(d:Binds X.K fd ps ds)(hd:Vals dvs ds)(l:sD CX X E)
  (I:Inv X a6G σ H s)(r:Vals vs us)(h:sp (vs++dvs) H Q E):V2 (V8 X.prog X.w) X.A (call (.ref f) us) (EP X a6G σ Q) X.xe s:=by
 have b:Vals (vs++dvs) (us++ds):=r.append hd;have i:(us++ds).length=ps.length:=by rw[<- b.length];exact F.len _ _ _ _ h
 refine a1w (a0c (F.run X.A X.stack s H ⟨us,[]⟩ (us++ds) (vs++dvs) Q E j I.env0 (d s us I.kIn i) b h) λr n a=>?_);cases r with
 |error e=>exact l a6G σ H s e n I a|ok c=>
  cases c with
  |ret u=>exact I.after a|next=>exact WR a|brk=>exact WR a|cont=>exact WR a
theorem Ja(F:FnOk X.prog X.w X.K X.mg X.base CX k f fd ps sp)(w:Room k X.A)(n:Gl X x)(v:X.mg x=b4 (.ref f))(u:WX X.K (.ref f)=b8)(j:Binds X.K fd ps ds)(hd:Vals dvs ds)(y:sD CX X E)
  (i:PA X (e::es) t)(b:(x==("__debug__":Str))=false:=by decide) (l:Wt (e::es) X.env=(b7,eval e X.env)::Wt es X.env:=by rfl)(c:(Yy pos (Wt es X.env)).any (·.1)=false:=by rfl) :
  PE X (.Call (.Name x p) (e::es) [] pos) (wO sp dvs E t):=by
 intro a s z H Q I h;refine XY (lP I n v ?_ b);refine a0J (h₀:=X.base) I.ok.mod.kin u (aM (i pos a s z H _ I h) λG B ⟨J,A,d,r,q⟩=>⟨d.kIn,?_⟩) l c;exact BI F w j hd y d r q
theorem Jb(F:FnOk X.prog X.w X.K X.mg X.base CX k f fd ps sp)(l:Room k X.A)(d:Gl X x)(j:X.mg x=b4 (.ref f))(i:WX X.K (.ref f)=b8)(c:Binds X.K fd ps ds)(hd:Vals dvs ds)(n:sD CX X E)
  (a:(x==("__debug__":Str))=false:=by decide):PE X (.Call (.Name x p) [] [] pos) (wO sp dvs E BG):=by
 intro b s q H Q I h;refine XY (lP I d j ?_ a);exact PySem.W.callWith_K0 I.kIn i (BI (us:=[]) F l c hd n I .nil h)
structure Mk(K:VG)(C f:Addr):Prop where
 makes:PySem.W.makesIn K C=b8
 init:Xh K (.ref C) "__init__"=b4 (b4 (.ref f))
 fn:a4E K (.ref f)=b8
 kp:WX K (.ref C)=b8
end
section
variable{X:Cx}{CX:fM}{k:Nat}{f C:Addr}{fd:Xy}{ps ks:List Str}{sp:Sp}{E:XK}{x m:Str}{p pos apos kpos:Xq}{e o:Expr}{es:List Expr}{kws:List Zv}{te ta:TE}{t tk:TA}{nm:Option Str}
structure KBinds(K:VG)(fd:Xy)(ps ks:List Str)(g:List Value->List Value->List Value)(gV:List V->List V->List V):Prop where
 to:∀(s:VL)(us ws:List Value),K.In s.heap->(g us ws).length=ps.length->a1U s fd ⟨us,ks.zip ws⟩ (ps.zip (g us ws))
 rel:∀{vs:List V}{us:List Value}{zs:List V}{ws:List Value},Vals vs us->Vals zs ws->Vals (gV vs zs) (g us ws)
variable{g:List Value->List Value->List Value}{gV:List V->List V->List V}
end
structure FnScope(N P:List Str)(sc:Yj):Prop where
 kind:sc.kind=.function
 co:sc.isCoroutine=b7
 gen:sc.isGenerator=b7
 nd:N.Nodup
 pre:N.take P.length=P
 par:∀x∈P,sc.names.lookup x=b4 .local\/sc.names.lookup x=b4 .cell
 nofree:∀y∈sc.names,y.2≠.free
theorem BJ{kindOf:Str->Option Yp}{x:Str}:∀{a:List (Str×Value)}{m:Str->Option Value},(∀v,(x,v)∉a)->a3E kindOf a m x=m x
 |[],_,_=>rfl|(n,v)::r,m,h=>by
  unfold a3E;rw[BJ λw hw=>h w (Wn _ hw)];split
  ·have:x≠n:=by rintro rfl;exact h v WS
   simp[this]
  ·rfl
theorem BK{kindOf:Str->Option Yp}{x:Str}:∀{a:List (Str×Value)}{m:Str->Option Value},(∀v,(x,v)∉a)->a3F kindOf a m x=m x
 |[],_,_=>rfl|(n,v)::r,m,h=>by
  unfold a3F;rw[BK λw hw=>h w (Wn _ hw)];split
  ·rfl
  ·have:x≠n:=by rintro rfl;exact h v WS
   simp[this]
theorem BL{kindOf:Str->Option Yp}{x:Str}{v:Value}:∀{P:List Str}{vs:List Value}{i:Nat}{m:Str->Option Value},P.Nodup->P[i]?=b4 x->vs[i]?=b4 v->kindOf x=b4 .local->
  a3E kindOf (P.zip vs) m x=b4 v
 |[],_,_,_,_,h,_,_=>by simp at h
 |_::_,[],_,_,_,_,h,_=>by simp at h
 |p::P,w::vs,0,m,nd,h1,h2,hk=>by simp at h1 h2;subst h1;subst h2;show a3E kindOf ((p,w)::P.zip vs) m p=_;unfold a3E;rw[BJ λv a=>(W4.mp nd).1 (a1E a).1,if_pos hk];simp
 |p::P,w::vs,i+1,m,nd,h1,h2,hk=>by show a3E kindOf ((p,w)::P.zip vs) m x=_;unfold a3E;exact BL (i:=i) (W4.mp nd).2 (by simpa using h1) (by simpa using h2) hk
theorem BM{kindOf:Str->Option Yp}{x:Str}{v:Value}:∀{P:List Str}{vs:List Value}{i:Nat}{m:Str->Option Value},P.Nodup->P[i]?=b4 x->vs[i]?=b4 v->kindOf x≠b4 .local->
  a3F kindOf (P.zip vs) m x=b4 v
 |[],_,_,_,_,h,_,_=>by simp at h
 |_::_,[],_,_,_,_,h,_=>by simp at h
 |p::P,w::vs,0,m,nd,h1,h2,hk=>by simp at h1 h2;subst h1;subst h2;show a3F kindOf ((p,w)::P.zip vs) m p=_;unfold a3F;rw[BK λv a=>(W4.mp nd).1 (a1E a).1,if_neg hk];simp
 |p::P,w::vs,i+1,m,nd,h1,h2,hk=>by show a3F kindOf ((p,w)::P.zip vs) m x=_;unfold a3F;exact BM (i:=i) (W4.mp nd).2 (by simpa using h1) (by simpa using h2) hk
noncomputable def start(N:List Str)(vs:List V):St:=vs.map b4++XJ (N.length-vs.length) b6
noncomputable def dO(CX:fM)(P:V6)(w:Wj)(K:VG)(d:Str->Option Value)(base:WI)(N:List Str)(qual:Str)(scope:Yj)(f:Addr)(b:Value)(A:Wh)(outer:List a0k)(s:VL)(H:Hp)(E:XK):Cx where
 prog:=P
 w:=w
 K:=K
 mg:=d
 base:=base
 A:=A.deeper (envOfC qual scope s.heap.objs.size f b)
 N:=N
 s₀:=s
 H₀:=H
 env:=envOfC qual scope s.heap.objs.size f b
 outer:=outer
 stack:=envOfC qual scope s.heap.objs.size f b::outer
 ex:=[]
 calm:=b8
 fn:=λ_=>b8
 pn:=[]
 xe:=λe h=>V2 (V8 P w) (A.deeper (envOfC qual scope s.heap.objs.size f b)) (a5o (envOfC qual scope s.heap.objs.size f b) e) (λ_ a=>CX outer H s E e a) (λc a=>CX outer H s E c a) h
theorem BN{sc:Yj}{n:Nat}{x:Str}(h:sc.names.lookup x=b4 .cell):∃c,(a5G n sc.names []).lookup x=b4 c:=by have q:=a2m sc.names n [] (.inl h);exact Y2.mp q
theorem Jc{CX:fM}{P:V6}{w:Wj}{K:VG}{J:Str->Option Value}{base:WI}{N ps:List Str}{qual:Str}{scope:Yj}{f:Addr}{B:Value}{A:Wh}{outer:List a0k}{s s1:VL}{H:Hp}{E:XK}{us:List Value}{vs:List V}
  (S:FnScope N ps scope)(hd:A.handled=b6)(j:Env0 P w K J base A outer s H)(U:vs.length=ps.length)(r:Vals vs us)
  (x:InCallC s s.heap.objs.size (a3E (envOfC qual scope s.heap.objs.size f B).kindOf (ps.zip us) λ_=>b6) (a5G (s.heap.objs.size+1) scope.names []) (a3F (envOfC qual scope s.heap.objs.size f B).kindOf (ps.zip us) λ_=>b6) s1) :
  Inv (dO CX P w K J base N qual scope f B A outer s H E) [] (start N vs) H s1:=by
 have Q:ps.length<=N.length:=by have:=congrArg Xc S.pre;rw[WV]at this;omega
 obtain⟨G,X,rfl,L⟩:=x.done;have m:∀b:Addr,b∉(dO CX P w K J base N qual scope f B A outer s H E).ex:=λb z=>absurd (show b∈([]:List Addr)from z) (by simp);refine⟨⟨j.mod,S.kind,rfl,rfl,VS _,λy z c G d=>?_,λy l=>?_,λy c _ h=>?_,λ_=>hd,Around.frames_deeper j.frames,.inr ⟨rfl,rfl⟩,λb z=>absurd z (m b),j.bs,j.bsz,λb _ _=>m b,λb z=>absurd z (m b),j.funs,j.frf⟩,
  rfl,j.bare,Un.kept L,⟨_,x.toInCall.ns,λi y v G d T=>?_⟩,λy c h=>⟨_,x.cell y c h⟩,j.hok.fresh (VS _),λy c h=>?_,λp n=>absurd (show p∈([]:List (Addr×Obj))from n) (by simp),j.hok.kept L,?_⟩
 ·exact name_of_addr x.apart (Xg G) (Xg d)
 ·have l:scope.names.lookup y=b4 .cell\/scope.names.lookup y=b4 .free:=l;rcases l with l|l
  ·exact BN l
  ·exact absurd rfl (S.nofree _ (Xg l))
 ·exact Z3 (x.above y c (Xg h))
 ·have I:i<vs.length:=by
   unfold start at d;by_cases I:i<vs.length
   ·exact I
   ·rw[XM (by simpa using I)]at d;rw[Yt]at d;split at d<;>cases d
  have O:vs[i]?=b4 v:=by
   unfold start at d;rw[Ww (by simpa using I),V5]at d;cases e:vs[i]? with
   |none=>rw[e]at d;cases d|some a=>rw[e]at d;cases d;rfl
  obtain⟨u,M,R⟩:=r.get O;have n:ps[i]?=b4 y:=by rw[<- S.pre,a2w (by omega)];exact G
  have o:ps.Nodup:=by rw[<- S.pre];exact S.nd.sublist (a4j _ _)
  refine⟨u,R,?_⟩;rcases S.par y (WO n)with k|k
  ·exact .inl ⟨k,BL o n M k⟩
  ·obtain⟨c,e⟩:=BN (n:=s.heap.objs.size+1) k;refine .inr ⟨.inl k,c,e,?_⟩;have q:=x.cell y c e;rw[BM o n M (by show scope.names.lookup y≠_;rw[k];decide)]at q;exact q
 ·exact j.hok.fresh (Z3 (x.above y c (Xg h)))
 ·unfold start;show _=N.length;rw[V1,VI,Yi];omega
theorem wQ{CX:fM}{P:V6}{w:Wj}{K:VG}{z:Str->Option Value}{base:WI}{k:Nat}{f:Addr}{name qual:Str}{c:Arguments}{body:List Stmt}{scope:Yj}{X kV l Y a ct oc:Value}{an od:Option Addr}
  {M:Array (Option Value)}{N ps:List Str}{sp:Sp}(lk:K.lookup f=b4 ⟨oc,od,.func (Xv name qual c body scope X kV l Y an a ct),M⟩)(B:ZY K a qual=b8)(S:FnScope N ps scope)
  (len:∀vs H Q E,sp vs H Q E->vs.length=ps.length)
  (h:∀(A:Wh)(outer:List a0k)(s:VL)(H:Hp)(vs:List V)(Q:VK)(E:XK),Room k (A.deeper (envOfC qual scope s.heap.objs.size f a))->sp vs H Q E->
   ∃t,PSs (dO CX P w K z base N qual scope f a A outer s H E) body t/\t {nx:=λ_ H'=>Q .non H',rt:=Q} (start N vs) H) :
  FnOk P w K z base CX (k+1) f (Xv name qual c body scope X kV l Y an a ct) ps sp:=by
 refine⟨len,λA outer s H U us vs Q E G m hb r p=>?_⟩;have hl:=len _ _ _ _ p;have T:K.In s.heap:=m.mod.kin.keeps λb o e=>(m.bs b o e).1;have L:s.heap.NoLimit:=m.mod.nolimit.keeps λb o e=>(m.bs b o e).1;have i:∀y∈ps.zip us,scope.names.lookup y.1=b4 .local\/(scope.names.lookup y.1=b4 .cell/\((a5G (s.heap.objs.size+1) scope.names []).lookup y.1).isSome=b8):=λ⟨n,v⟩ hy=>by
  rcases S.par n (a1E hy).1 with q|q
  ·exact .inl q
  ·exact .inr ⟨q,a2m _ _ _ (.inl q)⟩
 refine codeAny_call_function G.depth (T _ _ lk) rfl S.co S.gen rfl (PySem.W.codeRec_of T B) (hb _ _ _ _ ?_);refine wpAny_newFunctionEnv_cells S.kind i λenv he Z x=>?_;subst he;refine⟨L.keeps x.toInCall.keep,codeAny_func ?_⟩;obtain⟨t,ht,hq⟩:=h A outer s H vs Q E (G.deeper _) p;have I:Inv (dO CX P w K z base N qual scope f a A outer s H E) [] (start N vs) H Z:=Jc S G.hd m hl r x;refine WB (ht [] Z (start N vs) H _ I hq) (λfl R j=>?_) λe R j=>j;have fin:∀{d:St}{H':Hp}{v:V}{u:Value},Inv (dO CX P w K z base N qual scope f a A outer s H E) [] d H' R->RelV v u->Q v H'->CE outer P w H s Q u R:=
  λ{d H' v u} J O q=>⟨v,H',J.os,J.bare,J.base,J.hok,O,q⟩
 cases fl with
 |ret u=>obtain⟨v,d,H',J,O,q⟩:=j;exact fin J O q|next=>obtain⟨d,H',J,q⟩:=j;exact fin (v:=V.non) (u:=WJ) J rfl q|brk=>obtain⟨_,_,_,q⟩:=j;exact WR q|cont=>obtain⟨_,_,_,q⟩:=j;exact WR q
end L2
namespace L2
open PySem PySem.Spec PyProof.Rows
section
variable{X:Cx}{x:Str}{p pos:Xq}{e:Expr}{es:List Expr}{t:TA}{id T:String}{r:List V->Hp->VK->Prop}
noncomputable def wR(r:List V->Hp->VK->Prop)(t:TA):TE:=λσ H Q=>t σ H λvs a=>r vs a Q
theorem Jd(hc:CallR X (.builtin id) r)(n:Gl X x)(o:X.mg x=b6)(u:XB x=b4 (.builtin id))(l:PA X (e::es) t)(q:x ≠ "__name__":=by decide) (b:(x==("__debug__":Str))=false:=by decide)
  (m:Wt (e::es) X.env=(b7,eval e X.env)::Wt es X.env:=by rfl)(c:(Yy pos (Wt es X.env)).any (·.1)=false:=by rfl):PE X (.Call (.Name x p) (e::es) [] pos) (wR r t):=by
 intro a s d H Q I h;refine XY (i7 I n o u ?_ q b);exact Zg (aM (l pos a s d H _ I h) λz y ⟨A,i,j,w,v⟩=>hc a y d i A z Q j w v) m c
theorem Je(hc:CallR X (.type T) r)(n:Gl X x)(o:X.mg x=b6)(u:XB x=b4 (.type T))(l:PA X (e::es) t)(q:x ≠ "__name__":=by decide) (b:(x==("__debug__":Str))=false:=by decide)
  (m:Wt (e::es) X.env=(b7,eval e X.env)::Wt es X.env:=by rfl)(c:(Yy pos (Wt es X.env)).any (·.1)=false:=by rfl):PE X (.Call (.Name x p) (e::es) [] pos) (wR r t):=by
 intro a s d H Q I h;refine XY (i7 I n o u ?_ q b);exact XC (aM (l pos a s d H _ I h) λz y ⟨A,i,j,w,v⟩=>hc a y d i A z Q j w v) m c
end
end L2
namespace L2
open PySem PySem.Spec PyProof.Rows
section
variable{κ:Type} [DecidableEq κ]
noncomputable def eF(kvs:List (κ×V))(k:κ):Option V:=(kvs.find? λa=>decide (a.1=k)).map (·.2)
noncomputable def i9(kvs:List (κ×V))(k:κ)(v:V):List (κ×V):=
 if(kvs.any λa=>decide (a.1=k))=b8 then kvs.map (λa=>if a.1=k then(a.1,v)else a)else kvs++[(k,v)]
noncomputable def BO(kvs:List (κ×V))(k:κ):List (κ×V):=kvs.filter λa=>decide (a.1≠k)
theorem wU{p:κ×V}{r:List (κ×V)}{k:κ}(e:p.1=k):eF (p::r) k=b4 p.2:=by simp[eF,Xb,e]
theorem wV{p:κ×V}{r:List (κ×V)}{k:κ}(e:¬ p.1=k):eF (p::r) k=eF r k:=by simp[eF,Xb,e]
theorem BP(k:κ):∀kvs:List (κ×V),(kvs.any λa=>decide (a.1=k))=(eF kvs k).isSome
 |[]=>rfl|p::r=>by
  rw[YC];by_cases e:p.1=k
  ·simp only[wU e,decide_eq_true e,a5B,Option.isSome_some]
  ·rw[wV e,decide_eq_false e,a0S];exact BP k r
theorem RelO.isSome_eq{o:Option V}{u:Option Value}(r:RelO o u):o.isSome=u.isSome:=by
 cases o with
 |none=>cases u with
  |none=>rfl|some _=>exact(show False from r).elim
 |some _=>cases u with
  |none=>exact(show False from r).elim|some _=>rfl
theorem RelO.getD{o:Option V}{u:Option Value}{d:V}{d':Value}(r:RelO o u)(a:RelV d d'):RelV (o.getD d) (u.getD d'):=by
 cases o with
 |none=>cases u with
  |none=>exact a|some _=>exact(show False from r).elim
 |some _=>cases u with
  |none=>exact(show False from r).elim|some _=>exact r
theorem KV.val{kvs:List (κ×V)}{vs:List (κ×Value)}(r:KV kvs vs)(k:κ):RelO (eF kvs k) (a2D vs k):=by
 unfold KV at r;induction r with
 |nil=>exact YU|@cons p q l c h t j=>
  obtain⟨d,i⟩:=h;by_cases e:p.1=k
  ·have a:q.1=k:=d.symm.trans e;have b:a2D (q::c) k=b4 q.2:=by simp[a2D,Xb,a]
   rw[wU e,b];exact i
  ·have a:¬ q.1=k:=λz=>e (d.trans z);have b:a2D (q::c) k=a2D c k:=by simp[a2D,Xb,a]
   rw[wV e,b];exact j
theorem KV.any{kvs:List (κ×V)}{vs:List (κ×Value)}(r:KV kvs vs)(k:κ):(kvs.any λa=>decide (a.1=k))=vs.any λa=>decide (a.1=k):=by
 unfold KV at r;induction r with
 |nil=>rfl|cons h t b=>rw[YC,YC,b,h.1]
theorem KV.repl{kvs:List (κ×V)}{vs:List (κ×Value)}(r:KV kvs vs)(k:κ){y:V}{u:Value}(i:RelV y u) :
  KV (kvs.map λa=>if a.1=k then(a.1,y)else a) (vs.map λa=>if a.1=k then(a.1,u)else a):=by
 unfold KV at r ⊢;induction r with
 |nil=>exact .nil|@cons p q j l h t d=>
  rw[V0,V0];refine .cons ?_ d;obtain⟨b,c⟩:=h;by_cases e:p.1=k
  ·rw[if_pos e,if_pos (b.symm.trans e)];exact⟨b,i⟩
  ·rw[if_neg e,if_neg (λz=>e (b.trans z))];exact⟨b,c⟩
theorem KV.put{kvs:List (κ×V)}{vs:List (κ×Value)}(r:KV kvs vs)(k:κ){y:V}{u:Value}(a:RelV y u):KV (i9 kvs k y) (stored vs k u):=by
 unfold i9 stored;rw[r.any k];by_cases e:(vs.any λb=>decide (b.1=k))=b8
 ·rw[if_pos e,if_pos e];exact r.repl k a
 ·rw[if_neg e,if_neg e];exact a1j r ⟨rfl,a⟩
theorem KV.drop{kvs:List (κ×V)}{vs:List (κ×Value)}(r:KV kvs vs)(k:κ):KV (BO kvs k) (without vs k):=by
 unfold KV at r ⊢;unfold BO without;induction r with
 |nil=>exact .nil|@cons p q l m h t d=>
  obtain⟨c,j⟩:=h;rw[Yd,Yd];by_cases e:p.1=k
  ·have a:¬ decide (p.1≠k)=true:=by simp[e]
   have b:¬ decide (q.1≠k)=true:=by simp[c.symm.trans e]
   rw[if_neg a,if_neg b];exact d
  ·have i:¬ q.1=k:=λz=>e (c.trans z);have a:decide (p.1≠k)=true:=by simp[e]
   have b:decide (q.1≠k)=true:=by simp[i]
   rw[if_pos a,if_pos b];exact .cons ⟨c,j⟩ d
theorem KV.keys{kvs:List (κ×V)}{vs:List (κ×Value)}(r:KV kvs vs):kvs.map (·.1)=vs.map (·.1):=by
 unfold KV at r;induction r with
 |nil=>rfl|cons h t a=>rw[V0,V0,a,h.1]
theorem KV.length{kvs:List (κ×V)}{vs:List (κ×Value)}(r:KV kvs vs):kvs.length=vs.length:=a1Y r
end
noncomputable abbrev KT(H:Hp):List (List aQ×V)->List (List aQ×Addr×Value)->Prop:=Zj λp q=>p.1=q.1/\H q.2.1=b4 (.tup (p.1.map kV))/\RelV p.2 q.2.2
theorem KT.val{H:Hp}{kvs:List (List aQ×V)}{xs:List (List aQ×Addr×Value)}(r:KT H kvs xs)(k:List aQ):RelO (eF kvs k) ((a0B xs k).map (·.2)):=by
 induction r with
 |nil=>exact YU|@cons p q l c h t j=>
  obtain⟨d,_,i⟩:=h;by_cases e:p.1=k
  ·have a:q.1=k:=d.symm.trans e;have b:a0B (q::c) k=b4 q.2:=by simp[a0B,Xb,a]
   rw[wU e,b];exact i
  ·have a:¬ q.1=k:=λz=>e (d.trans z);have b:a0B (q::c) k=a0B c k:=by simp[a0B,Xb,a]
   rw[wV e,b];exact j
theorem KT.repl{H:Hp}{kvs:List (List aQ×V)}{xs:List (List aQ×Addr×Value)}(r:KT H kvs xs)(k:List aQ){y:V}{u:Value}(j:RelV y u) :
  KT H (kvs.map λb=>if b.1=k then(b.1,y)else b) (xs.map (a6y k u)):=by
 induction r with
 |nil=>exact .nil|@cons p q l m h t i=>
  rw[V0,V0];refine .cons ?_ i;obtain⟨a,c,d⟩:=h;unfold a6y;by_cases e:p.1=k
  ·rw[if_pos e,if_pos (a.symm.trans e)];exact⟨a,c,j⟩
  ·rw[if_neg e,if_neg (λz=>e (a.trans z))];exact⟨a,c,d⟩
theorem KT.put{H:Hp}{kvs:List (List aQ×V)}{xs:List (List aQ×Addr×Value)}(r:KT H kvs xs)(k:List aQ){b:Addr}{y:V}{u:Value}(c:H b=b4 (.tup (k.map kV)))(a:RelV y u) :
  KT H (i9 kvs k y) (a5m xs k b u):=by
 have e:(kvs.any λd=>decide (d.1=k))=(a0B xs k).isSome:=by rw[BP,(r.val k).isSome_eq,Zm]
 unfold i9 a5m;rw[e];by_cases q:(a0B xs k).isSome=b8
 ·rw[if_pos q,if_pos q];exact r.repl k a
 ·rw[if_neg q,if_neg q];exact a1j r ⟨rfl,c,a⟩
theorem KT.keeps{H H':Hp}{kvs:List (List aQ×V)}{xs:List (List aQ×Addr×Value)}(r:KT H kvs xs)(c:∀b a,H b=b4 (.tup a)->H' b=b4 (.tup a)):KT H' kvs xs:=
 Zj.mapP r λ_ _ z=>⟨z.1,c _ _ z.2.1,z.2.2⟩
section
variable{P:V6}{w:Wj}{H:Hp}{h:WI}{a:Addr}
end
noncomputable def DGet(H:Hp)(a:Addr)(y:V)(r:Option V):Prop:=
 (∃c k,Rd H a (.dK c)/\y=kV k/\r=eF c k)\/∃c k b,Rd H a (.dT c)/\y=.ref b/\H b=b4 (.tup (k.map kV))/\r=eF c k
noncomputable def DPut(H:Hp)(a:Addr)(y v:V)(H':Hp):Prop:=
 (∃c k,H a=b4 (.dK c)/\y=kV k/\c.length<VW/\H'=aI H a (.dK (i9 c k v))) \/
 ∃c k b,H a=b4 (.dT c)/\y=.ref b/\H b=b4 (.tup (k.map kV))/\c.length<VW/\H'=aI H a (.dT (i9 c k v))
theorem DGet.k{H:Hp}{a:Addr}{kvs:List (aQ×V)}{k:aQ}(e:H a=b4 (.dK kvs)):DGet H a (kV k) (eF kvs k):=.inl ⟨kvs,k,.inl e,rfl,rfl⟩
theorem DGet.t{H:Hp}{a b:Addr}{kvs:List (List aQ×V)}{k:List aQ}(e:H a=b4 (.dT kvs))(c:H b=b4 (.tup (k.map kV))):DGet H a (.ref b) (eF kvs k):=.inr ⟨kvs,k,b,.inl e,rfl,c,rfl⟩
theorem DPut.k{H:Hp}{a:Addr}{kvs:List (aQ×V)}{k:aQ}{v:V}(e:H a=b4 (.dK kvs))(b:kvs.length<VW):DPut H a (kV k) v (aI H a (.dK (i9 kvs k v))):=.inl ⟨kvs,k,e,rfl,b,rfl⟩
theorem DPut.t{H:Hp}{a b:Addr}{kvs:List (List aQ×V)}{k:List aQ}{v:V}(e:H a=b4 (.dT kvs))(c:H b=b4 (.tup (k.map kV)))(d:kvs.length<VW) :
  DPut H a (.ref b) v (aI H a (.dT (i9 kvs k v))):=.inr ⟨kvs,k,b,e,rfl,c,d,rfl⟩
section
variable{X:Cx}{a6G:List (Addr×Obj)}{σ:St}{H:Hp}{s:VL}{a:Addr}{y v:V}{u r:Value}{o:Option V}{A:Wh}{E:Value->VL->Prop}
theorem Inv.big(I:Inv X a6G σ H s):XZ<s.heap.objs.size:=by have h:WD<s.heap.objs.size:=(I.mod.glob.keeps I.bk).lt;exact YZ (by decide) h
theorem BQ{h':WI}{t':Nat}{c:HO}(I:Inv X a6G σ H s)(i:pL (H a))(h:Zw a s.heap h')(e:∃q,h'.get? a=b4 q)(new:ObjOk X.prog X.w (aI H a c) h' a c) :
  Inv X a6G σ (aI H a c) {s with heap:=h',toks:=t'}:=
 I.write (x:=a) (e:=a) i (.inl rfl) (λb q d z=>(h.2 b d).trans z) e new
end
section
variable{X:Cx}{a6G:List (Addr×Obj)}{σ:St}{H:Hp}{s:VL}{a:Addr}{kvs:List (aQ×V)}{k:aQ}{u:Value}{A:Wh}{E:Value->VL->Prop}
end
noncomputable def BR(i:Expr):Prop:=∀b a,a2s i b7 b a=operate [b,a] (a2E b a)
theorem Jf{prog:V6}{w:Wj}{A:Wh}{E:Value->VL->Prop}{s:VL}{env:a0k}{b a:Expr}{pos:Xq}{T id:String}{Q:Value->VL->Prop}
  (p:YK (.type T) "__getitem__"=pure (b4 (.builtin id))) (q:BR a)
  (h:V2 (V8 prog w) A (eval b env) (λo e=>V2 (V8 prog w) A (eval a env) (λi c=>c.TypeIs o T/\V2 (V8 prog w) A (a2E o i) Q E c) E e) E s) :
  V2 (V8 prog w) A (eval (.Subscript b a pos) env) Q E s:=by
 refine a2V (WB h (λo e l=>WB l (λi c d=>?_) λ_ _ x=>x) λ_ _ x=>x);obtain⟨n,d⟩:=d;unfold a1n;refine VH ?_;rw[getitemInPython_of_ne n.not_modules];refine VH (a5U n p ?_);have fin:V2 (V8 prog w) A (a2s a b7 o i) (λr j=>V2 (V8 prog w) A (letTemporaryGo b o r >>= λ_=>pure r) Q E j) E c:=by rw[q o i];exact wpAny_operating (WB d (λr j m=>VH (wpAny_letTemporaryGo (VQ m))) λ_ _ x=>x)
 first
  |exact VQ (VH fin)|exact VH (VQ (VH fin))|exact VH fin
section
variable{X:Cx}{o i e value:Expr}{pos pos' tpos:Xq}{td ty tv:TE}
end
section
variable{X:Cx}{pos:Xq}
end
noncomputable def BS:List (TE×TE)->St->Hp->(List (V×V)->Hp->Prop)->Prop
 |[],_,H,Q=>Q [] H|(tk,tv)::r,σ,H,Q=>tk σ H λx a=>tv σ a λy b=>BS r σ b λd c=>Q ((x,y)::d) c
noncomputable abbrev VV:List (V×V)->List (Value×Value)->Prop:=Zj λp q=>RelV p.1 q.1/\RelV p.2 q.2
noncomputable def Jg(X:Cx)(pos:Xq)(keys:List (Option Expr))(a:List Expr)(b:List (TE×TE)):Prop:=
 ∀(a6G:List (Addr×Obj))(s:VL)(σ:St)(H:Hp)(Q:List (V×V)->Hp->Prop),Inv X a6G σ H s->BS b σ H Q->
  V2 (V8 X.prog X.w) X.A (evalPairs (pairTrees keys a X.env pos)) (λh e=>∃d c,Inv X a6G σ c e/\VV d h/\Q d c) X.xe s
structure M1(X:Cx)(o:Expr)(m:Str)(apos:Xq)(e:Expr)(cpos:Xq):Prop where
 base:Zq o m X.env (eval o X.env)=eval o X.env
 few:((Yy cpos (Wt [e] X.env)).all (λx=>!x.1)&&(a2U cpos (a0W [] X.env)).all (λx=>x.1.isSome)
  && decide (([e]:List Expr).length+([]:List Zv).length+(if([]:List Zv).isEmpty then 0 else 1)<30))=b8
 line:(apos.endLine==cpos.line)=b8
 trees:Yy cpos (Wt [e] X.env)=[(b7,eval e X.env)]
structure M2(X:Cx)(o:Expr)(m:Str)(apos:Xq)(e f:Expr)(cpos:Xq):Prop where
 base:Zq o m X.env (eval o X.env)=eval o X.env
 few:((Yy cpos (Wt [e,f] X.env)).all (λx=>!x.1)&&(a2U cpos (a0W [] X.env)).all (λx=>x.1.isSome)
  && decide (([e,f]:List Expr).length+([]:List Zv).length+(if([]:List Zv).isEmpty then 0 else 1)<30))=b8
 line:(apos.endLine==cpos.line)=b8
 trees:Yy cpos (Wt [e,f] X.env)=[(b7,eval e X.env),(b7,eval f X.env)]
noncomputable def IsD(H:Hp)(a:Addr):Prop:=(∃kvs,Rd H a (.dK kvs))\/∃kvs,Rd H a (.dT kvs)
section
variable{X:Cx}{a6G:List (Addr×Obj)}{σ:St}{H:Hp}{s:VL}{a:Addr}{y d:V}{u r:Value}{o:Option V}{A:Wh}{E:Value->VL->Prop}
end
section
variable{X:Cx}{o e f:Expr}{apos cpos:Xq}{td ty tx:TE}
end
section
variable{X:Cx}{a6G:List (Addr×Obj)}{σ:St}{H:Hp}{s:VL}{a:Addr}{kvs:List (aQ×V)}{A:Wh}{E:Value->VL->Prop}
end
section
variable{X:Cx}{a6G:List (Addr×Obj)}{σ:St}{H:Hp}{s:VL}{a:Addr}{y:V}{u:Value}{A:Wh}{E:Value->VL->Prop}
end
end L2
namespace HT
open PySem PyProof.Rows
noncomputable def lexLt:List Int->List Int->Bool
 |[],[]=>b7|[],_::_=>b8|_::_,[]=>b7|x::xs,y::ys=>if x=y then lexLt xs ys else decide (x<y)
theorem Jh(x y:Int)(xs a:List Int):lexLt (x::xs) (y::a)=if x=y then lexLt xs a else decide (x<y):=rfl
theorem Ji:lexLt [] []=false:=rfl
theorem Jj(y:Int)(a:List Int):lexLt [] (y::a)=true:=rfl
theorem Jk(x:Int)(xs:List Int):lexLt (x::xs) []=false:=rfl
theorem Jl(A:Wh)(s:VL)(a:Int)(t:a5a)(c:Int)(u:a5a):∃e,Zb A s (.int a t) (.int c u) e/\(e=b8↔a=c):=
 ⟨(a==c),SeqAt.EqAt.int_int a t c u,by simp⟩
theorem Jm(A:Wh)(s:VL)(a:Int)(t:a5a)(c:Int)(u:a5a)(prog:V6)(w:Wj)(E:Value->VL->Prop)(Q:Value->VL->Prop)(h:Q (.bool (decide (a<c))) s) :
  V2 (V8 prog w) A (Y6 .Lt (.int a t) (.int c u)) Q E s:=
 (a6c h:V2 (V8 prog w) A (W6 .Lt (.int a t) (.int c u)) Q E s)
section
open PySem.SeqAt
open PySem.AutoSeq1 (wpAny_loadPart')
open PySem.MeetsSeq PySem.MeetsSeq2 PySem.MeetsSeq3
theorem Jn(l b:Addr)(items i:Array Value)(n n2:Nat)(dd M:Option Addr)(sl Q:Array (Option Value))(ns ms:List Int)(T:Zd items.toList ns)(U:Zd i.toList ms) :
  Meets (Builtin.«tuple.__lt__» ⟨[.ref l,.ref b],[]⟩)
   (λ_ R s=>s.heap.get? l=b4 {cls:=.type "tuple",dict:=dd,data:=.seq items n,slots:=sl}/\s.heap.get? b=b4 {cls:=.type "tuple",dict:=M,data:=.seq i n2,slots:=Q} /\
    R (.ok (.ret (.bool (lexLt ns ms)))) s):=
 .of_wp λB w A R s h=>by
  obtain⟨J,g,d,L,K⟩:=s;obtain⟨hl,Y,h⟩:=h;have f2:=AutoSeq1.sub_tuple_tuple;have z1:items.size=ns.length:=by rw[<- T.length];simp
  have z2:i.size=ms.length:=by rw[<- U.length];simp
  wp_walk using Zs hl,Zs Y,wpAny_forIn_list _ (λrest b O=>b.1=b6/\O=⟨J,g,d,L,K⟩/\∃(vs ws:List Value)(o m:List Int),rest=vs.zip ws /\
   Zd vs o/\Zd ws m/\o.length+i.size=m.length+items.size/\R (.ok (.ret (.bool (lexLt o m)))) ⟨J,g,d,L,K⟩) _
  case turn=>
   rintro⟨y,x⟩ rest b O ⟨E,rfl,vs,ws,o,m,r,G,p,j,v⟩;cases G with
   |nil=>rw[List.zip_nil_left]at r;cases r|cons a t H=>
    cases p with
    |nil=>rw[List.zip_nil_right]at r;cases r|cons c u I=>
     rw[a0T]at r;injection r with hyx hrest;injection hyx with hy hx;subst hy hx;rw[Jh]at v;simp only[Wc]at j;obtain⟨e,Z,z⟩:=Jl A.in1 ⟨J,g,d,L,K⟩ a t c u;refine VH (Z B w _ _ ?_);cases e with
     |true=>rw[if_pos (z.mp rfl)]at v;wp_walk;exact⟨rfl,rfl,_,_,_,_,hrest,H,I,by omega,v⟩|false=>rw[if_neg (λq=>absurd (z.mpr q) VZ)]at v;have N:=Jm A.in1 ⟨J,g,d,L,K⟩ a t c u B w;wp_walk using N;exact⟨_,rfl,by simpa using v⟩
  case fin=>
   rintro⟨b1,b2⟩ O ⟨E,rfl,vs,ws,o,m,r,G,p,j,v⟩;simp only at E;subst E;have X:lexLt o m=decide (items.size<i.size):=by
    cases G with
    |nil=>
     cases p with
     |nil=>simp only[YB]at j;rw[Ji];exact(decide_eq_false (by omega)).symm|cons c u hw=>simp only[YB,Wc]at j;rw[Jj];exact(decide_eq_true (by omega)).symm
    |cons a t X=>
     cases p with
     |nil=>simp only[YB,Wc]at j;rw[Jk];exact(decide_eq_false (by omega)).symm|cons c u hw=>rw[a0T]at r;cases r
   rw[X]at v;wp_walk;exact⟨_,rfl,by simpa[a5S]using v⟩
  case h=>exact⟨rfl,rfl,items.toList,i.toList,ns,ms,rfl,T,U,by omega,h⟩
end
section
variable{prog:V6}{w:Wj}{A:Wh}{E:Value->VL->Prop}{s:VL}
theorem lt_tupInts{l b:Addr}{items a:Array Value}{ns ms:List Int}{Q:Value->VL->Prop}(z:a5A s.heap l items)(u:a5A s.heap b a)(v:Zd items.toList ns)(y:Zd a.toList ms)
  (B:A.units<Xs)(h:Q (.bool (lexLt ns ms)) s):V2 (V8 prog w) A (W6 .Lt (.ref l) (.ref b)) Q E s:=by
 obtain⟨⟨cls,r,p,H⟩,q,hc,n,hd⟩:=id z;obtain⟨⟨o,j,i,m⟩,e,c,G,d⟩:=id u;simp only at hc hd c d;subst hc hd c d;exact richCompare_meets_room (op:=.Lt) ⟨_,q,rfl⟩ ⟨_,e,rfl⟩ PySem.F.slot_tuple_lt PySem.F.entry_tuple_lt (PySem.F.args_tuple_lt_2 _ _) (Jn l b items a n G r j H m ns ms v y)
  ⟨q,e,show XE (lexLt ns ms)≠Value.notImplemented/\Q (.bool (lexLt ns ms)) s from⟨(λx=>nomatch x),h⟩⟩ B
noncomputable def sIx(n d:Nat):Option Int->Nat
 |none=>d|some v=>if v<0 then(v+(n:Int)).toNat else min v.toNat n
theorem sIx_none(n d:Nat):sIx n d b6=d:=rfl
theorem sIx_nat(n d k:Nat):sIx n d (b4 (k:Int))=min k n:=by show(if(k:Int)<0 then((k:Int)+(n:Int)).toNat else min (k:Int).toNat n)=min k n;rw[if_neg (by omega),XN]
end
end HT
namespace L2
open PySem PySem.Spec PyProof.Rows
noncomputable abbrev TO:=St->Hp->(Option Int->Hp->Prop)->Prop
noncomputable def PO(X:Cx)(e:Option Expr)(t:TO):Prop:=
 ∀(a6G:List (Addr×Obj))(s:VL)(σ:St)(H:Hp)(Q:Option Int->Hp->Prop),Inv X a6G σ H s->t σ H Q->
  V2 (V8 X.prog X.w) X.A (evalPart e X.env) (λu b=>∃o a,Inv X a6G σ a b/\IsPart u o/\Q o a) X.xe s
noncomputable def Jo:TO:=λ_ H Q=>Q b6 H
noncomputable def Jp(t:TE):TO:=λσ H Q=>t σ H λx a=>∃i,x=.int i/\Q (b4 i) a
theorem wW{ns:List Int}:∀{us:List Value},Vals (ns.map V.int) us->Zd us ns:=by
 induction ns with
 |nil=>intro us r;rw[a5y]at r;cases r;exact .nil|cons n ns a=>
  intro us r;rw[V0]at r;cases r with
  |cons b c=>obtain⟨t,e⟩:=b;subst e;exact .cons n t (a c)
section
variable{X:Cx}{e:Expr}{te:TE}{lo hi:Option Expr}{tl th:TO}{pos p2:Xq}
theorem Jq:PO X b6 Jo:=by intro a s b H Q I h;rw[evalPart_none];exact VQ ⟨b6,H,I,.none,h⟩
theorem Jr(h:PE X e te):PO X (b4 e) (Jp te):=by intro a s l H Q I hw;rw[evalPart_some];refine aM (h a s l H _ I hw) λu m ⟨x,b,c,j,d⟩=>?_;obtain⟨i,rfl,q⟩:=d;obtain⟨t,rfl⟩:=j;exact⟨b4 i,b,c,.int i t,q⟩
noncomputable def SlR(X:Cx)(r:V->Option Int->Option Int->Hp->VK->Prop):Prop:=
 ∀(a6G:List (Addr×Obj))(s:VL)(σ:St)(H:Hp)(x:V)(v b c:Value)(lo hi:Option Int)(a:Addr)(Q:VK),Inv X a6G σ H s->RelV x v->s.heap.IsSliceOf a b c .none->IsPart b lo->IsPart c hi->r x lo hi H Q->
  ∃T id,YK (.type T) "__getitem__"=pure (b4 (.builtin id))/\s.TypeIs v T/\V2 (V8 X.prog X.w) X.A (a2E v (.ref a)) (EP X a6G σ Q) X.xe s
theorem SlR.or{r i:V->Option Int->Option Int->Hp->VK->Prop}(h:SlR X r)(h':SlR X i):SlR X (λx lo hi H Q=>r x lo hi H Q\/i x lo hi H Q):=by
 intro a s o H x v m n lo hi l Q I j b c d q;rcases q with q|q
 ·exact h a s o H x v m n lo hi l Q I j b c d q
 ·exact h' a s o H x v m n lo hi l Q I j b c d q
noncomputable def Js(r:V->Option Int->Option Int->Hp->VK->Prop)(te:TE)(tl th:TO):TE:=λσ H Q=>te σ H λx a=>tl σ a λl b=>th σ b λu c=>r x l u c Q
theorem Jt{r:V->Option Int->Option Int->Hp->VK->Prop}(J:SlR X r)(B:PE X e te)(G:PO X lo tl)(L:PO X hi th):PE X (.Subscript e (.Slice lo hi b6 p2) pos) (Js r te tl th):=by intro a s d H Q I h;refine a2V (aM (B a s d H _ I h) λv Z ⟨x,n,p,Y,O⟩=>?_);refine wpAny_Slice (aM (G a Z d n _ p O) λi s2 ⟨l,o,w,M,R⟩=>aM (L a s2 d o _ w R) λj c ⟨u,m,y,N,U⟩=>?_);rw[evalPart_none];refine VQ ?_;have z:Inv X a d m {c with heap:=c.heap.push {cls:=.type "slice",data:=.fields #[i,j,.none]}}:=y.kept (t':=c.toks) λb ob q=>VM _ q;obtain⟨T,id,A,K,E⟩:=J a {c with heap:=c.heap.push {cls:=.type "slice",data:=.fields #[i,j,.none]}} d m x v i j l u c.heap.objs.size Q z Y (a1H ..) M N U;show V2 (V8 X.prog X.w) X.A (a1n e (.Slice lo hi b6 p2) v (.ref c.heap.objs.size)) (EP X a d Q) X.xe {c with heap:=c.heap.push {cls:=.type "slice",data:=.fields #[i,j,.none]}};exact a6v (ops:=[.ref c.heap.objs.size,v]) K A E (by with_unfolding_all rfl)
noncomputable def kI(xs:List V)(lo hi:Option Int):List V:=(xs.drop (HT.sIx xs.length 0 lo)).take (HT.sIx xs.length xs.length hi-HT.sIx xs.length 0 lo)
theorem Ju(xs:List V)(lo hi:Option Int):(kI xs lo hi).length<=xs.length:=by unfold kI;rw[WV,Ys];omega
end
end L2
namespace L2
open PySem PySem.Spec PyProof.Rows
noncomputable def jA(n:Nat)(i:Int):Option Nat:=if 0<=i then(if i<n then b4 i.toNat else b6)else if -(n:Int)<=i then b4 (i+n).toNat else b6
noncomputable def atI{a:Type}(xs:List a)(i:Int):Option a:=(jA xs.length i).bind λj=>xs[j]?
theorem BU{n:Nat}{i:Int}{j:Nat}(h:jA n i=b4 j):seqIndex? i n=b4 j/\j<n/\-(n:Int)<=i/\i<n:=by
 unfold jA at h;by_cases b:0<=i
 ·rw[if_pos b]at h;by_cases a:i<n
  ·rw[if_pos a]at h;have e:i.toNat=j:=VY h;exact⟨by rw[a4B b a,e],by omega,by omega,a⟩
  ·rw[if_neg a]at h;cases h
 ·rw[if_neg b]at h;by_cases a:-(n:Int)<=i
  ·rw[if_pos a]at h;have e:(i+n).toNat=j:=VY h;exact⟨by rw[a3S (by omega) a,e],by omega,a,by omega⟩
  ·rw[if_neg a]at h;cases h
theorem wX{a:Type}{xs:List a}{i:Int}{v:a}(h:atI xs i=b4 v):∃j,seqIndex? i xs.length=b4 j/\xs[j]?=b4 v/\j<xs.length/\-(xs.length:Int)<=i/\i<xs.length:=by
 unfold atI at h;cases e:jA xs.length i with
 |none=>rw[e]at h;cases h|some j=>rw[e]at h;obtain⟨b,c,d,l⟩:=BU e;exact⟨j,b,h,c,d,l⟩
noncomputable def wY(b:Expr):Prop:=∀o i,a2s b b7 o i=operate [o,i] (a2E o i)
noncomputable def IxR(X:Cx)(r:R2):Prop:=
 ∀(b a:Expr)(a6G:List (Addr×Obj))(s:VL)(σ:St)(H:Hp)(x y:V)(v u:Value)(Q:VK),Inv X a6G σ H s->RelV x v->RelV y u->r x y H Q->
  a2s a b7 v u=operate [v,u] (a2E v u)->V2 (V8 X.prog X.w) X.A (a1n b a v u) (EP X a6G σ Q) X.xe s
noncomputable def MtR(X:Cx)(id:String)(r:V->List V->Hp->VK->Prop):Prop:=
 ∀(a6G:List (Addr×Obj))(s:VL)(σ:St)(H:Hp)(x:V)(xs:List V)(v:Value)(us:List Value)(Q:VK),Inv X a6G σ H s->RelV x v->Vals xs us->r x xs H Q->
  V2 (V8 X.prog X.w) X.A (call (.builtin id) (v::us)) (EP X a6G σ Q) X.xe s
section
variable{X:Cx}{a b:Expr}{ta tb:TE}{pos:Xq}
theorem IxR.or{r j:R2}(h:IxR X r)(h':IxR X j):IxR X (λx y H Q=>r x y H Q\/j x y H Q):=by
 intro d c e s n H x y v u Q I l m q i;rcases q with q|q
 ·exact h d c e s n H x y v u Q I l m q i
 ·exact h' d c e s n H x y v u Q I l m q i
theorem MtR.or{id:String}{r d:V->List V->Hp->VK->Prop}(h:MtR X id r)(h':MtR X id d):MtR X id (λx xs H Q=>r x xs H Q\/d x xs H Q):=by
 intro c s l H x xs v j Q I i e q;rcases q with q|q
 ·exact h c s l H x xs v j Q I i e q
 ·exact h' c s l H x xs v j Q I i e q
theorem Jv{r:R2}(l:IxR X r)(i:PE X a ta)(j:PE X b tb)(m:wY b):PE X (.Subscript a b pos) (pQ r ta tb):=by intro c s w H Q I h;exact a2V (wF i j I h λv u p x y d e n o q=>l a b c p w d x y v u Q e n o q (m _ _))
noncomputable def BV(K:VG):R2:=λx y H Q=>∃p xs i v,x=.ref p/\y=.int i/\SqL K H p xs/\atI xs i=b4 v/\Q v H
noncomputable def BW(K:VG):R2:=λx y H Q=>∃p xs i v,x=.ref p/\y=.int i/\SqT K H p xs/\atI xs i=b4 v/\Q v H
noncomputable def BX:R2:=λx y H Q=>∃z i c,x=.str z/\y=.int i/\z.length<=VW/\atI z.cps.toList i=b4 c/\Q (.str ⟨#[c]⟩) H
theorem ix_list:IxR X (BV X.K):=by
 intro A o c s J H x y v u Q I T U h G;obtain⟨p,xs,i,z,rfl,rfl,R,N,q⟩:=h;cases T;obtain⟨t,rfl⟩:=U;obtain⟨l,r,m,hz⟩:=I.list R;obtain⟨j,d,K,Z,L,M⟩:=wX N;obtain⟨w,B,n⟩:=r.get K;have O:=r.length;have hn:=kH;have fin:EP X c J Q w s:=⟨z,H,I,n,q⟩;by_cases E:0<=i
 ·have e:i.toNat=j:=by rw[a4B E M]at d;exact VY d
  exact item_listR m.isList E (by omega) (by rw[e];simpa using B) fin G
 ·have e:(i+(l.toArray.size:Int)).toNat=j:=by rw[a3S (by omega) L]at d;rw[V7,<- O];exact VY d
  exact a3R (x:=w) m.isList.typeIs a1J.lookup
   (wpAny_getItem_list_neg (Q:=λr Y=>r=w/\EP X c J Q r Y) m.isList (by omega) (by rw[V7]<;>omega) (by omega) (by rw[e];simpa using B) ⟨rfl,fin⟩) G
theorem ix_tup:IxR X (BW X.K):=by
 intro l e c s n H x y v u Q I M N h K;obtain⟨p,xs,i,z,rfl,rfl,J,E,q⟩:=h;cases M;obtain⟨t,rfl⟩:=N;obtain⟨L,r,m,Z⟩:=I.tuple J;obtain⟨j,A,B,R,T,U⟩:=wX E;obtain⟨w,o,d⟩:=r.get B;have G:=r.length;have Y:=kH;have fin:EP X c n Q w s:=⟨z,H,I,d,q⟩;exact a3R (x:=w) m.typeIs slot_tuple_getitem.lookup
  (getItem_tuple (j:=j) (Q:=λr O=>r=w/\EP X c n Q r O) m (by omega) (by omega) (by rw[V7,<- G];exact A) (by simpa using o) ⟨rfl,fin⟩) K
theorem Jw:IxR X BX:=by
 intro e d m s O H x y v u Q I G J h E
 obtain ⟨z,i,c,rfl,rfl,M,A,q⟩:=h
 obtain ⟨t,rfl⟩:=G
 obtain ⟨N,rfl⟩:=J
 obtain ⟨j,l,p,K,r,w⟩:=wX A
 have B:z.cps.toList.length=z.length:=by simp [Str.length]
 rw [B] at l r w
 have L:=kH
 exact a6v (typeIs_str s z t) slot_str_getitem.lookup (getItem_str (c:=c) (by
  have n:decide (i < -(2 ^ 63:Int))=false:=decide_eq_false (by omega)
  have o:decide (i >= 2 ^ 63)=false:=decide_eq_false (by omega)
  rw [n,o,a2x]) (by rw [l];simpa using p) ⟨.str ⟨#[c]⟩,H,I.tok _,⟨_,rfl⟩,q⟩) E
noncomputable def BY (K:VG):R2:=fun x y H Q=>BV K x y H Q\/BW K x y H Q\/BX x y H Q
theorem Jx:IxR X (BY X.K):=ix_list.or (ix_tup.or Jw)
theorem Jy(c:List Value)(n j:Nat)(u:Value):WU (·.setIfInBounds j u) {cls:=.type "list",data:=.seq c.toArray n}={cls:=.type "list",data:=.seq (c.set j u).toArray n}:=by simp[WU]
theorem Inv.lst{a6G:List (Addr×Obj)}{σ:St}{H:Hp}{s:VL}{p:Addr}{xs:List V}(I:Inv X a6G σ H s)(h:H p=b4 (.lst xs)) :
  ∃(c:List Value)(n:Nat),Vals xs c/\s.heap.get? p=b4 {cls:=.type "list",data:=.seq c.toArray n}/\xs.length<=VW:=by
 obtain⟨z,c,n,r,e⟩:=I.hok p _ h;exact⟨c,n,r,e,z⟩
theorem Inv.lstUpd{a6G:List (Addr×Obj)}{σ:St}{H:Hp}{s:VL}{p:Addr}{xs i:List V}{c its':List Value}{n d:Nat}{f:Obj->Obj}(I:Inv X a6G σ H s)(h:H p=b4 (.lst xs))
  (m:s.heap.get? p=b4 {cls:=.type "list",data:=.seq c.toArray n}) (j:f {cls:=.type "list",data:=.seq c.toArray n}={cls:=.type "list",data:=.seq its'.toArray d}) (r:Vals i its')(hz:i.length<=VW)(t:Nat) :
  Inv X a6G σ (aI H p (.lst i)) {s with heap:=s.heap.update p f,toks:=t}:=by
 have e:(s.heap.update p f).get? p=b4 {cls:=.type "list",data:=.seq its'.toArray d}:=by rw[WH f m (by rw[j]<;>rfl),j]
 refine I.write (x:=p) (e:=p) (by rw[h];trivial) (.inl rfl) (λb u l q=>(Wi _ _ (WG l)).trans q) ⟨_,e⟩ ?_;exact⟨hz,its',d,r,e⟩
noncomputable def wZ:V->V->V->Hp->(Hp->Prop)->Prop:=λo i v H Q=>∃p xs k j,o=.ref p/\i=.int k/\H p=b4 (.lst xs)/\jA xs.length k=b4 j/\Q (aI H p (.lst (xs.set j v)))
theorem Jz:Ic X wZ:=by
 intro e s N H o i v U T u Q I K J L h;obtain⟨p,M,k,j,rfl,rfl,B,E,q⟩:=h;cases K;obtain⟨t,rfl⟩:=J;obtain⟨c,n,r,w,G⟩:=I.lst B;obtain⟨d,O,z,A⟩:=BU E;have m:=r.length;have R:=kH;have x:Inv X e N (aI H p (.lst (M.set j v))) {s with heap:=s.heap.update p (WU (·.setIfInBounds j u))}:=
  I.lstUpd B w (Jy c n j u) (r.set L j) (by rw[XD];exact G) s.toks
 by_cases y:0<=k
 ·have l:k.toNat=j:=by rw[a4B y A]at d;exact VY d
  exact PySem.W.ki_setAt w y (by omega) (by rw[V7,<- m];exact A) (by rw[l];exact⟨_,x,q⟩)
 ·have l:(k+(c.toArray.size:Int)).toNat=j:=by rw[a3S (by omega) z]at d;rw[V7,<- m];exact VY d
  exact PySem.W.ki_setBack w (by omega) (by rw[V7,<- m];exact z) (by omega) (by rw[l];exact⟨_,x,q⟩)
theorem JA(lo c:Option Int)(n:Nat):(YE lo c b6 n).1=((HT.sIx n 0 lo:Nat):Int)/\(YE lo c b6 n).2.1=((HT.sIx n n c:Nat):Int)/\(YE lo c b6 n).2.2=1:=by
 refine⟨?_,?_,rfl⟩
 ·cases lo with
  |none=>simp[YE,HT.sIx]|some i=>
   simp only[YE,HT.sIx,a3K,show(1:Int)>0 by decide,if_true];by_cases h:i<0
   ·simp only[h,if_true]<;>omega
   ·simp only[h,if_false]<;>omega
 ·cases c with
  |none=>simp[YE,HT.sIx]|some i=>
   simp only[YE,HT.sIx,a3K,show(1:Int)>0 by decide,if_true];by_cases h:i<0
   ·simp only[h,if_true]<;>omega
   ·simp only[h,if_false]<;>omega
theorem JB(c:List Value)(lo d:Option Int):a3C c.toArray lo d b6=((c.drop (HT.sIx c.length 0 lo)).take (HT.sIx c.length c.length d-HT.sIx c.length 0 lo)).toArray:=by obtain⟨e,h,i⟩:=JA lo d c.toArray.size;unfold a3C;rw[e,h,i];simp only[sliceRange_one,pick_run,V7]<;>rfl
noncomputable def w4(K:VG):V->Option Int->Option Int->Hp->VK->Prop:=λx lo c H Q=>∃a xs,x=.ref a/\SqL K H a xs/\∀p,H p=b6->Q (.ref p) (aI H p (.lst (kI xs lo c)))
theorem JC:SlR X (w4 X.K):=by intro l s G H x v B E e i A Q I y m u w h;obtain⟨a,c,rfl,n,q⟩:=h;cases y;obtain⟨p,r,j,o⟩:=I.list n;have d:=r.length;refine⟨"list",_,a1J.lookup,j.isList.typeIs,?_⟩;refine a3p j.isList m u w .none (by simp) ?_ (by rw[V7]<;>omega);rw[JB,<- d];refine⟨.ref s.heap.objs.size,_,I.laid (t':=s.toks) (o:=.lst (kI c e i)) (λb z q=>VM _ q) (VS _) ?_,rfl,q _ (I.hok.fresh (VS _))⟩;exact⟨WM (Ju c e i) o,_,0,(r.drop (HT.sIx c.length 0 e)).take (HT.sIx c.length c.length i-HT.sIx c.length 0 e),VX _ rfl⟩
theorem BZ:OpR X (W6 .NotIn) (λx y H Q=>∃i j,x=.str i/\y=.str j/\Q (.bl (!(!(Xo j i 0 j.length 1).isEmpty))) H):=by intro c s m H x y v u Q I d e h;obtain⟨i,j,rfl,rfl,q⟩:=h;obtain⟨t,rfl⟩:=d;obtain⟨l,rfl⟩:=e;exact notIn_str ⟨.bl _,H,I,rfl,q⟩
theorem call_len_seq:CallR X (.builtin "len") (λxs H Q=>∃p d,xs=[.ref p]/\(SqL X.K H p d\/SqT X.K H p d)/\Q (.int d.length) H):=by
 intro m s x H xs w Q I r h;obtain⟨p,d,rfl,e,q⟩:=h;obtain⟨u,rfl,o⟩:=i8 r;cases o;have v:=kH;rcases e with e|e
 ·obtain⟨i,l,j,n⟩:=I.list e;have c:=l.length;exact Calls.call_len_list j.isList (by simp only[V7]<;>omega) ⟨.int d.length,H,I.tok _,⟨s.toks+1,by rw[V7,c]⟩,q⟩
 ·obtain⟨i,l,j,n⟩:=I.tuple e;have c:=l.length;exact len_tuple j (by simp only[V7]<;>omega) ⟨.int d.length,H,I.tok _,⟨s.toks+1,by rw[V7,c]⟩,q⟩
theorem JD:CallR X (.builtin "len") (λxs H Q=>∃z,xs=[.str z]/\z.length<=VW/\Q (.int z.length) H):=by intro c s j H xs i Q I r h;obtain⟨z,rfl,e,q⟩:=h;obtain⟨u,rfl,t,rfl⟩:=i8 r;have d:=kH;exact len_str (by omega) ⟨.int z.length,H,I.tok _,⟨_,rfl⟩,q⟩
theorem CallR.or{f:Value}{r d:List V->Hp->VK->Prop}(h:CallR X f r)(h':CallR X f d):CallR X f (λxs H Q=>r xs H Q\/d xs H Q):=by
 intro c s j H xs i Q I e q;rcases q with q|q
 ·exact h c s j H xs i Q I e q
 ·exact h' c s j H xs i Q I e q
theorem B0:CallR X (.type "tuple") (λxs H Q=>∃p d,xs=[.ref p]/\((SqL X.K H p d/\∀l,H l=b6->Q (.ref l) (aI H l (.tup d)))\/(SqT X.K H p d/\Q (.ref p) H))):=by
 intro i s z H xs G Q I r h;obtain⟨p,d,rfl,h⟩:=h;obtain⟨u,rfl,E⟩:=i8 r;cases E;rcases h with⟨m,q⟩|⟨m,q⟩
 ·obtain⟨c,v,n,y⟩:=I.list m;have x:=v.length;refine call_tuple_list n.isList (λj B=>?_) (by simp only[V7]<;>omega);have w:Inv X i z H {s with heap:=j}:=I.kept (t':=s.toks) B;have A:Inv X i z (aI H j.objs.size (.tup d)) {s with heap:=j.push {cls:=.type "tuple",data:=.seq c.toArray}}:=
   w.laid (t':=s.toks) (λb o e=>VM _ e) (VS _) (show ObjOk X.prog X.w _ _ _ (.tup d)from⟨y,c,v,TupN.new _ _⟩)
  exact⟨.ref j.objs.size,_,A,rfl,q _ (w.hok.fresh (VS _))⟩
 ·obtain⟨c,v,n,y⟩:=I.tuple m;exact call_tuple_same n ⟨.ref p,H,I,rfl,q⟩
noncomputable def w5(K:VG)(T:String)(x:V)(H:Hp):Prop:=match x with
 |.str _=>T="str"|.int _=>T="int"|.ref p=>(T="list"/\∃d,SqL K H p d)\/(T="tuple"/\∃o,K.lookup p=b4 o/\o.cls=.type "tuple"/\o.dict=b6) \/
   (T="dict"/\((∃c,H p=b4 (.dK c))\/∃c,H p=b4 (.dT c)))\/(T="set"/\∃S n,H p=b4 (.set S n))
 |_=>False
theorem JE{a6G:List (Addr×Obj)}{σ:St}{H:Hp}{s:VL}{T:String}{x:V}{v:Value}(I:Inv X a6G σ H s)(r:RelV x v)(ty:w5 X.K T x H) :
  s.TypeIs v T/\∀a,v=.ref a->∃m,s.heap.get? a=b4 m/\m.dict=none:=by
 cases x with
 |str z=>obtain⟨t,rfl⟩:=r;cases(show T="str" from ty);exact⟨typeIs_str s z t,λ_ e=>nomatch e⟩|int i=>obtain⟨t,rfl⟩:=r;cases(show T="int" from ty);exact⟨typeIs_int s i t,λ_ e=>nomatch e⟩|ref p=>
  cases r;rcases ty with⟨rfl,y,u⟩|⟨rfl,o,d,hc,hd⟩|⟨rfl,d⟩|⟨rfl,S,n,d⟩
  ·obtain⟨w,_,q,_⟩:=I.list u;refine⟨q.isList.typeIs,λa e=>?_⟩;cases e;obtain⟨o,n,e,c,hd,_⟩:=q;exact⟨o,e,hd⟩
  ·refine⟨⟨o,I.kIn p o d,hc⟩,λa e=>?_⟩;cases e;exact⟨o,I.kIn _ o d,hd⟩
  ·have z:∃o,s.heap.get? p=b4 o/\o.ExactDict:=by
    rcases d with⟨l,d⟩|⟨l,d⟩
    ·obtain⟨_,_,_,_,o,_,_,e,h,_⟩:=I.hok p _ d;exact⟨o,e,h⟩
    ·obtain⟨_,_,_,_,o,_,_,e,h,_⟩:=I.hok p _ d;exact⟨o,e,h⟩
   obtain⟨o,e,h⟩:=z;refine⟨⟨o,e,h.1⟩,λa j=>?_⟩;cases j;exact⟨o,e,h.2.1⟩
  ·obtain⟨o,_,_,_,e,h,_⟩:=I.hok p _ d;refine⟨⟨o,e,h.1⟩,λa j=>?_⟩;cases j;exact⟨o,e,h.2.1⟩
 |_=>exact WR ty
noncomputable def B1(K:VG)(T:String)(r:V->List V->Hp->VK->Prop)(to:TE)(t:TA):TE:=λσ H Q=>to σ H λx c=>w5 K T x c/\t σ c λxs d=>r x xs d Q
variable{o e:Expr}{es:List Expr}{to:TE}{t:TA}{name:Str}{apos cpos:Xq}{T id:String}{r:V->List V->Hp->VK->Prop}
theorem JF(L:PlainAttrs T)(slot:Slot T name id)(m:typeOf (.builtin id)=pure (.type "method_descriptor")) (G:MtR X id r)(J:PE X o to)(E:PA X (e::es) t)
  (i:Zq o name X.env (eval o X.env)=eval o X.env:=by rfl)
  (l:((Yy cpos (Wt (e::es) X.env)).all (λx=>!x.1)&&(a2U cpos (a0W [] X.env)).all (λx=>x.1.isSome)
   && decide ((e::es).length+([]:List Zv).length+(if([]:List Zv).isEmpty then 0 else 1)<30))=true:=by rfl)
  (j:(apos.endLine==cpos.line)=true:=by rfl)(K:Wt (e::es) X.env=(b7,eval e X.env)::Wt es X.env:=by rfl)(c:(Yy cpos (Wt es X.env)).any (·.1)=false:=by rfl) :
  PE X (.Call (.Attribute o name apos) (e::es) [] cpos) (B1 X.K T r to t):=by
 intro d s n H Q I h;refine wpAny_Call_method_late i l j rfl (aM (J d s n H _ I h) λv R ⟨x,w,p,u,ty,M⟩=>?_);obtain⟨A,B⟩:=JE p u ty;refine⟨T,id,L,slot,m,A,B,?_⟩;have q:=E cpos d R n w _ p M;rw[K]at q ⊢;refine a0p (by show(b7||(Yy cpos (Wt es X.env)).any (·.1))=b7;rw[c]<;>rfl) (Calls.evalArgs_plain ?_);exact aM q λY U ⟨Z,y,z,O,N⟩=>G d U n y x Z v Y Q z u O N
end
end L2
namespace L2
open PySem PySem.Spec PyProof.Rows
noncomputable def pS(X:Cx)(id:String)(r:V->List V->Hp->VK->Prop):Prop:=
 ∀(a6G:List (Addr×Obj))(s:VL)(σ:St)(H:Hp)(x:V)(xs:List V)(v:Value)(us:List Value)(Q:VK),Inv X a6G σ H s->RelV x v->Vals xs us->r x xs H Q->
  V2 (V8 X.prog X.w) X.A (call (.builtin id) (v::us)) (EP X a6G σ Q) X.xe s
theorem Vals.one{x:V}{us:List Value}(h:Vals [x] us):∃u,us=[u]/\RelV x u:=by
 cases h with
 |cons r t=>cases t;exact⟨_,rfl,r⟩
theorem Vals.two{x y:V}{us:List Value}(h:Vals [x,y] us):∃u v,us=[u,v]/\RelV x u/\RelV y v:=by
 cases h with
 |cons r t=>obtain⟨v,rfl,q⟩:=Vals.one t;exact⟨_,v,rfl,r,q⟩
theorem Vals.zero:∀{us:List Value},Vals [] us->us=[]
 |_,.nil=>rfl
theorem Vals.eraseIdx:∀{xs:List V}{us:List Value}(i:Nat),Vals xs us->Vals (xs.eraseIdx i) (us.eraseIdx i)
 |_,_,_,.nil=>.nil|_,_,0,.cons _ t=>t|_,_,i+1,.cons r t=>.cons r (Vals.eraseIdx i t)
section
variable{X:Cx}{a6G:List (Addr×Obj)}{σ:St}{H:Hp}{s:VL}{l b:Addr}{xs ys zs:List V}
theorem Inv.lset{a its':List Value}{n:Nat}{f:Array Value->Array Value}{t':Nat}(I:Inv X a6G σ H s)(c:H l=b4 (.lst xs))
  (e:s.heap.get? l=b4 {cls:=.type "list",data:=.seq a.toArray n}) (h:f a.toArray=its'.toArray)(j:Vals ys its')(hz:ys.length<=VW) :
  Inv X a6G σ (aI H l (.lst ys)) {s with heap:=s.heap.update l (WU f),toks:=t'}:=by
 have q:=PySem.IsL.update e f;rw[h]at q;refine I.write (x:=l) (e:=l) (by rw[c];exact trivial) (.inl rfl) (λm u d i=>(Wi s.heap (WU f) (WG d)).trans i) ⟨_,q⟩ ?_;exact⟨hz,its',_,j,q⟩
theorem Inv.lnew{a:List Value}{t':Nat}(I:Inv X a6G σ H s)(c:Vals ys a)(hz:ys.length<=VW) :
  Inv X a6G σ (aI H s.heap.objs.size (.lst ys)) {s with heap:=s.heap.push {cls:=.type "list",data:=.seq a.toArray},toks:=t'}:=
 I.laid (λ_ _ q=>VM _ q) (VS _) ⟨hz,a,0,c,VX _ rfl⟩
theorem Inv.fresh(I:Inv X a6G σ H s):H s.heap.objs.size=none:=I.hok.fresh (VS _)
theorem Inv.lstM(I:Inv X a6G σ H s)(c:H l=b4 (.lst xs)):xs.length<=VW/\∃(a:List Value)(n:Nat),Vals xs a/\xs.length=a.length/\s.heap.get? l=b4 {cls:=.type "list",data:=.seq a.toArray n}:=by obtain⟨z,a,n,r,e⟩:=I.hok l _ c;exact⟨z,a,n,r,r.length,e⟩
theorem JG{n:Nat}(h:n<=VW):ZU n=false:=by unfold ZU;exact decide_eq_false (by omega)
end
section
variable{X:Cx}
noncomputable def B2:V->List V->Hp->VK->Prop:=λx vs H Q=>∃l xs y,x=.ref l/\vs=[y]/\H l=b4 (.lst xs)/\xs.length<VW/\Q .non (aI H l (.lst (xs++[y])))
theorem B3:pS X "list.append" B2:=by intro c s B H x w v p Q I j i h;obtain⟨l,A,y,rfl,rfl,b,o,q⟩:=h;cases j;obtain⟨u,rfl,d⟩:=i.one;obtain⟨z,a,n,r,m,e⟩:=I.lstM b;refine a1x F.slot_list_append ⟨_,e,rfl⟩ F.entry_list_append (F.args_list_append_2 _ _) (PySem.list_append l a.toArray n u (by rw[V7];omega)) ⟨e,?_⟩;refine⟨.non,_,I.lset (its':=a++[u]) b e (by simp) (r.append (.cons d .nil)) ?_,rfl,q⟩;rw[V1,YH];omega
noncomputable def B4:V->List V->Hp->VK->Prop:=λx vs H Q=>∃l b xs a,x=.ref l/\vs=[.ref b]/\H l=b4 (.lst xs)/\H b=b4 (.lst a)/\xs.length+a.length<=VW/\Q .non (aI H l (.lst (xs++a)))
theorem JH:pS X "list.extend" B4:=by
 intro m s T H x M v L Q I G E h;obtain⟨l,b,N,R,rfl,rfl,j,p,K,q⟩:=h;cases G;obtain⟨u,rfl,B⟩:=E.one;cases B;obtain⟨z,c,n,r,J,e⟩:=I.lstM j;obtain⟨O,a,y,A,w,o⟩:=I.lstM p;have i:c.toArray.size+a.toArray.size<=VW:=by rw[V7,V7];omega
 have d:¬ (!c.toArray.isEmpty&&ZU (c.toArray.size+a.toArray.size))=true:=by rw[JG i,a4Q];exact VZ
 refine a1x F.slot_list_extend ⟨_,e,rfl⟩ F.entry_list_extend (F.args_list_extend_2 _ _)
  (AutoSeq1.list_extend_list_list_0 l c.toArray n b a.toArray y d (by rw[V7];omega) (by omega)) ⟨e,o,?_⟩
 refine⟨.non,_,I.lset (its':=c++a) j e (by simp) (r.append A) ?_,rfl,q⟩;rw[V1];omega
noncomputable def B5:R2:=λx y H Q=>∃l b xs a,x=.ref l/\y=.ref b/\H l=b4 (.lst xs)/\H b=b4 (.lst a)/\xs.length+a.length<=VW/\∀p,H p=b6->Q (.ref p) (aI H p (.lst (xs++a)))
theorem JI:OpR X (Zp .Add) B5:=by
 intro d s N H x y v u Q I A B h;obtain⟨l,b,K,M,rfl,rfl,o,m,G,q⟩:=h;cases A;cases B;obtain⟨z,c,n,r,E,e⟩:=I.lstM o;obtain⟨L,a,J,w,p,i⟩:=I.lstM m;refine PySem.P.add_list e i ?_ (by rw[V7,V7];omega);have j:c.toArray++a.toArray=(c++a).toArray:=by simp
 rw[j];exact⟨.ref _,_,I.lnew (t':=s.toks) (r.append w) (by rw[V1];omega),rfl,q _ I.fresh⟩
end
section
variable{prog:V6}{w:Wj}{A:Wh}{E:Value->VL->Prop}{s:VL}
end
section
variable{X:Cx}
end
end L2
namespace Att
open PySem PySem.W PySem.Calls PyProof.Rows
theorem JJ{P:Xi}{h:WI}:∀(ns:List Int)(vs:List Value),WellAll P h vs (ns.map ZM)->Zd vs ns:=by
 intro ns;induction ns with
 |nil=>intro vs w;rw[a5y]at w;cases w;exact .nil|cons n ns c=>
  intro vs w;rw[V0]at w;cases w with
  |cons a b=>cases a;exact .cons _ _ (c _ b)
theorem script_of{l:OpenLaw}{n:Nat}(y:l.most=b4 n){P:Xi}{h:WI}{args:List WData}{e:List Value}
  (c:l.row.toRowW.claim.pre args=b8)(s:WellAll P h e args) :
  ∃a u b,e=[VU a]/\args=[WData.list (b.map ZM)]/\h.get? a=b4 {cls:=.type "list",data:=.seq u.toArray}/\Zd u b/\b.length<=n:=by
 have p:WShape.hasAll [] args [.list .int]=true:=(pre_splitW c).1;have hc:l.pre.holds [] {args:=args}=true:=(pre_splitW c).2;obtain⟨d,r,rfl,v,w⟩:=hasAllW_cons p;obtain rfl:=hasAllW_nil w;obtain⟨G,rfl,x⟩:=hasW_list v;obtain⟨b,rfl⟩:=items_int x;have j:b.length<=n:=by
  unfold OpenLaw.pre at hc;have m:(WTm.not (.lt (.lit (.int (n:Int))) (.len (.arg 0)))).holds [] {args:=[.list (b.map .int)]}=true:=by have m:=(holds_andW hc).1;rw[y]at m;exact m
  have o:=condW_of m (w_not (w_lt w_lit (w_len_list (w_arg rfl))));rw[VI]at o;refine a4F λq=>?_;have A:(n:Int)<((b.length:Nat):Int):=by omega
  first
   |(rw[decide_eq_true A]at o;exact absurd o (by decide))|(simp at o;omega)
 cases s with
 |cons B E=>
  cases E;cases B with
  |list z i=>exact⟨_,_,b,rfl,rfl,z,JJ b _ i,j⟩
theorem post_true(l:OpenLaw)(args:List WData):l.row.toRowW.claim.post args (.bool b8) args=true:=
 postW_of (r:=l.row.toRowW) (X:=(b8==b8))
  (show a5s [] (.bool b8) .bool=b8 by first|rfl|decide|simp[a5s,WShape.arms,WShape.armsAll])
  (show(WTm.eq .res (.lit (.bool b8))).value [] {args:=args,res:=b4 (.bool b8),after:=args}=b4 (.bool (b8==b8))from w_eq_bool (w_res rfl) w_lit) rfl
section
variable{prog:V6}{w:Wj}{A:Wh}{E:Value->VL->Prop}{s:VL}{K:Frag}
end
end Att
namespace L2
open PySem PySem.Spec PyProof.Rows
theorem B6:∀{vs:List Value}{ns:List Int},Zd vs ns->Vals (ns.map V.int) vs
 |_,_,.nil=>.nil|_,_,.cons n t h=>.cons ⟨t,rfl⟩ (B6 h)
noncomputable def B7(H:Hp):Prop:=∀b,H b=b6\/∃o xs,H b=b4 (.frz o (.lst xs))
theorem law_call{P:V6}{w:Wj}{K:VG}{M Z:Str->Option Value}{CX:fM}{k:Nat}{R a:Addr}{fd:Xy}{x:Str}{sp:Sp}{c:VL}{vs:List Value}{ns:List Int}
  (KX:K.In c.heap)(I:c.heap.Ns WD M)(i:c.heap.Ns a4Y Z)(U:∀x:Str,x ≠ "__name__"->Z x=XB x) (G:c.heap.NoLimit)(hg:c.gens=#[])
  (O:c.heap.get? a=b4 {cls:=.type "list",data:=.seq vs.toArray}) (hi:Zd vs ns)(hl:ns.length<=VW)(hr:Room k a1M)
  (F:∀j:WI,K.In j->j.Ns WD M->FnOk P w K M j CX k R fd [x] sp)(A:∀(s:VL)(u:Value),a1U s fd ⟨[u],[]⟩ [(x,u)])
  (Y:∀H:Hp,B7 H->SqL K H a (ns.map V.int)->sp [.ref a] H (λv _=>v=.bl b8) λ_ _ _=>False)
  (T:∀H e l,CX [] H c (λ_ _ _=>False) e l->False) :
  Z2 (V8 P w) a1M (.call (.ref R) ⟨[.ref a],[]⟩) (λr l=>r=.ok (.ret (.bool b8))/\OldK c.heap l.heap/\l.os=c.os/\a0t l.gens) c:=by
 have rv:=B6 hi;have L:=hi.length
  -- from an abstract heap in which nothing but the script may be tracked
 have y:∀H:Hp,B7 H->SqL K H a (ns.map V.int)->HOk P w H c.heap->(∀b,H b≠b6->b=a)->(H a≠b6->K.lookup a=b6)->
   Z2 (V8 P w) a1M (.call (.ref R) ⟨[.ref a],[]⟩) (λr l=>r=.ok (.ret (.bool b8))/\OldK c.heap l.heap/\l.os=c.os/\a0t l.gens) c:=by
  intro H hO hS hok hA hK;have mD:∀{b:Addr}{o:Obj},c.heap.get? b=b4 o->H b=b6->(jU c.heap H).get? b=b4 o:=λe n=>Hk e n;have noA:∀{b:Addr}{o:Obj}{es:Array DictEntry}{ep:Nat},c.heap.get? b=b4 o->o.data=.dict es ep->H b=none:=λ{b o es ep} e d=>by
   cases q:H b with
   |none=>rfl|some u=>have Q:b=a:=hA b (by rw[q];simp);subst Q;rw[O]at e;cases e;have d':a3o vs.toArray _=Zl es ep:=d;cases d'
  have p:∀{b:Addr}{m:Str->Option Value},c.heap.Ns b m->(jU c.heap H).Ns b m:=λ{b m} ⟨o,es,ep,e,d,r⟩=>⟨o,es,ep,mD e (noA e d),d,r⟩;have E:K.In (jU c.heap H):=λb o e=>mD (KX b o e) (by
   cases q:H b with
   |none=>rfl|some u=>
    have Q:b=a:=hA b (by rw[q];simp);subst Q;rw[hK (by rw[q];simp)]at e;cases e)
  have hM:Mod K M (jU c.heap H):=⟨E,p I,⟨Z,p i,U⟩,let⟨mc,h1,h2⟩:=G;⟨mc,p h1,h2⟩⟩;have e0:Env0 P w K M (jU c.heap H) a1M [] c H:=⟨rfl,hM,λb o e=>Hl e,a0x (Hj _ _),trivial,λb i=>absurd (show b∈([]:List Addr)from i) (by simp),hok,.of_eq hg⟩;refine a0c ((F _ E (p I)).run a1M [] c H ⟨[.ref a],[]⟩ [.ref a] [.ref a] _ _ hr e0 (A c (.ref a)) (.cons rfl .nil) (Y H hO hS)) λr l h=>?_;cases r with
  |error e=>exact(T H e l h).elim|ok fl=>
   cases fl with
   |next=>exact WR h|brk=>exact WR h|cont=>exact WR h|ret u=>
    obtain⟨v,H',os,B,un,J,r',q⟩:=h;have q':v=.bl true:=q;subst q';obtain rfl:u=XE true:=r';refine⟨rfl,OldK.of_keep λb o e=>?_,os,B⟩;cases q:H b with
    |none=>exact un.keep b o e q (by intro z;exact absurd (show b∈([]:List Addr)from z) (by simp)) (by simp)|some u=>
     rcases hO b with z|⟨ob,xs,z⟩
     ·rw[q]at z;cases z
     ·have z2:=un.frzs b ob _ z;obtain⟨e1,_⟩:=hok b _ z;obtain⟨e2,_⟩:=J b _ z2;rw[e]at e1;cases e1;exact e2
 cases X:K.lookup a with
 |some o=>-- the script is one of the module's own objects
  have e:=KX a o X;rw[O]at e;cases e;refine y (λ_=>b6) (λ_=>.inl rfl) (.inr ⟨_,vs.toArray,_,X,rfl,rfl,rfl,by rw[V7,L];exact hl,by simpa using rv⟩) (λb u z=>by have N:(b6:Option HO)=b4 u:=z;cases N) (λb z=>absurd rfl z) λz=>absurd rfl z
 |none=>
  refine y (λb=>if b=a then b4 (.frz {cls:=.type "list",data:=.seq vs.toArray} (.lst (ns.map V.int)))else b6) (λb=>?_) (.inl (.inr ⟨{cls:=.type "list",data:=.seq vs.toArray},if_pos rfl⟩)) (λb u z=>?_) (λb z=>?_) λ_=>X
  ·by_cases i:b=a
   ·exact .inr ⟨_,_,if_pos i⟩
   ·exact .inl (if_neg i)
  ·by_cases i:b=a
   ·have N:=(if_pos i).symm.trans z;cases N;subst i;exact⟨O,by rw[VI];exact hl,vs,_,rv,O⟩
   ·have N:=(if_neg i).symm.trans z;cases N
  ·by_cases i:b=a
   ·exact i
   ·exact absurd (if_neg i) z
end L2
namespace L2
open PySem PySem.Spec PyProof.Rows
end L2
namespace L2
open PySem PySem.Spec PyProof.Rows
noncomputable def fS(s:Stmt):Arguments:=match s with
 |.FunctionDef _ a _ _ _ _ _ _ _ _=>a|_=>{posonlyargs:=[],args:=[],vararg:=b6,kwonlyargs:=[],kw_defaults:=[],kwarg:=b6,defaults:=[]}
noncomputable def cL(s:Stmt):List Stmt:=match s with
 |.FunctionDef _ _ b _ _ _ _ _ _ _=>b|_=>[]
noncomputable def bM(s:Stmt):Yj:=match s with
 |.FunctionDef _ _ _ _ _ _ sc _ _ _=>sc|_=>{kind:=.function,names:=[],isGenerator:=b7,isCoroutine:=b7}
noncomputable abbrev dY:fM:=λ_ _ _ _ _ _=>False
noncomputable abbrev E0:XK:=λ_ _ _=>False
theorem B8{X:Cx}:sD dY X E0:=λ_ _ _ _ _ _ _ h=>h.elim
structure Fun(K:VG)(x qual:Str)(st:Stmt)(f:Addr)(fd:Xy):Prop where
 ex:∃(oc:Value)(od:Option Addr)(dV kV doc pm:Value)(an:Option Addr)(cdv ct:Value)(osl:Array (Option Value)),
  fd=Xv x qual (fS st) (cL st) (bM st) dV kV doc pm an cdv ct/\K.lookup f=b4 ⟨oc,od,.func fd,osl⟩/\ZY K cdv qual=b8
 kp:WX K (.ref f)=b8
section
variable{P:V6}{w:Wj}{K:VG}{mg:Str->Option Value}{base:WI}
theorem Fun.ok{x qual:Str}{st:Stmt}{f:Addr}{e:Xy}{N ps:List Str}{k:Nat}{sp:Sp}(F:Fun K x qual st f e)(S:FnScope N ps (bM st))(len:∀vs H Q E,sp vs H Q E->vs.length=ps.length)
  (b:∀(a:Value)(A:Wh)(outer:List a0k)(s:VL)(H:Hp)(vs:List V)(Q:VK)(E:XK),Room k (A.deeper (envOfC qual (bM st) s.heap.objs.size f a))->sp vs H Q E->
   ∃t,PSs (dO dY P w K mg base N qual (bM st) f a A outer s H E).nox (cL st) t/\t {nx:=λ_ i=>Q .non i,rt:=Q} (start N vs) H):FnOk P w K mg base dY (k+1) f e ps sp:=by
 obtain⟨p,r,o,kV,j,u,n,a,ct,m,rfl,lk,c⟩:=F.ex;refine wQ lk c S len λA outer s H vs Q E l d=>?_;obtain⟨t,h,q⟩:=b a A outer s H vs Q E l d;exact⟨t,h.nox,q⟩
theorem B9{x qual:Str}{st:Stmt}{f:Addr}{i:Value}{j an:Option Addr}{d:Array (Option Value)}{e kV b h a ct:Value}(l:K.lookup f=b4 ⟨i,j,.func (Xv x qual (fS st) (cL st) (bM st) e kV b h an a ct),d⟩)
  (c:ZY K a qual=b8)(k:WX K (.ref f)=b8):Fun K x qual st f (Xv x qual (fS st) (cL st) (bM st) e kV b h an a ct):=⟨⟨i,j,e,kV,b,h,an,a,ct,d,rfl,l,c⟩,k⟩
end
theorem JK{A:Wh}{k:Nat}(a:Room k A):A.units+1<Xs:=a4i (Nat.add_le_add_left (by decide:1<=64) _) a.units
section
variable{X:Cx}
theorem pv(i:Nat){x:Str}{pos:Xq}(b:X.N[i]?=b4 x:=by rfl)(c:lO X.env.scope x:=by first|exact a2u rfl|exact a1c (a2u rfl)|exact a1c (a1c rfl))(hd:(x==("__debug__":Str))=false:=by decide)
  (a:(x==("__classdict__":Str))=false:=by decide):PE X (.Name x pos) (mZ i):=pM b c hd a
end
theorem kJ{A B:Prop}(h:B):if b7=b8 then A else B:=by rw[if_neg VZ];exact h
theorem kK{A B:Prop}(h:A):if b8=b8 then A else B:=by rw[if_pos rfl];exact h
noncomputable def Same(H H':Hp):Prop:=∀b o,H b=b4 o->H' b=b4 o
theorem Same.refl(H:Hp):Same H H:=λ_ _ h=>h
theorem Same.trans{H d e:Hp}(a:Same H d)(b:Same d e):Same H e:=λc o h=>b c o (a c o h)
theorem Same.free{H H':Hp}(e:Same H H'){l:Addr}(h:H' l=a5b):H l=a5b:=by
 cases q:H l with
 |none=>rfl|some o=>rw[e l o q]at h;cases h
theorem Same.seq{K:VG}{H H':Hp}{a:Addr}{xs:List V}(e:Same H H')(h:SqL K H a xs):SqL K H' a xs:=by
 rcases h with(h|⟨o,h⟩)|h
 ·exact .inl (.inl (e _ _ h))
 ·exact .inl (.inr ⟨o,e _ _ h⟩)
 ·exact .inr h
section
variable{κ:Type} [DecidableEq κ]
end
end L2
namespace L3
open PySem PySem.W
theorem left_cut{p q:V6}{loose:List Str}{Xt:VL → Bool}{O:Type}{Yf:VL → O}{Ya:Wj → O}{N:Nat}{z:Bool}{hA hB hC hD:Xi → WI}{kA A B E b:Nat}{i:Option Value}{v m n o u n4:Nat}{env:a0k}{l G x H I J:Xq}{i1 i2 i3:Nat}
  (j:∀w:Wj,(fencedOpening X7 p w N).map (λs=>(s.heap,s.gens,s.drawn,s.toks))=b4 (ZC w.params,WC [],Xd,a2k))
  (size:∀w:Wj,((ZC w.params).isNs WD,(ZC w.params).objs.size,(ZC w.params).nsMap WD "__annotations__")=(b8,b,i))
  (pre:∀(w:Wj)(a:a0d),topGo X7 p w b i v ⟨ZC w.params,WC [],Xd,a2k,a⟩ (topStub p)=b4 (⟨hA w.params,WC [],Xd,kA,a⟩,⟨denote X7 (.body (We p) env),.body (We p) env,G,[ZH l]⟩))
  (y:∀(w:Wj)(a:a0d),a2g X7 p w b i 1 m ⟨hA w.params,WC [],Xd,kA,a⟩ (blockOf (We p) env (.body (We p) env) G [ZH l])=b4 (.next,⟨hA w.params,WC [],Xd,kA,a⟩,.body (We p) env,x))
  (s1:∀(w:Wj)(a:a0d),a2g X7 p w b i 1 n ⟨hA w.params,WC [],Xd,kA,a⟩ (a1K ((We p).take i1) env (.body (We p) env) x [ZH l])=b4 (.next,⟨hB w.params,WC [],Xd,A,a⟩,.body (We p) env,H))
  (s2:∀(w:Wj)(a:a0d),a2g X7 p w b i 1 o ⟨hB w.params,WC [],Xd,A,a⟩ (a1K (((We p).drop i1).take i2) env (.body (We p) env) H [ZH l])=b4 (.next,⟨hC w.params,WC [],Xd,B,a⟩,.body (We p) env,I))
  (s3:∀(w:Wj)(a:a0d),a2g X7 p w b i 1 u ⟨hC w.params,WC [],Xd,B,a⟩ (a1K ((((We p).drop i1).drop i2).take i3) env (.body (We p) env) I [ZH l])=b4 (.next,⟨hD w.params,WC [],Xd,E,a⟩,.body (We p) env,J))
  (fin:∀(w:Wj)(a:a0d),((topRun X7 p w b i n4 ⟨hD w.params,WC [],Xd,E,a⟩ (restOf ((((We p).drop i1).drop i2).drop i3) env (.body (We p) env) J [ZH l])).bind λc=>match staticsOk (a5X p.main.body) (ZC w.params) c.heap&&namesBound p c.heap&&gensDone c&&laidKept (ZC w.params) c.heap with
   |true=>b4 c
   |false=>b6).map (λs=>(openSeen q loose (a5X p.main.body) Xt z s,Yf s))=b4 (openGood q loose,Ya w))
  (le:Nat.ble (v+(m+(n+(o+(u+n4))))) N=b8):LeftO p q loose Xt Yf Ya N z:=λw=>by
 obtain⟨⟨h,R,d,k,a⟩,e,Q⟩:=VJ.mp (j w);obtain⟨rfl,rfl,rfl,rfl⟩:h=ZC w.params ∧ R=WC [] ∧ d=Xd ∧ k=a2k:=by simpa using Q
 obtain⟨z1,z2,z3⟩:_ ∧ _ ∧ _:=by simpa only[a4s]using size w
 obtain⟨s,X,Y⟩:=VJ.mp (fin w a);obtain⟨c,T,U⟩:=VF.mp X;have M:=a5D (s3 w a) T;rw[Yh]at M;have L:=a5D (s2 w a) M;rw[Yh]at L;have K:=a5D (s1 w a) L;rw[Yh]at K;have Z:=go_top (pre w a) (piece_block (y w a) K);have r:=topRun_mono (N-(v+(m+(n+(o+(u+n4)))))) _ _ _ _ Z;rw[show v+(m+(n+(o+(u+n4))))+(N-(v+(m+(n+(o+(u+n4))))))=N by have:=Nat.le_of_ble_eq_true le;omega]at r;have t:topFrom X7 p w N ⟨ZC w.params,WC [],Xd,a2k,a⟩=b4 s:=by unfold topFrom;dsimp only;rw[z1,z2,z3,r];exact U
 unfold openEnds;rw[e];show(topFrom X7 p w N _).map _=_;rw[t];exact congrArg b4 Y
end L3
namespace Lw
open PySem L2
noncomputable def aJ(i:Nat):Stmt:=Xe.main.body.getD i (.Pass ⟨0,0,0,0⟩)
noncomputable def eZ(i j:Nat):Stmt:=match aJ i with|.ClassDef _ _ _ b _ _ _ _ _ _ _=>b.getD j (.Pass ⟨0,0,0,0⟩)|_=>.Pass ⟨0,0,0,0⟩
noncomputable def Vw:V6:={Xe with main:={Xe.main with body:=aJ 1::aJ 2::aJ 3::aJ 4::aJ 5::aJ 6::aJ 8::aJ 9::aJ 10::aJ 11::aJ 12::aJ 13::aJ 14::aJ 15::aJ 16::aJ 17::aJ 18::aJ 19::aJ 20::aJ 21::aJ 22::aJ 24::aJ 25::aJ 26::aJ 27::aJ 28::aJ 29::aJ 30::aJ 31::aJ 32::aJ 33::aJ 34::aJ 35::aJ 37::aJ 39::aJ 40::aJ 41::aJ 42::aJ 44::aJ 45::aJ 46::aJ 47::aJ 48::aJ 50::aJ 51::aJ 52::aJ 53::aJ 54::aJ 56::aJ 57::aJ 58::aJ 59::aJ 60::aJ 61::aJ 62::aJ 63::aJ 64::aJ 65::aJ 66::aJ 67::aJ 68::aJ 69::aJ 70::[]}}
noncomputable abbrev vS(x:String)(n:Nat):Value:=a1g (X9 x) n
noncomputable abbrev vI(i:Int):Value:=Wy i 0
noncomputable abbrev vR(a:Addr):Value:=VU a
noncomputable abbrev vN:Value:=WJ
noncomputable abbrev cO(fs:Array Value):Obj:={cls:=Wa "code",data:=WQ fs}
noncomputable abbrev kO(x y:String)(a b c:Nat)(l n i j k:Int)(r:Addr)(q:Int)(vs:Array Value)(t d:Int)(e:Nat):Obj:={cls:=Wa "code",data:=WQ (#[vS x a,vS x b,vS y c,vI l,vI n,vI i,vI j,vI k,vR r,XE b8,vI q]++vs++#[vI t,vI d,vS y e])}
noncomputable abbrev tO(fs:Array Value):Obj:={cls:=Wa "tuple",data:=a3o fs}
noncomputable abbrev fO(x:Str)(n:Nat)(m:Value)(c:Addr):Obj:=⟨Wa "function",b6,.func (Xv x x (fS (aJ n)) (cL (aJ n)) (bM (aJ n)) WJ WJ WJ m b6 (VU c) WJ),#[]⟩
noncomputable abbrev eO(P:Xi)(x:String)(n:Nat)(v:Value):DictEntry:={hash:=PyData.keyHash P (X9 x),key:=a1g (X9 x) n,val:=v}
noncomputable abbrev eR(P:Xi)(x:String)(n:Nat)(a:Addr):DictEntry:=eO P x n (vR a)
noncomputable abbrev kA(p:Addr×Obj)(R:VG):VG:=p::R
noncomputable def Cb:List String → Nat → List Value
 |[],_=>[]|x::xs,n=>vS x n::Cb xs (n+1)
noncomputable abbrev tN(xs:List String)(n:Nat):Obj:=tO (WC (Cb xs n))
open PySem.W in
noncomputable def lA(P:Xi):List Obj:=((boot_o_0 P)::(boot_o_1 P)::(boot_o_2 P)::(boot_o_3 P)::(boot_o_4 P)::(boot_o_5 P)::(boot_o_6 P)::(boot_o_7 P)::(boot_o_8 P)::(boot_o_9 P)::(boot_o_10 P)::(tO #[])::({cls:=vN,data:=WQ #[]})::(cO #[vS "<module>" 182,vS "<module>" 183,vS "/claim/cut.py" 184,vI 1,vI 0,vI 0,vI 0,vI 0,vR 11,XE b7,vI 181,vR 12,vN,vN,vN,vN,vI 185,vI 1,vS "/claim/cut.py" 186])::({cls:=Wa "frame",slots:=#[b4 (vR 13),b4 (vR 3),b4 (vR 3),b6,b4 (vS "__main__" 164),b6,b4 (vR 0)]})::[])
open PySem.W in
noncomputable def Cd(P:Xi)(a:Nat)(c:String)(d:Nat)(b:Nat)(R:List Obj):List Obj:=(tO #[vR 24])::({cls:=Wa "builtin_function_or_method",data:=WQ #[Xf "type.__prepare__",Wa "type"]})::({cls:=Wa "dict",data:=Zl #[eO P "__module__" a (vS "creasecourt.errors" 187),eO P "__qualname__" (a+2) (vS c (a+1)),eO P "__firstlineno__" (a+4) (Wy d (a+3)),eR P "__static_attributes__" (a+5) b] 4})::(tO #[])::({cls:=vN,data:=WQ #[]})::(cO #[vS c (a-5),vS c (a-4),vS "/claim/cut.py" (a-3),vI d,vI 0,vI 0,vI 0,vI 0,vR (b-4),XE b7,vI 181,vR (b-3),vN,vN,vN,vN,vI (a-2),vI d,vS "/claim/cut.py" (a-1)])::({cls:=Wa "frame",slots:=#[b4 (vR (b-2)),b4 (vR 3),b4 (vR (b-5)),b6,b4 (vS "creasecourt.errors" 187),b6,b4 (vR 0)]})::(tO #[])::({cls:=Wa "dict",data:=Zl #[eO P "__module__" a (vS "creasecourt.errors" 187),eO P "__firstlineno__" (a+4) (Wy d (a+3)),eR P "__static_attributes__" (a+5) b,eO P "__doc__" (a+6) vN] 2})::({cls:=Wa "type",data:=a4O {name:=X9 c,bases:=[vR 24],mro:=[vR (b+2),vR 24,Wa "ValueError",Wa "Exception",Wa "BaseException",Wa "object"],ns:=(b+1),qualname:=X9 c},slots:=#[b4 (vR (b-7)),b6,b4 (vS c (a-7)),b4 (vS c (a+1)),b4 (Xf "ValueError.__new__"),b4 (XE b8)]})::({cls:=Wa "super",data:=WQ #[vR (b+2),vR (b+2),vR (b+2)]})::({cls:=Wa "builtin_function_or_method",data:=WQ #[Xf "object.__init_subclass__",vR (b+2)]})::R
open PySem.W in
noncomputable def w6(P:Xi)(a:Nat)(c:String)(d:Nat)(b:Nat)(i:List String)(h:String)(e:Nat)(j:List String)(R:List Obj):List Obj:=(tO #[vR 24])::({cls:=Wa "builtin_function_or_method",data:=WQ #[Xf "type.__prepare__",Wa "type"]})::({cls:=Wa "dict",data:=Zl #[eO P "__module__" a (vS "creasecourt.errors" 187),eO P "__qualname__" (a+2) (vS c (a+1)),eO P "__firstlineno__" (a+4) (Wy d (a+3)),eR P "__init__" (a+12) b,eR P "__static_attributes__" (a+14) (b+1)] 5})::(tO #[])::({cls:=vN,data:=WQ #[vI (d+2),vI 4,vR (b-1)]})::(cO #[vS c (a-5),vS c (a-4),vS "/claim/cut.py" (a-3),vI d,vI 0,vI 0,vI 0,vI 0,vR (b-10),XE b7,vI 181,vR (b-9),vN,vN,vN,vN,vI (a-2),vI d,vS "/claim/cut.py" (a-1)])::({cls:=Wa "frame",slots:=#[b4 (vR (b-8)),b4 (vR 3),b4 (vR (b-11)),b6,b4 (vS "creasecourt.errors" 187),b6,b4 (vR 0)]})::(tO #[])::({cls:=vN,data:=WQ #[]})::(tN i (a+8))::(tO #[])::(⟨vN,b6,.func ({Xv "__init__" h (fS (eZ e 0)) (cL (eZ e 0)) (bM (eZ e 0)) vN vN vN vN (b6) vN vN with globals:=0}),#[]⟩)::(cO #[vS "__init__" (a+5),vS h (a+6),vS "/claim/cut.py" (a+7),vI (d+2),vI 2,vI 0,vI 0,vI 3,vR (b-6),XE b8,vI 181,vR (b-5),vN,vR (b-4),vR (b-3),vR (b-2),vI (a+10),vI (d+2),vS "/claim/cut.py" (a+11)])::(⟨Wa "function",b6,.func (Xv "__init__" h (fS (eZ e 0)) (cL (eZ e 0)) (bM (eZ e 0)) vN vN vN (vS "creasecourt.errors" 187) (b6) (vR (b-1)) vN),#[]⟩)::(tN j (a+13))::({cls:=Wa "dict",data:=Zl #[eO P "__module__" a (vS "creasecourt.errors" 187),eO P "__firstlineno__" (a+4) (Wy d (a+3)),eR P "__init__" (a+12) b,eR P "__static_attributes__" (a+14) (b+1),eO P "__doc__" (a+15) vN] 2})::({cls:=Wa "type",data:=a4O {name:=X9 c,bases:=[vR 24],mro:=[vR (b+3),vR 24,Wa "ValueError",Wa "Exception",Wa "BaseException",Wa "object"],ns:=(b+2),qualname:=X9 c},slots:=#[b4 (vR (b-13)),b6,b4 (vS c (a-7)),b4 (vS c (a+1)),b4 (Xf "ValueError.__new__"),b4 (XE b8)]})::({cls:=Wa "super",data:=WQ #[vR (b+3),vR (b+3),vR (b+3)]})::({cls:=Wa "builtin_function_or_method",data:=WQ #[Xf "object.__init_subclass__",vR (b+3)]})::R
open PySem.W in
noncomputable def bT(i:List String)(b:Nat)(c:String)(d:Nat)(e:Nat)(j:Nat)(a:Nat)(h:Nat)(l:String)(m:Nat)(R:List Obj):List Obj:=(tO #[])::({cls:=vN,data:=WQ #[]})::(tN i b)::(tO #[])::(⟨vN,b6,.func ({Xv c c (fS (aJ d)) (cL (aJ d)) (bM (aJ d)) vN vN vN vN (b6) vN vN with globals:=0}),#[]⟩)::(kO c "/claim/cut.py" (b-3) (b-2) (b-1) e j 0 0 3 a 181 #[vR (a+1),vN,vR (a+2),vR (a+3),vR (a+4)] h e (h+1))::(fO c d (vS l m) (a+5))::R
open PySem.W in
noncomputable def gJ(b:String)(c:Nat)(a:Nat)(e:Nat)(h:Nat)(d:Nat)(i:String)(j:Nat)(R:List Obj):List Obj:=(tO #[])::({cls:=vN,data:=WQ #[]})::(⟨vN,b6,.func ({Xv b b (fS (aJ c)) (cL (aJ c)) (bM (aJ c)) vN vN vN vN (b6) vN vN with globals:=0}),#[]⟩)::(kO b "/claim/cut.py" a (a+1) (a+2) e h 0 0 3 d 181 #[vR (d+1),vN,vN,vN,vR (d+2)] (a+3) e (a+4))::(fO b c (vS i j) (d+3))::R
open PySem.W in
noncomputable def sE(b:Nat)(a:Nat)(c:Nat)(R:List Obj):List Obj:=(tO #[Wy b a,Wy c (a+1)])::R
open PySem.W in
noncomputable def lN(P:Xi):List DictEntry:=[eO P "__doc__" 166 vN,eO P "__package__" 167 vN,eO P "__loader__" 168 (Xf "__main__.__loader__#opaque"),eO P "__spec__" 169 vN,eR P "__annotations__" 170 6,eR P "__builtins__" 171 4,eO P "__file__" 173 (vS "/claim/cut.py" 172),eO P "__cached__" 174 vN,eR P "CreaseError" 206 24,eR P "NoSize" 222 37,eR P "NoMark" 238 49,eR P "NoEdge" 263 68,eR P "Twice" 288 87,eR P "Barred" 313 106,eR P "EIGHT_EDGES" 338 117,eR P "FOUR_EDGES" 351 122,eR P "is_whole" 358 129,eR P "is_place" 365 136,eR P "is_corner" 372 143,eR P "is_edge" 379 150,eR P "is_quarter" 386 157,eR P "line_of" 393 164,eR P "beside" 402 171,eR P "sides_of" 408 176,eR P "moved_by" 414 181,eR P "edges_round" 421 188,eR P "number_by" 429 195,eR P "hand_of" 439 202,eR P "mirrored" 451 209,eR P "MARKS" 457 210,eR P "is_size" 464 217,eR P "check_size" 472 224,eR P "is_mark" 479 231,eR P "is_within" 488 238,eR P "places_within" 494 243,eR P "quarters_in" 500 248,eR P "edges_in" 506 253,eR P "corners_in" 512 258,eR P "is_inner_edge" 521 265,eR P "sheet_of" 533 272,eR P "marks_in" 540 279,eR P "is_good" 548 284,eR P "creases_at" 556 289,eR P "gaps_at" 562 294,eR P "barred" 570 301,eR P "check_corners" 578 308,eR P "tie_of" 590 315,eR P "is_least" 598 322,eR P "ties_of_gap" 609 329,eR P "ties_at" 621 336,eR P "ties" 630 343,eR P "STILL" 639 344,eR P "laying_by" 648 351,eR P "mirror_in" 655 358,eR P "led" 665 365,eR P "then" 673 372,eR P "_law_nth" 683 379,eR P "_law_folded" 695 386,eR P "_law_folds" 701 391,eR P "_law_gaps" 714 398,eR P "_law_star" 732 405,eR P "_law_creases" 745 412,eR P "_law_square" 752 419,eR P "_law_sheet" 768 426,eR P "_law_round_a" 774 431,eR P "_law_inner" 784 438,eR P "_law_barred" 790 443,eR P "_law_tie" 803 450,eR P "_law_ties" 809 455,eR P "_law_refused" 819 462,eR P "law" 831 469]
noncomputable def lM:List Value:=a5z (λp:Nat×Nat=>[vI p.1,vI 0,vR p.2]) [(2,20),(4,33),(6,45),(8,57),(13,76),(18,95),(26,128),(28,135),(30,142),(32,149),(36,156),(40,163),(44,170),(48,175),(50,180),(52,187),(54,194),(62,201),(68,208),(82,216),(84,223),(87,230),(89,237),(91,242),(96,247),(98,252),(100,257),(102,264),(104,271),(117,278),(120,283),(127,288),(130,293),(137,300),(142,307),(147,314),(149,321),(151,328),(157,335),(167,342),(175,350),(177,357),(179,364),(183,371),(186,378),(188,385),(195,390),(206,397),(220,404),(237,411),(247,418),(250,425),(273,430),(284,437),(291,442),(298,449),(302,454),(316,461),(323,468)]
open PySem.W in
noncomputable def lB(P:Xi):List Obj:=(((lA P).set 3 ({cls:=Wa "dict",data:=Zl (WC (eO P "__name__" 165 (vS "creasecourt.places" 314)::(lN P).take 14)) 15})).set 12 ({cls:=vN,data:=WQ (WC (lM.take 18))}))++((tO #[Wa "ValueError"])::(({cls:=Wa "builtin_function_or_method",data:=WQ #[Xf "type.__prepare__",Wa "type"]})::(({cls:=Wa "dict",data:=Zl #[eO P "__module__" 196 (vS "creasecourt.errors" 187),eO P "__qualname__" 198 (vS "CreaseError" 197),eO P "__firstlineno__" 200 (Wy 2 199),eR P "__static_attributes__" 201 22] 4})::((tO #[])::(({cls:=vN,data:=WQ #[]})::((cO #[vS "CreaseError" 191,vS "CreaseError" 192,vS "/claim/cut.py" 193,vI 2,vI 0,vI 0,vI 0,vI 0,vR 18,XE b7,vI 181,vR 19,vN,vN,vN,vN,vI 194,vI 2,vS "/claim/cut.py" 195])::(({cls:=Wa "frame",slots:=#[b4 (vR 20),b4 (vR 3),b4 (vR 17),b6,b4 (vS "creasecourt.errors" 187),b6,b4 (vR 0)]})::((tO #[])::(({cls:=Wa "dict",data:=Zl #[eO P "__module__" 196 (vS "creasecourt.errors" 187),eO P "__firstlineno__" 200 (Wy 2 199),eR P "__static_attributes__" 201 22,eR P "__weakref__" 203 25,eO P "__doc__" 204 vN] 3})::(({cls:=Wa "type",data:=a4O {name:=X9 "CreaseError",bases:=[Wa "ValueError"],mro:=[vR 24,Wa "ValueError",Wa "Exception",Wa "BaseException",Wa "object"],ns:=23,qualname:=X9 "CreaseError",subclasses:=[vR 37,vR 49,vR 68,vR 87,vR 106]},slots:=#[b4 (vR 15),b6,b4 (vS "CreaseError" 189),b4 (vS "CreaseError" 197),b4 (Xf "ValueError.__new__"),b4 (XE b8)]})::(({cls:=Wa "getset_descriptor",data:=WQ #[vS "__weakref__" 202,vR 24,Xf "ExceptionGroup.__weakref__",vN]})::(({cls:=Wa "super",data:=WQ #[vR 24,vR 24,vR 24]})::(({cls:=Wa "builtin_function_or_method",data:=WQ #[Xf "object.__init_subclass__",vR 24]})::(Cd P 214 "NoSize" 4 35 (Cd P 230 "NoMark" 6 47 (w6 P 246 "NoEdge" 8 65 ["self","edge"] "NoEdge.__init__" 4 ["edge"] (w6 P 271 "Twice" 13 84 ["self","edge"] "Twice.__init__" 5 ["edge"] (w6 P 296 "Barred" 18 103 ["self","corner"] "Barred.__init__" 6 ["corner"] []))))))))))))))))))
open PySem.W in
noncomputable def lC(P:Xi):List Obj:=(((lB P).set 3 ({cls:=Wa "dict",data:=Zl (WC (eO P "__name__" 165 (vS "creasecourt.places" 314)::(lN P).take 21)) 22})).set 12 ({cls:=vN,data:=WQ (WC (lM.take 33))}))++(sE 2 316 0 (sE 1 318 1 (sE 0 320 2 ((tO #[Wy (-1) 323,Wy 1 324])::((tO #[Wy (-2) 326,Wy 0 327])::((tO #[Wy (-1) 329,Wy (-1) 331])::((tO #[Wy 0 332,Wy (-2) 334])::((tO #[Wy 1 335,Wy (-1) 337])::((tO #[vR 109,vR 110,vR 111,vR 112,vR 113,vR 114,vR 115,vR 116])::(sE 1 339 1 ((tO #[Wy (-1) 342,Wy 1 343])::((tO #[Wy (-1) 345,Wy (-1) 347])::((tO #[Wy 1 348,Wy (-1) 350])::((tO #[vR 118,vR 119,vR 120,vR 121])::(bT ["value"] 355 "is_whole" 10 26 1 123 356 "creasecourt.places" 314 (bT ["value"] 362 "is_place" 11 28 1 130 363 "creasecourt.places" 314 (bT ["place"] 369 "is_corner" 12 30 1 137 370 "creasecourt.places" 314 (bT ["place"] 376 "is_edge" 13 32 1 144 377 "creasecourt.places" 314 (bT ["place"] 383 "is_quarter" 14 36 1 151 384 "creasecourt.places" 314 [])))))))))))))))))))
open PySem.W in
noncomputable def lD(P:Xi):List Obj:=(((lC P).set 3 ({cls:=Wa "dict",data:=Zl (WC (eO P "__name__" 165 (vS "law_creasecourt_k51_ties_told" 674)::(lN P).take 71)) 72})).set 12 ({cls:=vN,data:=WQ (WC (lM.take 177))}))++(bT ["edge"] 390 "line_of" 15 40 1 158 391 "creasecourt.places" 314 (bT ["place","x","y"] 397 "beside" 16 44 1 165 400 "creasecourt.places" 314 (gJ "sides_of" 17 403 48 1 172 "creasecourt.places" 314 (gJ "moved_by" 18 409 50 2 177 "creasecourt.places" 314 (bT ["corner"] 418 "edges_round" 19 52 1 182 419 "creasecourt.places" 314 (bT ["line","place"] 425 "number_by" 20 54 2 189 427 "creasecourt.places" 314 (bT ["place","edge","line","ahead"] 433 "hand_of" 21 62 2 196 437 "creasecourt.places" 314 (bT ["place","edge","x","y","line","number"] 443 "mirrored" 22 68 2 203 449 "creasecourt.places" 314 ((tN ["h","v","o"] 454)::(bT ["value"] 461 "is_size" 25 82 1 211 462 "creasecourt.sheets" 452 (bT ["wide","high"] 468 "check_size" 26 84 2 218 470 "creasecourt.sheets" 452 (bT ["value"] 476 "is_mark" 27 87 1 225 477 "creasecourt.sheets" 452 (bT ["wide","high","place"] 483 "is_within" 28 89 3 232 486 "creasecourt.sheets" 452 (gJ "places_within" 29 489 91 2 239 "creasecourt.sheets" 452 (gJ "quarters_in" 30 495 96 2 244 "creasecourt.sheets" 452 (gJ "edges_in" 31 501 98 2 249 "creasecourt.sheets" 452 (gJ "corners_in" 32 507 100 2 254 "creasecourt.sheets" 452 (bT ["wide","high","value"] 516 "is_inner_edge" 33 102 3 259 519 "creasecourt.sheets" 452 (bT ["wide","high","creases","marks","crease","edge"] 525 "sheet_of" 34 104 3 266 531 "creasecourt.sheets" 452 (bT ["sheet"] 537 "marks_in" 35 117 1 273 538 "creasecourt.sheets" 452 (gJ "is_good" 37 543 120 1 280 "creasecourt.wedges" 541 (gJ "creases_at" 39 551 127 2 285 "creasecourt.corners" 549 (gJ "gaps_at" 40 557 130 2 290 "creasecourt.corners" 549 (bT ["sheet","corner"] 566 "barred" 41 137 1 295 568 "creasecourt.corners" 549 (bT ["sheet","corner"] 574 "check_corners" 42 142 1 302 576 "creasecourt.corners" 549 (bT ["one","other","alike","corner"] 584 "tie_of" 44 147 4 309 588 "creasecourt.ties" 579 (bT ["gaps","k"] 594 "is_least" 45 149 2 316 596 "creasecourt.ties" 579 (bT ["creases","k","corner","count","told"] 602 "ties_of_gap" 46 151 3 323 607 "creasecourt.ties" 579 (bT ["sheet","corner","creases","gaps","told","k"] 613 "ties_at" 47 157 2 330 619 "creasecourt.ties" 579 (bT ["sheet","told","corner"] 625 "ties" 48 167 1 337 628 "creasecourt.ties" 579 ((tO #[Wy 1 633,Wy 0 634,Wy 0 635,Wy 1 636,Wy 0 637,Wy 0 638])::(bT ["start","right","down"] 643 "laying_by" 51 175 3 345 646 "creasecourt.layings" 631 (bT ["edge"] 652 "mirror_in" 52 177 1 352 653 "creasecourt.layings" 631 (bT ["laying","place","x","y"] 659 "led" 53 179 2 359 663 "creasecourt.layings" 631 (bT ["one","other"] 669 "then" 54 183 2 366 671 "creasecourt.layings" 631 (bT ["_law_script","_law_k"] 679 "_law_nth" 56 186 2 373 681 "law_creasecourt_k51_ties_told" 674 (bT ["_law_layings","_law_edge","_law_hand","_law_made","_law_quarter","_law_laying"] 687 "_law_folded" 57 188 3 380 693 "law_creasecourt_k51_ties_told" 674 (gJ "_law_folds" 58 696 195 3 387 "law_creasecourt_k51_ties_told" 674 (bT ["_law_cell","_law_corner","_law_one","_law_other","_law_some","_law_found","_law_k"] 705 "_law_gaps" 59 206 2 392 712 "law_creasecourt_k51_ties_told" 674 (bT ["_law_size","_law_cell","_law_steps","_law_corners","_law_corner","_law_found","_law_k","_law_gap","_law_right","_law_down","_law_x","_law_y"] 718 "_law_star" 60 220 2 399 730 "law_creasecourt_k51_ties_told" 674 (bT ["_law_script","_law_at","_law_size","_law_way","_law_found","_law_k","_law_edge"] 736 "_law_creases" 61 237 3 406 743 "law_creasecourt_k51_ties_told" 674 (bT ["_law_found"] 749 "_law_square" 62 247 0 413 750 "law_creasecourt_k51_ties_told" 674 (bT ["_law_script","_law_at","_law_head","_law_size","_law_creases_here","_law_inner_here","_law_edge","_law_number","_law_marked","_law_k"] 756 "_law_sheet" 63 250 2 420 766 "law_creasecourt_k51_ties_told" 674 (gJ "_law_round_a" 64 769 273 2 427 "law_creasecourt_k51_ties_told" 674 (bT ["_law_sheet_here","_law_found","_law_x","_law_y"] 778 "_law_inner" 65 284 1 432 782 "law_creasecourt_k51_ties_told" 674 (gJ "_law_barred" 66 785 291 1 439 "law_creasecourt_k51_ties_told" 674 (bT ["_law_near","_law_k","_law_other","_law_alike","_law_corner","_law_one","_law_two"] 794 "_law_tie" 67 298 5 444 801 "law_creasecourt_k51_ties_told" 674 (gJ "_law_ties" 68 804 302 1 451 "law_creasecourt_k51_ties_told" 674 (bT ["_law_sheet_here","_law_corner","_law_told","e"] 813 "_law_refused" 69 316 2 456 817 "law_creasecourt_k51_ties_told" 674 (bT ["_law_script","_law_sheet_here","_law_corner","_law_found","_law_due","_law_tie_here"] 823 "law" 70 323 1 463 829 "law_creasecourt_k51_ties_told" 674 []))))))))))))))))))))))))))))))))))))))))))))))))))
noncomputable def As:List Addr:=[3,2,22,23,24,25,35,36,37,47,48,49,64,65,66,67,68,83,84,85,86,87,102,103,104,105,106,109,110,111,112,113,114,115,116,117,118,119,120,121,122,128,129,135,136,142,143,149,150,156,157,163,164,170,171,175,176,180,181,187,188,194,195,201,202,208,209,210,216,217,223,224,230,231,237,238,242,243,247,248,252,253,257,258,264,265,271,272,278,279,283,284,288,289,293,294,300,301,307,308,314,315,321,322,328,329,335,336,342,343,344,350,351,357,358,364,365,371,372,378,379,385,386,390,391,397,398,404,405,411,412,418,419,425,426,430,431,437,438,442,443,449,450,454,455,461,462,468,469]
noncomputable def Kx:Xi → VG:=λP=>As.map λa=>(a,((lD P)[a]?).getD (tO #[]))
theorem pT:∀P,As=(Kx P).map (·.1):=λ_=>by kernel_rfl
noncomputable def vE:a0k:={scope:=Xe.main.scope,locals:=mainNs,globals:=mainNs,cells:=[],code:=VU 13,frame:=b4 14}
open PySem.W PyProof.Rows in
set_option maxRecDepth 100000 in
set_option maxHeartbeats 0 in
theorem JL(w:Wj)(a:a0d):topGo X7 (W2 VP).prog w 11 (b4 (VU 6)) 12 ⟨ZC w.params,WC [],Xd,a2k,a⟩ (topStub (W2 VP).prog)=b4 (⟨⟨WC (lA w.params),{}⟩,WC [],Xd,187,a⟩,⟨denote X7 (.body (We (W2 VP).prog) vE),(.body (We (W2 VP).prog) vE),⟨0,0,0,0⟩,[ZH ⟨0,0,0,0⟩]⟩):=by kernel_rfl
open PySem.W PyProof.Rows in
set_option maxRecDepth 100000 in
set_option maxHeartbeats 0 in
theorem JM(w:Wj)(a:a0d):a2g X7 (W2 VP).prog w 11 (b4 (VU 6)) 1 1 ⟨⟨WC (lA w.params),{}⟩,WC [],Xd,187,a⟩ (blockOf (We (W2 VP).prog) vE (.body (We (W2 VP).prog) vE) ⟨0,0,0,0⟩ [ZH ⟨0,0,0,0⟩])=b4 (.next,⟨⟨WC (lA w.params),{}⟩,WC [],Xd,187,a⟩,(.body (We (W2 VP).prog) vE),⟨0,0,0,0⟩):=by kernel_rfl
open PySem.W PyProof.Rows in
set_option maxRecDepth 100000 in
set_option maxHeartbeats 0 in
theorem JN(w:Wj)(a:a0d):a2g X7 (W2 VP).prog w 11 (b4 (VU 6)) 1 1366 ⟨⟨WC (lA w.params),{}⟩,WC [],Xd,187,a⟩ (a1K ((We (W2 VP).prog).take 8) vE (.body (We (W2 VP).prog) vE) ⟨0,0,0,0⟩ [ZH ⟨0,0,0,0⟩])=b4 (.next,⟨⟨WC (lB w.params),{}⟩,WC [],Xd,316,a⟩,(.body (We (W2 VP).prog) vE),⟨23,0,23,8⟩):=by kernel_rfl
open PySem.W PyProof.Rows in
set_option maxRecDepth 100000 in
set_option maxHeartbeats 0 in
theorem JO(w:Wj)(a:a0d):a2g X7 (W2 VP).prog w 11 (b4 (VU 6)) 1 264 ⟨⟨WC (lB w.params),{}⟩,WC [],Xd,316,a⟩ (a1K (((We (W2 VP).prog).drop 8).take 7) vE (.body (We (W2 VP).prog) vE) ⟨23,0,23,8⟩ [ZH ⟨0,0,0,0⟩])=b4 (.next,⟨⟨WC (lC w.params),{}⟩,WC [],Xd,387,a⟩,(.body (We (W2 VP).prog) vE),⟨36,0,39,50⟩):=by kernel_rfl
open PySem.W PyProof.Rows in
set_option maxRecDepth 100000 in
set_option maxHeartbeats 0 in
theorem JP(w:Wj)(a:a0d):a2g X7 (W2 VP).prog w 11 (b4 (VU 6)) 1 1536 ⟨⟨WC (lC w.params),{}⟩,WC [],Xd,387,a⟩ (a1K ((((We (W2 VP).prog).drop 8).drop 7).take 56) vE (.body (We (W2 VP).prog) vE) ⟨36,0,39,50⟩ [ZH ⟨0,0,0,0⟩])=b4 (.next,⟨⟨WC (lD w.params),{}⟩,WC [],Xd,832,a⟩,(.body (We (W2 VP).prog) vE),⟨323,0,336,44⟩):=by kernel_rfl
open PySem.W PyProof.Rows in
set_option maxRecDepth 100000 in
set_option maxHeartbeats 0 in
theorem run:LeftO (W2 VP).prog Vw [] (λs=>xlAt Vw [] s&&recOk (a5w (a4h (W2 VP))) s) (Hook.obs (a6C Kx As pT)) (Hook.val (a6C Kx As pT)) 6452:=
 L3.left_cut (hA:=λP=>⟨WC (lA P),{}⟩) (hB:=λP=>⟨WC (lB P),{}⟩) (hC:=λP=>⟨WC (lC P),{}⟩) (hD:=λP=>⟨WC (lD P),{}⟩) (n4:=201) (i1:=8) (i2:=7) (i3:=56) (env:=vE) (boot_open (by kernel_rfl) (by kernel_rfl) (λ_=>by kernel_rfl)) (λw=>by kernel_rfl) JL JM JN JO JP (λw a=>by kernel_rfl) (by kernel_rfl)
end Lw
set_option maxHeartbeats 4000000
namespace L3
open PySem
open PySem.SetTable (Probe Met Slot bits runEnd leap turns insertAt sizeAbove)
namespace Tb
noncomputable def lR(m:Nat)(p:Probe):Probe:=
 if p.more>0 then{p with j:=p.j+1,more:=p.more-1}else
 {p with j:=(leap m p.i p.perturb).1,more:=runEnd m (leap m p.i p.perturb).1-(leap m p.i p.perturb).1,i:=(leap m p.i p.perturb).1,perturb:=(leap m p.i p.perturb).2}
noncomputable def JQ(m:Nat)(b:Nat):Probe:={j:=b%(m+1),more:=runEnd m (b%(m+1))-b%(m+1),i:=b%(m+1),perturb:=b,dummy:=b6}
noncomputable def cF(m b:Nat):Nat->Probe
 |0=>JQ m b|k+1=>lR m (cF m b k)
noncomputable def lp(m b:Nat):Nat->Nat×Nat
 |0=>(b%(m+1),b)|n+1=>leap m (lp m b n).1 (lp m b n).2
noncomputable def hd(m i q:Nat):Probe:={j:=i,more:=runEnd m i-i,i:=i,perturb:=q,dummy:=b6}
theorem pU{m b k i q:Nat}(h:cF m b k=hd m i q):∀r,r<=runEnd m i-i->cF m b (k+r)={j:=i+r,more:=runEnd m i-i-r,i:=i,perturb:=q,dummy:=b6}
 |0,_=>by rw[a5M,h];rfl
 |r+1,hr=>by have e:=pU h r (by omega);show lR m (cF m b (k+r))=_;rw[e];unfold lR;rw[if_pos (show runEnd m i-i-r>0 by omega)];show Probe.mk (i+r+1) (runEnd m i-i-r-1) i q b6=_;rw[Nat.add_assoc,Nat.sub_sub]
theorem JR{m b k i q:Nat}(h:cF m b k=hd m i q):cF m b (k+(runEnd m i-i)+1)=hd m (leap m i q).1 (leap m i q).2:=by have e:=pU h (runEnd m i-i) (VS _);show lR m (cF m b (k+(runEnd m i-i)))=_;rw[e];unfold lR;rw[if_neg (show ¬ (runEnd m i-i-(runEnd m i-i)>0) by omega)];rfl
noncomputable def nx(m i:Nat):Nat:=(i*5+1)%(m+1)
noncomputable def iG(m:Nat):Nat->Nat->Nat
 |0,i=>i|n+1,i=>iG m n (nx m i)
theorem pV(m:Nat):∀(a b i:Nat),iG m (a+b) i=iG m b (iG m a i)
 |0,b,i=>by rw[a2X];rfl
 |a+1,b,i=>by rw[Nat.succ_add];exact pV m a b (nx m i)
noncomputable def iH(m:Nat):Nat->Nat->Nat->Nat
 |0,_,acc=>acc|f+1,i,acc=>iH m f (nx m i) (acc ||| (1 <<< i))
theorem Ce(m j:Nat):∀(f i a:Nat),(iH m f i a).testBit j=b8->a.testBit j=b8\/∃n,n<f/\iG m n i=j
 |0,_,_,h=>.inl h|f+1,i,a,h=>by
  rcases Ce m j f (nx m i) _ h with h|⟨n,d,e⟩
  ·rw[Nat.testBit_or]at h;cases c:a.testBit j with
   |true=>exact .inl rfl|false=>rw[c,a0S,Nat.testBit_shiftLeft]at h;refine .inr ⟨0,by omega,?_⟩;simp at h;have b:Nat.testBit 1 (j-i)=true:=h.2;rw[Nat.testBit_one_eq_true_iff_self_eq_zero]at b;show i=j;omega
  ·exact .inr ⟨n+1,by omega,e⟩
noncomputable def m9(m:Nat):Bool:=iH m (m+1) 0 0==2^(m+1)-1&&iG m (m+1) 0==0
theorem JS{m:Nat}(h:m9 m=b8){i j:Nat}(p:i<=m)(l:j<=m):∃n,n<=m/\iG m n i=j:=by
 unfold m9 at h;rw[VO,beq_iff_eq,beq_iff_eq]at h;have b:∀j,j<=m->∃n,n<m+1/\iG m n 0=j:=λj l=>by
  rcases Ce m j (m+1) 0 0 (by rw[h.1,Nat.testBit_two_pow_sub_one];simp;omega)with q|q
  ·simp at q
  ·exact q
 obtain⟨a,r,d⟩:=b i p;obtain⟨c,hc,e⟩:=b j l;by_cases o:a<=c
 ·refine⟨c-a,by omega,?_⟩;rw[<- d,<- pV,show a+(c-a)=c by omega,e]
 ·refine⟨m+1-a+c,by omega,?_⟩;rw[<- d,<- pV,show a+(m+1-a+c)=m+1+c by omega,pV,h.2,e]
theorem Cf(m b:Nat):∀n,(lp m b n).2=b/32^n
 |0=>by simp[lp]
 |n+1=>by show(lp m b n).2/32=_;rw[Cf m b n,Nat.div_div_eq_div_mul,Nat.pow_succ]
theorem Cg(m b:Nat):∀n,(lp m b n).1<=m
 |0=>a4t (Zk _ (a2Y _))|n+1=>a4t (Zk _ (a2Y _))
theorem JT{m b:Nat}(c:b<2^64):∀n,lp m b (13+n)=(iG m n (lp m b 13).1,0):=by
 have a:∀n,13<=n->(lp m b n).2=0:=λn d=>by
  rw[Cf];apply Nat.div_eq_of_lt;refine Wb c ?_;have:(2:Nat)^64<=32^13:=by decide
  exact WM this (Nat.pow_le_pow_right (by decide) d)
 intro n;have one:∀n i,iG m (n+1) i=nx m (iG m n i):=λn i=>by rw[pV];rfl
 induction n with
 |zero=>exact Yq rfl (a 13 (VS _))|succ n e=>show leap m (lp m b (13+n)).1 (lp m b (13+n)).2=_;rw[e,one];simp[leap,nx]
theorem JU{m b j:Nat}(hc:m9 m=b8)(a:b<2^64)(c:j<=m):∃n,n<=m+13/\(lp m b n).1=j:=by obtain⟨n,d,e⟩:=JS hc (Cg m b 13) c;exact⟨13+n,by omega,by rw[JT a];exact e⟩
noncomputable def Reach(m:Nat)(S:List Nat)(b j:Nat):Prop:=∃k,(cF m b k).j=j/\∀k',k'<k->(cF m b k').j∈S
theorem Reach.mono{m b j:Nat}{S c:List Nat}(h:Reach m S b j)(i:∀x,x∈S->x∈c):Reach m c b j:=
 let⟨k,e,a⟩:=h;⟨k,e,λl d=>i _ (a l d)⟩
theorem JV{m:Nat}{S:List Nat}(b:S.length<=m):∃j,j<=m/\j∉S:=by refine a1t λh=>?_;have all:∀j,j<=m->j∈S:=λj a=>a1t λq=>h ⟨j,a,q⟩;have:=Zn (l₁:=Wf (m+1)) (l₂:=S) a4v λj a=>all j (by simpa[a1Q]using a);rw[WW]at this;omega
theorem w8{xs:Array Nat}{j:Nat}(l:∀a b,a<b->b<xs.size->xs.getD a 0<xs.getD b 0):∀(f lo d:Nat),d-lo<=f->lo<=d->d<=xs.size->(∀i,i<lo->xs.getD i 0<j)->(∀i,d<=i->i<xs.size->j<=xs.getD i 0)->
  ZK xs j f lo d<=xs.size/\(∀i,i<ZK xs j f lo d->xs.getD i 0<j)/\∀i,ZK xs j f lo d<=i->i<xs.size->j<=xs.getD i 0
 |0,lo,d,hf,h1,h2,a,b=>by
  have e:lo=d:=by omega
  show lo<=xs.size/\(∀i,i<lo->_)/\∀i,lo<=i->_;exact⟨by omega,a,by rw[e];exact b⟩
 |f+1,lo,d,hf,h1,h2,a,b=>by
  unfold ZK;by_cases q:lo<d
  ·rw[if_pos q];dsimp only;have o:(lo+d)/2<xs.size:=by omega
   have e:xs.getD ((lo+d)/2) j=xs.getD ((lo+d)/2) 0:=by simp[Ye,o]
   rw[e];by_cases c:xs.getD ((lo+d)/2) 0<j
   ·rw[if_pos c];refine w8 l f _ _ (by omega) (by omega) h2 (λi m=>?_) b;rcases Y0 i ((lo+d)/2)with z|z
    ·exact YZ (l _ _ z o) c
    ·have:i=(lo+d)/2:=by omega
     rw[this];exact c
   ·rw[if_neg c];refine w8 l f _ _ (by omega) (by omega) (by omega) a λi m n=>?_;rcases Y0 ((lo+d)/2) i with z|z
    ·have:=l _ _ z n;omega
    ·have:i=(lo+d)/2:=by omega
     rw[this];omega
  ·rw[if_neg q];exact⟨by omega,a,λi h n=>b i (by omega) n⟩
theorem Ci{xs:Array Nat}(h:xs.toList.Pairwise (·<·)):∀a b,a<b->b<xs.size->xs.getD a 0<xs.getD b 0:=λa b c d=>by have:=XA.mp h a b (by simpa using YZ c d) (by simpa using d) c;simpa[Ye,d,YZ c d]using this
theorem Cj{xs:Array Nat}(h:xs.toList.Pairwise (·<·))(j:Nat):W9 xs j<=xs.size/\(∀i,i<W9 xs j->xs.getD i 0<j)/\∀i,W9 xs j<=i->i<xs.size->j<=xs.getD i 0:=
 w8 (Ci h) _ _ _ (by omega) (by omega) (VS _) (λi z=>absurd z (Z1 _)) λi z a=>by omega
theorem JW{a:Type}(xs:Array a)(p:Nat)(x:a):(insertAt xs p x).toList=xs.toList.take p++x::xs.toList.drop p:=by unfold insertAt;simp;exact Zu (by simp)
noncomputable abbrev nB:=Nat×Int×Value
structure Ok(t:a0C)(R:List nB):Prop where
 place:t.place.toList=R.map (·.1)
 dum:t.dummies=#[]
 rise:(R.map (·.1)).Pairwise (·<·)
 le:∀r∈R,r.1<=t.mask
 cov:m9 t.mask=b8
 odd:t.mask%2=1
 room:R.length<=t.mask
 road:∀r∈R,Reach t.mask (R.map (·.1)) (bits r.2.1) r.1
section
variable{t:a0C}{R:List nB}
theorem JX(h:Int):bits h<2^64:=by unfold bits;have a:0<=h%(2^64:Int):=Zh _ (by decide);have b:h%(2^64:Int)<2^64:=YA _ (by decide);omega
theorem Ok.size(o:Ok t R):t.place.size=R.length:=by have:=congrArg Xc o.place;simpa using this
theorem Ok.uniq(o:Ok t R){r c:nB}(h:r∈R)(h':c∈R)(e:r.1=c.1):r=c:=by
 have p:=Yl.mp o.rise;obtain⟨i,d,a⟩:=X5 h;obtain⟨k,j,b⟩:=X5 h';rcases Zz i k with z|z|z
 ·have:=XA.mp p i k d j z;rw[a,b]at this;omega
 ·subst z;rw[<- a,<- b]
 ·have:=XA.mp p k i j d z;rw[a,b]at this;omega
theorem Ok.getD(o:Ok t R){i:Nat}(a:i<R.length):t.place.getD i 0=(R[i]).1:=by
 have h:t.place.toList[i]?=(R.map (·.1))[i]?:=by rw[o.place]
 have b:i<t.place.size:=by rw[o.size];exact a
 simp[a,b]at h;simp[Ye,b,h]
theorem Ok.sorted(o:Ok t R):t.place.toList.Pairwise (·<·):=by rw[o.place];exact o.rise
theorem Ck(j:Nat):a1V #[] j=false:=by unfold a1V;simp
theorem Ok.live(o:Ok t R){j:Nat}(h:j∈R.map (·.1)):∃i r,t.slot j=.live i/\R[i]?=b4 r/\r.1=j:=by
 obtain⟨r,n,e⟩:=Wm.mp h;obtain⟨i,a,d⟩:=X5 n;have b:=Cj o.sorted j;have m:t.place.getD i 0=j:=by rw[o.getD a,d];exact e
 have c:i<t.place.size:=by rw[o.size];exact a
 have l:W9 t.place j=i:=by
  rcases Zz (W9 t.place j) i with z|z|z
  ·have p:=b.2.2 _ (VS _) (by omega);have q:=Ci o.sorted _ _ z c;omega
  ·exact z
  ·have:=b.2.1 i z;omega
 refine⟨i,r,?_,by rw[<- d];exact VT a,e⟩;unfold a3W;dsimp only;rw[l,if_pos];have:t.place[i]?=b4 j:=by rw[a2d c];simpa[Ye,c]using m
 rw[this];exact beq_self_eq_true _
theorem Ok.empty(o:Ok t R){j:Nat}(h:j∉R.map (·.1)):t.slot j=.empty:=by
 unfold a3W;dsimp only;rw[if_neg,o.dum,Ck]
 ·rfl
 ·intro q;rw[beq_iff_eq]at q;apply h;rw[<- o.place];exact Array.mem_toList_iff.mpr (Array.mem_of_getElem? q)
theorem Cm(m b:Nat):∀k,(cF m b k).dummy=b6
 |0=>rfl|k+1=>by show(lR m (cF m b k)).dummy=b6;unfold lR;split<;>exact Cm m b k
theorem Ok.go(o:Ok t R)(a2j:Nat->Int)(x:∀i r,R[i]?=b4 r->a2j i=r.2.1){h:Int}{K:Nat}(v:(cF t.mask (bits h) K).j∉R.map (·.1))(w:∀k',k'<K->(cF t.mask (bits h) k').j∈R.map (·.1)) :
  ∀(f k:Nat),k<=K->K<k+f->
   (ZJ t a2j h f (cF t.mask (bits h) k)=b4 (.empty (cF t.mask (bits h) K).j b6)/\∀k' r,k<=k'->k'<K->r∈R->r.1=(cF t.mask (bits h) k').j->r.2.1≠h) \/
   ∃k' i r,k<=k'/\k'<K/\R[i]?=b4 r/\r.1=(cF t.mask (bits h) k').j/\r.2.1=h/\ZJ t a2j h f (cF t.mask (bits h) k)=b4 (.candidate (cF t.mask (bits h) k').j i (cF t.mask (bits h) (k'+1))) /\
    ∀c j,k<=c->c<k'->j∈R->j.1=(cF t.mask (bits h) c).j->j.2.1≠h
 |0,k,h1,h2=>by omega
 |f+1,k,h1,h2=>by
  rcases Y0 k K with z|z
  ·obtain⟨i,r,e,p,u⟩:=o.live (w k z);have L:ZJ t a2j h (f+1) (cF t.mask (bits h) k)=if a2j i==h then b4 (.candidate (cF t.mask (bits h) k).j i (cF t.mask (bits h) (k+1)))else ZJ t a2j h f (cF t.mask (bits h) (k+1)):=by show(match t.slot (cF t.mask (bits h) k).j with|.empty=>_|.dummy=>_|.live i=>_)=_;rw[e];rfl
   rw[L,x i r p];have s:r∈R:=WO p;by_cases q:r.2.1=h
   ·refine .inr ⟨k,i,r,VS _,z,p,u,q,?_,λc j a b=>by omega⟩;rw[q,if_pos (beq_self_eq_true _)]
   ·rw[if_neg (by simpa using q)];have here:∀j,j∈R->j.1=(cF t.mask (bits h) k).j->j.2.1≠h:=λj d l=>by rw[o.uniq d s (l.trans u.symm)];exact q
    rcases Ok.go o a2j x v w f (k+1) z (by omega)with⟨a,b⟩|⟨k',M,j,N,A,B,E,G,H,I⟩
    ·refine .inl ⟨a,λk' j J n d l=>?_⟩;rcases Y0 k k' with y|y
     ·exact b k' j y n d l
     ·have:k'=k:=by omega
      subst this;exact here j d l
    ·refine .inr ⟨k',M,j,by omega,A,B,E,G,H,λc m J n d l=>?_⟩;rcases Y0 k c with y|y
     ·exact I c m y n d l
     ·have:c=k:=by omega
      subst this;exact here m d l
  ·have:k=K:=by omega
   subst this;refine .inl ⟨?_,λk' r a b=>by omega⟩;show(match t.slot (cF t.mask (bits h) k).j with|.empty=>_|.dummy=>_|.live i=>_)=_;rw[o.empty v];show b4 (Met.empty _ (cF t.mask (bits h) k).dummy)=_;rw[Cm]
theorem Ok.put(o:Ok t R){j:Nat}{h:Int}{x:Value}(s:j<=t.mask)(v:j∉R.map (·.1))(a:Reach t.mask (R.map (·.1)) (bits h) j)(B:R.length+1<=t.mask) :
  (t.put j).2=W9 t.place j/\(t.put j).1.mask=t.mask/\(t.put j).1.led=t.led/\(t.put j).1.plain=t.plain/\Ok (t.put j).1 (R.take (W9 t.place j)++(j,h,x)::R.drop (W9 t.place j)):=by
 have b:=Cj o.sorted j;rw[o.size]at b;refine⟨rfl,rfl,rfl,rfl,?_⟩;have c:∀r,r∈R.take (W9 t.place j)++(j,h,x)::R.drop (W9 t.place j)↔r=(j,h,x)\/r∈R:=λr=>by
  constructor
  ·intro q;rcases Xa.mp q with q|q
   ·exact .inr (List.mem_of_mem_take q)
   ·rcases Wr.mp q with q|q
    ·exact .inl q
    ·exact .inr (a3h q)
  ·rintro(q|q)
   ·exact Xa.mpr (.inr (Wr.mpr (.inl q)))
   ·rw[<- Yh (W9 t.place j) R]at q;rcases Xa.mp q with q|q
    ·exact Xa.mpr (.inl q)
    ·exact Xa.mpr (.inr (Wr.mpr (.inr q)))
 have l:∀y,y∈R.map (·.1)->y∈(R.take (W9 t.place j)++(j,h,x)::R.drop (W9 t.place j)).map (·.1):=λy w=>by obtain⟨r,q,e⟩:=Wm.mp w;exact Wm.mpr ⟨r,(c r).mpr (.inr q),e⟩
 have n:∀r,r∈R.take (W9 t.place j)->r.1<j:=λr a=>by obtain⟨i,d,e⟩:=X5 a;rw[WV]at d;have:=b.2.1 i (by omega);rw[o.getD (by omega)]at this;rw[List.getElem_take]at e;rw[<- e];exact this
 have d:∀r,r∈R.drop (W9 t.place j)->j<r.1:=λr a=>by have u:r∈R:=a3h a;obtain⟨i,d,e⟩:=X5 a;rw[Ys]at d;have:=b.2.2 (W9 t.place j+i) (by omega) (by omega);rw[o.getD (by omega)]at this;rw[List.getElem_drop]at e;rw[e]at this;have ne:r.1≠j:=λz=>v (Wm.mpr ⟨r,u,z⟩);omega
 refine⟨?_,?_,?_,?_,o.cov,o.odd,?_,?_⟩
 ·show(insertAt t.place _ j).toList=_;rw[JW,o.place,Wz,V0,a2v,a5d]
 ·show(if a1V t.dummies j=b8 then _ else t.dummies)=#[];rw[o.dum,Ck];rfl
 ·have p:=Yl.mp o.rise;rw[Yl,a3g];refine⟨p.sublist (a4j _ _),List.pairwise_cons.mpr ⟨λr a=>d r a,p.sublist (List.drop_sublist _ _)⟩,λr a A m=>?_⟩;rcases Wr.mp m with q|q
  ·subst q;exact n r a
  ·exact YZ (n r a) (d A q)
 ·intro r q;rcases(c r).mp q with q|q
  ·subst q;exact s
  ·exact o.le r q
 ·rw[V1,Wc,WV,Ys];show _<=t.mask;omega
 ·intro r q;rcases(c r).mp q with q|q
  ·subst q;exact a.mono l
  ·exact(o.road r q).mono l
end
noncomputable def lv(m:Nat)(a:Array (Option Nat)):List (Nat×Nat):=(Wf (m+1)).filterMap λj=>(a.getD j b6).map (j,·)
theorem mem_lv{m:Nat}{c:Array (Option Nat)}{j i:Nat}:(j,i)∈lv m c↔j<=m/\c.getD j b6=b4 i:=by
 unfold lv;rw[a0U];constructor
 ·rintro⟨a,o,e⟩;rw[VJ]at e;obtain⟨b,d,h⟩:=e;cases h;exact⟨by simpa[a1Q]using o,d⟩
 ·rintro⟨l,n⟩;exact⟨j,by simpa[a1Q]using l,by rw[n];rfl⟩
theorem JY(m:Nat)(j:Array (Option Nat)):((lv m j).map (·.1)).Pairwise (·<·):=by rw[Yl];unfold lv;refine a5P (R:=(·<·)) _ (λa l h b d n c=>?_) List.pairwise_lt_range;rw[VJ]at d c;obtain⟨_,_,e⟩:=d;obtain⟨_,_,i⟩:=c;rw[<- e,<- i];exact h
structure Ow(m:Nat)(ds:List Int)(ow:Array (Option Nat)):Prop where
 size:ow.size=m+1
 lt:∀j i,ow.getD j b6=b4 i->i<ds.length
 all:∀i,i<ds.length->∃j,ow.getD j b6=b4 i
 inj:∀j j' i,ow.getD j b6=b4 i->ow.getD j' b6=b4 i->j=j'
 road:∀j i,ow.getD j b6=b4 i->Reach m ((lv m ow).map (·.1)) (bits (ds.getD i 0)) j
section
variable{m:Nat}{ds:List Int}{ow:Array (Option Nat)}
theorem Ow.le(o:Ow m ds ow){j i:Nat}(h:ow.getD j b6=b4 i):j<=m:=by
 rcases Y0 j ow.size with z|z
 ·rw[o.size]at z;omega
 ·simp[Ye,ZL.mpr z]at h
theorem Ow.taken(o:Ow m ds ow){j:Nat}(b:j<=m):j∈(lv m ow).map (·.1)↔(ow.getD j (b4 0)).isNone=false:=by
 have c:j<ow.size:=by rw[o.size];omega
 have e:ow.getD j (b4 0)=ow.getD j none:=by simp[Ye,c]
 rw[e];constructor
 ·intro q;obtain⟨⟨a,i⟩,d,rfl⟩:=Wm.mp q;rw[(mem_lv.mp d).2];rfl
 ·intro q;cases z:ow.getD j b6 with
  |none=>rw[z]at q;cases q|some i=>exact Wm.mpr ⟨(j,i),mem_lv.mpr ⟨b,z⟩,rfl⟩
theorem Ow.perm(o:Ow m ds ow):((lv m ow).map (·.2)).Perm (Wf ds.length):=by
 have s:((lv m ow).map (·.2)).Nodup:=by have p:=Yl.mp (JY m ow);unfold List.Nodup;rw[Yl];refine p.imp_of_mem λ{a b} n r c e=>?_;obtain⟨d,h⟩:=a;obtain⟨l,v⟩:=b;have:=o.inj d l h (mem_lv.mp n).2 (by have:=(mem_lv.mp r).2;rw[this];exact congrArg b4 e.symm);exact Xp _ (this▸c)
 refine(List.perm_ext_iff_of_nodup s a4v).mpr λi=>?_;rw[WZ];constructor
 ·intro q;obtain⟨⟨a,i⟩,u,rfl⟩:=Wm.mp q;exact o.lt a i (mem_lv.mp u).2
 ·intro q;obtain⟨j,e⟩:=o.all i q;exact Wm.mpr ⟨(j,i),mem_lv.mpr ⟨o.le e,e⟩,rfl⟩
theorem Ow.count(o:Ow m ds ow):(lv m ow).length=ds.length:=by have:=o.perm.length_eq;simpa using this
theorem Ow.free(o:Ow m ds ow){b:Nat}:∀(f n k0:Nat),cF m b k0=hd m (lp m b n).1 (lp m b n).2->(∀k',k'<k0->(cF m b k').j∈(lv m ow).map (·.1))->(∃N,n<=N/\N<n+f/\(lp m b N).1∉(lv m ow).map (·.1))->
  ∃j,ZQ m ow f (lp m b n).1 (lp m b n).2=b4 j/\j<=m/\j∉(lv m ow).map (·.1)/\Reach m ((lv m ow).map (·.1)) b j
 |0,n,k0,_,_,⟨N,h1,h2,_⟩=>by omega
 |f+1,n,k0,hk,ht,⟨N,h1,h2,hN⟩=>by
  have v:=Cg m b n;have l:runEnd m (lp m b n).1<=m:=by unfold runEnd;split<;>omega
  have p:(lp m b n).1<=runEnd m (lp m b n).1:=by unfold runEnd;split<;>omega
  unfold ZQ;cases z:(Wf (runEnd m (lp m b n).1+1-(lp m b n).1)).find? λk=>(ow.getD ((lp m b n).1+k) (b4 0)).isNone with
  |some r=>
   rw[List.find?_range_eq_some]at z;obtain⟨h,s,u⟩:=z;rw[WZ]at s;refine⟨(lp m b n).1+r,rfl,by omega,λq=>?_,k0+r,by rw[pU hk r (by omega)],λk' a=>?_⟩
   ·rw[o.taken (by omega)]at q;rw[q]at h;cases h
   ·rcases Y0 k' k0 with y|y
    ·exact ht k' y
    ·obtain⟨d,rfl⟩:=a2G y;rw[pU hk d (by omega)];show(lp m b n).1+d∈_;rw[o.taken (by omega)];have:=u d (by omega);simpa using this
  |none=>
   rw[List.find?_range_eq_none]at z;have c:∀r,r<runEnd m (lp m b n).1+1-(lp m b n).1->(lp m b n).1+r∈(lv m ow).map (·.1):=λr i=>by rw[o.taken (by omega)];have:=z r i;simpa using this
   have ne:N≠n:=λe=>hN (by rw[e];exact c 0 (by omega));refine Ow.free o f (n+1) _ (JR hk) (λk' a=>?_) ⟨N,by omega,by omega,hN⟩;rcases Y0 k' k0 with y|y
   ·exact ht k' y
   ·obtain⟨d,rfl⟩:=a2G y;rw[pU hk d (by omega)];exact c d (by omega)
theorem Ow.step(o:Ow m ds ow)(hc:m9 m=b8)(G:ds.length<=m)(h:Int):∃j,ZQ m ow (turns m) (bits h%(m+1)) (bits h)=b4 j/\Ow m (ds++[h]) (ow.setIfInBounds j (b4 ds.length)):=by
 obtain⟨g,B,u⟩:=JV (m:=m) (S:=(lv m ow).map (·.1)) (by rw[VI,o.count];exact G);obtain⟨N,J,A⟩:=JU hc (JX h) B;obtain⟨j,e,E,w,H⟩:=o.free (b:=bits h) (turns m) 0 0 rfl (λl z=>absurd z (Z1 _)) ⟨N,Yb _,by unfold turns;omega,by rw[A];exact u⟩;have x:j<ow.size:=by rw[o.size];omega
 have get:∀k,(ow.setIfInBounds j (b4 ds.length)).getD k b6=if k=j then b4 ds.length else ow.getD k none:=λk=>by
  by_cases q:k=j
  ·subst q;simp[Ye,x]
  ·rw[if_neg q];simp[Ye];split
   ·rw[Array.getElem_setIfInBounds];rw[if_neg (WG q)]
   ·rfl
 have r:ow.getD j b6=none:=by
  cases z:ow.getD j b6 with
  |none=>rfl|some i=>exact absurd (Wm.mpr ⟨(j,i),mem_lv.mpr ⟨E,z⟩,rfl⟩) w
 have p:∀y,y∈(lv m ow).map (·.1)->y∈(lv m (ow.setIfInBounds j (b4 ds.length))).map (·.1):=λy I=>by obtain⟨⟨a,i⟩,q,rfl⟩:=Wm.mp I;have s:=mem_lv.mp q;refine Wm.mpr ⟨(a,i),mem_lv.mpr ⟨s.1,?_⟩,rfl⟩;rw[get,if_neg (λz=>by rw[z,r]at s;cases s.2)];exact s.2
 refine⟨j,e,⟨by rw[Array.size_setIfInBounds];exact o.size,λk i b=>?_,λi v=>?_,λk l i c d=>?_,λk i b=>?_⟩⟩
 ·rw[get]at b;rw[V1,YH];by_cases q:k=j
  ·rw[if_pos q]at b;cases b;omega
  ·rw[if_neg q]at b;have:=o.lt k i b;omega
 ·rw[V1,YH]at v;by_cases q:i=ds.length
  ·exact⟨j,by rw[get,if_pos rfl,q]⟩
  ·obtain⟨k,b⟩:=o.all i (by omega);exact⟨k,by rw[get,if_neg (λz=>by rw[z,r]at b;cases b)];exact b⟩
 ·rw[get]at c d;by_cases q:k=j
  ·by_cases n:l=j
   ·rw[q,n]
   ·rw[if_pos q]at c;rw[if_neg n]at d;cases c;exact absurd (o.lt l _ d) (Xp _)
  ·by_cases n:l=j
   ·rw[if_neg q]at c;rw[if_pos n]at d;cases d;exact absurd (o.lt k _ c) (Xp _)
   ·rw[if_neg q]at c;rw[if_neg n]at d;exact o.inj k l i c d
 ·rw[get]at b;by_cases q:k=j
  ·rw[if_pos q]at b;cases b;rw[q];have:(ds++[h]).getD ds.length 0=h:=by simp[W3]
   rw[this];exact H.mono p
  ·rw[if_neg q]at b;have v:=o.lt k i b;have:(ds++[h]).getD i 0=ds.getD i 0:=by simp[W3,Ww v]
   rw[this];exact(o.road k i b).mono p
end
theorem Ow.nil(m:Nat):Ow m [] (a1C (m+1) b6):=by
 have e:∀j,(a1C (m+1) (b6:Option Nat)).getD j b6=none:=λj=>by simp[Ye]
 have a:∀{P:Prop}(j i:Nat),(a1C (m+1) (b6:Option Nat)).getD j b6=b4 i->P:=λj i h=>by rw[e]at h;exact nomatch h
 exact⟨by simp,λj i h=>a j i h,λi h=>absurd h (Z1 _),λj b i h _=>a j i h,λj i h=>a j i h⟩
end Tb
end L3
namespace L3
open PySem
open PySem.SetTable (Probe Met Slot bits runEnd leap turns insertAt sizeAbove)
namespace Tb
section
variable{prog:V6}{w:Wj}{K:Type} [DecidableEq K] {knd:KeyKind prog w K}{A:Wh}{E:Value->VL->Prop}{s:VL}
theorem fits_of{t:a0C}{R:List nB}{es:Array (Int×Value)}(o:Ok t R)(c:es.toList=R.map (·.2)):t.fits es.size=true:=by
 have a:es.size=R.length:=by simpa using congrArg Xc c
 have b:=o.room;unfold SetTable.fits SetTable.fill;rw[o.size,a,o.dum];simp;exact b
end
section
variable{prog:V6}{w:Wj}{A:Wh}{E:Value->VL->Prop}{s:VL}
noncomputable abbrev El:=List Int×Addr
noncomputable def hashT(k:List Int):Int:=reduceHash (a5R (k.map hashInt))
noncomputable def JZ(p:El):Int×Value:=(hashT p.1,VU p.2)
noncomputable def Msk(m:Nat):Prop:=m=7\/m=31\/m=127\/m=511
theorem Msk.cov{m:Nat}(h:Msk m):m9 m=true:=by rcases h with rfl|rfl|rfl|rfl<;>decide +kernel
theorem Msk.odd{m:Nat}(h:Msk m):m%2=1:=by rcases h with rfl|rfl|rfl|rfl<;>rfl
noncomputable def w9(w:Wj):Bool:=w.params.followText "set-order"
noncomputable def Cn(a:Bool)(L:List El)(o:Obj):Prop:=∃es ep t R,o.ExactSet/\o.data=.set es ep t/\es.toList=R.map (·.2)/\Ok t R/\es.toList.Perm (L.map JZ)/\(L.map (·.1)).Nodup/\Msk t.mask/\L.length*5<t.mask*3/\t.plain=b8/\t.led=a
noncomputable def SObj(L:List El)(o:Obj):Prop:=∃a,Cn a L o
noncomputable def Bs(prog:V6)(w:Wj)(h:WI)(a:Addr)(L:List El):Prop:=∃o,h.get? a=b4 o/\Cn (!w9 w) L o/\∀p∈L,IsTupleKey (Za prog w) h p.1 p.2
end
end Tb
end L3
namespace L3
open PySem
namespace Tb
noncomputable def J0(w:Wj)(t:a0C):Nat->Nat
 |0=>0|i+1=>if w9 w then 0 else t.place.getD i 0+1
section
variable{prog:V6}{w:Wj}{A:Wh}{E:Value->VL->Prop}{s:VL}
noncomputable def SIt(w:Wj)(h:WI)(I a:Addr)(t:a0C)(i n ep:Nat):Prop:=∃o,h.get? I=b4 o/\o.cls=.type "set_iterator"/\o.data=.fields #[X2 (J0 w t i),X2 i,.ref a,X2 n,X2 ep]
theorem SIt.ty{I a:Addr}{t:a0C}{i n ep:Nat}(x:SIt w s.heap I a t i n ep):s.TypeIs (.ref I) "set_iterator":=let⟨o,b,hc,_⟩:=x;⟨o,b,hc⟩
structure SAt(w:Wj)(h:WI)(a:Addr)(es:Array (Int×Value))(ep:Nat)(t:a0C)(R:List nB):Prop where
 at_:∃o,h.get? a=b4 o/\o.cls=.type "set"/\o.data=.set es ep t
 he:es.toList=R.map (·.2)
 ok:Ok t R
 pl:t.plain=b8
 led:t.led=!w9 w
theorem SAt.ty{a:Addr}{es:Array (Int×Value)}{ep:Nat}{t:a0C}{R:List nB}(x:SAt w s.heap a es ep t R):s.TypeIs (.ref a) "set":=let⟨o,b,hc,_⟩:=x.at_;⟨o,b,hc⟩
end
end Tb
end L3
namespace L3
open PySem L2
inductive D where
 |non|bl (b:Bool)|int (i:Int)|str (x:Str)|tup (xs:List D)|rol (xs:List D)|loc (a:Nat)|ty (n:String)
 deriving Inhabited
inductive C where
 |lst (xs:List D)
 |dK (kvs:List (aQ×D))
 |st (ks:List (List Int))
 |dT (kvs:List (List Int×D))
 |dF (kvs:List (List Int×D))
 |exc (x:Str)(ns:List Str)(ds:List D)
 deriving Inhabited
noncomputable abbrev Hm:=List C
noncomputable abbrev aE:=List (Option D)
noncomputable abbrev ME:=aE->Hm->Option (D×Hm)
noncomputable abbrev MT:=aE->Hm->Option (Bool×Hm)
noncomputable abbrev MA:=aE->Hm->Option (List D×Hm)
inductive Fl where
 |nx|rt (d:D)|bk|ct
noncomputable abbrev MS:=aE->Hm->Option (Fl×aE×Hm)
noncomputable abbrev MF:=List D->Hm->Option (D×Hm)
noncomputable def RoL(K:VG)(H:Hp)(p:Addr)(xs:List V):Prop:=
 (∃o,H p=b4 (.frz o (.lst xs))) \/
  ∃(o:Obj)(a:Array Value)(n:Nat),K.lookup p=b4 o/\o.cls=.type "list"/\o.dict=b6/\o.data=.seq a n/\a.size<=VW/\Vals xs a.toList
theorem RoL.sq{K:VG}{H:Hp}{p:Addr}{xs:List V}(h:RoL K H p xs):SqL K H p xs:=by
 rcases h with⟨o,h⟩|h
 ·exact .inl (.inr ⟨o,h⟩)
 ·exact .inr h
mutual
inductive IsD (K:VG)(π:Nat->Addr)(n:Nat)(H:Hp):V->D->Prop where
 |non:IsD K π n H .non .non
 |bl (b:Bool):IsD K π n H (.bl b) (.bl b)
 |int (i:Int):IsD K π n H (.int i) (.int i)
 |str (x:Str):IsD K π n H (.str x) (.str x)
 |tup {p:Addr}{vs:List V}{ds:List D}(h:SqT K H p vs)(t:IsDs K π n H vs ds):IsD K π n H (.ref p) (.tup ds)
 |rol {p:Addr}{vs:List V}{ds:List D}(h:RoL K H p vs)(t:IsDs K π n H vs ds):IsD K π n H (.ref p) (.rol ds)
 |loc {a:Nat}(h:a<n):IsD K π n H (.ref (π a)) (.loc a)
 |ty (x:String):IsD K π n H (.ty x) (.ty x)
inductive IsDs (K:VG)(π:Nat->Addr)(n:Nat)(H:Hp):List V->List D->Prop where
 |nil:IsDs K π n H [] []
 |cons {v:V}{d:D}{vs:List V}{ds:List D}(h:IsD K π n H v d)(t:IsDs K π n H vs ds):IsDs K π n H (v::vs) (d::ds)
end
structure Ext(π:Nat->Addr)(n:Nat)(H:Hp)(π':Nat->Addr)(n':Nat)(H':Hp):Prop where
 le:n<=n'
 pi:∀a,a<n->π' a=π a
 tup:∀p vs,H p=b4 (.tup vs)->H' p=b4 (.tup vs)
 frz:∀p o u,H p=b4 (.frz o u)->H' p=b4 (.frz o u)
structure Ext0(π:Nat->Addr)(n:Nat)(H:Hp)(π':Nat->Addr)(n':Nat)(H':Hp):Prop where
 le:n<=n'
 pi:∀a,a<n->π' a=π a
 tup:∀p vs,H p=b4 (.tup vs)->H' p=b4 (.tup vs)
 frz:∀p o u,(∀φ,u≠HO.ext φ)->H p=b4 (.frz o u)->H' p=b4 (.frz o u)
section
variable{K:VG}{π π' π2:Nat->Addr}{n n' n2:Nat}{H H' H2:Hp}
theorem Ext.weak(e:Ext π n H π' n' H'):Ext0 π n H π' n' H':=⟨e.le,e.pi,e.tup,λp o u _ h=>e.frz p o u h⟩
theorem Ext.refl:Ext π n H π n H:=⟨VS _,λ_ _=>rfl,λ_ _ h=>h,λ_ _ _ h=>h⟩
theorem Ext.trans(a:Ext π n H π' n' H')(b:Ext π' n' H' π2 n2 H2):Ext π n H π2 n2 H2:=
 ⟨WM a.le b.le,λi h=>(b.pi i (Wb h a.le)).trans (a.pi i h),λp c h=>b.tup p c (a.tup p c h),λp o u h=>b.frz p o u (a.frz p o u h)⟩
theorem Ext0.sqT(e:Ext0 π n H π' n' H'){p:Addr}{vs:List V}(h:SqT K H p vs):SqT K H' p vs:=by
 rcases h with h|h
 ·rcases h with h|⟨o,h⟩
  ·exact .inl (.inl (e.tup _ _ h))
  ·exact .inl (.inr ⟨o,e.frz _ _ _ (λ_ z=>nomatch z) h⟩)
 ·exact .inr h
theorem Ext.sqT(e:Ext π n H π' n' H'){p:Addr}{vs:List V}(h:SqT K H p vs):SqT K H' p vs:=e.weak.sqT h
theorem Ext0.roL(e:Ext0 π n H π' n' H'){p:Addr}{vs:List V}(h:RoL K H p vs):RoL K H' p vs:=by
 rcases h with⟨o,h⟩|h
 ·exact .inl ⟨o,e.frz _ _ _ (λ_ z=>nomatch z) h⟩
 ·exact .inr h
theorem Ext.roL(e:Ext π n H π' n' H'){p:Addr}{vs:List V}(h:RoL K H p vs):RoL K H' p vs:=e.weak.roL h
mutual
theorem IsD.mono0{v:V}{d:D}(e:Ext0 π n H π' n' H'):IsD K π n H v d->IsD K π' n' H' v d
 |.non=>.non|.bl b=>.bl b|.int i=>.int i|.str x=>.str x|.ty x=>.ty x|.tup h t=>.tup (e.sqT h) (IsDs.mono0 e t)|.rol h t=>.rol (e.roL h) (IsDs.mono0 e t)|.loc h=>by rw[<- e.pi _ h];exact .loc (Wb h e.le)
theorem IsDs.mono0{vs:List V}{ds:List D}(e:Ext0 π n H π' n' H'):IsDs K π n H vs ds->IsDs K π' n' H' vs ds
 |.nil=>.nil|.cons h t=>.cons (IsD.mono0 e h) (IsDs.mono0 e t)
end
theorem IsD.mono{v:V}{d:D}(e:Ext π n H π' n' H')(h:IsD K π n H v d):IsD K π' n' H' v d:=h.mono0 e.weak
theorem IsDs.mono{vs:List V}{ds:List D}(e:Ext π n H π' n' H')(h:IsDs K π n H vs ds):IsDs K π' n' H' vs ds:=h.mono0 e.weak
theorem IsDs.length{vs:List V}{ds:List D}(h:IsDs K π n H vs ds):vs.length=ds.length:=by
 induction ds generalizing vs with
 |nil=>cases h;rfl|cons d ds a=>
  cases h with
  |cons h t=>rw[Wc,Wc,a t]
theorem IsDs.get{vs:List V}{ds:List D}(h:IsDs K π n H vs ds){i:Nat}{d:D}(e:ds[i]?=b4 d):∃v,vs[i]?=b4 v/\IsD K π n H v d:=by
 induction ds generalizing vs i with
 |nil=>simp at e|cons j ds c=>
  cases h with
  |cons h t=>
   cases i with
   |zero=>simp at e;subst e;exact⟨_,rfl,h⟩|succ i=>obtain⟨v,a,b⟩:=c t (by simpa using e);exact⟨v,by simpa using a,b⟩
theorem IsDs.append{vs ws:List V}{ds es:List D}(h:IsDs K π n H vs ds)(a:IsDs K π n H ws es):IsDs K π n H (vs++ws) (ds++es):=by
 induction ds generalizing vs with
 |nil=>cases h;exact a|cons d ds b=>
  cases h with
  |cons h t=>exact .cons h (b t)
theorem IsDs.drop{vs:List V}{ds:List D}(h:IsDs K π n H vs ds)(k:Nat):IsDs K π n H (vs.drop k) (ds.drop k):=by
 induction ds generalizing vs k with
 |nil=>cases h;simpa using IsDs.nil|cons d ds a=>
  cases h with
  |cons h t=>
   cases k with
   |zero=>exact .cons h t|succ k=>exact a t k
theorem IsDs.take{vs:List V}{ds:List D}(h:IsDs K π n H vs ds)(k:Nat):IsDs K π n H (vs.take k) (ds.take k):=by
 induction ds generalizing vs k with
 |nil=>cases h;simpa using IsDs.nil|cons d ds a=>
  cases h with
  |cons h t=>
   cases k with
   |zero=>exact .nil|succ k=>exact .cons h (a t k)
theorem IsDs.atI{vs:List V}{ds:List D}(h:IsDs K π n H vs ds){i:Int}{d:D}(e:L2.atI ds i=b4 d):∃v,L2.atI vs i=b4 v/\IsD K π n H v d:=by
 unfold L2.atI at e ⊢;rw[h.length];cases q:jA ds.length i with
 |none=>rw[q]at e;cases e|some j=>rw[q]at e;exact h.get e
end
noncomputable def sF(p:Addr)(L:List Tb.El):HO:=.ext λh=>∃o,h.get? p=b4 o/\Tb.SObj L o
noncomputable def sG(p:List Int×Addr×V)(w:Value):DictEntry:=⟨Tb.hashT p.1,.ref p.2.1,w⟩
noncomputable def aR(a:Addr)(ps:List (List Int×Addr×V)):HO:=.ext λh=>∃ws:List Value,Vals (ps.map (·.2.2)) ws/\(a==XZ)=b7/\ps.length<=VW /\
 ∃o b c,h.get? a=b4 o/\o.ExactDict/\o.data=.dict b c/\b.toList=a0r sG ps ws/\(ps.map (·.1)).Nodup
noncomputable def ExcIs(K:VG)(π:Nat->Addr)(n:Nat)(H:Hp)(b:Obj)(x:Str)(ns:List Str)(ds:List D):Prop:=
 W0 K WD x=b4 (b4 b.cls)/\(∃a,b.data=.fields a) /\
  (ns=[]/\ds=[]/\b.dict=b6\/∃c d a,b.dict=b4 c/\H c=b4 (.frz d (.xd a))/\a.map (·.1)=ns/\IsDs K π n H (a.map (·.2)) ds)
theorem ExcIs.mono0{K:VG}{π a:Nat->Addr}{n c:Nat}{H H':Hp}{d:Obj}{x:Str}{ns:List Str}{ds:List D}(e:Ext0 π n H a c H')(h:ExcIs K π n H d x ns ds):ExcIs K a c H' d x ns ds:=by
 obtain⟨p,q,b⟩:=h;refine⟨p,q,?_⟩;rcases b with b|⟨i,r,s,j,l,m,o⟩
 ·exact .inl b
 ·exact .inr ⟨i,r,s,j,e.frz _ _ _ (λ_ z=>nomatch z) l,m,o.mono0 e⟩
theorem ExcIs.mono{K:VG}{π a:Nat->Addr}{n b:Nat}{H H':Hp}{c:Obj}{x:Str}{ns:List Str}{ds:List D}(e:Ext π n H a b H')(h:ExcIs K π n H c x ns ds):ExcIs K a b H' c x ns ds:=h.mono0 e.weak
structure Rp(K:VG)(π:Nat->Addr)(H:Hp)(μ:Hm):Prop where
 inj:∀a b,a<μ.length->b<μ.length->π a=π b->a=b
 has:∀a,a<μ.length->(H (π a)).isSome=b8
 lst:∀a xs,μ[a]?=b4 (.lst xs)->∃vs,H (π a)=b4 (.lst vs)/\IsDs K π μ.length H vs xs
 dK:∀a kvs,μ[a]?=b4 (.dK kvs)->∃vs,H (π a)=b4 (.dK vs)/\vs.map (·.1)=kvs.map (·.1)/\IsDs K π μ.length H (vs.map (·.2)) (kvs.map (·.2))
 st:∀a ks,μ[a]?=b4 (.st ks)->∃L:List Tb.El,H (π a)=b4 (sF (π a) L)/\L.map (·.1)=ks/\IsDs K π μ.length H (L.map λp=>V.ref p.2) (ks.map λk=>D.tup (k.map D.int))
 dT:∀a kvs,μ[a]?=b4 (.dT kvs)->∃ps:List (List Int×Addr×V),H (π a)=b4 (aR (π a) ps)/\ps.map (·.1)=kvs.map (·.1)/\IsDs K π μ.length H (ps.map λp=>V.ref p.2.1) (kvs.map λk=>D.tup (k.1.map D.int))/\IsDs K π μ.length H (ps.map (·.2.2)) (kvs.map (·.2))
 dF:∀a kvs,μ[a]?=b4 (.dF kvs)->∃(ob:Obj)(ps:List (List Int×Addr×V)),H (π a)=b4 (.frz ob (aR (π a) ps))/\ps.map (·.1)=kvs.map (·.1)/\IsDs K π μ.length H (ps.map λp=>V.ref p.2.1) (kvs.map λk=>D.tup (k.1.map D.int))/\IsDs K π μ.length H (ps.map (·.2.2)) (kvs.map (·.2))
 exc:∀a x ns ds,μ[a]?=b4 (.exc x ns ds)->∃(ob:Obj)(φ:WI->Prop),H (π a)=b4 (.frz ob (.ext φ))/\ExcIs K π μ.length H ob x ns ds
structure En(K:VG)(π:Nat->Addr)(n:Nat)(H:Hp)(σ:St)(ρ:aE):Prop where
 len:σ.length=ρ.length
 get:∀(i:Nat)(d:D),ρ[i]?=b4 (b4 d)->∃v,σ[i]?=b4 (b4 v)/\IsD K π n H v d
section
variable{K:VG}{π π' π2:Nat->Addr}{n n' n2:Nat}{H H' H2:Hp}{μ μ':Hm}{σ:St}{ρ:aE}
theorem En.mono(E:En K π n H σ ρ)(e:Ext π n H π' n' H'):En K π' n' H' σ ρ:=
 ⟨E.len,λi d h=>let⟨v,a,b⟩:=E.get i d h;⟨v,a,b.mono e⟩⟩
theorem En.set(E:En K π n H σ ρ){v:V}{d:D}(h:IsD K π n H v d)(i:Nat):En K π n H (σ.set i (b4 v)) (ρ.set i (b4 d)):=by
 refine⟨by rw[XD,XD];exact E.len,λj c e=>?_⟩;rw[a4l]at e ⊢;by_cases a:i=j
 ·subst a;rw[if_pos rfl]at e ⊢;rw[E.len];by_cases b:i<ρ.length
  ·rw[if_pos b]at e ⊢;cases e;exact⟨v,rfl,h⟩
  ·rw[if_neg b]at e;cases e
 ·rw[if_neg a]at e ⊢;exact E.get j c e
theorem Rp.ne{p:Addr}(R:Rp K π H μ)(h:H p=b6){a:Nat}(b:a<μ.length):π a≠p:=λe=>by have:=R.has a b;rw[e,h]at this;cases this
theorem Rp.fresh{p:Addr}{o:HO}(R:Rp K π H μ)(h:H p=b6):Ext π μ.length H π μ.length (aI H p o)/\Rp K π (aI H p o) μ:=by
 have c:∀b u,H b=b4 u->aI H p o b=b4 u:=λb u e=>by rw[aT (hU e h)];exact e
 have e:Ext π μ.length H π μ.length (aI H p o):=⟨VS _,λ_ _=>rfl,λq m e=>c q _ e,λq o u e=>c q _ e⟩;refine⟨e,R.inj,λa d=>?_,λa z d=>?_,λa l d=>?_,λa w d=>?_
  ,λa l d=>?_
  ,λa l d=>?_
  ,λa x y ds d=>?_
  ⟩
 ·rw[aT (R.ne h d)];exact R.has a d
 ·obtain⟨m,i,j⟩:=R.lst a z d;exact⟨m,c _ _ i,j.mono e⟩
 ·obtain⟨m,i,j,r⟩:=R.dK a l d;exact⟨m,c _ _ i,j,r.mono e⟩
 ·obtain⟨m,i,j,r⟩:=R.st a w d;exact⟨m,c _ _ i,j,r.mono e⟩
 ·obtain⟨m,i,j,r,s⟩:=R.dT a l d;exact⟨m,c _ _ i,j,r.mono e,s.mono e⟩
 ·obtain⟨v,m,i,j,r,s⟩:=R.dF a l d;exact⟨v,m,c _ _ i,j,r.mono e,s.mono e⟩
 ·obtain⟨v,A,i,j⟩:=R.exc a x y ds d;exact⟨v,A,c _ _ i,j.mono e⟩
noncomputable def nC(K:VG)(π:Nat->Addr)(n:Nat)(H:Hp)(p:Addr):C->HO->Prop
 |.lst xs,.lst vs=>IsDs K π n H vs xs|.dK kvs,.dK vs=>vs.map (·.1)=kvs.map (·.1)/\IsDs K π n H (vs.map (·.2)) (kvs.map (·.2))|.st ks,o=>∃L:List Tb.El,o=sF p L/\L.map (·.1)=ks/\IsDs K π n H (L.map λp=>V.ref p.2) (ks.map λk=>D.tup (k.map D.int))|.dT kvs,o=>∃ps:List (List Int×Addr×V),o=aR p ps/\ps.map (·.1)=kvs.map (·.1)/\IsDs K π n H (ps.map λp=>V.ref p.2.1) (kvs.map λk=>D.tup (k.1.map D.int))/\IsDs K π n H (ps.map (·.2.2)) (kvs.map (·.2))|.dF kvs,o=>∃(a:Obj)(ps:List (List Int×Addr×V)),o=.frz a (aR p ps)/\ps.map (·.1)=kvs.map (·.1)/\IsDs K π n H (ps.map λp=>V.ref p.2.1) (kvs.map λk=>D.tup (k.1.map D.int))/\IsDs K π n H (ps.map (·.2.2)) (kvs.map (·.2))|.exc x ns ds,o=>∃(a:Obj)(b:WI->Prop),o=.frz a (.ext b)/\ExcIs K π n H a x ns ds|_,_=>False
noncomputable def hV(π:Nat->Addr)(n:Nat)(p:Addr):Nat->Addr:=λa=>if a=n then p else π a
theorem Rp.alloc{p:Addr}{c:C}{o:HO}(R:Rp K π H μ)(h:H p=b6)(hc:nC K π μ.length H p c o) :
  Ext π μ.length H (hV π μ.length p) (μ++[c]).length (aI H p o)/\Rp K (hV π μ.length p) (aI H p o) (μ++[c])/\hV π μ.length p μ.length=p:=by
 have J:(μ++[c]).length=μ.length+1:=by simp
 have i:∀b u,H b=b4 u->aI H p o b=b4 u:=λb u e=>by rw[aT (hU e h)];exact e
 have A:hV π μ.length p μ.length=p:=if_pos rfl;have w:∀a,a<μ.length->hV π μ.length p a=π a:=λa d=>if_neg (V4 d);have e:Ext π μ.length H (hV π μ.length p) (μ++[c]).length (aI H p o):=⟨by rw[J];exact ZR _,w,λq s e=>i q _ e,λq o u e=>i q _ e⟩;have split:∀a,a<(μ++[c]).length->a<μ.length\/a=μ.length:=λa d=>by rw[J]at d;omega
 have get:∀a,a<μ.length->(μ++[c])[a]?=μ[a]?:=λa d=>Ww d;have l:(μ++[c])[μ.length]?=b4 c:=by simp
 refine⟨e,⟨λa b d G q=>?_,λa d=>?_,λa O d=>?_,λa z d=>?_,λa M d=>?_
  ,λa z d=>?_
  ,λa z d=>?_
  ,λa x N ds d=>?_
  ⟩,A⟩
 ·rcases split a d with d|rfl<;>rcases split b G with G|rfl
  ·rw[w a d,w b G]at q;exact R.inj a b d G q
  ·rw[w a d,A]at q;exact absurd q (R.ne h d)
  ·rw[A,w b G]at q;exact absurd q.symm (R.ne h G)
  ·rfl
 ·rcases split a d with d|rfl
  ·rw[w a d,aT (R.ne h d)];exact R.has a d
  ·rw[A,bR];rfl
 ·have j:a<(μ++[c]).length:=(VN.mp d).1;rcases split a j with r|rfl
  ·rw[get a r]at d;obtain⟨s,y,m⟩:=R.lst a O d;rw[w a r];exact⟨s,i _ _ y,m.mono e⟩
  ·rw[l]at d;cases d;cases o with
   |lst s=>rw[A];exact⟨s,bR,IsDs.mono e hc⟩|_=>exact WR hc
 ·have j:a<(μ++[c]).length:=(VN.mp d).1;rcases split a j with r|rfl
  ·rw[get a r]at d;obtain⟨s,y,m,v⟩:=R.dK a z d;rw[w a r];exact⟨s,i _ _ y,m,v.mono e⟩
  ·rw[l]at d;cases d;cases o with
   |dK s=>rw[A];exact⟨s,bR,hc.1,IsDs.mono e hc.2⟩|_=>exact WR hc
 ·have j:a<(μ++[c]).length:=(VN.mp d).1;rcases split a j with r|rfl
  ·rw[get a r]at d;obtain⟨s,y,m,v⟩:=R.st a M d;rw[w a r];exact⟨s,i _ _ y,m,v.mono e⟩
  ·rw[l]at d;cases d;obtain⟨L,rfl,m,v⟩:=hc;rw[A];exact⟨L,bR,m,v.mono e⟩
 ·have j:a<(μ++[c]).length:=(VN.mp d).1;rcases split a j with r|rfl
  ·rw[get a r]at d;obtain⟨s,y,m,v,B⟩:=R.dT a z d;rw[w a r];exact⟨s,i _ _ y,m,v.mono e,B.mono e⟩
  ·rw[l]at d;cases d;obtain⟨L,rfl,m,v,B⟩:=hc;rw[A];exact⟨L,bR,m,v.mono e,B.mono e⟩
 ·have j:a<(μ++[c]).length:=(VN.mp d).1;rcases split a j with r|rfl
  ·rw[get a r]at d;obtain⟨E,s,y,m,v,B⟩:=R.dF a z d;rw[w a r];exact⟨E,s,i _ _ y,m,v.mono e,B.mono e⟩
  ·rw[l]at d;cases d;obtain⟨E,L,rfl,m,v,B⟩:=hc;rw[A];exact⟨E,L,bR,m,v.mono e,B.mono e⟩
 ·have j:a<(μ++[c]).length:=(VN.mp d).1;rcases split a j with r|rfl
  ·rw[get a r]at d;obtain⟨E,I,y,m⟩:=R.exc a x N ds d;rw[w a r];exact⟨E,I,i _ _ y,m.mono e⟩
  ·rw[l]at d;cases d;obtain⟨E,I,rfl,m⟩:=hc;rw[A];exact⟨E,I,bR,m.mono e⟩
theorem Rp.putU{a:Nat}{c:C}{o u:HO}(R:Rp K π H μ)(M:a<μ.length)(G:H (π a)=b4 u)(I:(∀vs,u≠.tup vs)/\∀w v,(∀A,v≠HO.ext A)->u≠.frz w v)(hc:nC K π μ.length H (π a) c o) :
  Ext0 π μ.length H π (μ.set a c).length (aI H (π a) o)/\Rp K π (aI H (π a) o) (μ.set a c):=by
 have r:(μ.set a c).length=μ.length:=XD ..;have e:Ext0 π μ.length H π (μ.set a c).length (aI H (π a) o):=by
  refine⟨a0x r.symm,λ_ _=>rfl,λq vs z=>?_,λq T U nx z=>?_⟩
  ·rw[aT]
   ·exact z
   ·intro e;subst e;rw[G]at z;exact I.1 _ (VY z)
  ·rw[aT]
   ·exact z
   ·intro e;subst e;rw[G]at z;exact I.2 _ _ nx (VY z)
 have j:∀b,b<μ.length->b≠a->aI H (π a) o (π b)=H (π b):=λb d E=>aT λq=>E (R.inj b a d M q);refine⟨e,⟨λb J d B=>R.inj b J (r▸d) (r▸B),λb d=>?_,λb Q d=>?_,λb s d=>?_,λb N d=>?_
  ,λb s d=>?_
  ,λb s d=>?_
  ,λb x O ds d=>?_
  ⟩⟩
 ·by_cases h:b=a
  ·subst h;rw[bR];rfl
  ·rw[j b (r▸d) h];exact R.has b (r▸d)
 ·have i:b<μ.length:=r▸(VN.mp d).1;by_cases h:b=a
  ·subst h;rw[WA i]at d;cases d;cases o with
   |lst vs=>exact⟨vs,bR,IsDs.mono0 e hc⟩|_=>exact WR hc
  ·rw[Wl (WG h)]at d;obtain⟨vs,p,l⟩:=R.lst b Q d;exact⟨vs,by rw[j b i h];exact p,l.mono0 e⟩
 ·have i:b<μ.length:=r▸(VN.mp d).1;by_cases h:b=a
  ·subst h;rw[WA i]at d;cases d;cases o with
   |dK vs=>exact⟨vs,bR,hc.1,IsDs.mono0 e hc.2⟩|_=>exact WR hc
  ·rw[Wl (WG h)]at d;obtain⟨vs,p,l,m⟩:=R.dK b s d;exact⟨vs,by rw[j b i h];exact p,l,m.mono0 e⟩
 ·have i:b<μ.length:=r▸(VN.mp d).1;by_cases h:b=a
  ·subst h;rw[WA i]at d;cases d;obtain⟨L,rfl,l,m⟩:=hc;exact⟨L,bR,l,m.mono0 e⟩
  ·rw[Wl (WG h)]at d;obtain⟨vs,p,l,m⟩:=R.st b N d;exact⟨vs,by rw[j b i h];exact p,l,m.mono0 e⟩
 ·have i:b<μ.length:=r▸(VN.mp d).1;by_cases h:b=a
  ·subst h;rw[WA i]at d;cases d;obtain⟨L,rfl,l,m,y⟩:=hc;exact⟨L,bR,l,m.mono0 e,y.mono0 e⟩
  ·rw[Wl (WG h)]at d;obtain⟨vs,p,l,m,y⟩:=R.dT b s d;exact⟨vs,by rw[j b i h];exact p,l,m.mono0 e,y.mono0 e⟩
 ·have i:b<μ.length:=r▸(VN.mp d).1;by_cases h:b=a
  ·subst h;rw[WA i]at d;cases d;obtain⟨w,L,rfl,l,m,y⟩:=hc;exact⟨w,L,bR,l,m.mono0 e,y.mono0 e⟩
  ·rw[Wl (WG h)]at d;obtain⟨w,vs,p,l,m,y⟩:=R.dF b s d;exact⟨w,vs,by rw[j b i h];exact p,l,m.mono0 e,y.mono0 e⟩
 ·have i:b<μ.length:=r▸(VN.mp d).1;by_cases h:b=a
  ·subst h;rw[WA i]at d;cases d;obtain⟨w,A,rfl,l⟩:=hc;exact⟨w,A,bR,l.mono0 e⟩
  ·rw[Wl (WG h)]at d;obtain⟨w,A,p,l⟩:=R.exc b x O ds d;exact⟨w,A,by rw[j b i h];exact p,l.mono0 e⟩
theorem Rp.put0{a:Nat}{c:C}{o u:HO}(R:Rp K π H μ)(h:a<μ.length)(i:H (π a)=b4 u)(e:(∃vs,u=.lst vs)\/(∃vs,u=.dK vs)\/(∃d,u=.ext d)\/∃b d,u=.frz b (.ext d))(hc:nC K π μ.length H (π a) c o) :
  Ext0 π μ.length H π (μ.set a c).length (aI H (π a) o)/\Rp K π (aI H (π a) o) (μ.set a c):=
 R.putU h i ⟨λvs z=>(by rcases e with⟨w,rfl⟩|⟨w,rfl⟩|⟨w,rfl⟩|⟨b,w,rfl⟩<;>cases z),λb v nx z=>by
  rcases e with⟨w,rfl⟩|⟨w,rfl⟩|⟨w,rfl⟩|⟨b,w,rfl⟩<;>cases z;exact nx _ rfl⟩ hc
theorem Rp.putE{a:Nat}{c:C}{o u:HO}(R:Rp K π H μ)(i:a<μ.length)(d:H (π a)=b4 u)(b:(∀vs,u≠.tup vs)/\∀h v,u≠.frz h v)(hc:nC K π μ.length H (π a) c o) :
  Ext π μ.length H π (μ.set a c).length (aI H (π a) o)/\Rp K π (aI H (π a) o) (μ.set a c):=by
 have e:Ext π μ.length H π (μ.set a c).length (aI H (π a) o):=by
  refine⟨a0x (XD ..).symm,λ_ _=>rfl,λq vs z=>?_,λq j l z=>?_⟩
  ·rw[aT]
   ·exact z
   ·intro e;subst e;rw[d]at z;exact b.1 _ (VY z)
  ·rw[aT]
   ·exact z
   ·intro e;subst e;rw[d]at z;exact b.2 _ _ (VY z)
 exact⟨e,(R.putU i d ⟨b.1,λh v _=>b.2 h v⟩ hc).2⟩
theorem Rp.put{a:Nat}{c:C}{o u:HO}(R:Rp K π H μ)(d:a<μ.length)(e:H (π a)=b4 u)(b:(∃vs,u=.lst vs)\/(∃vs,u=.dK vs)\/∃h,u=.ext h)(hc:nC K π μ.length H (π a) c o) :
  Ext π μ.length H π (μ.set a c).length (aI H (π a) o)/\Rp K π (aI H (π a) o) (μ.set a c):=
 R.putE d e ⟨λvs z=>(by rcases b with⟨w,rfl⟩|⟨w,rfl⟩|⟨w,rfl⟩<;>cases z),λi v z=>by rcases b with⟨w,rfl⟩|⟨w,rfl⟩|⟨w,rfl⟩<;>cases z⟩ hc
end
noncomputable def KC(K:VG)(Q:VK)(π:Nat->Addr)(n:Nat)(H:Hp)(d:D)(μ':Hm):Prop:=
 ∀a v b,Ext π n H a μ'.length b->Rp K a b μ'->IsD K a μ'.length b v d->Q v b
theorem KC.after{K:VG}{Q:VK}{π a:Nat->Addr}{n h:Nat}{H c:Hp}{d:D}{μ':Hm}(k:KC K Q π n H d μ')(e:Ext π n H a h c):KC K Q a h c d μ':=
 λb v j l R i=>k b v j (e.trans l) R i
inductive tM (K:VG)(m:ME)(σ:St)(H:Hp)(Q:VK):Prop
 |mk (π:Nat->Addr)(ρ:aE)(μ:Hm)(d:D)(μ':Hm)(R:Rp K π H μ)(E:En K π μ.length H σ ρ)(hm:m ρ μ=b4 (d,μ'))(k:KC K Q π μ.length H d μ'):tM K m σ H Q
inductive tMT (K:VG)(m:MT)(σ:St)(H:Hp)(Q:Bool->Hp->Prop):Prop
 |mk (π:Nat->Addr)(ρ:aE)(μ:Hm)(b:Bool)(μ':Hm)(R:Rp K π H μ)(E:En K π μ.length H σ ρ)(hm:m ρ μ=b4 (b,μ'))(k:∀π' H',Ext π μ.length H π' μ'.length H'->Rp K π' H' μ'->Q b H'):tMT K m σ H Q
inductive tMA (K:VG)(m:MA)(σ:St)(H:Hp)(Q:List V->Hp->Prop):Prop
 |mk (π:Nat->Addr)(ρ:aE)(μ:Hm)(ds:List D)(μ':Hm)(R:Rp K π H μ)(E:En K π μ.length H σ ρ)(hm:m ρ μ=b4 (ds,μ'))(k:∀π' vs H',Ext π μ.length H π' μ'.length H'->Rp K π' H' μ'->IsDs K π' μ'.length H' vs ds->Q vs H'):tMA K m σ H Q
noncomputable def lT(K:VG)(E:Ends)(π:Nat->Addr)(n:Nat)(H:Hp)(h:Fl)(e:aE)(μ':Hm):Prop:=
 match h with
 |.nx=>∀a b c,Ext π n H a μ'.length c->Rp K a c μ'->En K a μ'.length c b e->E.nx b c|.bk=>∀a b c,Ext π n H a μ'.length c->Rp K a c μ'->En K a μ'.length c b e->E.bk b c|.ct=>∀a b c,Ext π n H a μ'.length c->Rp K a c μ'->En K a μ'.length c b e->E.ct b c|.rt d=>KC K E.rt π n H d μ'
inductive tMS (K:VG)(m:MS)(E:Ends)(σ:St)(H:Hp):Prop
 |mk (π:Nat->Addr)(ρ:aE)(μ:Hm)(fl:Fl)(ρ':aE)(μ':Hm)(R:Rp K π H μ)(EN:En K π μ.length H σ ρ)(hm:m ρ μ=b4 (fl,ρ',μ'))(k:lT K E π μ.length H fl ρ' μ'):tMS K m E σ H
inductive spI0 (K:VG)(f:MF)(vs:List V)(H:Hp)(Q:VK):Prop
 |mk (π:Nat->Addr)(ds:List D)(μ:Hm)(d:D)(μ':Hm)(R:Rp K π H μ)(i:IsDs K π μ.length H vs ds)(hm:f ds μ=b4 (d,μ'))(k:KC K Q π μ.length H d μ'):spI0 K f vs H Q
noncomputable def iI(K:VG)(k:Nat)(f:MF):Sp:=λvs H Q _=>vs.length=k/\spI0 K f vs H Q
section
variable{X:Cx}{e a b c:Expr}{t:TE}{m ma mb mc:ME}{pos:Xq}
theorem dC(h:PE X e t)(hw:∀σ H Q,tM X.K m σ H Q->t σ H Q):PE X e (tM X.K m):=λa6G s σ H Q I q=>h a6G s σ H Q I (hw σ H Q q)
theorem sH{t:TT}{m:MT}(h:PT X e t)(hw:∀σ H Q,tMT X.K m σ H Q->t σ H Q):PT X e (tMT X.K m):=λa6G s σ H Q I q=>h a6G s σ H Q I (hw σ H Q q)
theorem Co{t:TT}{m:MT}(h:PW X e t)(hw:∀σ H Q,tMT X.K m σ H Q->t σ H Q):PW X e (tMT X.K m):=λd a6G s σ H Q I q=>h d a6G s σ H Q I (hw σ H Q q)
theorem Cp{es:List Expr}{t:TA}{m:MA}(h:PA X es t)(hw:∀σ H Q,tMA X.K m σ H Q->t σ H Q):PA X es (tMA X.K m):=λp a6G s σ H Q I q=>h p a6G s σ H Q I (hw σ H Q q)
theorem iJ{st:Stmt}{t:TS}{m:MS}(h:PS X st t)(hw:∀E σ H,tMS X.K m E σ H->t E σ H):PS X st (tMS X.K m):=λa6G s σ H E I q=>h a6G s σ H E I (hw E σ H q)
theorem Cq{st:List Stmt}{t:TS}{m:MS}(h:PSs X st t)(hw:∀E σ H,tMS X.K m E σ H->t E σ H):PSs X st (tMS X.K m):=λa6G s σ H E I q=>h a6G s σ H E I (hw E σ H q)
noncomputable def aA(i:Nat):ME:=λj h=>match j[i]? with|some (b4 d)=>b4 (d,h)|_=>b6
noncomputable def mC(d:D):ME:=λ_ h=>b4 (d,h)
theorem J1{i:Nat}{l:aE}{j μ':Hm}{d:D}(h:aA i l j=b4 (d,μ')):l[i]?=b4 (b4 d)/\μ'=j:=by
 unfold aA at h;split at h
 ·rename_i n e;cases h;exact⟨e,rfl⟩
 ·cases h
theorem J2{x:Str}(i:Nat)(h:PE X (.Name x pos) (mZ i)):PE X (.Name x pos) (tM X.K (aA i)):=dC h (by
 rintro u H Q ⟨q,s,r,d,p,R,E,o,k⟩;obtain⟨j,rfl⟩:=J1 o;obtain⟨v,l,n⟩:=E.get i d j;exact⟨v,l,k q v H .refl R n⟩)
theorem nD{v:V}{d:D}(h:PE X e (tC v))(hd:∀π n H,IsD X.K π n H v d):PE X e (tM X.K (mC d)):=dC h (by
 rintro q H Q ⟨π,p,o,l,j,R,E,i,k⟩;cases i;exact k π v H .refl R (hd _ _ _))
theorem J3{i:Int}{j:Nat}:PE X (.Constant (.int i) j pos) (tM X.K (mC (.int i))):=nD Hq λ_ _ _=>.int i
theorem J4{i:Bool}{j:Nat}:PE X (.Constant (.bool i) j pos) (tM X.K (mC (.bl i))):=nD Hr λ_ _ _=>.bl i
theorem J5{i:Str}{j:Nat}:PE X (.Constant (.str i) j pos) (tM X.K (mC (.str i))):=nD Bq λ_ _ _=>.str i
theorem J6{j:Nat}:PE X (.Constant .none j pos) (tM X.K (mC .non)):=nD Hs λ_ _ _=>.non
noncomputable def aC(f:D->D->Hm->Option (D×Hm))(a b:ME):ME:=λd h=>(a d h).bind λp=>(b d p.2).bind λq=>f p.1 q.1 q.2
noncomputable def cX(K:VG)(f:D->D->Hm->Option (D×Hm))(r:R2):Prop:=
 ∀j H h x y d i l n Q,Rp K j H h->IsD K j h.length H l x->IsD K j h.length H n y->f x y h=b4 (d,i)->KC K Q j h.length H d i->r l n H Q
theorem pW{f:D->D->Hm->Option (D×Hm)}{r:R2}{K:VG}(A:cX K f r):∀σ H Q,tM K (aC f ma mb) σ H Q->pQ r (tM K ma) (tM K mb) σ H Q:=by rintro σ H Q ⟨M,s,L,d,l,R,E,h,k⟩;obtain⟨⟨x,i⟩,w,h⟩:=VF.mp h;obtain⟨⟨y,j⟩,z,h⟩:=VF.mp h;exact⟨M,s,L,x,i,R,E,w,λn I N p v B=>⟨n,s,i,y,j,v,E.mono p,z,λo J u q R2 G=>A o u j x y d l I J Q R2 (B.mono q) G h (k.after (p.trans q))⟩⟩
theorem J7{op:a2W}{r:R2}{f:D->D->Hm->Option (D×Hm)}(j:OpR X (Zp op) r)(i:cX X.K f r)(d:PE X a (tM X.K ma))(h:PE X b (tM X.K mb)):PE X (.BinOp a op b pos) (tM X.K (aC f ma mb)):=
 dC (IA j d h) (pW i)
theorem e8{op:ZT}{r:R2}{f:D->D->Hm->Option (D×Hm)}(l:OpR X (W6 op) r)(i:cX X.K f r)(d:PE X a (tM X.K ma))(h:PE X b (tM X.K mb))(j:YT op b=b7):PE X (.Compare a [op] [b] pos) (tM X.K (aC f ma mb)):=
 dC (IF l d h j) (pW i)
noncomputable def aS(m:ME):MT:=λh d=>(m h d).bind λp=>match p.1 with|.bl b=>b4 (b,p.2)|_=>b6
theorem Cr{K:VG}:∀σ H Q,tMT K (aS m) σ H Q->tM K m σ H λx H'=>∃k,x=.bl k/\Q k H':=by
 rintro σ H Q ⟨r,s,o,b,p,R,E,d,k⟩;obtain⟨⟨x,q⟩,l,d⟩:=VF.mp d;cases x with
 |bl c=>cases d;refine⟨r,s,o,_,_,R,E,l,λh v H' j i n=>?_⟩;cases n;exact⟨_,rfl,k h H' j i⟩|_=>cases d
theorem fA{op:ZT}{r:R2}{f:D->D->Hm->Option (D×Hm)}(o:OpR X (W6 op) r)(l:cX X.K f r)(i:PE X a (tM X.K ma))(j:PE X b (tM X.K mb))(n:YT op b=b7):PT X (.Compare a [op] [b] pos) (tMT X.K (aS (aC f ma mb))):=
 sH (IG o i j n) λd H Q h=>pW l d H _ (Cr d H Q h)
end
end L3
namespace L3
open PySem L2
section
variable{X:Cx}{e a b c:Expr}{m ma mb mc:ME}{pos:Xq}{mt mu:MT}{rest:List Expr}
noncomputable def fT(a b:MT):MT:=λd h=>(a d h).bind λp=>match p.1 with|true=>b d p.2|false=>b4 (b7,p.2)
noncomputable def jB(a b:MT):MT:=λd h=>(a d h).bind λp=>match p.1 with|true=>b4 (b8,p.2)|false=>b d p.2
noncomputable def gM(a:MT):MT:=λh d=>(a h d).map λp=>(!p.1,p.2)
theorem J8(d:PT X a (tMT X.K mt)):PW X (.BoolOp .And [a] pos) (tMT X.K mt):=Hy d
theorem J9(d:PT X a (tMT X.K mt)):PW X (.BoolOp .Or [a] pos) (tMT X.K mt):=Hz d
theorem Ka(w:PT X a (tMT X.K mt))(y:PW X (.BoolOp .And (b::rest) pos) (tMT X.K mu)):PW X (.BoolOp .And (a::b::rest) pos) (tMT X.K (fT mt mu)):=Co (HA w y) (by
 rintro B H Q ⟨A,q,z,d,n,R,E,j,k⟩;obtain⟨⟨x,h⟩,v,j⟩:=VF.mp j;refine⟨A,q,z,x,h,R,E,v,λi r l p=>?_⟩;cases x with
 |true=>refine kK ?_;exact⟨i,q,h,d,n,p,E.mono l,j,λo s u R2=>k o s (l.trans u) R2⟩|false=>
  refine kJ ?_;cases j;exact k i r l p)
theorem Kb(w:PT X a (tMT X.K mt))(y:PW X (.BoolOp .Or (b::rest) pos) (tMT X.K mu)):PW X (.BoolOp .Or (a::b::rest) pos) (tMT X.K (jB mt mu)):=Co (HB w y) (by
 rintro B H Q ⟨A,q,z,d,n,R,E,j,k⟩;obtain⟨⟨x,h⟩,v,j⟩:=VF.mp j;refine⟨A,q,z,x,h,R,E,v,λi r l p=>?_⟩;cases x with
 |true=>refine kK ?_;cases j;exact k i r l p|false=>
  refine kJ ?_;exact⟨i,q,h,d,n,p,E.mono l,j,λo s u R2=>k o s (l.trans u) R2⟩)
theorem Kc(q:PT X a (tMT X.K mt)):PT X (.UnaryOp .Not a pos) (tMT X.K (gM mt)):=sH (HC q) (by
 rintro w H Q ⟨u,v,r,d,s,R,E,h,k⟩;obtain⟨⟨x,i⟩,p,h⟩:=VJ.mp h;cases h;exact⟨u,v,r,x,i,R,E,p,λj l o n=>k j l o n⟩)
noncomputable def dS(a b:ME):ME:=λd h=>(a d h).bind λp=>match p.1 with|.bl b8=>b d p.2|.bl b7=>b4 (.bl b7,p.2)|_=>b6
noncomputable def xA(a b:ME):ME:=λd h=>(a d h).bind λp=>match p.1 with|.bl b8=>b4 (.bl b8,p.2)|.bl b7=>b d p.2|_=>b6
noncomputable def nE(a:ME):ME:=λh d=>(a h d).bind λp=>match p.1 with|.bl b=>b4 (.bl (!b),p.2)|_=>b6
theorem Kd{op:BoolOp}(h:PE X a (tM X.K m)):PE X (.BoolOp op [a] pos) (tM X.K m):=HG h
theorem Ke(s:PE X a (tM X.K ma))(u:PE X (.BoolOp .And (b::rest) pos) (tM X.K mb)):PE X (.BoolOp .And (a::b::rest) pos) (tM X.K (dS ma mb)):=dC (HH s u) (by
 rintro A H Q ⟨y,p,w,d,n,R,E,h,k⟩;obtain⟨⟨x,i⟩,r,h⟩:=VF.mp h;cases x with
 |bl c=>
  refine⟨y,p,w,.bl c,i,R,E,r,λj z q l o v=>?_⟩;cases v;refine⟨c,rfl,?_⟩;cases c with
  |true=>refine kK ?_;exact⟨j,p,i,d,n,o,E.mono l,h,k.after l⟩|false=>refine kJ ?_;cases h;exact k j _ q l o (.bl b7)
 |_=>cases h)
theorem Kf(s:PE X a (tM X.K ma))(u:PE X (.BoolOp .Or (b::rest) pos) (tM X.K mb)):PE X (.BoolOp .Or (a::b::rest) pos) (tM X.K (xA ma mb)):=dC (HI s u) (by
 rintro A H Q ⟨y,p,w,d,n,R,E,h,k⟩;obtain⟨⟨x,i⟩,r,h⟩:=VF.mp h;cases x with
 |bl c=>
  refine⟨y,p,w,.bl c,i,R,E,r,λj z q l o v=>?_⟩;cases v;refine⟨c,rfl,?_⟩;cases c with
  |true=>refine kK ?_;cases h;exact k j _ q l o (.bl b8)|false=>refine kJ ?_;exact⟨j,p,i,d,n,o,E.mono l,h,k.after l⟩
 |_=>cases h)
theorem Kg(p:PE X a (tM X.K ma)):PE X (.UnaryOp .Not a pos) (tM X.K (nE ma)):=dC (HJ p) (by
 rintro z H Q ⟨v,w,r,d,s,R,E,h,k⟩;obtain⟨⟨x,u⟩,o,h⟩:=VF.mp h;cases x with
 |bl c=>cases h;refine⟨v,w,r,_,_,R,E,o,λi y j n l q=>?_⟩;cases q;exact⟨_,rfl,k i _ j n l (.bl _)⟩
 |_=>cases h)
noncomputable def jC(t:MT)(a b:ME):ME:=λd h=>(t d h).bind λp=>match p.1 with|true=>a d p.2|false=>b d p.2
theorem Kh(hc:PT X c (tMT X.K mt))(r:PE X a (tM X.K ma))(s:PE X b (tM X.K mb)):PE X (.IfExp c a b pos) (tM X.K (jC mt ma mb)):=dC (HL hc r s) (by
 rintro y H Q ⟨v,o,u,d,i,R,E,n,k⟩;obtain⟨⟨x,h⟩,q,n⟩:=VF.mp n;refine⟨v,o,u,x,h,R,E,q,λj w l p=>?_⟩;cases x with
 |true=>refine kK ?_;exact⟨j,o,h,d,i,p,E.mono l,n,k.after l⟩|false=>
  refine kJ ?_;exact⟨j,o,h,d,i,p,E.mono l,n,k.after l⟩)
noncomputable def aD:MA:=λ_ d=>b4 ([],d)
noncomputable def aB(a:ME)(r:MA):MA:=λd h=>(a d h).bind λp=>(r d p.2).bind λq=>b4 (p.1::q.1,q.2)
variable{es:List Expr}{ms:MA}
theorem Ki:PA X [] (tMA X.K aD):=Cp BH (by
 rintro o H Q ⟨j,n,l,d,i,R,E,h,k⟩;cases h;exact k j [] H .refl R .nil)
theorem Kj(w:PE X e (tM X.K m))(y:PA X es (tMA X.K ms))(z:Wt (e::es) X.env=(b7,eval e X.env)::Wt es X.env:=by rfl):PA X (e::es) (tMA X.K (aB m ms)):=Cp (wN w y z) (by
 rintro O H Q ⟨K,q,I,d,J,R,E,h,k⟩;obtain⟨⟨x,i⟩,u,h⟩:=VF.mp h;obtain⟨⟨G,j⟩,v,h⟩:=VF.mp h;cases h;exact⟨K,q,I,x,i,R,E,u,λl M L o s A=>⟨l,q,i,G,j,s,E.mono o,v,λn N r p R2 B=>k n _ r (o.trans p) R2 (.cons (A.mono p) B)⟩⟩)
noncomputable def aU(ms:MA):ME:=λh d=>(ms h d).bind λp=>if p.1.length<=VW then b4 (.tup p.1,p.2)else b6
noncomputable def cA(ms:MA):ME:=λh d=>(ms h d).bind λp=>if p.1.length<=VW then b4 (.loc p.2.length,p.2++[.lst p.1])else b6
theorem Kk{w:Nat}(h:PA X es (tMA X.K ms)):PE X (.Tuple es w pos) (tM X.K (aU ms)):=dC (IY h) (by
 rintro J H Q ⟨A,B,x,d,y,R,E,i,k⟩;obtain⟨⟨I,z⟩,r,i⟩:=VF.mp i;split at i
 ·rename_i s;cases i;refine⟨A,B,x,_,_,R,E,r,λj v G q o n=>⟨by rw[n.length];exact s,λp u=>?_⟩⟩;obtain⟨l,R2⟩:=o.fresh (o:=.tup v) u;exact k j _ _ (q.trans l) R2 (.tup (.of bR) (n.mono l))
 ·cases i)
theorem Kl(h:PA X es (tMA X.K ms)):PE X (.List es pos) (tM X.K (cA ms)):=dC (IZ h) (by
 rintro K H Q ⟨I,J,B,d,G,R,E,j,k⟩;obtain⟨⟨n,i⟩,x,j⟩:=VF.mp j;split at j
 ·rename_i y;cases j;refine⟨I,J,B,n,i,R,E,x,λl o r v u s=>⟨by rw[s.length];exact y,λp z=>?_⟩⟩;obtain⟨w,R2,q⟩:=u.alloc (c:=.lst n) (o:=.lst o) z s;have A:IsD X.K (hV l i.length p) (i++[C.lst n]).length (aI r p (.lst o)) (.ref p) (.loc i.length):=by have:=IsD.loc (K:=X.K) (π:=hV l i.length p) (n:=(i++[C.lst n]).length) (H:=aI r p (.lst o)) (a:=i.length) (by simp);rw[q]at this;exact this
  exact k _ _ _ (v.trans w) R2 A
 ·cases j)
noncomputable def aF(f:MF)(ms:MA):ME:=λh d=>(ms h d).bind λp=>f p.1 p.2
theorem Km{K:VG}{f:MF}{n:Nat}{E:XK}(w:∀j i ds μ',ms j i=b4 (ds,μ')->ds.length=n):∀σ H Q,tM K (aF f ms) σ H Q->wO (iI K n f) [] E (tMA K ms) σ H Q:=by rintro σ H Q ⟨y,j,i,d,μ',R,E,l,k⟩;obtain⟨⟨o,h⟩,q,l⟩:=VF.mp l;refine⟨y,j,i,o,h,R,E,q,λp x s v u r=>?_⟩;show iI K n f (x++[]) s Q _;rw[X1];exact⟨by rw[r.length];exact w j i o h q,p,o,h,d,μ',u,r,l,k.after v⟩
theorem Kn:∀i d ds μ',aD i d=b4 (ds,μ')->ds.length=0:=by intro i d ds μ' h;cases h;rfl
theorem Ko{n:Nat}(h:∀i j ds μ',ms i j=b4 (ds,μ')->ds.length=n):∀i j ds μ',aB m ms i j=b4 (ds,μ')->ds.length=n+1:=by intro i j ds μ' d;obtain⟨⟨x,l⟩,r,d⟩:=VF.mp d;obtain⟨⟨p,q⟩,o,d⟩:=VF.mp d;cases d;rw[Wc,h i l p _ o]
theorem Kq{k:Nat}{f:Addr}{j:Xy}{ps:List Str}{l:MF}{x:Str}{p:Xq}{n:Nat}(F:FnOk X.prog X.w X.K X.mg X.base dY k f j ps (iI X.K n l))(y:Room k X.A)(s:Gl X x)(v:X.mg x=b4 (.ref f))
  (u:WX X.K (.ref f)=b8)(q:Binds X.K j ps [])(o:PA X (e::es) (tMA X.K ms))(w:∀A z ds i,ms A z=b4 (ds,i)->ds.length=n)(d:(x==("__debug__":Str))=false:=by decide)
  (r:Wt (e::es) X.env=(b7,eval e X.env)::Wt es X.env:=by rfl)(h:(Yy pos (Wt es X.env)).any (·.1)=false:=by rfl) :
  PE X (.Call (.Name x p) (e::es) [] pos) (tM X.K (aF l ms)):=
 dC (Ja F y s v u q .nil (E:=E0) B8 o d r h) (Km w)
noncomputable def dZ(K:VG)(f:MF)(r:List V->Hp->VK->Prop):Prop:=
 ∀j H i n d h l Q,Rp K j H i->IsDs K j i.length H l n->f n i=b4 (d,h)->KC K Q j i.length H d h->r l H Q
theorem Ct{K:VG}{f:MF}{r:List V->Hp->VK->Prop}(u:dZ K f r):∀σ H Q,tM K (aF f ms) σ H Q->wR r (tMA K ms) σ H Q:=by rintro σ H Q ⟨y,z,x,d,j,R,E,i,k⟩;obtain⟨⟨n,h⟩,s,i⟩:=VF.mp i;exact⟨y,z,x,n,h,R,E,s,λl w o q p v=>u l o h n d j w Q p v i (k.after q)⟩
theorem Kr{f:MF}{r:List V->Hp->VK->Prop}{id:String}{x:Str}{p:Xq}(hc:CallR X (.builtin id) r)(l:dZ X.K f r)(n:Gl X x)(o:X.mg x=b6)(s:XB x=b4 (.builtin id))(i:PA X (e::es) (tMA X.K ms))
  (q:x ≠ "__name__":=by decide) (d:(x==("__debug__":Str))=false:=by decide)
  (j:Wt (e::es) X.env=(b7,eval e X.env)::Wt es X.env:=by rfl)(h:(Yy pos (Wt es X.env)).any (·.1)=false:=by rfl):PE X (.Call (.Name x p) (e::es) [] pos) (tM X.K (aF f ms)):=
 dC (Jd hc n o s i q d j h) (Ct l)
theorem Ks{f:MF}{r:List V->Hp->VK->Prop}{T:String}{x:Str}{p:Xq}(hc:CallR X (.type T) r)(l:dZ X.K f r)(n:Gl X x)(o:X.mg x=b6)(s:XB x=b4 (.type T))(i:PA X (e::es) (tMA X.K ms))
  (q:x ≠ "__name__":=by decide) (d:(x==("__debug__":Str))=false:=by decide)
  (j:Wt (e::es) X.env=(b7,eval e X.env)::Wt es X.env:=by rfl)(h:(Yy pos (Wt es X.env)).any (·.1)=false:=by rfl):PE X (.Call (.Name x p) (e::es) [] pos) (tM X.K (aF f ms)):=
 dC (Je hc n o s i q d j h) (Ct l)
noncomputable def bF(d:Hm):D->Option (List D)
 |.tup xs=>b4 xs|.rol xs=>b4 xs|.loc a=>match d[a]? with|some (.lst xs)=>b4 xs|_=>b6
 |_=>b6
noncomputable def gN:D->D->Hm->Option (D×Hm)
 |.str z,.int i,μ=>if z.length<=VW then(atI z.cps.toList i).map λc=>(.str ⟨#[c]⟩,μ)else b6|x,.int i,μ=>(bF μ x).bind λh=>(atI h i).map λd=>(d,μ)|_,_,_=>b6
theorem Kt{K:VG}:cX K gN (BY K):=by
 intro q H O x y d I M N Q R s E j k;cases E with
 |int i=>
  cases s with
  |str z=>
   simp only[gN]at j;split at j
   ·rename_i A;obtain⟨c,l,n⟩:=VJ.mp j;cases n;exact .inr (.inr ⟨z,i,c,rfl,rfl,A,l,k q _ H .refl R (.str _)⟩)
   ·cases j
  |tup h t=>simp only[gN,bF,Wg]at j;obtain⟨r,l,n⟩:=VJ.mp j;cases n;obtain⟨v,o,p⟩:=t.atI l;exact .inr (.inl ⟨_,_,i,v,rfl,rfl,h,o,k q _ H .refl R p⟩)|rol h t=>simp only[gN,bF,Wg]at j;obtain⟨r,l,n⟩:=VJ.mp j;cases n;obtain⟨v,o,p⟩:=t.atI l;exact .inl ⟨_,_,i,v,rfl,rfl,h.sq,o,k q _ H .refl R p⟩|@loc a J=>
   simp only[gN,bF]at j;split at j
   ·rename_i G B;simp only[Wg]at j;obtain⟨r,l,n⟩:=VJ.mp j;cases n;obtain⟨L,u,w⟩:=R.lst a G B;obtain⟨v,o,p⟩:=w.atI l;exact .inl ⟨_,_,i,v,rfl,rfl,.of u,o,k q _ H .refl R p⟩
   ·cases j
  |_=>simp[gN,bF]at j
 |_=>cases s<;>simp[gN]at j
theorem Ku(d:PE X a (tM X.K ma))(h:PE X b (tM X.K mb))(i:wY b):PE X (.Subscript a b pos) (tM X.K (aC gN ma mb)):=dC (Jv Jx d h i) (pW Kt)
noncomputable def jD(xs:List D)(lo d:Option Int):List D:=(xs.drop (HT.sIx xs.length 0 lo)).take (HT.sIx xs.length xs.length d-HT.sIx xs.length 0 lo)
noncomputable abbrev MO:=aE->Hm->Option (Option Int×Hm)
noncomputable def jV:MO:=λ_ d=>b4 (b6,d)
noncomputable def jE(m:ME):MO:=λh d=>(m h d).bind λp=>match p.1 with|.int i=>b4 (b4 i,p.2)|_=>b6
inductive tMO (K:VG)(m:MO)(σ:St)(H:Hp)(Q:Option Int->Hp->Prop):Prop
 |mk (π:Nat->Addr)(ρ:aE)(μ:Hm)(o:Option Int)(μ':Hm)(R:Rp K π H μ)(E:En K π μ.length H σ ρ)(hm:m ρ μ=b4 (o,μ'))(k:∀π' H',Ext π μ.length H π' μ'.length H'->Rp K π' H' μ'->Q o H'):tMO K m σ H Q
theorem Kv:PO X b6 (tMO X.K jV):=λa6G s σ H Q I q=>Jq a6G s σ H Q I (by
 obtain⟨i,l,j,o,h,R,E,d,k⟩:=q;cases d;exact k i H .refl R)
theorem Kw(h:PE X e (tM X.K m)):PO X (b4 e) (tMO X.K (jE m)):=λa6G s σ H Q I q=>Jr h a6G s σ H Q I (by
 obtain⟨z,A,v,o,w,R,E,d,k⟩:=q;obtain⟨⟨x,y⟩,r,d⟩:=VF.mp d;cases x with
 |int i=>cases d;refine⟨z,A,v,_,_,R,E,r,λj B l p n u=>?_⟩;cases u;exact⟨_,rfl,k j l p n⟩
 |_=>cases d)
noncomputable abbrev Cu(K:VG):V->Option Int->Option Int->Hp->VK->Prop:=w4 K
theorem Ky{X:Cx}:SlR X (Cu X.K):=JC
theorem Cv{K:VG}{x:V}{lo d:Option Int}{H:Hp}{Q:VK}(h:w4 K x lo d H Q):Cu K x lo d H Q:=h
noncomputable def lU(a:ME)(lo h:MO):ME:=λd j=>(a d j).bind λp=>(lo d p.2).bind λq=>(h d q.2).bind λr=>
 match p.1 with
 |.tup _=>b6|x=>(bF r.2 x).bind λi=>b4 (.loc r.2.length,r.2++[.lst (jD i q.1 r.1)])
theorem Cw{K:VG}{π:Nat->Addr}{n:Nat}{H:Hp}{vs:List V}{ds:List D}(h:IsDs K π n H vs ds)(lo d:Option Int):IsDs K π n H (kI vs lo d) (jD ds lo d):=by unfold kI jD;rw[h.length];exact(h.drop _).take _
theorem lV{K:VG}{π:Nat->Addr}{d:Hm}{p:Addr}{c:C}{H:Hp}:IsD K (hV π d.length p) (d++[c]).length H (.ref p) (.loc d.length):=by have:=IsD.loc (K:=K) (π:=hV π d.length p) (n:=(d++[c]).length) (H:=H) (a:=d.length) (by simp);rw[show hV π d.length p d.length=p from if_pos rfl]at this;exact this
theorem Kz{lo K:Option Expr}{M L:MO}{p2:Xq}(ha:PE X a (tM X.K ma))(hl:PO X lo (tMO X.K M))(hu:PO X K (tMO X.K L)):PE X (.Subscript a (.Slice lo K b6 p2) pos) (tM X.K (lU ma M L)):=dC (Jt Ky ha hl hu) (by
 rintro σ H Q ⟨π,J,μ,d,μ',R,E,j,k⟩;obtain⟨⟨x,n⟩,T,j⟩:=VF.mp j;obtain⟨⟨l,o⟩,U,j⟩:=VF.mp j;obtain⟨⟨u,B⟩,Y,j⟩:=VF.mp j;refine⟨π,J,μ,x,n,R,E,T,λG v1 H1 r O i1=>⟨G,J,n,l,o,O,E.mono r,U,λI H2 s R2=>⟨I,J,o,u,B,R2,(E.mono r).mono s,Y,λπ3 H3 y v=>?_⟩⟩⟩;have i3:=(i1.mono s).mono y;cases i3 with
 |rol h t=>simp only[bF,Wg]at j;cases j;refine Cv ⟨_,_,rfl,h.sq,λp A=>?_⟩;obtain⟨z,w,q⟩:=v.alloc (c:=.lst (jD _ l u)) (o:=.lst (kI _ l u)) A (Cw t l u);exact k _ _ _ (((r.trans s).trans y).trans z) w lV|@loc i hi'=>
  simp only[bF]at j;split at j
  ·rename_i N hx;simp only[Wg]at j;cases j;obtain⟨vs,Z,h6⟩:=v.lst i N hx;refine Cv ⟨_,_,rfl,.of Z,λp A=>?_⟩;obtain⟨z,w,q⟩:=v.alloc (c:=.lst (jD N l u)) (o:=.lst (kI vs l u)) A (Cw h6 l u);exact k _ _ _ (((r.trans s).trans y).trans z) w lV
  ·cases j
 |tup h t=>simp at j
 |_=>simp[bF]at j)
end
section
variable{X:Cx}{e a b c:Expr}{m:ME}{pos:Xq}{mt:MT}{st:Stmt}{rest body orelse:List Stmt}{ms mr mu:MS}
noncomputable def bI:MS:=λh d=>b4 (.nx,h,d)
noncomputable def aH(a b:MS):MS:=λh d=>(a h d).bind λp=>match p.1 with|.nx=>b p.2.1 p.2.2|_=>b4 p
noncomputable def aO(m:ME):MS:=λd h=>(m d h).map λp=>(.rt p.1,d,p.2)
noncomputable def cM(m:ME):MS:=λd h=>(m d h).map λp=>(.nx,d,p.2)
noncomputable def bG(t:MT)(a b:MS):MS:=λd h=>(t d h).bind λp=>match p.1 with|true=>a d p.2|false=>b d p.2
noncomputable def aL(i:Nat)(m:ME):MS:=λd h=>(m d h).map λp=>(.nx,d.set i (b4 p.1),p.2)
theorem KA:PSs X [] (tMS X.K bI):=Cq HP (by
 rintro E n H ⟨j,q,p,o,l,i,R,d,h,k⟩;cases h;exact k j n H .refl R d)
theorem KG(h1:PS X st (tMS X.K ms))(B:PSs X rest (tMS X.K mr)):PSs X (st::rest) (tMS X.K (aH ms mr)):=Cq (HQ h1 B) (by
 rintro E M H ⟨I,J,G,x,v,s,R,z,j,k⟩;obtain⟨⟨w,q,p⟩,h1,j⟩:=VF.mp j;refine⟨I,J,G,w,q,p,R,z,h1,?_⟩;cases w with
 |nx=>
  intro u K L r A y;refine⟨u,q,p,x,v,s,A,y,j,?_⟩;cases x with
  |nx=>exact λh i n o R2 l=>k h i n (r.trans o) R2 l|bk=>exact λh i n o R2 l=>k h i n (r.trans o) R2 l|ct=>exact λh i n o R2 l=>k h i n (r.trans o) R2 l|rt d=>exact KC.after k r
 |rt d=>cases j;exact k|bk=>cases j;exact k
 |ct=>cases j;exact k)
theorem KH(h1:PS X st (tMS X.K ms)):PSs X [st] (tMS X.K ms):=HR h1
theorem KI:PS X (.Pass pos) (tMS X.K bI):=iJ HS (by
 rintro E n H ⟨j,q,p,o,l,i,R,d,h,k⟩;cases h;exact k j n H .refl R d)
theorem KJ(l:PE X e (tM X.K m)):PS X (.Return (b4 e) pos) (tMS X.K (aO m)):=iJ (HX l) (by
 rintro E u H ⟨p,q,n,s,r,o,R,i,d,k⟩;obtain⟨⟨x,h⟩,j,d⟩:=VJ.mp d;cases d;exact⟨p,q,n,x,h,R,i,j,k⟩)
theorem KL(q:PE X e (tM X.K m))(r:ZW e b6 pos.line X.env=pure false:=by rfl):PS X (.Expr e pos) (tMS X.K (cM m)):=iJ (HV q r) (by
 rintro E z H ⟨v,w,s,A,y,u,R,j,d,k⟩;obtain⟨⟨x,h⟩,p,d⟩:=VJ.mp d;cases d;exact⟨v,w,s,x,h,R,j,p,λi G n l o B=>k i z n l o (j.mono l)⟩)
theorem KN(hc:PT X c (tMT X.K mt))(I:PSs X body (tMS X.K ms))(J:PSs X orelse (tMS X.K mu)):PS X (.If c body orelse pos) (tMS X.K (bG mt ms mu)):=iJ (Ib hc I J) (by
 rintro E M H ⟨L,y,K,u,o,l,R,w,v,k⟩;obtain⟨⟨x,j⟩,G,v⟩:=VF.mp v;refine⟨L,y,K,x,j,R,w,G,λn B p z=>?_⟩;have A:lT X.K E n j.length B u o l:=by
  cases u with
  |nx=>exact λh i r s R2 q=>k h i r (p.trans s) R2 q|bk=>exact λh i r s R2 q=>k h i r (p.trans s) R2 q|ct=>exact λh i r s R2 q=>k h i r (p.trans s) R2 q|rt d=>exact KC.after k p
 cases x with
 |true=>refine kK ?_;exact⟨n,y,j,u,o,l,z,w.mono p,v,A⟩|false=>
  refine kJ ?_;exact⟨n,y,j,u,o,l,z,w.mono p,v,A⟩)
theorem Cy{i:Nat}{x:Str}{d:Xq}(s:X.N.Nodup)(w:X.N[i]?=b4 x)(z:Loc X.env.scope x)(u:PE X e (tM X.K m))(y:ZW e (b4 (.Name x d)) pos.line X.env=pure false:=by rfl)
  (v:X.fn x=b8\/X.env.scope.names.lookup x=b4 .local:=by first|exact .inl rfl|exact .inr rfl|assumption):PS X (.Assign [.Name x d] e pos) (tMS X.K (aL i m)):=iJ (Ii s w z u y v) (by
 rintro E N H ⟨I,J,B,L,K,G,R,n,h,k⟩;obtain⟨⟨x,j⟩,r,h⟩:=VJ.mp h;cases h;exact⟨I,J,B,x,j,R,n,r,λl M p o q A=>k l _ p o q ((n.mono o).set A i)⟩)
end
noncomputable def pX(n:Nat)(ds:List D):aE:=ds.map b4++XJ (n-ds.length) b6
noncomputable def xB(n:Nat)(m:MS):MF:=λds a=>(m (pX n ds) a).bind λp=>match p.1 with|.rt d=>b4 (d,p.2.2)|.nx=>b4 (.non,p.2.2)|_=>b6
theorem Cz{K:VG}{π:Nat->Addr}{n:Nat}{H:Hp}{N:List Str}{vs:List V}{ds:List D}(h:IsDs K π n H vs ds)(p:vs.length<=N.length):En K π n H (L2.start N vs) (pX N.length ds):=by
 have a:=h.length;refine⟨by simp[L2.start,pX,a],λi d e=>?_⟩;unfold pX at e;unfold L2.start;by_cases b:i<ds.length
 ·rw[Ww (by simpa using b),V5]at e;obtain⟨o,c,j⟩:=VJ.mp e;cases j;obtain⟨v,l,m⟩:=h.get c;exact⟨v,by rw[Ww (by rw[VI,a];exact b),V5,l];rfl,m⟩
 ·rw[XM (by simpa using ZL.mp b)]at e;have:=Yt (n:=N.length-ds.length) (a:=(b6:Option D)) (i:=i-(ds.map b4).length);rw[this]at e;split at e<;>simp at e
section
variable{P:V6}{w:Wj}{K:VG}{mg:Str->Option Value}{base:WI}
theorem KO{x qual:Str}{st:Stmt}{f:Addr}{o:Xy}{N ps:List Str}{k:Nat}{m:MS}(F:Fun K x qual st f o)(S:FnScope N ps (bM st))(e:ps.length<=N.length)
  (b:∀(a:Value)(A:Wh)(outer:List a0k)(s:VL)(H:Hp)(E:XK),Room k (A.deeper (Zy qual (bM st) s.heap.objs.size f a))->
   PSs (dO dY P w K mg base N qual (bM st) f a A outer s H E).nox (cL st) (tMS K m)):FnOk P w K mg base dY (k+1) f o ps (iI K ps.length (xB N.length m)):=by
 refine F.ok S (λG H Q E h=>h.1) λa A outer s H G Q E z h=>⟨_,b a A outer s H E z,?_⟩;obtain⟨B,L,ds,I,d,J,R,i,c,q⟩:=h;obtain⟨⟨p,n,j⟩,y,c⟩:=VF.mp c;refine⟨L,_,I,p,n,j,R,Cz i (by rw[B];exact e),y,?_⟩;cases p with
 |rt T=>cases c;exact q|nx=>cases c;exact λl M r v u O=>q l .non r v u .non|bk=>cases c|ct=>cases c
end
end L3
namespace L3
open PySem L2
open SeqAt (EqAt RcAt RcNeAt)
inductive KD where
 |non|bl (b:Bool)|int (i:Int)|str (x:Str)|tup (n:Nat)|lst (n:Nat)
inductive IsK (s:VL):Value->KD->Prop where
 |non:IsK s .none .non
 |bl (b:Bool):IsK s (.bool b) (.bl b)
 |int (i:Int)(t:a5a):IsK s (.int i t) (.int i)
 |str (x:Str)(t:a5a):IsK s (.str x t) (.str x)
 |tup {l:Addr}{its:List Value}(h:s.heap.IsTuple l its.toArray):IsK s (.ref l) (.tup its.length)
 |lst {l:Addr}{its:List Value}(h:s.heap.IsList l its.toArray):IsK s (.ref l) (.lst its.length)
noncomputable def sI(e:Nat->Bool):KD->KD->Bool
 |.non,.non=>b8|.bl a,.bl b=>a==b|.bl a,.int b=>(if a then 1 else 0)==b|.int a,.bl b=>a==(if b then 1 else 0)|.int a,.int b=>a==b|.str a,.str b=>a==b|.tup n,.tup k=>(Wf (min n k)).all e&&n==k|.lst n,.lst k=>(Wf (min n k)).all e&&n==k|_,_=>b7
noncomputable def sJ(A:Wh)(s:VL)(u v:Value)(e:Nat->Bool):Prop:=
 (∀l b c a,u=.ref l->v=.ref b->s.heap.IsTuple l c->s.heap.IsTuple b a->∀j (h1:j<c.size)(d:j<a.size),EqAt A.in1 s c[j] a[j] (e j)) /\
 (∀l b c a,u=.ref l->v=.ref b->s.heap.IsList l c->s.heap.IsList b a->∀j (h1:j<c.size)(d:j<a.size),EqAt A.in1 s c[j] a[j] (e j))
section
variable{A:Wh}{s:VL}{u v:Value}{k k':KD}{e:Nat->Bool}
theorem CA{n k:Nat}(e:Nat->Bool)(h:n=k):((Wf (min n k)).all e&&n==k)=(Wf n).all e:=by subst h;simp
theorem CB{n k:Nat}(e:Nat->Bool)(h:n≠k):((Wf (min n k)).all e&&n==k)=false:=by simp[h]
theorem xC(h:IsK s u k)(h':IsK s v k')(c:A.units<Xs)(o:sJ A s u v e):RcAt A s u v (sI e k k'):=by
 cases h with
 |non=>
  cases h' with
  |non=>exact RcAt.none_none|bl b=>exact RcAt.none_bool b|int i t=>exact RcAt.none_int i t|str x t=>exact RcAt.none_str x t|tup h=>exact RcAt.none_tuple h c|lst h=>exact RcAt.none_list h c
 |bl a=>
  cases h' with
  |non=>exact RcAt.bool_none a|bl b=>exact RcAt.bool_bool a b|int i t=>exact RcAt.bool_int a i t|str x t=>exact RcAt.bool_str a x t|tup h=>exact RcAt.bool_tuple a h c|lst h=>exact RcAt.bool_list a h c
 |int a j=>
  cases h' with
  |non=>exact RcAt.int_none a j|bl b=>exact RcAt.int_bool a j b|int i t=>exact RcAt.int_int a j i t|str x t=>exact RcAt.int_str a j x t|tup h=>exact RcAt.int_tuple a j h c|lst h=>exact RcAt.int_list a j h c
 |str a j=>
  cases h' with
  |non=>exact RcAt.str_none a j|bl b=>exact RcAt.str_bool a j b|int i t=>exact RcAt.str_int a j i t|str x t=>exact RcAt.str_str a j x t|tup h=>exact RcAt.str_tuple a j h c|lst h=>exact RcAt.str_list a j h c
 |tup g=>
  cases h' with
  |non=>exact RcAt.tuple_none g c|bl b=>exact RcAt.tuple_bool b g c|int i t=>exact RcAt.tuple_int i t g c|str x t=>exact RcAt.tuple_str x t g c|tup h=>have:=RcAt.tuples (e:=e) g h c (o.1 _ _ _ _ rfl rfl g h);exact this|lst h=>exact RcAt.tuple_list g h c
 |lst g=>
  cases h' with
  |non=>exact RcAt.list_none g c|bl b=>exact RcAt.list_bool b g c|int i t=>exact RcAt.list_int i t g c|str x t=>exact RcAt.list_str x t g c|tup h=>exact RcAt.list_tuple g h c|@lst b d h=>
   rename_i l m;by_cases n:m.length=d.length
   ·have:=RcAt.lists (e:=e) g h (by simpa using n) c (o.2 _ _ _ _ rfl rfl g h);show RcAt A s _ _ ((Wf (min m.length d.length)).all e&&m.length==d.length);rw[CA e n];simpa using this
   ·have:=RcAt.lists_lengths g h (by simpa using n) c;show RcAt A s _ _ ((Wf (min m.length d.length)).all e&&m.length==d.length);rw[CB e n];exact this
theorem KP(h:IsK s u k)(h':IsK s v k')(c:A.units<Xs)(o:sJ A s u v e):RcNeAt A s u v (!sI e k k'):=by
 cases h with
 |non=>
  cases h' with
  |non=>exact RcNeAt.none_none|bl b=>exact RcNeAt.none_bool b|int i t=>exact RcNeAt.none_int i t|str x t=>exact RcNeAt.none_str x t|tup h=>exact RcNeAt.none_tuple h c|lst h=>exact RcNeAt.none_list h c
 |bl a=>
  cases h' with
  |non=>exact RcNeAt.bool_none a|bl b=>exact RcNeAt.bool_bool a b|int i t=>exact RcNeAt.bool_int a i t|str x t=>exact RcNeAt.bool_str a x t|tup h=>exact RcNeAt.bool_tuple a h c|lst h=>exact RcNeAt.bool_list a h c
 |int a j=>
  cases h' with
  |non=>exact RcNeAt.int_none a j|bl b=>exact RcNeAt.int_bool a j b|int i t=>exact RcNeAt.int_int a j i t|str x t=>exact RcNeAt.int_str a j x t|tup h=>exact RcNeAt.int_tuple a j h c|lst h=>exact RcNeAt.int_list a j h c
 |str a j=>
  cases h' with
  |non=>exact RcNeAt.str_none a j|bl b=>exact RcNeAt.str_bool a j b|int i t=>exact RcNeAt.str_int a j i t|str x t=>exact RcNeAt.str_str a j x t|tup h=>exact RcNeAt.str_tuple a j h c|lst h=>exact RcNeAt.str_list a j h c
 |tup g=>
  cases h' with
  |non=>exact RcNeAt.tuple_none g c|bl b=>exact RcNeAt.tuple_bool b g c|int i t=>exact RcNeAt.tuple_int i t g c|str x t=>exact RcNeAt.tuple_str x t g c|tup h=>have:=RcNeAt.tuples (e:=e) g h c (o.1 _ _ _ _ rfl rfl g h);exact this|lst h=>exact RcNeAt.tuple_list g h c
 |lst g=>
  cases h' with
  |non=>exact RcNeAt.list_none g c|bl b=>exact RcNeAt.list_bool b g c|int i t=>exact RcNeAt.list_int i t g c|str x t=>exact RcNeAt.list_str x t g c|tup h=>exact RcNeAt.list_tuple g h c|@lst b d h=>
   rename_i l m;by_cases n:m.length=d.length
   ·have:=RcNeAt.lists (e:=e) g h (by simpa using n) c (o.2 _ _ _ _ rfl rfl g h);show RcNeAt A s _ _ (!((Wf (min m.length d.length)).all e&&m.length==d.length));rw[CA e n];simpa using this
   ·have:=RcNeAt.lists_lengths g h (by simpa using n) c;show RcNeAt A s _ _ (!((Wf (min m.length d.length)).all e&&m.length==d.length));rw[CB e n];exact this
theorem KQ(h:IsK s u k)(h':IsK s v k')(c:A.units<Xs)(o:sJ A s u v e)(n:∀l b,u=.ref l->v=.ref b->l≠b):EqAt A s u v (sI e k k'):=by
 cases h with
 |non=>
  cases h' with
  |non=>exact EqAt.same _|bl b=>exact EqAt.none_bool b|int i t=>exact EqAt.none_int i t|str x t=>exact EqAt.none_str x t|tup h=>exact EqAt.none_tuple h c|lst h=>exact EqAt.none_list h c
 |bl a=>
  cases h' with
  |non=>exact EqAt.bool_none a|bl b=>exact EqAt.bool_bool a b|int i t=>exact EqAt.bool_int a i t|str x t=>exact EqAt.bool_str a x t|tup h=>exact EqAt.bool_tuple a h c|lst h=>exact EqAt.bool_list a h c
 |int a d=>
  cases h' with
  |non=>exact EqAt.int_none a d|bl b=>exact EqAt.int_bool a d b|int i t=>exact EqAt.int_int a d i t|str x t=>exact EqAt.int_str a d x t|tup h=>exact EqAt.int_tuple a d h c|lst h=>exact EqAt.int_list a d h c
 |str a d=>
  cases h' with
  |non=>exact EqAt.str_none a d|bl b=>exact EqAt.str_bool a d b|int i t=>exact EqAt.str_int a d i t|str x t=>exact EqAt.str_str a d x t|tup h=>exact EqAt.str_tuple a d h c|lst h=>exact EqAt.str_list a d h c
 |@tup l m g=>
  cases h' with
  |non=>exact EqAt.tuple_none g c|bl b=>exact EqAt.tuple_bool b g c|int i t=>exact EqAt.tuple_int i t g c|str x t=>exact EqAt.tuple_str x t g c|@tup b j h=>exact EqAt.of_refs (n l b rfl rfl) (xC (k:=.tup m.length) (k':=.tup j.length) (.tup g) (.tup h) c o)|lst h=>exact EqAt.tuple_list g h c
 |@lst l m g=>
  cases h' with
  |non=>exact EqAt.list_none g c|bl b=>exact EqAt.list_bool b g c|int i t=>exact EqAt.list_int i t g c|str x t=>exact EqAt.list_str x t g c|tup h=>exact EqAt.list_tuple g h c|@lst b j h=>exact EqAt.of_refs (n l b rfl rfl) (xC (k:=.lst m.length) (k':=.lst j.length) (.lst g) (.lst h) c o)
end
inductive KdD where
 |non|bl (b:Bool)|int (i:Int)|str (x:Str)|tup (xs:List D)|lst (xs:List D)
noncomputable def lW(c:Hm):D->Option KdD
 |.non=>b4 .non|.bl b=>b4 (.bl b)|.int i=>b4 (.int i)|.str x=>b4 (.str x)|.tup xs=>b4 (.tup xs)|.rol xs=>b4 (.lst xs)|.loc a=>match c[a]? with|some (.lst xs)=>b4 (.lst xs)|_=>b6
 |.ty _=>b6
noncomputable def fU(f:D->D->Option Bool):List D->List D->Option Bool
 |x::xs,y::ys=>(f x y).bind λb=>(fU f xs ys).map λc=>b&&c|[],[]=>b4 b8|_,_=>b4 b7
noncomputable def sL(f:D->D->Option Bool):KdD->KdD->Option Bool
 |.non,.non=>b4 b8|.bl a,.bl b=>b4 (a==b)|.bl a,.int b=>b4 ((if a then 1 else 0)==b)|.int a,.bl b=>b4 (a==(if b then 1 else 0))|.int a,.int b=>b4 (a==b)|.str a,.str b=>b4 (a==b)|.tup xs,.tup ys=>fU f xs ys|.lst xs,.lst ys=>fU f xs ys|_,_=>b4 b7
noncomputable abbrev xD(f:D->D->Option Bool):D->D->Option Bool:=f
theorem CC{f:D->D->Option Bool}{x y:D}{b:Bool}(h:xD f x y=b4 b):f x y=b4 b\/(b=b8/\∃a,x=.loc a/\y=.loc a):=.inl h
noncomputable def cS:Nat->Hm->D->D->Option Bool
 |0,_,_,_=>b6|n+1,μ,x,y=>(lW μ x).bind λa=>(lW μ y).bind λb=>sL (xD (cS n μ)) a b
noncomputable abbrev gO(n:Nat)(a:Hm):D->D->Option Bool:=xD (cS n a)
noncomputable def xE:KdD->KD
 |.non=>.non|.bl b=>.bl b|.int i=>.int i|.str x=>.str x|.tup xs=>.tup xs.length|.lst xs=>.lst xs.length
noncomputable def nF:KdD->List D
 |.tup xs=>xs|.lst xs=>xs|_=>[]
section
variable{X:Cx}{a6G:List (Addr×Obj)}{σ:St}{H:Hp}{s:VL}{π:Nat->Addr}{μ:Hm}
inductive KdAt (X:Cx)(π:Nat->Addr)(n:Nat)(H:Hp)(s:VL)(u:Value):KdD->Prop where
 |non (h:u=.none):KdAt X π n H s u .non
 |bl (b:Bool)(h:u=.bool b):KdAt X π n H s u (.bl b)
 |int (i:Int)(t:a5a)(h:u=.int i t):KdAt X π n H s u (.int i)
 |str (x:Str)(t:a5a)(h:u=.str x t):KdAt X π n H s u (.str x)
 |tup {xs:List D}(p:Addr)(vs:List V)(its:List Value)(h:u=.ref p)(q:SqT X.K H p vs)(i:IsDs X.K π n H vs xs)(r:Vals vs its)(t:s.heap.IsTuple p its.toArray):KdAt X π n H s u (.tup xs)
 |lst {xs:List D}(p:Addr)(vs:List V)(its:List Value)(h:u=.ref p)(q:SqL X.K H p vs)(i:IsDs X.K π n H vs xs)(r:Vals vs its)(t:s.heap.IsList p its.toArray):KdAt X π n H s u (.lst xs)
theorem nG(I:Inv X a6G σ H s)(R:Rp X.K π H μ){v:V}{d:D}{u:Value}(h:IsD X.K π μ.length H v d)(r:RelV v u){k:KdD}(e:lW μ d=b4 k):KdAt X π μ.length H s u k:=by
 cases h with
 |non=>cases e;exact .non r|bl b=>cases e;exact .bl b r|int i=>cases e;obtain⟨t,q⟩:=r;exact .int i t q|str x=>cases e;obtain⟨t,q⟩:=r;exact .str x t q|ty x=>cases e|tup q t=>cases e;obtain⟨c,j,p,_⟩:=I.tuple q;exact .tup _ _ c r q t j p|rol q t=>cases e;obtain⟨c,j,p,_⟩:=I.list q.sq;exact .lst _ _ c r q.sq t j p.isList|@loc a y=>
  simp only[lW]at e;split at e
  ·rename_i w n;cases e;obtain⟨o,l,m⟩:=R.lst a w n;have q:SqL X.K H (π a) o:=.of l;obtain⟨c,j,p,_⟩:=I.list q;exact .lst _ _ c r q m j p.isList
  ·cases e
theorem KdAt.isK{u:Value}{k:KdD}{n:Nat}(h:KdAt X π n H s u k):IsK s u (xE k):=by
 cases h with
 |non h=>subst h;exact .non|bl b h=>subst h;exact .bl b|int i t h=>subst h;exact .int i t|str x t h=>subst h;exact .str x t|tup p c a h q i r t=>subst h;have:a.length=_:=r.length.symm.trans i.length;show IsK s (.ref p) (.tup _);rw[<- this];exact .tup t|lst p c a h q i r t=>subst h;have:a.length=_:=r.length.symm.trans i.length;show IsK s (.ref p) (.lst _);rw[<- this];exact .lst t
noncomputable def hW(f:D->D->Option Bool)(xs a:List D)(j:Nat):Bool:=match xs[j]?,a[j]? with
 |some x,b4 y=>(f x y).getD b7|_,_=>b7
theorem xF{f:D->D->Option Bool}:∀{xs a:List D}{b:Bool},fU f xs a=b4 b->b=((Wf (min xs.length a.length)).all (hW f xs a)&&xs.length==a.length)/\∀(j:Nat) x y,xs[j]?=b4 x->a[j]?=b4 y->f x y=b4 (hW f xs a j)
 |[],[],b,h=>by cases h;exact⟨rfl,λj x y e=>by simp at e⟩
 |x::xs,[],b,h=>by cases h;exact⟨by simp,λj x y _ e=>by simp at e⟩
 |[],y::a,b,h=>by cases h;exact⟨by simp,λj x y e=>by simp at e⟩
 |x::xs,y::a,b,h=>by
  simp only[fU]at h;obtain⟨c,n,p⟩:=VF.mp h;obtain⟨d,q,r⟩:=VJ.mp p;obtain⟨u,v⟩:=xF q;have m:hW f (x::xs) (y::a) 0=c:=by simp[hW,n]
  have o:∀j,hW f (x::xs) (y::a) (j+1)=hW f xs a j:=λj=>by simp[hW]
  refine⟨?_,λj w z i l=>?_⟩
  ·subst r;rw[u];simp only[Wc,Nat.add_min_add_right];rw[a0s,WE,a2K,m];have:(hW f (x::xs) (y::a)∘Nat.succ)=hW f xs a:=funext λj=>o j;rw[this];simp[Bool.and_assoc]
  ·cases j with
   |zero=>simp at i l;subst i;subst l;rw[m,n]|succ j=>rw[o j];exact v j w z (by simpa using i) (by simpa using l)
theorem CD{f:D->D->Option Bool}{k k':KdD}{b:Bool}(h:sL f k k'=b4 b):b=sI (hW f (nF k) (nF k')) (xE k) (xE k'):=by
 cases k<;>cases k'<;>first
  |(have a:=VY h;subst a;rfl)|(obtain⟨c,_⟩:=xF h;rw[c];rfl)
theorem KR(I:Inv X a6G σ H s)(R:Rp X.K π H μ):∀(n:Nat){v:V}{u:Value}{x y:D}{b:Bool},RelV v u->IsD X.K π μ.length H v x->IsD X.K π μ.length H v y->cS n μ x y=b4 b->b=true:=by
 intro n;induction n with
 |zero=>intro v u x y b _ _ _ h;cases h|succ n ih=>
  intro v u x y b r hx hy h;obtain⟨k,U,h⟩:=VF.mp h;obtain⟨k',h2,h⟩:=VF.mp h;have a1:=nG I R hx r U;have A:=nG I R hy r h2;have l:∀{vs:List V}{xs T:List D}{c:Bool},(∀v∈vs,∃u,RelV v u)->IsDs X.K π μ.length H vs xs->IsDs X.K π μ.length H vs T->fU (gO n μ) xs T=b4 c->c=true:=by
   intro vs;induction vs with
   |nil=>intro xs T c _ Z o h;cases Z;cases o;cases h;rfl|cons w vs ihv=>
    intro xs T c hr Z o h;cases Z with
    |cons p1 t1=>
     cases o with
     |cons L E=>simp only[fU]at h;obtain⟨c1,U,h3⟩:=VF.mp h;obtain⟨c2,h4,h5⟩:=VJ.mp h3;obtain⟨Q,N⟩:=hr w (WS ..);have a:c1=true:=(CC U).elim (ih N p1 L) (·.1);have m:=ihv (λv J=>hr v (Wn _ J)) t1 E h4;subst a;subst m;exact h5.symm
  cases a1 with
  |non a=>
   subst a;cases A with
   |non _=>exact(VY h).symm|bl _ e=>cases e|int _ _ e=>cases e|str _ _ e=>cases e|tup _ _ _ e=>cases e|lst _ _ _ e=>cases e
  |bl c a=>
   subst a;cases A with
   |non e=>cases e|bl _ e=>cases e;exact(VY h).symm.trans (beq_self_eq_true _)|int _ _ e=>cases e|str _ _ e=>cases e|tup _ _ _ e=>cases e|lst _ _ _ e=>cases e
  |int c t a=>
   subst a;cases A with
   |non e=>cases e|bl _ e=>cases e|int _ _ e=>cases e;exact(VY h).symm.trans (beq_self_eq_true _)|str _ _ e=>cases e|tup _ _ _ e=>cases e|lst _ _ _ e=>cases e
  |str c t a=>
   subst a;cases A with
   |non e=>cases e|bl _ e=>cases e|int _ _ e=>cases e|str _ _ e=>cases e;exact(VY h).symm.trans (beq_self_eq_true _)|tup _ _ _ e=>cases e|lst _ _ _ e=>cases e
  |tup p vs K a q i O t=>
   have z:KdAt X π μ.length H s (.ref p) _:=a▸KdAt.tup p vs K a q i O t;rw[a]at A;cases A with
   |non e=>cases e|bl _ e=>cases e|int _ _ e=>cases e|str _ _ e=>cases e|tup L G d m M o B E=>
    cases m;have:=I.tuple_inj q M;subst this;exact l (λv J=>by
     obtain⟨j,Y,rfl⟩:=X5 J;obtain⟨Q,_,N⟩:=O.get (VT Y);exact⟨Q,N⟩) i o h
   |lst L G d m M o B E=>cases m;exact absurd rfl (XI E t)
  |lst p vs K a q i O t=>
   rw[a]at A;cases A with
   |non e=>cases e|bl _ e=>cases e|int _ _ e=>cases e|str _ _ e=>cases e|tup L G d m M o B E=>cases m;exact absurd rfl (XI t E)|lst L G d m M o B E=>
    cases m;have:=I.list_inj q M;subst this;exact l (λv J=>by
     obtain⟨j,Y,rfl⟩:=X5 J;obtain⟨Q,_,N⟩:=O.get (VT Y);exact⟨Q,N⟩) i o h
theorem hX(A:Wh):A.in1.units=A.units+1:=rfl
theorem CF(I:Inv X a6G σ H s){A:Wh}{n:Nat}(ih:∀{A:Wh}{v v':V}{u u':Value}{x y:D}{b:Bool},A.units+n<Xs->RelV v u->RelV v' u'->IsD X.K π μ.length H v x->IsD X.K π μ.length H v' y->cS n μ x y=b4 b->EqAt A s u u' b)
  (hu:A.units+(n+1)<Xs){u u':Value}{k k':KdD}{b:Bool}(a1:KdAt X π μ.length H s u k)(a2:KdAt X π μ.length H s u' k')(h:sL (gO n μ) k k'=b4 b):sJ A s u u' (hW (gO n μ) (nF k) (nF k')):=by
 have K:∀{vs T:List V}{d its':List Value}{xs Z:List D}{c:Bool},Vals vs d->Vals T its'->IsDs X.K π μ.length H vs xs->IsDs X.K π μ.length H T Z->fU (gO n μ) xs Z=b4 c->
   ∀j (h1:j<d.length)(Y:j<its'.length),EqAt A.in1 s d[j] its'[j] (hW (gO n μ) xs Z j):=by
  intro vs T d its' xs Z c r r' i i' e j h1 Y;have l1:=r.length;have l2:=r'.length;have l3:=i.length;have l4:=i'.length;have hx:xs[j]?=b4 (xs[j]'(by omega)):=VT _;have hy:Z[j]?=b4 (Z[j]'(by omega)):=VT _;obtain⟨v,v1,v2⟩:=i.get hx;obtain⟨v',v1',v2'⟩:=i'.get hy;obtain⟨w,w1,w2⟩:=r.get v1;obtain⟨w',w1',w2'⟩:=r'.get v1';rw[VT h1]at w1;rw[VT Y]at w1';cases w1;cases w1';have key:∀{x y:D}{b:Bool},IsD X.K π μ.length H v x->IsD X.K π μ.length H v' y->gO n μ x y=b4 b->EqAt A.in1 s d[j] its'[j] b:=λ{x y b} i1 L hq=>by
   rcases CC hq with hq|⟨rfl,a,rfl,rfl⟩
   ·exact ih (by rw[hX];omega) w2 w2' i1 L hq
   ·cases i1;cases L;have z1:d[j]=VU (π a):=w2;have z2:its'[j]=VU (π a):=w2';rw[z1,z2];exact EqAt.same _
  exact key v2 v2' ((xF e).2 j _ _ hx hy)
 constructor
 ·intro l b' J E e1 e2 t1 t2 j h1 Y;subst e1;subst e2;cases a1 with
  |tup p vs d e q i r t=>
   cases e;cases a2 with
   |tup p2 U G m q2 L r2 R=>
    cases m;have z1:J=d.toArray:=by obtain⟨o,M,g2,n1,O⟩:=t1;obtain⟨o',z,N,Q,B⟩:=t;rw[M]at z;cases z;rw[O]at B;injection B
    have z2:E=G.toArray:=by obtain⟨o,M,g2,n1,O⟩:=t2;obtain⟨o',z,N,Q,B⟩:=R;rw[M]at z;cases z;rw[O]at B;injection B
    subst z1;subst z2;have:=K r r2 i L h j (by simpa using h1) (by simpa using Y);simpa[nF]using this
   |lst p2 U G m q2 L r2 R=>cases m;exact absurd rfl (XI R t2)|non m=>cases m|bl _ m=>cases m|int _ _ m=>cases m|str _ _ m=>cases m
  |lst p vs d e q i r t=>cases e;exact absurd rfl (XI t t1)|non e=>cases e|bl _ e=>cases e|int _ _ e=>cases e|str _ _ e=>cases e
 ·intro l b' J E e1 e2 t1 t2 j h1 Y;subst e1;subst e2;cases a1 with
  |lst p vs d e q i r t=>
   cases e;cases a2 with
   |lst p2 U G m q2 L r2 R=>
    cases m;have z1:J=d.toArray:=by obtain⟨o,M,g2,n1,O⟩:=t1;obtain⟨o',z,N,Q,B⟩:=t;rw[M]at z;cases z;rw[O]at B;injection B
    have z2:E=G.toArray:=by obtain⟨o,M,g2,n1,O⟩:=t2;obtain⟨o',z,N,Q,B⟩:=R;rw[M]at z;cases z;rw[O]at B;injection B
    subst z1;subst z2;have:=K r r2 i L h j (by simpa using h1) (by simpa using Y);simpa[nF]using this
   |tup p2 U G m q2 L r2 R=>cases m;exact absurd rfl (XI t2 R)|non m=>cases m|bl _ m=>cases m|int _ _ m=>cases m|str _ _ m=>cases m
  |tup p vs d e q i r t=>cases e;exact absurd rfl (XI t1 t)|non e=>cases e|bl _ e=>cases e|int _ _ e=>cases e|str _ _ e=>cases e
theorem xG(I:Inv X a6G σ H s)(R:Rp X.K π H μ):∀(n:Nat){A:Wh}{v c:V}{u a:Value}{x y:D}{b:Bool},A.units+n<Xs->RelV v u->RelV c a->IsD X.K π μ.length H v x->IsD X.K π μ.length H c y->cS n μ x y=b4 b->EqAt A s u a b:=by
 intro n;induction n with
 |zero=>intro A v c u a x y b _ _ _ _ _ h;cases h|succ n K=>
  intro A v c u a x y b J r o j m h;have w:=h;obtain⟨k,B,h⟩:=VF.mp h;obtain⟨M,E,h⟩:=VF.mp h;have d:=nG I R j r B;have e:=nG I R m o E;by_cases i:u=a
  ·subst i;have:v=c:=r.inj o;subst this;have:=KR I R (n+1) r j m w;subst this;exact EqAt.same _
  ·have G:=CF I K J d e h;rw[CD h];exact KQ d.isK e.isK (by omega) G λl L p q z=>i (by rw[p,q,z])
theorem CG(I:Inv X a6G σ H s)(R:Rp X.K π H μ)(n:Nat){A:Wh}{v i:V}{u d:Value}{x y:D}{b:Bool}(m:A.units+n<Xs)(r:RelV v u)(q:RelV i d)(o:IsD X.K π μ.length H v x)(p:IsD X.K π μ.length H i y)(h:cS n μ x y=b4 b) :
  RcAt A s u d b/\RcNeAt A s u d (!b):=by
 cases n with
 |zero=>cases h|succ n=>obtain⟨k,j,h⟩:=VF.mp h;obtain⟨w,l,h⟩:=VF.mp h;have a:=nG I R o r j;have c:=nG I R p q l;have e:=CF I (A:=A) (xG I R n) m a c h;rw[CD h];exact⟨xC a.isK c.isK (by omega) e,KP a.isK c.isK (by omega) e⟩
end
end L3
namespace L3
open PySem L2
open SeqAt (EqAt RcAt RcNeAt)
section
variable{K:VG}
noncomputable def kL(g:Int->Int->Option Int):D->D->Hm->Option (D×Hm)
 |.int i,.int j,μ=>(g i j).map λz=>(.int z,μ)|_,_,_=>b6
theorem CH{g:Int->Int->Option Int}{x y d:D}{a μ':Hm}(h:kL g x y a=b4 (d,μ')):∃i j z,x=.int i/\y=.int j/\g i j=b4 z/\d=.int z/\μ'=a:=by
 unfold kL at h;split at h
 ·rename_i i j;obtain⟨z,b,c⟩:=VJ.mp h;cases c;exact⟨i,j,z,rfl,rfl,b,rfl,rfl⟩
 ·cases h
theorem xH{a:Int->Int->Prop}{g:Int->Int->Option Int}{g':Int->Int->Int}(e:∀i j z,g i j=b4 z->a i j/\z=g' i j):cX K (kL g) (rI a λi j=>.int (g' i j)):=by intro o H r x y d n p q Q R l m h k;obtain⟨i,j,z,rfl,rfl,b,rfl,rfl⟩:=CH h;cases l;cases m;obtain⟨c,rfl⟩:=e i j z b;exact⟨i,j,rfl,rfl,c,k o _ H .refl R (.int _)⟩
theorem KS{g':Int->Int->Int}:cX K (kL λi j=>b4 (g' i j)) (gH λi j=>.int (g' i j)):=by intro l H o x y d h m n Q R c e b k;obtain⟨i,j,z,rfl,rfl,a,rfl,rfl⟩:=CH b;cases c;cases e;cases a;exact⟨i,j,rfl,rfl,k l _ H .refl R (.int _)⟩
noncomputable def cQ:=kL λi j=>b4 (i-j)
noncomputable def CI:=kL λi j=>if((-(2^64)<i/\i<2^64)\/(-(2^64)<j/\j<2^64))\/(i.natAbs<2^4000/\j.natAbs<2^4000)\/Wv i+Wv j<=134217728 then b4 (i*j)else b6
noncomputable def cB:D->D->Hm->Option (D×Hm)
 |x,y,μ=>CI x y μ
noncomputable def cY:=kL λi j=>if 0<j/\j<2^4000 then b4 (i/j)else b6
noncomputable def aV:=kL λi j=>if 0<j then b4 (i%j)else b6
noncomputable def CMulB(i j:Int):Prop:=CMul i j\/(i.natAbs<2^4000/\j.natAbs<2^4000)\/Wv i+Wv j<=134217728
noncomputable def CJ(i j:Int):Prop:=0<j/\j<2^4000
theorem CK{i:Int}(h:i.natAbs<2^4000):Wv i<=4000:=by
 unfold Wv;split
 ·exact Yb _
 ·rename_i b;have a:i.natAbs≠0:=by intro z;exact b (by simpa using z)
  have:=(a6l a).mpr h;omega
theorem CMulB.ok{i j:Int}(h:CMulB i j):a4I i j:=by
 rcases h with h|⟨b,c⟩|h
 ·exact h.ok
 rotate_left
 ·have a:Zi (Wv i+Wv j)=false:=by
   unfold Zi;rw[decide_eq_false];have:bitsLine=134217728:=by decide
   omega
  unfold a4I;rw[a];simp
 ·have d:=CK b;have e:=CK c;have a:Zi (Wv i+Wv j)=false:=by
   unfold Zi;rw[decide_eq_false];have:(8000:Int)<=bitsLine:=by decide
   omega
  unfold a4I;rw[a];simp
section
variable{X:Cx}
theorem KU:OpR X (Zp .Mult) (rI CMulB λi j=>.int (i*j)):=wG λ_ _ _ _ _ _ _ hc q=>a6a q hc.ok
theorem KW:OpR X (Zp .FloorDiv) (rI CJ λi j=>.int (i/j)):=wG λi j _ _ _ _ _ hc q=>by
 have c:(0:Int)<j:=hc.1;have d:j<2^4000:=hc.2;have a:j.natAbs≠0:=by omega
 have b:j.natAbs<2^4000:=by
  have:((2^4000:Nat):Int)=2^4000:=by decide
  omega
 have e:=(a6l a).mpr b;exact a6d (by omega) (by rw[Int.fdiv_eq_ediv_of_nonneg i (by omega)];exact q) (.inl (PyProof.noPylong_of_log2 (by omega)))
end
theorem xI{c:Prop} [Decidable c] {a z:Int}(h:(if c then b4 a else b6)=b4 z):c/\z=a:=by
 split at h
 ·cases h;exact⟨by assumption,rfl⟩
 ·cases h
theorem KY:cX K cQ (gH λi j=>.int (i-j)):=KS
theorem KZ:cX K CI (rI CMulB λi j=>.int (i*j)):=xH λi j z h=>by have:=xI h;exact this
theorem K0:cX K cB (rI CMulB λi j=>.int (i*j)):=KZ
theorem K1:cX K cY (rI CJ λi j=>.int (i/j)):=xH λi j z h=>by have:=xI h;exact this
theorem K2:cX K aV (rI (λ_ j=>0<j) λi j=>.int (i%j)):=xH λ_ _ _ h=>xI h
noncomputable def xJ:D->Option D
 |.int i=>b4 (.int (-i))|_=>b6
noncomputable def bC:D->D->Hm->Option (D×Hm)
 |.int i,.int j,μ=>b4 (.int (i+j),μ)|.str x,.str y,μ=>if x.length+y.length<=VW then b4 (.str (x++y),μ)else b6|.loc a,.loc b,μ=>match μ[a]?,μ[b]? with
  |some (.lst xs),b4 (.lst ys)=>if xs.length+ys.length<=VW then b4 (.loc μ.length,μ++[.lst (xs++ys)])else b6|_,_=>b6
 |_,_,_=>b6
noncomputable def xK(K:VG):R2:=λx y H Q=>gH (λi j=>.int (i+j)) x y H Q\/(∃i j,x=.str i/\y=.str j/\i.length+j.length<=VW/\Q (.str (i++j)) H)\/B5 x y H Q
theorem K3{X:Cx}:OpR X (Zp .Add) (xK X.K):=op_add.or (op_add_str.or JI)
noncomputable abbrev xM(K:VG):R2:=xK K
theorem K4{X:Cx}:OpR X (Zp .Add) (xM X.K):=K3
theorem xN{K:VG}{x y:V}{H:Hp}{Q:VK}(h:xK K x y H Q):xM K x y H Q:=h
theorem K5:cX K bC (xM K):=by
 intro r H G x y d A B E Q R c e a k;unfold bC at a;split at a
 ·cases a;cases c;cases e;exact xN (.inl ⟨_,_,rfl,rfl,k r _ H .refl R (.int _)⟩)
 ·split at a
  ·rename_i b;cases a;cases c;cases e;exact xN (.inr (.inl ⟨_,_,rfl,rfl,b,k r _ H .refl R (.str _)⟩))
  ·cases a
 ·split at a
  ·rename_i n o v w;split at a
   ·rename_i b;cases a;cases c;cases e;obtain⟨l,h,i⟩:=R.lst _ n v;obtain⟨m,u,j⟩:=R.lst _ o w;refine xN (.inr (.inr ⟨_,_,l,m,rfl,rfl,by first|exact h|exact .inl (.inl h),u,by rw[i.length,j.length];exact b,λp z=>?_⟩));obtain⟨s,R2,q⟩:=R.alloc (c:=.lst (n++o)) (o:=.lst (l++m)) z (i.append j);exact k _ _ _ s R2 lV
   ·cases a
  ·cases a
 ·cases a
noncomputable def fV(p:Int->Int->Bool):D->D->Hm->Option (D×Hm)
 |.int i,.int j,μ=>b4 (.bl (p i j),μ)|_,_,_=>b6
theorem hZ{p:Int->Int->Bool}:cX K (fV p) (gH λi j=>.bl (p i j)):=by
 intro h H n x y d e l m Q R b c a k;unfold fV at a;split at a
 ·cases a;cases b;cases c;exact⟨_,_,rfl,rfl,k h _ H .refl R (.bl _)⟩
 ·cases a
noncomputable def dD:=fV λi j=>decide (i<j)
noncomputable def nH:=fV λi j=>decide (i<=j)
noncomputable def lX:=fV λi j=>decide (j<i)
noncomputable def pY:=fV λi j=>decide (j<=i)
noncomputable def xO(K:VG)(ne:Bool):R2:=λx y H Q=>∃π a c d b,Rp K π H a/\IsD K π a.length H x c/\IsD K π a.length H y d/\cS 8 a c d=b4 b/\Q (.bl (if ne then !b else b)) H
theorem CL{X:Cx}(c:X.A.units+8<Xs):OpR X (W6 .Eq) (xO X.K b7):=by intro a s r H x y v u Q I j l h;obtain⟨p,o,m,n,b,R,d,i,e,q⟩:=h;exact(CG I R 8 c j l d i e).1 _ _ _ _ ⟨.bl b,H,I,rfl,q⟩
theorem CM{X:Cx}(c:X.A.units+8<Xs):OpR X (W6 .NotEq) (xO X.K b8):=by intro a s r H x y v u Q I j l h;obtain⟨p,o,m,n,b,R,d,i,e,q⟩:=h;exact(CG I R 8 c j l d i e).2 _ _ _ _ ⟨.bl (!b),H,I,rfl,q⟩
noncomputable def aY(ne:Bool):D->D->Hm->Option (D×Hm):=λx y a=>(cS 8 a x y).map λb=>(.bl (if ne then !b else b),a)
theorem sM{ne:Bool}:cX K (aY ne) (xO K ne):=by intro a H l x y d m n o Q R i j h k;obtain⟨b,c,e⟩:=VJ.mp h;cases e;exact⟨a,l,x,y,b,R,i,j,c,k a _ H .refl R (.bl _)⟩
noncomputable def xP:D->D->Hm->Option (D×Hm)
 |.str i,.str j,μ=>b4 (.bl (!(Xo j i 0 j.length 1).isEmpty),μ)|_,_,_=>b6
theorem CN:cX K xP (λx y H Q=>∃i j,x=.str i/\y=.str j/\Q (.bl (!(Xo j i 0 j.length 1).isEmpty)) H):=by
 intro h H n x y d e l m Q R b c a k;unfold xP at a;split at a
 ·cases a;cases b;cases c;exact⟨_,_,rfl,rfl,k h _ H .refl R (.bl _)⟩
 ·cases a
end
section
variable{X:Cx}{a b c:Expr}{ma mb mc:ME}{pos:Xq}
theorem sN{k:Nat}{A:Wh}(r:Room k A):A.units+8<Xs:=by have:=r.un;omega
theorem K6(u:PE X a (tM X.K ma)):PE X (.UnaryOp .USub a pos) (tM X.K (λl h=>(ma l h).bind λp=>(xJ p.1).map λd=>(d,p.2))):=dC (IB IE u) (by
 rintro G H Q ⟨A,l,h,d,w,R,E,e,k⟩;obtain⟨⟨x,z⟩,r,e⟩:=VF.mp e;obtain⟨y,m,s⟩:=VJ.mp e;cases s;cases x with
 |int i=>cases m;refine⟨A,l,h,_,_,R,E,r,λj B n q o v=>?_⟩;cases v;exact⟨_,rfl,k j _ n q o (.int _)⟩
 |_=>cases m)
theorem K7{x:Str}{n:String}(d:Gl X x)(e:X.mg x=b6)(i:XB x=b4 (.type n))(h:x ≠ "__name__":=by decide) (hd:(x==("__debug__":Str))=false:=by decide):PE X (.Name x pos) (tM X.K (mC (.ty n))):=
 nD (Hu (v:=.ty n) d e i rfl h hd) λ_ _ _=>.ty n
end
noncomputable def sO(b:Hm):D->Option String
 |.non=>b4 "NoneType"|.bl _=>b4 "bool"|.int _=>b4 "int"|.str _=>b4 "str"|.tup _=>b4 "tuple"|.rol _=>b4 "list"|.loc a=>match b[a]? with
  |some (.lst _)=>b4 "list"|some (.dK _)=>b4 "dict"|some (.dT _)=>b4 "dict"|_=>b6
 |.ty _=>b6
noncomputable def sP(t c:String):Option Bool:=match c with
 | "int"=>b4 (t=="int" || t=="bool")| "bool"=>b4 (t=="bool")| "str"=>b4 (t=="str")| "list"=>b4 (t=="list")| "tuple"=>b4 (t=="tuple")| "dict"=>b4 (t=="dict")|_=>b6
noncomputable def fN:MF:=λds a=>match ds with
 |[x,.ty c]=>(sO a x).bind λt=>(sP t c).map λb=>(.bl b,a)|_=>b6
theorem jW (K:VG){t c:String}{b:Bool}(d:t = "NoneType"\/t = "bool"\/t = "int"\/t = "str"\/t = "tuple"\/t = "list"\/t = "dict") (h:sP t c=b4 b):a1z K (.type t) (.type c)=b4 b:=by
 unfold sP at h
 split at h<;>first
  | cases h;done
  | (have a:=VY h;subst a
     rcases d with rfl|rfl|rfl|rfl|rfl|rfl|rfl<;>first|rfl|decide +kernel|(unfold a1z;simp;rfl))
end L3
namespace L3
open PySem L2
noncomputable abbrev MG:=D->aE->Hm->Option aE
inductive tMG (K:VG)(g:MG)(v:V)(σ:St)(H:Hp)(Q:St->Hp->Prop):Prop
 |mk (π:Nat->Addr)(ρ:aE)(μ:Hm)(d:D)(ρ':aE)(R:Rp K π H μ)(E:En K π μ.length H σ ρ)(i:IsD K π μ.length H v d)(hm:g d ρ μ=b4 ρ')(k:∀σ',En K π μ.length H σ' ρ'->Q σ' H):tMG K g v σ H Q
noncomputable def cN(i:Nat):MG:=λd a _=>b4 (a.set i (b4 d))
section
variable{X:Cx}{pos:Xq}
theorem CO{i:Nat}{x:Str}(b:X.N.Nodup)(e:X.N[i]?=b4 x)(l:Loc X.env.scope x)(c:X.fn x=b8\/X.env.scope.names.lookup x=b4 .local:=by first|exact .inl rfl|exact .inr rfl|assumption):PG X (.Name x pos) (tMG X.K (cN i)):=by intro a s n H v u Q I r h;obtain⟨p,q,o,d,m,R,E,hd,j,k⟩:=h;cases j;exact Bt b e l c a s n H v u Q I r (k _ (E.set hd i))
noncomputable def K8(K:VG)(c:TE):TI:=λσ H R=>c σ H λx b=>∃a,x=.ref a/\(((∃xs,SqL K b a xs)/\R (wB K a) b)\/((∃xs,SqT K b a xs)/\R (wC K a) b))
theorem K9{l tg:Expr}{u:TE}(w:PE X l u):PI X tg l (K8 X.K u):=by
 intro j s G H R I h;refine aM (w j s G H _ I h) λv c ⟨x,r,d,A,z⟩=>?_;obtain⟨a,e,q⟩:=z;subst e;cases A;rcases q with⟨⟨E,n⟩,q⟩|⟨⟨E,n⟩,q⟩
 ·obtain⟨i,B,p,y⟩:=d.list n;refine a0q p.isList ?_;refine⟨c.heap.objs.size,[c.heap.objs.size],_,_,r,rfl,d.kept (t':=c.toks) λb o e=>VM _ e,Il a _,⟨_,VX _ rfl,rfl,rfl⟩,λb m=>?_,q⟩;have e:b=c.heap.objs.size:=by simpa using m
  subst e;exact d.fpOk (VS _) (d.hok.fresh (VS _))
 ·obtain⟨i,B,p,y⟩:=d.tuple n;refine YJ (show c.heap.IsTuple a i.toArray from p) ?_;refine⟨c.heap.objs.size,[c.heap.objs.size],_,_,r,rfl,d.kept (t':=c.toks) λb o e=>VM _ e,Im a _,⟨_,VX _ rfl,rfl,rfl⟩,λb m=>?_,q⟩;have e:b=c.heap.objs.size:=by simpa using m
  subst e;exact d.fpOk (VS _) (d.hok.fresh (VS _))
end
structure Wk(K:VG)(J:It)(src:Hm->Nat->Option (Option D))(π:Nat->Addr)(n:Nat)(H:Hp):Prop where
 stop:∀π' μ H' i,Ext π n H π' μ.length H'->Rp K π' H' μ->src μ i=b4 b6->J.stop i H'
 go:∀π' μ H' i d,Ext π n H π' μ.length H'->Rp K π' H' μ->src μ i=b4 (b4 d)->J.go i H'/\∀x H2,J.yld i H' x H2->Ext π' μ.length H' π' μ.length H2/\Rp K π' H2 μ/\IsD K π' μ.length H2 x d
noncomputable def jX(x:D):Hm->Nat->Option (Option D):=λa i=>(bF a x).map λxs=>xs[i]?
theorem La{K:VG}{π:Nat->Addr}{E:Hm}{H:Hp}{v:V}{x:D}{xs:List D}(R:Rp K π H E)(h:IsD K π E.length H v x)(G:bF E x=b4 xs) :
  ∃a,v=.ref a/\(((∃b,SqL K H a b)/\Wk K (wB K a) (jX x) π E.length H)\/((∃b,SqT K H a b)/\Wk K (wC K a) (jX x) π E.length H)):=by
 cases h with
 |@tup p b ds q t=>
  refine⟨p,rfl,.inr ⟨⟨b,q⟩,⟨λm l s i e n z=>?_,λm l s i d e n z=>?_⟩⟩⟩
  ·simp only[jX,bF,Wu]at z;have j:ds[i]?=none:=VY z;exact⟨b,e.sqT q,by rw[t.length];exact Ws.mp j⟩
  ·simp only[jX,bF,Wu]at z;have j:ds[i]?=b4 d:=VY z;obtain⟨w,c,o⟩:=t.get j;refine⟨⟨b,w,e.sqT q,c⟩,λy L ⟨u,A⟩=>?_⟩;subst u;have:=A b (e.sqT q);rw[c]at this;cases this;exact⟨.refl,n,o.mono e⟩
 |@rol p b ds q t=>
  refine⟨p,rfl,.inl ⟨⟨b,q.sq⟩,⟨λm l s i e n z=>?_,λm l s i d e n z=>?_⟩⟩⟩
  ·simp only[jX,bF,Wu]at z;have j:ds[i]?=none:=VY z;exact⟨b,(e.roL q).sq,by rw[t.length];exact Ws.mp j⟩
  ·simp only[jX,bF,Wu]at z;have j:ds[i]?=b4 d:=VY z;obtain⟨w,c,o⟩:=t.get j;refine⟨⟨b,w,(e.roL q).sq,c⟩,λy L ⟨u,A⟩=>?_⟩;subst u;have:=A b (e.roL q).sq;rw[c]at this;cases this;exact⟨.refl,n,o.mono e⟩
 |@loc a N=>
  have hc:∃b,H (π a)=b4 (.lst b):=by
   simp only[bF]at G;split at G
   ·rename_i r B;obtain⟨b,c,_⟩:=R.lst a r B;exact⟨b,c⟩
   ·cases G
  obtain⟨J,I⟩:=hc;refine⟨π a,rfl,.inl ⟨⟨J,.of I⟩,⟨λm l s i e n z=>?_,λm l s i d e n z=>?_⟩⟩⟩
  ·simp only[jX,bF]at z;split at z
   ·rename_i r B;obtain⟨b,c,o⟩:=n.lst a r B;rw[e.pi a N]at c;have j:r[i]?=none:=VY z;exact⟨b,.of c,by rw[o.length];exact Ws.mp j⟩
   ·cases z
  ·simp only[jX,bF]at z;split at z
   ·rename_i r B;obtain⟨b,c,o⟩:=n.lst a r B;rw[e.pi a N]at c;have j:r[i]?=b4 d:=VY z;obtain⟨w,M,O⟩:=o.get j;refine⟨⟨b,w,.of c,M⟩,λy L ⟨u,A⟩=>?_⟩;subst u;have:=A b (.of c);rw[M]at this;cases this;exact⟨.refl,n,O⟩
   ·cases z
 |_=>cases G
noncomputable def fB(a:Hm->Nat->Option (Option D))(g:MG)(b:MS):Nat->Nat->MS
 |0,_,_,_=>b6|n+1,i,ρ,μ=>(a μ i).bind λo=>match o with
  |none=>b4 (.nx,ρ,μ)|some d=>(g d ρ μ).bind λc=>(b c μ).bind λp=>match p.1 with
   |.nx=>fB a g b n (i+1) p.2.1 p.2.2|.ct=>fB a g b n (i+1) p.2.1 p.2.2|.bk=>b4 (.nx,p.2.1,p.2.2)|.rt d=>b4 (.rt d,p.2.1,p.2.2)
theorem Lb{K:VG}{J:It}{A:Hm->Nat->Option (Option D)}{g:MG}{b:MS}{π:Nat->Addr}{O:Nat}{M:Hp}(W:Wk K J A π O M){E:Ends}{z:Fl}{l:aE}{μ':Hm}(hE:lT K E π O M z l μ')
  {B:Nat->Addr}{s:Hm}{H1:Hp}{R:aE}{σ1:St}{n:Nat}(e1:Ext π O M B s.length H1)(R1:Rp K B H1 s)(E1:En K B s.length H1 σ1 R)(h:fB A g b n 0 R s=b4 (z,l,μ')) :
  ∃Wd:Nat->Nat->St->Hp->Prop,(∃m,Wd 0 m σ1 H1)/\∀i m U H,Wd i m U H->
   (J.stop i H/\E.nx U H)\/(J.go i H/\∃N:St->Hp->Prop,(∀v r,N v r->∃m',m'<m/\Wd (i+1) m' v r)/\∀x r,J.yld i H x r->tMG K g x U r λσ2 Z=>tMS K b {E with nx:=N,ct:=N,bk:=E.nx} σ2 Z):=by
 have lift:∀{a:Nat->Addr}{n2:Nat}{Z:Hp}(e:Ext π O M a n2 Z){z:Fl}{l:aE}{μ':Hm},lT K E π O M z l μ'->lT K E a n2 Z z l μ':=λ{a n2 Z} e {z l μ'} k=>by
  cases z with
  |nx=>exact λu q H3 e3 R3 L=>k u q H3 (e.trans e3) R3 L|bk=>exact λu q H3 e3 R3 L=>k u q H3 (e.trans e3) R3 L|ct=>exact λu q H3 e3 R3 L=>k u q H3 (e.trans e3) R3 L|rt d=>exact KC.after k e
 refine⟨λi m U H=>∃a j G,Ext π O M a j.length H/\Rp K a H j/\En K a j.length H U G/\fB A g b m i G j=b4 (z,l,μ'),⟨n,B,s,R,e1,R1,E1,h⟩,?_⟩;rintro i m U H ⟨a,j,G,w,R2,E2,h2⟩;cases m with
 |zero=>cases h2|succ m=>
  obtain⟨o,h3,h4⟩:=VF.mp h2;cases o with
  |none=>cases h4;exact .inl ⟨W.stop a _ H i w R2 h3,hE a U H w R2 E2⟩|some d=>
   obtain⟨g1,g2⟩:=W.go a j H i d w R2 h3;obtain⟨ρ3,h5,h6⟩:=VF.mp h4;obtain⟨⟨f4,T,Q⟩,h7,h8⟩:=VF.mp h6;refine .inr ⟨g1,λv r=>∃c I p,Ext π O M c p.length r/\Rp K c r p/\En K c p.length r v I/\fB A g b m (i+1) I p=b4 (z,l,μ'),
    λv r ⟨c,I,p,a1,a2,a3,a4⟩=>⟨m,XU _,c,p,I,a1,a2,a3,a4⟩,λx r y=>?_⟩
   obtain⟨ex,Rx,hx⟩:=g2 x r y;have w:=w.trans ex;refine⟨a,G,j,d,ρ3,Rx,E2.mono ex,hx,h5,λq L=>⟨a,ρ3,j,f4,T,Q,Rx,L,h7,?_⟩⟩;cases f4 with
   |nx=>exact λc X H5 e5 R5 Y=>⟨c,T,Q,w.trans e5,R5,Y,h8⟩|ct=>exact λc X H5 e5 R5 Y=>⟨c,T,Q,w.trans e5,R5,Y,h8⟩|bk=>cases h8;exact λc X H5 e5 R5 Y=>hE c X H5 (w.trans e5) R5 Y|rt d'=>cases h8;exact KC.after hE w
section
variable{X:Cx}{pos:Xq}{tg iter:Expr}{body:List Stmt}{mi:ME}{g:MG}{mb:MS}
noncomputable def iK(lo:Int)(n:Nat):Hm->Nat->Option (Option D):=λ_ i=>b4 (if i<n then b4 (.int (lo+i))else b6)
theorem CP{K:VG}{lo:Int}{k:Nat}{π:Nat->Addr}{n:Nat}{H:Hp}:Wk K (kG lo k) (iK lo k) π n H:=by
 refine⟨λb m c i e R z=>?_,λb m c i d e R z=>?_⟩
 ·have a:=VY z;split at a
  ·cases a
  ·exact ZL.mp (by assumption)
 ·have a:=VY z;split at a
  ·cases a;rename_i h;exact⟨h,λx o ⟨j,l⟩=>by subst j;rw[l];exact⟨.refl,R,.int _⟩⟩
  ·cases a
end
end L3
namespace L3
open PySem L2
noncomputable def nJ(y:Str):Str:="#"++y
noncomputable def bD(xs N:List Str):List Str:=N.map λy=>if xs.contains y then nJ y else y
theorem lY(xs N:List Str):(bD xs N).length=N.length:=by unfold bD;simp
theorem Lc{xs N:List Str}{i:Nat}{y:Str}(h:(bD xs N)[i]?=b4 y):∃a,N[i]?=b4 a/\((xs.contains a=b8/\y=nJ a)\/(xs.contains a=b7/\y=a)):=by
 unfold bD at h;rw[V5]at h;obtain⟨a,c,b⟩:=VJ.mp h;refine⟨a,c,?_⟩;cases hc:xs.contains a with
 |true=>rw[hc]at b;exact .inl ⟨rfl,by simpa using b.symm⟩|false=>rw[hc]at b;exact .inr ⟨rfl,by simpa using b.symm⟩
noncomputable def cG(X:Cx)(scope:Yj)(a:List (Str×Addr))(C:Addr)(N:List Str)(s₀:VL)(H₀:Hp)(b:List Addr):Cx:=
 {X with N:=N,s₀:=s₀,H₀:=H₀,env:=ZI scope a C X.env,outer:=X.stack,stack:=X.stack,ex:=b,fn:=λ_=>b7,pn:=[],xe:=λ_ _=>False}
theorem CQ{env:a0k}:∀(names:List (Str×Yp))(x:Str),(names.map λ(n,k)=>if(k==X3&&env.scope.kind==.function&&env.kindOf n==b4 .cell)then(n,Yk)else(n,k)).lookup x
  = (names.lookup x).map λk=>if(k==X3&&env.scope.kind==.function&&env.kindOf x==b4 .cell)then Yk else k
 |[],_=>rfl|(n,k)::r,x=>by
  have d:=CQ (env:=env) r x;rw[V0];by_cases c:x=n
  ·subst c;have a:∀(k':Yp)(l:List (Str×Yp)),ZO x ((x,k')::l)=b4 k':=λk' l=>by simp[ZF]
   rw[a];show ZO x ((if(k==X3&&env.scope.kind==.function&&env.kindOf x==b4 .cell)=b8 then(x,Yk)else(x,k))::_)=b4 (if(k==X3&&env.scope.kind==.function&&env.kindOf x==b4 .cell)=b8 then Yk else k);split
   ·rw[a]
   ·rw[a]
  ·have b:(x==n)=false:=by simpa using c
   have a:∀(k':Yp)(l:List (Str×Yp)),ZO x ((n,k')::l)=ZO x l:=λk' l=>by simp only[ZF,b]
   rw[a];show ZO x ((if(k==X3&&env.scope.kind==.function&&env.kindOf n==b4 .cell)=b8 then(n,Yk)else(n,k))::_)=_;split
   ·rw[a];exact d
   ·rw[a];exact d
structure CompOk(X:Cx)(scope:Yj)(cl:List (Str×Addr))(xs:List Str):Prop where
 clos:a4W scope X.env=pure cl
 nocell:∀y∈scope.names,y.2≠.cell
 kind:scope.kind=.function
 names:∀y∈scope.names,y.2=.local->scope.names.lookup y.1=b4 .local
 here:∀x∈xs,scope.names.lookup x=b4 .local
 sub:∀y c,cl.lookup y=b4 c->X.env.cells.lookup y=b4 c
 free:∀y,scope.names.lookup y=b4 .free->(X.env.kindOf y=b4 .cell\/X.env.kindOf y=b4 .free)/\∃c,cl.lookup y=b4 c
 own:∀y,scope.names.lookup y=b4 .local->y∉bD xs X.N
 hidn:∀y∈X.N,xs.contains y=b8->scope.names.lookup (nJ y)=b6
section
variable{X:Cx}{scope:Yj}{cl:List (Str×Addr)}{xs:List Str}
theorem CompOk.kindOf(O:CompOk X scope cl xs)(C:Addr)(y:Str):(ZI scope cl C X.env).kindOf y=(scope.names.lookup y).map λk=>if(k==X3&&X.env.scope.kind==.function&&X.env.kindOf y==b4 .cell)then Yk else k:=
 CQ scope.names y
theorem CompOk.outer(O:CompOk X scope cl xs){C:Addr}{y:Str}(h:(ZI scope cl C X.env).kindOf y=b4 .cell\/(ZI scope cl C X.env).kindOf y=b4 .free):scope.names.lookup y=b4 .free:=by
 rw[O.kindOf]at h;cases q:scope.names.lookup y with
 |none=>rw[q]at h;rcases h with h|h<;>cases h
 |some k=>
  rw[q]at h;cases k with
  |free=>rfl|cell=>exact absurd rfl (O.nocell _ (Xg q))| «local»=>rcases h with h|h<;>simp at h
  |globalExplicit=>rcases h with h|h<;>simp at h
  |globalImplicit=>rcases h with h|h<;>simp at h
theorem CompOk.inv{a6G:List (Addr×Obj)}{σ:St}{H:Hp}{s:VL}{Y:List Addr}{d:WI}{tk:Nat}(O:CompOk X scope cl xs)(I:Inv X a6G σ H s)(E:∀b∈Y,gG X a6G H b)(hob:∀b∈Y,∃o,s.heap.get? b=b4 o){m:Str->Option Value}
  (hns:d.Ns s.heap.objs.size m)(N:∀b o,s.heap.get? b=b4 o->d.get? b=b4 o) :
  Inv (cG X scope cl s.heap.objs.size (bD xs X.N++xs) s H Y) [] (σ++XJ xs.length b6) H {s with heap:=d,toks:=tk}:=by
 refine⟨⟨I.ok.mod,O.kind,I.ok.glob,I.ok.blt,VS _,λy z c Z B=>?_,λy hy=>?_,(λy c h=>by cases h),I.ok.hd,I.ok.frames,.inl rfl,λb J=>?_,λb o e=>I.bs b o e,WM I.ok.bsz I.sz,λb o e J=>?_,λb J hb2=>?_,I.stack,I.stkFree⟩,
  rfl,I.bare,Un.kept N,⟨m,hns,λi y v Z B x=>?_⟩,λy c h=>?_,I.hok.fresh (VS _),λy c h=>I.freeC y c (O.sub y c h),λp hp=>absurd (show p∈([]:List (Addr×Obj))from hp) (by simp),I.hok.kept N,?_⟩
 ·exact I.ok.inj y z c (O.sub y c Z) (O.sub z c B)
 ·exact(O.free y (O.outer hy)).2
 ·obtain⟨f0,R,T,A,U,f5⟩:=E b J;obtain⟨o,M⟩:=hob b J;exact⟨V4 (VR M),λy c h=>U y c (O.sub y c h)⟩
 ·obtain⟨f0,R,T,A,U,f5⟩:=E b J;rcases A with A|A
  ·exact I.ok.noex b o e A
  ·exact absurd (Wb (VR (I.ok.bs b o e).1) A) (Xp _)
 ·obtain⟨f0,R,T,A,U,f5⟩:=E b J;rcases Wr.mp (I.stkSub b hb2)with z|z
  ·exact R z
  ·exact T z
 ·have L:i<σ.length:=by
   by_cases L:i<σ.length
   ·exact L
   ·rw[XM (ZL.mp L),Yt]at B;split at B<;>cases B
  rw[Ww L]at B;have K:(bD xs X.N)[i]?=b4 y:=by have w:(bD xs X.N++xs)[i]?=b4 y:=Z;rw[Ww (by rw[lY,<- I.len];exact L)]at w;exact w
  have n:scope.names.lookup y≠b4 .local:=λz=>O.own y z (WO K);have G:=O.kindOf s.heap.objs.size y;have h1':X.N[i]?=b4 y:=by
   obtain⟨y0,q1,Q⟩:=Lc K;rcases Q with⟨Q,q3⟩|⟨Q,q3⟩
   ·exfalso;have hz:=O.hidn y0 (WO q1) Q;rw[<- q3]at hz;rw[hz]at G;have a:(ZI scope cl s.heap.objs.size X.env).kindOf y=b4 .local\/(ZI scope cl s.heap.objs.size X.env).kindOf y=b4 .cell\/(ZI scope cl s.heap.objs.size X.env).kindOf y=b4 .free:=x;rw[G]at a;rcases a with a|a|a<;>cases a
   ·rw[q3];exact q1
  have a:(ZI scope cl s.heap.objs.size X.env).kindOf y=b4 .cell\/(ZI scope cl s.heap.objs.size X.env).kindOf y=b4 .free:=by
   rcases x with x|x|x
   ·exfalso;have a:(ZI scope cl s.heap.objs.size X.env).kindOf y=b4 .local:=x;rw[G]at a;cases q:scope.names.lookup y with
    |none=>rw[q]at a;cases a|some k=>
     rw[q]at a;cases k with
     | «local»=>exact n q|cell=>simp at a|free=>simp only[Wu]at a;split at a<;>cases a|globalExplicit=>simp at a|globalImplicit=>simp at a
   ·exact .inl x
   ·exact .inr x
  obtain⟨j,c,hc⟩:=O.free y (O.outer a);obtain⟨m0,hn0,hl0⟩:=I.loc;obtain⟨u,r,l⟩:=hl0 i y v h1' B (by rcases j with j|j;exact .inr (.inl j);exact .inr (.inr j));refine⟨u,r,.inr ⟨a,c,hc,?_⟩⟩;rcases l with⟨lk,_⟩|⟨_,c',e',z⟩
  ·exfalso;rcases j with j|j
   ·rw[j]at lk;cases lk
   ·rw[j]at lk;cases lk
  ·rw[O.sub y c hc]at e';cases e';obtain⟨o,M,hd⟩:=z;exact⟨o,N c o M,hd⟩
 ·obtain⟨v,q⟩:=I.cell y c (O.sub y c h);exact⟨v,by obtain⟨o,M,hd⟩:=q;exact⟨o,N c o M,hd⟩⟩
 ·show(σ++XJ xs.length b6).length=(bD xs X.N++xs).length;rw[V1,V1,I.len,Yi,lY]
theorem CompOk.back{a6G pl:List (Addr×Obj)}{σ B:St}{H H':Hp}{s s1:VL}{i:List Addr}{h':WI}{N:List Str}(I:Inv X a6G σ H s)(p:∀b∈i,gG X a6G H b)
  (J:Inv (cG X scope cl s.heap.objs.size N s H i) pl B H' s1)(m:∀b o,b≠s.heap.objs.size->s1.heap.get? b=b4 o->h'.get? b=b4 o):Inv X a6G σ H' {s1 with heap:=h'}:=by
 have u:Un (dB X.stack) i H H' s.heap h':=by
  have h:Un (dB X.stack) i H H' s.heap s1.heap:=J.base;have ne:∀b o,s.heap.get? b=b4 o->b≠s.heap.objs.size:=λb o e=>V4 (VR e);refine⟨λb o e n j l=>m b o (ne b o e) (h.keep b o e n j l),λb o e n j l=>?_,h.free,λb o e l=>?_,h.tups,h.frzs,h.tbls⟩
  ·obtain⟨O,q⟩:=h.slot b o e n j l;exact⟨O,m b _ (ne b o e) q⟩
  ·obtain⟨M,q⟩:=h.there b o e l;exact⟨M,m b _ (ne b o e) q⟩
 have a:H' s.heap.objs.size=none:=J.free;have hok:HOk X.prog X.w H' h':=λb v e=>by
  refine(J.hok b v e).stay (λc w hc q=>m c w ?_ q) (λ_ q=>q) λ_ _ q=>q;rcases hc with z|z
  ·rw[z];intro A;rw[A,a]at e;cases e
  ·intro A;rw[A,a]at z;cases z
 have x:s1.os=s.os:=J.os;obtain⟨T,g,d,t,y⟩:=s1;obtain rfl:y=s.os:=x;have r:=Inv.call (X:=X) (a6G:=a6G) (σ:=σ) (H:=H) (s:=s) (h':=h') (g':=g) (d':=d) (t':=t) (ch:=i) I u hok J.bare λb j=>let⟨Q,E,R,G,K,L⟩:=p b j;⟨G,E,K,L⟩;exact r
end
theorem Ld{prog:V6}{w:Wj}{A:Wh}{R:a2l->VL->Prop}{s:VL}{elt a iter:Expr}{ifs:List Expr}{scope:Yj}{pos:Xq}{G u:Value}{env:a0k}(I:Nat->VL->Prop)
  (turn:∀n s,I n s->V2 (V8 prog w) A (YL G) (λr d=>match r with
   |none=>R (.ok .next) d
   |some v=>V2 (V8 prog w) A (a0M a G v) (λ_ e=>V2 (V8 prog w) A (a1y a env v) (λ_ o=>
     V2 (V8 prog w) A (forIn ifs b8 λc r=>if r=b8 then do let ok <- a3U c env (eval c env);pure (YX ok)else pure (YX r)) (λok i=>
      if ok=b8 then V2 (V8 prog w) A (eval elt env) (λx p=>
       V2 (V8 prog w) A (call (.builtin "list.append") [u,x]) (λ_ q=>∃m,m<n/\I m q) (λ_ _=>False) p) (λ_ _=>False) i
      else ∃m,m<n/\I m i) (λ_ _=>False) o) (λ_ _=>False) e) (λ_ _=>False) d) (λ_ _=>False) s)
  (n:Nat)(h:I n s) :
  Z2 (V8 prog w) A (.compLoop (.ListComp elt [⟨a,iter,ifs,0⟩] scope pos) 0 G u env) R s:=by
 refine codeAny_loop rfl I (λn s H=>?_) n h;show V2 _ A ((compTurn (.ListComp elt [⟨a,iter,ifs,0⟩] scope pos) 0 G u env).onRaise (λx=>do a2i x env;theTreesLotGoes x)) _ _ s;refine wpAny_noted ?_;rw[compTurn_list];refine VH (a0u (VH (WB (turn n s H) (λr d j=>?_) λ_ _ b=>b.elim)));cases r with
 |none=>exact VQ j|some v=>
  refine VH (WB j (λ_ e y=>?_) λ_ _ b=>b.elim);refine VH (WB y (λ_ o z=>VH (WB z (λok i l=>?_) λ_ _ b=>b.elim)) λ_ _ b=>b.elim);cases ok with
  |false=>exact VQ ⟨rfl,l⟩|true=>exact VH (VH (WB l (λx p B=>VH (WB B (λ_ q E=>VQ (VQ ⟨rfl,E⟩)) λ_ _ b=>b.elim)) λ_ _ b=>b.elim))
noncomputable def nK(b:Hm)(a:Nat)(y:D):Option Hm:=match b[a]? with
 |some (.lst xs)=>if xs.length<VW then b4 (b.set a (.lst (xs++[y])))else b6|_=>b6
noncomputable abbrev BD:=D->Hm->Option aE
noncomputable def nM:BD:=λd _=>b4 [b4 d]
noncomputable def jF(k:Nat):BD:=λd a=>(bF a d).bind λxs=>if xs.length=k then b4 (xs.map b4)else b6
noncomputable def gP(a:Hm->Nat->Option (Option D))(j:BD)(c:MT)(e:ME)(b:aE)(h:Nat):Nat->Nat->Hm->Option Hm
 |0,_,_=>b6|n+1,i,μ=>(a μ i).bind λo=>match o with
  |none=>b4 μ|some d=>(j d μ).bind λx=>(c (b++x) μ).bind λp=>match p.1 with
   |true=>(e (b++x) p.2).bind λq=>(nK q.2 h q.1).bind λl=>gP a j c e b h n (i+1) l|false=>gP a j c e b h n (i+1) p.2
noncomputable def dU:MT:=λ_ a=>b4 (b8,a)
noncomputable def lZ(X:Cx)(ifs:List Expr)(m:MT):Prop:=
 ∀(a6G:List (Addr×Obj))(s:VL)(σ:St)(H:Hp)(Q:Bool->Hp->Prop),Inv X a6G σ H s->tMT X.K m σ H Q->
  V2 (V8 X.prog X.w) X.A (forIn ifs b8 λc r=>if r=b8 then do let ok <- a3U c X.env (eval c X.env);pure (YX ok)else pure (YX r)) (TP X a6G σ Q) X.xe s
theorem Le{X:Cx}:lZ X [] dU:=by intro a s l H Q I h;obtain⟨e,j,i,b,d,R,E,c,k⟩:=h;cases c;exact wpAny_tests_nil ⟨H,I,k e H .refl R⟩
theorem Lf{X:Cx}{c:Expr}{m:MT}(h:PT X c (tMT X.K m)):lZ X [c] m:=λa6G s σ H Q I q=>wpAny_tests_one (h a6G s σ H Q I q)
end L3
namespace L3
open PySem L2
section
variable{prog:V6}{w:Wj}{A:Wh}{E:Value->VL->Prop}{s:VL}
theorem CS{e t:Addr}{items:Array Value}(j:t≠e):∀(n i:Nat)(s:VL)(Q:List Value->VL->Prop),s.heap.IsListIter e t i->s.heap.IsList t items->i+n<=items.size->
  (∀m,m.IsListIter e t (i+n)->Zw e s.heap m->Q ((items.toList.drop i).take n) {s with heap:=m})->V2 (V8 prog w) A (draw (.ref e) n) Q E s
 |0,i,s,Q,hit,_,_,hQ=>by show V2 _ _ (pure []) Q E s;exact VQ (by simpa using hQ s.heap hit (a2o ..))
 |n+1,i,s,Q,hit,ht,hle,hQ=>by
  have h:i<items.size:=by omega
  show V2 _ _ (YL (.ref e) >>= _) Q E s;refine VH (a3O hit ht (x:=items[i]) (by simp[h]) λo b a=>?_);refine VH (WN (CS j n (i+1) _ _ b (ht.extBut a.extBut j) (by omega) λl c d=>VQ ?_));have hd:items.toList.drop i=items[i]::items.toList.drop (i+1):=by simp[a0b,h]
  have:=hQ l (by rw[show i+(n+1)=i+1+n by omega];exact c) (a.trans d);rw[hd,List.take_succ_cons]at this;exact this
theorem Lg{t:Addr}{items:Array Value}{Q:List Value->VL->Prop}(u:A.handled=b6)(l:s.heap.IsList t items)
  (r:∀p,a0H s.heap.objs.size s.heap p->Q items.toList {s with heap:=p}):V2 (V8 prog w) A (unpackItems (.ref t) items.size b6) Q E s:=by
 have j:t≠s.heap.objs.size:=by obtain⟨o,v,_⟩:=l;exact V4 (VR v)
 unfold unpackItems;refine VH ?_
 ·unfold notIterableAtAll;refine VH (a5U l.typeIs slot_list_iter.lookup ?_);refine VQ ?_;simp only[Wq,if_false];refine VH (WN (a0q l ?_));refine VH (WN (CS j items.size 0 _ _ ⟨_,VX _ rfl,rfl,rfl⟩ (l.push _) (by omega) λm c a=>?_));have i:List.take items.size (List.drop 0 items.toList)=items.toList:=by rw[a1Z];exact Zu (by simp)
  rw[i];rw[if_neg (by simp)];have h:m.IsList t items:=(l.push _).extBut a.extBut j;refine VH (WN (a4n u c h (by simp) λn d=>?_));simp only[Option.isSome_none,Wq,if_false];refine VQ (r n λb o q e=>d b o q (a.extBut b o q (VM _ e)))
theorem Lh{env:a0k}{a:List Expr} {x1} {pos:Xq}{t:Addr}{items:Array Value}{Q:Unit->VL->Prop}(d:A.handled=b6)(i:s.heap.IsList t items)
  (e:(X8 a env).length=items.size)(b:(X8 a env).findIdx? (·.1)=b6)
  (h:∀c,a0H s.heap.objs.size s.heap c->V2 (V8 prog w) A (assignInOrder ((X8 a env).map (·.2)) items.toList) Q E {s with heap:=c}) :
  V2 (V8 prog w) A (a1y (.Tuple a x1 pos) env (.ref t)) Q E s:=by
 rw[a6k];refine VH (a0u ?_);unfold unpack;rw[e,b];exact VH (WN (Lg d i h))
end
noncomputable def l6:aE->List Nat->List D->aE
 |ρ,i::is,x::xs=>l6 (ρ.set i (b4 x)) is xs|ρ,_,_=>ρ
noncomputable def iL(a:List Nat):MG:=λd c b=>(bF b d).bind λxs=>if xs.length=a.length then b4 (l6 c a xs)else b6
noncomputable def sQ:List Nat->m3
 |[]=>Bu|i::r=>Bv (v9 i) (sQ r)
theorem xQ{K:VG}{π:Nat->Addr}{n:Nat}{H:Hp}:∀(a:List Nat){vs:List V}{xs:List D}{σ:St}{c:aE}{Q:St->Hp->Prop},IsDs K π n H vs xs->En K π n H σ c->xs.length=a.length->(∀b,En K π n H b (l6 c a xs)->Q b H)->sQ a vs σ H Q
 |[],vs,xs,σ,c,Q,h,E,hl,k=>by
  cases h with
  |nil=>exact⟨rfl,k σ E⟩|cons h t=>cases hl
 |i::a,vs,xs,σ,c,Q,h,E,hl,k=>by
  cases h with
  |nil=>cases hl|cons h t=>exact⟨_,_,rfl,xQ a t (E.set h i) (by simpa using hl) k⟩
section
variable{X:Cx}{pos:Xq}
theorem Li{es:List Expr}{k:Nat}{m:List Nat}(hc:X.calm=b8)(h:pN X es (sQ m))(M:(X8 es X.env).length=m.length:=by rfl)(w:(X8 es X.env).findIdx? (·.1)=none:=by rfl) :
  PG X (.Tuple es k pos) (tMG X.K (iL m)):=by
 intro j s z H v u Q I r hw;obtain⟨T,ρ,O,d,ρ',R,E,hd,Z,N⟩:=hw;obtain⟨L,l,G⟩:=VF.mp Z;split at G
 ·rename_i y;cases G;have p:(∃a i,v=.ref a/\SqT X.K H a i/\IsDs X.K T O.length H i L)\/(∃a i,v=.ref a/\SqL X.K H a i/\IsDs X.K T O.length H i L):=by
   cases hd with
   |tup q t=>cases l;exact .inl ⟨_,_,rfl,q,t⟩|rol q t=>cases l;exact .inr ⟨_,_,rfl,q.sq,t⟩|@loc a ha=>
    simp only[bF]at l;split at l
    ·rename_i ys hy;cases l;obtain⟨i,U,Y⟩:=R.lst a L hy;exact .inr ⟨_,i,rfl,.of U,Y⟩
    ·cases l
   |_=>cases l
  rcases p with⟨a,i,rfl,q,t⟩|⟨a,i,rfl,q,t⟩
  ·cases r;obtain⟨n,x,J,hz⟩:=I.tuple q;have c:n.length=m.length:=by rw[<- x.length,t.length];exact y
   refine a6j (I.ok.hd hc) J (by simp[M,c]) w λB K=>?_;have A:Inv X j z H {s with heap:=B}:=I.kept (t':=s.toks) λb o e=>K b o (V4 (VR e)) e;exact h j _ z H i _ Q A (by simpa using x) (xQ m t E y N)
  ·cases r;obtain⟨n,x,J,hz⟩:=I.list q;have c:n.length=m.length:=by rw[<- x.length,t.length];exact y
   refine Lh (I.ok.hd hc) J.isList (by simp[M,c]) w λB K=>?_;have A:Inv X j z H {s with heap:=B}:=I.kept (t':=s.toks) λb o e=>K b o (V4 (VR e)) e;exact h j _ z H i _ Q A (by simpa using x) (xQ m t E y N)
 ·cases G
noncomputable def kM(m:ME)(g:MG):MS:=λb c=>(m b c).bind λp=>(g p.1 b p.2).map λa=>(.nx,a,p.2)
theorem Lj{tg e:Expr}{m:ME}{g:MG}(q:PE X e (tM X.K m))(r:PG X tg (tMG X.K g))(s:swapsWithSole [tg] e pos.line X.env=pure false:=by rfl)(hw:a3q [tg] e X.env=pure none:=by rfl)
  (h1:(X8 [tg] X.env).map (·.2)=[a1y tg X.env]:=by rfl):PS X (.Assign [tg] e pos) (tMS X.K (kM m g)):=iJ (Ih q r s hw h1) (by
 rintro E I H ⟨y,l,v,B,z,w,R,h,a,k⟩;obtain⟨⟨x,c⟩,h1,a⟩:=VF.mp a;obtain⟨A,p,a⟩:=VJ.mp a;cases a;exact⟨y,l,v,x,c,R,h,h1,λb G o j i u=>⟨b,l,_,x,_,i,h.mono j,u,p,λd n=>k b d o j i n⟩⟩)
end
section
variable{X:Cx}{K:VG}
noncomputable def pZ:MF:=λds a=>match ds with
 |[.str z]=>if z.length<=VW then b4 (.int z.length,a)else b6|[x]=>(bF a x).map λb=>(.int b.length,a)|_=>b6
noncomputable def xR(K:VG):List V->Hp->VK->Prop:=λxs H Q=>(∃p a,xs=[.ref p]/\(SqL K H p a\/SqT K H p a)/\Q (.int a.length) H)\/(∃z,xs=[.str z]/\z.length<=VW/\Q (.int z.length) H)
theorem call_lenM:CallR X (.builtin "len") (xR X.K):=call_len_seq.or JD
theorem nN{π:Nat->Addr}{b:Hm}{H:Hp}{v:V}{x:D}{xs:List D}(R:Rp K π H b)(h:IsD K π b.length H v x)(e:bF b x=b4 xs):∃p vs,v=.ref p/\(SqL K H p vs\/SqT K H p vs)/\IsDs K π b.length H vs xs:=by
 cases h with
 |tup q t=>cases e;exact⟨_,_,rfl,.inr q,t⟩|rol q t=>cases e;exact⟨_,_,rfl,.inl q.sq,t⟩|@loc a j=>
  simp only[bF]at e;split at e
  ·rename_i l i;cases e;obtain⟨vs,c,d⟩:=R.lst a xs i;exact⟨_,vs,rfl,.inl (.of c),d⟩
  ·cases e
 |_=>cases e
theorem CT:dZ K pZ (xR K):=by
 intro b H r n d l m Q R i a k;unfold pZ at a;split at a
 ·split at a
  ·rename_i h;cases a;cases i with
   |cons i t=>cases i;cases t;exact .inr ⟨_,rfl,h,k b _ H .refl R (.int _)⟩
  ·cases a
 ·obtain⟨o,c,e⟩:=VJ.mp a;cases e;cases i with
  |cons i t=>cases t;obtain⟨p,j,rfl,q,hd⟩:=nN R i c;refine .inl ⟨p,j,rfl,q,?_⟩;rw[hd.length];exact k b _ H .refl R (.int _)
 ·cases a
noncomputable def CU(K:VG):List V->Hp->VK->Prop:=λvs H Q=>∃π a x v t c b,vs=[v,.ty c]/\Rp K π H a/\IsD K π a.length H v x/\sO a x=b4 t/\sP t c=b4 b/\Q (.bl b) H
theorem Lk:dZ K fN (CU K):=by
 intro c H q p d n o Q R i a k;unfold fN at a;split at a
 ·obtain⟨t,e,a⟩:=VF.mp a;obtain⟨b,h,a⟩:=VJ.mp a;cases a;cases i with
  |cons i l=>
   cases l with
   |cons j m=>cases m;cases j;exact⟨c,_,_,_,t,_,b,rfl,R,i,e,h,k c _ H .refl R (.bl _)⟩
 ·cases a
theorem Ll:CallR X (.builtin "isinstance") (CU X.K):=by
 intro J s σ H O us Q I r h;obtain⟨M,μ,x,v,t,c,b,rfl,R,i,d,l,q⟩:=h;obtain⟨u,u2,rfl,w,Y⟩:=pR r;cases Y;have fin:∀L,EP X J σ Q (.bool b) {s with toks:=L}:=λL=>⟨.bl b,H,I.tok L,rfl,q⟩;cases i with
 |non=>cases d;cases w;exact X0 PySem.W.kitx_none I.kIn YU (jW X.K (by simp) l) (λz=>nomatch z) fin|bl y=>cases d;cases w;exact X0 PySem.W.kitx_bool I.kIn YU (jW X.K (by simp) l) (λz=>nomatch z) fin|int y=>cases d;obtain⟨t,rfl⟩:=w;exact X0 PySem.W.kitx_int I.kIn YU (jW X.K (by simp) l) (λz=>nomatch z) fin|str y=>cases d;obtain⟨t,rfl⟩:=w;exact X0 PySem.W.kitx_str I.kIn YU (jW X.K (by simp) l) (λz=>nomatch z) fin|tup g t=>cases d;cases w;obtain⟨E,N,p,_⟩:=I.tuple g;obtain⟨o,e,j,_⟩:=p;exact X0 PySem.W.kitx_tuple I.kIn ⟨o,e,j⟩ (jW X.K (by simp) l) (λz=>nomatch z) fin|rol g t=>cases d;cases w;obtain⟨E,N,p,_⟩:=I.list g.sq;obtain⟨o,e,j,_⟩:=p.isList;exact X0 a3d I.kIn ⟨o,e,j⟩ (jW X.K (by simp) l) (λz=>nomatch z) fin|@loc a ha=>
  cases w;simp only[sO]at d;split at d
  ·rename_i O B;cases d;obtain⟨G,A,h4⟩:=R.lst a O B;obtain⟨E,N,p,_⟩:=I.list (SqL.of (K:=X.K) A);obtain⟨o,e,j,_⟩:=p.isList;exact X0 a3d I.kIn ⟨o,e,j⟩ (jW X.K (by simp) l) (λz=>nomatch z) fin
  ·rename_i m B;cases d;obtain⟨G,A,_⟩:=R.dK a m B;obtain⟨_,_,Z,_,p⟩:=(show ObjOk X.prog X.w H s.heap (M a) (.dK G)from I.hok _ _ A);obtain⟨o,U,T,e,j,_⟩:=p;exact X0 a3e I.kIn ⟨o,e,j.1⟩ (jW X.K (by simp) l) (λz=>nomatch z) fin
  ·rename_i m B;cases d;obtain⟨G,A,_⟩:=R.dT a m B;obtain⟨⟨Z,_,_,_,o,U,T,e,j,_⟩,_⟩:=(show ObjOk X.prog X.w H s.heap (M a) (aR (M a) G)from I.hok _ _ A);exact X0 a3e I.kIn ⟨o,e,j.1⟩ (jW X.K (by simp) l) (λz=>nomatch z) fin
  ·cases d
 |ty n=>cases d
end
noncomputable def CV(kvs:List (aQ×D))(k:aQ)(d:D):List (aQ×D):=
 if(kvs.any λa=>decide (a.1=k))=b8 then kvs.map (λa=>if a.1=k then(a.1,d)else a)else kvs++[(k,d)]
noncomputable def nO(kvs:List (aQ×D))(k:aQ):Option D:=(kvs.find? λa=>decide (a.1=k)).map (·.2)
inductive IsKs (K:VG)(π:Nat->Addr)(n:Nat)(H:Hp):List (aQ×V)->List (aQ×D)->Prop where
 |nil:IsKs K π n H [] []
 |cons {k:aQ}{v:V}{d:D}{vs:List (aQ×V)}{ds:List (aQ×D)}(h:IsD K π n H v d)(t:IsKs K π n H vs ds):IsKs K π n H ((k,v)::vs) ((k,d)::ds)
section
variable{K:VG}{π π':Nat->Addr}{n n':Nat}{H H':Hp}
theorem IsKs.mono{vs:List (aQ×V)}{ds:List (aQ×D)}(e:Ext π n H π' n' H')(h:IsKs K π n H vs ds):IsKs K π' n' H' vs ds:=by
 induction h with
 |nil=>exact .nil|cons h t a=>exact .cons (h.mono e) a
theorem IsKs.of:∀{vs:List (aQ×V)}{ds:List (aQ×D)},vs.map (·.1)=ds.map (·.1)->IsDs K π n H (vs.map (·.2)) (ds.map (·.2))->IsKs K π n H vs ds
 |[],[],_,_=>.nil|[],_::_,h,_=>by cases h
 |_::_,[],h,_=>by cases h
 |(k,v)::vs,(k',d)::ds,h,t=>by
  rw[V0,V0]at h t;injection h with h1 h2;dsimp only at h1;subst h1;cases t with
  |cons a b=>exact .cons a (IsKs.of h2 b)
theorem IsKs.append{vs ws:List (aQ×V)}{ds es:List (aQ×D)}(h:IsKs K π n H vs ds)(a:IsKs K π n H ws es):IsKs K π n H (vs++ws) (ds++es):=by
 induction h with
 |nil=>exact a|cons h t b=>exact .cons h b
theorem IsKs.any{vs:List (aQ×V)}{ds:List (aQ×D)}(h:IsKs K π n H vs ds)(k:aQ):(vs.any λa=>decide (a.1=k))=ds.any λa=>decide (a.1=k):=by
 induction h with
 |nil=>rfl|cons h t b=>rw[YC,YC,b]
theorem IsKs.repl{vs:List (aQ×V)}{ds:List (aQ×D)}(h:IsKs K π n H vs ds){v:V}{d:D}(c:IsD K π n H v d)(k:aQ):IsKs K π n H (vs.map λa=>if a.1=k then(a.1,v)else a) (ds.map λa=>if a.1=k then(a.1,d)else a):=by
 induction h with
 |nil=>exact .nil|@cons i l j vs ds h t b=>
  rw[V0,V0];by_cases e:i=k
  ·simp only[e,if_true];exact .cons c b
  ·simp only[e,if_false];exact .cons h b
theorem IsKs.put{vs:List (aQ×V)}{ds:List (aQ×D)}(h:IsKs K π n H vs ds){v:V}{d:D}(a:IsD K π n H v d)(k:aQ):IsKs K π n H (i9 vs k v) (CV ds k d):=by
 unfold i9 CV;rw[h.any k];split
 ·exact h.repl a k
 ·exact h.append (.cons a .nil)
theorem IsKs.val{vs:List (aQ×V)}{ds:List (aQ×D)}(h:IsKs K π n H vs ds)(k:aQ):(nO ds k=b6/\eF vs k=b6)\/∃v d,nO ds k=b4 d/\eF vs k=b4 v/\IsD K π n H v d:=by
 induction h with
 |nil=>exact .inl ⟨rfl,rfl⟩|@cons a c b vs ds h t l=>
  by_cases e:a=k
  ·exact .inr ⟨c,b,by simp[nO,Xb,e],by simp[eF,Xb,e],h⟩
  ·have i:nO ((a,b)::ds) k=nO ds k:=by simp[nO,Xb,e]
   have j:eF ((a,c)::vs) k=eF vs k:=by simp[eF,Xb,e]
   rw[i,j];exact l
theorem IsKs.length{vs:List (aQ×V)}{ds:List (aQ×D)}(h:IsKs K π n H vs ds):vs.length=ds.length:=by
 induction h with
 |nil=>rfl|cons h t a=>rw[Wc,Wc,a]
end
noncomputable def Lm(K:VG)(a:List (ME×ME)):List (TE×TE):=a.map λp=>(tM K p.1,tM K p.2)
section
variable{X:Cx}{a b c:Expr}{ma mb mc:ME}{pos:Xq}
end
theorem fP{k:Nat}{A:Wh}(r:Room k A):A.units+1<Xs:=by have:=r.un;omega
noncomputable def eQ(a:ME):ME:=λc b=>(a c b).bind λp=>(xJ p.1).map λd=>(d,p.2)
end L3
namespace L3
open PySem L2
noncomputable def fW(cells:List (Str×Addr)):List (Str×Yp)->List (Str×Addr)->List (Str×Addr)
 |[],acc=>acc|(n,k)::r,acc=>if k=.free then(match cells.lookup n with|some c=>fW cells r ((n,c)::acc)|none=>fW cells r acc)else fW cells r acc
theorem CW{env:a0k}:∀(names:List (Str×Yp))(a:List (Str×Addr)),(∀y∈names,y.2=.free->∃c,env.cells.lookup y.1=b4 c)->
  (forIn names a λ(x:Str×Yp)(d:List (Str×Addr))=>(do
   if x.2==.free then(do let c <- cellOf env x.1;pure (YX ((x.1,c)::d)))else pure (YX d):a5I (ForInStep (List (Str×Addr)))))=pure (fW env.cells names a)
 |[],a,_=>rfl|(n,k)::r,a,h=>by
  have i:=λa=>CW r a λy j=>h y (Wn _ j);rw[a4G];by_cases b:k=.free
  ·subst b;obtain⟨c,hc⟩:=h (n,.free) (WS ..) rfl;dsimp only at hc;have e:cellOf env n=pure c:=by unfold cellOf;rw[hc]
   simp only[fW,hc,e,beq_self_eq_true,if_true,pure_bind];exact i _
  ·have e:(k==X3)=false:=by simpa using b
   simp only[fW,e,b,if_false,Wq,pure_bind];exact i _
theorem Ln{scope:Yj}{env:a0k}(h:∀y∈scope.names,y.2=.free->∃c,env.cells.lookup y.1=b4 c):a4W scope env=pure (fW env.cells scope.names []):=by have:=CW (env:=env) scope.names [] h;unfold a4W;simp only[bind_pure]at *;exact this
theorem sR{cells:List (Str×Addr)}:∀(names:List (Str×Yp))(a:List (Str×Addr)),(∀y c,a.lookup y=b4 c->cells.lookup y=b4 c)->∀y c,(fW cells names a).lookup y=b4 c->cells.lookup y=b4 c
 |[],a,h=>h|(n,k)::r,a,h=>by
  unfold fW;split
  ·split
   ·rename_i d hc;refine sR r _ λy c e=>?_;rw[ZF]at e;by_cases b:y=n
    ·subst b;simp only[beq_self_eq_true]at e;cases e;exact hc
    ·have:(y==n)=false:=by simpa using b
     rw[this]at e;exact h y c e
   ·exact sR r a h
  ·exact sR r a h
theorem sS{cells:List (Str×Addr)}:∀(names:List (Str×Yp))(a:List (Str×Addr))(y:Str),(∃c,a.lookup y=b4 c)->∃c,(fW cells names a).lookup y=b4 c
 |[],a,y,h=>h|(n,k)::r,a,y,h=>by
  unfold fW;split
  ·split
   ·refine sS r _ y ?_;rw[ZF];by_cases b:(y==n)=b8
    ·rw[b];exact⟨_,rfl⟩
    ·have:(y==n)=false:=by simpa using b
     rw[this];exact h
   ·exact sS r a y h
  ·exact sS r a y h
theorem sT{cells:List (Str×Addr)}:∀(names:List (Str×Yp))(a:List (Str×Addr))(y:Str),(y,X3)∈names->(∃c,cells.lookup y=b4 c)->∃c,(fW cells names a).lookup y=b4 c
 |[],a,y,h,_=>by cases h
 |(n,k)::r,a,y,h,hc=>by
  unfold fW;rcases Wr.mp h with h|h
  ·cases h;obtain⟨c,hc⟩:=hc;rw[if_pos rfl,hc];exact sS r _ _ ⟨c,by simp[ZF]⟩
  ·split
   ·split
    ·exact sT r _ y h hc
    ·exact sT r _ y h hc
   ·exact sT r _ y h hc
structure CompSt(osc:Yj)(N:List Str)(scope:Yj)(xs:List Str):Prop where
 nocell:∀y∈scope.names,y.2≠.cell
 kind:scope.kind=.function
 names:∀y∈scope.names,y.2=.local->scope.names.lookup y.1=b4 .local
 here:∀x∈xs,scope.names.lookup x=b4 .local
 free:∀y∈scope.names,y.2=.free->osc.names.lookup y.1=b4 .cell\/osc.names.lookup y.1=b4 .free
 own:∀y∈scope.names,y.2=.local->y.1∉bD xs N
 nd:N.Nodup
 hnd:(bD xs N).Nodup
 hidn:∀y∈N,xs.contains y=b8->scope.names.lookup (nJ y)=b6
theorem CompSt.ok{X:Cx}{scope:Yj}{xs:List Str}(S:CompSt X.env.scope X.N scope xs)(ok:X.Ok):CompOk X scope (fW X.env.cells scope.names []) xs:=by
 have has:∀y∈scope.names,y.2=.free->∃c,X.env.cells.lookup y.1=b4 c:=λy d b=>ok.has y.1 (S.free y d b);refine⟨Ln has,S.nocell,S.kind,S.names,S.here,sR scope.names [] (λy c e=>by cases e),λy e=>?_,λy e=>?_,S.hidn⟩
 ·have a:=Xg e;exact⟨S.free _ a rfl,sT scope.names [] y a (has _ a rfl)⟩
 ·exact S.own _ (Xg e) rfl
end L3
namespace L3
open PySem L2
section
variable{X:Cx}{pos:Xq}
end
end L3
namespace L3
open PySem L2
noncomputable def c7(e:Expr):Bool:=!(e.ctorIdx==22)
theorem fC{e:Expr}{es:List Expr}{env:a0k}(h:c7 e=b8):Wt (e::es) env=(b7,eval e env)::Wt es env:=by cases e<;>first|rfl|cases h
theorem kN{pos:Xq}{env:a0k}:∀{es:List Expr},es.all c7=b8->(Yy pos (Wt es env)).any (·.1)=b7
 |[],_=>rfl|e::es,h=>by rw[WE,VO]at h;rw[fC h.1];have:=kN (pos:=pos) (env:=env) h.2;simpa[Yy]using this
theorem sU{e:Expr}{es:List Expr}{env:a0k}(h:c7 e=b8):X8 (e::es) env=(b7,a1y e env)::X8 es env:=by cases e<;>first|rfl|cases h
theorem CY{env:a0k}:∀{es:List Expr},es.all c7=b8->(X8 es env).length=es.length
 |[],_=>rfl|e::es,h=>by rw[WE,VO]at h;rw[sU h.1,Wc,Wc,CY h.2]
theorem CZ{env:a0k}:∀{es:List Expr},es.all c7=b8->(X8 es env).findIdx? (·.1)=b6
 |[],_=>rfl|e::es,h=>by rw[WE,VO]at h;rw[sU h.1,List.findIdx?_cons,CZ h.2];rfl
section
variable{X:Cx}{e a b c:Expr}{es:List Expr}{m:ME}{ms:MA}{pos:Xq}
end
end L3
namespace L3
open PySem L2
structure QE(X:Cx)(e:Expr)(m:ME):Prop where
 h:PE X e (tM X.K m)
structure QT(X:Cx)(e:Expr)(m:MT):Prop where
 h:PT X e (tMT X.K m)
structure QW(X:Cx)(e:Expr)(m:MT):Prop where
 h:PW X e (tMT X.K m)
structure QA(X:Cx)(es:List Expr)(m:MA)(n:Nat):Prop where
 h:PA X es (tMA X.K m)
 l:∀ρ μ ds μ',m ρ μ=b4 (ds,μ')->ds.length=n
 s:es.all c7=b8
structure QO(X:Cx)(e:Option Expr)(m:MO):Prop where
 h:PO X e (tMO X.K m)
structure QS(X:Cx)(st:Stmt)(m:MS):Prop where
 h:PS X st (tMS X.K m)
structure QB(X:Cx)(st:List Stmt)(m:MS):Prop where
 h:PSs X st (tMS X.K m)
structure QG(X:Cx)(e:Expr)(g:MG):Prop where
 h:PG X e (tMG X.K g)
structure QGs(X:Cx)(es:List Expr)(is:List Nat):Prop where
 h:pN X es (sQ is)
 n:es.length=is.length
 s:es.all c7=b8
structure QI(X:Cx)(ifs:List Expr)(m:MT):Prop where
 h:lZ X ifs m
structure QP(X:Cx)(pos:Xq)(keys:List (Option Expr))(values:List Expr)(prs:List (ME×ME)):Prop where
 h:Jg X pos keys values (Lm X.K prs)
 a:keys.all (·.isSome)=b8
 l:keys.length=values.length
section
variable{X:Cx}{e a b c:Expr}{m ma mb mc:ME}{pos:Xq}{mt mu:MT}{rest es:List Expr}{ms:MA}{n:Nat}
theorem C0{x:Str}(i:Nat)(h:X.N[i]?=b4 x:=by rfl)(j:lO X.env.scope x:=by first|exact a2u rfl|exact a1c (a2u rfl)|exact a1c (a1c rfl))(hd:(x==("__debug__":Str))=false:=by decide)
  (d:(x==("__classdict__":Str))=false:=by decide):QE X (.Name x pos) (aA i):=⟨J2 i (pM h j hd d)⟩
theorem Lo{i:Int}{j:Nat}:QE X (.Constant (.int i) j pos) (mC (.int i)):=⟨J3⟩
theorem Lp{i:Bool}{j:Nat}:QE X (.Constant (.bool i) j pos) (mC (.bl i)):=⟨J4⟩
theorem Lq{i:Str}{j:Nat}:QE X (.Constant (.str i) j pos) (mC (.str i)):=⟨J5⟩
theorem Lr{j:Nat}:QE X (.Constant .none j pos) (mC .non):=⟨J6⟩
theorem qA{op:a2W}{r:R2}{f:D->D->Hm->Option (D×Hm)}(j:OpR X (Zp op) r)(i:cX X.K f r)(d:QE X a ma)(h:QE X b mb):QE X (.BinOp a op b pos) (aC f ma mb):=⟨J7 j i d.h h.h⟩
theorem Ls(d:QE X a ma)(h:QE X b mb):QE X (.BinOp a .Add b pos) (aC bC ma mb):=qA K4 K5 d h
theorem Lu(d:QE X a ma)(h:QE X b mb):QE X (.BinOp a .Sub b pos) (aC cQ ma mb):=qA IC KY d h
theorem Lv(d:QE X a ma)(h:QE X b mb):QE X (.BinOp a .Mult b pos) (aC cB ma mb):=qA KU K0 d h
theorem Lx(d:QE X a ma)(h:QE X b mb):QE X (.BinOp a .FloorDiv b pos) (aC cY ma mb):=qA KW K1 d h
theorem Lz(d:QE X a ma)(h:QE X b mb):QE X (.BinOp a .Mod b pos) (aC aV ma mb):=qA ID K2 d h
theorem LA(d:QE X a ma):QE X (.UnaryOp .USub a pos) (eQ ma):=⟨K6 d.h⟩
theorem LB(d:QE X a ma):QE X (.UnaryOp .Not a pos) (nE ma):=⟨Kg d.h⟩
theorem LC{k:Nat}(i:Room k X.A)(d:QE X a ma)(h:QE X b mb):QE X (.Compare a [.Eq] [b] pos) (aC (aY b7) ma mb):=⟨e8 (CL (sN i)) sM d.h h.h (dN _)⟩
theorem LF{k:Nat}(i:Room k X.A)(d:QE X a ma)(h:QE X b mb):QE X (.Compare a [.NotEq] [b] pos) (aC (aY b8) ma mb):=⟨e8 (CM (sN i)) sM d.h h.h (dN _)⟩
theorem LG(d:QE X a ma)(h:QE X b mb):QE X (.Compare a [.Lt] [b] pos) (aC dD ma mb):=⟨e8 wH hZ d.h h.h (dN _)⟩
theorem LH(d:QE X a ma)(h:QE X b mb):QE X (.Compare a [.LtE] [b] pos) (aC nH ma mb):=⟨e8 wI hZ d.h h.h (dN _)⟩
theorem LI(d:QE X a ma)(h:QE X b mb):QE X (.Compare a [.Gt] [b] pos) (aC lX ma mb):=⟨e8 wJ hZ d.h h.h (dN _)⟩
theorem LJ(d:QE X a ma)(h:QE X b mb):QE X (.Compare a [.GtE] [b] pos) (aC pY ma mb):=⟨e8 wK hZ d.h h.h (dN _)⟩
noncomputable def fQ(e:Expr):Bool:=!(e.ctorIdx==7)
theorem iA{op:ZT}{b:Expr}(h:fQ b=b8):YT op b=false:=by cases b<;>first|rfl|cases h
theorem LK{op:BoolOp}(h:QE X a m):QE X (.BoolOp op [a] pos) m:=⟨Kd h.h⟩
theorem LL(d:QE X a ma)(h:QE X (.BoolOp .And (b::rest) pos) mb):QE X (.BoolOp .And (a::b::rest) pos) (dS ma mb):=⟨Ke d.h h.h⟩
theorem LM(d:QE X a ma)(h:QE X (.BoolOp .Or (b::rest) pos) mb):QE X (.BoolOp .Or (a::b::rest) pos) (xA ma mb):=⟨Kf d.h h.h⟩
theorem LN(hc:QT X c mt)(d:QE X a ma)(h:QE X b mb):QE X (.IfExp c a b pos) (jC mt ma mb):=⟨Kh hc.h d.h h.h⟩
theorem LO:QA X [] aD 0:=⟨Ki,Kn,rfl⟩
theorem LP(i:QE X e m)(d:QA X es ms n)(h:c7 e=true:=by rfl):QA X (e::es) (aB m ms) (n+1):=⟨Kj i.h d.h (fC h),Ko d.l,by rw[WE,h,d.s];rfl⟩
theorem LQ{d:Nat}(h:QA X es ms n):QE X (.Tuple es d pos) (aU ms):=⟨Kk h.h⟩
theorem LR(h:QA X es ms n):QE X (.List es pos) (cA ms):=⟨Kl h.h⟩
noncomputable def nP(e:Expr):Bool:=!(e.ctorIdx==26)
theorem C1{b:Expr}(h:nP b=b8):wY b:=by intro o i;cases b<;>first|rfl|cases h
theorem LS(d:QE X a ma)(i:QE X b mb)(h:nP b=true:=by rfl):QE X (.Subscript a b pos) (aC gN ma mb):=⟨Ku d.h i.h (C1 h)⟩
theorem LU:QO X b6 jV:=⟨Kv⟩
theorem LV(h:QE X e m):QO X (b4 e) (jE m):=⟨Kw h.h⟩
theorem LW{lo d:Option Expr}{i h:MO}{p:Xq}(j:QE X a ma)(l:QO X lo i)(o:QO X d h):QE X (.Subscript a (.Slice lo d b6 p) pos) (lU ma i h):=⟨Kz j.h l.h o.h⟩
theorem LX{k:Nat}{f:Addr}{j:Xy}{ps:List Str}{l:MF}{x:Str}{p:Xq}(F:FnOk X.prog X.w X.K X.mg X.base dY k f j ps (iI X.K n l))(u:Room k X.A)(s:X.mg x=b4 (.ref f))
  (r:WX X.K (.ref f)=b8)(o:Binds X.K j ps [])(d:QA X (e::es) ms n)(q:Gl X x:=by rfl)(h:(x==("__debug__":Str))=false:=by decide):QE X (.Call (.Name x p) (e::es) [] pos) (aF l ms):=by
 have i:=d.s;rw[WE,VO]at i;exact⟨Kq F u q s r o d.h d.l h (fC i.1) (kN i.2)⟩
theorem LY{f:MF}{r:List V->Hp->VK->Prop}{id:String}{x:Str}{p:Xq}(hc:CallR X (.builtin id) r)(j:dZ X.K f r)(o:X.mg x=b6)(s:XB x=b4 (.builtin id))(i:QA X (e::es) ms n)
  (l:Gl X x:=by rfl)(q:x ≠ "__name__":=by decide) (d:(x==("__debug__":Str))=false:=by decide):QE X (.Call (.Name x p) (e::es) [] pos) (aF f ms):=by
 have h:=i.s;rw[WE,VO]at h;exact⟨Kr hc j l o s i.h q d (fC h.1) (kN h.2)⟩
theorem LZ{f:MF}{r:List V->Hp->VK->Prop}{T:String}{x:Str}{p:Xq}(hc:CallR X (.type T) r)(j:dZ X.K f r)(o:X.mg x=b6)(s:XB x=b4 (.type T))(i:QA X (e::es) ms n)
  (l:Gl X x:=by rfl)(q:x ≠ "__name__":=by decide) (d:(x==("__debug__":Str))=false:=by decide):QE X (.Call (.Name x p) (e::es) [] pos) (aF f ms):=by
 have h:=i.s;rw[WE,VO]at h;exact⟨Ks hc j l o s i.h q d (fC h.1) (kN h.2)⟩
theorem L0{x:Str}{n:String}(h:X.mg x=b6)(j:XB x=b4 (.type n))(d:Gl X x:=by rfl)(i:x ≠ "__name__":=by decide) (hd:(x==("__debug__":Str))=false:=by decide):QE X (.Name x pos) (mC (.ty n)):=⟨K7 d h j i hd⟩
theorem L1{k:Nat}(i:Room k X.A)(d:QE X a ma)(h:QE X b mb):QT X (.Compare a [.Eq] [b] pos) (aS (aC (aY b7) ma mb)):=⟨fA (CL (sN i)) sM d.h h.h (dN _)⟩
theorem L4{k:Nat}(i:Room k X.A)(d:QE X a ma)(h:QE X b mb):QT X (.Compare a [.NotEq] [b] pos) (aS (aC (aY b8) ma mb)):=⟨fA (CM (sN i)) sM d.h h.h (dN _)⟩
theorem L5(d:QE X a ma)(h:QE X b mb):QT X (.Compare a [.Lt] [b] pos) (aS (aC dD ma mb)):=⟨fA wH hZ d.h h.h (dN _)⟩
theorem L6(d:QE X a ma)(h:QE X b mb):QT X (.Compare a [.LtE] [b] pos) (aS (aC nH ma mb)):=⟨fA wI hZ d.h h.h (dN _)⟩
theorem L7(d:QE X a ma)(h:QE X b mb):QT X (.Compare a [.Gt] [b] pos) (aS (aC lX ma mb)):=⟨fA wJ hZ d.h h.h (dN _)⟩
theorem L8(d:QE X a ma)(h:QE X b mb):QT X (.Compare a [.GtE] [b] pos) (aS (aC pY ma mb)):=⟨fA wK hZ d.h h.h (dN _)⟩
noncomputable def xS:Expr->Bool
 |.UnaryOp .Not ..=>b7|.BoolOp ..=>b7|.IfExp ..=>b7|.Compare ..=>b7|_=>b8
theorem L9{e:Expr}{env:a0k}(h:xS e=b8):∀d,a3U e env d=(do let v <- d;standAt e.pos;holding [v] (truthy v)):=by
 intro d;cases e<;>first|rfl|cases h|skip
 rename_i i x p;cases i<;>first|rfl|cases h
theorem Ma(d:QT X a mt):QT X (.UnaryOp .Not a pos) (gM mt):=⟨Kc d.h⟩
theorem Mb(d:QT X a mt):QW X (.BoolOp .And [a] pos) mt:=⟨J8 d.h⟩
theorem Mc(d:QT X a mt):QW X (.BoolOp .Or [a] pos) mt:=⟨J9 d.h⟩
theorem Md(d:QT X a mt)(h:QW X (.BoolOp .And (b::rest) pos) mu):QW X (.BoolOp .And (a::b::rest) pos) (fT mt mu):=⟨Ka d.h h.h⟩
theorem Me(d:QT X a mt)(h:QW X (.BoolOp .Or (b::rest) pos) mu):QW X (.BoolOp .Or (a::b::rest) pos) (jB mt mu):=⟨Kb d.h h.h⟩
theorem Mf(h:QW X e mt):QT X e mt:=⟨h.h.pt⟩
theorem Mg:QI X [] dU:=⟨Le⟩
theorem Mh(h:QT X c mt):QI X [c] mt:=⟨Lf h.h⟩
end
section
variable{X:Cx}{e a b c:Expr}{m:ME}{pos:Xq}{mt:MT}{st:Stmt}{rest body orelse:List Stmt}{ms mr mu:MS}{n:Nat}{is:List Nat}{es:List Expr}{g:MG}
theorem Mi:QB X [] bI:=⟨KA⟩
theorem Mj(h1:QS X st ms)(d:QB X rest mr):QB X (st::rest) (aH ms mr):=⟨KG h1.h d.h⟩
theorem Ml(h1:QS X st ms):QB X [st] ms:=⟨KH h1.h⟩
theorem Mm:QS X (.Pass pos) bI:=⟨KI⟩
theorem Mn(d:QE X e m):QS X (.Return (b4 e) pos) (aO m):=⟨KJ d.h⟩
noncomputable def eH(e:Expr):Bool:=!(e.ctorIdx==8||e.ctorIdx==9||e.ctorIdx==10)
theorem l7{e:Expr}{t:Option Expr}{n:Nat}{env:a0k}(h:eH e=b8):ZW e t n env=pure false:=by cases e<;>first|rfl|cases h
theorem Mo(d:QE X e m)(h:eH e=true:=by rfl):QS X (.Expr e pos) (cM m):=⟨KL d.h (l7 h)⟩
theorem Mp(hc:QT X c mt)(d:QB X body ms)(h:QB X orelse mu):QS X (.If c body orelse pos) (bG mt ms mu):=⟨KN hc.h d.h h.h⟩
theorem C2(i:Nat){x:Str}{d:Xq}(j:X.N.Nodup)(l:QE X e m)(h:eH e=true:=by rfl)(p:X.N[i]?=b4 x:=by rfl)(q:Loc X.env.scope x:=by first|exact a2u rfl|exact a1c rfl)
  (o:X.fn x=b8\/X.env.scope.names.lookup x=b4 .local:=by first|exact .inl rfl|exact .inr rfl):QS X (.Assign [.Name x d] e pos) (aL i m):=⟨Cy j p q l.h (l7 h) o⟩
theorem Mq(i:Nat){x:Str}(d:X.N.Nodup)(j:X.N[i]?=b4 x:=by rfl)(l:Loc X.env.scope x:=by first|exact a2u rfl|exact a1c rfl)
  (h:X.fn x=b8\/X.env.scope.names.lookup x=b4 .local:=by first|exact .inl rfl|exact .inr rfl):QG X (.Name x pos) (cN i):=⟨CO d j l h⟩
theorem C3:QGs X [] []:=⟨Ie,rfl,rfl⟩
theorem C4(i:Nat){x:Str}(h:X.N.Nodup)(d:QGs X es is)(l:X.N[i]?=b4 x:=by rfl)(o:Loc X.env.scope x:=by first|exact a2u rfl|exact a1c rfl)
  (j:X.fn x=b8\/X.env.scope.names.lookup x=b4 .local:=by first|exact .inl rfl|exact .inr rfl):QGs X (.Name x pos::es) (i::is):=
 ⟨Ig (Bt h l o j) d.h (by rw[sU (e:=.Name x pos) rfl];rfl),by rw[Wc,Wc,d.n],by rw[WE,d.s];rfl⟩
theorem xT{k:Nat}(h:QGs X es is)(hc:X.calm=true:=by rfl):QG X (.Tuple es k pos) (iL is):=⟨Li hc h.h ((CY h.s).trans h.n) (CZ h.s)⟩
noncomputable def xU(e:Expr):Bool:=!(e.ctorIdx==25)
theorem Mr{es:List Expr}{k:Nat}{pt:Xq}{e:Expr}{env:a0k}(h:xU e=b8):a3q [.Tuple es k pt] e env=pure none:=by cases e<;>first|rfl|cases h
theorem Ms{k:Nat}{pt:Xq}(d:QE X e m)(i:QG X (.Tuple es k pt) g)(h:xU e=true:=by rfl):QS X (.Assign [.Tuple es k pt] e pos) (kM m g):=
 ⟨Lj d.h i.h (by cases e<;>rfl) (Mr h) (by rw[sU (e:=.Tuple es k pt) rfl];rfl)⟩
end
section
variable{P:V6}{w:Wj}{K:VG}{mg:Str->Option Value}{base:WI}
theorem Mt{x qual:Str}{st:Stmt}{f:Addr}{e:Xy}{N ps:List Str}{k:Nat}{body:List Stmt}{m:MS}(F:Fun K x qual st f e)(S:FnScope N ps (bM st))(d:ps.length<=N.length)(c:cL st=body)
  (b:∀(a:Value)(A:Wh)(outer:List a0k)(s:VL)(H:Hp)(E:XK),Room k (A.deeper (Zy qual (bM st) s.heap.objs.size f a))->
   QB (dO dY P w K mg base N qual (bM st) f a A outer s H E).nox body m):FnOk P w K mg base dY (k+1) f e ps (iI K ps.length (xB N.length m)):=
 KO F S d λa A outer s H E h=>by rw[c];exact(b a A outer s H E h).h
end
end L3
namespace L3
open PySem L2
noncomputable abbrev eS:=Hm->Nat->Option (Option D)
noncomputable abbrev MI:=aE->Hm->Option (eS×Nat×Hm)
inductive tMI (K:VG)(m:MI)(σ:St)(H:Hp)(R:It->Hp->Prop):Prop
 |mk (π:Nat->Addr)(ρ:aE)(μ:Hm)(src:eS)(n:Nat)(μ':Hm)(r:Rp K π H μ)(E:En K π μ.length H σ ρ)(hm:m ρ μ=b4 (src,n,μ'))(k:∀π' H' J,Ext π μ.length H π' μ'.length H'->Rp K π' H' μ'->Wk K J src π' μ'.length H'->R J H'):tMI K m σ H R
structure QJ(X:Cx)(e:Expr)(m:MI):Prop where
 h:∀tg,PI X tg e (tMI X.K m)
section
variable{X:Cx}{pos:Xq}{e:Expr}{m:ME}
noncomputable def C5:MI:=λ_ _=>b6
theorem Mu:QJ X e C5:=⟨λtg a6G s σ H R I hw=>by
 obtain⟨i,j,h,b,n,c,d,E,a,k⟩:=hw;cases a⟩
noncomputable def qB(x:Str):List D:=x.cps.toList.map λc=>.str ⟨#[c]⟩
noncomputable def jY(a:Hm):D->Option (List D)
 |.str x=>b4 (qB x)|d=>bF a d
noncomputable def eI(x:D):eS:=λa i=>(jY a x).map λxs=>xs[i]?
noncomputable def xV(x:Str):It:=⟨λi _=>i<x.cps.size,λi H v H'=>H'=H/\∃c,x.cps[i]?=b4 c/\v=.str ⟨#[c]⟩,λi _=>x.cps.size<=i⟩
theorem Mv{P:V6}{w:Wj}{K:VG}{tg:Expr}{T:String}(J:T="str_ascii_iterator"\/T="str_iterator") (a:Addr)(x:Str)(t:a5a):Turn Qc P w K tg (xV x) [a] a (λi h=>h.IsStrIter a T x t i) where
 mem:=by simp
 obj:=λi h st b j=>by
  have e:b=a:=by simpa using j
  subst e;obtain⟨o,e,c,d⟩:=st;exact⟨o,e,λv z=>by rw[d]at z;cases z⟩
 keep:=λi h n st k=>let⟨o,e,c,d⟩:=st;⟨o,k a (by simp) o e,c,d⟩;item:=by
  intro X O hw N hc i l s U H E I L st Q;subst O hw N;obtain⟨r,y,f2,A,B,G⟩:=L a (by simp);have W:Walks X.prog X.w X.A a [a] [a] x.cps.size (SignAt x) (λi h=>h.IsStrIter a T x t i):=by
   rcases J with rfl|rfl
   ·exact Walks.strAscii (I.ok.hd hc) a x t
   ·exact Walks.strWide (I.ok.hd hc) a x t
  refine W.item i s _ _ Q st λv n R hv q kk=>?_;obtain⟨c,u,hx,rfl⟩:=hv;have Y:Inv X l U H {s with heap:=n,toks:=R}:=I.turned (λb o j e=>kk b o (by simpa using j) e) r y A B G;obtain⟨o,e,Z,d⟩:=id q;exact⟨_,rfl,m5 (s:={s with heap:=n,toks:=R}) e Z d (by rcases J with rfl|rfl<;>decide) ⟨.str ⟨#[c]⟩,H,Y,⟨u,rfl⟩,⟨rfl,c,hx,rfl⟩,q,λb j=>(L b j).1⟩⟩
 done:=by
  intro X O hw N hc i l s U H E I L st Q;subst O hw N;obtain⟨r,y,f2,A,B,G⟩:=L a (by simp);have p:x.cps.size<=i:=Q;rcases J with rfl|rfl
  ·exact wpAny_pyNext_ascii_end (I.ok.hd hc) st (by simp[p]) λn M=>⟨rfl,I.turned (t':=s.toks) (λb o j e=>M b o j e) r y A B G⟩
  ·exact wpAny_pyNext_wide_end (I.ok.hd hc) st (by simp[p]) λn M=>⟨rfl,I.turned (t':=s.toks) (λb o j e=>M b o j e) r y A B G⟩
 self:=λ_ _ _ _ _ st h=>by
  rcases J with rfl|rfl
  ·exact wpAny_pyIter_striter_ascii st h
  ·exact wpAny_pyIter_striter_wide st h
theorem Mw{l tg:Expr}{n:TE}(u:PE X l n):PI X tg l (λσ H R=>n σ H λv d=>∃x,v=.str x/\R (xV x) d):=by
 intro c s σ H R I h;refine aM (u c s σ H _ I h) λv a ⟨y,d,i,z,w⟩=>?_;obtain⟨x,e,q⟩:=w;subst e;obtain⟨t,rfl⟩:=z;have fin:∀T,(T="str_ascii_iterator"\/T="str_iterator")->wA X c σ tg R (.ref a.heap.objs.size) {a with heap:=a.heap.push {cls:=.type T,data:=.fields #[.str x t,.int 0 0]}}:=λT p=>by
  refine⟨a.heap.objs.size,[a.heap.objs.size],_,_,d,rfl,i.kept (t':=a.toks) λb o e=>VM _ e,Mv p _ x t,⟨_,VX _ rfl,rfl,rfl⟩,λb r=>?_,q⟩;have e:b=a.heap.objs.size:=by simpa using r
  subst e;exact i.fpOk (VS _) (i.hok.fresh (VS _))
 cases j:x.cps.all (·<128)
 ·exact wpAny_pyIter_wide j (fin _ (.inr rfl))
 ·exact wpAny_pyIter_ascii j (fin _ (.inl rfl))
theorem Mx{K:VG}{x:Str}{π:Nat->Addr}{n:Nat}{H:Hp}:Wk K (xV x) (eI (.str x)) π n H:=by
 refine⟨λb r l i e R z=>?_,λb r l i d e R z=>?_⟩
 ·have a:(qB x)[i]?=none:=VY z;have:=Ws.mp a;rw[qB,VI,Y1]at this;exact this
 ·have a:(qB x)[i]?=b4 d:=VY z;unfold qB at a;rw[V5,YD]at a;obtain⟨c,j,q⟩:=VJ.mp a;subst q;refine⟨(W5.mp j).1,λv s ⟨o,u,h,p⟩=>?_⟩;subst o;rw[j]at h;cases h;rw[p];exact⟨.refl,R,.str _⟩
noncomputable def cC(m:ME):MI:=λb a=>(m b a).bind λp=>(jY p.2 p.1).map λxs=>(eI p.1,xs.length+1,p.2)
theorem My(h:QE X e m):QJ X e (cC m):=⟨λtg a6G s σ H R I hw=>by
 obtain⟨G,J,B,M,n,Q,u,E,d,k⟩:=hw;obtain⟨⟨x,r⟩,w,d⟩:=VF.mp d;obtain⟨O,K,d⟩:=VJ.mp d;cases d;have o:∀(y:bF r x=b4 O)(A:eI x=jX x),V2 (V8 X.prog X.w) X.A (eval e X.env) (λv L=>V2 (V8 X.prog X.w) X.A (a2h v) (wA X a6G σ tg R) X.xe L) X.xe s:=λy A=>by
  refine K9 h.h a6G s σ H R I ⟨G,J,B,x,_,u,E,w,λb N i j c l=>?_⟩;obtain⟨a,e,q⟩:=La c l y;subst e;refine⟨a,rfl,?_⟩;dsimp only at k;rw[A]at k;rcases q with⟨p,W⟩|⟨p,W⟩
  ·exact .inl ⟨p,k b i _ j c W⟩
  ·exact .inr ⟨p,k b i _ j c W⟩
 cases x with
 |str z=>refine Mw h.h a6G s σ H R I ⟨G,J,B,.str z,_,u,E,w,λb N i j c l=>?_⟩;cases l;exact⟨z,rfl,k b i _ j c Mx⟩
 |_=>exact o K rfl⟩
noncomputable def fX(ms:MA):MI:=λb a=>(ms b a).bind λp=>match p.1 with
 |[.int j]=>if -(2^62)<=j/\j<2^62 then b4 (iK 0 j.toNat,j.toNat+1,p.2)else b6|_=>b6
theorem Mz{q:Cx->Prop}{tg:Expr}(tr:∀(o:Addr)(lo:Int)(n:Nat),Turn q X.prog X.w X.K tg (kG lo n) [o] o (λi h=>Z4 h o (lo+(i:Nat)*1) ((n:Int)-(i:Nat)) 1)){a:Expr}{ms:MA}{n:Nat}{p:Xq}(c:Gl X "range") (d:X.mg "range"=b6) (v:QA X [a] ms n):pO q X tg (.Call (.Name "range" p) [a] [] pos) (tMI X.K (fX ms)):=λa6G s σ H R I hw=>by
 have y:=v.s;rw[WE,VO]at y;obtain⟨O,Q,M,K,T,N,B,E,b,k⟩:=hw;obtain⟨⟨x,r⟩,J,b⟩:=VF.mp b;refine Iq tr c d v.h (fC y.1) a6G s σ H R I ⟨O,Q,M,x,r,B,E,J,λu U z G A l=>?_⟩;dsimp only at b;split at b
 ·rename_i j;split at b
  ·rename_i w;cases b;cases l with
   |cons l L=>cases l;cases L;exact⟨j,rfl,w.1,w.2,k u z _ G A CP⟩
  ·cases b
 ·cases b
theorem MB{a:Expr}{ms:MA}{n:Nat}{p:Xq}(b:Gl X "range") (c:X.mg "range"=b6) (d:QA X [a] ms n):QJ X (.Call (.Name "range" p) [a] [] pos) (fX ms):=⟨λtg=>Mz Bx b c d⟩
noncomputable def kP(ms:MA):MI:=λb a=>(ms b a).bind λp=>match p.1 with
 |[.int i,.int j]=>if -(2^62)<=i/\i<2^62/\-(2^62)<=j/\j<2^62 then b4 (iK i (j-i).toNat,(j-i).toNat+1,p.2)else b6|_=>b6
theorem MC{a b:Expr}{ms:MA}{n:Nat}{p:Xq}(h:Gl X "range") (l:X.mg "range"=b6) (u:QA X [a,b] ms n):QJ X (.Call (.Name "range" p) [a,b] [] pos) (kP ms):=⟨λtg a6G s σ H R I hw=>by
 have d:=u.s;rw[WE,VO,WE,VO]at d;obtain⟨O,Q,M,J,T,N,y,E,c,k⟩:=hw;obtain⟨⟨x,q⟩,A,c⟩:=VF.mp c;refine Ir h l u.h (by rw[fC d.1,fC d.2.1];rfl) (by rw[fC d.2.1];rfl) a6G s σ H R I ⟨O,Q,M,x,q,y,E,A,λr U v z w o=>?_⟩;dsimp only at c;split at c
 ·rename_i i j;split at c
  ·rename_i B;cases c;cases o with
   |cons o K=>
    cases o;cases K with
    |cons G L=>cases G;cases L;exact⟨i,j,rfl,B,k r v _ z w CP⟩
  ·cases c
 ·cases c⟩
noncomputable def cR(c:MI)(g:MG)(b:MS):MS:=λa d=>(c a d).bind λp=>fB p.1 g b p.2.1 0 a p.2.2
end
noncomputable def eU(d:BD)(h:MI)(c:MT)(e:ME):ME:=λb i=>(h b i).bind λp=>(gP p.1 d c e b p.2.2.length p.2.1 0 (p.2.2++[.lst []])).map λa=>(.loc p.2.2.length,a)
noncomputable abbrev eJ(a:MI)(c:MT)(e:ME):ME:=eU nM a c e
noncomputable def gB(n:Nat)(a:BD):MG:=λd c b=>(a d b).map λx=>c.take n++x
theorem MH{X:Cx}{n:Nat}{x:Str}{j:Xq}(l:X.N.length=n+1)(h:PG X (.Name x j) (tMG X.K (cN n))):PG X (.Name x j) (tMG X.K (gB n nM)):=by
 intro b s y H v u Q I r hw;obtain⟨q,a,p,d,w,R,E,hd,m,k⟩:=hw;cases m;refine h b s y H v u Q I r ⟨q,a,p,d,_,R,E,hd,rfl,λc i=>k c ?_⟩;have o:a.length=n+1:=by rw[<- E.len,I.len,l]
 have e:a.set n (b4 d)=a.take n++[b4 d]:=by rw[List.set_eq_take_append_cons_drop,if_pos (by omega),List.drop_of_length_le (by omega)]
 rw[e]at i;exact i
theorem C6:∀(xs:List D)(a b:aE),b.length=xs.length->l6 (a++b) (a0F a.length xs.length) xs=a++xs.map b4
 |[],a,[],_=>by simp[l6]
 |x::xs,a,y::b,h=>by have c:=C6 xs (a++[b4 x]) b (by simpa using h);rw[Wc,a4u];show l6 ((a++y::b).set a.length (b4 x)) (a0F (a.length+1) xs.length) xs=_;rw[a0z _ _ (VS _),Nat.sub_self,Xu];rw[V1,YH]at c;rw[a0e,List.singleton_append]at c;rw[c];simp
theorem MJ{X:Cx}{n k:Nat}{tg:Expr}(w:X.N.length=n+k)(h:PG X tg (tMG X.K (iL (a0F n k)))):PG X tg (tMG X.K (gB n (jF k))):=by
 intro b s K H v u Q I r hw;obtain⟨G,a,B,d,J,R,E,hd,x,A⟩:=hw;obtain⟨y,o,p⟩:=VJ.mp x;obtain⟨m,q,c⟩:=VF.mp o;split at c
 ·rename_i l;cases c;subst p;have z:a.length=n+k:=by rw[<- E.len,I.len,w]
  refine h b s K H v u Q I r ⟨G,a,B,d,l6 a (a0F n k) m,R,E,hd,(by simp only[iL,q,Wg,List.length_range',if_pos l]),λi j=>A i ?_⟩;have e:=C6 m (a.take n) (a.drop n) (by rw[Ys];omega);rw[Yh,WV,a1P (by omega),l]at e;rw[e]at j;exact j
 ·cases c
section
variable{X:Cx}{scope:Yj}{cl:List (Str×Addr)}{xs:List Str}{tg elt iter:Expr}{ifs:List Expr}{pos ppos:Xq}{mi:MI}{me:ME}{mc:MT}{bd:BD}
theorem MK{K:VG}{π:Nat->Addr}{n:Nat}{H:Hp}{σ:St}{b o:aE}{k:Nat}(E:En K π n H σ (b++o))(c:o.length=k):En K π n H σ (b++XJ k b6):=by
 refine⟨by rw[E.len,V1,V1,Yi,c],λi d q=>?_⟩;by_cases a:i<b.length
 ·rw[Ww a]at q;exact E.get i d (by rw[Ww a];exact q)
 ·rw[XM (ZL.mp a),Yt]at q;split at q<;>cases q
theorem C7{q:Cx->Prop}(O:CompOk X scope cl xs)(hq:∀a6G σ H s l,Inv X a6G σ H s->q (cG X scope cl s.heap.objs.size (bD xs X.N++xs) s H l))(hi:pO q X tg iter (tMI X.K mi))(hb':∀d μ z,bd d μ=b4 z->z.length=xs.length)(hg:∀C s₀ H₀ l,PG (cG X scope cl C (bD xs X.N++xs) s₀ H₀ l) tg (tMG X.K (gB X.N.length bd)))
  (hc:∀C s₀ H₀ l,lZ (cG X scope cl C (bD xs X.N++xs) s₀ H₀ l) ifs mc)(he:∀C s₀ H₀ l,PE (cG X scope cl C (bD xs X.N++xs) s₀ H₀ l) elt (tM X.K me))
  (hs:∀x,YW iter X.env x=pure x){use:Option (Value->a5I Unit)}{QQ:Value->VL->Prop}{a6G:List (Addr×Obj)}{s:VL}{σ:St}{H:Hp}{π:Nat->Addr}{Y:aE}{μ μ':Hm}{d:D}
  (I:Inv X a6G σ H s)(R:Rp X.K π H μ)(E:En X.K π μ.length H σ Y)(hm:eU bd mi mc me Y μ=b4 (d,μ'))
  (fin:∀(p C:Addr)(w:Nat->Addr)(H':Hp)(s':VL),Ext π μ.length H w μ'.length H'->Rp X.K w H' μ'->IsD X.K w μ'.length H' (.ref p) d->(∃m,s'.heap.Ns C m)->X.s₀.heap.objs.size<=C->C≠X.env.locals->H' C=b6->
   (∀y c,X.env.cells.lookup y=b4 c->c≠C)->(∀q∈X.pn++a6G,q.1≠C)->(∀h',(∀b o,b≠C->s'.heap.get? b=b4 o->h'.get? b=b4 o)->Inv X a6G σ H' {s' with heap:=h'})->
   compPost (V8 X.prog X.w) X.A X.xe use QQ (.ref p) C (.ok .next) s') :
  V2 (V8 X.prog X.w) X.A (comprehension (.ListComp elt [⟨tg,iter,ifs,0⟩] scope pos) scope X.env ppos (newList []) b7 (eval iter X.env) use) QQ X.xe s:=by
 obtain⟨⟨src,nt,a⟩,h1,hm⟩:=VF.mp hm;obtain⟨μ2,h3,hm⟩:=VJ.mp hm;cases hm;have hit:V2 (V8 X.prog X.w) X.A (eval iter X.env) (λv s1=>V2 (V8 X.prog X.w) X.A (a2h v) (PIEq q X a6G σ tg λJ H1=>∃Z,Ext π μ.length H Z a.length H1/\Rp X.K Z H1 a/\Wk X.K J src Z a.length H1) X.xe s1) X.xe s:=
  hi a6G s σ H _ I ⟨π,Y,μ,src,nt,a,R,E,h1,λZ H1 J e1 R1 W=>⟨Z,e1,R1,W⟩⟩
 refine wpAny_comprehension_free rfl hs O.clos O.kind O.names (WB hit (λv s1 hv=>WB hv (λitv G h4=>?_) λ_ _ z=>z) λ_ _ z=>z);obtain⟨it,l,tn,J,H2,rfl,I2,T,st2,f2,Z,e1,R1,W⟩:=h4;refine W7 (wpAny_newFunctionEnv O.nocell (by intro y hy;simp at hy) (λh₁ L M=>?_) O.kind);dsimp only at L M ⊢;have hfr:H2 G.heap.objs.size=none:=I2.hok.fresh (VS _);have I3:Inv X a6G σ (aI H2 G.heap.objs.size (.lst [])) {G with heap:=G.heap.push {cls:=.type "list",dict:=b6,data:=.seq ([]:List Value).toArray}}:=
  I2.laid (t':=G.toks) (λb u e=>VM _ e) (VS _) ⟨Yb _,[],0,.nil,VX _ rfl⟩
 obtain⟨e2,R2,q2⟩:=R1.alloc (c:=.lst []) (o:=.lst []) hfr .nil;generalize hs3:({G with heap:=G.heap.push {cls:=.type "list",dict:=b6,data:=.seq ([]:List Value).toArray}}:VL)=s3 at I3;have K:G.heap.push {cls:=.type "list",dict:=b6,data:=.seq ([]:List Value).toArray}=s3.heap:=by rw[<- hs3]
 have e12:=e1.trans e2;generalize hH3:aI H2 G.heap.objs.size (.lst [])=H3 at I3 e2 R2 e12;generalize hπ3:hV Z a.length G.heap.objs.size=π3 at e2 R2 q2 e12;have hob:∀b∈l,∃o,s3.heap.get? b=b4 o:=λb B=>by obtain⟨o,ho,_⟩:=T.obj 0 _ st2 b B;exact⟨o,by rw[<- K];exact VM _ ho⟩
 have f3:∀b∈l,gG X a6G H3 b:=λb B=>by obtain⟨o,ho,_⟩:=T.obj 0 _ st2 b B;refine⟨?_,(f2 b B).2⟩;rw[<- hH3,aT (V4 (VR ho))];exact(f2 b B).1
 have st3:tn 0 s3.heap:=T.keep 0 _ _ st2 λb B o e=>by rw[<- K];exact VM _ e
 have hC:(G.heap.push {cls:=.type "list",dict:=b6,data:=.seq ([]:List Value).toArray}).objs.size=s3.heap.objs.size:=by rw[K]
 rw[K]at L M;have hk1:∀b o,s3.heap.get? b=b4 o->h₁.get? b=b4 o:=λb o e=>M.extBut b o (V4 (VR e)) (VM _ e);have E3:En X.K π3 (a++[C.lst []]).length H3 (σ++XJ xs.length b6) (Y++XJ xs.length b6):=by
  have E':=E.mono e12;refine⟨by rw[V1,V1,E'.len,Yi,Yi],λi d' q=>?_⟩;by_cases hi:i<Y.length
  ·rw[Ww hi]at q;obtain⟨v,h5,h6⟩:=E'.get i d' q;exact⟨v,by rw[Ww (by rw[E'.len];exact hi)];exact h5,h6⟩
  ·rw[XM (ZL.mp hi),Yt]at q;split at q<;>cases q
 have hlen:Y.length=X.N.length:=by rw[<- E.len];exact I.len
 have stat:∀{H':Hp}{pl:List (Addr×Obj)},(∀b∈l,H' b=b6)->pl=[]->∀b∈l,gG (cG X scope cl s3.heap.objs.size (bD xs X.N++xs) s3 H3 l) pl H' b:=λ{H' pl} hn hpl b B=>by
  obtain⟨f0,f1,f2',f3',f4,f5⟩:=f3 b B;obtain⟨o,ho⟩:=hob b B;refine⟨hn b B,V4 (VR ho),λz=>?_,.inl B,λy c h=>f4 y c (O.sub y c h),λp hp=>?_⟩
  ·rcases Wr.mp (I3.stkSub b z)with z|z
   ·exact f1 z
   ·exact f2' z
  ·subst hpl;exact absurd (show p∈([]:List (Addr×Obj))from hp) (by simp)
 have loop:∀s4:VL,(∃tk,s4={s3 with heap:=h₁,toks:=tk})->
   Z2 (V8 X.prog X.w) X.A (.compLoop (.ListComp elt [⟨tg,iter,ifs,0⟩] scope pos) 0 (.ref it) (.ref G.heap.objs.size) (ZI scope cl s3.heap.objs.size X.env))
    (compPost (V8 X.prog X.w) X.A X.xe use QQ (.ref G.heap.objs.size) s3.heap.objs.size) s4:=by
  rintro s4 ⟨tk,rfl⟩;have I4:=O.inv (tk:=tk) I3 f3 hob L hk1;refine Ld (λn s'=>∃i U H' w N o,Inv (cG X scope cl s3.heap.objs.size (bD xs X.N++xs) s3 H3 l) [] U H' s'/\tn i s'.heap/\(∀b∈l,H' b=b6)/\Ext π3 (a++[C.lst []]).length H3 w N.length H'/\Rp X.K w H' N /\
   En X.K w N.length H' U (Y++o)/\o.length=xs.length/\gP src bd mc me Y a.length n i N=b4 μ') ?_ nt
   ⟨0,_,H3,π3,a++[C.lst []],XJ xs.length b6,I4,T.keep 0 _ _ st3 λb B o e=>hk1 b o e,λb B=>(f3 b B).1,.refl,R2,E3,Yi,h3⟩
  rintro n s5 ⟨i,σ5,H5,Q,μ5,o5,I5,st5,fr5,e5,R5,E5,l5,g5⟩;cases n with
  |zero=>cases g5|succ n=>
   obtain⟨o,h6,h7⟩:=VF.mp g5;cases o with
   |none=>
    cases h7;have stop:=W.stop Q _ H5 i (e2.trans e5) R5 h6;refine WB (T.done (cG X scope cl s3.heap.objs.size (bD xs X.N++xs) s3 H3 l) rfl rfl rfl (hq a6G σ H3 s3 l I3) i [] s5 σ5 H5 (λ_ _=>False) I5 (stat fr5 rfl) st5 stop) (λr s6 ⟨hr,I6⟩=>?_) λ_ _ z=>z;subst hr;obtain⟨m6,hn6,_⟩:=id I6.loc;have hp:Q a.length=G.heap.objs.size:=by rw[e5.pi a.length (by simp),q2]
    refine fin G.heap.objs.size s3.heap.objs.size Q H5 s6 (e12.trans e5) R5 ?_ ⟨m6,hn6⟩ I3.sz (WG (V4 I3.lt)) I6.free (λy c hc z=>?_) (λq hq z=>?_) λh' hh=>CompOk.back I3 f3 I6 hh
    ·rw[<- hp];exact .loc (Wb (by simp) e5.le)
    ·obtain⟨v,o,ho,_⟩:=I3.cell y c hc;exact V4 (VR ho) z
    ·exact V4 (VR (I3.pin q hq).1) z
   |some d=>
    obtain⟨z,hz,h7⟩:=VF.mp h7;obtain⟨⟨b,μ6⟩,h8,h9⟩:=VF.mp h7;obtain⟨g1,g2⟩:=W.go Q μ5 H5 i d (e2.trans e5) R5 h6;refine WB (T.item (cG X scope cl s3.heap.objs.size (bD xs X.N++xs) s3 H3 l) rfl rfl rfl (hq a6G σ H3 s3 l I3) i [] s5 σ5 H5 (λ_ _=>False) I5 (stat fr5 rfl) st5 g1) (λr s6 ⟨u,hr,h10⟩=>?_) λ_ _ z=>z;subst hr;refine WB h10 (λ_ s7 ⟨v,H7,I7,r7,y7,st7,fr7⟩=>?_) λ_ _ z=>z;obtain⟨e7,R7,hd⟩:=g2 v H7 y7;have I7':=I7.pinned (stat fr7 rfl) (T.obj _ _ st7);have e5:=e5.trans e7;refine WB (hg _ _ _ _ _ s7 σ5 H7 v u (λU H'=>En X.K Q μ5.length H7 U (Y++z)/\H'=H7) I7' r7
     ⟨Q,Y++XJ xs.length b6,μ5,d,Y++z,R7,MK (E5.mono e7) l5,hd,(by
      show(bd d μ5).map (λx=>(Y++XJ xs.length b6).take X.N.length++x)=_;rw[hz,<- hlen,List.take_left];rfl),λU E'=>⟨E',rfl⟩⟩) (λ_ s8 ⟨σ8,H8,I8,E8,z2⟩=>?_) λ_ _ z=>z
    subst z2;have again:∀{s9:VL}{H9:Hp}{j:Nat->Addr}{μ9:Hm},Inv (cG X scope cl s3.heap.objs.size (bD xs X.N++xs) s3 H3 l) ([]++pP l s7.heap) σ8 H9 s9->Ext π3 (a++[C.lst []]).length H3 j μ9.length H9->Rp X.K j H9 μ9->
      En X.K j μ9.length H9 σ8 (Y++z)->gP src bd mc me Y a.length n (i+1) μ9=b4 μ'->
      ∃m,m<n+1/\∃i U H' w N o,Inv (cG X scope cl s3.heap.objs.size (bD xs X.N++xs) s3 H3 l) [] U H' s9/\tn i s9.heap/\(∀b∈l,H' b=b6)/\Ext π3 (a++[C.lst []]).length H3 w N.length H'/\Rp X.K w H' N /\
       En X.K w N.length H' U (Y++o)/\o.length=xs.length/\gP src bd mc me Y a.length m i N=b4 μ':=λ{s9 H9 j μ9} I9 e9 R9 E9 g9=>by
     refine⟨n,XU _,i+1,_,H9,j,μ9,z,I9.unpinned,T.keep _ _ _ st7 λb B o e=>(I9.pin (b,o) (Xj _ (Xj _ (sA B e)))).1,λb B=>?_,e9,R9,E9,hb' _ _ _ hz,g9⟩;obtain⟨o,e,_⟩:=T.obj _ _ st7 b B;exact(I9.pin (b,o) (Xj _ (Xj _ (sA B e)))).2.1
    refine WB (hc _ _ _ _ _ s8 _ H8 (λb' H'=>∃j,b'=b/\Ext Q μ5.length H8 j μ6.length H'/\Rp X.K j H' μ6) I8 ⟨Q,_,μ5,b,μ6,R7,E8,h8,λj H9 e9 R9=>⟨j,rfl,e9,R9⟩⟩) (λok s9 ⟨H9,I9,j,B,e9,R9⟩=>?_) λ_ _ z=>z;subst B;cases ok with
    |false=>rw[if_neg VZ];exact again I9 (e5.trans e9) R9 (E8.mono e9) h9|true=>
     rw[if_pos rfl];obtain⟨⟨dy,μ7⟩,h11,h12⟩:=VF.mp h9;obtain⟨μ8,h13,h14⟩:=VF.mp h12;refine WB (he _ _ _ _ _ s9 _ H9 (λy H'=>∃A,Ext j μ6.length H9 A μ7.length H'/\Rp X.K A H' μ7/\IsD X.K A μ7.length H' y dy) I9 ⟨j,_,μ6,dy,μ7,R9,E8.mono e9,h11,λA y H10 e10 R10 i10=>⟨A,e10,R10,i10⟩⟩)
      (λu' s10 ⟨y,H10,I10,ry,A,e10,R10,i10⟩=>?_) λ_ _ z=>z
     unfold nK at h13;split at h13
     ·rename_i zs hz;split at h13
      ·rename_i hl;cases h13;obtain⟨vs,h15,h16⟩:=R10.lst _ zs hz;have eall:=(e5.trans e9).trans e10;have hp:A a.length=G.heap.objs.size:=by rw[eall.pi a.length (by simp),q2]
       obtain⟨e11,R11⟩:=R10.put (a:=a.length) (c:=.lst (zs++[dy])) (o:=.lst (vs++[y])) (VN.mp hz).1 h15 (.inl ⟨vs,rfl⟩) (h16.append (.cons i10 .nil));rw[hp]at h15 e11 R11;refine WB (B3 (X:=cG X scope cl s3.heap.objs.size (bD xs X.N++xs) s3 H3 l) _ s10 _ H10 (.ref G.heap.objs.size) [y] (.ref G.heap.objs.size) [u'] (λ_ H'=>H'=aI H10 G.heap.objs.size (.lst (vs++[y]))) I10 rfl (.cons ry .nil)
        ⟨G.heap.objs.size,vs,y,rfl,rfl,h15,by rw[h16.length];exact hl,rfl⟩) (λ_ s11 ⟨_,H11,I11,_,z⟩=>?_) λ_ _ z=>z
       subst z;exact again I11 (eall.trans e11) R11 ((E8.mono (e9.trans e10)).mono e11) h14
      ·cases h13
     ·cases h13
 have l4:=loop {s3 with heap:=h₁,toks:=G.toks+([]:List (Str×Value)).length} ⟨_,rfl⟩;have hst4:tn 0 h₁:=T.keep 0 _ _ st3 λb B o e=>hk1 b o e;subst hs3;exact codeAny_compStart_list l4 (T.self _ 0 _ _ _ hst4 l4)
theorem ML{q:Cx->Prop}(O:CompOk X scope cl xs)(N:∀a6G σ H s a,Inv X a6G σ H s->q (cG X scope cl s.heap.objs.size (bD xs X.N++xs) s H a))(J:pO q X tg iter (tMI X.K mi))(c:∀d u z,bd d u=b4 z->z.length=xs.length)(G:∀C s₀ H₀ a,PG (cG X scope cl C (bD xs X.N++xs) s₀ H₀ a) tg (tMG X.K (gB X.N.length bd)))
  (hc:∀C s₀ H₀ a,lZ (cG X scope cl C (bD xs X.N++xs) s₀ H₀ a) ifs mc)(B:∀C s₀ H₀ a,PE (cG X scope cl C (bD xs X.N++xs) s₀ H₀ a) elt (tM X.K me))
  (T:∀x,YW iter X.env x=pure x):PE X (.ListComp elt [⟨tg,iter,ifs,0⟩] scope pos) (tM X.K (eU bd mi mc me)):=by
 intro a6G s σ H Q I hw;obtain⟨π,ρ,u,d,μ',R,E,K,k⟩:=hw;rw[eval_ListComp];refine C7 (use:=b6) O N J c G hc B T I R E K λp C j l s' w v Y i U M h n r back=>?_;obtain⟨m,L⟩:=i;exact⟨m,L,λy Z=>⟨.ref p,l,back y (λb o A e=>(Z.2 b A).trans e),rfl,k j _ l w v Y⟩⟩
theorem MM(O:CompOk X scope cl xs)(a:X.calm=b8)(i:PI X tg iter (tMI X.K mi))(c:∀d l z,bd d l=b4 z->z.length=xs.length)(h:∀C s₀ H₀ b,PG (cG X scope cl C (bD xs X.N++xs) s₀ H₀ b) tg (tMG X.K (gB X.N.length bd)))
  (hc:∀C s₀ H₀ b,lZ (cG X scope cl C (bD xs X.N++xs) s₀ H₀ b) ifs mc)(e:∀C s₀ H₀ b,PE (cG X scope cl C (bD xs X.N++xs) s₀ H₀ b) elt (tM X.K me))
  (j:∀x,YW iter X.env x=pure x):PE X (.ListComp elt [⟨tg,iter,ifs,0⟩] scope pos) (tM X.K (eU bd mi mc me)):=ML O (λ_ _ _ _ _ _=>a) i c h hc e j
theorem MN{i:Nat}{y:Str}{py h:Xq}(O:CompOk X scope cl xs)(hN:X.N.Nodup)(j:X.calm=b8)(hi:PI X tg iter (tMI X.K mi))(G:∀d Z z,bd d Z=b4 z->z.length=xs.length)(hg:∀C s₀ H₀ q,PG (cG X scope cl C (bD xs X.N++xs) s₀ H₀ q) tg (tMG X.K (gB X.N.length bd)))
  (hc:∀C s₀ H₀ q,lZ (cG X scope cl C (bD xs X.N++xs) s₀ H₀ q) ifs mc)(he:∀C s₀ H₀ q,PE (cG X scope cl C (bD xs X.N++xs) s₀ H₀ q) elt (tM X.K me))
  (hs:∀x,YW iter X.env x=pure x)(hy:X.N[i]?=b4 y)(Y:X.env.scope.names.lookup y=b4 .local)
  (L:ZW (.ListComp elt [⟨tg,iter,ifs,0⟩] scope pos) (b4 (.Name y py)) h.line X.env=pure b8) :
  PS X (.Assign [.Name y py] (.ListComp elt [⟨tg,iter,ifs,0⟩] scope pos) h) (tMS X.K (aL i (eU bd mi mc me))):=by
 intro n s σ H EN I hw;obtain⟨π,ρ,Z,fl,ρ',μ',R,E,J,k⟩:=hw;obtain⟨⟨d,μ1⟩,h1,J⟩:=VJ.mp J;cases J;rw[exec_Assign_Name_used _ _ _ _ L];refine VH (a0u ?_);refine VH (VH ?_);refine C7 (use:=b4 (a1y (.Name y py) X.env)) (QQ:=λ_ v=>V2 (V8 X.prog X.w) X.A (pure ()) (λ_ N=>V2 (V8 X.prog X.w) X.A (pure Flow.next) (SP X n EN) X.xe N) X.xe v) O (λ_ _ _ _ _ _=>j) hi G hg hc he hs I R E h1 λp C T w v U R1 i1 K M r l c u back=>?_;obtain⟨m,hn⟩:=K;have I1:Inv X n σ w v:=back v.heap λb o _ e=>e;show V2 (V8 X.prog X.w) X.A (a1y (.Name y py) X.env (.ref p)) _ X.xe v;refine a5j ?_;refine r9 I1 hN hy (.inl Y) (show RelV (.ref p) (.ref p)from rfl) (λs2 I2 ⟨a,sb,B⟩=>?_) (.inr Y);have A:C≠a:=by
  rcases B with rfl|B
  ·exact r
  ·exact WG (c _ _ B)
 refine⟨m,hn.sameBut sb A,λh' Q=>VQ (VQ ?_)⟩;refine⟨σ.set i (b4 (.ref p)),w,I2.turned (t':=s2.toks) (λb o hb e=>(Q.2 b hb).trans e) l r (.inr M) c u,?_⟩;exact k T _ w U R1 ((E.mono U).set i1 i)
end
end L3
namespace L3
open PySem L2
noncomputable def bS:ME:=λ_ _=>b6
noncomputable def l8:MT:=λ_ _=>b6
noncomputable def bZ:MS:=λ_ _=>b6
section
variable{X:Cx}{e a b c o:Expr}{m m1 m2 ma mb mc:ME}{pos:Xq}{mt mu:MT}{rest es:List Expr}{ms:MA}{n:Nat}
theorem bU:QE X e bS:=⟨λa6G s σ H Q I h=>by
 obtain⟨p,q,l,d,j,R,E,i,k⟩:=h;cases i⟩
theorem xW:QT X e l8:=⟨λa6G s σ H Q I h=>by
 obtain⟨p,q,l,d,j,R,E,i,k⟩:=h;cases i⟩
theorem MP:QW X e l8:=⟨λl a6G s σ H Q I h=>by
 obtain⟨q,r,p,d,j,R,E,i,k⟩:=h;cases i⟩
theorem cT{st:Stmt}:QS X st bZ:=⟨λa6G s σ H D I h=>by
 obtain⟨q,r,p,l,j,i,R,E,d,k⟩:=h;cases d⟩
theorem sV{g:MG}(p:∀d l j,g d l j=b6):QG X e g:=⟨λa6G s σ H v u Q I r h=>by
 obtain⟨w,l,j,d,q,R,E,hd,i,k⟩:=h;rw[p]at i;cases i⟩
theorem l9(h1:QE X e m1)(u:QE X e m2)(h:∀j i r,m j i=b4 r->m1 j i=b4 r\/m2 j i=b4 r):QE X e m:=⟨λa6G s σ H Q I q=>by
 obtain⟨p,j,i,d,l,R,E,v,k⟩:=q;rcases h j i _ v with z|z
 ·exact h1.h a6G s σ H Q I ⟨p,j,i,d,l,R,E,z,k⟩
 ·exact u.h a6G s σ H Q I ⟨p,j,i,d,l,R,E,z,k⟩⟩
theorem nQ{m m1 m2:MT}(h1:QT X e m1)(u:QT X e m2)(h:∀j i r,m j i=b4 r->m1 j i=b4 r\/m2 j i=b4 r):QT X e m:=⟨λa6G s σ H Q I q=>by
 obtain⟨p,j,i,d,l,R,E,v,k⟩:=q;rcases h j i _ v with z|z
 ·exact h1.h a6G s σ H Q I ⟨p,j,i,d,l,R,E,z,k⟩
 ·exact u.h a6G s σ H Q I ⟨p,j,i,d,l,R,E,z,k⟩⟩
theorem gQ{f l s:D->D->Hm->Option (D×Hm)}(h:∀x y d r,f x y d=b4 r->l x y d=b4 r\/s x y d=b4 r) :
  ∀j d r,aC f ma mb j d=b4 r->aC l ma mb j d=b4 r\/aC s ma mb j d=b4 r:=by
 intro j d r i;obtain⟨p,u,i⟩:=VF.mp i;obtain⟨q,v,i⟩:=VF.mp i;rcases h _ _ _ _ i with z|z
 ·exact .inl (VF.mpr ⟨p,u,VF.mpr ⟨q,v,z⟩⟩)
 ·exact .inr (VF.mpr ⟨p,u,VF.mpr ⟨q,v,z⟩⟩)
theorem nR(h:∀i d r,m i d=b4 r->m1 i d=b4 r\/m2 i d=b4 r):∀i d r,aS m i d=b4 r->aS m1 i d=b4 r\/aS m2 i d=b4 r:=by
 intro i d r j;obtain⟨p,l,j⟩:=VF.mp j;rcases h _ _ _ l with z|z
 ·exact .inl (VF.mpr ⟨p,z,j⟩)
 ·exact .inr (VF.mpr ⟨p,z,j⟩)
noncomputable def nU:List D->Option (List Int)
 |[]=>b4 []|.int i::r=>(nU r).map (i::·)|_=>b6
noncomputable def cU:D->Option (List Int)
 |.tup ds=>nU ds|_=>b6
noncomputable def bP(kvs:List (List Int×D))(k:List Int):Option D:=(kvs.find? λp=>decide (p.1=k)).map (·.2)
noncomputable def d8(kvs:List (List Int×D))(k:List Int)(d:D):List (List Int×D):=if(bP kvs k).isSome then kvs.map (λp=>if p.1=k then(p.1,d)else p)else kvs++[(k,d)]
noncomputable def aG:D->D->Hm->Option (D×Hm):=λx y h=>match x with
 |.loc a=>match h[a]? with
  |some (.dT kvs)=>(cU y).bind λk=>(bP kvs k).map λd=>(d,h)|some (.dF kvs)=>(cU y).bind λk=>(bP kvs k).map λd=>(d,h)|_=>gN x y h
 |_=>gN x y h
structure TabOk(X:Cx)(x:Str)(kvs:List (aQ×D)):Prop where
 ex:∃(p:Addr)(vs:List (aQ×V))(ws:List (aQ×Value)),X.mg x=b4 (.ref p)/\(∀h:WI,X.K.In h->h.DictOf (lK X.prog X.w) p ws)/\KV vs ws/\∀π n H,IsKs X.K π n H vs kvs
theorem C8{a6G:List (Addr×Obj)}{σ:St}{H:Hp}{s:VL}(I:Inv X a6G σ H s){p:Addr}{d:Obj}(h:X.K.lookup p=b4 d):H p=none:=(I.bs p d (I.mod.kin p d h)).2
theorem C9{K:VG}{π:Nat->Addr}{H:Hp}{l:Hm}(R:Rp K π H l){d:Nat}(w:d<l.length):∃u,H (π d)=b4 u/\(∀vs,u≠.tup vs)/\∀j v,(∀p,v≠HO.ext p)->u≠.frz j v:=by
 cases q:l[d]? with
 |none=>exact absurd (Ws.mp q) (by omega)|some r=>
  cases r with
  |lst i=>obtain⟨vs,h,_⟩:=R.lst d i q;exact⟨_,h,(λ_ z=>nomatch z),λ_ _ _ z=>nomatch z⟩|dK i=>obtain⟨vs,h,_⟩:=R.dK d i q;exact⟨_,h,(λ_ z=>nomatch z),λ_ _ _ z=>nomatch z⟩|st i=>obtain⟨vs,h,_⟩:=R.st d i q;exact⟨_,h,(λ_ z=>nomatch z),λ_ _ _ z=>nomatch z⟩|dT i=>obtain⟨vs,h,_⟩:=R.dT d i q;exact⟨_,h,(λ_ z=>nomatch z),λ_ _ _ z=>nomatch z⟩|dF i=>obtain⟨j,vs,h,_⟩:=R.dF d i q;exact⟨_,h,(λ_ z=>nomatch z),λ_ _ n z=>n _ (by cases z;rfl)⟩|exc x s ds=>obtain⟨j,p,h,_⟩:=R.exc d x s ds q;exact⟨_,h,(λ_ z=>nomatch z),λ_ _ n z=>n _ (by cases z;rfl)⟩
section
variable{a6G:List (Addr×Obj)}{σ:St}{H:Hp}{s:VL}{π:Nat->Addr}{μ:Hm}
theorem Dc(I:Inv X a6G σ H s)(R:Rp X.K π H μ){i:Nat}(p:i<μ.length){vs:List V}(h:SqT X.K H (π i) vs):False:=by
 obtain⟨u,d,j,l⟩:=C9 R p;rcases h with(h|⟨v,h⟩)|⟨v,r,n,q,_⟩
 ·rw[d]at h;exact j _ (VY h)
 ·rw[d]at h;exact l _ (.tup vs) (λw z=>nomatch z) (VY h)
 ·rw[C8 I q]at d;cases d
theorem Dd(I:Inv X a6G σ H s)(R:Rp X.K π H μ){i:Nat}(l:i<μ.length){vs:List V}(h:RoL X.K H (π i) vs):False:=by
 obtain⟨u,d,v,j⟩:=C9 R l;rcases h with⟨r,h⟩|⟨r,q,n,p,_⟩
 ·rw[d]at h;exact j _ (.lst vs) (λw z=>nomatch z) (VY h)
 ·rw[C8 I p]at d;cases d
theorem De(I:Inv X a6G σ H s){p:Addr}{vs ws:List V}(h:SqT X.K H p vs)(h':RoL X.K H p ws):False:=by obtain⟨i,_,t,_⟩:=I.tuple h;obtain⟨d,_,l,_⟩:=I.list h'.sq;exact absurd rfl (XI l.isList t)
mutual
theorem xX(I:Inv X a6G σ H s)(R:Rp X.K π H μ){v:V}{d d':D}:IsD X.K π μ.length H v d->IsD X.K π μ.length H v d'->d=d'
 |.non,h'=>by cases h';rfl
 |.bl _,h'=>by cases h';rfl
 |.int _,h'=>by cases h';rfl
 |.str _,h'=>by cases h';rfl
 |.ty _,h'=>by cases h';rfl
 |.tup h t,h'=>by
  cases h' with
  |tup i j=>have:=I.tuple_inj h i;subst this;rw[xY I R t j]|rol i j=>exact(De I h i).elim|loc i=>exact(Dc I R i h).elim
 |.rol h t,h'=>by
  cases h' with
  |tup i j=>exact(De I i h).elim|rol i j=>have:=I.list_inj h.sq i.sq;subst this;rw[xY I R t j]|loc i=>exact(Dd I R i h).elim
 |.loc (a:=a1) ha,h'=>by
  generalize hz:V.ref (π a1)=z at h';cases h' with
  |tup i j=>cases hz;exact(Dc I R ha i).elim|rol i j=>cases hz;exact(Dd I R ha i).elim|loc i=>have:=R.inj _ _ ha i (V.ref.inj hz);rw[this]|_=>cases hz
theorem xY(I:Inv X a6G σ H s)(R:Rp X.K π H μ){vs:List V}{ds d:List D}:IsDs X.K π μ.length H vs ds->IsDs X.K π μ.length H vs d->ds=d
 |.nil,h'=>by cases h';rfl
 |.cons h t,h'=>by
  cases h' with
  |cons i j=>rw[xX I R h i,xY I R t j]
end
end
noncomputable def jZ(a:Hm)(x:D):List D->Option Bool
 |[]=>b4 b7|y::r=>(cS 8 a y x).bind λb=>(jZ a x r).map λc=>b||c
noncomputable def mB(a:Bool):D->D->Hm->Option (D×Hm):=λx y c=>(bF c y).bind λd=>(jZ c x d).map λb=>(.bl (if a then !b else b),c)
noncomputable def xZ(K:VG)(c:Bool):R2:=λx y H Q=>∃π a d e h b,Rp K π H a/\IsD K π a.length H x d/\IsD K π a.length H y e/\bF a e=b4 h/\jZ a d h=b4 b/\Q (.bl (if c then !b else b)) H
theorem sW{K:VG}{c:Bool}:cX K (mB c) (xZ K c):=by intro e H q x y d n o p Q R j l a k;obtain⟨m,h,a⟩:=VF.mp a;obtain⟨b,i,a⟩:=VJ.mp a;cases a;exact⟨e,_,x,y,m,b,R,j,l,h,i,k e _ H .refl R (.bl _)⟩
theorem sX{a6G:List (Addr×Obj)}{σ:St}{H:Hp}{s:VL}{π:Nat->Addr}{i:Hm}(I:Inv X a6G σ H s)(R:Rp X.K π H i){A:Wh}(U:A.units+8<Xs){x:V}{v:Value}{n:D}(rx:RelV x v)(ix:IsD X.K π i.length H x n) :
  ∀{e:List D}{vs:List V}{us:List Value}{b:Bool},IsDs X.K π i.length H vs e->Vals vs us->jZ i n e=b4 b->
   ∃g:Value->Bool,(∀u∈us,Zb A s u v (g u))/\us.any g=b:=by
 classical
 intro e vs us b l m d
 have p:∀{e:List D}{vs:List V}{us:List Value}{b:Bool},IsDs X.K π i.length H vs e->Vals vs us->jZ i n e=b4 b->(∀u∈us,∃c,Zb A s u v c/\∃w o,RelV w u/\IsD X.K π i.length H w o/\cS 8 i o n=b4 c):=by
  intro e
  induction e with
  |nil=>
   intro vs us b l m d u a
   cases l
   cases m
   cases a
  |cons y e K=>
   intro vs us b l m d u a
   cases l with
   |cons h t=>
    cases m with
    |cons r rt=>
     obtain⟨c,E,d⟩:=VF.mp d
     obtain⟨O,G,d⟩:=VJ.mp d
     rcases Wr.mp a with rfl|a
     ·exact⟨c,xG I R 8 U r rx h ix E,_,_,r,h,E⟩
     ·exact K t rt G u a
 have q:=p l m d
 refine⟨λu=>if h:u∈us then YO (q u h)else b7,λu a=>?_,?_⟩
 ·simp only[dif_pos a]
  exact(Zo (q u a)).1
 ·have L:∀u (h:u∈us) w o c,RelV w u->IsD X.K π i.length H w o->cS 8 i o n=b4 c->YO (q u h)=c:=by
   intro u h w o c M iw N
   obtain⟨_,w2,Q,r2,Z,T⟩:=Zo (q u h)
   have:w2=w:=r2.inj M
   subst this
   have:=xX I R Z iw
   subst this
   rw[T]at N
   exact VY N
  have B:∀{e:List D}{vs:List V}{j:List Value}{b:Bool},(∀u∈j,u∈us)->IsDs X.K π i.length H vs e->Vals vs j->jZ i n e=b4 b->j.any (λu=>if h:u∈us then YO (q u h)else b7)=b:=by
   intro e
   induction e with
   |nil=>
    intro vs j b J l m d
    cases l
    cases m
    cases d
    rfl
   |cons y e K=>
    intro vs j b J l m d
    cases l with
    |cons h t=>
     cases m with
     |@cons _ u _ us2 r rt=>
      obtain⟨c,E,d⟩:=VF.mp d
      obtain⟨O,G,d⟩:=VJ.mp d
      have fP:u∈us:=J u (WS ..)
      rw[YC,K (λz Y=>J z (Wn _ Y)) t rt G,dif_pos fP,L u fP _ _ c r h E]
      exact d
  exact B (λ_ h=>h) l m d
theorem sY{k:Nat}{A:Wh}(r:Room k A):A.units+9<Xs:=by have:=r.un;omega
theorem Df(J:X.A.units+9<Xs):OpR X (W6 .In) (xZ X.K b7):=by
 intro n s O H x y v u Q I m B h;obtain⟨N,M,E,G,L,b,R,l,A,o,j,q⟩:=h;obtain⟨p,K,rfl,c,hd⟩:=nN R A o;cases B;rcases c with c|c
 ·obtain⟨a,r,i,z⟩:=I.list c;obtain⟨g,d,e⟩:=sX I R (A:=X.A.in1) (by rw[hX];omega) m l hd r j;refine SeqAt.in_listAt g i.isList (λw hw=>d w (by simpa using hw)) ⟨.bl _,H,I,rfl,?_⟩;rw[show a.toArray.any g=a.any g by simp,e];exact q
 ·obtain⟨a,r,i,z⟩:=I.tuple c;obtain⟨g,d,e⟩:=sX I R (A:=X.A.in1) (by rw[hX];omega) m l hd r j;refine SeqAt.in_tupleAt g i (λw hw=>d w (by simpa using hw)) ⟨.bl _,H,I,rfl,?_⟩;rw[show a.toArray.any g=a.any g by simp,e];exact q
theorem Dg(J:X.A.units+9<Xs):OpR X (W6 .NotIn) (xZ X.K b8):=by
 intro n s O H x y v u Q I m B h;obtain⟨N,M,E,G,L,b,R,l,A,o,j,q⟩:=h;obtain⟨p,K,rfl,c,hd⟩:=nN R A o;cases B;rcases c with c|c
 ·obtain⟨a,r,i,z⟩:=I.list c;obtain⟨g,d,e⟩:=sX I R (A:=X.A.in1) (by rw[hX];omega) m l hd r j;refine SeqAt.notIn_listAt g i.isList (λw hw=>d w (by simpa using hw)) ⟨.bl _,H,I,rfl,?_⟩;rw[show a.toArray.any g=a.any g by simp,e];exact q
 ·obtain⟨a,r,i,z⟩:=I.tuple c;obtain⟨g,d,e⟩:=sX I R (A:=X.A.in1) (by rw[hX];omega) m l hd r j;refine SeqAt.notIn_tupleAt g i (λw hw=>d w (by simpa using hw)) ⟨.bl _,H,I,rfl,?_⟩;rw[show a.toArray.any g=a.any g by simp,e];exact q
noncomputable def dE(b:Bool):D->D->Hm->Option (D×Hm)
 |.str i,.str j,μ=>b4 (.bl (if b then !(!(Xo j i 0 j.length 1).isEmpty)else !(Xo j i 0 j.length 1).isEmpty),μ)|x,.loc a,μ=>match μ[a]? with
  |some (.dT kvs)=>(cU x).map λk=>(.bl (if b then !(bP kvs k).isSome else(bP kvs k).isSome),μ)|some (.dF kvs)=>(cU x).map λk=>(.bl (if b then !(bP kvs k).isSome else(bP kvs k).isSome),μ)|_=>mB b x (.loc a) μ
 |x,y,μ=>mB b x y μ
noncomputable def yA:D->D->Hm->Option (D×Hm)
 |.str i,.str j,μ=>b4 (.bl (!(!(Xo j i 0 j.length 1).isEmpty)),μ)|_,_,_=>b6
theorem Dh{K:VG}:cX K yA (λx y H Q=>∃i j,x=.str i/\y=.str j/\Q (.bl (!(!(Xo j i 0 j.length 1).isEmpty))) H):=by
 intro h H n x y d e l m Q R b c a k;unfold yA at a;split at a
 ·cases a;cases b;cases c;exact⟨_,_,rfl,rfl,k h _ H .refl R (.bl _)⟩
 ·cases a
noncomputable def jG(a:Bool):D->D->Hm->Option (D×Hm)
 |x,.non,μ=>b4 (.bl (match x with|.non=>!a|_=>a),μ)|_,_,_=>b6
theorem Di{K:VG}:cX K (jG b7) (λx y H Q=>y=.non/\Q (.bl (decide (x=.non))) H):=by
 intro h H l x y d e i j Q R b c a k;unfold jG at a;split at a
 ·cases a;cases c;refine⟨rfl,?_⟩;cases b<;>exact k h _ H .refl R (.bl _)
 ·cases a
theorem Dj{K:VG}:cX K (jG b8) (λx y H Q=>y=.non/\Q (.bl (!decide (x=.non))) H):=by
 intro h H l x y d e i j Q R b c a k;unfold jG at a;split at a
 ·cases a;cases c;refine⟨rfl,?_⟩;cases b<;>exact k h _ H .refl R (.bl _)
 ·cases a
theorem MQ(c:QE X a ma)(d:QE X b mb):QE X (.Compare a [.Is] [b] pos) (aC (jG b7) ma mb):=⟨e8 BB Di c.h d.h (dN _)⟩
theorem MU(c:QE X a ma)(d:QE X b mb):QE X (.Compare a [.IsNot] [b] pos) (aC (jG b8) ma mb):=⟨e8 BC Dj c.h d.h (dN _)⟩
theorem MV(c:QE X a ma)(d:QE X b mb):QT X (.Compare a [.Is] [b] pos) (aS (aC (jG b7) ma mb)):=⟨fA BB Di c.h d.h (dN _)⟩
theorem MW(c:QE X a ma)(d:QE X b mb):QT X (.Compare a [.IsNot] [b] pos) (aS (aC (jG b8) ma mb)):=⟨fA BC Dj c.h d.h (dN _)⟩
end
end L3
namespace L3
open PySem L2
section
variable{X:Cx}{e a b c o:Expr}{m m1 m2 ma mb mc mo:ME}{pos apos cpos:Xq}{mt mu:MT}{rest es:List Expr}{ms:MA}{n:Nat}
noncomputable def nV(d:Hm):D->Bool
 |.rol _=>b8|.loc a=>match d[a]? with|some (.lst _)=>b8|_=>b7
 |_=>b7
noncomputable def dG(f:D->List D->Hm->Option (D×Hm))(mo:ME)(ms:MA):ME:=λd h=>(mo d h).bind λp=>match nV p.2 p.1 with
 |true=>(ms d p.2).bind λq=>f p.1 q.1 q.2|false=>b6
noncomputable def nW(K:VG)(f:D->List D->Hm->Option (D×Hm))(r:V->List V->Hp->VK->Prop):Prop:=
 ∀j H h x p d i v l Q,Rp K j H h->IsD K j h.length H v x->IsDs K j h.length H l p->f x p h=b4 (d,i)->KC K Q j h.length H d i->r v l H Q
theorem MX{K:VG}{π:Nat->Addr}{H:Hp}{d:Hm}{v:V}{x:D}(R:Rp K π H d)(h:IsD K π d.length H v x)(e:nV d x=b8):w5 K "list" v H:=by
 cases h with
 |rol h t=>exact .inl ⟨rfl,_,h.sq⟩|@loc a q=>
  simp only[nV]at e;split at e
  ·rename_i p j;obtain⟨l,i,_⟩:=R.lst a p j;exact .inl ⟨rfl,l,.of i⟩
  ·cases e
 |_=>cases e
theorem MY{K:VG}{f:D->List D->Hm->Option (D×Hm)}{r:V->List V->Hp->VK->Prop}(I:nW K f r):∀σ H Q,tM K (dG f mo ms) σ H Q->B1 K "list" r (tM K mo) (tMA K ms) σ H Q:=by
 rintro σ H Q ⟨T,z,O,d,l,R,E,h,k⟩;obtain⟨⟨x,i⟩,B,h⟩:=VF.mp h;dsimp only at h;split at h
 ·rename_i J;obtain⟨⟨y,j⟩,G,h⟩:=VF.mp h;refine⟨T,z,O,x,i,R,E,B,λp M U u s w=>⟨MX s w J,p,z,i,y,j,s,E.mono u,G,λq N A v R2 L=>?_⟩⟩;exact I q A j x y d l M N Q R2 (w.mono v) L h (k.after (u.trans v))
 ·cases h
noncomputable def jH:Expr->Bool
 |.Call (.Name _ _) [] [] _=>b7|_=>b8
theorem mD{o:Expr}{j:Str}{env:a0k}{d:a5I Value}(h:jH o=b8):Zq o j env d=d:=by
 cases o with
 |Call f i l p=>
  cases f with
  |Name id q=>
   cases i with
   |nil=>
    cases l with
    |nil=>cases h|cons _ _=>rfl
   |cons _ _=>rfl
  |_=>rfl
 |_=>rfl
theorem MZ{e:Expr}{es:List Expr}{env:a0k}{cpos:Xq}(h:(e::es).all c7=b8)(j:(e::es).length<30) :
  ((Yy cpos (Wt (e::es) env)).all (λx=>!x.1)&&(a2U cpos (a0W [] env)).all (λx=>x.1.isSome)
   && decide ((e::es).length+([]:List Zv).length+(if([]:List Zv).isEmpty then 0 else 1)<30))=true:=by
 have d:(Yy cpos (Wt (e::es) env)).all (λx=>!x.1)=true:=by have:=kN (pos:=cpos) (env:=env) h;rw[List.all_eq_not_any_not];simpa using this
 rw[d];have i:(e::es).length+([]:List Zv).length+(if([]:List Zv).isEmpty then 0 else 1)<30:=by show(e::es).length+0+0<30;omega
 rw[decide_eq_true i];rfl
theorem sZ{f:D->List D->Hm->Option (D×Hm)}{r:V->List V->Hp->VK->Prop}{name:Str}{id:String}(slot:Slot "list" name id) (i:typeOf (.builtin id)=pure (.type "method_descriptor")) (q:pS X id r)(l:nW X.K f r)
  (u:QE X o mo)(j:QA X (e::es) ms n)(v:jH o=b8)(p:(apos.endLine==cpos.line)=b8)(s:(e::es).length<30):QE X (.Call (.Attribute o name apos) (e::es) [] cpos) (dG f mo ms):=by
 have h:=j.s;have d:=h;rw[WE,VO]at d;exact⟨dC (JF PySem.F.plainAttrs_list slot i q u.h j.h (mD v) (MZ h s) p (fC d.1) (kN d.2)) (MY l)⟩
noncomputable def fD:D->List D->Hm->Option (D×Hm)
 |.loc a,[y],μ=>(nK μ a y).map λd=>(.non,d)|_,_,_=>b6
noncomputable def jI:D->List D->Hm->Option (D×Hm)
 |.loc a,[.loc b],μ=>match μ[a]?,μ[b]? with
  |some (.lst xs),b4 (.lst ys)=>if xs.length+ys.length<=VW then b4 (.non,μ.set a (.lst (xs++ys)))else b6|_,_=>b6
 |_,_,_=>b6
theorem M0{K:VG}:nW K fD B2:=by
 intro J H N x M d G v L Q R B j i k;unfold fD at i;split at i
 ·rename_i a y;obtain⟨I,h,i⟩:=VJ.mp i;cases i;unfold nK at h;split at h
  ·rename_i s r;split at h
   ·rename_i z;cases h;obtain⟨l,p,q⟩:=R.lst a s r;cases B;cases j with
    |cons E A=>cases A;obtain⟨w,u⟩:=R.put (a:=a) (c:=.lst (s++[y])) (o:=.lst (l++[_])) (VN.mp r).1 p (.inl ⟨l,rfl⟩) (q.append (.cons E .nil));exact⟨_,l,_,rfl,rfl,p,by rw[q.length];exact z,k J _ _ w u .non⟩
   ·cases h
  ·cases h
 ·cases i
theorem M3{K:VG}:nW K jI B4:=by
 intro M H T x O d L v N Q R I i h k;unfold jI at h;split at h
 ·rename_i a b;split at h
  ·rename_i w u r E;split at h
   ·rename_i B;cases h;obtain⟨j,l,p⟩:=R.lst a w r;obtain⟨s,A,q⟩:=R.lst b u E;cases I;cases i with
    |cons J G=>cases G;cases J;obtain⟨z,y⟩:=R.put (a:=a) (c:=.lst (w++u)) (o:=.lst (j++s)) (VN.mp r).1 l (.inl ⟨j,rfl⟩) (p.append q);exact⟨_,_,j,s,rfl,rfl,l,A,by rw[p.length,q.length];exact B,k M _ _ z y .non⟩
   ·cases h
  ·cases h
 ·cases h
noncomputable def nX(d:Hm):D->Option Bool
 |.non=>b4 b7|.bl b=>b4 b|.int i=>b4 (i != 0)|.str z=>if z.length<=VW then b4 ((z.length:Int) != 0)else b6|.tup xs=>b4 (!xs.isEmpty)|.rol xs=>b4 (!xs.isEmpty)|.loc a=>match d[a]? with|some (.lst xs)=>b4 (!xs.isEmpty)|some (.dK kvs)=>b4 (!kvs.isEmpty)|_=>b6
 |.ty _=>b6
theorem tB{i j:Type}{xs:List i}{d:List j}(h:xs.length=d.length):xs.isEmpty=d.isEmpty:=by cases xs<;>cases d<;>first|rfl|cases h
theorem M4{K:VG}{π:Nat->Addr}{H:Hp}{r:Hm}{v:V}{x:D}{b:Bool}(R:Rp K π H r)(h:IsD K π r.length H v x)(e:nX r x=b4 b):wM K v H b:=by
 cases h with
 |non=>cases e;rfl|bl c=>cases e;rfl|int i=>cases e;rfl|str z=>
  simp only[nX]at e;split at e
  ·rename_i s;cases e;exact⟨s,rfl⟩
  ·cases e
 |tup h t=>cases e;exact .inr (.inl ⟨_,h,by rw[tB t.length]⟩)|rol h t=>cases e;exact .inl ⟨_,h.sq,by rw[tB t.length]⟩|@loc a w=>
  simp only[nX]at e;split at e
  ·rename_i u l;cases e;obtain⟨q,d,j⟩:=R.lst a u l;exact .inl ⟨q,.of d,by rw[tB j.length]⟩
  ·rename_i p l;cases e;obtain⟨q,d,j,_⟩:=R.dK a p l;refine .inr (.inr ⟨q,d,?_⟩);have:=congrArg Xc j;rw[VI,VI]at this;rw[tB this]
  ·cases e
 |ty n=>cases e
noncomputable def d9(m:ME):MT:=λh d=>(m h d).bind λp=>(nX p.2 p.1).map λb=>(b,p.2)
theorem M5(h:QE X e m)(s:xS e=b8):QT X e (d9 m):=⟨sH (IL h.h (L9 s)) (by
 rintro I H Q ⟨z,A,v,b,w,R,E,d,k⟩;obtain⟨⟨x,y⟩,q,d⟩:=VF.mp d;obtain⟨B,r,d⟩:=VJ.mp d;cases d;exact⟨z,A,v,x,_,R,E,q,λi G l p j u=>⟨_,M4 j u r,k i l p j⟩⟩)⟩
theorem M6{k:Nat}{f:Addr}{l:Xy}{ps:List Str}{q:MF}{x:Str}{p:Xq}(F:FnOk X.prog X.w X.K X.mg X.base dY k f l ps (iI X.K 0 q))(w:Room k X.A)(h:X.mg x=b4 (.ref f))
  (v:WX X.K (.ref f)=b8)(s:Binds X.K l ps [])(u:Gl X x)(i:(x==("__debug__":Str))=b7):QE X (.Call (.Name x p) [] [] pos) (aF q aD):=
 ⟨dC (Jb F w u h v s .nil (E:=E0) B8 i) (by
  rintro I H Q ⟨A,G,y,d,j,R,E,h,k⟩;obtain⟨⟨B,z⟩,r,h⟩:=VF.mp h;cases r;exact⟨rfl,A,[],y,d,j,R,.nil,h,k⟩)⟩
noncomputable def mE(c:MT)(b:MS):Nat->MS
 |0,_,_=>b6|n+1,ρ,μ=>(c ρ μ).bind λp=>match p.1 with
  |false=>b4 (.nx,ρ,p.2)|true=>(b ρ p.2).bind λq=>match q.1 with
   |.nx=>mE c b n q.2.1 q.2.2|.ct=>mE c b n q.2.1 q.2.2|.bk=>b4 (.nx,q.2.1,q.2.2)|.rt d=>b4 (.rt d,q.2.1,q.2.2)
noncomputable def nY(n:Nat)(c:MT)(b:MS):MS:=mE c b n
theorem M7{body:List Stmt}{mb:MS}(n:Nat)(hc:QT X c mt)(hb:QB X body mb)(hp:a2n (V8 X.prog X.w) X.A X.env X.xe):QS X (.While c body [] pos) (nY n mt mb):=⟨iJ (Ik hp hc.h hb.h) (by
 rintro E σ H ⟨Z,ρ,Y,T,G,A,R,EN,hm,k⟩;have r:∀{i:Nat->Addr}{n2:Nat}{H2:Hp}(e:Ext Z Y.length H i n2 H2),lT X.K E i n2 H2 T G A:=λ{i n2 H2} e=>by
  cases T with
  |nx=>exact λj u z l y K=>k j u z (e.trans l) y K|bk=>exact λj u z l y K=>k j u z (e.trans l) y K|ct=>exact λj u z l y K=>k j u z (e.trans l) y K|rt d=>exact KC.after k e
 refine⟨λm w x=>∃i p s,Ext Z Y.length H i p.length x/\Rp X.K i x p/\En X.K i p.length x w s/\mE mt mb m s p=b4 (T,G,A),⟨n,Z,Y,ρ,.refl,R,EN,hm⟩,?_⟩;rintro m σ1 H1 ⟨i,p,s,N,R2,E2,h2⟩;cases m with
 |zero=>cases h2|succ m=>
  obtain⟨⟨b,Q⟩,h3,h4⟩:=VF.mp h2;refine⟨i,s,p,b,Q,R2,E2,h3,λj z l y=>?_⟩;cases b with
  |false=>refine kJ ?_;cases h4;exact r N j σ1 z l y (E2.mono l)|true=>
   refine kK ?_;obtain⟨⟨f4,I,B⟩,h5,U⟩:=VF.mp h4;refine⟨λw x=>∃h v q,Ext Z Y.length H h q.length x/\Rp X.K h x q/\En X.K h q.length x w v/\mE mt mb m v q=b4 (T,G,A),
    λw x ⟨h,v,q,a1,a2,a3,a4⟩=>⟨m,XU _,h,q,v,a1,a2,a3,a4⟩,j,s,Q,f4,I,B,y,E2.mono l,h5,?_⟩
   cases f4 with
   |nx=>exact λh J H5 O M L=>⟨h,I,B,(N.trans l).trans O,M,L,U⟩|ct=>exact λh J H5 O M L=>⟨h,I,B,(N.trans l).trans O,M,L,U⟩|bk=>cases U;exact λh J H5 O M L=>r (N.trans l) h J H5 O M L|rt d'=>
    cases U;exact r (N.trans l))⟩
theorem M8:QS X (.Return b6 pos) (aO (mC .non)):=⟨iJ HZ (by
 rintro E s H ⟨i,r,q,p,j,h,R,l,d,k⟩;cases d;exact k i .non H .refl R .non)⟩
end
end L3
namespace L3
open PySem L2
noncomputable def nZ:List D->Option (List Bool)
 |[]=>b4 []|.bl b::r=>(nZ r).map (b::·)|_=>b6
noncomputable def tD:MF:=λds a=>match ds with
 |[x]=>(bF a x).bind λb=>(nZ b).map λbs=>(.bl (bs.all id),a)|_=>b6
theorem Dk{K:VG}{π:Nat->Addr}{n:Nat}{H:Hp}:∀{xs:List D}{vs:List V}{bs:List Bool},IsDs K π n H vs xs->nZ xs=b4 bs->vs=bs.map V.bl
 |[],_,bs,h,e=>by cases h;cases e;rfl
 |x::xs,vs,bs,h,e=>by
  cases h with
  |cons h t=>
   cases x with
   |bl b=>obtain⟨a,c,d⟩:=VJ.mp e;subst d;cases h;rw[Dk t c];rfl|_=>cases e
noncomputable def Dl(K:VG)(g:List Bool->Bool):List V->Hp->VK->Prop:=λxs H Q=>∃p bs,xs=[.ref p]/\(SqL K H p (bs.map V.bl)\/SqT K H p (bs.map V.bl))/\Q (.bl (g bs)) H
theorem M9{K:VG}{g:List Bool->Bool}{f:MF}(h:f=λds b=>match ds with|[x]=>(bF b x).bind λxs=>(nZ xs).map λbs=>(.bl (g bs),b)|_=>b6):dZ K f (Dl K g):=by
 subst h;intro l H b xs d j m Q R i a k;dsimp only at a;split at a
 ·obtain⟨o,c,a⟩:=VF.mp a;obtain⟨bs,e,a⟩:=VJ.mp a;cases a;cases i with
  |cons i t=>cases t;obtain⟨p,n,rfl,q,hd⟩:=nN R i c;have:=Dk hd e;subst this;exact⟨p,bs,rfl,q,k l _ H .refl R (.bl _)⟩
 ·cases a
theorem Dm{bs:List Bool}{n:Nat}(a:n=bs.length):(Wf n).all (λi=>bs.getD i b7)=bs.all id:=by
 subst a;induction bs with
 |nil=>rfl|cons b bs c=>rw[Wc,a0s,WE,a2K,WE,<- c];rfl
section
variable{X:Cx}
theorem Dn{prog:V6}{w:Wj}{A:Wh}{bs:List Bool}{a:List Value}(r:Vals (bs.map V.bl) a):TruthOf prog w A (λi v=>a.toArray[i]?=b4 v) (λi=>bs.getD i b7):=by
 intro i v s Q E l c;have b:a[i]?=b4 v:=by simpa using l
 have h:i<bs.length:=by have:=(VN.mp b).1;have:=r.length;rw[VI]at this;omega
 obtain⟨u,d,j⟩:=r.get (i:=i) (x:=.bl bs[i]) (by rw[V5,VT h];rfl);rw[b]at d;cases d;cases j;have e:bs.getD i b7=bs[i]:=by simp[W3,h]
 dsimp only at c;rw[e]at c;exact Xl c
theorem Na(hc:X.calm=b8):CallR X (.builtin "all") (Dl X.K (·.all id)):=by
 intro z s K H J G Q I r h;obtain⟨p,bs,rfl,l,q⟩:=h;obtain⟨u,rfl,E⟩:=i8 r;cases E;have y:X.A.in1.handled=none:=I.ok.hd hc;rcases l with l|l
 ·obtain⟨a,m,j,B⟩:=I.list l;refine call_all_walk (a0q j.isList ?_);have d:p≠s.heap.objs.size:=by obtain⟨o,v,_⟩:=j.isList;exact V4 (VR v)
  refine⟨s.heap.objs.size,_,_,_,_,_,λi=>bs.getD i b7,rfl,a5H y _ p d a.toArray,⟨⟨_,VX _ rfl,rfl,rfl⟩,j.isList.push _⟩,Dn m,λA x w=>?_⟩;have c:a.toArray.size=bs.length:=by rw[V7,<- m.length,VI]
  refine⟨.bl _,H,I.kept (t':=x) λb o e=>w b o ?_ (VM _ e),rfl,?_⟩
  ·intro n;have:b=s.heap.objs.size:=by simpa using n
   exact V4 (VR e) this
  ·rw[Dm c];exact q
 ·obtain⟨a,m,j,B⟩:=I.tuple l;refine call_all_walk (YJ (show s.heap.IsTuple p a.toArray from j) ?_);have d:p≠s.heap.objs.size:=by obtain⟨o,v,_⟩:=j;exact V4 (VR v)
  refine⟨s.heap.objs.size,_,_,_,_,_,λi=>bs.getD i b7,rfl,a1p y _ p d a.toArray,⟨⟨_,VX _ rfl,rfl,rfl⟩,a0K j _⟩,Dn m,λA x w=>?_⟩;have c:a.toArray.size=bs.length:=by rw[V7,<- m.length,VI]
  refine⟨.bl _,H,I.kept (t':=x) λb o e=>w b o ?_ (VM _ e),rfl,?_⟩
  ·intro n;have:b=s.heap.objs.size:=by simpa using n
   exact V4 (VR e) this
  ·rw[Dm c];exact q
end
end L3
namespace L3
open PySem L2
open PyProof.Rows (IntsAre)
open PySem.W (KasT kas_asc kas_desc kas_tail3 kas_descPart kas_count kas_place kas_bin kas_sort kas_rev kas_ask)
noncomputable def qC{b:Type}(ans:Nat->Nat->Bool):a6E b->b
 |.ret a=>a|.ask i j k=>qC ans (k (ans i j))
noncomputable def InR{c:Type}(n:Nat)(R:c->Prop):a6E c->Prop
 |.ret a=>R a|.ask i j k=>i<n/\j<n/\∀b,InR n R (k b)
theorem InR.mono{d:Type}{n:Nat}{R c:d->Prop}(h:∀a,R a->c a):∀{t:a6E d},InR n R t->InR n c t
 |.ret a,q=>h a q|.ask i j k,q=>⟨q.1,q.2.1,λb=>InR.mono h (q.2.2 b)⟩
theorem InR.bind{c h:Type}{n:Nat}{R:c->Prop}{d:h->Prop}{f:c->a6E h}(e:∀a,R a->InR n d (f a)):∀{t:a6E c},InR n R t->InR n d (t.bind f)
 |.ret a,q=>e a q|.ask i j k,q=>⟨q.1,q.2.1,λb=>InR.bind e (q.2.2 b)⟩
theorem Dp{c:Type}{n:Nat}{R:c->Prop}{ans:Nat->Nat->Bool}{b:Nat->Nat->(Bool->VL->Prop)->VL->Prop}{s:VL}(hc:∀i j (C:Bool->VL->Prop),i<n->j<n->C (ans i j) s->b i j C s){Q:c->VL->Prop} :
  ∀{t:a6E c},InR n R t->Q (qC ans t) s->t.kasWp b Q s
 |.ret a,_,q=>q|.ask i j k,h,q=>hc i j _ h.1 h.2.1 (Dp hc (h.2.2 _) q)
theorem Dq{b:Type}{n:Nat}{R:b->Prop}{ans:Nat->Nat->Bool}:∀{t:a6E b},InR n R t->R (qC ans t)
 |.ret a,q=>q|.ask i j k,h=>Dq (t:=k (ans i j)) (h.2.2 _)
section
variable{n:Nat}
noncomputable def IxOk(n:Nat)(p:Array Nat):Prop:=p.Perm (Wf n).toArray
theorem IxOk.lt{p:Array Nat}(h:IxOk n p)(c:0<n)(i:Nat):p.getD i 0<n:=by
 by_cases a:i<p.size
 ·have e:p.getD i 0=p[i]:=by simp[Ye,a]
  rw[e];have d:p[i]∈p:=a1b a;have b:p[i]∈(Wf n).toArray:=h.mem_iff.mp d;simpa using b
 ·have e:p.getD i 0=0:=by simp[Ye,a]
  rw[e];exact c
theorem IxOk.rev{p:Array Nat}(h:IxOk n p)(i j:Nat):IxOk n (a1L p i j):=(a6b _ _ _ _).trans h
theorem IxOk.bub{p:Array Nat}(h:IxOk n p)(i j:Nat):IxOk n (a6i p i j):=(a6h _ _ _).trans h
theorem yB{p:Array Nat}(h:IxOk n p)(a:0<n):∀(f m:Nat),InR n (λ_=>True) (kas_asc p f m)
 |0,m=>trivial
 |f+1,m=>⟨h.lt a _,h.lt a _,λb=>by
   cases b with
   |true=>exact trivial
   |false=>exact yB h a f (m+1)⟩
theorem tE(a:0<n):∀(f:Nat)(p:Array Nat)(m q:Nat),IxOk n p->InR n (λr=>IxOk n r.1) (a6B f p m q)
 |0,p,m,q,h=>h
 |f+1,p,m,q,h=>⟨h.lt a _,h.lt a _,λb=>by
   cases b with
   |true=>
    show InR n _ (if q>0 then a6B f (a1L p (m-(q+1)) m) (m+1) 0 else a6B f p (m+1) 0);split
    ·exact tE a f _ _ _ (h.rev _ _)
    ·exact tE a f _ _ _ h
   |false=>
    refine⟨h.lt a _,h.lt a _,λd=>?_⟩;cases d with
    |true=>exact h
    |false=>exact tE a f _ _ _ h⟩
theorem Dr(c:0<n){p:Array Nat}(h:IxOk n p)(a r:Nat):InR n (λr=>IxOk n r.2) (a3D a r p):=
 by
 have b:IxOk n (a1L p 0 a):=h.rev 0 a;unfold a3D;refine InR.bind (R:=λ_=>True) (λm _=>?_) (yB b c _ _);exact b
theorem Ds(b:0<n){p:Array Nat}(h:IxOk n p)(a r:Nat):InR n (λr=>IxOk n r.2) (a3T a r p):=
 InR.bind (λq c=>by
  show InR n _ (if q.2.2>0 then a3D q.2.1 r (a1L q.1 (q.2.1-(q.2.2+1)) q.2.1)else a3D q.2.1 r q.1);split
  ·exact Dr b (c.rev _ _) _ _
  ·exact Dr b c _ _) (tE b _ _ _ _ h)
theorem Nb(a:0<n){p:Array Nat}(h:IxOk n p)(r:Nat):InR n (λr=>IxOk n r.2) (kas_count r p):=
 InR.bind (λm _=>by
  show InR n _ (if(m==r)=b8 then a3n (m,p)else if m>1 then KasT.ask (p.getD 0 0) (p.getD (m-1) 0) (λc=>if c=b8 then a3n (m,p)else a3T m r (a1L p 0 m))else a3T m r p);split
  ·exact h
  ·split
   ·refine⟨h.lt a _,h.lt a _,λb=>?_⟩;cases b with
    |true=>exact h|false=>exact Ds a (h.rev _ _) _ _
   ·exact Ds a h _ _) (yB h a _ _)
theorem yC{p:Array Nat}(h:IxOk n p)(a:0<n)(k:Nat):∀(f l r:Nat),InR n (λ_=>True) (a5F p k f l r)
 |0,l,r=>trivial|f+1,l,r=>by
  show InR n _ (if l >= r then a3n l else KasT.ask (p.getD k 0) (p.getD ((l+r)/2) 0) λc=>if c=b8 then a5F p k f l ((l+r)/2)else a5F p k f ((l+r)/2+1) r);split
  ·exact trivial
  ·refine⟨h.lt a _,h.lt a _,λb=>?_⟩;cases b with
   |true=>exact yC h a k f _ _|false=>exact yC h a k f _ _
theorem Dt(a:0<n):∀(f:Nat)(p:Array Nat)(k:Nat),IxOk n p->InR n (IxOk n) (kas_bin f p k)
 |0,p,k,h=>h|f+1,p,k,h=>InR.bind (λl _=>Dt a f _ _ (h.bub _ _)) (yC h a k _ _ _)
theorem Du(a:0<n):InR n (IxOk n) (a6A n):=
 InR.bind (λr b=>by
  show InR n _ (if r.1<n then kas_bin (n-max r.1 1) r.2 (max r.1 1)else a3n r.2);split
  ·exact Dt a _ _ _ b
  ·exact b) (Nb a (Array.Perm.refl _) n)
end
noncomputable def cP(lt:Nat->Nat->Bool)(n:Nat):List Nat:=(qC lt (a6A n)).toList
theorem Dv(lt:Nat->Nat->Bool){n:Nat}(a:0<n):(cP lt n).Perm (Wf n):=by have h:IxOk n (qC lt (a6A n)):=Dq (Du a);have:=Array.perm_iff_toList_perm.mp h;simpa[cP]using this
section
variable{X:Cx}{a6G:List (Addr×Obj)}{σ:St}{H:Hp}{s:VL}
end
noncomputable abbrev TupsV(K:VG)(H:Hp):List V->List (List Int)->Prop:=Zj λv t=>∃a,v=V.ref a/\SqT K H a (t.map V.int)
theorem TupsV.get{K:VG}{H:Hp}:∀{vs:List V}{ts:List (List Int)}{i:Nat},TupsV K H vs ts->i<vs.length->∃a,vs[i]?=b4 (V.ref a)/\SqT K H a ((ts.getD i []).map V.int)
 |_,_,_,.nil,h=>by simp at h
 |_,_,0,.cons ⟨a,e,q⟩ _,_=>⟨a,by rw[e];rfl,q⟩|_,_,i+1,.cons _ t,h=>by obtain⟨a,e,q⟩:=TupsV.get (i:=i) t (by simpa using h);exact⟨a,by simpa using e,q⟩
section
open PyProof.Rows
variable{prog:V6}{w:Wj}{A:Wh}{E:Value->VL->Prop}{s:VL}
theorem Dw{c:Addr}{us:List Value}{z:Nat}{R:Fin->VL->Prop}(h:us.length<2)(g:s.heap.get? c=b4 (XG "list" us.toArray z)) (q:R (.done (.ret .none)) {s with heap:=a2P s.heap c us us.toArray}) :
  V2 (V8 prog w) A (Builtin.«list.sort» ⟨[.ref c],[]⟩) R E s:=by
 rw[a5W];have lt:c<s.heap.objs.size:=VR g;refine VH (listItems_at g rfl (VH (a1o g rfl ?_)));obtain⟨y,d⟩:∃y,(s.heap.update c (WU λ_=>#[])).get? c=b4 (XG "list" #[] y):=⟨_,a5Y g _⟩;refine VH (a2t d rfl (VH (a2M (VH (a1m (WN ?_))))));have e:(((s.heap.update c (WU λ_=>#[])).push (XG "tuple" us.toArray 0)).push (XG "list" #[] 0)).get? c=b4 (XG "list" #[] y):=
  VM _ (VM _ d)
 show V2 (V8 prog w) A _ R E ⟨((s.heap.update c (WU λ_=>#[])).push (XG "tuple" us.toArray 0)).push (XG "list" #[] 0),s.gens,s.drawn,s.toks,s.os⟩;dsimp only;have a:us.toArray.size<2:=by simpa using h
 rw[if_pos a,if_pos a];refine VH (VQ ?_);rw[StateT.run_pure];refine VH (VQ ?_);dsimp only;have b:a6t (λx=>x.2) (arrOf (SortSt.mk' general' (us.toArray.zip us.toArray) #[] 7 b6))=us.toArray:=by show a6t (λx=>x.2) (us.toArray.zip us.toArray)=us.toArray;exact Array.ext (by simp) (λi j l=>by simp)
 refine VH (a2t e rfl (VH (a1o e rfl ?_ (hsz2:=by rw[b,V9];omega))));rw[b];simp only[bne_self_eq_false,Wq,if_false];exact VQ q
end
theorem Dx(lt:Nat->Nat->Bool):cP lt 1=[0]:=rfl
theorem yD(lt:Nat->Nat->Bool):cP lt 0=[]:=rfl
theorem j0(lt:Nat->Nat->Bool)(n:Nat):(cP lt n).Perm (Wf n):=by
 cases n with
 |zero=>rw[yD];exact .nil|succ n=>exact Dv lt (a2Y n)
section
variable{X:Cx}
end
theorem Nc{ns:List Int}{us:List Value}(h:Vals (ns.map V.int) us):Zd us ns:=wW h
section
variable{X:Cx}
end
end L3
namespace L3
open PySem L2 PySem.Spec PyProof.Rows
structure XRec(h:WI)(e:Addr)(cls:Value)(dc:Option Addr)(T:Option (Addr×Value)):Prop where
 ob:∃o vs,h.get? e=b4 o/\o.cls=cls/\o.dict=dc/\o.data=.fields vs/\vs[1]?=b4 (match T with|none=>WJ|some p=>.ref p.1)/\vs[2]?=b4 WJ
 tb:∀p,T=b4 p->p.1≠e/\∃oT ts,h.get? p.1=b4 oT/\oT.data=.fields ts/\ts[3]?=b4 p.2
structure XKept(fs:List Addr)(e:Addr)(T:Option (Addr×Value))(h h':WI):Prop where
 keep:∀b o,h.get? b=b4 o->b≠e->(∀p,T=b4 p->b≠p.1)->b∉fs->h'.get? b=b4 o
 slot:∀b o,h.get? b=b4 o->b≠e->(∀p,T=b4 p->b≠p.1)->∃sl,h'.get? b=b4 {o with slots:=sl}
theorem Dy(o:Obj) (f):(o.mapFields f).dict=o.dict:=by
 cases o with
 |mk c d a b=>cases a<;>rfl
section
variable{M:a1R}{A:Wh}{E:Value->VL->Prop}{s:VL}{base:WI}{env:a0k}{outer:List a0k}{L e:Addr}{cls:Value}{dc:Option Addr}
theorem XRec.noFrame{h:WI}{T:Option (Addr×Value)}{l:List a0k}(x:XRec h e cls dc T)(d:h.FunFrames base l):e∉dB l/\∀p,T=b4 p->p.1∉dB l:=by
 obtain⟨o,v,m,_,_,n,_,_⟩:=x.ob;refine⟨λc=>?_,λp q c=>?_⟩
 ·obtain⟨_,r,a,b⟩:=d.mem c;rw[m]at a;cases a;exact b v n
 ·obtain⟨_,w,u,i,j,_⟩:=x.tb p q;obtain⟨_,r,a,b⟩:=d.mem c;rw[i]at a;cases a;exact b u j
theorem Dz{T:Option (Addr×Value)}{hd:Value}{nx:Bool}{Q:Unit->VL->Prop}(j:A.frames=b4 (env::outer))(v:s.heap.FunFrames base (env::outer))(R:env.frame=b4 L)(x:XRec s.heap e cls dc T)
  (k:∀d m,XRec d e cls dc (b4 (m,X2 L))->s.heap.objs.size<=m->XKept (dB (env::outer)) e T s.heap d->Q () {s with heap:=d}) :
  V2 M A (do a2Q (.ref e) 1 (<- a2p hd (<- frameOf env) .none (X2 L) .none (<- entryPlaceOf L nx))) Q E s:=by
 obtain⟨o,Y,H,I,J,u,K,N⟩:=x.ob;have y:1<Y.size:=(W5.mp K).1;have ne:=(x.noFrame v).1;refine VH (wpAny_frameOf_fun j v R λa c=>?_);refine VH (wpAny_entryPlaceOf λG w=>?_);unfold a2p newFields;refine VH (W7 ?_ (w.sizeOk5 _ _ _ _ _));have q:a.get? e=b4 o:=(c.2.1 e ne).trans H;generalize hob:({cls:=.type "traceback",dict:=b6,data:=.fields ([hd,.ref L,.none,X2 L,.none]++(if G.isEmpty then XJ 6 WJ else G)).toArray}:Obj)=tb;have r:(a.push tb).get? e=b4 o:=VM _ q;refine Y5 r u y (k _ a.objs.size ?_ ?_ ?_)
 ·have z:a.objs.size≠e:=Xr (VR q);have n:=Yz u (·.setIfInBounds 1 (VU a.objs.size));refine⟨⟨_,_,WH _ r (YN n),by rw[a1k];exact I,?_,n,by simp[y],by simp[N]⟩,λp l=>?_⟩
  ·rw[<- J,Dy]
  ·cases l;refine⟨z,tb,_,?_,by rw[<- hob],?_⟩
   ·rw[Wi _ _ (WG z)];exact VX _ (by rw[<- hob];rfl)
   ·first|(simp;done)|(rcases w with rfl|⟨_,_,_,_,_,_,_,rfl⟩<;>simp)
 ·rw[c.1];exact VS _
 ·refine⟨λb B i h _ O=>?_,λb B i h _=>?_⟩
  ·rw[Wi _ _ (WG h)];exact VM _ ((c.2.1 b O).trans i)
  ·obtain⟨X,U⟩:=c.2.2 b B i;refine⟨X,?_⟩;rw[Wi _ _ (WG h)];exact VM _ U
theorem DA{T:Option (Addr×Value)}{Q:Unit->VL->Prop}(h:∀p,T=b4 p->p.2=.none\/p.2=X2 L)(j:A.frames=b4 (env::outer))(H:s.heap.FunFrames base (env::outer))(G:env.frame=b4 L)(x:XRec s.heap e cls dc T)
  (k:∀d c,XRec d e cls dc (b4 (c,X2 L))->(s.heap.objs.size<=c\/∃p,T=b4 p/\c=p.1)->XKept (dB (env::outer)) e T s.heap d->Q () {s with heap:=d}):V2 M A (a2i (.ref e) env) Q E s:=by
 obtain⟨o,Z,v,R,U,w,y,X⟩:=x.ob;unfold a2i;simp only[G];refine VH (Yo v w y ?_);cases T with
 |none=>rw[if_neg (by decide)];exact Dz j H G x λd c N J r=>k d c N (.inl J) r|some p=>
  obtain⟨K,oT,Y,m,n,u⟩:=x.tb p rfl;rw[if_pos (show(VU p.1 != WJ)=b8 by simp)];refine VH (Yo m n u ?_);rcases h p rfl with h|h;case inr=>rw[h,if_pos (beq_self_eq_true _)];exact VQ (k s.heap p.1 ⟨⟨o,Z,v,R,U,w,y,X⟩,λq I=>by cases I;exact⟨K,oT,Y,m,n,by rw[<- h];exact u⟩⟩ (.inr ⟨p,rfl,rfl⟩) ⟨λb o a _ _ _=>a,λb o a _ _=>⟨o.slots,a⟩⟩)
  rw[h,if_neg (show ¬ (WJ==X2 L)=b8 by simp[X2])];refine VH (Y5 m n (W5.mp u).1 ?_);have same:∀b,b≠p.1->(s.heap.update p.1 (ZN (·.setIfInBounds 3 WJ))).get? b=s.heap.get? b:=λb a=>Wi _ _ (WG a);have nfr:=(x.noFrame H).2 p rfl;refine Dz (T:=b4 p) j (H.of_keeps λb l a nf=>⟨l,(same b λz=>by rw[z,m]at a;cases a;exact nf Y n).trans a,rfl⟩) G ⟨⟨o,Z,(same e (WG K)).trans v,R,U,w,y,X⟩,λq I=>?_⟩ λd c N J r=>k d c N (.inl (by simpa using J)) ⟨λb l a B i h3=>?_,λb l a B i=>?_⟩
  ·cases I;have O:=Yz n (·.setIfInBounds 3 WJ);exact⟨K,_,_,WH _ m (YN O),O,by rw[h];simp[(W5.mp u).1]⟩
  ·exact r.keep b l ((same b (i p rfl)).trans a) B i h3
  ·exact r.slot b l ((same b (i p rfl)).trans a) B i
theorem qD{h:WI}{b:Addr}{o:Obj}{T:Option (Addr×Value)}{a:Addr}(c:h.get? b=b4 o)(i:∀p,T=b4 p->b≠p.1)(z:h.objs.size<=a\/∃p,T=b4 p/\a=p.1):b≠a:=by
 rcases z with z|⟨p,d,rfl⟩
 ·exact V4 (Wb (VR c) z)
 ·exact i p d
theorem yE{T:Addr}{n:Value}{Q:Unit->VL->Prop}(x:XRec s.heap e cls dc (b4 (T,n)))(k:∀h',XRec h' e cls dc (b4 (T,.none))->h'.objs.size=s.heap.objs.size->(∀b,b≠T->h'.get? b=s.heap.get? b)->Q () {s with heap:=h'}) :
  V2 M A (a2f (.ref e) b6) Q E s:=by
 obtain⟨o,y,c,q,r,d,h,u⟩:=x.ob;obtain⟨i,z,B,j,l,m⟩:=x.tb _ rfl;unfold a2f;refine VH (Yo c d h ?_);rw[if_pos (show(VU T != WJ)=b8 by simp)];have same:∀b,b≠T->(s.heap.update T (ZN (·.setIfInBounds 3 WJ))).get? b=s.heap.get? b:=λb v=>Wi _ _ (WG v);have a:=Yz l (·.setIfInBounds 3 WJ);refine Y5 j l (W5.mp m).1 (k _ ⟨⟨o,y,(same e (WG i)).trans c,q,r,d,h,u⟩,λp w=>?_⟩ (by simp) same);cases w;exact⟨i,_,_,WH _ j (YN a),a,by simp[(W5.mp m).1]⟩
theorem Nd{T:Option (Addr×Value)}{Q:Unit->VL->Prop}(w:∀p,T=b4 p->p.2=.none\/p.2=X2 L)(i:A.frames=b4 (env::outer))(z:s.heap.FunFrames base (env::outer))(y:env.frame=b4 L)(x:XRec s.heap e cls dc T)
  (k:∀h d,XRec h e cls dc (b4 (d,.none))->(s.heap.objs.size<=d\/∃p,T=b4 p/\d=p.1)->XKept (dB (env::outer)) e T s.heap h->Q () {s with heap:=h}):V2 M A (a5o env (.ref e)) Q E s:=by
 unfold a5o;refine VH (DA w i z y x λr q H l m=>?_);refine yE (s:={s with heap:=r}) H λu I _ n=>k u q I l ⟨λb o a j c B=>?_,λb o a j c=>?_⟩
 ·rw[n b (qD a c l)];exact m.keep b o a j c B
 ·obtain⟨G,v⟩:=m.slot b o a j c;refine⟨G,?_⟩;rw[n b (qD a c l)];exact v
end
end L3
namespace L3
open PySem L2 PySem.Spec PyProof.Rows
structure Ex(X:Cx)(a6G:List (Addr×Obj))(H:Hp)(s:VL)(e:Addr)(cls:Value)(dc:Option Addr)(T:Option (Addr×Value)):Prop where
 rc:XRec s.heap e cls dc T
 hT:∀p,T=b4 p->p.2=.none\/∃L,X.env.frame=b4 L/\p.2=X2 L
 lo:X.s₀.heap.get? e=b6/\∀p,T=b4 p->X.s₀.heap.get? p.1=b6
 fr:H e=b6/\∀p,T=b4 p->H p.1=b6
 pn:∀q∈X.pn++a6G,q.1≠e/\∀p,T=b4 p->q.1≠p.1
noncomputable def iM(P:V6)(w:Wj):fM:=λouter H s E e a=>∃b H' cls c T,e=.ref b/\a.os=s.os/\a0t a.gens/\Un (dB outer) [] H H' s.heap a.heap/\HOk P w H' a.heap /\
 XRec a.heap b cls c (b4 (T,.none))/\s.heap.get? b=b6/\s.heap.get? T=b6/\H' b=b6/\H' T=b6/\E cls c H'
section
variable{X:Cx}{a6G:List (Addr×Obj)}{σ:L2.St}{H H':Hp}{s s':VL}{e:Addr}{cls:Value}{dc:Option Addr}{T:Option (Addr×Value)}
theorem XKept.hok{P:V6}{w:Wj}{h h':WI}{fs:List Addr}(k:XKept fs e T h h')(ok:HOk P w H h)(l:H e=b6)(j:∀p,T=b4 p->H p.1=b6)(m:∀b∈fs,H b=b6):HOk P w H h':=λb u q=>by
 have ne:∀c v,H c=b4 v->c≠e/\(∀p,T=b4 p->c≠p.1)/\c∉fs:=λc v hc=>⟨(λz=>by rw[z,l]at hc;cases hc),(λp n z=>by rw[z,j p n]at hc;cases hc),(λz=>by rw[m c z]at hc;cases hc)⟩;refine(ok b u q).stay (λc v hc g=>?_) (λ_ g=>g) λ_ _ g=>g;rcases hc with rfl|hc
 ·obtain⟨a,d,i⟩:=ne c u q;exact k.keep c v g a d i
 ·obtain⟨a,d,i⟩:=ne c _ hc;exact k.keep c v g a d i
theorem Nf{E:XK}{v:Value}(l:X.ex=[])(I:Inv X a6G σ H s)(h:iM X.prog X.w X.stack H s E v s'):∃e H' cls dc T,v=.ref e/\Inv X a6G σ H' s'/\Ex X a6G H' s' e cls dc (b4 (T,.none))/\E cls dc H':=by
 obtain⟨e,H',cls,dc,T,rfl,A,i,un,hok,B,m,n,r,u,w⟩:=h;have j:∀a,s.heap.get? a=b6->X.s₀.heap.get? a=none:=λa x=>by
  cases q:X.s₀.heap.get? a with
  |none=>rfl|some o=>obtain⟨G,g⟩:=I.base.there a o q (by rw[l];simp);rw[x]at g;cases g
 refine⟨e,H',cls,dc,T,rfl,I.call' (ch:=[]) A un hok i (λb z=>absurd z (by simp)),⟨B,(λp d=>by cases d;exact .inl rfl),⟨j e m,(λp d=>by cases d;exact j T n)⟩,⟨r,(λp d=>by cases d;exact u)⟩,λq y=>?_⟩,w⟩;have c:=(I.pin q y).1;exact⟨(λz=>by rw[z,m]at c;cases c),(λp d z=>by cases d;rw[z,n]at c;cases c)⟩
theorem DB{ch:List Addr}(I:Inv X a6G σ H s)(l:X.ex=[])(h1:∀b∈ch,X.s₀.heap.get? b=b6)(q:∀b∈ch,∃o vs,s.heap.get? b=b4 o/\o.data=.fields vs):Inv {X with ex:=ch} a6G σ H s:=by
 have i:∀b o,X.s₀.heap.get? b=b4 o->b∉ch:=λb o a z=>by rw[h1 b z]at a;cases a
 have o:=I.ok;refine⟨⟨o.mod,o.kind,o.glob,o.blt,o.above,o.inj,o.has,o.cab,o.hd,o.frames,o.stk,λb a=>?_,o.bs,o.bsz,λb j a=>i b j (o.bs b j a).1,λb a r=>?_,o.funs,o.frf⟩,I.os,I.bare,?_,I.loc,I.cell,I.free,I.freeC,I.pin,I.hok,I.len⟩
 ·obtain⟨j,vs,n,p⟩:=q b a;refine⟨λz=>?_,λy c hc z=>?_⟩
  ·obtain⟨m,⟨A,x,w,d,h,_⟩,_⟩:=I.loc;have z:b=X.env.locals:=z;rw[<- z,n]at d;cases d;rw[p]at h;cases h
  ·obtain⟨v,B,d,h⟩:=I.cell y c hc;rw[z,n]at d;cases d;rw[p]at h;cases h
 ·obtain⟨_,j,d,_⟩:=o.funs.mem r;exact i b j d a
 ·have u:=I.base;rw[l]at u;exact u.mono (λ_ z=>z) (by simp)
theorem DC{ch:List Addr}(I:Inv {X with ex:=ch} a6G σ H s)(h:X.ex=[])(h1:∀b∈ch,X.s₀.heap.get? b=b6):Inv X a6G σ H s:=by
 have d:∀b o,X.s₀.heap.get? b=b4 o->b∉ch:=λb o a z=>by rw[h1 b z]at a;cases a
 have o:=I.ok;have u:=I.base;refine⟨⟨o.mod,o.kind,o.glob,o.blt,o.above,o.inj,o.has,o.cab,o.hd,o.frames,o.stk,(by rw[h];intro b z;cases z),o.bs,o.bsz,(by rw[h];intro b _ _ z;cases z),(by rw[h];intro b z;cases z),o.funs,o.frf⟩,I.os,I.bare,?_,I.loc,I.cell,I.free,I.freeC,I.pin,I.hok,I.len⟩;exact⟨λb c a n i _=>u.keep b c a n i (d b c a),λb c a n i _=>u.slot b c a n i (d b c a),λb c a n _=>u.free b c a n (d b c a),λb c a _=>u.there b c a (d b c a),u.tups,u.frzs,u.tbls⟩
noncomputable def mF(e:Addr)(T:Option (Addr×Value)):List Addr:=e::(match T with|none=>[]|some p=>[p.1])
theorem mem_ch{b:Addr}:b∈mF e T↔b=e\/∃p,T=b4 p/\b=p.1:=by
 unfold mF;cases T with
 |none=>simp|some p=>simp
theorem Ex.kept(h:X.ex=[])(I:Inv X a6G σ H s)(x:Ex X a6G H s e cls dc T){h':WI}(k:XKept (dB X.stack) e T s.heap h'):Inv X a6G σ H {s with heap:=h'}:=by
 have r:∀b∈mF e T,X.s₀.heap.get? b=none:=λb a=>by
  rcases mem_ch.mp a with rfl|⟨p,d,rfl⟩
  ·exact x.lo.1
  ·exact x.lo.2 p d
 have G:∀b∈mF e T,∃o l,s.heap.get? b=b4 o/\o.data=.fields l:=λb a=>by
  rcases mem_ch.mp a with rfl|⟨p,d,rfl⟩
  ·obtain⟨o,l,j,_,_,E,_,_⟩:=x.rc.ob
   exact⟨o,l,j,E⟩
  ·obtain⟨_,O,Q,j,B,_⟩:=x.rc.tb p d
   exact⟨O,Q,j,B⟩
 have ne:∀b,b∉mF e T->b≠e/\∀p,T=b4 p->b≠p.1:=λb a=>⟨λz=>a (mem_ch.mpr (.inl z)),λp d z=>a (mem_ch.mpr (.inr ⟨p,d,z⟩))⟩
 have i:=DB I h r G
 have w:=i.step (H':=H) (h':=h') (g':=s.gens) (d':=s.drawn) (t':=s.toks) (ch:=mF e T) (λb a=>⟨.inl a,(i.ok.exf b a).1,(i.ok.exf b a).2,λq u=>?_⟩)
  (λb o M N c g _=>k.keep b o g (ne b c).1 (ne b c).2 λz=>(Wr.mp (I.stkSub b z)).elim M N)
  (λb o _ _ c g _=>k.slot b o g (ne b c).1 (ne b c).2) (λ_ _ _ _ n=>n) (λb o c g=>let⟨_,z⟩:=k.slot b o g (ne b c).1 (ne b c).2;⟨_,z⟩)
  (λ_ _ g=>g) (λ_ _ _ g=>g) (λb U g=>⟨#[],by rw[g];simp⟩) (λm J=>?_) (k.hok I.hok x.fr.1 x.fr.2 I.stkFree) I.bare
 ·exact DC w h r
 ·rcases mem_ch.mp a with rfl|⟨p,d,rfl⟩
  ·exact(x.pn q u).1
  ·exact(x.pn q u).2 p d
 ·obtain⟨R,A,y,K,L⟩:=J
  have v:X.env.locals∉mF e T:=λz=>(i.ok.exf _ z).1 rfl
  obtain⟨Y,g⟩:=k.slot _ _ K (ne _ v).1 (ne _ v).2
  exact⟨_,A,y,g,L⟩
end
theorem Ng{P:V6}{w:Wj}{K:VG}{y:Str->Option Value}{base:WI}{N:List Str}{qual:Str}{scope:Yj}{f:Addr}{i:Value}{A:Wh}{outer:List a0k}{s₀ s:VL}{H₀ H:Hp}{E:XK}{a6G:List (Addr×Obj)}{σ:L2.St}{e:Addr}{cls:Value}{r:Option Addr}{T:Option (Addr×Value)}
  (I:Inv (dO (iM P w) P w K y base N qual scope f i A outer s₀ H₀ E) a6G σ H s)(x:Ex (dO (iM P w) P w K y base N qual scope f i A outer s₀ H₀ E) a6G H s e cls r T)(h:E cls r H) :
  (dO (iM P w) P w K y base N qual scope f i A outer s₀ H₀ E).xe (.ref e) s:=by
 have c:∀b o,s₀.heap.get? b=b4 o->b≠e/\(∀p,T=b4 p->b≠p.1)/\b≠s₀.heap.objs.size:=λb o a=>⟨(λz=>by rw[z]at a;rw[show s₀.heap.get? e=b6 from x.lo.1]at a;cases a),(λp d z=>by rw[z]at a;rw[show s₀.heap.get? p.1=b6 from x.lo.2 p d]at a;cases a),V4 (VR a)⟩;have v:dB (envOfC qual scope s₀.heap.objs.size f i::outer)=s₀.heap.objs.size::dB outer:=rfl;show V2 (V8 P w) (A.deeper (envOfC qual scope s₀.heap.objs.size f i)) (a5o (envOfC qual scope s₀.heap.objs.size f i) (.ref e)) _ _ s;refine Nd (λp d=>(x.hT p d).imp id λ⟨L,O,q⟩=>by cases O;exact q) I.ok.frames I.stack rfl x.rc λX M U J k=>?_;refine⟨e,H,cls,r,M,rfl,I.os,I.bare,⟨λb o a n m _=>?_,λb o a n m _=>?_,λb o a n _=>I.base.free b o a n (by simp[dO]),λb o a _=>?_,I.base.tups,I.base.frzs,I.base.tbls⟩,k.hok I.hok x.fr.1 x.fr.2 I.stkFree,U,x.lo.1,J.elim (λz=>ZP (WM I.sz z)) (λ⟨p,d,q⟩=>q▸x.lo.2 p d),x.fr.1,J.elim (λz=>I.hok.fresh z) (λ⟨p,d,q⟩=>q▸x.fr.2 p d),h⟩
 ·obtain⟨j,l,B⟩:=c b o a;refine k.keep b o (I.base.keep b o a n m (by simp[dO])) j l ?_;rw[v];intro z;rcases Wr.mp z with z|z
  ·exact B z
  ·exact m z
 ·obtain⟨j,l,B⟩:=c b o a;obtain⟨R,g⟩:=I.base.slot b o a n m (by simp[dO]);obtain⟨G,u⟩:=k.slot b _ g j l;exact⟨G,u⟩
 ·obtain⟨j,l,B⟩:=c b o a;obtain⟨Q,g⟩:=I.base.there b o a (by simp[dO]);obtain⟨R,u⟩:=k.slot b Q g j l;exact⟨_,u⟩
end L3
namespace L3
open PySem L2
noncomputable abbrev Xn:=Str×List (Str×D)
noncomputable abbrev MR:=aE->Hm->Option (Xn×aE×Hm)
noncomputable abbrev RF:=List D->Hm->Option (Xn×Hm)
noncomputable def Nh(K:VG)(cls:Value)(x:Str):Prop:=W0 K WD x=b4 (b4 cls)
noncomputable def tF(K:VG)(π:Nat->Addr)(n:Nat)(H:Hp)(cls:Value)(a:Option Addr)(x:Xn):Prop:=
 Nh K cls x.1/\(x.2=[]/\a=b6\/∃(b:Addr)(c:Obj)(vs:List (Str×V)),a=b4 b/\H b=b4 (.frz c (.xd vs))/\vs.map (·.1)=x.2.map (·.1)/\IsDs K π n H (vs.map (·.2)) (x.2.map (·.2)))
noncomputable def Wish(X:Cx)(a6G:List (Addr×Obj))(π:Nat->Addr)(n:Nat)(H:Hp)(x:Xn)(h:aE)(μ':Hm):Prop:=
 ∀a c b d e cls i T,Ext π n H a μ'.length b->Rp X.K a b μ'->En X.K a μ'.length b c h->Inv X a6G c b d->Ex X a6G b d e cls i T->tF X.K a μ'.length b cls i x->X.xe (.ref e) d
theorem Wish.after{X:Cx}{a6G:List (Addr×Obj)}{π b:Nat->Addr}{n l:Nat}{H j:Hp}{x:Xn}{c:aE}{μ':Hm}(h:Wish X a6G π n H x c μ')(e:Ext π n H b l j):Wish X a6G b l j x c μ':=
 λd i m q a cls o T p=>h d i m q a cls o T (e.trans p)
structure QRE(X:Cx)(e:Expr)(r:MR):Prop where
 h:∀a6G s σ H π ρ μ x ρ' μ',Inv X a6G σ H s->Rp X.K π H μ->En X.K π μ.length H σ ρ->r ρ μ=b4 (x,ρ',μ')->Wish X a6G π μ.length H x ρ' μ'->V2 (V8 X.prog X.w) X.A (eval e X.env) (λ_ _=>False) X.xe s
structure QR(X:Cx)(st:Stmt)(r:MR):Prop where
 h:∀a6G s σ H π ρ μ x ρ' μ',Inv X a6G σ H s->Rp X.K π H μ->En X.K π μ.length H σ ρ->r ρ μ=b4 (x,ρ',μ')->Wish X a6G π μ.length H x ρ' μ'->V2 (V8 X.prog X.w) X.A (exec st X.env) (λ_ _=>False) X.xe s
structure QRB(X:Cx)(st:List Stmt)(r:MR):Prop where
 h:∀a6G s σ H π ρ μ x ρ' μ',Inv X a6G σ H s->Rp X.K π H μ->En X.K π μ.length H σ ρ->r ρ μ=b4 (x,ρ',μ')->Wish X a6G π μ.length H x ρ' μ'->V2 (V8 X.prog X.w) X.A (execs st X.env) (λ_ _=>False) X.xe s
noncomputable def cH:MR:=λ_ _=>b6
theorem iN{X:Cx}{st:Stmt}:QR X st cH:=⟨λ_ _ _ _ _ _ _ _ _ _ _ _ _ h=>by cases h⟩
theorem yF{X:Cx}{e:Expr}:QRE X e cH:=⟨λ_ _ _ _ _ _ _ _ _ _ _ _ _ h=>by cases h⟩
theorem Ni{X:Cx}{st:List Stmt}:QRB X st cH:=⟨λ_ _ _ _ _ _ _ _ _ _ _ _ _ h=>by cases h⟩
section
variable{X:Cx}{e:Expr}{st:Stmt}{rest a b:List Stmt}{r ra rb:MR}{m:MS}{pos:Xq}
theorem Nj(j:QRE X e r)(h:eH e=b8):QR X (.Expr e pos) r:=
 ⟨λc s q H o p n x i d I R E l w=>a2O (aM (j.h c s q H o p n x i d I R E l w) λ_ _ z=>z.elim) I.quiet (l7 h)⟩
theorem Nk(i:QRE X e r):QR X (.Return (b4 e) pos) r:=
 ⟨λc s p H n o l x h d I R E j w=>a5k (aM (i.h c s p H n o l x h d I R E j w) λ_ _ z=>z.elim)⟩
theorem Nl{y:Str}{c:Xq}(l:QRE X e r)(h:eH e=b8):QR X (.Assign [.Name y c] e pos) r:=
 ⟨λd s u H p q o x j i I R E n w=>a5l (aM (l.h d s u H p q o x j i I R E n w) λ_ _ z=>z.elim) (l7 h)⟩
noncomputable def fE(m:MS)(ra rb:MR):MR:=λd c=>match ra d c with
 |some p=>b4 p|none=>match m d c with
  |some (.nx,ρ1,μ1)=>rb ρ1 μ1|_=>b6
theorem Nm(T:QS X.nox st m)(O:QR X st ra)(Q:QRB X rest rb):QRB X (st::rest) (fE m ra rb):=by
 refine⟨λi s L H J K G x v o I R E n w=>ZV ?_⟩;unfold fE at n;split at n
 ·rename_i p U;cases n;exact aM (O.h i s L H J K G x v o I R E U w) λ_ _ z=>z.elim
 ·split at n
  ·rename_i j d N;have k:=T.h i s L H {nx:=λh l=>∃c,Ext J G.length H c d.length l/\Rp X.K c l d/\En X.K c d.length l h j,rt:=λ_ _=>False} (I.wish _)
    ⟨J,K,G,.nx,j,d,R,E,N,λc h l B A y=>⟨c,B,A,y⟩⟩
   refine WB k (λf Y q=>?_) λ_ _ z=>WR z;cases f with
   |next=>obtain⟨h,l,M,c,B,A,y⟩:=q;exact Q.h i Y h l c j d x v o M.unwish A y n (w.after B)|ret u=>obtain⟨_,_,_,_,_,q⟩:=q;exact q.elim|brk=>obtain⟨_,_,_,q⟩:=q;exact q.elim|cont=>obtain⟨_,_,_,q⟩:=q;exact q.elim
  ·cases n
theorem Nn:QRB X [] cH:=Ni
noncomputable def qE(t:MT)(ra rb:MR):MR:=λc d=>(t c d).bind λp=>if p.1=b8 then ra c p.2 else rb c p.2
theorem Np{c:Expr}{t:MT}(hc:QT X.nox c t)(N:QRB X a ra)(O:QRB X b rb):QR X (.If c a b pos) (qE t ra rb):=by
 refine⟨λj s B H L A K x u p I R E l w=>wpAny_If ?_⟩;obtain⟨⟨d,i⟩,M,l⟩:=VF.mp l;have k:=hc.h j s B H (λy n=>y=d/\∃h,Ext L K.length H h i.length n/\Rp X.K h n i) (I.wish _) ⟨L,A,K,d,i,R,E,M,λh n o v=>⟨rfl,h,o,v⟩⟩;refine WB k (λy J q=>?_) λ_ _ z=>WR z;obtain⟨n,G,rfl,h,o,v⟩:=q;dsimp only at l;cases y with
 |true=>rw[if_pos rfl]at l;exact N.h j J B n h A i x u p G.unwish v (E.mono o) l (w.after o)|false=>rw[if_neg (by decide)]at l;exact O.h j J B n h A i x u p G.unwish v (E.mono o) l (w.after o)
end
inductive spR0 (K:VG)(r:RF)(vs:List V)(H:Hp)(E:XK):Prop
 |mk (π:Nat->Addr)(ds:List D)(μ:Hm)(x:Xn)(μ':Hm)(R:Rp K π H μ)(i:IsDs K π μ.length H vs ds)(hm:r ds μ=b4 (x,μ'))(k:∀π' H' cls dc,Ext π μ.length H π' μ'.length H'->Rp K π' H' μ'->tF K π' μ'.length H' cls dc x->E cls dc H'):spR0 K r vs H E
noncomputable def n6(K:VG)(n:Nat)(r:RF):Sp:=λvs H _ E=>vs.length=n/\spR0 K r vs H E
noncomputable def mG(r:RF)(ms:MA):MR:=λa b=>(ms a b).bind λp=>(r p.1 p.2).map λq=>(q.1,a,q.2)
section
variable{X:Cx}{k n:Nat}{f:Addr}{fd:Xy}{ps:List Str}{x:Str}{p pos:Xq}{e:Expr}{es:List Expr}{ms:MA}{r:RF}
theorem Nq(Z:X.ex=[])(F:FnOk X.prog X.w X.K X.mg X.base (iM X.prog X.w) k f fd ps (n6 X.K n r))(hr:Room k X.A)(hg:Gl X x)(hm:X.mg x=b4 (.ref f))(hk:WX X.K (.ref f)=b8)(hb:Binds X.K fd ps [])(U:QA X.nox (e::es) ms n)
  (Y:(x==("__debug__":Str))=b7):QRE X (.Call (.Name x p) (e::es) [] pos) (mG r ms):=by
 refine⟨λQ s σ H π ρ μ y ρ' μ' I R E h w=>?_⟩;obtain⟨⟨ds,b⟩,h1,h⟩:=VF.mp h;obtain⟨⟨y',i⟩,h2,h⟩:=VJ.mp h;cases h;have hst:=U.s;have d:=hst;rw[WE,VO]at d;refine XY (lP I hg hm ?_ Y);have k1:=U.h pos Q s σ H (λo j=>∃a,Ext π μ.length H a b.length j/\Rp X.K a j b/\IsDs X.K a b.length j o ds) (I.wish _) ⟨π,ρ,μ,ds,b,R,E,h1,λa o j K O L=>⟨a,K,O,L⟩⟩;refine a0J (h₀:=X.base) I.ok.mod.kin hk (WB k1 (λM s1 ⟨o,j,m,rv,a,K,O,L⟩=>⟨m.unwish.kIn,?_⟩) λ_ _ z=>WR z) (fC d.1) (kN d.2);have m:=m.unwish;have hn:o.length=n:=by rw[L.length];exact U.l ρ μ ds b h1
 have B:n6 X.K n r o j (λ_ _=>False) (λcls G l=>∃c,Ext a b.length j c i.length l/\Rp X.K c l i/\tF X.K c i.length l cls G y'):=
  ⟨hn,a,ds,b,y',i,O,L,h2,λc l cls G J N ix=>⟨c,J,N,ix⟩⟩
 have hl:M.length=ps.length:=by rw[<- rv.length];exact F.len _ _ _ _ B
 refine a1w (a0c (F.run X.A X.stack s1 j ⟨M,[]⟩ M o _ _ hr m.env0 (by have:=hb s1 M m.kIn (by simpa using hl);rwa [X1]at this) rv B) λrr s' A=>?_);cases rr with
 |error v=>obtain⟨ee,l,cls,G,T,rfl,I',x',c,J,N,ix⟩:=Nf Z m A;exact w c σ l s' ee cls G (b4 (T,.none)) (K.trans J) N ((E.mono K).mono J) I' x' ix|ok fl=>
  cases fl with
  |ret u=>obtain⟨_,_,_,_,_,_,_,q⟩:=A;exact q|next=>exact WR A|brk=>exact WR A|cont=>exact WR A
end
noncomputable def yG(n:Nat)(r:MR):RF:=λds a=>(r (pX n ds) a).map λp=>(p.1,p.2.2)
theorem Nr{P:V6}{w:Wj}{K:VG}{G:Str->Option Value}{base:WI}{x qual:Str}{st:Stmt}{f:Addr}{B:Xy}{N ps:List Str}{k:Nat}{body:List Stmt}{r:MR}(F:Fun K x qual st f B)(S:FnScope N ps (bM st))(o:ps.length<=N.length)(l:cL st=body)
  (b:∀(a:Value)(A:Wh)(outer:List a0k)(s:VL)(H:Hp)(E:XK),Room k (A.deeper (Zy qual (bM st) s.heap.objs.size f a))->
   QRB (dO (iM P w) P w K G base N qual (bM st) f a A outer s H E) body r):FnOk P w K G base (iM P w) (k+1) f B ps (n6 K ps.length (yG N.length r)):=by
 obtain⟨oc,od,dV,kV,U,pm,an,a,ct,osl,rfl,lk,m⟩:=F.ex;refine wQ (CX:=iM P w) (sp:=n6 K ps.length (yG N.length r)) lk m S (λJ H Q E h=>h.1) λA outer s H J Q E Z h=>⟨λ_ c d=>c=L2.start N J/\d=H,?_,rfl,rfl⟩;obtain⟨hv,π,ds,μ,y,μ',R,i,n,kc⟩:=h;obtain⟨⟨y',u,p⟩,Y,n⟩:=VJ.mp n;cases n;rintro j s1 σ v D I ⟨rfl,rfl⟩;rw[l];refine aM ((b a A outer s v E Z).h j s1 _ v π _ μ y' u p I R (Cz i (by rw[hv];exact o)) Y λq c d s' e cls O T X M E' L x' ix=>?_) λ_ _ z=>WR z;exact Ng L x' (kc q d cls O X M ix)
end L3
namespace L3
open PySem L2
noncomputable abbrev mH:List Value:=[.type "ValueError",.type "Exception",.type "BaseException",.type "object"]
structure ClsK(K:VG)(x:Str)(C:Addr):Prop where
 exc:a4q K C mH "ValueError.__new__"=b8
 nm:W0 K WD x=b4 (b4 (.ref C))
theorem Nt{X:Cx}{a6G:List (Addr×Obj)}{σ:L2.St}{H:Hp}{s:VL}(I:Inv X a6G σ H s)(b:X.ex=[]){a:Addr}(c:s.heap.get? a=b6):X.s₀.heap.get? a=none:=by
 cases q:X.s₀.heap.get? a with
 |none=>rfl|some o=>obtain⟨d,g⟩:=I.base.there a o q (by rw[b];simp);rw[c]at g;cases g
end L3
namespace L3
open PySem L2 PySem.Spec PyProof.Rows
noncomputable def n8(K:VG)(C:Addr):Option (List Value):=match K.lookup C with
 |some ⟨.type "type",_,.cls cd,sl⟩=>(match cd.mro,sl.toList with
  |.ref C'::bm,[_,_,_,_,b4 (.builtin n),_]=>if(C'==C&&n=="ValueError.__new__" && !cd.hasDel&&bm.contains (.type "BaseException")&&cd.hasDict)=b8 then b4 bm else b6
  |_,_=>b6)
 |_=>b6
theorem yH{K:VG}{h:WI}{C:Addr}{bm:List Value}(X:K.In h)(q:n8 K C=b4 bm) :
  (∃N r s bs u b o a p d i j l m,h.get? C=b4 (XT r s C N bs bm b8 u b o a p d i j l m "ValueError.__new__"))/\bm.contains (.type "BaseException")=true:=by
 unfold n8 at q;split at q
 ·rename_i p B M H;split at q
  ·rename_i O v d i j l n m G I;split at q
   ·rename_i c;cases q;rw[VO,VO,VO,VO,beq_iff_eq,beq_iff_eq,Zx]at c;obtain⟨⟨⟨⟨w,x⟩,y⟩,z⟩,A⟩:=c;subst w x;cases B with
    |mk r bs J L s hd u b o a E=>cases G;cases y;cases A;have e:M=#[d,i,j,l,b4 (.builtin "ValueError.__new__"),m]:=a4m.mp I;subst e;exact⟨⟨L,r,s,bs,u,b,o,a,p,d,i,j,l,m,X _ _ H⟩,z⟩
   ·cases q
  ·cases q
 ·cases q
noncomputable def iB(K:VG)(x:Str):Option Addr:=match W0 K WD x with
 |some (b4 (.ref C))=>b4 C|_=>b6
theorem tG{K:VG}{x:Str}{C:Addr}(h:iB K x=b4 C):W0 K WD x=b4 (b4 (.ref C)):=by
 unfold iB at h;split at h
 ·cases h;assumption
 ·cases h
noncomputable def qF(K:VG)(x y:Str):Option Bool:=(iB K x).bind λB=>(iB K y).bind λC=>(n8 K B).bind λa=>(n8 K C).map λ_=>(VU B::a).contains (.ref C)
section
variable{M:a1R}{A:Wh}{E:Value->VL->Prop}
theorem Nu{s:VL}{B C e:Addr}{nm q G O:Str}{N K:Addr}{bs bm p a:List Value}{hdct i:Bool}{sn H:List Str}{sub m:List Value}{ab o:Bool}{col j:Option Bool}{dd r:Option Addr}{k0 k1 k2 k3 k5 v w x y z:Option Value}{J:Obj}{Q:Bool->VL->Prop}
  (hB:s.heap.get? B=b4 (XT nm q B N bs bm hdct sn sub ab col dd k0 k1 k2 k3 k5 "ValueError.__new__")) (hC:s.heap.get? C=b4 (XT G O C K p a i H m o j r v w x y z "ValueError.__new__"))
  (L:s.heap.get? e=b4 J)(l:J.cls=.ref B)(c:a.contains (.type "BaseException")=b8) (I:Q ((VU B::bm).contains (.ref C)) s):V2 M A (excMatches (.ref e) (.ref C)) Q E s:=by
 obtain⟨h,g,d,t,R⟩:=s;have u:(VU C::a).contains (.type "BaseException")=true:=by rw[Z7,c,a1f]
 have f:=tc_notTuple;have n:∃b,(VU B::bm).contains (.ref C)=b:=⟨_,rfl⟩;obtain⟨b,n⟩:=n;rw[n]at I;unfold excMatches;repeat (first|(with_reducible refine WY L ?_;rw[l])|with_reducible refine WY hC ?_|(with_reducible refine Yu hC ?_;rw[u])|(with_reducible refine Yu hB ?_;rw[n])|wp_step)
 cases b<;>(wp_walk;exact I)
end
noncomputable def Nv(o:Obj):Prop:=∃vs,o.data=.fields vs/\vs[2]?=b4 WJ
noncomputable def DD(e:Addr)(H:Hp):Prop:=∃o u,H e=b4 (.frz o u)/\Nv o
structure QBh(X:Cx)(e:Addr)(st:List Stmt)(m:MS):Prop where
 h:∀(a6G:List (Addr×Obj))(s:VL)(σ:L2.St)(H:Hp)(D:Ends),DD e H->Inv X a6G σ H s->tMS X.K m D σ H->V2 (V8 X.prog X.w) X.A (execs st X.env) (SP X a6G D) X.xe s
theorem QB.soft{X:Cx}{e:Addr}{st:List Stmt}{m:MS}(h:QB X st m):QBh X e st m:=⟨λa6G s σ H D _ I t=>h.h a6G s σ H D I t⟩
noncomputable abbrev _root_.L2.Cx.hnd(X:Cx)(e:Value):Cx:={X with A:=X.A.mark (b4 e),calm:=b7,xe:=λ_ _=>False}
section
variable{X:Cx}{a6G:List (Addr×Obj)}{σ:L2.St}{H H':Hp}{s s':VL}{e:Addr}{cls:Value}{dc:Option Addr}{T:Option (Addr×Value)}
theorem DE(I:Inv X a6G σ H s)(v:Value):Inv (X.hnd v) a6G σ H s:=
 ⟨⟨I.ok.mod,I.ok.kind,I.ok.glob,I.ok.blt,I.ok.above,I.ok.inj,I.ok.has,I.ok.cab,(λz=>nomatch z),I.ok.frames,I.ok.stk,I.ok.exf,I.ok.bs,I.ok.bsz,I.ok.noex,I.ok.exfs,I.ok.funs,I.ok.frf⟩,I.os,I.bare,I.base,I.loc,I.cell,I.free,I.freeC,I.pin,I.hok,I.len⟩
theorem tH(ok:X.Ok){v:Value}(I:Inv (X.hnd v) a6G σ H s):Inv X a6G σ H s:=⟨ok,I.os,I.bare,I.base,I.loc,I.cell,I.free,I.freeC,I.pin,I.hok,I.len⟩
theorem Nw{M:a1R}{E:Value->VL->Prop}{Q:Unit->VL->Prop}{L:Addr}(l:X.ex=[])(c:X.stack=X.env::X.outer)(v:X.env.frame=b4 L)(I:Inv X a6G σ H s)(x:Ex X a6G H s e cls dc T)
  (k:∀s' A,Inv X a6G σ H s'->Ex X a6G H s' e cls dc (b4 (A,.none))->Q () s'):V2 M X.A (a2i (.ref e) X.env) (λ_ i=>V2 M X.A (a2f (.ref e) b6) Q E i) E s:=by
 refine DA (λp a=>(x.hT p a).imp id λ⟨L,u,q⟩=>by rw[v]at u;cases u;exact q) (by rw[<- c];exact I.ok.frames) (by rw[<- c];exact I.stack) v x.rc λG B R j w=>?_;refine yE (s:={s with heap:=G}) R λr U _ y=>?_;have K:XKept (dB X.stack) e T s.heap r:=by
  rw[c];refine⟨λb o d n h N=>?_,λb o d n h=>?_⟩
  ·rw[y b (qD d h j)];exact w.keep b o d n h N
  ·obtain⟨O,J⟩:=w.slot b o d n h;refine⟨O,?_⟩;rw[y b (qD d h j)];exact J
 refine k {s with heap:=r} B (x.kept l I K) ⟨U,(λp a=>by cases a;exact .inl rfl),⟨x.lo.1,λp a=>?_⟩,⟨x.fr.1,λp a=>?_⟩,λq m=>⟨(x.pn q m).1,λp a=>?_⟩⟩
 ·cases a;exact j.elim (λz=>ZP (WM I.sz z)) (λ⟨p,a,q⟩=>q▸x.lo.2 p a)
 ·cases a;exact j.elim (λz=>I.hok.fresh z) (λ⟨p,a,q⟩=>q▸x.fr.2 p a)
 ·cases a;exact qD (I.pin q m).1 (x.pn q m).2 j
theorem Nx{M:a1R}{A:Wh}{E:Value->VL->Prop}{Q:Unit->VL->Prop}{T:Addr}(c:X.ex=[])(I:Inv X a6G σ H s)(x:Ex X a6G H s e cls dc (b4 (T,.none)))
  (k:∀s',Inv X a6G σ H s'->Ex X a6G H s' e cls dc (b4 (T,.none))->Q () s'):V2 M A (a2f (.ref e) b6) Q E s:=by
 refine yE x.rc λh i _ d=>k {s with heap:=h} (x.kept c I ⟨λb o a _ n _=>?_,λb o a _ n=>⟨o.slots,?_⟩⟩) ⟨i,x.hT,x.lo,x.fr,x.pn⟩
 ·rw[d b (n _ rfl)];exact a
 ·rw[d b (n _ rfl)];exact a
theorem Ex.cell{π:Nat->Addr}{d:Hm}{y:Xn}(j:X.ex=[])(I:Inv X a6G σ H s)(x:Ex X a6G H s e cls dc T)(R:Rp X.K π H d)(B:tF X.K π d.length H cls dc y) :
  ∃i H',Ext π d.length H i (d++[C.exc y.1 (y.2.map (·.1)) (y.2.map (·.2))]).length H'/\Rp X.K i H' (d++[C.exc y.1 (y.2.map (·.1)) (y.2.map (·.2))])/\Inv X a6G σ H' s/\i d.length=e/\DD e H':=by
 obtain⟨o,v,q,K,w,r,g5,L⟩:=x.rc.ob;have hc:nC X.K π d.length H e (C.exc y.1 (y.2.map (·.1)) (y.2.map (·.2))) (.frz o (.ext λ_=>True)):=by
  refine⟨o,_,rfl,by rw[K];exact B.1,⟨v,r⟩,?_⟩;rcases B.2 with⟨h,U⟩|⟨G,od,us,M,N,O,Q⟩
  ·rw[h];exact .inl ⟨rfl,rfl,w.trans U⟩
  ·exact .inr ⟨G,od,us,by rw[w];exact M,N,O,Q⟩
 obtain⟨J,E,p1⟩:=R.alloc x.fr.1 hc;refine⟨_,_,J,E,?_,p1,o,_,bR,v,r,L⟩;have l:∀b u,H b=b4 u->b≠e:=λb u h z=>by rw[z,x.fr.1]at h;cases h
 have A:∀b∈[e],X.s₀.heap.get? b=none:=λb a=>by cases WL.mp a;exact x.lo.1
 have m:=DB I j A λb a=>by cases WL.mp a;exact⟨o,v,q,r⟩
 have k:=m.step (H':=aI H e (.frz o (.ext λ_=>True))) (h':=s.heap) (g':=s.gens) (d':=s.drawn) (t':=s.toks) (ch:=[e]) (λb a=>?_) (λb o _ _ _ g _=>g) (λb o _ _ _ g _=>⟨o.slots,g⟩)
  (λb o Z g n=>?_) (λb o _ g=>⟨o,g⟩) (λb xs h=>by rw[aT (l _ _ h)];exact h) (λb o u h=>by rw[aT (l _ _ h)];exact h) (λb ps h=>⟨#[],by rw[aT (l _ _ h),h];simp⟩) (λ_ h=>h) ?_ I.bare
 ·exact DC k j A
 ·refine⟨.inl a,(m.ok.exf b a).1,(m.ok.exf b a).2,λp Y=>?_⟩;cases WL.mp a;exact(x.pn p Y).1
 ·rw[aT (λz=>Z (by rw[z];exact WL.mpr rfl))];exact n
 ·intro b u h;by_cases a:b=e
  ·subst a;rw[bR]at h;cases h;exact⟨q,trivial,⟨o,q⟩,λ_ _ _ _=>trivial⟩
  ·rw[aT a]at h;exact(I.hok b u h).stay (λ_ _ _ g=>g) (λc g=>by rw[aT (l _ _ g)];exact g) (λc xs g=>by rw[aT (l _ _ g)];exact g)
theorem En.unset{K:VG}{π:Nat->Addr}{n:Nat}{H:Hp}{σ:L2.St}{b:aE}(E:En K π n H σ b)(i:Nat):En K π n H (σ.set i b6) (b.set i b6):=by
 refine⟨by rw[XD,XD];exact E.len,λj c e=>?_⟩;rw[a4l]at e ⊢;by_cases a:i=j
 ·rw[if_pos a]at e;split at e<;>cases e
 ·rw[if_neg a]at e ⊢;exact E.get j c e
theorem tI{M:a1R}{A:Wh}{E:Value->VL->Prop}{Q:Unit->VL->Prop}{i:Nat}{y:Str}{pos:Xq}(I:Inv X a6G σ H s)(Y:X.N.Nodup)(N:X.N[i]?=b4 y)(O:X.env.scope.names.lookup y=b4 .local)
  (h:∀s',Inv X a6G (σ.set i b6) H s'->Q () s'):V2 M A (do bindName X.env y .none;a4A X.env y pos) Q E s:=by
 have Z:X.env.kindOf y=b4 .local:=O;have G:(X.env.scope.kind==.class||(X.env.scope.kind==.module&&X.env.locals != X.env.globals))=false:=by rw[I.ok.kind];rfl
 refine VH (wpAny_bindName (r9 (v:=.non) I Y N (.inl O) rfl (λs1 a _=>?_) (.inr O)));unfold a4A;refine wpAny_onRaise ?_;unfold unbindName;refine VH (wpAny_point (VH ?_));unfold deleteName;simp only[Z,G];rw[if_neg (by decide)];obtain⟨m,hn,hl⟩:=id a.loc;have r:i<(σ.set i (b4 V.non)).length:=by rw[a.len];exact(VN.mp N).1
 have my:(m y).isSome=true:=by
  obtain⟨u,_,q⟩:=hl i y .non N (by rw[WA (by simpa using r)]) (.inl O);rcases q with⟨_,q⟩|⟨q,_⟩
  ·rw[q];rfl
  ·rw[Z]at q;rcases q with q|q<;>cases q
 refine VH (wpAny_nsDel_keeps hn λh2 v U x=>?_);simp only[my,a0j,Wq,if_false];refine VQ (wpAny_point (h _ ?_));have cne:=a.cne;obtain⟨oL,_,_,hoL,_⟩:=id hn;refine⟨I.ok,a.os,a.bare,⟨λb o e n R K=>?_,λb o e n R K=>?_,a.base.free,λb o e K=>?_,a.base.tups,a.base.frzs,a.base.tbls⟩,⟨_,U,λj z v' B L e3=>?_⟩,λy c e=>?_,a.free,a.freeC,λp hp=>?_,λb ob e=>?_,by rw[XD];exact I.len⟩
 ·exact(x.2 b (V4 (Wb (VR e) I.ok.above))).trans (a.base.keep b o e n R K)
 ·obtain⟨sl,B⟩:=a.base.slot b o e n R K;exact⟨sl,(x.2 b (V4 (Wb (VR e) I.ok.above))).trans B⟩
 ·obtain⟨o',B⟩:=a.base.there b o e K;exact⟨o',(x.2 b (V4 (Wb (VR e) I.ok.above))).trans B⟩
 ·have J:j≠i:=λJ=>by subst J;rw[WA (by simpa using r)]at L;cases L
  rw[Wl (WG J)]at L;obtain⟨u',r',q⟩:=hl j z v' B (by rw[Wl (WG J)];exact L) e3;refine⟨u',r',?_⟩;rcases q with⟨k,e⟩|⟨k,c,e,w⟩
  ·refine .inl ⟨k,?_⟩;have:z≠y:=λe=>J (v8 Y B (e▸N));simp[this,e]
  ·exact .inr ⟨k,c,e,w.sameBut x (cne z c e)⟩
 ·obtain⟨w',z⟩:=a.cell y c e;exact⟨w',z.sameBut x (cne y c e)⟩
 ·obtain⟨e,n,ne,nf,d⟩:=a.pin p hp;exact⟨(x.2 p.1 ne).trans e,n,ne,nf,d⟩
 ·refine(a.hok b ob e).stay (λc w' hc q=>(x.2 c ?_).trans q) (λ_ q=>q) λ_ _ q=>q;intro z;have l:=a.free;rw[<- z]at l;rcases hc with hc|hc
  ·rw[hc,e]at l;cases l
  ·rw[l]at hc;cases hc
end
noncomputable def n9(m:MS)(r:MR)(sup:Str->Option Bool)(i:Nat)(c:MS):MS:=λb a=>match r b a with
 |some p=>if sup p.1.1=b4 b8 then(c (p.2.1.set i (b4 (.loc p.2.2.length))) (p.2.2++[C.exc p.1.1 (p.1.2.map (·.1)) (p.1.2.map (·.2))])).map λq=>(q.1,q.2.1.set i b6,q.2.2)else b6|none=>m b a
theorem Ny{X:Cx}{body hb:List Stmt}{l:Stmt}{c y:Str}{cp hp pos:Xq}{L:Addr}{i:Nat}{m mh:MS}{r:MR}{sup:Str->Option Bool}(O:X.ex=[])(hst:X.stack=X.env::X.outer)(hf:X.env.frame=b4 L)(hN:X.N.Nodup)
  (hi:X.N[i]?=b4 y)(hy:X.env.scope.names.lookup y=b4 .local)(hg:Gl X c)(hdb:(c==("__debug__":Str))=b7) (hs:∀x b,sup x=b4 b->qF X.K x c=b4 b)
  (hm:QB X.nox body m)(hr:∀E,QRB (X.wish E) body r)(hh:∀e,QBh (X.hnd (.ref e)) e (l::hb) mh) :
  QS X (.Try body [.ExceptHandler (b4 (.Name c cp)) (b4 y) (l::hb) hp] [] [] pos) (n9 m r sup i mh):=by
 refine⟨λj s A H D I t=>wpAny_Try_except ?_⟩;obtain⟨π,ρ,μ,fl,ρ',μ',R,En0,o,n⟩:=t;unfold n9 at o;split at o
 ·rename_i p hp';obtain⟨x,ρ1,Y⟩:=p;dsimp only at o;split at o
  ·rename_i w;obtain⟨⟨fl2,ρ2,μ2⟩,hq,o⟩:=VJ.mp o;cases o;refine aM ((hr (λe s₁=>V2 (V8 X.prog X.w) X.A (a2i e X.env) (λ_ s₂=>V2 (V8 X.prog X.w) X.A (a2f e b6) (λ_ s₃=>V2 (V8 X.prog X.w) X.A (handleBy e X.env [.ExceptHandler (b4 (.Name c cp)) (b4 y) (l::hb) hp]) (SP X j D) X.xe s₃) X.xe s₂) X.xe s₁)).h j s A H π ρ μ x ρ1 Y (I.wish _) R En0 hp' ?_) λ_ _ z=>z.elim;intro π1 σ1 H1 s1 e cls dc T e1 R1 E1 I1 U ix;have I1:=I1.unwish;have U:Ex X j H1 s1 e cls dc T:=⟨U.rc,U.hT,U.lo,U.fr,U.pn⟩;refine Nw O hst hf I1 U λs2 T2 I2 x2=>?_;obtain⟨B,hB⟩:∃B,iB X.K x.1=b4 B:=by have:=hs _ _ w;unfold qF at this;obtain⟨B,hB,_⟩:=VF.mp this;exact⟨B,hB⟩
   have a:=hs _ _ w;unfold qF at a;rw[hB,Wg]at a;obtain⟨Ca,hC,a⟩:=VF.mp a;obtain⟨b1,hb1,a⟩:=VF.mp a;obtain⟨b2,hb2,a⟩:=VJ.mp a;have hcls:cls=.ref B:=by have h1:W0 X.K WD x.1=b4 (b4 cls):=ix.1;rw[tG hB]at h1;cases h1;rfl
   subst hcls;have hmg:X.mg c=b4 (.ref Ca):=ZD I.mod.kin I.mod.glob (tG hC);have kin:=I2.kIn;obtain⟨⟨N1,rG,q1,bs1,sn1,su1,ab1,col1,dd1,a0,a1,a2,a3,a5,o1⟩,_⟩:=yH kin hb1;obtain⟨⟨N2,nm2,q2,bs2,sn2,su2,ab2,col2,dd2,c0,c1,c2,c3,c5,o2⟩,ob2⟩:=yH kin hb2;obtain⟨oe,vs,g1,g2,_⟩:=x2.rc.ob;refine wpAny_handleBy_cons (codeAny_handlers_test ?_) (by intro q;cases q);refine lP (X:=X.hnd (.ref e)) (DE I2 (.ref e)) hg hmg ?_ hdb;refine Nu o1 o2 g1 g2 ob2 ?_;rw[a];dsimp only[if_true];refine codeAny_handlers_suite_as ?_;refine Nx O I2 x2 λs3 I3 x3=>?_;obtain⟨π4,H4,e4,R4,I4,p4,sf⟩:=x3.cell O I3 R1 ix;refine r9 (v:=.ref e) I4 hN hi (.inl hy) rfl (λs5 I5 _=>?_) (.inr hy);have dl:IsD X.K π4 (Y++[C.exc x.1 (x.2.map (·.1)) (x.2.map (·.2))]).length H4 (.ref e) (.loc Y.length):=by rw[<- p4];exact .loc (by simp)
   have k:=(hh e).h j s5 _ H4 {nx:=λA H=>D.nx (A.set i b6) H,bk:=λA H=>D.bk (A.set i b6) H,ct:=λA H=>D.ct (A.set i b6) H,rt:=D.rt} sf (DE I5 (.ref e))
    ⟨π4,_,_,fl2,ρ2,μ2,R4,(E1.mono e4).set dl i,hq,?_⟩
   ·refine WB k (λf s6 q=>?_) λ_ _ z=>WR z;cases f with
    |next=>obtain⟨Z,J,K,Q⟩:=q;exact tI (tH I.ok K) hN hi hy λs7 M=>⟨_,J,M,Q⟩|brk=>obtain⟨Z,J,K,Q⟩:=q;exact tI (tH I.ok K) hN hi hy λs7 M=>⟨_,J,M,Q⟩|cont=>obtain⟨Z,J,K,Q⟩:=q;exact tI (tH I.ok K) hN hi hy λs7 M=>⟨_,J,M,Q⟩|ret u=>obtain⟨v6,Z,J,K,r6,Q⟩:=q;exact tI (tH I.ok K) hN hi hy λs7 M=>⟨v6,_,J,M,r6,Q⟩
   ·have ee:=e1.trans e4;cases fl2 with
    |nx=>exact λh σ' G N R' E'=>n h _ G (ee.trans N) R' (E'.unset i)|bk=>exact λh σ' G N R' E'=>n h _ G (ee.trans N) R' (E'.unset i)|ct=>exact λh σ' G N R' E'=>n h _ G (ee.trans N) R' (E'.unset i)|rt d=>exact λh v G N=>n h v G (ee.trans N)
  ·cases o
 ·refine WB (hm.h j s A H D (I.wish _) ⟨π,ρ,μ,fl,ρ',μ',R,En0,o,n⟩) (λf s1 q=>?_) λ_ _ z=>WR z;cases f with
  |next=>exact Zt (SP.unwish (f:=.next) q)|brk=>exact SP.unwish (f:=.brk) q|cont=>exact SP.unwish (f:=.cont) q|ret u=>exact SP.unwish (f:=.ret u) q
end L3
namespace L3
open PySem L2 PySem.Spec PyProof.Rows
noncomputable abbrev oA(h:WI)(C:Addr)(rest:List Value):WI:=(h.push {cls:=.type "tuple",data:=.seq rest.toArray}).push {cls:=.ref C,data:=.fields #[.ref h.objs.size,.none,.none,.none,.bool b7,.none]}
theorem tJ{h:WI}{C:Addr}{rest:List Value}:∀b o,h.get? b=b4 o->(oA h C rest).get? b=b4 o:=λb o q=>VM _ (VM _ q)
theorem DF(h:WI)(C:Addr)(rest:List Value):(oA h C rest).get? (h.objs.size+1)=b4 {cls:=.ref C,data:=.fields #[.ref h.objs.size,.none,.none,.none,.bool b7,.none]}:=by heap_get
section
variable{prog:V6}{w:Wj}{A:Wh}{E:Value->VL->Prop}{s:VL}
variable{nm q:Str}{C N fI:Addr}{bs bm bmB:List Value}{hdct:Bool}{sn:List Str}{sub:List Value}{ab:Bool}{col:Option Bool}{dd:Option Addr}{k0 k1 k2 k3 k5:Option Value}{B newId initId:String}{mN:Str->Option Value}{rest:List Value}
theorem Nz(F:ExcBaseFacts B newId initId bmB)(T:a2F s.heap bmB bm){l:Obj}{Q:Fin->VL->Prop}(hC:s.heap.get? C=b4 (XT nm q C N bs bm hdct sn sub ab col dd k0 k1 k2 k3 k5 newId))(y:s.heap.Ns N mN)(u:mN "__init__"=b4 (.ref fI))
  (p:s.heap.get? fI=b4 l)(e:l.cls=.type "function") (v:rest.length<=VW)
  (z:V2 (V8 prog w) A (call (.ref fI) (.ref (s.heap.objs.size+1)::rest)) (λr m=>r=.none/\Q (.done (.ret (.ref (s.heap.objs.size+1)))) m) E {s with heap:=oA s.heap C rest}) :
  V2 (V8 prog w) A (Builtin.«type.__call__» ⟨.ref C::rest,[]⟩) Q E s:=by
 obtain⟨h,g,d,t,G⟩:=s;repeat (first|with_reducible refine WY hC ?_|with_reducible refine wpAny_madeBy_exc hC ?_|wp_step)
 refine codeAny_call_builtin_code (a3L _ F.quiet) (wpAny_check_new_subT F T hC (codeAny_exc_new_subT F T hC ?_ v));show V2 _ _ _ _ _ (⟨oA h C rest,g,d,t,G⟩:VL);have a:=tJ (C:=C) (rest:=rest) _ _ hC;have i:=y.keeps (tJ (h:=h) (C:=C) (rest:=rest));have c:=tJ (C:=C) (rest:=rest) _ _ p;have n:=T.keeps (tJ (h:=h) (C:=C) (rest:=rest));have o:=DF h C rest;have b:(VU C::bm).contains (.ref C)=true:=by simp
 unfold a2S;repeat (first|with_reducible refine WY o ?_|(with_reducible refine Yu a ?_;rw[b])|wp_step)
 show V2 _ _ (YK (.ref C) _) _ _ _;refine wpAny_typeLookup_tail a i n F.mroIs F.init.lookup ?_;rw[u];refine WN (VH ?_);unfold bindSpecial;refine VH (a1I (T:="function") ⟨_,c,e⟩ ?_);rw[if_pos (by decide)];refine VQ (VH (WB z (λr m j=>?_) λ_ _ x=>x));obtain⟨rfl,j⟩:=j;wp_walk;exact j
theorem NA(F:ExcBaseFacts B newId initId bmB)(T:a2F s.heap bmB bm){b:Obj}{Q:Value->VL->Prop}(hC:s.heap.get? C=b4 (XT nm q C N bs bm hdct sn sub ab col dd k0 k1 k2 k3 k5 newId))(j:s.heap.Ns N mN)(e:mN "__init__"=b4 (.ref fI))
  (c:s.heap.get? fI=b4 b)(a:b.cls=.type "function") (i:rest.length<=VW)
  (l:V2 (V8 prog w) (A.under (.builtin "type.__call__" ⟨.ref C::rest,[]⟩)) (call (.ref fI) (.ref (s.heap.objs.size+1)::rest)) (λr m=>r=.none/\Q (.ref (s.heap.objs.size+1)) m) E {s with heap:=oA s.heap C rest}) :
  V2 (V8 prog w) A (call (.ref C) rest) Q E s:=by
 have n:=tc_lookup;have o:=tc_bind (.ref C);have p:s.TypeIs (.ref C) "type":=⟨_,hC,rfl⟩;obtain⟨h,g,d,t,u⟩:=s;refine a1w (codeAny_of_tree ?_);show V2 _ _ (callAny (.ref C) _) _ _ _;repeat (any_goals (first|assumption|with_reducible refine WY hC ?_|wp_step))
 refine⟨rfl,?_⟩;exact codeAny_call_builtin_at (a3L _ (by decide +kernel)) entry_typeCall (wpAny_check_type_call_sub hC (Nz F T hC j e c a i l))
theorem NB{env:a0k}{x:a5I Value}{Q:Flow->VL->Prop}(b:bm.contains (.type "BaseException")=b8) (r:A.handled=b6)
  (h:V2 (V8 prog w) A x (λv a=>∃e i l,v=.ref e/\a.heap.get? C=b4 (XT nm q C N bs bm hdct sn sub ab col dd k0 k1 k2 k3 k5 newId)/\a.heap.get? e=b4 i/\i.cls=.ref C/\i.data=.fields l/\l[1]?=b4 .none/\E (.ref e) a) E s) :
  V2 (V8 prog w) A (raiseStmt env (b4 x) b6) Q E s:=by
 have j:(VU C::bm).contains (.type "BaseException")=true:=by rw[Z7,b,a1f]
 unfold raiseStmt;refine VH (WB h (λv a c=>?_) λ_ _ x=>x);obtain⟨e,i,l,rfl,m,n,hc,hd,o,p⟩:=c;obtain⟨G,H,u,y⟩:=i;cases hc;cases hd;obtain⟨z,g,d,J,I⟩:=a;repeat (first|with_reducible refine WY n ?_|with_reducible refine WY m ?_|(with_reducible refine Yu m ?_;rw[j])|with_reducible refine Yo n rfl o ?_|wp_step)
 exact wpAny_raiseNew_none r p
theorem NC{M:a1R}{o:Obj}{x:Addr}{a v:Value}{Q:Unit->VL->Prop}(T:a2F s.heap mH bm)(hC:s.heap.get? C=b4 (XT nm q C N bs bm b8 sn sub ab col dd k0 k1 k2 k3 k5 newId))(i:s.heap.get? x=b4 o)(hc:o.cls=.ref C)(e:Q () s) :
  V2 M A (a0A "object.__setattr__" ⟨[.ref x,a,v],[]⟩) Q E s:=by
 have b:=Z8;have c:(VU C::bm).contains (.type "object")=true:=by rw[Z7,T.hasType b.hasOwner,a1f]
 have j:=b.args (.ref x) a v;obtain⟨h,g,d,t,l⟩:=s;simp only[a0A,b.kind,b.split];refine VH ?_;unfold a2S;repeat (first|(with_reducible refine WY i ?_;rw[hc])|(with_reducible refine Yu hC ?_;rw[c])|wp_step)
 exact e
theorem ND{name:Str}{tk:a5a}{v:Value}{x:Addr}{o:Obj}{vs:Array Value}{Q:Fin->VL->Prop}(T:a2F s.heap mH bm)(hC:s.heap.get? C=b4 (XT nm q C N bs bm b8 sn sub ab col dd k0 k1 k2 k3 k5 newId))
  (O:YY (V8 prog w) s.heap (YK (.ref C) name) b6)(G:s.heap.get? x=b4 o)(hc:o.cls=.ref C)(hd:o.data=.fields vs)(hnd:o.dict=b6)
  (L:∀a R J,a.get? x=b4 {o with dict:=b4 s.heap.objs.size}->a.get? s.heap.objs.size=b4 R->a.Ns1 s.heap.objs.size (λy=>if y=name then b4 v else b6)->(∀b I,b≠x->s.heap.get? b=b4 I->a.get? b=b4 I)->Q (.done (.ret .none)) {s with heap:=a,toks:=J}) :
  V2 (V8 prog w) A (Builtin.«object.__setattr__» ⟨[.ref x,.str name tk,v],[]⟩) Q E s:=by
 have U:=Z8;have c:refuseLoop (.ref x) "__setattr__" (.ref C::bm)=pure ():=by
  rw[a6w];clear hC O L;induction T with
  |base=>exact U.passes _|own _ _ _ _ ih=>rw[a6w];exact ih
 obtain⟨h,g,d,t,os⟩:=s;unfold Builtin.«object.__setattr__»;repeat (first|rw[refuse_eq]|rw[c]|(with_reducible refine WY G ?_;rw[hc])|with_reducible refine wpAny_mroOf_exc hC ?_|with_reducible refine YS (s:=⟨h,g,d,_,os⟩) O ?_|wp_step)
 rw[hnd,if_neg (by simp[typeHasDict])];rw[hd];have l:(h.push {cls:=.type "dict",data:=.dict #[]}).get? x=b4 o:=VM _ G;have m:x≠h.objs.size:=V4 (VR G);refine VH (wpAny_alloc' ?_);refine VH (wpAny_update' l (VQ ?_));have H:((h.push {cls:=.type "dict",data:=.dict #[]}).update x λo=>{cls:=o.cls,dict:=b4 h.objs.size,data:=o.data,slots:=o.slots}).get? x=b4 {o with dict:=b4 h.objs.size}:=by refine WH _ l ?_;obtain⟨oc,R,odt,osl⟩:=o;cases hd;rfl
 have u:((h.push {cls:=.type "dict",data:=.dict #[]}).update x λo=>{cls:=o.cls,dict:=b4 h.objs.size,data:=o.data,slots:=o.slots}).get? h.objs.size=b4 {cls:=.type "dict",data:=.dict #[]}:=
  (a3w _ _ _ _ m.symm).trans (Heap.get?_push_at rfl rfl)
 have z:((h.push {cls:=.type "dict",data:=.dict #[]}).update x λo=>{cls:=o.cls,dict:=b4 h.objs.size,data:=o.data,slots:=o.slots}).Ns h.objs.size (λ_=>b6):=⟨_,#[],_,u,rfl,(λe Z=>absurd Z (by simp)),λ_=>rfl⟩;show V2 _ _ (a0o h.objs.size (.str name tk) name v) _ _ _;unfold a0o a4x;refine VH (VQ (VH (wpAny_nsSet1 (Heap.Ns1.of_empty z) λa i M=>?_)));obtain⟨oD,Y,X,j,r,p⟩:=i.count (Within.cons name v Within.nil);refine VH (wpAny_lookBehind j (by rw[r];exact pastItsLine_dict (WM p (by rw[Wc,YB,V9];omega))) ?_);wp_walk;exact L a oD _ ((M.2 x m).trans H) j i λb I n K=>(M.2 b (V4 (VR K))).trans ((a3w _ _ _ _ n).trans (VM _ K))
theorem NF{name:Str}{v:Value}{x:Addr}{o:Obj}{vs:Array Value}{Q:Unit->VL->Prop}(T:a2F s.heap mH bm)(hC:s.heap.get? C=b4 (XT nm q C N bs bm b8 sn sub ab col dd k0 k1 k2 k3 k5 newId))
  (G:YY (V8 prog w) s.heap (YK (.ref C) "__setattr__") (b4 (.builtin "object.__setattr__"))) (H:YY (V8 prog w) s.heap (YK (.ref C) name) b6)
  (i:s.heap.get? x=b4 o)(hc:o.cls=.ref C)(hd:o.data=.fields vs)(hnd:o.dict=b6)
  (z:∀a j c,a.get? x=b4 {o with dict:=b4 s.heap.objs.size}->a.get? s.heap.objs.size=b4 j->a.Ns1 s.heap.objs.size (λy=>if y=name then b4 v else b6)->(∀b m,b≠x->s.heap.get? b=b4 m->a.get? b=b4 m)->Q () {s with heap:=a,toks:=c}) :
  V2 (V8 prog w) A (setAttr (.ref x) name v) Q E s:=by
 have e:=Z8;have I:=e.slot.bind (.ref x);obtain⟨h,g,d,t,l⟩:=s;unfold setAttr callSpecial? specialOf;repeat (any_goals (first|assumption|(with_reducible refine WY i ?_;rw[hc])|with_reducible refine YS (s:=⟨h,g,d,_,l⟩) G ?_|wp_step))
 refine a0Y e.slot.plain e.entry (NC (s:=⟨h,g,d,t+1,l⟩) T hC i hc (ND (s:=⟨h,g,d,t+1,l⟩) T hC H i hc hd hnd λa j c n p r u=>?_));repeat (any_goals (first|assumption|wp_step))
 exact z a j c n p r u
end
end L3
namespace L3
open PySem L2 PySem.Spec PyProof.Rows
noncomputable def XO(e C:Addr)(a:Option Addr):HO:=.ext λh=>∃o vs,h.get? e=b4 o/\o.cls=.ref C/\o.dict=a/\o.data=.fields vs/\(vs[1]?=b4 .none/\vs[2]?=b4 .none)/\∃t,vs[0]?=b4 (.ref t)
theorem yI{P:V6}{w:Wj}{H:Hp}{h:WI}{e C:Addr}{b:Option Addr}{o:Obj}{vs:Array Value}{t:Addr}(h1:h.get? e=b4 o)(d:o.cls=.ref C)(i:o.dict=b)(j:o.data=.fields vs)(l:vs[1]?=b4 .none/\vs[2]?=b4 .none)(m:vs[0]?=b4 (.ref t)):ObjOk P w H h e (XO e C b):=
 ⟨⟨o,vs,h1,d,i,j,l,t,m⟩,⟨o,h1⟩,λ_ _ ⟨n,a,c,g⟩ k=>⟨n,a,k _ c,g⟩⟩
noncomputable def tK(K:VG)(C f:Addr):Bool:=match K.lookup C with
 |some ⟨.type "type",_,.cls cd,sl⟩=>(match cd.mro,sl.toList with
  |.ref C'::bm,[_,_,_,_,b4 (.builtin n),_]=>C'==C&&n=="ValueError.__new__" && !cd.hasDel&&cd.hasDict&&PySem.W.tailIn K mH bm&&PySem.W.nsOkIn K cd.ns&&W0 K cd.ns "__init__"==b4 (b4 (.ref f))
  |_,_=>b7)
 |_=>b7
theorem NG{K:VG}{h:WI}{N:Addr}{m:Str->Option Value}{n:Str}{v:Value}(X:K.In h)(G:h.Ns N m)(e:W0 K N n=b4 (b4 v)):m n=b4 v:=by
 obtain⟨o,r,p,j,hd,_,i⟩:=G;unfold W0 at e;split at e
 ·rename_i c d b s u q;have g:=X _ _ q;rw[j]at g;cases g;cases hd;split at e
  ·rename_i l a;cases e;rw[<- i n];unfold nsFind findBy;rw[<- Array.find?_toList,a];rfl
  ·split at e<;>cases e
 ·cases e
theorem tL{K:VG}{h:WI}{C f:Addr}(X:K.In h)(q:tK K C f=b8) :
  ∃d N s u bs v b p a r i j l m o w,h.get? C=b4 (XT s u C N bs d b8 v b p a r i j l m o "ValueError.__new__")/\h.Ns N w/\w "__init__"=b4 (.ref f)/\a2F h mH d:=by
 unfold tK at q;split at q
 ·rename_i r x R A;split at q
  ·rename_i T d i j l m n o z B;rw[VO,VO,VO,VO,VO,VO,beq_iff_eq,beq_iff_eq,beq_iff_eq,Zx]at q;obtain⟨⟨⟨⟨⟨⟨H,I⟩,J⟩,Q⟩,L⟩,M⟩,O⟩:=q;subst H I;cases x with
   |mk s bs E G u hd v b p a y=>cases z;cases J;cases Q;have e:R=#[i,j,l,m,b4 (.builtin "ValueError.__new__"),o]:=a4m.mp B;subst e;have c:=PySem.W.isNs_of_in X M;exact⟨d,G,s,u,bs,v,b,p,a,r,i,j,l,m,o,_,X _ _ A,.of_isNs c,NG X (.of_isNs c) O,PySem.W.tail_of_in X L⟩
  ·cases q
 ·cases q
noncomputable def yJ(K:VG)(B:Addr):Bool:=PySem.W.readsIn K B (.type "type")&&(match a3I K (.ref B) (.type "type") "__init__" with|some (.val (.builtin n))=>n=="ValueError.__init__" |_=>b7) &&
 Z5 K (.ref B) "__getattribute__"==b4 (b4 (.builtin "type.__getattribute__"))
noncomputable def mI(C:Addr)(b:Str):Sp:=λvs H Q _=>∃e v,vs=[V.ref e,v]/\H e=b4 (XO e C b6)/\∀a c,H a=b6->a≠e->Q .non (aI (aI H e (XO e C (b4 a))) a (.frz c (.xd [(b,v)])))
structure InitK(K:VG)(C f B:Addr)(bn at':Str):Prop where
 cls:tK K C f=b8
 base:yJ K B=b8
 bnm:W0 K WD bn=b4 (b4 (.ref B))
 set:Xh K (.ref C) "__setattr__"=b4 (b4 (.builtin "object.__setattr__"))
 none:Xh K (.ref C) at'=b4 b6
section
variable{X:Cx}{a6G:List (Addr×Obj)}{σ:L2.St}{H:Hp}{s:VL}{e C f B:Addr}{bn at':Str}
theorem NH{Q:Value->VL->Prop}{E:Value->VL->Prop}{us:List Value}(c:InitK X.K C f B bn at')(I:Inv X a6G σ H s)(j:H e=b4 (XO e C b6))(hl:us.length<=VW)
  (k:∀y,Inv X a6G σ H y->Q .none y):V2 (V8 X.prog X.w) X.A (call (.builtin "ValueError.__init__") (.ref e::us)) Q E s:=by
 obtain⟨Y,N,nm,qn,bs,sn,O,U,G,Z,k0,k1,k2,k3,k5,mN,K,hn,_,T⟩:=tL I.kIn c.cls;have F:=Z0;obtain⟨⟨o,R,p,r,J,i,v,ta,w⟩,_⟩:=I.hok e _ j;obtain⟨h,g,d,t,M⟩:=s;refine a1w (a0Y F.init.plain F.initEntry (wpAny_check_init_subT F T K p r ?_));have a:(h.push {cls:=.type "tuple",data:=.seq us.toArray}).get? e=b4 o:=VM _ p;have x:0<R.size:=(W5.mp w).1;unfold Builtin.«BaseException.__init__»;repeat (first|with_reducible refine Yo a i w ?_|with_reducible refine Y5 a i x ?_|wp_step)
 have same:aI H e (XO e C b6)=H:=by
  funext b;unfold aI;split
  ·rename_i z;rw[z,j]
  ·rfl
 have A:Inv X a6G σ H ⟨h.push {cls:=.type "tuple",data:=.seq us.toArray},g,d,t,M⟩:=I.kept (t':=t) λb u q=>VM _ q;have m:=Yz i (·.setIfInBounds 0 (VU h.objs.size));have n:=WH (ZN (·.setIfInBounds 0 (VU h.objs.size))) a (YN m);have l:=A.write (x:=e) (e:=e) (o:=XO e C b6) (h':=(h.push {cls:=.type "tuple",data:=.seq us.toArray}).update e (ZN (·.setIfInBounds 0 (VU h.objs.size)))) (t':=t) (by rw[j];trivial) (.inl rfl) (λb u L q=>by rw[Wi _ _ (WG L)];exact q) ⟨_,n⟩
  (yI n (by rw[a1k];exact r) (by rw[Dy];exact J) m ⟨by rw[ZS];simpa using v.1,by rw[ZS];simpa using v.2⟩ (t:=h.objs.size) (by rw[ZS];simp[x]))
 rw[same]at l;exact k _ l
theorem NI {env:a0k}{bn sf l:Str} {kk} {c d i j b:Xq}(m:(d.endLine == b.line)=b8):eval (.Call (.Attribute (.Name bn c) "__init__" d) [.Name sf i,.Constant (.str l) kk j] [] b) env=(do
   let h <- eval (.Name bn c) env
   standAt d.atName
   let (f,first) <- holding [h] (getMethod h "__init__" (do return (<- importBound (.Name bn c) env).getD b8))
   callWith b f first (Yy b (Wt [.Name sf i,.Constant (.str l) kk j] env)) (a2U b (a0W [] env))):=by
 rw [arm_eval_Call]
 have n:∀ a,methodCallPos a (.Name bn c) env d b=pure b:=fun a=>by
  unfold methodCallPos
  rw [m]
  cases a<;>rfl
 simp only [methodCall,n,pure_bind]
 rfl
theorem NJ{v:V}{u:Value}{Q:Unit->VL->Prop}{E:Value->VL->Prop}(c:InitK X.K C f B bn at')(I:Inv X a6G σ H s)(j:H e=b4 (XO e C b6))(r:RelV v u)
  (k:∀s' G A,H G=b6->G≠e->Inv X a6G σ (aI (aI H e (XO e C (b4 G))) G (.frz A (.xd [(at',v)]))) s'->Q () s'):V2 (V8 X.prog X.w) X.A (setAttr (.ref e) at' u) Q E s:=by
 obtain⟨bm,N,nm,qn,bs,sn,sub,ab,col,dd,k0,k1,k2,k3,k5,mN,hC,hn,_,T⟩:=tL I.kIn c.cls
 obtain⟨⟨o,vs,R,U,g3,Y,g5,ta,g6⟩,_⟩:=I.hok e _ j
 refine NF T hC (YM I.kIn c.set) (YM I.kIn c.none) R U Y g3 λh' A L O a2 a3 p=>?_
 have ne:s.heap.objs.size≠e:=Xr (VR R)
 have Z:H s.heap.objs.size=none:=I.hok.fresh (VS _)
 refine k _ s.heap.objs.size A Z ne ?_
 have x:∀b z,H b=b4 z->b≠s.heap.objs.size:=λb z q M=>by rw[M,Z]at q;cases q
 have l:∀b,b≠e->b≠s.heap.objs.size->aI (aI H e (XO e C (b4 s.heap.objs.size))) s.heap.objs.size (.frz A (.xd [(at',v)])) b=H b:=λb h1 h2=>by rw[aT h2,aT h1]
 have nx:∀b z,H b=b4 z->z≠XO e C b6->b≠e:=λb z q J M=>by rw[M,j]at q;cases q;exact J rfl
 refine I.step (H':=aI (aI H e (XO e C (b4 s.heap.objs.size))) s.heap.objs.size (.frz A (.xd [(at',v)]))) (h':=h') (g':=s.gens) (d':=s.drawn) (t':=L) (ch:=[]) (λb h=>nomatch h)
  (λb i _ _ _ q n=>p b i (λz=>by rw[z,j]at n;cases n) q) (λb i _ _ _ q n=>⟨i.slots,p b i (λz=>by rw[z,j]at n;cases n) q⟩)
  (λb i _ q n=>?_) (λb i _ q=>?_) (λb xs q=>?_) (λb i z q=>?_) (λb ps q=>⟨#[],?_⟩) (λm hm=>?_) ?_ I.bare
 ·rw[l b (λz=>by rw[z,j]at n;cases n) (V4 (VR q))]
  exact n
 ·by_cases h:b=e
  ·exact⟨_,by rw[h];exact O⟩
  ·exact⟨_,p b i h q⟩
 ·rw[l b (nx _ _ q (by intro z;cases z)) (x _ _ q)]
  exact q
 ·rw[l b (nx _ _ q (by intro z;cases z)) (x _ _ q)]
  exact q
 ·rw[l b (nx _ _ q (by intro z;cases z)) (x _ _ q)]
  simpa using q
 ·obtain⟨oL,es,ep,q1,q2⟩:=hm
  exact⟨oL,es,ep,p _ _ (λz=>by have:=I.free;rw[z,j]at this;cases this) q1,q2⟩
 ·intro b z q
  by_cases hd:b=s.heap.objs.size
  ·subst hd
   rw[bR]at q
   cases q
   refine⟨a2,_,a3,λy=>?_⟩
   by_cases K:y=at'
   ·subst K
    simp[RelO,r]
   ·have:(y==at')=false:=beq_eq_false_iff_ne.mpr K
    simp[ZO,this,K,RelO]
  ·rw[aT hd]at q
   by_cases h:b=e
   ·subst h
    rw[bR]at q
    cases q
    exact yI O U rfl Y g5 g6
   ·rw[aT h]at q
    refine(I.hok b z q).stay (λw u' a d=>p w u' (λJ=>?_) d) (λw d=>?_) λw xs d=>?_
    ·rcases a with a|a
     ·exact h (a.symm.trans J)
     ·rw[J,j]at a;cases a
    ·rw[l w (nx _ _ d (by intro z;cases z)) (x _ _ d)]
     exact d
    ·rw[l w (nx _ _ d (by intro z;cases z)) (x _ _ d)]
     exact d
end
theorem NK{CX:fM}{P:V6}{w:Wj}{K:VG}{p:Str->Option Value}{base:WI}{k:Nat}{x qual sf ar bn a T:Str}{st:Stmt}{f C B:Addr}{Z:Xy} {kk} {p1 p2 p3 p4 R p6 p7 p8 p9 O:Xq}(F:Fun K x qual st f Z)(S:FnScope [sf,ar] [sf,ar] (bM st))
  (J:cL st=[.Expr (.Call (.Attribute (.Name bn p1) "__init__" p2) [.Name sf p3,.Constant (.str T) kk p4] [] R) p6,.Assign [.Attribute (.Name sf p7) a p8] (.Name ar p9) O]) (hl:(p2.endLine==R.line)=b8)
  (c:InitK K C f B bn a)(hg:(bM st).names.lookup bn=b4 .globalImplicit)(M:((bn==("__debug__":Str))||(sf==("__debug__":Str))||(ar==("__debug__":Str))||(sf==("__classdict__":Str))||(ar==("__classdict__":Str)))=b7) :
  FnOk P w K p base CX (k+1) f Z [sf,ar] (mI C a):=by
 obtain⟨oc,od,dV,kV,doc,pm,an,b,ct,osl,rfl,lk,L⟩:=F.ex;have M:((((bn==("__debug__":Str))=b7/\(sf==("__debug__":Str))=b7)/\(ar==("__debug__":Str))=b7)/\(sf==("__classdict__":Str))=b7)/\(ar==("__classdict__":Str))=false:=by simpa[Bool.or_eq_false_iff,and_assoc]using M
 obtain⟨⟨⟨⟨n1,n2⟩,n3⟩,n4⟩,n5⟩:=M;refine wQ (sp:=mI C a) lk L S (λy H Q E h=>by obtain⟨e,v,rfl,_⟩:=h;rfl) λA outer s H y Q E hr h=>?_;obtain⟨e,v,rfl,he,h⟩:=h;refine⟨λD u H'=>u=L2.start [sf,ar] [V.ref e,v]/\H'=H/\∀l od,H l=b6->l≠e->D.nx u (aI (aI H e (XO e C (b4 l))) l (.frz od (.xd [(a,v)]))),?_,rfl,rfl,h⟩;rintro i s1 σ d D I ⟨rfl,rfl,hD⟩;rw[J];have Y:InitK (dO CX P w K p base [sf,ar] qual (bM st) f b A outer s d E).K C f B bn a:=c;have G:=c.base;unfold yJ at G;rw[VO,VO,beq_iff_eq]at G;obtain⟨⟨b1,o⟩,b3⟩:=G;have o:a3I K (.ref B) (.type "type") "__init__"=b4 (.val (.builtin "ValueError.__init__")):=by
  split at o
  ·rename_i n q;rw[q,beq_iff_eq.mp o]
  ·cases o
 have vS:PE (dO CX P w K p base [sf,ar] qual (bM st) f b A outer s d E) (.Name sf p3) (mZ 0):=pM rfl ((S.par sf (by simp)).elim .inl λz=>.inr (.inl z)) n2 n4;have X:PE (dO CX P w K p base [sf,ar] qual (bM st) f b A outer s d E) (.Name sf p7) (mZ 0):=pM rfl ((S.par sf (by simp)).elim .inl λz=>.inr (.inl z)) n2 n4;have vA:PE (dO CX P w K p base [sf,ar] qual (bM st) f b A outer s d E) (.Name ar p9) (mZ 1):=pM rfl ((S.par ar (by simp)).elim .inl λz=>.inr (.inl z)) n3 n5;have m:=wN vS (wN (Bq (x:=T) (j:=kk) (pos:=p4)) BH);refine ZV (a2O ?_ I.quiet (l7 rfl));refine PySem.W.methodCall_KW (pl:=(do return(<- importBound (.Name bn p1) _).getD b8)) (lP I hg (ZD I.mod.kin I.mod.glob c.bnm) ?_ n1) (NI hl);refine PySem.W.method_cls I.kIn b3 (PySem.W.cls_value I.kIn b1 o rfl ?_);refine Zg (aM (m R i _ _ d (λy j=>[V.ref e,V.str T]=y/\d=j) (I.tok _) ⟨V.ref e,rfl,rfl,rfl⟩) λus s2 ⟨y,j,I2,r,e1,e2⟩=>?_);subst e1 e2;cases r with
 |cons r1 r=>
  rename_i u1 us _;obtain rfl:u1=VU e:=r1;cases r with
  |cons r2 r=>cases r;refine NH Y I2 he (by rw[V9];simp) λs3 I3=>?_;refine ZV (plainObj_wpAny_Assign_Attribute (aM (vA i _ _ _ (λU j=>v=U/\d=j) I3 ⟨v,rfl,rfl,rfl⟩) λu4 s4 ⟨v4,H4,I4,r4,e3,e4⟩=>?_));subst e3 e4;refine aM (X i _ _ _ (λU j=>V.ref e=U/\d=j) I4 ⟨V.ref e,rfl,rfl,rfl⟩) λu5 s5 ⟨v5,H5,I5,r5,e5,e6⟩=>?_;subst e5 e6;obtain rfl:u5=VU e:=r5;exact NJ Y I5 he r4 λs6 l N z1 z2 I6=>Zt ⟨_,_,I6,hD l N z1 z2⟩
end L3
namespace L3
open PySem L2 PySem.Spec PyProof.Rows
theorem Inv.untrack{X:Cx}{a6G:List (Addr×Obj)}{σ:L2.St}{H H':Hp}{s:VL}{e:Addr}{G:WI->Prop}(I:Inv X a6G σ H s)(w:H e=b4 (.ext G))(h1:H' e=b6)(j:∀b,b≠e->H' b=H b):Inv X a6G σ H' s:=by
 have a:∀b,H b=b6->H' b=none:=λb q=>by
  by_cases i:b=e
  ·rw[i];exact h1
  ·rw[j b i];exact q
 have h:∀b z,H b=b4 z->(∀J,z≠.ext J)->H' b=b4 z:=λb z q n=>by rw[j b λE=>by rw[E,w]at q;cases q;exact n _ rfl];exact q
 refine⟨I.ok,I.os,I.bare,⟨I.base.keep,I.base.slot,λb o q n A=>a b (I.base.free b o q n A),I.base.there,λb l q=>h _ _ (I.base.tups b l q) (λ_ z=>nomatch z),λb o u q=>h _ _ (I.base.frzs b o u q) (λ_ z=>nomatch z),λb B q=>?_⟩,I.loc,I.cell,a _ I.free,λy c q=>a _ (I.freeC y c q),λp x=>?_,λb u q=>?_,I.len⟩
 ·obtain⟨d,z⟩:=I.base.tbls b B q;exact⟨d,h _ _ z (λ_ z=>nomatch z)⟩
 ·obtain⟨m,r,v⟩:=I.pin p x;exact⟨m,a _ r,v⟩
 ·have i:b≠e:=λz=>by rw[z,h1]at q;cases q
  rw[j b i]at q;exact(I.hok b u q).stay (λ_ _ _ z=>z) (λc z=>h _ _ z (λ_ z=>nomatch z)) λc l z=>h _ _ z (λ_ z=>nomatch z)
theorem NL{X:Cx}{bn e sf ar:Str}{C f B:Addr}{L:Xy}{k:Nat}(c:InitK X.K C f B bn e)(F:FnOk X.prog X.w X.K X.mg X.base dY k f L [sf,ar] (mI C e))(hb:Binds X.K L [sf,ar] [])(A:∃H,X.K.lookup f=b4 H/\H.cls=.type "function") (hr:Room (k+1) X.A)
  {a6G:List (Addr×Obj)}{σ:L2.St}{h:Hp}{s1:VL}(j:Inv X a6G σ h s1){v:V}{u:Value}(rv:RelV v u){E:Value->VL->Prop}{Q:Value->VL->Prop}
  (K:∀(a d:Addr)(i o:Obj)(vs:Array Value)(p:VL),s1.heap.get? a=b6->h a=b6->h d=b6->d≠a->Inv X a6G σ (aI (aI (aI h a (XO a C b6)) a (XO a C (b4 d))) d (.frz i (.xd [(e,v)]))) p->p.heap.get? a=b4 o->o.cls=.ref C->o.dict=b4 d->o.data=.fields vs->(vs[1]?=b4 .none/\vs[2]?=b4 .none)->Q (.ref a) p) :
  V2 (V8 X.prog X.w) X.A (call (.ref C) [u]) Q E s1:=by
 obtain⟨bm,N,nm',qn,bs,sn,sub,ab,R,dd,k0,k1,k2,k3,k5,mN,hC,hn,hi,T⟩:=tL j.mod.kin c.cls;obtain⟨H,lI,Z⟩:=A;have l:s1.heap.get? (s1.heap.objs.size+1)=none:=ZP (ZR _);have m:h (s1.heap.objs.size+1)=none:=j.hok.fresh (ZR _);have s:Inv X a6G σ (aI h (s1.heap.objs.size+1) (XO (s1.heap.objs.size+1) C b6)) {s1 with heap:=oA s1.heap C [u]}:=by refine Inv.laid (t':=s1.toks) (s:={s1 with heap:=s1.heap.push {cls:=.type "tuple",data:=.seq [u].toArray}}) (j.kept (t':=s1.toks) λb o q=>VM _ q) (λb o q=>VM _ q) (by show(s1.heap.push _).objs.size<=_;rw[XW];exact VS _) ?_;exact yI (DF s1.heap C [u]) rfl rfl rfl ⟨rfl,rfl⟩ rfl
 refine NA Z0 (T.keeps j.bk) (j.bk _ _ hC) (hn.keeps j.bk) hi (j.kIn _ _ lI) Z (by rw[V9];simp) ?_;generalize hea:s1.heap.objs.size+1=a at l m s ⊢;have G:mI C e [V.ref a,v] (aI h a (XO a C b6)) (λM O=>M=.non/\∃d i,aI h a (XO a C b6) d=b6/\d≠a/\aI (aI (aI h a (XO a C b6)) a (XO a C (b4 d))) d (.frz i (.xd [(e,v)]))=O) (λ_ _ _=>False):=
  ⟨a,v,rfl,bR,λd i w r=>⟨rfl,d,i,w,r,rfl⟩⟩
 have r2:Vals [V.ref a,v] [VU a,u]:=.cons rfl (.cons rv .nil);refine a1w (a0c (F.run _ X.stack _ _ ⟨[VU a,u],[]⟩ [VU a,u] _ _ (λ_ _ _=>False) (hr.make C [u] []) (s.env0.make C [u] []) (by have:=hb _ [VU a,u] s.kIn rfl;rwa [X1]at this) r2 G) λrr p n=>?_);cases rr with
 |error z=>exact WR n|ok fl=>
  cases fl with
  |next=>exact WR n|brk=>exact WR n|cont=>exact WR n|ret u'=>
   obtain⟨M,H3,J,I,Y,d,i,w,r,U⟩:=s.after n;subst Y U;refine⟨I,?_⟩;have y:h d=none:=by rw[aT r]at w;exact w
   have x:aI (aI (aI h a (XO a C b6)) a (XO a C (b4 d))) d (.frz i (.xd [(e,v)])) a=b4 (XO a C (b4 d)):=by rw[aT (WG r),bR]
   obtain⟨⟨o,vs,g1,g2,g3,g4,g5,ta,g6⟩,_⟩:=J.hok a _ x;exact K a d i o vs p l m y r J g1 g2 g3 g4 g5
noncomputable def qG(x a:Str)(m:ME):MR:=λb c=>(m b c).map λp=>((x,[(a,p.1)]),b,p.2)
theorem NM{X:Cx}{x bn i sf ar:Str}{C f B:Addr}{fd:Xy}{k:Nat}{a:Expr}{m:ME}{np Q pos:Xq}(c:InitK X.K C f B bn i)(nm:W0 X.K WD x=b4 (b4 (.ref C)))(hk:WX X.K (.ref C)=b8)(F:FnOk X.prog X.w X.K X.mg X.base dY k f fd [sf,ar] (mI C i))(hb:Binds X.K fd [sf,ar] [])(hfn:∃oI,X.K.lookup f=b4 oI/\oI.cls=.type "function")
  (hr:Room (k+1) X.A)(hex:X.ex=[])(hc:X.calm=b8)(hg:Gl X x)(ha:QE X.nox a m)(hs:c7 a=b8)(hdb:(x==("__debug__":Str))=b7):QR X (.Raise (b4 (.Call (.Name x np) [a] [] Q)) b6 pos) (qG x i m):=by
 refine⟨λM s σ H π ρ μ y ρ' μ' I R E h w=>?_⟩;obtain⟨⟨d,r⟩,h1,h⟩:=VJ.mp h;cases h;have hst:Wt [a] X.env=(b7,eval a X.env)::Wt [] X.env:=fC hs;obtain⟨bm,N,nm',qn,bs,sn,sub,ab,O,dd,k0,k1,k2,k3,k5,mN,hC,hn,hi,T⟩:=tL I.mod.kin c.cls;rw[arm_exec_Raise];refine VH (a0u (NB (C:=C) (nm:=nm') (q:=qn) (N:=N) (bs:=bs) (bm:=bm) (hdct:=b8) (sn:=sn) (sub:=sub) (ab:=ab) (col:=O) (dd:=dd) (k0:=k0) (k1:=k1) (k2:=k2) (k3:=k3) (k5:=k5) (newId:="ValueError.__new__") (T.hasType Z0.hasBase) (I.ok.hd hc) (VH (aM (Q:=λv l=>∃e oe vs,v=.ref e/\l.heap.get? C=b4 (XT nm' qn C N bs bm b8 sn sub ab O dd k0 k1 k2 k3 k5 "ValueError.__new__")/\l.heap.get? e=b4 oe/\oe.cls=.ref C/\oe.data=.fields vs/\vs[1]?=b4 .none/\X.xe (.ref e) l) (XY (lP I hg (ZD I.mod.kin I.mod.glob nm) ?_ hdb)) (λv s₃ h₃=>VH (a0u (VQ h₃)))))));have k1:=ha.h M s σ H (λv G=>∃j,Ext π μ.length H j r.length G/\Rp X.K j G r/\IsD X.K j r.length G v d) (I.wish _) ⟨π,ρ,μ,d,r,R,E,h1,λj v G e1 R1 i1=>⟨j,e1,R1,i1⟩⟩;refine a0J (h₀:=X.base) I.ok.mod.kin hk (args_cons (WB k1 (λu s1 ⟨v,G,L,rv,j,e1,R1,i1⟩=>args_nil ⟨L.unwish.kIn,?_⟩) λ_ _ z=>WR z) hst) hst rfl;have L:=L.unwish;refine NL c F hb hfn hr L rv λA J od o vs s' Y Z hd1 z2 I3 g1 g2 g3 g4 g5=>?_;have hE3:aI (aI (aI G A (XO A C b6)) A (XO A C (b4 J))) J (.frz od (.xd [(i,v)])) A=b4 (XO A C (b4 J)):=by rw[aT (WG z2),bR]
 have I4:Inv X M σ (aI G J (.frz od (.xd [(i,v)]))) s':=Inv.untrack I3 hE3 (by rw[aT (WG z2)];exact Z) λb U=>by
  by_cases K:b=J
  ·rw[K,bR,bR]
  ·rw[aT K,aT K,aT U,aT U]
 obtain⟨e4,R4⟩:=R1.fresh (o:=.frz od (.xd [(i,v)])) hd1;refine⟨A,o,vs,rfl,I4.bk _ _ hC,g1,g2,g4,g5.1,?_⟩;refine w j σ _ s' A (.ref C) (b4 J) b6 (e1.trans e4) R4 ((E.mono e1).mono e4) I4 ⟨⟨⟨o,vs,g1,g2,g3,g4,g5.1,g5.2⟩,λp n=>nomatch n⟩,(λp n=>nomatch n),⟨Nt L hex Y,λp n=>nomatch n⟩,⟨by rw[aT (WG z2)];exact Z,λp n=>nomatch n⟩,λq hq=>⟨λz=>?_,λp n=>nomatch n⟩⟩
  ⟨nm,.inr ⟨J,od,[(i,v)],rfl,bR,rfl,.cons (i1.mono e4) .nil⟩⟩
 have:=(L.pin q hq).1;rw[z,Y]at this;cases this
end L3
namespace L3
open PySem L2 PySem.Spec PyProof.Rows
section
variable{prog:V6}{w:Wj}{A:Wh}{E:Value->VL->Prop}{s:VL}
variable{nm q:Str}{C N x dx:Addr}{bs bm:List Value}{sn:List Str}{sub:List Value}{ab:Bool}{col:Option Bool}{dd:Option Addr}{k0 k1 k2 k3 k5:Option Value}{newId:String}{name:Str}{v:Value}{o:Obj}{vs:Array Value}{mA:Str->Option Value}
theorem NN{M:a1R}{a:Value}{Q:Unit->VL->Prop}(e:bm.contains (.type "BaseException")=b8) (hC:s.heap.get? C=b4 (XT nm q C N bs bm b8 sn sub ab col dd k0 k1 k2 k3 k5 newId))(l:s.heap.get? x=b4 o)(hc:o.cls=.ref C)(j:Q () s) :
  V2 M A (a0A "BaseException.__getattribute__" ⟨[.ref x,a],[]⟩) Q E s:=by
 have i:builtinKind "BaseException.__getattribute__"=b4 .slot:=by decide +kernel
 have c:splitId "BaseException.__getattribute__"=b4 ("BaseException","__getattribute__"):=by decide +kernel
 have b:(VU C::bm).contains (.type "BaseException")=true:=by rw[Z7,e,a1f]
 have m:=PySem.F.args_bexc_ga (.ref x) a;obtain⟨h,g,d,t,n⟩:=s;simp only[a0A,i,c];refine VH ?_;unfold a2S;repeat (first|(with_reducible refine WY l ?_;rw[hc])|(with_reducible refine Yu hC ?_;rw[b])|wp_step)
 exact j
theorem NO{tk:a5a}{Q:Fin->VL->Prop}(hC:s.heap.get? C=b4 (XT nm q C N bs bm b8 sn sub ab col dd k0 k1 k2 k3 k5 newId))(j:YY (V8 prog w) s.heap (YK (.ref C) name) b6)
  (c:s.heap.get? x=b4 o)(hc:o.cls=.ref C)(hd:o.data=.fields vs)(a:o.dict=b4 dx)(b:s.heap.Ns1 dx mA)(i:mA name=b4 v)(e:Q (.done (.ret v)) s) :
  V2 (V8 prog w) A (Builtin.«object.__getattribute__» ⟨[.ref x,.str name tk],[]⟩) Q E s:=by
 obtain⟨h,g,d,t,l⟩:=s;unfold Builtin.«object.__getattribute__»;repeat (first|(with_reducible refine WY c ?_;rw[hc])|with_reducible refine YS (s:=⟨h,g,d,_,l⟩) j ?_|wp_step)
 rw[hd];unfold instanceDict;repeat (first|(with_reducible refine WY c ?_;rw[hc])|with_reducible refine WY hC ?_|wp_step)
 rw[a];repeat (first|(with_reducible refine wpAny_nsGet b.ns ?_;rw[i])|wp_step)
 exact e
theorem NP{a:Bool}{Q:Value->VL->Prop}(m:bm.contains (.type "BaseException")=b8) (hC:s.heap.get? C=b4 (XT nm q C N bs bm b8 sn sub ab col dd k0 k1 k2 k3 k5 newId))
  (y:YY (V8 prog w) s.heap (YK (.ref C) "__getattribute__") (b4 (.builtin "BaseException.__getattribute__"))) (z:YY (V8 prog w) s.heap (YK (.ref C) "__getattr__") b6) (B:YY (V8 prog w) s.heap (YK (.ref C) name) b6)
  (i:s.heap.get? x=b4 o)(hc:o.cls=.ref C)(hd:o.data=.fields vs)(c:o.dict=b4 dx)(e:s.heap.Ns1 dx mA)(p:mA name=b4 v)(n:handedOut v=pure v)(H:Q v {s with toks:=s.toks+1}) :
  V2 (V8 prog w) A (getAttr (.ref x) name a) Q E s:=by
 have l:=PySem.F.attrBase_ValueError;have G:=l.ga.bind (.ref x);have r:(a&&onTheHeap (Xf "BaseException.__getattribute__"))=false:=by cases a<;>rfl
 have j:(Xf "BaseException.__getattribute__"==Xf "object.__getattribute__")=false:=by decide +kernel
 have u:(onTheHeap (VU C)&&Xf "BaseException.__getattribute__"==Xf "object.__getattribute__")=false:=by rw[j];rfl
 obtain⟨h,g,d,t,b⟩:=s;unfold getAttr;repeat (any_goals (first|assumption|(with_reducible refine WY i ?_;rw[hc])|with_reducible refine YS (s:=⟨h,g,d,_,b⟩) y ?_|with_reducible refine YS (s:=⟨h,g,d,_,b⟩) z ?_|wp_step))
 refine a0Y l.ga.plain PySem.F.entry_bexc_ga (NN (s:=⟨h,g,d,t+1,b⟩) m hC i hc (NO (s:=⟨h,g,d,t+1,b⟩) hC B i hc hd c e p ?_));repeat (any_goals (first|assumption|(rw[n])|wp_step))
end
noncomputable def kQ(b:Str)(ok:Str->Bool)(m:ME):ME:=λe c=>(m e c).bind λp=>match p.1 with
 |.loc a=>(match p.2[a]? with
  |some (.exc x ns ds)=>if ok x=b8 then((ns.zip ds).lookup b).map λd=>(d,p.2)else b6
  |_=>b6)
 |_=>b6
noncomputable def tP(K:VG)(a x:Str):Bool:=match iB K x with
 |some C=>(n8 K C).isSome&&Xh K (.ref C) "__getattribute__"==b4 (b4 (.builtin "BaseException.__getattribute__"))&&Xh K (.ref C) "__getattr__"==b4 b6&&Xh K (.ref C) a==b4 b6|none=>b7
theorem DG{K:VG}{π:Nat->Addr}{n:Nat}{H:Hp}{k:Str}{d:D}:∀(us:List (Str×V))(ns:List Str)(ds:List D),us.map (·.1)=ns->IsDs K π n H (us.map (·.2)) ds->(ns.zip ds).lookup k=b4 d->∃v,us.lookup k=b4 v/\IsD K π n H v d
 |[],_,_,e,_,h=>by subst e;cases h
 |(y,v)::us,_,_,e,i,h=>by
  subst e;cases i with
  |cons c j=>
   rename_i l b;simp only[V0,a0T,ZO]at h ⊢;cases a:k==y with
   |true=>rw[a]at h;cases h;exact⟨v,rfl,c⟩|false=>rw[a]at h;exact DG us _ _ rfl j h
theorem DH{X:Cx}{o:Expr}{c:Str}{ok:Str->Bool}{m:ME}{pos:Xq}(ho:QE X o m)(hs:jH o=b8)(hok:∀x,ok x=b8->tP X.K c x=b8):QE X (.Attribute o c pos) (kQ c ok m):=by
 refine⟨λr s σ H Q I t=>?_⟩;obtain⟨U,ρ,T,d,K,R,E,h,kc⟩:=t;unfold kQ at h;obtain⟨⟨d1,e⟩,h1,h⟩:=VF.mp h;dsimp only at h;split at h
 ·rename_i a;split at h
  ·rename_i x O ds hx;split at h
   ·rename_i G;obtain⟨d2,N,h⟩:=VJ.mp h;obtain⟨rfl,rfl⟩:d2=d/\e=K:=by cases h;exact⟨rfl,rfl⟩
    refine IS (mD hs) (aM (ho.h r s σ H (λv i=>∃b,Ext U T.length H b e.length i/\Rp X.K b i e/\IsD X.K b e.length i v (.loc a)) I ⟨U,ρ,T,_,e,R,E,h1,λb v i y p J=>⟨b,y,p,J⟩⟩) λu s1 ⟨v,i,j,rv,b,y,p,J⟩=>?_);cases J;obtain rfl:u=VU (b a):=rv;obtain⟨ob,φ,g1,M,⟨vs,g3⟩,z⟩:=p.exc a x O ds hx;rcases z with⟨rfl,rfl,_⟩|⟨dx,od,us,z,g5,g6,g7⟩
    ·cases N
    obtain⟨w,lw,iw⟩:=DG us O ds g6 g7 N;have n:=hok x G;unfold tP at n;split at n
    ·rename_i C hC;rw[VO,VO,VO,beq_iff_eq,beq_iff_eq,beq_iff_eq]at n;obtain⟨⟨⟨q,Y⟩,Z⟩,a4⟩:=n;obtain⟨bm,q⟩:=Y2.mp q;have A:ob.cls=.ref C:=by rw[tG hC]at M;exact(VY (VY M)).symm
     obtain⟨⟨N1,rG,q1,bs1,sn1,su1,ab1,L,dd1,b0,b1,b2,b3,b5,o1⟩,hB⟩:=yH j.kIn q;obtain⟨y1,_⟩:=j.hok _ _ g1;obtain⟨y2,mA,y3,y4⟩:=j.hok _ _ g5;have l:=y4 c;rw[lw]at l;cases B:mA c with
     |none=>rw[B]at l;exact l.elim|some u=>rw[B]at l;exact NP hB o1 (YM j.kIn Y) (YM j.kIn Z) (YM j.kIn a4) y1 A g3 z y3 B (PySem.W.handedOut_of (IQ l)) ⟨w,i,j.tok _,l,kc b w i y p iw⟩
    ·cases n
   ·cases h
  ·cases h
 ·cases h
end L3
namespace L3
open PySem L2 PySem.Spec PyProof.Rows
noncomputable def NQ(K:VG)(C:Addr):Bool:=(n8 K C).isSome&&Xh K (.ref C) "__getattribute__"==b4 (b4 (.builtin "BaseException.__getattribute__"))&&Xh K (.ref C) "__getattr__"==b4 b6 &&
 (PySem.W.clsIn K C).isSome&&Xh K (.ref C) "__class__"==b4 (b4 (.builtin "object.__class__"))&&Z5 K (.builtin "object.__class__") "__get__"==b4 (b4 (.builtin "getset_descriptor.__get__")) &&
 a3G K (.builtin "object.__class__")==b4 b8&&a4p K C (.type "object")==b4 b8
section
variable{prog:V6}{w:Wj}{A:Wh}{E:Value->VL->Prop}{s:VL}{K:VG}{x C:Addr}{ox:Obj}{od:Option Obj}
end
end L3
namespace L3
open PySem L2 PySem.Spec PyProof.Rows
noncomputable def tQ(K:VG)(a:Value)(x:Str):Option Bool:=(iB K x).bind λB=>if NQ K B=b8 then a1z K (.ref B) a else b6
end L3
namespace L3
open PySem PySem.Spec
namespace Tb
section
variable{prog:V6}{w:Wj}{A:Wh}{E:Value->VL->Prop}{s:VL}
noncomputable abbrev IsT(prog:V6)(w:Wj)(h:WI)(k:List Int)(b:Addr):Prop:=IsTupleKey (Za prog w) h k b
end
section
variable{prog:V6}{w:Wj}{A:Wh}{R:a2l->VL->Prop}{I:Addr}{fp wr:List Addr}{G:Array a4K->Array a4K->Prop}{n:Nat}{P:Nat->Value->Prop}{St:Nat->VL->Prop}
end
section
variable{prog:V6}{w:Wj}{A:Wh}{E:Value->VL->Prop}{s:VL}
noncomputable abbrev fQ(a:Bool):Obj:={cls:=.type "set",dict:=b6,data:=.set #[] 0 (.fresh 0 0 a)}
end
end Tb
end L3
namespace L3
open PySem L2
open PyProof.Rows (IntsAre)
theorem yK:∀{ds:List D}{k:List Int},nU ds=b4 k->ds=k.map D.int
 |[],k,h=>by cases h;rfl
 |d::ds,k,h=>by
  cases d with
  |int i=>obtain⟨c,a,b⟩:=VJ.mp h;subst b;rw[yK a];rfl|_=>cases h
theorem qH{x:D}{k:List Int}(h:cU x=b4 k):x=.tup (k.map D.int):=by
 cases x with
 |tup ds=>rw[yK h]|_=>cases h
noncomputable def eK(b:Hm):D->Option (List D)
 |.rol xs=>b4 xs|.loc a=>match b[a]? with
  |some (.lst xs)=>b4 xs|_=>b6
 |_=>b6
section
variable{K:VG}{π:Nat->Addr}{n:Nat}{H:Hp}{μ:Hm}
theorem oB{v:V}{x:D}{xs:List D}(R:Rp K π H μ)(h:IsD K π μ.length H v x)(e:eK μ x=b4 xs):∃p vs,v=.ref p/\SqL K H p vs/\IsDs K π μ.length H vs xs:=by
 cases h with
 |rol q t=>cases e;exact⟨_,_,rfl,q.sq,t⟩|@loc a i=>
  simp only[eK]at e;split at e
  ·rename_i j d;cases e;obtain⟨vs,b,c⟩:=R.lst a xs d;exact⟨_,vs,rfl,.of b,c⟩
  ·cases e
 |_=>cases e
theorem ints_of':∀{vs:List V}{k:List Int},IsDs K π n H vs (k.map D.int)->vs=k.map V.int
 |_,[],h=>by cases h;rfl
 |_,i::k,h=>by
  cases h with
  |cons h t=>cases h;rw[ints_of' t];rfl
theorem yL:∀(k:List Int),IsDs K π n H (k.map V.int) (k.map D.int)
 |[]=>.nil|i::k=>.cons (.int i) (yL k)
end
theorem DI{X:Cx}:∀{k:List Int}{xs:List Value},Vals (k.map V.int) xs->ItemsAre (Za X.prog X.w) k xs
 |[],_,h=>by cases h;exact .nil
 |i::k,_,h=>by
  cases h with
  |cons h t=>obtain⟨a,rfl⟩:=h;exact .cons (intKind_is _ _ _ _) (DI t)
section
variable{X:Cx}{a6G:List (Addr×Obj)}{σ:St}{H:Hp}{s:VL}
theorem kR(I:Inv X a6G σ H s){b:Addr}{k:List Int}(h:SqT X.K H b (k.map V.int)):Tb.IsT X.prog X.w s.heap k b:=by obtain⟨j,i,⟨a,e,c,n,d⟩,_⟩:=I.tuple h;exact⟨a,j.toArray,n,e,c,d,by simpa using DI i⟩
theorem call_lenT:CallR X (.builtin "len") (λxs H Q=>∃a L,xs=[V.ref a]/\H a=b4 (sF a L)/\Q (.int L.length) H):=by
 intro a6G s σ H xs A Q I r h;obtain⟨a,L,rfl,e,q⟩:=h;obtain⟨u,rfl,y⟩:=i8 r;cases y;obtain⟨⟨o,p,x,d,z,t,R,c,hd,i,ok,v,hnd,m,j,w,l⟩,_,_⟩:=I.hok a _ e;have b:d.size=L.length:=by have:=v.length_eq;simpa using this
 have n:t.mask<=511:=by rcases m with h|h|h|h<;>omega
 refine call_len_set p c hd (Tb.fits_of ok i) (by rw[b];omega) ?_;rw[b];exact⟨.int L.length,H,I.tok _,⟨_,rfl⟩,q⟩
end
end L3
namespace L3
open PySem L2
theorem DJ{K:VG}{π:Nat->Addr}{n:Nat}{H:Hp}:∀{vs:List V}{xs:List D}(i:Nat),IsDs K π n H vs xs->IsD K π n H (vs.getD i .non) (xs.getD i .non)
 |_,_,i,.nil=>by simp;exact .non
 |_,_,0,.cons h _=>h|_,_,i+1,.cons _ t=>by simpa using DJ i t
theorem DK{K:VG}{π:Nat->Addr}{n:Nat}{H:Hp}{vs:List V}{xs:List D}(h:IsDs K π n H vs xs):∀(l:List Nat),IsDs K π n H (l.map λi=>vs.getD i .non) (l.map λi=>xs.getD i .non)
 |[]=>.nil|i::l=>.cons (DJ i h) (DK h l)
end L3
namespace L3
open PySem L2
open PyProof.Rows (IntsAre Fr News seqObj)
section
variable{prog:V6}{w:Wj}{A:Wh}{E:Value->VL->Prop}{s:VL}{h₀:WI}{L:Addr}{m:Str->Option Value}{news:List (Addr×Obj)}
end
section
variable{X:Cx}{a6G:List (Addr×Obj)}{σ:St}{H:Hp}{s:VL}
end
end L3
namespace L3
open PySem
open PySem.W (KasT kas_asc kas_desc kas_tail3 kas_descPart kas_count kas_place kas_bin kas_sort kas_rev)
open PyProof.Rows (mirror bubble getElem?_bubble getElem?_mirror_all mirror_size bubble_size)
section
variable{ans:Nat->Nat->Bool}{κ:Nat->Nat}(hk:∀i j,ans i j=decide (κ i<κ j))
noncomputable def gK(κ:Nat->Nat)(p:Array Nat)(k:Nat):Nat:=κ (p.getD k 0)
theorem DL{p q:Array Nat}{k m:Nat}(h:p[k]?=q[m]?):p.getD k 0=q.getD m 0:=by
 have e:∀(a:Array Nat)(i:Nat),a.getD i 0=(a[i]?).getD 0:=λa i=>by
  by_cases b:i<a.size
  ·simp[Ye,b]
  ·simp[Ye,b]
 rw[e,e,h]
theorem NR{p:Array Nat}{i j:Nat}(a:j<=p.size)(k:Nat):gK κ (a1L p i j) k=if i<=k/\k<j then gK κ p (i+j-1-k)else gK κ p k:=by
 have h:=getElem?_mirror_all (i:=i) a k;by_cases c:i<=k/\k<j
 ·rw[if_pos c]at h ⊢;exact congrArg κ (DL h)
 ·rw[if_neg c]at h ⊢;exact congrArg κ (DL h)
structure Falls(κ:Nat->Nat)(p:Array Nat)(n q:Nat):Prop where
 fall:∀i j,i<=j->j<n->gK κ p j<=gK κ p i
 alike:∀k,n-1-q<=k->k<n->gK κ p k=gK κ p (n-1)
 qn:q<n
theorem Falls.rev{p:Array Nat}{n q:Nat}(F:Falls κ p n q)(a:n<=p.size):∀k,gK κ (a1L p (n-(q+1)) n) k=gK κ p k:=λk=>by
 rw[NR a];split
 ·rename_i c;have:=F.qn;rw[F.alike (n-(q+1)+n-1-k) (by omega) (by omega),F.alike k (by omega) c.2]
 ·rfl
theorem Falls.same{p c:Array Nat}{n q:Nat}(F:Falls κ p n q)(h:∀k,gK κ c k=gK κ p k):Falls κ c n q:=
 ⟨λi j a b=>by rw[h,h];exact F.fall i j a b,λk a b=>by rw[h,h];exact F.alike k a b,F.qn⟩
end
section
variable{α:Type}{lt:α->α->Bool}(irr:∀a,lt a a=b7)(tr:∀a b c,lt a b=b8->lt b c=b8->lt a c=b8)(nt:∀a b c,lt a b=b8->lt a c=b8\/lt c b=b8)
end
end L3
namespace L3
open PySem L2
section
variable{X:Cx}{a b c:Expr}{ma mb mc:ME}{pos:Xq}
noncomputable def fY(f g:D->D->Hm->Option (D×Hm))(a b c:ME):ME:=λd e=>(a d e).bind λp=>(b d p.2).bind λq=>(f p.1 q.1 q.2).bind λr=>match r.1 with
 |.bl b8=>(c d r.2).bind λt=>g q.1 t.1 t.2|.bl b7=>b4 (.bl b7,r.2)|_=>b6
theorem DM{f g:D->D->Hm->Option (D×Hm)}{r J:R2}{K:VG}(hf:cX K f r)(hg:cX K g J):∀σ H Q,tM K (fY f g ma mb mc) σ H Q->wL r J (tM K ma) (tM K mb) (tM K mc) σ H Q:=by
 rintro σ H Q ⟨π,w,μ,d,q,R,E,e,k⟩;obtain⟨⟨x,h⟩,Y,e⟩:=VF.mp e;obtain⟨⟨y,i⟩,Z,e⟩:=VF.mp e;obtain⟨⟨z,j⟩,h3,e⟩:=VF.mp e;refine⟨π,w,μ,x,h,R,E,Y,λs v1 H1 n T i1=>⟨s,w,h,y,i,T,E.mono n,Z,λu L M o R2 I=>?_⟩⟩;refine hf u M i x y z j v1 L _ R2 (i1.mono o) I h3 λm v3 N p A i3=>?_;cases z with
 |bl B=>
  cases i3;refine⟨B,rfl,?_⟩;cases B with
  |true=>refine kK ?_;obtain⟨⟨t,l⟩,h4,e⟩:=VF.mp e;exact⟨m,w,j,t,l,A,((E.mono n).mono o).mono p,h4,λv v4 O G U i4=>hg v O l y t d q L v4 Q U ((I.mono p).mono G) i4 e (k.after (((n.trans o).trans p).trans G))⟩|false=>refine kJ ?_;cases e;exact k m _ N ((n.trans o).trans p) A (.bl b7)
 |_=>cases e
noncomputable def j4:ZT->Option (Int->Int->Bool)
 |.Lt=>b4 λi j=>decide (i<j)|.LtE=>b4 λi j=>decide (i<=j)|.Gt=>b4 λi j=>decide (j<i)|.GtE=>b4 λi j=>decide (j<=i)|_=>b6
theorem oC{op:ZT}{p:Int->Int->Bool}(h:j4 op=b4 p):OpR X (W6 op) (gH λi j=>.bl (p i j))/\(op=.Lt\/op=.LtE\/op=.Gt\/op=.GtE):=by cases op<;>first|(cases h;first|exact⟨wH,by simp⟩|exact⟨wI,by simp⟩|exact⟨wJ,by simp⟩|exact⟨wK,by simp⟩)|cases h
theorem DN{op d:ZT}(h':d=.Lt\/d=.LtE\/d=.Gt\/d=.GtE):a5E [op,d] [b,c]=false:=by show YT d c=b7;rcases h' with rfl|rfl|rfl|rfl<;>exact dN _
theorem NS{op d:ZT}{p q:Int->Int->Bool}(h:j4 op=b4 p)(h':j4 d=b4 q)(e:QE X a ma)(i:QE X b mb)(hc:QE X c mc):QE X (.Compare a [op,d] [b,c] pos) (fY (fV p) (fV q) ma mb mc):=
 ⟨dC (IH (oC h).1 (oC h').1 e.h i.h hc.h (DN (oC (X:=X) h').2)) (DM hZ hZ)⟩
theorem NT{op d:ZT}{p q:Int->Int->Bool}(h:j4 op=b4 p)(h':j4 d=b4 q)(i:QE X a ma)(j:QE X b mb)(hc:QE X c mc):QT X (.Compare a [op,d] [b,c] pos) (aS (fY (fV p) (fV q) ma mb mc)):=
 ⟨sH (II (oC h).1 (oC h').1 i.h j.h hc.h (DN (oC (X:=X) h').2)) λe H Q h=>DM hZ hZ e H _ (Cr e H Q h)⟩
noncomputable def tR(d:Bool):D->D->Hm->Option (D×Hm)
 |.bl b,.bl c,μ=>b4 (.bl (if d then !(b==c)else b==c),μ)|.int _,.bl _,μ=>b4 (.bl d,μ)|_,_,_=>b6
noncomputable def fZ(d:Bool):D->D->Hm->Option (D×Hm):=λx y e=>match y with
 |.bl _=>tR d x y e|_=>jG d x y e
noncomputable def yM(d:Bool):R2:=λx y H Q=>∃c,y=.bl c/\((∃b,x=.bl b/\Q (.bl (if d then !(b==c)else b==c)) H)\/((∃i,x=.int i)/\Q (.bl d) H))
theorem tS{K:VG}{h:Bool}:cX K (tR h) (yM h):=by
 intro l H p x y d m n o Q R i j e k;unfold tR at e;split at e
 ·cases e;cases i;cases j;exact⟨_,rfl,.inl ⟨_,rfl,k l _ H .refl R (.bl _)⟩⟩
 ·cases e;cases i;cases j;exact⟨_,rfl,.inr ⟨⟨_,rfl⟩,k l _ H .refl R (.bl _)⟩⟩
 ·cases e
theorem DO:OpR X (W6 .Is) (yM b7):=by
 intro e s l H x y v u Q I d j h;obtain⟨c,rfl,h⟩:=h;cases j;rcases h with⟨b,rfl,q⟩|⟨⟨i,rfl⟩,q⟩
 ·cases d;exact VQ (lQ I q (by cases b<;>cases c<;>rfl))
 ·obtain⟨t,rfl⟩:=d;exact VQ (lQ I q rfl)
theorem DP:OpR X (W6 .IsNot) (yM b8):=by
 intro e s l H x y v u Q I d j h;obtain⟨c,rfl,h⟩:=h;cases j;rcases h with⟨b,rfl,q⟩|⟨⟨i,rfl⟩,q⟩
 ·cases d;exact VQ (lQ I q (by cases b<;>cases c<;>rfl))
 ·obtain⟨t,rfl⟩:=d;exact VQ (lQ I q rfl)
theorem tT{d:Bool}(x y:D)(e:Hm)(r:D×Hm)(h:fZ d x y e=b4 r):tR d x y e=b4 r\/jG d x y e=b4 r:=by
 unfold fZ at h;split at h
 ·exact .inl h
 ·exact .inr h
theorem NU(d:QE X a ma)(e:QE X b mb):QE X (.Compare a [.Is] [b] pos) (aC (fZ b7) ma mb):=l9 ⟨e8 DO tS d.h e.h (dN _)⟩ (MQ d e) (gQ tT)
theorem NV(d:QE X a ma)(e:QE X b mb):QE X (.Compare a [.IsNot] [b] pos) (aC (fZ b8) ma mb):=l9 ⟨e8 DP tS d.h e.h (dN _)⟩ (MU d e) (gQ tT)
theorem NW(d:QE X a ma)(e:QE X b mb):QT X (.Compare a [.Is] [b] pos) (aS (aC (fZ b7) ma mb)):=nQ ⟨fA DO tS d.h e.h (dN _)⟩ (MV d e) (nR (gQ tT))
theorem NX(d:QE X a ma)(e:QE X b mb):QT X (.Compare a [.IsNot] [b] pos) (aS (aC (fZ b8) ma mb)):=nQ ⟨fA DP tS d.h e.h (dN _)⟩ (MW d e) (nR (gQ tT))
end
noncomputable def j5:MF:=λds a=>match ds with
 |[x]=>(bF a x).bind λc=>(nU c).map λb=>(.int b.sum,a)|_=>b6
noncomputable def DQ(K:VG):List V->Hp->VK->Prop:=λxs H Q=>∃(p:Addr)(a:List Int),xs=[.ref p]/\(SqL K H p (a.map V.int)\/SqT K H p (a.map V.int))/\Q (.int a.sum) H
theorem NY{K:VG}:dZ K j5 (DQ K):=by
 intro j H r n d h l Q R i a k;unfold j5 at a;split at a
 ·obtain⟨o,b,a⟩:=VF.mp a;obtain⟨e,c,a⟩:=VJ.mp a;cases a;cases i with
  |cons i t=>cases t;obtain⟨p,m,rfl,q,hd⟩:=nN R i b;rw[yK c]at hd;have:=ints_of' hd;subst this;exact⟨p,e,rfl,q,k j _ H .refl R (.int _)⟩
 ·cases a
theorem DR(a:List Int):∀n,n<=a.length->preSum (λi=>a.getD i 0) n=(a.take n).sum
 |0,_=>rfl|n+1,h=>by
  have b:=DR a n (by omega);have e:a.take (n+1)=a.take n++[a[n]]:=by rw[YV,VT (by omega)];rfl
  show preSum (λi=>a.getD i 0) n+a.getD n 0=_;rw[b,e,List.sum_append];simp[W3,VT (show n<a.length by omega)]
section
variable{X:Cx}
theorem DS{a6G:List (Addr×Obj)}{σ:St}{H:Hp}{s s2 c:VL}{n:List Addr}(I:Inv X a6G σ H s)(m:Moved n (λa b=>b=a) s2 c)(p:∀b o,s.heap.get? b=b4 o->s2.heap.get? b=b4 o)(hw:∀b∈n,s.heap.objs.size<=b)(d:s2.gens=s.gens/\s2.drawn=s.drawn/\s2.os=s.os):Inv X a6G σ H c:=by have l:∀b o,s.heap.get? b=b4 o->c.heap.get? b=b4 o:=λb o e=>m.heap b o (λz=>absurd (Wb (VR e) (hw b z)) (Xp _)) (p b o e);have h:c.gens=s.gens:=m.gens.trans d.1;have i:c.drawn=s.drawn:=m.drawn.trans d.2.1;have j:c.os=s.os:=m.os.trans d.2.2;obtain⟨v,u,r,q,w⟩:=c;dsimp only at h i j l;subst h i j;exact I.kept (t':=q) l
theorem DT{b:List Int}{a:List Value}(r:Vals (b.map V.int) a){i:Nat}{v:Value}(h:a.toArray[i]?=b4 v):∃t,v=.int (b.getD i 0) t:=by
 have c:a[i]?=b4 v:=by simpa using h
 have e:i<b.length:=by have:=(VN.mp c).1;have:=r.length;rw[VI]at this;omega
 obtain⟨u,d,j⟩:=r.get (i:=i) (x:=.int b[i]) (by rw[V5,VT e];rfl);rw[c]at d;cases d;obtain⟨t,rfl⟩:=j;exact⟨t,by simp[W3,e]⟩
theorem NZ(hc:X.calm=b8):CallR X (.builtin "sum") (DQ X.K):=by
 intro G s O H N M Q I r h;obtain⟨p,d,rfl,y,q⟩:=h;obtain⟨u,rfl,K⟩:=i8 r;cases K;have E:X.A.in1.handled=none:=I.ok.hd hc;have fin:∀a:List Value,Vals (d.map V.int) a->preSum (λi=>d.getD i 0) a.toArray.size=d.sum:=λa w=>by
  have x:a.toArray.size=d.length:=by rw[V7,<- w.length,VI]
  rw[x,DR d _ (VS _),XH]
 rcases y with y|y
 ·obtain⟨a,w,j,J⟩:=I.list y;refine a5q (a0q j.isList ?_);have l:p≠s.heap.objs.size:=by obtain⟨o,n,_⟩:=j.isList;exact V4 (VR n)
  refine⟨s.heap.objs.size,_,_,_,_,_,_,λi=>d.getD i 0,rfl,(a5H E _ p l a.toArray).toS,⟨⟨_,VX _ rfl,rfl,rfl⟩,j.isList.push _⟩,?_,λi v A=>DT w A,λL B m=>?_⟩
  ·intro b c;show b<(s.heap.push _).objs.size;rw[XW];obtain⟨o,n,_⟩:=j.isList;have z:=VR n;simp only[Wr,Yr,or_false]at c;rcases c with rfl|rfl
   ·exact XU _
   ·exact a0h z
  ·refine⟨.int d.sum,H,DS I m (λb o e=>VM _ e) (λb c=>?_) ⟨rfl,rfl,rfl⟩,⟨B,?_⟩,q⟩
   ·have e:b=s.heap.objs.size:=by simpa using c
    exact a0x e.symm
   ·rw[fin a w]
 ·obtain⟨a,w,j,J⟩:=I.tuple y;refine a5q (YJ (show s.heap.IsTuple p a.toArray from j) ?_);have l:p≠s.heap.objs.size:=by obtain⟨o,n,_⟩:=j;exact V4 (VR n)
  refine⟨s.heap.objs.size,_,_,_,_,_,_,λi=>d.getD i 0,rfl,(a1p E _ p l a.toArray).toS,⟨⟨_,VX _ rfl,rfl,rfl⟩,a0K j _⟩,?_,λi v A=>DT w A,λL B m=>?_⟩
  ·intro b c;show b<(s.heap.push _).objs.size;rw[XW];obtain⟨o,n,_⟩:=j;have z:=VR n;simp only[Wr,Yr,or_false]at c;rcases c with rfl|rfl
   ·exact XU _
   ·exact a0h z
  ·refine⟨.int d.sum,H,DS I m (λb o e=>VM _ e) (λb c=>?_) ⟨rfl,rfl,rfl⟩,⟨B,?_⟩,q⟩
   ·have e:b=s.heap.objs.size:=by simpa using c
    exact a0x e.symm
   ·rw[fin a w]
end
noncomputable def yN:MF:=λds a=>match ds with
 |[.int i,.int j]=>b4 (.int (if j<i then j else i),a)|_=>b6
noncomputable def yO:MF:=λds a=>match ds with
 |[.int i,.int j]=>b4 (.int (if j>i then j else i),a)|_=>b6
theorem N0{K:VG}:dZ K yN (λxs H Q=>∃i j,xs=[.int i,.int j]/\Q (.int (if j<i then j else i)) H):=by
 intro h H m xs d e l Q R i a k;unfold yN at a;split at a
 ·cases a;cases i with
  |cons i t=>
   cases i;cases t with
   |cons b c=>cases b;cases c;exact⟨_,_,rfl,k h _ H .refl R (.int _)⟩
 ·cases a
theorem N3{K:VG}:dZ K yO (λxs H Q=>∃i j,xs=[.int i,.int j]/\Q (.int (if j>i then j else i)) H):=by
 intro h H m xs d e l Q R i a k;unfold yO at a;split at a
 ·cases a;cases i with
  |cons i t=>
   cases i;cases t with
   |cons b c=>cases b;cases c;exact⟨_,_,rfl,k h _ H .refl R (.int _)⟩
 ·cases a
noncomputable def eB{b:Type}(xs:List b)(lo a st:Option Int):List b:=(a4U (YE lo a st xs.length).1 (YE lo a st xs.length).2.1 (YE lo a st xs.length).2.2).filterMap (xs[·]?)
noncomputable def oE(a:ME)(lo d st:MO):ME:=λb e=>(a b e).bind λp=>(lo b p.2).bind λq=>(d b q.2).bind λr=>(st b r.2).bind λt=>if t.1≠b4 0 then(eK t.2 p.1).bind λc=>if(eB c q.1 r.1 t.1).length<=VW then b4 (.loc t.2.length,t.2++[.lst (eB c q.1 r.1 t.1)])else b6 else b6
theorem N4{K:VG}{π:Nat->Addr}{n:Nat}{H:Hp}{vs:List V}{ds:List D}(h:IsDs K π n H vs ds)(lo a st:Option Int):IsDs K π n H (eB vs lo a st) (eB ds lo a st):=by
 unfold eB;rw[h.length];generalize a4U _ _ _=l;induction l with
 |nil=>exact .nil|cons i l b=>
  rw[X6,X6];cases a:ds[i]? with
  |none=>
   have:vs[i]?=none:=by rw[Ws]at a ⊢;rw[h.length];exact a
   rw[this];exact b
  |some d=>obtain⟨v,c,e⟩:=h.get a;rw[c];exact .cons e b
theorem N5{vs:List V}{a:List Value}(r:Vals vs a)(lo b st:Option Int):Vals (eB vs lo b st) (eB a lo b st):=by
 unfold eB;rw[r.length];generalize a4U _ _ _=l;induction l with
 |nil=>exact .nil|cons i l c=>
  rw[X6,X6];cases b:vs[i]? with
  |none=>
   have:a[i]?=none:=by rw[Ws]at b ⊢;rw[<- r.length];exact b
   rw[this];exact c
  |some v=>obtain⟨u,d,e⟩:=r.get b;rw[d];exact .cons e c
section
variable{X:Cx}{e:Expr}{te:TE}{lo hi:Option Expr}{st:Expr}{tl th tt:TO}{pos p2:Xq}
noncomputable def N6(K:VG)(te:TE)(tl th tt:TO):TE:=λσ H Q=>te σ H λx c=>tl σ c λl d=>th σ d λu h=>tt σ h λt b=>t≠b4 0/\∃a xs,x=.ref a/\SqL K b a xs/\(eB xs l u t).length<=VW/\∀p,b p=b6->Q (.ref p) (aI b p (.lst (eB xs l u t)))
open PyProof.Rows in
theorem N7(O:PE X e te)(R:PO X lo tl)(U:PO X hi th)(T:PO X (b4 st) tt):PE X (.Subscript e (.Slice lo hi (b4 st) p2) pos) (N6 X.K te tl th tt):=by
 intro c s j H Q I h;refine a2V (aM (O c s j H _ I h) λv s1 ⟨x,A,J,r1,q1⟩=>?_);refine wpAny_Slice (aM (R c s1 j A _ J q1) λw s2 ⟨l,B,K,pl,q2⟩=>aM (U c s2 j B _ K q2) λz s3 ⟨u,E,L,pu,q3⟩=>aM (T c s3 j E _ L q3) λy d ⟨t,G,M,pt,q4⟩=>?_);obtain⟨N,a,xs,rfl,Y,Z,q⟩:=q4;cases r1;have o:Inv X c j G {d with heap:=d.heap.push {cls:=.type "slice",data:=.fields #[w,z,y]}}:=M.kept (t':=d.toks) λb ob q=>VM _ q;obtain⟨n,r,m,hz'⟩:=o.list Y;have p:=r.length;show V2 (V8 X.prog X.w) X.A (a1n e (.Slice lo hi (b4 st) p2) (.ref a) (.ref d.heap.objs.size)) (EP X c j Q) X.xe {d with heap:=d.heap.push {cls:=.type "slice",data:=.fields #[w,z,y]}};refine a6v (ops:=[.ref a,.ref d.heap.objs.size]) m.isList.typeIs a1J.lookup ?_ (by with_unfolding_all rfl);refine a3p m.isList (a1H ..) pl pu pt N ?_ (by rw[V7]<;>omega);have i:a3C n.toArray l u t=(eB n l u t).toArray:=by unfold a3C eB;simp
 rw[i];refine⟨.ref _,_,o.laid (t':=d.toks) (o:=.lst (eB xs l u t)) (λb ob q=>VM _ q) (VS _) ?_,rfl,q _ (o.hok.fresh (VS _))⟩;exact⟨Z,_,0,N5 r l u t,VX _ rfl⟩
theorem N8{A:ME}{G B I:MO}(he:QE X e A)(hl:QO X lo G)(hu:QO X hi B)(ht:QO X (b4 st) I):QE X (.Subscript e (.Slice lo hi (b4 st) p2) pos) (oE A G B I):=⟨dC (N7 he.h hl.h hu.h ht.h) (by
 rintro σ H Q ⟨π,n,μ,d,μ',R,E,a,k⟩;obtain⟨⟨x,c⟩,T,a⟩:=VF.mp a;obtain⟨⟨l,h⟩,U,a⟩:=VF.mp a;obtain⟨⟨u,i⟩,Y,a⟩:=VF.mp a;obtain⟨⟨t,r⟩,Z,a⟩:=VF.mp a;refine⟨π,n,μ,x,c,R,E,T,λs v1 H1 j K i1=>⟨s,n,c,l,h,K,E.mono j,U,λv H2 m R2=>⟨v,n,h,u,i,R2,(E.mono j).mono m,Y,λw H3 o L=>⟨w,n,i,t,r,L,((E.mono j).mono m).mono o,Z,λπ4 H4 z y=>?_⟩⟩⟩⟩;split at a
 ·rename_i O;obtain⟨xs,h5,a⟩:=VF.mp a;split at a
  ·rename_i hz;cases a;obtain⟨p,J,rfl,q,hd⟩:=oB y (((i1.mono m).mono o).mono z) h5;have b:=N4 hd l u t;refine⟨O,p,J,rfl,q,by rw[b.length];exact hz,λp' hp=>?_⟩;obtain⟨N,M,_⟩:=y.alloc (c:=.lst (eB xs l u t)) (o:=.lst (eB J l u t)) hp b;exact k _ _ _ ((((j.trans m).trans o).trans z).trans N) M lV
  ·cases a
 ·cases a)⟩
end
section
variable{X:Cx}{a6G:List (Addr×Obj)}{σ:St}{H:Hp}{s:VL}{h':WI}
theorem yP{t':Nat}{ch:List Addr}{a:Addr}{o:HO}(I:Inv X a6G σ H s)(k:∀b u,b∉ch->s.heap.get? b=b4 u->h'.get? b=b4 u)(j:∀b∈ch,gG X a6G H b)(l:s.heap.objs.size<=a)
  (new:ObjOk X.prog X.w (aI H a o) h' a o):Inv X a6G σ (aI H a o) {s with heap:=h',toks:=t'}:=by
 have d:=I.hok.fresh l;have h:∀b u,H b=b4 u->b∉ch:=λb u e z=>by have:=(j b z).1;rw[e]at this;cases this
 refine I.step (g':=s.gens) (d':=s.drawn) (ch:=ch) (λb i=>let⟨L,y,M,A,B,E⟩:=j b i;⟨A,y,B,E⟩) (λb o _ _ hc e _=>k b o hc e) (λb o _ _ hc e _=>⟨o.slots,k b o hc e⟩) (λb K hc e n=>?_)
  (λb o hc e=>⟨o,k b o hc e⟩) (λb p q=>?_) (λb K p q=>?_) (λb N q=>?_) (λm G=>?_) (λb u e=>?_) I.bare
 ·rw[aT (V4 (Wb (VR e) l))];exact n
 ·rw[aT (hU q d)];exact q
 ·rw[aT (hU q d)];exact q
 ·exact⟨#[],by rw[aT (hU q d),q];simp⟩
 ·obtain⟨o,x,w,J,r⟩:=G;exact⟨o,x,w,k _ o (λz=>(j _ z).2.1 rfl) J,r⟩
 ·by_cases i:b=a
  ·subst i;rw[bR]at e;cases e;exact new
  ·rw[aT i]at e;refine(I.hok b u e).stay (λc v hc q=>k c v ?_ q) (λc q=>by rw[aT (hU q d)];exact q) λc p q=>by rw[aT (hU q d)];exact q
   rcases hc with z|z
   ·rw[z];exact h b u e
   ·exact h c _ z
theorem DU{t':Nat}{ch:List Addr}(I:Inv X a6G σ H s)(k:∀b u,b∉ch->s.heap.get? b=b4 u->h'.get? b=b4 u)(d:∀b∈ch,gG X a6G H b):Inv X a6G σ H {s with heap:=h',toks:=t'}:=by
 have a:∀b u,H b=b4 u->b∉ch:=λb u e z=>by have:=(d b z).1;rw[e]at this;cases this
 refine I.step (g':=s.gens) (d':=s.drawn) (ch:=ch) (λb y=>let⟨G,l,J,p,w,x⟩:=d b y;⟨p,l,w,x⟩) (λb o _ _ hc e _=>k b o hc e) (λb o _ _ hc e _=>⟨o.slots,k b o hc e⟩) (λb E hc e n=>n)
  (λb o hc e=>⟨o,k b o hc e⟩) (λb h q=>q) (λb E h q=>q) (λb K q=>⟨#[],by rw[q];simp⟩) (λm A=>?_) (λb u e=>?_) I.bare
 ·obtain⟨o,j,i,B,r⟩:=A;exact⟨o,j,i,k _ o (λz=>(d _ z).2.1 rfl) B,r⟩
 ·refine(I.hok b u e).stay (λc v hc q=>k c v ?_ q) (λc q=>q) λc h q=>q;rcases hc with z|z
  ·rw[z];exact a b u e
  ·exact a c _ z
end
noncomputable def yQ(K:VG)(a:Addr):It:=
 ⟨λi H=>∃b x,SqL K H a b/\b[i]?=b4 x,λi H x c=>∃p v,x=.ref p/\H p=b6/\c=aI H p (.tup [.int i,v])/\∀b,SqL K H a b->b[i]?=b4 v,λi H=>∃b,SqL K H a b/\b.length<=i⟩
theorem N9{P:V6}{w:Wj}{K:VG}{es:List Expr}{kx:Nat}{pt:Xq}(a e n:Addr)(y:e≠n) :
  Turn Qc P w K (.Tuple es kx pt) (yQ K a) [e,n] e (λi h=>∃m,IsEnum h e n i m/\h.IsListIter n a i) where
 mem:=by simp
 obj:=λi h ⟨m,st,l⟩ b q=>by
  have j:b=e\/b=n:=by simpa using q
  rcases j with rfl|rfl
  ·exact⟨_,st,λv z=>by
    have z':WQ _=a0n v:=z;cases z'⟩
  ·obtain⟨o,L,c,d⟩:=l;exact⟨o,L,λv z=>by rw[d]at z;cases z⟩
 keep:=λi h h' ⟨m,st,l⟩ k=>⟨m,k e (by simp) _ st,l.at λo L=>k n (by simp) o L⟩;item:=by
  intro X O hw N hc i J s σ H E I B ⟨m,st,l⟩ T;subst O hw N;obtain⟨xs,x,G,hx⟩:=T;obtain⟨its,rv,p,hz⟩:=I.list G;obtain⟨u,hu,ru⟩:=rv.get hx;refine wpAny_pyNext_enum_item st l p.isList (x:=u) (by simpa using hu) y λh1 ho hit ht hsz hk=>⟨_,rfl,wpAny_letOwnedTupleGo_enum ho λh2 Q r=>?_⟩;have A:e<s.heap.objs.size:=VR st;have U:s.heap.objs.size≠e:=Xr A;have Z:h2.get? s.heap.objs.size=b4 {cls:=.type "tuple",data:=.seq #[.int i s.toks,u]}:=(r.2 _ U).trans ht;have R:H s.heap.objs.size=none:=I.hok.fresh (VS _);refine⟨.ref s.heap.objs.size,aI H s.heap.objs.size (.tup [.int i,x]),?_,rfl,⟨s.heap.objs.size,x,rfl,R,rfl,λys hy=>by rw[I.list_inj hy G];exact hx⟩,⟨u,Q,hit.extBut r.extBut (WG y)⟩,λb q=>?_⟩
  ·refine yP (s:=s) (h':=h2) (t':=s.toks+1) (ch:=[e,n]) I (λb ob q M=>?_) B (VS _) ?_
   ·have j:b≠e/\b≠n:=by simpa using q
    exact(r.2 b j.1).trans (hk b ob j.1 j.2 M)
   ·exact⟨by show(2:Nat)<=VW;decide,[.int i s.toks,u],.cons ⟨_,rfl⟩ (.cons ru .nil),_,Z,rfl,0,rfl,rfl⟩
  ·have j:b=e\/b=n:=by simpa using q
   have hn:=(B b q).1;obtain⟨o,Y,_⟩:=l;rw[aT]
   ·exact hn
   ·rcases j with rfl|rfl
    ·exact V4 A
    ·exact V4 (VR Y)
 done:=by
  intro X O hw N hc i J s σ H E I B ⟨m,st,l⟩ T;subst O hw N;obtain⟨xs,G,hx⟩:=T;obtain⟨its,rv,p,hz⟩:=I.list G;have hl:=rv.length;refine wpAny_pyNext_enum_end (I.ok.hd hc) st l p.isList (by simp;omega) λh' M=>⟨rfl,DU (t':=s.toks) (ch:=[e,n]) I (λb o q z=>M b o ?_ z) B⟩;have j:b≠e/\b≠n:=by simpa using q
  exact j.2
 self:=λ_ _ _ _ _ ⟨m,st,_⟩ h=>a5i st h
structure QJT(X:Cx)(e:Expr)(m:MI):Prop where
 h:∀es k p,PI X (.Tuple es k p) e (tMI X.K m)
theorem QJ.t{X:Cx}{e:Expr}{m:MI}(h:QJ X e m):QJT X e m:=⟨λes k p=>h.h _⟩
noncomputable def qI(x:D):eS:=λa i=>(bF a x).map λxs=>(xs[i]?).map λd=>.tup [.int i,d]
noncomputable def oF(ms:MA):MI:=λc b=>(ms c b).bind λp=>match p.1 with
 |[x]=>(eK p.2 x).map λa=>(qI x,a.length+1,p.2)|_=>b6
theorem Oa{K:VG}{π:Nat->Addr}{u:Hm}{H:Hp}{v:V}{x:D}{xs:List D}(R:Rp K π H u)(h:IsD K π u.length H v x)(A:eK u x=b4 xs):∃a,v=.ref a/\(∃vs,SqL K H a vs)/\Wk K (yQ K a) (qI x) π u.length H:=by
 have hw:bF u x=b4 xs:=by
  cases x with
  |rol m=>exact A|loc b=>exact A|_=>cases A
 obtain⟨p,vs,rfl,U,_⟩:=oB R h A;refine⟨p,rfl,⟨vs,U⟩,?_⟩
  -- the list as it stands l
 have l:∀j c n,Ext π u.length H j c.length n->Rp K j n c->∀m,bF c x=b4 m->∃o,SqL K n p o/\IsDs K j c.length n o m:=λj c n e r m L=>by
  have Y:=h.mono e;have Q:eK c x=b4 m:=by
   cases x with
   |rol zs=>exact L|loc b=>exact L|_=>cases A
  obtain⟨p',o,M,s,w⟩:=oB r Y Q;cases M;exact⟨o,s,w⟩
 refine⟨λj c n i e r z=>?_,λj c n i d e r z=>?_⟩
 ·obtain⟨m,E,B⟩:=VJ.mp z;obtain⟨o,s,w⟩:=l j c n e r m E;have G:m[i]?=none:=by
   cases q:m[i]? with
   |none=>rfl|some d=>rw[q]at B;cases B
  exact⟨o,s,by rw[w.length];exact Ws.mp G⟩
 ·obtain⟨m,E,B⟩:=VJ.mp z;obtain⟨d',G,N⟩:=VJ.mp B;subst N;obtain⟨o,s,w⟩:=l j c n e r m E;obtain⟨v,J,O⟩:=w.get G;refine⟨⟨o,v,s,J⟩,?_⟩;rintro y Z ⟨t,v',rfl,T,rfl,X⟩;have:=X o s;rw[J]at this;cases this;obtain⟨I,R2⟩:=r.fresh (o:=.tup [.int i,v]) T;exact⟨I,R2,.tup (.of bR) (.cons (.int _) (.cons (O.mono I) .nil))⟩
noncomputable def Ob(K:VG)(c:TA):TI:=λσ H R=>c σ H λvs b=>∃a,vs=[.ref a]/\(∃xs,SqL K b a xs)/\R (yQ K a) b
open PyProof.Rows in
theorem Oc{X:Cx}{a:Expr}{m:TA}{p pos pt:Xq}{es:List Expr}{K:Nat}(y:Gl X "enumerate") (A:X.mg "enumerate"=b6) (w:PA X [a] m)(E:Wt [a] X.env=[(b7,eval a X.env)]):PI X (.Tuple es K pt) (.Call (.Name "enumerate" p) [a] [] pos) (Ob X.K m):=by
 intro e s n H R I h;refine a6F (i7 I y A Boot.«enumerate» (callWith_type1 (aM (w pos e s n H _ I h) λU c ⟨Y,j,d,N,M⟩=>?_) E rfl));obtain⟨r,rfl,⟨Z,B⟩,q⟩:=M;obtain⟨u,rfl,O⟩:=i8 N;cases O;obtain⟨J,T,L,Q⟩:=d.list B;refine call_enumerate_list L.isList λv l hit G z=>?_;refine a5i l ?_;have o:Inv X e n j {c with heap:=v}:=d.kept (t':=c.toks) z;refine⟨c.heap.objs.size+1,[c.heap.objs.size+1,c.heap.objs.size],_,_,j,rfl,o,N9 r _ _ (Nat.succ_ne_self _),⟨_,l,hit⟩,λb x=>?_,q⟩;have i:b=c.heap.objs.size+1\/b=c.heap.objs.size:=by simpa using x
 rcases i with rfl|rfl
 ·exact d.fpOk (ZR _) (d.hok.fresh (ZR _))
 ·exact d.fpOk (VS _) (d.hok.fresh (VS _))
theorem Od{X:Cx}{a:Expr}{ms:MA}{n:Nat}{p pos:Xq}(c:Gl X "enumerate") (d:X.mg "enumerate"=b6) (l:QA X [a] ms n):QJT X (.Call (.Name "enumerate" p) [a] [] pos) (oF ms):=⟨λes L pt a6G s σ H R I hw=>by
 have m:=l.s;rw[WE,VO]at m;obtain⟨J,K,B,z,M,G,q,E,b,k⟩:=hw;obtain⟨⟨x,h⟩,v,b⟩:=VF.mp b;refine Oc c d l.h (fC m.1) a6G s σ H R I ⟨J,K,B,x,h,q,E,v,λi N o u j e=>?_⟩;dsimp only at b;split at b
 ·rename_i x;obtain⟨O,w,b⟩:=VJ.mp b;cases b;cases e with
  |cons e A=>cases A;obtain⟨r,rfl,y,W⟩:=Oa j e w;exact⟨r,rfl,y,k i o _ u j W⟩
 ·cases b⟩
section
variable{X:Cx}{pos:Xq}
theorem yR{tg iter:Expr}{w:MI}{g:MG}{v:MS}{body:List Stmt}(I:PI X tg iter (tMI X.K w))(G:QG X tg g)(B:QB X body v)(K:a2n (V8 X.prog X.w) X.A X.env X.xe)(hc:X.calm=b8)(L:fQ iter=b8) :
  QS X (.For tg iter body [] pos) (cR w g v):=⟨iJ (Iw K hc I G.h B.h (by intro z;cases iter<;>first|rfl|cases L)) (by
 rintro E T H ⟨O,Q,N,u,r,p,R,s,m,k⟩;obtain⟨⟨o,n,l⟩,A,m⟩:=VF.mp m;refine⟨O,Q,N,o,n,l,R,s,A,λq x J i y W=>?_⟩;have M:lT X.K E q l.length x u r p:=by
  cases u with
  |nx=>exact λa b e j h c=>k a b e (i.trans j) h c|bk=>exact λa b e j h c=>k a b e (i.trans j) h c|ct=>exact λa b e j h c=>k a b e (i.trans j) h c|rt d=>exact KC.after k i
 exact Lb W M .refl y (s.mono i) m)⟩
theorem Oe{st:Stmt}{m i j:MS}(h1:QS X st i)(n:QS X st j)(h:∀b a r,m b a=b4 r->i b a=b4 r\/j b a=b4 r):QS X st m:=⟨λa6G s σ H D I q=>by
 obtain⟨l,b,a,e,d,c,R,E,o,k⟩:=q;rcases h b a _ o with z|z
 ·exact h1.h a6G s σ H D I ⟨l,b,a,e,d,c,R,E,z,k⟩
 ·exact n.h a6G s σ H D I ⟨l,b,a,e,d,c,R,E,z,k⟩⟩
noncomputable def mJ(put:D->D->D->Hm->Option Hm)(o i v:ME):MS:=λa b=>(v a b).bind λp=>(o a p.2).bind λq=>(i a q.2).bind λr=>(put q.1 r.1 p.1 r.2).map λμ'=>(.nx,a,μ')
noncomputable def oG:D->D->D->Hm->Option Hm
 |.loc a,.int i,d,μ=>match μ[a]? with
  |some (.lst xs)=>(jA xs.length i).map λj=>μ.set a (.lst (xs.set j d))|_=>b6
 |_,_,_,_=>b6
noncomputable def qJ:D->D->D->Hm->Option Hm
 |.loc a,y,d,μ=>match μ[a]? with
  |some (.dT kvs)=>(cU y).bind λk=>if kvs.length<VW then b4 (μ.set a (.dT (d8 kvs k d)))else b6|_=>b6
 |_,_,_,_=>b6
noncomputable def oH:D->D->D->Hm->Option Hm:=λo i d b=>match o with
 |.loc a=>match b[a]? with
  |some (.dT _)=>qJ o i d b|_=>oG o i d b
 |_=>b6
noncomputable def mK:=mJ oH
theorem DV{K:VG}{π:Nat->Addr}{n:Nat}{H:Hp}:∀{vs:List V}{ds:List D}(j:Nat){v:V}{d:D},IsDs K π n H vs ds->IsD K π n H v d->IsDs K π n H (vs.set j v) (ds.set j d)
 |_,_,j,_,_,.nil,h=>by simp;exact .nil
 |_,_,0,_,_,.cons _ t,h=>.cons h t|_,_,j+1,_,_,.cons h0 t,h=>.cons h0 (DV j t h)
noncomputable def Of(e ty h:TE):TS:=λD σ H=>h σ H λv a=>e σ a λx b=>ty σ b λy c=>wZ x y v c λd=>D.nx σ d
open PyProof.Rows in
theorem Og{o i a:Expr}{c:Xq}{e ty j:TE}(E:PE X o e)(B:PE X i ty)(J:PE X a j)(G:ZW a (b4 (.Subscript o i c)) pos.line X.env=pure b7):PS X (.Assign [.Subscript o i c] a pos) (Of e ty j):=by intro b s d H D I h;refine a3Q (aM (J b s d H _ I h) λr U ⟨v,l,q,Q,L⟩=>aM (E b U d l _ q L) λu Y ⟨x,m,w,R,M⟩=>aM (B b Y d m _ w M) λK Z ⟨y,n,z,T,N⟩=>?_) G;exact aM (Jz b Z d n x y v u K r _ z R T Q N) λ_ s4 ⟨p,A,O⟩=>⟨d,p,A,O⟩
theorem Oh{K:VG}{π:Nat->Addr}{H:Hp}{b μ':Hm}{o i v:V}{y z x:D}(R:Rp K π H b)(u:IsD K π b.length H o y)(w:IsD K π b.length H i z)(s:IsD K π b.length H v x)(h:oG y z x b=b4 μ'){Q:Hp->Prop}(k:∀H',Ext π b.length H π μ'.length H'->Rp K π H' μ'->Q H'):wZ o i v H Q:=by
 cases y with
 |loc a=>
  cases z with
  |int i=>
   simp only[oG]at h;split at h
   ·rename_i m l;obtain⟨j,q,r⟩:=VJ.mp h;subst r;obtain⟨c,d,e⟩:=R.lst _ m l;cases u;cases w;obtain⟨p,n⟩:=R.put (c:=.lst (m.set j x)) (o:=.lst (c.set j v)) (VN.mp l).1 d (.inl ⟨c,rfl⟩) (DV j e s);exact⟨_,c,i,j,rfl,rfl,d,by rw[e.length];exact q,k _ p n⟩
   ·cases h
  |_=>simp[oG]at h
 |_=>simp[oG]at h
theorem Oi{o i e:Expr}{B A w:ME}{b:Xq}(T:QE X o B)(Q:QE X i A)(O:QE X e w)(h:eH e=b8):QS X (.Assign [.Subscript o i b] e pos) (mJ oG B A w):=
 ⟨iJ (Og T.h Q.h O.h (l7 h)) (by
 rintro E σ H ⟨π,u,μ,fl,ρ',μ',R,j,a,k⟩;obtain⟨⟨x,c⟩,K,a⟩:=VF.mp a;obtain⟨⟨y,d⟩,L,a⟩:=VF.mp a;obtain⟨⟨z,p⟩,M,a⟩:=VF.mp a;obtain⟨μ4,N,a⟩:=VJ.mp a;cases a;exact⟨π,u,μ,x,c,R,j,K,λq v1 H1 l G U=>⟨q,u,c,y,d,G,j.mono l,L,λr v2 H2 m R2 Y=>⟨r,u,d,z,p,R2,(j.mono l).mono m,M,λs v3 H3 n I Z=>Oh I (Y.mono n) Z ((U.mono m).mono n) N λH4 v J=>k s σ _ (((l.trans m).trans n).trans v) J ((((j.mono l).mono m).mono n).mono v)⟩⟩⟩)⟩
theorem Oj{f l m:D->D->D->Hm->Option Hm}{j i e:ME}(h:∀x y z b r,f x y z b=b4 r->l x y z b=b4 r\/m x y z b=b4 r):∀d b r,mJ f j i e d b=b4 r->mJ l j i e d b=b4 r\/mJ m j i e d b=b4 r:=by
 intro d b r a;obtain⟨p,n,a⟩:=VF.mp a;obtain⟨q,o,a⟩:=VF.mp a;obtain⟨t,s,a⟩:=VF.mp a;obtain⟨c,u,a⟩:=VJ.mp a;rcases h _ _ _ _ _ u with z|z
 ·exact .inl (VF.mpr ⟨p,n,VF.mpr ⟨q,o,VF.mpr ⟨t,s,VJ.mpr ⟨c,z,a⟩⟩⟩⟩)
 ·exact .inr (VF.mpr ⟨p,n,VF.mpr ⟨q,o,VF.mpr ⟨t,s,VJ.mpr ⟨c,z,a⟩⟩⟩⟩)
theorem DW{st:Stmt}{i:Nat}:QS X st (aL i bS):=⟨λa6G s σ H D I q=>by
 obtain⟨h,j,e,d,c,b,R,E,a,k⟩:=q;cases a⟩
end
end L3
namespace L3
open PySem L2
noncomputable def DX{a:Type}(xs:List a)(k:Nat)(d:a):List a:=xs.take k++d::xs.drop k
theorem Vals.ins{xs:List V}{us:List Value}(h:Vals xs us)(k:Nat){v:V}{u:Value}(r:RelV v u):Vals (DX xs k v) (DX us k u):=(h.take k).append (.cons r (h.drop k))
section
variable{X:Cx}
end
noncomputable def jJ(a:Hm)(x:D):List D->Option (List Bool)
 |[]=>b4 []|y::r=>(cS 8 a y x).bind λb=>(jJ a x r).map λc=>b::c
noncomputable def oJ:D->List D->Hm->Option (D×Hm)
 |.loc a,[x],μ=>match μ[a]? with
  |some (.lst xs)=>(jJ μ x xs).bind λbs=>if bs.findIdx id<bs.length/\bs.length<=VW then b4 (.int (bs.findIdx id:Nat),μ)else b6|_=>b6
 |_,_,_=>b6
noncomputable def DY(K:VG):V->List V->Hp->VK->Prop:=λx vs H Q=>∃π b a xs y c bs,Rp K π H b/\x=.ref (π a)/\vs=[y]/\b[a]?=b4 (.lst xs)/\IsD K π b.length H y c/\jJ b c xs=b4 bs/\bs.findIdx id<bs.length/\Q (.int (bs.findIdx id:Nat)) H
theorem Ol{K:VG}:nW K oJ (DY K):=by
 intro b H o x ds d p v q Q R l j a k;unfold oJ at a;split at a
 ·split at a
  ·rename_i n h;obtain⟨bs,c,a⟩:=VF.mp a;split at a
   ·rename_i e;cases a;cases j with
    |cons i m=>cases m;cases l;exact⟨b,o,_,n,_,_,bs,R,rfl,rfl,h,i,c,e.1,k b _ H .refl R (.int _)⟩
   ·cases a
  ·cases a
 ·cases a
section
variable{X:Cx}
theorem DZ{a6G:List (Addr×Obj)}{σ:St}{H:Hp}{s:VL}{π:Nat->Addr}{i:Hm}(I:Inv X a6G σ H s)(R:Rp X.K π H i){A:Wh}(U:A.units+8<Xs){x:V}{v:Value}{n:D}(rx:RelV x v)(ix:IsD X.K π i.length H x n) :
  ∀{e:List D}{vs:List V}{us:List Value}{bs:List Bool},IsDs X.K π i.length H vs e->Vals vs us->jJ i n e=b4 bs->
   ∃g:Value->Bool,(∀u∈us,Zb A s u v (g u))/\us.map g=bs:=by
 classical
 intro e vs us bs l m d
 have p:∀{e:List D}{vs:List V}{us:List Value}{bs:List Bool},IsDs X.K π i.length H vs e->Vals vs us->jJ i n e=b4 bs->(∀u∈us,∃c,Zb A s u v c/\∃w o,RelV w u/\IsD X.K π i.length H w o/\cS 8 i o n=b4 c):=by
  intro e
  induction e with
  |nil=>
   intro vs us b l m d u a
   cases l
   cases m
   cases a
  |cons y e K=>
   intro vs us b l m d u a
   cases l with
   |cons h t=>
    cases m with
    |cons r rt=>
     obtain⟨c,E,d⟩:=VF.mp d
     obtain⟨O,G,d⟩:=VJ.mp d
     rcases Wr.mp a with rfl|a
     ·exact⟨c,xG I R 8 U r rx h ix E,_,_,r,h,E⟩
     ·exact K t rt G u a
 have q:=p l m d
 refine⟨λu=>if h:u∈us then YO (q u h)else b7,λu a=>?_,?_⟩
 ·simp only[dif_pos a]
  exact(Zo (q u a)).1
 ·have L:∀u (h:u∈us) w o c,RelV w u->IsD X.K π i.length H w o->cS 8 i o n=b4 c->YO (q u h)=c:=by
   intro u h w o c M iw N
   obtain⟨_,w2,Q,r2,Z,T⟩:=Zo (q u h)
   have:w2=w:=r2.inj M
   subst this
   have:=xX I R Z iw
   subst this
   rw[T]at N
   exact VY N
  have B:∀{e:List D}{vs:List V}{j:List Value}{bs:List Bool},(∀u∈j,u∈us)->IsDs X.K π i.length H vs e->Vals vs j->jJ i n e=b4 bs->j.map (λu=>if h:u∈us then YO (q u h)else b7)=bs:=by
   intro e
   induction e with
   |nil=>
    intro vs j b J l m d
    cases l
    cases m
    cases d
    rfl
   |cons y e K=>
    intro vs j b J l m d
    cases l with
    |cons h t=>
     cases m with
     |@cons _ u _ us2 r rt=>
      obtain⟨c,E,d⟩:=VF.mp d
      obtain⟨O,G,d⟩:=VJ.mp d
      have fP:u∈us:=J u (WS ..)
      rw[V0,K (λz Y=>J z (Wn _ Y)) t rt G,dif_pos fP,L u fP _ _ c r h E]
      exact d
  exact B (λ_ h=>h) l m d
theorem Om(hu:X.A.units+20<Xs):pS X "list.index" (DY X.K):=by
 intro G s σ H x vs v us Q I Z Y h
 obtain⟨π,μ,a,xs,y,dy,bs,R,rfl,rfl,N,T,M,w,q⟩:=h
 cases Z
 obtain⟨u,rfl,U⟩:=Y.one
 obtain⟨ws,K,hd⟩:=R.lst a xs N
 obtain⟨z,b,n,r,hl,e⟩:=I.lstM K
 obtain⟨g,J,E⟩:=DZ I R (A:=X.A.in1) (by rw[hX];omega) U T hd r M
 have j:bs.length=b.length:=by rw[<- E,VI]
 have A:bs.findIdx id<b.toArray.size:=by rw[V7,<- j];exact w
 have c:∀m (p:m<b.length),bs[m]?=b4 (g b[m]):=λm p=>by
  rw[<- E,V5,VT p];rfl
 have small:((bs.findIdx id:Nat):Int)<2^63-1:=by
  have l:bs.findIdx id<b.length:=by simpa using A
  have d:=kH
  have i:(bs.findIdx id:Nat)<VW:=by omega
  have o:((VW:Nat):Int)<=2^63-1:=by decide
  omega
 refine a1x F.slot_list_index ⟨_,e,rfl⟩ F.entry_list_index (F.args_list_index_2 _ _) (SeqAt.list_indexAt (π a) b.toArray n b6 #[] u g (bs.findIdx id) A small ?_ ?_) ⟨e,λy O=>J y (by simpa using O),⟨.int (bs.findIdx id:Nat),H,I.tok _,⟨_,rfl⟩,q⟩⟩
 ·have l:bs.findIdx id<b.length:=by simpa using A
  have d:=a3l (p:=id) (xs:=bs) (w:=w)
  have i:=c _ l
  rw[VT w]at i
  have o:=VY i
  rw[o]at d
  simpa using d
 ·intro m p B
  have l:m<b.length:=by simpa using p
  have d:=a2H (p:=id) (xs:=bs) B
  have i:=c _ l
  have L:m<bs.length:=by omega
  rw[VT L]at i
  have o:=VY i
  rw[o]at d
  simpa using d
end
section
variable{X:Cx}{e o:Expr}{mo:ME}{apos cpos:Xq}{es:List Expr}{ms:MA}{n:Nat}
end
end L3
namespace L3
open PySem L2
section
variable{prog:V6}{w:Wj}{A:Wh}{E:Value->VL->Prop}{s:VL}{r:Addr}{Q:Bool->VL->Prop}
end
section
variable{prog:V6}{w:Wj}{A:Wh}{E:Value->VL->Prop}{s:VL}{p a:Addr}{its:Array Value}
end
noncomputable def yS(lo c:Int)(n:Nat):It:=⟨λi _=>i<n,λi H x H'=>H'=H/\x=.int (lo+(i:Nat)*c),λi _=>n<=i⟩
theorem Oo{P:V6}{w:Wj}{K:VG}{tg:Expr}(a:Addr)(lo c:Int)(n:Nat):Turn Qc P w K tg (yS lo c n) [a] a (λi h=>Z4 h a (lo+(i:Nat)*c) ((n:Int)-(i:Nat)) c) where
 mem:=by simp
 obj:=λi h st b d=>by
  have e:b=a:=by simpa using d
  subst e;exact⟨_,st,λv z=>by
   have T:WQ _=a0n v:=z;cases T⟩
 keep:=λi h m st k=>k a (by simp) _ st;item:=by intro X B hw A hc i j s L H E I p st G;subst B hw A;obtain⟨q,r,O,u,x,y⟩:=p a (by simp);have W:=a5r (prog:=X.prog) (w:=X.w) (I.ok.hd hc) a lo c n;refine W.item i s _ _ G st λv m J Q l R=>?_;obtain⟨t,rfl⟩:=Q;have M:Inv X j L H {s with heap:=m,toks:=J}:=I.turned (λb o d e=>R b o (by simpa using d) e) q r u x y;exact⟨_,rfl,m5 (s:={s with heap:=m,toks:=J}) (n:="range_iterator") l rfl rfl (by decide) ⟨.int (lo+(i:Nat)*c),H,M,⟨t,rfl⟩,⟨rfl,rfl⟩,l,λb d=>(p b d).1⟩⟩
 done:=by intro X B hw A hc i j s L H E I p st G;subst B hw A;obtain⟨q,r,O,u,x,y⟩:=p a (by simp);exact a3N (I.ok.hd hc) st (by have:n<=i:=G;omega) λm N=>⟨rfl,I.turned (t':=s.toks) (λb o d e=>N b o d e) q r u x y⟩
 self:=λ_ _ _ _ _ st h=>a3P st h
noncomputable def tU(a b c:Int):Bool:=a5T a b c&&decide (c≠0)&&decide (c.natAbs<1073741824)&&decide (0<=WT a b c)
noncomputable def Oq(e:TA):TI:=λσ H R=>e σ H λvs d=>∃a b c:Int,vs=[.int a,.int b,.int c]/\tU a b c=b8/\R (yS a c (WT a b c).toNat) d
open PyProof.Rows in
theorem Ot{X:Cx}{tg a b c:Expr}{E:TA}{p pos:Xq}(O:Gl X "range") (Q:X.mg "range"=b6) (M:PA X [a,b,c] E)(U:Wt [a,b,c] X.env=(b7,eval a X.env)::Wt [b,c] X.env)(y:(Yy pos (Wt [b,c] X.env)).any (·.1)=b7) :
  PI X tg (.Call (.Name "range" p) [a,b,c] [] pos) (Oq E):=by
 intro m s G H R I h;refine a6F (i7 I O Q a4Z (XC (aM (M pos m s G H _ I h) λus l ⟨vs,B,J,r1,Y⟩=>?_) U y));obtain⟨i,j,k,e,hok,q⟩:=Y;subst e;unfold tU at hok;rw[VO,VO,VO,decide_eq_true_eq,decide_eq_true_eq,decide_eq_true_eq]at hok;obtain⟨⟨⟨z,w⟩,x⟩,T⟩:=hok;cases r1 with
 |cons r n=>
  cases n with
  |cons Z n=>
   cases n with
   |cons A n=>
    cases n;obtain⟨t,rfl⟩:=r;obtain⟨u,rfl⟩:=Z;obtain⟨d,rfl⟩:=A;refine call_range_3 w ?_ (.inl (PyProof.noPylong_small x));refine a4S (a4M ..) z ?_;have v:Inv X m G B {l with heap:=l.heap.push {cls:=.type "range",data:=.fields #[.int i t,.int j u,.int k d]},toks:=l.toks}:=J.kept λb o e=>VM _ e;refine⟨(l.heap.push {cls:=.type "range",data:=.fields #[.int i t,.int j u,.int k d]}).objs.size,[(l.heap.push {cls:=.type "range",data:=.fields #[.int i t,.int j u,.int k d]}).objs.size],_,_,B,rfl,
     v.kept (t':=l.toks) λb o e=>VM _ e,Oo _ i k (WT i j k).toNat,?_,λb N=>?_,q⟩
    ·have K:i+((0:Nat):Int)*k=i:=by simp
     have L:(((WT i j k).toNat:Nat):Int)-((0:Nat):Int)=WT i j k:=by omega
     show Z4 _ _ (i+((0:Nat):Int)*k) ((((WT i j k).toNat:Nat):Int)-((0:Nat):Int)) k;rw[K,L];exact VX _ rfl
    ·have e:b=(l.heap.push {cls:=.type "range",data:=.fields #[.int i t,.int j u,.int k d]}).objs.size:=by simpa using N
     subst e;exact v.fpOk (VS _) (v.hok.fresh (VS _))
noncomputable def yT(lo c:Int)(n:Nat):eS:=λ_ i=>b4 (if i<n then b4 (.int (lo+(i:Nat)*c))else b6)
theorem Ou{K:VG}{lo c:Int}{k:Nat}{π:Nat->Addr}{n:Nat}{H:Hp}:Wk K (yS lo c k) (yT lo c k) π n H:=by
 refine⟨λb o j i e R z=>?_,λb o j i d e R z=>?_⟩
 ·have a:=VY z;split at a
  ·cases a
  ·exact ZL.mp (by assumption)
 ·have a:=VY z;split at a
  ·cases a;rename_i h;exact⟨h,λx p ⟨l,m⟩=>by subst l;rw[m];exact⟨.refl,R,.int _⟩⟩
  ·cases a
noncomputable def oK(ms:MA):MI:=λb a=>(ms b a).bind λp=>match p.1 with
 |[.int i,.int j,.int c]=>if tU i j c=b8 then b4 (yT i c (WT i j c).toNat,(WT i j c).toNat+1,p.2)else b6|_=>b6
theorem Ov{X:Cx}{a b c:Expr}{ms:MA}{n:Nat}{p pos:Xq}(e:Gl X "range") (h:X.mg "range"=b6) (r:QA X [a,b,c] ms n):QJ X (.Call (.Name "range" p) [a,b,c] [] pos) (oK ms):=⟨λtg a6G s σ H R I hw=>by
 have l:=r.s;rw[WE,VO]at l;obtain⟨Q,T,N,J,U,O,w,E,d,k⟩:=hw;obtain⟨⟨x,o⟩,z,d⟩:=VF.mp d;refine Ot e h r.h (fC l.1) (kN l.2) a6G s σ H R I ⟨Q,T,N,x,o,w,E,z,λq Y u y v m=>?_⟩;dsimp only at d;split at d
 ·rename_i i j c;split at d
  ·rename_i A;cases d;cases m with
   |cons m K=>
    cases m;cases K with
    |cons B L=>
     cases B;cases L with
     |cons G M=>cases G;cases M;exact⟨i,j,c,rfl,A,k q u _ y v Ou⟩
  ·cases d
 ·cases d⟩
end L3
namespace L3
open PySem L2
end L3
namespace L3
open PySem L2
noncomputable abbrev bL:=List (List Int×Addr×V)
noncomputable def bV(ps:bL)(ws:List Value):List (List Int×Addr×Value):=a0r (λp w=>(p.1,p.2.1,w)) ps ws
theorem tV{P:V6}{w:Wj}:∀(ps:bL)(ws:List Value),a0r sG ps ws=(bV ps ws).map (entryOfKey (a0g (Za P w)))
 |[],_=>by simp[bV]
 |p::ps,[]=>by simp[bV]
 |p::ps,u::ws=>by have a:=tV (P:=P) (w:=w) ps ws;unfold bV at a ⊢;rw[WK,WK,V0,a];rfl
theorem oM:∀{ps:bL}{ws:List Value},Vals (ps.map (·.2.2)) ws->(bV ps ws).map (·.1)=ps.map (·.1)
 |[],_,_=>by simp[bV]
 |p::ps,_,.cons r t=>by have a:=oM (ps:=ps) t;unfold bV at a ⊢;rw[WK,V0,V0,a]
theorem D0:∀{ps:bL}{ws:List Value}{x:List Int×Addr×Value},x∈bV ps ws->∃p∈ps,p.1=x.1/\p.2.1=x.2.1
 |[],_,x,h=>by simp[bV]at h
 |p::ps,[],x,h=>by simp[bV]at h
 |p::ps,u::ws,x,h=>by
  unfold bV at h;rw[WK]at h;rcases Wr.mp h with e|h
  ·subst e;exact⟨p,WS ..,rfl,rfl⟩
  ·obtain⟨q,a,e⟩:=D0 (ps:=ps) (ws:=ws) h;exact⟨q,Wn _ a,e⟩
noncomputable def fF(ps:bL)(k:List Int):Option V:=(ps.find? λp=>decide (p.1=k)).map (·.2.2)
noncomputable def eL(ps:bL)(k:List Int)(b:Addr)(v:V):bL:=if(fF ps k).isSome then ps.map (λp=>if p.1=k then(p.1,p.2.1,v)else p)else ps++[(k,b,v)]
theorem qK:∀{ps:bL}{ws:List Value},Vals (ps.map (·.2.2)) ws->∀k,RelO (fF ps k) ((a0B (bV ps ws) k).map (·.2))
 |[],_,.nil,k=>by simp[fF,bV,a0B];exact YU
 |p::ps,_,.cons r t,k=>by
  have a:=qK (ps:=ps) t k;unfold fF a0B bV at a ⊢;rw[WK,Xb,Xb];by_cases e:p.1=k
  ·simp only[e,decide_true];exact r
  ·simp only[e,decide_false];exact a
theorem yU(ps:bL)(k:List Int)(b:Addr)(v:V):(eL ps k b v).length<=ps.length+1:=by unfold eL;split<;>simp
theorem D1{k:List Int}{v:V}{u:Value}(d:RelV v u):∀{ps:bL}{ws:List Value},Vals (ps.map (·.2.2)) ws->
  ∃a,Vals ((ps.map λp=>if p.1=k then(p.1,p.2.1,v)else p).map (·.2.2)) a/\(bV ps ws).map (a6y k u)=bV (ps.map λp=>if p.1=k then(p.1,p.2.1,v)else p) a
 |[],_,.nil=>⟨[],.nil,by simp[bV]⟩|p::ps,_,.cons (b:=w) r t=>by
  obtain⟨a,c,b⟩:=D1 d (ps:=ps) t;by_cases e:p.1=k
  ·refine⟨u::a,?_,?_⟩
   ·rw[V0,V0,if_pos e];exact .cons d c
   ·unfold bV at b ⊢;rw[WK,V0,b,V0,if_pos e,WK];unfold a6y;rw[if_pos e]
  ·refine⟨w::a,?_,?_⟩
   ·rw[V0,V0,if_neg e];exact .cons r c
   ·unfold bV at b ⊢;rw[WK,V0,b,V0,if_neg e,WK];unfold a6y;rw[if_neg e]
theorem D2{k:List Int}{b:Addr}{v:V}{u:Value}:∀{ps:bL}{ws:List Value},Vals (ps.map (·.2.2)) ws->bV ps ws++[(k,b,u)]=bV (ps++[(k,b,v)]) (ws++[u])
 |[],_,.nil=>by simp[bV]
 |p::ps,_,.cons r t=>by have a:=D2 (k:=k) (b:=b) (v:=v) (u:=u) (ps:=ps) t;unfold bV at a ⊢;rw[WK,Xw,a,Xw,Xw,WK]
theorem D3{ps:bL}{ws:List Value}(r:Vals (ps.map (·.2.2)) ws)(k:List Int)(b:Addr){v:V}{u:Value}(c:RelV v u) :
  ∃a,Vals ((eL ps k b v).map (·.2.2)) a/\a5m (bV ps ws) k b u=bV (eL ps k b v) a:=by
 have e:=(qK r k).isSome_eq;rw[Zm]at e;unfold eL a5m;rw[e];by_cases h:(a0B (bV ps ws) k).isSome=b8
 ·rw[if_pos h,if_pos h];exact D1 c r
 ·rw[if_neg h,if_neg h];refine⟨ws++[u],?_,D2 r⟩;rw[Wz];exact a1j r c
section
variable{X:Cx}{a6G:List (Addr×Obj)}{σ:St}{H:Hp}{s:VL}{a:Addr}{ps:bL}
noncomputable def eM(K:VG)(H:Hp)(ps:bL):Prop:=∀p∈ps,SqT K H p.2.1 (p.1.map V.int)
theorem kS(I:Inv X a6G σ H s)(e:Rd H a (aR a ps))(u:eM X.K H ps):(a==XZ)=b7/\ps.length<=VW /\
  ∃b,Vals (ps.map (·.2.2)) b/\s.heap.DictOfH (a0g (Za X.prog X.w)) a (bV ps b):=by
 obtain⟨⟨b,r,y,v,o,i,h,j,l,m,n,q⟩,_⟩:=(show ObjOk X.prog X.w H s.heap a (aR a ps)from e.ok I.hok);refine⟨y,v,b,r,o,i,h,j,l,m,by rw[n];exact tV ps b,λx z=>?_,by rw[oM r];exact q⟩;obtain⟨p,w,c,d⟩:=D0 z;rw[<- c,<- d];exact kR I (u p w)
theorem yV{P:V6}{w:Wj}{H':Hp}{h':WI}{ws:List Value}(n:(a==XZ)=b7)(m:ps.length<=VW)(r:Vals (ps.map (·.2.2)) ws)(d:h'.DictOfH (a0g (Za P w)) a (bV ps ws)):ObjOk P w H' h' a (aR a ps):=by obtain⟨o,e,c,b,h,i,j,_,l⟩:=d;refine⟨⟨ws,r,n,m,o,e,c,b,h,i,by rw[j,tV (P:=P) (w:=w)],by rw[<- oM r];exact l⟩,⟨o,b⟩,?_⟩;rintro q u ⟨ws,r,n,m,o,e,c,b,h,i,j,l⟩ p;exact⟨ws,r,n,m,o,e,c,p o b,h,i,j,l⟩
theorem Ox(I:Inv X a6G σ H s)(e:Rd H a (aR a ps))(b:eM X.K H ps):s.TypeIs (.ref a) "dict":=by obtain⟨_,_,c,_,d⟩:=kS I e b;exact d.typeIs
theorem tW{A:Wh}(b:A.units+1<Xs):(a0g (Za X.prog X.w)).room A.in1:=by show A.in1.units<Xs;rw[hX];omega
variable{A:Wh}{E:Value->VL->Prop}{b:Addr}{k:List Int}{v:V}
theorem Oy{Q:Value->VL->Prop}(q:A.units+1<Xs)(I:Inv X a6G σ H s)(e:Rd H a (aR a ps))(n:eM X.K H ps)(m:SqT X.K H b (k.map V.int))(u:fF ps k=b4 v)
  (h:∀c l,Inv X a6G σ H l->RelV v c->Q c l):V2 (V8 X.prog X.w) A (a2E (.ref a) (.ref b)) Q E s:=by
 obtain⟨y,x,w,r,d⟩:=kS I e n;obtain⟨c,hw,j⟩:=RelO.some_of (v:=v) (o:=(a0B (bV ps w) k).map (·.2)) (by rw[<- u];exact qK r k);obtain⟨p,o,i⟩:=VJ.mp hw;refine wpAny_getItem_heap (tW q) (kR I m) d o ?_;rw[i];exact h c _ (I.tok _) j
theorem Oz{Q:Value->VL->Prop}(m:A.units+1<Xs)(I:Inv X a6G σ H s)(e:Rd H a (aR a ps))(j:eM X.K H ps)(i:SqT X.K H b (k.map V.int))
  (h:∀c,Inv X a6G σ H c->Q (.bool (fF ps k).isSome) c):V2 (V8 X.prog X.w) A (W6 .In (.ref b) (.ref a)) Q E s:=by
 obtain⟨l,n,o,r,d⟩:=kS I e j;refine wpAny_in_heap (tW m) (kR I i) l d ?_;have q:=(qK r k).isSome_eq;rw[Zm]at q;rw[<- q];exact h _ (I.tok _)
theorem OA{Q:Value->VL->Prop}(m:A.units+1<Xs)(I:Inv X a6G σ H s)(e:Rd H a (aR a ps))(j:eM X.K H ps)(i:SqT X.K H b (k.map V.int))
  (h:∀c,Inv X a6G σ H c->Q (.bool (!(fF ps k).isSome)) c):V2 (V8 X.prog X.w) A (W6 .NotIn (.ref b) (.ref a)) Q E s:=by
 obtain⟨l,n,o,r,d⟩:=kS I e j;refine a5Z (tW m) (kR I i) l d ?_;have q:=(qK r k).isSome_eq;rw[Zm]at q;rw[<- q];exact h _ (I.tok _)
theorem OB{Q:Unit->VL->Prop}{u:Value}(y:A.units+1<Xs)(I:Inv X a6G σ H s)(e:H a=b4 (aR a ps))(p:eM X.K H ps)(n:SqT X.K H b (k.map V.int))(hz:ps.length<VW)(G:RelV v u)
  (h:∀j,Inv X a6G σ (aI H a (aR a (eL ps k b v))) j->Q () j):V2 (V8 X.prog X.w) A (setItem (.ref a) (.ref b) u) Q E s:=by
 obtain⟨x,L,J,r,d⟩:=kS I (.of e) p;have z:(bV ps J).length<=VW:=by have:=congrArg Xc (oM r);rw[VI,VI]at this;omega
 refine wpAny_setItem_heap (hsz:=z) (tW y) (kR I n) d λm c i=>h _ ?_;obtain⟨K,B,l⟩:=D3 r k b G;rw[l]at c;have o:∃q,m.get? a=b4 q:=let⟨q,_,_,w,_⟩:=c;⟨q,w⟩;exact BQ I (by rw[e];exact YU) i o (yV x (by have:=yU ps k b v;omega) B c)
end
noncomputable def IsTs(K:VG)(π:Nat->Addr)(n:Nat)(H:Hp):bL->List (List Int×D)->Prop:=Zj λp q=>p.1=q.1/\SqT K H p.2.1 (p.1.map V.int)/\IsD K π n H p.2.2 q.2
section
variable{K:VG}{π:Nat->Addr}{n:Nat}{H:Hp}{μ:Hm}
theorem OC{b:Addr}{k:List Int}(h:IsD K π n H (.ref b) (.tup (k.map D.int))):SqT K H b (k.map V.int):=by
 cases h with
 |tup q t=>rw[ints_of' t]at q;exact q
theorem IsTs.of:∀{ps:bL}{kvs:List (List Int×D)},ps.map (·.1)=kvs.map (·.1)->IsDs K π n H (ps.map λp=>V.ref p.2.1) (kvs.map λk=>D.tup (k.1.map D.int))->IsDs K π n H (ps.map (·.2.2)) (kvs.map (·.2))->IsTs K π n H ps kvs
 |[],[],_,_,_=>.nil|[],_::_,h,_,_=>by cases h
 |_::_,[],h,_,_=>by cases h
 |p::ps,q::kvs,h,h2,h3=>by
  cases h2 with
  |cons a b=>
   cases h3 with
   |cons c d=>rw[V0,V0,a3m]at h;refine .cons ⟨h.1,?_,c⟩ (IsTs.of h.2 b d);rw[h.1];exact OC a
theorem IsTs.keys:∀{ps:bL}{kvs:List (List Int×D)},IsTs K π n H ps kvs->eM K H ps
 |_,_,.nil=>λp a=>nomatch a|_,_,.cons h t=>λp a=>by
  rcases Wr.mp a with e|a
  ·subst e;exact h.2.1
  ·exact IsTs.keys t p a
theorem IsTs.to:∀{ps:bL}{kvs:List (List Int×D)},IsTs K π n H ps kvs->ps.map (·.1)=kvs.map (·.1)/\IsDs K π n H (ps.map λp=>V.ref p.2.1) (kvs.map λk=>D.tup (k.1.map D.int))/\IsDs K π n H (ps.map (·.2.2)) (kvs.map (·.2))
 |_,_,.nil=>⟨rfl,.nil,.nil⟩|_,_,.cons (a:=p) (b:=q) h t=>by obtain⟨a,b,c⟩:=IsTs.to t;refine⟨by rw[V0,V0,h.1,a],.cons ?_ b,.cons h.2.2 c⟩;show IsD K π n H (.ref p.2.1) (.tup (q.1.map D.int));rw[<- h.1];exact .tup h.2.1 (yL p.1)
theorem IsTs.val(k:List Int):∀{ps:bL}{kvs:List (List Int×D)},IsTs K π n H ps kvs->(fF ps k=b6/\bP kvs k=b6)\/∃v d,fF ps k=b4 v/\bP kvs k=b4 d/\IsD K π n H v d
 |_,_,.nil=>.inl ⟨rfl,rfl⟩|_,_,.cons (a:=p) (b:=q) h t=>by
  have a:=IsTs.val k t;unfold fF bP at a ⊢;rw[Xb,Xb,<- h.1];by_cases e:p.1=k
  ·simp only[e,decide_true];exact .inr ⟨_,_,rfl,rfl,h.2.2⟩
  ·simp only[e,decide_false];exact a
theorem IsTs.put{ps:bL}{kvs:List (List Int×D)}(h:IsTs K π n H ps kvs)(k:List Int){b:Addr}{v:V}{d:D}(j:SqT K H b (k.map V.int))(i:IsD K π n H v d):IsTs K π n H (eL ps k b v) (d8 kvs k d):=by
 have e:(fF ps k).isSome=(bP kvs k).isSome:=by rcases h.val k with⟨a,c⟩|⟨v,d,a,c,_⟩<;>rw[a,c]<;>rfl
 have repl:∀{ps:bL}{kvs:List (List Int×D)},IsTs K π n H ps kvs->IsTs K π n H (ps.map λp=>if p.1=k then(p.1,p.2.1,v)else p) (kvs.map λp=>if p.1=k then(p.1,d)else p):=by
  intro ps kvs h;unfold IsTs at h;induction h with
  |nil=>exact .nil|@cons p q ps m h t l=>
   rw[V0,V0];refine .cons ?_ l;by_cases z:p.1=k
   ·rw[if_pos z,if_pos (h.1.symm.trans z)];exact⟨h.1,h.2.1,i⟩
   ·rw[if_neg z,if_neg λy=>z (h.1.trans y)];exact h
 unfold eL d8;rw[e];split
 ·exact repl h
 ·exact a1j h ⟨rfl,j,i⟩
theorem mL{a:Nat}{kvs:List (List Int×D)}(R:Rp K π H μ)(h:μ[a]?=b4 (.dT kvs)):∃ps,H (π a)=b4 (aR (π a) ps)/\IsTs K π μ.length H ps kvs:=by obtain⟨ps,b,c,d,e⟩:=R.dT a kvs h;exact⟨ps,b,.of c d e⟩
theorem tX{a:Nat}{kvs:List (List Int×D)}(R:Rp K π H μ)(h:μ[a]?=b4 (.dF kvs)):∃b ps,H (π a)=b4 (.frz b (aR (π a) ps))/\IsTs K π μ.length H ps kvs:=by obtain⟨b,ps,c,d,e,i⟩:=R.dF a kvs h;exact⟨b,ps,c,.of d e i⟩
theorem oN{v:V}{x:D}{k:List Int}(h:IsD K π n H v x)(e:cU x=b4 k):∃b,v=.ref b/\SqT K H b (k.map V.int):=by
 have:=qH e;subst this;cases h with
 |tup q t=>rw[ints_of' t]at q;exact⟨_,rfl,q⟩
end
noncomputable def oO:ME:=λ_ a=>b4 (.loc a.length,a++[.dT []])
section
variable{X:Cx}{pos:Xq}
theorem D4{P:V6}{w:Wj}{H:Hp}(h:WI)(a:XZ<h.objs.size):ObjOk P w H (h.push {cls:=.type "dict",data:=.dict #[]}) h.objs.size (aR h.objs.size []):=
 yV (ws:=[]) (beq_eq_false_iff_ne.mpr (WG (V4 a))) (Yb _) .nil (a6n h)
noncomputable def OD:TE:=λ_ H Q=>∀p,H p=b6->Q (.ref p) (aI H p (aR p []))
theorem OE:PE X (.Dict [] [] pos) OD:=λa6G s σ H Q I h=>wpAny_Dict_empty ⟨.ref s.heap.objs.size,_,I.laid (a:=s.heap.objs.size) (o:=aR s.heap.objs.size []) (t':=s.toks) (λ_ _ q=>VM _ q) (VS _) (D4 s.heap I.big),rfl,h _ (I.hok.fresh (VS _))⟩
theorem OF:QE X (.Dict [] [] pos) oO:=⟨dC OE (by
 rintro n H Q ⟨l,m,j,d,h,R,E,c,k⟩ p e;cases c;obtain⟨b,a,i⟩:=R.alloc (c:=.dT []) (o:=aR p []) e ⟨[],rfl,rfl,.nil,.nil⟩;exact k _ _ _ b a lV)⟩
end
noncomputable def qL:D->D->Hm->Option (D×Hm)
 |.loc a,y,μ=>match μ[a]? with
  |some (.dT kvs)=>(cU y).bind λk=>(bP kvs k).map λd=>(d,μ)|some (.dF kvs)=>(cU y).bind λk=>(bP kvs k).map λd=>(d,μ)|_=>b6
 |_,_,_=>b6
section
variable{X:Cx}{a b e:Expr}{ma mb me:ME}{pos tpos:Xq}{td ty tv:TE}
noncomputable def D5(K:VG):R2:=λx y H Q=>∃a b ps k v,x=.ref a/\y=.ref b/\Rd H a (aR a ps)/\eM K H ps/\SqT K H b (k.map V.int)/\fF ps k=b4 v/\Q v H
theorem OG(B:X.A.units+1<Xs)(z:PE X a td)(w:PE X b ty)(A:BR b):PE X (.Subscript a b pos) (λσ H Q=>td σ H λx d=>ty σ d λy i=>D5 X.K x y i Q):=by intro c s σ H Q I h;refine Jf PySem.F.slot_dict_getitem.lookup A (aM (z c s σ H _ I h) λu N ⟨x,d,n,L,J⟩=>aM (w c N σ d _ n J) λG R ⟨y,i,l,M,a,b,O,k,v,p,q,e,m,r,E,K⟩=>?_);subst p q;obtain rfl:u=VU a:=L;obtain rfl:G=VU b:=M;exact⟨Ox l e m,Oy B l e m r E λU T o j=>⟨v,i,o,j,K⟩⟩
theorem OH{K:VG}:cX K qL (D5 K):=by
 intro w H L x y d G I J Q R s u c k;unfold qL at c;split at c
 ·split at c
  ·rename_i n hc;obtain⟨i,l,c⟩:=VF.mp c;obtain⟨A,h,c⟩:=VJ.mp c;cases c;cases s;obtain⟨o,j,T⟩:=mL R hc;obtain⟨b,rfl,m⟩:=oN u l;rcases T.val i with⟨_,z⟩|⟨v,B,p,q,r⟩
   ·rw[z]at h;cases h
   ·rw[q]at h;cases h;exact⟨_,b,o,i,v,rfl,rfl,.of j,T.keys,m,p,k w _ H .refl R r⟩
  ·rename_i n hc;obtain⟨i,l,c⟩:=VF.mp c;obtain⟨A,h,c⟩:=VJ.mp c;cases c;cases s;obtain⟨E,o,j,T⟩:=tX R hc;obtain⟨b,rfl,m⟩:=oN u l;rcases T.val i with⟨_,z⟩|⟨v,B,p,q,r⟩
   ·rw[z]at h;cases h
   ·rw[q]at h;cases h;exact⟨_,b,o,i,v,rfl,rfl,.inr ⟨E,j⟩,T.keys,m,p,k w _ H .refl R r⟩
  ·cases c
 ·cases c
theorem OI{k:Nat}(i:Room k X.A)(c:QE X a ma)(d:QE X b mb)(h:nP b=b8):QE X (.Subscript a b pos) (aC qL ma mb):=⟨dC (OG (fP i) c.h d.h (C1 h)) (pW OH)⟩
end
section
variable{X:Cx}{o i e:Expr}{mo mi me:ME}{pos tpos:Xq}{td ty tv:TE}
noncomputable def OJ(K:VG)(td ty tv:TE):TS:=λD σ H=>tv σ H λv d=>td σ d λx h=>ty σ h λy c=>∃a b ps k,x=.ref a/\y=.ref b/\c a=b4 (aR a ps)/\eM K c ps/\SqT K c b (k.map V.int)/\ps.length<VW/\D.nx σ (aI c a (aR a (eL ps k b v)))
theorem OK(K:X.A.units+1<Xs)(G:PE X o td)(B:PE X i ty)(L:PE X e tv)(J:ZW e (b4 (.Subscript o i tpos)) pos.line X.env=pure b7) :
  PS X (.Assign [.Subscript o i tpos] e pos) (OJ X.K td ty tv):=by
 intro c s d H D I h;refine a3Q (aM (L c s d H _ I h) λr Z ⟨v,j,m,T,O⟩=>aM (G c Z d j _ m O) λu s2 ⟨x,l,n,U,Q⟩=>aM (B c s2 d l _ n Q) λN s3 ⟨y,H3,p,Y,a,b,ps,k,w,z,e,E,A,M,R⟩=>?_) J;subst w z;obtain rfl:u=VU a:=U;obtain rfl:N=VU b:=Y;exact OB K p e E A M T λs4 q=>⟨d,_,q,R⟩
theorem OL{j:Nat}(hr:Room j X.A)(ho:QE X o mo)(hi:QE X i mi)(he:QE X e me)(h:eH e=b8):QS X (.Assign [.Subscript o i tpos] e pos) (mJ qJ mo mi me):=
 ⟨iJ (OK (JK hr) ho.h hi.h he.h (l7 h)) (by
 rintro E σ H ⟨π,K,μ,fl,ρ',μ',R,n,d,k⟩;obtain⟨⟨x,l⟩,h1,d⟩:=VF.mp d;obtain⟨⟨y,m⟩,h2,d⟩:=VF.mp d;obtain⟨⟨z,B⟩,h3,d⟩:=VF.mp d;obtain⟨μ4,c,d⟩:=VJ.mp d;cases d;refine⟨π,K,μ,x,l,R,n,h1,λG v1 H1 p Q i1=>⟨G,K,l,y,m,Q,n.mono p,h2,λI v2 H2 q R2 i2=>⟨I,K,m,z,B,R2,(n.mono p).mono q,h3,λJ v3 H3 r L i3=>?_⟩⟩⟩;cases y with
 |loc a=>
  simp only[qJ]at c;split at c
  ·rename_i w hc;obtain⟨j,h5,c⟩:=VF.mp c;split at c
   ·rename_i hz;cases c;have v:=i2.mono r;cases v with
    |loc s=>
     obtain⟨A,N,T⟩:=mL L hc;obtain⟨b,rfl,O⟩:=oN i3 h5;have hv:=(i1.mono q).mono r;have Y:=T.put j O hv;obtain⟨Z,g2,g3⟩:=Y.to;have u:A.length<VW:=by have:=congrArg Xc (T.to).1;rw[VI,VI]at this;omega
     refine⟨_,b,A,j,rfl,rfl,N,T.keys,O,u,?_⟩;obtain⟨M,U⟩:=L.put (c:=.dT (d8 w j x)) (o:=aR _ (eL A j b v1)) s N (.inr (.inr ⟨_,rfl⟩)) ⟨_,rfl,Z,g2,g3⟩;exact k J σ _ (((p.trans q).trans r).trans M) U ((((n.mono p).mono q).mono r).mono M)
   ·cases c
  ·cases c
 |_=>simp[qJ]at c)⟩
end
noncomputable def qM(b:Bool):D->D->Hm->Option (D×Hm)
 |x,.loc a,μ=>match μ[a]? with
  |some (.dT kvs)=>(cU x).map λk=>(.bl (if b then !(bP kvs k).isSome else(bP kvs k).isSome),μ)|some (.dF kvs)=>(cU x).map λk=>(.bl (if b then !(bP kvs k).isSome else(bP kvs k).isSome),μ)|_=>b6
 |_,_,_=>b6
noncomputable def yW(K:VG)(c:Bool):R2:=λx y H Q=>∃a b ps k,x=.ref b/\y=.ref a/\Rd H a (aR a ps)/\eM K H ps/\SqT K H b (k.map V.int)/\Q (.bl (if c then !(fF ps k).isSome else(fF ps k).isSome)) H
theorem D6{X:Cx}(l:X.A.units+1<Xs):OpR X (W6 .In) (yW X.K b7):=by intro d s r H x y v u Q I m n h;obtain⟨a,b,o,k,rfl,rfl,e,j,i,q⟩:=h;obtain rfl:v=VU b:=m;obtain rfl:u=VU a:=n;exact Oz l I e j i λp c=>⟨.bl _,H,c,rfl,q⟩
theorem D7{X:Cx}(l:X.A.units+1<Xs):OpR X (W6 .NotIn) (yW X.K b8):=by intro d s r H x y v u Q I m n h;obtain⟨a,b,o,k,rfl,rfl,e,j,i,q⟩:=h;obtain rfl:v=VU b:=m;obtain rfl:u=VU a:=n;exact OA l I e j i λp c=>⟨.bl _,H,c,rfl,q⟩
theorem tY{K:VG}{l:Bool}:cX K (qM l) (yW K l):=by
 intro r H A x y d u w z Q R p q a k;unfold qM at a;split at a
 ·split at a
  ·rename_i i hc;obtain⟨h,c,a⟩:=VJ.mp a;cases a;cases q;obtain⟨m,n,T⟩:=mL R hc;obtain⟨b,rfl,o⟩:=oN p c;have e:(fF m h).isSome=(bP i h).isSome:=by rcases T.val h with⟨c,j⟩|⟨v,d,c,j,_⟩<;>rw[c,j]<;>rfl
   refine⟨_,b,m,h,rfl,rfl,.of n,T.keys,o,?_⟩;rw[e];exact k r _ H .refl R (.bl _)
  ·rename_i i hc;obtain⟨h,c,a⟩:=VJ.mp a;cases a;cases q;obtain⟨s,m,n,T⟩:=tX R hc;obtain⟨b,rfl,o⟩:=oN p c;have e:(fF m h).isSome=(bP i h).isSome:=by rcases T.val h with⟨c,j⟩|⟨v,d,c,j,_⟩<;>rw[c,j]<;>rfl
   refine⟨_,b,m,h,rfl,rfl,.inr ⟨s,n⟩,T.keys,o,?_⟩;rw[e];exact k r _ H .refl R (.bl _)
  ·cases a
 ·cases a
section
variable{X:Cx}{a b:Expr}{ma mb:ME}{pos:Xq}
end
end L3
namespace L3
open PySem L2
noncomputable def RawD(h:WI)(d:Addr)(es:Array DictEntry)(ep:Nat):Prop:=∃z,h.get? d=b4 z/\z.ExactDict/\z.data=.dict es ep
theorem RawD.ty{s:VL}{d:Addr} {es ep} (g:RawD s.heap d es ep):s.TypeIs (.ref d) "dict":=let⟨z,a,b,_⟩:=g;⟨z,a,b.1⟩
theorem RawD.stay{h h':WI}{d:Addr} {es ep} (g:RawD h d es ep)(k:∀o,h.get? d=b4 o->h'.get? d=b4 o):RawD h' d es ep:=let⟨z,a,b⟩:=g;⟨z,k z a,b⟩
theorem RawD.lt{h:WI}{d:Addr} {es ep} (g:RawD h d es ep):d<h.objs.size:=let⟨_,a,_⟩:=g;VR a
section
variable{P:V6}{w:Wj}{A:Wh}{E:Value->VL->Prop}{s:VL}{d it:Addr}{i ep:Nat}{es:Array DictEntry}
theorem OM{Q:Value->VL->Prop}(lo:(d==XZ)=b7)(g:RawD s.heap d es ep)
  (q:Q (.ref s.heap.objs.size) {s with heap:=s.heap.push {cls:=.type "dict_keyiterator",data:=.fields #[.ref d,.int 0 0,.int es.size 0,.int ep 0]}}):V2 (V8 P w) A (a2h (.ref d)) Q E s:=by
 obtain⟨z,a,c,b⟩:=id g;refine a5h g.ty F.slot_dict_iter (XX F.slot_dict_iter g.ty F.entry_dict_iter ?_ (F.args_dict_iter_1 _));unfold Builtin.«dict.__iter__» a6r;refine VH (VH (a0O g.ty ?_));show V2 _ _ (pure (VU d)) _ _ _;refine VQ ?_;show V2 _ _ (Ze d >>= _) _ _ _;unfold Ze;rw[if_neg (λx=>VZ (lo.symm.trans x))];refine VH (VQ (VH (ZG a b (VH (a0L a b (VH (W7 (VQ ?_))))))));exact⟨_,rfl,"dict_keyiterator",_,⟨_,VX _ rfl,rfl⟩,F.slot_dict_keyiterator_next.lookup,by simpa[X2]using q⟩
theorem D8{Q:Option Value->VL->Prop}(p:A.handled=b6)(j:s.heap.IsKeyIter it d i es.size ep)(g:RawD s.heap d es ep)
  (v:∀e a,es[i]?=b4 e->a.IsKeyIter it d (i+1) es.size ep->Zw it s.heap a->Q (b4 e.key) {s with heap:=a})
  (B:es[i]?=b6->∀a,a0H it s.heap a->Q b6 {s with heap:=a}):V2 (V8 P w) A (YL (.ref it)) Q E s:=by
 obtain⟨y,c,r,b⟩:=id j;obtain⟨z,m,G,n⟩:=id g;have l:∀{Q:String->VL->Prop}{A:Wh}{E:Value->VL->Prop},Q "dict_keyiterator" s->V2 (V8 P w) A (a5V (.ref it)) Q E s:=λq=>wpAny_typeNameOfWhole_keyiter j.typeIs q;unfold YL;refine VH (wpAny_attempt (a3A (name:=X9 "__next__") j.typeIs F.slot_dict_keyiterator_next (XX F.slot_dict_keyiterator_next j.typeIs F.entry_dict_keyiterator_next ?_ (F.args_dict_keyiterator_next_1 _))));refine VH (VQ (VH (VH (VH (l (VQ (VH (a6u c b ?_))))))));simp only[show Y9 "dict_keyiterator"=b7 by decide,Wq,if_false];show V2 _ _ (if(VU d==WJ)=b8 then _ else _) _ _ _;rw[if_neg (show ¬ (VU d==WJ)=b8 from λx=>VZ x)];refine VH (VQ (VH (ZG m n ?_)));rw[if_neg (λx=>by simp at x)];refine VH (VQ (VH (a0L m n ?_)));rw[if_neg (λx=>by simp at x)];refine VQ ?_;simp only[if_neg (show ¬ ((i:Int)<0) by omega),XN];cases o:es[i]? with
 |some e=>
  refine VH (VH (l (VQ (VH (a4o j.typeIs ?_)))));show V2 _ _ (a2Q (.ref it) 1 (X2 ((i:Int)+1)) >>= _) _ _ _;refine VH (Y5 c b (by simp) ?_);have h:(s.heap.update it (ZN (·.setIfInBounds 1 (X2 ((i:Int)+1))))).IsKeyIter it d (i+1) es.size ep:=
   ⟨_,WH _ c (YN (Yz b _)),(a1k ..).trans r,by simp[Yz b,X2]⟩
  generalize hu:s.heap.update it (ZN (·.setIfInBounds 1 (X2 ((i:Int)+1))))=u at h;refine VH (WN (VH (a4o (s:={s with heap:=u}) h.typeIs ?_)));show V2 _ _ (pure e.key) _ _ _;exact VQ (VQ ⟨_,rfl,VQ (v e u o h (hu▸a0m ..))⟩)
 |none=>refine VH (VH (l (VQ ?_)));show V2 _ _ (a2Q (.ref it) 0 .none >>= _) _ _ _;refine VH (Y5 c b (by simp) ?_);show V2 _ _ (a6z (.type "StopIteration") [] >>= _) _ _ _;simp only[a6z,a4C];refine VH (VH (W7 ?_ (by size_fits)));refine VH (m:=a0X _ _) (a2r (a:=WJ) (by first|rfl|(simp only[a0X];rfl)) (W7 ?_ (by size_fits)));simp only[raiseNew];refine VH (wpAny_handled ?_);rw[show A.in1.handled=b6 from p];refine VH (VQ (wpAny_throw ?thrown));case thrown=>exact VH (a2e (T:="StopIteration") (b:=b8) ⟨_,VX _ rfl,rfl⟩ a6D (VQ (B o _ (((a0m ..).extBut.push _).push _))))
theorem ON(lo:(d==XZ)=b7):MeetsIn P w (Builtin.«dict.__len__» ⟨[.ref d],[]⟩) (λ_ R s=>∃es ep,RawD s.heap d es ep/\R (.ok (.ret (.int (es.size:Nat) s.toks))) {s with toks:=s.toks+1}):=
 .of_wp λA R s ⟨es,ep,⟨z,a,c,b⟩,q⟩=>by show V2 _ _ (dictSize d >>= _) _ _ _;unfold dictSize;refine VH (VH (ZG a b (VQ ?_)));show V2 _ _ (a6p d >>= _) _ _ _;refine VH (wpAny_pendingCount_other lo (wpAny_ret_mkInt ?_));rw[a5M];exact q
theorem OO{Q:Value->VL->Prop}(lo:(d==XZ)=b7)(g:RawD s.heap d es ep)(hz:es.size<=VW)(q:Q (.int (es.size:Nat) (s.toks+1)) {s with toks:=s.toks+1+1}):V2 (V8 P w) A (call (.builtin "len") [.ref d]) Q E s:=
 a6g g.ty F.slot_dict_len (λb a=>a3V F.slot_dict_len g.ty F.entry_dict_len (F.args_dict_len_1 _) (ON lo) ⟨es,ep,g,a⟩) (by omega) (by rw[V9]at hz;omega) q
end
theorem yX:∀{ps:bL}{ws:List Value},Vals (ps.map (·.2.2)) ws->(bV ps ws).map (λx=>VU x.2.1)=ps.map λp=>VU p.2.1
 |[],_,_=>by simp[bV]
 |p::ps,_,.cons r t=>by have a:=yX (ps:=ps) t;unfold bV at a ⊢;rw[WK,V0,V0,a]
section
variable{X:Cx}{a6G:List (Addr×Obj)}{σ:St}{H:Hp}{s:VL}{a:Addr}{ps:bL}
theorem D9(I:Inv X a6G σ H s)(e:H a=b4 (aR a ps))(i:eM X.K H ps):(a==XZ)=b7/\ps.length<=VW/\∃es ep,RawD s.heap a es ep/\es.toList.map (·.key)=ps.map λp=>VU p.2.1:=by obtain⟨l,j,m,r,z,es,ep,b,c,d,h,_⟩:=kS I (.of e) i;refine⟨l,j,es,ep,⟨z,b,c,d⟩,?_⟩;rw[h,Wo,<- yX r];rfl
noncomputable def Ea(K:VG):List V->Hp->VK->Prop:=λxs H Q=>∃a ps,xs=[V.ref a]/\H a=b4 (aR a ps)/\eM K H ps/\Q (.int ps.length) H
theorem OP:CallR X (.builtin "len") (Ea X.K):=by
 intro a6G s σ H p o Q I r h;obtain⟨a,ps,rfl,c,e,q⟩:=h;obtain⟨u,rfl,l⟩:=i8 r;cases l;obtain⟨j,n,b,m,g,d⟩:=D9 I c e;have i:b.size=ps.length:=by have:=congrArg Xc d;simpa using this
 refine OO j g (by omega) ?_;rw[i];exact⟨.int ps.length,H,(I.tok _).tok _,⟨_,rfl⟩,q⟩
end
section
variable{X:Cx}{a b o i e:Expr}{ma mb mo mi me:ME}{pos tpos:Xq}{k:Nat}
theorem OQ(m:Room k X.A)(j:QE X a ma)(l:QE X b mb)(h:nP b=b8):QE X (.Subscript a b pos) (aC aG ma mb):=
 l9 (OI m j l h) (LS j l h) (gQ λx y n r c=>by
  unfold aG at c;split at c
  ·split at c
   ·rename_i d hc;refine .inl ?_;simp only[qL,hc];exact c
   ·rename_i d hc;refine .inl ?_;simp only[qL,hc];exact c
   ·exact .inr c
  ·exact .inr c)
noncomputable def oP(c:Bool):D->D->Hm->Option (D×Hm):=λx y d=>match qM c x y d with
 |some r=>b4 r|none=>mB c x y d
theorem tZ{c:Bool}(x y:D)(d:Hm)(r:D×Hm)(h:oP c x y d=b4 r):qM c x y d=b4 r\/mB c x y d=b4 r:=by
 unfold oP at h;split at h
 ·rename_i z;rw[z];exact .inl h
 ·exact .inr h
theorem Eb{l:Bool}(x y:D)(m:Hm)(r:D×Hm)(h:dE l x y m=b4 r):(∃i j,x=.str i/\y=.str j)\/oP l x y m=b4 r:=by
 cases y with
 |loc a=>
  refine .inr ?_;have e:dE l x (.loc a) m=(match m[a]? with
   |some (.dT d)=>(cU x).map λk=>(D.bl (if l then !(bP d k).isSome else(bP d k).isSome),m)|some (.dF d)=>(cU x).map λk=>(D.bl (if l then !(bP d k).isSome else(bP d k).isSome),m)
   |_=>mB l x (.loc a) m):=by cases x<;>rfl
  rw[e]at h;unfold oP;simp only[qM];cases hc:m[a]? with
  |none=>rw[hc]at h;exact h|some c=>
   rw[hc]at h;cases c with
   |dT d=>dsimp only at h ⊢;rw[h]|dF d=>dsimp only at h ⊢;rw[h]|_=>exact h
 |str j=>
  cases x with
  |str i=>exact .inl ⟨i,j,rfl,rfl⟩|_=>exact .inr h
 |_=>cases x<;>exact .inr h
theorem Ec(x y:D)(c:Hm)(r:D×Hm)(h:dE b7 x y c=b4 r):xP x y c=b4 r\/oP b7 x y c=b4 r:=by
 rcases Eb x y c r h with⟨i,j,rfl,rfl⟩|z
 ·exact .inl h
 ·exact .inr z
theorem Ed(x y:D)(c:Hm)(r:D×Hm)(h:dE b8 x y c=b4 r):yA x y c=b4 r\/oP b8 x y c=b4 r:=by
 rcases Eb x y c r h with⟨i,j,rfl,rfl⟩|z
 ·exact .inl h
 ·exact .inr z
theorem OR(j:Room k X.A)(c:QE X a ma)(d:QE X b mb)(h:fQ b=b8):QE X (.Compare a [.In] [b] pos) (aC (dE b7) ma mb):=
 l9 ⟨e8 BA CN c.h d.h (iA h)⟩ (l9 ⟨e8 (D6 (fP j)) tY c.h d.h (iA h)⟩ ⟨e8 (Df (sY j)) sW c.h d.h (iA h)⟩ (gQ tZ)) (gQ Ec)
theorem OS(j:Room k X.A)(c:QE X a ma)(d:QE X b mb)(h:fQ b=b8):QE X (.Compare a [.NotIn] [b] pos) (aC (dE b8) ma mb):=
 l9 ⟨e8 BZ Dh c.h d.h (iA h)⟩ (l9 ⟨e8 (D7 (fP j)) tY c.h d.h (iA h)⟩ ⟨e8 (Dg (sY j)) sW c.h d.h (iA h)⟩ (gQ tZ)) (gQ Ed)
theorem OT(j:Room k X.A)(c:QE X a ma)(d:QE X b mb)(h:fQ b=b8):QT X (.Compare a [.In] [b] pos) (aS (aC (dE b7) ma mb)):=
 nQ ⟨fA BA CN c.h d.h (iA h)⟩ (nQ ⟨fA (D6 (fP j)) tY c.h d.h (iA h)⟩ ⟨fA (Df (sY j)) sW c.h d.h (iA h)⟩ (nR (gQ tZ))) (nR (gQ Ec))
theorem OU(j:Room k X.A)(c:QE X a ma)(d:QE X b mb)(h:fQ b=b8):QT X (.Compare a [.NotIn] [b] pos) (aS (aC (dE b8) ma mb)):=
 nQ ⟨fA BZ Dh c.h d.h (iA h)⟩ (nQ ⟨fA (D7 (fP j)) tY c.h d.h (iA h)⟩ ⟨fA (Dg (sY j)) sW c.h d.h (iA h)⟩ (nR (gQ tZ))) (nR (gQ Ed))
theorem OV(m:Room k X.A)(l:QE X o mo)(j:QE X i mi)(d:QE X e me)(h:eH e=b8):QS X (.Assign [.Subscript o i tpos] e pos) (mK mo mi me):=
 Oe (OL m l j d h) (Oi l j d h) (Oj λx y z n r c=>by
  unfold oH at c;split at c
  ·split at c
   ·exact .inl c
   ·exact .inr c
  ·cases c)
end
end L3
namespace L3
open PySem L2
noncomputable def yY(K:VG)(a b:Addr):It:=
 ⟨λi H=>∃c d x y,SqL K H a c/\SqL K H b d/\c[i]?=b4 x/\d[i]?=b4 y,
   λi H z e=>∃p v u,z=.ref p/\H p=b6/\e=aI H p (.tup [v,u])/\(∀c,SqL K H a c->c[i]?=b4 v)/\∀d,SqL K H b d->d[i]?=b4 u,
   λi H=>∃c d,SqL K H a c/\SqL K H b d/\(c.length<=i\/d.length<=i)⟩
theorem OW{P:V6}{w:Wj}{K:VG}{es:List Expr}{kx:Nat}{pt:Xq}{a b z r to m n:Addr}(B:ZipApart z r to m n a b) :
  Turn Qc P w K (.Tuple es kx pt) (yY K a b) [z,r,to,m,n] z (λi h=>IsZip h z r to .none/\IsPair h r (.ref m) (.ref n)/\(∃u v,IsPair h to u v)/\h.IsListIter m a i/\h.IsListIter n b i) where
 mem:=by simp
 obj:=λi h ⟨A,G,⟨u,v,L⟩,M,N⟩ c hc=>by
  have hc':c=z\/c=r\/c=to\/c=m\/c=n:=by simpa using hc
  rcases hc' with rfl|rfl|rfl|rfl|rfl
  ·exact⟨_,A,λq e=>by
    have T:WQ _=a0n q:=e;cases T⟩
  ·exact⟨_,G,λq e=>by
    have T:a3o _ _=a0n q:=e;cases T⟩
  ·exact⟨_,L,λq e=>by
    have T:a3o _ _=a0n q:=e;cases T⟩
  ·obtain⟨o,e1,c,d⟩:=M;exact⟨o,e1,λv e=>by rw[d]at e;cases e⟩
  ·obtain⟨o,e1,c,d⟩:=N;exact⟨o,e1,λv e=>by rw[d]at e;cases e⟩
 keep:=λi h h' ⟨A,G,⟨u,v,L⟩,M,N⟩ k=>⟨k z (by simp) _ A,k r (by simp) _ G,⟨u,v,k to (by simp) _ L⟩,M.at λo e=>k m (by simp) o e,N.at λo e=>k n (by simp) o e⟩;item:=by
  intro X hP hw hK hc i a6G s σ H E I Y ⟨A,G,⟨u,v,L⟩,M,N⟩ hg;subst hP hw hK;obtain⟨xs,ys,x,y,Z,J,R,hy⟩:=hg;obtain⟨its,rv,p,hz⟩:=I.list Z;obtain⟨U,O,p2,hz2⟩:=I.list J;obtain⟨u1,fP,ru1⟩:=rv.get R;obtain⟨u2,hu2,ru2⟩:=O.get hy;refine wpAny_pyNext_zip_item B A G L M N p.isList p2.isList (x:=u1) (y:=u2) (by simpa using fP) (by simpa using hu2) λh1 a1 a2 a3 a4 a5 a6 hk=>⟨_,rfl,wpAny_letOwnedTupleGo_zip a1 λh2 b1 l=>?_⟩;have ne:∀{c o},s.heap.get? c=b4 o->s.heap.objs.size≠c:=λe=>Xr (VR e);have l4:∃o,s.heap.get? m=b4 o:=let⟨o,e,_⟩:=M;⟨o,e⟩;have l5:∃o,s.heap.get? n=b4 o:=let⟨o,e,_⟩:=N;⟨o,e⟩;have ht2:h2.get? s.heap.objs.size=b4 {cls:=.type "tuple",data:=.seq #[u1,u2]}:=(l.2 _ (ne A)).trans a5;have hfr:H s.heap.objs.size=none:=I.hok.fresh (VS _);have g2':IsPair h2 r (.ref m) (.ref n):=(l.2 _ B.TIz).trans (hk _ _ B.TIz B.TITO B.TIi1 B.TIi2 G);refine⟨.ref s.heap.objs.size,aI H s.heap.objs.size (.tup [x,y]),?_,rfl,⟨s.heap.objs.size,x,y,rfl,hfr,rfl,λws hw=>by rw[I.list_inj hw Z];exact R,λws hw=>by rw[I.list_inj hw J];exact hy⟩,
   ⟨b1,g2',⟨_,_,(l.2 _ B.TOz).trans a2⟩,a3.extBut l.extBut B.i1z,a4.extBut l.extBut B.i2z⟩,λc Q=>?_⟩
  ·refine yP (s:=s) (h':=h2) (t':=s.toks) (ch:=[z,r,to,m,n]) I (λc oc Q ec=>?_) Y (VS _) ?_
   ·have j:c≠z/\c≠r/\c≠to/\c≠m/\c≠n:=by simpa using Q
    exact(l.2 c j.1).trans (hk c oc j.1 j.2.2.1 j.2.2.2.1 j.2.2.2.2 ec)
   ·exact⟨by show(2:Nat)<=VW;decide,[u1,u2],.cons ru1 (.cons ru2 .nil),_,ht2,rfl,0,rfl,rfl⟩
  ·have j:c=z\/c=r\/c=to\/c=m\/c=n:=by simpa using Q
   have hn:=(Y c Q).1;rw[aT]
   ·exact hn
   ·rcases j with rfl|rfl|rfl|rfl|rfl
    ·exact(ne A).symm
    ·exact(ne G).symm
    ·exact(ne L).symm
    ·exact(ne l4.choose_spec).symm
    ·exact(ne l5.choose_spec).symm
 done:=by
  intro X hP hw hK hc i a6G s σ H E I Y ⟨A,G,⟨u,v,L⟩,M,N⟩ hg;subst hP hw hK;obtain⟨xs,ys,Z,J,R⟩:=hg;obtain⟨its,rv,p,hz⟩:=I.list Z;obtain⟨U,O,p2,hz2⟩:=I.list J;have hl:=rv.length;have hl2:=O.length;refine wpAny_pyNext_zip_end (I.ok.hd hc) B A G L M N p.isList p2.isList ?_ λh' eb=>⟨rfl,DU (t':=s.toks) (ch:=[z,r,to,m,n]) I (λc o Q e=>?_) Y⟩
  ·rcases R with R|R
   ·exact .inl (by simp;omega)
   ·exact .inr (by simp;omega)
  ·have j:c≠z/\c≠r/\c≠to/\c≠m/\c≠n:=by simpa using Q
   exact eb c o j.1 j.2.2.1 j.2.2.2.1 j.2.2.2.2 e
 self:=λ_ _ _ _ _ ⟨A,_⟩ h=>a5C A h
noncomputable def qN(x y:D):eS:=λa i=>(bF a x).bind λxs=>(bF a y).map λb=>(xs[i]?).bind λd=>(b[i]?).map λe=>.tup [d,e]
noncomputable def qO(ms:MA):MI:=λd c=>(ms d c).bind λp=>match p.1 with
 |[x,y]=>(eK p.2 x).bind λa=>(eK p.2 y).map λb=>(qN x y,min a.length b.length+1,p.2)|_=>b6
theorem Ee{K:VG}{π:Nat->Addr}{l:Hm}{H:Hp}{v:V}{x:D}{xs:List D}(R:Rp K π H l)(h:IsD K π l.length H v x)(m:eK l x=b4 xs):∃p,v=.ref p/\(∃vs,SqL K H p vs) /\
  ∀c a d,Ext π l.length H c a.length d->Rp K c d a->∀j,bF a x=b4 j->∃i,SqL K d p i/\IsDs K c a.length d i j:=by
 obtain⟨p,vs,rfl,u,_⟩:=oB R h m;refine⟨p,rfl,⟨vs,u⟩,λc a d e o j n=>?_⟩;have s:eK a x=b4 j:=by
  cases x with
  |rol z=>exact n|loc b=>exact n|_=>cases m
 obtain⟨y,i,r,w,q⟩:=oB o (h.mono e) s;cases r;exact⟨i,w,q⟩
theorem OX{K:VG}{π:Nat->Addr}{n:Hm}{H:Hp}{v Y:V}{x y:D}{xs ys:List D}(R:Rp K π H n)(h:IsD K π n.length H v x)(h':IsD K π n.length H Y y)(hs:eK n x=b4 xs)(G:eK n y=b4 ys) :
  ∃a b,v=.ref a/\Y=.ref b/\(∃L,SqL K H a L)/\(∃L,SqL K H b L)/\Wk K (yY K a b) (qN x y) π n.length H:=by
 obtain⟨a,rfl,qa,Q⟩:=Ee R h hs;obtain⟨b,rfl,qb,T⟩:=Ee R h' G;refine⟨a,b,rfl,rfl,qa,qb,λj c o i e l z=>?_,λj c o i d e l z=>?_⟩
 ·obtain⟨p,B,z⟩:=VF.mp z;obtain⟨bs,E,z⟩:=VJ.mp z;obtain⟨u,q,w⟩:=Q j c o e l p B;obtain⟨s,r,A⟩:=T j c o e l bs E;refine⟨u,s,q,r,?_⟩;rw[w.length,A.length];cases M:p[i]? with
  |none=>exact .inl (Ws.mp M)|some d=>
   cases m:bs[i]? with
   |none=>exact .inr (Ws.mp m)|some d'=>rw[M,m]at z;cases z
 ·obtain⟨p,B,z⟩:=VF.mp z;obtain⟨bs,E,z⟩:=VJ.mp z;obtain⟨d1',h3,z⟩:=VF.mp z;obtain⟨d2',h4,h5⟩:=VJ.mp z;subst h5;obtain⟨u,q,w⟩:=Q j c o e l p B;obtain⟨s,r,A⟩:=T j c o e l bs E;obtain⟨Z,N,k1⟩:=w.get h3;obtain⟨w2,O,k2⟩:=A.get h4;refine⟨⟨u,s,Z,w2,q,r,N,O⟩,?_⟩;rintro y H2 ⟨t,v1,v2,rfl,hn,rfl,I,J⟩;have U:=I u q;have X:=J s r;rw[N]at U;rw[O]at X;cases U;cases X;obtain⟨m,R2⟩:=l.fresh (o:=.tup [Z,w2]) hn;exact⟨m,R2,.tup (.of bR) (.cons (k1.mono m) (.cons (k2.mono m) .nil))⟩
noncomputable def OY(K:VG)(d:TA):TI:=λσ H R=>d σ H λvs c=>∃a b,vs=[.ref a,.ref b]/\(∃xs,SqL K c a xs)/\(∃e,SqL K c b e)/\R (yY K a b) c
open PyProof.Rows in
theorem OZ{X:Cx}{a b:Expr}{B:TA}{p pos pt:Xq}{es:List Expr}{kx:Nat}(T:Gl X "zip") (Y:X.mg "zip"=b6) (Q:PA X [a,b] B)(hs:Wt [a,b] X.env=(b7,eval a X.env)::Wt [b] X.env)(u:(Yy pos (Wt [b] X.env)).any (·.1)=b7) :
  PI X (.Tuple es kx pt) (.Call (.Name "zip" p) [a,b] [] pos) (OY X.K B):=by
 intro j s E H R I h;refine a6F (i7 I T Y Boot.«zip» (XC (aM (Q pos j s E H _ I h) λus d ⟨vs,x,i,r1,q1⟩=>?_) hs u));obtain⟨n,o,rfl,⟨ws,Z⟩,⟨ws2,r⟩,q⟩:=q1;cases r1 with
 |cons ru v=>
  cases v with
  |cons w v=>
   cases v;cases ru;cases w;obtain⟨its,rv,A,hz⟩:=i.list Z;obtain⟨z,rv2,m,hz2⟩:=i.list r;have la:n<d.heap.objs.size:=let⟨_,e,_⟩:=A.isList;VR e;have lb:o<d.heap.objs.size:=let⟨_,e,_⟩:=m.isList;VR e;refine call_zip_2 A.isList m.isList λO y K L M N hsz U=>a5C y ?_;have G:Inv X j E x {d with heap:=O}:=i.kept (t':=d.toks) U;have J:ZipApart (d.heap.objs.size+4) (d.heap.objs.size+2) (d.heap.objs.size+3) d.heap.objs.size (d.heap.objs.size+1) n o:=by have la':@LT.lt Nat _ n d.heap.objs.size:=la;have lb':@LT.lt Nat _ o d.heap.objs.size:=lb;constructor<;>(show @Ne Nat _ _;omega)
   refine⟨d.heap.objs.size+4,[d.heap.objs.size+4,d.heap.objs.size+2,d.heap.objs.size+3,d.heap.objs.size,d.heap.objs.size+1],_,_,x,rfl,G,OW J,⟨y,K,⟨_,_,L⟩,M,N⟩,λc hc=>?_,q⟩;have l:d.heap.objs.size<=c:=by simp only[Wr,Yr,or_false]at hc;rcases hc with rfl|rfl|rfl|rfl|rfl<;>first|exact Nat.le_add_right _ _|exact VS _
   exact i.fpOk l (i.hok.fresh l)
theorem O0{X:Cx}{a b:Expr}{ms:MA}{n:Nat}{p pos:Xq}(d:Gl X "zip") (e:X.mg "zip"=b6) (o:QA X [a,b] ms n):QJT X (.Call (.Name "zip" p) [a,b] [] pos) (qO ms):=⟨λes Y pt a6G s σ H R I hw=>by
 have h:=o.s;rw[WE,VO,WE,VO]at h;obtain⟨T,U,O,L,Z,Q,r,E,c,k⟩:=hw;obtain⟨⟨x,j⟩,z,c⟩:=VF.mp c;refine OZ d e o.h (fC h.1) (by rw[fC h.2.1];rfl) a6G s σ H R I ⟨T,U,O,x,j,r,E,z,λl vs q w m i=>?_⟩;dsimp only at c;split at c
 ·rename_i x y;obtain⟨xs,A,c⟩:=VF.mp c;obtain⟨ys,B,c⟩:=VJ.mp c;cases c;cases i with
  |cons i M=>
   cases M with
   |cons G N=>cases N;obtain⟨u,v,rfl,rfl,J,K,W⟩:=OX m i G A B;exact⟨u,v,rfl,J,K,k l q _ w m W⟩
 ·cases c⟩
end L3
namespace L3
open PySem L2
section
variable{P:V6}{w:Wj}{A:Wh}{E:Value->VL->Prop}{s:VL}{a:Addr}
theorem O1:YK (.type "tuple") "keys"=pure none:=by rw[typeLookup_type,builtinLookup_eq_fast];kernel_rfl
theorem O2{o:Obj}{xs:Array Value}{k:Nat}{Q:Option Value->VL->Prop}(g:s.heap.get? a=b4 o)(j:o.cls=.type "tuple") (l:o.data=.seq xs k)(m:o.dict=b6)(hA:A.handled=b6)
  (q:∀h n,(∀b u,s.heap.get? b=b4 u->h.get? b=b4 u)->Q b6 {s with heap:=h,toks:=n}):V2 (V8 P w) A (getAttr? (.ref a) "keys") Q E s:=by
 obtain⟨c,r,p,B⟩:=o;dsimp only at j l m;subst j l m;obtain⟨y,x,v,n,z⟩:=s;have ty:∀d,(⟨y,x,v,d,z⟩:VL).TypeIs (.ref a) "tuple":=λ_=>⟨_,g,rfl⟩;have G:=sub_AttributeError;have H:=F.slot_tuple_getattribute.lookup;have I:=F.slot_tuple_getattribute.bind (.ref a);have J:=am_tuple_getattr_none;unfold getAttr? getAttrBy? getAttrBy;repeat (any_goals (first|assumption|exact ty _|((with_reducible show V2 _ _ (call (Xf "tuple.__getattribute__") _ _) _ _ _);refine a1x F.slot_tuple_getattribute (ty _) am_entry_tuple_getattribute (F.args_tuple_getattribute_2 _ _) (meets_getattribute_miss_tuple a xs k B "keys" _ O1 (by decide +kernel)) ⟨g,hA,λh d e ne=>?_⟩)|wp_step))
 obtain⟨K,L,i⟩:=ne.there;show V2 _ _ (a4V _ _ _ _ b6 b7 b7) _ _ _;unfold a4V;repeat (any_goals (first|assumption|wp_step))
 exact q _ _ ne.of.keeps
end
theorem Ef:entryFor table "dict.update.loop"=b4 Builtin.«dict.update.loop»:=entryFor_of_tree (by kernel_rfl)
theorem t5:plainId "dict.update.loop"=true:=by decide +kernel
noncomputable def mM(ps:bL):List (Addr×List Int×Addr×V)->bL
 |[]=>ps|r::L=>mM (eL ps r.2.1 r.2.2.1 r.2.2.2) L
section
variable{X:Cx}{a6G:List (Addr×Obj)}{σ:St}{A:Wh}{E:Value->VL->Prop}{d:Addr}
theorem O3{H:Hp}{s:VL}{b:Addr}{k:List Int}{v:V}{u:Value}{ps:bL}{Q:Unit->VL->Prop}(B:A.units<Xs)(I:Inv X a6G σ H s)(e:H d=b4 (aR d ps))(x:eM X.K H ps)(p:SqT X.K H b (k.map V.int))(hz:ps.length<VW)(K:RelV v u)
  (h:∀j,Inv X a6G σ (aI H d (aR d (eL ps k b v))) j->(∀c o,c≠d->s.heap.get? c=b4 o->j.heap.get? c=b4 o)->Q () j):V2 (V8 X.prog X.w) A (dictSet d (.ref b) u) Q E s:=by
 obtain⟨z,N,L,r,l⟩:=kS I (.of e) x;have G:(bV ps L).length<=VW:=by have:=congrArg Xc (oM r);rw[VI,VI]at this;omega
 refine wpAny_dictSet_heap (hsz:=G) (show(a0g (Za X.prog X.w)).room A from B) (kR I p) l λn i a=>h _ ?_ λc o hc e=>a.extBut c o hc e;obtain⟨M,J,m⟩:=D3 r k b K;rw[m]at i;have w:∃q,n.get? d=b4 q:=let⟨q,_,_,y,_⟩:=i;⟨q,y⟩;exact BQ I (by rw[e];exact YU) a w (yV z (by have:=yU ps k b v;omega) J i)
end
theorem qP{K:VG}{H:Hp}{d b:Addr}{o:HO}{ps:bL}{vs:List V}(e:H d=b4 (aR d ps))(h:SqT K H b vs):SqT K (aI H d o) b vs:=by
 have ne:∀{u},H b=b4 u->(∀c,u≠aR d c)->b≠d:=λz f y=>by rw[y,e]at z;cases z;exact f ps rfl
 rcases h with(h|⟨a,h⟩)|h
 ·exact .inl (.inl (by rw[aT (ne h λ_ z=>by cases z)];exact h))
 ·exact .inl (.inr ⟨a,by rw[aT (ne h λ_ z=>by cases z)];exact h⟩)
 ·exact .inr h
theorem O4{K:VG}{H:Hp}{ps:bL}{k:List Int}{b:Addr}{v:V}(h:eM K H ps)(i:SqT K H b (k.map V.int)):eM K H (eL ps k b v):=by
 intro p a;unfold eL at a;split at a
 ·obtain⟨d,c,e⟩:=Wm.mp a;by_cases z:d.1=k
  ·rw[if_pos z]at e;subst e;exact h d c
  ·rw[if_neg z]at e;subst e;exact h d c
 ·rcases Xa.mp a with a|a
  ·exact h p a
  ·rw[WL.mp a];exact i
theorem Eg{H:Hp}{d:Addr}{o a:HO}:aI (aI H d o) d a=aI H d a:=by
 funext b;unfold aI;split
 ·rfl
 ·rfl
theorem O5{P:V6}{w:Wj}{A:Wh}{E:Value->VL->Prop}{s:VL}{p:Addr}{xs:Array Value}{Q:List Value->VL->Prop}(h:a5A s.heap p xs)(q:Q xs.toList s):V2 (V8 P w) A (a1u (.ref p)) Q E s:=by obtain⟨o,g,c,n,a⟩:=h;have ty:s.TypeIs (.ref p) "tuple":=⟨o,g,c⟩;unfold a1u;refine VH (a1I ty ?_);rw[if_pos (by decide)];unfold ZX;refine VH (VH (a2N g ?_));rw[a];exact VQ (VQ q)
section
variable{X:Cx}{a6G:List (Addr×Obj)}{σ:St}{A:Wh}{d t it:Addr}{ys:List V}{R:a2l->VL->Prop}
theorem O6(hh:A.handled=b6)(hu:A.in1.units<Xs):∀(L:List (Addr×List Int×Addr×V))(i:Nat)(ps:bL)(H:Hp)(s:VL),Inv X a6G σ H s->H d=b4 (aR d ps)->eM X.K H ps->SqT X.K H t ys->ys.drop i=L.map (λr=>V.ref r.1)->
  (∀r∈L,SqT X.K H r.1 [.ref r.2.2.1,r.2.2.2]/\SqT X.K H r.2.2.1 (r.2.1.map V.int))->gG X a6G H it->s.heap.IsTupleIter it t i->ps.length+L.length<=VW->
  (∀J,Inv X a6G σ (aI H d (aR d (mM ps L))) J->R (.ok (.ret .none)) J)->Z2 (V8 X.prog X.w) A (.builtin "dict.update.loop" ⟨[.ref d,.ref it,X2 i,.none],[]⟩) R s:=by
 intro L;induction L with
 |nil=>
  intro i ps H s I e Q B hd E O st U q;obtain⟨h,rv,p,Y⟩:=I.tuple B;obtain⟨l,n,f2,v,w,y⟩:=O;have hl:=rv.length;have hlen:ys.length<=i:=by have:=congrArg Xc hd;simp at this;omega
  refine W8 Ef ?_;rw[Wx t5 _];show V2 _ A.in1 (YL (.ref it) >>= _) _ _ s;refine VH (a3M hh st (show s.heap.IsTuple t h.toArray from p) (by simp;omega) λK eb=>?_);have m:Inv X a6G σ H {s with heap:=K}:=I.turned (t':=s.toks) (λb o M e=>eb b o M e) l n v w y;show V2 _ _ (a6s d [] >>= _) _ _ _;refine VH (VQ (VQ (q _ ?_)));have:aI H d (aR d (mM ps []))=H:=by
   funext b;unfold aI;split
   ·rename_i z;rw[z];exact e.symm
   ·rfl
  rw[this];exact m
 |cons r L ih=>
  intro i ps H s I e Q B hd E O st U q;obtain⟨h,rv,p,Y⟩:=I.tuple B;obtain⟨l,n,f2,v,w,y⟩:=id O;have G:ys[i]?=b4 (.ref r.1):=by have:=congrArg (·[0]?) hd;simpa using this
  obtain⟨u,fP,ru⟩:=rv.get G;cases ru;refine W8 Ef ?_;rw[Wx t5 _];show V2 _ A.in1 (YL (.ref it) >>= _) _ _ s;refine VH (a3z st (show s.heap.IsTuple t h.toArray from p) (x:=.ref r.1) (by simpa using fP) λK st' sb=>?_);have m:Inv X a6G σ H {s with heap:=K}:=I.turned (t':=s.toks) (λb o M e=>(sb.2 b M).trans e) l n v w y;have a:=E r (WS ..);obtain⟨its2,rv2,p2,_⟩:=m.tuple a.1;cases rv2 with
  |cons rk Z=>
   cases Z with
   |cons rw' Z=>
    cases Z;cases rk;rename_i w0;refine VH (WN (VH (XR (O5 p2 ?_))));have T:ps.length<VW:=by rw[Wc]at U;omega
    refine WN (O3 hu m e Q a.2 T rw' λJ I2 kp=>?_);refine VQ ⟨Xm t5 _,?_⟩;have bD:it≠d:=λz=>by rw[<- z,l]at e;cases e
    have c:∀x∈L,SqT X.K (aI H d (aR d (eL ps r.2.1 r.2.2.1 r.2.2.2))) x.1 [.ref x.2.2.1,x.2.2.2]/\SqT X.K (aI H d (aR d (eL ps r.2.1 r.2.2.1 r.2.2.2))) x.2.2.1 (x.2.1.map V.int):=λx G=>⟨qP e (E x (Wn _ G)).1,qP e (E x (Wn _ G)).2⟩;have N:ys.drop (i+1)=L.map (λr=>V.ref r.1):=by have:=congrArg List.tail hd;simpa[List.tail_drop]using this
    refine ih (i+1) (eL ps r.2.1 r.2.2.1 r.2.2.2) _ J I2 bR (O4 (λp hp=>qP e (Q p hp)) (qP e a.2)) (qP e B) N c ⟨by rw[aT bD];exact l,n,f2,v,w,y⟩ (st'.at λo ho=>kp it o bD ho) ?_ λs'' j=>q s'' ?_
    ·have:=yU ps r.2.1 r.2.2.1 r.2.2.2;rw[Wc]at U;omega
    ·rw[Eg]at j;exact j
end
section
variable{X:Cx}
noncomputable def Eh(K:VG):List V->Hp->VK->Prop:=λxs H Q=>∃(t:Addr)(L:List (Addr×List Int×Addr×V)),xs=[V.ref t]/\SqT K H t (L.map λr=>V.ref r.1) /\
 (∀r∈L,SqT K H r.1 [.ref r.2.2.1,r.2.2.2]/\SqT K H r.2.2.1 (r.2.1.map V.int))/\∀d,H d=b6->Q (.ref d) (aI H d (aR d (mM [] L)))
theorem O7(hc:X.calm=b8)(Y:X.A.units+64<Xs):CallR X (.type "dict") (Eh X.K):=by
 intro d s N H xs us Q I r h;obtain⟨t,L,rfl,w,M,k⟩:=h;obtain⟨u,rfl,ru⟩:=i8 r;cases ru;have K:H s.heap.objs.size=none:=I.hok.fresh (VS _);refine callType_codes (Q₁:=λj c=>j=.ref s.heap.objs.size/\c={s with heap:=s.heap.push {cls:=.type "dict",data:=.dict #[]}}) F.kt_called_dict (F.kt_typeCall_dict_1 _) F.entry_dict_init (kt_code_dict_new _ ⟨rfl,rfl⟩) ?_;rintro j c ⟨rfl,rfl⟩;have E:Inv X d N (aI H s.heap.objs.size (aR s.heap.objs.size [])) {s with heap:=s.heap.push {cls:=.type "dict",data:=.dict #[]}}:=I.laid (a:=s.heap.objs.size) (o:=aR s.heap.objs.size []) (t':=s.toks) (λ_ _ q=>VM _ q) (VS _) (D4 s.heap I.big);have ty:({s with heap:=s.heap.push {cls:=.type "dict",data:=.dict #[]}}:VL).TypeIs (.ref s.heap.objs.size) "dict":=⟨_,VX _ rfl,rfl⟩;refine⟨ty,F.args_dict_init_2 _ _,?_⟩;unfold Builtin.«dict.__init__»;refine VH ?_;unfold a6o;refine VH (a0O ty ?_);show V2 _ _ (pure (s.heap.objs.size,[VU t])) _ _ _;refine VQ ?_;show V2 _ _ (a1l "dict.__init__" s.heap.objs.size (.ref t) [] .none) _ _ _;unfold a1l;have mono:∀{b:Addr}{vs:List V},SqT X.K H b vs->SqT X.K (aI H s.heap.objs.size (aR s.heap.objs.size [])) b vs:=λ{b vs} z=>by
  have ne:H b≠b6->b≠s.heap.objs.size:=λf y=>by rw[y]at f;exact f K
  rcases z with(z|⟨A,z⟩)|z
  ·exact .inl (.inl (by rw[aT (ne (by rw[z];exact λy=>nomatch y))];exact z))
  ·exact .inl (.inr ⟨A,by rw[aT (ne (by rw[z];exact λy=>nomatch y))];exact z⟩)
  ·exact .inr z
 obtain⟨Z,rv,A,G,J,n,R,T⟩:=E.tupN (mono w);refine VH (a1I ⟨A,G,J⟩ ?_);rw[if_pos (by decide)];refine VH (O2 G J R T (I.ok.hd hc) λv m kp=>?_);have l:Inv X d N (aI H s.heap.objs.size (aR s.heap.objs.size [])) {s with heap:=v,toks:=m}:=E.kept (t':=m) kp;show V2 _ _ (rule _ >>= _) _ _ _;refine VH (a1v ?_);obtain⟨a,rv',p',x⟩:=l.tuple (mono w);refine VH (YJ (t:=t) (items:=a.toArray) (show({s with heap:=v,toks:=m}:VL).heap.IsTuple t a.toArray from p') ?_);have O:=l.kept (t':=m) (h':=v.push {cls:=.type "tuple_iterator",data:=.fields #[.ref t,.int 0 0]}) λb o e=>VM _ e;refine VQ ⟨Xm t5 _,?_⟩;refine O6 (A:=X.A.in1) (I.ok.hd hc) ?_ L 0 [] _ _ O bR (λp U=>nomatch U) (mono w) rfl (λr i=>⟨mono (M r i).1,mono (M r i).2⟩) (l.fpOk (VS _) (l.hok.fresh (VS _))) ⟨_,VX _ rfl,rfl,rfl⟩ ?_ λs' B=>?_
 ·show X.A.units+1+1<Xs;omega
 ·have:=x;simp at this ⊢;exact this
 ·rw[Eg]at B;exact⟨rfl,.ref s.heap.objs.size,_,B,rfl,k _ K⟩
end
noncomputable def oQ:List D->Option (List (List Int×D))
 |[]=>b4 []|.tup [x,v]::r=>(cU x).bind λk=>(oQ r).map λl=>(k,v)::l|_::_=>b6
noncomputable def mO:MF:=λds a=>match ds with
 |[.tup xs]=>(oQ xs).map λl=>(.loc a.length,a++[.dT (l.foldl (λq p=>d8 q p.1 p.2) [])])|_=>b6
section
variable{K:VG}{π:Nat->Addr}{n:Nat}{H:Hp}
noncomputable abbrev Ei(K:VG)(π:Nat->Addr)(n:Nat)(H:Hp):List (Addr×List Int×Addr×V)->List (List Int×D)->Prop:=
 Zj λr p=>r.2.1=p.1/\SqT K H r.1 [.ref r.2.2.1,r.2.2.2]/\SqT K H r.2.2.1 (r.2.1.map V.int)/\IsD K π n H r.2.2.2 p.2
theorem Ej:∀{xs:List D}{ws:List V}{l:List (List Int×D)},IsDs K π n H ws xs->oQ xs=b4 l->∃L,ws=L.map (λr=>V.ref r.1)/\Ei K π n H L l
 |[],_,_,.nil,h=>by cases h;exact⟨[],rfl,.nil⟩
 |x::xs,_,l,.cons i t,h=>by
  unfold oQ at h;split at h
  ·rename_i a;cases a
  ·rename_i y v r a;cases a;obtain⟨k,d,h⟩:=VF.mp h;obtain⟨o,e,rfl⟩:=VJ.mp h;obtain⟨L,rfl,P⟩:=Ej t e;cases i with
   |tup q z=>
    cases z with
    |cons j z=>
     cases z with
     |cons m z=>cases z;obtain⟨b,rfl,c⟩:=oN j d;exact⟨(_,k,b,_)::L,rfl,.cons ⟨rfl,q,c,m⟩ P⟩
  ·cases h
theorem Ek:∀{L:List (Addr×List Int×Addr×V)}{l:List (List Int×D)},Ei K π n H L l->∀{ps:bL}{kvs:List (List Int×D)},IsTs K π n H ps kvs->IsTs K π n H (mM ps L) (l.foldl (λq p=>d8 q p.1 p.2) kvs)
 |_,_,.nil,_,_,h=>h|r::L,p::l,.cons e t,ps,kvs,h=>by obtain⟨a,_,b,c⟩:=e;show IsTs K π n H (mM (eL ps r.2.1 r.2.2.1 r.2.2.2) L) (l.foldl _ (d8 kvs p.1 p.2));rw[<- a];exact Ek t (h.put r.2.1 b c)
end
theorem O8{K:VG}:dZ K mO (Eh K):=by
 intro x H w o d s v Q R i a k;unfold mO at a;split at a
 ·rename_i o;obtain⟨l,c,m⟩:=VJ.mp a;cases m;cases i with
  |cons i t=>
   cases t;cases i with
   |tup q z=>
    obtain⟨L,rfl,P⟩:=Ej z c;refine⟨_,L,rfl,q,?_,λd hd=>?_⟩
    ·clear q z k a c;induction P with
     |nil=>exact λr b=>nomatch b|cons e t n=>
      intro r b;rcases Wr.mp b with rfl|b
      ·exact⟨e.2.1,e.2.2.1⟩
      ·exact n r b
    ·have T:=Ek P (ps:=[]) (kvs:=[]) .nil;obtain⟨j,h,u⟩:=R.alloc (c:=.dT (l.foldl (λq p=>d8 q p.1 p.2) [])) (o:=aR d (mM [] L)) hd ⟨_,rfl,T.to.1,T.to.2.1,T.to.2.2⟩;exact k _ _ _ j h lV
 ·cases a
end L3
namespace L3
open PySem L2
noncomputable def ItI(h:WI)(c d S:Addr)(i n ep:Nat):Prop:=∃(b ok j:Value)(e:Bool),h.get? c=b4 {cls:=.type "dict_itemiterator",dict:=b6,data:=.fields #[b,.bool e,.ref d,.int i 0,.int n 0,.int ep 0,ok,j],slots:=#[]} /\
 (b=.none\/∃(a:Addr)(o:Obj),b=X2 a/\h.get? a=b4 o/\a≠c/\a≠S)
theorem ItI.ty{s:VL}{a d S:Addr} {i n ep} (j:ItI s.heap a d S i n ep):s.TypeIs (.ref a) "dict_itemiterator":=let⟨_,_,_,_,e,_⟩:=j;⟨_,e,rfl⟩
theorem ItI.stay{h h':WI}{c d S:Addr} {i n ep} (j:ItI h c d S i n ep)(p:c≠S)(k:∀b o,b≠S->h.get? b=b4 o->h'.get? b=b4 o):ItI h' c d S i n ep:=by
 obtain⟨w,ok,q,m,e,r⟩:=j;refine⟨w,ok,q,m,k _ _ p e,?_⟩;rcases r with r|⟨a,o,s,u,v,l⟩
 ·exact .inl r
 ·exact .inr ⟨a,o,s,k _ _ l u,v,l⟩
section
variable{P:V6}{w:Wj}{A:Wh}{E:Value->VL->Prop}{s:VL}{d it S:Addr}{i ep:Nat}{es:Array DictEntry}
theorem yZ{p ok H:Value}{M:Bool}{Q:Option Value->VL->Prop}(hh:A.handled=b6)(B:s.heap.get? it=b4 {cls:=.type "dict_itemiterator",dict:=b6,data:=.fields #[p,.bool M,.ref d,.int i 0,.int es.size 0,.int ep 0,ok,H],slots:=#[]}) (jr:p=.none\/∃(a:Addr)(o:Obj),p=X2 a/\s.heap.get? a=b4 o/\a≠it/\a≠S)(g:RawD s.heap d es ep)(hS:S<s.heap.objs.size)
  (q1:∀e j,es[i]?=b4 e->ItI j it d S (i+1) es.size ep->(p=.none->a1s j it d (i+1) es.size ep e.key e.val s.heap.objs.size)->j.get? s.heap.objs.size=b4 {cls:=.type "tuple",data:=.seq #[e.key,e.val]}->j.objs.size=s.heap.objs.size+1->(∀b o,b≠it->s.heap.get? b=b4 o->j.get? b=b4 o)->Q (b4 (.ref s.heap.objs.size)) {s with heap:=j})
  (q2:es[i]?=b6->∀j,a0H it s.heap j->Q b6 {s with heap:=j}):V2 (V8 P w) A (YL (.ref it)) Q E s:=by
 obtain⟨z,g1,g2,g3⟩:=id g;have ty:s.TypeIs (.ref it) "dict_itemiterator":=⟨_,B,rfl⟩;obtain⟨c,y,r,I,G⟩:=s;have U:∀{Q:String->VL->Prop}{A:Wh}{E:Value->VL->Prop},Q "dict_itemiterator" ⟨c,y,r,I,G⟩->V2 (V8 P w) A (a5V (.ref it)) Q E ⟨c,y,r,I,G⟩:=λq=>wpAny_typeNameOfWhole_itemiter ty q;unfold YL;refine VH (wpAny_attempt (a3A (name:=X9 "__next__") ty F.slot_dict_itemiterator_next (XX F.slot_dict_itemiterator_next ty F.entry_dict_itemiterator_next ?_ (F.args_dict_itemiterator_next_1 _))));refine VH (VQ (VH (VH (VH (U (VQ (VH (a6u B rfl ?_))))))));simp only[show Y9 "dict_itemiterator"=b8 by decide,if_true];show V2 _ _ (if(VU d==WJ)=b8 then _ else _) _ _ _;rw[if_neg (show ¬ (VU d==WJ)=b8 from λx=>VZ x)];refine VH (VQ (VH (ZG g1 g3 ?_)));rw[if_neg (λx=>by simp at x)];refine VH (VQ (VH (a0L g1 g3 ?_)));rw[if_neg (λx=>by simp at x)];refine VQ ?_;simp only[if_neg (show ¬ ((i:Int)<0) by omega),XN];have T:it<c.objs.size:=VR B;cases he:es[i]? with
 |some e=>
  refine VH (VH (U (VQ (VH (a0I ty ?_)))));show V2 _ _ (a2Q (.ref it) 3 (X2 ((i:Int)+1)) >>= _) _ _ _;refine VH (YI B (by simp) λu O R=>?_);replace R:Zw it c u:=R;replace O:u.get? it=b4 {cls:=.type "dict_itemiterator",dict:=b6,data:=.fields #[p,.bool M,.ref d,.int ((i+1:Nat):Int) 0,.int es.size 0,.int ep 0,ok,H],slots:=#[]}:=by rw[show((i+1:Nat):Int)=(i:Int)+1 by omega];simpa[X2]using O
  have J:Shared.TypeIs ⟨u,y,r,I,G⟩ (.ref it) "dict_itemiterator":=⟨_,O,rfl⟩;refine VH (WN (VH (a0I J (VH (a0I J ?_)))));show V2 _ _ (a0i (.ref it) 6 e.key e.val) _ _ _;unfold a0i;refine VH (a2M ?_);have zu:u.objs.size=c.objs.size:=R.1;have l:=VM {cls:=.type "tuple",data:=.seq #[e.key,e.val]} O;have Z:(u.push {cls:=.type "tuple",data:=.seq #[e.key,e.val]}).get? c.objs.size=b4 {cls:=.type "tuple",data:=.seq #[e.key,e.val]}:=zu▸VX u rfl;have vz:(u.push {cls:=.type "tuple",data:=.seq #[e.key,e.val]}).objs.size=c.objs.size+1:=by rw[XW,zu]
  have K:∀b o,b≠it->c.get? b=b4 o->(u.push {cls:=.type "tuple",data:=.seq #[e.key,e.val]}).get? b=b4 o:=λb o N x=>VM _ (R.extBut b o N x);show V2 _ _ (Z9 (.ref it) >>= _) _ _ ⟨u.push {cls:=.type "tuple",data:=.seq #[e.key,e.val]},y,r,I,G⟩;rw[zu];generalize u.push {cls:=.type "tuple",data:=.seq #[e.key,e.val]}=v at l Z vz K;have h:c.objs.size≠it:=Xr T;have fin:∀m:WI,ItI m it d S (i+1) es.size ep->(p=.none->a1s m it d (i+1) es.size ep e.key e.val c.objs.size)->Zw it v m->Q (b4 (.ref c.objs.size)) ⟨m,y,r,I,G⟩:=λm j' jo Y=>q1 e m he j' jo (Y.extBut _ _ h Z) (by show m.objs.size=_;rw[Y.1,vz]) λb o N x=>Y.extBut b o N (K b o N x);refine VH ?_;unfold Z9;rcases jr with rfl|⟨a,o,rfl,X,n,r4⟩
  ·refine VH (Yo l rfl (x:=.none) rfl (VQ ?_));simp only[if_true];refine VH (Yo l rfl (x:=ok) rfl (VH (Yo l rfl (x:=H) rfl ?_)));refine VH (YI l (by simp) λv3 x3 L=>VH (YI x3 (by simp) λv4 x4 y4=>VH (YI x4 (by simp) λv5 x5 y5=>VH (YI x5 (by simp) λv6 x6 y6=>?_))));have x7:a1s v6 it d (i+1) es.size ep e.key e.val c.objs.size:=x6;refine VH (Yn (VQ (VQ ⟨_,rfl,VQ (fin v6 ?_ (λ_=>x7) ?_)⟩)))
   ·refine⟨X2 c.objs.size,e.key,e.val,b7,x7,.inr ⟨c.objs.size,_,rfl,y6.extBut _ _ h (y5.extBut _ _ h (y4.extBut _ _ h (L.extBut _ _ h Z))),h,Xr hS⟩⟩
   ·exact((L.trans y4).trans y5).trans y6
  ·refine VH (Yo l rfl (x:=X2 a) rfl ?_);show V2 _ _ (loadIfAlive ((a:Int).toNat) >>= _) _ _ _;rw[XN];refine VH (PySem.W.kdx_alive (K a o n X) ?_);simp only[Option.isNone_some,Wq,if_false];refine VH (Yo l rfl (x:=.bool M) rfl ?_);cases M with
   |true=>rw[if_neg (show ¬ ((XE b8 != XE b8)=b8)from λx=>VZ x)];refine VQ ?_;simp only[Wq,if_false];exact VQ (VQ ⟨_,rfl,VQ (fin v ⟨_,ok,H,b8,l,.inr ⟨a,o,rfl,K a o n X,n,r4⟩⟩ (λz=>nomatch z) (a2o _ _))⟩)|false=>rw[if_pos (show(XE b7 != XE b8)=b8 from rfl)];refine VH (YI l (by simp) λv3 x3 L=>VQ ?_);simp only[Wq,if_false];exact VQ (VQ ⟨_,rfl,VQ (fin v3 ⟨_,ok,H,b8,by simpa using x3,.inr ⟨a,o,rfl,L.extBut a o n (K a o n X),n,r4⟩⟩ (λz=>nomatch z) L)⟩)
 |none=>refine VH (VH (U (VQ ?_)));show V2 _ _ (a2Q (.ref it) 2 .none >>= _) _ _ _;refine VH (Y5 B rfl (by simp) ?_);show V2 _ _ (a6z (.type "StopIteration") [] >>= _) _ _ _;simp only[a6z,a4C];refine VH (VH (W7 ?_ (by size_fits)));refine VH (m:=a0X _ _) (a2r (a:=WJ) (by first|rfl|(simp only[a0X];rfl)) (W7 ?_ (by size_fits)));simp only[raiseNew];refine VH (wpAny_handled ?_);rw[show A.in1.handled=b6 from hh];refine VH (VQ (wpAny_throw ?thrown));case thrown=>exact VH (a2e (T:="StopIteration") (b:=b8) ⟨_,VX _ rfl,rfl⟩ a6D (VQ (q2 he _ (((a0m ..).extBut.push _).push _))))
theorem Em{r:Addr}{Q:Value->VL->Prop}(a:s.heap.IsItemsView r d)(g:RawD s.heap d es ep)
  (q:Q (.ref s.heap.objs.size) {s with heap:=s.heap.push {cls:=.type "dict_itemiterator",data:=.fields #[.none,.bool b7,.ref d,.int 0 0,.int es.size 0,.int ep 0,.none,.none]}}):V2 (V8 P w) A (a2h (.ref r)) Q E s:=by
 obtain⟨y,e,l,h⟩:=id a;obtain⟨z,b,j,c⟩:=id g;refine a5h a.typeIs F.slot_dict_items_iter (XX F.slot_dict_items_iter a.typeIs F.entry_dict_items_iter ?_ (F.args_dict_items_iter_1 _));unfold Builtin.«dict_items.__iter__» a4z a4y;refine VH (VQ (VH (VH (Yo e h (x:=.ref d) rfl (VQ (VH (VH (ZG b c (VH (a0L b c ?_))))))))));simp only[show Y9 "dict_itemiterator"=b8 by decide,if_true];refine W7 (VQ ⟨_,rfl,"dict_itemiterator",_,⟨_,VX _ rfl,rfl⟩,F.slot_dict_itemiterator_next.lookup,?_⟩) (by simp only[sizeOk,a0a,V7,V1,Wc,YB];rw[V9];omega);simpa[X2,a0a]using q
end
structure PrsAt(es:Array DictEntry)(lo:Addr)(h:WI)(as:List Addr):Prop where
 up:as.Pairwise (·<·)
 over:∀a∈as,lo<a
 prs:∀(j:Nat)(a:Addr),as[j]?=b4 a->∃e,es[j]?=b4 e/\h.get? a=b4 {cls:=.type "tuple",data:=.seq #[e.key,e.val]}
theorem PrsAt.stay{es:Array DictEntry}{lo:Addr}{h h':WI}{as:List Addr}(p:PrsAt es lo h as)(k:∀b o,lo<b->h.get? b=b4 o->h'.get? b=b4 o):PrsAt es lo h' as:=
 ⟨p.up,p.over,λj a c=>let⟨e,d,i⟩:=p.prs j a c;⟨e,d,k a _ (p.over a (WO c)) i⟩⟩
theorem PrsAt.lt{es:Array DictEntry}{lo:Addr}{h:WI}{as:List Addr}(p:PrsAt es lo h as){a:Addr}(b:a∈as):a<h.objs.size:=by obtain⟨j,c⟩:=YG.mp b;obtain⟨_,_,e⟩:=p.prs j a c;exact VR e
theorem PrsAt.snoc{es:Array DictEntry}{lo:Addr}{h:WI}{as:List Addr}{b:Addr}{e:DictEntry}(p:PrsAt es lo h as)(m:∀a∈as,a<b)(o:lo<b)(n:es[as.length]?=b4 e)(q:h.get? b=b4 {cls:=.type "tuple",data:=.seq #[e.key,e.val]}):PrsAt es lo h (as++[b]):=by
 refine⟨a3g.mpr ⟨p.up,List.pairwise_singleton _ _,λa d c hc=>by rw[WL.mp hc];exact m a d⟩,λa d=>?_,λj a i=>?_⟩
 ·rcases Xa.mp d with d|d
  ·exact p.over a d
  ·rw[WL.mp d];exact o
 ·rcases Zz j as.length with l|l|l
  ·rw[Ww l]at i;exact p.prs j a i
  ·subst l;have:b=a:=by simpa using i
   subst this;exact⟨e,n,q⟩
  ·rw[ZE (by simp;omega)]at i;cases i
section
variable{P:V6}{w:Wj}{A:Wh}{s:VL}{R:a2l->VL->Prop}{es:Array DictEntry}{ep:Nat}{S I d:Addr}
theorem O9(T:A.handled=b6)(v:S<I)(J:d≠S)(H:d≠I)(hn:es.size<=VW)(res:Value){h1:WI}
  (U:∀(h':WI)(tk:Nat)(j:Array Value)(c:Nat)(as:List Addr),(∀b o,b≠S->b≠I->h1.get? b=b4 o->h'.get? b=b4 o)->h'.get? S=b4 {cls:=.type "list",dict:=b6,data:=.seq j c,slots:=#[]}->as.length=es.size->PrsAt es I h' as->j.toList=as.map VU->R (.ok (.ret res)) {s with heap:=h',toks:=tk}) :
  ∀(k i:Nat)(h:WI)(tk c:Nat)(j:Array Value)(as:List Addr),es.size-i=k->i<=es.size->ItI h I d S i es.size ep->RawD h d es ep->(∀b o,b≠S->b≠I->h1.get? b=b4 o->h.get? b=b4 o)->h.get? S=b4 {cls:=.type "list",dict:=b6,data:=.seq j c,slots:=#[]}->
   j.toList=as.map VU->as.length=i->PrsAt es I h as->I<h.objs.size->Z2 (V8 P w) A (.builtin "list.extend.loop" ⟨[.ref S,.ref I,res],[]⟩) R {s with heap:=h,toks:=tk}:=by
 have ne:S≠I:=V4 v;intro k;induction k with
 |zero=>intro i h tk c j as Y X ⟨_,_,_,_,M,N⟩ g O n E y G lt;refine W8 F.entry_extend_loop ?_;rw[Wx F.plain_extend_loop _];refine VH (m:=YL (.ref I)) (yZ (s:={s with heap:=h,toks:=tk}) (A:=A.in1) T M N g (VR n) (λe h' m=>?_) λ_ h' x=>VQ (U h' tk j c as (λb o B r z=>x b o r (O b o B r z)) (x S _ ne n) (by omega) (G.stay λb o p z=>x b o (Xr p) z) E));rw[Array.getElem?_eq_none (by omega)]at m;cases m|succ k ih=>
  intro i h tk c j as Y X ⟨_,_,_,_,M,N⟩ g O n E y G lt;have sz:j.size=i:=by rw[<- Y1,E,VI,y]
  refine W8 F.entry_extend_loop ?_;rw[Wx F.plain_extend_loop _];refine VH (m:=YL (.ref I)) (yZ (s:={s with heap:=h,toks:=tk}) (A:=A.in1) T M N g (VR n) (λe h' m j' _ L Z l=>?_) λm=>?_)
  ·dsimp only at L Z l ⊢;have u:=l S _ ne n;have Q:S<h.objs.size:=VR n;have q:∀b o,b≠S->h'.get? b=b4 o->(h'.update S (WU (·.push (VU h.objs.size)))).get? b=b4 o:=λb o p z=>(Wi _ _ (WG p)).trans z;refine VH (m:=a0f S (·.push (VU h.objs.size))) (Xz u rfl (VQ ⟨Xm F.plain_extend_loop _,?_⟩) (by rw[sz];omega) (by show(j.push (VU h.objs.size)).size<=VW+1;rw[Array.size_push,sz];omega));refine ih (i+1) _ tk _ (j.push (VU h.objs.size)) (as++[h.objs.size]) (by omega) (by omega) (j'.stay (WG ne) q) (g.stay λo z=>q d o J (l d o H z)) (λb o B r z=>q b o B (l b o r (O b o B r z))) (WH _ u rfl) (by rw[Array.toList_push,E,Wz];rfl) (by rw[V1,y];rfl) ?_ ?_
   ·exact((G.stay λb o p z=>q b o (Xr (YZ v p)) (l b o (Xr p) z))).snoc (λa K=>G.lt K) lt (by rw[y];exact m) (q _ _ (Xr Q) L)
   ·exact YZ lt (VR (q _ _ (Xr Q) L))
  ·rw[a2d (by omega)]at m;cases m
theorem Pa{r:Addr}{res:Value}{c0:Nat}(L:A.handled=b6)(u:s.heap.IsItemsView r d)(g:RawD s.heap d es ep)(G:S≠r)(z:d≠S)(E:s.heap.get? S=b4 {cls:=.type "list",data:=.seq #[] c0}) (N:es.size<=VW)
  (J:∀(h':WI)(tk:Nat)(l:Array Value)(c:Nat)(as:List Addr),(∀b o,b≠S->s.heap.get? b=b4 o->h'.get? b=b4 o)->h'.get? S=b4 {cls:=.type "list",dict:=b6,data:=.seq l c,slots:=#[]}->as.length=es.size->PrsAt es s.heap.objs.size h' as->l.toList=as.map VU->R (.ok (.ret res)) {s with heap:=h',toks:=tk}) :
  V2 (V8 P w) A.in1 (a0R (.ref S) (.ref r) res) (λfin p=>match fin with|.done f=>R (.ok f) p|.again c'=>c'.quiet=b8/\Z2 (V8 P w) A c' R p) (λe p=>R (.error e) p) s:=by
 have y:S<s.heap.objs.size:=VR E;have H:d<s.heap.objs.size:=g.lt;have run:∀(h:WI)(q tk:Nat),(∀b o,b≠S->(s.heap.push {cls:=.type "dict_itemiterator",data:=.fields #[.none,.bool b7,.ref d,.int 0 0,.int es.size 0,.int ep 0,.none,.none]}).get? b=b4 o->h.get? b=b4 o)->h.get? S=b4 {cls:=.type "list",data:=.seq #[] q}->
   Z2 (V8 P w) A (.builtin "list.extend.loop" ⟨[.ref S,.ref s.heap.objs.size,res],[]⟩) R {s with heap:=h,toks:=tk}:=by
  intro h q tk v i;have B:=v s.heap.objs.size _ (Xr y) (VX _ rfl);exact O9 (s:=s) (h1:=s.heap) (ep:=ep) L y z (V4 H) N res (λh' x l c as Q T U X Y=>J h' x l c as (λb o m e=>Q b o m (V4 (VR e)) e) T U X Y) es.size 0 h tk q #[] [] (a5L _) (Yb _)
   ⟨.none,.none,.none,b7,B,.inl rfl⟩ (g.stay λo e=>v d o z (VM _ e)) (λb o m _ e=>v b o m (VM _ e)) i rfl rfl ⟨a2a,λ_ K=>(by cases K),λj a M=>(by simp at M)⟩ (VR B)
 unfold a0R;refine VH (a1I (T:="dict_items") u.typeIs ?_);simp only[show a1e (.ref S) (.ref r)=b7 by simp[a1e,G],show(Wa "dict_items"==Wa "list")=b7 by decide,show(Wa "dict_items"==Wa "tuple")=b7 by decide,a2x,Wq,if_false];refine VH (Em u g ?_);have i:=VM {cls:=.type "dict_itemiterator",data:=.fields #[.none,.bool b7,.ref d,.int 0 0,.int es.size 0,.int ep 0,.none,.none]} E;refine VH (WN (PySem.W.kdx_hint (let⟨o,O,hc,_⟩:=u;⟨o,VM _ O,hc⟩) ?_));refine wpAny_ite_split (λ_=>?_) (λ_=>VQ ⟨Xm F.plain_extend_loop _,run _ c0 _ (λb o _ e=>e) i⟩);refine VH (a1v (VH ?_));refine VH (m:=a0f S (·.push .none)) (Xz i rfl ?_);have n:=WH (WU (·.push WJ)) i rfl;refine Xz (hz:=by seq_fits) n rfl (VQ ⟨Xm F.plain_extend_loop _,run _ _ _ (λb o m e=>?_) (WH (WU (·.pop)) n rfl)⟩);exact(Wi _ _ (WG m)).trans ((Wi _ _ (WG m)).trans e)
theorem Pb{r:Addr}{E:Value->VL->Prop}{T:List Value->VL->Prop}(H:A.handled=b6)(v:s.heap.IsItemsView r d)(g:RawD s.heap d es ep)(J:es.size<=VW)
  (q:∀(h':WI)(tk:Nat)(as:List Addr),(∀b o,s.heap.get? b=b4 o->h'.get? b=b4 o)->as.length=es.size->PrsAt es s.heap.objs.size h' as->s.heap.objs.size<=h'.objs.size->T (as.map VU) {s with heap:=h',toks:=tk}):V2 (V8 P w) A (collect (.ref r)) T E s:=by
 have K:r<s.heap.objs.size:=let⟨_,p,_⟩:=v;VR p
 unfold collect
 refine VH (wpAny_runValue (W8 a6e ?_))
 rw[Wx F.plain_proto_collect _]
 refine VH (m:=newList []) (W7 (VQ ⟨Xm F.plain_list_iadd _,W8 a6f ?_⟩))
 rw[Wx F.plain_list_iadd _]
 have B:(s.heap.push {cls:=.type "list",data:=.seq ([]:List Value).toArray}).get? s.heap.objs.size=b4 {cls:=.type "list",data:=.seq #[]}:=VX _ rfl
 have all:=Pa (A:=A) (s:={s with heap:=s.heap.push {cls:=.type "list",data:=.seq ([]:List Value).toArray}}) (P:=P) (w:=w) (es:=es) (ep:=ep) (res:=.ref s.heap.objs.size) (c0:=0)
  (R:=λ(q:a2l)(u:VL)=>∃(h':WI)(tk:Nat)(h:Array Value)(c:Nat)(as:List Addr),q=.ok (.ret (.ref s.heap.objs.size))/\u={s with heap:=h',toks:=tk}/\(∀b o,s.heap.get? b=b4 o->h'.get? b=b4 o)/\h'.get? s.heap.objs.size=b4 {cls:=.type "list",dict:=b6,data:=.seq h c,slots:=#[]}/\as.length=es.size/\PrsAt es s.heap.objs.size h' as/\h.toList=as.map VU)
  H (let⟨o,p,x⟩:=v;⟨o,VM _ p,x⟩) (g.stay λo e=>VM _ e) (Xr K) (V4 g.lt) B J
  (λh' tk h c as l i m j n=>⟨h',tk,h,c,as,rfl,rfl,λb o e=>l b o (V4 (VR e)) (VM _ e),i,m,⟨j.up,λa G=>YZ (XU _) (by have:=j.over a G;rw[XW]at this;exact this),j.prs⟩,n⟩)
 refine WB all (λfin u x=>?_) λe u x=>?_
 ·cases fin with
  |done f=>
   obtain⟨h',tk,h,c,as,e,rfl,l,i,m,j,n⟩:=x
   cases e
   refine VH (m:=load s.heap.objs.size) (a2N i (VQ ?_))
   show T h.toList _
   rw[n]
   exact q h' tk as l m j (Z3 (VR i))
  |again L=>
   refine⟨x.1,a0c x.2 λy M x=>?_⟩
   obtain⟨h',tk,h,c,as,rfl,rfl,l,i,m,j,n⟩:=x
   refine VH (m:=load s.heap.objs.size) (a2N i (VQ ?_))
   show T h.toList _
   rw[n]
   exact q h' tk as l m j (Z3 (VR i))
 ·obtain⟨_,_,_,_,_,z,_⟩:=x
  cases z
end
end L3
namespace L3
open PySem L2 PySem.W PyProof.Rows
section
variable{P:V6}{w:Wj}{A:Wh}{E:Value->VL->Prop}{s:VL}
theorem Eo{v:Value}{Q:Bool->VL->Prop}(q:Q b8 s):V2 (V8 P w) A (eqBool v v) Q E s:=by unfold eqBool;refine WN ?_;rw[if_pos (by simp)];exact VH (a1v (VQ q))
theorem t6:∀k:List Int,HT.lexLt k k=b7
 |[]=>rfl|a::k=>by simp[HT.lexLt,t6 k]
noncomputable def iO(P:V6)(w:Wj)(h:WI)(b:Addr)(k:List Int):Prop:=Tb.IsT P w h k b/\∃xs:List Value,a5A h b xs.toArray/\Zd xs k
theorem Pc{a h b i:Addr}{v m:Value}{k k':List Int}{C:Bool->VL->Prop}(l:A.units<Xs)(n:s.heap.get? a=b4 {cls:=.type "tuple",data:=.seq #[.ref b,v]}) (d:s.heap.get? h=b4 {cls:=.type "tuple",data:=.seq #[.ref i,m]})
  (j:iO P w s.heap b k)(c:iO P w s.heap i k')(o:k=k'->v=m)(q:C (HT.lexLt k k') s):V2 (V8 P w) A (keyLt' (tuples' b7) (.ref a) (.ref h)) C (λ_ _=>False) s:=by
 refine kat_lt n rfl d rfl ?_;refine a2R ((a0g (Za P w)).eqBool l j.1 c.1 ?_);by_cases e:k=k'
 ·obtain rfl:=o e;subst e;rw[decide_eq_true rfl];refine a5p (a2R (Eo (a5p (kat_nil ?_))));rw[t6]at q;exact q
 ·rw[decide_eq_false e];obtain⟨y,u,p⟩:=j.2;obtain⟨z,x,r⟩:=c.2;refine kat_no (kat_one _ _ (HT.lt_tupInts u x (by simpa using p) (by simpa using r) l ?_));exact q
noncomputable def oR(P:V6)(w:Wj)(A:Wh)(us:List Value)(an:Nat->Nat->Bool)(s:VL):Prop:=
 V2 (V8 P w) A (keyKind' us.toArray) (λb a=>a=s/\∀(i j:Nat)(C:Bool->VL->Prop),i<us.length->j<us.length->C (an i j) s->V2 (V8 P w) A (keyLt' b (us.getD i .none) (us.getD j .none)) C (λ_ _=>False) s) (λ_ _=>False) s
theorem Pd{es:Array DictEntry}{lo:Addr}{as bs:List Addr}{ks:List (List Int)}(hu:A.units<Xs)(p:PrsAt es lo s.heap as)(h0:0<as.length)(hl:as.length=es.size)(hk:ks.length=es.size)(hbl:bs.length=es.size)(key:∀(j:Nat)(e:DictEntry),es[j]?=b4 e->e.key=.ref (bs.getD j 0)/\iO P w s.heap (bs.getD j 0) (ks.getD j []))
  (N:ks.Nodup):oR P w A (as.map VU) (λi j=>HT.lexLt (ks.getD i []) (ks.getD j [])) s:=by
 have l:∀i,i<as.length->∃(e:DictEntry),es[i]?=b4 e/\s.heap.get? (as.getD i 0)=b4 {cls:=.type "tuple",data:=.seq #[.ref (bs.getD i 0),e.val]}/\iO P w s.heap (bs.getD i 0) (ks.getD i []):=λi d=>by
  have Q:as[i]?=b4 (as.getD i 0):=by simp[W3,d]
  obtain⟨e,B,r⟩:=p.prs i _ Q;obtain⟨k1,G⟩:=key i e B;rw[k1]at r;exact⟨e,B,r,G⟩
 unfold oR;have u:KatTups s.heap (as.map VU) (bs.map VU):=by
  have go:∀(n:Nat)(a c:List Addr),a.length=n->c.length=n->(∀i,i<n->∃v:Value,s.heap.get? (a.getD i 0)=b4 {cls:=.type "tuple",data:=.seq #[.ref (c.getD i 0),v]})->KatTups s.heap (a.map VU) (c.map VU):=by
   intro n;induction n with
   |zero=>intro a c m q _;rw[a2z.mp m,a2z.mp q];exact .nil|succ n ih=>
    intro a c m q M;match a,c,m,q with
    |x::a,y::c,m,q=>obtain⟨v,K⟩:=M 0 (by omega);refine .cons K rfl rfl (by simp) (ih a c (by simpa using m) (by simpa using q) λi d=>?_);have:=M (i+1) (by omega);simpa using this
  refine go as.length as bs rfl (by omega) λi d=>?_;obtain⟨e,_,r,_⟩:=l i d;exact⟨_,r⟩
 refine kat_kind (T:=.type "tuple") u (by rw[VI];omega) (λv K=>?_) (by decide) ⟨rfl,λi j C d J Y=>?_⟩
 ·obtain⟨b,Z,rfl⟩:=Wm.mp K;obtain⟨i,d⟩:=YG.mp Z;have H:i<as.length:=by have:=(VN.mp d).1;omega
  obtain⟨e,_,_,G⟩:=l i H;have:bs.getD i 0=b:=by simp[W3,d]
  rw[this]at G;obtain⟨xs,⟨o,o1,o2,_⟩,_⟩:=G.2;exact kitAt_ty _ _ ⟨o,o1,o2⟩
 ·rw[VI]at d J;obtain⟨e,B,r,O⟩:=l i d;obtain⟨e',L,R,T⟩:=l j J;have U:(as.map VU).getD i .none=.ref (as.getD i 0):=by simp[W3,d]
  have X:(as.map VU).getD j .none=.ref (as.getD j 0):=by simp[W3,J]
  rw[U,X];refine Pc hu r R O T (λz=>?_) Y;have I:i=j:=by
   have m:ks.getD i []=ks[i]:=by simp[W3,show i<ks.length by omega]
   have q:ks.getD j []=ks[j]:=by simp[W3,show j<ks.length by omega]
   rw[m,q]at z;rcases Zz i j with h|h|h
   ·exact absurd z ((XA.mp N) i j (by omega) (by omega) h)
   ·exact h
   ·exact absurd z.symm ((XA.mp N) j i (by omega) (by omega) h)
  subst I;rw[B]at L;cases L;rfl
end
end L3
namespace L3
open PySem L2 PySem.W PyProof.Rows
section
variable{P:V6}{w:Wj}{A:Wh}{E:Value->VL->Prop}{s:VL}
theorem Ep{c:Addr}{us:List Value}{z:Nat}{R:PySem.Fin->VL->Prop}{an:Nat->Nat->Bool}(N:2<=us.length)(n:us.length<64)(g:s.heap.get? c=b4 (XG "list" us.toArray z)) (H:∀J:WI,(∀b o,b≠c->s.heap.get? b=b4 o->J.get? b=b4 o)->oR P w A us an {s with heap:=J})
  (q:R (.done (.ret .none)) {s with heap:=a2P s.heap c us ((cP an us.length).map λi=>us.getD i WJ).toArray}):V2 (V8 P w) A (Builtin.«list.sort» ⟨[.ref c],[]⟩) R E s:=by
 rw[a5W]
 refine VH (listItems_at g rfl (VH (a1o g rfl ?_ (by rw[V7,V9];omega) (Yb _))))
 obtain⟨y,G⟩:∃y,(s.heap.update c (WU λ_=>#[])).get? c=b4 (XG "list" #[] y):=⟨_,a5Y g _⟩
 refine VH (a2t G rfl (VH (a2M (VH (a1m (WN ?_) (Yb _))) (by show us.length<=_;rw[V9];omega))))
 have I:(((s.heap.update c (WU λ_=>#[])).push (XG "tuple" us.toArray 0)).push (XG "list" #[] 0)).get? c=b4 (XG "list" #[] y):=
  VM _ (VM _ G)
 have m:=H (((s.heap.update c (WU λ_=>#[])).push (XG "tuple" us.toArray 0)).push (XG "list" #[] 0)) λb o Q e=>VM _ (VM _ ((Wi _ _ (WG Q)).trans e))
 show V2 (V8 P w) A _ R E ⟨((s.heap.update c (WU λ_=>#[])).push (XG "tuple" us.toArray 0)).push (XG "list" #[] 0),s.gens,s.drawn,s.toks,s.os⟩
 dsimp only
 have h:¬ us.toArray.size<2:=by rw[V7];omega
 rw[if_neg h,if_neg h]
 refine VH (WB m (λY l u=>?_) λ_ _ x=>x.elim)
 obtain⟨rfl,u⟩:=u
 refine VH (WB (kat_run (ks:=us) (vs:=us) (κ:=Y) (Q:=λa l=>l={s with heap:=((s.heap.update c (WU λ_=>#[])).push (XG "tuple" us.toArray 0)).push (XG "list" #[] 0)}/\failedOf a=b6/\(arrOf a).map (·.2)=((cP an us.length).map λi=>us.getD i WJ).toArray)
  (G:=λp l=>l={s with heap:=((s.heap.update c (WU λ_=>#[])).push (XG "tuple" us.toArray 0)).push (XG "list" #[] 0)}/\p.toList=cP an us.length) rfl N n (λp a l Z L M B=>⟨B.1,M,by rw[kat_snds rfl L,B.2]⟩)
  (Dp (n:=us.length) (ans:=an) (λi j C T U O=>u i j C T U O) (Du (by omega)) ⟨rfl,rfl⟩)) (λr l X=>?_) λ_ _ e=>e)
 obtain⟨⟨⟩,a⟩:=r
 obtain⟨rfl,K,d⟩:=X
 dsimp only at K d ⊢
 rw[d]
 have v:((cP an us.length).map λi=>us.getD i WJ).length=us.length:=by
  rw[VI,(Dv an (n:=us.length) (by omega)).length_eq,WW]
 refine VH (a2t I rfl (VH (a1o I rfl ?_ (hsz2:=by rw[V7,v,V9];omega))))
 rw[K]
 simp only[bne_self_eq_false,Wq,if_false]
 exact VQ q
theorem Pe{r d:Addr}{es:Array DictEntry}{ep:Nat}{Q:Value->VL->Prop}{an:Nat->Nat->Bool}(M:A.handled=b6)(N:s.heap.IsItemsView r d)(g:RawD s.heap d es ep)(I:es.size<64)
  (H:2<=es.size->∀(h:WI)(tk:Nat)(as:List Addr),(∀b o,s.heap.get? b=b4 o->h.get? b=b4 o)->as.length=es.size->PrsAt es s.heap.objs.size h as->oR P w A.in1.in1 (as.map VU) an {s with heap:=h,toks:=tk})
  (q:∀(h:WI)(tk:Nat)(as:List Addr)(L e:Nat),(∀b o,s.heap.get? b=b4 o->h.get? b=b4 o)->as.length=es.size->PrsAt es s.heap.objs.size h as->s.heap.objs.size<=L->(∀a∈as,a≠L)->h.get? L=b4 (XG "list" ((cP an es.size).map λi=>VU (as.getD i 0)).toArray e)->Q (.ref L) {s with heap:=h,toks:=tk}) :
  V2 (V8 P w) A (call (.builtin "sorted") [.ref r]) Q E s:=by
 refine a2b kind_sorted plain_sorted entry_sorted (args_sorted1 _) ?_
 unfold a3b
 refine VH (m:=checkCount "sorted" 1 1 _) (VQ (VH (Pb (A:=A.in1) M N g (by rw[V9];omega) λc tk as B p y m=>?_)))
 have G:(as.map VU).length=es.size:=by rw[VI,p]
 refine VH (a1m ?_ (by rw[G,V9];omega))
 have l:(c.push (XG "list" (as.map VU).toArray 0)).get? c.objs.size=b4 (XG "list" (as.map VU).toArray 0):=VX _ rfl
 have fin:∀j:List Value,j=((cP an es.size).map λi=>VU (as.getD i 0))->Q (.ref c.objs.size) {s with heap:=a2P (c.push (XG "list" (as.map VU).toArray 0)) c.objs.size (as.map VU) j.toArray,toks:=tk}:=by
  rintro j rfl
  obtain⟨e,K⟩:=sortedHeap_at (h:=c.push (XG "list" (as.map VU).toArray 0)) (out:=((cP an es.size).map λi=>VU (as.getD i 0)).toArray) l
  have n:∀b o,c.get? b=b4 o->(a2P (c.push (XG "list" (as.map VU).toArray 0)) c.objs.size (as.map VU) ((cP an es.size).map λi=>VU (as.getD i 0)).toArray).get? b=b4 o:=λb o x=>by
   rw[sortedHeap_old (V4 (VR x)) (by rw[XW];exact a0h (VR x))]
   exact VM _ x
  exact q _ tk as c.objs.size e (λb o x=>n b o (B b o x)) p (y.stay λb o _ x=>n b o x) m (λa J=>V4 (y.lt J)) K
 by_cases u:2<=es.size
 ·refine VH (WN (XX a0V (s:={s with heap:=c.push (XG "list" (as.map VU).toArray 0),toks:=tk}) ⟨_,l,rfl⟩ a0N (Ep (an:=an) (by omega) (by omega) l (λh z=>?_) ⟨_,rfl,?_⟩) (a0Z _)))
  ·exact H u h tk as (λb o e=>z b o (V4 (Wb (VR e) m)) (VM _ (B b o e))) p (y.stay λb o O e=>z b o (V4 (VR e)) (VM _ e))
  ·refine VQ ⟨_,rfl,fin _ ?_⟩
   rw[G]
   refine X4 λi v=>?_
   have v:i<as.length:=by
    have:=WZ.mp ((j0 an es.size).mem_iff.mp v)
    omega
   simp[W3,v]
 ·refine VH (WN (XX a0V (s:={s with heap:=c.push (XG "list" (as.map VU).toArray 0),toks:=tk}) ⟨_,l,rfl⟩ a0N (Dw (by omega) l ⟨_,rfl,?_⟩) (a0Z _)))
  refine VQ ⟨_,rfl,fin (as.map VU) ?_⟩
  match as,p with
  |[],e=>rw[<- e];show[]=(cP _ 0).map _;rw[yD];rfl
  |[b],e=>rw[<- e];show[VU b]=(cP _ 1).map _;rw[Dx];rfl
  |_::_::_,e=>rw[<- e]at u;simp at u
end
end L3
namespace L3
open PySem L2
end L3
namespace L3
open PySem L2
section
variable{P:V6}{w:Wj}
theorem Er(d:Addr)(hd:(d==XZ)=b7):MeetsIn P w (Builtin.«dict.items» ⟨[.ref d],[]⟩) (λ_ R s=>(∃es ep,RawD s.heap d es ep) /\
   R (.ok (.ret (.ref s.heap.objs.size))) {s with heap:=s.heap.push {cls:=.type "dict_items",data:=.fields #[.ref d]}}):=
 .of_wp λA R s ⟨⟨es,ep,g⟩,h⟩=>by unfold Builtin.«dict.items»;refine VH ?_;unfold a6q;refine VH (a0O g.ty ?_);show V2 _ _ (pure d) _ _ s;refine VQ ?_;show V2 _ _ (Ze d >>= _) _ _ s;unfold Ze;rw[if_neg (by rw[hd];exact VZ)];refine VH (VQ ?_);exact VH (W7 (VQ ⟨_,rfl,h⟩))
end
noncomputable def t7(kvs:List (List Int×D)):List (List Int×D):=(cP (λi j=>HT.lexLt ((kvs.map (·.1)).getD i []) ((kvs.map (·.1)).getD j [])) kvs.length).map λi=>kvs.getD i ([],.non)
theorem Pf{b c:Type}{R:b->c->Prop}{as:List b}{bs:List c}(h:Zj R as bs)(d:b)(j:c):∀i,i<as.length->R (as.getD i d) (bs.getD i j):=by
 induction h with
 |nil=>exact λi a=>nomatch a|cons e t l=>
  intro i a;cases i with
  |zero=>exact e|succ i=>exact l i (by simpa using a)
theorem Es{a b:Type}{R:a->b->Prop}{f:Nat->a}{g:Nat->b}:∀{l:List Nat},(∀i∈l,R (f i) (g i))->Zj R (l.map f) (l.map g)
 |[],_=>.nil|i::l,h=>.cons (h i (WS ..)) (Es λj c=>h j (Wn _ c))
end L3
namespace L3
open PySem L2
section
variable{X:Cx}{a6G pins0:List (Addr×Obj)}{σ σ0:St}{H H0:Hp}{s s0:VL}{a:Addr}{ps ps0:bL}{ob:Obj}
theorem Inv.freeze(I:Inv X a6G σ H s)(e:H a=b4 (aR a ps))(c:s.heap.get? a=b4 ob):Inv X a6G σ (aI H a (.frz ob (aR a ps))) s:=by have ok:ObjOk X.prog X.w H s.heap a (aR a ps):=I.hok a _ e;exact I.write (x:=a) (e:=a) (h':=s.heap) (t':=s.toks) (by rw[e];exact YU) (.inl rfl) (λb q _ z=>z) ⟨ob,c⟩ ⟨c,ok⟩
theorem Inv.thaw(v:Inv X pins0 σ0 H0 s0)(w:H0 a=b4 (aR a ps0))(I:Inv X a6G σ H s)(e:H a=b4 (.frz ob (aR a ps))):Inv X a6G σ (aI H a (aR a ps)) s:=by
 have ne:∀{b:Addr},H b=b6->b≠a:=λ{b} h z=>by rw[z,e]at h;cases h
 refine⟨I.ok,I.os,I.bare,⟨I.base.keep,I.base.slot,λb o d j l=>?_,I.base.there,λb n h=>?_,λb o u h=>?_,λb A h=>?_⟩,I.loc,I.cell,?_,λx c h=>?_,λp y=>?_,λb u q=>?_,I.len⟩
 ·have:=I.base.free b o d j l;rw[aT (ne this)];exact this
 ·have:=I.base.tups b n h;rw[aT λz=>by rw[z,e]at this;cases this];exact this
 ·have:=I.base.frzs b o u h;rw[aT λz=>by
   have r:=v.base.frzs b o u h;rw[z,w]at r;cases r]
  exact this
 ·obtain⟨i,d⟩:=I.base.tbls b A h;exact⟨i,by rw[aT λz=>by rw[z,e]at d;cases d];exact d⟩
 ·rw[aT (ne I.free)];exact I.free
 ·have:=I.freeC x c h;rw[aT (ne this)];exact this
 ·obtain⟨d,j,l⟩:=I.pin p y;exact⟨d,by rw[aT (ne j)];exact j,l⟩
 ·by_cases m:b=a
  ·subst m;rw[bR]at q;cases q;exact(show ObjOk X.prog X.w H s.heap b (.frz ob (aR b ps))from I.hok b _ e).2
  ·rw[aT m]at q;exact(I.hok b u q).stay (λ_ _ _ z=>z) (λc h=>by rw[aT λz=>by rw[z,e]at h;cases h];exact h) λc n h=>by rw[aT λz=>by rw[z,e]at h;cases h];exact h
end
noncomputable def t8(i:Nat)(c:aE)(b:Hm):Option (Nat×List (List Int×D)):=match c[i]? with
 |some (b4 (.loc a))=>match b[a]? with
  |some (.dT kvs)=>b4 (a,kvs)|_=>b6
 |_=>b6
theorem Et{i:Nat}{c:aE}{b:Hm}{a:Nat}{kvs:List (List Int×D)}(h:t8 i c b=b4 (a,kvs)):b[a]?=b4 (.dT kvs):=by
 unfold t8 at h;split at h
 ·split at h
  ·rename_i hc;cases h;exact hc
  ·cases h
 ·cases h
noncomputable def y8(i:Nat)(d e:ME):ME:=λc b=>match t8 i c b with
 |some (a,kvs)=>(d c (b.set a (.dF kvs))).bind λr=>match r.2[a]? with
  |some (.dF kvs')=>b4 (r.1,r.2.set a (.dT kvs'))|_=>b6
 |none=>e c b
noncomputable def t9(i:Nat)(d e:MS):MS:=λc b=>match t8 i c b with
 |some (a,kvs)=>(d c (b.set a (.dF kvs))).bind λr=>match r.2.2[a]? with
  |some (.dF kvs')=>b4 (r.1,r.2.1,r.2.2.set a (.dT kvs'))|_=>b6
 |none=>e c b
section
variable{X:Cx}{a6G:List (Addr×Obj)}{σ:St}{H:Hp}{s:VL}{π:Nat->Addr}{ρ:aE}{μ:Hm}{a:Nat}{kvs:List (List Int×D)}
theorem Eu(I:Inv X a6G σ H s)(R:Rp X.K π H μ)(E:En X.K π μ.length H σ ρ)(hc:μ[a]?=b4 (.dT kvs)):∃b ps,H (π a)=b4 (aR (π a) ps)/\Inv X a6G σ (aI H (π a) (.frz b (aR (π a) ps))) s /\
  Rp X.K π (aI H (π a) (.frz b (aR (π a) ps))) (μ.set a (.dF kvs))/\En X.K π (μ.set a (.dF kvs)).length (aI H (π a) (.frz b (aR (π a) ps))) σ ρ:=by
 obtain⟨ps,c,T⟩:=mL R hc;obtain⟨_,⟨b,e⟩,_⟩:=(show ObjOk X.prog X.w H s.heap (π a) (aR (π a) ps)from I.hok _ _ c);obtain⟨d,R2⟩:=R.put (c:=.dF kvs) (o:=.frz b (aR (π a) ps)) (VN.mp hc).1 c (.inr (.inr ⟨_,rfl⟩)) ⟨b,ps,rfl,T.to⟩;exact⟨b,ps,c,Inv.freeze I c e,R2,E.mono d⟩
theorem qQ{i:List (Addr×Obj)}{n:St}{H':Hp}{x:VL}{c:Nat->Addr}{μ':Hm}{E:Obj}{ps:bL}{d:List (List Int×D)}(I:Inv X a6G σ H s)(e:H (π a)=b4 (aR (π a) ps))(A:a<μ.length)
  (y:Inv X i n H' x)(w:Rp X.K c H' μ')(l:Ext π (μ.set a (.dF kvs)).length (aI H (π a) (.frz E (aR (π a) ps))) c μ'.length H')(hc:μ'[a]?=b4 (.dF d)) :
  ∃q,Inv X i n q x/\Ext π μ.length H c (μ'.set a (.dT d)).length q/\Rp X.K c q (μ'.set a (.dT d))/\Ext0 c μ'.length H' c (μ'.set a (.dT d)).length q:=by
 have r:c a=π a:=l.pi a (by rw[XD];exact A);obtain⟨G,j,v,T⟩:=tX w hc;obtain⟨K,R2⟩:=w.put0 (c:=.dT d) (o:=aR (c a) j) (VN.mp hc).1 v (.inr (.inr (.inr ⟨_,_,rfl⟩))) ⟨j,rfl,T.to⟩;rw[r]at v;refine⟨aI H' (c a) (aR (c a) j),?_,⟨?_,λb B=>l.pi b (by rw[XD];exact B),λp J h=>?_,λp o u h=>?_⟩,R2,K⟩
 ·rw[r];exact Inv.thaw I e y v
 ·have:=l.le;rw[XD]at this ⊢;exact this
 ·have m:p≠π a:=λz=>by rw[z,e]at h;cases h
  have:=l.tup p J (by rw[aT m];exact h);rw[r,aT m];exact this
 ·have m:p≠π a:=λz=>by rw[z,e]at h;cases h
  have:=l.frz p o u (by rw[aT m];exact h);rw[r,aT m];exact this
theorem En.mono0{K:VG}{b:Nat->Addr}{n c:Nat}{H':Hp}(E:En K π n H σ ρ)(e:Ext0 π n H b c H'):En K b c H' σ ρ:=
 ⟨E.len,λi d h=>let⟨v,j,l⟩:=E.get i d h;⟨v,j,l.mono0 e⟩⟩
end
section
variable{X:Cx}{e:Expr}{st:Stmt}{i:Nat}
theorem Pg{z A:ME}(h1:QE X e z)(h2:QE X e A):QE X e (y8 i z A):=⟨by
 intro l s J H Q I hw;obtain⟨m,G,B,d,r,R,E,c,k⟩:=hw;unfold y8 at c;split at c
 ·rename_i a q hv;obtain⟨⟨x,h⟩,Z,c⟩:=VF.mp c;dsimp only at c;split at c
  ·rename_i y o;cases c;have hc:=Et hv;obtain⟨ob,ps,U,L,O,K⟩:=Eu I R E hc;refine aM (h1.h l s J _ (λv j=>∃b,Ext m (B.set a (.dF q)).length (aI H (m a) (.frz ob (aR (m a) ps))) b h.length j/\Rp X.K b j h/\IsD X.K b h.length j v d) L ⟨m,G,_,d,h,O,K,Z,λb v j n R2 p=>⟨b,n,R2,p⟩⟩) λu s2 ⟨v,j,M,rv,b,n,R2,p⟩=>?_;obtain⟨w,N,Y,T,x3⟩:=qQ I U (VN.mp hc).1 M R2 n o;exact⟨v,w,N,rv,k b v w Y T (p.mono0 x3)⟩
  ·cases c
 ·exact h2.h l s J H Q I ⟨m,G,B,d,r,R,E,c,k⟩⟩
theorem Ew{Z m2:MS}(h1:QS X st Z)(h2:QS X st m2):QS X st (t9 i Z m2):=⟨by
 intro K s σ H D I hw;obtain⟨m,ρ,L,G,p,U,R,E,w,k⟩:=hw;unfold t9 at w;split at w
 ·rename_i a x hv;obtain⟨⟨fl1,ρ1,h⟩,g1,w⟩:=VF.mp w;dsimp only at w;split at w
  ·rename_i Y r;cases w;have hc:=Et hv;have N:=(VN.mp hc).1;obtain⟨O,Q,M,I1,R1,E1⟩:=Eu I R E hc;refine aM (h1.h K s σ _ ⟨λc j=>G=.nx/\∃b,Ext m (L.set a (.dF x)).length (aI H (m a) (.frz O (aR (m a) Q))) b h.length j/\Rp X.K b j h/\En X.K b h.length j c p,
     λv j=>∃d,G=.rt d/\∃b,Ext m (L.set a (.dF x)).length (aI H (m a) (.frz O (aR (m a) Q))) b h.length j/\Rp X.K b j h/\IsD X.K b h.length j v d,
     λc j=>G=.bk/\∃b,Ext m (L.set a (.dF x)).length (aI H (m a) (.frz O (aR (m a) Q))) b h.length j/\Rp X.K b j h/\En X.K b h.length j c p,
     λc j=>G=.ct/\∃b,Ext m (L.set a (.dF x)).length (aI H (m a) (.frz O (aR (m a) Q))) b h.length j/\Rp X.K b j h/\En X.K b h.length j c p⟩ I1 ⟨m,ρ,_,G,p,h,R1,E1,g1,?_⟩) λf s2 q=>?_
   ·cases G with
    |nx=>exact λb c j l R2 n=>⟨rfl,b,l,R2,n⟩|bk=>exact λb c j l R2 n=>⟨rfl,b,l,R2,n⟩|ct=>exact λb c j l R2 n=>⟨rfl,b,l,R2,n⟩|rt d=>exact λb v j l R2 T=>⟨d,rfl,b,l,R2,T⟩
   ·cases f with
    |next=>obtain⟨c,j,y,rfl,b,l,R2,n⟩:=q;obtain⟨o,z,B,A,J⟩:=qQ I M N y R2 l r;exact⟨c,o,z,k b c o B A (En.mono0 n J)⟩|brk=>obtain⟨c,j,y,rfl,b,l,R2,n⟩:=q;obtain⟨o,z,B,A,J⟩:=qQ I M N y R2 l r;exact⟨c,o,z,k b c o B A (En.mono0 n J)⟩|cont=>obtain⟨c,j,y,rfl,b,l,R2,n⟩:=q;obtain⟨o,z,B,A,J⟩:=qQ I M N y R2 l r;exact⟨c,o,z,k b c o B A (En.mono0 n J)⟩|ret u=>obtain⟨v,c,j,y,rv,d,rfl,b,l,R2,T⟩:=q;obtain⟨o,z,B,A,J⟩:=qQ I M N y R2 l r;exact⟨v,c,o,z,rv,k b v o B A (T.mono0 J)⟩
  ·cases w
 ·exact h2.h K s σ H D I ⟨m,ρ,L,G,p,U,R,E,w,k⟩⟩
end
noncomputable def y9(d:Addr)(a:Obj)(ps:bL):It:=⟨λi H=>H d=b4 (.frz a (aR d ps))/\i<ps.length,λi H x H'=>H'=H/\∃p,ps[i]?=b4 p/\x=.ref p.2.1,λi H=>H d=b4 (.frz a (aR d ps))/\ps.length<=i⟩
theorem mP{X:Cx}{a6G:List (Addr×Obj)}{σ:St}{H:Hp}{s:VL}{d:Addr}{c:Obj}{ps:bL}(I:Inv X a6G σ H s)(e:H d=b4 (.frz c (aR d ps))) :
  (d==XZ)=b7/\ps.length<=VW/\∃a b,RawD s.heap d a b/\c.data=.dict a b/\a.toList.map (·.key)=ps.map λp=>VU p.2.1:=by
 obtain⟨h,⟨v,r,q,n,o,a,b,i,l,j,m,u⟩,_⟩:=(show ObjOk X.prog X.w H s.heap d (.frz c (aR d ps))from I.hok d _ e);rw[h]at i;cases i;refine⟨q,n,a,b,⟨c,h,l,j⟩,j,?_⟩;rw[m,tV (P:=X.prog) (w:=X.w),Wo,<- yX r];rfl
theorem Ey:∀(ps:bL)(ws:List Value),ps.length=ws.length->(a0r sG ps ws).map (·.val)=ws
 |[],[],_=>rfl|[],_::_,h=>by cases h
 |_::_,[],h=>by cases h
 |p::ps,u::ws,h=>by rw[WK,V0,Ey ps ws (by simpa using h)];rfl
theorem Ph{X:Cx}{a6G:List (Addr×Obj)}{σ:St}{H:Hp}{s:VL}{d:Addr}{c:Obj}{ps:bL}(I:Inv X a6G σ H s)(e:H d=b4 (.frz c (aR d ps))) :
  (d==XZ)=b7/\ps.length<=VW/\∃a b,RawD s.heap d a b/\c.data=.dict a b/\Vals (ps.map (·.2.2)) (a.toList.map (·.val)):=by
 obtain⟨i,⟨h,r,u,q,o,a,b,j,n,l,p,v⟩,_⟩:=(show ObjOk X.prog X.w H s.heap d (.frz c (aR d ps))from I.hok d _ e);rw[i]at j;cases j;refine⟨u,q,a,b,⟨c,i,n,l⟩,l,?_⟩;have m:(a0r sG ps h).map (·.val)=h:=Ey ps h (by
  have:=r.length;rw[VI]at this;exact this)
 rw[p,m];exact r
theorem Pj{P:V6}{w:Wj}{K:VG}{tg:Expr}{d n:Addr}{U:Obj}{ps:bL}{es:Array DictEntry}{ep:Nat}(hd:U.data=.dict es ep):Turn Qc P w K tg (y9 d U ps) [n] n (λi h=>h.IsKeyIter n d i es.size ep) where
 mem:=by simp
 obj:=λi h st b j=>by
  have e:b=n:=by simpa using j
  subst e;obtain⟨o,e,c,d⟩:=st;exact⟨o,e,λv z=>by rw[d]at z;cases z⟩
 keep:=λi h q st k=>st.at λo e=>k n (by simp) o e;item:=by
  intro X O hw N hc i p s Y H E I x st Q;subst O hw N;obtain⟨m,r⟩:=Q;obtain⟨lo,hl,A,y,g,a,u⟩:=mP I m;rw[hd]at a;cases a;have hs:es.size=ps.length:=by have:=congrArg Xc u;simpa using this
  obtain⟨B,G,f2,J,L,M⟩:=x n (by simp);refine D8 (I.ok.hd hc) st g (λe q l T sb=>?_) λhn=>by simp at hn;omega
  have Z:Inv X p Y H {s with heap:=q}:=I.turned (t':=s.toks) (λb o j e=>(sb.2 b j).trans e) B G J L M;obtain⟨o,e1,c,d1⟩:=id T;have R:ps[i]?=b4 ps[i]:=VT r;have ek:e.key=.ref (ps[i]).2.1:=by have:=congrArg (·[i]?) u;simp only[V5,YD,l,R,Wu]at this;exact VY this
  exact⟨e.key,rfl,m5 (s:={s with heap:=q}) e1 c d1 (by decide) ⟨.ref (ps[i]).2.1,H,Z,ek,⟨rfl,ps[i],R,rfl⟩,T,λb j=>(x b j).1⟩⟩
 done:=by
  intro X O hw N hc i p s Y H E I x st Q;subst O hw N;obtain⟨m,r⟩:=Q;obtain⟨lo,hl,A,y,g,a,u⟩:=mP I m;rw[hd]at a;cases a;have hs:es.size=ps.length:=by have:=congrArg Xc u;simpa using this
  obtain⟨B,G,f2,J,L,M⟩:=x n (by simp);exact D8 (I.ok.hd hc) st g (λe q l=>by
   have:=(W5.mp l).1;omega) λ_ q eb=>⟨rfl,I.turned (t':=s.toks) (λb o j e=>eb b o j e) B G J L M⟩
 self:=λ_ _ _ _ _ st h=>wpAny_pyIter_keyiter st h
theorem Pk{X:Cx}{l tg:Expr}{p:TE}(n:PE X l p):PI X tg l (λσ H R=>p σ H λv a=>∃d m ps,v=.ref d/\a d=b4 (.frz m (aR d ps))/\R (y9 d m ps) a):=by
 intro j s σ H R I h;refine aM (n j s σ H _ I h) λv i ⟨y,a,c,z,x⟩=>?_;obtain⟨d,m,ps,e,u,q⟩:=x;subst e;obtain rfl:v=VU d:=z;obtain⟨w,n,B,A,g,hd,E⟩:=mP c u;refine OM w g ⟨i.heap.objs.size,[i.heap.objs.size],_,_,a,rfl,c.kept (t':=i.toks) λb o e=>VM _ e,Pj hd,⟨_,VX _ rfl,rfl,rfl⟩,λb r=>?_,q⟩;have e:b=i.heap.objs.size:=by simpa using r
 subst e;exact c.fpOk (VS _) (c.hok.fresh (VS _))
noncomputable def oS(kvs:List (List Int×D)):List D:=kvs.map λk=>D.tup (k.1.map D.int)
theorem Pl{K:VG}{π:Nat->Addr}{n:Nat}{H:Hp}{d:Addr}{j:Obj}{ps:bL}{kvs:List (List Int×D)}(c:H d=b4 (.frz j (aR d ps)))(T:IsTs K π n H ps kvs):Wk K (y9 d j ps) (eI (.tup (oS kvs))) π n H:=by
 have x:ps.length=kvs.length:=by have:=congrArg Xc T.to.1;simpa using this
 refine⟨λb u l i e R z=>?_,λb u l i m e R z=>?_⟩
 ·have a:(oS kvs)[i]?=none:=VY z;have:=Ws.mp a;rw[oS,VI]at this;exact⟨e.frz _ _ _ c,by omega⟩
 ·have a:(oS kvs)[i]?=b4 m:=VY z;have y:i<kvs.length:=by have:=(VN.mp a).1;rwa [oS,VI]at this
  refine⟨⟨e.frz _ _ _ c,by omega⟩,λv w ⟨o,p,q,r⟩=>?_⟩;subst o r;obtain⟨A,h,s⟩:=(T.to.2.1.mono e).get a;rw[V5,q]at h;cases h;exact⟨.refl,R,s⟩
noncomputable def uA(m:ME):MI:=λc b=>(m c b).bind λp=>match p.1 with
 |.loc a=>match p.2[a]? with
  |some (.dF kvs)=>b4 (eI (.tup (oS kvs)),kvs.length+1,p.2)|_=>b6
 |_=>b6
theorem zA{X:Cx}{e:Expr}{m:ME}(h:QE X e m):QJ X e (uA m):=⟨λtg a6G s σ H R I hw=>by
 obtain⟨A,B,w,v,n,y,j,E,a,k⟩:=hw;obtain⟨⟨x,z⟩,o,a⟩:=VF.mp a;dsimp only at a;split at a
 ·split at a
  ·rename_i q hc;cases a;refine Pk h.h a6G s σ H R I ⟨A,B,w,_,_,j,E,o,λb G i l c p=>?_⟩;cases p;obtain⟨r,u,d,T⟩:=tX c hc;exact⟨_,r,u,rfl,d,k b i _ l c (Pl d T)⟩
  ·cases a
 ·cases a⟩
end L3
namespace L3
open PySem L2 PySem.W PyProof.Rows
section
variable{P:V6}{w:Wj}{A:Wh}{E:Value->VL->Prop}{s:VL}
end
end L3
namespace L3
open PySem L2
section
variable{X:Cx}
end
noncomputable def Pm(b:Hm):D->Bool
 |.loc a=>match b[a]? with|some (.dT _)=>b8|_=>b7
 |_=>b7
noncomputable def Pn(f:D->List D->Hm->Option (D×Hm))(b:ME)(ms:MA):ME:=λa c=>(b a c).bind λp=>match Pm p.2 p.1 with
 |true=>(ms a p.2).bind λq=>f p.1 q.1 q.2|false=>b6
section
variable{X:Cx}{e o:Expr}{mo:ME}{to:TE}{t:TA}{apos cpos:Xq}{es:List Expr}{ms:MA}{n:Nat}{r:V->List V->Hp->VK->Prop}{f:D->List D->Hm->Option (D×Hm)}{name:Str}{id:String}
end
end L3
namespace L3
open PySem L2
section
variable{P:V6}{w:Wj}{K:Type} [DecidableEq K] {knd:HeapKind P w K}{A:Wh}{E:Value->VL->Prop}{s:VL}{d a:Addr}{k:K}{xs:List (K×Addr×Value)}
end
end L3
namespace L3
open PySem L2
section
variable{P:V6}{w:Wj}{A:Wh}{E:Value->VL->Prop}{s:VL}
end
section
variable{X:Cx}
end
end L3
namespace L3
open PySem L2
noncomputable abbrev qR:=List (List Int×Addr×Value)
inductive Hits (A:Wh)(s:VL)(ys:qR):qR->Bool->Prop
 |nil:Hits A s ys [] b8
 |miss {x:List Int×Addr×Value}{r:qR}:a0B ys x.1=b6->Hits A s ys (x::r) b7
 |hit {x:List Int×Addr×Value}{p:Addr×Value}{r:qR}{e b:Bool}:a0B ys x.1=b4 p->Zb A s x.2.2 p.2 e->Hits A s ys r b->Hits A s ys (x::r) (e&&b)
section
variable{P:V6}{w:Wj}{A:Wh}{E:Value->VL->Prop}{s:VL}{a b:Addr}{xs ys:qR}{r:Bool}
end
section
variable{X:Cx}{a b:Expr}{ma mb:ME}{pos:Xq}{k:Nat}
end
end L3
namespace L3
open PySem L2
noncomputable abbrev zB(n:Nat):Prop:=n<64
section
variable{X:Cx}{a6G:List (Addr×Obj)}{σ:St}{H H':Hp}{s:VL}{h':WI}
theorem Po{t':Nat}(I:Inv X a6G σ H s)(k:∀b u,s.heap.get? b=b4 u->h'.get? b=b4 u)(a:∀b,b<s.heap.objs.size->H' b=H b)(new:∀b o,s.heap.objs.size<=b->H' b=b4 o->ObjOk X.prog X.w H' h' b o) :
  Inv X a6G σ H' {s with heap:=h',toks:=t'}:=by
 have lt:∀b u,H b=b4 u->b<s.heap.objs.size:=λb u e=>Nat.lt_of_not_le λz=>by rw[I.hok.fresh z]at e;cases e
 have same:∀b u,H b=b4 u->H' b=b4 u:=λb u e=>by rw[a b (lt b u e)];exact e
 refine I.un ⟨λb u q _ _ _=>k b u q,λb u q _ _ _=>⟨u.slots,k b u q⟩,λb u q n _=>by rw[a b (VR q)];exact n,λb u q _=>⟨u,k b u q⟩,λb h q=>same b _ q,λb u h q=>same b _ q,λb i q=>⟨#[],by rw[same b _ q];simp⟩⟩ λb u e=>?_;by_cases d:b<s.heap.objs.size
 ·rw[a b d]at e;exact(I.hok b u e).stay (λc v _ q=>k c v q) (λc q=>same c _ q) λc h q=>same c _ q
 ·exact new b u (a4F d) e
noncomputable def fG(H:Hp):List Addr->bL->Hp
 |a::as,p::ps=>fG (aI H a (.tup [.ref p.2.1,p.2.2])) as ps|_,_=>H
theorem mQ:∀{as:List Addr}{ps:bL}{H:Hp}{b:Addr},b∉as->fG H as ps b=H b
 |[],_,_,_,_=>by simp[fG]
 |a::as,[],_,_,_=>rfl|a::as,p::ps,H,b,h=>by rw[Wr,not_or]at h;show fG (aI H a _) as ps b=H b;rw[mQ h.2,aT h.1]
theorem uB:∀{as:List Addr}{ps:bL}{H:Hp}{i:Nat}{a:Addr}{p:List Int×Addr×V},as.Nodup->as[i]?=b4 a->ps[i]?=b4 p->fG H as ps a=b4 (.tup [.ref p.2.1,p.2.2])
 |[],_,_,_,_,_,_,h,_=>by simp at h
 |_::_,[],_,_,_,_,_,_,h=>by simp at h
 |x::as,y::ps,H,0,a,p,nd,h1,h2=>by
  obtain rfl:x=a:=by simpa using h1
  obtain rfl:y=p:=by simpa using h2
  rw[W4]at nd;show fG (aI H x _) as ps x=_;rw[mQ nd.1,bR]
 |x::as,y::ps,H,i+1,a,p,nd,h1,h2=>by rw[W4]at nd;exact uB (as:=as) (ps:=ps) (i:=i) nd.2 (by simpa using h1) (by simpa using h2)
noncomputable def cD(ps:bL):List Nat:=cP (λi j=>HT.lexLt ((ps.map (·.1)).getD i []) ((ps.map (·.1)).getD j [])) ps.length
noncomputable def eV(as:List Addr)(ps:bL):List V:=(cD ps).map λi=>V.ref (as.getD i 0)
theorem Pp(hc:X.calm=b8)(hun:X.A.units+64<Xs)(I:Inv X a6G σ H s){d r:Addr}{ps:bL}{Q:VK}(e:H d=b4 (aR d ps))(hk:eM X.K H ps)(N:zB ps.length)(hv:s.heap.IsItemsView r d)
  (k:∀(as:List Addr)(L l:Addr),as.length=ps.length->(l::L::as).Nodup->(∀a∈l::L::as,H a=b6)->Q (.ref l) (aI (aI (fG H as ps) L (.lst (eV as ps))) l (.tup (eV as ps)))) :
  V2 (V8 X.prog X.w) X.A (call (.builtin "sorted") [.ref r]) (λv s'=>V2 (V8 X.prog X.w) X.A (call (.type "tuple") [v]) (EP X a6G σ Q) X.xe s') X.xe s:=by
 obtain⟨lo,hl,ws,rv,z,es,ep,z1,z2,z3,z4,z5,z6⟩:=kS I (.of e) hk;have hwl:ws.length=ps.length:=by have:=rv.length;rw[VI]at this;exact this.symm
 have hxl:(bV ps ws).length=ps.length:=by unfold bV;rw[List.length_zipWith,hwl,Nat.min_self]
 have A:es.size=ps.length:=by rw[<- Y1,z4,VI,hxl]
 have nd:(ps.map (·.1)).Nodup:=by rw[oM rv]at z6;exact z6
 have M:∀(j:Nat)(q:DictEntry),es[j]?=b4 q->∃p u,ps[j]?=b4 p/\ws[j]?=b4 u/\q.key=.ref p.2.1/\q.val=u:=λj q h=>by
  rw[<- YD,z4,V5]at h;obtain⟨x,w,rfl⟩:=VJ.mp h;unfold bV at w;rw[a3a]at w;cases B:ps[j]? with
  |none=>rw[B]at w;simp at w|some p=>
   cases hw:ws[j]? with
   |none=>rw[B,hw]at w;simp at w|some u=>
    rw[B,hw]at w;have:(p.1,p.2.1,u)=x:=by simpa using w
    subst this;exact⟨p,u,rfl,rfl,rfl,rfl⟩
 have N:ps.length<64:=N;refine Pe (an:=λi j=>HT.lexLt ((ps.map (·.1)).getD i []) ((ps.map (·.1)).getD j [])) (I.ok.hd hc) hv ⟨z,z1,z2,z3⟩ (by omega) (λh22 Z K as kp Y J=>?_) (λZ K as L q kp Y J hL nL gL=>?_)
 ·have I3:Inv X a6G σ H {s with heap:=Z,toks:=K}:=I.kept (t':=K) kp;refine Pd (A:=X.A.in1.in1) (s:={s with heap:=Z,toks:=K}) (bs:=ps.map (·.2.1)) (ks:=ps.map (·.1)) (by show X.A.units+1+1<Xs;omega) J (by omega) Y (by rw[VI,A]) (by rw[VI,A]) (λj q y=>?_) nd;obtain⟨p,u,G,p2,p3,p4⟩:=M j q y;have n:j<ps.length:=(VN.mp G).1;have m:(ps.map (·.2.1)).getD j 0=p.2.1:=by simp[W3,G]
  have ek:(ps.map (·.1)).getD j []=p.1:=by simp[W3,G]
  rw[m,ek];have sq:=hk p (WO G);refine⟨p3,kR I3 sq,?_⟩;obtain⟨xs,rx,t,_⟩:=I3.tuple sq;exact⟨xs,t,Nc rx⟩
 ·rw[A]at gL Y;have E:as.Nodup:=J.up.imp λh=>V4 h;have hin:∀i∈cD ps,i<ps.length:=λi hi=>WZ.mp ((j0 _ _).mem_iff.mp hi);have U:(cD ps).length=ps.length:=by have:=(j0 (λi j=>HT.lexLt ((ps.map (·.1)).getD i []) ((ps.map (·.1)).getD j [])) ps.length).length_eq;rw[WW]at this;exact this
  have nLa:L∉as:=λh=>nL L h rfl;have I1:Inv X a6G σ (aI (fG H as ps) L (.lst (eV as ps))) {s with heap:=Z,toks:=K}:=by
   refine Po (t':=K) I kp (λb hb=>?_) λb o hb m=>?_
   ·rw[aT (V4 (Wb hb hL)),mQ λh=>Nat.lt_asymm hb (J.over b h)]
   ·by_cases R:b=L
    ·subst R;rw[bR]at m;cases m;refine⟨by unfold eV;rw[VI,U];exact hl,(cD ps).map λi=>VU (as.getD i 0),q,?_,gL⟩;unfold eV;exact Es λi _=>rfl
    ·rw[aT R]at m;by_cases T:b∈as
     ·obtain⟨j,y⟩:=YG.mp T;have n:j<ps.length:=by have:=(VN.mp y).1;omega
      have B:ps[j]?=b4 ps[j]:=VT n;rw[uB E y B]at m;cases m;obtain⟨x,x1,x2⟩:=J.prs j _ y;obtain⟨p,u,G,p2,p3,p4⟩:=M j x x1;rw[B]at G;cases G;obtain⟨u',g1,g2⟩:=rv.get (i:=j) (x:=ps[j].2.2) (by rw[V5,B];rfl);rw[p2]at g1;cases g1;rw[p3,p4]at x2;exact⟨by show(2:Nat)<=VW;decide,[.ref ps[j].2.1,u],.cons rfl (.cons g2 .nil),_,x2,rfl,0,rfl,rfl⟩
     ·rw[mQ T,I.hok.fresh hb]at m;cases m
  refine B0 a6G _ σ _ [.ref L] [.ref L] Q I1 (.cons rfl .nil) ⟨L,eV as ps,rfl,.inl ⟨.inl (.inl bR),λl c=>?_⟩⟩;have lL:l≠L:=λh=>by rw[h,bR]at c;cases c
  rw[aT lL]at c;have la:l∉as:=λh=>by
   obtain⟨j,y⟩:=YG.mp h;have n:j<ps.length:=by have:=(VN.mp y).1;omega
   rw[uB E y (VT n)]at c;cases c
  rw[mQ la]at c;refine k as L l Y ?_ λa O=>?_
  ·rw[W4,W4];exact⟨λh=>(Wr.mp h).elim lL la,nLa,E⟩
  ·rcases Wr.mp O with rfl|O
   ·exact c
   rcases Wr.mp O with rfl|O
   ·exact I.hok.fresh hL
   ·exact I.hok.fresh (Z3 (J.over a O))
end
noncomputable def qS(k:List Int×D):D:=.tup [.tup (k.1.map D.int),k.2]
noncomputable def uC:D->Hm->Option (D×Hm)
 |.loc a,μ=>match μ[a]? with
  |some (.dT kvs)=>if zB kvs.length then b4 (.tup ((t7 kvs).map qS),μ)else b6|_=>b6
 |_,_=>b6
noncomputable def uD(m:ME):ME:=λb a=>(m b a).bind λr=>uC r.1 r.2
noncomputable def Ez(K:VG):V->Hp->VK->Prop:=λx H Q=>∃a ps,x=.ref a/\H a=b4 (aR a ps)/\eM K H ps/\zB ps.length /\
 ∀(as:List Addr)(L l:Addr),as.length=ps.length->(l::L::as).Nodup->(∀a∈l::L::as,H a=b6)->Q (.ref l) (aI (aI (fG H as ps) L (.lst (eV as ps))) l (.tup (eV as ps)))
section
variable{X:Cx}{o:Expr}{to:TE}{apos cpos p p2 pos pos2:Xq}
theorem Pq(hc:X.calm=b8)(y:X.A.units+64<Xs)(u:X.mg "sorted"=b6) (w:X.mg "tuple"=b6) (n:Gl X "sorted") (r:Gl X "tuple") (R:PE X o to)
  (c:Zq o "items" X.env (eval o X.env)=eval o X.env) (d:(apos.endLine==cpos.line)=b8) :
  PE X (.Call (.Name "tuple" p) [.Call (.Name "sorted" p2) [.Call (.Attribute o "items" apos) [] [] cpos] [] pos2] [] pos) (λj H Q=>to j H λx l=>Ez X.K x l Q):=by
 intro i s j H Q I h;refine XY (i7 I r w Zr ?_);refine XC ?_ rfl rfl;refine a0Q ?_;refine XY (i7 I n u a0v ?_);refine Zg ?_ rfl rfl;refine a0Q ?_;refine a3B c d (aM (R i s j H _ I h) λv A ⟨x,l,B,Y,a,ps,M,e,E,m,q⟩=>?_);subst M;obtain rfl:v=VU a:=Y;obtain⟨U,hl,L,K,g,Z⟩:=D9 B e E;refine⟨"dict","dict.items",a1X,Y7,a1W,g.ty,λb J=>?_,a0p rfl (a3c ?_)⟩
 ·cases J;obtain⟨z,N,O,_⟩:=g;exact⟨z,N,O.2.1⟩
 refine a3V Y7 g.ty a1N (a1D _) (Er a U) ⟨⟨L,K,g⟩,?_⟩;refine a1a ?_;have G:Inv X i j l {A with heap:=A.heap.push {cls:=.type "dict_items",data:=.fields #[.ref a]}}:=B.kept (t':=A.toks) λb o e=>VM _ e;refine aM (Pp hc y G e E m ⟨_,VX _ rfl,rfl,rfl⟩ q) λv s' T=>a1a T
end
theorem EA{K:VG}{π:Nat->Addr}{c:Hm}:∀{as:List Addr}{ps:bL}{H:Hp},Rp K π H c->as.Nodup->(∀a∈as,H a=b6)->Ext π c.length H π c.length (fG H as ps)/\Rp K π (fG H as ps) c
 |[],_,H,R,_,_=>by simp only[fG];exact⟨.refl,R⟩
 |a::as,[],H,R,_,_=>⟨.refl,R⟩|a::as,p::ps,H,R,nd,hf=>by
  rw[W4]at nd;obtain⟨h,e⟩:=R.fresh (o:=.tup [.ref p.2.1,p.2.2]) (hf a (WS ..));obtain⟨i,R2⟩:=EA (as:=as) (ps:=ps) e nd.2 λb d=>by rw[aT (λw:b=a=>nd.1 (w▸d))];exact hf b (Wn _ d)
  exact⟨h.trans i,R2⟩
theorem Pr{K:VG}{Y:ME}:∀σ H Q,tM K (uD Y) σ H Q->tM K Y σ H λx o=>Ez K x o Q:=by
 rintro σ H Q ⟨π,ρ,μ,d,p,R,E,h,k⟩;obtain⟨⟨x,G⟩,h1,h⟩:=VF.mp h;refine⟨π,ρ,μ,x,G,R,E,h1,λm v1 o e1 I i1=>?_⟩;have k1:=k.after e1;dsimp only at h;unfold uC at h;split at h
 ·split at h
  ·rename_i b hc;split at h
   ·rename_i hb;cases h;cases i1;obtain⟨c,e2,T⟩:=mL I hc;have X:c.length=b.length:=by have:=congrArg Xc T.to.1;simpa using this
    refine⟨_,c,rfl,e2,T.keys,by rw[X];exact hb,λe L l al n y=>?_⟩;rw[W4,W4]at n;obtain⟨J,R3⟩:=EA (ps:=c) I n.2.2 λa ha=>y a (Wn _ (Wn _ ha));have hL:fG o e c L=none:=by rw[mQ n.2.1];exact y L (Wn _ (WS ..))
    obtain⟨M,R4⟩:=R3.fresh (o:=.lst (eV e c)) hL;have hl:aI (fG o e c) L (.lst (eV e c)) l=none:=by rw[aT (λw:l=L=>n.1 (by rw[w];exact WS ..)),mQ λw=>n.1 (Wn _ w)];exact y l (WS ..)
    obtain⟨N,R5⟩:=R4.fresh (o:=.tup (eV e c)) hl;refine k1 m _ _ ((J.trans M).trans N) R5 (.tup (.of bR) ?_);have A:c.map (·.1)=b.map (·.1):=T.to.1;have B:∀q:List Nat,(∀i∈q,i<b.length)->IsDs K m p.length (aI (aI (fG o e c) L (.lst (eV e c))) l (.tup (eV e c))) (q.map λi=>V.ref (e.getD i 0)) (q.map (qS∘λi=>b.getD i ([],.non))):=λq s=>by
     induction q with
     |nil=>exact .nil|cons i q ih=>
      have u:=s i (WS ..);have r:e[i]?=b4 (e.getD i 0):=by simp[W3,show i<e.length by omega]
      have z:c[i]?=b4 c[i]:=VT (by omega);have hik:b[i]?=b4 b[i]:=VT u;have O:b.getD i ([],.non)=b[i]:=by simp[W3,u]
      have ep:c.getD i ([],0,.non)=c[i]:=by simp[W3,show i<c.length by omega]
      have Z:=Pf T ([],0,.non) ([],.non) i (by omega);rw[ep,O]at Z;obtain⟨q1,q2,q3⟩:=Z;refine .cons ?_ (ih λj hj=>s j (Wn _ hj));have v:aI (aI (fG o e c) L (.lst (eV e c))) l (.tup (eV e c)) (e.getD i 0)=b4 (.tup [.ref c[i].2.1,c[i].2.2]):=by have h:=WO r;rw[aT (λw:e.getD i 0=l=>n.1 (by rw[<- w];exact Wn _ h)),aT (λw:e.getD i 0=L=>n.2.1 (by rw[<- w];exact h))];exact uB n.2.2 r z
      show IsD K m p.length _ (.ref (e.getD i 0)) (qS (b.getD i ([],.non)));rw[O];have U:=(J.trans M).trans N;have ik:IsD K m p.length o (.ref c[i].2.1) (.tup (b[i].1.map D.int)):=by rw[<- q1];exact .tup q2 (yL _)
      exact .tup (.of v) (.cons (ik.mono U) (.cons (q3.mono U) .nil))
    have ey:eV e c=(cP (λi j=>HT.lexLt ((b.map (·.1)).getD i []) ((b.map (·.1)).getD j [])) b.length).map λi=>V.ref (e.getD i 0):=by unfold eV cD;rw[A,X]
    have fin:=B (cP (λi j=>HT.lexLt ((b.map (·.1)).getD i []) ((b.map (·.1)).getD j [])) b.length) λi u=>WZ.mp ((j0 _ _).mem_iff.mp u);rw[<- ey]at fin;unfold t7;rw[Wo];exact fin
   ·cases h
  ·cases h
 ·cases h
theorem Pt{X:Cx}{o:Expr}{l:ME}{a b p r pos c:Xq}(hc:X.calm=b8)(j:X.A.units+64<Xs)(h:X.mg "sorted"=b6) (i:X.mg "tuple"=b6) (d:Gl X "sorted") (e:Gl X "tuple") (n:QE X o l)(q:jH o=b8)(m:(a.endLine==b.line)=b8) :
  QE X (.Call (.Name "tuple" p) [.Call (.Name "sorted" r) [.Call (.Attribute o "items" a) [] [] b] [] c] [] pos) (uD l):=
 ⟨dC (Pq hc j h i d e n.h (mD q) m) Pr⟩
end L3
namespace L3
open PySem L2
section
variable{P:V6}{w:Wj}{A:Wh}{E:Value->VL->Prop}{s:VL}{d it:Addr}{i ep:Nat}{es:Array DictEntry}{ok ov:Value}
theorem EB{Q:Option Value->VL->Prop}(h:A.handled=b6)(j:IsItemIter s.heap it d i es.size ep ok ov)(g:RawD s.heap d es ep)
  (n:∀e a,es[i]?=b4 e->a1s a it d (i+1) es.size ep e.key e.val s.heap.objs.size->a.get? s.heap.objs.size=b4 {cls:=.type "tuple",data:=.seq #[e.key,e.val]}->
   (∀b o,b≠it->s.heap.get? b=b4 o->a.get? b=b4 o)->Q (b4 (.ref s.heap.objs.size)) {s with heap:=a})
  (p:es[i]?=b6->∀a,a0H it s.heap a->Q b6 {s with heap:=a}):V2 (V8 P w) A (YL (.ref it)) Q E s:=
 yZ (S:=d) h j (.inl rfl) g g.lt (λe a c _ o m _ l=>n e a c (o rfl) m l) p
end
noncomputable def zC(d:Addr)(a:Obj)(ps:bL):It:=⟨λi H=>H d=b4 (.frz a (aR d ps))/\i<ps.length,λi H x H'=>∃t p,x=.ref t/\H t=b6/\ps[i]?=b4 p/\H'=aI H t (.tup [.ref p.2.1,p.2.2]),λi H=>H d=b4 (.frz a (aR d ps))/\ps.length<=i⟩
theorem Pu{P:V6}{w:Wj}{K:VG}{el:List Expr}{kx:Nat}{pt:Xq}{d j:Addr}{ob:Obj}{ps:bL}{es:Array DictEntry}{ep:Nat}(hd:ob.data=.dict es ep):Turn Qc P w K (.Tuple el kx pt) (zC d ob ps) [j] j (λi h=>∃ok p,IsItemIter h j d i es.size ep ok p) where
 mem:=by simp
 obj:=λi h ⟨ok,p,st⟩ b n=>by
  have e:b=j:=by simpa using n
  subst e;exact⟨_,st,λv z=>by
   have z':WQ _=a0n v:=z;cases z'⟩
 keep:=λi h O ⟨ok,p,st⟩ k=>⟨ok,p,k j (by simp) _ st⟩;item:=by
  intro X T hw R hc i L s σ H E I G ⟨ok,p,st⟩ Y;subst T hw R;obtain⟨m,x⟩:=Y;obtain⟨lo,hl,N,M,g,a,J⟩:=mP I m;rw[hd]at a;cases a;obtain⟨_,_,es2,ep2,_,r,he⟩:=Ph I m;rw[hd]at r;cases r;have hs:es.size=ps.length:=by have:=congrArg Xc J;simpa using this
  refine EB (I.ok.hd hc) st g (λe O l a1 a2 a3=>⟨_,rfl,wpAny_letOwnedTupleGo_items a1 λh2 b1 B=>?_⟩) λhn=>by simp at hn;omega
  have Z:ps[i]?=b4 ps[i]:=VT x;have ek:e.key=.ref (ps[i]).2.1:=by have:=congrArg (·[i]?) J;simp only[V5,YD,l,Z,Wu]at this;exact VY this
  obtain⟨u,u1,u2⟩:=he.get (i:=i) (x:=ps[i].2.2) (by rw[V5,Z];rfl);rw[V5,YD,l]at u1;cases u1;have y:j<s.heap.objs.size:=VR st;have ht2:h2.get? s.heap.objs.size=b4 {cls:=.type "tuple",data:=.seq #[e.key,e.val]}:=(B.2 _ (Xr y)).trans a2;have U:H s.heap.objs.size=none:=I.hok.fresh (VS _);refine⟨.ref s.heap.objs.size,aI H s.heap.objs.size (.tup [.ref (ps[i]).2.1,(ps[i]).2.2]),?_,rfl,⟨_,ps[i],rfl,U,Z,rfl⟩,⟨_,_,b1⟩,λc n=>?_⟩
  ·refine yP (s:=s) (h':=h2) (t':=s.toks) (ch:=[j]) I (λc oc n ec=>?_) G (VS _) ?_
   ·have q:c≠j:=by simpa using n
    exact(B.2 c q).trans (a3 c oc q ec)
   ·exact⟨by show(2:Nat)<=VW;decide,[e.key,e.val],.cons ek (.cons u2 .nil),_,ht2,rfl,0,rfl,rfl⟩
  ·rw[aT]
   ·exact(G c n).1
   ·have e:c=j:=by simpa using n
    rw[e];exact V4 y
 done:=by
  intro X T hw R hc i L s σ H E I G ⟨ok,p,st⟩ Y;subst T hw R;obtain⟨m,x⟩:=Y;obtain⟨lo,hl,N,M,g,a,J⟩:=mP I m;rw[hd]at a;cases a;have hs:es.size=ps.length:=by have:=congrArg Xc J;simpa using this
  obtain⟨f0,f1,f2,f3,f4,f5⟩:=G j (by simp);exact EB (I.ok.hd hc) st g (λe O l=>by
   have:=(W5.mp l).1;omega) λ_ O eb=>⟨rfl,I.turned (t':=s.toks) (λb o n e=>eb b o n e) f0 f1 f3 f4 f5⟩
 self:=λA i s Q E ⟨ok,p,st⟩ h=>PySem.W.kcp_self st h
theorem Pw{X:Cx}{l:Expr}{G:List Expr}{L:Nat}{pt:Xq}{M:TE}{a c:Xq}(K:PE X l M)(j:Zq l "items" X.env (eval l X.env)=eval l X.env) (m:(a.endLine==c.line)=b8) :
  PI X (.Tuple G L pt) (.Call (.Attribute l "items" a) [] [] c) (λr H R=>M r H λv n=>∃d A B,v=.ref d/\n d=b4 (.frz A (aR d B))/\R (zC d A B) n):=by
 intro i s r H R I h;refine a3B j m (aM (K i s r H _ I h) λv p ⟨y,n,E,r1,q1⟩=>?_);obtain⟨d,A,B,e,J,q⟩:=q1;subst e;obtain rfl:v=VU d:=r1;obtain⟨lo,K,T,O,g,hd,he⟩:=mP E J;refine⟨"dict","dict.items",a1X,Y7,a1W,g.ty,λb N=>?_,a0p rfl (a3c ?_)⟩
 ·cases N;obtain⟨z,Y,w,_⟩:=g;exact⟨z,Y,w.2.1⟩
 refine a3V Y7 g.ty a1N (a1D _) (Er d lo) ⟨⟨T,O,g⟩,?_⟩;have u:Inv X i r n {p with heap:=p.heap.push {cls:=.type "dict_items",data:=.fields #[.ref d]}}:=E.kept (t':=p.toks) λb o e=>VM _ e;obtain⟨lo2,hl2,U,Q,w,x,he2⟩:=mP u J;show V2 (V8 X.prog X.w) X.A (a2h (.ref p.heap.objs.size)) (wA X i r (.Tuple G L pt) R) X.xe _;refine Em ⟨_,VX _ rfl,rfl,rfl⟩ w ⟨_,[_],_,_,n,rfl,u.kept (t':=p.toks) λb o e=>VM _ e,Pu x,⟨_,_,VX _ rfl⟩,λb Z=>?_,q⟩;have e:=WL.mp Z;subst e;exact u.fpOk (VS _) (u.hok.fresh (VS _))
noncomputable def jK(kvs:List (List Int×D)):List D:=kvs.map λk=>.tup [.tup (k.1.map D.int),k.2]
theorem Px{K:VG}{π:Nat->Addr}{n:Nat}{H:Hp}{d:Addr}{o:Obj}{ps:bL}{kvs:List (List Int×D)}(j:H d=b4 (.frz o (aR d ps)))(T:IsTs K π n H ps kvs):Wk K (zC d o ps) (eI (.tup (jK kvs))) π n H:=by
 have I:ps.length=kvs.length:=by have:=congrArg Xc T.to.1;simpa using this
 refine⟨λh E q i e R z=>?_,λh E q i r e R z=>?_⟩
 ·have a:(jK kvs)[i]?=none:=VY z;have:=Ws.mp a;rw[jK,VI]at this;exact⟨e.frz _ _ _ j,by omega⟩
 ·have a:(jK kvs)[i]?=b4 r:=VY z;have B:i<kvs.length:=by have:=(VN.mp a).1;rwa [jK,VI]at this
  refine⟨⟨e.frz _ _ _ j,by omega⟩,λv G ⟨t,p,s,u,w,x⟩=>?_⟩;subst s x;have b:kvs[i]?=b4 kvs[i]:=VT B;obtain⟨J,l,y⟩:=(T.to.2.1.mono e).get (i:=i) (d:=D.tup ((kvs[i]).1.map D.int)) (by rw[V5,b];rfl);obtain⟨L,m,A⟩:=(T.to.2.2.mono e).get (i:=i) (d:=(kvs[i]).2) (by rw[V5,b];rfl);rw[V5,w]at l m;cases l;cases m;obtain⟨c,R2⟩:=R.fresh (o:=.tup [.ref p.2.1,p.2.2]) u;rw[jK,V5,b]at a;cases a;exact⟨c,R2,.tup (.of bR) (.cons (y.mono c) (.cons (A.mono c) .nil))⟩
end L3
namespace L3
open PySem L2
theorem Py{X:Cx}{l:Expr}{j:TE}(m:PE X l j):PE X l (λσ H Q=>j σ H λv a=>∃d ps,v=.ref d/\a d=b4 (aR d ps)/\∀c,Q v (aI a d (.frz c (aR d ps)))):=by intro b s σ H Q I h;refine aM (m b s σ H _ I h) λv r ⟨y,a,i,p,o⟩=>?_;obtain⟨d,ps,rfl,e,q⟩:=o;obtain⟨_,⟨c,n⟩,_⟩:=(show ObjOk X.prog X.w a r.heap d (aR d ps)from i.hok _ _ e);exact⟨_,_,Inv.freeze i e n,p,q c⟩
noncomputable def qT(m:ME):MI:=λc b=>(m c b).bind λp=>match p.1 with
 |.loc a=>match p.2[a]? with
  |some (.dT kvs)=>b4 (eI (.tup (jK kvs)),kvs.length+1,p.2.set a (.dF kvs))|_=>b6
 |_=>b6
theorem Pz{X:Cx}{e:Expr}{m:ME}{a b:Xq}(h:QE X e m)(y:jH e=b8)(w:(a.endLine==b.line)=b8):QJT X (.Call (.Attribute e "items" a) [] [] b) (qT m):=⟨λes N pt a6G s σ H R I hw=>by
 obtain⟨K,L,B,A,n,G,r,E,c,k⟩:=hw;obtain⟨⟨x,J⟩,v,c⟩:=VF.mp c;dsimp only at c;split at c
 ·split at c
  ·rename_i j hc;cases c;refine Pw (Py h.h) (mD y) w a6G s σ H R I ⟨K,L,B,_,_,r,E,v,λo O M u p z=>?_⟩;cases z;obtain⟨d,q,T⟩:=mL p hc;refine⟨_,d,rfl,q,λl=>?_⟩;obtain⟨i,R2⟩:=p.put (c:=.dF j) (o:=.frz l (aR _ d)) (VN.mp hc).1 q (.inr (.inr ⟨_,rfl⟩)) ⟨l,d,rfl,T.to⟩;exact⟨_,l,d,rfl,bR,k o _ _ (u.trans i) R2 (Px bR (IsTs.of T.to.1 (T.to.2.1.mono i) (T.to.2.2.mono i)))⟩
  ·cases c
 ·cases c⟩
end L3
namespace L3
open PySem L2
noncomputable def oU:D->List D->Hm->Option (D×Hm)
 |.loc a,[x],μ=>match μ[a]? with
  |some (.lst xs)=>(jJ μ x xs).bind λbs=>if bs.findIdx id<bs.length/\bs.length<=VW then b4 (.non,μ.set a (.lst (xs.eraseIdx (bs.findIdx id))))else b6|_=>b6
 |_,_,_=>b6
inductive rRemove (K:VG):V->List V->Hp->VK->Prop
 |mk {H:Hp}{Q:VK}{π:Nat->Addr}{μ:Hm}{a:Nat}{xs:List D}{y:V}{dy:D}{bs:List Bool}{ws:List V}(R:Rp K π H μ)(hx:μ[a]?=b4 (.lst xs))(iy:IsD K π μ.length H y dy)(he:jJ μ dy xs=b4 bs)(hf:bs.findIdx id<bs.length)(hH:H (π a)=b4 (.lst ws))(q:Q .non (aI H (π a) (.lst (ws.eraseIdx (bs.findIdx id))))):rRemove K (.ref (π a)) [y] H Q
theorem EC{K:VG}{π:Nat->Addr}{n:Nat}{H:Hp}:∀{vs:List V}{ds:List D},IsDs K π n H vs ds->∀k,IsDs K π n H (vs.eraseIdx k) (ds.eraseIdx k)
 |_,_,.nil,_=>.nil|_,_,.cons _ t,0=>t|_,_,.cons h t,k+1=>.cons h (EC t k)
theorem ED:∀{vs:List V}{us:List Value},Vals vs us->∀k,Vals (vs.eraseIdx k) (us.eraseIdx k)
 |_,_,.nil,_=>.nil|_,_,.cons _ t,0=>t|_,_,.cons h t,k+1=>.cons h (ED t k)
theorem PB{K:VG}:nW K oU (rRemove K):=by
 intro u H y x ds d s v w Q R q p a k;unfold oU at a;split at a
 ·split at a
  ·rename_i h b;obtain⟨bs,l,a⟩:=VF.mp a;split at a
   ·rename_i n;cases a;cases p with
    |cons o r=>cases r;cases q;obtain⟨e,c,m⟩:=R.lst _ h b;obtain⟨j,i⟩:=R.put (c:=.lst (h.eraseIdx (bs.findIdx id))) (o:=.lst (e.eraseIdx (bs.findIdx id))) (VN.mp b).1 c (.inl ⟨e,rfl⟩) (EC m _);exact .mk R b o l n.1 c (k u _ _ j i .non)
   ·cases a
  ·cases a
 ·cases a
theorem EE{l:Addr}{us:Array Value}{n:Nat}{x:Value}{g:Value->Bool}{j:Nat}(p:j<us.size)(hz:us.size<=VW)(hit:g us[j]=b8) :
  ∀(k i:Nat),i+k=j->(∀m (r:m<us.size),i<=m->m<j->g us[m]=b7)->Meets (Builtin.«list.remove.loop» ⟨[.ref l,x,X2 i],[]⟩)
   λA R s=>(s.heap.get? l=b4 {cls:=.type "list",dict:=b6,data:=.seq us n,slots:=#[]}/\∀y∈us,Zb A.in1 s y x (g y))/\R (.ok (.ret .none)) {s with heap:=s.heap.update l (WU (·.eraseIdxIfInBounds j))}
 |0,i,e,_,prog,w,A,R,s,h=>by
  obtain⟨v,u,d,B,z⟩:=s;obtain⟨⟨c,o⟩,h⟩:=h;obtain rfl:i=j:=e;wp_walk using Zs c;rw[show us[((i:Nat):Int).toNat]?=b4 us[i] by simp[p]];refine VH (o _ (a1b p) prog w _ _ ?_);rw[hit];have q:(us.eraseIdxIfInBounds i).size<=VW+1:=by
   have:(us.eraseIdxIfInBounds i).size<=us.size:=by unfold a2q;split<;>simp
   omega
  wp_walk using(Xz c rfl (hz:=hz) (_hz':=q)),Zs c;simpa using h
 |k+1,i,e,no,prog,w,A,R,s,h=>by
  obtain⟨v,u,d,B,z⟩:=s;obtain⟨⟨c,o⟩,h⟩:=h;have lt:i<us.size:=by omega
  wp_walk using Zs c;rw[show us[((i:Nat):Int).toNat]?=b4 us[i] by simp[lt]];refine VH (o _ (a1b lt) prog w _ _ ?_);rw[no i lt (VS _) (by omega)];wp_walk;rw[show((i:Int)+1)=((i+1:Nat):Int) by omega];refine⟨Xm YF _,W8 a1r ?_⟩;rw[Wx YF _];exact EE p hz hit k (i+1) (by omega) (λm r a b=>no m r (by omega) b) prog w A R _ ⟨⟨c,o⟩,h⟩
theorem PC{l:Addr}{us:Array Value}{n:Nat}{x:Value}{g:Value->Bool}{j:Nat}(o:j<us.size)(hz:us.size<=VW)(hit:g us[j]=b8)(no:∀m (e:m<us.size),m<j->g us[m]=b7):Meets (Builtin.«list.remove» ⟨[.ref l,x],[]⟩)
   λA R s=>(s.heap.get? l=b4 {cls:=.type "list",dict:=b6,data:=.seq us n,slots:=#[]}/\∀y∈us,Zb A.in1 s y x (g y))/\R (.ok (.ret .none)) {s with heap:=s.heap.update l (WU (·.eraseIdxIfInBounds j))}:=by
 intro a w A R s h;obtain⟨q,p,d,u,r⟩:=s;obtain⟨⟨c,i⟩,h⟩:=h;wp_walk using Zs c;refine⟨Xm YF _,W8 a1r ?_⟩;rw[Wx YF _];exact EE o hz hit j 0 (a2X _) (λm e _ b=>no m e b) a w A R _ ⟨⟨c,i⟩,h⟩
theorem PD{X:Cx}(hu:X.A.units+20<Xs):pS X "list.remove" (rRemove X.K):=by
 intro K s σ H x vs v us Q I rx Z h;obtain⟨R,O,U,N,w,p,q⟩:=h;rename_i π μ a xs y dy bs J;cases rx;obtain⟨u,rfl,Y⟩:=Z.one;obtain⟨E,j,hd⟩:=R.lst a xs O;obtain rfl:J=E:=by rw[p]at j;cases j;rfl
 obtain⟨z,b,n,r,hl,e⟩:=I.lstM p;obtain⟨g,L,G⟩:=DZ I R (A:=X.A.in1) (by rw[hX];omega) Y U hd r N;have l:bs.length=b.length:=by rw[<- G,VI]
 have A:bs.findIdx id<b.length:=by rw[<- l];exact w
 have c:∀m (o:m<b.length),bs[m]?=b4 (g b[m]):=λm o=>by rw[<- G,V5,VT o];rfl
 refine a1x F.slot_list_remove ⟨_,e,rfl⟩ F.entry_list_remove (F.args_list_remove_2 _ _) (PC (l:=π a) (us:=b.toArray) (n:=n) (x:=u) (g:=g) (j:=bs.findIdx id) (by simpa using A) (by rw[V7];omega) ?_ ?_) ⟨⟨e,λy T=>L y (by simpa using T)⟩,⟨.non,_,I.lset (its':=b.eraseIdx (bs.findIdx id)) p e ?_ (ED r _) ?_,rfl,q⟩⟩
 ·have d:=a3l (p:=id) (xs:=bs) (w:=w);have i:=c _ A;rw[VT w]at i;rw[VY i]at d;simpa using d
 ·intro m o B;have M:m<b.length:=by simpa using o
  have d:=a2H (p:=id) (xs:=bs) B;have i:=c _ M;rw[VT (by omega)]at i;rw[VY i]at d;simpa using d
 ·unfold a2q;rw[dif_pos (by simpa using A)];simp
 ·have:=List.length_eraseIdx_le J (bs.findIdx id);omega
end L3
namespace L3
open PySem L2
open PyProof.Rows (IsTup IntsAre)
section
variable{P:V6}{w:Wj}{A:Wh}{E:Value->VL->Prop}{s:VL}
noncomputable def qU(h:WI)(v:Value)(p:Int×Int):Prop:=∃a xs,v=.ref a/\a5A h a xs/\Zd xs.toList [p.1,p.2]
theorem PF{u v:Value}{p q:Int×Int}{Q:Value->VL->Prop}(c:A.units<Xs)(a:qU s.heap u p)(b:qU s.heap v q)(h:Q (.bool (HT.lexLt [p.1,p.2] [q.1,q.2])) s):V2 (V8 P w) A (Y6 .Lt u v) Q E s:=by obtain⟨a,l,rfl,i,d⟩:=a;obtain⟨b,m,rfl,j,e⟩:=b;exact HT.lt_tupInts i j d e c h
theorem PH{u v:Value}{p q:Int×Int}{Q:Value->VL->Prop}(N:A.units+2<Xs)(a:qU s.heap u p)(b:qU s.heap v q)(h:Q (.bool (HT.lexLt [q.1,q.2] [p.1,p.2])) s):V2 (V8 P w) A (Y6 .Gt u v) Q E s:=by
 obtain⟨a,J,rfl,⟨B,n,r,O,M⟩,d⟩:=a;obtain⟨b,K,rfl,⟨G,m,o,R,L⟩,j⟩:=b;obtain⟨J⟩:=J;obtain⟨K⟩:=K;refine wpAny_richCompare_same_room (op:=.Gt) ⟨B,n,r⟩ ⟨G,m,o⟩ F.slot_tuple_gt (XX F.slot_tuple_gt ⟨B,n,r⟩ F.entry_tuple_gt ?_ (F.args_tuple_gt_2 _ _)) (by omega);refine VH (m:=a2S (.ref b) (.type "tuple")) (a2e ⟨G,m,o⟩ isSubtype_tuple_tuple ?_);simp only[a0j,Wq,if_false];refine VH (a4R n M (VH (a4R m L (VH ?_))));cases d with
 |cons x t d=>
 cases d with
 |cons T H d=>
 cases d;cases j with
 |cons y u j=>
 cases j with
 |cons U I j=>
 cases j;show V2 _ _ (forIn [(Wy p.1 t,Wy q.1 u),(Wy p.2 H,Wy q.2 I)] _ _) _ _ s;simp only[a4G,List.forIn_nil];have c:∀(i:Int)(t:a5a),(Za P w).is i (.int i t)=true:=λi t=>by simp[Za,a5t]
 refine VH (VH ((Za P w).eqBool (c p.1 t) (c q.1 u) ?_));by_cases e:p.1=q.1
 ·rw[decide_eq_true e];simp only[a0j,Wq,if_false];refine VQ (VH (VH ((Za P w).eqBool (c p.2 H) (c q.2 I) ?_)));by_cases l:p.2=q.2
  ·rw[decide_eq_true l];rw[e,l,t6]at h;simp only[a0j,Wq,if_false];exact VQ (VQ (VQ ⟨.bool b7,rfl,(λz=>nomatch z),h⟩))
  ·rw[decide_eq_false l];simp only[a2c,if_true];refine VH (a1v (VH (a1O ?_)));have:HT.lexLt [q.1,q.2] [p.1,p.2]=decide (q.2<p.2):=by simp[HT.lexLt,e,WG l]
   rw[this]at h;exact VH (VQ (VQ (VQ (VQ ⟨_,rfl,(λz=>nomatch z),h⟩))))
 ·rw[decide_eq_false e];simp only[a2c,if_true];refine VH (a1v (VH (a1O ?_)));have:HT.lexLt [q.1,q.2] [p.1,p.2]=decide (q.1<p.1):=by simp[HT.lexLt,WG e]
  rw[this]at h;exact VH (VQ (VQ (VQ (VQ ⟨_,rfl,(λz=>nomatch z),h⟩))))
theorem PJ{a b:Value}{c:Bool}{I S:Addr}{U B:List Addr}{St:Nat->WI->Prop}{R:a2l->VL->Prop}{z:Nat}(K:Walks P w A.in1 I U B 2 (λi v=>(#[a,b]:Array Value)[i]?=b4 v) St)(N:S∉U)(st:St 0 s.heap)(H:s.heap.get? S=b4 {cls:=.type "list",dict:=b6,data:=.seq #[] z,slots:=#[]})
  (hc:∀t (Q E:Value->VL->Prop),(∀x o,x∉B->x≠S->s.heap.get? x=b4 o->t.heap.get? x=b4 o)->Q (.bool c) t->V2 (V8 P w) A.in1 (Y6 .Lt b a) Q E t)
  (q:∀Z tk,(∀x o,x∉B->x≠S->s.heap.get? x=b4 o->Z.get? x=b4 o)->R (.ok (.ret (if c then b else a))) {s with heap:=Z,toks:=tk}):Z2 (V8 P w) A (.builtin "min.loop" ⟨[.ref I,.none,.ref S],[]⟩) R s:=by
 have r:S∉B:=λz=>N (K.sub _ z);have O:(toString "min"++toString ".loop":String)="min.loop":=by decide
 have d:∀{h:WI}{u:Value}(x:Addr)(o:Obj),x≠S->h.get? x=b4 o->(h.update S (WU λ_=>#[u,u])).get? x=b4 o:=λx o n e=>(Wi _ _ (WG n)).trans e;refine W8 F.entry_min_loop ?_;rw[Wx F.plain_min_loop _];refine VH (m:=ZX (.ref S)) (Yx H rfl (VH (m:=tryCatch (YL (.ref I)) _) (XR (K.item 0 s _ _ (by decide) st λv h1 tk1 pv T L=>?_))));obtain rfl:a=v:=by simpa using pv
 refine VH (m:=a0f S λ_=>#[a,a]) (Xz (L S _ r H) rfl ?_);rw[O];refine VQ ⟨Xm F.plain_min_loop _,W8 F.entry_min_loop ?_⟩;rw[Wx F.plain_min_loop _];have X:=WH (WU λ_=>#[a,a]) (L S _ r H) rfl;refine VH (m:=ZX (.ref S)) (Yx X rfl (VH (m:=tryCatch (YL (.ref I)) _) (XR (K.item 1 _ _ _ (by decide) (K.frame _ _ _ T λx J o e=>d x o (λz=>N (z▸J)) e) λv h2 tk2 pv y k2=>?_))));obtain rfl:b=v:=by simpa using pv
 have M:∀x o,x∉B->x≠S->s.heap.get? x=b4 o->h2.get? x=b4 o:=λx o j l e=>k2 x o j (d x o l (L x o j e));have G:=k2 S _ r X;show V2 _ A.in1 (tryCatch (holding [b,b] (Y6 .Lt b a >>= _)) _ >>= _) _ _ _;refine VH (XR (WN (VH (hc _ _ _ M (VH (WN (Xl (VH (Yn (VQ ?_))))))))));cases c with
 |true=>simp only[if_true]at q ⊢;refine VH (Xz G rfl (VH (Yn ?_)));rw[O];refine VQ ⟨Xm F.plain_min_loop _,W8 F.entry_min_loop ?_⟩;rw[Wx F.plain_min_loop _];have Y:=WH (WU λ_=>#[b,b]) G rfl;refine VH (m:=ZX (.ref S)) (Yx Y rfl (VH (m:=tryCatch (YL (.ref I)) _) (XR (K.done _ _ _ (K.frame _ _ _ y λx J o e=>d x o (λz=>N (z▸J)) e) λh4 m p=>?_))));refine VH (m:=a0f S λ_=>#[]) (Xz (p S _ r Y) rfl (VH (Yn (VQ ?_))));exact q _ m λx o j l e=>(Wi _ _ (WG l)).trans (p x o j (d x o l (M x o j l e)))|false=>simp only[Wq,if_false]at q ⊢;refine VH (Yn ?_);rw[O];refine VQ ⟨Xm F.plain_min_loop _,W8 F.entry_min_loop ?_⟩;rw[Wx F.plain_min_loop _];refine VH (m:=ZX (.ref S)) (Yx G rfl (VH (m:=tryCatch (YL (.ref I)) _) (XR (K.done _ _ _ y λh4 m p=>?_))));refine VH (m:=a0f S λ_=>#[]) (Xz (p S _ r G) rfl (VH (Yn (VQ ?_))));exact q _ m λx o j l e=>(Wi _ _ (WG l)).trans (p x o j (M x o j l e))
theorem PK{a b:Value}{c:Bool}{Q:Value->VL->Prop}(v:A.handled=b6)(hc:∀t (Q E:Value->VL->Prop),(∀x o,s.heap.get? x=b4 o->t.heap.get? x=b4 o)->Q (.bool c) t->V2 (V8 P w) A.in1 (Y6 .Lt b a) Q E t)
  (q:∀i n,(∀x o,s.heap.get? x=b4 o->i.get? x=b4 o)->Q (if c then b else a) {s with heap:=i,toks:=n}):V2 (V8 P w) A (call (.builtin "min") [a,b]) Q E s:=by
 have y:(toString "min"++toString ".loop":String)="min.loop":=by decide
 refine a4X F.kind_min F.plain_min F.entry_min (F.args_min2 _ _) ?_;refine VH (m:=a0E "min" ["key","default"] 0 ⟨[],[]⟩) (a2r (show _=pure [b6,b6]from rfl) ?_);refine VH (m:=a4C [a,b]) (W7 ?_);have p:(s.heap.push {cls:=.type "tuple",data:=.seq #[a,b]}).IsTuple s.heap.objs.size #[a,b]:=⟨_,VX _ rfl,rfl,0,rfl⟩;have j:(s.heap.push {cls:=.type "tuple",data:=.seq #[a,b]}).objs.size=s.heap.objs.size+1:=XW ..;refine VH (YJ p (VH (W7 ?_)));have d:((s.heap.push {cls:=.type "tuple",data:=.seq #[a,b]}).push {cls:=.type "tuple_iterator",data:=.fields #[.ref s.heap.objs.size,.int 0 0]}).objs.size=s.heap.objs.size+2:=by rw[XW,j]
 rw[y];have m:∀x o,s.heap.get? x=b4 o->x<s.heap.objs.size:=λx o e=>VR e;refine VQ ⟨Xm F.plain_min_loop _,PJ (c:=c) (a1p (A:=A.in1) v _ s.heap.objs.size (by rw[j];exact V4 (XU _)) #[a,b]) ?_ ⟨⟨_,VM _ (VX _ rfl),rfl,rfl⟩,(p.push _).push _⟩ (VX _ rfl) (λt u r k h=>hc t u r (λx o e=>?_) h) λi n k=>q i n λx o e=>?_⟩
 ·rw[d,j];simp
 all_goals
  have l:=m x o e;refine k x o (λz=>?_) (λz=>?_) (VM _ (VM _ (VM _ e)))
  ·rw[j]at z;rw[WL.mp z]at l;exact Xp _ (YQ l)
  ·rw[z,d]at l;exact Xp _ (YQ (YQ l))
theorem PL{a b:Value}{c:Bool}{I S:Addr}{U B:List Addr}{St:Nat->WI->Prop}{R:a2l->VL->Prop}{z:Nat}(K:Walks P w A.in1 I U B 2 (λi v=>(#[a,b]:Array Value)[i]?=b4 v) St)(N:S∉U)(st:St 0 s.heap)(H:s.heap.get? S=b4 {cls:=.type "list",dict:=b6,data:=.seq #[] z,slots:=#[]})
  (hc:∀t (Q E:Value->VL->Prop),(∀x o,x∉B->x≠S->s.heap.get? x=b4 o->t.heap.get? x=b4 o)->Q (.bool c) t->V2 (V8 P w) A.in1 (Y6 .Gt b a) Q E t)
  (q:∀Z tk,(∀x o,x∉B->x≠S->s.heap.get? x=b4 o->Z.get? x=b4 o)->R (.ok (.ret (if c then b else a))) {s with heap:=Z,toks:=tk}):Z2 (V8 P w) A (.builtin "max.loop" ⟨[.ref I,.none,.ref S],[]⟩) R s:=by
 have r:S∉B:=λz=>N (K.sub _ z);have O:(toString "max"++toString ".loop":String)="max.loop":=by decide
 have d:∀{h:WI}{u:Value}(x:Addr)(o:Obj),x≠S->h.get? x=b4 o->(h.update S (WU λ_=>#[u,u])).get? x=b4 o:=λx o n e=>(Wi _ _ (WG n)).trans e;refine W8 F.entry_max_loop ?_;rw[Wx F.plain_max_loop _];refine VH (m:=ZX (.ref S)) (Yx H rfl (VH (m:=tryCatch (YL (.ref I)) _) (XR (K.item 0 s _ _ (by decide) st λv h1 tk1 pv T L=>?_))));obtain rfl:a=v:=by simpa using pv
 refine VH (m:=a0f S λ_=>#[a,a]) (Xz (L S _ r H) rfl ?_);rw[O];refine VQ ⟨Xm F.plain_max_loop _,W8 F.entry_max_loop ?_⟩;rw[Wx F.plain_max_loop _];have X:=WH (WU λ_=>#[a,a]) (L S _ r H) rfl;refine VH (m:=ZX (.ref S)) (Yx X rfl (VH (m:=tryCatch (YL (.ref I)) _) (XR (K.item 1 _ _ _ (by decide) (K.frame _ _ _ T λx J o e=>d x o (λz=>N (z▸J)) e) λv h2 tk2 pv y k2=>?_))));obtain rfl:b=v:=by simpa using pv
 have M:∀x o,x∉B->x≠S->s.heap.get? x=b4 o->h2.get? x=b4 o:=λx o j l e=>k2 x o j (d x o l (L x o j e));have G:=k2 S _ r X;show V2 _ A.in1 (tryCatch (holding [b,b] (Y6 .Gt b a >>= _)) _ >>= _) _ _ _;refine VH (XR (WN (VH (hc _ _ _ M (VH (WN (Xl (VH (Yn (VQ ?_))))))))));cases c with
 |true=>simp only[if_true]at q ⊢;refine VH (Xz G rfl (VH (Yn ?_)));rw[O];refine VQ ⟨Xm F.plain_max_loop _,W8 F.entry_max_loop ?_⟩;rw[Wx F.plain_max_loop _];have Y:=WH (WU λ_=>#[b,b]) G rfl;refine VH (m:=ZX (.ref S)) (Yx Y rfl (VH (m:=tryCatch (YL (.ref I)) _) (XR (K.done _ _ _ (K.frame _ _ _ y λx J o e=>d x o (λz=>N (z▸J)) e) λh4 m p=>?_))));refine VH (m:=a0f S λ_=>#[]) (Xz (p S _ r Y) rfl (VH (Yn (VQ ?_))));exact q _ m λx o j l e=>(Wi _ _ (WG l)).trans (p x o j (d x o l (M x o j l e)))|false=>simp only[Wq,if_false]at q ⊢;refine VH (Yn ?_);rw[O];refine VQ ⟨Xm F.plain_max_loop _,W8 F.entry_max_loop ?_⟩;rw[Wx F.plain_max_loop _];refine VH (m:=ZX (.ref S)) (Yx G rfl (VH (m:=tryCatch (YL (.ref I)) _) (XR (K.done _ _ _ y λh4 m p=>?_))));refine VH (m:=a0f S λ_=>#[]) (Xz (p S _ r G) rfl (VH (Yn (VQ ?_))));exact q _ m λx o j l e=>(Wi _ _ (WG l)).trans (p x o j (M x o j l e))
theorem PM{a b:Value}{c:Bool}{Q:Value->VL->Prop}(v:A.handled=b6)(hc:∀t (Q E:Value->VL->Prop),(∀x o,s.heap.get? x=b4 o->t.heap.get? x=b4 o)->Q (.bool c) t->V2 (V8 P w) A.in1 (Y6 .Gt b a) Q E t)
  (q:∀i n,(∀x o,s.heap.get? x=b4 o->i.get? x=b4 o)->Q (if c then b else a) {s with heap:=i,toks:=n}):V2 (V8 P w) A (call (.builtin "max") [a,b]) Q E s:=by
 have y:(toString "max"++toString ".loop":String)="max.loop":=by decide
 refine a4X F.kind_max F.plain_max F.entry_max (F.args_max2 _ _) ?_;refine VH (m:=a0E "max" ["key","default"] 0 ⟨[],[]⟩) (a2r (show _=pure [b6,b6]from rfl) ?_);refine VH (m:=a4C [a,b]) (W7 ?_);have p:(s.heap.push {cls:=.type "tuple",data:=.seq #[a,b]}).IsTuple s.heap.objs.size #[a,b]:=⟨_,VX _ rfl,rfl,0,rfl⟩;have j:(s.heap.push {cls:=.type "tuple",data:=.seq #[a,b]}).objs.size=s.heap.objs.size+1:=XW ..;refine VH (YJ p (VH (W7 ?_)));have d:((s.heap.push {cls:=.type "tuple",data:=.seq #[a,b]}).push {cls:=.type "tuple_iterator",data:=.fields #[.ref s.heap.objs.size,.int 0 0]}).objs.size=s.heap.objs.size+2:=by rw[XW,j]
 rw[y];have m:∀x o,s.heap.get? x=b4 o->x<s.heap.objs.size:=λx o e=>VR e;refine VQ ⟨Xm F.plain_max_loop _,PL (c:=c) (a1p (A:=A.in1) v _ s.heap.objs.size (by rw[j];exact V4 (XU _)) #[a,b]) ?_ ⟨⟨_,VM _ (VX _ rfl),rfl,rfl⟩,(p.push _).push _⟩ (VX _ rfl) (λt u r k h=>hc t u r (λx o e=>?_) h) λi n k=>q i n λx o e=>?_⟩
 ·rw[d,j];simp
 all_goals
  have l:=m x o e;refine k x o (λz=>?_) (λz=>?_) (VM _ (VM _ (VM _ e)))
  ·rw[j]at z;rw[WL.mp z]at l;exact Xp _ (YQ l)
  ·rw[z,d]at l;exact Xp _ (YQ (YQ l))
end
noncomputable def zD(x:D):Option (Int×Int):=(cU x).bind λk=>match k with
 |[a,b]=>b4 (a,b)|_=>b6
noncomputable def uE(f:Int×Int->Int×Int->Bool)(g:MF):MF:=λds a=>match ds with
 |[x,y]=>(match zD x,zD y with
  |some p,b4 q=>b4 (if f p q then y else x,a)
  |_,_=>g ds a)
 |_=>g ds a
noncomputable def oV:MF:=uE (λp q=>HT.lexLt [q.1,q.2] [p.1,p.2]) yN
noncomputable def uF:MF:=uE (λp q=>HT.lexLt [p.1,p.2] [q.1,q.2]) yO
inductive rMm (f:Int×Int->Int×Int->Bool)(K:VG):List V->Hp->VK->Prop
 |mk {H:Hp}{Q:VK}{a b:Addr}{p q:Int×Int}(ha:SqT K H a ([p.1,p.2].map V.int))(hb:SqT K H b ([q.1,q.2].map V.int))(k:Q (.ref (if f p q then b else a)) H):rMm f K [.ref a,.ref b] H Q
theorem EF{x:D}{p:Int×Int}(h:zD x=b4 p):x=.tup ([p.1,p.2].map D.int):=by
 obtain⟨k,b,a⟩:=VF.mp h;rw[qH b];split at a
 ·cases a;rfl
 ·cases a
theorem qV{K:VG}{π:Nat->Addr}{n:Nat}{H:Hp}{v:V}{p:List Int}(h:IsD K π n H v (.tup (p.map D.int))):∃a,v=.ref a/\SqT K H a (p.map V.int):=by
 cases h with
 |@tup a c ds b hd=>have:=ints_of' hd;subst this;exact⟨a,rfl,b⟩
theorem EG{K:VG}{f:Int×Int->Int×Int->Bool}{g:MF}{r:List V->Hp->VK->Prop}(j:dZ K g r):dZ K (uE f g) (λxs H Q=>rMm f K xs H Q\/r xs H Q):=by
 intro h H q xs d e p Q R i c k;unfold uE at c;split at c
 ·split at c
  ·rename_i s u;cases c;cases i with
   |cons l t=>
   cases t with
   |cons m t=>
   cases t;have n:=l;have o:=m;rw[EF s]at n;rw[EF u]at o;obtain⟨a,rfl,v⟩:=qV n;obtain⟨b,rfl,w⟩:=qV o;refine .inl (.mk v w (k h _ H .refl R ?_));split
   ·exact m
   ·exact l
  ·exact .inr (j h H q _ d e p Q R i c k)
 ·exact .inr (j h H q _ d e p Q R i c k)
section
variable{X:Cx}
theorem uG{a6G:List (Addr×Obj)}{σ:St}{H:Hp}{s:VL}(I:Inv X a6G σ H s){a:Addr}{p:Int×Int}(h:SqT X.K H a ([p.1,p.2].map V.int)){h':WI}(c:∀x o,s.heap.get? x=b4 o->h'.get? x=b4 o):qU h' (.ref a) p:=by obtain⟨b,r,⟨o,e,z⟩,_⟩:=I.tuple h;exact⟨a,_,rfl,⟨o,c _ _ e,z⟩,wW r⟩
theorem PN(hc:X.calm=b8)(n:X.A.units+64<Xs):CallR X (.builtin "min") (rMm (λp q=>HT.lexLt [q.1,q.2] [p.1,p.2]) X.K):=by intro b s y H x w Q I r h;obtain⟨c,d,k⟩:=h;obtain⟨u,v,rfl,e,i⟩:=pR r;cases e;cases i;refine PK (I.ok.hd hc) (λt l j a h=>PF (by rw[hX];omega) (uG I d a) (uG I c a) h) λm o a=>⟨_,H,I.kept a,?_,k⟩;split<;>rfl
theorem PQ(hc:X.calm=b8)(n:X.A.units+64<Xs):CallR X (.builtin "max") (rMm (λp q=>HT.lexLt [p.1,p.2] [q.1,q.2]) X.K):=by intro b s y H x w Q I r h;obtain⟨c,d,k⟩:=h;obtain⟨u,v,rfl,e,i⟩:=pR r;cases e;cases i;refine PM (I.ok.hd hc) (λt l j a h=>PH (by rw[hX];omega) (uG I d a) (uG I c a) h) λm o a=>⟨_,H,I.kept a,?_,k⟩;split<;>rfl
end
end L3
namespace L3
open PySem L2 PySem.W PyProof.Rows
noncomputable abbrev Ti:=List Int×List Int×Bool×List Int
noncomputable def jL:Ti:=([],[],b7,[])
noncomputable def uH(x y:Ti):Bool:=if x.1=y.1 then(if x.2.1=y.2.1 then(if x.2.2.1=y.2.2.1 then HT.lexLt x.2.2.2 y.2.2.2 else y.2.2.1)else HT.lexLt x.2.1 y.2.1)else HT.lexLt x.1 y.1
section
variable{P:V6}{w:Wj}{A:Wh}{E:Value->VL->Prop}{s:VL}
inductive TiAt (P:V6)(w:Wj)(h:WI)(a:Addr)(t:Ti):Prop
 |mk (o:Obj)(n:Nat)(b c e:Addr)(g:h.get? a=b4 o)(k:o.cls=.type "tuple") (d:o.data=.seq #[.ref b,.ref c,.bool t.2.2.1,.ref e] n)(h1:iO P w h b t.1)(h2:iO P w h c t.2.1)(h3:iO P w h e t.2.2.2)
theorem PR{a b:Bool}(h:a≠b):Zb A s (.bool a) (.bool b) false:=λprog w E Q q=>by unfold eqBool;refine WN ?_;rw[if_neg (by simpa using h)];refine VH (SeqAt.RcAt.bool_bool a b prog w E _ (Xl ?_));rw[show(a==b)=b7 by simpa using h];exact q
theorem zE{b c:Addr}{k k':List Int}{fin:Bool}{Q:Bool->VL->Prop}{r:List (Value×Value)}{i:Nat}(h:A.units<Xs)(d:iO P w s.heap b k)(a:iO P w s.heap c k')(m:k=k'->KatLex P w A b7 fin Q r (i+1) s)(n:k≠k'->Q (HT.lexLt k k') s) :
  KatLex P w A b7 fin Q ((.ref b,.ref c)::r) i s:=by
 refine a2R ((a0g (Za P w)).eqBool h d.1 a.1 ?_);by_cases e:k=k'
 ·rw[decide_eq_true e];exact a5p (m e)
 ·rw[decide_eq_false e];obtain⟨q,o,j⟩:=d.2;obtain⟨u,p,l⟩:=a.2;exact kat_no (kat_one _ _ (HT.lt_tupInts o p (by simpa using j) (by simpa using l) h (n e)))
theorem PU{a i:Addr}{t t':Ti}{C:Bool->VL->Prop}(h:A.units<Xs)(x:TiAt P w s.heap a t)(y:TiAt P w s.heap i t')(q:C (uH t t') s):V2 (V8 P w) A (keyLt' (tuples' b7) (.ref a) (.ref i)) C (λ_ _=>False) s:=by
 obtain⟨o,n,b,c,e,g,_,d,B,G,H⟩:=x;obtain⟨M,L,j,l,p,r,_,m,I,J,K⟩:=y;unfold uH at q;refine kat_lt g d r m ?_;show KatLex P w A b7 _ C [(.ref b,.ref j),(.ref c,.ref l),(.bool t.2.2.1,.bool t'.2.2.1),(.ref e,.ref p)] 0 s;refine zE h B I (λz=>?_) λz=>by rw[if_neg z]at q;exact q
 rw[if_pos z]at q;refine zE h G J (λz=>?_) λz=>by rw[if_neg z]at q;exact q
 rw[if_pos z]at q;by_cases f:t.2.2.1=t'.2.2.1
 ·rw[if_pos f]at q;rw[f];refine a2R (Eo (a5p (zE h H K (λz=>kat_nil ?_) λ_=>q)));rw[z,t6]at q;exact q
 ·rw[if_neg f]at q;refine a2R (PR f P w _ _ (kat_no (kat_one _ _ (lt_bool ?_))));have:decide (b2i t.2.2.1<b2i t'.2.2.1)=t'.2.2.1:=by generalize t.2.2.1=u at f;generalize t'.2.2.1=v at f;cases u<;>cases v<;>first|exact absurd rfl f|decide
  rw[this];exact q
theorem PV{as:List Addr}{ts:List Ti}(J:A.units<Xs)(H:0<as.length)(u:ts.length=as.length)(d:∀i,i<as.length->TiAt P w s.heap (as.getD i 0) (ts.getD i jL)):oR P w A (as.map VU) (λi j=>uH (ts.getD i jL) (ts.getD j jL)) s:=by
 have m:∃fs:List Value,fs.length=as.length/\KatTups s.heap (as.map VU) fs/\∀v∈fs,∃b k,v=VU b/\iO P w s.heap b k:=by
  clear H;induction as generalizing ts with
  |nil=>exact⟨[],rfl,.nil,λv h=>nomatch h⟩|cons a as K=>
   match ts,u with
   |t::ts,u=>
    obtain⟨fs,x,p,q⟩:=K (ts:=ts) (by simpa using u) λi l=>by simpa using d (i+1) (by simpa using l)
    obtain⟨o,n,b,c,e,y,z,B,G,_⟩:=d 0 (by simp);refine⟨.ref b::fs,by simp[x],.cons y z B (by simp) p,λv h=>?_⟩;rcases Wr.mp h with rfl|h
    ·exact⟨b,_,rfl,G⟩
    ·exact q v h
 obtain⟨fs,x,p,q⟩:=m;refine kat_kind (T:=.type "tuple") p (by omega) (λv h=>?_) (by decide) ⟨rfl,λi j C l r I=>?_⟩
 ·obtain⟨b,k,rfl,L⟩:=q v h;obtain⟨M,⟨o,o1,o2,_⟩,_⟩:=L.2;exact kitAt_ty _ _ ⟨o,o1,o2⟩
 ·rw[VI]at l r;rw[show(as.map VU).getD i .none=.ref (as.getD i 0) by simp[W3,l],show(as.map VU).getD j .none=.ref (as.getD j 0) by simp[W3,r]];exact PU J (d i l) (d j r) I
theorem PX{l:Addr}{us:List Value}{an:Nat->Nat->Bool}{Q:Value->VL->Prop}(d:us.length<64)(h:s.heap.IsList l us.toArray)
  (H:2<=us.length->∀c:WI,(∀b o,s.heap.get? b=b4 o->c.get? b=b4 o)->oR P w A.in1.in1 us an {s with heap:=c})
  (q:Q (.ref (s.heap.objs.size+1)) {s with heap:=sortedAll s.heap us ((cP an us.length).map λi=>us.getD i WJ).toArray}):V2 (V8 P w) A (call (.builtin "sorted") [.ref l]) Q E s:=by
 have m:us.length<=VW:=by rw[V9];omega
 refine a2b kind_sorted plain_sorted entry_sorted (args_sorted1 _) ?_;unfold a3b;refine VH (m:=checkCount "sorted" 1 1 _) (VQ (VH (collect_list h (VH (a1m ?_ (by omega))) (by omega))));have z:((s.heap.push (XG "list" #[] 0)).update s.heap.objs.size (WU (·++us.toArray))).objs.size=s.heap.objs.size+1:=by rw[Heap.size_update,size_push']
 have g:(((s.heap.push (XG "list" #[] 0)).update s.heap.objs.size (WU (·++us.toArray))).push (XG "list" us.toArray 0)).get? (s.heap.objs.size+1)=b4 (XG "list" us.toArray 0):=z▸VX _ rfl;show V2 _ _ _ _ _ ⟨((s.heap.push (XG "list" #[] 0)).update s.heap.objs.size (WU (·++us.toArray))).push (XG "list" us.toArray 0),s.gens,s.drawn,s.toks,s.os⟩;rw[z];by_cases a:2<=us.length
 ·refine VH (WN (XX a0V ⟨_,g,rfl⟩ a0N (Ep a d g (λc j=>H a c λb o e=>j b o ?_ ?_) ⟨_,rfl,?_⟩) (a0Z _)))
  ·exact V4 (a0h (VR e))
  ·exact VM _ ((Wi _ _ (Xr (VR e))).trans (VM _ e))
  ·exact VQ ⟨_,rfl,q⟩
 ·refine VH (WN (XX a0V ⟨_,g,rfl⟩ a0N (Dw (us:=us) (by omega) g ⟨_,rfl,?_⟩) (a0Z _)));refine VQ ⟨_,rfl,?_⟩;match us,a,q with
  |[],_,q=>rw[YB,yD]at q;exact q|[b],_,q=>rw[YH,Dx]at q;exact q|_::_::_,a,_=>simp at a
end
noncomputable def qW:D->Option Ti
 |.tup [x,y,.bl b,z]=>(cU x).bind λk=>(cU y).bind λm=>(cU z).map λn=>(k,m,b,n)|_=>b6
noncomputable def a8(t:Ti):D:=.tup [.tup (t.1.map D.int),.tup (t.2.1.map D.int),.bl t.2.2.1,.tup (t.2.2.2.map D.int)]
theorem PY{x:D}{t:Ti}(h:qW x=b4 t):x=a8 t:=by
 unfold qW at h;split at h
 ·obtain⟨k,a,h⟩:=VF.mp h;obtain⟨m,b,h⟩:=VF.mp h;obtain⟨n,c,rfl⟩:=VJ.mp h;rw[qH a,qH b,qH c];rfl
 ·cases h
noncomputable def qX:List D->Option (List Ti)
 |[]=>b4 []|x::r=>(qW x).bind λt=>(qX r).map (t::·)
theorem EH:∀{xs:List D}{ts:List Ti},qX xs=b4 ts->xs=ts.map a8
 |[],_,h=>by cases h;rfl
 |x::xs,ts,h=>by obtain⟨t,a,h⟩:=VF.mp h;obtain⟨r,b,rfl⟩:=VJ.mp h;rw[PY a,EH b];rfl
noncomputable def j6(ts:List Ti):Nat->Nat->Bool:=λi j=>uH (ts.getD i jL) (ts.getD j jL)
noncomputable def kT:MF:=λds b=>match ds with
 |[x]=>(eK b x).bind λc=>(qX c).bind λa=>if a.length<64 then b4 (.loc b.length,b++[.lst ((cP (j6 a) a.length).map λi=>c.getD i .non)])else b6|_=>b6
inductive TiV (K:VG)(H:Hp)(v:V)(t:Ti):Prop
 |mk (a b c e:Addr)(g:v=.ref a)(s:SqT K H a [.ref b,.ref c,.bl t.2.2.1,.ref e])(s1:SqT K H b (t.1.map V.int))(s2:SqT K H c (t.2.1.map V.int))(s3:SqT K H e (t.2.2.2.map V.int))
inductive rSortTi (K:VG):List V->Hp->VK->Prop
 |mk {H:Hp}{Q:VK}{q:Addr}{ws:List V}{ts:List Ti}(hq:SqL K H q ws)(hw:Zj (TiV K H) ws ts)(h:ws.length<64)(k:∀l,H l=b6->Q (.ref l) (aI H l (.lst ((cP (j6 ts) ws.length).map λi=>ws.getD i .non)))):rSortTi K [.ref q] H Q
theorem EI{K:VG}{π:Nat->Addr}{n:Nat}{H:Hp}:∀{vs:List V}{ts:List Ti},IsDs K π n H vs (ts.map a8)->Zj (TiV K H) vs ts
 |_,[],h=>by cases h;exact .nil
 |_,t::ts,h=>by
  cases h with
  |cons h r=>
  refine .cons ?_ (EI r);cases h with
  |@tup a vs ds m hd=>
  cases hd with
  |cons d hd=>
  cases hd with
  |cons i hd=>
  cases hd with
  |cons j hd=>
  cases hd with
  |cons l hd=>
  cases hd;cases j;obtain⟨b,rfl,o⟩:=qV d;obtain⟨c,rfl,p⟩:=qV i;obtain⟨e,rfl,q⟩:=qV l;exact⟨a,b,c,e,rfl,m,o,p,q⟩
theorem PZ{K:VG}:dZ K kT (rSortTi K):=by
 intro y H x w d u v Q R i a k;unfold kT at a;split at a
 ·obtain⟨s,n,a⟩:=VF.mp a;obtain⟨c,o,a⟩:=VF.mp a;split at a
  ·rename_i r;cases a;cases i with
   |cons i t=>
    cases t;obtain⟨p,h,rfl,q,hd⟩:=oB R i n;have b:=hd;rw[EH o]at b;have j:h.length=c.length:=by rw[b.length,VI]
    refine .mk q (EI b) (by rw[j];exact r) λl e=>?_;obtain⟨m,R2,_⟩:=R.alloc (c:=.lst ((cP (j6 c) c.length).map λi=>s.getD i .non)) (o:=.lst ((cP (j6 c) h.length).map λi=>h.getD i .non)) e (by
     show IsDs _ _ _ _ _ _;rw[j];exact DK hd _)
    exact k _ _ _ m R2 lV
  ·cases a
 ·cases a
theorem EJ{vs:List V}{us:List Value}(h:Vals vs us):∀l:List Nat,Vals (l.map λi=>vs.getD i .non) (l.map λi=>us.getD i .none)
 |[]=>.nil|i::l=>by
  refine .cons ?_ (EJ h l);have z:=h.length;cases e:vs[i]? with
  |some v=>obtain⟨u,a,b⟩:=h.get e;simp only[W3,e,a];exact b|none=>have:=h.none_of e;simp only[W3,e,this];rfl
theorem zF{X:Cx}{a6G:List (Addr×Obj)}{σ:L2.St}{H:Hp}{s:VL}(I:Inv X a6G σ H s){b:Addr}{k:List Int}(h:SqT X.K H b (k.map V.int)):iO X.prog X.w s.heap b k:=by obtain⟨a,r,t,_⟩:=I.tuple h;exact⟨kR I h,a,t,wW r⟩
theorem P0{X:Cx}(hun:X.A.units+64<Xs):CallR X (.builtin "sorted") (rSortTi X.K):=by
 intro A s σ H xs us Q I r h;obtain⟨N,hw,B,k⟩:=h;rename_i q L p;obtain⟨u,rfl,l⟩:=i8 r;cases l;obtain⟨j,y,R,O⟩:=I.list N;have m:=y.length;have E:p.length=L.length:=hw.length.symm;have x:∃v:List Addr,j=v.map VU/\∀i,i<v.length->∃b c e,SqT X.K H (v.getD i 0) [.ref b,.ref c,.bl (p.getD i jL).2.2.1,.ref e]/\SqT X.K H b ((p.getD i jL).1.map V.int)/\SqT X.K H c ((p.getD i jL).2.1.map V.int)/\SqT X.K H e ((p.getD i jL).2.2.2.map V.int):=by
  clear O R k N I m E B;induction hw generalizing j with
  |nil=>cases y;exact⟨[],rfl,λi w=>nomatch w⟩|cons h _ ih=>
   cases y with
   |cons G K=>
    obtain⟨v,e,f⟩:=ih _ K;obtain⟨a,b,c,d,rfl,t,t1,t2,t3⟩:=h;cases G;refine⟨a::v,by rw[e];rfl,λi w=>?_⟩;cases i with
    |zero=>exact⟨b,c,d,t,t1,t2,t3⟩|succ i=>simpa using f i (by simpa using w)
 obtain⟨v,M,pr⟩:=x;have hal:v.length=j.length:=by rw[M,VI]
 refine PX (us:=j) (an:=j6 p) (by omega) R.isList (λh2 h3 kp=>?_) ?_
 ·rw[M];refine PV (by rw[hX,hX];omega) (by omega) (by omega) λi w=>?_;obtain⟨b,c,e,g,Z,g2,g3⟩:=pr i w;have J:Inv X A σ H {s with heap:=h3,toks:=s.toks}:=I.kept (t':=s.toks) kp;obtain⟨us,l,⟨o,T,U,n,Y⟩,_⟩:=J.tuple g;cases l with
  |cons G l=>
  cases l with
  |cons K l=>
  cases l with
  |cons r3 l=>
  cases l with
  |cons r4 l=>
  cases l;cases G;cases K;cases r3;cases r4;exact⟨o,n,b,c,e,T,U,Y,zF J Z,zF J g2,zF J g3⟩
 ·obtain⟨e,he⟩:=sortedAll_at s.heap j ((cP (j6 p) j.length).map λi=>j.getD i WJ).toArray;refine⟨.ref (s.heap.objs.size+1),_,I.laid (t':=s.toks) (a:=s.heap.objs.size+1) (o:=.lst ((cP (j6 p) L.length).map λi=>L.getD i .non)) (λb ob z=>sortedAll_old z) (ZR _) ?_,rfl,k _ (I.hok.fresh (ZR _))⟩;refine⟨?_,_,e,?_,he⟩
  ·rw[VI,(j0 _ _).length_eq,WW];exact O
  ·rw[<- m];exact EJ y _
end L3
namespace L3
open PySem L2
structure Sig where
 fn:List (Str×Nat)
 con:List (Str×D)
 tab:List (Str×List (aQ×D))
 no:List Str
 dIt:List Str
 dEq:List Str
 dMe:List Str
 cls:List (Str×Str):=[]
 sup:List (Str×List Str):=[]
 rz:List Str:=[]
structure Cs where
 N:List Str
 ks:List (Str×Yp)
noncomputable def f6(x:Str):List Str->Option Nat
 |[]=>b6|y::r=>if x=y then b4 0 else(f6 x r).map (·+1)
theorem kU{x:Str}:∀{N:List Str}{i:Nat},f6 x N=b4 i->N[i]?=b4 x
 |[],_,h=>by cases h
 |y::r,i,h=>by
  unfold f6 at h;split at h
  ·rename_i e;cases h;subst e;rfl
  ·obtain⟨j,a,b⟩:=VJ.mp h;subst b;have:=kU a;simpa using this
noncomputable def glob(c:Cs)(x:Str):Bool:=decide (c.ks.lookup x=b4 .globalImplicit)&&!(x==("__debug__":Str))
noncomputable def iH(c:Cs)(x:Str):Bool:=(decide (c.ks.lookup x=b4 .local)||decide (c.ks.lookup x=b4 .cell)||decide (c.ks.lookup x=b4 .free))&&!(x==("__debug__":Str))&&!(x==("__classdict__":Str))
noncomputable def jM(c:Cs)(x:Str):Bool:=decide (c.ks.lookup x=b4 .local)||decide (c.ks.lookup x=b4 .cell)
noncomputable def zG(x:Str):Option String:=
 if x="int" then b4 "int" else if x="bool" then b4 "bool" else if x="str" then b4 "str" else if x="list" then b4 "list" else if x="tuple" then b4 "tuple" else if x="dict" then b4 "dict" else b6
theorem P1{x:Str}{n:String}(h:zG x=b4 n):XB x=b4 (.type n)/\x ≠ "__name__":=by
 unfold zG at h;split at h
 ·rename_i e;subst e;cases h;exact⟨a4e,by decide⟩
 split at h
 ·rename_i e;subst e;cases h;exact⟨a4f,by decide⟩
 split at h
 ·rename_i e;subst e;cases h;exact⟨a3Y,by decide⟩
 split at h
 ·rename_i e;subst e;cases h;exact⟨a4b,by decide⟩
 split at h
 ·rename_i e;subst e;cases h;exact⟨Zr,by decide⟩
 split at h
 ·rename_i e;subst e;cases h;exact⟨a0D,by decide⟩
 ·cases h
noncomputable def zH(S:Sig)(c:Cs)(x:Str):ME:=
 if iH c x=b8 then(match f6 x c.N with|some i=>aA i|none=>bS)
 else if glob c x=b8 then(match S.con.lookup x with
  |some d=>mC d
  |none=>if S.no.contains x=b8 then(match zG x with|some n=>mC (.ty n)|none=>bS)else bS)
 else bS
noncomputable def f7(r:Expr->ME):List Expr->MA
 |[]=>aD|e::es=>aB (r e) (f7 r es)
noncomputable def uI(op:BoolOp):List ME->ME
 |[]=>bS|[m]=>m|m::r=>match op with
  |.And=>dS m (uI op r)|.Or=>xA m (uI op r)
noncomputable def uJ(op:BoolOp):List MT->MT
 |[]=>l8|[m]=>m|m::r=>match op with
  |.And=>fT m (uJ op r)|.Or=>jB m (uJ op r)
noncomputable def EK(op:a2W)(a b:ME):ME:=match op with
 |.Add=>aC bC a b|.Sub=>aC cQ a b|.Mult=>aC cB a b|.FloorDiv=>aC cY a b|.Mod=>aC aV a b|_=>bS
noncomputable def kW(op:ZT)(ns:Bool)(a b:ME):ME:=match op with
 |.Eq=>aC (aY b7) a b|.NotEq=>aC (aY b8) a b|.Lt=>aC dD a b|.LtE=>aC nH a b|.Gt=>aC lX a b|.GtE=>aC pY a b|.In=>if ns=b8 then aC (dE b7) a b else bS|.NotIn=>if ns=b8 then aC (dE b8) a b else bS|.Is=>aC (fZ b7) a b|.IsNot=>aC (fZ b8) a b
noncomputable def oW(r:Expr->ME):Option Expr->MO
 |none=>jV|some e=>jE (r e)
noncomputable def bH:MF:=λds b=>match ds with
 |[.loc a]=>match b[a]? with
  |some (.lst xs)=>b4 (.int xs.length,b)|some (.st ks)=>b4 (.int ks.length,b)|some (.dT kvs)=>b4 (.int kvs.length,b)|_=>b6
 |_=>pZ ds b
noncomputable def zI:MF:=λds a=>match ds with
 |[x]=>(bF a x).map λb=>(.tup b,a)|_=>b6
theorem P2{K:VG}:dZ K zI (λxs H Q=>∃p b,xs=[.ref p]/\((SqL K H p b/\∀l,H l=b6->Q (.ref l) (aI H l (.tup b)))\/(SqT K H p b/\Q (.ref p) H))):=by
 intro h H s xs d o r Q R i a k;unfold zI at a;split at a
 ·obtain⟨b,j,m⟩:=VJ.mp a;cases m;cases i with
  |cons i t=>
   cases t;obtain⟨p,e,rfl,q,hd⟩:=nN R i j;refine⟨p,e,rfl,?_⟩;rcases q with q|q
   ·refine .inl ⟨q,λl n=>?_⟩;obtain⟨c,R2⟩:=R.fresh (o:=.tup e) n;exact k h _ _ c R2 (.tup (.of bR) (hd.mono c))
   ·exact .inr ⟨q,k h _ H .refl R (.tup q hd)⟩
 ·cases a
noncomputable def zJ(x:Str):Option MF:=
 if x="len" then b4 bH
 else if x="isinstance" then b4 fN
 else if x="tuple" then b4 zI
 else if x="all" then b4 tD
 else if x="sorted" then b4 kT
 else if x="sum" then b4 j5
 else if x="min" then b4 oV else if x="max" then b4 uF
 else b6
noncomputable def P4(K:VG):List V->Hp->VK->Prop:=λxs H Q=>xR K xs H Q\/(∃a L,xs=[V.ref a]/\H a=b4 (sF a L)/\Q (.int L.length) H)\/Ea K xs H Q
theorem P5{K:VG}:dZ K bH (P4 K):=by
 intro h H m r d e l Q R i b k;unfold bH at b;split at b
 ·rename_i a;split at b
  ·rename_i s c;refine .inl (CT h H m _ d e l Q R i ?_ k);simp only[pZ,bF,c];exact b
  ·rename_i o c;cases b;cases i with
   |cons i t=>cases t;cases i;obtain⟨L,j,n,_⟩:=R.st a o c;have:=congrArg Xc n;rw[VI]at this;refine .inr (.inl ⟨_,L,rfl,j,?_⟩);rw[this];exact k h _ H .refl R (.int _)
  ·rename_i p c;cases b;cases i with
   |cons i t=>cases t;cases i;obtain⟨q,j,T⟩:=mL R c;have:=congrArg Xc T.to.1;rw[VI,VI]at this;refine .inr (.inr ⟨_,q,rfl,j,T.keys,?_⟩);rw[this];exact k h _ H .refl R (.int _)
  ·cases b
 ·exact .inl (CT h H m _ d e l Q R i b k)
theorem P6{X:Cx}{x:Str}{f:MF}(a:X.calm=b8)(b:X.A.units+64<Xs)(h:zJ x=b4 f):∃v r,XB x=b4 v/\((∃id,v=.builtin id)\/∃T,v=.type T)/\CallR X v r/\dZ X.K f r/\x ≠ "__name__":=by
 unfold zJ at h;split at h
 ·rename_i e;subst e;cases h;exact⟨_,_,a4c,.inl ⟨_,rfl⟩,call_lenM.or (call_lenT.or OP),P5,by decide⟩
 split at h
 ·rename_i e;subst e;cases h;exact⟨_,_,a4d,.inl ⟨_,rfl⟩,Ll,Lk,by decide⟩
 split at h
 ·rename_i e;subst e;cases h;exact⟨_,_,Zr,.inr ⟨_,rfl⟩,B0,P2,by decide⟩
 split at h
 ·rename_i e;subst e;cases h;exact⟨_,_,a4g,.inl ⟨_,rfl⟩,Na a,M9 rfl,by decide⟩
 split at h
 ·rename_i e;subst e;cases h;exact⟨_,_,a0v,.inl ⟨_,rfl⟩,P0 b,PZ,by decide⟩
 split at h
 ·rename_i e;subst e;cases h;exact⟨_,_,a3X,.inl ⟨_,rfl⟩,NZ a,NY,by decide⟩
 split at h
 ·rename_i e;subst e;cases h;exact⟨_,_,a3Z,.inl ⟨_,rfl⟩,(PN a b).or (IP a),EG N0,by decide⟩
 split at h
 ·rename_i e;subst e;cases h;exact⟨_,_,a4a,.inl ⟨_,rfl⟩,(PQ a b).or (IM a),EG N3,by decide⟩
 ·cases h
noncomputable def zK(x:Str):Option MF:=
 if x="dict" then b4 mO else
 zJ x
theorem P7{X:Cx}{x:Str}{f:MF}(a:X.calm=b8)(b:X.A.units+64<Xs)(h:zK x=b4 f):∃v r,XB x=b4 v/\((∃id,v=.builtin id)\/∃T,v=.type T)/\CallR X v r/\dZ X.K f r/\x ≠ "__name__":=by
 unfold zK at h;split at h
 ·rename_i e;subst e;cases h;exact⟨_,_,a0D,.inr ⟨_,rfl⟩,O7 a b,O8,by decide⟩
 exact P6 a b h
noncomputable def uK:Expr->Option (Expr×List Expr)
 |.Call f as [] _=>b4 (f,as)|_=>b6
theorem EL{e f:Expr}{as:List Expr}(h:uK e=b4 (f,as)):∃pos,e=.Call f as [] pos:=by
 unfold uK at h;split at h
 ·cases h;exact⟨_,rfl⟩
 ·cases h
noncomputable def iP:Expr->Option Str
 |.Name x _=>b4 x|_=>b6
theorem mR{e:Expr}{x:Str}(h:iP e=b4 x):∃p,e=.Name x p:=by
 unfold iP at h;split at h
 ·cases h;exact⟨_,rfl⟩
 ·cases h
noncomputable def o1:List Expr->Option Expr
 |[e]=>b4 e|_=>b6
theorem EM{l:List Expr}{e:Expr}(h:o1 l=b4 e):l=[e]:=by
 unfold o1 at h;split at h
 ·cases h;rfl
 ·cases h
noncomputable def o2:List Expr->Option (Expr×Expr)
 |[a,b]=>b4 (a,b)|_=>b6
theorem P8{l:List Expr}{a b:Expr}(h:o2 l=b4 (a,b)):l=[a,b]:=by
 unfold o2 at h;split at h
 ·cases h;rfl
 ·cases h
noncomputable def EO(m:Str)(n:Nat):Option (D->List D->Hm->Option (D×Hm)):=
 if n=1 then(if m="append" then b4 fD
  else if m="extend" then b4 jI
  else if m="index" then b4 oJ
  else if m="remove" then b4 oU
  else b6)
 else b6
noncomputable def ER(S:Sig)(o:Expr)(m:Str)(n:Nat):Option (D->List D->Hm->Option (D×Hm)):=
 b6
noncomputable def zL(S:Sig)(c:Cs)(tg:Expr):Expr->Option Nat
 |.Name x _=>match tg with
  |.Name _ _=>if S.dIt.contains x=b8 then f6 x c.N else b6|_=>b6
 |_=>b6
noncomputable def zM(S:Sig)(F:Str->MF)(r:Expr->ME)(c:Cs)(f:Expr)(args:List Expr)(a:Xq):ME:=match f with
 |.Name x _=>if glob c x&&args.all c7 then(match S.fn.lookup x with
   |some n=>if args.length=n then aF (F x) (f7 r args)else bS|none=>
   if S.no.contains x&&!args.isEmpty then(match zK x with|some g=>aF g (f7 r args)|none=>bS)else bS)
  else bS
 |.Attribute o m apos=>if jH o&&(apos.endLine==a.line)&&args.all c7 then(
   match ER S o m args.length with
   |some g=>Pn g (r o) (f7 r args)|none=>
   match EO m args.length with
   |some g=>dG g (r o) (f7 r args)|none=>
    bS)
  else bS
 |_=>bS
noncomputable def ES(f:Expr)(args:List Expr):Option (Str×Str×Expr):=(iP f).bind λx=>(o1 args).bind λa=>(uK a).bind λg=>(iP g.1).bind λy=>(o1 g.2).map λe=>(x,y,e)
theorem P9{f:Expr}{args:List Expr}{x y:Str}{e:Expr}(h:ES f args=b4 (x,y,e)):∃p c pos,f=.Name x p/\args=[.Call (.Name y c) [e] [] pos]:=by obtain⟨n,d,h⟩:=VF.mp h;obtain⟨a,i,h⟩:=VF.mp h;obtain⟨g,j,h⟩:=VF.mp h;obtain⟨o,b,h⟩:=VF.mp h;obtain⟨m,l,h⟩:=VJ.mp h;cases h;obtain⟨p,rfl⟩:=mR d;obtain⟨pos,rfl⟩:=EL j;obtain⟨c,b⟩:=mR b;exact⟨p,c,pos,rfl,by rw[EM i,b,EM l]⟩
noncomputable def zN(S:Sig)(F:Str->MF)(r:Expr->ME)(c:Cs)(f:Expr)(args:List Expr)(a:Xq):ME:=
 zM S F r c f args a
noncomputable def zO:Expr->Option (Expr×Xq×Xq)
 |.Call g [] [] cpos=>match g with
  |.Attribute o m apos=>if m="items" then b4 (o,apos,cpos)else b6|_=>b6
 |_=>b6
theorem Qa{e o:Expr}{a b:Xq}(h:zO e=b4 (o,a,b)):e=.Call (.Attribute o "items" a) [] [] b:=by
 unfold zO at h;split at h
 ·split at h
  ·split at h
   ·rename_i c;cases h;rw[c]
   ·cases h
  ·cases h
 ·cases h
noncomputable def Qb(f:Expr)(args:List Expr):Option (Expr×Xq×Xq):=(ES f args).bind λt=>if t.1="tuple"/\t.2.1="sorted" then zO t.2.2 else b6
noncomputable def zP(S:Sig)(F:Str->MF)(r:Expr->ME)(c:Cs)(f:Expr)(args:List Expr)(a:Xq):ME:=
 match Qb f args with
 |some q=>if glob c "sorted" && glob c "tuple" && S.no.contains "sorted" && S.no.contains "tuple" && jH q.1&&(q.2.1.endLine==q.2.2.line)then uD (r q.1)else bS|none=>
 zN S F r c f args a
noncomputable def oX(c:Cs)(scope:Yj)(xs:List Str):Bool:=
 (scope.names.all λy=>decide (y.2≠.cell))&&decide (scope.kind=.function)&&(scope.names.all λy=>decide (y.2≠.local)||decide (scope.names.lookup y.1=b4 .local)) &&
 (xs.all λx=>decide (scope.names.lookup x=b4 .local))&&decide xs.Nodup&&(scope.names.all λy=>decide (y.2≠.free)||decide (c.ks.lookup y.1=b4 .cell)||decide (c.ks.lookup y.1=b4 .free)) &&
 (scope.names.all λy=>decide (y.2≠.local)||!(bD xs c.N).contains y.1)&&decide (bD xs c.N).Nodup&&(c.N.all λy=>!xs.contains y||decide (scope.names.lookup (nJ y)=b6))
noncomputable def qY(c:Cs)(scope:Yj)(xs:List Str):Cs:=
 ⟨bD xs c.N++xs,scope.names.map λ(n,k)=>if(k==X3&&c.ks.lookup n==b4 .cell)then(n,Yk)else(n,k)⟩
noncomputable def ET(r:Expr->MT):List Expr->MT
 |[]=>dU|[t]=>r t|_=>l8
noncomputable def zQ(S:Sig)(c:Cs):Expr->Option (List Expr)
 |.Call (.Name x _) args [] _=>if x="range" then(if glob c x&&S.no.contains x&&args.all c7 then b4 args else b6)else b6|_=>b6
noncomputable def uL(S:Sig)(r:Expr->ME)(c:Cs)(e:Expr):MI:=match zQ S c e with
 |some [a]=>fX (f7 r [a])|some [a,b]=>kP (f7 r [a,b])|some [a,b,d]=>oK (f7 r [a,b,d])|some _=>C5|none=>cC (r e)
noncomputable def zR(S:Sig)(c:Cs):Expr->Option Expr
 |.Call (.Name x _) [a] [] _=>if x="enumerate" then(if glob c x&&S.no.contains x&&c7 a then b4 a else b6)else b6|_=>b6
noncomputable def zS(S:Sig)(r:Expr->ME)(c:Cs)(e:Expr):MI:=match zR S c e with
 |some a=>oF (f7 r [a])|none=>uL S r c e
noncomputable def EU(S:Sig)(c:Cs)(e:Expr):Option (Expr×Expr):=(uK e).bind λg=>(iP g.1).bind λx=>(o2 g.2).bind λt=>if x="zip" then(if glob c x&&S.no.contains x&&c7 t.1&&c7 t.2 then b4 t else b6)else b6
noncomputable def zT(S:Sig)(r:Expr->ME)(c:Cs)(e:Expr):MI:=match EU S c e with
 |some (a,b)=>qO (f7 r [a,b])|none=>zS S r c e
noncomputable def zU:Expr->Option (List Str)
 |.Name x _=>b4 [x]|.Tuple es _ _=>es.mapM λe=>match e with|.Name x _=>b4 x|_=>b6
 |_=>b6
noncomputable def zV:Expr->Nat->BD
 |.Tuple ..,n=>jF n|_,_=>nM
noncomputable def qZ(S:Sig)(r:Expr->ME)(c:Cs)(tg e:Expr):MI:=match tg with
 |.Tuple ..=>zT S r c e|_=>uL S r c e
noncomputable def kX(b:MI)(d:Cs->Expr->ME)(e:Cs->Expr->MT)(c:Cs)(elt tg iter:Expr)(ifs:List Expr)(scope:Yj):ME:=match zU tg with
 |some a=>if oX c scope a&&fQ iter then eU (zV tg a.length) b (ET (e (qY c scope a)) ifs) (d (qY c scope a) elt)else bS|none=>bS
noncomputable def zW(S:Sig)(a:Cs->Expr->ME)(b:Cs->Expr->MT)(c:Cs)(elt tg iter:Expr)(ifs:List Expr)(scope:Yj):ME:=
 match zL S c tg iter with
 |some i=>y8 i (kX (uA (a c iter)) a b c elt tg iter ifs scope) bS|none=>
 kX (qZ S (a c) c tg iter) a b c elt tg iter ifs scope
noncomputable def EV:Const->ME
 |.int i=>mC (.int i)|.bool b=>mC (.bl b)|.str s=>mC (.str s)|.none=>mC .non|_=>bS
noncomputable def EW(m:ME):UnaryOp->ME
 |.USub=>eQ m|.Not=>nE m|_=>bS
noncomputable def zX(S:Sig)(r:Expr->ME)(a:Expr):List ZT->List Expr->ME
 |[op],[b]=>kW op (fQ b) (r a) (r b)
 |[op,op'],[b,b']=>(match j4 op,j4 op' with
  |some p,b4 q=>fY (fV p) (fV q) (r a) (r b) (r b')
  |_,_=>bS)
 |_,_=>bS
noncomputable def zY(r:Expr->ME):List (Option Expr)->List Expr->ME
 |[],[]=>oO|_,_=>bS
noncomputable def zZ(S:Sig)(r:Expr->ME)(c:Cs)(a b:Expr):ME:=match b with
 |.Slice lo hi b6 _=>lU (r a) (oW r lo) (oW r hi)|.Slice lo hi (b4 st) _=>oE (r a) (oW r lo) (oW r hi) (oW r (b4 st))|b=>if nP b then aC aG (r a) (r b)else bS
noncomputable def z7(r:Expr->ME)(es:List Expr):ME:=if es.all c7 then aU (f7 r es)else bS
noncomputable def z8(r:Expr->ME)(es:List Expr):ME:=if es.all c7 then cA (f7 r es)else bS
noncomputable def z9(S:Sig)(F:Str->MF)(r:Expr->ME)(c:Cs)(f:Expr)(args:List Expr)(a:Xq):List Zv->ME
 |[]=>zP S F r c f args a|_=>bS
noncomputable def Aa(S:Sig)(a:Cs->Expr->ME)(b:Cs->Expr->MT)(c:Cs)(elt:Expr)(scope:Yj):List Comprehension->ME
 |[⟨tg,iter,ifs,0⟩]=>zW S a b c elt tg iter ifs scope|_=>bS
noncomputable def EX(S:Sig)(F:Str->MF)(d:Cs->Expr->ME)(e:Cs->Expr->MT)(c:Cs):Expr->ME
 |.Name x _=>zH S c x|.Constant v _ _=>EV v|.BinOp a op b _=>EK op (d c a) (d c b)|.UnaryOp op a _=>EW (d c a) op|.Compare a ops bs _=>zX S (d c) a ops bs|.BoolOp op vs _=>uI op (vs.map (d c))|.IfExp t a b _=>jC (e c t) (d c a) (d c b)|.Tuple es _ _=>z7 (d c) es|.List es _=>z8 (d c) es|.Dict keys values _=>zY (d c) keys values|.Subscript a b _=>zZ S (d c) c a b|.Call f args kws cpos=>z9 S F (d c) c f args cpos kws|.Attribute o a _=>if jH o then
   kQ a (λx=>S.cls.lookup x==b4 a) (d c o)else bS
 |.ListComp elt gs scope _=>Aa S d e c elt scope gs|_=>bS
noncomputable def q8(r:Expr->ME)(e:Expr):MT:=if xS e then d9 (r e)else l8
noncomputable def Ab(S:Sig)(r:Expr->ME)(a:Expr)(ops:List ZT)(bs:List Expr)(p:Xq):MT:=match ops,bs with
 |[op],[b]=>aS (kW op (fQ b) (r a) (r b))
 |[op,op'],[b,b']=>(match j4 op,j4 op' with
  |some p,b4 q=>aS (fY (fV p) (fV q) (r a) (r b) (r b'))
  |_,_=>l8)
 |ops,bs=>q8 r (.Compare a ops bs p)
noncomputable def Qd(r:Expr->ME)(t:MT)(a:Expr)(p:Xq):UnaryOp->MT
 |.Not=>t|op=>q8 r (.UnaryOp op a p)
noncomputable def EY(S:Sig)(b:Cs->Expr->ME)(d:Cs->Expr->MT)(c:Cs):Expr->MT
 |.BoolOp op vs _=>uJ op (vs.map (d c))|.UnaryOp op a p=>Qd (b c) (gM (d c a)) a p op|.Compare a ops bs p=>Ab S (b c) a ops bs p|e=>q8 (b c) e
noncomputable def tr(S:Sig)(F:Str->MF):Nat->(Cs->Expr->ME)×(Cs->Expr->MT)
 |0=>(λ_ _=>bS,λ_ _=>l8)|n+1=>(EX S F (tr S F n).1 (tr S F n).2,EY S (tr S F n).1 (tr S F n).2)
structure XcOk(S:Sig)(K:VG):Prop where
 att:∀x a,S.cls.lookup x=b4 a->tP K a x=b8
 sub:∀x ys c,S.sup.lookup x=b4 ys->(S.sup.lookup c).isSome=b8->qF K x c=b4 (ys.contains c)
 isx:∀x ys c,S.sup.lookup x=b4 ys->(S.sup.lookup c).isSome=b8->∃C,iB K c=b4 C/\tQ K (.ref C) x=b4 (ys.contains c)
 isv:∀x ys,S.sup.lookup x=b4 ys->tQ K (.type "ValueError") x=b4 (ys.contains "ValueError")
 plain:∀x ys,S.sup.lookup x=b4 ys->S.cls.lookup x=b6->∃C,ClsK K x C
 init:∀x a,S.cls.lookup x=b4 a->∃C f B bn fd sf ar,InitK K C f B bn a/\W0 K WD x=b4 (b4 (.ref C))/\WX K (.ref C)=b8/\(∀P w mg base k,FnOk P w K mg base dY (k+1) f fd [sf,ar] (mI C a))/\Binds K fd [sf,ar] []/\∃oI,K.lookup f=b4 oI/\oI.cls=.type "function"
structure Okx(S:Sig)(F:Str->MF)(k:Nat)(c:Cs)(X:Cx):Prop where
 N:X.N=c.N
 nd:X.N.Nodup
 ks:X.env.scope.names=c.ks
 kind:X.env.scope.kind=.function
 calm:X.calm=b8
 room:Room k X.A
 never:a2n (V8 X.prog X.w) X.A X.env X.xe
 fn:∀x n,S.fn.lookup x=b4 n->∃(f:Addr)(fd:Xy)(ps:List Str),FnOk X.prog X.w X.K X.mg X.base dY k f fd ps (iI X.K n (F x))/\X.mg x=b4 (.ref f)/\WX X.K (.ref f)=b8/\Binds X.K fd ps []
 con:∀x d,S.con.lookup x=b4 d->∃v u,X.mg x=b4 u/\RelV v u/\∀π n H,IsD X.K π n H v d
 tab:∀x kvs,S.tab.lookup x=b4 kvs->TabOk X x kvs
 no:∀x,S.no.contains x=b8->X.mg x=b6
 xc:XcOk S X.K
section
variable{S:Sig}{F:Str->MF}{k:Nat}{c:Cs}{X:Cx}
theorem Qe(ks:X.env.scope.names=c.ks){x:Str}(h:glob c x=b8):Gl X x/\(x==("__debug__":Str))=false:=by unfold glob at h;rw[VO]at h;refine⟨?_,by simpa using h.2⟩;show X.env.scope.names.lookup x=_;rw[ks];exact of_decide_eq_true h.1
theorem EZ(ks:X.env.scope.names=c.ks){x:Str}(h:iH c x=b8):lO X.env.scope x/\(x==("__debug__":Str))=b7/\(x==("__classdict__":Str))=false:=by
 unfold iH at h;rw[VO,VO,Zf,Zf]at h;obtain⟨⟨a,b⟩,d⟩:=h;refine⟨?_,by simpa using b,by simpa using d⟩;unfold lO;rw[ks];rcases a with(a|a)|a
 ·exact .inl (of_decide_eq_true a)
 ·exact .inr (.inl (of_decide_eq_true a))
 ·exact .inr (.inr (of_decide_eq_true a))
theorem Okx.gl(O:Okx S F k c X){x:Str}(h:glob c x=b8):Gl X x/\(x==("__debug__":Str))=false:=Qe O.ks h
theorem Okx.vis(O:Okx S F k c X){x:Str}(h:iH c x=b8):lO X.env.scope x/\(x==("__debug__":Str))=b7/\(x==("__classdict__":Str))=false:=EZ O.ks h
theorem Qf(O:Okx S F k c X)(x:Str)(pos:Xq):QE X (.Name x pos) (zH S c x):=by
 unfold zH;split
 ·rename_i h;obtain⟨a,b,l⟩:=O.vis h;split
  ·rename_i i o;exact C0 i (by rw[O.N];exact kU o) a b l
  ·exact bU
 split
 ·rename_i h;obtain⟨a,b⟩:=O.gl h;split
  ·rename_i d hd;obtain⟨v,u,m,r,i⟩:=O.con x d hd;exact⟨nD (Ht a m r b) i⟩
  ·split
   ·rename_i p;split
    ·rename_i n q;obtain⟨e,j⟩:=P1 q;exact L0 (O.no x p) e a j b
    ·exact bU
   ·exact bU
 ·exact bU
theorem iQ{r:Expr->ME}(a:∀e,QE X e (r e)):∀(es:List Expr),es.all c7=b8->QA X es (f7 r es) es.length
 |[],_=>LO|e::es,h=>by rw[WE,VO]at h;exact LP (a e) (iQ a es h.2) h.1
theorem E4{r:Expr->ME}(a:∀e,QE X e (r e))(op:BoolOp)(pos:Xq):∀(vs:List Expr),QE X (.BoolOp op vs pos) (uI op (vs.map r))
 |[]=>bU|[e]=>LK (a e)|e::d::es=>by
  have b:=E4 a op pos (d::es);cases op with
  |And=>exact LL (a e) b|Or=>exact LM (a e) b
theorem E6{r:Expr->MT}(a:∀e,QT X e (r e))(op:BoolOp)(pos:Xq):∀(vs:List Expr),QW X (.BoolOp op vs pos) (uJ op (vs.map r))
 |[]=>MP|[e]=>by
  cases op with
  |And=>exact Mb (a e)|Or=>exact Mc (a e)
 |e::d::es=>by
  have b:=E6 a op pos (d::es);cases op with
  |And=>exact Md (a e) b|Or=>exact Me (a e) b
theorem Qg{a b:Expr}{h i:ME}(d:QE X a h)(e:QE X b i)(op:a2W)(pos:Xq):QE X (.BinOp a op b pos) (EK op h i):=by
 cases op with
 |Add=>exact Ls d e|Sub=>exact Lu d e|Mult=>exact Lv d e|FloorDiv=>exact Lx d e|Mod=>exact Lz d e|_=>exact bU
theorem Qh(O:Okx S F k c X){a b:Expr}{i j:ME}(d:QE X a i)(e:QE X b j)(op:ZT)(pos:Xq):QE X (.Compare a [op] [b] pos) (kW op (fQ b) i j):=by
 cases op with
 |Eq=>exact LC O.room d e|NotEq=>exact LF O.room d e|Lt=>exact LG d e|LtE=>exact LH d e|Gt=>exact LI d e|GtE=>exact LJ d e|In=>
  simp only[kW];split
  ·rename_i h;exact OR O.room d e h
  ·exact bU
 |NotIn=>
  simp only[kW];split
  ·rename_i h;exact OS O.room d e h
  ·exact bU
 |Is=>exact NU d e|IsNot=>exact NV d e
theorem E7{e:Expr}:QT X e (aS bS):=⟨λa6G s σ H Q I h=>by
 obtain⟨j,l,i,d,b,R,E,a,k⟩:=h;cases a⟩
theorem Qi(O:Okx S F k c X){a b:Expr}{i j:ME}(d:QE X a i)(e:QE X b j)(op:ZT)(pos:Xq):QT X (.Compare a [op] [b] pos) (aS (kW op (fQ b) i j)):=by
 cases op with
 |Eq=>exact L1 O.room d e|NotEq=>exact L4 O.room d e|Lt=>exact L5 d e|LtE=>exact L6 d e|Gt=>exact L7 d e|GtE=>exact L8 d e|In=>
  simp only[kW];split
  ·rename_i h;exact OT O.room d e h
  ·exact E7
 |NotIn=>
  simp only[kW];split
  ·rename_i h;exact OU O.room d e h
  ·exact E7
 |Is=>exact NW d e|IsNot=>exact NX d e
theorem rA{r:Expr->ME}(a:∀e,QE X e (r e)):∀o:Option Expr,QO X o (oW r o)
 |none=>LU|some e=>LV (a e)
theorem Qj(O:Okx S F k c X){r:Expr->ME}(q:∀e,QE X e (r e))(f:Expr)(args:List Expr)(d:Xq):QE X (.Call f args [] d) (zM S F r c f args d):=by
 unfold zM;split
 ·rename_i x p;split
  ·rename_i j;rw[VO]at j;obtain⟨s,u⟩:=O.gl j.1;have h:=iQ q args j.2;split
   ·rename_i n l;split
    ·rename_i A;obtain⟨Q,R,U,E,a,L,z⟩:=O.fn x n l;subst A;cases args with
     |nil=>exact M6 E O.room a L z s u|cons e B=>exact LX E O.room a L z h s u
    ·exact bU
   ·skip;split
    ·rename_i b;rw[VO]at b;split
     ·rename_i g z;obtain⟨v,Y,H,M,I,J,K⟩:=P7 (X:=X) O.calm O.room.units z;cases args with
      |nil=>exact absurd b.2 (by simp)|cons e B=>
       rcases M with⟨id,rfl⟩|⟨T,rfl⟩
       ·exact LY I J (O.no x b.1) H h s K u
       ·exact LZ I J (O.no x b.1) H h s K u
     ·exact bU
    ·exact bU
  ·exact bU
 ·rename_i o m G;split
  ·rename_i j;rw[VO,VO]at j;obtain⟨⟨w,y⟩,N⟩:=j;have h:=iQ q args N;split
   ·rename_i g a;unfold ER at a;cases a
   split
   ·rename_i g a;unfold EO at a;split at a
    ·rename_i A;cases args with
     |nil=>cases A|cons e B=>
      have l:(e::B).length<30:=by rw[A];decide
      split at a
      ·rename_i i;subst i;cases a;exact sZ PySem.F.slot_list_append PySem.F.type_list_append B3 M0 (q o) h w y l
      split at a
      ·rename_i i;subst i;cases a;exact sZ PySem.F.slot_list_extend PySem.F.type_list_extend JH M3 (q o) h w y l
      split at a
      ·rename_i i;subst i;cases a;exact sZ PySem.F.slot_list_index PySem.F.type_list_index (Om (by have:=O.room.units;omega)) Ol (q o) h w y l
      split at a
      ·rename_i i;subst i;cases a;exact sZ PySem.F.slot_list_remove PySem.F.type_list_remove (PD (by have:=O.room.units;omega)) PB (q o) h w y l
      ·cases a
    ·cases a
   ·skip
    ·exact bU
  ·exact bU
 ·exact bU
theorem Qk(O:Okx S F k c X){r:Expr->ME}(b:∀e,QE X e (r e))(f:Expr)(args:List Expr)(a:Xq):QE X (.Call f args [] a) (zN S F r c f args a):=by unfold zN;exact Qj O b f args a
theorem Ql(u:X.N.Nodup)(e:X.N=c.N)(ks:X.env.scope.names=c.ks){scope:Yj}{xs:List Str}(h:oX c scope xs=b8):CompSt X.env.scope X.N scope xs/\xs.Nodup:=by
 unfold oX at h;rw[VO,VO]at h;obtain⟨⟨h,b⟩,r⟩:=h;have b:=of_decide_eq_true b;have d:∀y∈c.N,xs.contains y=b8->scope.names.lookup (nJ y)=none:=λy a hc=>by have:=Xx.mp r y a;rw[hc]at this;simpa using this
 simp only[VO,Xx,decide_eq_true_eq,Zf,Zx,List.contains_eq_mem,decide_eq_false_iff_not]at h;obtain⟨⟨⟨⟨⟨⟨j,l⟩,m⟩,n⟩,q⟩,o⟩,p⟩:=h;refine⟨⟨j,l,λy a i=>(m y a).resolve_left (λz=>z i),n,λy a s=>?_,λy a i=>?_,u,by rw[e];exact b,by rw[e];exact d⟩,q⟩
 ·rw[ks];rcases o y a with(z|z)|z
  ·exact absurd s z
  ·exact .inl z
  ·exact .inr z
 ·rw[e];have:=(p y a).resolve_left (λz=>z i);exact this
theorem rB(O:Okx S F k c X){scope:Yj}{xs:List Str}(h:oX c scope xs=b8):CompSt X.env.scope X.N scope xs/\xs.Nodup:=Ql O.nd O.N O.ks h
theorem Fb{N xs:List Str}(h:N.Nodup)(d:xs.Nodup)(i:∀x∈xs,x∉N):(N++xs).Nodup:=by rw[a1d];exact⟨h,d,λa j b l e=>by subst e;exact i _ l j⟩
theorem Fc{scope:Yj}{xs:List Str}(Q:CompSt X.env.scope X.N scope xs/\xs.Nodup):(bD xs X.N++xs).Nodup:=Fb Q.1.hnd Q.2 λx a=>Q.1.own (x,.local) (Xg (Q.1.here x a)) rfl
theorem Qm(a:X.env.scope.kind=.function)(ks:X.env.scope.names=c.ks)(scope:Yj)(xs:List Str):(a5n scope X.env).names=(qY c scope xs).ks:=by
 unfold a5n qY;dsimp only;refine X4 λy _=>?_;obtain⟨n,b⟩:=y;dsimp only;have:(X.env.scope.kind==ScopeKind.function)=true:=by rw[a];rfl
 rw[this,a5f];show(if(b==X3&&X.env.scope.names.lookup n==b4 Yk)=b8 then _ else _)=_;rw[ks]
theorem Okx.comp(O:Okx S F k c X){scope:Yj}{xs:List Str}(h:oX c scope xs=b8){b:List (Str×Addr)}{C:Addr}{s₀:VL}{H₀:Hp}{d:List Addr}:Okx S F k (qY c scope xs) (cG X scope b C (bD xs X.N++xs) s₀ H₀ d):=
 ⟨show bD xs X.N++xs=bD xs c.N++xs by rw[O.N],Fc (rB O h),Qm O.kind O.ks scope xs,(rB O h).1.kind,O.calm,O.room,a3f,O.fn,O.con,λy a q=>⟨(O.tab y a q).ex⟩,O.no
  ,O.xc
  ⟩
theorem Fd{r:Expr->MT}(l:∀e,QT X e (r e)):∀es:List Expr,QI X es (ET r es)
 |[]=>Mg|[t]=>Mh (l t)
 |a::b::es=>⟨λi s q H Q I h=>by
   obtain⟨o,p,n,d,m,R,E,j,k⟩:=h;cases j⟩
theorem Ac(O:Okx S F k c X){e:Expr}{args:List Expr}(h:zQ S c e=b4 args):∃p pos,e=.Call (.Name "range" p) args [] pos/\Gl X "range"/\X.mg "range"=b6/\args.all c7=true:=by
 unfold zQ at h;split at h
 ·split at h
  ·rename_i b;subst b;split at h
   ·rename_i a;cases h;rw[VO,VO]at a;exact⟨_,_,rfl,(O.gl a.1.1).1,O.no _ a.1.2,a.2⟩
   ·cases h
  ·cases h
 ·cases h
theorem Fe(O:Okx S F k c X){r:Expr->ME}(n:∀e,QE X e (r e))(e:Expr):QJ X e (uL S r c e):=by
 unfold uL;split
 ·rename_i a h;obtain⟨p,m,rfl,i,j,l⟩:=Ac O h;exact MB i j (iQ n [a] l)
 ·rename_i a b h;obtain⟨p,m,rfl,i,j,l⟩:=Ac O h;exact MC i j (iQ n [a,b] l)
 ·rename_i a b d h;obtain⟨p,m,rfl,i,j,l⟩:=Ac O h;exact Ov i j (iQ n [a,b,d] l)
 ·exact Mu
 ·exact My (n e)
theorem Qn(O:Okx S F k c X){e a:Expr}(h:zR S c e=b4 a):∃p pos,e=.Call (.Name "enumerate" p) [a] [] pos/\Gl X "enumerate"/\X.mg "enumerate"=b6/\c7 a=true:=by
 unfold zR at h;split at h
 ·split at h
  ·rename_i d;subst d;split at h
   ·rename_i b;cases h;rw[VO,VO]at b;exact⟨_,_,rfl,(O.gl b.1.1).1,O.no _ b.1.2,b.2⟩
   ·cases h
  ·cases h
 ·cases h
theorem Qo(O:Okx S F k c X){r:Expr->ME}(b:∀e,QE X e (r e))(e:Expr):QJT X e (zS S r c e):=by
 unfold zS;split
 ·rename_i a h;obtain⟨p,l,rfl,d,i,j⟩:=Qn O h;exact Od d i (iQ b [a] (by rw[WE,j];rfl))
 ·exact(Fe O b e).t
theorem Qp(O:Okx S F k c X){e a b:Expr}(h:EU S c e=b4 (a,b)):∃p pos,e=.Call (.Name "zip" p) [a,b] [] pos/\Gl X "zip"/\X.mg "zip"=b6/\c7 a=b8/\c7 b=true:=by
 obtain⟨g,j,m⟩:=VF.mp h;obtain⟨x,l,n⟩:=VF.mp m;obtain⟨t,q,d⟩:=VF.mp n;clear h m n;split at d
 ·rename_i o;subst o;split at d
  ·rename_i i;cases d;rw[VO,VO,VO]at i;obtain⟨pos,j⟩:=EL j;obtain⟨p,l⟩:=mR l;exact⟨p,pos,by rw[j,l,P8 q],(O.gl i.1.1.1).1,O.no _ i.1.1.2,i.1.2,i.2⟩
  ·cases d
 ·cases d
theorem Qq(O:Okx S F k c X){r:Expr->ME}(d:∀e,QE X e (r e))(e:Expr):QJT X e (zT S r c e):=by
 unfold zT;split
 ·rename_i a b h;obtain⟨p,n,rfl,i,j,l,m⟩:=Qp O h;exact O0 i j (iQ d [a,b] (by rw[WE,WE,l,m];rfl))
 ·exact Qo O d e
theorem Ad(O:Okx S F k c X){r:Expr->ME}(a:∀e,QE X e (r e))(tg e:Expr):PI X tg e (tMI X.K (qZ S r c tg e)):=by
 unfold qZ;split
 ·exact(Qq O a e).h _ _ _
 ·exact(Fe O a e).h _
theorem Ff{iter:Expr}{env:a0k}(h:fQ iter=b8):∀x,YW iter env x=pure x:=by intro z;cases iter<;>first|rfl|cases h
end
theorem Fg{X:Cx}(c:X.N.Nodup):∀(es:List Expr)(xs:List Str)(n:Nat),(es.mapM λe=>match e with|.Name x _=>b4 x|_=>b6)=b4 xs->(∀j x,xs[j]?=b4 x->X.N[n+j]?=b4 x/\X.env.scope.names.lookup x=b4 .local)->QGs X es (a0F n xs.length)
 |[],xs,n,h,hx=>by cases h;exact C3
 |e::es,xs,n,h,hx=>by
  rw[List.mapM_cons]at h;obtain⟨x,b,h⟩:=VF.mp h;obtain⟨l,d,h⟩:=VF.mp h;cases h;cases e with
  |Name y p=>cases b;rw[Wc,a4u];have a:=hx 0 x rfl;refine C4 n c (Fg c es l (n+1) d λj z i=>?_) (by simpa using a.1) (.inl a.2) (.inr a.2);have:=hx (j+1) z (by simpa using i);rw[show n+1+j=n+(j+1) by omega];exact this|_=>cases b
theorem Qr{c:Cs}{X:Cx}{scope:Yj}{x:Str}{p:Xq}(Q:CompSt X.env.scope X.N scope [x]/\[x].Nodup)(a:List (Str×Addr))(C:Addr)(s₀:VL)(H₀:Hp)(b:List Addr):PG (cG X scope a C (bD [x] X.N++[x]) s₀ H₀ b) (.Name x p) (tMG X.K (gB X.N.length nM)):=by have e:=Fc Q;have d:(a5n scope X.env).names.lookup x=b4 .local:=a4D (Q.1.here x (by simp));exact MH (X:=cG X scope a C (bD [x] X.N++[x]) s₀ H₀ b) (by show(bD [x] X.N++[x]).length=_;rw[V1,lY];rfl) (CO (X:=cG X scope a C (bD [x] X.N++[x]) s₀ H₀ b) e (by show(bD [x] X.N++[x])[X.N.length]?=_;rw[<- lY [x] X.N];simp) (.inl d) (.inr d))
theorem uM{S:Sig}{F:Str->MF}{k:Nat}{c:Cs}{X:Cx}(O:Okx S F k c X){scope:Yj}{tg:Expr}{xs:List Str}(a:zU tg=b4 xs)(h:oX c scope xs=b8)(b:List (Str×Addr))(C:Addr)(s₀:VL)(H₀:Hp)(e:List Addr) :
  PG (cG X scope b C (bD xs X.N++xs) s₀ H₀ e) tg (tMG X.K (gB X.N.length (zV tg xs.length)))/\∀d n z,zV tg xs.length d n=b4 z->z.length=xs.length:=by
 obtain⟨St,hnd⟩:=rB O h;have r:(bD xs X.N++xs).Nodup:=Fb St.hnd hnd λx a=>St.own (x,.local) (Xg (St.here x a)) rfl;have i:∀x∈xs,(a5n scope X.env).names.lookup x=b4 .local:=λx a=>a4D (St.here x a);unfold zU at a;split at a
 ·rename_i x p;cases a;refine⟨Qr (c:=c) ⟨St,hnd⟩ b C s₀ H₀ e,λd n z m=>?_⟩;cases m;rfl
 ·rename_i q v pt;refine⟨MJ (X:=cG X scope b C (bD xs X.N++xs) s₀ H₀ e) (by show(bD xs X.N++xs).length=_;rw[V1,lY]) (xT (X:=cG X scope b C (bD xs X.N++xs) s₀ H₀ e) (Fg (X:=cG X scope b C (bD xs X.N++xs) s₀ H₀ e) r q xs X.N.length a λj x o=>⟨?_,i x (WO o)⟩) O.calm).h,λd n z m=>?_⟩
  ·show(bD xs X.N++xs)[X.N.length+j]?=b4 x;rw[XM (by rw[lY];omega),lY,show X.N.length+j-X.N.length=j by omega];exact o
  ·obtain⟨w,u,l⟩:=VF.mp m;split at l
   ·rename_i s;cases l;rw[VI];exact s
   ·cases l
 ·cases a
theorem Qs(O:Okx S F k c X){r:Expr->ME}(j:∀e,QE X e (r e))(f:Expr)(args:List Expr)(a:Xq):QE X (.Call f args [] a) (zP S F r c f args a):=by
 unfold zP;split
 ·rename_i q h;split
  ·rename_i i;rw[VO,VO,VO,VO,VO]at i;obtain⟨⟨⟨⟨⟨l,m⟩,s⟩,u⟩,st⟩,o⟩:=i;obtain⟨t,n,d⟩:=VF.mp h;split at d
   ·rename_i b;obtain⟨p,w,v,rfl,rfl⟩:=P9 n;rw[b.1,b.2,Qa d];exact Pt O.calm O.room.units (O.no _ s) (O.no _ u) (O.gl l).1 (O.gl m).1 (j _) st o
   ·cases d
  ·exact bU
 exact Qk O j _ _ _
theorem Ae{S:Sig}{F:Str->MF}{k:Nat}{n:Cs->Expr->ME}{o:Cs->Expr->MT}(p:∀c X,Okx S F k c X->∀e,QE X e (n c e))(r:∀c X,Okx S F k c X->∀e,QT X e (o c e))(c:Cs)(X:Cx)(O:Okx S F k c X)
  (elt tg iter:Expr)(ifs:List Expr)(scope:Yj)(pos:Xq){m:MI}(u:PI X tg iter (tMI X.K m)):QE X (.ListComp elt [⟨tg,iter,ifs,0⟩] scope pos) (kX m n o c elt tg iter ifs scope):=by
 unfold kX;split
 ·rename_i x l;split
  ·rename_i h;rw[VO]at h;refine⟨λi s w H Q I q=>?_⟩;exact MM ((rB O h.1).1.ok I.ok) O.calm u (λd v z=>(uM O l h.1 [] 0 s H []).2 d v z) (λC b a j=>(uM O l h.1 _ C b a j).1) (λC b a j=>(Fd (r _ _ (O.comp h.1)) _).h) (λC b a j=>(p _ _ (O.comp h.1) _).h) (Ff h.2) i s w H Q I q
  ·exact bU
 ·exact bU
theorem Qt{S:Sig}{F:Str->MF}{k:Nat}{d:Cs->Expr->ME}{h:Cs->Expr->MT}(a:∀c X,Okx S F k c X->∀e,QE X e (d c e))(b:∀c X,Okx S F k c X->∀e,QT X e (h c e))(c:Cs)(X:Cx)(O:Okx S F k c X)
  (elt tg iter:Expr)(ifs:List Expr)(scope:Yj)(pos:Xq):QE X (.ListComp elt [⟨tg,iter,ifs,0⟩] scope pos) (zW S d h c elt tg iter ifs scope):=by
 unfold zW;split
 ·exact Pg (Ae a b c X O elt tg iter ifs scope pos ((zA (a c X O iter)).h tg)) bU
 exact Ae a b c X O elt tg iter ifs scope pos (Ad O (a c X O) tg iter)
section
variable{S:Sig}{F:Str->MF}{k:Nat}{c:Cs}{X:Cx}{r:Expr->ME}
theorem Qu(v:Const)(n:Nat)(p:Xq):QE X (.Constant v n p) (EV v):=by cases v<;>first|exact Lo|exact Lp|exact Lq|exact Lr|exact bU
theorem Qv(b:∀e,QE X e (r e))(op:UnaryOp)(a:Expr)(p:Xq):QE X (.UnaryOp op a p) (EW (r a) op):=by cases op<;>first|exact LA (b _)|exact LB (b _)|exact bU
theorem Qw(O:Okx S F k c X)(b:∀e,QE X e (r e))(a:Expr)(ops:List ZT)(bs:List Expr)(p:Xq):QE X (.Compare a ops bs p) (zX S r a ops bs):=by
 unfold zX;split
 ·exact Qh O (b _) (b _) _ _
 ·split
  ·rename_i d h;exact NS d h (b _) (b _) (b _)
  ·exact bU
 ·exact bU
theorem Qx(O:Okx S F k c X)(a:∀e,QE X e (r e))(ks:List (Option Expr))(vs:List Expr)(p:Xq):QE X (.Dict ks vs p) (zY r ks vs):=by
 unfold zY;try split
 ·exact OF
 ·exact bU
theorem Qy(O:Okx S F k c X)(d:∀e,QE X e (r e))(a b:Expr)(p:Xq):QE X (.Subscript a b p) (zZ S r c a b):=by
 unfold zZ;split
 ·exact LW (d _) (rA d _) (rA d _)
 ·exact N8 (d _) (rA d _) (rA d _) (rA d _)
 ·split
  ·rename_i h
   ·exact OQ O.room (d _) (d _) h
  ·exact bU
theorem Af(a:∀e,QE X e (r e))(e:Expr):QT X e (q8 r e):=by
 unfold q8;split
 ·rename_i h;exact M5 (a _) h
 ·exact xW
theorem Qz(O:Okx S F k c X)(b:∀e,QE X e (r e))(a:Expr)(ops:List ZT)(bs:List Expr)(p:Xq):QT X (.Compare a ops bs p) (Ab S r a ops bs p):=by
 unfold Ab;split
 ·exact Qi O (b _) (b _) _ _
 ·split
  ·rename_i d h;exact NT d h (b _) (b _) (b _)
  ·exact xW
 ·exact Af b _
theorem QC(a:∀e,QE X e (r e))(es:List Expr)(n:Nat)(p:Xq):QE X (.Tuple es n p) (z7 r es):=by
 unfold z7;split
 ·rename_i h;exact LQ (iQ a _ h)
 ·exact bU
theorem QD(a:∀e,QE X e (r e))(es:List Expr)(p:Xq):QE X (.List es p) (z8 r es):=by
 unfold z8;split
 ·rename_i h;exact LR (iQ a _ h)
 ·exact bU
theorem QF(O:Okx S F k c X)(b:∀e,QE X e (r e))(f:Expr)(args:List Expr)(a:List Zv)(p:Xq):QE X (.Call f args a p) (z9 S F r c f args p a):=by
 unfold z9;split
 ·exact Qs O b _ _ _
 ·exact bU
end
theorem Fh{S:Sig}{F:Str->MF}{k:Nat}{r:Cs->Expr->ME}{s:Cs->Expr->MT}(B:∀c X,Okx S F k c X->∀e,QE X e (r c e))(E:∀c X,Okx S F k c X->∀e,QT X e (s c e))(c:Cs)(X:Cx)(O:Okx S F k c X) :
  (∀e,QE X e (EX S F r s c e))/\∀e,QT X e (EY S r s c e):=by
 have d:=B c X O;have y:=E c X O;constructor
 ·intro e;cases e with
  |Name x p=>exact Qf O _ _|Constant v n p=>exact Qu v n p|BinOp a l b p=>exact Qg (d _) (d _) _ _|UnaryOp l a p=>exact Qv d l a p|Compare a i bs p=>exact Qw O d a i bs p|BoolOp l A p=>exact E4 d _ _ _|IfExp t a b p=>exact LN (y _) (d _) (d _)|Tuple w n p=>exact QC d w n p|List w p=>exact QD d w p|Dict I A p=>exact Qx O d I A p|Subscript a b p=>exact Qy O d a b p|Call f m z q=>exact QF O d f m z q|Attribute o a p=>
   show QE X _ (if jH o then _ else bS);split
   ·rename_i h;exact DH (d _) h λx H=>O.xc.att x a (beq_iff_eq.mp H)
   ·exact bU
  |ListComp u G j p=>
   show QE X _ (Aa S r s c u j G);unfold Aa;split
   ·exact Qt B E c X O _ _ _ _ _ _
   ·exact bU
  |_=>exact bU
 ·intro e;cases e with
  |BoolOp l A p=>exact Mf (E6 y _ _ _)|UnaryOp l a p=>
   cases l;case Not=>exact Ma (y _)
   all_goals exact Af d _
  |Compare a i bs p=>exact Qz O d a i bs p|_=>exact Af d _
theorem rC{S:Sig}{F:Str->MF}{k:Nat}:∀(n:Nat),(∀c X,Okx S F k c X->∀e,QE X e ((tr S F n).1 c e))/\∀c X,Okx S F k c X->∀e,QT X e ((tr S F n).2 c e)
 |0=>⟨λc X O e=>bU,λc X O e=>xW⟩|n+1=>by have a:=rC (S:=S) (F:=F) (k:=k) n;exact⟨λc X O e=>(Fh a.1 a.2 c X O).1 e,λc X O e=>(Fh a.1 a.2 c X O).2 e⟩
end L3
namespace L3
open PySem L2
noncomputable def uN:MG:=λ_ _ _=>b6
noncomputable def rD(c:Cs):List Expr->Option (List Nat)
 |[]=>b4 []|.Name x _::r=>if jM c x then(f6 x c.N).bind λi=>(rD c r).map (i::·)else b6|_=>b6
noncomputable def rF(c:Cs):Expr->MG
 |.Name x _=>if jM c x then(match f6 x c.N with|some i=>cN i|none=>uN)else uN|.Tuple es _ _=>match rD c es with|some a=>iL a|none=>uN
 |_=>uN
noncomputable def iR(r:Stmt->MS):List Stmt->MS
 |[]=>bI|[s]=>r s|s::t=>aH (r s) (iR r t)
noncomputable def Ag(S:Sig)(E:Cs->Expr->ME)(T:Cs->Expr->MT)(c:Cs)(i:Nat):Expr->MS
 |.ListComp elt [⟨tg,iter,ifs,0⟩] scope _=>match zL S c tg iter with
  |some j=>t9 j (aL i (kX (uA (E c iter)) E T c elt tg iter ifs scope)) bZ|none=>aL i (kX (qZ S (E c) c tg iter) E T c elt tg iter ifs scope)
 |_=>bZ
noncomputable def Ah(S:Sig)(E:Cs->Expr->ME)(T:Cs->Expr->MT)(c:Cs)(tg e:Expr):MS:=match tg with
 |.Name y _=>if jM c y then(match f6 y c.N with
   |some i=>if eH e then aL i (E c e)else Ag S E T c i e
   |none=>bZ)else bZ
 |.Tuple es _ _=>if xU e then(match rD c es with|some a=>kM (E c e) (iL a)|none=>bZ)
   else bZ
 |.Subscript o i _=>if eH e&&nP i then mK (E c o) (E c i) (E c e)else bZ|_=>bZ
noncomputable def oY:Nat:=1000000000
noncomputable def Ai(tg:Expr):Expr->Option (Expr×Xq×Xq)
 |.Call g [] [] cpos=>match g with
  |.Attribute o m apos=>match tg with
   |.Tuple ..=>if m="items" then b4 (o,apos,cpos)else b6|_=>b6
  |_=>b6
 |_=>b6
theorem QH{tg e:Expr}{q:Expr×Xq×Xq}(h:Ai tg e=b4 q):e=.Call (.Attribute q.1 "items" q.2.1) [] [] q.2.2/\∃es b p,tg=.Tuple es b p:=by
 unfold Ai at h;split at h
 ·split at h
  ·split at h
   ·split at h
    ·rename_i a;cases h;rw[a];exact⟨rfl,_,_,_,rfl⟩
    ·cases h
   ·cases h
  ·cases h
 ·cases h
noncomputable def Fi(S:Sig)(E:Cs->Expr->ME)(T:Cs->Expr->MT)(c:Cs)(r:Stmt->MS):Stmt->MS
 |.Return (b4 e) _=>aO (E c e)|.Return b6 _=>aO (mC .non)|.If t a b _=>bG (T c t) (iR r a) (iR r b)|.Assign [tg] e _=>Ah S E T c tg e|.Expr e _=>if eH e then cM (E c e)else bZ|.For tg iter body [] _=>if fQ iter then
  (match Ai tg iter with
  |some q=>if jH q.1&&(q.2.1.endLine==q.2.2.line)then cR (qT (E c q.1)) (rF c tg) (iR r body)else bZ|none=>
  (match zL S c tg iter with
  |some j=>t9 j (cR (uA (E c iter)) (rF c tg) (iR r body)) bZ
  |none=>cR (qZ S (E c) c tg iter) (rF c tg) (iR r body))
  )
  else bZ
 |.While t body [] _=>nY oY (T c t) (iR r body)|.Pass _=>bI|_=>bZ
section
variable{S:Sig}{F:Str->MF}{k:Nat}{c:Cs}{X:Cx}
theorem QK(ks:X.env.scope.names=c.ks){x:Str}(h:jM c x=b8):L2.Loc X.env.scope x:=by unfold jM at h;rw[Zf]at h;unfold L2.Loc;rw[ks];exact h.imp of_decide_eq_true of_decide_eq_true
theorem Okx.own(O:Okx S F k c X){x:Str}(h:jM c x=b8):L2.Loc X.env.scope x:=QK O.ks h
theorem Aj(O:Okx S F k c X)(b:∀x,X.fn x=b8):∀(es:List Expr)(a:List Nat),rD c es=b4 a->QGs X es a
 |[],a,h=>by cases h;exact C3
 |e::es,a,h=>by
  cases e with
  |Name x p=>
   unfold rD at h;split at h
   ·rename_i l;obtain⟨i,d,h⟩:=VF.mp h;obtain⟨m,j,h⟩:=VJ.mp h;subst h;exact C4 i O.nd (Aj O b es m j) (by rw[O.N];exact kU d) (O.own l) (.inl (b x))
   ·cases h
  |_=>cases h
theorem Ak(O:Okx S F k c X)(b:∀x,X.fn x=b8)(e:Expr):QG X e (rF c e):=by
 unfold rF;split
 ·split
  ·rename_i d;split
   ·rename_i i a;exact Mq i O.nd (by rw[O.N];exact kU a) (O.own d) (.inl (b _))
   ·exact sV λ_ _ _=>rfl
  ·exact sV λ_ _ _=>rfl
 ·split
  ·rename_i h a;exact xT (Aj O b _ h a) O.calm
  ·exact sV λ_ _ _=>rfl
 ·exact sV λ_ _ _=>rfl
theorem jN{r:Stmt->MS}(a:∀s,QS X s (r s)):∀b:List Stmt,QB X b (iR r b)
 |[]=>Mi|[s]=>Ml (a s)|s::t::ts=>Mj (a s) (jN a (t::ts))
theorem QL{elt tg iter:Expr}{ifs:List Expr}{scope:Yj}{pos py:Xq}{y:Str}{n:Nat}{env:a0k} :
  ∃b:Bool,ZW (.ListComp elt [⟨tg,iter,ifs,0⟩] scope pos) (b4 (.Name y py)) n env=pure b/\(b=b8->env.kindOf y=b4 .local):=by
 refine⟨env.blockKind==.function&&env.kindOf y==b4 .local&&py.line==pos.line&&!(scope.names.any λ(n,k)=>n==y&&(k==.local||k==.cell)),rfl,λh=>?_⟩;simp only[VO,beq_iff_eq]at h;exact h.1.1.2
theorem Fj(O:Okx S F k c X)(G:∀x,X.fn x=b8){E:Cs->Expr->ME}{T:Cs->Expr->MT}(u:∀c X,Okx S F k c X->∀e,QE X e (E c e))(v:∀c X,Okx S F k c X->∀e,QT X e (T c e))
  {i:Nat}{y:Str}{py l:Xq}(w:X.N[i]?=b4 y)(J:jM c y=b8)(elt tg iter:Expr)(ifs:List Expr)(scope:Yj)(pos:Xq){B:MI}(n:PI X tg iter (tMI X.K B)):QS X (.Assign [.Name y py] (.ListComp elt [⟨tg,iter,ifs,0⟩] scope pos) l) (aL i (kX B E T c elt tg iter ifs scope)):=by
  obtain⟨b,m,r⟩:=QL (elt:=elt) (tg:=tg) (iter:=iter) (ifs:=ifs) (scope:=scope) (pos:=pos) (py:=py) (y:=y) (n:=l.line) (env:=X.env);cases b with
  |false=>exact⟨Cy O.nd w (O.own J) (Ae u v c X O elt tg iter ifs scope pos n).h m (.inl (G y))⟩|true=>
   unfold kX;split
   ·rename_i M A;split
    ·rename_i h;rw[VO]at h;refine⟨λo s L H D I q=>?_⟩;exact MN ((rB O h.1).1.ok I.ok) O.nd O.calm n (λd K z=>(uM O A h.1 [] 0 s H []).2 d K z) (λC j a p=>(uM O A h.1 _ C j a p).1) (λC j a p=>(Fd (v _ _ (O.comp h.1)) _).h) (λC j a p=>(u _ _ (O.comp h.1) _).h) (Ff h.2) w (r rfl) m o s L H D I q
    ·exact DW
   ·exact DW
theorem QM(O:Okx S F k c X)(h:∀x,X.fn x=b8){E:Cs->Expr->ME}{T:Cs->Expr->MT}(b:∀c X,Okx S F k c X->∀e,QE X e (E c e))(d:∀c X,Okx S F k c X->∀e,QT X e (T c e))
  {i:Nat}{y:Str}{py a:Xq}(j:X.N[i]?=b4 y)(l:jM c y=b8)(e:Expr):QS X (.Assign [.Name y py] e a) (Ag S E T c i e):=by
 unfold Ag;split
 ·split
  ·exact Ew (Fj O h b d j l _ _ _ _ _ _ ((zA (b c X O _)).h _)) cT
  ·exact Fj O h b d j l _ _ _ _ _ _ (Ad O (b c X O) _ _)
 ·exact cT
theorem QN(O:Okx S F k c X)(d:∀x,X.fn x=b8){E:Cs->Expr->ME}{T:Cs->Expr->MT}(b:∀c X,Okx S F k c X->∀e,QE X e (E c e))(n:∀c X,Okx S F k c X->∀e,QT X e (T c e))(tg e:Expr)(pos:Xq) :
  QS X (.Assign [tg] e pos) (Ah S E T c tg e):=by
 unfold Ah;split
 ·split
  ·rename_i m;split
   ·rename_i i j;have a:=kU j;rw[<- O.N]at a;split
    ·rename_i l;exact C2 i O.nd (b c X O e) l a (O.own m) (.inl (d _))
    ·exact QM O d b n a m e
   ·exact cT
  ·exact cT
 ·split
  ·rename_i l;split
   ·rename_i o j;exact Ms (b c X O e) (xT (Aj O d _ o j) O.calm) l
   ·exact cT
  ·exact cT
 ·split
  ·rename_i h;rw[VO]at h;exact OV O.room (b c X O _) (b c X O _) (b c X O _) h.1
  ·exact cT
 ·exact cT
theorem QU(O:Okx S F k c X)(n:∀x,X.fn x=b8){E:Cs->Expr->ME}{T:Cs->Expr->MT}(i:∀c X,Okx S F k c X->∀e,QE X e (E c e))(u:∀c X,Okx S F k c X->∀e,QT X e (T c e)){r:Stmt->MS}(j:∀s,QS X s (r s))(st:Stmt) :
  QS X st (Fi S E T c r st):=by
 cases st with
 |Return o p=>
  cases o with
  |none=>exact M8|some e=>exact Mn (i c X O _)
 |If t a b p=>exact Mp (u c X O _) (jN j _) (jN j _)|Assign w e p=>
  cases w with
  |nil=>exact cT|cons G H=>
   cases H with
   |nil=>exact QN O n i u _ _ _|cons _ _=>exact cT
 |Expr e p=>
  show QS X _ (if eH e then cM (E c e)else bZ);split
  ·rename_i h;exact Mo (i c X O _) h
  ·exact cT
 |For G m l d p=>
  cases d with
  |cons _ _=>exact cT|nil=>
   show QS X _ (if fQ m then _ else bZ);split
   ·rename_i h;split
    ·rename_i q A;split
     ·rename_i v;rw[VO]at v;obtain⟨e,z,B,pt,y⟩:=QH A;rw[e]at h ⊢;subst y;exact yR ((Pz (i c X O _) v.1 v.2).h z B pt) (Ak O n _) (jN j _) O.never O.calm h
     ·exact cT
    split
    ·exact Ew (yR ((zA (i c X O _)).h _) (Ak O n _) (jN j _) O.never O.calm h) cT
    exact yR (Ad O (i c X O) _ _) (Ak O n _) (jN j _) O.never O.calm h
   ·exact cT
 |While t l d p=>
  cases d with
  |nil=>exact M7 _ (u c X O _) (jN j _) O.never|cons _ _=>exact cT
 |Pass p=>exact Mm|_=>exact cT
end
noncomputable def cZ(st:Stmt):List Str:=(fS st).args.map (·.arg)
noncomputable def gR(st:Stmt):List Str:=cZ st++(bM st).names.filterMap λy=>if(y.2==NameKind.local||y.2==Yk)&&!(cZ st).contains y.1 then b4 y.1 else b6
noncomputable def j7(st:Stmt):Bool:=
 decide ((bM st).kind=.function)&&!(bM st).isCoroutine&&!(bM st).isGenerator&&decide (gR st).Nodup &&
 ((cZ st).all λx=>decide ((bM st).names.lookup x=b4 .local)||decide ((bM st).names.lookup x=b4 .cell))&&((bM st).names.all λy=>decide (y.2≠.free))
theorem Fm{st:Stmt}(h:j7 st=b8):FnScope (gR st) (cZ st) (bM st):=by unfold j7 at h;simp only[VO,decide_eq_true_eq,Zx,Xx,Zf]at h;obtain⟨⟨⟨⟨⟨a,b⟩,c⟩,d⟩,e⟩,i⟩:=h;exact⟨a,b,c,d,by unfold gR;simp,e,i⟩
noncomputable def oZ:Nat:=40
noncomputable def o3:Nat:=40
noncomputable def Al(S:Sig)(G:Str->RF)(E:Expr->ME)(c:Cs):Expr->MR
 |.Call f args kws p=>(match f,args,kws with
  |.Name x _,e::es,[]=>if glob c x&&decide (S.fn.lookup x=b4 (e::es).length)&&(e::es).all c7&&S.rz.contains x then mG (G x) (f7 E (e::es))else
   cH
  |_,_,_=>cH)
 |_=>cH
noncomputable abbrev o4:=@Al
noncomputable def uO:Option Expr->Option (Str×List Expr)
 |some (.Call f args kws _)=>(match f,kws with
  |.Name x _,[]=>b4 (x,args)
  |_,_=>b6)
 |_=>b6
theorem QV{e:Option Expr}{x:Str}{args:List Expr}(h:uO e=b4 (x,args)):∃p q,e=b4 (.Call (.Name x p) args [] q):=by
 unfold uO at h;split at h
 ·split at h
  ·cases h;exact⟨_,_,rfl⟩
  ·cases h
 ·cases h
noncomputable def QX:Nat->Bool
 |_+2=>b8|_=>b7
noncomputable def uP(S:Sig)(k:Nat)(E:Expr->ME)(c:Cs)(x:Str)(args:List Expr):MR:=
 if glob c x then(match S.cls.lookup x with
  |some a=>(match args with
   |[e]=>if QX k&&c7 e then qG x a (E e)else cH
   |_=>cH)
  |none=>cH
  )else cH
noncomputable def o6(N:Stmt->MS)(r:Stmt->MR):List Stmt->MR
 |[]=>cH|s::t=>fE (N s) (r s) (o6 N r t)
noncomputable def rG:List Expr->Bool
 |[t]=>(iP t).isSome|_=>b7
theorem QY{tg:List Expr}(h:rG tg=b8):∃x p,tg=[.Name x p]:=by
 cases tg with
 |nil=>cases h|cons t a=>
  cases a with
  |cons _ _=>cases h|nil=>
   cases t with
   |Name x p=>exact⟨x,p,rfl⟩|_=>cases h
noncomputable def Am(S:Sig)(G:Str->RF)(k:Nat)(E:Expr->ME)(T:Expr->MT)(c:Cs)(N:Stmt->MS)(r:Stmt->MR):Stmt->MR
 |.Expr e _=>if eH e then o4 S G E c e else cH|.Return (b4 e) _=>o4 S G E c e|.Assign tg e _=>if rG tg&&eH e then o4 S G E c e else cH|.If t a b _=>qE (T t) (o6 N r a) (o6 N r b)
 |.Raise e o _=>if o.isNone then(match uO e with
  |some q=>uP S k E c q.1 q.2
  |none=>cH)else cH
 |_=>cH
noncomputable def uQ(S:Sig)(c:Cs):Expr->ME
 |.Name x _=>if iH c x then(match f6 x c.N with|some i=>aA i|none=>bS)else bS
 |.Attribute o a _=>(match o with
  |.Name x _=>if iH c x then(match f6 x c.N with|some i=>kQ a (λx=>S.cls.lookup x==b4 a) (aA i)|none=>bS)else bS
  |_=>bS)
 |_=>bS
noncomputable def Fn(S:Sig)(c:Cs):Stmt->MS
 |.Assign tg e _=>(match tg with
  |[t]=>(match iP t with
   |some y=>if jM c y&&eH e then(match f6 y c.N with|some i=>aL i (uQ S c e)|none=>bZ)else bZ
   |none=>bZ)
  |_=>bZ)
 |_=>bZ
noncomputable def An(S:Sig)(c:Cs)(y:Str)(st:List Stmt):MS:=
 iR (Fn S c) st
noncomputable def Ao:List a3x->Option (Str×Str×List Stmt)
 |[.ExceptHandler (b4 t) (b4 y) (b::bs) _]=>(match t with
  |.Name cn _=>b4 (cn,y,b::bs)
  |_=>b6)
 |_=>b6
theorem QZ{a:List a3x}{q:Str×Str×List Stmt}(h:Ao a=b4 q):∃p c b bs,a=[.ExceptHandler (b4 (.Name q.1 p)) (b4 q.2.1) (b::bs) c]/\q.2.2=b::bs:=by
 unfold Ao at h;split at h
 ·split at h
  ·cases h;exact⟨_,_,_,_,rfl,rfl⟩
  ·cases h
 ·cases h
noncomputable def Fo(S:Sig)(c:Cs)(N:Stmt->MS)(r:Stmt->MR)(body:List Stmt)(a:List a3x):MS:=match Ao a with
 |some q=>if glob c q.1&&(S.sup.lookup q.1).isSome&&decide (c.ks.lookup q.2.1=b4 .local)then(match f6 q.2.1 c.N with
  |some i=>n9 (iR N body) (o6 N r body) (λx=>(S.sup.lookup x).map λb=>b.contains q.1) i (An S c q.2.1 q.2.2)
  |none=>bZ)else bZ
 |none=>bZ
noncomputable def Ap(S:Sig)(E:Cs->Expr->ME)(T:Cs->Expr->MT)(c:Cs)(N:Stmt->MS)(r:Stmt->MR):Stmt->MS
 |.Try body hs [] [] _=>Fo S c N r body hs|st=>Fi S E T c N st
noncomputable abbrev Q0:=@Am
noncomputable def gU(S:Sig)(F:Str->MF)(G:Str->RF)(k m:Nat)(c:Cs):Nat->(Stmt->MS)×(Stmt->MR)
 |0=>(λ_=>bZ,λ_=>cH)|n+1=>(Ap S (tr S F m).1 (tr S F m).2 c (gU S F G k m c n).1 (gU S F G k m c n).2,Q0 S G k ((tr S F m).1 c) ((tr S F m).2 c) c (gU S F G k m c n).1 (gU S F G k m c n).2)
structure Okr(S:Sig)(F:Str->MF)(G:Str->RF)(k:Nat)(c:Cs)(Y:Cx):Prop where
 o:Okx S F k c Y.nox
 ex:Y.ex=[]
 st:Y.stack=Y.env::Y.outer
 fr:∃L,Y.env.frame=b4 L
 own:∀x,Y.fn x=b8
 rf:∀x n,S.fn.lookup x=b4 n->∃(f:Addr)(fd:Xy)(ps:List Str),FnOk Y.prog Y.w Y.K Y.mg Y.base (iM Y.prog Y.w) k f fd ps (n6 Y.K n (G x))/\Y.mg x=b4 (.ref f)/\WX Y.K (.ref f)=b8/\Binds Y.K fd ps []
section
variable{S:Sig}{F:Str->MF}{G:Str->RF}{k:Nat}{c:Cs}{Y:Cx}
theorem Q1(O:Okr S F G k c Y){E:Expr->ME}(n:∀e,QE Y.nox e (E e))(e:Expr):QRE Y e (Al S G E c e):=by
 unfold Al;split
 ·split
  ·split
   ·rename_i h;rw[VO,VO,VO,decide_eq_true_eq]at h;obtain⟨⟨⟨a,b⟩,d⟩,_⟩:=h;obtain⟨f,o,p,i,j,l,m⟩:=O.rf _ _ b;exact Nq O.ex i O.o.room (O.o.gl a).1 j l m (iQ n _ d) (O.o.gl a).2
   ·exact yF
  ·exact yF
 ·exact yF
theorem Aq(O:Okr S F G k c Y){E:Expr->ME}(a:∀e,QE Y.nox e (E e))(e:Expr):QRE Y e (o4 S G E c e):=Q1 O a e
theorem Q2(O:Okr S F G k c Y){E:Expr->ME}(d:∀e,QE Y.nox e (E e))(x:Str)(args:List Expr)(p q pos:Xq):QR Y (.Raise (b4 (.Call (.Name x p) args [] q)) b6 pos) (uP S k E c x args):=by
 unfold uP;split
 ·rename_i b;split
  ·rename_i a i;split
   ·split
    ·rename_i h;rw[VO]at h;obtain⟨C,f,B,u,v,w,s,j,l,m,n,o,r⟩:=O.o.xc.init x a i;match k,h.1,O with
     |k+2,_,O=>exact NM (k:=k+1) j l m (n _ _ _ _ k) o r O.o.room O.ex O.o.calm (O.o.gl b).1 (d _) h.2 (O.o.gl b).2
    ·exact iN
   ·exact iN
  ·exact iN
 ·exact iN
theorem rH{N:Stmt->MS}{r:Stmt->MR}(a:∀s,QS Y.nox s (N s))(b:∀s,QR Y s (r s)):∀d:List Stmt,QRB Y d (o6 N r d)
 |[]=>Nn|s::t=>Nm (a s) (b s) (rH a b t)
theorem Q3(O:Okr S F G k c Y){E:Expr->ME}{T:Expr->MT}(d:∀e,QE Y.nox e (E e))(m:∀e,QT Y.nox e (T e)){N:Stmt->MS}{r:Stmt->MR}(j:∀s,QS Y.nox s (N s))(l:∀s,QR Y s (r s))(st:Stmt):QR Y st (Am S G k E T c N r st):=by
 cases st with
 |Expr e p=>
  show QR Y _ (if eH e then o4 S G E c e else cH);split
  ·rename_i h;exact Nj (Aq O d _) h
  ·exact iN
 |Return o p=>
  cases o with
  |none=>exact iN|some e=>exact Nk (Aq O d _)
 |Assign u e p=>
  show QR Y _ (if rG u&&eH e then o4 S G E c e else cH);split
  ·rename_i h;rw[VO]at h;obtain⟨x,p,rfl⟩:=QY h.1;exact Nl (Aq O d _) h.2
  ·exact iN
 |If t a b p=>exact Np (m _) (rH j l _) (rH j l _)|Raise e o p=>
  cases o with
  |some _=>exact iN|none=>
   show QR Y _ (match uO e with
    |some q=>uP S k E c q.1 q.2
    |none=>cH)
   split
   ·rename_i q n;obtain⟨x,i⟩:=q;obtain⟨v,w,rfl⟩:=QV n;exact Q2 O d _ _ _ _ _
   ·exact iN
 |_=>exact iN
theorem Q4{X:Cx}(m:X.N=c.N)(ks:X.env.scope.names=c.ks)(o:XcOk S X.K)(e:Expr):QE X e (uQ S c e):=by
 have b:∀x p i,iH c x=b8->f6 x c.N=b4 i->QE X (.Name x p) (aA i):=λx p i h a=>by obtain⟨d,j,l⟩:=EZ ks h;exact C0 i (by rw[m];exact kU a) d j l
 unfold uQ;split
 ·split
  ·rename_i h;split
   ·rename_i i a;exact b _ _ i h a
   ·exact bU
  ·exact bU
 ·split
  ·split
   ·rename_i h;split
    ·rename_i i a;exact DH (b _ _ i h a) rfl λx n=>o.att x _ (beq_iff_eq.mp n)
    ·exact bU
   ·exact bU
  ·exact bU
 ·exact bU
theorem Q5(O:Okr S F G k c Y)(v:Value)(st:Stmt):QS (Y.hnd v) st (Fn S c st):=by
 have a:∀e,QE (Y.hnd v) e (uQ S c e):=Q4 (X:=Y.hnd v) O.o.N O.o.ks O.o.xc;cases st with
 |Assign d e p=>
  cases d with
  |nil=>exact cT|cons t j=>
   cases j with
   |cons _ _=>exact cT|nil=>
    cases t with
    |Name y p=>
     show QS _ _ (if jM c y&&eH e then(match f6 y c.N with|some i=>aL i _|none=>bZ)else bZ);split
     ·rename_i h;rw[VO]at h;split
      ·rename_i i b;exact C2 (X:=Y.hnd v) i O.o.nd (a _) h.2 (by show Y.N[i]?=_;rw[show Y.N=c.N from O.o.N];exact kU b) (O.o.own h.1) (.inl (O.own _))
      ·exact cT
     ·exact cT
    |_=>exact cT
 |_=>exact cT
theorem Q6(O:Okr S F G k c Y)(y:Str)(e:Addr)(st:List Stmt):QBh (Y.hnd (.ref e)) e st (An S c y st):=by unfold An;exact(jN (Q5 O (.ref e)) st).soft
theorem uR{m:Nat}:∀(n:Nat)(Y:Cx),Okr S F G k c Y->(∀st,QS Y.nox st ((gU S F G k m c n).1 st))/\∀st,QR Y st ((gU S F G k m c n).2 st)
 |0,Y,O=>⟨λ_=>cT,λ_=>iN⟩|n+1,Y,O=>by
  have a:=uR (m:=m) n;refine⟨λst=>?_,λst=>?_⟩;rotate_left
  ·have d:QR Y st (Am S G k ((tr S F m).1 c) ((tr S F m).2 c) c (gU S F G k m c n).1 (gU S F G k m c n).2 st):=Q3 O ((rC m).1 c _ O.o) ((rC m).2 c _ O.o) (a Y O).1 (a Y O).2 st;exact d
  show QS Y.nox st (Ap S (tr S F m).1 (tr S F m).2 c (gU S F G k m c n).1 (gU S F G k m c n).2 st);unfold Ap;split
  ·unfold Fo;split
   ·rename_i q y;obtain⟨H,I,b,bs,rfl,u⟩:=QZ y;split
    ·rename_i h;rw[VO,VO,decide_eq_true_eq]at h;obtain⟨⟨j,p⟩,r⟩:=h;split
     ·rename_i i w;obtain⟨L,s⟩:=O.fr;refine Ny (X:=Y.nox) O.ex O.st s O.o.nd (by show Y.N[i]?=_;rw[show Y.N=c.N from O.o.N];exact kU w) (by rw[<- r,<- O.o.ks]) (O.o.gl j).1 (O.o.gl j).2 (λx B z=>?_) (jN (a Y O).1 _) (λE=>?_) (λv=>?_)
      ·obtain⟨A,l,o⟩:=VJ.mp z;rw[<- o];exact O.o.xc.sub x A _ l p
      ·have e:Okr S F G k c (Y.nox.wish E):=⟨O.o,O.ex,O.st,O.fr,O.own,O.rf
        ⟩
       exact rH (a _ e).1 (a _ e).2 _
      ·rw[u];exact Q6 O _ v (b::bs)
     ·exact cT
    ·exact cT
   ·exact cT
  ·exact QU O.o O.own (rC m).1 (rC m).2 (a Y O).1 st
end
noncomputable abbrev lk(_:Sig)(ds:List (Str×Stmt))(x:Str):Option Stmt:=ds.lookup x
noncomputable abbrev Sig.at(S:Sig)(_:Nat):Sig:=S
noncomputable def Ar(S:Sig)(F:Str->MF)(G:Str->RF)(k:Nat)(st:Stmt):MF:=xB (gR st).length (iR (gU (S.at k) F G k oZ ⟨gR st,(bM st).names⟩ o3).1 (cL st))
noncomputable def Au(S:Sig)(F:Str->MF)(G:Str->RF)(k:Nat)(st:Stmt):RF:=yG (gR st).length (o6 (gU (S.at k) F G k oZ ⟨gR st,(bM st).names⟩ o3).1 (gU (S.at k) F G k oZ ⟨gR st,(bM st).names⟩ o3).2 (cL st))
noncomputable def o7(S:Sig)(ds:List (Str×Stmt)):Nat->(Str->MF)×(Str->RF)
 |0=>(λ_ _ _=>b6,λ_ _ _=>b6)
 |k+1=>(λx=>match lk S ds x with
   |none=>λ_ _=>b6|some st=>Ar S (o7 S ds k).1 (o7 S ds k).2 k st,λx=>match lk S ds x with
   |none=>λ_ _=>b6
   |some st=>Au S (o7 S ds k).1 (o7 S ds k).2 k st)
noncomputable def iC(S:Sig)(ds:List (Str×Stmt))(k:Nat):Str->MF:=(o7 S ds k).1
noncomputable def kY(S:Sig)(ds:List (Str×Stmt))(k:Nat):Str->RF:=(o7 S ds k).2
structure DefAt(K:VG)(mg:Str->Option Value)(x:Str)(st:Stmt):Prop where
 ex:∃f fd,Fun K x x st f fd/\mg x=b4 (.ref f)/\Binds K fd (cZ st) []
structure TxtOk(P:V6)(w:Wj)(K:VG)(mg:Str->Option Value)(S:Sig)(ds:List (Str×Stmt)):Prop where
 fns:∀x n,S.fn.lookup x=b4 n->∃st,ds.lookup x=b4 st/\(cZ st).length=n
 defs:∀x st,ds.lookup x=b4 st->DefAt K mg x st/\j7 st=b8
 con:∀x d,S.con.lookup x=b4 d->∃v u,mg x=b4 u/\RelV v u/\∀π n H,IsD K π n H v d
 tab:∀x kvs,S.tab.lookup x=b4 kvs->∃(p:Addr)(vs:List (aQ×V))(ws:List (aQ×Value)),mg x=b4 (.ref p)/\(∀h:WI,K.In h->h.DictOf (lK P w) p ws)/\KV vs ws/\∀π n H,IsKs K π n H vs kvs
 no:∀x,S.no.contains x=b8->mg x=b6
 xc:XcOk S K
theorem TxtOk.at{P:V6}{w:Wj}{K:VG}{a:Str->Option Value}{S:Sig}{ds:List (Str×Stmt)}(T:TxtOk P w K a S ds)(k:Nat):TxtOk P w K a (S.at k) ds:=
 T
theorem Av{S:Sig}{ds:List (Str×Stmt)}{x:Str}{st:Stmt}(h:ds.lookup x=b4 st):lk S ds x=b4 st:=by unfold lk;rw[h]
theorem TxtOk.sc{P:V6}{w:Wj}{K:VG}{a:Str->Option Value}{S:Sig}{ds:List (Str×Stmt)}(T:TxtOk P w K a S ds){x:Str}{st:Stmt}(h:lk S ds x=b4 st):j7 st=true:=(T.defs _ _ h).2
theorem Q7{P:V6}{w:Wj}{K:VG}{z:Str->Option Value}{base:WI}{S:Sig}{ds:List (Str×Stmt)}(T:TxtOk P w K z S ds)(k:Nat):∀(x:Str)(st:Stmt)(nm q:Str)(f:Addr)(v:Xy),lk S ds x=b4 st->Fun K nm q st f v->
  FnOk P w K z base dY k f v (cZ st) (iI K (cZ st).length (iC S ds k x))/\FnOk P w K z base (iM P w) k f v (cZ st) (n6 K (cZ st).length (kY S ds k x)):=by
 induction k using Nat.strongRecOn with
 |_ k U=>
 intro x st nm q f v J hF;cases k with
 |zero=>exact⟨⟨λZ H Q E h=>h.1,λA outer s H m us Z Q E j he hb hv M=>by
   obtain⟨_,π,G,μ,d,μ',R,i,L,kc⟩:=M;cases L⟩,⟨λZ H Q E h=>h.1,λA outer s H m us Z Q E j he hb hv M=>by
   obtain⟨_,π,G,μ,d,μ',R,i,L,kc⟩:=M;cases L⟩⟩
 |succ k=>
  have ih:=U k (XU k);have e:iC S ds (k+1) x=Ar S (iC S ds k) (kY S ds k) k st:=by show(match lk S ds x with|none=>_|some st=>Ar S (iC S ds k) (kY S ds k) k st)=_;rw[J]
  have e2:kY S ds (k+1) x=Au S (iC S ds k) (kY S ds k) k st:=by show(match lk S ds x with|none=>_|some st=>Au S (iC S ds k) (kY S ds k) k st)=_;rw[J]
  rw[e,e2];have u:=Fm (T.sc J);have O:∀(CX:fM)(a:Value)(A:Wh)(outer:List a0k)(s:VL)(H:Hp)(E:XK),Room k (A.deeper (Zy q (bM st) s.heap.objs.size f a))->Okr (S.at k) (iC S ds k) (kY S ds k) k ⟨gR st,(bM st).names⟩ (dO CX P w K z base (gR st) q (bM st) f a A outer s H E):=λCX a A outer s H E j=>by
   refine⟨⟨rfl,u.nd,rfl,u.kind,rfl,j,a3f,λy n N=>?_,T.con,λy X q=>⟨T.tab y X q⟩,T.no,(T.at k).xc
    ⟩,rfl,rfl,⟨_,rfl⟩,λ_=>rfl,λy n N=>?_
    ⟩
   ·obtain⟨b,r,I⟩:=T.fns y n N;obtain⟨p,c,l,Y,B⟩:=(T.defs y b r).1.ex;subst I;exact⟨p,c,cZ b,(ih y b _ _ p c (Av r) l).1,Y,l.kp,B⟩
   ·obtain⟨b,r,I⟩:=T.fns y n N;obtain⟨p,c,l,Y,B⟩:=(T.defs y b r).1.ex;subst I;exact⟨p,c,cZ b,(ih y b _ _ p c (Av r) l).2,Y,l.kp,B⟩
  refine⟨Mt hF u (by unfold gR;simp) rfl λa A outer s H E j=>?_,Nr hF u (by unfold gR;simp) rfl λa A outer s H E j=>?_⟩
  ·exact jN (uR (m:=oZ) o3 _ (O dY a A outer s H E j)).1 (cL st)
  ·have o:=O (iM P w) a A outer s H E j;exact rH (uR (m:=oZ) o3 _ o).1 (uR (m:=oZ) o3 _ o).2 (cL st)
theorem Q8{P:V6}{w:Wj}{K:VG}{b:Str->Option Value}{base:WI}{S:Sig}{ds:List (Str×Stmt)}(T:TxtOk P w K b S ds)(k:Nat)(x:Str)(st:Stmt)(f:Addr)(a:Xy)(d:ds.lookup x=b4 st)(c:Fun K x x st f a) :
  FnOk P w K b base dY k f a (cZ st) (iI K (cZ st).length (iC S ds k x)):=(Q7 T k x st x x f a (Av d) c).1
theorem Fp:∀{ns:List Int}{b:Nat},ZZ (ns.map ZM)<=b->∀n∈ns,Wv n<=b
 |[],_,_,n,a=>nomatch a|m::ns,b,h,n,a=>by
  have e:ZZ ((m::ns).map ZM)=a1A (.int m)+1+ZZ (ns.map ZM):=rfl;have c:a1A (.int m)=Wv m:=rfl;rw[e,c]at h;rcases Wr.mp a with rfl|a
  ·omega
  ·exact Fp (b:=b) (by omega) n a
section
open PySem PySem.W PySem.Calls PyProof.Rows
theorem Q9{l:a3J}{n:Nat}{q:V6}{loose:List Str}{XP:(Str->Option Value)->WI->Prop}{YP:Wj->WI->Prop}{d:DefRec}
  (Z:l.most=b4 n)(A:d.params.defaults=[])
  (call:∀(w:Wj)(s₀ b:VL)(v H:Str->Option Value)(h:Addr)(o:Obj)(I u c:Value)(a:Addr)(vs:List Value)(ns:List Int),
   Ground q loose [] XP w s₀ v H b.heap->YP w b.heap->
   b.heap.get? h=b4 o->o.data=.func (docDef d.name d.params d.body d.scope I u c)->b.heap.CodeRec u d.name->v d.name=b4 (.ref h)->
   b.heap.get? a=b4 {cls:=.type "list",data:=.seq vs.toArray}->Zd vs ns->ns.length<=n->(∀m∈ns,Wv m<=2^20)->b.gens=#[]->
   Z2 (V8 l.prog w) a1M (.call (.ref h) ⟨[.ref a],[]⟩) (λr x=>r=.ok (.ret (.bool b8))/\OldK b.heap x.heap/\x.os=b.os/\a0t x.gens) b) :
  a4r q loose XP YP l.row.toRowW d [] (λf vs=>a5J f vs):=by
 intro w s₀ b v H G Y h o I u c M kV ho hd z K B T J L as s i hrd E U;obtain rfl:M=.none:=Dflts.none K A;obtain rfl:kV=.none:=Dflts.noKw K;obtain⟨a,vs,ns,rfl,rfl,p,e,j⟩:=Att.script_of Z s E;have R:∀m∈ns,Wv m<=2^20:=by
  have y:a1q (.list (ns.map ZM))=true:=by have:=i;unfold a5K at this;simpa using this
  unfold a1q at y;rw[VO]at y;exact Fp (of_decide_eq_true y.2)
 refine enter_call (a0c (call w s₀ b v H h o I u c a vs ns G Y ho (fd_plain hd) z B p e j R T) λr x hq=>?_);obtain⟨rfl,N,O,Q⟩:=hq;exact⟨.inl ⟨.bool b8,.bool b8,[],rfl,λ_=>rfl,.bool b8,Att.post_true l _,λ_=>⟨a2a,λ_ X=>(nomatch X)⟩⟩,N,O,Q⟩
end
theorem walkM{l:a3J}{q:V6}{loose:List Str}{XP:(Str->Option Value)->WI->Prop}{YP:Wj->WI->Prop}{d:DefRec}{K:Xi->VG}{S:Sig}{ds:List (Str×Stmt)}{k:Nat}{st:Stmt}{x:Str}(hn:l.most=b4 63)(N:d.params.defaults=[])
  (hr:Room k a1M)(hY:∀(w:Wj)(h:WI),YP w h->(K w.params).In h)(hl:ds.lookup d.name=b4 st)(hx:cZ st=[x])
  (T:∀(w:Wj)(E:Str->Option Value)(h:WI),(K w.params).In h->h.Ns WD E->TxtOk l.prog w (K w.params) E S ds/\∃f J,Fun (K w.params) d.name d.name st f J/\E d.name=b4 (.ref f)/\∀(s:VL)(u:Value),a1U s J ⟨[u],[]⟩ [(x,u)])
  (M:∀b:List Int,b.length<=63->(∀m∈b,Wv m<=2^20)->∃y,iC S ds k d.name [.rol (b.map D.int)] []=b4 (.bl b8,y)) :
  a4r q loose XP YP l.row.toRowW d [] (λf vs=>a5J f vs):=by
 refine Q9 hn N λw Z s₁ E mb fa o pm cd doc a vs b G Y ho hd hcd Q B p c L hg=>?_;have U:=hY w _ Y;obtain⟨hT,f,J,hF,X,hb⟩:=T w E _ U G.T.g;rw[Q]at X;cases X;refine L2.law_call (CX:=dY) (sp:=iI (K w.params) 1 (iC S ds k d.name)) U G.T.g G.T.b G.T.builtins G.T.nolimit hg B p (WM c (by decide)) hr (λA hb1 hb2=>?_) hb (λH hO hS=>?_) λH e s' z=>z
 ·have:=Q8 (base:=A) hT k d.name st fa J hl hF;rw[hx]at this;exact this
 ·obtain⟨y,hM⟩:=M b c L;have R:RoL (K w.params) H a (b.map V.int):=by
   rcases hS with(h|h)|h
   ·rcases hO a with z|⟨o,I,z⟩
    ·rw[z]at h;cases h
    ·rw[z]at h;cases h
   ·exact .inl h
   ·exact .inr h
  refine⟨rfl,λ_=>0,[.rol (b.map D.int)],[],.bl b8,y,⟨λi j O=>absurd O (Z1 _),λi O=>absurd O (Z1 _),λi I h=>(by cases h),λi I h=>(by cases h),λi I h=>(by cases h)
   ,λi I h=>(by cases h)
   ,λi I h=>(by cases h)
   ,λi x b ds h=>(by cases h)
   ⟩,.cons (.rol R ?_) .nil,hM,λπ' v H' _ _ hv=>?_⟩
  ·have:∀b:List Int,IsDs (K w.params) (λ_=>0) ([]:Hm).length H (b.map V.int) (b.map D.int):=λb=>by
    induction b with
    |nil=>exact .nil|cons n r ih=>exact .cons (.int n) ih
   exact this b
  ·cases hv;rfl
end L3
namespace L3
open PySem L2
theorem jO{a:Type}:∀{l:List (Str×a)}{x:Str}{b:a},l.lookup x=b4 b->(x,b)∈l:=λh=>Xg h
theorem Ra{S:Sig}{ds:List (Str×Stmt)}(h:(S.fn.all λp=>match ds.lookup p.1 with|some st=>decide ((cZ st).length=p.2)|none=>b7)=b8):∀x n,S.fn.lookup x=b4 n->∃st,ds.lookup x=b4 st/\(cZ st).length=n:=by
 intro x n e;have:=Xx.mp h (x,n) (jO e);dsimp only at this;split at this
 ·rename_i st a;exact⟨st,a,of_decide_eq_true this⟩
 ·cases this
theorem Rb{K:VG}{a:Str->Option Value}{ds:List (Str×Stmt)}(h:∀p∈ds,DefAt K a p.1 p.2/\j7 p.2=b8):∀x st,ds.lookup x=b4 st->DefAt K a x st/\j7 st=true:=λx st e=>h (x,st) (jO e)
theorem Rc{K:VG}{b:Str->Option Value}{a:List (Str×D)}(h:∀p∈a,∃v u,b p.1=b4 u/\RelV v u/\∀π n H,IsD K π n H v p.2):∀x d,a.lookup x=b4 d->∃v u,b x=b4 u/\RelV v u/\∀π n H,IsD K π n H v d:=λx d e=>h (x,d) (jO e)
inductive EntsOf (w:Wj):List DictEntry->List (aQ×Value)->Prop where
 |nil:EntsOf w [] []
 |cons {e:DictEntry}{k:aQ}{v:Value}{es:List DictEntry}{kvs:List (aQ×Value)}(h:v7 k e.key=b8)(hh:e.hash=Bo w k)(hv:e.val=v)(t:EntsOf w es kvs):EntsOf w (e::es) ((k,v)::kvs)
theorem EntsOf.keys{P:V6}{w:Wj}{es:List DictEntry}{kvs:List (aQ×Value)}(x:EntsOf w es kvs):∀e∈es,∃k,(lK P w).is k e.key=b8/\e.hash=(lK P w).hash k:=by
 induction x with
 |nil=>intro e a;exact nomatch a|@cons e k v es kvs h c i _ d=>
  intro b a;rcases Wr.mp a with rfl|a
  ·exact⟨k,h,c⟩
  ·exact d b a
theorem Rf{a:Str->Option Value}{ns:List Str}(h:∀x∈ns,a x=b6):∀x,ns.contains x=b8->a x=none:=λx e=>h x (by simpa using e)
noncomputable def uS:Nat->(Nat->Value)->List Value
 |0,_=>[]|n+1,u=>u 0::uS n λi=>u (i+1)
theorem Fq:∀us:List Value,∃u,us=uS us.length u
 |[]=>⟨λ_=>.none,rfl⟩|v::us=>let⟨u,a⟩:=Fq us;⟨λi=>match i with|0=>v|i+1=>u i,congrArg (v::·) a⟩
noncomputable abbrev Fs:Type:=Value->Value->Value->Option Addr->Value->Value->(Nat->Value)->a5I (List (Str×Value))
noncomputable def Rg(x:Str)(st:Stmt)(m:Value)(c:Addr):Obj:=⟨Wa "function",b6,.func (Xv x x (fS st) (cL st) (bM st) .none .none .none m b6 (.ref c) .none),#[]⟩
noncomputable def Ft(K:VG)(d:(Str×Stmt)×Value×Addr×Addr):Option (Option Value)×Option Obj×Bool×Bool×Bool×Fs:=(W0 K WD d.1.1,K.lookup d.2.2.2,ZY K (.ref d.2.2.1) d.1.1,WX K (.ref d.2.2.2),j7 d.1.2,λkV b c an a ct u=>a2T (Xv d.1.1 d.1.1 (fS d.1.2) (cL d.1.2) (bM d.1.2) .none kV b c an a ct) ⟨uS (cZ d.1.2).length u,[]⟩)
noncomputable def Fu(d:(Str×Stmt)×Value×Addr×Addr):Option (Option Value)×Option Obj×Bool×Bool×Bool×Fs:=(b4 (b4 (.ref d.2.2.2)),b4 (Rg d.1.1 d.1.2 d.2.1 d.2.2.1),b8,b8,b8,λ_ _ _ _ _ _ u=>pure ((cZ d.1.2).zip (uS (cZ d.1.2).length u)))
noncomputable def uT(K:VG)(d:Str×Stmt):(Str×Stmt)×Value×Addr×Addr:=(d,match W0 K WD d.1 with
 |some (b4 (.ref f))=>(match K.lookup f with
  |some ⟨_,_,.func fd,_⟩=>(match fd.code with
   |.ref c=>(fd.pyModule,c,f)
   |_=>(.none,0,0))
  |_=>(.none,0,0))
 |_=>(.none,0,0))
noncomputable def uU(K:VG)(ds:List (Str×Stmt)):Prop:=ds.map (λd=>Ft K (uT K d))=ds.map λd=>Fu (uT K d)
theorem Fv{K:VG}{h:WI}{j:Str->Option Value}(X:K.In h)(G:h.Ns WD j){ds:List (Str×Stmt)}(q:uU K ds):∀p∈ds,(DefAt K j p.1 p.2/\j7 p.2=b8)/\∃f n,Fun K p.1 p.1 p.2 f n/\j p.1=b4 (.ref f)/\∀us:List Value,us.length=(cZ p.2).length->a2T n ⟨us,[]⟩=pure ((cZ p.2).zip us):=by
 intro i v;have t:=a4k.mp q i v;have e:(uT K i).1=i:=rfl;generalize uT K i=d at t e;obtain⟨p,m,c,f⟩:=d;cases e;unfold Ft Fu at t;obtain⟨a,t⟩:=a0w t;obtain⟨l,t⟩:=a0w t;obtain⟨c,t⟩:=a0w t;obtain⟨k,t⟩:=a0w t;obtain⟨s,b⟩:=a0w t;have F:=B9 (st:=p.2) l c k;have D:=λkV doc pm an cdv ct (us:List Value)(r:us.length=(cZ p.2).length)=>(by
  obtain⟨u,o⟩:=Fq us;rw[r]at o;rw[o];exact congrFun (congrFun (congrFun (congrFun (congrFun (congrFun (congrFun b kV) doc) pm) an) cdv) ct) u:a2T (Xv p.1 p.1 (fS p.2) (cL p.2) (bM p.2) .none kV doc pm an cdv ct) ⟨us,[]⟩=pure ((cZ p.2).zip us))
 exact⟨⟨⟨_,_,F,ZD X G a,Binds.all (D _ _ _ _ _ _)⟩,s⟩,_,_,F,ZD X G a,D _ _ _ _ _ _⟩
theorem Rh{K:VG}{h:WI}{c:Str->Option Value}(X:K.In h)(G:h.Ns WD c){ds:List (Str×Stmt)}(q:uU K ds){x y:Str}{st:Stmt}(d:ds.lookup x=b4 st)(e:cZ st=[y]):∃f a,Fun K x x st f a/\c x=b4 (.ref f)/\∀(s:VL)(u:Value),a1U s a ⟨[u],[]⟩ [(y,u)]:=by obtain⟨f,a,F,m,b⟩:=(Fv X G q (x,st) (jO d)).2;dsimp only at b;rw[e]at b;exact⟨f,a,F,m,λs u=>.of_eq (b [u] rfl)⟩
theorem Ri{K:VG}{h:WI}{a:Str->Option Value}(X:K.In h)(G:h.Ns WD a){ns:List Str}(q:ns.map (W0 K WD)=ns.map λ_=>b4 b6):∀x∈ns,a x=none:=λx b=>PySem.W.mg_none_of X G (a4k.mp q x b)
noncomputable def rJ{c d:Type}(f:c->d->Bool):List c->List d->Bool
 |[],[]=>b8|a::as,b::bs=>f a b&&rJ f as bs|_,_=>b7
noncomputable def rK(K:VG):Nat->Value->D->Bool
 |0,_,_=>b7|k+1,u,d=>match d with
  |.non=>(match u with|.none=>b8|_=>b7)|.bl b=>(match u with|.bool c=>decide (b=c)|_=>b7)|.int i=>(match u with|.int j _=>decide (i=j)|_=>b7)|.str x=>(match u with|.str y _=>decide (x=y)|_=>b7)
  |.tup ds=>(match u with
   |.ref p=>(match K.lookup p with
    |some ⟨.type t,b6,.seq its _,_⟩=>decide (t="tuple")&&decide (its.size<=1000)&&rJ (rK K k) its.toList ds
    |_=>b7)
   |_=>b7)
  |.rol ds=>(match u with
   |.ref p=>(match K.lookup p with
    |some ⟨.type t,b6,.seq its _,_⟩=>decide (t="list")&&decide (its.size<=1000)&&rJ (rK K k) its.toList ds
    |_=>b7)
   |_=>b7)
  |_=>b7
theorem Fw{K:VG}{f:Value->D->Bool}(h:∀u d,f u d=b8->∃v,RelV v u/\∀π n H,IsD K π n H v d):∀us ds,rJ f us ds=b8->∃vs,Vals vs us/\∀π n H,IsDs K π n H vs ds
 |[],[],_=>⟨[],.nil,λ_ _ _=>.nil⟩|u::us,d::ds,e=>by obtain⟨a,b⟩:=Ym.mp e;obtain⟨v,r,q⟩:=h u d a;obtain⟨vs,i,c⟩:=Fw h us ds b;exact⟨v::vs,.cons r i,λ_ _ _=>.cons (q _ _ _) (c _ _ _)⟩
 |[],_::_,e=>nomatch e|_::_,[],e=>nomatch e
theorem Fx{K:VG}:∀(k:Nat)(u:Value)(d:D),rK K k u d=b8->∃v,RelV v u/\∀π n H,IsD K π n H v d
 |0,_,_,e=>nomatch e|k+1,u,d,e=>by
  have seq:∀{p:Addr}{ds:List D}{c:String},(match K.lookup p with|some ⟨.type t,b6,.seq h _,_⟩=>decide (t=c)&&decide (h.size<=1000)&&rJ (rK K k) h.toList ds|_=>b7)=b8->∃j h n m,K.lookup p=b4 ⟨.type c,b6,.seq h n,m⟩/\h.size<=VW/\Vals j h.toList/\∀π n H,IsDs K π n H j ds:=λ{p ds c} e=>by
   split at e
   ·rename_i t h n m l;obtain⟨e,q⟩:=Ym.mp e;obtain⟨a,b⟩:=Ym.mp e;cases of_decide_eq_true a;obtain⟨j,r,i⟩:=Fw (Fx k) _ _ q;exact⟨j,h,n,m,l,WM (of_decide_eq_true b) (by decide),r,i⟩
   ·cases e
  cases d with
  |non=>cases u with
   |none=>exact⟨.non,rfl,λ_ _ _=>.non⟩|_=>cases e
  |bl b=>cases u with
   |bool c=>cases of_decide_eq_true e;exact⟨.bl b,rfl,λ_ _ _=>.bl _⟩|_=>cases e
  |int b=>cases u with
   |int c=>cases of_decide_eq_true e;exact⟨.int b,⟨_,rfl⟩,λ_ _ _=>.int _⟩|_=>cases e
  |str b=>cases u with
   |str c=>cases of_decide_eq_true e;exact⟨.str b,⟨_,rfl⟩,λ_ _ _=>.str _⟩|_=>cases e
  |tup ds=>cases u with
   |ref p=>obtain⟨j,h,n,m,l,o,r,i⟩:=seq e;exact⟨.ref p,rfl,λ_ _ _=>.tup (vs:=j) (.inr ⟨_,h,n,l,rfl,rfl,rfl,o,r⟩) (i _ _ _)⟩|_=>cases e
  |rol ds=>cases u with
   |ref p=>obtain⟨j,h,n,m,l,o,r,i⟩:=seq e;exact⟨.ref p,rfl,λ_ _ _=>.rol (vs:=j) (.inr ⟨_,h,n,l,rfl,rfl,rfl,o,r⟩) (i _ _ _)⟩|_=>cases e
  |_=>cases e
noncomputable def Fy(K:VG)(a:List (Str×D)):Bool:=a.all λc=>match W0 K WD c.1 with|some (b4 u)=>rK K 8 u c.2|_=>b7
theorem Rj{K:VG}{h:WI}{b:Str->Option Value}(X:K.In h)(G:h.Ns WD b){a:List (Str×D)}(q:Fy K a=b8):∀p∈a,∃v u,b p.1=b4 u/\RelV v u/\∀π n H,IsD K π n H v p.2:=λp c=>by
 have t:=Xx.mp q p c;split at t
 ·rename_i u d;obtain⟨v,r,i⟩:=Fx _ _ _ t;exact⟨v,u,ZD X G d,r,i⟩
 ·cases t
end L3
namespace L3
open PySem L2
noncomputable def Fz:Expr->Option Str
 |.Constant v _ _=>(match v with
  |.str s=>b4 s
  |_=>b6)
 |_=>b6
theorem Rk{e:Expr}{s:Str}(h:Fz e=b4 s):∃k p,e=.Constant (.str s) k p:=by
 cases e with
 |Constant v k p=>
  cases v with
  |str t=>cases h;exact⟨_,_,rfl⟩|_=>cases h
 |_=>cases h
noncomputable def Aw:Expr->Option (Expr×Str×Xq)
 |.Attribute o m p=>b4 (o,m,p)|_=>b6
theorem FA{e:Expr}{q:Expr×Str×Xq}(h:Aw e=b4 q):e=.Attribute q.1 q.2.1 q.2.2:=by
 cases e with
 |Attribute o m p=>cases h;rfl|_=>cases h
noncomputable def FC(f:Expr)(args:List Expr)(a:List Zv)(c:Xq):Option (Str×Str):=
 match args with
 |[a1,a2]=>(match a with
  |[]=>(iP a1).bind λd=>(Fz a2).bind λ_=>(Aw f).bind λq=>(iP q.1).bind λb=>if(q.2.1=="__init__" && (q.2.2.endLine==c.line))=b8 then b4 (b,d)else b6
  |_::_=>b6)
 |_=>b6
noncomputable def FD:Stmt->Option (Str×Str)
 |.Expr e _=>(match e with
  |.Call f args kws p5=>FC f args kws p5
  |_=>b6)
 |_=>b6
noncomputable def FE:Stmt->Option (Str×Str×Str)
 |.Assign ts e _=>(match ts with
  |[t]=>(Aw t).bind λq=>(iP q.1).bind λb=>(iP e).bind λa=>b4 (b,q.2.1,a)
  |_=>b6)
 |_=>b6
theorem Rl{st:Stmt}{bn sf:Str}(h:FD st=b4 (bn,sf)):∃r j l m n o c p,st=.Expr (.Call (.Attribute (.Name bn l) "__init__" m) [.Name sf n,.Constant (.str r) j o] [] c) p/\(m.endLine==c.line)=true:=by
 cases st with
 |Expr e p=>
  cases e with
  |Call f a b c=>
   have h:FC f a b c=b4 (bn,sf):=h;match a,h with
   |[a1,a2],h=>
    cases b with
    |cons _ _=>cases h|nil=>
     obtain⟨z,v,h⟩:=VF.mp h;obtain⟨r,w,h⟩:=VF.mp h;obtain⟨q,x,h⟩:=VF.mp h;obtain⟨s,y,d⟩:=VF.mp h;obtain⟨n,rfl⟩:=mR v;obtain⟨j,o,rfl⟩:=Rk w;obtain⟨l,u⟩:=mR y;have i:=FA x;rw[u]at i;subst i;by_cases hc:(q.2.1=="__init__" && (q.2.2.endLine==c.line))=b8
     ·rw[if_pos hc]at d;cases d;rw[VO,beq_iff_eq]at hc;rw[hc.1];exact⟨_,_,_,_,_,_,_,_,rfl,hc.2⟩
     ·rw[if_neg hc]at d;cases d
  |_=>cases h
 |_=>cases h
theorem Rm{st:Stmt}{sf a ar:Str}(h:FE st=b4 (sf,a,ar)):∃c p d b,st=.Assign [.Attribute (.Name sf c) a p] (.Name ar d) b:=by
 cases st with
 |Assign s e b=>
  match s,h with
  |[t],h=>obtain⟨q,m,h⟩:=VF.mp h;obtain⟨r,n,h⟩:=VF.mp h;obtain⟨j,o,h⟩:=VF.mp h;cases h;obtain⟨c,l⟩:=mR n;obtain⟨d,rfl⟩:=mR o;have i:=FA m;rw[l]at i;exact⟨c,_,d,b,by rw[i]⟩
 |_=>cases h
noncomputable def rL(K:VG)(x bn:Str):Addr×Addr×Addr×Value×Addr:=
 let C:=(iB K x).getD 0
 let f:=(match K.lookup C with
  |some ⟨_,_,.cls cd,_⟩=>(match W0 K cd.ns "__init__" with
   |some (b4 (.ref f))=>f
   |_=>0)
  |_=>0)
 let q:=(match K.lookup f with
  |some ⟨_,_,.func fd,_⟩=>(match fd.code with
   |.ref c=>(fd.pyModule,c)
   |_=>(.none,0))
  |_=>(.none,0))
 (C,f,(iB K bn).getD 0,q.1,q.2)
noncomputable def Rn(x qual:Str)(st:Stmt)(m:Value)(c:Addr):Obj:=⟨Wa "function",b6,.func (Xv x qual (fS st) (cL st) (bM st) .none .none .none m b6 (.ref c) .none),#[]⟩
noncomputable def o8(K:VG)(x a bn qual:Str)(st:Stmt):Bool:=
 let q:=rL K x bn
 W0 K WD x==b4 (b4 (.ref q.1))&&tK K q.1 q.2.1&&yJ K q.2.2.1&&W0 K WD bn==b4 (b4 (.ref q.2.2.1))&&Xh K (.ref q.1) "__setattr__"==b4 (b4 (.builtin "object.__setattr__")) &&
 Xh K (.ref q.1) a==b4 b6&&WX K (.ref q.1)&&ZY K (.ref q.2.2.2.2) qual&&WX K (.ref q.2.1)&&j7 st
noncomputable abbrev rM(K:VG)(x a:Str):Prop:=∃C f B bn b sf ar,InitK K C f B bn a/\W0 K WD x=b4 (b4 (.ref C))/\WX K (.ref C)=b8/\(∀P w d base k,FnOk P w K d base dY (k+1) f b [sf,ar] (mI C a))/\Binds K b [sf,ar] []/\∃c,K.lookup f=b4 c/\c.cls=.type "function"
theorem Ax{K:VG}{x a bn qual sf ar:Str}{st s1 s2:Stmt}(hB:o8 K x a bn qual st=b8)(b:K.lookup (rL K x bn).2.1=b4 (Rn "__init__" qual st (rL K x bn).2.2.2.1 (rL K x bn).2.2.2.2)) (M:cL st=[s1,s2])(h1:FD s1=b4 (bn,sf))(H:FE s2=b4 (sf,a,ar))
  (J:gR st=[sf,ar])(L:cZ st=[sf,ar])(N:(bM st).names.lookup bn=b4 .globalImplicit)(O:((bn==("__debug__":Str))||(sf==("__debug__":Str))||(ar==("__debug__":Str))||(sf==("__classdict__":Str))||(ar==("__classdict__":Str)))=b7)
  (hD:∀(kV h R:Value)(an:Option Addr)(e ct u v:Value),a2T (Xv "__init__" qual (fS st) (cL st) (bM st) .none kV h R an e ct) ⟨[u,v],[]⟩=pure [(sf,u),(ar,v)]) :
  rM K x a:=by
 unfold o8 at hB;generalize rL K x bn=q at hB b;obtain⟨C,f,B,m,c⟩:=q;dsimp only at hB b;rw[VO,VO,VO,VO,VO,VO,VO,VO,VO,beq_iff_eq,beq_iff_eq,beq_iff_eq,beq_iff_eq]at hB;obtain⟨⟨⟨⟨⟨⟨⟨⟨⟨o,p⟩,r⟩,s⟩,y⟩,z⟩,A⟩,E⟩,G⟩,d⟩:=hB;have I:InitK K C f B bn a:=⟨p,r,s,y,z⟩;have F:=B9 (st:=st) b E G;obtain⟨tx,U,Y,Z,p3,p4,p5,p6,rfl,j⟩:=Rl h1;obtain⟨p7,p8,p9,Q,rfl⟩:=Rm H;have l:=Fm d;rw[J,L]at l;refine⟨C,f,B,bn,_,sf,ar,I,o,A,λP w X n k=>NK F l M j I N O,Binds.all λT i=>?_,_,b,rfl⟩;match T,i with
 |[u,v],_=>exact hD _ _ _ _ _ _ u v
theorem Ro{S:Sig}{K:VG}
  (h1:(S.cls.all λp=>tP K p.2 p.1)=b8)
  (n:(S.sup.all λp=>S.sup.all λq=>qF K p.1 q.1==b4 (p.2.contains q.1))=b8)
  (o:(S.sup.all λp=>S.sup.all λq=>match iB K q.1 with|some C=>tQ K (.ref C) p.1==b4 (p.2.contains q.1)|none=>b7)=b8)(r:(S.sup.all λp=>tQ K (.type "ValueError") p.1==b4 (p.2.contains "ValueError"))=b8)
  (s:(S.sup.all λp=>(S.cls.lookup p.1).isSome||match iB K p.1 with|some C=>a4q K C mH "ValueError.__new__" |none=>b7)=b8)
  (u:∀p∈S.cls,rM K p.1 p.2)
  : XcOk S K:=by
 have two:∀{g:Str×List Str->Str×List Str->Bool},(S.sup.all λp=>S.sup.all λq=>g p q)=b8->∀x b c d,S.sup.lookup x=b4 b->S.sup.lookup c=b4 d->g (x,b) (c,d)=true:=λ{g} h x b c d l m=>Xx.mp (Xx.mp h (x,b) (jO l)) (c,d) (jO m);refine⟨λx a e=>Xx.mp h1 (x,a) (jO e),λx b c e hc=>?_,λx b c e hc=>?_,λx b e=>?_,λx b e v=>?_,λx a e=>u (x,a) (jO e)⟩
 ·obtain⟨d,j⟩:=Y2.mp hc;exact beq_iff_eq.mp (two n x b c d e j)
 ·obtain⟨d,j⟩:=Y2.mp hc;have:=two o x b c d e j;dsimp only at this;split at this
  ·rename_i C i;exact⟨C,i,beq_iff_eq.mp this⟩
  ·cases this
 ·exact beq_iff_eq.mp (Xx.mp r (x,b) (jO e))
 ·have:=Xx.mp s (x,b) (jO e);dsimp only at this;rw[v]at this;split at this
  ·rename_i C i;exact⟨C,by simpa using this,tG i⟩
  ·simp at this
end L3
namespace L3
open PySem L2
noncomputable def W{a:Type}(o:Option a)(Q:a->Prop):Prop:=∃r,o=b4 r/\Q r
section
variable{α β:Type}{o:Option α}{Q:α->Prop}
theorem W_some{r:α}{Q:α->Prop}:W (b4 r) Q↔Q r:=⟨λ⟨_,h,q⟩=>by cases h;exact q,λq=>⟨r,rfl,q⟩⟩
theorem W_none{Q:α->Prop}:W b6 Q↔False:=⟨λ⟨_,h,_⟩=>(by cases h),λh=>h.elim⟩
theorem W_bind{g:α->Option β}{Q:β->Prop}:W (o.bind g) Q↔W o λr=>W (g r) Q:=by
 cases o with
 |none=>exact⟨λ⟨_,h,_⟩=>(by cases h),λ⟨_,h,_⟩=>(by cases h)⟩|some a=>simp[W_some]
theorem W_map{g:α->β}{Q:β->Prop}:W (o.map g) Q↔W o λr=>Q (g r):=by
 cases o with
 |none=>exact⟨λ⟨_,h,_⟩=>(by cases h),λ⟨_,h,_⟩=>(by cases h)⟩|some a=>simp[W_some]
theorem bE{a:α->Prop}(h:W o Q)(k:∀r,Q r->a r):W o a:=let⟨r,e,q⟩:=h;⟨r,e,k r q⟩
theorem uV{c:Prop} [Decidable c] {a b:Option α}:W (if c then a else b) Q↔if c then W a Q else W b Q:=by split<;>rfl
end
noncomputable def fin:Option (Fl×aE×Hm)->Option (D×Hm):=λo=>o.bind λp=>match p.1 with|.rt d=>b4 (d,p.2.2)|.nx=>b4 (.non,p.2.2)|_=>b6
noncomputable def Ay:Option (Xn×aE×Hm)->Option (Xn×Hm):=λo=>o.map λp=>(p.1,p.2.2)
theorem W_fin{o:Option (Fl×aE×Hm)}{Q:D×Hm->Prop}:W (fin o) Q↔W o λp=>match p.1 with|.rt d=>Q (d,p.2.2)|.nx=>Q (.non,p.2.2)|_=>False:=by
 unfold fin;rw[W_bind];constructor
 ·exact λh=>bE h λp q=>by obtain⟨a,c,b⟩:=p;cases a<;>simpa[W_some,W_none]using q
 ·exact λh=>bE h λp q=>by obtain⟨a,c,b⟩:=p;cases a<;>simpa[W_some,W_none]using q
theorem aN{b μ':Hm}(h:b<+:μ'){a:Nat}{c:C}(e:b[a]?=b4 c):μ'[a]?=b4 c:=by obtain⟨t,rfl⟩:=h;have d:=(VN.mp e).1;rw[Ww d];exact e
theorem aX(a:Hm)(c:C):a<+:a++[c]:=⟨[c],rfl⟩
theorem iD{b μ':Hm}(h:b<+:μ'){a:Nat}(d:b.length<=a)(c:C):b<+:μ'.set a c:=by obtain⟨t,rfl⟩:=h;rw[a0z _ _ d];exact⟨_,rfl⟩
theorem w_mSeq{a b:MS}{d:aE}{c:Hm} {Q}:W (aH a b d c) Q↔W (a d c) λp=>match p.1 with|.nx=>W (b p.2.1 p.2.2) Q|_=>Q p:=by
 unfold aH;rw[W_bind];constructor
 ·exact λh=>bE h λp q=>by obtain⟨e,d,c⟩:=p;cases e<;>simpa[W_some,W_none]using q
 ·exact λh=>bE h λp q=>by obtain⟨e,d,c⟩:=p;cases e<;>simpa[W_some,W_none]using q
theorem w_mRet{m:ME}{a:aE}{b:Hm} {Q}:W (aO m a b) Q↔W (m a b) λp=>Q (.rt p.1,a,p.2):=W_map
theorem w_mDrop{m:ME}{a:aE}{b:Hm} {Q}:W (cM m a b) Q↔W (m a b) λp=>Q (.nx,a,p.2):=W_map
theorem w_mSet{i:Nat}{m:ME}{a:aE}{b:Hm} {Q}:W (aL i m a b) Q↔W (m a b) λp=>Q (.nx,a.set i (b4 p.1),p.2):=W_map
theorem w_mNext{b:aE}{a:Hm} {Q}:W (bI b a) Q↔Q (.nx,b,a):=W_some
theorem w_mIfS{t:MT}{a b:MS}{c:aE}{d:Hm} {Q}:W (bG t a b c d) Q↔W (t c d) λp=>if p.1=b8 then W (a c p.2) Q else W (b c p.2) Q:=by unfold bG;rw[W_bind];constructor<;>exact λh=>bE h λp q=>by obtain⟨x,d⟩:=p;cases x<;>simpa using q
theorem w_mIfE{t:MT}{a b:ME}{c:aE}{d:Hm} {Q}:W (jC t a b c d) Q↔W (t c d) λp=>if p.1=b8 then W (a c p.2) Q else W (b c p.2) Q:=by unfold jC;rw[W_bind];constructor<;>exact λh=>bE h λp q=>by obtain⟨x,d⟩:=p;cases x<;>simpa using q
theorem w_mAndT{a b:MT}{d:aE}{c:Hm} {Q}:W (fT a b d c) Q↔W (a d c) λp=>if p.1=b8 then W (b d p.2) Q else Q (b7,p.2):=by unfold fT;rw[W_bind];constructor<;>exact λh=>bE h λp q=>by obtain⟨x,c⟩:=p;cases x<;>simpa[W_some]using q
theorem w_mOrT{a b:MT}{d:aE}{c:Hm} {Q}:W (jB a b d c) Q↔W (a d c) λp=>if p.1=b8 then Q (b8,p.2)else W (b d p.2) Q:=by unfold jB;rw[W_bind];constructor<;>exact λh=>bE h λp q=>by obtain⟨x,c⟩:=p;cases x<;>simpa[W_some]using q
theorem w_mNotT{a:MT}{c:aE}{b:Hm} {Q}:W (gM a c b) Q↔W (a c b) λp=>Q (!p.1,p.2):=W_map
theorem w_mOp{f:D->D->Hm->Option (D×Hm)}{a b:ME}{c:aE}{d:Hm} {Q}:W (aC f a b c d) Q↔W (a c d) λp=>W (b c p.2) λq=>W (f p.1 q.1 q.2) Q:=by unfold aC;rw[W_bind];simp only[W_bind]
theorem dH{d:D}{b:aE}{a:Hm} {Q}:W (mC d b a) Q↔Q (d,a):=W_some
theorem bW{d:D}{b:aE}{a:Hm} {Q}:W (aA 0 (b4 d::b) a) Q↔Q (d,a):=by show W (b4 (d,a)) Q↔_;exact W_some
theorem cV{i:Nat}{x:Option D}{b:aE}{a:Hm} {Q}:W (aA (i+1) (x::b) a) Q↔W (aA i b a) Q:=by unfold aA;rw[List.getElem?_cons_succ]
theorem c8{b:aE}{a:Hm} {Q}:W (aD b a) Q↔Q ([],a):=W_some
theorem w_mCons{a:ME}{r:MA}{b:aE}{c:Hm} {Q}:W (aB a r b c) Q↔W (a b c) λp=>W (r b p.2) λq=>Q (p.1::q.1,q.2):=by unfold aB;simp only[W_bind,W_some]
theorem w_mTup {ms:MA}{b:aE}{a:Hm} {Q}:W (aU ms b a) Q↔W (ms b a) fun p=>p.1.length<=VW/\Q (.tup p.1,p.2):=by
 unfold aU
 rw [W_bind]
 constructor<;>exact fun h=>bE h fun p q=>by
  first
  | (rw [uV] at q;split at q
     ·exact ⟨by assumption,W_some.mp q⟩
     ·exact (W_none.mp q).elim)
  | (rw [if_pos q.1];exact W_some.mpr q.2)
theorem w_mLst {ms:MA}{b:aE}{a:Hm} {Q}:W (cA ms b a) Q↔W (ms b a) fun p=>p.1.length<=VW/\Q (.loc p.2.length,p.2++[.lst p.1]):=by
 unfold cA
 rw [W_bind]
 constructor<;>exact fun h=>bE h fun p q=>by
  first
  | (rw [uV] at q;split at q
     ·exact ⟨by assumption,W_some.mp q⟩
     ·exact (W_none.mp q).elim)
  | (rw [if_pos q.1];exact W_some.mpr q.2)
theorem w_mCall {f:MF}{ms:MA}{b:aE}{a:Hm} {Q}:W (aF f ms b a) Q↔W (ms b a) fun p=>W (f p.1 p.2) Q:=W_bind
theorem w_mTest{m:ME}{c:aE}{a:Hm} {Q}:W (aS m c a) Q↔W (m c a) λp=>match p.1 with|.bl b=>Q (b,p.2)|_=>False:=by unfold aS;rw[W_bind];constructor<;>exact λh=>bE h λp q=>by obtain⟨d,a⟩:=p;cases d<;>simpa[W_some,W_none]using q
theorem w_mTru{m:ME}{c:aE}{a:Hm} {Q}:W (d9 m c a) Q↔W (m c a) λp=>W (nX p.2 p.1) λb=>Q (b,p.2):=by unfold d9;simp only[W_bind,W_map]
theorem Rq{a:ME}{c:aE}{b:Hm} {Q}:W (eQ a c b) Q↔W (a c b) λp=>match p.1 with|.int i=>Q (.int (-i),p.2)|_=>False:=by unfold eQ;rw[W_bind];constructor<;>exact λh=>bE h λp q=>by obtain⟨d,b⟩:=p;cases d<;>simpa[W_some,W_none,W_map,xJ]using q
theorem Rt{a:ME}{e:aE}{c:Hm} {Q}:W (nE a e c) Q↔W (a e c) λp=>match p.1 with|.bl b=>Q (.bl (!b),p.2)|_=>False:=by unfold nE;rw[W_bind];constructor<;>exact λh=>bE h λp q=>by obtain⟨d,c⟩:=p;cases d<;>simpa[W_some,W_none]using q
theorem w_mAndV{a b:ME}{i:aE}{e:Hm} {Q}:W (dS a b i e) Q↔W (a i e) λp=>match p.1 with|.bl c=>if c=b8 then W (b i p.2) Q else Q (.bl b7,p.2)|_=>False:=by
 unfold dS;rw[W_bind];constructor<;>exact λh=>bE h λp q=>by
  obtain⟨d,e⟩:=p;cases d with
  |bl c=>cases c<;>simpa[W_some]using q|_=>simpa[W_none]using q
theorem w_mAsg{m:ME}{g:MG}{a:aE}{c:Hm} {Q}:W (kM m g a c) Q↔W (m a c) λp=>W (g p.1 a p.2) λb=>Q (.nx,b,p.2):=by unfold kM;simp only[W_bind,W_map]
section
variable{i j:Int}{μ:Hm}{Q:D×Hm->Prop}{a b c d e g:D}
theorem w_addI:W (bC (.int i) (.int j) μ) Q↔Q (.int (i+j),μ):=W_some
theorem w_subI:W (cQ (.int i) (.int j) μ) Q↔Q (.int (i-j),μ):=W_some
theorem dW(h:0<j):W (aV (.int i) (.int j) μ) Q↔Q (.int (i%j),μ):=by show W ((if 0<j then b4 (i%j)else b6).map λz=>(D.int z,μ)) Q↔_;rw[if_pos h];exact W_some
theorem Ru:(1073741824:Int)<2^4000:=by decide +kernel
theorem Rv(h:0<j)(l:j<2^4000):W (cY (.int i) (.int j) μ) Q↔Q (.int (i/j),μ):=by show W ((if 0<j/\j<2^4000 then b4 (i/j)else b6).map λz=>(D.int z,μ)) Q↔_;rw[if_pos ⟨h,l⟩];exact W_some
theorem rN(h:0<j)(l:j<1073741824):W (cY (.int i) (.int j) μ) Q↔Q (.int (i/j),μ):=Rv h (Int.lt_trans l Ru)
theorem kZ(h:(-(2^64)<i/\i<2^64)\/(-(2^64)<j/\j<2^64)):W (cB (.int i) (.int j) μ) Q↔Q (.int (i*j),μ):=by show W ((if((-(2^64)<i/\i<2^64)\/(-(2^64)<j/\j<2^64))\/(i.natAbs<2^4000/\j.natAbs<2^4000)\/Wv i+Wv j<=134217728 then b4 (i*j)else b6).map λz=>(D.int z,μ)) Q↔_;rw[if_pos (.inl h)];exact W_some
theorem w_eqI:W (aY b7 (.int i) (.int j) μ) Q↔Q (.bl (i==j),μ):=W_some
theorem w_neI:W (aY b8 (.int i) (.int j) μ) Q↔Q (.bl (!(i==j)),μ):=W_some
theorem w_ltI:W (dD (.int i) (.int j) μ) Q↔Q (.bl (decide (i<j)),μ):=W_some
theorem w_leI:W (nH (.int i) (.int j) μ) Q↔Q (.bl (decide (i<=j)),μ):=W_some
theorem w_gtI:W (lX (.int i) (.int j) μ) Q↔Q (.bl (decide (j<i)),μ):=W_some
theorem Rw:W (pY (.int i) (.int j) μ) Q↔Q (.bl (decide (j<=i)),μ):=W_some
theorem o9:W (aG (.tup [a,b]) (.int 0) μ) Q↔Q (a,μ):=W_some
theorem w_it21:W (aG (.tup [a,b]) (.int 1) μ) Q↔Q (b,μ):=W_some
theorem Ry:W (aG (.tup [a,b,c,d,e,g]) (.int 0) μ) Q↔Q (a,μ):=W_some
theorem Rz:W (aG (.tup [a,b,c,d,e,g]) (.int 1) μ) Q↔Q (b,μ):=W_some
theorem RA:W (aG (.tup [a,b,c,d,e,g]) (.int 2) μ) Q↔Q (c,μ):=W_some
theorem RB:W (aG (.tup [a,b,c,d,e,g]) (.int 3) μ) Q↔Q (d,μ):=W_some
theorem RC:W (aG (.tup [a,b,c,d,e,g]) (.int 4) μ) Q↔Q (e,μ):=W_some
theorem RD:W (aG (.tup [a,b,c,d,e,g]) (.int 5) μ) Q↔Q (g,μ):=W_some
theorem w_truB{b:Bool}{Q:Bool->Prop}:W (nX μ (.bl b)) Q↔Q b:=W_some
theorem w_gTup2{h:aE}{i j:Nat}{Q:aE->Prop}:W (iL [i,j] (.tup [a,b]) h μ) Q↔Q ((h.set i (b4 a)).set j (b4 b)):=W_some
end
theorem f9{b:Hm}{a:Nat}{xs:List D}{i:Int}{d:D}{Q:D×Hm->Prop}(h:b[a]?=b4 (.lst xs))(c:atI xs i=b4 d):W (aG (.loc a) (.int i) b) Q↔Q (d,b):=by
 have:aG (.loc a) (.int i) b=b4 (d,b):=by simp only[aG,gN,bF,h,Wg,c,Wu]
 rw[this];exact W_some
end L3
namespace L3
open PySem L2
theorem w_iSeq{m:ME}{b:aE}{a:Hm}{Q:eS×Nat×Hm->Prop}:W (cC m b a) Q↔W (m b a) λp=>W (jY p.2 p.1) λxs=>Q (eI p.1,xs.length+1,p.2):=by unfold cC;simp only[W_bind,W_map]
theorem w_mForI{c:MI}{g:MG}{b:MS}{a:aE}{d:Hm} {Q}:W (cR c g b a d) Q↔W (c a d) λp=>W (fB p.1 g b p.2.1 0 a p.2.2) Q:=W_bind
theorem mS {j:Int}{ms:MA}{e:aE}{c:Hm}{Q:eS×Nat×Hm->Prop}:W (fX ms e c) Q↔W (ms e c) fun p=>match p.1 with|[.int j]=>(-(2 ^ 62)<=j/\j<2 ^ 62)/\Q (iK 0 j.toNat,j.toNat+1,p.2)|_=>False:=by
 unfold fX
 rw [W_bind]
 constructor<;>exact fun h=>bE h fun p q=>by
  obtain ⟨l,c⟩:=p
  match l,q with
  | [],q=>simpa [W_none] using q
  | [d],q=>
   cases d with
   | int j=>
    first
    | (dsimp only at q;rw [uV] at q;split at q
       ·rename_i i;exact ⟨i,W_some.mp q⟩
       ·exact (W_none.mp q).elim)
    | (dsimp only;rw [if_pos q.1];exact W_some.mpr q.2)
   | _=>simpa [W_none] using q
  | a::b::l,q=>simpa [W_none] using q
theorem w_iRng2 {ms:MA}{b:aE}{a:Hm}{Q:eS×Nat×Hm->Prop}:W (kP ms b a) Q↔W (ms b a) fun p=>match p.1 with|[.int i,.int j]=>(-(2 ^ 62)<=i/\i<2 ^ 62/\-(2 ^ 62)<=j/\j<2 ^ 62)/\Q (iK i (j - i).toNat,(j - i).toNat+1,p.2)|_=>False:=by
 unfold kP
 rw [W_bind]
 constructor<;>exact fun h=>bE h fun p q=>by
  split at q
  ·rename_i e
   try rw [e]
   first
   | (rw [uV] at q;split at q
      ·rename_i c;exact ⟨c,W_some.mp q⟩
      ·exact (W_none.mp q).elim)
   | ((try dsimp only);rw [if_pos q.1];exact W_some.mpr q.2)
  ·first
   | exact (W_none.mp q).elim
   | exact q.elim
theorem rO {j:eS}{g:MG}{b:MS}{N:Nat}{Q:Fl×aE×Hm->Prop}(I:Nat->aE->Hm->Prop)
  (go:∀ i c a,i<N->I i c a->∃ d l,j a i=b4 (b4 d)/\g d c a=b4 l/\W (b l a) fun p=>match p.1 with|.nx=>I (i+1) p.2.1 p.2.2|.ct=>I (i+1) p.2.1 p.2.2|.bk=>Q (.nx,p.2.1,p.2.2)|.rt d=>Q (.rt d,p.2.1,p.2.2))
  (e:∀ c a,I N c a->j a N=b4 b6/\Q (.nx,c,a)):∀ (m i:Nat)(c:aE)(a:Hm),i+m=N->I i c a->W (fB j g b (m+1) i c a) Q
 | 0,i,c,a,h,hI=>by
  have:i=N:=by omega
  subst this
  obtain ⟨r,s⟩:=e c a hI
  unfold fB
  rw [r]
  exact W_some.mpr s
 | m+1,i,c,a,h,hI=>by
  obtain ⟨d,l,r,s,v⟩:=go i c a (by omega) hI
  unfold fB
  rw [r]
  simp only [Wg,s]
  rw [W_bind]
  refine bE v fun p q=>?_
  obtain ⟨u,o,n⟩:=p
  cases u with
  | nx=>exact rO I go e m (i+1) o n (by omega) q
  | ct=>exact rO I go e m (i+1) o n (by omega) q
  | bk=>exact W_some.mpr q
  | rt d=>exact W_some.mpr q
theorem jP{a:Nat}{xs:List D}{g:MG}{b:MS}{h:aE}{c:Hm}{Q:Fl×aE×Hm->Prop}(I:Nat->aE->Hm->Prop)(o:I 0 h c)(n:∀i h c,I i h c->c[a]?=b4 (.lst xs))
  (go:∀i d h c,xs[i]?=b4 d->I i h c->∃j,g d h c=b4 j/\W (b j c) λp=>match p.1 with|.nx=>I (i+1) p.2.1 p.2.2|.ct=>I (i+1) p.2.1 p.2.2|.bk=>Q (.nx,p.2.1,p.2.2)|.rt d=>Q (.rt d,p.2.1,p.2.2))
  (m:∀h c,I xs.length h c->Q (.nx,h,c)):W (fB (eI (.loc a)) g b (xs.length+1) 0 h c) Q:=by
 refine rO (N:=xs.length) I (λi h c s l=>?_) (λh c l=>⟨?_,m h c l⟩) xs.length 0 h c (by omega) o
 ·have e:xs[i]?=b4 xs[i]:=VT s;obtain⟨j,q,r⟩:=go i xs[i] h c e l;refine⟨xs[i],j,?_,q,r⟩;simp only[eI,jY,bF,n i h c l,Wu,e]
 ·simp only[eI,jY,bF,n _ h c l,Wu];simp
theorem j8{lo:Int}{n:Nat}{g:MG}{b:MS}{c:aE}{a:Hm}{Q:Fl×aE×Hm->Prop}(I:Nat->aE->Hm->Prop)(m:I 0 c a)
  (go:∀(i:Nat) c a,i<n->I i c a->∃e,g (.int (lo+i)) c a=b4 e/\W (b e a) λp=>match p.1 with|.nx=>I (i+1) p.2.1 p.2.2|.ct=>I (i+1) p.2.1 p.2.2|.bk=>Q (.nx,p.2.1,p.2.2)|.rt d=>Q (.rt d,p.2.1,p.2.2))
  (h:∀c a,I n c a->Q (.nx,c,a)):W (fB (iK lo n) g b (n+1) 0 c a) Q:=by
 refine rO (N:=n) I (λi c a l j=>?_) (λc a j=>⟨?_,h c a j⟩) n 0 c a (by omega) m
 ·obtain⟨e,o,q⟩:=go i c a l j;exact⟨_,e,by simp only[iK,if_pos l],o,q⟩
 ·simp only[iK,Xp,if_false]
theorem Az{c:Hm}{a:Nat}{b:List D}{y:D}(h:c[a]?=b4 (.lst b))(d:b.length<VW):nK c a y=b4 (c.set a (.lst (b++[y]))):=by unfold nK;rw[h];exact if_pos d
theorem AA{z:eS}{c:MT}{e:ME}{J:aE}{h:Hm}{xs:List D}{p:D->Bool}{v:D->D}{Q:Hm->Prop}(B:∀a i,h<+:a->z a i=b4 xs[i]?)(K:xs.length<=VW)
  (hc:∀d a,d∈xs->h<+:a->W (c (J++[b4 d]) a) λr=>r.1=p d/\a<+:r.2)
  (E:∀d a,d∈xs->p d=b8->h<+:a->W (e (J++[b4 d]) a) λr=>r.1=v d/\a<+:r.2)
  (fin:∀a,h<+:a->a[h.length]?=b4 (.lst ((xs.filter p).map v))->Q a) :
  ∀(m i:Nat)(a:Hm),i+m=xs.length->h<+:a->a[h.length]?=b4 (.lst (((xs.take i).filter p).map v))->W (gP z nM c e J h.length (m+1) i a) Q
 |0,i,a,hi,hp,ha=>by
  have:i=xs.length:=by omega
  subst this;unfold gP;rw[B a _ hp];rw[ZE (VS _)];simp only[Wg];refine W_some.mpr (fin a hp ?_);simpa using ha
 |m+1,i,a,hi,hp,ha=>by
  have w:i<xs.length:=by omega
  have L:xs[i]?=b4 xs[i]:=VT w;have l:xs[i]∈xs:=Yc w;unfold gP;rw[B a _ hp,L];simp only[Wg,nM];rw[W_bind];refine bE (hc _ a l hp) λr q=>?_;obtain⟨b,A⟩:=r;obtain⟨M,x⟩:=q;dsimp only at M x ⊢;subst M;have j:xs.take (i+1)=xs.take i++[xs[i]]:=by rw[YV,L];rfl
  have o:=aN x ha;cases n:p xs[i]with
  |false=>refine AA B K hc E fin m (i+1) A (by omega) (hp.trans x) ?_;rw[o,j,Yw];simp[n]|true=>
   dsimp only;rw[W_bind];refine bE (E _ A l n (hp.trans x)) λr q=>?_;obtain⟨y,I⟩:=r;obtain⟨N,H⟩:=q;dsimp only at N H ⊢;subst N;have s:=aN H o;have u:(((xs.take i).filter p).map v).length<VW:=by have O:=XS p (xs.take i);rw[VI];rw[WV]at O;omega
   rw[Az s u,Wg];have G:h<+:I:=(hp.trans x).trans H;refine AA B K hc E fin m (i+1) _ (by omega) (iD G (VS _) _) ?_;rw[WA (VN.mp s).1,j,Yw];simp[n]
theorem gC{x:MI}{c:MT}{e:ME}{b:aE}{y:Hm}{xs:List D}{p:D->Bool}{v:D->D}{Q:D×Hm->Prop}
  (hit:W (x b y) λr=>(∀a i,r.2.2<+:a->r.1 a i=b4 xs[i]?)/\r.2.1=xs.length+1/\xs.length<=VW /\
   (∀d a,d∈xs->r.2.2<+:a->W (c (b++[b4 d]) a) λs=>s.1=p d/\a<+:s.2)/\(∀d a,d∈xs->p d=b8->r.2.2<+:a->W (e (b++[b4 d]) a) λs=>s.1=v d/\a<+:s.2) /\
   ∀a,r.2.2<+:a->a[r.2.2.length]?=b4 (.lst ((xs.filter p).map v))->Q (.loc r.2.2.length,a)):W (eJ x c e b y) Q:=by
 unfold eJ eU;rw[W_bind];refine bE hit λr q=>?_;obtain⟨z,n,h⟩:=r;obtain⟨j,l,m,o,u,w⟩:=q;dsimp only at j l m o u w ⊢;subst l;rw[W_map];exact AA j m o u w xs.length 0 (h++[.lst []]) (by omega) (aX _ _) (by simp)
theorem iS{b:Hm}{a:Nat}{xs:List D}(h:b[a]?=b4 (.lst xs)):∀μ' i,b<+:μ'->eI (.loc a) μ' i=b4 xs[i]?:=λμ' i c=>by simp only[eI,jY,bF,aN c h,Wu]
theorem RE{xs:List D}{a:Hm}:∀μ' i,a<+:μ'->eI (.tup xs) μ' i=b4 xs[i]?:=λμ' i b=>rfl
noncomputable def gW(lo:Int)(n:Nat):List D:=(Wf n).map λ(i:Nat)=>.int (lo+(i:Int))
theorem FF{lo:Int}{n:Nat}{a:Hm}:∀μ' i,a<+:μ'->iK lo n μ' i=b4 (gW lo n)[i]?:=λμ' i _=>by
 unfold iK gW;rw[V5];by_cases h:i<n
 ·rw[if_pos h,a3t h];rfl
 ·rw[if_neg h,ZE (by simpa using ZL.mp h)];rfl
noncomputable abbrev P(x y:Int):D:=.tup [.int x,.int y]
noncomputable abbrev PP(p:Int×Int):D:=P p.1 p.2
theorem AB(n:Nat)(e:Hm)(p q:Int×Int):cS (n+2) e (PP p) (PP q)=b4 (p==q):=by obtain⟨a,b⟩:=p;obtain⟨c,d⟩:=q;show b4 (a==c&&(b==d&&b8))=b4 ((a,b)==(c,d));rw[a5f];rfl
theorem uW(n:Nat)(d:Hm):∀ps a:List Int,fU (gO (n+1) d) (ps.map D.int) (a.map D.int)=b4 (ps==a)
 |[],[]=>rfl|[],_::_=>rfl|_::_,[]=>rfl|p::ps,q::a=>by rw[V0,V0];show(cS (n+1) d (.int p) (.int q)).bind (λb=>(fU (gO (n+1) d) (ps.map D.int) (a.map D.int)).map λc=>b&&c)=_;rw[uW n d ps a];rfl
theorem FG{c:Hm}{a b:Nat}{xs d:List D}{Q:D×Hm->Prop}(e:c[a]?=b4 (.lst xs))(h:c[b]?=b4 (.lst d))(i:xs.length+d.length<=VW):W (bC (.loc a) (.loc b) c) Q↔Q (.loc c.length,c++[.lst (xs++d)]):=by simp only[bC,e,h,if_pos i];exact W_some
theorem eW{f:D->List D->Hm->Option (D×Hm)}{b:ME}{ms:MA}{a:aE}{c:Hm}{Q:D×Hm->Prop}(h:W (b a c) λp=>nV p.2 p.1=b8/\W (ms a p.2) λq=>W (f p.1 q.1 q.2) Q):W (dG f b ms a c) Q:=by unfold dG;rw[W_bind];refine bE h λp q=>?_;rw[q.1];exact W_bind.mpr q.2
theorem eX{b:Hm}{a:Nat}{xs:List D}(h:b[a]?=b4 (.lst xs)):nV b (.loc a)=true:=by simp only[nV,h]
theorem iT{b:Hm}{a:Nat}{xs:List D}{y:D}{Q:D×Hm->Prop}(h:b[a]?=b4 (.lst xs))(c:xs.length<VW):W (fD (.loc a) [y] b) Q↔Q (.non,b.set a (.lst (xs++[y]))):=by simp only[fD,Az h c,Wu];exact W_some
theorem uX{c:Hm}{a b:Nat}{xs d:List D}{Q:D×Hm->Prop}(h:c[a]?=b4 (.lst xs))(e:c[b]?=b4 (.lst d))(i:xs.length+d.length<=VW):W (jI (.loc a) [.loc b] c) Q↔Q (.non,c.set a (.lst (xs++d))):=by simp only[jI,h,e,if_pos i];exact W_some
theorem RG{a:Hm}{i:Int}{Q:D×Hm->Prop}:W (fN [.int i,.ty "bool"] a) Q↔Q (.bl b7,a):=W_some
theorem RH{a:Hm}{i:Int}{Q:D×Hm->Prop}:W (fN [.int i,.ty "int"] a) Q↔Q (.bl b8,a):=W_some
theorem RI{b:Hm}{a:Nat}{xs:List D}{Q:D×Hm->Prop}(h:b[a]?=b4 (.lst xs)):W (fN [.loc a,.ty "list"] b) Q↔Q (.bl b8,b):=by
 have:fN [.loc a,.ty "list"] b=b4 (.bl b8,b):=by simp only[fN,sO,h,Wg];rfl
 rw[this];exact W_some
theorem dP{b:Hm}{a:Nat}{xs:List D}{Q:D×Hm->Prop}(h:b[a]?=b4 (.lst xs)):W (bH [.loc a] b) Q↔Q (.int xs.length,b):=by simp only[bH,pZ,bF,h,Wu];exact W_some
theorem w_lenR{a:Hm}{xs:List D}{Q:D×Hm->Prop}:W (bH [.rol xs] a) Q↔Q (.int xs.length,a):=W_some
theorem dQ{b:Hm}{a:Nat}{xs:List D}{Q:List D->Prop}(h:b[a]?=b4 (.lst xs)):W (jY b (.loc a)) Q↔Q xs:=by simp only[jY,bF,h];exact W_some
theorem w_seqT{a:Hm}{xs:List D}{Q:List D->Prop}:W (jY a (.tup xs)) Q↔Q xs:=W_some
theorem uY{b:aE}{a:Hm}{Q:Option Int×Hm->Prop}:W (jV b a) Q↔Q (b6,a):=W_some
theorem uZ{m:ME}{b:aE}{a:Hm}{Q:Option Int×Hm->Prop}:W (jE m b a) Q↔W (m b a) λp=>match p.1 with|.int i=>Q (b4 i,p.2)|_=>False:=by unfold jE;rw[W_bind];constructor<;>exact λh=>bE h λp q=>by obtain⟨d,a⟩:=p;cases d<;>simpa[W_some,W_none]using q
theorem FH{a:ME}{lo c:MO}{b:aE}{j:Hm}{Q:D×Hm->Prop}(h:W (a b j) λp=>∃l,p.1=.loc l/\W (lo b p.2) λq=>W (c b q.2) λr=>∃xs,r.2[l]?=b4 (.lst xs)/\Q (.loc r.2.length,r.2++[.lst (jD xs q.1 r.1)])):W (lU a lo c b j) Q:=by unfold lU;rw[W_bind];refine bE h λp q=>?_;obtain⟨d,o⟩:=p;obtain⟨l,e,i⟩:=q;dsimp only at e i ⊢;subst e;rw[W_bind];refine bE i λs q=>?_;rw[W_bind];refine bE q λr q=>?_;obtain⟨xs,m,n⟩:=q;simp only[bF,m,Wg];exact W_some.mpr n
theorem bK(a:Hm)(c:C):(a++[c])[a.length]?=b4 c:=by simp
end L3
namespace L3
open PySem L2
theorem w_mChain{f g:D->D->Hm->Option (D×Hm)}{a b c:ME}{e:aE}{i:Hm} {Q}:W (fY f g a b c e i) Q↔W (a e i) λp=>W (b e p.2) λq=>W (f p.1 q.1 q.2) λr=>match r.1 with|.bl k=>if k=b8 then W (c e r.2) λt=>W (g q.1 t.1 t.2) Q else Q (.bl b7,r.2)|_=>False:=by
 unfold fY;simp only[W_bind];constructor<;>exact λh=>bE h λp q=>bE q λm l=>bE l λr j=>by
  obtain⟨d,i⟩:=r;cases d with
  |bl k=>cases k<;>simpa[W_some,W_bind]using j|_=>simpa[W_none]using j
section
variable{i j:Int}{μ:Hm}{Q:D×Hm->Prop}
theorem w_isnotNN:W (fZ b8 .non .non μ) Q↔Q (.bl b7,μ):=W_some
theorem w_isnotTN{xs:List D}:W (fZ b8 (.tup xs) .non μ) Q↔Q (.bl b8,μ):=W_some
theorem AD:∀a:List Int,nU (a.map D.int)=b4 a
 |[]=>rfl|i::a=>by show(nU (a.map D.int)).map (i::·)=_;rw[AD a];rfl
theorem AE{a:Nat}{b:List Int}(h:μ[a]?=b4 (.lst (b.map D.int))):W (j5 [.loc a] μ) Q↔Q (.int b.sum,μ):=by simp only[j5,bF,h,Wg,AD,Wu];exact W_some
theorem RJ{a:Nat}{bs:List Bool}(h:μ[a]?=b4 (.lst (bs.map D.bl))):W (tD [.loc a] μ) Q↔Q (.bl (bs.all id),μ):=by
 have e:∀bs:List Bool,nZ (bs.map D.bl)=b4 bs:=λbs=>by
  induction bs with
  |nil=>rfl|cons b bs c=>show(nZ (bs.map D.bl)).map (b::·)=_;rw[c];rfl
 simp only[tD,bF,h,Wg,e,Wu];exact W_some
end
theorem FI{a:ME}{lo c st:MO}{b:aE}{j:Hm}{Q:D×Hm->Prop}(h:W (a b j) λp=>∃l,p.1=.loc l/\W (lo b p.2) λq=>W (c b q.2) λr=>W (st b r.2) λt=>t.1≠b4 0/\∃xs,t.2[l]?=b4 (.lst xs)/\(eB xs q.1 r.1 t.1).length<=VW/\Q (.loc t.2.length,t.2++[.lst (eB xs q.1 r.1 t.1)])):W (oE a lo c st b j) Q:=by unfold oE;rw[W_bind];refine bE h λp q=>?_;obtain⟨d,v⟩:=p;obtain⟨l,e,i⟩:=q;dsimp only at e i ⊢;subst e;rw[W_bind];refine bE i λs q=>?_;rw[W_bind];refine bE q λr q=>?_;rw[W_bind];refine bE q λt q=>?_;obtain⟨m,xs,n,o,u⟩:=q;rw[if_pos m];simp only[eK,n,Wg];rw[if_pos o];exact W_some.mpr u
theorem RK{ms:MA}{i:aE}{e:Hm}{Q:eS×Nat×Hm->Prop}(h:W (ms i e) λp=>∃a xs,p.1=[.loc a]/\p.2[a]?=b4 (.lst xs)/\Q (qI (.loc a),xs.length+1,p.2)):W (oF ms i e) Q:=by unfold oF;rw[W_bind];refine bE h λp q=>?_;obtain⟨l,j⟩:=p;obtain⟨a,xs,b,c,d⟩:=q;dsimp only at b c d ⊢;subst b;dsimp only;simp only[eK,c,Wu];exact W_some.mpr d
noncomputable def iE:Nat->List D->List D
 |_,[]=>[]|n,d::r=>.tup [.int n,d]::iE (n+1) r
theorem u6:∀(xs:List D)(n i:Nat),(iE n xs)[i]?=(xs[i]?).map λd=>.tup [.int ((n+i:Nat):Int),d]
 |[],n,i=>by simp[iE]
 |d::r,n,0=>by simp[iE]
 |d::r,n,i+1=>by show(iE (n+1) r)[i]?=_;rw[u6 r (n+1) i,show n+1+i=n+(i+1) by omega];simp
theorem AF:∀(xs:List D)(n:Nat),(iE n xs).length=xs.length
 |[],_=>rfl|d::r,n=>by rw[iE,Wc,AF r,Wc]
theorem RL{b:Hm}{a:Nat}{xs:List D}(h:b[a]?=b4 (.lst xs)):∀μ' i,b<+:μ'->qI (.loc a) μ' i=b4 (iE 0 xs)[i]?:=λμ' i c=>by simp only[qI,bF,aN c h,Wu,u6];congr 3;simp
theorem AG{p:eS}{E:BD}{c:MT}{e:ME}{B:aE}{a N:Nat}{Q:Hm->Prop}(I:Nat->List D->Hm->Prop)(G:N<=VW)(n:∀i j l,I i j l->j.length<=i)
  (go:∀i j l,i<N->I i j l->l[a]?=b4 (.lst j)->∃d x,p l i=b4 (b4 d)/\E d l=b4 x/\W (c (B++x) l) λr=>(r.1=b7->r.2[a]?=b4 (.lst j)/\I (i+1) j r.2) /\
   (r.1=b8->W (e (B++x) r.2) λs=>s.2[a]?=b4 (.lst j)/\I (i+1) (j++[s.1]) (s.2.set a (.lst (j++[s.1])))))
  (o:∀j l,I N j l->l[a]?=b4 (.lst j)->p l N=b4 b6/\Q l):∀(m i:Nat)(j:List D)(l:Hm),i+m=N->I i j l->l[a]?=b4 (.lst j)->W (gP p E c e B a (m+1) i l) Q
 |0,i,j,l,h,hI,hg=>by
  have:i=N:=by omega
  subst this;obtain⟨w,z⟩:=o j l hI hg;unfold gP;rw[w];exact W_some.mpr z
 |m+1,i,j,l,h,hI,hg=>by
  obtain⟨d,x,w,z,H⟩:=go i j l (by omega) hI hg;unfold gP;rw[w];simp only[Wg,z];rw[W_bind];refine bE H λr q=>?_;obtain⟨b,A⟩:=r;cases b with
  |false=>obtain⟨u,v⟩:=q.1 rfl;exact AG I G n go o m (i+1) j A (by omega) v u|true=>dsimp only;rw[W_bind];refine bE (q.2 rfl) λs q=>?_;obtain⟨y,J⟩:=s;obtain⟨u,v⟩:=q;dsimp only at u v ⊢;have K:=n i j l hI;rw[Az u (by omega),Wg];refine AG I G n go o m (i+1) _ _ (by omega) v ?_;rw[WA (VN.mp u).1]
theorem RM{z:eS}{H:BD}{c:MT}{e:ME}{G:aE}{h:Hm}{xs:List D}{x:D->aE}{p:D->Bool}{v:D->D}{Q:Hm->Prop}(J:∀a i,h<+:a->z a i=b4 xs[i]?)(O:xs.length<=VW)(M:∀d a,d∈xs->H d a=b4 (x d))
  (hc:∀d a,d∈xs->h<+:a->W (c (G++x d) a) λr=>r.1=p d/\a<+:r.2)
  (N:∀d a,d∈xs->p d=b8->h<+:a->W (e (G++x d) a) λr=>r.1=v d/\a<+:r.2)
  (fin:∀a,h<+:a->a[h.length]?=b4 (.lst ((xs.filter p).map v))->Q a):W (gP z H c e G h.length (xs.length+1) 0 (h++[.lst []])) Q:=by
 refine AG (N:=xs.length) (λi A a=>A=((xs.take i).filter p).map v/\h<+:a) O ?_ ?_ ?_ xs.length 0 [] _ (by omega) ⟨by simp,aX _ _⟩ (by simp)
 ·rintro i A a ⟨rfl,_⟩;rw[VI];refine WM (XS _ _) ?_;rw[WV];omega
 ·rintro i A a I ⟨rfl,m⟩ w;have K:xs[i]?=b4 xs[i]:=VT I;have j:xs[i]∈xs:=Yc I;have l:xs.take (i+1)=xs.take i++[xs[i]]:=by rw[YV,K];rfl
  refine⟨xs[i],x xs[i],by rw[J a i m,K],M _ _ j,bE (hc _ a j m) λr q=>?_⟩;obtain⟨b,E⟩:=r;obtain⟨o,u⟩:=q;dsimp only at o u ⊢;refine⟨λn=>⟨aN u w,?_,m.trans u⟩,λn=>?_⟩
  ·rw[l,Yw];rw[n]at o;simp[<- o]
  ·rw[n]at o;refine bE (N _ E j o.symm (m.trans u)) λs q=>?_;obtain⟨y,R⟩:=s;obtain⟨L,B⟩:=q;dsimp only at L B ⊢;subst L;refine⟨aN (u.trans B) w,?_,iD ((m.trans u).trans B) (VS _) _⟩;rw[l,Yw,Wz];simp[<- o]
 ·rintro A a ⟨rfl,m⟩ w;refine⟨by rw[J a _ m];simp,fin a m ?_⟩;rw[XH]at w;exact w
theorem u7{h:BD}{z:MI}{c:MT}{e:ME}{b:aE}{A:Hm}{xs:List D}{x:D->aE}{p:D->Bool}{v:D->D}{Q:D×Hm->Prop}
  (hit:W (z b A) λr=>(∀a i,r.2.2<+:a->r.1 a i=b4 xs[i]?)/\r.2.1=xs.length+1/\xs.length<=VW/\(∀d a,d∈xs->h d a=b4 (x d)) /\
   (∀d a,d∈xs->r.2.2<+:a->W (c (b++x d) a) λs=>s.1=p d/\a<+:s.2)/\(∀d a,d∈xs->p d=b8->r.2.2<+:a->W (e (b++x d) a) λs=>s.1=v d/\a<+:s.2) /\
   ∀a,r.2.2<+:a->a[r.2.2.length]?=b4 (.lst ((xs.filter p).map v))->Q (.loc r.2.2.length,a)):W (eU h z c e b A) Q:=by
 unfold eU;rw[W_bind];refine bE hit λr q=>?_;obtain⟨B,n,E⟩:=r;obtain⟨j,l,m,o,u,w,y⟩:=q;dsimp only at j l m o u w y ⊢;subst l;rw[W_map];exact RM j m o u w y
theorem w_mTrue{b:aE}{a:Hm}{Q:Bool×Hm->Prop}:W (dU b a) Q↔Q (b8,a):=W_some
theorem w_mPut{o i v:ME}{a:aE}{b:Hm} {Q}:W (mK o i v a b) Q↔W (v a b) λp=>W (o a p.2) λq=>W (i a q.2) λr=>W (oH q.1 r.1 p.1 r.2) λμ'=>Q (.nx,a,μ'):=by unfold mK mJ;simp only[W_bind,W_map]
theorem RN{ms:MA}{i:aE}{d:Hm}{Q:eS×Nat×Hm->Prop}(h:W (ms i d) λp=>∃a b xs c,p.1=[.loc a,.loc b]/\p.2[a]?=b4 (.lst xs)/\p.2[b]?=b4 (.lst c)/\Q (qN (.loc a) (.loc b),min xs.length c.length+1,p.2)):W (qO ms i d) Q:=by unfold qO;rw[W_bind];refine bE h λp q=>?_;obtain⟨a,b,xs,c,e,j,l,q⟩:=q;rw[e];simp only[eK,j,l,Wg,Wu];exact W_some.mpr q
theorem AH(k:List Int):cU (.tup (k.map D.int))=b4 k:=AD k
section
variable{μ:Hm}{a:Nat}{kvs:List (List Int×D)}{k:List Int}{d y:D}{ρ:aE}{Q:D×Hm->Prop}
theorem w_mDNewT:W (oO ρ μ) Q↔Q (.loc μ.length,μ++[.dT []]):=W_some
theorem AI(h:μ[a]?=b4 (.dT kvs))(b:cU y=b4 k)(c:bP kvs k=b4 d):W (aG (.loc a) y μ) Q↔Q (d,μ):=by simp only[aG,h,b,Wg,c,Wu];exact W_some
theorem FJ{b:Bool}(h:μ[a]?=b4 (.dT kvs))(c:cU y=b4 k):W (dE b y (.loc a) μ) Q↔Q (.bl (if b then !(bP kvs k).isSome else(bP kvs k).isSome),μ):=by
 have:dE b y (.loc a) μ=b4 (.bl (if b then !(bP kvs k).isSome else(bP kvs k).isSome),μ):=by simp only[dE,h,c,Wu]
 rw[this];exact W_some
theorem AJ{Q:Hm->Prop}(h:μ[a]?=b4 (.dT kvs))(b:cU y=b4 k)(c:kvs.length<VW):W (oH (.loc a) y d μ) Q↔Q (μ.set a (.dT (d8 kvs k d))):=by simp only[oH,qJ,h,b,Wg,if_pos c];exact W_some
end
theorem RO{ms:MA}{b:aE}{a:Hm}{Q:eS×Nat×Hm->Prop}(h:W (ms b a) λp=>∃i j c,p.1=[.int i,.int j,.int c]/\tU i j c=b8/\Q (yT i c (WT i j c).toNat,(WT i j c).toNat+1,p.2)):W (oK ms b a) Q:=by unfold oK;rw[W_bind];refine bE h λp q=>?_;obtain⟨i,j,c,d,e,l⟩:=q;rw[d];dsimp only;rw[if_pos e];exact W_some.mpr l
theorem RP{m c:MS}{r:MR}{sup:Str->Option Bool}{i:Nat}{e b:aE}{d a:Hm}{x:Xn}{Q:Fl×aE×Hm->Prop}(h:r e d=b4 (x,b,a))(j:sup x.1=b4 b8) :
  W (n9 m r sup i c e d) Q↔W (c (b.set i (b4 (.loc a.length))) (a++[C.exc x.1 (x.2.map (·.1)) (x.2.map (·.2))])) λq=>Q (q.1,q.2.1.set i b6,q.2.2):=by
 unfold n9;rw[h];dsimp only;rw[if_pos j];exact W_map
theorem RQ{c:Str}{ok:Str->Bool}{m:ME}{j:aE}{i:Hm}{Q:D×Hm->Prop}:W (kQ c ok m j i) Q↔W (m j i) λp=>∃a x ns ds d,p.1=.loc a/\p.2[a]?=b4 (.exc x ns ds)/\ok x=b8/\(ns.zip ds).lookup c=b4 d/\Q (d,p.2):=by
 unfold kQ;rw[W_bind];constructor
 ·rintro⟨p,h,a,b,e⟩;refine⟨p,h,?_⟩;split at b
  ·rename_i l r;split at b
   ·rename_i x ns ds u;split at b
    ·rename_i s;obtain⟨d,hd,rfl⟩:=VJ.mp b;exact⟨l,x,ns,ds,d,r,u,s,hd,e⟩
    ·cases b
   ·cases b
  ·cases b
 ·rintro⟨p,h,a,x,ns,ds,d,b,e,n,o,q⟩;refine⟨p,h,_,?_,q⟩;rw[b];dsimp only;rw[e];dsimp only;rw[if_pos n,o];rfl
theorem w_rCall{r:RF}{ms:MA}{a:aE}{b:Hm}{Q:Xn×aE×Hm->Prop}:W (mG r ms a b) Q↔W (ms a b) λp=>W (r p.1 p.2) λq=>Q (q.1,a,q.2):=by unfold mG;rw[W_bind];exact⟨λ⟨p,h,k⟩=>⟨p,h,W_map.mp k⟩,λ⟨p,h,k⟩=>⟨p,h,W_map.mpr k⟩⟩
theorem w_rRaiseI{x a:Str}{m:ME}{b:aE}{c:Hm}{Q:Xn×aE×Hm->Prop}:W (qG x a m b c) Q↔W (m b c) λp=>Q ((x,[(a,p.1)]),b,p.2):=by unfold qG;exact W_map
theorem w_rIf{t:MT}{b c:MR}{a:aE}{d:Hm}{Q:Xn×aE×Hm->Prop}:W (qE t b c a d) Q↔W (t a d) λp=>W (if p.1=b8 then b a p.2 else c a p.2) Q:=by unfold qE;exact W_bind
theorem u9{m:MS}{a i:MR}{c:aE}{b:Hm}{Q:Xn×aE×Hm->Prop}(h:W (a c b) Q):W (fE m a i c b) Q:=by obtain⟨p,d,e⟩:=h;refine⟨p,?_,e⟩;unfold fE;rw[d]
theorem RR{m:MS}{c d:MR}{b:aE}{a:Hm}{Q:Xn×aE×Hm->Prop}(h:c b a=b6)(k:W (m b a) λp=>p.1=.nx/\W (d p.2.1 p.2.2) Q):W (fE m c d b a) Q:=by obtain⟨⟨f,o,n⟩,e,i,p,j,l⟩:=k;cases i;refine⟨p,?_,l⟩;unfold fE;rw[h,e];exact j
theorem FK{o:Option (Xn×aE×Hm)}{Q:Xn×Hm->Prop}:W (Ay o) Q↔W o λp=>Q (p.1,p.2.2):=W_map
end L3
namespace Lw
open PySem L2 L3
noncomputable def ds:List (Str×Stmt):=(("is_whole",aJ 10)::("is_place",aJ 11)::("is_corner",aJ 12)::("is_edge",aJ 13)::("is_quarter",aJ 14)::("line_of",aJ 15)::("beside",aJ 16)::("sides_of",aJ 17)::("moved_by",aJ 18)::("edges_round",aJ 19)::("number_by",aJ 20)::("hand_of",aJ 21)::("mirrored",aJ 22)::("is_size",aJ 25)::("check_size",aJ 26)::("is_mark",aJ 27)::("is_within",aJ 28)::("places_within",aJ 29)::("quarters_in",aJ 30)::("edges_in",aJ 31)::("corners_in",aJ 32)::("is_inner_edge",aJ 33)::("sheet_of",aJ 34)::("marks_in",aJ 35)::("is_good",aJ 37)::("creases_at",aJ 39)::("gaps_at",aJ 40)::("barred",aJ 41)::("check_corners",aJ 42)::("tie_of",aJ 44)::("is_least",aJ 45)::("ties_of_gap",aJ 46)::("ties_at",aJ 47)::("ties",aJ 48)::("laying_by",aJ 51)::("mirror_in",aJ 52)::("led",aJ 53)::("then",aJ 54)::("_law_nth",aJ 56)::("_law_folded",aJ 57)::("_law_folds",aJ 58)::("_law_gaps",aJ 59)::("_law_star",aJ 60)::("_law_creases",aJ 61)::("_law_square",aJ 62)::("_law_sheet",aJ 63)::("_law_round_a",aJ 64)::("_law_inner",aJ 65)::("_law_barred",aJ 66)::("_law_tie",aJ 67)::("_law_ties",aJ 68)::("_law_refused",aJ 69)::("law",aJ 70)::[])
noncomputable def FL:D:=(.tup [(.tup [(.int 2),(.int 0)]),(.tup [(.int 1),(.int 1)]),(.tup [(.int 0),(.int 2)]),(.tup [(.int (-1)),(.int 1)]),(.tup [(.int (-2)),(.int 0)]),(.tup [(.int (-1)),(.int (-1))]),(.tup [(.int 0),(.int (-2))]),(.tup [(.int 1),(.int (-1))])])
noncomputable def FN:D:=(.tup [(.tup [(.int 1),(.int 1)]),(.tup [(.int (-1)),(.int 1)]),(.tup [(.int (-1)),(.int (-1))]),(.tup [(.int 1),(.int (-1))])])
noncomputable def FP:D:=(.tup [(.str "h"),(.str "v"),(.str "o")])
noncomputable def FQ:D:=(.tup [(.int 1),(.int 0),(.int 0),(.int 1),(.int 0),(.int 0)])
noncomputable def S:Sig:={fn:=(("is_whole",1)::("is_place",1)::("is_corner",1)::("is_edge",1)::("is_quarter",1)::("line_of",1)::("beside",1)::("sides_of",1)::("moved_by",2)::("edges_round",1)::("number_by",2)::("hand_of",2)::("mirrored",2)::("is_size",1)::("check_size",2)::("is_mark",1)::("is_within",3)::("places_within",2)::("quarters_in",2)::("edges_in",2)::("corners_in",2)::("is_inner_edge",3)::("sheet_of",3)::("marks_in",1)::("is_good",1)::("creases_at",2)::("gaps_at",2)::("barred",1)::("check_corners",1)::("tie_of",4)::("is_least",2)::("ties_of_gap",3)::("ties_at",2)::("ties",1)::("laying_by",3)::("mirror_in",1)::("led",2)::("then",2)::("_law_nth",2)::("_law_folded",3)::("_law_folds",3)::("_law_gaps",2)::("_law_star",2)::("_law_creases",3)::("_law_square",0)::("_law_sheet",2)::("_law_round_a",2)::("_law_inner",1)::("_law_barred",1)::("_law_tie",5)::("_law_ties",1)::("_law_refused",2)::("law",1)::[]),con:=[("EIGHT_EDGES",FL),("FOUR_EDGES",FN),("MARKS",FP),("STILL",FQ)],tab:=[],no:=["all","bool","dict","enumerate","int","isinstance","len","list","max","min","range","sorted","str","sum","tuple","zip"],dIt:=[],dEq:=[],dMe:=[],cls:=[("NoEdge","edge"),("Twice","edge"),("Barred","corner")],sup:=[("CreaseError",["CreaseError","ValueError"]),("NoSize",["NoSize","CreaseError","ValueError"]),("NoMark",["NoMark","CreaseError","ValueError"]),("NoEdge",["NoEdge","CreaseError","ValueError"]),("Twice",["Twice","CreaseError","ValueError"]),("Barred",["Barred","CreaseError","ValueError"])],rz:=["ties","check_corners"]}
@[irreducible] noncomputable def f(k:Nat)(x:Str):MF:=iC S ds k x
@[irreducible] noncomputable def g(k:Nat)(x:Str):RF:=kY S ds k x
noncomputable abbrev sup(c x:Str):Option Bool:=(S.sup.lookup x).map λa=>a.contains c
noncomputable abbrev att(a x:Str):Bool:=S.cls.lookup x==b4 a
end Lw
namespace Lw
open PySem L2 L3
noncomputable def o8:MS:=bG (fT (aS (aC (aY b7) (aC aV (aA 2) (mC (.int 2))) (mC (.int 0)))) (aS (aC (aY b7) (aC aV (aA 2) (mC (.int 4))) (aC aV (aA 3) (mC (.int 4)))))) (cM (dG fD (aA 1) (aB (aU (aB (aA 2) (aB (aA 3) aD))) aD))) bI
noncomputable def AK:MS:=aH (aL 7 (aC bC (aC aV (aC cQ (aC cQ (aC aG (aA 5) (aC aV (aC bC (aA 3) (mC (.int 1))) (aF bH (aB (aA 5) aD)))) (aC aG (aA 5) (aA 3))) (mC (.int 1))) (aF bH (aB (aA 4) aD))) (mC (.int 1)))) (cM (dG fD (aA 6) (aB (aC cB (aA 7) (aC cY (mC (.int 8)) (aF bH (aB (aA 4) aD)))) aD)))
noncomputable def FR(k:Nat):MS:=aH (cM (dG fD (aA 2) (aB (aF (f k "_law_tie") (aB (aA 4) (aB (aA 6) (aB (aC bC (aA 6) (mC (.int 1))) (aB (mC (.bl b7)) (aB (aA 3) aD)))))) aD))) (bG (aS (aC (aY b7) (aF bH (aB (aA 4) aD)) (mC (.int 4)))) (cM (dG fD (aA 2) (aB (aF (f k "_law_tie") (aB (aA 4) (aB (aC bC (aA 6) (mC (.int 2))) (aB (aC bC (aA 6) (mC (.int 3))) (aB (mC (.bl b8)) (aB (aA 3) aD)))))) aD))) bI)
noncomputable def AL(k:Nat):MS:=aH (aL 7 (aF oV (aB (aC aG (aA 5) (aC cQ (aA 6) (mC (.int 1)))) (aB (aC aG (aA 5) (aC aV (aC bC (aA 6) (mC (.int 1))) (aF bH (aB (aA 4) aD)))) aD)))) (bG (fT (aS (aC lX (aF bH (aB (aA 4) aD)) (mC (.int 2)))) (aS (aC dD (aC aG (aA 5) (aA 6)) (aA 7)))) (FR k) bI)
noncomputable def AM(k:Nat):MS:=aH (kM (aF (f k "_law_round_a") (aB (aA 1) (aB (aA 3) aD))) (iL [4,5])) (aH (bG (aS (aC (aY b7) (aF bH (aB (aA 4) aD)) (mC (.int 2)))) (cM (dG fD (aA 2) (aB (aF (f k "_law_tie") (aB (aA 4) (aB (mC (.int 0)) (aB (mC (.int 1)) (aB (mC (.bl b8)) (aB (aA 3) aD)))))) aD))) bI) (cR (fX (aB (aF bH (aB (aA 4) aD)) aD)) (cN 6) (AL k)))
noncomputable def AN(k:Nat):MS:=aH (aL 3 (aC aG (aF (f k "_law_round_a") (aB (aA 1) (aB (aA 2) aD))) (mC (.int 1)))) (bG (jB (aS (aC (aY b7) (aC aV (aF bH (aB (aA 3) aD)) (mC (.int 2))) (mC (.int 1)))) (aS (aC (aY b8) (aF j5 (aB (eU (jF 2) (oF (aB (aA 3) aD)) dU (aC cB (aA 5) (aC cQ (mC (.int 1)) (aC cB (mC (.int 2)) (aC aV (aA 4) (mC (.int 2))))))) aD)) (mC (.int 0))))) (aO (aA 2)) bI)
noncomputable def FT(k:Nat):MS:=aH (aL 2 (aF (f k "_law_barred") (aB (aA 1) aD))) (aH (bG (aS (aC (fZ b8) (aA 2) (mC .non))) (aO (aF (f k "_law_refused") (aB (aA 1) (aB (aA 2) aD)))) bI) (aH (aL 3 (aF (f k "ties") (aB (aA 1) aD))) (aH (aL 4 (aF (f k "_law_ties") (aB (aA 1) aD))) (aH (bG (jB (gM (d9 (aF fN (aB (aA 3) (aB (mC (.ty "list")) aD))))) (aS (aC (aY b8) (aA 3) (aA 4)))) (aO (mC (.bl b7))) bI) (aH (cR (cC (aA 3)) (cN 5) (bG (jB (gM (d9 (aF fN (aB (aA 5) (aB (mC (.ty "tuple")) aD))))) (gM (d9 (aF fN (aB (aC aG (aA 5) (mC (.int 2))) (aB (mC (.ty "bool")) aD)))))) (aO (mC (.bl b7))) bI)) (aH (cM (dG fD (aA 3) (aB (mC (.int 1)) aD))) (aO (aC (aY b7) (aF (f k "ties") (aB (aA 1) aD)) (aA 4)))))))))
noncomputable def AO(k:Nat):MS:=aH (bG (aS (aC (aY b7) (aF (f k "hand_of") (aB (aF (f k "led") (aB (aA 5) (aB (aA 4) aD))) (aB (aA 1) aD))) (aA 2))) (aL 5 (aF (f k "then") (aB (aA 5) (aB (aF (f k "mirror_in") (aB (aA 1) aD)) aD)))) bI) (mK (aA 3) (aA 4) (aA 5))
noncomputable def AQ(k:Nat):MS:=aH (aL 7 (aF (f k "_law_nth") (aB (aA 0) (aB (aC bC (aC bC (aA 1) (mC (.int 1))) (aA 6)) aD)))) (aH (aL 8 (aC aG (aA 5) (aC aV (aC cY (aA 7) (mC (.int 2))) (aF bH (aB (aA 5) aD))))) (aH (aL 8 (aF (f k "led") (aB (aC aG (aA 3) (aC aG (aF (f k "sides_of") (aB (aA 8) aD)) (mC (.int 0)))) (aB (aA 8) aD)))) (aL 3 (aF (f k "_law_folded") (aB (aA 3) (aB (aA 8) (aB (aC cQ (mC (.int 1)) (aC cB (mC (.int 2)) (aC aV (aA 7) (mC (.int 2))))) aD)))))))
noncomputable def AR:MS:=cM (dG jI (aA 5) (aB (cA (aB (aC aG (aA 4) (aC bC (aA 2) (aA 6))) (aB (aC aG (aA 4) (aC bC (aA 3) (aA 6))) aD))) aD))
noncomputable def FU:MT:=fT (aS (fY dD dD (mC (.int 0)) (aA 10) (aC cB (mC (.int 4)) (aC aG (aA 0) (mC (.int 0)))))) (aS (fY dD dD (mC (.int 0)) (aA 11) (aC cB (mC (.int 4)) (aC aG (aA 0) (mC (.int 1))))))
noncomputable def FV:MS:=aH (cM (dG fD (aA 5) (aB (aU (aB (aC bC (aA 10) (aA 8)) (aB (aC bC (aA 11) (aA 9)) aD))) aD))) (aH (aL 10 (aC bC (aA 10) (aC cB (mC (.int 2)) (aA 8)))) (aL 11 (aC bC (aA 11) (aC cB (mC (.int 2)) (aA 9)))))
noncomputable def vB:MS:=aH (kM (aC aG (aA 2) (aC aV (aA 6) (mC (.int 8)))) (iL [8,9])) (aH (kM (aA 4) (iL [10,11])) (aH (nY oY FU FV) (aL 6 (aC bC (aA 6) (aA 7)))))
noncomputable def FW:MS:=bG (aS (aC (dE b8) (aA 6) (aA 4))) (cM (dG fD (aA 4) (aB (aA 6) aD))) bI
noncomputable def FX(k:Nat):MS:=cR (cC (aF (f k "_law_star") (aB (aA 2) (aB (aF (f k "_law_nth") (aB (aA 0) (aB (aC bC (aC bC (aA 1) (mC (.int 1))) (aA 5)) aD))) aD)))) (cN 6) FW
noncomputable def AS(k:Nat):MS:=aH (aL 5 (aC aG (aA 4) (mC (.int 0)))) (aH (bG (gM (d9 (aF (f k "is_inner_edge") (aB (aA 0) (aB (aA 1) (aB (aA 5) aD)))))) bZ bI) (aH (bG (gM (d9 (aF (f k "is_mark") (aB (aC aG (aA 4) (mC (.int 1))) aD)))) bZ bI) (aH (bG (aS (aC (dE b7) (aA 5) (aA 3))) bZ bI) (mK (aA 3) (aA 5) (aC aG (aA 4) (mC (.int 1)))))))
noncomputable def FY:MS:=aH (aL 9 (aC aV (aC cY (aA 7) (mC (.int 16))) (aC aG (cA (aB (mC (.int 3)) (aB (mC (.int 4)) (aB (mC (.int 8)) aD)))) (aC aV (aA 7) (mC (.int 3)))))) (aH (cM (dG fD (aA 8) (aB (aU (aB (aA 6) (aB (aC aG (cA (aB (mC (.str "o")) (aB (mC (.str "o")) (aB (mC (.str "h")) (aB (mC (.str "v")) (aB (mC (.str "o")) (aB (mC (.str "o")) (aB (mC (.str "o")) (aB (mC (.str "o")) aD))))))))) (aA 9)) aD))) aD))) (aL 7 (aC aV (aC bC (aC cB (aA 7) (mC (.int 48271))) (mC (.int 11))) (mC (.int 1000003)))))
noncomputable def FZ(k:Nat):MS:=aH (aL 7 (aC aV (aF (f k "_law_nth") (aB (aA 0) (aB (aC bC (aA 1) (mC (.int 6))) aD))) (mC (.int 1000003)))) (aH (aL 8 (cA aD)) (aH (cR (cC (aA 4)) (cN 6) FY) (aO (aF (f k "sheet_of") (aB (aC aG (aA 3) (mC (.int 0))) (aB (aC aG (aA 3) (mC (.int 1))) (aB (aA 8) aD)))))))
noncomputable def F0:MS:=bG (aS (aC (dE b7) (aA 6) (aA 4))) (cM (dG oU (aA 4) (aB (aA 6) aD))) (cM (dG fD (aA 4) (aB (aA 6) aD)))
noncomputable def AU(k:Nat):MS:=aH (aL 5 (aF (f k "edges_in") (aB (aC aG (aA 3) (mC (.int 0))) (aB (aC aG (aA 3) (mC (.int 1))) aD)))) (aH (bG (aS (aC (aY b7) (aC aV (aC cY (aA 2) (mC (.int 324))) (mC (.int 4))) (mC (.int 1)))) (aH (aL 6 (aC aG (aA 5) (aC aV (aC cY (aA 2) (mC (.int 1296))) (aF bH (aB (aA 5) aD))))) F0) bI) (FZ k))
theorem F1(k:Nat)(d0:D)(a:Hm):f (k+1) "is_whole" [d0] a=fin ((aO (dS (aF fN (aB (aA 0) (aB (mC (.ty "int")) aD))) (nE (aF fN (aB (aA 0) (aB (mC (.ty "bool")) aD)))))) [b4 d0] a):=by kernel_rfl
theorem RS(k:Nat)(d0:D)(a:Hm):f (k+1) "is_place" [d0] a=fin ((aO (dS (aF fN (aB (aA 0) (aB (mC (.ty "tuple")) aD))) (dS (aC (aY b7) (aF bH (aB (aA 0) aD)) (mC (.int 2))) (dS (aF (f k "is_whole") (aB (aC aG (aA 0) (mC (.int 0))) aD)) (aF (f k "is_whole") (aB (aC aG (aA 0) (mC (.int 1))) aD)))))) [b4 d0] a):=by kernel_rfl
theorem RT(k:Nat)(d0:D)(a:Hm):f (k+1) "is_corner" [d0] a=fin ((aO (dS (aC (aY b7) (aC aV (aC aG (aA 0) (mC (.int 0))) (mC (.int 2))) (mC (.int 0))) (aC (aY b7) (aC aV (aC aG (aA 0) (mC (.int 0))) (mC (.int 4))) (aC aV (aC aG (aA 0) (mC (.int 1))) (mC (.int 4)))))) [b4 d0] a):=by kernel_rfl
theorem RU(k:Nat)(d0:D)(a:Hm):f (k+1) "is_edge" [d0] a=fin ((aH (bG (aS (aC (aY b7) (aC aV (aC aG (aA 0) (mC (.int 0))) (mC (.int 2))) (mC (.int 1)))) (aO (aC (aY b7) (aC aV (aC aG (aA 0) (mC (.int 1))) (mC (.int 2))) (mC (.int 1)))) bI) (aO (dS (aC (aY b7) (aC aV (aC aG (aA 0) (mC (.int 1))) (mC (.int 2))) (mC (.int 0))) (aC (aY b8) (aC aV (aC aG (aA 0) (mC (.int 0))) (mC (.int 4))) (aC aV (aC aG (aA 0) (mC (.int 1))) (mC (.int 4))))))) [b4 d0] a):=by kernel_rfl
theorem RV(k:Nat)(d0:D)(a:Hm):f (k+1) "is_quarter" [d0] a=fin ((aH (bG (aS (aC (aY b7) (aC aV (aC aG (aA 0) (mC (.int 0))) (mC (.int 2))) (mC (.int 1)))) (aO (aC (aY b7) (aC aV (aC aG (aA 0) (mC (.int 1))) (mC (.int 4))) (mC (.int 2)))) bI) (aO (dS (aC (aY b7) (aC aV (aC aG (aA 0) (mC (.int 0))) (mC (.int 4))) (mC (.int 2))) (aC (aY b7) (aC aV (aC aG (aA 0) (mC (.int 1))) (mC (.int 2))) (mC (.int 1)))))) [b4 d0] a):=by kernel_rfl
theorem RW(k:Nat)(d0:D)(a:Hm):f (k+1) "line_of" [d0] a=fin ((aH (bG (aS (aC (aY b7) (aC aV (aC aG (aA 0) (mC (.int 0))) (mC (.int 2))) (mC (.int 1)))) (aO (jC (aS (aC (aY b7) (aC aV (aC aG (aA 0) (mC (.int 0))) (mC (.int 4))) (aC aV (aC aG (aA 0) (mC (.int 1))) (mC (.int 4))))) (mC (.str "falling")) (mC (.str "rising")))) bI) (aO (jC (aS (aC (aY b7) (aC aV (aC aG (aA 0) (mC (.int 1))) (mC (.int 4))) (mC (.int 0)))) (mC (.str "level")) (mC (.str "upright"))))) [b4 d0] a):=by kernel_rfl
theorem RX(k:Nat)(d0:D)(a:Hm):f (k+1) "beside" [d0] a=fin ((aH (aL 1 (aC aG (aA 0) (mC (.int 0)))) (aH (aL 2 (aC aG (aA 0) (mC (.int 1)))) (aO (cA (aB (aU (aB (aC cQ (aA 1) (mC (.int 1))) (aB (aA 2) aD))) (aB (aU (aB (aA 1) (aB (aC cQ (aA 2) (mC (.int 1))) aD))) (aB (aU (aB (aA 1) (aB (aC bC (aA 2) (mC (.int 1))) aD))) (aB (aU (aB (aC bC (aA 1) (mC (.int 1))) (aB (aA 2) aD))) aD)))))))) [b4 d0,b6,b6] a):=by kernel_rfl
theorem RY(k:Nat)(d0:D)(a:Hm):f (k+1) "sides_of" [d0] a=fin ((aO (eJ (cC (aF (f k "beside") (aB (aA 0) aD))) (d9 (aF (f k "is_quarter") (aB (aA 1) aD))) (aA 1))) [b4 d0] a):=by kernel_rfl
theorem RZ(k:Nat)(d0 d1:D)(a:Hm):f (k+1) "moved_by" [d0,d1] a=fin ((aO (eJ (cC (aA 1)) dU (aU (aB (aC bC (aC aG (aA 0) (mC (.int 0))) (aC aG (aA 2) (mC (.int 0)))) (aB (aC bC (aC aG (aA 0) (mC (.int 1))) (aC aG (aA 2) (mC (.int 1)))) aD))))) [b4 d0,b4 d1] a):=by kernel_rfl
theorem R0(k:Nat)(d0:D)(a:Hm):f (k+1) "edges_round" [d0] a=fin ((aO (aF (f k "moved_by") (aB (aA 0) (aB (jC (aS (aC (aY b7) (aC aV (aC aG (aA 0) (mC (.int 0))) (mC (.int 4))) (mC (.int 0)))) (mC FL) (mC FN)) aD)))) [b4 d0] a):=by kernel_rfl
theorem R6(k:Nat)(d0 d1:D)(a:Hm):f (k+1) "number_by" [d0,d1] a=fin ((aH (bG (aS (aC (aY b7) (aA 0) (mC (.str "level")))) (aO (aC aG (aA 1) (mC (.int 1)))) bI) (aH (bG (aS (aC (aY b7) (aA 0) (mC (.str "upright")))) (aO (aC aG (aA 1) (mC (.int 0)))) bI) (aH (bG (aS (aC (aY b7) (aA 0) (mC (.str "falling")))) (aO (aC cQ (aC aG (aA 1) (mC (.int 0))) (aC aG (aA 1) (mC (.int 1))))) bI) (aO (aC bC (aC aG (aA 1) (mC (.int 0))) (aC aG (aA 1) (mC (.int 1)))))))) [b4 d0,b4 d1] a):=by kernel_rfl
theorem R8(k:Nat)(d0 d1:D)(a:Hm):f (k+1) "hand_of" [d0,d1] a=fin ((aH (aL 2 (aF (f k "line_of") (aB (aA 1) aD))) (aH (aL 3 (aC cQ (aF (f k "number_by") (aB (aA 2) (aB (aA 0) aD))) (aF (f k "number_by") (aB (aA 2) (aB (aA 1) aD))))) (aH (bG (aS (aC lX (aA 3) (mC (.int 0)))) (aO (mC (.int 1))) bI) (aO (jC (aS (aC dD (aA 3) (mC (.int 0)))) (eQ (mC (.int 1))) (mC (.int 0))))))) [b4 d0,b4 d1,b6,b6] a):=by kernel_rfl
theorem Sa(k:Nat)(d0 d1:D)(a:Hm):f (k+1) "mirrored" [d0,d1] a=fin ((aH (aL 2 (aC aG (aA 0) (mC (.int 0)))) (aH (aL 3 (aC aG (aA 0) (mC (.int 1)))) (aH (aL 4 (aF (f k "line_of") (aB (aA 1) aD))) (aH (aL 5 (aF (f k "number_by") (aB (aA 4) (aB (aA 1) aD)))) (aH (bG (aS (aC (aY b7) (aA 4) (mC (.str "level")))) (aO (aU (aB (aA 2) (aB (aC cQ (aC cB (mC (.int 2)) (aA 5)) (aA 3)) aD)))) bI) (aH (bG (aS (aC (aY b7) (aA 4) (mC (.str "upright")))) (aO (aU (aB (aC cQ (aC cB (mC (.int 2)) (aA 5)) (aA 2)) (aB (aA 3) aD)))) bI) (aH (bG (aS (aC (aY b7) (aA 4) (mC (.str "falling")))) (aO (aU (aB (aC bC (aA 3) (aA 5)) (aB (aC cQ (aA 2) (aA 5)) aD)))) bI) (aO (aU (aB (aC cQ (aA 5) (aA 3)) (aB (aC cQ (aA 5) (aA 2)) aD))))))))))) [b4 d0,b4 d1,b6,b6,b6,b6] a):=by kernel_rfl
theorem Sb(k:Nat)(d0:D)(a:Hm):f (k+1) "is_size" [d0] a=fin ((aO (dS (aF (f k "is_whole") (aB (aA 0) aD)) (fY nH nH (mC (.int 1)) (aA 0) (mC (.int 6))))) [b4 d0] a):=by kernel_rfl
theorem Se(k:Nat)(d0 d1:D)(a:Hm):f (k+1) "check_size" [d0,d1] a=fin ((bG (gM (fT (d9 (aF (f k "is_size") (aB (aA 0) aD))) (d9 (aF (f k "is_size") (aB (aA 1) aD))))) bZ bI) [b4 d0,b4 d1] a):=by kernel_rfl
theorem AV(k:Nat)(d0:D)(a:Hm):f (k+1) "is_mark" [d0] a=fin ((aO (dS (aF fN (aB (aA 0) (aB (mC (.ty "str")) aD))) (aC (dE b7) (aA 0) (mC FP)))) [b4 d0] a):=by kernel_rfl
theorem Sf(k:Nat)(d0 d1 d2:D)(a:Hm):f (k+1) "is_within" [d0,d1,d2] a=fin ((aO (dS (fY dD dD (mC (.int 0)) (aC aG (aA 2) (mC (.int 0))) (aC cB (mC (.int 4)) (aA 0))) (fY dD dD (mC (.int 0)) (aC aG (aA 2) (mC (.int 1))) (aC cB (mC (.int 4)) (aA 1))))) [b4 d0,b4 d1,b4 d2] a):=by kernel_rfl
theorem Sg(k:Nat)(d0 d1:D)(a:Hm):f (k+1) "places_within" [d0,d1] a=fin ((aH (aL 2 (cA aD)) (aH (cR (kP (aB (mC (.int 1)) (aB (aC cB (mC (.int 4)) (aA 0)) aD))) (cN 3) (cM (dG jI (aA 2) (aB (eJ (kP (aB (mC (.int 1)) (aB (aC cB (mC (.int 4)) (aA 1)) aD))) dU (aU (aB (aA 3) (aB (aA 4) aD)))) aD)))) (aO (aA 2)))) [b4 d0,b4 d1,b6,b6] a):=by kernel_rfl
theorem Sh(k:Nat)(d0 d1:D)(a:Hm):f (k+1) "quarters_in" [d0,d1] a=fin ((aO (eJ (cC (aF (f k "places_within") (aB (aA 0) (aB (aA 1) aD)))) (d9 (aF (f k "is_quarter") (aB (aA 2) aD))) (aA 2))) [b4 d0,b4 d1] a):=by kernel_rfl
theorem Si(k:Nat)(d0 d1:D)(a:Hm):f (k+1) "edges_in" [d0,d1] a=fin ((aO (eJ (cC (aF (f k "places_within") (aB (aA 0) (aB (aA 1) aD)))) (d9 (aF (f k "is_edge") (aB (aA 2) aD))) (aA 2))) [b4 d0,b4 d1] a):=by kernel_rfl
theorem Sj(k:Nat)(d0 d1:D)(a:Hm):f (k+1) "corners_in" [d0,d1] a=fin ((aO (eJ (cC (aF (f k "places_within") (aB (aA 0) (aB (aA 1) aD)))) (d9 (aF (f k "is_corner") (aB (aA 2) aD))) (aA 2))) [b4 d0,b4 d1] a):=by kernel_rfl
theorem Sk(k:Nat)(d0 d1 d2:D)(a:Hm):f (k+1) "is_inner_edge" [d0,d1,d2] a=fin ((aO (dS (aF (f k "is_place") (aB (aA 2) aD)) (dS (aF (f k "is_within") (aB (aA 0) (aB (aA 1) (aB (aA 2) aD)))) (aF (f k "is_edge") (aB (aA 2) aD))))) [b4 d0,b4 d1,b4 d2] a):=by kernel_rfl
theorem Sm(k:Nat)(d0 d1 d2:D)(a:Hm):f (k+1) "sheet_of" [d0,d1,d2] a=fin ((aH (cM (aF (f k "check_size") (aB (aA 0) (aB (aA 1) aD)))) (aH (aL 3 oO) (aH (cR (cC (aA 2)) (cN 4) (AS k)) (aO (aU (aB (aA 0) (aB (aA 1) (aB (uD (aA 3)) aD)))))))) [b4 d0,b4 d1,b4 d2,b6,b6,b6] a):=by kernel_rfl
theorem Sn(k:Nat)(d0:D)(a:Hm):f (k+1) "marks_in" [d0] a=fin ((aO (aF mO (aB (aC aG (aA 0) (mC (.int 2))) aD))) [b4 d0] a):=by kernel_rfl
theorem So(k:Nat)(d0:D)(a:Hm):f (k+1) "is_good" [d0] a=fin ((aH (bG (jB (aS (aC lX (aF bH (aB (aA 0) aD)) (mC (.int 8)))) (aS (aC (aY b7) (aC aV (aF bH (aB (aA 0) aD)) (mC (.int 2))) (mC (.int 1))))) (aO (mC (.bl b7))) bI) (aH (bG (gM (d9 (aF tD (aB (eJ (cC (aA 0)) dU (dS (aF (f k "is_whole") (aB (aA 1) aD)) (aC pY (aA 1) (mC (.int 1))))) aD)))) (aO (mC (.bl b7))) bI) (aO (aC (aY b7) (aF j5 (aB (oE (aA 0) jV jV (jE (mC (.int 2)))) aD)) (aF j5 (aB (oE (aA 0) (jE (mC (.int 1))) jV (jE (mC (.int 2)))) aD)))))) [b4 d0] a):=by kernel_rfl
theorem Sq(k:Nat)(d0 d1:D)(a:Hm):f (k+1) "creases_at" [d0,d1] a=fin ((aH (aL 2 (aF (f k "marks_in") (aB (aA 0) aD))) (aO (eJ (cC (aF (f k "edges_round") (aB (aA 1) aD))) (aS (aC (dE b7) (aA 3) (aA 2))) (aA 3)))) [b4 d0,b4 d1,b6] a):=by kernel_rfl
theorem Ss(k:Nat)(d0 d1:D)(a:Hm):f (k+1) "gaps_at" [d0,d1] a=fin ((aH (aL 2 (aF (f k "edges_round") (aB (aA 1) aD))) (aH (aL 3 (aF (f k "creases_at") (aB (aA 0) (aB (aA 1) aD)))) (aH (aL 4 (eJ (cC (aA 3)) dU (dG oJ (aA 2) (aB (aA 7) aD)))) (aH (aL 5 (aC bC (lU (aA 4) (jE (mC (.int 1))) jV) (eJ (cC (lU (aA 4) jV (jE (mC (.int 1))))) dU (aC bC (aA 7) (aF bH (aB (aA 2) aD)))))) (aH (aL 6 (aC cY (mC (.int 8)) (aF bH (aB (aA 2) aD)))) (aO (eU (jF 2) (qO (aB (aA 4) (aB (aA 5) aD))) dU (aC cB (aC cQ (aA 8) (aA 7)) (aA 6))))))))) [b4 d0,b4 d1,b6,b6,b6,b6,b6] a):=by kernel_rfl
theorem Su(k:Nat)(d0:D)(a:Hm):f (k+1) "barred" [d0] a=fin ((aH (cR (cC (aF (f k "corners_in") (aB (aC aG (aA 0) (mC (.int 0))) (aB (aC aG (aA 0) (mC (.int 1))) aD)))) (cN 1) (bG (gM (d9 (aF (f k "is_good") (aB (aF (f k "gaps_at") (aB (aA 0) (aB (aA 1) aD))) aD)))) (aO (aA 1)) bI)) (aO (mC .non))) [b4 d0,b6] a):=by kernel_rfl
theorem Sv(k:Nat)(d0:D)(a:Hm):f (k+1) "check_corners" [d0] a=fin ((aH (aL 1 (aF (f k "barred") (aB (aA 0) aD))) (bG (aS (aC (fZ b8) (aA 1) (mC .non))) bZ bI)) [b4 d0,b6] a):=by kernel_rfl
theorem Sw(k:Nat)(d0:D)(a:Hm):g (k+3) "check_corners" [d0] a=Ay ((fE (aL 1 (aF (f (k+2) "barred") (aB (aA 0) aD))) cH (fE (bG (aS (aC (fZ b8) (aA 1) (mC .non))) bZ bI) (qE (aS (aC (fZ b8) (aA 1) (mC .non))) (fE bZ (qG "Barred" "corner" (aA 1)) cH) cH) cH)) [b4 d0,b6] a):=by kernel_rfl
theorem Sx(k:Nat)(d0 d1 d2 d3:D)(a:Hm):f (k+1) "tie_of" [d0,d1,d2,d3] a=fin ((aO (aU (aB (aF oV (aB (aA 0) (aB (aA 1) aD))) (aB (aF uF (aB (aA 0) (aB (aA 1) aD))) (aB (aA 2) (aB (aA 3) aD)))))) [b4 d0,b4 d1,b4 d2,b4 d3] a):=by kernel_rfl
theorem Sy(k:Nat)(d0 d1:D)(a:Hm):f (k+1) "is_least" [d0,d1] a=fin ((aO (dS (aC dD (aC aG (aA 0) (aA 1)) (aC aG (aA 0) (aC cQ (aA 1) (mC (.int 1))))) (aC dD (aC aG (aA 0) (aA 1)) (aC aG (aA 0) (aC aV (aC bC (aA 1) (mC (.int 1))) (aF bH (aB (aA 0) aD))))))) [b4 d0,b4 d1] a):=by kernel_rfl
theorem Sz(k:Nat)(d0 d1 d2:D)(a:Hm):f (k+1) "ties_of_gap" [d0,d1,d2] a=fin ((aH (aL 3 (aF bH (aB (aA 0) aD))) (aH (aL 4 (cA (aB (aF (f k "tie_of") (aB (aC aG (aA 0) (aA 1)) (aB (aC aG (aA 0) (aC aV (aC bC (aA 1) (mC (.int 1))) (aA 3))) (aB (mC (.bl b7)) (aB (aA 2) aD))))) aD))) (aH (bG (aS (aC (aY b7) (aA 3) (mC (.int 4)))) (cM (dG fD (aA 4) (aB (aF (f k "tie_of") (aB (aC aG (aA 0) (aC aV (aC bC (aA 1) (mC (.int 2))) (mC (.int 4)))) (aB (aC aG (aA 0) (aC aV (aC bC (aA 1) (mC (.int 3))) (mC (.int 4)))) (aB (mC (.bl b8)) (aB (aA 2) aD))))) aD))) bI) (aO (aA 4))))) [b4 d0,b4 d1,b4 d2,b6,b6] a):=by kernel_rfl
theorem SA(k:Nat)(d0 d1:D)(a:Hm):f (k+1) "ties_at" [d0,d1] a=fin ((aH (aL 2 (aF (f k "creases_at") (aB (aA 0) (aB (aA 1) aD)))) (aH (aL 3 (aF (f k "gaps_at") (aB (aA 0) (aB (aA 1) aD)))) (aH (bG (aS (aC (aY b7) (aF bH (aB (aA 2) aD)) (mC (.int 2)))) (aO (cA (aB (aF (f k "tie_of") (aB (aC aG (aA 2) (mC (.int 0))) (aB (aC aG (aA 2) (mC (.int 1))) (aB (mC (.bl b8)) (aB (aA 1) aD))))) aD))) bI) (aH (aL 4 (cA aD)) (aH (cR (fX (aB (aF bH (aB (aA 2) aD)) aD)) (cN 5) (bG (d9 (aF (f k "is_least") (aB (aA 3) (aB (aA 5) aD)))) (cM (dG jI (aA 4) (aB (aF (f k "ties_of_gap") (aB (aA 2) (aB (aA 5) (aB (aA 1) aD)))) aD))) bI)) (aO (aA 4))))))) [b4 d0,b4 d1,b6,b6,b6,b6] a):=by kernel_rfl
theorem SD(k:Nat)(d0:D)(a:Hm):f (k+1) "ties" [d0] a=fin ((aH (cM (aF (f k "check_corners") (aB (aA 0) aD))) (aH (aL 1 (cA aD)) (aH (cR (cC (aF (f k "corners_in") (aB (aC aG (aA 0) (mC (.int 0))) (aB (aC aG (aA 0) (mC (.int 1))) aD)))) (cN 2) (cM (dG jI (aA 1) (aB (aF (f k "ties_at") (aB (aA 0) (aB (aA 2) aD))) aD)))) (aO (aF kT (aB (aA 1) aD)))))) [b4 d0,b6,b6] a):=by kernel_rfl
theorem SE(k:Nat)(d0:D)(a:Hm):g (k+3) "ties" [d0] a=Ay ((fE (cM (aF (f (k+2) "check_corners") (aB (aA 0) aD))) (mG (g (k+2) "check_corners") (aB (aA 0) aD)) (fE (aL 1 (cA aD)) cH (fE (cR (cC (aF (f (k+2) "corners_in") (aB (aC aG (aA 0) (mC (.int 0))) (aB (aC aG (aA 0) (mC (.int 1))) aD)))) (cN 2) (cM (dG jI (aA 1) (aB (aF (f (k+2) "ties_at") (aB (aA 0) (aB (aA 2) aD))) aD)))) cH (fE (aO (aF kT (aB (aA 1) aD))) cH cH)))) [b4 d0,b6,b6] a):=by kernel_rfl
theorem SG(k:Nat)(d0 d1 d2:D)(a:Hm):f (k+1) "laying_by" [d0,d1,d2] a=fin ((aO (aU (aB (aC cQ (aC aG (aA 1) (mC (.int 0))) (aC aG (aA 0) (mC (.int 0)))) (aB (aC cQ (aC aG (aA 2) (mC (.int 0))) (aC aG (aA 0) (mC (.int 0)))) (aB (aC cQ (aC aG (aA 1) (mC (.int 1))) (aC aG (aA 0) (mC (.int 1)))) (aB (aC cQ (aC aG (aA 2) (mC (.int 1))) (aC aG (aA 0) (mC (.int 1)))) (aB (aC aG (aA 0) (mC (.int 0))) (aB (aC aG (aA 0) (mC (.int 1))) aD)))))))) [b4 d0,b4 d1,b4 d2] a):=by kernel_rfl
theorem SJ(k:Nat)(d0:D)(a:Hm):f (k+1) "mirror_in" [d0] a=fin ((aO (aF (f k "laying_by") (aB (aF (f k "mirrored") (aB (aU (aB (mC (.int 0)) (aB (mC (.int 0)) aD))) (aB (aA 0) aD))) (aB (aF (f k "mirrored") (aB (aU (aB (mC (.int 1)) (aB (mC (.int 0)) aD))) (aB (aA 0) aD))) (aB (aF (f k "mirrored") (aB (aU (aB (mC (.int 0)) (aB (mC (.int 1)) aD))) (aB (aA 0) aD))) aD))))) [b4 d0] a):=by kernel_rfl
theorem SK(k:Nat)(d0 d1:D)(a:Hm):f (k+1) "led" [d0,d1] a=fin ((aH (aL 2 (aC aG (aA 1) (mC (.int 0)))) (aH (aL 3 (aC aG (aA 1) (mC (.int 1)))) (aO (aU (aB (aC bC (aC bC (aC cB (aC aG (aA 0) (mC (.int 0))) (aA 2)) (aC cB (aC aG (aA 0) (mC (.int 1))) (aA 3))) (aC aG (aA 0) (mC (.int 4)))) (aB (aC bC (aC bC (aC cB (aC aG (aA 0) (mC (.int 2))) (aA 2)) (aC cB (aC aG (aA 0) (mC (.int 3))) (aA 3))) (aC aG (aA 0) (mC (.int 5)))) aD)))))) [b4 d0,b4 d1,b6,b6] a):=by kernel_rfl
theorem SM(k:Nat)(d0 d1:D)(a:Hm):f (k+1) "then" [d0,d1] a=fin ((aO (aF (f k "laying_by") (aB (aF (f k "led") (aB (aA 1) (aB (aF (f k "led") (aB (aA 0) (aB (aU (aB (mC (.int 0)) (aB (mC (.int 0)) aD))) aD))) aD))) (aB (aF (f k "led") (aB (aA 1) (aB (aF (f k "led") (aB (aA 0) (aB (aU (aB (mC (.int 1)) (aB (mC (.int 0)) aD))) aD))) aD))) (aB (aF (f k "led") (aB (aA 1) (aB (aF (f k "led") (aB (aA 0) (aB (aU (aB (mC (.int 0)) (aB (mC (.int 1)) aD))) aD))) aD))) aD))))) [b4 d0,b4 d1] a):=by kernel_rfl
theorem SN(k:Nat)(d0 d1:D)(a:Hm):f (k+1) "_law_nth" [d0,d1] a=fin ((aO (jC (aS (aC dD (aA 1) (aF bH (aB (aA 0) aD)))) (aC aG (aA 0) (aA 1)) (mC (.int 0)))) [b4 d0,b4 d1] a):=by kernel_rfl
theorem SO(k:Nat)(d0 d1 d2:D)(a:Hm):f (k+1) "_law_folded" [d0,d1,d2] a=fin ((aH (aL 3 oO) (aH (cR (qT (aA 0)) (iL [4,5]) (AO k)) (aO (aA 3)))) [b4 d0,b4 d1,b4 d2,b6,b6,b6] a):=by kernel_rfl
theorem SQ(k:Nat)(d0 d1 d2:D)(a:Hm):f (k+1) "_law_folds" [d0,d1,d2] a=fin ((aH (aL 3 oO) (aH (cR (cC (aF (f k "quarters_in") (aB (aC aG (aA 2) (mC (.int 0))) (aB (aC aG (aA 2) (mC (.int 1))) aD)))) (cN 4) (mK (aA 3) (aA 4) (mC FQ))) (aH (aL 5 (aF (f k "edges_in") (aB (aC aG (aA 2) (mC (.int 0))) (aB (aC aG (aA 2) (mC (.int 1))) aD)))) (aH (cR (fX (aB (aC aV (aC cY (aF (f k "_law_nth") (aB (aA 0) (aB (aA 1) aD))) (mC (.int 54))) (mC (.int 6))) aD)) (cN 6) (AQ k)) (aO (eJ (cC (aA 5)) (aS (aC (aY b8) (aC aG (aA 3) (aC aG (aF (f k "sides_of") (aB (aA 9) aD)) (mC (.int 0)))) (aC aG (aA 3) (aC aG (aF (f k "sides_of") (aB (aA 9) aD)) (mC (.int 1)))))) (aA 9))))))) [b4 d0,b4 d1,b4 d2,b6,b6,b6,b6,b6,b6] a):=by kernel_rfl
theorem SR(k:Nat)(d0 d1:D)(a:Hm):f (k+1) "_law_gaps" [d0,d1] a=fin ((aH (bG (aS (aC (aY b7) (aC aV (aC aG (aA 1) (mC (.int 0))) (mC (.int 4))) (mC (.int 2)))) (aO (aC aG (cA (aB (cA (aB (mC (.int 2)) (aB (mC (.int 2)) (aB (mC (.int 2)) (aB (mC (.int 2)) aD))))) (aB (cA (aB (mC (.int 4)) (aB (mC (.int 4)) aD))) aD))) (aC aV (aA 0) (mC (.int 2))))) bI) (aH (aL 2 (aC aV (aC cY (aA 0) (mC (.int 6))) (mC (.int 3)))) (aH (aL 3 (aC aV (aC cY (aA 0) (mC (.int 18))) (mC (.int 3)))) (aH (bG (aS (aC (aY b7) (aC aV (aA 0) (mC (.int 6))) (mC (.int 0)))) (aO (cA (aB (mC (.int 4)) (aB (mC (.int 4)) aD)))) bI) (aH (bG (aS (aC (aY b7) (aC aV (aA 0) (mC (.int 6))) (mC (.int 1)))) (aH (aL 4 (cA (aB (mC (.int 2)) (aB (mC (.int 1)) (aB (mC (.int 1)) (aB (mC (.int 2)) (aB (mC (.int 1)) aD))))))) (aH (aL 5 (cA aD)) (aH (cR (fX (aB (mC (.int 3)) aD)) (cN 6) AR) (aO (aA 5))))) bI) (aO (cA (aB (aC bC (aA 2) (mC (.int 1))) (aB (aC bC (aA 3) (mC (.int 1))) (aB (aC cQ (mC (.int 3)) (aA 2)) (aB (aC cQ (mC (.int 3)) (aA 3)) aD))))))))))) [b4 d0,b4 d1,b6,b6,b6,b6,b6] a):=by kernel_rfl
theorem SS(k:Nat)(d0 d1:D)(a:Hm):f (k+1) "_law_star" [d0,d1] a=fin ((aH (aL 2 (cA (aB (aU (aB (mC (.int 2)) (aB (mC (.int 0)) aD))) (aB (aU (aB (mC (.int 1)) (aB (mC (.int 1)) aD))) (aB (aU (aB (mC (.int 0)) (aB (mC (.int 2)) aD))) (aB (aU (aB (eQ (mC (.int 1))) (aB (mC (.int 1)) aD))) (aB (aU (aB (eQ (mC (.int 2))) (aB (mC (.int 0)) aD))) (aB (aU (aB (eQ (mC (.int 1))) (aB (eQ (mC (.int 1))) aD))) (aB (aU (aB (mC (.int 0)) (aB (eQ (mC (.int 2))) aD))) (aB (aU (aB (mC (.int 1)) (aB (eQ (mC (.int 1))) aD))) aD)))))))))) (aH (aL 3 (aF (f k "corners_in") (aB (aC aG (aA 0) (mC (.int 0))) (aB (aC aG (aA 0) (mC (.int 1))) aD)))) (aH (aL 4 (aC aG (aA 3) (aC aV (aA 1) (aF bH (aB (aA 3) aD))))) (aH (aL 5 (cA aD)) (aH (aL 6 (aC aV (aC cY (aA 1) (mC (.int 32))) (mC (.int 8)))) (aH (bG (aS (aC (aY b7) (aC aV (aC aG (aA 4) (mC (.int 0))) (mC (.int 4))) (mC (.int 2)))) (aL 6 (aC bC (aC cB (aC aV (aC cY (aA 1) (mC (.int 32))) (mC (.int 4))) (mC (.int 2))) (mC (.int 1)))) bI) (aH (cR (cC (aF (f k "_law_gaps") (aB (aC cY (aA 1) (mC (.int 256))) (aB (aA 4) aD)))) (cN 7) vB) (aO (aA 5))))))))) [b4 d0,b4 d1,b6,b6,b6,b6,b6,b6,b6,b6,b6,b6] a):=by kernel_rfl
theorem SU(k:Nat)(d0 d1 d2:D)(a:Hm):f (k+1) "_law_creases" [d0,d1,d2] a=fin ((aH (aL 3 (aC aV (aC cY (aF (f k "_law_nth") (aB (aA 0) (aB (aA 1) aD))) (mC (.int 9))) (mC (.int 6)))) (aH (bG (aS (aC dD (aA 3) (mC (.int 3)))) (aO (aF (f k "_law_folds") (aB (aA 0) (aB (aA 1) (aB (aA 2) aD))))) bI) (aH (aL 4 (cA aD)) (aH (cR (fX (aB (aC aG (cA (aB (mC (.int 1)) (aB (mC (.int 1)) (aB (mC (.int 2)) aD)))) (aC cQ (aA 3) (mC (.int 3)))) aD)) (cN 5) (FX k)) (aO (aA 4)))))) [b4 d0,b4 d1,b4 d2,b6,b6,b6,b6] a):=by kernel_rfl
theorem SV(k:Nat)(a:Hm):f (k+1) "_law_square" [] a=fin ((aH (aL 0 (cA (aB (aU (aB (mC (.int 6)) (aB (mC (.int 4)) aD))) (aB (aU (aB (mC (.int 8)) (aB (mC (.int 6)) aD))) (aB (aU (aB (mC (.int 6)) (aB (mC (.int 8)) aD))) (aB (aU (aB (mC (.int 4)) (aB (mC (.int 6)) aD))) (aB (aU (aB (mC (.int 3)) (aB (mC (.int 3)) aD))) (aB (aU (aB (mC (.int 1)) (aB (mC (.int 1)) aD))) (aB (aU (aB (mC (.int 3)) (aB (mC (.int 5)) aD))) (aB (aU (aB (mC (.int 1)) (aB (mC (.int 7)) aD))) (aB (aU (aB (mC (.int 7)) (aB (mC (.int 3)) aD))) (aB (aU (aB (mC (.int 5)) (aB (mC (.int 1)) aD))) (aB (aU (aB (mC (.int 9)) (aB (mC (.int 3)) aD))) (aB (aU (aB (mC (.int 11)) (aB (mC (.int 1)) aD))) aD)))))))))))))) (aO (aC bC (aA 0) (cA (aB (aU (aB (mC (.int 9)) (aB (mC (.int 7)) aD))) (aB (aU (aB (mC (.int 11)) (aB (mC (.int 5)) aD))) (aB (aU (aB (mC (.int 9)) (aB (mC (.int 9)) aD))) (aB (aU (aB (mC (.int 11)) (aB (mC (.int 11)) aD))) (aB (aU (aB (mC (.int 5)) (aB (mC (.int 9)) aD))) (aB (aU (aB (mC (.int 7)) (aB (mC (.int 11)) aD))) (aB (aU (aB (mC (.int 3)) (aB (mC (.int 9)) aD))) (aB (aU (aB (mC (.int 1)) (aB (mC (.int 11)) aD))) aD)))))))))))) [b6] a):=by kernel_rfl
theorem SW(k:Nat)(d0 d1:D)(a:Hm):f (k+1) "_law_sheet" [d0,d1] a=fin ((aH (aL 2 (aF (f k "_law_nth") (aB (aA 0) (aB (aA 1) aD)))) (aH (aL 3 (aU (aB (aC bC (mC (.int 1)) (aC aV (aA 2) (mC (.int 3)))) (aB (aC bC (mC (.int 1)) (aC aV (aC cY (aA 2) (mC (.int 3))) (mC (.int 3)))) aD)))) (aH (bG (fT (aS (fY dD dD (mC (.int 2)) (aC aV (aC cY (aA 2) (mC (.int 9))) (mC (.int 6))) (mC (.int 5)))) (aS (aC (aY b7) (aC aV (aC cY (aA 2) (mC (.int 5184))) (mC (.int 4))) (mC (.int 1))))) (aL 3 (aU (aB (aC bC (aC aG (aA 3) (mC (.int 0))) (mC (.int 3))) (aB (aC bC (aC aG (aA 3) (mC (.int 1))) (mC (.int 3))) aD)))) bI) (aH (aL 4 (aF (f k "_law_creases") (aB (aA 0) (aB (aA 1) (aB (aA 3) aD))))) (aH (bG (fT (aS (aC (aY b7) (aC aV (aC cY (aA 2) (mC (.int 9))) (mC (.int 6))) (mC (.int 5)))) (aS (aC (aY b7) (aC aV (aC cY (aA 2) (mC (.int 5184))) (mC (.int 4))) (mC (.int 1))))) (aH (aL 3 (aU (aB (mC (.int 3)) (aB (mC (.int 3)) aD)))) (aL 4 (aF (f k "_law_square") aD))) bI) (AU k)))))) [b4 d0,b4 d1,b6,b6,b6,b6,b6,b6,b6,b6] a):=by kernel_rfl
theorem SX(k:Nat)(d0 d1:D)(a:Hm):f (k+1) "_law_round_a" [d0,d1] a=fin ((aH (aL 2 (cA (aB (aU (aB (mC (.int 2)) (aB (mC (.int 0)) aD))) (aB (aU (aB (mC (.int 1)) (aB (mC (.int 1)) aD))) (aB (aU (aB (mC (.int 0)) (aB (mC (.int 2)) aD))) (aB (aU (aB (eQ (mC (.int 1))) (aB (mC (.int 1)) aD))) (aB (aU (aB (eQ (mC (.int 2))) (aB (mC (.int 0)) aD))) (aB (aU (aB (eQ (mC (.int 1))) (aB (eQ (mC (.int 1))) aD))) (aB (aU (aB (mC (.int 0)) (aB (eQ (mC (.int 2))) aD))) (aB (aU (aB (mC (.int 1)) (aB (eQ (mC (.int 1))) aD))) aD)))))))))) (aH (bG (aS (aC (aY b7) (aC aV (aC aG (aA 1) (mC (.int 0))) (mC (.int 4))) (mC (.int 2)))) (aL 2 (eJ (oK (aB (mC (.int 1)) (aB (mC (.int 8)) (aB (mC (.int 2)) aD)))) dU (aC aG (aA 2) (aA 8)))) bI) (aH (aL 4 (eU (jF 2) (cC (aA 2)) dU (aU (aB (aC bC (aC aG (aA 1) (mC (.int 0))) (aA 8)) (aB (aC bC (aC aG (aA 1) (mC (.int 1))) (aA 9)) aD))))) (aH (aL 5 (eJ (fX (aB (aF bH (aB (aA 4) aD)) aD)) (aS (aC (dE b7) (aC aG (aA 4) (aA 8)) (aA 0))) (aA 8))) (aH (aL 6 (cA aD)) (aH (cR (fX (aB (aF bH (aB (aA 5) aD)) aD)) (cN 3) AK) (aO (aU (aB (eJ (cC (aA 5)) dU (aC aG (aA 4) (aA 8))) (aB (aA 6) aD)))))))))) [b4 d0,b4 d1,b6,b6,b6,b6,b6,b6] a):=by kernel_rfl
theorem SY(k:Nat)(d0:D)(a:Hm):f (k+1) "_law_inner" [d0] a=fin ((aH (aL 1 (cA aD)) (aH (cR (kP (aB (mC (.int 1)) (aB (aC cB (mC (.int 4)) (aC aG (aA 0) (mC (.int 0)))) aD))) (cN 2) (cR (kP (aB (mC (.int 1)) (aB (aC cB (mC (.int 4)) (aC aG (aA 0) (mC (.int 1)))) aD))) (cN 3) o8)) (aO (aA 1)))) [b4 d0,b6,b6,b6] a):=by kernel_rfl
theorem S0(k:Nat)(d0:D)(a:Hm):f (k+1) "_law_barred" [d0] a=fin ((aH (aL 1 (eU (jF 2) (cC (aC aG (aA 0) (mC (.int 2)))) dU (aA 4))) (aH (cR (cC (aF (f k "_law_inner") (aB (aA 0) aD))) (cN 2) (AN k)) (aO (mC .non)))) [b4 d0,b6,b6,b6] a):=by kernel_rfl
theorem S1(k:Nat)(d0 d1 d2 d3 a:D)(b:Hm):f (k+1) "_law_tie" [d0,d1,d2,d3,a] b=fin ((aH (aL 5 (aC aG (aA 0) (aC aV (aA 1) (aF bH (aB (aA 0) aD))))) (aH (aL 6 (aC aG (aA 0) (aC aV (aA 2) (aF bH (aB (aA 0) aD))))) (aO (aU (aB (aF oV (aB (aA 5) (aB (aA 6) aD))) (aB (aF uF (aB (aA 5) (aB (aA 6) aD))) (aB (aA 3) (aB (aA 4) aD)))))))) [b4 d0,b4 d1,b4 d2,b4 d3,b4 a,b6,b6] b):=by kernel_rfl
theorem S2(k:Nat)(d0:D)(a:Hm):f (k+1) "_law_ties" [d0] a=fin ((aH (aL 1 (eU (jF 2) (cC (aC aG (aA 0) (mC (.int 2)))) dU (aA 8))) (aH (aL 2 (cA aD)) (aH (cR (cC (aF (f k "_law_inner") (aB (aA 0) aD))) (cN 3) (AM k)) (aO (aF kT (aB (aA 2) aD)))))) [b4 d0,b6,b6,b6,b6,b6,b6,b6] a):=by kernel_rfl
theorem S3(k:Nat)(d0 d1:D)(a:Hm):f (k+1) "_law_refused" [d0,d1] a=fin ((aH (aL 2 (mC .non)) (aH (n9 (cM (aF (f k "ties") (aB (aA 0) aD))) (fE (cM (aF (f k "ties") (aB (aA 0) aD))) (mG (g k "ties") (aB (aA 0) aD)) cH) (sup "Barred") 3 (aL 2 (kQ "corner" (att "corner") (aA 3)))) (aO (aC (aY b7) (aA 2) (aA 1))))) [b4 d0,b4 d1,b6,b6] a):=by kernel_rfl
theorem S4(k:Nat)(d0:D)(a:Hm):f (k+1) "law" [d0] a=fin ((aH (aL 1 (aF (f k "_law_sheet") (aB (aA 0) (aB (mC (.int 0)) aD)))) (FT k)) [b4 d0,b6,b6,b6,b6,b6] a):=by kernel_rfl
end Lw
namespace Lw
open PySem L2 L3
theorem w_mul2{z:Int}{a:Hm}{Q:D×Hm->Prop}:W (cB (.int 2) (.int z) a) Q↔Q (.int (2*z),a):=kZ (.inl ⟨by decide,by decide⟩)
theorem w_mul4{z:Int}{a:Hm}{Q:D×Hm->Prop}:W (cB (.int 4) (.int z) a) Q↔Q (.int (4*z),a):=kZ (.inl ⟨by decide,by decide⟩)
theorem w_mod2{z:Int}{a:Hm}{Q:D×Hm->Prop}:W (aV (.int z) (.int 2) a) Q↔Q (.int (z%2),a):=dW (by decide)
theorem F2{z:Int}{a:Hm}{Q:D×Hm->Prop}:W (aV (.int z) (.int 4) a) Q↔Q (.int (z%4),a):=dW (by decide)
theorem S5:(2:Nat)<=VW:=by decide
theorem k6{a b:D}:([a,b]:List D).length<=VW:=S5
theorem S6:(1:Nat)<=VW:=by decide
theorem F3{a:D}:([a]:List D).length<=VW:=S6
noncomputable def m7:D->Int
 |.int i=>i|_=>0
theorem S7{lo:Int}{n:Nat}{d:D}(h:d∈gW lo n):∃j:Nat,j<n/\d=.int (lo+(j:Int)):=by unfold gW at h;obtain⟨j,a,rfl⟩:=Wm.mp h;exact⟨j,WZ.mp a,rfl⟩
theorem vC{a C:MS}{d b:aE}{c μ':Hm}{Q:D×Hm->Prop}(h:a d c=b4 (.nx,b,μ'))(k:W (fin (C b μ')) Q):W (fin (aH a C d c)) Q:=by unfold aH;rw[h];exact k
theorem F5{i:Nat}{m:ME}{a:aE}{b μ':Hm}{d:D}(h:m a b=b4 (d,μ')):aL i m a b=b4 (.nx,a.set i (b4 d),μ'):=by unfold aL;rw[h];rfl
theorem F6{a:Type}{o:Option a}{r:a}{Q:a->Prop}(h:W o λx=>x=r):W o Q↔Q r:=by obtain⟨_,h,rfl⟩:=h;rw[h];exact W_some
theorem F7{a:Type}{o:Option a}{r:a}(h:∀Q:a->Prop,W o Q↔Q r):o=b4 r:=by obtain⟨_,e,b⟩:=(h λx=>x=r).mpr rfl;rw[e,b]
section
variable{α:Type}{i:Nat}{m:ME}{ms:MA}{g:MF}{t:MT}{A B C:MS}{ρ:aE}{μ μ':Hm}{ds:List D}{Q:D×Hm->Prop}{R:Fl×aE×Hm->Prop}
theorem bB{o:Option α}{r:α}{Q:α->Prop}(h:o=b4 r)(q:Q r):W o Q:=⟨r,h,q⟩
theorem cI{o:Option (D×Hm)}{a:Option (Fl×aE×Hm)}(e:o=fin a)(h:W a λp=>match p.1 with|.rt d=>Q (d,p.2.2)|.nx=>Q (.non,p.2.2)|_=>False):W o Q:=e▸W_fin.mpr h
theorem a9(h:W (m ρ μ) λp=>W (C (ρ.set i (b4 p.1)) p.2) R):W (aH (aL i m) C ρ μ) R:=w_mSeq.mpr (w_mSet.mpr h)
theorem eY(h:W (A ρ μ) λp=>p.1=.nx/\W (C p.2.1 p.2.2) R):W (aH A C ρ μ) R:=w_mSeq.mpr (bE h λp q=>by rw[q.1];exact q.2)
theorem k7(h:W (m ρ μ) λp=>W (C ρ p.2) R):W (aH (cM m) C ρ μ) R:=w_mSeq.mpr (w_mDrop.mpr h)
theorem cJ(h:W (m ρ μ) λp=>R (.rt p.1,ρ,p.2)):W (aO m ρ μ) R:=w_mRet.mpr h
theorem aP(h:ms ρ μ=b4 (ds,μ'))(k:W (g ds μ') Q):W (aF g ms ρ μ) Q:=w_mCall.mpr ⟨_,h,k⟩
theorem jQ(h:W (ms ρ μ) λp=>W (g p.1 p.2) Q):W (aF g ms ρ μ) Q:=w_mCall.mpr h
theorem bJ{Q:List D×Hm->Prop}(h:W (m ρ μ) λp=>W (ms ρ p.2) λq=>Q (p.1::q.1,q.2)):W (aB m ms ρ μ) Q:=w_mCons.mpr h
theorem S8(h:W (m ρ μ) λp=>W (g [p.1] p.2) Q):W (aF g (aB m aD) ρ μ) Q:=w_mCall.mpr (w_mCons.mpr (bE h λ_ q=>⟨_,rfl,q⟩))
theorem gD{b:Bool}(h:t ρ μ=b4 (b,μ'))(h1:b=b8->W (aH A C ρ μ') R)(a:b=b7->W (aH B C ρ μ') R):W (aH (bG t A B) C ρ μ) R:=by
 refine w_mSeq.mpr (w_mIfS.mpr ⟨_,h,?_⟩);cases b
 ·exact w_mSeq.mp (a rfl)
 ·exact w_mSeq.mp (h1 rfl)
theorem S9(h:W (t ρ μ) λp=>p.1=b8/\W (aH A C ρ p.2) R):W (aH (bG t A B) C ρ μ) R:=w_mSeq.mpr (w_mIfS.mpr (bE h λp q=>by rw[if_pos q.1];exact w_mSeq.mp q.2))
theorem rP(h:W (t ρ μ) λp=>p.1=b7/\W (aH B C ρ p.2) R):W (aH (bG t A B) C ρ μ) R:=w_mSeq.mpr (w_mIfS.mpr (bE h λp q=>by rw[if_neg (by rw[q.1];exact VZ)];exact w_mSeq.mp q.2))
theorem rQ(h:W (aH A (aH B C) ρ μ) R):W (aH (aH A B) C ρ μ) R:=w_mSeq.mpr (w_mSeq.mpr (bE (w_mSeq.mp h) λp q=>by
 obtain⟨x,y⟩:=p;cases x with
 |nx=>exact w_mSeq.mp q
 |_=>exact q))
theorem mT{T:Bool×Hm->Prop}(h:W (t ρ μ) λp=>T (!p.1,p.2)):W (gM t ρ μ) T:=w_mNotT.mpr h
theorem gX{T:Bool×Hm->Prop}{b:Bool}(h:W (m ρ μ) λp=>p.1=.bl b/\T (b,p.2)):W (d9 m ρ μ) T:=w_mTru.mpr (bE h λp ⟨e,q⟩=>by rw[e];exact w_truB.mpr q)
theorem k8(h:W (m ρ μ) λp=>R (.rt p.1,ρ,p.2)):W (aH (aO m) C ρ μ) R:=w_mSeq.mpr (w_mRet.mpr h)
theorem eC(h:W (C ρ μ) R):W (aH bI C ρ μ) R:=w_mSeq.mpr (w_mNext.mpr h)
theorem dR{T:Bool×Hm->Prop}(h:W (m ρ μ) λp=>∃b,p.1=.bl b/\T (b,p.2)):W (aS m ρ μ) T:=w_mTest.mpr (bE h λp ⟨b,e,q⟩=>by rw[e];exact q)
theorem F8{s t:MT}{T:Bool×Hm->Prop}(h:W (s ρ μ) λp=>p.1=b7/\W (t ρ p.2) T):W (jB s t ρ μ) T:=w_mOrT.mpr (bE h λp q=>by rw[if_neg (by rw[q.1];exact VZ)];exact q.2)
theorem bY{h:D->D->Hm->Option (D×Hm)}{a b:ME}{c d:Hm}{x y:D}(h1:a ρ μ=b4 (x,c))(e:b ρ c=b4 (y,d))(k:W (h x y d) Q):W (aC h a b ρ μ) Q:=w_mOp.mpr ⟨_,h1,_,e,k⟩
theorem aW{h:D->D->Hm->Option (D×Hm)}{a b:ME}(k:W (a ρ μ) λp=>W (b ρ p.2) λq=>W (h p.1 q.1 q.2) Q):W (aC h a b ρ μ) Q:=w_mOp.mpr k
end
noncomputable def rR(x y:Int):Str:=if x%2=1 then(if x%4=y%4 then "falling" else "rising")else if y%4=0 then "level" else "upright"
theorem F9(k:Nat)(x y:Int)(a:Hm)(Q:D×Hm->Prop):W (f (k+1) "line_of" [P x y] a) Q↔Q (.str (rR x y),a):=by rw[RW,W_fin];simp only[w_mSeq,w_mRet,w_mNext,w_mIfS,w_mIfE,w_mOp,dH,bW,w_mTest,o9,w_it21,w_eqI,dW (show(0:Int)<2 by decide),dW (show(0:Int)<4 by decide)];unfold rR;split<;>split<;>simp_all
noncomputable def iU(x y:Int)(a b:Int):Int:=if x%2=1 then(if x%4=y%4 then a-b else a+b)else if y%4=0 then b else a
theorem Ga(k:Nat)(x y a b:Int)(c:Hm)(Q:D×Hm->Prop):W (f (k+1) "number_by" [.str (rR x y),P a b] c) Q↔Q (.int (iU x y a b),c):=by refine F6 ?_;rw[R6];unfold rR iU;split<;>split<;>exact⟨_,rfl,rfl⟩
noncomputable def gY(p e:Int×Int):Int×Int:=
 if e.1%2=1 then(if e.1%4=e.2%4 then(p.2+(e.1-e.2),p.1-(e.1-e.2))else(e.1+e.2-p.2,e.1+e.2-p.1))else if e.2%4=0 then(p.1,2*e.2-p.2)else(2*e.1-p.1,p.2)
theorem Ta(k:Nat)(x y a b:Int)(c:Hm)(Q:D×Hm->Prop):W (f (k+2) "mirrored" [P x y,P a b] c) Q↔Q (PP (gY (x,y) (a,b)),c):=by refine F6 ?_;rw[Sa];refine vC rfl (vC rfl (vC (F5 (F7 (F9 k a b c))) (vC (F5 (F7 (Ga k a b a b c))) ?_)));unfold rR iU gY;split<;>split<;>exact⟨_,rfl,rfl⟩
noncomputable def dM:D->Int×Int
 |.tup [.int x,.int y]=>(x,y)|_=>(0,0)
theorem pE(p:Int×Int->Bool)(l:List (Int×Int)):((l.map PP).filter λd=>p (dM d)).map (λd=>d)=(l.filter p).map PP:=by
 rw[List.map_id'];induction l with
 |nil=>rfl|cons a l b=>
  have e:(a4L PP (a::l)).filter (λd=>p (dM d))=if p a then PP a::(l.map PP).filter (λd=>p (dM d))else(l.map PP).filter λd=>p (dM d):=by rw[V0,Yd];rfl
  rw[e,b,Yd];split<;>rfl
theorem k9{d:D}{l:List (Int×Int)}(h:d∈l.map PP):∃x y,d=P x y:=by obtain⟨p,_,rfl⟩:=Wm.mp h;exact⟨p.1,p.2,rfl⟩
theorem Gb{n:Nat}{i:Int}(a:0<=i)(h:i<n):jA n i=b4 i.toNat:=by unfold jA;rw[if_pos a,if_pos h]
theorem Tc{gs:List Int}{i:Int}(a:0<=i)(h:i<gs.length):atI (gs.map D.int) i=b4 (.int (gs.getD i.toNat 0)):=by
 unfold atI;rw[VI,Gb a h,Wg,V5];have b:i.toNat<gs.length:=by omega
 simp[W3,b]
theorem Td{xs:List D}{i:Int}{d:D}{a:Hm}{Q:D×Hm->Prop}(h:atI xs i=b4 d):W (aG (.rol xs) (.int i) a) Q↔Q (d,a):=by
 have:aG (.rol xs) (.int i) a=b4 (d,a):=by simp only[aG,gN,bF,Wg,h,Wu]
 rw[this];exact W_some
noncomputable def mU:List Int->Int
 |[]=>0|g::r=>g-mU r
noncomputable def eP(gs:List Int):Bool:=decide (gs.length<=8)&&decide (gs.length%2=0)&&gs.all (λg=>decide (1<=g))&&mU gs==0
theorem Te(k:Nat)(i:Int)(a:Hm)(Q:D×Hm->Prop):W (f (k+1) "is_whole" [.int i] a) Q↔Q (.bl b8,a):=by rw[F1,W_fin];simp only[w_mRet,w_mAndV,Rt,w_mCall,w_mCons,c8,bW,dH,RG,RH];simp
theorem Tf:∀gs:List Int,gs.length<=8->gs.length%2=0->∃es i:List Int,eB (gs.map D.int) b6 b6 (b4 2)=es.map D.int/\eB (gs.map D.int) (b4 1) b6 (b4 2)=i.map D.int/\es.sum-i.sum=mU gs/\es.length<=8/\i.length<=8
 |[],_,_=>⟨[],[],rfl,rfl,rfl,by decide,by decide⟩|[_],_,h=>by simp at h
 |[a,b],_,_=>⟨[a],[b],by kernel_rfl,by kernel_rfl,by simp[mU]<;>omega,by simp,by simp⟩|[_,_,_],_,h=>by simp at h
 |[a,b,c,d],_,_=>⟨[a,c],[b,d],by kernel_rfl,by kernel_rfl,by simp[mU]<;>omega,by simp,by simp⟩|[_,_,_,_,_],_,h=>by simp at h
 |[a,b,c,d,e,g],_,_=>⟨[a,c,e],[b,d,g],by kernel_rfl,by kernel_rfl,by simp[mU]<;>omega,by simp,by simp⟩|[_,_,_,_,_,_,_],_,h=>by simp at h
 |[a,b,c,d,e,g,x,y],_,_=>⟨[a,c,e,x],[b,d,g,y],by kernel_rfl,by kernel_rfl,by simp[mU]<;>omega,by simp,by simp⟩|_::_::_::_::_::_::_::_::_::_,h,_=>absurd h (by simp)
theorem Gd{d:D}{gs:List Int}(h:d∈gs.map D.int):∃g∈gs,d=.int g:=by obtain⟨g,a,rfl⟩:=Wm.mp h;exact⟨g,a,rfl⟩
theorem vD{a:Type}(l:List a):l.filter (λ_=>b8)=l:=by simp
theorem Tg(k:Nat)(a:Nat)(gs:List Int)(hz:gs.length<=1000)(m:Hm)(Q:D×Hm->Prop)(c:m[a]?=b4 (.lst (gs.map D.int)))(H:∀μ',m<+:μ'->Q (.bl (eP gs),μ')):W (f (k+2) "is_good" [.loc a] m) Q:=by
 rw[So,W_fin];simp only[w_mSeq,w_mIfS,w_mOrT,w_mTest,w_mOp,w_mCall,w_mCons,c8,bW,dH];refine(dP c).mpr ?_;simp only[w_gtI,VI];by_cases p:(8:Int)<gs.length
 ·have e:eP gs=false:=by unfold eP;rw[decide_eq_false (show ¬ gs.length<=8 by omega)];rfl
  simp only[p,decide_true,if_true,w_mRet,dH];rw[<- e];exact H _ (V3 _)
 ·simp only[p,decide_false,Wq,if_false];refine(dP c).mpr ?_;simp only[w_mod2,w_eqI,VI];by_cases s:(gs.length:Int)%2=1
  ·have e:eP gs=false:=by unfold eP;rw[decide_eq_false (show ¬ gs.length%2=0 by omega)];simp
   simp only[s,beq_self_eq_true,if_true,w_mRet,dH];rw[<- e];exact H _ (V3 _)
  ·have u:((gs.length:Int)%2==1)=false:=by simpa using s
   simp only[u,Wq,if_false,w_mNext,w_mNotT,w_mTru,w_mCall,w_mCons,c8];refine gC (xs:=gs.map D.int) (p:=λ_=>b8) (v:=λd=>.bl (decide (1<=m7 d))) ?_;simp only[w_iSeq,bW];refine(dQ c).mpr ?_;refine⟨iS c,rfl,by rw[VI,V9];omega,λd μ' hd w=>w_mTrue.mpr ⟨rfl,V3 _⟩,λd μ' hd _ w=>?_,λo b n=>?_⟩
   ·obtain⟨g,_,rfl⟩:=Gd hd;simp only[Xw,XQ,w_mAndV,w_mCall,w_mCons,c8,bW,cV,Te,if_true,w_mOp,dH,Rw];exact⟨rfl,V3 _⟩
   ·have j:o[m.length]?=b4 (.lst ((gs.map λg=>decide (1<=g)).map D.bl)):=by rw[n,vD,Wo,Wo];rfl
    refine(RJ j).mpr ?_;have i:(gs.map λg=>decide (1<=g)).all id=gs.all λg=>decide (1<=g):=by rw[a2K];rfl
    rw[i];simp only[w_truB];cases q:gs.all λg=>decide (1<=g)with
    |false=>
     have e:eP gs=false:=by unfold eP;rw[q];simp
     simp only[a2c,if_true,w_mRet,dH];rw[<- e];exact H _ b
    |true=>
     simp only[a0j,Wq,if_false,w_mNext,w_mRet,w_mOp,w_mCall,w_mCons,c8];obtain⟨v,x,r,l,y,z,A⟩:=Tf gs (by omega) (by omega);have h:=aN b c;refine FI ?_;simp only[bW];refine⟨a,rfl,?_⟩;simp only[uY,uZ,dH];refine⟨by decide,_,h,?_,?_⟩
     ·rw[r,VI,V9];omega
     rw[r];refine(AE (bK _ _)).mpr ?_;refine FI ?_;simp only[bW];refine⟨a,rfl,?_⟩;simp only[uY,uZ,dH];refine⟨by decide,_,aN (aX _ _) h,?_,?_⟩
     ·rw[l,VI,V9];omega
     rw[l];refine(AE (bK _ _)).mpr ?_;refine(w_eqI).mpr ?_;have e:eP gs=(v.sum==x.sum):=by unfold eP;rw[q,decide_eq_true (show gs.length<=8 by omega),decide_eq_true (show gs.length%2=0 by omega)];simp only[a5e];rw[a0y,beq_iff_eq,beq_iff_eq];omega
     rw[<- e];exact H _ (b.trans ((aX _ _).trans (aX _ _)))
noncomputable def lE(h:Int)(x:Int):List (Int×Int):=(Wf (4*h-1).toNat).map λ(j:Nat)=>(x,1+(j:Int))
noncomputable def j9(h:Int)(n:Nat):List (Int×Int):=(Wf n).flatMap λ(i:Nat)=>lE h (1+(i:Int))
noncomputable def cE(w h:Int):List (Int×Int):=j9 h (4*w-1).toNat
theorem Ge(h:Int)(n:Nat):j9 h (n+1)=j9 h n++lE h (1+(n:Int)):=by unfold j9;rw[Zc,Y3];simp
theorem Gf(h x:Int):(lE h x).length=(4*h-1).toNat:=by unfold lE;simp
theorem AW(h:Int):∀n:Nat,(j9 h n).length=n*(4*h-1).toNat
 |0=>by simp[j9]
 |n+1=>by rw[Ge,V1,AW h n,Gf,a2Z]
theorem Gg{h:Int}(b:h<=6){n:Nat}(a:n<=23):n*(4*h-1).toNat<=529:=by have:n*(4*h-1).toNat<=23*23:=a5c a (by omega);omega
theorem Th(h x:Int):((gW 1 (4*h-1).toNat).filter λ_=>b8).map (λd=>P x (m7 d))=(lE h x).map PP:=by unfold gW lE;rw[show ∀l:List D,l.filter (λ_=>b8)=l from λl=>by simp,Wo,Wo];rfl
theorem AX(k:Nat)(w h:Int)(hw:1<=w/\w<=6)(s:1<=h/\h<=6)(c:Hm)(Q:D×Hm->Prop)(H:∀a μ',c<+:μ'->μ'[a]?=b4 (.lst ((cE w h).map PP))->c.length<=a->Q (.loc a,μ')):W (f (k+1) "places_within" [.int w,.int h] c) Q:=by
 rw[Sg,W_fin];simp only[w_mSeq,w_mSet,w_mLst,c8];refine⟨Yb _,?_⟩;simp only[Xu,XF,w_mForI,w_iRng2,w_mCons,c8,dH,w_mOp,bW,cV,w_mul4];refine⟨by omega,?_⟩;refine j8 (lo:=1) (λi q μ'=>c<+:μ'/\μ'[c.length]?=b4 (.lst ((j9 h i).map PP))/\∃o,q=[b4 (.int w),b4 (.int h),b4 (.loc c.length),o]) ⟨aX _ _,bK _ _,b6,rfl⟩ ?_ ?_
 ·rintro i q p v ⟨n,e,o,rfl⟩;refine⟨_,rfl,?_⟩;simp only[Xu,XF,w_mDrop];refine eW ?_;simp only[bW,cV];refine⟨eX e,?_⟩;simp only[w_mCons,c8];refine gC (xs:=gW 1 (4*h-1).toNat) (p:=λ_=>b8) (v:=λd=>P (1+(i:Int)) (m7 d)) ?_;simp only[w_iRng2,w_mCons,c8,dH,w_mOp,bW,cV,w_mul4];refine⟨by omega,FF,by simp[gW],by rw[V9];simp[gW];omega,?_,?_,?_⟩
  ·intro d μ' hd n;exact w_mTrue.mpr ⟨rfl,V3 _⟩
  ·intro d μ' hd _ n;obtain⟨j,x,rfl⟩:=S7 hd;simp only[Xw,XQ,w_mTup,w_mCons,c8,bW,cV,k6,true_and];exact⟨rfl,V3 _⟩
  ·intro u b l;rw[Th]at l;have m:((j9 h i).map PP).length+((lE h (1+(i:Int))).map PP).length<=VW:=by have r:=Gg (h:=h) s.2 (n:=i+1) (by omega);rw[a2Z]at r;rw[VI,VI,AW,Gf,V9];omega
   refine(uX (aN b e) l m).mpr ?_;refine⟨iD (n.trans b) (VS _) _,?_,_,rfl⟩;rw[WA (VN.mp (aN b e)).1,Ge,Wz]
 ·rintro q p ⟨n,e,o,rfl⟩;simp only[w_mRet,bW,cV];exact H _ _ n e (VS _)
theorem vF{w h:Int}(hw:w<=6)(a:h<=6):(cE w h).length<=529:=by unfold cE;rw[AW];exact Gg a (by omega)
noncomputable def mv(x y:Int)(l:List (Int×Int)):List (Int×Int):=l.map λs=>(x+s.1,y+s.2)
theorem Gh(k:Nat)(x y:Int)(l:List (Int×Int))(i:l.length<=63)(c:Hm)(Q:D×Hm->Prop)(h:∀a μ',c<+:μ'->μ'[a]?=b4 (.lst ((mv x y l).map PP))->c.length<=a->Q (.loc a,μ')):W (f (k+1) "moved_by" [P x y,.tup (l.map PP)] c) Q:=by
 rw[RZ,W_fin];simp only[w_mRet];refine gC (xs:=l.map PP) (p:=λ_=>b8) (v:=λd=>PP (x+(dM d).1,y+(dM d).2)) ?_;simp only[w_iSeq,bW,cV];refine w_seqT.mpr ?_;refine⟨RE,rfl,by rw[VI,V9];omega,λd μ' hd b=>W_some.mpr ⟨rfl,V3 _⟩,λd μ' hd _ b=>?_,λμ' b e=>?_⟩
 ·obtain⟨u,v,rfl⟩:=k9 hd;simp only[Xw,XQ,w_mTup,w_mOp,dH,w_mCons,c8,bW,cV,o9,w_it21,w_addI,k6,true_and];exact⟨rfl,V3 _⟩
 ·refine h _ _ b ?_ (VS _);rw[e,Y4.mpr (λ_ _=>rfl),Wo];unfold mv;rw[Wo];rfl
noncomputable def E8:List (Int×Int):=[(2,0),(1,1),(0,2),(-1,1),(-2,0),(-1,-1),(0,-2),(1,-1)]
noncomputable def F4:List (Int×Int):=[(1,1),(-1,1),(-1,-1),(1,-1)]
noncomputable def bN(x:Int):List (Int×Int):=if x%4=0 then E8 else F4
theorem Gi(k:Nat)(x y:Int)(b:Hm)(Q:D×Hm->Prop)(h:∀a μ',b<+:μ'->μ'[a]?=b4 (.lst ((mv x y (bN x)).map PP))->b.length<=a->Q (.loc a,μ')):W (f (k+2) "edges_round" [P x y] b) Q:=by
 rw[R0,W_fin];simp only[w_mRet,w_mCall,w_mCons,c8,bW,w_mIfE,w_mTest,w_mOp,dH,o9,F2,w_eqI];unfold bN at h;by_cases e:x%4=0
 ·rw[if_pos e]at h;rw[e];exact Gh k x y E8 (by decide) b _ h
 ·rw[if_neg e]at h;rw[if_neg (by simpa using e)];exact Gh k x y F4 (by decide) b _ h
theorem Gj(a:Hm)(q:Int×Int):∀ps:List (Int×Int),jZ a (PP q) (ps.map PP)=b4 (ps.any λp=>p==q)
 |[]=>rfl|p::ps=>by rw[V0];show(cS 8 a (PP p) (PP q)).bind (λb=>(jZ a (PP q) (ps.map PP)).map λc=>b||c)=_;rw[AB 6,Gj a q ps];rfl
noncomputable def jR(lo:Int)(n m:Nat):List (Int×Int):=(Wf n).flatMap λ(i:Nat)=>(Wf m).map λ(j:Nat)=>(lo+(i:Int),lo+(j:Int))
noncomputable def iV(lo x:Int)(m:Nat):List (Int×Int):=(Wf m).map λ(j:Nat)=>(x,lo+(j:Int))
theorem Gk(lo:Int)(n m:Nat):jR lo (n+1) m=jR lo n m++iV lo (lo+(n:Int)) m:=by unfold jR iV;rw[Zc,Y3];simp
theorem Tj(lo x:Int)(m:Nat):iV lo x (m+1)=iV lo x m++[(x,lo+(m:Int))]:=by unfold iV;rw[Zc,Wz];rfl
theorem Gm(lo x:Int)(m:Nat):(iV lo x m).length=m:=by unfold iV;simp
theorem Gn(lo:Int)(m:Nat):∀n:Nat,(jR lo n m).length=n*m
 |0=>by simp[jR]
 |n+1=>by rw[Gk,V1,Gn lo m n,Gm,a2Z]
theorem AY{b:Hm}{a:Nat}{c c':C}:(b.set a c).set a c'=b.set a c':=List.set_set ..
theorem eD{b:Hm}{a:Nat}{c c':C}(h:b[a]?=b4 c):(b.set a c')[a]?=b4 c':=by rw[WA (VN.mp h).1]
theorem Tn(a:Hm)(c c':C):(a++[c]).set a.length c'=a++[c']:=by rw[a0z _ _ (VS _)];simp
theorem pF{b:Hm}{a:Nat}{c:C}(h:b[a]?=b4 c):b.set a c=b:=by obtain⟨d,rfl⟩:=VN.mp h;exact List.set_getElem_self d
noncomputable def dX(p:Int×Int):List Int:=[p.1,p.2]
theorem To{a:Type}(l:List a)(d:a):(Wf l.length).map (λi=>l.getD i d)=l:=by refine List.ext_getElem (by simp) λi c b=>?_;simp[W3,b]
theorem mV{es:List (Int×Int)}{i:Nat}{d:D}(h:(es.map PP)[i]?=b4 d):∃p,es[i]?=b4 p/\d=PP p:=by rw[V5]at h;obtain⟨p,a,b⟩:=VJ.mp h;exact⟨p,a,b.symm⟩
theorem rS(kvs:List (List Int×D))(k:List Int):(bP kvs k).isSome=kvs.any λp=>decide (p.1=k):=by unfold bP;rw[Zm,a0y,List.find?_isSome,a0l]
theorem Tp(kvs:List (List Int×D))(k k':List Int)(d:D):(bP (d8 kvs k d) k').isSome=(decide (k=k')||(bP kvs k').isSome):=by
 unfold d8;split
 ·rename_i h;have e:(kvs.map λp=>if p.1=k then(p.1,d)else p).any (λp=>decide (p.1=k'))=kvs.any λp=>decide (p.1=k'):=by rw[a2J];congr 1;funext p;simp only[Function.comp];split<;>rfl
  rw[rS,e,rS kvs k'];by_cases z:k=k'
  ·subst z;rw[rS]at h;rw[h];simp
  ·simp[z]
 ·rw[rS,List.any_append,rS];simp only[YC,List.any_nil,a2x];exact Bool.or_comm _ _
theorem lF(q:Int×Int):cU (PP q)=b4 (dX q):=rfl
noncomputable def cD(bs:List Bool):List Int:=((Wf bs.length).filter λi=>bs.getD i b7).map λ(i:Nat)=>(i:Int)
noncomputable def eE(bs:List Bool):List Int:=((cD bs).zip ((cD bs).drop 1++((cD bs).take 1).map λs=>s+(bs.length:Int))).map λp=>(p.2-p.1)*(8/(bs.length:Int))
noncomputable def MD(m:(Int×Int)×Str):D:=.tup [PP m.1,.str m.2]
noncomputable def cK(p:Int×Int):Bool:=p.1%2==0&&p.1%4==p.2%4
theorem Tq(k:Nat)(x y:Int)(a:Hm)(Q:D×Hm->Prop):W (f (k+1) "is_corner" [P x y] a) Q↔Q (.bl (cK (x,y)),a):=by rw[RT,W_fin];simp only[w_mRet,w_mAndV,w_mOp,dH,bW,o9,w_it21,w_eqI,w_mod2,F2];unfold cK;cases x%2==0<;>simp
noncomputable def aK(ms:List ((Int×Int)×Str))(p:Int×Int):Bool:=(ms.map (·.1)).any λq=>q==p
theorem Gp:∀ms:List ((Int×Int)×Str),oQ (ms.map MD)=b4 (ms.map λm=>(dX m.1,D.str m.2))
 |[]=>rfl|m::ms=>by rw[V0,V0];show(cU (PP m.1)).bind (λk=>(oQ (ms.map MD)).map λl=>(k,D.str m.2)::l)=_;rw[Gp ms];rfl
theorem Gq(k:List Int):∀(l kvs:List (List Int×D)),(bP (l.foldl (λq p=>d8 q p.1 p.2) kvs) k).isSome=((bP kvs k).isSome||l.any λp=>decide (p.1=k))
 |[],kvs=>by simp
 |p::l,kvs=>by rw[List.foldl_cons,Gq k l,Tp,YC];cases decide (p.1=k)<;>cases(bP kvs k).isSome<;>simp
theorem Tr(p q:Int×Int):decide (dX p=dX q)=(p==q):=by rw[a0y];simp only[decide_eq_true_eq,beq_iff_eq,dX,a3m,and_true,a5x]
theorem Ts(ms:List ((Int×Int)×Str))(p:Int×Int):(bP ((ms.map λm=>(dX m.1,D.str m.2)).foldl (λq p=>d8 q p.1 p.2) []) (dX p)).isSome=aK ms p:=by rw[Gq];unfold aK;rw[a2J,a2J];show(b7||_)=_;rw[a0S];congr 1;funext m;exact Tr m.1 p
theorem w_it32{a b c:D}{d:Hm}{Q:D×Hm->Prop}:W (aG (.tup [a,b,c]) (.int 2) d) Q↔Q (c,d):=W_some
theorem w_it30{a b c:D}{d:Hm}{Q:D×Hm->Prop}:W (aG (.tup [a,b,c]) (.int 0) d) Q↔Q (a,d):=W_some
theorem w_it31{a b c:D}{d:Hm}{Q:D×Hm->Prop}:W (aG (.tup [a,b,c]) (.int 1) d) Q↔Q (b,d):=W_some
noncomputable abbrev SH(w h:Int)(ms:List ((Int×Int)×Str)):D:=.tup [.int w,.int h,.tup (ms.map MD)]
theorem Tt{ms:List ((Int×Int)×Str)}{a:Hm}{Q:D×Hm->Prop}:W (mO [.tup (ms.map MD)] a) Q↔Q (.loc a.length,a++[.dT ((ms.map λm=>(dX m.1,D.str m.2)).foldl (λq p=>d8 q p.1 p.2) [])]):=by
 have:mO [.tup (ms.map MD)] a=b4 (.loc a.length,a++[.dT ((ms.map λm=>(dX m.1,D.str m.2)).foldl (λq p=>d8 q p.1 p.2) [])]):=by simp only[mO,Gp,Wu]
 rw[this];exact W_some
theorem Gr(k:Nat)(w h:Int)(ms:List ((Int×Int)×Str))(x y:Int)(i:Hm)(Q:D×Hm->Prop)(H:∀a μ',i<+:μ'->μ'[a]?=b4 (.lst (((mv x y (bN x)).filter (aK ms)).map PP))->Q (.loc a,μ')):W (f (k+3) "creases_at" [SH w h ms,P x y] i) Q:=by
 rw[Sq,W_fin];simp only[w_mSeq,w_mSet,w_mCall,w_mCons,c8,bW,cV];rw[Sn,W_fin];simp only[w_mRet,w_mCall,w_mCons,c8,w_mOp,bW,dH,w_it32,Tt,Xu,XF];refine gC (xs:=(mv x y (bN x)).map PP) (p:=λd=>aK ms (dM d)) (v:=λd=>d) ?_;simp only[w_iSeq,w_mCall,w_mCons,c8,bW,cV];refine Gi k x y _ _ λa l e c m=>?_;refine(dQ c).mpr ⟨iS c,rfl,?_,λd μ' hd b=>?_,λd μ' hd _ b=>?_,λμ' b j=>?_⟩
 ·rw[VI,V9];unfold mv bN;rw[VI];split<;>decide
 ·obtain⟨u,v,rfl⟩:=k9 hd;simp only[Xw,XQ,w_mTest,w_mOp,bW,cV];refine(FJ (aN (e.trans b) (bK _ _)) (lF (u,v))).mpr ?_;simp only[Wq,if_false];exact⟨Ts ms (u,v),V3 _⟩
 ·simp only[Xw,XQ,bW,cV];exact⟨trivial,V3 _⟩
 ·refine H _ _ ((aX _ _).trans (e.trans b)) ?_;rw[j,pE (aK ms)]
theorem AZ(a:Hm)(q:Int×Int):∀ps:List (Int×Int),jJ a (PP q) (ps.map PP)=b4 (ps.map λp=>p==q)
 |[]=>rfl|p::ps=>by rw[V0,V0];simp only[jJ,AZ a q ps];rw[AB 6];rfl
theorem Tu{b:Hm}{a:Nat}{ps:List (Int×Int)}{q:Int×Int}{Q:D×Hm->Prop}(h:b[a]?=b4 (.lst (ps.map PP)))(d:q∈ps)(hz:ps.length<=VW):W (oJ (.loc a) [PP q] b) Q↔Q (.int (ps.idxOf q:Nat),b):=by
 have e:(ps.map λp=>p==q).findIdx id=ps.idxOf q:=by rw[List.findIdx_map];rfl
 have c:ps.idxOf q<ps.length:=a1S d;simp only[oJ,h,AZ,Wg];rw[e,VI,if_pos ⟨c,hz⟩];exact W_some
theorem Tv{es:List (Int×Int)}(d:es.Nodup){i:Nat}(a:i<es.length):es.idxOf (es.getD i (0,0))=i:=by
 have e:es.getD i (0,0)=es[i]:=by simp[W3,a]
 rw[e];have b:es.idxOf es[i]<es.length:=a1S (Yc a);have c:es[es.idxOf es[i]]=es[i]:=List.getElem_idxOf b;rcases Zz (es.idxOf es[i]) i with h|h|h
 ·exact absurd c ((XA.mp d) _ i b a h)
 ·exact h
 ·exact absurd c.symm ((XA.mp d) i _ a b h)
theorem A1{es:List (Int×Int)}(d:es.Nodup)(m:Int×Int->Bool):(es.filter m).map (λq=>((es.idxOf q:Nat):Int))=cD (es.map m):=by
 have b:es.filter m=((Wf es.length).filter λi=>m (es.getD i (0,0))).map λi=>es.getD i (0,0):=by
  conv=>lhs;rw[<- To es (0,0)]
  rw[a1G];rfl
 unfold cD;rw[b,Wo,VI];have c:(Wf es.length).filter (λi=>m (es.getD i (0,0)))=(Wf es.length).filter λi=>(es.map m).getD i false:=by refine List.filter_congr λi a=>?_;have a:=WZ.mp a;simp[W3,a]
 rw[<- c];refine X4 λi a=>?_;have a:=WZ.mp (Xk.mp a).1;show((es.idxOf (es.getD i (0,0)):Nat):Int)=_;rw[Tv d a]
theorem A2(x y:Int){l:List (Int×Int)}(h:l.Nodup):(mv x y l).Nodup:=by unfold mv;show List.Pairwise _ _;rw[Yl];refine a5O (λ{a b} c e=>c ?_) h;simp only[a5x]at e ⊢;omega
theorem A3(x:Int):(bN x).Nodup:=by unfold bN;split<;>decide
theorem vG(x:Int):(bN x).length=8\/(bN x).length=4:=by
 unfold bN;split
 ·exact .inl rfl
 ·exact .inr rfl
theorem Tw(b:List Int):jD (b.map D.int) (b4 1) b6=(b.drop 1).map D.int:=by
 cases b with
 |nil=>rfl|cons a l=>unfold jD;rw[show(1:Int)=((1:Nat):Int)from rfl,HT.sIx_nat,HT.sIx_none,VI,a1P (by simp),<- a5d,Zu (by rw[VI,Ys];omega)]
theorem Tx(b:List Int):jD (b.map D.int) b6 (b4 1)=(b.take 1).map D.int:=by
 cases b with
 |nil=>rfl|cons a l=>unfold jD;rw[show(1:Int)=((1:Nat):Int)from rfl,HT.sIx_nat,HT.sIx_none,VI,a1P (by simp),a1Z,a5L,a2v]
noncomputable def mW(a b:List Int):List D:=(a.zip b).map PP
theorem Tz{e:Hm}{a b:Nat}{c d:List Int}(j:e[a]?=b4 (.lst (c.map D.int)))(l:e[b]?=b4 (.lst (d.map D.int))):∀μ' i,e<+:μ'->qN (.loc a) (.loc b) μ' i=b4 (mW c d)[i]?:=λμ' i h=>by simp only[qN,bF,aN h j,aN h l,Wg,Wu];unfold mW List.zip;rw[V5,V5,V5,a3a];cases c[i]?<;>cases d[i]?<;>rfl
theorem Gs(k:Nat)(w h:Int)(ms:List ((Int×Int)×Str))(x y:Int)(M:Hm)(Q:D×Hm->Prop)(H:∀a μ',M<+:μ'->μ'[a]?=b4 (.lst ((eE ((mv x y (bN x)).map (aK ms))).map D.int))->Q (.loc a,μ')):W (f (k+4) "gaps_at" [SH w h ms,P x y] M) Q:=by
 have A:=vG x;have l:(mv x y (bN x)).length=(bN x).length:=by unfold mv;rw[VI]
 have hnd:=A2 x y (A3 x);rw[Ss,W_fin];simp only[w_mSeq,w_mSet,w_mCall,w_mCons,c8,bW,cV];refine Gi (k+1) x y _ _ λa1 μ1 Y N l1=>?_;simp only[Xu,XF,bW,cV];refine Gr k w h ms x y _ _ λa2 G J p=>?_;simp only[Xu,XF];have c:=aN J N;generalize hes:mv x y (bN x)=es at c p l hnd H;have B:(es.filter (aK ms)).length<=8:=WM (XS _ _) (by omega);refine gC (xs:=(es.filter (aK ms)).map PP) (p:=λ_=>b8) (v:=λd=>.int ((es.idxOf (dM d):Nat):Int)) ?_;simp only[w_iSeq,bW,cV];refine(dQ p).mpr ⟨iS p,rfl,by rw[VI,V9];omega,λd μ' hd e=>w_mTrue.mpr ⟨rfl,V3 _⟩,λd μ' hd _ e=>?_,λb K O=>?_⟩
 ·obtain⟨q,U,rfl⟩:=Wm.mp hd;refine eW ?_;simp only[Xw,XQ,bW,cV];refine⟨eX (aN e c),?_⟩;simp only[w_mCons,c8,bW,cV];exact(Tu (aN e c) (Xk.mp U).1 (by rw[V9];omega)).mpr ⟨rfl,V3 _⟩
 ·have j:b[G.length]?=b4 (.lst ((cD (es.map (aK ms))).map D.int)):=by rw[O,vD,Wo,<- A1 hnd,Wo];rfl
  have E:(cD (es.map (aK ms))).length<=8:=by rw[<- A1 hnd,VI];exact B
  generalize hix:cD (es.map (aK ms))=is at j E;simp only[w_mOp];refine FH ?_;simp only[bW,cV,uZ,dH,uY];refine⟨_,rfl,_,j,?_⟩;rw[Tw];have I:=aN (aX b (C.lst ((is.drop 1).map D.int))) j;have n:=aN (K.trans (aX b (C.lst ((is.drop 1).map D.int)))) c;refine gC (xs:=(is.take 1).map D.int) (p:=λ_=>b8) (v:=λd=>.int (m7 d+(es.length:Int))) ?_;simp only[w_iSeq];refine FH ?_;simp only[bW,cV,uZ,dH,uY];refine⟨_,rfl,_,I,?_⟩;rw[Tx];refine(dQ (bK _ _)).mpr ⟨iS (bK _ _),rfl,by rw[VI,WV,V9];omega,λd μ' hd e=>w_mTrue.mpr ⟨rfl,V3 _⟩,λd μ' hd _ e=>?_,λm Z R=>?_⟩
  ·obtain⟨i,_,rfl⟩:=Gd hd;simp only[Xw,XQ,w_mOp,bW,cV,w_mCall,w_mCons,c8];refine(dP (aN ((aX _ _).trans e) n)).mpr ?_;simp only[w_addI,VI];exact⟨rfl,V3 _⟩
  ·have L:=(aX (b++[C.lst ((is.drop 1).map D.int)]) (C.lst ((is.take 1).map D.int))).trans Z;have r:m[(b++[C.lst ((is.drop 1).map D.int)]++[C.lst ((is.take 1).map D.int)]).length]?=b4 (.lst (((is.take 1).map λs=>s+(es.length:Int)).map D.int)):=by rw[R,vD,Wo,Wo];rfl
   have u:=aN L (bK b (C.lst ((is.drop 1).map D.int)));refine(FG u r (by rw[VI,VI,VI,Ys,WV,V9];omega)).mpr ?_;rw[<- Wz];simp only[Xu,XF,w_mOp,dH,w_mCall,w_mCons,c8,bW,cV];have o:=L.trans (aX m (C.lst ((is.drop 1++(is.take 1).map λs=>s+(es.length:Int)).map D.int)));refine(dP (aN o n)).mpr ?_;rw[VI];refine(rN (by omega) (by omega)).mpr ?_;simp only[Xu,XF,w_mRet];have v:=aN o I;have z:=bK m (C.lst ((is.drop 1++(is.take 1).map λs=>s+(es.length:Int)).map D.int));generalize hjs:is.drop 1++(is.take 1).map (λs=>s+(es.length:Int))=js at v z o;have X:(mW is js).length<=8:=by unfold mW;rw[VI,a1F];omega
   have h8:8/(es.length:Int)=1\/8/(es.length:Int)=2:=by
    rcases A with h|h
    ·left;rw[l,h];rfl
    ·right;rw[l,h];rfl
   refine u7 (xs:=mW is js) (x:=λd=>[b4 (.int (dM d).1),b4 (.int (dM d).2)]) (p:=λ_=>b8) (v:=λd=>.int (((dM d).2-(dM d).1)*(8/(es.length:Int)))) ?_;refine RN ?_;simp only[w_mCons,c8,bW,cV];refine⟨_,_,_,_,rfl,v,z,Tz v z,?_,by rw[V9];omega,λd μ' hd=>?_,λd μ' hd e=>w_mTrue.mpr ⟨rfl,V3 _⟩,λd μ' hd _ e=>?_,λμ8 p8 T=>?_⟩
   ·unfold mW;simp only[VI,a1F]
   ·obtain⟨q,_,rfl⟩:=Wm.mp hd;rfl
   ·obtain⟨q,_,rfl⟩:=Wm.mp hd;simp only[Xw,XQ,w_mOp,bW,cV,w_subI];exact(kZ (.inr (by omega))).mpr ⟨rfl,V3 _⟩
   ·refine H _ _ (Y.trans (J.trans (K.trans ((aX _ _).trans (o.trans p8))))) ?_;rw[T,vD];unfold mW eE;rw[hix,VI,hjs,Wo,Wo];rfl
theorem bO{a:Type}{o:Option a}{r:a}:W o (λx=>x=r)->o=b4 r:=λ⟨_,e,q⟩=>e.trans (congrArg b4 q)
noncomputable def iW(p:Int×Int):List Int:=[p.1,p.2]
noncomputable def A4(p q:Int×Int):Int×Int:=if HT.lexLt (iW q) (iW p)then q else p
noncomputable def A5(p q:Int×Int):Int×Int:=if HT.lexLt (iW p) (iW q)then q else p
noncomputable def fR(p q:Int×Int)(a:Bool)(c:Int×Int):Ti:=(iW (A4 p q),iW (A5 p q),a,iW c)
theorem Gu(p q:Int×Int)(a:Hm):oV [PP p,PP q] a=b4 (PP (A4 p q),a):=by show b4 (if HT.lexLt (iW q) (iW p)then PP q else PP p,a)=_;unfold A4;split<;>rfl
theorem Gv(p q:Int×Int)(a:Hm):uF [PP p,PP q] a=b4 (PP (A5 p q),a):=by show b4 (if HT.lexLt (iW p) (iW q)then PP q else PP p,a)=_;unfold A5;split<;>rfl
theorem Gw{n:Nat}(h:n=4):n<=VW:=by rw[h];decide
theorem A6(k:Nat)(p q:Int×Int)(a:Bool)(c:Int×Int)(b:Hm)(Q:D×Hm->Prop)(H:Q (a8 (fR p q a c),b)):W (f (k+1) "tie_of" [PP p,PP q,.bl a,PP c] b) Q:=
 cI (Sx k _ _ _ _ b) (cJ (w_mTup.mpr (bJ (aP rfl (bB (Gu p q b) (bJ (aP rfl (bB (Gv p q b) ⟨_,rfl,Gw rfl,H⟩))))))))
theorem vH{xs:List D}{i:Nat}{d:D}(e:xs[i]?=b4 d):atI xs (i:Int)=b4 d:=by have a:=(VN.mp e).1;unfold atI;rw[Gb (by omega) (by omega)];simpa using e
theorem Gx{xs:List D}{i:Nat}(h:i<xs.length):atI xs ((i:Int)-1)=xs[(i+(xs.length-1))%xs.length]?:=by
 unfold atI jA;cases i with
 |zero=>
  rw[if_neg (by omega),if_pos (by omega)];have e:(((0:Nat):Int)-1+xs.length).toNat=(0+(xs.length-1))%xs.length:=by rw[a1B (by omega)];omega
  rw[e];rfl
 |succ i=>
  rw[if_pos (by omega),if_pos (by omega)];have e:(((i+1:Nat):Int)-1).toNat=(i+1+(xs.length-1))%xs.length:=by
   have:i+1+(xs.length-1)=i+xs.length:=by omega
   rw[this,Nat.add_mod_right,a1B (by omega)];omega
  rw[e];rfl
theorem rV{gs:List Int}{i:Nat}(h:i<gs.length):(gs.map D.int)[i]?=b4 (.int (gs.getD i 0)):=by rw[V5,VT h];simp[W3,h]
theorem TB{cr:List (Int×Int)}{i:Nat}(h:i<cr.length):(cr.map PP)[i]?=b4 (PP (cr.getD i (0,0))):=by rw[V5,VT h];simp[W3,h]
noncomputable def gZ(gs:List Int)(i:Nat):Bool:=decide (gs.getD i 0<gs.getD ((i+(gs.length-1))%gs.length) 0)&&decide (gs.getD i 0<gs.getD ((i+1)%gs.length) 0)
theorem vJ(i n:Nat):((i:Int)+1)%(n:Int)=(((i+1)%n:Nat):Int):=by simp[a4J]
theorem TC(k:Nat){a:Nat}{gs:List Int}{b:Hm}(g:b[a]?=b4 (.lst (gs.map D.int))){i:Nat}(h:i<gs.length)(Q:D×Hm->Prop)(H:Q (.bl (gZ gs i),b)):W (f (k+1) "is_least" [.loc a,.int i] b) Q:=by
 have q:(i+(gs.length-1))%gs.length<gs.length:=Zk _ (by omega);have s:(i+1)%gs.length<gs.length:=Zk _ (by omega);have j:∀{c},c=b->aG (.loc a) (.int i) c=b4 (.int (gs.getD i 0),c):=λe=>by subst e;exact bO ((f9 g (vH (rV h))).mpr rfl)
 have m:aG (.loc a) (.int ((i:Int)-1)) b=b4 (.int (gs.getD ((i+(gs.length-1))%gs.length) 0),b):=bO ((f9 g (by
  rw[Gx (by rw[VI];exact h),VI];exact rV q)).mpr rfl)
 have n:aG (.loc a) (.int (((i:Int)+1)%(gs.length:Nat))) b=b4 (.int (gs.getD ((i+1)%gs.length) 0),b):=bO ((f9 g (by rw[vJ];exact vH (rV s))).mpr rfl);refine cI (Sy k _ _ b) (cJ (w_mAndV.mpr (aW (bY rfl rfl ⟨_,j rfl,aW ⟨_,rfl,bY rfl rfl (w_subI.mpr ⟨_,m,w_ltI.mpr ?_⟩)⟩⟩))));unfold gZ at H;have d:W (aC dD (aC aG (aA 0) (aA 1)) (aC aG (aA 0) (aC aV (aC bC (aA 1) (mC (.int 1))) (aF bH (aB (aA 0) aD)))) [b4 (.loc a),b4 (.int i)] b) λp=>p=(.bl (decide (gs.getD i 0<gs.getD ((i+1)%gs.length) 0)),b):=by refine aW (bY rfl rfl ⟨_,j rfl,aW ⟨_,rfl,aW (bY rfl rfl (w_addI.mpr (aP rfl ((dP g).mpr ?_))))⟩⟩);rw[VI];exact(dW (by omega)).mpr ⟨_,n,w_ltI.mpr rfl⟩
 cases l:decide (gs.getD i 0<gs.getD ((i+(gs.length-1))%gs.length) 0)with
 |true=>rw[l,a5e]at H;obtain⟨r,o,rfl⟩:=d;exact(if_pos rfl).mpr ⟨_,o,H⟩|false=>rw[l,a4P]at H;exact(if_neg VZ).mpr H
noncomputable def iX(cr:List (Int×Int))(c:Int×Int)(i:Nat):List Ti:=fR (cr.getD i (0,0)) (cr.getD ((i+1)%cr.length) (0,0)) b7 c::(if cr.length=4 then[fR (cr.getD ((i+2)%4) (0,0)) (cr.getD ((i+3)%4) (0,0)) b8 c]else[])
theorem fH{b:Hm}{a:Nat}{cr:List (Int×Int)}(g:b[a]?=b4 (.lst (cr.map PP))){i:Nat}(h:i<cr.length):aG (.loc a) (.int (i:Int)) b=b4 (PP (cr.getD i (0,0)),b):=bO ((f9 g (vH (TB h))).mpr rfl)
theorem TF(k:Nat){a:Nat}{cr:List (Int×Int)}{b:Hm}(g:b[a]?=b4 (.lst (cr.map PP))){i:Nat}(h:i<cr.length)(c:Int×Int)(Q:D×Hm->Prop)(H:∀l μ',b<+:μ'->μ'[l]?=b4 (.lst ((iX cr c i).map a8))->Q (.loc l,μ')):W (f (k+2) "ties_of_gap" [.loc a,.int i,PP c] b) Q:=by
 have q:(i+1)%cr.length<cr.length:=Zk _ (by omega);have m:aG (.loc a) (.int (((i:Int)+1)%(cr.length:Nat))) b=b4 (PP (cr.getD ((i+1)%cr.length) (0,0)),b):=by rw[vJ];exact fH g q
 have p:bH [.loc a] b=b4 (.int (cr.length:Nat),b):=bO ((dP g).mpr (by rw[VI]));refine cI (Sz (k+1) _ _ _ b) (a9 (aP rfl (bB p (a9 (w_mLst.mpr (bJ (jQ (bJ (bY rfl rfl ⟨_,fH g h,bJ (aW ⟨_,rfl,aW (bY rfl rfl (w_addI.mpr ⟨_,rfl,(dW (by omega)).mpr ⟨_,m,_,rfl,?_⟩⟩))⟩)⟩)))))))));refine A6 k _ _ _ _ _ _ ⟨_,rfl,F3,?_⟩;have gl:=bK b (C.lst [a8 (fR (cr.getD i (0,0)) (cr.getD ((i+1)%cr.length) (0,0)) b7 c)]);have j:=aN (aX b (C.lst [a8 (fR (cr.getD i (0,0)) (cr.getD ((i+1)%cr.length) (0,0)) b7 c)])) g;refine gD (b:=((cr.length:Nat):Int)==4) (μ':=b++[C.lst [a8 (fR (cr.getD i (0,0)) (cr.getD ((i+1)%cr.length) (0,0)) b7 c)]]) (bO (dR (bY rfl rfl (w_eqI.mpr ⟨_,rfl,rfl⟩)))) (λd=>?_) λd=>eC (cJ ⟨_,rfl,H _ _ (aX _ _) ?_⟩)
 ·have d:cr.length=4:=by have:=beq_iff_eq.mp d;omega
  have r:(i+2)%4<cr.length:=by omega
  have s:(i+3)%4<cr.length:=by omega
  have n:∀{ν:Hm},ν[a]?=b4 (.lst (cr.map PP))->aG (.loc a) (.int (((i:Int)+2)%4)) ν=b4 (PP (cr.getD ((i+2)%4) (0,0)),ν):=λe=>by rw[show((i:Int)+2)%4=(((i+2)%4:Nat):Int) by omega];exact fH e r
  have o:∀{ν:Hm},ν[a]?=b4 (.lst (cr.map PP))->aG (.loc a) (.int (((i:Int)+3)%4)) ν=b4 (PP (cr.getD ((i+3)%4) (0,0)),ν):=λe=>by rw[show((i:Int)+3)%4=(((i+3)%4:Nat):Int) by omega];exact fH e s
  refine k7 (eW ⟨_,rfl,eX gl,bJ (jQ (bJ (aW ⟨_,rfl,aW (bY rfl rfl (w_addI.mpr ⟨_,rfl,(dW (by decide)).mpr ⟨_,n j,bJ (aW ⟨_,rfl,aW (bY rfl rfl (w_addI.mpr ⟨_,rfl,(dW (by decide)).mpr ⟨_,o j,_,rfl,?_⟩⟩))⟩)⟩⟩))⟩)))⟩);refine A6 k _ _ _ _ _ _ ⟨_,rfl,(iT gl (by show(1:Nat)<VW;decide)).mpr (cJ ⟨_,rfl,H _ _ (iD (aX _ _) (VS _) _) ?_⟩)⟩;rw[eD gl];unfold iX;rw[if_pos d];rfl
 ·have d:¬ cr.length=4:=λz=>by rw[z]at d;cases d
  unfold iX;rw[if_neg d];exact gl
noncomputable def aZ(m:Int×Int->Bool)(p:Int×Int):List (Int×Int):=(mv p.1 p.2 (bN p.1)).filter m
noncomputable def bQ(m:Int×Int->Bool)(p:Int×Int):List Int:=eE ((mv p.1 p.2 (bN p.1)).map m)
theorem jS(m:Int×Int->Bool)(p:Int×Int):(bQ m p).length=(aZ m p).length:=by have e:=congrArg Xc (A1 (A2 p.1 p.2 (A3 p.1)) m);rw[VI]at e;unfold bQ eE aZ;rw[VI,a1F,V1,VI,Ys,WV,e];omega
theorem pG(m:Int×Int->Bool)(p:Int×Int):(aZ m p).length<=8:=by refine WM (XS _ _) ?_;have:(mv p.1 p.2 (bN p.1)).length=(bN p.1).length:=VI ..;have:=vG p.1;omega
noncomputable def hG(m:Int×Int->Bool)(p:Int×Int)(i:Nat):List Ti:=if gZ (bQ m p) i then iX (aZ m p) p i else[]
noncomputable def fJ(m:Int×Int->Bool)(p:Int×Int):List Ti:=if(aZ m p).length=2 then[fR ((aZ m p).getD 0 (0,0)) ((aZ m p).getD 1 (0,0)) b8 p]else(Wf (aZ m p).length).flatMap (hG m p)
theorem A7(m:Int×Int->Bool)(p:Int×Int)(i:Nat):(hG m p i).length<=2:=by
 unfold hG iX;split
 ·split<;>simp
 ·simp
theorem mX{a b:Type}{f:a->List b}{n:Nat}(h:∀x,(f x).length<=n):∀l:List a,(l.flatMap f).length<=n*l.length
 |[]=>by simp
 |x::l=>by have c:=mX h l;have d:=h x;rw[List.flatMap_cons,V1,Wc,Nat.mul_succ];omega
theorem A8(m:Int×Int->Bool)(p:Int×Int):(fJ m p).length<=16:=by
 unfold fJ;split
 ·simp
 ·have a:=mX (A7 m p) (Wf (aZ m p).length);rw[WW]at a;have:=pG m p;omega
inductive TaI (a0 a1 a2 a3:Option D)(l:Nat)(ν:Hm)(F:Nat->List Ti):Nat->aE->Hm->Prop
 |mk {i:Nat}{x:Option D}{μ:Hm}(p:ν<+:μ)(g:μ[l]?=b4 (.lst (((Wf i).flatMap F).map a8))):TaI a0 a1 a2 a3 l ν F i [a0,a1,a2,a3,b4 (.loc l),x] μ
theorem TH(k:Nat)(w h:Int)(ms:List ((Int×Int)×Str))(p:Int×Int)(q:Hm)(Q:D×Hm->Prop)(H:∀l μ',q<+:μ'->μ'[l]?=b4 (.lst ((fJ (aK ms) p).map a8))->Q (.loc l,μ')):W (f (k+6) "ties_at" [SH w h ms,PP p] q) Q:=by
 refine cI (SA (k+5) _ _ q) (a9 (aP rfl (Gr (k+2) w h ms p.1 p.2 q _ λa n R r=>a9 (aP rfl (Gs (k+1) w h ms p.1 p.2 n _ λb c E o=>?_)))));replace r:n[a]?=b4 (.lst ((aZ (aK ms) p).map PP)):=r;replace o:c[b]?=b4 (.lst ((bQ (aK ms) p).map D.int)):=o;have m:=aN E r;have O:=jS (aK ms) p;have X:=pG (aK ms) p;have M:bH [.loc a] c=b4 (.int ((aZ (aK ms) p).length:Nat),c):=bO ((dP m).mpr (by rw[VI]));have I:=R.trans E;refine gD (b:=(((aZ (aK ms) p).length:Nat):Int)==2) (μ':=c) (bO (dR (aW (aP rfl (bB M ⟨_,rfl,w_eqI.mpr ⟨_,rfl,rfl⟩⟩))))) (λe=>?_) λe=>eC ?_
 ·have e:(aZ (aK ms) p).length=2:=by have:=beq_iff_eq.mp e;omega
  refine k8 (w_mLst.mpr (bJ (jQ (bJ (bY rfl rfl ⟨_,fH (i:=0) m (by omega),bJ (bY rfl rfl ⟨_,fH (i:=1) m (by omega),_,rfl,?_⟩)⟩)))));refine A6 (k+4) _ _ _ _ _ _ ⟨_,rfl,F3,H _ _ (I.trans (aX _ _)) ?_⟩;unfold fJ;rw[if_pos e];exact bK _ _
 ·have e:¬ (aZ (aK ms) p).length=2:=λz=>by rw[z]at e;cases e
  have N:=aN (aX c (C.lst [])) m;have gB:=aN (aX c (C.lst [])) o;have L:bH [.loc a] (c++[C.lst []])=b4 (.int ((aZ (aK ms) p).length:Nat),c++[C.lst []]):=bO ((dP N).mpr (by rw[VI]));refine a9 (w_mLst.mpr ⟨_,rfl,Yb _,eY (w_mForI.mpr ((mS (j:=0)).mpr (bJ (aP rfl (bB L ⟨_,rfl,⟨by omega,by omega⟩,?_⟩)))))⟩);dsimp only;rw[XN];refine j8 (TaI (b4 (SH w h ms)) (b4 (PP p)) (b4 (.loc a)) (b4 (.loc b)) c.length c (hG (aK ms) p)) (.mk (aX _ _) (bK _ _)) ?_ ?_
  ·rintro i u s B ⟨j,d⟩;refine⟨_,rfl,?_⟩;rw[ZA];refine w_mIfS.mpr (gX (aP rfl (TC (k+4) (aN j o) (by rw[O];exact B) _ ⟨rfl,?_⟩)));have v:(Wf (i+1)).flatMap (hG (aK ms) p)=(Wf i).flatMap (hG (aK ms) p)++hG (aK ms) p i:=by rw[Zc,Y3];simp
   have J:=mX (A7 (aK ms) p) (Wf i);rw[WW]at J;cases A:gZ (bQ (aK ms) p) i with
   |false=>refine(if_neg VZ).mpr (w_mNext.mpr (.mk j ?_));rw[v];unfold hG at d ⊢;rw[A,if_neg VZ,X1];exact d|true=>
    refine(if_pos rfl).mpr (w_mDrop.mpr (eW ⟨_,rfl,eX d,bJ (aP rfl (TF (k+3) (aN j m) B p _ λl T G x=>⟨_,rfl,?_⟩))⟩));have K:iX (aZ (aK ms) p) p i=hG (aK ms) p i:=by unfold hG;rw[A,if_pos rfl]
    rw[K]at x;have U:=A7 (aK ms) p i;have y:=aN G d;refine(uX y x (by rw[VI,VI,V9];omega)).mpr (.mk (iD (j.trans G) (VS _) _) ?_);rw[eD y,v,Wz]
  ·rintro u s ⟨j,d⟩;refine⟨rfl,cJ ⟨_,rfl,H _ _ (I.trans j) ?_⟩⟩;unfold fJ;rw[if_neg e];exact d
theorem A9(k:Nat){w h:Int}(hw:1<=w/\w<=6)(m:1<=h/\h<=6)(c:Hm)(Q:D×Hm->Prop)(H:∀a μ',c<+:μ'->μ'[a]?=b4 (.lst (((cE w h).filter cK).map PP))->Q (.loc a,μ')):W (f (k+2) "corners_in" [.int w,.int h] c) Q:=by
 refine cI (Sj (k+1) _ _ c) (cJ (gC (xs:=(cE w h).map PP) (p:=λd=>cK (dM d)) (v:=λd=>d) (w_iSeq.mpr (aP rfl (AX _ w h (by omega) (by omega) _ _ λa l j e n=>?_)))));refine(dQ e).mpr ⟨iS e,rfl,?_,λd μ' hd b=>?_,λd μ' hd _ b=>⟨_,rfl,rfl,V3 _⟩,λμ' b i=>?_⟩
 ·have:=vF (w:=w) (h:=h) (by omega) (by omega);rw[VI,V9];omega
 ·obtain⟨u,v,rfl⟩:=k9 hd;exact gX (aP rfl ((Tq k u v _ _).mpr ⟨rfl,rfl,V3 _⟩))
 ·refine H _ _ (j.trans b) ?_;rw[i,pE cK]
theorem Gy{a:Type}{l A B:List a}{x:a}{q:a->Bool}(b:l=A++x::B)(hA:∀y∈A,q y=b7)(c:q x=b8):l.find? q=b4 x:=by
 rw[b,List.find?_append];have:A.find? q=none:=Yv.mpr λy d=>by rw[hA y d];exact VZ
 rw[this,List.find?_cons_of_pos c];rfl
theorem Gz{a:Type}{l:List a}{i:Nat}{x:a}(h:l[i]?=b4 x):l=l.take i++x::l.drop (i+1):=by obtain⟨b,rfl⟩:=VN.mp h;rw[<- a0b b,Yh]
noncomputable def GA:Option (Int×Int)->D
 |none=>.non|some p=>PP p
noncomputable def bA(w h:Int):List (Int×Int):=(cE w h).filter cK
noncomputable def c9(m:Int×Int->Bool)(p:Int×Int):Bool:=!(eP (bQ m p))
inductive BaI (ms:List ((Int×Int)×Str))(w h:Int)(cs:List (Int×Int))(q:Int×Int->Bool)(ν:Hm):Nat->aE->Hm->Prop
 |mk {i:Nat}{x:Option D}{μ:Hm}(p:ν<+:μ)(ok:∀z∈cs.take i,q z=b7):BaI ms w h cs q ν i [b4 (SH w h ms),x] μ
theorem GB{b:List (Int×Int)}{q:Int×Int->Bool}{i:Nat}{z:Int×Int}(ok:∀y∈b.take i,q y=b7)(hz:b[i]?=b4 z)(c:q z=b7):∀y∈b.take (i+1),q y=false:=λy a=>by
 rw[YV,hz]at a;rcases Xa.mp a with a|a
 ·exact ok y a
 ·have:y=z:=by simpa using a
  rw[this];exact c
theorem GC(k:Nat){w h:Int}(hw:1<=w/\w<=6)(x:1<=h/\h<=6)(ms:List ((Int×Int)×Str))(l:Hm)(Q:D×Hm->Prop)(H:∀μ',l<+:μ'->Q (GA ((bA w h).find? (c9 (aK ms))),μ')):W (f (k+5) "barred" [SH w h ms] l) Q:=by
 refine cI (Su (k+4) _ l) (w_mSeq.mpr (w_mForI.mpr (w_iSeq.mpr (aP rfl (A9 (k+2) hw x _ _ λa m r o=>(dQ o).mpr ?_)))));refine jP (xs:=(bA w h).map PP) (BaI ms w h (bA w h) (c9 (aK ms)) m) (.mk (V3 _) λz j=>by simp at j) (by rintro _ _ _ ⟨p,_⟩;exact aN p o) ?_ ?_
 ·rintro i d G n hd ⟨c,ok⟩;obtain⟨z,j,rfl⟩:=mV hd;refine⟨_,rfl,w_mIfS.mpr (mT (gX (b:=eP (bQ (aK ms) z)) (jQ (bJ (aP rfl (Gs k w h ms z.1 z.2 _ _ λb B s v=>⟨_,rfl,?_⟩))))))⟩;refine Tg (k+2) b (bQ (aK ms) z) (by have:=jS (aK ms) z;have:=pG (aK ms) z;omega) _ _ v λE u=>⟨rfl,?_⟩;cases q:eP (bQ (aK ms) z)with
  |true=>exact(if_neg VZ).mpr (w_mNext.mpr (.mk (c.trans (s.trans u)) (GB ok j (by unfold c9;rw[q];rfl))))|false=>have e:=Gy (q:=c9 (aK ms)) (Gz j) ok (by unfold c9;rw[q];rfl);rw[e]at H;exact(if_pos rfl).mpr (w_mRet.mpr ⟨_,rfl,H _ (r.trans (c.trans (s.trans u)))⟩)
 ·rintro G n ⟨c,ok⟩;rw[VI,XH]at ok;have e:(bA w h).find? (c9 (aK ms))=none:=Yv.mpr λy A=>by rw[ok y A];exact VZ
  rw[e]at H;exact cJ ⟨_,rfl,H _ (r.trans c)⟩
noncomputable def iY(m:Int×Int->Bool)(w h:Int):List Ti:=(bA w h).flatMap (fJ m)
noncomputable def lG(ts:List Ti):List Ti:=(cP (j6 ts) ts.length).map λi=>ts.getD i jL
theorem GD:∀ts:List Ti,qX (ts.map a8)=b4 ts
 |[]=>rfl|t::ts=>by
  have h:qW (a8 t)=b4 t:=by show(cU (.tup (t.1.map D.int))).bind (λk=>(cU (.tup (t.2.1.map D.int))).bind λm=>(cU (.tup (t.2.2.2.map D.int))).map λn=>(k,m,t.2.2.1,n))=_;rw[AH,AH,AH];rfl
  show(qW (a8 t)).bind (λx=>(qX (ts.map a8)).map (x::·))=_;rw[h,GD ts];rfl
theorem GF{b:Hm}{a:Nat}{ts:List Ti}(g:b[a]?=b4 (.lst (ts.map a8)))(h:ts.length<64):kT [.loc a] b=b4 (.loc b.length,b++[.lst ((lG ts).map a8)]):=by
 have e:eK b (.loc a)=b4 (ts.map a8):=by simp only[eK,g]
 simp only[kT,e,Wg,GD,if_pos h];have d:(cP (j6 ts) ts.length).map (λi=>(ts.map a8).getD i .non)=(lG ts).map a8:=by unfold lG;rw[Wo];refine X4 λi c=>?_;have c:i<ts.length:=WZ.mp ((j0 _ _).mem_iff.mp c);simp[W3,c]
 rw[d]
theorem TJ(k:Nat){w h:Int}(hw:1<=w/\w<=6)(c:1<=h/\h<=6){ms:List ((Int×Int)×Str)}(b:(bA w h).find? (c9 (aK ms))=b6)(a:Hm)(Q:D×Hm->Prop)(H:∀μ',a<+:μ'->Q (.non,μ')):W (f (k+6) "check_corners" [SH w h ms] a) Q:=by refine cI (Sv (k+5) _ a) (a9 (aP rfl (GC k hw c ms _ _ λμ' d=>?_)));rw[b];exact w_mIfS.mpr (dR (bY rfl rfl (w_isnotNN.mpr ⟨_,rfl,(if_neg VZ).mpr (w_mNext.mpr (H _ d))⟩)))
inductive TzI (ms:List ((Int×Int)×Str))(w h:Int)(l:Nat)(ν:Hm):Nat->aE->Hm->Prop
 |mk {i:Nat}{x:Option D}{μ:Hm}(p:ν<+:μ)(g:μ[l]?=b4 (.lst ((((bA w h).take i).flatMap (fJ (aK ms))).map a8))):TzI ms w h l ν i [b4 (SH w h ms),b4 (.loc l),x] μ
theorem TK{w h:Int}(hw:1<=w/\w<=6)(c:1<=h/\h<=6):(bA w h).length<=1000:=by have a:=vF (w:=w) (h:=h) (by omega) (by omega);have b:=XS cK (cE w h);unfold bA;omega
theorem GG(k:Nat){w h:Int}(hw:1<=w/\w<=6)(o:1<=h/\h<=6){ms:List ((Int×Int)×Str)}(B:(bA w h).find? (c9 (aK ms))=b6)(E:(iY (aK ms) w h).length<64)(n:Hm)(Q:D×Hm->Prop)(H:∀l μ',n<+:μ'->n.length<=l->μ'[l]?=b4 (.lst ((lG (iY (aK ms) w h)).map a8))->Q (.loc l,μ')):W (f (k+7) "ties" [SH w h ms] n) Q:=by
 refine cI (SD (k+6) _ n) (k7 (aP rfl (TJ k hw o B _ _ λb q=>a9 (w_mLst.mpr ⟨_,rfl,Yb _,eY (w_mForI.mpr (w_iSeq.mpr (aP rfl (A9 (k+4) hw o _ _ λa J r c=>(dQ c).mpr ?_))))⟩))));have G:=q.trans (aX b (C.lst []));have hc:=TK hw o;have j:a≠b.length\/bA w h=[]:=by
  by_cases z:a=b.length
  ·right;have I:=aN r (bK b (C.lst []));rw[z,I]at c;injection c with c;injection c with c;exact List.map_eq_nil_iff.mp c.symm
  ·exact .inl z
 refine jP (xs:=(bA w h).map PP) (λi v μ'=>TzI ms w h b.length b i v μ'/\μ'[a]?=b4 (.lst ((bA w h).map PP))) ⟨.mk ((aX _ _).trans r) (aN r (bK _ _)),c⟩ (by rintro _ _ _ ⟨_,g⟩;exact g) ?_ ?_
 ·rintro i d L u hd ⟨⟨m,e⟩,A⟩;obtain⟨z,p,rfl⟩:=mV hd;refine⟨_,rfl,w_mDrop.mpr (eW ⟨_,rfl,eX e,bJ (aP rfl (TH k w h ms z _ _ λl K s y=>⟨_,rfl,?_⟩))⟩)⟩;have x:=aN s e;have M:=mX (A8 (aK ms)) ((bA w h).take i);have N:=A8 (aK ms) z;have O:=List.length_take_le i (bA w h);have R:=a3j i (bA w h);refine(uX x y (by rw[VI,VI,V9];omega)).mpr ⟨.mk (iD (m.trans s) (VS _) _) ?_,?_⟩
  ·rw[eD x,YV,p];simp
  ·rcases j with j|j
   ·rw[Wl (WG j)];exact aN s A
   ·rw[j]at p;cases p
 ·rintro L u ⟨⟨m,e⟩,_⟩;rw[VI,XH]at e;exact⟨rfl,cJ (aP rfl (bB (GF (ts:=iY (aK ms) w h) e E) (H _ _ ((q.trans m).trans (aX _ _)) (WM q.length_le m.length_le) (bK _ _))))⟩
noncomputable abbrev bX(c:Int×Int):Xn:=(("Barred":Str),[(("corner":Str),PP c)])
theorem TL(k:Nat){w h:Int}(hw:1<=w/\w<=6)(d:1<=h/\h<=6){ms:List ((Int×Int)×Str)}{c:Int×Int}(b:(bA w h).find? (c9 (aK ms))=b4 c)(a:Hm):W (g (k+6) "check_corners" [SH w h ms] a) λq=>q.1=bX c/\a<+:q.2:=by rw[Sw,FK];refine RR rfl ?_;refine w_mSet.mpr (aP rfl (GC k hw d ms _ _ λi e=>⟨rfl,?_⟩));rw[b];refine u9 (w_rIf.mpr (dR (bY rfl rfl (w_isnotTN.mpr ⟨_,rfl,?_⟩))));rw[if_pos rfl];exact u9 (w_rRaiseI.mpr ⟨_,rfl,rfl,e⟩)
theorem TM(k:Nat){w h:Int}(hw:1<=w/\w<=6)(d:1<=h/\h<=6){ms:List ((Int×Int)×Str)}{c:Int×Int}(b:(bA w h).find? (c9 (aK ms))=b4 c)(a:Hm):W (g (k+7) "ties" [SH w h ms] a) λq=>q.1=bX c/\a<+:q.2:=by rw[SE,FK];exact u9 (w_rCall.mpr ⟨_,rfl,TL k hw d b a⟩)
theorem GH{s t:MT}{b c:Bool}{d:aE}{a:Hm}(e:s d a=b4 (b,a))(h:t d a=b4 (c,a)):fT s t d a=b4 (b&&c,a):=bO (w_mAndT.mpr ⟨_,e,by
 cases b with
 |true=>exact(if_pos rfl).mpr ⟨_,h,rfl⟩
 |false=>exact(if_neg VZ).mpr rfl⟩)
theorem TN{d0:Option D}{a:Nat}{x y:Int}{L:List (Int×Int)}{b:Hm}(g:b[a]?=b4 (.lst (L.map PP)))(d:L.length<1000){R:Fl×aE×Hm->Prop}(H:R (.nx,[d0,b4 (.loc a),b4 (.int x),b4 (.int y)],b.set a (.lst ((L++[(x,y)].filter cK).map PP)))):W (o8 [d0,b4 (.loc a),b4 (.int x),b4 (.int y)] b) R:=by
 refine w_mIfS.mpr ⟨_,GH (b:=x%2==0) (c:=x%4==y%4) (by kernel_rfl) (by kernel_rfl),?_⟩;have e:(x%2==0&&x%4==y%4)=cK (x,y):=rfl;rw[e];cases c:cK (x,y)with
 |true=>rw[a2B c,a4H,Wz]at H;exact(if_pos rfl).mpr (w_mDrop.mpr (eW ⟨_,rfl,eX g,bJ ⟨_,rfl,_,rfl,(iT g (by rw[VI,V9];omega)).mpr H⟩⟩))|false=>rw[a2C (by rw[c];exact VZ),a4H,X1,pF g]at H;exact(if_neg VZ).mpr (w_mNext.mpr H)
inductive RoI (d0:Option D)(a:Nat)(F:Nat->List (Int×Int))(x:Option D)(ν:Hm):Nat->aE->Hm->Prop
 |mk {i:Nat}{o:Option D}{μ:Hm}(e:μ=ν.set a (.lst ((F i).map PP))):RoI d0 a F x ν i [d0,b4 (.loc a),x,o] μ
inductive RuI (d0:Option D)(a:Nat)(F:Nat->List (Int×Int))(ν:Hm):Nat->aE->Hm->Prop
 |mk {i:Nat}{o o':Option D}{μ:Hm}(e:μ=ν.set a (.lst ((F i).map PP))):RuI d0 a F ν i [d0,b4 (.loc a),o,o'] μ
theorem set_two'{ν:Hm}{a:Nat}{x y:C}:(ν.set a x).set a y=ν.set a y:=by simp
theorem GI(k:Nat){w h:Int}(hw:1<=w/\w<=6)(q:1<=h/\h<=6)(ms:List ((Int×Int)×Str))(a:Hm)(Q:D×Hm->Prop)(H:Q (.loc a.length,a++[.lst ((bA w h).map PP)])):W (f (k+1) "_law_inner" [SH w h ms] a) Q:=by
 have fin:∀w∈[(1:Int),2,3,4,5,6],∀h∈[(1:Int),2,3,4,5,6],(jR 1 (4*w-1).toNat (4*h-1).toNat).filter cK=bA w h:=by decide +kernel
 have e:∀{z:Int},1<=z/\z<=6->z∈[(1:Int),2,3,4,5,6]:=λ{z} v=>by
  have:z=1\/z=2\/z=3\/z=4\/z=5\/z=6:=by omega
  simpa using this
 rw[<- fin w (e hw) h (e q)]at H;refine cI (SY k _ a) (a9 (w_mLst.mpr ⟨_,rfl,Yb _,eY (w_mForI.mpr (w_iRng2.mpr (bJ ⟨_,rfl,bJ (aW ⟨_,rfl,bY rfl rfl (w_it30.mpr (w_mul4.mpr ⟨_,rfl,⟨by omega,by omega,by omega⟩,?_⟩))⟩)⟩)))⟩));have sz:(4*h-1).toNat<=23/\(4*w-1).toNat<=23:=by omega
 generalize(4*w-1).toNat=n at H sz;generalize hm:(4*h-1).toNat=m at H sz;refine j8 (RuI (b4 (SH w h ms)) a.length (λi=>(jR 1 i m).filter cK) (a++[C.lst []])) (.mk (pF (bK _ _)).symm) ?_ ?_
 ·rintro i d b s ⟨rfl⟩;refine⟨_,rfl,w_mForI.mpr (w_iRng2.mpr (bJ ⟨_,rfl,bJ (aW ⟨_,rfl,bY rfl rfl (w_it31.mpr (w_mul4.mpr ⟨_,rfl,⟨by omega,by omega,by omega⟩,?_⟩))⟩)⟩))⟩;rw[hm];refine j8 (b:=o8) (RoI (b4 (SH w h ms)) a.length (λj=>(jR 1 i m).filter cK++(iV 1 (1+(i:Int)) j).filter cK) (b4 (.int (1+(i:Int)))) (a++[C.lst []])) (.mk (by show _=_;simp[iV])) ?_ ?_
  ·rintro j d c u ⟨rfl⟩;have p:=eD (c':=C.lst (((jR 1 i m).filter cK++(iV 1 (1+(i:Int)) j).filter cK).map PP)) (bK a (C.lst []));have l:=XS cK (jR 1 i m);have o:=XS cK (iV 1 (1+(i:Int)) j);rw[Gn]at l;rw[Gm]at o;have r:=a5c (show i<=23 by omega) (show m<=23 by omega);refine⟨_,rfl,TN p (by rw[V1];omega) (.mk ?_)⟩;rw[set_two',Tj,Yw,a0e]
  ·rintro d c ⟨rfl⟩;refine .mk ?_;rw[Gk,Yw]
 ·rintro d b ⟨rfl⟩;refine⟨rfl,cJ ⟨_,rfl,?_⟩⟩;rw[Tn];exact H
theorem Ba{b:Bool}{c:Hm}{a:Nat}{ps:List (Int×Int)}{q:Int×Int}{Q:D×Hm->Prop}(h:c[a]?=b4 (.lst (ps.map PP))):W (dE b (PP q) (.loc a) c) Q↔Q (.bl (if b then !(ps.any λp=>p==q)else ps.any λp=>p==q),c):=by
 have e:dE b (PP q) (.loc a) c=b4 (.bl (if b then !(ps.any λp=>p==q)else ps.any λp=>p==q),c):=by
  simp only[dE,h];unfold mB;have e:bF c (.loc a)=b4 (ps.map PP):=by simp only[bF,h]
  rw[e];show(jZ c (PP q) (ps.map PP)).map _=_;rw[Gj];rfl
 rw[e];exact W_some
noncomputable def nI:D->Int
 |.int i=>i|_=>0
theorem TQ{z:Int×Int}(h:cK z=b8):z.1%4=0\/z.1%4=2:=by
 unfold cK at h;have:z.1%2=0:=by simpa using(Ym.mp h).1
 omega
section
variable{μ:Hm}{a0 a3 a4 a5 a6 a7:Option D}{z:Int×Int}
theorem TR(hz:cK z=b8){s:Nat}(g:μ[s]?=b4 (.lst (E8.map PP))){R:Fl×aE×Hm->Prop}(H:∀s μ',μ<+:μ'->μ'[s]?=b4 (.lst ((bN z.1).map PP))->R (.nx,[a0,b4 (PP z),b4 (.loc s),a3,a4,a5,a6,a7],μ')) :
  W (bG (aS (aC (aY b7) (aC aV (aC aG (aA 1) (mC (.int 0))) (mC (.int 4))) (mC (.int 2)))) (aL 2 (eJ (oK (aB (mC (.int 1)) (aB (mC (.int 8)) (aB (mC (.int 2)) aD)))) dU (aC aG (aA 2) (aA 8)))) bI [a0,b4 (PP z),b4 (.loc s),a3,a4,a5,a6,a7] μ) R:=by
 refine w_mIfS.mpr ⟨(z.1%4==2,μ),by kernel_rfl,?_⟩;rcases TQ hz with e|e
 ·rw[e];refine(if_neg (show ¬ ((0:Int)==2)=b8 by decide)).mpr (w_mNext.mpr (H s μ (V3 _) ?_));unfold bN;rw[if_pos e];exact g
 ·rw[e];refine(if_pos rfl).mpr (w_mSet.mpr (gC (xs:=[.int 1,.int 3,.int 5,.int 7]) (p:=λ_=>b8) (v:=λd=>PP (E8.getD (nI d).toNat (0,0))) (RO ⟨_,rfl,1,8,2,rfl,by decide,λμ' i _=>?_,rfl,by decide,λd μ' hd a=>w_mTrue.mpr ⟨rfl,V3 _⟩,λd μ' hd _ a=>?_,λμ' a b=>H _ _ a ?_⟩)))
  ·match i with
   |0=>rfl|1=>rfl|2=>rfl|3=>rfl|n+4=>rfl
  ·have c:d=.int 1\/d=.int 3\/d=.int 5\/d=.int 7:=by simpa using hd
   rcases c with rfl|rfl|rfl|rfl<;>exact bY rfl rfl ((f9 (aN a g) rfl).mpr ⟨rfl,V3 _⟩)
  ·rw[b];unfold bN;rw[if_neg (by omega)];rfl
theorem TU{l:List (Int×Int)}(e:l.length<=63){s:Nat}(g:μ[s]?=b4 (.lst (l.map PP))){Q:D×Hm->Prop}(H:∀b μ',μ<+:μ'->μ'[b]?=b4 (.lst ((mv z.1 z.2 l).map PP))->Q (.loc b,μ')) :
  W (eU (jF 2) (cC (aA 2)) dU (aU (aB (aC bC (aC aG (aA 1) (mC (.int 0))) (aA 8)) (aB (aC bC (aC aG (aA 1) (mC (.int 1))) (aA 9)) aD))) [a0,b4 (PP z),b4 (.loc s),a3,a4,a5,a6,a7] μ) Q:=by
 refine u7 (xs:=l.map PP) (x:=λd=>[b4 (.int (dM d).1),b4 (.int (dM d).2)]) (p:=λ_=>b8) (v:=λd=>PP (z.1+(dM d).1,z.2+(dM d).2)) (w_iSeq.mpr ⟨_,rfl,(dQ g).mpr ⟨iS g,rfl,by rw[VI,V9];omega,λd μ' hd=>?_,λd μ' hd a=>w_mTrue.mpr ⟨rfl,V3 _⟩,λd μ' hd _ a=>?_,λμ' a c=>H _ _ a ?_⟩⟩)
 ·obtain⟨u,v,rfl⟩:=k9 hd;rfl
 ·obtain⟨u,v,rfl⟩:=k9 hd;exact⟨(PP (z.1+u,z.2+v),μ'),by kernel_rfl,rfl,V3 _⟩
 ·rw[c,Y4.mpr (λ_ _=>rfl),Wo];unfold mv;rw[Wo];rfl
theorem TV{es ps:List (Int×Int)}{a c:Nat}(r:es.length<=8)(g:μ[a]?=b4 (.lst (es.map PP)))(n:μ[c]?=b4 (.lst (ps.map PP))){Q:D×Hm->Prop}(H:∀b μ',μ<+:μ'->μ'[b]?=b4 (.lst ((cD (es.map λq=>ps.any λp=>p==q)).map D.int))->Q (.loc b,μ')) :
  W (eJ (fX (aB (aF bH (aB (aA 4) aD)) aD)) (aS (aC (dE b7) (aC aG (aA 4) (aA 8)) (aA 0))) (aA 8) [b4 (.loc c),b4 (PP z),a3,a5,b4 (.loc a),a6,a7,a0] μ) Q:=by
 have m:bH [.loc a] μ=b4 (.int (es.length:Nat),μ):=bO ((dP g).mpr (by rw[VI]));refine gC (xs:=gW 0 es.length) (p:=λd=>(es.map λq=>ps.any λp=>p==q).getD (nI d).toNat b7) (v:=λd=>d) ((mS (j:=0)).mpr (bJ (aP rfl (bB m ⟨_,rfl,⟨by omega,by omega⟩,?_⟩))));dsimp only;rw[XN];refine⟨FF,by unfold gW;rw[VI,WW],by unfold gW;rw[VI,WW,V9];omega,λd μ' hd e=>?_,λd μ' hd _ e=>⟨_,rfl,rfl,V3 _⟩,λμ' e o=>H _ _ e ?_⟩
 ·obtain⟨i,h,rfl⟩:=Wm.mp hd;have h:=WZ.mp h;rw[ZA];refine dR (aW (bY rfl rfl ⟨_,fH (aN e g) h,_,rfl,(Ba (aN e n)).mpr ⟨_,rfl,?_,V3 _⟩⟩));show _=(es.map λq=>ps.any λp=>p==q).getD ((i:Int)).toNat b7;rw[XN];simp[W3,h]
 ·rw[o];unfold gW cD;rw[a1G,Wo,Wo,VI];have j:((λd:D=>d)∘λ(i:Nat)=>D.int (0+(i:Int)))=D.int∘λ(i:Nat)=>(i:Int):=by funext i;simp
  have l:((λd:D=>(es.map λq=>ps.any λp=>p==q).getD (nI d).toNat b7)∘λ(i:Nat)=>D.int (0+(i:Int)))=λ(i:Nat)=>(es.map λq=>ps.any λp=>p==q).getD i false:=by funext i;simp[nI]
  rw[j,l]
end
noncomputable def hJ(bs:List Bool):List Int:=(Wf (cD bs).length).map λk=>((((cD bs).getD ((k+1)%(cD bs).length) 0-(cD bs).getD k 0-1)%(bs.length:Int))+1)*(8/(bs.length:Int))
theorem TX:∀a b c d e g h i:Bool,hJ [a,b,c,d,e,g,h,i]=eE [a,b,c,d,e,g,h,i]:=by decide +kernel
theorem TY:∀a b c d:Bool,hJ [a,b,c,d]=eE [a,b,c,d]:=by decide +kernel
theorem TZ(m:Int×Int->Bool)(x y:Int):hJ ((mv x y (bN x)).map m)=eE ((mv x y (bN x)).map m):=by
 unfold bN mv;split
 ·exact TX ..
 ·exact TY ..
theorem T3{es:List (Int×Int)}(m:Int×Int->Bool):(cD (es.map m)).map (λi=>es.getD i.toNat (0,0))=es.filter m:=by
 unfold cD;rw[Wo,VI];induction es with
 |nil=>rfl|cons e es b=>
  rw[Wc,a0s,Yd,a1G];have c:((λi=>((e::es).map m).getD i b7)∘Nat.succ)=λi=>(es.map m).getD i false:=by funext i;simp
  rw[c];cases a:m e with
  |true=>simp only[V0,a3u,a,if_true,a2B];rw[Wo,<- b];rfl|false=>simp only[V0,a3u,a,Wq,if_false];rw[a2C (by rw[a];exact VZ),Wo,<- b];rfl
theorem rW{b:Hm}{a:Nat}{gs:List Int}(g:b[a]?=b4 (.lst (gs.map D.int))){i:Nat}(h:i<gs.length):aG (.loc a) (.int (i:Int)) b=b4 (.int (gs.getD i 0),b):=bO ((f9 g (vH (rV h))).mpr rfl)
theorem T4{e:Hm}{a b c:Nat}{n:Nat}(s:n=8\/n=4){es:List D}(q:es.length=n){d gs:List Int}{k:Nat}(r:k<d.length)(p:e[a]?=b4 (.lst es))(h:e[b]?=b4 (.lst (d.map D.int)))(l:e[c]?=b4 (.lst (gs.map D.int)))(y:gs.length<=100){d0 d1 d2 x:Option D}{R:Fl×aE×Hm->Prop}
  (H:∀x,R (.nx,[d0,d1,d2,b4 (.int (k:Int)),b4 (.loc a),b4 (.loc b),b4 (.loc c),x],e.set c (.lst ((gs++[(((d.getD ((k+1)%d.length) 0-d.getD k 0-1)%(n:Int))+1)*(8/(n:Int))]).map D.int)))) :
  W (AK [d0,d1,d2,b4 (.int (k:Int)),b4 (.loc a),b4 (.loc b),b4 (.loc c),x] e) R:=by
 have u:(k+1)%d.length<d.length:=Zk _ (by omega);have o:bH [.loc b] e=b4 (.int (d.length:Nat),e):=bO ((dP h).mpr (by rw[VI]));have j:bH [.loc a] e=b4 (.int (n:Nat),e):=bO ((dP p).mpr (by rw[q]));have m:aG (.loc b) (.int (((k:Int)+1)%(d.length:Nat))) e=b4 (.int (d.getD ((k+1)%d.length) 0),e):=by rw[vJ];exact rW h u
 have i:(0:Int)<(n:Int):=by omega
 refine a9 (aW (aW (aW (aW (aW ⟨_,rfl,aW (bY rfl rfl (w_addI.mpr (aP rfl (bB o ((dW (by omega)).mpr ⟨_,m,bY rfl rfl ⟨_,rW h r,w_subI.mpr ⟨_,rfl,w_subI.mpr (aP rfl (bB j ((dW i).mpr ⟨_,rfl,w_addI.mpr ?_⟩)))⟩⟩⟩)))))⟩)))));have v:=Zh (d.getD ((k+1)%d.length) 0-d.getD k 0-1) (show(n:Int)≠0 by omega);have w:=YA (d.getD ((k+1)%d.length) 0-d.getD k 0-1) i;rw[Wz]at H;refine w_mDrop.mpr (eW ⟨_,rfl,eX l,bJ (aW ⟨_,rfl,aW ⟨_,rfl,aP rfl (bB j ((rN i ?_).mpr ((kZ (.inl (by omega))).mpr ⟨_,rfl,(iT l (by rw[VI,V9];omega)).mpr (H _)⟩)))⟩⟩)⟩);rcases s with rfl|rfl<;>decide
inductive RaI (d0 d1 d2:Option D)(a b c:Nat)(ν:Hm)(F:Nat->List Int):Nat->aE->Hm->Prop
 |mk {i:Nat}{x y:Option D}{μ:Hm}(p:ν<+:μ)(g:μ[c]?=b4 (.lst ((F i).map D.int))):RaI d0 d1 d2 a b c ν F i [d0,d1,d2,x,b4 (.loc a),b4 (.loc b),b4 (.loc c),y] μ
theorem GJ(k:Nat){ms:List ((Int×Int)×Str)}{c:Nat}{z:Int×Int}(hz:cK z=b8){n:Hm}(R:n[c]?=b4 (.lst ((ms.map (·.1)).map PP)))(Q:D×Hm->Prop)(H:∀a b μ',n<+:μ'->μ'[a]?=b4 (.lst ((aZ (aK ms) z).map PP))->μ'[b]?=b4 (.lst ((bQ (aK ms) z).map D.int))->Q (.tup [.loc a,.loc b],μ')):W (f (k+1) "_law_round_a" [.loc c,PP z] n) Q:=by
 have v:(mv z.1 z.2 (bN z.1)).length=8\/(mv z.1 z.2 (bN z.1)).length=4:=by have:=vG z.1;unfold mv;rw[VI];exact this
 refine cI (SX k _ _ n) ?_;refine a9 (bB (r:=(.loc n.length,n++[.lst (E8.map PP)])) (by kernel_rfl) ?_);refine eY ?_;refine TR (s:=n.length) hz (bK _ _) λs μ1 Y O=>⟨rfl,?_⟩;refine a9 ?_;refine TU (by have:=vG z.1;omega) O λa μ2 Z E=>?_;refine a9 ?_;have J:=(aX n (C.lst (E8.map PP))).trans (Y.trans Z);refine TV (by omega) E (aN J R) λb h I p=>?_;refine a9 (bB (r:=(.loc h.length,h++[C.lst []])) rfl ?_);refine eY (w_mForI.mpr ?_);replace p:h[b]?=b4 (.lst ((cD ((mv z.1 z.2 (bN z.1)).map (aK ms))).map D.int)):=p;have o:=aN I E;generalize hbs:(mv z.1 z.2 (bN z.1)).map (aK ms)=bs at p;have G:bs.length=(mv z.1 z.2 (bN z.1)).length:=by rw[<- hbs,VI]
 have B:hJ bs=bQ (aK ms) z:=by rw[<- hbs];exact TZ _ _ _
 have hx:(cD bs).length<=8:=by
  have h1:=jS (aK ms) z;have h2:=pG (aK ms) z;have T:(hJ bs).length=(cD bs).length:=by unfold hJ;rw[VI,WW]
  rw[B]at T;omega
 have gB:=aN (aX h (C.lst [])) p;have gA:=aN (aX h (C.lst [])) o;have M:bH [.loc b] (h++[C.lst []])=b4 (.int ((cD bs).length:Nat),h++[C.lst []]):=bO ((dP gB).mpr (by rw[VI]));refine(mS (j:=0)).mpr (bJ (aP rfl (bB M ⟨_,rfl,⟨by omega,by omega⟩,?_⟩)));dsimp only;rw[XN];refine j8 (b:=AK) (RaI (b4 (.loc c)) (b4 (PP z)) (b4 (.loc s)) a b h.length h (λi=>(hJ bs).take i)) (.mk (aX _ _) (by rw[Z6];exact bK _ _)) ?_ ?_
 ·rintro i A y r ⟨m,q⟩;refine⟨_,rfl,?_⟩;rw[ZA];have K:(hJ bs).take (i+1)=(hJ bs).take i++[(((cD bs).getD ((i+1)%(cD bs).length) 0-(cD bs).getD i 0-1)%(((mv z.1 z.2 (bN z.1)).length:Nat):Int)+1)*(8/(((mv z.1 z.2 (bN z.1)).length:Nat):Int))]:=by rw[YV,<- G];unfold hJ;rw[V5,a3t r];rfl
  refine T4 (es:=(mv z.1 z.2 (bN z.1)).map PP) v (by rw[VI]) r (aN m o) (aN m p) q (by rw[WV];unfold hJ;rw[VI,WW];omega) λx=>.mk (iD m (VS _) _) ?_;rw[eD q,K]
 ·rintro A y ⟨m,q⟩;have L:(hJ bs).take (cD bs).length=bQ (aK ms) z:=by rw[<- B];exact Zu (by unfold hJ;rw[VI,WW];exact VS _)
  rw[L]at q;refine⟨rfl,cJ (w_mTup.mpr (bJ (gC (xs:=(cD bs).map D.int) (p:=λ_=>b8) (v:=λd=>PP ((mv z.1 z.2 (bN z.1)).getD (nI d).toNat (0,0))) (w_iSeq.mpr ⟨_,rfl,(dQ (aN m p)).mpr ⟨iS (aN m p),rfl,by rw[VI,V9];omega,λd μ' hd u=>w_mTrue.mpr ⟨rfl,V3 _⟩,λd μ' hd _ u=>?_,λμ' u U=>⟨_,rfl,k6,H _ _ _ (J.trans (I.trans (m.trans u))) ?_ (aN u q)⟩⟩⟩))))⟩
  ·obtain⟨i,r,rfl⟩:=Wm.mp hd;have w:0<=i/\i.toNat<(mv z.1 z.2 (bN z.1)).length:=by unfold cD at r;obtain⟨j,X,rfl⟩:=Wm.mp r;have:=WZ.mp (Xk.mp X).1;rw[G]at this;exact⟨by omega,by omega⟩
   have N:i=((i.toNat:Nat):Int):=by omega
   refine bY rfl rfl ⟨(PP ((mv z.1 z.2 (bN z.1)).getD i.toNat (0,0)),μ'),?_,rfl,V3 _⟩;show aG (.loc a) (.int i) μ'=b4 (PP ((mv z.1 z.2 (bN z.1)).getD i.toNat (0,0)),μ');rw[N];exact fH (aN (m.trans u) o) w.2
  ·rw[U,Y4.mpr (λ_ _=>rfl),Wo];have e:=congrArg (a4L PP) (T3 (es:=mv z.1 z.2 (bN z.1)) (aK ms));rw[hbs,Wo]at e;exact congrArg (λl=>b4 (C.lst l)) e
theorem GK{b:Hm}{a:Nat}{cr:List (Int×Int)}(g:b[a]?=b4 (.lst (cr.map PP)))(h:0<cr.length)(i:Nat){c:aE}{v:Nat}(l:aA v c b=b4 (.int (i:Int),b))(d:aA 0 c b=b4 (.loc a,b)):aC aG (aA 0) (aC aV (aA v) (aF bH (aB (aA 0) aD))) c b=b4 (PP (cr.getD (i%cr.length) (0,0)),b):=by
 have e:bH [.loc a] b=b4 (.int (cr.length:Nat),b):=bO ((dP g).mpr (by rw[VI]));have j:((i:Int)%(cr.length:Nat))=((i%cr.length:Nat):Int):=by simp[a4J]
 refine bO (aW ⟨_,d,aW ⟨_,l,jQ (bJ ⟨_,d,_,rfl,bB e ((dW (by omega)).mpr ?_)⟩)⟩⟩);rw[j,fH g (Zk _ h)];exact W_some.mpr rfl
theorem Bb(k:Nat){b:Hm}{a:Nat}{cr:List (Int×Int)}(g:b[a]?=b4 (.lst (cr.map PP)))(h:0<cr.length)(i j:Nat)(d:Bool)(c:Int×Int)(Q:D×Hm->Prop)(H:Q (a8 (fR (cr.getD (i%cr.length) (0,0)) (cr.getD (j%cr.length) (0,0)) d c),b)):W (f (k+1) "_law_tie" [.loc a,.int (i:Int),.int (j:Int),.bl d,PP c] b) Q:=by refine cI (S1 k _ _ _ _ _ b) (a9 (bB (GK g h i rfl rfl) (a9 (bB (GK g h j rfl rfl) (cJ (w_mTup.mpr (bJ (aP rfl (bB (Gu _ _ b) (bJ (aP rfl (bB (Gv _ _ b) ⟨_,rfl,Gw rfl,H⟩))))))))))))
noncomputable def iZ(m:Int×Int->Bool)(p:Int×Int)(i:Nat):List Ti:=if 2<(aZ m p).length/\gZ (bQ m p) i=b8 then iX (aZ m p) p i else[]
theorem T5(m:Int×Int->Bool)(p:Int×Int)(i:Nat):(iZ m p i).length<=2:=by
 unfold iZ iX;split
 ·split<;>simp
 ·simp
noncomputable def mY(m:Int×Int->Bool)(p:Int×Int):List Ti:=if(aZ m p).length=2 then[fR ((aZ m p).getD 0 (0,0)) ((aZ m p).getD 1 (0,0)) b8 p]else[]
theorem T6(m:Int×Int->Bool)(p:Int×Int):mY m p++(Wf (aZ m p).length).flatMap (iZ m p)=fJ m p:=by
 have e:=jS m p;unfold mY fJ;by_cases a:(aZ m p).length=2
 ·rw[if_pos a,if_pos a];have:(Wf (aZ m p).length).flatMap (iZ m p)=[]:=by rw[List.flatMap_eq_nil_iff];intro i _;unfold iZ;rw[if_neg (by omega)]
  rw[this,X1]
 ·rw[if_neg a,if_neg a,XQ];have:∀i∈Wf (aZ m p).length,iZ m p i=hG m p i:=λi d=>by
   have d:=WZ.mp d;unfold iZ hG;cases b:gZ (bQ m p) i with
   |false=>rw[if_neg (by simp),if_neg VZ]|true=>
    have:2<(aZ m p).length:=by
     have c:(aZ m p).length≠1:=λz=>by
      rw[z]at e d;obtain⟨j,h⟩:=List.length_eq_one_iff.mp e;obtain rfl:i=0:=by omega
      rw[h]at b;unfold gZ at b;simp at b
     omega
    rw[if_pos ⟨this,rfl⟩,if_pos rfl]
  unfold a5z;rw[X4 this]
theorem T7(a b:Int)(c:Hm):oV [.int a,.int b] c=b4 (.int (if b<a then b else a),c):=rfl
theorem T8(k:Nat){b:Hm}{a l:Nat}{cr:List (Int×Int)}(g:b[a]?=b4 (.lst (cr.map PP)))(gl:∀{x:C},(b.set l x)[a]?=b[a]?){i:Nat}(p:i<cr.length){c:Int×Int}{T:List Ti}(h:b[l]?=b4 (.lst (T.map a8)))(r:T.length<=2000){d0 d1 d5 j:Option D}{R:Fl×aE×Hm->Prop}
  (H:R (.nx,[d0,d1,b4 (.loc l),b4 (PP c),b4 (.loc a),d5,b4 (.int (i:Int)),j],b.set l (.lst ((T++iX cr c i).map a8)))):W (FR (k+1) [d0,d1,b4 (.loc l),b4 (PP c),b4 (.loc a),d5,b4 (.int (i:Int)),j] b) R:=by
 have n:0<cr.length:=by omega
 have q:i%cr.length=i:=a1B p;refine k7 (eW ⟨_,rfl,eX h,bJ (aP (ds:=[.loc a,.int (i:Int),.int ((i+1:Nat):Int),.bl b7,PP c]) (μ':=b) (by kernel_rfl) (Bb k g n i (i+1) b7 c _ ⟨_,rfl,(iT h (by rw[VI,V9];omega)).mpr ?_⟩))⟩);rw[q];have m:(b.set l (.lst (T.map a8++[a8 (fR (cr.getD i (0,0)) (cr.getD ((i+1)%cr.length) (0,0)) b7 c)])))[a]?=b4 (.lst (cr.map PP)):=gl.trans g;have d:=eD (c':=C.lst (T.map a8++[a8 (fR (cr.getD i (0,0)) (cr.getD ((i+1)%cr.length) (0,0)) b7 c)])) h;have o:bH [.loc a] (b.set l (.lst (T.map a8++[a8 (fR (cr.getD i (0,0)) (cr.getD ((i+1)%cr.length) (0,0)) b7 c)])))=b4 (.int (cr.length:Nat),_):=bO ((dP m).mpr (by rw[VI]));refine w_mIfS.mpr (dR (aW (aP rfl (bB o ⟨_,rfl,w_eqI.mpr ⟨_,rfl,?_⟩⟩))));unfold iX at H;by_cases e:cr.length=4
 ·rw[if_pos e]at H;rw[show(((cr.length:Nat):Int)==4)=b8 by rw[e];rfl];refine(if_pos rfl).mpr (w_mDrop.mpr (eW ⟨_,rfl,eX d,bJ (aP (ds:=[.loc a,.int ((i+2:Nat):Int),.int ((i+3:Nat):Int),.bl b8,PP c]) (μ':=b.set l (.lst (T.map a8++[a8 (fR (cr.getD i (0,0)) (cr.getD ((i+1)%cr.length) (0,0)) b7 c)]))) (by kernel_rfl) (Bb k m n (i+2) (i+3) b8 c _ ⟨_,rfl,(iT d (by rw[V1,VI,V9];simp;omega)).mpr ?_⟩))⟩));rw[set_two',e];rw[Wz,e]at H;rw[a0e];exact H
 ·rw[if_neg e,Wz]at H;rw[show(((cr.length:Nat):Int)==4)=b7 from beq_eq_false_iff_ne.mpr (by omega)];exact(if_neg VZ).mpr (w_mNext.mpr H)
theorem T9(g a b:Int):decide (g<if b<a then b else a)=(decide (g<a)&&decide (g<b)):=by rw[a0y,VO,decide_eq_true_eq,decide_eq_true_eq,decide_eq_true_eq];split<;>omega
theorem Ua(k:Nat){c:Hm}{a b l:Nat}{m:Int×Int->Bool}{p:Int×Int}(g:c[a]?=b4 (.lst ((aZ m p).map PP)))(d:c[b]?=b4 (.lst ((bQ m p).map D.int)))(gl:∀{x:C},(c.set l x)[a]?=c[a]?){i:Nat}(u:i<(aZ m p).length){T:List Ti}(h:c[l]?=b4 (.lst (T.map a8)))(q:T.length<=2000){d0 d1 j:Option D}{R:Fl×aE×Hm->Prop}
  (H:∀x,R (.nx,[d0,d1,b4 (.loc l),b4 (PP p),b4 (.loc a),b4 (.loc b),b4 (.int (i:Int)),x],c.set l (.lst ((T++iZ m p i).map a8)))):W (AL (k+1) [d0,d1,b4 (.loc l),b4 (PP p),b4 (.loc a),b4 (.loc b),b4 (.int (i:Int)),j] c) R:=by
 have v:=jS m p;have w:(i+((bQ m p).length-1))%(bQ m p).length<(bQ m p).length:=Zk _ (by omega);have y:(i+1)%(bQ m p).length<(bQ m p).length:=Zk _ (by omega);have e:bH [.loc a] c=b4 (.int ((aZ m p).length:Nat),c):=bO ((dP g).mpr (by rw[VI]));have n:aG (.loc b) (.int ((i:Int)-1)) c=b4 (.int ((bQ m p).getD ((i+((bQ m p).length-1))%(bQ m p).length) 0),c):=bO ((f9 d (by
  rw[Gx (by rw[VI];omega),VI];exact rV w)).mpr rfl)
 have o:aG (.loc b) (.int (((i:Int)+1)%((aZ m p).length:Nat))) c=b4 (.int ((bQ m p).getD ((i+1)%(bQ m p).length) 0),c):=by rw[vJ,<- v];exact rW d y
 refine a9 (jQ (bJ (aW ⟨_,rfl,bY rfl rfl (w_subI.mpr ⟨_,n,bJ (aW ⟨_,rfl,aW (bY rfl rfl (w_addI.mpr (aP rfl (bB e ((dW (by omega)).mpr ⟨_,o,_,rfl,bB (T7 _ _ c) ?_⟩)))))⟩)⟩)⟩)));refine w_mIfS.mpr ⟨_,GH (b:=decide (((aZ m p).length:Int)>2)) (c:=gZ (bQ m p) i) (bO (dR (aW (aP rfl (bB e ⟨_,rfl,w_gtI.mpr ⟨_,rfl,rfl⟩⟩))))) (bO (dR (aW (bY rfl rfl ⟨_,rW d (by omega),_,rfl,w_ltI.mpr ⟨_,rfl,?_⟩⟩)))),?_⟩
 ·rw[T9];rfl
 ·have H:=H;unfold iZ at H;by_cases hc:2<(aZ m p).length/\gZ (bQ m p) i=b8
  ·rw[hc.2,decide_eq_true (show((aZ m p).length:Int)>2 by omega)];rw[if_pos hc]at H;exact(if_pos rfl).mpr (T8 k g gl u h q (H _))
  ·have s:(decide (((aZ m p).length:Int)>2)&&gZ (bQ m p) i)=false:=by
    cases r:gZ (bQ m p) i with
    |false=>exact a4Q _|true=>rw[r]at hc;rw[decide_eq_false (show ¬ ((aZ m p).length:Int)>2 from λz=>hc ⟨by omega,rfl⟩)];rfl
   rw[s];rw[if_neg hc,X1,pF h]at H;exact(if_neg VZ).mpr (w_mNext.mpr (H _))
noncomputable def Kp(l:Nat)(a μ':Hm):Prop:=∀j y,j≠l->a[j]?=b4 y->μ'[j]?=b4 y
theorem Kp.pre{l:Nat}{a μ':Hm}(p:a<+:μ'):Kp l a μ':=λ_ _ _ h=>aN p h
theorem Kp.trans{l:Nat}{d μ' c:Hm}(a:Kp l d μ')(b:Kp l μ' c):Kp l d c:=λj y n h=>b j y n (a j y n h)
theorem Kp.set{l:Nat}{a:Hm}{x:C}:Kp l a (a.set l x):=λj y n h=>by rw[Wl (WG n)];exact h
theorem Kp.all{l:Nat}{ν b μ':Hm}(a:Kp l b μ')(p:ν<+:b)(h:ν.length<=l):ν<+:μ':=by refine List.prefix_iff_getElem?.mpr λi c=>?_;exact a i _ (by omega) (aN p (VT c))
theorem GL{b:Hm}{a l:Nat}{cr:List (Int×Int)}{T:List Ti}(g:b[a]?=b4 (.lst (cr.map PP)))(c:b[l]?=b4 (.lst (T.map a8)))(h:0<cr.length):a≠l:=λe=>by
 rw[e,c]at g;have g:=C.lst.inj (VY g);cases cr with
 |nil=>simp at h|cons q cr=>
  cases T with
  |nil=>cases g|cons t T=>have:=a2A g;cases this
theorem GN{b:Hm}{a l:Nat}{gs:List Int}{T:List Ti}(g:b[a]?=b4 (.lst (gs.map D.int)))(c:b[l]?=b4 (.lst (T.map a8)))(h:0<gs.length):a≠l:=λe=>by
 rw[e,c]at g;have g:=C.lst.inj (VY g);cases gs with
 |nil=>simp at h|cons q d=>
  cases T with
  |nil=>cases g|cons t T=>have:=a2A g;cases this
inductive LkI (d0 d1:Option D)(l a b:Nat)(ν:Hm)(m:Int×Int->Bool)(p:Int×Int)(T:List Ti):Nat->aE->Hm->Prop
 |mk {i:Nat}{x y:Option D}{μ:Hm}(kp:Kp l ν μ)(gl:μ[l]?=b4 (.lst ((T++(Wf i).flatMap (iZ m p)).map a8))):LkI d0 d1 l a b ν m p T i [d0,d1,b4 (.loc l),b4 (PP p),b4 (.loc a),b4 (.loc b),x,y] μ
theorem GO(k:Nat){c:Hm}{a b l:Nat}{m:Int×Int->Bool}{p:Int×Int}(g:c[a]?=b4 (.lst ((aZ m p).map PP)))(q:c[b]?=b4 (.lst ((bQ m p).map D.int))){T:List Ti}(j:c[l]?=b4 (.lst (T.map a8)))(E:T.length<=1900){d0 d1 u v:Option D}{R:Fl×aE×Hm->Prop}
  (H:∀x y d,Kp l c d->d[l]?=b4 (.lst ((T++(Wf (aZ m p).length).flatMap (iZ m p)).map a8))->R (.nx,[d0,d1,b4 (.loc l),b4 (PP p),b4 (.loc a),b4 (.loc b),x,y],d)):W (cR (fX (aB (aF bH (aB (aA 4) aD)) aD)) (cN 6) (AL (k+1)) [d0,d1,b4 (.loc l),b4 (PP p),b4 (.loc a),b4 (.loc b),u,v] c) R:=by
 have w:bH [.loc a] c=b4 (.int ((aZ m p).length:Nat),c):=bO ((dP g).mpr (by rw[VI]));have B:=pG m p;have G:=jS m p;refine w_mForI.mpr ((mS (j:=0)).mpr (bJ (aP rfl (bB w ⟨_,rfl,⟨by omega,by omega⟩,?_⟩))));dsimp only;rw[XN];refine j8 (LkI d0 d1 l a b c m p T) (.mk (λ_ _ _ h=>h) (by simpa using j)) ?_ ?_
 ·rintro i o n z ⟨e,gl⟩;refine⟨_,rfl,?_⟩;rw[ZA];have r:=GL g j (by omega);have A:=GN q j (by omega);have s:=mX (T5 m p) (Wf i);rw[WW]at s;refine Ua k (e _ _ r g) (e _ _ A q) (λ{x}=>Wl (WG r)) z gl (by rw[V1];omega) λx=>.mk (e.trans .set) ?_;rw[eD gl,Zc,Y3];simp
 ·rintro o n ⟨e,gl⟩;exact H _ _ _ e gl
theorem Ub(k:Nat){n:Hm}{c l:Nat}{ms:List ((Int×Int)×Str)}{p:Int×Int}(hz:cK p=b8)(I:n[c]?=b4 (.lst ((ms.map (·.1)).map PP))){T:List Ti}(G:n[l]?=b4 (.lst (T.map a8)))(Q:T.length<=1800){d0 A d5 v w:Option D}{R:Fl×aE×Hm->Prop}
  (H:∀L M N O i,Kp l n i->i[l]?=b4 (.lst ((T++fJ (aK ms) p).map a8))->R (.nx,[d0,b4 (.loc c),b4 (.loc l),b4 (PP p),L,M,N,O],i)):W (AM (k+1) [d0,b4 (.loc c),b4 (.loc l),b4 (PP p),A,d5,v,w] n) R:=by
 refine w_mSeq.mpr (w_mAsg.mpr (aP rfl (GJ k hz I _ λa b h s j q=>?_)));have d:=aN s G;have B:bH [.loc a] h=b4 (.int ((aZ (aK ms) p).length:Nat),h):=bO ((dP j).mpr (by rw[VI]));have fin:=T6 (aK ms) p;refine⟨[d0,b4 (.loc c),b4 (.loc l),b4 (PP p),b4 (.loc a),b4 (.loc b),v,w],rfl,gD (b:=(((aZ (aK ms) p).length:Nat):Int)==2) (μ':=h) (bO (dR (aW (aP rfl (bB B ⟨_,rfl,w_eqI.mpr ⟨_,rfl,rfl⟩⟩))))) (λe=>?_) λe=>eC ?_⟩
 ·have e:(aZ (aK ms) p).length=2:=by have:=beq_iff_eq.mp e;omega
  have J:=GL j d (by omega);have U:=jS (aK ms) p;have K:=GN q d (by omega);refine k7 (eW ⟨_,rfl,eX d,bJ (aP (ds:=[.loc a,.int ((0:Nat):Int),.int ((1:Nat):Int),.bl b8,PP p]) (μ':=h) (by kernel_rfl) (Bb k j (by omega) 0 1 b8 p _ ⟨_,rfl,(iT d (by rw[VI,V9];omega)).mpr ?_⟩))⟩);have m:mY (aK ms) p=[fR ((aZ (aK ms) p).getD (0%(aZ (aK ms) p).length) (0,0)) ((aZ (aK ms) p).getD (1%(aZ (aK ms) p).length) (0,0)) b8 p]:=by unfold mY;rw[if_pos e,e]
  have E:=eD (c':=C.lst (T.map a8++[a8 (fR ((aZ (aK ms) p).getD (0%(aZ (aK ms) p).length) (0,0)) ((aZ (aK ms) p).getD (1%(aZ (aK ms) p).length) (0,0)) b8 p)])) d;refine GO k (T:=T++mY (aK ms) p) (Kp.set _ _ J j) (Kp.set _ _ K q) (by rw[E,m,Wz];rfl) (by rw[m,V1];simp;omega) λx y u r o=>H _ _ _ _ _ ((Kp.pre s).trans (Kp.set.trans r)) ?_;rw[o,a0e,fin]
 ·have e:¬ (aZ (aK ms) p).length=2:=λz=>by rw[z]at e;cases e
  refine GO k j q d (by omega) λx y u r o=>H _ _ _ _ _ ((Kp.pre s).trans r) ?_;have m:mY (aK ms) p=[]:=by unfold mY;rw[if_neg e]
  rw[m,XQ]at fin;rw[o,fin]
theorem GP{m:aE}{v:Nat}{w h:Int}{ms:List ((Int×Int)×Str)}{j:Hm}(n:aA 0 m j=b4 (SH w h ms,j))(q:∀e s μ',aA v (m++[b4 (PP e),b4 (.str s)]) μ'=b4 (PP e,μ'))(r:ms.length<=1000){Q:D×Hm->Prop}(H:∀c μ',j<+:μ'->μ'[c]?=b4 (.lst ((ms.map (·.1)).map PP))->j.length<=c->Q (.loc c,μ')):W (eU (jF 2) (cC (aC aG (aA 0) (mC (.int 2)))) dU (aA v) m j) Q:=by
 refine u7 (xs:=ms.map MD) (x:=λd=>match d with|.tup [a,b]=>[b4 a,b4 b]|_=>[]) (p:=λ_=>b8) (v:=λd=>match d with|.tup [a,_]=>a|_=>.non) (w_iSeq.mpr (bY n rfl (w_it32.mpr ⟨_,rfl,λμ' i l=>rfl,rfl,by rw[VI,V9];omega,λd μ' hd=>?_,λd μ' hd l=>w_mTrue.mpr ⟨rfl,V3 _⟩,λd μ' hd _ l=>?_,λμ' l p=>H _ _ l ?_ (VS _)⟩)))
 ·obtain⟨e,o,rfl⟩:=Wm.mp hd;rfl
 ·obtain⟨e,o,rfl⟩:=Wm.mp hd;exact⟨_,q e.1 e.2 μ',rfl,V3 _⟩
 ·rw[p,Y4.mpr (λ_ _=>rfl),Wo,Wo];rfl
inductive LtI (w h:Int)(ms:List ((Int×Int)×Str))(c l:Nat)(ν:Hm):Nat->aE->Hm->Prop
 |mk {i:Nat}{x3 x4 x5 x6 x7:Option D}{μ:Hm}(kp:Kp l ν μ)(g:μ[l]?=b4 (.lst ((((bA w h).take i).flatMap (fJ (aK ms))).map a8))):LtI w h ms c l ν i [b4 (SH w h ms),b4 (.loc c),b4 (.loc l),x3,x4,x5,x6,x7] μ
theorem Uc:∀w∈[(1:Int),2,3,4,5,6],∀h∈[(1:Int),2,3,4,5,6],(bA w h).length<=61:=by decide +kernel
theorem GQ{z:Int}(hz:1<=z/\z<=6):z∈[(1:Int),2,3,4,5,6]:=by
 have:z=1\/z=2\/z=3\/z=4\/z=5\/z=6:=by omega
 simpa using this
theorem Ud(k:Nat){w h:Int}(hw:1<=w/\w<=6)(u:1<=h/\h<=6){ms:List ((Int×Int)×Str)}(A:ms.length<=1000)(B:(iY (aK ms) w h).length<64)(j:Hm)(Q:D×Hm->Prop)(H:∀l μ',j<+:μ'->j.length<=l->μ'[l]?=b4 (.lst ((lG (iY (aK ms) w h)).map a8))->Q (.loc l,μ')):W (f (k+2) "_law_ties" [SH w h ms] j) Q:=by
 refine cI (S2 (k+1) _ j) ?_;refine a9 (GP rfl (λ_ _ _=>rfl) A λc a n q hc=>?_);refine a9 (bB (r:=(.loc a.length,a++[C.lst []])) rfl ?_);refine eY (w_mForI.mpr (w_iSeq.mpr (aP rfl (GI k hw u ms _ _ ((dQ (bK _ _)).mpr ?_)))));have r:=aN ((aX a (C.lst [])).trans (aX _ (C.lst ((bA w h).map PP)))) q;have gl:=aN (aX (a++[C.lst []]) (C.lst ((bA w h).map PP))) (bK a (C.lst []));have s:=bK (a++[C.lst []]) (C.lst ((bA w h).map PP));have o:=n.trans ((aX a (C.lst [])).trans (aX _ (C.lst ((bA w h).map PP))));have x:=Uc w (GQ hw) h (GQ u);have L:c<a.length:=(VN.mp q).1;generalize(a++[C.lst []])++[C.lst ((bA w h).map PP)]=μ2 at r gl s o ⊢;have E:(a++[C.lst []]).length≠a.length:=by rw[V1];simp
 refine jP (b:=AM (k+1)) (LtI w h ms c a.length μ2) (.mk (λ_ _ _ h=>h) gl) (by rintro _ _ _ ⟨b,_⟩;exact b _ _ E s) ?_ ?_
 ·rintro i d I p hd ⟨b,e⟩;obtain⟨z,v,rfl⟩:=mV hd;have J:=mX (A8 (aK ms)) ((bA w h).take i);have K:=a3j i (bA w h);refine⟨_,rfl,Ub k (Xk.mp (WO v)).2 (b _ _ (by omega) r) e (by omega) λ_ _ _ _ G m y=>.mk (b.trans m) ?_⟩;rw[y,YV,v];simp
 ·rintro I p ⟨b,e⟩;rw[VI,XH]at e;exact⟨rfl,cJ (aP rfl (bB (GF (ts:=iY (aK ms) w h) e B) (H _ _ ((b.all o (n.length_le)).trans (aX _ _)) (b.all o (n.length_le)).length_le (bK _ _))))⟩
noncomputable def vK:D->Int
 |.tup [.int i,.int g]=>g*(1-2*(i%2))|_=>0
noncomputable def Bc(gs:List Int):Int:=((iE 0 (gs.map D.int)).map vK).sum
noncomputable def vL(gs:List Int):Bool:=(gs.length:Int)%2==1||!(Bc gs==0)
theorem Ue:∀a b c d e g h i:Bool,vL (eE [a,b,c,d,e,g,h,i])=!(eP (eE [a,b,c,d,e,g,h,i])):=by decide +kernel
theorem Ug:∀a b c d:Bool,vL (eE [a,b,c,d])=!(eP (eE [a,b,c,d])):=by decide +kernel
theorem Uh(m:Int×Int->Bool)(p:Int×Int):vL (bQ m p)=c9 m p:=by
 unfold c9 bQ bN mv;split
 ·exact Ue ..
 ·exact Ug ..
noncomputable def Ui:D->aE
 |.tup [a,b]=>[b4 a,b4 b]|_=>[]
theorem Uj{m:aE}{a:Nat}{gs:List Int}{h:Hm}(o:aA 3 m h=b4 (.loc a,h))(l:∃x y z t,m=[x,y,z,t])(g:h[a]?=b4 (.lst (gs.map D.int)))(s:gs.length<=8)(p:∀x∈gs,-100<=x/\x<=100){Q:D×Hm->Prop}(H:∀μ',h<+:μ'->Q (.int (Bc gs),μ')) :
  W (aF j5 (aB (eU (jF 2) (oF (aB (aA 3) aD)) dU (aC cB (aA 5) (aC cQ (mC (.int 1)) (aC cB (mC (.int 2)) (aC aV (aA 4) (mC (.int 2))))))) aD) m h) Q:=by
 obtain⟨x,y,z,t,rfl⟩:=l;refine S8 (u7 (xs:=iE 0 (gs.map D.int)) (x:=Ui) (p:=λ_=>b8) (v:=λd=>.int (vK d)) (RK (bJ ⟨_,o,_,rfl,a,_,rfl,g,RL g,by rw[AF],by rw[AF,VI,V9];omega,λd μ' hd=>?_,λd μ' hd j=>w_mTrue.mpr ⟨rfl,V3 _⟩,λd μ' hd _ j=>?_,λμ' j b=>?_⟩)))
 ·obtain⟨i,c⟩:=a3k hd;rw[u6]at c;obtain⟨e,_,rfl⟩:=VJ.mp c;rfl
 ·obtain⟨i,c⟩:=a3k hd;rw[u6]at c;obtain⟨e,n,rfl⟩:=VJ.mp c;rw[V5]at n;obtain⟨v,q,rfl⟩:=VJ.mp n;have r:=p v (WO q);exact aW ⟨_,rfl,aW ⟨_,rfl,aW ⟨_,rfl,bY rfl rfl (w_mod2.mpr (w_mul2.mpr (w_subI.mpr ((kZ (.inl (by omega))).mpr ⟨rfl,V3 _⟩))))⟩⟩⟩
 ·rw[Y4.mpr (λ_ _=>rfl)]at b;have e:(iE 0 (gs.map D.int)).map (λd=>D.int (vK d))=((iE 0 (gs.map D.int)).map vK).map D.int:=by rw[Wo];rfl
  rw[e]at b;exact(AE b).mpr (H _ j)
theorem Uk:∀a b c d e g h i:Bool,∀x∈eE [a,b,c,d,e,g,h,i],-100<=x/\x<=100:=by decide +kernel
theorem Ul:∀a b c d:Bool,∀x∈eE [a,b,c,d],-100<=x/\x<=100:=by decide +kernel
theorem Um(m:Int×Int->Bool)(p:Int×Int):∀x∈bQ m p,-100<=x/\x<=100:=by
 unfold bQ bN mv;split
 ·exact Uk _ _ _ _ _ _ _ _
 ·exact Ul _ _ _ _
theorem Uo(k:Nat){h:Hm}{c:Nat}{ms:List ((Int×Int)×Str)}{p:Int×Int}(hz:cK p=b8)(s:h[c]?=b4 (.lst ((ms.map (·.1)).map PP))){d0 x:Option D}{R:Fl×aE×Hm->Prop}(j:c9 (aK ms) p=b8->∀x μ',h<+:μ'->R (.rt (PP p),[d0,b4 (.loc c),b4 (PP p),x],μ'))(q:c9 (aK ms) p=b7->∀x μ',h<+:μ'->R (.nx,[d0,b4 (.loc c),b4 (PP p),x],μ')):W (AN (k+1) [d0,b4 (.loc c),b4 (PP p),x] h) R:=by
 refine a9 (aW (aP rfl (GJ k hz s _ λa b e i _ l=>⟨_,rfl,w_it21.mpr ?_⟩)));have w:=jS (aK ms) p;have v:=pG (aK ms) p;have r:bH [.loc b] e=b4 (.int ((bQ (aK ms) p).length:Nat),e):=bO ((dP l).mpr (by rw[VI]));have d:=Uh (aK ms) p;unfold vL at d;refine w_mIfS.mpr (w_mOrT.mpr ⟨_,bO (r:=(((bQ (aK ms) p).length:Int)%2==1,e)) (dR (aW (aW (aP rfl (bB r ⟨_,rfl,w_mod2.mpr ⟨_,rfl,w_eqI.mpr ⟨_,rfl,rfl⟩⟩⟩))))),?_⟩);cases m:((bQ (aK ms) p).length:Int)%2==1 with
 |true=>rw[m,a5B]at d;exact(if_pos rfl).mpr ((if_pos rfl).mpr (w_mRet.mpr ⟨_,rfl,j d.symm _ _ i⟩))|false=>
  rw[m,a0S]at d;refine(if_neg VZ).mpr (dR (aW (Uj rfl ⟨_,_,_,_,rfl⟩ l (by omega) (Um _ _) λu o=>⟨_,rfl,w_neI.mpr ⟨_,rfl,?_⟩⟩)));cases n:Bc (bQ (aK ms) p)==0 with
  |true=>rw[n]at d;exact(if_neg VZ).mpr (w_mNext.mpr (q d.symm _ _ (i.trans o)))|false=>rw[n]at d;exact(if_pos rfl).mpr (w_mRet.mpr ⟨_,rfl,j d.symm _ _ (i.trans o)⟩)
inductive LbI (w h:Int)(ms:List ((Int×Int)×Str))(c:Nat)(ν:Hm):Nat->aE->Hm->Prop
 |mk {i:Nat}{x y:Option D}{μ:Hm}(p:ν<+:μ)(ok:∀z∈(bA w h).take i,c9 (aK ms) z=b7):LbI w h ms c ν i [b4 (SH w h ms),b4 (.loc c),x,y] μ
theorem Up(k:Nat){w h:Int}(hw:1<=w/\w<=6)(A:1<=h/\h<=6){ms:List ((Int×Int)×Str)}(B:ms.length<=1000)(o:Hm)(Q:D×Hm->Prop)(H:∀μ',o<+:μ'->Q (GA ((bA w h).find? (c9 (aK ms))),μ')):W (f (k+2) "_law_barred" [SH w h ms] o) Q:=by
 refine cI (S0 (k+1) _ o) ?_;refine a9 (GP rfl (λ_ _ _=>rfl) B λc a G v hc=>?_);refine w_mSeq.mpr (w_mForI.mpr (w_iSeq.mpr (aP rfl (GI k hw A ms _ _ ((dQ (bK _ _)).mpr ?_)))));have s:=aN (aX a (C.lst ((bA w h).map PP))) v;have u:=bK a (C.lst ((bA w h).map PP));have n:=G.trans (aX a (C.lst ((bA w h).map PP)));generalize a++[C.lst ((bA w h).map PP)]=μ2 at s u n ⊢;refine jP (b:=AN (k+1)) (LbI w h ms c μ2) (.mk (V3 _) λz b=>by simp at b) (by rintro _ _ _ ⟨p,_⟩;exact aN p u) ?_ ?_
 ·rintro i d I q hd ⟨j,ok⟩;obtain⟨z,b,rfl⟩:=mV hd;refine⟨_,rfl,Uo k (Xk.mp (WO b)).2 (aN j s) (λl x r m=>?_) λl x r m=>.mk (j.trans m) (GB ok b l)⟩;have e:=Gy (q:=c9 (aK ms)) (Gz b) ok l;rw[e]at H;exact H _ (n.trans (j.trans m))
 ·rintro I q ⟨j,ok⟩;rw[VI,XH]at ok;have e:(bA w h).find? (c9 (aK ms))=none:=Yv.mpr λy E=>by rw[ok y E];exact VZ
  rw[e]at H;exact cJ ⟨_,rfl,H _ (n.trans j)⟩
theorem Uq{b x:Str}{ns:List Str}{ds:List D}{d:D}{i a:Nat}{h:aE}{c:Hm}{Q:D×Hm->Prop}(n:h[i]?=b4 (b4 (.loc a)))(j:c[a]?=b4 (.exc x ns ds))(m:att b x=b8)(l:(ns.zip ds).lookup b=b4 d)(H:Q (d,c)):W (kQ b (att b) (aA i) h c) Q:=by
 have e:aA i h c=b4 (.loc a,c):=by simp[aA,n]
 rw[RQ,e];exact⟨_,rfl,a,x,ns,ds,d,rfl,j,m,l,H⟩
theorem Ur(p:Int×Int)(a:Hm):aY b7 (PP p) (PP p) a=b4 (.bl b8,a):=by show(cS 8 a (PP p) (PP p)).map (λb=>(D.bl b,a))=_;rw[AB 6];simp
theorem Us(k:Nat){w h:Int}(hw:1<=w/\w<=6)(l:1<=h/\h<=6){ms:List ((Int×Int)×Str)}{c:Int×Int}(j:(bA w h).find? (c9 (aK ms))=b4 c)(b:Hm)(Q:D×Hm->Prop)(H:∀μ',b<+:μ'->Q (.bl b8,μ')):W (f (k+8) "_law_refused" [SH w h ms,PP c] b) Q:=by refine cI (S3 (k+7) _ _ b) (a9 ⟨_,rfl,w_mSeq.mpr ?_⟩);obtain⟨⟨x,a⟩,i,rfl,o⟩:=TM k hw l j b;have n:W ((fE (cM (aF (f (k+7) "ties") (aB (aA 0) aD))) (mG (g (k+7) "ties") (aB (aA 0) aD)) cH) [b4 (SH w h ms),b4 (PP c),b4 .non,b6] b) λq=>q=(bX c,[b4 (SH w h ms),b4 (PP c),b4 .non,b6],a):=u9 (w_rCall.mpr ⟨_,rfl,_,i,rfl⟩);obtain⟨p,m,rfl⟩:=n;refine(RP m rfl).mpr ?_;have e:=aX a (C.exc (bX c).1 ((bX c).2.map (·.1)) ((bX c).2.map (·.2)));have d:(a++[C.exc (bX c).1 ((bX c).2.map (·.1)) ((bX c).2.map (·.2))])[a.length]?=b4 (C.exc "Barred" ["corner"] [PP c]):=bK a _;generalize a++[C.exc (bX c).1 ((bX c).2.map (·.1)) ((bX c).2.map (·.2))]=μ2 at e d;refine w_mSet.mpr (Uq rfl d rfl rfl ?_);exact cJ (bY rfl rfl ⟨_,Ur c μ2,H _ (o.trans e)⟩)
theorem uW(n:Nat)(a:Hm):∀k:List Int,fU (gO (n+1) a) (k.map D.int) (k.map D.int)=b4 b8
 |[]=>rfl|i::k=>by rw[V0];show(cS (n+1) a (.int i) (.int i)).bind (λb=>(fU (gO (n+1) a) (k.map D.int) (k.map D.int)).map λc=>b&&c)=_;rw[uW n a k];show(b4 (i==i)).bind (λb=>b4 (b&&b8))=_;rw[beq_self_eq_true];rfl
theorem Ut(n:Nat)(a:Hm)(t:Ti):cS (n+3) a (a8 t) (a8 t)=b4 true:=by have h:∀k:List Int,cS (n+2) a (.tup (k.map D.int)) (.tup (k.map D.int))=b4 true:=λk=>uW n a k;show(cS (n+2) a (.tup (t.1.map D.int)) (.tup (t.1.map D.int))).bind (λb=>((cS (n+2) a (.tup (t.2.1.map D.int)) (.tup (t.2.1.map D.int))).bind λb=>((cS (n+2) a (.bl t.2.2.1) (.bl t.2.2.1)).bind λb=>((cS (n+2) a (.tup (t.2.2.2.map D.int)) (.tup (t.2.2.2.map D.int))).bind λb=>(b4 b8).map λc=>b&&c).map λc=>b&&c).map λc=>b&&c).map λc=>b&&c)=_;rw[h,h,h];show b4 (b8&&(b8&&((t.2.2.1==t.2.2.1)&&(b8&&b8))))=_;rw[beq_self_eq_true];rfl
theorem GR(n:Nat)(a:Hm):∀ts:List Ti,fU (gO (n+3) a) (ts.map a8) (ts.map a8)=b4 b8
 |[]=>rfl|t::ts=>by rw[V0];show(cS (n+3) a (a8 t) (a8 t)).bind (λb=>(fU (gO (n+3) a) (ts.map a8) (ts.map a8)).map λc=>b&&c)=_;rw[Ut,GR n a ts];rfl
theorem GS{c:Hm}{a b:Nat}{ts:List Ti}(h:c[a]?=b4 (.lst (ts.map a8)))(i:c[b]?=b4 (.lst (ts.map a8)))(d:Bool):aY d (.loc a) (.loc b) c=b4 (.bl (!d),c):=by
 have e:cS 8 c (.loc a) (.loc b)=b4 true:=by show(lW c (.loc a)).bind (λx=>(lW c (.loc b)).bind λy=>sL (gO 7 c) x y)=_;simp only[lW,h,i];exact GR 4 c ts
 unfold aY;rw[e];cases d<;>rfl
theorem Uu(ts:List Ti):(lG ts).length=ts.length:=by unfold lG;rw[VI,(j0 _ _).length_eq,WW]
theorem Uv(k:Nat){w h:Int}(hw:1<=w/\w<=6)(j:1<=h/\h<=6){ms:List ((Int×Int)×Str)}(y:ms.length<=1000)(m:(bA w h).find? (c9 (aK ms))=b6->(iY (aK ms) w h).length<64){d0:Option D}(I:Hm):W (FT (k+8) [d0,b4 (SH w h ms),b6,b6,b6,b6] I) λp=>match p.1 with|.rt d=>d=.bl b8|_=>False:=by
 refine a9 (aP rfl (Up (k+6) hw j y _ _ λJ Q=>?_));cases n:(bA w h).find? (c9 (aK ms))with
 |some c=>exact S9 (dR (bY rfl rfl (w_isnotTN.mpr ⟨_,rfl,rfl,k8 (aP rfl (Us k hw j n _ _ λs E=>rfl))⟩)))|none=>
  have m:=m n;refine rP (dR (bY rfl rfl (w_isnotNN.mpr ⟨_,rfl,rfl,eC ?_⟩)));refine a9 (aP rfl (GG (k+1) hw j n m _ _ λl s E M o=>?_));refine a9 (aP rfl (Ud (k+6) hw j y m _ _ λr u G B q=>?_));have a:=aN G o;have A:=Uu (iY (aK ms) w h);generalize hS:lG (iY (aK ms) w h)=S at a q o A;refine rP (F8 (mT (gX (aP rfl ((RI a).mpr ⟨rfl,rfl,dR (bY rfl rfl ⟨_,GS a q b8,_,rfl,rfl,eC ?_⟩)⟩)))));refine eY (w_mForI.mpr (w_iSeq.mpr ⟨_,rfl,(dQ a).mpr ?_⟩));refine jP (xs:=S.map a8) (λi e b=>b=u/\∃x,e=[d0,b4 (SH w h ms),b4 .non,b4 (.loc l),b4 (.loc r),x]) ⟨rfl,_,rfl⟩ (by rintro _ _ _ ⟨rfl,_⟩;exact a) ?_ ?_
  ·rintro i d e b hd ⟨rfl,x,rfl⟩;obtain⟨t,L,rfl⟩:∃t,S[i]?=b4 t/\a8 t=d:=by rw[V5]at hd;exact VJ.mp hd
   exact⟨_,rfl,w_mIfS.mpr (F8 (mT (gX (b:=b8) ⟨_,rfl,rfl,rfl,mT (gX (b:=b8) ⟨_,rfl,rfl,(if_neg VZ).mpr (w_mNext.mpr ⟨rfl,_,rfl⟩)⟩)⟩)))⟩
  ·rintro e b ⟨rfl,x,rfl⟩;refine⟨rfl,k7 (eW ⟨_,rfl,eX a,_,rfl,(iT a (by rw[VI,V9];omega)).mpr ?_⟩)⟩;have O:l<r:=Wb (VN.mp o).1 B;have z:(b.set l (.lst (S.map a8++[.int 1])))[r]?=b4 (.lst (S.map a8)):=by rw[Wl (by omega)];exact q
   refine cJ (aW (aP rfl (GG (k+1) hw j n m _ _ λN K H _ v=>⟨_,rfl,?_⟩)));rw[hS]at v;exact⟨_,GS v (aN H z) b7,rfl⟩
noncomputable def dJ(ns:List Int)(i:Int):Int:=if i<ns.length then ns.getD i.toNat 0 else 0
theorem pH(k:Nat)(ns:List Int){i:Int}(b:0<=i)(a:Hm)(Q:D×Hm->Prop)(H:Q (.int (dJ ns i),a)):W (f (k+1) "_law_nth" [.rol (ns.map D.int),.int i] a) Q:=by
 refine cI (SN k _ _ a) (cJ (w_mIfE.mpr ⟨_,bO (r:=(decide (i<ns.length),a)) (dR (aW ⟨_,rfl,aP rfl (w_lenR.mpr (w_ltI.mpr ⟨_,rfl,by rw[VI]⟩))⟩)),?_⟩));unfold dJ at H;by_cases h:i<ns.length
 ·rw[if_pos h]at H;rw[decide_eq_true h];exact(if_pos rfl).mpr (bY rfl rfl ((Td (Tc b h)).mpr H))
 ·rw[if_neg h]at H;rw[decide_eq_false h];exact(if_neg VZ).mpr ⟨_,rfl,H⟩
theorem GU:∀(l:List (Int×Int))(i:Nat),(l.map PP).eraseIdx i=(l.eraseIdx i).map PP
 |[],_=>rfl|_::_,0=>rfl|x::l,i+1=>by show PP x::(l.map PP).eraseIdx i=PP x::(l.eraseIdx i).map PP;rw[GU l i]
theorem Uw{h:Hm}{a:Nat}{ps:List (Int×Int)}{q:Int×Int}{Q:D×Hm->Prop}(g:h[a]?=b4 (.lst (ps.map PP)))(i:q∈ps)(j:ps.length<=1000)(H:∀d:List (Int×Int),d.Sublist ps->d.length<ps.length->Q (.non,h.set a (.lst (d.map PP)))):W (oU (.loc a) [PP q] h) Q:=by
 have b:(ps.map λp=>p==q).findIdx id<(ps.map λp=>p==q).length:=List.findIdx_lt_length_of_exists ⟨b8,Wm.mpr ⟨q,i,beq_self_eq_true q⟩,rfl⟩;have c:(ps.map λp=>p==q).findIdx id<ps.length:=by rw[VI]at b;exact b
 refine⟨_,by simp only[oU,g,AZ,Wg];rw[if_pos ⟨b,by rw[VI,V9];omega⟩],?_⟩;have e:(ps.map PP).eraseIdx ((ps.map λp=>p==q).findIdx id)=(ps.eraseIdx ((ps.map λp=>p==q).findIdx id)).map PP:=GU _ _;rw[e];exact H _ (List.eraseIdx_sublist ..) (by rw[List.length_eraseIdx_of_lt c];omega)
noncomputable def Ux(w h:Int)(p:Int×Int):Bool:=decide (0<p.1)&&decide (p.1<4*w)&&decide (0<p.2)&&decide (p.2<4*h)&&(p.1%2==1&&p.2%2==1||p.1%2==0&&(p.2%2==0&&!(p.1%4==p.2%4)))
noncomputable def sqA:List (Int×Int):=[(6,4),(8,6),(6,8),(4,6),(3,3),(1,1),(3,5),(1,7),(7,3),(5,1),(9,3),(11,1)]
noncomputable def sqB:List (Int×Int):=[(9,7),(11,5),(9,9),(11,11),(5,9),(7,11),(3,9),(1,11)]
theorem Uy(k:Nat)(a:Hm)(Q:D×Hm->Prop)(H:∀l μ',a<+:μ'->a.length<=l->μ'[l]?=b4 (.lst ((sqA++sqB).map PP))->Q (.loc l,μ')):W (f (k+1) "_law_square" [] a) Q:=by refine cI (SV k a) (a9 (bB (r:=(.loc a.length,a++[.lst (sqA.map PP)])) (by kernel_rfl) (cJ (aW ⟨_,rfl,bB (r:=(.loc (a++[C.lst (sqA.map PP)]).length,(a++[.lst (sqA.map PP)])++[.lst (sqB.map PP)])) (by kernel_rfl) ((FG (aN (aX _ _) (bK _ _)) (bK _ _) (by decide)).mpr ?_)⟩))));refine H _ _ ((aX _ _).trans ((aX _ _).trans (aX _ _))) (by rw[V1,V1];omega) ?_;rw[Wz];exact bK _ _
theorem sq_ok:(sqA++sqB).Nodup/\∀p∈sqA++sqB,Ux 3 3 p=true:=by decide
structure Ly where
 a:Int
 b:Int
 c:Int
 d:Int
 e:Int
 g:Int
 deriving DecidableEq
noncomputable abbrev LD(A:Ly):D:=.tup [.int A.a,.int A.b,.int A.c,.int A.d,.int A.e,.int A.g]
noncomputable def Dih(A:Ly):Prop:=(A.b=0/\A.c=0/\(A.a=1\/A.a=-1)/\(A.d=1\/A.d=-1))\/(A.a=0/\A.d=0/\(A.b=1\/A.b=-1)/\(A.c=1\/A.c=-1))
theorem Dih.sm{A:Ly}(h:Dih A):(-1<=A.a/\A.a<=1)/\(-1<=A.b/\A.b<=1)/\(-1<=A.c/\A.c<=1)/\(-1<=A.d/\A.d<=1):=by unfold Dih at h;omega
noncomputable def cW(A:Ly)(p:Int×Int):Int×Int:=(A.a*p.1+A.b*p.2+A.e,A.c*p.1+A.d*p.2+A.g)
noncomputable def pI(A B:Ly):Ly:=⟨B.a*A.a+B.b*A.c,B.a*A.b+B.b*A.d,B.c*A.a+B.d*A.c,B.c*A.b+B.d*A.d,B.a*A.e+B.b*A.g+B.e,B.c*A.e+B.d*A.g+B.g⟩
noncomputable def Bd:Ly:=⟨1,0,0,1,0,0⟩
noncomputable def rX(e:Int×Int):Ly:=
 ⟨(gY (1,0) e).1-(gY (0,0) e).1,(gY (0,1) e).1-(gY (0,0) e).1,(gY (1,0) e).2-(gY (0,0) e).2,(gY (0,1) e).2-(gY (0,0) e).2,(gY (0,0) e).1,(gY (0,0) e).2⟩
theorem Ly.ext'{A B:Ly}(h1:A.a=B.a)(a:A.b=B.b)(b:A.c=B.c)(c:A.d=B.d)(d:A.e=B.e)(e:A.g=B.g):A=B:=by cases A;cases B;simp_all
theorem GV(e:Int×Int):Dih (rX e):=by obtain⟨x,y⟩:=e;unfold Dih rX gY;dsimp only;split<;>split<;>dsimp only<;>omega
theorem Uz:Dih Bd:=.inl ⟨rfl,rfl,.inl rfl,.inl rfl⟩
theorem lH{x y:Int}(a:x=1\/x=-1)(b:y=1\/y=-1):x*y=1\/x*y=-1:=by rcases a with rfl|rfl<;>rcases b with rfl|rfl<;>decide
theorem UA{A B:Ly}(hA:Dih A)(hB:Dih B):Dih (pI A B):=by
 unfold Dih pI;dsimp only;rcases hA with⟨c,d,a,b⟩|⟨c,d,a,b⟩<;>rcases hB with⟨k1,k2,k3,k4⟩|⟨k1,k2,k3,k4⟩<;>rw[c,d,k1,k2]<;>simp only[Int.mul_zero,Int.zero_mul,Int.add_zero,ZA,true_and]
 ·exact .inl ⟨lH k3 a,lH k4 b⟩
 ·exact .inr ⟨lH k3 b,lH k4 a⟩
 ·exact .inr ⟨lH k3 a,lH k4 b⟩
 ·exact .inl ⟨lH k3 b,lH k4 a⟩
theorem UB{a b c d e g:D}:([a,b,c,d,e,g]:List D).length<=VW:=by show(6:Nat)<=VW;decide
theorem GW(k:Nat)(p q r:Int×Int)(a:Hm)(Q:D×Hm->Prop):W (f (k+1) "laying_by" [PP p,PP q,PP r] a) Q↔Q (LD ⟨q.1-p.1,r.1-p.1,q.2-p.2,r.2-p.2,p.1,p.2⟩,a):=by rw[SG,W_fin];simp only[w_mRet,w_mTup,w_mCons,c8,w_mOp,bW,cV,dH,o9,w_it21,w_subI,UB,true_and]
theorem UC(k:Nat)(x y:Int)(a:Hm)(Q:D×Hm->Prop):W (f (k+3) "mirror_in" [P x y] a) Q↔Q (LD (rX (x,y)),a):=by rw[SJ,W_fin];simp only[w_mRet,w_mCall,w_mCons,c8,w_mTup,bW,dH,k6,true_and,Ta,GW];rfl
theorem vM{i j:Int}(h:-1<=i/\i<=1){a:Hm}{Q:D×Hm->Prop}:W (cB (.int i) (.int j) a) Q↔Q (.int (i*j),a):=kZ (.inl ⟨by omega,by omega⟩)
theorem vO(k:Nat)(A:Ly)(hA:Dih A)(x y:Int)(a:Hm)(Q:D×Hm->Prop):W (f (k+1) "led" [LD A,P x y] a) Q↔Q (PP (cW A (x,y)),a):=by obtain⟨b,c,d,e⟩:=hA.sm;rw[SK,W_fin];simp only[w_mSeq,w_mSet,w_mRet,w_mTup,w_mCons,c8,w_mOp,bW,cV,dH,o9,w_it21,Ry,Rz,RA,RB,RC,RD,Xu,XF,vM b,vM c,vM d,vM e,w_addI,k6,true_and];rfl
theorem UD(k:Nat)(A B:Ly)(hA:Dih A)(hB:Dih B)(a:Hm)(Q:D×Hm->Prop):W (f (k+2) "then" [LD A,LD B] a) Q↔Q (LD (pI A B),a):=by
 rw[SM,W_fin];simp only[w_mRet,w_mCall,w_mCons,c8,w_mTup,bW,cV,dH,k6,true_and,vO _ A hA,vO _ B hB,GW];have e:(⟨(cW B (cW A (1,0))).1-(cW B (cW A (0,0))).1,(cW B (cW A (0,1))).1-(cW B (cW A (0,0))).1,(cW B (cW A (1,0))).2-(cW B (cW A (0,0))).2,(cW B (cW A (0,1))).2-(cW B (cW A (0,0))).2,(cW B (cW A (0,0))).1,(cW B (cW A (0,0))).2⟩:Ly)=pI A B:=by unfold cW pI;refine Ly.ext' ?_ ?_ ?_ ?_ ?_ ?_<;>dsimp only<;>grind
 rw[<- e]
noncomputable def vP(n:Int):Int:=if 0<n then 1 else if n<0 then -1 else 0
theorem UE(k:Nat)(x y a b:Int)(d:Hm)(Q:D×Hm->Prop):W (f (k+2) "hand_of" [P x y,P a b] d) Q↔Q (.int (vP (iU a b x y-iU a b a b)),d):=by
 rw[R8,W_fin];simp only[w_mSeq,w_mRet,w_mNext,w_mIfS,w_mIfE,w_mSet,w_mCall,w_mCons,c8,w_mOp,dH,bW,cV,w_mTest,Rq,w_subI,w_gtI,w_ltI,F9,Ga,Xu,XF];generalize iU a b x y-iU a b a b=n;unfold vP;by_cases c:0<n
 ·simp[c]
 ·by_cases e:n<0<;>simp[c,e]
theorem UG{l:List (List Int×D)}(a:(l.map (·.1)).Nodup){k:List Int}{d:D}(h:(k,d)∈l):bP l k=b4 d:=by
 induction l with
 |nil=>cases h|cons p l b=>
  rw[V0,W4]at a;unfold bP;rw[Xb];rcases Wr.mp h with h|h
  ·rw[<- h];simp
  ·have:decide (p.1=k)=false:=decide_eq_false λz=>a.1 (Wm.mpr ⟨_,h,z.symm⟩);rw[this];exact b a.2 h
theorem Be{p q:Int×Int}(h:dX p=dX q):p=q:=by unfold dX at h;injection h with h1 h2;injection h2 with h2;exact Yq h1 h2
theorem vQ{a:Type}{l:List a}{n:Nat}{x:a}(h:l[n]?=b4 x):l.take (n+1)=l.take n++[x]:=by rw[List.take_add_one,h];rfl
theorem Bf{c:Type}{l:List c}(m:l.Nodup){n:Nat}{x:c}(h:l[n]?=b4 x):x∉l.take n:=λi=>by
 obtain⟨j,a⟩:=YG.mp i;have b:j<n:=by have:=(VN.mp a).1;rw[WV]at this;omega
 rw[a2w b]at a;have o:n<l.length:=(VN.mp h).1;have d:=(VN.mp a).2;have e:=(VN.mp h).2;exact absurd ((a4w m).mp (d.trans e.symm)) (by omega)
noncomputable abbrev fK(v:Int×Int->D)(ps:List (Int×Int)):List (List Int×D):=ps.map λp=>(dX p,v p)
theorem Bg{v:Int×Int->D}{ps:List (Int×Int)}(d:ps.Nodup){p:Int×Int}(h:p∈ps):bP (fK v ps) (dX p)=b4 (v p):=by refine UG ?_ (Wm.mpr ⟨p,h,rfl⟩);rw[Wo];exact a5N _ (λa b c x=>c (Be x)) d
theorem UH{v:Int×Int->D}{ps:List (Int×Int)}{p:Int×Int}(h:p∉ps):bP (fK v ps) (dX p)=none:=by
 unfold bP;rw[Yv.mpr]
 ·rfl
 ·intro x a;obtain⟨z,b,rfl⟩:=Wm.mp a;rw[decide_eq_true_iff];exact λe=>h (Be e▸b)
theorem GX{v:Int×Int->D}{ps:List (Int×Int)}{p:Int×Int}(h:p∉ps):d8 (fK v ps) (dX p) (v p)=fK v (ps++[p]):=by unfold d8;rw[UH h,if_neg (by simp)];show _=a4L _ _;rw[Wz];rfl
theorem UI{m:ME}{c:aE}{b:Hm}{Q:eS×Nat×Hm->Prop}(h:W (m c b) λp=>∃a kvs,p.1=.loc a/\p.2[a]?=b4 (.dT kvs)/\Q (eI (.tup (jK kvs)),kvs.length+1,p.2.set a (.dF kvs))):W (qT m c b) Q:=by unfold qT;rw[W_bind];refine bE h λp ⟨a,kvs,e,g,q⟩=>?_;rw[e];dsimp only;rw[g];exact W_some.mpr q
theorem UJ{xs:List D}{g:MG}{b:MS}{c:aE}{a:Hm}{Q:Fl×aE×Hm->Prop}(I:Nat->aE->Hm->Prop)(m:I 0 c a)
  (go:∀i d c a,xs[i]?=b4 d->I i c a->∃h,g d c a=b4 h/\W (b h a) λp=>match p.1 with|.nx=>I (i+1) p.2.1 p.2.2|.ct=>I (i+1) p.2.1 p.2.2|.bk=>Q (.nx,p.2.1,p.2.2)|.rt d=>Q (.rt d,p.2.1,p.2.2))
  (j:∀c a,I xs.length c a->Q (.nx,c,a)):W (fB (eI (.tup xs)) g b (xs.length+1) 0 c a) Q:=by
 refine rO (N:=xs.length) I (λi c a q l=>?_) (λc a l=>⟨?_,j c a l⟩) xs.length 0 c a (by omega) m
 ·have e:xs[i]?=b4 xs[i]:=VT q;obtain⟨h,n,o⟩:=go i _ c a e l;exact⟨xs[i],h,by show b4 xs[i]?=_;rw[e],n,o⟩
 ·show b4 xs[xs.length]?=_;rw[ZE (VS _)]
noncomputable def lJ(e:Int×Int)(hd:Int)(F:Int×Int->Ly)(q:Int×Int):Ly:=if vP (iU e.1 e.2 (cW (F q) q).1 (cW (F q) q).2-iU e.1 e.2 e.1 e.2)==hd then pI (F q) (rX e)else F q
theorem UK(k:Nat){F:Int×Int->Ly}(d:∀q,Dih (F q)){e q:Int×Int}{hd:Int}{c:Option D}{l:Nat}{b:Hm}{R:Fl×aE×Hm->Prop}(H:W (oH (.loc l) (PP q) (LD (lJ e hd F q)) b) λμ'=>∀x,R (.nx,[c,b4 (PP e),b4 (.int hd),b4 (.loc l),b4 (PP q),x],μ')):W (AO (k+3) [c,b4 (PP e),b4 (.int hd),b4 (.loc l),b4 (PP q),b4 (LD (F q))] b) R:=by
 refine gD (b:=vP (iU e.1 e.2 (cW (F q) q).1 (cW (F q) q).2-iU e.1 e.2 e.1 e.2)==hd) (μ':=b) (bO (dR (aW (jQ (bJ (aP rfl ((vO (k+2) (F q) (d q) q.1 q.2 _ _).mpr ⟨_,rfl,(UE (k+1) _ _ _ _ _ _).mpr ⟨_,rfl,w_eqI.mpr ⟨_,rfl,rfl⟩⟩⟩))))))) (λa=>?_) λa=>?_
 ·unfold lJ at H;rw[if_pos a]at H;exact a9 (jQ (bJ ⟨_,rfl,bJ (aP rfl ((UC k e.1 e.2 _ _).mpr ⟨_,rfl,(UD (k+1) (F q) (rX e) (d q) (GV e) _ _).mpr (w_mPut.mpr ⟨_,rfl,_,rfl,_,rfl,bE H λμ' z=>z _⟩)⟩))⟩))
 ·unfold lJ at H;rw[if_neg (by rw[a];exact VZ)]at H;exact eC (w_mPut.mpr ⟨_,rfl,_,rfl,_,rfl,bE H λμ' z=>z _⟩)
inductive FoI (a:Nat)(e:Int×Int)(hd:Int)(l:Nat)(ν:Hm)(V:Int×Int->D)(qs:List (Int×Int)):Nat->aE->Hm->Prop
 |mk {i:Nat}{x y:Option D}{μ:Hm}(kp:Kp l ν μ)(g:μ[l]?=b4 (.dT (fK V (qs.take i)))):FoI a e hd l ν V qs i [b4 (.loc a),b4 (PP e),b4 (.int hd),b4 (.loc l),x,y] μ
theorem UL(k:Nat){F:Int×Int->Ly}(w:∀q,Dih (F q)){b:List (Int×Int)}(B:b.Nodup)(I:b.length<=200){a:Nat}(e:Int×Int)(hd:Int){c:Hm}(g:c[a]?=b4 (.dT (fK (λq=>LD (F q)) b)))(Q:D×Hm->Prop)(H:∀l μ',Kp a c μ'->c.length<=l->μ'[l]?=b4 (.dT (fK (λq=>LD (lJ e hd F q)) b))->Q (.loc l,μ')):W (f (k+4) "_law_folded" [.loc a,PP e,.int hd] c) Q:=by
 have J:a<c.length:=(VN.mp g).1;refine cI (SO (k+3) _ _ _ c) (a9 (w_mDNewT.mpr (eY (w_mForI.mpr (UI ⟨_,rfl,a,_,rfl,aN (aX _ _) g,?_⟩)))));have gl:((c++[C.dT []]).set a (.dF (fK (λq=>LD (F q)) b)))[c.length]?=b4 (.dT []):=by rw[Wl (by omega)];exact bK _ _
 have v:Kp a c ((c++[C.dT []]).set a (.dF (fK (λq=>LD (F q)) b))):=(Kp.pre (aX _ _)).trans .set;generalize(c++[C.dT []]).set a (.dF (fK (λq=>LD (F q)) b))=ν at gl v ⊢;have A:jK (fK (λq=>LD (F q)) b)=b.map λq=>.tup [PP q,LD (F q)]:=by unfold jK;rw[Wo];rfl
 rw[A];have p:(fK (λq=>LD (F q)) b).length=(b.map λq=>D.tup [PP q,LD (F q)]).length:=by rw[VI,VI]
 rw[p];refine UJ (b:=AO (k+3)) (FoI a e hd c.length ν (λq=>LD (lJ e hd F q)) b) (.mk (λ_ _ _ h=>h) (by rw[Z6];exact gl)) ?_ ?_
 ·rintro i d G s o ⟨r,m⟩;rw[V5]at o;obtain⟨q,u,rfl⟩:=VJ.mp o;have E:=Bf B u;refine⟨_,rfl,UK k w ((AJ m (lF q) (by rw[VI,WV,V9];omega)).mpr λx=>.mk (r.trans .set) ?_)⟩;rw[eD m,GX (v:=λq=>LD (lJ e hd F q)) E,vQ u]
 ·rintro G s ⟨r,m⟩;rw[VI,XH]at m;exact⟨rfl,cJ ⟨_,rfl,H _ _ (λj y n h=>r j y (λz=>by have:=(VN.mp h).1;omega) (v j y n h)) (VS _) m⟩⟩
theorem UM{e:Int×Int}{hd:Int}{F:Int×Int->Ly}(a:∀q,Dih (F q)):∀q,Dih (lJ e hd F q):=λq=>by
 unfold lJ;split
 ·exact UA (a q) (GV e)
 ·exact a q
noncomputable def c6(p:Int×Int):Bool:=if p.1%2==1 then p.2%2==1 else p.2%2==0&&!(p.1%4==p.2%4)
noncomputable def iF(p:Int×Int):Bool:=if p.1%2==1 then p.2%4==2 else p.1%4==2&&p.2%2==1
theorem kE{h:aE}{e:Hm}{a b:ME}{c d:Bool}(i:a h e=b4 (.bl c,e))(j:b h e=b4 (.bl d,e)):dS a b h e=b4 (.bl (c&&d),e):=bO (w_mAndV.mpr ⟨_,i,by
 cases c with
 |true=>exact(if_pos rfl).mpr ⟨_,j,rfl⟩
 |false=>exact(if_neg VZ).mpr rfl⟩)
theorem GY(k:Nat)(p:Int×Int)(a:Hm)(Q:D×Hm->Prop)(H:Q (.bl (c6 p),a)):W (f (k+1) "is_edge" [PP p] a) Q:=by
 unfold c6 at H;refine cI (RU k _ a) (gD (b:=p.1%2==1) (μ':=a) (by kernel_rfl) (λh=>k8 (bB (r:=(.bl (p.2%2==1),a)) (by kernel_rfl) ?_)) λh=>eC (cJ (bB (kE (c:=p.2%2==0) (d:=!(p.1%4==p.2%4)) (by kernel_rfl) (by kernel_rfl)) ?_)))
 ·rw[h]at H;exact H
 ·rw[h]at H;exact H
theorem GZ(k:Nat)(p:Int×Int)(a:Hm)(Q:D×Hm->Prop)(H:Q (.bl (iF p),a)):W (f (k+1) "is_quarter" [PP p] a) Q:=by
 unfold iF at H;refine cI (RV k _ a) (gD (b:=p.1%2==1) (μ':=a) (by kernel_rfl) (λh=>k8 (bB (r:=(.bl (p.2%4==2),a)) (by kernel_rfl) ?_)) λh=>eC (cJ (bB (kE (c:=p.1%4==2) (d:=p.2%2==1) (by kernel_rfl) (by kernel_rfl)) ?_)))
 ·rw[h]at H;exact H
 ·rw[h]at H;exact H
theorem G0(k:Nat){w h:Int}(hw:1<=w/\w<=6)(m:1<=h/\h<=6)(c:Hm)(Q:D×Hm->Prop)(H:∀a μ',c<+:μ'->μ'[a]?=b4 (.lst (((cE w h).filter c6).map PP))->Q (.loc a,μ')):W (f (k+2) "edges_in" [.int w,.int h] c) Q:=by
 refine cI (Si (k+1) _ _ c) (cJ (gC (xs:=(cE w h).map PP) (p:=λd=>c6 (dM d)) (v:=λd=>d) (w_iSeq.mpr (aP rfl (AX _ w h (by omega) (by omega) _ _ λa l j e n=>?_)))));refine(dQ e).mpr ⟨iS e,rfl,?_,λd μ' hd b=>?_,λd μ' hd _ b=>⟨_,rfl,rfl,V3 _⟩,λμ' b i=>?_⟩
 ·have:=vF (w:=w) (h:=h) (by omega) (by omega);rw[VI,V9];omega
 ·obtain⟨u,v,rfl⟩:=k9 hd;exact gX (aP rfl (GY k (u,v) _ _ ⟨rfl,rfl,V3 _⟩))
 ·refine H _ _ (j.trans b) ?_;rw[i,pE c6]
theorem UN(k:Nat){w h:Int}(hw:1<=w/\w<=6)(m:1<=h/\h<=6)(c:Hm)(Q:D×Hm->Prop)(H:∀a μ',c<+:μ'->μ'[a]?=b4 (.lst (((cE w h).filter iF).map PP))->Q (.loc a,μ')):W (f (k+2) "quarters_in" [.int w,.int h] c) Q:=by
 refine cI (Sh (k+1) _ _ c) (cJ (gC (xs:=(cE w h).map PP) (p:=λd=>iF (dM d)) (v:=λd=>d) (w_iSeq.mpr (aP rfl (AX _ w h (by omega) (by omega) _ _ λa l j e n=>?_)))));refine(dQ e).mpr ⟨iS e,rfl,?_,λd μ' hd b=>?_,λd μ' hd _ b=>⟨_,rfl,rfl,V3 _⟩,λμ' b i=>?_⟩
 ·have:=vF (w:=w) (h:=h) (by omega) (by omega);rw[VI,V9];omega
 ·obtain⟨u,v,rfl⟩:=k9 hd;exact gX (aP rfl (GZ k (u,v) _ _ ⟨rfl,rfl,V3 _⟩))
 ·refine H _ _ (j.trans b) ?_;rw[i,pE iF]
noncomputable def Bh(e:Int×Int):List (Int×Int):=[(e.1-1,e.2),(e.1,e.2-1),(e.1,e.2+1),(e.1+1,e.2)]
noncomputable def gF(e:Int×Int):List (Int×Int):=(Bh e).filter iF
theorem UO(k:Nat)(e:Int×Int)(a:Hm):f (k+1) "beside" [PP e] a=b4 (.loc a.length,a++[.lst ((Bh e).map PP)]):=(RX k _ a).trans (by kernel_rfl)
theorem Bi(k:Nat)(e:Int×Int)(b:Hm)(Q:D×Hm->Prop)(H:∀a μ',b<+:μ'->μ'[a]?=b4 (.lst ((gF e).map PP))->Q (.loc a,μ')):W (f (k+2) "sides_of" [PP e] b) Q:=by
 refine cI (RY (k+1) _ b) (cJ (gC (xs:=(Bh e).map PP) (p:=λd=>iF (dM d)) (v:=λd=>d) (w_iSeq.mpr (aP rfl (bB (UO k e b) ((dQ (bK _ _)).mpr ⟨iS (bK _ _),rfl,by show(4:Nat)<=VW;decide,λd μ' hd c=>?_,λd μ' hd _ c=>⟨_,rfl,rfl,V3 _⟩,λμ' c h=>H _ _ ((aX _ _).trans c) ?_⟩))))))
 ·obtain⟨u,v,rfl⟩:=k9 hd;exact gX (aP rfl (GZ k (u,v) _ _ ⟨rfl,rfl,V3 _⟩))
 ·rw[h,pE iF];rfl
theorem UP:∀w∈[(1:Int),2,3],∀h∈[(1:Int),2,3],∀e∈(cE w h).filter c6,(gF e).length=2/\∀q∈gF e,q∈(cE w h).filter iF:=by decide +kernel
theorem Bj:∀w∈[(1:Int),2,3],∀h∈[(1:Int),2,3],((cE w h).filter iF).Nodup/\((cE w h).filter iF).length<=200/\((cE w h).filter c6).Nodup/\((cE w h).filter c6).length<=48/\0<((cE w h).filter c6).length:=by decide +kernel
theorem UQ(k:Nat){ns:List Int}{F:Int×Int->Ly}(o:∀q,Dih (F q)){m es:List (Int×Int)}(w:m.Nodup)(E:m.length<=200)(O:0<es.length)(I:∀e∈es,(gF e).length=2/\∀q∈gF e,q∈m){a b:Nat}{d:Hm}(g:d[a]?=b4 (.dT (fK (λq=>LD (F q)) m)))(u:d[b]?=b4 (.lst (es.map PP))){i:Nat}{d2 x x7 x8:Option D}{R:Fl×aE×Hm->Prop}
  (H:∀(r:Int×Int->Ly) a' μ' x7 x8,(∀q,Dih (r q))->Kp a d μ'->d.length<=a'->μ'[a']?=b4 (.dT (fK (λq=>LD (r q)) m))->R (.nx,[b4 (.rol (ns.map D.int)),b4 (.int 0),d2,b4 (.loc a'),x,b4 (.loc b),b4 (.int (i:Int)),x7,x8],μ')) :
  W (AQ (k+4) [b4 (.rol (ns.map D.int)),b4 (.int 0),d2,b4 (.loc a),x,b4 (.loc b),b4 (.int (i:Int)),x7,x8] d) R:=by
 refine a9 (aP (ds:=[.rol (ns.map D.int),.int (0+1+(i:Int))]) (μ':=d) (by kernel_rfl) (pH (k+3) ns (by omega) _ _ ?_));generalize dJ ns (0+1+(i:Int))=v;have y:bH [.loc b] d=b4 (.int (es.length:Nat),d):=bO ((dP u).mpr (by rw[VI]));have Q:0<=v/2%(es.length:Int)/\v/2%(es.length:Int)<es.length:=⟨Zh _ (by omega),YA _ (by omega)⟩;obtain⟨j,B⟩:∃j:Nat,v/2%(es.length:Int)=j:=⟨(v/2%(es.length:Int)).toNat,by omega⟩;have h:j<es.length:=by omega
 refine a9 (aW ⟨_,rfl,aW (bY rfl rfl ((rN (by decide) (by decide)).mpr (aP rfl (bB y ((dW (by omega)).mpr ?_)))))⟩);rw[B];refine⟨_,fH u h,?_⟩;have c:es.getD j (0,0)∈es:=by rw[Yg,VT h];exact Yc h
 generalize es.getD j (0,0)=e at c;obtain⟨N,G⟩:=I e c;refine a9 (jQ (bJ (aW ⟨_,rfl,aW (aP rfl (Bi (k+2) e _ _ λs p n z=>⟨_,rfl,?_⟩))⟩)));have L:(gF e).getD 0 (0,0)∈m:=by refine G _ ?_;rw[Yg,VT (by omega)];exact Yc _
 refine⟨_,fH (i:=0) z (by omega),(AI (aN n g) (lF _) (Bg w L)).mpr ⟨_,rfl,?_⟩⟩;refine(vO (k+3) _ (o _) e.1 e.2 _ _).mpr ?_;refine w_mSet.mpr (aP (ds:=[.loc a,PP (cW (F ((gF e).getD 0 (0,0))) (e.1,e.2)),.int (1-2*(v%2))]) (μ':=p) (by kernel_rfl) (UL k o w E _ _ (aN n g) _ λl M J K A=>?_));exact H _ _ _ _ _ (UM o) ((Kp.pre n).trans J) (WM n.length_le K) A
noncomputable def vT(A B:Ly):Bool:=!(A.a==B.a&&(A.b==B.b&&(A.c==B.c&&(A.d==B.d&&(A.e==B.e&&(A.g==B.g&&b8))))))
theorem UR(A B:Ly)(a:Hm):aY b8 (LD A) (LD B) a=b4 (.bl (vT A B),a):=rfl
inductive F1I (d0 d1 d2:Option D)(l:Nat)(ν:Hm)(qs:List (Int×Int)):Nat->aE->Hm->Prop
 |mk {i:Nat}{x:Option D}{μ:Hm}(kp:Kp l ν μ)(g:μ[l]?=b4 (.dT (fK (λ_=>LD Bd) (qs.take i)))):F1I d0 d1 d2 l ν qs i [d0,d1,d2,b4 (.loc l),x,b6,b6,b6,b6] μ
inductive F2I (d0 d1 d2 d4:Option D)(b:Nat)(ν μ1:Hm)(qs es:List (Int×Int)):Nat->aE->Hm->Prop
 |mk {i a:Nat}{F:Int×Int->Ly}{x6 x7 x8:Option D}{μ:Hm}(hF:∀q,Dih (F q))(ha:ν.length<=a)(p:ν<+:μ)(g:μ[a]?=b4 (.dT (fK (λq=>LD (F q)) qs)))(gb:μ[b]?=b4 (.lst (es.map PP))):F2I d0 d1 d2 d4 b ν μ1 qs es i [d0,d1,d2,b4 (.loc a),d4,b4 (.loc b),x6,x7,x8] μ
theorem in3'{z:Int}(hz:1<=z/\z<=3):z∈[(1:Int),2,3]:=by
 have:z=1\/z=2\/z=3:=by omega
 simpa using this
theorem G1{c:Hm}{a b:Nat}{kvs:List (List Int×D)}{xs:List D}(g:c[a]?=b4 (.dT kvs))(h:c[b]?=b4 (.lst xs)):b≠a:=λe=>by rw[e,g]at h;cases h
theorem US(k:Nat)(ns:List Int){w h:Int}(hw:1<=w/\w<=3)(N:1<=h/\h<=3)(j:Hm)(Q:D×Hm->Prop)(H:∀a μ' (es:List (Int×Int)),j<+:μ'->μ'[a]?=b4 (.lst (es.map PP))->es.Sublist ((cE w h).filter c6)->Q (.loc a,μ')):W (f (k+5) "_law_folds" [.rol (ns.map D.int),.int 0,.tup [.int w,.int h]] j) Q:=by
 obtain⟨q,T,ne,le,R⟩:=Bj w (in3' hw) h (in3' N);have x:=UP w (in3' hw) h (in3' N);generalize hqs:(cE w h).filter iF=qs at q T x;generalize hes:(cE w h).filter c6=es at ne le R x H;refine cI (SQ (k+4) _ _ _ j) (a9 (w_mDNewT.mpr (eY (w_mForI.mpr (w_iSeq.mpr (aP rfl (UN (k+2) (by omega) (by omega) _ _ λa B U u=>(dQ u).mpr ?_)))))));rw[hqs]at u ⊢;have K:=aN U (bK j (C.dT []));have nd:=G1 K u;refine jP (F1I (b4 (.rol (ns.map D.int))) (b4 (.int 0)) (b4 (.tup [.int w,.int h])) j.length B qs) (.mk (λ_ _ _ h=>h) (by rw[Z6];exact K)) (by rintro _ _ _ ⟨c,_⟩;exact c _ _ nd u) ?_ ?_
 ·rintro i d ρ r hd ⟨c,m⟩;obtain⟨z,O,rfl⟩:=mV hd;refine⟨_,rfl,w_mPut.mpr ⟨_,rfl,_,rfl,_,rfl,(AJ m (lF z) (by rw[VI,WV,V9];omega)).mpr (.mk (c.trans .set) ?_)⟩⟩;rw[eD m];have:=GX (v:=λ_=>LD Bd) (Bf q O);rw[vQ O,<- this];rfl
 ·rintro ρ r ⟨c,m⟩;rw[VI,XH]at m;have pA:j<+:r:=c.all ((aX _ _).trans U) (VS _);refine⟨rfl,a9 (aP rfl (G0 (k+2) (by omega) (by omega) _ _ λb E X J=>?_))⟩;rw[hes]at J;refine eY (w_mForI.mpr ((mS (j:=0)).mpr (bJ (aW (aW (aP rfl (pH (k+3) ns (by omega) _ _ ⟨_,rfl,(rN (by decide) (by decide)).mpr ⟨_,rfl,(dW (by decide)).mpr ⟨_,rfl,⟨by omega,by omega⟩,?_⟩⟩⟩)))))));refine j8 (b:=AQ (k+4)) (F2I (b4 (.rol (ns.map D.int))) (b4 (.int 0)) (b4 (.tup [.int w,.int h])) _ b j E qs es) (.mk (λ_=>Uz) (VS _) (pA.trans X) (aN X m) J) ?_ ?_
  ·rintro i I G hi ⟨L,M,v,o,l⟩;refine⟨_,rfl,?_⟩;rw[ZA];exact UQ k L q T R x o l λF' a' μ5 _ _ y c la g5=>.mk y (WM v.length_le la) (c.all v M) g5 (c _ _ (G1 o l) l)
  ·rintro I G ⟨L,M,v,o,l⟩;rename_i a4 F x6 x7 x8;refine⟨rfl,cJ (gC (xs:=es.map PP) (p:=λd=>vT (F ((gF (dM d)).getD 0 (0,0))) (F ((gF (dM d)).getD 1 (0,0)))) (v:=λd=>d) (w_iSeq.mpr ⟨_,rfl,(dQ l).mpr ⟨iS l,rfl,by rw[VI,V9];omega,λd μ' hd p=>?_,λd μ' hd _ p=>⟨_,rfl,rfl,V3 _⟩,λμ' p hg=>?_⟩⟩))⟩
   ·obtain⟨e,he,rfl⟩:=Wm.mp hd;obtain⟨h2,hq⟩:=x e he;have Z:∀n,n<2->(gF e).getD n (0,0)∈qs:=λn hn=>by refine hq _ ?_;rw[Yg,VT (by omega)];exact Yc _
    refine dR (aW (aW ⟨_,rfl,aW (aP rfl (Bi (k+2) e _ _ λs μ6 A g6=>⟨_,rfl,?_⟩))⟩));refine⟨_,fH (i:=0) g6 (by omega),(AI (aN (p.trans A) o) (lF _) (Bg q (Z 0 (by omega)))).mpr ?_⟩;refine aW ⟨_,rfl,aW (aP rfl (Bi (k+2) e _ _ λs' μ7 Y g7=>⟨_,rfl,?_⟩))⟩;refine⟨_,fH (i:=1) g7 (by omega),(AI (aN (p.trans (A.trans Y)) o) (lF _) (Bg q (Z 1 (by omega)))).mpr ?_⟩;exact⟨_,UR _ _ _,_,rfl,rfl,A.trans Y⟩
   ·refine H _ _ _ (v.trans p) ?_ (a3v (p:=λe=>vT (F ((gF e).getD 0 (0,0))) (F ((gF e).getD 1 (0,0)))));rw[hg,pE (λe=>vT (F ((gF e).getD 0 (0,0))) (F ((gF e).getD 1 (0,0))))]
noncomputable def vU(gs:List Int):Nat:=if gs.length=2 then 1 else((Wf gs.length).map λi=>if gZ gs i then(if gs.length=4 then 2 else 1)else 0).sum
theorem UT:∀a b c d e g h i:Bool,eP (eE [a,b,c,d,e,g,h,i])=b8->2*vU (eE [a,b,c,d,e,g,h,i])<=(eE [a,b,c,d,e,g,h,i]).length:=by decide +kernel
theorem UU:∀a b c d:Bool,eP (eE [a,b,c,d])=b8->2*vU (eE [a,b,c,d])<=(eE [a,b,c,d]).length:=by decide +kernel
theorem UW(m:Int×Int->Bool)(p:Int×Int):(fJ m p).length=vU (bQ m p):=by
 have e:=jS m p;unfold fJ vU;rw[e];by_cases h:(aZ m p).length=2
 ·rw[if_pos h,if_pos h];rfl
 ·rw[if_neg h,if_neg h,a3s];congr 1;refine X4 λi _=>?_;unfold hG iX;cases gZ (bQ m p) i with
  |false=>rfl|true=>
   by_cases a:(aZ m p).length=4
   ·rw[if_pos rfl,if_pos a,if_pos rfl,if_pos a];rfl
   ·rw[if_pos rfl,if_neg a,if_pos rfl,if_neg a];rfl
theorem UX{m:Int×Int->Bool}{p:Int×Int}(h:c9 m p=b7):2*(fJ m p).length<=(aZ m p).length:=by
 have e:=jS m p;rw[UW,<- e];replace h:eP (bQ m p)=true:=by
  unfold c9 at h;cases z:eP (bQ m p)with
  |true=>rfl|false=>rw[z]at h;cases h
 revert h;unfold bQ bN mv;split
 ·exact UT _ _ _ _ _ _ _ _
 ·exact UU _ _ _ _
noncomputable def rY(e:Int×Int):List (Int×Int):=if e.1%2=1 then(if(e.1-e.2)%4=0 then[(e.1-1,e.2-1),(e.1+1,e.2+1)]else[(e.1+1,e.2-1),(e.1-1,e.2+1)])else if e.1%4=0 then[(e.1,e.2-2),(e.1,e.2+2)]else[(e.1-2,e.2),(e.1+2,e.2)]
theorem UY(e:Int×Int):(rY e).length=2:=by
 unfold rY;split
 ·split<;>rfl
 ·split<;>rfl
theorem UZ{c:Int×Int}(hc:cK c=b8){e:Int×Int}(d:e∈mv c.1 c.2 (bN c.1)):c∈rY e:=by
 obtain⟨s,a,rfl⟩:=Wm.mp d;obtain⟨x,y⟩:=c;unfold cK at hc;simp only[VO,beq_iff_eq]at hc;unfold bN E8 F4 at a;have one:∀{z b:Int×Int},(x,y)=z->(x,y)∈[z,b]:=λh=>by rw[h];exact .head _
 have two:∀{z b:Int×Int},(x,y)=z->(x,y)∈[b,z]:=λh=>by rw[h];exact .tail _ (.head _)
 unfold rY;dsimp only at a ⊢;split at a<;>simp only[Wr,Yr,or_false]at a
 ·rcases a with rfl|rfl|rfl|rfl|rfl|rfl|rfl|rfl<;>dsimp only
  ·rw[if_neg (by omega),if_neg (by omega)];exact one (Yq (by dsimp only;omega) (by dsimp only;omega))
  ·rw[if_pos (by omega),if_pos (by omega)];exact one (Yq (by dsimp only;omega) (by dsimp only;omega))
  ·rw[if_neg (by omega),if_pos (by omega)];exact one (Yq (by dsimp only;omega) (by dsimp only;omega))
  ·rw[if_pos (by omega),if_neg (by omega)];exact one (Yq (by dsimp only;omega) (by dsimp only;omega))
  ·rw[if_neg (by omega),if_neg (by omega)];exact two (Yq (by dsimp only;omega) (by dsimp only;omega))
  ·rw[if_pos (by omega),if_pos (by omega)];exact two (Yq (by dsimp only;omega) (by dsimp only;omega))
  ·rw[if_neg (by omega),if_pos (by omega)];exact two (Yq (by dsimp only;omega) (by dsimp only;omega))
  ·rw[if_pos (by omega),if_neg (by omega)];exact two (Yq (by dsimp only;omega) (by dsimp only;omega))
 ·rcases a with rfl|rfl|rfl|rfl<;>dsimp only
  ·rw[if_pos (by omega),if_pos (by omega)];exact one (Yq (by dsimp only;omega) (by dsimp only;omega))
  ·rw[if_pos (by omega),if_neg (by omega)];exact one (Yq (by dsimp only;omega) (by dsimp only;omega))
  ·rw[if_pos (by omega),if_pos (by omega)];exact two (Yq (by dsimp only;omega) (by dsimp only;omega))
  ·rw[if_pos (by omega),if_neg (by omega)];exact two (Yq (by dsimp only;omega) (by dsimp only;omega))
theorem G2{e:Int×Int}{m:Int×Int->Bool}:∀{l:List (Int×Int)},l.Nodup->(l.filter λp=>e==p||m p).length<=(if e∈l then 1 else 0)+(l.filter m).length
 |[],_=>VS _|x::l,h=>by
  have c:=G2 (e:=e) (m:=m) (W4.mp h).2;have b:=(W4.mp h).1;rw[Yd,Yd];by_cases a:e=x
  ·rw[if_pos (by rw[a];simp),if_pos (by rw[a];exact .head _)];rw[if_neg (by rw[a];exact b)]at c;split<;>(try simp only[Wc])<;>omega
  ·have:(e∈x::l)↔e∈l:=by simp[a]
   rw[show(e==x||m x)=m x by simp[a]];simp only[this];split<;>(try simp only[Wc])<;>omega
theorem G3{e:Int×Int}:∀{a:List (Int×Int)},(∀c∈a,cK c=b8)->(a.map λc=>if e∈mv c.1 c.2 (bN c.1)then 1 else 0).sum<=(a.filter λc=>decide (c∈rY e)).length
 |[],_=>VS _|c::a,h=>by
  have b:=G3 (e:=e) λc hc=>h c (.tail _ hc);rw[V0,Y8,Yd];by_cases hc:e∈mv c.1 c.2 (bN c.1)
  ·rw[if_pos hc,if_pos (decide_eq_true (UZ (h c (.head _)) hc)),Wc];omega
  ·rw[if_neg hc];split<;>(try simp only[Wc])<;>omega
theorem U0{e:Int×Int}{a:List (Int×Int)}(b:a.Nodup)(h:∀c∈a,cK c=b8):(a.map λc=>if e∈mv c.1 c.2 (bN c.1)then 1 else 0).sum<=2:=by refine WM (G3 h) (UY e▸Zn (b.sublist a3v) λc hc=>?_);exact of_decide_eq_true (Xk.mp hc).2
theorem vV{c:Type}{a b:c->Nat}:∀{l:List c},(∀x∈l,a x<=b x)->(l.map a).sum<=(l.map b).sum
 |[],_=>VS _|x::l,h=>by have:=vV λy d=>h y (.tail _ d);have:=h x (.head _);rw[V0,V0,Y8,Y8];omega
theorem Bk{c:Type}{a b:c->Nat}:∀l:List c,(l.map λx=>a x+b x).sum=(l.map a).sum+(l.map b).sum
 |[]=>rfl|x::l=>by have:=Bk (a:=a) (b:=b) l;rw[V0,V0,V0,Y8,Y8,Y8];omega
theorem G4{a:List (Int×Int)}(b:a.Nodup)(h:∀c∈a,cK c=b8):∀es:List (Int×Int),(a.map λc=>(aZ (λp=>es.any λq=>q==p) c).length).sum<=2*es.length
 |[]=>by
  refine WM (vV (b:=λ_=>0) λc _=>?_) ?_
  ·unfold aZ;rw[show(λp:Int×Int=>([]:List (Int×Int)).any λq=>q==p)=λ_=>b7 from rfl];simp
  ·clear h b;induction a with
   |nil=>exact VS _|cons _ _ d=>rw[V0,Y8];omega
 |e::es=>by
  have d:=G4 b h es;have i:=U0 (e:=e) b h;refine WM (vV (b:=λc=>(if e∈mv c.1 c.2 (bN c.1)then 1 else 0)+(aZ (λp=>es.any λq=>q==p) c).length) λc _=>?_) ?_
  ·exact G2 (A2 _ _ (A3 _))
  ·rw[Bk,Wc];omega
theorem U1:∀w∈[(1:Int),2,3,4,5,6],∀h∈[(1:Int),2,3,4,5,6],(bA w h).Nodup:=by decide +kernel
theorem U2{w h:Int}(hw:1<=w/\w<=6)(i:1<=h/\h<=6){ms:List ((Int×Int)×Str)}(e:(bA w h).find? (c9 (aK ms))=b6):(iY (aK ms) w h).length<=ms.length:=by
 have b:∀{z:Int},1<=z/\z<=6->z∈[(1:Int),2,3,4,5,6]:=λ{z} l=>by
  have:z=1\/z=2\/z=3\/z=4\/z=5\/z=6:=by omega
  simpa using this
 have j:=U1 w (b hw) h (b i);have a:=G4 j (λc hc=>(Xk.mp hc).2) (ms.map (·.1));rw[VI]at a;have d:((bA w h).map λc=>(fJ (aK ms) c).length+(fJ (aK ms) c).length).sum<=((bA w h).map λc=>(aZ (aK ms) c).length).sum:=vV λc hc=>by
  have:=UX (m:=aK ms) (p:=c) (by
   have:=Yv.mp e c hc;cases z:c9 (aK ms) c with
   |false=>rfl
   |true=>exact absurd z this)
  omega
 rw[Bk]at d;unfold iY;rw[a3s];have:((bA w h).map λc=>(aZ (aK ms) c).length).sum<=2*ms.length:=a;omega
noncomputable def wt:Bool->List Int->Nat
 |_,[]=>0|b,g::gs=>(if b then 11 else 5)+wt (b ^^ (g%2==1)) gs
noncomputable def i0(x:Int)(gs:List Int):Bool:=decide (wt b8 gs<=54)&&(decide (wt b7 gs<=54)&&(decide (gs.length<=6)&&(!(x%4==2)||gs.all λg=>g%2==0)))
noncomputable def G5(o t:Int):List Int:=(Wf 3).flatMap λ(i:Nat)=>[[2,1,1,2,1].getD (o+i).toNat 0,[2,1,1,2,1].getD (t+i).toNat 0]
noncomputable def G6(o t:Int):List Int:=[o+1,t+1,3-o,3-t]
theorem U3:∀o∈[(0:Int),1,2],∀t∈[(0:Int),1,2],i0 0 (G5 o t)=b8/\i0 0 (G6 o t)=true:=by decide
theorem Bl{x:Int}{gs:List Int}(h:(x%4==2)=b7)(g:i0 0 gs=b8):i0 x gs=true:=by unfold i0 at g ⊢;rw[h];exact g
theorem G7(v:Int):v%3∈[(0:Int),1,2]:=by
 have:v%3=0\/v%3=1\/v%3=2:=by omega
 simpa using this
inductive GaI (d0 d1:Option D)(o t:Int)(l r:Nat)(ν:Hm):Nat->aE->Hm->Prop
 |mk {i:Nat}{x:Option D}{μ:Hm}(p:ν<+:μ)(gl:μ[l]?=b4 (.lst ([2,1,1,2,1].map D.int)))(gr:μ[r]?=b4 (.lst (((Wf i).flatMap λ(i:Nat)=>[[(2:Int),1,1,2,1].getD (o+i).toNat 0,[2,1,1,2,1].getD (t+i).toNat 0]).map D.int))):GaI d0 d1 o t l r ν i [d0,d1,b4 (.int o),b4 (.int t),b4 (.loc l),b4 (.loc r),x] μ
theorem G8{a:Hm}{l:Nat}(gl:a[l]?=b4 (.lst ([2,1,1,2,1].map D.int))){z:Int}(h:0<=z/\z<5):aG (.loc l) (.int z) a=b4 (.int ([(2:Int),1,1,2,1].getD z.toNat 0),a):=by obtain⟨n,rfl⟩:∃n:Nat,z=n:=⟨z.toNat,by omega⟩;exact rW gl (by show n<5;omega)
theorem U4{o t:Int}(s:0<=o/\o<3)(u:0<=t/\t<3){i:Nat}(q:i<3){l r:Nat}(e:l≠r){d0 d1:Option D}{ν b:Hm}{R:Fl×aE×Hm->Prop}(m:ν.length<=r)(p:ν<+:b){gs:List Int}(n:gs.length<=6)(gl:b[l]?=b4 (.lst ([2,1,1,2,1].map D.int)))(d:b[r]?=b4 (.lst (gs.map D.int)))
  (H:∀a,ν<+:a->a[l]?=b4 (.lst ([2,1,1,2,1].map D.int))->a[r]?=b4 (.lst ((gs++[[(2:Int),1,1,2,1].getD (o+i).toNat 0,[2,1,1,2,1].getD (t+i).toNat 0]).map D.int))->R (.nx,[d0,d1,b4 (.int o),b4 (.int t),b4 (.loc l),b4 (.loc r),b4 (.int (i:Int))],a)) :
  W (AR [d0,d1,b4 (.int o),b4 (.int t),b4 (.loc l),b4 (.loc r),b4 (.int (i:Int))] b) R:=by
 have h:=G8 (z:=o+i) gl (by omega);have j:=G8 (z:=t+i) gl (by omega);refine w_mDrop.mpr (eW ⟨_,rfl,eX d,bJ (w_mLst.mpr (bJ (bY rfl rfl ⟨_,h,bJ (bY rfl rfl ⟨_,j,_,rfl,k6,_,rfl,?_⟩)⟩)))⟩);have c:=aX b (C.lst [.int ([(2:Int),1,1,2,1].getD (o+i).toNat 0),.int ([(2:Int),1,1,2,1].getD (t+i).toNat 0)]);refine(uX (aN c d) (bK _ _) (by rw[VI,V9];show gs.length+2<=_;omega)).mpr (H _ (iD (p.trans c) m _) ?_ ?_)
 ·rw[Wl (WG e)];exact aN c gl
 ·rw[eD (aN c d),Wz];rfl
theorem U5(k:Nat)(v:Int)(c:Int×Int)(b:Hm)(Q:D×Hm->Prop)(H:∀a μ' (gs:List Int),b<+:μ'->b.length<=a->μ'[a]?=b4 (.lst (gs.map D.int))->i0 c.1 gs=b8->Q (.loc a,μ')):W (f (k+1) "_law_gaps" [.int v,PP c] b) Q:=by
 refine cI (SR k _ _ b) (gD (b:=c.1%4==2) (μ':=b) (by kernel_rfl) (λh=>?_) λh=>eC ?_)
 ·refine k8 (aW ⟨_,rfl,_,rfl,?_⟩);have d:=aX b (C.lst ([2,2,2,2].map D.int));have j:=aX (b++[C.lst ([2,2,2,2].map D.int)]) (C.lst ([4,4].map D.int));have l:=aX ((b++[C.lst ([2,2,2,2].map D.int)])++[C.lst ([4,4].map D.int)]) (C.lst [.loc b.length,.loc (b++[C.lst ([2,2,2,2].map D.int)]).length]);have r:=bK ((b++[C.lst ([2,2,2,2].map D.int)])++[C.lst ([4,4].map D.int)]) (C.lst [.loc b.length,.loc (b++[C.lst ([2,2,2,2].map D.int)]).length]);have e:v%2=0\/v%2=1:=by omega
  have s:∀gs∈[[(2:Int),2,2,2],[4,4]],i0 c.1 gs=true:=by unfold i0;rw[h];decide
  rcases e with e|e
  ·rw[e];exact(f9 r (show _=b4 _ from rfl)).mpr (H _ _ [2,2,2,2] (d.trans (j.trans l)) (VS _) (aN (j.trans l) (bK _ _)) (s _ (by decide)))
  ·rw[e];exact(f9 r (show _=b4 _ from rfl)).mpr (H _ _ [4,4] (d.trans (j.trans l)) d.length_le (aN l (bK _ _)) (s _ (by decide)))
 ·refine a9 (bB (r:=(.int (v/6%3),b)) (by kernel_rfl) (a9 (bB (r:=(.int (v/18%3),b)) (by kernel_rfl) ?_)));obtain⟨z,y⟩:=U3 _ (G7 (v/6)) _ (G7 (v/18));have w:0<=v/6%3/\v/6%3<3:=by omega
  have x:0<=v/18%3/\v/18%3<3:=by omega
  generalize v/6%3=o at *;generalize v/18%3=t at *;refine gD (b:=v%6==0) (μ':=b) (by kernel_rfl) (λ_=>k8 ?_) λ_=>eC ?_
  ·exact⟨_,rfl,H _ _ [4,4] (aX _ _) (VS _) (bK _ _) (Bl h (by decide))⟩
  refine gD (b:=v%6==1) (μ':=b) (by kernel_rfl) (λ_=>rQ ?_) λ_=>eC ?_
  ·refine a9 ⟨_,rfl,rQ (a9 ⟨_,rfl,rQ (eY (w_mForI.mpr ((mS (j:=0)).mpr ⟨_,rfl,⟨by decide,by decide⟩,?_⟩)))⟩)⟩;refine j8 (lo:=0) (n:=3) (b:=AR) (GaI (b4 (.int v)) (b4 (PP c)) o t b.length (b++[C.lst ([2,1,1,2,1].map D.int)]).length b) (.mk ((aX _ _).trans (aX _ _)) (aN (aX _ _) (bK _ _)) (bK _ _)) ?_ ?_
   ·rintro i B q u ⟨d,gl,n⟩;refine⟨_,rfl,?_⟩;rw[ZA];refine U4 w x u (by rw[V1];show _≠_+1;omega) (by rw[V1];omega) d ?_ gl n λA j m p=>.mk j m ?_
    ·have:=mX (f:=λ(i:Nat)=>[[(2:Int),1,1,2,1].getD (o+i).toNat 0,[2,1,1,2,1].getD (t+i).toNat 0]) (n:=2) (λ_=>VS _) (Wf i);rw[WW]at this;omega
    ·rw[p,Zc,Y3];rfl
   ·rintro B q ⟨d,gl,n⟩;exact⟨rfl,k8 ⟨_,rfl,H _ _ (G5 o t) d (by rw[V1];omega) n (Bl h z)⟩⟩
  ·exact cJ ⟨_,rfl,H _ _ (G6 o t) (aX _ _) (VS _) (bK _ _) (Bl h y)⟩
theorem U6{c:MT}{b:MS}{Q:Fl×aE×Hm->Prop}(I:Nat->aE->Hm->Prop)
  (w:∀m a i,I m a i->W (c a i) λp=>if p.1=b8 then W (b a p.2) λq=>match q.1 with
   |.nx=>∃e,e<m/\I e q.2.1 q.2.2|.ct=>∃e,e<m/\I e q.2.1 q.2.2|.bk=>Q (.nx,q.2.1,q.2.2)
   |.rt d=>Q (.rt d,q.2.1,q.2.2)else Q (.nx,a,p.2)):∀(n m:Nat)(a:aE)(i:Hm),m<n->I m a i->W (mE c b n a i) Q:=by
 intro n;induction n with
 |zero=>intro m a i h;omega|succ n r=>
  intro m a i B v;unfold mE;rw[W_bind];refine bE (w m a i v) λp o=>?_;obtain⟨x,y⟩:=p;cases x with
  |false=>exact W_some.mpr (by simpa using o)|true=>
   simp only[if_true]at o;dsimp only;rw[W_bind];refine bE o λq j=>?_;obtain⟨s,A,z⟩:=q;cases s with
   |nx=>obtain⟨e,u,l⟩:=j;exact r e _ _ (by omega) l|ct=>obtain⟨e,u,l⟩:=j;exact r e _ _ (by omega) l|bk=>exact W_some.mpr j|rt d=>exact W_some.mpr j
theorem U7{c:MT}{b:MS}{a:aE}{e:Hm}{Q:Fl×aE×Hm->Prop}(I:Nat->aE->Hm->Prop)(m:Nat)(j:m<1000000000)(i:I m a e)
  (l:∀m a e,I m a e->W (c a e) λp=>if p.1=b8 then W (b a p.2) λq=>match q.1 with
   |.nx=>∃h,h<m/\I h q.2.1 q.2.2|.ct=>∃h,h<m/\I h q.2.1 q.2.2|.bk=>Q (.nx,q.2.1,q.2.2)
   |.rt d=>Q (.rt d,q.2.1,q.2.2)else Q (.nx,a,p.2)):W (nY oY c b a e) Q:=by
 unfold nY;exact U6 I l oY m a e (by unfold oY;exact j) i
theorem mem_pl{w h:Int}{p:Int×Int}:p∈cE w h↔(0<p.1/\p.1<4*w)/\0<p.2/\p.2<4*h:=by
 unfold cE j9 lE;rw[List.mem_flatMap];constructor
 ·rintro⟨i,a,c⟩;obtain⟨j,b,rfl⟩:=Wm.mp c;have:=WZ.mp a;have:=WZ.mp b;dsimp only;omega
 ·intro⟨d,e⟩;refine⟨(p.1-1).toNat,WZ.mpr (by omega),Wm.mpr ⟨(p.2-1).toNat,WZ.mpr (by omega),Yq ?_ ?_⟩⟩<;>dsimp only<;>omega
theorem vW{p:Int×Int}(h1:p.1%2=1)(a:p.2%2=1):c6 p=true:=by unfold c6;rw[if_pos (beq_iff_eq.mpr h1)];exact beq_iff_eq.mpr a
theorem vX{p:Int×Int}(h1:p.1%2=0)(a:p.2%2=0)(b:p.1%4≠p.2%4):c6 p=true:=by unfold c6;rw[if_neg (by rw[beq_iff_eq];omega),beq_iff_eq.mpr a,beq_false_of_ne b];rfl
noncomputable def dA(w h:Int)(p:Int×Int):Prop:=p∈(cE w h).filter c6
theorem kF{w h:Int}{p:Int×Int}(h1:0<p.1/\p.1<4*w)(a:0<p.2/\p.2<4*h)(b:c6 p=b8):dA w h p:=Xk.mpr ⟨mem_pl.mpr ⟨h1,a⟩,b⟩
theorem U8{w h:Int}(hw:w<=6)(l:h<=6){c:Int×Int}(hc:c∈bA w h){r d:Int}(a:(r,d)∈E8)(m:c.1%4=2->r%2=1)(n:Nat)(o:0<c.1+2*(r*n)/\c.1+2*(r*n)<4*w)(p:0<c.2+2*(d*n)/\c.2+2*(d*n)<4*h) :
  n+1<=(if r%2=1 then 11 else 5)/\dA w h (c.1+2*(r*n)+r,c.2+2*(d*n)+d):=by
 obtain⟨e,b⟩:=Xk.mp hc;obtain⟨i,j⟩:=mem_pl.mp e;obtain⟨x,y⟩:=c;unfold cK at b;simp only[VO,beq_iff_eq]at b;dsimp only at *;unfold E8 at a;simp only[Wr,a4s,Yr,or_false]at a;rcases a with⟨rfl,rfl⟩|⟨rfl,rfl⟩|⟨rfl,rfl⟩|⟨rfl,rfl⟩|⟨rfl,rfl⟩|⟨rfl,rfl⟩|⟨rfl,rfl⟩|⟨rfl,rfl⟩
 ·exact⟨by rw[if_neg (by decide)];omega,kF (by dsimp only;omega) (by dsimp only;omega) (vX (by dsimp only;omega) (by dsimp only;omega) (by dsimp only;omega))⟩
 ·exact⟨by rw[if_pos (by decide)];omega,kF (by dsimp only;omega) (by dsimp only;omega) (vW (by dsimp only;omega) (by dsimp only;omega))⟩
 ·exact⟨by rw[if_neg (by decide)];omega,kF (by dsimp only;omega) (by dsimp only;omega) (vX (by dsimp only;omega) (by dsimp only;omega) (by dsimp only;omega))⟩
 ·exact⟨by rw[if_pos (by decide)];omega,kF (by dsimp only;omega) (by dsimp only;omega) (vW (by dsimp only;omega) (by dsimp only;omega))⟩
 ·exact⟨by rw[if_neg (by decide)];omega,kF (by dsimp only;omega) (by dsimp only;omega) (vX (by dsimp only;omega) (by dsimp only;omega) (by dsimp only;omega))⟩
 ·exact⟨by rw[if_pos (by decide)];omega,kF (by dsimp only;omega) (by dsimp only;omega) (vW (by dsimp only;omega) (by dsimp only;omega))⟩
 ·exact⟨by rw[if_neg (by decide)];omega,kF (by dsimp only;omega) (by dsimp only;omega) (vX (by dsimp only;omega) (by dsimp only;omega) (by dsimp only;omega))⟩
 ·exact⟨by rw[if_pos (by decide)];omega,kF (by dsimp only;omega) (by dsimp only;omega) (vW (by dsimp only;omega) (by dsimp only;omega))⟩
theorem rZ{a b c:ME}{e:aE}{d:Hm}{x y z:Int}(h:a e d=b4 (.int x,d))(i:b e d=b4 (.int y,d))(hc:c e d=b4 (.int z,d)):fY dD dD a b c e d=b4 (.bl (decide (x<y)&&decide (y<z)),d):=bO (w_mChain.mpr ⟨_,h,_,i,w_ltI.mpr (by
 show if _ then _ else _
 cases decide (x<y)with
 |true=>exact(if_pos rfl).mpr ⟨_,hc,w_ltI.mpr rfl⟩
 |false=>exact(if_neg VZ).mpr rfl)⟩)
theorem pJ{m:ME}{c:aE}{a:Hm}{b:Bool}(h:m c a=b4 (.bl b,a)):aS m c a=b4 (b,a):=bO (dR ⟨_,h,_,rfl,rfl⟩)
theorem Bm{s t:MT}{d:aE}{c:Hm}{a b:Bool}(e:s d c=b4 (a,c))(h:t d c=b4 (b,c)):fT s t d c=b4 (a&&b,c):=bO (w_mAndT.mpr ⟨_,e,by
 cases a with
 |true=>exact(if_pos rfl).mpr ⟨_,h,rfl⟩
 |false=>exact(if_neg VZ).mpr rfl⟩)
noncomputable def vY(w h v:Int)(s q:Nat)(c:Int×Int)(l:Nat)(k g r d x y:Int):aE:=[b4 (.tup [.int w,.int h]),b4 (.int v),b4 (.loc s),b4 (.loc q),b4 (PP c),b4 (.loc l),b4 (.int k),b4 (.int g),b4 (.int r),b4 (.int d),b4 (.int x),b4 (.int y)]
inductive RyI (w h v:Int)(s q:Nat)(c:Int×Int)(l:Nat)(k g r d:Int)(ν:Hm)(fs:List (Int×Int)):Nat->aE->Hm->Prop
 |mk {m n:Nat}{es:List (Int×Int)}{x y:Int}(hm:m+n=12)(hn:n<=(if r%2=1 then 11 else 5))(hl:es.length=n)(hE:∀p∈es,dA w h p)(hx:x=c.1+2*(r*n))(hy:y=c.2+2*(d*n)):RyI w h v s q c l k g r d ν fs m (vY w h v s q c l k g r d x y) (ν.set l (.lst ((fs++es).map PP)))
theorem U9{w h:Int}(hw:w<=6)(G:h<=6){c:Int×Int}(hc:c∈bA w h){r d:Int}(K:(r,d)∈E8)(J:c.1%4=2->r%2=1){v k g:Int}{s q l:Nat}{ν:Hm}{fs:List (Int×Int)}(gl:ν[l]?=b4 (.lst (fs.map PP)))(M:fs.length<=900){R:Fl×aE×Hm->Prop}
  (H:∀(es:List (Int×Int)) x y,es.length<=(if r%2=1 then 11 else 5)->(∀p∈es,dA w h p)->R (.nx,vY w h v s q c l k g r d x y,ν.set l (.lst ((fs++es).map PP)))) :
  W (nY oY FU FV (vY w h v s q c l k g r d c.1 c.2) ν) R:=by
 have B:ν=ν.set l (.lst ((fs++[]).map PP)):=by rw[X1];exact(pF gl).symm
 refine U7 (RyI w h v s q c l k g r d ν fs) 12 (by decide) ?_ ?_
 ·have:=RyI.mk (w:=w) (h:=h) (v:=v) (s:=s) (q:=q) (c:=c) (l:=l) (k:=k) (g:=g) (r:=r) (d:=d) (ν:=ν) (fs:=fs) (m:=12) (n:=0) (es:=[]) (x:=c.1) (y:=c.2) rfl (Yb _) rfl (λ_ h=>nomatch h) (by omega) (by omega);rw[<- B]at this;exact this
 ·rintro m _ _ ⟨N,O,I,A,i,j⟩;rename_i n es x y;refine⟨_,Bm (pJ (rZ (x:=0) (y:=x) (z:=4*w) rfl rfl rfl)) (pJ (rZ (x:=0) (y:=y) (z:=4*h) rfl rfl rfl)),?_⟩;by_cases a:((0<x/\x<4*w)/\0<y/\y<4*h)
  ·rw[decide_eq_true a.1.1,decide_eq_true a.1.2,decide_eq_true a.2.1,decide_eq_true a.2.2];obtain⟨L,o⟩:=U8 hw G hc K J n (by rw[<- i];exact a.1) (by rw[<- j];exact a.2);rw[<- i,<- j]at o;have u:=eD (c':=C.lst ((fs++es).map PP)) gl;have E:(if r%2=1 then 11 else 5)<=11:=by split<;>omega
   refine(if_pos rfl).mpr (k7 (eW ⟨_,rfl,eX u,bB (r:=([PP (x+r,y+d)],_)) rfl ((iT u (by rw[VI,V1,V9];omega)).mpr ?_)⟩));refine a9 (bB (r:=(.int (x+2*r),_)) rfl (w_mSet.mpr (bB (r:=(.int (y+2*d),_)) rfl ⟨m-1,by omega,?_⟩)));rw[AY,show(fs++es).map PP++[PP (x+r,y+d)]=(fs++(es++[(x+r,y+d)])).map PP by simp];refine .mk (n:=n+1) (by omega) (by omega) (by rw[V1,I];rfl) (λp b=>?_) ?_ ?_
   ·rcases Xa.mp b with b|b
    ·exact A p b
    ·rw[WL.mp b];exact o
   ·rw[i,a4N,a6m];omega
   ·rw[j,a4N,a6m];omega
  ·have e:(decide (0<x)&&decide (x<4*w)&&(decide (0<y)&&decide (y<4*h)))=false:=by rw[Bool.eq_false_iff];intro z;simp only[VO,decide_eq_true_eq]at z;exact a ⟨z.1,z.2⟩
   rw[e];exact(if_neg VZ).mpr (H _ _ _ (by omega) A)
theorem Va:∀i:Nat,i<8->(E8.getD i (0,0))∈E8/\((E8.getD i (0,0)).1%2=1↔(i:Int)%2=1):=by decide
theorem Vb{w h:Int}(hw:w<=6)(E:h<=6){c:Int×Int}(hc:c∈bA w h){v k g:Int}(I:c.1%4=2->k%2=1){s q l:Nat}{ν:Hm}{fs:List (Int×Int)}(gs:ν[s]?=b4 (.lst (E8.map PP)))(gl:ν[l]?=b4 (.lst (fs.map PP)))(B:fs.length<=900){x8 x9 x10 x11:Option D}{R:Fl×aE×Hm->Prop}
  (H:∀(es:List (Int×Int)) r d x y,es.length<=(if k%2=1 then 11 else 5)->(∀p∈es,dA w h p)->R (.nx,vY w h v s q c l (k+g) g r d x y,ν.set l (.lst ((fs++es).map PP)))) :
  W (vB [b4 (.tup [.int w,.int h]),b4 (.int v),b4 (.loc s),b4 (.loc q),b4 (PP c),b4 (.loc l),b4 (.int k),b4 (.int g),x8,x9,x10,x11] ν) R:=by
 obtain⟨j,G⟩:∃j:Nat,k%8=j:=⟨(k%8).toNat,by omega⟩;have a:j<8:=by omega
 obtain⟨m,n⟩:=Va j a;have i:aG (.loc s) (.int (k%8)) ν=b4 (PP (E8.getD j (0,0)),ν):=by rw[G];exact fH gs a
 generalize E8.getD j (0,0)=e at m n i;have b:(e.1%2=1)=(k%2=1):=propext (n.trans (by omega));have o:(if k%2=1 then 11 else 5)=if e.1%2=1 then 11 else 5:=by simp only[b]
 rw[o]at H;refine w_mSeq.mpr (w_mAsg.mpr (bY rfl rfl ⟨_,i,w_gTup2.mpr (w_mSeq.mpr (w_mAsg.mpr ⟨_,rfl,w_gTup2.mpr (eY ?_)⟩))⟩));refine U9 (r:=e.1) (d:=e.2) hw E hc m (λz=>by rw[b];exact I z) gl B λes x y u A=>⟨rfl,w_mSet.mpr ⟨_,rfl,H es e.1 e.2 x y u A⟩⟩
inductive StI (w h v:Int)(s q:Nat)(c:Int×Int)(l:Nat)(ν:Hm)(gs:List Int):Nat->aE->Hm->Prop
 |mk {i:Nat}{k:Int}{fs:List (Int×Int)}{x7 x8 x9 x10 x11:Option D}(ho:c.1%4=2->k%2=1)(hf:fs.length+wt (k%2==1) (gs.drop i)<=54)(hE:∀p∈fs,dA w h p):StI w h v s q c l ν gs i [b4 (.tup [.int w,.int h]),b4 (.int v),b4 (.loc s),b4 (.loc q),b4 (PP c),b4 (.loc l),b4 (.int k),x7,x8,x9,x10,x11] (ν.set l (.lst (fs.map PP)))
theorem Vc(k g:Int):((k+g)%2==1)=((k%2==1) ^^ (g%2==1)):=by
 have a:k%2=0\/k%2=1:=by omega
 have b:g%2=0\/g%2=1:=by omega
 rcases a with a|a<;>rcases b with b|b
 ·rw[a,b,show(k+g)%2=0 by omega];rfl
 ·rw[a,b,show(k+g)%2=1 by omega];rfl
 ·rw[a,b,show(k+g)%2=1 by omega];rfl
 ·rw[a,b,show(k+g)%2=0 by omega];rfl
theorem Vd{x:Int}{gs:List Int}(h:i0 x gs=b8):(∀b,wt b gs<=54)/\gs.length<=6/\(x%4=2->∀g∈gs,g%2=0):=by unfold i0 at h;simp only[VO,decide_eq_true_eq,Zf,Zx,beq_eq_false_iff_ne,ne_eq,Xx,beq_iff_eq]at h;obtain⟨d,e,a,c⟩:=h;refine⟨λb=>by cases b<;>assumption,a,λz=>c.resolve_left (λn=>n z)⟩
theorem Ve{w h:Int}(hw:w<=6)(I:h<=6){c:Int×Int}(hc:c∈bA w h){v k0:Int}(K:c.1%4=2->k0%2=1){s q l b:Nat}{ν:Hm}{gs:List Int}(B:i0 c.1 gs=b8)(es:ν[s]?=b4 (.lst (E8.map PP)))(gl:ν[l]?=b4 (.lst []))(A:ν[b]?=b4 (.lst (gs.map D.int)))(L:s≠l)(bl:b≠l){R:Fl×aE×Hm->Prop}
  (H:∀(fs:List (Int×Int)) ρ,fs.length<=54->(∀p∈fs,dA w h p)->ρ[5]?=b4 (b4 (.loc l))->R (.nx,ρ,ν.set l (.lst (fs.map PP)))) :
  W (fB (eI (.loc b)) (cN 7) vB ((gs.map D.int).length+1) 0 [b4 (.tup [.int w,.int h]),b4 (.int v),b4 (.loc s),b4 (.loc q),b4 (PP c),b4 (.loc l),b4 (.int k0),b6,b6,b6,b6,b6] ν) R:=by
 obtain⟨M,X,N⟩:=Vd B;have E:ν=ν.set l (.lst (([]:List (Int×Int)).map PP)):=(pF gl).symm;refine jP (StI w h v s q c l ν gs) ?_ ?_ ?_ ?_
 ·have:=StI.mk (w:=w) (h:=h) (v:=v) (s:=s) (q:=q) (c:=c) (l:=l) (ν:=ν) (gs:=gs) (i:=0) (k:=k0) (fs:=[]) (x7:=b6) (x8:=b6) (x9:=b6) (x10:=b6) (x11:=b6) K (by rw[a1Z,YB,a2X];exact M _) (λ_ h=>nomatch h);rw[<- E]at this;exact this
 ·rintro _ _ _ ⟨_,_,_⟩;rw[Wl (WG bl)];exact A
 ·rintro i d _ _ hd ⟨a,n,m⟩;rename_i k fs Y Z x9 O Q;obtain⟨g,u,rfl⟩:∃g,gs[i]?=b4 g/\D.int g=d:=by rw[V5]at hd;exact VJ.mp hd
  obtain⟨J,o⟩:=VN.mp u;rw[a0b J,o]at n;unfold wt at n;refine⟨_,rfl,Vb hw I hc a (by rw[Wl (WG L)];exact es) (eD gl) (by omega) λe r T x y U G=>?_⟩;rw[AY];refine .mk (k:=k+g) (λz=>?_) ?_ λp j=>?_
  ·have:=a z;have:=N z g (WO u);omega
  ·rw[Vc,V1];have:(if(k%2==1)=b8 then 11 else 5)=if k%2=1 then 11 else 5:=by simp only[beq_iff_eq]
   omega
  ·rcases Xa.mp j with j|j
   ·exact m p j
   ·exact G p j
 ·rintro _ _ ⟨_,n,m⟩;exact H _ _ (by omega) m rfl
theorem Vf{w h:Int}(hw:1<=w)(a:1<=h):0<(bA w h).length:=a2I (a:=(2,2)) (Xk.mpr ⟨mem_pl.mpr ⟨⟨by decide,by dsimp only;omega⟩,by decide,by dsimp only;omega⟩,by decide⟩)
theorem Vg(k:Nat){w h:Int}(hw:1<=w/\w<=6)(n:1<=h/\h<=6)(v:Int)(i:Hm)(Q:D×Hm->Prop)(H:∀a μ' (fs:List (Int×Int)),i<+:μ'->i.length<=a->μ'[a]?=b4 (.lst (fs.map PP))->fs.length<=54->(∀p∈fs,dA w h p)->Q (.loc a,μ')):W (f (k+3) "_law_star" [.tup [.int w,.int h],.int v] i) Q:=by
 refine cI (SS (k+2) _ _ i) (a9 (bB (r:=(.loc i.length,i++[.lst (E8.map PP)])) (by kernel_rfl) (a9 (aP rfl (A9 k hw n _ _ λa e x r=>?_)))));have X:=Vf hw.1 n.1;have E:bH [.loc a] e=b4 (.int ((bA w h).length:Nat),e):=bO ((dP r).mpr (by rw[VI];rfl));obtain⟨j,M⟩:∃j:Nat,v%((bA w h).length:Int)=j:=⟨(v%((bA w h).length:Int)).toNat,by have:=Zh v (b:=((bA w h).length:Int)) (by omega);omega⟩;have l:j<(bA w h).length:=by have:=YA v (b:=((bA w h).length:Int)) (by omega);omega
 refine a9 (aW ⟨_,rfl,aW ⟨_,rfl,aP rfl (bB E ((dW (by omega)).mpr ?_))⟩⟩);rw[M];refine⟨_,fH (cr:=bA w h) r l,?_⟩;have hc:(bA w h).getD j (0,0)∈bA w h:=by rw[Yg,VT l];exact Yc l
 generalize(bA w h).getD j (0,0)=c at hc ⊢;have A:i<+:e:=(aX _ _).trans x;have s:=aN x (bK i (C.lst (E8.map PP)));have Y:i.length<e.length:=(VN.mp s).1;have fin:∀(R:Fl×aE×Hm->Prop),(∀d B μ',Q (d,μ')->R (.rt d,B,μ'))->∀o:Int,(c.1%4=2->o%2=1)->W ((aH (cR (cC (aF (f (k+2) "_law_gaps") (aB (aC cY (aA 1) (mC (.int 256))) (aB (aA 4) aD)))) (cN 7) vB) (aO (aA 5))) [b4 (.tup [.int w,.int h]),b4 (.int v),b4 (.loc i.length),b4 (.loc a),b4 (PP c),b4 (.loc e.length),b4 (.int o),b6,b6,b6,b6,b6] (e++[C.lst []])) R:=λR L o N=>by refine eY (w_mForI.mpr (w_iSeq.mpr (aP (ds:=[.int (v/256),PP c]) (μ':=e++[C.lst []]) (by kernel_rfl) (U5 (k+1) _ c _ _ λb T U m O u G=>(dQ u).mpr ?_))));rw[V1]at O;refine Ve hw.2 n.2 hc N G (aN ((aX _ _).trans m) s) (aN m (bK _ _)) u (by omega) (by show _≠_;have:[C.lst []].length=1:=rfl;omega) λfs B I J K=>⟨rfl,cJ ⟨_,by show aA 5 _ _=_;simp only[aA,K];rfl,?_⟩⟩;exact L _ _ _ (H _ _ fs (A.trans (iD ((aX _ _).trans m) (VS _) _)) A.length_le (eD (aN m (bK _ _))) I J)
 refine a9 ⟨_,rfl,a9 (bB (r:=(.int (v/32%8),e++[C.lst []])) (by kernel_rfl) (gD (b:=c.1%4==2) (μ':=e++[C.lst []]) (by kernel_rfl) (λz=>a9 (aW (aW (bB (r:=(.int (v/32%4),e++[C.lst []])) (by kernel_rfl) ⟨_,rfl,(kZ (.inr ⟨by decide,by decide⟩)).mpr ⟨_,rfl,w_addI.mpr ?_⟩⟩)))) λz=>eC ?_))⟩
 ·refine fin _ ?_ (v/32%8) ?_
  ·exact λ_ _ _ q=>q
  ·exact λy=>absurd (z.symm.trans (beq_iff_eq.mpr y)) VZ
 ·refine fin _ ?_ (v/32%4*2+1) ?_
  ·exact λ_ _ _ q=>q
  ·exact λ_=>by omega
inductive CiI (w h:Int)(d0 d1 d2 d3 d5:Option D)(l n:Nat)(ν:Hm):Nat->aE->Hm->Prop
 |mk {i:Nat}{fs:List (Int×Int)}{x:Option D}(nd:fs.Nodup)(hE:∀p∈fs,dA w h p)(hl:fs.length<=n+i):CiI w h d0 d1 d2 d3 d5 l n ν i [d0,d1,d2,d3,b4 (.loc l),d5,x] (ν.set l (.lst (fs.map PP)))
theorem Vh{w h:Int}{d0 d1 d2 d3 d5 x:Option D}{l a:Nat}{ν:Hm}{fs n:List (Int×Int)}(J:fs.Nodup)(A:∀p∈fs,dA w h p)(B:∀p∈n,dA w h p)(L:fs.length<=200)(M:n.length<=54)(gl:ν[l]?=b4 (.lst (fs.map PP)))(v:ν[a]?=b4 (.lst (n.map PP)))(u:a≠l){R:Fl×aE×Hm->Prop}
  (H:∀(gs:List (Int×Int)) y,gs.Nodup->(∀p∈gs,dA w h p)->gs.length<=fs.length+54->R (.nx,[d0,d1,d2,d3,b4 (.loc l),d5,y],ν.set l (.lst (gs.map PP)))) :
  W (fB (eI (.loc a)) (cN 6) FW ((n.map PP).length+1) 0 [d0,d1,d2,d3,b4 (.loc l),d5,x] ν) R:=by
 refine jP (CiI w h d0 d1 d2 d3 d5 l fs.length ν) ?_ ?_ ?_ ?_
 ·have:=CiI.mk (d0:=d0) (d1:=d1) (d2:=d2) (d3:=d3) (d5:=d5) (l:=l) (n:=fs.length) (ν:=ν) (i:=0) (x:=x) J A (VS _);rw[pF gl]at this;exact this
 ·rintro _ _ _ ⟨_,_,_⟩;rw[Wl (WG u)];exact v
 ·rintro i d _ _ hd ⟨c,b,m⟩;rename_i gs y;obtain⟨z,s,rfl⟩:=mV hd;have o:=eD (c':=C.lst (gs.map PP)) gl;have K:=(VN.mp s).1;refine⟨_,rfl,w_mIfS.mpr (dR (bY rfl rfl ((Ba o).mpr ⟨_,rfl,?_⟩)))⟩;cases r:gs.any λp=>p==z with
  |true=>exact(if_neg VZ).mpr (w_mNext.mpr (.mk c b (by omega)))|false=>
   refine(if_pos rfl).mpr (w_mDrop.mpr (eW ⟨_,rfl,eX o,_,rfl,(iT o (by rw[VI,V9];omega)).mpr ?_⟩));have G:z∉gs:=λE=>by have:(gs.any λp=>p==z)=true:=a0l.mpr ⟨z,E,beq_self_eq_true z⟩;rw[this]at r;cases r
   rw[AY,show gs.map PP++[PP z]=(gs++[z]).map PP by rw[Wz];rfl];refine .mk (a1d.mpr ⟨c,W4.mpr ⟨Yr,.nil⟩,λp j q I e=>G ?_⟩) (λp j=>?_) (by rw[V1];show _+1<=_;omega)
   ·rw[<- WL.mp I,<- e];exact j
   ·rcases Xa.mp j with j|j
    ·exact b p j
    ·rw[WL.mp j];exact B z (WO s)
 ·rintro _ _ ⟨c,b,m⟩;rw[VI]at m;exact H _ _ c b (by omega)
inductive CoI (w h:Int)(d0 d1 d2 d3:Option D)(l:Nat)(ν:Hm):Nat->aE->Hm->Prop
 |mk {i:Nat}{fs:List (Int×Int)}{x5 x6:Option D}{μ:Hm}(nd:fs.Nodup)(hE:∀p∈fs,dA w h p)(hl:fs.length<=54*i)(p:ν<+:μ)(g:μ[l]?=b4 (.lst (fs.map PP))):CoI w h d0 d1 d2 d3 l ν i [d0,d1,d2,d3,b4 (.loc l),x5,x6] μ
theorem G9{w h:Int}(hw:1<=w/\w<=3)(b:1<=h/\h<=3){es:List (Int×Int)}(c:es.Nodup)(a:∀p∈es,dA w h p):es.length<=48:=WM (Zn c a) (Bj w (in3' hw) h (in3' b)).2.2.2.1
theorem Vi(k:Nat)(ns:List Int){w h:Int}(hw:1<=w/\w<=6)(o:1<=h/\h<=6)(x:dJ ns 0/9%6<3\/dJ ns 0/9%6=5->w<=3/\h<=3)(b:Hm)(Q:D×Hm->Prop)(H:∀a μ' (es:List (Int×Int)),b<+:μ'->μ'[a]?=b4 (.lst (es.map PP))->es.Nodup->(∀p∈es,dA w h p)->es.length<=54->Q (.loc a,μ')):W (f (k+6) "_law_creases" [.rol (ns.map D.int),.int 0,.tup [.int w,.int h]] b) Q:=by
 refine cI (SU (k+5) _ _ _ b) (a9 (aW (aW (aP rfl (pH (k+4) ns (by omega) _ _ ⟨_,rfl,(rN (by decide) (by decide)).mpr ⟨_,rfl,(dW (by decide)).mpr ?_⟩⟩)))));have U:0<=dJ ns 0/9%6/\dJ ns 0/9%6<6:=by omega
 generalize dJ ns 0/9%6=v at U x ⊢;refine gD (b:=decide (v<3)) (μ':=b) (by kernel_rfl) (λz=>k8 ?_) λz=>eC ?_
 ·have z:=of_decide_eq_true z;obtain⟨j,l⟩:=x (.inl z);obtain⟨nq,lq,ne,le,l0⟩:=Bj w (in3' ⟨hw.1,j⟩) h (in3' ⟨o.1,l⟩);refine aP rfl (US k ns ⟨hw.1,j⟩ ⟨o.1,l⟩ _ _ λa Z es B r I=>H _ _ es B r (I.nodup ne) (λp T=>I.subset T) (by have:=I.length_le;omega))
 ·have z:=of_decide_eq_false z;refine a9 ⟨_,rfl,eY (w_mForI.mpr ((mS (j:=0)).mpr (bJ (aW (bB (r:=(.loc (b++[C.lst []]).length,(b++[C.lst []])++[C.lst ([1,1,2].map D.int)])) rfl ⟨_,rfl,?_⟩)))))⟩;have B:=aX b (C.lst []);have E:=aX (b++[C.lst []]) (C.lst ([1,1,2].map D.int));have s:=bK (b++[C.lst []]) (C.lst ([1,1,2].map D.int));have r:=aN E (bK b (C.lst []));generalize hm:(b++[C.lst []])++[C.lst ([1,1,2].map D.int)]=μ2 at E r s ⊢;have c:∀n:Nat,(n=1\/w<=3/\h<=3)->W (fB (iK 0 n) (cN 5) (FX (k+5)) (n+1) 0 [b4 (.rol (ns.map D.int)),b4 (.int 0),b4 (.tup [.int w,.int h]),b4 (.int v),b4 (.loc b.length),b6,b6] μ2) λp=>p.1=.nx/\W (aO (aA 4) p.2.1 p.2.2) λp=>match p.1 with|.rt d=>Q (d,p.2.2)|.nx=>Q (.non,p.2.2)|_=>False:=λn K=>by
   refine j8 (lo:=0) (CoI w h (b4 (.rol (ns.map D.int))) (b4 (.int 0)) (b4 (.tup [.int w,.int h])) (b4 (.int v)) b.length b) (.mk (fs:=[]) .nil (λ_ h=>nomatch h) (VS _) (B.trans E) r) ?_ ?_
   ·rintro i _ e hi ⟨q,m,O,p,g⟩;rename_i fs x5 x6;refine⟨_,rfl,w_mForI.mpr (w_iSeq.mpr (jQ (bJ ⟨_,rfl,bJ (aP rfl (pH (k+4) ns (by omega) _ _ ⟨_,rfl,Vg (k+2) hw o _ _ _ λa μ4 ss G L J Y M=>(dQ J).mpr ?_⟩))⟩)))⟩;have L:e.length<=a:=L;have lm:b.length<e.length:=(VN.mp g).1;have N:fs.length<=200:=by
     rcases K with rfl|⟨j,l⟩
     ·omega
     ·have:=G9 ⟨hw.1,j⟩ ⟨o.1,l⟩ q m;omega
    refine Vh q m M N Y (aN G g) J (by omega) λgs y A u R=>.mk A u (by omega) (iD (p.trans G) (VS _) _) (eD (aN G g))
   ·rintro _ e ⟨q,m,O,p,g⟩;refine⟨rfl,cJ ⟨_,rfl,H _ _ _ p g q m ?_⟩⟩;rcases K with rfl|⟨j,l⟩
    ·omega
    ·have:=G9 ⟨hw.1,j⟩ ⟨o.1,l⟩ q m;omega
  have X:v=3\/v=4\/v=5:=by omega
  rcases X with rfl|rfl|rfl
  ·exact⟨_,bO ((f9 s (show atI _ ((3:Int)-3)=b4 (.int 1)from rfl)).mpr rfl),_,rfl,⟨by decide,by decide⟩,c 1 (.inl rfl)⟩
  ·exact⟨_,bO ((f9 s (show atI _ ((4:Int)-3)=b4 (.int 1)from rfl)).mpr rfl),_,rfl,⟨by decide,by decide⟩,c 1 (.inl rfl)⟩
  ·exact⟨_,bO ((f9 s (show atI _ ((5:Int)-3)=b4 (.int 2)from rfl)).mpr rfl),_,rfl,⟨by decide,by decide⟩,c 2 (.inr (x (.inr rfl)))⟩
theorem pK{g:MF}{ms:MA}{b:aE}{a μ':Hm}{ds:List D}{r:D×Hm}(h:ms b a=b4 (ds,μ'))(e:g ds μ'=b4 r):aF g ms b a=b4 r:=bO (aP h ⟨_,e,rfl⟩)
theorem vZ{o:Option (D×Hm)}{m:ME}{b:aE}{a:Hm}{r:D×Hm}(e:o=fin (aO m b a))(h:m b a=b4 r):o=b4 r:=bO (cI e (cJ ⟨_,h,rfl⟩))
theorem Bn(k:Nat)(i:Int)(a:Hm):f (k+1) "is_whole" [.int i] a=b4 (.bl b8,a):=(F1 k _ a).trans (by kernel_rfl)
theorem Ha(k:Nat){i:Int}(h:1<=i/\i<=6)(a:Hm):f (k+2) "is_size" [.int i] a=b4 (.bl b8,a):=vZ (Sb (k+1) _ a) (kE (pK rfl (Bn k i a)) (bO (w_mChain.mpr ⟨_,rfl,_,rfl,w_leI.mpr (by
 rw[decide_eq_true h.1];exact(if_pos rfl).mpr ⟨_,rfl,w_leI.mpr (by rw[decide_eq_true h.2])⟩)⟩)))
theorem Vj(k:Nat){w h:Int}(hw:1<=w/\w<=6)(b:1<=h/\h<=6)(a:Hm):f (k+3) "check_size" [.int w,.int h] a=b4 (.non,a):=bO (cI (Se (k+2) _ _ a) (w_mIfS.mpr (mT (w_mAndT.mpr (gX (aP rfl (bB (Ha k hw a) ⟨rfl,(if_pos rfl).mpr (gX (aP rfl (bB (Ha k b a) ⟨rfl,(if_neg VZ).mpr (w_mNext.mpr rfl)⟩)))⟩)))))))
theorem Vk(k:Nat){s:Str}(h:s="o"\/s="h"\/s="v") (a:Hm):f (k+1) "is_mark" [.str s] a=b4 (.bl b8,a):=by
 rcases h with rfl|rfl|rfl
 ·exact(AV k _ a).trans (by kernel_rfl)
 ·exact(AV k _ a).trans (by kernel_rfl)
 ·exact(AV k _ a).trans (by kernel_rfl)
theorem Vl(k:Nat){w h:Int}{e:Int×Int}(l:dA w h e)(a:Hm):f (k+3) "is_inner_edge" [.int w,.int h,PP e] a=b4 (.bl b8,a):=by
 obtain⟨m,j⟩:=Xk.mp l;obtain⟨⟨b,c⟩,d,i⟩:=mem_pl.mp m;refine vZ (Sk (k+2) _ _ _ a) (kE (d:=b8) (pK rfl (vZ (RS (k+1) _ a) (kE (c:=b8) (d:=b8) (by kernel_rfl) (kE (c:=b8) (d:=b8) (by kernel_rfl) (kE (pK rfl (Bn k _ a)) (pK rfl (Bn k _ a))))))) (kE (c:=b8) (d:=b8) (pK rfl (vZ (Sf (k+1) _ _ _ a) ?_)) (pK rfl (bO (GY (k+1) e a _ ?_)))))
 ·refine kE (c:=b8) (d:=b8) ?_ ?_
  ·refine(rZ (x:=0) (y:=e.1) (z:=4*w) rfl rfl rfl).trans ?_;rw[decide_eq_true b,decide_eq_true c];rfl
  ·refine(rZ (x:=0) (y:=e.2) (z:=4*h) rfl rfl rfl).trans ?_;rw[decide_eq_true d,decide_eq_true i];rfl
 ·rw[j]
noncomputable def fL(ms:List ((Int×Int)×Str)):List (List Int×D):=ms.map λm=>(dX m.1,.str m.2)
theorem Hb{ms:List ((Int×Int)×Str)}{p:Int×Int}(h:p∉ms.map (·.1)):bP (fL ms) (dX p)=none:=by
 unfold bP;rw[Yv.mpr]
 ·rfl
 ·intro x a;obtain⟨z,b,rfl⟩:=Wm.mp a;rw[decide_eq_true_iff];exact λe=>h (Be e▸Wm.mpr ⟨z,b,rfl⟩)
theorem Vm{ms:List ((Int×Int)×Str)}{m:(Int×Int)×Str}(h:m.1∉ms.map (·.1)):d8 (fL ms) (dX m.1) (.str m.2)=fL (ms++[m]):=by unfold d8;rw[Hb h,if_neg (by simp)];unfold fL;rw[Wz];rfl
theorem Vn(ms:List ((Int×Int)×Str)):∃S:List ((Int×Int)×Str),S.length=ms.length/\(t7 (fL ms)).map qS=S.map MD:=by
 refine⟨(cP (λi j=>HT.lexLt (((fL ms).map (·.1)).getD i []) (((fL ms).map (·.1)).getD j [])) (fL ms).length).map λi=>ms.getD i ((0,0),""),?_,?_⟩
 ·rw[VI,(j0 _ _).length_eq,WW];exact VI ..
 ·unfold t7;rw[Wo,Wo];refine X4 λi a=>?_;have a:i<(fL ms).length:=WZ.mp ((j0 _ _).mem_iff.mp a);have a:i<ms.length:=by unfold fL at a;rw[VI]at a;exact a
  unfold fL;simp[a,MD,qS,dX,PP,P]
inductive SoI (w h:Int)(a l:Nat)(ν:Hm)(ms:List ((Int×Int)×Str)):Nat->aE->Hm->Prop
 |mk {i:Nat}{x y:Option D}{μ:Hm}(p:ν<+:μ)(g:μ[l]?=b4 (.dT (fL (ms.take i)))):SoI w h a l ν ms i [b4 (.int w),b4 (.int h),b4 (.loc a),b4 (.loc l),x,y] μ
theorem Vo(k:Nat){w h:Int}{a l:Nat}{b:Hm}{m:(Int×Int)×Str}{ms:List ((Int×Int)×Str)}(d:dA w h m.1)(e:m.2="o"\/m.2="h"\/m.2="v") (c:m.1∉ms.map (·.1))(i:ms.length<=900){y:Option D}(g:b[l]?=b4 (.dT (fL ms))){R:Fl×aE×Hm->Prop}
  (H:∀y,R (.nx,[b4 (.int w),b4 (.int h),b4 (.loc a),b4 (.loc l),b4 (MD m),y],b.set l (.dT (fL (ms++[m]))))):W (AS (k+3) [b4 (.int w),b4 (.int h),b4 (.loc a),b4 (.loc l),b4 (MD m),y] b) R:=by
 refine a9 ⟨_,rfl,rP (mT (gX (aP rfl (bB (Vl k d b) ⟨rfl,rfl,eC (rP (mT (gX (aP rfl (bB (Vk (k+2) e b) ⟨rfl,rfl,eC (rP (dR (bY rfl rfl ((FJ g (lF m.1)).mpr ?_))))⟩)))))⟩))))⟩;rw[Hb c];refine⟨_,rfl,rfl,eC (w_mPut.mpr ⟨_,rfl,_,rfl,_,rfl,(AJ g (lF m.1) (by unfold fL;rw[VI,V9];omega)).mpr ?_⟩)⟩;rw[Vm c];exact H _
theorem Vp(k:Nat){w h:Int}(hw:1<=w/\w<=6)(u:1<=h/\h<=6){ms:List ((Int×Int)×Str)}(x:ms.length<64)(v:(ms.map (·.1)).Nodup)(s:∀m∈ms,dA w h m.1)(ok:∀m∈ms,m.2="o"\/m.2="h"\/m.2="v")
  {b:Hm}{a:Nat}(o:b[a]?=b4 (.lst (ms.map MD)))(Q:D×Hm->Prop)(H:∀S c,b<+:c->S.length=ms.length->Q (SH w h S,c)):W (f (k+4) "sheet_of" [.int w,.int h,.loc a] b) Q:=by
 refine cI (Sm (k+3) _ _ _ b) (k7 (aP rfl (bB (Vj k hw u b) (a9 (w_mDNewT.mpr (eY (w_mForI.mpr (w_iSeq.mpr ⟨_,rfl,(dQ (aN (aX _ _) o)).mpr ?_⟩))))))));refine jP (b:=AS (k+3)) (SoI w h a b.length b ms) (.mk (aX _ _) (by rw[Z6];exact bK _ _)) (by rintro _ _ _ ⟨p,_⟩;exact aN p o) ?_ ?_
 ·rintro i d _ _ hd ⟨p,g⟩;rw[V5]at hd;obtain⟨m,l,rfl⟩:=VJ.mp hd;have n:=WO l;refine⟨_,rfl,Vo k (s m n) (ok m n) ?_ (by rw[WV];omega) g λy=>.mk (iD p (VS _) _) ?_⟩
  ·have:=Bf v (n:=i) (x:=m.1) (by rw[V5,l];rfl);rw[<- a2v]at this;exact this
  ·rw[eD g,vQ l]
 ·rintro _ j ⟨p,g⟩;rw[VI,XH]at g;obtain⟨S,q,r⟩:=Vn ms;have e:uC (.loc b.length) j=b4 (.tup (S.map MD),j):=by simp only[uC,g];rw[if_pos (by first|exact trivial|(unfold fL;rw[VI];omega)),r]
  exact⟨rfl,cJ (w_mTup.mpr (bJ ⟨_,rfl,bJ ⟨_,rfl,bJ (W_bind.mpr ⟨_,rfl,_,e,_,rfl,by show(3:Nat)<=VW;decide,H _ _ p q⟩)⟩⟩))⟩
noncomputable def mkS:List Str:=["o","o","h","v","o","o","o","o"]
theorem Vq:∀j:Nat,j<8->∃s:Str,(s="o"\/s="h"\/s="v")/\atI (mkS.map D.str) (j:Int)=b4 (.str s)
 |0,_=>⟨"o",.inl rfl,rfl⟩|1,_=>⟨"o",.inl rfl,rfl⟩|2,_=>⟨"h",.inr (.inl rfl),rfl⟩|3,_=>⟨"v",.inr (.inr rfl),rfl⟩|4,_=>⟨"o",.inl rfl,rfl⟩|5,_=>⟨"o",.inl rfl,rfl⟩|6,_=>⟨"o",.inl rfl,rfl⟩|7,_=>⟨"o",.inl rfl,rfl⟩|n+8,h=>absurd h (by omega)
theorem Vr{i:Int}(h:0<=i/\i<3):∃t:Int,(0<t/\t<=8)/\atI ([3,4,8].map D.int) i=b4 (.int t):=by
 have:i=0\/i=1\/i=2:=by omega
 rcases this with rfl|rfl|rfl
 ·exact⟨3,by decide,rfl⟩
 ·exact⟨4,by decide,rfl⟩
 ·exact⟨8,by decide,rfl⟩
theorem Vs{d0 d1 d2 d3 d d5 x9:Option D}{z:Int×Int}{n:Int}{b:Nat}{a:Hm}{ms:List ((Int×Int)×Str)}(p:ms.length<=900)(g:a[b]?=b4 (.lst (ms.map MD))){R:Fl×aE×Hm->Prop}
  (H:∀(s:Str) n' x9 μ',(s="o"\/s="h"\/s="v")->a<+:μ'->R (.nx,[d0,d1,d2,d3,d,d5,b4 (PP z),b4 (.int n'),b4 (.loc b),x9],μ'.set b (.lst ((ms++[(z,s)]).map MD)))) :
  W (FY [d0,d1,d2,d3,d,d5,b4 (PP z),b4 (.int n),b4 (.loc b),x9] a) R:=by
 obtain⟨t,o,i⟩:=Vr (i:=n%3) (by omega);have q:0<=n/16%t/\n/16%t<t:=⟨Zh _ (by omega),YA _ (by omega)⟩;obtain⟨j,l⟩:∃j:Nat,n/16%t=j:=⟨(n/16%t).toNat,by omega⟩;obtain⟨s,m,h⟩:=Vq j (by omega);refine a9 (aW (bB (r:=(.int (n/16),a)) (by kernel_rfl) (aW (bB (r:=(.loc a.length,a++[C.lst ([3,4,8].map D.int)])) (by kernel_rfl) (bB (r:=(.int (n%3),a++[C.lst ([3,4,8].map D.int)])) (by kernel_rfl) ((f9 (bK _ _) i).mpr ((dW o.1).mpr ?_)))))));rw[l];have c:=aX a (C.lst ([3,4,8].map D.int));generalize a++[C.lst ([3,4,8].map D.int)]=μ1 at c ⊢;refine k7 (eW ⟨_,rfl,eX (aN c g),bJ (w_mTup.mpr (bJ ⟨_,rfl,bJ (aW (bB (r:=(.loc μ1.length,μ1++[C.lst (mkS.map D.str)])) (by kernel_rfl) ⟨_,rfl,(f9 (bK _ _) h).mpr ⟨_,rfl,k6,_,rfl,?_⟩⟩))⟩))⟩);have e:=aX μ1 (C.lst (mkS.map D.str));refine(iT (aN (c.trans e) g) (by rw[VI,V9];omega)).mpr (w_mSet.mpr (aW (aW (aW ⟨_,rfl,_,rfl,(kZ (.inr ⟨by decide,by decide⟩)).mpr ⟨_,rfl,w_addI.mpr ⟨_,rfl,(dW (by decide)).mpr ?_⟩⟩⟩))));rw[show ms.map MD++[D.tup [PP z,.str s]]=(ms++[(z,s)]).map MD by rw[Wz];rfl];exact H s _ _ _ m (c.trans e)
inductive MrI (d0 d1 d2 d3 d4 d5:Option D)(l b:Nat)(ν:Hm)(es:List (Int×Int)):Nat->aE->Hm->Prop
 |mk {i:Nat}{n:Int}{x6 x9:Option D}{μ:Hm}{ms:List ((Int×Int)×Str)}(p:ν<+:μ)(gl:μ[l]?=b4 (.lst (es.map PP)))(g:μ[b]?=b4 (.lst (ms.map MD)))(hm:ms.map (·.1)=es.take i)(ok:∀m∈ms,m.2="o"\/m.2="h"\/m.2="v"):MrI d0 d1 d2 d3 d4 d5 l b ν es i [d0,d1,d2,d3,d4,d5,x6,b4 (.int n),b4 (.loc b),x9] μ
theorem Hc(k:Nat){ns:List Int}{w h:Int}(hw:1<=w/\w<=6)(v:1<=h/\h<=6){es:List (Int×Int)}(A:es.Nodup)(r:∀p∈es,dA w h p)(G:es.length<=55){l:Nat}{b:Hm}(gl:b[l]?=b4 (.lst (es.map PP))){d2 d5 q:Option D}{R:Fl×aE×Hm->Prop}(H:∀S B μ',S.length<=55->R (.rt (SH w h S),B,μ')) :
  W (FZ (k+4) [b4 (.rol (ns.map D.int)),b4 (.int 0),d2,b4 (.tup [.int w,.int h]),b4 (.loc l),d5,q,b6,b6,b6] b) R:=by
 refine a9 (aW (aP rfl (pH (k+3) ns (by omega) _ _ ⟨_,rfl,(dW (by decide)).mpr (a9 ⟨_,rfl,?_⟩)⟩)));have o:=aX b (C.lst []);have I:l<b.length:=(VN.mp gl).1;refine eY (w_mForI.mpr (w_iSeq.mpr ⟨_,rfl,(dQ (aN o gl)).mpr ?_⟩));refine jP (MrI (b4 (.rol (ns.map D.int))) (b4 (.int 0)) d2 (b4 (.tup [.int w,.int h])) (b4 (.loc l)) d5 l b.length b es) (.mk (ms:=[]) o (aN o gl) (bK _ _) (by rw[Z6];rfl) (λ_ h=>nomatch h)) (by rintro _ _ _ ⟨_,g,_,_,_⟩;exact g) ?_ ?_
 ·rintro i d _ _ hd ⟨p,c,g,a,ok⟩;obtain⟨z,y,rfl⟩:=mV hd;rename_i n;have e:n.length<=900:=by have:=congrArg Xc a;rw[VI,WV]at this;omega
  refine⟨_,rfl,Vs e g λs J K μ' x j=>.mk (iD (p.trans j) (VS _) _) ?_ (eD (aN j g)) ?_ λm a=>?_⟩
  ·rw[Wl (by omega)];exact aN j c
  ·rw[Wz,a,vQ y];rfl
  ·rcases Xa.mp a with a|a
   ·exact ok m a
   ·rw[WL.mp a];exact x
 ·rintro _ _ ⟨p,c,g,a,ok⟩;rename_i n;rw[VI,XH]at a;have e:n.length=es.length:=by have:=congrArg Xc a;rw[VI]at this;exact this
  refine⟨rfl,cJ (aP rfl (Vp k hw v (by omega) (by rw[a];exact A) (λm u=>r _ (by rw[<- a];exact Wm.mpr ⟨m,u,rfl⟩)) ok g _ λS μ' j E=>H S _ _ (by omega)))⟩
theorem Vt{w h:Int}{es:List (Int×Int)}(m:es.Nodup)(i:∀p∈es,dA w h p)(u:es.length<=54){z:Int×Int}(hz:dA w h z){l:Nat}{d:Hm}(gl:d[l]?=b4 (.lst (es.map PP))){d0 d1 d2 d3 d5:Option D}{R:Fl×aE×Hm->Prop}(H:∀fs:List (Int×Int),fs.Nodup->(∀p∈fs,dA w h p)->fs.length<=55->R (.nx,[d0,d1,d2,d3,b4 (.loc l),d5,b4 (PP z),b6,b6,b6],d.set l (.lst (fs.map PP)))) :
  W (F0 [d0,d1,d2,d3,b4 (.loc l),d5,b4 (PP z),b6,b6,b6] d) R:=by
 refine w_mIfS.mpr (dR (bY rfl rfl ((Ba gl).mpr ⟨_,rfl,?_⟩)));cases b:es.any λp=>p==z with
 |true=>
  have c:z∈es:=by obtain⟨y,r,e⟩:=a0l.mp b;rw[<- beq_iff_eq.mp e];exact r
  exact(if_pos rfl).mpr (w_mDrop.mpr (eW ⟨_,rfl,eX gl,_,rfl,Uw gl c (by omega) λs n j=>H s (n.nodup m) (λp a=>i p (n.subset a)) (by omega)⟩))
 |false=>
  have o:z∉es:=λc=>by have:(es.any λp=>p==z)=true:=a0l.mpr ⟨z,c,beq_self_eq_true z⟩;rw[this]at b;cases b
  refine(if_neg VZ).mpr (w_mDrop.mpr (eW ⟨_,rfl,eX gl,_,rfl,(iT gl (by rw[VI,V9];omega)).mpr ?_⟩));rw[show es.map PP++[PP z]=(es++[z]).map PP by rw[Wz];rfl];refine H _ (a1d.mpr ⟨m,W4.mpr ⟨Yr,.nil⟩,λp a q j e=>o ?_⟩) (λp a=>?_) (by rw[V1];show _+1<=_;omega)
  ·rw[<- WL.mp j,<- e];exact a
  ·rcases Xa.mp a with a|a
   ·exact i p a
   ·rw[WL.mp a];exact hz
theorem Vu{w h:Int}(hw:1<=w)(a:1<=h):0<((cE w h).filter c6).length:=a2I (a:=(1,1)) (Xk.mpr ⟨mem_pl.mpr ⟨⟨by decide,by dsimp only;omega⟩,by decide,by dsimp only;omega⟩,by decide⟩)
theorem Hd(k:Nat){ns:List Int}{v w h:Int}(hw:1<=w/\w<=6)(e:1<=h/\h<=6){es:List (Int×Int)}(r:es.Nodup)(q:∀p∈es,dA w h p)(y:es.length<=54){l:Nat}{s:Hm}(gl:s[l]?=b4 (.lst (es.map PP))){R:Fl×aE×Hm->Prop}(H:∀S B μ',S.length<=55->R (.rt (SH w h S),B,μ')) :
  W (AU (k+4) [b4 (.rol (ns.map D.int)),b4 (.int 0),b4 (.int v),b4 (.tup [.int w,.int h]),b4 (.loc l),b6,b6,b6,b6,b6] s) R:=by
 refine a9 (aP rfl (G0 (k+2) hw e _ _ λa b A o=>?_));have E:=Vu hw.1 e.1;have c:=aN A gl;refine gD (b:=v/324%4==1) (μ':=b) (by kernel_rfl) (λ_=>rQ ?_) λ_=>eC (Hc k hw e r q (by omega) c H);have u:bH [.loc a] b=b4 (.int (((cE w h).filter c6).length:Nat),b):=bO ((dP o).mpr (by rw[VI]));obtain⟨j,x⟩:∃j:Nat,v/1296%(((cE w h).filter c6).length:Int)=j:=⟨(v/1296%(((cE w h).filter c6).length:Int)).toNat,by have:=Zh (v/1296) (b:=(((cE w h).filter c6).length:Int)) (by omega);omega⟩;have d:j<((cE w h).filter c6).length:=by have:=YA (v/1296) (b:=(((cE w h).filter c6).length:Int)) (by omega);omega
 refine a9 (aW ⟨_,rfl,aW (bB (r:=(.int (v/1296),b)) (by kernel_rfl) (aP rfl (bB u ((dW (by omega)).mpr ?_))))⟩);rw[x];refine⟨_,fH o d,?_⟩;have z:dA w h (((cE w h).filter c6).getD j (0,0)):=by unfold dA;rw[Yg,VT d];exact Yc d
 refine eY (Vt r q y z c λfs n i m=>⟨rfl,Hc k hw e n i m (eD c) H⟩)
noncomputable def Vv(k:Nat):MS:=aH (aL 4 (aF (f k "_law_creases") (aB (aA 0) (aB (aA 1) (aB (aA 3) aD))))) (aH (bG (fT (aS (aC (aY b7) (aC aV (aC cY (aA 2) (mC (.int 9))) (mC (.int 6))) (mC (.int 5)))) (aS (aC (aY b7) (aC aV (aC cY (aA 2) (mC (.int 5184))) (mC (.int 4))) (mC (.int 1))))) (aH (aL 3 (aU (aB (mC (.int 3)) (aB (mC (.int 3)) aD)))) (aL 4 (aF (f k "_law_square") aD))) bI) (AU k))
theorem Vx:∀p∈sqA++sqB,(decide (0<p.1/\p.1<4*3)&&decide (0<p.2/\p.2<4*3)&&c6 p)=true:=by decide
theorem He(k:Nat){ns:List Int}{w h:Int}(hw:1<=w/\w<=6)(d:1<=h/\h<=6)(n:dJ ns 0/9%6<3\/dJ ns 0/9%6=5->w<=3/\h<=3){s:Hm}{R:Fl×aE×Hm->Prop}(H:∀w h S b μ',1<=w/\w<=6->1<=h/\h<=6->S.length<=55->R (.rt (SH w h S),b,μ')) :
  W (Vv (k+6) [b4 (.rol (ns.map D.int)),b4 (.int 0),b4 (.int (dJ ns 0)),b4 (.tup [.int w,.int h]),b6,b6,b6,b6,b6,b6] s) R:=by
 refine a9 (aP rfl (Vi k ns hw d n _ _ λa e v x i r m o=>?_));refine gD (μ':=e) (Bm (pJ (b:=dJ ns 0/9%6==5) (by kernel_rfl)) (pJ (b:=dJ ns 0/5184%4==1) (by kernel_rfl))) (λ_=>rQ (a9 ⟨_,rfl,?_⟩)) λ_=>eC (Hd (k+2) hw d r m o i λS b μ' c=>H w h S b μ' hw d c);refine a9 (aP rfl (Uy (k+5) _ _ λl u y _ j=>Hd (k+2) (w:=3) (h:=3) (by decide) (by decide) sq_ok.1 (λp q=>?_) (by decide) j λS b μ' c=>H 3 3 S b μ' (by decide) (by decide) c));have:=Vx p q;simp only[VO,decide_eq_true_eq]at this;exact kF this.1.1 this.1.2 this.2
theorem Vy(k:Nat)(ns:List Int)(a:Hm)(Q:D×Hm->Prop)(H:∀w h S μ',1<=w/\w<=6->1<=h/\h<=6->S.length<=55->Q (SH w h S,μ')):W (f (k+7) "_law_sheet" [.rol (ns.map D.int),.int 0] a) Q:=by
 refine cI (SW (k+6) _ _ a) (a9 (aP rfl (pH (k+5) ns (by omega) _ _ ?_)));have i:0<=dJ ns 0%3/\dJ ns 0%3<3/\0<=dJ ns 0/3%3/\dJ ns 0/3%3<3:=by omega
 refine a9 (bB (r:=(.tup [.int (1+dJ ns 0%3),.int (1+dJ ns 0/3%3)],a)) (by kernel_rfl) ?_);refine gD (μ':=a) (Bm (pJ (rZ (x:=2) (y:=dJ ns 0/9%6) (z:=5) rfl (by kernel_rfl) rfl)) (pJ (b:=dJ ns 0/5184%4==1) (by kernel_rfl))) (λz=>?_) λz=>eC ?_
 ·simp only[VO,decide_eq_true_eq]at z;refine a9 (bB (r:=(.tup [.int (1+dJ ns 0%3+3),.int (1+dJ ns 0/3%3+3)],a)) (by kernel_rfl) ?_);exact He k (by omega) (by omega) (λy=>by omega) λw h S e μ' b c d=>H w h S μ' b c d
 ·exact He k (by omega) (by omega) (λy=>by omega) λw h S e μ' b c d=>H w h S μ' b c d
theorem Vz(k:Nat)(ns:List Int)(e:Hm):W (f (k+9) "law" [.rol (ns.map D.int)] e) λp=>p.1=.bl true:=by
 refine cI (S4 (k+8) _ e) (a9 (aP rfl (Vy (k+1) ns _ _ λw h S a hw b l=>?_)));refine bE (Uv k hw b (ms:=S) (d0:=b4 (.rol (ns.map D.int))) (by omega) (λj=>a4i (U2 hw b j) (by omega)) a) λp c=>?_;obtain⟨i,q⟩:=p;cases i with
 |rt d=>exact c|_=>exact c.elim
theorem VA:∀ns:List Int,ns.length<=63->∃μ',iC S ds 9 "law" [.rol (ns.map D.int)] []=b4 (.bl b8,μ'):=λns _=>by obtain⟨⟨d,μ'⟩,a,b⟩:=Vz 0 ns [];dsimp only at b;subst b;refine⟨μ',?_⟩;unfold f at a;exact a
end Lw
namespace Lw
open PySem L2 L3
theorem VB(Q:Xi):rM (Kx Q) "NoEdge" "edge":=Ax (K:=Kx Q) (x:="NoEdge") (a:="edge") (bn:="CreaseError") (qual:="NoEdge.__init__") (sf:="self") (ar:="edge") (st:=eZ 4 0) (s1:=(cL (eZ 4 0)).getD 0 (.Pass ⟨0,0,0,0⟩)) (s2:=(cL (eZ 4 0)).getD 1 (.Pass ⟨0,0,0,0⟩)) (by kernel_rfl) (by kernel_rfl) (by kernel_rfl) (by kernel_rfl) (by kernel_rfl) (by kernel_rfl) (by kernel_rfl) (by kernel_rfl) (by kernel_rfl) (λkV b c an a ct u v=>by kernel_rfl)
theorem VC(Q:Xi):rM (Kx Q) "Twice" "edge":=Ax (K:=Kx Q) (x:="Twice") (a:="edge") (bn:="CreaseError") (qual:="Twice.__init__") (sf:="self") (ar:="edge") (st:=eZ 5 0) (s1:=(cL (eZ 5 0)).getD 0 (.Pass ⟨0,0,0,0⟩)) (s2:=(cL (eZ 5 0)).getD 1 (.Pass ⟨0,0,0,0⟩)) (by kernel_rfl) (by kernel_rfl) (by kernel_rfl) (by kernel_rfl) (by kernel_rfl) (by kernel_rfl) (by kernel_rfl) (by kernel_rfl) (by kernel_rfl) (λkV b c an a ct u v=>by kernel_rfl)
theorem VD(Q:Xi):rM (Kx Q) "Barred" "corner":=Ax (K:=Kx Q) (x:="Barred") (a:="corner") (bn:="CreaseError") (qual:="Barred.__init__") (sf:="self") (ar:="corner") (st:=eZ 6 0) (s1:=(cL (eZ 6 0)).getD 0 (.Pass ⟨0,0,0,0⟩)) (s2:=(cL (eZ 6 0)).getD 1 (.Pass ⟨0,0,0,0⟩)) (by kernel_rfl) (by kernel_rfl) (by kernel_rfl) (by kernel_rfl) (by kernel_rfl) (by kernel_rfl) (by kernel_rfl) (by kernel_rfl) (by kernel_rfl) (λkV b c an a ct u v=>by kernel_rfl)
theorem xz(Q:Xi):XcOk S (Kx Q):=Ro (by kernel_rfl) (by kernel_rfl) (by kernel_rfl) (by kernel_rfl) (by kernel_rfl) (a0G.mpr ⟨VB Q,a0G.mpr ⟨VC Q,a0G.mpr ⟨VD Q,λ_ z=>nomatch z⟩⟩⟩)
theorem dz(Q:Xi):uU (Kx Q) ds:=by unfold uU;kernel_rfl
theorem cz(Q:Xi):Fy (Kx Q) S.con=true:=by kernel_rfl
theorem nz(Q:Xi):S.no.map (W0 (Kx Q) WD)=S.no.map λ_=>b4 none:=by kernel_rfl
theorem VE{P:V6}{w:Wj}{Q:Xi}
  {h:WI}{a:Str → Option Value}(X:(Kx Q).In h)(G:h.Ns WD a):TxtOk P w (Kx Q) a S ds ∧ ∃f b,Fun (Kx Q) "law" "law" (aJ 70) f b ∧ a "law"=b4 (.ref f) ∧ ∀(s:VL)(u:Value),a1U s b ⟨[u],[]⟩ [("_law_script",u)]:=by
 refine⟨⟨Ra (by decide +kernel),Rb λp c=>(Fv X G (dz Q) p c).1,Rc (Rj X G (cz Q)),λx d e=>?_,Rf (Ri X G (nz Q)),xz Q⟩,Rh X G (dz Q) (by kernel_rfl) (by kernel_rfl)⟩
 ·cases e
end Lw
open PySem PySem.W PyProof.Rows
set_option maxRecDepth 100000 in
set_option maxHeartbeats 0 in
theorem PySem.Challenge.cw_creasecourt_k51_ties_told_holds : PySem.Challenge.rw_creasecourt_k51_ties_told.Holds := by
 w_on
 refine holds_law (by decide +kernel) fun a=>?_
 refine holds_open (q:=Lw.Vw) (loose:=[]) (Xt:=fun s=>xlAt Lw.Vw [] s&&recOk (a5w (a4h (W2 VP))) s) (XP:=XL Lw.Vw []) (Yf:=Hook.obs (a6C Lw.Kx Lw.As Lw.pT)) (Ya:=Hook.val (a6C Lw.Kx Lw.As Lw.pT)) (YP:=Hook.says (a6C Lw.Kx Lw.As Lw.pT)) (N:=6452) Lw.run (Hook.of _) (Hook.keeps _) (fun s e=>xl_of s (Ym.mp e).1) XL.keeps (by rfl) (by rfl) (by rfl) (fun s e=>recFacts_of (Ym.mp e).2) (by rfl) (by first|assumption|decide +kernel) (by decide +kernel) ⟨rfl,rfl,rfl,rfl,rfl,by decide +kernel⟩ ?hw ?hc
 case hw=>w_witness2
 k_fill
 refine L3.walkM (l:=VP) (S:=Lw.S) (ds:=Lw.ds) (k:=9) (st:=Lw.aJ 70) (x:="_law_script") rfl rfl ⟨rfl,by decide,by decide⟩ (fun w h Y=>PySem.W.kIn_of Y) (by kernel_rfl) (by kernel_rfl) ?F (fun c h _=>Lw.VA c h)
 case F=>
  intro w d h b G
  refine' Lw.VE (P:=Xe) (w:=w)  b G
